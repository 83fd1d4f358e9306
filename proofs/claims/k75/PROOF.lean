import PyProof.Rows.All
import Wide.All
import OpenK.AllK
import Wide.FinOn
import Lean
import PyProof.EqAt
import PyProof.EqKinds
import PyProof.TupleCall
import PyProof.NeKinds
import KE.KRevIter
import KE.KSortTup
import Wide.Txt2
import PyProof.FString4
import KE.KIntText
import PyProof.ZipIter
import PyProof.TupleIter
import PyProof.WalksMore
import PyProof.Rows.SortShell
import KE.KDictSum
import PyProof.Rows.SortStr
import PyProof.Rows.SetFrom
import PyProof.DictUpdate
import KE.KDictOf
import PyProof.AttrMissSeq
import KE.KDictList
import KE.KDictIter
import PyProof.Rows.SortWalk
import PyProof.EnumMake
import PyProof.EnumFor
import PyProof.Rows.EnumRows
import PyProof.Rows.CallKw2
import PyProof.Draws
import PyProof.MeetsSeq
import KE.KIsAll
import PyProof.ExcArgsOwn
import PyProof.ExcAttrAll.ValueError
import OpenK.KDescr
import PyProof.ExcInit
import PyProof.ExcClass2
import PyProof.InstStoreFacts
import PyProof.StationsW
import OpenK.KMake
import OpenK.KOwn
import KE.KTryMore
import OpenK.KRaise
import PyProof.RulesDel
import PyProof.RulesAs
import PyProof.Rows.Catch
import PySem.Challenge.RW_flagroll_k75_whole_seen_in_time
namespace L2
theorem zE:type_of% @PySem.Expr.casesOn.{0}:=@PySem.Expr.casesOn.{0}
theorem zS:type_of% @PySem.Stmt.casesOn.{0}:=@PySem.Stmt.casesOn.{0}
theorem zL:type_of% @List.casesOn.{0,0}:=@List.casesOn.{0,0}
theorem zO:type_of% @Option.casesOn.{0,0}:=@Option.casesOn.{0,0}
theorem zB:type_of% @Bool.casesOn.{0}:=@Bool.casesOn.{0}
end L2
set_option maxHeartbeats 8000000
set_option Elab.async false
set_option linter.all false
set_option maxRecDepth 100000
namespace L2
open PySem PySem.Spec PyProof.Rows
noncomputable abbrev Key:=Sum Int Str
noncomputable def jJ:Key->Value->Bool
 | .inl k,v=>Value.isInt k v
 | .inr x,v=>Value.isStrOf x v
noncomputable def CN (w:World):Key->Int
 | .inl k=>hashInt k
 | .inr x=>hashStr w x
theorem dj:∀ {k:Key}{v:Value},jJ k v=true->(∃ i t,k=Sum.inl i/\v=Value.int i t)∨(∃ x t,k=Sum.inr x/\v=Value.str x t)
 | .inl i,v,h=>by obtain⟨t,e⟩:=Value.isInt_shape (k:=i) (v:=v) h;exact .inl ⟨i,t,rfl,e⟩
 | .inr x,v,h=>by obtain⟨t,e⟩:=Value.isStrOf_shape (x:=x) (v:=v) h;exact .inr ⟨x,t,rfl,e⟩
theorem ph (i:Int)(t:Tok):jJ (.inl i) (.int i t)=true:=by simp[jJ,Value.isInt]
theorem pj (x:Str)(t:Tok):jJ (.inr x) (.str x t)=true:=by simp[jJ,Value.isStrOf]
theorem xB (a b:Int):decide ((Sum.inl a:Key)=Sum.inl b)=(a == b):=by
 by_cases e:a=b
 ·subst e;simp
 ·have h:¬ (Sum.inl a:Key)=Sum.inl b:=fun q=>e (Sum.inl.inj q);rw[decide_eq_false h];exact(beq_eq_false_iff_ne.mpr e).symm
theorem xC (a b:Str):decide ((Sum.inr a:Key)=Sum.inr b)=decide (a=b):=by
 by_cases e:a=b
 ·subst e;simp
 ·have h:¬ (Sum.inr a:Key)=Sum.inr b:=fun q=>e (Sum.inr.inj q);rw[decide_eq_false h,decide_eq_false e]
theorem xD (a:Int)(b:Str):decide ((Sum.inl a:Key)=Sum.inr b)=false:=decide_eq_false (fun q=>nomatch q)
theorem xE (a:Str)(b:Int):decide ((Sum.inr a:Key)=Sum.inl b)=false:=decide_eq_false (fun q=>nomatch q)
noncomputable def dq (prog:Program)(w:World):PySem.KeyKind prog w Key where
 is:=jJ
 hash:=CN w
 inj:=fun v a b ha hb=>by
  rcases dj ha with ⟨i,t,rfl,rfl⟩|⟨x,t,rfl,rfl⟩
  ·rcases dj hb with ⟨j,u,rfl,e⟩|⟨y,u,rfl,e⟩
   ·injection e with e1 _;rw[e1]
   ·exact nomatch e
  ·rcases dj hb with ⟨j,u,rfl,e⟩|⟨y,u,rfl,e⟩
   ·exact nomatch e
   ·injection e with e1 _;rw[e1]
 byValue:=fun k v h=>by rcases dj h with ⟨i,t,rfl,rfl⟩|⟨x,t,rfl,rfl⟩<;>rfl
 pyHash:=fun hv h=>by
  rcases dj hv with ⟨i,t,rfl,rfl⟩|⟨x,t,rfl,rfl⟩
  ·exact wpAny_pyHash_int h
  ·exact wpAny_pyHash_str h
 eqBool:=fun hu hv h=>by
  rcases dj hu with ⟨i,t,rfl,rfl⟩|⟨x,t,rfl,rfl⟩
  ·rcases dj hv with ⟨j,u,rfl,rfl⟩|⟨y,u,rfl,rfl⟩
   ·rw[xB] at h;exact wpAny_eqBool_int h
   ·rw[xD] at h;exact SeqAt.EqAt.int_str i t y u _ _ _ _ h
  ·rcases dj hv with ⟨j,u,rfl,rfl⟩|⟨y,u,rfl,rfl⟩
   ·rw[xE] at h;exact SeqAt.EqAt.str_int x t j u _ _ _ _ h
   ·rw[xC] at h;exact wpAny_eqBool_str h
 «strs»:=fun k x t v h=>by
  rcases dj h with ⟨i,u,rfl,e⟩|⟨y,u,rfl,e⟩
  ·exact nomatch e
  ·injection e with e1 _;subst e1;cases v<;>rfl
theorem kU (prog:Program)(w:World)(i:Int)(t:Tok):(dq prog w).is (.inl i) (.int i t)=true:=ph i t
theorem kW (prog:Program)(w:World)(x:Str)(t:Tok):(dq prog w).is (.inr x) (.str x t)=true:=pj x t
inductive V where
 | non|bl (b:Bool)|int (i:Int)|str (x:Str)|byt (b:Array UInt8)|flt (b:UInt64)|ref (a:Addr)|ty (n:String)
 deriving DecidableEq
noncomputable def RelV:V->Value->Prop
 | .non,u=>u=Value.none
 | .bl b,u=>u=Value.bool b
 | .int i,u=>∃ t,u=Value.int i t
 | .str x,u=>∃ t,u=Value.str x t
 | .byt b,u=>∃ t,u=Value.bytes b t
 | .flt b,u=>∃ t,u=Value.float b t
 | .ref a,u=>u=Value.ref a
 | .ty n,u=>u=Value.type n
abbrev Vals:List V->List Value->Prop:=Paired RelV
theorem Vals.length {xs:List V}{us:List Value}(r:Vals xs us):xs.length=us.length:=Paired.length r
theorem Vals.get:∀ {xs:List V}{us:List Value}{i:Nat}{x:V},Vals xs us->xs[i]? = some x->∃ u,us[i]? = some u/\RelV x u
 | _,_,_,_,.nil,e=>by simp at e
 | _,_,0,_,.cons r _,e=>by simp at e;subst e;exact⟨_,rfl,r⟩
 | _,_,i+1,x,.cons _ t,e=>by obtain⟨u,h1,h2⟩:=Vals.get (i:=i) (x:=x) t (by simpa using e);exact⟨u,by simpa using h1,h2⟩
theorem Vals.append:∀ {xs ys:List V}{us ws:List Value},Vals xs us->Vals ys ws->Vals (xs++ys) (us++ws)
 | _,_,_,_,.nil,s=>s
 | _,_,_,_,.cons r t,s=>.cons r (Vals.append t s)
theorem Vals.take:∀ {xs:List V}{us:List Value} (n:Nat),Vals xs us->Vals (xs.take n) (us.take n)
 | _,_,0,_=>.nil
 | _,_,_+1,.nil=>.nil
 | _,_,n+1,.cons r t=>.cons r (Vals.take n t)
theorem Vals.drop:∀ {xs:List V}{us:List Value} (n:Nat),Vals xs us->Vals (xs.drop n) (us.drop n)
 | _,_,0,r=>r
 | _,_,_+1,.nil=>.nil
 | _,_,n+1,.cons _ t=>Vals.drop n t
noncomputable def gp:Option V->Option Value->Prop
 | some v,some u=>RelV v u
 | none,none=>True
 | _,_=>False
def KV {κ:Type}:List (κ×V)->List (κ×Value)->Prop:=Paired fun (p:κ×V) (q:κ×Value)=>p.1=q.1/\RelV p.2 q.2
noncomputable def kV:Key->V
 | .inl i=>.int i
 | .inr x=>.str x
inductive HO where
 | lst (xs:List V)
 | tup (xs:List V)
 | dK (kvs:List (Key×V))|dT (kvs:List (List Key×V))
 | set (S:Int->Bool) (n:Nat)
 | ins (C dx:Addr) (fs:List (Str×V))
 | own (x:Addr)
 | xd (fs:List (Str×V))
 | met (f x:Addr)
 | rng (lo hi:Int)
 | frz (o:Obj) (u:HO)
 | tbl (ps:Array Value)
 | ext (φ:Heap->Prop)
noncomputable abbrev Hp:=Addr->Option HO
noncomputable def upd (H:Hp)(a:Addr)(o:HO):Hp:=fun b=>if b=a then some o else H b
theorem cP {H:Hp}{a:Addr}{o:HO}:upd H a o a=some o:=by unfold upd;rw[if_pos rfl]
theorem cG {H:Hp}{a b:Addr}{o:HO}(h:b≠a):upd H a o b=H b:=by unfold upd;rw[if_neg h]
theorem Ab {H:Hp}{a b:Addr}{o u:HO}(h:H a=some o)(h':H b=some u)(d:o≠u):a≠b:=by intro e;subst e;rw[h] at h';exact d (Option.some.inj h')
theorem cY {H:Hp}{a b:Addr}{o:HO}(h:H a=some o)(h':H b=none):a≠b:=by intro e;subst e;rw[h] at h';cases h'
section
variable (P:Program)(w:World)
noncomputable def du (H:Hp)(h:Heap)(a:Addr):HO->Prop
 | .lst xs=>xs.length<=sizeLine/\∃ (its:List Value) (n:Nat),Vals xs its/\h.get? a=some {cls:=.type "list",data:=.seq its.toArray n}
 | .tup xs=>xs.length<=sizeLine/\∃ its:List Value,Vals xs its/\IsTup h a its.toArray
 | .dK kvs=>kvs.length<=sizeLine/\(a == sysModules)=false/\∃ vs,KV kvs vs/\h.DictOf (dq P w) a vs
 | .dT kvs=>kvs.length<=sizeLine/\(a == sysModules)=false/\∃ xs:List (List Key×Addr×Value),
   Paired (fun (p:List Key×V) (q:List Key×Addr×Value)=>p.1=q.1/\H q.2.1=some (.tup (p.1.map kV))/\RelV p.2 q.2.2) kvs xs/\
   ∃ o es ep,h.get? a=some o/\o.ExactDict/\o.data=.dict es ep/\es.toList=xs.map (entryOfKey (tupleKind (dq P w)))/\(xs.map (·.1)).Nodup
 | .set S n=>h.SetOf (intKind P w) a S n
 | .ins C dx fs=>H dx=some (.own a)/\fs.length<=1000/\dx≠a/\h.get? a=some (PySem.W.instObj C dx)/\
   ∃ mA,h.Ns1 dx mA/\(∀ f,gp (fs.lookup f) (mA f))/\PySem.Within mA (fs.map (·.1))
 | .own _=>∃ o,h.get? a=some o
 | .xd fs=>∃ mA,h.Ns1 a mA/\∀ f,gp (fs.lookup f) (mA f)
 | .rng lo hi=>∃ t u v,h.get? a=some {cls:=.type "range",data:=.fields #[.int lo t,.int hi u,.int 1 v]}
 | .frz o u=>h.get? a=some o/\du H h a u
 | .tbl ps=>h.get? a=some {cls:=.none,data:=.fields ps}
 | .met f x=>h.get? a=some (PySem.W.methodObj (.ref f) (.ref x))
 | .ext φ=>φ h/\(∃ o,h.get? a=some o)/\∀ h1 h2:Heap,φ h1->(∀ o,h1.get? a=some o->h2.get? a=some o)->φ h2
def HOk (H:Hp)(h:Heap):Prop:=∀ a o,H a=some o->du P w H h a o
end
section
variable {P:Program}{w:World}{H H':Hp}{h h':Heap}{a:Addr}{o:HO}
theorem du.lt (x:du P w H h a o):a < h.objs.size:=by
 cases o with
 | lst xs=>obtain⟨_,_,_,_,e⟩:=x;exact Heap.lt_size e
 | tup xs=>obtain⟨_,_,_,p⟩:=x;exact p.lt
 | dK kvs=>obtain⟨_,_,_,_,o,_,_,e,_⟩:=x;exact Heap.lt_size e
 | dT kvs=>obtain⟨_,_,_,_,o,_,_,e,_⟩:=x;exact Heap.lt_size e
 | set S n=>obtain⟨o,_,_,_,e,_⟩:=x;exact Heap.lt_size e
 | ins C dx fs=>obtain⟨_,_,_,e,_⟩:=x;exact Heap.lt_size e
 | own y=>obtain⟨_,e⟩:=x;exact Heap.lt_size e
 | xd fs=>obtain⟨_,⟨_,_,_,e,_⟩,_⟩:=x;exact Heap.lt_size e
 | rng lo hi=>obtain⟨_,_,_,e⟩:=x;exact Heap.lt_size e
 | frz ob u=>obtain⟨e,_⟩:=x;exact Heap.lt_size e
 | tbl ps=>exact Heap.lt_size (show h.get? a=some _ from x)
 | met f y=>exact Heap.lt_size (show h.get? a=some _ from x)
 | ext φ=>obtain⟨_,⟨_,e⟩,_⟩:=x;exact Heap.lt_size e
theorem Paired.mapP {α β:Type}{F G:α->β->Prop}:∀ {l₁:List α}{l₂:List β},Paired F l₁ l₂->(∀ a b,F a b->G a b)->Paired G l₁ l₂
 | _,_,.nil,_=>.nil
 | _,_,.cons r t,f=>.cons (f _ _ r) (Paired.mapP t f)
theorem du.stay (x:du P w H h a o)(k:∀ b u,(b=a∨H b=some (.own a))->h.get? b=some u->h'.get? b=some u)
  (ho:∀ b,H b=some (.own a)->H' b=some (.own a)) (ht:∀ b xs,H b=some (.tup xs)->H' b=some (.tup xs)):du P w H' h' a o:=by
 induction o with
 | lst xs=>obtain⟨z,its,n,r,e⟩:=x;exact⟨z,its,n,r,k _ _ (.inl rfl) e⟩
 | tup xs=>obtain⟨z,its,r,ob,e,c⟩:=x;exact⟨z,its,r,ob,k _ _ (.inl rfl) e,c⟩
 | dK kvs=>obtain⟨z,y,vs,r,ob,es,ep,e,c⟩:=x;exact⟨z,y,vs,r,ob,es,ep,k _ _ (.inl rfl) e,c⟩
 | dT kvs=>obtain⟨z,y,xs,r,ob,es,ep,e,c⟩:=x;exact⟨z,y,xs,Paired.mapP r fun p q z=>⟨z.1,ht _ _ z.2.1,z.2.2⟩,ob,es,ep,k _ _ (.inl rfl) e,c⟩
 | set S n=>obtain⟨ob,es,ep,t,e,c⟩:=x;exact⟨ob,es,ep,t,k _ _ (.inl rfl) e,c⟩
 | ins C dx fs=>obtain⟨d,z,ne,e,mA,⟨od,es,ep,e2,c⟩,r⟩:=x;exact⟨ho _ d,z,ne,k _ _ (.inl rfl) e,mA,⟨od,es,ep,k _ _ (.inr d) e2,c⟩,r⟩
 | own y=>obtain⟨ob,e⟩:=x;exact⟨ob,k _ _ (.inl rfl) e⟩
 | xd fs=>obtain⟨mA,⟨od,es,ep,e,c⟩,r⟩:=x;exact⟨mA,⟨od,es,ep,k _ _ (.inl rfl) e,c⟩,r⟩
 | rng lo hi=>obtain⟨t,u,v,e⟩:=x;exact⟨t,u,v,k _ _ (.inl rfl) e⟩
 | frz ob u ih=>obtain⟨e,q⟩:=x;exact⟨k _ _ (.inl rfl) e,ih q⟩
 | tbl ps=>have e:h.get? a=some {cls:=.none,data:=.fields ps}:=x;show h'.get? a=some {cls:=.none,data:=.fields ps};exact k a _ (.inl rfl) e
 | met f y=>have e:h.get? a=some (PySem.W.methodObj (.ref f) (.ref y)):=x;show h'.get? a=some (PySem.W.methodObj (.ref f) (.ref y));exact k a _ (.inl rfl) e
 | ext φ=>obtain⟨p,⟨o,e⟩,st⟩:=x;exact⟨st _ _ p fun o q=>k _ _ (.inl rfl) q,⟨o,k _ _ (.inl rfl) e⟩,st⟩
theorem HOk.lt (x:HOk P w H h)(e:H a=some o):a < h.objs.size:=(x a o e).lt
theorem HOk.fresh (x:HOk P w H h)(e:h.objs.size<=a):H a=none:=by
 cases q:H a with
 | none=>rfl
 | some u=>exact absurd (Nat.lt_of_lt_of_le (x.lt q) e) (Nat.lt_irrefl _)
theorem HOk.kept (x:HOk P w H h)(k:∀ b u,h.get? b=some u->h'.get? b=some u):HOk P w H h':=fun a o e=>
 (x a o e).stay (fun b u _ q=>k b u q) (fun _ q=>q) fun _ _ q=>q
theorem HOk.laid (x:HOk P w H h)(k:∀ b u,h.get? b=some u->h'.get? b=some u)(hp:h.objs.size<=a)(new:du P w (upd H a o) h' a o):HOk P w (upd H a o) h':=fun b u e=>by
 have hn:=x.fresh hp;by_cases hb:b=a
 ·subst hb;rw[cP] at e;cases e;exact new
 ·rw[cG hb] at e;exact(x b u e).stay (fun c v _ q=>k c v q) (fun c q=>by rw[cG (cY q hn)];exact q) fun c xs q=>by rw[cG (cY q hn)];exact q
end
def Rd (H:Hp)(a:Addr)(u:HO):Prop:=H a=some u∨∃ o,H a=some (.frz o u)
theorem Rd.ok {P:Program}{w:World}{H:Hp}{h:Heap}{a:Addr}{u:HO}(r:Rd H a u)(x:HOk P w H h):du P w H h a u:=by
 rcases r with r|⟨o,r⟩
 ·exact x a u r
 ·obtain⟨_,q⟩:=x a _ r;exact q
noncomputable def Mut:Option HO->Prop
 | some (.lst _)=>True
 | some (.dK _)=>True
 | some (.dT _)=>True
 | some (.set _ _)=>True
 | some (.ins _ _ _)=>True
 | some (.ext _)=>True
 | _=>False
section
variable {P:Program}{w:World}{H:Hp}{h h':Heap}{x e:Addr}{o':HO}
theorem HOk.write (ok:HOk P w H h)(mu:Mut (H x))(he:e=x∨H e=some (.own x))(k:∀ b u,b≠e->h.get? b=some u->h'.get? b=some u)(heo:∃ u,h'.get? e=some u)
  (new:du P w (upd H x o') h' x o'):HOk P w (upd H x o') h':=fun b u q=>by
 have gM:∀ c y,H c=some (.own y)->c≠x:=fun c y r z=>by subst z;rw[r] at mu;exact mu
 have ntup:∀ c xs,H c=some (.tup xs)->c≠x:=fun c xs r z=>by subst z;rw[r] at mu;exact mu
 by_cases hb:b=x
 ·subst hb;rw[cP] at q;cases q;exact new
 ·rw[cG hb] at q;by_cases hbe:b=e
  ·have q':H b=some (.own x):=by
    rcases he with z|z
    ·exact absurd (hbe.trans z) hb
    ·rw[hbe];exact z
   rw[q] at q';cases q';obtain⟨v,hv⟩:=heo;exact⟨v,by rw[hbe];exact hv⟩
  ·refine(ok b u q).stay (fun c v hc r=>k c v ?_ r) (fun c r=>by rw[cG (gM c b r)];exact r) fun c xs r=>by rw[cG (ntup c xs r)];exact r
   rcases hc with rfl|hc
   ·exact hbe
   ·rintro rfl;rcases he with z|z
    ·exact gM c b hc z
    ·rw[hc] at z;cases z;exact hb rfl
end
structure Un (fs ex:List Addr)(H H':Hp)(h h':Heap):Prop where
 keep:∀ b o,h.get? b=some o->H b=none->b∉fs->b∉ex->h'.get? b=some o
 slot:∀ b o,h.get? b=some o->H b=none->b∈fs->b∉ex->∃ sl,h'.get? b=some {o with slots:=sl}
 free:∀ b o,h.get? b=some o->H b=none->b∉ex->H' b=none
 there:∀ b o,h.get? b=some o->b∉ex->∃ o',h'.get? b=some o'
 tups:∀ b xs,H b=some (.tup xs)->H' b=some (.tup xs)
 frzs:∀ b o u,H b=some (.frz o u)->H' b=some (.frz o u)
 tbls:∀ b ps,H b=some (.tbl ps)->∃ more,H' b=some (.tbl (ps++more))
section
variable {fs fs' ex ex':List Addr}{H H1 H2:Hp}{h h1 h2 h':Heap}{a x e:Addr}{o:HO}
theorem Un.any (u:Un fs ex H H1 h h1){b:Addr}{ob:Obj}(q:h.get? b=some ob)(n:H b=none)(hx:b∉ex):∃ sl,h1.get? b=some {ob with slots:=sl}:=by
 by_cases hb:b∈fs
 ·exact u.slot b ob q n hb hx
 ·exact⟨ob.slots,u.keep b ob q n hb hx⟩
theorem Un.kept (k:∀ b u,h.get? b=some u->h'.get? b=some u):Un fs ex H H h h':=
 ⟨fun b ob q _ _ _=>k b ob q,fun b ob q _ _ _=>⟨ob.slots,k b ob q⟩,fun _ _ _ n _=>n,fun b ob q _=>⟨ob,k b ob q⟩,fun _ _ q=>q,fun _ _ _ q=>q,fun _ ps q=>⟨#[],by rw[q];simp⟩⟩
theorem Un.refl:Un fs ex H H h h:=Un.kept fun _ _ q=>q
theorem Un.laid (k:∀ b u,h.get? b=some u->h'.get? b=some u)(hp:h.objs.size<=a)(hn:H a=none):Un fs ex H (upd H a o) h h' where
 keep:=fun b u q _ _ _=>k b u q
 slot:=fun b u q _ _ _=>⟨u.slots,k b u q⟩
 free:=fun b u q n _=>by rw[cG (Nat.ne_of_lt (Nat.lt_of_lt_of_le (Heap.lt_size q) hp))];exact n
 there:=fun b u q _=>⟨u,k b u q⟩
 tups:=fun b xs q=>by rw[cG (cY q hn)];exact q
 frzs:=fun b u xs q=>by rw[cG (cY q hn)];exact q
 tbls:=fun b ps q=>⟨#[],by rw[cG (cY q hn),q];simp⟩
theorem Un.write (mu:Mut (H x))(he:e=x∨H e=some (.own x))(k:∀ b u,b≠e->h.get? b=some u->h'.get? b=some u)(heo:∃ u,h'.get? e=some u):Un fs ex H (upd H x o) h h':=by
 have hx:∀ b,H b=none->b≠x:=fun b n z=>by subst z;rw[n] at mu;exact mu
 have hb:∀ b,H b=none->b≠e:=fun b n z=>by
  subst z;rcases he with r|r
  ·exact hx b n r
  ·rw[n] at r;cases r
 have hm:∀ b u,H b=some u->¬ Mut (some u)->b≠x:=fun b u q nm z=>by subst z;rw[q] at mu;exact nm mu
 refine⟨fun b u q n _ _=>k b u (hb b n) q,fun b u q n _ _=>⟨u.slots,k b u (hb b n) q⟩,fun b u q n _=>by rw[cG (hx b n)];exact n,fun b u q _=>?_,
  fun b xs q=>by rw[cG (hm b _ q fun z=>z)];exact q,fun b u xs q=>by rw[cG (hm b _ q fun z=>z)];exact q,fun b ps q=>⟨#[],by rw[cG (hm b _ q fun z=>z),q];simp⟩⟩
 by_cases hbe:b=e
 ·subst hbe;exact heo
 ·exact⟨u,k b u hbe q⟩
end
noncomputable def trk (h:Heap)(H:Hp):List Addr:=(List.range h.objs.size).filter fun a=>(H a).isSome
noncomputable def km (h:Heap)(H:Hp):Heap:=PySem.W.hideAll h (trk h H)
theorem pk (h:Heap)(H:Hp):(km h H).objs.size=h.objs.size:=PySem.W.hideAll_size _ _
theorem qa {h:Heap}{H:Hp}{b:Addr}{o:Obj}(e:h.get? b=some o)(n:H b=none):(km h H).get? b=some o:=
 PySem.W.hideAll_get _ e fun hm=>by have q:(H b).isSome=true:=(List.mem_filter.mp hm).2;rw[n] at q;simp at q
theorem tU {h:Heap}{H:Hp}{b:Addr}{o:Obj}(e:(km h H).get? b=some o):h.get? b=some o/\H b=none:=by
 have e':h.get? b=some o:=PySem.W.of_hideAll (trk h H) e;refine⟨e',?_⟩;cases q:H b with
 | none=>rfl
 | some x=>have hm:b∈trk h H:=List.mem_filter.mpr ⟨List.mem_range.mpr (Heap.lt_size e'),by simp[q]⟩;have z:(km h H).get? b=none:=PySem.W.hideAll_none (trk h H) hm;rw[z] at e;cases e
structure Mod (K:PySem.W.Frag)(mg:Str->Option Value)(base:Heap):Prop where
 kin:K.In base
 glob:base.Ns mainGlobals mg
 blt:∃ mb,base.Ns builtinsNs mb/\∀ x:Str,x≠"__name__"->mb x=bootBuiltins x
 nolimit:base.NoLimit
structure Cx where
 prog:Program
 w:World
 K:PySem.W.Frag
 mg:Str->Option Value
 base:Heap
 A:Around
 N:List Str
 s₀:Shared
 H₀:Hp
 env:Env
 outer:List Env
 stack:List Env
 ex:List Addr
 fn:Str->Bool
 calm:Bool
 pn:List (Addr×Obj)
 xe:Value->Shared->Prop
noncomputable def frs (l:List Env):List Addr:=l.filterMap (·.frame)
noncomputable abbrev Cx.fs (X:Cx):List Addr:=frs X.outer
def Vis (sc:Scope)(x:Str):Prop:=sc.names.lookup x=some .local∨sc.names.lookup x=some .cell∨sc.names.lookup x=some .free
def Loc (sc:Scope)(x:Str):Prop:=sc.names.lookup x=some .local∨sc.names.lookup x=some .cell
def Look (env:Env)(h:Heap)(m:Str->Option Value)(x:Str)(u:Value):Prop:=
 (env.kindOf x=some .local/\m x=some u)∨((env.kindOf x=some .cell∨env.kindOf x=some .free)/\∃ c,env.cells.lookup x=some c/\h.IsCell c (some u))
structure Cx.Ok (X:Cx):Prop where
 mod:Mod X.K X.mg X.base
 kind:X.env.scope.kind=.function
 glob:X.env.globals=mainGlobals
 blt:X.env.builtins=builtinsNs
 above:X.s₀.heap.objs.size<=X.env.locals
 inj:∀ x y c,X.env.cells.lookup x=some c->X.env.cells.lookup y=some c->x=y
 has:∀ x,(X.env.kindOf x=some .cell∨X.env.kindOf x=some .free)->∃ c,X.env.cells.lookup x=some c
 cab:∀ x c,X.fn x=true->X.env.cells.lookup x=some c->X.s₀.heap.objs.size<=c
 hd:X.calm=true->X.A.handled=none
 frames:X.A.frames=some X.stack
 stk:X.stack=X.outer∨(X.stack=X.env::X.outer/\X.env.frame=some X.env.locals)
 exf:∀ b∈X.ex,b≠X.env.locals/\∀ x c,X.env.cells.lookup x=some c->c≠b
 bs:∀ b o,X.base.get? b=some o->X.s₀.heap.get? b=some o/\X.H₀ b=none
 bsz:X.base.objs.size<=X.s₀.heap.objs.size
 noex:∀ b o,X.base.get? b=some o->b∉X.ex
 exfs:∀ b∈X.ex,b∉X.fs
 funs:X.s₀.heap.FunFrames X.base X.outer
 frf:∀ b∈X.fs,X.H₀ b=none
structure Inv (X:Cx)(pins:List (Addr×Obj))(σ:List (Option V))(H:Hp)(s:Shared):Prop where
 ok:X.Ok
 os:s.os=X.s₀.os
 bare:AllBare s.gens
 base:Un X.fs X.ex X.H₀ H X.s₀.heap s.heap
 loc:∃ m,s.heap.Ns X.env.locals m/\∀ (i:Nat) (x:Str) (v:V),X.N[i]? = some x->σ[i]? = some (some v)->Vis X.env.scope x->∃ u,RelV v u/\Look X.env s.heap m x u
 cell:∀ x c,X.env.cells.lookup x=some c->∃ v,s.heap.IsCell c v
 free:H X.env.locals=none
 freeC:∀ x c,X.env.cells.lookup x=some c->H c=none
 pin:∀ p∈X.pn++pins,s.heap.get? p.1=some p.2/\H p.1=none/\p.1≠X.env.locals/\p.1∉X.fs/\∀ v,p.2.data≠.cell v
 hok:HOk X.prog X.w H s.heap
 len:σ.length=X.N.length
section
variable {X:Cx}{pins:List (Addr×Obj)}{σ:List (Option V)}{H H':Hp}{s:Shared}{h':Heap}
theorem Cx.Ok.nofr (ok:X.Ok){b:Addr}{o:Obj}(e:X.base.get? b=some o):b∉X.fs:=fun hb=>by have:=(ok.funs.mem hb).1;rw[e] at this;cases this
theorem Inv.bs (I:Inv X pins σ H s):∀ b o,X.base.get? b=some o->s.heap.get? b=some o/\H b=none:=fun b o e=>
 ⟨I.base.keep b o (I.ok.bs b o e).1 (I.ok.bs b o e).2 (I.ok.nofr e) (I.ok.noex b o e),I.base.free b o (I.ok.bs b o e).1 (I.ok.bs b o e).2 (I.ok.noex b o e)⟩
theorem Inv.bk (I:Inv X pins σ H s):∀ b o,X.base.get? b=some o->s.heap.get? b=some o:=fun b o e=>(I.bs b o e).1
theorem Inv.mod (I:Inv X pins σ H s):Mod X.K X.mg X.base:=I.ok.mod
theorem Inv.kIn (I:Inv X pins σ H s):X.K.In s.heap:=I.ok.mod.kin.keeps I.bk
theorem Inv.lt (I:Inv X pins σ H s):X.env.locals < s.heap.objs.size:=let ⟨_,hn,_⟩:=I.loc;hn.lt
theorem Inv.sz (I:Inv X pins σ H s):X.s₀.heap.objs.size<=s.heap.objs.size:=Nat.le_trans I.ok.above (Nat.le_of_lt I.lt)
theorem Inv.nofs (I:Inv X pins σ H s){a:Addr}(h:s.heap.objs.size<=a):a∉X.fs:=fun hb=>by obtain⟨_,o,ho,_⟩:=I.ok.funs.mem hb;exact absurd (Nat.lt_of_lt_of_le (Heap.lt_size ho) (Nat.le_trans I.sz h)) (Nat.lt_irrefl _)
theorem Inv.cne (I:Inv X pins σ H s):∀ x c,X.env.cells.lookup x=some c->c≠X.env.locals:=fun x c e z=>by obtain⟨v,o,ho,hd⟩:=I.cell x c e;obtain⟨m,⟨o',es,ep,ho',hd',_⟩,_⟩:=I.loc;rw[z,ho'] at ho;cases ho;rw[hd'] at hd;cases hd
theorem Inv.funs (I:Inv X pins σ H s):s.heap.FunFrames X.base X.outer:=by
 have all:∀ (l:List Env),(∀ b∈frs l,b∈X.fs)->X.s₀.heap.FunFrames X.base l->s.heap.FunFrames X.base l:=by
  intro l
  induction l with
  | nil=>intro _ _;trivial
  | cons env r ih=>intro hs hl;obtain⟨hk,⟨L,o,hf,hn,ho,hd⟩,hr⟩:=hl;have hL:L∈X.fs:=hs L (by unfold frs;rw[List.filterMap_cons,hf];exact List.mem_cons_self);obtain⟨sl,e⟩:=I.base.slot L o ho (I.ok.frf L hL) hL fun z=>I.ok.exfs L z hL;exact⟨hk,⟨L,_,hf,hn,e,hd⟩,ih (fun b hb=>hs b (by unfold frs;rw[List.filterMap_cons,hf];exact List.mem_cons_of_mem _ hb)) hr⟩
 exact all X.outer (fun _ hb=>hb) I.ok.funs
theorem Inv.stack (I:Inv X pins σ H s):s.heap.FunFrames X.base X.stack:=by
 rcases I.ok.stk with e|⟨e,hf⟩
 ·rw[e];exact I.funs
 ·rw[e];obtain⟨m,hn,_⟩:=I.loc;refine .cons (by rw[I.ok.kind];decide) hf hn ?_ I.funs;exact Heap.get?_none_of_le (Nat.le_trans I.ok.bsz I.ok.above)
theorem Inv.stkSub (I:Inv X pins σ H s):∀ b∈frs X.stack,b∈X.env.locals::X.fs:=fun b hb=>by
 rcases I.ok.stk with e|⟨e,hf⟩
 ·rw[e] at hb;exact List.mem_cons_of_mem _ hb
 ·rw[e] at hb;unfold frs at hb;rw[List.filterMap_cons,hf] at hb;exact hb
theorem Inv.stkFree (I:Inv X pins σ H s):∀ b∈frs X.stack,H b=none:=fun b hb=>by
 rcases List.mem_cons.mp (I.stkSub b hb) with e|hb
 ·rw[e];exact I.free
 ·obtain⟨_,o,ho,_⟩:=I.ok.funs.mem hb;exact I.base.free b o ho (I.ok.frf b hb) fun z=>I.ok.exfs b z hb
theorem Inv.step {g':Array GenState}{t':Nat}{d':Drawn}{ch:List Addr}(I:Inv X pins σ H s)
  (hch:∀ b∈ch,(b∈X.ex∨X.s₀.heap.objs.size<=b)/\b≠X.env.locals/\(∀ x c,X.env.cells.lookup x=some c->c≠b)/\∀ p∈X.pn++pins,p.1≠b)
  (keep:∀ b o,b≠X.env.locals->b∉X.fs->b∉ch->s.heap.get? b=some o->H b=none->h'.get? b=some o)
  (slot:∀ b o,b≠X.env.locals->b∈X.fs->b∉ch->s.heap.get? b=some o->H b=none->∃ sl,h'.get? b=some {o with slots:=sl}) (free:∀ b o,b∉ch->s.heap.get? b=some o->H b=none->H' b=none)
  (there:∀ b o,b∉ch->s.heap.get? b=some o->∃ o',h'.get? b=some o')
  (tups:∀ b xs,H b=some (.tup xs)->H' b=some (.tup xs)) (frzs:∀ b o u,H b=some (.frz o u)->H' b=some (.frz o u)) (tbls:∀ b ps,H b=some (.tbl ps)->∃ more,H' b=some (.tbl (ps++more)))
  (ns:∀ m,s.heap.Ns X.env.locals m->h'.Ns X.env.locals m) (hok:HOk X.prog X.w H' h') (hg:AllBare g') :
  Inv X pins σ H' {s with heap:=h',gens:=g',drawn:=d',toks:=t'}:=by
 have neL:∀ b o,X.s₀.heap.get? b=some o->b≠X.env.locals:=fun b o e=>Nat.ne_of_lt (Nat.lt_of_lt_of_le (Heap.lt_size e) I.ok.above);have neC:∀ b o,X.s₀.heap.get? b=some o->b∉X.ex->b∉ch:=fun b o e hx hb=>by
  rcases (hch b hb).1 with z|z
  ·exact hx z
  ·exact absurd (Nat.lt_of_lt_of_le (Heap.lt_size e) z) (Nat.lt_irrefl _)
 have cellK:∀ x c,X.env.cells.lookup x=some c->∀ v,s.heap.IsCell c v->h'.IsCell c v:=fun x c e v ⟨o,ho,hd⟩=>by
  have nch:c∉ch:=fun z=>(hch c z).2.2.1 x c e rfl;by_cases hc:c∈X.fs
  ·obtain⟨sl,q⟩:=slot c o (I.cne x c e) hc nch ho (I.freeC x c e);exact⟨_,q,hd⟩
  ·exact⟨o,keep c o (I.cne x c e) hc nch ho (I.freeC x c e),hd⟩
 refine⟨I.ok,I.os,hg,⟨fun b o e n hb hx=>?_,fun b o e n hb hx=>?_,fun b o e n hx=>?_,fun b o e hx=>?_,fun b xs e=>tups b xs (I.base.tups b xs e),fun b o xs e=>frzs b o xs (I.base.frzs b o xs e),fun b ps e=>?_⟩,?_,fun x c e=>?_,?_,fun x c e=>?_,fun p hp=>?_,hok,I.len⟩
 ·exact keep b o (neL b o e) hb (neC b o e hx) (I.base.keep b o e n hb hx) (I.base.free b o e n hx)
 ·obtain⟨sl,e1⟩:=I.base.slot b o e n hb hx;obtain⟨sl',e2⟩:=slot b _ (neL b o e) hb (neC b o e hx) e1 (I.base.free b o e n hx);exact⟨sl',e2⟩
 ·obtain⟨o',e1⟩:=I.base.there b o e hx;exact free b o' (neC b o e hx) e1 (I.base.free b o e n hx)
 ·obtain⟨o',e1⟩:=I.base.there b o e hx;exact there b o' (neC b o e hx) e1
 ·obtain⟨m1,e1⟩:=I.base.tbls b ps e;obtain⟨m2,e2⟩:=tbls b _ e1;exact⟨m1++m2,by rw[e2,Array.append_assoc]⟩
 ·obtain⟨m,hn,hl⟩:=I.loc;refine⟨m,ns m hn,fun i x v e1 e2 e3=>?_⟩;obtain⟨u,r,l⟩:=hl i x v e1 e2 e3;refine⟨u,r,?_⟩;rcases l with l|⟨k,c,e,z⟩
  ·exact .inl l
  ·exact .inr ⟨k,c,e,cellK x c e _ z⟩
 ·obtain⟨v,z⟩:=I.cell x c e;exact⟨v,cellK x c e v z⟩
 ·obtain⟨m,⟨o,_,_,ho,_⟩,_⟩:=I.loc;exact free _ o (fun z=>(hch _ z).2.1 rfl) ho I.free
 ·obtain⟨v,o,ho,hd⟩:=I.cell x c e;exact free c o (fun z=>(hch c z).2.2.1 x c e rfl) ho (I.freeC x c e)
 ·obtain⟨e,n,ne,nf,d⟩:=I.pin p hp;have nch:p.1∉ch:=fun z=>(hch p.1 z).2.2.2 p hp rfl;exact⟨keep p.1 p.2 ne nf nch e n,free p.1 p.2 nch e n,ne,nf,d⟩
theorem Inv.un {t':Nat}(I:Inv X pins σ H s)(u:Un X.fs [] H H' s.heap h')(hok:HOk X.prog X.w H' h'):Inv X pins σ H' {s with heap:=h',toks:=t'}:=by
 obtain⟨m,⟨o,es,ep,ho,r⟩,_⟩:=id I.loc;obtain⟨sl,hL⟩:=u.any ho I.free (by simp)
 exact I.step (g':=s.gens) (d':=s.drawn) (ch:=[]) (fun _ z=>nomatch z) (fun b o _ hb _ e n=>u.keep b o e n hb (by simp)) (fun b o _ hb _ e n=>u.slot b o e n hb (by simp)) (fun b o _ e n=>u.free b o e n (by simp)) (fun b o _ e=>u.there b o e (by simp)) u.tups u.frzs u.tbls (fun m' hm=>by
  obtain⟨o',es',ep',ho',r'⟩:=hm;rw[ho] at ho';cases ho'
  exact⟨_,es',ep',hL,r'⟩) hok I.bare
theorem Inv.call {g':Array GenState}{t':Nat}{d':Drawn}{ch:List Addr}(I:Inv X pins σ H s)(u:Un (frs X.stack) ch H H' s.heap h')(hok:HOk X.prog X.w H' h')(hg:AllBare g')
  (hch:∀ b∈ch,(b∈X.ex∨X.s₀.heap.objs.size<=b)/\b≠X.env.locals/\(∀ x c,X.env.cells.lookup x=some c->c≠b)/\∀ p∈X.pn++pins,p.1≠b) :
  Inv X pins σ H' {s with heap:=h',gens:=g',drawn:=d',toks:=t'}:=by
 obtain⟨m,⟨o,es,ep,ho,r⟩,_⟩:=id I.loc;obtain⟨sl,hL⟩:=u.any ho I.free fun z=>(hch _ z).2.1 rfl
 exact I.step (ch:=ch) hch (fun b o hL hb hc e n=>u.keep b o e n (fun z=>(List.mem_cons.mp (I.stkSub b z)).elim hL hb) hc) (fun b o _ _ hc e n=>u.any e n hc) (fun b o hc e n=>u.free b o e n hc) (fun b o hc e=>u.there b o e hc) u.tups u.frzs u.tbls (fun m' hm=>by
  obtain⟨o',es',ep',ho',r'⟩:=hm;rw[ho] at ho';cases ho'
  exact⟨_,es',ep',hL,r'⟩) hok hg
theorem Inv.turned {t':Nat}{it:Addr}(I:Inv X pins σ H s)(k:∀ b o,b≠it->s.heap.get? b=some o->h'.get? b=some o)(hn:H it=none)(hL:it≠X.env.locals)
  (h1:it∈X.ex∨X.s₀.heap.objs.size<=it) (h2:∀ x c,X.env.cells.lookup x=some c->c≠it) (h3:∀ p∈X.pn++pins,p.1≠it):Inv X pins σ H {s with heap:=h',toks:=t'}:=by
 have nit:∀ b u,H b=some u->b≠it:=fun b u e z=>by rw[z,hn] at e;cases e
 refine I.step (g':=s.gens) (d':=s.drawn) (ch:=[it]) (fun b hb=>?_) (fun b o _ _ hc e _=>k b o (fun z=>hc (by simp[z])) e) (fun b o _ _ hc e _=>⟨o.slots,k b o (fun z=>hc (by simp[z])) e⟩) (fun _ _ _ _ n=>n)
  (fun b o hc e=>⟨o,k b o (fun z=>hc (by simp[z])) e⟩) (fun _ _ e=>e) (fun _ _ _ e=>e) (fun b ps e=>⟨#[],by rw[e];simp⟩) (fun m hm=>?_) (fun b u e=>?_) I.bare
 ·have e:b=it:=by simpa using hb
  subst e;exact⟨h1,hL,h2,h3⟩
 ·obtain⟨o,es,ep,ho,r⟩:=hm;exact⟨o,es,ep,k _ o (Ne.symm hL) ho,r⟩
 ·refine(I.hok b u e).stay (fun c v hc q=>k c v ?_ q) (fun _ q=>q) fun _ _ q=>q;rcases hc with z|z
  ·rw[z];exact nit b u e
  ·exact nit c _ z
theorem Inv.tok (I:Inv X pins σ H s)(t:Nat):Inv X pins σ H {s with toks:=t}:=I.un (h':=s.heap) (t':=t) Un.refl I.hok
theorem Inv.kept {t':Nat}(I:Inv X pins σ H s)(k:∀ b u,s.heap.get? b=some u->h'.get? b=some u):Inv X pins σ H {s with heap:=h',toks:=t'}:=I.un (Un.kept k) (I.hok.kept k)
theorem Inv.laid {a:Addr}{o:HO}{t':Nat}(I:Inv X pins σ H s)(k:∀ b u,s.heap.get? b=some u->h'.get? b=some u)(hp:s.heap.objs.size<=a)(new:du X.prog X.w (upd H a o) h' a o) :
  Inv X pins σ (upd H a o) {s with heap:=h',toks:=t'}:=I.un (Un.laid k hp (I.hok.fresh hp)) (I.hok.laid k hp new)
theorem Inv.write {x e:Addr}{o:HO}{t':Nat}(I:Inv X pins σ H s)(mu:Mut (H x))(he:e=x∨H e=some (.own x))(k:∀ b u,b≠e->s.heap.get? b=some u->h'.get? b=some u)(heo:∃ u,h'.get? e=some u)
  (new:du X.prog X.w (upd H x o) h' x o):Inv X pins σ (upd H x o) {s with heap:=h',toks:=t'}:=I.un (Un.write mu he k heo) (I.hok.write mu he k heo new)
theorem Inv.pins_of {pins':List (Addr×Obj)}(I:Inv X pins σ H s)(h:∀ p∈pins',s.heap.get? p.1=some p.2/\H p.1=none/\p.1≠X.env.locals/\p.1∉X.fs/\∀ v,p.2.data≠.cell v):Inv X pins' σ H s:=
 ⟨I.ok,I.os,I.bare,I.base,I.loc,I.cell,I.free,I.freeC,fun p hp=>(List.mem_append.mp hp).elim (fun z=>I.pin p (List.mem_append_left _ z)) (h p),I.hok,I.len⟩
theorem kX {N:List Str}(hN:N.Nodup){i j:Nat}{x:Str}(a:N[i]? = some x)(b:N[j]? = some x):i=j:=by obtain⟨h1,e1⟩:=List.getElem?_eq_some_iff.mp a;obtain⟨h2,e2⟩:=List.getElem?_eq_some_iff.mp b;exact(List.getElem_inj hN).mp (e1.trans e2.symm)
theorem jK {M:Model}{A:Around}{E:Value->Shared->Prop}{i:Nat}{x:Str}{v:V}{u:Value}{Q:Unit->Shared->Prop}(I:Inv X pins σ H s)(hN:X.N.Nodup)(hi:X.N[i]? = some x)(hx:Loc X.env.scope x)(r:RelV v u)
  (h:∀ s',Inv X pins (σ.set i (some v)) H s'->(∃ a,Heap.SameBut a s.heap s'.heap/\(a=X.env.locals∨X.env.cells.lookup x=some a))->Q () s') (hf:X.fn x=true∨X.env.scope.names.lookup x=some .local:=by first|exact .inl rfl|exact .inr rfl|assumption):wpAny M A (storeName X.env x u) Q E s:=by
 obtain⟨m,hn,hl⟩:=id I.loc;have hcls:(X.env.scope.kind == .class||(X.env.scope.kind == .module&&X.env.locals != X.env.globals))=false:=by rw[I.ok.kind];rfl
 have hiσ:i < σ.length:=by rw[I.len];exact(List.getElem?_eq_some_iff.mp hi).1
 have cne:=I.cne;have tracked:∀ {a:Addr}{h':Heap},(∃ o,s.heap.get? a=some o/\H a=none)->Heap.SameBut a s.heap h'->HOk X.prog X.w H h':=fun {a h'} ha hs b ob e=>by
  obtain⟨_,_,hfree⟩:=ha;refine(I.hok b ob e).stay (fun c w' hc q=>(hs.2 c ?_).trans q) (fun _ q=>q) fun _ _ q=>q;rintro rfl;rcases hc with rfl|hc
  ·rw[hfree] at e;cases e
  ·rw[hfree] at hc;cases hc
 rcases hx with hk|hk
 ·refine wpAny_storeName_local hk hn (fun h' hn' hs=>?_) hcls;obtain⟨oL,_,_,hoL,_⟩:=id hn;refine h _ ⟨I.ok,I.os,I.bare,⟨fun b o e n hb hx=>?_,fun b o e n hb hx=>?_,I.base.free,fun b o e hx=>?_,I.base.tups,I.base.frzs,I.base.tbls⟩,⟨_,hn',fun j y v' e1 e2 e3=>?_⟩,fun y c e=>?_,I.free,I.freeC,fun p hp=>?_,tracked ⟨oL,hoL,I.free⟩ hs,by simpa using I.len⟩ ⟨_,hs,.inl rfl⟩
  ·exact(hs.2 b (Nat.ne_of_lt (Nat.lt_of_lt_of_le (Heap.lt_size e) I.ok.above))).trans (I.base.keep b o e n hb hx)
  ·obtain⟨sl,e1⟩:=I.base.slot b o e n hb hx;exact⟨sl,(hs.2 b (Nat.ne_of_lt (Nat.lt_of_lt_of_le (Heap.lt_size e) I.ok.above))).trans e1⟩
  ·obtain⟨o',e1⟩:=I.base.there b o e hx;exact⟨o',(hs.2 b (Nat.ne_of_lt (Nat.lt_of_lt_of_le (Heap.lt_size e) I.ok.above))).trans e1⟩
  ·by_cases hj:j=i
   ·subst hj;rw[hi] at e1;cases e1;rw[List.getElem?_set_self hiσ] at e2;cases e2;exact⟨u,r,.inl ⟨hk,by simp⟩⟩
   ·rw[List.getElem?_set_ne (Ne.symm hj)] at e2;obtain⟨u',r',q⟩:=hl j y v' e1 e2 e3;refine⟨u',r',?_⟩;rcases q with ⟨k,e⟩|⟨k,c,e,z⟩
    ·refine .inl ⟨k,?_⟩;have:y≠x:=fun e=>hj (kX hN e1 (e ▸ hi));simp[this,e]
    ·exact .inr ⟨k,c,e,z.sameBut hs (cne y c e)⟩
  ·obtain⟨w',z⟩:=I.cell y c e;exact⟨w',z.sameBut hs (cne y c e)⟩
  ·obtain⟨e,n,ne,nf,d⟩:=I.pin p hp;exact⟨(hs.2 p.1 ne).trans e,n,ne,nf,d⟩
 ·have hfn:X.fn x=true:=by
   rcases hf with z|z
   ·exact z
   ·rw[z] at hk;cases hk
  obtain⟨c,hc⟩:=I.ok.has x (.inl hk);obtain⟨w',z⟩:=I.cell x c hc;refine wpAny_storeName_cell I.ok.kind hk hc z (fun h' hc' hs=>?_);obtain⟨oc,hoc,hocd⟩:=id z;refine h {s with heap:=h'} ⟨I.ok,I.os,I.bare,⟨fun b o e n hb hx=>?_,fun b o e n hb hx=>?_,I.base.free,fun b o e hx=>?_,I.base.tups,I.base.frzs,I.base.tbls⟩,⟨m,hn.sameBut hs (Ne.symm (cne x c hc)),fun j y v' e1 e2 e3=>?_⟩,fun y c' e=>?_,I.free,I.freeC,fun p hp=>?_,tracked ⟨oc,hoc,I.freeC x c hc⟩ hs,by simpa using I.len⟩ ⟨c,hs,.inr hc⟩
  ·exact(hs.2 b (Nat.ne_of_lt (Nat.lt_of_lt_of_le (Heap.lt_size e) (I.ok.cab x c hfn hc)))).trans (I.base.keep b o e n hb hx)
  ·obtain⟨sl,e1⟩:=I.base.slot b o e n hb hx;exact⟨sl,(hs.2 b (Nat.ne_of_lt (Nat.lt_of_lt_of_le (Heap.lt_size e) (I.ok.cab x c hfn hc)))).trans e1⟩
  ·obtain⟨o',e1⟩:=I.base.there b o e hx;exact⟨o',(hs.2 b (Nat.ne_of_lt (Nat.lt_of_lt_of_le (Heap.lt_size e) (I.ok.cab x c hfn hc)))).trans e1⟩
  ·by_cases hj:j=i
   ·subst hj;rw[hi] at e1;cases e1;rw[List.getElem?_set_self hiσ] at e2;cases e2;exact⟨u,r,.inr ⟨.inl hk,c,hc,hc'⟩⟩
   ·rw[List.getElem?_set_ne (Ne.symm hj)] at e2;obtain⟨u',r',q⟩:=hl j y v' e1 e2 e3;refine⟨u',r',?_⟩;rcases q with q|⟨k,c',e,z'⟩
    ·exact .inl q
    ·refine .inr ⟨k,c',e,z'.sameBut hs ?_⟩;rintro rfl;exact hj (kX hN e1 (I.ok.inj _ _ _ e hc ▸ hi))
  ·by_cases hcc:c'=c
   ·subst hcc;exact⟨_,hc'⟩
   ·obtain⟨w2,z2⟩:=I.cell y c' e;exact⟨w2,z2.sameBut hs hcc⟩
  ·obtain⟨e,n,ne,nf,d⟩:=I.pin p hp;refine⟨(hs.2 p.1 ?_).trans e,n,ne,nf,d⟩;intro q;rw[q,hoc] at e;have q':oc=p.2:=Option.some.inj e;exact d w' (by rw[<- q'];exact hocd)
theorem kY {M:Model}{A:Around}{E:Value->Shared->Prop}{i:Nat}{x:Str}{v:V}{u:Value}{Q:Unit->Shared->Prop}(I:Inv X pins σ H s)(hN:X.N.Nodup)(hi:X.N[i]? = some x)(hx:Loc X.env.scope x)(r:RelV v u)
  (h:∀ s',Inv X pins (σ.set i (some v)) H s'->Q () s') (hf:X.fn x=true∨X.env.scope.names.lookup x=some .local:=by first|exact .inl rfl|exact .inr rfl|assumption):wpAny M A (storeName X.env x u) Q E s:=
 jK I hN hi hx r (fun s' I' _=>h s' I') hf
theorem Inv.call' {s':Shared}{ch:List Addr}(I:Inv X pins σ H s)(ho:s'.os=s.os)(u:Un (frs X.stack) ch H H' s.heap s'.heap)(hok:HOk X.prog X.w H' s'.heap)(hg:AllBare s'.gens)
  (hch:∀ b∈ch,(b∈X.ex∨X.s₀.heap.objs.size<=b)/\b≠X.env.locals/\(∀ x c,X.env.cells.lookup x=some c->c≠b)/\∀ p∈X.pn++pins,p.1≠b):Inv X pins σ H' s':=by
 obtain⟨h',g',d',t',o'⟩:=s';have e:o'=s.os:=ho;subst e;exact I.call (g':=g') (t':=t') (d':=d') u hok hg hch
end
noncomputable abbrev XK:=Value->Option Addr->Hp->Prop
noncomputable abbrev St:=List (Option V)
noncomputable abbrev VK:=V->Hp->Prop
noncomputable abbrev TE:=St->Hp->VK->Prop
noncomputable abbrev TT:=St->Hp->(Bool->Hp->Prop)->Prop
noncomputable abbrev TA:=St->Hp->(List V->Hp->Prop)->Prop
structure Ends where
 nx:St->Hp->Prop
 rt:VK
 bk:St->Hp->Prop:=fun _ _=>False
 ct:St->Hp->Prop:=fun _ _=>False
noncomputable abbrev TS:=Ends->St->Hp->Prop
def EP (X:Cx)(pins:List (Addr×Obj))(σ:St)(Q:VK)(u:Value)(s':Shared):Prop:=∃ v H',Inv X pins σ H' s'/\RelV v u/\Q v H'
def TP (X:Cx)(pins:List (Addr×Obj))(σ:St)(Q:Bool->Hp->Prop)(b:Bool)(s':Shared):Prop:=∃ H',Inv X pins σ H' s'/\Q b H'
def AP (X:Cx)(pins:List (Addr×Obj))(σ:St)(Q:List V->Hp->Prop)(us:List Value)(s':Shared):Prop:=∃ vs H',Inv X pins σ H' s'/\Vals vs us/\Q vs H'
def SP (X:Cx)(pins:List (Addr×Obj))(D:Ends)(f:Flow)(s':Shared):Prop:=
 match f with
 | .next=>∃ σ' H',Inv X pins σ' H' s'/\D.nx σ' H'
 | .brk=>∃ σ' H',Inv X pins σ' H' s'/\D.bk σ' H'
 | .cont=>∃ σ' H',Inv X pins σ' H' s'/\D.ct σ' H'
 | .ret u=>∃ v σ' H',Inv X pins σ' H' s'/\RelV v u/\D.rt v H'
def PE (X:Cx)(e:Expr)(t:TE):Prop:=
 ∀ (pins:List (Addr×Obj)) (s:Shared) (σ:St) (H:Hp) (Q:VK),Inv X pins σ H s->t σ H Q->wpAny (model X.prog X.w) X.A (eval e X.env) (EP X pins σ Q) X.xe s
def PT (X:Cx)(e:Expr)(t:TT):Prop:=
 ∀ (pins:List (Addr×Obj)) (s:Shared) (σ:St) (H:Hp) (Q:Bool->Hp->Prop),Inv X pins σ H s->t σ H Q->wpAny (model X.prog X.w) X.A (isTrue e X.env (eval e X.env)) (TP X pins σ Q) X.xe s
def PW (X:Cx)(e:Expr)(t:TT):Prop:=
 ∀ (whole:Sem Value) (pins:List (Addr×Obj)) (s:Shared) (σ:St) (H:Hp) (Q:Bool->Hp->Prop),Inv X pins σ H s->t σ H Q->wpAny (model X.prog X.w) X.A (isTrue e X.env whole) (TP X pins σ Q) X.xe s
theorem PW.pt {X:Cx}{e:Expr}{t:TT}(h:PW X e t):PT X e t:=h _
def PA (X:Cx)(es:List Expr)(t:TA):Prop:=
 ∀ (pos:Pos) (pins:List (Addr×Obj)) (s:Shared) (σ:St) (H:Hp) (Q:List V->Hp->Prop),Inv X pins σ H s->t σ H Q->wpAny (model X.prog X.w) X.A (spliced (backTo pos (starEach es X.env))) (AP X pins σ Q) X.xe s
def PS (X:Cx)(st:Stmt)(t:TS):Prop:=
 ∀ (pins:List (Addr×Obj)) (s:Shared) (σ:St) (H:Hp) (D:Ends),Inv X pins σ H s->t D σ H->wpAny (model X.prog X.w) X.A (exec st X.env) (SP X pins D) X.xe s
def PSs (X:Cx)(st:List Stmt)(t:TS):Prop:=
 ∀ (pins:List (Addr×Obj)) (s:Shared) (σ:St) (H:Hp) (D:Ends),Inv X pins σ H s->t D σ H->wpAny (model X.prog X.w) X.A (execs st X.env) (SP X pins D) X.xe s
theorem thn {α:Type}{t:Sem α}{Q Q':α->Shared->Prop}{M:Model}{A:Around}{E:Value->Shared->Prop}{s:Shared}(h:wpAny M A t Q E s)(hQ:∀ a s,Q a s->Q' a s):wpAny M A t Q' E s:=wpAny_mono h hQ fun _ _ x=>x
section
variable {X:Cx}
def qb (i:Nat):TE:=fun σ H Q=>∃ v,σ[i]? = some (some v)/\Q v H
def tC (v:V):TE:=fun _ H Q=>Q v H
theorem qc {i:Nat}{x:Str}{pos:Pos}(hN:X.N[i]? = some x)(hv:Vis X.env.scope x)(hd:(x == ("__debug__" : Str))=false:=by decide) (hcd:(x == ("__classdict__" : Str))=false:=by decide):PE X (.Name x pos) (qb i):=by
 intro pins s σ H Q I h;obtain⟨v,e,h⟩:=h;obtain⟨m,hn,hl⟩:=I.loc;obtain⟨u,r,l⟩:=hl i x v hN e hv;have fin:EP X pins σ Q u s:=⟨v,H,I,r,h⟩
 rcases l with ⟨hk,hm⟩|⟨hk,c,hc,hcell⟩
 ·exact wpAny_Name (wpAny_loadName_local I.ok.kind hk hn hm fin) hd
 ·rcases hk with hk|hk
  ·exact wpAny_Name (wpAny_loadName_cell I.ok.kind hk hc hcell fin) hd
  ·exact wpAny_Name (wpAny_loadName_free I.ok.kind hk hc hcell fin hcd) hd
theorem qd {i j pos}:PE X (.Constant (.int i) j pos) (tC (.int i)):=fun _ _ _ H _ I h=>wpAny_Constant_int ⟨.int i,H,I.tok _,⟨_,rfl⟩,h⟩
theorem Ac {b j pos}:PE X (.Constant (.bool b) j pos) (tC (.bl b)):=fun _ _ _ H _ I h=>Constant_bool ⟨.bl b,H,I,rfl,h⟩
theorem xF {j pos}:PE X (.Constant .none j pos) (tC .non):=fun _ _ _ H _ I h=>Constant_none ⟨.non,H,I,rfl,h⟩
theorem xG {x j pos}:PE X (.Constant (.str x) j pos) (tC (.str x)):=fun _ _ _ H _ I h=>Calls.Constant_str ⟨.str x,H,I.tok _,⟨_,rfl⟩,h⟩
def Gl (X:Cx)(x:Str):Prop:=X.env.kindOf x=some .globalImplicit
theorem iO {E:Value->Shared->Prop}{pins:List (Addr×Obj)}{s:Shared}{σ:St}{H:Hp}{x:Str}{u:Value}{pos:Pos}{Q:Value->Shared->Prop}(I:Inv X pins σ H s)(hg:Gl X x)(hm:X.mg x=some u)(h:Q u s)
  (hd:(x == ("__debug__" : Str))=false:=by decide):wpAny (model X.prog X.w) X.A (eval (.Name x pos) X.env) Q E s:=
 Calls.Name_function_global I.ok.kind hg (Calls.loadGlobal_global (by rw[I.ok.glob];exact I.mod.glob.keeps I.bk) hm h) hd
theorem fq {E:Value->Shared->Prop}{pins:List (Addr×Obj)}{s:Shared}{σ:St}{H:Hp}{x:Str}{u:Value}{pos:Pos}{Q:Value->Shared->Prop}(I:Inv X pins σ H s)(hg:Gl X x)(hm:X.mg x=none)(hv:bootBuiltins x=some u)(h:Q u s)
  (hn:x≠"__name__":=by decide) (hd:(x == ("__debug__" : Str))=false:=by decide):wpAny (model X.prog X.w) X.A (eval (.Name x pos) X.env) Q E s:=by
 obtain⟨mb,h1,h2⟩:=I.mod.blt;exact Calls.Name_function_global I.ok.kind hg (Calls.loadGlobal_builtin (by rw[I.ok.glob];exact I.mod.glob.keeps I.bk) hm (by rw[I.ok.blt];exact h1.keeps I.bk) ((h2 x hn).trans hv) h) hd
theorem tV {x:Str}{v:V}{u:Value}{pos:Pos}(hg:Gl X x)(hm:X.mg x=some u)(r:RelV v u)(hd:(x == ("__debug__" : Str))=false:=by decide):PE X (.Name x pos) (tC v):=
 fun _ _ _ H _ I h=>iO I hg hm ⟨v,H,I,r,h⟩ hd
theorem tW {x:Str}{v:V}{u:Value}{pos:Pos}(hg:Gl X x)(hm:X.mg x=none)(hv:bootBuiltins x=some u)(r:RelV v u)(hn:x≠"__name__":=by decide) (hd:(x == ("__debug__" : Str))=false:=by decide):PE X (.Name x pos) (tC v):=
 fun _ _ _ H _ I h=>fq I hg hm hv ⟨v,H,I,r,h⟩ hn hd
variable {a b:Expr}{ta tb:TE}{pos:Pos}
variable {tA tB':TT}{rest:List Expr}
def Ad (t u:TT):TT:=fun σ H Q=>t σ H fun c H1=>if c=true then u σ H1 Q else Q false H1
def tOr (t u:TT):TT:=fun σ H Q=>t σ H fun c H1=>if c=true then Q true H1 else u σ H1 Q
def CO (t:TT):TT:=fun σ H Q=>t σ H fun c H1=>Q (!c) H1
theorem tX (ha:PT X a tA):PW X (.BoolOp .And [a] pos) tA:=by
 intro wh pins s σ H Q I h;refine isTrue_and (thn (ha pins s σ H Q I h) fun c s1 e=>?_);cases c with
 | true=>exact isTrue_and_nil e
 | false=>exact e
theorem xH (ha:PT X a tA):PW X (.BoolOp .Or [a] pos) tA:=by
 intro wh pins s σ H Q I h;refine isTrue_or (thn (ha pins s σ H Q I h) fun c s1 e=>?_);cases c with
 | false=>exact isTrue_or_nil e
 | true=>exact e
theorem xI (ha:PT X a tA)(hb:PW X (.BoolOp .And (b::rest) pos) tB'):PW X (.BoolOp .And (a::b::rest) pos) (Ad tA tB'):=by
 intro wh pins s σ H Q I h;refine isTrue_and (thn (ha pins s σ H _ I h) fun c s1 ⟨H1,I1,q1⟩=>?_);cases c with
 | true=>exact hb wh pins s1 σ H1 Q I1 q1
 | false=>exact⟨H1,I1,q1⟩
theorem Ae (ha:PT X a tA)(hb:PW X (.BoolOp .Or (b::rest) pos) tB'):PW X (.BoolOp .Or (a::b::rest) pos) (tOr tA tB'):=by
 intro wh pins s σ H Q I h;refine isTrue_or (thn (ha pins s σ H _ I h) fun c s1 ⟨H1,I1,q1⟩=>?_);cases c with
 | true=>exact⟨H1,I1,q1⟩
 | false=>exact hb wh pins s1 σ H1 Q I1 q1
theorem xJ (ha:PT X a tA):PT X (.UnaryOp .Not a pos) (CO tA):=by intro pins s σ H Q I h;exact isTrue_not (ha pins s σ H (fun c H1=>Q (!c) H1) I h)
theorem qe {op}{t:TE}(h:PE X a t):PE X (.BoolOp op [a] pos) t:=fun pins s σ H Q I hw=>BoolOp_one (h pins s σ H Q I hw)
def tIf (t:TT)(ta tb:TE):TE:=fun σ H Q=>t σ H fun c H1=>if c=true then ta σ H1 Q else tb σ H1 Q
theorem kZ {c:Expr}(hc:PT X c tA)(ha:PE X a ta)(hb:PE X b tb):PE X (.IfExp c a b pos) (tIf tA ta tb):=by
 intro pins s σ H Q I h;refine wpAny_IfExp (thn (hc pins s σ H _ I h) fun d s1 ⟨H1,I1,q1⟩=>?_);cases d with
 | true=>exact ha pins s1 σ H1 Q I1 q1
 | false=>exact hb pins s1 σ H1 Q I1 q1
end
def SqL (K:PySem.W.Frag)(H:Hp)(a:Addr)(xs:List V):Prop:=
 Rd H a (.lst xs)∨
  ∃ (o:Obj) (its:Array Value) (n:Nat),K.lookup a=some o/\o.cls=.type "list"/\o.dict=none/\o.data=.seq its n/\its.size<=sizeLine/\Vals xs its.toList
def SqT (K:PySem.W.Frag)(H:Hp)(a:Addr)(xs:List V):Prop:=
 Rd H a (.tup xs)∨
  ∃ (o:Obj) (its:Array Value) (n:Nat),K.lookup a=some o/\o.cls=.type "tuple"/\o.data=.seq its n/\its.size<=sizeLine/\Vals xs its.toList
noncomputable def CP:Value->Option V
 | .none=>some .non
 | .bool b=>some (.bl b)
 | .int i _=>some (.int i)
 | .str x _=>some (.str x)
 | .bytes b _=>some (.byt b)
 | .float b _=>some (.flt b)
 | .ref a=>some (.ref a)
 | .type n=>some (.ty n)
 | _=>none
theorem RelV.abs {x:V}{u:Value}(r:RelV x u):CP u=some x:=by
 cases x with
 | non=>cases r;rfl
 | bl _=>cases r;rfl
 | int _=>obtain⟨t,rfl⟩:=r;rfl
 | str _=>obtain⟨t,rfl⟩:=r;rfl
 | byt _=>obtain⟨t,rfl⟩:=r;rfl
 | flt _=>obtain⟨t,rfl⟩:=r;rfl
 | ref _=>cases r;rfl
 | ty _=>cases r;rfl
theorem RelV.inj {x y:V}{u:Value}(r:RelV x u)(q:RelV y u):x=y:=Option.some.inj (r.abs.symm.trans q.abs)
theorem Vals.inj:∀ {xs ys:List V}{us:List Value},Vals xs us->Vals ys us->xs=ys
 | _,_,_,.nil,.nil=>rfl
 | _,_,_,.cons r t,.cons r' t'=>by rw[r.inj r',Vals.inj t t']
section
variable {X:Cx}{pins:List (Addr×Obj)}{σ:St}{H:Hp}{s:Shared}{a:Addr}{xs ys:List V}
theorem SqT.of {K:PySem.W.Frag}(h:H a=some (.tup xs)):SqT K H a xs:=.inl (.inl h)
theorem Inv.list (I:Inv X pins σ H s)(h:SqL X.K H a xs):∃ its:List Value,Vals xs its/\PlainL s.heap a its.toArray/\xs.length<=sizeLine:=by
 rcases h with h|⟨o,its,n,hk,hc,hd,hs,hz,r⟩
 ·obtain⟨z,its,n,r,e⟩:=h.ok I.hok;exact⟨its,r,⟨_,n,e,rfl,rfl,rfl⟩,z⟩
 ·refine⟨its.toList,r,⟨o,n,I.kIn a o hk,hc,hd,by simpa using hs⟩,?_⟩;have e:=r.length;simp only[Array.length_toList] at e;omega
theorem Inv.tuple (I:Inv X pins σ H s)(h:SqT X.K H a xs):∃ its:List Value,Vals xs its/\IsTup s.heap a its.toArray/\xs.length<=sizeLine:=by
 rcases h with h|⟨o,its,n,hk,hc,hs,hz,r⟩
 ·obtain⟨z,its,r,p⟩:=h.ok I.hok;exact⟨its,r,p,z⟩
 ·refine⟨its.toList,r,⟨o,I.kIn a o hk,hc,n,by simpa using hs⟩,?_⟩;have e:=r.length;simp only[Array.length_toList] at e;omega
theorem Inv.list_inj (I:Inv X pins σ H s)(h:SqL X.K H a xs)(h':SqL X.K H a ys):xs=ys:=by
 obtain⟨its,r,⟨o,n,e,_,_,d⟩,_⟩:=I.list h;obtain⟨its',r',⟨o',n',e',_,_,d'⟩,_⟩:=I.list h';rw[e] at e';cases e';rw[d] at d';injection d' with d1 _;have:its=its':=by simpa using congrArg Array.toList d1
 subst this;exact r.inj r'
theorem Inv.tuple_inj (I:Inv X pins σ H s)(h:SqT X.K H a xs)(h':SqT X.K H a ys):xs=ys:=by
 obtain⟨its,r,⟨o,e,_,n,d⟩,_⟩:=I.tuple h;obtain⟨its',r',⟨o',e',_,n',d'⟩,_⟩:=I.tuple h';rw[e] at e';cases e';rw[d] at d';injection d' with d1 _;have:its=its':=by simpa using congrArg Array.toList d1
 subst this;exact r.inj r'
end
section
variable {X:Cx}{st:Stmt}{rest:List Stmt}{t u:TS}{e:Expr}{te:TE}{pos:Pos}
def Af:TS:=fun D σ H=>D.nx σ H
def CQ (t u:TS):TS:=fun D σ H=>t {D with nx:=u D} σ H
theorem tY:PSs X [] Af:=fun _ _ σ H _ I h=>wpAny_execs_nil ⟨σ,H,I,h⟩
theorem qf (h1:PS X st t)(h2:PSs X rest u):PSs X (st::rest) (CQ t u):=by
 intro pins s σ H D I h;refine wpAny_execs_cons (thn (h1 pins s σ H {D with nx:=u D} I h) fun f s1 q=>?_);cases f with
 | next=>obtain⟨σ',H',I',q⟩:=q;exact h2 pins s1 σ' H' D I' q
 | ret v=>exact q
 | brk=>exact q
 | cont=>exact q
theorem Inv.quiet {pins:List (Addr×Obj)}{σ:St}{H:Hp}{s:Shared}(I:Inv X pins σ H s):interactive X.env=false:=by simp[interactive,I.ok.kind]
def Ag (te:TE):TS:=fun D σ H=>te σ H fun _ H1=>D.nx σ H1
theorem iP (he:PE X e te)(hs:swapsWith e none pos.line X.env=pure false:=by rfl):PS X (.Expr e pos) (Ag te):=by intro pins s σ H D I h;exact wpAny_Expr_any (thn (he pins s σ H _ I h) fun v s1 ⟨x,H1,I1,r1,q1⟩=>⟨σ,H1,I1,q1⟩) I.quiet hs
def CS (te:TE):TS:=fun D σ H=>te σ H D.rt
theorem mH (he:PE X e te):PS X (.Return (some e) pos) (CS te):=by intro pins s σ H D I h;exact wpAny_Return_some (thn (he pins s σ H _ I h) fun v s1 ⟨x,H1,I1,r1,q1⟩=>⟨x,σ,H1,I1,r1,q1⟩)
def CT (c:TT)(t u:TS):TS:=fun D σ H=>c σ H fun b H1=>if b=true then t D σ H1 else u D σ H1
theorem Ah {c:Expr}{a b:List Stmt}{tc:TT}(hc:PT X c tc)(ha:PSs X a t)(hb:PSs X b u):PS X (.If c a b pos) (CT tc t u):=by
 intro pins s σ H D I h;refine wpAny_If (thn (hc pins s σ H _ I h) fun d s1 ⟨H1,I1,q1⟩=>?_);cases d with
 | true=>exact ha pins s1 σ H1 D I1 q1
 | false=>exact hb pins s1 σ H1 D I1 q1
def xK:TS:=fun _ _ _=>False
theorem qg:PS X st xK:=fun _ _ _ _ _ _ h=>h.elim
end
noncomputable abbrev TG:=V->St->Hp->(St->Hp->Prop)->Prop
noncomputable abbrev TGs:=List V->St->Hp->(St->Hp->Prop)->Prop
def PG (X:Cx)(target:Expr)(t:TG):Prop:=
 ∀ (pins:List (Addr×Obj)) (s:Shared) (σ:St) (H:Hp) (v:V) (u:Value) (Q:St->Hp->Prop),Inv X pins σ H s->RelV v u->t v σ H Q->
  wpAny (model X.prog X.w) X.A (assign target X.env u) (fun _ s'=>∃ σ' H',Inv X pins σ' H' s'/\Q σ' H') X.xe s
def PGs (X:Cx)(ts:List Expr)(t:TGs):Prop:=
 ∀ (pins:List (Addr×Obj)) (s:Shared) (σ:St) (H:Hp) (vs:List V) (us:List Value) (Q:St->Hp->Prop),Inv X pins σ H s->Vals vs us->t vs σ H Q->
  wpAny (model X.prog X.w) X.A (assignInOrder ((assignEach ts X.env).map (·.2)) us) (fun _ s'=>∃ σ' H',Inv X pins σ' H' s'/\Q σ' H') X.xe s
section
variable {X:Cx}{pos:Pos}
def qh (i:Nat):TG:=fun v σ H Q=>Q (σ.set i (some v)) H
theorem tZ {i:Nat}{x:Str}(hN:X.N.Nodup)(hi:X.N[i]? = some x)(hx:Loc X.env.scope x)(hf:X.fn x=true∨X.env.scope.names.lookup x=some .local:=by first|exact .inl rfl|exact .inr rfl|assumption):PG X (.Name x pos) (qh i):=by intro pins s σ H v u Q I r h;exact wpAny_assign_Name (kY I hN hi hx r (fun s' I'=>⟨_,H,I',h⟩) hf)
def Ai:TGs:=fun vs σ H Q=>vs=[]/\Q σ H
def vI (t:TG)(u:TGs):TGs:=fun vs σ H Q=>∃ v r,vs=v::r/\t v σ H fun σ' H'=>u r σ' H' Q
theorem t4:PGs X [] Ai:=by intro pins s σ H vs us Q I r h;obtain⟨e,h⟩:=h;subst e;cases r;exact assignInOrder_nil ⟨σ,H,I,h⟩
theorem qi {e:Expr}{es:List Expr}{t:TG}{u:TGs}(h1:PG X e t)(h2:PGs X es u)
  (hs:(assignEach (e::es) X.env).map (·.2)=assign e X.env::(assignEach es X.env).map (·.2):=by rfl):PGs X (e::es) (vI t u):=by
 intro pins s σ H vs us Q I r h;obtain⟨v,vr,e1,h⟩:=h;subst e1;cases r with
 | cons r rr=>rw[hs];refine assignInOrder_cons (thn (h1 pins s σ H _ _ _ I r h) fun _ s1 ⟨σ1,H1,I1,q1⟩=>?_);exact h2 pins s1 σ1 H1 _ _ Q I1 rr q1
def xM (te:TE)(g:TG):TS:=fun D σ H=>te σ H fun x H1=>g x σ H1 D.nx
theorem xN {tg e:Expr}{te:TE}{g:TG}(he:PE X e te)(hg:PG X tg g)(hs:swapsWithSole [tg] e pos.line X.env=pure false:=by rfl)(hw:swappedStores [tg] e X.env=pure none:=by rfl)
  (h1:(assignEach [tg] X.env).map (·.2)=[assign tg X.env]:=by rfl):PS X (.Assign [tg] e pos) (xM te g):=by
 intro pins s σ H D I h;refine wpAny_Assign_stores (thn (he pins s σ H _ I h) fun v s1 ⟨x,H1,I1,r1,q1⟩=>?_) hs hw;rw[h1];exact thn (hg pins s1 σ H1 x v _ I1 r1 q1) fun _ s2 q=>q
theorem qj {i:Nat}{x:Str}{e:Expr}{te:TE}{pos':Pos}(hN:X.N.Nodup)(hi:X.N[i]? = some x)(hx:Loc X.env.scope x)(he:PE X e te)(hs:swapsWith e (some (.Name x pos')) pos.line X.env=pure false:=by rfl)(hf:X.fn x=true∨X.env.scope.names.lookup x=some .local:=by first|exact .inl rfl|exact .inr rfl|assumption) :
  PS X (.Assign [.Name x pos'] e pos) (xM te (qh i)):=by
 intro pins s σ H D I h;refine wpAny_Assign_Name (thn (he pins s σ H _ I h) fun v s1 ⟨y,H1,I1,r1,q1⟩=>?_) hs;exact kY I1 hN hi hx r1 (fun s2 I2=>⟨_,H1,I2,q1⟩) hf
end
section
variable {X:Cx}{pos:Pos}
def xO (c:TT)(tb:TS):TS:=fun D σ H=>∃ W:Nat->St->Hp->Prop,(∃ m,W m σ H)/\∀ m σ H,W m σ H->
 c σ H fun b H1=>if b=true then ∃ N:St->Hp->Prop,(∀ σ' H',N σ' H'->∃ m',m' < m/\W m' σ' H')/\tb {D with nx:=N,ct:=N,bk:=D.nx} σ H1 else D.nx σ H1
theorem ql {c:Expr}{body:List Stmt}{tc:TT}{tb:TS}(hp:PassesOwn (model X.prog X.w) X.A X.env X.xe)(hc:PT X c tc)(hb:PSs X body tb):PS X (.While c body [] pos) (xO tc tb):=by
 intro pins s σ H D I h;obtain⟨W,⟨m0,w0⟩,turn⟩:=h;refine wpAny_While (codeAny_whileLoop (fun n s'=>∃ σ' H',Inv X pins σ' H' s'/\W n σ' H') ?_ m0 ⟨σ,H,I,w0⟩);rintro n s1 ⟨σ1,H1,I1,w1⟩;refine wpAny_passesOwn hp (thn (hc pins s1 σ1 H1 _ I1 (turn n σ1 H1 w1)) fun b s2 ⟨H2,I2,q2⟩=>?_);cases b with
 | true=>
  obtain⟨N,hN,q2⟩:=q2;rw[if_pos rfl];refine wpAny_passesOwn hp (thn (hb pins s2 σ1 H2 _ I2 q2) fun f s3 q3=>?_);cases f with
  | next=>obtain⟨σ3,H3,I3,n3⟩:=q3;obtain⟨m',hm,w3⟩:=hN σ3 H3 n3;exact⟨m',hm,σ3,H3,I3,w3⟩
  | cont=>obtain⟨σ3,H3,I3,n3⟩:=q3;obtain⟨m',hm,w3⟩:=hN σ3 H3 n3;exact⟨m',hm,σ3,H3,I3,w3⟩
  | brk=>exact q3
  | ret v=>exact q3
 | false=>rw[if_neg Bool.false_ne_true];exact wpAny_execs_nil ⟨σ1,H2,I2,q2⟩
end
structure It where
 go:Nat->Hp->Prop
 yld:Nat->Hp->V->Hp->Prop
 stop:Nat->Hp->Prop
def gz (X:Cx)(pins:List (Addr×Obj))(H:Hp)(b:Addr):Prop:=
 H b=none/\b≠X.env.locals/\b∉X.fs/\(b∈X.ex∨X.s₀.heap.objs.size<=b)/\(∀ x c,X.env.cells.lookup x=some c->c≠b)/\∀ p∈X.pn++pins,p.1≠b
theorem Inv.fpOk {X:Cx}{pins:List (Addr×Obj)}{σ:St}{H H':Hp}{s:Shared}{b:Addr}(I:Inv X pins σ H s)(hb:s.heap.objs.size<=b)(hn:H' b=none):gz X pins H' b:=by
 refine⟨hn,Nat.ne_of_gt (Nat.lt_of_lt_of_le I.lt hb),I.nofs hb,.inr (Nat.le_trans I.sz hb),fun x c e z=>?_,fun p hp z=>?_⟩
 ·obtain⟨v,q⟩:=I.cell x c e;exact absurd (Nat.lt_of_lt_of_le q.lt (by rw[z];exact hb)) (Nat.lt_irrefl _)
 ·exact absurd (Nat.lt_of_lt_of_le (Heap.lt_size (I.pin p hp).1) (by rw[z];exact hb)) (Nat.lt_irrefl _)
structure Turn (P:Program)(w:World)(K:PySem.W.Frag)(tg:Expr)(J:It)(fp:List Addr)(it:Addr)(tn:Nat->Heap->Prop):Prop where
 mem:it∈fp
 obj:∀ i h,tn i h->∀ b∈fp,∃ o,h.get? b=some o/\∀ v,o.data≠.cell v
 keep:∀ i h h',tn i h->(∀ b∈fp,∀ o,h.get? b=some o->h'.get? b=some o)->tn i h'
 item:∀ (X:Cx),X.prog=P->X.w=w->X.K=K->X.calm=true->∀ (i:Nat) (pins:List (Addr×Obj)) (s:Shared) (σ:St) (H:Hp) (E:Value->Shared->Prop),Inv X pins σ H s->(∀ b∈fp,gz X pins H b)->tn i s.heap->J.go i H->
  wpAny (model P w) X.A (pyNext (.ref it)) (fun r s1=>∃ u,r=some u/\
   wpAny (model P w) X.A (letOwnedTupleGo tg (.ref it) u) (fun _ s2=>∃ x H',Inv X pins σ H' s2/\RelV x u/\J.yld i H x H'/\tn (i+1) s2.heap/\∀ b∈fp,H' b=none) E s1) E s
 done:∀ (X:Cx),X.prog=P->X.w=w->X.K=K->X.calm=true->∀ (i:Nat) (pins:List (Addr×Obj)) (s:Shared) (σ:St) (H:Hp) (E:Value->Shared->Prop),Inv X pins σ H s->(∀ b∈fp,gz X pins H b)->tn i s.heap->J.stop i H->
  wpAny (model P w) X.A (pyNext (.ref it)) (fun r s1=>r=none/\Inv X pins σ H s1) E s
 self:∀ (A:Around) (i:Nat) (s:Shared) (Q:Value->Shared->Prop) (E:Value->Shared->Prop),tn i s.heap->Q (.ref it) s->wpAny (model P w) A (pyIter (.ref it)) Q E s
noncomputable abbrev TI:=St->Hp->(It->Hp->Prop)->Prop
def PIE (X:Cx)(pins:List (Addr×Obj))(σ:St)(tg:Expr)(R:It->Hp->Prop)(itv:Value)(s2:Shared):Prop:=
 ∃ (it:Addr) (fp:List Addr) (tn:Nat->Heap->Prop) (J:It) (H':Hp),itv=.ref it/\Inv X pins σ H' s2/\Turn X.prog X.w X.K tg J fp it tn/\tn 0 s2.heap/\(∀ b∈fp,gz X pins H' b)/\R J H'
def PI (X:Cx)(tg iter:Expr)(wi:TI):Prop:=
 ∀ (pins:List (Addr×Obj)) (s:Shared) (σ:St) (H:Hp) (R:It->Hp->Prop),Inv X pins σ H s->wi σ H R->
  wpAny (model X.prog X.w) X.A (eval iter X.env) (fun v s1=>wpAny (model X.prog X.w) X.A (pyIter v) (PIE X pins σ tg R) X.xe s1) X.xe s
theorem nO {M : Model}{A : Around}{E : Value -> Shared -> Prop}{s : Shared}{tg : Expr}{it : Addr}{u : Value}{o : Obj}{n : String}{vs : Array Value}{Q : Unit -> Shared -> Prop}(ho : s.heap.get? it = some o)(hc : o.cls = .type n)(hd : o.data = .fields vs)
    (hn : ["enumerate", "zip", "dict_itemiterator", "dict_reverseitemiterator", "odict_iterator", "itertools.zip_longest", "itertools.pairwise"].contains n = false) (hQ : Q () s) : wpAny M A (letOwnedTupleGo tg (.ref it) u) Q E s := by
  unfold letOwnedTupleGo;cases tg <;> first
    | exact wpAny_pure hQ
    | (cases u <;> first
        | exact wpAny_pure hQ
        | (refine wpAny_bind (wpAny_load ho ?_)
           rw [hc, hd];show wpAny M A (if (["enumerate", "zip", "dict_itemiterator", "dict_reverseitemiterator", "odict_iterator", "itertools.zip_longest", "itertools.pairwise"].contains n&&vs[0]? == some (rawInt _)) = true then _ else _) Q E s;rw [if_neg (by intro h; rw [hn, Bool.false_and] at h; cases h)]
           exact wpAny_pure hQ))
noncomputable def Itl (K:PySem.W.Frag)(a:Addr):It:=
 ⟨fun i H=>∃ xs x,SqL K H a xs/\xs[i]? = some x,fun i H x H'=>H'=H/\∀ xs,SqL K H a xs->xs[i]? = some x,fun i H=>∃ xs,SqL K H a xs/\xs.length<=i⟩
noncomputable def Itt (K:PySem.W.Frag)(a:Addr):It:=
 ⟨fun i H=>∃ xs x,SqT K H a xs/\xs[i]? = some x,fun i H x H'=>H'=H/\∀ xs,SqT K H a xs->xs[i]? = some x,fun i H=>∃ xs,SqT K H a xs/\xs.length<=i⟩
noncomputable def Itr (lo:Int)(n:Nat):It:=⟨fun i _=>i < n,fun i H x H'=>H'=H/\x=.int (lo+i),fun i _=>n<=i⟩
theorem pq {P:Program}{w:World}{K:PySem.W.Frag}{tg:Expr}(a it:Addr):Turn P w K tg (Itl K a) [it] it (fun i h=>h.IsListIter it a i) where
 mem:=by simp
 obj:=fun i h st b hb=>by
  have e:b=it:=by simpa using hb
  subst e;obtain⟨o,e,c,d⟩:=st;exact⟨o,e,fun v z=>by rw[d] at z;cases z⟩
 keep:=fun i h h' st k=>st.at fun o e=>k it (by simp) o e
 item:=by intro X hP hw hK hc i pins s σ H E I hf st hg;subst hP hw hK;obtain⟨xs,x,hq,hx⟩:=hg;obtain⟨its,rv,p,hz⟩:=I.list hq;obtain⟨u,hu,ru⟩:=rv.get hx;obtain⟨f0,f1,f2,f3,f4,f5⟩:=hf it (by simp);refine wpAny_pyNext_list_item st p.isList (x:=u) (by simpa using hu) fun h' st' sb=>?_;have I1:Inv X pins σ H {s with heap:=h'}:=I.turned (t':=s.toks) (fun b o hb e=>(sb.2 b hb).trans e) f0 f1 f3 f4 f5;obtain⟨o,e,c,d⟩:=id st';exact⟨u,rfl,nO (s:={s with heap:=h'}) e c d (by decide) ⟨x,H,I1,ru,⟨rfl,fun ys hy=>by rw[I.list_inj hy hq];exact hx⟩,st',fun b hb=>(hf b hb).1⟩⟩
 done:=by intro X hP hw hK hc i pins s σ H E I hf st hg;subst hP hw hK;obtain⟨xs,hq,hx⟩:=hg;obtain⟨its,rv,p,hz⟩:=I.list hq;obtain⟨f0,f1,f2,f3,f4,f5⟩:=hf it (by simp);have hl:=rv.length;exact wpAny_pyNext_list_end (I.ok.hd hc) st p.isList (by simp;omega) fun h' eb=>⟨rfl,I.turned (t':=s.toks) (fun b o hb e=>eb b o hb e) f0 f1 f3 f4 f5⟩
 self:=fun _ _ _ _ _ st h=>wpAny_pyIter_listiter st h
theorem mI {P:Program}{w:World}{K:PySem.W.Frag}{tg:Expr}(a it:Addr):Turn P w K tg (Itt K a) [it] it (fun i h=>h.IsTupleIter it a i) where
 mem:=by simp
 obj:=fun i h st b hb=>by
  have e:b=it:=by simpa using hb
  subst e;obtain⟨o,e,c,d⟩:=st;exact⟨o,e,fun v z=>by rw[d] at z;cases z⟩
 keep:=fun i h h' st k=>st.at fun o e=>k it (by simp) o e
 item:=by intro X hP hw hK hc i pins s σ H E I hf st hg;subst hP hw hK;obtain⟨xs,x,hq,hx⟩:=hg;obtain⟨its,rv,p,hz⟩:=I.tuple hq;obtain⟨u,hu,ru⟩:=rv.get hx;obtain⟨f0,f1,f2,f3,f4,f5⟩:=hf it (by simp);refine wpAny_pyNext_tuple_item st (show s.heap.IsTuple a its.toArray from p) (x:=u) (by simpa using hu) fun h' st' sb=>?_;have I1:Inv X pins σ H {s with heap:=h'}:=I.turned (t':=s.toks) (fun b o hb e=>(sb.2 b hb).trans e) f0 f1 f3 f4 f5;obtain⟨o,e,c,d⟩:=id st';exact⟨u,rfl,nO (s:={s with heap:=h'}) e c d (by decide) ⟨x,H,I1,ru,⟨rfl,fun ys hy=>by rw[I.tuple_inj hy hq];exact hx⟩,st',fun b hb=>(hf b hb).1⟩⟩
 done:=by intro X hP hw hK hc i pins s σ H E I hf st hg;subst hP hw hK;obtain⟨xs,hq,hx⟩:=hg;obtain⟨its,rv,p,hz⟩:=I.tuple hq;obtain⟨f0,f1,f2,f3,f4,f5⟩:=hf it (by simp);have hl:=rv.length;exact wpAny_pyNext_tuple_end (I.ok.hd hc) st (show s.heap.IsTuple a its.toArray from p) (by simp;omega) fun h' eb=>⟨rfl,I.turned (t':=s.toks) (fun b o hb e=>eb b o hb e) f0 f1 f3 f4 f5⟩
 self:=fun _ _ _ _ _ st h=>wpAny_pyIter_tupleiter st h
theorem mJ {P:Program}{w:World}{K:PySem.W.Frag}{tg:Expr}(it:Addr)(lo:Int)(n:Nat):Turn P w K tg (Itr lo n) [it] it (fun i h=>IsRangeIter h it (lo+(i:Nat)*1) ((n:Int) - (i:Nat)) 1) where
 mem:=by simp
 obj:=fun i h st b hb=>by
  have e:b=it:=by simpa using hb
  subst e
  exact⟨_,st,fun v z=>by
   have z':Data.fields _=Data.cell v:=z
   cases z'⟩
 keep:=fun i h h' st k=>k it (by simp) _ st
 item:=by intro X hP hw hK hc i pins s σ H E I hf st hg;subst hP hw hK;obtain⟨f0,f1,f2,f3,f4,f5⟩:=hf it (by simp);have W:=Walks.range (prog:=X.prog) (w:=X.w) (I.ok.hd hc) it lo 1 n;refine W.item i s _ _ hg st fun v h' tk hv st' kk=>?_;obtain⟨t,rfl⟩:=hv;have I1:Inv X pins σ H {s with heap:=h',toks:=tk}:=I.turned (fun b o hb e=>kk b o (by simpa using hb) e) f0 f1 f3 f4 f5;refine⟨_,rfl,nO (s:={s with heap:=h',toks:=tk}) (n:="range_iterator") st' rfl rfl (by decide) ⟨.int (lo+i),H,I1,⟨t,?_⟩,⟨rfl,rfl⟩,st',fun b hb=>(hf b hb).1⟩⟩;rw[Int.mul_one]
 done:=by intro X hP hw hK hc i pins s σ H E I hf st hg;subst hP hw hK;obtain⟨f0,f1,f2,f3,f4,f5⟩:=hf it (by simp);exact wpAny_pyNext_range_end (I.ok.hd hc) st (by have:n<=i:=hg;omega) fun h' eb=>⟨rfl,I.turned (t':=s.toks) (fun b o hb e=>eb b o hb e) f0 f1 f3 f4 f5⟩
 self:=fun _ _ _ _ _ st h=>wpAny_pyIter_rangeiter st h
section
variable {X:Cx}{tg:Expr}
theorem k9 {pins:List (Addr×Obj)}{σ:St}{H:Hp}{s:Shared}{R:It->Hp->Prop}{E:Value->Shared->Prop}{lo hi:Int}{t u v:Tok}{tk:Nat}(I:Inv X pins σ H s)(h1 : -(2 ^ 62)<=lo)(h2:lo < 2 ^ 62)(h3 : -(2 ^ 62)<=hi)(h4:hi < 2 ^ 62)
  (q:R (Itr lo (hi - lo).toNat) H):wpAny (model X.prog X.w) X.A (pyIter (.ref s.heap.objs.size)) (PIE X pins σ tg R) E {s with heap:=s.heap.push {cls:=.type "range",data:=.fields #[.int lo t,.int hi u,.int 1 v]},toks:=tk}:=by
 refine wpAny_pyIter_range (IsRange.new ..) (small_one h1 h2 h3 h4) ?_;have I1:Inv X pins σ H {s with heap:=s.heap.push {cls:=.type "range",data:=.fields #[.int lo t,.int hi u,.int 1 v]},toks:=tk}:=I.kept fun b o e=>Heap.get?_push_of_some _ e
 refine⟨(s.heap.push {cls:=.type "range",data:=.fields #[.int lo t,.int hi u,.int 1 v]}).objs.size,[(s.heap.push {cls:=.type "range",data:=.fields #[.int lo t,.int hi u,.int 1 v]}).objs.size],_,_,H,rfl,
  I1.kept (t':=tk) fun b o e=>Heap.get?_push_of_some _ e,mJ _ lo (hi - lo).toNat,?_,fun b hb=>?_,q⟩
 ·have e1:lo+((0:Nat):Int)*1=lo:=by simp
  have e2:(((hi - lo).toNat:Nat):Int) - ((0:Nat):Int)=Builtin.Range.rangeSize lo hi 1:=by rw[rangeSize_one];split<;>omega
  show IsRangeIter _ _ (lo+((0:Nat):Int)*1) ((((hi - lo).toNat:Nat):Int) - ((0:Nat):Int)) 1;rw[e1,e2];exact Heap.get?_push_size _ rfl
 ·have e:b=(s.heap.push {cls:=.type "range",data:=.fields #[.int lo t,.int hi u,.int 1 v]}).objs.size:=by simpa using hb
  subst e;exact I1.fpOk (Nat.le_refl _) (I1.hok.fresh (Nat.le_refl _))
def Aj (ta:TA):TI:=fun σ H R=>ta σ H fun vs H1=>∃ j:Int,vs=[.int j]/\-(2 ^ 62)<=j/\j < 2 ^ 62/\R (Itr 0 j.toNat) H1
def Ak (ta:TA):TI:=fun σ H R=>ta σ H fun vs H1=>∃ i j:Int,vs=[.int i,.int j]/\(-(2 ^ 62)<=i/\i < 2 ^ 62/\-(2 ^ 62)<=j/\j < 2 ^ 62)/\R (Itr i (j - i).toNat) H1
theorem jL {a:Expr}{ta:TA}{p pos:Pos}(hg:Gl X "range") (hm:X.mg "range" = none) (ha:PA X [a] ta) (hs:starEach [a] X.env=[(false,eval a X.env)]:=by rfl):PI X tg (.Call (.Name "range" p) [a] [] pos) (Aj ta):=by
 intro pins s σ H R I h;refine Call_ (fq I hg hm boot_range (PyProof.Rows.callWith_type1 (thn (ha pos pins s σ H _ I h) fun us s1 ⟨vs,H1,I1,r1,q1⟩=>?_) hs rfl));obtain⟨j,e,q1,q2,q⟩:=q1;subst e;cases r1 with
 | cons r rr=>cases rr;obtain⟨t,rfl⟩:=r;exact call_range_1 (k9 I1 (by omega) (by omega) q1 q2 (by simpa using q))
theorem jM {a b:Expr}{ta:TA}{p pos:Pos}(hg:Gl X "range") (hm:X.mg "range" = none) (ha:PA X [a,b] ta) (hs:starEach [a,b] X.env=[(false,eval a X.env),(false,eval b X.env)]:=by rfl) (hs2:starEach [b] X.env=[(false,eval b X.env)]:=by rfl) :
  PI X tg (.Call (.Name "range" p) [a,b] [] pos) (Ak ta):=by
 intro pins s σ H R I h;refine Call_ (fq I hg hm boot_range (PyProof.Rows.callWith_type1 (thn (ha pos pins s σ H _ I h) fun us s1 ⟨vs,H1,I1,r1,q1⟩=>?_) (by rw[hs,hs2]) (by rw[hs2];rfl)));obtain⟨i,j,e,⟨q1,q2,q3,q4⟩,q⟩:=q1;subst e;cases r1 with
 | cons r rr=>
  cases rr with
  | cons r' rr=>cases rr;obtain⟨t,rfl⟩:=r;obtain⟨t',rfl⟩:=r';exact call_range_2 (k9 I1 q1 q2 q3 q4 q)
def CU (wi:TI)(g:TG)(tb:TS):TS:=fun D σ H=>wi σ H fun J H1=>∃ W:Nat->Nat->St->Hp->Prop,(∃ m,W 0 m σ H1)/\∀ i m σ H,W i m σ H->
 (J.stop i H/\D.nx σ H)∨(J.go i H/\∃ N:St->Hp->Prop,(∀ σ' H',N σ' H'->∃ m',m' < m/\W (i+1) m' σ' H')/\∀ x H',J.yld i H x H'->g x σ H' fun σ2 H2=>tb {D with nx:=N,ct:=N,bk:=D.nx} σ2 H2)
noncomputable def hU (fp:List Addr)(h:Heap):List (Addr×Obj):=fp.filterMap fun b=>(h.get? b).map fun o=>(b,o)
theorem fQ {fp:List Addr}{h:Heap}{b:Addr}{o:Obj}(hb:b∈fp)(e:h.get? b=some o):(b,o)∈hU fp h:=List.mem_filterMap.mpr ⟨b,hb,by rw[e];rfl⟩
theorem pv {fp:List Addr}{h:Heap}{p:Addr×Obj}(hp:p∈hU fp h):p.1∈fp/\h.get? p.1=some p.2:=by
 obtain⟨b,hb,e⟩:=List.mem_filterMap.mp hp;cases q:h.get? b with
 | none=>rw[q] at e;cases e
 | some o=>rw[q] at e;have e':(b,o)=p:=Option.some.inj e;subst e';exact⟨hb,q⟩
theorem Inv.pinned {pins:List (Addr×Obj)}{σ:St}{H:Hp}{s:Shared}{fp:List Addr}(I:Inv X pins σ H s)(hf:∀ b∈fp,gz X pins H b)(ho:∀ b∈fp,∃ o,s.heap.get? b=some o/\∀ v,o.data≠.cell v):Inv X (pins++hU fp s.heap) σ H s:=
 I.pins_of fun p hp=>(List.mem_append.mp hp).elim (fun z=>I.pin p (List.mem_append_right _ z)) fun z=>by obtain⟨hb,e⟩:=pv z;obtain⟨f0,f1,f2,_⟩:=hf p.1 hb;obtain⟨o,e',d⟩:=ho p.1 hb;rw[e] at e';cases e';exact⟨e,f0,f1,f2,d⟩
theorem Inv.unpinned {pins pl:List (Addr×Obj)}{σ:St}{H:Hp}{s:Shared}(I:Inv X (pins++pl) σ H s):Inv X pins σ H s:=I.pins_of fun p hp=>I.pin p (List.mem_append_right _ (List.mem_append_left _ hp))
theorem mK {iter:Expr}{body:List Stmt}{wi:TI}{g:TG}{tb:TS}{pos:Pos}(hp:PassesOwn (model X.prog X.w) X.A X.env X.xe)(hc:X.calm=true)(hi:PI X tg iter wi)(hg:PG X tg g)(hb:PSs X body tb)
  (hs:∀ x,foldedSetIterable iter X.env x=pure x:=by intro _;rfl):PS X (.For tg iter body [] pos) (CU wi g tb):=by
 intro pins s σ H D I h;refine wpAny_For (thn (hi pins s σ H _ I h) fun v s1 h1=>thn h1 fun itv s2 h2=>?_) hs;obtain⟨it,fp,tn,J,H2,e,I2,T,st2,f2,W,⟨m0,w0⟩,turn⟩:=h2;subst e
 -- what stays true of the iterator's objects through the loop
 have stat:∀ {H':Hp},(∀ b∈fp,H' b=none)->∀ b∈fp,gz X pins H' b:=fun hn b hb=>⟨hn b hb,(f2 b hb).2⟩
 refine codeAny_forLoop_any (fun n s'=>∃ i σ' H',Inv X pins σ' H' s'/\tn i s'.heap/\(∀ b∈fp,H' b=none)/\W i n σ' H') ?_ m0 ⟨0,σ,H2,I2,st2,fun b hb=>(f2 b hb).1,w0⟩;rintro n s3 ⟨i,σ3,H3,I3,st3,fr3,w3⟩;rcases turn i n σ3 H3 w3 with ⟨stop,qn⟩|⟨go,N,hN,step⟩
 ·refine wpAny_passesOwn hp (thn (T.done X rfl rfl rfl hc i pins s3 σ3 H3 X.xe I3 (stat fr3) st3 stop) fun r s4 ⟨hr,I4⟩=>?_);subst hr;exact wpAny_execs_nil ⟨σ3,H3,I4,qn⟩
 ·refine wpAny_passesOwn hp (thn (T.item X rfl rfl rfl hc i pins s3 σ3 H3 X.xe I3 (stat fr3) st3 go) fun r s4 ⟨u,hr,h4⟩=>?_);subst hr;refine wpAny_passesOwn hp (thn h4 fun _ s5 ⟨x,H5,I5,r5,y5,st5,fr5⟩=>?_);have I5':=I5.pinned (stat fr5) (T.obj _ _ st5);refine wpAny_passesOwn hp (thn (hg _ s5 σ3 H5 x u _ I5' r5 (step x H5 y5)) fun _ s6 ⟨σ6,H6,I6,q6⟩=>?_);refine wpAny_passesOwn hp (thn (hb _ s6 σ6 H6 _ I6 q6) fun f s7 q7=>?_);have again:∀ {σ7:St}{H7:Hp},Inv X (pins++hU fp s5.heap) σ7 H7 s7->N σ7 H7->∃ m,m < n/\∃ i σ' H',Inv X pins σ' H' s7/\tn i s7.heap/\(∀ b∈fp,H' b=none)/\W i m σ' H':=fun {σ7 H7} I7 n7=>by obtain⟨m',hm,w7⟩:=hN σ7 H7 n7;refine⟨m',hm,i+1,σ7,H7,I7.unpinned,T.keep _ _ _ st5 fun b hb o e=>(I7.pin (b,o) (List.mem_append_right _ (List.mem_append_right _ (fQ hb e)))).1,fun b hb=>?_,w7⟩;obtain⟨o,e,d⟩:=T.obj _ _ st5 b hb;exact(I7.pin (b,o) (List.mem_append_right _ (List.mem_append_right _ (fQ hb e)))).2.1
  cases f with
  | next=>obtain⟨σ7,H7,I7,n7⟩:=q7;exact again I7 n7
  | cont=>obtain⟨σ7,H7,I7,n7⟩:=q7;exact again I7 n7
  | brk=>obtain⟨σ7,H7,I7,q7⟩:=q7;exact⟨σ7,H7,I7.unpinned,q7⟩
  | ret v=>obtain⟨x7,σ7,H7,I7,r7,q7⟩:=q7;exact⟨x7,σ7,H7,I7.unpinned,r7,q7⟩
end
noncomputable abbrev R2:=V->V->Hp->VK->Prop
def OpR (X:Cx)(f:Value->Value->Sem Value)(r:R2):Prop:=
 ∀ (pins:List (Addr×Obj)) (s:Shared) (σ:St) (H:Hp) (x y:V) (v u:Value) (Q:VK),Inv X pins σ H s->RelV x v->RelV y u->r x y H Q->
  wpAny (model X.prog X.w) X.A (f v u) (EP X pins σ Q) X.xe s
def UnR (X:Cx)(f:Value->Sem Value)(r:V->Hp->VK->Prop):Prop:=
 ∀ (pins:List (Addr×Obj)) (s:Shared) (σ:St) (H:Hp) (x:V) (v:Value) (Q:VK),Inv X pins σ H s->RelV x v->r x H Q->
  wpAny (model X.prog X.w) X.A (f v) (EP X pins σ Q) X.xe s
def eS (X:Cx)(f:Value)(r:List V->Hp->VK->Prop):Prop:=
 ∀ (pins:List (Addr×Obj)) (s:Shared) (σ:St) (H:Hp) (xs:List V) (us:List Value) (Q:VK),Inv X pins σ H s->Vals xs us->r xs H Q->
  wpAny (model X.prog X.w) X.A (call f us) (EP X pins σ Q) X.xe s
def CV (X:Cx)(r:V->Hp->(Bool->Hp->Prop)->Prop):Prop:=
 ∀ (pins:List (Addr×Obj)) (s:Shared) (σ:St) (H:Hp) (x:V) (v:Value) (Q:Bool->Hp->Prop),Inv X pins σ H s->RelV x v->r x H Q->
  wpAny (model X.prog X.w) X.A (truthy v) (TP X pins σ Q) X.xe s
def tOp (r:R2)(ta tb:TE):TE:=fun σ H Q=>ta σ H fun x H1=>tb σ H1 fun y H2=>r x y H2 Q
def tUn (r:V->Hp->VK->Prop)(ta:TE):TE:=fun σ H Q=>ta σ H fun x H1=>r x H1 Q
noncomputable def rI (C:Int->Int->Prop)(g:Int->Int->V):R2:=fun x y H Q=>∃ i j,x=.int i/\y=.int j/\C i j/\Q (g i j) H
noncomputable def rI0 (g:Int->Int->V):R2:=fun x y H Q=>∃ i j,x=.int i/\y=.int j/\Q (g i j) H
def rU (g:Int->V):V->Hp->VK->Prop:=fun x H Q=>∃ i,x=.int i/\Q (g i) H
section
variable {X:Cx}{a b c:Expr}{ta tb tc:TE}{pos:Pos}
theorem xP (ha:PE X a ta)(hb:PE X b tb){pins:List (Addr×Obj)}{s:Shared}{σ:St}{H:Hp}{R:V->V->Hp->Prop}(I:Inv X pins σ H s)
  (h:ta σ H fun x H1=>tb σ H1 fun y H2=>R x y H2) {Q:Value->Shared->Prop}{f:Value->Value->Sem Value}
  (hf:∀ v u s2 x y H2,Inv X pins σ H2 s2->RelV x v->RelV y u->R x y H2->wpAny (model X.prog X.w) X.A (f v u) Q X.xe s2) :
  wpAny (model X.prog X.w) X.A (eval a X.env) (fun v s₁=>wpAny (model X.prog X.w) X.A (eval b X.env) (fun u s₂=>wpAny (model X.prog X.w) X.A (f v u) Q X.xe s₂) X.xe s₁) X.xe s:=by
 refine thn (ha pins s σ H _ I h) fun v s1 ⟨x,H1,I1,r1,q1⟩=>?_;refine thn (hb pins s1 σ H1 _ I1 q1) fun u s2 ⟨y,H2,I2,r2,q2⟩=>?_;exact hf v u s2 x y H2 I2 r1 r2 q2
theorem qm {op:Operator}{r:R2}(ho:OpR X (binaryOp op) r)(ha:PE X a ta)(hb:PE X b tb):PE X (.BinOp a op b pos) (tOp r ta tb):=by intro pins s σ H Q I h;exact wpAny_BinOp (xP ha hb I h fun v u s2 x y H2 I2 rx ry q=>ho pins s2 σ H2 x y v u Q I2 rx ry q)
theorem Al {op:UnaryOp}{r:V->Hp->VK->Prop}(ho:UnR X (unaryOp op) r)(ha:PE X a ta):PE X (.UnaryOp op a pos) (tUn r ta):=by intro pins s σ H Q I h;exact UnaryOp_ (thn (ha pins s σ H _ I h) fun v s1 ⟨x,H1,I1,r1,q1⟩=>ho pins s1 σ H1 x v Q I1 r1 q1)
theorem opI {f:Value->Value->Sem Value}{C:Int->Int->Prop}{g:Int->Int->Int}
  (rule:∀ (i j:Int) (t u:Tok) (s:Shared) (Q:Value->Shared->Prop) (E:Value->Shared->Prop),C i j->Q (.int (g i j) s.toks) {s with toks:=s.toks+1}->wpAny (model X.prog X.w) X.A (f (.int i t) (.int j u)) Q E s) :
  OpR X f (rI C fun i j=>.int (g i j)):=by
 intro pins s σ H x y v u Q I rx ry h;obtain⟨i,j,rfl,rfl,hc,q⟩:=h;obtain⟨t,rfl⟩:=rx;obtain⟨t',rfl⟩:=ry;exact rule i j t t' s _ _ hc ⟨.int (g i j),H,I.tok _,⟨_,rfl⟩,q⟩
theorem Am {f:Value->Value->Sem Value}{g:Int->Int->Int}
  (rule:∀ (i j:Int) (t u:Tok) (s:Shared) (Q:Value->Shared->Prop) (E:Value->Shared->Prop),Q (.int (g i j) s.toks) {s with toks:=s.toks+1}->wpAny (model X.prog X.w) X.A (f (.int i t) (.int j u)) Q E s) :
  OpR X f (rI0 fun i j=>.int (g i j)):=by
 intro pins s σ H x y v u Q I rx ry h;obtain⟨i,j,rfl,rfl,q⟩:=h;obtain⟨t,rfl⟩:=rx;obtain⟨t',rfl⟩:=ry;exact rule i j t t' s _ _ ⟨.int (g i j),H,I.tok _,⟨_,rfl⟩,q⟩
def CW (i j:Int):Prop:=0 < j/\j < 1073741824
def CY (i j:Int):Prop:=0<=j/\j<=1000000/\i.natAbs < 2 ^ 64
def xQ (i j:Int):Prop:=(-(2 ^ 64) < i/\i < 2 ^ 64)∨(-(2 ^ 64) < j/\j < 2 ^ 64)
theorem xQ.ok {i j:Int}(h:xQ i j):IntMulOk i j:=by
 rcases h with ⟨h1,h2⟩|⟨h1,h2⟩
 ·exact .of_left (intBits_le_64 h1 h2)
 ·exact .of_right (intBits_le_64 h1 h2)
theorem xR:OpR X (binaryOp .Add) (rI0 fun i j=>.int (i+j)):=Am fun _ _ _ _ _ _ _ q=>add_int q
theorem xS:OpR X (binaryOp .Sub) (rI0 fun i j=>.int (i - j)):=Am fun _ _ _ _ _ _ _ q=>sub_int q
theorem xT:OpR X (binaryOp .Mult) (rI xQ fun i j=>.int (i*j)):=opI fun _ _ _ _ _ _ _ hc q=>mul_int q hc.ok
theorem t5:OpR X (binaryOp .FloorDiv) (rI CW fun i j=>.int (i / j)):=opI fun i j _ _ _ _ _ hc q=>by have h1:(0:Int) < j:=hc.1;have h2:j < 1073741824:=hc.2;exact floordiv_int (by omega) (by rw[Int.fdiv_eq_ediv_of_nonneg i (by omega)];exact q) (.inl (PyProof.noPylong_small (by omega)))
theorem xU:OpR X (binaryOp .Mod) (rI (fun _ j=>0 < j) fun i j=>.int (i % j)):=opI fun i j _ _ _ _ _ hc q=>by have h1:(0:Int) < j:=hc;exact mod_int' (by omega) (by rw[Int.fmod_eq_emod_of_nonneg i (by omega)];exact q)
theorem xV:OpR X (binaryOp .Pow) (rI CY fun i j=>.int (i ^ j.toNat)):=opI fun _ _ _ _ _ _ _ hc q=>pow_int_small hc.1 hc.2.1 hc.2.2 q
theorem unI {f:Value->Sem Value}{g:Int->Int}
  (rule:∀ (i:Int) (t:Tok) (s:Shared) (Q:Value->Shared->Prop) (E:Value->Shared->Prop),Q (.int (g i) s.toks) {s with toks:=s.toks+1}->wpAny (model X.prog X.w) X.A (f (.int i t)) Q E s) :
  UnR X f (rU fun i=>.int (g i)):=by
 intro pins s σ H x v Q I rx h;obtain⟨i,rfl,q⟩:=h;obtain⟨t,rfl⟩:=rx;exact rule i t s _ _ ⟨.int (g i),H,I.tok _,⟨_,rfl⟩,q⟩
theorem xW:UnR X (unaryOp .USub) (rU fun i=>.int (-i)):=unI fun _ _ _ _ _ q=>neg_int q
end
section
variable {X:Cx}{a b c:Expr}{ta tb tc:TE}{pos:Pos}
theorem t6 {op:CmpOp}{r:R2}(ho:OpR X (compareOp op) r)(ha:PE X a ta)(hb:PE X b tb)(hm:behindInMarks op b=false):PE X (.Compare a [op] [b] pos) (tOp r ta tb):=by intro pins s σ H Q I h;exact wpAny_Compare1 (xP ha hb I h fun v u s2 x y H2 I2 rx ry q=>ho pins s2 σ H2 x y v u Q I2 rx ry q) hm
def vJ (t:TE):TT:=fun σ H Q=>t σ H fun x H'=>∃ k,x=.bl k/\Q k H'
theorem t7 {op:CmpOp}{r:R2}(ho:OpR X (compareOp op) r)(ha:PE X a ta)(hb:PE X b tb)(hm:behindInMarks op b=false):PT X (.Compare a [op] [b] pos) (vJ (tOp r ta tb)):=by
 intro pins s σ H Q I h
 refine wpAny_isTrue_Compare1 (thn (ha pins s σ H _ I h) fun v s1 ⟨x,H1,I1,r1,q1⟩=>thn (hb pins s1 σ H1 _ I1 q1) fun u s2 ⟨y,H2,I2,r2,q2⟩=>
  thn (ho pins s2 σ H2 x y v u _ I2 r1 r2 q2) fun c s3 ⟨z,H3,I3,r3,k,e,q3⟩=>?_) hm
 subst e;cases r3;exact wpAny_truthy_bool ⟨H3,I3,q3⟩
def qo (r r':R2)(ta tb tc:TE):TE:=fun σ H Q=>ta σ H fun x H1=>tb σ H1 fun y H2=>r x y H2 fun z H3=>∃ k,z=.bl k/\
 (if k=true then tc σ H3 fun w' H4=>r' y w' H4 Q else Q (.bl false) H3)
theorem qp {op op':CmpOp}{r r':R2}(ho:OpR X (compareOp op) r)(ho':OpR X (compareOp op') r')(ha:PE X a ta)(hb:PE X b tb)(hc:PE X c tc)
  (hm:lastMarks [op,op'] [b,c]=false:=by with_unfolding_all rfl):PE X (.Compare a [op,op'] [b,c] pos) (qo r r' ta tb tc):=by
 intro pins s σ H Q I h
 refine Compare_chain (thn (ha pins s σ H _ I h) fun v s1 ⟨x,H1,I1,r1,q1⟩=>chain_link (thn (hb pins s1 σ H1 _ I1 q1) fun u s2 ⟨y,H2,I2,r2,q2⟩=>
  thn (ho pins s2 σ H2 x y v u _ I2 r1 r2 q2) fun d s3 ⟨z,H3,I3,r3,k,e,q3⟩=>?_)) hm
 subst e;cases r3;refine wpAny_truthy_bool ?_;cases k with
 | false=>exact ite_ff ⟨.bl false,H3,I3,rfl,q3⟩
 | true=>exact ite_tt (chain_last (thn (hc pins s3 σ H3 _ I3 q3) fun w' s4 ⟨z',H4,I4,r4,q4⟩=>ho' pins s4 σ H4 y z' u w' Q I4 r2 r4 q4))
theorem qr {op op':CmpOp}{r r':R2}(ho:OpR X (compareOp op) r)(ho':OpR X (compareOp op') r')(ha:PE X a ta)(hb:PE X b tb)(hc:PE X c tc)
  (hm:lastMarks [op,op'] [b,c]=false:=by with_unfolding_all rfl):PT X (.Compare a [op,op'] [b,c] pos) (vJ (qo r r' ta tb tc)):=by
 intro pins s σ H Q I h
 refine isTrue_chain (thn (ha pins s σ H _ I h) fun v s1 ⟨x,H1,I1,r1,q1⟩=>test_link (thn (hb pins s1 σ H1 _ I1 q1) fun u s2 ⟨y,H2,I2,r2,q2⟩=>
  thn (ho pins s2 σ H2 x y v u _ I2 r1 r2 q2) fun d s3 ⟨z,H3,I3,r3,k,e,q3⟩=>?_)) hm
 subst e;cases r3;refine wpAny_truthy_bool ?_;cases k with
 | false=>obtain⟨k',e',q'⟩:=q3;cases e';exact ite_ff ⟨H3,I3,q'⟩
 | true=>refine ite_tt (test_last (thn (hc pins s3 σ H3 _ I3 q3) fun w' s4 ⟨z',H4,I4,r4,q4⟩=>thn (ho' pins s4 σ H4 y z' u w' _ I4 r2 r4 q4) fun d' s5 ⟨z2,H5,I5,r5,k2,e2,q5⟩=>?_));subst e2;cases r5;exact wpAny_truthy_bool ⟨H5,I5,q5⟩
def CZ (K:PySem.W.Frag)(x:V)(H:Hp)(k:Bool):Prop:=
 match x with
 | .non=>k=false
 | .bl b=>k=b
 | .int i=>k=(i != 0)
 | .str y=>y.length<=sizeLine/\k=((y.length:Int) != 0)
 | .byt y=>y.size<=sizeLine/\k=((y.size:Int) != 0)
 | .ref p=>(∃ xs,SqL K H p xs/\k = !xs.isEmpty)∨(∃ xs,SqT K H p xs/\k = !xs.isEmpty)∨∃ kvs,H p=some (.dK kvs)/\k = !kvs.isEmpty
 | _=>False
theorem mL {κ:Type}{kvs:List (κ×V)}{vs:List (κ×Value)}(r:KV kvs vs):(!vs.isEmpty) = !kvs.isEmpty:=by cases r<;>rfl
theorem iV {xs:List V}{its:List Value}(r:Vals xs its):(!its.toArray.isEmpty) = !xs.isEmpty:=by cases r<;>simp
theorem iW:(sizeLine:Nat) < 2 ^ 63:=by rw[sizeLine_eq];decide
theorem xX:CV X (fun x H Q=>∃ k,CZ X.K x H k/\Q k H):=by
 intro pins s σ H x v Q I rx h;obtain⟨k,e,q⟩:=h;have hl:=iW;have hs:sizeLine=16777216:=sizeLine_eq;cases x with
 | non=>cases rx;have e':k=false:=e;subst e';exact truthy_none ⟨H,I,q⟩
 | bl b=>cases rx;have e':k=b:=e;subst e';exact wpAny_truthy_bool ⟨H,I,q⟩
 | int i=>obtain⟨t,rfl⟩:=rx;have e':k=(i != 0):=e;subst e';exact PySem.P.truthy_int ⟨H,I,q⟩
 | str y=>obtain⟨t,rfl⟩:=rx;obtain⟨hy,e'⟩:y.length<=sizeLine/\k=((y.length:Int) != 0):=e;subst e';exact PySem.P.truthy_str (by omega) ⟨H,I.tok _,q⟩
 | byt y=>obtain⟨t,rfl⟩:=rx;obtain⟨hy,e'⟩:y.size<=sizeLine/\k=((y.size:Int) != 0):=e;subst e';exact PySem.W.truthy_bytes (by omega) ⟨H,I.tok _,q⟩
 | ref p=>
  cases rx;have e':(∃ xs,SqL X.K H p xs/\k = !xs.isEmpty)∨(∃ xs,SqT X.K H p xs/\k = !xs.isEmpty)∨∃ kvs,H p=some (.dK kvs)/\k = !kvs.isEmpty:=e;rcases e' with ⟨xs,hx,e'⟩|⟨xs,hx,e'⟩|⟨kvs,hx,e'⟩
  ·subst e';obtain⟨its,r,pl,hz⟩:=I.list hx;have hlen:=r.length;exact wpAny_truthy_list pl.isList (by simp only[List.size_toArray];omega) ⟨H,I.tok _,by rw[iV r];exact q⟩
  ·subst e';obtain⟨its,r,pl,hz⟩:=I.tuple hx;have hlen:=r.length;exact truthy_tuple pl (by simp only[List.size_toArray];omega) ⟨H,I.tok _,by rw[iV r];exact q⟩
  ·subst e';obtain⟨hz,hS,vs,r,m⟩:kvs.length<=sizeLine/\(p == sysModules)=false/\∃ vs,KV kvs vs/\s.heap.DictOf (dq X.prog X.w) p vs:=I.hok p _ hx;have hlen:kvs.length=vs.length:=Paired.length r;exact wpAny_truthy_dict hS m (by omega) ⟨H,I.tok _,by rw[mL r];exact q⟩
 | _=>exact(show False from e).elim
theorem mM:OpR X (binaryOp .Add) (fun x y H Q=>∃ i j,x=.str i/\y=.str j/\i.length+j.length<=sizeLine/\Q (.str (i++j)) H):=by intro pins s σ H x y v u Q I rx ry h;obtain⟨i,j,rfl,rfl,hz,q⟩:=h;obtain⟨t,rfl⟩:=rx;obtain⟨t',rfl⟩:=ry;exact add_str (fun t' tk=>⟨.str (i++j),H,I.tok _,⟨_,rfl⟩,q⟩) hz
theorem vals1 {x:V}{us:List Value}(r:Vals [x] us):∃ u,us=[u]/\RelV x u:=by
 cases r with
 | cons r1 r2=>cases r2;exact⟨_,rfl,r1⟩
theorem vals2 {x y:V}{us:List Value}(r:Vals [x,y] us):∃ u w',us=[u,w']/\RelV x u/\RelV y w':=by
 cases r with
 | cons r1 r2=>
  cases r2 with
  | cons r3 r4=>cases r4;exact⟨_,_,rfl,r1,r3⟩
theorem pw (hc:X.calm=true):eS X (.builtin "max") (fun xs H Q=>∃ i j,xs=[.int i,.int j]/\Q (.int (if j > i then j else i)) H):=by
 intro pins s σ H xs us Q I r h;obtain⟨i,j,rfl,q⟩:=h;obtain⟨u,w',rfl,⟨t,rfl⟩,⟨t',rfl⟩⟩:=vals2 r;refine max_two_ints (I.ok.hd hc) fun h' tk k=>⟨_,H,I.kept k,?_,q⟩
 by_cases hj:j > i
 ·rw[if_pos hj,if_pos hj];exact⟨_,rfl⟩
 ·rw[if_neg hj,if_neg hj];exact⟨_,rfl⟩
theorem pz (hc:X.calm=true):eS X (.builtin "min") (fun xs H Q=>∃ i j,xs=[.int i,.int j]/\Q (.int (if j < i then j else i)) H):=by
 intro pins s σ H xs us Q I r h;obtain⟨i,j,rfl,q⟩:=h;obtain⟨u,w',rfl,⟨t,rfl⟩,⟨t',rfl⟩⟩:=vals2 r;refine min_two_ints (I.ok.hd hc) fun h' tk k=>⟨_,H,I.kept k,?_,q⟩
 by_cases hj:j < i
 ·rw[if_pos hj,if_pos hj];exact⟨_,rfl⟩
 ·rw[if_neg hj,if_neg hj];exact⟨_,rfl⟩
theorem jN:eS X (.type "int") (fun xs H Q=>(∃ i,xs=[.int i]/\Q (.int i) H)∨∃ k,xs=[.bl k]/\Q (.int (if k then 1 else 0)) H):=by
 intro pins s σ H xs us Q I r h;rcases h with ⟨i,rfl,q⟩|⟨k,rfl,q⟩
 ·obtain⟨u,rfl,t,rfl⟩:=vals1 r;exact call_int_int ⟨.int i,H,I,⟨_,rfl⟩,q⟩
 ·obtain⟨u,rfl,r1⟩:=vals1 r;cases r1;exact call_int_bool ⟨.int (if k then 1 else 0),H,I.tok _,⟨_,rfl⟩,q⟩
def C0 (K:PySem.W.Frag)(x:V)(H:Hp)(n:Nat):Prop:=
 match x with
 | .str y=>y.length<=sizeLine/\n=y.length
 | .byt y=>y.size<=sizeLine/\n=y.size
 | .ref p=>(∃ xs,SqL K H p xs/\n=xs.length)∨∃ xs,SqT K H p xs/\n=xs.length
 | _=>False
theorem call_len:eS X (.builtin "len") (fun xs H Q=>∃ x n,xs=[x]/\C0 X.K x H n/\Q (.int n) H):=by
 intro pins s σ H xs us Q I r h;obtain⟨x,n,rfl,e,q⟩:=h;obtain⟨u,rfl,rx⟩:=vals1 r;have hl:=iW;have hs:sizeLine=16777216:=sizeLine_eq;cases x with
 | str y=>obtain⟨t,rfl⟩:=rx;obtain⟨hy,e'⟩:y.length<=sizeLine/\n=y.length:=e;subst e';exact len_str (by omega) ⟨.int _,H,I.tok _,⟨_,rfl⟩,q⟩
 | byt y=>obtain⟨t,rfl⟩:=rx;obtain⟨hy,e'⟩:y.size<=sizeLine/\n=y.size:=e;subst e';exact PySem.W.len_bytes (by omega) ⟨.int _,H,I.tok _,⟨_,rfl⟩,q⟩
 | ref p=>
  cases rx;have e':(∃ xs,SqL X.K H p xs/\n=xs.length)∨∃ xs,SqT X.K H p xs/\n=xs.length:=e;rcases e' with ⟨xs,hx,e'⟩|⟨xs,hx,e'⟩
  ·subst e';obtain⟨its,r',pl,hz⟩:=I.list hx;have hlen:=r'.length;exact Calls.call_len_list pl.isList (by simp only[List.size_toArray];omega) ⟨.int xs.length,H,I.tok _,⟨_,by simp only[List.size_toArray];rw[hlen]⟩,q⟩
  ·subst e';obtain⟨its,r',pl,hz⟩:=I.tuple hx;have hlen:=r'.length;exact len_tuple pl (by simp only[List.size_toArray];omega) ⟨.int xs.length,H,I.tok _,⟨_,by simp only[List.size_toArray];rw[hlen]⟩,q⟩
 | _=>exact(show False from e).elim
end
structure ObjM (h:Heap)(x dx C:Addr)(mA:Str->Option Value):Prop where
 obj:h.get? x=some (PySem.W.instObj C dx)
 ns:h.Ns1 dx mA
 ne:dx≠x
theorem pA {h:Heap}{dx:Addr}{mA:Str->Option Value}(n:h.Ns1 dx mA):∃ od,h.get? dx=some od/\∀ name,PySem.W.lookIn name od=some (mA name):=by
 obtain⟨o,es,ep,ho,hd,hk,_,hm⟩:=n;refine⟨o,ho,fun name=>?_⟩;have e:=hm name;unfold nsFind findBy at e;rw[<- Array.find?_toList] at e;unfold PySem.W.lookIn;rw[hd];dsimp only;split
 ·rename_i y q
  rw[q] at e;exact congrArg some e
 ·rename_i q
  rw[q] at e;have a:es.toList.any (·.refKey)=false:=by rw[List.any_eq_false];intro y hy;obtain⟨z,t,hkey⟩:=hk y (Array.mem_toList_iff.mp hy);simp[DictEntry.refKey,hkey]
  have a':¬ es.toList.any (·.refKey)=true:=by rw[a];exact Bool.false_ne_true
  rw[if_neg a'];exact congrArg some e
theorem ObjM.look {h:Heap}{x dx C:Addr}{mA:Str->Option Value}(I:ObjM h x dx C mA):∃ od,PySem.W.InstAt h x (PySem.W.instObj C dx) C (some od)/\∀ name,PySem.W.lookIn name od=some (mA name):=
 let ⟨od,ho,hl⟩:=pA I.ns
 ⟨od,⟨I.obj,rfl,rfl,ho⟩,hl⟩
section
variable {prog:Program}{w:World}{A:Around}{E:Value->Shared->Prop}{s:Shared}{K:PySem.W.Frag}{x dx C f:Addr}{mA:Str->Option Value}{name:Str}{v:Value}
theorem get_map {expr:Bool}{Q:Value->Shared->Prop}(X:K.In s.heap)(I:ObjM s.heap x dx C mA)(hg:PySem.W.plainGet K C name=true)(hh:PySem.W.hasDictIn K C=true)
  (ha:PySem.W.findIn K (.ref C) name=some none) (hv:mA name=some v) (hv':PySem.W.handedIn v=true) (h:Q v {s with toks:=s.toks+1}) :
  wpAny (model prog w) A (getAttr (.ref x) name expr) Q E s:=by
 obtain⟨od,J,hl⟩:=I.look;exact PySem.W.get_value X J (PySem.W.plainGet_of hg).1 (PySem.W.findObj_own hh ha rfl (by rw[hl,hv])) hv' h
theorem qt {pl:Sem Bool}{Q:Value×List Value->Shared->Prop}(X:K.In s.heap)(I:ObjM s.heap x dx C mA)(hg:PySem.W.plainGet K C name=true)
  (hf:PySem.W.findIn K (.ref C) name=some (some (.ref f))) (ht:PySem.W.isFn K (.ref f)=true) (hv:mA name=none) (h:Q (.ref f,[.ref x]) s) :
  wpAny (model prog w) A (getMethod (.ref x) name pl) Q E s:=by
 obtain⟨od,J,hl⟩:=I.look;exact PySem.W.method_fn X J (PySem.W.plainGet_of hg).1 (PySem.W.plainGet_of hg).2 hf (beq_iff_eq.mp ht) (by show (PySem.W.lookIn name od).map (·.isSome)=some false;rw[hl,hv];rfl) h
theorem t8 {ns:List Str}{Q:Unit->Shared->Prop}(X:K.In s.heap)(I:ObjM s.heap x dx C mA)
  (hs:PySem.W.findIn K (.ref C) "__setattr__" = some (some (.builtin "object.__setattr__"))) (hp:PySem.W.plainOver K C=true) (ht:PySem.W.takerIn K C name=some none) (hh:PySem.W.hasDictIn K C=true)
  (hw:PySem.Within mA ns) (hsz:ns.length<=sizeLine)
  (h:∀ h',ObjM h' x dx C (fun y=>if y=name then some v else mA y)->Heap.SameBut dx s.heap h'->Q () {s with heap:=h',toks:=s.toks+2}) :
  wpAny (model prog w) A (setAttr (.ref x) name v) Q E s:=by
 obtain⟨od,J,hl⟩:=I.look;refine PySem.W.set_plain X J hs (PySem.W.osa_open (s:={s with toks:=s.toks+1}) (r:=none) X J hp ht fun b=>?_);obtain⟨cd,hc,hd'⟩:=PySem.W.any_some hh;have hx:s.heap.get? x=some ⟨.ref C,some dx,.plain,#[]⟩:=I.obj;refine wpAny_bind (wpAny_pure (wpAny_bind (wpAny_bind (wpAny_loadPart hx (wpAny_bind (PySem.W.Looks.here (s:={s with toks:=s.toks+1}) (PySem.W.looks_clsIn X hc) ?_))))));rw[hd'];refine wpAny_pure (a:=some dx) (wpAny_bind (wpAny_pure (wpAny_bind ?_)));refine wpAny_nsSet1 (s:={s with toks:=s.toks+1}) I.ns fun h' hn2 hs2=>?_;obtain⟨oD,esD,epD,hoD,hdD,hcD⟩:=hn2.count (PySem.Within.cons name v hw);refine wpAny_bind (wpAny_lookBehind hoD (by rw[hdD];exact pastItsLine_dict (Nat.le_trans hcD (by rw[List.length_cons];omega))) ?_);exact wpAny_pure (h _ ⟨(hs2.2 _ (Ne.symm I.ne)).trans I.obj,hn2,I.ne⟩ hs2)
theorem qu {R:Result->Shared->Prop}{vs:List Value}{kw:List (Str×Value)}(X:K.In s.heap)(hm:PySem.W.makesIn K C=true)
  (hi:PySem.W.findIn K (.ref C) "__init__" = some (some (.ref f))) (hf:PySem.W.typeIn K (.ref f)=some (.type "function"))
  (h:codeAny (model prog w) (A.under (.builtin "type.__call__" ⟨.ref C::vs,kw⟩)) (.call (.ref f) ⟨.ref (s.heap.objs.size+1)::vs,kw⟩) (PySem.W.InitBack (s.heap.objs.size+1) R)
   {s with heap:=(s.heap.push PySem.W.emptyDict).push (PySem.W.instObj C s.heap.objs.size)}) :
  codeAny (model prog w) A (.call (.ref C) ⟨vs,kw⟩) R s:=by
 obtain⟨hh,g,d,t,os⟩:=s;exact PySem.W.make_core (PySem.W.makes_of X hm) (PySem.W.looks_findIn X hi) (fun self=>PySem.W.bind_fn X self hf) (.inl rfl) h
end
noncomputable def eY (f:Str)(v:V):List (Str×V)->List (Str×V)
 | []=>[(f,v)]
 | (g,x)::r=>if g=f then (g,v)::r else (g,x)::eY f v r
theorem iF (f g:Str)(v:V):∀ fs:List (Str×V),(eY f v fs).lookup g=if g=f then some v else fs.lookup g
 | []=>by
  show List.lookup g [(f,v)]=_;by_cases h:g=f
  ·have hb:(g == f)=true:=beq_iff_eq.mpr h;simp only[List.lookup,hb,if_pos h]
  ·have hb:(g == f)=false:=beq_eq_false_iff_ne.mpr h;simp only[List.lookup,hb,if_neg h]
 | (k,x)::r=>by
  have ih:=iF f g v r;rw[show eY f v ((k,x)::r)=(if k=f then (k,v)::r else (k,x)::eY f v r) from rfl];by_cases hk:k=f
  ·rw[if_pos hk];by_cases h:g=k
   ·have hb:(g == k)=true:=beq_iff_eq.mpr h;simp only[List.lookup,hb,if_pos (h.trans hk)]
   ·have hb:(g == k)=false:=beq_eq_false_iff_ne.mpr h;simp only[List.lookup,hb,if_neg (fun e:g=f=>h (e.trans hk.symm))]
  ·rw[if_neg hk];by_cases h:g=k
   ·have hb:(g == k)=true:=beq_iff_eq.mpr h;simp only[List.lookup,hb,if_neg (fun e:g=f=>hk (h.symm.trans e))]
   ·have hb:(g == k)=false:=beq_eq_false_iff_ne.mpr h;simp only[List.lookup,hb];exact ih
theorem hW (f:Str)(v:V):∀ fs:List (Str×V),f∈(eY f v fs).map (·.1)/\∀ g,g∈fs.map (·.1)->g∈(eY f v fs).map (·.1)
 | []=>⟨by simp[eY],fun g h=>by simp at h⟩
 | (k,x)::r=>by
  obtain⟨i1,i2⟩:=hW f v r;rw[show eY f v ((k,x)::r)=(if k=f then (k,v)::r else (k,x)::eY f v r) from rfl];by_cases hk:k=f
  ·rw[if_pos hk];subst hk;exact⟨by simp,fun g h=>by simpa using h⟩
  ·rw[if_neg hk];refine⟨?_,fun g h=>?_⟩
   ·rw[List.map_cons];exact List.mem_cons_of_mem _ i1
   ·rw[List.map_cons] at h ⊢;rcases List.mem_cons.mp h with e|e
    ·exact List.mem_cons.mpr (.inl e)
    ·exact List.mem_cons_of_mem _ (i2 g e)
theorem iG (f:Str)(v:V):∀ fs:List (Str×V),(eY f v fs).length<=fs.length+1
 | []=>by simp[eY]
 | (k,x)::r=>by
  have ih:=iG f v r;rw[show eY f v ((k,x)::r)=(if k=f then (k,v)::r else (k,x)::eY f v r) from rfl];by_cases hk:k=f
  ·rw[if_pos hk,List.length_cons,List.length_cons];omega
  ·rw[if_neg hk,List.length_cons,List.length_cons];omega
theorem gp.some_of {v:V}{o:Option Value}(r:gp (some v) o):∃ u,o=some u/\RelV v u:=by
 cases o with
 | none=>exact(show False from r).elim
 | some u=>exact⟨u,rfl,r⟩
theorem gp.none_of {o:Option Value}(r:gp none o):o=none:=by
 cases o with
 | none=>rfl
 | some u=>exact(show False from r).elim
theorem pB {v:V}{u:Value}(r:RelV v u):PySem.W.handedIn u=true:=by
 cases v with
 | non=>cases (show u=Value.none from r);rfl
 | bl b=>cases (show u=Value.bool b from r);rfl
 | int i=>obtain⟨t,e⟩:=(show ∃ t,u=Value.int i t from r);cases e;rfl
 | str x=>obtain⟨t,e⟩:=(show ∃ t,u=Value.str x t from r);cases e;rfl
 | byt b=>obtain⟨t,e⟩:=(show ∃ t,u=Value.bytes b t from r);cases e;rfl
 | flt b=>obtain⟨t,e⟩:=(show ∃ t,u=Value.float b t from r);cases e;rfl
 | ref a=>cases (show u=Value.ref a from r);rfl
 | ty n=>cases (show u=Value.type n from r);rfl
section
variable {P:Program}{w:World}{H H':Hp}{h h':Heap}{a C dx:Addr}{fs fs':List (Str×V)}
theorem t9 (hok:HOk P w H h)(e:H a=some (.ins C dx fs)):∃ mA,ObjM h a dx C mA/\(∀ f,gp (fs.lookup f) (mA f))/\PySem.Within mA (fs.map (·.1))/\fs.length<=1000/\H dx=some (.own a):=by
 obtain⟨d,z,ne,ob,mA,n,r,q⟩:=(show du P w H h a (.ins C dx fs) from hok a _ e)
 exact⟨mA,⟨ob,n,ne⟩,r,q,z,d⟩
end
structure Cls (K:PySem.W.Frag)(C:Addr):Prop where
 pg:PySem.W.plainGet K C Str.empty=true
 hd:PySem.W.hasDictIn K C=true
 po:PySem.W.plainOver K C=true
 sa:PySem.W.findIn K (.ref C) "__setattr__" = some (some (.builtin "object.__setattr__"))
theorem Cls.get {K:PySem.W.Frag}{C:Addr}(c:Cls K C)(f:Str):PySem.W.plainGet K C f=true:=c.pg
def fR (K:PySem.W.Frag)(C:Addr)(f:Str):Prop:=PySem.W.findIn K (.ref C) f=some none
theorem fR.taker {K:PySem.W.Frag}{C:Addr}{f:Str}(n:fR K C f):PySem.W.takerIn K C f=some none:=by unfold PySem.W.takerIn;rw[show PySem.W.findIn K (.ref C) f=some none from n];rfl
structure Meth (K:PySem.W.Frag)(C:Addr)(m:Str)(f:Addr):Prop where
 at_:PySem.W.findIn K (.ref C) m=some (some (.ref f))
 fn:PySem.W.isFn K (.ref f)=true
 kp:PySem.W.keepIn K (.ref f)=true
section
variable {X:Cx}{pins:List (Addr×Obj)}{σ:St}{H:Hp}{s:Shared}{a C dx:Addr}{fs:List (Str×V)}{f:Str}{v:V}{A:Around}{E:Value->Shared->Prop}
theorem mO {y:V}{u:Value}{Q:Unit->Shared->Prop}(I:Inv X pins σ H s)(e:H a=some (.ins C dx fs))(c:Cls X.K C)(n:fR X.K C f)(hl:fs.length < 1000)(ry:RelV y u)
  (h:∀ s',Inv X pins σ (upd H a (.ins C dx (eY f y fs))) s'->Q () s'):wpAny (model X.prog X.w) A (setAttr (.ref a) f u) Q E s:=by
 obtain⟨mA,O,r,wi,_,ho⟩:=t9 I.hok e;have hz:(fs.map (·.1)).length<=sizeLine:=by rw[List.length_map,sizeLine_eq];omega
 refine t8 I.kIn O c.sa c.po n.taker c.hd wi hz fun h' O' sb=>h _ ?_;have hd:∃ o,h'.get? dx=some o:=let ⟨o,_,_,e',_⟩:=O'.ns;⟨o,e'⟩;refine I.write (x:=a) (e:=dx) (by rw[e];exact True.intro) (.inr ho) (fun b q hb z=>(sb.2 b hb).trans z) hd ?_;refine⟨by rw[cG O.ne];exact ho,?_,O.ne,O'.obj,_,O'.ns,fun g=>?_,fun g hg=>?_⟩
 ·have:=iG f y fs;omega
 ·show gp ((eY f y fs).lookup g) (if g=f then some u else mA g);rw[iF];by_cases q:g=f
  ·rw[if_pos q,if_pos q];exact ry
  ·rw[if_neg q,if_neg q];exact r g
 ·by_cases q:g=f
  ·rw[q];exact(hW f y fs).1
  ·refine(hW f y fs).2 g (wi g fun z=>hg ?_);show (if g=f then some u else mA g)=none;rw[if_neg q];exact z
theorem Inv.made (I:Inv X pins σ H s):Inv X pins σ (upd (upd H s.heap.objs.size (.own (s.heap.objs.size+1))) (s.heap.objs.size+1) (.ins C s.heap.objs.size []))
  {s with heap:=(s.heap.push PySem.W.emptyDict).push (PySem.W.instObj C s.heap.objs.size)}:=by
 have e1:(s.heap.push PySem.W.emptyDict).get? s.heap.objs.size=some PySem.W.emptyDict:=Heap.get?_push_size s.heap rfl;have e2:((s.heap.push PySem.W.emptyDict).push (PySem.W.instObj C s.heap.objs.size)).get? (s.heap.objs.size+1)=some (PySem.W.instObj C s.heap.objs.size):=by
  have:=Heap.get?_push_size (s.heap.push PySem.W.emptyDict) (o:=PySem.W.instObj C s.heap.objs.size) rfl
  rwa [Heap.size_push] at this
 have e3:(s.heap.push PySem.W.emptyDict).Ns s.heap.objs.size (fun _=>none):=⟨PySem.W.emptyDict,#[],_,e1,rfl,(fun e he=>absurd he (by simp)),fun _=>rfl⟩
 have I1:=I.laid (a:=s.heap.objs.size) (o:=.own (s.heap.objs.size+1)) (h':=s.heap.push PySem.W.emptyDict) (t':=s.toks) (fun b u q=>Heap.get?_push_of_some _ q) (Nat.le_refl _) ⟨_,e1⟩;refine I1.laid (a:=s.heap.objs.size+1) (o:=.ins C s.heap.objs.size []) (t':=s.toks) (fun b u q=>Heap.get?_push_of_some _ q) (Nat.le_of_eq (Heap.size_push _ _)) ?_;have ne:s.heap.objs.size≠s.heap.objs.size+1:=Nat.ne_of_lt (Nat.lt_succ_self _);refine⟨by rw[cG ne,cP],Nat.zero_le _,ne,e2,fun _=>none,(Heap.Ns1.of_empty e3).at fun o q=>Heap.get?_push_of_some _ q,fun _=>True.intro,fun y hy=>absurd rfl hy⟩
theorem ua {prog:Program}{w:World}{env:Env}{e:Expr}{f:Str}{pos:Pos}{s:Shared}{Q:Value->Shared->Prop}(hb:attributeBase e f env (eval e env)=eval e env)
  (h:wpAny (model prog w) A (eval e env) (fun o s₁=>wpAny (model prog w) A (getAttr o f true) Q E s₁) E s):wpAny (model prog w) A (eval (.Attribute e f pos) env) Q E s:=
 Attribute_any_ h (by rw[arm_eval_Attribute,hb])
end
def C1 (K:PySem.W.Frag)(ta tv:TE)(f:Str):TS:=fun D σ H=>tv σ H fun y H1=>ta σ H1 fun x H2=>∃ a C dx fs,x=.ref a/\H2 a=some (.ins C dx fs)/\Cls K C/\fR K C f/\fs.length < 1000/\
 D.nx σ (upd H2 a (.ins C dx (eY f y fs)))
section
variable {X:Cx}{o e value:Expr}{f:Str}{pos pos' tpos:Pos}{ta tv:TE}
theorem xY (ha:PE X o ta)(hv:PE X value tv)(hs:swapsWith value (some (.Attribute o f pos')) pos.line X.env=pure false):PS X (.Assign [.Attribute o f pos'] value pos) (C1 X.K ta tv f):=by intro pins s σ H D I h;refine plainObj_wpAny_Assign_Attribute (thn (hv pins s σ H _ I h) fun u s1 ⟨y,H1,I1,ry,q⟩=>thn (ha pins s1 σ H1 _ I1 q) fun ov s2 ⟨x,H2,I2,rx,a,C,dx,fs,ex,ea,c,n,l,q2⟩=>?_) hs;subst ex;obtain rfl:ov=Value.ref a:=rx;exact mO I2 ea c n l ry fun s3 I3=>⟨σ,_,I3,q2⟩
end
structure Room (k:Nat)(A:Around):Prop where
 hd:k < 1000->A.handled=none
 dp:A.depth+3*(k % 1000)+5 < recursionLimit
 un:A.units+16*(k % 1000)+200 < cLine
theorem Room.deeper {k:Nat}{A:Around}(r:Room (k+1) A)(env:Env)(hk:k % 1000≠999):Room k (A.deeper env):=
 ⟨fun z=>r.hd (by omega),by have:=r.dp;show A.depth+1+3*(k % 1000)+5 < _;omega,by have:=r.un;show A.units+3+16*(k % 1000)+200 < _;omega⟩
theorem Room.depth {k:Nat}{A:Around}(r:Room k A):A.depth < recursionLimit:=by have:=r.dp;omega
def qv:TA:=fun _ H Q=>Q [] H
def jO (ta:TE)(tr:TA):TA:=fun σ H Q=>ta σ H fun x H1=>tr σ H1 fun xs H2=>Q (x::xs) H2
section
variable {X:Cx}{e:Expr}{es:List Expr}{te:TE}{t:TA}{pos:Pos}
theorem eU:PA X [] qv:=fun _ _ _ _ H Q I h=>Calls.spliced_nil ⟨[],H,I,.nil,h⟩
theorem dG (ha:PE X e te)(hr:PA X es t)(hs:starEach (e::es) X.env=(false,eval e X.env)::starEach es X.env:=by rfl):PA X (e::es) (jO te t):=by intro pos pins s σ H Q I h;rw[hs];show wpAny _ _ (spliced ((false,eval e X.env)::backTo pos (starEach es X.env))) _ _ s;refine Calls.spliced_cons (thn (ha pins s σ H _ I h) fun u s1 ⟨x,H1,I1,r1,q1⟩=>?_);exact thn (hr pos pins s1 σ H1 _ I1 q1) fun us s2 ⟨xs,H2,I2,r2,q2⟩=>⟨x::xs,H2,I2,.cons r1 r2,q2⟩
def C2 (t:TA):TE:=fun σ H Q=>t σ H fun xs H1=>xs.length<=sizeLine/\∀ p,H1 p=none->Q (.ref p) (upd H1 p (.tup xs))
def C3 (t:TA):TE:=fun σ H Q=>t σ H fun xs H1=>xs.length<=sizeLine/\∀ p,H1 p=none->Q (.ref p) (upd H1 p (.lst xs))
theorem qw {x1}(h:PA X es t):PE X (.Tuple es x1 pos) (C2 t):=by intro pins s σ H Q I hq;refine wpAny_Tuple_spliced (thn (h pos pins s σ H _ I hq) fun us s1 ⟨xs,H1,I1,r,z,q⟩=>⟨by rw[<- r.length];exact z,?_⟩);have hf:H1 s1.heap.objs.size=none:=I1.hok.fresh (Nat.le_refl _);refine⟨.ref s1.heap.objs.size,upd H1 s1.heap.objs.size (.tup xs),I1.laid (t':=s1.toks) (fun b u e=>Heap.get?_push_of_some _ e) (Nat.le_refl _) ?_,rfl,q _ hf⟩;exact⟨z,us,r,⟨_,Heap.get?_push_size _ rfl,rfl,_,rfl⟩⟩
theorem mP (h:PA X es t):PE X (.List es pos) (C3 t):=by intro pins s σ H Q I hq;refine wpAny_List_spliced (thn (h pos pins s σ H _ I hq) fun us s1 ⟨xs,H1,I1,r,z,q⟩=>⟨by rw[<- r.length];exact z,?_⟩);have hf:H1 s1.heap.objs.size=none:=I1.hok.fresh (Nat.le_refl _);refine⟨.ref s1.heap.objs.size,upd H1 s1.heap.objs.size (.lst xs),I1.laid (t':=s1.toks) (fun b u e=>Heap.get?_push_of_some _ e) (Nat.le_refl _) ?_,rfl,q _ hf⟩;exact⟨z,us,0,r,Heap.get?_push_size _ rfl⟩
end
noncomputable abbrev Sp:=List V->Hp->VK->XK->Prop
noncomputable abbrev CXT:=List Env->Hp->Shared->XK->Value->Shared->Prop
structure Env0 (P:Program)(w:World)(K:PySem.W.Frag)(mg:Str->Option Value)(base:Heap)(A:Around)(outer:List Env)(s:Shared)(H:Hp):Prop where
 frames:A.frames=some outer
 mod:Mod K mg base
 bs:∀ b o,base.get? b=some o->s.heap.get? b=some o/\H b=none
 bsz:base.objs.size<=s.heap.objs.size
 funs:s.heap.FunFrames base outer
 frf:∀ b∈frs outer,H b=none
 hok:HOk P w H s.heap
 bare:AllBare s.gens
def CE (outer:List Env)(P:Program)(w:World)(H:Hp)(s:Shared)(Q:VK)(u:Value)(s':Shared):Prop:=
 ∃ v H',s'.os=s.os/\AllBare s'.gens/\Un (frs outer) [] H H' s.heap s'.heap/\HOk P w H' s'.heap/\RelV v u/\Q v H'
def CR (CX:CXT)(outer:List Env)(P:Program)(w:World)(H:Hp)(s:Shared)(Q:VK)(E:XK)(r:Result)(s':Shared):Prop:=
 match r with
 | .ok (.ret u)=>CE outer P w H s Q u s'
 | .ok _=>False
 | .error e=>CX outer H s E e s'
structure FnOk (P:Program)(w:World)(K:PySem.W.Frag)(mg:Str->Option Value)(base:Heap)(CX:CXT)(k:Nat)(f:Addr)(fd:FuncData)(ps:List Str)(sp:Sp):Prop where
 len:∀ vs H Q E,sp vs H Q E->vs.length=ps.length
 run:∀ (A:Around) (outer:List Env) (s:Shared) (H:Hp) (args:Args) (us:List Value) (vs:List V) (Q:VK) (E:XK),Room k A->Env0 P w K mg base A outer s H->BindsTo s fd args (ps.zip us)->Vals vs us->sp vs H Q E->
  codeAny (model P w) A (.call (.ref f) args) (CR CX outer P w H s Q E) s
theorem Env0.make {P:Program}{w:World}{K:PySem.W.Frag}{mg:Str->Option Value}{base:Heap}{A:Around}{outer:List Env}{s:Shared}{H:Hp}(e:Env0 P w K mg base A outer s H)(C:Addr)(us:List Value)(kw:List (Str×Value)) :
  Env0 P w K mg base (A.under (.builtin "type.__call__" ⟨.ref C::us,kw⟩)) outer s H:=⟨by first|exact e.frames|(simpa[Around.under,Code.envs,Code.isFrame,pushEnvs] using e.frames),e.mod,e.bs,e.bsz,e.funs,e.frf,e.hok,e.bare⟩
section
variable {X:Cx}{pins:List (Addr×Obj)}{σ:St}{H:Hp}{s s':Shared}
theorem Inv.env0 (I:Inv X pins σ H s):Env0 X.prog X.w X.K X.mg X.base X.A X.stack s H:=
 ⟨I.ok.frames,I.ok.mod,I.bs,Nat.le_trans I.ok.bsz I.sz,I.stack,I.stkFree,I.hok,I.bare⟩
theorem Inv.after {Q:VK}{u:Value}(I:Inv X pins σ H s)(h:CE X.stack X.prog X.w H s Q u s'):EP X pins σ Q u s':=by obtain⟨v,H',os,bare,un,hok,r,q⟩:=h;obtain⟨hh,g,d,t,os'⟩:=s';obtain rfl:os'=s.os:=os;exact⟨v,H',I.call (h':=hh) (g':=g) (d':=d) (t':=t) (ch:=[]) un hok bare (fun b z=>absurd z (by simp)),r,q⟩
end
def Binds (K:PySem.W.Frag)(fd:FuncData)(ps:List Str)(ds:List Value):Prop:=
 ∀ (s:Shared) (us:List Value),K.In s.heap->(us++ds).length=ps.length->BindsTo s fd ⟨us,[]⟩ (ps.zip (us++ds))
theorem Binds.all {K:PySem.W.Frag}{fd:FuncData}{ps:List Str}(h:∀ us:List Value,us.length=ps.length->bindArgs fd ⟨us,[]⟩=pure (ps.zip us)):Binds K fd ps []:=fun s us _ hl=>by rw[List.append_nil] at hl ⊢;exact .of_eq (h us hl)
def Passes (CX:CXT)(X:Cx)(E:XK):Prop:=∀ (pins:List (Addr×Obj)) (σ:St) (H:Hp) (s:Shared) (e:Value) (s':Shared),Inv X pins σ H s->CX X.stack H s E e s'->X.xe e s'
section
variable {X:Cx}{CX:CXT}{k:Nat}{f C:Addr}{fd:FuncData}{ps:List Str}{sp:Sp}{dvs:List V}{ds:List Value}{E:XK}{x m:Str}{p pos apos:Pos}{e o:Expr}{es:List Expr}{ta:TE}{t:TA}
structure Mk (K:PySem.W.Frag)(C f:Addr):Prop where
 makes:PySem.W.makesIn K C=true
 init:PySem.W.findIn K (.ref C) "__init__" = some (some (.ref f))
 fn:PySem.W.isFn K (.ref f)=true
 kp:PySem.W.keepIn K (.ref C)=true
end
def PK (X:Cx)(kws:List Keyword)(t:TA):Prop:=
 ∀ (pos:Pos) (pins:List (Addr×Obj)) (s:Shared) (σ:St) (H:Hp) (Q:List V->Hp->Prop),Inv X pins σ H s->t σ H Q->wpAny (model X.prog X.w) X.A (evalAll ((backToKw pos (keywordEach kws X.env)).map (·.2))) (AP X pins σ Q) X.xe s
section
variable {X:Cx}{CX:CXT}{k:Nat}{f C:Addr}{fd:FuncData}{ps ks:List Str}{sp:Sp}{E:XK}{x m:Str}{p pos apos kpos:Pos}{e o:Expr}{es:List Expr}{kws:List Keyword}{te ta:TE}{t tk:TA}{nm:Option Str}
theorem xZ:PK X [] qv:=fun _ _ _ _ H Q I h=>wpAny_evalAll_nil ⟨[],H,I,.nil,h⟩
theorem ub (ha:PE X e te)(hr:PK X kws t):PK X (⟨nm,e,kpos⟩::kws) (jO te t):=by intro pos pins s σ H Q I h;show wpAny _ _ (evalAll ((do let v <- eval e X.env;standAt pos;pure v)::(backToKw pos (keywordEach kws X.env)).map (·.2))) _ _ s;refine wpAny_evalAll_cons (wpAny_bind (thn (ha pins s σ H _ I h) fun u s1 ⟨x,H1,I1,r1,q1⟩=>wpAny_bind (wpAny_standAt (wpAny_pure ?_))));exact thn (hr pos pins s1 σ H1 _ I1 q1) fun us s2 ⟨xs,H2,I2,r2,q2⟩=>⟨x::xs,H2,I2,.cons r1 r2,q2⟩
variable {g:List Value->List Value->List Value}{gV:List V->List V->List V}
end
structure FnScope (N P:List Str)(sc:Scope):Prop where
 kind:sc.kind=.function
 co:sc.isCoroutine=false
 gen:sc.isGenerator=false
 nd:N.Nodup
 pre:N.take P.length=P
 par:∀ x∈P,sc.names.lookup x=some .local∨sc.names.lookup x=some .cell
 nofree:∀ y∈sc.names,y.2≠.free
theorem jP {kindOf:Str->Option NameKind}{x:Str}:∀ {binds:List (Str×Value)}{m:Str->Option Value},(∀ v,(x,v)∉binds)->bindL kindOf binds m x=m x
 | [],_,_=>rfl
 | (n,v)::r,m,h=>by
  unfold bindL;rw[jP fun w hw=>h w (List.mem_cons_of_mem _ hw)];split
  ·have:x≠n:=by rintro rfl;exact h v List.mem_cons_self
   simp[this]
  ·rfl
theorem jQ {kindOf:Str->Option NameKind}{x:Str}:∀ {binds:List (Str×Value)}{m:Str->Option Value},(∀ v,(x,v)∉binds)->bindC kindOf binds m x=m x
 | [],_,_=>rfl
 | (n,v)::r,m,h=>by
  unfold bindC;rw[jQ fun w hw=>h w (List.mem_cons_of_mem _ hw)];split
  ·rfl
  ·have:x≠n:=by rintro rfl;exact h v List.mem_cons_self
   simp[this]
theorem jR {kindOf:Str->Option NameKind}{x:Str}{v:Value}:∀ {P:List Str}{vs:List Value}{i:Nat}{m:Str->Option Value},P.Nodup->P[i]? = some x->vs[i]? = some v->kindOf x=some .local->
  bindL kindOf (P.zip vs) m x=some v
 | [],_,_,_,_,h,_,_=>by simp at h
 | _::_,[],_,_,_,_,h,_=>by simp at h
 | p::P,w::vs,0,m,nd,h1,h2,hk=>by simp at h1 h2;subst h1;subst h2;show bindL kindOf ((p,w)::P.zip vs) m p=_;unfold bindL;rw[jP fun v hv=>(List.nodup_cons.mp nd).1 (List.of_mem_zip hv).1,if_pos hk];simp
 | p::P,w::vs,i+1,m,nd,h1,h2,hk=>by show bindL kindOf ((p,w)::P.zip vs) m x=_;unfold bindL;exact jR (i:=i) (List.nodup_cons.mp nd).2 (by simpa using h1) (by simpa using h2) hk
theorem jS {kindOf:Str->Option NameKind}{x:Str}{v:Value}:∀ {P:List Str}{vs:List Value}{i:Nat}{m:Str->Option Value},P.Nodup->P[i]? = some x->vs[i]? = some v->kindOf x≠some .local->
  bindC kindOf (P.zip vs) m x=some v
 | [],_,_,_,_,h,_,_=>by simp at h
 | _::_,[],_,_,_,_,h,_=>by simp at h
 | p::P,w::vs,0,m,nd,h1,h2,hk=>by simp at h1 h2;subst h1;subst h2;show bindC kindOf ((p,w)::P.zip vs) m p=_;unfold bindC;rw[jQ fun v hv=>(List.nodup_cons.mp nd).1 (List.of_mem_zip hv).1,if_neg hk];simp
 | p::P,w::vs,i+1,m,nd,h1,h2,hk=>by show bindC kindOf ((p,w)::P.zip vs) m x=_;unfold bindC;exact jS (i:=i) (List.nodup_cons.mp nd).2 (by simpa using h1) (by simpa using h2) hk
noncomputable def start (N:List Str)(vs:List V):St:=vs.map some++List.replicate (N.length - vs.length) none
noncomputable def qx (CX:CXT)(P:Program)(w:World)(K:PySem.W.Frag)(mg:Str->Option Value)(base:Heap)(N:List Str)(qual:Str)(scope:Scope)(f:Addr)(cd:Value)(A:Around)(outer:List Env)(s:Shared)(H:Hp)(E:XK):Cx where
 prog:=P
 w:=w
 K:=K
 mg:=mg
 base:=base
 A:=A.deeper (envOfC qual scope s.heap.objs.size f cd)
 N:=N
 s₀:=s
 H₀:=H
 env:=envOfC qual scope s.heap.objs.size f cd
 outer:=outer
 stack:=envOfC qual scope s.heap.objs.size f cd::outer
 ex:=[]
 calm:=A.handled.isNone
 fn:=fun _=>true
 pn:=[]
 xe:=fun e s'=>wpAny (model P w) (A.deeper (envOfC qual scope s.heap.objs.size f cd)) (leaving (envOfC qual scope s.heap.objs.size f cd) e) (fun _ s''=>CX outer H s E e s'') (fun e' s''=>CX outer H s E e' s'') s'
theorem lj {sc:Scope}{n:Nat}{x:Str}(h:sc.names.lookup x=some .cell):∃ c,(cellsFrom n sc.names []).lookup x=some c:=by have q:=PySem.W.cellsFrom_some sc.names n [] (.inl h);exact Option.isSome_iff_exists.mp q
theorem pC {CX:CXT}{P:Program}{w:World}{K:PySem.W.Frag}{mg:Str->Option Value}{base:Heap}{N ps:List Str}{qual:Str}{scope:Scope}{f:Addr}{cd:Value}{A:Around}{outer:List Env}{s s1:Shared}{H:Hp}{E:XK}{us:List Value}{vs:List V}
  (S:FnScope N ps scope) (e0:Env0 P w K mg base A outer s H) (hl:vs.length=ps.length) (r:Vals vs us)
  (x:InCallC s s.heap.objs.size (bindL (envOfC qual scope s.heap.objs.size f cd).kindOf (ps.zip us) fun _=>none) (cellsFrom (s.heap.objs.size+1) scope.names []) (bindC (envOfC qual scope s.heap.objs.size f cd).kindOf (ps.zip us) fun _=>none) s1) :
  Inv (qx CX P w K mg base N qual scope f cd A outer s H E) [] (start N vs) H s1:=by
 have hpl:ps.length<=N.length:=by have:=congrArg List.length S.pre;rw[List.length_take] at this;omega
 obtain⟨h1,tk,rfl,hk⟩:=x.done;have noA:∀ b:Addr,b∉(qx CX P w K mg base N qual scope f cd A outer s H E).ex:=fun b z=>absurd (show b∈([]:List Addr) from z) (by simp)
 refine⟨⟨e0.mod,S.kind,rfl,rfl,Nat.le_refl _,fun y z c h1 h2=>?_,fun y hy=>?_,fun y c _ h=>?_,fun h=>Option.isNone_iff_eq_none.mp h,Around.frames_deeper e0.frames,.inr ⟨rfl,rfl⟩,fun b z=>absurd z (noA b),e0.bs,e0.bsz,fun b _ _=>noA b,fun b z=>absurd z (noA b),e0.funs,e0.frf⟩,
  rfl,e0.bare,Un.kept hk,⟨_,x.toInCall.ns,fun i y v h1 h2 h3=>?_⟩,fun y c h=>⟨_,x.cell y c h⟩,e0.hok.fresh (Nat.le_refl _),fun y c h=>?_,fun p hp=>absurd (show p∈([]:List (Addr×Obj)) from hp) (by simp),e0.hok.kept hk,?_⟩
 ·exact name_of_addr x.apart (PySem.mem_of_lookup h1) (PySem.mem_of_lookup h2)
 ·have hy:scope.names.lookup y=some .cell∨scope.names.lookup y=some .free:=hy;rcases hy with hy|hy
  ·exact lj hy
  ·exact absurd rfl (S.nofree _ (PySem.mem_of_lookup hy))
 ·exact Nat.le_of_lt (x.above y c (PySem.mem_of_lookup h))
 ·have hi:i < vs.length:=by
   unfold start at h2;by_cases hi:i < vs.length
   ·exact hi
   ·rw[List.getElem?_append_right (by simpa using hi)] at h2;rw[List.getElem?_replicate] at h2;split at h2<;>cases h2
  have ha:vs[i]? = some v:=by
   unfold start at h2;rw[List.getElem?_append_left (by simpa using hi),List.getElem?_map] at h2;cases e:vs[i]? with
   | none=>rw[e] at h2;cases h2
   | some a=>rw[e] at h2;cases h2;rfl
  obtain⟨u,hu,rv⟩:=r.get ha;have hp:ps[i]? = some y:=by rw[<- S.pre,List.getElem?_take_of_lt (by omega)];exact h1
  have ndP:ps.Nodup:=by rw[<- S.pre];exact S.nd.sublist (List.take_sublist _ _)
  refine⟨u,rv,?_⟩;rcases S.par y (List.mem_of_getElem? hp) with k|k
  ·exact .inl ⟨k,jR ndP hp hu k⟩
  ·obtain⟨c,e⟩:=lj (n:=s.heap.objs.size+1) k;refine .inr ⟨.inl k,c,e,?_⟩;have q:=x.cell y c e;rw[jS ndP hp hu (by show scope.names.lookup y≠_;rw[k];decide)] at q;exact q
 ·exact e0.hok.fresh (Nat.le_of_lt (x.above y c (PySem.mem_of_lookup h)))
 ·unfold start;show _=N.length;rw[List.length_append,List.length_map,List.length_replicate];omega
theorem vK {CX:CXT}{P:Program}{w:World}{K:PySem.W.Frag}{mg:Str->Option Value}{base:Heap}{k:Nat}{f:Addr}{name qual:Str}{params:Arguments}{body:List Stmt}{scope:Scope}{dV kV doc pm cdv ct oc:Value}{an od:Option Addr}
  {osl:Array (Option Value)}{N ps:List Str}{sp:Sp} (lk:K.lookup f=some ⟨oc,od,.func (PySem.W.fnOf name qual params body scope dV kV doc pm an cdv ct),osl⟩) (hcd:PySem.W.codeIn K cdv qual=true) (S:FnScope N ps scope)
  (hk9:k % 1000≠999) (len:∀ vs H Q E,sp vs H Q E->vs.length=ps.length)
  (hbody:∀ (A:Around) (outer:List Env) (s:Shared) (H:Hp) (vs:List V) (Q:VK) (E:XK),Room k (A.deeper (envOfC qual scope s.heap.objs.size f cdv))->sp vs H Q E->
   ∃ t,PSs (qx CX P w K mg base N qual scope f cdv A outer s H E) body t/\t {nx:=fun _ H'=>Q .non H',rt:=Q} (start N vs) H) :
  FnOk P w K mg base CX (k+1) f (PySem.W.fnOf name qual params body scope dV kV doc pm an cdv ct) ps sp:=by
 refine⟨len,fun A outer s H args us vs Q E hr e0 hb r hsp=>?_⟩;have hl:=len _ _ _ _ hsp;have KX:K.In s.heap:=e0.mod.kin.keeps fun b o e=>(e0.bs b o e).1;have lim:s.heap.NoLimit:=e0.mod.nolimit.keeps fun b o e=>(e0.bs b o e).1;have hkind:∀ y∈ps.zip us,scope.names.lookup y.1=some .local∨(scope.names.lookup y.1=some .cell/\((cellsFrom (s.heap.objs.size+1) scope.names []).lookup y.1).isSome=true):=fun ⟨n,v⟩ hy=>by
  rcases S.par n (List.of_mem_zip hy).1 with q|q
  ·exact .inl q
  ·exact .inr ⟨q,PySem.W.cellsFrom_some _ _ _ (.inl q)⟩
 refine codeAny_call_function hr.depth (KX _ _ lk) rfl S.co S.gen rfl (PySem.W.codeRec_of KX hcd) (hb _ _ _ _ ?_);refine wpAny_newFunctionEnv_cells S.kind hkind fun env he s1 x=>?_;subst he;refine⟨lim.keeps x.toInCall.keep,codeAny_func ?_⟩;obtain⟨t,ht,hq⟩:=hbody A outer s H vs Q E (hr.deeper _ hk9) hsp;have I:Inv (qx CX P w K mg base N qual scope f cdv A outer s H E) [] (start N vs) H s1:=pC S e0 hl r x;refine wpAny_mono (ht [] s1 (start N vs) H _ I hq) (fun fl s' hs=>?_) fun e s' hs=>hs;have fin:∀ {σ':St}{H':Hp}{v:V}{u:Value},Inv (qx CX P w K mg base N qual scope f cdv A outer s H E) [] σ' H' s'->RelV v u->Q v H'->CE outer P w H s Q u s':=
  fun {σ' H' v u} J rv q=>⟨v,H',J.os,J.bare,J.base,J.hok,rv,q⟩
 cases fl with
 | ret u=>obtain⟨v,σ',H',J,rv,q⟩:=hs;exact fin J rv q
 | next=>obtain⟨σ',H',J,q⟩:=hs;exact fin (v:=V.non) (u:=Value.none) J rfl q
 | brk=>obtain⟨_,_,_,q⟩:=hs;exact False.elim q
 | cont=>obtain⟨_,_,_,q⟩:=hs;exact False.elim q
section
variable {X:Cx}{x:Str}{p pos:Pos}{e:Expr}{es:List Expr}{t:TA}{id T:String}{r:List V->Hp->VK->Prop}
def tCB (r:List V->Hp->VK->Prop)(t:TA):TE:=fun σ H Q=>t σ H fun vs H1=>r vs H1 Q
theorem lq (hc:eS X (.builtin id) r)(hg:Gl X x)(hm:X.mg x=none)(hv:bootBuiltins x=some (.builtin id))(ha:PA X (e::es) t)(hn:x≠"__name__":=by decide) (hdb:(x == ("__debug__" : Str))=false:=by decide)
  (he:starEach (e::es) X.env=(false,eval e X.env)::starEach es X.env:=by rfl) (hpl:(backTo pos (starEach es X.env)).any (·.1)=false:=by rfl):PE X (.Call (.Name x p) (e::es) [] pos) (tCB r t):=by
 intro pins s σ H Q I h;refine wpAny_Call_Name_kw (fq I hg hm hv ?_ hn hdb);exact PyProof.Rows.callWith_builtin1 (thn (ha pos pins s σ H _ I h) fun us s1 ⟨vs,H1,I1,r1,q1⟩=>hc pins s1 σ H1 vs us Q I1 r1 q1) he hpl
theorem ia (hc:eS X (.type T) r)(hg:Gl X x)(hm:X.mg x=none)(hv:bootBuiltins x=some (.type T))(ha:PA X (e::es) t)(hn:x≠"__name__":=by decide) (hdb:(x == ("__debug__" : Str))=false:=by decide)
  (he:starEach (e::es) X.env=(false,eval e X.env)::starEach es X.env:=by rfl) (hpl:(backTo pos (starEach es X.env)).any (·.1)=false:=by rfl):PE X (.Call (.Name x p) (e::es) [] pos) (tCB r t):=by
 intro pins s σ H Q I h;refine wpAny_Call_Name_kw (fq I hg hm hv ?_ hn hdb);exact PyProof.Rows.callWith_type1 (thn (ha pos pins s σ H _ I h) fun us s1 ⟨vs,H1,I1,r1,q1⟩=>hc pins s1 σ H1 vs us Q I1 r1 q1) he hpl
end
end L2
namespace HT
open PySem PyProof.Rows
section
variable {prog:Program}{w:World}{A:Around}{E:Value->Shared->Prop}{s:Shared}
noncomputable def sIx (n d:Nat):Option Int->Nat
 | none=>d
 | some v=>if v < 0 then (v+(n:Int)).toNat else min v.toNat n
end
end HT
namespace L2
open PySem PySem.Spec PyProof.Rows
noncomputable abbrev TO:=St->Hp->(Option Int->Hp->Prop)->Prop
def PO (X:Cx)(e:Option Expr)(t:TO):Prop:=
 ∀ (pins:List (Addr×Obj)) (s:Shared) (σ:St) (H:Hp) (Q:Option Int->Hp->Prop),Inv X pins σ H s->t σ H Q->
  wpAny (model X.prog X.w) X.A (evalPart e X.env) (fun u s'=>∃ o H',Inv X pins σ H' s'/\IsPart u o/\Q o H') X.xe s
noncomputable def uc:TO:=fun _ H Q=>Q none H
noncomputable def An (t:TE):TO:=fun σ H Q=>t σ H fun x H1=>∃ i,x=.int i/\Q (some i) H1
section
variable {X:Cx}{e:Expr}{te:TE}{lo hi:Option Expr}{tl th:TO}{pos p2:Pos}
theorem ud:PO X none uc:=by intro pins s σ H Q I h;rw[evalPart_none];exact wpAny_pure ⟨none,H,I,.none,h⟩
theorem ue (h:PE X e te):PO X (some e) (An te):=by intro pins s σ H Q I hw;rw[evalPart_some];refine thn (h pins s σ H _ I hw) fun u s1 ⟨x,H1,I1,r1,q1⟩=>?_;obtain⟨i,rfl,q⟩:=q1;obtain⟨t,rfl⟩:=r1;exact⟨some i,H1,I1,.int i t,q⟩
def SlR (X:Cx)(r:V->Option Int->Option Int->Hp->VK->Prop):Prop:=
 ∀ (pins:List (Addr×Obj)) (s:Shared) (σ:St) (H:Hp) (x:V) (v vl vu:Value) (lo hi:Option Int) (sl:Addr) (Q:VK),Inv X pins σ H s->RelV x v->s.heap.IsSliceOf sl vl vu .none->IsPart vl lo->IsPart vu hi->r x lo hi H Q->
  ∃ T id,typeLookup (.type T) "__getitem__" = pure (some (.builtin id))/\s.TypeIs v T/\wpAny (model X.prog X.w) X.A (getItem v (.ref sl)) (EP X pins σ Q) X.xe s
def tSl (r:V->Option Int->Option Int->Hp->VK->Prop)(te:TE)(tl th:TO):TE:=fun σ H Q=>te σ H fun x H1=>tl σ H1 fun l H2=>th σ H2 fun u H3=>r x l u H3 Q
theorem lu {r:V->Option Int->Option Int->Hp->VK->Prop}(hr:SlR X r)(he:PE X e te)(hl:PO X lo tl)(hu:PO X hi th):PE X (.Subscript e (.Slice lo hi none p2) pos) (tSl r te tl th):=by intro pins s σ H Q I h;refine Subscript_ (thn (he pins s σ H _ I h) fun v s1 ⟨x,H1,I1,r1,q1⟩=>?_);refine wpAny_Slice (thn (hl pins s1 σ H1 _ I1 q1) fun vl s2 ⟨l,H2,I2,pl,q2⟩=>thn (hu pins s2 σ H2 _ I2 q2) fun vu s3 ⟨u,H3,I3,pu,q3⟩=>?_);rw[evalPart_none];refine wpAny_pure ?_;have I4:Inv X pins σ H3 {s3 with heap:=s3.heap.push {cls:=.type "slice",data:=.fields #[vl,vu,.none]}}:=I3.kept (t':=s3.toks) fun b ob q=>Heap.get?_push_of_some _ q;obtain⟨T,id,hT,ht,hg⟩:=hr pins {s3 with heap:=s3.heap.push {cls:=.type "slice",data:=.fields #[vl,vu,.none]}} σ H3 x v vl vu l u s3.heap.objs.size Q I4 r1 (Heap.IsSliceOf.new ..) pl pu q3;show wpAny (model X.prog X.w) X.A (subscriptTail e (.Slice lo hi none p2) v (.ref s3.heap.objs.size)) (EP X pins σ Q) X.xe {s3 with heap:=s3.heap.push {cls:=.type "slice",data:=.fields #[vl,vu,.none]}};exact tail_any (ops:=[.ref s3.heap.objs.size,v]) ht hT hg (by with_unfolding_all rfl)
noncomputable def pD (xs:List V)(lo hi:Option Int):List V:=(xs.drop (HT.sIx xs.length 0 lo)).take (HT.sIx xs.length xs.length hi - HT.sIx xs.length 0 lo)
theorem lx (xs:List V)(lo hi:Option Int):(pD xs lo hi).length<=xs.length:=by unfold pD;rw[List.length_take,List.length_drop];omega
end
noncomputable def ixN (n:Nat)(i:Int):Option Nat:=if 0<=i then (if i < n then some i.toNat else none) else if -(n:Int)<=i then some (i+n).toNat else none
noncomputable def atI {α:Type}(xs:List α)(i:Int):Option α:=(ixN xs.length i).bind fun j=>xs[j]?
theorem uf {n:Nat}{i:Int}{j:Nat}(h:ixN n i=some j):seqIndex? i n=some j/\j < n/\-(n:Int)<=i/\i < n:=by
 unfold ixN at h;by_cases h0:0<=i
 ·rw[if_pos h0] at h;by_cases h1:i < n
  ·rw[if_pos h1] at h;have e:i.toNat=j:=Option.some.inj h;exact⟨by rw[seqIndex_of h0 h1,e],by omega,by omega,h1⟩
  ·rw[if_neg h1] at h;cases h
 ·rw[if_neg h0] at h;by_cases h1 : -(n:Int)<=i
  ·rw[if_pos h1] at h;have e:(i+n).toNat=j:=Option.some.inj h;exact⟨by rw[seqIndex_neg (by omega) h1,e],by omega,h1,by omega⟩
  ·rw[if_neg h1] at h;cases h
theorem kn {α:Type}{xs:List α}{i:Int}{v:α}(h:atI xs i=some v):∃ j,seqIndex? i xs.length=some j/\xs[j]? = some v/\j < xs.length/\-(xs.length:Int)<=i/\i < xs.length:=by
 unfold atI at h;cases e:ixN xs.length i with
 | none=>rw[e] at h;cases h
 | some j=>rw[e] at h;obtain⟨h1,h2,h3,h4⟩:=uf e;exact⟨j,h1,h,h2,h3,h4⟩
def ug (b:Expr):Prop:=∀ o i,subscripted b false o i=operate [o,i] (getItem o i)
def IxR (X:Cx)(r:R2):Prop:=
 ∀ (value slice:Expr) (pins:List (Addr×Obj)) (s:Shared) (σ:St) (H:Hp) (x y:V) (v u:Value) (Q:VK),Inv X pins σ H s->RelV x v->RelV y u->r x y H Q->
  subscripted slice false v u=operate [v,u] (getItem v u)->wpAny (model X.prog X.w) X.A (subscriptTail value slice v u) (EP X pins σ Q) X.xe s
def MtR (X:Cx)(id:String)(r:V->List V->Hp->VK->Prop):Prop:=
 ∀ (pins:List (Addr×Obj)) (s:Shared) (σ:St) (H:Hp) (x:V) (xs:List V) (v:Value) (us:List Value) (Q:VK),Inv X pins σ H s->RelV x v->Vals xs us->r x xs H Q->
  wpAny (model X.prog X.w) X.A (call (.builtin id) (v::us)) (EP X pins σ Q) X.xe s
section
variable {X:Cx}{a b:Expr}{ta tb:TE}{pos:Pos}
theorem IxR.or {r r':R2}(h:IxR X r)(h':IxR X r'):IxR X (fun x y H Q=>r x y H Q∨r' x y H Q):=by
 intro value slice pins s σ H x y v u Q I rx ry q hs;rcases q with q|q
 ·exact h value slice pins s σ H x y v u Q I rx ry q hs
 ·exact h' value slice pins s σ H x y v u Q I rx ry q hs
theorem vL {r:R2}(hr:IxR X r)(ha:PE X a ta)(hb:PE X b tb)(hs:ug b):PE X (.Subscript a b pos) (tOp r ta tb):=by intro pins s σ H Q I h;exact Subscript_ (xP ha hb I h fun v u s2 x y H2 I2 rx ry q=>hr a b pins s2 σ H2 x y v u Q I2 rx ry q (hs _ _))
noncomputable def Ao (K:PySem.W.Frag):R2:=fun x y H Q=>∃ p xs i v,x=.ref p/\y=.int i/\SqL K H p xs/\atI xs i=some v/\Q v H
noncomputable def Ap (K:PySem.W.Frag):R2:=fun x y H Q=>∃ p xs i v,x=.ref p/\y=.int i/\SqT K H p xs/\atI xs i=some v/\Q v H
noncomputable def Aq:R2:=fun x y H Q=>∃ z i c,x=.str z/\y=.int i/\z.length<=sizeLine/\atI z.cps.toList i=some c/\Q (.str ⟨#[c]⟩) H
theorem nP:IxR X (Ao X.K):=by
 intro value slice pins s σ H x y v u Q I rx ry h hs;obtain⟨p,xs,i,z,rfl,rfl,hq,he,q⟩:=h;cases rx;obtain⟨t,rfl⟩:=ry;obtain⟨its,r,pl,hz⟩:=I.list hq;obtain⟨j,h1,h2,h3,h4,h5⟩:=kn he;obtain⟨w,ew,rw'⟩:=r.get h2;have hl:=r.length;have hn:=iW;have fin:EP X pins σ Q w s:=⟨z,H,I,rw',q⟩
 by_cases h0:0<=i
 ·have hj:i.toNat=j:=by rw[seqIndex_of h0 h5] at h1;exact Option.some.inj h1
  exact item_listR pl.isList h0 (by omega) (by rw[hj];simpa using ew) fin hs
 ·have hj:(i+(its.toArray.size:Int)).toNat=j:=by rw[seqIndex_neg (by omega) h4] at h1;rw[List.size_toArray,<- hl];exact Option.some.inj h1
  exact subscriptTail_builtinR (x:=w) pl.isList.typeIs slot_list_getitem.lookup
   (wpAny_getItem_list_neg (Q:=fun r s'=>r=w/\EP X pins σ Q r s') pl.isList (by omega) (by rw[List.size_toArray]<;>omega) (by omega) (by rw[hj];simpa using ew) ⟨rfl,fin⟩) hs
theorem x5:IxR X (Ap X.K):=by
 intro value slice pins s σ H x y v u Q I rx ry h hs;obtain⟨p,xs,i,z,rfl,rfl,hq,he,q⟩:=h;cases rx;obtain⟨t,rfl⟩:=ry;obtain⟨its,r,pl,hz⟩:=I.tuple hq;obtain⟨j,h1,h2,h3,h4,h5⟩:=kn he;obtain⟨w,ew,rw'⟩:=r.get h2;have hl:=r.length;have hn:=iW;have fin:EP X pins σ Q w s:=⟨z,H,I,rw',q⟩
 exact subscriptTail_builtinR (x:=w) pl.typeIs slot_tuple_getitem.lookup
  (getItem_tuple (j:=j) (Q:=fun r s'=>r=w/\EP X pins σ Q r s') pl (by omega) (by omega) (by rw[List.size_toArray,<- hl];exact h1) (by simpa using ew) ⟨rfl,fin⟩) hs
theorem ya:IxR X Aq:=by
 intro value slice pins s σ H x y v u Q I rx ry h hs;obtain⟨z,i,c,rfl,rfl,hz,he,q⟩:=h;obtain⟨t,rfl⟩:=rx;obtain⟨t',rfl⟩:=ry;obtain⟨j,h1,h2,h3,h4,h5⟩:=kn he;have hl:z.cps.toList.length=z.length:=by simp[Str.length]
 rw[hl] at h1 h4 h5;have hn:=iW
 exact tail_any (typeIs_str s z t) slot_str_getitem.lookup (getItem_str (c:=c) (by
  have e1:decide (i < -(2 ^ 63:Int))=false:=decide_eq_false (by omega);have e2:decide (i >= 2 ^ 63)=false:=decide_eq_false (by omega)
  rw[e1,e2,Bool.or_false]) (by rw[h1];simpa using h2) ⟨.str ⟨#[c]⟩,H,I.tok _,⟨_,rfl⟩,q⟩) hs
noncomputable def rIx (K:PySem.W.Frag):R2:=fun x y H Q=>Ao K x y H Q∨Ap K x y H Q∨Aq x y H Q
theorem yb:IxR X (rIx X.K):=nP.or (x5.or ya)
theorem ko (lo hi:Option Int)(n:Nat):(sliceBounds lo hi none n).1=((HT.sIx n 0 lo:Nat):Int)/\(sliceBounds lo hi none n).2.1=((HT.sIx n n hi:Nat):Int)/\(sliceBounds lo hi none n).2.2=1:=by
 refine⟨?_,?_,rfl⟩
 ·cases lo with
  | none=>simp[sliceBounds,HT.sIx]
  | some i=>
   simp only[sliceBounds,HT.sIx,Option.getD_none,show (1:Int) > 0 by decide,if_true];by_cases h:i < 0
   ·simp only[h,if_true]<;>omega
   ·simp only[h,if_false]<;>omega
 ·cases hi with
  | none=>simp[sliceBounds,HT.sIx]
  | some i=>
   simp only[sliceBounds,HT.sIx,Option.getD_none,show (1:Int) > 0 by decide,if_true];by_cases h:i < 0
   ·simp only[h,if_true]<;>omega
   ·simp only[h,if_false]<;>omega
theorem jC (its:List Value)(lo hi:Option Int):slicePick its.toArray lo hi none=((its.drop (HT.sIx its.length 0 lo)).take (HT.sIx its.length its.length hi - HT.sIx its.length 0 lo)).toArray:=by obtain⟨h1,h2,h3⟩:=ko lo hi its.toArray.size;unfold slicePick;rw[h1,h2,h3];simp only[sliceRange_one,pick_run,List.size_toArray]<;>rfl
def C4 (K:PySem.W.Frag):V->Option Int->Option Int->Hp->VK->Prop:=fun x lo hi H Q=>∃ a xs,x=.ref a/\SqL K H a xs/\∀ p,H p=none->Q (.ref p) (upd H p (.lst (pD xs lo hi)))
theorem nQ:SlR X (C4 X.K):=by intro pins s σ H x v vl vu lo hi sl Q I rx hs pl pu h;obtain⟨a,xs,rfl,hx,q⟩:=h;cases rx;obtain⟨its,r,ht,hz⟩:=I.list hx;have hlen:=r.length;refine⟨"list",_,slot_list_getitem.lookup,ht.isList.typeIs,?_⟩;refine wpAny_getItem_list_slice ht.isList hs pl pu .none (by simp) ?_ (by rw[List.size_toArray]<;>omega);rw[jC,<- hlen];refine⟨.ref s.heap.objs.size,_,I.laid (t':=s.toks) (o:=.lst (pD xs lo hi)) (fun b ob q=>Heap.get?_push_of_some _ q) (Nat.le_refl _) ?_,rfl,q _ (I.hok.fresh (Nat.le_refl _))⟩;exact⟨Nat.le_trans (lx xs lo hi) hz,_,0,(r.drop (HT.sIx xs.length 0 lo)).take (HT.sIx xs.length xs.length hi - HT.sIx xs.length 0 lo),Heap.get?_push_size _ rfl⟩
theorem fS:eS X (.type "list") (fun xs H Q=>∃ p ys,xs=[.ref p]/\(SqL X.K H p ys∨SqT X.K H p ys)/\∀ l,H l=none->Q (.ref l) (upd H l (.lst ys))):=by
 intro pins s σ H xs us Q I r h;obtain⟨p,ys,rfl,hq,q⟩:=h;obtain⟨u,rfl,rx⟩:=vals1 r;cases rx;have fin:∀ (its:List Value),Vals ys its->ys.length<=sizeLine->∀ (h':Heap) (c':Nat),(∀ b o',s.heap.get? b=some o'->h'.get? b=some o')->
   h'.get? s.heap.objs.size=some {cls:=.type "list",dict:=none,data:=.seq its.toArray c',slots:=#[]}->EP X pins σ Q (.ref s.heap.objs.size) {s with heap:=h'}:=fun its r' hz h' c' kp e=>
  ⟨.ref s.heap.objs.size,_,I.laid (t':=s.toks) kp (Nat.le_refl _) (show du X.prog X.w _ h' _ (.lst ys) from ⟨hz,its,c',r',e⟩),rfl,q _ (I.hok.fresh (Nat.le_refl _))⟩
 rcases hq with hq|hq
 ·obtain⟨its,r',pl,hz⟩:=I.list hq;have hlen:=r'.length;obtain⟨o,ho,hc,n,hd⟩:=pl.isList;exact call_list_seq p (.inl rfl) ho hc hd (fun h' c' kp e=>fin its r' hz h' c' kp e) (by simp only[List.size_toArray]<;>omega)
 ·obtain⟨its,r',pl,hz⟩:=I.tuple hq;have hlen:=r'.length;obtain⟨o,ho,hc,n,hd⟩:=pl;exact call_list_seq p (.inr rfl) ho hc hd (fun h' c' kp e=>fin its r' hz h' c' kp e) (by simp only[List.size_toArray]<;>omega)
theorem jD:eS X (.type "tuple") (fun xs H Q=>∃ p ys,xs=[.ref p]/\((SqL X.K H p ys/\∀ l,H l=none->Q (.ref l) (upd H l (.tup ys)))∨(SqT X.K H p ys/\Q (.ref p) H))):=by
 intro pins s σ H xs us Q I r h;obtain⟨p,ys,rfl,h⟩:=h;obtain⟨u,rfl,rx⟩:=vals1 r;cases rx;rcases h with ⟨hq,q⟩|⟨hq,q⟩
 ·obtain⟨its,r',pl,hz⟩:=I.list hq;have hlen:=r'.length;refine call_tuple_list pl.isList (fun h' kp=>?_) (by simp only[List.size_toArray]<;>omega);have I1:Inv X pins σ H {s with heap:=h'}:=I.kept (t':=s.toks) kp;have I2:Inv X pins σ (upd H h'.objs.size (.tup ys)) {s with heap:=h'.push {cls:=.type "tuple",data:=.seq its.toArray}}:=
   I1.laid (t':=s.toks) (fun b o e=>Heap.get?_push_of_some _ e) (Nat.le_refl _) (show du X.prog X.w _ _ _ (.tup ys) from ⟨hz,its,r',IsTup.new _ _⟩)
  exact⟨.ref h'.objs.size,_,I2,rfl,q _ (I1.hok.fresh (Nat.le_refl _))⟩
 ·obtain⟨its,r',pl,hz⟩:=I.tuple hq;exact call_tuple_same pl ⟨.ref p,H,I,rfl,q⟩
def tyV (K:PySem.W.Frag)(T:String)(x:V)(H:Hp):Prop:=match x with
 | .str _=>T = "str"
 | .int _=>T = "int"
 | .ref p=>(T = "list"/\∃ xs,SqL K H p xs)∨(T = "tuple"/\∃ o,K.lookup p=some o/\o.cls=.type "tuple"/\o.dict=none)∨
   (T = "dict"/\((∃ kvs,H p=some (.dK kvs))∨∃ kvs,H p=some (.dT kvs)))∨(T = "set"/\∃ S n,H p=some (.set S n))
 | _=>False
theorem yd {pins:List (Addr×Obj)}{σ:St}{H:Hp}{s:Shared}{T:String}{x:V}{v:Value}(I:Inv X pins σ H s)(r:RelV x v)(ty:tyV X.K T x H) :
  s.TypeIs v T/\∀ a,v=.ref a->∃ ob,s.heap.get? a=some ob/\ob.dict=none:=by
 cases x with
 | str z=>obtain⟨t,rfl⟩:=r;cases (show T = "str" from ty);exact⟨typeIs_str s z t,fun _ e=>nomatch e⟩
 | int i=>obtain⟨t,rfl⟩:=r;cases (show T = "int" from ty);exact⟨typeIs_int s i t,fun _ e=>nomatch e⟩
 | ref p=>
  cases r;rcases ty with ⟨rfl,xs,hq⟩|⟨rfl,o,hk,hc,hd⟩|⟨rfl,hk⟩|⟨rfl,S,n,hk⟩
  ·obtain⟨its,_,pl,_⟩:=I.list hq;refine⟨pl.isList.typeIs,fun a e=>?_⟩;cases e;obtain⟨o,n,e,c,hd,_⟩:=pl;exact⟨o,e,hd⟩
  ·refine⟨⟨o,I.kIn p o hk,hc⟩,fun a e=>?_⟩;cases e;exact⟨o,I.kIn _ o hk,hd⟩
  ·have z:∃ o,s.heap.get? p=some o/\o.ExactDict:=by
    rcases hk with ⟨kvs,hk⟩|⟨kvs,hk⟩
    ·obtain⟨_,_,_,_,o,_,_,e,ex,_⟩:=I.hok p _ hk;exact⟨o,e,ex⟩
    ·obtain⟨_,_,_,_,o,_,_,e,ex,_⟩:=I.hok p _ hk;exact⟨o,e,ex⟩
   obtain⟨o,e,ex⟩:=z;refine⟨⟨o,e,ex.1⟩,fun a e2=>?_⟩;cases e2;exact⟨o,e,ex.2.1⟩
  ·obtain⟨o,_,_,_,e,ex,_⟩:=I.hok p _ hk;refine⟨⟨o,e,ex.1⟩,fun a e2=>?_⟩;cases e2;exact⟨o,e,ex.2.1⟩
 | _=>exact False.elim ty
def tBM (K:PySem.W.Frag)(T:String)(r:V->List V->Hp->VK->Prop)(to:TE)(t:TA):TE:=fun σ H Q=>to σ H fun x H1=>tyV K T x H1/\t σ H1 fun xs H2=>r x xs H2 Q
variable {o e:Expr}{es:List Expr}{to:TE}{t:TA}{name:Str}{apos cpos:Pos}{T id:String}{r:V->List V->Hp->VK->Prop}
theorem lC (pa:PlainAttrs T)(slot:Slot T name id)(hty:typeOf (.builtin id)=pure (.type "method_descriptor")) (hm:MtR X id r) (ho:PE X o to) (ha:PA X (e::es) t)
  (hbase:attributeBase o name X.env (eval o X.env)=eval o X.env:=by rfl)
  (hfew:((backTo cpos (starEach (e::es) X.env)).all (fun x=>!x.1)&&(backToKw cpos (keywordEach [] X.env)).all (fun x=>x.1.isSome)
  &&decide ((e::es).length+([]:List Keyword).length+(if ([]:List Keyword).isEmpty then 0 else 1) < 30))=true:=by rfl)
  (hline:(apos.endLine == cpos.line)=true:=by rfl) (hs:starEach (e::es) X.env=(false,eval e X.env)::starEach es X.env:=by rfl) (hplain:(backTo cpos (starEach es X.env)).any (·.1)=false:=by rfl) :
  PE X (.Call (.Attribute o name apos) (e::es) [] cpos) (tBM X.K T r to t):=by
 intro pins s σ H Q I h;refine wpAny_Call_method_late hbase hfew hline rfl (thn (ho pins s σ H _ I h) fun v s1 ⟨x,H1,I1,r1,ty,q1⟩=>?_);obtain⟨h1,h2⟩:=yd I1 r1 ty;refine⟨T,id,pa,slot,hty,h1,h2,?_⟩;have hA:=ha cpos pins s1 σ H1 _ I1 q1;rw[hs] at hA ⊢;refine Calls.callWith_builtin (by show (false||(backTo cpos (starEach es X.env)).any (·.1))=false;rw[hplain]<;>rfl) (Calls.evalArgs_plain ?_);exact thn hA fun us s2 ⟨vs,H2,I2,r2,q2⟩=>hm pins s2 σ H2 x vs v us Q I2 r1 r2 q2
end
def MtM (X:Cx)(id:String)(r:V->List V->Hp->VK->Prop):Prop:=
 ∀ (pins:List (Addr×Obj)) (s:Shared) (σ:St) (H:Hp) (x:V) (xs:List V) (v:Value) (us:List Value) (Q:VK),Inv X pins σ H s->RelV x v->Vals xs us->r x xs H Q->
  wpAny (model X.prog X.w) X.A (call (.builtin id) (v::us)) (EP X pins σ Q) X.xe s
theorem Vals.one:∀ {x:V}{us:List Value},Vals [x] us->∃ u,us=[u]/\RelV x u
 | _,_,.cons r .nil=>⟨_,rfl,r⟩
theorem Vals.rep {xs:List V}{us:List Value}(h:Vals xs us):∀ k:Nat,Vals (List.replicate k xs).flatten (List.replicate k us).flatten
 | 0=>.nil
 | k+1=>by rw[List.replicate_succ,List.replicate_succ,List.flatten_cons,List.flatten_cons];exact Vals.append h (Vals.rep h k)
theorem foldl_rep (its:List Value):∀ (k:Nat) (acc:List Value),
  List.foldl (fun x1 x2=>x1++x2) acc.toArray (List.replicate k its.toArray)=(acc++(List.replicate k its).flatten).toArray
 | 0,acc=>by simp
 | k+1,acc=>by
  have e:acc.toArray++its.toArray=(acc++its).toArray:=by simp
  have e2:(acc++its)++(List.replicate k its).flatten=acc++(List.replicate (k+1) its).flatten:=by rw[List.replicate_succ,List.flatten_cons,List.append_assoc]
  rw[<- e2,<- foldl_rep its k (acc++its),<- e,List.replicate_succ,List.foldl_cons]
section
variable {X:Cx}{pins:List (Addr×Obj)}{σ:St}{H:Hp}{s:Shared}{l b:Addr}{xs ys zs:List V}
theorem Inv.lset {its its':List Value}{n:Nat}{f:Array Value->Array Value}{t':Nat}(I:Inv X pins σ H s)(hH:H l=some (.lst xs))
  (e:s.heap.get? l=some {cls:=.type "list",data:=.seq its.toArray n}) (hf:f its.toArray=its'.toArray) (hv:Vals ys its') (hz:ys.length<=sizeLine) :
  Inv X pins σ (upd H l (.lst ys)) {s with heap:=s.heap.update l (Obj.mapSeq f),toks:=t'}:=by
 have q:=PySem.IsL.update e f;rw[hf] at q;refine I.write (x:=l) (e:=l) (by rw[hH];exact trivial) (.inl rfl) (fun b' u hb hu=>(Heap.get?_update_other s.heap (Obj.mapSeq f) (Ne.symm hb)).trans hu) ⟨_,q⟩ ?_;exact⟨hz,its',_,hv,q⟩
theorem Inv.lnew {its:List Value}{t':Nat}(I:Inv X pins σ H s)(hv:Vals ys its)(hz:ys.length<=sizeLine) :
  Inv X pins σ (upd H s.heap.objs.size (.lst ys)) {s with heap:=s.heap.push {cls:=.type "list",data:=.seq its.toArray},toks:=t'}:=
 I.laid (fun _ _ q=>Heap.get?_push_of_some _ q) (Nat.le_refl _) ⟨hz,its,0,hv,Heap.get?_push_size _ rfl⟩
theorem Inv.fresh (I:Inv X pins σ H s):H s.heap.objs.size=none:=I.hok.fresh (Nat.le_refl _)
theorem Inv.lstM (I:Inv X pins σ H s)(hH:H l=some (.lst xs)):xs.length<=sizeLine/\∃ (its:List Value) (n:Nat),Vals xs its/\xs.length=its.length/\s.heap.get? l=some {cls:=.type "list",data:=.seq its.toArray n}:=by obtain⟨z,its,n,r,e⟩:=I.hok l _ hH;exact⟨z,its,n,r,r.length,e⟩
theorem qy {n:Nat}(h:n<=sizeLine):Builtin.List.listTooLong n=false:=by unfold Builtin.List.listTooLong;exact decide_eq_false (by omega)
end
section
variable {X:Cx}
def uh:V->List V->Hp->VK->Prop:=fun x vs H Q=>∃ l xs y,x=.ref l/\vs=[y]/\H l=some (.lst xs)/\xs.length < sizeLine/\Q .non (upd H l (.lst (xs++[y])))
theorem ib:MtM X "list.append" uh:=by intro pins s σ H x vs v us Q I rx rv h;obtain⟨l,xs,y,rfl,rfl,hH,hz,q⟩:=h;cases rx;obtain⟨u,rfl,ru⟩:=rv.one;obtain⟨z,its,n,r,hl,e⟩:=I.lstM hH;refine call_meets F.slot_list_append ⟨_,e,rfl⟩ F.entry_list_append (F.args_list_append_2 _ _) (PySem.list_append l its.toArray n u (by rw[List.size_toArray];omega)) ⟨e,?_⟩;refine⟨.non,_,I.lset (its':=its++[u]) hH e (by simp) (r.append (.cons ru .nil)) ?_,rfl,q⟩;rw[List.length_append,List.length_singleton];omega
theorem len_rep {α:Type}(xs:List α)(k:Nat):(List.replicate k xs).flatten.length=k*xs.length:=by
 induction k with
 | zero=>simp
 | succ k ih=>rw[List.replicate_succ,List.flatten_cons,List.length_append,ih,Nat.succ_mul,Nat.add_comm]
end
end L2
namespace Att
open PySem PySem.W PySem.Calls PyProof.Rows
theorem iL {P:Params}{h:Heap}:∀ (ns:List Int) (vs:List Value),WellAll P h vs (ns.map WData.int)->IntsAre vs ns:=by
 intro ns
 induction ns with
 | nil=>intro vs w;rw[List.map_nil] at w;cases w;exact .nil
 | cons n ns ih=>
  intro vs w;rw[List.map_cons] at w;cases w with
  | cons a b=>cases a;exact .cons _ _ (ih _ b)
theorem pE {l:OpenLaw}{n:Nat}(hn:l.most=some n){P:Params}{h:Heap}{args:List WData}{vals:List Value}
  (hpre:l.row.toRowW.claim.pre args=true) (hwl:WellAll P h vals args) :
  ∃ a vs ns,vals=[Value.ref a]/\args=[WData.list (ns.map WData.int)]/\h.get? a=some {cls:=.type "list",data:=.seq vs.toArray}/\IntsAre vs ns/\ns.length<=n:=by
 have hsh:WShape.hasAll [] args [.list .int]=true:=(pre_splitW hpre).1;have hc:l.pre.holds [] {args:=args} = true:=(pre_splitW hpre).2;obtain⟨d,r,rfl,h1,h2⟩:=hasAllW_cons hsh;obtain rfl:=hasAllW_nil h2;obtain⟨xs,rfl,h3⟩:=hasW_list h1;obtain⟨ns,rfl⟩:=items_int h3;have hlen:ns.length<=n:=by
  unfold OpenLaw.pre at hc;have h4:(WTm.not (.lt (.lit (.int (n:Int))) (.len (.arg 0)))).holds [] {args:=[.list (ns.map .int)]} = true:=by have h4:=(holds_andW hc).1;rw[hn] at h4;exact h4
  have h5:=condW_of h4 (w_not (w_lt w_lit (w_len_list (w_arg rfl))));rw[List.length_map] at h5;refine Nat.le_of_not_lt fun q=>?_;have q':(n:Int) < ((ns.length:Nat):Int):=by omega
  first
   | (rw[decide_eq_true q'] at h5;exact absurd h5 (by decide))
   | (simp at h5;omega)
 cases hwl with
 | cons w1 w2=>
  cases w2;cases w1 with
  | list ho hall=>exact⟨_,_,ns,rfl,rfl,ho,iL ns _ hall,hlen⟩
theorem pF (l:OpenLaw)(args:List WData):l.row.toRowW.claim.post args (.bool true) args=true:=
 postW_of (r:=l.row.toRowW) (X:=(true == true))
  (show WShape.has [] (.bool true) .bool=true by first|rfl|decide|simp[WShape.has,WShape.arms,WShape.armsAll])
  (show (WTm.eq .res (.lit (.bool true))).value [] {args:=args,res:=some (.bool true),after:=args} = some (.bool (true == true)) from w_eq_bool (w_res rfl) w_lit) rfl
theorem attach_call {l:OpenLaw}{n:Nat}{q:Program}{loose:List Str}{XP:(Str->Option Value)->Heap->Prop}{YP:World->Heap->Prop}{d:DefRec}
  (hn:l.most=some n) (hdf:d.params.defaults=[])
  (call:∀ (w:World) (s₀ s₁:Shared) (mg mb:Str->Option Value) (fa:Addr) (o:Obj) (pm cd doc:Value) (a:Addr) (vs:List Value) (ns:List Int),
   Ground q loose [] XP w s₀ mg mb s₁.heap->YP w s₁.heap->
   s₁.heap.get? fa=some o->o.data=.func (docDef d.name d.params d.body d.scope pm cd doc)->s₁.heap.CodeRec cd d.name->mg d.name=some (.ref fa)->
   s₁.heap.get? a=some {cls:=.type "list",data:=.seq vs.toArray}->IntsAre vs ns->ns.length<=n->s₁.gens = #[]->
   codeAny (model l.prog w) callerA (.call (.ref fa) ⟨[.ref a],[]⟩) (fun r s'=>r=.ok (.ret (.bool true))/\OldK s₁.heap s'.heap/\s'.os=s₁.os/\AllBare s'.gens) s₁) :
  WalkO q loose XP YP l.row.toRowW d [] (fun f vs=>PySem.call f vs):=by
 intro w s₀ s₁ mg mb G Y fa o pm cd doc dV kV ho hd hcd hD hmg hg args vals as hpre hlay hrd hwl hlo;obtain rfl:dV=.none:=Dflts.none hD hdf;obtain rfl:kV=.none:=Dflts.noKw hD;obtain⟨a,vs,ns,rfl,rfl,hobj,hints,hlen⟩:=pE hn hpre hwl;refine enter_call (codeAny_mono (call w s₀ s₁ mg mb fa o pm cd doc a vs ns G Y ho (fd_plain hd) hcd hmg hobj hints hlen hg) fun r s' hq=>?_);obtain⟨rfl,h2,h3,h4⟩:=hq;exact⟨.inl ⟨.bool true,.bool true,[],rfl,fun _=>rfl,.bool true,pF l _,fun _=>⟨List.Pairwise.nil,fun _ hm=>(nomatch hm)⟩⟩,h2,h3,h4⟩
end Att
namespace L2
open PySem PySem.Spec PyProof.Rows
def KL (K:PySem.W.Frag)(a:Addr)(xs:List V):Prop:=
 ∃ (its:List Value) (n:Nat),K.lookup a=some {cls:=.type "list",data:=.seq its.toArray n}/\its.length<=sizeLine/\Vals xs its
def Ls (K:PySem.W.Frag)(H:Hp)(a:Addr)(xs:List V):Prop:=Rd H a (.lst xs)∨KL K a xs
theorem jT:∀ {vs:List Value}{ns:List Int},IntsAre vs ns->Vals (ns.map V.int) vs
 | _,_,.nil=>.nil
 | _,_,.cons n t h=>.cons ⟨t,rfl⟩ (jT h)
def yf (H:Hp):Prop:=∀ b,H b=none∨∃ o xs,H b=some (.frz o (.lst xs))
theorem qz {P:Program}{w:World}{K:PySem.W.Frag}{mg mb:Str->Option Value}{CX:CXT}{k:Nat}{fa a:Addr}{fd:FuncData}{x:Str}{sp:Sp}{s₁:Shared}{vs:List Value}{ns:List Int}
  (KX:K.In s₁.heap) (hns:s₁.heap.Ns mainGlobals mg) (hb:s₁.heap.Ns builtinsNs mb) (hbb:∀ x:Str,x≠"__name__"->mb x=bootBuiltins x) (hlim:s₁.heap.NoLimit) (hg:s₁.gens = #[])
  (ha:s₁.heap.get? a=some {cls:=.type "list",data:=.seq vs.toArray}) (hi:IntsAre vs ns) (hl:ns.length<=sizeLine) (hr:Room k callerA)
  (F:∀ base:Heap,K.In base->base.Ns mainGlobals mg->FnOk P w K mg base CX k fa fd [x] sp) (hbind:∀ (s:Shared) (u:Value),BindsTo s fd ⟨[u],[]⟩ [(x,u)])
  (hsp:∀ H:Hp,yf H->Ls K H a (ns.map V.int)->sp [.ref a] H (fun v _=>v=.bl true) fun _ _ _=>False)
  (hCX:∀ H e s',CX [] H s₁ (fun _ _ _=>False) e s'->False) :
  codeAny (model P w) callerA (.call (.ref fa) ⟨[.ref a],[]⟩) (fun r s'=>r=.ok (.ret (.bool true))/\OldK s₁.heap s'.heap/\s'.os=s₁.os/\AllBare s'.gens) s₁:=by
 have rv:=jT hi;have lenV:=hi.length
 -- from an abstract heap in which nothing but the script may be tracked
 have core:∀ H:Hp,yf H->Ls K H a (ns.map V.int)->HOk P w H s₁.heap->(∀ b,H b≠none->b=a)->(H a≠none->K.lookup a=none)->
   codeAny (model P w) callerA (.call (.ref fa) ⟨[.ref a],[]⟩) (fun r s'=>r=.ok (.ret (.bool true))/\OldK s₁.heap s'.heap/\s'.os=s₁.os/\AllBare s'.gens) s₁:=by
  intro H hO hS hok hA hK;have base_of:∀ {b:Addr}{o:Obj},s₁.heap.get? b=some o->H b=none->(km s₁.heap H).get? b=some o:=fun e n=>qa e n;have noA:∀ {b:Addr}{o:Obj}{es:Array DictEntry}{ep:Nat},s₁.heap.get? b=some o->o.data=.dict es ep->H b=none:=fun {b o es ep} e d=>by
   cases q:H b with
   | none=>rfl
   | some u=>have e':b=a:=hA b (by rw[q];simp);subst e';rw[ha] at e;cases e;have d':Data.seq vs.toArray _=Data.dict es ep:=d;cases d'
  have nsK:∀ {b:Addr}{m:Str->Option Value},s₁.heap.Ns b m->(km s₁.heap H).Ns b m:=fun {b m} ⟨o,es,ep,e,d,r⟩=>⟨o,es,ep,base_of e (noA e d),d,r⟩
  have hKb:K.In (km s₁.heap H):=fun b o e=>base_of (KX b o e) (by
   cases q:H b with
   | none=>rfl
   | some u=>
    have e':b=a:=hA b (by rw[q];simp);subst e'
    rw[hK (by rw[q];simp)] at e;cases e)
  have hM:Mod K mg (km s₁.heap H):=⟨hKb,nsK hns,⟨mb,nsK hb,hbb⟩,let ⟨mc,h1,h2⟩:=hlim;⟨mc,nsK h1,h2⟩⟩
  have e0:Env0 P w K mg (km s₁.heap H) callerA [] s₁ H:=⟨rfl,hM,fun b o e=>tU e,Nat.le_of_eq (pk _ _),trivial,fun b hb=>absurd (show b∈([]:List Addr) from hb) (by simp),hok,.of_eq hg⟩
  refine codeAny_mono ((F _ hKb (nsK hns)).run callerA [] s₁ H ⟨[.ref a],[]⟩ [.ref a] [.ref a] _ _ hr e0 (hbind s₁ (.ref a)) (.cons rfl .nil) (hsp H hO hS)) fun r s' h=>?_;cases r with
  | error e=>exact(hCX H e s' h).elim
  | ok fl=>
   cases fl with
   | next=>exact False.elim h
   | brk=>exact False.elim h
   | cont=>exact False.elim h
   | ret u=>
    obtain⟨v,H',os,bare,un,hok',r',q⟩:=h;have q':v=.bl true:=q;subst q';obtain rfl:u=Value.bool true:=r';refine⟨rfl,OldK.of_keep fun b o e=>?_,os,bare⟩;cases q:H b with
    | none=>exact un.keep b o e q (by intro z;exact absurd (show b∈([]:List Addr) from z) (by simp)) (by simp)
    | some u=>
     rcases hO b with z|⟨ob,xs,z⟩
     ·rw[q] at z;cases z
     ·have z2:=un.frzs b ob _ z;obtain⟨e1,_⟩:=hok b _ z;obtain⟨e2,_⟩:=hok' b _ z2;rw[e] at e1;cases e1;exact e2
 cases hk:K.lookup a with
 | some o=>
  -- the script is one of the module's own objects
  have e:=KX a o hk;rw[ha] at e;cases e;refine core (fun _=>none) (fun _=>.inl rfl) (.inr ⟨vs,_,hk,by rw[lenV];exact hl,rv⟩) (fun b u z=>by have z':(none:Option HO)=some u:=z;cases z') (fun b z=>absurd rfl z) fun z=>absurd rfl z
 | none=>
  refine core (fun b=>if b=a then some (.frz {cls:=.type "list",data:=.seq vs.toArray} (.lst (ns.map V.int))) else none) (fun b=>?_) (.inl (.inr ⟨{cls:=.type "list",data:=.seq vs.toArray},if_pos rfl⟩)) (fun b u z=>?_) (fun b z=>?_) fun _=>hk
  ·by_cases hb:b=a
   ·exact .inr ⟨_,_,if_pos hb⟩
   ·exact .inl (if_neg hb)
  ·by_cases hb:b=a
   ·have z':=(if_pos hb).symm.trans z;cases z';subst hb;exact⟨ha,by rw[List.length_map];exact hl,vs,_,rv,ha⟩
   ·have z':=(if_neg hb).symm.trans z;cases z'
  ·by_cases hb:b=a
   ·exact hb
   ·exact absurd (if_neg hb) z
theorem ui {l:PySem.W.OpenLaw}{n k:Nat}{q:Program}{loose:List Str}{XP:(Str->Option Value)->Heap->Prop}{YP:World->Heap->Prop}{d:DefRec}{K:Params->PySem.W.Frag}{CX:World->CXT}{sp:World->Sp}{x:Str}
  (hn:l.most=some n) (hn2:n<=sizeLine) (hdf:d.params.defaults=[]) (hr:Room k callerA)
  (hY:∀ (w:World) (h:Heap),YP w h->(K w.params).In h)
  (F:∀ (w:World) (mg:Str->Option Value) (fa:Addr) (h:Heap),(K w.params).In h->h.Ns mainGlobals mg->mg d.name=some (.ref fa)->
   ∃ fd:FuncData,(∀ (s:Shared) (u:Value),BindsTo s fd ⟨[u],[]⟩ [(x,u)])/\
    ∀ base:Heap,(K w.params).In base->base.Ns mainGlobals mg->FnOk l.prog w (K w.params) mg base (CX w) k fa fd [x] (sp w))
  (hsp:∀ (w:World) (H:Hp) (a:Addr) (ns:List Int),ns.length<=n->yf H->Ls (K w.params) H a (ns.map V.int)->sp w [.ref a] H (fun v _=>v=.bl true) fun _ _ _=>False)
  (hCX:∀ (w:World) (H:Hp) (s:Shared) (e:Value) (s':Shared),CX w [] H s (fun _ _ _=>False) e s'->False) :
  PySem.W.WalkO q loose XP YP l.row.toRowW d [] (fun f vs=>PySem.call f vs):=by
 refine Att.attach_call hn hdf fun w s₀ s₁ mg mb fa o pm cd doc a vs ns G Y ho hd hcd hmg hobj hints hlen hg=>?_;have KX:=hY w _ Y;obtain⟨fd,hb,hF⟩:=F w mg fa _ KX G.T.g hmg;exact qz KX G.T.g G.T.b G.T.builtins G.T.nolimit hg hobj hints (Nat.le_trans hlen hn2) hr hF hb (fun H hO hS=>hsp w H a ns hlen hO hS) fun H e s'=>hCX w H s₁ e s'
noncomputable def dC (s:Stmt):Arguments:=match s with
 | .FunctionDef _ a _ _ _ _ _ _ _ _=>a
 | _=>{posonlyargs:=[],args:=[],vararg:=none,kwonlyargs:=[],kw_defaults:=[],kwarg:=none,defaults:=[]}
noncomputable def da (s:Stmt):List Stmt:=match s with
 | .FunctionDef _ _ b _ _ _ _ _ _ _=>b
 | _=>[]
noncomputable def cQ (s:Stmt):Scope:=match s with
 | .FunctionDef _ _ _ _ _ _ sc _ _ _=>sc
 | _=>{kind:=.function,names:=[],isGenerator:=false,isCoroutine:=false}
def cO (H H':Hp):Prop:=∀ b o,H b=some o->H' b=some o
theorem cO.refl (H:Hp):cO H H:=fun _ _ h=>h
theorem cO.trans {H H1 H2:Hp}(a:cO H H1)(b:cO H1 H2):cO H H2:=fun c o h=>b c o (a c o h)
theorem cO.free {H H':Hp}(e:cO H H'){l:Addr}(h:H' l=Option.none):H l=Option.none:=by
 cases q:H l with
 | none=>rfl
 | some o=>rw[e l o q] at h;cases h
theorem cO.seq {K:PySem.W.Frag}{H H':Hp}{a:Addr}{xs:List V}(e:cO H H')(h:SqL K H a xs):SqL K H' a xs:=by
 rcases h with (h|⟨o,h⟩)|h
 ·exact .inl (.inl (e _ _ h))
 ·exact .inl (.inr ⟨o,e _ _ h⟩)
 ·exact .inr h
theorem cT {X:Cx}{e:Expr}{t t':TE}(h:PE X e t)(m:∀ σ H Q,t' σ H Q->t σ H Q):PE X e t':=fun pins s σ H Q I q=>h pins s σ H Q I (m σ H Q q)
theorem iX {X:Cx}{e:Expr}{t t':TT}(h:PT X e t)(m:∀ σ H Q,t' σ H Q->t σ H Q):PT X e t':=fun pins s σ H Q I q=>h pins s σ H Q I (m σ H Q q)
theorem kq {X:Cx}{e:List Expr}{t t':TA}(h:PA X e t)(m:∀ σ H Q,t' σ H Q->t σ H Q):PA X e t':=fun pos pins s σ H Q I q=>h pos pins s σ H Q I (m σ H Q q)
theorem dN {X:Cx}{e:Stmt}{t t':TS}(h:PS X e t)(m:∀ D σ H,t' D σ H->t D σ H):PS X e t':=fun pins s σ H D I q=>h pins s σ H D I (m D σ H q)
theorem kr {X:Cx}{e:List Stmt}{t t':TS}(h:PSs X e t)(m:∀ D σ H,t' D σ H->t D σ H):PSs X e t':=fun pins s σ H D I q=>h pins s σ H D I (m D σ H q)
theorem iY {X:Cx}{tg e:Expr}{t t':TI}(h:PI X tg e t)(m:∀ σ H Q,t' σ H Q->t σ H Q):PI X tg e t':=fun pins s σ H Q I q=>h pins s σ H Q I (m σ H Q q)
def cxC (X:Cx)(scope:Scope)(cl:List (Str×Addr))(N:List Str)(C:Addr)(s3:Shared)(H3:Hp)(fp:List Addr)(xe:Value->Shared->Prop:=fun _ _=>False):Cx:=
 {X with N:=N,s₀:=s3,H₀:=H3,env:=compEnvC scope cl C X.env,outer:=X.stack,ex:=fp,fn:=fun _=>false,pn:=[],xe:=xe}
structure CompSc (X:Cx)(scope:Scope)(cl:List (Str×Addr))(Fr:List (Str×Nat))(Tg:List Str):Prop where
 clos:closureFor scope X.env=pure cl
 kind:scope.kind=.function
 nocell:∀ y∈scope.names,y.2≠.cell
 loc:∀ y∈scope.names,y.2=.local->scope.names.lookup y.1=some .local
 sub:∀ x c,cl.lookup x=some c->X.env.cells.lookup x=some c
 has:∀ x,((relabel scope X.env).names.lookup x=some .cell∨(relabel scope X.env).names.lookup x=some .free)->∃ c,cl.lookup x=some c
 out:∀ p∈Fr,X.N[p.2]? = some p.1/\(X.env.kindOf p.1=some .cell∨X.env.kindOf p.1=some .free)/\((relabel scope X.env).names.lookup p.1=some .cell∨(relabel scope X.env).names.lookup p.1=some .free)
noncomputable def stC (Fr:List (Str×Nat))(Tg:List Str)(σ:St):St:=Fr.map (fun p=>(σ[p.2]?).join)++List.replicate Tg.length none
section
variable {X:Cx}{scope:Scope}{cl:List (Str×Addr)}{Fr:List (Str×Nat)}{Tg:List Str}{pins:List (Addr×Obj)}{σ:St}{H3:Hp}{s3:Shared}{fp:List Addr}
theorem yg (S:CompSc X scope cl Fr Tg)(I:Inv X pins σ H3 s3)(hf:∀ b∈fp,gz X pins H3 b)(hfs:∀ b∈fp,b < s3.heap.objs.size)(N:List Str)(xe:Value->Shared->Prop):(cxC X scope cl N s3.heap.objs.size s3 H3 fp xe).Ok where
 mod:=I.ok.mod
 kind:=S.kind
 glob:=I.ok.glob
 blt:=I.ok.blt
 above:=Nat.le_refl _
 inj:=fun x y c h1 h2=>I.ok.inj x y c (S.sub x c h1) (S.sub y c h2)
 has:=fun x h=>S.has x h
 cab:=fun x c h _=>absurd (show false=true from h) (by decide)
 hd:=I.ok.hd
 frames:=I.ok.frames
 stk:=.inl rfl
 exf:=fun b hb=>⟨Nat.ne_of_lt (hfs b hb),fun x c e z=>(hf b hb).2.2.2.2.1 x c (S.sub x c e) z⟩
 bs:=I.bs
 bsz:=Nat.le_trans I.ok.bsz I.sz
 noex:=fun b o e hb=>by
  rcases (hf b hb).2.2.2.1 with z|z
  ·exact I.ok.noex b o e z
  ·exact absurd (Nat.lt_of_lt_of_le (Heap.lt_size e) (Nat.le_trans I.ok.bsz z)) (Nat.lt_irrefl _)
 exfs:=fun b hb z=>by
  rcases List.mem_cons.mp (I.stkSub b z) with z|z
  ·exact(hf b hb).2.1 z
  ·exact(hf b hb).2.2.1 z
 funs:=I.stack
 frf:=I.stkFree
theorem pG (S:CompSc X scope cl Fr Tg)(I:Inv X pins σ H3 s3)(hf:∀ b∈fp,gz X pins H3 b)(hfs:∀ b∈fp,b < s3.heap.objs.size){h':Heap}{tk:Nat}
  (hns:h'.Ns s3.heap.objs.size (fun _=>none)) (hk:∀ b o,s3.heap.get? b=some o->h'.get? b=some o) (xe:Value->Shared->Prop) :
  Inv (cxC X scope cl (Fr.map (·.1)++Tg) s3.heap.objs.size s3 H3 fp xe) [] (stC Fr Tg σ) H3 {s3 with heap:=h',toks:=tk} where
 ok:=yg S I hf hfs _ _
 os:=rfl
 bare:=I.bare
 base:=Un.kept hk
 loc:=by
  refine⟨_,hns,fun i x v e1 e2 e3=>?_⟩;have hi:i < Fr.length:=by
   by_cases hi:i < Fr.length
   ·exact hi
   ·unfold stC at e2;rw[List.getElem?_append_right (by simpa using hi),List.getElem?_replicate] at e2;split at e2<;>cases e2
  have e1':(Fr.map (·.1))[i]? = some x:=by rw[<- e1];exact(List.getElem?_append_left (by simpa using hi)).symm
  have e2':(Fr.map (fun p=>(σ[p.2]?).join))[i]? = some (some v):=by rw[<- e2];exact(List.getElem?_append_left (by simpa using hi)).symm
  rw[List.getElem?_map] at e1' e2';obtain⟨p,hp,rfl⟩:=Option.map_eq_some_iff.mp e1';rw[hp] at e2';have e2'':(σ[p.2]?).join=some v:=Option.some.inj e2';have e4:σ[p.2]? = some (some v):=by
   cases q:σ[p.2]? with
   | none=>rw[q] at e2'';cases e2''
   | some y=>rw[q] at e2'';rw[show y=some v from e2'']
  obtain⟨o1,o2,o3⟩:=S.out p (List.mem_of_getElem? hp);obtain⟨m,hn,hl⟩:=I.loc;have hv:Vis X.env.scope p.1:=by
   rcases o2 with o2|o2
   ·exact .inr (.inl o2)
   ·exact .inr (.inr o2)
  obtain⟨u,r,l⟩:=hl p.2 p.1 v o1 e4 hv;refine⟨u,r,.inr ⟨o3,?_⟩⟩;obtain⟨c,hc⟩:=S.has p.1 o3;refine⟨c,hc,?_⟩;have hc':=S.sub _ _ hc;rcases l with ⟨k,_⟩|⟨_,c2,h2,z⟩
  ·rcases o2 with o2|o2<;>(rw[k] at o2;cases o2)
  ·rw[hc'] at h2;cases h2;obtain⟨o,ho,hd⟩:=z;exact⟨o,hk _ _ ho,hd⟩
 cell:=fun x c e=>by obtain⟨v,o,ho,hd⟩:=I.cell x c (S.sub x c e);exact⟨v,o,hk _ _ ho,hd⟩
 free:=I.hok.fresh (Nat.le_refl _)
 freeC:=fun x c e=>I.freeC x c (S.sub x c e)
 pin:=fun p hp=>absurd (show p∈([]:List (Addr×Obj)) from hp) (by simp)
 hok:=I.hok.kept hk
 len:=by unfold stC;show _=(Fr.map (·.1)++Tg).length;simp
end
def PTs (X:Cx)(ifs:List Expr)(t:TT):Prop:=
 ∀ (pins:List (Addr×Obj)) (s:Shared) (σ:St) (H:Hp) (Q:Bool->Hp->Prop),Inv X pins σ H s->t σ H Q->
  wpAny (model X.prog X.w) X.A (forIn ifs true fun c r=>if r=true then do let ok <- isTrue c X.env (eval c X.env);pure (ForInStep.yield ok) else pure (ForInStep.yield r)) (TP X pins σ Q) X.xe s
theorem iH {M:Model}{A:Around}{E:Value->Shared->Prop}{s:Shared}{env:Env}{Q:Bool->Shared->Prop}(h:Q false s):∀ ifs:List Expr,
  wpAny M A (forIn ifs false fun c r=>if r=true then do let ok <- isTrue c env (eval c env);pure (ForInStep.yield ok) else pure (ForInStep.yield r)) Q E s
 | []=>by rw[List.forIn_nil];exact wpAny_pure h
 | c::cs=>by rw[List.forIn_cons];rw[if_neg Bool.false_ne_true];exact wpAny_bind (wpAny_pure (iH h cs))
theorem uj {X:Cx}:PTs X [] (fun _ H Q=>Q true H):=fun pins s σ H Q I q=>by rw[List.forIn_nil];exact wpAny_pure ⟨H,I,q⟩
theorem qA {X:Cx}{c:Expr}{cs:List Expr}{t u:TT}(hc:PT X c t)(hr:PTs X cs u):PTs X (c::cs) (Ad t u):=fun pins s σ H Q I q=>by
 rw[List.forIn_cons,if_pos rfl];refine wpAny_bind (wpAny_bind (thn (hc pins s σ H _ I q) fun b s1 ⟨H1,I1,q1⟩=>wpAny_pure ?_))
 induction b using zB with
 | true=>exact hr pins s1 σ H1 Q I1 q1
 | false=>exact iH ⟨H1,I1,q1⟩ cs
def qB (wi:TI)(start:St->St)(g:TG)(tt:TT)(te:TE):TE:=fun σ H Q=>wi σ H fun J H1=>∀ D,H1 D=none->∃ W:Nat->Nat->St->Hp->Prop,(∃ m,W 0 m (start σ) (upd H1 D (.lst [])))/\
 ∀ i m σ' H',W i m σ' H'->(J.stop i H'/\Q (.ref D) H')∨(J.go i H'/\∀ x H2,J.yld i H' x H2->g x σ' H2 fun σ2 H3=>tt σ2 H3 fun b H4=>
  if b=true then te σ2 H4 fun v H5=>∃ ys,H5 D=some (.lst ys)/\ys.length < sizeLine/\∃ m',m' < m/\W (i+1) m' σ2 (upd H5 D (.lst (ys++[v])))
  else ∃ m',m' < m/\W (i+1) m' σ2 H4)
section
variable {X:Cx}{scope:Scope}{cl:List (Str×Addr)}{Fr:List (Str×Nat)}{Tg:List Str}{elt tg iter:Expr}{ifs:List Expr}{wi:TI}{g:TG}{tt:TT}{te:TE}{pos:Pos}
theorem ku (scope:Scope)(pos:Pos)(it acc:Value)(env:Env) :
  compTurn (.ListComp elt [⟨tg,iter,ifs,0⟩] scope pos) 0 it acc env=(do
   standAt iter.pos
   match <- pyNext it with
   | none=>pure (.done .next)
   | some v=>
    letOwnedTupleGo tg it v
    assign tg env v
    let ok <- forIn ifs true fun c r=>if r=true then do let ok <- isTrue c env (eval c env);pure (ForInStep.yield ok) else pure (ForInStep.yield r)
    if ok=true then
     (do let _ <- call (.builtin "list.append") [acc,<- eval elt env])
    again (.compLoop (.ListComp elt [⟨tg,iter,ifs,0⟩] scope pos) 0 it acc env)):=by rfl
theorem iZ {XE:Addr->Shared->Hp->List Addr->Value->Shared->Prop}(hc:X.calm=true)(S:CompSc X scope cl Fr Tg)
  (hg:∀ C s H fp,PG (cxC X scope cl (Fr.map (·.1)++Tg) C s H fp (XE C s H fp)) tg g) (ht:∀ C s H fp,PTs (cxC X scope cl (Fr.map (·.1)++Tg) C s H fp (XE C s H fp)) ifs tt)
  (he:∀ C s H fp,PE (cxC X scope cl (Fr.map (·.1)++Tg) C s H fp (XE C s H fp)) elt te)
  {pins:List (Addr×Obj)}{σ:St}{H2:Hp}{s2:Shared}{it:Addr}{fp:List Addr}{tn:Nat->Heap->Prop}{J:It}{Q:VK} (I2:Inv X pins σ H2 s2) (T:Turn X.prog X.w X.K tg J fp it tn) (st2:tn 0 s2.heap)
  (f2:∀ b∈fp,gz X pins H2 b)
  (q:∀ D,H2 D=none->∃ W:Nat->Nat->St->Hp->Prop,(∃ m,W 0 m (stC Fr Tg σ) (upd H2 D (.lst [])))/\
   ∀ i m σ' H',W i m σ' H'->(J.stop i H'/\Q (.ref D) H')∨(J.go i H'/\∀ x H2,J.yld i H' x H2->g x σ' H2 fun σ2 H3=>tt σ2 H3 fun b H4=>
    if b=true then te σ2 H4 fun v H5=>∃ ys,H5 D=some (.lst ys)/\ys.length < sizeLine/\∃ m',m' < m/\W (i+1) m' σ2 (upd H5 D (.lst (ys++[v])))
    else ∃ m',m' < m/\W (i+1) m' σ2 H4))
  {E:Value->Shared->Prop}{RR:Value->Env->Result->Shared->Prop}
  (hR:∀ D C s' H',(∃ m,s'.heap.Ns C m)->Inv X pins σ H' s'->gz X pins H' C->Q (.ref D) H'->∀ V:Env,V.locals=C->V.frame=X.env.frame->RR (.ref D) V (.ok .next) s')
  (hX:∀ D C s3 H3,(∀ s5 σ5 H5,Inv (cxC X scope cl (Fr.map (·.1)++Tg) C s3 H3 fp (XE C s3 H3 fp)) [] σ5 H5 s5->(∃ m,s5.heap.Ns C m)/\Inv X pins σ H5 s5/\gz X pins H5 C)->∀ e s',XE C s3 H3 fp e s'->
   notedBy (model X.prog X.w) X.A (compEnvC scope cl C X.env) (fun x s''=>∀ V:Env,V.locals=C->V.frame=X.env.frame->RR (.ref D) V (.error x) s'') e s') :
  wpAny (model X.prog X.w) X.A (newList []) (fun acc s₃=>wpAny (model X.prog X.w) X.A (newFunctionEnv scope X.env.globals cl [] X.env.qual none .none (some X.env)) (fun cenv s₄=>
   codeAny (model X.prog X.w) X.A (.compStart (.ListComp elt [⟨tg,iter,ifs,0⟩] scope pos) 0 (.ref it) acc {cenv with scope:=relabel scope X.env}) (RR acc cenv) s₄) E s₃) E s2:=by
 have fsz:∀ b∈fp,b < s2.heap.objs.size:=fun b hb=>by obtain⟨o,e,_⟩:=T.obj _ _ st2 b hb;exact Heap.lt_size e
 -- the accumulator
 refine wpAny_newObj_type ?_;have I3:Inv X pins σ (upd H2 s2.heap.objs.size (.lst [])) {s2 with heap:=s2.heap.push {cls:=.type "list",data:=.seq ([]:List Value).toArray},toks:=s2.toks}:=I2.lnew (ys:=[]) (its:=[]) .nil (Nat.zero_le _);generalize hD:s2.heap.objs.size=D at I3 ⊢;have hDn:H2 D=none:=by rw[<- hD];exact I2.fresh
 generalize hs3:({s2 with heap:=s2.heap.push {cls:=.type "list",data:=.seq ([]:List Value).toArray},toks:=s2.toks}:Shared)=s3 at I3;have k3:∀ b o,s2.heap.get? b=some o->s3.heap.get? b=some o:=fun b o e=>by rw[<- hs3];exact Heap.get?_push_of_some _ e
 have sz3:s3.heap.objs.size=D+1:=by rw[<- hs3,<- hD];exact Heap.size_push ..
 have fszD:∀ b∈fp,b < D:=fun b hb=>by rw[<- hD];exact fsz b hb
 have fsz3:∀ b∈fp,b < s3.heap.objs.size:=fun b hb=>by rw[sz3];exact Nat.lt_succ_of_lt (fszD b hb)
 have f3:∀ b∈fp,gz X pins (upd H2 D (.lst [])) b:=fun b hb=>by obtain⟨a1,a2⟩:=f2 b hb;refine⟨?_,a2⟩;rw[cG (Nat.ne_of_lt (fszD b hb))];exact a1
 obtain⟨W,⟨m0,w0⟩,turn⟩:=q D hDn;refine wpAny_newFunctionEnv S.nocell (by intro y hy;simp at hy) (fun h4 hns hsb=>codeAny_mono (R:=fun r s'=>∀ V:Env,V.locals=s3.heap.objs.size->V.frame=X.env.frame->RR (.ref D) V r s') ?_ fun r s' z=>z _ rfl rfl) S.kind;have k4:∀ b o,s3.heap.get? b=some o->h4.get? b=some o:=fun b o e=>
  hsb.extBut b o (Nat.ne_of_lt (Heap.lt_size e)) (Heap.get?_push_of_some _ e)
 have st4:tn 0 h4:=T.keep _ _ _ st2 fun b hb o e=>k4 b o (k3 b o e);have I4:=pG (fp:=fp) (h':=h4) (tk:=s3.toks+([]:List (Str×Value)).length) S I3 f3 fsz3 (by simpa using hns) k4 (XE s3.heap.objs.size s3 (upd H2 D (.lst [])) fp);generalize hC:s3.heap.objs.size=C at I4 hns hsb ⊢;have hX':=hX D C s3 (upd H2 D (.lst []));generalize hZ:XE C s3 (upd H2 D (.lst [])) fp=Z at I4 hX';generalize hY:cxC X scope cl (Fr.map (·.1)++Tg) C s3 (upd H2 D (.lst [])) fp Z=Y at I4 hX';have yP:Y.prog=X.prog:=by rw[<- hY];rfl
 have yw:Y.w=X.w:=by rw[<- hY];rfl
 have yK:Y.K=X.K:=by rw[<- hY];rfl
 have yA:Y.A=X.A:=by rw[<- hY];rfl
 have yc:Y.calm=true:=by rw[<- hY];exact hc
 have yx:Y.xe=Z:=by rw[<- hY];rfl
 have ye:Y.env=compEnvC scope cl C X.env:=by rw[<- hY];rfl
 have yex:Y.ex=fp:=by rw[<- hY];rfl
 have ypn:Y.pn=[]:=by rw[<- hY];rfl
 have yfs:Y.fs=frs X.stack:=by rw[<- hY];rfl
 have yH:Y.H₀=upd H2 D (.lst []):=by rw[<- hY];rfl
 have ys₀:Y.s₀=s3:=by rw[<- hY];rfl
 have hg':PG Y tg g:=by rw[<- hY,<- hZ];exact hg _ _ _ _
 have ht':PTs Y ifs tt:=by rw[<- hY,<- hZ];exact ht _ _ _ _
 have he':PE Y elt te:=by rw[<- hY,<- hZ];exact he _ _ _ _
 have stat:∀ {H':Hp},(∀ b∈fp,H' b=none)->∀ b∈fp,gz Y [] H' b:=fun hn b hb=>by have okY:=I4.ok;refine⟨hn b hb,(okY.exf b (by rw[yex];exact hb)).1,okY.exfs b (by rw[yex];exact hb),.inl (by rw[yex];exact hb),(okY.exf b (by rw[yex];exact hb)).2,fun p hp=>absurd hp (by rw[ypn];simp)⟩
 have fr0:∀ b∈fp,(upd H2 D (.lst [])) b=none:=fun b hb=>(f3 b hb).1
 -- back to the frame
 have back:∀ (s5:Shared) (σ5:St) (H5:Hp),Inv Y [] σ5 H5 s5->(∃ m,s5.heap.Ns C m)/\Inv X pins σ H5 s5/\gz X pins H5 C:=by
  intro s5 σ5 H5 I5;have hns5:∃ m,s5.heap.Ns C m:=by obtain⟨m,hn,_⟩:=I5.loc;rw[ye] at hn;exact⟨m,hn⟩
  have un5:Un (frs X.stack) fp (upd H2 D (.lst [])) H5 s3.heap s5.heap:=by have u:=I5.base;rw[yfs,yex,yH,ys₀] at u;exact u
  have os5:s5.os=s3.os:=by have:=I5.os;rw[ys₀] at this;exact this
  have hok5:HOk X.prog X.w H5 s5.heap:=by have:=I5.hok;rw[yP,yw] at this;exact this
  have hch:∀ b∈fp,(b∈X.ex∨X.s₀.heap.objs.size<=b)/\b≠X.env.locals/\(∀ x c,X.env.cells.lookup x=some c->c≠b)/\∀ p∈X.pn++pins,p.1≠b:=fun b hb=>by obtain⟨_,a1,_,a3,a4,a5⟩:=f3 b hb;exact⟨a3,a1,a4,a5⟩
  have free5:H5 C=none:=by have:=I5.free;rw[ye] at this;exact this
  exact⟨hns5,I3.call' os5 un5 hok5 I5.bare hch,I3.fpOk (Nat.le_of_eq hC) free5⟩
 have nz:∀ {α:Type}{t:Sem α}{Q:α->Shared->Prop}{s:Shared},wpAny (model X.prog X.w) X.A t Q Z s->wpAny (model X.prog X.w) X.A t Q (notedBy (model X.prog X.w) X.A (compEnvC scope cl C X.env) fun x s''=>∀ V:Env,V.locals=C->V.frame=X.env.frame->RR (.ref D) V (.error x) s'') s:=fun h=>wpAny_mono h (fun _ _ z=>z) fun e s' z=>hX' back e s' z;have loop:∀ (s5:Shared) (σ5:St) (H5:Hp) (i m:Nat),Inv Y [] σ5 H5 s5->tn i s5.heap->(∀ b∈fp,H5 b=none)->W i m σ5 H5->
   codeAny (model X.prog X.w) X.A (.compLoop (.ListComp elt [⟨tg,iter,ifs,0⟩] scope pos) 0 (.ref it) (.ref D) (compEnvC scope cl C X.env)) (fun r s'=>∀ V:Env,V.locals=C->V.frame=X.env.frame->RR (.ref D) V r s') s5:=by
  intro s5 σ5 H5 i m I5 st5 fr5 w5;refine codeAny_loop rfl (fun n s'=>∃ i σ' H',Inv Y [] σ' H' s'/\tn i s'.heap/\(∀ b∈fp,H' b=none)/\W i n σ' H') ?_ m ⟨i,σ5,H5,I5,st5,fr5,w5⟩;rintro n s6 ⟨i,σ6,H6,I6,st6,fr6,w6⟩;show wpAny _ X.A ((compTurn (.ListComp elt [⟨tg,iter,ifs,0⟩] scope pos) 0 (.ref it) (.ref D) (compEnvC scope cl C X.env)).onRaise (fun x=>do noteFrame x (compEnvC scope cl C X.env);theTreesLotGoes x)) _ _ s6;refine wpAny_noted ?_;rw[ku];refine wpAny_bind (wpAny_standAt (wpAny_bind ?_));have nx:∀ {α:Type}{t:Sem α}{Q:α->Shared->Prop}{E':Value->Shared->Prop}{s:Shared},wpAny (model X.prog X.w) X.A t Q (fun _ _=>False) s->wpAny (model X.prog X.w) X.A t Q E' s:=fun h=>wpAny_mono h (fun _ _ z=>z) fun _ _ z=>z.elim;rcases turn i n σ6 H6 w6 with ⟨stop,qn⟩|⟨go,step⟩
  ·have h:=T.done Y yP yw yK yc i [] s6 σ6 H6 (fun _ _=>False) I6 (stat fr6) st6 stop;rw[yA] at h;refine nx (thn h fun r s7 ⟨hr,I7⟩=>?_);subst hr;refine wpAny_pure ?_;obtain⟨b1,b2,b3⟩:=back s7 σ6 H6 I7;exact hR D C s7 H6 b1 b2 b3 qn
  ·have h:=T.item Y yP yw yK yc i [] s6 σ6 H6 (fun _ _=>False) I6 (stat fr6) st6 go;rw[yA] at h;refine nx (thn h fun r s7 ⟨u,hr,h7⟩=>?_);subst hr;refine wpAny_bind (nx (thn h7 fun _ s8 ⟨x,H8,I8,r8,y8,st8,fr8⟩=>?_));have I8':=I8.pinned (stat fr8) (T.obj _ _ st8);have h9:=hg' _ s8 σ6 H8 x u _ I8' r8 (step x H8 y8);rw[yP,yw,yA,yx,ye] at h9;refine wpAny_bind (nz (thn h9 fun _ s9 ⟨σ9,H9,I9,q9⟩=>?_));have h10:=ht' _ s9 σ9 H9 _ I9 q9;rw[yP,yw,yA,yx,ye] at h10;refine wpAny_bind (nz (thn h10 fun ok s10 ⟨H10,I10,q10⟩=>?_));have again:∀ {σ':St}{H':Hp}{s':Shared},Inv Y ([]++hU fp s8.heap) σ' H' s'->(∃ m',m' < n/\W (i+1) m' σ' H')->∃ m,m < n/\∃ i σ' H',Inv Y [] σ' H' s'/\tn i s'.heap/\(∀ b∈fp,H' b=none)/\W i m σ' H':=fun {σ' H' s'} I' ⟨m',hm,w'⟩=>by refine⟨m',hm,i+1,σ',H',I'.unpinned,T.keep _ _ _ st8 fun b hb o e=>(I'.pin (b,o) (List.mem_append_right _ (List.mem_append_right _ (fQ hb e)))).1,fun b hb=>?_,w'⟩;obtain⟨o,e,d⟩:=T.obj _ _ st8 b hb;exact(I'.pin (b,o) (List.mem_append_right _ (List.mem_append_right _ (fQ hb e)))).2.1
   induction ok using zB with
   | false=>rw[if_neg Bool.false_ne_true] at q10;refine wpAny_bind (wpAny_pure (wpAny_pure ⟨rfl,again I10 q10⟩))
   | true=>rw[if_pos rfl] at q10;have h11:=he' _ s10 σ9 H10 _ I10 q10;rw[yP,yw,yA,yx,ye] at h11;refine wpAny_bind (wpAny_bind (nz (thn h11 fun y s11 ⟨v,H11,I11,r11,ys,ey,zy,q11⟩=>?_)));have h12:=ib (X:=Y) ([]++hU fp s8.heap) s11 σ9 H11 (.ref D) [v] (.ref D) [y] (fun v' H'=>v'=.non/\H'=upd H11 D (.lst (ys++[v]))) I11 rfl (.cons r11 .nil) ⟨D,ys,v,rfl,rfl,ey,zy,rfl,rfl⟩;rw[yP,yw,yA,yx] at h12;refine wpAny_bind (nz (thn h12 fun z s12 ⟨v12,H12,I12,r12,e12,e12'⟩=>?_));subst e12';exact wpAny_pure (wpAny_pure ⟨rfl,again I12 q11⟩)
 have start:=loop {s3 with heap:=h4,toks:=s3.toks+([]:List (Str×Value)).length} (stC Fr Tg σ) (upd H2 D (.lst [])) 0 m0 I4 st4 fr0 w0;have e5:∀ (s':Shared),s' = {s3 with heap:=h4,toks:=s3.toks+([]:List (Str×Value)).length}->codeAny (model X.prog X.w) X.A (.compLoop (.ListComp elt [⟨tg,iter,ifs,0⟩] scope pos) 0 (.ref it) (.ref D) (compEnvC scope cl C X.env)) (fun r s'=>∀ V:Env,V.locals=C->V.frame=X.env.frame->RR (.ref D) V r s') s':=by rintro _ rfl;exact start
 exact codeAny_compStart_list (e5 _ rfl) (T.self _ _ _ _ _ st4 (e5 _ rfl))
theorem nR (hc:X.calm=true)(S:CompSc X scope cl Fr Tg)(hi:PI X tg iter wi)
  (hg:∀ C s H fp,PG (cxC X scope cl (Fr.map (·.1)++Tg) C s H fp) tg g) (ht:∀ C s H fp,PTs (cxC X scope cl (Fr.map (·.1)++Tg) C s H fp) ifs tt)
  (he:∀ C s H fp,PE (cxC X scope cl (Fr.map (·.1)++Tg) C s H fp) elt te) (hs:∀ x,foldedSetIterable iter X.env x=pure x:=by intro _;rfl) :
  PE X (.ListComp elt [⟨tg,iter,ifs,0⟩] scope pos) (qB wi (stC Fr Tg) g tt te):=by
 intro pins s σ H Q I h;rw[eval_ListComp];refine wpAny_comprehension_free (use:=none) rfl hs S.clos S.kind S.loc (thn (hi pins s σ H _ I h) fun xv s1 h1=>thn h1 fun itv s2 h2=>?_);obtain⟨it,fp,tn,J,H2,rfl,I2,T,st2,f2,q⟩:=h2;refine iZ (XE:=fun _ _ _ _ _ _=>False) (RR:=fun acc V=>compPost (model X.prog X.w) X.A X.xe none (EP X pins σ Q) acc V.locals) hc S hg ht he I2 T st2 f2 q ?_ fun _ _ _ _ _ _ _ z=>z.elim;intro D C s' H' ⟨m,hn⟩ I' F' q' V hV _;subst hV;obtain⟨f0,f1,f2,f3,f4,f5⟩:=F';exact⟨m,hn,fun h' sb=>⟨.ref D,H',I'.turned (t':=s'.toks) (fun b o hb e=>(sb.2 b hb).trans e) f0 f1 f3 f4 f5,rfl,q'⟩⟩
theorem uk {y:Str}{py spos:Pos}{i:Nat}(hc:X.calm=true)(hN:X.N.Nodup)(hiN:X.N[i]? = some y)(hy:X.env.kindOf y=some .local)(S:CompSc X scope cl Fr Tg)(hi:PI X tg iter wi)
  (hg:∀ C s H fp,PG (cxC X scope cl (Fr.map (·.1)++Tg) C s H fp) tg g) (ht:∀ C s H fp,PTs (cxC X scope cl (Fr.map (·.1)++Tg) C s H fp) ifs tt)
  (he:∀ C s H fp,PE (cxC X scope cl (Fr.map (·.1)++Tg) C s H fp) elt te)
  (hsw:swapsWith (.ListComp elt [⟨tg,iter,ifs,0⟩] scope pos) (some (.Name y py)) spos.line X.env=pure true) (hs:∀ x,foldedSetIterable iter X.env x=pure x:=by intro _;rfl) :
  PS X (.Assign [.Name y py] (.ListComp elt [⟨tg,iter,ifs,0⟩] scope pos) spos) (fun D σ H=>qB wi (stC Fr Tg) g tt te σ H fun v H'=>D.nx (σ.set i (some v)) H'):=by
 intro pins s σ H D I h;rw[exec_Assign_Name_used _ _ _ _ hsw];refine wpAny_bind (wpAny_standAt (wpAny_bind ?_));show wpAny _ X.A (do let _ <- comprehension (.ListComp elt [⟨tg,iter,ifs,0⟩] scope pos) scope X.env _ (newList []) false (eval iter X.env) (some (assign (.Name y py) X.env))) _ _ s
 refine wpAny_bind (thn (wpAny_comprehension_free (use:=some (assign (.Name y py) X.env)) (Q:=fun _ s'=>SP X pins D .next s') rfl hs S.clos S.kind S.loc
  (thn (hi pins s σ H _ I h) fun xv s1 h1=>thn h1 fun itv s2 h2=>?_)) fun _ s' hq=>wpAny_pure (wpAny_pure hq))
 obtain⟨it,fp,tn,J,H2,rfl,I2,T,st2,f2,q⟩:=h2;refine iZ (Q:=fun v H'=>D.nx (σ.set i (some v)) H') (XE:=fun _ _ _ _ _ _=>False) (RR:=fun acc V=>compPost (model X.prog X.w) X.A X.xe (some (assign (.Name y py) X.env)) (fun _ s'=>SP X pins D .next s') acc V.locals) hc S hg ht he I2 T st2 f2 q ?_ fun _ _ _ _ _ _ _ z=>z.elim;intro D' C s' H' ⟨m,hn⟩ I' F' q' V hV _;subst hV;obtain⟨f0,f1,f2,f3,f4,f5⟩:=F';show wpAny _ X.A (assign (.Name y py) X.env (.ref D')) _ _ _;refine wpAny_assign_Name (jK I' hN hiN (.inl hy) (show RelV (.ref D') (.ref D') from rfl) (fun s'' I'' ⟨a,sb,ha⟩=>?_) (.inr hy));have hCa:V.locals≠a:=by
  rcases ha with rfl|ha
  ·exact f1
  ·exact fun z=>f4 y a ha z.symm
 refine⟨m,hn.sameBut sb hCa,fun h' sb'=>⟨_,H',I''.turned (t':=s''.toks) (fun b o hb e=>(sb'.2 b hb).trans e) f0 f1 f3 f4 f5,q'⟩⟩
end
open PySem.SeqAt
section
variable {prog:Program}{w:World}{A:Around}{E:Value->Shared->Prop}{s:Shared}
theorem mQ:typeLookup (.type "list_reverseiterator") "__len__" = pure none:=by rw[typeLookup_type,builtinLookup_eq_fast];kernel_rfl
theorem qC:typeLookup (.type "list_reverseiterator") "__length_hint__" = pure (some (.builtin "list_reverseiterator.__length_hint__")):=by rw[typeLookup_type,builtinLookup_eq_fast];kernel_rfl
theorem i0 {I l:Addr}{i:Int}{Q:Bool->Shared->Prop}(hit:s.heap.IsRevIter I l i)(h:Q false s):wpAny (model prog w) A (Builtin.List.listLengthHint (.ref I)) Q E s:=by
 unfold Builtin.List.listLengthHint;refine wpAny_bind (wpAny_specialOf hit.typeIs mQ ?_);show wpAny _ A (specialOf (Value.ref I) (Str.ofString "__length_hint__") >>= _) _ _ _;refine wpAny_bind (wpAny_specialOf hit.typeIs qC ?_);generalize hid:("list_reverseiterator.__length_hint__" : String)=id0
 wp_delta
 rw[show splitId id0=some ("list_reverseiterator","__length_hint__") from by subst hid;decide +kernel];subst hid;refine wpAny_bind (wpAny_isInstance (T:="list_reverseiterator") (b:=true) hit.typeIs (by rw[isSubtype_type];kernel_rfl) ?_);refine wpAny_ite_split (fun hab=>absurd hab (by decide)) (fun _=>?_);refine wpAny_ite_split (fun _=>?_) (fun hab=>absurd (by decide +kernel) hab);refine wpAny_ite_split (fun hab=>absurd hab (by decide +kernel)) (fun _=>?_);exact wpAny_pure h
theorem ic {R:Result->Shared->Prop}(hh:A.handled=none)(I l S:Addr)(items:Array Value)(hne:l≠I)(res:Value)(c₀:Nat)(hit:s.heap.IsRevIter I l ((items.size:Int) - 1))(hl:s.heap.IsList l items)(hSI:S≠I)(hSl:S≠l)
  (hS:s.heap.get? S=some {cls:=.type "list",data:=.seq #[] c₀})
  (hR:∀ h' tk acc' c',(∀ b o,b≠S->b≠I->s.heap.get? b=some o->h'.get? b=some o)->h'.get? S=some {cls:=.type "list",dict:=none,data:=.seq acc' c',slots:=#[]}->
   ItemsOf (fun i v=>items[items.size - 1 - i]? = some v) acc' items.size->R (.ok (.ret res)) {s with heap:=h',toks:=tk}) (hn:items.size<=sizeLine) :
  wpAny (model prog w) A.in1 (Builtin.List.listExtendWith (.ref S) (.ref I) res)
   (fun fin s'=>match fin with|.done f=>R (.ok f) s'|.again c'=>c'.quiet=true/\codeAny (model prog w) A c' R s') (fun e s'=>R (.error e) s') s:=by
 have hSf:S∉[I,l]:=fun hm=>by
  rcases List.mem_cons.mp hm with e|hm
  ·exact hSI e
  ·exact hSl (List.mem_singleton.mp hm)
 unfold Builtin.List.listExtendWith;refine wpAny_bind (wpAny_typeOf hit.typeIs ?_);have h1:Builtin.List.listSameRef (.ref S) (.ref I)=false:=by simp[Builtin.List.listSameRef,hSI]
 have h2:(Value.type "list_reverseiterator" == Value.type "list")=false:=by decide
 have h3:(Value.type "list_reverseiterator" == Value.type "tuple")=false:=by decide
 simp only[h1,h2,h3,Bool.or_false,Bool.false_eq_true,if_false];refine wpAny_bind (wpAny_pyIter_revIter hit ?_);refine wpAny_bind (wpAny_holding (i0 hit ?_));refine wpAny_ite_split (fun hab=>absurd hab (by decide)) (fun _=>?_);have W:=(Walks.listRev (prog:=prog) (w:=w) (A:=A.in1) hh I l hne items).toS;refine wpAny_pure ⟨plainId_quiet F.plain_extend_loop _,codeAny_extend_loopS W hn S hSf res items.size 0 _ #[] c₀ rfl (Nat.zero_le _) ⟨Nat.zero_le _,by simpa using hit,hl⟩ hS (ItemsOf.nil _) fun s' acc' c' hm hS' hacc=>?_⟩;rw[Moved.eq_with hm];refine hR s'.heap s'.toks acc' c' (fun b o hb hb' e=>hm.heap b o (fun hmem=>?_) e) hS' hacc;rcases List.mem_cons.mp hmem with e'|hmem
 ·exact hb e'
 ·exact hb' (List.mem_singleton.mp hmem)
theorem jE {Q:Value->Shared->Prop}(hh:A.handled=none)(I l:Addr)(items:Array Value)(hne:l≠I)(hit:s.heap.IsRevIter I l ((items.size:Int) - 1))(hl:s.heap.IsList l items)
  (hQ:∀ h' tk acc' c',(∀ b o,b≠I->s.heap.get? b=some o->h'.get? b=some o)->
   h'.get? s.heap.objs.size=some {cls:=.type "list",dict:=none,data:=.seq acc' c',slots:=#[]}->ItemsOf (fun i v=>items[items.size - 1 - i]? = some v) acc' items.size->Q (.ref s.heap.objs.size) {s with heap:=h',toks:=tk}) (hn:items.size<=sizeLine) :
  wpAny (model prog w) A (call (.type "list") [.ref I]) Q E s:=by
 have ltI:I < s.heap.objs.size:=by obtain⟨o,e,_⟩:=hit;exact Heap.lt_size e
 have ltl:l < s.heap.objs.size:=by obtain⟨o,e,_⟩:=hl;exact Heap.lt_size e
 refine callType_codes (Q₁:=fun obj s₁=>obj=.ref s.heap.objs.size/\s₁ = {s with heap:=s.heap.push {cls:=.type "list",data:=.seq #[]}}) F.called_list (F.typeCall_list_1 _) F.entry_list_init
  (code_list_new _ ⟨rfl,rfl⟩) fun obj s₁ h₁=>?_
 obtain⟨rfl,rfl⟩:=h₁;have hS:(s.heap.push {cls:=.type "list",data:=.seq #[]}).get? s.heap.objs.size=some {cls:=.type "list",data:=.seq #[]}:=Heap.get?_push_size _ rfl;refine⟨⟨_,hS,rfl⟩,F.args_list_init_2 _ _,?_⟩;show wpAny _ _ (do let old <- Builtin.List.listItems (.ref s.heap.objs.size);Builtin.List.listUpdate (.ref s.heap.objs.size) (fun _=>#[]);letGo old.toList.reverse;Builtin.List.listExtendWith (.ref s.heap.objs.size) (.ref I) .none) _ _ _;refine wpAny_bind ?_;unfold Builtin.List.listItems;refine wpAny_bind (wpAny_seqItems hS rfl (wpAny_pure ?_));show wpAny _ _ (updateSeq s.heap.objs.size (fun _=>#[]) >>= fun _=>letGo (#[]:Array Value).toList.reverse >>= fun _=>Builtin.List.listExtendWith (.ref s.heap.objs.size) (.ref I) .none) _ _ _;refine wpAny_bind (wpAny_updateSeq hS rfl ?_);have hS₂:=Heap.get?_update_self (Obj.mapSeq (fun _=>(#[]:Array Value))) hS rfl;have oth:∀ b o,b≠s.heap.objs.size->s.heap.get? b=some o->((s.heap.push {cls:=.type "list",data:=.seq #[]}).update s.heap.objs.size (Obj.mapSeq (fun _=>(#[]:Array Value)))).get? b=some o:=
  fun b o hb e=>(Heap.get?_update_other _ _ (Ne.symm hb)).trans (Heap.get?_push_of_some _ e)
 refine wpAny_bind (wpAny_letGo ?_);refine ic (A:=A.in1) hh I l _ items hne .none _ (hit.at fun o e=>oth I o (Nat.ne_of_lt ltI) e) (hl.at fun o e=>oth l o (Nat.ne_of_lt ltl) e) (Nat.ne_of_gt ltI) (Nat.ne_of_gt ltl) hS₂ (fun h' tk acc' c' hk hS' hacc=>?_) hn;exact⟨rfl,hQ h' tk acc' c' (fun b o hb e=>hk b o (Nat.ne_of_lt (Heap.lt_size e)) hb (oth b o (Nat.ne_of_lt (Heap.lt_size e)) e)) hS' hacc⟩
end
section
variable {X:Cx}{e:Expr}{t:TE}{p p' pos pos':Pos}
theorem Vals.rev:∀ {xs:List V}{us:List Value},Vals xs us->Vals xs.reverse us.reverse
 | [],[],_=>.nil
 | x::xs,u::us,.cons r rs=>by rw[List.reverse_cons,List.reverse_cons];exact(Vals.rev rs).append (.cons r .nil)
theorem um (hc:X.calm=true)(g1:Gl X "list") (m1:X.mg "list" = none) (g2:Gl X "reversed") (m2:X.mg "reversed" = none) (he:PE X e t) (hst:∀ es,starEach (e::es) X.env=(false,eval e X.env)::starEach es X.env) :
  PE X (.Call (.Name "list" p) [.Call (.Name "reversed" p') [e] [] pos'] [] pos) (fun σ H Q=>t σ H fun v H1=>∃ l ys,v=.ref l/\SqL X.K H1 l ys/\∀ q,H1 q=none->Q (.ref q) (upd H1 q (.lst ys.reverse))):=by
 intro pins s σ H Q I h;refine wpAny_Call_Name_kw (fq (u:=.type "list") I g1 m1 (by decide +kernel) ?_ (by decide) (by decide));refine PyProof.Rows.callWith_type1 ?_ rfl rfl;show wpAny _ _ (spliced ((false,eval (.Call (.Name "reversed" p') [e] [] pos') X.env)::backTo pos (starEach [] X.env))) _ _ s;have key:wpAny (model X.prog X.w) X.A (eval (.Call (.Name "reversed" p') [e] [] pos') X.env) (fun u s1=>∃ s0 l ys its H1,Inv X pins σ H1 s0/\Vals ys its/\s0.heap.IsList l its.toArray/\ys.length<=sizeLine/\u=.ref s0.heap.objs.size/\s1 = {s0 with heap:=s0.heap.push (revObj l ((its.toArray.size:Int) - 1))}/\∀ q,H1 q=none->Q (.ref q) (upd H1 q (.lst ys.reverse))) X.xe s:=by refine wpAny_Call_Name_kw (fq (u:=.type "reversed") I g2 m2 (by decide +kernel) ?_ (by decide) (by decide));refine PyProof.Rows.callWith_type1 ?_ (hst []) rfl;rw[hst []];show wpAny _ _ (spliced ((false,eval e X.env)::backTo pos' (starEach [] X.env))) _ _ s;refine Calls.spliced_cons (thn (he pins s σ H _ I h) fun u s1 ⟨x,H1,I1,r1,l,ys,ex,hq,q1⟩=>?_);subst ex;cases r1;refine Calls.spliced_nil ?_;obtain⟨its,r',pl,hz⟩:=I1.list hq;exact call_reversed_list pl.isList ⟨s1,l,ys,its,H1,I1,r',pl.isList,hz,rfl,rfl,q1⟩
 refine Calls.spliced_cons (thn key fun u s1 ⟨s0,l,ys,its,H1,I1,rv,hl,hz,eu,es,q1⟩=>?_);subst eu es;refine Calls.spliced_nil ?_;have hlen:=rv.length;have ltl:l < s0.heap.objs.size:=by obtain⟨o,e,_⟩:=hl;exact Heap.lt_size e
 have hit:(s0.heap.push (revObj l ((its.toArray.size:Int) - 1))).IsRevIter s0.heap.objs.size l ((its.toArray.size:Int) - 1):=⟨_,Heap.get?_push_size _ rfl,rfl,rfl⟩
 have hl':(s0.heap.push (revObj l ((its.toArray.size:Int) - 1))).IsList l its.toArray:=hl.at fun o e=>Heap.get?_push_of_some _ e;have hsz:(s0.heap.push (revObj l ((its.toArray.size:Int) - 1))).objs.size=s0.heap.objs.size+1:=Heap.size_push ..;refine jE (s:={s0 with heap:=s0.heap.push (revObj l ((its.toArray.size:Int) - 1))}) (show X.A.handled=none from I.ok.hd hc) s0.heap.objs.size l its.toArray (Nat.ne_of_lt ltl) hit hl' (fun h' tk acc' c' kp e hacc=>?_) (by simp only[List.size_toArray]<;>omega);have ha:acc'=(its.reverse).toArray:=by
  apply Array.ext
  ·rw[hacc.1];simp
  ·intro i h1 h2;have:=hacc.2 i acc'[i] (Array.getElem?_eq_getElem h1);rw[hacc.1] at h1;have h3:i < its.length:=by simpa using h1
   simp only[List.size_toArray,List.getElem?_toArray] at this;rw[List.getElem?_eq_getElem (by omega)] at this;have:=Option.some.inj this;rw[<- this];simp[List.getElem_reverse]
 subst ha;exact⟨.ref _,_,I1.laid (t':=tk) (fun b o e=>kp b o (Nat.ne_of_lt (Heap.lt_size e)) (Heap.get?_push_of_some _ e)) (by show s0.heap.objs.size<=(s0.heap.push _).objs.size;rw[hsz];exact Nat.le_succ _) (show du X.prog X.w _ h' _ (.lst ys.reverse) from ⟨by simpa using hz,its.reverse,c',rv.rev,e⟩),rfl,q1 _ (I1.hok.fresh (by show s0.heap.objs.size<=(s0.heap.push _).objs.size;rw[hsz];exact Nat.le_succ _))⟩
end
section
variable {X:Cx}
theorem lD {x:Str}{n:Int}(h0 : -16000<=n)(h1:n<=16000)(hx:x.length<=1000):MulOk x n:=by
 refine⟨?_,fun hn _=>?_,fun hn _=>?_⟩
 ·rw[Bool.or_eq_false_iff];exact⟨decide_eq_false (by omega),decide_eq_false (by omega)⟩
 ·have:(1000:Int)<=(2 ^ 63 - 1) / n:=Int.le_ediv_of_mul_le (by omega) (by omega);omega
 ·have:x.length*n.toNat<=1000*16000:=Nat.mul_le_mul hx (by omega);unfold Builtin.Str.tooLong;exact decide_eq_false (by rw[sizeLine_eq];omega)
theorem mR:OpR X (binaryOp .Mult) (fun x y H Q=>∃ i j,x=.str i/\y=.int j/\-16000<=j/\j<=16000/\i.length<=1000/\Q (.str (Txt.mul i j)) H):=by intro pins s σ H x y v u Q I rx ry h;obtain⟨i,j,rfl,rfl,h0,h1,hz,q⟩:=h;obtain⟨t,rfl⟩:=rx;obtain⟨t',rfl⟩:=ry;exact SB.mul (lD h0 h1 hz) fun t' tk=>⟨.str (Txt.mul i j),H,I.tok _,⟨_,rfl⟩,q⟩
noncomputable def ie (z:Str):List V:=z.cps.toList.map fun c=>.str ⟨#[c]⟩
theorem mS {z:Str}{acc':Array Value}(hacc:ItemsOf (SignAt z) acc' z.cps.size):Vals (ie z) acc'.toList:=by
 have hl:acc'.toList.length=z.cps.toList.length:=by rw[Array.length_toList,Array.length_toList,hacc.1]
 have key:∀ (cs:List Nat) (vs:List Value),vs.length=cs.length->(∀ (i:Nat) (v:Value),vs[i]? = some v->∃ c u,cs[i]? = some c/\v=Value.str ⟨#[c]⟩ u)->Vals (cs.map fun c=>V.str ⟨#[c]⟩) vs:=by
  intro cs
  induction cs with
  | nil=>
   intro vs hl _
   induction vs using zL with
   | nil=>exact .nil
   | cons _ _=>cases hl
  | cons c cs ih=>
   intro vs hl hv
   induction vs using zL with
   | nil=>cases hl
   | cons v vs=>
    obtain⟨c',u,e1,e2⟩:=hv 0 v rfl;have e1':c=c':=by simpa using e1
    subst e1' e2;exact .cons ⟨u,rfl⟩ (ih vs (by simpa using hl) fun i w hw=>by simpa using hv (i+1) w (by simpa using hw))
 refine key _ _ hl fun i v hv=>?_;obtain⟨c,u,e1,e2⟩:=hacc.2 i v (by rw[<- Array.getElem?_toList];exact hv);exact⟨c,u,by rw[Array.getElem?_toList];exact e1,e2⟩
theorem i3 (hc:X.calm=true):eS X (.type "tuple") (fun xs H Q=>∃ z:Str,xs=[.str z]/\z.length<=sizeLine/\∀ l,H l=none->Q (.ref l) (upd H l (.tup (ie z)))):=by intro pins s σ H xs us Q I r h;obtain⟨z,rfl,hz,q⟩:=h;obtain⟨u,rfl,t,rfl⟩:=vals1 r;refine call_tuple_str (hsz:=hz) (show X.A.handled=none from I.ok.hd hc) z t (fun h' tk acc kp hacc=>?_);have rv:=mS hacc;have I1:Inv X pins σ H {s with heap:=h',toks:=tk}:=I.kept (t':=tk) kp;exact⟨.ref _,_,I1.laid (t':=tk) (fun b o e=>Heap.get?_push_of_some _ e) (Nat.le_refl _) (show du X.prog X.w _ _ _ (.tup (ie z)) from ⟨by unfold ie;simpa[Str.length] using hz,acc.toList,rv,by simpa using IsTup.new h' acc⟩),rfl,q _ (I1.hok.fresh (Nat.le_refl _))⟩
end
section
variable {κ:Type} [DecidableEq κ]
noncomputable def ig (kvs:List (κ×V))(k:κ):Option V:=(kvs.find? fun kv=>decide (kv.1=k)).map (·.2)
noncomputable def putK (kvs:List (κ×V))(k:κ)(v:V):List (κ×V):=
 if (kvs.any fun kv=>decide (kv.1=k))=true then kvs.map (fun kv=>if kv.1=k then (kv.1,v) else kv) else kvs++[(k,v)]
theorem i4 {p:κ×V}{r:List (κ×V)}{k:κ}(e:p.1=k):ig (p::r) k=some p.2:=by simp[ig,List.find?_cons,e]
theorem i5 {p:κ×V}{r:List (κ×V)}{k:κ}(e:¬ p.1=k):ig (p::r) k=ig r k:=by simp[ig,List.find?_cons,e]
theorem lE (k:κ):∀ kvs:List (κ×V),(kvs.any fun kv=>decide (kv.1=k))=(ig kvs k).isSome
 | []=>rfl
 | p::r=>by
  rw[List.any_cons];by_cases e:p.1=k
  ·simp only[i4 e,decide_eq_true e,Bool.true_or,Option.isSome_some]
  ·rw[i5 e,decide_eq_false e,Bool.false_or];exact lE k r
theorem gq (kvs:List (κ×V))(k:κ)(v:V):(putK kvs k v).length<=kvs.length+1:=by
 unfold putK;split
 ·rw[List.length_map];omega
 ·rw[List.length_append,List.length_cons,List.length_nil];omega
theorem gp.isSome_eq {o:Option V}{u:Option Value}(r:gp o u):o.isSome=u.isSome:=by
 cases o with
 | none=>cases u with
  | none=>rfl
  | some _=>exact(show False from r).elim
 | some _=>cases u with
  | none=>exact(show False from r).elim
  | some _=>rfl
theorem KV.val {kvs:List (κ×V)}{vs:List (κ×Value)}(r:KV kvs vs)(k:κ):gp (ig kvs k) (valueAt vs k):=by
 unfold KV at r
 induction r with
 | nil=>exact True.intro
 | @cons p q ps qs h t ih=>
  obtain⟨h1,h2⟩:=h;by_cases e:p.1=k
  ·have e':q.1=k:=h1.symm.trans e;have b:valueAt (q::qs) k=some q.2:=by simp[valueAt,List.find?_cons,e']
   rw[i4 e,b];exact h2
  ·have e':¬ q.1=k:=fun z=>e (h1.trans z);have b:valueAt (q::qs) k=valueAt qs k:=by simp[valueAt,List.find?_cons,e']
   rw[i5 e,b];exact ih
theorem KV.any {kvs:List (κ×V)}{vs:List (κ×Value)}(r:KV kvs vs)(k:κ):(kvs.any fun kv=>decide (kv.1=k))=vs.any fun kv=>decide (kv.1=k):=by
 unfold KV at r
 induction r with
 | nil=>rfl
 | cons h t ih=>rw[List.any_cons,List.any_cons,ih,h.1]
theorem KV.repl {kvs:List (κ×V)}{vs:List (κ×Value)}(r:KV kvs vs)(k:κ){y:V}{u:Value}(ry:RelV y u) :
  KV (kvs.map fun kv=>if kv.1=k then (kv.1,y) else kv) (vs.map fun kv=>if kv.1=k then (kv.1,u) else kv):=by
 unfold KV at r ⊢
 induction r with
 | nil=>exact .nil
 | @cons p q ps qs h t ih=>
  rw[List.map_cons,List.map_cons];refine .cons ?_ ih;obtain⟨h1,h2⟩:=h;by_cases e:p.1=k
  ·rw[if_pos e,if_pos (h1.symm.trans e)];exact⟨h1,ry⟩
  ·rw[if_neg e,if_neg (fun z=>e (h1.trans z))];exact⟨h1,h2⟩
theorem KV.put {kvs:List (κ×V)}{vs:List (κ×Value)}(r:KV kvs vs)(k:κ){y:V}{u:Value}(ry:RelV y u):KV (putK kvs k y) (stored vs k u):=by
 unfold putK stored;rw[r.any k];by_cases e:(vs.any fun kv=>decide (kv.1=k))=true
 ·rw[if_pos e,if_pos e];exact r.repl k ry
 ·rw[if_neg e,if_neg e];exact Paired.snoc r ⟨rfl,ry⟩
theorem KV.length {kvs:List (κ×V)}{vs:List (κ×Value)}(r:KV kvs vs):kvs.length=vs.length:=Paired.length r
end
theorem nS {P:Program}{w:World}{k:Key}{u:Value}(r:RelV (kV k) u):(dq P w).is k u=true:=by
 cases k with
 | inl i=>obtain⟨t,e⟩:=(show ∃ t,u=Value.int i t from r);subst e;exact kU P w i t
 | inr x=>obtain⟨t,e⟩:=(show ∃ t,u=Value.str x t from r);subst e;exact kW P w x t
theorem jU {P:Program}{w:World}:∀ {ks:List Key}{us:List Value},Vals (ks.map kV) us->ItemsAre (dq P w) ks us
 | [],_,r=>by rw[List.map_nil] at r;cases r;exact .nil
 | k::ks,_,r=>by
  rw[List.map_cons] at r;cases r with
  | cons h t=>exact .cons (nS h) (jU t)
abbrev KT (H:Hp):List (List Key×V)->List (List Key×Addr×Value)->Prop:=Paired fun p q=>p.1=q.1/\H q.2.1=some (.tup (p.1.map kV))/\RelV p.2 q.2.2
theorem KT.val {H:Hp}{kvs:List (List Key×V)}{xs:List (List Key×Addr×Value)}(r:KT H kvs xs)(k:List Key):gp (ig kvs k) ((atKey xs k).map (·.2)):=by
 induction r with
 | nil=>exact True.intro
 | @cons p q ps qs h t ih=>
  obtain⟨h1,_,h2⟩:=h;by_cases e:p.1=k
  ·have e':q.1=k:=h1.symm.trans e;have b:atKey (q::qs) k=some q.2:=by simp[atKey,List.find?_cons,e']
   rw[i4 e,b];exact h2
  ·have e':¬ q.1=k:=fun z=>e (h1.trans z);have b:atKey (q::qs) k=atKey qs k:=by simp[atKey,List.find?_cons,e']
   rw[i5 e,b];exact ih
theorem KT.repl {H:Hp}{kvs:List (List Key×V)}{xs:List (List Key×Addr×Value)}(r:KT H kvs xs)(k:List Key){y:V}{u:Value}(ry:RelV y u) :
  KT H (kvs.map fun kv=>if kv.1=k then (kv.1,y) else kv) (xs.map (putAt k u)):=by
 induction r with
 | nil=>exact .nil
 | @cons p q ps qs h t ih=>
  rw[List.map_cons,List.map_cons];refine .cons ?_ ih;obtain⟨h1,h2,h3⟩:=h;unfold putAt;by_cases e:p.1=k
  ·rw[if_pos e,if_pos (h1.symm.trans e)];exact⟨h1,h2,ry⟩
  ·rw[if_neg e,if_neg (fun z=>e (h1.trans z))];exact⟨h1,h2,h3⟩
theorem KT.put {H:Hp}{kvs:List (List Key×V)}{xs:List (List Key×Addr×Value)}(r:KT H kvs xs)(k:List Key){b:Addr}{y:V}{u:Value}(hb:H b=some (.tup (k.map kV)))(ry:RelV y u) :
  KT H (putK kvs k y) (storedH xs k b u):=by
 have e:(kvs.any fun kv=>decide (kv.1=k))=(atKey xs k).isSome:=by rw[lE,(r.val k).isSome_eq,Option.isSome_map]
 unfold putK storedH;rw[e];by_cases q:(atKey xs k).isSome=true
 ·rw[if_pos q,if_pos q];exact r.repl k ry
 ·rw[if_neg q,if_neg q];exact Paired.snoc r ⟨rfl,hb,ry⟩
theorem KT.keeps {H H':Hp}{kvs:List (List Key×V)}{xs:List (List Key×Addr×Value)}(r:KT H kvs xs)(ht:∀ b ys,H b=some (.tup ys)->H' b=some (.tup ys)):KT H' kvs xs:=
 Paired.mapP r fun _ _ z=>⟨z.1,ht _ _ z.2.1,z.2.2⟩
section
variable {P:Program}{w:World}{H:Hp}{h:Heap}{a:Addr}
theorem vM {u:HO}(ok:HOk P w H h)(e:Rd H a u):du P w H h a u:=e.ok ok
theorem qD {kvs:List (Key×V)}(ok:HOk P w H h)(e:Rd H a (.dK kvs)):kvs.length<=sizeLine/\(a == sysModules)=false/\∃ vs,KV kvs vs/\h.DictOf (dq P w) a vs:=
 show du P w H h a (.dK kvs) from vM ok e
theorem Ar {kvs:List (Key×V)}(ok:HOk P w H h)(e:H a=some (.dK kvs)):kvs.length<=sizeLine/\(a == sysModules)=false/\∃ vs,KV kvs vs/\h.DictOf (dq P w) a vs:=qD ok (.inl e)
theorem mT {ks:List Key}(ok:HOk P w H h)(e:H a=some (.tup (ks.map kV))):(tupleKind (dq P w)).is h ks a:=by
 obtain⟨_,its,r,o,h1,h2,n,h3⟩:=(show du P w H h a (.tup (ks.map kV)) from ok a _ e)
 exact⟨o,its.toArray,n,h1,h2,h3,by simpa using jU r⟩
theorem qE {kvs:List (List Key×V)}(ok:HOk P w H h)(e:Rd H a (.dT kvs)):kvs.length<=sizeLine/\(a == sysModules)=false/\
  ∃ xs,KT H kvs xs/\h.DictOfH (tupleKind (dq P w)) a xs:=by
 obtain⟨z,y,xs,r,o,es,ep,h1,h2,h3,h4,h5⟩:=(show du P w H h a (.dT kvs) from vM ok e)
 refine⟨z,y,xs,r,o,es,ep,h1,h2,h3,h4,fun x hx=>?_,h5⟩;have all:∀ {l:List (List Key×V)}{m:List (List Key×Addr×Value)},KT H l m->∀ x∈m,(tupleKind (dq P w)).is h x.1 x.2.1:=by
  intro l m q
  induction q with
  | nil=>intro x hx;exact nomatch hx
  | @cons p q ps qs hq t ih=>
   intro x hx;rcases List.mem_cons.mp hx with e|hx
   ·subst e;exact mT ok (by rw[<- hq.1];exact hq.2.1)
   ·exact ih x hx
 exact all r x hx
theorem As {kvs:List (List Key×V)}(ok:HOk P w H h)(e:H a=some (.dT kvs)):kvs.length<=sizeLine/\(a == sysModules)=false/\
  ∃ xs,KT H kvs xs/\h.DictOfH (tupleKind (dq P w)) a xs:=qE ok (.inl e)
end
def yh (H:Hp)(a:Addr)(y:V)(r:Option V):Prop:=
 (∃ kvs k,Rd H a (.dK kvs)/\y=kV k/\r=ig kvs k)∨∃ kvs k b,Rd H a (.dT kvs)/\y=.ref b/\H b=some (.tup (k.map kV))/\r=ig kvs k
def Au (H:Hp)(a:Addr)(y v:V)(H':Hp):Prop:=
 (∃ kvs k,H a=some (.dK kvs)/\y=kV k/\kvs.length < sizeLine/\H'=upd H a (.dK (putK kvs k v)))∨
 ∃ kvs k b,H a=some (.dT kvs)/\y=.ref b/\H b=some (.tup (k.map kV))/\kvs.length < sizeLine/\H'=upd H a (.dT (putK kvs k v))
section
variable {X:Cx}{pins:List (Addr×Obj)}{σ:St}{H:Hp}{s:Shared}{a:Addr}{y v:V}{u r:Value}{o:Option V}{A:Around}{E:Value->Shared->Prop}
theorem Inv.big (I:Inv X pins σ H s):sysModules < s.heap.objs.size:=by have h:mainGlobals < s.heap.objs.size:=(I.mod.glob.keeps I.bk).lt;exact Nat.lt_trans (by decide) h
theorem pH {Q:Value->Shared->Prop}(hu:A.units+1 < cLine)(I:Inv X pins σ H s)(g:yh H a y (some v))(ry:RelV y u)(h:∀ w' s',Inv X pins σ H s'->RelV v w'->Q w' s') :
  wpAny (model X.prog X.w) A (getItem (.ref a) u) Q E s:=by
 rcases g with ⟨kvs,k,e,ey,l⟩|⟨kvs,k,b,e,ey,eb,l⟩
 ·subst ey;obtain⟨z,hd,vs,rel,dd⟩:=qD I.hok e;obtain⟨w',hw,rw'⟩:=gp.some_of (v:=v) (o:=valueAt vs k) (by rw[l];exact rel.val k);exact wpAny_getItem_of (nS ry) dd.mapOf hw (h w' _ (I.tok _) rw')
 ·subst ey;cases (show u=Value.ref b from ry);obtain⟨z,hd,xs,rel,dd⟩:=qE I.hok e;obtain⟨w',hw,rw'⟩:=gp.some_of (v:=v) (o:=(atKey xs k).map (·.2)) (by rw[l];exact rel.val k);obtain⟨p,hp,hp2⟩:=Option.map_eq_some_iff.mp hw;refine wpAny_getItem_heap (tupleKind_room_in1 hu) (mT I.hok eb) dd hp ?_;rw[hp2];exact h w' _ (I.tok _) rw'
theorem nT {h':Heap}{t':Nat}{ob:HO}(I:Inv X pins σ H s)(mu:Mut (H a))(hs:Heap.SameBut a s.heap h')(he:∃ q,h'.get? a=some q)(new:du X.prog X.w (upd H a ob) h' a ob) :
  Inv X pins σ (upd H a ob) {s with heap:=h',toks:=t'}:=
 I.write (x:=a) (e:=a) mu (.inl rfl) (fun b q hb z=>(hs.2 b hb).trans z) he new
theorem qF {P:Program}{w:World}{H':Hp}{h':Heap}{kvs:List (Key×V)}{vs:List (Key×Value)}(z:kvs.length<=sizeLine)(hd:(a == sysModules)=false)(rel:KV kvs vs)(dd:h'.DictOf (dq P w) a vs) :
  du P w H' h' a (.dK kvs):=⟨z,hd,vs,rel,dd⟩
theorem pI {H':Hp}{Q:Unit->Shared->Prop}(hu:A.units+1 < cLine)(I:Inv X pins σ H s)(g:Au H a y v H')(ry:RelV y u)(rv:RelV v r)(h:∀ s',Inv X pins σ H' s'->Q () s') :
  wpAny (model X.prog X.w) A (setItem (.ref a) u r) Q E s:=by
 rcases g with ⟨kvs,k,e,ey,l,eH⟩|⟨kvs,k,b,e,ey,eb,l,eH⟩
 ·subst ey eH;obtain⟨z,hd,vs,rel,dd⟩:=Ar I.hok e;have hz:vs.length<=sizeLine:=by rw[<- rel.length];exact z
  have hl:(putK kvs k v).length<=sizeLine:=by have:=gq kvs k v;omega
  refine wpAny_setItem_pairs (hsz:=hz) (nS ry) dd fun h' dd' hs=>h _ ?_;have he:∃ q,h'.get? a=some q:=let ⟨q,_,_,hq,_⟩:=dd';⟨q,hq⟩;exact nT I (by rw[e];exact True.intro) hs he (qF hl hd (rel.put k rv) dd')
 ·subst ey eH;cases (show u=Value.ref b from ry);obtain⟨z,hd,xs,rel,dd⟩:=As I.hok e;have hz:xs.length<=sizeLine:=by rw[<- Paired.length rel];exact z
  have hl:(putK kvs k v).length<=sizeLine:=by have:=gq kvs k v;omega
  refine wpAny_setItem_heap (hsz:=hz) (tupleKind_room_in1 hu) (mT I.hok eb) dd fun h' dd' hs=>h _ ?_;obtain⟨q,es,ep,hq,h2,h3,h4,_,h5⟩:=dd';refine nT I (by rw[e];exact True.intro) hs ⟨q,hq⟩ ⟨hl,hd,_,(rel.put k eb rv).keeps fun c ys ec=>?_,q,es,ep,hq,h2,h3,h4,h5⟩;rw[cG (Ab ec e (fun z=>nomatch z))];exact ec
end
def Av (i:Expr):Prop:=∀ ov iv,subscripted i false ov iv=operate [ov,iv] (getItem ov iv)
theorem uo {prog:Program}{w:World}{A:Around}{E:Value->Shared->Prop}{s:Shared}{env:Env}{value slice:Expr}{pos:Pos}{T id:String}{Q:Value->Shared->Prop}
  (hl:typeLookup (.type T) "__getitem__" = pure (some (.builtin id))) (hs:Av slice)
  (h:wpAny (model prog w) A (eval value env) (fun o s₁=>wpAny (model prog w) A (eval slice env) (fun i s₂=>s₂.TypeIs o T/\wpAny (model prog w) A (getItem o i) Q E s₂) E s₁) E s) :
  wpAny (model prog w) A (eval (.Subscript value slice pos) env) Q E s:=by
 refine Subscript_ (wpAny_mono h (fun o s₁ h₁=>wpAny_mono h₁ (fun i s₂ h₂=>?_) fun _ _ x=>x) fun _ _ x=>x);obtain⟨hT,h₂⟩:=h₂;unfold subscriptTail;refine wpAny_bind ?_;rw[getitemInPython_of_ne hT.not_modules];refine wpAny_bind (wpAny_specialOf hT hl ?_);have fin:wpAny (model prog w) A (subscripted slice false o i) (fun r s₃=>wpAny (model prog w) A (letTemporaryGo value o r >>= fun _=>pure r) Q E s₃) E s₂:=by rw[hs o i];exact wpAny_operating (wpAny_mono h₂ (fun r s₃ h₃=>wpAny_bind (wpAny_letTemporaryGo (wpAny_pure h₃))) fun _ _ x=>x)
 first
  | exact wpAny_pure (wpAny_bind fin)
  | exact wpAny_bind (wpAny_pure (wpAny_bind fin))
  | exact wpAny_bind fin
theorem lF {X:Cx}{pins:List (Addr×Obj)}{σ:St}{H:Hp}{s:Shared}{a:Addr}{y:V}{o:Option V}(I:Inv X pins σ H s)(g:yh H a y o):s.TypeIs (.ref a) "dict":=by
 rcases g with ⟨kvs,k,e,_,_⟩|⟨kvs,k,b,e,_,_,_⟩
 ·obtain⟨_,_,vs,_,dd⟩:=qD I.hok e;exact dd.typeIs
 ·obtain⟨_,_,xs,_,dd⟩:=qE I.hok e;exact dd.typeIs
def Aw (td ty:TE):TE:=fun σ H Q=>td σ H fun x H1=>ty σ H1 fun y H2=>∃ a v,x=.ref a/\yh H2 a y (some v)/\Q v H2
def Ax (td ty tv:TE):TS:=fun D σ H=>tv σ H fun v H1=>td σ H1 fun x H2=>ty σ H2 fun y H3=>∃ a H4,x=.ref a/\Au H3 a y v H4/\D.nx σ H4
section
variable {X:Cx}{o i e value:Expr}{pos pos' tpos:Pos}{td ty tv:TE}
theorem uq (hu:X.A.units+1 < cLine)(ho:PE X o td)(hi:PE X i ty)(hs:Av i):PE X (.Subscript o i pos) (Aw td ty):=by intro pins s σ H Q I h;refine uo PySem.F.slot_dict_getitem.lookup hs (thn (ho pins s σ H _ I h) fun u s1 ⟨x,H1,I1,rx,q1⟩=>thn (hi pins s1 σ H1 _ I1 q1) fun iv s2 ⟨y,H2,I2,ry,a,v,ex,g,q2⟩=>?_);subst ex;obtain rfl:u=Value.ref a:=rx;exact⟨lF I2 g,pH hu I2 g ry fun w' s3 I3 rw'=>⟨v,H2,I3,rw',q2⟩⟩
theorem ur (hu:X.A.units+1 < cLine)(ho:PE X o td)(hi:PE X i ty)(hv:PE X value tv)(hs:swapsWith value (some (.Subscript o i pos')) pos.line X.env=pure false) :
  PS X (.Assign [.Subscript o i pos'] value pos) (Ax td ty tv):=by
 intro pins s σ H D I h;refine wpAny_Assign_Subscript (thn (hv pins s σ H _ I h) fun r s1 ⟨v,H1,I1,rv,q1⟩=>thn (ho pins s1 σ H1 _ I1 q1) fun u s2 ⟨x,H2,I2,rx,q2⟩=>thn (hi pins s2 σ H2 _ I2 q2) fun iv s3 ⟨y,H3,I3,ry,a,H4,ex,g,q3⟩=>?_) hs;subst ex;obtain rfl:u=Value.ref a:=rx;exact pI hu I3 g ry rv fun s4 I4=>⟨σ,H4,I4,q3⟩
end
theorem qG {P:Program}{w:World}{H:Hp}(h:Heap)(hb:sysModules < h.objs.size):du P w H (h.push {cls:=.type "dict",data:=.dict #[]}) h.objs.size (.dK []):=
 ⟨Nat.zero_le _,beq_eq_false_iff_ne.mpr (Ne.symm (Nat.ne_of_lt hb)),[],.nil,Heap.DictOf.new h⟩
def yi:TE:=fun _ H Q=>∀ p,H p=none->Q (.ref p) (upd H p (.dK []))
section
variable {X:Cx}{pos:Pos}
theorem lG:PE X (.Dict [] [] pos) yi:=fun pins s σ H Q I h=>
 wpAny_Dict_empty ⟨.ref s.heap.objs.size,_,I.laid (a:=s.heap.objs.size) (o:=.dK []) (t':=s.toks) (fun _ _ q=>Heap.get?_push_of_some _ q) (Nat.le_refl _) (qG s.heap I.big),rfl,h _ (I.hok.fresh (Nat.le_refl _))⟩
end
noncomputable def gH (kvs more:List (Key×V)):List (Key×V):=more.foldl (fun acc kv=>putK acc kv.1 kv.2) kvs
theorem KV.merge:∀ {more:List (Key×V)}{rs:List (Key×Value)}{kvs:List (Key×V)}{vs:List (Key×Value)},KV more rs->KV kvs vs->KV (gH kvs more) (merged vs rs):=by
 intro more rs kvs vs r;unfold KV at r
 induction r generalizing kvs vs with
 | nil=>intro q;exact q
 | @cons p q ps qs h t ih=>
  intro r0;have e:KV (putK kvs p.1 p.2) (stored vs q.1 q.2):=by have:=r0.put p.1 h.2;rw[<- h.1];exact this
  exact ih e
theorem gE:∀ (more kvs:List (Key×V)),(gH kvs more).length<=kvs.length+more.length
 | [],kvs=>by show kvs.length<=kvs.length+0;omega
 | p::r,kvs=>by have h1:=gE r (putK kvs p.1 p.2);have h2:=gq kvs p.1 p.2;show (gH (putK kvs p.1 p.2) r).length<=_;rw[List.length_cons];omega
open PySem.Builtin PySem.Builtin.Str
section
variable {X:Cx}
theorem ij:∀ l:List (Str×Tok),Vals ((l.map (·.1)).map V.str) (strValues l)
 | []=>.nil
 | p::r=>.cons ⟨p.2,rfl⟩ (ij r)
theorem nU {K:PySem.W.Frag}{H:Hp}{a:Addr}{od:Option Addr}{n:Nat}{sl:Array (Option Value)}(l:List (Str×Tok))(h:K.lookup a=some ⟨.type "tuple",od,.seq (strValues l).toArray n,sl⟩) (hz:l.length<=1000):SqT K H a ((l.map (·.1)).map V.str):=by
 have hs:sizeLine=16777216:=sizeLine_eq;refine .inr ⟨_,_,_,h,rfl,rfl,?_,ij l⟩;have e:(strValues l).length=l.length:=by rw[<- (ij l).length,List.length_map,List.length_map]
 show (strValues l).toArray.size<=sizeLine;rw[List.size_toArray];omega
end
end L2
namespace L2.Zp
open PySem
inductive Kq where
 | l|t
end L2.Zp
namespace L2
open PySem PySem.Spec PyProof.Rows
def SqK (K:PySem.W.Frag)(H:Hp)(k:Zp.Kq)(a:Addr)(xs:List V):Prop:=match k with
 | .l=>SqL K H a xs
 | .t=>SqT K H a xs
section
variable {X:Cx}{pins:List (Addr×Obj)}{σ:St}{H:Hp}{s:Shared}{h':Heap}{k:Zp.Kq}{a:Addr}{xs ys:List V}
theorem Inv.turns {t':Nat}{ch:List Addr}(I:Inv X pins σ H s)(k:∀ b o,b∉ch->s.heap.get? b=some o->h'.get? b=some o)(hf:∀ b∈ch,gz X pins H b):Inv X pins σ H {s with heap:=h',toks:=t'}:=by
 have nit:∀ b u,H b=some u->b∉ch:=fun b u e z=>by rw[(hf b z).1] at e;cases e
 refine I.step (g':=s.gens) (d':=s.drawn) (ch:=ch) (fun b hb=>?_) (fun b o _ _ hc e _=>k b o hc e) (fun b o _ _ hc e _=>⟨o.slots,k b o hc e⟩) (fun _ _ _ _ n=>n)
  (fun b o hc e=>⟨o,k b o hc e⟩) (fun _ _ e=>e) (fun _ _ _ e=>e) (fun b ps e=>⟨#[],by rw[e];simp⟩) (fun m hm=>?_) (fun b u e=>?_) I.bare
 ·obtain⟨f0,f1,f2,f3,f4,f5⟩:=hf b hb;exact⟨f3,f1,f4,f5⟩
 ·obtain⟨o,es,ep,ho,r⟩:=hm;exact⟨o,es,ep,k _ o (fun z=>(hf _ z).2.1 rfl) ho,r⟩
 ·refine(I.hok b u e).stay (fun c v hc q=>k c v ?_ q) (fun _ q=>q) fun _ _ q=>q;rcases hc with z|z
  ·rw[z];exact nit b u e
  ·exact nit c _ z
theorem Inv.turnsN {t':Nat}{ch:List Addr}{T:Addr}{ho:HO}(I:Inv X pins σ H s)(k:∀ b o,b∉ch->s.heap.get? b=some o->h'.get? b=some o)(hf:∀ b∈ch,gz X pins H b)(hp:s.heap.objs.size<=T)(new:du X.prog X.w (upd H T ho) h' T ho):Inv X pins σ (upd H T ho) {s with heap:=h',toks:=t'}:=by
 have nit:∀ b u,H b=some u->b∉ch:=fun b u e z=>by rw[(hf b z).1] at e;cases e
 have hn:H T=none:=I.hok.fresh hp;refine I.step (g':=s.gens) (d':=s.drawn) (ch:=ch) (fun b hb=>?_) (fun b o _ _ hc e _=>k b o hc e) (fun b o _ _ hc e _=>⟨o.slots,k b o hc e⟩) (fun b o _ e n=>by rw[cG (Nat.ne_of_lt (Nat.lt_of_lt_of_le (Heap.lt_size e) hp))];exact n)
  (fun b o hc e=>⟨o,k b o hc e⟩) (fun b xs q=>by rw[cG (cY q hn)];exact q) (fun b u xs q=>by rw[cG (cY q hn)];exact q) (fun b ps q=>⟨#[],by rw[cG (cY q hn),q];simp⟩) (fun m hm=>?_) (fun b u e=>?_) I.bare
 ·obtain⟨f0,f1,f2,f3,f4,f5⟩:=hf b hb;exact⟨f3,f1,f4,f5⟩
 ·obtain⟨o,es,ep,ho,r⟩:=hm;exact⟨o,es,ep,k _ o (fun z=>(hf _ z).2.1 rfl) ho,r⟩
 ·by_cases hb:b=T
  ·subst hb;rw[cP] at e;cases e;exact new
  ·rw[cG hb] at e;refine(I.hok b u e).stay (fun c v hc q=>k c v ?_ q) (fun c q=>by rw[cG (cY q hn)];exact q) fun c xs q=>by rw[cG (cY q hn)];exact q
   rcases hc with z|z
   ·rw[z];exact nit b u e
   ·exact nit c _ z
end
end L2
namespace L2.Sx
open PySem PyProof.Rows
noncomputable def dd (σ:List Str)(v:Str):List Str:=if σ.any (· == v) then σ else σ++[v]
theorem yj (σ:List Str)(v k:Str):(dd σ v).any (· == k)=(σ.any (· == k)||decide (k=v)):=by
 unfold dd;by_cases h:σ.any (· == v)=true
 ·rw[if_pos h];by_cases e:k=v
  ·subst e;rw[h];simp
  ·rw[decide_eq_false e,Bool.or_false]
 ·rw[if_neg h,List.any_append];by_cases e:k=v
  ·subst e;simp
  ·have hb:(v == k)=false:=by simpa using fun z:v=k=>e z.symm
   simp[hb,e]
theorem qH (σ:List Str)(v:Str):(dd σ v).length=if σ.any (· == v)=true then σ.length else σ.length+1:=by
 unfold dd;by_cases h:σ.any (· == v)=true
 ·rw[if_pos h,if_pos h]
 ·rw[if_neg h,if_neg h,List.length_append];rfl
theorem vN:∀ (l σ:List Str),(l.foldl dd σ).length<=σ.length+l.length
 | [],σ=>Nat.le_refl _
 | v::l,σ=>by have h:=vN l (dd σ v);have h2:=qH σ v;rw[List.foldl_cons,List.length_cons];split at h2<;>omega
section
variable {prog:Program}{w:World}{A:Around}{E:Value->Shared->Prop}{s:Shared}{R:Result->Shared->Prop}{I:Addr}{fp wr:List Addr}{G:Array GenState->Array GenState->Prop}{n:Nat}{P:Nat->Value->Prop}{St:Nat->Shared->Prop}
def SetS (prog:Program)(w:World)(h:Heap)(a:Addr)(σ:List Str):Prop:=h.SetOf (PySem.strKind prog w) a (fun k=>σ.any (· == k)) σ.length
theorem SetS.moved {h h':Heap}{a:Addr}{σ:List Str}(hS:SetS prog w h a σ)(k:∀ o,h.get? a=some o->h'.get? a=some o):SetS prog w h' a σ:=by obtain⟨o,es,ep,t,ho,D⟩:=hS;exact⟨o,es,ep,t,k o ho,D⟩
theorem isS (x:Str)(t:Tok):(PySem.strKind prog w).is x (.str x t)=true:=by show (x == x)=true;simp
theorem loop (W:WalksS prog w A.in1 I fp wr G n P St)(a:Addr)(ha:a∉fp){ns:List Str}(hv:∀ i v,P i v->∃ t,v=.str (ns.getD i ⟨#[]⟩) t)(hn:ns.length=n)(hb:n+1 < scanBound) :
  ∀ (k i:Nat) (s:Shared),n - i=k->i<=n->St i s->SetS prog w s.heap a ((ns.take i).foldl dd [])->
   (∀ s',Moved (a::wr) G s s'->SetS prog w s'.heap a (ns.foldl dd [])->R (.ok (.ret .none)) s')->
   codeAny (model prog w) A (.builtin "set.update.loop" ⟨[.ref a,.ref I],[]⟩) R s:=by
 have haw:a∉wr:=fun z=>ha (W.sub _ z);have sub:∀ b∈wr,b∈a::wr:=fun b z=>List.mem_cons_of_mem _ z;intro k
 induction k with
 | zero=>
  intro i s hk hi hst hS hR;have e:i=n:=by omega
  subst e;rw[<- hn,List.take_length] at hS;refine codeAny_builtin F.entry_set_update_loop ?_;rw[Around.under_plainId F.plain_set_update_loop _];show wpAny _ A.in1 (pyNext (.ref I) >>= _) _ _ s;exact wpAny_bind (W.done s _ _ hst fun s' hm=>show wpAny _ A.in1 (ret Value.none) _ _ s' from wpAny_pure (hR s' (hm.mono sub) (hS.moved fun o e=>hm.heap a o haw e)))
 | succ k ih=>
  intro i s hk hi hst hS hR;have hlt:i < n:=by omega
  refine codeAny_builtin F.entry_set_update_loop ?_;rw[Around.under_plainId F.plain_set_update_loop _];show wpAny _ A.in1 (pyNext (.ref I) >>= _) _ _ s;refine wpAny_bind (W.item i s _ _ hlt hst fun v s' hP hst' hm=>?_);obtain⟨t,rfl⟩:=hv i v hP;have hS1:SetS prog w s'.heap a ((ns.take i).foldl dd []):=hS.moved fun o e=>hm.heap a o haw e;show wpAny _ A.in1 (holding [Value.str (ns.getD i ⟨#[]⟩) t] (setAdd a (.str (ns.getD i ⟨#[]⟩) t)) >>= _) _ _ s';unfold setAdd;refine wpAny_bind (wpAny_holding (wpAny_holding (wpAny_bind ((PySem.strKind prog w).pyHash (isS _ _) ?_))));have hlen:=vN (ns.take i) [];rw[List.length_take,List.length_nil] at hlen;refine wpAny_setAddHashed_of (knd:=PySem.strKind prog w) (s:={s' with toks:=s'.toks+1}) (isS _ _) rfl hS1 (by omega) fun h' hsb hS2=>?_;have et:(ns.take (i+1)).foldl dd []=dd ((ns.take i).foldl dd []) (ns.getD i ⟨#[]⟩):=by
   have hi':i < ns.length:=by omega
   rw[List.take_succ,List.foldl_append,List.getElem?_eq_getElem hi',List.getD_eq_getElem?_getD,List.getElem?_eq_getElem hi'];rfl
  have hS3:SetS prog w h' a ((ns.take (i+1)).foldl dd []):=by unfold SetS;rw[et];exact SetOf_congr hS2 (fun k'=>by rw[yj]) (by rw[qH])
  refine wpAny_pure ⟨plainId_quiet F.plain_set_update_loop _,ih (i+1) _ (by omega) hlt (W.frame _ s' _ _ hst' (Nat.le_succ _) fun b hb o e=>?_) hS3 fun s'' hm'' hS''=>?_⟩
  ·rw[hsb.2 b fun z=>ha (z ▸ hb)];exact e
  ·refine hR s'' (Moved.trans W.gtrans ((hm.mono sub).then_heap (Nat.le_succ _) fun b o hb e=>?_) hm'') hS'';rw[hsb.2 b fun z=>hb (z ▸ List.mem_cons_self)];exact e
noncomputable abbrev oN (led:Bool):Obj:={cls:=.type "set",dict:=none,data:=.set #[] 0 (.fresh 0 0 led)}
theorem call_set {l:Addr}{items:Array Value}{ns:List Str}{Q:Value->Shared->Prop}(hh:A.handled=none)(hl:s.heap.IsList l items)(hi:∀ (i:Nat)(v:Value),items[i]? = some v->∃ t,v=Value.str (ns.getD i ⟨#[]⟩) t)(hlen:ns.length=items.size)(hb:items.size+1 < scanBound)
  (h:∀ (h':Heap) (tk:Nat),SetS prog w h' s.heap.objs.size (ns.foldl dd [])->(∀ b o,b < s.heap.objs.size->s.heap.get? b=some o->h'.get? b=some o)->Q (.ref s.heap.objs.size) {s with heap:=h',toks:=tk}) :
  wpAny (model prog w) A (call (.type "set") [.ref l]) Q E s:=by
 obtain⟨c,tl,mro⟩:=F.called_set.mro;have made:=F.called_set.made;have sub:=F.called_set.sub;refine wpAny_call (codeAny_of_tree (show wpAny _ _ (callAny (.type "set") _) _ _ _ from wpAny_pure ⟨Code.quiet_builtin _ (by decide +kernel),codeAny_builtin F.entry_type_call ?_⟩));rw[Around.under_plain (weight_type_call_type "set" [.ref l] []) rfl];have n1:=F.called_set.notType;have n2:=F.called_set.canCreate;have n3:=F.typeCall_set_1 (.ref l)
 repeat (any_goals (first|assumption|wp_step))
 refine codeAny_mono (code_set_new_1 (.ref l) (E:=E) (Q₁:=fun obj s1=>∃ led,obj=.ref s.heap.objs.size/\s1 = {s with heap:=s.heap.push (oN led)}) fun led=>⟨led,rfl,rfl⟩) fun r s1 hr=>?_;cases r with
 | error e=>exact hr
 | ok fl=>
  cases fl with
  | ret obj=>
   obtain⟨led,rfl,rfl⟩:=hr;have gS:(s.heap.push (oN led)).get? s.heap.objs.size=some (oN led):=Heap.get?_push_size _ rfl;have hT:Shared.TypeIs {s with heap:=s.heap.push (oN led)} (.ref s.heap.objs.size) "set":=⟨_,gS,rfl⟩
   have i1:=F.called_set.init.lookup;have i2:=F.called_set.init.bind (.ref s.heap.objs.size)
   repeat (any_goals (first|assumption|wp_step))
   refine codeAny_mono (codeAny_call_builtin (R:=wants (fun r s2=>r=.none/\∃ h' tk,s2 = {s with heap:=h',toks:=tk}/\SetS prog w h' s.heap.objs.size (ns.foldl dd [])/\
     (∀ b o,b < s.heap.objs.size->s.heap.get? b=some o->h'.get? b=some o)) E) F.called_set.init.plain F.entry_set_init (check_set_init_1 hT ?_)) fun r2 s2 hr2=>?_
   ·obtain⟨ol,hol,hcl,nl,hdl⟩:=hl;obtain⟨ocls,odict,odata,oslots⟩:=ol;simp only at hcl hdl;subst hcl;subst hdl;have hol1:(s.heap.push (oN led)).get? l=some {cls:=.type "list",dict:=odict,data:=.seq items nl,slots:=oslots}:=Heap.get?_push_of_some _ hol;have w1:=F.sub_list_set;have w2:=F.sub_list_frozenset;have w3:(Value.type "list" == Value.type "dict")=false:=by decide
    have hl1:(s.heap.push (oN led)).IsList l items:=⟨_,hol1,rfl,nl,rfl⟩
    unfold Builtin.«set.__init__» noKeywords Builtin.Frozenset.updateFrom;generalize hPI:pyIter=PI
    wp_walk
    subst hPI;refine wpAny_pyIter_list hl1 (wpAny_bind (wpAny_runValue ?_));have lS:l < s.heap.objs.size:=Heap.lt_size hol;have nI:l≠(s.heap.push (oN led)).objs.size:=by rw[Heap.size_push];exact Nat.ne_of_lt (Nat.lt_succ_of_lt lS)
    have aS:s.heap.objs.size∉[(s.heap.push (oN led)).objs.size,l]:=by
     rw[Heap.size_push];intro z;rcases List.mem_cons.mp z with z|z
     ·exact Nat.ne_of_lt (Nat.lt_succ_self _) z
     ·exact Nat.ne_of_gt lS (List.mem_singleton.mp z)
    have f0:SetS prog w (s.heap.push (oN led)) s.heap.objs.size []:=SetOf_congr ((setObjOf_fresh (knd:=PySem.strKind prog w) led).setOf gS (by unfold scanBound;omega)) (fun _=>rfl) rfl;refine loop ((Walks.list (show A.in1.in1.in1.handled=none by simp[hh]) _ l nI items).toS) s.heap.objs.size aS (ns:=ns) hi hlen hb (items.size - 0) 0 _ (by omega) (Nat.zero_le _)
     ⟨⟨_,Heap.get?_push_size _ rfl,rfl,rfl⟩,(hl1.push _)⟩ (f0.moved fun o e=>Heap.get?_push_of_some _ e) ?_
    intro s' hm hS';obtain⟨h',g',d',tk',os'⟩:=s';have eg:g'=s.gens:=hm.gens;have ed:d'=s.drawn:=hm.drawn;have eo:os'=s.os:=hm.os;subst eg ed eo;show wpAny _ _ _ _ _ _;refine wpAny_pure (show wpAny _ _ (ret Value.none) _ _ _ from wpAny_pure ⟨rfl,h',tk',rfl,hS',fun b o hb e=>?_⟩);refine hm.heap b o (fun z=>?_) (Heap.get?_push_of_some _ (Heap.get?_push_of_some _ e));rcases List.mem_cons.mp z with z|z
    ·exact Nat.ne_of_lt hb z
    ·have:=List.mem_singleton.mp z;rw[Heap.size_push] at this;exact Nat.ne_of_lt (Nat.lt_succ_of_lt hb) this
   ·cases r2 with
    | error e=>exact hr2
    | ok fl2=>
     cases fl2 with
     | ret r=>
      obtain⟨rfl,h',tk,rfl,hS',hk'⟩:=hr2
      repeat (any_goals (first|assumption|wp_step))
      exact h _ _ hS' hk'
     | _=>exact hr2.elim
  | _=>exact hr.elim
theorem call_len {a:Addr}{σ:List Str}{Q:Value->Shared->Prop}(hS:SetS prog w s.heap a σ)(h:∀ t tk,Q (.int σ.length t) {s with toks:=tk}):wpAny (model prog w) A (call (.builtin "len") [.ref a]) Q E s:=by obtain⟨o,es,ep,t,ho,hex,hd,_,_,hb,hf,hn⟩:=hS;refine call_len_set ho hex hd hf (by unfold scanBound at hb;omega) ?_;rw[hn];exact h _ _
end
end L2.Sx
namespace L2
open PySem PySem.Spec PyProof.Rows
section
variable {X:Cx}{e:Expr}{p p' pos pos':Pos}{t:TE}
theorem uu {ns:List Str}:∀ {us:List Value},Vals (ns.map V.str) us->∀ (i:Nat) (v:Value),us[i]? = some v->∃ t,v=Value.str (ns.getD i ⟨#[]⟩) t:=by
 induction ns with
 | nil=>intro us r i v h;cases r;simp at h
 | cons n ns ih=>
  intro us r i v h;cases r with
  | cons r rs=>
   obtain⟨t,rfl⟩:=r;cases i with
   | zero=>exact⟨t,by simpa using h.symm⟩
   | succ j=>simpa using ih rs j v (by simpa using h)
theorem uv (hc:X.calm=true)(g1:Gl X "len") (m1:X.mg "len" = none) (g2:Gl X "set") (m2:X.mg "set" = none) (he:PE X e t) (hst:∀ es,starEach (e::es) X.env=(false,eval e X.env)::starEach es X.env) :
  PE X (.Call (.Name "len" p) [.Call (.Name "set" p') [e] [] pos'] [] pos) (fun σ H Q=>t σ H fun v H1=>∃ (l:Addr) (ns:List Str),v=.ref l/\SqL X.K H1 l (ns.map V.str)/\ns.length < 1000/\Q (.int ((ns.foldl Sx.dd []).length:Nat)) H1):=by
 intro pins s σ H Q I h;refine wpAny_Call_Name_kw (fq (u:=.builtin "len") I g1 m1 (by decide +kernel) ?_ (by decide) (by decide));refine PyProof.Rows.callWith_builtin1 ?_ rfl rfl;show wpAny _ _ (spliced ((false,eval (.Call (.Name "set" p') [e] [] pos') X.env)::backTo pos (starEach [] X.env))) _ _ s;have key:wpAny (model X.prog X.w) X.A (eval (.Call (.Name "set" p') [e] [] pos') X.env) (fun u s1=>∃ (a:Addr) (ns:List Str) (H1:Hp),u=.ref a/\Inv X pins σ H1 s1/\Sx.SetS X.prog X.w s1.heap a (ns.foldl Sx.dd [])/\Q (.int ((ns.foldl Sx.dd []).length:Nat)) H1) X.xe s:=by refine wpAny_Call_Name_kw (fq (u:=.type "set") I g2 m2 (by decide +kernel) ?_ (by decide) (by decide));refine PyProof.Rows.callWith_type1 ?_ (hst []) rfl;rw[hst []];show wpAny _ _ (spliced ((false,eval e X.env)::backTo pos' (starEach [] X.env))) _ _ s;refine Calls.spliced_cons (thn (he pins s σ H _ I h) fun u s1 ⟨x,H1,I1,r1,l,ns,ex,hq,hn,q1⟩=>?_);subst ex;cases r1;refine Calls.spliced_nil ?_;obtain⟨its,r',pl,hz⟩:=I1.list hq;have hl:=r'.length;rw[List.length_map] at hl;refine Sx.call_set (I1.ok.hd hc) pl.isList (fun i v hv=>uu r' i v (by simpa using hv)) (by rw[List.size_toArray];exact hl) (by rw[List.size_toArray];unfold scanBound;omega) fun h' tk hS hk=>⟨_,ns,H1,rfl,I1.kept (t':=tk) fun b o e=>hk b o (Heap.lt_size e) e,hS,q1⟩
 refine Calls.spliced_cons (thn key fun u s1 ⟨a,ns,H1,eu,I1,hS,q1⟩=>?_);subst eu;refine Calls.spliced_nil ?_;exact Sx.call_len hS fun t tk=>⟨.int _,H1,I1.tok _,⟨_,rfl⟩,q1⟩
end
end L2
namespace L2.Dp
open PySem PyProof.Rows
section
variable {prog:Program}{w:World}{A:Around}{E:Value->Shared->Prop}{s:Shared}
theorem pJ:typeLookup (.type "list") "keys" = pure none:=by rw[typeLookup_type,builtinLookup_eq_fast];kernel_rfl
theorem pK {a:Addr}{o:Obj}{xs:Array Value}{k:Nat}{Q:Option Value->Shared->Prop}(hx:s.heap.get? a=some o)(hc:o.cls=.type "list") (hdat:o.data=.seq xs k) (hd:o.dict=none) (hA:A.handled=none)
  (h:∀ h' tk,(∀ b o,s.heap.get? b=some o->h'.get? b=some o)->Q none {s with heap:=h',toks:=tk}):wpAny (model prog w) A (getAttr? (.ref a) "keys") Q E s:=by
 obtain⟨c,dct,dat,sl⟩:=o;simp only at hc hdat hd;subst hc hdat hd;obtain⟨hp,g,d,tk,os⟩:=s;have hT:∀ tk',(⟨hp,g,d,tk',os⟩:Shared).TypeIs (.ref a) "list":=fun _=>⟨_,hx,rfl⟩
 have f1:=sub_AttributeError;have f3:=F.slot_list_getattribute.lookup;have f4:=F.slot_list_getattribute.bind (.ref a);have f5:=am_list_getattr_none;unfold getAttr? getAttrBy? getAttrBy
 repeat (any_goals (first|assumption|exact hT _|((with_reducible show wpAny _ _ (call (Value.builtin "list.__getattribute__") _ _) _ _ _);refine call_meets F.slot_list_getattribute (hT _) am_entry_list_getattribute (F.args_list_getattribute_2 _ _) (meets_getattribute_miss_list a xs k sl "keys" _ pJ (by decide) (by size_fits)) ⟨hx,hA,fun h' tk' e hx'=>?_⟩)|wp_step))
 obtain⟨t',u',he⟩:=hx'.there;show wpAny _ _ (getattributeRaised _ _ _ _ _ _ _) _ _ _;unfold getattributeRaised
 repeat (any_goals (first|assumption|wp_step))
 exact h _ _ hx'.of.keeps
theorem i6:entryFor table "dict.update.loop" = some Builtin.«dict.update.loop»:=entryFor_of_tree (by kernel_rfl)
theorem fT:plainId "dict.update.loop" = true:=by decide +kernel
variable {K:Type} [DecidableEq K]{knd:KeyKind prog w K}{I:Addr}{fp wr:List Addr}{G:Array GenState->Array GenState->Prop}{n:Nat}{P:Nat->Value->Prop}{St:Nat->Shared->Prop}{R:Result->Shared->Prop}
def PairAt (knd:KeyKind prog w K)(h:Heap)(b:Addr)(p:K×Value):Prop:=∃ (key:Value) (od:Option Addr) (m:Nat) (sl:Array (Option Value)),h.get? b=some {cls:=.type "tuple",dict:=od,data:=.seq #[key,p.2] m,slots:=sl}/\knd.is p.1 key=true
theorem PairAt.keep {h h':Heap}{b:Addr}{p:K×Value}(x:PairAt knd h b p)(k:∀ o,h.get? b=some o->h'.get? b=some o):PairAt knd h' b p:=by obtain⟨key,od,m,sl,e,hk⟩:=x;exact⟨key,od,m,sl,k _ e,hk⟩
theorem loop (W:WalksS prog w A.in1 I fp wr G n P St)(d:Addr)(hd:d∉fp){bs:List Addr}{kvs:List (K×Value)}(hv:∀ i v,P i v->∃ b,v=.ref b/\bs[i]? = some b)(hn:kvs.length=n)(hb:n<=sizeLine)(nb:∀ b∈bs,b≠d/\b∉wr) :
  ∀ (k i:Nat) (s:Shared),n - i=k->i<=n->St i s->s.heap.DictOf knd d (merged [] (kvs.take i))->(∀ (j:Nat) (b:Addr) (p:K×Value),bs[j]? = some b->kvs[j]? = some p->PairAt knd s.heap b p)->
   (∀ s',Moved (d::wr) G s s'->s'.heap.DictOf knd d (merged [] kvs)->R (.ok (.ret .none)) s')->
   codeAny (model prog w) A (.builtin "dict.update.loop" ⟨[.ref d,.ref I,rawInt i,.none],[]⟩) R s:=by
 have haw:d∉wr:=fun z=>hd (W.sub _ z);have sub:∀ b∈wr,b∈d::wr:=fun b z=>List.mem_cons_of_mem _ z;intro k
 induction k with
 | zero=>
  intro i s hk hi hst hS hT hR;have e:i=n:=by omega
  subst e;rw[<- hn,List.take_length] at hS;refine codeAny_builtin i6 ?_;rw[Around.under_plainId fT _];show wpAny _ A.in1 (pyNext (.ref I) >>= _) _ _ s;refine wpAny_bind (W.done s _ _ hst fun s' hm=>?_);show wpAny _ A.in1 (Builtin.Dict.addKeywords d [] >>= fun _=>ret Value.none) _ _ s';obtain⟨o,es,ep,ho,r⟩:=hS;exact wpAny_bind (wpAny_pure (wpAny_pure (hR s' (hm.mono sub) ⟨o,es,ep,hm.heap d o haw ho,r⟩)))
 | succ k ih=>
  intro i s hk hi hst hS hT hR;have hlt:i < n:=by omega
  refine codeAny_builtin i6 ?_;rw[Around.under_plainId fT _];show wpAny _ A.in1 (pyNext (.ref I) >>= _) _ _ s;refine wpAny_bind (W.item i s _ _ hlt hst fun v s' hP hst' hm=>?_);obtain⟨b,rfl,hbi⟩:=hv i v hP;have hki:kvs[i]? = some kvs[i]:=List.getElem?_eq_getElem (by omega);have hT':∀ (j:Nat) (b:Addr) (p:K×Value),bs[j]? = some b->kvs[j]? = some p->PairAt knd s'.heap b p:=fun j b p h1 h2=>(hT j b p h1 h2).keep fun o e=>hm.heap b o (nb b (List.mem_of_getElem? h1)).2 e;obtain⟨key,od,m,sl,hg,hkey⟩:=hT' i b _ hbi hki;have hS1:s'.heap.DictOf knd d (merged [] (kvs.take i)):=by obtain⟨o,es,ep,ho,r⟩:=hS;exact⟨o,es,ep,hm.heap d o haw ho,r⟩
  have hlen:=merged_length_le [] (kvs.take i);rw[List.length_take,List.length_nil] at hlen;have et:=merged_take_succ [] kvs i _ hki;generalize hDS:dictSet=DS;obtain⟨hp,gg,dd,tk,os⟩:=s';have hTy:(⟨hp,gg,dd,tk,os⟩:Shared).TypeIs (.ref b) "tuple":=⟨_,hg,rfl⟩
  have nTL:(Value.type "tuple" == Value.type "list")=false:=by decide
  show wpAny _ A.in1 ((holding [Value.ref b] ((Builtin.Dict.pairItems (.ref b)).tryCatch _ >>= _)) >>= _) _ _ _;refine wpAny_bind (wpAny_holding (wpAny_bind (wpAny_tryCatch ?_)));unfold Builtin.Dict.pairItems;refine wpAny_bind (wpAny_typeOf hTy ?_);rw[if_pos (by decide)]
  repeat (any_goals (first|assumption|wp_step))
  subst hDS;refine wpAny_dictSet_pairs (s:=⟨hp,gg,dd,tk,os⟩) hkey hS1 (fun h' hD hsb=>?_) (by omega);have hkp:∀ b' o,b'≠d->hp.get? b'=some o->h'.get? b'=some o:=fun b' o hb' e=>by rw[hsb.2 b' hb'];exact e
  refine wpAny_pure ⟨plainId_quiet fT _,?_⟩;refine ih (i+1) _ (by omega) hlt (W.frame _ ⟨hp,gg,dd,tk,os⟩ _ _ hst' (Nat.le_succ _) fun b' hb' o e=>hkp b' o (fun z=>hd (z ▸ hb')) e) (by rw[et];exact hD) (fun j b' p h1 h2=>(hT' j b' p h1 h2).keep fun o e=>hkp b' o (nb b' (List.mem_of_getElem? h1)).1 e) fun s'' hm'' hS''=>?_;exact hR s'' (Moved.trans W.gtrans ((hm.mono sub).then_heap (Nat.le_succ _) fun b' o hb' e=>hkp b' o (fun z=>hb' (z ▸ List.mem_cons_self)) e) hm'') hS''
theorem call_dict {l:Addr}{its:Array Value}{lm:Nat}{lsl:Array (Option Value)}{bs:List Addr}{kvs:List (K×Value)}{Q:Value->Shared->Prop}(hh:A.handled=none)(hl:s.heap.get? l=some {cls:=.type "list",dict:=none,data:=.seq its lm,slots:=lsl}) (hi:∀ (i:Nat) (v:Value),its[i]? = some v->∃ b,v=Value.ref b/\bs[i]? = some b)
  (hlen:kvs.length=its.size) (hb:its.size<=sizeLine) (hT:∀ (j:Nat) (b:Addr) (p:K×Value),bs[j]? = some b->kvs[j]? = some p->PairAt knd s.heap b p) (hbl:∀ b∈bs,b < s.heap.objs.size)
  (h:∀ (h':Heap) (tk:Nat),h'.DictOf knd s.heap.objs.size (merged [] kvs)->(∀ b o,b < s.heap.objs.size->s.heap.get? b=some o->h'.get? b=some o)->Q (.ref s.heap.objs.size) {s with heap:=h',toks:=tk}) :
  wpAny (model prog w) A (call (.type "dict") [.ref l]) Q E s:=by
 refine callType_codes (Q₁:=fun obj s₁=>obj=.ref s.heap.objs.size/\s₁ = {s with heap:=s.heap.push {cls:=.type "dict",data:=.dict #[]}}) F.kt_called_dict (F.kt_typeCall_dict_1 _) F.entry_dict_init (kt_code_dict_new _ ⟨rfl,rfl⟩) ?_;rintro obj s₁ ⟨rfl,rfl⟩;have hnew:(s.heap.push {cls:=.type "dict",data:=.dict #[]}).DictOf knd s.heap.objs.size []:=Heap.DictOf.new s.heap;have hl1:(s.heap.push {cls:=.type "dict",data:=.dict #[]}).get? l=some {cls:=.type "list",dict:=none,data:=.seq its lm,slots:=lsl}:=Heap.get?_push_of_some _ hl;have hll:l < s.heap.objs.size:=Heap.lt_size hl;refine⟨hnew.typeIs,F.args_dict_init_2 _ _,?_⟩;unfold Builtin.«dict.__init__»;refine wpAny_bind ?_;unfold Builtin.Dict.selfAndRest;refine wpAny_bind (wpAny_notOrdered_dict hnew.typeIs ?_);show wpAny _ _ (pure (s.heap.objs.size,[Value.ref l])) _ _ _;refine wpAny_pure ?_;show wpAny _ _ (Builtin.Dict.updateFrom "dict.__init__" s.heap.objs.size (.ref l) [] .none) _ _ _;unfold Builtin.Dict.updateFrom;have hTl:Shared.TypeIs {s with heap:=s.heap.push {cls:=.type "dict",data:=.dict #[]}} (.ref l) "list":=⟨_,hl1,rfl⟩
 refine wpAny_bind (wpAny_typeOf hTl ?_);rw[if_pos (by decide)];refine wpAny_bind (pK hl1 rfl rfl rfl (by simp[hh]) fun h1 tk1 hk1=>?_);simp only[Option.isNone_none,if_true];have hl2:h1.IsList l its:=⟨_,hk1 _ _ hl1,rfl,lm,rfl⟩
 have sz:s.heap.objs.size < h1.objs.size:=Heap.lt_size (hk1 _ _ (Heap.get?_push_size _ rfl));refine wpAny_bind (wpAny_rule ?_);refine wpAny_bind (wpAny_pyIter_list hl2 (wpAny_pure ⟨plainId_quiet fT _,?_⟩));have nI:l≠h1.objs.size:=Nat.ne_of_lt (Nat.lt_trans hll sz);have keep1:∀ b o,s.heap.get? b=some o->h1.get? b=some o:=fun b o e=>hk1 b o (Heap.get?_push_of_some _ e);refine loop (A:=A.in1) (n:=its.size) (bs:=bs) (kvs:=kvs) ((Walks.list (show A.in1.in1.handled=none by simp[hh]) h1.objs.size l nI its).toS) s.heap.objs.size (fun z=>?_) hi hlen hb (fun b hb=>⟨Nat.ne_of_lt (hbl b hb),fun z=>?_⟩) (its.size - 0) 0 _ (by omega) (Nat.zero_le _) ⟨⟨_,Heap.get?_push_size _ rfl,rfl,rfl⟩,hl2.push _⟩ ?_ (fun j b p e1 e2=>(hT j b p e1 e2).keep fun o e=>Heap.get?_push_of_some _ (keep1 b o e)) fun s' hm hD=>?_
 ·rcases List.mem_cons.mp z with z|z
  ·exact Nat.ne_of_lt sz z
  ·exact Nat.ne_of_gt hll (List.mem_singleton.mp z)
 ·exact Nat.ne_of_lt (Nat.lt_trans (hbl b hb) sz) (List.mem_singleton.mp z)
 ·obtain⟨o,es,ep,ho,r⟩:=hnew;exact⟨o,es,ep,Heap.get?_push_of_some _ (hk1 _ _ ho),r⟩
 ·obtain⟨h',g',d',tk',os'⟩:=s';have eg:g'=s.gens:=hm.gens;have ed:d'=s.drawn:=hm.drawn;have eo:os'=s.os:=hm.os;subst eg ed eo;refine⟨rfl,h h' tk' hD fun b o hb e=>?_⟩;refine hm.heap b o (fun z=>?_) (Heap.get?_push_of_some _ (keep1 b o e));rcases List.mem_cons.mp z with z|z
  ·exact Nat.ne_of_lt hb z
  ·exact Nat.ne_of_lt (Nat.lt_trans hb sz) (List.mem_singleton.mp z)
end
end L2.Dp
namespace L2
open PySem PySem.Spec PyProof.Rows
inductive PrsAt (K:PySem.W.Frag)(H:Hp):List Addr->List (Key×V)->Prop where
 | nil:PrsAt K H [] []
 | cons {a:Addr}{k:Key}{v:V}{as:List Addr}{kvs:List (Key×V)}:SqT K H a [kV k,v]->PrsAt K H as kvs->PrsAt K H (a::as) ((k,v)::kvs)
section
variable {X:Cx}
theorem qI {pins:List (Addr×Obj)}{σ:St}{H:Hp}{s:Shared}(I:Inv X pins σ H s):∀ {as:List Addr}{kvs:List (Key×V)},PrsAt X.K H as kvs->∃ rs:List (Key×Value),KV kvs rs/\rs.length=as.length/\(∀ b∈as,b < s.heap.objs.size)/\
  ∀ (j:Nat) (b:Addr) (p:Key×Value),as[j]? = some b->rs[j]? = some p->Dp.PairAt (dq X.prog X.w) s.heap b p
 | _,_,.nil=>⟨[],.nil,rfl,(fun b h=>by cases h),fun j b p h=>by cases h⟩
 | _,_,.cons (a:=a) (k:=k) (v:=v) h1 h2=>by
  obtain⟨rs,r1,r2,r3,r4⟩:=qI I h2;obtain⟨its,rv,tp,_⟩:=I.tuple h1;obtain⟨o,ho,hc,m,hd⟩:=tp;obtain⟨u1,u2,rfl,ru1,ru2⟩:∃ u1 u2,its=[u1,u2]/\RelV (kV k) u1/\RelV v u2:=by
   cases rv with
   | cons a1 rv=>
    cases rv with
    | cons a2 rv=>cases rv;exact⟨_,_,rfl,a1,a2⟩
  refine⟨(k,u2)::rs,.cons ⟨rfl,ru2⟩ r1,by rw[List.length_cons,List.length_cons,r2],fun b hb=>?_,fun j b p e1 e2=>?_⟩
  ·rcases List.mem_cons.mp hb with rfl|hb
   ·exact Heap.lt_size ho
   ·exact r3 b hb
  ·cases j with
   | zero=>cases e1;cases e2;obtain⟨c,dct,dat,sl⟩:=o;simp only at hc hd;subst hc hd;exact⟨u1,dct,m,sl,ho,nS ru1⟩
   | succ j=>exact r4 j b p e1 e2
theorem jV:∀ {as:List Addr}{us:List Value},Vals (as.map V.ref) us->us=as.map Value.ref
 | [],_,.nil=>rfl
 | a::as,_,.cons r rs=>by rw[jV rs];obtain rfl:_=Value.ref a:=r;rfl
theorem mU (hc:X.calm=true):eS X (.type "dict") (fun xs H Q=>∃ (p:Addr) (as:List Addr) (kvs:List (Key×V)),xs=[.ref p]/\SqL X.K H p (as.map V.ref)/\PrsAt X.K H as kvs/\∀ a,H a=none->Q (.ref a) (upd H a (.dK (gH [] kvs)))):=by
 intro pins s σ H xs us Q I r h;obtain⟨p,as,kvs,rfl,hq,hp,q⟩:=h;obtain⟨u,rfl,rx⟩:=r.one;cases rx;obtain⟨its,rv,pl,hz⟩:=I.list hq;obtain⟨o,m,ho,hcl,hdi,hda⟩:=pl;have e:=jV rv;subst e;obtain⟨rs,r1,r2,r3,r4⟩:=qI I hp;obtain⟨c,dct,dat,sl⟩:=o;simp only at hcl hdi hda;subst hcl hdi hda;rw[List.length_map] at hz;have hl:=gE kvs [];have hkl:=r1.length;rw[List.length_nil] at hl;refine Dp.call_dict (knd:=dq X.prog X.w) (bs:=as) (kvs:=rs) (I.ok.hd hc) ho (fun i v hv=>?_) (by rw[List.size_toArray,List.length_map];exact r2) (by rw[List.size_toArray,List.length_map];exact hz) r4 r3 fun h' tk hD hk=>?_
 ·have hv:(as.map Value.ref)[i]? = some v:=by simpa using hv
  rw[List.getElem?_map] at hv;obtain⟨b,hb,rfl⟩:=Option.map_eq_some_iff.mp hv;exact⟨b,rfl,hb⟩
 ·exact⟨.ref _,_,I.laid (a:=s.heap.objs.size) (o:=.dK (gH [] kvs)) (t':=tk) (fun b u e=>hk b u (Heap.lt_size e) e) (Nat.le_refl _) (qF (by omega) (beq_eq_false_iff_ne.mpr (Ne.symm (Nat.ne_of_lt I.big))) (KV.merge r1 .nil) hD),rfl,q _ (I.hok.fresh (Nat.le_refl _))⟩
end
open PySem.SeqAt
section
variable {X:Cx}
theorem Inv.dct {pins:List (Addr×Obj)}{σ:St}{H:Hp}{s:Shared}{p:Addr}{kvs:List (Key×V)}(I:Inv X pins σ H s)(e:Rd H p (.dK kvs)):kvs.length<=sizeLine/\(p == sysModules)=false/\∃ vs o es ep,KV kvs vs/\s.heap.get? p=some o/\o.data=.dict es ep/\s.heap.DictAt (dq X.prog X.w) p vs ep:=by obtain⟨h1,h2,vs,kv,o,es,ep,ho,c,hd,r⟩:=e.ok I.hok;exact⟨h1,h2,vs,o,es,ep,kv,ho,hd,o,es,ho,c,hd,r⟩
theorem KV.at {κ:Type}:∀ {kvs:List (κ×V)}{vs:List (κ×Value)} (r:KV kvs vs) {i:Nat}{q:κ×Value},vs[i]? = some q->∃ v,kvs[i]? = some (q.1,v)/\RelV v q.2
 | _,_,.nil,_,_,h=>by simp at h
 | (k,v)::_,q'::_,.cons r _,0,q,h=>by cases h;obtain⟨r1,r2⟩:=r;have r1:k=q'.1:=r1;subst r1;exact⟨v,rfl,r2⟩
 | _,_,.cons _ r,i+1,q,h=>KV.at r (i:=i) (by simpa using h)
theorem KV.len {κ:Type}{kvs:List (κ×V)}{vs:List (κ×Value)}(r:KV kvs vs):kvs.length=vs.length:=Paired.length r
theorem pL:eS X (.builtin "len") (fun xs H Q=>∃ (p:Addr) (kvs:List (Key×V)),xs=[.ref p]/\Rd H p (.dK kvs)/\Q (.int kvs.length) H):=by intro pins s σ H xs us Q I r h;obtain⟨p,kvs,rfl,hp,q⟩:=h;obtain⟨u,rfl,rx⟩:=vals1 r;cases rx;obtain⟨hz,lo,vs,o,es,ep,kv,ho,hd,hm⟩:=I.dct hp;have hs:sizeLine=16777216:=sizeLine_eq;have hl:=kv.len;exact call_len_dict lo hm.dictOf (by omega) ⟨.int kvs.length,H,I.tok _,⟨_,by rw[hl]⟩,q⟩
theorem yk {P:Program}{w:World}{k:Key}{u:Value}(h:(dq P w).is k u=true):RelV (kV k) u:=by
 rcases dj h with ⟨i,t,rfl,rfl⟩|⟨x,t,rfl,rfl⟩
 ·exact⟨t,rfl⟩
 ·exact⟨t,rfl⟩
end
noncomputable def Ite (K:PySem.W.Frag)(l:Addr):It:=
 ⟨fun i H=>∃ xs x,SqL K H l xs/\xs[i]? = some x,
  fun i H v H'=>∃ T x,v=.ref T/\H T=none/\H'=upd H T (.tup [.int i,x])/\∀ xs,SqL K H l xs->xs[i]? = some x,
  fun i H=>∃ xs,SqL K H l xs/\xs.length<=i⟩
theorem pM {P:Program}{w:World}{K:PySem.W.Frag}{es:List Expr}{c:Nat}{pos:Pos}(e it l:Addr)(hne:e≠it) :
  Turn P w K (.Tuple es c pos) (Ite K l) [e,it] e (fun n h=>(∃ old,IsEnum h e it n old)/\h.IsListIter it l n) where
 mem:=by simp
 obj:=fun n h st b hb=>by
  obtain⟨⟨old,he⟩,ci⟩:=st;simp only[List.mem_cons,List.not_mem_nil,or_false] at hb;rcases hb with rfl|rfl
  ·exact⟨_,he,fun v z=>by cases z⟩
  ·obtain⟨o,e,c,d⟩:=ci;exact⟨o,e,fun v z=>by rw[d] at z;cases z⟩
 keep:=fun n h h' st k=>by obtain⟨⟨old,he⟩,ci⟩:=st;exact⟨⟨old,k e (by simp) _ he⟩,ci.at fun o q=>k it (by simp) o q⟩
 item:=by
  intro X hP hw hK hc n pins s σ H E I hf st hg;subst hP hw hK;obtain⟨⟨old,he⟩,ci⟩:=st;obtain⟨xs,x,hq,hx⟩:=hg;obtain⟨its,rv,p,hz⟩:=I.list hq;obtain⟨u,hu,ru⟩:=rv.get hx;refine wpAny_pyNext_enum_item he ci p.isList (x:=u) (by simpa using hu) hne fun h1 a1 a2 a3 a4 hk=>?_;refine⟨_,rfl,?_⟩;have le:e < s.heap.objs.size:=Heap.lt_size he;have hTe:s.heap.objs.size≠e:=Nat.ne_of_gt le;refine wpAny_letOwnedTupleGo_enum (s:={s with heap:=h1,toks:=s.toks+1}) a1 fun h2 he2 hs2=>?_;have kk:∀ b o,b∉[e,it]->s.heap.get? b=some o->h2.get? b=some o:=fun b o hb q=>by simp only[List.mem_cons,List.not_mem_nil,or_false,not_or] at hb;exact hs2.extBut _ _ hb.1 (hk b o hb.1 hb.2 q)
  have hT:=hs2.extBut _ _ hTe a3;have I2:Inv X pins σ (upd H s.heap.objs.size (.tup [.int n,x])) {s with heap:=h2,toks:=s.toks+1}:=I.turnsN (t':=s.toks+1) kk hf (Nat.le_refl _) ⟨by show 2<=sizeLine;decide,[.int n s.toks,u],.cons ⟨_,rfl⟩ (.cons ru .nil),⟨_,hT,rfl,_,rfl⟩⟩;refine⟨.ref s.heap.objs.size,_,I2,rfl,⟨_,x,rfl,I.hok.fresh (Nat.le_refl _),rfl,fun xs' g1=>by rw[I.list_inj g1 hq];exact hx⟩,⟨⟨_,by rw[Int.natCast_succ];exact he2⟩,a2.at fun o q=>hs2.extBut _ _ hne.symm q⟩,fun b hb=>?_⟩;have hb':b < s.heap.objs.size:=by
   simp only[List.mem_cons,List.not_mem_nil,or_false] at hb;rcases hb with rfl|rfl
   ·exact le
   ·obtain⟨o,q,_⟩:=ci;exact Heap.lt_size q
  rw[cG (Nat.ne_of_lt hb')];exact(hf b hb).1
 done:=by
  intro X hP hw hK hc n pins s σ H E I hf st hg;subst hP hw hK;obtain⟨⟨old,he⟩,ci⟩:=st;obtain⟨xs,hq,hx⟩:=hg;obtain⟨its,rv,p,hz⟩:=I.list hq;have l1:=rv.length;refine wpAny_pyNext_enum_end (I.ok.hd hc) he ci p.isList (Array.getElem?_eq_none (by simp;omega)) fun h1 hk=>⟨rfl,I.turns (t':=s.toks) (ch:=[e,it]) (fun b o hb q=>?_) hf⟩
  simp only[List.mem_cons,List.not_mem_nil,or_false,not_or] at hb;exact hk b o hb.2 q
 self:=fun _ _ _ _ _ st h=>by obtain⟨⟨old,he⟩,_⟩:=st;exact wpAny_pyIter_enum he h
def C5 (K:PySem.W.Frag)(ta:TA):TI:=fun σ H R=>ta σ H fun vs H1=>∃ l xs,vs=[.ref l]/\SqL K H1 l xs/\R (Ite K l) H1
theorem uw {X:Cx}{a:Expr}{ta:TA}{es:List Expr}{c:Nat}{p tp pos:Pos}(hg:Gl X "enumerate") (hm:X.mg "enumerate" = none) (ha:PA X [a] ta) (hs:starEach [a] X.env=[(false,eval a X.env)]) :
  PI X (.Tuple es c tp) (.Call (.Name "enumerate" p) [a] [] pos) (C5 X.K ta):=by
 intro pins s σ H R I h;refine Call_ (fq I hg hm boot_enumerate (PyProof.Rows.callWith_type1 (thn (ha pos pins s σ H _ I h) fun us s1 ⟨vs,H1,I1,r1,q1⟩=>?_) hs rfl));obtain⟨l,xs,e,g1,q⟩:=q1;subst e;obtain⟨u,rfl,r⟩:=vals1 r1;cases r;obtain⟨its1,rv1,p1,hz⟩:=I1.list g1;refine call_enumerate_list p1.isList fun h2 b1 b2 b3 b4=>?_;refine wpAny_pyIter_enum (s:={s1 with heap:=h2}) b1 ?_;refine⟨s1.heap.objs.size+1,[s1.heap.objs.size+1,s1.heap.objs.size],_,_,H1,rfl,I1.kept (t':=s1.toks) b4,pM _ _ l (Nat.succ_ne_self _),⟨⟨_,b1⟩,b2⟩,fun b hb=>?_,q⟩;have hb':s1.heap.objs.size<=b:=by
  simp only[List.mem_cons,List.not_mem_nil,or_false] at hb;rcases hb with rfl|rfl
  ·exact Nat.le_add_right _ _
  ·exact Nat.le_refl _
 exact I1.fpOk hb' (I1.hok.fresh hb')
end L2
namespace PySem
open Sem (wp)
open AutoSeq1 (wpAny_loadPart')
set_option maxHeartbeats 1000000 in
theorem gr (l:Addr)(items:Array Value)(n:Nat)(dct:Option Addr)(sl:Array (Option Value))(t:Tok) :
  Meets (Builtin.«enumerate.__new__» ⟨[.type "enumerate",.ref l],[("start",.int 1 t)]⟩) (fun _ R s=>s.heap.get? l=some {cls:=.type "list",dict:=dct,data:=.seq items n,slots:=sl}/\
   R (.ok (.ret (.ref (s.heap.push {cls:=.type "list_iterator",data:=.fields #[.ref l,.int 0 0]}).objs.size)))
    {s with heap:=(s.heap.push {cls:=.type "list_iterator",data:=.fields #[.ref l,.int 0 0]}).push {cls:=.type "enumerate",data:=.fields #[.none,.bool false,.ref s.heap.objs.size,rawInt 1,.none,.none]}}):=
 .of_wp fun prog w A R s h=>by
  obtain⟨hp,g,d,tk,os⟩:=s;obtain⟨hl,h⟩:=h;have hsub:=sub_enumerate;have hL:Heap.IsList (Shared.heap ⟨hp,g,d,tk,os⟩) l items:=⟨_,hl,rfl,n,rfl⟩
  wp_walk using wpAny_loadPart' hl
  refine wpAny_stack_any fun st=>wpAny_pure ?_;split
  ·rename_i c _ _ _ _ _
   cases (c == Value.type "enumerate")
   ·wp_walk using wpAny_loadPart' hl,wpAny_pyIter_list hL
    exact⟨_,rfl,h⟩
   ·wp_walk using wpAny_loadPart' hl,wpAny_pyIter_list hL
    exact⟨_,rfl,h⟩
  ·wp_walk using wpAny_loadPart' hl,wpAny_pyIter_list hL
   exact⟨_,rfl,h⟩
open Sem (wp)
theorem ux (a v:Value):checkTypeCall "enumerate" ⟨[a],[("start",v)]⟩=pure ():=by kernel_rfl
theorem uy (a v:Value):checkBuiltinCall "enumerate.__new__" ⟨[.type "enumerate",a],[("start",v)]⟩=pure ():=by kernel_rfl
theorem uz (a b v:Value):argsOk "object.__init__" ⟨[a,b],[("start",v)]⟩:=by
 first|exact F.args_object_init_2 a b|(unfold argsOk;kernel_rfl)|kernel_rfl
set_option maxHeartbeats 1000000 in
theorem uA {self a v:Value}:Meets (Builtin.«object.__init__» ⟨[self,a],[("start",v)]⟩) (fun _ R s=>s.TypeIs self "enumerate"/\R (.ok (.ret .none)) s):=by
 refine Meets.of_wp fun prog w A R s hs=>?_;obtain⟨hT,hq⟩:=hs;have hl:=F.called_enumerate.init.lookup;have hm:=F.called_enumerate.made;have hne:(some "enumerate.__new__" != some "object.__new__")=true:=by decide
 repeat (any_goals (first|assumption|wp_step))
 exact⟨_,rfl,hq⟩
section
variable {prog:Program}{w:World}{A:Around}{E:Value->Shared->Prop}{s:Shared}
set_option maxHeartbeats 2000000 in
theorem mV {l:Addr}{items:Array Value}{t:Tok}{Q:Value->Shared->Prop}(hL:s.heap.IsList l items)
  (h:∀ h',IsEnum h' (s.heap.objs.size+1) s.heap.objs.size 1 .none->h'.IsListIter s.heap.objs.size l 0->(∀ b o,s.heap.get? b=some o->h'.get? b=some o)->Q (.ref (s.heap.objs.size+1)) {s with heap:=h'}) :
  wpAny (model prog w) A (call (.type "enumerate") [.ref l] [("start",.int 1 t)]) Q E s:=by
 obtain⟨⟨c,dct,dt,sl⟩,hl,hc,n,hd⟩:=hL
 replace hc:c=.type "list":=hc
 replace hd:dt=.seq items n:=hd
 subst hc hd;have ft:=F.called_enumerate;have k1:=ft.notType;have k2:=ft.canCreate;have k3:=ft.made;have k4:=ft.sub;obtain⟨c0,tl,k5⟩:=ft.mro;have k6:=ux (.ref l) (.int 1 t);refine wpAny_call (codeAny_of_tree ?_);show wpAny _ _ (callAny (.type "enumerate") _) _ _ _;refine wpAny_pure ⟨Code.quiet_builtin _ (by decide +kernel),codeAny_builtin F.entry_type_call ?_⟩;rw[Around.under_plain (weight_type_call_type "enumerate" [.ref l] [("start",.int 1 t)]) (units_type_call_type "enumerate" [.ref l] [("start",.int 1 t)])]
 repeat (any_goals (first|assumption|wp_step))
 obtain⟨R1,hR1⟩:∃ R:Result->Shared->Prop,R=fun r s'=>r=.ok (.ret (.ref (s.heap.push {cls:=.type "list_iterator",data:=.fields #[.ref l,.int 0 0]}).objs.size))/\s' = {s with heap:=(s.heap.push {cls:=.type "list_iterator",data:=.fields #[.ref l,.int 0 0]}).push {cls:=.type "enumerate",data:=.fields #[.none,.bool false,.ref s.heap.objs.size,rawInt 1,.none,.none]}}:=⟨_,rfl⟩
 refine codeAny_mono (codeAny_call_builtin (R:=R1) ft.plain F.entry_enumerate_new (wpAny_of_eq (uy (.ref l) (.int 1 t)) (gr l items n dct sl t prog w A.in1 R1 s ⟨hl,by rw[hR1];exact⟨rfl,rfl⟩⟩))) fun r s1 hr=>?_;rw[hR1] at hr;obtain⟨rfl,rfl⟩:=hr;have hz:(s.heap.push {cls:=.type "list_iterator",data:=.fields #[.ref l,.int 0 0]}).objs.size=s.heap.objs.size+1:=Heap.size_push ..;rw[hz];have he:IsEnum ((s.heap.push {cls:=.type "list_iterator",data:=.fields #[.ref l,.int 0 0]}).push {cls:=.type "enumerate",data:=.fields #[.none,.bool false,.ref s.heap.objs.size,rawInt 1,.none,.none]}) (s.heap.objs.size+1) s.heap.objs.size 1 .none:=by have:=Heap.get?_push_size (s.heap.push {cls:=.type "list_iterator",data:=.fields #[.ref l,.int 0 0]}) (o:={cls:=.type "enumerate",data:=.fields #[.none,.bool false,.ref s.heap.objs.size,rawInt 1,.none,.none]}) rfl;rw[hz] at this;exact this
 have hq:=h _ he ⟨_,Heap.get?_push_of_some _ (Heap.get?_push_size _ rfl),rfl,rfl⟩ fun b o x=>Heap.get?_push_of_some _ (Heap.get?_push_of_some _ x);have k7:=ft.init.lookup;have k8:=ft.init.bind (.ref (s.heap.objs.size+1));have hT:Shared.TypeIs {s with heap:=(s.heap.push {cls:=.type "list_iterator",data:=.fields #[.ref l,.int 0 0]}).push {cls:=.type "enumerate",data:=.fields #[.none,.bool false,.ref s.heap.objs.size,rawInt 1,.none,.none]}} (.ref (s.heap.objs.size+1)) "enumerate":=⟨_,he,rfl⟩
 repeat (any_goals (first|assumption|wp_step))
 obtain⟨R2,hR2⟩:∃ R:Result->Shared->Prop,R=fun r s'=>r=.ok (.ret .none)/\s' = {s with heap:=(s.heap.push {cls:=.type "list_iterator",data:=.fields #[.ref l,.int 0 0]}).push {cls:=.type "enumerate",data:=.fields #[.none,.bool false,.ref s.heap.objs.size,rawInt 1,.none,.none]}}:=⟨_,rfl⟩
 refine codeAny_mono (codeAny_call_builtin (R:=R2) ft.init.plain F.entry_object_init (ft.init.check _ _ _ _ _ _ _ _ hT (uz _ _ _) (uA prog w A.in1 R2 _ ⟨hT,by rw[hR2];exact⟨rfl,rfl⟩⟩))) fun r2 s2 hr2=>?_;rw[hR2] at hr2;obtain⟨rfl,rfl⟩:=hr2
 repeat (any_goals (first|assumption|wp_step))
end
end PySem
namespace L2
open PySem PySem.Spec PyProof.Rows
theorem iI {prog:Program}{w:World}{A:Around}{it:Addr}{fp:List Addr}{n:Nat}{P:Nat->Value->Prop}{St:Nat->Heap->Prop}(D:Draws prog w A it fp n P St) :
  Draws prog w A it fp (n+1) (fun i x=>∃ j,i=j+1/\P j x) (fun i h=>∃ j,i=j+1/\St j h) where
 live:=fun i h ⟨j,_,st⟩=>D.live j h st
 frame:=fun i h h' ⟨j,e,st⟩ k=>⟨j,e,D.frame j h h' st k⟩
 item:=fun i s Q E hi ⟨j,e,st⟩ hQ=>D.item j s Q E (by omega) st fun x h' tk px st' sb=>hQ x h' tk ⟨j,e,px⟩ ⟨j+1,by omega,st'⟩ sb
 done:=fun s Q E ⟨j,e,st⟩ hE=>by
  have:j=n:=by omega
  subst this;exact D.done s Q E st hE
noncomputable def yl (K:PySem.W.Frag)(l:Addr):It:=
 ⟨fun i H=>∃ xs x,SqL K H l xs/\xs[i]? = some x,
  fun i H v H'=>∃ T x,v=.ref T/\H T=none/\H'=upd H T (.tup [.int ((i:Int)+1),x])/\∀ xs,SqL K H l xs->xs[i]? = some x,
  fun i H=>∃ xs,SqL K H l xs/\xs.length=i⟩
theorem mW {P:Program}{w:World}{K:PySem.W.Frag}{es:List Expr}{c:Nat}{pos:Pos}(e it l:Addr)(hne:e≠it) :
  Turn P w K (.Tuple es c pos) (yl K l) [e,it] e (fun n h=>(∃ old,IsEnum h e it ((n:Int)+1) old)/\h.IsListIter it l n) where
 mem:=by simp
 obj:=fun n h st b hb=>by
  obtain⟨⟨old,he⟩,ci⟩:=st;simp only[List.mem_cons,List.not_mem_nil,or_false] at hb;rcases hb with rfl|rfl
  ·exact⟨_,he,fun v z=>by cases z⟩
  ·obtain⟨o,e,c,d⟩:=ci;exact⟨o,e,fun v z=>by rw[d] at z;cases z⟩
 keep:=fun n h h' st k=>by obtain⟨⟨old,he⟩,ci⟩:=st;exact⟨⟨old,k e (by simp) _ he⟩,ci.at fun o q=>k it (by simp) o q⟩
 item:=by
  intro X hP hw hK hc n pins s σ H E I hf st hg;subst hP hw hK;obtain⟨⟨old,he⟩,ci⟩:=st;obtain⟨xs,x,hq,hx⟩:=hg;obtain⟨its,rv,p,hz⟩:=I.list hq;obtain⟨u,hu,ru⟩:=rv.get hx;have lne:l≠it:=by rintro rfl;obtain⟨o,q,c1,_⟩:=ci;obtain⟨o',q',c2,_⟩:=p.isList;rw[q] at q';cases q';rw[c1] at c2;exact absurd (Value.type.inj c2) (by decide)
  have hlt:n < its.toArray.size:=by have:=(List.getElem?_eq_some_iff.mp hu).1;simpa using this
  have le:e < s.heap.objs.size:=Heap.lt_size he;have lne2:e≠l:=by rintro rfl;obtain⟨o',q',c2,_⟩:=p.isList;have he':s.heap.get? e=some _:=he;rw[he'] at q';cases q';exact absurd (Value.type.inj c2) (by decide)
  have D:=iI (Draws.list (prog:=X.prog) (w:=X.w) (A:=X.A.in1) (I.ok.hd hc) it l lne its.toArray);refine wpAny_pyNext_enum_itemD (i:=n+1) D he ⟨n,rfl,ci,p.isList⟩ (by omega) hne (by simp[hne,lne2]) fun x' h1 tk px a1 st1 a3 a4 hk=>?_;obtain⟨j1,ej,px⟩:=px;have:j1=n:=by omega
  subst this;obtain⟨j2,ej2,a2,_⟩:=st1;have:j2=j1+1:=by omega
  subst this;have ex:x'=u:=by
   have h1:its.toArray[j1]? = some x':=px;have h2:its.toArray[j1]? = some u:=by simpa using hu
   rw[h1] at h2;exact Option.some.inj h2
  subst ex;refine⟨_,rfl,?_⟩;have hTe:s.heap.objs.size≠e:=Nat.ne_of_gt le;refine wpAny_letOwnedTupleGo_enum (s:={s with heap:=h1,toks:=tk+1}) a1 fun h2 he2 hs2=>?_;have kk:∀ b o,b∉[e,it]->s.heap.get? b=some o->h2.get? b=some o:=fun b o hb q=>by simp only[List.mem_cons,List.not_mem_nil,or_false,not_or] at hb;exact hs2.extBut _ _ hb.1 (hk b o hb.1 hb.2 q)
  have hT:=hs2.extBut _ _ hTe a3;have I2:Inv X pins σ (upd H s.heap.objs.size (.tup [.int ((j1:Int)+1),x])) {s with heap:=h2,toks:=tk+1}:=I.turnsN (t':=tk+1) kk hf (Nat.le_refl _) ⟨by show 2<=sizeLine;decide,[.int ((j1:Int)+1) tk,x'],.cons ⟨_,rfl⟩ (.cons ru .nil),⟨_,hT,rfl,_,rfl⟩⟩;refine⟨.ref s.heap.objs.size,_,I2,rfl,⟨_,x,rfl,I.hok.fresh (Nat.le_refl _),rfl,fun xs' g1=>by rw[I.list_inj g1 hq];exact hx⟩,⟨⟨_,by rw[Int.natCast_succ];exact he2⟩,a2.at fun o q=>hs2.extBut _ _ hne.symm q⟩,fun b hb=>?_⟩;have hb':b < s.heap.objs.size:=by
   simp only[List.mem_cons,List.not_mem_nil,or_false] at hb;rcases hb with rfl|rfl
   ·exact le
   ·obtain⟨o,q,_⟩:=ci;exact Heap.lt_size q
  rw[cG (Nat.ne_of_lt hb')];exact(hf b hb).1
 done:=by
  intro X hP hw hK hc n pins s σ H E I hf st hg;subst hP hw hK;obtain⟨⟨old,he⟩,ci⟩:=st;obtain⟨xs,hq,hx⟩:=hg;obtain⟨its,rv,p,hz⟩:=I.list hq;have l1:=rv.length;have lne:l≠it:=by rintro rfl;obtain⟨o,q,c1,_⟩:=ci;obtain⟨o',q',c2,_⟩:=p.isList;rw[q] at q';cases q';rw[c1] at c2;exact absurd (Value.type.inj c2) (by decide)
  have D:=iI (Draws.list (prog:=X.prog) (w:=X.w) (A:=X.A.in1) (I.ok.hd hc) it l lne its.toArray);have en:n=its.toArray.size:=by rw[<- hx,l1];simp
  refine wpAny_pyNext_enum_endD D he ⟨n,by rw[en],ci,p.isList⟩ fun h1 hk=>⟨rfl,I.turns (t':=s.toks) (ch:=[e,it]) (fun b o hb q=>?_) hf⟩
  simp only[List.mem_cons,List.not_mem_nil,or_false,not_or] at hb;exact hk b o hb.2 q
 self:=fun _ _ _ _ _ st h=>by obtain⟨⟨old,he⟩,_⟩:=st;exact wpAny_pyIter_enum he h
def Ay (K:PySem.W.Frag)(ta:TA):TI:=fun σ H R=>ta σ H fun vs H1=>∃ l xs,vs=[.ref l]/\SqL K H1 l xs/\R (yl K l) H1
set_option maxHeartbeats 2000000 in
theorem qJ {X:Cx}{a:Expr}{ta:TA}{es:List Expr}{c j:Nat}{p tp cp kp pos:Pos}(hg:Gl X "enumerate") (hm:X.mg "enumerate" = none) (ha:PA X [a] ta) (hs:starEach [a] X.env=[(false,eval a X.env)]) :
  PI X (.Tuple es c tp) (.Call (.Name "enumerate" p) [a] [⟨some "start",.Constant (.int 1) j cp,kp⟩] pos) (Ay X.K ta):=by
 intro pins s σ H R I h;refine wpAny_Call_Name_kw (fq I hg hm boot_enumerate (PySem.W.callWith_of (P:=fun _=>True) (by rw[hs];rfl) (fun h _=>⟨.machine,.inr (.inl rfl),.now⟩) (evalArgs_kw2 rfl (thn (ha pos pins s σ H _ I h) fun us s1 ⟨vs,H1,I1,r1,q1⟩=>?_) hs)));obtain⟨l,xs,e,g1,q⟩:=q1;subst e;obtain⟨u,rfl,r⟩:=vals1 r1;cases r;refine thn (ub (nm:=some "start") (kpos:=kp) (qd (j:=j) (pos:=cp) (i:=1)) xZ pos pins s1 σ H1 (fun zs H2=>zs=[.int 1]/\H2=H1) I1 ⟨rfl,rfl⟩) fun ws s2 ⟨zs,H2,I2,rz,e1,e2⟩=>⟨trivial,?_⟩
 subst e1 e2;obtain⟨u2,rfl,r2⟩:=vals1 rz;obtain⟨t,rfl⟩:=r2;obtain⟨its1,rv1,p1,hz⟩:=I2.list g1;refine mV p1.isList fun h2 b1 b2 b4=>?_;refine wpAny_pyIter_enum (s:={s2 with heap:=h2}) b1 ?_;refine⟨s2.heap.objs.size+1,[s2.heap.objs.size+1,s2.heap.objs.size],_,_,_,rfl,I2.kept (t':=s2.toks) b4,mW _ _ l (Nat.succ_ne_self _),⟨⟨_,b1⟩,b2⟩,fun b hb=>?_,q⟩;have hb':s2.heap.objs.size<=b:=by
  simp only[List.mem_cons,List.not_mem_nil,or_false] at hb;rcases hb with rfl|rfl
  ·exact Nat.le_add_right _ _
  ·exact Nat.le_refl _
 exact I2.fpOk hb' (I2.hok.fresh hb')
open PySem.SeqAt
section
variable {X:Cx}
theorem nV:∀ {vs:List Value}{kvs:List (Key×V)},vs.length=kvs.length->(∀ (i:Nat) (v:Value),vs[i]? = some v->∃ k x,kvs[i]? = some (k,x)/\RelV (kV k) v)->Vals (kvs.map fun q=>kV q.1) vs
 | [],[],_,_=>.nil
 | v::vs,q::kvs,hl,h=>by obtain⟨k,x,e,r⟩:=h 0 v rfl;cases e;exact .cons r (nV (by simpa using hl) fun i u hu=>h (i+1) u hu)
 | [],_::_,hl,_=>by simp at hl
 | _::_,[],hl,_=>by simp at hl
theorem i7 (hc:X.calm=true):eS X (.type "list") (fun xs H Q=>∃ (p:Addr) (kvs:List (Key×V)),xs=[.ref p]/\Rd H p (.dK kvs)/\∀ l,H l=none->Q (.ref l) (upd H l (.lst (kvs.map fun q=>kV q.1)))):=by
 intro pins s σ H xs us Q I r h;obtain⟨p,kvs,rfl,hp,q⟩:=h;obtain⟨u,rfl,rx⟩:=vals1 r;cases rx;obtain⟨hz,lo,vs,o,es,ep,kv,ho,hd,hm⟩:=I.dct hp;have hv:=kv.len;refine PySem.W.kdl_call (PySem.W.kdl_dict lo) (I.ok.hd hc) hm (by rw[<- hv];exact hz) fun h' tk acc c k e hacc=>?_;have rv:Vals (kvs.map fun q=>kV q.1) acc.toList:=nV (by rw[Array.length_toList,hacc.1];exact hv.symm) fun i v hi=>by obtain⟨k,x,e1,e2⟩:=hacc.2 i v (by rw[<- Array.getElem?_toList];exact hi);obtain⟨y,e3,_⟩:=kv.at e1;exact⟨k,y,e3,yk e2⟩
 have J:=I.laid (t':=tk) (o:=.lst (kvs.map fun q=>kV q.1)) k (Nat.le_refl _) (show du X.prog X.w _ _ _ (.lst _) from ⟨by rw[List.length_map];exact hz,acc.toList,c,rv,by simpa using e⟩);exact⟨.ref _,_,J,rfl,q _ (I.hok.fresh (Nat.le_refl _))⟩
end
structure EX where
 c:Str
 x:Str
 ts:List Str
inductive D where
 | non|bl (b:Bool)|int (i:Int)|str (x:Str)|tup (ds:List D)|lst (own:Bool) (ds:List D)|exc (c:EX)|dct (own:Bool) (ks:List Key) (ds:List D)|obj (own:Bool) (c:Str) (ks:List Str) (ds:List D)
 deriving Inhabited
mutual
noncomputable def er:D->D
 | .tup ds=>.tup (ers ds)
 | .lst _ ds=>.lst false (ers ds)
 | .dct _ ks ds=>.dct false ks (ers ds)
 | .obj _ c ks ds=>.obj false c ks (ers ds)
 | .non=>.non
 | .bl b=>.bl b
 | .int i=>.int i
 | .str x=>.str x
 | .exc c=>.exc c
noncomputable def ers:List D->List D
 | []=>[]
 | d::ds=>er d::ers ds
end
mutual
noncomputable def dP:D->Bool
 | .lst o ds=>o&&d7 ds
 | .tup ds=>d7 ds
 | .dct o _ ds=>o&&d7 ds
 | .obj o _ _ ds=>o&&d7 ds
 | .non=>true
 | .bl _=>true
 | .int _=>true
 | .str _=>true
 | .exc _=>true
noncomputable def d7:List D->Bool
 | []=>true
 | d::ds=>dP d&&d7 ds
end
mutual
noncomputable def dE:D->Bool
 | .tup ds=>cU ds
 | .lst _ _=>false
 | .dct _ _ _=>false
 | .obj _ _ _ _=>false
 | .non=>true
 | .bl _=>true
 | .int _=>true
 | .str _=>true
 | .exc _=>true
noncomputable def cU:List D->Bool
 | []=>true
 | d::ds=>dE d&&cU ds
end
theorem eZ:∀ ds:List D,ers ds=ds.map er
 | []=>rfl
 | d::ds=>by rw[ers,eZ ds];rfl
theorem gI:∀ ds:List D,cU ds=ds.all dE
 | []=>rfl
 | d::ds=>by rw[cU,gI ds];rfl
theorem de (ds:List D):(ers ds).length=ds.length:=by rw[eZ,List.length_map]
mutual
theorem lH:∀ {d:D},dE d=true->er d=d
 | .non,_=>rfl
 | .bl _,_=>rfl
 | .int _,_=>rfl
 | .str _,_=>rfl
 | .exc _,_=>rfl
 | .tup ds,h=>by rw[er,fU (ds:=ds) h]
 | .lst o ds,h=>by cases (show false=true from h)
 | .dct o ks ds,h=>by cases (show false=true from h)
 | .obj o c ks ds,h=>by cases (show false=true from h)
theorem fU:∀ {ds:List D},cU ds=true->ers ds=ds
 | [],_=>rfl
 | d::ds,h=>by have h':(dE d&&cU ds)=true:=h;rw[Bool.and_eq_true] at h';rw[ers,lH h'.1,fU h'.2]
end
mutual
theorem vO:∀ d:D,er (er d)=er d
 | .non=>rfl
 | .bl _=>rfl
 | .int _=>rfl
 | .str _=>rfl
 | .exc _=>rfl
 | .tup ds=>by rw[er,er,fV ds]
 | .lst _ ds=>by rw[er,er,fV ds]
 | .dct _ ks ds=>by rw[er,er,fV ds]
 | .obj _ c ks ds=>by rw[er,er,fV ds]
theorem fV:∀ ds:List D,ers (ers ds)=ers ds
 | []=>rfl
 | d::ds=>by rw[ers,ers,vO d,fV ds]
end
inductive Exc where
 | stuck|exc (c:EX)
noncomputable abbrev Res (α:Type):=Except Exc α
noncomputable abbrev stk {α:Type}:Res α:=.error .stuck
noncomputable def bnd {α β:Type}(x:Res α)(f:α->Res β):Res β:=match x with
 | .ok a=>f a
 | .error e=>.error e
noncomputable def grd {α:Type}(c:Bool)(x:Res α):Res α:=if c=true then x else stk
def PO' {α:Type}(ex:EX->Prop)(x:Res α)(k:α->Prop):Prop:=match x with
 | .ok a=>k a
 | .error (.exc c)=>ex c
 | .error .stuck=>False
theorem PO'.bnd {α β:Type}{ex:EX->Prop}{x:Res α}{f:α->Res β}{k:β->Prop}(h:PO' ex (bnd x f) k):PO' ex x fun a=>PO' ex (f a) k:=by
 cases x with
 | ok a=>exact h
 | error e=>cases e<;>exact h
theorem PO'.grd {α:Type}{ex:EX->Prop}{c:Bool}{x:Res α}{k:α->Prop}(h:PO' ex (grd c x) k):c=true/\PO' ex x k:=by
 unfold L2.grd at h
 induction c using zB with
 | true=>exact⟨rfl,h⟩
 | false=>exact False.elim h
theorem PO'.mono {α:Type}{ex:EX->Prop}{x:Res α}{k k':α->Prop}(h:PO' ex x k)(m:∀ a,k a->k' a):PO' ex x k':=by
 cases x with
 | ok a=>exact m a h
 | error e=>cases e<;>exact h
theorem PO'.mk {α β:Type}{ex:EX->Prop}{x:Res α}{f:α->Res β}{k:β->Prop}(h:PO' ex x fun a=>PO' ex (f a) k):PO' ex (L2.bnd x f) k:=by
 cases x with
 | ok a=>exact h
 | error e=>cases e<;>exact h
theorem PO'.eq {α:Type}{ex:EX->Prop}{x:Res α}{k:α->Prop}(h:PO' ex x k):PO' ex x fun a=>x=.ok a/\k a:=by
 cases x with
 | ok a=>exact⟨rfl,h⟩
 | error e=>cases e<;>exact h
theorem PO'.ok {α:Type}{ex:EX->Prop}{a:α}{k:α->Prop}(h:PO' ex (.ok a:Res α) k):k a:=h
theorem PO'.no {α:Type}{ex:EX->Prop}{k:α->Prop}(h:PO' ex (stk:Res α) k):False:=h
inductive LD where
 | l (xs:List V)|d (kvs:List (Key×V))|i (C dx:Addr) (fs:List (Str×V))
noncomputable abbrev LD.o:LD->HO
 | .l xs=>.lst xs
 | .d kvs=>.dK kvs
 | .i C dx fs=>.ins C dx fs
theorem KL.sq {K:PySem.W.Frag}{H:Hp}{a:Addr}{xs:List V}(h:KL K a xs):SqL K H a xs:=by obtain⟨its,n,h1,h2,h3⟩:=h;exact .inr ⟨_,its.toArray,n,h1,rfl,rfl,rfl,by simpa using h2,by simpa using h3⟩
theorem Inv.ls {X:Cx}{pins:List (Addr×Obj)}{σ:St}{H:Hp}{s:Shared}{a:Addr}{xs:List V}(I:Inv X pins σ H s)(h:Ls X.K H a xs) :
  xs.length<=sizeLine/\∃ (its:List Value) (n:Nat),Vals xs its/\s.heap.get? a=some {cls:=.type "list",data:=.seq its.toArray n}:=by
 rcases h with h|⟨its,n,h1,h2,h3⟩
 ·obtain⟨z,its,n,r,e⟩:=h.ok I.hok;exact⟨z,its,n,r,e⟩
 ·exact⟨by rw[h3.length];exact h2,its,n,h3,I.kIn _ _ h1⟩
noncomputable def nameIn (K:PySem.W.Frag)(C:Addr):Option Str:=match K.lookup C with
 | some ⟨_,_,.cls cd,_⟩=>some cd.name
 | _=>none
noncomputable def XU:HO:=.ext fun _=>True
def NsO (od:Obj)(x:Str)(v:Value):Prop:=∀ (h:Heap) (d:Addr),h.get? d=some od->h.Ns1 d (fun y=>if y=x then some v else none)
def XF (K:PySem.W.Frag)(H:Hp)(dx:Option Addr)(c:EX):Prop:=∃ d t od,dx=some d/\H d=some (.frz od XU)/\NsO od c.x (.ref t)/\SqT K H t (c.ts.map .str)
structure Cl (H H':Hp):Prop where
 f:∀ b o,H b=some (.frz o XU)->H' b=some (.frz o XU)
 t:∀ b xs,Rd H b (.tup xs)->Rd H' b (.tup xs)
theorem Cl.sq {K:PySem.W.Frag}{H H':Hp}{a:Addr}{xs:List V}(k:Cl H H')(h:SqT K H a xs):SqT K H' a xs:=h.elim (fun h=>.inl (k.t _ _ h)) .inr
theorem Cl.xf {K:PySem.W.Frag}{H H':Hp}{dx:Option Addr}{c:EX}(k:Cl H H')(h:XF K H dx c):XF K H' dx c:=by obtain⟨d,t,od,h1,h2,h3,h4⟩:=h;exact⟨d,t,od,h1,k.f _ _ h2,h3,k.sq h4⟩
theorem Cl.trans {H H1 H2:Hp}(a:Cl H H1)(b:Cl H1 H2):Cl H H2:=⟨fun c o h=>b.f c o (a.f c o h),fun c xs h=>b.t c xs (a.t c xs h)⟩
def XO (K:PySem.W.Frag)(H:Hp)(a:Addr)(c:EX):Prop:=∃ (C:Addr) (o:Obj) (vs:Array Value),PySem.W.nsIn K mainGlobals c.c=some (some (.ref C))/\nameIn K C=some c.c/\H a=some (.frz o XU)/\o.cls=.ref C/\o.data=.fields vs/\XF K H o.dict c
noncomputable def SqE (K:PySem.W.Frag)(H:Hp)(a:Addr):List V ⊕ EX->Prop
 | .inl xs=>SqT K H a xs
 | .inr c=>XO K H a c
def OC (K:PySem.W.Frag)(c:Str)(C:Addr):Prop:=PySem.W.nsIn K mainGlobals c=some (some (.ref C))/\nameIn K C=some c
mutual
inductive HRep (K:PySem.W.Frag)(S:Addr->Prop)(H:Hp):V->D->Prop where
 | non:HRep K S H .non .non
 | bl (b:Bool):HRep K S H (.bl b) (.bl b)
 | int (i:Int):HRep K S H (.int i) (.int i)
 | str (x:Str):HRep K S H (.str x) (.str x)
 | exc {a:Addr}{c:EX}:SqE K H a (.inr c)->HRep K S H (.ref a) (.exc c)
 | tup {a:Addr}{xs:List V}{ds:List D}:SqT K H a xs->HReps K S H xs ds->HRep K S H (.ref a) (.tup ds)
 | lst {a:Addr}{xs:List V}{o:Bool}{ds:List D}:S a->Rd H a (.lst xs)->HReps K S H xs ds->HRep K S H (.ref a) (.lst o ds)
 | lstK {a:Addr}{xs:List V}{o:Bool}{ds:List D}:KL K a xs->HReps K S H xs ds->HRep K S H (.ref a) (.lst o ds)
 | dct {a:Addr}{kvs:List (Key×V)}{o:Bool}{ks:List Key}{ds:List D}:S a->Rd H a (.dK kvs)->kvs.map (·.1)=ks->HReps K S H (kvs.map (·.2)) ds->HRep K S H (.ref a) (.dct o ks ds)
 | obj {a C dx:Addr}{fs:List (Str×V)}{o:Bool}{c:Str}{ks:List Str}{ds:List D}:S a->Rd H a (.ins C dx fs)->OC K c C/\fs.map (·.1)=ks->HReps K S H (fs.map (·.2)) ds->HRep K S H (.ref a) (.obj o c ks ds)
inductive HReps (K:PySem.W.Frag)(S:Addr->Prop)(H:Hp):List V->List D->Prop where
 | nil:HReps K S H [] []
 | cons {v:V}{d:D}{vs:List V}{ds:List D}:HRep K S H v d->HReps K S H vs ds->HReps K S H (v::vs) (d::ds)
end
mutual
inductive MRep (K:PySem.W.Frag)(F:Addr->Prop)(H:Hp):V->D->List Addr->Prop where
 | non:MRep K F H .non .non []
 | bl (b:Bool):MRep K F H (.bl b) (.bl b) []
 | int (i:Int):MRep K F H (.int i) (.int i) []
 | str (x:Str):MRep K F H (.str x) (.str x) []
 | exc {a:Addr}{c:EX}:SqE K H a (.inr c)->MRep K F H (.ref a) (.exc c) []
 | tup {a:Addr}{xs:List V}{ds:List D}{f:List Addr}:SqT K H a xs->MReps K F H xs ds f->MRep K F H (.ref a) (.tup ds) f
 | lstS {a:Addr}{xs:List V}{ds:List D}:F a->Rd H a (.lst xs)->MReps K F H xs ds []->MRep K F H (.ref a) (.lst false ds) []
 | lstK {a:Addr}{xs:List V}{ds:List D}:KL K a xs->MReps K F H xs ds []->MRep K F H (.ref a) (.lst false ds) []
 | lstO {a:Addr}{xs:List V}{ds:List D}{f:List Addr}:¬ F a->H a=some (.lst xs)->MReps K F H xs ds f->MRep K F H (.ref a) (.lst true ds) (a::f)
 | dctS {a:Addr}{kvs:List (Key×V)}{ks:List Key}{ds:List D}:F a->Rd H a (.dK kvs)->kvs.map (·.1)=ks->MReps K F H (kvs.map (·.2)) ds []->MRep K F H (.ref a) (.dct false ks ds) []
 | dctO {a:Addr}{kvs:List (Key×V)}{ks:List Key}{ds:List D}{f:List Addr}:¬ F a->H a=some (.dK kvs)->kvs.map (·.1)=ks->MReps K F H (kvs.map (·.2)) ds f->MRep K F H (.ref a) (.dct true ks ds) (a::f)
 | objS {a C dx:Addr}{fs:List (Str×V)}{c:Str}{ks:List Str}{ds:List D}:F a->Rd H a (.ins C dx fs)->OC K c C/\fs.map (·.1)=ks->MReps K F H (fs.map (·.2)) ds []->MRep K F H (.ref a) (.obj false c ks ds) []
 | objO {a C dx:Addr}{fs:List (Str×V)}{c:Str}{ks:List Str}{ds:List D}{f:List Addr}:¬ F a->¬ F dx->H a=some (.ins C dx fs)->H dx=some (.own a)->OC K c C/\fs.map (·.1)=ks->MReps K F H (fs.map (·.2)) ds f->MRep K F H (.ref a) (.obj true c ks ds) (a::dx::f)
inductive MReps (K:PySem.W.Frag)(F:Addr->Prop)(H:Hp):List V->List D->List Addr->Prop where
 | nil:MReps K F H [] [] []
 | cons {v:V}{d:D}{f:List Addr}{vs:List V}{ds:List D}{g:List Addr}:MRep K F H v d f->MReps K F H vs ds g->MReps K F H (v::vs) (d::ds) (f++g)
end
theorem cO.rd {H H':Hp}{a:Addr}{u:HO}(e:cO H H')(h:Rd H a u):Rd H' a u:=by
 rcases h with h|⟨o,h⟩
 ·exact .inl (e _ _ h)
 ·exact .inr ⟨o,e _ _ h⟩
theorem cO.cl {H H':Hp}(e:cO H H'):Cl H H':=⟨fun _ _ h=>e _ _ h,fun _ _ h=>e.rd h⟩
theorem kx {H:Hp}{l:Addr}{o':HO}(h1:∀ o,H l≠some (.frz o XU))(h2:∀ xs,¬ Rd H l (.tup xs)):Cl H (upd H l o'):=by
 refine⟨fun b o h=>?_,fun b xs h=>?_⟩
 ·have:b≠l:=by rintro rfl;exact h1 o h
  rw[cG this];exact h
 ·have:b≠l:=by rintro rfl;exact h2 xs h
  unfold Rd;rw[cG this];exact h
theorem SqE.cl {K:PySem.W.Frag}{H H':Hp}{a:Addr}{xs:List V ⊕ EX}(k:Cl H H')(h:SqE K H a xs):SqE K H' a xs:=by
 cases xs with
 | inl xs=>exact k.sq h
 | inr c=>obtain⟨C,o,vs,h0,h1,h2,h3,h4,h5⟩:=h;exact⟨C,o,vs,h0,h1,k.f _ _ h2,h3,h4,k.xf h5⟩
theorem cO.seqT {K:PySem.W.Frag}{H H':Hp}{a:Addr}{xs:List V ⊕ EX}(e:cO H H')(h:SqE K H a xs):SqE K H' a xs:=h.cl e.cl
theorem mY {H:Hp}{l:Addr}{ys:List V}{o':HO}(hl:H l=some (.lst ys)):Cl H (upd H l o'):=
 kx (fun o z=>by rw[hl] at z;cases z) fun xs z=>by rcases z with z|⟨o,z⟩<;>(rw[hl] at z;cases z)
theorem SqE.upd {K:PySem.W.Frag}{H:Hp}{a l:Addr}{xs:List V ⊕ EX}{ys zs:List V}(hl:H l=some (.lst ys))(h:SqE K H a xs):SqE K (upd H l (.lst zs)) a xs:=h.cl (mY hl)
theorem Rd.some {H:Hp}{a:Addr}{u:HO}(h:Rd H a u):H a≠none:=by rcases h with h|⟨o,h⟩<;>(rw[h];simp)
section
variable {K:PySem.W.Frag}{S S' F F':Addr->Prop}{H H':Hp}
theorem HRep.step (hl:∀ a (u:LD),S a->Rd H a u.o->S' a/\Rd H' a u.o)(ht:∀ a xs,SqE K H a xs->SqE K H' a xs){v:V}{d:D}(h:HRep K S H v d):HRep K S' H' v d:=
 HRep.rec (motive_1:=fun v d _=>HRep K S' H' v d) (motive_2:=fun v d _=>HReps K S' H' v d) .non .bl .int .str (fun h=>.exc (ht _ (.inr _) h)) (fun h1 _ i=>.tup (ht _ (.inl _) h1) i)
  (fun h0 h1 _ i=>.lst (hl _ (.l _) h0 h1).1 (hl _ (.l _) h0 h1).2 i) (fun h1 _ i=>.lstK h1 i) (fun h0 h1 h2 _ i=>.dct (hl _ (.d _) h0 h1).1 (hl _ (.d _) h0 h1).2 h2 i) (fun h0 h1 h2 _ i=>.obj (hl _ (.i _ _ _) h0 h1).1 (hl _ (.i _ _ _) h0 h1).2 h2 i) .nil (fun _ _ i j=>.cons i j) h
theorem HReps.step (hl:∀ a (u:LD),S a->Rd H a u.o->S' a/\Rd H' a u.o)(ht:∀ a xs,SqE K H a xs->SqE K H' a xs){v:List V}{d:List D}(h:HReps K S H v d):HReps K S' H' v d:=
 HReps.rec (motive_1:=fun v d _=>HRep K S' H' v d) (motive_2:=fun v d _=>HReps K S' H' v d) .non .bl .int .str (fun h=>.exc (ht _ (.inr _) h)) (fun h1 _ i=>.tup (ht _ (.inl _) h1) i)
  (fun h0 h1 _ i=>.lst (hl _ (.l _) h0 h1).1 (hl _ (.l _) h0 h1).2 i) (fun h1 _ i=>.lstK h1 i) (fun h0 h1 h2 _ i=>.dct (hl _ (.d _) h0 h1).1 (hl _ (.d _) h0 h1).2 h2 i) (fun h0 h1 h2 _ i=>.obj (hl _ (.i _ _ _) h0 h1).1 (hl _ (.i _ _ _) h0 h1).2 h2 i) .nil (fun _ _ i j=>.cons i j) h
theorem HRep.mono {v:V}{d:D}(h:HRep K S H v d)(hS:∀ a,S a->S' a)(e:cO H H'):HRep K S' H' v d:=h.step (fun a xs s r=>⟨hS a s,e.rd r⟩) fun a xs s=>e.seqT s
theorem HReps.mono {v:List V}{d:List D}(h:HReps K S H v d)(hS:∀ a,S a->S' a)(e:cO H H'):HReps K S' H' v d:=h.step (fun a xs s r=>⟨hS a s,e.rd r⟩) fun a xs s=>e.seqT s
theorem HReps.tight {v:List V}{d:List D}(h:HReps K S H v d):HReps K (fun a=>S a/\H a≠none) H v d:=h.step (fun a xs s r=>⟨⟨s,r.some⟩,r⟩) fun a xs s=>s
theorem HRep.frozen {v:V}{d:D}(h:HRep K F H v d):MRep K F H v (L2.er d) []:=
 HRep.rec (motive_1:=fun v d _=>MRep K F H v (L2.er d) []) (motive_2:=fun v d _=>MReps K F H v (L2.ers d) []) .non .bl .int .str (fun h=>.exc h) (fun h1 _ i=>.tup h1 i) (fun h0 h1 _ i=>.lstS h0 h1 i) (fun h1 _ i=>.lstK h1 i) (fun h0 h1 h2 _ i=>.dctS h0 h1 h2 i) (fun h0 h1 h2 _ i=>.objS h0 h1 h2 i) .nil (fun _ _ i j=>.cons (f:=[]) (g:=[]) i j) h
theorem HReps.frozen {v:List V}{d:List D}(h:HReps K F H v d):MReps K F H v (L2.ers d) []:=
 HReps.rec (motive_1:=fun v d _=>MRep K F H v (L2.er d) []) (motive_2:=fun v d _=>MReps K F H v (L2.ers d) []) .non .bl .int .str (fun h=>.exc h) (fun h1 _ i=>.tup h1 i) (fun h0 h1 _ i=>.lstS h0 h1 i) (fun h1 _ i=>.lstK h1 i) (fun h0 h1 h2 _ i=>.dctS h0 h1 h2 i) (fun h0 h1 h2 _ i=>.objS h0 h1 h2 i) .nil (fun _ _ i j=>.cons (f:=[]) (g:=[]) i j) h
theorem pN {a b:Bool}(h:(a&&b)=true):a=true/\b=true:=by rwa [Bool.and_eq_true] at h
theorem HRep.free {v:V}{d:D}(n:dE d=true)(h:HRep K S H v d):MRep K F H v d []:=
 HRep.rec (motive_1:=fun v d _=>dE d=true->MRep K F H v d []) (motive_2:=fun v d _=>cU d=true->MReps K F H v d []) (fun _=>.non) (fun b _=>.bl b) (fun b _=>.int b) (fun b _=>.str b) (fun h _=>.exc h) (fun h1 _ i n=>.tup h1 (i n)) (fun _ _ _ _ n=>nomatch n) (fun _ _ _ n=>nomatch n) (fun _ _ _ _ _ n=>nomatch n) (fun _ _ _ _ _ n=>nomatch n) (fun _=>.nil) (fun _ _ i j n=>.cons (f:=[]) (g:=[]) (i (pN n).1) (j (pN n).2)) h n
theorem HReps.free {v:List V}{d:List D}(n:cU d=true)(h:HReps K S H v d):MReps K F H v d []:=
 HReps.rec (motive_1:=fun v d _=>dE d=true->MRep K F H v d []) (motive_2:=fun v d _=>cU d=true->MReps K F H v d []) (fun _=>.non) (fun b _=>.bl b) (fun b _=>.int b) (fun b _=>.str b) (fun h _=>.exc h) (fun h1 _ i n=>.tup h1 (i n)) (fun _ _ _ _ n=>nomatch n) (fun _ _ _ n=>nomatch n) (fun _ _ _ _ _ n=>nomatch n) (fun _ _ _ _ _ n=>nomatch n) (fun _=>.nil) (fun _ _ i j n=>.cons (f:=[]) (g:=[]) (i (pN n).1) (j (pN n).2)) h n
theorem dO {p:Addr->Prop}:∀ a∈([]:List Addr),p a:=fun _ h=>nomatch h
theorem MRep.read {v:V}{d:D}{f:List Addr}(hF:∀ a,F a->S a)(hf:∀ a∈f,S a)(h:MRep K F H v d f):HRep K S H v d:=
 MRep.rec (motive_1:=fun v d f _=>(∀ a∈f,S a)->HRep K S H v d) (motive_2:=fun v d f _=>(∀ a∈f,S a)->HReps K S H v d) (fun _=>.non) (fun b _=>.bl b) (fun b _=>.int b) (fun b _=>.str b) (fun h _=>.exc h) (fun h1 _ i hf=>.tup h1 (i hf))
  (fun h0 h1 _ i _=>.lst (hF _ h0) h1 (i dO)) (fun h1 _ i _=>.lstK h1 (i dO)) (fun _ h1 _ i hf=>.lst (hf _ (.head _)) (.inl h1) (i fun b hb=>hf b (.tail _ hb))) (fun h0 h1 h2 _ i _=>.dct (hF _ h0) h1 h2 (i dO)) (fun _ h1 h2 _ i hf=>.dct (hf _ (.head _)) (.inl h1) h2 (i fun b hb=>hf b (.tail _ hb))) (fun h0 h1 h2 _ i _=>.obj (hF _ h0) h1 h2 (i dO)) (fun _ _ h1 _ h2 _ i hf=>.obj (hf _ (.head _)) (.inl h1) h2 (i fun b hb=>hf b (.tail _ (.tail _ hb)))) (fun _=>.nil)
  (fun _ _ i j hf=>.cons (i fun a ha=>hf a (List.mem_append_left _ ha)) (j fun a ha=>hf a (List.mem_append_right _ ha))) h hf
theorem MReps.read {v:List V}{d:List D}{f:List Addr}(hF:∀ a,F a->S a)(hf:∀ a∈f,S a)(h:MReps K F H v d f):HReps K S H v d:=
 MReps.rec (motive_1:=fun v d f _=>(∀ a∈f,S a)->HRep K S H v d) (motive_2:=fun v d f _=>(∀ a∈f,S a)->HReps K S H v d) (fun _=>.non) (fun b _=>.bl b) (fun b _=>.int b) (fun b _=>.str b) (fun h _=>.exc h) (fun h1 _ i hf=>.tup h1 (i hf))
  (fun h0 h1 _ i _=>.lst (hF _ h0) h1 (i dO)) (fun h1 _ i _=>.lstK h1 (i dO)) (fun _ h1 _ i hf=>.lst (hf _ (.head _)) (.inl h1) (i fun b hb=>hf b (.tail _ hb))) (fun h0 h1 h2 _ i _=>.dct (hF _ h0) h1 h2 (i dO)) (fun _ h1 h2 _ i hf=>.dct (hf _ (.head _)) (.inl h1) h2 (i fun b hb=>hf b (.tail _ hb))) (fun h0 h1 h2 _ i _=>.obj (hF _ h0) h1 h2 (i dO)) (fun _ _ h1 _ h2 _ i hf=>.obj (hf _ (.head _)) (.inl h1) h2 (i fun b hb=>hf b (.tail _ (.tail _ hb)))) (fun _=>.nil)
  (fun _ _ i j hf=>.cons (i fun a ha=>hf a (List.mem_append_left _ ha)) (j fun a ha=>hf a (List.mem_append_right _ ha))) h hf
theorem dD {α:Type}{x:Option α}{y:α}(h:x=some y):x≠none:=fun e=>nomatch h.symm.trans e
theorem MRep.step (hl:∀ a (u:LD),F a->Rd H a u.o->F' a/\Rd H' a u.o)(ht:∀ a xs,SqE K H a xs->SqE K H' a xs){v:V}{d:D}{f:List Addr}(k:∀ a∈f,¬ F a->H a≠none->¬ F' a/\H' a=H a)
  (h:MRep K F H v d f):MRep K F' H' v d f:=
 MRep.rec (motive_1:=fun v d f _=>(∀ a∈f,¬ F a->H a≠none->¬ F' a/\H' a=H a)->MRep K F' H' v d f) (motive_2:=fun v d f _=>(∀ a∈f,¬ F a->H a≠none->¬ F' a/\H' a=H a)->MReps K F' H' v d f) (fun _=>.non) (fun b _=>.bl b) (fun b _=>.int b) (fun b _=>.str b)
  (fun h _=>.exc (ht _ (.inr _) h)) (fun h1 _ i k=>.tup (ht _ (.inl _) h1) (i k)) (fun h0 h1 _ i _=>.lstS (hl _ (.l _) h0 h1).1 (hl _ (.l _) h0 h1).2 (i dO)) (fun h1 _ i _=>.lstK h1 (i dO))
  (fun h0 h1 _ i k=>.lstO (k _ (.head _) h0 (dD h1)).1 ((k _ (.head _) h0 (dD h1)).2.trans h1) (i fun b hb=>k b (.tail _ hb))) (fun h0 h1 h2 _ i _=>.dctS (hl _ (.d _) h0 h1).1 (hl _ (.d _) h0 h1).2 h2 (i dO)) (fun h0 h1 h2 _ i k=>.dctO (k _ (.head _) h0 (dD h1)).1 ((k _ (.head _) h0 (dD h1)).2.trans h1) h2 (i fun b hb=>k b (.tail _ hb))) (fun h0 h1 h2 _ i _=>.objS (hl _ (.i _ _ _) h0 h1).1 (hl _ (.i _ _ _) h0 h1).2 h2 (i dO)) (fun h0 h0' h1 h1' h2 _ i k=>.objO (k _ (.head _) h0 (dD h1)).1 (k _ (.tail _ (.head _)) h0' (dD h1')).1 ((k _ (.head _) h0 (dD h1)).2.trans h1) ((k _ (.tail _ (.head _)) h0' (dD h1')).2.trans h1') h2 (i fun b hb=>k b (.tail _ (.tail _ hb)))) (fun _=>.nil)
  (fun _ _ i j k=>.cons (i fun a ha=>k a (List.mem_append_left _ ha)) (j fun a ha=>k a (List.mem_append_right _ ha))) h k
theorem MReps.step (hl:∀ a (u:LD),F a->Rd H a u.o->F' a/\Rd H' a u.o)(ht:∀ a xs,SqE K H a xs->SqE K H' a xs){v:List V}{d:List D}{f:List Addr}(k:∀ a∈f,¬ F a->H a≠none->¬ F' a/\H' a=H a)
  (h:MReps K F H v d f):MReps K F' H' v d f:=
 MReps.rec (motive_1:=fun v d f _=>(∀ a∈f,¬ F a->H a≠none->¬ F' a/\H' a=H a)->MRep K F' H' v d f) (motive_2:=fun v d f _=>(∀ a∈f,¬ F a->H a≠none->¬ F' a/\H' a=H a)->MReps K F' H' v d f) (fun _=>.non) (fun b _=>.bl b) (fun b _=>.int b) (fun b _=>.str b)
  (fun h _=>.exc (ht _ (.inr _) h)) (fun h1 _ i k=>.tup (ht _ (.inl _) h1) (i k)) (fun h0 h1 _ i _=>.lstS (hl _ (.l _) h0 h1).1 (hl _ (.l _) h0 h1).2 (i dO)) (fun h1 _ i _=>.lstK h1 (i dO))
  (fun h0 h1 _ i k=>.lstO (k _ (.head _) h0 (dD h1)).1 ((k _ (.head _) h0 (dD h1)).2.trans h1) (i fun b hb=>k b (.tail _ hb))) (fun h0 h1 h2 _ i _=>.dctS (hl _ (.d _) h0 h1).1 (hl _ (.d _) h0 h1).2 h2 (i dO)) (fun h0 h1 h2 _ i k=>.dctO (k _ (.head _) h0 (dD h1)).1 ((k _ (.head _) h0 (dD h1)).2.trans h1) h2 (i fun b hb=>k b (.tail _ hb))) (fun h0 h1 h2 _ i _=>.objS (hl _ (.i _ _ _) h0 h1).1 (hl _ (.i _ _ _) h0 h1).2 h2 (i dO)) (fun h0 h0' h1 h1' h2 _ i k=>.objO (k _ (.head _) h0 (dD h1)).1 (k _ (.tail _ (.head _)) h0' (dD h1')).1 ((k _ (.head _) h0 (dD h1)).2.trans h1) ((k _ (.tail _ (.head _)) h0' (dD h1')).2.trans h1') h2 (i fun b hb=>k b (.tail _ (.tail _ hb)))) (fun _=>.nil)
  (fun _ _ i j k=>.cons (i fun a ha=>k a (List.mem_append_left _ ha)) (j fun a ha=>k a (List.mem_append_right _ ha))) h k
theorem lI {p:Addr->Prop}{x:Addr}{f:List Addr}(h:p x)(i:∀ a∈f,p a):∀ a∈x::f,p a:=by
 intro b hb;rcases List.mem_cons.mp hb with rfl|hb
 ·exact h
 ·exact i b hb
theorem Az {p:Addr->Prop}{f g:List Addr}(h:∀ a∈f,p a)(i:∀ a∈g,p a):∀ a∈f++g,p a:=fun b hb=>(List.mem_append.mp hb).elim (h b) (i b)
theorem MRep.own {v:V}{d:D}{f:List Addr}(h:MRep K F H v d f):∀ a∈f,¬ F a/\∃ u,H a=some u:=
 MRep.rec (motive_1:=fun _ _ f _=>∀ a∈f,¬ F a/\∃ u,H a=some u) (motive_2:=fun _ _ f _=>∀ a∈f,¬ F a/\∃ u,H a=some u) dO (fun _=>dO) (fun _=>dO) (fun _=>dO) (fun _=>dO) (fun _ _ i=>i) (fun _ _ _ _=>dO) (fun _ _ _=>dO)
  (fun h0 h1 _ i=>lI ⟨h0,_,h1⟩ i) (fun _ _ _ _ _=>dO) (fun h0 h1 _ _ i=>lI ⟨h0,_,h1⟩ i) (fun _ _ _ _ _=>dO) (fun h0 h0' h1 h1' _ _ i=>lI ⟨h0,_,h1⟩ (lI ⟨h0',_,h1'⟩ i)) dO (fun _ _ i j=>Az i j) h
theorem MReps.own {v:List V}{d:List D}{f:List Addr}(h:MReps K F H v d f):∀ a∈f,¬ F a/\∃ u,H a=some u:=
 MReps.rec (motive_1:=fun _ _ f _=>∀ a∈f,¬ F a/\∃ u,H a=some u) (motive_2:=fun _ _ f _=>∀ a∈f,¬ F a/\∃ u,H a=some u) dO (fun _=>dO) (fun _=>dO) (fun _=>dO) (fun _=>dO) (fun _ _ i=>i) (fun _ _ _ _=>dO) (fun _ _ _=>dO)
  (fun h0 h1 _ i=>lI ⟨h0,_,h1⟩ i) (fun _ _ _ _ _=>dO) (fun h0 h1 _ _ i=>lI ⟨h0,_,h1⟩ i) (fun _ _ _ _ _=>dO) (fun h0 h0' h1 h1' _ _ i=>lI ⟨h0,_,h1⟩ (lI ⟨h0',_,h1'⟩ i)) dO (fun _ _ i j=>Az i j) h
def dB (H:Hp)(f:List Addr):Prop:=∀ c∈f,(∃ u:LD,H c=some u.o/\∀ C dx fs,u=.i C dx fs->dx∈f)∨∃ a∈f,H c=some (.own a)
theorem dB.cons {a:Addr}{u:LD}{f:List Addr}(h:H a=some u.o)(n:∀ C dx fs,u≠.i C dx fs)(i:dB H f):dB H (a::f):=fun c hc=>by
 rcases List.mem_cons.mp hc with rfl|hc
 ·exact .inl ⟨u,h,fun C dx fs e=>(n C dx fs e).elim⟩
 ·rcases i c hc with ⟨u,h1,h2⟩|⟨a,h1,h2⟩
  ·exact .inl ⟨u,h1,fun C dx fs e=>.tail _ (h2 C dx fs e)⟩
  ·exact .inr ⟨a,.tail _ h1,h2⟩
theorem dB.obj {a C dx:Addr}{fs:List (Str×V)}{f:List Addr}(h:H a=some (.ins C dx fs))(h':H dx=some (.own a))(i:dB H f):dB H (a::dx::f):=fun c hc=>by
 rcases List.mem_cons.mp hc with rfl|hc
 ·exact .inl ⟨.i C dx fs,h,fun C' dx' fs' e=>by cases e;exact .tail _ (.head _)⟩
 ·rcases List.mem_cons.mp hc with rfl|hc
  ·exact .inr ⟨a,.head _,h'⟩
  ·rcases i c hc with ⟨u,h1,h2⟩|⟨a,h1,h2⟩
   ·exact .inl ⟨u,h1,fun C dx fs e=>.tail _ (.tail _ (h2 C dx fs e))⟩
   ·exact .inr ⟨a,.tail _ (.tail _ h1),h2⟩
theorem dB.app {f g:List Addr}(i:dB H f)(j:dB H g):dB H (f++g):=fun c hc=>by
 rcases List.mem_append.mp hc with hc|hc
 ·rcases i c hc with ⟨u,h1,h2⟩|⟨a,h1,h2⟩
  ·exact .inl ⟨u,h1,fun C dx fs e=>List.mem_append_left _ (h2 C dx fs e)⟩
  ·exact .inr ⟨a,List.mem_append_left _ h1,h2⟩
 ·rcases j c hc with ⟨u,h1,h2⟩|⟨a,h1,h2⟩
  ·exact .inl ⟨u,h1,fun C dx fs e=>List.mem_append_right _ (h2 C dx fs e)⟩
  ·exact .inr ⟨a,List.mem_append_right _ h1,h2⟩
theorem dB.nil:dB H []:=fun _ h=>nomatch h
theorem MRep.ownU {v:V}{d:D}{f:List Addr}(h:MRep K F H v d f):dB H f:=
 MRep.rec (motive_1:=fun _ _ f _=>dB H f) (motive_2:=fun _ _ f _=>dB H f) .nil (fun _=>.nil) (fun _=>.nil) (fun _=>.nil) (fun _=>.nil) (fun _ _ i=>i) (fun _ _ _ _=>.nil) (fun _ _ _=>.nil)
  (fun _ h1 _ i=>.cons (u:=.l _) h1 (fun _ _ _ e=>nomatch e) i) (fun _ _ _ _ _=>.nil) (fun _ h1 _ _ i=>.cons (u:=.d _) h1 (fun _ _ _ e=>nomatch e) i) (fun _ _ _ _ _=>.nil) (fun _ _ h1 h1' _ _ i=>.obj h1 h1' i) .nil (fun _ _ i j=>i.app j) h
mutual
theorem MRep.aownF:∀ {v:V}{d:D}{f:List Addr},MRep K F H v d f->dP d=true->(∀ a∈f,¬ F' a)->MRep K F' H v d f
 | _,_,_,.non,_,_=>.non
 | _,_,_,.bl b,_,_=>.bl b
 | _,_,_,.int i,_,_=>.int i
 | _,_,_,.str x,_,_=>.str x
 | _,_,_,.exc h,_,_=>.exc h
 | _,_,_,.tup h1 h2,n,k=>.tup h1 (MReps.aownF h2 n k)
 | _,_,_,.lstS _ _ _,n,_=>nomatch n
 | _,_,_,.lstK _ _,n,_=>nomatch n
 | _,_,_,.lstO h0 h1 h2,n,k=>.lstO (k _ (.head _)) h1 (MReps.aownF h2 n fun a ha=>k a (.tail _ ha))
 | _,_,_,.dctS _ _ _ _,n,_=>nomatch n
 | _,_,_,.dctO h0 h1 h2 h3,n,k=>.dctO (k _ (.head _)) h1 h2 (MReps.aownF h3 n fun a ha=>k a (.tail _ ha))
 | _,_,_,.objS _ _ _ _,n,_=>nomatch n
 | _,_,_,.objO h0 h0' h1 h1' h2 h3,n,k=>.objO (k _ (.head _)) (k _ (.tail _ (.head _))) h1 h1' h2 (MReps.aownF h3 n fun a ha=>k a (.tail _ (.tail _ ha)))
theorem MReps.aownF:∀ {v:List V}{d:List D}{f:List Addr},MReps K F H v d f->d7 d=true->(∀ a∈f,¬ F' a)->MReps K F' H v d f
 | _,_,_,.nil,_,_=>.nil
 | _,_,_,.cons h1 h2,n,k=>.cons (MRep.aownF h1 (pN n).1 fun a ha=>k a (List.mem_append_left _ ha)) (MReps.aownF h2 (pN n).2 fun a ha=>k a (List.mem_append_right _ ha))
end
theorem HReps.ind {P:List V->List D->Prop}(n:P [] [])(c:∀ v d vs ds,HRep K S H v d->HReps K S H vs ds->P vs ds->P (v::vs) (d::ds)){vs:List V}{ds:List D}(h:HReps K S H vs ds):P vs ds:=
 HReps.rec (motive_1:=fun _ _ _=>True) (motive_2:=fun v d _=>P v d) trivial (fun _=>trivial) (fun _=>trivial) (fun _=>trivial) (fun _=>trivial) (fun _ _ _=>trivial) (fun _ _ _ _=>trivial) (fun _ _ _=>trivial) (fun _ _ _ _ _=>trivial) (fun _ _ _ _ _=>trivial) n (fun a b _ j=>c _ _ _ _ a b j) h
theorem MReps.ind {P:List V->List D->List Addr->Prop}(n:P [] [] [])(c:∀ v d f vs ds g,MRep K F H v d f->MReps K F H vs ds g->P vs ds g->P (v::vs) (d::ds) (f++g)){vs:List V}{ds:List D}{f:List Addr}(h:MReps K F H vs ds f):P vs ds f:=
 MReps.rec (motive_1:=fun _ _ _ _=>True) (motive_2:=fun v d f _=>P v d f) trivial (fun _=>trivial) (fun _=>trivial) (fun _=>trivial) (fun _=>trivial) (fun _ _ _=>trivial) (fun _ _ _ _=>trivial) (fun _ _ _=>trivial) (fun _ _ _ _=>trivial) (fun _ _ _ _ _=>trivial) (fun _ _ _ _ _=>trivial) (fun _ _ _ _ _=>trivial) (fun _ _ _ _ _ _ _=>trivial) n (fun a b _ j=>c _ _ _ _ _ _ a b j) h
theorem HReps.length {vs:List V}{ds:List D}(h:HReps K S H vs ds):vs.length=ds.length:=
 HReps.ind (P:=fun v d=>v.length=d.length) rfl (fun _ _ _ _ _ _ j=>congrArg (· + 1) j) h
theorem HReps.get {i:Nat}{vs:List V}{ds:List D}{d:D}(h:HReps K S H vs ds)(e:ds[i]? = some d):∃ v,vs[i]? = some v/\HRep K S H v d:=
 HReps.ind (P:=fun vs ds=>∀ i d,ds[i]? = some d->∃ v,vs[i]? = some v/\HRep K S H v d) (fun i d e=>nomatch (show none=some d from e)) (fun v d _ _ a _ j i d e=>by
  cases i with
  | zero=>exact⟨_,rfl,Option.some.inj e ▸ a⟩
  | succ i=>exact j i d e) h i d e
theorem HReps.getV {i:Nat}{vs:List V}{ds:List D}{v:V}(h:HReps K S H vs ds)(e:vs[i]? = some v):∃ d,ds[i]? = some d/\HRep K S H v d:=
 HReps.ind (P:=fun vs ds=>∀ i v,vs[i]? = some v->∃ d,ds[i]? = some d/\HRep K S H v d) (fun i d e=>nomatch (show none=some d from e)) (fun v d _ _ a _ j i d e=>by
  cases i with
  | zero=>exact⟨_,rfl,Option.some.inj e ▸ a⟩
  | succ i=>exact j i d e) h i v e
theorem HReps.append {vs ws:List V}{ds es:List D}(h:HReps K S H vs ds)(h':HReps K S H ws es):HReps K S H (vs++ws) (ds++es):=
 HReps.ind (P:=fun v d=>HReps K S H (v++ws) (d++es)) h' (fun _ _ _ _ a _ j=>.cons a j) h
theorem HReps.take {vs:List V}{ds:List D}(n:Nat)(h:HReps K S H vs ds):HReps K S H (vs.take n) (ds.take n):=
 HReps.ind (P:=fun v d=>∀ n,HReps K S H (v.take n) (d.take n)) (fun n=>by cases n<;>exact .nil) (fun _ _ _ _ a _ j n=>by
  cases n with
  | zero=>exact .nil
  | succ n=>exact .cons a (j n)) h n
theorem HReps.drop {vs:List V}{ds:List D}(n:Nat)(h:HReps K S H vs ds):HReps K S H (vs.drop n) (ds.drop n):=
 HReps.ind (P:=fun v d=>∀ n,HReps K S H (v.drop n) (d.drop n)) (fun n=>by cases n<;>exact .nil) (fun _ _ _ _ a b j n=>by
  cases n with
  | zero=>exact .cons a b
  | succ n=>exact j n) h n
theorem MReps.length {vs:List V}{ds:List D}{f:List Addr}(h:MReps K F H vs ds f):vs.length=ds.length:=
 MReps.ind (P:=fun v d _=>v.length=d.length) rfl (fun _ _ _ _ _ _ _ _ j=>congrArg (· + 1) j) h
theorem MReps.append {vs ws:List V}{ds es:List D}{f g:List Addr}(h:MReps K F H vs ds f)(h':MReps K F H ws es g):MReps K F H (vs++ws) (ds++es) (f++g):=
 MReps.ind (P:=fun v d f=>MReps K F H (v++ws) (d++es) (f++g)) h' (fun _ _ _ _ _ _ a _ j=>by
  rw[List.append_assoc]
  exact .cons a j) h
theorem HRep.lstR {v:V}{o:Bool}{ds:List D}(h:HRep K S H v (.lst o ds)):∃ a xs,v=.ref a/\SqL K H a xs/\HReps K S H xs ds:=by
 cases h with
 | lst h0 h1 h2=>exact⟨_,_,rfl,.inl h1,h2⟩
 | lstK h1 h2=>exact⟨_,_,rfl,h1.sq,h2⟩
theorem HRep.lstL {v:V}{o:Bool}{ds:List D}(h:HRep K S H v (.lst o ds)):∃ a xs,v=.ref a/\Ls K H a xs/\HReps K S H xs ds:=by
 cases h with
 | lst h0 h1 h2=>exact⟨_,_,rfl,.inl h1,h2⟩
 | lstK h1 h2=>exact⟨_,_,rfl,.inr h1,h2⟩
theorem HRep.tupR {v:V}{ds:List D}(h:HRep K S H v (.tup ds)):∃ a xs,v=.ref a/\SqT K H a xs/\HReps K S H xs ds:=by
 cases h with
 | tup h1 h2=>exact⟨_,_,rfl,h1,h2⟩
theorem HRep.intR {v:V}{i:Int}(h:HRep K S H v (.int i)):v=.int i:=by cases h;rfl
theorem HRep.blR {v:V}{i:Bool}(h:HRep K S H v (.bl i)):v=.bl i:=by cases h;rfl
theorem HRep.strR {v:V}{i:Str}(h:HRep K S H v (.str i)):v=.str i:=by cases h;rfl
theorem HRep.nonR {v:V}(h:HRep K S H v .non):v=.non:=by cases h;rfl
theorem HReps.strs {vs:List V}{ns:List Str}(h:HReps K S H vs (ns.map .str)):vs=ns.map .str:=
 HReps.ind (P:=fun v d=>∀ ns:List Str,d=ns.map .str->v=ns.map .str) (fun ns e=>by
  induction ns using zL with
  | nil=>rfl
  | cons n ns=>exact nomatch e) (fun _ _ _ _ a _ j ns e=>by
  induction ns using zL with
  | nil=>exact nomatch e
  | cons n ns=>
   obtain⟨h1,h2⟩:=List.cons.inj e;subst h1;rw[j ns h2,a.strR]
   rfl) h ns rfl
theorem HReps.bls {vs:List V}{ns:List Bool}(h:HReps K S H vs (ns.map .bl)):vs=ns.map .bl:=
 HReps.ind (P:=fun v d=>∀ ns:List Bool,d=ns.map .bl->v=ns.map .bl) (fun ns e=>by
  induction ns using zL with
  | nil=>rfl
  | cons n ns=>exact nomatch e) (fun _ _ _ _ a _ j ns e=>by
  induction ns using zL with
  | nil=>exact nomatch e
  | cons n ns=>
   obtain⟨h1,h2⟩:=List.cons.inj e;subst h1;rw[j ns h2,a.blR]
   rfl) h ns rfl
theorem HReps.ofInts:∀ (ns:List Int),HReps K S H (ns.map .int) (ns.map .int)
 | []=>.nil
 | n::ns=>.cons (.int n) (HReps.ofInts ns)
end
theorem cO.upd {H:Hp}{a:Addr}{o:HO}(h:H a=none):cO H (upd H a o):=fun b u e=>by rw[cG (cY e h)];exact e
theorem zD:type_of% @D.casesOn.{0}:=@D.casesOn.{0}
inductive BOp where
 | add|sub|mul|fdiv|mod|pow
 deriving DecidableEq
inductive COp where
 | eq|ne|lt|le|gt|ge|in_|nin|is_|isn
 deriving DecidableEq
inductive Kd where
 | str|int|bool|list|tuple
 deriving DecidableEq
inductive Bi where
 | len|sum|min2|max2|maxl|sorted|list|tuple|ord|int|all|any|str|set|abs
 deriving DecidableEq
inductive Mt where
 | join|index|starts
 deriving DecidableEq
inductive Tg where
 | nm (i:Nat)|tp (ts:List Tg)
structure Gm where
 N:List Str
 kd:List NameKind
 gl:List Nat
 df:Bool
 cm:Bool:=true
 rs:Bool:=true
 tr:Bool:=false
 io:Option Nat:=none
mutual
inductive IR where
 | c (d:D)
 | g (n:Nat) (d:D)
 | v (i:Nat)
 | bin (op:BOp) (a b:IR)
 | neg (a:IR)
 | cmp (op:COp) (a b:IR)
 | chain (op op':COp) (a b c:IR)
 | and_ (a b:IR)
 | or_ (a b:IR)
 | not_ (a:IR)
 | ite (t a b:IR)
 | tup (es:List IR)
 | lst (es:List IR)
 | idx (a i:IR)
 | sl (a:IR) (lo hi:Option IR)
 | call (f:Nat) (es:List IR)
 | bi (f:Bi) (es:List IR)
 | dnew
 | dget (a k:IR)
 | isi (a:IR) (k:Kd)
 | lrev (a:IR)
 | lset (a:IR)
 | ofld (a:IR) (x:Str) (cs:List Str)
 | meth (f:Nat) (m c:Str) (a:IR) (es:List IR)
 | omk (n f:Nat) (c:Str) (es:List IR)
 | dofr (a:IR)
 | lstf (es:List IR)
 | mth (m:Mt) (o:IR) (es:List IR)
 | comp (G:Gm) (fr:List Nat) (tg:Tg) (src:Sr) (ifs:List IR) (elt:IR)
inductive Sr where
 | rng1 (n:IR)|rng2 (a b:IR)|val (e:IR)|enm (e:IR)
end
inductive IS where
 | asg (tg:Tg) (e:IR)
 | app (i:Nat) (e:IR)
 | dsetx (i:Nat) (k e:IR)
 | exp (e:IR)
 | ret (e:IR)
 | oset (i:Nat) (x:Str) (cs:List Str) (fz:Bool) (e:IR)
 | oapp (i:Nat) (x:Str) (cs:List Str) (e:IR)
 | oget (j i:Nat) (x:Str) (cs:List Str) (k:IR)
 | mio (j:Option Nat) (i f:Nat) (m c:Str) (es:List IR)
 | rmio (i:Nat) (y:Str) (cs:List Str) (f:Nat) (m c:Str) (es:List IR)
 | reto (i:Nat) (e:IR)
 | foro (tg:Tg) (i:Nat) (x:Str) (cs:List Str) (body:List IS)
 | if_ (t:IR) (a b:List IS)
 | for_ (tg:Tg) (src:Sr) (body:List IS)
 | while_ (t:IR) (body:List IS)
 | brk|cnt|pass
 | never
noncomputable abbrev Ev:=List (Option D)
inductive Fl where
 | nx (τ:Ev)|rt (d:D)|bk (τ:Ev)|ct (τ:Ev)|ri (d:D) (ks:List Key) (vs:List D)|ro (d o:D)
noncomputable def iM {α:Type}(xs:List α)(lo hi:Option Int):List α:=(xs.drop (HT.sIx xs.length 0 lo)).take (HT.sIx xs.length xs.length hi - HT.sIx xs.length 0 lo)
noncomputable def dR (n:Nat):Bool:=decide (n<=sizeLine)
noncomputable def gm (n:Nat):Bool:=decide (n < sizeLine)
noncomputable def opB:BOp->D->D->Res D
 | .add,.int a,.int b=>.ok (.int (a+b))
 | .add,.str a,.str b=>grd (dR (a.length+b.length)) (.ok (.str (a++b)))
 | .add,.lst _ a,.lst _ b=>grd (dR (a.length+b.length)) (.ok (.lst true (a++b)))
 | .sub,.int a,.int b=>.ok (.int (a - b))
 | .mul,.int a,.int b=>grd (decide (-(2 ^ 64) < a/\a < 2 ^ 64)||decide (-(2 ^ 64) < b/\b < 2 ^ 64)) (.ok (.int (a*b)))
 | .mul,.lst _ a,.int b=>grd (decide (0<=b/\b<=16000/\a.length<=1000)) (.ok (.lst true (List.flatten (List.replicate b.toNat a))))
 | .mul,.str a,.int b=>grd (decide (-16000<=b/\b<=16000/\a.length<=1000)) (.ok (.str (Txt.mul a b)))
 | .fdiv,.int a,.int b=>grd (decide (0 < b/\b < 1073741824)) (.ok (.int (a / b)))
 | .mod,.int a,.int b=>grd (decide (0 < b)) (.ok (.int (a % b)))
 | .pow,.int a,.int b=>grd (decide (0<=b/\b<=1000000/\a.natAbs < 2 ^ 64)) (.ok (.int (a ^ b.toNat)))
 | _,_,_=>stk
noncomputable def fW:D->D->Res D
 | .lst _ ds,.int i=>match atI ds i with
  | some d=>.ok d
  | none=>stk
 | .tup ds,.int i=>match atI ds i with
  | some d=>.ok d
  | none=>stk
 | .str z,.int i=>grd (dR z.length) (match atI z.cps.toList i with
  | some c=>.ok (.str ⟨#[c]⟩)
  | none=>stk)
 | _,_=>stk
noncomputable def lJ:D->Option Int->Option Int->Res D
 | .lst _ ds,lo,hi=>.ok (.lst true (iM ds lo hi))
 | .str z,lo,hi=>grd (dR z.length) (.ok (.str (Txt.slice z lo hi)))
 | _,_,_=>stk
noncomputable def dg:D->Res Bool
 | .non=>.ok false
 | .bl b=>.ok b
 | .int i=>.ok (i != 0)
 | .str x=>grd (dR x.length) (.ok ((x.length:Int) != 0))
 | .tup ds=>.ok (!ds.isEmpty)
 | .lst _ ds=>.ok (!ds.isEmpty)
 | .exc _=>stk
 | .dct _ _ _=>stk
 | .obj _ _ _ _=>stk
noncomputable def fH (f:D->D->Res Bool):List D->List D->Res Bool
 | [],[]=>.ok true
 | a::r,b::t=>bnd (f a b) fun x=>bnd (fH f r t) fun y=>.ok (x&&y)
 | _,_=>.ok false
noncomputable def eqN:Nat->D->D->Res Bool
 | 0,_,_=>stk
 | _+1,.exc _,_=>stk
 | _+1,_,.exc _=>stk
 | _+1,.dct _ _ _,_=>stk
 | _+1,_,.dct _ _ _=>stk
 | _+1,.obj _ _ _ _,_=>stk
 | _+1,_,.obj _ _ _ _=>stk
 | _+1,.non,.non=>.ok true
 | _+1,.non,_=>.ok false
 | _+1,.bl a,.bl b=>.ok (a == b)
 | _+1,.bl a,.int b=>.ok ((if a then 1 else 0) == b)
 | _+1,.bl _,_=>.ok false
 | _+1,.int a,.bl b=>.ok (a == (if b then 1 else 0))
 | _+1,.int a,.int b=>.ok (a == b)
 | _+1,.int _,_=>.ok false
 | _+1,.str a,.str b=>.ok (a == b)
 | _+1,.str _,_=>.ok false
 | n+1,.tup a,.tup b=>fH (eqN n) a b
 | _+1,.tup _,_=>.ok false
 | n+1,.lst _ a,.lst _ b=>fH (eqN n) a b
 | _+1,.lst _ _,_=>.ok false
noncomputable def anyN (d:D):List D->Res Bool
 | []=>.ok false
 | e::r=>bnd (eqN 40 e d) fun x=>bnd (anyN d r) fun y=>.ok (x||y)
noncomputable def lK (x y:Str):Bool:=!(Builtin.Str.occurrences x y 0 x.length 1).isEmpty
noncomputable def lL:D->Bool
 | .non=>true
 | _=>false
noncomputable def i8:D->Bool
 | .exc _=>false
 | .dct _ _ _=>false
 | .obj _ _ _ _=>false
 | _=>true
noncomputable def opC:COp->D->D->Res Bool
 | .eq,a,b=>eqN 40 a b
 | .ne,a,b=>bnd (eqN 40 a b) fun r=>.ok !r
 | .lt,.int a,.int b=>.ok (decide (a < b))
 | .le,.int a,.int b=>.ok (decide (a<=b))
 | .ge,.int a,.int b=>.ok (decide (b<=a))
 | .gt,.int a,.int b=>.ok (decide (b < a))
 | .in_,.str y,.str x=>.ok (lK x y)
 | .nin,.str y,.str x=>.ok (!lK x y)
 | .in_,a,.lst _ ds=>anyN a ds
 | .nin,a,.lst _ ds=>bnd (anyN a ds) fun r=>.ok !r
 | .in_,a,.tup ds=>anyN a ds
 | .nin,a,.tup ds=>bnd (anyN a ds) fun r=>.ok !r
 | .is_,a,.non=>.ok (lL a)
 | _,_,_=>stk
noncomputable def eK:List D->Option (List Str)
 | []=>some []
 | .str i::r=>(eK r).map (i::·)
 | _::_=>none
noncomputable def fJ:List D->Option (List Bool)
 | []=>some []
 | .bl i::r=>(fJ r).map (i::·)
 | _::_=>none
noncomputable def gA:Kd->D->Bool
 | .str,.str _=>true
 | .int,.int _=>true
 | .int,.bl _=>true
 | .bool,.bl _=>true
 | .list,.lst _ _=>true
 | .tuple,.tup _=>true
 | _,_=>false
noncomputable def eM (x:Str):List D:=x.cps.toList.map fun c=>.str ⟨#[c]⟩
noncomputable def uB:Key->D
 | .inl i=>.int i
 | .inr x=>.str x
noncomputable def fK:Bi->List D->Res D
 | .len,[.str x]=>grd (dR x.length) (.ok (.int x.length))
 | .len,[.tup ds]=>.ok (.int ds.length)
 | .len,[.lst _ ds]=>.ok (.int ds.length)
 | .len,[.dct _ ks _]=>.ok (.int ks.length)
 | .min2,[.int a,.int b]=>.ok (.int (if b < a then b else a))
 | .max2,[.int a,.int b]=>.ok (.int (if b > a then b else a))
 | .int,[.int i]=>.ok (.int i)
 | .int,[.bl b]=>.ok (.int (if b then 1 else 0))
 | .list,[.lst _ ds]=>.ok (.lst true ds)
 | .list,[.tup ds]=>.ok (.lst true ds)
 | .list,[.dct _ ks _]=>.ok (.lst true (ks.map uB))
 | .tuple,[.lst _ ds]=>.ok (.tup ds)
 | .tuple,[.str x]=>grd (dR x.length) (.ok (.tup (eM x)))
 | .all,[.lst _ ds]=>match fJ ds with
  | some bs=>.ok (.bl (bs.all id))
  | none=>stk
 | .any,[.lst _ ds]=>match fJ ds with
  | some bs=>.ok (.bl (bs.any id))
  | none=>stk
 | _,_=>stk
noncomputable def i9:D->Option Key
 | .int i=>some (.inl i)
 | .str x=>some (.inr x)
 | _=>none
noncomputable def look:List Key->List D->Key->Option D
 | k::ks,d::ds,q=>if k=q then some d else look ks ds q
 | _,_,_=>none
noncomputable def pO (ks:List Key)(q:Key):Bool:=ks.any fun k=>decide (k=q)
noncomputable def ja (ks:List Key)(q:Key):List Key:=if pO ks q=true then ks else ks++[q]
noncomputable def iJ (ks:List Key)(ds:List D)(q:Key)(d:D):List D:=if pO ks q=true then List.zipWith (fun k e=>if k=q then d else e) ks ds else ds++[d]
noncomputable def lM:D->D->Res D
 | .dct _ ks ds,y=>match i9 y with
  | some q=>(match look ks ds q with
   | some d=>.ok d
   | none=>stk)
  | none=>stk
 | _,_=>stk
noncomputable def nW:D->Res D
 | .lst _ ds=>match eK ds with
  | some ns=>grd (decide (ns.length < 1000)) (.ok (.int ((ns.foldl Sx.dd []).length:Nat)))
  | none=>stk
 | _=>stk
noncomputable def jW:List D->Option (List (Key×D))
 | []=>some []
 | .tup [k,v]::r=>match i9 k,jW r with
  | some q,some ps=>some ((q,v)::ps)
  | _,_=>none
 | _::_=>none
noncomputable def mrg:List (Key×D)->List Key->List D->List Key×List D
 | [],ks,ds=>(ks,ds)
 | (q,d)::r,ks,ds=>mrg r (ja ks q) (iJ ks ds q d)
noncomputable def gJ:D->Bool
 | .str _=>true
 | _=>false
noncomputable def jF:Mt->D->List D->Res D
 | .join,.str x,[.lst _ ds]=>match eK ds with
  | some ys=>grd (decide ((ys.map (·.length)).sum+ys.length*x.length<=16777216)) (.ok (.str (Txt.join x ys)))
  | none=>stk
 | _,_,_=>stk
noncomputable def ik:D->Res (List D)
 | .lst _ ds=>.ok ds
 | .tup ds=>.ok ds
 | .str x=>grd (dR x.length) (.ok (eM x))
 | _=>stk
noncomputable def jb (ds:List D):List D:=List.zipWith (fun (k:Nat) d=>.tup [.int k,d]) (List.range ds.length) ds
noncomputable def uC:D->Res (List D)
 | .lst _ ds=>.ok (jb ds)
 | _=>stk
noncomputable def e8 (a b:Int):List D:=(List.range (b - a).toNat).map fun k=>.int (a+(k:Nat))
noncomputable def uD:D->Res D
 | .lst _ ds=>.ok (.lst true ds.reverse)
 | _=>stk
noncomputable def cS:List Str->List D->Str->Option D
 | k::ks,d::ds,q=>if k=q then some d else cS ks ds q
 | _,_,_=>none
noncomputable def eh (x:Str):List Str->List Str
 | []=>[x]
 | k::ks=>if k=x then k::ks else k::eh x ks
noncomputable def dh (x:Str)(d:D):List Str->List D->List D
 | k::ks,e::ds=>if k=x then d::ds else e::dh x d ks ds
 | _,_=>[d]
noncomputable def uE (x:Str)(cs:List Str):D->Res D
 | .obj _ c ks ds=>grd (cs.contains c) (match cS ks ds x with
  | some d=>.ok d
  | none=>stk)
 | _=>stk
noncomputable def gK (c m:Str):D->Bool
 | .obj _ c' ks _=>c == c'&&!ks.contains m
 | _=>false
noncomputable def nX:D->Res D
 | .lst _ ds=>match jW ds with
  | some ps=>.ok (.dct true (mrg ps [] []).1 (mrg ps [] []).2)
  | none=>stk
 | _=>stk
noncomputable def fE (ds:List D):List D:=List.zipWith (fun (k:Nat) d=>.tup [.int ((k:Int)+1),d]) (List.range ds.length) ds
noncomputable def mZ (τ:List (Option D)):D->Res (D×List (Option D))
 | .tup [.non,.obj true c ks vs]=>.ok (.obj true c ks vs,τ)
 | _=>stk
noncomputable def dU (i:Int):Bool:=decide (-(2 ^ 62)<=i/\i < 2 ^ 62)
noncomputable def dv {α β:Type}(f:α->Res (Option β)):List α->Res (List β)
 | []=>.ok []
 | x::xs=>bnd (f x) fun
  | some d=>bnd (dv f xs) fun r=>.ok (d::r)
  | none=>dv f xs
noncomputable def noX {α:Type}:Res α->Res α
 | .error _=>stk
 | .ok a=>.ok a
mutual
noncomputable def dZ:Tg->D->Ev->Res Ev
 | .nm i,d,τ=>.ok (τ.set i (some d))
 | .tp ts,.tup ds,τ=>grd (decide (ds.length=ts.length)) (gF ts ds τ)
 | .tp ts,.lst _ ds,τ=>grd (decide (ds.length=ts.length)) (gF ts ds τ)
 | .tp _,_,_=>stk
noncomputable def gF:List Tg->List D->Ev->Res Ev
 | t::ts,d::ds,τ=>bnd (dZ t d τ) fun τ'=>gF ts ds τ'
 | [],[],τ=>.ok τ
 | _,_,_=>stk
end
noncomputable def bS (τ:Ev)(i:Nat):Option D:=(τ[i]?).join
mutual
noncomputable def vars:IR->List Nat
 | .c _=>[]
 | .g _ _=>[]
 | .v i=>[i]
 | .bin _ a b=>vars a++vars b
 | .neg a=>vars a
 | .cmp _ a b=>vars a++vars b
 | .chain _ _ a b c=>vars a++vars b++vars c
 | .and_ a b=>vars a++vars b
 | .or_ a b=>vars a++vars b
 | .not_ a=>vars a
 | .ite t a b=>vars t++vars a++vars b
 | .tup es=>cF es
 | .lst es=>cF es
 | .idx a i=>vars a++vars i
 | .sl a lo hi=>vars a++qK lo++qK hi
 | .call _ es=>cF es
 | .bi _ es=>cF es
 | .dnew=>[]
 | .dget a k=>vars a++vars k
 | .isi a _=>vars a
 | .lrev a=>vars a
 | .lset a=>vars a
 | .ofld a _ _=>vars a
 | .meth _ _ _ a es=>vars a++cF es
 | .omk _ _ _ es=>cF es
 | .dofr a=>vars a
 | .lstf es=>cF es
 | .mth _ o es=>vars o++cF es
 | .comp _ fr _ src _ _=>fr++gW src
noncomputable def cF:List IR->List Nat
 | []=>[]
 | e::es=>vars e++cF es
noncomputable def qK:Option IR->List Nat
 | none=>[]
 | some e=>vars e
noncomputable def gW:Sr->List Nat
 | .rng1 n=>vars n
 | .rng2 a b=>vars a++vars b
 | .val e=>vars e
 | .enm a=>vars a
end
mutual
noncomputable def evR (cl:Nat->List D->Res D):IR->Ev->Res D
 | .c d,_=>.ok d
 | .g _ d,_=>.ok d
 | .v i,τ=>match bS τ i with
  | some d=>.ok d
  | none=>stk
 | .bin op a b,τ=>bnd (evR cl a τ) fun x=>bnd (evR cl b τ) fun y=>opB op x y
 | .neg a,τ=>bnd (evR cl a τ) fun
  | .int i=>.ok (.int (-i))
  | _=>stk
 | .cmp op a b,τ=>bnd (evR cl a τ) fun x=>bnd (evR cl b τ) fun y=>bnd (opC op x y) fun r=>.ok (.bl r)
 | .chain op op' a b c,τ=>bnd (evR cl a τ) fun x=>bnd (evR cl b τ) fun y=>bnd (opC op x y) fun r=>
  if r=true then bnd (evR cl c τ) fun z=>bnd (opC op' y z) fun r'=>.ok (.bl r') else .ok (.bl false)
 | .and_ a b,τ=>bnd (evR cl a τ) fun x=>bnd (dg x) fun r=>if r=true then evR cl b τ else .ok x
 | .or_ a b,τ=>bnd (evR cl a τ) fun x=>bnd (dg x) fun r=>if r=true then .ok x else evR cl b τ
 | .not_ a,τ=>bnd (evR cl a τ) fun x=>bnd (dg x) fun r=>.ok (.bl !r)
 | .ite t a b,τ=>bnd (evR cl t τ) fun x=>bnd (dg x) fun r=>if r=true then evR cl a τ else evR cl b τ
 | .tup es,τ=>bnd (cX cl es τ) fun ds=>grd (dR ds.length) (.ok (.tup ds))
 | .lst es,τ=>bnd (cX cl es τ) fun ds=>grd (dR ds.length) (.ok (.lst true ds))
 | .idx a i,τ=>bnd (evR cl a τ) fun x=>bnd (evR cl i τ) fun y=>fW x y
 | .sl a lo hi,τ=>bnd (evR cl a τ) fun x=>bnd (ky cl lo τ) fun l=>bnd (ky cl hi τ) fun h=>lJ x l h
 | .call f es,τ=>bnd (cX cl es τ) fun ds=>cl f (ers ds)
 | .bi f es,τ=>bnd (cX cl es τ) fun ds=>fK f ds
 | .dnew,_=>.ok (.dct true [] [])
 | .dget a k,τ=>bnd (evR cl a τ) fun x=>bnd (evR cl k τ) fun y=>lM x y
 | .isi a k,τ=>bnd (evR cl a τ) fun x=>grd (i8 x) (.ok (.bl (gA k x)))
 | .lrev a,τ=>bnd (evR cl a τ) uD
 | .lset a,τ=>bnd (evR cl a τ) nW
 | .ofld a x cs,τ=>bnd (evR cl a τ) (uE x cs)
 | .meth f m c a es,τ=>bnd (evR cl a τ) fun x=>grd (gK c m x) (bnd (cX cl es τ) fun ds=>cl f (er x::ers ds))
 | .omk _ _ _ _,_=>stk
 | .dofr a,τ=>bnd (evR cl a τ) nX
 | .lstf es,τ=>bnd (cX cl es τ) fun ds=>grd (dR ds.length) (.ok (.lst true ds))
 | .mth m o es,τ=>bnd (evR cl o τ) fun x=>grd (gJ x) (bnd (cX cl es τ) fun ds=>jF m x ds)
 | .comp G fr tg src ifs elt,τ=>bnd (fX cl src τ) fun its=>grd (gm its.length) (bnd (noX (dv (fun x=>bnd (dZ tg x (fr.map (bS τ)++List.replicate (G.N.length - fr.length) none)) fun τ1=>
   bnd (gL cl ifs τ1) fun r=>if r=true then bnd (evR cl elt τ1) fun d=>.ok (some d) else .ok none) its)) fun ds=>.ok (.lst true ds))
noncomputable def cX (cl:Nat->List D->Res D):List IR->Ev->Res (List D)
 | [],_=>.ok []
 | e::es,τ=>bnd (evR cl e τ) fun d=>bnd (cX cl es τ) fun ds=>.ok (d::ds)
noncomputable def ky (cl:Nat->List D->Res D):Option IR->Ev->Res (Option Int)
 | none,_=>.ok none
 | some e,τ=>bnd (evR cl e τ) fun
  | .int i=>.ok (some i)
  | _=>stk
noncomputable def gL (cl:Nat->List D->Res D):List IR->Ev->Res Bool
 | [],_=>.ok true
 | e::es,τ=>bnd (bnd (evR cl e τ) dg) fun r=>if r=true then gL cl es τ else .ok false
noncomputable def fX (cl:Nat->List D->Res D):Sr->Ev->Res (List D)
 | .rng1 n,τ=>bnd (evR cl n τ) fun
  | .int i=>grd (dU i) (.ok (e8 0 i))
  | _=>stk
 | .rng2 a b,τ=>bnd (evR cl a τ) fun x=>bnd (evR cl b τ) fun y=>match x,y with
  | .int i,.int j=>grd (dU i&&dU j) (.ok (e8 i j))
  | _,_=>stk
 | .val e,τ=>bnd (evR cl e τ) ik
 | .enm a,τ=>bnd (evR cl a τ) uC
end
noncomputable def evT (cl:Nat->List D->Res D)(t:IR)(τ:Ev):Res Bool:=bnd (evR cl t τ) dg
noncomputable def il (is:List Nat):Nat->Ev->Ev
 | _,[]=>[]
 | k,o::τ=>(if is.contains k then o.map er else o)::il is (k+1) τ
noncomputable abbrev frz (is:List Nat)(τ:Ev):Ev:=il is 0 τ
noncomputable def dm : IR->Bool
 | .bin .add _ _=>true
 | .bin .mul _ _=>true
 | .sl _ _ _=>true
 | .bi .list _=>true
 | .comp _ _ _ _ _ _=>true
 | .lstf _=>true
 | _=>false
noncomputable def dn (e:IR)(d:D)(τ:Ev):D×Ev:=
 if dE d=true then (d,τ)
 else match dm e,d with
  | true,.lst _ ds=>if cU ds=true then (.lst true ds,τ) else (.lst true (ers ds),frz (vars e) τ)
  | _,_=>(er d,frz (vars e) τ)
mutual
noncomputable def evO (cl:Nat->List D->Res D)(mv:Bool):IR->Ev->Res (D×Ev)
 | .v i,τ=>match bS τ i with
  | some d=>if mv=true then .ok (d,τ.set i none) else .ok (er d,τ.set i (some (er d)))
  | none=>stk
 | .tup es,τ=>bnd (jG cl mv es τ) fun p=>grd (dR p.1.length) (.ok (.tup p.1,p.2))
 | .lst es,τ=>bnd (jG cl mv es τ) fun p=>grd (dR p.1.length) (.ok (.lst true p.1,p.2))
 | .dnew,τ=>.ok (.dct true [] [],τ)
 | .ite t a b,τ=>bnd (evT cl t τ) fun r=>if r=true then evO cl mv a τ else evO cl mv b τ
 | .call f es,τ=>bnd (cX cl es τ) fun ds=>bnd (cl f (ers ds)) fun d=>if dP d=true then .ok (d,τ) else .ok (d,frz (cF es) τ)
 | .omk _ f c es,τ=>bnd (cX cl es τ) fun ds=>bnd (noX (cl f (.obj true c [] []::ers ds))) (mZ (frz (cF es) τ))
 | e,τ=>bnd (evR cl e τ) fun d=>.ok (dn e d τ)
noncomputable def jG (cl:Nat->List D->Res D)(mv:Bool):List IR->Ev->Res (List D×Ev)
 | [],τ=>.ok ([],τ)
 | e::es,τ=>bnd (evO cl mv e τ) fun p=>bnd (jG cl mv es p.2) fun q=>.ok (p.1::q.1,q.2)
end
noncomputable def forM (body:D->Ev->Res Fl):List D->Ev->Res Fl
 | [],τ=>.ok (.nx τ)
 | x::xs,τ=>bnd (body x τ) fun
  | .nx τ'=>forM body xs τ'
  | .ct τ'=>forM body xs τ'
  | .bk τ'=>.ok (.nx τ')
  | .rt d=>.ok (.rt d)
  | .ri d ks vs=>.ok (.ri d ks vs)
  | .ro d o=>.ok (.ro d o)
noncomputable def dH (test:Ev->Res Bool)(body:Ev->Res Fl):Nat->Ev->Res Fl
 | 0,_=>stk
 | n+1,τ=>bnd (test τ) fun r=>if r=true then bnd (body τ) fun
  | .nx τ'=>dH test body n τ'
  | .ct τ'=>dH test body n τ'
  | .bk τ'=>.ok (.nx τ')
  | .rt d=>.ok (.rt d)
  | .ri d ks vs=>.ok (.ri d ks vs)
  | .ro d o=>.ok (.ro d o)
  else .ok (.nx τ)
noncomputable def kz (cl:Nat->List D->Res D)(s:Sr)(τ:Ev):Res (List D×Ev):=bnd (fX cl s τ) fun its=>match s with
 | .rng1 _=>.ok (its,τ)
 | .rng2 _ _=>.ok (its,τ)
 | s=>.ok (ers its,frz (gW s) τ)
mutual
noncomputable def gM:D->Bool
 | .lst o ds=>!o&&fu ds
 | .tup ds=>fu ds
 | .dct o _ ds=>!o&&fu ds
 | .obj o _ _ ds=>!o&&fu ds
 | _=>true
noncomputable def fu:List D->Bool
 | []=>true
 | d::ds=>gM d&&fu ds
end
noncomputable def jX:Nat:=1000000
noncomputable def lN (i:Nat)(x:Str)(cs:List Str)(fz:Bool)(d:D)(τ:Ev):Option D->Res Fl
 | some (.obj true c ks ds)=>grd (cs.contains c&&decide (ks.length < 1000)) (.ok (.nx (τ.set i (some (.obj true c (eh x ks) (dh x (if fz=true then er d else d) ks ds))))))
 | _=>stk
noncomputable def nY (i:Nat)(x c:Str)(d:D)(τ:Ev)(ks:List Str)(ds:List D):Option D->Res Fl
 | some (.lst true es)=>grd (gm es.length) (.ok (.nx (τ.set i (some (.obj true c ks (dh x (.lst true (es++[er d])) ks ds))))))
 | _=>stk
noncomputable def jY (i:Nat)(x:Str)(cs:List Str)(d:D)(τ:Ev):Option D->Res Fl
 | some (.obj true c ks ds)=>grd (cs.contains c) (nY i x c d τ ks ds (cS ks ds x))
 | _=>stk
noncomputable def pP:Option D->Bool
 | some (.lst _ _)=>true
 | _=>false
noncomputable def nZ (j:Nat)(τ:Ev)(es:List D):D->Res Fl
 | .int z=>(match atI es z with
  | some d=>grd (gM d) (.ok (.nx (τ.set j (some d))))
  | none=>stk)
 | _=>stk
noncomputable def jZ (cl:Nat->List D->Res D)(j:Nat)(k:IR)(τ:Ev):Option D->Res Fl
 | some (.lst true es)=>bnd (evR cl k τ) (nZ j τ es)
 | _=>stk
noncomputable def lO (j:Option Nat)(i:Nat)(τ:Ev):D->Res Fl
 | .tup [d,.obj true c ks ds]=>.ok (.nx (match j with
  | some j=>(τ.set i (some (.obj true c ks ds))).set j (some d)
  | none=>τ.set i (some (.obj true c ks ds))))
 | _=>stk
noncomputable def jc (y c0:Str)(ks:List Str)(ds:List D):D->Res Fl
 | .tup [d,.obj true c ks' ds']=>.ok (.ro d (.obj true c0 ks (dh y (.obj true c ks' ds') ks ds)))
 | _=>stk
noncomputable def eG:D->Bool
 | .obj o _ _ _=>o
 | _=>false
noncomputable def j5 (cl:Nat->List D->Res D)(y:Str)(f:Nat)(m c:Str)(es:List IR)(τ:Ev)(c0:Str)(ks:List Str)(ds:List D):Option D->Res Fl
 | some o=>grd (eG o&&gK c m o) (bnd (cX cl es τ) fun as=>bnd (noX (cl f (o::ers as))) (jc y c0 ks ds))
 | none=>stk
noncomputable def lQ (i:Nat)(q:D×Ev):Res Fl:=match bS q.2 i with
 | some o=>grd (dE q.1&&eG o) (.ok (.ro q.1 o))
 | none=>stk
mutual
noncomputable def evS (cl:Nat->List D->Res D):IS->Ev->Res Fl
 | .asg tg e,τ=>bnd (evO cl false e τ) fun p=>bnd (dZ tg p.1 p.2) fun τ'=>.ok (.nx τ')
 | .app i e,τ=>match bS τ i with
  | some (.lst _ _)=>bnd (evO cl false e τ) fun p=>(match bS p.2 i with
   | some (.lst true ds)=>grd (gm ds.length) (.ok (.nx (p.2.set i (some (.lst true (ds++[p.1]))))))
   | _=>stk)
  | _=>stk
 | .dsetx i k e,τ=>bnd (evR cl e τ) fun d=>match bS τ i with
  | some (.dct true ks ds)=>bnd (evR cl k (frz (vars e) τ)) fun y=>(match i9 y with
   | some q=>grd (fu ds&&gm ks.length) (.ok (.nx ((frz (vars e) τ).set i (some (.dct true (ja ks q) (ers (iJ ks ds q d)))))))
   | none=>stk)
  | _=>stk
 | .exp e,τ=>bnd (evR cl e τ) fun _=>.ok (.nx τ)
 | .ret e,τ=>bnd (evO cl true e τ) fun p=>.ok (.rt p.1)
 | .oset i x cs fz e,τ=>bnd (evO cl false e τ) fun p=>lN i x cs fz p.1 p.2 (bS p.2 i)
 | .oapp i x cs e,τ=>match bS τ i with
  | some (.obj true c ks ds)=>grd (cs.contains c&&pP (cS ks ds x)) (bnd (evO cl false e τ) fun p=>jY i x cs p.1 p.2 (bS p.2 i))
  | _=>stk
 | .oget j i x cs k,τ=>match bS τ i with
  | some (.obj true c ks ds)=>grd (cs.contains c) (jZ cl j k τ (cS ks ds x))
  | _=>stk
 | .mio j i f m c es,τ=>match bS τ i with
  | some o=>grd (eG o&&gK c m o&&!(cF es).contains i) (bnd (cX cl es τ) fun ds=>bnd (noX (cl f (o::ers ds))) (lO j i (frz (cF es) τ)))
  | none=>stk
 | .rmio i y cs f m c es,τ=>match bS τ i with
  | some (.obj true c0 ks ds)=>grd (cs.contains c0&&!(cF es).contains i) (j5 cl y f m c es τ c0 ks ds (cS ks ds y))
  | _=>stk
 | .reto i e,τ=>bnd (evO cl false e τ) (lQ i)
 | .foro tg i x cs body,τ=>match bS τ i with
  | some (.obj true c ks ds)=>grd (cs.contains c) (match cS ks ds x with
   | some (.lst false es)=>forM (fun x τ=>bnd (dZ tg x τ) fun τ'=>cZ cl body τ') (ers (fE es)) τ
   | _=>stk)
  | _=>stk
 | .if_ t a b,τ=>bnd (evT cl t τ) fun r=>if r=true then cZ cl a τ else cZ cl b τ
 | .for_ tg s body,τ=>bnd (kz cl s τ) fun p=>forM (fun x τ=>bnd (dZ tg x τ) fun τ'=>cZ cl body τ') p.1 p.2
 | .while_ t body,τ=>dH (evT cl t) (cZ cl body) jX τ
 | .brk,τ=>.ok (.bk τ)
 | .cnt,τ=>.ok (.ct τ)
 | .pass,τ=>.ok (.nx τ)
 | .never,_=>stk
noncomputable def cZ (cl:Nat->List D->Res D):List IS->Ev->Res Fl
 | [],τ=>.ok (.nx τ)
 | s::r,τ=>bnd (evS cl s τ) fun
  | .nx τ'=>cZ cl r τ'
  | .ct τ'=>.ok (.ct τ')
  | .bk τ'=>.ok (.bk τ')
  | .rt d=>.ok (.rt d)
  | .ri d ks vs=>.ok (.ri d ks vs)
  | .ro d o=>.ok (.ro d o)
end
structure Fn where
 np:Nat
 G:Gm
 body:List IS
 io:Bool:=false
noncomputable def gB (cl:Nat->List D->Res D)(fn:Fn)(ds:List D):Res D:=
 grd (decide (ds.length=fn.np)) (bnd (cZ cl fn.body (ds.map some++List.replicate (fn.G.N.length - fn.np) none)) fun
  | .nx _=>.ok .non
  | .rt d=>.ok d
  | _=>stk)
noncomputable def gN (cl:Nat->List D->Res D)(fn:Fn)(ds:List D):Res D:=
 grd (decide (ds.length=fn.np)) (bnd (cZ cl fn.body (ds.map some++List.replicate (fn.G.N.length - fn.np) none)) fun
  | .ro d o=>.ok (.tup [d,o])
  | .nx τ=>(match bS τ 0 with
   | some o=>grd (eG o) (.ok (.tup [.non,o]))
   | none=>stk)
  | _=>stk)
noncomputable abbrev Tb:=Nat->Option Fn
noncomputable def aW (T:Tb):Nat->Nat->List D->Res D
 | 0,_,_=>stk
 | n+1,f,ds=>match T f with
  | some fn=>(match fn.io with
   | false=>gB (aW T n) fn ds
   | true=>gN (aW T n) fn ds)
  | none=>stk
theorem AA {cl:Nat->List D->Res D}{i:Nat}{τ:Ev}:evR cl (.v i) τ=(match bS τ i with|some d=>.ok d|none=>stk):=rfl
theorem AB {cl:Nat->List D->Res D}{i:Nat}{τ:Ev}{mv:Bool}:evO cl mv (.v i) τ=(match bS τ i with|some d=>if mv=true then .ok (d,τ.set i none) else .ok (er d,τ.set i (some (er d)))|none=>stk):=rfl
theorem zI:type_of% @IR.casesOn.{0}:=@IR.casesOn.{0}
theorem zT:type_of% @IS.casesOn.{0}:=@IS.casesOn.{0}
section
variable {X:Cx}{pins:List (Addr×Obj)}{σ:St}{H:Hp}{S:Addr->Prop}{s:Shared}
theorem Inv.not_both (I:Inv X pins σ H s){a:Addr}{xs ys:List V}(h1:SqL X.K H a xs)(h2:SqT X.K H a ys):False:=by obtain⟨its,_,⟨o,n,e,c,_⟩,_⟩:=I.list h1;obtain⟨its',_,⟨o',e',c',_⟩,_⟩:=I.tuple h2;rw[e] at e';cases e';rw[c] at c';injection c' with c';exact absurd c' (by decide)
theorem Inv.exc_at (I:Inv X pins σ H s){a:Addr}{c:EX}(h:SqE X.K H a (.inr c)):∃ C o vs,PySem.W.nsIn X.K mainGlobals c.c=some (some (.ref C))/\nameIn X.K C=some c.c/\s.heap.get? a=some o/\o.cls=.ref C/\o.data=.fields vs/\XF X.K H o.dict c:=by obtain⟨C,o,vs,h0,h1,h2,h3,h4,h5⟩:=h;exact⟨C,o,vs,h0,h1,(I.hok a _ h2).1,h3,h4,h5⟩
theorem lT:∀ {a b:List Str},a.map V.str=b.map V.str->a=b
 | [],[],_=>rfl
 | x::a,y::b,h=>by obtain⟨h1,h2⟩:=List.cons.inj h;rw[V.str.inj h1,lT h2]
 | [],_::_,h=>nomatch h
 | _::_,[],h=>nomatch h
theorem Inv.xf_one (I:Inv X pins σ H s){dx:Option Addr}{c c':EX}(h:XF X.K H dx c)(k:XF X.K H dx c'):c.x=c'.x/\c.ts=c'.ts:=by
 obtain⟨d,t,od,rfl,h2,h3,h4⟩:=h;obtain⟨d',t',od',e,k2,k3,k4⟩:=k;cases e;rw[h2] at k2;cases k2;have e0:=(I.hok d _ h2).1;obtain⟨o,es,ep,e1,e2,_,_,e3⟩:=h3 _ _ e0;obtain⟨o',es',ep',k1,k2,_,_,k3⟩:=k3 _ _ e0;rw[e1] at k1;cases k1;rw[e2] at k2;cases k2;have z:=(e3 c.x).symm.trans (k3 c.x);dsimp only at z;rw[if_pos rfl] at z;by_cases q:c.x=c'.x
 ·rw[if_pos q] at z;cases z;exact⟨q,lT (I.tuple_inj h4 k4)⟩
 ·rw[if_neg q] at z;cases z
theorem Inv.exc_one (I:Inv X pins σ H s){a:Addr}{c c':EX}(h:SqE X.K H a (.inr c))(k:SqE X.K H a (.inr c')):c=c':=by obtain⟨C,o,vs,_,n1,e,c1,_,f1⟩:=I.exc_at h;obtain⟨C',o',vs',_,n2,e',c2,_,f2⟩:=I.exc_at k;rw[e] at e';cases e';rw[c1] at c2;cases c2;rw[n1] at n2;obtain⟨h1,h2⟩:=I.xf_one f1 f2;obtain⟨a1,a2,a3⟩:=c;obtain⟨b1,b2,b3⟩:=c';dsimp only at n2 h1 h2;cases n2;subst h1 h2;rfl
theorem Inv.exc_tup (I:Inv X pins σ H s){a:Addr}{c:EX}{xs:List V}(h:SqE X.K H a (.inr c))(k:SqT X.K H a xs):False:=by obtain⟨C,o,vs,_,_,e,c1,_⟩:=I.exc_at h;obtain⟨its',_,⟨o',e',c',_⟩,_⟩:=I.tuple k;rw[e] at e';cases e';rw[c1] at c';cases c'
theorem Inv.exc_lst (I:Inv X pins σ H s){a:Addr}{c:EX}{xs:List V}(h:SqE X.K H a (.inr c))(k:SqL X.K H a xs):False:=by obtain⟨C,o,vs,_,_,e,c1,_⟩:=I.exc_at h;obtain⟨its',_,⟨o',n,e',c',_⟩,_⟩:=I.list k;rw[e] at e';cases e';rw[c1] at c';cases c'
theorem Inv.dct_at (I:Inv X pins σ H s){a:Addr}{kvs:List (Key×V)}(h:Rd H a (.dK kvs)):∃ o es ep,s.heap.get? a=some o/\o.data=.dict es ep:=by obtain⟨_,_,vs,_,o,es,ep,e,c,d,_⟩:=h.ok I.hok;exact⟨o,es,ep,e,d⟩
theorem Inv.dct_tup (I:Inv X pins σ H s){a:Addr}{kvs:List (Key×V)}{xs:List V}(h:Rd H a (.dK kvs))(k:SqT X.K H a xs):False:=by obtain⟨o,es,ep,e,d⟩:=I.dct_at h;obtain⟨its',_,⟨o',e',c',n,d'⟩,_⟩:=I.tuple k;rw[e] at e';cases e';rw[d] at d';cases d'
theorem Inv.dct_lst (I:Inv X pins σ H s){a:Addr}{kvs:List (Key×V)}{xs:List V}(h:Rd H a (.dK kvs))(k:SqL X.K H a xs):False:=by obtain⟨o,es,ep,e,d⟩:=I.dct_at h;obtain⟨its',_,⟨o',n,e',c',n',d'⟩,_⟩:=I.list k;rw[e] at e';cases e';rw[d] at d';cases d'
theorem Inv.exc_dct (I:Inv X pins σ H s){a:Addr}{c:EX}{kvs:List (Key×V)}(h:SqE X.K H a (.inr c))(k:Rd H a (.dK kvs)):False:=by obtain⟨C,o,vs,_,_,e,c1,d1,_⟩:=I.exc_at h;obtain⟨o',es,ep,e',d⟩:=I.dct_at k;rw[e] at e';cases e';rw[d] at d1;cases d1
theorem Inv.obj_at (I:Inv X pins σ H s){a C dx:Addr}{fs:List (Str×V)}(h:Rd H a (.ins C dx fs)):s.heap.get? a=some (PySem.W.instObj C dx):=(h.ok I.hok).2.2.2.1
theorem Inv.obj_tup (I:Inv X pins σ H s){a C dx:Addr}{fs:List (Str×V)}{xs:List V}(h:Rd H a (.ins C dx fs))(k:SqT X.K H a xs):False:=by have e:=I.obj_at h;obtain⟨its',_,⟨o',e',c',n,d'⟩,_⟩:=I.tuple k;rw[e] at e';cases e';cases d'
theorem Inv.obj_lst (I:Inv X pins σ H s){a C dx:Addr}{fs:List (Str×V)}{xs:List V}(h:Rd H a (.ins C dx fs))(k:SqL X.K H a xs):False:=by have e:=I.obj_at h;obtain⟨its',_,⟨o',n,e',c',n',d'⟩,_⟩:=I.list k;rw[e] at e';cases e';cases d'
theorem Inv.exc_obj (I:Inv X pins σ H s){a C dx:Addr}{fs:List (Str×V)}{c:EX}(h:SqE X.K H a (.inr c))(k:Rd H a (.ins C dx fs)):False:=by obtain⟨C,o,vs,_,_,e,c1,d1,_⟩:=I.exc_at h;have e':=I.obj_at k;rw[e] at e';cases e';cases d1
theorem Inv.dct_obj {H:Hp}{a C dx:Addr}{fs:List (Str×V)}{kvs:List (Key×V)}(h:Rd H a (.dK kvs))(k:Rd H a (.ins C dx fs)):False:=by rcases h with h|⟨o,h⟩<;>rcases k with k|⟨o',k⟩<;>(rw[h] at k;cases k)
theorem Rd.dk {H:Hp}{a:Addr}{u v:List (Key×V)}(h:Rd H a (.dK u))(k:Rd H a (.dK v)):u=v:=by rcases h with h|⟨o,h⟩<;>rcases k with k|⟨o',k⟩<;>(rw[h] at k;cases k;try rfl)
mutual
theorem HRep.one (I:Inv X pins σ H s):∀ {v:V}{d e:D},HRep X.K S H v d->HRep X.K S H v e->er d=er e
 | _,_,_,.non,h=>by cases h;rfl
 | _,_,_,.bl b,h=>by cases h;rfl
 | _,_,_,.int i,h=>by cases h;rfl
 | _,_,_,.str x,h=>by cases h;rfl
 | _,_,_,.exc h0,h=>by
  cases h with
  | exc k1=>exact congrArg D.exc (I.exc_one h0 k1)
  | tup k1 k2=>exact(I.exc_tup h0 k1).elim
  | lst k0 k1 k2=>exact(I.exc_lst h0 (.inl k1)).elim
  | lstK k1 k2=>exact(I.exc_lst h0 k1.sq).elim
  | dct k0 k1 k2 k3=>exact(I.exc_dct h0 k1).elim
  | obj k0 k1 k2 k3=>exact(I.exc_obj h0 k1).elim
 | _,_,_,.tup h1 h2,h=>by
  cases h with
  | exc k1=>exact(I.exc_tup k1 h1).elim
  | tup k1 k2=>have e:=I.tuple_inj h1 k1;subst e;rw[er,er,HReps.one I h2 k2]
  | lst k0 k1 k2=>exact(I.not_both (.inl k1) h1).elim
  | lstK k1 k2=>exact(I.not_both k1.sq h1).elim
  | dct k0 k1 k2 k3=>exact(I.dct_tup k1 h1).elim
  | obj k0 k1 k2 k3=>exact(I.obj_tup k1 h1).elim
 | _,_,_,.lst h0 h1 h2,h=>by
  cases h with
  | exc k1=>exact(I.exc_lst k1 (.inl h1)).elim
  | tup k1 k2=>exact(I.not_both (.inl h1) k1).elim
  | lst k0 k1 k2=>have e:=I.list_inj (.inl h1) (.inl k1);subst e;rw[er,er,HReps.one I h2 k2]
  | lstK k1 k2=>have e:=I.list_inj (.inl h1) k1.sq;subst e;rw[er,er,HReps.one I h2 k2]
  | dct k0 k1 k2 k3=>exact(I.dct_lst k1 (.inl h1)).elim
  | obj k0 k1 k2 k3=>exact(I.obj_lst k1 (.inl h1)).elim
 | _,_,_,.lstK h1 h2,h=>by
  cases h with
  | exc k1=>exact(I.exc_lst k1 h1.sq).elim
  | tup k1 k2=>exact(I.not_both h1.sq k1).elim
  | lst k0 k1 k2=>have e:=I.list_inj h1.sq (.inl k1);subst e;rw[er,er,HReps.one I h2 k2]
  | lstK k1 k2=>have e:=I.list_inj h1.sq k1.sq;subst e;rw[er,er,HReps.one I h2 k2]
  | dct k0 k1 k2 k3=>exact(I.dct_lst k1 h1.sq).elim
  | obj k0 k1 k2 k3=>exact(I.obj_lst k1 h1.sq).elim
 | _,_,_,.dct h0 h1 h2 h3,h=>by
  cases h with
  | exc k1=>exact(I.exc_dct k1 h1).elim
  | tup k1 k2=>exact(I.dct_tup h1 k1).elim
  | lst k0 k1 k2=>exact(I.dct_lst h1 (.inl k1)).elim
  | lstK k1 k2=>exact(I.dct_lst h1 k1.sq).elim
  | dct k0 k1 k2 k3=>have e:=Rd.dk h1 k1;subst e;rw[er,er,HReps.one I h3 k3,<- h2,<- k2]
  | obj k0 k1 k2 k3=>exact(Inv.dct_obj h1 k1).elim
 | _,_,_,.obj h0 h1 h2 h3,h=>by
  cases h with
  | exc k1=>exact(I.exc_obj k1 h1).elim
  | tup k1 k2=>exact(I.obj_tup h1 k1).elim
  | lst k0 k1 k2=>exact(I.obj_lst h1 (.inl k1)).elim
  | lstK k1 k2=>exact(I.obj_lst h1 k1.sq).elim
  | dct k0 k1 k2 k3=>exact(Inv.dct_obj k1 h1).elim
  | obj k0 k1 k2 k3=>obtain⟨⟨_,n1⟩,e1⟩:=h2;obtain⟨⟨_,n2⟩,e2⟩:=k2;rcases h1 with h1|⟨o,h1⟩<;>rcases k1 with k1|⟨o',k1⟩<;>(rw[h1] at k1;cases k1)<;>(rw[n1] at n2;cases n2;subst e1 e2;rw[er,er,HReps.one I h3 k3])
theorem HReps.one (I:Inv X pins σ H s):∀ {vs:List V}{ds es:List D},HReps X.K S H vs ds->HReps X.K S H vs es->ers ds=ers es
 | _,_,_,.nil,h=>by cases h;rfl
 | _,_,_,.cons h1 h2,h=>by
  cases h with
  | cons k1 k2=>rw[ers,ers,HRep.one I h1 k1,HReps.one I h2 k2]
end
end
theorem fA {α β:Type}{x:Res α}{f:α->Res β}{b:β}(h:bnd x f=.ok b):∃ a,x=.ok a/\f a=.ok b:=by
 cases x with
 | error e=>cases h
 | ok a=>exact⟨a,rfl,h⟩
theorem kA {α:Type}{c:Bool}{x:Res α}{b:α}(h:grd c x=.ok b):c=true/\x=.ok b:=by
 unfold grd at h
 induction c using zB with
 | true=>exact⟨rfl,h⟩
 | false=>cases h
theorem fL {f:D->D->Res Bool}(hf:∀ d e r,f d e=.ok r->er d=er e->r=true):∀ {ds es:List D}{r:Bool},fH f ds es=.ok r->ers ds=ers es->r=true
 | [],[],r,h,_=>by cases h;rfl
 | [],_::_,_,_,h=>by rw[ers,ers] at h;cases h
 | _::_,[],_,_,h=>by rw[ers,ers] at h;cases h
 | a::ds,b::es,r,h,h'=>by rw[ers,ers] at h';injection h' with e1 e2;obtain⟨x,hx,h⟩:=fA (show bnd (f a b) (fun x=>bnd (fH f ds es) fun y=>.ok (x&&y))=.ok r from h);obtain⟨y,hy,h⟩:=fA h;cases h;rw[hf a b x hx e1,fL hf hy e2];rfl
theorem gX:∀ (n:Nat) (d e:D) (r:Bool),eqN n d e=.ok r->er d=er e->r=true
 | 0,_,_,_,h,_=>by cases h
 | n+1,d,e,r,h,h'=>by
  induction d using zD with
  | tup ds=>
   induction e using zD with
   | tup es=>rw[er,er] at h';injection h' with e1;exact fL (gX n) h e1
   | non=>rw[er,er] at h';cases h'
   | bl _=>rw[er,er] at h';cases h'
   | int _=>rw[er,er] at h';cases h'
   | str _=>rw[er,er] at h';cases h'
   | lst _ _=>rw[er,er] at h';cases h'
   | exc _=>cases h
   | dct _ _ _=>cases h
   | obj _ _ _ _=>cases h
  | lst o ds=>
   induction e using zD with
   | lst o' es=>rw[er,er] at h';injection h' with _ e1;exact fL (gX n) h e1
   | non=>rw[er,er] at h';cases h'
   | bl _=>rw[er,er] at h';cases h'
   | int _=>rw[er,er] at h';cases h'
   | str _=>rw[er,er] at h';cases h'
   | tup _=>rw[er,er] at h';cases h'
   | exc _=>cases h
   | dct _ _ _=>cases h
   | obj _ _ _ _=>cases h
  | exc _=>cases h
  | dct _ _ _=>induction e using zD<;>cases h
  | obj _ _ _ _=>induction e using zD<;>cases h
  | non=>induction e using zD<;>first|(cases h;done)|(cases h;rfl)|(exfalso;simp[er] at h')
  | bl b=>induction e using zD<;>first|(simp only[er,D.bl.injEq] at h';subst h';cases h;simp)|(exfalso;simp[er] at h')
  | int b=>induction e using zD<;>first|(simp only[er,D.int.injEq] at h';subst h';cases h;simp)|(exfalso;simp[er] at h')
  | str b=>induction e using zD<;>first|(simp only[er,D.str.injEq] at h';subst h';cases h;simp)|(exfalso;simp[er] at h')
theorem lU {f:D->D->Res Bool}:∀ {ds es:List D}{r:Bool},fH f ds es=.ok r->ds.length≠es.length->r=false
 | [],[],_,_,h=>absurd rfl h
 | [],_::_,_,h,_=>by cases h;rfl
 | _::_,[],_,h,_=>by cases h;rfl
 | a::ds,b::es,r,h,n=>by obtain⟨x,hx,h⟩:=fA (show bnd (f a b) (fun x=>bnd (fH f ds es) fun y=>.ok (x&&y))=.ok r from h);obtain⟨y,hy,h⟩:=fA h;cases h;rw[lU hy (fun z=>n (by rw[List.length_cons,List.length_cons,z]))];simp
theorem n4 {f:D->D->Res Bool}:∀ {ds es:List D}{r:Bool},fH f ds es=.ok r->ds.length=es.length->
  ∃ e:Nat->Bool,(∀ j a b,ds[j]? = some a->es[j]? = some b->f a b=.ok (e j))/\r=(List.range ds.length).all e
 | [],[],r,h,_=>by cases h;exact⟨fun _=>true,fun j a b h=>by simp at h,rfl⟩
 | [],_::_,_,_,h=>by cases h
 | _::_,[],_,_,h=>by cases h
 | a::ds,b::es,r,h,n=>by
  obtain⟨x,hx,h⟩:=fA (show bnd (f a b) (fun x=>bnd (fH f ds es) fun y=>.ok (x&&y))=.ok r from h);obtain⟨y,hy,h⟩:=fA h;cases h;obtain⟨e,h1,h2⟩:=n4 hy (by simpa using n);refine⟨fun j=>match j with|0=>x|k+1=>e k,fun j a' b' e1 e2=>?_,?_⟩
  ·cases j with
   | zero=>simp at e1 e2;subst e1 e2;exact hx
   | succ k=>exact h1 k a' b' (by simpa using e1) (by simpa using e2)
  ·rw[h2,List.length_cons,List.range_succ_eq_map,List.all_cons,List.all_map];rfl
section
variable {X:Cx}{pins:List (Addr×Obj)}{σ:St}{H:Hp}{S:Addr->Prop}{s:Shared}
structure EqAll (A:Around)(s:Shared)(v u:Value)(r:Bool):Prop where
 eq:EqAt A s v u r
 rc:RcAt A s v u r
 ne:RcNeAt A s v u (!r)
theorem lV (n:Nat)(A:Around)(ih:∀ (x y:V)(v u:Value)(d e:D)(r:Bool),HRep X.K S H x d->HRep X.K S H y e->RelV x v->RelV y u->eqN n d e=.ok r->EqAt A.in1 s v u r)
  {xs ys:List V}{ds es:List D}{its its':List Value}{r:Bool} (rv:Vals xs its) (rv':Vals ys its') (h2:HReps X.K S H xs ds) (k2:HReps X.K S H ys es) (hr:fH (eqN n) ds es=.ok r) :
  ∃ e:Nat->Bool,(∀ j (q1:j < its.toArray.size) (q2:j < its'.toArray.size),EqAt A.in1 s its.toArray[j] its'.toArray[j] (e j))/\r=((List.range (min its.toArray.size its'.toArray.size)).all e&&its.toArray.size == its'.toArray.size):=by
 have l1:=h2.length;have l2:=k2.length;have l3:=rv.length;have l4:=rv'.length;have pair:∀ j (j1:j < its.toArray.size) (j2:j < its'.toArray.size) (b:Bool) (d1:j < ds.length) (d2:j < es.length),eqN n ds[j] es[j]=.ok b->EqAt A.in1 s its.toArray[j] its'.toArray[j] b:=by
  intro j j1 j2 b d1 d2 hb;obtain⟨x',e1,m1⟩:=h2.get (i:=j) (d:=ds[j]) (by simp);obtain⟨y',e2,m2⟩:=k2.get (i:=j) (d:=es[j]) (by simp);obtain⟨v',ev,rv1⟩:=rv.get e1;obtain⟨u',eu,ru1⟩:=rv'.get e2;have hv:its.toArray[j]=v':=by have:=(List.getElem?_eq_some_iff.mp ev).2;simpa using this
  have hu':its'.toArray[j]=u':=by have:=(List.getElem?_eq_some_iff.mp eu).2;simpa using this
  rw[hv,hu'];exact ih x' y' v' u' _ _ _ m1 m2 rv1 ru1 hb
 have z1:its.toArray.size=ds.length:=by simp;omega
 have z2:its'.toArray.size=es.length:=by simp;omega
 by_cases hl:ds.length=es.length
 ·obtain⟨e,q1,q2⟩:=n4 hr hl;refine⟨e,fun j j1 j2=>pair j j1 j2 _ (by omega) (by omega) (q1 j _ _ (by simp) (by simp)),?_⟩;rw[q2,z1,z2,hl];simp
 ·have hr':=lU hr hl;have each:∀ (ds es:List D) (r:Bool),fH (eqN n) ds es=.ok r->∀ j (q1:j < ds.length) (q2:j < es.length),∃ b,eqN n ds[j] es[j]=.ok b:=by
   intro ds
   induction ds with
   | nil=>intro es r _ j q1;simp at q1
   | cons a ds ih=>
    intro es r h j q1 q2
    induction es using zL with
    | nil=>simp at q2
    | cons b es=>
     obtain⟨x,hx,h⟩:=fA (show bnd (eqN n a b) (fun x=>bnd (fH (eqN n) ds es) fun y=>.ok (x&&y))=.ok r from h);obtain⟨y,hy,h⟩:=fA h;cases j with
     | zero=>exact⟨x,hx⟩
     | succ k=>exact ih es y hy k (by simpa using q1) (by simpa using q2)
  refine⟨fun j=>if q:j < ds.length/\j < es.length then ((match eqN n (ds[j]'q.1) (es[j]'q.2) with|.ok b=>b|.error _=>false)) else false,fun j j1 j2=>?_,?_⟩
  ·have d1:j < ds.length:=by omega
   have d2:j < es.length:=by omega
   obtain⟨b,hb⟩:=each ds es r hr j d1 d2;have q:=pair j j1 j2 b d1 d2 hb;show EqAt A.in1 s its.toArray[j] its'.toArray[j] (dite _ _ _);rw[dif_pos (show j < ds.length/\j < es.length from ⟨d1,d2⟩),hb];exact q
  ·rw[hr'];have:(its.toArray.size == its'.toArray.size)=false:=by rw[beq_eq_false_iff_ne,z1,z2];exact hl
   rw[this,Bool.and_false]
theorem qL (I:Inv X pins σ H s)(n:Nat)(A:Around)(ih:∀ (x y:V)(v u:Value)(d e:D)(r:Bool),HRep X.K S H x d->HRep X.K S H y e->RelV x v->RelV y u->eqN n d e=.ok r->EqAt A.in1 s v u r)
  {a b:Addr}{o o':Bool}{xs ys:List V}{ds es:List D}{r:Bool} (ha:SqL X.K H a xs) (hb:SqL X.K H b ys) (h2:HReps X.K S H xs ds) (k2:HReps X.K S H ys es)
  (m1:HRep X.K S H (.ref a) (.lst o ds)) (m2:HRep X.K S H (.ref b) (.lst o' es)) (hr:fH (eqN n) ds es=.ok r) (hu0:A.units < cLine):EqAll A s (.ref a) (.ref b) r:=by
 obtain⟨its,rv,p,_⟩:=I.list ha;obtain⟨its',rv',p',_⟩:=I.list hb;obtain⟨e,he,hre⟩:=lV n A ih rv rv' h2 k2 hr;have both:RcAt A s (.ref a) (.ref b) r/\RcNeAt A s (.ref a) (.ref b) (!r):=by
  by_cases hl:its.toArray.size=its'.toArray.size
  ·have hre':r=(List.range its.toArray.size).all e:=by rw[hre,<- hl,Nat.min_self];simp
   rw[hre'];exact⟨.lists p.isList p'.isList hl hu0 he,.lists p.isList p'.isList hl hu0 he⟩
  ·have hne:(its.toArray.size != its'.toArray.size)=true:=by simpa using hl
   have hre':r=false:=by
    rw[hre];have:(its.toArray.size == its'.toArray.size)=false:=by rw[beq_eq_false_iff_ne];exact hl
    rw[this,Bool.and_false]
   rw[hre'];exact⟨.lists_lengths p.isList p'.isList hne hu0,.lists_lengths p.isList p'.isList hne hu0⟩
 refine⟨?_,both.1,both.2⟩;by_cases hab:a=b
 ·subst hab;have hd:=HRep.one I m1 m2;rw[er,er] at hd;injection hd with _ hd;rw[fL (gX n) hr hd];exact .same _
 ·exact .of_refs hab both.1
set_option maxHeartbeats 4000000 in
theorem kB (I:Inv X pins σ H s):∀ (n:Nat) (A:Around) (x y:V) (v u:Value) (d e:D) (r:Bool),HRep X.K S H x d->HRep X.K S H y e->RelV x v->RelV y u->eqN n d e=.ok r->
  A.units+n < cLine->EqAll A s v u r
 | 0,_,_,_,_,_,_,_,_,_,_,_,_,h,_=>by cases h
 | n+1,A,x,y,v,u,d,e,r,hx,hy,rx,ry,h,hu=>by
  have hu0:A.units < cLine:=by omega
  have hu1:A.in1.units+n < cLine:=by show A.units+1+n < cLine;omega
  have ih:∀ (x y:V) (v u:Value) (d e:D) (r:Bool),HRep X.K S H x d->HRep X.K S H y e->RelV x v->RelV y u->eqN n d e=.ok r->EqAt A.in1 s v u r:=
   fun x y v u d e r a1 a2 a3 a4 a5=>(kB I n A.in1 x y v u d e r a1 a2 a3 a4 a5 hu1).eq
  induction d using zD with
  | non=>
   cases hx.nonR;cases rx
   induction e using zD with
   | non=>cases hy.nonR;cases ry;cases h;exact⟨.same _,.none_none,.none_none⟩
   | bl b'=>cases hy.blR;cases ry;cases h;exact⟨.none_bool _,.none_bool _,.none_bool _⟩
   | int i'=>cases hy.intR;obtain⟨t2,rfl⟩:=ry;cases h;exact⟨.none_int _ _,.none_int _ _,.none_int _ _⟩
   | str z'=>cases hy.strR;obtain⟨t2,rfl⟩:=ry;cases h;exact⟨.none_str _ _,.none_str _ _,.none_str _ _⟩
   | tup es=>obtain⟨a2,xs2,rfl,q2,m2⟩:=hy.tupR;cases ry;obtain⟨its2,rv2,p2,_⟩:=I.tuple q2;cases h;exact⟨.none_tuple p2 hu0,.none_tuple p2 hu0,.none_tuple p2 hu0⟩
   | lst o' es=>obtain⟨a2,xs2,rfl,q2,m2⟩:=hy.lstR;cases ry;obtain⟨its2,rv2,p2,_⟩:=I.list q2;cases h;exact⟨.none_list p2.isList hu0,.none_list p2.isList hu0,.none_list p2.isList hu0⟩
   | exc _=>cases h
   | dct _ _ _=>cases h
   | obj _ _ _ _=>cases h
  | bl b=>
   cases hx.blR;cases rx
   induction e using zD with
   | non=>cases hy.nonR;cases ry;cases h;exact⟨.bool_none _,.bool_none _,.bool_none _⟩
   | bl b'=>cases hy.blR;cases ry;cases h;exact⟨.bool_bool _ _,.bool_bool _ _,.bool_bool _ _⟩
   | int i'=>cases hy.intR;obtain⟨t2,rfl⟩:=ry;cases h;exact⟨.bool_int _ _ _,.bool_int _ _ _,.bool_int _ _ _⟩
   | str z'=>cases hy.strR;obtain⟨t2,rfl⟩:=ry;cases h;exact⟨.bool_str _ _ _,.bool_str _ _ _,.bool_str _ _ _⟩
   | tup es=>obtain⟨a2,xs2,rfl,q2,m2⟩:=hy.tupR;cases ry;obtain⟨its2,rv2,p2,_⟩:=I.tuple q2;cases h;exact⟨.bool_tuple _ p2 hu0,.bool_tuple _ p2 hu0,.bool_tuple _ p2 hu0⟩
   | lst o' es=>obtain⟨a2,xs2,rfl,q2,m2⟩:=hy.lstR;cases ry;obtain⟨its2,rv2,p2,_⟩:=I.list q2;cases h;exact⟨.bool_list _ p2.isList hu0,.bool_list _ p2.isList hu0,.bool_list _ p2.isList hu0⟩
   | exc _=>cases h
   | dct _ _ _=>cases h
   | obj _ _ _ _=>cases h
  | int i=>
   cases hx.intR;obtain⟨t1,rfl⟩:=rx
   induction e using zD with
   | non=>cases hy.nonR;cases ry;cases h;exact⟨.int_none _ _,.int_none _ _,.int_none _ _⟩
   | bl b'=>cases hy.blR;cases ry;cases h;exact⟨.int_bool _ _ _,.int_bool _ _ _,.int_bool _ _ _⟩
   | int i'=>cases hy.intR;obtain⟨t2,rfl⟩:=ry;cases h;exact⟨.int_int _ _ _ _,.int_int _ _ _ _,.int_int _ _ _ _⟩
   | str z'=>cases hy.strR;obtain⟨t2,rfl⟩:=ry;cases h;exact⟨.int_str _ _ _ _,.int_str _ _ _ _,.int_str _ _ _ _⟩
   | tup es=>obtain⟨a2,xs2,rfl,q2,m2⟩:=hy.tupR;cases ry;obtain⟨its2,rv2,p2,_⟩:=I.tuple q2;cases h;exact⟨.int_tuple _ _ p2 hu0,.int_tuple _ _ p2 hu0,.int_tuple _ _ p2 hu0⟩
   | lst o' es=>obtain⟨a2,xs2,rfl,q2,m2⟩:=hy.lstR;cases ry;obtain⟨its2,rv2,p2,_⟩:=I.list q2;cases h;exact⟨.int_list _ _ p2.isList hu0,.int_list _ _ p2.isList hu0,.int_list _ _ p2.isList hu0⟩
   | exc _=>cases h
   | dct _ _ _=>cases h
   | obj _ _ _ _=>cases h
  | str z=>
   cases hx.strR;obtain⟨t1,rfl⟩:=rx
   induction e using zD with
   | non=>cases hy.nonR;cases ry;cases h;exact⟨.str_none _ _,.str_none _ _,.str_none _ _⟩
   | bl b'=>cases hy.blR;cases ry;cases h;exact⟨.str_bool _ _ _,.str_bool _ _ _,.str_bool _ _ _⟩
   | int i'=>cases hy.intR;obtain⟨t2,rfl⟩:=ry;cases h;exact⟨.str_int _ _ _ _,.str_int _ _ _ _,.str_int _ _ _ _⟩
   | str z'=>cases hy.strR;obtain⟨t2,rfl⟩:=ry;cases h;exact⟨.str_str _ _ _ _,.str_str _ _ _ _,.str_str _ _ _ _⟩
   | tup es=>obtain⟨a2,xs2,rfl,q2,m2⟩:=hy.tupR;cases ry;obtain⟨its2,rv2,p2,_⟩:=I.tuple q2;cases h;exact⟨.str_tuple _ _ p2 hu0,.str_tuple _ _ p2 hu0,.str_tuple _ _ p2 hu0⟩
   | lst o' es=>obtain⟨a2,xs2,rfl,q2,m2⟩:=hy.lstR;cases ry;obtain⟨its2,rv2,p2,_⟩:=I.list q2;cases h;exact⟨.str_list _ _ p2.isList hu0,.str_list _ _ p2.isList hu0,.str_list _ _ p2.isList hu0⟩
   | exc _=>cases h
   | dct _ _ _=>cases h
   | obj _ _ _ _=>cases h
  | tup ds=>
   obtain⟨a1,xs1,rfl,q1,m1⟩:=hx.tupR;cases rx;obtain⟨its1,rv1,p1,_⟩:=I.tuple q1
   induction e using zD with
   | non=>cases hy.nonR;cases ry;cases h;exact⟨.tuple_none p1 hu0,.tuple_none p1 hu0,.tuple_none p1 hu0⟩
   | bl b'=>cases hy.blR;cases ry;cases h;exact⟨.tuple_bool _ p1 hu0,.tuple_bool _ p1 hu0,.tuple_bool _ p1 hu0⟩
   | int i'=>cases hy.intR;obtain⟨t2,rfl⟩:=ry;cases h;exact⟨.tuple_int _ _ p1 hu0,.tuple_int _ _ p1 hu0,.tuple_int _ _ p1 hu0⟩
   | str z'=>cases hy.strR;obtain⟨t2,rfl⟩:=ry;cases h;exact⟨.tuple_str _ _ p1 hu0,.tuple_str _ _ p1 hu0,.tuple_str _ _ p1 hu0⟩
   | tup es=>
    have hx':=hx;have hy':=hy;obtain⟨a2,xs2,rfl,q2,m2⟩:=hy.tupR;cases ry;obtain⟨its2,rv2,p2,_⟩:=I.tuple q2;have hr:fH (eqN n) ds es=.ok r:=h;obtain⟨e,he,hre⟩:=lV n A ih rv1 rv2 m1 m2 hr;refine⟨?_,?_,?_⟩
    ·by_cases hab:a1=a2
     ·subst hab;have hd:=HRep.one I hx' hy';rw[er,er] at hd;injection hd with hd;rw[fL (gX n) hr hd];exact .same _
     ·rw[hre];exact .of_refs hab (.tuples p1 p2 hu0 he)
    ·rw[hre];exact .tuples p1 p2 hu0 he
    ·rw[hre];exact .tuples p1 p2 hu0 he
   | lst o' es=>obtain⟨a2,xs2,rfl,q2,m2⟩:=hy.lstR;cases ry;obtain⟨its2,rv2,p2,_⟩:=I.list q2;cases h;exact⟨.tuple_list p1 p2.isList hu0,.tuple_list p1 p2.isList hu0,.tuple_list p1 p2.isList hu0⟩
   | exc _=>cases h
   | dct _ _ _=>cases h
   | obj _ _ _ _=>cases h
  | lst o ds=>
   obtain⟨a1,xs1,rfl,q1,m1⟩:=hx.lstR;cases rx;obtain⟨its1,rv1,p1,_⟩:=I.list q1
   induction e using zD with
   | non=>cases hy.nonR;cases ry;cases h;exact⟨.list_none p1.isList hu0,.list_none p1.isList hu0,.list_none p1.isList hu0⟩
   | bl b'=>cases hy.blR;cases ry;cases h;exact⟨.list_bool _ p1.isList hu0,.list_bool _ p1.isList hu0,.list_bool _ p1.isList hu0⟩
   | int i'=>cases hy.intR;obtain⟨t2,rfl⟩:=ry;cases h;exact⟨.list_int _ _ p1.isList hu0,.list_int _ _ p1.isList hu0,.list_int _ _ p1.isList hu0⟩
   | str z'=>cases hy.strR;obtain⟨t2,rfl⟩:=ry;cases h;exact⟨.list_str _ _ p1.isList hu0,.list_str _ _ p1.isList hu0,.list_str _ _ p1.isList hu0⟩
   | tup es=>obtain⟨a2,xs2,rfl,q2,m2⟩:=hy.tupR;cases ry;obtain⟨its2,rv2,p2,_⟩:=I.tuple q2;cases h;exact⟨.list_tuple p1.isList p2 hu0,.list_tuple p1.isList p2 hu0,.list_tuple p1.isList p2 hu0⟩
   | lst o' es=>have hx':=hx;have hy':=hy;obtain⟨a2,xs2,rfl,q2,m2⟩:=hy.lstR;cases ry;obtain⟨its2,rv2,p2,_⟩:=I.list q2;exact qL I n A ih q1 q2 m1 m2 hx' hy' h hu0
   | exc _=>cases h
   | dct _ _ _=>cases h
   | obj _ _ _ _=>cases h
  | exc _=>cases h
  | dct _ _ _=>induction e using zD<;>cases h
  | obj _ _ _ _=>induction e using zD<;>cases h
end
abbrev nw (S:Addr->Prop)(H:Hp):Addr->Prop:=fun a=>S a∨H a=none
abbrev Kk (K:PySem.W.Frag)(S:Addr->Prop)(H:Hp)(Q:VK):D->Prop:=fun d=>∀ w H',cO H H'->HRep K (nw S H) H' w d->Q w H'
theorem HRep.nw {K:PySem.W.Frag}{S:Addr->Prop}{H:Hp}{v:V}{d:D}(h:HRep K S H v d):HRep K (nw S H) H v d:=h.mono (fun _=>.inl) (.refl _)
theorem ym {K:PySem.W.Frag}{S:Addr->Prop}{H:Hp}{p:Addr}{vs:List V}{ds:List D}(hp:H p=none)(h:HReps K S H vs ds):HRep K (nw S H) (upd H p (.tup vs)) (.ref p) (.tup ds):=
 .tup (.inl (.inl cP)) (h.mono (fun _=>.inl) (.upd hp))
theorem lX {K:PySem.W.Frag}{S:Addr->Prop}{H:Hp}{p:Addr}{vs:List V}{ds:List D}{o:Bool}(hp:H p=none)(h:HReps K S H vs ds):HRep K (nw S H) (upd H p (.lst vs)) (.ref p) (.lst o ds):=
 .lst (.inr hp) (.inl cP) (h.mono (fun _=>.inl) (.upd hp))
noncomputable def bop:BOp->Operator
 | .add=>.Add|.sub=>.Sub|.mul=>.Mult|.fdiv=>.FloorDiv|.mod=>.Mod|.pow=>.Pow
noncomputable def cop:COp->CmpOp
 | .eq=>.Eq|.ne=>.NotEq|.lt=>.Lt|.le=>.LtE|.gt=>.Gt|.ge=>.GtE|.in_=>.In|.nin=>.NotIn|.is_=>.Is|.isn=>.IsNot
noncomputable def C6 (K:PySem.W.Frag)(ex:EX->Prop)(op:BOp):R2:=fun x y H Q=>∃ S d e,HRep K S H x d/\HRep K S H y e/\PO' ex (opB op d e) (Kk K S H Q)
noncomputable def C7 (K:PySem.W.Frag)(ex:EX->Prop)(op:COp):R2:=fun x y H Q=>∃ S d e,HRep K S H x d/\HRep K S H y e/\PO' ex (opC op d e) fun r=>Q (.bl r) H
section
variable {X:Cx}{ex:EX->Prop}
theorem dS {n:Nat}(h:dR n=true):n<=sizeLine:=of_decide_eq_true h
theorem kC {n:Nat}(h:gm n=true):n < sizeLine:=of_decide_eq_true h
theorem n5:OpR X (binaryOp .Add) (fun x y H Q=>∃ l b xs zs,x=.ref l/\y=.ref b/\Ls X.K H l xs/\Ls X.K H b zs/\xs.length+zs.length<=sizeLine/\∀ p,H p=none->Q (.ref p) (upd H p (.lst (xs++zs)))):=by
 intro pins s σ H x y v u Q I rx ry h;obtain⟨l,b,xs,zs,rfl,rfl,hH,hB,hz,q⟩:=h;cases rx;cases ry;obtain⟨hl,its,n,r,e⟩:=I.ls hH;obtain⟨hl2,its2,n2,r2,e'⟩:=I.ls hB;have e1:=r.length;have e2:=r2.length;refine PySem.P.add_list e e' ?_ (by rw[List.size_toArray,List.size_toArray];omega);have ea:its.toArray++its2.toArray=(its++its2).toArray:=by simp
 rw[ea];exact⟨.ref _,_,I.lnew (t':=s.toks) (r.append r2) (by rw[List.length_append];omega),rfl,q _ I.fresh⟩
theorem qM {vs:List V}{its:List Value}(r:Vals vs its):∀ k:Nat,Vals (List.replicate k vs).flatten (List.replicate k its).flatten:=r.rep
theorem n6:OpR X (binaryOp .Mult) (fun x y H Q=>∃ l k xs,x=.ref l/\y=.int k/\Ls X.K H l xs/\0<=k/\k<=16000/\xs.length<=1000/\∀ p,H p=none->Q (.ref p) (upd H p (.lst (List.replicate k.toNat xs).flatten))):=by
 intro pins s σ H x y v u Q I rx ry h;obtain⟨l,k,xs,rfl,rfl,hH,h1,h2,hx,q⟩:=h;cases rx;obtain⟨t,rfl⟩:=ry;obtain⟨hl,its,n,r,e⟩:=I.ls hH;have el:=r.length;have hz:xs.length*k.toNat<=1000*16000:=Nat.mul_le_mul hx (by omega);have big:1000*16000<=sizeLine:=by decide
 have hsz:its.toArray.size*k.toNat<=sizeLine:=by rw[List.size_toArray,<- el];omega
 have c1:¬ its.toArray.size*k.toNat > (2 ^ 63 - 1) / 8:=by
  have:(sizeLine:Nat)<=(2 ^ 63 - 1) / 8:=by decide
  omega
 have c2:¬ (!Builtin.List.listFitsIndex k)=true:=by rw[fitsIndex_both (by omega) (by omega)];exact Bool.false_ne_true
 have c3:¬ Builtin.List.listTooLong (its.toArray.size*k.toNat)=true:=by rw[qy hsz];exact Bool.false_ne_true
 have f0:∀ m:Nat,List.foldl (fun a b=>a++b) #[] (List.replicate m its.toArray)=(List.replicate m its).flatten.toArray:=fun m=>by have z:=foldl_rep its m [];rw[List.nil_append] at z;exact z
 have f1:List.foldl (fun a b=>a++b) #[] (List.replicate (if its.toArray.isEmpty=true then 0 else k.toNat) its.toArray)=(List.replicate k.toNat its).flatten.toArray:=by
  rw[f0]
  induction its using zL with
  | nil=>simp
  | cons _ _=>rw[if_neg (by simp)]
 refine wpAny_binaryOp_repeat_ref (T:="list") (U:="int") (by decide) ⟨_,e,rfl⟩ (fun s'=>typeIs_int s' k t) noFill_list_mul F.fills_int_mul F.slot_int_rmul repeat_list F.slot_int_index.lookup (call_meets F.slot_int_rmul (typeIs_int s k t) F.entry_int_rmul (F.args_int_rmul_2 _ _) (int___rmul___int_list k t l its.toArray n) ⟨e,rfl,⟨_,e,rfl⟩,call_meets F.slot_list_mul ⟨_,e,rfl⟩ F.entry_list_mul (F.args_list_mul_2 _ _) (AutoListH.list___mul___list_int_3 l its.toArray n k t c2 c1 c3) ⟨e,?_⟩⟩);rw[f1];exact⟨.ref _,_,I.lnew (t':=s.toks) (qM r k.toNat) (by rw[len_rep,Nat.mul_comm];omega),rfl,q _ I.fresh⟩
theorem HReps.rep {K:PySem.W.Frag}{S:Addr->Prop}{H:Hp}{vs:List V}{ds:List D}(m:HReps K S H vs ds):∀ k:Nat,HReps K S H (List.replicate k vs).flatten (List.replicate k ds).flatten
 | 0=>.nil
 | k+1=>by rw[List.replicate_succ,List.replicate_succ,List.flatten_cons,List.flatten_cons];exact m.append (HReps.rep m k)
theorem yn (op:BOp):OpR X (binaryOp (bop op)) (C6 X.K ex op):=by
 intro pins s σ H x y v u Q I rx ry h;obtain⟨S,d,e,hx,hy,h⟩:=h;have stuck:∀ {P:Prop},opB op d e=stk->P:=fun z=>by rw[z] at h;exact h.no.elim
 cases op with
 | add=>
  induction d using zD with
  | int a=>
   induction e using zD with
   | int b=>cases hx.intR;cases hy.intR;exact xR pins s σ H _ _ v u Q I rx ry ⟨a,b,rfl,rfl,h.ok _ _ (.refl _) (.int _)⟩
   | _=>exact stuck rfl
  | str a=>
   induction e using zD with
   | str b=>cases hx.strR;cases hy.strR;obtain⟨g,h⟩:=PO'.grd h;exact mM pins s σ H _ _ v u Q I rx ry ⟨a,b,rfl,rfl,dS g,h.ok _ _ (.refl _) (.str _)⟩
   | _=>exact stuck rfl
  | lst o a=>
   induction e using zD with
   | lst o' b=>obtain⟨p,xs,rfl,q1,m1⟩:=hx.lstL;obtain⟨p',ys,rfl,q2,m2⟩:=hy.lstL;obtain⟨g,h⟩:=PO'.grd h;have g':=dS g;have l1:=m1.length;have l2:=m2.length;exact n5 pins s σ H _ _ v u Q I rx ry ⟨p,p',xs,ys,rfl,rfl,q1,q2,by omega,fun z hz=>h.ok _ _ (.upd hz) (lX hz (m1.append m2))⟩
   | _=>exact stuck rfl
  | _=>exact stuck rfl
 | sub=>
  induction d using zD with
  | int a=>
   induction e using zD with
   | int b=>cases hx.intR;cases hy.intR;exact xS pins s σ H _ _ v u Q I rx ry ⟨a,b,rfl,rfl,h.ok _ _ (.refl _) (.int _)⟩
   | _=>exact stuck rfl
  | _=>exact stuck rfl
 | mul=>
  induction d using zD with
  | int a=>
   induction e using zD with
   | int b=>cases hx.intR;cases hy.intR;obtain⟨g,h⟩:=PO'.grd h;rw[Bool.or_eq_true] at g;exact xT pins s σ H _ _ v u Q I rx ry ⟨a,b,rfl,rfl,g.elim (fun z=>.inl (of_decide_eq_true z)) (fun z=>.inr (of_decide_eq_true z)),h.ok _ _ (.refl _) (.int _)⟩
   | _=>exact stuck rfl
  | str a=>
   induction e using zD with
   | int b=>cases hx.strR;cases hy.intR;obtain⟨g,h⟩:=PO'.grd h;have g':=of_decide_eq_true g;exact mR pins s σ H _ _ v u Q I rx ry ⟨a,b,rfl,rfl,g'.1,g'.2.1,g'.2.2,h.ok _ _ (.refl _) (.str _)⟩
   | _=>exact stuck rfl
  | lst o a=>
   induction e using zD with
   | int b=>obtain⟨p,xs,rfl,q1,m1⟩:=hx.lstL;cases hy.intR;obtain⟨g,h⟩:=PO'.grd h;have g':=of_decide_eq_true g;have l1:=m1.length;exact n6 pins s σ H _ _ v u Q I rx ry ⟨p,b,xs,rfl,rfl,q1,g'.1,g'.2.1,by rw[l1];exact g'.2.2,fun z hz=>h.ok _ _ (.upd hz) (lX hz (m1.rep _))⟩
   | _=>exact stuck rfl
  | _=>exact stuck rfl
 | fdiv=>
  induction d using zD with
  | int a=>
   induction e using zD with
   | int b=>cases hx.intR;cases hy.intR;obtain⟨g,h⟩:=PO'.grd h;exact t5 pins s σ H _ _ v u Q I rx ry ⟨a,b,rfl,rfl,show 0 < b/\b < 1073741824 from of_decide_eq_true g,h.ok _ _ (.refl _) (.int _)⟩
   | _=>exact stuck rfl
  | _=>exact stuck rfl
 | mod=>
  induction d using zD with
  | int a=>
   induction e using zD with
   | int b=>cases hx.intR;cases hy.intR;obtain⟨g,h⟩:=PO'.grd h;exact xU pins s σ H _ _ v u Q I rx ry ⟨a,b,rfl,rfl,of_decide_eq_true g,h.ok _ _ (.refl _) (.int _)⟩
   | _=>exact stuck rfl
  | _=>exact stuck rfl
 | pow=>
  induction d using zD with
  | int a=>
   induction e using zD with
   | int b=>cases hx.intR;cases hy.intR;obtain⟨g,h⟩:=PO'.grd h;exact xV pins s σ H _ _ v u Q I rx ry ⟨a,b,rfl,rfl,show 0<=b/\b<=1000000/\a.natAbs < 2 ^ 64 from of_decide_eq_true g,h.ok _ _ (.refl _) (.int _)⟩
   | _=>exact stuck rfl
  | _=>exact stuck rfl
theorem PO'.eqN {ex:EX->Prop}:∀ {n:Nat}{d e:D}{k:Bool->Prop},PO' ex (L2.eqN n d e) k->∃ r,L2.eqN n d e=.ok r/\k r:=by
 have no:∀ (n:Nat) (d e:D) (c:EX),L2.eqN n d e≠.error (.exc c):=by
  intro n;have seqs:∀ (f:D->D->Res Bool),(∀ d e c,f d e≠.error (.exc c))->∀ (ds es:List D) (c:EX),fH f ds es≠.error (.exc c):=by
   intro f hf ds
   induction ds with
   | nil=>intro es c h;cases es<;>cases h
   | cons a ds ih=>
    intro es c h
    induction es using zL with
    | nil=>cases h
    | cons b es=>
     have h':L2.bnd (f a b) (fun x=>L2.bnd (fH f ds es) fun y=>.ok (x&&y))=.error (.exc c):=h;cases q:f a b with
     | error z=>rw[q] at h';exact hf a b c (by rw[q];exact h')
     | ok x=>
      rw[q] at h';have h2:L2.bnd (fH f ds es) (fun y=>.ok (x&&y))=.error (.exc c):=h';cases q2:fH f ds es with
      | error z=>rw[q2] at h2;exact ih es c (by rw[q2];exact h2)
      | ok y=>rw[q2] at h2;cases h2
  induction n with
  | zero=>intro d e c h;cases h
  | succ n ih=>
   intro d e c h
   induction d using zD<;>induction e using zD<;>first|cases h|exact seqs _ ih _ _ _ h
 intro n d e k h;cases q:L2.eqN n d e with
 | ok r=>rw[q] at h;exact⟨r,rfl,h⟩
 | error z=>
  rw[q] at h;cases z with
  | stuck=>exact h.no.elim
  | exc c=>exact absurd q (no n d e c)
theorem PO'.anyN {ex:EX->Prop}{d:D}:∀ {ds:List D}{k:Bool->Prop},PO' ex (L2.anyN d ds) k->∃ f:Nat->Bool,(∀ i e,ds[i]? = some e->L2.eqN 40 e d=.ok (f i))/\k ((List.range ds.length).any f)
 | [],k,h=>⟨fun _=>false,fun i e z=>by simp at z,h⟩
 | e::r,k,h=>by
  obtain⟨x,ex',h1⟩:=PO'.eqN (PO'.bnd h);obtain⟨f,h2,h3⟩:=PO'.anyN (PO'.bnd h1);refine⟨fun i=>match i with|0=>x|j+1=>f j,fun i e' z=>?_,?_⟩
  ·cases i with
   | zero=>simp at z;subst z;exact ex'
   | succ j=>exact h2 j e' (by simpa using z)
  ·rw[List.length_cons,List.range_succ_eq_map,List.any_cons,List.any_map];exact h3
theorem m4 {A:Around}{s:Shared}{v:Value}(its:List Value)(f:Nat->Bool)(h:∀ i u,its[i]? = some u->EqAt A s u v (f i)) :
  ∃ e:Value->Bool,(∀ y,y∈its.toArray->EqAt A s y v (e y))/\its.toArray.any e=(List.range its.length).any f:=by
 classical
 refine⟨fun y=>decide (∃ i,its[i]? = some y/\f i=true),fun y hy=>?_,?_⟩
 ·have hy':y∈its:=by simpa using hy
  obtain⟨j,hj⟩:=List.getElem?_of_mem hy';show EqAt A s y v (decide (∃ i,its[i]? = some y/\f i=true));by_cases q:∃ i,its[i]? = some y/\f i=true
  ·rw[decide_eq_true q];obtain⟨i,hi,fi⟩:=q;have:=h i y hi;rw[fi] at this;exact this
  ·rw[decide_eq_false q];have:=h j y hj;have fj:f j=false:=by
    cases z:f j with
    | false=>rfl
    | true=>exact absurd ⟨j,hj,z⟩ q
   rw[fj] at this;exact this
 ·rw[Bool.eq_iff_iff];simp only[List.any_toArray,List.any_eq_true,List.mem_range,decide_eq_true_eq];constructor
  ·rintro ⟨y,hy,i,hi,fi⟩;exact⟨i,(List.getElem?_eq_some_iff.mp hi).1,fi⟩
  ·rintro ⟨i,hi,fi⟩;exact⟨its[i],List.getElem_mem hi,i,by simp[hi],fi⟩
theorem gw (hu:X.A.units+42 < cLine){pins:List (Addr×Obj)}{s:Shared}{σ:St}{H:Hp}{S:Addr->Prop}{x:V}{v:Value}{d:D}{k:Bool->Prop}(I:Inv X pins σ H s)(rx:RelV x v)(hx:HRep X.K S H x d)
  {xs:List V}{its:List Value}{ds:List D} (rv:Vals xs its) (m:HReps X.K S H xs ds) (h:PO' ex (anyN d ds) k) :
  ∃ e:Value->Bool,(∀ y,y∈its.toArray->EqAt X.A.in1 s y v (e y))/\k (its.toArray.any e):=by
 obtain⟨f,h1,h2⟩:=PO'.anyN h;have l1:=rv.length;have l2:=m.length;obtain⟨e,h3,h4⟩:=m4 (A:=X.A.in1) (s:=s) (v:=v) its f fun i u hi=>by have hlt:i < its.length:=(List.getElem?_eq_some_iff.mp hi).1;obtain⟨y,hy,my⟩:=m.get (i:=i) (d:=ds[i]'(by omega)) (by simp);obtain⟨u',hu',ru⟩:=rv.get hy;rw[hi] at hu';cases hu';exact(kB I 40 X.A.in1 y x u v _ d _ my hx ru rx (h1 i _ (by simp)) (by show X.A.units+1+40 < cLine;omega)).eq
 refine⟨e,h3,?_⟩;rw[h4,show its.length=ds.length by omega];exact h2
theorem ip (hu:X.A.units+42 < cLine)(op:COp):OpR X (compareOp (cop op)) (C7 X.K ex op):=by
 intro pins s σ H x y v u Q I rx ry h;obtain⟨S,d,e,hx,hy,h⟩:=h;have stuck:∀ {P:Prop},opC op d e=stk->P:=fun z=>by rw[z] at h;exact h.no.elim
 have fin:∀ {b:Bool},Q (.bl b) H->EP X pins σ Q (.bool b) s:=fun q=>⟨.bl _,H,I,rfl,q⟩
 cases op with
 | eq=>obtain⟨r,h1,h2⟩:=PO'.eqN h;exact(kB I 40 X.A x y v u d e r hx hy rx ry h1 (by omega)).rc _ _ _ _ (fin h2)
 | ne=>obtain⟨r,h1,h2⟩:=PO'.eqN (PO'.bnd h);exact(kB I 40 X.A x y v u d e r hx hy rx ry h1 (by omega)).ne _ _ _ _ (fin h2.ok)
 | lt=>
  induction d using zD with
  | int a=>
   induction e using zD with
   | int b=>cases hx.intR;cases hy.intR;obtain⟨t,rfl⟩:=rx;obtain⟨t',rfl⟩:=ry;exact lt_int (fin h.ok)
   | _=>exact stuck rfl
  | _=>exact stuck rfl
 | le=>
  induction d using zD with
  | int a=>
   induction e using zD with
   | int b=>cases hx.intR;cases hy.intR;obtain⟨t,rfl⟩:=rx;obtain⟨t',rfl⟩:=ry;exact le_int (fin h.ok)
   | _=>exact stuck rfl
  | _=>exact stuck rfl
 | gt=>
  induction d using zD with
  | int a=>
   induction e using zD with
   | int b=>cases hx.intR;cases hy.intR;obtain⟨t,rfl⟩:=rx;obtain⟨t',rfl⟩:=ry;exact gt_int (fin h.ok)
   | _=>exact stuck rfl
  | _=>exact stuck rfl
 | ge=>
  induction d using zD with
  | int a=>
   induction e using zD with
   | int b=>cases hx.intR;cases hy.intR;obtain⟨t,rfl⟩:=rx;obtain⟨t',rfl⟩:=ry;exact ge_int (fin h.ok)
   | _=>exact stuck rfl
  | _=>exact stuck rfl
 | in_=>
  induction e using zD with
  | str b=>
   induction d using zD with
   | str a=>cases hx.strR;cases hy.strR;obtain⟨t,rfl⟩:=rx;obtain⟨t',rfl⟩:=ry;exact in_str (fin h.ok)
   | _=>exact stuck rfl
  | lst o ds=>obtain⟨a,xs,rfl,q1,m1⟩:=hy.lstR;cases ry;obtain⟨its,rv,pl,_⟩:=I.list q1;obtain⟨e,h1,h2⟩:=gw (ex:=ex) hu I rx hx rv m1 (by induction d using zD<;>exact h);exact in_listAt e pl.isList h1 (fin h2)
  | tup ds=>obtain⟨a,xs,rfl,q1,m1⟩:=hy.tupR;cases ry;obtain⟨its,rv,pl,_⟩:=I.tuple q1;obtain⟨e,h1,h2⟩:=gw (ex:=ex) hu I rx hx rv m1 (by induction d using zD<;>exact h);exact in_tupleAt e pl h1 (fin h2)
  | non=>induction d using zD<;>exact stuck rfl
  | bl _=>induction d using zD<;>exact stuck rfl
  | int _=>induction d using zD<;>exact stuck rfl
  | exc _=>induction d using zD<;>exact stuck rfl
  | dct _ _ _=>induction d using zD<;>exact stuck rfl
  | obj _ _ _ _=>induction d using zD<;>exact stuck rfl
 | nin=>
  induction e using zD with
  | str b=>
   induction d using zD with
   | str a=>cases hx.strR;cases hy.strR;obtain⟨t,rfl⟩:=rx;obtain⟨t',rfl⟩:=ry;exact notIn_str (fin h.ok)
   | _=>exact stuck rfl
  | lst o ds=>obtain⟨a,xs,rfl,q1,m1⟩:=hy.lstR;cases ry;obtain⟨its,rv,pl,_⟩:=I.list q1;obtain⟨e,h1,h2⟩:=gw (ex:=ex) (k:=fun r=>Q (.bl !r) H) hu I rx hx rv m1 ((PO'.bnd (show PO' ex (bnd (anyN d ds) fun r=>.ok !r) (fun r=>Q (.bl r) H) by induction d using zD<;>exact h)).mono fun _ z=>z);exact notIn_listAt e pl.isList h1 (fin h2)
  | tup ds=>obtain⟨a,xs,rfl,q1,m1⟩:=hy.tupR;cases ry;obtain⟨its,rv,pl,_⟩:=I.tuple q1;obtain⟨e,h1,h2⟩:=gw (ex:=ex) (k:=fun r=>Q (.bl !r) H) hu I rx hx rv m1 ((PO'.bnd (show PO' ex (bnd (anyN d ds) fun r=>.ok !r) (fun r=>Q (.bl r) H) by induction d using zD<;>exact h)).mono fun _ z=>z);exact notIn_tupleAt e pl h1 (fin h2)
  | non=>induction d using zD<;>exact stuck rfl
  | bl _=>induction d using zD<;>exact stuck rfl
  | int _=>induction d using zD<;>exact stuck rfl
  | exc _=>induction d using zD<;>exact stuck rfl
  | dct _ _ _=>induction d using zD<;>exact stuck rfl
  | obj _ _ _ _=>induction d using zD<;>exact stuck rfl
 | is_=>
  induction e using zD with
  | non=>
   cases hy.nonR;cases ry;have ev:lL d=(v == Value.none):=by
    cases hx with
    | non=>cases rx;rfl
    | bl b=>cases rx;rfl
    | int i=>obtain⟨t,rfl⟩:=rx;rfl
    | str z=>obtain⟨t,rfl⟩:=rx;rfl
    | tup _ _=>cases rx;rfl
    | lst _ _ _=>cases rx;rfl
    | lstK _ _=>cases rx;rfl
    | exc _=>cases rx;rfl
    | dct _ _ _ _=>cases rx;rfl
    | obj _ _ _ _=>cases rx;rfl
   have h':Q (.bl (lL d)) H:=by induction d using zD<;>exact h
   rw[ev] at h';exact is_none_gen (fin h')
  | _=>induction d using zD<;>exact stuck rfl
 | isn=>cases d<;>cases e<;>exact stuck rfl
theorem iQ {pins:List (Addr×Obj)}{s:Shared}{σ:St}{H:Hp}{S:Addr->Prop}{x:V}{v:Value}{d:D}{Q:Bool->Hp->Prop}(I:Inv X pins σ H s)(rx:RelV x v)(hx:HRep X.K S H x d)(h:PO' ex (dg d) fun b=>Q b H) :
  wpAny (model X.prog X.w) X.A (truthy v) (TP X pins σ Q) X.xe s:=by
 refine xX pins s σ H x v Q I rx ?_
 induction d using zD with
 | exc c=>exact h.no.elim
 | dct _ _ _=>exact h.no.elim
 | obj _ _ _ _=>exact h.no.elim
 | non=>cases hx.nonR;exact⟨false,rfl,h⟩
 | bl b=>cases hx.blR;exact⟨b,rfl,h⟩
 | int i=>cases hx.intR;exact⟨_,rfl,h⟩
 | str z=>cases hx.strR;obtain⟨g,h⟩:=PO'.grd h;exact⟨_,⟨dS g,rfl⟩,h⟩
 | tup ds=>obtain⟨a,xs,rfl,q,m⟩:=hx.tupR;refine⟨!ds.isEmpty,.inr (.inl ⟨xs,q,?_⟩),h⟩;have:=m.length;cases xs<;>cases ds<;>simp_all
 | lst o ds=>obtain⟨a,xs,rfl,q,m⟩:=hx.lstR;refine⟨!ds.isEmpty,.inl ⟨xs,q,?_⟩,h⟩;have:=m.length;cases xs<;>cases ds<;>simp_all
theorem n8 {K:PySem.W.Frag}{S:Addr->Prop}{H:Hp}{vs:List V}{ds:List D}{i:Int}{d:D}(m:HReps K S H vs ds)(h:atI ds i=some d):∃ v,atI vs i=some v/\HRep K S H v d:=by
 unfold atI at h ⊢;rw[m.length];cases q:ixN ds.length i with
 | none=>rw[q] at h;cases h
 | some j=>rw[q] at h;exact m.get h
noncomputable def C8 (K:PySem.W.Frag)(ex:EX->Prop):R2:=fun x y H Q=>∃ S d e,HRep K S H x d/\HRep K S H y e/\PO' ex (fW d e) (Kk K S H Q)
theorem uF:IxR X (C8 X.K ex):=by
 intro value slice pins s σ H x y v u Q I rx ry h hs;obtain⟨S,d,e,hx,hy,h⟩:=h;refine yb value slice pins s σ H x y v u Q I rx ry ?_ hs;have stuck:∀ {P:Prop},fW d e=stk->P:=fun z=>by rw[z] at h;exact h.no.elim
 induction e using zD with
 | int i=>
  cases hy.intR
  induction d using zD with
  | lst o ds=>
   obtain⟨a,xs,rfl,q,m⟩:=hx.lstR;have h':PO' ex (match atI ds i with|some d=>.ok d|none=>stk) (Kk X.K S H Q):=h;cases z:atI ds i with
   | none=>rw[z] at h';exact h'.no.elim
   | some d=>rw[z] at h';obtain⟨w,ew,mw⟩:=n8 m z;exact .inl ⟨a,xs,i,w,rfl,rfl,q,ew,h'.ok _ _ (.refl _) mw.nw⟩
  | tup ds=>
   obtain⟨a,xs,rfl,q,m⟩:=hx.tupR;have h':PO' ex (match atI ds i with|some d=>.ok d|none=>stk) (Kk X.K S H Q):=h;cases z:atI ds i with
   | none=>rw[z] at h';exact h'.no.elim
   | some d=>rw[z] at h';obtain⟨w,ew,mw⟩:=n8 m z;exact .inr (.inl ⟨a,xs,i,w,rfl,rfl,q,ew,h'.ok _ _ (.refl _) mw.nw⟩)
  | str z=>
   cases hx.strR;obtain⟨g,h⟩:=PO'.grd h;cases q:atI z.cps.toList i with
   | none=>rw[q] at h;exact h.no.elim
   | some c=>rw[q] at h;exact .inr (.inr ⟨z,i,c,rfl,rfl,dS g,q,h.ok _ _ (.refl _) (.str _)⟩)
  | _=>exact stuck rfl
 | _=>induction d using zD<;>exact stuck rfl
def C9 (K:PySem.W.Frag)(ex:EX->Prop):V->Option Int->Option Int->Hp->VK->Prop:=fun x lo hi H Q=>∃ S d,HRep K S H x d/\PO' ex (lJ d lo hi) (Kk K S H Q)
theorem yo:SlR X (fun x lo hi H Q=>∃ z,x=.str z/\z.length<=sizeLine/\Q (.str (Txt.slice z lo hi)) H):=by
 intro pins s σ H x v vl vu lo hi sl Q I rx hs pl pu h;obtain⟨z,rfl,hz,q⟩:=h;obtain⟨t,rfl⟩:=rx;refine⟨"str",_,F.slot_str_getitem.lookup,typeIs_str s z t,?_⟩;have fin:∀ (l u:Option (Int×Tok)),vl=partValue l->vu=partValue u->l.map (·.1)=lo->u.map (·.1)=hi->wpAny (model X.prog X.w) X.A (getItem (.str z t) (.ref sl)) (EP X pins σ Q) X.xe s:=by intro l u e1 e2 e3 e4;subst e1 e2 e3 e4;refine wpAny_getItem_str_slice (l:=l) (u:=u) (st:=none) hs rfl ?_;exact post_val_or_str ⟨Nat.le_trans (Txt.slice_le z _ _) hz,fun t' k=>⟨.str _,H,I.tok _,⟨_,rfl⟩,q⟩⟩
 cases pl with
 | none=>
  cases pu with
  | none=>exact fin none none rfl rfl rfl rfl
  | int j t'=>exact fin none (some (j,t')) rfl rfl rfl rfl
 | int i t'=>
  cases pu with
  | none=>exact fin (some (i,t')) none rfl rfl rfl rfl
  | int j t''=>exact fin (some (i,t')) (some (j,t'')) rfl rfl rfl rfl
end
open PySem.W
section
variable {prog:Program}{w:World}{A:Around}{E:Value->Shared->Prop}{K:Frag}{x C:Addr}{hh:Heap}{g:Array GenState}{d:Drawn}{t:Nat}{os:OsState}
open Builtin Builtin.ObjectAttr Builtin.Getset_descriptor in
end
section
variable {X:Cx}{ex:EX->Prop}
theorem n9 {K:PySem.W.Frag}{S:Addr->Prop}{H:Hp}{vs:List V}{ds:List D}(lo hi:Option Int)(m:HReps K S H vs ds):HReps K S H (pD vs lo hi) (iM ds lo hi):=by unfold pD iM;rw[m.length];exact(m.drop _).take _
theorem uG:SlR X (C9 X.K ex):=by
 intro pins s σ H x v vl vu lo hi sl Q I rx hs pl pu h;obtain⟨S,d,hx,h⟩:=h
 induction d using zD with
 | lst o ds=>obtain⟨a,xs,rfl,q,m⟩:=hx.lstR;exact nQ pins s σ H _ v vl vu lo hi sl Q I rx hs pl pu ⟨a,xs,rfl,q,fun p hp=>h.ok _ _ (.upd hp) (lX hp (n9 lo hi m))⟩
 | str z=>cases hx.strR;obtain⟨g,h⟩:=PO'.grd h;exact yo pins s σ H _ v vl vu lo hi sl Q I rx hs pl pu ⟨z,rfl,dS g,h.ok _ _ (.refl _) (.str _)⟩
 | _=>exact h.no.elim
theorem lY {ns:List Str}:∀ {us:List Value},Vals (ns.map V.str) us->StrsAre us ns:=by
 induction ns with
 | nil=>intro us r;rw[List.map_nil] at r;cases r;exact .nil
 | cons n ns ih=>
  intro us r;rw[List.map_cons] at r;cases r with
  | cons r1 r2=>obtain⟨t,e⟩:=r1;subst e;exact .cons n t (ih r2)
theorem gO:∀ {ds:List D}{ns:List Str},eK ds=some ns->ds=ns.map .str
 | [],ns,h=>by cases h;rfl
 | .str i::r,ns,h=>by
  have h':(eK r).map (i::·)=some ns:=h;cases q:eK r with
  | none=>rw[q] at h';cases h'
  | some ms=>rw[q] at h';cases h';rw[gO q];rfl
 | .non::_,_,h=>by cases h
 | .bl _::_,_,h=>by cases h
 | .int _::_,_,h=>by cases h
 | .tup _::_,_,h=>by cases h
 | .lst _ _::_,_,h=>by cases h
theorem iq:∀ {ds:List D}{ns:List Bool},fJ ds=some ns->ds=ns.map .bl
 | [],ns,h=>by cases h;rfl
 | .bl i::r,ns,h=>by
  have h':(fJ r).map (i::·)=some ns:=h;cases q:fJ r with
  | none=>rw[q] at h';cases h'
  | some ms=>rw[q] at h';cases h';rw[iq q];rfl
 | .non::_,_,h=>by cases h
 | .str _::_,_,h=>by cases h
 | .int _::_,_,h=>by cases h
 | .tup _::_,_,h=>by cases h
 | .lst _ _::_,_,h=>by cases h
theorem pQ (hc:X.calm=true):eS X (.builtin "all") (fun xs H Q=>∃ (p:Addr) (bs:List Bool),xs=[.ref p]/\SqL X.K H p (bs.map V.bl)/\Q (.bl (bs.all id)) H):=by
 intro pins s σ H xs us Q I r h;obtain⟨p,bs,rfl,hq,q⟩:=h;obtain⟨u,rfl,rx⟩:=vals1 r;cases rx;obtain⟨its,rv,pl,hz⟩:=I.list hq;have hl:=rv.length;rw[List.length_map] at hl;have hlt:p < s.heap.objs.size:=by obtain⟨o,e,_⟩:=pl.isList;exact Heap.lt_size e
 refine call_all_walk (wpAny_pyIter_list pl.isList ?_);refine⟨s.heap.objs.size,_,_,_,_,_,fun i=>bs.getD i true,rfl,Walks.list (A:=X.A.in1) (show X.A.in1.handled=none from I.ok.hd hc) s.heap.objs.size p (Nat.ne_of_lt hlt) its.toArray,⟨⟨_,Heap.get?_push_size _ rfl,rfl,rfl⟩,?_⟩,?_,?_⟩
 ·obtain⟨o,e,c,n,d⟩:=pl.isList;exact⟨o,Heap.get?_push_of_some _ e,c,n,d⟩
 ·intro i v s' Q' E' hv hq';have hv':its[i]? = some v:=by simpa using hv
  have hlt':i < bs.length:=by have:=(List.getElem?_eq_some_iff.mp hv').1;omega
  obtain⟨u,hu,ru⟩:=rv.get (i:=i) (x:=.bl bs[i]) (by rw[List.getElem?_map,List.getElem?_eq_getElem hlt'];rfl);rw[hv'] at hu;cases hu;cases ru;refine wpAny_truthy_bool ?_;have e:bs.getD i true=bs[i]:=by simp[List.getD,hlt']
  rw[<- e];exact hq'
 ·intro h' tk kp;have hall:(List.range its.toArray.size).all (fun i=>bs.getD i true)=bs.all id:=by
   rw[show its.toArray.size=bs.length by simp[hl]];rw[Bool.eq_iff_iff,List.all_eq_true,List.all_eq_true];constructor
   ·intro z b hb;obtain⟨i,hi,rfl⟩:=List.getElem_of_mem hb;have:=z i (List.mem_range.mpr hi);simpa[List.getD,hi] using this
   ·intro z i hi;have hi':=List.mem_range.mp hi;have:=z bs[i] (List.getElem_mem hi');simpa[List.getD,hi'] using this
  rw[hall];refine⟨.bl (bs.all id),H,I.kept (t':=tk) fun b o e=>kp b o ?_ (Heap.get?_push_of_some _ e),rfl,q⟩;intro hm;have hb:b=s.heap.objs.size:=by simpa using hm
  subst hb;exact absurd (Heap.lt_size e) (Nat.lt_irrefl _)
theorem pR (hc:X.calm=true):eS X (.builtin "any") (fun xs H Q=>∃ (p:Addr) (bs:List Bool),xs=[.ref p]/\SqL X.K H p (bs.map V.bl)/\Q (.bl (bs.any id)) H):=by
 intro pins s σ H xs us Q I r h;obtain⟨p,bs,rfl,hq,q⟩:=h;obtain⟨u,rfl,rx⟩:=vals1 r;cases rx;obtain⟨its,rv,pl,hz⟩:=I.list hq;have hl:=rv.length;rw[List.length_map] at hl;have hlt:p < s.heap.objs.size:=by obtain⟨o,e,_⟩:=pl.isList;exact Heap.lt_size e
 refine call_any_walk (wpAny_pyIter_list pl.isList ?_);refine⟨s.heap.objs.size,_,_,_,_,_,fun i=>bs.getD i false,rfl,Walks.list (A:=X.A.in1) (show X.A.in1.handled=none from I.ok.hd hc) s.heap.objs.size p (Nat.ne_of_lt hlt) its.toArray,⟨⟨_,Heap.get?_push_size _ rfl,rfl,rfl⟩,?_⟩,?_,?_⟩
 ·obtain⟨o,e,c,n,d⟩:=pl.isList;exact⟨o,Heap.get?_push_of_some _ e,c,n,d⟩
 ·intro i v s' Q' E' hv hq';have hv':its[i]? = some v:=by simpa using hv
  have hlt':i < bs.length:=by have:=(List.getElem?_eq_some_iff.mp hv').1;omega
  obtain⟨u,hu,ru⟩:=rv.get (i:=i) (x:=.bl bs[i]) (by rw[List.getElem?_map,List.getElem?_eq_getElem hlt'];rfl);rw[hv'] at hu;cases hu;cases ru;refine wpAny_truthy_bool ?_;have e:bs.getD i false=bs[i]:=by simp[List.getD,hlt']
  rw[<- e];exact hq'
 ·intro h' tk kp;have hall:(List.range its.toArray.size).any (fun i=>bs.getD i false)=bs.any id:=by
   rw[show its.toArray.size=bs.length by simp[hl]];rw[Bool.eq_iff_iff,List.any_eq_true,List.any_eq_true];constructor
   ·rintro ⟨i,hi,z⟩;have hi':=List.mem_range.mp hi;exact⟨bs[i],List.getElem_mem hi',by simpa[List.getD,hi'] using z⟩
   ·rintro ⟨b,hb,z⟩;obtain⟨i,hi,rfl⟩:=List.getElem_of_mem hb;exact⟨i,List.mem_range.mpr hi,by simpa[List.getD,hi] using z⟩
  rw[hall];refine⟨.bl (bs.any id),H,I.kept (t':=tk) fun b o e=>kp b o ?_ (Heap.get?_push_of_some _ e),rfl,q⟩;intro hm;have hb:b=s.heap.objs.size:=by simpa using hm
  subst hb;exact absurd (Heap.lt_size e) (Nat.lt_irrefl _)
noncomputable def fY:Bi->Str
 | .len=>"len" | .sum=>"sum" | .min2=>"min" | .max2=>"max" | .maxl=>"max" | .sorted=>"sorted" | .list=>"list" | .tuple=>"tuple" | .ord=>"ord" | .int=>"int" | .all=>"all" | .any=>"any" | .str=>"str" | .set=>"set" | .abs=>"abs"
noncomputable def AD:Bi->Bool
 | .list=>true|.tuple=>true|.int=>true|.str=>true|.set=>true
 | _=>false
noncomputable def AE:Bi->String
 | .len=>"len" | .sum=>"sum" | .min2=>"min" | .max2=>"max" | .maxl=>"max" | .sorted=>"sorted" | .list=>"list" | .tuple=>"tuple" | .ord=>"ord" | .int=>"int" | .all=>"all" | .any=>"any" | .str=>"str" | .set=>"set" | .abs=>"abs"
noncomputable def qN (f:Bi):Value:=if AD f=true then .type (AE f) else .builtin (AE f)
theorem oa (f:Bi):bootBuiltins (fY f)=some (qN f):=by cases f<;>decide +kernel
def rBi (K:PySem.W.Frag)(ex:EX->Prop)(f:Bi):List V->Hp->VK->Prop:=fun xs H Q=>∃ S ds,HReps K S H xs ds/\PO' ex (fK f ds) (Kk K S H Q)
theorem HReps.one1 {K:PySem.W.Frag}{S:Addr->Prop}{H:Hp}{xs:List V}{d:D}(h:HReps K S H xs [d]):∃ x,xs=[x]/\HRep K S H x d:=by
 cases h with
 | cons h1 h2=>cases h2;exact⟨_,rfl,h1⟩
theorem HReps.two2 {K:PySem.W.Frag}{S:Addr->Prop}{H:Hp}{xs:List V}{d e:D}(h:HReps K S H xs [d,e]):∃ x y,xs=[x,y]/\HRep K S H x d/\HRep K S H y e:=by
 cases h with
 | cons h1 h2=>
  cases h2 with
  | cons h3 h4=>cases h4;exact⟨_,_,rfl,h1,h3⟩
theorem pS {K:PySem.W.Frag}{S:Addr->Prop}{H:Hp}(z:Str):HReps K S H (ie z) (eM z):=by
 unfold ie eM
 induction z.cps.toList with
 | nil=>exact .nil
 | cons c cs ih=>exact .cons (.str _) ih
theorem gY {K:PySem.W.Frag}{S:Addr->Prop}{H:Hp}:∀ kvs:List (Key×V),HReps K S H (kvs.map fun q=>kV q.1) ((kvs.map (·.1)).map uB)
 | []=>.nil
 | (.inl i,_)::r=>.cons (.int i) (gY r)
 | (.inr x,_)::r=>.cons (.str x) (gY r)
theorem uH (hc:X.calm=true)(f:Bi):eS X (qN f) (rBi X.K ex f):=by
 intro pins s σ H xs us Q I r h;obtain⟨S,ds,hx,h⟩:=h;have stuck:∀ {P:Prop},fK f ds=stk->P:=fun z=>by rw[z] at h;exact h.no.elim
 have one:∀ {d e:D}{r':List D},ds=d::e::r'->¬ (f=.min2∨f=.max2)->fK f ds=stk:=by intro d e r' z nf;subst z;cases f<;>first|rfl|(exfalso;exact nf (.inl rfl))|(exfalso;exact nf (.inr rfl))|(induction d using zD<;>rfl)
 have two:∀ {d e g:D}{r':List D},ds=d::e::g::r'->fK f ds=stk:=by intro d e g r' z;subst z;cases f<;>first|rfl|(induction d using zD<;>rfl)|(induction d using zD<;>induction e using zD<;>rfl)
 have nil:ds=[]->fK f ds=stk:=by intro z;subst z;cases f<;>rfl
 match ds,hx with
 | [],hx=>exact stuck (nil rfl)
 | d::e::g::r',hx=>exact stuck (two rfl)
 | [d,e],hx=>
  by_cases nf:f=.min2∨f=.max2
  ·obtain⟨x,y,rfl,hd,he⟩:=hx.two2;rcases nf with rfl|rfl
   ·induction d using zD with
    | int a=>
     induction e using zD with
     | int b=>cases hd.intR;cases he.intR;exact pz hc pins s σ H _ us Q I r ⟨a,b,rfl,h.ok _ _ (.refl _) (.int _)⟩
     | _=>exact stuck rfl
    | _=>exact stuck rfl
   ·induction d using zD with
    | int a=>
     induction e using zD with
     | int b=>cases hd.intR;cases he.intR;exact pw hc pins s σ H _ us Q I r ⟨a,b,rfl,h.ok _ _ (.refl _) (.int _)⟩
     | _=>exact stuck rfl
    | _=>exact stuck rfl
  ·exact stuck (one rfl nf)
 | [d],hx=>
  obtain⟨x,rfl,hd⟩:=hx.one1;cases f with
  | len=>
   induction d using zD with
   | str z=>cases hd.strR;obtain⟨g,h⟩:=PO'.grd h;exact call_len pins s σ H _ us Q I r ⟨_,_,rfl,⟨dS g,rfl⟩,h.ok _ _ (.refl _) (.int _)⟩
   | tup ds=>obtain⟨a,ys,rfl,q,m⟩:=hd.tupR;exact call_len pins s σ H _ us Q I r ⟨_,ds.length,rfl,.inr ⟨ys,q,m.length.symm⟩,h.ok _ _ (.refl _) (.int _)⟩
   | lst o ds=>obtain⟨a,ys,rfl,q,m⟩:=hd.lstR;exact call_len pins s σ H _ us Q I r ⟨_,ds.length,rfl,.inl ⟨ys,q,m.length.symm⟩,h.ok _ _ (.refl _) (.int _)⟩
   | dct o ks es=>
    cases hd with
    | dct h0 h1 h2 h3=>exact pL pins s σ H _ us Q I r ⟨_,_,rfl,h1,by rw[<- List.length_map (f:=(·.1)),h2];exact h.ok _ _ (.refl _) (.int _)⟩
   | _=>exact stuck rfl
  | sum=>cases d<;>exact stuck rfl
  | all=>
   induction d using zD with
   | lst o ds=>
    obtain⟨a,ys,rfl,q,m⟩:=hd.lstR;have h':PO' ex (match fJ ds with|some bs=>.ok (.bl (bs.all id))|none=>stk) (Kk X.K S H Q):=h;cases z:fJ ds with
    | none=>rw[z] at h';exact h'.no.elim
    | some ns=>rw[z] at h';rw[iq z] at m;rw[m.bls] at q;exact pQ hc pins s σ H _ us Q I r ⟨a,ns,rfl,q,h'.ok _ _ (.refl _) (.bl _)⟩
   | _=>exact stuck rfl
  | any=>
   induction d using zD with
   | lst o ds=>
    obtain⟨a,ys,rfl,q,m⟩:=hd.lstR;have h':PO' ex (match fJ ds with|some bs=>.ok (.bl (bs.any id))|none=>stk) (Kk X.K S H Q):=h;cases z:fJ ds with
    | none=>rw[z] at h';exact h'.no.elim
    | some ns=>rw[z] at h';rw[iq z] at m;rw[m.bls] at q;exact pR hc pins s σ H _ us Q I r ⟨a,ns,rfl,q,h'.ok _ _ (.refl _) (.bl _)⟩
   | _=>exact stuck rfl
  | ord=>cases d<;>exact stuck rfl
  | int=>
   induction d using zD with
   | int i=>cases hd.intR;exact jN pins s σ H _ us Q I r (.inl ⟨i,rfl,h.ok _ _ (.refl _) (.int _)⟩)
   | bl i=>cases hd.blR;exact jN pins s σ H _ us Q I r (.inr ⟨i,rfl,h.ok _ _ (.refl _) (.int _)⟩)
   | _=>exact stuck rfl
  | list=>
   induction d using zD with
   | tup ds=>obtain⟨a,ys,rfl,q,m⟩:=hd.tupR;exact fS pins s σ H _ us Q I r ⟨a,ys,rfl,.inr q,fun p hp=>h.ok _ _ (.upd hp) (lX hp m)⟩
   | lst o ds=>obtain⟨a,ys,rfl,q,m⟩:=hd.lstR;exact fS pins s σ H _ us Q I r ⟨a,ys,rfl,.inl q,fun p hp=>h.ok _ _ (.upd hp) (lX hp m)⟩
   | dct o ks ds=>
    cases hd with
    | dct h0 h1 h2 h3=>subst h2;exact i7 hc pins s σ H _ us Q I r ⟨_,_,rfl,h1,fun p hp=>h.ok _ _ (.upd hp) (lX hp (gY _))⟩
   | _=>exact stuck rfl
  | abs=>cases d<;>exact stuck rfl
  | min2=>induction d using zD<;>exact stuck rfl
  | max2=>induction d using zD<;>exact stuck rfl
  | maxl=>cases d<;>exact stuck rfl
  | sorted=>cases d<;>exact stuck rfl
  | tuple=>
   induction d using zD with
   | str z=>cases hd.strR;obtain⟨g,h⟩:=PO'.grd h;exact i3 hc pins s σ H _ us Q I r ⟨z,rfl,dS g,fun p hp=>h.ok _ _ (.upd hp) (ym hp (pS z))⟩
   | lst o ds=>obtain⟨a,ys,rfl,q,m⟩:=hd.lstR;exact jD pins s σ H _ us Q I r ⟨a,ys,rfl,.inl ⟨q,fun p hp=>h.ok _ _ (.upd hp) (ym hp m)⟩⟩
   | _=>exact stuck rfl
  | str=>exact stuck rfl
  | set=>exact stuck rfl
noncomputable def gP:Kd->Str
 | .str=>"str" | .int=>"int" | .bool=>"bool" | .list=>"list" | .tuple=>"tuple"
noncomputable def qO:Kd->Value
 | .str=>.type "str" | .int=>.type "int" | .bool=>.type "bool" | .list=>.type "list" | .tuple=>.type "tuple"
theorem uI (k:Kd):bootBuiltins (gP k)=some (qO k):=by cases k<;>decide +kernel
noncomputable def dTy:D->Value
 | .non=>.type "NoneType" | .bl _=>.type "bool" | .int _=>.type "int" | .str _=>.type "str" | .tup _=>.type "tuple" | .lst _ _=>.type "list" | .exc _=>.none|.dct _ _ _=>.none|.obj _ _ _ _=>.none
theorem uJ (K:PySem.W.Frag)(k:Kd)(d:D)(hn:i8 d=true):PySem.W.kitOne K (dTy d) (qO k)=some (gA k d):=by cases k<;>induction d using zD<;>first|rfl|cases hn
theorem uK {pins:List (Addr×Obj)}{s:Shared}{σ:St}{H:Hp}{S:Addr->Prop}{x:V}{v:Value}{d:D}{Q:VK}(I:Inv X pins σ H s)(rx:RelV x v)(hx:HRep X.K S H x d)(k:Kd)(hn:i8 d=true)(h:Q (.bl (gA k d)) H) :
  wpAny (model X.prog X.w) X.A (call (.builtin "isinstance") [v,qO k]) (EP X pins σ Q) X.xe s:=by
 have e:=uJ X.K k d hn;have fin:∀ tk,EP X pins σ Q (.bool (gA k d)) {s with toks:=tk}:=fun tk=>⟨.bl _,H,I.tok _,rfl,h⟩
 induction d using zD with
 | non=>cases hx.nonR;cases rx;exact PySem.W.kia_one PySem.W.kitx_none I.kIn True.intro e (fun z=>nomatch z) fin
 | bl b=>cases hx.blR;cases rx;exact PySem.W.kia_one PySem.W.kitx_bool I.kIn True.intro e (fun z=>nomatch z) fin
 | int b=>cases hx.intR;obtain⟨t,rfl⟩:=rx;exact PySem.W.kia_one PySem.W.kitx_int I.kIn True.intro e (fun z=>nomatch z) fin
 | str b=>cases hx.strR;obtain⟨t,rfl⟩:=rx;exact PySem.W.kia_one PySem.W.kitx_str I.kIn True.intro e (fun z=>nomatch z) fin
 | tup ds=>obtain⟨a,ys,rfl,q,m⟩:=hx.tupR;cases rx;obtain⟨its,_,⟨o,h1,h2,_⟩,_⟩:=I.tuple q;exact PySem.W.kia_one PySem.W.kitx_tuple I.kIn ⟨o,h1,h2⟩ e (fun z=>nomatch z) fin
 | lst o ds=>obtain⟨a,ys,rfl,q,m⟩:=hx.lstR;cases rx;obtain⟨its,_,pl,_⟩:=I.list q;obtain⟨o,h1,h2,_⟩:=pl.isList;exact PySem.W.kia_one PySem.W.kitx_list I.kIn ⟨o,h1,h2⟩ e (fun z=>nomatch z) fin
 | exc c=>cases hn
 | dct o ks ds=>cases hn
 | obj o c ks ds=>cases hn
noncomputable def jd:Mt->Str
 | .join=>"join" | .index=>"index" | .starts=>"startswith"
noncomputable def Dc:Mt->String
 | .join=>"str.join" | .index=>"str.index" | .starts=>"str.startswith"
def rMt (K:PySem.W.Frag)(ex:EX->Prop)(m:Mt):V->List V->Hp->VK->Prop:=fun x xs H Q=>∃ S d ds,HRep K S H x d/\HReps K S H xs ds/\PO' ex (jF m d ds) (Kk K S H Q)
theorem qP {m:Mt}{d:D}{ds:List D}{k:D->Prop}(h:PO' ex (jF m d ds) k):∃ x,d=.str x:=by cases m<;>induction d using zD<;>first|exact⟨_,rfl⟩|exact h.no.elim
theorem kD (m:Mt)(hc:m=.index->X.calm=true):MtR X (Dc m) (rMt X.K ex m):=by
 intro pins s σ H x xs v us Q I rx rs h;obtain⟨S,d,ds,hx,hs,h⟩:=h;obtain⟨z,rfl⟩:=qP h;cases hx.strR;obtain⟨t,rfl⟩:=rx;have stuck:∀ {P:Prop},jF m (.str z) ds=stk->P:=fun z=>by rw[z] at h;exact h.no.elim
 match ds,hs with
 | [],_=>cases m<;>exact stuck rfl
 | d::e::r,_=>cases m<;>induction d using zD<;>exact stuck rfl
 | [d],hs=>
  obtain⟨y,rfl,hd⟩:=hs.one1;obtain⟨u,rfl,ru⟩:=vals1 rs;cases m with
  | join=>
   induction d using zD with
   | lst o ds=>
    obtain⟨a,ys,rfl,q,m⟩:=hd.lstR;cases ru;have h':PO' ex (match eK ds with|some ys=>grd (decide ((ys.map (·.length)).sum+ys.length*z.length<=16777216)) (.ok (.str (Txt.join z ys)))|none=>stk) (Kk X.K S H Q):=h;cases w:eK ds with
    | none=>rw[w] at h';exact h'.no.elim
    | some ns=>rw[w] at h';obtain⟨g,h'⟩:=PO'.grd h';rw[gO w] at m;rw[m.strs] at q;obtain⟨its,rv,pl,_⟩:=I.list q;exact join_list pl.isList (by simpa using lY rv) (of_decide_eq_true g) fun t' k=>⟨.str _,H,I.tok _,⟨_,rfl⟩,h'.ok _ _ (.refl _) (.str _)⟩
   | _=>exact stuck rfl
  | index=>cases d<;>exact stuck rfl
  | starts=>cases d<;>exact stuck rfl
noncomputable def Its (x:Str):It:=⟨fun i _=>i < x.cps.size,fun i H v H'=>H'=H/\∃ c,x.cps[i]? = some c/\v=.str ⟨#[c]⟩,fun i _=>x.cps.size<=i⟩
theorem qQ {P:Program}{w:World}{K:PySem.W.Frag}{tg:Expr}{it:Addr}{x:Str}{t:Tok}{ty:String}(hty:ty = "str_ascii_iterator"∨ty = "str_iterator")
  (W:∀ A':Around,A'.handled=none->Walks P w A' it [it] [it] x.cps.size (SignAt x) (fun i h=>h.IsStrIter it ty x t i)):Turn P w K tg (Its x) [it] it (fun i h=>i<=x.cps.size/\h.IsStrIter it ty x t i) where
 mem:=by simp
 obj:=fun i h st b hb=>by
  have e:b=it:=by simpa using hb
  subst e;obtain⟨_,o,e,c,d⟩:=st;exact⟨o,e,fun v z=>by rw[d] at z;cases z⟩
 keep:=fun i h h' st k=>by obtain⟨l,o,e,c,d⟩:=st;exact⟨l,o,k it (by simp) o e,c,d⟩
 item:=by intro X hP hw hK hc i pins s σ H E I hf st hg;subst hP hw hK;obtain⟨f0,f1,f2,f3,f4,f5⟩:=hf it (by simp);refine(W X.A (I.ok.hd hc)).item i s _ _ hg st.2 fun v h' tk hv st' kk=>?_;obtain⟨c,u,hcx,rfl⟩:=hv;have I1:Inv X pins σ H {s with heap:=h',toks:=tk}:=I.turned (fun b o hb e=>kk b o (by simpa using hb) e) f0 f1 f3 f4 f5;obtain⟨o,e,cc,d⟩:=id st';refine⟨_,rfl,nO (s:={s with heap:=h',toks:=tk}) (n:=ty) e cc d (by rcases hty with rfl|rfl<;>decide) ⟨.str ⟨#[c]⟩,H,I1,⟨u,rfl⟩,⟨rfl,c,hcx,rfl⟩,⟨hg,st'⟩,fun b hb=>(hf b hb).1⟩⟩
 done:=by intro X hP hw hK hc i pins s σ H E I hf st hg;subst hP hw hK;obtain⟨f0,f1,f2,f3,f4,f5⟩:=hf it (by simp);have e:i=x.cps.size:=Nat.le_antisymm st.1 hg;refine(W X.A (I.ok.hd hc)).done s _ _ (by rw[<- e];exact st.2) fun h' tk kk=>⟨rfl,I.turned (fun b o hb e=>kk b o (by simpa using hb) e) f0 f1 f3 f4 f5⟩
 self:=fun A i s Q E st h=>by
  obtain⟨_,st⟩:=st;rcases hty with rfl|rfl
  ·exact wpAny_pyIter_striter_ascii st h
  ·exact wpAny_pyIter_striter_wide st h
theorem yq {tg:Expr}{pins:List (Addr×Obj)}{s:Shared}{σ:St}{H:Hp}{x:Str}{t:Tok}{R:It->Hp->Prop}(I:Inv X pins σ H s)(q:R (Its x) H):wpAny (model X.prog X.w) X.A (pyIter (.str x t)) (PIE X pins σ tg R) X.xe s:=by
 have fin:∀ ty,(ty = "str_ascii_iterator"∨ty = "str_iterator")->(∀ A':Around,A'.handled=none->Walks X.prog X.w A' s.heap.objs.size [s.heap.objs.size] [s.heap.objs.size] x.cps.size (SignAt x) (fun i h=>h.IsStrIter s.heap.objs.size ty x t i))->
   PIE X pins σ tg R (.ref s.heap.objs.size) {s with heap:=s.heap.push {cls:=.type ty,data:=.fields #[.str x t,.int 0 0]}}:=fun ty hty W=>by
  refine⟨s.heap.objs.size,[s.heap.objs.size],_,_,H,rfl,I.kept (t':=s.toks) fun b o e=>Heap.get?_push_of_some _ e,qQ hty W,⟨Nat.zero_le _,_,Heap.get?_push_size _ rfl,rfl,rfl⟩,fun b hb=>?_,q⟩;have e:b=s.heap.objs.size:=by simpa using hb
  subst e;exact I.fpOk (Nat.le_refl _) (I.hok.fresh (Nat.le_refl _))
 cases ha:x.cps.all (· < 128)
 ·exact wpAny_pyIter_wide ha (fin _ (.inr rfl) fun A' hA=>Walks.strWide hA _ x t)
 ·exact wpAny_pyIter_ascii ha (fin _ (.inl rfl) fun A' hA=>Walks.strAscii hA _ x t)
end
end L2
namespace PySem
open Sem (wp)
namespace Heap
end Heap
end PySem
namespace L2
open PySem PySem.Spec PyProof.Rows PySem.SeqAt
theorem du.at {P:Program}{w:World}{H:Hp}{h:Heap}{a:Addr}{o:HO}(x:du P w H h a o):∃ ob,h.get? a=some ob:=by
 cases o with
 | lst xs=>obtain⟨_,_,_,_,e⟩:=x;exact⟨_,e⟩
 | tup xs=>obtain⟨_,_,_,ob,e,_⟩:=x;exact⟨_,e⟩
 | dK kvs=>obtain⟨_,_,_,_,o,_,_,e,_⟩:=x;exact⟨_,e⟩
 | dT kvs=>obtain⟨_,_,_,_,o,_,_,e,_⟩:=x;exact⟨_,e⟩
 | set S n=>obtain⟨o,_,_,_,e,_⟩:=x;exact⟨_,e⟩
 | ins C dx fs=>obtain⟨_,_,_,e,_⟩:=x;exact⟨_,e⟩
 | own y=>exact x
 | xd fs=>obtain⟨_,⟨_,_,_,e,_⟩,_⟩:=x;exact⟨_,e⟩
 | rng lo hi=>obtain⟨_,_,_,e⟩:=x;exact⟨_,e⟩
 | frz ob u=>exact⟨_,x.1⟩
 | tbl ps=>exact⟨_,x⟩
 | met f y=>exact⟨_,x⟩
 | ext φ=>exact x.2.1
noncomputable def indep:HO->Bool
 | .lst _=>true
 | .tup _=>true
 | .ext _=>true
 | .dK _=>true
 | .ins _ _ _=>true
 | _=>false
theorem gZ {P:Program}{w:World}{H H':Hp}{h:Heap}{a:Addr}{u:HO}(i:indep u=true)(x:du P w H h a u)(ho:∀ C dx fs,u=.ins C dx fs->H dx=some (.own a)->H' dx=some (.own a)):du P w H' h a u:=by
 cases u with
 | ins C dx fs=>exact⟨ho C dx fs rfl x.1,x.2⟩
 | lst _=>exact x
 | tup _=>exact x
 | ext _=>exact x
 | dK _=>exact x
 | _=>cases i
noncomputable def lnk (b:Addr):Option HO->Bool
 | some (.ins _ d _)=>d == b
 | some (.frz _ (.ins _ d _))=>d == b
 | _=>false
noncomputable def cV (h:Heap)(H:Hp):Hp:=fun b=>match H b with
 | some (.lst xs)=>(h.get? b).map fun o=>.frz o (.lst xs)
 | some (.dK kvs)=>(h.get? b).map fun o=>.frz o (.dK kvs)
 | some (.ins C dx fs)=>(h.get? b).map fun o=>.frz o (.ins C dx fs)
 | some (.own x)=>if lnk b (H x)=true then some (.own x) else none
 | some (.tup xs)=>some (.tup xs)
 | some (.frz o u)=>if indep u=true then some (.frz o u) else none
 | _=>none
noncomputable def gC (H H':Hp):Hp:=fun b=>match H b with
 | some o=>some o
 | none=>H' b
def LTH (H:Hp):Prop:=∀ b o,H b=some o->(∃ ob u,o=.frz ob u)∨(∃ xs,o=.tup xs)∨∃ x ob C fs,o=.own x/\H x=some (.frz ob (.ins C b fs))
theorem qR {P:Program}{w:World}{h:Heap}{H:Hp}(x:HOk P w H h):LTH (cV h H):=fun b o e=>by
 unfold cV at e;split at e
 ·obtain⟨ob,_,rfl⟩:=Option.map_eq_some_iff.mp e;exact .inl ⟨_,_,rfl⟩
 ·obtain⟨ob,_,rfl⟩:=Option.map_eq_some_iff.mp e;exact .inl ⟨_,_,rfl⟩
 ·obtain⟨ob,_,rfl⟩:=Option.map_eq_some_iff.mp e;exact .inl ⟨_,_,rfl⟩
 ·rename_i x' q
  split at e
  ·rename_i i
   cases e;refine .inr (.inr ?_);cases q2:H x' with
   | none=>rw[q2] at i;cases i
   | some o2=>
    rw[q2] at i;cases o2 with
    | ins C d fs=>
     obtain⟨ob,he⟩:=(x x' _ q2).at
     have z:d=b:=eq_of_beq i;subst z;exact⟨x',ob,C,fs,rfl,by unfold cV;rw[q2];show (h.get? x').map _=_;rw[he];rfl⟩
    | frz ob u2=>
     cases u2 with
     | ins C d fs=>have z:d=b:=eq_of_beq i;subst z;exact⟨x',ob,C,fs,rfl,by unfold cV;rw[q2];rfl⟩
     | _=>cases i
    | _=>cases i
  ·cases e
 ·cases e;exact .inr (.inl ⟨_,rfl⟩)
 ·split at e
  ·cases e;exact .inl ⟨_,_,rfl⟩
  ·cases e
 ·cases e
structure Pers (h:Heap)(H H':Hp):Prop where
 frzs:∀ b o u,cV h H b=some (.frz o u)->H' b=some (.frz o u)
 tups:∀ b xs,cV h H b=some (.tup xs)->H' b=some (.tup xs)
 owns:∀ b x,cV h H b=some (.own x)->H' b=some (.own x)
 free:∀ b o,h.get? b=some o->H b≠none->cV h H b=none->H' b=none
inductive Bk (h:Heap)(H H':Hp)(b:Addr):HO->Prop where
 | lst {xs:List V}{ob:Obj}:h.get? b=some ob->H' b=some (.frz ob (.lst xs))->Bk h H H' b (.lst xs)
 | dK {xs:List (Key×V)}{ob:Obj}:h.get? b=some ob->H' b=some (.frz ob (.dK xs))->Bk h H H' b (.dK xs)
 | ins {C dx:Addr}{fs:List (Str×V)}{ob:Obj}:h.get? b=some ob->H' b=some (.frz ob (.ins C dx fs))->Bk h H H' b (.ins C dx fs)
 | own {x:Addr}:H' b=some (.own x)->Bk h H H' b (.own x)
 | tup {xs:List V}:H' b=some (.tup xs)->Bk h H H' b (.tup xs)
 | frz {o:Obj}{u:HO}:indep u=true->H' b=some (.frz o u)->Bk h H H' b (.frz o u)
 | oth {o:HO}{ob:Obj}:h.get? b=some ob->cV h H b=none->H' b=none->(∀ xs,o≠.lst xs)->(∀ xs,o≠.tup xs)->(∀ xs,o≠.dK xs)/\(∀ C dx fs,o≠.ins C dx fs)->Bk h H H' b o
section
variable {P:Program}{w:World}{H H':Hp}{h g:Heap}
theorem j6 (x:HOk P w H h)(p:Pers h H H'){b:Addr}{o:HO}(e:H b=some o):Bk h H H' b o:=by
 obtain⟨ob,he⟩:=(x b o e).at
 have hc:cV h H b=(match (some o:Option HO) with
  | some (.lst xs)=>(h.get? b).map fun o=>.frz o (.lst xs)
  | some (.dK kvs)=>(h.get? b).map fun o=>.frz o (.dK kvs)
  | some (.ins C dx fs)=>(h.get? b).map fun o=>.frz o (.ins C dx fs)
  | some (.own x)=>if lnk b (H x)=true then some (.own x) else none
  | some (.tup xs)=>some (.tup xs)
  | some (.frz o u)=>if indep u=true then some (.frz o u) else none
  | _=>none):=by unfold cV;rw[e]
 cases o with
 | lst xs=>have hc:cV h H b=(h.get? b).map fun o=>.frz o (.lst xs):=hc;rw[he] at hc;exact .lst he (p.frzs _ _ _ hc)
 | dK xs=>have hc:cV h H b=(h.get? b).map fun o=>.frz o (.dK xs):=hc;rw[he] at hc;exact .dK he (p.frzs _ _ _ hc)
 | ins C dx fs=>have hc:cV h H b=(h.get? b).map fun o=>.frz o (.ins C dx fs):=hc;rw[he] at hc;exact .ins he (p.frzs _ _ _ hc)
 | own x=>
  have hc:cV h H b=if lnk b (H x)=true then some (.own x) else none:=hc
  by_cases i:lnk b (H x)=true
  ·rw[if_pos i] at hc;exact .own (p.owns _ _ hc)
  ·rw[if_neg i] at hc;exact .oth he hc (p.free _ _ he (by rw[e];simp) hc) (fun _ z=>by cases z) (fun _ z=>by cases z) ⟨fun _ z=>(nomatch z),fun _ _ _ z=>(nomatch z)⟩
 | tup xs=>exact .tup (p.tups _ _ hc)
 | frz o' u=>
  have hc:cV h H b=if indep u=true then some (.frz o' u) else none:=hc
  by_cases i:indep u=true
  ·rw[if_pos i] at hc;exact .frz i (p.frzs _ _ _ hc)
  ·rw[if_neg i] at hc;exact .oth he hc (p.free _ _ he (by rw[e];simp) hc) (fun _ z=>by cases z) (fun _ z=>by cases z) ⟨fun _ z=>(nomatch z),fun _ _ _ z=>(nomatch z)⟩
 | _=>exact .oth he hc (p.free _ _ he (by rw[e];simp) hc) (fun _ z=>by cases z) (fun _ z=>by cases z) ⟨fun _ z=>(nomatch z),fun _ _ _ z=>(nomatch z)⟩
theorem og {b x:Addr}(e:H b=some (.own x))(l:lnk b (H x)=true):cV h H b=some (.own x):=by unfold cV;rw[e];exact if_pos l
theorem m7 (x:HOk P w H h):HOk P w (cV h H) h:=fun b o e=>by
 cases q:H b with
 | none=>unfold cV at e;rw[q] at e;cases e
 | some u=>
  have y:=x b u q;unfold cV at e;rw[q] at e;cases u with
  | lst xs=>
   obtain⟨ob,he⟩:=y.at
   have e:(h.get? b).map (fun o=>HO.frz o (.lst xs))=some o:=e;rw[he] at e;cases e;exact⟨he,y⟩
  | dK xs=>
   obtain⟨ob,he⟩:=y.at
   have e:(h.get? b).map (fun o=>HO.frz o (.dK xs))=some o:=e;rw[he] at e;cases e;exact⟨he,y⟩
  | ins C dx fs=>
   obtain⟨ob,he⟩:=y.at
   have e:(h.get? b).map (fun o=>HO.frz o (.ins C dx fs))=some o:=e;rw[he] at e;cases e;exact⟨he,og y.1 (by rw[q];exact beq_self_eq_true dx),y.2⟩
  | own x=>
   have e:(if lnk b (H x)=true then some (HO.own x) else none)=some o:=e;by_cases i:lnk b (H x)=true
   ·rw[if_pos i] at e;cases e;exact y
   ·rw[if_neg i] at e;cases e
  | tup xs=>cases e;exact y
  | frz o' u=>
   have e:(if indep u=true then some (HO.frz o' u) else none)=some o:=e;by_cases i:indep u=true
   ·rw[if_pos i] at e;cases e;exact⟨y.1,gZ i y.2 fun C dx fs z h=>og h (by rw[q,z];exact beq_self_eq_true dx)⟩
   ·rw[if_neg i] at e;cases e
  | _=>cases e
theorem dQ (e:H a=none):cV h H a=none:=by unfold cV;rw[e]
theorem res_some {b:Addr}{o:HO}(e:H b=some o):gC H H' b=some o:=by unfold gC;rw[e]
theorem res_none {b:Addr}(e:H b=none):gC H H' b=H' b:=by unfold gC;rw[e]
theorem qS:cO H (gC H H'):=fun b o e=>res_some e
theorem m8 (x:HOk P w H h)(y:HOk P w H' g)(p:Pers h H H'){fs:List Addr}(keep:∀ b o,H b≠none->h.get? b=some o->cV h H b=none->b∉fs->g.get? b=some o)(fr:∀ b∈fs,H b=none):HOk P w (gC H H') g:=by
 have tp:∀ c xs,H' c=some (.tup xs)->gC H H' c=some (.tup xs):=fun c xs e=>by
  cases q:H c with
  | none=>rw[res_none q];exact e
  | some o=>
   rw[res_some q];cases j6 x p q with
   | lst _ z=>rw[z] at e;cases e
   | dK _ z=>rw[z] at e;cases e
   | ins _ z=>rw[z] at e;cases e
   | own z=>rw[z] at e;cases e
   | tup z=>rw[z] at e;exact e
   | frz _ z=>rw[z] at e;cases e
   | oth _ _ z _ _ _=>rw[z] at e;cases e
 intro b o e;cases q:H b with
 | some o'=>
  rw[res_some q] at e;cases e;cases j6 x p q with
  | lst h1 z=>have h2:=(y b _ z).1;obtain⟨a1,its,n,a2,a3⟩:=x b _ q;rw[h1] at a3;exact⟨a1,its,n,a2,by rw[h2,<- a3]⟩
  | dK h1 z=>exact gZ rfl (y b _ z).2 fun _ _ _ z=>by cases z
  | ins h1 z=>exact⟨res_some (x b _ q).1,(y b _ z).2.2⟩
  | own z=>exact y b _ z
  | tup z=>exact y b _ z
  | @frz o' u' i z=>exact⟨(y b _ z).1,gZ i (y b _ z).2 fun C dx fs z' _=>by subst z';exact res_some (x b _ q).2.1⟩
  | oth h1 h2 z n1 n2 n3=>
   refine(x b _ q).stay (fun c u hc hu=>?_) (fun c hc=>res_some hc) fun c xs hc=>res_some hc;rcases hc with rfl|hc
   ·exact keep _ _ (by rw[q];simp) hu h2 fun z=>by rw[fr _ z] at q;cases q
   ·refine keep _ _ (by rw[hc];simp) hu ?_ fun z=>by rw[fr _ z] at hc;cases hc
    unfold cV;rw[hc];refine if_neg fun z=>?_;rw[q] at z;cases o with
    | ins C dx fs=>exact n3.2 _ _ _ rfl
    | frz ob u=>
     cases u with
     | ins C dx fs=>
      have:cV h H b=some (.frz ob (.ins C dx fs)):=by unfold cV;rw[q];rfl
      rw[this] at h2;cases h2
     | _=>cases z
    | _=>cases z
 | none=>
  rw[res_none q] at e;refine(y b o e).stay (fun _ _ _ z=>z) (fun c hc=>?_) tp;cases q':H c with
  | none=>rw[res_none q'];exact hc
  | some o'=>
   cases j6 x p q' with
   | lst _ z=>rw[z] at hc;cases hc
   | dK _ z=>rw[z] at hc;cases hc
   | ins _ z=>rw[z] at hc;cases hc
   | own z=>rw[z] at hc;cases hc;rw[res_some q']
   | tup z=>rw[z] at hc;cases hc
   | frz _ z=>rw[z] at hc;cases hc
   | oth _ _ z _ _ _=>rw[z] at hc;cases hc
theorem iR {fs:List Addr}{g':Heap}(x:HOk P w H h)(y:HOk P w H' g')(u:Un fs [] (cV h H) H' h g):Pers h H H':=⟨u.frzs,u.tups,fun b x' e=>by
 cases q:H b with
 | none=>rw[dQ q] at e;cases e
 | some o=>
  unfold cV at e;rw[q] at e;cases o with
  | own x2=>
   have e:(if lnk b (H x2)=true then some (HO.own x2) else none)=some (HO.own x'):=e;by_cases i:lnk b (H x2)=true
   ·rw[if_pos i] at e;cases e;cases q2:H x' with
    | none=>rw[q2] at i;cases i
    | some o2=>
     rw[q2] at i;have key:∀ ob C d fs,cV h H x'=some (.frz ob (.ins C d fs))->(d == b)=true->H' b=some (.own x'):=fun ob C d fs z e=>by
      have:=(y x' _ (u.frzs _ _ _ z)).2.1
      rwa [eq_of_beq e] at this
     cases o2 with
     | ins C d fs=>
      obtain⟨ob,he⟩:=(x x' _ q2).at
      exact key ob C d fs (by unfold cV;rw[q2];show (h.get? x').map _=_;rw[he];rfl) i
     | frz ob u2=>
      cases u2 with
      | ins C d fs=>exact key ob C d fs (by unfold cV;rw[q2];rfl) i
      | _=>cases i
     | _=>cases i
   ·rw[if_neg i] at e;cases e
  | lst xs=>obtain⟨_,_,z⟩:=Option.map_eq_some_iff.mp e;cases z
  | dK xs=>obtain⟨_,_,z⟩:=Option.map_eq_some_iff.mp e;cases z
  | ins C d fs=>obtain⟨_,_,z⟩:=Option.map_eq_some_iff.mp e;cases z
  | frz o2 u2=>have e:(if indep u2=true then some (HO.frz o2 u2) else none)=some (HO.own x'):=e;split at e<;>cases e
  | _=>(cases e),fun b o e n z=>u.free b o e z (by simp)⟩
theorem qT {fs:List Addr}(x:HOk P w H h)(u:Un fs [] (cV h H) H' h g):Un fs [] H (gC H H') h g where
 keep:=fun b o e n f i=>u.keep b o e (dQ n) f i
 slot:=fun b o e n f i=>u.slot b o e (dQ n) f i
 free:=fun b o e n i=>by rw[res_none n];exact u.free b o e (dQ n) i
 there:=u.there
 tups:=fun b xs e=>res_some e
 frzs:=fun b o v e=>res_some e
 tbls:=fun b ps e=>⟨#[],by rw[res_some e];simp⟩
end
theorem qU {H:Hp}{h:Heap}:Cl H (cV h H):=by
 refine⟨fun b o e=>?_,fun b xs e=>?_⟩
 ·unfold cV;rw[e];rfl
 ·rcases e with e|⟨o,e⟩
  ·exact .inl (by unfold cV;rw[e])
  ·exact .inr ⟨o,by unfold cV;rw[e];rfl⟩
theorem yr {P:Program}{w:World}{H H':Hp}{h:Heap}(x:HOk P w H h)(p:Pers h H H'):Cl H' (gC H H'):=by
 refine⟨fun b o e=>?_,fun b xs e=>?_⟩
 ·cases q:H b with
  | none=>rw[res_none q];exact e
  | some u=>
   rw[res_some q];have k:=j6 x p q;cases k with
   | lst h1 h2=>rw[e] at h2;cases h2
   | dK h1 h2=>rw[e] at h2;cases h2
   | ins h1 h2=>rw[e] at h2;cases h2
   | own h2=>rw[e] at h2;cases h2
   | tup h2=>rw[e] at h2;cases h2
   | frz h1 h2=>rw[e] at h2;cases h2;rfl
   | oth h1 h2 h3=>rw[e] at h3;cases h3
 ·cases q:H b with
  | none=>unfold Rd;rw[res_none q];exact e
  | some u=>
   unfold Rd;rw[res_some q];have k:=j6 x p q;cases k with
   | lst h1 h2=>rcases e with e|⟨o,e⟩<;>(rw[e] at h2;cases h2)
   | dK h1 h2=>rcases e with e|⟨o,e⟩<;>(rw[e] at h2;cases h2)
   | ins h1 h2=>rcases e with e|⟨o,e⟩<;>(rw[e] at h2;cases h2)
   | own h2=>rcases e with e|⟨o,e⟩<;>(rw[e] at h2;cases h2)
   | tup h2=>rcases e with e|⟨o,e⟩<;>(rw[e] at h2;cases h2);exact .inl rfl
   | frz h1 h2=>rcases e with e|⟨o,e⟩<;>(rw[e] at h2;cases h2);exact .inr ⟨_,rfl⟩
   | oth h1 h2 h3=>rcases e with e|⟨o,e⟩<;>(rw[e] at h3;cases h3)
noncomputable def dz:List Str:=["len","sum","min","max","sorted","list","tuple","ord","int","all","any","str","set","abs","isinstance","range","bool","zip","reversed","dict","enumerate"]
noncomputable def j7:Bi->Nat
 | .len=>0|.sum=>1|.min2=>2|.max2=>3|.maxl=>3|.sorted=>4|.list=>5|.tuple=>6|.ord=>7|.int=>8|.all=>9|.any=>10|.str=>11|.set=>12|.abs=>13
noncomputable def oh:Kd->Nat
 | .str=>11|.int=>8|.bool=>16|.list=>5|.tuple=>6
theorem qV (f:Bi):dz[j7 f]? = some (fY f):=by cases f<;>rfl
theorem yt (f:Kd):dz[oh f]? = some (gP f):=by cases f<;>rfl
mutual
noncomputable def pT:D->D->Bool
 | .non,.non=>true
 | .bl a,.bl b=>a == b
 | .int a,.int b=>a == b
 | .str a,.str b=>a == b
 | .tup a,.tup b=>jf a b
 | .lst o a,.lst o' b=>o == o'&&jf a b
 | _,_=>false
noncomputable def jf:List D->List D->Bool
 | [],[]=>true
 | a::r,b::s=>pT a b&&jf r s
 | _,_=>false
end
mutual
theorem oj:∀ {a b:D},pT a b=true->a=b
 | .non,b,h=>by cases b<;>first|rfl|cases h
 | .bl a,b,h=>by cases b<;>first|(rw[eq_of_beq (show (a == _)=true from h)])|cases h
 | .int a,b,h=>by cases b<;>first|(rw[eq_of_beq (show (a == _)=true from h)])|cases h
 | .str a,b,h=>by cases b<;>first|(rw[eq_of_beq (show (a == _)=true from h)])|cases h
 | .tup a,b,h=>by
  induction b using zD with
  | tup b=>rw[jg (show jf a b=true from h)]
  | _=>cases h
 | .lst o a,b,h=>by
  induction b using zD with
  | lst o' b=>have h':(o == o'&&jf a b)=true:=h;rw[Bool.and_eq_true] at h';rw[eq_of_beq h'.1,jg h'.2]
  | _=>cases h
theorem jg:∀ {a b:List D},jf a b=true->a=b
 | [],b,h=>by cases b<;>first|rfl|cases h
 | a::r,b,h=>by
  induction b using zL with
  | nil=>cases h
  | cons b s=>have h':(pT a b&&jf r s)=true:=h;rw[Bool.and_eq_true] at h';rw[oj h'.1,jg h'.2]
end
structure Sg where
 nm:List Str
 kst:List (Nat×D)
 fns:List Nat
 cls:List Nat:=[]
 xt:List (Str×Nat×Bool):=[]
 pl:List Nat:=[]
 rc:List (Nat×Str×Str):=[]
 xm:List (Str×Nat):=[]
 fio:List (Nat×Str×Str):=[]
 oms:List (Nat×Str×Str):=[]
 omk:List (Nat×Str×Nat):=[]
 ocs:List Str:=[]
 ofs:List Str:=[]
noncomputable def Sg.name (Z:Sg)(n:Nat):Option Str:=(dz++Z.nm)[n]?
noncomputable def Gm.glc (G:Gm)(n:Nat):Bool:=G.cm&&G.gl.contains n
theorem kE {G:Gm}{n:Nat}(h:G.glc n=true):G.gl.contains n=true:=by unfold Gm.glc at h;rw[Bool.and_eq_true] at h;exact h.2
theorem kF {G:Gm}{n:Nat}(h:G.glc n=true):G.cm=true:=by unfold Gm.glc at h;rw[Bool.and_eq_true] at h;exact h.1
noncomputable def Sg.fnc (Z:Sg)(G:Gm)(f:Nat):Bool:=Z.fns.contains f&&(G.cm||Z.pl.contains f)
theorem kG {Z:Sg}{G:Gm}{f:Nat}(h:Z.fnc G f=true):f∈Z.fns/\(G.cm=true∨f∈Z.pl):=by unfold Sg.fnc at h;rw[Bool.and_eq_true,Bool.or_eq_true] at h;exact⟨by simpa using h.1,h.2.elim .inl fun z=>.inr (by simpa using z)⟩
noncomputable def nc:Mt->Bool
 | .join=>true
 | _=>false
noncomputable def notStar:Expr->Bool
 | .Starred ..=>false
 | _=>true
noncomputable def dJ:Expr->Bool
 | .Slice ..=>false
 | _=>true
noncomputable def jh:Expr->Bool
 | .Call _ [] [] _=>false
 | _=>true
noncomputable def ez (G:Gm)(i:Nat)(x:Str):Bool:=G.N[i]? == some x&&(G.kd[i]? == some .local||G.kd[i]? == some .cell||G.kd[i]? == some .free)
noncomputable def gD (Z:Sg)(G:Gm)(n:Nat)(x:Str):Bool:=Z.name n == some x&&G.gl.contains n
noncomputable def AF:D->Const->Bool
 | .int i,.int j=>i == j
 | .str x,.str y=>x == y
 | .bl a,.bool b=>a == b
 | .non,.none=>true
 | _,_=>false
mutual
noncomputable def eF (G:Gm):Tg->Expr->Bool
 | .nm i,.Name x _=>(G.N[i]? == some x&&(G.kd[i]? == some .local||(G.df&&G.kd[i]? == some .cell)))&&G.io != some i
 | .tp ts,.Tuple es _ _=>G.cm&&gG G ts es
 | _,_=>false
noncomputable def gG (G:Gm):List Tg->List Expr->Bool
 | [],[]=>true
 | t::ts,e::es=>notStar e&&eF G t e&&gG G ts es
 | _,_=>false
end
mutual
noncomputable def tgs:Tg->List Nat
 | .nm i=>[i]
 | .tp ts=>lZ ts
noncomputable def lZ:List Tg->List Nat
 | []=>[]
 | t::ts=>tgs t++lZ ts
end
noncomputable def eA (Z : Sg)(G : Gm)(scope : Scope)(G' : Gm)(fr : List Nat) : Bool :=
  (G.cm&&scope.kind == .function)&&!G'.tr&&!G'.df&&G'.kd.length == G'.N.length
 &&scope.names.all (fun y => y.2 != .cell)&&scope.names.all (fun y => y.2 != .local||scope.names.lookup y.1 == some .local)
 &&scope.names.all (fun y => y.2 != .free||(List.range G.N.length).any fun i => G.N[i]? == some y.1&&(G.kd[i]? == some .cell||G.kd[i]? == some .free))
 &&(List.range fr.length).all (fun j => G'.N[j]? == (fr[j]?).bind (G.N[·]?)&&((G'.N[j]?).bind (scope.names.lookup ·) == some .free)&&((fr[j]?).bind (G.kd[·]?) == some .cell||(fr[j]?).bind (G.kd[·]?) == some .free)
     &&(G'.kd[j]? == some (if ((fr[j]?).bind (G.kd[·]?) == some .cell) then .cell else .free)))
 &&decide (fr.length <= G'.N.length)
 &&((List.range G'.N.length).drop fr.length).all (fun j => (G'.N[j]?).bind (scope.names.lookup ·) == some .local&&G'.kd[j]? == some .local)
 &&G'.N.all (fun x => !(x == "__debug__")&&!(x == "__classdict__"))
 &&decide (G'.N.Nodup)
 &&G'.gl.all (fun n => match Z.name n with|some x => scope.names.lookup x == some .globalImplicit|none => false)
theorem aY {P:Prop}(h:false=true):P:=by cases h
noncomputable def pU:List Comprehension->(Expr->Expr->List Expr->Bool)->Bool
 | [⟨t,it,fs,0⟩],k=>k t it fs
 | _,_=>false
theorem kH {gens:List Comprehension}{k:Expr->Expr->List Expr->Bool}(h:pU gens k=true):∃ t it fs,gens=[⟨t,it,fs,0⟩]/\k t it fs=true:=by
 unfold pU at h;split at h
 ·exact⟨_,_,_,rfl,h⟩
 ·cases h
noncomputable def nmv (k:Str->Bool):Expr->Bool
 | .Name z _=>k z
 | _=>false
theorem fB {k:Str->Bool}{e:Expr}(h:nmv k e=true):∃ z p,e=.Name z p/\k z=true:=by
 induction e using zE with
 | Name z p=>exact⟨z,p,rfl,h⟩
 | _=>exact aY h
noncomputable def l1v {α:Type}:List α->(α->Bool)->Bool
 | a::r,k=>r.isEmpty&&k a
 | [],_=>false
theorem ir {α:Type}{l:List α}{k:α->Bool}(h:l1v l k=true):∃ a,l=[a]/\k a=true:=by
 induction l using zL with
 | nil=>exact aY h
 | cons a r=>
  induction r using zL with
  | nil=>exact⟨a,rfl,h⟩
  | cons b r=>exact aY h
noncomputable def cav:Expr->(Expr->List Expr->Pos->Bool)->Bool
 | .Call f as ks p,k=>ks.isEmpty&&k f as p
 | _,_=>false
theorem fZ {e:Expr}{k:Expr->List Expr->Pos->Bool}(h:cav e k=true):∃ f as p,e=.Call f as [] p/\k f as p=true:=by
 induction e using zE with
 | Call f as ks p=>
  induction ks using zL with
  | nil=>exact⟨f,as,p,rfl,h⟩
  | cons b r=>exact aY h
 | _=>exact aY h
noncomputable def nh:Expr->Bool
 | .Tuple _ _ _=>true
 | _=>false
noncomputable def iN:Sr->Expr->Bool
 | .enm _,t=>nh t
 | _,_=>true
noncomputable def dcv:Expr->Bool
 | .Dict ks vs _=>ks.isEmpty&&vs.isEmpty
 | _=>false
theorem qW {e:Expr}(h:dcv e=true):∃ p,e=.Dict [] [] p:=by
 induction e using zE with
 | Dict ks vs p=>
  have h':=Bool.and_eq_true_iff.mp (show (ks.isEmpty&&vs.isEmpty)=true from h)
  induction ks using zL with
  | cons _ _=>exact aY h'.1
  | nil=>
   induction vs using zL with
   | cons _ _=>exact aY h'.2
   | nil=>exact⟨p,rfl⟩
 | _=>exact aY h
noncomputable def sbx:Expr->(Expr->Expr->Bool)->Bool
 | .Subscript o s _,k=>k o s
 | _,_=>false
theorem yu {e:Expr}{k:Expr->Expr->Bool}(h:sbx e k=true):∃ o s p,e=.Subscript o s p/\k o s=true:=by
 unfold sbx at h;split at h
 ·exact⟨_,_,_,rfl,h⟩
 ·cases h
noncomputable def lrv (e:Expr)(k:Str->Str->Expr->Bool):Bool:=cav e fun f as _=>nmv (fun x=>l1v as fun a=>cav a fun g bs _=>nmv (fun y=>l1v bs fun b=>k x y b) g) f
theorem qX {e:Expr}{k:Str->Str->Expr->Bool}(h:lrv e k=true):∃ x p y p' e' q' q,e=.Call (.Name x p) [.Call (.Name y p') [e'] [] q'] [] q/\k x y e'=true:=by obtain⟨f,as,q,rfl,h1⟩:=fZ h;obtain⟨x,p,rfl,h2⟩:=fB h1;obtain⟨a,rfl,h3⟩:=ir h2;obtain⟨g,bs,q',rfl,h4⟩:=fZ h3;obtain⟨y,p',rfl,h5⟩:=fB h4;obtain⟨b,rfl,h6⟩:=ir h5;exact⟨_,_,_,_,_,_,_,rfl,h6⟩
noncomputable def l7:Expr->Bool
 | .Name _ _=>true
 | .Attribute _ _ _=>true
 | _=>false
noncomputable def atp:Expr->(Expr->Str->Pos->Bool)->Bool
 | .Attribute o x p,k=>k o x p
 | _,_=>false
theorem gb {e:Expr}{k:Expr->Str->Pos->Bool}(h:atp e k=true):∃ o x p,e=.Attribute o x p/\k o x p=true:=by
 induction e using zE with
 | Attribute o x p=>exact⟨o,x,p,rfl,h⟩
 | _=>exact aY h
noncomputable def lsv:Expr->(List Expr->Bool)->Bool
 | .List es _,k=>k es
 | _,_=>false
theorem qY {e:Expr}{k:List Expr->Bool}(h:lsv e k=true):∃ es p,e=.List es p/\k es=true:=by
 induction e using zE with
 | List es p=>exact⟨es,p,rfl,h⟩
 | _=>exact aY h
noncomputable def atv:Expr->(Expr->Str->Bool)->Bool
 | .Attribute o y _,k=>k o y
 | _,_=>false
theorem yv {e:Expr}{k:Expr->Str->Bool}(h:atv e k=true):∃ o y p,e=.Attribute o y p/\k o y=true:=by
 unfold atv at h;split at h
 ·exact⟨_,_,_,rfl,h⟩
 ·cases h
mutual
noncomputable def chk (Z:Sg)(G:Gm):IR->Expr->Bool
 | .c d,.Constant k _ _=>AF d k
 | .g n d,.Name x _=>gD Z G n x&&Z.kst.any fun p=>p.1 == n&&pT p.2 d
 | .v i,.Name x _=>ez G i x
 | .bin op a b,.BinOp l o r _=>o == bop op&&chk Z G a l&&chk Z G b r
 | .cmp op a b,.Compare l [o] [r] _=>o == cop op&&chk Z G a l&&chk Z G b r&&!behindInMarks o r
 | .chain op op' a b c,.Compare l [o,o'] [m,r] _=>o == cop op&&o' == cop op'&&chk Z G a l&&chk Z G b m&&chk Z G c r&&!lastMarks [o,o'] [m,r]
 | .and_ a b,.BoolOp .And [e,e'] _=>chk Z G a e&&chk Z G b e'
 | .and_ a b,.BoolOp .And (e::e'::e''::rest) p=>chk Z G a e&&chk Z G b (.BoolOp .And (e'::e''::rest) p)
 | .or_ a b,.BoolOp .Or [e,e'] _=>chk Z G a e&&chk Z G b e'
 | .or_ a b,.BoolOp .Or (e::e'::e''::rest) p=>chk Z G a e&&chk Z G b (.BoolOp .Or (e'::e''::rest) p)
 | .not_ a,.UnaryOp .Not e _=>chk Z G a e
 | .tup es,.Tuple l _ _=>cW Z G es l
 | .lst es,.List l _=>cW Z G es l
 | .ite t a b,.IfExp c x y _=>chk Z G t c&&chk Z G a x&&chk Z G b y
 | .lrev a,e=>lrv e fun x y e=>x == "list"&&G.glc 5&&y == "reversed"&&G.gl.contains 18&&notStar e&&chk Z G a e
 | .neg a,.UnaryOp .USub e _=>chk Z G a e
 | .sl a lo hi,.Subscript e (.Slice l h none _) _=>chk Z G a e&&ni Z G lo l&&ni Z G hi h
 | .idx a i,.Subscript e s _=>dJ s&&chk Z G a e&&chk Z G i s
 | .call f es,.Call (.Name x _) args [] _=>gD Z G f x&&Z.fnc G f&&cW Z G es args
 | .bi f es,.Call (.Name x _) (a::args) [] _=>x == fY f&&G.glc (j7 f)&&cW Z G es (a::args)
 | .isi a k,.Call (.Name x _) [e,.Name y _] [] _=>x == "isinstance"&&G.gl.contains 14&&y == gP k&&G.gl.contains (oh k)&&notStar e&&chk Z G a e
 | .dnew,e=>dcv e
 | .dget a k,e=>sbx e fun o s=>dJ s&&chk Z G a o&&chk Z G k s
 | .ofld a x cs,e=>atv e fun o y=>y == x&&l7 o&&Z.ofs.contains x&&cs.all (fun c=>Z.ocs.contains c)&&chk Z G a o
 | .meth f m c a es,e=>cav e fun fe as p=>atp fe fun o y ap=>y == m&&l7 o&&ap.endLine == p.line&&decide (as.length < 29)&&Z.oms.contains (f,c,m)&&(Z.ocs.contains c&&G.cm)&&chk Z G a o&&cW Z G es as
 | .omk n f c es,e=>cav e fun fe as _=>nmv (fun x=>gD Z G n x&&Z.omk.contains (n,c,f)&&(Z.ocs.contains c&&G.cm)&&cW Z G es as) fe
 | .dofr a,e=>cav e fun fe as _=>nmv (fun x=>x == "dict"&&G.glc 19) fe&&l1v as fun e=>notStar e&&chk Z G a e
 | .lstf es,e=>lsv e fun l=>cW Z G es l
 | .lset a,e=>lrv e fun x y e=>x == "len"&&G.gl.contains 0&&y == "set"&&G.gl.contains 12&&(notStar e&&G.cm)&&chk Z G a e
 | .mth m o es,.Call (.Attribute oe name apos) (a::args) [] cpos=>name == jd m&&jh oe&&apos.endLine == cpos.line&&(decide ((a::args).length < 29)&&(G.cm||nc m))&&chk Z G o oe&&cW Z G es (a::args)
 | .comp G' fr tg src ifs elt,.ListComp e gens scope _=>pU gens fun t it fs=>eA Z G scope G' fr&&eF G' tg t&&(tgs tg).all (fun i=>decide (fr.length<=i))&&(fF Z G src it&&iN src t)&&cW Z G' ifs fs&&chk Z G' elt e
 | _,_=>false
noncomputable def cW (Z:Sg)(G:Gm):List IR->List Expr->Bool
 | [],[]=>true
 | a::es,e::l=>notStar e&&chk Z G a e&&cW Z G es l
 | _,_=>false
noncomputable def ni (Z:Sg)(G:Gm):Option IR->Option Expr->Bool
 | none,none=>true
 | some a,some e=>chk Z G a e
 | _,_=>false
noncomputable def fF (Z:Sg)(G:Gm):Sr->Expr->Bool
 | .rng2 a b,.Call (.Name x _) [e,e'] [] _=>x == "range"&&G.gl.contains 15&&notStar e&&notStar e'&&chk Z G a e&&chk Z G b e'
 | .rng1 n,.Call (.Name x _) [e] [] _=>x == "range"&&G.gl.contains 15&&notStar e&&chk Z G n e
 | .enm a,.Call (.Name x _) [e] [] _=>x == "enumerate"&&G.gl.contains 20&&notStar e&&chk Z G a e
 | .val a,e=>chk Z G a e
 | _,_=>false
end
def FOk (F:Addr->Prop)(H:Hp):Prop:=∀ a,F a->H a≠none
structure Out (K:PySem.W.Frag)(F:Addr->Prop)(H:Hp)(F':Addr->Prop)(H':Hp)(v:V)(d:D)(fv:List Addr):Prop where
 fok:FOk F' H'
 same:cO H H'
 rep:MRep K F' H' v d fv
 nod:fv.Nodup
 new:∀ a∈fv,H a=none
 inn:∀ a,F a->F' a
 out:∀ a,F' a->F a∨H a=none
noncomputable def spF (K:PySem.W.Frag)(cl:Nat->List D->Res D)(xp:XK->Hp->EX->Prop)(f:Nat)(ps:List Str):Sp:=fun vs H Q E=>vs.length=ps.length/\LTH H/\∃ F ds,FOk F H/\HReps K F H vs ds/\
 PO' (xp E H) (cl f (ers ds)) fun d=>∀ v H' F' fv,Out K F H F' H' v d fv->Q v H'
structure FnC (P:Program)(w:World)(K:PySem.W.Frag)(mg:Str->Option Value)(base:Heap)(CX:CXT)(A:Around)(cl:Nat->List D->Res D)(xp:XK->Hp->EX->Prop)(f:Nat)(x:Str):Prop where
 ex:∃ (k:Nat) (fa:Addr) (fd:FuncData) (ps:List Str),mg x=some (.ref fa)/\PySem.W.keepIn K (.ref fa)=true/\Binds K fd ps []/\FnOk P w K mg base CX k fa fd ps (spF K cl xp f ps)/\Room k A/\
  ∀ (ex:EX->Prop) ds (k:D->Prop),PO' ex (cl f ds) k->ds.length=ps.length
noncomputable def rmS (f0:List Addr)(H:Hp):Hp:=fun b=>if b∈f0 then none else H b
structure ArgI (K:PySem.W.Frag)(a:Addr)(d0:D)(f0:List Addr)(F:Addr->Prop)(H:Hp)(ws:List V)(ds:List D):Prop where
 fok:FOk F H
 nod:f0.Nodup
 m0:MRep K F H (.ref a) d0 f0
 ws:HReps K F H ws ds
structure OutI (K:PySem.W.Frag)(a:Addr)(f0:List Addr)(F:Addr->Prop)(H:Hp)(F':Addr->Prop)(H':Hp)(v:V)(d:D)(fv:List Addr)(d1:D)(f1:List Addr):Prop where
 out:Out K F (rmS f0 H) F' H' v d fv
 m1:MRep K F' H' (.ref a) d1 f1
 nd:(fv++f1).Nodup
 in1:∀ b∈f1,rmS f0 H b=none
noncomputable def spI (K:PySem.W.Frag)(cl:Nat->List D->Res D)(f:Nat)(ps:List Str):Sp:=fun vs H Q _=>vs.length=ps.length/\∃ a d0 f0 F ws ds,vs=.ref a::ws/\ArgI K a d0 f0 F H ws ds/\
 ∃ d d1,cl f (d0::ers ds)=.ok (.tup [d,d1])/\∀ v H' F' fv f1,OutI K a f0 F H F' H' v d fv d1 f1->Q v H'
structure FnI (P:Program)(w:World)(K:PySem.W.Frag)(mg:Str->Option Value)(base:Heap)(CX:CXT)(A:Around)(cl:Nat->List D->Res D)(f:Nat)(Pa:Addr->Prop):Prop where
 ex:∃ (k:Nat) (fa:Addr) (fd:FuncData) (ps:List Str),Pa fa/\Binds K fd ps []/\FnOk P w K mg base CX k fa fd ps (spI K cl f ps)/\Room (k+1) A/\k % 1000≠999/\∀ ds r,cl f ds=.ok r->ds.length=ps.length
structure FnM (P:Program)(w:World)(K:PySem.W.Frag)(mg:Str->Option Value)(base:Heap)(CX:CXT)(A:Around)(cl:Nat->List D->Res D)(xp:XK->Hp->EX->Prop)(f:Nat)(Pa:Addr->Prop):Prop where
 ex:∃ (k:Nat) (fa:Addr) (fd:FuncData) (ps:List Str),Pa fa/\Binds K fd ps []/\FnOk P w K mg base CX k fa fd ps (spF K cl xp f ps)/\Room k A/\∀ (ex:EX->Prop) ds (k:D->Prop),PO' ex (cl f ds) k->ds.length=ps.length
def eV (K:PySem.W.Frag)(c m:Str)(fa:Addr):Prop:=∀ C,OC K c C->Meth K C m fa
def pV (K:PySem.W.Frag)(mg:Str->Option Value)(c x:Str)(fa:Addr):Prop:=∃ C,OC K c C/\mg x=some (.ref C)/\Mk K C fa
structure GOk (Z:Sg)(CX:CXT)(cl:Nat->List D->Res D)(xp:XK->Hp->EX->Prop)(X:Cx)(ex:EX->Prop)(G:Gm):Prop where
 N:X.N=G.N
 nod:G.N.Nodup
 calm:G.cm=true->X.calm=true
 fk:X.env.scope.kind=.function
 un:X.A.units+42 < cLine
 own:G.rs=true->PassesOwn (model X.prog X.w) X.A X.env X.xe
 kd:∀ (i:Nat) (x:Str),G.N[i]? = some x->X.env.kindOf x=G.kd[i]?
 noD:∀ (i:Nat) (x:Str),G.N[i]? = some x->(x == ("__debug__" : Str))=false/\(x == ("__classdict__" : Str))=false
 gl:∀ n∈G.gl,∀ x,Z.name n=some x->Gl X x
 nam:∀ n x,Z.name n=some x->x≠"__name__"/\(x == ("__debug__" : Str))=false
 df:G.df=true->∀ x,X.fn x=true
 blt:∀ (n:Nat) (x:Str),dz[n]? = some x->X.mg x=none
 cst:∀ n d x,(n,d)∈Z.kst->Z.name n=some x->∃ u v,X.mg x=some u/\RelV v u/\∀ S H,HRep X.K S H v d
 fns:∀ f∈Z.fns,(G.cm=true∨f∈Z.pl)->∀ x,Z.name f=some x->FnC X.prog X.w X.K X.mg X.base CX X.A cl xp f x
 fio:∀ f c m,(f,c,m)∈Z.fio->G.cm=true->FnI X.prog X.w X.K X.mg X.base CX X.A cl f (eV X.K c m)
 fmt:∀ f c m,(f,c,m)∈Z.oms->G.cm=true->FnM X.prog X.w X.K X.mg X.base CX X.A cl xp f (eV X.K c m)
 fmk:∀ n c f x,(n,c,f)∈Z.omk->G.cm=true->Z.name n=some x->FnI X.prog X.w X.K X.mg X.base CX X.A cl f (pV X.K X.mg c x)
 ocl:∀ c∈Z.ocs,∀ C,OC X.K c C->Cls X.K C/\∀ x∈Z.ofs,fR X.K C x
 exs:∃ E:XK,Passes CX X E/\∀ c H,ex c->xp E H c
 hid:∀ (outer:List Env) (H:Hp) (s:Shared) (E:XK) (e:Value) (s':Shared),HOk X.prog X.w H s.heap->(∀ b∈frs outer,H b=none)->CX outer (cV s.heap H) s E e s'->CX outer H s E e s'
 exn:∀ (H:Hp) (outer:List Env) (s:Shared) (e:Value) (s':Shared),¬ CX outer H s (fun _ _ _=>False) e s'
section
variable {P:Program}{w:World}{H H':Hp}{h:Heap}{K:PySem.W.Frag}{Fc F':Addr->Prop}
theorem om {vs:List V}{ds:List D}(x:HOk P w H h)(m:HReps K Fc H vs ds):HReps K (fun a=>Fc a/\cV h H a≠none) (cV h H) vs ds:=by
 refine(m.step (S':=Fc) (H':=cV h H) (fun a xs f r=>⟨f,?_⟩) fun a xs r=>?_).tight
 ·rcases r with r|⟨o,r⟩
  ·obtain⟨ob,he⟩:=(x a _ r).at
   refine .inr ⟨ob,?_⟩;unfold cV;rw[r];cases xs with
   | l ys=>show (h.get? a).map _=_;rw[he];rfl
   | d ys=>show (h.get? a).map _=_;rw[he];rfl
   | i C dx fs=>show (h.get? a).map _=_;rw[he];rfl
  ·refine .inr ⟨o,?_⟩;unfold cV;rw[r];cases xs<;>rfl
 ·exact r.cl qU
theorem l8 (x:HOk P w H h)(p:Pers h H H'){a:Addr}(n:cV h H a=none)(e:H' a≠none):H a=none:=by
 cases q:H a with
 | none=>rfl
 | some o=>
  obtain⟨ob,he⟩:=(x a o q).at
  exact absurd (p.free a ob he (by rw[q];simp) n) e
theorem iS {v:V}{d:D}{fv:List Addr}(x:HOk P w H h)(fok:FOk Fc H)(p:Pers h H H')(o:Out K (fun a=>Fc a/\cV h H a≠none) (cV h H) F' H' v d fv):Out K Fc H (fun a=>Fc a∨F' a) (gC H H') v d fv:=by
 have new:∀ a∈fv,H a=none:=fun a ha=>l8 x p (o.new a ha) (by obtain⟨_,xs,e⟩:=o.rep.own a ha;rw[e];simp);refine⟨fun a ha=>?_,qS,o.rep.step (fun a xs f r=>⟨.inr f,?_⟩) (fun a xs r=>?_) fun a ha nf hn=>⟨fun z=>?_,res_none (new a ha)⟩,o.nod,new,fun a ha=>.inl ha,fun a ha=>?_⟩
 ·cases q:H a with
  | some u=>rw[res_some q];simp
  | none=>
   rw[res_none q];rcases ha with ha|ha
   ·exact absurd q (fok a ha)
   ·exact o.fok a ha
 ·cases q:H a with
  | none=>unfold Rd;rw[res_none q];exact r
  | some u=>
   unfold Rd;rw[res_some q];cases j6 x p q with
   | lst _ z=>cases xs<;>rcases r with r|⟨o',r⟩<;>(rw[z] at r;cases r);exact .inl rfl
   | dK _ z=>cases xs<;>rcases r with r|⟨o',r⟩<;>(rw[z] at r;cases r);exact .inl rfl
   | ins _ z=>cases xs<;>rcases r with r|⟨o',r⟩<;>(rw[z] at r;cases r);exact .inl rfl
   | own z=>cases xs<;>rcases r with r|⟨o',r⟩<;>(rw[z] at r;cases r)
   | tup z=>cases xs<;>rcases r with r|⟨o',r⟩<;>(rw[z] at r;cases r)
   | frz _ z=>cases xs<;>rcases r with r|⟨o',r⟩<;>(rw[z] at r;cases r)<;>exact .inr ⟨_,rfl⟩
   | oth _ _ z _ _ _=>exact absurd z r.some
 ·exact r.cl (yr x p)
 ·rcases z with z|z
  ·exact fok a z (new a ha)
  ·exact nf z
 ·rcases ha with ha|ha
  ·exact .inl ha
  ·rcases o.out a ha with z|z
   ·exact .inl z.1
   ·exact .inr (l8 x p z (o.fok a ha))
end
section
variable {X:Cx}{CX:CXT}{cl:Nat->List D->Res D}{xp:XK->Hp->EX->Prop}
theorem Inv.env0h {pins:List (Addr×Obj)}{σ:St}{H:Hp}{s:Shared}(I:Inv X pins σ H s):Env0 X.prog X.w X.K X.mg X.base X.A X.stack s (cV s.heap H):=
 ⟨I.env0.frames,I.env0.mod,fun b o e=>⟨(I.env0.bs b o e).1,dQ (I.env0.bs b o e).2⟩,I.env0.bsz,I.env0.funs,fun b hb=>dQ (I.env0.frf b hb),m7 I.hok,I.env0.bare⟩
theorem kI {k:Nat}{f:Nat}{fa:Addr}{fd:FuncData}{ps:List Str}{E:XK}{pins:List (Addr×Obj)}{σ:St}{H:Hp}{s:Shared}{Q:VK}{us:List Value}{vs:List V}{ds:List D}{Fc:Addr->Prop}
  (F:FnOk X.prog X.w X.K X.mg X.base CX k fa fd ps (spF X.K cl xp f ps)) (hr:Room k X.A) (hb:Binds X.K fd ps []) (hx:Passes CX X E)
  (hh:∀ (outer:List Env) (H:Hp) (s:Shared) (E:XK) (e:Value) (s':Shared),HOk X.prog X.w H s.heap->(∀ b∈frs outer,H b=none)->CX outer (cV s.heap H) s E e s'->CX outer H s E e s')
  (I:Inv X pins σ H s) (r:Vals vs us) (hl:vs.length=ps.length) (fok:FOk Fc H) (m:HReps X.K Fc H vs ds)
  (q:PO' (xp E (cV s.heap H)) (cl f (ers ds)) fun d=>∀ v H' F' fv,Out X.K Fc H F' H' v d fv->Q v H'):wpAny (model X.prog X.w) X.A (call (.ref fa) us) (EP X pins σ Q) X.xe s:=by
 have hsp:spF X.K cl xp f ps vs (cV s.heap H) (fun v H'=>Pers s.heap H H'->Q v (gC H H')) E:=
  ⟨hl,qR I.hok,_,ds,fun a h=>h.2,om I.hok m,q.mono fun d hd v H' F' fv o p=>hd v _ _ fv (iS I.hok fok p o)⟩
 have hl2:(us++([]:List Value)).length=ps.length:=by rw[List.append_nil,<- r.length];exact hl
 have bd:=hb s us I.kIn hl2;rw[List.append_nil] at bd;refine wpAny_call (codeAny_mono (F.run X.A X.stack s (cV s.heap H) ⟨us,[]⟩ us vs _ E hr I.env0h bd r hsp) fun r' s' hq=>?_);cases r' with
 | error e=>exact hx pins σ H s e s' I (hh X.stack H s E e s' I.hok I.env0.frf hq)
 | ok fl=>
  cases fl with
  | ret u=>obtain⟨v,H',a1,a2,a3,a4,a5,a6⟩:=hq;exact I.after (Q:=Q) ⟨v,gC H H',a1,a2,qT I.hok a3,m8 I.hok a4 (iR I.hok a4 a3) (fs:=frs X.stack) (fun b o _ e n f=>a3.keep b o e n f (by simp)) I.env0.frf,a5,a6 (iR I.hok a4 a3)⟩
  | next=>exact False.elim hq
  | brk=>exact False.elim hq
  | cont=>exact False.elim hq
end
def Slots (K:PySem.W.Frag)(S:Addr->Prop)(H:Hp)(σ:St)(τ:Ev)(is:List Nat):Prop:=∀ i∈is,∀ d,bS τ i=some d->∃ v,σ[i]? = some (some v)/\HRep K S H v d
theorem Slots.sub {K:PySem.W.Frag}{S:Addr->Prop}{H:Hp}{σ:St}{τ:Ev}{is js:List Nat}(h:Slots K S H σ τ is)(s:∀ i∈js,i∈is):Slots K S H σ τ js:=fun i hi d e=>h i (s i hi) d e
theorem Slots.left {K:PySem.W.Frag}{S:Addr->Prop}{H:Hp}{σ:St}{τ:Ev}{is js:List Nat}(h:Slots K S H σ τ (is++js)):Slots K S H σ τ is:=h.sub fun _ hi=>List.mem_append_left _ hi
theorem Slots.right {K:PySem.W.Frag}{S:Addr->Prop}{H:Hp}{σ:St}{τ:Ev}{is js:List Nat}(h:Slots K S H σ τ (is++js)):Slots K S H σ τ js:=h.sub fun _ hi=>List.mem_append_right _ hi
theorem Slots.go {K:PySem.W.Frag}{S:Addr->Prop}{H H':Hp}{σ:St}{τ:Ev}{is:List Nat}(h:Slots K S H σ τ is)(e:cO H H'):Slots K (nw S H) H' σ τ is:=fun i hi d z=>by obtain⟨v,h1,h2⟩:=h i hi d z;exact⟨v,h1,h2.mono (fun _=>.inl) e⟩
def RD (K:PySem.W.Frag)(ex:EX->Prop)(is:List Nat)(f:Ev->Res D):TE:=fun σ H Q=>∃ S τ,Slots K S H σ τ is/\PO' ex (f τ) (Kk K S H Q)
def RT (K:PySem.W.Frag)(ex:EX->Prop)(is:List Nat)(f:Ev->Res Bool):TT:=fun σ H Q=>∃ S τ,Slots K S H σ τ is/\PO' ex (f τ) fun b=>∀ H',cO H H'->Q b H'
def RA (K:PySem.W.Frag)(ex:EX->Prop)(is:List Nat)(f:Ev->Res (List D)):TA:=fun σ H Q=>∃ S τ,Slots K S H σ τ is/\PO' ex (f τ) fun ds=>∀ vs H',cO H H'->HReps K (nw S H) H' vs ds->Q vs H'
noncomputable def ROp (K:PySem.W.Frag)(ex:EX->Prop)(is:List Nat)(f:Ev->Res (Option Int)):TO:=fun σ H Q=>∃ S τ,Slots K S H σ τ is/\PO' ex (f τ) fun o=>∀ H',cO H H'->Q o H'
def WS (K:PySem.W.Frag)(S:Addr->Prop)(H:Hp)(k:Zp.Kq)(a:Addr)(xs:List V):Prop:=match k with
 | .l=>(S a/\Rd H a (.lst xs))∨KL K a xs
 | .t=>SqT K H a xs
theorem WS.sq {K:PySem.W.Frag}{S:Addr->Prop}{H:Hp}{k:Zp.Kq}{a:Addr}{xs:List V}(h:WS K S H k a xs):SqK K H k a xs:=by
 cases k with
 | l=>exact h.elim (fun z=>.inl z.2) fun z=>z.sq
 | t=>exact h
inductive Wlk (K:PySem.W.Frag)(S:Addr->Prop)(H:Hp):It->List D->Prop where
 | lst {a:Addr}{xs:List V}{ds:List D}:S a->Rd H a (.lst xs)->HReps K S H xs ds->Wlk K S H (Itl K a) ds
 | lstK {a:Addr}{xs:List V}{ds:List D}:KL K a xs->HReps K S H xs ds->Wlk K S H (Itl K a) ds
 | tup {a:Addr}{xs:List V}{ds:List D}:SqT K H a xs->HReps K S H xs ds->Wlk K S H (Itt K a) ds
 | rng (lo hi:Int):Wlk K S H (Itr lo (hi - lo).toNat) (e8 lo hi)
 | str (x:Str):Wlk K S H (Its x) (eM x)
 | enm {l:Addr}{xs:List V}{ds:List D}:WS K S H .l l xs->HReps K S H xs ds->Wlk K S H (Ite K l) (jb ds)
 | enm1 {l:Addr}{xs:List V}{ds:List D}:WS K S H .l l xs->HReps K S H xs ds->Wlk K S H (yl K l) (fE ds)
def RI (K:PySem.W.Frag)(ex:EX->Prop)(is:List Nat)(f:Ev->Res (List D)):TI:=fun σ H R=>∃ S τ,Slots K S H σ τ is/\PO' ex (f τ) fun ds=>∀ J H',cO H H'->Wlk K (nw S H) H' J ds->R J H'
theorem j8 {S:Addr->Prop}{H H1:Hp}(e:cO H H1):∀ a,nw (nw S H) H1 a->nw S H a:=fun a h=>by
 rcases h with h|h
 ·exact h
 ·exact .inr (e.free h)
section
variable {Z:Sg}{CX:CXT}{cl:Nat->List D->Res D}{xp:XK->Hp->EX->Prop}{X:Cx}{ex:EX->Prop}{G:Gm}
theorem Kk.fit {K:PySem.W.Frag}{S:Addr->Prop}{H H1:Hp}{Q:VK}{d:D}(e:cO H H1)(h:Kk K S H Q d):Kk K (nw S H) H1 Q d:=fun w H' e' m=>h w H' (e.trans e') (m.mono (j8 e) (.refl _))
theorem oq (g:GOk Z CX cl xp X ex G){n:Nat}{x:Str}(h:gD Z G n x=true):Gl X x/\Z.name n=some x/\x≠"__name__"/\(x == ("__debug__" : Str))=false:=by unfold gD at h;rw[Bool.and_eq_true] at h;have e:Z.name n=some x:=eq_of_beq h.1;exact⟨g.gl n (by simpa using h.2) x e,e,g.nam n x e⟩
theorem vP (Z:Sg){n:Nat}{x:Str}(h:dz[n]? = some x):Z.name n=some x:=by unfold Sg.name;rw[List.getElem?_append_left (List.getElem?_eq_some_iff.mp h).1];exact h
theorem fC (g:GOk Z CX cl xp X ex G){n:Nat}{x:Str}(h:dz[n]? = some x)(hc:G.gl.contains n=true):Gl X x/\X.mg x=none/\x≠"__name__"/\(x == ("__debug__" : Str))=false:=
 ⟨g.gl n (by simpa using hc) x (vP Z h),g.blt n x h,g.nam n x (vP Z h)⟩
theorem cE {e:Expr}(h:notStar e=true)(es:List Expr)(env:Env):starEach (e::es) env=(false,eval e env)::starEach es env:=by
 induction e using zE<;>first|rfl|cases h
theorem dF (Z:Sg)(G:Gm):∀ {es:List IR}{l:List Expr} (p:Pos) (env:Env),cW Z G es l=true->(backTo p (starEach l env)).any (·.1)=false
 | [],[],_,_,_=>rfl
 | a::es,e::l,p,env,h=>by have h':(notStar e&&chk Z G a e&&cW Z G es l)=true:=h;simp only[Bool.and_eq_true] at h';rw[cE h'.1.1];have ih:=dF Z G (es:=es) (l:=l) p env h'.2;show (false||(backTo p (starEach l env)).any (·.1))=false;rw[ih];rfl
 | [],_::_,_,_,h=>by cases h
 | _::_,[],_,_,h=>by cases h
theorem qZ {d:D}{v:V}(h:∀ S H,HRep X.K S H v d){σ:St}{H:Hp}{Q:VK}{is:List Nat}(q:RD X.K ex is (fun _=>.ok d) σ H Q):Q v H:=by obtain⟨S,τ,_,q⟩:=q;exact q.ok _ _ (.refl _) (h _ _)
theorem AG {e:Expr}{is:List Nat}{f:Ev->Res D}(h:PE X e (RD X.K ex is f))(he:∀ whole,isTrue e X.env whole=(do let v <- whole;standAt e.pos;holding [v] (truthy v))):PT X e (RT X.K ex is fun τ=>bnd (f τ) dg):=by intro pins s σ H Q I hw;obtain⟨S,τ,hs,hw⟩:=hw;refine isTrue_plain (thn (h pins s σ H (fun v H'=>∃ d,cO H H'/\HRep X.K (nw S H) H' v d/\PO' ex (dg d) fun b=>∀ H',cO H H'->Q b H') I ⟨S,τ,hs,(PO'.bnd hw).mono fun d hd v H' e m=>⟨d,e,m,hd⟩⟩) fun v s1 ⟨x,H1,I1,r1,d,e,m,hd⟩=>?_) (he _);exact iQ I1 r1 m (hd.mono fun b z=>z H1 e)
end
section
variable {Z:Sg}{CX:CXT}{cl:Nat->List D->Res D}{xp:XK->Hp->EX->Prop}{X:Cx}{ex:EX->Prop}{G:Gm}{K:PySem.W.Frag}{S:Addr->Prop}{H H1:Hp}{σ:St}{τ:Ev}
theorem di {is:List Nat}{f:Ev->Res D}{Kt:D->Prop}{Q:VK}(e:cO H H1)(hs:Slots K S H σ τ is)(h:PO' ex (f τ) Kt)(k:∀ x v H2,cO H H2->cO H1 H2->HRep K (nw S H) H2 v x->Kt x->Q v H2):RD K ex is f σ H1 Q:=
 ⟨nw S H,τ,hs.go e,h.mono fun x hx v H2 e2 m=>k x v H2 (e.trans e2) e2 (m.mono (j8 e) (.refl _)) hx⟩
theorem g4 {is:List Nat}{f:Ev->Res Bool}{Kt:Bool->Prop}{Q:Bool->Hp->Prop}(e:cO H H1)(hs:Slots K S H σ τ is)(h:PO' ex (f τ) Kt)(k:∀ x H2,cO H H2->cO H1 H2->Kt x->Q x H2):RT K ex is f σ H1 Q:=
 ⟨nw S H,τ,hs.go e,h.mono fun x hx H2 e2=>k x H2 (e.trans e2) e2 hx⟩
theorem iu {is:List Nat}{f:Ev->Res (List D)}{Kt:List D->Prop}{Q:List V->Hp->Prop}(e:cO H H1)(hs:Slots K S H σ τ is)(h:PO' ex (f τ) Kt)(k:∀ x v H2,cO H H2->cO H1 H2->HReps K (nw S H) H2 v x->Kt x->Q v H2):RA K ex is f σ H1 Q:=
 ⟨nw S H,τ,hs.go e,h.mono fun x hx v H2 e2 m=>k x v H2 (e.trans e2) e2 (m.mono (j8 e) (.refl _)) hx⟩
theorem uL {is:List Nat}{f:Ev->Res (Option Int)}{Kt:Option Int->Prop}{Q:Option Int->Hp->Prop}(e:cO H H1)(hs:Slots K S H σ τ is)(h:PO' ex (f τ) Kt)(k:∀ x H2,cO H H2->cO H1 H2->Kt x->Q x H2):ROp K ex is f σ H1 Q:=
 ⟨nw S H,τ,hs.go e,h.mono fun x hx H2 e2=>k x H2 (e.trans e2) e2 hx⟩
theorem HRep.later {v:V}{d:D}{H2:Hp}(h:HRep K (L2.nw S H) H1 v d)(e:cO H1 H2):HRep K (L2.nw S H) H2 v d:=h.mono (fun _ z=>z) e
theorem HReps.later {v:List V}{d:List D}{H2:Hp}(h:HReps K (L2.nw S H) H1 v d)(e:cO H1 H2):HReps K (L2.nw S H) H2 v d:=h.mono (fun _ z=>z) e
theorem s_v (g:GOk Z CX cl xp X ex G){i:Nat}{x:Str}{pos:Pos}(h:ez G i x=true):PE X (.Name x pos) (RD X.K ex [i] (evR cl (.v i))):=by
 unfold ez at h;rw[Bool.and_eq_true] at h;have hx:G.N[i]? = some x:=eq_of_beq h.1;have hk:=g.kd i x hx;have hv:Vis X.env.scope x:=by
  have h2:=h.2;rw[Bool.or_eq_true,Bool.or_eq_true] at h2;rcases h2 with (h2|h2)|h2
  ·exact .inl (hk.trans (eq_of_beq h2))
  ·exact .inr (.inl (hk.trans (eq_of_beq h2)))
  ·exact .inr (.inr (hk.trans (eq_of_beq h2)))
 refine cT (qc (i:=i) (by rw[g.N];exact hx) hv (g.noD i x hx).1 (g.noD i x hx).2) fun σ H Q q=>?_;obtain⟨S,τ,hs,q⟩:=q;rw[AA] at q;cases z:bS τ i with
 | none=>rw[z] at q;exact q.no.elim
 | some d=>rw[z] at q;obtain⟨v,h1,h2⟩:=hs i (by simp) d z;exact⟨v,h1,q.ok _ _ (.refl _) h2.nw⟩
theorem s_c {d:D}{k:Const}{j:Nat}{pos:Pos}(h:AF d k=true):PE X (.Constant k j pos) (RD X.K ex [] (evR cl (.c d))):=by
 induction d using zD with
 | non=>
  cases k with
  | none=>exact cT xF fun σ H Q q=>qZ (fun _ _=>.non) q
  | _=>cases h
 | bl b=>
  cases k with
  | bool b'=>have e:b=b':=eq_of_beq h;subst e;exact cT Ac fun σ H Q q=>qZ (fun _ _=>.bl _) q
  | _=>cases h
 | int b=>
  cases k with
  | int b'=>have e:b=b':=eq_of_beq h;subst e;exact cT qd fun σ H Q q=>qZ (fun _ _=>.int _) q
  | _=>cases h
 | str b=>
  cases k with
  | str b'=>have e:b=b':=eq_of_beq h;subst e;exact cT xG fun σ H Q q=>qZ (fun _ _=>.str _) q
  | _=>cases h
 | tup _=>cases k<;>cases h
 | lst _ _=>cases k<;>cases h
 | exc _=>cases k<;>cases h
 | dct o ks ds=>cases k<;>cases h
 | obj o c ks ds=>cases k<;>cases h
theorem s_g (g:GOk Z CX cl xp X ex G){n:Nat}{d:D}{x:Str}{pos:Pos}(h:gD Z G n x=true)(hk:Z.kst.any (fun p=>p.1 == n&&pT p.2 d)=true):PE X (.Name x pos) (RD X.K ex [] (evR cl (.g n d))):=by obtain⟨h1,h2,h3,h4⟩:=oq g h;rw[List.any_eq_true] at hk;obtain⟨⟨m,d'⟩,hm,hk⟩:=hk;rw[Bool.and_eq_true] at hk;have e1:m=n:=eq_of_beq hk.1;have e2:d'=d:=oj hk.2;subst e1 e2;obtain⟨u,v,hu,r,hr⟩:=g.cst m d' x hm h2;exact cT (tV h1 hu r h4) fun σ H Q q=>qZ hr q
theorem AH {op:BOp}{a b:Expr}{pos:Pos}{va vb:List Nat}{fa fb:Ev->Res D}(ha:PE X a (RD X.K ex va fa))(hb:PE X b (RD X.K ex vb fb)) :
  PE X (.BinOp a (bop op) b pos) (RD X.K ex (va++vb) fun τ=>bnd (fa τ) fun x=>bnd (fb τ) fun y=>opB op x y):=by
 refine cT (qm (yn (ex:=ex) op) ha hb) fun σ H Q ⟨S,τ,hs,q⟩=>?_;refine di (.refl _) hs.left (PO'.bnd q) fun x v H1 e1 _ m1 q1=>?_;refine di e1 hs.right (PO'.bnd q1) fun y w H2 e2 e2' m2 q2=>?_;exact⟨nw S H,x,y,m1.later e2',m2,q2.mono fun d hd=>hd.fit e2⟩
theorem AJ {a:Expr}{pos:Pos}{va:List Nat}{fa:Ev->Res D}(ha:PE X a (RD X.K ex va fa)) :
  PE X (.UnaryOp .USub a pos) (RD X.K ex va fun τ=>bnd (fa τ) fun|.int i=>.ok (.int (-i))|_=>stk):=by
 refine cT (Al xW ha) fun σ H Q ⟨S,τ,hs,q⟩=>?_;refine di (.refl _) hs (PO'.bnd q) fun x v H1 e1 _ m1 q1=>?_
 induction x using zD with
 | int i=>cases m1.intR;exact⟨i,rfl,q1.ok _ _ e1 (.int _)⟩
 | _=>exact q1.no.elim
theorem AK (g:GOk Z CX cl xp X ex G){op:COp}{a b:Expr}{pos:Pos}{va vb:List Nat}{fa fb:Ev->Res D}(ha:PE X a (RD X.K ex va fa))(hb:PE X b (RD X.K ex vb fb))(hm:behindInMarks (cop op) b=false) :
  PE X (.Compare a [cop op] [b] pos) (RD X.K ex (va++vb) fun τ=>bnd (fa τ) fun x=>bnd (fb τ) fun y=>bnd (opC op x y) fun r=>.ok (.bl r))/\
  PT X (.Compare a [cop op] [b] pos) (RT X.K ex (va++vb) fun τ=>bnd (bnd (fa τ) fun x=>bnd (fb τ) fun y=>bnd (opC op x y) fun r=>.ok (.bl r)) dg):=by
 refine⟨cT (t6 (ip (ex:=ex) g.un op) ha hb hm) fun σ H Q ⟨S,τ,hs,q⟩=>?_,iX (t7 (ip (ex:=ex) g.un op) ha hb hm) fun σ H Q ⟨S,τ,hs,q⟩=>?_⟩
 ·refine di (.refl _) hs.left (PO'.bnd q) fun x v H1 e1 _ m1 q1=>?_;refine di e1 hs.right (PO'.bnd q1) fun y w H2 e2 e2' m2 q2=>?_;exact⟨nw S H,x,y,m1.later e2',m2,(PO'.bnd q2).mono fun d hd=>hd.ok _ _ e2 (.bl _)⟩
 ·refine di (.refl _) hs.left (PO'.bnd (PO'.bnd q)) fun x v H1 e1 _ m1 q1=>?_;refine di e1 hs.right (PO'.bnd q1) fun y w H2 e2 e2' m2 q2=>?_;exact⟨nw S H,x,y,m1.later e2',m2,(PO'.bnd q2).mono fun d hd=>⟨d,rfl,hd.ok.ok H2 e2⟩⟩
theorem uM (g:GOk Z CX cl xp X ex G){op op':COp}{a b c:Expr}{pos:Pos}{va vb vc:List Nat}{fa fb fc:Ev->Res D}(ha:PE X a (RD X.K ex va fa))(hb:PE X b (RD X.K ex vb fb))(hc:PE X c (RD X.K ex vc fc))
  (hm:lastMarks [cop op,cop op'] [b,c]=false) :
  PE X (.Compare a [cop op,cop op'] [b,c] pos) (RD X.K ex (va++vb++vc) fun τ=>bnd (fa τ) fun x=>bnd (fb τ) fun y=>bnd (opC op x y) fun r=>if r=true then bnd (fc τ) fun z=>bnd (opC op' y z) fun r'=>.ok (.bl r') else .ok (.bl false))/\
  PT X (.Compare a [cop op,cop op'] [b,c] pos) (RT X.K ex (va++vb++vc) fun τ=>bnd (bnd (fa τ) fun x=>bnd (fb τ) fun y=>bnd (opC op x y) fun r=>if r=true then bnd (fc τ) fun z=>bnd (opC op' y z) fun r'=>.ok (.bl r') else .ok (.bl false)) dg):=by
 refine⟨cT (qp (ip (ex:=ex) g.un op) (ip (ex:=ex) g.un op') ha hb hc hm) fun σ H Q ⟨S,τ,hs,q⟩=>?_,iX (qr (ip (ex:=ex) g.un op) (ip (ex:=ex) g.un op') ha hb hc hm) fun σ H Q ⟨S,τ,hs,q⟩=>?_⟩
 ·refine di (.refl _) hs.left.left (PO'.bnd q) fun x v H1 e1 _ m1 q1=>?_;refine di e1 hs.left.right (PO'.bnd q1) fun y w H2 e2 e2' m2 q2=>?_;refine⟨nw S H,x,y,m1.later e2',m2,(PO'.bnd q2).mono fun d hd=>⟨d,rfl,?_⟩⟩
  induction d using zB with
  | false=>rw[if_neg Bool.false_ne_true] at hd ⊢;exact hd.ok _ _ e2 (.bl _)
  | true=>rw[if_pos rfl] at hd ⊢;refine di e2 hs.right (PO'.bnd hd) fun z w' H3 e3 e3' m3 q3=>?_;exact⟨nw S H,y,z,m2.later e3',m3,(PO'.bnd q3).mono fun d hd=>hd.ok _ _ e3 (.bl _)⟩
 ·refine di (.refl _) hs.left.left (PO'.bnd (PO'.bnd q)) fun x v H1 e1 _ m1 q1=>?_;refine di e1 hs.left.right (PO'.bnd q1) fun y w H2 e2 e2' m2 q2=>?_;refine⟨nw S H,x,y,m1.later e2',m2,(PO'.bnd q2).mono fun d hd=>⟨d,rfl,?_⟩⟩
  induction d using zB with
  | false=>rw[if_neg Bool.false_ne_true] at hd ⊢;exact⟨false,rfl,hd.ok.ok _ e2⟩
  | true=>rw[if_pos rfl] at hd ⊢;refine di e2 hs.right (PO'.bnd hd) fun z w' H3 e3 e3' m3 q3=>?_;exact⟨nw S H,y,z,m2.later e3',m3,(PO'.bnd q3).mono fun d hd=>⟨d,rfl,hd.ok.ok _ e3⟩⟩
theorem vQ {a b:Expr}{rest:List Expr}{pos:Pos}{va vb:List Nat}{fa fb:Ev->Res D}(ha:PE X a (RD X.K ex va fa))(hb:PE X (.BoolOp .And (b::rest) pos) (RD X.K ex vb fb)) :
  PE X (.BoolOp .And (a::b::rest) pos) (RD X.K ex (va++vb) fun τ=>bnd (fa τ) fun x=>bnd (dg x) fun r=>if r=true then fb τ else .ok x):=by
 intro pins s σ H Q I h;obtain⟨S,τ,hs,q⟩:=h;refine BoolOp_and (thn (ha pins s σ H (fun v H'=>∃ d,cO H H'/\HRep X.K (nw S H) H' v d/\_) I (di (.refl _) hs.left (PO'.bnd q) fun x v H1 e1 _ m1 q1=>⟨x,e1,m1,q1⟩)) fun v s1 ⟨x,H1,I1,r1,d,e1,m1,q1⟩=>?_);refine thn (iQ (Q:=fun b H'=>H'=H1/\PO' ex (if b=true then fb τ else .ok d) (Kk X.K S H Q)) I1 r1 m1 ((PO'.bnd q1).mono fun b z=>⟨rfl,z⟩)) fun c s2 ⟨H2,I2,e2,q2⟩=>?_;subst e2
 induction c using zB with
 | true=>rw[if_pos rfl] at q2 ⊢;exact hb pins s2 σ _ Q I2 (di e1 hs.right q2 fun y w H3 e3 _ m3 q3=>q3 _ _ e3 m3)
 | false=>rw[if_neg Bool.false_ne_true] at q2 ⊢;exact⟨x,_,I2,r1,q2.ok _ _ e1 m1⟩
theorem AL {a b:Expr}{rest:List Expr}{pos:Pos}{va vb:List Nat}{fa fb:Ev->Res D}(ha:PE X a (RD X.K ex va fa))(hb:PE X (.BoolOp .Or (b::rest) pos) (RD X.K ex vb fb)) :
  PE X (.BoolOp .Or (a::b::rest) pos) (RD X.K ex (va++vb) fun τ=>bnd (fa τ) fun x=>bnd (dg x) fun r=>if r=true then .ok x else fb τ):=by
 intro pins s σ H Q I h;obtain⟨S,τ,hs,q⟩:=h;refine BoolOp_or (thn (ha pins s σ H (fun v H'=>∃ d,cO H H'/\HRep X.K (nw S H) H' v d/\_) I (di (.refl _) hs.left (PO'.bnd q) fun x v H1 e1 _ m1 q1=>⟨x,e1,m1,q1⟩)) fun v s1 ⟨x,H1,I1,r1,d,e1,m1,q1⟩=>?_);refine thn (iQ (Q:=fun b H'=>H'=H1/\PO' ex (if b=true then .ok d else fb τ) (Kk X.K S H Q)) I1 r1 m1 ((PO'.bnd q1).mono fun b z=>⟨rfl,z⟩)) fun c s2 ⟨H2,I2,e2,q2⟩=>?_;subst e2
 induction c using zB with
 | false=>rw[if_neg Bool.false_ne_true] at q2 ⊢;exact hb pins s2 σ _ Q I2 (di e1 hs.right q2 fun y w H3 e3 _ m3 q3=>q3 _ _ e3 m3)
 | true=>rw[if_pos rfl] at q2 ⊢;exact⟨x,_,I2,r1,q2.ok _ _ e1 m1⟩
theorem AM {a:Expr}{pos:Pos}{va:List Nat}{fa:Ev->Res D}(ha:PE X a (RD X.K ex va fa))(ht:PT X a (RT X.K ex va fun τ=>bnd (fa τ) dg)) :
  PE X (.UnaryOp .Not a pos) (RD X.K ex va fun τ=>bnd (fa τ) fun x=>bnd (dg x) fun r=>.ok (.bl !r))/\PT X (.UnaryOp .Not a pos) (RT X.K ex va fun τ=>bnd (bnd (fa τ) fun x=>bnd (dg x) fun r=>.ok (.bl !r)) dg):=by
 constructor
 ·intro pins s σ H Q I h;obtain⟨S,τ,hs,q⟩:=h;refine UnaryOp_ (thn (ha pins s σ H (fun v H'=>∃ d,cO H H'/\HRep X.K (nw S H) H' v d/\_) I (di (.refl _) hs (PO'.bnd q) fun x v H1 e1 _ m1 q1=>⟨x,e1,m1,q1⟩)) fun v s1 ⟨x,H1,I1,r1,d,e1,m1,q1⟩=>?_);refine not_of (thn (iQ (Q:=fun b H'=>Q (.bl !b) H') I1 r1 m1 ((PO'.bnd q1).mono fun b z=>z.ok _ _ e1 (.bl _))) fun c s2 ⟨H2,I2,q2⟩=>⟨.bl !c,H2,I2,rfl,q2⟩)
 ·refine iX (xJ ht) fun σ H Q ⟨S,τ,hs,q⟩=>?_;exact g4 (.refl _) hs (PO'.mk ((PO'.bnd (PO'.bnd q)).mono fun x hx=>(PO'.bnd hx).mono fun r hr=>hr.ok.ok)) fun x H2 e2 _ k=>k H2 e2
theorem ra {e:Expr}{pos:Pos}{op:BoolOp}{es:List Expr}{t:TT}(h:PT X (.BoolOp op es pos) t):PW X (.BoolOp op es pos) t:=fun _ pins s σ H Q I q=>h pins s σ H Q I q
theorem vR {a b:Expr}{rest:List Expr}{pos:Pos}{va vb:List Nat}{fa fb:Ev->Res D}(ha:PT X a (RT X.K ex va fun τ=>bnd (fa τ) dg))(hb:PW X (.BoolOp .And (b::rest) pos) (RT X.K ex vb fun τ=>bnd (fb τ) dg)) :
  PT X (.BoolOp .And (a::b::rest) pos) (RT X.K ex (va++vb) fun τ=>bnd (bnd (fa τ) fun x=>bnd (dg x) fun r=>if r=true then fb τ else .ok x) dg):=by
 refine iX (xI ha hb).pt fun σ H Q ⟨S,τ,hs,q⟩=>?_;refine g4 (.refl _) hs.left (Kt:=fun r=>PO' ex (if r=true then bnd (fb τ) dg else .ok false) fun b=>∀ H',cO H H'->Q b H') (PO'.mk ((PO'.bnd (PO'.bnd q)).mono fun x hx=>(PO'.bnd hx).eq.mono fun r hr=>?_)) fun r H2 e2 _ k=>?_
 ·obtain⟨er,hr⟩:=hr
  induction r using zB with
  | true=>rw[if_pos rfl] at hr ⊢;exact PO'.mk hr
  | false=>rw[if_neg Bool.false_ne_true] at hr ⊢;have hr':PO' ex (dg x) _:=hr;rw[er] at hr';exact hr'
 ·induction r using zB with
  | true=>rw[if_pos rfl] at k ⊢;exact g4 e2 hs.right k fun b H3 e3 _ z=>z H3 e3
  | false=>rw[if_neg Bool.false_ne_true] at k ⊢;exact k.ok H2 e2
theorem AN {a b:Expr}{rest:List Expr}{pos:Pos}{va vb:List Nat}{fa fb:Ev->Res D}(ha:PT X a (RT X.K ex va fun τ=>bnd (fa τ) dg))(hb:PW X (.BoolOp .Or (b::rest) pos) (RT X.K ex vb fun τ=>bnd (fb τ) dg)) :
  PT X (.BoolOp .Or (a::b::rest) pos) (RT X.K ex (va++vb) fun τ=>bnd (bnd (fa τ) fun x=>bnd (dg x) fun r=>if r=true then .ok x else fb τ) dg):=by
 refine iX (Ae ha hb).pt fun σ H Q ⟨S,τ,hs,q⟩=>?_;refine g4 (.refl _) hs.left (Kt:=fun r=>PO' ex (if r=true then .ok true else bnd (fb τ) dg) fun b=>∀ H',cO H H'->Q b H') (PO'.mk ((PO'.bnd (PO'.bnd q)).mono fun x hx=>(PO'.bnd hx).eq.mono fun r hr=>?_)) fun r H2 e2 _ k=>?_
 ·obtain⟨er,hr⟩:=hr
  induction r using zB with
  | false=>rw[if_neg Bool.false_ne_true] at hr ⊢;exact PO'.mk hr
  | true=>rw[if_pos rfl] at hr ⊢;have hr':PO' ex (dg x) _:=hr;rw[er] at hr';exact hr'
 ·induction r using zB with
  | false=>rw[if_neg Bool.false_ne_true] at k ⊢;exact g4 e2 hs.right k fun b H3 e3 _ z=>z H3 e3
  | true=>rw[if_pos rfl] at k ⊢;exact k.ok H2 e2
theorem AO {c a b:Expr}{pos:Pos}{vc va vb:List Nat}{fc fa fb:Ev->Res D}(hc:PT X c (RT X.K ex vc fun τ=>bnd (fc τ) dg))(ha:PE X a (RD X.K ex va fa))(hb:PE X b (RD X.K ex vb fb))
  (ta:PT X a (RT X.K ex va fun τ=>bnd (fa τ) dg)) (tb:PT X b (RT X.K ex vb fun τ=>bnd (fb τ) dg)) :
  PE X (.IfExp c a b pos) (RD X.K ex (vc++va++vb) fun τ=>bnd (fc τ) fun x=>bnd (dg x) fun r=>if r=true then fa τ else fb τ)/\
  PT X (.IfExp c a b pos) (RT X.K ex (vc++va++vb) fun τ=>bnd (bnd (fc τ) fun x=>bnd (dg x) fun r=>if r=true then fa τ else fb τ) dg):=by
 constructor
 ·refine cT (kZ hc ha hb) fun σ H Q ⟨S,τ,hs,q⟩=>?_;refine g4 (.refl _) hs.left.left (PO'.mk ((PO'.bnd q).mono fun x hx=>PO'.bnd hx)) fun r H2 e2 _ k=>?_
  induction r using zB with
  | true=>rw[if_pos rfl] at k ⊢;exact di e2 hs.left.right k fun y w H3 e3 _ m3 q3=>q3 _ _ e3 m3
  | false=>rw[if_neg Bool.false_ne_true] at k ⊢;exact di e2 hs.right k fun y w H3 e3 _ m3 q3=>q3 _ _ e3 m3
 ·intro pins s σ H Q I h;obtain⟨S,τ,hs,q⟩:=h
  refine isTrue_IfExp (thn (hc pins s σ H (fun r H2=>cO H H2/\PO' ex (if r=true then fa τ else fb τ) fun d=>PO' ex (dg d) fun b=>∀ H',cO H H'->Q b H') I
   (g4 (.refl _) hs.left.left (PO'.mk ((PO'.bnd (PO'.bnd q)).mono fun x hx=>PO'.bnd hx)) fun r H2 e2 _ k=>⟨e2,k⟩)) fun d s1 ⟨H1,I1,e1,q1⟩=>?_)
  induction d using zB with
  | true=>rw[if_pos rfl] at q1;exact ta pins s1 σ H1 Q I1 (g4 e1 hs.left.right (PO'.mk q1) fun b H3 e3 _ z=>z H3 e3)
  | false=>rw[if_neg Bool.false_ne_true] at q1;exact tb pins s1 σ H1 Q I1 (g4 e1 hs.right (PO'.mk q1) fun b H3 e3 _ z=>z H3 e3)
theorem AQ {es:List Expr}{n:Nat}{pos:Pos}{va:List Nat}{fa:Ev->Res (List D)}(h:PA X es (RA X.K ex va fa)):PE X (.Tuple es n pos) (RD X.K ex va fun τ=>bnd (fa τ) fun ds=>grd (dR ds.length) (.ok (.tup ds))):=by refine cT (qw h) fun σ H Q ⟨S,τ,hs,q⟩=>?_;refine iu (.refl _) hs (PO'.bnd q) fun ds vs H1 e1 _ m1 q1=>?_;obtain⟨g,q1⟩:=PO'.grd q1;exact⟨by rw[m1.length];exact dS g,fun p hp=>q1.ok _ _ (e1.trans (.upd hp)) ((ym hp m1).mono (j8 e1) (.refl _))⟩
theorem vS {es:List Expr}{pos:Pos}{va:List Nat}{fa:Ev->Res (List D)}(h:PA X es (RA X.K ex va fa)):PE X (.List es pos) (RD X.K ex va fun τ=>bnd (fa τ) fun ds=>grd (dR ds.length) (.ok (.lst true ds))):=by refine cT (mP h) fun σ H Q ⟨S,τ,hs,q⟩=>?_;refine iu (.refl _) hs (PO'.bnd q) fun ds vs H1 e1 _ m1 q1=>?_;obtain⟨g,q1⟩:=PO'.grd q1;exact⟨by rw[m1.length];exact dS g,fun p hp=>q1.ok _ _ (e1.trans (.upd hp)) ((lX hp m1).mono (j8 e1) (.refl _))⟩
theorem AR {a b:Expr}{pos:Pos}{va vb:List Nat}{fa fb:Ev->Res D}(ha:PE X a (RD X.K ex va fa))(hb:PE X b (RD X.K ex vb fb))(hp:dJ b=true) :
  PE X (.Subscript a b pos) (RD X.K ex (va++vb) fun τ=>bnd (fa τ) fun x=>bnd (fb τ) fun y=>fW x y):=by
 refine cT (vL (uF (ex:=ex)) ha hb fun o i=>by cases b<;>first|rfl|cases hp) fun σ H Q ⟨S,τ,hs,q⟩=>?_;refine di (.refl _) hs.left (PO'.bnd q) fun x v H1 e1 _ m1 q1=>?_;refine di e1 hs.right (PO'.bnd q1) fun y w H2 e2 e2' m2 q2=>?_;exact⟨nw S H,x,y,m1.later e2',m2,q2.mono fun d hd=>hd.fit e2⟩
theorem Dd {a:Expr}{lo hi:Option Expr}{pos p2:Pos}{va vl vh:List Nat}{fa:Ev->Res D}{fl fh:Ev->Res (Option Int)}(ha:PE X a (RD X.K ex va fa))(hl:PO X lo (ROp X.K ex vl fl))(hh:PO X hi (ROp X.K ex vh fh)) :
  PE X (.Subscript a (.Slice lo hi none p2) pos) (RD X.K ex (va++vl++vh) fun τ=>bnd (fa τ) fun x=>bnd (fl τ) fun l=>bnd (fh τ) fun h=>lJ x l h):=by
 refine cT (lu (uG (ex:=ex)) ha hl hh) fun σ H Q ⟨S,τ,hs,q⟩=>?_;refine di (.refl _) hs.left.left (PO'.bnd q) fun x v H1 e1 _ m1 q1=>?_;refine uL e1 hs.left.right (PO'.bnd q1) fun l H2 e2 e2' q2=>?_;refine uL e2 hs.right (PO'.bnd q2) fun h H3 e3 e3' q3=>?_;exact⟨nw S H,x,m1.later (e2'.trans e3'),q3.mono fun d hd=>hd.fit e3⟩
theorem s_call (g:GOk Z CX cl xp X ex G){f:Nat}{x:Str}{p pos:Pos}{es:List IR}{args:List Expr}(h1:gD Z G f x=true)(h2:Z.fnc G f=true)(hst:cW Z G es args=true)(h:PA X args (RA X.K ex (cF es) (cX cl es))) :
  PE X (.Call (.Name x p) args [] pos) (RD X.K ex (cF es) fun τ=>bnd (cX cl es τ) fun ds=>cl f (ers ds)):=by
 obtain⟨k1,k2,k3,k4⟩:=oq g h1;obtain⟨k,fa',fd,ps,hm,hkp,hb,F,hr,hlen⟩:=(g.fns f (kG h2).1 (kG h2).2 x k2).ex;obtain⟨E,hP,hE⟩:=g.exs;intro pins s σ H Q I q;obtain⟨S,τ,hs,q⟩:=q;have fin:∀ (us:List Value) (s1:Shared) (vs:List V) (H1:Hp) (ds:List D),Inv X pins σ H1 s1->Vals vs us->cO H H1->HReps X.K (nw S H) H1 vs ds->PO' ex (cl f (ers ds)) (Kk X.K S H Q)->wpAny (model X.prog X.w) X.A (call (.ref fa') us) (EP X pins σ Q) X.xe s1:=by
  intro us s1 vs H1 ds I1 r e m q1;have hl:=hlen ex _ _ q1;rw[de] at hl;refine kI F hr hb hP g.hid I1 r (by rw[m.length];exact hl) (Fc:=fun a=>nw S H a/\H1 a≠none) (fun a z=>z.2) m.tight ?_;cases z:cl f (ers ds) with
  | error er=>
   rw[z] at q1;cases er with
   | stuck=>exact q1.no.elim
   | exc c=>exact hE c _ q1
  | ok d=>
   rw[z] at q1;intro v H' F' fv o;refine q1.ok _ _ (e.trans o.same) (o.rep.read (fun a ha=>?_) fun a ha=>?_)
   ·rcases o.out a ha with z|z
    ·exact z.1
    ·exact .inr (e.free z)
   ·exact .inr (e.free (o.new a ha))
 refine wpAny_Call_Name_kw (iO I k1 hm ?_ k4)
 induction args using zL with
 | nil=>
  induction es using zL with
  | cons _ _=>cases hst
  | nil=>exact PySem.W.callWith_K0 I.kIn hkp (fin [] s [] H [] I .nil (.refl _) .nil q)
 | cons e l=>
  induction es using zL with
  | nil=>cases hst
  | cons a es=>have hst':(notStar e&&chk Z G a e&&cW Z G es l)=true:=hst;simp only[Bool.and_eq_true] at hst';refine PySem.W.callWith_K (h₀:=X.base) I.ok.mod.kin hkp (thn (h pos pins s σ H (fun vs H1=>∃ ds,cO H H1/\HReps X.K (nw S H) H1 vs ds/\PO' ex (cl f (ers ds)) (Kk X.K S H Q)) I ⟨S,τ,hs,(PO'.bnd q).mono fun ds hd vs H1 e m=>⟨ds,e,m,hd⟩⟩) fun us s1 ⟨vs,H1,I1,r,ds,e,m,q1⟩=>⟨I1.kIn,?_⟩) (cE hst'.1.1 l X.env) (dF Z G (es:=es) pos X.env hst'.2);exact fin us s1 vs H1 ds I1 r e m q1
theorem De (g:GOk Z CX cl xp X ex G){f:Bi}{p pos:Pos}{es:List IR}{a:Expr}{args:List Expr}(hg:G.glc (j7 f)=true)(hst:cW Z G es (a::args)=true)(h:PA X (a::args) (RA X.K ex (cF es) (cX cl es))) :
  PE X (.Call (.Name (fY f) p) (a::args) [] pos) (RD X.K ex (cF es) fun τ=>bnd (cX cl es τ) fun ds=>fK f ds):=by
 obtain⟨k1,k2,k3,k4⟩:=fC g (qV f) (kE hg)
 induction es using zL with
 | nil=>cases hst
 | cons b es=>
  have hst':(notStar a&&chk Z G b a&&cW Z G es args)=true:=hst;simp only[Bool.and_eq_true] at hst';have mono:∀ σ H Q,RD X.K ex (cF (b::es)) (fun τ=>bnd (cX cl (b::es) τ) fun ds=>fK f ds) σ H Q->tCB (rBi X.K ex f) (RA X.K ex (cF (b::es)) (cX cl (b::es))) σ H Q:=by rintro σ H Q ⟨S,τ,hs,q⟩;refine iu (.refl _) hs (PO'.bnd q) fun ds vs H1 e1 _ m1 q1=>?_;exact⟨nw S H,ds,m1,q1.mono fun d hd=>hd.fit e1⟩
  refine cT ?_ mono;have hv:=oa f;have hc:=uH (X:=X) (ex:=ex) (g.calm (kF hg)) f;unfold qN at hv hc;cases z:AD f with
  | true=>rw[z,if_pos rfl] at hv hc;exact ia hc k1 k2 hv h k3 k4 (cE hst'.1.1 args X.env) (dF Z G (es:=es) pos X.env hst'.2)
  | false=>rw[z,if_neg Bool.false_ne_true] at hv hc;exact lq hc k1 k2 hv h k3 k4 (cE hst'.1.1 args X.env) (dF Z G (es:=es) pos X.env hst'.2)
noncomputable def kdV:Kd->V
 | .str=>.ty "str" | .int=>.ty "int" | .bool=>.ty "bool" | .list=>.ty "list" | .tuple=>.ty "tuple"
theorem ou (k:Kd):RelV (kdV k) (qO k):=by cases k<;>rfl
theorem rb (k:Kd):eS X (.builtin "isinstance") (fun xs H Q=>∃ S x d,xs=[x,kdV k]/\HRep X.K S H x d/\i8 d=true/\Q (.bl (gA k d)) H):=by
 intro pins s σ H xs us Q I r h;obtain⟨S,x,d,rfl,m,hn,q⟩:=h;obtain⟨u,w',rfl,r1,r2⟩:=vals2 r;have e:w'=qO k:=by have:=r2.abs;have h2:=(ou k).abs;cases k<;>(revert r2;intro r2;exact r2)
 subst e;exact uK I r1 m k hn q
theorem AS (g:GOk Z CX cl xp X ex G){k:Kd}{e:Expr}{p p' pos:Pos}{va:List Nat}{fa:Ev->Res D}(hg:G.gl.contains 14=true)(hk:G.gl.contains (oh k)=true)(hn:notStar e=true)(ha:PE X e (RD X.K ex va fa)) :
  PE X (.Call (.Name "isinstance" p) [e,.Name (gP k) p'] [] pos) (RD X.K ex va fun τ=>bnd (fa τ) fun x=>grd (i8 x) (.ok (.bl (gA k x)))):=by
 obtain⟨k1,k2,k3,k4⟩:=fC g (show dz[14]? = some ("isinstance" : Str) from rfl) hg;obtain⟨j1,j2,j3,j4⟩:=fC g (yt k) hk;have pa:PA X [e,.Name (gP k) p'] (jO (RD X.K ex va fa) (jO (tC (kdV k)) qv)):=dG ha (dG (tW j1 j2 (uI k) (ou k) j3 j4) eU rfl) (cE hn _ _);refine cT (lq (rb k) k1 k2 PyProof.Rows.boot_isinstance pa k3 k4 (cE hn _ _) rfl) fun σ H Q ⟨S,τ,hs,q⟩=>?_;refine di (.refl _) hs (PO'.bnd q) fun x v H1 e1 _ m1 q1=>?_;obtain⟨gd,q1⟩:=PO'.grd q1;exact⟨nw S H,v,x,rfl,m1,gd,q1.ok _ _ e1 (.bl _)⟩
theorem HReps.rev {K:PySem.W.Frag}{S:Addr->Prop}{H:Hp}:∀ {vs:List V}{ds:List D},HReps K S H vs ds->HReps K S H vs.reverse ds.reverse
 | [],[],_=>.nil
 | v::vs,d::ds,.cons h t=>by rw[List.reverse_cons,List.reverse_cons];exact(HReps.rev t).append (.cons h .nil)
theorem yz (g:GOk Z CX cl xp X ex G){e:Expr}{p p' pos pos':Pos}{va:List Nat}{fa:Ev->Res D}(h1:G.glc 5=true)(h2:G.gl.contains 18=true)(hn:notStar e=true)(ha:PE X e (RD X.K ex va fa)) :
  PE X (.Call (.Name "list" p) [.Call (.Name "reversed" p') [e] [] pos'] [] pos) (RD X.K ex va fun τ=>bnd (fa τ) uD):=by
 obtain⟨k1,k2,k3,k4⟩:=fC g (show dz[5]? = some ("list" : Str) from rfl) (kE h1);obtain⟨j1,j2,j3,j4⟩:=fC g (show dz[18]? = some ("reversed" : Str) from rfl) h2;refine cT (um (g.calm (kF h1)) k1 k2 j1 j2 ha fun es=>cE hn es X.env) fun σ H Q ⟨S,τ,hs,q⟩=>?_;refine di (.refl _) hs (PO'.bnd q) fun x v H1 e1 _ m1 q1=>?_
 induction x using zD with
 | lst o ds=>obtain⟨a,ys,rfl,qq,m⟩:=m1.lstR;exact⟨a,ys,rfl,qq,fun l hl=>Kk.fit e1 q1 _ _ (.upd hl) (lX hl m.rev)⟩
 | _=>exact q1.no.elim
theorem nj {d:D}(h:gJ d=true):∃ x,d=.str x:=by
 induction d using zD<;>first|exact⟨_,rfl⟩|cases h
theorem AU (g:GOk Z CX cl xp X ex G){m:Mt}{o:Expr}{apos cpos:Pos}{vo:List Nat}{fo:Ev->Res D}{es:List IR}{a:Expr}{args:List Expr}(hn:jh o=true)(hl:(apos.endLine == cpos.line)=true)(hlen:(a::args).length < 29)(hcm:(G.cm||nc m)=true)
  (hst:cW Z G es (a::args)=true) (ho:PE X o (RD X.K ex vo fo)) (h:PA X (a::args) (RA X.K ex (cF es) (cX cl es))) :
  PE X (.Call (.Attribute o (jd m) apos) (a::args) [] cpos) (RD X.K ex (vo++cF es) fun τ=>bnd (fo τ) fun x=>grd (gJ x) (bnd (cX cl es τ) fun ds=>jF m x ds)):=by
 induction es using zL with
 | nil=>cases hst
 | cons b es=>
  have hst':(notStar a&&chk Z G b a&&cW Z G es args)=true:=hst;simp only[Bool.and_eq_true] at hst';have star:=dF Z G (es:=es) cpos X.env hst'.2;have mono:∀ σ H Q,RD X.K ex (vo++cF (b::es)) (fun τ=>bnd (fo τ) fun x=>grd (gJ x) (bnd (cX cl (b::es) τ) fun ds=>jF m x ds)) σ H Q->tBM X.K "str" (rMt X.K ex m) (RD X.K ex vo fo) (RA X.K ex (cF (b::es)) (cX cl (b::es))) σ H Q:=by rintro σ H Q ⟨S,τ,hs,q⟩;refine di (.refl _) hs.left (PO'.bnd q) fun x v H1 e1 _ m1 q1=>?_;obtain⟨gd,q1⟩:=PO'.grd q1;obtain⟨z,rfl⟩:=nj gd;cases m1.strR;refine⟨rfl,iu e1 hs.right (PO'.bnd q1) fun ds vs H2 e2 e2' m2 q2=>?_⟩;exact⟨nw S H,.str z,ds,.str z,m2,q2.mono fun d hd=>hd.fit e2⟩
  have hbase:attributeBase o (jd m) X.env (eval o X.env)=eval o X.env:=by
   induction o using zE with
   | Call f args kws pos=>
    induction args using zL with
    | nil=>
     induction kws using zL with
     | nil=>cases hn
     | cons _ _=>cases f<;>rfl
    | cons _ _=>cases f<;>rfl
   | _=>rfl
  have all0:(backTo cpos (starEach (a::args) X.env)).all (fun x=>!x.1)=true:=by rw[cE hst'.1.1];show (true&&(backTo cpos (starEach args X.env)).all (fun x=>!x.1))=true;rw[Bool.true_and,List.all_eq_true];intro y hy;have:=List.any_eq_false.mp star y hy;simpa using this
  have hfew:((backTo cpos (starEach (a::args) X.env)).all (fun x=>!x.1)&&(backToKw cpos (keywordEach [] X.env)).all (fun x=>x.1.isSome)&&decide ((a::args).length+([]:List Keyword).length+(if ([]:List Keyword).isEmpty then 0 else 1) < 30))=true:=by rw[all0];have:decide ((a::args).length+([]:List Keyword).length+(if ([]:List Keyword).isEmpty then 0 else 1) < 30)=true:=decide_eq_true (by simp at hlen ⊢;omega);rw[this];rfl
  refine cT ?_ mono;cases m with
  | join=>exact lC PySem.F.plainAttrs_str PySem.F.slot_str_join PySem.F.type_str_join (kD (ex:=ex) .join fun z=>by cases z) ho h hbase hfew hl (cE hst'.1.1 args X.env) star
  | index=>exact lC PySem.F.plainAttrs_str PySem.F.slot_str_index PySem.F.type_str_index (kD (ex:=ex) .index fun _=>g.calm (by rw[Bool.or_eq_true] at hcm;exact hcm.elim id fun z=>by cases z)) ho h hbase hfew hl (cE hst'.1.1 args X.env) star
  | starts=>exact lC PySem.F.plainAttrs_str PySem.F.slot_str_startswith PySem.F.type_str_startswith (kD (ex:=ex) .starts fun z=>by cases z) ho h hbase hfew hl (cE hst'.1.1 args X.env) star
end
section
variable {Z:Sg}{CX:CXT}{cl:Nat->List D->Res D}{xp:XK->Hp->EX->Prop}{X:Cx}{ex:EX->Prop}{G:Gm}
theorem kJ {K:PySem.W.Frag}{S:Addr->Prop}{H:Hp}{w:V}{y:D}{q:Key}(m:HRep K S H w y)(h:i9 y=some q):w=kV q:=by
 induction y using zD with
 | int i=>cases h;cases m.intR;rfl
 | str x=>cases h;cases m.strR;rfl
 | _=>cases h
theorem rf {K:PySem.W.Frag}{S:Addr->Prop}{H:Hp}(q:Key):∀ (kvs:List (Key×V)) (ds:List D),HReps K S H (kvs.map (·.2)) ds->
  (∀ d,look (kvs.map (·.1)) ds q=some d->∃ v,ig kvs q=some v/\HRep K S H v d)/\(look (kvs.map (·.1)) ds q).isSome=(ig kvs q).isSome:=by
 intro kvs
 induction kvs with
 | nil=>intro ds _;exact⟨fun d h=>(by cases h),rfl⟩
 | cons p kvs ih=>
  intro ds m;rw[List.map_cons] at m
  induction ds using zL with
  | nil=>exact absurd m.length (by simp)
  | cons d ds=>
   cases m with
   | cons m1 m2=>
    obtain⟨i1,i2⟩:=ih ds m2;have e1:look ((p::kvs).map (·.1)) (d::ds) q=if p.1=q then some d else look (kvs.map (·.1)) ds q:=rfl
    rw[e1];unfold ig at i1 i2 ⊢;rw[List.find?_cons];by_cases h:p.1=q
    ·rw[if_pos h,decide_eq_true h];exact⟨fun d' z=>⟨p.2,rfl,by cases z;exact m1⟩,rfl⟩
    ·rw[if_neg h,decide_eq_false h];exact⟨i1,i2⟩
theorem HRep.dctR {K:PySem.W.Frag}{S:Addr->Prop}{H:Hp}{v:V}{o:Bool}{ks:List Key}{ds:List D}(h:HRep K S H v (.dct o ks ds)):∃ a kvs,v=.ref a/\Rd H a (.dK kvs)/\kvs.map (·.1)=ks/\HReps K S H (kvs.map (·.2)) ds:=by
 cases h with
 | dct h0 h1 h2 h3=>exact⟨_,_,rfl,h1,h2,h3⟩
theorem yB {pos:Pos}:PE X (.Dict [] [] pos) (RD X.K ex [] (evR cl .dnew)):=by refine cT lG fun σ H Q ⟨S,τ,hs,q⟩=>fun p hp=>?_;exact q.ok _ _ (.upd hp) (.dct (kvs:=[]) (.inr hp) (.inl cP) rfl .nil)
theorem yC (g:GOk Z CX cl xp X ex G){a b:Expr}{pos:Pos}{va vb:List Nat}{fa fb:Ev->Res D}(ha:PE X a (RD X.K ex va fa))(hb:PE X b (RD X.K ex vb fb))(hp:dJ b=true) :
  PE X (.Subscript a b pos) (RD X.K ex (va++vb) fun τ=>bnd (fa τ) fun x=>bnd (fb τ) fun y=>lM x y):=by
 have hu:=g.un;refine cT (uq (by omega) ha hb fun o i=>by cases b<;>first|rfl|cases hp) fun σ H Q ⟨S,τ,hs,q⟩=>?_;refine di (.refl _) hs.left (PO'.bnd q) fun x v H1 e1 _ m1 q1=>?_;refine di e1 hs.right (PO'.bnd q1) fun y w H2 e2 e2' m2 q2=>?_
 induction x using zD with
 | dct o ks ds=>
  have q3:PO' ex (match i9 y with|some q=>(match look ks ds q with|some d=>.ok d|none=>stk)|none=>stk) (Kk X.K S H Q):=q2;cases hk:i9 y with
  | none=>rw[hk] at q3;exact q3.no.elim
  | some k=>
   simp only[hk] at q3;obtain⟨p,kvs,rfl,h1,rfl,h3⟩:=(m1.later e2').dctR;cases hl:look (kvs.map (·.1)) ds k with
   | none=>rw[hl] at q3;exact q3.no.elim
   | some d=>rw[hl] at q3;obtain⟨v,hv,mv⟩:=(rf k kvs ds h3).1 d hl;exact⟨p,v,rfl,.inl ⟨kvs,k,h1,kJ m2 hk,hv.symm⟩,q3.ok _ _ e2 mv⟩
 | _=>exact q2.no.elim
end
section
variable {Z:Sg}{CX:CXT}{cl:Nat->List D->Res D}{xp:XK->Hp->EX->Prop}{X:Cx}{ex:EX->Prop}{G:Gm}
theorem yD (g:GOk Z CX cl xp X ex G){e:Expr}{p p' pos pos':Pos}{va:List Nat}{fa:Ev->Res D}(h1:G.gl.contains 0=true)(h2:G.gl.contains 12=true)(hn:notStar e=true)(hcm:G.cm=true)(ha:PE X e (RD X.K ex va fa)) :
  PE X (.Call (.Name "len" p) [.Call (.Name "set" p') [e] [] pos'] [] pos) (RD X.K ex va fun τ=>bnd (fa τ) nW):=by
 obtain⟨k1,k2,k3,k4⟩:=fC g (show dz[0]? = some ("len" : Str) from rfl) h1;obtain⟨j1,j2,j3,j4⟩:=fC g (show dz[12]? = some ("set" : Str) from rfl) h2;refine cT (uv (g.calm hcm) k1 k2 j1 j2 ha fun es=>cE hn es X.env) fun σ H Q ⟨S,τ,hs,q⟩=>?_;refine di (.refl _) hs (PO'.bnd q) fun x v H1 e1 _ m1 q1=>?_
 induction x using zD with
 | lst o ds=>
  obtain⟨a,ys,rfl,qq,m⟩:=m1.lstR;have q2:PO' ex (match eK ds with|some ns=>grd (decide (ns.length < 1000)) (.ok (.int ((ns.foldl Sx.dd []).length:Nat)))|none=>stk) (Kk X.K S H Q):=q1;cases z:eK ds with
  | none=>rw[z] at q2;exact q2.no.elim
  | some ns=>rw[z] at q2;obtain⟨gd,q3⟩:=PO'.grd q2;rw[gO z] at m;rw[m.strs] at qq;exact⟨a,ns,rfl,qq,of_decide_eq_true gd,q3.ok _ _ e1 (.int _)⟩
 | _=>exact q1.no.elim
end
theorem j9 {K:PySem.W.Frag}{S:Addr->Prop}{H:Hp}(x:Str):∀ (fs:List (Str×V)) (ds:List D),HReps K S H (fs.map (·.2)) ds->∀ d,cS (fs.map (·.1)) ds x=some d->∃ v,fs.lookup x=some v/\HRep K S H v d
 | [],_,_,d,h=>by cases h
 | (k,v)::fs,ds,m,d,h=>by
  cases m with
  | cons m1 m2=>
   rename_i d1 ds1
   have h:(if k=x then some d1 else cS (fs.map (·.1)) ds1 x)=some d:=h;show ∃ w,(match x == k with|true=>some v|false=>List.lookup x fs)=some w/\_;by_cases e:k=x
   ·rw[if_pos e] at h;cases h;rw[show (x == k)=true by rw[e];exact beq_self_eq_true x];exact⟨v,rfl,m1⟩
   ·rw[if_neg e] at h;rw[show (x == k)=false from beq_false_of_ne fun z=>e z.symm];exact j9 x fs ds1 m2 d h
theorem gc (x:Str):∀ (fs:List (Str×V)),(fs.map (·.1)).contains x=false->fs.lookup x=none
 | [],_=>rfl
 | (k,v)::fs,h=>by have h:(x == k||(fs.map (·.1)).contains x)=false:=h;rw[Bool.or_eq_false_iff] at h;show (match x == k with|true=>some v|false=>List.lookup x fs)=none;rw[h.1];exact gc x fs h.2
section
variable {X:Cx}{pins:List (Addr×Obj)}{σ:St}{H:Hp}{s:Shared}{a C dx:Addr}{fs:List (Str×V)}{f:Str}{v:V}{A:Around}{E:Value->Shared->Prop}
theorem rg (I:Inv X pins σ H s)(e:Rd H a (.ins C dx fs)):∃ mA,ObjM s.heap a dx C mA/\∀ f,gp (fs.lookup f) (mA f):=by obtain⟨d,z,ne,ob,mA,n,r,q⟩:=e.ok I.hok;exact⟨mA,⟨ob,n,ne⟩,r⟩
theorem nk {b:Bool}{Q:Value->Shared->Prop}(I:Inv X pins σ H s)(e:Rd H a (.ins C dx fs))(c:Cls X.K C)(n:fR X.K C f)(l:fs.lookup f=some v)
  (h:∀ u s',Inv X pins σ H s'->RelV v u->Q u s'):wpAny (model X.prog X.w) A (getAttr (.ref a) f b) Q E s:=by
 obtain⟨mA,O,r⟩:=rg I e;obtain⟨u,hu,ru⟩:=gp.some_of (v:=v) (o:=mA f) (by rw[<- l];exact r f);exact get_map I.kIn O (c.get f) c.hd n hu (pB ru) (h u _ (I.tok _) ru)
theorem ji {m:Str}{g:Addr}{pl:Sem Bool}{Q:Value×List Value->Shared->Prop}(I:Inv X pins σ H s)(e:Rd H a (.ins C dx fs))(c:Cls X.K C)(k:Meth X.K C m g)(l:fs.lookup m=none)
  (h:Q (.ref g,[.ref a]) s):wpAny (model X.prog X.w) A (getMethod (.ref a) m pl) Q E s:=by
 obtain⟨mA,O,r⟩:=rg I e;have hn:mA m=none:=gp.none_of (by rw[<- l];exact r m);exact qt I.kIn O (c.get m) k.at_ k.fn hn h
end
theorem ka {prog:Program}{w:World}{A:Around}{E:Value->Shared->Prop}{s:Shared}{env:Env}{o:Expr}{name:Str}{apos pos:Pos}{args:List Expr}{Q:Value->Shared->Prop}
  (hbase:attributeBase o name env (eval o env)=eval o env)
  (hfew:((backTo pos (starEach args env)).all (fun x=>!x.1)&&(backToKw pos (keywordEach [] env)).all (fun x=>x.1.isSome)
  &&decide (args.length+([]:List Keyword).length+(if ([]:List Keyword).isEmpty then 0 else 1) < 30))=true)
  (hline:(apos.endLine == pos.line)=true)
  (h:wpAny (model prog w) A (eval o env) (fun ov s₁=>∀ pl,wpAny (model prog w) A (getMethod ov name pl) (fun fx s₂=>wpAny (model prog w) A (callWith pos fx.1 fx.2 (backTo pos (starEach args env)) (backToKw pos (keywordEach [] env))) Q E s₂) E s₁) E s) :
  wpAny (model prog w) A (eval (.Call (.Attribute o name apos) args [] pos) env) Q E s:=by
 rw[arm_eval_Call,hbase];refine wpAny_bind (wpAny_mono h (fun ov s₁ h₁=>?_) fun _ _ e=>e);refine wpAny_bind (wpAny_standAt ?_);have hform:methodCallForm (args.length+([]:List Keyword).length) (backTo pos (starEach args env)) (backToKw pos (keywordEach [] env))=true:=hfew;have hpos:methodCallPos true o env apos pos=pure pos:=by unfold methodCallPos;simp[hline]
 unfold methodCall;rw[hform];refine wpAny_bind (wpAny_holding (wpAny_mono (h₁ _) (fun fx s₂ h₂=>?_) fun _ _ x=>x));exact wpAny_bind (wpAny_of_eq hpos h₂)
theorem iw {o:Expr}{x:Str}{env:Env}(hn:l7 o=true):attributeBase o x env (eval o env)=eval o env:=by
 induction o using zE with
 | Name _ _=>rfl
 | Attribute _ _ _=>rfl
 | _=>exact aY hn
section
variable {Z:Sg}{CX:CXT}{cl:Nat->List D->Res D}{xp:XK->Hp->EX->Prop}{X:Cx}{ex:EX->Prop}{G:Gm}
theorem g5 {e:Expr}{f:Str}{pos:Pos}{ta:TE}(he:PE X e ta)(hb:attributeBase e f X.env (eval e X.env)=eval e X.env) :
  PE X (.Attribute e f pos) (fun σ H Q=>ta σ H fun x H1=>∃ a C dx fs v,x=.ref a/\Rd H1 a (.ins C dx fs)/\Cls X.K C/\fR X.K C f/\fs.lookup f=some v/\Q v H1):=by
 intro pins s σ H Q I h;refine ua hb (thn (he pins s σ H _ I h) fun u s1 ⟨x,H1,I1,rx,a,C,dx,fs,v,ex,ea,c,n,l,q⟩=>?_);subst ex;obtain rfl:u=Value.ref a:=rx;exact nk I1 ea c n l fun u' s2 I2 ru=>⟨v,H1,I2,ru,q⟩
theorem HRep.objR {K:PySem.W.Frag}{S:Addr->Prop}{H:Hp}{v:V}{o:Bool}{c:Str}{ks:List Str}{ds:List D}(h:HRep K S H v (.obj o c ks ds)):∃ a C dx fs,v=.ref a/\Rd H a (.ins C dx fs)/\OC K c C/\fs.map (·.1)=ks/\HReps K S H (fs.map (·.2)) ds:=by
 cases h with
 | obj h0 h1 h2 h3=>exact⟨_,_,_,_,rfl,h1,h2.1,h2.2,h3⟩
theorem yE (g:GOk Z CX cl xp X ex G){o:Expr}{x:Str}{cs:List Str}{pos:Pos}{va:List Nat}{fa:Ev->Res D}(hn:l7 o=true)(hx:Z.ofs.contains x=true)(hc:cs.all (fun c=>Z.ocs.contains c)=true)(ha:PE X o (RD X.K ex va fa)) :
  PE X (.Attribute o x pos) (RD X.K ex va fun τ=>bnd (fa τ) (uE x cs)):=by
 refine cT (g5 ha (iw hn)) fun σ H Q ⟨S,τ,hs,q⟩=>?_;refine di (.refl _) hs (PO'.bnd q) fun d v H1 e1 _ m1 q1=>?_
 induction d using zD with
 | obj o c ks ds=>
  obtain⟨gd,q2⟩:=PO'.grd (show PO' ex (grd (cs.contains c) (match cS ks ds x with|some d=>.ok d|none=>stk)) (Kk X.K S H Q) from q1);obtain⟨a,C,dx,fs,rfl,h1,h2,rfl,h3⟩:=m1.objR;have hcs:c∈Z.ocs:=by have:=List.all_eq_true.mp hc c (List.contains_iff_mem.mp gd);exact List.contains_iff_mem.mp this
  obtain⟨k1,k2⟩:=g.ocl c hcs C h2;cases hl:cS (fs.map (·.1)) ds x with
  | none=>rw[hl] at q2;exact q2.no.elim
  | some d=>rw[hl] at q2;obtain⟨v,hv,mv⟩:=j9 x fs ds h3 d hl;exact⟨a,C,dx,fs,v,rfl,h1,k1,k2 x (List.contains_iff_mem.mp hx),hv,q2.ok _ _ e1 mv⟩
 | _=>exact q1.no.elim
theorem rh {es:List IR}{args:List Expr}{pos:Pos}{env:Env}(hst:cW Z G es args=true)(hlen:args.length < 29) :
  ((backTo pos (starEach args env)).all (fun x=>!x.1)&&(backToKw pos (keywordEach [] env)).all (fun x=>x.1.isSome)
  &&decide (args.length+([]:List Keyword).length+(if ([]:List Keyword).isEmpty then 0 else 1) < 30))=true:=by
 have h1:(backTo pos (starEach args env)).all (fun x=>!x.1)=true:=by
  have:=dF Z G (es:=es) pos env hst;rw[List.all_eq_true];intro y hy;have h2:¬ ((backTo pos (starEach args env)).any (·.1)=true):=by rw[this];simp
  rw[List.any_eq_true] at h2;cases hz:y.1 with
  | false=>rfl
  | true=>exact absurd ⟨y,hy,hz⟩ h2
 rw[h1,Bool.true_and];show (true&&decide (args.length+0+0 < 30))=true;rw[Bool.true_and];exact decide_eq_true (by omega)
theorem yF (g:GOk Z CX cl xp X ex G){f:Nat}{m c:Str}{o:Expr}{ap pos:Pos}{va:List Nat}{fa:Ev->Res D}{es:List IR}{args:List Expr}(hn:l7 o=true)(hline:(ap.endLine == pos.line)=true)(hlen:args.length < 29)(hf:(f,c,m)∈Z.oms)(hcs:c∈Z.ocs)(hcm:G.cm=true)
  (hst:cW Z G es args=true) (ha:PE X o (RD X.K ex va fa)) (h:PA X args (RA X.K ex (cF es) (cX cl es))) :
  PE X (.Call (.Attribute o m ap) args [] pos) (RD X.K ex (va++cF es) fun τ=>bnd (fa τ) fun x=>grd (gK c m x) (bnd (cX cl es τ) fun ds=>cl f (er x::ers ds))):=by
 obtain⟨k,fa',fd,ps,hm,hb,F,hr,hlen'⟩:=(g.fmt f c m hf hcm).ex;obtain⟨E,hP,hE⟩:=g.exs;intro pins s σ H Q I q;obtain⟨S,τ,hs,q⟩:=q;have fin:∀ (us:List Value) (s1:Shared) (vs:List V) (H1:Hp) (ds:List D),Inv X pins σ H1 s1->Vals vs us->cO H H1->HReps X.K (nw S H) H1 vs ds->PO' ex (cl f (ers ds)) (Kk X.K S H Q)->wpAny (model X.prog X.w) X.A (call (.ref fa') us) (EP X pins σ Q) X.xe s1:=by
  intro us s1 vs H1 ds I1 r e m q1;have hl:=hlen' ex _ _ q1;rw[de] at hl;refine kI F hr hb hP g.hid I1 r (by rw[m.length];exact hl) (Fc:=fun a=>nw S H a/\H1 a≠none) (fun a z=>z.2) m.tight ?_;cases z:cl f (ers ds) with
  | error er=>
   rw[z] at q1;cases er with
   | stuck=>exact q1.no.elim
   | exc c=>exact hE c _ q1
  | ok d=>
   rw[z] at q1;intro v H' F' fv o;refine q1.ok _ _ (e.trans o.same) (o.rep.read (fun a ha=>?_) fun a ha=>?_)
   ·rcases o.out a ha with z|z
    ·exact z.1
    ·exact .inr (e.free z)
   ·exact .inr (e.free (o.new a ha))
 refine ka (iw hn) (rh hst hlen) hline ?_;refine thn (ha pins s σ H (fun v H1=>∃ a C dx fs d,v=.ref a/\Rd H1 a (.ins C dx fs)/\OC X.K c C/\fs.lookup m=none/\cO H H1/\HRep X.K (nw S H) H1 v d/\PO' ex (bnd (cX cl es τ) fun ds=>cl f (er d::ers ds)) (Kk X.K S H Q)) I ?_) fun u s1 ⟨x,H1,I1,rx,a,C,dx,fs,d,ex',ea,oc,l,e1,md,q1⟩ pl=>?_
 ·refine di (.refl _) hs.left (PO'.bnd q) fun d v H1 e1 _ m1 q1=>?_;obtain⟨gd,q2⟩:=PO'.grd q1
  induction d using zD with
  | obj o c' ks ds=>have gd':(c == c'&&!ks.contains m)=true:=gd;rw[Bool.and_eq_true] at gd';have e0:=eq_of_beq gd'.1;subst e0;obtain⟨a,C,dx,fs,rfl,h1,h2,rfl,h3⟩:=m1.objR;exact⟨a,C,dx,fs,_,rfl,h1,h2,gc m fs (by simpa using gd'.2),e1,m1,q2⟩
  | _=>exact aY gd
 ·subst ex';obtain rfl:u=Value.ref a:=rx;obtain⟨k1,_⟩:=g.ocl c hcs C oc;have hme:=hm C oc;refine ji I1 ea k1 hme l ?_
  induction args using zL with
  | nil=>
   induction es using zL with
   | cons _ _=>cases hst
   | nil=>exact PySem.W.callWith_K0 (first:=[.ref a]) I1.kIn hme.kp (fin [.ref a] s1 [.ref a] H1 [d] I1 (.cons rfl .nil) e1 (.cons md .nil) q1)
  | cons e l'=>
   induction es using zL with
   | nil=>cases hst
   | cons b r=>
    have hst':(notStar e&&chk Z G b e&&cW Z G r l')=true:=hst;simp only[Bool.and_eq_true] at hst';refine PySem.W.callWith_K (first:=[.ref a]) (h₀:=X.base) I.ok.mod.kin hme.kp (thn (h pos pins s1 σ H1 (fun vs H2=>∃ ds,cO H H2/\HReps X.K (nw S H) H2 (.ref a::vs) (d::ds)/\PO' ex (cl f (er d::ers ds)) (Kk X.K S H Q)) I1 ?_) fun us s2 ⟨vs,H2,I2,rr,ds,e2,m2,q2⟩=>⟨I2.kIn,?_⟩) (cE hst'.1.1 l' X.env) (dF Z G (es:=r) pos X.env hst'.2)
    ·exact iu e1 hs.right (PO'.bnd q1) fun ds vs H2 e2 e2' m2 q2=>⟨ds,e2,.cons (md.mono (fun _ z=>z) e2') m2,q2⟩
    ·exact fin (.ref a::us) s2 (.ref a::vs) H2 (d::ds) I2 (.cons rfl rr) e2 m2 q2
end
section
variable {K:PySem.W.Frag}{S:Addr->Prop}{H:Hp}
theorem has_any (kvs:List (Key×V))(q:Key):(kvs.any fun kv=>decide (kv.1=q))=pO (kvs.map (·.1)) q:=by unfold pO;rw[List.any_map];rfl
theorem vT (kvs:List (Key×V))(q:Key)(v:V):(putK kvs q v).map (·.1)=ja (kvs.map (·.1)) q:=by
 unfold putK ja;rw[has_any];by_cases h:pO (kvs.map (·.1)) q=true
 ·rw[if_pos h,if_pos h,List.map_map];refine List.map_congr_left fun kv _=>?_;show (if kv.1=q then (kv.1,v) else kv).1=kv.1;split<;>rfl
 ·rw[if_neg h,if_neg h,List.map_append];rfl
theorem put_h (q:Key){v:V}{d:D}(mv:HRep K S H v d){kvs:List (Key×V)}{ds:List D}(m:HReps K S H (kvs.map (·.2)) ds):HReps K S H ((putK kvs q v).map (·.2)) (iJ (kvs.map (·.1)) ds q d):=by
 unfold putK iJ;rw[has_any];by_cases h:pO (kvs.map (·.1)) q=true
 ·rw[if_pos h,if_pos h,List.map_map];clear h
  induction kvs generalizing ds with
  | nil=>cases m;exact .nil
  | cons p kvs ih=>
   rw[List.map_cons] at m
   induction ds using zL with
   | nil=>exact absurd m.length (by simp)
   | cons e ds=>
    cases m with
    | cons m1 m2=>
     rw[List.map_cons,List.map_cons,List.zipWith_cons_cons];refine .cons ?_ (ih m2);show HRep K S H (if p.1=q then (p.1,v) else p).2 (if p.1=q then d else e);split
     ·exact mv
     ·exact m1
 ·rw[if_neg h,if_neg h,List.map_append];exact m.append (.cons mv .nil)
theorem uN:∀ {ds:List D}{ps:List (Key×D)}{xs:List V},HReps K S H xs ds->jW ds=some ps->∃ as kvs,xs=as.map V.ref/\PrsAt K H as kvs/\kvs.map (·.1)=ps.map (·.1)/\HReps K S H (kvs.map (·.2)) (ps.map (·.2)):=by
 intro ds
 induction ds with
 | nil=>intro ps xs m h;cases h;cases m;exact⟨[],[],rfl,.nil,rfl,.nil⟩
 | cons d r ih=>
  intro ps xs m h;cases m with
  | cons m1 m2=>
   unfold jW at h;split at h
   ·rename_i _ e;cases e
   ·rename_i _ k v r' e
    cases e;split at h
    ·rename_i q ps' hq hps
     cases h;obtain⟨as,kvs,rfl,h1,h2,h3⟩:=ih m2 hps;obtain⟨a,ys,rfl,ht,mt⟩:=m1.tupR;cases mt with
     | cons n1 mt=>
      cases mt with
      | cons n2 mt=>cases mt;have ek:=kJ n1 hq;subst ek;exact⟨a::as,(q,_)::kvs,rfl,.cons ht h1,by rw[List.map_cons,List.map_cons,h2],.cons n2 h3⟩
    ·cases h
   ·cases h
theorem ox:∀ (more:List (Key×V)) (ps:List (Key×D)) (kvs:List (Key×V)) (ds:List D),more.map (·.1)=ps.map (·.1)->HReps K S H (more.map (·.2)) (ps.map (·.2))->HReps K S H (kvs.map (·.2)) ds->
  (gH kvs more).map (·.1)=(mrg ps (kvs.map (·.1)) ds).1/\HReps K S H ((gH kvs more).map (·.2)) (mrg ps (kvs.map (·.1)) ds).2
 | [],[],kvs,ds,_,_,m=>⟨rfl,m⟩
 | p::more,[],_,_,h,_,_=>by cases h
 | [],q::ps,_,_,h,_,_=>by cases h
 | (k,v)::more,(q,d)::ps,kvs,ds,h,m1,m=>by
  rw[List.map_cons,List.map_cons,List.cons.injEq] at h;have e:k=q:=h.1;subst e;cases m1 with
  | cons n1 n2=>have:=ox more ps (putK kvs k v) (iJ (kvs.map (·.1)) ds k d) h.2 n2 (put_h k n1 m);rw[vT] at this;exact this
end
section
variable {Z:Sg}{CX:CXT}{cl:Nat->List D->Res D}{xp:XK->Hp->EX->Prop}{X:Cx}{ex:EX->Prop}{G:Gm}
theorem yG (g:GOk Z CX cl xp X ex G){a:Expr}{p pos:Pos}{va:List Nat}{fa:Ev->Res D}(hgl:G.glc 19=true)(hn:notStar a=true)(ha:PE X a (RD X.K ex va fa)) :
  PE X (.Call (.Name "dict" p) [a] [] pos) (RD X.K ex va fun τ=>bnd (fa τ) nX):=by
 obtain⟨k1,k2,k3,k4⟩:=fC g (show dz[19]? = some ("dict" : Str) from rfl) (kE hgl);refine cT (ia (T:="dict") (mU (g.calm (kF hgl))) k1 k2 (by decide +kernel) (dG ha eU (cE hn _ _)) k3 k4 (cE hn _ _) rfl) fun σ H Q ⟨S,τ,hs,q⟩=>?_;refine di (.refl _) hs (PO'.bnd q) fun d v H1 e1 _ m1 q1=>?_
 induction d using zD with
 | lst o ds=>
  obtain⟨p,xs,rfl,hq,mm⟩:=m1.lstR;have q2:PO' ex (match jW ds with|some ps=>.ok (.dct true (mrg ps [] []).1 (mrg ps [] []).2)|none=>stk) (Kk X.K S H Q):=q1;cases z:jW ds with
  | none=>rw[z] at q2;exact q2.no.elim
  | some ps=>rw[z] at q2;obtain⟨as,kvs,rfl,hp,hk,hv⟩:=uN mm z;refine⟨p,as,kvs,rfl,hq,hp,fun a ha=>?_⟩;obtain⟨r1,r2⟩:=ox kvs ps [] [] hk hv .nil;exact q2.ok _ _ (e1.trans (.upd ha)) (.dct (.inr (e1.free ha)) (.inl cP) r1 (r2.mono (fun _ z=>z) (.upd ha)))
 | _=>exact q1.no.elim
end
section
variable {prog:Program}{w:World}{A:Around}{E:Value->Shared->Prop}{s:Shared}
theorem jk {it t:Addr}{items:Array Value}(hne:t≠it):∀ (n i:Nat) (s:Shared) (Q:List Value->Shared->Prop),s.heap.IsListIter it t i->s.heap.IsList t items->i+n<=items.size->
  (∀ h',h'.IsListIter it t (i+n)->Heap.SameBut it s.heap h'->Q ((items.toList.drop i).take n) {s with heap:=h'})->wpAny (model prog w) A (draw (.ref it) n) Q E s
 | 0,i,s,Q,hit,_,_,hQ=>by show wpAny _ _ (pure []) Q E s;exact wpAny_pure (by simpa using hQ s.heap hit (Heap.SameBut.refl ..))
 | n+1,i,s,Q,hit,ht,hle,hQ=>by
  have hlt:i < items.size:=by omega
  show wpAny _ _ (pyNext (.ref it) >>= _) Q E s;refine wpAny_bind (wpAny_pyNext_list_item hit ht (x:=items[i]) (by simp[hlt]) fun h₁ hit₁ hs₁=>?_);refine wpAny_bind (wpAny_holding (jk hne n (i+1) _ _ hit₁ (ht.extBut hs₁.extBut hne) (by omega) fun h₂ hit₂ hs₂=>wpAny_pure ?_));have hd:items.toList.drop i=items[i]::items.toList.drop (i+1):=by simp[List.drop_eq_getElem_cons,hlt]
  have:=hQ h₂ (by rw[show i+(n+1)=i+1+n by omega];exact hit₂) (hs₁.trans hs₂);rw[hd,List.take_succ_cons] at this;exact this
theorem ix {t:Addr}{items:Array Value}{Q:List Value->Shared->Prop}(hh:A.handled=none)(ht:s.heap.IsList t items)
  (hQ:∀ h',Heap.ExtBut s.heap.objs.size s.heap h'->Q items.toList {s with heap:=h'}):wpAny (model prog w) A (unpackItems (.ref t) items.size none) Q E s:=by
 have hlt:t≠s.heap.objs.size:=by obtain⟨o,ho,_⟩:=ht;exact Nat.ne_of_lt (Heap.lt_size ho)
 have push:∀ o,(s.heap.push o).IsList t items:=fun o=>by obtain⟨ob,e,c,n,d⟩:=ht;exact⟨ob,Heap.get?_push_of_some _ e,c,n,d⟩
 unfold unpackItems;refine wpAny_bind ?_
 ·unfold notIterableAtAll;refine wpAny_bind (wpAny_specialOf ht.typeIs slot_list_iter.lookup ?_);refine wpAny_pure ?_;simp only[Bool.false_eq_true,if_false];refine wpAny_bind (wpAny_holding (wpAny_pyIter_list ht ?_));refine wpAny_bind (wpAny_holding (jk hlt items.size 0 _ _ ⟨_,Heap.get?_push_size _ rfl,rfl,rfl⟩ (push _) (by omega) fun h₁ hit₁ hs₁=>?_));have hall:List.take items.size (List.drop 0 items.toList)=items.toList:=by rw[List.drop_zero];exact List.take_of_length_le (by simp)
  rw[hall];rw[if_neg (by simp)];have ht₁:h₁.IsList t items:=(push _).extBut hs₁.extBut hlt;refine wpAny_bind (wpAny_holding (wpAny_pyNext_list_end hh hit₁ ht₁ (by simp) fun h₂ he₂=>?_));simp only[Option.isSome_none,Bool.false_eq_true,if_false];refine wpAny_pure (hQ h₂ fun b o hb e=>he₂ b o hb (hs₁.extBut b o hb (Heap.get?_push_of_some _ e)))
end
def AV (K:PySem.W.Frag)(n:Nat)(t:TGs):TG:=fun v σ H Q=>∃ a xs,v=.ref a/\(SqT K H a xs∨SqL K H a xs)/\xs.length=n/\t xs σ H Q
theorem yI {X:Cx}{pos:Pos}{es:List Expr}{k:Nat}{t:TGs}{n:Nat}(hc:X.calm=true)(h:PGs X es t)(hn:(assignEach es X.env).length=n)(hst:(assignEach es X.env).findIdx? (·.1)=none):PG X (.Tuple es k pos) (AV X.K n t):=by
 intro pins s σ H v u Q I r hw;obtain⟨a,xs,e1,hq,hl,hw⟩:=hw;subst e1;cases r;rcases hq with hq|hq
 ·obtain⟨its,rv,ht,hz⟩:=I.tuple hq;refine assign_Tuple_tuple (I.ok.hd hc) ht (by simp[hn,<- hl,rv.length]) hst fun h' hx=>?_;have I1:Inv X pins σ H {s with heap:=h'}:=I.kept (t':=s.toks) fun b o e=>hx b o (Nat.ne_of_lt (Heap.lt_size e)) e;exact h pins _ σ H xs _ Q I1 (by simpa using rv) hw
 ·obtain⟨its,rv,pl,hz⟩:=I.list hq;rw[assign_Tuple];refine wpAny_bind (wpAny_standAt ?_);unfold unpack;have hlen:(assignEach es X.env).length=its.toArray.size:=by simp[hn,<- hl,rv.length]
  rw[hlen,hst];refine wpAny_bind (wpAny_holding (ix (I.ok.hd hc) pl.isList fun h' hx=>?_));have I1:Inv X pins σ H {s with heap:=h'}:=I.kept (t':=s.toks) fun b o e=>hx b o (Nat.ne_of_lt (Heap.lt_size e)) e;exact h pins _ σ H xs _ Q I1 (by simpa using rv) hw
mutual
noncomputable def gT (K:PySem.W.Frag):Tg->TG
 | .nm i=>qh i
 | .tp ts=>AV K ts.length (gTs K ts)
noncomputable def gTs (K:PySem.W.Frag):List Tg->TGs
 | []=>Ai
 | t::ts=>vI (gT K t) (gTs K ts)
end
theorem g6 {e:Expr}(h:notStar e=true)(es:List Expr)(env:Env):assignEach (e::es) env=(false,assign e env)::assignEach es env:=by
 induction e using zE<;>first|rfl|cases h
section
variable {Z:Sg}{CX:CXT}{cl:Nat->List D->Res D}{xp:XK->Hp->EX->Prop}{X:Cx}{ex:EX->Prop}{G:Gm}
theorem jl (G:Gm):∀ {ts:List Tg}{es:List Expr} (env:Env),gG G ts es=true->(assignEach es env).length=ts.length/\(assignEach es env).findIdx? (·.1)=none
 | [],[],_,_=>⟨rfl,rfl⟩
 | t::ts,e::es,env,h=>by have h':(notStar e&&eF G t e&&gG G ts es)=true:=h;simp only[Bool.and_eq_true] at h';obtain⟨h1,h2⟩:=jl G (ts:=ts) (es:=es) env h'.2;rw[g6 h'.1.1];refine⟨by rw[List.length_cons,h1,List.length_cons],?_⟩;rw[List.findIdx?_cons,if_neg (by simp),h2];rfl
 | [],_::_,_,h=>by cases h
 | _::_,[],_,h=>by cases h
mutual
theorem pgT (g:GOk Z CX cl xp X ex G):∀ (t:Tg) (e:Expr),eF G t e=true->PG X e (gT X.K t)
 | .nm i,e,h=>by
  induction e using zE with
  | Name x pos=>
   have h':(G.N[i]? == some x&&(G.kd[i]? == some .local||(G.df&&G.kd[i]? == some .cell)))=true:=(Bool.and_eq_true_iff.mp h).1;rw[Bool.and_eq_true,Bool.or_eq_true,Bool.and_eq_true] at h';obtain⟨h1,h2⟩:=h';have hx:G.N[i]? = some x:=eq_of_beq h1;have hk:=g.kd i x hx;refine tZ (by rw[g.N];exact g.nod) (by rw[g.N];exact hx) ?_ ?_
   ·rcases h2 with h2|h2
    ·exact .inl (hk.trans (eq_of_beq h2))
    ·exact .inr (hk.trans (eq_of_beq h2.2))
   ·rcases h2 with h2|h2
    ·exact .inr (hk.trans (eq_of_beq h2))
    ·exact .inl (g.df h2.1 x)
  | _=>cases h
 | .tp ts,e,h=>by
  induction e using zE with
  | Tuple es k pos=>have h0:(G.cm&&gG G ts es)=true:=h;rw[Bool.and_eq_true] at h0;have h':=h0.2;obtain⟨h1,h2⟩:=jl G X.env h';exact yI (g.calm h0.1) (AW g ts es h') h1 h2
  | _=>cases h
theorem AW (g:GOk Z CX cl xp X ex G):∀ (ts:List Tg) (es:List Expr),gG G ts es=true->PGs X es (gTs X.K ts)
 | [],[],_=>t4
 | t::ts,e::es,h=>by have h':(notStar e&&eF G t e&&gG G ts es)=true:=h;simp only[Bool.and_eq_true] at h';exact qi (pgT g t e h'.1.2) (AW g ts es h'.2) (by rw[g6 h'.1.1];rfl)
 | [],_::_,h=>by cases h
 | _::_,[],h=>by cases h
end
end
mutual
theorem gf {G:Gm}:∀ (t:Tg) (e:Expr),eF G t e=true->∀ j∈tgs t,G.io≠some j
 | .nm i,e,h,j,hj=>by
  induction e using zE with
  | Name x pos=>
   have h':=(Bool.and_eq_true_iff.mp (show ((G.N[i]? == some x&&(G.kd[i]? == some .local||(G.df&&G.kd[i]? == some .cell)))&&G.io != some i)=true from h)).2;have e:j=i:=by simpa[tgs] using hj
   subst e;simpa using h'
  | _=>cases h
 | .tp ts,e,h,j,hj=>by
  induction e using zE with
  | Tuple es k pos=>have h0:(G.cm&&gG G ts es)=true:=h;exact l9 ts es (Bool.and_eq_true_iff.mp h0).2 j hj
  | _=>cases h
theorem l9 {G:Gm}:∀ (ts:List Tg) (es:List Expr),gG G ts es=true->∀ j∈lZ ts,G.io≠some j
 | [],_,_,j,hj=>by cases hj
 | t::ts,[],h,_,_=>by cases h
 | t::ts,e::es,h,j,hj=>by
  have h':(notStar e&&eF G t e&&gG G ts es)=true:=h;simp only[Bool.and_eq_true] at h';rcases List.mem_append.mp (show j∈tgs t++lZ ts from hj) with hj|hj
  ·exact gf t e h'.1.2 j hj
  ·exact l9 ts es h'.2 j hj
end
def SlA (K:PySem.W.Frag)(S:Addr->Prop)(H:Hp)(σ:St)(τ:Ev):Prop:=τ.length=σ.length/\∀ i d,bS τ i=some d->∃ v,σ[i]? = some (some v)/\HRep K S H v d
theorem pW {τ:Ev}{i j:Nat}{o:Option D}:bS (τ.set i o) j=if i=j/\i < τ.length then o else bS τ j:=by
 unfold bS;rw[List.getElem?_set];by_cases h:i=j
 ·subst h;by_cases h2:i < τ.length
  ·simp[h2]
  ·rw[if_pos rfl,if_neg h2,if_neg (by omega)];rw[List.getElem?_eq_none (by omega)]
 ·rw[if_neg h,if_neg (by omega)]
section
variable {K:PySem.W.Frag}{S:Addr->Prop}{H:Hp}{ex:EX->Prop}
mutual
theorem oy:∀ (t:Tg) {σ:St}{τ:Ev}{v:V}{d:D}{Kt:Ev->Prop}{Q:St->Hp->Prop},SlA K S H σ τ->HRep K S H v d->PO' ex (dZ t d τ) Kt->
  (∀ τ' σ',SlA K S H σ' τ'->σ'.length=σ.length->(∀ j,j∉tgs t->σ'[j]? = σ[j]?)->Kt τ'->Q σ' H)->gT K t v σ H Q
 | .nm i,σ,τ,v,d,Kt,Q,hs,m,h,k=>by
  refine k (τ.set i (some d)) (σ.set i (some v)) ⟨by rw[List.length_set,List.length_set,hs.1],fun j e z=>?_⟩ (by rw[List.length_set]) (fun j hj=>?_) h.ok
  ·rw[pW] at z;by_cases q:i=j/\i < τ.length
   ·rw[if_pos q] at z;obtain⟨rfl,q⟩:=q;cases z;exact⟨v,by rw[List.getElem?_set_self (by rw[<- hs.1];exact q)],m⟩
   ·rw[if_neg q] at z;obtain⟨w,h1,h2⟩:=hs.2 j e z;refine⟨w,?_,h2⟩;by_cases q2:i=j
    ·subst q2;exfalso;have:i < σ.length:=by have:=(List.getElem?_eq_some_iff.mp h1).1;exact this
     exact q ⟨rfl,by rw[hs.1];exact this⟩
    ·rw[List.getElem?_set_ne q2];exact h1
  ·have:i≠j:=fun z=>hj (by subst z;simp[tgs]);rw[List.getElem?_set_ne this]
 | .tp ts,σ,τ,v,d,Kt,Q,hs,m,h,k=>by
  induction d using zD with
  | tup ds=>obtain⟨a,xs,rfl,q,ms⟩:=m.tupR;obtain⟨g,h⟩:=PO'.grd h;have g':ds.length=ts.length:=of_decide_eq_true g;exact⟨a,xs,rfl,.inl q,by rw[ms.length,g'],jm ts hs ms h k⟩
  | lst o ds=>obtain⟨a,xs,rfl,q,ms⟩:=m.lstR;obtain⟨g,h⟩:=PO'.grd h;have g':ds.length=ts.length:=of_decide_eq_true g;exact⟨a,xs,rfl,.inr q,by rw[ms.length,g'],jm ts hs ms h k⟩
  | _=>exact h.no.elim
theorem jm:∀ (ts:List Tg) {σ:St}{τ:Ev}{vs:List V}{ds:List D}{Kt:Ev->Prop}{Q:St->Hp->Prop},SlA K S H σ τ->HReps K S H vs ds->PO' ex (gF ts ds τ) Kt->
  (∀ τ' σ',SlA K S H σ' τ'->σ'.length=σ.length->(∀ j,j∉lZ ts->σ'[j]? = σ[j]?)->Kt τ'->Q σ' H)->gTs K ts vs σ H Q
 | [],σ,τ,vs,ds,Kt,Q,hs,m,h,k=>by
  cases m with
  | nil=>exact⟨rfl,k τ σ hs rfl (fun _ _=>rfl) h.ok⟩
  | cons _ _=>exact h.no.elim
 | t::ts,σ,τ,vs,ds,Kt,Q,hs,m,h,k=>by
  cases m with
  | nil=>exact h.no.elim
  | cons m1 m2=>
   refine⟨_,_,rfl,oy t hs m1 (PO'.bnd h) fun τ' σ' hs' hn hk h'=>?_⟩;refine jm ts hs' m2 h' fun τ'' σ'' hs'' hn' hk' h''=>k τ'' σ'' hs'' (hn'.trans hn) (fun j hj=>?_) h'';have hj':j∉tgs t/\j∉lZ ts:=by constructor<;>(intro z;apply hj;simp[lZ,z])
   rw[hk' j hj'.2,hk j hj'.1]
end
end
section
variable {K:PySem.W.Frag}{S S':Addr->Prop}{H H':Hp}{J:It}{ds:List D}
theorem WS.step (hl:∀ a (u:LD),S a->Rd H a u.o->S' a/\Rd H' a u.o)(ht:∀ a xs,SqE K H a xs->SqE K H' a xs){k:Zp.Kq}{a:Addr}{xs:List V}(h:WS K S H k a xs):WS K S' H' k a xs:=by
 cases k with
 | l=>exact h.elim (fun z=>.inl (hl _ (.l _) z.1 z.2)) fun z=>.inr z
 | t=>exact ht _ (.inl _) h
theorem ma (ds:List D):(jb ds).length=ds.length:=by unfold jb;rw[List.length_zipWith,List.length_range,Nat.min_self]
theorem kb (ds:List D):(fE ds).length=ds.length:=by unfold fE;rw[List.length_zipWith,List.length_range,Nat.min_self]
theorem Wlk.step (hl:∀ a (u:LD),S a->Rd H a u.o->S' a/\Rd H' a u.o)(ht:∀ a xs,SqE K H a xs->SqE K H' a xs)(h:Wlk K S H J ds):Wlk K S' H' J ds:=by
 cases h with
 | lst h0 h1 h2=>exact .lst (hl _ (.l _) h0 h1).1 (hl _ (.l _) h0 h1).2 (h2.step hl ht)
 | lstK h1 h2=>exact .lstK h1 (h2.step hl ht)
 | tup h1 h2=>exact .tup (ht _ (.inl _) h1) (h2.step hl ht)
 | rng lo hi=>exact .rng lo hi
 | str x=>exact .str x
 | enm h1 h2=>exact .enm (h1.step hl ht) (h2.step hl ht)
 | enm1 h1 h2=>exact .enm1 (h1.step hl ht) (h2.step hl ht)
theorem Wlk.mono (h:Wlk K S H J ds)(hS:∀ a,S a->S' a)(e:cO H H'):Wlk K S' H' J ds:=h.step (fun a xs s r=>⟨hS a s,e.rd r⟩) fun a xs s=>e.seqT s
theorem jn (x:Str):(eM x).length=x.cps.size:=by unfold eM;simp
theorem jo (a b:Int):(e8 a b).length=(b - a).toNat:=by unfold e8;simp
theorem Wlk.stop (h:Wlk K S H J ds){i:Nat}(hi:ds.length=i):J.stop i H:=by
 cases h with
 | lst h0 h1 h2=>exact⟨_,.inl h1,by rw[h2.length];omega⟩
 | lstK h1 h2=>exact⟨_,h1.sq,by rw[h2.length];omega⟩
 | tup h1 h2=>exact⟨_,h1,by rw[h2.length];omega⟩
 | rng lo hi'=>rw[jo] at hi;exact Nat.le_of_eq hi
 | str x=>rw[jn] at hi;exact Nat.le_of_eq hi
 | enm h1 h2=>exact⟨_,h1.sq,by rw[ma] at hi;rw[h2.length];omega⟩
 | enm1 h1 h2=>exact⟨_,h1.sq,by rw[kb] at hi;rw[h2.length];exact hi⟩
theorem Wlk.go (h:Wlk K S H J ds){i:Nat}(hi:i < ds.length):J.go i H:=by
 cases h with
 | lst h0 h1 h2=>obtain⟨v,hv,_⟩:=h2.get (i:=i) (d:=ds[i]) (by simp[hi]);exact⟨_,v,.inl h1,hv⟩
 | lstK h1 h2=>obtain⟨v,hv,_⟩:=h2.get (i:=i) (d:=ds[i]) (by simp[hi]);exact⟨_,v,h1.sq,hv⟩
 | tup h1 h2=>obtain⟨v,hv,_⟩:=h2.get (i:=i) (d:=ds[i]) (by simp[hi]);exact⟨_,v,h1,hv⟩
 | rng lo hi'=>rw[jo] at hi;exact hi
 | str x=>rw[jn] at hi;exact hi
 | enm h1 h2=>
  rename_i ds'
  rw[ma] at hi;obtain⟨v,hv,_⟩:=h2.get (i:=i) (d:=ds'[i]) (by rw[List.getElem?_eq_getElem]);exact⟨_,v,h1.sq,hv⟩
 | enm1 h1 h2=>
  rename_i ds'
  rw[kb] at hi;obtain⟨v,hv,_⟩:=h2.get (i:=i) (d:=ds'[i]) (by rw[List.getElem?_eq_getElem]);exact⟨_,v,h1.sq,hv⟩
theorem Wlk.yld (h:Wlk K S H J ds){i:Nat}{x:V}{H2:Hp}(y:J.yld i H x H2){d:D}(hd:ds[i]? = some d):cO H H2/\HRep K S H2 x d:=by
 have fin:∀ {xs:List V},HReps K S H xs ds->xs[i]? = some x->HRep K S H x d:=fun m e=>by obtain⟨d',e',m'⟩:=m.getV e;rw[hd] at e';cases e';exact m'
 cases h with
 | lst h0 h1 h2=>obtain⟨e,y⟩:=y;subst e;exact⟨.refl _,fin h2 (y _ (.inl h1))⟩
 | lstK h1 h2=>obtain⟨e,y⟩:=y;subst e;exact⟨.refl _,fin h2 (y _ h1.sq)⟩
 | tup h1 h2=>obtain⟨e,y⟩:=y;subst e;exact⟨.refl _,fin h2 (y _ h1)⟩
 | enm h1 h2=>obtain⟨T,a,e1,hT,e2,hy⟩:=y;subst e1 e2;have y1:=hy _ h1.sq;obtain⟨d1,g1,m1⟩:=h2.getV y1;unfold jb at hd;have hlt:=(List.getElem?_eq_some_iff.mp g1).1;rw[List.getElem?_zipWith,g1,List.getElem?_range hlt] at hd;cases hd;have e:cO H (upd H T (.tup [.int i,a])):=.upd hT;exact⟨e,.tup (SqT.of cP) (.cons (.int _) (.cons (m1.mono (fun _ z=>z) e) .nil))⟩
 | enm1 h1 h2=>obtain⟨T,a,e1,hT,e2,hy⟩:=y;subst e1 e2;have y1:=hy _ h1.sq;obtain⟨d1,g1,m1⟩:=h2.getV y1;unfold fE at hd;have hlt:=(List.getElem?_eq_some_iff.mp g1).1;rw[List.getElem?_zipWith,g1,List.getElem?_range hlt] at hd;cases hd;have e:cO H (upd H T (.tup [.int ((i:Int)+1),a])):=.upd hT;exact⟨e,.tup (SqT.of cP) (.cons (.int _) (.cons (m1.mono (fun _ z=>z) e) .nil))⟩
 | rng lo hi'=>
  obtain⟨e1,e2⟩:=y;subst e1;refine⟨.refl _,?_⟩;subst e2;unfold e8 at hd;rw[List.getElem?_map] at hd;have hi:i < (hi' - lo).toNat:=by
   have:=(Option.map_eq_some_iff.mp hd)
   obtain⟨z,h1,_⟩:=this;have:=(List.getElem?_eq_some_iff.mp h1).1;simpa using this
  rw[List.getElem?_range hi] at hd;cases hd;exact .int _
 | str x=>
  obtain⟨e1,c,h1,e2⟩:=y;subst e1;refine⟨.refl _,?_⟩;subst e2;unfold eM at hd;rw[List.getElem?_map] at hd;have h2:x.cps.toList[i]? = some c:=by simpa using h1
  rw[h2] at hd;cases hd;exact .str _
end
section
variable {Z:Sg}{CX:CXT}{cl:Nat->List D->Res D}{xp:XK->Hp->EX->Prop}{X:Cx}{ex:EX->Prop}{G:Gm}{K:PySem.W.Frag}{S:Addr->Prop}{H H1:Hp}{σ:St}{τ:Ev}
theorem AX {is:List Nat}{f:Ev->Res (List D)}{Kt:List D->Prop}{R:It->Hp->Prop}(e:cO H H1)(hs:Slots K S H σ τ is)(h:PO' ex (f τ) Kt)(k:∀ ds J H2,cO H H2->cO H1 H2->Wlk K (nw S H) H2 J ds->Kt ds->R J H2):RI K ex is f σ H1 R:=
 ⟨nw S H,τ,hs.go e,h.mono fun x hx J H2 e2 m=>k x J H2 (e.trans e2) e2 (m.mono (j8 e) (.refl _)) hx⟩
theorem oz {tg:Expr}{pins:List (Addr×Obj)}{s:Shared}{a:Addr}{xs:List V}{R:It->Hp->Prop}(I:Inv X pins σ H s)(hq:SqL X.K H a xs)(q:R (Itl X.K a) H):wpAny (model X.prog X.w) X.A (pyIter (.ref a)) (PIE X pins σ tg R) X.xe s:=by
 obtain⟨its,rv,p,hz⟩:=I.list hq;refine wpAny_pyIter_list p.isList ?_;refine⟨s.heap.objs.size,[s.heap.objs.size],_,_,H,rfl,I.kept (t':=s.toks) fun b o e=>Heap.get?_push_of_some _ e,pq a _,⟨_,Heap.get?_push_size _ rfl,rfl,rfl⟩,fun b hb=>?_,q⟩;have e:b=s.heap.objs.size:=by simpa using hb
 subst e;exact I.fpOk (Nat.le_refl _) (I.hok.fresh (Nat.le_refl _))
theorem rj {tg:Expr}{pins:List (Addr×Obj)}{s:Shared}{a:Addr}{xs:List V}{R:It->Hp->Prop}(I:Inv X pins σ H s)(hq:SqT X.K H a xs)(q:R (Itt X.K a) H):wpAny (model X.prog X.w) X.A (pyIter (.ref a)) (PIE X pins σ tg R) X.xe s:=by
 obtain⟨its,rv,p,hz⟩:=I.tuple hq;refine wpAny_pyIter_tuple (show s.heap.IsTuple a its.toArray from p) ?_;refine⟨s.heap.objs.size,[s.heap.objs.size],_,_,H,rfl,I.kept (t':=s.toks) fun b o e=>Heap.get?_push_of_some _ e,mI a _,⟨_,Heap.get?_push_size _ rfl,rfl,rfl⟩,fun b hb=>?_,q⟩;have e:b=s.heap.objs.size:=by simpa using hb
 subst e;exact I.fpOk (Nat.le_refl _) (I.hok.fresh (Nat.le_refl _))
theorem AY {tg e:Expr}{va:List Nat}{fa:Ev->Res D}(ha:PE X e (RD X.K ex va fa)):PI X tg e (RI X.K ex va fun τ=>bnd (fa τ) ik):=by
 intro pins s σ H R I h;obtain⟨S,τ,hs,q⟩:=h;refine thn (ha pins s σ H (fun v H'=>∃ d,cO H H'/\HRep X.K (nw S H) H' v d/\_) I (di (.refl _) hs (PO'.bnd q) fun x v H1 e1 _ m1 q1=>⟨x,e1,m1,q1⟩)) fun v s1 ⟨x,H1,I1,r1,d,e1,m1,q1⟩=>?_
 induction d using zD with
 | lst o ds=>
  cases m1 with
  | lst h0 h1 h2=>cases r1;exact oz I1 (.inl h1) (q1.ok _ _ e1 (.lst h0 h1 h2))
  | lstK h1 h2=>cases r1;exact oz I1 h1.sq (q1.ok _ _ e1 (.lstK h1 h2))
 | tup ds=>obtain⟨a,xs,rfl,h1,h2⟩:=m1.tupR;cases r1;exact rj I1 h1 (q1.ok _ _ e1 (.tup h1 h2))
 | str z=>cases m1.strR;obtain⟨t,rfl⟩:=r1;obtain⟨_,q1⟩:=PO'.grd q1;exact yq I1 (q1.ok _ _ e1 (.str z))
 | _=>exact q1.no.elim
theorem yJ (g:GOk Z CX cl xp X ex G){tg e:Expr}{p pos:Pos}{va:List Nat}{fa:Ev->Res D}(hg:G.gl.contains 15=true)(hn:notStar e=true)(ha:PE X e (RD X.K ex va fa)) :
  PI X tg (.Call (.Name "range" p) [e] [] pos) (RI X.K ex va fun τ=>bnd (fa τ) fun|.int i=>grd (dU i) (.ok (e8 0 i))|_=>stk):=by
 obtain⟨k1,k2,_,_⟩:=fC g (show dz[15]? = some ("range" : Str) from rfl) hg;refine iY (jL k1 k2 (dG ha eU (cE hn _ _)) (cE hn _ _)) fun σ H Q ⟨S,τ,hs,q⟩=>?_;refine di (.refl _) hs (PO'.bnd q) fun x v H1 e1 _ m1 q1=>?_
 induction x using zD with
 | int i=>cases m1.intR;obtain⟨gd,q1⟩:=PO'.grd q1;have gd' : -(2 ^ 62)<=i/\i < 2 ^ 62:=of_decide_eq_true gd;refine⟨i,rfl,gd'.1,gd'.2,?_⟩;have:=q1.ok _ _ e1 (.rng 0 i);rw[Int.sub_zero] at this;exact this
 | _=>exact q1.no.elim
theorem yL (g:GOk Z CX cl xp X ex G){tg e e':Expr}{p pos:Pos}{va vb:List Nat}{fa fb:Ev->Res D}(hg:G.gl.contains 15=true)(hn:notStar e=true)(hn':notStar e'=true)(ha:PE X e (RD X.K ex va fa))(hb:PE X e' (RD X.K ex vb fb)) :
  PI X tg (.Call (.Name "range" p) [e,e'] [] pos) (RI X.K ex (va++vb) fun τ=>bnd (fa τ) fun x=>bnd (fb τ) fun y=>match x,y with|.int i,.int j=>grd (dU i&&dU j) (.ok (e8 i j))|_,_=>stk):=by
 obtain⟨k1,k2,_,_⟩:=fC g (show dz[15]? = some ("range" : Str) from rfl) hg;refine iY (jM k1 k2 (dG ha (dG hb eU (cE hn' _ _)) (cE hn _ _)) (by rw[cE hn,cE hn'];rfl) (cE hn' _ _)) fun σ H Q ⟨S,τ,hs,q⟩=>?_;refine di (.refl _) hs.left (PO'.bnd q) fun x v H1 e1 _ m1 q1=>?_;refine di e1 hs.right (PO'.bnd q1) fun y w H2 e2 e2' m2 q2=>?_
 induction x using zD with
 | int i=>
  induction y using zD with
  | int j=>cases m1.intR;cases m2.intR;obtain⟨gd,q2⟩:=PO'.grd q2;rw[Bool.and_eq_true] at gd;have g1 : -(2 ^ 62)<=i/\i < 2 ^ 62:=of_decide_eq_true gd.1;have g2 : -(2 ^ 62)<=j/\j < 2 ^ 62:=of_decide_eq_true gd.2;exact⟨i,j,rfl,⟨g1.1,g1.2,g2.1,g2.2⟩,q2.ok _ _ e2 (.rng i j)⟩
  | _=>exact q2.no.elim
 | _=>induction y using zD<;>exact q2.no.elim
theorem AZ (g:GOk Z CX cl xp X ex G){es:List Expr}{c:Nat}{tp:Pos}{e:Expr}{p pos:Pos}{va:List Nat}{fa:Ev->Res D}(hg:G.gl.contains 20=true)(hn:notStar e=true)(ha:PE X e (RD X.K ex va fa)) :
  PI X (.Tuple es c tp) (.Call (.Name "enumerate" p) [e] [] pos) (RI X.K ex va fun τ=>bnd (fa τ) uC):=by
 obtain⟨k1,k2,_,_⟩:=fC g (show dz[20]? = some ("enumerate" : Str) from rfl) hg;refine iY (uw k1 k2 (dG ha eU (cE hn _ _)) (cE hn _ _)) fun σ H Q ⟨S,τ,hs,q⟩=>?_;refine di (.refl _) hs (PO'.bnd q) fun x v H1 e1 _ m1 q1=>?_
 induction x using zD with
 | lst o ds=>
  cases m1 with
  | lst h0 h1 h2=>exact⟨_,_,rfl,.inl h1,(show PO' ex (.ok (jb ds)) _ from q1).ok _ _ e1 (.enm (.inl ⟨h0,h1⟩) h2)⟩
  | lstK h1 h2=>exact⟨_,_,rfl,h1.sq,(show PO' ex (.ok (jb ds)) _ from q1).ok _ _ e1 (.enm (.inr h1) h2)⟩
 | _=>exact q1.no.elim
theorem fM {env:Env}{x:Str}:∀ (names:List (Str×NameKind)),
  (names.map fun (n,k)=>if (k == NameKind.free&&env.scope.kind == .function&&env.kindOf n == some .cell) then (n,NameKind.cell) else (n,k)).lookup x =
   (names.lookup x).map fun k=>if (k == NameKind.free&&env.scope.kind == .function&&env.kindOf x == some .cell) then NameKind.cell else k
 | []=>rfl
 | (n,k)::r=>by
  have ih:=fM (env:=env) (x:=x) r;rw[List.map_cons];show List.lookup x ((if (k == NameKind.free&&env.scope.kind == .function&&env.kindOf n == some .cell)=true then (n,NameKind.cell) else (n,k))::_)=_;by_cases hc:(k == NameKind.free&&env.scope.kind == .function&&env.kindOf n == some .cell)=true
  ·rw[if_pos hc,List.lookup_cons,List.lookup_cons];cases hx:x == n with
   | true=>have e:x=n:=eq_of_beq hx;subst e;show some NameKind.cell=some (if _ then _ else _);rw[if_pos hc]
   | false=>exact ih
  ·rw[if_neg hc,List.lookup_cons,List.lookup_cons];cases hx:x == n with
   | true=>have e:x=n:=eq_of_beq hx;subst e;show some k=some (if _ then _ else _);rw[if_neg hc]
   | false=>exact ih
theorem nq {scope:Scope}{env:Env}(h:∀ y∈scope.names,y.2=.free->∃ c,env.cells.lookup y.1=some c) :
  ∃ cl',closureFor scope env=pure cl'/\(∀ x c,cl'.lookup x=some c->env.cells.lookup x=some c)/\∀ y∈scope.names,y.2=.free->∃ c,cl'.lookup y.1=some c:=by
 have key:∀ (names:List (Str×NameKind)) (acc:List (Str×Addr)),(∀ y∈names,y.2=.free->∃ c,env.cells.lookup y.1=some c)->(∀ x c,acc.lookup x=some c->env.cells.lookup x=some c)->
   ∃ cl',(forIn names acc fun (p:Str×NameKind) (r:List (Str×Addr))=>(if (p.2 == NameKind.free)=true then do let a <- cellOf env p.1;pure (ForInStep.yield ((p.1,a)::r)) else pure (ForInStep.yield r):Sem (ForInStep (List (Str×Addr)))))=pure cl'/\(∀ x c,cl'.lookup x=some c->env.cells.lookup x=some c)/\
    (∀ y∈names,y.2=.free->∃ c,cl'.lookup y.1=some c)/\∀ x c,acc.lookup x=some c->∃ c',cl'.lookup x=some c':=by
  intro names
  induction names with
  | nil=>intro acc _ h2;exact⟨acc,rfl,h2,fun y hy=>absurd hy (by simp),fun x c e=>⟨c,e⟩⟩
  | cons p names ih=>
   intro acc h1 h2;rw[List.forIn_cons];by_cases hp:p.2=.free
   ·obtain⟨c,hc⟩:=h1 p (by simp) hp;have hb:(p.2 == NameKind.free)=true:=by rw[hp];rfl
    have h2':∀ x c',((p.1,c)::acc).lookup x=some c'->env.cells.lookup x=some c':=by
     intro x c' e;rw[List.lookup_cons] at e;cases hx:x == p.1 with
     | true=>rw[hx] at e;cases e;rw[eq_of_beq hx];exact hc
     | false=>rw[hx] at e;exact h2 x c' e
    obtain⟨cl',e1,e2,e3,e4⟩:=ih ((p.1,c)::acc) (fun y hy=>h1 y (List.mem_cons_of_mem _ hy)) h2';refine⟨cl',?_,e2,fun y hy hf=>?_,fun x c' e=>?_⟩
    ·rw[if_pos hb];have:cellOf env p.1=pure c:=by unfold cellOf;rw[hc]
     rw[this];exact e1
    ·rcases List.mem_cons.mp hy with rfl|hy
     ·exact e4 y.1 c (by rw[List.lookup_cons];simp)
     ·exact e3 y hy hf
    ·rcases hx:x == p.1 with _|_
     ·exact e4 x c' (by rw[List.lookup_cons,hx];exact e)
     ·exact e4 x c (by rw[List.lookup_cons,hx])
   ·have hb:¬ (p.2 == NameKind.free)=true:=fun z=>hp (eq_of_beq z);obtain⟨cl',e1,e2,e3,e4⟩:=ih acc (fun y hy=>h1 y (List.mem_cons_of_mem _ hy)) h2;refine⟨cl',?_,e2,fun y hy hf=>?_,e4⟩
    ·rw[if_neg hb];exact e1
    ·rcases List.mem_cons.mp hy with rfl|hy
     ·exact absurd hf hp
     ·exact e3 y hy hf
 obtain⟨cl',e1,e2,e3,_⟩:=key scope.names [] h (fun x c e=>by cases e);refine⟨cl',?_,e2,e3⟩;unfold closureFor;exact congrArg (fun (m:Sem (List (Str×Addr)))=>m >>= fun r=>pure r) e1
structure ScOk (Z:Sg)(G:Gm)(scope:Scope)(G':Gm)(fr:List Nat):Prop where
 cm:G.cm=true
 kind:scope.kind=.function
 tr:G'.tr=false
 df:G'.df=false
 kdl:G'.kd.length=G'.N.length
 nocell:∀ y∈scope.names,y.2≠.cell
 loc:∀ y∈scope.names,y.2=.local->scope.names.lookup y.1=some .local
 fre:∀ y∈scope.names,y.2=.free->∃ i:Nat,G.N[i]? = some y.1/\(G.kd[i]? = some .cell∨G.kd[i]? = some .free)
 frs:∀ (j:Nat) (i:Nat),fr[j]? = some i->∃ x,G.N[i]? = some x/\G'.N[j]? = some x/\scope.names.lookup x=some .free/\(G.kd[i]? = some .cell∨G.kd[i]? = some .free)/\G'.kd[j]? = some (if (G.kd[i]? == some .cell)=true then .cell else .free)
 fle:fr.length<=G'.N.length
 tgs:∀ (j:Nat) (x:Str),fr.length<=j->G'.N[j]? = some x->scope.names.lookup x=some .local/\G'.kd[j]? = some .local
 noD:∀ x∈G'.N,(x == ("__debug__" : Str))=false/\(x == ("__classdict__" : Str))=false
 nod:G'.N.Nodup
 gl:∀ n∈G'.gl,∃ x,Z.name n=some x/\scope.names.lookup x=some .globalImplicit
theorem kK {Z:Sg}{G:Gm}{scope:Scope}{G':Gm}{fr:List Nat}(h:eA Z G scope G' fr=true):ScOk Z G scope G' fr:=by
 unfold eA at h;simp only[Bool.and_eq_true] at h;obtain⟨⟨⟨⟨⟨⟨⟨⟨⟨⟨⟨⟨⟨h0,h1⟩,h1'⟩,h2⟩,h3⟩,h4⟩,h5⟩,h6⟩,h7⟩,h8⟩,h9⟩,h10⟩,h11⟩,h12⟩:=h;rw[List.all_eq_true] at h4 h5 h6 h7 h9 h10 h12;refine⟨h0,eq_of_beq h1,by simpa using h1',by simpa using h2,eq_of_beq h3,fun y hy=>by simpa using h4 y hy,fun y hy e=>?_,fun y hy e=>?_,fun j i e=>?_,of_decide_eq_true h8,fun j x hj e=>?_,fun x hx=>by simpa using h10 x hx,of_decide_eq_true h11,fun n hn=>?_⟩
 ·have:=h5 y hy;rw[e] at this;simpa using this
 ·have:=h6 y hy;rw[e] at this;simp only[bne_self_eq_false,Bool.false_or,List.any_eq_true,Bool.and_eq_true,Bool.or_eq_true] at this;obtain⟨i,_,hi,hk⟩:=this;exact⟨i,eq_of_beq hi,hk.elim (fun z=>.inl (eq_of_beq z)) fun z=>.inr (eq_of_beq z)⟩
 ·have hj:j < fr.length:=(List.getElem?_eq_some_iff.mp e).1;have:=h7 j (List.mem_range.mpr hj);simp only[e,Option.bind_some,Bool.and_eq_true,Bool.or_eq_true] at this;obtain⟨⟨⟨a1,a2⟩,a3⟩,a4⟩:=this;have a1':=eq_of_beq a1;have a2':=eq_of_beq a2;cases q:G'.N[j]? with
  | none=>rw[q] at a2';cases a2'
  | some x=>rw[q] at a2' a1';exact⟨x,a1'.symm,rfl,a2',a3.elim (fun z=>.inl (eq_of_beq z)) fun z=>.inr (eq_of_beq z),eq_of_beq a4⟩
 ·have hlt:j < G'.N.length:=(List.getElem?_eq_some_iff.mp e).1;have hm:j∈(List.range G'.N.length).drop fr.length:=by rw[List.mem_drop_iff_getElem];exact⟨j - fr.length,by simp;omega,by simp;omega⟩
  have:=h9 j hm;rw[e] at this;simp only[Option.bind_some,Bool.and_eq_true] at this;exact⟨eq_of_beq this.1,eq_of_beq this.2⟩
 ·have:=h12 n hn;cases q:Z.name n with
  | none=>rw[q] at this;cases this
  | some x=>rw[q] at this;exact⟨x,rfl,eq_of_beq this⟩
noncomputable def frN (G:Gm)(fr:List Nat):List (Str×Nat):=fr.map fun i=>(G.N.getD i "",i)
theorem A0 {scope:Scope}{G':Gm}{fr:List Nat}(s:ScOk Z G scope G' fr):(frN G fr).map (·.1)++G'.N.drop fr.length=G'.N:=by
 have e:(frN G fr).map (·.1)=G'.N.take fr.length:=by
  apply List.ext_getElem?;intro j;unfold frN;rw[List.map_map,List.getElem?_map,List.getElem?_take];cases q:fr[j]? with
  | none=>
   have:¬ j < fr.length:=by intro z;rw[List.getElem?_eq_getElem z] at q;cases q
   rw[if_neg this];rfl
  | some i=>have:j < fr.length:=(List.getElem?_eq_some_iff.mp q).1;rw[if_pos this];obtain⟨x,h1,h2,_⟩:=s.frs j i q;rw[h2];show some (G.N.getD i "")=some x;rw[List.getD_eq_getElem?_getD,h1];rfl
 rw[e,List.take_append_drop]
theorem iy (g:GOk Z CX cl xp X ex G)(ok:X.Ok){scope:Scope}{G':Gm}{fr:List Nat}(s:ScOk Z G scope G' fr):∃ cl',CompSc X scope cl' (frN G fr) (G'.N.drop fr.length):=by
 have hfree:∀ y∈scope.names,y.2=.free->∃ c,X.env.cells.lookup y.1=some c:=fun y hy hf=>by obtain⟨i,h1,h2⟩:=s.fre y hy hf;have hk:=g.kd i y.1 h1;exact ok.has y.1 (h2.elim (fun z=>.inl (hk.trans z)) fun z=>.inr (hk.trans z))
 obtain⟨cl',e1,e2,e3⟩:=nq hfree;refine⟨cl',e1,s.kind,s.nocell,s.loc,e2,fun x hx=>?_,fun p hp=>?_⟩
 ·have hl:=fM (env:=X.env) (x:=x) scope.names;have hx':((scope.names.lookup x).map fun k=>if (k == NameKind.free&&X.env.scope.kind == .function&&X.env.kindOf x == some .cell)=true then NameKind.cell else k)=some .cell∨
    ((scope.names.lookup x).map fun k=>if (k == NameKind.free&&X.env.scope.kind == .function&&X.env.kindOf x == some .cell)=true then NameKind.cell else k)=some .free:=by
   rcases hx with hx|hx
   ·exact .inl (hl.symm.trans hx)
   ·exact .inr (hl.symm.trans hx)
  cases q:scope.names.lookup x with
  | none=>rw[q] at hx';rcases hx' with z|z<;>cases z
  | some k=>
   have hm:(x,k)∈scope.names:=PySem.mem_of_lookup q;have hk:k=.free:=by
    rw[q] at hx';rcases hx' with z|z
    ·have z':(if (k == NameKind.free&&X.env.scope.kind == .function&&X.env.kindOf x == some .cell)=true then NameKind.cell else k)=.cell:=Option.some.inj z;split at z'
     ·rename_i hc
      simp only[Bool.and_eq_true] at hc;exact eq_of_beq hc.1.1
     ·exact absurd z' (s.nocell _ hm)
    ·have z':(if (k == NameKind.free&&X.env.scope.kind == .function&&X.env.kindOf x == some .cell)=true then NameKind.cell else k)=.free:=Option.some.inj z;split at z'
     ·cases z'
     ·exact z'
   exact e3 (x,k) hm hk
 ·unfold frN at hp;rw[List.mem_map] at hp;obtain⟨i,hi,rfl⟩:=hp;obtain⟨j,hj⟩:=List.getElem?_of_mem hi;obtain⟨x,h1,h2,h3,h4,h5⟩:=s.frs j i hj;have hn:G.N.getD i "" = x:=by rw[List.getD_eq_getElem?_getD,h1];rfl
  show X.N[i]? = some (G.N.getD i "")/\_;rw[hn];have hk:=g.kd i x h1;refine⟨by rw[g.N];exact h1,h4.elim (fun z=>.inl (hk.trans z)) fun z=>.inr (hk.trans z),?_⟩;have hl:=fM (env:=X.env) (x:=x) scope.names;rw[h3] at hl;have hl':(relabel scope X.env).names.lookup x=some (if (NameKind.free == NameKind.free&&X.env.scope.kind == .function&&X.env.kindOf x == some .cell)=true then NameKind.cell else NameKind.free):=hl;rw[hl'];split
  ·exact .inl rfl
  ·exact .inr rfl
theorem eC (g:GOk Z CX cl xp X ex G){scope:Scope}{G':Gm}{fr:List Nat}(s:ScOk Z G scope G' fr)(cl':List (Str×Addr))(C:Addr)(s3:Shared)(H3:Hp)(fp:List Addr) :
  GOk Z CX cl xp (cxC X scope cl' ((frN G fr).map (·.1)++G'.N.drop fr.length) C s3 H3 fp) (fun _=>False) G' where
 N:=A0 s
 nod:=s.nod
 calm:=fun _=>g.calm s.cm
 fk:=s.kind
 un:=g.un
 own:=fun _=>PassesOwn.never
 kd:=fun j x hx=>by
  show (relabel scope X.env).names.lookup x=_;have hl:=fM (env:=X.env) (x:=x) scope.names;by_cases hj:j < fr.length
  ·obtain⟨y,h1,h2,h3,h4,h5⟩:=s.frs j fr[j] (by simp[hj]);rw[hx] at h2;cases h2;rw[h3] at hl;rw[h5];refine hl.trans ?_;have hk:=g.kd fr[j] x h1;show some (if (NameKind.free == NameKind.free&&X.env.scope.kind == .function&&X.env.kindOf x == some .cell)=true then NameKind.cell else NameKind.free)=_;rw[hk,g.fk];rfl
  ·obtain⟨h1,h2⟩:=s.tgs j x (by omega) hx;rw[h1] at hl;rw[h2];exact hl
 noD:=fun j x hx=>s.noD x (List.mem_of_getElem? hx)
 gl:=fun n hn x e=>by obtain⟨y,h1,h2⟩:=s.gl n hn;rw[e] at h1;cases h1;show (relabel scope X.env).names.lookup x=_;have hl:=fM (env:=X.env) (x:=x) scope.names;rw[h2] at hl;exact hl
 nam:=g.nam
 df:=fun z=>by rw[s.df] at z;cases z
 blt:=g.blt
 cst:=g.cst
 fns:=fun f hf _ x hx=>g.fns f hf (.inl s.cm) x hx
 fio:=fun f c m h _=>g.fio f c m h s.cm
 fmt:=fun f c m h _=>g.fmt f c m h s.cm
 fmk:=fun n c f x h _ hx=>g.fmk n c f x h s.cm hx
 ocl:=g.ocl
 exs:=⟨fun _ _ _=>False,fun pins σ H s e s' _ h=>(g.exn _ _ _ _ _ h).elim,fun c _ z=>z.elim⟩
 hid:=g.hid
 exn:=g.exn
end
abbrev nox:EX->Prop:=fun _=>False
theorem PO'.noX {α:Type}{ex:EX->Prop}{x:Res α}{k:α->Prop}(h:PO' ex (L2.noX x) k):PO' nox x k:=by
 cases x with
 | ok a=>exact h
 | error e=>exact False.elim h
section
variable {K:PySem.W.Frag}{S:Addr->Prop}{H:Hp}{σ:St}{τ:Ev}{ex:EX->Prop}{cl:Nat->List D->Res D}{G G':Gm}{fr:List Nat}
noncomputable def blk (G':Gm)(fr:List Nat)(τ:Ev):Ev:=fr.map (bS τ)++List.replicate (G'.N.length - fr.length) none
theorem uO (hl:fr.length<=G'.N.length):(blk G' fr τ).length=G'.N.length:=by unfold blk;rw[List.length_append,List.length_map,List.length_replicate];omega
theorem uP (Tg:List Str)(σ:St):(stC (frN G fr) Tg σ).length=fr.length+Tg.length:=by unfold stC frN;rw[List.length_append,List.length_map,List.length_map,List.length_replicate]
theorem rk {j:Nat}{d:D}(h:bS (blk G' fr τ) j=some d):∃ i,fr[j]? = some i/\bS τ i=some d:=by
 unfold bS blk at h;by_cases hj:j < fr.length
 ·rw[List.getElem?_append_left (by simpa using hj),List.getElem?_map,List.getElem?_eq_getElem hj] at h;exact⟨fr[j],by simp[hj],h⟩
 ·rw[List.getElem?_append_right (by simpa using hj),List.getElem?_replicate] at h;split at h<;>cases h
theorem uQ {vs:List Nat}{σ':St}(hl:fr.length<=G'.N.length)(hs:Slots K S H σ τ (fr++vs))(hn:σ'.length=G'.N.length)(hσ:∀ j,j < fr.length->σ'[j]? = (stC (frN G fr) (G'.N.drop fr.length) σ)[j]?):SlA K S H σ' (blk G' fr τ):=by refine⟨by rw[uO hl,hn],fun j d h=>?_⟩;obtain⟨i,hi,hd⟩:=rk h;have hj:j < fr.length:=(List.getElem?_eq_some_iff.mp hi).1;obtain⟨v,h1,h2⟩:=hs i (List.mem_append_left _ (List.mem_of_getElem? hi)) d hd;refine⟨v,?_,h2⟩;rw[hσ j hj];unfold stC frN;rw[List.getElem?_append_left (by simpa using hj),List.getElem?_map,List.getElem?_map,hi];show some ((σ[i]?).join)=some (some v);rw[h1];rfl
noncomputable def dY (cl:Nat->List D->Res D)(T:Tg)(I:List IR)(E:IR)(τ0:Ev)(x:D):Res (Option D):=bnd (dZ T x τ0) fun τ1=>bnd (gL cl I τ1) fun r=>if r=true then bnd (evR cl E τ1) fun d=>.ok (some d) else .ok none
theorem fN {vs:List Nat}{fs:Ev->Res (List D)}{T:Tg}{I:List IR}{E:IR}{Kt:D->Prop}{Q:VK}(hl:fr.length<=G'.N.length)(ha:∀ i∈tgs T,fr.length<=i)(hs:Slots K S H σ τ (fr++vs))
  (q:PO' ex (bnd (fs τ) fun its=>grd (gm its.length) (bnd (noX (dv (dY cl T I E (blk G' fr τ)) its)) fun ds=>.ok (.lst true ds))) Kt)
  (fin:∀ A ys ds H',cO H H'->H A=none->H' A=some (.lst ys)->HReps K (fun a=>nw S H a/\a≠A) H' ys ds->Kt (.lst true ds)->Q (.ref A) H') :
  qB (RI K ex vs fs) (stC (frN G fr) (G'.N.drop fr.length)) (gT K T) (RT K nox (cF I) (gL cl I)) (RD K nox (vars E) (evR cl E)) σ H Q:=by
 refine AX (.refl _) hs.right (PO'.bnd q) fun its J H1 e1 _ w1 q1 A hA=>?_;obtain⟨gd,q1⟩:=PO'.grd q1;have q2:=PO'.noX (PO'.bnd q1);have hsz:=kC gd;have hHA:H A=none:=e1.free hA
 -- what is read stands apart from the new list
 have tight:∀ a,nw S H a->H1 a≠none->nw S H a/\a≠A:=fun a h1 h2=>⟨h1,fun z=>h2 (by rw[z];exact hA)⟩
 have w2:Wlk K (fun a=>nw S H a/\a≠A) H1 J its:=w1.step (fun a xs h r=>⟨tight a h r.some,r⟩) fun a xs h=>h;have hs2:Slots K (fun a=>nw S H a/\a≠A) H1 σ τ (fr++vs):=fun i hi d z=>by obtain⟨v,h1,h2⟩:=(hs.go e1) i hi d z;exact⟨v,h1,h2.step (fun a xs h r=>⟨tight a h r.some,r⟩) fun a xs h=>h⟩
 refine⟨fun i m σ' H'=>m=its.length - i/\i<=its.length/\∃ ys acc,H' A=some (.lst ys)/\HReps K (fun a=>nw S H a/\a≠A) H' ys acc/\ys.length<=i/\cO H1 H'/\σ'.length=G'.N.length/\
   (∀ j,j < fr.length->σ'[j]? = (stC (frN G fr) (G'.N.drop fr.length) σ)[j]?)/\PO' nox (dv (dY cl T I E (blk G' fr τ)) (its.drop i)) fun ds=>Kt (.lst true (acc++ds)),⟨its.length,by simp,Nat.zero_le _,[],[],cP,.nil,Nat.le_refl _,.upd hA,?_,fun _ _=>rfl,?_⟩,?_⟩
 ·rw[uP,List.length_drop];omega
 ·rw[List.drop_zero];exact q2.mono fun ds z=>z.ok
 ·rintro i m σ' H' ⟨rfl,hi,ys,acc,hy,my,ly,e2,hn,hσ,q3⟩;by_cases hlt:i < its.length
  ·refine .inr ⟨(w2.mono (fun _ z=>z) e2).go hlt,fun x H2 hy2=>?_⟩;obtain⟨eH,mx⟩:=(w2.mono (fun _ z=>z) e2).yld hy2 (d:=its[i]) (by simp[hlt]);have hy:=eH _ _ hy;have my:=my.mono (fun _ z=>z) eH;have e2:=e2.trans eH;have hd:its.drop i=its[i]::its.drop (i+1):=List.drop_eq_getElem_cons hlt;rw[hd] at q3;have q4:=PO'.bnd q3;have q5:PO' nox (dZ T its[i] (blk G' fr τ)) _:=PO'.bnd q4
   have sl:SlA K (fun a=>nw S H a/\a≠A) H2 σ' (blk G' fr τ):=uQ (G:=G) (vs:=vs) (σ:=σ) hl (fun i hi d z=>by
    obtain⟨v,h1,h2⟩:=hs2 i hi d z
    exact⟨v,h1,h2.mono (fun _ z=>z) e2⟩) hn hσ
   refine oy T sl mx q5 fun τ' σ2 sl2 hn' hk q6=>?_;have hn2:σ2.length=G'.N.length:=hn'.trans hn;have hσ2:∀ j,j < fr.length->σ2[j]? = (stC (frN G fr) (G'.N.drop fr.length) σ)[j]?:=fun j hj=>by rw[hk j (fun z=>by have:=ha j z;omega)];exact hσ j hj
   have sl3:∀ is,Slots K (fun a=>nw S H a/\a≠A) H2 σ2 τ' is:=fun is i _ d z=>sl2.2 i d z;refine g4 (.refl _) (sl3 _) (PO'.bnd q6) fun r H4 e4 _ q7=>?_
   induction r using zB with
   | false=>rw[if_neg Bool.false_ne_true] at q7 ⊢;have q8:PO' nox (dv (dY cl T I E (blk G' fr τ)) (its.drop (i+1))) fun ds=>Kt (.lst true (acc++ds)):=q7;refine⟨its.length - (i+1),by omega,rfl,hlt,ys,acc,e4 _ _ hy,my.mono (fun _ z=>z) e4,by omega,e2.trans e4,hn2,hσ2,q8⟩
   | true=>
    rw[if_pos rfl] at q7 ⊢;refine di e4 (sl3 _) (PO'.bnd q7) fun d v H5 e5 e5' m5 q8=>?_;have q9:PO' nox (bnd (dv (dY cl T I E (blk G' fr τ)) (its.drop (i+1))) fun r=>.ok (d::r)) fun ds=>Kt (.lst true (acc++ds)):=q8;have q10:=PO'.bnd q9;have hy5:H5 A=some (.lst ys):=e5 _ _ hy;refine⟨ys,hy5,by omega,its.length - (i+1),by omega,rfl,hlt,ys++[v],acc++[d],cP,?_,by rw[List.length_append,List.length_singleton];omega,?_,hn2,hσ2,?_⟩
    ·have hl5:∀ a (xs:LD),(nw S H a/\a≠A)->Rd H5 a xs.o->(nw S H a/\a≠A)/\Rd (upd H5 A (.lst (ys++[v]))) a xs.o:=fun a xs h r=>by refine⟨h,?_⟩;unfold Rd;rw[cG h.2];exact r
     have ht5:∀ a xs,SqE K H5 a xs->SqE K (upd H5 A (.lst (ys++[v]))) a xs:=fun a xs h=>h.upd hy5
     have m6:HRep K (fun a=>nw S H a/\a≠A) H5 v d:=m5.step (fun a xs h r=>⟨by
      rcases h with h|h
      ·exact h
      ·have:H a=none:=e1.free (e2.free h)
       exact⟨.inr this,fun z=>by rw[z,hy] at h;cases h⟩,r⟩) fun a xs h=>h
     exact(((my.mono (fun _ z=>z) e5).step hl5 ht5)).append (.cons (m6.step hl5 ht5) .nil)
    ·exact fun b o hb=>by
      have:b≠A:=by rintro rfl;rw[hA] at hb;cases hb
      rw[cG this];exact e5 _ _ (e2 _ _ hb)
    ·refine q10.mono fun ds z=>?_;have z':=z.ok;rw[List.append_assoc];exact z'
  ·have e:i=its.length:=by omega
   subst e;refine .inl ⟨(w2.mono (fun _ z=>z) e2).stop rfl,?_⟩;rw[List.drop_length] at q3;have q4:=q3.ok;rw[List.append_nil] at q4;exact fin A ys acc H' (e1.trans e2) hHA hy my q4
end
section
variable {Z:Sg}{CX:CXT}{cl:Nat->List D->Res D}{xp:XK->Hp->EX->Prop}{X:Cx}{ex:EX->Prop}{G G':Gm}{fr:List Nat}
theorem jq {T:Tg}{s:Sr}{I:List IR}{E:IR}:evR cl (.comp G' fr T s I E)=fun τ=>bnd (fX cl s τ) fun its=>grd (gm its.length) (bnd (noX (dv (dY cl T I E (blk G' fr τ)) its)) fun ds=>.ok (.lst true ds)):=rfl
theorem yM (g:GOk Z CX cl xp X ex G){scope:Scope}{tg iter elt:Expr}{ifs:List Expr}{pos:Pos}{T:Tg}{s:Sr}{I:List IR}{E:IR}(hs:ScOk Z G scope G' fr)(hT:eF G' T tg=true)(ha:∀ i∈tgs T,fr.length<=i)
  (hi:PI X tg iter (RI X.K ex (gW s) (fX cl s))) (ht:∀ X',GOk Z CX cl xp X' nox G'->PTs X' ifs (RT X'.K nox (cF I) (gL cl I))) (he:∀ X',GOk Z CX cl xp X' nox G'->PE X' elt (RD X'.K nox (vars E) (evR cl E)))
  (hf:∀ x,foldedSetIterable iter X.env x=pure x):PE X (.ListComp elt [⟨tg,iter,ifs,0⟩] scope pos) (RD X.K ex (fr++gW s) (evR cl (.comp G' fr T s I E))):=by
 intro pins s' σ H Q Iv h;obtain⟨cl',S⟩:=iy g Iv.ok hs;have p:=nR (pos:=pos) (elt:=elt) (ifs:=ifs) (tg:=tg) (g:=gT X.K T) (tt:=RT X.K nox (cF I) (gL cl I)) (te:=RD X.K nox (vars E) (evR cl E)) (g.calm hs.cm) S hi (fun C s H fp=>pgT (eC g hs cl' C s H fp) T tg hT) (fun C s H fp=>ht _ (eC g hs cl' C s H fp)) (fun C s H fp=>he _ (eC g hs cl' C s H fp)) hf;refine p pins s' σ H Q Iv ?_;obtain⟨S0,τ,hsl,q⟩:=h;rw[jq] at q;exact fN hs.fle ha hsl q fun A ys ds H' e hA hA' m k=>k _ _ e (.lst (.inr hA) (.inl hA') (m.mono (fun _ z=>z.1) (.refl _)))
end
section
variable {Z:Sg}{CX:CXT}{cl:Nat->List D->Res D}{xp:XK->Hp->EX->Prop}
theorem pX {e:Expr}{a:IR}{G:Gm}(h:chk Z G a e=true)(env:Env)(x:Value):foldedSetIterable e env x=pure x:=by
 induction e using zE<;>first|rfl|(induction a using zI<;>cases h)
theorem fD {e:Expr}{a:Sr}{G:Gm}(h:fF Z G a e=true)(env:Env)(x:Value):foldedSetIterable e env x=pure x:=by
 cases a with
 | val a=>exact pX (show chk Z G a e=true from h) env x
 | _=>induction e using zE<;>first|rfl|cases h
theorem both {X:Cx}{ex:EX->Prop}{e:Expr}{is:List Nat}{f:Ev->Res D}(h:PE X e (RD X.K ex is f))(he:∀ whole,isTrue e X.env whole=(do let v <- whole;standAt e.pos;holding [v] (truthy v)):=by intro _;rfl) :
  PE X e (RD X.K ex is f)/\PT X e (RT X.K ex is fun τ=>bnd (f τ) dg):=⟨h,AG h he⟩
mutual
theorem snd:∀ (a:IR) (X:Cx) (ex:EX->Prop) (G:Gm) (e:Expr),GOk Z CX cl xp X ex G->chk Z G a e=true->PE X e (RD X.K ex (vars a) (evR cl a))/\PT X e (RT X.K ex (vars a) fun τ=>bnd (evR cl a τ) dg)
 | .c d,X,ex,G,e,g,h=>by
  induction e using zE with
  | Constant k j pos=>exact both (s_c h)
  | _=>first|exact aY h|cases h
 | .g n d,X,ex,G,e,g,h=>by
  induction e using zE with
  | Name x pos=>have h':(gD Z G n x&&Z.kst.any fun p=>p.1 == n&&pT p.2 d)=true:=h;rw[Bool.and_eq_true] at h';exact both (s_g g h'.1 h'.2)
  | _=>first|exact aY h|cases h
 | .v i,X,ex,G,e,g,h=>by
  induction e using zE with
  | Name x pos=>exact both (s_v g h)
  | _=>first|exact aY h|cases h
 | .bin op a b,X,ex,G,e,g,h=>by
  induction e using zE with
  | BinOp l o r pos=>have h':(o == bop op&&chk Z G a l&&chk Z G b r)=true:=h;simp only[Bool.and_eq_true] at h';have e1:o=bop op:=eq_of_beq h'.1.1;subst e1;exact both (AH (snd a X ex G l g h'.1.2).1 (snd b X ex G r g h'.2).1)
  | _=>first|exact aY h|cases h
 | .neg a,X,ex,G,e,g,h=>by
  induction e using zE with
  | UnaryOp o l pos=>
   cases o with
   | USub=>exact both (AJ (snd a X ex G l g h).1)
   | _=>first|exact aY h|cases h
  | _=>first|exact aY h|cases h
 | .cmp op a b,X,ex,G,e,g,h=>by
  induction e using zE with
  | Compare l os rs pos=>
   match os,rs,h with
   | [o],[r],h=>have h':(o == cop op&&chk Z G a l&&chk Z G b r&&!behindInMarks o r)=true:=h;simp only[Bool.and_eq_true] at h';have e1:o=cop op:=eq_of_beq h'.1.1.1;subst e1;exact AK g (snd a X ex G l g h'.1.1.2).1 (snd b X ex G r g h'.1.2).1 (by simpa using h'.2)
   | [],_,h=>first|exact aY h|cases h
   | [_],[],h=>first|exact aY h|cases h
   | [_],_::_::_,h=>first|exact aY h|cases h
   | _::_::_,_,h=>first|exact aY h|cases h
  | _=>first|exact aY h|cases h
 | .chain op op' a b c,X,ex,G,e,g,h=>by
  induction e using zE with
  | Compare l os rs pos=>
   match os,rs,h with
   | [o,o'],[m,r],h=>have h':(o == cop op&&o' == cop op'&&chk Z G a l&&chk Z G b m&&chk Z G c r&&!lastMarks [o,o'] [m,r])=true:=h;simp only[Bool.and_eq_true] at h';have e1:o=cop op:=eq_of_beq h'.1.1.1.1.1;have e2:o'=cop op':=eq_of_beq h'.1.1.1.1.2;subst e1 e2;exact uM g (snd a X ex G l g h'.1.1.1.2).1 (snd b X ex G m g h'.1.1.2).1 (snd c X ex G r g h'.1.2).1 (by simpa using h'.2)
   | [],_,h=>first|exact aY h|cases h
   | [_],_,h=>first|exact aY h|cases h
   | [_,_],[],h=>first|exact aY h|cases h
   | [_,_],[_],h=>first|exact aY h|cases h
   | [_,_],_::_::_::_,h=>first|exact aY h|cases h
   | _::_::_::_,_,h=>first|exact aY h|cases h
  | _=>first|exact aY h|cases h
 | .and_ a b,X,ex,G,e,g,h=>by
  induction e using zE with
  | BoolOp o es pos=>
   match o,es,h with
   | .And,[l,r],h=>have h':(chk Z G a l&&chk Z G b r)=true:=h;rw[Bool.and_eq_true] at h';obtain⟨pa,ta⟩:=snd a X ex G l g h'.1;obtain⟨pb,tb⟩:=snd b X ex G r g h'.2;exact⟨vQ pa (qe pb),vR ta (tX tb)⟩
   | .And,l::r::r'::rest,h=>have h':(chk Z G a l&&chk Z G b (.BoolOp .And (r::r'::rest) pos))=true:=h;rw[Bool.and_eq_true] at h';obtain⟨pa,ta⟩:=snd a X ex G l g h'.1;obtain⟨pb,tb⟩:=snd b X ex G _ g h'.2;exact⟨vQ pa pb,vR ta (ra (e:=l) tb)⟩
   | .And,[],h=>first|exact aY h|cases h
   | .And,[_],h=>first|exact aY h|cases h
   | .Or,_,h=>first|exact aY h|cases h
  | _=>first|exact aY h|cases h
 | .or_ a b,X,ex,G,e,g,h=>by
  induction e using zE with
  | BoolOp o es pos=>
   match o,es,h with
   | .Or,[l,r],h=>have h':(chk Z G a l&&chk Z G b r)=true:=h;rw[Bool.and_eq_true] at h';obtain⟨pa,ta⟩:=snd a X ex G l g h'.1;obtain⟨pb,tb⟩:=snd b X ex G r g h'.2;exact⟨AL pa (qe pb),AN ta (xH tb)⟩
   | .Or,l::r::r'::rest,h=>have h':(chk Z G a l&&chk Z G b (.BoolOp .Or (r::r'::rest) pos))=true:=h;rw[Bool.and_eq_true] at h';obtain⟨pa,ta⟩:=snd a X ex G l g h'.1;obtain⟨pb,tb⟩:=snd b X ex G _ g h'.2;exact⟨AL pa pb,AN ta (ra (e:=l) tb)⟩
   | .Or,[],h=>first|exact aY h|cases h
   | .Or,[_],h=>first|exact aY h|cases h
   | .And,_,h=>first|exact aY h|cases h
  | _=>first|exact aY h|cases h
 | .not_ a,X,ex,G,e,g,h=>by
  induction e using zE with
  | UnaryOp o l pos=>
   cases o with
   | Not=>obtain⟨pa,ta⟩:=snd a X ex G l g h;exact AM pa ta
   | _=>first|exact aY h|cases h
  | _=>first|exact aY h|cases h
 | .ite t a b,X,ex,G,e,g,h=>by
  induction e using zE with
  | IfExp c x y pos=>have h':(chk Z G t c&&chk Z G a x&&chk Z G b y)=true:=h;simp only[Bool.and_eq_true] at h';obtain⟨pa,ta⟩:=snd a X ex G x g h'.1.2;obtain⟨pb,tb⟩:=snd b X ex G y g h'.2;exact AO (snd t X ex G c g h'.1.1).2 pa pb ta tb
  | _=>first|exact aY h|cases h
 | .tup es,X,ex,G,e,g,h=>by
  induction e using zE with
  | Tuple l n pos=>exact both (AQ (iz es X ex G l g h))
  | _=>first|exact aY h|cases h
 | .lst es,X,ex,G,e,g,h=>by
  induction e using zE with
  | List l pos=>exact both (vS (iz es X ex G l g h))
  | _=>first|exact aY h|cases h
 | .idx a i,X,ex,G,e,g,h=>by
  induction e using zE with
  | Subscript o s pos=>
   have h':(dJ s&&chk Z G a o&&chk Z G i s)=true:=by cases s<;>first|exact h|(rename_i l u st p;cases st<;>exact h)
   simp only[Bool.and_eq_true] at h';exact both (AR (snd a X ex G o g h'.1.2).1 (snd i X ex G s g h'.2).1 h'.1.1)
  | _=>first|exact aY h|cases h
 | .sl a lo hi,X,ex,G,e,g,h=>by
  induction e using zE with
  | Subscript o s pos=>
   match s,h with
   | .Slice l u none p,h=>have h':(chk Z G a o&&ni Z G lo l&&ni Z G hi u)=true:=h;simp only[Bool.and_eq_true] at h';exact both (Dd (snd a X ex G o g h'.1.1).1 (uR lo X ex G l g h'.1.2) (uR hi X ex G u g h'.2))
   | .Slice _ _ (some _) _,h=>first|exact aY h|cases h
   | .BoolOp ..,h=>first|exact aY h|cases h
   | .NamedExpr ..,h=>first|exact aY h|cases h
   | .BinOp ..,h=>first|exact aY h|cases h
   | .UnaryOp ..,h=>first|exact aY h|cases h
   | .Lambda ..,h=>first|exact aY h|cases h
   | .IfExp ..,h=>first|exact aY h|cases h
   | .Dict ..,h=>first|exact aY h|cases h
   | .Set ..,h=>first|exact aY h|cases h
   | .ListComp ..,h=>first|exact aY h|cases h
   | .SetComp ..,h=>first|exact aY h|cases h
   | .DictComp ..,h=>first|exact aY h|cases h
   | .GeneratorExp ..,h=>first|exact aY h|cases h
   | .Await ..,h=>first|exact aY h|cases h
   | .Yield ..,h=>first|exact aY h|cases h
   | .YieldFrom ..,h=>first|exact aY h|cases h
   | .Compare ..,h=>first|exact aY h|cases h
   | .Call ..,h=>first|exact aY h|cases h
   | .FormattedValue ..,h=>first|exact aY h|cases h
   | .JoinedStr ..,h=>first|exact aY h|cases h
   | .Constant ..,h=>first|exact aY h|cases h
   | .Attribute ..,h=>first|exact aY h|cases h
   | .Subscript ..,h=>first|exact aY h|cases h
   | .Starred ..,h=>first|exact aY h|cases h
   | .Name ..,h=>first|exact aY h|cases h
   | .List ..,h=>first|exact aY h|cases h
   | .Tuple ..,h=>first|exact aY h|cases h
  | _=>first|exact aY h|cases h
 | .call f es,X,ex,G,e,g,h=>by
  induction e using zE with
  | Call fn args kws pos=>
   induction fn using zE with
   | Name x p=>
    induction kws using zL with
    | nil=>have h':(gD Z G f x&&Z.fnc G f&&cW Z G es args)=true:=h;simp only[Bool.and_eq_true] at h';exact both (s_call g h'.1.1 h'.1.2 h'.2 (iz es X ex G args g h'.2))
    | cons _ _=>first|exact aY h|cases h
   | _=>first|exact aY h|cases h
  | _=>first|exact aY h|cases h
 | .bi f es,X,ex,G,e,g,h=>by
  induction e using zE with
  | Call fn args kws pos=>
   induction fn using zE with
   | Name x p=>
    induction kws using zL with
    | nil=>
     induction args using zL with
     | nil=>first|exact aY h|cases h
     | cons a args=>have h':(x == fY f&&G.glc (j7 f)&&cW Z G es (a::args))=true:=h;simp only[Bool.and_eq_true] at h';have e1:x=fY f:=eq_of_beq h'.1.1;subst e1;exact both (De g h'.1.2 h'.2 (iz es X ex G _ g h'.2))
    | cons _ _=>cases args<;>first|exact aY h|cases h
   | _=>first|exact aY h|cases h
  | _=>first|exact aY h|cases h
 | .lrev a,X,ex,G,e,g,h=>by
  have h:lrv e (fun x y e=>x == "list"&&G.glc 5&&y == "reversed"&&G.gl.contains 18&&notStar e&&chk Z G a e)=true:=by induction e using zE<;>exact h
  obtain⟨x,p,y,p',e',pos',pos,rfl,h⟩:=qX h;have h:(x == "list"&&G.glc 5&&y == "reversed"&&G.gl.contains 18&&notStar e'&&chk Z G a e')=true:=h;simp only[Bool.and_eq_true] at h;have e1:x = "list":=eq_of_beq h.1.1.1.1.1;have e2:y = "reversed":=eq_of_beq h.1.1.1.2;subst e1 e2;exact both (yz g h.1.1.1.1.2 h.1.1.2 h.1.2 (snd a X ex G e' g h.2).1)
 | .dnew,X,ex,G,e,g,h=>by
  have h:dcv e=true:=by induction e using zE<;>exact h
  obtain⟨pos,rfl⟩:=qW h;exact both yB
 | .dget a k,X,ex,G,e,g,h=>by
  have h:sbx e (fun o s=>dJ s&&chk Z G a o&&chk Z G k s)=true:=by induction e using zE<;>exact h
  obtain⟨o,s,pos,rfl,q1⟩:=yu h;simp only[Bool.and_eq_true] at q1;exact both (yC g (snd a X ex G o g q1.1.2).1 (snd k X ex G s g q1.2).1 q1.1.1)
 | .ofld a x cs,X,ex,G,e,g,h=>by
  have h:atv e (fun o y=>y == x&&l7 o&&Z.ofs.contains x&&cs.all (fun c=>Z.ocs.contains c)&&chk Z G a o)=true:=by induction e using zE<;>exact h
  obtain⟨o,y,p,rfl,q1⟩:=yv h;simp only[Bool.and_eq_true] at q1;have e1:y=x:=eq_of_beq q1.1.1.1.1;subst e1;exact both (yE g q1.1.1.1.2 q1.1.1.2 q1.1.2 (snd a X ex G o g q1.2).1)
 | .meth f m c a es,X,ex,G,e,g,h=>by
  have h:cav e (fun fe as p=>atp fe fun o y ap=>y == m&&l7 o&&ap.endLine == p.line&&decide (as.length < 29)&&Z.oms.contains (f,c,m)&&(Z.ocs.contains c&&G.cm)&&chk Z G a o&&cW Z G es as)=true:=by induction e using zE<;>exact h
  obtain⟨fe,as,p,rfl,q0⟩:=fZ h;obtain⟨o,y,ap,rfl,q1⟩:=gb q0;simp only[Bool.and_eq_true] at q1;obtain⟨⟨⟨⟨⟨⟨⟨e1,hn⟩,hl⟩,hlen⟩,hf⟩,hc,hcm⟩,ha⟩,hst⟩:=q1;have e1:=eq_of_beq e1;subst e1;exact both (yF g hn hl (of_decide_eq_true hlen) (List.contains_iff_mem.mp hf) (List.contains_iff_mem.mp hc) hcm hst (snd a X ex G o g ha).1 (iz es X ex G as g hst))
 | .omk n f c es,X,ex,G,e,g,h=>by
  have h:cav e (fun fe as _=>nmv (fun x=>gD Z G n x&&Z.omk.contains (n,c,f)&&(Z.ocs.contains c&&G.cm)&&cW Z G es as) fe)=true:=by induction e using zE<;>exact h
  obtain⟨fe,as,p,rfl,q0⟩:=fZ h;obtain⟨x,p',rfl,_⟩:=fB q0;exact both fun pins s σ H Q I ⟨S,τ,hs,q⟩=>q.no.elim
 | .dofr a,X,ex,G,e,g,h=>by
  have h:cav e (fun fe as _=>nmv (fun x=>x == "dict"&&G.glc 19) fe&&l1v as fun e=>notStar e&&chk Z G a e)=true:=by induction e using zE<;>exact h
  obtain⟨fe,as,p,rfl,q0⟩:=fZ h;rw[Bool.and_eq_true] at q0;obtain⟨x,p',rfl,q1⟩:=fB q0.1;obtain⟨e',rfl,q2⟩:=ir q0.2;rw[Bool.and_eq_true] at q1 q2;have e1:x = "dict":=eq_of_beq q1.1;subst e1;exact both (yG g q1.2 q2.1 (snd a X ex G e' g q2.2).1)
 | .lstf es,X,ex,G,e,g,h=>by
  have h:lsv e (fun l=>cW Z G es l)=true:=by induction e using zE<;>exact h
  obtain⟨l,p,rfl,q1⟩:=qY h;exact both (vS (iz es X ex G l g q1))
 | .lset a,X,ex,G,e,g,h=>by
  have h:lrv e (fun x y e=>x == "len"&&G.gl.contains 0&&y == "set"&&G.gl.contains 12&&(notStar e&&G.cm)&&chk Z G a e)=true:=by induction e using zE<;>exact h
  obtain⟨x,p,y,p',e',q',q,rfl,h⟩:=qX h;have h:(x == "len"&&G.gl.contains 0&&y == "set"&&G.gl.contains 12&&(notStar e'&&G.cm)&&chk Z G a e')=true:=h;simp only[Bool.and_eq_true] at h;have e1:x = "len":=eq_of_beq h.1.1.1.1.1;have e2:y = "set":=eq_of_beq h.1.1.1.2;subst e1 e2;exact both (yD g h.1.1.1.1.2 h.1.1.2 h.1.2.1 h.1.2.2 (snd a X ex G e' g h.2).1)
 | .isi a k,X,ex,G,e,g,h=>by
  induction e using zE with
  | Call fn args kws pos=>
   induction fn using zE with
   | Name x p=>
    match args,kws,h with
    | [o,.Name y p'],[],h=>have h':(x == "isinstance"&&G.gl.contains 14&&y == gP k&&G.gl.contains (oh k)&&notStar o&&chk Z G a o)=true:=h;simp only[Bool.and_eq_true] at h';have e1:x = "isinstance":=eq_of_beq h'.1.1.1.1.1;have e2:y=gP k:=eq_of_beq h'.1.1.1.2;subst e1 e2;exact both (AS g h'.1.1.1.1.2 h'.1.1.2 h'.1.2 (snd a X ex G o g h'.2).1)
    | [],_,h=>first|exact aY h|cases h
    | [_],_,h=>first|exact aY h|cases h
    | _::b::_::_,k,h=>cases b<;>cases k<;>first|exact aY h|cases h
    | [_,.Name _ _],_::_,h=>first|exact aY h|cases h
    | [_,.BoolOp ..],_,h=>first|exact aY h|cases h
    | [_,.NamedExpr ..],_,h=>first|exact aY h|cases h
    | [_,.BinOp ..],_,h=>first|exact aY h|cases h
    | [_,.UnaryOp ..],_,h=>first|exact aY h|cases h
    | [_,.Lambda ..],_,h=>first|exact aY h|cases h
    | [_,.IfExp ..],_,h=>first|exact aY h|cases h
    | [_,.Dict ..],_,h=>first|exact aY h|cases h
    | [_,.Set ..],_,h=>first|exact aY h|cases h
    | [_,.ListComp ..],_,h=>first|exact aY h|cases h
    | [_,.SetComp ..],_,h=>first|exact aY h|cases h
    | [_,.DictComp ..],_,h=>first|exact aY h|cases h
    | [_,.GeneratorExp ..],_,h=>first|exact aY h|cases h
    | [_,.Await ..],_,h=>first|exact aY h|cases h
    | [_,.Yield ..],_,h=>first|exact aY h|cases h
    | [_,.YieldFrom ..],_,h=>first|exact aY h|cases h
    | [_,.Compare ..],_,h=>first|exact aY h|cases h
    | [_,.Call ..],_,h=>first|exact aY h|cases h
    | [_,.FormattedValue ..],_,h=>first|exact aY h|cases h
    | [_,.JoinedStr ..],_,h=>first|exact aY h|cases h
    | [_,.Constant ..],_,h=>first|exact aY h|cases h
    | [_,.Attribute ..],_,h=>first|exact aY h|cases h
    | [_,.Subscript ..],_,h=>first|exact aY h|cases h
    | [_,.Starred ..],_,h=>first|exact aY h|cases h
    | [_,.Slice ..],_,h=>first|exact aY h|cases h
    | [_,.List ..],_,h=>first|exact aY h|cases h
    | [_,.Tuple ..],_,h=>first|exact aY h|cases h
   | _=>first|exact aY h|cases h
  | _=>first|exact aY h|cases h
 | .mth m o es,X,ex,G,e,g,h=>by
  induction e using zE with
  | Call fn args kws pos=>
   induction fn using zE with
   | Attribute oe name apos=>
    match args,kws,h with
    | a::args,[],h=>have h':(name == jd m&&jh oe&&apos.endLine == pos.line&&(decide ((a::args).length < 29)&&(G.cm||nc m))&&chk Z G o oe&&cW Z G es (a::args))=true:=h;simp only[Bool.and_eq_true] at h';have e1:name=jd m:=eq_of_beq h'.1.1.1.1.1;subst e1;exact both (AU g h'.1.1.1.1.2 h'.1.1.1.2 (of_decide_eq_true h'.1.1.2.1) h'.1.1.2.2 h'.2 (snd o X ex G oe g h'.1.2).1 (iz es X ex G _ g h'.2))
    | [],_,h=>first|exact aY h|cases h
    | _::_,_::_,h=>first|exact aY h|cases h
   | _=>first|exact aY h|cases h
  | _=>first|exact aY h|cases h
 | .comp G' fr tg src ifs elt,X,ex,G,e,g,h=>by
  induction e using zE with
  | ListComp el gens scope pos=>
   have h:pU gens (fun t it fs=>eA Z G scope G' fr&&eF G' tg t&&(tgs tg).all (fun i=>decide (fr.length<=i))&&(fF Z G src it&&iN src t)&&cW Z G' ifs fs&&chk Z G' elt el)=true:=h;obtain⟨t,it,fs,rfl,h⟩:=kH h;have h':(eA Z G scope G' fr&&eF G' tg t&&(tgs tg).all (fun i=>decide (fr.length<=i))&&(fF Z G src it&&iN src t)&&cW Z G' ifs fs&&chk Z G' elt el)=true:=h;simp only[Bool.and_eq_true] at h'
   exact both (yM g (kK h'.1.1.1.1.1) h'.1.1.1.1.2 (fun i hi=>of_decide_eq_true (List.all_eq_true.mp h'.1.1.1.2 i hi)) (uT src X ex G it t g h'.1.1.2.1 h'.1.1.2.2)
    (fun X' g'=>uS ifs X' nox G' fs g' h'.1.2) (fun X' g'=>(snd elt X' nox G' el g' h'.2).1) (fun x=>fD h'.1.1.2.1 X.env x))
  | _=>first|exact aY h|cases h
theorem iz:∀ (as:List IR) (X:Cx) (ex:EX->Prop) (G:Gm) (l:List Expr),GOk Z CX cl xp X ex G->cW Z G as l=true->PA X l (RA X.K ex (cF as) (cX cl as))
 | [],X,ex,G,l,g,h=>by
  induction l using zL with
  | nil=>exact kq eU fun σ H Q ⟨S,τ,hs,q⟩=>q.ok _ _ (.refl _) .nil
  | cons _ _=>first|exact aY h|cases h
 | a::as,X,ex,G,l,g,h=>by
  induction l using zL with
  | nil=>first|exact aY h|cases h
  | cons e l=>have h':(notStar e&&chk Z G a e&&cW Z G as l)=true:=h;simp only[Bool.and_eq_true] at h';refine kq (dG (snd a X ex G e g h'.1.2).1 (iz as X ex G l g h'.2) (cE h'.1.1 _ _)) fun σ H Q ⟨S,τ,hs,q⟩=>?_;refine di (.refl _) hs.left (PO'.bnd q) fun x v H1 e1 _ m1 q1=>?_;refine iu e1 hs.right (PO'.bnd q1) fun ds vs H2 e2 e2' m2 q2=>?_;exact q2.ok _ _ e2 (.cons (m1.later e2') m2)
theorem uR:∀ (o:Option IR) (X:Cx) (ex:EX->Prop) (G:Gm) (e:Option Expr),GOk Z CX cl xp X ex G->ni Z G o e=true->PO X e (ROp X.K ex (qK o) (ky cl o))
 | none,X,ex,G,e,g,h=>by
  induction e using zO with
  | none=>intro pins s σ H Q I ⟨S,τ,hs,q⟩;exact ud pins s σ H Q I (q.ok H (.refl _))
  | some _=>first|exact aY h|cases h
 | some a,X,ex,G,e,g,h=>by
  induction e using zO with
  | none=>first|exact aY h|cases h
  | some e=>
   intro pins s σ H Q I ⟨S,τ,hs,q⟩;refine ue (snd a X ex G e g h).1 pins s σ H Q I ?_;refine di (.refl _) hs (PO'.bnd q) fun x v H1 e1 _ m1 q1=>?_
   induction x using zD with
   | int i=>cases m1.intR;exact⟨i,rfl,q1.ok _ e1⟩
   | _=>exact q1.no.elim
theorem uS:∀ (as:List IR) (X:Cx) (ex:EX->Prop) (G:Gm) (l:List Expr),GOk Z CX cl xp X ex G->cW Z G as l=true->PTs X l (RT X.K ex (cF as) (gL cl as))
 | [],X,ex,G,l,g,h=>by
  induction l using zL with
  | nil=>intro pins s σ H Q I ⟨S,τ,hs,q⟩;exact uj pins s σ H Q I (q.ok H (.refl _))
  | cons _ _=>first|exact aY h|cases h
 | a::as,X,ex,G,l,g,h=>by
  induction l using zL with
  | nil=>first|exact aY h|cases h
  | cons e l=>
   have h':(notStar e&&chk Z G a e&&cW Z G as l)=true:=h;simp only[Bool.and_eq_true] at h';intro pins s σ H Q I ⟨S,τ,hs,q⟩;refine qA (snd a X ex G e g h'.1.2).2 (uS as X ex G l g h'.2) pins s σ H Q I ?_;refine g4 (.refl _) hs.left (PO'.bnd q) fun r H2 e2 _ k=>?_
   induction r using zB with
   | true=>rw[if_pos rfl] at k ⊢;exact g4 e2 hs.right k fun b H3 e3 _ z=>z H3 e3
   | false=>rw[if_neg Bool.false_ne_true] at k ⊢;exact k.ok H2 e2
theorem uT:∀ (s:Sr) (X:Cx) (ex:EX->Prop) (G:Gm) (e tg:Expr),GOk Z CX cl xp X ex G->fF Z G s e=true->iN s tg=true->PI X tg e (RI X.K ex (gW s) (fX cl s))
 | .rng1 n,X,ex,G,e,tg,g,h,ht=>by
  induction e using zE with
  | Call fn args kws pos=>
   induction fn using zE with
   | Name x p=>
    match args,kws,h with
    | [a],[],h=>have h':(x == "range"&&G.gl.contains 15&&notStar a&&chk Z G n a)=true:=h;simp only[Bool.and_eq_true] at h';have e1:x = "range":=eq_of_beq h'.1.1.1;subst e1;exact yJ g h'.1.1.2 h'.1.2 (snd n X ex G a g h'.2).1
    | [],_,h=>first|exact aY h|cases h
    | [_],_::_,h=>first|exact aY h|cases h
    | _::_::_,_,h=>first|exact aY h|cases h
   | _=>first|exact aY h|cases h
  | _=>first|exact aY h|cases h
 | .rng2 a b,X,ex,G,e,tg,g,h,ht=>by
  induction e using zE with
  | Call fn args kws pos=>
   induction fn using zE with
   | Name x p=>
    match args,kws,h with
    | [l,r],[],h=>have h':(x == "range"&&G.gl.contains 15&&notStar l&&notStar r&&chk Z G a l&&chk Z G b r)=true:=h;simp only[Bool.and_eq_true] at h';have e1:x = "range":=eq_of_beq h'.1.1.1.1.1;subst e1;exact yL g h'.1.1.1.1.2 h'.1.1.1.2 h'.1.1.2 (snd a X ex G l g h'.1.2).1 (snd b X ex G r g h'.2).1
    | [],_,h=>first|exact aY h|cases h
    | [_],_,h=>first|exact aY h|cases h
    | [_,_],_::_,h=>first|exact aY h|cases h
    | _::_::_::_,_,h=>first|exact aY h|cases h
   | _=>first|exact aY h|cases h
  | _=>first|exact aY h|cases h
 | .val a,X,ex,G,e,tg,g,h,ht=>AY (snd a X ex G e g h).1
 | .enm a,X,ex,G,e,tg,g,h,ht=>by
  induction tg using zE with
  | Tuple tes tc tp=>
   induction e using zE with
   | Call fn args kws pos=>
    induction fn using zE with
    | Name x p=>
     match args,kws,h with
     | [l],[],h=>have h':(x == "enumerate"&&G.gl.contains 20&&notStar l&&chk Z G a l)=true:=h;simp only[Bool.and_eq_true] at h';have e1:x = "enumerate":=eq_of_beq h'.1.1.1;subst e1;exact AZ g h'.1.1.2 h'.1.2 (snd a X ex G l g h'.2).1
     | [],_,h=>first|exact aY h|cases h
     | [_],_::_,h=>first|exact aY h|cases h
     | _::_::_,_,h=>first|exact aY h|cases h
    | _=>first|exact aY h|cases h
   | _=>first|exact aY h|cases h
  | _=>exact aY ht
end
end
inductive Rps (K:PySem.W.Frag)(F:Addr->Prop)(H:Hp):St->Ev->List Addr->Prop where
 | nil:Rps K F H [] [] []
 | none {o:Option V}{σ:St}{τ:Ev}{f:List Addr}:Rps K F H σ τ f->Rps K F H (o::σ) (.none::τ) f
 | some {v:V}{d:D}{f:List Addr}{σ:St}{τ:Ev}{g:List Addr}:MRep K F H v d f->Rps K F H σ τ g->Rps K F H (.some v::σ) (.some d::τ) (f++g)
section
variable {K:PySem.W.Frag}{F F':Addr->Prop}{H H':Hp}{σ:St}{τ:Ev}{f:List Addr}
theorem Rps.step (hl:∀ a (u:LD),F a->Rd H a u.o->F' a/\Rd H' a u.o)(ht:∀ a xs,SqE K H a xs->SqE K H' a xs):∀ {σ:St}{τ:Ev}{f:List Addr},(∀ a∈f,¬ F a->H a≠Option.none->¬ F' a/\H' a=H a)->Rps K F H σ τ f->Rps K F' H' σ τ f
 | _,_,_,_,.nil=>.nil
 | _,_,_,k,.none h=>.none (Rps.step hl ht k h)
 | _,_,_,k,.some m h=>.some (m.step hl ht fun a ha=>k a (List.mem_append_left _ ha)) (Rps.step hl ht (fun a ha=>k a (List.mem_append_right _ ha)) h)
theorem Rps.own:∀ {σ:St}{τ:Ev}{f:List Addr},Rps K F H σ τ f->∀ a∈f,¬ F a/\∃ u,H a=.some u
 | _,_,_,.nil=>fun _ h=>absurd h (by simp)
 | _,_,_,.none h=>Rps.own h
 | _,_,_,.some m h=>fun a ha=>by
  rcases List.mem_append.mp ha with ha|ha
  ·exact m.own a ha
  ·exact Rps.own h a ha
theorem dX {o:Option D}{τ:Ev}{i:Nat}:bS (o::τ) (i+1)=bS τ i:=by unfold bS;simp
theorem eO {o:Option D}{τ:Ev}:bS (o::τ) 0=o:=by unfold bS;simp
theorem Rps.at:∀ {σ:St}{τ:Ev}{f:List Addr}{i:Nat}{d:D},Rps K F H σ τ f->bS τ i=.some d->∃ v fv g,σ[i]? = .some (.some v)/\MRep K F H v d fv/\Rps K F H σ (τ.set i .none) g/\f.Perm (fv++g)
 | _,_,_,i,d,.nil,h=>by simp[bS] at h
 | _,_,_,0,d,.none _,h=>by rw[eO] at h;cases h
 | _,_,_,0,d,.some m h',h=>by rw[eO] at h;cases h;exact⟨_,_,_,rfl,m,.none h',.refl _⟩
 | _,_,_,i+1,d,.none h',h=>by rw[dX] at h;obtain⟨v,fv,g,h1,h2,h3,h4⟩:=Rps.at h' h;exact⟨v,fv,g,by simpa using h1,h2,.none h3,h4⟩
 | _,_,_,i+1,d,.some (f:=f0) m h',h=>by rw[dX] at h;obtain⟨v,fv,g,h1,h2,h3,h4⟩:=Rps.at h' h;refine⟨v,fv,f0++g,by simpa using h1,h2,.some m h3,?_⟩;refine(List.Perm.append_left f0 h4).trans ?_;rw[<- List.append_assoc,<- List.append_assoc];exact List.Perm.append_right g List.perm_append_comm
theorem Rps.put:∀ {σ:St}{τ:Ev}{f:List Addr} (i:Nat) {v:V}{d:D}{fv:List Addr},Rps K F H σ τ f->MRep K F H v d fv->∃ g h,Rps K F H (σ.set i (.some v)) (τ.set i (.some d)) g/\(g++h).Perm (fv++f)
 | _,_,_,i,v,d,fv,.nil,m=>⟨[],_,.nil,.refl _⟩
 | _,_,_,0,v,d,fv,.none h,m=>⟨_,[],.some m h,by rw[List.append_nil]⟩
 | _,_,_,0,v,d,fv,.some (f:=f0) (g:=g0) m' h,m=>⟨_,f0,.some m h,by rw[List.append_assoc];exact List.Perm.append_left _ List.perm_append_comm⟩
 | _,_,_,i+1,v,d,fv,.none h,m=>by obtain⟨g,h',h1,h2⟩:=Rps.put i h m;exact⟨g,h',.none h1,h2⟩
 | _,_,_,i+1,v,d,fv,.some (f:=f0) (g:=g0) m' h,m=>by obtain⟨g,h',h1,h2⟩:=Rps.put i h m;refine⟨f0++g,h',.some m' h1,?_⟩;rw[List.append_assoc];refine(List.Perm.append_left f0 h2).trans ?_;rw[<- List.append_assoc,<- List.append_assoc];exact List.Perm.append_right g0 List.perm_append_comm
theorem Rps.slots {S:Addr->Prop}{is:List Nat}(h:Rps K F H σ τ f)(hF:∀ a,F a->S a)(hf:∀ a∈f,S a):Slots K S H σ τ is:=fun i hi d z=>by obtain⟨v,fv,g,h1,h2,h3,h4⟩:=h.at z;exact⟨v,h1,h2.read hF fun a ha=>hf a (h4.mem_iff.mpr (List.mem_append_left _ ha))⟩
theorem Rps.freeze (is:List Nat):∀ {σ:St}{τ:Ev}{f:List Addr} (k:Nat),Rps K F H σ τ f->∃ fi g,f.Perm (fi++g)/\(∀ F':Addr->Prop,(∀ a,F a->F' a)->(∀ a∈fi,F' a)->(∀ a∈g,¬ F a->¬ F' a)->Rps K F' H σ (il is k τ) g)/\
  ∀ F':Addr->Prop,(∀ a,F a->F' a)->(∀ a∈fi,F' a)->∀ i,is.contains (k+i)=true->∀ d,bS τ i=.some d->∃ v,σ[i]? = .some (.some v)/\HRep K F' H v d
 | _,_,_,k,.nil=>⟨[],[],.refl _,fun _ _ _ _=>.nil,fun _ _ _ i _ d z=>by simp[bS] at z⟩
 | _,_,_,k,.none h=>by
  obtain⟨fi,g,h1,h2,h3⟩:=Rps.freeze is (k+1) h;refine⟨fi,g,h1,fun F' a b c=>?_,fun F' a b i hi d z=>?_⟩
  ·unfold il;have e:(if is.contains k=true then Option.map er (Option.none:Option D) else Option.none)=Option.none:=by split<;>rfl
   rw[e];exact .none (h2 F' a b c)
  ·cases i with
   | zero=>rw[eO] at z;cases z
   | succ i=>rw[dX] at z;obtain⟨v,q1,q2⟩:=h3 F' a b i (by rw[show k+1+i=k+(i+1) by omega];exact hi) d z;exact⟨v,by simpa using q1,q2⟩
 | _,_,_,k,.some (v:=v) (d:=d0) (f:=f0) (g:=g0) m h=>by
  obtain⟨fi,g,h1,h2,h3⟩:=Rps.freeze is (k+1) h;by_cases hc:is.contains k=true
  ·refine⟨f0++fi,g,by rw[List.append_assoc];exact List.Perm.append_left _ h1,fun F' a b c=>?_,fun F' a b i hi d z=>?_⟩
   ·unfold il;rw[if_pos hc];exact .some (f:=[]) ((m.read a fun x hx=>b x (List.mem_append_left _ hx)).frozen) (h2 F' a (fun x hx=>b x (List.mem_append_right _ hx)) c)
   ·cases i with
    | zero=>rw[eO] at z;cases z;exact⟨v,rfl,m.read a fun x hx=>b x (List.mem_append_left _ hx)⟩
    | succ i=>rw[dX] at z;obtain⟨v,q1,q2⟩:=h3 F' a (fun x hx=>b x (List.mem_append_right _ hx)) i (by rw[show k+1+i=k+(i+1) by omega];exact hi) d z;exact⟨v,by simpa using q1,q2⟩
  ·refine⟨fi,f0++g,?_,fun F' a b c=>?_,fun F' a b i hi d z=>?_⟩
   ·refine(List.Perm.append_left f0 h1).trans ?_;rw[<- List.append_assoc,<- List.append_assoc];exact List.Perm.append_right g List.perm_append_comm
   ·unfold il;rw[if_neg hc];exact .some (m.step (fun x xs q r=>⟨a x q,r⟩) (fun x xs q=>q) fun x hx n _=>⟨c x (List.mem_append_left _ hx) n,rfl⟩) (h2 F' a b fun x hx=>c x (List.mem_append_right _ hx))
   ·cases i with
    | zero=>exact absurd hi hc
    | succ i=>rw[dX] at z;obtain⟨v,q1,q2⟩:=h3 F' a b i (by rw[show k+1+i=k+(i+1) by omega];exact hi) d z;exact⟨v,by simpa using q1,q2⟩
end
structure Stp (F:Addr->Prop)(H:Hp)(f:List Addr)(F':Addr->Prop)(H':Hp):Prop where
 same:cO H H'
 inn:∀ a,F a->F' a
 out:∀ a,F' a->F a∨a∈f∨H a=none
structure Ow (K:PySem.W.Frag)(F:Addr->Prop)(H:Hp)(f:List Addr)(F':Addr->Prop)(H':Hp)(σ:St)(v:V)(d:D)(fv:List Addr)(τ':Ev)(f':List Addr):Prop where
 stp:Stp F H f F' H'
 fok:FOk F' H'
 rep:MRep K F' H' v d fv
 rps:Rps K F' H' σ τ' f'
 nod:(fv++f').Nodup
 mem:∀ a∈fv++f',a∈f∨H a=none
structure Ows (K:PySem.W.Frag)(F:Addr->Prop)(H:Hp)(f:List Addr)(F':Addr->Prop)(H':Hp)(σ:St)(v:List V)(d:List D)(fv:List Addr)(τ':Ev)(f':List Addr):Prop where
 stp:Stp F H f F' H'
 fok:FOk F' H'
 rep:MReps K F' H' v d fv
 rps:Rps K F' H' σ τ' f'
 nod:(fv++f').Nodup
 mem:∀ a∈fv++f',a∈f∨H a=none
section
variable {K:PySem.W.Frag}{F F' F'':Addr->Prop}{H H' H'':Hp}{f f':List Addr}
theorem Stp.refl:Stp F H f F H:=⟨.refl _,fun _ h=>h,fun _ h=>.inl h⟩
theorem Stp.trans (a:Stp F H f F' H')(b:Stp F' H' f' F'' H'')(hf:∀ x∈f',x∈f∨H x=none):Stp F H f F'' H'':=⟨a.same.trans b.same,fun x h=>b.inn x (a.inn x h),fun x h=>by
 rcases b.out x h with h|h|h
 ·exact a.out x h
 ·rcases hf x h with h|h
  ·exact .inr (.inl h)
  ·exact .inr (.inr h)
 ·exact .inr (.inr (a.same.free h))⟩
theorem MRep.stp {v:V}{d:D}{fv:List Addr}(m:MRep K F H v d fv)(s:Stp F H f F' H')(h:∀ a∈fv,a∉f):MRep K F' H' v d fv:=
 m.step (fun a xs q r=>⟨s.inn a q,s.same.rd r⟩) (fun a xs q=>s.same.seqT q) fun a ha n hn=>by
  obtain⟨_,xs,e⟩:=m.own a ha;refine⟨fun z=>?_,(s.same _ _ e).trans e.symm⟩;rcases s.out a z with z|z|z
  ·exact n z
  ·exact h a ha z
  ·exact hn z
theorem MReps.stp {v:List V}{d:List D}{fv:List Addr}(m:MReps K F H v d fv)(s:Stp F H f F' H')(h:∀ a∈fv,a∉f):MReps K F' H' v d fv:=
 m.step (fun a xs q r=>⟨s.inn a q,s.same.rd r⟩) (fun a xs q=>s.same.seqT q) fun a ha n hn=>by
  obtain⟨_,xs,e⟩:=m.own a ha;refine⟨fun z=>?_,(s.same _ _ e).trans e.symm⟩;rcases s.out a z with z|z|z
  ·exact n z
  ·exact h a ha z
  ·exact hn z
end
def RO (K:PySem.W.Frag)(ex:EX->Prop)(g:Ev->Res (D×Ev)):TE:=fun σ H Q=>∃ F τ f,FOk F H/\Rps K F H σ τ f/\f.Nodup/\PO' ex (g τ) fun p=>∀ v H' F' fv f',Ow K F H f F' H' σ v p.1 fv p.2 f'->Q v H'
def ROs (K:PySem.W.Frag)(ex:EX->Prop)(g:Ev->Res (List D×Ev)):TA:=fun σ H Q=>∃ F τ f,FOk F H/\Rps K F H σ τ f/\f.Nodup/\PO' ex (g τ) fun p=>∀ v H' F' fv f',Ows K F H f F' H' σ v p.1 fv p.2 f'->Q v H'
abbrev Kn (K:PySem.W.Frag)(S:Addr->Prop)(H:Hp)(Q:VK):List D->Prop:=fun ds=>∀ p ys H',cO H H'->H p=none->H' p=some (.lst ys)->HReps K (fun a=>nw S H a/\a≠p) H' ys ds->Q (.ref p) H'
def RN (K:PySem.W.Frag)(ex:EX->Prop)(is:List Nat)(f:Ev->Res (List D)):TE:=fun σ H Q=>∃ S τ,Slots K S H σ τ is/\PO' ex (f τ) (Kn K S H Q)
noncomputable def gu:D->Res (List D)
 | .lst _ ds=>.ok ds
 | _=>stk
section
variable {K:PySem.W.Frag}{F F':Addr->Prop}{H H':Hp}{σ:St}{τ:Ev}{f:List Addr}{ex:EX->Prop}{S:Addr->Prop}
theorem pY {vs ws:List V}{ds:List D}{p:Addr}{H2:Hp}(m:HReps K (nw S H) H2 vs ds)(hp:H2 p=none):HReps K (fun a=>nw S H a/\a≠p) (upd H2 p (.lst ws)) vs ds:=
 m.step (fun a xs h r=>by
  have hne:a≠p:=fun z=>r.some (by rw[z];exact hp);refine⟨⟨h,hne⟩,?_⟩;unfold Rd;rw[cG hne]
  exact r) fun a xs h=>(cO.upd hp).seqT h
theorem grow (P:Addr->Prop)(fok:FOk F H)(r:Rps K F H σ τ f)(e:cO H H') :
  FOk (fun a=>F a∨(P a/\H a=none/\H' a≠none)) H'/\Rps K (fun a=>F a∨(P a/\H a=none/\H' a≠none)) H' σ τ f/\Stp F H f (fun a=>F a∨(P a/\H a=none/\H' a≠none)) H':=by
 refine⟨fun a h=>?_,r.step (fun a xs q rd=>⟨.inl q,e.rd rd⟩) (fun a xs q=>e.seqT q) fun a ha n hn=>⟨fun z=>?_,?_⟩,⟨e,fun a h=>.inl h,fun a h=>?_⟩⟩
 ·rcases h with h|h
  ·intro z;exact fok a h (e.free z)
  ·exact h.2.2
 ·rcases z with z|z
  ·exact n z
  ·exact hn z.2.1
 ·obtain⟨_,xs,q⟩:=r.own a ha;exact(e _ _ q).trans q.symm
 ·rcases h with h|h
  ·exact .inl h
  ·exact .inr (.inr h.2.1)
theorem g7 (fok:FOk F H)(r:Rps K F H σ τ f)(e:cO H H'):FOk F H'/\Rps K F H' σ τ f/\Stp F H f F H':=by refine⟨fun a h z=>fok a h (e.free z),r.step (fun a xs q rd=>⟨q,e.rd rd⟩) (fun a xs q=>e.seqT q) fun a ha n hn=>⟨n,?_⟩,⟨e,fun a h=>h,fun a h=>.inl h⟩⟩;obtain⟨_,xs,q⟩:=r.own a ha;exact(e _ _ q).trans q.symm
theorem e9 (is:List Nat)(fok:FOk F H)(r:Rps K F H σ τ f)(nd:f.Nodup):∃ F1 g,FOk F1 H/\Rps K F1 H σ (frz is τ) g/\g.Nodup/\Stp F H f F1 H/\(∀ a∈g,a∈f)/\Slots K F1 H σ τ is:=by
 obtain⟨fi,g,h1,h2,h3⟩:=r.freeze is 0;have nd':(fi++g).Nodup:=h1.nodup_iff.mp nd;have dis:∀ a∈g,a∉fi:=fun a ha hb=>(List.nodup_append.mp nd').2.2 a hb a ha rfl;have inF:∀ a∈fi,a∈f:=fun a ha=>h1.mem_iff.mpr (List.mem_append_left _ ha);have inG:∀ a∈g,a∈f:=fun a ha=>h1.mem_iff.mpr (List.mem_append_right _ ha);refine⟨fun a=>F a∨a∈fi,g,fun a h=>?_,h2 _ (fun a h=>.inl h) (fun a h=>.inr h) (fun a ha n z=>?_),(List.nodup_append.mp nd').2.1,⟨.refl _,fun a h=>.inl h,fun a h=>?_⟩,inG,fun i hi d z=>?_⟩
 ·rcases h with h|h
  ·exact fok a h
  ·obtain⟨_,xs,q⟩:=r.own a (inF a h);rw[q];simp
 ·rcases z with z|z
  ·exact n z
  ·exact dis a ha z
 ·rcases h with h|h
  ·exact .inl h
  ·exact .inr (.inl (inF a h))
 ·exact h3 _ (fun a h=>.inl h) (fun a h=>.inr h) i (by simpa using hi) d z
theorem dM {is:List Nat}(r:Rps K F H σ τ f):Slots K (fun _=>True) H σ τ is:=r.slots (fun _ _=>trivial) fun _ _=>trivial
theorem HRep.fix {v:V}{d:D}(m:HRep K (L2.nw F H) H' v d):HRep K (fun a=>F a∨(True/\H a=none/\H' a≠none)) H' v d:=m.step (fun a xs h r=>⟨h.elim (fun z=>.inl z) fun z=>.inr ⟨trivial,z,r.some⟩,r⟩) fun a xs h=>h
end
section
variable {X:Cx}{ex:EX->Prop}{cl:Nat->List D->Res D}
theorem o_v {i:Nat}{e:Expr}(he:PE X e (qb i))(mv:Bool):PE X e (RO X.K ex (evO cl mv (.v i))):=by
 refine cT he fun σ H Q ⟨F,τ,f,fok,r,nd,q⟩=>?_;rw[AB] at q;cases z:bS τ i with
 | none=>rw[z] at q;exact q.no.elim
 | some d=>
  rw[z] at q;obtain⟨v,fv,g,h1,h2,h3,h4⟩:=r.at z;have nd':(fv++g).Nodup:=h4.nodup_iff.mp nd
  induction mv using zB with
  | true=>have q':=(show PO' ex (.ok (d,τ.set i none):Res (D×Ev)) _ from q).ok;exact⟨v,h1,q' v H F fv g ⟨.refl,fok,h2,h3,nd',fun a ha=>.inl (h4.mem_iff.mpr ha)⟩⟩
  | false=>
   have q':=(show PO' ex (.ok (er d,τ.set i (some (er d))):Res (D×Ev)) _ from q).ok;have dis:∀ a∈g,a∉fv:=fun a ha hb=>(List.nodup_append.mp nd').2.2 a hb a ha rfl;have m1:MRep X.K (fun a=>F a∨a∈fv) H v (er d) []:=(h2.read (fun a h=>.inl h) (fun a h=>.inr h)).frozen;have r1:Rps X.K (fun a=>F a∨a∈fv) H σ (τ.set i none) g:=h3.step (fun a xs h r=>⟨.inl h,r⟩) (fun a xs h=>h) fun a ha n _=>⟨fun z=>z.elim n (dis a ha),rfl⟩
   obtain⟨g',h',r2,p2⟩:=r1.put i m1;have hσ:σ.set i (some v)=σ:=by
    apply List.ext_getElem?;intro j;rw[List.getElem?_set];by_cases hj:i=j
    ·subst hj;have hlt:i < σ.length:=(List.getElem?_eq_some_iff.mp h1).1;rw[if_pos rfl,if_pos hlt,h1]
    ·rw[if_neg hj]
   rw[hσ,List.set_set] at r2;rw[List.nil_append] at p2;have nd2:(g'++h').Nodup:=p2.nodup_iff.mpr (List.nodup_append.mp nd').2.1;refine⟨v,h1,q' v H _ [] g' ⟨⟨.refl _,fun a h=>.inl h,fun a h=>?_⟩,fun a h=>?_,m1,r2,(List.nodup_append.mp nd2).1,fun a ha=>?_⟩⟩
   ·exact h.elim (fun z=>.inl z) fun z=>.inr (.inl (h4.mem_iff.mpr (List.mem_append_left _ z)))
   ·rcases h with h|h
    ·exact fok a h
    ·obtain⟨_,xs,e⟩:=h2.own a h;rw[e];simp
   ·have:a∈g:=p2.mem_iff.mp (List.mem_append_left _ (by simpa using ha));exact .inl (h4.mem_iff.mpr (List.mem_append_right _ this))
theorem o_tup {l:List Expr}{n:Nat}{pos:Pos}{g:Ev->Res (List D×Ev)}(h:PA X l (ROs X.K ex g)):PE X (.Tuple l n pos) (RO X.K ex fun τ=>bnd (g τ) fun p=>grd (dR p.1.length) (.ok (.tup p.1,p.2))):=by
 refine cT (qw h) fun σ H Q ⟨F,τ,f,fok,r,nd,q⟩=>⟨F,τ,f,fok,r,nd,(PO'.bnd q).mono fun p hp vs H1 F1 fv f1 o=>?_⟩
 obtain⟨gd,hp⟩:=PO'.grd hp;refine⟨by rw[o.rep.length];exact dS gd,fun p' hp'=>hp.ok _ _ F1 fv f1 ?_⟩;have e:cO H1 (upd H1 p' (.tup vs)):=.upd hp';obtain⟨k1,k2,k3⟩:=g7 o.fok o.rps e;refine⟨o.stp.trans k3 (fun x hx=>o.mem x (List.mem_append_right _ hx)),k1,.tup (.inl (.inl cP)) (o.rep.stp k3 fun a ha hb=>(List.nodup_append.mp o.nod).2.2 a ha a hb rfl),k2,o.nod,o.mem⟩
theorem o_lst {l:List Expr}{pos:Pos}{g:Ev->Res (List D×Ev)}(h:PA X l (ROs X.K ex g)):PE X (.List l pos) (RO X.K ex fun τ=>bnd (g τ) fun p=>grd (dR p.1.length) (.ok (.lst true p.1,p.2))):=by
 refine cT (mP h) fun σ H Q ⟨F,τ,f,fok,r,nd,q⟩=>⟨F,τ,f,fok,r,nd,(PO'.bnd q).mono fun p hp vs H1 F1 fv f1 o=>?_⟩
 obtain⟨gd,hp⟩:=PO'.grd hp;refine⟨by rw[o.rep.length];exact dS gd,fun p' hp'=>hp.ok _ _ F1 (p'::fv) f1 ?_⟩;have e:cO H1 (upd H1 p' (.lst vs)):=.upd hp';obtain⟨k1,k2,k3⟩:=g7 o.fok o.rps e;refine⟨o.stp.trans k3 (fun x hx=>o.mem x (List.mem_append_right _ hx)),k1,.lstO (fun z=>o.fok _ z hp') cP (o.rep.stp k3 fun a ha hb=>(List.nodup_append.mp o.nod).2.2 a ha a hb rfl),k2,?_,fun a ha=>?_⟩
 ·rw[List.cons_append,List.nodup_cons];refine⟨fun z=>?_,o.nod⟩;rcases List.mem_append.mp z with z|z
  ·obtain⟨_,xs,e⟩:=o.rep.own _ z;rw[hp'] at e;cases e
  ·obtain⟨_,xs,e⟩:=o.rps.own _ z;rw[hp'] at e;cases e
 ·rw[List.cons_append] at ha;rcases List.mem_cons.mp ha with rfl|ha
  ·exact .inr (o.stp.same.free hp')
  ·exact o.mem a ha
theorem o_ite {c a b:Expr}{pos:Pos}{vc:List Nat}{fc:Ev->Res Bool}{fa fb:Ev->Res (D×Ev)}(hc:PT X c (RT X.K ex vc fc))(ha:PE X a (RO X.K ex fa))(hb:PE X b (RO X.K ex fb)) :
  PE X (.IfExp c a b pos) (RO X.K ex fun τ=>bnd (fc τ) fun r=>if r=true then fa τ else fb τ):=by
 refine cT (kZ hc ha hb) fun σ H Q ⟨F,τ,f,fok,r,nd,q⟩=>?_;refine g4 (.refl _) (dM r) (PO'.bnd q) fun x H2 e2 _ k=>?_;obtain⟨k1,k2,k3⟩:=g7 fok r e2;have go:∀ {g:Ev->Res (D×Ev)},PO' ex (g τ) (fun p=>∀ v H' F' fv f',Ow X.K F H f F' H' σ v p.1 fv p.2 f'->Q v H')->RO X.K ex g σ H2 Q:=fun hg=>
  ⟨F,τ,f,k1,k2,nd,hg.mono fun p hp v H' F' fv f' o=>hp v H' F' fv f' ⟨k3.trans o.stp (fun x hx=>.inl hx),o.fok,o.rep,o.rps,o.nod,fun a ha=>(o.mem a ha).elim (fun z=>.inl z) fun z=>.inr (e2.free z)⟩⟩
 induction x using zB with
 | true=>rw[if_pos rfl] at k ⊢;exact go k
 | false=>rw[if_neg Bool.false_ne_true] at k ⊢;exact go k
theorem yN:PA X [] (ROs X.K ex fun τ=>.ok ([],τ)):=kq eU fun σ H Q ⟨F,τ,f,fok,r,nd,q⟩=>q.ok [] H F [] f ⟨.refl,fok,.nil,r,nd,fun a ha=>.inl ha⟩
theorem uU {e:Expr}{l:List Expr}{ga:Ev->Res (D×Ev)}{gs:Ev->Res (List D×Ev)}(hn:notStar e=true)(ha:PE X e (RO X.K ex ga))(hr:PA X l (ROs X.K ex gs)) :
  PA X (e::l) (ROs X.K ex fun τ=>bnd (ga τ) fun p=>bnd (gs p.2) fun q=>.ok (p.1::q.1,q.2)):=by
 refine kq (dG ha hr (cE hn _ _)) fun σ H Q ⟨F,τ,f,fok,r,nd,q⟩=>⟨F,τ,f,fok,r,nd,(PO'.bnd q).mono fun p hp v H1 F1 fv f1 o=>?_⟩
 refine⟨F1,p.2,f1,o.fok,o.rps,(List.nodup_append.mp o.nod).2.1,(PO'.bnd hp).mono fun p' hp' vs H2 F2 fvs f2 o2=>?_⟩;have dis:∀ a∈fv,a∉f1:=fun a h1 h2=>(List.nodup_append.mp o.nod).2.2 a h1 a h2 rfl;have m2:=o.rep.stp o2.stp dis;refine hp'.ok (v::vs) H2 F2 (fv++fvs) f2 ⟨o.stp.trans o2.stp (fun x hx=>o.mem x (List.mem_append_right _ hx)),o2.fok,.cons m2 o2.rep,o2.rps,?_,fun a ha=>?_⟩
 ·rw[List.append_assoc];refine List.nodup_append.mpr ⟨(List.nodup_append.mp o.nod).1,o2.nod,fun a h1 b h2 e=>?_⟩;subst e;rcases o2.mem a h2 with z|z
  ·exact dis a h1 z
  ·obtain⟨_,xs,e⟩:=o.rep.own a h1;rw[z] at e;cases e
 ·rw[List.append_assoc] at ha;rcases List.mem_append.mp ha with ha|ha
  ·exact o.mem a (List.mem_append_left _ ha)
  ·rcases o2.mem a ha with z|z
   ·exact o.mem a (List.mem_append_right _ z)
   ·exact .inr (o.stp.same.free z)
end
section
variable {Z:Sg}{CX:CXT}{cl:Nat->List D->Res D}{xp:XK->Hp->EX->Prop}{X:Cx}{ex:EX->Prop}{G:Gm}
def spP (K:PySem.W.Frag)(ex:EX->Prop)(cl:Nat->List D->Res D)(f:Nat)(vs:List V)(H:Hp)(Q:VK):Prop:=∃ F ds,FOk F H/\HReps K F H vs ds/\PO' ex (cl f (ers ds)) fun d=>∀ v H' F' fv,Out K F H F' H' v d fv->Q v H'
theorem rl (g:GOk Z CX cl xp X ex G){f:Nat}{x:Str}{p pos:Pos}{es:List IR}{args:List Expr}{t:TA}(h1:gD Z G f x=true)(h2:Z.fnc G f=true)(hst:cW Z G es args=true)(h:PA X args t)
  (h0:args=[]->∀ σ H (Q:List V->Hp->Prop),t σ H Q->Q [] H):PE X (.Call (.Name x p) args [] pos) (fun σ H Q=>t σ H fun vs H1=>spP X.K ex cl f vs H1 Q):=by
 obtain⟨k1,k2,k3,k4⟩:=oq g h1;obtain⟨k,fa',fd,ps,hm,hkp,hb,F,hr,hlen⟩:=(g.fns f (kG h2).1 (kG h2).2 x k2).ex;obtain⟨E,hP,hE⟩:=g.exs;intro pins s σ H Q I q;have fin:∀ (us:List Value) (s1:Shared) (vs:List V) (H1:Hp),Inv X pins σ H1 s1->Vals vs us->spP X.K ex cl f vs H1 Q->wpAny (model X.prog X.w) X.A (call (.ref fa') us) (EP X pins σ Q) X.xe s1:=by
  intro us s1 vs H1 I1 r ⟨Fc,ds,fok,m,q1⟩;have hl:=hlen ex _ _ q1;rw[de] at hl;refine kI F hr hb hP g.hid I1 r (by rw[m.length];exact hl) fok m ?_;cases z:cl f (ers ds) with
  | error er=>
   rw[z] at q1;cases er with
   | stuck=>exact q1.no.elim
   | exc c=>exact hE c _ q1
  | ok d=>rw[z] at q1;exact q1.ok
 refine wpAny_Call_Name_kw (iO I k1 hm ?_ k4)
 induction args using zL with
 | nil=>
  induction es using zL with
  | cons _ _=>cases hst
  | nil=>exact PySem.W.callWith_K0 I.kIn hkp (fin [] s [] H I .nil (h0 rfl σ H _ q))
 | cons e l=>
  induction es using zL with
  | nil=>cases hst
  | cons a es=>have hst':(notStar e&&chk Z G a e&&cW Z G es l)=true:=hst;simp only[Bool.and_eq_true] at hst';refine PySem.W.callWith_K (h₀:=X.base) I.ok.mod.kin hkp (thn (h pos pins s σ H _ I q) fun us s1 ⟨vs,H1,I1,r,q1⟩=>⟨I1.kIn,?_⟩) (cE hst'.1.1 l X.env) (dF Z G (es:=es) pos X.env hst'.2);exact fin us s1 vs H1 I1 r q1
theorem o_call (g:GOk Z CX cl xp X ex G){f:Nat}{x:Str}{p pos:Pos}{es:List IR}{args:List Expr}(h1:gD Z G f x=true)(h2:Z.fnc G f=true)(hst:cW Z G es args=true)(mv:Bool) :
  PE X (.Call (.Name x p) args [] pos) (RO X.K ex (evO cl mv (.call f es))):=by
 have pa:=iz es X ex G args g hst
 have pe:=rl (p:=p) (pos:=pos) g h1 h2 hst pa (fun e σ H Q ⟨S,τ,hs,q⟩=>by
  subst e
  induction es using zL with
  | nil=>exact q.ok [] H (.refl _) .nil
  | cons _ _=>cases hst)
 refine cT pe fun σ H Q ⟨F,τ,fo,fok,r,nd,q⟩=>?_;have q':PO' ex (bnd (cX cl es τ) fun ds=>bnd (cl f (ers ds)) fun d=>if dP d=true then .ok (d,τ) else .ok (d,frz (cF es) τ)) (fun p=>∀ v H' F' fv f',Ow X.K F H fo F' H' σ v p.1 fv p.2 f'->Q v H'):=q
 -- read without giving up
 have borrow:(∀ ds,cX cl es τ=.ok ds->PO' ex (cl f (ers ds)) fun d=>dP d=true/\∀ v H' F' fv f',Ow X.K F H fo F' H' σ v d fv τ f'->Q v H')->PO' ex (cX cl es τ) (fun _=>True)->RA X.K ex (cF es) (cX cl es) σ H (fun vs H1=>spP X.K ex cl f vs H1 Q):=by intro hk hok;refine iu (.refl _) (dM r) hok.eq fun ds vs H1 e1 _ m1 q1=>?_;refine⟨fun a=>H1 a≠none,ds,fun a h=>h,m1.step (fun a xs h rd=>⟨rd.some,rd⟩) fun a xs h=>h,(hk ds q1.1).mono fun d hd v H' F' fv o=>?_⟩;obtain⟨k1,k2,k3⟩:=g7 fok r (e1.trans o.same);have nw:∀ a∈fv,H a=none:=fun a ha=>e1.free (o.new a ha);refine hd.2 v H' F fv fo ⟨k3,k1,o.rep.aownF hd.1 fun a ha z=>fok a z (nw a ha),k2,List.nodup_append.mpr ⟨o.nod,nd,fun a h1 b h2 e=>?_⟩,fun a ha=>(List.mem_append.mp ha).elim (fun z=>.inr (nw a z)) .inl⟩;subst e;obtain⟨_,u,hu⟩:=r.own a h2;rw[nw a h1] at hu;cases hu
 cases z:cX cl es τ with
 | error er=>
  rw[z] at q';cases er with
  | stuck=>exact q'.no.elim
  | exc c=>exact borrow (fun ds h=>by rw[z] at h;cases h) (by rw[z];exact q')
 | ok ds=>
  rw[z] at q';have q1:PO' ex (bnd (cl f (ers ds)) fun d=>if dP d=true then .ok (d,τ) else .ok (d,frz (cF es) τ)) (fun p=>∀ v H' F' fv f',Ow X.K F H fo F' H' σ v p.1 fv p.2 f'->Q v H'):=q';cases zc:cl f (ers ds) with
  | error er=>
   rw[zc] at q1;cases er with
   | stuck=>exact q1.no.elim
   | exc c=>exact borrow (fun ds' h=>by rw[z] at h;cases h;rw[zc];exact q1) (by rw[z];trivial)
  | ok d=>
   rw[zc] at q1;have q2:PO' ex (if dP d=true then .ok (d,τ) else .ok (d,frz (cF es) τ)) (fun p=>∀ v H' F' fv f',Ow X.K F H fo F' H' σ v p.1 fv p.2 f'->Q v H'):=q1;by_cases hl:dP d=true
   ·rw[if_pos hl] at q2;exact borrow (fun ds' h=>by rw[z] at h;cases h;rw[zc];exact⟨hl,q2.ok⟩) (by rw[z];trivial)
   ·rw[if_neg hl] at q2;obtain⟨F1,gg,b1,b2,b3,b4,b5,b6⟩:=e9 (cF es) fok r nd;refine iu (Kt:=fun ds'=>ds'=ds) (.refl _) b6 (by rw[z];rfl) fun ds' vs H1 e1 _ m1 e=>?_;subst e;have hm:HReps X.K (fun a=>F1 a∨(True/\H a=none/\H1 a≠none)) H1 vs ds':=m1.step (fun a xs h r=>⟨h.elim (fun z=>.inl z) fun z=>.inr ⟨trivial,z,r.some⟩,r⟩) fun a xs h=>h;obtain⟨c1,c2,c3⟩:=grow (fun _=>True) b1 b2 e1;refine⟨_,ds',c1,hm,?_⟩;rw[zc];intro v H' F' fv o;have s1:Stp (fun a=>F1 a∨(True/\H a=none/\H1 a≠none)) H1 gg F' H':=⟨o.same,o.inn,fun a h=>(o.out a h).elim (fun z=>.inl z) fun z=>.inr (.inr z)⟩
    have r2:Rps X.K F' H' σ (frz (cF es) τ) gg:=c2.step (fun a xs q rd=>⟨o.inn a q,o.same.rd rd⟩) (fun a xs q=>o.same.seqT q) fun a ha n hn=>by
     obtain⟨_,xs,e⟩:=c2.own a ha;refine⟨fun z=>?_,(o.same _ _ e).trans e.symm⟩;rcases o.out a z with z|z
     ·exact n z
     ·exact hn z
    refine q2.ok v H' F' fv gg ⟨(b4.trans c3 (fun x hx=>.inl (b5 x hx))).trans s1 (fun x hx=>.inl (b5 x hx)),o.fok,o.rep,r2,?_,fun a ha=>?_⟩
    ·refine List.nodup_append.mpr ⟨o.nod,b3,fun a h1 b h2 e=>?_⟩;subst e;obtain⟨_,xs,e⟩:=c2.own a h2;rw[o.new a h1] at e;cases e
    ·rcases List.mem_append.mp ha with ha|ha
     ·exact .inr (e1.free (o.new a ha))
     ·exact .inl (b5 a ha)
theorem dA {a:IR}{e:Expr}(he:PE X e (RD X.K ex (vars a) (evR cl a)))(hN:dm a=true->PE X e (RN X.K ex (vars a) fun τ=>bnd (evR cl a τ) gu)):PE X e (RO X.K ex fun τ=>bnd (evR cl a τ) fun d=>.ok (dn a d τ)):=by
 intro pins s σ H Q I h;obtain⟨F,τ,fo,fok,r,nd,q⟩:=h
 replace q:PO' ex (bnd (evR cl a τ) fun d=>.ok (dn a d τ)) (fun p=>∀ v H' F' fv f',Ow X.K F H fo F' H' σ v p.1 fv p.2 f'->Q v H'):=q
 have rd:RD X.K ex (vars a) (evR cl a) σ H Q->wpAny (model X.prog X.w) X.A (eval e X.env) (EP X pins σ Q) X.xe s:=fun h=>he pins s σ H Q I h;cases z:evR cl a τ with
 | error er=>
  rw[z] at q;cases er with
  | stuck=>exact q.no.elim
  | exc c=>exact rd ⟨fun _=>True,τ,dM r,by rw[z];exact q⟩
 | ok d=>
  rw[z] at q;have q1:∀ v H' F' fv f',Ow X.K F H fo F' H' σ v (dn a d τ).1 fv (dn a d τ).2 f'->Q v H':=q;by_cases hl:dE d=true
  ·unfold dn at q1;rw[if_pos hl] at q1;refine rd ⟨fun _=>True,τ,dM r,?_⟩;rw[z];intro v H' e m;obtain⟨k1,k2,k3⟩:=g7 fok r e;exact q1 v H' F [] fo ⟨k3,k1,m.free hl,k2,by simpa using nd,fun a ha=>.inl (by simpa using ha)⟩
  ·have other:dn a d τ=(er d,frz (vars a) τ)->wpAny (model X.prog X.w) X.A (eval e X.env) (EP X pins σ Q) X.xe s:=fun hk=>by rw[hk] at q1;obtain⟨F1,gg,b1,b2,b3,b4,b5,b6⟩:=e9 (vars a) fok r nd;refine rd ⟨F1,τ,b6,?_⟩;rw[z];intro v H' e m;obtain⟨c1,c2,c3⟩:=grow (fun _=>True) b1 b2 e;exact q1 v H' _ [] gg ⟨b4.trans c3 (fun x hx=>.inl (b5 x hx)),c1,m.fix.frozen,c2,by simpa using b3,fun a ha=>.inl (b5 a (by simpa using ha))⟩
   by_cases hn:dm a=true
   ·induction d using zD with
    | lst o ds=>
     by_cases hi:cU ds=true
     ·have hk:dn a (.lst o ds) τ=(.lst true ds,τ):=by unfold dn;rw[if_neg hl,hn];show (if cU ds=true then _ else _)=_;rw[if_pos hi]
      rw[hk] at q1;refine hN hn pins s σ H Q I ⟨fun _=>True,τ,dM r,?_⟩;show PO' ex (bnd (evR cl a τ) gu) _;rw[z];intro p ys H' e hp hy m;obtain⟨k1,k2,k3⟩:=g7 fok r e;refine q1 (.ref p) H' F [p] fo ⟨k3,k1,.lstO (fun zz=>fok p zz hp) hy (m.free hi),k2,?_,fun a ha=>?_⟩
      ·rw[List.singleton_append,List.nodup_cons];refine⟨fun zz=>?_,nd⟩;obtain⟨_,xs,e⟩:=r.own p zz;rw[hp] at e;cases e
      ·rw[List.singleton_append] at ha;rcases List.mem_cons.mp ha with rfl|ha
       ·exact .inr hp
       ·exact .inl ha
     ·have hk:dn a (.lst o ds) τ=(.lst true (ers ds),frz (vars a) τ):=by unfold dn;rw[if_neg hl,hn];show (if cU ds=true then _ else _)=_;rw[if_neg hi]
      rw[hk] at q1;obtain⟨F1,gg,b1,b2,b3,b4,b5,b6⟩:=e9 (vars a) fok r nd;refine hN hn pins s σ H Q I ⟨F1,τ,b6,?_⟩;show PO' ex (bnd (evR cl a τ) gu) _;rw[z];intro p ys H' e hp hy m;obtain⟨c1,c2,c3⟩:=grow (fun a=>a≠p) b1 b2 e;have m2:HReps X.K (fun a=>F1 a∨(a≠p/\H a=none/\H' a≠none)) H' ys ds:=m.step (fun a xs h r=>⟨h.1.elim (fun z=>.inl z) fun z=>.inr ⟨h.2,z,r.some⟩,r⟩) fun a xs h=>h;refine q1 (.ref p) H' _ [p] gg ⟨b4.trans c3 (fun x hx=>.inl (b5 x hx)),c1,.lstO (fun zz=>?_) hy m2.frozen,c2,?_,fun a ha=>?_⟩
      ·rcases zz with zz|zz
       ·exact b1 p zz hp
       ·exact zz.1 rfl
      ·rw[List.singleton_append,List.nodup_cons];refine⟨fun zz=>?_,b3⟩;obtain⟨_,xs,e⟩:=b2.own p zz;rw[hp] at e;cases e
      ·rw[List.singleton_append] at ha;rcases List.mem_cons.mp ha with rfl|ha
       ·exact .inr hp
       ·exact .inl (b5 a ha)
    | _=>refine other ?_;unfold dn;rw[if_neg hl,hn]
   ·have hn':dm a=false:=by simpa using hn
    refine other ?_;unfold dn;rw[if_neg hl,hn']
theorem A1 {a b:Expr}{pos:Pos}{va vb:List Nat}{fa fb:Ev->Res D}(ha:PE X a (RD X.K ex va fa))(hb:PE X b (RD X.K ex vb fb)) :
  PE X (.BinOp a .Add b pos) (RN X.K ex (va++vb) fun τ=>bnd (bnd (fa τ) fun x=>bnd (fb τ) fun y=>opB .add x y) gu):=by
 refine cT (qm n5 ha hb) fun σ H Q ⟨S,τ,hs,q⟩=>?_;refine di (.refl _) hs.left (PO'.bnd (PO'.bnd q)) fun x v H1 e1 _ m1 q1=>?_;refine di e1 hs.right (PO'.bnd q1) fun y w H2 e2 e2' m2 q2=>?_;have stuck:∀ {P:Prop},opB .add x y=stk->P:=fun z=>by rw[z] at q2;exact q2.no.elim
 induction x using zD with
 | int a=>induction y using zD with
  | int b=>exact q2.ok.no.elim
  | _=>exact stuck rfl
 | str a=>induction y using zD with
  | str b=>exact(PO'.grd q2).2.ok.no.elim
  | _=>exact stuck rfl
 | lst o a=>induction y using zD with
  | lst o' b=>obtain⟨p,xs,rfl,h1,n1⟩:=m1.lstL;obtain⟨p',ys,rfl,h2,n2⟩:=m2.lstL;obtain⟨gd,q3⟩:=PO'.grd q2;have g':=dS gd;have l1:=n1.length;have l2:=n2.length;have h1':Ls X.K H2 p xs:=h1.elim (fun z=>.inl (e2'.rd z)) .inr;exact⟨p,p',xs,ys,rfl,rfl,h1',h2,by omega,fun z hz=>q3.ok.ok z _ _ (e2.trans (.upd hz)) (e2.free hz) cP (pY ((n1.later e2').append n2) hz)⟩
  | _=>exact stuck rfl
 | _=>exact stuck rfl
theorem A2 {a b:Expr}{pos:Pos}{va vb:List Nat}{fa fb:Ev->Res D}(ha:PE X a (RD X.K ex va fa))(hb:PE X b (RD X.K ex vb fb)) :
  PE X (.BinOp a .Mult b pos) (RN X.K ex (va++vb) fun τ=>bnd (bnd (fa τ) fun x=>bnd (fb τ) fun y=>opB .mul x y) gu):=by
 refine cT (qm n6 ha hb) fun σ H Q ⟨S,τ,hs,q⟩=>?_;refine di (.refl _) hs.left (PO'.bnd (PO'.bnd q)) fun x v H1 e1 _ m1 q1=>?_;refine di e1 hs.right (PO'.bnd q1) fun y w H2 e2 e2' m2 q2=>?_;have stuck:∀ {P:Prop},opB .mul x y=stk->P:=fun z=>by rw[z] at q2;exact q2.no.elim
 induction y using zD with
 | int b=>
  cases m2
  induction x using zD with
  | int a=>exact(PO'.grd q2).2.ok.no.elim
  | str a=>exact(PO'.grd q2).2.ok.no.elim
  | lst o a=>obtain⟨p,xs,rfl,h1,n1⟩:=m1.lstL;obtain⟨gd,q3⟩:=PO'.grd q2;have gd:=of_decide_eq_true gd;have h1':Ls X.K H2 p xs:=h1.elim (fun z=>.inl (e2'.rd z)) .inr;exact⟨p,b,xs,rfl,rfl,h1',gd.1,gd.2.1,by rw[n1.length];exact gd.2.2,fun z hz=>q3.ok.ok z _ _ (e2.trans (.upd hz)) (e2.free hz) cP (pY ((n1.later e2').rep b.toNat) hz)⟩
  | _=>exact stuck rfl
 | _=>induction x using zD<;>exact stuck rfl
theorem Df {a:Expr}{lo hi:Option Expr}{pos p2:Pos}{va vl vh:List Nat}{fa:Ev->Res D}{fl fh:Ev->Res (Option Int)}(ha:PE X a (RD X.K ex va fa))(hl:PO X lo (ROp X.K ex vl fl))(hh:PO X hi (ROp X.K ex vh fh)) :
  PE X (.Subscript a (.Slice lo hi none p2) pos) (RN X.K ex (va++vl++vh) fun τ=>bnd (bnd (fa τ) fun x=>bnd (fl τ) fun l=>bnd (fh τ) fun h=>lJ x l h) gu):=by
 refine cT (lu nQ ha hl hh) fun σ H Q ⟨S,τ,hs,q⟩=>?_;refine di (.refl _) hs.left.left (PO'.bnd (PO'.bnd q)) fun x v H1 e1 _ m1 q1=>?_;refine uL e1 hs.left.right (PO'.bnd q1) fun l H2 e2 e2' q2=>?_;refine uL e2 hs.right (PO'.bnd q2) fun h H3 e3 e3' q3=>?_
 induction x using zD with
 | lst o ds=>obtain⟨p,xs,rfl,h1,n1⟩:=m1.lstR;exact⟨p,xs,rfl,(e2'.trans e3').seq h1,fun z hz=>q3.ok.ok z _ _ (e3.trans (.upd hz)) (e3.free hz) cP (pY (n9 l h (n1.later (e2'.trans e3'))) hz)⟩
 | str _=>exact(PO'.grd q3).2.ok.no.elim
 | _=>exact q3.no.elim
theorem jH (hc:X.calm=true):eS X (.type "list") (fun xs H Q=>(∃ p ys,xs=[.ref p]/\(SqL X.K H p ys∨SqT X.K H p ys)/\∀ l,H l=none->Q (.ref l) (upd H l (.lst ys)))∨∃ (p:Addr) (kvs:List (Key×V)),xs=[.ref p]/\Rd H p (.dK kvs)/\∀ l,H l=none->Q (.ref l) (upd H l (.lst (kvs.map fun q=>kV q.1)))):=by
 intro pins s σ H xs us Q I r h;rcases h with h|h
 ·exact fS pins s σ H xs us Q I r h
 ·exact i7 hc pins s σ H xs us Q I r h
theorem yO (g:GOk Z CX cl xp X ex G){p pos:Pos}{es:List IR}{a:Expr}{args:List Expr}(hg:G.glc (j7 .list)=true)(hst:cW Z G es (a::args)=true)(h:PA X (a::args) (RA X.K ex (cF es) (cX cl es))) :
  PE X (.Call (.Name (fY .list) p) (a::args) [] pos) (RN X.K ex (cF es) fun τ=>bnd (bnd (cX cl es τ) fun ds=>fK .list ds) gu):=by
 obtain⟨k1,k2,k3,k4⟩:=fC g (qV .list) (kE hg)
 induction es using zL with
 | nil=>cases hst
 | cons b es=>
  have hst':(notStar a&&chk Z G b a&&cW Z G es args)=true:=hst;simp only[Bool.and_eq_true] at hst';refine cT (ia (jH (g.calm (kF hg))) k1 k2 (oa .list) h k3 k4 (cE hst'.1.1 args X.env) (dF Z G (es:=es) pos X.env hst'.2)) fun σ H Q ⟨S,τ,hs,q⟩=>?_;refine iu (.refl _) hs (PO'.bnd (PO'.bnd q)) fun ds vs H1 e1 _ m1 q1=>?_;have stuck:∀ {P:Prop},fK .list ds=stk->P:=fun z=>by rw[z] at q1;exact q1.no.elim
  match ds,m1 with
  | [],_=>exact stuck rfl
  | d::_::_,_=>exact stuck (by induction d using zD<;>rfl)
  | [d],m1=>
   obtain⟨x,rfl,hd⟩:=m1.one1
   induction d using zD with
   | tup ds=>obtain⟨a,ys,rfl,q',m⟩:=hd.tupR;exact .inl ⟨a,ys,rfl,.inr q',fun z hz=>q1.ok.ok z _ _ (e1.trans (.upd hz)) (e1.free hz) cP (pY m hz)⟩
   | lst o ds=>obtain⟨a,ys,rfl,q',m⟩:=hd.lstR;exact .inl ⟨a,ys,rfl,.inl q',fun z hz=>q1.ok.ok z _ _ (e1.trans (.upd hz)) (e1.free hz) cP (pY m hz)⟩
   | dct o ks ds=>
    cases hd with
    | dct h0 h1 h2 h3=>subst h2;exact .inr ⟨_,_,rfl,h1,fun l hl=>q1.ok.ok l _ _ (e1.trans (.upd hl)) (e1.free hl) cP (pY (gY _) hl)⟩
   | _=>exact stuck rfl
end
section
variable {P:Program}{w:World}{K:PySem.W.Frag}{F F':Addr->Prop}{H H':Hp}{h g:Heap}{f0:List Addr}
theorem gQ {b:Addr}(e:b∈f0):rmS f0 H b=none:=if_pos e
theorem dI {b:Addr}(e:b∉f0):rmS f0 H b=H b:=if_neg e
theorem me {b:Addr}{u:HO}(e:rmS f0 H b=some u):H b=some u/\b∉f0:=by
 by_cases hb:b∈f0
 ·rw[gQ hb] at e;cases e
 ·rw[dI hb] at e;exact⟨e,hb⟩
theorem nr:cO (rmS f0 H) H:=fun _ _ e=>(me e).1
theorem dB.no (o:dB H f0){b:Addr}{u:HO}(e:H b=some u)(n:∀ v:LD,u≠v.o)(n':∀ x,u≠.own x):b∉f0:=fun hb=>by
 rcases o b hb with ⟨v,h1,_⟩|⟨a,_,h2⟩
 ·rw[e] at h1;cases h1;exact n v rfl
 ·rw[e] at h2;cases h2;exact n' a rfl
theorem dB.noT (o:dB H f0){b:Addr}{xs:List V}(e:H b=some (.tup xs)):b∉f0:=o.no e (fun v z=>by cases v<;>cases z) fun x z=>by cases z
theorem dB.noF (o:dB H f0){b:Addr}{ob:Obj}{u:HO}(e:H b=some (.frz ob u)):b∉f0:=o.no e (fun v z=>by cases v<;>cases z) fun x z=>by cases z
theorem nt (x:HOk P w H h)(o:dB H f0):HOk P w (rmS f0 H) h:=fun b u q=>by
 obtain⟨q1,q2⟩:=me q;refine(x b u q1).stay (fun _ _ _ z=>z) (fun c z=>?_) fun c xs z=>by rw[dI (o.noT z)];exact z
 rw[dI fun hc=>?_]
 ·exact z
 ·rcases o c hc with ⟨v,h1,_⟩|⟨a,h1,h2⟩
  ·rw[z] at h1;cases v<;>cases h1
  ·rw[z] at h2;cases h2;exact q2 h1
noncomputable def giv (f0:List Addr)(h:Heap)(H:Hp):Hp:=fun b=>if b∈f0 then H b else cV h (rmS f0 H) b
theorem kL {b:Addr}(e:b∈f0):giv f0 h H b=H b:=if_pos e
theorem gR {b:Addr}(e:b∉f0):giv f0 h H b=cV h (rmS f0 H) b:=if_neg e
theorem uV {b:Addr}{u:HO}(e:cV h (rmS f0 H) b=some u):b∉f0:=fun hb=>by rw[dQ (gQ hb)] at e;cases e
theorem g8:cO (cV h (rmS f0 H)) (giv f0 h H):=fun b u e=>by rw[gR (uV e)];exact e
theorem gv (o:dB H f0){b:Addr}(e:H b=none):giv f0 h H b=none:=by
 by_cases hb:b∈f0
 ·rw[kL hb];exact e
 ·rw[gR hb];exact dQ (by rw[dI hb];exact e)
theorem yQ:rmS f0 (giv f0 h H)=cV h (rmS f0 H):=by
 funext b;by_cases hb:b∈f0
 ·rw[gQ hb,dQ (gQ hb)]
 ·rw[dI hb,gR hb]
theorem yR (x:HOk P w H h)(o:dB H f0):HOk P w (giv f0 h H) h:=fun b u q=>by
 by_cases hb:b∈f0
 ·rw[kL hb] at q;rcases o b hb with ⟨v,h1,h2⟩|⟨a,h1,h2⟩
  ·rw[q] at h1;cases h1;refine gZ (by cases v<;>rfl) (x b _ q) fun C dx fs e hd=>?_;have:v=.i C dx fs:=by cases v<;>cases e;rfl
   rw[kL (h2 C dx fs this)];exact hd
  ·rw[q] at h2;cases h2;exact x b _ q
 ·rw[gR hb] at q;exact(m7 (nt x o) b u q).stay (fun _ _ _ z=>z) (fun c z=>g8 _ _ z) fun c xs z=>g8 _ _ z
theorem yS (x:HOk P w H h){a:Addr}{u:LD}(r:Rd H a u.o):Rd (cV h H) a u.o:=by
 rcases r with r|⟨o,r⟩
 ·obtain⟨ob,he⟩:=(x a _ r).at
  refine .inr ⟨ob,?_⟩;unfold cV;rw[r];cases u with
  | l ys=>show (h.get? a).map _=_;rw[he];rfl
  | d ys=>show (h.get? a).map _=_;rw[he];rfl
  | i C dx fs=>show (h.get? a).map _=_;rw[he];rfl
 ·refine .inr ⟨o,?_⟩;unfold cV;rw[r];cases u<;>rfl
theorem nu (o:dB H f0):Cl H (rmS f0 H):=⟨fun b ob e=>by rw[dI (o.noF e)];exact e,fun b xs e=>by
 unfold Rd;rw[dI (e.elim (fun z=>o.noT z) fun ⟨_,z⟩=>o.noF z)]
 exact e⟩
theorem rm (o:dB H f0):Cl H (giv f0 h H):=(nu o).trans (qU.trans g8.cl)
theorem nv {b:Addr}{u:HO}(n:b∉f0)(r:Rd H b u):Rd (rmS f0 H) b u:=by unfold Rd;rw[dI n];exact r
theorem rp (x:HOk P w H h)(o:dB H f0){b:Addr}{u:LD}(n:b∉f0)(r:Rd H b u.o):Rd (giv f0 h H) b u.o/\cV h (rmS f0 H) b≠none:=by have r2:=yS (nt x o) (nv n r);exact⟨g8.rd r2,r2.some⟩
end
section
variable {Z:Sg}{CX:CXT}{cl:Nat->List D->Res D}{xp:XK->Hp->EX->Prop}{X:Cx}{ex:EX->Prop}{G:Gm}
def spJ (K:PySem.W.Frag)(cl:Nat->List D->Res D)(f:Nat)(vs:List V)(H:Hp)(Q:VK):Prop:=∃ a d0 f0 F ws ds,vs=.ref a::ws/\ArgI K a d0 f0 F H ws ds/\
 ∃ d d1,cl f (d0::ers ds)=.ok (.tup [d,d1])/\∀ v H' F' fv f1,OutI K a f0 F H F' H' v d fv d1 f1->Q v H'
theorem oA (g:GOk Z CX cl xp X ex G){A':Around}{k:Nat}{f:Nat}{fa:Addr}{fd:FuncData}{ps:List Str}{pins:List (Addr×Obj)}{σ:St}{H:Hp}{s:Shared}{Q:VK}{us:List Value}{vs:List V}
  (F:FnOk X.prog X.w X.K X.mg X.base CX k fa fd ps (spI X.K cl f ps)) (hr:Room k A') (hb:Binds X.K fd ps []) (hlen:∀ ds r,cl f ds=.ok r->ds.length=ps.length)
  (hA:∀ H',Env0 X.prog X.w X.K X.mg X.base X.A X.stack s H'->Env0 X.prog X.w X.K X.mg X.base A' X.stack s H')
  (I:Inv X pins σ H s) (r:Vals vs us) (q:spJ X.K cl f vs H Q):codeAny (model X.prog X.w) A' (.call (.ref fa) ⟨us,[]⟩) (fun r s'=>∃ u,r=.ok (.ret u)/\EP X pins σ Q u s') s:=by
 obtain⟨a,d0,f0,Fc,ws,ds,rfl,A,d,d1,hc,q⟩:=q;have o:=A.m0.ownU;have hl:(V.ref a::ws).length=ps.length:=by have:=hlen _ _ hc;rw[List.length_cons,de] at this;rw[List.length_cons,A.ws.length];exact this
 have x:=I.hok;have x1:=nt x o;have nf:∀ b,Fc b->b∉f0:=fun b hb z=>(A.m0.own b z).1 hb;have e0:=I.env0;have env:Env0 X.prog X.w X.K X.mg X.base X.A X.stack s (giv f0 s.heap H):=⟨e0.frames,e0.mod,fun b ob e=>⟨(e0.bs b ob e).1,gv o (e0.bs b ob e).2⟩,e0.bsz,e0.funs,fun b hb=>gv o (e0.frf b hb),yR x o,e0.bare⟩
 have hlR:∀ b (u:LD),Fc b->Rd H b u.o->(Fc b/\cV s.heap (rmS f0 H) b≠none)/\Rd (giv f0 s.heap H) b u.o:=fun b u hb rd=>⟨⟨hb,(rp x o (nf b hb) rd).2⟩,(rp x o (nf b hb) rd).1⟩
 have m0:MRep X.K (fun b=>Fc b/\cV s.heap (rmS f0 H) b≠none) (giv f0 s.heap H) (.ref a) d0 f0:=A.m0.step hlR (fun b xs h=>h.cl (rm o)) fun b hb n _=>⟨fun z=>n z.1,kL hb⟩
 have mw:HReps X.K (fun b=>Fc b/\cV s.heap (rmS f0 H) b≠none) (giv f0 s.heap H) ws ds:=A.ws.step hlR fun b xs h=>h.cl (rm o);have hl2:(us++([]:List Value)).length=ps.length:=by rw[List.append_nil,<- r.length];exact hl
 have bd:=hb s us I.kIn hl2;rw[List.append_nil] at bd;have hsp:spI X.K cl f ps (.ref a::ws) (giv f0 s.heap H) (fun v H'=>∃ F' fv f1,OutI X.K a f0 (fun b=>Fc b/\cV s.heap (rmS f0 H) b≠none) (giv f0 s.heap H) F' H' v d fv d1 f1) (fun _ _ _=>False):=
  ⟨hl,a,d0,f0,_,ws,ds,rfl,⟨fun b hb=>by rw[gR (nf b hb.1)];exact hb.2,A.nod,m0,mw⟩,d,d1,hc,fun v H' F' fv f1 o=>⟨F',fv,f1,o⟩⟩
 refine codeAny_mono (F.run A' X.stack s _ ⟨us,[]⟩ us _ _ _ hr (hA _ env) bd r hsp) fun r' s' hq=>?_;cases r' with
 | error e=>exact(g.exn _ _ _ _ _ hq).elim
 | ok fl=>
  cases fl with
  | ret u=>
   obtain⟨v,H',a1,a2,a3,a4,a5,F',fv,f1,oi⟩:=hq;have oo:=oi.out;have oin:=oi.in1;rw[yQ] at oo oin
   have p:Pers s.heap (rmS f0 H) H':=⟨fun b ob u e=>oo.same _ _ e,fun b xs e=>oo.same _ _ e,fun b x e=>oo.same _ _ e,fun b ob e n z=>by
    have hb:b∉f0:=fun hb=>n (gQ hb)
    exact a3.free b ob e (by rw[gR hb];exact z) (by simp)⟩
   have fokr:FOk Fc (rmS f0 H):=fun b hb=>by rw[dI (nf b hb)];exact A.fok b hb
   have o2:=iS x1 fokr p oo;have o3:=iS x1 fokr p (v:=.ref a) (d:=d1) (fv:=f1) ⟨oo.fok,oo.same,oi.m1,(List.nodup_append.mp oi.nd).2.1,oin,oo.inn,oo.out⟩
   have un:Un (frs X.stack) [] H (gC (rmS f0 H) H') s.heap s'.heap:=⟨fun b ob e n=>a3.keep b ob e (gv o n),fun b ob e n=>a3.slot b ob e (gv o n),fun b ob e n hx=>by
    rw[res_none (nr.free n)]
    exact a3.free b ob e (gv o n) hx,a3.there,fun b xs e=>res_some (by rw[dI (o.noT e)];exact e),fun b ob u e=>res_some (by rw[dI (o.noF e)];exact e),fun b ps e=>⟨#[],by
    rw[res_some (o:=.tbl ps) (by rw[dI (o.no e (fun v z=>by cases v<;>cases z) fun x z=>by cases z)];exact e)];simp⟩⟩
   have hok:HOk X.prog X.w (gC (rmS f0 H) H') s'.heap:=m8 x1 a4 p (fs:=frs X.stack) (fun b ob n e z f=>a3.keep b ob e (by rw[gR fun hb=>n (gQ hb)];exact z) f (by simp)) fun b hb=>nr.free (e0.frf b hb);exact⟨u,rfl,I.after (Q:=Q) ⟨v,_,a1,a2,un,hok,a5,q v _ _ fv f1 ⟨o2,o3.rep,oi.nd,o3.new⟩⟩⟩
  | next=>exact False.elim hq
  | brk=>exact False.elim hq
  | cont=>exact False.elim hq
theorem Room.less {k:Nat}{A:Around}(r:Room (k+1) A)(h:k % 1000≠999):Room k A:=
 ⟨fun z=>r.hd (by omega),by have:=r.dp;omega,by have:=r.un;omega⟩
theorem Room.made {k:Nat}{A:Around}(r:Room (k+1) A)(h:k % 1000≠999)(C:Addr)(us:List Value)(kw:List (Str×Value)):Room k (A.under (.builtin "type.__call__" ⟨.ref C::us,kw⟩)):=
 ⟨fun z=>r.hd (by omega),by have:=r.dp;show A.depth+1+3*(k % 1000)+5 < recursionLimit;omega,by have:=r.un;show A.units+1+16*(k % 1000)+200 < cLine;omega⟩
theorem run_mk (g:GOk Z CX cl xp X ex G){k:Nat}{f:Nat}{C fa:Addr}{fd:FuncData}{ps:List Str}{pins:List (Addr×Obj)}{σ:St}{H:Hp}{s:Shared}{Q:VK}{us:List Value}{vs:List V}(M:Mk X.K C fa)
  (F:FnOk X.prog X.w X.K X.mg X.base CX k fa fd ps (spI X.K cl f ps)) (hr:Room (k+1) X.A) (hk:k % 1000≠999) (hb:Binds X.K fd ps []) (hlen:∀ ds r,cl f ds=.ok r->ds.length=ps.length)
  (I:Inv X pins σ H s) (r:Vals vs us) (q:∀ x dx,H x=none->H dx=none->dx≠x->spJ X.K cl f (.ref x::vs) (upd (upd H dx (.own x)) x (.ins C dx [])) (fun v H2=>v=.non/\Q (.ref x) H2)) :
  wpAny (model X.prog X.w) X.A (call (.ref C) us) (EP X pins σ Q) X.xe s:=by
 have hq:=q (s.heap.objs.size+1) s.heap.objs.size (I.hok.fresh (Nat.le_succ _)) (I.hok.fresh (Nat.le_refl _)) (Nat.ne_of_lt (Nat.lt_succ_self _));have I2:=Inv.made (C:=C) I;refine wpAny_call (qu (f:=fa) I.kIn M.makes M.init (beq_iff_eq.mp M.fn) (codeAny_mono (oA g (us:=Value.ref (s.heap.objs.size+1)::us) (vs:=V.ref (s.heap.objs.size+1)::vs) F (hr.made hk C us []) hb hlen (fun H' e=>e.make C us []) I2 (.cons rfl r) hq) fun r s' ⟨u,e,h⟩=>?_));subst e;obtain⟨v,H',I3,rv,ev,q3⟩:=h;subst ev;exact⟨rv,⟨V.ref (s.heap.objs.size+1),H',I3,rfl,q3⟩⟩
theorem A3 (g:GOk Z CX cl xp X ex G){n f:Nat}{c x:Str}{p pos:Pos}{es:List IR}{args:List Expr}(h1:gD Z G n x=true)(hf:(n,c,f)∈Z.omk)(hcm:G.cm=true)(hst:cW Z G es args=true) :
  PE X (.Call (.Name x p) args [] pos) (fun σ H Q=>RA X.K ex (cF es) (cX cl es) σ H fun vs H1=>∀ C x dx,OC X.K c C->H1 x=none->H1 dx=none->dx≠x->spJ X.K cl f (.ref x::vs) (upd (upd H1 dx (.own x)) x (.ins C dx [])) (fun v H2=>v=.non/\Q (.ref x) H2)):=by
 obtain⟨k1,k2,k3,k4⟩:=oq g h1;obtain⟨k,fa',fd,ps,⟨C,oc,hm,M⟩,hb,F,hr,hk,hlen⟩:=(g.fmk n c f x hf hcm k2).ex;have pa:=iz es X ex G args g hst;intro pins s σ H Q I q;refine wpAny_Call_Name_kw (iO I k1 hm ?_ k4)
 induction args using zL with
 | nil=>
  induction es using zL with
  | cons _ _=>cases hst
  | nil=>obtain⟨S,τ,hs,q⟩:=q;have q1:=q.ok [] H (.refl _) .nil;exact PySem.W.callWith_K0 I.kIn M.kp (run_mk (us:=[]) g M F hr hk hb hlen I .nil fun x dx e1 e2 e3=>q1 C x dx oc e1 e2 e3)
 | cons e l=>
  induction es using zL with
  | nil=>cases hst
  | cons a r=>have hst':(notStar e&&chk Z G a e&&cW Z G r l)=true:=hst;simp only[Bool.and_eq_true] at hst';refine PySem.W.callWith_K (h₀:=X.base) I.ok.mod.kin M.kp (thn (pa pos pins s σ H _ I q) fun us s1 ⟨vs,H1,I1,rr,q1⟩=>⟨I1.kIn,?_⟩) (cE hst'.1.1 l X.env) (dF Z G (es:=r) pos X.env hst'.2);exact run_mk g M F hr hk hb hlen I1 rr fun x dx e1 e2 e3=>q1 C x dx oc e1 e2 e3
theorem MRep.nonR {K:PySem.W.Frag}{F:Addr->Prop}{H:Hp}{v:V}{f:List Addr}(h:MRep K F H v .non f):v=.non:=by cases h;rfl
theorem o_omk (g:GOk Z CX cl xp X ex G){n f:Nat}{c x:Str}{p pos:Pos}{es:List IR}{args:List Expr}(h1:gD Z G n x=true)(hf:(n,c,f)∈Z.omk)(hcm:G.cm=true)(hst:cW Z G es args=true)(mv:Bool) :
  PE X (.Call (.Name x p) args [] pos) (RO X.K ex (evO cl mv (.omk n f c es))):=by
 refine cT (A3 (p:=p) (pos:=pos) g h1 hf hcm hst) fun σ H Q ⟨F,τ,fo,fok,r,nd,q⟩=>?_;have q':PO' ex (bnd (cX cl es τ) fun ds=>bnd (noX (cl f (.obj true c [] []::ers ds))) (mZ (frz (cF es) τ))) (fun p=>∀ v H' F' fv f',Ow X.K F H fo F' H' σ v p.1 fv p.2 f'->Q v H'):=q;obtain⟨F1,gg,b1,b2,b3,b4,b5,b6⟩:=e9 (cF es) fok r nd;refine iu (.refl _) b6 (PO'.bnd q') fun ds vs H1 e1 _ m1 q1=>?_;intro C x dx oc hx hdx hne;have hm:HReps X.K (fun a=>F1 a∨(True/\H a=none/\H1 a≠none)) H1 vs ds:=m1.step (fun a xs h r=>⟨h.elim (fun z=>.inl z) fun z=>.inr ⟨trivial,z,r.some⟩,r⟩) fun a xs h=>h;obtain⟨c1,c2,c3⟩:=grow (fun _=>True) b1 b2 e1;generalize (fun a=>F1 a∨(True/\H a=none/\H1 a≠none))=F2 at hm c1 c2 c3;have sm:cO H1 (upd (upd H1 dx (.own x)) x (.ins C dx [])):=(cO.upd hdx).trans (.upd (by rw[cG (Ne.symm hne)];exact hx));have sr:cO H1 (rmS [x,dx] (upd (upd H1 dx (.own x)) x (.ins C dx []))):=fun b u e=>by have n1:b≠x:=cY e hx;have n2:b≠dx:=cY e hdx;rw[dI (by simp[n1,n2])];exact sm _ _ e
 have sn:∀ b,rmS [x,dx] (upd (upd H1 dx (.own x)) x (.ins C dx [])) b=none->H1 b=none:=fun b e=>sr.free e;cases zc:cl f (.obj true c [] []::ers ds) with
 | error er=>rw[zc] at q1;exact q1.no.elim
 | ok rr=>
  rw[zc] at q1;have q1:PO' ex (mZ (frz (cF es) τ) rr) (fun p=>∀ v H' F' fv f',Ow X.K F H fo F' H' σ v p.1 fv p.2 f'->Q v H'):=q1;unfold mZ at q1;split at q1
  ·rename_i c' ks vs'
   refine⟨x,_,[x,dx],F2,vs,ds,rfl,⟨fun a h z=>c1 a h (sm.free z),?_,.objO (fun z=>c1 x z hx) (fun z=>c1 dx z hdx) cP (by rw[cG hne,cP]) ⟨oc,rfl⟩ .nil,hm.mono (fun _ z=>z) sm⟩,.non,_,zc,fun v H' F' fv f1 oi=>?_⟩
   ·simp[Ne.symm hne]
   ·have o:=oi.out;have s1:cO H1 H':=sr.trans o.same;have ho:∀ a,F' a->F2 a∨H1 a=none:=fun a h=>(o.out a h).elim .inl fun z=>.inr (sn a z);refine⟨o.rep.nonR,q1.ok _ H' F' f1 gg ⟨(b4.trans c3 (fun x hx=>.inl (b5 x hx))).trans ⟨s1,o.inn,fun a h=>(ho a h).elim .inl fun z=>.inr (.inr z)⟩ (fun x hx=>.inl (b5 x hx)),o.fok,oi.m1,?_,?_,fun a ha=>?_⟩⟩
    ·exact c2.step (fun a xs q rd=>⟨o.inn a q,s1.rd rd⟩) (fun a xs q=>s1.seqT q) fun a ha n hn=>by obtain⟨_,u,e⟩:=c2.own a ha;exact⟨fun z=>(ho a z).elim n hn,(s1 _ _ e).trans e.symm⟩
    ·refine List.nodup_append.mpr ⟨(List.nodup_append.mp oi.nd).2.1,b3,fun a h1 b h2 e=>?_⟩;subst e;obtain⟨_,u,e⟩:=c2.own a h2;rw[sn a (oi.in1 a h1)] at e;cases e
    ·rcases List.mem_append.mp ha with ha|ha
     ·exact .inr (e1.free (sn a (oi.in1 a ha)))
     ·exact .inl (b5 a ha)
  ·exact q1.no.elim
end
section
variable {Z:Sg}{CX:CXT}{cl:Nat->List D->Res D}{xp:XK->Hp->EX->Prop}
theorem g9 {X:Cx}{ex:EX->Prop}{G:Gm}(g:GOk Z CX cl xp X ex G){i:Nat}{x:Str}{pos:Pos}(h:ez G i x=true):PE X (.Name x pos) (qb i):=by
 unfold ez at h;rw[Bool.and_eq_true] at h;have hx:G.N[i]? = some x:=eq_of_beq h.1;have hk:=g.kd i x hx;have hv:Vis X.env.scope x:=by
  have h2:=h.2;rw[Bool.or_eq_true,Bool.or_eq_true] at h2;rcases h2 with (h2|h2)|h2
  ·exact .inl (hk.trans (eq_of_beq h2))
  ·exact .inr (.inl (hk.trans (eq_of_beq h2)))
  ·exact .inr (.inr (hk.trans (eq_of_beq h2)))
 exact qc (i:=i) (by rw[g.N];exact hx) hv (g.noD i x hx).1 (g.noD i x hx).2
theorem yT {X:Cx}{ex:EX->Prop}{G G':Gm}{fr:List Nat}(g:GOk Z CX cl xp X ex G){scope:Scope}{tg iter elt:Expr}{ifs:List Expr}{pos:Pos}{T:Tg}{s:Sr}{I:List IR}{E:IR}(hs:ScOk Z G scope G' fr)(hT:eF G' T tg=true)(ha:∀ i∈tgs T,fr.length<=i)
  (hi:fF Z G s iter=true/\iN s tg=true) (ht:cW Z G' I ifs=true) (he:chk Z G' E elt=true) :
  PE X (.ListComp elt [⟨tg,iter,ifs,0⟩] scope pos) (RN X.K ex (vars (.comp G' fr T s I E)) fun τ=>bnd (evR cl (.comp G' fr T s I E) τ) gu):=by
 intro pins s' σ H Q Iv h;obtain⟨cl',S⟩:=iy g Iv.ok hs;have p:=nR (pos:=pos) (elt:=elt) (ifs:=ifs) (tg:=tg) (g:=gT X.K T) (tt:=RT X.K nox (cF I) (gL cl I)) (te:=RD X.K nox (vars E) (evR cl E)) (g.calm hs.cm) S (uT s X ex G iter tg g hi.1 hi.2) (fun C s H fp=>pgT (eC g hs cl' C s H fp) T tg hT)
  (fun C s H fp=>uS I _ nox G' ifs (eC g hs cl' C s H fp) ht) (fun C s H fp=>(snd E _ nox G' elt (eC g hs cl' C s H fp) he).1) (fun x=>fD hi.1 X.env x)
 refine p pins s' σ H Q Iv ?_;obtain⟨S0,τ,hsl,q⟩:=h;have q':=PO'.bnd (show PO' ex (bnd (evR cl (.comp G' fr T s I E) τ) gu) _ from q);rw[jq] at q';exact fN hs.fle ha hsl q' fun A ys ds H' e hA hA' m k=>k.ok A ys H' e hA hA' m
theorem yU {X:Cx}{ex:EX->Prop}{es:List Expr}{pos:Pos}{va:List Nat}{fa:Ev->Res (List D)}(h:PA X es (RA X.K ex va fa)):PE X (.List es pos) (RN X.K ex va fun τ=>bnd (bnd (fa τ) fun ds=>grd (dR ds.length) (.ok (.lst true ds))) gu):=by refine cT (mP h) fun σ H Q ⟨S,τ,hs,q⟩=>?_;refine iu (.refl _) hs (PO'.bnd (PO'.bnd q)) fun ds vs H1 e1 _ m1 q1=>?_;obtain⟨g,q1⟩:=PO'.grd q1;exact⟨by rw[m1.length];exact dS g,fun p hp=>q1.ok.ok p vs _ (e1.trans (.upd hp)) (e1.free hp) cP (m1.tight.mono (fun a z=>⟨z.1,fun e=>z.2 (by rw[e];exact hp)⟩) (.upd hp))⟩
theorem snN:∀ (a:IR) (X:Cx) (ex:EX->Prop) (G:Gm) (e:Expr),GOk Z CX cl xp X ex G->chk Z G a e=true->dm a=true->PE X e (RN X.K ex (vars a) fun τ=>bnd (evR cl a τ) gu):=by
 intro a X ex G e g h n;cases a with
 | bin op a b=>
  cases op with
  | add=>
   induction e using zE with
   | BinOp l o r pos=>have h':(o == bop .add&&chk Z G a l&&chk Z G b r)=true:=h;simp only[Bool.and_eq_true] at h';have e1:o=bop .add:=eq_of_beq h'.1.1;subst e1;exact A1 (snd a X ex G l g h'.1.2).1 (snd b X ex G r g h'.2).1
   | _=>first|exact aY h|cases h
  | mul=>
   induction e using zE with
   | BinOp l o r pos=>have h':(o == bop .mul&&chk Z G a l&&chk Z G b r)=true:=h;simp only[Bool.and_eq_true] at h';have e1:o=bop .mul:=eq_of_beq h'.1.1;subst e1;exact A2 (snd a X ex G l g h'.1.2).1 (snd b X ex G r g h'.2).1
   | _=>first|exact aY h|cases h
  | _=>cases n
 | sl a lo hi=>
  induction e using zE with
  | Subscript o s pos=>
   induction s using zE with
   | Slice l u st p=>
    induction st using zO with
    | none=>have h':(chk Z G a o&&ni Z G lo l&&ni Z G hi u)=true:=h;simp only[Bool.and_eq_true] at h';exact Df (snd a X ex G o g h'.1.1).1 (uR lo X ex G l g h'.1.2) (uR hi X ex G u g h'.2)
    | some _=>first|exact aY h|cases h
   | _=>first|exact aY h|cases h
  | _=>first|exact aY h|cases h
 | bi f es=>
  cases f with
  | list=>
   induction e using zE with
   | Call fn args kws pos=>
    induction fn using zE with
    | Name x p=>
     induction kws using zL with
     | nil=>
      induction args using zL with
      | nil=>first|exact aY h|cases h
      | cons a args=>have h':(x == fY .list&&G.glc (j7 .list)&&cW Z G es (a::args))=true:=h;simp only[Bool.and_eq_true] at h';have e1:x=fY .list:=eq_of_beq h'.1.1;subst e1;exact yO g h'.1.2 h'.2 (iz es X ex G _ g h'.2)
     | cons _ _=>cases args<;>first|exact aY h|cases h
    | _=>first|exact aY h|cases h
   | _=>first|exact aY h|cases h
  | _=>cases n
 | lstf es=>
  have h:lsv e (fun l=>cW Z G es l)=true:=by induction e using zE<;>exact h
  obtain⟨l,p,rfl,q1⟩:=qY h;exact yU (iz es X ex G l g q1)
 | comp G' fr tg src ifs elt=>
  induction e using zE with
  | ListComp el gens scope pos=>have h:pU gens (fun t it fs=>eA Z G scope G' fr&&eF G' tg t&&(tgs tg).all (fun i=>decide (fr.length<=i))&&(fF Z G src it&&iN src t)&&cW Z G' ifs fs&&chk Z G' elt el)=true:=h;obtain⟨t,it,fs,rfl,h⟩:=kH h;have h':(eA Z G scope G' fr&&eF G' tg t&&(tgs tg).all (fun i=>decide (fr.length<=i))&&(fF Z G src it&&iN src t)&&cW Z G' ifs fs&&chk Z G' elt el)=true:=h;simp only[Bool.and_eq_true] at h';exact yT g (kK h'.1.1.1.1.1) h'.1.1.1.1.2 (fun i hi=>of_decide_eq_true (List.all_eq_true.mp h'.1.1.1.2 i hi)) h'.1.1.2 h'.1.2 h'.2
  | _=>first|exact aY h|cases h
 | _=>cases n
theorem o_dnew {X:Cx}{ex:EX->Prop}{pos:Pos}(mv:Bool):PE X (.Dict [] [] pos) (RO X.K ex (evO cl mv .dnew)):=by
 refine cT lG fun σ H Q ⟨F,τ,fo,fok,r,nd,q⟩=>fun p hp=>?_;have q':∀ v H' F' fv f',Ow X.K F H fo F' H' σ v (.dct true [] []) fv τ f'->Q v H':=q;have e:cO H (upd H p (.dK [])):=.upd hp;obtain⟨k1,k2,k3⟩:=g7 fok r e;have nF:¬ F p:=fun z=>fok p z hp;have nfo:p∉fo:=fun z=>by obtain⟨_,u,eu⟩:=r.own p z;rw[hp] at eu;cases eu
 exact q' _ _ F [p] fo ⟨k3,k1,.dctO (kvs:=[]) nF cP rfl .nil,k2,by rw[List.singleton_append,List.nodup_cons];exact⟨nfo,nd⟩,fun a ha=>by
  rcases List.mem_append.mp ha with ha|ha
  ·rw[List.mem_singleton.mp ha];exact .inr hp
  ·exact .inl ha⟩
mutual
theorem snO:∀ (a:IR) (mv:Bool) (X:Cx) (ex:EX->Prop) (G:Gm) (e:Expr),GOk Z CX cl xp X ex G->chk Z G a e=true->PE X e (RO X.K ex (evO cl mv a))
 | .v i,mv,X,ex,G,e,g,h=>by
  induction e using zE with
  | Name x pos=>exact o_v (g9 g h) mv
  | _=>first|exact aY h|cases h
 | .tup es,mv,X,ex,G,e,g,h=>by
  induction e using zE with
  | Tuple l n pos=>exact o_tup (yV es mv X ex G l g h)
  | _=>first|exact aY h|cases h
 | .lst es,mv,X,ex,G,e,g,h=>by
  induction e using zE with
  | List l pos=>exact o_lst (yV es mv X ex G l g h)
  | _=>first|exact aY h|cases h
 | .ite t a b,mv,X,ex,G,e,g,h=>by
  induction e using zE with
  | IfExp c x y pos=>have h':(chk Z G t c&&chk Z G a x&&chk Z G b y)=true:=h;simp only[Bool.and_eq_true] at h';exact o_ite (snd t X ex G c g h'.1.1).2 (snO a mv X ex G x g h'.1.2) (snO b mv X ex G y g h'.2)
  | _=>first|exact aY h|cases h
 | .call f es,mv,X,ex,G,e,g,h=>by
  induction e using zE with
  | Call fn args kws pos=>
   induction fn using zE with
   | Name x p=>
    induction kws using zL with
    | nil=>have h':(gD Z G f x&&Z.fnc G f&&cW Z G es args)=true:=h;simp only[Bool.and_eq_true] at h';exact o_call g h'.1.1 h'.1.2 h'.2 mv
    | cons _ _=>first|exact aY h|cases h
   | _=>first|exact aY h|cases h
  | _=>first|exact aY h|cases h
 | .c d,mv,X,ex,G,e,g,h=>dA (snd _ X ex G e g h).1 (snN _ X ex G e g h)
 | .g n d,mv,X,ex,G,e,g,h=>dA (snd _ X ex G e g h).1 (snN _ X ex G e g h)
 | .bin op a b,mv,X,ex,G,e,g,h=>dA (snd _ X ex G e g h).1 (snN _ X ex G e g h)
 | .neg a,mv,X,ex,G,e,g,h=>dA (snd _ X ex G e g h).1 (snN _ X ex G e g h)
 | .cmp op a b,mv,X,ex,G,e,g,h=>dA (snd _ X ex G e g h).1 (snN _ X ex G e g h)
 | .chain op op' a b c,mv,X,ex,G,e,g,h=>dA (snd _ X ex G e g h).1 (snN _ X ex G e g h)
 | .and_ a b,mv,X,ex,G,e,g,h=>dA (snd _ X ex G e g h).1 (snN _ X ex G e g h)
 | .or_ a b,mv,X,ex,G,e,g,h=>dA (snd _ X ex G e g h).1 (snN _ X ex G e g h)
 | .not_ a,mv,X,ex,G,e,g,h=>dA (snd _ X ex G e g h).1 (snN _ X ex G e g h)
 | .idx a i,mv,X,ex,G,e,g,h=>dA (snd _ X ex G e g h).1 (snN _ X ex G e g h)
 | .sl a lo hi,mv,X,ex,G,e,g,h=>dA (snd _ X ex G e g h).1 (snN _ X ex G e g h)
 | .bi f es,mv,X,ex,G,e,g,h=>dA (snd _ X ex G e g h).1 (snN _ X ex G e g h)
 | .isi a k,mv,X,ex,G,e,g,h=>dA (snd _ X ex G e g h).1 (snN _ X ex G e g h)
 | .ofld a x cs,mv,X,ex,G,e,g,h=>dA (snd _ X ex G e g h).1 (snN _ X ex G e g h)
 | .meth f m c a es,mv,X,ex,G,e,g,h=>dA (snd _ X ex G e g h).1 (snN _ X ex G e g h)
 | .dofr a,mv,X,ex,G,e,g,h=>dA (snd _ X ex G e g h).1 (snN _ X ex G e g h)
 | .lstf es,mv,X,ex,G,e,g,h=>dA (snd _ X ex G e g h).1 (snN _ X ex G e g h)
 | .omk n f c es,mv,X,ex,G,e,g,h=>by
  have h:cav e (fun fe as _=>nmv (fun x=>gD Z G n x&&Z.omk.contains (n,c,f)&&(Z.ocs.contains c&&G.cm)&&cW Z G es as) fe)=true:=by induction e using zE<;>exact h
  obtain⟨fe,as,p,rfl,q0⟩:=fZ h;obtain⟨x,p',rfl,q1⟩:=fB q0;simp only[Bool.and_eq_true] at q1;exact o_omk g q1.1.1.1 (List.contains_iff_mem.mp q1.1.1.2) q1.1.2.2 q1.2 mv
 | .dget a k,mv,X,ex,G,e,g,h=>dA (snd _ X ex G e g h).1 (snN _ X ex G e g h)
 | .lset a,mv,X,ex,G,e,g,h=>dA (snd _ X ex G e g h).1 (snN _ X ex G e g h)
 | .dnew,mv,X,ex,G,e,g,h=>by
  have h:dcv e=true:=by induction e using zE<;>exact h
  obtain⟨pos,rfl⟩:=qW h;exact o_dnew mv
 | .lrev a,mv,X,ex,G,e,g,h=>dA (snd _ X ex G e g h).1 (snN _ X ex G e g h)
 | .mth m o es,mv,X,ex,G,e,g,h=>dA (snd _ X ex G e g h).1 (snN _ X ex G e g h)
 | .comp G' fr tg src ifs elt,mv,X,ex,G,e,g,h=>dA (snd _ X ex G e g h).1 (snN _ X ex G e g h)
theorem yV:∀ (as:List IR) (mv:Bool) (X:Cx) (ex:EX->Prop) (G:Gm) (l:List Expr),GOk Z CX cl xp X ex G->cW Z G as l=true->PA X l (ROs X.K ex (jG cl mv as))
 | [],mv,X,ex,G,l,g,h=>by
  induction l using zL with
  | nil=>exact yN
  | cons _ _=>first|exact aY h|cases h
 | a::as,mv,X,ex,G,l,g,h=>by
  induction l using zL with
  | nil=>first|exact aY h|cases h
  | cons e l=>have h':(notStar e&&chk Z G a e&&cW Z G as l)=true:=h;simp only[Bool.and_eq_true] at h';exact uU h'.1.1 (snO a mv X ex G e g h'.1.2) (yV as mv X ex G l g h'.2)
end
end
structure Bs (io:Option Nat) where
 F:Addr->Prop
 H:Hp
 L:Addr->LD->Prop
 T:Addr->List V ⊕ EX->Prop
 N:Option Addr:=none
structure Frm (K:PySem.W.Frag){io:Option Nat}(B:Bs io)(F:Addr->Prop)(H:Hp)(σ:St)(τ:Ev)(f:List Addr):Prop where
 fok:FOk F H
 rps:Rps K F H σ τ f
 nod:f.Nodup
 same:cO B.H H
 own:∀ a∈f,B.H a=none
 inn:∀ a,B.F a->F a
 out:∀ a,F a->B.F a∨B.H a=none
 pin:∀ a xs,B.L a xs->F a/\Rd H a xs.o
 pit:∀ a xs,B.T a xs->SqE K H a xs
 nm:∀ j a,io=some j->B.N=some a->σ[j]? = some (some (.ref a))
noncomputable def Fk (K:PySem.W.Frag){io:Option Nat}(B:Bs io)(Dn:Ends):Fl->Prop
 | .nx τ=>∀ σ H F f,Frm K B F H σ τ f->Dn.nx σ H
 | .bk τ=>∀ σ H F f,Frm K B F H σ τ f->Dn.bk σ H
 | .ct τ=>∀ σ H F f,Frm K B F H σ τ f->Dn.ct σ H
 | .rt d=>∀ v H F fv,Out K B.F B.H F H v d fv->Dn.rt v H
 | .ri _ _ _=>False
 | .ro d d1=>∀ v H F fv f1 a,(∀ a',B.N=some a'->a'=a)->Out K B.F B.H F H v d fv->MRep K F H (.ref a) d1 f1->(fv++f1).Nodup->(∀ b∈f1,B.H b=none)->Dn.rt v H
def RS (K:PySem.W.Frag)(io:Option Nat)(ex:EX->Prop)(g:Ev->Res Fl):TS:=fun Dn σ H=>∃ (B:Bs io),∃ F τ f,Frm K B F H σ τ f/\PO' ex (g τ) (Fk K B Dn)
section
variable {K:PySem.W.Frag}{io:Option Nat}{B:Bs io}{F F':Addr->Prop}{H H':Hp}{σ:St}{τ τ':Ev}{f f':List Addr}{ex:EX->Prop}
theorem Frm.stp (m:Frm K B F H σ τ f)(s:Stp F H f F' H')(fok:FOk F' H')(r:Rps K F' H' σ τ' f')(nd:f'.Nodup)(hm:∀ a∈f',a∈f∨H a=none):Frm K B F' H' σ τ' f' where
 fok:=fok
 rps:=r
 nod:=nd
 same:=m.same.trans s.same
 own:=fun a ha=>(hm a ha).elim (m.own a) fun z=>m.same.free z
 inn:=fun a h=>s.inn a (m.inn a h)
 out:=fun a h=>by
  rcases s.out a h with h|h|h
  ·exact m.out a h
  ·exact .inr (m.own a h)
  ·exact .inr (m.same.free h)
 pin:=fun a xs h=>⟨s.inn a (m.pin a xs h).1,s.same.rd (m.pin a xs h).2⟩
 pit:=fun a xs h=>s.same.seqT (m.pit a xs h)
 nm:=m.nm
theorem Frm.ow {v:V}{d:D}{fv:List Addr}(m:Frm K B F H σ τ f)(o:Ow K F H f F' H' σ v d fv τ' f'):Frm K B F' H' σ τ' f'/\∀ a∈fv,B.H a=none:=
 ⟨m.stp o.stp o.fok o.rps (List.nodup_append.mp o.nod).2.1 fun a ha=>o.mem a (List.mem_append_right _ ha),fun a ha=>(o.mem a (List.mem_append_left _ ha)).elim (m.own a) fun z=>m.same.free z⟩
theorem Frm.grow (m:Frm K B F H σ τ f)(e:cO H H'):Frm K B F H' σ τ f:=by obtain⟨k1,k2,k3⟩:=g7 m.fok m.rps e;exact m.stp k3 k1 k2 m.nod fun a ha=>.inl ha
theorem Frm.ro {g:Ev->Res (D×Ev)}{Kt:D×Ev->Prop}{Q:VK}(m:Frm K B F H σ τ f)(h:PO' ex (g τ) Kt)(k:∀ p v H' F' fv f',Ow K F H f F' H' σ v p.1 fv p.2 f'->Kt p->Q v H'):RO K ex g σ H Q:=
 ⟨F,τ,f,m.fok,m.rps,m.nod,h.mono fun p hp v H' F' fv f' o=>k p v H' F' fv f' o hp⟩
theorem Frm.rt {is:List Nat}{g:Ev->Res Bool}{Kt:Bool->Prop}{Q:Bool->Hp->Prop}(m:Frm K B F H σ τ f)(h:PO' ex (g τ) Kt)(k:∀ b H',Frm K B F H' σ τ f->cO H H'->Kt b->Q b H'):RT K ex is g σ H Q:=
 g4 (.refl _) (dM m.rps) h fun b H2 e2 _ hb=>k b H2 (m.grow e2) e2 hb
theorem Frm.rd {is:List Nat}{g:Ev->Res D}{Kt:D->Prop}{Q:VK}(m:Frm K B F H σ τ f)(h:PO' ex (g τ) Kt)(k:∀ d v H',Frm K B F H' σ τ f->cO H H'->HRep K (nw (fun _=>True) H) H' v d->Kt d->Q v H'):RD K ex is g σ H Q:=
 di (.refl _) (dM m.rps) h fun b v H2 e2 _ mv hb=>k b v H2 (m.grow e2) e2 mv hb
mutual
theorem rq:∀ (t:Tg) {σ:St}{τ:Ev}{f:List Addr}{v:V}{d:D}{fv:List Addr}{Kt:Ev->Prop}{Q:St->Hp->Prop},Rps K F H σ τ f->MRep K F H v d fv->(fv++f).Nodup->PO' ex (dZ t d τ) Kt->
  (∀ τ' σ' f',Rps K F H σ' τ' f'->f'.Nodup->(∀ a∈f',a∈fv++f)->(∀ j,j∉tgs t->σ'[j]? = σ[j]?)->Kt τ'->Q σ' H)->gT K t v σ H Q
 | .nm i,σ,τ,f,v,d,fv,Kt,Q,r,m,nd,h,k=>by obtain⟨g,h',r2,p2⟩:=r.put i m;have nd2:(g++h').Nodup:=p2.nodup_iff.mpr nd;exact k (τ.set i (some d)) (σ.set i (some v)) g r2 (List.nodup_append.mp nd2).1 (fun a ha=>p2.mem_iff.mp (List.mem_append_left _ ha)) (fun j hj=>List.getElem?_set_ne (fun z=>hj (by rw[<- z];exact List.mem_singleton.mpr rfl))) h.ok
 | .tp ts,σ,τ,f,v,d,fv,Kt,Q,r,m,nd,h,k=>by
  cases m with
  | tup h1 h2=>obtain⟨gd,h⟩:=PO'.grd h;have g':=of_decide_eq_true gd;exact⟨_,_,rfl,.inl h1,by rw[h2.length];exact g',hG ts r h2 nd h k⟩
  | lstS h0 h1 h2=>obtain⟨gd,h⟩:=PO'.grd h;have g':=of_decide_eq_true gd;exact⟨_,_,rfl,.inr (.inl h1),by rw[h2.length];exact g',hG ts r h2 nd h k⟩
  | lstK h1 h2=>obtain⟨gd,h⟩:=PO'.grd h;have g':=of_decide_eq_true gd;exact⟨_,_,rfl,.inr h1.sq,by rw[h2.length];exact g',hG ts r h2 nd h k⟩
  | lstO h0 h1 h2=>obtain⟨gd,h⟩:=PO'.grd h;have g':=of_decide_eq_true gd;rw[List.cons_append,List.nodup_cons] at nd;exact⟨_,_,rfl,.inr (.inl (.inl h1)),by rw[h2.length];exact g',hG ts r h2 nd.2 h fun τ' σ' f' a1 a2 a3 a5 a4=>k τ' σ' f' a1 a2 (fun x hx=>by rw[List.cons_append];exact List.mem_cons_of_mem _ (a3 x hx)) a5 a4⟩
  | _=>exact h.no.elim
theorem hG:∀ (ts:List Tg) {σ:St}{τ:Ev}{f:List Addr}{vs:List V}{ds:List D}{fv:List Addr}{Kt:Ev->Prop}{Q:St->Hp->Prop},Rps K F H σ τ f->MReps K F H vs ds fv->(fv++f).Nodup->PO' ex (gF ts ds τ) Kt->
  (∀ τ' σ' f',Rps K F H σ' τ' f'->f'.Nodup->(∀ a∈f',a∈fv++f)->(∀ j,j∉lZ ts->σ'[j]? = σ[j]?)->Kt τ'->Q σ' H)->gTs K ts vs σ H Q
 | [],σ,τ,f,vs,ds,fv,Kt,Q,r,m,nd,h,k=>by
  cases m with
  | nil=>exact⟨rfl,k τ σ f r (by simpa using nd) (fun a ha=>by simpa using ha) (fun _ _=>rfl) h.ok⟩
  | cons _ _=>exact h.no.elim
 | t::ts,σ,τ,f,vs,ds,fv,Kt,Q,r,m,nd,h,k=>by
  cases m with
  | nil=>exact h.no.elim
  | cons m1 m2=>
   rename_i v d f1 vs ds f2
   have nd':(f2++(f1++f)).Nodup:=by refine(List.Perm.nodup_iff ?_).mp nd;rw[<- List.append_assoc];exact List.Perm.append_right f List.perm_append_comm
   refine⟨_,_,rfl,rq t r m1 (List.nodup_append.mp nd').2.1 (PO'.bnd h) fun τ' σ' f' r' nf' hm' hj' h'=>?_⟩;refine hG ts r' m2 (List.nodup_append.mpr ⟨(List.nodup_append.mp nd').1,nf',fun a h1 b h2 e=>(List.nodup_append.mp nd').2.2 a h1 b (hm' b h2) e⟩) h' fun τ'' σ'' f'' r'' nf'' hm'' hj'' h''=>k τ'' σ'' f'' r'' nf'' (fun a ha=>?_) (fun j hj=>(hj'' j fun z=>hj (List.mem_append_right _ z)).trans (hj' j fun z=>hj (List.mem_append_left _ z))) h'';rcases List.mem_append.mp (hm'' a ha) with z|z
   ·exact List.mem_append_left _ (List.mem_append_right _ z)
   ·rcases List.mem_append.mp (hm' a z) with z|z
    ·exact List.mem_append_left _ (List.mem_append_left _ z)
    ·exact List.mem_append_right _ z
end
theorem Frm.gT {t:Tg}{v:V}{d:D}{fv:List Addr}{Kt:Ev->Prop}{Q:St->Hp->Prop}(m:Frm K B F H σ τ f)(mv:MRep K F H v d fv)(nd:(fv++f).Nodup)(hb:∀ a∈fv,B.H a=none)(hio:∀ j∈tgs t,io≠some j)(h:PO' ex (dZ t d τ) Kt)
  (k:∀ τ' σ' f',Frm K B F H σ' τ' f'->Kt τ'->Q σ' H):L2.gT K t v σ H Q:=
 rq t m.rps mv nd h fun τ' σ' f' r' nf' hm hj h'=>k τ' σ' f' ⟨m.fok,r',nf',m.same,fun a ha=>(List.mem_append.mp (hm a ha)).elim (hb a) (m.own a),m.inn,m.out,m.pin,m.pit,fun j a e1 e2=>(hj j fun z=>hio j z e1).trans (m.nm j a e1 e2)⟩ h'
theorem Frm.write {i:Nat}{ds ds':List D}{w:V}{d:D}{fv:List Addr}{l:Addr}{xs ys:List V}(m:Frm K B F H σ τ f)(hs:bS τ i=some (.lst true ds))(hσ:σ[i]? = some (some (.ref l)))(hl:H l=some (.lst xs))(mw:MRep K F H w d fv)(nd:(fv++f).Nodup)(hb:∀ a∈fv,B.H a=none)
  (hy:∀ fi,MReps K F H xs ds fi->∃ fl h,MReps K F H ys ds' fl/\(fl++h).Perm (fv++fi)):∃ f',Frm K B F (upd H l (.lst ys)) σ (τ.set i (some (.lst true ds'))) f':=by
 obtain⟨v,fs,g,h1,h2,h3,h4⟩:=m.rps.at hs;rw[hσ] at h1;cases h1;cases h2 with
 | @lstO a xs' ds0 fi hF hH hm=>
  rw[hl] at hH;cases hH;obtain⟨fl,h,hm',hp⟩:=hy fi hm;have ndf:((l::fi)++g).Nodup:=h4.nodup_iff.mp m.nod;have nda:(fv++((l::fi)++g)).Nodup:=(List.Perm.append_left fv h4).nodup_iff.mp nd;have lg:l∉g:=by rw[List.cons_append,List.nodup_cons] at ndf;exact fun z=>ndf.1 (List.mem_append_right _ z)
  have lfi:l∉fi:=by rw[List.cons_append,List.nodup_cons] at ndf;exact fun z=>ndf.1 (List.mem_append_left _ z)
  have lfv:l∉fv:=fun z=>(List.nodup_append.mp nda).2.2 l z l (by simp) rfl;have inFl:∀ a∈fl,a∈fv++fi:=fun a ha=>hp.mem_iff.mp (List.mem_append_left _ ha);have lfl:l∉fl:=fun z=>(List.mem_append.mp (inFl l z)).elim lfv lfi;have sl:∀ a (u:LD),F a->Rd H a u.o->F a/\Rd (upd H l (.lst ys)) a u.o:=fun a xs h r=>by refine⟨h,?_⟩;have:a≠l:=fun z=>hF (by rw[<- z];exact h);unfold Rd;rw[cG this];exact r
  have st:∀ a xs,SqE K H a xs->SqE K (upd H l (.lst ys)) a xs:=fun a xs h=>h.upd hl;have r1:Rps K F (upd H l (.lst ys)) σ (τ.set i none) g:=h3.step sl st fun a ha n _=>⟨n,cG fun z=>lg (by rw[<- z];exact ha)⟩
  have m1:MRep K F (upd H l (.lst ys)) (.ref l) (.lst true ds') (l::fl):=.lstO hF cP (hm'.step sl st fun a ha n _=>⟨n,cG fun z=>lfl (by rw[<- z];exact ha)⟩);obtain⟨g',h',r2,p2⟩:=r1.put i m1;have hσ':σ.set i (some (.ref l))=σ:=by
   apply List.ext_getElem?;intro j;rw[List.getElem?_set];by_cases hj:i=j
   ·subst hj;have hlt:i < σ.length:=(List.getElem?_eq_some_iff.mp hσ).1;rw[if_pos rfl,if_pos hlt,hσ]
   ·rw[if_neg hj]
  rw[hσ',List.set_set] at r2;have ndl:((l::fl)++g).Nodup:=by
   rw[List.cons_append,List.nodup_cons];refine⟨fun z=>(List.mem_append.mp z).elim lfl lg,List.nodup_append.mpr ⟨?_,(List.nodup_append.mp ndf).2.1,fun a h1 b h2 e=>?_⟩⟩
   ·have:(fl++h).Nodup:=hp.nodup_iff.mpr (List.nodup_append.mpr ⟨(List.nodup_append.mp nda).1,(List.nodup_cons.mp (List.nodup_append.mp ndf).1).2,fun a h1 b h2 e=>(List.nodup_append.mp nda).2.2 a h1 b (List.mem_append_left _ (List.mem_cons_of_mem _ h2)) e⟩);exact(List.nodup_append.mp this).1
   ·subst e;rcases List.mem_append.mp (inFl a h1) with z|z
    ·exact(List.nodup_append.mp nda).2.2 a z a (List.mem_append_right _ h2) rfl
    ·exact(List.nodup_append.mp ndf).2.2 a (List.mem_cons_of_mem _ z) a h2 rfl
  have nd2:(g'++h').Nodup:=p2.nodup_iff.mpr ndl;have lB:B.H l=none:=m.own l (h4.mem_iff.mpr (by simp));refine⟨g',fun a h=>?_,r2,(List.nodup_append.mp nd2).1,fun b o hbo=>?_,fun a ha=>?_,m.inn,m.out,fun a xs h=>⟨(m.pin a xs h).1,(sl a xs (m.pin a xs h).1 (m.pin a xs h).2).2⟩,fun a xs h=>st a xs (m.pit a xs h),m.nm⟩
  ·have:a≠l:=fun z=>hF (by rw[<- z];exact h);rw[cG this];exact m.fok a h
  ·have:b≠l:=fun z=>by rw[z,lB] at hbo;cases hbo
   rw[cG this];exact m.same _ _ hbo
  ·have:a∈(l::fl)++g:=p2.mem_iff.mp (List.mem_append_left _ ha);rcases List.mem_append.mp this with z|z
   ·rcases List.mem_cons.mp z with rfl|z
    ·exact lB
    ·rcases List.mem_append.mp (inFl a z) with z|z
     ·exact hb a z
     ·exact m.own a (h4.mem_iff.mpr (List.mem_append_left _ (List.mem_cons_of_mem _ z)))
   ·exact m.own a (h4.mem_iff.mpr (List.mem_append_right _ z))
theorem MReps.snoc {w:V}{d:D}{fv:List Addr}(mw:MRep K F H w d fv){xs:List V}{ds:List D}{fi:List Addr}(m:MReps K F H xs ds fi):∃ fl h,MReps K F H (xs++[w]) (ds++[d]) fl/\(fl++h).Perm (fv++fi):=
 ⟨fi++(fv++[]),[],m.append (.cons mw .nil),by rw[List.append_nil,List.append_nil];exact List.perm_append_comm⟩
end
noncomputable def notTuple:Expr->Bool
 | .Tuple ..=>false
 | _=>true
noncomputable def kM:Expr->Bool
 | .ListComp ..=>false
 | .SetComp ..=>false
 | .DictComp ..=>false
 | _=>true
noncomputable def isName:Expr->Bool
 | .Name ..=>true
 | _=>false
noncomputable def isTup:Expr->Bool
 | .Tuple ..=>true
 | _=>false
noncomputable def asv:Stmt->(List Expr->Expr->Bool)->Bool
 | .Assign ts v _,k=>k ts v
 | _,_=>false
theorem rA {s:Stmt}{k:List Expr->Expr->Bool}(h:asv s k=true):∃ ts v p,s=.Assign ts v p/\k ts v=true:=by
 induction s using zS with
 | Assign ts v p=>exact⟨ts,v,p,rfl,h⟩
 | _=>exact aY h
noncomputable def sbw:Expr->(Expr->Expr->Bool)->Bool
 | .Subscript a b _,k=>k a b
 | _,_=>false
theorem yW {e:Expr}{k:Expr->Expr->Bool}(h:sbw e k=true):∃ a b p,e=.Subscript a b p/\k a b=true:=by
 induction e using zE with
 | Subscript a b p=>exact⟨a,b,p,rfl,h⟩
 | _=>exact aY h
noncomputable def exx:Stmt->(Expr->Bool)->Bool
 | .Expr e _,k=>k e
 | _,_=>false
theorem rB {s:Stmt}{k:Expr->Bool}(h:exx s k=true):∃ e p,s=.Expr e p/\k e=true:=by
 induction s using zS with
 | Expr e p=>exact⟨e,p,rfl,h⟩
 | _=>exact aY h
noncomputable def rtx:Stmt->(Expr->Bool)->Bool
 | .Return o _,k=>(match o with
  | some v=>k v
  | none=>false)
 | _,_=>false
theorem rC {s:Stmt}{k:Expr->Bool}(h:rtx s k=true):∃ v p,s=.Return (some v) p/\k v=true:=by
 induction s using zS with
 | Return o p=>
  induction o using zO with
  | none=>exact aY h
  | some v=>exact⟨v,p,rfl,h⟩
 | _=>exact aY h
noncomputable def fov:Stmt->(Expr->Expr->List Stmt->Bool)->Bool
 | .For t it b e _,k=>e.isEmpty&&k t it b
 | _,_=>false
theorem yX {s:Stmt}{k:Expr->Expr->List Stmt->Bool}(h:fov s k=true):∃ t it b p,s=.For t it b [] p/\k t it b=true:=by
 induction s using zS with
 | For t it b e p=>
  induction e using zL with
  | nil=>exact⟨t,it,b,p,rfl,h⟩
  | cons _ _=>exact aY h
 | _=>exact aY h
noncomputable def enx:Expr->(Expr->Bool)->Bool
 | .Call (.Name y _) [o] [⟨some kw,.Constant (.int n) _ _,_⟩] _,k=>y == "enumerate"&&kw == "start"&&n == 1&&k o
 | _,_=>false
theorem yY {e:Expr}{k:Expr->Bool}(h:enx e k=true):∃ yp o j cp kp pos,e=.Call (.Name "enumerate" yp) [o] [⟨some "start",.Constant (.int 1) j cp,kp⟩] pos/\k o=true:=by
 unfold enx at h;split at h
 ·simp only[Bool.and_eq_true] at h;obtain⟨⟨⟨e1,e2⟩,e3⟩,h⟩:=h;have e1:=eq_of_beq e1;have e2:=eq_of_beq e2;have e3:=eq_of_beq e3;subst e1 e2 e3;exact⟨_,_,_,_,_,_,rfl,h⟩
 ·cases h
mutual
noncomputable def yZ (Z:Sg)(G:Gm):IS->Stmt->Bool
 | .asg tg e,.Assign [t] v _=>eF G tg t&&chk Z G e v&&(isName t||(isTup t&&notTuple v))
 | .dsetx i k e,.Assign [.Subscript (.Name x _) s _] v _=>ez G i x&&dJ s&&chk Z G k s&&chk Z G e v&&!(vars e).contains i
 | .app i e,.Expr (.Call (.Attribute (.Name x _) name apos) [v] [] cpos) _=>ez G i x&&name == "append"&&apos.endLine == cpos.line&&notStar v&&chk Z G e v
 | .exp e,.Expr v _=>kM v&&chk Z G e v
 | .ret e,.Return (some v) _=>chk Z G e v
 | .oset i x cs _ e,s=>asv s fun ts v=>l1v ts fun t=>chk Z G e v&&atp t fun o' y _=>nmv (fun z=>ez G i z&&y == x&&Z.ofs.contains x&&cs.all (fun c=>Z.ocs.contains c)) o'
 | .oapp i x cs e,s=>exx s fun v=>cav v fun fe as cp=>atp fe fun o n ap=>n == "append"&&ap.endLine == cp.line&&(l1v as fun w=>notStar w&&chk Z G e w)&&atp o fun o' y _=>nmv (fun z=>ez G i z&&y == x&&Z.ofs.contains x&&cs.all (fun c=>Z.ocs.contains c)) o'
 | .oget j i x cs k,s=>asv s fun ts v=>l1v ts fun t=>isName t&&eF G (.nm j) t&&sbw v fun o ke=>dJ ke&&chk Z G k ke&&atp o fun o' y _=>nmv (fun z=>ez G i z&&y == x&&Z.ofs.contains x&&cs.all (fun c=>Z.ocs.contains c)) o'
 | .mio jj i f m c es,s=>jj.isNone&&exx s fun v=>cav v fun fe as cp=>atp fe fun o n ap=>n == m&&ap.endLine == cp.line&&decide (as.length < 29)&&Z.fio.contains (f,c,m)&&(Z.ocs.contains c&&G.cm)&&cW Z G es as&&nmv (fun z=>ez G i z) o
 | .rmio i x cs f m c es,s=>rtx s fun v=>cav v fun fe as cp=>atp fe fun o n ap=>G.io == some i&&n == m&&ap.endLine == cp.line&&decide (as.length < 29)&&Z.fio.contains (f,c,m)&&(Z.ocs.contains c&&G.cm)&&cW Z G es as&&atp o fun o' y _=>nmv (fun z=>ez G i z&&y == x&&Z.ofs.contains x&&cs.all (fun c=>Z.ocs.contains c)) o'
 | .foro tg i x cs body,s=>fov s fun t it b=>(G.cm&&G.rs)&&eF G tg t&&nh t&&G.gl.contains 20&&(enx it fun o=>atp o fun o' y _=>nmv (fun z=>ez G i z&&y == x&&Z.ofs.contains x&&cs.all (fun c=>Z.ocs.contains c)) o')&&eJ Z G body b
 | .reto i e,s=>rtx s fun v=>G.io == some i&&chk Z G e v
 | .if_ t a b,.If c x y _=>chk Z G t c&&eJ Z G a x&&eJ Z G b y
 | .for_ tg s body,.For t it b [] _=>((G.cm&&G.rs)&&eF G tg t)&&(fF Z G s it&&iN s t)&&eJ Z G body b
 | .while_ t body,.While c b [] _=>(G.rs&&chk Z G t c)&&eJ Z G body b
 | .never,_=>true
 | _,_=>false
noncomputable def eJ (Z:Sg)(G:Gm):List IS->List Stmt->Bool
 | [],[]=>true
 | a::as,s::ss=>yZ Z G a s&&eJ Z G as ss
 | _,_=>false
end
section
variable {Z:Sg}{CX:CXT}{cl:Nat->List D->Res D}{xp:XK->Hp->EX->Prop}{X:Cx}{ex:EX->Prop}{G:Gm}
theorem vU {tg:Tg}{t:Expr}(ht:eF G tg t=true){ga:Ev->Res (D×Ev)}{Dn:Ends}{σ:St}{H:Hp}(h:RS X.K G.io ex (fun τ=>bnd (ga τ) fun p=>bnd (dZ tg p.1 p.2) fun τ'=>.ok (.nx τ')) Dn σ H):xM (RO X.K ex ga) (gT X.K tg) Dn σ H:=by obtain⟨B,F,τ,f,m,q⟩:=h;refine m.ro (PO'.bnd q) fun p v H' F' fv f' o hp=>?_;obtain⟨m',hb⟩:=m.ow o;exact m'.gT o.rep o.nod hb (gf tg t ht) (PO'.bnd hp) fun τ' σ' f'' m'' h'=>h'.ok _ _ _ _ m''
theorem st_asg (g:GOk Z CX cl xp X ex G){tg:Tg}{e:IR}{t v:Expr}{pos:Pos}(ht:eF G tg t=true)(hv:chk Z G e v=true)(hc:(isName t||(isTup t&&notTuple v))=true):PS X (.Assign [t] v pos) (RS X.K G.io ex (evS cl (.asg tg e))):=by
 have pe:=snO e false X ex G v g hv;have pg:=pgT g tg t ht
 induction t using zE with
 | Name x px=>
  cases tg with
  | tp _=>cases ht
  | nm i=>
   have ht':(G.N[i]? == some x&&(G.kd[i]? == some .local||(G.df&&G.kd[i]? == some .cell)))=true:=(Bool.and_eq_true_iff.mp ht).1;rw[Bool.and_eq_true,Bool.or_eq_true,Bool.and_eq_true] at ht';have hx:G.N[i]? = some x:=eq_of_beq ht'.1;have hk:=g.kd i x hx;have hloc:Loc X.env.scope x:=ht'.2.elim (fun z=>.inl (hk.trans (eq_of_beq z))) fun z=>.inr (hk.trans (eq_of_beq z.2));have hfn:X.fn x=true∨X.env.scope.names.lookup x=some .local:=ht'.2.elim (fun z=>.inr (hk.trans (eq_of_beq z))) fun z=>.inl (g.df z.1 x);have plain:swapsWith v (some (.Name x px)) pos.line X.env=pure false->PS X (.Assign [.Name x px] v pos) (RS X.K G.io ex (evS cl (.asg (.nm i) e))):=fun hs=>
    dN (qj (i:=i) (by rw[g.N];exact g.nod) (by rw[g.N];exact hx) hloc pe hs hfn) fun Dn σ H h=>vU ht h
   induction v using zE with
   | ListComp el gens scope vpos=>
    have hsw:swapsWith (.ListComp el gens scope vpos) (some (.Name x px)) pos.line X.env=pure (X.env.blockKind == .function&&X.env.kindOf x == some .local&&px.line == vpos.line&&!(scope.names.any fun (n,k)=>n == x&&(k == .local||k == .cell))):=rfl;cases hb:(X.env.blockKind == .function&&X.env.kindOf x == some .local&&px.line == vpos.line&&!(scope.names.any fun (n,k)=>n == x&&(k == .local||k == .cell))) with
    | false=>exact plain (by rw[hsw,hb])
    | true=>
     rw[hb] at hsw;have hlx:X.env.kindOf x=some .local:=by simp only[Bool.and_eq_true] at hb;exact eq_of_beq hb.1.1.2
     cases e with
     | comp G' fr T src ifs elt=>
      have hv:pU gens (fun t it fs=>eA Z G scope G' fr&&eF G' T t&&(tgs T).all (fun i=>decide (fr.length<=i))&&(fF Z G src it&&iN src t)&&cW Z G' ifs fs&&chk Z G' elt el)=true:=hv;obtain⟨t,it,fs,rfl,hv⟩:=kH hv;have h':(eA Z G scope G' fr&&eF G' T t&&(tgs T).all (fun i=>decide (fr.length<=i))&&(fF Z G src it&&iN src t)&&cW Z G' ifs fs&&chk Z G' elt el)=true:=hv;simp only[Bool.and_eq_true] at h';have hs:=kK h'.1.1.1.1.1;have hT:=h'.1.1.1.1.2;have ha:∀ i∈tgs T,fr.length<=i:=fun i hi=>of_decide_eq_true (List.all_eq_true.mp h'.1.1.1.2 i hi);intro pins s' σ H Dn Iv h;obtain⟨cl',S⟩:=iy g Iv.ok hs;have p:=uk (py:=px) (spos:=pos) (i:=i) (pos:=vpos) (elt:=el) (ifs:=fs) (tg:=t) (g:=gT X.K T) (tt:=RT X.K nox (cF ifs) (gL cl ifs)) (te:=RD X.K nox (vars elt) (evR cl elt)) (g.calm hs.cm) (by rw[g.N];exact g.nod) (by rw[g.N];exact hx) hlx S (uT src X ex G it t g h'.1.1.2.1 h'.1.1.2.2) (fun C s H fp=>pgT (eC g hs cl' C s H fp) T t hT)
       (fun C s H fp=>uS ifs _ nox G' fs (eC g hs cl' C s H fp) h'.1.2) (fun C s H fp=>(snd elt _ nox G' el (eC g hs cl' C s H fp) h'.2).1) hsw (fun x=>fD h'.1.1.2.1 X.env x)
      refine p pins s' σ H Dn Iv ?_;obtain⟨B,F,τ,f,m,q⟩:=h
      -- as one that is kept
      have q0:PO' ex (bnd (bnd (evR cl (.comp G' fr T src ifs elt) τ) fun d=>.ok (dn (.comp G' fr T src ifs elt) d τ)) fun p=>bnd (dZ (.nm i) p.1 p.2) fun τ'=>.ok (.nx τ')) (Fk X.K B Dn):=q;have q1:=PO'.bnd (PO'.bnd q0);have fin:∀ (d:D) (v:V) (H':Hp) (F':Addr->Prop) (fv f':List Addr),Ow X.K F H f F' H' σ v (dn (.comp G' fr T src ifs elt) d τ).1 fv (dn (.comp G' fr T src ifs elt) d τ).2 f'->(∀ (p:D×Ev),p=dn (.comp G' fr T src ifs elt) d τ->PO' ex (bnd (dZ (.nm i) p.1 p.2) fun τ'=>.ok (.nx τ')) (Fk X.K B Dn))->Dn.nx (σ.set i (some v)) H':=by intro d v H' F' fv f' o hp;obtain⟨m',hb'⟩:=m.ow o;have:=m'.gT (t:=.nm i) (Q:=Dn.nx) o.rep o.nod hb' (gf _ _ ht) (PO'.bnd (hp _ rfl)) fun τ' σ' f'' m'' h'=>h'.ok _ _ _ _ m'';exact this
      cases z:evR cl (.comp G' fr T src ifs elt) τ with
      | error er=>
       rw[z] at q1;cases er with
       | stuck=>exact q1.no.elim
       | exc c=>refine fN (S:=fun _=>True) (τ:=τ) (ex:=ex) (Kt:=fun _=>False) hs.fle ha (dM m.rps) ?_ fun A ys ds H' e hA hA' mm k=>k.elim;show PO' ex (evR cl (.comp G' fr T src ifs elt) τ) _;rw[z];exact q1
      | ok d=>
       rw[z] at q1;have q2:=q1.ok.ok;obtain⟨o',ds,rfl⟩:∃ o ds,d=.lst o ds:=by have zz:=z;rw[jq] at zz;obtain⟨its,_,zz⟩:=fA zz;obtain⟨_,zz⟩:=kA zz;obtain⟨ds,_,zz⟩:=fA zz;cases zz;exact⟨true,ds,rfl⟩
       by_cases hi:cU ds=true
       ·have hkp:dn (.comp G' fr T src ifs elt) (.lst o' ds) τ=(.lst true ds,τ):=by unfold dn;rw[if_neg (show ¬ dE (.lst o' ds)=true by intro z;cases z)];show (if cU ds=true then _ else _)=_;rw[if_pos hi]
        refine fN (S:=fun _=>True) (τ:=τ) (ex:=ex) (Kt:=fun d'=>∃ o'',d'=.lst o'' ds) hs.fle ha (dM m.rps) ?_ fun A ys ds' H' e hA hA' mm k=>?_
        ·show PO' ex (evR cl (.comp G' fr T src ifs elt) τ) _;rw[z];exact⟨o',rfl⟩
        ·obtain⟨o'',k⟩:=k;cases k;obtain⟨k1,k2,k3⟩:=g7 m.fok m.rps e;refine fin (.lst o' ds) (.ref A) H' F [A] f ?_ (fun p hp=>by subst hp;exact q2);rw[hkp];refine⟨k3,k1,.lstO (fun zz=>m.fok A zz hA) hA' (mm.free hi),k2,?_,fun a ha=>?_⟩
         ·rw[List.singleton_append,List.nodup_cons];refine⟨fun zz=>?_,m.nod⟩;obtain⟨_,xs,e⟩:=m.rps.own A zz;rw[hA] at e;cases e
         ·rw[List.singleton_append] at ha;rcases List.mem_cons.mp ha with rfl|ha
          ·exact .inr hA
          ·exact .inl ha
       ·have hkp:dn (.comp G' fr T src ifs elt) (.lst o' ds) τ=(.lst true (ers ds),frz (vars (.comp G' fr T src ifs elt)) τ):=by unfold dn;rw[if_neg (show ¬ dE (.lst o' ds)=true by intro z;cases z)];show (if cU ds=true then _ else _)=_;rw[if_neg hi]
        obtain⟨F1,gg,b1,b2,b3,b4,b5,b6⟩:=e9 (vars (.comp G' fr T src ifs elt)) m.fok m.rps m.nod;refine fN (S:=F1) (τ:=τ) (ex:=ex) (Kt:=fun d'=>∃ o'',d'=.lst o'' ds) hs.fle ha b6 ?_ fun A ys ds' H' e hA hA' mm k=>?_
        ·show PO' ex (evR cl (.comp G' fr T src ifs elt) τ) _;rw[z];exact⟨o',rfl⟩
        ·obtain⟨o'',k⟩:=k;cases k;obtain⟨c1,c2,c3⟩:=grow (fun a=>a≠A) b1 b2 e;have m2:HReps X.K (fun a=>F1 a∨(a≠A/\H a=none/\H' a≠none)) H' ys ds:=mm.step (fun a xs h r=>⟨h.1.elim (fun z=>.inl z) fun z=>.inr ⟨h.2,z,r.some⟩,r⟩) fun a xs h=>h;refine fin (.lst o' ds) (.ref A) H' (fun a=>F1 a∨(a≠A/\H a=none/\H' a≠none)) [A] gg ?_ (fun p hp=>by subst hp;exact q2);rw[hkp];refine⟨b4.trans c3 (fun x hx=>.inl (b5 x hx)),c1,.lstO (fun zz=>?_) hA' m2.frozen,c2,?_,fun a ha=>?_⟩
         ·rcases zz with zz|zz
          ·exact b1 A zz hA
          ·exact zz.1 rfl
         ·rw[List.singleton_append,List.nodup_cons];refine⟨fun zz=>?_,b3⟩;obtain⟨_,xs,e⟩:=b2.own A zz;rw[hA] at e;cases e
         ·rw[List.singleton_append] at ha;rcases List.mem_cons.mp ha with rfl|ha
          ·exact .inr hA
          ·exact .inl (b5 a ha)
     | _=>first|exact aY hv|cases hv
   | SetComp _ _ _ _=>cases e<;>first|exact aY hv|cases hv
   | DictComp _ _ _ _ _=>cases e<;>first|exact aY hv|cases hv
   | _=>exact plain rfl
 | Tuple ts k px=>
  have hc':notTuple v=true:=hc;refine dN (xN pe pg ?_ ?_ rfl) fun Dn σ H h=>vU ht h
  ·induction v using zE<;>rfl
  ·induction v using zE<;>first|rfl|cases hc'
 | _=>cases hc
end
theorem SqE.updD {K:PySem.W.Frag}{H:Hp}{a l:Addr}{xs:List V ⊕ EX}{ys zs:List (Key×V)}(hl:H l=some (.dK ys))(h:SqE K H a xs):SqE K (L2.upd H l (.dK zs)) a xs:=by exact h.cl (kx (fun o' z=>by rw[hl] at z;cases z) fun xs z=>by rcases z with z|⟨o',z⟩<;>(rw[hl] at z;cases z))
theorem MReps.noO {K:PySem.W.Frag}{F:Addr->Prop}{H:Hp}{vs:List V}{ds:List D}{f:List Addr}(h:MReps K F H vs ds f)(n:fu ds=true):f=[]:=by refine MReps.rec (motive_1:=fun _ d f _=>gM d=true->f=[]) (motive_2:=fun _ d f _=>fu d=true->f=[]) (fun _=>rfl) (fun _ _=>rfl) (fun _ _=>rfl) (fun _ _=>rfl) (fun _ _=>rfl) (fun _ _ i z=>i z) (fun _ _ _ _ _=>rfl) (fun _ _ _ _=>rfl) (fun _ _ _ _ z=>aY z) (fun _ _ _ _ _ _=>rfl) (fun _ _ _ _ _ z=>aY z) (fun _ _ _ _ _ _=>rfl) (fun _ _ _ _ _ _ _ z=>aY z) (fun _=>rfl) (fun {v d f vs ds g} _ _ i j z=>?_) h n;have z':=Bool.and_eq_true_iff.mp (show (gM d&&fu ds)=true from z);rw[i z'.1,j z'.2];rfl
theorem rD {K:PySem.W.Frag}{F:Addr->Prop}{H:Hp}{σ:St}{τ:Ev}{f:List Addr}{i:Nat}{ks:List Key}{ds:List D}(r:Rps K F H σ τ f)(hs:bS τ i=some (.dct true ks ds))(n:fu ds=true) :
  ∃ l kvs g,σ[i]? = some (some (.ref l))/\¬ F l/\H l=some (.dK kvs)/\kvs.map (·.1)=ks/\MReps K F H (kvs.map (·.2)) ds []/\Rps K F H σ (τ.set i none) g/\f.Perm (l::g):=by
 obtain⟨v,fs,g,h1,h2,h3,h4⟩:=r.at hs;cases h2 with
 | @dctO a kvs _ _ fi hF hH hk hm=>have e:=hm.noO n;subst e;exact⟨a,kvs,g,h1,hF,hH,hk,hm,h3,h4⟩
theorem Frm.writeD {K:PySem.W.Frag}{io:Option Nat}{B:Bs io}{F:Addr->Prop}{H:Hp}{σ:St}{τ:Ev}{f g:List Addr}{i:Nat}{l:Addr}{kvs kvs':List (Key×V)}{ks':List Key}{ds':List D}(m:Frm K B F H σ τ f)(hσ:σ[i]? = some (some (.ref l)))(hF:¬ F l)(hl:H l=some (.dK kvs))(hr:Rps K F H σ (τ.set i none) g)(h4:f.Perm (l::g))
  (hk:kvs'.map (·.1)=ks') (hm:MReps K F H (kvs'.map (·.2)) ds' []):∃ f',Frm K B F (upd H l (.dK kvs')) σ (τ.set i (some (.dct true ks' ds'))) f':=by
 have nd0:(l::g).Nodup:=h4.nodup_iff.mp m.nod;have lg:l∉g:=(List.nodup_cons.mp nd0).1;have sl:∀ a (u:LD),F a->Rd H a u.o->F a/\Rd (upd H l (.dK kvs')) a u.o:=fun a xs h r=>by refine⟨h,?_⟩;have:a≠l:=fun z=>hF (by rw[<- z];exact h);unfold Rd;rw[cG this];exact r
 have st:∀ a xs,SqE K H a xs->SqE K (upd H l (.dK kvs')) a xs:=fun a xs h=>h.updD hl;have r1:Rps K F (upd H l (.dK kvs')) σ (τ.set i none) g:=hr.step sl st fun a ha n _=>⟨n,cG fun z=>lg (by rw[<- z];exact ha)⟩
 have m1:MRep K F (upd H l (.dK kvs')) (.ref l) (.dct true ks' ds') [l]:=.dctO hF cP hk (hm.step sl st dO);obtain⟨g',h',r2,p2⟩:=r1.put i m1;have hσ':σ.set i (some (.ref l))=σ:=by
  apply List.ext_getElem?;intro j;rw[List.getElem?_set];by_cases hj:i=j
  ·subst hj;rw[if_pos rfl,if_pos (List.getElem?_eq_some_iff.mp hσ).1,hσ]
  ·rw[if_neg hj]
 rw[hσ',List.set_set] at r2;have nd2:(g'++h').Nodup:=p2.nodup_iff.mpr nd0;have lB:B.H l=none:=m.own l (h4.mem_iff.mpr (by simp));refine⟨g',fun a h=>?_,r2,(List.nodup_append.mp nd2).1,fun b o hbo=>?_,fun a ha=>m.own a (h4.mem_iff.mpr (p2.mem_iff.mp (List.mem_append_left _ ha))),m.inn,m.out,fun a xs h=>⟨(m.pin a xs h).1,(sl a xs (m.pin a xs h).1 (m.pin a xs h).2).2⟩,fun a xs h=>st a xs (m.pit a xs h),m.nm⟩
 ·have:a≠l:=fun z=>hF (by rw[<- z];exact h);rw[cG this];exact m.fok a h
 ·have:b≠l:=fun z=>by rw[z,lB] at hbo;cases hbo
  rw[cG this];exact m.same _ _ hbo
section
variable {Z:Sg}{CX:CXT}{cl:Nat->List D->Res D}{xp:XK->Hp->EX->Prop}{X:Cx}{ex:EX->Prop}{G:Gm}
theorem gh (is:List Nat):∀ (τ:Ev) (k i:Nat),is.contains (k+i)=false->bS (il is k τ) i=bS τ i
 | [],k,i,h=>rfl
 | o::τ,k,0,h=>by unfold il;rw[eO,eO,if_neg (by rw[show k=k+0 from rfl,h];simp)]
 | o::τ,k,i+1,h=>by unfold il;rw[dX,dX];exact gh is τ (k+1) i (by rw[<- h];congr 1;omega)
theorem st_dsetx (g:GOk Z CX cl xp X ex G){i:Nat}{k e:IR}{x:Str}{p sp pos:Pos}{s v:Expr}(h1:ez G i x=true)(h2:dJ s=true)(h3:chk Z G k s=true)(h4:chk Z G e v=true)(h5:(vars e).contains i=false) :
  PS X (.Assign [.Subscript (.Name x p) s sp] v pos) (RS X.K G.io ex (evS cl (.dsetx i k e))):=by
 have hu:=g.un;refine dN (ur (by omega) (g9 g h1) (snd k X ex G s g h3).1 (snd e X ex G v g h4).1 (by induction v using zE<;>rfl)) fun Dn σ H h=>?_;obtain⟨B,F,τ,f,m,q⟩:=h;have q0:PO' ex (bnd (evR cl e τ) fun d=>match bS τ i with|some (.dct true ks ds)=>bnd (evR cl k (frz (vars e) τ)) fun y=>(match i9 y with|some q=>grd (fu ds&&gm ks.length) (.ok (.nx ((frz (vars e) τ).set i (some (.dct true (ja ks q) (ers (iJ ks ds q d)))))))|none=>stk)|_=>stk) (Fk X.K B Dn):=q;obtain⟨F1,gg,b1,b2,b3,b4,b5,b6⟩:=e9 (vars e) m.fok m.rps m.nod;refine di (.refl _) b6 (PO'.bnd q0) fun d w H1 e1 _ mw q1=>?_;obtain⟨c1,c2,c3⟩:=grow (fun _=>True) b1 b2 e1;have m1:Frm X.K B (fun b=>F1 b∨(True/\H b=none/\H1 b≠none)) H1 σ (frz (vars e) τ) gg:=m.stp (b4.trans c3 (fun x hx=>.inl (b5 x hx))) c1 c2 b3 fun b hb=>.inl (b5 b hb);have mw:=mw.fix;cases z0:bS τ i with
 | none=>rw[z0] at q1;exact q1.no.elim
 | some d0=>
  rw[z0] at q1
  induction d0 using zD with
  | dct ow ks ds=>
   induction ow using zB with
   | false=>exact q1.no.elim
   | true=>
    have zf:bS (frz (vars e) τ) i=some (.dct true ks ds):=(gh (vars e) τ 0 i (by rw[Nat.zero_add];exact h5)).trans z0;obtain⟨v0,hv0,_⟩:∃ v0,σ[i]? = some (some v0)/\True:=by obtain⟨v0,_,_,h,_⟩:=m1.rps.at zf;exact⟨v0,h,trivial⟩
    refine⟨v0,hv0,m1.rd (PO'.bnd q1) fun y w2 H2 m2 e2 mw2 q2=>?_⟩;cases hk:i9 y with
    | none=>simp only[hk] at q2;exact q2.no.elim
    | some qk=>
     simp only[hk] at q2;obtain⟨gd,q2⟩:=PO'.grd q2;rw[Bool.and_eq_true] at gd;obtain⟨l,kvs,g0,hσ,hF,hl,hks,hm,hr,hp⟩:=rD m2.rps zf gd.1;rw[hv0] at hσ;cases hσ;subst hks;have hm2:=(put_h qk (mw.mono (fun _ h=>h) e2) (hm.read (fun _ h=>h) fun _ h=>absurd h (by simp))).frozen;obtain⟨f',m3⟩:=m2.writeD hv0 hF hl hr hp (vT kvs qk w) hm2;have hlen:kvs.length < sizeLine:=by
      have:=kC gd.2
      rwa [List.length_map] at this
     exact⟨l,_,rfl,.inl ⟨kvs,qk,hl,kJ mw2 hk,hlen,rfl⟩,q2.ok _ _ _ _ m3⟩
  | _=>exact q1.no.elim
end
section
variable {Z:Sg}{CX:CXT}{cl:Nat->List D->Res D}{xp:XK->Hp->EX->Prop}{X:Cx}{ex:EX->Prop}{G:Gm}
theorem y0 {K:PySem.W.Frag}{F:Addr->Prop}{H:Hp}{σ:St}{τ:Ev}{f:List Addr}{i:Nat}{ds:List D}(r:Rps K F H σ τ f)(hs:bS τ i=some (.lst true ds)):∃ l xs,σ[i]? = some (some (.ref l))/\H l=some (.lst xs)/\xs.length=ds.length:=by
 obtain⟨v,fs,g,h1,h2,h3,h4⟩:=r.at hs;cases h2 with
 | lstO hF hH hm=>exact⟨_,_,h1,hH,hm.length⟩
end
section
variable {Z:Sg}{CX:CXT}{cl:Nat->List D->Res D}{xp:XK->Hp->EX->Prop}{X:Cx}{ex:EX->Prop}{G:Gm}{pins:List (Addr×Obj)}
theorem Frm.put {io:Option Nat}{B:Bs io}{F:Addr->Prop}{H:Hp}{σ:St}{τ:Ev}{f fv:List Addr}{v:V}{d:D}(i:Nat)(m:Frm X.K B F H σ τ f)(mv:MRep X.K F H v d fv)(nd:(fv++f).Nodup)(hb:∀ a∈fv,B.H a=none)(hio:io≠some i):∃ f',Frm X.K B F H (σ.set i (some v)) (τ.set i (some d)) f':=by obtain⟨g',h',r0,p0⟩:=m.rps.put i mv;have nd0:(g'++h').Nodup:=p0.nodup_iff.mpr nd;exact⟨g',m.fok,r0,(List.nodup_append.mp nd0).1,m.same,fun b hb'=>(List.mem_append.mp (p0.subset (List.mem_append_left _ hb'))).elim (hb b) (m.own b),m.inn,m.out,m.pin,m.pit,fun j a e1 e2=>(List.getElem?_set_ne (fun z=>hio (by rw[z];exact e1))).trans (m.nm j a e1 e2)⟩
end
theorem set_same {σ:St}{i:Nat}{v:Option V}(h:σ[i]? = some v):σ.set i v=σ:=by
 apply List.ext_getElem?;intro j;rw[List.getElem?_set];by_cases hj:i=j
 ·subst hj;rw[if_pos rfl,if_pos (List.getElem?_eq_some_iff.mp h).1,h]
 ·rw[if_neg hj]
section
variable {K:PySem.W.Frag}{io:Option Nat}{B:Bs io}{F:Addr->Prop}{H:Hp}{σ:St}{τ:Ev}{f:List Addr}
theorem ff {i:Nat}{c:Str}{ks:List Str}{ds:List D}(r:Rps K F H σ τ f)(hs:bS τ i=some (.obj true c ks ds)) :
  ∃ a C dx fs fi g,σ[i]? = some (some (.ref a))/\¬ F a/\¬ F dx/\H a=some (.ins C dx fs)/\H dx=some (.own a)/\OC K c C/\fs.map (·.1)=ks/\MReps K F H (fs.map (·.2)) ds fi/\Rps K F H σ (τ.set i none) g/\f.Perm ((a::dx::fi)++g):=by
 obtain⟨v,fs,g,h1,h2,h3,h4⟩:=r.at hs;cases h2 with
 | objO a1 a2 a3 a4 a5 a6=>exact⟨_,_,_,_,_,g,h1,a1,a2,a3,a4,a5.1,a5.2,a6,h3,h4⟩
theorem Frm.chg {i:Nat}{a l:Addr}{u:LD}{o':HO}{d':D}{fi fi' fv g:List Addr}(m:Frm K B F H σ τ f)(hσ:σ[i]? = some (some (.ref a)))(hr:Rps K F H σ (τ.set i none) g)(h4:f.Perm (fi++g))(hl:l∈fi)(hF:¬ F l)(hH:H l=some u.o)
  (m1:MRep K F (upd H l o') (.ref a) d' fi') (hp:∀ b∈fi',b∈fv++fi) (nd':fi'.Nodup) (nd:(fv++f).Nodup) (hb:∀ b∈fv,B.H b=none):∃ f',Frm K B F (upd H l o') σ (τ.set i (some d')) f':=by
 have nda:(fv++(fi++g)).Nodup:=(List.Perm.append_left fv h4).nodup_iff.mp nd;have ndf:(fi++g).Nodup:=(List.nodup_append.mp nda).2.1;have lg:l∉g:=fun z=>(List.nodup_append.mp ndf).2.2 l hl l z rfl;have lB:B.H l=none:=m.own l (h4.mem_iff.mpr (List.mem_append_left _ hl));have nl:∀ b,F b->b≠l:=fun b h z=>hF (z ▸ h);have sl:∀ b (v:LD),F b->Rd H b v.o->F b/\Rd (upd H l o') b v.o:=fun b v h r=>by refine⟨h,?_⟩;unfold Rd;rw[cG (nl b h)];exact r
 have cl:Cl H (upd H l o'):=kx (fun o z=>by rw[hH] at z;cases u<;>cases z) fun xs z=>by rcases z with z|⟨o,z⟩<;>(rw[hH] at z;cases u<;>cases z)
 have r1:Rps K F (upd H l o') σ (τ.set i none) g:=hr.step sl (fun b xs h=>h.cl cl) fun b hb n _=>⟨n,cG fun z=>lg (z ▸ hb)⟩
 obtain⟨g',h',r2,p2⟩:=r1.put i m1;rw[set_same hσ,List.set_set] at r2
 have nd2:(fi'++g).Nodup:=List.nodup_append.mpr ⟨nd',(List.nodup_append.mp ndf).2.1,fun b h1 c h2 e=>by
  subst e;rcases List.mem_append.mp (hp b h1) with z|z
  ·exact(List.nodup_append.mp nda).2.2 b z b (List.mem_append_right _ h2) rfl
  ·exact(List.nodup_append.mp ndf).2.2 b z b h2 rfl⟩
 have nd3:(g'++h').Nodup:=p2.nodup_iff.mpr nd2;refine⟨g',fun b h=>by rw[cG (nl b h)];exact m.fok b h,r2,(List.nodup_append.mp nd3).1,fun b o hbo=>?_,fun b hb'=>?_,m.inn,m.out,fun b xs h=>sl b xs (m.pin b xs h).1 (m.pin b xs h).2,fun b xs h=>(m.pit b xs h).cl cl,m.nm⟩
 ·have:b≠l:=fun z=>by rw[z,lB] at hbo;cases hbo
  rw[cG this];exact m.same _ _ hbo
 ·rcases List.mem_append.mp (p2.mem_iff.mp (List.mem_append_left _ hb')) with z|z
  ·rcases List.mem_append.mp (hp b z) with y|y
   ·exact hb b y
   ·exact m.own b (h4.mem_iff.mpr (List.mem_append_left _ y))
  ·exact m.own b (h4.mem_iff.mpr (List.mem_append_right _ z))
theorem kc (x:Str)(w:V):∀ fs:List (Str×V),(eY x w fs).map (·.1)=eh x (fs.map (·.1))
 | []=>rfl
 | (k,v)::fs=>by
  show (if k=x then (k,w)::fs else (k,v)::eY x w fs).map (·.1)=if k=x then k::fs.map (·.1) else k::eh x (fs.map (·.1))
  by_cases h:k=x
  ·rw[if_pos h,if_pos h];rfl
  ·rw[if_neg h,if_neg h,List.map_cons,kc x w fs]
theorem mf (x:Str){w:V}{d:D}{fv:List Addr}(mw:MRep K F H w d fv):∀ (fs:List (Str×V)) {ds:List D}{fi:List Addr},MReps K F H (fs.map (·.2)) ds fi->(fv++fi).Nodup->∃ fi',MReps K F H ((eY x w fs).map (·.2)) (dh x d (fs.map (·.1)) ds) fi'/\fi'.Nodup/\∀ b∈fi',b∈fv++fi
 | [],ds,fi,m,nd=>by cases m;exact⟨fv++[],.cons mw .nil,nd,fun b h=>h⟩
 | (k,v)::fs,ds,fi,m,nd=>by
  cases m with
  | cons m1 m2=>
   rename_i d1 f1 ds1 g1
   have nd1:(f1++g1).Nodup:=(List.nodup_append.mp nd).2.1;show ∃ fi',MReps K F H ((if k=x then (k,w)::fs else (k,v)::eY x w fs).map (·.2)) (if k=x then d::ds1 else d1::dh x d (fs.map (·.1)) ds1) fi'/\_;by_cases h:k=x
   ·rw[if_pos h,if_pos h];refine⟨fv++g1,.cons mw m2,?_,fun b hb=>?_⟩
    ·refine List.nodup_append.mpr ⟨(List.nodup_append.mp nd).1,(List.nodup_append.mp nd1).2.1,fun b h1 c h2 e=>(List.nodup_append.mp nd).2.2 b h1 c (List.mem_append_right _ h2) e⟩
    ·rcases List.mem_append.mp hb with z|z
     ·exact List.mem_append_left _ z
     ·exact List.mem_append_right _ (List.mem_append_right _ z)
   ·rw[if_neg h,if_neg h];have nd2:(fv++g1).Nodup:=List.nodup_append.mpr ⟨(List.nodup_append.mp nd).1,(List.nodup_append.mp nd1).2.1,fun b h1 c h2 e=>(List.nodup_append.mp nd).2.2 b h1 c (List.mem_append_right _ h2) e⟩;obtain⟨fi',a1,a2,a3⟩:=mf x mw fs m2 nd2;refine⟨f1++fi',.cons m1 a1,List.nodup_append.mpr ⟨(List.nodup_append.mp nd1).1,a2,fun b h1 c h2 e=>?_⟩,fun b hb=>?_⟩
    ·subst e;rcases List.mem_append.mp (a3 b h2) with z|z
     ·exact(List.nodup_append.mp nd).2.2 b z b (List.mem_append_left _ h1) rfl
     ·exact(List.nodup_append.mp nd1).2.2 b h1 b z rfl
    ·rcases List.mem_append.mp hb with z|z
     ·exact List.mem_append_right _ (List.mem_append_left _ z)
     ·rcases List.mem_append.mp (a3 b z) with y|y
      ·exact List.mem_append_left _ y
      ·exact List.mem_append_right _ (List.mem_append_right _ y)
theorem MRep.frz {v:V}{d:D}{fv:List Addr}(m:MRep K F H v d fv):MRep K (fun b=>F b∨b∈fv) H v (er d) []:=(m.read (S:=fun b=>F b∨b∈fv) (fun _ z=>.inl z) fun _ z=>.inr z).frozen
theorem Frm.frzV {fv:List Addr}(m:Frm K B F H σ τ f)(nd:(fv++f).Nodup)(hb:∀ b∈fv,B.H b=none)(ht:∀ b∈fv,H b≠none):Frm K B (fun b=>F b∨b∈fv) H σ τ f where
 fok:=fun b h=>h.elim (m.fok b) (ht b)
 rps:=m.rps.step (fun b u h r=>⟨.inl h,r⟩) (fun b xs h=>h) fun b hb' n _=>⟨fun z=>z.elim n fun y=>(List.nodup_append.mp nd).2.2 b y b hb' rfl,rfl⟩
 nod:=m.nod
 same:=m.same
 own:=m.own
 inn:=fun b h=>.inl (m.inn b h)
 out:=fun b h=>h.elim (m.out b) fun z=>.inr (hb b z)
 pin:=fun b xs h=>⟨.inl (m.pin b xs h).1,(m.pin b xs h).2⟩
 pit:=m.pit
 nm:=m.nm
theorem Frm.putO {i:Nat}{a C dx:Addr}{fs:List (Str×V)}{c x:Str}{d:D}{ds:List D}{w:V}{fi fv g:List Addr}(m:Frm K B F H σ τ f)(hσ:σ[i]? = some (some (.ref a)))(hF:¬ F a)(hF':¬ F dx)(hH:H a=some (.ins C dx fs))(hd:H dx=some (.own a))(oc:OC K c C)(hm:MReps K F H (fs.map (·.2)) ds fi)
  (hr:Rps K F H σ (τ.set i none) g) (h4:f.Perm ((a::dx::fi)++g)) (mw:MRep K F H w d fv) (nd:(fv++f).Nodup) (hb:∀ b∈fv,B.H b=none) :
  ∃ f',Frm K B F (upd H a (.ins C dx (eY x w fs))) σ (τ.set i (some (.obj true c (eh x (fs.map (·.1))) (dh x d (fs.map (·.1)) ds)))) f':=by
 have nda:(fv++((a::dx::fi)++g)).Nodup:=(List.Perm.append_left fv h4).nodup_iff.mp nd;have nd0:(a::dx::fi).Nodup:=(List.nodup_append.mp (List.nodup_append.mp nda).2.1).1;have nfi:(fv++fi).Nodup:=List.nodup_append.mpr ⟨(List.nodup_append.mp nd).1,(List.nodup_cons.mp (List.nodup_cons.mp nd0).2).2,fun b h1 b' h2 e=>(List.nodup_append.mp nda).2.2 b h1 b' (List.mem_append_left _ (.tail _ (.tail _ h2))) e⟩;obtain⟨fi',a1,a2,a3⟩:=mf x mw fs hm nfi;have ne:∀ b∈fi',b≠a/\b≠dx:=fun b hb'=>by
  rcases List.mem_append.mp (a3 b hb') with z|z
  ·exact⟨fun e=>(List.nodup_append.mp nda).2.2 b z a (by simp) e,fun e=>(List.nodup_append.mp nda).2.2 b z dx (by simp) e⟩
  ·exact⟨fun e=>(List.nodup_cons.mp nd0).1 (e ▸ .tail _ z),fun e=>(List.nodup_cons.mp (List.nodup_cons.mp nd0).2).1 (e ▸ z)⟩
 have dne:dx≠a:=fun e=>(List.nodup_cons.mp nd0).1 (e ▸ .head _);have cl:Cl H (upd H a (.ins C dx (eY x w fs))):=kx (fun o z=>by rw[hH] at z;cases z) fun xs z=>by rcases z with z|⟨o,z⟩<;>(rw[hH] at z;cases z)
 have m1:MRep K F (upd H a (.ins C dx (eY x w fs))) (.ref a) (.obj true c (eh x (fs.map (·.1))) (dh x d (fs.map (·.1)) ds)) (a::dx::fi'):=.objO hF hF' cP (by rw[cG dne];exact hd) ⟨oc,kc x w fs⟩ (a1.step (fun b v h r=>by
  refine⟨h,?_⟩;unfold Rd;rw[cG (fun (z:b=a)=>hF (z ▸ h))]
  exact r) (fun b xs h=>h.cl cl) fun b hb' n _=>⟨n,cG (ne b hb').1⟩)
 refine m.chg (u:=.i C dx fs) (fv:=fv) hσ hr h4 (.head _) hF hH m1 (fun b hb'=>?_) ?_ nd hb
 ·rcases List.mem_cons.mp hb' with rfl|hb'
  ·exact List.mem_append_right _ (.head _)
  ·rcases List.mem_cons.mp hb' with rfl|hb'
   ·exact List.mem_append_right _ (.tail _ (.head _))
   ·rcases List.mem_append.mp (a3 b hb') with z|z
    ·exact List.mem_append_left _ z
    ·exact List.mem_append_right _ (.tail _ (.tail _ z))
 ·refine List.nodup_cons.mpr ⟨fun z=>?_,List.nodup_cons.mpr ⟨fun z=>(ne dx z).2 rfl,a2⟩⟩;rcases List.mem_cons.mp z with z|z
  ·exact dne z.symm
  ·exact(ne a z).1 rfl
theorem oB (x:Str){es:List D}:∀ (fs:List (Str×V)) {ds:List D}{fi:List Addr},MReps K F H (fs.map (·.2)) ds fi->fi.Nodup->cS (fs.map (·.1)) ds x=some (.lst true es)->
  ∃ l ys,fs.lookup x=some (.ref l)/\¬ F l/\l∈fi/\H l=some (.lst ys)/\ys.length=es.length/\∀ w dw,MRep K F H w dw []->MReps K F (upd H l (.lst (ys++[w]))) (fs.map (·.2)) (dh x (.lst true (es++[dw])) (fs.map (·.1)) ds) fi
 | [],ds,fi,m,nd,h=>by cases h
 | (k,v)::fs,ds,fi,m,nd,h=>by
  cases m with
  | cons m1 m2=>
   rename_i d1 f1 ds1 g1
   have h:(if k=x then some d1 else cS (fs.map (·.1)) ds1 x)=some (.lst true es):=h;have hlU:∀ (l:Addr) (zs:List V),¬ F l->∀ b (u:LD),F b->Rd H b u.o->F b/\Rd (upd H l (.lst zs)) b u.o:=fun l zs hF b u hb r=>by refine⟨hb,?_⟩;unfold Rd;rw[cG (fun (z:b=l)=>hF (z ▸ hb))];exact r
   have stepU:∀ (l:Addr) {ys zs:List V}{vs:List V}{ds:List D}{f:List Addr},H l=some (.lst ys)->¬ F l->l∉f->MReps K F H vs ds f->MReps K F (upd H l (.lst zs)) vs ds f:=fun l ys zs vs ds f hl hF nl m=>m.step (hlU l zs hF) (fun b xs r=>r.cl (mY hl)) fun b hb n _=>⟨n,cG fun z=>nl (z ▸ hb)⟩
   have stepU1:∀ (l:Addr) {ys zs:List V}{v:V}{d:D}{f:List Addr},H l=some (.lst ys)->¬ F l->l∉f->MRep K F H v d f->MRep K F (upd H l (.lst zs)) v d f:=fun l ys zs vs ds f hl hF nl m=>m.step (hlU l zs hF) (fun b xs r=>r.cl (mY hl)) fun b hb n _=>⟨n,cG fun z=>nl (z ▸ hb)⟩
   show ∃ l ys,(match x == k with|true=>some v|false=>List.lookup x fs)=some (.ref l)/\_;by_cases e:k=x
   ·rw[if_pos e] at h;cases h;rw[show (x == k)=true by rw[e];exact beq_self_eq_true x];cases m1 with
    | @lstO l ys _ fl a1 a2 a3=>
     have nd1:=List.nodup_cons.mp (show (l::(fl++g1)).Nodup from nd);refine⟨l,ys,rfl,a1,.head _,a2,a3.length,fun w dw mw=>?_⟩;show MReps K F _ (V.ref l::fs.map (·.2)) (if k=x then .lst true (es++[dw])::ds1 else _) _;rw[if_pos e];have a4:MReps K F H (ys++[w]) (es++[dw]) fl:=by have:=a3.append (.cons mw .nil);simpa using this
     exact .cons (.lstO a1 cP (stepU l a2 a1 (fun z=>nd1.1 (List.mem_append_left _ z)) a4)) (stepU l a2 a1 (fun z=>nd1.1 (List.mem_append_right _ z)) m2)
   ·rw[if_neg e] at h;rw[show (x == k)=false from beq_false_of_ne fun z=>e z.symm];obtain⟨l,ys,b1,b2,b3,b4,b5,b6⟩:=oB x fs m2 (List.nodup_append.mp nd).2.1 h;refine⟨l,ys,b1,b2,List.mem_append_right _ b3,b4,b5,fun w dw mw=>?_⟩;show MReps K F _ (v::fs.map (·.2)) (if k=x then _ else d1::dh x (.lst true (es++[dw])) (fs.map (·.1)) ds1) _;rw[if_neg e];exact .cons (stepU1 l b4 b2 (fun z=>(List.nodup_append.mp nd).2.2 l z l b3 rfl) m1) (b6 w dw mw)
theorem fg (x:Str):∀ (fs:List (Str×V)) {ds:List D}{fi:List Addr},MReps K F H (fs.map (·.2)) ds fi->∀ d,cS (fs.map (·.1)) ds x=some d->∃ v fx,fs.lookup x=some v/\MRep K F H v d fx/\∀ b∈fx,b∈fi
 | [],ds,fi,m,d,h=>by cases h
 | (k,v)::fs,ds,fi,m,d,h=>by
  cases m with
  | cons m1 m2=>
   rename_i d1 f1 ds1 g1
   have h:(if k=x then some d1 else cS (fs.map (·.1)) ds1 x)=some d:=h;show ∃ w fx,(match x == k with|true=>some v|false=>List.lookup x fs)=some w/\_;by_cases e:k=x
   ·rw[if_pos e] at h;cases h;rw[show (x == k)=true by rw[e];exact beq_self_eq_true x];exact⟨v,f1,rfl,m1,fun b hb=>List.mem_append_left _ hb⟩
   ·rw[if_neg e] at h;rw[show (x == k)=false from beq_false_of_ne fun z=>e z.symm];obtain⟨w,fx,a1,a2,a3⟩:=fg x fs m2 d h;exact⟨w,fx,a1,a2,fun b hb=>List.mem_append_right _ (a3 b hb)⟩
end
section
variable {Z:Sg}{CX:CXT}{cl:Nat->List D->Res D}{xp:XK->Hp->EX->Prop}{X:Cx}{ex:EX->Prop}{G:Gm}
theorem st_oset (g:GOk Z CX cl xp X ex G){i:Nat}{x s:Str}{cs:List Str}{fz:Bool}{e:IR}{p ap pos:Pos}{v:Expr}(h1:ez G i s=true)(hx:Z.ofs.contains x=true)(hc:cs.all (fun c=>Z.ocs.contains c)=true)(h2:chk Z G e v=true) :
  PS X (.Assign [.Attribute (.Name s p) x ap] v pos) (RS X.K G.io ex (evS cl (.oset i x cs fz e))):=by
 refine dN (xY (g9 g h1) (snO e false X ex G v g h2) (by induction v using zE<;>rfl)) fun Dn σ H ⟨B,F,τ,f,m,q⟩=>?_;have q0:PO' ex (bnd (evO cl false e τ) fun p=>lN i x cs fz p.1 p.2 (bS p.2 i)) (Fk X.K B Dn):=q;refine m.ro (PO'.bnd q0) fun p v H' F' fv f' o hp=>?_;obtain⟨mo,hb⟩:=m.ow o;cases zs:bS p.2 i with
 | none=>rw[zs] at hp;exact hp.no.elim
 | some d=>
  rw[zs] at hp
  induction d using zD with
  | obj ow c ks ds=>
   induction ow using zB with
   | false=>exact hp.no.elim
   | true=>
    obtain⟨gd,hp⟩:=PO'.grd (show PO' ex (grd (cs.contains c&&decide (ks.length < 1000)) (.ok (.nx (p.2.set i (some (.obj true c (eh x ks) (dh x (if fz=true then er p.1 else p.1) ks ds))))))) (Fk X.K B Dn) from hp);rw[Bool.and_eq_true] at gd;have hcs:c∈Z.ocs:=List.contains_iff_mem.mp (List.all_eq_true.mp hc c (List.contains_iff_mem.mp gd.1));have fin:∀ (F2:Addr->Prop) (fw:List Addr) (dw:D),Frm X.K B F2 H' σ p.2 f'->MRep X.K F2 H' v dw fw->(fw++f').Nodup->(∀ b∈fw,B.H b=none)->(if fz=true then er p.1 else p.1)=dw->qb i σ H' fun x' H2=>∃ a C dx fs,x'=.ref a/\H2 a=some (.ins C dx fs)/\Cls X.K C/\fR X.K C x/\fs.length < 1000/\Dn.nx σ (upd H2 a (.ins C dx (eY x v fs))):=by
     intro F2 fw dw m2 mw nd hb2 ed;obtain⟨a,C,dx,fs,fi,g',a1,a2,a3,a4,a5,a6,rfl,a8,a9,a10⟩:=ff m2.rps zs;obtain⟨k1,k2⟩:=g.ocl c hcs C a6;obtain⟨f2,m3⟩:=m2.putO (x:=x) a1 a2 a3 a4 a5 a6 a8 a9 a10 mw nd hb2;refine⟨.ref a,a1,a,C,dx,fs,rfl,a4,k1,k2 x (List.contains_iff_mem.mp hx),?_,?_⟩
     ·have:=of_decide_eq_true gd.2
      rwa [List.length_map] at this
     ·rw[ed] at hp;exact hp.ok _ _ _ _ m3
    induction fz using zB with
    | false=>exact fin F' fv p.1 mo o.rep o.nod hb rfl
    | true=>exact fin _ [] (er p.1) (mo.frzV o.nod hb fun b hb'=>by obtain⟨_,u,hu⟩:=o.rep.own b hb';rw[hu];simp) o.rep.frz (by simpa using mo.nod) (fun b hb'=>absurd hb' (by simp)) rfl
  | _=>exact hp.no.elim
theorem st_oapp (g:GOk Z CX cl xp X ex G){i:Nat}{x s:Str}{cs:List Str}{e:IR}{p ap apos cpos pos:Pos}{v:Expr}(h1:ez G i s=true)(hx:Z.ofs.contains x=true)(hc:cs.all (fun c=>Z.ocs.contains c)=true)(hl:(apos.endLine == cpos.line)=true)(h3:notStar v=true)(h4:chk Z G e v=true) :
  PS X (.Expr (.Call (.Attribute (.Attribute (.Name s p) x ap) "append" apos) [v] [] cpos) pos) (RS X.K G.io ex (evS cl (.oapp i x cs e))):=by
 have pa:PA X [v] (jO (RO X.K ex (evO cl false e)) qv):=dG (snO e false X ex G v g h4) eU (cE h3 _ _);have hfew:((backTo cpos (starEach [v] X.env)).all (fun x=>!x.1)&&(backToKw cpos (keywordEach [] X.env)).all (fun x=>x.1.isSome)&&decide ([v].length+([]:List Keyword).length+(if ([]:List Keyword).isEmpty then 0 else 1) < 30))=true:=by rw[cE h3];rfl
 refine dN (iP (lC PySem.F.plainAttrs_list PySem.F.slot_list_append PySem.F.type_list_append ib (g5 (f:=x) (pos:=ap) (g9 (pos:=p) g h1) rfl) pa rfl hfew hl (cE h3 _ _) rfl)) fun Dn σ H h=>?_;obtain⟨B,F,τ,f,m,q⟩:=h;have q0:PO' ex (match bS τ i with|some (.obj true c ks ds)=>grd (cs.contains c&&pP (cS ks ds x)) (bnd (evO cl false e τ) fun p=>jY i x cs p.1 p.2 (bS p.2 i))|_=>stk) (Fk X.K B Dn):=q;cases z0:bS τ i with
 | none=>rw[z0] at q0;exact q0.no.elim
 | some d0=>
  rw[z0] at q0
  induction d0 using zD with
  | obj ow c ks ds=>
   induction ow using zB with
   | false=>exact q0.no.elim
   | true=>
    obtain⟨gd,q1⟩:=PO'.grd q0;rw[Bool.and_eq_true] at gd;obtain⟨a,C,dx,fs,fi,g',a1,a2,a3,a4,a5,a6,rfl,a8,a9,a10⟩:=ff m.rps z0;have hcs:c∈Z.ocs:=List.contains_iff_mem.mp (List.all_eq_true.mp hc c (List.contains_iff_mem.mp gd.1));obtain⟨k1,k2⟩:=g.ocl c hcs C a6;cases zl:cS (fs.map (·.1)) ds x with
    | none=>rw[zl] at gd;exact aY gd.2
    | some dl=>
     rw[zl] at gd;obtain⟨v0,fx,l1,l2,l3⟩:=fg x fs a8 dl zl;have hq:∃ l xs,v0=.ref l/\SqL X.K H l xs:=by
      induction dl using zD with
      | lst o0 ds0=>
       cases l2 with
       | lstS _ b1 _=>exact⟨_,_,rfl,.inl b1⟩
       | lstK b1 _=>exact⟨_,_,rfl,b1.sq⟩
       | lstO _ b1 _=>exact⟨_,_,rfl,.inl (.inl b1)⟩
      | _=>exact aY gd.2
     obtain⟨l0,xs0,rfl,hq⟩:=hq;refine⟨.ref a,a1,a,C,dx,fs,.ref l0,rfl,.inl a4,k1,k2 x (List.contains_iff_mem.mp hx),l1,.inl ⟨rfl,xs0,hq⟩,m.ro (PO'.bnd q1) fun p w H' F' fv f' o hp=>?_⟩;obtain⟨mo,hb⟩:=m.ow o;cases zs:bS p.2 i with
     | none=>rw[zs] at hp;exact hp.no.elim
     | some d=>
      rw[zs] at hp
      induction d using zD with
      | obj ow' c' ks' ds'=>
       induction ow' using zB with
       | false=>exact hp.no.elim
       | true=>
        obtain⟨gd1,hp⟩:=PO'.grd (show PO' ex (grd (cs.contains c') (nY i x c' p.1 p.2 ks' ds' (cS ks' ds' x))) (Fk X.K B Dn) from hp);have m2:=mo.frzV o.nod hb fun b hb'=>by obtain⟨_,u,hu⟩:=o.rep.own b hb';rw[hu];simp
        have mw:=o.rep.frz;generalize (fun b=>F' b∨b∈fv)=F2 at m2 mw;obtain⟨a',C',dx',fs',fi',g2,b1,b2,b3,b4,b5,b6,rfl,b8,b9,b10⟩:=ff m2.rps zs;rw[a1] at b1;cases b1;have e4:=o.stp.same _ _ a4;rw[b4] at e4;cases e4;cases zl':cS (fs.map (·.1)) ds' x with
        | none=>rw[zl'] at hp;exact hp.no.elim
        | some dl'=>
         rw[zl'] at hp
         induction dl' using zD with
         | lst o' es=>
          induction o' using zB with
          | false=>exact hp.no.elim
          | true=>obtain⟨gd2,hp⟩:=PO'.grd (show PO' ex (grd (gm es.length) (.ok (.nx (p.2.set i (some (.obj true c' (fs.map (·.1)) (dh x (.lst true (es++[er p.1])) (fs.map (·.1)) ds'))))))) (Fk X.K B Dn) from hp);have nd0:(a::dx::fi').Nodup:=(List.nodup_append.mp (b10.nodup_iff.mp m2.nod)).1;have nfi:fi'.Nodup:=(List.nodup_cons.mp (List.nodup_cons.mp nd0).2).2;obtain⟨l,ys,c1,c2,c3,c4,c5,c6⟩:=oB x fs b8 nfi zl';rw[l1] at c1;cases c1;have nla:a≠l0:=fun z=>(List.nodup_cons.mp nd0).1 (z ▸ .tail _ c3);have nld:dx≠l0:=fun z=>(List.nodup_cons.mp (List.nodup_cons.mp nd0).2).1 (z ▸ c3);obtain⟨f2,m3⟩:=m2.chg (u:=.l ys) (o':=.lst (ys++[w])) (fv:=[]) (fi':=a::dx::fi') a1 b9 b10 (.tail _ (.tail _ c3)) c2 c4 (.objO b2 b3 (by rw[cG nla];exact b4) (by rw[cG nld];exact b5) ⟨b6,rfl⟩ (c6 w (er p.1) mw)) (fun b hb'=>hb') nd0 (by simpa using m2.nod) (fun b hb'=>absurd hb' (by simp));exact⟨l0,ys,w,rfl,rfl,c4,by rw[c5];exact of_decide_eq_true gd2,hp.ok _ _ _ _ m3⟩
         | _=>exact hp.no.elim
      | _=>exact hp.no.elim
  | _=>exact q0.no.elim
theorem st_reto (g:GOk Z CX cl xp X ex G){i:Nat}{e:IR}{v:Expr}{pos:Pos}(hio:G.io=some i)(h:chk Z G e v=true):PS X (.Return (some v) pos) (RS X.K G.io ex (evS cl (.reto i e))):=by
 refine dN (mH (snO e false X ex G v g h)) fun Dn σ H ⟨B,F,τ,f,m,q⟩=>?_;have q0:PO' ex (bnd (evO cl false e τ) (lQ i)) (Fk X.K B Dn):=q;refine m.ro (PO'.bnd q0) fun p v H' F' fv f' o hp=>?_;unfold lQ at hp;split at hp
 ·rename_i d zs
  obtain⟨gs,hp⟩:=PO'.grd hp;rw[Bool.and_eq_true] at gs;obtain⟨mo,hb⟩:=m.ow o;obtain⟨v1,f1,g1,e1,m1,_,e4⟩:=mo.rps.at zs
  induction d using zD with
  | obj ow c ks ds=>
   obtain⟨a,rfl⟩:∃ a,v1=.ref a:=by cases m1<;>exact⟨_,rfl⟩
   have sub:∀ b∈f1,b∈f':=fun b hb'=>e4.mem_iff.mpr (List.mem_append_left _ hb');refine hp.ok v H' F' fv f1 a (fun a' e'=>?_) ⟨mo.fok,mo.same,o.rep,(List.nodup_append.mp o.nod).1,hb,mo.inn,mo.out⟩ m1 (List.nodup_append.mpr ⟨(List.nodup_append.mp o.nod).1,(List.nodup_append.mp (e4.nodup_iff.mp mo.nod)).1,fun b h1 b' h2 e=>(List.nodup_append.mp o.nod).2.2 b h1 b' (sub b' h2) e⟩) fun b hb'=>mo.own b (sub b hb');have hnm:=mo.nm _ _ hio e';rw[e1] at hnm;cases hnm;rfl
  | _=>exact aY gs.2
 ·exact hp.no.elim
theorem rE (g:GOk Z CX cl xp X ex G){k:Nat}{f:Nat}{fa:Addr}{fd:FuncData}{ps:List Str}{pins:List (Addr×Obj)}{σ:St}{H:Hp}{s:Shared}{Q:VK}{us:List Value}{vs:List V}
  (F:FnOk X.prog X.w X.K X.mg X.base CX k fa fd ps (spI X.K cl f ps)) (hr:Room (k+1) X.A) (hk:k % 1000≠999) (hb:Binds X.K fd ps []) (hlen:∀ ds r,cl f ds=.ok r->ds.length=ps.length)
  (I:Inv X pins σ H s) (r:Vals vs us) (q:spJ X.K cl f vs H Q):wpAny (model X.prog X.w) X.A (call (.ref fa) us) (EP X pins σ Q) X.xe s:=
 wpAny_call (codeAny_mono (oA g F (hr.less hk) hb hlen (fun _ e=>e) I r q) fun r s' ⟨u,e,h⟩=>by subst e;exact h)
theorem rF (g:GOk Z CX cl xp X ex G){f:Nat}{m c:Str}{o:Expr}{ap pos:Pos}{ta:TE}{es:List IR}{args:List Expr}(ha:PE X o ta)(hn:l7 o=true)(hline:(ap.endLine == pos.line)=true)(hlen:args.length < 29)(hf:(f,c,m)∈Z.fio)(hcs:c∈Z.ocs)(hcm:G.cm=true)(hst:cW Z G es args=true) :
  PE X (.Call (.Attribute o m ap) args [] pos) (fun σ H Q=>ta σ H fun v H0=>∃ a C dx fs,v=.ref a/\Rd H0 a (.ins C dx fs)/\OC X.K c C/\fs.lookup m=none/\RA X.K ex (cF es) (cX cl es) σ H0 fun vs H1=>spJ X.K cl f (.ref a::vs) H1 Q):=by
 obtain⟨k,fa',fd,ps,hm,hb,F,hr,hk,hlen'⟩:=(g.fio f c m hf hcm).ex;have pa:=iz es X ex G args g hst;intro pins s σ H Q I q;refine ka (iw hn) (rh hst hlen) hline (thn (ha pins s σ H _ I q) fun u s1 ⟨x,H1,I1,rx,a,C,dx,fs,ex',ea,oc,l,q1⟩ pl=>?_);subst ex';obtain rfl:u=Value.ref a:=rx;obtain⟨k1,_⟩:=g.ocl c hcs C oc;have hme:=hm C oc;refine ji I1 ea k1 hme l ?_
 induction args using zL with
 | nil=>
  induction es using zL with
  | cons _ _=>cases hst
  | nil=>obtain⟨S,τ,hs,q1⟩:=q1;exact PySem.W.callWith_K0 (first:=[.ref a]) I1.kIn hme.kp (rE g (us:=[.ref a]) (vs:=[.ref a]) F hr hk hb hlen' I1 (.cons rfl .nil) (q1.ok [] H1 (.refl _) .nil))
 | cons e l'=>
  induction es using zL with
  | nil=>cases hst
  | cons b r=>have hst':(notStar e&&chk Z G b e&&cW Z G r l')=true:=hst;simp only[Bool.and_eq_true] at hst';refine PySem.W.callWith_K (first:=[.ref a]) (h₀:=X.base) I.ok.mod.kin hme.kp (thn (pa pos pins s1 σ H1 _ I1 q1) fun us s2 ⟨vs,H2,I2,rr,q2⟩=>⟨I2.kIn,?_⟩) (cE hst'.1.1 l' X.env) (dF Z G (es:=r) pos X.env hst'.2);exact rE g (us:=.ref a::us) (vs:=.ref a::vs) F hr hk hb hlen' I2 (.cons rfl rr) q2
theorem y2 {K:PySem.W.Frag}{io:Option Nat}{B:Bs io}{F2 F':Addr->Prop}{H1 H':Hp}{σ:St}{τ:Ev}{gg g0 f0 fv f1:List Addr}{a:Addr}{i:Nat}{v:V}{d d0 d1:D}(m2:Frm K B F2 H1 σ τ gg)(hσ:σ[i]? = some (some (.ref a)))(m0:MRep K F2 H1 (.ref a) d0 f0)(r0:Rps K F2 H1 σ (τ.set i none) g0)(p0:gg.Perm (f0++g0))
  (oi:OutI K a f0 F2 H1 F' H' v d fv d1 f1):∃ g',Frm K B F' H' σ (τ.set i (some d1)) g'/\(fv++g').Nodup/\∀ b∈fv,B.H b=none:=by
 have o:=m0.ownU;have nd0:(f0++g0).Nodup:=p0.nodup_iff.mp m2.nod;have in0:∀ b,b∈f0∨b∈g0->B.H b=none:=fun b hb=>m2.own b (p0.mem_iff.mpr (List.mem_append.mpr hb));have ng:∀ b∈g0,b∉f0:=fun b hb z=>(List.nodup_append.mp nd0).2.2 b z b hb rfl;have sg:∀ b∈g0,∃ u,H1 b=some u/\rmS f0 H1 b=some u:=fun b hb=>by obtain⟨_,u,hu⟩:=r0.own b hb;exact⟨u,hu,by rw[dI (ng b hb)];exact hu⟩
 have bn:∀ b,rmS f0 H1 b=none->B.H b=none:=fun b e=>by
  by_cases hb:b∈f0
  ·exact in0 b (.inl hb)
  ·rw[dI hb] at e;exact m2.same.free e
 have hl:∀ b (u:LD),F2 b->Rd H1 b u.o->F' b/\Rd H' b u.o:=fun b u hb r=>⟨oi.out.inn b hb,oi.out.same.rd (nv (fun z=>(m0.own b z).1 hb) r)⟩
 have ht:∀ b xs,SqE K H1 b xs->SqE K H' b xs:=fun b xs h=>oi.out.same.seqT (h.cl (nu o));have r3:Rps K F' H' σ (τ.set i none) g0:=r0.step hl ht fun b hb n1 n2=>by
  obtain⟨u,hu,hu'⟩:=sg b hb;refine⟨fun z=>?_,(oi.out.same _ _ hu').trans hu.symm⟩;rcases oi.out.out b z with z|z
  ·exact n1 z
  ·rw[hu'] at z;cases z
 obtain⟨g',h',r4,p4⟩:=r3.put i oi.m1;rw[set_same hσ,List.set_set] at r4
 have nd1:(f1++g0).Nodup:=List.nodup_append.mpr ⟨(List.nodup_append.mp oi.nd).2.1,(List.nodup_append.mp nd0).2.1,fun b h1 b' h2 e=>by
  subst e;obtain⟨u,_,hu⟩:=sg b h2;rw[oi.in1 b h1] at hu
  cases hu⟩
 have in4:∀ b∈g',b∈f1∨b∈g0:=fun b hb=>List.mem_append.mp (p4.mem_iff.mp (List.mem_append_left _ hb));have ng':g'.Nodup:=(List.nodup_append.mp (p4.nodup_iff.mpr nd1)).1;refine⟨g',⟨oi.out.fok,r4,ng',fun b u e=>?_,fun b hb=>(in4 b hb).elim (fun z=>bn b (oi.in1 b z)) fun z=>in0 b (.inr z),fun b hb=>oi.out.inn b (m2.inn b hb),fun b hb=>(oi.out.out b hb).elim (m2.out b) fun z=>.inr (bn b z),fun b xs hb=>hl b xs (m2.pin b xs hb).1 (m2.pin b xs hb).2,fun b xs hb=>ht b xs (m2.pit b xs hb),m2.nm⟩,List.nodup_append.mpr ⟨oi.out.nod,ng',fun b h1 b' h2 e=>?_⟩,fun b hb=>bn b (oi.out.new b hb)⟩
 ·have hb:b∉f0:=fun z=>by rw[in0 b (.inl z)] at e;cases e
  exact oi.out.same b u (by rw[dI hb];exact m2.same b u e)
 ·subst e;rcases in4 b h2 with z|z
  ·exact(List.nodup_append.mp oi.nd).2.2 b h1 b z rfl
  ·obtain⟨u,_,hu⟩:=sg b z;rw[oi.out.new b h1] at hu;cases hu
theorem uW {io:Option Nat}{B:Bs io}{F:Addr->Prop}{H:Hp}{σ:St}{τ:Ev}{fo:List Addr}{f i:Nat}{m c:Str}{es:List IR}{o:D}{Q:VK}(hni:(cF es).contains i=false)(hown:eG o=true)(hob:gK c m o=true)(fr:Frm X.K B F H σ τ fo)(zs:bS τ i=some o)
  (q1:PO' ex (cX cl es τ) fun ds=>∃ d d1,cl f (o::ers ds)=.ok (.tup [d,d1])/\∀ v H' F' fv g',Frm X.K B F' H' σ ((frz (cF es) τ).set i (some d1)) g'->MRep X.K F' H' v d fv->(fv++g').Nodup->(∀ b∈fv,B.H b=none)->Q v H') :
  qb i σ H fun v H0=>∃ a C dx fs,v=.ref a/\Rd H0 a (.ins C dx fs)/\OC X.K c C/\fs.lookup m=none/\RA X.K ex (cF es) (cX cl es) σ H0 fun vs H1=>spJ X.K cl f (.ref a::vs) H1 Q:=by
 obtain⟨F1,gg,b1,b2,b3,b4,b5,b6⟩:=e9 (cF es) fr.fok fr.rps fr.nod;have zf:bS (frz (cF es) τ) i=some o:=(gh (cF es) τ 0 i (by rw[Nat.zero_add];exact hni)).trans zs
 induction o using zD with
 | obj ow c' ks ds0=>have hown':ow=true:=hown;subst hown';have hob':(c == c'&&!ks.contains m)=true:=hob;rw[Bool.and_eq_true] at hob';have e0:=eq_of_beq hob'.1;subst e0;obtain⟨a,C,dx,fs,fi,g',a1,a2,a3,a4,a5,a6,rfl,a8,a9,a10⟩:=ff b2 zf;refine⟨.ref a,a1,a,C,dx,fs,rfl,.inl a4,a6,gc m fs (by simpa using hob'.2),iu (.refl _) b6 q1 fun ds vs H1 e1 _ m1 q2=>?_⟩;obtain⟨c1,c2,c3⟩:=grow (fun _=>True) b1 b2 e1;have m2:Frm X.K B (fun b=>F1 b∨(True/\H b=none/\H1 b≠none)) H1 σ (frz (cF es) τ) gg:=fr.stp (b4.trans c3 (fun x hx=>.inl (b5 x hx))) c1 c2 b3 fun b hb=>.inl (b5 b hb);have hm:HReps X.K (fun a=>F1 a∨(True/\H a=none/\H1 a≠none)) H1 vs ds:=m1.step (fun a xs h r=>⟨h.elim (fun z=>.inl z) fun z=>.inr ⟨trivial,z,r.some⟩,r⟩) fun a xs h=>h;generalize (fun b=>F1 b∨(True/\H b=none/\H1 b≠none))=F2 at m2 hm c1 c2;obtain⟨v0,f0,g0,e4,m0,r0,p0⟩:=c2.at zf;rw[a1] at e4;cases e4;obtain⟨d,d1,zc,q3⟩:=q2;refine⟨a,_,f0,F2,vs,ds,rfl,⟨c1,(List.nodup_append.mp (p0.nodup_iff.mp b3)).1,m0,hm⟩,d,d1,zc,fun v H' F' fv f1 oi=>?_⟩;obtain⟨gx,mF,nd5,hb5⟩:=y2 m2 a1 m0 r0 p0 oi;exact q3 v H' F' fv gx mF oi.out.rep nd5 hb5
 | _=>exact aY hown
theorem oC {f j i:Nat}{R:D->Res Fl}{o:D}{ds:List D}{Kt:Fl->Prop}(hR:∀ r,(∃ d c ks es,r=.tup [d,.obj true c ks es])∨R r=stk)(q:PO' ex (bnd (noX (cl f (o::ers ds))) R) Kt) :
  ∃ d c ks es,cl f (o::ers ds)=.ok (.tup [d,.obj true c ks es])/\PO' ex (R (.tup [d,.obj true c ks es])) Kt:=by
 cases zc:cl f (o::ers ds) with
 | error er=>rw[zc] at q;exact q.no.elim
 | ok rr=>
  rw[zc] at q;have q3:PO' ex (R rr) Kt:=q;rcases hR rr with ⟨d,c,ks,es,rfl⟩|h
  ·exact⟨d,c,ks,es,rfl,q3⟩
  ·rw[h] at q3;exact q3.no.elim
theorem rG {j:Option Nat}{i:Nat}{τ:Ev}(r:D):(∃ d c ks es,r=.tup [d,.obj true c ks es])∨lO j i τ r=stk:=by
 unfold lO;split
 ·exact .inl ⟨_,_,_,_,rfl⟩
 ·exact .inr rfl
theorem st_mio (g:GOk Z CX cl xp X ex G){i f:Nat}{m c s:Str}{p ap cpos pos:Pos}{es:List IR}{args:List Expr}(h1:ez G i s=true)(hline:(ap.endLine == cpos.line)=true)(hlen:args.length < 29)(hf:(f,c,m)∈Z.fio)(hcs:c∈Z.ocs)(hcm:G.cm=true)(hst:cW Z G es args=true) :
  PS X (.Expr (.Call (.Attribute (.Name s p) m ap) args [] cpos) pos) (RS X.K G.io ex (evS cl (.mio none i f m c es))):=by
 refine dN (iP (rF g (g9 (pos:=p) g h1) rfl hline hlen hf hcs hcm hst)) fun Dn σ H ⟨B,F,τ,fo,fr,q⟩=>?_;have q0:PO' ex (match bS τ i with|some o=>grd (eG o&&gK c m o&&!(cF es).contains i) (bnd (cX cl es τ) fun ds=>bnd (noX (cl f (o::ers ds))) (lO none i (frz (cF es) τ)))|none=>stk) (Fk X.K B Dn):=q;cases zs:bS τ i with
 | none=>rw[zs] at q0;exact q0.no.elim
 | some o=>rw[zs] at q0;obtain⟨gd,q1⟩:=PO'.grd q0;rw[Bool.and_eq_true,Bool.and_eq_true] at gd;refine uW (by simpa using gd.2) gd.1.1 gd.1.2 fr zs ((PO'.bnd q1).mono fun ds hd=>?_);obtain⟨d,c',ks,es',zc,q2⟩:=oC (j:=0) (i:=0) rG hd;exact⟨d,_,zc,fun v H' F' fv g' mF _ _ _=>q2.ok _ _ _ _ mF⟩
theorem MReps.getM {K:PySem.W.Frag}{F:Addr->Prop}{H:Hp}{vs:List V}{ds:List D}{f:List Addr}(h:MReps K F H vs ds f):∀ {j:Nat}{d:D},ds[j]? = some d->∃ v f',vs[j]? = some v/\MRep K F H v d f':=
 MReps.ind (P:=fun vs ds _=>∀ {j:Nat}{d:D},ds[j]? = some d->∃ v f',vs[j]? = some v/\MRep K F H v d f') (fun {j d} e=>nomatch (show none=some d from e)) (fun v d f vs ds g a b k {j d'} e=>by
  cases j with
  | zero=>exact⟨v,f,rfl,Option.some.inj e ▸ a⟩
  | succ j=>exact k (j:=j) e) h
theorem st_oget (g:GOk Z CX cl xp X ex G){j i:Nat}{x s y:Str}{cs:List Str}{k:IR}{py p ap sp pos:Pos}{ke:Expr}(hT:eF G (.nm j) (.Name y py)=true)(h1:ez G i s=true)(hx:Z.ofs.contains x=true)(hc:cs.all (fun c=>Z.ocs.contains c)=true)(hp:dJ ke=true)(h2:chk Z G k ke=true) :
  PS X (.Assign [.Name y py] (.Subscript (.Attribute (.Name s p) x ap) ke sp) pos) (RS X.K G.io ex (evS cl (.oget j i x cs k))):=by
 have ht':(G.N[j]? == some y&&(G.kd[j]? == some .local||(G.df&&G.kd[j]? == some .cell)))=true:=(Bool.and_eq_true_iff.mp hT).1;have hjo:G.io≠some j:=by simpa using(Bool.and_eq_true_iff.mp hT).2
 rw[Bool.and_eq_true,Bool.or_eq_true,Bool.and_eq_true] at ht';have hy:G.N[j]? = some y:=eq_of_beq ht'.1;have hk:=g.kd j y hy;have hloc:Loc X.env.scope y:=ht'.2.elim (fun z=>.inl (hk.trans (eq_of_beq z))) fun z=>.inr (hk.trans (eq_of_beq z.2));have hfn:X.fn y=true∨X.env.scope.names.lookup y=some .local:=ht'.2.elim (fun z=>.inr (hk.trans (eq_of_beq z))) fun z=>.inl (g.df z.1 y);refine dN (qj (i:=j) (by rw[g.N];exact g.nod) (by rw[g.N];exact hy) hloc (vL nP (g5 (f:=x) (pos:=ap) (g9 (pos:=p) g h1) rfl) (snd k X ex G ke g h2).1 (fun o i=>by cases ke<;>first|rfl|cases hp)) rfl hfn) fun Dn σ H h=>?_;obtain⟨B,F,τ,f,m,q⟩:=h;have q0:PO' ex (match bS τ i with|some (.obj true c ks ds)=>grd (cs.contains c) (jZ cl j k τ (cS ks ds x))|_=>stk) (Fk X.K B Dn):=q;cases z0:bS τ i with
 | none=>rw[z0] at q0;exact q0.no.elim
 | some d0=>
  rw[z0] at q0
  induction d0 using zD with
  | obj ow c ks ds=>
   induction ow using zB with
   | false=>exact q0.no.elim
   | true=>
    obtain⟨gd,q1⟩:=PO'.grd q0;obtain⟨a,C,dx,fs,fi,g',a1,a2,a3,a4,a5,a6,rfl,a8,a9,a10⟩:=ff m.rps z0;have hcs:c∈Z.ocs:=List.contains_iff_mem.mp (List.all_eq_true.mp hc c (List.contains_iff_mem.mp gd));obtain⟨k1,k2⟩:=g.ocl c hcs C a6;cases zl:cS (fs.map (·.1)) ds x with
    | none=>rw[zl] at q1;exact q1.no.elim
    | some dl=>
     rw[zl] at q1
     induction dl using zD with
     | lst o es=>
      induction o using zB with
      | false=>exact q1.no.elim
      | true=>
       obtain⟨v0,fx,l1,l2,_⟩:=fg x fs a8 _ zl;cases l2 with
       | @lstO l ys _ fl b1 b2 b3=>
        have q2:PO' ex (bnd (evR cl k τ) (nZ j τ es)) (Fk X.K B Dn):=q1;refine⟨.ref a,a1,a,C,dx,fs,.ref l,rfl,.inl a4,k1,k2 x (List.contains_iff_mem.mp hx),l1,m.rd (PO'.bnd q2) fun dk vk H1 m1 e1 mk kt=>?_⟩
        induction dk using zD with
        | int z=>
         cases mk.intR;have kt':PO' ex (match atI es z with|some d=>grd (gM d) (.ok (.nx (τ.set j (some d))))|none=>stk) (Fk X.K B Dn):=kt;cases zd:atI es z with
         | none=>rw[zd] at kt';exact kt'.no.elim
         | some d=>
          rw[zd] at kt';obtain⟨gn,kt2⟩:=PO'.grd kt';obtain⟨a',C',dx',fs',fi',g2,c1,c2,c3,c4,c5,c6,c7,c8,c9,c10⟩:=ff m1.rps z0;rw[a1] at c1;cases c1;have e4:=e1 _ _ a4;rw[c4] at e4;cases e4;obtain⟨v1,fx',n1,n2,_⟩:=fg x fs c8 _ zl;rw[l1] at n1;cases n1;cases n2 with
          | @lstO _ ys' _ fl' d1 d2 d3=>
           have zd':=zd;unfold atI at zd';cases zi:ixN es.length z with
           | none=>rw[zi] at zd';cases zd'
           | some n=>
            rw[zi] at zd';obtain⟨w,f',w1,w2⟩:=d3.getM (show es[n]? = some d from zd');have ef:f'=[]:=by have:=MReps.noO (.cons w2 .nil) (show (gM d&&true)=true by rw[gn];rfl);simpa using this
            subst ef;refine⟨l,ys',z,w,rfl,rfl,.inl (.inl d2),?_,?_⟩
            ·unfold atI;rw[d3.length,zi];exact w1
            ·obtain⟨f2,m3⟩:=m1.put j w2 (by simpa using m1.nod) (fun b hb=>absurd hb (by simp)) hjo;exact kt2.ok _ _ _ _ m3
        | _=>exact kt.no.elim
     | _=>exact q1.no.elim
  | _=>exact q0.no.elim
theorem oE {K:PySem.W.Frag}{F:Addr->Prop}{H:Hp}(y:Str):∀ (fs:List (Str×V)) {ds:List D}{fi:List Addr},MReps K F H (fs.map (·.2)) ds fi->∀ o,cS (fs.map (·.1)) ds y=some o->
  ∃ w fy gi,fs.lookup y=some w/\MRep K F H w o fy/\fi.Perm (fy++gi)/\∀ (F':Addr->Prop) (H':Hp),(∀ b (u:LD),F b->Rd H b u.o->F' b/\Rd H' b u.o)->(∀ b xs,SqE K H b xs->SqE K H' b xs)->(∀ b∈gi,¬ F b->H b≠none->¬ F' b/\H' b=H b)->
   ∀ o1 f1,MRep K F' H' w o1 f1->∃ fi',MReps K F' H' (fs.map (·.2)) (dh y o1 (fs.map (·.1)) ds) fi'/\fi'.Perm (f1++gi)
 | [],ds,fi,m,o,h=>by cases h
 | (k,v)::fs,ds,fi,m,o,h=>by
  cases m with
  | cons m1 m2=>
   rename_i d1 f1 ds1 g1
   have h:(if k=y then some d1 else cS (fs.map (·.1)) ds1 y)=some o:=h;show ∃ w fy gi,(match y == k with|true=>some v|false=>List.lookup y fs)=some w/\_;by_cases e:k=y
   ·rw[if_pos e] at h;cases h;rw[show (y == k)=true by rw[e];exact beq_self_eq_true y];refine⟨v,f1,g1,rfl,m1,.refl _,fun F' H' hl ht kk o1 f1' mo=>⟨f1'++g1,?_,.refl _⟩⟩;show MReps K F' H' (v::fs.map (·.2)) (if k=y then o1::ds1 else _) _;rw[if_pos e];exact .cons mo (m2.step hl ht kk)
   ·rw[if_neg e] at h;rw[show (y == k)=false from beq_false_of_ne fun z=>e z.symm];obtain⟨w,fy,gi,a1,a2,a3,a4⟩:=oE y fs m2 o h;refine⟨w,fy,f1++gi,a1,a2,?_,fun F' H' hl ht kk o1 f1' mo=>?_⟩
    ·refine(List.Perm.append_left f1 a3).trans ?_;rw[<- List.append_assoc,<- List.append_assoc];exact List.Perm.append_right gi List.perm_append_comm
    ·obtain⟨fi',b1,b2⟩:=a4 F' H' hl ht (fun b hb=>kk b (List.mem_append_right _ hb)) o1 f1' mo;refine⟨f1++fi',?_,?_⟩
     ·show MReps K F' H' (v::fs.map (·.2)) (if k=y then _ else d1::dh y o1 (fs.map (·.1)) ds1) _;rw[if_neg e];exact .cons (m1.step hl ht fun b hb=>kk b (List.mem_append_left _ hb)) b1
     ·refine(List.Perm.append_left f1 b2).trans ?_;rw[<- List.append_assoc,<- List.append_assoc];exact List.Perm.append_right gi List.perm_append_comm
theorem pZ {y c0:Str}{ks:List Str}{ds:List D}(r:D):(∃ d c ks' es,r=.tup [d,.obj true c ks' es])∨jc y c0 ks ds r=stk:=by
 unfold jc;split
 ·exact .inl ⟨_,_,_,_,rfl⟩
 ·exact .inr rfl
theorem st_rmio (g:GOk Z CX cl xp X ex G){i f:Nat}{m c s y:Str}{cs:List Str}{p yp ap cpos pos:Pos}{es:List IR}{args:List Expr}(hio:G.io=some i)(h1:ez G i s=true)(hy:Z.ofs.contains y=true)(hc:cs.all (fun c=>Z.ocs.contains c)=true)(hline:(ap.endLine == cpos.line)=true)(hlen:args.length < 29)(hf:(f,c,m)∈Z.fio)(hcs:c∈Z.ocs)(hcm:G.cm=true)(hst:cW Z G es args=true) :
  PS X (.Return (some (.Call (.Attribute (.Attribute (.Name s p) y yp) m ap) args [] cpos)) pos) (RS X.K G.io ex (evS cl (.rmio i y cs f m c es))):=by
 refine dN (mH (rF g (g5 (f:=y) (pos:=yp) (g9 (pos:=p) g h1) rfl) rfl hline hlen hf hcs hcm hst)) fun Dn σ H ⟨B,F,τ,fo,fr,q⟩=>?_;have q0:PO' ex (match bS τ i with|some (.obj true c0 ks ds)=>grd (cs.contains c0&&!(cF es).contains i) (j5 cl y f m c es τ c0 ks ds (cS ks ds y))|_=>stk) (Fk X.K B Dn):=q;cases zs:bS τ i with
 | none=>rw[zs] at q0;exact q0.no.elim
 | some d0=>
  rw[zs] at q0
  induction d0 using zD with
  | obj ow c0 ks ds=>
   induction ow using zB with
   | false=>exact q0.no.elim
   | true=>
    obtain⟨gd,q1⟩:=PO'.grd q0;rw[Bool.and_eq_true] at gd;cases zl:cS ks ds y with
    | none=>rw[zl] at q1;exact q1.no.elim
    | some o=>
     rw[zl] at q1;obtain⟨go,q2⟩:=PO'.grd (show PO' ex (grd (eG o&&gK c m o) (bnd (cX cl es τ) fun as=>bnd (noX (cl f (o::ers as))) (jc y c0 ks ds))) (Fk X.K B Dn) from q1);rw[Bool.and_eq_true] at go;obtain⟨F1,gg,b1,b2,b3,b4,b5,b6⟩:=e9 (cF es) fr.fok fr.rps fr.nod;have zf:bS (frz (cF es) τ) i=some (.obj true c0 ks ds):=(gh (cF es) τ 0 i (by rw[Nat.zero_add];simpa using gd.2)).trans zs;obtain⟨a,C,dx,fs,fi,g',a1,a2,a3,a4,a5,a6,rfl,a8,a9,a10⟩:=ff b2 zf;have hcs0:c0∈Z.ocs:=List.contains_iff_mem.mp (List.all_eq_true.mp hc c0 (List.contains_iff_mem.mp gd.1));obtain⟨k1,k2⟩:=g.ocl c0 hcs0 C a6;obtain⟨w0,fx,l1,l2,_⟩:=fg y fs a8 _ zl;have hw:∃ ay Cy dy fy,w0=.ref ay/\H ay=some (.ins Cy dy fy)/\OC X.K c Cy/\fy.lookup m=none:=by
      induction o using zD with
      | obj ow c' ks' ds'=>
       have hown':ow=true:=go.1;subst hown';have hob':(c == c'&&!ks'.contains m)=true:=go.2;rw[Bool.and_eq_true] at hob';have e0:=eq_of_beq hob'.1;subst e0;cases l2 with
       | objO d1 d2 d3 d4 d5 d6=>exact⟨_,_,_,_,rfl,d3,d5.1,gc m _ (by rw[d5.2];simpa using hob'.2)⟩
      | _=>exact aY go.1
     obtain⟨ay,Cy,dy,fsy,rfl,w1,w2,w3⟩:=hw;refine⟨.ref a,a1,a,C,dx,fs,.ref ay,rfl,.inl a4,k1,k2 y (List.contains_iff_mem.mp hy),l1,ay,Cy,dy,fsy,rfl,.inl w1,w2,w3,iu (.refl _) b6 (PO'.bnd q2) fun ds' vs H1 e1 _ m1 q3=>?_⟩;obtain⟨c1,c2,c3⟩:=grow (fun _=>True) b1 b2 e1;have m2:Frm X.K B (fun b=>F1 b∨(True/\H b=none/\H1 b≠none)) H1 σ (frz (cF es) τ) gg:=fr.stp (b4.trans c3 (fun x hx=>.inl (b5 x hx))) c1 c2 b3 fun b hb=>.inl (b5 b hb);have hm:HReps X.K (fun a=>F1 a∨(True/\H a=none/\H1 a≠none)) H1 vs ds':=m1.step (fun a xs h r=>⟨h.elim (fun z=>.inl z) fun z=>.inr ⟨trivial,z,r.some⟩,r⟩) fun a xs h=>h;generalize (fun b=>F1 b∨(True/\H b=none/\H1 b≠none))=F2 at m2 hm c1 c2;obtain⟨a',C',dx',fs',fi2,g2,f1,f2,f3,f4,f5,f6,f7,f8,f9,f10⟩:=ff c2 zf;rw[a1] at f1;cases f1;have e4:=e1 _ _ a4;rw[f4] at e4;cases e4;obtain⟨w,fy,gi,s1,s2,s3,s4⟩:=oE y fs f8 _ zl;rw[l1] at s1;cases s1;obtain⟨d,c',ks',es',zc,q4⟩:=oC (j:=0) (i:=0) pZ q3;have own:dB H1 fy:=s2.ownU
     -- all of it
     have ndA:((a::dx::fi2)++g2).Nodup:=f10.nodup_iff.mp b3;have nd0:(a::dx::fi2).Nodup:=(List.nodup_append.mp ndA).1;have nd1:(fy++gi).Nodup:=s3.nodup_iff.mp (List.nodup_cons.mp (List.nodup_cons.mp nd0).2).2;have inG:∀ b,b=a∨b=dx∨b∈fi2->b∈gg:=fun b hb=>f10.mem_iff.mpr (List.mem_append_left _ (hb.elim (fun z=>z ▸ .head _) fun z=>z.elim (fun z=>z ▸ .tail _ (.head _)) fun z=>.tail _ (.tail _ z)));have bO:∀ b,b=a∨b=dx∨b∈fi2->B.H b=none:=fun b hb=>m2.own b (inG b hb);have fyI:∀ b∈fy,b∈fi2:=fun b hb=>s3.mem_iff.mpr (List.mem_append_left _ hb);have giI:∀ b∈gi,b∈fi2:=fun b hb=>s3.mem_iff.mpr (List.mem_append_right _ hb);have na:a∉fi2:=fun z=>(List.nodup_cons.mp nd0).1 (.tail _ z);have ndx:dx∉fi2:=(List.nodup_cons.mp (List.nodup_cons.mp nd0).2).1;have ndxa:dx≠a:=fun z=>(List.nodup_cons.mp nd0).1 (z ▸ .head _);have rst:∀ b,b=a∨b=dx∨b∈gi->b∉fy/\∃ u,H1 b=some u/\rmS fy H1 b=some u/\¬ F2 b:=fun b hb=>by have hb':b∉fy:=fun z=>hb.elim (fun e=>na (e ▸ fyI b z)) fun e=>e.elim (fun e=>ndx (e ▸ fyI b z)) fun e=>(List.nodup_append.mp nd1).2.2 b z b e rfl;obtain⟨n1,u,hu⟩:=c2.own b (inG b (hb.elim .inl fun z=>.inr (z.elim .inl fun z=>.inr (giI b z))));exact⟨hb',u,hu,by rw[dI hb'];exact hu,n1⟩
     have bn:∀ b,rmS fy H1 b=none->B.H b=none:=fun b e=>by
      by_cases hb:b∈fy
      ·exact bO b (.inr (.inr (fyI b hb)))
      ·rw[dI hb] at e;exact m2.same.free e
     refine⟨ay,o,fy,F2,vs,ds',rfl,⟨c1,(List.nodup_append.mp nd1).1,s2,hm⟩,d,_,zc,fun v H' F' fv fo1 oi=>?_⟩;have hl:∀ b (u:LD),F2 b->Rd H1 b u.o->F' b/\Rd H' b u.o:=fun b u hb r=>⟨oi.out.inn b hb,oi.out.same.rd (nv (fun z=>(s2.own b z).1 hb) r)⟩
     have ht:∀ b xs,SqE X.K H1 b xs->SqE X.K H' b xs:=fun b xs h=>oi.out.same.seqT (h.cl (nu own));have st:∀ b,b=a∨b=dx∨b∈gi->¬ F' b/\H' b=H1 b:=fun b hb=>by
      obtain⟨_,u,hu,hu',n1⟩:=rst b hb;refine⟨fun z=>?_,(oi.out.same _ _ hu').trans hu.symm⟩;rcases oi.out.out b z with z|z
      ·exact n1 z
      ·rw[hu'] at z;cases z
     obtain⟨fi',r1,r2⟩:=s4 F' H' hl ht (fun b hb _ _=>st b (.inr (.inr hb))) _ fo1 oi.m1;have mN:MRep X.K F' H' (.ref a) (.obj true c0 (fs.map (·.1)) (dh y (.obj true c' ks' es') (fs.map (·.1)) ds)) (a::dx::fi'):=.objO (st a (.inl rfl)).1 (st dx (.inr (.inl rfl))).1 ((st a (.inl rfl)).2.trans f4) ((st dx (.inr (.inl rfl))).2.trans f5) ⟨f6,rfl⟩ r1;have inN:∀ b∈a::dx::fi',(b=a∨b=dx∨b∈gi)∨b∈fo1:=fun b hb=>by
      rcases List.mem_cons.mp hb with z|z
      ·exact .inl (.inl z)
      ·rcases List.mem_cons.mp z with z|z
       ·exact .inl (.inr (.inl z))
       ·exact(List.mem_append.mp (r2.mem_iff.mp z)).elim .inr fun z=>.inl (.inr (.inr z))
     have nF1:∀ b,b=a∨b=dx∨b∈gi->b∉fo1/\b∉fv:=fun b hb=>by obtain⟨_,u,_,hu',_⟩:=rst b hb;exact⟨fun z=>(nomatch (oi.in1 b z).symm.trans hu'),fun z=>(nomatch (oi.out.new b z).symm.trans hu')⟩
     have ndN:(a::dx::fi').Nodup:=by have nfi:fi'.Nodup:=r2.nodup_iff.mpr (List.nodup_append.mpr ⟨(List.nodup_append.mp oi.nd).2.1,(List.nodup_append.mp nd1).2.1,fun b z1 b' z2 e=>(nF1 b' (.inr (.inr z2))).1 (e ▸ z1)⟩);have out:∀ b,b=a∨b=dx->b∉fi2->b∉fi':=fun b hb hn z=>(List.mem_append.mp (r2.mem_iff.mp z)).elim (nF1 b (hb.elim .inl fun z=>.inr (.inl z))).1 fun z=>hn (giI b z);exact List.nodup_cons.mpr ⟨fun z=>(List.mem_cons.mp z).elim (fun z=>ndxa z.symm) (out a (.inl rfl) na),List.nodup_cons.mpr ⟨out dx (.inr rfl) ndx,nfi⟩⟩
     refine q4.ok v H' F' fv (a::dx::fi') a (fun a' e'=>?_) ⟨oi.out.fok,fun b u e=>?_,oi.out.rep,oi.out.nod,fun b hb=>bn b (oi.out.new b hb),fun b hb=>oi.out.inn b (m2.inn b hb),fun b hb=>(oi.out.out b hb).elim (m2.out b) fun z=>.inr (bn b z)⟩ mN (List.nodup_append.mpr ⟨oi.out.nod,ndN,fun b z1 b' z2 e=>?_⟩) fun b hb=>?_
     ·have hnm:=m2.nm _ _ hio e';rw[a1] at hnm;cases hnm;rfl
     ·have hb:b∉fy:=fun z=>by rw[bO b (.inr (.inr (fyI b z)))] at e;cases e
      exact oi.out.same b u (by rw[dI hb];exact m2.same b u e)
     ·subst e;rcases inN b z2 with z|z
      ·exact(nF1 b z).2 z1
      ·exact(List.nodup_append.mp oi.nd).2.2 b z1 b z rfl
     ·rcases inN b hb with z|z
      ·exact bO b (z.elim .inl fun z=>.inr (z.elim .inl fun z=>.inr (giI b z)))
      ·exact bn b (oi.in1 b z)
  | _=>exact q0.no.elim
end
section
variable {Z:Sg}{CX:CXT}{cl:Nat->List D->Res D}{xp:XK->Hp->EX->Prop}{X:Cx}{ex:EX->Prop}{G:Gm}
theorem st_app (g:GOk Z CX cl xp X ex G){i:Nat}{e:IR}{x:Str}{p apos cpos pos:Pos}{v:Expr}(h1:ez G i x=true)(h2:(apos.endLine == cpos.line)=true)(h3:notStar v=true)(h4:chk Z G e v=true) :
  PS X (.Expr (.Call (.Attribute (.Name x p) "append" apos) [v] [] cpos) pos) (RS X.K G.io ex (evS cl (.app i e))):=by
 have pa:PA X [v] (jO (RO X.K ex (evO cl false e)) qv):=dG (snO e false X ex G v g h4) eU (cE h3 _ _);have hfew:((backTo cpos (starEach [v] X.env)).all (fun x=>!x.1)&&(backToKw cpos (keywordEach [] X.env)).all (fun x=>x.1.isSome)&&decide ([v].length+([]:List Keyword).length+(if ([]:List Keyword).isEmpty then 0 else 1) < 30))=true:=by rw[cE h3];rfl
 refine dN (iP (lC PySem.F.plainAttrs_list PySem.F.slot_list_append PySem.F.type_list_append ib (g9 g h1) pa rfl hfew h2 (cE h3 _ _) rfl)) fun Dn σ H h=>?_;obtain⟨B,F,τ,f,m,q⟩:=h;have q0:PO' ex (match bS τ i with|some (.lst _ _)=>(bnd (evO cl false e τ) fun p=>(match bS p.2 i with|some (.lst true ds)=>grd (gm ds.length) (.ok (.nx (p.2.set i (some (.lst true (ds++[p.1]))))))|_=>stk))|_=>stk) (Fk X.K B Dn):=q;cases z0:bS τ i with
 | none=>rw[z0] at q0;exact q0.no.elim
 | some d0=>
  rw[z0] at q0
  induction d0 using zD with
  | lst o0 ds0=>
   obtain⟨v0,fv0,g0,a1,a2,a3,a4⟩:=m.rps.at z0;have hq:∃ l xs,v0=.ref l/\SqL X.K H l xs:=by
    cases a2 with
    | lstS _ b1 _=>exact⟨_,_,rfl,.inl b1⟩
    | lstK b1 _=>exact⟨_,_,rfl,b1.sq⟩
    | lstO _ b1 _=>exact⟨_,_,rfl,.inl (.inl b1)⟩
   obtain⟨l,xs0,rfl,hq⟩:=hq;refine⟨.ref l,a1,.inl ⟨rfl,xs0,hq⟩,m.ro (PO'.bnd q0) fun p v H' F' fv f' o hp=>?_⟩;obtain⟨m',hb⟩:=m.ow o;cases zs:bS p.2 i with
   | none=>rw[zs] at hp;exact hp.no.elim
   | some d=>
    rw[zs] at hp
    induction d using zD with
    | lst ow ds=>
     induction ow using zB with
     | false=>exact hp.no.elim
     | true=>obtain⟨gd,hp⟩:=PO'.grd hp;obtain⟨l',xs,hσ,hl,hlen⟩:=y0 m'.rps zs;rw[a1] at hσ;cases hσ;obtain⟨f'',m3⟩:=m'.write (ys:=xs++[v]) (ds':=ds++[p.1]) zs a1 hl o.rep o.nod hb fun fi hm=>hm.snoc o.rep;exact⟨l,xs,v,rfl,rfl,hl,by rw[hlen];exact kC gd,hp.ok _ _ _ _ m3⟩
    | _=>exact hp.no.elim
  | _=>exact q0.no.elim
theorem Fk.rt_of {K:PySem.W.Frag}{io:Option Nat}{B:Bs io}{F F':Addr->Prop}{H H':Hp}{σ:St}{τ τ':Ev}{f f':List Addr}{v:V}{d:D}{fv:List Addr}(m:Frm K B F H σ τ f)(o:Ow K F H f F' H' σ v d fv τ' f'):Out K B.F B.H F' H' v d fv:=by obtain⟨m',hb⟩:=m.ow o;exact⟨m'.fok,m'.same,o.rep,(List.nodup_append.mp o.nod).1,hb,m'.inn,m'.out⟩
theorem st_ret (g:GOk Z CX cl xp X ex G){e:IR}{v:Expr}{pos:Pos}(h:chk Z G e v=true):PS X (.Return (some v) pos) (RS X.K G.io ex (evS cl (.ret e))):=by refine dN (mH (snO e true X ex G v g h)) fun Dn σ H ⟨B,F,τ,f,m,q⟩=>?_;exact m.ro (PO'.bnd q) fun p v H' F' fv f' o hp=>hp.ok _ _ _ _ (Fk.rt_of m o)
theorem st_exp (g:GOk Z CX cl xp X ex G){e:IR}{v:Expr}{pos:Pos}(hc:kM v=true)(h:chk Z G e v=true):PS X (.Expr v pos) (RS X.K G.io ex (evS cl (.exp e))):=by refine dN (iP (snd e X ex G v g h).1 (by induction v using zE<;>first|rfl|cases hc)) fun Dn σ H ⟨B,F,τ,f,m,q⟩=>?_;exact m.rd (PO'.bnd q) fun d v H' m' _ _ hd=>hd.ok _ _ _ _ m'
theorem st_if {c:Expr}{x y:List Stmt}{pos:Pos}{t:IR}{a b:List IS}(hc:PT X c (RT X.K ex (vars t) fun τ=>bnd (evR cl t τ) dg))(ha:PSs X x (RS X.K G.io ex (cZ cl a)))(hb:PSs X y (RS X.K G.io ex (cZ cl b))):PS X (.If c x y pos) (RS X.K G.io ex (evS cl (.if_ t a b))):=by
 refine dN (Ah hc ha hb) fun Dn σ H ⟨B,F,τ,f,m,q⟩=>?_;refine m.rt (PO'.bnd q) fun r H' m' _ hr=>?_
 induction r using zB with
 | true=>rw[if_pos rfl] at hr ⊢;exact⟨B,F,τ,f,m',hr⟩
 | false=>rw[if_neg Bool.false_ne_true] at hr ⊢;exact⟨B,F,τ,f,m',hr⟩
theorem st_while (g:GOk Z CX cl xp X ex G)(hrs:G.rs=true){c:Expr}{x:List Stmt}{pos:Pos}{t:IR}{a:List IS}(hc:PT X c (RT X.K ex (vars t) fun τ=>bnd (evR cl t τ) dg))(ha:PSs X x (RS X.K G.io ex (cZ cl a))):PS X (.While c x [] pos) (RS X.K G.io ex (evS cl (.while_ t a))):=by
 refine dN (ql (g.own hrs) hc ha) fun Dn σ H ⟨B,F,τ,f,m,q⟩=>?_;refine⟨fun n σ H=>∃ F τ f,Frm X.K B F H σ τ f/\PO' ex (dH (evT cl t) (cZ cl a) n τ) (Fk X.K B Dn),⟨jX,F,τ,f,m,q⟩,?_⟩;rintro n σ H ⟨F,τ,f,m,q⟩;cases n with
 | zero=>exact q.no.elim
 | succ n=>
  refine m.rt (PO'.bnd q) fun r H' m' _ hr=>?_
  induction r using zB with
  | false=>rw[if_neg Bool.false_ne_true] at hr ⊢;exact hr.ok _ _ _ _ m'
  | true=>
   rw[if_pos rfl] at hr ⊢;refine⟨fun σ H=>∃ F τ f,Frm X.K B F H σ τ f/\PO' ex (dH (evT cl t) (cZ cl a) n τ) (Fk X.K B Dn),fun σ' H' h=>⟨n,Nat.lt_succ_self n,h⟩,B,F,τ,f,m',(PO'.bnd hr).mono fun r hr=>?_⟩;cases r with
   | nx τ'=>exact fun σ' H' F' f' m''=>⟨F',τ',f',m'',hr⟩
   | ct τ'=>exact fun σ' H' F' f' m''=>⟨F',τ',f',m'',hr⟩
   | bk τ'=>exact fun σ' H' F' f' m''=>hr.ok _ _ _ _ m''
   | rt d=>exact fun v H' F' fv o=>hr.ok _ _ _ _ o
   | ri d ks es=>exact hr.ok
   | ro d o=>exact hr.ok
theorem Frm.less {K:PySem.W.Frag}{io:Option Nat}{B:Bs io}{L:Addr->LD->Prop}{T:Addr->List V ⊕ EX->Prop}{F:Addr->Prop}{H:Hp}{σ:St}{τ:Ev}{f:List Addr}(m:Frm K (⟨B.F,B.H,fun a xs=>B.L a xs∨L a xs,fun a xs=>B.T a xs∨T a xs,B.N⟩:Bs io) F H σ τ f):Frm K B F H σ τ f:=
 ⟨m.fok,m.rps,m.nod,m.same,m.own,m.inn,m.out,fun a xs h=>m.pin a xs (.inl h),fun a xs h=>m.pit a xs (.inl h),m.nm⟩
theorem mh:∀ (ds:List D) (i:Nat),(ers ds).drop i=ers (ds.drop i):=by intro ds i;rw[eZ,eZ,List.map_drop]
theorem hI {J:It}{K:PySem.W.Frag}{io:Option Nat}{B:Bs io}{F:Addr->Prop}{H:Hp}{σ:St}{τ:Ev}{f:List Addr}{T:Tg}{body:List IS}{its:List D}{Dn:Ends}(hio:∀ j∈tgs T,io≠some j)(m:Frm K B F H σ τ f)(w:Wlk K F H J its)
  (q:PO' ex (forM (fun x τ=>bnd (dZ T x τ) fun τ'=>cZ cl body τ') (ers its) τ) (Fk K B Dn)) :
  ∃ W:Nat->Nat->St->Hp->Prop,(∃ m,W 0 m σ H)/\∀ i m σ H,W i m σ H->(J.stop i H/\Dn.nx σ H)∨(J.go i H/\∃ N:St->Hp->Prop,(∀ σ' H',N σ' H'->∃ m',m' < m/\W (i+1) m' σ' H')/\
   ∀ x H',J.yld i H x H'->gT K T x σ H' fun σ2 H2=>RS K io ex (cZ cl body) {Dn with nx:=N,ct:=N,bk:=Dn.nx} σ2 H2):=by
 let B':Bs io:=⟨B.F,B.H,fun a xs=>B.L a xs∨(F a/\Rd H a xs.o),fun a xs=>B.T a xs∨SqE K H a xs,B.N⟩
 have m0:Frm K B' F H σ τ f:=⟨m.fok,m.rps,m.nod,m.same,m.own,m.inn,m.out,fun a xs h=>h.elim (m.pin a xs) id,fun a xs h=>h.elim (m.pit a xs) id,m.nm⟩
 let bd:D->Ev->Res Fl:=fun x τ=>bnd (dZ T x τ) fun τ'=>cZ cl body τ';refine⟨fun i n σ H=>n=its.length - i/\i<=its.length/\∃ F τ f,Frm K B' F H σ τ f/\PO' ex (forM bd ((ers its).drop i) τ) (Fk K B Dn),⟨its.length,by simp,Nat.zero_le _,F,τ,f,m0,by rw[List.drop_zero];exact q⟩,?_⟩;rintro i n σ1 H1 ⟨rfl,hi,F1,τ1,f1,m1,q1⟩;have w1:Wlk K F1 H1 J its:=w.step (fun a xs h r=>m1.pin a xs (.inr ⟨h,r⟩)) fun a xs h=>m1.pit a xs (.inr h);by_cases hlt:i < its.length
 ·refine .inr ⟨w1.go hlt,fun σ H=>∃ F τ f,Frm K B' F H σ τ f/\PO' ex (forM bd ((ers its).drop (i+1)) τ) (Fk K B Dn),fun σ' H' h=>⟨its.length - (i+1),by omega,rfl,hlt,h⟩,fun x H' y=>?_⟩;obtain⟨eH,mx⟩:=w1.yld y (d:=its[i]) (by simp[hlt]);have m1:=m1.grow eH;have hd:(ers its).drop i=er its[i]::(ers its).drop (i+1):=by rw[mh,List.drop_eq_getElem_cons hlt,ers,mh]
  rw[hd] at q1;have q2:=PO'.bnd q1;refine m1.gT mx.frozen (by simpa using m1.nod) (fun a ha=>absurd ha (by simp)) hio (PO'.bnd q2) fun τ' σ' f' m' h'=>?_;refine⟨B',F1,τ',f',m',h'.mono fun r hr=>?_⟩;cases r with
  | nx τ'=>exact fun σ' H' F' f' m''=>⟨F',τ',f',m'',hr⟩
  | ct τ'=>exact fun σ' H' F' f' m''=>⟨F',τ',f',m'',hr⟩
  | bk τ'=>exact fun σ' H' F' f' m''=>hr.ok _ _ _ _ m''.less
  | rt d=>exact fun v H' F' fv o=>hr.ok _ _ _ _ o
  | ri d ks es=>exact hr.ok
  | ro d o=>exact hr.ok
 ·have e:i=its.length:=by omega
  subst e;refine .inl ⟨w1.stop rfl,?_⟩;have:(ers its).drop its.length=[]:=by rw[<- de its,List.drop_length]
  rw[this] at q1;exact q1.ok _ _ _ _ m1.less
theorem uX (a b:Int):ers (e8 a b)=e8 a b:=by unfold e8;rw[eZ,List.map_map];rfl
noncomputable def vV (cl:Nat->List D->Res D):Sr->Ev->Res (Int×Int)
 | .rng1 n,τ=>bnd (evR cl n τ) fun|.int i=>grd (dU i) (.ok (0,i))|_=>stk
 | .rng2 a b,τ=>bnd (evR cl a τ) fun x=>bnd (evR cl b τ) fun y=>match x,y with|.int i,.int j=>grd (dU i&&dU j) (.ok (i,j))|_,_=>stk
 | _,_=>stk
def RIr (K:PySem.W.Frag)(ex:EX->Prop)(is:List Nat)(f:Ev->Res (Int×Int)):TI:=fun σ H R=>∃ S τ,Slots K S H σ τ is/\PO' ex (f τ) fun p=>∀ H',cO H H'->R (Itr p.1 (p.2 - p.1).toNat) H'
noncomputable def rH:Sr->Bool
 | .rng1 _=>true
 | .rng2 _ _=>true
 | _=>false
theorem rJ {s:Sr}(h:rH s=true){τ:Ev}{k:List D->Prop}(q:PO' ex (fX cl s τ) k):PO' ex (vV cl s τ) fun p=>k (e8 p.1 p.2):=by
 cases s with
 | rng1 n=>
  refine PO'.mk ((PO'.bnd (show PO' ex (bnd (evR cl n τ) fun|.int i=>grd (dU i) (.ok (e8 0 i))|_=>stk) k from q)).mono fun d hd=>?_)
  induction d using zD with
  | int i=>obtain⟨gd,hd⟩:=PO'.grd hd;show PO' ex (grd (dU i) (.ok (0,i))) _;unfold grd;rw[if_pos gd];exact hd.ok
  | _=>exact hd.no.elim
 | rng2 a b=>
  refine PO'.mk ((PO'.bnd (show PO' ex (bnd (evR cl a τ) fun x=>bnd (evR cl b τ) fun y=>match x,y with|.int i,.int j=>grd (dU i&&dU j) (.ok (e8 i j))|_,_=>stk) k from q)).mono fun d hd=>PO'.mk ((PO'.bnd hd).mono fun e he=>?_))
  induction d using zD with
  | int i=>
   induction e using zD with
   | int j=>obtain⟨gd,he⟩:=PO'.grd he;show PO' ex (grd (dU i&&dU j) (.ok (i,j))) _;unfold grd;rw[if_pos gd];exact he.ok
   | _=>exact he.no.elim
  | _=>induction e using zD<;>exact he.no.elim
 | _=>first|exact aY h|cases h
theorem Dg:∀ (s:Sr) (X:Cx) (ex:EX->Prop) (G:Gm) (e tg:Expr),GOk Z CX cl xp X ex G->fF Z G s e=true->rH s=true->PI X tg e (RIr X.K ex (gW s) (vV cl s)):=by
 intro s X ex G e tg g h hr;cases s with
 | rng1 n=>
  induction e using zE with
  | Call fn args kws pos=>
   induction fn using zE with
   | Name x p=>
    match args,kws,h with
    | [a],[],h=>
     have h':(x == "range"&&G.gl.contains 15&&notStar a&&chk Z G n a)=true:=h;simp only[Bool.and_eq_true] at h';have e1:x = "range":=eq_of_beq h'.1.1.1;subst e1;obtain⟨k1,k2,_,_⟩:=fC g (show dz[15]? = some ("range" : Str) from rfl) h'.1.1.2;refine iY (jL k1 k2 (dG (snd n X ex G a g h'.2).1 eU (cE h'.1.2 _ _)) (cE h'.1.2 _ _)) fun σ H Q ⟨S,τ,hs,q⟩=>?_;refine di (.refl _) hs (PO'.bnd q) fun x v H1 e1 _ m1 q1=>?_
     induction x using zD with
     | int i=>cases m1.intR;obtain⟨gd,q1⟩:=PO'.grd q1;have gd' : -(2 ^ 62)<=i/\i < 2 ^ 62:=of_decide_eq_true gd;refine⟨i,rfl,gd'.1,gd'.2,?_⟩;have:=q1.ok _ e1;rw[show (0,i).2 - (0,i).1=i from Int.sub_zero i] at this;exact this
     | _=>exact q1.no.elim
    | [],_,h=>first|exact aY h|cases h
    | [_],_::_,h=>first|exact aY h|cases h
    | _::_::_,_,h=>first|exact aY h|cases h
   | _=>first|exact aY h|cases h
  | _=>first|exact aY h|cases h
 | rng2 a b=>
  induction e using zE with
  | Call fn args kws pos=>
   induction fn using zE with
   | Name x p=>
    match args,kws,h with
    | [l,r],[],h=>
     have h':(x == "range"&&G.gl.contains 15&&notStar l&&notStar r&&chk Z G a l&&chk Z G b r)=true:=h;simp only[Bool.and_eq_true] at h';have e1:x = "range":=eq_of_beq h'.1.1.1.1.1;subst e1;obtain⟨k1,k2,_,_⟩:=fC g (show dz[15]? = some ("range" : Str) from rfl) h'.1.1.1.1.2;have hn:=h'.1.1.1.2;have hn':=h'.1.1.2;refine iY (jM k1 k2 (dG (snd a X ex G l g h'.1.2).1 (dG (snd b X ex G r g h'.2).1 eU (cE hn' _ _)) (cE hn _ _)) (by rw[cE hn,cE hn'];rfl) (cE hn' _ _)) fun σ H Q ⟨S,τ,hs,q⟩=>?_;refine di (.refl _) hs.left (PO'.bnd q) fun x v H1 e1 _ m1 q1=>?_;refine di e1 hs.right (PO'.bnd q1) fun y w H2 e2 e2' m2 q2=>?_
     induction x using zD with
     | int i=>
      induction y using zD with
      | int j=>cases m1.intR;cases m2.intR;obtain⟨gd,q2⟩:=PO'.grd q2;rw[Bool.and_eq_true] at gd;have g1 : -(2 ^ 62)<=i/\i < 2 ^ 62:=of_decide_eq_true gd.1;have g2 : -(2 ^ 62)<=j/\j < 2 ^ 62:=of_decide_eq_true gd.2;exact⟨i,j,rfl,⟨g1.1,g1.2,g2.1,g2.2⟩,q2.ok _ e2⟩
      | _=>exact q2.no.elim
     | _=>induction y using zD<;>exact q2.no.elim
    | [],_,h=>first|exact aY h|cases h
    | [_],_,h=>first|exact aY h|cases h
    | [_,_],_::_,h=>first|exact aY h|cases h
    | _::_::_::_,_,h=>first|exact aY h|cases h
   | _=>first|exact aY h|cases h
  | _=>first|exact aY h|cases h
 | _=>cases hr
theorem st_for (g:GOk Z CX cl xp X ex G){t it:Expr}{x:List Stmt}{pos:Pos}{T:Tg}{s:Sr}{a:List IS}(hT':(G.cm=true/\G.rs=true)/\eF G T t=true)(hs':fF Z G s it=true/\iN s t=true)(ha:PSs X x (RS X.K G.io ex (cZ cl a))):PS X (.For t it x [] pos) (RS X.K G.io ex (evS cl (.for_ T s a))):=by
 have hT:=hT'.2;have hs:=hs'.1;by_cases hr:rH s=true
 ·refine dN (mK (g.own hT'.1.2) (g.calm hT'.1.1) (Dg s X ex G it t g hs hr) (pgT g T t hT) ha (fun x=>fD hs X.env x)) fun Dn σ H ⟨B,F,τ,f,m,q⟩=>?_;have q0:PO' ex (bnd (kz cl s τ) fun p=>forM (fun x τ=>bnd (dZ T x τ) fun τ'=>cZ cl a τ') p.1 p.2) (Fk X.K B Dn):=q;have base:PO' ex (fX cl s τ) fun its=>PO' ex (forM (fun x τ=>bnd (dZ T x τ) fun τ'=>cZ cl a τ') its τ) (Fk X.K B Dn):=by
   cases s with
   | rng1 u=>exact(PO'.bnd (show PO' ex (bnd (fX cl (.rng1 u) τ) fun its=>.ok (its,τ)) _ from PO'.bnd q0)).mono fun its h=>h.ok
   | rng2 u v=>exact(PO'.bnd (show PO' ex (bnd (fX cl (.rng2 u v) τ) fun its=>.ok (its,τ)) _ from PO'.bnd q0)).mono fun its h=>h.ok
   | _=>cases hr
  exact⟨fun _=>True,τ,dM m.rps,(rJ hr base).mono fun p hp H1 e1=>hI (gf T t hT) (m.grow e1) (.rng p.1 p.2) (by rw[uX];exact hp)⟩
 ·refine dN (mK (g.own hT'.1.2) (g.calm hT'.1.1) (uT s X ex G it t g hs hs'.2) (pgT g T t hT) ha (fun x=>fD hs X.env x)) fun Dn σ H ⟨B,F,τ,f,m,q⟩=>?_;have q0:PO' ex (bnd (kz cl s τ) fun p=>forM (fun x τ=>bnd (dZ T x τ) fun τ'=>cZ cl a τ') p.1 p.2) (Fk X.K B Dn):=q;have q1:=PO'.bnd q0;have hsrc:kz cl s τ=(bnd (fX cl s τ) fun its=>.ok (ers its,frz (gW s) τ)):=by
   cases s with
   | val u=>rfl
   | enm u=>rfl
   | _=>exact absurd rfl hr
  rw[hsrc] at q1;obtain⟨F1,gg,b1,b2,b3,b4,b5,b6⟩:=e9 (gW s) m.fok m.rps m.nod;refine AX (.refl _) b6 (PO'.bnd q1) fun its J H1 e1 _ w1 hk=>?_;obtain⟨c1,c2,c3⟩:=grow (fun _=>True) b1 b2 e1;have m2:Frm X.K B (fun a=>F1 a∨(True/\H a=none/\H1 a≠none)) H1 σ (frz (gW s) τ) gg:=m.stp (b4.trans c3 (fun x hx=>.inl (b5 x hx))) c1 c2 b3 fun a ha=>.inl (b5 a ha);exact hI (gf T t hT) m2 (w1.step (fun a xs h r=>⟨h.elim (fun z=>.inl z) fun z=>.inr ⟨trivial,z,r.some⟩,r⟩) fun a xs h=>h) hk.ok
theorem st_foro (g:GOk Z CX cl xp X ex G){es:List Expr}{c0 j i:Nat}{tp yp zp ap cp kp cpos pos:Pos}{z x:Str}{cs:List Str}{T:Tg}{b:List Stmt}{a:List IS}(hcm:G.cm=true)(hrs:G.rs=true)(hT:eF G T (.Tuple es c0 tp)=true)(hgl:G.gl.contains 20=true)(h1:ez G i z=true)(hx:Z.ofs.contains x=true)(hc:cs.all (fun c=>Z.ocs.contains c)=true)(ha:PSs X b (RS X.K G.io ex (cZ cl a))) :
  PS X (.For (.Tuple es c0 tp) (.Call (.Name "enumerate" yp) [.Attribute (.Name z zp) x ap] [⟨some "start",.Constant (.int 1) j cp,kp⟩] cpos) b [] pos) (RS X.K G.io ex (evS cl (.foro T i x cs a))):=by
 obtain⟨k1,k2,_,_⟩:=fC g (show dz[20]? = some ("enumerate" : Str) from rfl) hgl;refine dN (mK (g.own hrs) (g.calm hcm) (qJ k1 k2 (dG (g5 (f:=x) (pos:=ap) (g9 (pos:=zp) g h1) rfl) eU rfl) rfl) (pgT g T _ hT) ha (fun _=>rfl)) fun Dn σ H ⟨B,F,τ,f,m,q⟩=>?_;have q0:PO' ex (match bS τ i with|some (.obj true c ks ds)=>grd (cs.contains c) (match cS ks ds x with|some (.lst false es)=>forM (fun x τ=>bnd (dZ T x τ) fun τ'=>cZ cl a τ') (ers (fE es)) τ|_=>stk)|_=>stk) (Fk X.K B Dn):=q;cases z0:bS τ i with
 | none=>rw[z0] at q0;exact q0.no.elim
 | some d0=>
  rw[z0] at q0
  induction d0 using zD with
  | obj ow c ks ds=>
   induction ow using zB with
   | false=>exact q0.no.elim
   | true=>
    obtain⟨gd,q1⟩:=PO'.grd q0;obtain⟨a',C,dx,fs,fi,g',a1,a2,a3,a4,a5,a6,rfl,a8,a9,a10⟩:=ff m.rps z0;have hcs:c∈Z.ocs:=List.contains_iff_mem.mp (List.all_eq_true.mp hc c (List.contains_iff_mem.mp gd));obtain⟨n1,n2⟩:=g.ocl c hcs C a6;cases zl:cS (fs.map (·.1)) ds x with
    | none=>rw[zl] at q1;exact q1.no.elim
    | some dl=>
     rw[zl] at q1
     induction dl using zD with
     | lst o es'=>
      induction o using zB with
      | true=>exact q1.no.elim
      | false=>
       obtain⟨v0,fx,l1,l2,_⟩:=fg x fs a8 _ zl;have q2:PO' ex (forM (fun x τ=>bnd (dZ T x τ) fun τ'=>cZ cl a τ') (ers (fE es')) τ) (Fk X.K B Dn):=q1;have nl:∀ b∈([]:List Addr),F b:=fun _ h=>nomatch h;cases l2 with
       | lstS b1 b2 b3=>exact⟨.ref a',a1,a',C,dx,fs,_,rfl,.inl a4,n1,n2 x (List.contains_iff_mem.mp hx),l1,_,_,rfl,.inl b2,hI (gf T _ hT) m (.enm1 (.inl ⟨b1,b2⟩) (b3.read (fun _ z=>z) nl)) q2⟩
       | lstK b1 b3=>exact⟨.ref a',a1,a',C,dx,fs,_,rfl,.inl a4,n1,n2 x (List.contains_iff_mem.mp hx),l1,_,_,rfl,b1.sq,hI (gf T _ hT) m (.enm1 (.inr b1) (b3.read (fun _ z=>z) nl)) q2⟩
     | _=>exact q1.no.elim
  | _=>exact q0.no.elim
mutual
theorem snS:∀ (a:IS) (X:Cx) (ex:EX->Prop) (G:Gm) (s:Stmt),GOk Z CX cl xp X ex G->yZ Z G a s=true->PS X s (RS X.K G.io ex (evS cl a))
 | .asg tg e,X,ex,G,s,g,h=>by
  induction s using zS with
  | Assign ts v pos=>
   match ts,h with
   | [t],h=>have h':(eF G tg t&&chk Z G e v&&(isName t||(isTup t&&notTuple v)))=true:=h;simp only[Bool.and_eq_true] at h';exact st_asg g h'.1.1 h'.1.2 h'.2
   | [],h=>first|exact aY h|cases h
   | _::_::_,h=>first|exact aY h|cases h
  | _=>first|exact aY h|cases h
 | .dsetx i k e,X,ex,G,s,g,h=>by
  induction s using zS with
  | Assign ts v pos=>
   induction ts using zL with
   | nil=>first|exact aY h|cases h
   | cons t ts=>
    induction ts using zL with
    | cons _ _=>cases t<;>first|exact aY h|cases h|(rename_i o _ _;cases o<;>cases h)
    | nil=>
     induction t using zE with
     | Subscript o s sp=>
      induction o using zE with
      | Name x p=>have h':(ez G i x&&dJ s&&chk Z G k s&&chk Z G e v&&!(vars e).contains i)=true:=h;simp only[Bool.and_eq_true] at h';exact st_dsetx g h'.1.1.1.1 h'.1.1.1.2 h'.1.1.2 h'.1.2 (by simpa using h'.2)
      | _=>first|exact aY h|cases h
     | _=>first|exact aY h|cases h
  | _=>first|exact aY h|cases h
 | .app i e,X,ex,G,s,g,h=>by
  induction s using zS with
  | Expr v pos=>
   induction v using zE with
   | Call fn args kws cpos=>
    induction fn using zE with
    | Attribute o name apos=>
     induction o using zE with
     | Name x p=>
      match args,kws,h with
      | [v],[],h=>have h':(ez G i x&&name == "append"&&apos.endLine == cpos.line&&notStar v&&chk Z G e v)=true:=h;simp only[Bool.and_eq_true] at h';have e1:name = "append":=eq_of_beq h'.1.1.1.2;subst e1;exact st_app g h'.1.1.1.1 h'.1.1.2 h'.1.2 h'.2
      | [],_,h=>first|exact aY h|cases h
      | [_],_::_,h=>first|exact aY h|cases h
      | _::_::_,_,h=>first|exact aY h|cases h
     | _=>first|exact aY h|cases h
    | _=>first|exact aY h|cases h
   | _=>first|exact aY h|cases h
  | _=>first|exact aY h|cases h
 | .exp e,X,ex,G,s,g,h=>by
  induction s using zS with
  | Expr v pos=>
   have h':(kM v&&chk Z G e v)=true:=by induction v using zE<;>first|exact h|(rename_i c _ _;cases c<;>exact h)
   simp only[Bool.and_eq_true] at h';exact st_exp g h'.1 h'.2
  | _=>first|exact aY h|cases h
 | .ret e,X,ex,G,s,g,h=>by
  induction s using zS with
  | Return v pos=>
   induction v using zO with
   | none=>first|exact aY h|cases h
   | some v=>exact st_ret g h
  | _=>first|exact aY h|cases h
 | .oset i x cs fz e,X,ex,G,s,g,h=>by
  have h:asv s (fun ts v=>l1v ts fun t=>chk Z G e v&&atp t fun o' y _=>nmv (fun z=>ez G i z&&y == x&&Z.ofs.contains x&&cs.all (fun c=>Z.ocs.contains c)) o')=true:=by induction s using zS<;>exact h
  obtain⟨ts,v,p,rfl,h1⟩:=rA h;obtain⟨t,rfl,h2⟩:=ir h1;rw[Bool.and_eq_true] at h2;obtain⟨o',y,ap,rfl,h3⟩:=gb h2.2;obtain⟨z,zp,rfl,h4⟩:=fB h3;simp only[Bool.and_eq_true] at h4;have e1:y=x:=eq_of_beq h4.1.1.2;subst e1;exact st_oset g h4.1.1.1 h4.1.2 h4.2 h2.1
 | .oapp i x cs e,X,ex,G,s,g,h=>by
  have h:exx s (fun v=>cav v fun fe as cp=>atp fe fun o n ap=>n == "append"&&ap.endLine == cp.line&&(l1v as fun w=>notStar w&&chk Z G e w)&&atp o fun o' y _=>nmv (fun z=>ez G i z&&y == x&&Z.ofs.contains x&&cs.all (fun c=>Z.ocs.contains c)) o')=true:=by induction s using zS<;>exact h
  obtain⟨v,ep,rfl,h1⟩:=rB h;obtain⟨fe,as,cp,rfl,h2⟩:=fZ h1;obtain⟨o,n,ap,rfl,h3⟩:=gb h2;simp only[Bool.and_eq_true] at h3;obtain⟨⟨⟨e1,hl⟩,hw⟩,ho⟩:=h3;obtain⟨w,rfl,h4⟩:=ir hw;obtain⟨o',y,ap',rfl,h5⟩:=gb ho;obtain⟨z,zp,rfl,h6⟩:=fB h5;simp only[Bool.and_eq_true] at h4 h6;have e1:=eq_of_beq e1;have e2:y=x:=eq_of_beq h6.1.1.2;subst e1 e2;exact st_oapp g h6.1.1.1 h6.1.2 h6.2 hl h4.1 h4.2
 | .oget j i x cs k,X,ex,G,s,g,h=>by
  have h:asv s (fun ts v=>l1v ts fun t=>isName t&&eF G (.nm j) t&&sbw v fun o ke=>dJ ke&&chk Z G k ke&&atp o fun o' y _=>nmv (fun z=>ez G i z&&y == x&&Z.ofs.contains x&&cs.all (fun c=>Z.ocs.contains c)) o')=true:=by induction s using zS<;>exact h
  obtain⟨ts,v,p,rfl,h1⟩:=rA h;obtain⟨t,rfl,h2⟩:=ir h1;rw[Bool.and_eq_true,Bool.and_eq_true] at h2;obtain⟨o,ke,sp,rfl,h3⟩:=yW h2.2;rw[Bool.and_eq_true,Bool.and_eq_true] at h3;obtain⟨o',y,ap,rfl,h5⟩:=gb h3.2;obtain⟨z,zp,rfl,h6⟩:=fB h5;simp only[Bool.and_eq_true] at h6;have e2:y=x:=eq_of_beq h6.1.1.2;subst e2
  induction t using zE with
  | Name yy py=>exact st_oget g h2.1.2 h6.1.1.1 h6.1.2 h6.2 h3.1.1 h3.1.2
  | _=>exact aY h2.1.1
 | .mio jj i f m c es,X,ex,G,s,g,h=>by
  have h:(jj.isNone&&exx s fun v=>cav v fun fe as cp=>atp fe fun o n ap=>n == m&&ap.endLine == cp.line&&decide (as.length < 29)&&Z.fio.contains (f,c,m)&&(Z.ocs.contains c&&G.cm)&&cW Z G es as&&nmv (fun z=>ez G i z) o)=true:=by induction s using zS<;>exact h
  rw[Bool.and_eq_true] at h;obtain⟨v,ep,rfl,h1⟩:=rB h.2;obtain⟨fe,as,cp,rfl,h2⟩:=fZ h1;obtain⟨o,n,ap,rfl,h3⟩:=gb h2;simp only[Bool.and_eq_true] at h3;obtain⟨⟨⟨⟨⟨⟨e1,hl⟩,hlen⟩,hf⟩,hc,hcm⟩,hst⟩,ho⟩:=h3;obtain⟨z,zp,rfl,h6⟩:=fB ho;have e1:=eq_of_beq e1;subst e1
  induction jj using zO with
  | none=>exact st_mio g h6 hl (of_decide_eq_true hlen) (List.contains_iff_mem.mp hf) (List.contains_iff_mem.mp hc) hcm hst
  | some _=>exact aY h.1
 | .rmio i x cs f m c es,X,ex,G,s,g,h=>by
  have h:rtx s (fun v=>cav v fun fe as cp=>atp fe fun o n ap=>G.io == some i&&n == m&&ap.endLine == cp.line&&decide (as.length < 29)&&Z.fio.contains (f,c,m)&&(Z.ocs.contains c&&G.cm)&&cW Z G es as&&atp o fun o' y _=>nmv (fun z=>ez G i z&&y == x&&Z.ofs.contains x&&cs.all (fun c=>Z.ocs.contains c)) o')=true:=by induction s using zS<;>exact h
  obtain⟨v,ep,rfl,h1⟩:=rC h;obtain⟨fe,as,cp,rfl,h2⟩:=fZ h1;obtain⟨o,n,ap,rfl,h3⟩:=gb h2;simp only[Bool.and_eq_true] at h3;obtain⟨⟨⟨⟨⟨⟨⟨hio,e1⟩,hl⟩,hlen⟩,hf⟩,hc,hcm⟩,hst⟩,ho⟩:=h3;obtain⟨o',y,ap',rfl,h5⟩:=gb ho;obtain⟨z,zp,rfl,h6⟩:=fB h5;simp only[Bool.and_eq_true] at h6;have e1:=eq_of_beq e1;have e2:y=x:=eq_of_beq h6.1.1.2;subst e1 e2;exact st_rmio g (eq_of_beq hio) h6.1.1.1 h6.1.2 h6.2 hl (of_decide_eq_true hlen) (List.contains_iff_mem.mp hf) (List.contains_iff_mem.mp hc) hcm hst
 | .foro tg i x cs body,X,ex,G,s,g,h=>by
  have h:fov s (fun t it b=>(G.cm&&G.rs)&&eF G tg t&&nh t&&G.gl.contains 20&&(enx it fun o=>atp o fun o' y _=>nmv (fun z=>ez G i z&&y == x&&Z.ofs.contains x&&cs.all (fun c=>Z.ocs.contains c)) o')&&eJ Z G body b)=true:=by induction s using zS<;>exact h
  obtain⟨t,it,b,p,rfl,h1⟩:=yX h;rw[Bool.and_eq_true,Bool.and_eq_true,Bool.and_eq_true,Bool.and_eq_true,Bool.and_eq_true,Bool.and_eq_true] at h1;obtain⟨⟨⟨⟨⟨⟨hcm,hrs⟩,hT⟩,htu⟩,hgl⟩,hen⟩,hb⟩:=h1;obtain⟨yp,o,j,cp,kp,pos,rfl,h2⟩:=yY hen;obtain⟨o',y,ap,rfl,h5⟩:=gb h2;obtain⟨z,zp,rfl,h6⟩:=fB h5;simp only[Bool.and_eq_true] at h6;have e2:y=x:=eq_of_beq h6.1.1.2;subst e2
  induction t using zE with
  | Tuple es c0 tp=>exact st_foro g hcm hrs hT hgl h6.1.1.1 h6.1.2 h6.2 (ny body X ex G b g hb)
  | _=>exact aY htu
 | .reto i e,X,ex,G,s,g,h=>by
  have h:rtx s (fun v=>G.io == some i&&chk Z G e v)=true:=by induction s using zS<;>exact h
  obtain⟨v,ep,rfl,h1⟩:=rC h;rw[Bool.and_eq_true] at h1;exact st_reto g (eq_of_beq h1.1) h1.2
 | .if_ t a b,X,ex,G,s,g,h=>by
  induction s using zS with
  | If c x y pos=>have h':(chk Z G t c&&eJ Z G a x&&eJ Z G b y)=true:=h;simp only[Bool.and_eq_true] at h';exact st_if (snd t X ex G c g h'.1.1).2 (ny a X ex G x g h'.1.2) (ny b X ex G y g h'.2)
  | _=>first|exact aY h|cases h
 | .for_ tg s body,X,ex,G,st,g,h=>by
  induction st using zS with
  | For t it b els pos=>
   induction els using zL with
   | cons _ _=>first|exact aY h|cases h
   | nil=>have h':(((G.cm&&G.rs)&&eF G tg t)&&(fF Z G s it&&iN s t)&&eJ Z G body b)=true:=h;simp only[Bool.and_eq_true] at h';exact st_for g h'.1.1 h'.1.2 (ny body X ex G b g h'.2)
  | _=>first|exact aY h|cases h
 | .while_ t body,X,ex,G,s,g,h=>by
  induction s using zS with
  | While c b els pos=>
   induction els using zL with
   | cons _ _=>first|exact aY h|cases h
   | nil=>have h':((G.rs&&chk Z G t c)&&eJ Z G body b)=true:=h;simp only[Bool.and_eq_true] at h';exact st_while g h'.1.1 (snd t X ex G c g h'.1.2).2 (ny body X ex G b g h'.2)
  | _=>first|exact aY h|cases h
 | .brk,X,ex,G,s,g,h=>by cases s<;>first|exact aY h|cases h
 | .cnt,X,ex,G,s,g,h=>by cases s<;>first|exact aY h|cases h
 | .pass,X,ex,G,s,g,h=>by cases s<;>first|exact aY h|cases h
 | .never,X,ex,G,s,g,h=>dN qg fun Dn σ H ⟨B,F,τ,f,m,q⟩=>q.no.elim
theorem ny:∀ (as:List IS) (X:Cx) (ex:EX->Prop) (G:Gm) (ss:List Stmt),GOk Z CX cl xp X ex G->eJ Z G as ss=true->PSs X ss (RS X.K G.io ex (cZ cl as))
 | [],X,ex,G,ss,g,h=>by
  induction ss using zL with
  | nil=>exact kr tY fun Dn σ H ⟨B,F,τ,f,m,q⟩=>q.ok _ _ _ _ m
  | cons _ _=>first|exact aY h|cases h
 | a::as,X,ex,G,ss,g,h=>by
  induction ss using zL with
  | nil=>induction a using zT<;>first|exact aY h|cases h
  | cons s ss=>
   have h':(yZ Z G a s&&eJ Z G as ss)=true:=h;simp only[Bool.and_eq_true] at h';refine kr (qf (snS a X ex G s g h'.1) (ny as X ex G ss g h'.2)) fun Dn σ H ⟨B,F,τ,f,m,q⟩=>?_;refine⟨B,F,τ,f,m,(PO'.bnd q).mono fun r hr=>?_⟩;cases r with
   | nx τ'=>exact fun σ' H' F' f' m'=>⟨B,F',τ',f',m',hr⟩
   | ct τ'=>exact hr.ok
   | bk τ'=>exact hr.ok
   | rt d=>exact hr.ok
   | ri d ks es=>exact hr.ok
   | ro d o=>exact hr.ok
end
end
def RSB (K:PySem.W.Frag){io:Option Nat}(B:Bs io)(ex:EX->Prop)(g:Ev->Res Fl):TS:=fun Dn σ H=>∃ F τ f,Frm K B F H σ τ f/\PO' ex (g τ) (Fk K B Dn)
noncomputable def CX1 (P:Program)(w:World):CXT:=fun _ _ _ _ _ _=>False
def xp1 (K:PySem.W.Frag):XK->Hp->EX->Prop:=fun _ _ _=>False
noncomputable def oF (Z:Sg)(fn:Fn)(ps:List Str)(st:Stmt):Bool:=
 (cQ st).kind == .function&&!(cQ st).isCoroutine&&!(cQ st).isGenerator&&decide (fn.G.N.Nodup)&&fn.G.N.take ps.length == ps
&&ps.all (fun x=>(cQ st).names.lookup x == some .local||(cQ st).names.lookup x == some .cell)&&(cQ st).names.all (fun y=>y.2 != .free)
&&(List.range fn.G.N.length).all (fun i=>(fn.G.N[i]?).bind ((cQ st).names.lookup ·) == fn.G.kd[i]?)
&&fn.G.N.all (fun x=>!(x == "__debug__")&&!(x == "__classdict__"))
&&fn.G.gl.all (fun n=>match Z.name n with|some x=>(cQ st).names.lookup x == some .globalImplicit|none=>false)
&&decide (ps.length=fn.np)
noncomputable def cR (Z:Sg)(fn:Fn)(ps:List Str)(st:Stmt):Bool:=oF Z fn ps st&&(!fn.io&&eJ Z fn.G fn.body (da st))
noncomputable def eQ (Z:Sg)(fn:Fn)(ps:List Str)(st:Stmt):Bool:=oF Z fn ps st&&(fn.io&&eJ Z fn.G fn.body (da st)&&fn.G.io == some 0&&decide (0 < fn.np)&&!fn.G.tr)
structure DefHd (Z:Sg)(fn:Fn)(ps:List Str)(st:Stmt):Prop where
 sc:FnScope fn.G.N ps (cQ st)
 kd:∀ (i:Nat) (x:Str),fn.G.N[i]? = some x->(cQ st).names.lookup x=fn.G.kd[i]?
 noD:∀ x∈fn.G.N,(x == ("__debug__" : Str))=false/\(x == ("__classdict__" : Str))=false
 gl:∀ n∈fn.G.gl,∀ x,Z.name n=some x->(cQ st).names.lookup x=some .globalImplicit
 np:ps.length=fn.np
structure DefSc (Z:Sg)(fn:Fn)(ps:List Str)(st:Stmt):Prop extends DefHd Z fn ps st where
 pl:fn.io=false
 body:eJ Z fn.G fn.body (da st)=true
structure DefSI (Z:Sg)(fn:Fn)(ps:List Str)(st:Stmt):Prop extends DefHd Z fn ps st where
 io:fn.io=true
 body:eJ Z fn.G fn.body (da st)=true
 gio:fn.G.io=some 0
 pos:0 < fn.np
 ntr:fn.G.tr=false
theorem mi {Z:Sg}{fn:Fn}{ps:List Str}{st:Stmt}(h:oF Z fn ps st=true):DefHd Z fn ps st:=by
 unfold oF at h;simp only[Bool.and_eq_true] at h;obtain⟨⟨⟨⟨⟨⟨⟨⟨⟨⟨h1,h2⟩,h3⟩,h4⟩,h5⟩,h6⟩,h7⟩,h8⟩,h9⟩,h10⟩,h11⟩:=h;rw[List.all_eq_true] at h6 h7 h8 h9 h10;refine⟨⟨eq_of_beq h1,by simpa using h2,by simpa using h3,of_decide_eq_true h4,eq_of_beq h5,fun x hx=>?_,fun y hy=>by simpa using h7 y hy⟩,fun i x hx=>?_,fun x hx=>by simpa using h9 x hx,fun n hn x hx=>?_,of_decide_eq_true h11⟩
 ·have:=h6 x hx;rw[Bool.or_eq_true] at this;exact this.elim (fun z=>.inl (eq_of_beq z)) fun z=>.inr (eq_of_beq z)
 ·have hlt:i < fn.G.N.length:=(List.getElem?_eq_some_iff.mp hx).1;have:=eq_of_beq (h8 i (List.mem_range.mpr hlt));rw[hx] at this;exact this
 ·have:=h10 n hn;rw[hx] at this;exact eq_of_beq this
theorem jr {Z:Sg}{fn:Fn}{ps:List Str}{st:Stmt}(h:cR Z fn ps st=true):DefSc Z fn ps st:=by unfold cR at h;rw[Bool.and_eq_true,Bool.and_eq_true] at h;exact⟨mi h.1,by simpa using h.2.1,h.2.2⟩
theorem jt {Z:Sg}{fn:Fn}{ps:List Str}{st:Stmt}(h:eQ Z fn ps st=true):DefSI Z fn ps st:=by unfold eQ at h;simp only[Bool.and_eq_true] at h;obtain⟨h1,⟨⟨⟨h2,h3⟩,h4⟩,h5⟩,h6⟩:=h;exact⟨mi h1,h2,h3,eq_of_beq h4,of_decide_eq_true h5,by simpa using h6⟩
structure FunD (K:PySem.W.Frag)(x qual:Str)(st:Stmt)(f:Addr)(fd:FuncData):Prop where
 ex:∃ (dV oc:Value) (od:Option Addr) (kV doc pm:Value) (an:Option Addr) (cdv ct:Value) (osl:Array (Option Value)),
  fd=PySem.W.fnOf x qual (dC st) (da st) (cQ st) dV kV doc pm an cdv ct/\K.lookup f=some ⟨oc,od,.func fd,osl⟩/\PySem.W.codeIn K cdv qual=true
 kp:PySem.W.keepIn K (.ref f)=true
theorem gy {K:PySem.W.Frag}{x qual:Str}{st:Stmt}{f:Addr}{dV oc:Value}{od an:Option Addr}{osl:Array (Option Value)}{kV doc pm cdv ct:Value}(l:K.lookup f=some ⟨oc,od,.func (PySem.W.fnOf x qual (dC st) (da st) (cQ st) dV kV doc pm an cdv ct),osl⟩)
  (c:PySem.W.codeIn K cdv qual=true) (k:PySem.W.keepIn K (.ref f)=true):FunD K x qual st f (PySem.W.fnOf x qual (dC st) (da st) (cQ st) dV kV doc pm an cdv ct):=⟨⟨dV,oc,od,kV,doc,pm,an,cdv,ct,osl,rfl,l,c⟩,k⟩
structure DefOI (K:PySem.W.Frag)(Z:Sg)(T:Tb)(f:Nat)(Pa:Addr->Prop):Prop where
 ex:∃ (fn:Fn) (nm qual:Str) (st:Stmt) (fa:Addr) (fd:FuncData) (ps:List Str),T f=some fn/\FunD K nm qual st fa fd/\Pa fa/\Binds K fd ps []/\DefSI Z fn ps st
structure DefOM (K:PySem.W.Frag)(Z:Sg)(T:Tb)(f:Nat)(Pa:Addr->Prop):Prop where
 ex:∃ (fn:Fn) (nm qual:Str) (st:Stmt) (fa:Addr) (fd:FuncData) (ps:List Str),T f=some fn/\FunD K nm qual st fa fd/\Pa fa/\Binds K fd ps []/\DefSc Z fn ps st
structure DefOk (K:PySem.W.Frag)(mg:Str->Option Value)(Z:Sg)(T:Tb)(f:Nat)(x:Str):Prop where
 ex:∃ (fn:Fn) (st:Stmt) (fa:Addr) (fd:FuncData) (ps:List Str),T f=some fn/\FunD K x x st fa fd/\mg x=some (.ref fa)/\Binds K fd ps []/\DefSc Z fn ps st
section
variable {P:Program}{w:World}{K:PySem.W.Frag}{mg:Str->Option Value}{base:Heap}{Z:Sg}{T:Tb}
structure TopOk (K:PySem.W.Frag)(mg:Str->Option Value)(Z:Sg)(T:Tb):Prop where
 nam:∀ n x,Z.name n=some x->x≠"__name__"/\(x == ("__debug__" : Str))=false
 blt:∀ (n:Nat) (x:Str),dz[n]? = some x->mg x=none
 cst:∀ n d x,(n,d)∈Z.kst->Z.name n=some x->∃ u v,mg x=some u/\RelV v u/\∀ S H,HRep K S H v d
 fns:∀ f∈Z.fns,∀ x,Z.name f=some x->DefOk K mg Z T f x
 fio:∀ f c m,(f,c,m)∈Z.fio->DefOI K Z T f (eV K c m)
 fmt:∀ f c m,(f,c,m)∈Z.oms->DefOM K Z T f (eV K c m)
 fmk:∀ n c f x,(n,c,f)∈Z.omk->Z.name n=some x->DefOI K Z T f (pV K mg c x)
 ocl:∀ c∈Z.ocs,∀ C,OC K c C->Cls K C/\∀ x∈Z.ofs,fR K C x
 plc:∀ f∈Z.pl,∀ fn,T f=some fn->fn.G.cm=false
theorem iA {F:Addr->Prop}{H:Hp}:∀ {vs:List V}{ds:List D} (n:Nat),HReps K F H vs ds->Rps K F H (vs.map some++List.replicate n none) ((ers ds).map some++List.replicate n none) []
 | [],[],n,.nil=>by
  induction n with
  | zero=>exact .nil
  | succ n ih=>exact .none ih
 | v::vs,d::ds,n,.cons h1 h2=>.some (f:=[]) h1.frozen (iA n h2)
structure Rm (n:Nat)(A:Around):Prop where
 dp:A.depth+3*(2*n+4)+5 < recursionLimit
 un:A.units+16*(2*n+4)+200 < cLine
theorem Rm.room {n:Nat}{A:Around}(r:Rm n A)(hn:n < 490)(h:A.handled=none):Room (2*n+4) A:=⟨fun _=>h,by have:=r.dp;rw[Nat.mod_eq_of_lt (by omega)];exact this,by have:=r.un;rw[Nat.mod_eq_of_lt (by omega)];exact this⟩
theorem Rm.roomp {n:Nat}{A:Around}(r:Rm n A)(hn:n < 490):Room (1004+2*n) A:=⟨fun z=>by omega,by have:=r.dp;rw[show (1004+2*n) % 1000=2*n+4 by omega];exact this,by have:=r.un;rw[show (1004+2*n) % 1000=2*n+4 by omega];exact this⟩
theorem Rm.of {n k:Nat}{A:Around}(r:Room k A)(h:k % 1000=2*n+4):Rm n A:=⟨by have:=r.dp;rw[h] at this;exact this,by have:=r.un;rw[h] at this;exact this⟩
structure AllC (P:Program)(w:World)(K:PySem.W.Frag)(mg:Str->Option Value)(base:Heap)(Z:Sg)(T:Tb)(n:Nat):Prop where
 fns:∀ (A:Around),Rm n A->∀ f∈Z.fns,(A.handled=none∨f∈Z.pl)->∀ x,Z.name f=some x->FnC P w K mg base (CX1 P w) A (aW T n) (xp1 K) f x
 fio:∀ (A:Around),Rm n A->∀ f c m,(f,c,m)∈Z.fio->A.handled=none->FnI P w K mg base (CX1 P w) A (aW T n) f (eV K c m)
 fmt:∀ (A:Around),Rm n A->∀ f c m,(f,c,m)∈Z.oms->A.handled=none->FnM P w K mg base (CX1 P w) A (aW T n) (xp1 K) f (eV K c m)
 fmk:∀ (A:Around),Rm n A->∀ i c f x,(i,c,f)∈Z.omk->A.handled=none->Z.name i=some x->FnI P w K mg base (CX1 P w) A (aW T n) f (pV K mg c x)
theorem snI {CX:CXT}{cl:Nat->List D->Res D}{xp:XK->Hp->EX->Prop}{X:Cx}{ex:EX->Prop}{G:Gm}(g:GOk Z CX cl xp X ex G)(B:Bs G.io){as:List IS}{ss:List Stmt}(h:eJ Z G as ss=true):PSs X ss (RSB X.K B ex (cZ cl as)):=
 kr (ny as X ex G ss g h) fun Dn σ H ⟨F,τ,f,m,q⟩=>⟨B,F,τ,f,m,q⟩
theorem iT (t:TopOk K mg Z T){n k:Nat}{f:Nat}{fn:Fn}{nm x:Str}{st:Stmt}{fa:Addr}{fd:FuncData}{ps:List Str}(hk:k % 1000=2*n+4)(hn:n < 490)(h1:T f=some fn)(h2:FunD K nm x st fa fd)(h5:DefSc Z fn ps st)(hp:k < 1000∨fn.G.cm=false)
  (ih:AllC P w K mg base Z T n) :
  FnOk P w K mg base (CX1 P w) (k+1) fa fd ps (spF K (aW T (n+1)) (xp1 K) f ps):=by
 have hcall:∀ ds,aW T (n+1) f ds=gB (aW T n) fn ds:=fun ds=>by show (match T f with|some fn=>(match fn.io with|false=>gB (aW T n) fn ds|true=>gN (aW T n) fn ds)|none=>stk)=_;rw[h1];show (match fn.io with|false=>gB (aW T n) fn ds|true=>gN (aW T n) fn ds)=_;rw[h5.pl]
 obtain⟨dV,oc,od,kV,doc,pm,an,cdv,ct,osl,rfl,lk,hcd⟩:=h2.ex;refine vK lk hcd h5.sc (by omega) (fun vs H Q E h=>h.1) fun A outer s H vs Q E hr hsp=>?_;obtain⟨hl,lt,F,ds,fok,m,q⟩:=hsp;have hcm:fn.G.cm=true->A.handled=none:=fun z=>hp.elim (fun h=>hr.hd h) fun h=>by rw[h] at z;cases z
 refine⟨_,snI (Z:=Z) (CX:=CX1 P w) (cl:=aW T n) (xp:=xp1 K) (ex:=xp1 K E H) (G:=fn.G) ?_ ⟨F,H,fun _ _=>False,fun _ _=>False,none⟩ h5.body,?_⟩
 ·refine⟨rfl,h5.sc.nd,fun z=>by show A.handled.isNone=true;rw[hcm z];rfl,h5.sc.kind,?_,fun _=>PassesOwn.leaving,fun i y hy=>h5.kd i y hy,fun i y hy=>h5.noD y (List.mem_of_getElem? hy),fun m hm y hy=>h5.gl m hm y hy,t.nam,fun _ _=>rfl,t.blt,t.cst,?_,fun f' c m h' z=>ih.fio _ (Rm.of hr hk) f' c m h' (hcm z),fun f' c m h' z=>ih.fmt _ (Rm.of hr hk) f' c m h' (hcm z),fun i' c f' x' h' z hx'=>ih.fmk _ (Rm.of hr hk) i' c f' x' h' (hcm z) hx',t.ocl,⟨fun _ _ _=>False,fun pins σ H s e s' _ h=>h.elim,fun c H z=>z.elim⟩,fun outer H s E e s' x fr h=>h,fun H outer s e s' h=>h⟩
  ·have:=hr.un;show (A.deeper _).units+42 < cLine;omega
  ·exact fun f' hf' hc x' hx'=>ih.fns _ (Rm.of hr hk) f' hf' (hc.elim (fun z=>.inl (hcm z)) .inr) x' hx'
 ·rw[hcall] at q;obtain⟨gd,q⟩:=PO'.grd q;have gd':(ers ds).length=fn.np:=of_decide_eq_true gd;have hn':fn.G.N.length - vs.length=fn.G.N.length - fn.np:=by rw[m.length,<- de ds,gd']
  refine⟨F,(ers ds).map some++List.replicate (fn.G.N.length - fn.np) none,[],⟨fok,?_,List.nodup_nil,.refl _,fun a ha=>absurd ha (by simp),fun a h=>h,fun a h=>.inl h,fun a xs h=>h.elim,fun a xs h=>h.elim,fun _ _ _ z=>by cases z⟩,(PO'.bnd q).mono fun r hr=>?_⟩
  ·show Rps K F H (start fn.G.N vs) _ [];unfold start;rw[hn'];exact iA _ m
  ·cases r with
   | nx τ'=>exact fun σ' H' F' f' m'=>hr.ok .non H' F' [] ⟨m'.fok,m'.same,.non,List.nodup_nil,fun a ha=>absurd ha (by simp),m'.inn,m'.out⟩
   | rt d=>exact fun v H' F' fv o=>hr.ok v H' F' fv o
   | bk τ'=>exact hr.no.elim
   | ct τ'=>exact hr.no.elim
   | ri d ks es=>exact hr.no.elim
   | ro d o=>exact hr.no.elim
theorem rK {F:Addr->Prop}{H:Hp}{a:Addr}{d:D}{f0:List Addr}(hd:MRep K F H (.ref a) d f0){vs:List V}{ds:List D}(n:Nat)(m:HReps K F H vs ds):Rps K F H ((V.ref a::vs).map some++List.replicate n none) ((d::ers ds).map some++List.replicate n none) (f0++[]):=
 .some hd (iA n m)
theorem rL (t:TopOk K mg Z T){n k:Nat}{f:Nat}{fn:Fn}{nm x:Str}{st:Stmt}{fa:Addr}{fd:FuncData}{ps:List Str}(hk:k % 1000=2*n+4)(hn:n < 490)(h1:T f=some fn)(h2:FunD K nm x st fa fd)(h5:DefSI Z fn ps st)(hp:k < 1000)
  (ih:AllC P w K mg base Z T n) :
  FnOk P w K mg base (CX1 P w) (k+1) fa fd ps (spI K (aW T (n+1)) f ps):=by
 have hGi:=h5.gio;have hpos:=h5.pos;have htr:=h5.ntr;have hcall:∀ ds,aW T (n+1) f ds=gN (aW T n) fn ds:=fun ds=>by show (match T f with|some fn=>(match fn.io with|false=>gB (aW T n) fn ds|true=>gN (aW T n) fn ds)|none=>stk)=_;rw[h1];show (match fn.io with|false=>gB (aW T n) fn ds|true=>gN (aW T n) fn ds)=_;rw[h5.io]
 obtain⟨dV,oc,od,kV,doc,pm,an,cdv,ct,osl,rfl,lk,hcd⟩:=h2.ex;refine vK lk hcd h5.sc (by omega) (fun vs H Q E h=>h.1) fun A outer s H vs Q E hr hsp=>?_;obtain⟨hl,a,d0,f0,F,ws,ds,rfl,AI,d,d1,hc,q⟩:=hsp;have hcm:A.handled=none:=hr.hd hp;refine⟨_,snI (Z:=Z) (CX:=CX1 P w) (cl:=aW T n) (xp:=xp1 K) (ex:=nox) (G:=fn.G) ?_ ⟨F,rmS f0 H,fun _ _=>False,fun _ _=>False,some a⟩ h5.body,?_⟩
 ·refine⟨rfl,h5.sc.nd,fun z=>by show A.handled.isNone=true;rw[hcm];rfl,h5.sc.kind,?_,fun _=>PassesOwn.leaving,fun i y hy=>h5.kd i y hy,fun i y hy=>h5.noD y (List.mem_of_getElem? hy),fun m hm y hy=>h5.gl m hm y hy,t.nam,fun _ _=>rfl,t.blt,t.cst,fun f' hf' hc x' hx'=>ih.fns _ (Rm.of hr hk) f' hf' (.inl hcm) x' hx',fun f' c m h' z=>ih.fio _ (Rm.of hr hk) f' c m h' hcm,fun f' c m h' z=>ih.fmt _ (Rm.of hr hk) f' c m h' hcm,fun i' c f' x' h' z hx'=>ih.fmk _ (Rm.of hr hk) i' c f' x' h' hcm hx',t.ocl,⟨fun _ _ _=>False,fun pins σ H s e s' _ h=>h.elim,fun c H z=>z.elim⟩,fun outer H s E e s' x fr h=>h,fun H outer s e s' h=>h⟩;have:=hr.un;show (A.deeper _).units+42 < cLine;omega
 ·rw[hcall] at hc;unfold gN at hc;obtain⟨gd,hc⟩:=kA hc;have gd':(d0::ers ds).length=fn.np:=of_decide_eq_true gd;obtain⟨r,hr1,hc⟩:=fA hc;have hn':fn.G.N.length - (V.ref a::ws).length=fn.G.N.length - fn.np:=by rw[<- gd',List.length_cons,List.length_cons,de,AI.ws.length]
  refine⟨F,(d0::ers ds).map some++List.replicate (fn.G.N.length - fn.np) none,f0++[],⟨AI.fok,?_,by simpa using AI.nod,nr,fun b hb=>gQ (by simpa using hb),fun b h=>h,fun b h=>.inl h,fun b xs h=>h.elim,fun b xs h=>h.elim,fun j b e1 e2=>?_⟩,?_⟩
  ·show Rps K F H (start fn.G.N (.ref a::ws)) _ _;unfold start;rw[hn'];exact rK AI.m0 _ AI.ws
  ·rw[hGi] at e1;cases e1;cases e2;rfl
  ·rw[hr1];cases r with
   | ro d' o'=>cases hc;intro v H'' F'' fv f1 l hN ot m1 nd h1;have e:=hN a rfl;subst e;exact q v H'' F'' fv f1 ⟨ot,m1,nd,h1⟩
   | nx τ'=>
    intro σ' H'' F'' f' m';have hc:(match bS τ' 0 with|some o=>grd (eG o) (.ok (D.tup [.non,o]))|none=>stk:Res D)=.ok (D.tup [d,d1]):=hc;cases zs:bS τ' 0 with
    | none=>rw[zs] at hc;cases hc
    | some o=>rw[zs] at hc;obtain⟨go,hc⟩:=kA hc;cases hc;obtain⟨v1,f1,g1,e1,m1,_,e4⟩:=m'.rps.at zs;have hnm:=m'.nm 0 a hGi rfl;rw[e1] at hnm;cases hnm;have sub:∀ b∈f1,b∈f':=fun b hb'=>e4.mem_iff.mpr (List.mem_append_left _ hb');exact q .non H'' F'' [] f1 ⟨⟨m'.fok,m'.same,.non,List.nodup_nil,fun b hb=>absurd hb (by simp),m'.inn,m'.out⟩,m1,(List.nodup_append.mp (e4.nodup_iff.mp m'.nod)).1,fun b hb=>m'.own b (sub b hb)⟩
   | bk _=>cases hc
   | ct _=>cases hc
   | rt _=>cases hc
   | ri _ _ _=>cases hc
theorem uY {n f:Nat}{fn:Fn}(h1:T f=some fn)(h5:fn.io=false)(ds:List D):aW T (n+1) f ds=gB (aW T n) fn ds:=by show (match T f with|some fn=>(match fn.io with|false=>gB (aW T n) fn ds|true=>gN (aW T n) fn ds)|none=>stk)=_;rw[h1];show (match fn.io with|false=>gB (aW T n) fn ds|true=>gN (aW T n) fn ds)=_;rw[h5]
theorem oG {n f:Nat}{fn:Fn}(h1:T f=some fn)(h5:fn.io=true)(ds:List D):aW T (n+1) f ds=gN (aW T n) fn ds:=by show (match T f with|some fn=>(match fn.io with|false=>gB (aW T n) fn ds|true=>gN (aW T n) fn ds)|none=>stk)=_;rw[h1];show (match fn.io with|false=>gB (aW T n) fn ds|true=>gN (aW T n) fn ds)=_;rw[h5]
theorem A4 {f:Nat}{Pa:Addr->Prop}{A:Around}(d:DefOI K Z T f Pa)(hr:Rm 0 A)(h:A.handled=none):FnI P w K mg base (CX1 P w) A (aW T 0) f Pa:=by
 obtain⟨fn,nm,qual,st,fa,fd,ps,h1,h2,h3,h4,h5⟩:=d.ex;have no:∀ vs H Q E,¬ spI K (aW T 0) f ps vs H Q E:=fun vs H Q E ⟨_,a,d0,f0,F,ws,ds,_,_,d,d1,h,_⟩=>by cases h
 exact⟨3,fa,fd,ps,h3,h4,⟨fun vs H Q E h=>h.1,fun A outer s H args us vs Q E _ _ _ _ h=>(no _ _ _ _ h).elim⟩,hr.room (by omega) h,by decide,fun ds r h=>by cases h⟩
theorem A5 (t:TopOk K mg Z T){n f:Nat}{Pa:Addr->Prop}{A:Around}(h9:n+1 < 490)(ih:AllC P w K mg base Z T n)(d:DefOI K Z T f Pa)(hr:Rm (n+1) A)(h:A.handled=none):FnI P w K mg base (CX1 P w) A (aW T (n+1)) f Pa:=by obtain⟨fn,nm,qual,st,fa,fd,ps,h1,h2,h3,h4,h5⟩:=d.ex;refine⟨2*n+4+1,fa,fd,ps,h3,h4,rL t (k:=2*n+4) (n:=n) (by omega) (by omega) h1 h2 h5 (by omega) ih,hr.room h9 h,by omega,fun ds r h=>?_⟩;rw[oG h1 h5.io] at h;obtain⟨gd,_⟩:=kA h;rw[of_decide_eq_true gd,h5.np]
theorem vW (t:TopOk K mg Z T):∀ (n:Nat),n < 490->AllC P w K mg base Z T n
 | 0,h9=>by
  refine⟨fun A hr f hf hc x hx=>?_,fun A hr f c m h hc=>A4 (t.fio f c m h) hr hc,fun A hr f c m h hc=>?_,fun A hr i c f x h hc hx=>A4 (t.fmk i c f x h hx) hr hc⟩
  ·obtain⟨fn,st,fa,fd,ps,h1,h2,h3,h4,h5⟩:=(t.fns f hf x hx).ex;have no:∀ vs H Q E,¬ spF K (aW T 0) (xp1 K) f ps vs H Q E:=fun vs H Q E ⟨_,_,F,ds,_,_,h⟩=>h;exact⟨1004+2*0,fa,fd,ps,h3,h2.kp,h4,⟨fun vs H Q E h=>h.1,fun A outer s H args us vs Q E _ _ _ _ h=>(no _ _ _ _ h).elim⟩,hr.roomp h9,fun ex ds k h=>h.elim⟩
  ·obtain⟨fn,nm,qual,st,fa,fd,ps,h1,h2,h3,h4,h5⟩:=(t.fmt f c m h).ex;have no:∀ vs H Q E,¬ spF K (aW T 0) (xp1 K) f ps vs H Q E:=fun vs H Q E ⟨_,_,F,ds,_,_,h⟩=>h;exact⟨1004+2*0,fa,fd,ps,h3,h4,⟨fun vs H Q E h=>h.1,fun A outer s H args us vs Q E _ _ _ _ h=>(no _ _ _ _ h).elim⟩,hr.roomp h9,fun ex ds k h=>h.elim⟩
 | n+1,h9=>by
  have ih:=vW t n (by omega);have hlen:∀ {f:Nat}{fn:Fn}{ps:List Str}{st:Stmt},T f=some fn->DefSc Z fn ps st->∀ (ex:EX->Prop) ds (k:D->Prop),PO' ex (aW T (n+1) f ds) k->ds.length=ps.length:=fun h1 h5 ex ds k h=>by rw[uY h1 h5.pl] at h;obtain⟨gd,_⟩:=PO'.grd h;rw[of_decide_eq_true gd,h5.np]
  refine⟨fun A hr f hf hc x hx=>?_,fun A hr f c m h hc=>A5 t h9 ih (t.fio f c m h) hr hc,fun A hr f c m h hc=>?_,fun A hr i c f x h hc hx=>A5 t h9 ih (t.fmk i c f x h hx) hr hc⟩
  ·obtain⟨fn,st,fa,fd,ps,h1,h2,h3,h4,h5⟩:=(t.fns f hf x hx).ex;by_cases hpl:f∈Z.pl
   ·exact⟨1004+2*n+1,fa,fd,ps,h3,h2.kp,h4,iT t (k:=1004+2*n) (n:=n) (by omega) (by omega) h1 h2 h5 (.inr (t.plc f hpl fn h1)) ih,Room.less (k:=1004+2*n+1) (show Room (1004+2*n+1+1) A from hr.roomp h9) (by omega),hlen h1 h5⟩
   ·exact⟨2*n+4+1,fa,fd,ps,h3,h2.kp,h4,iT t (k:=2*n+4) (n:=n) (by omega) (by omega) h1 h2 h5 (.inl (by omega)) ih,Room.less (k:=2*n+4+1) (show Room (2*n+4+1+1) A from hr.room h9 (hc.elim id fun z=>absurd z hpl)) (by omega),hlen h1 h5⟩
  ·obtain⟨fn,nm,qual,st,fa,fd,ps,h1,h2,h3,h4,h5⟩:=(t.fmt f c m h).ex;exact⟨2*n+4+1,fa,fd,ps,h3,h4,iT t (k:=2*n+4) (n:=n) (by omega) (by omega) h1 h2 h5 (.inl (by omega)) ih,Room.less (k:=2*n+4+1) (show Room (2*n+4+1+1) A from hr.room h9 hc) (by omega),hlen h1 h5⟩
end
section
variable {P:Program}{w:World}{K:PySem.W.Frag}{mg:Str->Option Value}{base:Heap}{Z:Sg}{T:Tb}
noncomputable def spL (K:PySem.W.Frag)(cl:Nat->List D->Res D)(f:Nat)(ps:List Str):Sp:=fun vs H Q E=>vs.length=ps.length/\∃ F ds,FOk F H/\HReps K F H vs ds/\
 PO' nox (cl f (ers ds)) fun d=>∀ v H' F' fv,Out K F H F' H' v d fv->Q v H'
theorem rM {cl:Nat->List D->Res D}{k f:Nat}{fa:Addr}{fd:FuncData}{ps:List Str}(F:FnOk P w K mg base (CX1 P w) k fa fd ps (spF K cl (xp1 K) f ps)):FnOk P w K mg base (CX1 P w) k fa fd ps (spL K cl f ps):=by
 refine⟨fun vs H Q E h=>h.1,fun A outer s H args us vs Q E hr e0 bd r hsp=>?_⟩;obtain⟨hl,Fc,ds,fok,m,q⟩:=hsp;have e1:Env0 P w K mg base A outer s (cV s.heap H):=⟨e0.frames,e0.mod,fun b o e=>⟨(e0.bs b o e).1,dQ (e0.bs b o e).2⟩,e0.bsz,e0.funs,fun b hb=>dQ (e0.frf b hb),m7 e0.hok,e0.bare⟩
 have hq:PO' (xp1 K E (cV s.heap H)) (cl f (ers ds)) fun d=>∀ v H' F' fv,Out K Fc H F' H' v d fv->Q v H':=by
  cases z:cl f (ers ds) with
  | ok d=>rw[z] at q;exact q
  | error er=>
   rw[z] at q;cases er with
   | stuck=>exact q.no.elim
   | exc c=>exact False.elim q
 have hs:spF K cl (xp1 K) f ps vs (cV s.heap H) (fun v H'=>Pers s.heap H H'->Q v (gC H H')) E:=
  ⟨hl,qR e0.hok,_,ds,fun a h=>h.2,om e0.hok m,hq.mono fun d hd v H' F' fv o p=>hd v _ _ fv (iS e0.hok fok p o)⟩
 refine codeAny_mono (F.run A outer s (cV s.heap H) args us vs _ E hr e1 bd r hs) fun r' s' hq=>?_;cases r' with
 | error e=>exact hq
 | ok fl=>
  cases fl with
  | ret u=>obtain⟨v,H',a1,a2,a3,a4,a5,a6⟩:=hq;exact⟨v,gC H H',a1,a2,qT e0.hok a3,m8 e0.hok a4 (iR e0.hok a4 a3) (fs:=frs outer) (fun b o _ e n f=>a3.keep b o e n f (by simp)) e0.frf,a5,a6 (iR e0.hok a4 a3)⟩
  | next=>exact hq
  | brk=>exact hq
  | cont=>exact hq
theorem y4 (t:TopOk K mg Z T)(n:Nat)(hn:n < 490){f:Nat}{fn:Fn}{x:Str}{st:Stmt}{fa:Addr}{fd:FuncData}{ps:List Str}(h1:T f=some fn)(h2:FunD K x x st fa fd)(h5:DefSc Z fn ps st):FnOk P w K mg base (CX1 P w) (2*n+4+1) fa fd ps (spL K (aW T (n+1)) f ps):=
 rM (iT t (k:=2*n+4) (n:=n) (by omega) hn h1 h2 h5 (.inl (by omega)) (vW t n hn))
theorem y7 {f n:Nat}{x:Str}{a:Addr}{H:Hp}{ns:List Int}(hS:Ls K H a (ns.map V.int))(hl:aW T n f [.lst false (ns.map .int)]=.ok (.bl true)) :
  spL K (aW T n) f [x] [.ref a] H (fun v _=>v=.bl true) fun _ _ _=>False:=by
 have m:HReps K (fun a=>H a≠none) H [.ref a] [.lst false (ns.map .int)]:=by
  refine .cons ?_ .nil;rcases hS with hS|hS
  ·exact .lst hS.some hS (HReps.ofInts ns)
  ·exact .lstK hS (HReps.ofInts ns)
 refine⟨rfl,fun a=>H a≠none,[.lst false (ns.map .int)],fun a h=>h,m,?_⟩;have he:ers [.lst false (ns.map .int)]=[D.lst false (ns.map .int)]:=by rw[ers,ers,er,eZ,List.map_map];rfl
 rw[he,hl];intro v H' F' fv o;cases o.rep;rfl
theorem rN {l:PySem.W.OpenLaw}{q:Program}{loose:List Str}{XP:(Str->Option Value)->Heap->Prop}{YP:World->Heap->Prop}{d:DefRec}{K:Params->PySem.W.Frag}{T:Tb}{n f:Nat}{x:Str}(hn:l.most=some 63)(hdf:d.params.defaults=[])(hr:Room (2*n+4+1) callerA)
  (hY:∀ (w:World) (h:Heap),YP w h->(K w.params).In h)
  (F:∀ (w:World) (mg:Str->Option Value) (fa:Addr) (h:Heap),(K w.params).In h->h.Ns mainGlobals mg->mg d.name=some (.ref fa)->
   ∃ fd:FuncData,(∀ (s:Shared) (u:Value),BindsTo s fd ⟨[u],[]⟩ [(x,u)])/\∀ base:Heap,(K w.params).In base->base.Ns mainGlobals mg->FnOk l.prog w (K w.params) mg base (CX1 l.prog w) (2*n+4+1) fa fd [x] (spL (K w.params) (aW T (n+1)) f [x]))
  (hl:∀ ns:List Int,ns.length<=63->aW T (n+1) f [.lst false (ns.map .int)]=.ok (.bl true)) :
  PySem.W.WalkO q loose XP YP l.row.toRowW d [] (fun f vs=>PySem.call f vs):=
 L2.ui (n:=63) (k:=2*n+4+1) (x:=x) (CX:=fun w=>CX1 l.prog w) (sp:=fun w=>spL (K w.params) (aW T (n+1)) f [x]) hn (by decide) hdf hr hY F (fun w H a ns h1 _ hS=>y7 hS (hl ns h1)) fun _ _ _ _ _ z=>z
end
namespace Ev
section
variable {α β:Type}{cl:Nat->List D->Res D}{τ:Ev}{mv:Bool}
theorem rO {a:α}{f:α->Res β}:bnd (.ok a) f=f a:=rfl
theorem vX {x:Res α}:grd true x=x:=rfl
theorem r_c {d:D}:evR cl (.c d) τ=.ok d:=rfl
theorem r_g {n:Nat}{d:D}:evR cl (.g n d) τ=.ok d:=rfl
theorem r_v {i:Nat}:evR cl (.v i) τ=(match bS τ i with|some d=>.ok d|none=>stk):=rfl
noncomputable def A6 (cl:Nat->List D->Res D)(op:BOp)(b:IR)(τ:Ev)(x:D):Res D:=bnd (evR cl b τ) (opB op x)
theorem a7 {op:BOp}{b:IR}{x:D}:A6 cl op b τ x=bnd (evR cl b τ) (opB op x):=rfl
theorem vY {op:BOp}{a b:IR}:evR cl (.bin op a b) τ=bnd (evR cl a τ) (A6 cl op b τ):=rfl
noncomputable def A7:D->Res D
 | .int i=>.ok (.int (-i))
 | _=>stk
theorem vZ {a:IR}:evR cl (.neg a) τ=bnd (evR cl a τ) A7:=rfl
theorem rP {i:Int}:A7 (.int i)=.ok (.int (-i)):=rfl
noncomputable def blK (r:Bool):Res D:=.ok (.bl r)
theorem bT {r:Bool}:blK r=.ok (.bl r):=rfl
noncomputable def mj (op:COp)(x y:D):Res D:=bnd (opC op x y) blK
theorem ag {op:COp}{x y:D}:mj op x y=bnd (opC op x y) blK:=rfl
noncomputable def A8 (cl:Nat->List D->Res D)(op:COp)(b:IR)(τ:Ev)(x:D):Res D:=bnd (evR cl b τ) (mj op x)
theorem ba {op:COp}{b:IR}{x:D}:A8 cl op b τ x=bnd (evR cl b τ) (mj op x):=rfl
theorem v3 {op:COp}{a b:IR}:evR cl (.cmp op a b) τ=bnd (evR cl a τ) (A8 cl op b τ):=rfl
noncomputable def y9 (cl:Nat->List D->Res D)(op':COp)(c:IR)(τ:Ev)(y:D)(r:Bool):Res D:=if r=true then bnd (evR cl c τ) (mj op' y) else .ok (.bl false)
theorem bb {op':COp}{c:IR}{y:D}{r:Bool}:y9 cl op' c τ y r=if r=true then bnd (evR cl c τ) (mj op' y) else .ok (.bl false):=rfl
noncomputable def za (cl:Nat->List D->Res D)(op op':COp)(c:IR)(τ:Ev)(x y:D):Res D:=bnd (opC op x y) (y9 cl op' c τ y)
theorem bc {op op':COp}{c:IR}{x y:D}:za cl op op' c τ x y=bnd (opC op x y) (y9 cl op' c τ y):=rfl
noncomputable def chK (cl:Nat->List D->Res D)(op op':COp)(b c:IR)(τ:Ev)(x:D):Res D:=bnd (evR cl b τ) (za cl op op' c τ x)
theorem bU {op op':COp}{b c:IR}{x:D}:chK cl op op' b c τ x=bnd (evR cl b τ) (za cl op op' c τ x):=rfl
theorem oH {op op':COp}{a b c:IR}:evR cl (.chain op op' a b c) τ=bnd (evR cl a τ) (chK cl op op' b c τ):=rfl
noncomputable def rQ (cl:Nat->List D->Res D)(b:IR)(τ:Ev)(x:D)(r:Bool):Res D:=if r=true then evR cl b τ else .ok x
theorem ah {b:IR}{x:D}{r:Bool}:rQ cl b τ x r=if r=true then evR cl b τ else .ok x:=rfl
noncomputable def A9 (cl:Nat->List D->Res D)(b:IR)(τ:Ev)(x:D):Res D:=bnd (dg x) (rQ cl b τ x)
theorem bg {b:IR}{x:D}:A9 cl b τ x=bnd (dg x) (rQ cl b τ x):=rfl
theorem v5 {a b:IR}:evR cl (.and_ a b) τ=bnd (evR cl a τ) (A9 cl b τ):=rfl
noncomputable def zb (cl:Nat->List D->Res D)(b:IR)(τ:Ev)(x:D)(r:Bool):Res D:=if r=true then .ok x else evR cl b τ
theorem bh {b:IR}{x:D}{r:Bool}:zb cl b τ x r=if r=true then .ok x else evR cl b τ:=rfl
noncomputable def orK (cl:Nat->List D->Res D)(b:IR)(τ:Ev)(x:D):Res D:=bnd (dg x) (zb cl b τ x)
theorem bV {b:IR}{x:D}:orK cl b τ x=bnd (dg x) (zb cl b τ x):=rfl
theorem Ba {a b:IR}:evR cl (.or_ a b) τ=bnd (evR cl a τ) (orK cl b τ):=rfl
noncomputable def rR (r:Bool):Res D:=.ok (.bl !r)
theorem ai {r:Bool}:rR r=.ok (.bl !r):=rfl
noncomputable def Bb (x:D):Res D:=bnd (dg x) rR
theorem bj {x:D}:Bb x=bnd (dg x) rR:=rfl
theorem v7 {a:IR}:evR cl (.not_ a) τ=bnd (evR cl a τ) Bb:=rfl
noncomputable def rS (cl:Nat->List D->Res D)(a b:IR)(τ:Ev)(r:Bool):Res D:=if r=true then evR cl a τ else evR cl b τ
theorem aj {a b:IR}{r:Bool}:rS cl a b τ r=if r=true then evR cl a τ else evR cl b τ:=rfl
noncomputable def Bc (cl:Nat->List D->Res D)(a b:IR)(τ:Ev)(x:D):Res D:=bnd (dg x) (rS cl a b τ)
theorem bo {a b:IR}{x:D}:Bc cl a b τ x=bnd (dg x) (rS cl a b τ):=rfl
theorem v8 {t a b:IR}:evR cl (.ite t a b) τ=bnd (evR cl t τ) (Bc cl a b τ):=rfl
noncomputable def tupK (ds:List D):Res D:=grd (dR ds.length) (.ok (.tup ds))
theorem bp {ds:List D}:tupK ds=grd (dR ds.length) (.ok (.tup ds)):=rfl
theorem v9 {es:List IR}:evR cl (.tup es) τ=bnd (cX cl es τ) tupK:=rfl
noncomputable def lstK (ds:List D):Res D:=grd (dR ds.length) (.ok (.lst true ds))
theorem bq {ds:List D}:lstK ds=grd (dR ds.length) (.ok (.lst true ds)):=rfl
theorem wa {es:List IR}:evR cl (.lst es) τ=bnd (cX cl es τ) lstK:=rfl
noncomputable def Bd (cl:Nat->List D->Res D)(i:IR)(τ:Ev)(x:D):Res D:=bnd (evR cl i τ) (fW x)
theorem br {i:IR}{x:D}:Bd cl i τ x=bnd (evR cl i τ) (fW x):=rfl
theorem wb {a i:IR}:evR cl (.idx a i) τ=bnd (evR cl a τ) (Bd cl i τ):=rfl
noncomputable def ze (cl:Nat->List D->Res D)(hi:Option IR)(τ:Ev)(x:D)(l:Option Int):Res D:=bnd (ky cl hi τ) (lJ x l)
theorem bt {hi:Option IR}{x:D}{l:Option Int}:ze cl hi τ x l=bnd (ky cl hi τ) (lJ x l):=rfl
noncomputable def slK (cl:Nat->List D->Res D)(lo hi:Option IR)(τ:Ev)(x:D):Res D:=bnd (ky cl lo τ) (ze cl hi τ x)
theorem bW {lo hi:Option IR}{x:D}:slK cl lo hi τ x=bnd (ky cl lo τ) (ze cl hi τ x):=rfl
theorem Be {a:IR}{lo hi:Option IR}:evR cl (.sl a lo hi) τ=bnd (evR cl a τ) (slK cl lo hi τ):=rfl
noncomputable def wc (cl:Nat->List D->Res D)(f:Nat)(ds:List D):Res D:=cl f (ers ds)
theorem ak {f:Nat}{ds:List D}:wc cl f ds=cl f (ers ds):=rfl
theorem rT {f:Nat}{es:List IR}:evR cl (.call f es) τ=bnd (cX cl es τ) (wc cl f):=rfl
theorem Bf {f:Bi}{es:List IR}:evR cl (.bi f es) τ=bnd (cX cl es τ) (fK f):=rfl
noncomputable def Bg (k:Kd)(x:D):Res D:=grd (i8 x) (.ok (.bl (gA k x)))
theorem bu {k:Kd}{x:D}:Bg k x=grd (i8 x) (.ok (.bl (gA k x))):=rfl
theorem Bh {i:Int}:i8 (.int i)=true:=rfl
theorem Bj {x:Str}:i8 (.str x)=true:=rfl
theorem Bl {ds:List D}:i8 (.tup ds)=true:=rfl
theorem Bm {o:Bool}{ds:List D}:i8 (.lst o ds)=true:=rfl
theorem rV {a:IR}:evR cl (.lrev a) τ=bnd (evR cl a τ) uD:=rfl
theorem Bn {o:Bool}{ds:List D}:uD (.lst o ds)=.ok (.lst true ds.reverse):=rfl
noncomputable def wd (cl:Nat->List D->Res D)(k:IR)(τ:Ev)(x:D):Res D:=bnd (evR cl k τ) (lM x)
theorem aq {k:IR}{x:D}:wd cl k τ x=bnd (evR cl k τ) (lM x):=rfl
theorem rW {a k:IR}:evR cl (.dget a k) τ=bnd (evR cl a τ) (wd cl k τ):=rfl
theorem rX {a:IR}{x:Str}{cs:List Str}:evR cl (.ofld a x cs) τ=bnd (evR cl a τ) (uE x cs):=rfl
noncomputable def rY (cl:Nat->List D->Res D)(f:Nat)(x:D)(ds:List D):Res D:=cl f (er x::ers ds)
theorem ar {f:Nat}{x:D}{ds:List D}:rY cl f x ds=cl f (er x::ers ds):=rfl
noncomputable def we (cl:Nat->List D->Res D)(f:Nat)(m c:Str)(es:List IR)(τ:Ev)(x:D):Res D:=grd (gK c m x) (bnd (cX cl es τ) (rY cl f x))
theorem au {f:Nat}{m c:Str}{es:List IR}{x:D}:we cl f m c es τ x=grd (gK c m x) (bnd (cX cl es τ) (rY cl f x)):=rfl
theorem rZ {f:Nat}{m c:Str}{a:IR}{es:List IR}:evR cl (.meth f m c a es) τ=bnd (evR cl a τ) (we cl f m c es τ):=rfl
theorem r6 {a:IR}:evR cl (.dofr a) τ=bnd (evR cl a τ) nX:=rfl
theorem r9 {es:List IR}:evR cl (.lstf es) τ=bnd (cX cl es τ) lstK:=rfl
theorem sd {a:IR}:evR cl (.lset a) τ=bnd (evR cl a τ) nW:=rfl
theorem wg {a:IR}{k:Kd}:evR cl (.isi a k) τ=bnd (evR cl a τ) (Bg k):=rfl
noncomputable def Bo (cl:Nat->List D->Res D)(m:Mt)(es:List IR)(τ:Ev)(x:D):Res D:=grd (gJ x) (bnd (cX cl es τ) (jF m x))
theorem bw {m:Mt}{es:List IR}{x:D}:Bo cl m es τ x=grd (gJ x) (bnd (cX cl es τ) (jF m x)):=rfl
theorem wj {m:Mt}{o:IR}{es:List IR}:evR cl (.mth m o es) τ=bnd (evR cl o τ) (Bo cl m es τ):=rfl
noncomputable def zg (ds:List D):Res D:=.ok (.lst true ds)
theorem bx {ds:List D}:zg ds=.ok (.lst true ds):=rfl
noncomputable def wk (cl:Nat->List D->Res D)(G:Gm)(fr:List Nat)(T:Tg)(I:List IR)(E:IR)(τ:Ev)(its:List D):Res D:=grd (gm its.length) (bnd (noX (dv (dY cl T I E (blk G fr τ)) its)) zg)
theorem av {G:Gm}{fr:List Nat}{T:Tg}{I:List IR}{E:IR}{its:List D}:wk cl G fr T I E τ its=grd (gm its.length) (bnd (noX (dv (dY cl T I E (blk G fr τ)) its)) zg):=rfl
theorem se {G:Gm}{fr:List Nat}{T:Tg}{s:Sr}{I:List IR}{E:IR}:evR cl (.comp G fr T s I E) τ=bnd (fX cl s τ) (wk cl G fr T I E τ):=rfl
theorem Bp:cX cl [] τ=.ok []:=rfl
noncomputable def sf (d:D)(ds:List D):Res (List D):=.ok (d::ds)
theorem aw {d:D}{ds:List D}:sf d ds=.ok (d::ds):=rfl
noncomputable def rsK (cl:Nat->List D->Res D)(es:List IR)(τ:Ev)(d:D):Res (List D):=bnd (cX cl es τ) (sf d)
theorem bX {es:List IR}{d:D}:rsK cl es τ d=bnd (cX cl es τ) (sf d):=rfl
theorem Bq {e:IR}{es:List IR}:cX cl (e::es) τ=bnd (evR cl e τ) (rsK cl es τ):=rfl
noncomputable def Br:D->Res (Option Int)
 | .int i=>.ok (some i)
 | _=>stk
theorem sh {i:Int}:Br (.int i)=.ok (some i):=rfl
theorem Bt:ky cl none τ=.ok none:=rfl
theorem Bu {e:IR}:ky cl (some e) τ=bnd (evR cl e τ) Br:=rfl
theorem Bv:gL cl [] τ=.ok true:=rfl
noncomputable def tsK (cl:Nat->List D->Res D)(es:List IR)(τ:Ev)(r:Bool):Res Bool:=if r=true then gL cl es τ else .ok false
theorem bY {es:List IR}{r:Bool}:tsK cl es τ r=if r=true then gL cl es τ else .ok false:=rfl
theorem Bw {e:IR}{es:List IR}:gL cl (e::es) τ=bnd (bnd (evR cl e τ) dg) (tsK cl es τ):=rfl
noncomputable def wm:D->Res (List D)
 | .int i=>grd (dU i) (.ok (e8 0 i))
 | _=>stk
noncomputable def si:D->D->Res (List D)
 | .int i,.int j=>grd (dU i&&dU j) (.ok (e8 i j))
 | _,_=>stk
theorem oI {i:Int}:wm (.int i)=grd (dU i) (.ok (e8 0 i)):=rfl
theorem oJ {i j:Int}:si (.int i) (.int j)=grd (dU i&&dU j) (.ok (e8 i j)):=rfl
theorem Bx {n:IR}:fX cl (.rng1 n) τ=bnd (evR cl n τ) wm:=rfl
noncomputable def r2K (cl:Nat->List D->Res D)(b:IR)(τ:Ev)(x:D):Res (List D):=bnd (evR cl b τ) (si x)
theorem bZ {b:IR}{x:D}:r2K cl b τ x=bnd (evR cl b τ) (si x):=rfl
theorem By {a b:IR}:fX cl (.rng2 a b) τ=bnd (evR cl a τ) (r2K cl b τ):=rfl
theorem sj {o:Bool}{ds:List D}:uC (.lst o ds)=.ok (jb ds):=rfl
theorem wo {a:IR}:fX cl (.enm a) τ=bnd (evR cl a τ) uC:=rfl
theorem wq {e:IR}:fX cl (.val e) τ=bnd (evR cl e τ) ik:=rfl
theorem Bz {o:Bool}{ds:List D}:ik (.lst o ds)=.ok ds:=rfl
theorem BA {ds:List D}:ik (.tup ds)=.ok ds:=rfl
theorem BC {x:Str}:ik (.str x)=grd (dR x.length) (.ok (eM x)):=rfl
theorem t_t {t:IR}:evT cl t τ=bnd (evR cl t τ) dg:=rfl
theorem o_v {i:Nat}:evO cl mv (.v i) τ=(match bS τ i with|some d=>if mv=true then .ok (d,τ.set i none) else .ok (er d,τ.set i (some (er d)))|none=>stk):=rfl
noncomputable def wt (p:List D×Ev):Res (D×Ev):=grd (dR p.1.length) (.ok (.tup p.1,p.2))
theorem ax {p:List D×Ev}:wt p=grd (dR p.1.length) (.ok (.tup p.1,p.2)):=rfl
theorem o_tup {es:List IR}:evO cl mv (.tup es) τ=bnd (jG cl mv es τ) wt:=rfl
noncomputable def wu (p:List D×Ev):Res (D×Ev):=grd (dR p.1.length) (.ok (.lst true p.1,p.2))
theorem az {p:List D×Ev}:wu p=grd (dR p.1.length) (.ok (.lst true p.1,p.2)):=rfl
theorem o_lst {es:List IR}:evO cl mv (.lst es) τ=bnd (jG cl mv es τ) wu:=rfl
noncomputable def wx (cl:Nat->List D->Res D)(mv:Bool)(a b:IR)(τ:Ev)(r:Bool):Res (D×Ev):=if r=true then evO cl mv a τ else evO cl mv b τ
theorem aA {a b:IR}{r:Bool}:wx cl mv a b τ r=if r=true then evO cl mv a τ else evO cl mv b τ:=rfl
theorem o_ite {t a b:IR}:evO cl mv (.ite t a b) τ=bnd (evT cl t τ) (wx cl mv a b τ):=rfl
noncomputable def kN (es:List IR)(τ:Ev)(d:D):Res (D×Ev):=if dP d=true then .ok (d,τ) else .ok (d,frz (cF es) τ)
theorem aa {es:List IR}{d:D}:kN es τ d=if dP d=true then .ok (d,τ) else .ok (d,frz (cF es) τ):=rfl
noncomputable def sk (cl:Nat->List D->Res D)(f:Nat)(es:List IR)(τ:Ev)(ds:List D):Res (D×Ev):=bnd (cl f (ers ds)) (kN es τ)
theorem ae {f:Nat}{es:List IR}{ds:List D}:sk cl f es τ ds=bnd (cl f (ers ds)) (kN es τ):=rfl
theorem o_call {f:Nat}{es:List IR}:evO cl mv (.call f es) τ=bnd (cX cl es τ) (sk cl f es τ):=rfl
noncomputable def fO (e:IR)(τ:Ev)(d:D):Res (D×Ev):=.ok (dn e d τ)
theorem aB {e:IR}{d:D}:fO e τ d=.ok (dn e d τ):=rfl
theorem o_c {d:D}:evO cl mv (.c d) τ=bnd (evR cl (.c d) τ) (fO (.c d) τ):=rfl
theorem o_g {n:Nat}{d:D}:evO cl mv (.g n d) τ=bnd (evR cl (.g n d) τ) (fO (.g n d) τ):=rfl
theorem wy {op:BOp}{a b:IR}:evO cl mv (.bin op a b) τ=bnd (evR cl (.bin op a b) τ) (fO (.bin op a b) τ):=rfl
theorem wz {op:COp}{a b:IR}:evO cl mv (.cmp op a b) τ=bnd (evR cl (.cmp op a b) τ) (fO (.cmp op a b) τ):=rfl
theorem wA {a b:IR}:evO cl mv (.and_ a b) τ=bnd (evR cl (.and_ a b) τ) (fO (.and_ a b) τ):=rfl
theorem wB {a i:IR}:evO cl mv (.idx a i) τ=bnd (evR cl (.idx a i) τ) (fO (.idx a i) τ):=rfl
theorem BD {a:IR}{lo hi:Option IR}:evO cl mv (.sl a lo hi) τ=bnd (evR cl (.sl a lo hi) τ) (fO (.sl a lo hi) τ):=rfl
theorem BE {f:Bi}{es:List IR}:evO cl mv (.bi f es) τ=bnd (evR cl (.bi f es) τ) (fO (.bi f es) τ):=rfl
theorem o_dnew:evO cl mv .dnew τ=.ok (.dct true [] [],τ):=rfl
theorem so {f:Nat}{m c:Str}{a:IR}{es:List IR}:evO cl mv (.meth f m c a es) τ=bnd (evR cl (.meth f m c a es) τ) (fO (.meth f m c a es) τ):=rfl
theorem su {es:List IR}:evO cl mv (.lstf es) τ=bnd (evR cl (.lstf es) τ) (fO (.lstf es) τ):=rfl
noncomputable def BF (cl:Nat->List D->Res D)(f:Nat)(c:Str)(es:List IR)(τ:Ev)(ds:List D):Res (D×Ev):=bnd (noX (cl f (.obj true c [] []::ers ds))) (mZ (frz (cF es) τ))
theorem bz {f:Nat}{c:Str}{es:List IR}{ds:List D}:BF cl f c es τ ds=bnd (noX (cl f (.obj true c [] []::ers ds))) (mZ (frz (cF es) τ)):=rfl
theorem bA {c:Str}{ks:List Str}{vs:List D}:mZ τ (.tup [.non,.obj true c ks vs])=.ok (.obj true c ks vs,τ):=rfl
theorem o_omk {n f:Nat}{c:Str}{es:List IR}:evO cl mv (.omk n f c es) τ=bnd (cX cl es τ) (BF cl f c es τ):=rfl
theorem wC {m:Mt}{o:IR}{es:List IR}:evO cl mv (.mth m o es) τ=bnd (evR cl (.mth m o es) τ) (fO (.mth m o es) τ):=rfl
theorem sv {G:Gm}{fr:List Nat}{T:Tg}{s:Sr}{I:List IR}{E:IR}:evO cl mv (.comp G fr T s I E) τ=bnd (evR cl (.comp G fr T s I E) τ) (fO (.comp G fr T s I E) τ):=rfl
theorem BG:jG cl mv [] τ=.ok ([],τ):=rfl
noncomputable def zh (d:D)(q:List D×Ev):Res (List D×Ev):=.ok (d::q.1,q.2)
theorem bB {d:D}{q:List D×Ev}:zh d q=.ok (d::q.1,q.2):=rfl
noncomputable def osK (cl:Nat->List D->Res D)(mv:Bool)(es:List IR)(p:D×Ev):Res (List D×Ev):=bnd (jG cl mv es p.2) (zh p.1)
theorem b7 {es:List IR}{p:D×Ev}:osK cl mv es p=bnd (jG cl mv es p.2) (zh p.1):=rfl
theorem BH {e:IR}{es:List IR}:jG cl mv (e::es) τ=bnd (evO cl mv e τ) (osK cl mv es):=rfl
noncomputable def smK (d:D):Res (Option D):=.ok (some d)
theorem cb {d:D}:smK d=.ok (some d):=rfl
noncomputable def zj (cl:Nat->List D->Res D)(E:IR)(τ:Ev)(r:Bool):Res (Option D):=if r=true then bnd (evR cl E τ) smK else .ok none
theorem bC {E:IR}{r:Bool}:zj cl E τ r=if r=true then bnd (evR cl E τ) smK else .ok none:=rfl
noncomputable def bdK (cl:Nat->List D->Res D)(I:List IR)(E:IR)(τ:Ev):Res (Option D):=bnd (gL cl I τ) (zj cl E τ)
theorem cg {I:List IR}{E:IR}:bdK cl I E τ=bnd (gL cl I τ) (zj cl E τ):=rfl
theorem oK {T:Tg}{I:List IR}{E:IR}{x:D}:dY cl T I E τ x=bnd (dZ T x τ) (bdK cl I E):=rfl
theorem sx {G:Gm}{fr:List Nat}:blk G fr τ=fr.map (bS τ)++List.replicate (G.N.length - fr.length) none:=rfl
theorem k_i {e:IR}{i:Int}:dn e (.int i) τ=(.int i,τ):=rfl
theorem k_s {e:IR}{x:Str}:dn e (.str x) τ=(.str x,τ):=rfl
theorem k_b {e:IR}{b:Bool}:dn e (.bl b) τ=(.bl b,τ):=rfl
theorem k_n {e:IR}:dn e .non τ=(.non,τ):=rfl
noncomputable def nxK (τ':Ev):Res Fl:=.ok (.nx τ')
theorem cj:nxK τ=.ok (.nx τ):=rfl
noncomputable def BI (tg:Tg)(p:D×Ev):Res Fl:=bnd (dZ tg p.1 p.2) nxK
theorem bD {tg:Tg}{p:D×Ev}:BI tg p=bnd (dZ tg p.1 p.2) nxK:=rfl
theorem st_asg {tg:Tg}{e:IR}:evS cl (.asg tg e) τ=bnd (evO cl false e τ) (BI tg):=rfl
noncomputable def zk (i:Nat)(p:D×Ev):Option D->Res Fl
 | some (.lst true ds)=>grd (gm ds.length) (.ok (.nx (p.2.set i (some (.lst true (ds++[p.1]))))))
 | _=>stk
noncomputable def zm (i:Nat)(p:D×Ev):Res Fl:=zk i p (bS p.2 i)
theorem bE {i:Nat}{p:D×Ev}:zm i p=zk i p (bS p.2 i):=rfl
noncomputable def BJ (cl:Nat->List D->Res D)(i:Nat)(e:IR)(τ:Ev):Option D->Res Fl
 | some (.lst _ _)=>bnd (evO cl false e τ) (zm i)
 | _=>stk
theorem sy {i:Nat}{e:IR}{o:Bool}{ds:List D}:BJ cl i e τ (some (.lst o ds))=bnd (evO cl false e τ) (zm i):=rfl
theorem sA {i:Nat}{p:D×Ev}{ds:List D}:zk i p (some (.lst true ds))=grd (gm ds.length) (.ok (.nx (p.2.set i (some (.lst true (ds++[p.1])))))):=rfl
noncomputable def uZ (i:Nat)(e:IR)(τ:Ev)(d:D)(ks:List Key)(ds:List D):Option Key->Res Fl
 | some q=>grd (fu ds&&gm ks.length) (.ok (.nx ((frz (vars e) τ).set i (some (.dct true (ja ks q) (ers (iJ ks ds q d)))))))
 | none=>stk
noncomputable def Dh (cl:Nat->List D->Res D)(i:Nat)(k e:IR)(τ:Ev)(d:D):Option D->Res Fl
 | some (.dct true ks ds)=>bnd (evR cl k (frz (vars e) τ)) fun y=>uZ i e τ d ks ds (i9 y)
 | _=>stk
noncomputable def BL (cl:Nat->List D->Res D)(i:Nat)(k e:IR)(τ:Ev)(d:D):Res Fl:=Dh cl i k e τ d (bS τ i)
theorem st_dsetx {i:Nat}{k e:IR}:evS cl (.dsetx i k e) τ=bnd (evR cl e τ) (BL cl i k e τ):=by show bnd (evR cl e τ) (fun d=>match bS τ i with|some (.dct true ks ds)=>bnd (evR cl k (frz (vars e) τ)) fun y=>(match i9 y with|some q=>grd (fu ds&&gm ks.length) (.ok (Fl.nx ((frz (vars e) τ).set i (some (.dct true (ja ks q) (ers (iJ ks ds q d)))))))|none=>stk)|_=>stk)=_;congr 1
theorem st_app {i:Nat}{e:IR}:evS cl (.app i e) τ=BJ cl i e τ (bS τ i):=rfl
noncomputable def BM (τ:Ev)(d:D):Res Fl:=.ok (.nx τ)
theorem bF {d:D}:BM τ d=.ok (.nx τ):=rfl
theorem st_exp {e:IR}:evS cl (.exp e) τ=bnd (evR cl e τ) (BM τ):=rfl
noncomputable def rtK (p:D×Ev):Res Fl:=.ok (.rt p.1)
theorem ck {p:D×Ev}:rtK p=.ok (.rt p.1):=rfl
theorem st_ret {e:IR}:evS cl (.ret e) τ=bnd (evO cl true e τ) rtK:=rfl
noncomputable def ifK (cl:Nat->List D->Res D)(a b:List IS)(τ:Ev)(r:Bool):Res Fl:=if r=true then cZ cl a τ else cZ cl b τ
theorem cn {a b:List IS}{r:Bool}:ifK cl a b τ r=if r=true then cZ cl a τ else cZ cl b τ:=rfl
theorem st_if {t:IR}{a b:List IS}:evS cl (.if_ t a b) τ=bnd (evT cl t τ) (ifK cl a b τ):=rfl
noncomputable def turn (cl:Nat->List D->Res D)(tg:Tg)(body:List IS)(x:D)(τ:Ev):Res Fl:=bnd (dZ tg x τ) (cZ cl body)
theorem eE {tg:Tg}{body:List IS}{x:D}:turn cl tg body x τ=bnd (dZ tg x τ) (cZ cl body):=rfl
noncomputable def BN (cl:Nat->List D->Res D)(tg:Tg)(body:List IS)(p:List D×Ev):Res Fl:=forM (turn cl tg body) p.1 p.2
theorem bG {tg:Tg}{body:List IS}{p:List D×Ev}:BN cl tg body p=forM (turn cl tg body) p.1 p.2:=rfl
theorem st_for {tg:Tg}{s:Sr}{body:List IS}:evS cl (.for_ tg s body) τ=bnd (kz cl s τ) (BN cl tg body):=rfl
theorem st_while {t:IR}{body:List IS}:evS cl (.while_ t body) τ=dH (evT cl t) (cZ cl body) jX τ:=rfl
noncomputable def wF (i:Nat)(x:Str)(cs:List Str)(fz:Bool)(p:D×Ev):Res Fl:=lN i x cs fz p.1 p.2 (bS p.2 i)
theorem aC {i:Nat}{x:Str}{cs:List Str}{fz:Bool}{d:D}:wF i x cs fz (d,τ)=lN i x cs fz d τ (bS τ i):=rfl
theorem aD {i:Nat}{x:Str}{cs:List Str}{fz:Bool}{d:D}{c:Str}{ks:List Str}{ds:List D}:lN i x cs fz d τ (some (.obj true c ks ds))=grd (cs.contains c&&decide (ks.length < 1000)) (.ok (.nx (τ.set i (some (.obj true c (eh x ks) (dh x (if fz=true then er d else d) ks ds)))))):=rfl
theorem st_oset {i:Nat}{x:Str}{cs:List Str}{fz:Bool}{e:IR}:evS cl (.oset i x cs fz e) τ=bnd (evO cl false e τ) (wF i x cs fz):=rfl
noncomputable def sC (i:Nat)(x:Str)(cs:List Str)(p:D×Ev):Res Fl:=jY i x cs p.1 p.2 (bS p.2 i)
theorem aE {i:Nat}{x:Str}{cs:List Str}{d:D}:sC i x cs (d,τ)=jY i x cs d τ (bS τ i):=rfl
theorem aF {i:Nat}{x:Str}{cs:List Str}{d:D}{c:Str}{ks:List Str}{ds:List D}:jY i x cs d τ (some (.obj true c ks ds))=grd (cs.contains c) (nY i x c d τ ks ds (cS ks ds x)):=rfl
theorem aG {i:Nat}{x c:Str}{d:D}{ks:List Str}{ds es:List D}:nY i x c d τ ks ds (some (.lst true es))=grd (gm es.length) (.ok (.nx (τ.set i (some (.obj true c ks (dh x (.lst true (es++[er d])) ks ds)))))):=rfl
noncomputable def wG (cl:Nat->List D->Res D)(i:Nat)(x:Str)(cs:List Str)(e:IR)(τ:Ev):Option D->Res Fl
 | some (.obj true c ks ds)=>grd (cs.contains c&&pP (cS ks ds x)) (bnd (evO cl false e τ) (sC i x cs))
 | _=>stk
theorem aH {i:Nat}{x:Str}{cs:List Str}{e:IR}{c:Str}{ks:List Str}{ds:List D}:wG cl i x cs e τ (some (.obj true c ks ds))=grd (cs.contains c&&pP (cS ks ds x)) (bnd (evO cl false e τ) (sC i x cs)):=rfl
theorem st_oapp {i:Nat}{x:Str}{cs:List Str}{e:IR}:evS cl (.oapp i x cs e) τ=wG cl i x cs e τ (bS τ i):=by
 show (match bS τ i with|some (.obj true c ks ds)=>grd (cs.contains c&&pP (cS ks ds x)) (bnd (evO cl false e τ) fun p=>jY i x cs p.1 p.2 (bS p.2 i))|_=>stk)=_;rcases bS τ i with _|d
 ·rfl
 ·induction d using zD<;>first|rfl|(rename_i o c ks ds;induction o using zB<;>rfl)
noncomputable def wH (cl:Nat->List D->Res D)(j:Nat)(x:Str)(cs:List Str)(k:IR)(τ:Ev):Option D->Res Fl
 | some (.obj true c ks ds)=>grd (cs.contains c) (jZ cl j k τ (cS ks ds x))
 | _=>stk
theorem aI {j:Nat}{x:Str}{cs:List Str}{k:IR}{c:Str}{ks:List Str}{ds:List D}:wH cl j x cs k τ (some (.obj true c ks ds))=grd (cs.contains c) (jZ cl j k τ (cS ks ds x)):=rfl
theorem aJ {j:Nat}{k:IR}{es:List D}:jZ cl j k τ (some (.lst true es))=bnd (evR cl k τ) (nZ j τ es):=rfl
theorem af {j:Nat}{z:Int}{es:List D}{d:D}(h:atI es z=some d)(hn:gM d=true):nZ j τ es (.int z)=.ok (.nx (τ.set j (some d))):=by show (match atI es z with|some d=>grd (gM d) (.ok (Fl.nx (τ.set j (some d))))|none=>stk:Res Fl)=_;rw[h];show grd (gM d) _=_;rw[hn];rfl
theorem st_oget {j i:Nat}{x:Str}{cs:List Str}{k:IR}:evS cl (.oget j i x cs k) τ=wH cl j x cs k τ (bS τ i):=by
 show (match bS τ i with|some (.obj true c ks ds)=>grd (cs.contains c) (jZ cl j k τ (cS ks ds x))|_=>stk)=_;rcases bS τ i with _|d
 ·rfl
 ·induction d using zD<;>first|rfl|(rename_i o c ks ds;induction o using zB<;>rfl)
noncomputable def zo (cl:Nat->List D->Res D)(j:Option Nat)(i f:Nat)(es:List IR)(τ:Ev)(o:D)(ds:List D):Res Fl:=bnd (noX (cl f (o::ers ds))) (lO j i (frz (cF es) τ))
theorem bH {j:Option Nat}{i f:Nat}{es:List IR}{o:D}{ds:List D}:zo cl j i f es τ o ds=bnd (noX (cl f (o::ers ds))) (lO j i (frz (cF es) τ)):=rfl
noncomputable def BO (cl:Nat->List D->Res D)(j:Option Nat)(i f:Nat)(m c:Str)(es:List IR)(τ:Ev):Option D->Res Fl
 | some o=>grd (eG o&&gK c m o&&!(cF es).contains i) (bnd (cX cl es τ) (zo cl j i f es τ o))
 | none=>stk
theorem bI {j:Option Nat}{i f:Nat}{m c:Str}{es:List IR}{o:D}:BO cl j i f m c es τ (some o)=grd (eG o&&gK c m o&&!(cF es).contains i) (bnd (cX cl es τ) (zo cl j i f es τ o)):=rfl
theorem sD {i:Nat}{d:D}{c:Str}{ks:List Str}{ds:List D}:lO none i τ (.tup [d,.obj true c ks ds])=.ok (.nx (τ.set i (some (.obj true c ks ds)))):=rfl
theorem st_mio {j:Option Nat}{i f:Nat}{m c:Str}{es:List IR}:evS cl (.mio j i f m c es) τ=BO cl j i f m c es τ (bS τ i):=by show (match bS τ i with|some o=>grd (eG o&&gK c m o&&!(cF es).contains i) (bnd (cX cl es τ) fun ds=>bnd (noX (cl f (o::ers ds))) (lO j i (frz (cF es) τ)))|none=>stk)=_;rcases bS τ i with _|d<;>rfl
noncomputable def wI (cl:Nat->List D->Res D)(y:Str)(f:Nat)(c0:Str)(ks:List Str)(ds:List D)(o:D)(as:List D):Res Fl:=bnd (noX (cl f (o::ers as))) (jc y c0 ks ds)
theorem aK {y:Str}{f:Nat}{c0:Str}{ks:List Str}{ds:List D}{o:D}{as:List D}:wI cl y f c0 ks ds o as=bnd (noX (cl f (o::ers as))) (jc y c0 ks ds):=rfl
theorem aL {y:Str}{f:Nat}{m c:Str}{es:List IR}{c0:Str}{ks:List Str}{ds:List D}{o:D}:j5 cl y f m c es τ c0 ks ds (some o)=grd (eG o&&gK c m o) (bnd (cX cl es τ) (wI cl y f c0 ks ds o)):=rfl
theorem aM {y c0:Str}{ks:List Str}{ds:List D}{d:D}{c:Str}{ks':List Str}{ds':List D}:jc y c0 ks ds (.tup [d,.obj true c ks' ds'])=.ok (.ro d (.obj true c0 ks (dh y (.obj true c ks' ds') ks ds))):=rfl
noncomputable def wJ (cl:Nat->List D->Res D)(i:Nat)(y:Str)(cs:List Str)(f:Nat)(m c:Str)(es:List IR)(τ:Ev):Option D->Res Fl
 | some (.obj true c0 ks ds)=>grd (cs.contains c0&&!(cF es).contains i) (j5 cl y f m c es τ c0 ks ds (cS ks ds y))
 | _=>stk
theorem aN {i:Nat}{y:Str}{cs:List Str}{f:Nat}{m c:Str}{es:List IR}{c0:Str}{ks:List Str}{ds:List D}:wJ cl i y cs f m c es τ (some (.obj true c0 ks ds))=grd (cs.contains c0&&!(cF es).contains i) (j5 cl y f m c es τ c0 ks ds (cS ks ds y)):=rfl
theorem st_rmio {i:Nat}{y:Str}{cs:List Str}{f:Nat}{m c:Str}{es:List IR}:evS cl (.rmio i y cs f m c es) τ=wJ cl i y cs f m c es τ (bS τ i):=by
 show (match bS τ i with|some (.obj true c0 ks ds)=>grd (cs.contains c0&&!(cF es).contains i) (j5 cl y f m c es τ c0 ks ds (cS ks ds y))|_=>stk)=_;rcases bS τ i with _|d
 ·rfl
 ·induction d using zD<;>first|rfl|(rename_i o c ks ds;induction o using zB<;>rfl)
noncomputable def wL (d:D):Option D->Res Fl
 | some o=>grd (dE d&&eG o) (.ok (.ro d o))
 | none=>stk
theorem aO {d o:D}:wL d (some o)=grd (dE d&&eG o) (.ok (.ro d o)):=rfl
theorem aP {i:Nat}{d:D}:lQ i (d,τ)=wL d (bS τ i):=by show (match bS τ i with|some o=>grd (dE d&&eG o) (.ok (Fl.ro d o))|none=>stk:Res Fl)=_;rcases bS τ i with _|o<;>rfl
theorem st_reto {i:Nat}{e:IR}:evS cl (.reto i e) τ=bnd (evO cl false e τ) (lQ i):=rfl
noncomputable def sE (cl:Nat->List D->Res D)(tg:Tg)(body:List IS)(τ:Ev):Option D->Res Fl
 | some (.lst false es)=>forM (fun x τ=>bnd (dZ tg x τ) fun τ'=>cZ cl body τ') (ers (fE es)) τ
 | _=>stk
theorem aQ {tg:Tg}{body:List IS}{es:List D}:sE cl tg body τ (some (.lst false es))=forM (turn cl tg body) (ers (fE es)) τ:=rfl
noncomputable def wM (cl:Nat->List D->Res D)(tg:Tg)(x:Str)(cs:List Str)(body:List IS)(τ:Ev):Option D->Res Fl
 | some (.obj true c ks ds)=>grd (cs.contains c) (sE cl tg body τ (cS ks ds x))
 | _=>stk
theorem aR {tg:Tg}{x:Str}{cs:List Str}{body:List IS}{c:Str}{ks:List Str}{ds:List D}:wM cl tg x cs body τ (some (.obj true c ks ds))=grd (cs.contains c) (sE cl tg body τ (cS ks ds x)):=rfl
theorem st_foro {tg:Tg}{i:Nat}{x:Str}{cs:List Str}{body:List IS}:evS cl (.foro tg i x cs body) τ=wM cl tg x cs body τ (bS τ i):=by
 rw[evS];rcases bS τ i with _|d
 ·rfl
 ·induction d using zD<;>first|rfl|(rename_i o c ks ds;induction o using zB<;>first|rfl|(show grd _ _=grd _ _;congr 1;rcases cS ks ds x with _|e<;>first|rfl|(induction e using zD<;>first|rfl|(rename_i o es;induction o using zB<;>rfl))))
theorem u0 {o:Bool}{c:Str}{ks:List Str}{ds:List D}:er (.obj o c ks ds)=.obj false c ks (ers ds):=by rw[er]
theorem aT {o:Bool}{c:Str}{ks:List Str}{ds:List D}:eG (.obj o c ks ds)=o:=rfl
theorem aZ {o:Bool}{c m c':Str}{ks:List Str}{ds:List D}:gK c m (.obj o c' ks ds)=(c == c'&&!ks.contains m):=rfl
theorem bJ {o:Bool}{ds:List D}:pP (some (.lst o ds))=true:=rfl
theorem aX {o:Bool}{x:Str}{cs:List Str}{c:Str}{ks:List Str}{ds:List D}{d:D}(h1:cs.contains c=true)(h2:cS ks ds x=some d):uE x cs (.obj o c ks ds)=.ok d:=by show grd (cs.contains c) (match cS ks ds x with|some d=>.ok d|none=>stk)=_;rw[h1,h2];rfl
theorem zq {i:Int}:dP (.int i)=true:=by rw[dP]
theorem BP {i:Str}:dP (.str i)=true:=by rw[dP]
theorem BQ {ds:List D}:dP (.tup ds)=d7 ds:=by rw[dP]
theorem zr {o:Bool}{ds:List D}:dP (.lst o ds)=(o&&d7 ds):=by rw[dP]
theorem sF:d7 []=true:=by rw[d7]
theorem sG {d:D}{ds:List D}:d7 (d::ds)=(dP d&&d7 ds):=by rw[d7]
noncomputable def u3 (f:Ev->Res Fl):Fl->Res Fl
 | .nx τ'=>f τ'
 | .ct τ'=>.ok (.ct τ')
 | .bk τ'=>.ok (.bk τ')
 | .rt d=>.ok (.rt d)
 | .ri d ks vs=>.ok (.ri d ks vs)
 | .ro d o=>.ok (.ro d o)
theorem BR:cZ cl [] τ=.ok (.nx τ):=rfl
theorem zt {s:IS}{r:List IS}:cZ cl (s::r) τ=bnd (evS cl s τ) (u3 (cZ cl r)):=rfl
theorem oM {f:Ev->Res Fl}:u3 f (.nx τ)=f τ:=rfl
theorem wN {f:Ev->Res Fl}{d o:D}:u3 f (.ro d o)=.ok (.ro d o):=rfl
theorem wO {f:Ev->Res Fl}{d:D}:u3 f (.rt d)=.ok (.rt d):=rfl
noncomputable def zu (τ:Ev)(its:List D):Res (List D×Ev):=.ok (its,τ)
theorem bK {its:List D}:zu τ its=.ok (its,τ):=rfl
noncomputable def sH (e:IR)(τ:Ev)(its:List D):Res (List D×Ev):=.ok (ers its,frz (vars e) τ)
theorem aU {e:IR}{its:List D}:sH e τ its=.ok (ers its,frz (vars e) τ):=rfl
theorem wQ {n:IR}:kz cl (.rng1 n) τ=bnd (fX cl (.rng1 n) τ) (zu τ):=rfl
theorem wR {a b:IR}:kz cl (.rng2 a b) τ=bnd (fX cl (.rng2 a b) τ) (zu τ):=rfl
theorem wU {e:IR}:kz cl (.enm e) τ=bnd (fX cl (.enm e) τ) (sH e τ):=rfl
theorem wV {e:IR}:kz cl (.val e) τ=bnd (fX cl (.val e) τ) (sH e τ):=rfl
noncomputable def BS (body:D->Ev->Res Fl)(xs:List D):Fl->Res Fl
 | .nx τ'=>forM body xs τ'
 | .ct τ'=>forM body xs τ'
 | .bk τ'=>.ok (.nx τ')
 | .rt d=>.ok (.rt d)
 | .ri d ks vs=>.ok (.ri d ks vs)
 | .ro d o=>.ok (.ro d o)
theorem wW {body:D->Ev->Res Fl}:forM body [] τ=.ok (.nx τ):=rfl
theorem sI {body:D->Ev->Res Fl}{x:D}{xs:List D}:forM body (x::xs) τ=bnd (body x τ) (BS body xs):=rfl
theorem sJ {body:D->Ev->Res Fl}{xs:List D}:BS body xs (.nx τ)=forM body xs τ:=rfl
theorem zv {i:Nat}{d:D}:dZ (.nm i) d τ=.ok (τ.set i (some d)):=rfl
theorem BU {ts:List Tg}{ds:List D}:dZ (.tp ts) (.tup ds) τ=grd (decide (ds.length=ts.length)) (gF ts ds τ):=rfl
theorem BV {ts:List Tg}{o:Bool}{ds:List D}:dZ (.tp ts) (.lst o ds) τ=grd (decide (ds.length=ts.length)) (gF ts ds τ):=rfl
theorem wX:gF [] [] τ=.ok τ:=rfl
theorem wY {t:Tg}{ts:List Tg}{d:D}{ds:List D}:gF (t::ts) (d::ds) τ=bnd (dZ t d τ) (gF ts ds):=rfl
theorem cq {o p:Option D}:(o::τ).set 0 p=p::τ:=rfl
theorem cu {o p:Option D}{i:Nat}:(o::τ).set (i+1) p=o::τ.set i p:=rfl
theorem wZ {a b:Int}:opB .add (.int a) (.int b)=.ok (.int (a+b)):=rfl
theorem nA {a b:Str}:opB .add (.str a) (.str b)=grd (dR (a.length+b.length)) (.ok (.str (a++b))):=rfl
theorem sL {o o':Bool}{a b:List D}:opB .add (.lst o a) (.lst o' b)=grd (dR (a.length+b.length)) (.ok (.lst true (a++b))):=rfl
theorem w4 {a b:Int}:opB .sub (.int a) (.int b)=.ok (.int (a - b)):=rfl
theorem BW {a b:Int}:opB .mul (.int a) (.int b)=grd (decide (-(2 ^ 64) < a/\a < 2 ^ 64)||decide (-(2 ^ 64) < b/\b < 2 ^ 64)) (.ok (.int (a*b))):=rfl
theorem BX {a b:Int}:opB .mod (.int a) (.int b)=grd (decide (0 < b)) (.ok (.int (a % b))):=rfl
theorem x_l {o:Bool}{ds:List D}{i:Int}:fW (.lst o ds) (.int i)=(match atI ds i with|some d=>.ok d|none=>stk):=rfl
theorem x_t {ds:List D}{i:Int}:fW (.tup ds) (.int i)=(match atI ds i with|some d=>.ok d|none=>stk):=rfl
theorem x_s {z:Str}{i:Int}:fW (.str z) (.int i)=grd (dR z.length) (match atI z.cps.toList i with|some c=>.ok (.str ⟨#[c]⟩)|none=>stk):=rfl
theorem BY {o:Bool}{ds:List D}{lo hi:Option Int}:lJ (.lst o ds) lo hi=.ok (.lst true (iM ds lo hi)):=rfl
theorem BZ {z:Str}{lo hi:Option Int}:lJ (.str z) lo hi=grd (dR z.length) (.ok (.str (Txt.slice z lo hi))):=rfl
theorem tr_b {b:Bool}:dg (.bl b)=.ok b:=rfl
theorem B2 {a b:D}:opC .eq a b=eqN 40 a b:=by cases a<;>cases b<;>rfl
noncomputable def zw (r:Bool):Res Bool:=.ok !r
theorem bL {r:Bool}:zw r=.ok !r:=rfl
theorem B3 {a b:D}:opC .ne a b=bnd (eqN 40 a b) zw:=by cases a<;>cases b<;>rfl
theorem B4 {n:Nat}{a b:Int}:eqN (n+1) (.int a) (.int b)=.ok (a == b):=rfl
theorem B5 {n:Nat}{a b:Str}:eqN (n+1) (.str a) (.str b)=.ok (a == b):=rfl
theorem B6 {n:Nat}{a b:Bool}:eqN (n+1) (.bl a) (.bl b)=.ok (a == b):=rfl
theorem B7 {n:Nat}{o o':Bool}{a b:List D}:eqN (n+1) (.lst o a) (.lst o' b)=fH (eqN n) a b:=rfl
theorem B8 {f:D->D->Res Bool}:fH f [] []=.ok true:=rfl
theorem B9 {f:D->D->Res Bool}{b:D}{s:List D}:fH f [] (b::s)=.ok false:=rfl
theorem Ca {a b:Int}:opC .lt (.int a) (.int b)=.ok (decide (a < b)):=rfl
theorem Cb {a b:Int}:opC .le (.int a) (.int b)=.ok (decide (a<=b)):=rfl
theorem Cc {a b:Int}:opC .gt (.int a) (.int b)=.ok (decide (b < a)):=rfl
theorem w8 {y x:Str}:opC .in_ (.str y) (.str x)=.ok (lK x y):=rfl
theorem w9 {a:D}{o:Bool}{ds:List D}:opC .in_ a (.lst o ds)=anyN a ds:=by cases a<;>rfl
theorem sM {a:D}{o:Bool}{ds:List D}:opC .nin a (.lst o ds)=bnd (anyN a ds) zw:=by cases a<;>rfl
theorem Cd {a:D}:opC .is_ a .non=.ok (lL a):=by cases a<;>rfl
theorem n_l {o:Bool}{ds:List D}:lL (.lst o ds)=false:=rfl
theorem Ce {d:D}:anyN d []=.ok false:=rfl
noncomputable def zx (x y:Bool):Res Bool:=.ok (x||y)
theorem bM {x y:Bool}:zx x y=.ok (x||y):=rfl
noncomputable def anK (d:D)(r:List D)(x:Bool):Res Bool:=bnd (anyN d r) (zx x)
theorem cv {d:D}{r:List D}{x:Bool}:anK d r x=bnd (anyN d r) (zx x):=rfl
theorem Cf {d e:D}{r:List D}:anyN d (e::r)=bnd (eqN 40 e d) (anK d r):=rfl
theorem xa {x:Str}:fK .len [.str x]=grd (dR x.length) (.ok (.int x.length)):=rfl
theorem xb {o:Bool}{ds:List D}:fK .len [.lst o ds]=.ok (.int ds.length):=rfl
theorem sN {a b:Int}:fK .min2 [.int a,.int b]=.ok (.int (if b < a then b else a)):=rfl
theorem sO {a b:Int}:fK .max2 [.int a,.int b]=.ok (.int (if b > a then b else a)):=rfl
theorem oO {o:Bool}{ds:List D}:fK .tuple [.lst o ds]=.ok (.tup ds):=rfl
theorem mn {o:Bool}{ds:List D}:fK .list [.lst o ds]=.ok (.lst true ds):=rfl
theorem mq {o:Bool}{ks:List Key}{ds:List D}:fK .list [.dct o ks ds]=.ok (.lst true (ks.map uB)):=rfl
theorem sP (ns:List Str):eK (ns.map .str)=some ns:=by
 induction ns with
 | nil=>rfl
 | cons n ns ih=>show (eK (ns.map .str)).map (n::·)=_;rw[ih];rfl
theorem u4 (ns:List Bool):fJ (ns.map .bl)=some ns:=by
 induction ns with
 | nil=>rfl
 | cons n ns ih=>show (fJ (ns.map .bl)).map (n::·)=_;rw[ih];rfl
theorem sQ {o:Bool}{bs:List Bool}:fK .all [.lst o (bs.map .bl)]=.ok (.bl (bs.all id)):=by
 show (match fJ (bs.map .bl) with|some bs=>.ok (.bl (bs.all id))|none=>stk)=(_:Res D)
 rw[u4]
theorem u5 {x:Str}{o:Bool}{ys:List Str}(h:(ys.map (·.length)).sum+ys.length*x.length<=16777216):jF .join (.str x) [.lst o (ys.map .str)]=.ok (.str (Txt.join x ys)):=by
 show (match eK (ys.map .str) with|some ys=>grd (decide ((ys.map (fun y:Str=>y.length)).sum+ys.length*x.length<=16777216)) (.ok (.str (Txt.join x ys)))|none=>stk)=(_:Res D)
 rw[sP];show grd (decide _) _=_;rw[decide_eq_true h];rfl
theorem xc {x:Str}:gJ (.str x)=true:=rfl
theorem sR {x:Str}:gA .str (.str x)=true:=rfl
theorem sS {x:Int}:gA .int (.int x)=true:=rfl
theorem sT {x:Int}:gA .bool (.int x)=false:=rfl
theorem sU {x:List D}:gA .tuple (.tup x)=true:=rfl
theorem kf {x:Str}:gA .list (.str x)=false:=rfl
theorem kg {ds:List D}:gA .list (.tup ds)=false:=rfl
theorem kh {o:Bool}{ds:List D}:gA .list (.lst o ds)=true:=rfl
theorem ju {x:Str}:gA .tuple (.str x)=false:=rfl
theorem jv (ns:List Int):cU (ns.map .int)=true:=by rw[gI,List.all_map,List.all_eq_true];intro x _;rfl
theorem mr (ns:List Str):cU (ns.map .str)=true:=by rw[gI,List.all_map,List.all_eq_true];intro x _;rfl
theorem cH {i:Int}:er (.int i)=.int i:=by rw[er]
theorem cI {i:Str}:er (.str i)=.str i:=by rw[er]
theorem cJ {i:Bool}:er (.bl i)=.bl i:=by rw[er]
theorem cK {ds:List D}:er (.tup ds)=.tup (ers ds):=by rw[er]
theorem cL {o:Bool}{ds:List D}:er (.lst o ds)=.lst false (ers ds):=by rw[er]
theorem cw:ers []=[]:=by rw[ers]
theorem cx {d:D}{ds:List D}:ers (d::ds)=er d::ers ds:=by rw[ers]
theorem nB (ns:List Int):ers (ns.map .int)=ns.map .int:=fU (jv ns)
theorem nC (ns:List Str):ers (ns.map .str)=ns.map .str:=fU (mr ns)
theorem xg {i:Int}:dE (.int i)=true:=rfl
theorem xh {i:Str}:dE (.str i)=true:=rfl
theorem xi {ds:List D}:dE (.tup ds)=cU ds:=rfl
theorem xj {o:Bool}{ds:List D}:dE (.lst o ds)=false:=rfl
theorem sV:cU []=true:=rfl
theorem sW {d:D}{ds:List D}:cU (d::ds)=(dE d&&cU ds):=rfl
noncomputable def sX:Fl->Res D
 | .nx _=>.ok .non
 | .rt d=>.ok d
 | _=>stk
theorem run {fn:Fn}{ds:List D}(h:ds.length=fn.np):gB cl fn ds=bnd (cZ cl fn.body (ds.map some++List.replicate (fn.G.N.length - fn.np) none)) sX:=by unfold gB;rw[decide_eq_true h];rfl
theorem sY:sX (.nx τ)=.ok .non:=rfl
theorem sZ {d:D}:sX (.rt d)=.ok d:=rfl
theorem call {T:Tb}{n f:Nat}{fn:Fn}{ds:List D}(h:T f=some fn)(h0:fn.io=false):aW T (n+1) f ds=gB (aW T n) fn ds:=by show (match T f with|some fn=>(match fn.io with|false=>gB (aW T n) fn ds|true=>gN (aW T n) fn ds)|none=>stk)=_;rw[h];show (match fn.io with|false=>gB (aW T n) fn ds|true=>gN (aW T n) fn ds)=_;rw[h0]
noncomputable def ioE:Option D->Res D
 | some o=>grd (eG o) (.ok (.tup [.non,o]))
 | none=>stk
theorem cy {o:D}:ioE (some o)=grd (eG o) (.ok (.tup [.non,o])):=rfl
noncomputable def ioK:Fl->Res D
 | .ro d o=>.ok (.tup [d,o])
 | .nx τ=>ioE (bS τ 0)
 | _=>stk
theorem cz {d o:D}:ioK (.ro d o)=.ok (.tup [d,o]):=rfl
theorem xk:ioK (.nx τ)=ioE (bS τ 0):=rfl
theorem goI {T:Tb}{n f:Nat}{fn:Fn}{ds:List D}{m k:Nat}{body:List IS}(h:T f=some fn)(h0:fn.io=true)(h1:fn.np=m)(h2:fn.G.N.length=k)(h3:fn.body=body)(hl:ds.length=m) :
  aW T (n+1) f ds=bnd (cZ (aW T n) body (ds.map some++List.replicate (k - m) none)) ioK:=by
 rw[oG h h0];unfold gN;rw[decide_eq_true (show ds.length=fn.np by rw[hl,h1]),h1,h2,h3];show bnd _ _=bnd _ _;congr 1
theorem go {T:Tb}{n f:Nat}{fn:Fn}{ds:List D}{m k:Nat}{body:List IS}(h:T f=some fn)(h0:fn.io=false)(h1:fn.np=m)(h2:fn.G.N.length=k)(h3:fn.body=body)(hl:ds.length=m) :
  aW T (n+1) f ds=bnd (cZ (aW T n) body (ds.map some++List.replicate (k - m) none)) sX:=by
 rw[call h h0,run (by rw[hl,h1]),h1,h2,h3]
end
end Ev
namespace Ev
section
variable {cl:Nat->List D->Res D}{τ:Ev}
theorem line:sizeLine=16777216:=sizeLine_eq
theorem tf {a b:Int}(h1 : -18446744073709551616 < a)(h2:a < 18446744073709551616):opB .mul (.int a) (.int b)=.ok (.int (a*b)):=by rw[BW,decide_eq_true (show -(2 ^ 64) < a/\a < 2 ^ 64 from ⟨by omega,by omega⟩)];rfl
theorem xl {a b:Int}(h1:0 < b):opB .mod (.int a) (.int b)=.ok (.int (a % b)):=by rw[BX,decide_eq_true h1];rfl
theorem kO {n:Nat}(h:n<=16777216):dR n=true:=decide_eq_true (by rw[line];exact h)
theorem nD {n:Nat}(h:n < 16777216):gm n=true:=decide_eq_true (by rw[line];exact h)
theorem oP {i:Int}(h1 : -4611686018427387904<=i)(h2:i < 4611686018427387904):dU i=true:=decide_eq_true ⟨by omega,by omega⟩
theorem u6 {α β:Type}(f:α->β)(xs:List α)(i:Int):atI (xs.map f) i=(atI xs i).map f:=by
 unfold atI;rw[List.length_map];cases ixN xs.length i with
 | none=>rfl
 | some j=>exact List.getElem?_map ..
theorem gU {α:Type}{xs:List α}{i:Int}(d:α)(h0:0<=i)(h1:i < xs.length):atI xs i=some (xs.getD i.toNat d):=by
 unfold atI ixN;rw[if_pos h0,if_pos h1];show xs[i.toNat]? = _;have:i.toNat < xs.length:=by omega
 rw[List.getD_eq_getElem?_getD,List.getElem?_eq_getElem this];rfl
theorem x_i {o:Bool}{xs:List Int}{i:Int}(h0:0<=i)(h1:i < xs.length):fW (.lst o (xs.map .int)) (.int i)=.ok (.int (xs.getD i.toNat 0)):=by rw[x_l,u6,gU 0 h0 h1];rfl
theorem x_c {z:Str}{i:Int}(h0:0<=i)(h1:i < z.length)(hz:z.length<=16777216):fW (.str z) (.int i)=.ok (.str ⟨#[z.cps.toList.getD i.toNat 0]⟩):=by
 rw[x_s,kO hz];have hl:z.cps.toList.length=z.length:=by simp[Str.length]
 rw[gU 0 h0 (by rw[hl];exact h1)];rfl
theorem jw {α β:Type}(f:α->β)(xs:List α)(lo hi:Option Int):iM (xs.map f) lo hi=(iM xs lo hi).map f:=by unfold iM;rw[List.length_map,List.map_take,List.map_drop]
theorem ti {α:Type}(xs:List α){m:Int}(h:0<=m):iM xs none (some m)=xs.take m.toNat:=by
 unfold iM HT.sIx;simp only[List.drop_zero,Nat.sub_zero];rw[if_neg (by omega)];by_cases hm:m.toNat<=xs.length
 ·rw[show min m.toNat xs.length=m.toNat from Nat.min_eq_left hm]
 ·rw[show min m.toNat xs.length=xs.length from Nat.min_eq_right (by omega),List.take_length,List.take_of_length_le (by omega)]
noncomputable def fz:Bool->Option D->Option D
 | true,some d=>some (er d)
 | true,none=>none
 | false,o=>o
theorem Cg {d:D}:fz true (some d)=some (er d):=rfl
theorem Ci {o:Option D}:fz false o=o:=rfl
theorem xn {is:List Nat}{k:Nat}{o:Option D}{τ:Ev}:il is k (o::τ)=fz (is.contains k) o::il is (k+1) τ:=by show (if is.contains k then o.map er else o)::il is (k+1) τ=_;cases is.contains k<;>induction o using zO<;>rfl
theorem cM {d:D}:vars (.c d)=[]:=rfl
theorem cN {i:Nat}:vars (.v i)=[i]:=rfl
theorem bN {o:BOp}{a b:IR}:vars (.bin o a b)=vars a++vars b:=rfl
theorem bP {es:List IR}:vars (.tup es)=cF es:=rfl
theorem bQ {es:List IR}:vars (.lst es)=cF es:=rfl
theorem aV {f:Nat}{es:List IR}:vars (.call f es)=cF es:=rfl
theorem cA {f:Bi}{es:List IR}:vars (.bi f es)=cF es:=rfl
theorem bR {a i:IR}:vars (.idx a i)=vars a++vars i:=rfl
theorem cB:cF []=[]:=rfl
theorem cC {e:IR}{es:List IR}:cF (e::es)=vars e++cF es:=rfl
theorem oQ {G:Gm}{fr:List Nat}{t:Tg}{s:Sr}{i:List IR}{e:IR}:dm (.comp G fr t s i e)=true:=rfl
theorem tj {a b:IR}:dm (.bin .add a b)=true:=rfl
theorem xo {a:IR}{b c:Option IR}:dm (.sl a b c)=true:=rfl
theorem oR {es:List IR}:dm (.bi .list es)=true:=rfl
theorem tm {a i:IR}:dm (.idx a i)=false:=rfl
theorem Cj {e:IR}{o:Bool}{ds:List D}{τ:Ev}:dn e (.lst o ds) τ=cond (dm e) (cond (cU ds) (.lst true ds,τ) (.lst true (ers ds),frz (vars e) τ)) (.lst false (ers ds),frz (vars e) τ):=by
 unfold dn;rw[if_neg (show ¬ dE (.lst o ds)=true by intro z;cases z)];cases dm e
 ·exact Prod.ext (by show er (.lst o ds)=_;rw[er];rfl) rfl
 ·show (if cU ds=true then _ else _)=_;cases cU ds<;>rfl
theorem Ck {e:IR}{ds:List D}{τ:Ev}:dn e (.tup ds) τ=cond (cU ds) (.tup ds,τ) (.tup (ers ds),frz (vars e) τ):=by
 unfold dn;cases h:cU ds with
 | true=>rw[if_pos (show dE (.tup ds)=true from h)];rfl
 | false=>rw[if_neg (show ¬ dE (.tup ds)=true by intro z;rw[show dE (.tup ds)=cU ds from rfl,h] at z;cases z)];cases dm e<;>exact Prod.ext (by show er (.tup ds)=_;rw[er];rfl) rfl
theorem oS {body:D->Ev->Res Fl}(P:Nat->Ev->Prop):∀ (its:List D) (k:Nat) (τ:Ev),P k τ->(∀ (i:Nat) (x:D) (τ:Ev),its[i]? = some x->P (k+i) τ->∃ τ',body x τ=.ok (.nx τ')/\P (k+i+1) τ')->∃ τ',forM body its τ=.ok (.nx τ')/\P (k+its.length) τ'
 | [],k,τ,h,_=>⟨τ,rfl,h⟩
 | x::xs,k,τ,h,hb=>by
  obtain⟨τ1,e1,h1⟩:=hb 0 x τ rfl h;obtain⟨τ2,e2,h2⟩:=oS P xs (k+1) τ1 h1 fun i y σ hy hp=>by obtain⟨τ',e',h'⟩:=hb (i+1) y σ (by simpa using hy) (by rw[show k+(i+1)=k+1+i by omega];exact hp);exact⟨τ',e',by rw[show k+1+i+1=k+(i+1)+1 by omega];exact h'⟩
  refine⟨τ2,?_,by rw[List.length_cons,show k+(xs.length+1)=k+1+xs.length by omega];exact h2⟩;rw[sI,e1,rO,sJ,e2]
theorem gj {body:D->Ev->Res Fl}(P:Nat->Ev->Prop){its:List D}{τ:Ev}(h:P 0 τ)(hb:∀ (i:Nat)(x:D)(τ:Ev),its[i]? = some x->P i τ->∃ τ',body x τ=.ok (.nx τ')/\P (i+1) τ'):∃ τ',forM body its τ=.ok (.nx τ')/\P its.length τ':=by
 obtain⟨τ',h1,h2⟩:=oS P its 0 τ h fun i x τ hx hp=>by rw[Nat.zero_add] at hp ⊢;exact hb i x τ hx hp
 exact⟨τ',h1,by rw[Nat.zero_add] at h2;exact h2⟩
theorem dW {α β:Type}{g:D->Res (Option D)}(emb:α->D)(out:α->β)(emb':β->D):∀ (xs:List α),(∀ x∈xs,g (emb x)=.ok (some (emb' (out x))))->dv g (xs.map emb)=.ok ((xs.map out).map emb')
 | [],_=>rfl
 | x::xs,h=>by show bnd (g (emb x)) _=_;rw[h x (by simp)];show bnd (dv g (xs.map emb)) _=_;rw[dW emb out emb' xs fun y hy=>h y (List.mem_cons_of_mem _ hy)];rfl
theorem cD {α:Type}{a:α}:noX (.ok a:Res α)=.ok a:=rfl
theorem mz (a b:Int):e8 a b=((List.range (b - a).toNat).map fun k=>a+(k:Nat)).map .int:=by unfold e8;rw[List.map_map];rfl
end
end Ev
end L2
namespace L2.Ev
theorem rs0 {o:Option D}{τ:Ev}:bS (o::τ) 0=o:=rfl
theorem rss {o:Option D}{τ:Ev}{i:Nat}:bS (o::τ) (i+1)=bS τ i:=rfl
theorem rbk {α β:Type}{a:α}{f:α->Res β}:bnd (.ok a) f=f a:=rfl
theorem rfn {is:List Nat}{k:Nat}:il is k []=[]:=rfl
theorem rct {a k:Nat}{l:List Nat}:List.contains (a::l) k=((k == a)||l.contains k):=rfl
theorem rcn {k:Nat}:List.contains [] k=false:=rfl
theorem fzI {b:Bool}{i:Int}:fz b (some (.int i))=some (.int i):=by cases b<;>rfl
theorem fzS {b:Bool}{i:PySem.Str}:fz b (some (.str i))=some (.str i):=by cases b<;>rfl
theorem fzN {b:Bool}:fz b none=none:=by cases b<;>rfl
end L2.Ev
namespace L2
open PySem
theorem ev0:type_of% (And.intro (And.intro (And.intro (And.intro (And.intro (And.intro (And.intro @Ev.rO (And.intro @Ev.vX @Ev.r_c)) (And.intro @Ev.r_g (And.intro @Ev.r_v @Ev.vY))) (And.intro (And.intro @Ev.vZ (And.intro @Ev.rP @Ev.v3)) (And.intro (And.intro @Ev.oH @Ev.v5) (And.intro @Ev.Ba @Ev.v7)))) (And.intro (And.intro (And.intro @Ev.v8 (And.intro @Ev.v9 @Ev.wa)) (And.intro @Ev.wb (And.intro @Ev.Be @Ev.rT))) (And.intro (And.intro @Ev.Bf (And.intro @Ev.Bh @Ev.Bj)) (And.intro (And.intro @Ev.Bl @Ev.Bm) (And.intro @Ev.rV @Ev.Bn))))) (And.intro (And.intro (And.intro (And.intro @Ev.rW (And.intro @Ev.rX @Ev.rZ)) (And.intro @Ev.r6 (And.intro @Ev.r9 @Ev.sd))) (And.intro (And.intro @Ev.wg (And.intro @Ev.wj @Ev.se)) (And.intro (And.intro @Ev.Bp @Ev.Bq) (And.intro @Ev.sh @Ev.Bt)))) (And.intro (And.intro (And.intro @Ev.Bu (And.intro @Ev.Bv @Ev.Bw)) (And.intro (And.intro @Ev.oI @Ev.oJ) (And.intro @Ev.Bx @Ev.By))) (And.intro (And.intro @Ev.sj (And.intro @Ev.wo @Ev.wq)) (And.intro (And.intro @Ev.Bz @Ev.BA) (And.intro @Ev.BC @Ev.t_t)))))) (And.intro (And.intro (And.intro (And.intro (And.intro @Ev.o_v (And.intro @Ev.o_tup @Ev.o_lst)) (And.intro @Ev.o_ite (And.intro @Ev.o_call @Ev.o_c))) (And.intro (And.intro @Ev.o_g (And.intro @Ev.wy @Ev.wz)) (And.intro (And.intro @Ev.wA @Ev.wB) (And.intro @Ev.BD @Ev.BE)))) (And.intro (And.intro (And.intro @Ev.o_dnew (And.intro @Ev.so @Ev.su)) (And.intro @Ev.o_omk (And.intro @Ev.wC @Ev.sv))) (And.intro (And.intro @Ev.BG (And.intro @Ev.BH @Ev.oK)) (And.intro (And.intro @Ev.sx @Ev.k_i) (And.intro @Ev.k_s @Ev.k_b))))) (And.intro (And.intro (And.intro (And.intro @Ev.k_n (And.intro @Ev.st_asg @Ev.sy)) (And.intro @Ev.sA (And.intro @Ev.st_dsetx @Ev.st_app))) (And.intro (And.intro @Ev.st_exp (And.intro @Ev.st_ret @Ev.st_if)) (And.intro (And.intro @Ev.st_for @Ev.st_while) (And.intro @Ev.st_oset @Ev.st_oapp)))) (And.intro (And.intro (And.intro @Ev.st_oget (And.intro @Ev.sD @Ev.st_mio)) (And.intro (And.intro @Ev.st_rmio @Ev.st_reto) (And.intro @Ev.st_foro @Ev.u0))) (And.intro (And.intro @Ev.zq (And.intro @Ev.BP @Ev.BQ)) (And.intro (And.intro @Ev.zr @Ev.sF) (And.intro @Ev.sG @Ev.BR))))))) (And.intro (And.intro (And.intro (And.intro (And.intro (And.intro @Ev.zt (And.intro @Ev.oM @Ev.wN)) (And.intro @Ev.wO (And.intro @Ev.wQ @Ev.wR))) (And.intro (And.intro @Ev.wU (And.intro @Ev.wV @Ev.wW)) (And.intro (And.intro @Ev.sI @Ev.sJ) (And.intro @Ev.zv @Ev.BU)))) (And.intro (And.intro (And.intro @Ev.BV (And.intro @Ev.wX @Ev.wY)) (And.intro @Ev.wZ (And.intro @Ev.nA @Ev.sL))) (And.intro (And.intro @Ev.w4 (And.intro @Ev.x_t @Ev.BY)) (And.intro (And.intro @Ev.BZ @Ev.tr_b) (And.intro @Ev.B2 @Ev.B3))))) (And.intro (And.intro (And.intro (And.intro @Ev.B4 (And.intro @Ev.B5 @Ev.B6)) (And.intro @Ev.B7 (And.intro @Ev.B8 @Ev.B9))) (And.intro (And.intro @Ev.Ca (And.intro @Ev.Cb @Ev.Cc)) (And.intro (And.intro @Ev.w8 @Ev.w9) (And.intro @Ev.sM @Ev.Cd)))) (And.intro (And.intro (And.intro @Ev.n_l (And.intro @Ev.Ce @Ev.Cf)) (And.intro (And.intro @Ev.xa @Ev.xb) (And.intro @Ev.sN @Ev.sO))) (And.intro (And.intro @Ev.oO (And.intro @Ev.mn @Ev.mq)) (And.intro (And.intro @Ev.sQ @Ev.xc) (And.intro @Ev.sR @Ev.sS)))))) (And.intro (And.intro (And.intro (And.intro (And.intro @Ev.sT (And.intro @Ev.sU @Ev.kf)) (And.intro @Ev.kg (And.intro @Ev.kh @Ev.ju))) (And.intro (And.intro @Ev.nB (And.intro @Ev.nC @Ev.xg)) (And.intro (And.intro @Ev.xh @Ev.xi) (And.intro @Ev.xj @Ev.sV)))) (And.intro (And.intro (And.intro @Ev.sW (And.intro @Ev.sY @Ev.sZ)) (And.intro (And.intro @Ev.xk @Ev.tf) (And.intro @Ev.xl @Ev.kO))) (And.intro (And.intro @Ev.nD (And.intro @Ev.oP @Ev.x_i)) (And.intro (And.intro @Ev.x_c @Ev.Cg) (And.intro @Ev.Ci @Ev.xn))))) (And.intro (And.intro (And.intro (And.intro @Ev.oQ (And.intro @Ev.tj @Ev.xo)) (And.intro @Ev.oR (And.intro @Ev.tm @Ev.Cj))) (And.intro (And.intro @Ev.Ck (And.intro @Ev.jv @Ev.mr)) (And.intro (And.intro @Bool.or_false @Bool.or_true) (And.intro @List.replicate_succ.{0} @List.replicate_zero.{0})))) (And.intro (And.intro (And.intro @List.length_cons.{0} (And.intro @List.length_nil.{0} @Nat.zero_add)) (And.intro (And.intro @decide_true @Bool.and_self) (And.intro @Bool.not_true @Bool.not_false))) (And.intro (And.intro @Bool.and_true (And.intro @Bool.true_and @Bool.and_false)) (And.intro (And.intro @beq_self_eq_true.{0} @if_true.{1}) (And.intro @if_false.{1} @Bool.false_eq_true)))))))):=⟨⟨⟨⟨⟨⟨⟨@Ev.rO,⟨@Ev.vX,@Ev.r_c⟩⟩,⟨@Ev.r_g,⟨@Ev.r_v,@Ev.vY⟩⟩⟩,⟨⟨@Ev.vZ,⟨@Ev.rP,@Ev.v3⟩⟩,⟨⟨@Ev.oH,@Ev.v5⟩,⟨@Ev.Ba,@Ev.v7⟩⟩⟩⟩,⟨⟨⟨@Ev.v8,⟨@Ev.v9,@Ev.wa⟩⟩,⟨@Ev.wb,⟨@Ev.Be,@Ev.rT⟩⟩⟩,⟨⟨@Ev.Bf,⟨@Ev.Bh,@Ev.Bj⟩⟩,⟨⟨@Ev.Bl,@Ev.Bm⟩,⟨@Ev.rV,@Ev.Bn⟩⟩⟩⟩⟩,⟨⟨⟨⟨@Ev.rW,⟨@Ev.rX,@Ev.rZ⟩⟩,⟨@Ev.r6,⟨@Ev.r9,@Ev.sd⟩⟩⟩,⟨⟨@Ev.wg,⟨@Ev.wj,@Ev.se⟩⟩,⟨⟨@Ev.Bp,@Ev.Bq⟩,⟨@Ev.sh,@Ev.Bt⟩⟩⟩⟩,⟨⟨⟨@Ev.Bu,⟨@Ev.Bv,@Ev.Bw⟩⟩,⟨⟨@Ev.oI,@Ev.oJ⟩,⟨@Ev.Bx,@Ev.By⟩⟩⟩,⟨⟨@Ev.sj,⟨@Ev.wo,@Ev.wq⟩⟩,⟨⟨@Ev.Bz,@Ev.BA⟩,⟨@Ev.BC,@Ev.t_t⟩⟩⟩⟩⟩⟩,⟨⟨⟨⟨⟨@Ev.o_v,⟨@Ev.o_tup,@Ev.o_lst⟩⟩,⟨@Ev.o_ite,⟨@Ev.o_call,@Ev.o_c⟩⟩⟩,⟨⟨@Ev.o_g,⟨@Ev.wy,@Ev.wz⟩⟩,⟨⟨@Ev.wA,@Ev.wB⟩,⟨@Ev.BD,@Ev.BE⟩⟩⟩⟩,⟨⟨⟨@Ev.o_dnew,⟨@Ev.so,@Ev.su⟩⟩,⟨@Ev.o_omk,⟨@Ev.wC,@Ev.sv⟩⟩⟩,⟨⟨@Ev.BG,⟨@Ev.BH,@Ev.oK⟩⟩,⟨⟨@Ev.sx,@Ev.k_i⟩,⟨@Ev.k_s,@Ev.k_b⟩⟩⟩⟩⟩,⟨⟨⟨⟨@Ev.k_n,⟨@Ev.st_asg,@Ev.sy⟩⟩,⟨@Ev.sA,⟨@Ev.st_dsetx,@Ev.st_app⟩⟩⟩,⟨⟨@Ev.st_exp,⟨@Ev.st_ret,@Ev.st_if⟩⟩,⟨⟨@Ev.st_for,@Ev.st_while⟩,⟨@Ev.st_oset,@Ev.st_oapp⟩⟩⟩⟩,⟨⟨⟨@Ev.st_oget,⟨@Ev.sD,@Ev.st_mio⟩⟩,⟨⟨@Ev.st_rmio,@Ev.st_reto⟩,⟨@Ev.st_foro,@Ev.u0⟩⟩⟩,⟨⟨@Ev.zq,⟨@Ev.BP,@Ev.BQ⟩⟩,⟨⟨@Ev.zr,@Ev.sF⟩,⟨@Ev.sG,@Ev.BR⟩⟩⟩⟩⟩⟩⟩,⟨⟨⟨⟨⟨⟨@Ev.zt,⟨@Ev.oM,@Ev.wN⟩⟩,⟨@Ev.wO,⟨@Ev.wQ,@Ev.wR⟩⟩⟩,⟨⟨@Ev.wU,⟨@Ev.wV,@Ev.wW⟩⟩,⟨⟨@Ev.sI,@Ev.sJ⟩,⟨@Ev.zv,@Ev.BU⟩⟩⟩⟩,⟨⟨⟨@Ev.BV,⟨@Ev.wX,@Ev.wY⟩⟩,⟨@Ev.wZ,⟨@Ev.nA,@Ev.sL⟩⟩⟩,⟨⟨@Ev.w4,⟨@Ev.x_t,@Ev.BY⟩⟩,⟨⟨@Ev.BZ,@Ev.tr_b⟩,⟨@Ev.B2,@Ev.B3⟩⟩⟩⟩⟩,⟨⟨⟨⟨@Ev.B4,⟨@Ev.B5,@Ev.B6⟩⟩,⟨@Ev.B7,⟨@Ev.B8,@Ev.B9⟩⟩⟩,⟨⟨@Ev.Ca,⟨@Ev.Cb,@Ev.Cc⟩⟩,⟨⟨@Ev.w8,@Ev.w9⟩,⟨@Ev.sM,@Ev.Cd⟩⟩⟩⟩,⟨⟨⟨@Ev.n_l,⟨@Ev.Ce,@Ev.Cf⟩⟩,⟨⟨@Ev.xa,@Ev.xb⟩,⟨@Ev.sN,@Ev.sO⟩⟩⟩,⟨⟨@Ev.oO,⟨@Ev.mn,@Ev.mq⟩⟩,⟨⟨@Ev.sQ,@Ev.xc⟩,⟨@Ev.sR,@Ev.sS⟩⟩⟩⟩⟩⟩,⟨⟨⟨⟨⟨@Ev.sT,⟨@Ev.sU,@Ev.kf⟩⟩,⟨@Ev.kg,⟨@Ev.kh,@Ev.ju⟩⟩⟩,⟨⟨@Ev.nB,⟨@Ev.nC,@Ev.xg⟩⟩,⟨⟨@Ev.xh,@Ev.xi⟩,⟨@Ev.xj,@Ev.sV⟩⟩⟩⟩,⟨⟨⟨@Ev.sW,⟨@Ev.sY,@Ev.sZ⟩⟩,⟨⟨@Ev.xk,@Ev.tf⟩,⟨@Ev.xl,@Ev.kO⟩⟩⟩,⟨⟨@Ev.nD,⟨@Ev.oP,@Ev.x_i⟩⟩,⟨⟨@Ev.x_c,@Ev.Cg⟩,⟨@Ev.Ci,@Ev.xn⟩⟩⟩⟩⟩,⟨⟨⟨⟨@Ev.oQ,⟨@Ev.tj,@Ev.xo⟩⟩,⟨@Ev.oR,⟨@Ev.tm,@Ev.Cj⟩⟩⟩,⟨⟨@Ev.Ck,⟨@Ev.jv,@Ev.mr⟩⟩,⟨⟨@Bool.or_false,@Bool.or_true⟩,⟨@List.replicate_succ.{0},@List.replicate_zero.{0}⟩⟩⟩⟩,⟨⟨⟨@List.length_cons.{0},⟨@List.length_nil.{0},@Nat.zero_add⟩⟩,⟨⟨@decide_true,@Bool.and_self⟩,⟨@Bool.not_true,@Bool.not_false⟩⟩⟩,⟨⟨@Bool.and_true,⟨@Bool.true_and,@Bool.and_false⟩⟩,⟨⟨@beq_self_eq_true.{0},@if_true.{1}⟩,⟨@if_false.{1},@Bool.false_eq_true⟩⟩⟩⟩⟩⟩⟩⟩
namespace Fr
end Fr
end L2
namespace Law
open PySem L2
noncomputable def top (i:Nat):Stmt:=PySem.Challenge.pw_flagroll_k75_whole_seen_in_time.main.body.getD i (.Pass ⟨0,0,0,0⟩)
noncomputable def mst (i j:Nat):Stmt:=match top i with
 | .ClassDef _ _ _ b _ _ _ _ _ _ _=>b.getD j (.Pass ⟨0,0,0,0⟩)
 | s=>s
noncomputable def Z:Sg:={nm:=(["LETTERS","PLACES","SALT_LENGTH","DEEDS","DEEDS_ON_A_SWITCH","is_whole","is_text_of","own_copy","check_salt","allot_new","switch_checked","check_new","check_switch_there","check_groups","check_holdouts","check_switches","tied_names","check_rings","house_checked","names_of","check_deed","pairs_with","new_entry","entry_after","switches_after"]:List Str)++(["house_after","check_parents","depths_by_machine","_law_by","_law_many","_law_names","_law_salt","_law_whole","_law_parents","_law_lost","_law_way","_law_seen","_law_looked","law","Book.__init__","Book.change","Book.moment","Tree.__init__","Tree.check_machine","Tree.change","Tree.turn","Tree.moment_of","Book","Tree"]:List Str),kst:=[(21,(.str "abcdefghijklmnopqrstuvwxyz")),(22,(.int 10007)),(23,(.int 12)),(24,(.tup [(.str "group"),(.str "put"),(.str "rules"),(.str "needs"),(.str "shares"),(.str "stop"),(.str "go"),(.str "hold"),(.str "free"),(.str "drop")])),(25,(.tup [(.str "rules"),(.str "needs"),(.str "shares"),(.str "stop"),(.str "go"),(.str "drop")]))],fns:=[26,27,28,29,30,31,32,33,34,35,36,37,38,39,40,41,42,43,44,45,46,47,48,49,50,51,52,53,54,55,56,57,58,59],cls:=[],xt:=[],pl:=[],rc:=[],xm:=[],fio:=[(61,"Book","change"),(65,"Tree","change"),(66,"Tree","turn")],oms:=[(62,"Book","moment"),(64,"Tree","check_machine"),(67,"Tree","moment_of")],omk:=[(68,"Book",60),(69,"Tree",63)],ocs:=["Book","Tree"],ofs:=["deeds","houses","parents","depths","book","moments"]}
noncomputable def b26:List IS:=
 [(.ret (.and_ (.isi (.v 0) .int) (.not_ (.isi (.v 0) .bool))))]
noncomputable def d26:Fn:={np:=1,G:={N:=["thing"],kd:=[.local],gl:=[14,8,16],df:=true},body:=b26}
noncomputable def b27:List IS:=
 [(.if_ (.not_ (.isi (.v 0) .str)) [(.ret (.c (.bl false)))] []),(.if_ (.not_ (.chain .le .le (.v 2) (.bi .len [(.v 0)]) (.v 3))) [(.ret (.c (.bl false)))] []),(.ret (.bi .all [(.comp {N:=["signs","sign"],kd:=[.cell,.local],gl:=[],df:=false} [1] (.nm 1) (.val (.v 0)) [] (.cmp .in_ (.v 1) (.v 0)))]))]
noncomputable def d27:Fn:={np:=4,G:={N:=["thing","signs","least","most"],kd:=[.local,.cell,.local,.local],gl:=[14,11,0,9],df:=true},body:=b27}
noncomputable def b28:List IS:=
 [(.if_ (.isi (.v 0) .list) [(.ret (.comp {N:=["part"],kd:=[.local],gl:=[28],df:=false} [] (.nm 0) (.val (.v 0)) [] (.call 28 [(.v 0)])))] []),(.if_ (.isi (.v 0) .tuple) [(.ret (.bi .tuple [(.comp {N:=["part"],kd:=[.local],gl:=[28],df:=false} [] (.nm 0) (.val (.v 0)) [] (.call 28 [(.v 0)]))]))] []),(.ret (.v 0))]
noncomputable def d28:Fn:={np:=1,G:={N:=["thing"],kd:=[.local],gl:=[14,5,6],df:=true},body:=b28}
noncomputable def b29:List IS:=
 [(.if_ (.not_ (.call 27 [(.v 0),(.g 21 (.str "abcdefghijklmnopqrstuvwxyz")),(.c (.int 1)),(.g 23 (.int 12))])) [.never] [])]
noncomputable def d29:Fn:={np:=1,G:={N:=["salt"],kd:=[.local],gl:=[27,21,23],df:=true},body:=b29}
noncomputable def b30:List IS:=
 [(.if_ (.cmp .lt (.lset (.v 0)) (.bi .len [(.v 0)])) [.never] []),(.ret (.tup [(.comp {N:=["face"],kd:=[.local],gl:=[],df:=false} [] (.nm 0) (.val (.v 0)) [] (.tup [(.v 0),(.lst [])])),(.lst [(.tup [(.c (.int 0)),(.g 22 (.int 10007))])])]))]
noncomputable def d30:Fn:={np:=1,G:={N:=["faces"],kd:=[.local],gl:=[0,12,22],df:=true},body:=b30}
noncomputable def b31:List IS:=
 [(.exp (.call 29 [(.idx (.v 1) (.c (.int 0)))])),(.for_ (.tp [(.nm 2),(.nm 3)]) (.val (.idx (.v 1) (.c (.int 2)))) [.never,.never]),(.ret (.c (.bl true)))]
noncomputable def d31:Fn:={np:=2,G:={N:=["names","switch","conds","outcome","cond"],kd:=[.local,.local,.local,.local,.local],gl:=[29],df:=true},body:=b31}
noncomputable def b32:List IS:=
 [(.if_ (.cmp .in_ (.v 0) (.v 1)) [.never] [])]
noncomputable def d32:Fn:={np:=2,G:={N:=["name","names_ahead"],kd:=[.local,.local],gl:=[],df:=true},body:=b32}
noncomputable def b33:List IS:=
 [(.if_ (.cmp .nin (.v 0) (.v 1)) [.never] [])]
noncomputable def d33:Fn:={np:=2,G:={N:=["name","names"],kd:=[.local,.local],gl:=[],df:=true},body:=b33}
noncomputable def b34:List IS:=
 [(.asg (.nm 1) (.lst [])),(.for_ (.tp [(.nm 2),(.nm 3)]) (.val (.v 0)) [.never,.never,.never])]
noncomputable def d34:Fn:={np:=1,G:={N:=["groups","names_ahead","name","rows","row","cond"],kd:=[.local,.local,.local,.local,.local,.local],gl:=[],df:=true},body:=b34}
noncomputable def b35:List IS:=
 [(.asg (.nm 2) (.lst [])),(.for_ (.tp [(.nm 3),(.nm 4),(.nm 5),(.nm 6)]) (.val (.v 0)) [.never,.never,.never,.never,.never,.never])]
noncomputable def d35:Fn:={np:=2,G:={N:=["holdouts","switch_names","names_ahead","name","salt","places","names","told_names","told_name"],kd:=[.local,.local,.local,.local,.local,.local,.local,.local,.local],gl:=[],df:=true},body:=b35}
noncomputable def b36:List IS:=
 [(.asg (.nm 3) (.lst [])),(.for_ (.tp [(.nm 4),(.nm 5)]) (.val (.v 0)) [(.exp (.call 32 [(.v 4),(.v 3)])),(.app 3 (.v 4)),(.exp (.call 31 [(.v 1),(.idx (.v 5) (.c (.int 0)))])),(.for_ (.tp [(.nm 6),(.nm 7)]) (.val (.idx (.v 5) (.c (.int 1)))) [.never])])]
noncomputable def d36:Fn:={np:=3,G:={N:=["switches","group_names","switch_names","names_ahead","name","entry","needed","face"],kd:=[.local,.local,.local,.local,.local,.local,.local,.local],gl:=[32,31],df:=true},body:=b36}
noncomputable def b37:List IS:=
 [(.asg (.nm 1) (.bi .list [(.v 0)])),(.while_ (.c (.bl true)) [(.asg (.nm 2) (.comp {N:=["needs","tied","name"],kd:=[.cell,.cell,.local],gl:=[10],df:=false} [0,1] (.nm 2) (.val (.v 1)) [(.bi .any [(.comp {N:=["tied","needed"],kd:=[.cell,.local],gl:=[],df:=false} [1] (.nm 1) (.val (.dget (.v 0) (.v 2))) [] (.cmp .in_ (.v 1) (.v 0)))])] (.v 2))),(.if_ (.cmp .eq (.v 2) (.v 1)) [(.ret (.v 1))] []),(.asg (.nm 1) (.v 2))])]
noncomputable def d37:Fn:={np:=1,G:={N:=["needs","tied","left"],kd:=[.cell,.cell,.local],gl:=[5],df:=true},body:=b37}
noncomputable def b38:List IS:=
 [(.asg (.nm 1) .dnew),(.for_ (.tp [(.nm 2),(.nm 3)]) (.val (.v 0)) [(.dsetx 1 (.v 2) (.comp {N:=["needed","face"],kd:=[.local,.local],gl:=[],df:=false} [] (.tp [(.nm 0),(.nm 1)]) (.val (.idx (.v 3) (.c (.int 1)))) [] (.v 0)))]),(.asg (.nm 4) (.call 37 [(.v 1)])),(.if_ (.cmp .ne (.v 4) (.lst [])) [.never] [])]
noncomputable def d38:Fn:={np:=1,G:={N:=["switches","needs","name","entry","tied"],kd:=[.local,.local,.local,.local,.local],gl:=[37],df:=true},body:=b38}
noncomputable def b39:List IS:=
 [(.asg (.nm 1) (.comp {N:=["name","entry"],kd:=[.local,.local],gl:=[],df:=false} [] (.tp [(.nm 0),(.nm 1)]) (.val (.idx (.v 0) (.c (.int 2)))) [] (.v 0))),(.exp (.call 34 [(.idx (.v 0) (.c (.int 0)))])),(.exp (.call 35 [(.idx (.v 0) (.c (.int 1))),(.v 1)])),(.exp (.call 36 [(.idx (.v 0) (.c (.int 2))),(.comp {N:=["name","rows"],kd:=[.local,.local],gl:=[],df:=false} [] (.tp [(.nm 0),(.nm 1)]) (.val (.idx (.v 0) (.c (.int 0)))) [] (.v 0)),(.v 1)])),(.exp (.call 38 [(.idx (.v 0) (.c (.int 2)))])),(.ret (.c (.bl true)))]
noncomputable def d39:Fn:={np:=1,G:={N:=["house","switch_names"],kd:=[.local,.local],gl:=[34,35,36,38],df:=true},body:=b39}
noncomputable def b40:List IS:=
 [(.ret (.comp {N:=["row"],kd:=[.local],gl:=[],df:=false} [] (.nm 0) (.val (.v 0)) [] (.idx (.v 0) (.c (.int 0)))))]
noncomputable def d40:Fn:={np:=1,G:={N:=["rows"],kd:=[.local],gl:=[],df:=true},body:=b40}
noncomputable def b41:List IS:=
 [(.asg (.nm 2) (.idx (.v 1) (.c (.int 0)))),(.if_ (.cmp .nin (.v 2) (.g 24 (.tup [(.str "group"),(.str "put"),(.str "rules"),(.str "needs"),(.str "shares"),(.str "stop"),(.str "go"),(.str "hold"),(.str "free"),(.str "drop")]))) [.never] []),(.asg (.nm 3) (.idx (.v 1) (.c (.int 1)))),(.if_ (.cmp .eq (.v 2) (.c (.str "put"))) [(.exp (.call 32 [(.v 3),(.call 40 [(.idx (.v 0) (.c (.int 2)))])]))] []),(.if_ (.cmp .eq (.v 2) (.c (.str "hold"))) [.never] []),(.if_ (.cmp .in_ (.v 2) (.g 25 (.tup [(.str "rules"),(.str "needs"),(.str "shares"),(.str "stop"),(.str "go"),(.str "drop")]))) [(.exp (.call 33 [(.v 3),(.call 40 [(.idx (.v 0) (.c (.int 2)))])]))] []),(.if_ (.and_ (.cmp .eq (.v 2) (.c (.str "free"))) (.cmp .nin (.v 3) (.call 40 [(.idx (.v 0) (.c (.int 1)))]))) [.never] [])]
noncomputable def d41:Fn:={np:=2,G:={N:=["house","deed","word","name"],kd:=[.local,.local,.local,.local],gl:=[24,32,40,25,33],df:=true},body:=b41}
noncomputable def b42:List IS:=
 [(.if_ (.cmp .nin (.v 1) (.call 40 [(.v 0)])) [.never] []),(.ret (.comp {N:=["name","value","pair"],kd:=[.cell,.cell,.local],gl:=[],df:=false} [1,2] (.nm 2) (.val (.v 0)) [] (.ite (.cmp .eq (.idx (.v 2) (.c (.int 0))) (.v 0)) (.tup [(.idx (.v 2) (.c (.int 0))),(.v 1)]) (.v 2))))]
noncomputable def d42:Fn:={np:=3,G:={N:=["pairs","name","value"],kd:=[.local,.cell,.cell],gl:=[40],df:=true},body:=b42}
noncomputable def b43:List IS:=
 [(.ret (.tup [(.tup [(.v 0),(.v 1),(.lst []),(.call 30 [(.v 2)])]),(.lst []),(.c (.bl false))]))]
noncomputable def d43:Fn:={np:=3,G:={N:=["salt","rest","faces"],kd:=[.local,.local,.local],gl:=[30],df:=true},body:=b43}
noncomputable def b44:List IS:=
 [(.asg (.nm 2) (.idx (.v 0) (.c (.int 0)))),(.asg (.nm 3) (.idx (.v 1) (.c (.int 0)))),(.if_ (.cmp .eq (.v 3) (.c (.str "rules"))) [.never] []),(.if_ (.cmp .eq (.v 3) (.c (.str "shares"))) [.never] []),(.if_ (.cmp .eq (.v 3) (.c (.str "needs"))) [.never] []),(.ret (.tup [(.v 2),(.idx (.v 0) (.c (.int 1))),(.cmp .eq (.v 3) (.c (.str "stop")))]))]
noncomputable def d44:Fn:={np:=2,G:={N:=["entry","deed","switch","word"],kd:=[.local,.local,.local,.local],gl:=[],df:=true},body:=b44}
noncomputable def b45:List IS:=
 [(.asg (.nm 2) (.idx (.v 1) (.c (.int 1)))),(.if_ (.cmp .eq (.idx (.v 1) (.c (.int 0))) (.c (.str "put"))) [(.ret (.bin .add (.v 0) (.lst [(.tup [(.v 2),(.call 43 [(.idx (.v 1) (.c (.int 2))),(.idx (.v 1) (.c (.int 3))),(.idx (.v 1) (.c (.int 4)))])])])))] []),(.if_ (.cmp .eq (.idx (.v 1) (.c (.int 0))) (.c (.str "drop"))) [.never] []),(.ret (.call 42 [(.v 0),(.v 2),(.call 44 [(.dget (.dofr (.v 0)) (.v 2)),(.v 1)])]))]
noncomputable def d45:Fn:={np:=2,G:={N:=["switches","deed","name"],kd:=[.local,.local,.local],gl:=[43,42,44,19],df:=true},body:=b45}
noncomputable def b46:List IS:=
 [(.asg (.nm 2) (.idx (.v 1) (.c (.int 0)))),(.if_ (.cmp .eq (.v 2) (.c (.str "group"))) [.never] []),(.if_ (.cmp .eq (.v 2) (.c (.str "hold"))) [.never] []),(.if_ (.cmp .eq (.v 2) (.c (.str "free"))) [.never] []),(.ret (.tup [(.idx (.v 0) (.c (.int 0))),(.idx (.v 0) (.c (.int 1))),(.call 45 [(.idx (.v 0) (.c (.int 2))),(.v 1)])]))]
noncomputable def d46:Fn:={np:=2,G:={N:=["house","deed","word"],kd:=[.local,.local,.local],gl:=[45],df:=true},body:=b46}
noncomputable def b47:List IS:=
 [(.for_ (.tp [(.nm 1),(.nm 2)]) (.enm (.v 0)) [(.if_ (.or_ (.not_ (.call 26 [(.v 2)])) (.or_ (.cmp .lt (.v 2) (.c (.int 0))) (.cmp .gt (.v 2) (.v 1)))) [.never] [])])]
noncomputable def d47:Fn:={np:=1,G:={N:=["parents","place","parent"],kd:=[.local,.local,.local],gl:=[20,26],df:=true},body:=b47}
noncomputable def b48:List IS:=
 [(.asg (.nm 1) (.lst [(.c (.int 0))])),(.for_ (.nm 2) (.val (.v 0)) [(.app 1 (.bin .add (.idx (.v 1) (.v 2)) (.c (.int 1))))]),(.ret (.v 1))]
noncomputable def d48:Fn:={np:=1,G:={N:=["parents","depths","parent"],kd:=[.local,.local,.local],gl:=[],df:=true},body:=b48}
noncomputable def b49:List IS:=
 [(.asg (.nm 3) (.c (.int 0))),(.if_ (.cmp .gt (.bi .len [(.v 0)]) (.c (.int 0))) [(.asg (.nm 3) (.bin .mod (.idx (.v 0) (.bin .mod (.v 1) (.bi .len [(.v 0)]))) (.c (.int 999983))))] []),(.asg (.nm 4) (.bin .mod (.bin .mul (.bin .add (.bin .add (.v 3) (.bin .mul (.c (.int 17)) (.v 1))) (.c (.int 5))) (.bin .add (.c (.int 48271)) (.bin .mul (.bin .mul (.c (.int 613)) (.v 1)) (.v 1)))) (.c (.int 999983)))),(.ret (.bin .mod (.bin .mod (.bin .mul (.v 4) (.bin .add (.c (.int 16807)) (.bin .mul (.c (.int 271)) (.v 1)))) (.c (.int 1000003))) (.v 2)))]
noncomputable def d49:Fn:={np:=3,G:={N:=["_law_script","_law_k","_law_many_here","_law_cell","_law_mixed"],kd:=[.local,.local,.local,.local,.local],gl:=[0],df:=true},body:=b49}
noncomputable def b50:List IS:=
 [(.ret (.bi .max2 [(.bi .min2 [(.bi .len [(.v 0)]),(.v 1)]),(.call 49 [(.v 0),(.c (.int 98)),(.bin .add (.v 1) (.c (.int 1)))])]))]
noncomputable def d50:Fn:={np:=2,G:={N:=["_law_script","_law_most"],kd:=[.local,.local],gl:=[3,2,0,49],df:=true},body:=b50}
noncomputable def b51:List IS:=
 [(.asg (.nm 3) (.c (.str "abcdefghijklmnopqrstuvwxyz"))),(.asg (.nm 4) (.mth .join (.c (.str "")) [(.comp {N:=["_law_letters","_law_script","_law_k","_law_j"],kd:=[.cell,.cell,.cell,.local],gl:=[49],df:=false} [3,0,1] (.nm 3) (.rng1 (.c (.int 8))) [] (.idx (.v 0) (.call 49 [(.v 1),(.bin .add (.v 2) (.v 3)),(.c (.int 26))])))])),(.asg (.nm 5) (.call 49 [(.v 0),(.bin .add (.v 1) (.c (.int 8))),(.v 2)])),(.asg (.nm 6) (.comp {N:=["_law_word","_law_j"],kd:=[.cell,.local],gl:=[],df:=false} [4] (.nm 1) (.rng1 (.v 2)) [] (.sl (.v 0) none (some (.bin .add (.v 1) (.c (.int 1))))))),(.if_ (.cmp .eq (.call 49 [(.v 0),(.bin .add (.v 1) (.c (.int 9))),(.c (.int 2))]) (.c (.int 0))) [(.asg (.nm 7) (.bin .add (.c (.int 1)) (.call 49 [(.v 0),(.bin .add (.v 1) (.c (.int 10))),(.c (.int 8))]))),(.asg (.nm 8) (.call 49 [(.v 0),(.bin .add (.v 1) (.c (.int 11))),(.v 7)])),(.asg (.nm 9) (.comp {N:=["_law_letters","_law_script","_law_k","_law_j"],kd:=[.cell,.cell,.cell,.local],gl:=[49],df:=false} [3,0,1] (.nm 3) (.rng1 (.v 2)) [] (.idx (.v 0) (.bin .mod (.bin .add (.call 49 [(.v 1),(.bin .add (.v 2) (.c (.int 12))),(.c (.int 26))]) (.bin .mul (.c (.int 7)) (.v 3))) (.c (.int 26)))))),(.asg (.nm 6) (.comp {N:=["_law_word","_law_place","_law_size","_law_sign"],kd:=[.cell,.cell,.cell,.local],gl:=[],df:=false} [4,8,7] (.nm 3) (.val (.v 9)) [] (.bin .add (.bin .add (.sl (.v 0) none (some (.v 1))) (.v 3)) (.sl (.v 0) (some (.bin .add (.v 1) (.c (.int 1)))) (some (.v 2))))))] []),(.ret (.bin .add (.sl (.v 6) (some (.v 5)) none) (.sl (.v 6) none (some (.v 5)))))]
noncomputable def d51:Fn:={np:=3,G:={N:=["_law_script","_law_k","_law_count","_law_letters","_law_word","_law_turn","_law_names_here","_law_size","_law_place","_law_signs"],kd:=[.cell,.cell,.local,.cell,.cell,.local,.local,.cell,.cell,.local],gl:=[15,49],df:=true},body:=b51}
noncomputable def b52:List IS:=
 [(.asg (.nm 2) (.c (.str "abcdefghijklmnopqrstuvwxyz"))),(.ret (.mth .join (.c (.str "")) [(.comp {N:=["_law_letters","_law_script","_law_k","_law_j"],kd:=[.cell,.cell,.cell,.local],gl:=[49],df:=false} [2,0,1] (.nm 3) (.rng1 (.bin .add (.c (.int 1)) (.call 49 [(.v 0),(.bin .add (.v 1) (.c (.int 13))),(.c (.int 12))]))) [] (.idx (.v 0) (.call 49 [(.v 1),(.bin .add (.v 2) (.v 3)),(.c (.int 26))])))]))]
noncomputable def d52:Fn:={np:=2,G:={N:=["_law_script","_law_k","_law_letters"],kd:=[.cell,.cell,.cell],gl:=[15,49],df:=true},body:=b52}
noncomputable def b53:List IS:=
 [(.ret (.and_ (.isi (.v 0) .int) (.not_ (.isi (.v 0) .bool))))]
noncomputable def d53:Fn:={np:=1,G:={N:=["_law_thing"],kd:=[.local],gl:=[14,8,16],df:=true},body:=b53}
noncomputable def b54:List IS:=
 [(.ret (.comp {N:=["_law_script","_law_j"],kd:=[.cell,.local],gl:=[49],df:=false} [0] (.nm 1) (.rng1 (.idx (.lst [(.c (.int 3)),(.c (.int 6)),(.c (.int 0)),(.c (.int 1)),(.c (.int 2)),(.c (.int 9))]) (.call 49 [(.v 0),(.c (.int 309)),(.c (.int 6))]))) [] (.call 49 [(.v 0),(.bin .add (.c (.int 310)) (.v 1)),(.bin .add (.v 1) (.c (.int 1)))])))]
noncomputable def d54:Fn:={np:=1,G:={N:=["_law_script"],kd:=[.cell],gl:=[15,49],df:=true},body:=b54}
noncomputable def b55:List IS:=
 [(.ret (.comp {N:=["_law_script","_law_k","_law_machine"],kd:=[.cell,.cell,.local],gl:=[49],df:=false} [0,1] (.nm 2) (.rng2 (.c (.int 1)) (.bin .add (.v 2) (.c (.int 1)))) [(.cmp .eq (.call 49 [(.v 0),(.bin .add (.v 1) (.v 2)),(.c (.int 3))]) (.c (.int 0)))] (.v 2)))]
noncomputable def d55:Fn:={np:=3,G:={N:=["_law_script","_law_k","_law_many_here"],kd:=[.cell,.cell,.local],gl:=[15],df:=true},body:=b55}
noncomputable def b56:List IS:=
 [(.asg (.nm 2) (.lst [])),(.while_ (.cmp .gt (.v 1) (.c (.int 0))) [(.app 2 (.v 1)),(.asg (.nm 1) (.idx (.v 0) (.bin .sub (.v 1) (.c (.int 1)))))]),(.ret (.v 2))]
noncomputable def d56:Fn:={np:=2,G:={N:=["_law_parents_here","_law_machine","_law_way_here"],kd:=[.local,.local,.local],gl:=[],df:=true},body:=b56}
noncomputable def b57:List IS:=
 [(.asg (.nm 4) (.bi .len [(.v 1)])),(.asg (.nm 5) (.c (.int 0))),(.for_ (.tp [(.nm 6),(.nm 7)]) (.val (.lrev (.v 3))) [(.asg (.nm 5) (.bin .add (.v 5) (.c (.int 1)))),(.asg (.nm 4) (.bin .add (.v 4) (.bi .len [(.comp {N:=["_law_lost_here","_law_link"],kd:=[.cell,.local],gl:=[],df:=false} [7] (.nm 1) (.val (.v 1)) [(.cmp .in_ (.v 1) (.v 0))] (.v 1))]))),(.if_ (.and_ (.cmp .ge (.v 5) (.v 4)) (.cmp .lt (.meth 67 "moment_of" "Tree" (.v 0) [(.v 2)]) (.v 6))) [(.ret (.c (.bl false)))] [])]),(.ret (.c (.bl true)))]
noncomputable def d57:Fn:={np:=4,G:={N:=["_law_tree","_law_way_here","_law_machine","_law_turns","_law_needed","_law_passed","_law_begin","_law_lost_here"],kd:=[.local,.local,.local,.local,.local,.local,.local,.cell],gl:=[0,5,18],df:=true},body:=b57}
noncomputable def b58:List IS:=
 [(.asg (.nm 5) (.comp {N:=["_law_tree","_law_machine"],kd:=[.cell,.local],gl:=[],df:=false} [0] (.nm 1) (.rng1 (.bin .add (.bi .len [(.v 1)]) (.c (.int 1)))) [] (.meth 67 "moment_of" "Tree" (.v 0) [(.v 1)]))),(.if_ (.or_ (.cmp .in_ (.c (.bl false)) (.comp {N:=["_law_moment"],kd:=[.local],gl:=[53],df:=false} [] (.nm 0) (.val (.v 5)) [] (.call 53 [(.v 0)]))) (.cmp .ne (.idx (.v 5) (.c (.int 0))) (.v 3))) [(.ret (.c .non))] []),(.for_ (.nm 6) (.rng2 (.c (.int 1)) (.bin .add (.bi .len [(.v 1)]) (.c (.int 1)))) [(.if_ (.or_ (.cmp .lt (.idx (.v 5) (.v 6)) (.idx (.v 4) (.v 6))) (.cmp .gt (.idx (.v 5) (.v 6)) (.idx (.v 5) (.idx (.v 1) (.bin .sub (.v 6) (.c (.int 1))))))) [(.ret (.c .non))] []),(.if_ (.not_ (.call 57 [(.v 0),(.call 56 [(.v 1),(.v 6)]),(.v 6),(.v 2)])) [(.ret (.c .non))] [])]),(.ret (.v 5))]
noncomputable def d58:Fn:={np:=5,G:={N:=["_law_tree","_law_parents_here","_law_turns","_law_house","_law_before","_law_now","_law_machine"],kd:=[.cell,.local,.local,.local,.local,.local,.local],gl:=[15,0,57,56],df:=true},body:=b58}
noncomputable def b59:List IS:=
 [(.asg (.nm 1) (.call 54 [(.v 0)])),(.asg (.nm 2) (.omk 69 63 "Tree" [(.bi .list [(.v 1)])])),(.asg (.tp [(.nm 3),(.nm 4)]) (.call 51 [(.v 0),(.c (.int 100)),(.c (.int 2))])),(.mio none 2 65 "change" "Tree" [(.tup [(.c (.str "put")),(.v 3),(.call 52 [(.v 0),(.c (.int 140))]),(.v 4),(.lst [])])]),(.asg (.nm 5) (.c (.int 1))),(.asg (.nm 6) (.lst [])),(.asg (.nm 7) (.comp {N:=["_law_k"],kd:=[.local],gl:=[],df:=false} [] (.nm 0) (.rng1 (.bin .add (.bi .len [(.v 1)]) (.c (.int 1)))) [] (.c (.int 0)))),(.for_ (.nm 8) (.rng1 (.call 50 [(.v 0),(.c (.int 40))])) [(.if_ (.cmp .eq (.call 49 [(.v 0),(.bin .add (.c (.int 400)) (.v 8)),(.c (.int 3))]) (.c (.int 0))) [(.mio none 2 65 "change" "Tree" [(.tup [(.idx (.lst [(.c (.str "stop")),(.c (.str "go"))]) (.call 49 [(.v 0),(.bin .add (.c (.int 450)) (.v 8)),(.c (.int 2))])),(.v 3)])]),(.asg (.nm 5) (.bin .add (.v 5) (.c (.int 1))))] [(.asg (.nm 9) (.call 55 [(.v 0),(.bin .add (.c (.int 500)) (.bin .mul (.c (.int 20)) (.v 8))),(.bi .len [(.v 1)])])),(.if_ (.cmp .eq (.call 49 [(.v 0),(.bin .add (.c (.int 360)) (.v 8)),(.c (.int 2))]) (.c (.int 0))) [(.asg (.nm 9) (.sl (.v 9) (some (.c (.int 1))) none))] []),(.app 6 (.tup [(.v 5),(.v 9)])),(.mio none 2 66 "turn" "Tree" [(.bi .list [(.v 9)])])]),(.asg (.nm 7) (.call 58 [(.v 2),(.v 1),(.v 6),(.v 5),(.v 7)])),(.if_ (.cmp .is_ (.v 7) (.c .non)) [(.ret (.c (.bl false)))] [])]),(.ret (.c (.bl true)))]
noncomputable def d59:Fn:={np:=1,G:={N:=["_law_script","_law_parents_here","_law_tree","_law_name","_law_face","_law_house","_law_turns","_law_before","_law_j","_law_lost_here"],kd:=[.local,.local,.local,.local,.local,.local,.local,.local,.local,.local],gl:=[54,69,5,51,52,15,0,50,49,55,58],df:=true},body:=b59}
noncomputable def b60:List IS:=
 [(.oset 0 "deeds" [Str.ofString "Book"] false (.lst [])),(.oset 0 "houses" [Str.ofString "Book"] false (.lstf [(.tup [(.lst []),(.lst []),(.lst [])])]))]
noncomputable def d60:Fn:={np:=1,G:={N:=["self"],kd:=[.local],gl:=[],df:=true,io:=some 0},body:=b60,io:=true}
noncomputable def b61:List IS:=
 [(.oget 2 0 "houses" [Str.ofString "Book"] (.neg (.c (.int 1)))),(.exp (.call 41 [(.v 2),(.v 1)])),(.exp (.call 39 [(.call 46 [(.v 2),(.v 1)])])),(.asg (.nm 3) (.call 28 [(.v 1)])),(.oapp 0 "houses" [Str.ofString "Book"] (.call 46 [(.v 2),(.v 3)])),(.oapp 0 "deeds" [Str.ofString "Book"] (.v 3)),(.reto 0 (.meth 62 "moment" "Book" (.v 0) []))]
noncomputable def d61:Fn:={np:=2,G:={N:=["self","deed","house","own_deed"],kd:=[.local,.local,.local,.local],gl:=[41,39,46,28],df:=true,io:=some 0},body:=b61,io:=true}
noncomputable def b62:List IS:=
 [(.ret (.bi .len [(.ofld (.v 0) "deeds" [Str.ofString "Book"])]))]
noncomputable def d62:Fn:={np:=1,G:={N:=["self"],kd:=[.local],gl:=[0],df:=true},body:=b62}
noncomputable def b63:List IS:=
 [(.exp (.call 47 [(.v 1)])),(.oset 0 "parents" [Str.ofString "Tree"] true (.bi .list [(.v 1)])),(.oset 0 "depths" [Str.ofString "Tree"] true (.call 48 [(.v 1)])),(.oset 0 "book" [Str.ofString "Tree"] false (.omk 68 60 "Book" [])),(.oset 0 "moments" [Str.ofString "Tree"] true (.bin .mul (.lst [(.c (.int 0))]) (.bi .len [(.v 1)])))]
noncomputable def d63:Fn:={np:=2,G:={N:=["self","parents"],kd:=[.local,.local],gl:=[47,5,48,68,0],df:=true,io:=some 0},body:=b63,io:=true}
noncomputable def b64:List IS:=
 [(.if_ (.or_ (.cmp .lt (.v 1) (.v 2)) (.cmp .gt (.v 1) (.bi .len [(.ofld (.v 0) "parents" [Str.ofString "Tree"])]))) [.never] [])]
noncomputable def d64:Fn:={np:=3,G:={N:=["self","machine","least"],kd:=[.local,.local,.local],gl:=[0],df:=true},body:=b64}
noncomputable def b65:List IS:=
 [(.rmio 0 "book" [Str.ofString "Tree"] 61 "change" "Book" [(.v 1)])]
noncomputable def d65:Fn:={np:=2,G:={N:=["self","deed"],kd:=[.local,.local],gl:=[],df:=true,io:=some 0},body:=b65,io:=true}
noncomputable def b66:List IS:=
 [(.asg (.nm 2) (.ite (.cmp .is_ (.v 1) (.c .non)) (.lst []) (.v 1))),(.for_ (.nm 3) (.val (.v 2)) [(.exp (.meth 64 "check_machine" "Tree" (.v 0) [(.v 3),(.c (.int 1))]))]),(.asg (.nm 4) (.bin .add (.lst [(.meth 62 "moment" "Book" (.ofld (.v 0) "book" [Str.ofString "Tree"]) [])]) (.ofld (.v 0) "moments" [Str.ofString "Tree"]))),(.asg (.nm 5) (.lst [])),(.foro (.tp [(.nm 3),(.nm 6)]) 0 "parents" [Str.ofString "Tree"] [(.app 5 (.ite (.cmp .in_ (.v 3) (.v 2)) (.idx (.v 4) (.v 3)) (.idx (.v 4) (.v 6))))]),(.oset 0 "moments" [Str.ofString "Tree"] true (.v 5))]
noncomputable def d66:Fn:={np:=2,G:={N:=["self","lost","lost_links","machine","begun","moments","parent"],kd:=[.local,.local,.local,.local,.local,.local,.local],gl:=[20],df:=true,io:=some 0},body:=b66,io:=true}
noncomputable def b67:List IS:=
 [(.exp (.meth 64 "check_machine" "Tree" (.v 0) [(.v 1),(.c (.int 0))])),(.ret (.ite (.cmp .eq (.v 1) (.c (.int 0))) (.meth 62 "moment" "Book" (.ofld (.v 0) "book" [Str.ofString "Tree"]) []) (.idx (.ofld (.v 0) "moments" [Str.ofString "Tree"]) (.bin .sub (.v 1) (.c (.int 1))))))]
noncomputable def d67:Fn:={np:=2,G:={N:=["self","machine"],kd:=[.local,.local],gl:=[],df:=true},body:=b67}
noncomputable def T:Tb:=fun n=>match n with
 | 26=>some d26
 | 27=>some d27
 | 28=>some d28
 | 29=>some d29
 | 30=>some d30
 | 31=>some d31
 | 32=>some d32
 | 33=>some d33
 | 34=>some d34
 | 35=>some d35
 | 36=>some d36
 | 37=>some d37
 | 38=>some d38
 | 39=>some d39
 | 40=>some d40
 | 41=>some d41
 | 42=>some d42
 | 43=>some d43
 | 44=>some d44
 | 45=>some d45
 | 46=>some d46
 | 47=>some d47
 | 48=>some d48
 | 49=>some d49
 | 50=>some d50
 | 51=>some d51
 | 52=>some d52
 | 53=>some d53
 | 54=>some d54
 | 55=>some d55
 | 56=>some d56
 | 57=>some d57
 | 58=>some d58
 | 59=>some d59
 | 60=>some d60
 | 61=>some d61
 | 62=>some d62
 | 63=>some d63
 | 64=>some d64
 | 65=>some d65
 | 66=>some d66
 | 67=>some d67
 | _=>none
theorem c26:cR Z d26 ["thing"] (top 22)=true:=by decide +kernel
theorem c27:cR Z d27 ["thing","signs","least","most"] (top 23)=true:=by decide +kernel
theorem c28:cR Z d28 ["thing"] (top 24)=true:=by decide +kernel
theorem c29:cR Z d29 ["salt"] (top 28)=true:=by decide +kernel
theorem c30:cR Z d30 ["faces"] (top 34)=true:=by decide +kernel
theorem c31:cR Z d31 ["names","switch"] (top 53)=true:=by decide +kernel
theorem c32:cR Z d32 ["name","names_ahead"] (top 55)=true:=by decide +kernel
theorem c33:cR Z d33 ["name","names"] (top 56)=true:=by decide +kernel
theorem c34:cR Z d34 ["groups"] (top 58)=true:=by decide +kernel
theorem c35:cR Z d35 ["holdouts","switch_names"] (top 59)=true:=by decide +kernel
theorem c36:cR Z d36 ["switches","group_names","switch_names"] (top 60)=true:=by decide +kernel
theorem c37:cR Z d37 ["needs"] (top 61)=true:=by decide +kernel
theorem c38:cR Z d38 ["switches"] (top 63)=true:=by decide +kernel
theorem c39:cR Z d39 ["house"] (top 64)=true:=by decide +kernel
theorem c40:cR Z d40 ["rows"] (top 68)=true:=by decide +kernel
theorem c41:cR Z d41 ["house","deed"] (top 69)=true:=by decide +kernel
theorem c42:cR Z d42 ["pairs","name","value"] (top 70)=true:=by decide +kernel
theorem c43:cR Z d43 ["salt","rest","faces"] (top 72)=true:=by decide +kernel
theorem c44:cR Z d44 ["entry","deed"] (top 73)=true:=by decide +kernel
theorem c45:cR Z d45 ["switches","deed"] (top 74)=true:=by decide +kernel
theorem c46:cR Z d46 ["house","deed"] (top 75)=true:=by decide +kernel
theorem c47:cR Z d47 ["parents"] (top 78)=true:=by decide +kernel
theorem c48:cR Z d48 ["parents"] (top 79)=true:=by decide +kernel
theorem c49:cR Z d49 ["_law_script","_law_k","_law_many_here"] (top 82)=true:=by decide +kernel
theorem c50:cR Z d50 ["_law_script","_law_most"] (top 83)=true:=by decide +kernel
theorem c51:cR Z d51 ["_law_script","_law_k","_law_count"] (top 84)=true:=by decide +kernel
theorem c52:cR Z d52 ["_law_script","_law_k"] (top 85)=true:=by decide +kernel
theorem c53:cR Z d53 ["_law_thing"] (top 86)=true:=by decide +kernel
theorem c54:cR Z d54 ["_law_script"] (top 88)=true:=by decide +kernel
theorem c55:cR Z d55 ["_law_script","_law_k","_law_many_here"] (top 89)=true:=by decide +kernel
theorem c56:cR Z d56 ["_law_parents_here","_law_machine"] (top 90)=true:=by decide +kernel
theorem c57:cR Z d57 ["_law_tree","_law_way_here","_law_machine","_law_turns"] (top 91)=true:=by decide +kernel
theorem c58:cR Z d58 ["_law_tree","_law_parents_here","_law_turns","_law_house","_law_before"] (top 92)=true:=by decide +kernel
theorem c59:cR Z d59 ["_law_script"] (top 93)=true:=by decide +kernel
theorem c60:eQ Z d60 ["self"] (mst 76 0)=true:=by decide +kernel
theorem c61:eQ Z d61 ["self","deed"] (mst 76 1)=true:=by decide +kernel
theorem c62:cR Z d62 ["self"] (mst 76 2)=true:=by decide +kernel
theorem c63:eQ Z d63 ["self","parents"] (mst 80 0)=true:=by decide +kernel
theorem c64:cR Z d64 ["self","machine","least"] (mst 80 1)=true:=by decide +kernel
theorem c65:eQ Z d65 ["self","deed"] (mst 80 2)=true:=by decide +kernel
theorem c66:eQ Z d66 ["self","lost"] (mst 80 3)=true:=by decide +kernel
theorem c67:cR Z d67 ["self","machine"] (mst 80 5)=true:=by decide +kernel
theorem zA:∀ n x,Z.name n=some x->x≠"__name__"/\(x == ("__debug__" : Str))=false:=by
 have h:(dz++Z.nm).all (fun x=>!(x == "__name__")&&!(x == "__debug__"))=true:=by decide +kernel
 intro n x hx;have:=List.all_eq_true.mp h x (List.mem_of_getElem? hx);simpa using this
@[elab_as_elim] theorem lnS {P:List Value->Prop}{n:Nat} (us:List Value) (e:us.length=n+1) (h:∀ (x:Value) (us:List Value),us.length=n->P (x::us)):P us:=by
 cases us with
 | nil=>cases e
 | cons x us=>exact h x us (Nat.succ.inj e)
@[elab_as_elim] theorem lnZ {P:List Value->Prop} (us:List Value) (e:us.length=0) (h:P []):P us:=by
 cases us with
 | nil=>exact h
 | cons x us=>cases e
theorem ln1 {fd:FuncData}{ps:List Str}(h:∀ x0:Value,bindArgs fd ⟨[x0],[]⟩=pure (ps.zip [x0]))(us:List Value)(e:us.length=1):bindArgs fd ⟨us,[]⟩=pure (ps.zip us):=lnS us e fun x0 us e=>lnZ us e (h x0)
theorem ln2 {fd:FuncData}{ps:List Str}(h:∀ x0 x1:Value,bindArgs fd ⟨[x0,x1],[]⟩=pure (ps.zip [x0,x1]))(us:List Value)(e:us.length=2):bindArgs fd ⟨us,[]⟩=pure (ps.zip us):=lnS us e fun x0 us e=>lnS us e fun x1 us e=>lnZ us e (h x0 x1)
theorem ln3 {fd:FuncData}{ps:List Str}(h:∀ x0 x1 x2:Value,bindArgs fd ⟨[x0,x1,x2],[]⟩=pure (ps.zip [x0,x1,x2]))(us:List Value)(e:us.length=3):bindArgs fd ⟨us,[]⟩=pure (ps.zip us):=lnS us e fun x0 us e=>lnS us e fun x1 us e=>lnS us e fun x2 us e=>lnZ us e (h x0 x1 x2)
theorem ln4 {fd:FuncData}{ps:List Str}(h:∀ x0 x1 x2 x3:Value,bindArgs fd ⟨[x0,x1,x2,x3],[]⟩=pure (ps.zip [x0,x1,x2,x3]))(us:List Value)(e:us.length=4):bindArgs fd ⟨us,[]⟩=pure (ps.zip us):=lnS us e fun x0 us e=>lnS us e fun x1 us e=>lnS us e fun x2 us e=>lnS us e fun x3 us e=>lnZ us e (h x0 x1 x2 x3)
theorem ln5 {fd:FuncData}{ps:List Str}(h:∀ x0 x1 x2 x3 x4:Value,bindArgs fd ⟨[x0,x1,x2,x3,x4],[]⟩=pure (ps.zip [x0,x1,x2,x3,x4]))(us:List Value)(e:us.length=5):bindArgs fd ⟨us,[]⟩=pure (ps.zip us):=lnS us e fun x0 us e=>lnS us e fun x1 us e=>lnS us e fun x2 us e=>lnS us e fun x3 us e=>lnS us e fun x4 us e=>lnZ us e (h x0 x1 x2 x3 x4)
theorem dfo {f:Nat}{x:Str}{fn:Fn}{st:Stmt}{fa:Addr}{ps:List Str}{K:W.Frag}{h:Heap}{mg:Str->Option Value}{oc:Value}{od an:Option Addr}{sl:Array (Option Value)}{kV dc pm cd ct:Value}(c:cR Z fn ps st=true)(hT:T f=some fn)(b:∀ (kV dc pm:Value)(an:Option Addr)(cd ct:Value)(us:List Value),us.length=ps.length->bindArgs (W.fnOf x x (dC st) (da st) (cQ st) .none kV dc pm an cd ct) ⟨us,[]⟩=pure (ps.zip us))(X:K.In h)(G:h.Ns mainGlobals mg)
  (a:W.nsIn K mainGlobals x=some (some (.ref fa))) (l:K.lookup fa=some ⟨oc,od,.func (W.fnOf x x (dC st) (da st) (cQ st) .none kV dc pm an cd ct),sl⟩) (e:W.codeIn K cd x=true) (k:W.keepIn K (.ref fa)=true):DefOk K mg Z T f x:=⟨fn,st,fa,_,ps,hT,gy l e k,W.mg_of X G a,.all (b _ _ _ _ _ _),jr c⟩
theorem nE {K:W.Frag}{y x:Str}{C fa:Addr}(u:W.nsIn K mainGlobals y=some (some (.ref C)))(m:W.findIn K (.ref C) x=some (some (.ref fa)))(i:W.isFn K (.ref fa)=true)(k:W.keepIn K (.ref fa)=true):eV K y x fa:=fun C' o=>by have h:=o.1;rw[u] at h;cases h;exact⟨m,i,k⟩
theorem dfm {f:Nat}{x q y:Str}{fn:Fn}{st:Stmt}{fa C:Addr}{ps:List Str}{K:W.Frag}{oc:Value}{od an:Option Addr}{sl:Array (Option Value)}{kV dc pm cd ct:Value}(c:cR Z fn ps st=true)(hT:T f=some fn)(b:∀ (kV dc pm:Value)(an:Option Addr)(cd ct:Value)(us:List Value),us.length=ps.length->bindArgs (W.fnOf x q (dC st) (da st) (cQ st) .none kV dc pm an cd ct) ⟨us,[]⟩=pure (ps.zip us))
  (l:K.lookup fa=some ⟨oc,od,.func (W.fnOf x q (dC st) (da st) (cQ st) .none kV dc pm an cd ct),sl⟩) (e:W.codeIn K cd q=true) (k:W.keepIn K (.ref fa)=true) (u:W.nsIn K mainGlobals y=some (some (.ref C))) (m:W.findIn K (.ref C) x=some (some (.ref fa))) (i:W.isFn K (.ref fa)=true):DefOM K Z T f (eV K y x):=⟨fn,x,q,st,fa,_,ps,hT,gy l e k,nE u m i k,.all (b _ _ _ _ _ _),jr c⟩
theorem Cm {f:Nat}{x q y:Str}{fn:Fn}{st:Stmt}{fa C:Addr}{ps:List Str}{K:W.Frag}{oc:Value}{od an:Option Addr}{sl:Array (Option Value)}{kV dc pm cd ct:Value}(c:eQ Z fn ps st=true)(hT:T f=some fn)(b:∀ (kV dc pm:Value)(an:Option Addr)(cd ct:Value)(us:List Value),us.length=ps.length->bindArgs (W.fnOf x q (dC st) (da st) (cQ st) .none kV dc pm an cd ct) ⟨us,[]⟩=pure (ps.zip us))
  (l:K.lookup fa=some ⟨oc,od,.func (W.fnOf x q (dC st) (da st) (cQ st) .none kV dc pm an cd ct),sl⟩) (e:W.codeIn K cd q=true) (k:W.keepIn K (.ref fa)=true) (u:W.nsIn K mainGlobals y=some (some (.ref C))) (m:W.findIn K (.ref C) x=some (some (.ref fa))) (i:W.isFn K (.ref fa)=true):DefOI K Z T f (eV K y x):=⟨fn,x,q,st,fa,_,ps,hT,gy l e k,nE u m i k,.all (b _ _ _ _ _ _),jt c⟩
theorem Cn {f:Nat}{x q y:Str}{fn:Fn}{st:Stmt}{fa C:Addr}{ps:List Str}{K:W.Frag}{oc dV:Value}{od an:Option Addr}{sl:Array (Option Value)}{kV dc pm cd ct:Value}(c:eQ Z fn ps st=true)(hT:T f=some fn)(b:Binds K (W.fnOf x q (dC st) (da st) (cQ st) dV kV dc pm an cd ct) ps [])
  (l:K.lookup fa=some ⟨oc,od,.func (W.fnOf x q (dC st) (da st) (cQ st) dV kV dc pm an cd ct),sl⟩) (e:W.codeIn K cd q=true) (k:W.keepIn K (.ref fa)=true) (u:W.nsIn K mainGlobals y=some (some (.ref C))) (m:W.findIn K (.ref C) x=some (some (.ref fa))) (i:W.isFn K (.ref fa)=true):DefOI K Z T f (eV K y x):=⟨fn,x,q,st,fa,_,ps,hT,gy l e k,nE u m i k,b,jt c⟩
theorem dfk {f:Nat}{x q y:Str}{fn:Fn}{st:Stmt}{fa C:Addr}{ps:List Str}{K:W.Frag}{oc:Value}{od an:Option Addr}{sl:Array (Option Value)}{kV dc pm cd ct:Value}{h:Heap}{mg:Str->Option Value}(c:eQ Z fn ps st=true)(hT:T f=some fn)(b:∀ (kV dc pm:Value)(an:Option Addr)(cd ct:Value)(us:List Value),us.length=ps.length->bindArgs (W.fnOf x q (dC st) (da st) (cQ st) .none kV dc pm an cd ct) ⟨us,[]⟩=pure (ps.zip us))(X:K.In h)(G:h.Ns mainGlobals mg)
  (l:K.lookup fa=some ⟨oc,od,.func (W.fnOf x q (dC st) (da st) (cQ st) .none kV dc pm an cd ct),sl⟩) (e:W.codeIn K cd q=true) (k:W.keepIn K (.ref fa)=true) (u:W.nsIn K mainGlobals y=some (some (.ref C))) (m:W.findIn K (.ref C) x=some (some (.ref fa))) (i:W.isFn K (.ref fa)=true) (n:nameIn K C=some y) (j:W.makesIn K C=true) (p:W.keepIn K (.ref C)=true) (hx:x = "__init__":=by rfl):DefOI K Z T f (pV K mg y y):=by
 subst hx;exact⟨fn,_,q,st,fa,_,ps,hT,gy l e k,⟨C,⟨u,n⟩,W.mg_of X G u,⟨j,m,i,p⟩⟩,.all (b _ _ _ _ _ _),jt c⟩
theorem Di {K:W.Frag}{kV dc pm cd ct:Value}{an od:Option Addr}{T:Addr}{oc:Value}{n:Nat}{sl:Array (Option Value)}(ho:K.lookup T=some ⟨oc,od,.seq #[.none] n,sl⟩):Binds K (W.fnOf "turn" "Tree.turn" (dC (mst 80 3)) (da (mst 80 3)) (cQ (mst 80 3)) (.ref T) kV dc pm an cd ct) ["self","lost"] []:=fun s us X hl=>by rw[List.append_nil] at *;exact lnS us hl fun x0 us hl=>lnS us hl fun x1 us hl=>lnZ us hl (W.binds_K X rfl ho rfl rfl rfl)
noncomputable def zC:Nat:=59
noncomputable def u7:Str:="_law_script"
theorem all_mk {l:PySem.W.OpenLaw}{w:World}{fa:Addr}{w68 w69:Addr}{K:W.Frag}{h:Heap}{mg:Str->Option Value}{f59:Addr}{od59 an59:Option Addr}{sl59:Array (Option Value)}{oc59 kV59 dc59 pm59 cd59 ct59:Value}{t21:Tok}{t22:Tok}{t23:Tok}{g24:Addr}{od24:Option Addr}{nn24:Nat}{sl24:Array (Option Value)}{u24_0 u24_1 u24_2 u24_3 u24_4 u24_5 u24_6 u24_7 u24_8 u24_9:Tok}{g25:Addr}{od25:Option Addr}{nn25:Nat}{sl25:Array (Option Value)}{u25_0 u25_1 u25_2 u25_3 u25_4 u25_5:Tok}(X:K.In h)(G:h.Ns mainGlobals mg)(hfa:mg "law" = some (.ref fa))
  (t26:DefOk K mg Z T 26 "is_whole")
  (t27:DefOk K mg Z T 27 "is_text_of")
  (t28:DefOk K mg Z T 28 "own_copy")
  (t29:DefOk K mg Z T 29 "check_salt")
  (t30:DefOk K mg Z T 30 "allot_new")
  (t31:DefOk K mg Z T 31 "switch_checked")
  (t32:DefOk K mg Z T 32 "check_new")
  (t33:DefOk K mg Z T 33 "check_switch_there")
  (t34:DefOk K mg Z T 34 "check_groups")
  (t35:DefOk K mg Z T 35 "check_holdouts")
  (t36:DefOk K mg Z T 36 "check_switches")
  (t37:DefOk K mg Z T 37 "tied_names")
  (t38:DefOk K mg Z T 38 "check_rings")
  (t39:DefOk K mg Z T 39 "house_checked")
  (t40:DefOk K mg Z T 40 "names_of")
  (t41:DefOk K mg Z T 41 "check_deed")
  (t42:DefOk K mg Z T 42 "pairs_with")
  (t43:DefOk K mg Z T 43 "new_entry")
  (t44:DefOk K mg Z T 44 "entry_after")
  (t45:DefOk K mg Z T 45 "switches_after")
  (t46:DefOk K mg Z T 46 "house_after")
  (t47:DefOk K mg Z T 47 "check_parents")
  (t48:DefOk K mg Z T 48 "depths_by_machine")
  (t49:DefOk K mg Z T 49 "_law_by")
  (t50:DefOk K mg Z T 50 "_law_many")
  (t51:DefOk K mg Z T 51 "_law_names")
  (t52:DefOk K mg Z T 52 "_law_salt")
  (t53:DefOk K mg Z T 53 "_law_whole")
  (t54:DefOk K mg Z T 54 "_law_parents")
  (t55:DefOk K mg Z T 55 "_law_lost")
  (t56:DefOk K mg Z T 56 "_law_way")
  (t57:DefOk K mg Z T 57 "_law_seen")
  (t58:DefOk K mg Z T 58 "_law_looked")
  (t60:DefOI K Z T 60 (pV K mg "Book" "Book"))
  (t61:DefOI K Z T 61 (eV K "Book" "change"))
  (t62:DefOM K Z T 62 (eV K "Book" "moment"))
  (t63:DefOI K Z T 63 (pV K mg "Tree" "Tree"))
  (t64:DefOM K Z T 64 (eV K "Tree" "check_machine"))
  (t65:DefOI K Z T 65 (eV K "Tree" "change"))
  (t66:DefOI K Z T 66 (eV K "Tree" "turn"))
  (t67:DefOM K Z T 67 (eV K "Tree" "moment_of"))
  (a59:W.nsIn K mainGlobals "law" = some (some (.ref f59))) (l59:K.lookup f59=some ⟨oc59,od59,.func (W.fnOf "law" "law" (dC (top 93)) (da (top 93)) (cQ (top 93)) .none kV59 dc59 pm59 an59 cd59 ct59),sl59⟩) (e59:W.codeIn K cd59 "law" = true) (k59:W.keepIn K (.ref f59)=true)
  (q21:W.nsIn K mainGlobals "LETTERS" = some (some (.str "abcdefghijklmnopqrstuvwxyz" t21)))
  (q22:W.nsIn K mainGlobals "PLACES" = some (some (.int 10007 t22)))
  (q23:W.nsIn K mainGlobals "SALT_LENGTH" = some (some (.int 12 t23)))
  (q24:W.nsIn K mainGlobals "DEEDS" = some (some (.ref g24))) (r24:K.lookup g24=some ⟨.type "tuple",od24,.seq #[.str "group" u24_0,.str "put" u24_1,.str "rules" u24_2,.str "needs" u24_3,.str "shares" u24_4,.str "stop" u24_5,.str "go" u24_6,.str "hold" u24_7,.str "free" u24_8,.str "drop" u24_9] nn24,sl24⟩)
  (q25:W.nsIn K mainGlobals "DEEDS_ON_A_SWITCH" = some (some (.ref g25))) (r25:K.lookup g25=some ⟨.type "tuple",od25,.seq #[.str "rules" u25_0,.str "needs" u25_1,.str "shares" u25_2,.str "stop" u25_3,.str "go" u25_4,.str "drop" u25_5] nn25,sl25⟩)
  (oc68:W.nsIn K mainGlobals "Book" = some (some (.ref w68)))
  (oc69:W.nsIn K mainGlobals "Tree" = some (some (.ref w69)))
  (pg68:W.plainGet K w68 Str.empty=true)
  (hd68:W.hasDictIn K w68=true)
  (po68:W.plainOver K w68=true)
  (sa68:W.findIn K (.ref w68) "__setattr__" = some (some (.builtin "object.__setattr__")))
  (nadeeds_68:W.findIn K (.ref w68) "deeds" = some none)
  (nahouses_68:W.findIn K (.ref w68) "houses" = some none)
  (naparents_68:W.findIn K (.ref w68) "parents" = some none)
  (nadepths_68:W.findIn K (.ref w68) "depths" = some none)
  (nabook_68:W.findIn K (.ref w68) "book" = some none)
  (namoments_68:W.findIn K (.ref w68) "moments" = some none)
  (pg69:W.plainGet K w69 Str.empty=true)
  (hd69:W.hasDictIn K w69=true)
  (po69:W.plainOver K w69=true)
  (sa69:W.findIn K (.ref w69) "__setattr__" = some (some (.builtin "object.__setattr__")))
  (nadeeds_69:W.findIn K (.ref w69) "deeds" = some none)
  (nahouses_69:W.findIn K (.ref w69) "houses" = some none)
  (naparents_69:W.findIn K (.ref w69) "parents" = some none)
  (nadepths_69:W.findIn K (.ref w69) "depths" = some none)
  (nabook_69:W.findIn K (.ref w69) "book" = some none)
  (namoments_69:W.findIn K (.ref w69) "moments" = some none)
  (z0:W.nsIn K mainGlobals "len" = some none)
  (z1:W.nsIn K mainGlobals "sum" = some none)
  (z2:W.nsIn K mainGlobals "min" = some none)
  (z3:W.nsIn K mainGlobals "max" = some none)
  (z4:W.nsIn K mainGlobals "sorted" = some none)
  (z5:W.nsIn K mainGlobals "list" = some none)
  (z6:W.nsIn K mainGlobals "tuple" = some none)
  (z7:W.nsIn K mainGlobals "ord" = some none)
  (z8:W.nsIn K mainGlobals "int" = some none)
  (z9:W.nsIn K mainGlobals "all" = some none)
  (z10:W.nsIn K mainGlobals "any" = some none)
  (z11:W.nsIn K mainGlobals "str" = some none)
  (z12:W.nsIn K mainGlobals "set" = some none)
  (z13:W.nsIn K mainGlobals "abs" = some none)
  (z14:W.nsIn K mainGlobals "isinstance" = some none)
  (z15:W.nsIn K mainGlobals "range" = some none)
  (z16:W.nsIn K mainGlobals "bool" = some none)
  (z17:W.nsIn K mainGlobals "zip" = some none)
  (z18:W.nsIn K mainGlobals "reversed" = some none)
  (z19:W.nsIn K mainGlobals "dict" = some none)
  (z20:W.nsIn K mainGlobals "enumerate" = some none) :
  ∃ fd:FuncData,(∀ (s:Shared) (v:Value),BindsTo s fd ⟨[v],[]⟩ [(u7,v)])/\∀ base:Heap,K.In base->base.Ns mainGlobals mg->FnOk l.prog w K mg base (CX1 l.prog w) (2*12+4+1) fa fd [u7] (spL K (aW T (12+1)) zC [u7]):=by
 have e:=hfa.symm.trans (PySem.W.mg_of X G a59);cases e;have t:TopOk K mg Z T:=by
  constructor
  case nam=>
   exact zA
  case blt=>
   exact fun n x hx=>by
    have key:∀ y∈dz,mg y=none:=by
     intro y hy;simp only[dz,List.mem_cons,List.not_mem_nil,or_false] at hy;rcases hy with rfl|rfl|rfl|rfl|rfl|rfl|rfl|rfl|rfl|rfl|rfl|rfl|rfl|rfl|rfl|rfl|rfl|rfl|rfl|rfl|rfl
     ·exact W.mg_none_of X G z0
     ·exact W.mg_none_of X G z1
     ·exact W.mg_none_of X G z2
     ·exact W.mg_none_of X G z3
     ·exact W.mg_none_of X G z4
     ·exact W.mg_none_of X G z5
     ·exact W.mg_none_of X G z6
     ·exact W.mg_none_of X G z7
     ·exact W.mg_none_of X G z8
     ·exact W.mg_none_of X G z9
     ·exact W.mg_none_of X G z10
     ·exact W.mg_none_of X G z11
     ·exact W.mg_none_of X G z12
     ·exact W.mg_none_of X G z13
     ·exact W.mg_none_of X G z14
     ·exact W.mg_none_of X G z15
     ·exact W.mg_none_of X G z16
     ·exact W.mg_none_of X G z17
     ·exact W.mg_none_of X G z18
     ·exact W.mg_none_of X G z19
     ·exact W.mg_none_of X G z20
    exact key x (List.mem_of_getElem? hx)
  case cst=>
   exact fun n d x hm hx=>by
    have hm':(n,d)∈([(21,(.str "abcdefghijklmnopqrstuvwxyz")),(22,(.int 10007)),(23,(.int 12)),(24,(.tup [(.str "group"),(.str "put"),(.str "rules"),(.str "needs"),(.str "shares"),(.str "stop"),(.str "go"),(.str "hold"),(.str "free"),(.str "drop")])),(25,(.tup [(.str "rules"),(.str "needs"),(.str "shares"),(.str "stop"),(.str "go"),(.str "drop")]))]:List (Nat×D)):=hm;simp only[List.mem_cons,List.not_mem_nil,or_false,Prod.mk.injEq] at hm';rcases hm' with ⟨rfl,rfl⟩|⟨rfl,rfl⟩|⟨rfl,rfl⟩|⟨rfl,rfl⟩|⟨rfl,rfl⟩
    ·cases hx;exact⟨_,.str _,PySem.W.mg_of X G q21,⟨_,rfl⟩,fun _ _=>.str _⟩
    ·cases hx;exact⟨_,.int _,PySem.W.mg_of X G q22,⟨_,rfl⟩,fun _ _=>.int _⟩
    ·cases hx;exact⟨_,.int _,PySem.W.mg_of X G q23,⟨_,rfl⟩,fun _ _=>.int _⟩
    ·cases hx;exact⟨_,.ref _,PySem.W.mg_of X G q24,rfl,fun _ _=>.tup (nU [("group",_),("put",_),("rules",_),("needs",_),("shares",_),("stop",_),("go",_),("hold",_),("free",_),("drop",_)] r24 (Nat.le_of_ble_eq_true rfl)) (.cons (.str _) (.cons (.str _) (.cons (.str _) (.cons (.str _) (.cons (.str _) (.cons (.str _) (.cons (.str _) (.cons (.str _) (.cons (.str _) (.cons (.str _) .nil))))))))))⟩
    ·cases hx;exact⟨_,.ref _,PySem.W.mg_of X G q25,rfl,fun _ _=>.tup (nU [("rules",_),("needs",_),("shares",_),("stop",_),("go",_),("drop",_)] r25 (Nat.le_of_ble_eq_true rfl)) (.cons (.str _) (.cons (.str _) (.cons (.str _) (.cons (.str _) (.cons (.str _) (.cons (.str _) .nil))))))⟩
  case fns=>
   exact fun f hf x hx=>by
    have hf':f∈([26,27,28,29,30,31,32,33,34,35,36,37,38,39,40,41,42,43,44,45,46,47,48,49,50,51,52,53,54,55,56,57,58,59]:List Nat):=hf;simp only[List.mem_cons,List.not_mem_nil,or_false] at hf';rcases hf' with rfl|rfl|rfl|rfl|rfl|rfl|rfl|rfl|rfl|rfl|rfl|rfl|rfl|rfl|rfl|rfl|rfl|rfl|rfl|rfl|rfl|rfl|rfl|rfl|rfl|rfl|rfl|rfl|rfl|rfl|rfl|rfl|rfl|rfl
    ·cases hx;exact t26
    ·cases hx;exact t27
    ·cases hx;exact t28
    ·cases hx;exact t29
    ·cases hx;exact t30
    ·cases hx;exact t31
    ·cases hx;exact t32
    ·cases hx;exact t33
    ·cases hx;exact t34
    ·cases hx;exact t35
    ·cases hx;exact t36
    ·cases hx;exact t37
    ·cases hx;exact t38
    ·cases hx;exact t39
    ·cases hx;exact t40
    ·cases hx;exact t41
    ·cases hx;exact t42
    ·cases hx;exact t43
    ·cases hx;exact t44
    ·cases hx;exact t45
    ·cases hx;exact t46
    ·cases hx;exact t47
    ·cases hx;exact t48
    ·cases hx;exact t49
    ·cases hx;exact t50
    ·cases hx;exact t51
    ·cases hx;exact t52
    ·cases hx;exact t53
    ·cases hx;exact t54
    ·cases hx;exact t55
    ·cases hx;exact t56
    ·cases hx;exact t57
    ·cases hx;exact t58
    ·cases hx;exact dfo c59 rfl (fun _ _ _ _ _ _=>ln1 fun _=>rfl) X G a59 l59 e59 k59
  case fio=>
   exact fun f c m hm=>by
    have hm':(f,c,m)∈([(61,"Book","change"),(65,"Tree","change"),(66,"Tree","turn")]:List (Nat×Str×Str)):=hm;simp only[List.mem_cons,List.not_mem_nil,or_false,Prod.mk.injEq] at hm';rcases hm' with ⟨rfl,rfl,rfl⟩|⟨rfl,rfl,rfl⟩|⟨rfl,rfl,rfl⟩
    ·exact t61
    ·exact t65
    ·exact t66
  case fmt=>
   exact fun f c m hm=>by
    have hm':(f,c,m)∈([(62,"Book","moment"),(64,"Tree","check_machine"),(67,"Tree","moment_of")]:List (Nat×Str×Str)):=hm;simp only[List.mem_cons,List.not_mem_nil,or_false,Prod.mk.injEq] at hm';rcases hm' with ⟨rfl,rfl,rfl⟩|⟨rfl,rfl,rfl⟩|⟨rfl,rfl,rfl⟩
    ·exact t62
    ·exact t64
    ·exact t67
  case fmk=>
   exact fun n c f x hm hx=>by
    have hm':(n,c,f)∈([(68,Str.ofString "Book",60),(69,Str.ofString "Tree",63)]:List (Nat×Str×Nat)):=hm;simp only[List.mem_cons,List.not_mem_nil,or_false,Prod.mk.injEq] at hm';rcases hm' with ⟨rfl,rfl,rfl⟩|⟨rfl,rfl,rfl⟩
    ·cases hx;exact t60
    ·cases hx;exact t63
  case ocl=>
   exact fun c hc C o=>by
    have hc':c∈(["Book","Tree"]:List Str):=hc;simp only[List.mem_cons,List.not_mem_nil,or_false] at hc';rcases hc' with rfl|rfl
    ·have h:=o.1;rw[oc68] at h;cases h;refine⟨⟨pg68,hd68,po68,sa68⟩,fun x hx=>?_⟩;have hx':x∈(["deeds","houses","parents","depths","book","moments"]:List Str):=hx;simp only[List.mem_cons,List.not_mem_nil,or_false] at hx';rcases hx' with rfl|rfl|rfl|rfl|rfl|rfl
     ·exact nadeeds_68
     ·exact nahouses_68
     ·exact naparents_68
     ·exact nadepths_68
     ·exact nabook_68
     ·exact namoments_68
    ·have h:=o.1;rw[oc69] at h;cases h;refine⟨⟨pg69,hd69,po69,sa69⟩,fun x hx=>?_⟩;have hx':x∈(["deeds","houses","parents","depths","book","moments"]:List Str):=hx;simp only[List.mem_cons,List.not_mem_nil,or_false] at hx';rcases hx' with rfl|rfl|rfl|rfl|rfl|rfl
     ·exact nadeeds_69
     ·exact nahouses_69
     ·exact naparents_69
     ·exact nadepths_69
     ·exact nabook_69
     ·exact namoments_69
  case plc=>
   exact fun f hf=>absurd (show f∈([]:List Nat) from hf) (by simp)
 exact⟨PySem.W.fnOf "law" "law" (dC (top 93)) (da (top 93)) (cQ (top 93)) .none kV59 dc59 pm59 an59 cd59 ct59,fun s v=>.of_eq rfl,fun base _ _=>y4 t 12 (by decide) (f:=59) (fn:=d59) rfl (gy (st:=top 93) l59 e59 k59) (jr c59)⟩
end Law
namespace L2
open PySem PySem.Spec PyProof.Rows PySem.SeqAt
namespace Fr
noncomputable def one (c:Nat):Str:=⟨#[c]⟩
noncomputable def sal (cs:List Nat):Str:=⟨cs.toArray⟩
def low (c:Nat):Prop:=97<=c/\c<=122
theorem tq:(Str.ofString "abcdefghijklmnopqrstuvwxyz").cps.toList=List.range' 97 26:=by decide +kernel
theorem oT:(Str.ofString "abcdefghijklmnopqrstuvwxyz").length=26:=by decide +kernel
theorem tu {i:Int}(h0:0<=i)(h1:i < 26):fW (.str "abcdefghijklmnopqrstuvwxyz") (.int i)=.ok (.str (one (97+i.toNat))):=by
 rw[Ev.x_c h0 (by rw[oT];exact h1) (by rw[oT];decide),tq];have:(List.range' 97 26).getD i.toNat 0=97+i.toNat:=by rw[List.getD_eq_getElem?_getD,List.getElem?_range' (by omega)];show 97+1*i.toNat=_;omega
 rw[this];rfl
theorem iU (cs:List Nat):(sal cs).length=cs.length:=by unfold sal Str.length;simp
theorem u9 (c:Nat):(one c).length=1:=rfl
theorem ki:∀ (cs:List Nat) (acc:Array Nat),(cs.map one).foldl (fun acc p=>acc++(Str.ofString "").cps++p.cps) acc=acc++cs.toArray
 | [],acc=>by simp
 | c::cs,acc=>by
  have e:(Str.ofString "").cps = #[]:=by decide +kernel
  rw[List.map_cons,List.foldl_cons,ki cs,e];show acc++#[]++#[c]++cs.toArray=_;simp
theorem join_one (cs:List Nat):Txt.join "" (cs.map one)=sal cs:=by
 show (⟨((cs.map one).drop 1).foldl (fun acc p=>acc++(Str.ofString "").cps++p.cps) ((cs.map one).headD Str.empty).cps⟩:Str)=_;cases cs with
 | nil=>rfl
 | cons c cs=>rw[List.map_cons,List.drop_succ_cons,List.drop_zero,List.headD_cons,ki];unfold sal one;simp
theorem vd (cs:List Nat):((cs.map one).map (fun y:Str=>y.length)).sum=cs.length:=by
 induction cs with
 | nil=>rfl
 | cons c cs ih=>rw[List.map_cons,List.map_cons,List.sum_cons,ih,List.length_cons,u9];omega
theorem oU {o:Bool}{cs:List Nat}(h:cs.length<=1000):jF .join (.str "") [.lst o ((cs.map one).map .str)]=.ok (.str (sal cs)):=by
 have e:(Str.ofString "").length=0:=by decide +kernel
 rw[Ev.u5 (by rw[vd,List.length_map,e];omega),join_one]
theorem mB {cs:List Nat}{j:Int}(h0:0<=j)(h1:j<=cs.length):Txt.slice (sal cs) none (some j)=sal (cs.take j.toNat):=by
 have:=StrLaws.sliceText_to (x:=sal cs) (j:=j) ⟨h0,by show j<=(cs.toArray.toList.length:Nat);simpa using h1⟩;refine this.trans ?_;show (⟨((cs.toArray.toList.drop 0).take (j - 0).toNat).toArray⟩:Str)=⟨(cs.take j.toNat).toArray⟩
 rw[List.toList_toArray,List.drop_zero,Int.sub_zero]
theorem p3 {cs:List Nat}{i j:Int}(h0:0<=i)(h1:i<=j)(h2:j<=cs.length):Txt.slice (sal cs) (some i) (some j)=sal ((cs.drop i.toNat).take (j - i).toNat):=by have:=StrLaws.sliceText_plain (x:=sal cs) (i:=i) (j:=j) ⟨h0,h1,by show j<=(cs.toArray.toList.length:Nat);simpa using h2⟩;refine this.trans ?_;show (⟨((cs.toArray.toList.drop i.toNat).take (j - i).toNat).toArray⟩:Str)=_;rw[List.toList_toArray];rfl
theorem ve (a b:List Nat):sal a++sal b=sal (a++b):=by
 show (⟨a.toArray++b.toArray⟩:Str)=⟨(a++b).toArray⟩
 rw[List.append_toArray]
theorem oV {a b:List Nat}(h:a.length+b.length<=1000):opB .add (.str (sal a)) (.str (sal b))=.ok (.str (sal (a++b))):=by rw[Ev.nA,Ev.kO (by rw[iU,iU];omega),ve];rfl
theorem kj (cs:List Nat):eM (sal cs)=(cs.map one).map .str:=by unfold eM sal one;rw[List.map_map];rfl
theorem zF {c:Nat}(h:low c):lK "abcdefghijklmnopqrstuvwxyz" (one c)=true:=by
 have:∀ k,k < 26->lK "abcdefghijklmnopqrstuvwxyz" (one (97+k))=true:=by decide +kernel
 obtain⟨h1,h2⟩:=h;rw[show c=97+(c - 97) by omega];exact this _ (by omega)
end Fr
end L2
local macro_rules | `(tactic| simp! [$xs,*]) => `(tactic| simp (disch := omega) only [L2.ev0, Nat.reduceBEq, Nat.reduceSub, Nat.reduceAdd, reduceIte, L2.Ev.rs0, L2.Ev.rss, L2.Ev.cq, L2.Ev.cu, ↓L2.Ev.fzI, ↓L2.Ev.fzS, ↓L2.Ev.fzN, L2.Ev.rfn, L2.Ev.rct, L2.Ev.rcn, cond_true, cond_false, List.map_cons, List.map_nil, List.cons_append, List.nil_append, Bool.true_or, Bool.false_or, L2.Ev.cH, L2.Ev.cI, L2.Ev.cJ, L2.Ev.cK, L2.Ev.cL, L2.Ev.cw, L2.Ev.cx, L2.Ev.cM, L2.Ev.cN, L2.Ev.bN, L2.Ev.aV, L2.Ev.cB, L2.Ev.cC, L2.Ev.bP, L2.Ev.bQ, L2.Ev.cA, L2.Ev.bR, L2.Ev.a7, L2.Ev.bT, L2.Ev.ag, L2.Ev.ba, L2.Ev.bb, L2.Ev.bc, L2.Ev.bU, L2.Ev.ah, L2.Ev.bg, L2.Ev.bh, L2.Ev.bV, L2.Ev.ai, L2.Ev.bj, L2.Ev.aj, L2.Ev.bo, L2.Ev.bp, L2.Ev.bq, L2.Ev.br, L2.Ev.bt, L2.Ev.bW, L2.Ev.ak, L2.Ev.bu, L2.Ev.aq, L2.Ev.ar, L2.Ev.au, L2.Ev.bw, L2.Ev.bx, L2.Ev.av, L2.Ev.aw, L2.Ev.bX, L2.Ev.bY, L2.Ev.bZ, L2.Ev.ax, L2.Ev.az, L2.Ev.aA, L2.Ev.aa, L2.Ev.ae, L2.Ev.aB, L2.Ev.bz, L2.Ev.bA, L2.Ev.bB, L2.Ev.b7, L2.Ev.cb, L2.Ev.bC, L2.Ev.cg, L2.Ev.cj, L2.Ev.bD, L2.Ev.bE, L2.Ev.bF, L2.Ev.ck, L2.Ev.cn, L2.Ev.bG, L2.Ev.aC, L2.Ev.aD, L2.Ev.aE, L2.Ev.aF, L2.Ev.aG, L2.Ev.aH, L2.Ev.aI, L2.Ev.aJ, L2.Ev.af, L2.Ev.bH, L2.Ev.bI, L2.Ev.aK, L2.Ev.aL, L2.Ev.aM, L2.Ev.aN, L2.Ev.aO, L2.Ev.aP, L2.Ev.aQ, L2.Ev.aR, L2.Ev.aT, L2.Ev.aZ, L2.Ev.bJ, L2.Ev.aX, L2.Ev.bK, L2.Ev.aU, L2.Ev.bL, L2.Ev.bM, L2.Ev.cv, L2.Ev.cy, L2.Ev.cz, L2.Ev.cD, $xs,*])
namespace Law
open PySem PySem.Spec L2 L2.Fr PyProof.Rows
theorem gx {n:Nat}{ds:List D}(f:Nat)(fn:Fn)(m k:Nat)(body:List IS)(h:T f=some fn)(h0:fn.io=false)(h1:fn.np=m)(h2:fn.G.N.length=k)(h3:fn.body=body)(hl:ds.length=m):aW T (n+1) f ds=bnd (cZ (aW T n) body (ds.map some++List.replicate (k - m) none)) Ev.sX:=Ev.go h h0 h1 h2 h3 hl
noncomputable def cel (ns:List Int)(k:Int):Int:=if 0 < ns.length then ns.getD (k % (ns.length:Int)).toNat 0 % 999983 else 0
noncomputable def dr (ns:List Int)(k m:Int):Int:=(cel ns k+17*k+5)*(48271+613*k*k) % 999983*(16807+271*k) % 1000003 % m
theorem Co (ns:List Int)(k:Int):0<=cel ns k/\cel ns k < 999983:=by
 unfold cel;split
 ·exact⟨Int.emod_nonneg _ (by decide),Int.emod_lt_of_pos _ (by decide)⟩
 ·decide
theorem jI (ns:List Int)(k:Int){m:Int}(h:0 < m):0<=dr ns k m:=Int.emod_nonneg _ (by omega)
theorem kP (ns:List Int)(k:Int){m:Int}(h:0 < m):dr ns k m < m:=Int.emod_lt_of_pos _ h
theorem fG (n:Nat)(ns:List Int)(k m:Int)(h0:0<=k)(h1:k<=5000)(hm:0 < m):aW T (n+1) 49 [.lst false (ns.map .int),.int k,.int m]=.ok (.int (dr ns k m)):=by
 rw[gx 49 d49 3 5 b49 rfl rfl rfl rfl rfl rfl];unfold b49;obtain⟨b0,b1⟩:=Co ns k;unfold dr;have lm:(ns.map D.int).length=ns.length:=List.length_map _;by_cases h:0 < ns.length
 ·have hd:decide ((0:Int) < (ns.length:Int))=true:=decide_eq_true (by omega);have c0:=Int.emod_nonneg k (show (ns.length:Int)≠0 by omega);have c1:=Int.emod_lt_of_pos k (show (0:Int) < (ns.length:Int) by omega);have ec:ns.getD (k % (ns.length:Int)).toNat 0 % 999983=cel ns k:=by unfold cel;rw[if_pos h]
  simp![lm,hd,ec]
 ·have hd:decide ((0:Int) < (ns.length:Int))=false:=decide_eq_false (by omega);have ec:cel ns k=0:=by unfold cel;rw[if_neg h]
  rw[ec];simp![lm,hd]
def Sl (cs:List Nat):Prop:=1<=cs.length/\cs.length<=12/\∀ c∈cs,low c
theorem vf (n:Nat){cs:List Nat}(h:Sl cs):aW T (n+1) 27 [.str (sal cs),.str "abcdefghijklmnopqrstuvwxyz",.int 1,.int 12]=.ok (.bl true):=by
 rw[gx 27 d27 4 4 b27 rfl rfl rfl rfl rfl rfl];unfold b27;obtain⟨h1,h2,h3⟩:=h;have e1:dv (dY (aW T n) (.nm 1) [] (.cmp .in_ (.v 1) (.v 0)) [some (.str "abcdefghijklmnopqrstuvwxyz"),none]) (eM (sal cs))=.ok ((cs.map fun c=>true).map .bl):=by rw[kj,List.map_map];refine Ev.dW (fun c:Nat=>D.str (one c)) (fun c=>true) .bl _ fun c hc=>?_;have:=zF (h3 c hc);simp![this]
 have ea:(cs.map fun _=>true).all id=true:=by rw[List.all_map];simp
 have lc:(eM (sal cs)).length=cs.length:=by rw[kj,List.length_map,List.length_map]
 have d1:decide ((1:Int)<=(cs.length:Int))=true:=decide_eq_true (by omega);have d2:decide ((cs.length:Int)<=12)=true:=decide_eq_true (by omega);have sl:=iU cs;simp![d1,d2,e1,ea,lc,sl]
theorem nG (n:Nat){cs:List Nat}(h:Sl cs):aW T (n+2) 29 [.str (sal cs)]=.ok .non:=by have e:=vf n h;rw[gx 29 d29 1 1 b29 rfl rfl rfl rfl rfl rfl];unfold b29;simp![e]
noncomputable def zs (m:Int):List Int:=(List.range (m - 0).toNat).map fun k=>(0:Int)+((k:Nat):Int)
theorem hJ {m x:Int}(h:x∈zs m):0<=x/\x < m:=by obtain⟨k,hk,rfl⟩:=List.mem_map.mp h;have:=List.mem_range.mp hk;omega
theorem fI (m:Int):(zs m).length=m.toNat:=by unfold zs;rw[List.length_map,List.length_range,Int.sub_zero]
theorem iB (m:Int):e8 0 m=(zs m).map .int:=Ev.mz 0 m
noncomputable def lt (ns:List Int)(k:Int)(j:Int):Nat:=97+(dr ns (k+j) 26).toNat
theorem tw (ns:List Int)(k j:Int):low (lt ns k j):=by have b0:=jI ns (k+j) (m:=26) (by decide);have b1:=kP ns (k+j) (m:=26) (by decide);unfold lt low;omega
theorem xq (n:Nat)(ns:List Int){k m:Int}(h0:0<=k)(h1:k<=2000)(hm:m<=100):dv (dY (aW T (n+1)) (.nm 3) [] (.idx (.v 0) (.call 49 [(.v 1),(.bin .add (.v 2) (.v 3)),(.c (.int 26))])) [some (.str "abcdefghijklmnopqrstuvwxyz"),some (.lst false (ns.map .int)),some (.int k),none]) ((zs m).map .int)=.ok ((((zs m).map (lt ns k)).map one).map .str):=by rw[List.map_map (f:=lt ns k) (g:=one)];refine Ev.dW .int (one ∘ lt ns k) .str _ fun j hj=>?_;have:=hJ hj;have d:=fG n ns (k+j) 26 (by omega) (by omega) (by decide);have ab:=tu (jI ns (k+j) (m:=26) (by decide)) (kP ns (k+j) (m:=26) (by decide));show _=Except.ok (some (D.str (one (97+(dr ns (k+j) 26).toNat))));simp![d,ab]
theorem vg (n:Nat)(ns:List Int){k:Int}(h0:0<=k)(h1:k<=1900):∃ cs:List Nat,aW T (n+2) 52 [.lst false (ns.map .int),.int k]=.ok (.str (sal cs))/\Sl cs:=by
 have d0:=fG n ns (k+13) 12 (by omega) (by omega) (by decide);have a0:=jI ns (k+13) (m:=12) (by decide);have a1:=kP ns (k+13) (m:=12) (by decide);generalize dr ns (k+13) 12=r at *;have fm:=xq n ns (m:=1+r) h0 (by omega) (by omega);have zl:=fI (1+r);have ln:((zs (1+r)).map (lt ns k)).length=(1+r).toNat:=by rw[List.length_map,zl]
 have hlow:∀ c∈(zs (1+r)).map (lt ns k),low c:=fun c hc=>by obtain⟨j,_,rfl⟩:=List.mem_map.mp hc;exact tw ns k j
 have rz:=iB (1+r);have lz:((zs (1+r)).map D.int).length=(1+r).toNat:=by rw[List.length_map,zl]
 generalize (zs (1+r)).map (lt ns k)=cs at *;refine⟨cs,?_,by omega,by omega,hlow⟩;have je:=oU (o:=true) (cs:=cs) (by omega);rw[gx 52 d52 2 3 b52 rfl rfl rfl rfl rfl rfl];unfold b52;simp![d0,rz,lz,fm,je]
theorem oW {a b:List Nat}(h:sal a=sal b):a=b:=by have:=congrArg (fun s:Str=>s.cps.toList) h;simpa[sal] using this
theorem jx {α:Type}(xs:List α){m:Int}(h:0<=m):iM xs (some m) none=xs.drop m.toNat:=by
 unfold iM HT.sIx;dsimp only;rw[if_neg (by omega)];by_cases hm:m.toNat<=xs.length
 ·rw[show min m.toNat xs.length=m.toNat from Nat.min_eq_left hm,List.take_of_length_le (by rw[List.length_drop];omega)]
 ·rw[show min m.toNat xs.length=xs.length from Nat.min_eq_right (by omega),List.drop_of_length_le (Nat.le_refl _),List.drop_of_length_le (by omega),List.take_nil]
theorem kQ {α β:Type}(f:α->β):∀ {l:List α},l.Nodup->(∀ x∈l,∀ y∈l,f x=f y->x=y)->(l.map f).Nodup
 | [],_,_=>List.nodup_nil
 | a::l,h,hf=>by rw[List.nodup_cons] at h;rw[List.map_cons,List.nodup_cons];refine⟨fun hm=>?_,kQ f h.2 fun x hx y hy=>hf x (List.mem_cons_of_mem _ hx) y (List.mem_cons_of_mem _ hy)⟩;obtain⟨b,hb,e⟩:=List.mem_map.mp hm;exact h.1 (hf b (List.mem_cons_of_mem _ hb) a List.mem_cons_self e ▸ hb)
theorem xr (m:Int):(zs m).Nodup:=kQ _ List.nodup_range fun x _ y _ e=>by omega
structure Nms (m:Int)(fs:List Str):Prop where
 len:fs.length=m.toNat
 nd:fs.Nodup
 lo:∀ f∈fs,∃ cs:List Nat,f=sal cs/\1<=cs.length/\cs.length<=8/\∀ c∈cs,low c
theorem oY {m t:Int}{fs:List Str}(h:Nms m fs):Nms m (fs.drop t.toNat++fs.take t.toNat):=by have p:(fs.drop t.toNat++fs.take t.toNat).Perm fs:=List.perm_append_comm.trans (by rw[List.take_append_drop]);exact⟨p.length_eq.trans h.len,p.nodup_iff.mpr h.nd,fun f hf=>h.lo f (p.mem_iff.mp hf)⟩
theorem tx (n:Nat)(ns:List Int){k m:Int}(h0:0<=k)(h1:k<=1900)(hm:1<=m)(hm8:m<=8):∃ fs:List Str,aW T (n+2) 51 [.lst false (ns.map .int),.int k,.int m]=.ok (.lst true (fs.map .str))/\Nms m fs:=by
 have fw:=xq n ns (k:=k) (m:=8) h0 (by omega) (by decide);have zl8:=fI 8;have lw:((zs 8).map (lt ns k)).length=8:=by rw[List.length_map,zl8];rfl
 have hlw:∀ c∈(zs 8).map (lt ns k),low c:=fun c hc=>by obtain⟨j,_,rfl⟩:=List.mem_map.mp hc;exact tw ns k j
 have rz8:=iB 8;have lz8:((zs 8).map D.int).length=8:=by rw[List.length_map,zl8];rfl
 generalize (zs 8).map (lt ns k)=cs at *;have je:=oU (o:=true) (cs:=cs) (by omega);have d8:=fG n ns (k+8) m (by omega) (by omega) (by omega);have t0:=jI ns (k+8) (m:=m) (by omega);generalize dr ns (k+8) m=t at *;have rzm:=iB m;have zlm:=fI m;have lzm:((zs m).map D.int).length=m.toNat:=by rw[List.length_map,zlm]
 have sl:=iU cs
 -- the beginnings of the word
 have f1:dv (dY (aW T (n+1)) (.nm 1) [] (.sl (.v 0) none (some (.bin .add (.v 1) (.c (.int 1))))) [some (.str (sal cs)),none]) ((zs m).map .int)=.ok (((zs m).map fun j=>sal (cs.take (j+1).toNat)).map .str):=by refine Ev.dW .int (fun j=>sal (cs.take (j+1).toNat)) .str _ fun j hj=>?_;have:=hJ hj;have s:=mB (cs:=cs) (j:=j+1) (by omega) (by omega);simp![s,sl]
 have n1:Nms m ((zs m).map fun j=>sal (cs.take (j+1).toNat)):=by
  refine⟨by rw[List.length_map,zlm],kQ _ (xr m) fun x hx y hy e=>?_,fun f hf=>?_⟩
  ·have:=congrArg List.length (oW e);rw[List.length_take,List.length_take] at this;have:=hJ hx;have:=hJ hy;omega
  ·obtain⟨j,hj,rfl⟩:=List.mem_map.mp hf;have:=hJ hj;exact⟨_,rfl,by rw[List.length_take];omega,by rw[List.length_take];omega,fun c hc=>hlw c (List.mem_of_mem_take hc)⟩
 generalize (zs m).map (fun j=>sal (cs.take (j+1).toNat))=fs1 at *;have lf1:cU (fs1.map D.str)=true:=Ev.mr fs1;have d9:=fG n ns (k+9) 2 (by omega) (by omega) (by decide);generalize dr ns (k+9) 2=q at *;cases hq:(q == 0) with
 | false=>
  have rn:=oY (t:=t) n1;have l1:fs1.length=m.toNat:=n1.len;have c1:=jx fs1 t0;have c2:=Ev.ti fs1 t0;have la:(fs1.drop t.toNat).length<=8:=by rw[List.length_drop];omega
  have lb:(fs1.take t.toNat).length<=8:=by rw[List.length_take];omega
  refine⟨fs1.drop t.toNat++fs1.take t.toNat,?_,rn⟩;generalize fs1.drop t.toNat=A at *;generalize fs1.take t.toNat=B at *;have lA:(A.map D.str).length=A.length:=List.length_map _;have lB:(B.map D.str).length=B.length:=List.length_map _;have lab:cU (A.map D.str++B.map D.str)=true:=by rw[<- List.map_append];exact Ev.mr _
  rw[gx 51 d51 3 10 b51 rfl rfl rfl rfl rfl rfl];unfold b51;simp![rz8,lz8,fw,je,d8,rzm,lzm,f1,d9,hq,Ev.jw,c1,c2,lA,lB,lab,List.map_append]
 | true=>
  have d10:=fG n ns (k+10) 8 (by omega) (by omega) (by decide);have a0:=jI ns (k+10) (m:=8) (by decide);have a1:=kP ns (k+10) (m:=8) (by decide);generalize dr ns (k+10) 8=r at *;have d11:=fG n ns (k+11) (1+r) (by omega) (by omega) (by omega);have p0:=jI ns (k+11) (m:=1+r) (by omega);have p1:=kP ns (k+11) (m:=1+r) (by omega);generalize dr ns (k+11) (1+r)=p at *;have d12:=fG n ns (k+12) 26 (by omega) (by omega) (by decide);generalize dr ns (k+12) 26=st at *;have f2:dv (dY (aW T (n+1)) (.nm 3) [] (.idx (.v 0) (.bin .mod (.bin .add (.call 49 [(.v 1),(.bin .add (.v 2) (.c (.int 12))),(.c (.int 26))]) (.bin .mul (.c (.int 7)) (.v 3))) (.c (.int 26)))) [some (.str "abcdefghijklmnopqrstuvwxyz"),some (.lst false (ns.map .int)),some (.int k),none]) ((zs m).map .int)=.ok (((zs m).map fun j=>one (97+((st+7*j) % 26).toNat)).map .str):=by refine Ev.dW .int (fun j=>one (97+((st+7*j) % 26).toNat)) .str _ fun j hj=>?_;have ab:=tu (Int.emod_nonneg (st+7*j) (show (26:Int)≠0 by decide)) (Int.emod_lt_of_pos (st+7*j) (show (0:Int) < 26 by decide));simp![d12,ab]
  have s1:=mB (cs:=cs) (j:=p) p0 (by omega);have s2:=p3 (cs:=cs) (i:=p+1) (j:=1+r) (by omega) (by omega) (by omega);have l1:(cs.take p.toNat).length=p.toNat:=by rw[List.length_take];omega
  have l2:((cs.drop (p+1).toNat).take (1+r - (p+1)).toNat).length=(1+r - (p+1)).toNat:=by rw[List.length_take,List.length_drop];omega
  have lo1:∀ c∈cs.take p.toNat,low c:=fun c hc=>hlw c (List.mem_of_mem_take hc);have lo2:∀ c∈(cs.drop (p+1).toNat).take (1+r - (p+1)).toNat,low c:=fun c hc=>hlw c (List.mem_of_mem_drop (List.mem_of_mem_take hc));generalize cs.take p.toNat=X at *;generalize (cs.drop (p+1).toNat).take (1+r - (p+1)).toNat=Y at *;have f3:dv (dY (aW T (n+1)) (.nm 3) [] (.bin .add (.bin .add (.sl (.v 0) none (some (.v 1))) (.v 3)) (.sl (.v 0) (some (.bin .add (.v 1) (.c (.int 1)))) (some (.v 2)))) [some (.str (sal cs)),some (.int p),some (.int (1+r)),none]) (((zs m).map fun j=>one (97+((st+7*j) % 26).toNat)).map .str)=.ok (((zs m).map fun j=>sal (X++[97+((st+7*j) % 26).toNat]++Y)).map .str):=by rw[List.map_map (g:=D.str) (f:=fun j=>one (97+((st+7*j) % 26).toNat))];refine Ev.dW _ (fun j=>sal (X++[97+((st+7*j) % 26).toNat]++Y)) .str _ fun j hj=>?_;have q1:=oV (a:=X) (b:=[97+((st+7*j) % 26).toNat]) (by rw[List.length_singleton];omega);have q2:=oV (a:=X++[97+((st+7*j) % 26).toNat]) (b:=Y) (by rw[List.length_append,List.length_singleton];omega);show dY _ _ _ _ _ (D.str (sal [97+((st+7*j) % 26).toNat]))=_;simp![s1,s2,sl,q1,q2]
  have n2:Nms m ((zs m).map fun j=>sal (X++[97+((st+7*j) % 26).toNat]++Y)):=by
   refine⟨by rw[List.length_map,zlm],kQ _ (xr m) fun x hx y hy e=>?_,fun f hf=>?_⟩
   ·have h1:=List.append_cancel_right (oW e);have h2:=List.append_cancel_left h1;have h3:97+((st+7*x) % 26).toNat=97+((st+7*y) % 26).toNat:=List.head_eq_of_cons_eq h2;have:=hJ hx;have:=hJ hy;omega
   ·obtain⟨j,hj,rfl⟩:=List.mem_map.mp hf;refine⟨_,rfl,by simp only[List.length_append,List.length_singleton];omega,by simp only[List.length_append,List.length_singleton];omega,fun c hc=>?_⟩;rcases List.mem_append.mp hc with hc|hc
    ·rcases List.mem_append.mp hc with hc|hc
     ·exact lo1 c hc
     ·rw[List.mem_singleton.mp hc];unfold low;omega
    ·exact lo2 c hc
  have er2:ers (((zs m).map fun j=>one (97+((st+7*j) % 26).toNat)).map D.str)=((zs m).map fun j=>one (97+((st+7*j) % 26).toNat)).map D.str:=Ev.nC _;have l3:((zs m).map fun j=>one (97+((st+7*j) % 26).toNat)).length=m.toNat:=by rw[List.length_map,zlm]
  generalize (zs m).map (fun j=>one (97+((st+7*j) % 26).toNat))=gs at *;generalize (zs m).map (fun j=>sal (X++[97+((st+7*j) % 26).toNat]++Y))=fs2 at *;have lg:cU (gs.map D.str)=true:=Ev.mr gs;have lg':(gs.map D.str).length=m.toNat:=by rw[List.length_map,l3]
  have lf2:cU (fs2.map D.str)=true:=Ev.mr fs2;have rn:=oY (t:=t) n2;have l4:fs2.length=m.toNat:=n2.len;have c1:=jx fs2 t0;have c2:=Ev.ti fs2 t0;have la:(fs2.drop t.toNat).length<=8:=by rw[List.length_drop];omega
  have lb:(fs2.take t.toNat).length<=8:=by rw[List.length_take];omega
  refine⟨fs2.drop t.toNat++fs2.take t.toNat,?_,rn⟩;generalize fs2.drop t.toNat=A at *;generalize fs2.take t.toNat=B at *;have lA:(A.map D.str).length=A.length:=List.length_map _;have lB:(B.map D.str).length=B.length:=List.length_map _;have lab:cU (A.map D.str++B.map D.str)=true:=by rw[<- List.map_append];exact Ev.mr _
  rw[gx 51 d51 3 10 b51 rfl rfl rfl rfl rfl rfl];unfold b51;simp![rz8,lz8,fw,je,d8,rzm,lzm,f1,d9,hq,d10,d11,f2,lg',er2,f3,Ev.jw,c1,c2,lA,lB,lab,List.map_append]
theorem tB (w:Str):∀ ws:List Str,anyN (.str w) (ws.map .str)=.ok (decide (w∈ws))
 | []=>rfl
 | v::ws=>by
  have e:decide (w∈v::ws)=((v == w)||decide (w∈ws)):=by
   by_cases h:v=w
   ·subst h;simp
   ·have h':¬ w=v:=fun z=>h z.symm;simp[h,h',beq_eq_false_iff_ne.mpr h]
  rw[e,List.map_cons];have ih:=tB w ws;simp![ih]
noncomputable def cnK {β:Type}(d:β)(r:List β):Res (List β):=.ok (d::r)
theorem kl {β:Type}{d:β}{r:List β}:cnK d r=.ok (d::r):=rfl
noncomputable def fmK {α β:Type}(g:α->Res (Option β))(xs:List α):Option β->Res (List β)
 | some d=>bnd (dv g xs) (cnK d)
 | none=>dv g xs
theorem jy {α β:Type}{g:α->Res (Option β)}{xs:List α}{d:β}:fmK g xs (some d)=bnd (dv g xs) (cnK d):=rfl
theorem jz {α β:Type}{g:α->Res (Option β)}{xs:List α}:fmK g xs none=dv g xs:=rfl
theorem jA {α β:Type}{g:α->Res (Option β)}:dv g []=.ok []:=rfl
theorem nH {α β:Type}{g:α->Res (Option β)}{x:α}{xs:List α}:dv g (x::xs)=bnd (g x) (fmK g xs):=by show bnd (g x) _=_;congr 1
noncomputable def eD (s f:Str)(b:Bool):D:=.tup [.tup [.str s,.str f,.lst false [],.tup [.lst false [],.lst false [.tup [.int 0,.int 10007]]]],.lst false [],.bl b]
noncomputable def wD (x s f:Str)(b:Bool):D:=.tup [.str x,eD s f b]
noncomputable def hD (ws:List D):D:=.tup [.lst false [],.lst false [],.lst false ws]
theorem at0 {a:D}{l:List D}:atI (a::l) 0=some a:=(Ev.gU (xs:=a::l) (i:=0) .non (by decide) (by rw[List.length_cons];omega)).trans rfl
theorem at1 {a b:D}{l:List D}:atI (a::b::l) 1=some b:=(Ev.gU (xs:=a::b::l) (i:=1) .non (by decide) (by rw[List.length_cons,List.length_cons];omega)).trans rfl
theorem at2 {a b c:D}{l:List D}:atI (a::b::c::l) 2=some c:=(Ev.gU (xs:=a::b::c::l) (i:=2) .non (by decide) (by rw[List.length_cons,List.length_cons,List.length_cons];omega)).trans rfl
theorem Cp (n:Nat){cs:List Nat}(h:Sl cs)(f:Str):aW T (n+3) 31 [.lst false [],.tup [.str (sal cs),.str f,.lst false [],.tup [.lst false [],.lst false [.tup [.int 0,.int 10007]]]]]=.ok (.bl true):=by have e:=nG n h;rw[gx 31 d31 2 5 b31 rfl rfl rfl rfl rfl rfl];unfold b31;simp![e,at0,at2]
theorem xu (n:Nat){o:Bool}{x:Str}:aW T (n+1) 32 [.str x,.lst o []]=.ok .non:=by rw[gx 32 d32 2 2 b32 rfl rfl rfl rfl rfl rfl];unfold b32;simp![ev0]
theorem vi (n:Nat){o:Bool}{x:Str}:aW T (n+1) 33 [.str x,.lst o [.str x]]=.ok .non:=by rw[gx 33 d33 2 2 b33 rfl rfl rfl rfl rfl rfl];unfold b33;simp![ev0]
theorem p5 (n:Nat):aW T (n+1) 34 [.lst false []]=.ok .non:=by rw[gx 34 d34 1 6 b34 rfl rfl rfl rfl rfl rfl];unfold b34;rfl
theorem tD (n:Nat)(d:D):aW T (n+1) 35 [.lst false [],d]=.ok .non:=by rw[gx 35 d35 2 9 b35 rfl rfl rfl rfl rfl rfl];unfold b35;rfl
theorem zG (n:Nat){cs:List Nat}(h:Sl cs)(x f:Str)(b:Bool):aW T (n+4) 36 [.lst false [wD x (sal cs) f b],.lst false [],.lst false [.str x]]=.ok .non:=by have e1:=xu (n+2) (o:=false) (x:=x);have e2:=Cp n h f;unfold wD eD;rw[gx 36 d36 3 8 b36 rfl rfl rfl rfl rfl rfl];unfold b36;simp![e1,e2,at0,at1,Ev.eE]
noncomputable def wK (t:Ev->Res Bool)(b:Ev->Res Fl)(n:Nat):Fl->Res Fl
 | .nx τ'=>dH t b n τ'
 | .ct τ'=>dH t b n τ'
 | .bk τ'=>.ok (.nx τ')
 | .rt d=>.ok (.rt d)
 | .ri d ks vs=>.ok (.ri d ks vs)
 | .ro d o=>.ok (.ro d o)
theorem xw {t:Ev->Res Bool}{b:Ev->Res Fl}{n:Nat}{τ:Ev}:wK t b n (.nx τ)=dH t b n τ:=rfl
theorem Cq {t:Ev->Res Bool}{b:Ev->Res Fl}{n:Nat}{d:D}:wK t b n (.rt d)=.ok (.rt d):=rfl
theorem zH {t:Ev->Res Bool}{b:Ev->Res Fl}{n:Nat}{τ:Ev}(h:t τ=.ok true):dH t b (n+1) τ=bnd (b τ) (wK t b n):=by
 unfold dH;rw[h];have e:(fun x=>match x with|Fl.nx τ'=>dH t b n τ'|Fl.ct τ'=>dH t b n τ'|Fl.bk τ'=>Except.ok (Fl.nx τ')|Fl.rt d=>Except.ok (Fl.rt d)|Fl.ri d ks vs=>Except.ok (Fl.ri d ks vs)|Fl.ro d o=>Except.ok (Fl.ro d o))=wK t b n:=by funext fl;cases fl<;>rfl
 rw[<- e];rfl
theorem Dj {t:Ev->Res Bool}{b:Ev->Res Fl}{n:Nat}{τ:Ev}(h:t τ=.ok false):dH t b (n+1) τ=.ok (.nx τ):=by unfold dH;rw[h];rfl
noncomputable def tTd:List IS:=[(.asg (.nm 2) (.comp {N:=["needs","tied","name"],kd:=[.cell,.cell,.local],gl:=[10],df:=false} [0,1] (.nm 2) (.val (.v 1)) [(.bi .any [(.comp {N:=["tied","needed"],kd:=[.cell,.local],gl:=[],df:=false} [1] (.nm 1) (.val (.dget (.v 0) (.v 2))) [] (.cmp .in_ (.v 1) (.v 0)))])] (.v 2))),(.if_ (.cmp .eq (.v 2) (.v 1)) [(.ret (.v 1))] []),(.asg (.nm 1) (.v 2))]
theorem xx {o:Bool}{x:Str}{d:D}:lM (.dct o [.inr x] [d]) (.str x)=.ok d:=by
 show (match look [.inr x] [d] (.inr x) with|some d=>.ok d|none=>stk)=(_:Res D)
 rw[show look [.inr x] [d] (.inr x)=some d from if_pos rfl]
theorem Cr {o:Bool}{x:Str}{d:D}:nX (.lst o [.tup [.str x,d]])=.ok (.dct true [.inr x] [d]):=rfl
theorem Cs {o:Bool}:fK .any [.lst o []]=.ok (.bl false):=rfl
theorem Dk (n:Nat)(x:Str)(o:Bool)(y:Option D):cZ (aW T n) tTd [some (.dct false [.inr x] [.lst false []]),some (.lst o [.str x]),y]=.ok (.nx [some (.dct false [.inr x] [.lst false []]),some (.lst false []),some (.lst false [])]):=by unfold tTd;simp![xx,Cs,jA,nH,jy,jz,kl]
theorem Dl (n:Nat)(x:Str)(o:Bool)(y:Option D):cZ (aW T n) tTd [some (.dct false [.inr x] [.lst false []]),some (.lst o []),y]=.ok (.rt (.lst o [])):=by unfold tTd;simp![jA]
theorem vj (n:Nat)(x:Str):aW T (n+1) 37 [.dct false [.inr x] [.lst false []]]=.ok (.lst false []):=by
 have e:dH (evT (aW T n) (.c (.bl true))) (cZ (aW T n) tTd) jX [some (.dct false [.inr x] [.lst false []]),some (.lst true [.str x]),none]=.ok (.rt (.lst false [])):=by show dH _ _ (999998+1+1) _=_;rw[zH rfl,Dk,Ev.rbk,xw,zH rfl,Dl,Ev.rbk,Cq]
 unfold tTd at e;rw[gx 37 d37 1 3 b37 rfl rfl rfl rfl rfl rfl];unfold b37;have eu:uB (.inr x)=.str x:=rfl;simp![eu,e]
theorem Dm {cl:Nat->List D->Res D}{e:IR}(hv:vars e=[3]){A z:Option D}{x:Str}{ent d:D} :
  Ev.BL cl 1 (.v 2) e [A,some (.dct true [] []),some (.str x),some ent,z] d=.ok (.nx [A,some (.dct true [.inr x] [er d]),some (.str x),some (er ent),z]):=by
 show bnd (evR cl (.v 2) (frz (vars e) [A,some (.dct true [] []),some (.str x),some ent,z])) (fun y=>Ev.uZ 1 e [A,some (.dct true [] []),some (.str x),some ent,z] d [] [] (i9 y))=_;rw[hv];show Ev.uZ 1 e [A,some (.dct true [] []),some (.str x),some ent,z] d [] [] (some (.inr x))=_;unfold Ev.uZ;rw[hv,Ev.nD (by decide)];rfl
theorem erd {o:Bool}{ks:List Key}{ds:List D}:er (.dct o ks ds)=.dct false ks (ers ds):=by rw[er]
theorem tE (n:Nat)(x s f:Str)(b:Bool):aW T (n+2) 38 [.lst false [wD x s f b]]=.ok .non:=by have e:=vj n x;have e2:opC .ne (.lst false []) (.lst true [])=.ok false:=rfl;unfold wD eD;rw[gx 38 d38 1 5 b38 rfl rfl rfl rfl rfl rfl];unfold b38;simp![e,e2,erd,at0,at1,Ev.eE,jA,Dm (show vars (.comp _ [] _ (.val (.idx (.v 3) (.c (.int 1)))) [] _)=[3] from rfl)]
theorem mC (n:Nat){cs:List Nat}(h:Sl cs)(x f:Str)(b:Bool):aW T (n+5) 39 [hD [wD x (sal cs) f b]]=.ok (.bl true):=by have e1:=p5 (n+3);have e2:=tD (n+3) (.lst false [.str x]);have e3:=zG n h x f b;have e4:=tE (n+2) x (sal cs) f b;unfold hD;unfold wD eD at *;rw[gx 39 d39 1 2 b39 rfl rfl rfl rfl rfl rfl];unfold b39;simp![e1,e2,e3,e4,at0,at1,at2,jA,nH,jy,jz,kl]
noncomputable def DE:D:=.tup [.str "group",.str "put",.str "rules",.str "needs",.str "shares",.str "stop",.str "go",.str "hold",.str "free",.str "drop"]
noncomputable def DS:D:=.tup [.str "rules",.str "needs",.str "shares",.str "stop",.str "go",.str "drop"]
structure Wd (w:Str)(b:Bool):Prop where
 put:(w == "put")=false
 hold:(w == "hold")=false
 free:(w == "free")=false
 group:(w == "group")=false
 drop:(w == "drop")=false
 rules:(w == "rules")=false
 shares:(w == "shares")=false
 needs:(w == "needs")=false
 stop:(w == "stop")=b
 nin:opC .nin (.str w) DE=.ok false
 inn:opC .in_ (.str w) DS=.ok true
theorem nJ {w:Str}{ws:List Str}(h:decide (w∈ws)=true):opC .nin (.str w) (.tup (ws.map .str))=.ok false:=by show bnd (anyN (.str w) (ws.map .str)) _=_;rw[tB,h];rfl
theorem in_of {w:Str}{ws:List Str}{b:Bool}(h:decide (w∈ws)=b):opC .in_ (.str w) (.tup (ws.map .str))=.ok b:=by show anyN (.str w) (ws.map .str)=_;rw[tB,h]
theorem vm:Wd "stop" true:=⟨by decide +kernel,by decide +kernel,by decide +kernel,by decide +kernel,by decide +kernel,by decide +kernel,by decide +kernel,by decide +kernel,by decide +kernel,nJ (ws:=["group","put","rules","needs","shares","stop","go","hold","free","drop"]) (by decide +kernel),in_of (ws:=["rules","needs","shares","stop","go","drop"]) (by decide +kernel)⟩
theorem Ct:Wd "go" false:=⟨by decide +kernel,by decide +kernel,by decide +kernel,by decide +kernel,by decide +kernel,by decide +kernel,by decide +kernel,by decide +kernel,by decide +kernel,nJ (ws:=["group","put","rules","needs","shares","stop","go","hold","free","drop"]) (by decide +kernel),in_of (ws:=["rules","needs","shares","stop","go","drop"]) (by decide +kernel)⟩
theorem oZ (n:Nat){o:Bool}(x:Str)(d:D)(hd:er d=d):aW T (n+1) 40 [.lst o [.tup [.str x,d]]]=.ok (.lst true [.str x]):=by rw[gx 40 d40 1 1 b40 rfl rfl rfl rfl rfl rfl];unfold b40;simp![at0,jA,nH,jy,jz,kl]
theorem vn (n:Nat){o:Bool}:aW T (n+1) 40 [.lst o []]=.ok (.lst true []):=by rw[gx 40 d40 1 1 b40 rfl rfl rfl rfl rfl rfl];unfold b40;simp![jA]
theorem mD (s f:Str)(b:Bool):er (eD s f b)=eD s f b:=by unfold eD;simp![ev0]
theorem zJ (n:Nat){w x s f:Str}{b b':Bool}(hw:Wd w b'):aW T (n+2) 41 [hD [wD x s f b],.tup [.str w,.str x]]=.ok .non:=by have e1:=oZ n (o:=false) x (eD s f b) (mD s f b);have e2:=vi n (o:=false) (x:=x);have h1:=hw.nin;have h2:=hw.inn;unfold DE at h1;unfold DS at h2;unfold hD;unfold wD;have ee:=mD s f b;generalize eD s f b=E at *;rw[gx 41 d41 2 4 b41 rfl rfl rfl rfl rfl rfl];unfold b41;simp![at0,at1,at2,h1,h2,hw.put,hw.hold,hw.free,e1,e2,ee]
noncomputable def putD (x s f:Str):D:=.tup [.str "put",.str x,.str s,.str f,.lst false []]
theorem mE:(Str.ofString "put" == Str.ofString "hold")=false/\(Str.ofString "put" == Str.ofString "free")=false/\(Str.ofString "put" == Str.ofString "group")=false:=by decide +kernel
theorem Cu:opC .nin (.str "put") DE=.ok false:=nJ (ws:=["group","put","rules","needs","shares","stop","go","hold","free","drop"]) (by decide +kernel)
theorem Dq:opC .in_ (.str "put") DS=.ok false:=in_of (ws:=["rules","needs","shares","stop","go","drop"]) (by decide +kernel)
theorem zK (n:Nat)(x s f:Str):aW T (n+2) 41 [hD [],putD x s f]=.ok .non:=by have e1:=vn n (o:=false);have e2:=xu n (o:=false) (x:=x);have h1:=Cu;have h2:=Dq;unfold DE at h1;unfold DS at h2;unfold hD putD;rw[gx 41 d41 2 4 b41 rfl rfl rfl rfl rfl rfl];unfold b41;simp![at0,at1,at2,h1,h2,mE.1,mE.2.1,e1,e2]
theorem at3 {a b c d:D}{l:List D}:atI (a::b::c::d::l) 3=some d:=(Ev.gU (xs:=a::b::c::d::l) (i:=3) .non (by decide) (by simp only[List.length_cons];omega)).trans rfl
theorem at4 {a b c d e:D}{l:List D}:atI (a::b::c::d::e::l) 4=some e:=(Ev.gU (xs:=a::b::c::d::e::l) (i:=4) .non (by decide) (by simp only[List.length_cons];omega)).trans rfl
theorem anew (n:Nat):aW T (n+1) 30 [.lst false []]=.ok (.tup [.lst true [],.lst true [.tup [.int 0,.int 10007]]]):=by have e:nW (.lst false [])=.ok (.int 0):=rfl;have d0:decide ((0:Int) < 0)=false:=rfl;have l0:((0:Nat):Int)=0:=rfl;rw[gx 30 d30 1 1 b30 rfl rfl rfl rfl rfl rfl];unfold b30;simp![e,jA,l0,d0]
theorem vp (n:Nat)(s f:Str):∃ d,aW T (n+2) 43 [.str s,.str f,.lst false []]=.ok d/\er d=eD s f false:=by
 have e:=anew n;refine⟨.tup [.tup [.str s,.str f,.lst true [],.tup [.lst true [],.lst true [.tup [.int 0,.int 10007]]]],.lst true [],.bl false],?_,?_⟩
 ·rw[gx 43 d43 3 3 b43 rfl rfl rfl rfl rfl rfl];unfold b43;simp![e]
 ·unfold eD;simp![ev0]
theorem Cv (n:Nat)(x s f:Str):aW T (n+3) 45 [.lst false [],putD x s f]=.ok (.lst true [wD x s f false]):=by
 obtain⟨d,e,h⟩:=vp n s f;have h':dE d=false:=by
  cases z:dE d with
  | false=>rfl
  | true=>rw[lH z] at h;rw[h] at z;unfold eD at z;cases z
 unfold putD wD;rw[gx 45 d45 2 3 b45 rfl rfl rfl rfl rfl rfl];unfold b45;simp![at0,at1,at2,at3,at4,e,h,h']
theorem vq (n:Nat)(x s f:Str):aW T (n+4) 46 [hD [],putD x s f]=.ok (.tup [.lst false [],.lst false [],.lst true [wD x s f false]]):=by have e:=Cv n x s f;unfold hD;unfold putD at *;have hao:dP (.lst true [wD x s f false])=false:=rfl;rw[gx 46 d46 2 3 b46 rfl rfl rfl rfl rfl rfl];unfold b46;simp![at0,at1,at2,mE.1,mE.2.1,mE.2.2,e,hao]
theorem Cw (n:Nat){w x s f:Str}{b b':Bool}(hw:Wd w b'):aW T (n+1) 44 [eD s f b,.tup [.str w,.str x]]=.ok (eD s f b'):=by unfold eD;rw[gx 44 d44 2 4 b44 rfl rfl rfl rfl rfl rfl];unfold b44;simp![at0,at1,at2,hw.rules,hw.shares,hw.needs,hw.stop]
theorem vt (n:Nat)(x:Str){d d':D}(hd:er d=d)(hd':er d'=d')(hl:dE d'=false):aW T (n+2) 42 [.lst false [.tup [.str x,d]],.str x,d']=.ok (.lst true [.tup [.str x,d']]):=by
 have e:=oZ n (o:=false) x d hd;have e2:opC .nin (.str x) (.lst true [.str x])=.ok false:=by simp![ev0]
 rw[gx 42 d42 3 3 b42 rfl rfl rfl rfl rfl rfl];unfold b42;simp![at0,e,e2,hd,hd',jA,nH,jy,jz,kl,hl]
theorem Cz (n:Nat){w x s f:Str}{b b':Bool}(hw:Wd w b'):aW T (n+3) 45 [.lst false [wD x s f b],.tup [.str w,.str x]]=.ok (.lst true [wD x s f b']):=by have e1:=Cw (n+1) (x:=x) (s:=s) (f:=f) (b:=b) hw;have e2:=vt n x (mD s f b) (mD s f b') rfl;have ee:=mD s f b;have ee':=mD s f b';have hao:dP (eD s f b')=false:=rfl;unfold wD;generalize eD s f b=E at *;generalize eD s f b'=E' at *;rw[gx 45 d45 2 3 b45 rfl rfl rfl rfl rfl rfl];unfold b45;simp![at0,at1,hw.put,hw.drop,Cr,xx,ee,ee',e1,e2,hao]
theorem vv (n:Nat){w x s f:Str}{b b':Bool}(hw:Wd w b'):aW T (n+4) 46 [hD [wD x s f b],.tup [.str w,.str x]]=.ok (.tup [.lst false [],.lst false [],.lst true [wD x s f b']]):=by
 have e:=Cz n (x:=x) (s:=s) (f:=f) (b:=b) hw;unfold hD;have hao:dP (.lst true [wD x s f b'])=false:=rfl;have ew:er (wD x s f b)=wD x s f b:=by unfold wD;simp![mD]
 generalize wD x s f b=W at *;rw[gx 46 d46 2 3 b46 rfl rfl rfl rfl rfl rfl];unfold b46;simp![at0,at1,at2,hw.group,hw.hold,hw.free,e,hao,ew]
theorem iC (n:Nat)(x:Str):aW T (n+1) 28 [.str x]=.ok (.str x):=by rw[gx 28 d28 1 1 b28 rfl rfl rfl rfl rfl rfl];unfold b28;simp![ev0]
theorem zM (n:Nat):aW T (n+1) 28 [.lst false []]=.ok (.lst true []):=by rw[gx 28 d28 1 1 b28 rfl rfl rfl rfl rfl rfl];unfold b28;simp![jA]
theorem zN (n:Nat)(w x:Str):aW T (n+2) 28 [.tup [.str w,.str x]]=.ok (.tup [.str w,.str x]):=by have e1:=iC n w;have e2:=iC n x;rw[gx 28 d28 1 1 b28 rfl rfl rfl rfl rfl rfl];unfold b28;simp![e1,e2,jA,nH,jy,jz,kl]
theorem zP (n:Nat)(x s f:Str):aW T (n+2) 28 [putD x s f]=.ok (putD x s f):=by have e1:=iC n x;have e2:=iC n s;have e3:=iC n f;have e4:=iC n "put";have e5:=zM n;unfold putD;rw[gx 28 d28 1 1 b28 rfl rfl rfl rfl rfl rfl];unfold b28;simp![e1,e2,e3,e4,e5,jA,nH,jy,jz,kl]
noncomputable def bkD (o:Bool)(dl hl:List D):D:=.obj o "Book" ["deeds","houses"] [.lst o dl,.lst o hl]
theorem iD (c:Str):([c]:List Str).contains c=true:=by show (c == c||false)=true;rw[beq_self_eq_true];rfl
theorem CA {a b:D}:cS ["deeds","houses"] [a,b] "deeds" = some a:=rfl
theorem Dr {a b:D}:cS ["deeds","houses"] [a,b] "houses" = some b:=by show (if Str.ofString "deeds" = Str.ofString "houses" then some a else if Str.ofString "houses" = Str.ofString "houses" then some b else none)=_;rw[if_neg (by decide +kernel),if_pos rfl]
theorem CB {a b d:D}:dh "deeds" d ["deeds","houses"] [a,b]=[d,b]:=rfl
theorem put_h {a b d:D}:dh "houses" d ["deeds","houses"] [a,b]=[a,d]:=by show (if Str.ofString "deeds" = Str.ofString "houses" then d::[b] else a::(if Str.ofString "houses" = Str.ofString "houses" then d::[] else b::[d]))=_;rw[if_neg (by decide +kernel),if_pos rfl]
theorem iE (n:Nat)(dl hl:List D):aW T (n+1) 62 [bkD false dl hl]=.ok (.int dl.length):=by unfold bkD;rw[gx 62 d62 1 1 b62 rfl rfl rfl rfl rfl rfl];unfold b62;simp![Ev.aX (iD _) CA]
theorem vw (l:List D)(d:D):atI (l++[d]) (-1)=some d:=by unfold atI ixN;rw[List.length_append,List.length_singleton,if_neg (by decide),if_pos (by omega),show (-1+((l.length+1:Nat):Int)).toNat=l.length by omega];show (l++[d])[l.length]? = some d;rw[List.getElem?_append_right (Nat.le_refl _),Nat.sub_self];rfl
theorem zQ:(["deeds","houses"]:List Str).contains "moment" = false:=by decide +kernel
mutual
theorem o4:∀ d:D,gM (er d)=true
 | .non=>rfl
 | .bl _=>rfl
 | .int _=>rfl
 | .str _=>rfl
 | .exc _=>rfl
 | .tup ds=>by rw[er];exact fP ds
 | .lst _ ds=>by rw[er];exact fP ds
 | .dct _ ks ds=>by rw[er];exact fP ds
 | .obj _ c ks ds=>by rw[er];exact fP ds
theorem fP:∀ ds:List D,fu (ers ds)=true
 | []=>rfl
 | d::ds=>by rw[ers];show (gM (er d)&&fu (ers ds))=true;rw[o4 d,fP ds];rfl
end
theorem jB (n:Nat)(dl hl:List D)(h deed h1 h2:D)(hh:er h=h)(hd:er deed=deed)(ls:dl.length < 1000)(lh:hl.length < 1000)
  (e1:aW T (n+5) 41 [h,deed]=.ok .non) (e2:aW T (n+5) 46 [h,deed]=.ok h1) (e3:aW T (n+5) 39 [er h1]=.ok (.bl true)) (e4:aW T (n+5) 28 [deed]=.ok deed) :
  aW T (n+6) 61 [bkD true dl (hl++[h]),deed]=.ok (.tup [.int ((dl.length+1:Nat):Int),bkD true (dl++[deed]) (hl++[h]++[er h1])]):=by
 have a:=vw hl h;have nw:gM h=true:=by rw[<- hh];exact o4 h
 have em:=iE (n+4) (ers (dl++[deed])) (ers (hl++[h]++[er h1]));have le:(ers (dl++[deed])).length=dl.length+1:=by rw[de,List.length_append];rfl
 rw[le] at em;unfold bkD at *;have l1:(hl++[h]).length < 16777216:=by rw[List.length_append];show hl.length+1 < _;omega
 generalize hl++[h]=HL at *;generalize hl=X at *;have neg1:(-1:Int) = -1:=rfl;rw[Ev.goI (show T 61=some d61 from rfl) (show d61.io=true from rfl) (show d61.np=2 from rfl) (show d61.G.N.length=4 from rfl) (show d61.body=b61 from rfl) rfl];unfold b61;simp![iD,CA,Dr,CB,put_h,Ev.af a nw,hh,hd,e1,e2,e3,e4,em,zQ,vO,ite_self]
theorem CC (ws:List D)(h:ers ws=ws):er (hD ws)=hD ws:=by unfold hD;simp![h]
theorem CD (x s f:Str)(b:Bool):er (wD x s f b)=wD x s f b:=by unfold wD;simp![mD]
theorem CF {d:D}(h:er d=d):ers [d]=[d]:=by rw[ers,h];rfl
theorem kR (x s f:Str)(b:Bool):er (.tup [.lst false [],.lst false [],.lst true [wD x s f b]])=hD [wD x s f b]:=by unfold hD;simp![CD]
theorem tF (n:Nat){cs:List Nat}(hc:Sl cs)(x f:Str):aW T (n+6) 61 [bkD true [] [hD []],putD x (sal cs) f]=.ok (.tup [.int 1,bkD true [putD x (sal cs) f] [hD [],hD [wD x (sal cs) f false]]]):=by have e:=jB n [] [] (hD []) (putD x (sal cs) f) _ .non (CC [] rfl) (by unfold putD;simp![ev0]) (by decide) (by decide) (zK (n+3) x (sal cs) f) (vq (n+1) x (sal cs) f) (by rw[kR];exact mC n hc x f false) (zP (n+3) x (sal cs) f);rw[kR] at e;exact e
theorem tG (n:Nat){cs:List Nat}(hc:Sl cs){w x f:Str}{b b':Bool}(hw:Wd w b')(dl hl:List D)(l1:dl.length < 1000)(l2:hl.length < 1000) :
  aW T (n+6) 61 [bkD true dl (hl++[hD [wD x (sal cs) f b]]),.tup [.str w,.str x]]=.ok (.tup [.int ((dl.length+1:Nat):Int),bkD true (dl++[.tup [.str w,.str x]]) (hl++[hD [wD x (sal cs) f b]]++[hD [wD x (sal cs) f b']])]):=by
 have e:=jB n dl hl (hD [wD x (sal cs) f b]) (.tup [.str w,.str x]) _ .non (CC _ (CF (CD _ _ _ _))) (by simp![ev0]) l1 l2 (zJ (n+3) hw) (vv (n+1) hw) (by rw[kR];exact mC n hc x f b') (zN (n+3) w x);rw[kR] at e;exact e
noncomputable def trD (o:Bool)(ps ds:List Int)(bk:D)(ms:List Int):D:=.obj o "Tree" ["parents","depths","book","moments"] [.lst false (ps.map .int),.lst false (ds.map .int),bk,.lst false (ms.map .int)]
theorem ne1:¬ Str.ofString "parents" = Str.ofString "depths":=by decide +kernel
theorem ne2:¬ Str.ofString "parents" = Str.ofString "book":=by decide +kernel
theorem ne3:¬ Str.ofString "parents" = Str.ofString "moments":=by decide +kernel
theorem ne4:¬ Str.ofString "depths" = Str.ofString "book":=by decide +kernel
theorem ne5:¬ Str.ofString "depths" = Str.ofString "moments":=by decide +kernel
theorem ne6:¬ Str.ofString "book" = Str.ofString "moments":=by decide +kernel
theorem CG {a b c d:D}:cS ["parents","depths","book","moments"] [a,b,c,d] "parents" = some a:=by simp only[cS,if_true]
theorem tr_b {a b c d:D}:cS ["parents","depths","book","moments"] [a,b,c,d] "book" = some c:=by simp only[cS,if_true,if_neg ne2,if_neg ne4]
theorem zR {a b c d:D}:cS ["parents","depths","book","moments"] [a,b,c,d] "moments" = some d:=by simp only[cS,if_true,if_neg ne3,if_neg ne5,if_neg ne6]
theorem Ds {a b c d e:D}:dh "book" e ["parents","depths","book","moments"] [a,b,c,d]=[a,b,e,d]:=by simp only[dh,if_true,if_neg ne2,if_neg ne4]
theorem Dt {a b c d e:D}:dh "moments" e ["parents","depths","book","moments"] [a,b,c,d]=[a,b,c,e]:=by simp only[dh,if_true,if_neg ne3,if_neg ne5,if_neg ne6]
theorem Du:eh "moments" ["parents","depths","book","moments"]=(["parents","depths","book","moments"]:List Str):=by simp only[eh,if_true,if_neg ne3,if_neg ne5,if_neg ne6]
theorem CH:(["parents","depths","book","moments"]:List Str).contains "change" = false:=by decide +kernel
theorem Dv:(["parents","depths","book","moments"]:List Str).contains "turn" = false:=by decide +kernel
theorem zU:(["parents","depths","book","moments"]:List Str).contains "check_machine" = false:=by decide +kernel
theorem Dw:(["parents","depths","book","moments"]:List Str).contains "moment_of" = false:=by decide +kernel
theorem CI:(["deeds","houses"]:List Str).contains "change" = false:=by decide +kernel
theorem gk (l:List Int):ers (l.map .int)=l.map D.int:=Ev.nB l
theorem o5 (o:Bool)(ps ds:List Int)(bk:D)(ms:List Int):er (trD o ps ds bk ms)=trD false ps ds (er bk) ms:=by unfold trD;simp![Ev.u0,gk]
theorem o6 (o:Bool)(dl hl:List D):er (bkD o dl hl)=bkD false (ers dl) (ers hl):=by unfold bkD;simp![Ev.u0]
theorem mG (n:Nat)(ps ds:List Int)(bk:D)(ms:List Int)(k l:Int)(h1:l<=k)(h2:k<=ps.length):aW T (n+1) 64 [trD false ps ds bk ms,.int k,.int l]=.ok .non:=by have d1:decide (k < l)=false:=decide_eq_false (by omega);have d2:decide ((ps.length:Int) < k)=false:=decide_eq_false (by omega);have lp:(ps.map D.int).length=ps.length:=List.length_map _;unfold trD;rw[gx 64 d64 3 3 b64 rfl rfl rfl rfl rfl rfl];unfold b64;simp![Ev.aX (iD _) CG,d1,d2,lp]
noncomputable def mo (h:Int)(ms:List Int)(k:Int):Int:=(h::ms).getD k.toNat 0
theorem p6 (n:Nat)(ps ds:List Int)(dl hl:List D)(ms:List Int)(k:Int)(h1:0<=k)(h2:k<=ps.length)(hm:ms.length=ps.length):aW T (n+2) 67 [trD false ps ds (bkD false dl hl) ms,.int k]=.ok (.int (mo dl.length ms k)):=by
 have e1:=mG n ps ds (bkD false (ers dl) (ers hl)) ms k 0 h1 h2;have e2:=iE n (ers dl) (ers hl);rw[de] at e2;have et:=o5 false ps ds (bkD false dl hl) ms;have eb:=o6 false dl hl;by_cases hk:k=0
 ·subst hk;have h0:((0:Int) == 0)=true:=rfl;have hm0:mo dl.length ms 0=dl.length:=rfl;rw[hm0];unfold trD at *;unfold bkD at *;rw[gx 67 d67 2 2 b67 rfl rfl rfl rfl rfl rfl];unfold b67;simp![Ev.aX (iD _) tr_b,Ev.aX (iD _) zR,e1,e2,et,eb,h0,zU,zQ]
 ·have h0:(k == 0)=false:=by simpa using hk
  have hmk:ms.getD (k - 1).toNat 0=mo dl.length ms k:=by unfold mo;rw[show k.toNat=(k - 1).toNat+1 by omega,List.getD_cons_succ]
  unfold trD at *;unfold bkD at *;rw[gx 67 d67 2 2 b67 rfl rfl rfl rfl rfl rfl];unfold b67;simp![Ev.aX (iD _) tr_b,Ev.aX (iD _) zR,e1,et,eb,h0,zU,hmk]
theorem o7 (n:Nat)(ps ds:List Int)(bk bk':D)(ms:List Int)(deed r:D)(dl hl dl' hl':List D)(e0:bk=bkD true dl hl)(e1:bk'=bkD true dl' hl')(hd:er deed=deed)(e:aW T n 61 [bk,deed]=.ok (.tup [r,bk'])):aW T (n+1) 65 [trD true ps ds bk ms,deed]=.ok (.tup [r,trD true ps ds bk' ms]):=by subst e0 e1;unfold trD bkD at *;rw[Ev.goI (show T 65=some d65 from rfl) (show d65.io=true from rfl) (show d65.np=2 from rfl) (show d65.G.N.length=2 from rfl) (show d65.body=b65 from rfl) rfl];unfold b65;simp![iD,tr_b,Ds,CI,e,hd]
theorem tH (w:Int):∀ ws:List Int,anyN (.int w) (ws.map .int)=.ok (decide (w∈ws))
 | []=>rfl
 | v::ws=>by
  have e:decide (w∈v::ws)=((v == w)||decide (w∈ws)):=by
   by_cases h:v=w
   ·subst h;simp
   ·have h':¬ w=v:=fun z=>h z.symm;simp[h,h',beq_eq_false_iff_ne.mpr h]
  rw[e,List.map_cons];have ih:=tH w ws;simp![ih]
noncomputable def nm (h:Int)(ps ms ls:List Int)(i:Nat):Int:=if ((i:Int)+1)∈ls then mo h ms ((i:Int)+1) else mo h ms (ps.getD i 0)
noncomputable def nM (h:Int)(ps ms ls:List Int):List Int:=(List.range ps.length).map (nm h ps ms ls)
def Pa (ps:List Int):Prop:=∀ i,i < ps.length->0<=ps.getD i 0/\ps.getD i 0<=(i:Int)
noncomputable def tCk:List IS:=[(.exp (.meth 64 "check_machine" "Tree" (.v 0) [(.v 3),(.c (.int 1))]))]
noncomputable def tMo:List IS:=[(.app 5 (.ite (.cmp .in_ (.v 3) (.v 2)) (.idx (.v 4) (.v 3)) (.idx (.v 4) (.v 6))))]
theorem vx (ps:List Int)(i:Nat)(x:D)(h:(ers (fE (ps.map .int)))[i]? = some x):i < ps.length/\x=.tup [.int ((i:Int)+1),.int (ps.getD i 0)]:=by
 rw[eZ,List.getElem?_map] at h;obtain⟨y,hy,rfl⟩:=Option.map_eq_some_iff.mp h;unfold fE at hy;rw[List.getElem?_zipWith] at hy;have hi:i < ps.length:=by apply Classical.byContradiction;intro z;rw[List.getElem?_eq_none (by rw[List.length_range,List.length_map];omega)] at hy;cases hy
 rw[List.getElem?_range (by rw[List.length_map];exact hi),List.getElem?_map,List.getElem?_eq_getElem hi] at hy;cases hy;refine⟨hi,?_⟩;rw[List.getD_eq_getElem?_getD,List.getElem?_eq_getElem hi];simp![ev0];rfl
theorem tI (ps:List Int):(ers (fE (ps.map .int))).length=ps.length:=by rw[de];unfold fE;rw[List.length_zipWith,List.length_range,List.length_map,Nat.min_self]
theorem vy (n:Nat)(ps ds:List Int)(dl hl:List D)(ms ls:List Int)(hp:Pa ps)(hm:ms.length=ps.length)(hl1:ps.length<=1000)(hls:∀ l∈ls,1<=l/\l<=ps.length) :
  aW T (n+2) 66 [trD true ps ds (bkD true dl hl) ms,.lst false (ls.map .int)]=.ok (.tup [.non,trD true ps ds (bkD true dl hl) (nM dl.length ps ms ls)]):=by
 have et:=o5 true ps ds (bkD true dl hl) ms;have eb:=o6 true dl hl;have e2:=iE n (ers dl) (ers hl);rw[de] at e2;have ml:((D.int dl.length::ms.map D.int))=(((dl.length:Int)::ms).map D.int):=rfl;have lm:(ms.map D.int).length=ms.length:=List.length_map _;have eI:=gk ls
 -- the links that are told
 obtain⟨τ',ea,x3,rfl⟩:=Ev.gj (its:=ls.map D.int) (τ:=[some (trD true ps ds (bkD true dl hl) ms),some (.lst false (ls.map .int)),some (.lst false (ls.map .int)),none,none,none,none]) (body:=Ev.turn (aW T (n+1)) (.nm 3) tCk)
  (fun i τ=>∃ x3,τ=[some (trD true ps ds (bkD true dl hl) ms),some (.lst false (ls.map .int)),some (.lst false (ls.map .int)),x3,none,none,none]) ⟨none,rfl⟩ (by
   rintro i x τ hx ⟨x3,rfl⟩;rw[List.getElem?_map] at hx;obtain⟨l,hl',rfl⟩:=Option.map_eq_some_iff.mp hx;have hb:=hls l (List.mem_of_getElem? hl');refine⟨_,?_,some (.int l),rfl⟩;have ec:=mG n ps ds (er (bkD true dl hl)) ms l 1 hb.1 hb.2;unfold trD at *;unfold tCk
   simp![Ev.eE,zU,ec])
 -- the new moments
 obtain⟨τ',eb',y3,y6,rfl⟩:=Ev.gj (its:=ers (fE (ps.map .int))) (τ:=[some (trD true ps ds (bkD true dl hl) ms),some (.lst false (ls.map .int)),some (.lst false (ls.map .int)),x3,some (.lst true (((dl.length:Int)::ms).map D.int)),some (.lst true []),none]) (body:=Ev.turn (aW T (n+1)) (.tp [(.nm 3),(.nm 6)]) tMo)
  (fun i τ=>∃ y3 y6,τ=[some (trD true ps ds (bkD true dl hl) ms),some (.lst false (ls.map .int)),some (.lst false (ls.map .int)),y3,some (.lst true (((dl.length:Int)::ms).map D.int)),some (.lst true (((List.range i).map (nm dl.length ps ms ls)).map .int)),y6]) ⟨x3,none,rfl⟩ (by
   rintro i x τ hx ⟨y3,y6,rfl⟩;obtain⟨hi,rfl⟩:=vx ps i x hx;obtain⟨p0,p1⟩:=hp i hi;generalize hq:ps.getD i 0=p at *;refine⟨_,?_,some (.int ((i:Int)+1)),some (.int p),rfl⟩;have lr:(((List.range i).map (nm dl.length ps ms ls)).map D.int).length=i:=by rw[List.length_map,List.length_map,List.length_range]
   have lb:((dl.length:Int)::ms).length=ms.length+1:=rfl;have ei:opC .in_ (.int ((i:Int)+1)) (.lst false (ls.map .int))=.ok (decide ((i:Int)+1∈ls)):=tH _ ls;have er1:((List.range (i+1)).map (nm dl.length ps ms ls)).map D.int=((List.range i).map (nm dl.length ps ms ls)).map D.int++[.int (nm dl.length ps ms ls i)]:=by rw[List.range_succ,List.map_append,List.map_append];rfl
   rw[er1];have x1:=Ev.x_i (o:=true) (xs:=(dl.length:Int)::ms) (i:=(i:Int)+1) (by omega) (by rw[lb];omega);have x2:=Ev.x_i (o:=true) (xs:=(dl.length:Int)::ms) (i:=p) p0 (by rw[lb];omega);generalize ((List.range i).map (nm dl.length ps ms ls)).map D.int=R at *;generalize ((dl.length:Int)::ms).map D.int=B at *;clear er1;unfold nm;rw[hq];unfold mo;unfold tMo;by_cases hin:(i:Int)+1∈ls
   ·rw[decide_eq_true hin] at ei;rw[if_pos hin];simp![Ev.eE,ei,x1,lr]
   ·rw[decide_eq_false hin] at ei;rw[if_neg hin]
    simp![Ev.eE,ei,x2,lr])
 rw[tI] at eb';unfold nM;have en:=gk ((List.range ps.length).map (nm dl.length ps ms ls));generalize (List.range ps.length).map (nm dl.length ps ms ls)=NM at *;unfold trD at *;unfold bkD at *;unfold tCk at ea;unfold tMo at eb';rw[<- ml] at eb';have l1:1+ms.length<=16777216:=by omega
 have lf1:cU (ms.map D.int)=true:=Ev.jv ms;rw[Ev.goI (show T 66=some d66 from rfl) (show d66.io=true from rfl) (show d66.np=2 from rfl) (show d66.G.N.length=7 from rfl) (show d66.body=b66 from rfl) rfl];unfold b66;simp![eI,ea,Ev.aX (iD _) tr_b,Ev.aX (iD _) zR,zQ,eb,e2,lm,lf1,iD,CG,eb',Du,Dt,en,show decide ((4:Nat) < 1000)=true from rfl]
theorem zV (ps:List Int)(i:Nat)(x:D)(h:(ers (jb (ps.map .int)))[i]? = some x):i < ps.length/\x=.tup [.int (i:Int),.int (ps.getD i 0)]:=by
 rw[eZ,List.getElem?_map] at h;obtain⟨y,hy,rfl⟩:=Option.map_eq_some_iff.mp h;unfold jb at hy;rw[List.getElem?_zipWith] at hy;have hi:i < ps.length:=by apply Classical.byContradiction;intro z;rw[List.getElem?_eq_none (by rw[List.length_range,List.length_map];omega)] at hy;cases hy
 rw[List.getElem?_range (by rw[List.length_map];exact hi),List.getElem?_map,List.getElem?_eq_getElem hi] at hy;cases hy;refine⟨hi,?_⟩;rw[List.getD_eq_getElem?_getD,List.getElem?_eq_getElem hi];simp![ev0];rfl
theorem vz (n:Nat)(i:Int):aW T (n+1) 26 [.int i]=.ok (.bl true):=by rw[gx 26 d26 1 1 b26 rfl rfl rfl rfl rfl rfl];unfold b26;simp![ev0]
noncomputable def tCp:List IS:=[(.if_ (.or_ (.not_ (.call 26 [(.v 2)])) (.or_ (.cmp .lt (.v 2) (.c (.int 0))) (.cmp .gt (.v 2) (.v 1)))) [.never] [])]
theorem nK (n:Nat)(ps:List Int)(hp:Pa ps)(hl:ps.length<=1000):aW T (n+2) 47 [.lst false (ps.map .int)]=.ok .non:=by
 have eI:=gk ps;obtain⟨τ',ea,x1,x2,rfl⟩:=Ev.gj (its:=ers (jb (ps.map .int))) (τ:=[some (.lst false (ps.map .int)),none,none]) (body:=Ev.turn (aW T (n+1)) (.tp [(.nm 1),(.nm 2)]) tCp)
  (fun i τ=>∃ x1 x2,τ=[some (.lst false (ps.map .int)),x1,x2]) ⟨none,none,rfl⟩ (by
   rintro i x τ hx ⟨x1,x2,rfl⟩;obtain⟨hi,rfl⟩:=zV ps i x hx;obtain⟨p0,p1⟩:=hp i hi;generalize ps.getD i 0=p at *;refine⟨_,?_,some (.int (i:Int)),some (.int p),rfl⟩;have e:=vz n p;have d1:decide (p < 0)=false:=decide_eq_false (by omega);have d2:decide ((i:Int) < p)=false:=decide_eq_false (by omega);unfold tCp
   simp![Ev.eE,e,d1,d2])
 unfold tCp at ea;rw[gx 47 d47 1 3 b47 rfl rfl rfl rfl rfl rfl];unfold b47;simp![eI,ea]
noncomputable def tDp:List IS:=[(.app 1 (.bin .add (.idx (.v 1) (.v 2)) (.c (.int 1))))]
theorem p7 (n:Nat)(ps:List Int)(hp:Pa ps)(hl:ps.length<=1000):∃ ds:List Int,aW T (n+1) 48 [.lst false (ps.map .int)]=.ok (.lst true (ds.map .int)):=by
 have eI:=gk ps;obtain⟨τ',ea,ds,x2,rfl,hd⟩:=Ev.gj (its:=ps.map .int) (τ:=[some (.lst false (ps.map .int)),some (.lst true ([(0:Int)].map .int)),none]) (body:=Ev.turn (aW T n) (.nm 2) tDp)
  (fun i τ=>∃ (ds:List Int) (x2:Option D),τ=[some (.lst false (ps.map .int)),some (.lst true (ds.map .int)),x2]/\ds.length=i+1) ⟨[0],none,rfl,rfl⟩ (by
   rintro i x τ hx ⟨ds,x2,rfl,hd⟩;rw[List.getElem?_map] at hx;obtain⟨p,hq,rfl⟩:=Option.map_eq_some_iff.mp hx;have hi:i < ps.length:=(List.getElem?_eq_some_iff.mp hq).1;obtain⟨p0,p1⟩:=hp i hi;rw[List.getD_eq_getElem?_getD,hq] at p0 p1;have p0':0<=p:=p0;have p1':p<=(i:Int):=p1;refine⟨[some (.lst false (ps.map .int)),some (.lst true ((ds++[ds.getD p.toNat 0+1]).map .int)),some (.int p)],?_,_,_,rfl,by rw[List.length_append,hd];rfl⟩;have ld:(ds.map D.int).length=ds.length:=List.length_map _;unfold tDp
   simp![Ev.eE,ld,List.map_append])
 refine⟨ds,?_⟩;unfold tDp at ea;rw[show ([(0:Int)].map D.int)=[.int 0] from rfl] at ea;rw[gx 48 d48 1 3 b48 rfl rfl rfl rfl rfl rfl];unfold b48;simp![eI,ea]
theorem tJ (n:Nat):aW T (n+1) 60 [.obj true "Book" [] []]=.ok (.tup [.non,bkD true [] [hD []]]):=by
 have p1:eh "deeds" []=(["deeds"]:List Str):=rfl;have p2:eh "houses" (["deeds"]:List Str)=(["deeds","houses"]:List Str):=by show (if Str.ofString "deeds" = Str.ofString "houses" then [Str.ofString "deeds"] else [Str.ofString "deeds",Str.ofString "houses"])=_;rw[if_neg (by decide +kernel)]
 have q1:∀ d:D,dh "deeds" d [] []=[d]:=fun _=>rfl;have q2:∀ a d:D,dh "houses" d (["deeds"]:List Str) [a]=[a,d]:=fun a d=>by show (if Str.ofString "deeds" = Str.ofString "houses" then [d] else [a,d])=_;rw[if_neg (by decide +kernel)]
 unfold bkD hD;rw[Ev.goI (show T 60=some d60 from rfl) (show d60.io=true from rfl) (show d60.np=1 from rfl) (show d60.G.N.length=1 from rfl) (show d60.body=b60 from rfl) rfl];unfold b60;simp![iD,p1,p2,q1,q2,show dm (.lstf [(.tup [(.lst []),(.lst []),(.lst [])])])=true from rfl,show vars (.lstf [(.tup [(.lst []),(.lst []),(.lst [])])])=[] from rfl,show decide ((0:Nat) < 1000)=true from rfl,show decide ((1:Nat) < 1000)=true from rfl]
theorem aoI:∀ ds:List Int,d7 (ds.map D.int)=true
 | []=>by rw[List.map_nil,Ev.sF]
 | d::ds=>by rw[List.map_cons,Ev.sG,Ev.zq,aoI ds];rfl
theorem CJ (k:Nat):List.flatten (List.replicate k [D.int 0])=(List.replicate k (0:Int)).map D.int:=by
 induction k with
 | zero=>rfl
 | succ k ih=>rw[List.replicate_succ,List.flatten_cons,ih,List.replicate_succ];rfl
theorem mul_0 (k:Nat)(h:k<=1000):opB .mul (D.lst true [.int 0]) (.int (k:Int))=.ok (.lst true ((List.replicate k (0:Int)).map D.int)):=by show grd (decide (0<=(k:Int)/\(k:Int)<=16000/\([D.int 0]:List D).length<=1000)) (.ok (D.lst true (List.flatten (List.replicate (k:Int).toNat [D.int 0]))))=_;rw[decide_eq_true (by refine⟨by omega,by omega,by decide⟩),Int.toNat_natCast,CJ];rfl
theorem tK (n:Nat)(ps:List Int)(hp:Pa ps)(hl:ps.length<=1000):∃ ds:List Int,aW T (n+3) 63 [.obj true "Tree" [] [],.lst false (ps.map .int)]=.ok (.tup [.non,trD true ps ds (bkD true [] [hD []]) (List.replicate ps.length 0)]):=by
 obtain⟨ds,e1⟩:=p7 (n+1) ps hp hl;have e0:=nK n ps hp hl;have e2:=tJ (n+1);refine⟨ds,?_⟩;have eI:=gk ps;have eD':=gk ds;have ao:dP (.lst true (ds.map D.int))=true:=by rw[Ev.zr];exact aoI ds
 have lp:(ps.map D.int).length=ps.length:=List.length_map _;have em:=mul_0 ps.length hl;have eR:=gk (List.replicate ps.length 0);have lR:=Ev.jv (List.replicate ps.length 0);have lP:=Ev.jv ps;have k1:eh "parents" []=(["parents"]:List Str):=rfl;have k2:eh "depths" (["parents"]:List Str)=(["parents","depths"]:List Str):=by simp only[eh,if_neg ne1]
 have k3:eh "book" (["parents","depths"]:List Str)=(["parents","depths","book"]:List Str):=by simp only[eh,if_neg ne2,if_neg ne4]
 have k4:eh "moments" (["parents","depths","book"]:List Str)=(["parents","depths","book","moments"]:List Str):=by simp only[eh,if_neg ne3,if_neg ne5,if_neg ne6]
 have q1:∀ d:D,dh "parents" d [] []=[d]:=fun _=>rfl;have q2:∀ a d:D,dh "depths" d (["parents"]:List Str) [a]=[a,d]:=fun a d=>by simp only[dh,if_neg ne1]
 have q3:∀ a b d:D,dh "book" d (["parents","depths"]:List Str) [a,b]=[a,b,d]:=fun a b d=>by simp only[dh,if_neg ne2,if_neg ne4]
 have q4:∀ a b c d:D,dh "moments" d (["parents","depths","book"]:List Str) [a,b,c]=[a,b,c,d]:=fun a b c d=>by simp only[dh,if_neg ne3,if_neg ne5,if_neg ne6]
 unfold trD;unfold bkD at *;generalize (List.replicate ps.length (0:Int)).map D.int=R at *;generalize hD []=HD at *;rw[Ev.goI (show T 63=some d63 from rfl) (show d63.io=true from rfl) (show d63.np=2 from rfl) (show d63.G.N.length=2 from rfl) (show d63.body=b63 from rfl) rfl];unfold b63;simp![e0,e1,e2,eI,eD',ao,lp,em,eR,lR,lP,iD,k1,k2,k3,k4,q1,q2,q3,q4,show ∀ a b,dm (.bin .mul a b)=true from fun _ _=>rfl,show decide ((0:Nat) < 1000)=true from rfl,show decide ((1:Nat) < 1000)=true from rfl,show decide ((2:Nat) < 1000)=true from rfl,show decide ((3:Nat) < 1000)=true from rfl]
noncomputable def par (ps:List Int)(k:Int):Int:=ps.getD (k - 1).toNat 0
theorem iK {ps:List Int}(hp:Pa ps){k:Int}(h0:0 < k)(h1:k<=ps.length):0<=par ps k/\par ps k < k:=by have:=hp (k - 1).toNat (by omega);unfold par;omega
noncomputable def way (ps:List Int):Nat->Int->List Int
 | 0,_=>[]
 | f+1,k=>if 0 < k then k::way ps f (par ps k) else []
theorem tL {ps:List Int}(hp:Pa ps):∀ (f:Nat) (k:Int),k<=ps.length->k.toNat<=f->way ps f k=way ps k.toNat k
 | 0,k,_,h=>by rw[show k.toNat=0 by omega]
 | f+1,k,h1,h=>by
  by_cases h0:0 < k
  ·obtain⟨p0,p1⟩:=iK hp h0 h1;have e:k.toNat=(k.toNat - 1)+1:=by omega
   rw[e];show (if 0 < k then k::way ps f (par ps k) else [])=(if 0 < k then k::way ps (k.toNat - 1) (par ps k) else [])
   rw[if_pos h0,if_pos h0,tL hp f (par ps k) (by omega) (by omega),<- tL hp (k.toNat - 1) (par ps k) (by omega) (by omega)]
  ·rw[show k.toNat=0 by omega];show (if 0 < k then k::way ps f (par ps k) else [])=[]
   rw[if_neg h0]
noncomputable def Wy (ps:List Int)(k:Int):List Int:=way ps k.toNat k
theorem zW {ps:List Int}(hp:Pa ps){k:Int}(h0:0 < k)(h1:k<=ps.length):Wy ps k=k::Wy ps (par ps k):=by obtain⟨p0,p1⟩:=iK hp h0 h1;unfold Wy;rw[show k.toNat=(k.toNat - 1)+1 by omega];show (if 0 < k then k::way ps (k.toNat - 1) (par ps k) else [])=_;rw[if_pos h0,tL hp (k.toNat - 1) (par ps k) (by omega) (by omega)]
theorem CK {ps:List Int}(hp:Pa ps){k:Int}(h0:0 < k)(h1:k<=ps.length):1<=(Wy ps k).length:=by rw[zW hp h0 h1,List.length_cons];omega
noncomputable def ct (w L:List Int):Nat:=(w.filter fun x=>decide (x∈L)).length
theorem o8 (k:Int)(w L:List Int):ct (k::w) L=(if k∈L then 1 else 0)+ct w L:=by
 unfold ct;rw[List.filter_cons];by_cases h:k∈L
 ·rw[decide_eq_true h,if_pos rfl,if_pos h,List.length_cons];omega
 ·rw[decide_eq_false h,if_neg (by simp),if_neg h];omega
noncomputable def sn (v:Int)(w:List Int):List (Int×List Int)->Int->Prop
 | [],_=>True
 | t::r,e=>(e+ct w t.2 - 1<=0->t.1<=v)/\sn v w r (e+ct w t.2 - 1)
theorem kS {v:Int}{w w':List Int}(h:∀ L,ct w' L<=ct w L):∀ (ts:List (Int×List Int)) {e e':Int},e'<=e->sn v w' ts e'->sn v w ts e
 | [],_,_,_,_=>trivial
 | t::r,e,e',he,hs=>by have:=h t.2;exact⟨fun z=>hs.1 (by omega),kS h r (by omega) hs.2⟩
theorem tM {v:Int}{w:List Int}:∀ (ts:List (Int×List Int)) (e:Int),(∀ t∈ts,t.1<=v)->sn v w ts e
 | [],_,_=>trivial
 | t::r,e,h=>⟨fun _=>h t List.mem_cons_self,tM r _ fun t ht=>h t (List.mem_cons_of_mem _ ht)⟩
structure Ok (ps:List Int)(h:Int)(ms:List Int)(ts:List (Int×List Int)):Prop where
 len:ms.length=ps.length
 mono:∀ k:Int,0 < k->k<=ps.length->mo h ms k<=mo h ms (par ps k)
 seen:∀ k:Int,0 < k->k<=ps.length->sn (mo h ms k) (Wy ps k) ts (Wy ps k).length
 beg:∀ t∈ts,t.1<=h
theorem zX (h:Int)(ms:List Int):mo h ms 0=h:=rfl
theorem vA (h h':Int)(ms:List Int){k:Int}(hk:0 < k):mo h ms k=mo h' ms k:=by unfold mo;rw[show k.toNat=(k - 1).toNat+1 by omega,List.getD_cons_succ,List.getD_cons_succ]
theorem vB {ps:List Int}{h:Int}{ms:List Int}{ts:List (Int×List Int)}(hp:Pa ps)(o:Ok ps h ms ts):Ok ps (h+1) ms ts:=by
 refine⟨o.len,fun k h0 h1=>?_,fun k h0 h1=>?_,fun t ht=>Int.le_trans (o.beg t ht) (by omega)⟩
 ·obtain⟨p0,p1⟩:=iK hp h0 h1;have:=o.mono k h0 h1;rw[vA (h+1) h ms h0];by_cases z:par ps k=0
  ·rw[z] at this ⊢;rw[zX] at this ⊢;omega
  ·rw[vA (h+1) h ms (by omega)];exact this
 ·rw[vA (h+1) h ms h0];exact o.seen k h0 h1
theorem tN {ps:List Int}(h:Int)(ms ls:List Int){k:Int}(h0:0 < k)(h1:k<=ps.length):mo h (nM h ps ms ls) k=if k∈ls then mo h ms k else mo h ms (par ps k):=by
 have e:k.toNat=(k - 1).toNat+1:=by omega
 have e2:(((k - 1).toNat:Nat):Int)+1=k:=by omega
 show (h::nM h ps ms ls).getD k.toNat 0=_;rw[e,List.getD_cons_succ];unfold nM;rw[List.getD_eq_getElem?_getD,List.getElem?_map,List.getElem?_range (by omega)];show nm h ps ms ls (k - 1).toNat=_;unfold nm par;rw[e2]
theorem zY (h:Int)(ps ms ls:List Int):(nM h ps ms ls).length=ps.length:=by unfold nM;rw[List.length_map,List.length_range]
theorem grow {ps:List Int}{h:Int}{ms:List Int}{ts:List (Int×List Int)}(hp:Pa ps)(o:Ok ps h ms ts)(ls:List Int){k:Int}(h0:0 < k)(h1:k<=ps.length):mo h ms k<=mo h (nM h ps ms ls) k:=by
 rw[tN h ms ls h0 h1];split
 ·exact Int.le_refl _
 ·exact o.mono k h0 h1
theorem vC {ps:List Int}{h:Int}{ms:List Int}{ts:List (Int×List Int)}(hp:Pa ps)(o:Ok ps h ms ts)(ls:List Int):Ok ps h (nM h ps ms ls) ((h,ls)::ts):=by
 refine⟨zY h ps ms ls,fun k h0 h1=>?_,fun k h0 h1=>?_,fun t ht=>?_⟩
 ·obtain⟨p0,p1⟩:=iK hp h0 h1;have a:mo h (nM h ps ms ls) k<=mo h ms (par ps k):=by
   rw[tN h ms ls h0 h1];split
   ·exact o.mono k h0 h1
   ·exact Int.le_refl _
  refine Int.le_trans a ?_;by_cases z:par ps k=0
  ·rw[z];exact Int.le_refl _
  ·exact grow hp o ls (by omega) (by omega)
 ·obtain⟨p0,p1⟩:=iK hp h0 h1;have l1:=CK hp h0 h1;rw[tN h ms ls h0 h1];by_cases hk:k∈ls
  ·rw[if_pos hk];have c1:1<=ct (Wy ps k) ls:=by rw[zW hp h0 h1,o8,if_pos hk];omega
   exact⟨fun z=>absurd z (by show ¬ (((Wy ps k).length:Int)+ct (Wy ps k) ls - 1<=0);omega),kS (fun L=>Nat.le_refl _) ts (by show ((Wy ps k).length:Int)<=((Wy ps k).length:Int)+ct (Wy ps k) ls - 1;omega) (o.seen k h0 h1)⟩
  ·rw[if_neg hk];by_cases z:par ps k=0
   ·rw[z,zX];exact⟨fun _=>Int.le_refl _,tM ts _ o.beg⟩
   ·have s:=o.seen (par ps k) (by omega) (by omega);have l2:=CK hp (k:=par ps k) (by omega) (by omega);have ew:=zW hp h0 h1;have el:(Wy ps k).length=(Wy ps (par ps k)).length+1:=by rw[ew,List.length_cons]
    refine⟨fun z=>absurd z (by show ¬ (((Wy ps k).length:Int)+ct (Wy ps k) ls - 1<=0);omega),kS (fun L=>?_) ts (by show ((Wy ps (par ps k)).length:Int)<=((Wy ps k).length:Int)+ct (Wy ps k) ls - 1;omega) s⟩;rw[ew,o8];omega
 ·rcases List.mem_cons.mp ht with rfl|ht
  ·exact Int.le_refl _
  ·exact o.beg t ht
theorem o9 {m:Int}{β:Type}(f:Int->β)(d:β){k:Int}(h0:0<=k)(h1:k < m):((zs m).map f).getD k.toNat d=f k:=by unfold zs;rw[List.getD_eq_getElem?_getD,List.getElem?_map,List.getElem?_map,List.getElem?_range (by omega)];show f (0+((k.toNat:Nat):Int))=f k;congr 1;omega
theorem nL {α:Type}{g:D->Res (Option D)}(emb:α->D)(p:α->Bool):∀ xs:List α,(∀ x∈xs,g (emb x)=.ok (if p x=true then some (emb x) else none))->dv g (xs.map emb)=.ok ((xs.filter p).map emb)
 | [],_=>rfl
 | x::xs,h=>by
  have ih:=nL emb p xs fun y hy=>h y (List.mem_cons_of_mem _ hy);have h0:=h x List.mem_cons_self;rw[List.map_cons,nH,h0,List.filter_cons];by_cases hp:p x=true
  ·rw[if_pos hp,if_pos hp,Ev.rbk,jy,ih];rfl
  ·rw[if_neg hp,if_neg hp,Ev.rbk,jz,ih]
theorem vD (n:Nat)(ns:List Int):∃ m:Int,aW T (n+2) 50 [.lst false (ns.map .int),.int 40]=.ok (.int m)/\0<=m/\m<=40:=by have d:=fG n ns 98 (40+1) (by decide) (by decide) (by decide);have b0:=jI ns 98 (m:=40+1) (by decide);have b1:=kP ns 98 (m:=40+1) (by decide);generalize dr ns 98 (40+1)=r at *;have lm:(ns.map D.int).length=ns.length:=List.length_map _;refine⟨_,by rw[gx 50 d50 2 2 b50 rfl rfl rfl rfl rfl rfl];unfold b50;simp![d,lm];rfl,?_,?_⟩<;>(repeat' split)<;>omega
theorem tO (n:Nat)(ns:List Int):∃ ps:List Int,aW T (n+2) 54 [.lst false (ns.map .int)]=.ok (.lst true (ps.map .int))/\Pa ps/\ps.length<=9:=by
 have d:=fG n ns 309 6 (by decide) (by decide) (by decide);have b0:=jI ns 309 (m:=6) (by decide);have b1:=kP ns 309 (m:=6) (by decide);generalize dr ns 309 6=q at *;obtain⟨m,hm,m0,m9⟩:∃ m:Int,(∀ o,fW (.lst o [.int 3,.int 6,.int 0,.int 1,.int 2,.int 9]) (.int q)=.ok (.int m))/\0<=m/\m<=9:=by
  rcases (show q=0∨q=1∨q=2∨q=3∨q=4∨q=5 by omega) with rfl|rfl|rfl|rfl|rfl|rfl
  ·exact⟨3,fun _=>rfl,by decide,by decide⟩
  ·exact⟨6,fun _=>rfl,by decide,by decide⟩
  ·exact⟨0,fun _=>rfl,by decide,by decide⟩
  ·exact⟨1,fun _=>rfl,by decide,by decide⟩
  ·exact⟨2,fun _=>rfl,by decide,by decide⟩
  ·exact⟨9,fun _=>rfl,by decide,by decide⟩
 have fm:dv (dY (aW T (n+1)) (.nm 1) [] (.call 49 [(.v 0),(.bin .add (.c (.int 310)) (.v 1)),(.bin .add (.v 1) (.c (.int 1)))]) [some (.lst false (ns.map .int)),none]) ((zs m).map .int)=.ok (((zs m).map fun j=>dr ns (310+j) (j+1)).map .int):=by refine Ev.dW .int (fun j=>dr ns (310+j) (j+1)) .int _ fun j hj=>?_;have:=hJ hj;have e:=fG n ns (310+j) (j+1) (by omega) (by omega) (by omega);simp![e]
 have ll:((zs m).map fun j=>dr ns (310+j) (j+1)).length=m.toNat:=by rw[List.length_map,fI]
 have hP:Pa ((zs m).map fun j=>dr ns (310+j) (j+1)):=fun i hi=>by rw[ll] at hi;have:=o9 (m:=m) (fun j=>dr ns (310+j) (j+1)) 0 (k:=(i:Int)) (by omega) (by omega);rw[Int.toNat_natCast] at this;rw[this];have b0:=jI ns (310+(i:Int)) (m:=(i:Int)+1) (by omega);have b1:=kP ns (310+(i:Int)) (m:=(i:Int)+1) (by omega);omega
 have rz:=iB m;have lz:((zs m).map D.int).length=m.toNat:=by rw[List.length_map,fI]
 refine⟨_,?_,hP,by omega⟩;generalize ((zs m).map fun j=>dr ns (310+j) (j+1))=ps at *;have lP:=Ev.jv ps;rw[gx 54 d54 1 1 b54 rfl rfl rfl rfl rfl rfl];unfold b54;simp![d,hm,rz,lz,fm,lP]
noncomputable def os (m:Int):List Int:=(List.range (m+1 - 1).toNat).map fun k=>(1:Int)+((k:Nat):Int)
theorem tP {m x:Int}(h:x∈os m):1<=x/\x<=m:=by obtain⟨k,hk,rfl⟩:=List.mem_map.mp h;have:=List.mem_range.mp hk;omega
theorem tQ (m:Int):(os m).length=m.toNat:=by unfold os;rw[List.length_map,List.length_range];omega
theorem tR (m:Int):e8 1 (m+1)=(os m).map .int:=Ev.mz 1 (m+1)
theorem vE (n:Nat)(ns:List Int){k:Int}{m:Nat}(h0:0<=k)(h1:k<=3000)(hm:m<=9):∃ ls:List Int,aW T (n+2) 55 [.lst false (ns.map .int),.int k,.int (m:Int)]=.ok (.lst true (ls.map .int))/\(∀ l∈ls,1<=l/\l<=(m:Int))/\ls.length<=9:=by
 have fm:dv (dY (aW T (n+1)) (.nm 2) [(.cmp .eq (.call 49 [(.v 0),(.bin .add (.v 1) (.v 2)),(.c (.int 3))]) (.c (.int 0)))] (.v 2) [some (.lst false (ns.map .int)),some (.int k),none]) ((os m).map .int)=.ok (((os m).filter fun j=>dr ns (k+j) 3 == 0).map .int):=by
  refine nL .int (fun j=>dr ns (k+j) 3 == 0) _ fun j hj=>?_;have:=tP hj;have e:=fG n ns (k+j) 3 (by omega) (by omega) (by decide);cases hq:(dr ns (k+j) 3 == 0)
  ·simp![e,hq]
  ·simp![e,hq]
 have hin:∀ l∈(os m).filter (fun j=>dr ns (k+j) 3 == 0),1<=l/\l<=(m:Int):=fun l hl=>tP (List.mem_filter.mp hl).1;have hle:((os m).filter (fun j=>dr ns (k+j) 3 == 0)).length<=9:=Nat.le_trans (List.length_filter_le _ _) (by rw[tQ];omega);refine⟨_,?_,hin,hle⟩;generalize ((os m).filter fun j=>dr ns (k+j) 3 == 0)=ls at *;have rz:=tR m;have lz:((os m).map D.int).length=m:=by rw[List.length_map,tQ];rfl
 have lP:=Ev.jv ls;rw[gx 55 d55 3 3 b55 rfl rfl rfl rfl rfl rfl];unfold b55;simp![rz,lz,fm,lP]
noncomputable def tWy:List IS:=[(.app 2 (.v 1)),(.asg (.nm 1) (.idx (.v 0) (.bin .sub (.v 1) (.c (.int 1)))))]
theorem tS (n:Nat){ps:List Int}(hp:Pa ps):∀ (f:Nat) (k:Int) (acc:List Int) (q:Nat),k.toNat<=f->0<=k->k<=ps.length->acc.length+f<=1000->
  ∃ k',dH (evT (aW T n) (.cmp .gt (.v 1) (.c (.int 0)))) (cZ (aW T n) tWy) (f+1+q) [some (.lst false (ps.map .int)),some (.int k),some (.lst true (acc.map .int))]=.ok (.nx [some (.lst false (ps.map .int)),some (.int k'),some (.lst true ((acc++way ps f k).map .int))])
 | f,k,acc,q,hf,h0,h1,ha=>by
  by_cases hk:0 < k
  ·obtain⟨f',rfl⟩:∃ f',f=f' + 1:=⟨f - 1,by omega⟩
   obtain⟨p0,p1⟩:=iK hp hk h1;obtain⟨k',ih⟩:=tS n hp f' (par ps k) (acc++[k]) q (by omega) p0 (by omega) (by rw[List.length_append];show acc.length+1+f'<=1000;omega);refine⟨k',?_⟩;have ht:evT (aW T n) (.cmp .gt (.v 1) (.c (.int 0))) [some (.lst false (ps.map .int)),some (.int k),some (.lst true (acc.map .int))]=.ok true:=by have d:decide ((0:Int) < k)=true:=decide_eq_true hk;unfold evT;simp![d]
   have hb:cZ (aW T n) tWy [some (.lst false (ps.map .int)),some (.int k),some (.lst true (acc.map .int))]=.ok (.nx [some (.lst false (ps.map .int)),some (.int (par ps k)),some (.lst true ((acc++[k]).map .int))]):=by have la:(acc.map D.int).length=acc.length:=List.length_map _;unfold tWy par;simp![la,List.map_append]
   rw[show f' + 1+1+q=(f' + 1+q)+1 by omega,zH ht,hb,Ev.rbk,xw,ih];show _=Except.ok (Fl.nx [_,_,some (D.lst true ((acc++(if 0 < k then k::way ps f' (par ps k) else [])).map .int))]);rw[if_pos hk,List.append_assoc];rfl
  ·have ht:evT (aW T n) (.cmp .gt (.v 1) (.c (.int 0))) [some (.lst false (ps.map .int)),some (.int k),some (.lst true (acc.map .int))]=.ok false:=by have d:decide ((0:Int) < k)=false:=decide_eq_false hk;unfold evT;simp![d]
   have hw:way ps f k=[]:=by
    cases f with
    | zero=>rfl
    | succ f=>exact if_neg hk
   refine⟨k,?_⟩;rw[show f+1+q=(f+q)+1 by omega,Dj ht,hw,List.append_nil]
theorem zZ (n:Nat){ps:List Int}(hp:Pa ps){k:Int}(h0:0<=k)(h1:k<=ps.length)(hl:ps.length<=9):aW T (n+1) 56 [.lst false (ps.map .int),.int k]=.ok (.lst true ((Wy ps k).map .int)):=by obtain⟨k',e⟩:=tS n hp k.toNat k [] (1000000 - (k.toNat+1)) (Nat.le_refl _) h0 h1 (by rw[List.length_nil];omega);rw[show k.toNat+1+(1000000 - (k.toNat+1))=jX by show _=1000000;omega,List.nil_append] at e;unfold Wy;generalize (way ps k.toNat k)=w at *;unfold tWy at e;have e':dH (evT (aW T n) (.cmp .gt (.v 1) (.c (.int 0)))) (cZ (aW T n) [(.app 2 (.v 1)),(.asg (.nm 1) (.idx (.v 0) (.bin .sub (.v 1) (.c (.int 1)))))]) jX [some (.lst false (ps.map .int)),some (.int k),some (.lst true [])]=_:=e;rw[gx 56 d56 2 3 b56 rfl rfl rfl rfl rfl rfl];unfold b56;simp![e']
noncomputable abbrev Tu:=Int×List Int
noncomputable def tuD (t:Tu):D:=.tup [.int t.1,.lst false (t.2.map .int)]
theorem CL (t:Tu):er (tuD t)=tuD t:=by unfold tuD;simp![gk]
theorem kT (ts:List Tu):ers (ts.map tuD)=ts.map tuD:=by rw[eZ,List.map_map];exact List.map_congr_left fun t _=>CL t
theorem CM {a b:Int}:opC .ge (.int a) (.int b)=.ok (decide (b<=a)):=rfl
noncomputable def tSe:List IS:=[(.asg (.nm 5) (.bin .add (.v 5) (.c (.int 1)))),(.asg (.nm 4) (.bin .add (.v 4) (.bi .len [(.comp {N:=["_law_lost_here","_law_link"],kd:=[.cell,.local],gl:=[],df:=false} [7] (.nm 1) (.val (.v 1)) [(.cmp .in_ (.v 1) (.v 0))] (.v 1))]))),(.if_ (.and_ (.cmp .ge (.v 5) (.v 4)) (.cmp .lt (.meth 67 "moment_of" "Tree" (.v 0) [(.v 2)]) (.v 6))) [(.ret (.c (.bl false)))] [])]
structure Ob (X:D)(ps:List Int)(h:Int)(ms:List Int):Prop where
 er:er X=X
 ob:gK "Tree" "moment_of" X=true
 mo:∀ (n:Nat) (k:Int),0<=k->k<=ps.length->aW T (n+2) 67 [X,.int k]=.ok (.int (mo h ms k))
theorem vF (n:Nat){X:D}{ps:List Int}{h:Int}{ms:List Int}(o:Ob X ps h ms){k:Int}(h0:0<=k)(h1:k<=ps.length)(w:List Int)(lw:w.length<=1000)(ts:List Tu)(lt:ts.length<=1000)(s:sn (mo h ms k) w ts.reverse w.length) :
  aW T (n+3) 57 [X,.lst false (w.map .int),.int k,.lst false (ts.map tuD)]=.ok (.bl true):=by
 have eX:=o.er;have oX:=o.ob;have mX:=o.mo n k h0 h1;generalize mo h ms k=v at *;have eW:=gk w;have eT:=kT ts;have eR:ers ((ts.map tuD).reverse)=ts.reverse.map tuD:=by rw[<- List.map_reverse,kT]
 have lw':(w.map D.int).length < 16777216:=by rw[List.length_map];omega
 obtain⟨τ',ea,nd,pd,x6,x7,rfl,_⟩:=Ev.gj (its:=ts.reverse.map tuD) (τ:=[some X,some (.lst false (w.map .int)),some (.int k),some (.lst false (ts.map tuD)),some (.int w.length),some (.int 0),none,none]) (body:=Ev.turn (aW T (n+2)) (.tp [(.nm 6),(.nm 7)]) tSe)
  (fun i τ=>∃ (nd pd:Int) (x6 x7:Option D),τ=[some X,some (.lst false (w.map .int)),some (.int k),some (.lst false (ts.map tuD)),some (.int nd),some (.int pd),x6,x7]/\sn v w (ts.reverse.drop i) (nd - pd)) ⟨w.length,0,none,none,rfl,by rw[List.drop_zero,Int.sub_zero];exact s⟩ (by
   rintro i x τ hx ⟨nd,pd,x6,x7,rfl,hs⟩;rw[List.getElem?_map] at hx;obtain⟨t,ht,rfl⟩:=Option.map_eq_some_iff.mp hx;obtain⟨hi,ht'⟩:=List.getElem?_eq_some_iff.mp ht;rw[List.drop_eq_getElem_cons hi,ht'] at hs;obtain⟨b,L⟩:=t;have hs1:nd - pd+ct w L - 1<=0->b<=v:=hs.1;have hs2:sn v w (ts.reverse.drop (i+1)) (nd - pd+ct w L - 1):=hs.2;refine⟨[some X,some (.lst false (w.map .int)),some (.int k),some (.lst false (ts.map tuD)),some (.int (nd+ct w L)),some (.int (pd+1)),some (.int b),some (.lst false (L.map .int))],?_,nd+ct w L,pd+1,_,_,rfl,by rw[show nd+ct w L - (pd+1)=nd - pd+ct w L - 1 by omega];exact hs2⟩;have fm:dv (dY (aW T (n+2)) (.nm 1) [(.cmp .in_ (.v 1) (.v 0))] (.v 1) [some (.lst false (L.map .int)),none]) (w.map .int)=.ok ((w.filter fun x=>decide (x∈L)).map .int):=by
    refine nL .int (fun x=>decide (x∈L)) _ fun j hj=>?_;have ei:opC .in_ (.int j) (.lst false (L.map .int))=.ok (decide (j∈L)):=tH _ L;cases hq:decide (j∈L)
    ·rw[hq] at ei;simp![ei]
    ·rw[hq] at ei;simp![ei]
   have lc:((w.filter fun x=>decide (x∈L)).map D.int).length=ct w L:=List.length_map _;generalize (w.filter fun x=>decide (x∈L)).map D.int=F at *;generalize hc:(ct w L:Nat)=c at *;show Ev.turn (aW T (n+2)) (.tp [(.nm 6),(.nm 7)]) tSe (.tup [.int b,.lst false (L.map .int)]) _=_;unfold tSe;by_cases hq:nd+(c:Int)<=pd+1
   ·have d1:decide (nd+(c:Int)<=pd+1)=true:=decide_eq_true hq;have d2:decide (v < b)=false:=decide_eq_false (by have:=hs1 (by omega);omega);simp![Ev.eE,lw',fm,lc,CM,d1,d2,oX,eX,mX]
   ·have d1:decide (nd+(c:Int)<=pd+1)=false:=decide_eq_false hq
    simp![Ev.eE,lw',fm,lc,CM,d1])
 unfold tSe at ea;have lW:(w.map D.int).length=w.length:=List.length_map _;rw[gx 57 d57 4 8 b57 rfl rfl rfl rfl rfl rfl];unfold b57;simp![lW,eR,show vars (.lrev (.v 3))=[3] from rfl,ea,eT,eW,eX]
theorem xy:∀ l:List Int,anyN (.bl false) ((l.map fun _=>true).map .bl)=.ok false
 | []=>rfl
 | v::l=>by have ih:=xy l;rw[List.map_cons,List.map_cons];have e:(true == false)=false:=rfl;simp![ih,e]
theorem Aa (n:Nat)(i:Int):aW T (n+1) 53 [.int i]=.ok (.bl true):=by rw[gx 53 d53 1 1 b53 rfl rfl rfl rfl rfl rfl];unfold b53;simp![ev0]
noncomputable def tLo:List IS:=[(.if_ (.or_ (.cmp .lt (.idx (.v 5) (.v 6)) (.idx (.v 4) (.v 6))) (.cmp .gt (.idx (.v 5) (.v 6)) (.idx (.v 5) (.idx (.v 1) (.bin .sub (.v 6) (.c (.int 1))))))) [(.ret (.c .non))] []),(.if_ (.not_ (.call 57 [(.v 0),(.call 56 [(.v 1),(.v 6)]),(.v 6),(.v 2)])) [(.ret (.c .non))] [])]
noncomputable def nw (ps:List Int)(h:Int)(ms:List Int):List Int:=(zs ((ps.length:Int)+1)).map (mo h ms)
theorem p8 (n:Nat){X:D}{ps:List Int}{h:Int}{ms:List Int}(o:Ob X ps h ms)(hp:Pa ps)(hl:ps.length<=9)(ts:List Tu)(lt:ts.length<=1000)(k:Ok ps h ms ts.reverse)(bf:List Int)(lb:bf.length=ps.length+1)(hb:∀ k:Int,0 < k->k<=ps.length->bf.getD k.toNat 0<=mo h ms k) :
  aW T (n+4) 58 [X,.lst false (ps.map .int),.lst false (ts.map tuD),.int h,.lst false (bf.map .int)]=.ok (.lst true ((nw ps h ms).map .int)):=by
 have eX:=o.er;have oX:=o.ob;have eP:=gk ps;have eT:=kT ts;have lP:(ps.map D.int).length=ps.length:=List.length_map _;have rz:=iB ((ps.length:Int)+1);have lz:((zs ((ps.length:Int)+1)).map D.int).length=ps.length+1:=by rw[List.length_map,fI];omega
 have f1:dv (dY (aW T (n+3)) (.nm 1) [] (.meth 67 "moment_of" "Tree" (.v 0) [(.v 1)]) [some X,none]) ((zs ((ps.length:Int)+1)).map .int)=.ok ((nw ps h ms).map .int):=by refine Ev.dW .int (mo h ms) .int _ fun j hj=>?_;have:=hJ hj;have mX:=o.mo (n+1) j (by omega) (by omega);simp![oX,eX,mX]
 have ln:(nw ps h ms).length=ps.length+1:=by unfold nw;rw[List.length_map,fI];omega
 have ln':((nw ps h ms).map D.int).length=ps.length+1:=by rw[List.length_map,ln]
 have nat:∀ j:Int,0<=j->j<=ps.length->(nw ps h ms).getD j.toNat 0=mo h ms j:=fun j j0 j1=>o9 (m:=(ps.length:Int)+1) (mo h ms) 0 j0 (by omega);generalize nw ps h ms=N at *;have f2:dv (dY (aW T (n+3)) (.nm 0) [] (.call 53 [(.v 0)]) [none]) (N.map .int)=.ok ((N.map fun _=>true).map .bl):=by refine Ev.dW .int (fun _=>true) .bl _ fun j hj=>?_;have e:=Aa (n+2) j;simp![e]
 have f3:opC .in_ (.bl false) (.lst true ((N.map fun _=>true).map .bl))=.ok false:=xy N;have n0:fW (.lst true (N.map .int)) (.int 0)=.ok (.int h):=by rw[Ev.x_i (by decide) (by omega),nat 0 (by decide) (by omega)];rfl
 have hh:opC .ne (.int h) (.int h)=.ok false:=by have:(h == h)=true:=beq_self_eq_true h;simp![this]
 have ro:=tR ps.length;obtain⟨τ',ea,x6,rfl⟩:=Ev.gj (its:=(os ps.length).map .int) (τ:=[some X,some (.lst false (ps.map .int)),some (.lst false (ts.map tuD)),some (.int h),some (.lst false (bf.map .int)),some (.lst true (N.map .int)),none]) (body:=Ev.turn (aW T (n+3)) (.nm 6) tLo)
  (fun i τ=>∃ x6,τ=[some X,some (.lst false (ps.map .int)),some (.lst false (ts.map tuD)),some (.int h),some (.lst false (bf.map .int)),some (.lst true (N.map .int)),x6]) ⟨none,rfl⟩ (by
   rintro i x τ hx ⟨x6,rfl⟩;rw[List.getElem?_map] at hx;obtain⟨j,hj,rfl⟩:=Option.map_eq_some_iff.mp hx;obtain⟨j0,j1⟩:=tP (List.mem_of_getElem? hj);refine⟨_,?_,some (.int j),rfl⟩;obtain⟨p0,p1⟩:=iK hp (k:=j) (by omega) j1;have e1:fW (.lst true (N.map .int)) (.int j)=.ok (.int (mo h ms j)):=by rw[Ev.x_i (by omega) (by omega),nat j (by omega) j1]
   have e2:fW (.lst false (bf.map .int)) (.int j)=.ok (.int (bf.getD j.toNat 0)):=Ev.x_i (by omega) (by omega);have e3:fW (.lst false (ps.map .int)) (.int (j - 1))=.ok (.int (par ps j)):=Ev.x_i (by omega) (by omega);have e4:fW (.lst true (N.map .int)) (.int (par ps j))=.ok (.int (mo h ms (par ps j))):=by rw[Ev.x_i p0 (by omega),nat (par ps j) p0 (by omega)]
   have d1:decide (mo h ms j < bf.getD j.toNat 0)=false:=decide_eq_false (by have:=hb j (by omega) j1;omega);have d2:decide (mo h ms (par ps j) < mo h ms j)=false:=decide_eq_false (by have:=k.mono j (by omega) j1;omega);have ew:=zZ (n+2) hp (k:=j) (by omega) j1 hl;have lw:(Wy ps j).length<=1000:=by
    have:∀ f k,(way ps f k).length<=f:=by
     intro f
     induction f with
     | zero=>intro k;exact Nat.le_refl _
     | succ f ih=>
      intro k;show (if 0 < k then k::way ps f (par ps k) else []).length<=f+1;split
      ·rw[List.length_cons];exact Nat.succ_le_succ (ih _)
      ·exact Nat.zero_le _
    have:=this j.toNat j;unfold Wy;omega
   have es:=vF n o (k:=j) (by omega) j1 (Wy ps j) lw ts lt (k.seen j (by omega) j1);have eW:=gk (Wy ps j);generalize (Wy ps j).map D.int=W at *;generalize ts.map tuD=TT at *;generalize N.map D.int=NN at *;generalize bf.map D.int=BB at *;generalize ps.map D.int=PP at *;unfold tLo
   simp![Ev.eE,e1,e2,e3,e4,d1,d2,ew,es,eX,eP,eT,eW])
 unfold tLo at ea;have lNN:=Ev.jv N;generalize ts.map tuD=TT at *;generalize bf.map D.int=BB at *;generalize hNN:N.map D.int=NN at *;have eN:ers NN=NN:=by rw[<- hNN];exact gk N
 rw[gx 58 d58 5 7 b58 rfl rfl rfl rfl rfl rfl];unfold b58;simp![lP,rz,lz,f1,ln',f2,f3,n0,hh,ro,ea,lNN]
noncomputable def rdT (ps ds:List Int)(dl hl:List D)(ms:List Int):D:=trD false ps ds (bkD false (ers dl) (ers hl)) ms
theorem Dx (ps ds:List Int)(dl hl:List D)(ms:List Int):er (trD true ps ds (bkD true dl hl) ms)=rdT ps ds dl hl ms:=by unfold rdT;rw[o5,o6]
theorem Dy {ps ds:List Int}{dl hl:List D}{ms:List Int}(hm:ms.length=ps.length):Ob (rdT ps ds dl hl ms) ps dl.length ms:=by
 unfold rdT;refine⟨by rw[o5,o6,L2.fV,L2.fV],?_,fun n k h0 h1=>?_⟩
 ·unfold trD;rw[Ev.aZ,Dw,beq_self_eq_true];rfl
 ·have:=p6 n ps ds (ers dl) (ers hl) ms k h0 h1 hm;rw[de] at this;exact this
noncomputable def St (ns ps ds:List Int)(x f:Str)(dl hl:List D)(ms:List Int)(ts:List Tu)(bf:List Int)(x8 x9:Option D):Ev:=
 [some (.lst false (ns.map .int)),some (.lst false (ps.map .int)),some (trD true ps ds (bkD true dl hl) ms),some (.str x),some (.str f),some (.int dl.length),some (.lst true (ts.map tuD)),some (.lst true (bf.map .int)),x8,x9]
noncomputable def sDe:List IS:=[(.mio none 2 65 "change" "Tree" [(.tup [(.idx (.lst [(.c (.str "stop")),(.c (.str "go"))]) (.call 49 [(.v 0),(.bin .add (.c (.int 450)) (.v 8)),(.c (.int 2))])),(.v 3)])]),(.asg (.nm 5) (.bin .add (.v 5) (.c (.int 1))))]
noncomputable def sTr:List IS:=[(.app 6 (.tup [(.v 5),(.v 9)])),(.mio none 2 66 "turn" "Tree" [(.bi .list [(.v 9)])])]
noncomputable def sTu:List IS:=(.asg (.nm 9) (.call 55 [(.v 0),(.bin .add (.c (.int 500)) (.bin .mul (.c (.int 20)) (.v 8))),(.bi .len [(.v 1)])]))::(.if_ (.cmp .eq (.call 49 [(.v 0),(.bin .add (.c (.int 360)) (.v 8)),(.c (.int 2))]) (.c (.int 0))) [(.asg (.nm 9) (.sl (.v 9) (some (.c (.int 1))) none))] [])::sTr
noncomputable def sIf:IS:=.if_ (.cmp .eq (.call 49 [(.v 0),(.bin .add (.c (.int 400)) (.v 8)),(.c (.int 3))]) (.c (.int 0))) sDe sTu
noncomputable def tTl:List IS:=[(.asg (.nm 7) (.call 58 [(.v 2),(.v 1),(.v 6),(.v 5),(.v 7)])),(.if_ (.cmp .is_ (.v 7) (.c .non)) [(.ret (.c (.bl false)))] [])]
theorem vG (ns ps ds:List Int){x f:Str}{cs:List Nat}(hc:Sl cs){dl hl:List D}{b:Bool}(ms:List Int)(ts:List Tu)(bf:List Int){j:Int}(x9:Option D)(l1:dl.length < 1000)(l2:hl.length < 1000)(j0:0<=j)(j1:j<=100) :
  ∃ (w:Str) (b':Bool),cZ (aW T 12) sDe (St ns ps ds x f dl (hl++[hD [wD x (sal cs) f b]]) ms ts bf (some (.int j)) x9)=.ok (.nx (St ns ps ds x f (dl++[.tup [.str w,.str x]]) (hl++[hD [wD x (sal cs) f b]]++[hD [wD x (sal cs) f b']]) ms ts bf (some (.int j)) x9)):=by
 have d:=fG 11 ns (450+j) 2 (by omega) (by omega) (by decide);have b0:=jI ns (450+j) (m:=2) (by decide);have b1:=kP ns (450+j) (m:=2) (by decide);generalize dr ns (450+j) 2=q at *;obtain⟨w,b',hw,hx⟩:∃ (w:Str) (b':Bool),Wd w b'/\∀ o,fW (.lst o [.str "stop",.str "go"]) (.int q)=.ok (.str w):=by
  rcases (show q=0∨q=1 by omega) with rfl|rfl
  ·exact⟨"stop",true,vm,fun _=>rfl⟩
  ·exact⟨"go",false,Ct,fun _=>rfl⟩
 refine⟨w,b',?_⟩;have e:=tG 5 hc (x:=x) (f:=f) (b:=b) hw dl hl l1 l2;have e2:=o7 11 ps ds _ _ ms _ _ dl (hl++[hD [wD x (sal cs) f b]]) _ _ rfl rfl (by simp![ev0]) e;have l5:((dl++[D.tup [.str w,.str x]]).length:Int)=(dl.length:Int)+1:=by rw[List.length_append];rfl
 unfold St;rw[l5];generalize dl++[D.tup [.str w,.str x]]=DL at *;generalize hl++[hD [wD x (sal cs) f b]]++[hD [wD x (sal cs) f b']]=HL' at *;generalize hl++[hD [wD x (sal cs) f b]]=HL at *;have eI:=gk ns;generalize ns.map D.int=NS at *;generalize bkD true dl HL=BK at *;generalize bkD true DL HL'=BK' at *;unfold trD at *;unfold sDe;simp![d,hx,e2,CH,eI]
theorem vH (ns ps ds:List Int)(hp:Pa ps)(hl9:ps.length<=9){x f:Str}{dl hl:List D}(ms:List Int)(hm:ms.length=ps.length)(ts:List Tu)(lt:ts.length < 1000)(bf:List Int){j:Int}(x9:Option D)(j0:0<=j)(j1:j<=100) :
  ∃ (ls:List Int),cZ (aW T 12) sTu (St ns ps ds x f dl hl ms ts bf (some (.int j)) x9)=.ok (.nx (St ns ps ds x f dl hl (nM dl.length ps ms ls) (ts++[((dl.length:Int),ls)]) bf (some (.int j)) (some (.lst false (ls.map .int))))):=by
 obtain⟨ls0,e0,h0,l0⟩:=vE 10 ns (k:=500+20*j) (m:=ps.length) (by omega) (by omega) hl9;have d:=fG 11 ns (360+j) 2 (by omega) (by omega) (by decide);generalize dr ns (360+j) 2=q at *;have lP:(ps.map D.int).length=ps.length:=List.length_map _;have cf:=jx ls0 (m:=1) (by decide);have ao0:=aoI ls0;have lt':(ts.map tuD).length < 16777216:=by rw[List.length_map];omega
 have key:∀ ls:List Int,(∀ l∈ls,1<=l/\l<=(ps.length:Int))->∃ tt,tt=St ns ps ds x f dl hl (nM dl.length ps ms ls) (ts++[((dl.length:Int),ls)]) bf (some (.int j)) (some (.lst false (ls.map .int)))/\cZ (aW T 12) sTr (St ns ps ds x f dl hl ms ts bf (some (.int j)) (some (.lst true (ls.map .int))))=.ok (.nx tt):=by
  intro ls hls;refine⟨_,rfl,?_⟩;have et:=vy 10 ps ds dl hl ms ls hp hm (by omega) hls;have eL:=gk ls;have e1:(ts++[((dl.length:Int),ls)]).map tuD=ts.map tuD++[.tup [.int dl.length,.lst false (ls.map .int)]]:=by rw[List.map_append];rfl
  unfold St;rw[e1];generalize ts.map tuD=TT at *;generalize ls.map D.int=LL at *;generalize bkD true dl hl=BK at *;unfold trD at *;unfold sTr;simp![lt',eL,et,Dv]
 unfold sTu;cases hq:(q == 0) with
 | false=>obtain⟨tt,htt,ek⟩:=key ls0 h0;refine⟨ls0,?_⟩;rw[<- htt];clear htt key;unfold St at *;simp![e0,lP,d,hq,ao0,ek]
 | true=>obtain⟨tt,htt,ek⟩:=key (ls0.drop 1) fun l hl=>h0 l (List.mem_of_mem_drop hl);refine⟨ls0.drop 1,?_⟩;rw[<- htt];clear htt key;have cf':iM ls0 (some 1) none=ls0.drop 1:=cf;have lf1:=Ev.jv (ls0.drop 1);unfold St at *;generalize ls0.drop 1=L1 at *;simp![e0,lP,d,hq,ao0,Ev.jw,cf',lf1,ek]
theorem pf (ns ps ds:List Int)(hp:Pa ps)(hl9:ps.length<=9){x f:Str}{dl hl:List D}{ms:List Int}{ts:List Tu}(lt:ts.length<=1000)(k:Ok ps dl.length ms ts.reverse){bf:List Int}(lb:bf.length=ps.length+1)(hb:∀ k:Int,0 < k->k<=ps.length->bf.getD k.toNat 0<=mo dl.length ms k)(x8 x9:Option D) :
  cZ (aW T 12) tTl (St ns ps ds x f dl hl ms ts bf x8 x9)=.ok (.nx (St ns ps ds x f dl hl ms ts (nw ps dl.length ms) x8 x9)):=by
 have e:=p8 8 (Dy (ds:=ds) (dl:=dl) (hl:=hl) k.len) hp hl9 ts lt k bf lb hb;have eT:=Dx ps ds dl hl ms;have aoN:=aoI (nw ps dl.length ms);have eP:=gk ps;have eTs:=kT ts;have eB:=gk bf;unfold St tTl;generalize trD true ps ds (bkD true dl hl) ms=TR at *;generalize rdT ps ds dl hl ms=RT at *;generalize ts.map tuD=TT at *;generalize bf.map D.int=BB at *;generalize ps.map D.int=PP at *;generalize (nw ps dl.length ms).map D.int=NN at *;simp![eT,eP,eTs,eB,e,aoN]
def Gd (ns ps ds:List Int)(x f:Str)(cs:List Nat)(i:Nat)(τ:Ev):Prop:=
 ∃ (dl hl:List D) (b:Bool) (ms:List Int) (ts:List Tu) (bf:List Int) (x8 x9:Option D),
  τ=St ns ps ds x f dl (hl++[hD [wD x (sal cs) f b]]) ms ts bf x8 x9/\Ok ps dl.length ms ts.reverse/\bf.length=ps.length+1/\(∀ k:Int,0 < k->k<=ps.length->bf.getD k.toNat 0<=mo dl.length ms k)/\dl.length<=i+1/\hl.length<=i+1/\ts.length<=i
theorem tT (ps:List Int)(h:Int)(ms:List Int):(nw ps h ms).length=ps.length+1:=by unfold nw;rw[List.length_map,fI];omega
theorem xA (ps:List Int)(h:Int)(ms:List Int)(k:Int)(h0:0 < k)(h1:k<=ps.length):(nw ps h ms).getD k.toNat 0<=mo h ms k:=by have:=o9 (m:=(ps.length:Int)+1) (mo h ms) 0 (k:=k) (by omega) (by omega);unfold nw;rw[this];exact Int.le_refl _
theorem p9 (ns ps ds:List Int)(hp:Pa ps)(hl9:ps.length<=9){x f:Str}{cs:List Nat}(hc:Sl cs)(i:Nat)(hi:i < 40)(τ:Ev)(h:Gd ns ps ds x f cs i τ):∃ τ',Ev.turn (aW T 12) (.nm 8) (sIf::tTl) (.int (0+(i:Nat))) τ=.ok (.nx τ')/\Gd ns ps ds x f cs (i+1) τ':=by
 obtain⟨dl,hl,b,ms,ts,bf,x8,x9,rfl,ok,lb,hb,l1,l2,l3⟩:=h;have d:=fG 11 ns (400+(0+(i:Int))) 3 (by omega) (by omega) (by decide);generalize dr ns (400+(0+(i:Int))) 3=q at *;have s8:(St ns ps ds x f dl (hl++[hD [wD x (sal cs) f b]]) ms ts bf x8 x9).set 8 (some (.int (0+(i:Nat))))=St ns ps ds x f dl (hl++[hD [wD x (sal cs) f b]]) ms ts bf (some (.int (0+(i:Nat)))) x9:=rfl;rw[Ev.eE,Ev.zv,Ev.rbk,s8,Ev.zt];have hcond:evS (aW T 12) sIf (St ns ps ds x f dl (hl++[hD [wD x (sal cs) f b]]) ms ts bf (some (.int (0+(i:Nat)))) x9)=if (q == 0)=true then cZ (aW T 12) sDe (St ns ps ds x f dl (hl++[hD [wD x (sal cs) f b]]) ms ts bf (some (.int (0+(i:Nat)))) x9) else cZ (aW T 12) sTu (St ns ps ds x f dl (hl++[hD [wD x (sal cs) f b]]) ms ts bf (some (.int (0+(i:Nat)))) x9):=by
  unfold sIf St;cases hq:(q == 0)
  ·simp![d,hq]
  ·simp![d,hq]
 rw[hcond];cases hq:(q == 0) with
 | true=>
  obtain⟨w,b',e⟩:=vG ns ps ds (x:=x) (f:=f) hc (dl:=dl) (hl:=hl) (b:=b) ms ts bf (j:=0+(i:Nat)) x9 (by omega) (by omega) (by omega) (by omega);have l5:((dl++[D.tup [.str w,.str x]]).length:Int)=(dl.length:Int)+1:=by rw[List.length_append];rfl
  have ok':Ok ps (dl++[D.tup [.str w,.str x]]).length ms ts.reverse:=by rw[l5];exact vB hp ok
  have hb':∀ k:Int,0 < k->k<=ps.length->bf.getD k.toNat 0<=mo (dl++[D.tup [.str w,.str x]]).length ms k:=fun k h0 h1=>by rw[vA _ dl.length ms h0];exact hb k h0 h1
  rw[if_pos rfl,e,Ev.rbk,Ev.oM,pf ns ps ds hp hl9 (by omega) ok' lb hb'];refine⟨_,rfl,dl++[D.tup [.str w,.str x]],hl++[hD [wD x (sal cs) f b]],b',ms,ts,nw ps (dl++[D.tup [.str w,.str x]]).length ms,_,_,rfl,ok',tT _ _ _,xA _ _ _,by rw[List.length_append];show dl.length+1<=_;omega,by rw[List.length_append];show hl.length+1<=_;omega,by omega⟩
 | false=>
  obtain⟨ls,e⟩:=vH ns ps ds hp hl9 (x:=x) (f:=f) (dl:=dl) (hl:=hl++[hD [wD x (sal cs) f b]]) ms ok.len ts (by omega) bf (j:=0+(i:Nat)) x9 (by omega) (by omega);have er:(ts++[((dl.length:Int),ls)]).reverse=((dl.length:Int),ls)::ts.reverse:=by rw[List.reverse_append];rfl
  have ok':Ok ps dl.length (nM dl.length ps ms ls) (ts++[((dl.length:Int),ls)]).reverse:=by rw[er];exact vC hp ok ls
  have hb':∀ k:Int,0 < k->k<=ps.length->bf.getD k.toNat 0<=mo dl.length (nM dl.length ps ms ls) k:=fun k h0 h1=>Int.le_trans (hb k h0 h1) (grow hp ok ls h0 h1);have l6:(ts++[((dl.length:Int),ls)]).length=ts.length+1:=by rw[List.length_append];rfl
  rw[if_neg (by simp),e,Ev.rbk,Ev.oM,pf ns ps ds hp hl9 (by omega) ok' lb hb'];exact⟨_,rfl,dl,hl,b,nM dl.length ps ms ls,ts++[((dl.length:Int),ls)],nw ps dl.length (nM dl.length ps ms ls),_,_,rfl,ok',tT _ _ _,xA _ _ _,by omega,by omega,by omega⟩
theorem nN (h:Int)(m:Nat){k:Int}(h0:0 < k):mo h (List.replicate m 0) k=0:=by
 unfold mo;rw[show k.toNat=(k - 1).toNat+1 by omega,List.getD_cons_succ,List.getD_eq_getElem?_getD];by_cases hm:(k - 1).toNat < m
 ·rw[List.getElem?_replicate,if_pos hm];rfl
 ·rw[List.getElem?_eq_none (by rw[List.length_replicate];omega)];rfl
theorem Dz {ps:List Int}(hp:Pa ps):Ok ps 1 (List.replicate ps.length 0) []:=by
 refine⟨List.length_replicate,fun k h0 h1=>?_,fun _ _ _=>trivial,fun t ht=>absurd ht (by simp)⟩;obtain⟨p0,p1⟩:=iK hp h0 h1;rw[nN _ _ h0];by_cases z:par ps k=0
 ·rw[z,zX];decide
 ·rw[nN _ _ (by omega)];exact Int.le_refl _
theorem holds:∀ ns:List Int,ns.length<=63->aW T 13 zC [.lst false (ns.map .int)]=.ok (.bl true):=by
 intro ns _;obtain⟨ps,e1,hp,hl9⟩:=tO 10 ns;obtain⟨ds,e2⟩:=tK 9 ps hp (by omega);obtain⟨fs,e3,nms⟩:=tx 10 ns (k:=100) (m:=2) (by decide) (by decide) (by decide) (by decide);obtain⟨x,f,rfl⟩:∃ x f,fs=[x,f]:=by
  have:=nms.len
  match fs,this with
  | [x,f],_=>exact⟨x,f,rfl⟩
 obtain⟨cs,e4,hc⟩:=vg 10 ns (k:=140) (by decide) (by decide);have e5:=tF 5 hc x f;have e6:=o7 11 ps ds _ _ (List.replicate ps.length 0) _ _ [] [hD []] _ _ rfl rfl (by unfold putD;simp![ev0]) e5;obtain⟨m,e7,m0,m40⟩:=vD 10 ns;have f1:dv (dY (aW T 12) (.nm 0) [] (.c (.int 0)) [none]) ((zs ((ps.length:Int)+1)).map .int)=.ok (((zs ((ps.length:Int)+1)).map fun _=>(0:Int)).map .int):=by refine Ev.dW .int (fun _=>(0:Int)) .int _ fun j hj=>?_;simp![ev0]
 obtain⟨τ',ea,_⟩:=Ev.gj (its:=e8 0 m) (τ:=St ns ps ds x f [putD x (sal cs) f] ([hD []]++[hD [wD x (sal cs) f false]]) (List.replicate ps.length 0) [] ((zs ((ps.length:Int)+1)).map fun _=>(0:Int)) none none) (body:=Ev.turn (aW T 12) (.nm 8) (sIf::tTl)) (Gd ns ps ds x f cs)
  ⟨[putD x (sal cs) f],[hD []],false,List.replicate ps.length 0,[],(zs ((ps.length:Int)+1)).map fun _=>(0:Int),none,none,rfl,Dz hp,by rw[List.length_map,fI];omega,fun k h0 h1=>by rw[o9 (fun _=>(0:Int)) 0 (by omega) (by omega),nN _ _ h0];exact Int.le_refl _,Nat.le_refl _,Nat.le_refl _,Nat.le_refl _⟩ (by
   intro i y τ hx hg;have hi:i < m.toNat:=by have:=(List.getElem?_eq_some_iff.mp hx).1;rw[jo] at this;omega
   unfold e8 at hx;rw[List.getElem?_map,List.getElem?_range (by omega)] at hx;have hx':D.int (0+(i:Nat))=y:=Option.some.inj hx;subst hx'
   exact p9 ns ps ds hp hl9 hc i (by omega) τ hg)
 have rz:=iB ((ps.length:Int)+1);have lz:((zs ((ps.length:Int)+1)).map D.int).length=ps.length+1:=by rw[List.length_map,fI];omega
 have lP:(ps.map D.int).length=ps.length:=List.length_map _;have eP:=gk ps;have aoP:=aoI ps;have lf0:=Ev.jv ((zs ((ps.length:Int)+1)).map fun _=>(0:Int));generalize ((zs ((ps.length:Int)+1)).map fun _=>(0:Int))=Z0 at *;unfold St at ea;unfold sIf tTl sDe sTu sTr at ea;have l1:([putD x (sal cs) f]:List D).length=1:=rfl;rw[l1] at ea;have t0:([]:List Tu).map tuD=[]:=rfl;rw[t0] at ea;have n1:((1:Nat):Int)=1:=rfl;rw[n1] at ea;have hh:[hD []]++[hD [wD x (sal cs) f false]]=[hD [],hD [wD x (sal cs) f false]]:=rfl;rw[hh] at ea;have eN:=gk ns;have e3':aW T 12 51 [.lst false (ns.map .int),.int 100,.int 2]=.ok (.lst true [.str x,.str f]):=e3;unfold putD at *;generalize bkD true [] [hD []]=B0 at *;generalize bkD true [D.tup [.str "put",.str x,.str (sal cs),.str f,.lst false []]] [hD [],hD [wD x (sal cs) f false]]=B1 at *;generalize ns.map D.int=NS at *;generalize ps.map D.int=PP at *;unfold trD at *;show aW T (12+1) 59 [.lst false NS]=_;rw[gx 59 d59 1 10 b59 rfl rfl rfl rfl rfl rfl];unfold b59;simp![e1,aoP,e2,e3',e4,e6,e7,eP,eN,CH,lP,rz,lz,f1,lf0,ea]
end Law
namespace PySem.W.Fast
theorem tw12946090148736488028:True:=⟨⟩
theorem tw17608653143792194852:True:=⟨⟩
theorem tw3670502081038499033:True:=⟨⟩
theorem tw10323365443894729724:True:=⟨⟩
theorem tw4563390071351720954:True:=⟨⟩
theorem tw2438442730369252778:True:=⟨⟩
theorem tw18339928006195153456:True:=⟨⟩
theorem tw8354075978018201586:True:=⟨⟩
theorem tw14047405029421725268:True:=⟨⟩
theorem tw7771401817704465764:True:=⟨⟩
theorem tw17140212989385785960:True:=⟨⟩
theorem tw16166855361958399846:True:=⟨⟩
theorem tw4607162011408804773:True:=⟨⟩
theorem tw12917612704801716525:True:=⟨⟩
theorem tw6416744405470280232:True:=⟨⟩
theorem tw11449518074311729764:True:=⟨⟩
theorem tw9412375701236013830:True:=⟨⟩
theorem tw2917639233777224699:True:=⟨⟩
theorem tw9050486734788836736:True:=⟨⟩
theorem tw8452729013351672032:True:=⟨⟩
theorem tw16685777383608998018:True:=⟨⟩
theorem tw10348060757804819161:True:=⟨⟩
theorem tw1211382419347564806:True:=⟨⟩
theorem tw4354027531317061508:True:=⟨⟩
theorem tw16630913290493044682:True:=⟨⟩
theorem tw11192330964238151844:True:=⟨⟩
theorem tw1909428955210351107:True:=⟨⟩
theorem tw12235081550175091270:True:=⟨⟩
theorem tw17677288517974288865:True:=⟨⟩
theorem tw5511606229568211721:True:=⟨⟩
theorem tw9330477946008411669:True:=⟨⟩
theorem tw3549636214139854920:True:=⟨⟩
theorem tw882067411722525710:True:=⟨⟩
theorem tw4294490967253343270:True:=⟨⟩
theorem tw16361328387748326900:True:=⟨⟩
theorem tw4287438549148613297:True:=⟨⟩
theorem tw12425523940457810430:True:=⟨⟩
theorem tw4277606244479296035:True:=⟨⟩
theorem tw1848268974863012136:True:=⟨⟩
theorem tw9196694998735923064:True:=⟨⟩
theorem tw10824180504094020711:True:=⟨⟩
theorem tw13798678007255062772:True:=⟨⟩
theorem tw3822809495550005115:True:=⟨⟩
theorem tw7984004988747288836:True:=⟨⟩
theorem tw17999806522694962093:True:=⟨⟩
theorem tw3819555669764130947:True:=⟨⟩
theorem tw5624439909216118061:True:=⟨⟩
theorem tw18280228792773958769:True:=⟨⟩
theorem tw3079979018056223619:True:=⟨⟩
theorem tw12852427516126939718:True:=⟨⟩
theorem tw18248842667559912752:True:=⟨⟩
theorem tw2295205051309348612:True:=⟨⟩
theorem tw10354285798760331576:True:=⟨⟩
theorem tw15380953210636833041:True:=⟨⟩
theorem tw10690555686859812782:True:=⟨⟩
theorem tw9207433053170691947:True:=⟨⟩
theorem tw15614094892506609331:True:=⟨⟩
theorem tw16857027674270079904:True:=⟨⟩
theorem tw8250459418319610692:True:=⟨⟩
theorem tw968509797991570774:True:=⟨⟩
theorem tw15785740870944060167:True:=⟨⟩
theorem tw1085521577282292506:True:=⟨⟩
theorem tw12196126575974759178:True:=⟨⟩
theorem tw4608298447127333200:True:=⟨⟩
theorem tw5947485630506109593:True:=⟨⟩
theorem tw5867299767261709116:True:=⟨⟩
theorem tw7181658954795840606:True:=⟨⟩
theorem tw1093347113516768237:True:=⟨⟩
theorem tw16718165706191484990:True:=⟨⟩
theorem tw15972502111672054793:True:=⟨⟩
theorem tw14649372933507362881:True:=⟨⟩
theorem tw780970584209415993:True:=⟨⟩
theorem tw15165970250520721711:True:=⟨⟩
theorem tw16192507672839824490:True:=⟨⟩
theorem tw8264722007488007786:True:=⟨⟩
theorem tw12753100230993430727:True:=⟨⟩
theorem tw13657053368369049219:True:=⟨⟩
theorem tw7878462237625893260:True:=⟨⟩
theorem tw14561123390687096554:True:=⟨⟩
theorem tw13496775652683018296:True:=⟨⟩
theorem tw17968822569050536371:True:=⟨⟩
theorem tw16455797819264495982:True:=⟨⟩
theorem tw12767915346840493049:True:=⟨⟩
theorem tw2041683802254614353:True:=⟨⟩
theorem tw18370975529000209683:True:=⟨⟩
theorem tw14593367526235723679:True:=⟨⟩
theorem tw1519187811227033170:True:=⟨⟩
theorem tw9991333292758460488:True:=⟨⟩
theorem tw10907395794297557446:True:=⟨⟩
theorem tw13626807016718630510:True:=⟨⟩
theorem tw218421009120800394:True:=⟨⟩
theorem tw6233927622616370691:True:=⟨⟩
theorem tw2955026521761672787:True:=⟨⟩
theorem tw9047796278149194917:True:=⟨⟩
theorem tw249400670379705194:True:=⟨⟩
theorem tw3572220416231914031:True:=⟨⟩
theorem tw12097550053362403068:True:=⟨⟩
theorem tw2024223730458267926:True:=⟨⟩
theorem tw7703508315469750987:True:=⟨⟩
theorem tw1600319354510131431:True:=⟨⟩
theorem tw3707571744207278339:True:=⟨⟩
theorem tw5618922522941648274:True:=⟨⟩
theorem tw4874440094945230967:True:=⟨⟩
theorem tw17272558954932965459:True:=⟨⟩
theorem tw7380803524361171998:True:=⟨⟩
theorem tw12566759109585863130:True:=⟨⟩
theorem tw9477249836873057957:True:=⟨⟩
theorem tw4946194276991989651:True:=⟨⟩
theorem tw1234926457581238245:True:=⟨⟩
theorem tw13163852667476538427:True:=⟨⟩
theorem tw3219508991356810624:True:=⟨⟩
theorem tw7013450788415392663:True:=⟨⟩
theorem tw7821677226109985458:True:=⟨⟩
theorem tw2348582538104659260:True:=⟨⟩
theorem tw5513700633237472203:True:=⟨⟩
theorem tw5975133750598861415:True:=⟨⟩
theorem tw10386326108799466916:True:=⟨⟩
theorem tw9734814618769486414:True:=⟨⟩
theorem tw2301674190789338419:True:=⟨⟩
theorem tw14929237953733983954:True:=⟨⟩
theorem tw4018206413252526247:True:=⟨⟩
theorem tw13818707965637758205:True:=⟨⟩
theorem tw5833518018280228682:True:=⟨⟩
theorem tw8187429560969601828:True:=⟨⟩
theorem tw12237116370550218250:True:=⟨⟩
theorem tw10914724870647665028:True:=⟨⟩
theorem tw2715529379594868182:True:=⟨⟩
theorem tw14981879491733100572:True:=⟨⟩
theorem tw2700537825431144460:True:=⟨⟩
theorem tw10131972560718821350:True:=⟨⟩
theorem tw13588063430255034895:True:=⟨⟩
theorem tw8749450755200649776:True:=⟨⟩
theorem tw367935319463530331:True:=⟨⟩
theorem tw10571227686476874020:True:=⟨⟩
theorem tw12462976314158716952:True:=⟨⟩
theorem tw13201919305138635980:True:=⟨⟩
theorem tw1590502241986333449:True:=⟨⟩
theorem tw2563753528779587071:True:=⟨⟩
theorem tw4481300688919063376:True:=⟨⟩
theorem tw15765397330058577368:True:=⟨⟩
theorem tw4349988967976271399:True:=⟨⟩
theorem tw8285185429206717826:True:=⟨⟩
theorem tw14291913223066478744:True:=⟨⟩
theorem tw13538496992120534078:True:=⟨⟩
theorem tw16277769333191474265:True:=⟨⟩
theorem tw5809385568651589237:True:=⟨⟩
theorem tw8669058200484947914:True:=⟨⟩
theorem tw12165316415058143805:True:=⟨⟩
theorem tw13353206704239841823:True:=⟨⟩
theorem tw144107656842632876:True:=⟨⟩
theorem tw11647493023783992804:True:=⟨⟩
theorem tw11532982353630488578:True:=⟨⟩
theorem tw5698227173312802642:True:=⟨⟩
theorem tw2245929018529037815:True:=⟨⟩
theorem tw1161877532919158669:True:=⟨⟩
theorem tw14477662290511344580:True:=⟨⟩
theorem tw5200334262128036593:True:=⟨⟩
theorem tw1941953106510271668:True:=⟨⟩
theorem tw3025394712209121937:True:=⟨⟩
theorem tw3032796419015556222:True:=⟨⟩
theorem tw6635049186896537136:True:=⟨⟩
theorem tw10114471163343544597:True:=⟨⟩
theorem tw10195148317945773578:True:=⟨⟩
theorem tw18002173774205344470:True:=⟨⟩
theorem tw2986660652284676182:True:=⟨⟩
theorem tw2001172630852928593:True:=⟨⟩
theorem tw17352239152718105852:True:=⟨⟩
theorem tw2095814083713773389:True:=⟨⟩
theorem tw2698805689487558982:True:=⟨⟩
theorem tw15229338697370622400:True:=⟨⟩
theorem tw14702293810860526075:True:=⟨⟩
theorem tw6017225022900694542:True:=⟨⟩
theorem tw7350989968275993297:True:=⟨⟩
theorem tw14815730717305353464:True:=⟨⟩
theorem tw16709519067032603007:True:=⟨⟩
theorem tw16217591353284078875:True:=⟨⟩
theorem tw1765932477015662527:True:=⟨⟩
theorem tw4045404047592556947:True:=⟨⟩
theorem tw2194268881808765512:True:=⟨⟩
theorem tw17635407649117609423:True:=⟨⟩
theorem tw16039346010116760475:True:=⟨⟩
theorem tw729153763002215664:True:=⟨⟩
theorem tw2538624621811894937:True:=⟨⟩
theorem tw1195308017854553445:True:=⟨⟩
theorem tw10538278332027098991:True:=⟨⟩
theorem tw8365605858126873182:True:=⟨⟩
theorem tw16619815893364422112:True:=⟨⟩
theorem tw10817454289501158566:True:=⟨⟩
theorem tw6705615619210692773:True:=⟨⟩
theorem tw11510416194888279711:True:=⟨⟩
theorem tw10398215229390702307:True:=⟨⟩
theorem tw18336356183156594416:True:=⟨⟩
theorem tw15216530900268787472:True:=⟨⟩
theorem tw7371625140732413619:True:=⟨⟩
theorem tw13500135339495679220:True:=⟨⟩
theorem tw18382130467827247417:True:=⟨⟩
theorem tw9421714826468168114:True:=⟨⟩
theorem tw12701583878062402807:True:=⟨⟩
theorem tw14350525274912810106:True:=⟨⟩
theorem tw8042215873584812603:True:=⟨⟩
theorem tw2814882633299026496:True:=⟨⟩
theorem tw2294447331696283820:True:=⟨⟩
theorem tw18205959997325444069:True:=⟨⟩
theorem tw9211505877888722516:True:=⟨⟩
theorem tw2981005270150824977:True:=⟨⟩
theorem tw10976868276672202270:True:=⟨⟩
theorem tw9607986075590440240:True:=⟨⟩
theorem tw17631817728102043524:True:=⟨⟩
theorem tw5908883962662150916:True:=⟨⟩
theorem tw17112992576934455311:True:=⟨⟩
theorem tw17825571190036829600:True:=⟨⟩
theorem tw1425966455145151853:True:=⟨⟩
theorem tw7528429770029367510:True:=⟨⟩
theorem tw10512582530072251016:True:=⟨⟩
theorem tw2434654693196824744:True:=⟨⟩
theorem tw7779526266143591205:True:=⟨⟩
theorem tw5534156958779866220:True:=⟨⟩
theorem tw5637351870338679608:True:=⟨⟩
theorem tw3688917037279062082:True:=⟨⟩
theorem tw15069174046294862913:True:=⟨⟩
theorem tw2089949350347033168:True:=⟨⟩
theorem tw10237978215864458804:True:=⟨⟩
theorem tw11800871676180597383:True:=⟨⟩
theorem tw9560585040980974174:True:=⟨⟩
theorem tw17942019264712604401:True:=⟨⟩
theorem tw16665874329034532456:True:=⟨⟩
theorem tw2885400552252716608:True:=⟨⟩
theorem tw12026553864946931985:True:=⟨⟩
theorem tw5386360253488903053:True:=⟨⟩
theorem tw3598783728818029669:True:=⟨⟩
theorem tw13146270624790818255:True:=⟨⟩
theorem tw5991476670301046964:True:=⟨⟩
theorem tw1772721319837061215:True:=⟨⟩
theorem tw1113552230383310049:True:=⟨⟩
theorem tw13242016149302048505:True:=⟨⟩
theorem tw18195121921628168446:True:=⟨⟩
theorem tw7735620242705981040:True:=⟨⟩
theorem tw10546830632054849051:True:=⟨⟩
theorem tw6462552935516070660:True:=⟨⟩
theorem tw16500474577194792005:True:=⟨⟩
theorem tw10183591638336829298:True:=⟨⟩
theorem tw7394626128425384872:True:=⟨⟩
theorem tw355708496051272264:True:=⟨⟩
theorem tw1693266258339630497:True:=⟨⟩
theorem tw13216310816264632728:True:=⟨⟩
theorem tw2916615929802656010:True:=⟨⟩
theorem tw12246088741947188029:True:=⟨⟩
theorem tw13470581729864550990:True:=⟨⟩
theorem tw307988138867284790:True:=⟨⟩
theorem tw17268482141401063894:True:=⟨⟩
theorem tw15253582691763454455:True:=⟨⟩
theorem tw11828094882329658864:True:=⟨⟩
theorem tw923198519620767634:True:=⟨⟩
theorem tw10521831634797943098:True:=⟨⟩
theorem tw6937798580438342170:True:=⟨⟩
theorem tw4175296715018814690:True:=⟨⟩
theorem tw4994902392132912562:True:=⟨⟩
theorem tw4837044639448953600:True:=⟨⟩
theorem tw7198344155455431910:True:=⟨⟩
theorem tw14905575658660143479:True:=⟨⟩
theorem tw13486152234932445817:True:=⟨⟩
theorem tw16109468480160475169:True:=⟨⟩
theorem tw1477362724418568825:True:=⟨⟩
theorem tw12619213663020182677:True:=⟨⟩
theorem tw4905536505096328372:True:=⟨⟩
theorem tw16514862867875061221:True:=⟨⟩
theorem tw7703782022503782498:True:=⟨⟩
theorem tw15540104397450153103:True:=⟨⟩
theorem tw8492036693080320151:True:=⟨⟩
theorem tw15803288218869039840:True:=⟨⟩
theorem tw4464369856350939092:True:=⟨⟩
theorem tw3230336703884514997:True:=⟨⟩
theorem tw9978065568819622510:True:=⟨⟩
theorem tw4348987271335585445:True:=⟨⟩
theorem tw2026049907789786015:True:=⟨⟩
theorem tw5811324385267517183:True:=⟨⟩
theorem tw13884655131202965253:True:=⟨⟩
theorem tw18226934257362654060:True:=⟨⟩
theorem tw9563460312155446998:True:=⟨⟩
theorem tw16522791111600816955:True:=⟨⟩
theorem tw5696556122757449800:True:=⟨⟩
theorem tw17524322480493576070:True:=⟨⟩
theorem tw13564939404532590299:True:=⟨⟩
theorem tw3768177303756592794:True:=⟨⟩
theorem tw3485299804931935359:True:=⟨⟩
theorem tw7415752386224485057:True:=⟨⟩
theorem tw9251117839328436982:True:=⟨⟩
theorem tw8392906971365572739:True:=⟨⟩
theorem tw14528318751819252900:True:=⟨⟩
theorem tw9431327187804833545:True:=⟨⟩
theorem tw7859503410700384705:True:=⟨⟩
theorem tw16498874916825413142:True:=⟨⟩
theorem tw6500256165850101464:True:=⟨⟩
theorem tw598765668740272314:True:=⟨⟩
theorem tw11858692889381251621:True:=⟨⟩
theorem tw1610060623474441967:True:=⟨⟩
theorem tw10684420484254669253:True:=⟨⟩
theorem tw16647201314548636055:True:=⟨⟩
theorem tw9342188484088459836:True:=⟨⟩
theorem tw10846651497360292284:True:=⟨⟩
theorem tw2067133533981162331:True:=⟨⟩
theorem tw15940950916903861131:True:=⟨⟩
theorem tw16268395090463685942:True:=⟨⟩
theorem tw12545388593009350174:True:=⟨⟩
theorem tw84183588985688156:True:=⟨⟩
theorem tw17011003987174658246:True:=⟨⟩
theorem tw11447240128623400482:True:=⟨⟩
theorem tw3599241771264018151:True:=⟨⟩
theorem tw7723880234664802627:True:=⟨⟩
theorem tw1671695815220830098:True:=⟨⟩
theorem tw8016609359890949439:True:=⟨⟩
theorem tw366848893962103196:True:=⟨⟩
theorem tw18432373833748287400:True:=⟨⟩
theorem tw601894905933232498:True:=⟨⟩
theorem tw3255410784052501830:True:=⟨⟩
theorem tw10067565412024672913:True:=⟨⟩
theorem tw1868023622504107322:True:=⟨⟩
theorem tw8128310948152411537:True:=⟨⟩
theorem tw8920793554733178383:True:=⟨⟩
theorem tw1895112434153342009:True:=⟨⟩
theorem tw12087074945947651854:True:=⟨⟩
theorem tw10785438358227994512:True:=⟨⟩
theorem tw17509375825280391986:True:=⟨⟩
theorem tw5755266570559771057:True:=⟨⟩
theorem tw11101934856238422635:True:=⟨⟩
theorem tw7443867340993378481:True:=⟨⟩
theorem tw1984626448470691453:True:=⟨⟩
theorem tw9970120771162420064:True:=⟨⟩
theorem tw17251240333442656601:True:=⟨⟩
theorem tw6124594098928144548:True:=⟨⟩
theorem tw2667664222338743202:True:=⟨⟩
theorem tw8385831649053033368:True:=⟨⟩
theorem tw11993257557900126206:True:=⟨⟩
theorem tw17391799096068787023:True:=⟨⟩
theorem tw15553623097985738295:True:=⟨⟩
theorem tw14389279160374464341:True:=⟨⟩
theorem tw16016754365522540480:True:=⟨⟩
theorem tw11699604633006982397:True:=⟨⟩
theorem tw18065021933027139667:True:=⟨⟩
theorem tw10831998314742282902:True:=⟨⟩
theorem tw4925478123010956232:True:=⟨⟩
theorem tw5516150366266836026:True:=⟨⟩
theorem tw3503743270092860798:True:=⟨⟩
theorem tw5147311664851787776:True:=⟨⟩
theorem tw14063789285084446196:True:=⟨⟩
theorem tw9967223382859044105:True:=⟨⟩
theorem tw12847041551266306493:True:=⟨⟩
theorem tw13079798898982135813:True:=⟨⟩
theorem tw14071212996916996121:True:=⟨⟩
theorem tw8559977423788961034:True:=⟨⟩
theorem tw15847015807157732384:True:=⟨⟩
theorem tw16755562299550369226:True:=⟨⟩
theorem tw17257245814922973654:True:=⟨⟩
theorem tw15307918989946463740:True:=⟨⟩
theorem tw5952281653237616641:True:=⟨⟩
theorem tw8548186493887858096:True:=⟨⟩
theorem tw8657975550883287614:True:=⟨⟩
theorem tw2412689810625571367:True:=⟨⟩
theorem tw7302291850450768580:True:=⟨⟩
theorem tw2761968461365727879:True:=⟨⟩
theorem tw16506155418997253441:True:=⟨⟩
theorem tw257707113704543509:True:=⟨⟩
theorem tw7295313428056815615:True:=⟨⟩
theorem tw16856479808577678669:True:=⟨⟩
theorem tw14552985308077753018:True:=⟨⟩
theorem tw14717750792607842564:True:=⟨⟩
theorem tw4797531783224741898:True:=⟨⟩
theorem tw3650077634868388360:True:=⟨⟩
theorem tw16758095427604443304:True:=⟨⟩
theorem tw2935764080051053830:True:=⟨⟩
theorem tw12222232185172569309:True:=⟨⟩
theorem tw10845753341089489537:True:=⟨⟩
theorem tw13764641412819646665:True:=⟨⟩
theorem tw3189073906356298601:True:=⟨⟩
theorem tw12088693621886171446:True:=⟨⟩
theorem tw13921813089713272692:True:=⟨⟩
theorem tw9778163214402369963:True:=⟨⟩
theorem tw17263420084362118145:True:=⟨⟩
theorem tw8724486826300963334:True:=⟨⟩
theorem tw13314800651670999237:True:=⟨⟩
theorem tw17204705599708826416:True:=⟨⟩
theorem tw2313186740184732965:True:=⟨⟩
theorem tw15264156555169477826:True:=⟨⟩
theorem tw1735113809197755319:True:=⟨⟩
theorem tw8509996218631504432:True:=⟨⟩
theorem tw1947947086819635766:True:=⟨⟩
theorem tw18064960045165546544:True:=⟨⟩
theorem tw125117065717247802:True:=⟨⟩
theorem tw2021456008569333437:True:=⟨⟩
theorem tw16203399629145844110:True:=⟨⟩
theorem tw17322104445312980108:True:=⟨⟩
theorem tw16419389211373602529:True:=⟨⟩
theorem tw11476163747727132915:True:=⟨⟩
theorem tw8428987650319166418:True:=⟨⟩
theorem tw14096891826815875730:True:=⟨⟩
theorem tw803239947702249482:True:=⟨⟩
theorem tw10949512753555909581:True:=⟨⟩
theorem tw12410232438316128811:True:=⟨⟩
theorem tw7085989292124054095:True:=⟨⟩
theorem tw5666922814575861050:True:=⟨⟩
theorem tw16026070460966902258:True:=⟨⟩
theorem tw12961568290025799563:True:=⟨⟩
theorem tw7996387652025949676:True:=⟨⟩
theorem tw3528295122695602388:True:=⟨⟩
theorem tw12259812633185724538:True:=⟨⟩
theorem tw3145390400474123078:True:=⟨⟩
theorem tw14379410529905504708:True:=⟨⟩
theorem tw10074242604175601636:True:=⟨⟩
theorem tw2067990201572024556:True:=⟨⟩
theorem tw16157397544324239423:True:=⟨⟩
theorem tw8248487981641169616:True:=⟨⟩
theorem tw3502934496038140122:True:=⟨⟩
theorem tw13980042965024930100:True:=⟨⟩
theorem tw9865644330336701345:True:=⟨⟩
theorem tw6737738079783085253:True:=⟨⟩
theorem tw13153093583100094265:True:=⟨⟩
theorem tw7282327626096633911:True:=⟨⟩
theorem tw12022521474603213465:True:=⟨⟩
theorem tw3840402965521774858:True:=⟨⟩
theorem tw10167543339143045379:True:=⟨⟩
theorem tw8618211498260798315:True:=⟨⟩
theorem tw6641321068715252706:True:=⟨⟩
theorem tw14413272287434853204:True:=⟨⟩
theorem tw505142948169448067:True:=⟨⟩
theorem tw5275735225081346789:True:=⟨⟩
theorem tw10547421584463336847:True:=⟨⟩
theorem tw866274309688311135:True:=⟨⟩
theorem tw12163475763330989452:True:=⟨⟩
theorem tw12986369426898596676:True:=⟨⟩
theorem tw8022511191465008200:True:=⟨⟩
theorem tw7579332716776922688:True:=⟨⟩
theorem tw495560960710690404:True:=⟨⟩
theorem tw13739603681573354053:True:=⟨⟩
theorem tw17399533089520458739:True:=⟨⟩
theorem tw3181266418554720602:True:=⟨⟩
theorem tw5448716708576257657:True:=⟨⟩
theorem tw10428192692226526649:True:=⟨⟩
theorem tw5311555459996005888:True:=⟨⟩
theorem tw11516422580278541591:True:=⟨⟩
theorem tw2282624791816127965:True:=⟨⟩
theorem tw17661095368299155618:True:=⟨⟩
theorem tw9041046518276408548:True:=⟨⟩
theorem tw60342270287527104:True:=⟨⟩
theorem tw3441709715573356008:True:=⟨⟩
theorem tw6071432168347078462:True:=⟨⟩
theorem tw8952574293741864304:True:=⟨⟩
theorem tw6106445036455157711:True:=⟨⟩
theorem tw894162766516558854:True:=⟨⟩
theorem tw14793692753340519737:True:=⟨⟩
theorem tw15413370776200519840:True:=⟨⟩
theorem tw10585305266345454631:True:=⟨⟩
theorem tw15737250472979526147:True:=⟨⟩
theorem tw13942817060268814853:True:=⟨⟩
theorem tw13863993983869488225:True:=⟨⟩
theorem tw16438413960896615236:True:=⟨⟩
theorem tw5686558010355595642:True:=⟨⟩
theorem tw3274239421002934516:True:=⟨⟩
theorem tw2424641587980303774:True:=⟨⟩
theorem tw9033801099060002734:True:=⟨⟩
theorem tw1000628760267007683:True:=⟨⟩
theorem tw15116050447612647540:True:=⟨⟩
theorem tw9118452408465582580:True:=⟨⟩
theorem tw14947287673502148153:True:=⟨⟩
theorem tw8683054106381037247:True:=⟨⟩
theorem tw6624444258669427220:True:=⟨⟩
theorem tw11942667424620891972:True:=⟨⟩
theorem tw8028732480719687023:True:=⟨⟩
theorem tw1489505743303386679:True:=⟨⟩
theorem tw14852107090950458173:True:=⟨⟩
theorem tw16272727336354877569:True:=⟨⟩
theorem tw7905418733139238001:True:=⟨⟩
theorem tw10602977783391982578:True:=⟨⟩
theorem tw18437565568197383858:True:=⟨⟩
theorem tw1445281249600074919:True:=⟨⟩
theorem tw176025178521920736:True:=⟨⟩
theorem tw4232373915073419472:True:=⟨⟩
theorem tw8516240659133112617:True:=⟨⟩
theorem tw4118106444143733097:True:=⟨⟩
theorem tw3386586848830489385:True:=⟨⟩
theorem tw9786561331779204514:True:=⟨⟩
theorem tw6787575516637090418:True:=⟨⟩
theorem tw15406595941010012222:True:=⟨⟩
theorem tw10337513889469203215:True:=⟨⟩
theorem tw11519181768543775131:True:=⟨⟩
theorem tw1635452705383270634:True:=⟨⟩
theorem tw17798120551598742669:True:=⟨⟩
theorem tw17224014478439543594:True:=⟨⟩
theorem tw12706634368200611811:True:=⟨⟩
theorem tw1565847569853282828:True:=⟨⟩
theorem tw13328582703353367230:True:=⟨⟩
theorem tw14264587930686296154:True:=⟨⟩
theorem tw3402241806287883000:True:=⟨⟩
theorem tw4888802583865983780:True:=⟨⟩
theorem tw4520247575778141304:True:=⟨⟩
theorem tw13223911696699765330:True:=⟨⟩
theorem tw266161963722232435:True:=⟨⟩
theorem tw17642605470122551194:True:=⟨⟩
theorem tw1194908850391908365:True:=⟨⟩
theorem tw2411754470413654774:True:=⟨⟩
theorem tw7166592605216502940:True:=⟨⟩
theorem tw17417783986480557853:True:=⟨⟩
theorem tw9043062204076703237:True:=⟨⟩
theorem tw12544679690764423531:True:=⟨⟩
theorem tw10153989352523090265:True:=⟨⟩
theorem tw8554716726866168812:True:=⟨⟩
theorem tw12832045937518122366:True:=⟨⟩
theorem tw8384553435599358442:True:=⟨⟩
theorem tw1668102661557373967:True:=⟨⟩
theorem tw14269819621214398200:True:=⟨⟩
theorem tw12889594244534273090:True:=⟨⟩
theorem tw4842256392613902078:True:=⟨⟩
theorem tw11340629923111155256:True:=⟨⟩
theorem tw8815986856097027320:True:=⟨⟩
theorem tw15802452532908476670:True:=⟨⟩
theorem tw6758716997527020436:True:=⟨⟩
theorem tw18411232413801086606:True:=⟨⟩
theorem tw7432745482705138172:True:=⟨⟩
theorem tw17212977758165522497:True:=⟨⟩
theorem tw11126329467023473953:True:=⟨⟩
theorem tw24735199008762098:True:=⟨⟩
theorem tw10424474879538087689:True:=⟨⟩
theorem tw8982776083495601363:True:=⟨⟩
theorem tw1476330004584875439:True:=⟨⟩
theorem tw3090157544383728405:True:=⟨⟩
theorem tw16971207229634867528:True:=⟨⟩
theorem tw5731570057013139942:True:=⟨⟩
theorem tw10262350501480833115:True:=⟨⟩
theorem tw5977001565129426883:True:=⟨⟩
theorem tw3932713030141007462:True:=⟨⟩
theorem tw12054067961784850830:True:=⟨⟩
theorem tw6667553733615667014:True:=⟨⟩
theorem tw12804950414039272929:True:=⟨⟩
theorem tw13227718913419837136:True:=⟨⟩
theorem tw3421036621462754790:True:=⟨⟩
theorem tw6173425209488222443:True:=⟨⟩
theorem tw8393754763982532847:True:=⟨⟩
theorem tw17037859291054721046:True:=⟨⟩
theorem tw2433468870374146961:True:=⟨⟩
theorem tw3841668237183599393:True:=⟨⟩
theorem tw16265093032502618860:True:=⟨⟩
theorem tw10905657791119443793:True:=⟨⟩
theorem tw13261211048100695924:True:=⟨⟩
theorem tw6649051396022462301:True:=⟨⟩
theorem tw13052242647748105416:True:=⟨⟩
theorem tw16587478464968081758:True:=⟨⟩
theorem tw13966254527255090971:True:=⟨⟩
theorem tw11087442326673839101:True:=⟨⟩
theorem tw6678562241983260381:True:=⟨⟩
theorem tw9456275301289896904:True:=⟨⟩
theorem tw3707028052704542142:True:=⟨⟩
theorem tw3750444092963260356:True:=⟨⟩
theorem tw14234647510857753259:True:=⟨⟩
theorem tw15705336451491720764:True:=⟨⟩
theorem tw1277925807690288404:True:=⟨⟩
theorem tw16953739058172821767:True:=⟨⟩
theorem tw11186634614234540667:True:=⟨⟩
theorem tw13264412803634340521:True:=⟨⟩
theorem tw15436453954290989181:True:=⟨⟩
theorem tw7135828670558333563:True:=⟨⟩
theorem tw4597248438855249947:True:=⟨⟩
theorem tw10354133449834752041:True:=⟨⟩
theorem tw3377700342577902279:True:=⟨⟩
theorem tw10401974970862533631:True:=⟨⟩
theorem tw16933780649826549013:True:=⟨⟩
theorem tw3427512586178830749:True:=⟨⟩
theorem tw10491052832247210952:True:=⟨⟩
theorem tw3902522559412053653:True:=⟨⟩
theorem tw17185597775048702505:True:=⟨⟩
theorem tw9005503561361417765:True:=⟨⟩
theorem tw16559409448858735296:True:=⟨⟩
theorem tw17392445703285051337:True:=⟨⟩
theorem tw14611312395245100908:True:=⟨⟩
theorem tw17414907113135279549:True:=⟨⟩
theorem tw5247928403261071647:True:=⟨⟩
theorem tw10229166702764697782:True:=⟨⟩
theorem tw9863378177693952769:True:=⟨⟩
theorem tw9041706601140565367:True:=⟨⟩
theorem tw12778212703407423994:True:=⟨⟩
theorem tw12174805482019638742:True:=⟨⟩
theorem tw10404652698984625693:True:=⟨⟩
theorem tw5035698113042038692:True:=⟨⟩
theorem tw1103576601125343578:True:=⟨⟩
theorem tw8564388856067923683:True:=⟨⟩
theorem tw11611676455185541159:True:=⟨⟩
theorem tw17183327635970902687:True:=⟨⟩
theorem tw9857572746272347129:True:=⟨⟩
theorem tw15692737931106473669:True:=⟨⟩
theorem tw7731316949062374193:True:=⟨⟩
theorem tw2038098897994403797:True:=⟨⟩
theorem tw5554810851837952298:True:=⟨⟩
theorem tw17854748253647119465:True:=⟨⟩
theorem tw489417374762361310:True:=⟨⟩
theorem tw13403674140390378023:True:=⟨⟩
theorem tw3341135173147257966:True:=⟨⟩
theorem tw12601167335927016595:True:=⟨⟩
theorem tw991159037303421965:True:=⟨⟩
theorem tw11081468506487736645:True:=⟨⟩
theorem tw12529981780643631778:True:=⟨⟩
theorem tw17260928454171096291:True:=⟨⟩
theorem tw6726824639281680986:True:=⟨⟩
theorem tw13916626518736817689:True:=⟨⟩
theorem tw9988608362319193373:True:=⟨⟩
theorem tw5073470916826719252:True:=⟨⟩
theorem tw14663253835314533504:True:=⟨⟩
theorem tw2837660610987700753:True:=⟨⟩
theorem tw9845340667349571455:True:=⟨⟩
theorem tw1094578236549799075:True:=⟨⟩
theorem tw16793134027404457485:True:=⟨⟩
theorem tw5560874250359326182:True:=⟨⟩
theorem tw2650163674870443225:True:=⟨⟩
theorem tw5126614074098119730:True:=⟨⟩
theorem tw11797354640269806475:True:=⟨⟩
theorem tw10102411073197194939:True:=⟨⟩
theorem tw17312961768984407281:True:=⟨⟩
theorem tw12808917049860816220:True:=⟨⟩
theorem tw175525587270894422:True:=⟨⟩
theorem tw4679323840748553496:True:=⟨⟩
theorem tw15889455566952051418:True:=⟨⟩
theorem tw14078893660052120505:True:=⟨⟩
theorem tw12877959725999173887:True:=⟨⟩
theorem tw7637466937889904569:True:=⟨⟩
theorem tw11627487857902793151:True:=⟨⟩
theorem tw157290189451900983:True:=⟨⟩
theorem tw6025689879977345731:True:=⟨⟩
theorem tw8351448395152289558:True:=⟨⟩
theorem tw8628193126551948219:True:=⟨⟩
theorem tw9935573282211822856:True:=⟨⟩
theorem tw12549249644130260368:True:=⟨⟩
theorem tw102631979397932389:True:=⟨⟩
theorem tw8394161996877127484:True:=⟨⟩
theorem tw15806791683103559289:True:=⟨⟩
theorem tw12627275142238839897:True:=⟨⟩
theorem tw17521841011937842341:True:=⟨⟩
theorem tw17230893641377070911:True:=⟨⟩
theorem tw15877309848578305749:True:=⟨⟩
theorem tw18413904479516194134:True:=⟨⟩
theorem tw9445671492738191769:True:=⟨⟩
theorem tw13576753583976270908:True:=⟨⟩
theorem tw3994609424650674183:True:=⟨⟩
theorem tw6793538086198419270:True:=⟨⟩
theorem tw15685273828958407002:True:=⟨⟩
theorem tw16417341223754346294:True:=⟨⟩
theorem tw1271417389832119435:True:=⟨⟩
theorem tw11283123119333781283:True:=⟨⟩
theorem tw4963234740619346922:True:=⟨⟩
theorem tw1810624132479068720:True:=⟨⟩
theorem tw10423096553871433727:True:=⟨⟩
theorem tw2093359356722477249:True:=⟨⟩
theorem tw12810192088331363028:True:=⟨⟩
theorem tw17823434359096378687:True:=⟨⟩
theorem tw18419957356506638224:True:=⟨⟩
theorem tw3216402182744253408:True:=⟨⟩
theorem tw8103756958914584249:True:=⟨⟩
theorem tw14762045471995221612:True:=⟨⟩
theorem tw14248505634552936957:True:=⟨⟩
theorem tw235427925320934073:True:=⟨⟩
theorem tw1720850891893365332:True:=⟨⟩
theorem tw14107065874092536220:True:=⟨⟩
theorem tw18166799618479081582:True:=⟨⟩
theorem tw5662543161255491824:True:=⟨⟩
theorem tw11986318432381377048:True:=⟨⟩
theorem tw11534318659459628660:True:=⟨⟩
theorem tw16434985617016068918:True:=⟨⟩
theorem tw7898346578010544138:True:=⟨⟩
theorem tw9024123814727877374:True:=⟨⟩
theorem tw12298331076489581399:True:=⟨⟩
theorem tw13481825219901241243:True:=⟨⟩
theorem tw15334208221811692329:True:=⟨⟩
theorem tw13569216306500335989:True:=⟨⟩
theorem tw7499138761063429785:True:=⟨⟩
theorem tw6358576910881042708:True:=⟨⟩
theorem tw15109784422624923773:True:=⟨⟩
theorem tw18399031978135952492:True:=⟨⟩
theorem tw9808596928481891554:True:=⟨⟩
theorem tw16820743677909624722:True:=⟨⟩
theorem tw232399361651442769:True:=⟨⟩
theorem tw2571955481252553246:True:=⟨⟩
theorem tw10448247332057594706:True:=⟨⟩
theorem tw12893930350617867717:True:=⟨⟩
theorem tw151064945783218313:True:=⟨⟩
theorem tw4256533575676104682:True:=⟨⟩
theorem tw16424852522683740660:True:=⟨⟩
theorem tw5351095511908610879:True:=⟨⟩
theorem tw4591652177663070753:True:=⟨⟩
theorem tw1810034973411668971:True:=⟨⟩
theorem tw7293768292531887033:True:=⟨⟩
theorem tw4696351166730357531:True:=⟨⟩
theorem tw14081097318779807615:True:=⟨⟩
theorem tw8220113510209825855:True:=⟨⟩
theorem tw11341881881599546637:True:=⟨⟩
theorem tw5207492508918574606:True:=⟨⟩
theorem tw11671235666661743769:True:=⟨⟩
theorem tw14184170726694334427:True:=⟨⟩
theorem tw12786365203634074215:True:=⟨⟩
theorem tw9280795622682637360:True:=⟨⟩
end PySem.W.Fast
open PySem PySem.W PyProof.Rows
set_option maxRecDepth 100000 in
set_option maxHeartbeats 0 in
theorem PySem.Challenge.cw_flagroll_k75_whole_seen_in_time_holds : PySem.Challenge.rw_flagroll_k75_whole_seen_in_time.Holds := by
  w_on; o_law; k_head; (case hw => w_witness2)
  k_fill
  refine L2.rN (l := PySem.Challenge.rw_flagroll_k75_whole_seen_in_time) (T := Law.T) (n := 12) (f := Law.zC) (x := Law.u7) rfl rfl ⟨fun _ => rfl, by decide, by decide⟩ (fun w h Y => PySem.W.kIn_of Y) ?F Law.holds
  case F =>
    intro w mg fa h KX G hmg
    refine' Law.all_mk KX G hmg (Law.dfo Law.c26 rfl (fun _ _ _ _ _ _ => Law.ln1 fun _ => rfl) KX G ?a26 ?l26 ?e26 ?k26) (Law.dfo Law.c27 rfl (fun _ _ _ _ _ _ => Law.ln4 fun _ _ _ _ => rfl) KX G ?a27 ?l27 ?e27 ?k27) (Law.dfo Law.c28 rfl (fun _ _ _ _ _ _ => Law.ln1 fun _ => rfl) KX G ?a28 ?l28 ?e28 ?k28) (Law.dfo Law.c29 rfl (fun _ _ _ _ _ _ => Law.ln1 fun _ => rfl) KX G ?a29 ?l29 ?e29 ?k29) (Law.dfo Law.c30 rfl (fun _ _ _ _ _ _ => Law.ln1 fun _ => rfl) KX G ?a30 ?l30 ?e30 ?k30) (Law.dfo Law.c31 rfl (fun _ _ _ _ _ _ => Law.ln2 fun _ _ => rfl) KX G ?a31 ?l31 ?e31 ?k31) (Law.dfo Law.c32 rfl (fun _ _ _ _ _ _ => Law.ln2 fun _ _ => rfl) KX G ?a32 ?l32 ?e32 ?k32) (Law.dfo Law.c33 rfl (fun _ _ _ _ _ _ => Law.ln2 fun _ _ => rfl) KX G ?a33 ?l33 ?e33 ?k33) (Law.dfo Law.c34 rfl (fun _ _ _ _ _ _ => Law.ln1 fun _ => rfl) KX G ?a34 ?l34 ?e34 ?k34) (Law.dfo Law.c35 rfl (fun _ _ _ _ _ _ => Law.ln2 fun _ _ => rfl) KX G ?a35 ?l35 ?e35 ?k35) (Law.dfo Law.c36 rfl (fun _ _ _ _ _ _ => Law.ln3 fun _ _ _ => rfl) KX G ?a36 ?l36 ?e36 ?k36) (Law.dfo Law.c37 rfl (fun _ _ _ _ _ _ => Law.ln1 fun _ => rfl) KX G ?a37 ?l37 ?e37 ?k37) (Law.dfo Law.c38 rfl (fun _ _ _ _ _ _ => Law.ln1 fun _ => rfl) KX G ?a38 ?l38 ?e38 ?k38) (Law.dfo Law.c39 rfl (fun _ _ _ _ _ _ => Law.ln1 fun _ => rfl) KX G ?a39 ?l39 ?e39 ?k39) (Law.dfo Law.c40 rfl (fun _ _ _ _ _ _ => Law.ln1 fun _ => rfl) KX G ?a40 ?l40 ?e40 ?k40) (Law.dfo Law.c41 rfl (fun _ _ _ _ _ _ => Law.ln2 fun _ _ => rfl) KX G ?a41 ?l41 ?e41 ?k41) (Law.dfo Law.c42 rfl (fun _ _ _ _ _ _ => Law.ln3 fun _ _ _ => rfl) KX G ?a42 ?l42 ?e42 ?k42) (Law.dfo Law.c43 rfl (fun _ _ _ _ _ _ => Law.ln3 fun _ _ _ => rfl) KX G ?a43 ?l43 ?e43 ?k43) (Law.dfo Law.c44 rfl (fun _ _ _ _ _ _ => Law.ln2 fun _ _ => rfl) KX G ?a44 ?l44 ?e44 ?k44) (Law.dfo Law.c45 rfl (fun _ _ _ _ _ _ => Law.ln2 fun _ _ => rfl) KX G ?a45 ?l45 ?e45 ?k45) (Law.dfo Law.c46 rfl (fun _ _ _ _ _ _ => Law.ln2 fun _ _ => rfl) KX G ?a46 ?l46 ?e46 ?k46) (Law.dfo Law.c47 rfl (fun _ _ _ _ _ _ => Law.ln1 fun _ => rfl) KX G ?a47 ?l47 ?e47 ?k47) (Law.dfo Law.c48 rfl (fun _ _ _ _ _ _ => Law.ln1 fun _ => rfl) KX G ?a48 ?l48 ?e48 ?k48) (Law.dfo Law.c49 rfl (fun _ _ _ _ _ _ => Law.ln3 fun _ _ _ => rfl) KX G ?a49 ?l49 ?e49 ?k49) (Law.dfo Law.c50 rfl (fun _ _ _ _ _ _ => Law.ln2 fun _ _ => rfl) KX G ?a50 ?l50 ?e50 ?k50) (Law.dfo Law.c51 rfl (fun _ _ _ _ _ _ => Law.ln3 fun _ _ _ => rfl) KX G ?a51 ?l51 ?e51 ?k51) (Law.dfo Law.c52 rfl (fun _ _ _ _ _ _ => Law.ln2 fun _ _ => rfl) KX G ?a52 ?l52 ?e52 ?k52) (Law.dfo Law.c53 rfl (fun _ _ _ _ _ _ => Law.ln1 fun _ => rfl) KX G ?a53 ?l53 ?e53 ?k53) (Law.dfo Law.c54 rfl (fun _ _ _ _ _ _ => Law.ln1 fun _ => rfl) KX G ?a54 ?l54 ?e54 ?k54) (Law.dfo Law.c55 rfl (fun _ _ _ _ _ _ => Law.ln3 fun _ _ _ => rfl) KX G ?a55 ?l55 ?e55 ?k55) (Law.dfo Law.c56 rfl (fun _ _ _ _ _ _ => Law.ln2 fun _ _ => rfl) KX G ?a56 ?l56 ?e56 ?k56) (Law.dfo Law.c57 rfl (fun _ _ _ _ _ _ => Law.ln4 fun _ _ _ _ => rfl) KX G ?a57 ?l57 ?e57 ?k57) (Law.dfo Law.c58 rfl (fun _ _ _ _ _ _ => Law.ln5 fun _ _ _ _ _ => rfl) KX G ?a58 ?l58 ?e58 ?k58) (Law.dfk Law.c60 rfl (fun _ _ _ _ _ _ => Law.ln1 fun _ => rfl) KX G ?l60 ?e60 ?k60 ?u60 ?m60 ?i60 ?n60 ?j60 ?p60) (Law.Cm Law.c61 rfl (fun _ _ _ _ _ _ => Law.ln2 fun _ _ => rfl) ?l61 ?e61 ?k61 ?u61 ?m61 ?i61) (Law.dfm Law.c62 rfl (fun _ _ _ _ _ _ => Law.ln1 fun _ => rfl) ?l62 ?e62 ?k62 ?u62 ?m62 ?i62) (Law.dfk Law.c63 rfl (fun _ _ _ _ _ _ => Law.ln2 fun _ _ => rfl) KX G ?l63 ?e63 ?k63 ?u63 ?m63 ?i63 ?n63 ?j63 ?p63) (Law.dfm Law.c64 rfl (fun _ _ _ _ _ _ => Law.ln3 fun _ _ _ => rfl) ?l64 ?e64 ?k64 ?u64 ?m64 ?i64) (Law.Cm Law.c65 rfl (fun _ _ _ _ _ _ => Law.ln2 fun _ _ => rfl) ?l65 ?e65 ?k65 ?u65 ?m65 ?i65) (Law.Cn Law.c66 rfl (Law.Di ?s66) ?l66 ?e66 ?k66 ?u66 ?m66 ?i66) (Law.dfm Law.c67 rfl (fun _ _ _ _ _ _ => Law.ln2 fun _ _ => rfl) ?l67 ?e67 ?k67 ?u67 ?m67 ?i67) ?a59 ?l59 ?e59 ?k59 ?q21 ?q22 ?q23 ?q24 ?r24 ?q25 ?r25 ?oc68 ?oc69 ?pg68 ?hd68 ?po68 ?sa68 ?nadeeds_68 ?nahouses_68 ?naparents_68 ?nadepths_68 ?nabook_68 ?namoments_68 ?pg69 ?hd69 ?po69 ?sa69 ?nadeeds_69 ?nahouses_69 ?naparents_69 ?nadepths_69 ?nabook_69 ?namoments_69 ?z0 ?z1 ?z2 ?z3 ?z4 ?z5 ?z6 ?z7 ?z8 ?z9 ?z10 ?z11 ?z12 ?z13 ?z14 ?z15 ?z16 ?z17 ?z18 ?z19 ?z20
    (case a26 => k_is)
    (case l26 => k_is)
    (case e26 => k_is)
    (case k26 => k_is)
    (case a27 => k_is)
    (case l27 => k_is)
    (case e27 => k_is)
    (case k27 => k_is)
    (case a28 => k_is)
    (case l28 => k_is)
    (case e28 => k_is)
    (case k28 => k_is)
    (case a29 => k_is)
    (case l29 => k_is)
    (case e29 => k_is)
    (case k29 => k_is)
    (case a30 => k_is)
    (case l30 => k_is)
    (case e30 => k_is)
    (case k30 => k_is)
    (case a31 => k_is)
    (case l31 => k_is)
    (case e31 => k_is)
    (case k31 => k_is)
    (case a32 => k_is)
    (case l32 => k_is)
    (case e32 => k_is)
    (case k32 => k_is)
    (case a33 => k_is)
    (case l33 => k_is)
    (case e33 => k_is)
    (case k33 => k_is)
    (case a34 => k_is)
    (case l34 => k_is)
    (case e34 => k_is)
    (case k34 => k_is)
    (case a35 => k_is)
    (case l35 => k_is)
    (case e35 => k_is)
    (case k35 => k_is)
    (case a36 => k_is)
    (case l36 => k_is)
    (case e36 => k_is)
    (case k36 => k_is)
    (case a37 => k_is)
    (case l37 => k_is)
    (case e37 => k_is)
    (case k37 => k_is)
    (case a38 => k_is)
    (case l38 => k_is)
    (case e38 => k_is)
    (case k38 => k_is)
    (case a39 => k_is)
    (case l39 => k_is)
    (case e39 => k_is)
    (case k39 => k_is)
    (case a40 => k_is)
    (case l40 => k_is)
    (case e40 => k_is)
    (case k40 => k_is)
    (case a41 => k_is)
    (case l41 => k_is)
    (case e41 => k_is)
    (case k41 => k_is)
    (case a42 => k_is)
    (case l42 => k_is)
    (case e42 => k_is)
    (case k42 => k_is)
    (case a43 => k_is)
    (case l43 => k_is)
    (case e43 => k_is)
    (case k43 => k_is)
    (case a44 => k_is)
    (case l44 => k_is)
    (case e44 => k_is)
    (case k44 => k_is)
    (case a45 => k_is)
    (case l45 => k_is)
    (case e45 => k_is)
    (case k45 => k_is)
    (case a46 => k_is)
    (case l46 => k_is)
    (case e46 => k_is)
    (case k46 => k_is)
    (case a47 => k_is)
    (case l47 => k_is)
    (case e47 => k_is)
    (case k47 => k_is)
    (case a48 => k_is)
    (case l48 => k_is)
    (case e48 => k_is)
    (case k48 => k_is)
    (case a49 => k_is)
    (case l49 => k_is)
    (case e49 => k_is)
    (case k49 => k_is)
    (case a50 => k_is)
    (case l50 => k_is)
    (case e50 => k_is)
    (case k50 => k_is)
    (case a51 => k_is)
    (case l51 => k_is)
    (case e51 => k_is)
    (case k51 => k_is)
    (case a52 => k_is)
    (case l52 => k_is)
    (case e52 => k_is)
    (case k52 => k_is)
    (case a53 => k_is)
    (case l53 => k_is)
    (case e53 => k_is)
    (case k53 => k_is)
    (case a54 => k_is)
    (case l54 => k_is)
    (case e54 => k_is)
    (case k54 => k_is)
    (case a55 => k_is)
    (case l55 => k_is)
    (case e55 => k_is)
    (case k55 => k_is)
    (case a56 => k_is)
    (case l56 => k_is)
    (case e56 => k_is)
    (case k56 => k_is)
    (case a57 => k_is)
    (case l57 => k_is)
    (case e57 => k_is)
    (case k57 => k_is)
    (case a58 => k_is)
    (case l58 => k_is)
    (case e58 => k_is)
    (case k58 => k_is)
    (case u60 => k_is)
    (case m60 => k_is)
    (case l60 => k_is)
    (case e60 => k_is)
    (case k60 => k_is)
    (case i60 => k_is)
    (case u61 => k_is)
    (case m61 => k_is)
    (case l61 => k_is)
    (case e61 => k_is)
    (case k61 => k_is)
    (case i61 => k_is)
    (case u62 => k_is)
    (case m62 => k_is)
    (case l62 => k_is)
    (case e62 => k_is)
    (case k62 => k_is)
    (case i62 => k_is)
    (case u63 => k_is)
    (case m63 => k_is)
    (case l63 => k_is)
    (case e63 => k_is)
    (case k63 => k_is)
    (case i63 => k_is)
    (case u64 => k_is)
    (case m64 => k_is)
    (case l64 => k_is)
    (case e64 => k_is)
    (case k64 => k_is)
    (case i64 => k_is)
    (case u65 => k_is)
    (case m65 => k_is)
    (case l65 => k_is)
    (case e65 => k_is)
    (case k65 => k_is)
    (case i65 => k_is)
    (case u66 => k_is)
    (case m66 => k_is)
    (case l66 => k_is)
    (case s66 => k_is)
    (case e66 => k_is)
    (case k66 => k_is)
    (case i66 => k_is)
    (case u67 => k_is)
    (case m67 => k_is)
    (case l67 => k_is)
    (case e67 => k_is)
    (case k67 => k_is)
    (case i67 => k_is)
    (case n60 => kernel_rfl)
    (case j60 => kernel_rfl)
    (case p60 => kernel_rfl)
    (case n63 => kernel_rfl)
    (case j63 => kernel_rfl)
    (case p63 => kernel_rfl)
    (case a59 => k_is)
    (case l59 => k_is)
    (case e59 => k_is)
    (case k59 => k_is)
    (case q21 => k_is)
    (case q22 => k_is)
    (case q23 => k_is)
    (case q24 => k_is)
    (case r24 => k_is)
    (case q25 => k_is)
    (case r25 => k_is)
    (case oc68 => k_is)
    (case oc69 => k_is)
    (case pg68 => kernel_rfl)
    (case hd68 => kernel_rfl)
    (case po68 => kernel_rfl)
    (case sa68 => kernel_rfl)
    (case nadeeds_68 => kernel_rfl)
    (case nahouses_68 => kernel_rfl)
    (case naparents_68 => kernel_rfl)
    (case nadepths_68 => kernel_rfl)
    (case nabook_68 => kernel_rfl)
    (case namoments_68 => kernel_rfl)
    (case pg69 => kernel_rfl)
    (case hd69 => kernel_rfl)
    (case po69 => kernel_rfl)
    (case sa69 => kernel_rfl)
    (case nadeeds_69 => kernel_rfl)
    (case nahouses_69 => kernel_rfl)
    (case naparents_69 => kernel_rfl)
    (case nadepths_69 => kernel_rfl)
    (case nabook_69 => kernel_rfl)
    (case namoments_69 => kernel_rfl)
    (case z0 => k_is)
    (case z1 => k_is)
    (case z2 => k_is)
    (case z3 => k_is)
    (case z4 => k_is)
    (case z5 => k_is)
    (case z6 => k_is)
    (case z7 => k_is)
    (case z8 => k_is)
    (case z9 => k_is)
    (case z10 => k_is)
    (case z11 => k_is)
    (case z12 => k_is)
    (case z13 => k_is)
    (case z14 => k_is)
    (case z15 => k_is)
    (case z16 => k_is)
    (case z17 => k_is)
    (case z18 => k_is)
    (case z19 => k_is)
    (case z20 => k_is)
#print axioms PySem.Challenge.cw_flagroll_k75_whole_seen_in_time_holds
