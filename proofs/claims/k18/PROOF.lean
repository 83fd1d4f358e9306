import PyProof.Rows.All
import Wide.All
import OpenK.AllK
import Wide.FinOn
import Lean
import PyProof.EqAt
import PyProof.EqKinds
import PyProof.TupleCall
import PyProof.NeKinds
import PyProof.StationsW
import OpenK.KCall
import KE.KRevIter
import KE.KSortTup
import Wide.Txt2
import PyProof.FString4
import KE.KIntText
import PyProof.ZipIter
import PyProof.TupleIter
import PyProof.WalksMore
import PyProof.Rows.SortShell
import KE.KDictSum
import PyProof.Rows.SortStr
import PyProof.Rows.SetFrom
import PyProof.DictUpdate
import KE.KDictOf
import PyProof.AttrMissSeq
import KE.KDictList
import KE.KDictIter
import PyProof.Rows.SortWalk
import PyProof.EnumMake
import PyProof.EnumFor
import PyProof.Rows.EnumRows
import KE.KIsAll
import PyProof.ExcArgsOwn
import PyProof.ExcAttrAll.ValueError
import OpenK.KDescr
import OpenK.KOwn
import KE.KTryMore
import OpenK.KRaise
import PyProof.RulesDel
import PyProof.RulesAs
import PyProof.Rows.Catch
import PyProof.ExcClass2
import PyProof.StrLawsTight
import PyProof.StrLawsChain
import PyProof.Rows.StrClose
import PyProof.Rows.StrItems
import PyProof.StrLawsIn
import PyProof.Rows.StrReprFit
import PySem.Challenge.RW_flagroll_k18_lines_refused
open PySem.W (Frag)
theorem a_:type_of% @List.map_cons:=@List.map_cons
theorem b_:type_of% @List.cons_append:=@List.cons_append
theorem c_:type_of% @if_neg:=@if_neg
theorem d_:type_of% @if_pos:=@if_pos
theorem e_:type_of% @Bool.and_eq_true:=@Bool.and_eq_true
theorem f_:type_of% @LawfulBEq.eq_of_beq:=@LawfulBEq.eq_of_beq
theorem g_:type_of% @PySem.wpAny_bind:=@PySem.wpAny_bind
theorem h_:type_of% @List.length_map:=@List.length_map
theorem i_:type_of% @Bool.false_ne_true:=@Bool.false_ne_true
theorem j_:type_of% @PySem.Heap.lt_size:=@PySem.Heap.lt_size
theorem k_:type_of% @Nat.le_refl:=@Nat.le_refl
theorem l_:type_of% @decide_eq_true:=@decide_eq_true
theorem m_:type_of% @of_decide_eq_true:=@of_decide_eq_true
theorem n_:type_of% @List.nodup_append:=@List.nodup_append
theorem o_:type_of% @List.mem_append_right:=@List.mem_append_right
theorem p_:type_of% @List.mem_cons:=@List.mem_cons
theorem q_:type_of% @PySem.wpAny_pure:=@PySem.wpAny_pure
theorem r_:type_of% @List.mem_append_left:=@List.mem_append_left
theorem s_:type_of% @List.mem_cons_of_mem:=@List.mem_cons_of_mem
theorem t_:type_of% @PySem.W.mg_none_of:=@PySem.W.mg_none_of
theorem u_:type_of% @Nat.ne_of_lt:=@Nat.ne_of_lt
theorem v_:type_of% @PySem.Heap.get?_push_of_some:=@PySem.Heap.get?_push_of_some
theorem w_:type_of% @decide_eq_false:=@decide_eq_false
theorem x_:type_of% @List.mem_append:=@List.mem_append
theorem y_:type_of% @List.getElem?_eq_some_iff:=@List.getElem?_eq_some_iff
theorem zU:type_of% @List.size_toArray:=@List.size_toArray
theorem zV:type_of% @Nat.lt_of_lt_of_le:=@Nat.lt_of_lt_of_le
theorem zW:type_of% @List.length_append:=@List.length_append
theorem zX:type_of% @Bool.or_eq_true:=@Bool.or_eq_true
theorem zY:type_of% @List.all_eq_true:=@List.all_eq_true
theorem zZ:type_of% @Option.some.inj:=@Option.some.inj
theorem z_:type_of% @List.append_assoc:=@List.append_assoc
theorem Aa:type_of% @PySem.Heap.get?_push_size:=@PySem.Heap.get?_push_size
theorem Ab:type_of% @List.nodup_cons:=@List.nodup_cons
theorem Ac:type_of% @List.getElem?_map:=@List.getElem?_map
theorem Ad:type_of% @Nat.le_trans:=@Nat.le_trans
theorem Ae:type_of% @PySem.wpAny_holding:=@PySem.wpAny_holding
theorem Af:type_of% @List.mem_of_getElem?:=@List.mem_of_getElem?
theorem Ag:type_of% @List.mem_singleton:=@List.mem_singleton
theorem Ah:type_of% @List.map_map:=@List.map_map
theorem Ai:type_of% @Nat.lt_irrefl:=@Nat.lt_irrefl
theorem Aj:type_of% @List.length_take:=@List.length_take
theorem Ak:type_of% @List.length_drop:=@List.length_drop
theorem Al:type_of% @List.getElem?_set_ne:=@List.getElem?_set_ne
theorem Am:type_of% @List.append_nil:=@List.append_nil
theorem An:type_of% @PySem.Heap.get?_update_other:=@PySem.Heap.get?_update_other
theorem Ao:type_of% @List.not_mem_nil:=@List.not_mem_nil
theorem Ap:type_of% @List.getD_eq_getElem?_getD:=@List.getD_eq_getElem?_getD
theorem Aq:type_of% @List.lookup_cons:=@List.lookup_cons
theorem Ar:type_of% @PySem.Heap.get?_update_self:=@PySem.Heap.get?_update_self
theorem As:type_of% @List.singleton_append:=@List.singleton_append
theorem Au:type_of% @PySem.wpAny_Call_Name_kw:=@PySem.wpAny_Call_Name_kw
theorem Av:type_of% @List.length_singleton:=@List.length_singleton
theorem Aw:type_of% @List.getElem?_eq_getElem:=@List.getElem?_eq_getElem
theorem Ax:type_of% @Bool.and_eq_true_iff:=@Bool.and_eq_true_iff
theorem Ay:type_of% @List.getElem?_append_left:=@List.getElem?_append_left
theorem Az:type_of% @List.Perm.append_left:=@List.Perm.append_left
theorem AA:type_of% @List.perm_append_comm:=@List.perm_append_comm
open Option renaming some → Γ
open Bool renaming true → Δ
open Bool renaming false → Θ
open Option renaming none → Ξ
open PySem renaming Value → Φ
open PySem renaming Addr → Ψ
open PySem renaming Shared → Ω
open PySem renaming World → Α
open PySem renaming Program → Β
open PySem renaming sizeLine → Ε
open PySem renaming mainGlobals → Ζ
open PySem renaming Around → Η
open PySem renaming wpAny → Ι
open PySem renaming model → Κ
open PySem renaming starEach → Μ
open PySem renaming FuncData → Ν
open PySem.Str renaming ofString → Ο
open List renaming replicate → Ρ
open PySem.NameKind renaming free → Τ
open PySem.Builtin.List renaming listExtendWith → Υ
open PySem.Builtin.SmallTypes renaming nextOf → Χ
open PySem.Builtin.SmallTypes renaming ownedTupleIsFree → ζ
open PySem.Value renaming ref → η
open PySem.Obj renaming mapSeq → θ
namespace L2
theorem zE:type_of% @PySem.Expr.casesOn.{0}:=@PySem.Expr.casesOn.{0}
theorem zS:type_of% @PySem.Stmt.casesOn.{0}:=@PySem.Stmt.casesOn.{0}
theorem zL:type_of% @List.casesOn.{0,0}:=@List.casesOn.{0,0}
theorem zO:type_of% @Option.casesOn.{0,0}:=@Option.casesOn.{0,0}
theorem zB:type_of% @Bool.casesOn.{0}:=@Bool.casesOn.{0}
end L2
set_option maxHeartbeats 8000000
set_option Elab.async false
set_option linter.all false
set_option maxRecDepth 100000
namespace L2
open PySem PySem.Spec PyProof.Rows
abbrev Key:=Sum Int Str
noncomputable def um:Key->Φ->Bool
 |.inl k,v=>Value.isInt k v
 |.inr x,v=>Value.isStrOf x v
noncomputable def yZ (w:Α):Key->Int
 |.inl k=>hashInt k
 |.inr x=>hashStr w x
theorem fE:∀ {k:Key}{v:Φ},um k v=Δ->(∃i t,k=Sum.inl i/\v=Value.int i t)∨(∃x t,k=Sum.inr x/\v=Value.str x t)
 |.inl i,v,h=>by obtain⟨t,e⟩:=Value.isInt_shape (k:=i) (v:=v) h;exact .inl ⟨i,t,rfl,e⟩
 |.inr x,v,h=>by obtain⟨t,e⟩:=Value.isStrOf_shape (x:=x) (v:=v) h;exact .inr ⟨x,t,rfl,e⟩
theorem uV (a b:Int):decide ((Sum.inl a:Key)=Sum.inl b)=(a == b):=by
 by_cases e:a=b
 ·subst e;simp
 ·have h:¬(Sum.inl a:Key)=Sum.inl b:=fun q=>e (Sum.inl.inj q);rw[w_ h];exact(beq_eq_false_iff_ne.mpr e).symm
theorem uW (a b:Str):decide ((Sum.inr a:Key)=Sum.inr b)=decide (a=b):=by
 by_cases e:a=b
 ·subst e;simp
 ·have h:¬(Sum.inr a:Key)=Sum.inr b:=fun q=>e (Sum.inr.inj q);rw[w_ h,w_ e]
theorem uX (a:Int)(b:Str):decide ((Sum.inl a:Key)=Sum.inr b)=Θ:=w_ (fun q=>nomatch q)
theorem uY (a:Str)(b:Int):decide ((Sum.inr a:Key)=Sum.inl b)=Θ:=w_ (fun q=>nomatch q)
noncomputable def jv (prog:Β)(w:Α):PySem.KeyKind prog w Key where
 is:=um
 hash:=yZ w
 inj:=fun v a b ha hb=>by
  rcases fE ha with⟨i,t,rfl,rfl⟩|⟨x,t,rfl,rfl⟩
  ·rcases fE hb with⟨j,u,rfl,e⟩|⟨y,u,rfl,e⟩
   ·injection e with e1 _;rw[e1]
   ·exact nomatch e
  ·rcases fE hb with⟨j,u,rfl,e⟩|⟨y,u,rfl,e⟩
   ·exact nomatch e
   ·injection e with e1 _;rw[e1]
 byValue:=fun k v h=>by rcases fE h with⟨i,t,rfl,rfl⟩|⟨x,t,rfl,rfl⟩<;>rfl
 pyHash:=fun hv h=>by
  rcases fE hv with⟨i,t,rfl,rfl⟩|⟨x,t,rfl,rfl⟩
  ·exact wpAny_pyHash_int h
  ·exact wpAny_pyHash_str h
 eqBool:=fun hu hv h=>by
  rcases fE hu with⟨i,t,rfl,rfl⟩|⟨x,t,rfl,rfl⟩
  ·rcases fE hv with⟨j,u,rfl,rfl⟩|⟨y,u,rfl,rfl⟩
   ·rw[uV]at h;exact wpAny_eqBool_int h
   ·rw[uX]at h;exact SeqAt.EqAt.int_str i t y u _ _ _ _ h
  ·rcases fE hv with⟨j,u,rfl,rfl⟩|⟨y,u,rfl,rfl⟩
   ·rw[uY]at h;exact SeqAt.EqAt.str_int x t j u _ _ _ _ h
   ·rw[uW]at h;exact wpAny_eqBool_str h
 «strs»:=fun k x t v h=>by
  rcases fE h with⟨i,u,rfl,e⟩|⟨y,u,rfl,e⟩
  ·exact nomatch e
  ·injection e with e1 _;subst e1;cases v<;>rfl
inductive V where
 | non|bl (b:Bool)|int (i:Int)|str (x:Str)|byt (b:Array UInt8)|flt (b:UInt64)|ref (a:Ψ)|ty (n:String)
 deriving DecidableEq
def RelV:V->Φ->Prop
 |.non,u=>u=Value.none
 |.bl b,u=>u=Value.bool b
 |.int i,u=>∃t,u=Value.int i t
 |.str x,u=>∃t,u=Value.str x t
 |.byt b,u=>∃t,u=Value.bytes b t
 |.flt b,u=>∃t,u=Value.float b t
 |.ref a,u=>u=η a
 |.ty n,u=>u=Value.type n
abbrev Vals:List V->List Φ->Prop:=Paired RelV
theorem Vals.length {xs:List V}{us:List Φ}(r:Vals xs us):xs.length=us.length:=Paired.length r
theorem Vals.get:∀ {xs:List V}{us:List Φ}{i:Nat}{x:V},Vals xs us->xs[i]? = Γ x->∃u,us[i]? = Γ u/\RelV x u
 |_,_,_,_,.nil,e=>by simp at e
 |_,_,0,_,.cons r _,e=>by simp at e;subst e;exact⟨_,rfl,r⟩
 |_,_,i+1,x,.cons _ t,e=>by obtain⟨u,h1,h2⟩:=Vals.get (i:=i) (x:=x) t (by simpa using e);exact⟨u,by simpa using h1,h2⟩
theorem Vals.append:∀ {xs ys:List V}{us ws:List Φ},Vals xs us->Vals ys ws->Vals (xs++ys) (us++ws)
 |_,_,_,_,.nil,s=>s
 |_,_,_,_,.cons r t,s=>.cons r (Vals.append t s)
theorem Vals.take:∀ {xs:List V}{us:List Φ} (n:Nat),Vals xs us->Vals (xs.take n) (us.take n)
 |_,_,0,_=>.nil
 |_,_,_+1,.nil=>.nil
 |_,_,n+1,.cons r t=>.cons r (Vals.take n t)
theorem Vals.drop:∀ {xs:List V}{us:List Φ} (n:Nat),Vals xs us->Vals (xs.drop n) (us.drop n)
 |_,_,0,r=>r
 |_,_,_+1,.nil=>.nil
 |_,_,n+1,.cons _ t=>Vals.drop n t
def xa:Option V->Option Φ->Prop
 |some v,Γ u=>RelV v u
 |none,Ξ=>True
 |_,_=>False
def KV {κ:Type}:List (κ×V)->List (κ×Φ)->Prop:=Paired fun(p:κ×V) (q:κ×Φ)=>p.1=q.1/\RelV p.2 q.2
noncomputable def kV:Key->V
 |.inl i=>.int i
 |.inr x=>.str x
inductive HO where
 | lst (xs:List V)
 | tup (xs:List V)
 | dK (kvs:List (Key×V))|dT (kvs:List (List Key×V))
 | set (S:Int->Bool) (n:Nat)
 | ins (C dx:Ψ) (fs:List (Str×V))
 | own (x:Ψ)
 | xd (fs:List (Str×V))
 | met (f x:Ψ)
 | rng (lo hi:Int)
 | frz (o:Obj) (u:HO)
 | tbl (ps:Array Φ)
 | ext (φ:Heap->Prop)
abbrev Hp:=Ψ->Option HO
noncomputable def upd (H:Hp)(a:Ψ)(o:HO):Hp:=fun b=>if b=a then Γ o else H b
theorem fg {H:Hp}{a:Ψ}{o:HO}:upd H a o a=Γ o:=by unfold upd;rw[d_ rfl]
theorem eY {H:Hp}{a b:Ψ}{o:HO}(h:b≠a):upd H a o b=H b:=by unfold upd;rw[c_ h]
theorem fK {H:Hp}{a b:Ψ}{o:HO}(h:H a=Γ o)(h':H b=Ξ):a≠b:=by intro e;subst e;rw[h]at h';cases h'
section
variable (P:Β)(w:Α)
def fN (H:Hp)(h:Heap)(a:Ψ):HO->Prop
 |.lst xs=>xs.length<=Ε/\∃(its:List Φ) (n:Nat),Vals xs its/\h.get? a=Γ {cls:=.type "list",data:=.seq its.toArray n}
 |.tup xs=>xs.length<=Ε/\∃its:List Φ,Vals xs its/\IsTup h a its.toArray
 |.dK kvs=>kvs.length<=Ε/\(a == sysModules)=Θ/\∃vs,KV kvs vs/\h.DictOf (jv P w) a vs
 |.dT kvs=>kvs.length<=Ε/\(a == sysModules)=Θ/\∃xs:List (List Key×Ψ×Φ),
   Paired (fun(p:List Key×V) (q:List Key×Ψ×Φ)=>p.1=q.1/\H q.2.1=Γ (.tup (p.1.map kV))/\RelV p.2 q.2.2) kvs xs/\
   ∃o es ep,h.get? a=Γ o/\o.ExactDict/\o.data=.dict es ep/\es.toList=xs.map (entryOfKey (tupleKind (jv P w)))/\(xs.map (·.1)).Nodup
 |.set S n=>h.SetOf (intKind P w) a S n
 |.ins C dx fs=>H dx=Γ (.own a)/\fs.length<=1000/\dx≠a/\h.get? a=Γ (PySem.W.instObj C dx)/\
   ∃mA,h.Ns1 dx mA/\(∀f,xa (fs.lookup f) (mA f))/\PySem.Within mA (fs.map (·.1))
 |.own _=>∃o,h.get? a=Γ o
 |.xd fs=>∃mA,h.Ns1 a mA/\∀f,xa (fs.lookup f) (mA f)
 |.rng lo hi=>∃t u v,h.get? a=Γ {cls:=.type "range",data:=.fields #[.int lo t,.int hi u,.int 1 v]}
 |.frz o u=>h.get? a=Γ o/\fN H h a u
 |.tbl ps=>h.get? a=Γ {cls:=.none,data:=.fields ps}
 |.met f x=>h.get? a=Γ (PySem.W.methodObj (.ref f) (.ref x))
 |.ext φ=>φ h/\(∃o,h.get? a=Γ o)/\∀h1 h2:Heap,φ h1->(∀o,h1.get? a=Γ o->h2.get? a=Γ o)->φ h2
def HOk (H:Hp)(h:Heap):Prop:=∀a o,H a=Γ o->fN P w H h a o
end
section
variable {P:Β}{w:Α}{H H':Hp}{h h':Heap}{a:Ψ}{o:HO}
theorem fN.lt (x:fN P w H h a o):a < h.objs.size:=by
 cases o with
 |lst xs=>obtain⟨_,_,_,_,e⟩:=x;exact j_ e
 |tup xs=>obtain⟨_,_,_,p⟩:=x;exact p.lt
 |dK kvs=>obtain⟨_,_,_,_,o,_,_,e,_⟩:=x;exact j_ e
 |dT kvs=>obtain⟨_,_,_,_,o,_,_,e,_⟩:=x;exact j_ e
 |set S n=>obtain⟨o,_,_,_,e,_⟩:=x;exact j_ e
 |ins C dx fs=>obtain⟨_,_,_,e,_⟩:=x;exact j_ e
 |own y=>obtain⟨_,e⟩:=x;exact j_ e
 |xd fs=>obtain⟨_,⟨_,_,_,e,_⟩,_⟩:=x;exact j_ e
 |rng lo hi=>obtain⟨_,_,_,e⟩:=x;exact j_ e
 |frz ob u=>obtain⟨e,_⟩:=x;exact j_ e
 |tbl ps=>exact j_ (show h.get? a=Γ _ from x)
 |met f y=>exact j_ (show h.get? a=Γ _ from x)
 |ext φ=>obtain⟨_,⟨_,e⟩,_⟩:=x;exact j_ e
theorem Paired.mapP {α β:Type}{F G:α->β->Prop}:∀ {l₁:List α}{l₂:List β},Paired F l₁ l₂->(∀a b,F a b->G a b)->Paired G l₁ l₂
 |_,_,.nil,_=>.nil
 |_,_,.cons r t,f=>.cons (f _ _ r) (Paired.mapP t f)
theorem fN.stay (x:fN P w H h a o)(k:∀b u,(b=a∨H b=Γ (.own a))->h.get? b=Γ u->h'.get? b=Γ u)
  (ho:∀b,H b=Γ (.own a)->H' b=Γ (.own a)) (ht:∀b xs,H b=Γ (.tup xs)->H' b=Γ (.tup xs)):fN P w H' h' a o:=by
 induction o with
 |lst xs=>obtain⟨z,its,n,r,e⟩:=x;exact⟨z,its,n,r,k _ _ (.inl rfl) e⟩
 |tup xs=>obtain⟨z,its,r,ob,e,c⟩:=x;exact⟨z,its,r,ob,k _ _ (.inl rfl) e,c⟩
 |dK kvs=>obtain⟨z,y,vs,r,ob,es,ep,e,c⟩:=x;exact⟨z,y,vs,r,ob,es,ep,k _ _ (.inl rfl) e,c⟩
 |dT kvs=>obtain⟨z,y,xs,r,ob,es,ep,e,c⟩:=x;exact⟨z,y,xs,Paired.mapP r fun p q z=>⟨z.1,ht _ _ z.2.1,z.2.2⟩,ob,es,ep,k _ _ (.inl rfl) e,c⟩
 |set S n=>obtain⟨ob,es,ep,t,e,c⟩:=x;exact⟨ob,es,ep,t,k _ _ (.inl rfl) e,c⟩
 |ins C dx fs=>obtain⟨d,z,ne,e,mA,⟨od,es,ep,e2,c⟩,r⟩:=x;exact⟨ho _ d,z,ne,k _ _ (.inl rfl) e,mA,⟨od,es,ep,k _ _ (.inr d) e2,c⟩,r⟩
 |own y=>obtain⟨ob,e⟩:=x;exact⟨ob,k _ _ (.inl rfl) e⟩
 |xd fs=>obtain⟨mA,⟨od,es,ep,e,c⟩,r⟩:=x;exact⟨mA,⟨od,es,ep,k _ _ (.inl rfl) e,c⟩,r⟩
 |rng lo hi=>obtain⟨t,u,v,e⟩:=x;exact⟨t,u,v,k _ _ (.inl rfl) e⟩
 |frz ob u ih=>obtain⟨e,q⟩:=x;exact⟨k _ _ (.inl rfl) e,ih q⟩
 |tbl ps=>have e:h.get? a=Γ {cls:=.none,data:=.fields ps}:=x;show h'.get? a=Γ {cls:=.none,data:=.fields ps};exact k a _ (.inl rfl) e
 |met f y=>have e:h.get? a=Γ (PySem.W.methodObj (.ref f) (.ref y)):=x;show h'.get? a=Γ (PySem.W.methodObj (.ref f) (.ref y));exact k a _ (.inl rfl) e
 |ext φ=>obtain⟨p,⟨o,e⟩,st⟩:=x;exact⟨st _ _ p fun o q=>k _ _ (.inl rfl) q,⟨o,k _ _ (.inl rfl) e⟩,st⟩
theorem HOk.lt (x:HOk P w H h)(e:H a=Γ o):a < h.objs.size:=(x a o e).lt
theorem HOk.fresh (x:HOk P w H h)(e:h.objs.size<=a):H a=Ξ:=by
 cases q:H a with
 |none=>rfl
 |some u=>exact absurd (zV (x.lt q) e) (Ai _)
theorem HOk.kept (x:HOk P w H h)(k:∀b u,h.get? b=Γ u->h'.get? b=Γ u):HOk P w H h':=fun a o e=>
 (x a o e).stay (fun b u _ q=>k b u q) (fun _ q=>q) fun _ _ q=>q
theorem HOk.laid (x:HOk P w H h)(k:∀b u,h.get? b=Γ u->h'.get? b=Γ u)(hp:h.objs.size<=a)(new:fN P w (upd H a o) h' a o):HOk P w (upd H a o) h':=fun b u e=>by
 have hn:=x.fresh hp;by_cases hb:b=a
 ·subst hb;rw[fg]at e;cases e;exact new
 ·rw[eY hb]at e;exact(x b u e).stay (fun c v _ q=>k c v q) (fun c q=>by rw[eY (fK q hn)];exact q) fun c xs q=>by rw[eY (fK q hn)];exact q
end
def Rd (H:Hp)(a:Ψ)(u:HO):Prop:=H a=Γ u∨∃o,H a=Γ (.frz o u)
theorem Rd.ok {P:Β}{w:Α}{H:Hp}{h:Heap}{a:Ψ}{u:HO}(r:Rd H a u)(x:HOk P w H h):fN P w H h a u:=by
 rcases r with r|⟨o,r⟩
 ·exact x a u r
 ·obtain⟨_,q⟩:=x a _ r;exact q
def Mut:Option HO->Prop
 |some (.lst _)=>True
 |some (.dK _)=>True
 |some (.dT _)=>True
 |some (.set _ _)=>True
 |some (.ins _ _ _)=>True
 |some (.ext _)=>True
 |_=>False
section
variable {P:Β}{w:Α}{H:Hp}{h h':Heap}{x e:Ψ}{o':HO}
theorem HOk.write (ok:HOk P w H h)(mu:Mut (H x))(he:e=x∨H e=Γ (.own x))(k:∀b u,b≠e->h.get? b=Γ u->h'.get? b=Γ u)(heo:∃u,h'.get? e=Γ u)
  (new:fN P w (upd H x o') h' x o'):HOk P w (upd H x o') h':=fun b u q=>by
 have nown:∀c y,H c=Γ (.own y)->c≠x:=fun c y r z=>by subst z;rw[r]at mu;exact mu
 have ntup:∀c xs,H c=Γ (.tup xs)->c≠x:=fun c xs r z=>by subst z;rw[r]at mu;exact mu
 by_cases hb:b=x
 ·subst hb;rw[fg]at q;cases q;exact new
 ·rw[eY hb]at q;by_cases hbe:b=e
  ·have q':H b=Γ (.own x):=by
    rcases he with z|z
    ·exact absurd (hbe.trans z) hb
    ·rw[hbe];exact z
   rw[q]at q';cases q';obtain⟨v,hv⟩:=heo;exact⟨v,by rw[hbe];exact hv⟩
  ·refine(ok b u q).stay (fun c v hc r=>k c v ?_ r) (fun c r=>by rw[eY (nown c b r)];exact r) fun c xs r=>by rw[eY (ntup c xs r)];exact r
   rcases hc with rfl|hc
   ·exact hbe
   ·rintro rfl;rcases he with z|z
    ·exact nown c b hc z
    ·rw[hc]at z;cases z;exact hb rfl
end
structure Un (fs ex:List Ψ)(H H':Hp)(h h':Heap):Prop where
 keep:∀b o,h.get? b=Γ o->H b=Ξ->b∉fs->b∉ex->h'.get? b=Γ o
 slot:∀b o,h.get? b=Γ o->H b=Ξ->b∈fs->b∉ex->∃sl,h'.get? b=Γ {o with slots:=sl}
 free:∀b o,h.get? b=Γ o->H b=Ξ->b∉ex->H' b=Ξ
 there:∀b o,h.get? b=Γ o->b∉ex->∃o',h'.get? b=Γ o'
 tups:∀b xs,H b=Γ (.tup xs)->H' b=Γ (.tup xs)
 frzs:∀b o u,H b=Γ (.frz o u)->H' b=Γ (.frz o u)
 tbls:∀b ps,H b=Γ (.tbl ps)->∃more,H' b=Γ (.tbl (ps++more))
section
variable {fs fs' ex ex':List Ψ}{H H1 H2:Hp}{h h1 h2 h':Heap}{a x e:Ψ}{o:HO}
theorem Un.any (u:Un fs ex H H1 h h1){b:Ψ}{ob:Obj}(q:h.get? b=Γ ob)(n:H b=Ξ)(hx:b∉ex):∃sl,h1.get? b=Γ {ob with slots:=sl}:=by
 by_cases hb:b∈fs
 ·exact u.slot b ob q n hb hx
 ·exact⟨ob.slots,u.keep b ob q n hb hx⟩
theorem Un.kept (k:∀b u,h.get? b=Γ u->h'.get? b=Γ u):Un fs ex H H h h':=
 ⟨fun b ob q _ _ _=>k b ob q,fun b ob q _ _ _=>⟨ob.slots,k b ob q⟩,fun _ _ _ n _=>n,fun b ob q _=>⟨ob,k b ob q⟩,fun _ _ q=>q,fun _ _ _ q=>q,fun _ ps q=>⟨#[],by rw[q];simp⟩⟩
theorem Un.refl:Un fs ex H H h h:=Un.kept fun _ _ q=>q
theorem Un.laid (k:∀b u,h.get? b=Γ u->h'.get? b=Γ u)(hp:h.objs.size<=a)(hn:H a=Ξ):Un fs ex H (upd H a o) h h' where
 keep:=fun b u q _ _ _=>k b u q
 slot:=fun b u q _ _ _=>⟨u.slots,k b u q⟩
 free:=fun b u q n _=>by rw[eY (u_ (zV (j_ q) hp))];exact n
 there:=fun b u q _=>⟨u,k b u q⟩
 tups:=fun b xs q=>by rw[eY (fK q hn)];exact q
 frzs:=fun b u xs q=>by rw[eY (fK q hn)];exact q
 tbls:=fun b ps q=>⟨#[],by rw[eY (fK q hn),q];simp⟩
theorem Un.write (mu:Mut (H x))(he:e=x∨H e=Γ (.own x))(k:∀b u,b≠e->h.get? b=Γ u->h'.get? b=Γ u)(heo:∃u,h'.get? e=Γ u):Un fs ex H (upd H x o) h h':=by
 have hx:∀b,H b=Ξ->b≠x:=fun b n z=>by subst z;rw[n]at mu;exact mu
 have hb:∀b,H b=Ξ->b≠e:=fun b n z=>by
  subst z;rcases he with r|r
  ·exact hx b n r
  ·rw[n]at r;cases r
 have hm:∀b u,H b=Γ u->¬Mut (Γ u)->b≠x:=fun b u q nm z=>by subst z;rw[q]at mu;exact nm mu
 refine⟨fun b u q n _ _=>k b u (hb b n) q,fun b u q n _ _=>⟨u.slots,k b u (hb b n) q⟩,fun b u q n _=>by rw[eY (hx b n)];exact n,fun b u q _=>?_,
  fun b xs q=>by rw[eY (hm b _ q fun z=>z)];exact q,fun b u xs q=>by rw[eY (hm b _ q fun z=>z)];exact q,fun b ps q=>⟨#[],by rw[eY (hm b _ q fun z=>z),q];simp⟩⟩
 by_cases hbe:b=e
 ·subst hbe;exact heo
 ·exact⟨u,k b u hbe q⟩
end
noncomputable def trk (h:Heap)(H:Hp):List Ψ:=(List.range h.objs.size).filter fun a=>(H a).isSome
noncomputable def kZ (h:Heap)(H:Hp):Heap:=PySem.W.hideAll h (trk h H)
theorem oV (h:Heap)(H:Hp):(kZ h H).objs.size=h.objs.size:=PySem.W.hideAll_size _ _
theorem pN {h:Heap}{H:Hp}{b:Ψ}{o:Obj}(e:h.get? b=Γ o)(n:H b=Ξ):(kZ h H).get? b=Γ o:=
 PySem.W.hideAll_get _ e fun hm=>by have q:(H b).isSome=Δ:=(List.mem_filter.mp hm).2;rw[n]at q;simp at q
theorem rZ {h:Heap}{H:Hp}{b:Ψ}{o:Obj}(e:(kZ h H).get? b=Γ o):h.get? b=Γ o/\H b=Ξ:=by
 have e':h.get? b=Γ o:=PySem.W.of_hideAll (trk h H) e;refine⟨e',?_⟩;cases q:H b with
 |none=>rfl
 |some x=>have hm:b∈trk h H:=List.mem_filter.mpr ⟨List.mem_range.mpr (j_ e'),by simp[q]⟩;have z:(kZ h H).get? b=Ξ:=PySem.W.hideAll_none (trk h H) hm;rw[z]at e;cases e
structure Mod (K:Frag)(mg:Str->Option Φ)(base:Heap):Prop where
 kin:K.In base
 glob:base.Ns Ζ mg
 blt:∃mb,base.Ns builtinsNs mb/\∀x:Str,x≠"__name__"->mb x=bootBuiltins x
 nolimit:base.NoLimit
structure Cx where
 prog:Β
 w:Α
 K:Frag
 mg:Str->Option Φ
 base:Heap
 A:Η
 N:List Str
 s₀:Ω
 H₀:Hp
 env:Env
 outer:List Env
 stack:List Env
 ex:List Ψ
 fn:Str->Bool
 calm:Bool
 pn:List (Ψ×Obj)
 xe:Φ->Ω->Prop
noncomputable def frs (l:List Env):List Ψ:=l.filterMap (·.frame)
noncomputable abbrev Cx.fs (X:Cx):List Ψ:=frs X.outer
def Vis (sc:Scope)(x:Str):Prop:=sc.names.lookup x=Γ .local∨sc.names.lookup x=Γ .cell∨sc.names.lookup x=Γ .free
def Loc (sc:Scope)(x:Str):Prop:=sc.names.lookup x=Γ .local∨sc.names.lookup x=Γ .cell
def Look (env:Env)(h:Heap)(m:Str->Option Φ)(x:Str)(u:Φ):Prop:=
 (env.kindOf x=Γ .local/\m x=Γ u)∨((env.kindOf x=Γ .cell∨env.kindOf x=Γ .free)/\∃c,env.cells.lookup x=Γ c/\h.IsCell c (Γ u))
structure Cx.Ok (X:Cx):Prop where
 mod:Mod X.K X.mg X.base
 kind:X.env.scope.kind=.function
 glob:X.env.globals=Ζ
 blt:X.env.builtins=builtinsNs
 above:X.s₀.heap.objs.size<=X.env.locals
 inj:∀x y c,X.env.cells.lookup x=Γ c->X.env.cells.lookup y=Γ c->x=y
 has:∀x,(X.env.kindOf x=Γ .cell∨X.env.kindOf x=Γ .free)->∃c,X.env.cells.lookup x=Γ c
 cab:∀x c,X.fn x=Δ->X.env.cells.lookup x=Γ c->X.s₀.heap.objs.size<=c
 hd:X.calm=Δ->X.A.handled=Ξ
 frames:X.A.frames=Γ X.stack
 stk:X.stack=X.outer∨(X.stack=X.env::X.outer/\X.env.frame=Γ X.env.locals)
 exf:∀b∈X.ex,b≠X.env.locals/\∀x c,X.env.cells.lookup x=Γ c->c≠b
 bs:∀b o,X.base.get? b=Γ o->X.s₀.heap.get? b=Γ o/\X.H₀ b=Ξ
 bsz:X.base.objs.size<=X.s₀.heap.objs.size
 noex:∀b o,X.base.get? b=Γ o->b∉X.ex
 exfs:∀b∈X.ex,b∉X.fs
 funs:X.s₀.heap.FunFrames X.base X.outer
 frf:∀b∈X.fs,X.H₀ b=Ξ
structure Inv (X:Cx)(pins:List (Ψ×Obj))(σ:List (Option V))(H:Hp)(s:Ω):Prop where
 ok:X.Ok
 os:s.os=X.s₀.os
 bare:AllBare s.gens
 base:Un X.fs X.ex X.H₀ H X.s₀.heap s.heap
 loc:∃m,s.heap.Ns X.env.locals m/\∀(i:Nat) (x:Str) (v:V),X.N[i]? = Γ x->σ[i]? = Γ (Γ v)->Vis X.env.scope x->∃u,RelV v u/\Look X.env s.heap m x u
 cell:∀x c,X.env.cells.lookup x=Γ c->∃v,s.heap.IsCell c v
 free:H X.env.locals=Ξ
 freeC:∀x c,X.env.cells.lookup x=Γ c->H c=Ξ
 pin:∀p∈X.pn++pins,s.heap.get? p.1=Γ p.2/\H p.1=Ξ/\p.1≠X.env.locals/\p.1∉X.fs/\∀v,p.2.data≠.cell v
 hok:HOk X.prog X.w H s.heap
 len:σ.length=X.N.length
section
variable {X:Cx}{pins:List (Ψ×Obj)}{σ:List (Option V)}{H H':Hp}{s:Ω}{h':Heap}
theorem Cx.Ok.nofr (ok:X.Ok){b:Ψ}{o:Obj}(e:X.base.get? b=Γ o):b∉X.fs:=fun hb=>by have:=(ok.funs.mem hb).1;rw[e]at this;cases this
theorem Inv.bs (I:Inv X pins σ H s):∀b o,X.base.get? b=Γ o->s.heap.get? b=Γ o/\H b=Ξ:=fun b o e=>
 ⟨I.base.keep b o (I.ok.bs b o e).1 (I.ok.bs b o e).2 (I.ok.nofr e) (I.ok.noex b o e),I.base.free b o (I.ok.bs b o e).1 (I.ok.bs b o e).2 (I.ok.noex b o e)⟩
theorem Inv.bk (I:Inv X pins σ H s):∀b o,X.base.get? b=Γ o->s.heap.get? b=Γ o:=fun b o e=>(I.bs b o e).1
theorem Inv.mod (I:Inv X pins σ H s):Mod X.K X.mg X.base:=I.ok.mod
theorem Inv.kIn (I:Inv X pins σ H s):X.K.In s.heap:=I.ok.mod.kin.keeps I.bk
theorem Inv.lt (I:Inv X pins σ H s):X.env.locals < s.heap.objs.size:=let ⟨_,hn,_⟩:=I.loc;hn.lt
theorem Inv.sz (I:Inv X pins σ H s):X.s₀.heap.objs.size<=s.heap.objs.size:=Ad I.ok.above (Nat.le_of_lt I.lt)
theorem Inv.nofs (I:Inv X pins σ H s){a:Ψ}(h:s.heap.objs.size<=a):a∉X.fs:=fun hb=>by obtain⟨_,o,ho,_⟩:=I.ok.funs.mem hb;exact absurd (zV (j_ ho) (Ad I.sz h)) (Ai _)
theorem Inv.cne (I:Inv X pins σ H s):∀x c,X.env.cells.lookup x=Γ c->c≠X.env.locals:=fun x c e z=>by obtain⟨v,o,ho,hd⟩:=I.cell x c e;obtain⟨m,⟨o',es,ep,ho',hd',_⟩,_⟩:=I.loc;rw[z,ho']at ho;cases ho;rw[hd']at hd;cases hd
theorem Inv.funs (I:Inv X pins σ H s):s.heap.FunFrames X.base X.outer:=by
 have all:∀(l:List Env),(∀b∈frs l,b∈X.fs)->X.s₀.heap.FunFrames X.base l->s.heap.FunFrames X.base l:=by
  intro l
  induction l with
  |nil=>intro _ _;trivial
  |cons env r ih=>intro hs hl;obtain⟨hk,⟨L,o,hf,hn,ho,hd⟩,hr⟩:=hl;have hL:L∈X.fs:=hs L (by unfold frs;rw[List.filterMap_cons,hf];exact List.mem_cons_self);obtain⟨sl,e⟩:=I.base.slot L o ho (I.ok.frf L hL) hL fun z=>I.ok.exfs L z hL;exact⟨hk,⟨L,_,hf,hn,e,hd⟩,ih (fun b hb=>hs b (by unfold frs;rw[List.filterMap_cons,hf];exact s_ _ hb)) hr⟩
 exact all X.outer (fun _ hb=>hb) I.ok.funs
theorem Inv.stack (I:Inv X pins σ H s):s.heap.FunFrames X.base X.stack:=by
 rcases I.ok.stk with e|⟨e,hf⟩
 ·rw[e];exact I.funs
 ·rw[e];obtain⟨m,hn,_⟩:=I.loc;refine .cons (by rw[I.ok.kind];decide) hf hn ?_ I.funs;exact Heap.get?_none_of_le (Ad I.ok.bsz I.ok.above)
theorem Inv.stkSub (I:Inv X pins σ H s):∀b∈frs X.stack,b∈X.env.locals::X.fs:=fun b hb=>by
 rcases I.ok.stk with e|⟨e,hf⟩
 ·rw[e]at hb;exact s_ _ hb
 ·rw[e]at hb;unfold frs at hb;rw[List.filterMap_cons,hf]at hb;exact hb
theorem Inv.stkFree (I:Inv X pins σ H s):∀b∈frs X.stack,H b=Ξ:=fun b hb=>by
 rcases p_.mp (I.stkSub b hb) with e|hb
 ·rw[e];exact I.free
 ·obtain⟨_,o,ho,_⟩:=I.ok.funs.mem hb;exact I.base.free b o ho (I.ok.frf b hb) fun z=>I.ok.exfs b z hb
theorem Inv.step {g':Array GenState}{t':Nat}{d':Drawn}{ch:List Ψ}(I:Inv X pins σ H s)
  (hch:∀b∈ch,(b∈X.ex∨X.s₀.heap.objs.size<=b)/\b≠X.env.locals/\(∀x c,X.env.cells.lookup x=Γ c->c≠b)/\∀p∈X.pn++pins,p.1≠b)
  (keep:∀b o,b≠X.env.locals->b∉X.fs->b∉ch->s.heap.get? b=Γ o->H b=Ξ->h'.get? b=Γ o)
  (slot:∀b o,b≠X.env.locals->b∈X.fs->b∉ch->s.heap.get? b=Γ o->H b=Ξ->∃sl,h'.get? b=Γ {o with slots:=sl}) (free:∀b o,b∉ch->s.heap.get? b=Γ o->H b=Ξ->H' b=Ξ)
  (there:∀b o,b∉ch->s.heap.get? b=Γ o->∃o',h'.get? b=Γ o')
  (tups:∀b xs,H b=Γ (.tup xs)->H' b=Γ (.tup xs)) (frzs:∀b o u,H b=Γ (.frz o u)->H' b=Γ (.frz o u)) (tbls:∀b ps,H b=Γ (.tbl ps)->∃more,H' b=Γ (.tbl (ps++more)))
  (ns:∀m,s.heap.Ns X.env.locals m->h'.Ns X.env.locals m) (hok:HOk X.prog X.w H' h') (hg:AllBare g') :
  Inv X pins σ H' {s with heap:=h',gens:=g',drawn:=d',toks:=t'}:=by
 have neL:∀b o,X.s₀.heap.get? b=Γ o->b≠X.env.locals:=fun b o e=>u_ (zV (j_ e) I.ok.above);have neC:∀b o,X.s₀.heap.get? b=Γ o->b∉X.ex->b∉ch:=fun b o e hx hb=>by
  rcases(hch b hb).1 with z|z
  ·exact hx z
  ·exact absurd (zV (j_ e) z) (Ai _)
 have cellK:∀x c,X.env.cells.lookup x=Γ c->∀v,s.heap.IsCell c v->h'.IsCell c v:=fun x c e v ⟨o,ho,hd⟩=>by
  have nch:c∉ch:=fun z=>(hch c z).2.2.1 x c e rfl;by_cases hc:c∈X.fs
  ·obtain⟨sl,q⟩:=slot c o (I.cne x c e) hc nch ho (I.freeC x c e);exact⟨_,q,hd⟩
  ·exact⟨o,keep c o (I.cne x c e) hc nch ho (I.freeC x c e),hd⟩
 refine⟨I.ok,I.os,hg,⟨fun b o e n hb hx=>?_,fun b o e n hb hx=>?_,fun b o e n hx=>?_,fun b o e hx=>?_,fun b xs e=>tups b xs (I.base.tups b xs e),fun b o xs e=>frzs b o xs (I.base.frzs b o xs e),fun b ps e=>?_⟩,?_,fun x c e=>?_,?_,fun x c e=>?_,fun p hp=>?_,hok,I.len⟩
 ·exact keep b o (neL b o e) hb (neC b o e hx) (I.base.keep b o e n hb hx) (I.base.free b o e n hx)
 ·obtain⟨sl,e1⟩:=I.base.slot b o e n hb hx;obtain⟨sl',e2⟩:=slot b _ (neL b o e) hb (neC b o e hx) e1 (I.base.free b o e n hx);exact⟨sl',e2⟩
 ·obtain⟨o',e1⟩:=I.base.there b o e hx;exact free b o' (neC b o e hx) e1 (I.base.free b o e n hx)
 ·obtain⟨o',e1⟩:=I.base.there b o e hx;exact there b o' (neC b o e hx) e1
 ·obtain⟨m1,e1⟩:=I.base.tbls b ps e;obtain⟨m2,e2⟩:=tbls b _ e1;exact⟨m1++m2,by rw[e2,Array.append_assoc]⟩
 ·obtain⟨m,hn,hl⟩:=I.loc;refine⟨m,ns m hn,fun i x v e1 e2 e3=>?_⟩;obtain⟨u,r,l⟩:=hl i x v e1 e2 e3;refine⟨u,r,?_⟩;rcases l with l|⟨k,c,e,z⟩
  ·exact .inl l
  ·exact .inr ⟨k,c,e,cellK x c e _ z⟩
 ·obtain⟨v,z⟩:=I.cell x c e;exact⟨v,cellK x c e v z⟩
 ·obtain⟨m,⟨o,_,_,ho,_⟩,_⟩:=I.loc;exact free _ o (fun z=>(hch _ z).2.1 rfl) ho I.free
 ·obtain⟨v,o,ho,hd⟩:=I.cell x c e;exact free c o (fun z=>(hch c z).2.2.1 x c e rfl) ho (I.freeC x c e)
 ·obtain⟨e,n,ne,nf,d⟩:=I.pin p hp;have nch:p.1∉ch:=fun z=>(hch p.1 z).2.2.2 p hp rfl;exact⟨keep p.1 p.2 ne nf nch e n,free p.1 p.2 nch e n,ne,nf,d⟩
theorem Inv.un {t':Nat}(I:Inv X pins σ H s)(u:Un X.fs [] H H' s.heap h')(hok:HOk X.prog X.w H' h'):Inv X pins σ H' {s with heap:=h',toks:=t'}:=by
 obtain⟨m,⟨o,es,ep,ho,r⟩,_⟩:=id I.loc;obtain⟨sl,hL⟩:=u.any ho I.free (by simp)
 exact I.step (g':=s.gens) (d':=s.drawn) (ch:=[]) (fun _ z=>nomatch z) (fun b o _ hb _ e n=>u.keep b o e n hb (by simp)) (fun b o _ hb _ e n=>u.slot b o e n hb (by simp)) (fun b o _ e n=>u.free b o e n (by simp)) (fun b o _ e=>u.there b o e (by simp)) u.tups u.frzs u.tbls (fun m' hm=>by
  obtain⟨o',es',ep',ho',r'⟩:=hm;rw[ho]at ho';cases ho'
  exact⟨_,es',ep',hL,r'⟩) hok I.bare
theorem Inv.call {g':Array GenState}{t':Nat}{d':Drawn}{ch:List Ψ}(I:Inv X pins σ H s)(u:Un (frs X.stack) ch H H' s.heap h')(hok:HOk X.prog X.w H' h')(hg:AllBare g')
  (hch:∀b∈ch,(b∈X.ex∨X.s₀.heap.objs.size<=b)/\b≠X.env.locals/\(∀x c,X.env.cells.lookup x=Γ c->c≠b)/\∀p∈X.pn++pins,p.1≠b) :
  Inv X pins σ H' {s with heap:=h',gens:=g',drawn:=d',toks:=t'}:=by
 obtain⟨m,⟨o,es,ep,ho,r⟩,_⟩:=id I.loc;obtain⟨sl,hL⟩:=u.any ho I.free fun z=>(hch _ z).2.1 rfl
 exact I.step (ch:=ch) hch (fun b o hL hb hc e n=>u.keep b o e n (fun z=>(p_.mp (I.stkSub b z)).elim hL hb) hc) (fun b o _ _ hc e n=>u.any e n hc) (fun b o hc e n=>u.free b o e n hc) (fun b o hc e=>u.there b o e hc) u.tups u.frzs u.tbls (fun m' hm=>by
  obtain⟨o',es',ep',ho',r'⟩:=hm;rw[ho]at ho';cases ho'
  exact⟨_,es',ep',hL,r'⟩) hok hg
theorem Inv.turned {t':Nat}{it:Ψ}(I:Inv X pins σ H s)(k:∀b o,b≠it->s.heap.get? b=Γ o->h'.get? b=Γ o)(hn:H it=Ξ)(hL:it≠X.env.locals)
  (h1:it∈X.ex∨X.s₀.heap.objs.size<=it) (h2:∀x c,X.env.cells.lookup x=Γ c->c≠it) (h3:∀p∈X.pn++pins,p.1≠it):Inv X pins σ H {s with heap:=h',toks:=t'}:=by
 have nit:∀b u,H b=Γ u->b≠it:=fun b u e z=>by rw[z,hn]at e;cases e
 refine I.step (g':=s.gens) (d':=s.drawn) (ch:=[it]) (fun b hb=>?_) (fun b o _ _ hc e _=>k b o (fun z=>hc (by simp[z])) e) (fun b o _ _ hc e _=>⟨o.slots,k b o (fun z=>hc (by simp[z])) e⟩) (fun _ _ _ _ n=>n)
  (fun b o hc e=>⟨o,k b o (fun z=>hc (by simp[z])) e⟩) (fun _ _ e=>e) (fun _ _ _ e=>e) (fun b ps e=>⟨#[],by rw[e];simp⟩) (fun m hm=>?_) (fun b u e=>?_) I.bare
 ·have e:b=it:=by simpa using hb
  subst e;exact⟨h1,hL,h2,h3⟩
 ·obtain⟨o,es,ep,ho,r⟩:=hm;exact⟨o,es,ep,k _ o (Ne.symm hL) ho,r⟩
 ·refine(I.hok b u e).stay (fun c v hc q=>k c v ?_ q) (fun _ q=>q) fun _ _ q=>q;rcases hc with z|z
  ·rw[z];exact nit b u e
  ·exact nit c _ z
theorem Inv.tok (I:Inv X pins σ H s)(t:Nat):Inv X pins σ H {s with toks:=t}:=I.un (h':=s.heap) (t':=t) Un.refl I.hok
theorem Inv.kept {t':Nat}(I:Inv X pins σ H s)(k:∀b u,s.heap.get? b=Γ u->h'.get? b=Γ u):Inv X pins σ H {s with heap:=h',toks:=t'}:=I.un (Un.kept k) (I.hok.kept k)
theorem Inv.laid {a:Ψ}{o:HO}{t':Nat}(I:Inv X pins σ H s)(k:∀b u,s.heap.get? b=Γ u->h'.get? b=Γ u)(hp:s.heap.objs.size<=a)(new:fN X.prog X.w (upd H a o) h' a o) :
  Inv X pins σ (upd H a o) {s with heap:=h',toks:=t'}:=I.un (Un.laid k hp (I.hok.fresh hp)) (I.hok.laid k hp new)
theorem Inv.write {x e:Ψ}{o:HO}{t':Nat}(I:Inv X pins σ H s)(mu:Mut (H x))(he:e=x∨H e=Γ (.own x))(k:∀b u,b≠e->s.heap.get? b=Γ u->h'.get? b=Γ u)(heo:∃u,h'.get? e=Γ u)
  (new:fN X.prog X.w (upd H x o) h' x o):Inv X pins σ (upd H x o) {s with heap:=h',toks:=t'}:=I.un (Un.write mu he k heo) (I.hok.write mu he k heo new)
theorem Inv.pins_of {pins':List (Ψ×Obj)}(I:Inv X pins σ H s)(h:∀p∈pins',s.heap.get? p.1=Γ p.2/\H p.1=Ξ/\p.1≠X.env.locals/\p.1∉X.fs/\∀v,p.2.data≠.cell v):Inv X pins' σ H s:=
 ⟨I.ok,I.os,I.bare,I.base,I.loc,I.cell,I.free,I.freeC,fun p hp=>(x_.mp hp).elim (fun z=>I.pin p (r_ _ z)) (h p),I.hok,I.len⟩
theorem jz {N:List Str}(hN:N.Nodup){i j:Nat}{x:Str}(a:N[i]? = Γ x)(b:N[j]? = Γ x):i=j:=by obtain⟨h1,e1⟩:=y_.mp a;obtain⟨h2,e2⟩:=y_.mp b;exact(List.getElem_inj hN).mp (e1.trans e2.symm)
theorem kx {M:Model}{A:Η}{E:Φ->Ω->Prop}{i:Nat}{x:Str}{v:V}{u:Φ}{Q:Unit->Ω->Prop}(I:Inv X pins σ H s)(hN:X.N.Nodup)(hi:X.N[i]? = Γ x)(hx:Loc X.env.scope x)(r:RelV v u)
  (h:∀s',Inv X pins (σ.set i (Γ v)) H s'->(∃a,Heap.SameBut a s.heap s'.heap/\(a=X.env.locals∨X.env.cells.lookup x=Γ a))->Q () s') (hf:X.fn x=Δ∨X.env.scope.names.lookup x=Γ .local:=by first|exact .inl rfl|exact .inr rfl|assumption):Ι M A (storeName X.env x u) Q E s:=by
 obtain⟨m,hn,hl⟩:=id I.loc;have hcls:(X.env.scope.kind == .class||(X.env.scope.kind == .module&&X.env.locals != X.env.globals))=Θ:=by rw[I.ok.kind];rfl
 have hiσ:i < σ.length:=by rw[I.len];exact(y_.mp hi).1
 have cne:=I.cne;have tracked:∀ {a:Ψ}{h':Heap},(∃o,s.heap.get? a=Γ o/\H a=Ξ)->Heap.SameBut a s.heap h'->HOk X.prog X.w H h':=fun {a h'} ha hs b ob e=>by
  obtain⟨_,_,hfree⟩:=ha;refine(I.hok b ob e).stay (fun c w' hc q=>(hs.2 c ?_).trans q) (fun _ q=>q) fun _ _ q=>q;rintro rfl;rcases hc with rfl|hc
  ·rw[hfree]at e;cases e
  ·rw[hfree]at hc;cases hc
 rcases hx with hk|hk
 ·refine wpAny_storeName_local hk hn (fun h' hn' hs=>?_) hcls;obtain⟨oL,_,_,hoL,_⟩:=id hn;refine h _ ⟨I.ok,I.os,I.bare,⟨fun b o e n hb hx=>?_,fun b o e n hb hx=>?_,I.base.free,fun b o e hx=>?_,I.base.tups,I.base.frzs,I.base.tbls⟩,⟨_,hn',fun j y v' e1 e2 e3=>?_⟩,fun y c e=>?_,I.free,I.freeC,fun p hp=>?_,tracked ⟨oL,hoL,I.free⟩ hs,by simpa using I.len⟩ ⟨_,hs,.inl rfl⟩
  ·exact(hs.2 b (u_ (zV (j_ e) I.ok.above))).trans (I.base.keep b o e n hb hx)
  ·obtain⟨sl,e1⟩:=I.base.slot b o e n hb hx;exact⟨sl,(hs.2 b (u_ (zV (j_ e) I.ok.above))).trans e1⟩
  ·obtain⟨o',e1⟩:=I.base.there b o e hx;exact⟨o',(hs.2 b (u_ (zV (j_ e) I.ok.above))).trans e1⟩
  ·by_cases hj:j=i
   ·subst hj;rw[hi]at e1;cases e1;rw[List.getElem?_set_self hiσ]at e2;cases e2;exact⟨u,r,.inl ⟨hk,by simp⟩⟩
   ·rw[Al (Ne.symm hj)]at e2;obtain⟨u',r',q⟩:=hl j y v' e1 e2 e3;refine⟨u',r',?_⟩;rcases q with⟨k,e⟩|⟨k,c,e,z⟩
    ·refine .inl ⟨k,?_⟩;have:y≠x:=fun e=>hj (jz hN e1 (e ▸ hi));simp[this,e]
    ·exact .inr ⟨k,c,e,z.sameBut hs (cne y c e)⟩
  ·obtain⟨w',z⟩:=I.cell y c e;exact⟨w',z.sameBut hs (cne y c e)⟩
  ·obtain⟨e,n,ne,nf,d⟩:=I.pin p hp;exact⟨(hs.2 p.1 ne).trans e,n,ne,nf,d⟩
 ·have hfn:X.fn x=Δ:=by
   rcases hf with z|z
   ·exact z
   ·rw[z]at hk;cases hk
  obtain⟨c,hc⟩:=I.ok.has x (.inl hk);obtain⟨w',z⟩:=I.cell x c hc;refine wpAny_storeName_cell I.ok.kind hk hc z (fun h' hc' hs=>?_);obtain⟨oc,hoc,hocd⟩:=id z;refine h {s with heap:=h'} ⟨I.ok,I.os,I.bare,⟨fun b o e n hb hx=>?_,fun b o e n hb hx=>?_,I.base.free,fun b o e hx=>?_,I.base.tups,I.base.frzs,I.base.tbls⟩,⟨m,hn.sameBut hs (Ne.symm (cne x c hc)),fun j y v' e1 e2 e3=>?_⟩,fun y c' e=>?_,I.free,I.freeC,fun p hp=>?_,tracked ⟨oc,hoc,I.freeC x c hc⟩ hs,by simpa using I.len⟩ ⟨c,hs,.inr hc⟩
  ·exact(hs.2 b (u_ (zV (j_ e) (I.ok.cab x c hfn hc)))).trans (I.base.keep b o e n hb hx)
  ·obtain⟨sl,e1⟩:=I.base.slot b o e n hb hx;exact⟨sl,(hs.2 b (u_ (zV (j_ e) (I.ok.cab x c hfn hc)))).trans e1⟩
  ·obtain⟨o',e1⟩:=I.base.there b o e hx;exact⟨o',(hs.2 b (u_ (zV (j_ e) (I.ok.cab x c hfn hc)))).trans e1⟩
  ·by_cases hj:j=i
   ·subst hj;rw[hi]at e1;cases e1;rw[List.getElem?_set_self hiσ]at e2;cases e2;exact⟨u,r,.inr ⟨.inl hk,c,hc,hc'⟩⟩
   ·rw[Al (Ne.symm hj)]at e2;obtain⟨u',r',q⟩:=hl j y v' e1 e2 e3;refine⟨u',r',?_⟩;rcases q with q|⟨k,c',e,z'⟩
    ·exact .inl q
    ·refine .inr ⟨k,c',e,z'.sameBut hs ?_⟩;rintro rfl;exact hj (jz hN e1 (I.ok.inj _ _ _ e hc ▸ hi))
  ·by_cases hcc:c'=c
   ·subst hcc;exact⟨_,hc'⟩
   ·obtain⟨w2,z2⟩:=I.cell y c' e;exact⟨w2,z2.sameBut hs hcc⟩
  ·obtain⟨e,n,ne,nf,d⟩:=I.pin p hp;refine⟨(hs.2 p.1 ?_).trans e,n,ne,nf,d⟩;intro q;rw[q,hoc]at e;have q':oc=p.2:=zZ e;exact d w' (by rw[<- q'];exact hocd)
theorem hG {M:Model}{A:Η}{E:Φ->Ω->Prop}{i:Nat}{x:Str}{v:V}{u:Φ}{Q:Unit->Ω->Prop}(I:Inv X pins σ H s)(hN:X.N.Nodup)(hi:X.N[i]? = Γ x)(hx:Loc X.env.scope x)(r:RelV v u)
  (h:∀s',Inv X pins (σ.set i (Γ v)) H s'->Q () s') (hf:X.fn x=Δ∨X.env.scope.names.lookup x=Γ .local:=by first|exact .inl rfl|exact .inr rfl|assumption):Ι M A (storeName X.env x u) Q E s:=
 kx I hN hi hx r (fun s' I' _=>h s' I') hf
theorem Inv.call' {s':Ω}{ch:List Ψ}(I:Inv X pins σ H s)(ho:s'.os=s.os)(u:Un (frs X.stack) ch H H' s.heap s'.heap)(hok:HOk X.prog X.w H' s'.heap)(hg:AllBare s'.gens)
  (hch:∀b∈ch,(b∈X.ex∨X.s₀.heap.objs.size<=b)/\b≠X.env.locals/\(∀x c,X.env.cells.lookup x=Γ c->c≠b)/\∀p∈X.pn++pins,p.1≠b):Inv X pins σ H' s':=by
 obtain⟨h',g',d',t',o'⟩:=s';have e:o'=s.os:=ho;subst e;exact I.call (g':=g') (t':=t') (d':=d') u hok hg hch
end
abbrev XK:=Φ->Option Ψ->Hp->Prop
abbrev St:=List (Option V)
abbrev VK:=V->Hp->Prop
abbrev TE:=St->Hp->VK->Prop
abbrev TT:=St->Hp->(Bool->Hp->Prop)->Prop
abbrev TA:=St->Hp->(List V->Hp->Prop)->Prop
structure Ends where
 nx:St->Hp->Prop
 rt:VK
 bk:St->Hp->Prop:=fun _ _=>False
 ct:St->Hp->Prop:=fun _ _=>False
abbrev TS:=Ends->St->Hp->Prop
def EP (X:Cx)(pins:List (Ψ×Obj))(σ:St)(Q:VK)(u:Φ)(s':Ω):Prop:=∃v H',Inv X pins σ H' s'/\RelV v u/\Q v H'
def TP (X:Cx)(pins:List (Ψ×Obj))(σ:St)(Q:Bool->Hp->Prop)(b:Bool)(s':Ω):Prop:=∃H',Inv X pins σ H' s'/\Q b H'
def AP (X:Cx)(pins:List (Ψ×Obj))(σ:St)(Q:List V->Hp->Prop)(us:List Φ)(s':Ω):Prop:=∃vs H',Inv X pins σ H' s'/\Vals vs us/\Q vs H'
def SP (X:Cx)(pins:List (Ψ×Obj))(D:Ends)(f:Flow)(s':Ω):Prop:=
 match f with
 |.next=>∃σ' H',Inv X pins σ' H' s'/\D.nx σ' H'
 |.brk=>∃σ' H',Inv X pins σ' H' s'/\D.bk σ' H'
 |.cont=>∃σ' H',Inv X pins σ' H' s'/\D.ct σ' H'
 |.ret u=>∃v σ' H',Inv X pins σ' H' s'/\RelV v u/\D.rt v H'
def PE (X:Cx)(e:Expr)(t:TE):Prop:=
 ∀(pins:List (Ψ×Obj)) (s:Ω) (σ:St) (H:Hp) (Q:VK),Inv X pins σ H s->t σ H Q->Ι (Κ X.prog X.w) X.A (eval e X.env) (EP X pins σ Q) X.xe s
def PT (X:Cx)(e:Expr)(t:TT):Prop:=
 ∀(pins:List (Ψ×Obj)) (s:Ω) (σ:St) (H:Hp) (Q:Bool->Hp->Prop),Inv X pins σ H s->t σ H Q->Ι (Κ X.prog X.w) X.A (isTrue e X.env (eval e X.env)) (TP X pins σ Q) X.xe s
def PW (X:Cx)(e:Expr)(t:TT):Prop:=
 ∀(whole:Sem Φ) (pins:List (Ψ×Obj)) (s:Ω) (σ:St) (H:Hp) (Q:Bool->Hp->Prop),Inv X pins σ H s->t σ H Q->Ι (Κ X.prog X.w) X.A (isTrue e X.env whole) (TP X pins σ Q) X.xe s
theorem PW.pt {X:Cx}{e:Expr}{t:TT}(h:PW X e t):PT X e t:=h _
def PA (X:Cx)(es:List Expr)(t:TA):Prop:=
 ∀(pos:Pos) (pins:List (Ψ×Obj)) (s:Ω) (σ:St) (H:Hp) (Q:List V->Hp->Prop),Inv X pins σ H s->t σ H Q->Ι (Κ X.prog X.w) X.A (spliced (backTo pos (Μ es X.env))) (AP X pins σ Q) X.xe s
def PS (X:Cx)(st:Stmt)(t:TS):Prop:=
 ∀(pins:List (Ψ×Obj)) (s:Ω) (σ:St) (H:Hp) (D:Ends),Inv X pins σ H s->t D σ H->Ι (Κ X.prog X.w) X.A (exec st X.env) (SP X pins D) X.xe s
def PSs (X:Cx)(st:List Stmt)(t:TS):Prop:=
 ∀(pins:List (Ψ×Obj)) (s:Ω) (σ:St) (H:Hp) (D:Ends),Inv X pins σ H s->t D σ H->Ι (Κ X.prog X.w) X.A (execs st X.env) (SP X pins D) X.xe s
theorem thn {α:Type}{t:Sem α}{Q Q':α->Ω->Prop}{M:Model}{A:Η}{E:Φ->Ω->Prop}{s:Ω}(h:Ι M A t Q E s)(hQ:∀a s,Q a s->Q' a s):Ι M A t Q' E s:=wpAny_mono h hQ fun _ _ x=>x
section
variable {X:Cx}
def uZ (i:Nat):TE:=fun σ H Q=>∃v,σ[i]? = Γ (Γ v)/\Q v H
def tC (v:V):TE:=fun _ H Q=>Q v H
theorem pO {i:Nat}{x:Str}{pos:Pos}(hN:X.N[i]? = Γ x)(hv:Vis X.env.scope x)(hd:(x == ("__debug__" : Str))=Θ:=by decide) (hcd:(x == ("__classdict__" : Str))=Θ:=by decide):PE X (.Name x pos) (uZ i):=by
 intro pins s σ H Q I h;obtain⟨v,e,h⟩:=h;obtain⟨m,hn,hl⟩:=I.loc;obtain⟨u,r,l⟩:=hl i x v hN e hv;have fin:EP X pins σ Q u s:=⟨v,H,I,r,h⟩
 rcases l with⟨hk,hm⟩|⟨hk,c,hc,hcell⟩
 ·exact wpAny_Name (wpAny_loadName_local I.ok.kind hk hn hm fin) hd
 ·rcases hk with hk|hk
  ·exact wpAny_Name (wpAny_loadName_cell I.ok.kind hk hc hcell fin) hd
  ·exact wpAny_Name (wpAny_loadName_free I.ok.kind hk hc hcell fin hcd) hd
theorem u0 {i j pos}:PE X (.Constant (.int i) j pos) (tC (.int i)):=fun _ _ _ H _ I h=>wpAny_Constant_int ⟨.int i,H,I.tok _,⟨_,rfl⟩,h⟩
theorem xb {b j pos}:PE X (.Constant (.bool b) j pos) (tC (.bl b)):=fun _ _ _ H _ I h=>Constant_bool ⟨.bl b,H,I,rfl,h⟩
theorem u5 {j pos}:PE X (.Constant .none j pos) (tC .non):=fun _ _ _ H _ I h=>Constant_none ⟨.non,H,I,rfl,h⟩
theorem jA {x j pos}:PE X (.Constant (.str x) j pos) (tC (.str x)):=fun _ _ _ H _ I h=>Calls.Constant_str ⟨.str x,H,I.tok _,⟨_,rfl⟩,h⟩
def Gl (X:Cx)(x:Str):Prop:=X.env.kindOf x=Γ .globalImplicit
theorem gn {E:Φ->Ω->Prop}{pins:List (Ψ×Obj)}{s:Ω}{σ:St}{H:Hp}{x:Str}{u:Φ}{pos:Pos}{Q:Φ->Ω->Prop}(I:Inv X pins σ H s)(hg:Gl X x)(hm:X.mg x=Γ u)(h:Q u s)
  (hd:(x == ("__debug__" : Str))=Θ:=by decide):Ι (Κ X.prog X.w) X.A (eval (.Name x pos) X.env) Q E s:=
 Calls.Name_function_global I.ok.kind hg (Calls.loadGlobal_global (by rw[I.ok.glob];exact I.mod.glob.keeps I.bk) hm h) hd
theorem i6 {E:Φ->Ω->Prop}{pins:List (Ψ×Obj)}{s:Ω}{σ:St}{H:Hp}{x:Str}{u:Φ}{pos:Pos}{Q:Φ->Ω->Prop}(I:Inv X pins σ H s)(hg:Gl X x)(hm:X.mg x=Ξ)(hv:bootBuiltins x=Γ u)(h:Q u s)
  (hn:x≠"__name__":=by decide) (hd:(x == ("__debug__" : Str))=Θ:=by decide):Ι (Κ X.prog X.w) X.A (eval (.Name x pos) X.env) Q E s:=by
 obtain⟨mb,h1,h2⟩:=I.mod.blt;exact Calls.Name_function_global I.ok.kind hg (Calls.loadGlobal_builtin (by rw[I.ok.glob];exact I.mod.glob.keeps I.bk) hm (by rw[I.ok.blt];exact h1.keeps I.bk) ((h2 x hn).trans hv) h) hd
theorem nP {x:Str}{v:V}{u:Φ}{pos:Pos}(hg:Gl X x)(hm:X.mg x=Γ u)(r:RelV v u)(hd:(x == ("__debug__" : Str))=Θ:=by decide):PE X (.Name x pos) (tC v):=
 fun _ _ _ H _ I h=>gn I hg hm ⟨v,H,I,r,h⟩ hd
theorem nQ {x:Str}{v:V}{u:Φ}{pos:Pos}(hg:Gl X x)(hm:X.mg x=Ξ)(hv:bootBuiltins x=Γ u)(r:RelV v u)(hn:x≠"__name__":=by decide) (hd:(x == ("__debug__" : Str))=Θ:=by decide):PE X (.Name x pos) (tC v):=
 fun _ _ _ H _ I h=>i6 I hg hm hv ⟨v,H,I,r,h⟩ hn hd
variable {a b:Expr}{ta tb:TE}{pos:Pos}
variable {tA tB':TT}{rest:List Expr}
def xg (t u:TT):TT:=fun σ H Q=>t σ H fun c H1=>if c=Δ then u σ H1 Q else Q Θ H1
def tOr (t u:TT):TT:=fun σ H Q=>t σ H fun c H1=>if c=Δ then Q Δ H1 else u σ H1 Q
def y3 (t:TT):TT:=fun σ H Q=>t σ H fun c H1=>Q (!c) H1
theorem r6 (ha:PT X a tA):PW X (.BoolOp .And [a] pos) tA:=by
 intro wh pins s σ H Q I h;refine isTrue_and (thn (ha pins s σ H Q I h) fun c s1 e=>?_);cases c with
 |true=>exact isTrue_and_nil e
 |false=>exact e
theorem u6 (ha:PT X a tA):PW X (.BoolOp .Or [a] pos) tA:=by
 intro wh pins s σ H Q I h;refine isTrue_or (thn (ha pins s σ H Q I h) fun c s1 e=>?_);cases c with
 |false=>exact isTrue_or_nil e
 |true=>exact e
theorem u7 (ha:PT X a tA)(hb:PW X (.BoolOp .And (b::rest) pos) tB'):PW X (.BoolOp .And (a::b::rest) pos) (xg tA tB'):=by
 intro wh pins s σ H Q I h;refine isTrue_and (thn (ha pins s σ H _ I h) fun c s1 ⟨H1,I1,q1⟩=>?_);cases c with
 |true=>exact hb wh pins s1 σ H1 Q I1 q1
 |false=>exact⟨H1,I1,q1⟩
theorem xh (ha:PT X a tA)(hb:PW X (.BoolOp .Or (b::rest) pos) tB'):PW X (.BoolOp .Or (a::b::rest) pos) (tOr tA tB'):=by
 intro wh pins s σ H Q I h;refine isTrue_or (thn (ha pins s σ H _ I h) fun c s1 ⟨H1,I1,q1⟩=>?_);cases c with
 |true=>exact⟨H1,I1,q1⟩
 |false=>exact hb wh pins s1 σ H1 Q I1 q1
theorem u9 (ha:PT X a tA):PT X (.UnaryOp .Not a pos) (y3 tA):=by intro pins s σ H Q I h;exact isTrue_not (ha pins s σ H (fun c H1=>Q (!c) H1) I h)
theorem pP {op}{t:TE}(h:PE X a t):PE X (.BoolOp op [a] pos) t:=fun pins s σ H Q I hw=>BoolOp_one (h pins s σ H Q I hw)
def tIf (t:TT)(ta tb:TE):TE:=fun σ H Q=>t σ H fun c H1=>if c=Δ then ta σ H1 Q else tb σ H1 Q
theorem ma {c:Expr}(hc:PT X c tA)(ha:PE X a ta)(hb:PE X b tb):PE X (.IfExp c a b pos) (tIf tA ta tb):=by
 intro pins s σ H Q I h;refine wpAny_IfExp (thn (hc pins s σ H _ I h) fun d s1 ⟨H1,I1,q1⟩=>?_);cases d with
 |true=>exact ha pins s1 σ H1 Q I1 q1
 |false=>exact hb pins s1 σ H1 Q I1 q1
end
def SqL (K:Frag)(H:Hp)(a:Ψ)(xs:List V):Prop:=
 Rd H a (.lst xs)∨
  ∃(o:Obj) (its:Array Φ) (n:Nat),K.lookup a=Γ o/\o.cls=.type "list"/\o.dict=Ξ/\o.data=.seq its n/\its.size<=Ε/\Vals xs its.toList
def SqT (K:Frag)(H:Hp)(a:Ψ)(xs:List V):Prop:=
 Rd H a (.tup xs)∨
  ∃(o:Obj) (its:Array Φ) (n:Nat),K.lookup a=Γ o/\o.cls=.type "tuple"/\o.data=.seq its n/\its.size<=Ε/\Vals xs its.toList
noncomputable def y9:Φ->Option V
 |.none=>Γ .non
 |.bool b=>Γ (.bl b)
 |.int i _=>Γ (.int i)
 |.str x _=>Γ (.str x)
 |.bytes b _=>Γ (.byt b)
 |.float b _=>Γ (.flt b)
 |.ref a=>Γ (.ref a)
 |.type n=>Γ (.ty n)
 |_=>Ξ
theorem RelV.abs {x:V}{u:Φ}(r:RelV x u):y9 u=Γ x:=by
 cases x with
 |non=>cases r;rfl
 |bl _=>cases r;rfl
 |int _=>obtain⟨t,rfl⟩:=r;rfl
 |str _=>obtain⟨t,rfl⟩:=r;rfl
 |byt _=>obtain⟨t,rfl⟩:=r;rfl
 |flt _=>obtain⟨t,rfl⟩:=r;rfl
 |ref _=>cases r;rfl
 |ty _=>cases r;rfl
theorem RelV.inj {x y:V}{u:Φ}(r:RelV x u)(q:RelV y u):x=y:=zZ (r.abs.symm.trans q.abs)
theorem Vals.inj:∀ {xs ys:List V}{us:List Φ},Vals xs us->Vals ys us->xs=ys
 |_,_,_,.nil,.nil=>rfl
 |_,_,_,.cons r t,.cons r' t'=>by rw[r.inj r',Vals.inj t t']
section
variable {X:Cx}{pins:List (Ψ×Obj)}{σ:St}{H:Hp}{s:Ω}{a:Ψ}{xs ys:List V}
theorem Inv.list (I:Inv X pins σ H s)(h:SqL X.K H a xs):∃its:List Φ,Vals xs its/\PlainL s.heap a its.toArray/\xs.length<=Ε:=by
 rcases h with h|⟨o,its,n,hk,hc,hd,hs,hz,r⟩
 ·obtain⟨z,its,n,r,e⟩:=h.ok I.hok;exact⟨its,r,⟨_,n,e,rfl,rfl,rfl⟩,z⟩
 ·refine⟨its.toList,r,⟨o,n,I.kIn a o hk,hc,hd,by simpa using hs⟩,?_⟩;have e:=r.length;simp only[Array.length_toList]at e;omega
theorem Inv.tuple (I:Inv X pins σ H s)(h:SqT X.K H a xs):∃its:List Φ,Vals xs its/\IsTup s.heap a its.toArray/\xs.length<=Ε:=by
 rcases h with h|⟨o,its,n,hk,hc,hs,hz,r⟩
 ·obtain⟨z,its,r,p⟩:=h.ok I.hok;exact⟨its,r,p,z⟩
 ·refine⟨its.toList,r,⟨o,I.kIn a o hk,hc,n,by simpa using hs⟩,?_⟩;have e:=r.length;simp only[Array.length_toList]at e;omega
theorem Inv.list_inj (I:Inv X pins σ H s)(h:SqL X.K H a xs)(h':SqL X.K H a ys):xs=ys:=by
 obtain⟨its,r,⟨o,n,e,_,_,d⟩,_⟩:=I.list h;obtain⟨its',r',⟨o',n',e',_,_,d'⟩,_⟩:=I.list h';rw[e]at e';cases e';rw[d]at d';injection d' with d1 _;have:its=its':=by simpa using congrArg Array.toList d1
 subst this;exact r.inj r'
theorem Inv.tuple_inj (I:Inv X pins σ H s)(h:SqT X.K H a xs)(h':SqT X.K H a ys):xs=ys:=by
 obtain⟨its,r,⟨o,e,_,n,d⟩,_⟩:=I.tuple h;obtain⟨its',r',⟨o',e',_,n',d'⟩,_⟩:=I.tuple h';rw[e]at e';cases e';rw[d]at d';injection d' with d1 _;have:its=its':=by simpa using congrArg Array.toList d1
 subst this;exact r.inj r'
end
noncomputable abbrev Cx.wish (X:Cx)(E:Φ->Ω->Prop):Cx:={X with xe:=E}
noncomputable abbrev Cx.nox (X:Cx):Cx:=X.wish fun _ _=>False
theorem Cx.Ok.wish {X:Cx}(ok:X.Ok)(E:Φ->Ω->Prop):(X.wish E).Ok:=
 ⟨ok.mod,ok.kind,ok.glob,ok.blt,ok.above,ok.inj,ok.has,ok.cab,ok.hd,ok.frames,ok.stk,ok.exf,ok.bs,ok.bsz,ok.noex,ok.exfs,ok.funs,ok.frf⟩
theorem Cx.Ok.unwish {X:Cx}{E:Φ->Ω->Prop}(ok:(X.wish E).Ok):X.Ok:=
 ⟨ok.mod,ok.kind,ok.glob,ok.blt,ok.above,ok.inj,ok.has,ok.cab,ok.hd,ok.frames,ok.stk,ok.exf,ok.bs,ok.bsz,ok.noex,ok.exfs,ok.funs,ok.frf⟩
section
variable {X:Cx}{pins:List (Ψ×Obj)}{σ:St}{H:Hp}{s:Ω}{E:Φ->Ω->Prop}
theorem Inv.wish (I:Inv X pins σ H s)(E:Φ->Ω->Prop):Inv (X.wish E) pins σ H s:=⟨I.ok.wish E,I.os,I.bare,I.base,I.loc,I.cell,I.free,I.freeC,I.pin,I.hok,I.len⟩
theorem Inv.unwish (I:Inv (X.wish E) pins σ H s):Inv X pins σ H s:=⟨I.ok.unwish,I.os,I.bare,I.base,I.loc,I.cell,I.free,I.freeC,I.pin,I.hok,I.len⟩
end
section
variable {X:Cx}{st:Stmt}{rest:List Stmt}{t u:TS}{e:Expr}{te:TE}{pos:Pos}
def xj:TS:=fun D σ H=>D.nx σ H
def za (t u:TS):TS:=fun D σ H=>t {D with nx:=u D} σ H
theorem nR:PSs X [] xj:=fun _ _ σ H _ I h=>wpAny_execs_nil ⟨σ,H,I,h⟩
theorem md (h1:PS X st t)(h2:PSs X rest u):PSs X (st::rest) (za t u):=by
 intro pins s σ H D I h;refine wpAny_execs_cons (thn (h1 pins s σ H {D with nx:=u D} I h) fun f s1 q=>?_);cases f with
 |next=>obtain⟨σ',H',I',q⟩:=q;exact h2 pins s1 σ' H' D I' q
 |ret v=>exact q
 |brk=>exact q
 |cont=>exact q
theorem Inv.quiet {pins:List (Ψ×Obj)}{σ:St}{H:Hp}{s:Ω}(I:Inv X pins σ H s):interactive X.env=Θ:=by simp[interactive,I.ok.kind]
def xk (te:TE):TS:=fun D σ H=>te σ H fun _ H1=>D.nx σ H1
theorem sd (he:PE X e te)(hs:swapsWith e Ξ pos.line X.env=pure Θ:=by rfl):PS X (.Expr e pos) (xk te):=by intro pins s σ H D I h;exact wpAny_Expr_any (thn (he pins s σ H _ I h) fun v s1 ⟨x,H1,I1,r1,q1⟩=>⟨σ,H1,I1,q1⟩) I.quiet hs
def zb (te:TE):TS:=fun D σ H=>te σ H D.rt
theorem vd (he:PE X e te):PS X (.Return (Γ e) pos) (zb te):=by intro pins s σ H D I h;exact wpAny_Return_some (thn (he pins s σ H _ I h) fun v s1 ⟨x,H1,I1,r1,q1⟩=>⟨x,σ,H1,I1,r1,q1⟩)
def ze (c:TT)(t u:TS):TS:=fun D σ H=>c σ H fun b H1=>if b=Δ then t D σ H1 else u D σ H1
theorem xl {c:Expr}{a b:List Stmt}{tc:TT}(hc:PT X c tc)(ha:PSs X a t)(hb:PSs X b u):PS X (.If c a b pos) (ze tc t u):=by
 intro pins s σ H D I h;refine wpAny_If (thn (hc pins s σ H _ I h) fun d s1 ⟨H1,I1,q1⟩=>?_);cases d with
 |true=>exact ha pins s1 σ H1 D I1 q1
 |false=>exact hb pins s1 σ H1 D I1 q1
end
abbrev TG:=V->St->Hp->(St->Hp->Prop)->Prop
abbrev TGs:=List V->St->Hp->(St->Hp->Prop)->Prop
def PG (X:Cx)(target:Expr)(t:TG):Prop:=
 ∀(pins:List (Ψ×Obj)) (s:Ω) (σ:St) (H:Hp) (v:V) (u:Φ) (Q:St->Hp->Prop),Inv X pins σ H s->RelV v u->t v σ H Q->
  Ι (Κ X.prog X.w) X.A (assign target X.env u) (fun _ s'=>∃σ' H',Inv X pins σ' H' s'/\Q σ' H') X.xe s
def PGs (X:Cx)(ts:List Expr)(t:TGs):Prop:=
 ∀(pins:List (Ψ×Obj)) (s:Ω) (σ:St) (H:Hp) (vs:List V) (us:List Φ) (Q:St->Hp->Prop),Inv X pins σ H s->Vals vs us->t vs σ H Q->
  Ι (Κ X.prog X.w) X.A (assignInOrder ((assignEach ts X.env).map (·.2)) us) (fun _ s'=>∃σ' H',Inv X pins σ' H' s'/\Q σ' H') X.xe s
section
variable {X:Cx}{pos:Pos}
def pQ (i:Nat):TG:=fun v σ H Q=>Q (σ.set i (Γ v)) H
theorem se {i:Nat}{x:Str}(hN:X.N.Nodup)(hi:X.N[i]? = Γ x)(hx:Loc X.env.scope x)(hf:X.fn x=Δ∨X.env.scope.names.lookup x=Γ .local:=by first|exact .inl rfl|exact .inr rfl|assumption):PG X (.Name x pos) (pQ i):=by intro pins s σ H v u Q I r h;exact wpAny_assign_Name (hG I hN hi hx r (fun s' I'=>⟨_,H,I',h⟩) hf)
def xn:TGs:=fun vs σ H Q=>vs=[]/\Q σ H
def uo (t:TG)(u:TGs):TGs:=fun vs σ H Q=>∃v r,vs=v::r/\t v σ H fun σ' H'=>u r σ' H' Q
theorem sh:PGs X [] xn:=by intro pins s σ H vs us Q I r h;obtain⟨e,h⟩:=h;subst e;cases r;exact assignInOrder_nil ⟨σ,H,I,h⟩
theorem pR {e:Expr}{es:List Expr}{t:TG}{u:TGs}(h1:PG X e t)(h2:PGs X es u)
  (hs:(assignEach (e::es) X.env).map (·.2)=assign e X.env::(assignEach es X.env).map (·.2):=by rfl):PGs X (e::es) (uo t u):=by
 intro pins s σ H vs us Q I r h;obtain⟨v,vr,e1,h⟩:=h;subst e1;cases r with
 |cons r rr=>rw[hs];refine assignInOrder_cons (thn (h1 pins s σ H _ _ _ I r h) fun _ s1 ⟨σ1,H1,I1,q1⟩=>?_);exact h2 pins s1 σ1 H1 _ _ Q I1 rr q1
def vf (te:TE)(g:TG):TS:=fun D σ H=>te σ H fun x H1=>g x σ H1 D.nx
theorem vg {tg e:Expr}{te:TE}{g:TG}(he:PE X e te)(hg:PG X tg g)(hs:swapsWithSole [tg] e pos.line X.env=pure Θ:=by rfl)(hw:swappedStores [tg] e X.env=pure Ξ:=by rfl)
  (h1:(assignEach [tg] X.env).map (·.2)=[assign tg X.env]:=by rfl):PS X (.Assign [tg] e pos) (vf te g):=by
 intro pins s σ H D I h;refine wpAny_Assign_stores (thn (he pins s σ H _ I h) fun v s1 ⟨x,H1,I1,r1,q1⟩=>?_) hs hw;rw[h1];exact thn (hg pins s1 σ H1 x v _ I1 r1 q1) fun _ s2 q=>q
theorem vi {i:Nat}{x:Str}{e:Expr}{te:TE}{pos':Pos}(hN:X.N.Nodup)(hi:X.N[i]? = Γ x)(hx:Loc X.env.scope x)(he:PE X e te)(hs:swapsWith e (Γ (.Name x pos')) pos.line X.env=pure Θ:=by rfl)(hf:X.fn x=Δ∨X.env.scope.names.lookup x=Γ .local:=by first|exact .inl rfl|exact .inr rfl|assumption) :
  PS X (.Assign [.Name x pos'] e pos) (vf te (pQ i)):=by
 intro pins s σ H D I h;refine wpAny_Assign_Name (thn (he pins s σ H _ I h) fun v s1 ⟨y,H1,I1,r1,q1⟩=>?_) hs;exact hG I1 hN hi hx r1 (fun s2 I2=>⟨_,H1,I2,q1⟩) hf
end
structure It where
 go:Nat->Hp->Prop
 yld:Nat->Hp->V->Hp->Prop
 stop:Nat->Hp->Prop
def hI (X:Cx)(pins:List (Ψ×Obj))(H:Hp)(b:Ψ):Prop:=
 H b=Ξ/\b≠X.env.locals/\b∉X.fs/\(b∈X.ex∨X.s₀.heap.objs.size<=b)/\(∀x c,X.env.cells.lookup x=Γ c->c≠b)/\∀p∈X.pn++pins,p.1≠b
theorem Inv.fpOk {X:Cx}{pins:List (Ψ×Obj)}{σ:St}{H H':Hp}{s:Ω}{b:Ψ}(I:Inv X pins σ H s)(hb:s.heap.objs.size<=b)(hn:H' b=Ξ):hI X pins H' b:=by
 refine⟨hn,Nat.ne_of_gt (zV I.lt hb),I.nofs hb,.inr (Ad I.sz hb),fun x c e z=>?_,fun p hp z=>?_⟩
 ·obtain⟨v,q⟩:=I.cell x c e;exact absurd (zV q.lt (by rw[z];exact hb)) (Ai _)
 ·exact absurd (zV (j_ (I.pin p hp).1) (by rw[z];exact hb)) (Ai _)
structure Turn (P:Β)(w:Α)(K:Frag)(tg:Expr)(J:It)(fp:List Ψ)(it:Ψ)(tn:Nat->Heap->Prop):Prop where
 mem:it∈fp
 obj:∀i h,tn i h->∀b∈fp,∃o,h.get? b=Γ o/\∀v,o.data≠.cell v
 keep:∀i h h',tn i h->(∀b∈fp,∀o,h.get? b=Γ o->h'.get? b=Γ o)->tn i h'
 item:∀(X:Cx),X.prog=P->X.w=w->X.K=K->X.calm=Δ->∀(i:Nat) (pins:List (Ψ×Obj)) (s:Ω) (σ:St) (H:Hp) (E:Φ->Ω->Prop),Inv X pins σ H s->(∀b∈fp,hI X pins H b)->tn i s.heap->J.go i H->
  Ι (Κ P w) X.A (pyNext (.ref it)) (fun r s1=>∃u,r=Γ u/\
   Ι (Κ P w) X.A (letOwnedTupleGo tg (.ref it) u) (fun _ s2=>∃x H',Inv X pins σ H' s2/\RelV x u/\J.yld i H x H'/\tn (i+1) s2.heap/\∀b∈fp,H' b=Ξ) E s1) E s
 done:∀(X:Cx),X.prog=P->X.w=w->X.K=K->X.calm=Δ->∀(i:Nat) (pins:List (Ψ×Obj)) (s:Ω) (σ:St) (H:Hp) (E:Φ->Ω->Prop),Inv X pins σ H s->(∀b∈fp,hI X pins H b)->tn i s.heap->J.stop i H->
  Ι (Κ P w) X.A (pyNext (.ref it)) (fun r s1=>r=Ξ/\Inv X pins σ H s1) E s
 self:∀(A:Η) (i:Nat) (s:Ω) (Q:Φ->Ω->Prop) (E:Φ->Ω->Prop),tn i s.heap->Q (.ref it) s->Ι (Κ P w) A (pyIter (.ref it)) Q E s
abbrev TI:=St->Hp->(It->Hp->Prop)->Prop
def PIE (X:Cx)(pins:List (Ψ×Obj))(σ:St)(tg:Expr)(R:It->Hp->Prop)(itv:Φ)(s2:Ω):Prop:=
 ∃(it:Ψ) (fp:List Ψ) (tn:Nat->Heap->Prop) (J:It) (H':Hp),itv=.ref it/\Inv X pins σ H' s2/\Turn X.prog X.w X.K tg J fp it tn/\tn 0 s2.heap/\(∀b∈fp,hI X pins H' b)/\R J H'
def PI (X:Cx)(tg iter:Expr)(wi:TI):Prop:=
 ∀(pins:List (Ψ×Obj)) (s:Ω) (σ:St) (H:Hp) (R:It->Hp->Prop),Inv X pins σ H s->wi σ H R->
  Ι (Κ X.prog X.w) X.A (eval iter X.env) (fun v s1=>Ι (Κ X.prog X.w) X.A (pyIter v) (PIE X pins σ tg R) X.xe s1) X.xe s
theorem nS {M : Model}{A : Η}{E : Φ -> Ω -> Prop}{s : Ω}{tg : Expr}{it : Ψ}{u : Φ}{o : Obj}{n : String}{vs : Array Φ}{Q : Unit -> Ω -> Prop}(ho : s.heap.get? it = Γ o)(hc : o.cls = .type n)(hd : o.data = .fields vs)
    (hn : ["enumerate", "zip", "dict_itemiterator", "dict_reverseitemiterator", "odict_iterator", "itertools.zip_longest", "itertools.pairwise"].contains n = Θ) (hQ : Q () s) : Ι M A (letOwnedTupleGo tg (.ref it) u) Q E s :=by
  unfold letOwnedTupleGo;cases tg <;> first
    | exact q_ hQ
    | (cases u <;> first
        | exact q_ hQ
        | (refine g_ (wpAny_load ho ?_)
           rw [hc,hd];show Ι M A (if(["enumerate", "zip", "dict_itemiterator", "dict_reverseitemiterator", "odict_iterator", "itertools.zip_longest", "itertools.pairwise"].contains n&&vs[0]? == Γ (rawInt _)) = Δ then _ else _) Q E s;rw [c_ (by intro h; rw [hn,Bool.false_and]at h; cases h)]
           exact q_ hQ))
noncomputable def Itl (K:Frag)(a:Ψ):It:=
 ⟨fun i H=>∃xs x,SqL K H a xs/\xs[i]? = Γ x,fun i H x H'=>H'=H/\∀xs,SqL K H a xs->xs[i]? = Γ x,fun i H=>∃xs,SqL K H a xs/\xs.length<=i⟩
noncomputable def Itt (K:Frag)(a:Ψ):It:=
 ⟨fun i H=>∃xs x,SqT K H a xs/\xs[i]? = Γ x,fun i H x H'=>H'=H/\∀xs,SqT K H a xs->xs[i]? = Γ x,fun i H=>∃xs,SqT K H a xs/\xs.length<=i⟩
noncomputable def Itr (lo:Int)(n:Nat):It:=⟨fun i _=>i < n,fun i H x H'=>H'=H/\x=.int (lo+i),fun i _=>n<=i⟩
theorem oW {P:Β}{w:Α}{K:Frag}{tg:Expr}(a it:Ψ):Turn P w K tg (Itl K a) [it] it (fun i h=>h.IsListIter it a i) where
 mem:=by simp
 obj:=fun i h st b hb=>by
  have e:b=it:=by simpa using hb
  subst e;obtain⟨o,e,c,d⟩:=st;exact⟨o,e,fun v z=>by rw[d]at z;cases z⟩
 keep:=fun i h h' st k=>st.at fun o e=>k it (by simp) o e
 item:=by intro X hP hw hK hc i pins s σ H E I hf st hg;subst hP hw hK;obtain⟨xs,x,hq,hx⟩:=hg;obtain⟨its,rv,p,hz⟩:=I.list hq;obtain⟨u,hu,ru⟩:=rv.get hx;obtain⟨f0,f1,f2,f3,f4,f5⟩:=hf it (by simp);refine wpAny_pyNext_list_item st p.isList (x:=u) (by simpa using hu) fun h' st' sb=>?_;have I1:Inv X pins σ H {s with heap:=h'}:=I.turned (t':=s.toks) (fun b o hb e=>(sb.2 b hb).trans e) f0 f1 f3 f4 f5;obtain⟨o,e,c,d⟩:=id st';exact⟨u,rfl,nS (s:={s with heap:=h'}) e c d (by decide) ⟨x,H,I1,ru,⟨rfl,fun ys hy=>by rw[I.list_inj hy hq];exact hx⟩,st',fun b hb=>(hf b hb).1⟩⟩
 done:=by intro X hP hw hK hc i pins s σ H E I hf st hg;subst hP hw hK;obtain⟨xs,hq,hx⟩:=hg;obtain⟨its,rv,p,hz⟩:=I.list hq;obtain⟨f0,f1,f2,f3,f4,f5⟩:=hf it (by simp);have hl:=rv.length;exact wpAny_pyNext_list_end (I.ok.hd hc) st p.isList (by simp;omega) fun h' eb=>⟨rfl,I.turned (t':=s.toks) (fun b o hb e=>eb b o hb e) f0 f1 f3 f4 f5⟩
 self:=fun _ _ _ _ _ st h=>wpAny_pyIter_listiter st h
theorem mY {P:Β}{w:Α}{K:Frag}{tg:Expr}(a it:Ψ):Turn P w K tg (Itt K a) [it] it (fun i h=>h.IsTupleIter it a i) where
 mem:=by simp
 obj:=fun i h st b hb=>by
  have e:b=it:=by simpa using hb
  subst e;obtain⟨o,e,c,d⟩:=st;exact⟨o,e,fun v z=>by rw[d]at z;cases z⟩
 keep:=fun i h h' st k=>st.at fun o e=>k it (by simp) o e
 item:=by intro X hP hw hK hc i pins s σ H E I hf st hg;subst hP hw hK;obtain⟨xs,x,hq,hx⟩:=hg;obtain⟨its,rv,p,hz⟩:=I.tuple hq;obtain⟨u,hu,ru⟩:=rv.get hx;obtain⟨f0,f1,f2,f3,f4,f5⟩:=hf it (by simp);refine wpAny_pyNext_tuple_item st (show s.heap.IsTuple a its.toArray from p) (x:=u) (by simpa using hu) fun h' st' sb=>?_;have I1:Inv X pins σ H {s with heap:=h'}:=I.turned (t':=s.toks) (fun b o hb e=>(sb.2 b hb).trans e) f0 f1 f3 f4 f5;obtain⟨o,e,c,d⟩:=id st';exact⟨u,rfl,nS (s:={s with heap:=h'}) e c d (by decide) ⟨x,H,I1,ru,⟨rfl,fun ys hy=>by rw[I.tuple_inj hy hq];exact hx⟩,st',fun b hb=>(hf b hb).1⟩⟩
 done:=by intro X hP hw hK hc i pins s σ H E I hf st hg;subst hP hw hK;obtain⟨xs,hq,hx⟩:=hg;obtain⟨its,rv,p,hz⟩:=I.tuple hq;obtain⟨f0,f1,f2,f3,f4,f5⟩:=hf it (by simp);have hl:=rv.length;exact wpAny_pyNext_tuple_end (I.ok.hd hc) st (show s.heap.IsTuple a its.toArray from p) (by simp;omega) fun h' eb=>⟨rfl,I.turned (t':=s.toks) (fun b o hb e=>eb b o hb e) f0 f1 f3 f4 f5⟩
 self:=fun _ _ _ _ _ st h=>wpAny_pyIter_tupleiter st h
theorem mZ {P:Β}{w:Α}{K:Frag}{tg:Expr}(it:Ψ)(lo:Int)(n:Nat):Turn P w K tg (Itr lo n) [it] it (fun i h=>IsRangeIter h it (lo+(i:Nat)*1) ((n:Int) - (i:Nat)) 1) where
 mem:=by simp
 obj:=fun i h st b hb=>by
  have e:b=it:=by simpa using hb
  subst e
  exact⟨_,st,fun v z=>by
   have z':Data.fields _=Data.cell v:=z
   cases z'⟩
 keep:=fun i h h' st k=>k it (by simp) _ st
 item:=by intro X hP hw hK hc i pins s σ H E I hf st hg;subst hP hw hK;obtain⟨f0,f1,f2,f3,f4,f5⟩:=hf it (by simp);have W:=Walks.range (prog:=X.prog) (w:=X.w) (I.ok.hd hc) it lo 1 n;refine W.item i s _ _ hg st fun v h' tk hv st' kk=>?_;obtain⟨t,rfl⟩:=hv;have I1:Inv X pins σ H {s with heap:=h',toks:=tk}:=I.turned (fun b o hb e=>kk b o (by simpa using hb) e) f0 f1 f3 f4 f5;refine⟨_,rfl,nS (s:={s with heap:=h',toks:=tk}) (n:="range_iterator") st' rfl rfl (by decide) ⟨.int (lo+i),H,I1,⟨t,?_⟩,⟨rfl,rfl⟩,st',fun b hb=>(hf b hb).1⟩⟩;rw[Int.mul_one]
 done:=by intro X hP hw hK hc i pins s σ H E I hf st hg;subst hP hw hK;obtain⟨f0,f1,f2,f3,f4,f5⟩:=hf it (by simp);exact wpAny_pyNext_range_end (I.ok.hd hc) st (by have:n<=i:=hg;omega) fun h' eb=>⟨rfl,I.turned (t':=s.toks) (fun b o hb e=>eb b o hb e) f0 f1 f3 f4 f5⟩
 self:=fun _ _ _ _ _ st h=>wpAny_pyIter_rangeiter st h
section
variable {X:Cx}{tg:Expr}
theorem pS {pins:List (Ψ×Obj)}{σ:St}{H:Hp}{s:Ω}{R:It->Hp->Prop}{E:Φ->Ω->Prop}{lo hi:Int}{t u v:Tok}{tk:Nat}(I:Inv X pins σ H s)(h1 : -(2 ^ 62)<=lo)(h2:lo < 2 ^ 62)(h3 : -(2 ^ 62)<=hi)(h4:hi < 2 ^ 62)
  (q:R (Itr lo (hi - lo).toNat) H):Ι (Κ X.prog X.w) X.A (pyIter (.ref s.heap.objs.size)) (PIE X pins σ tg R) E {s with heap:=s.heap.push {cls:=.type "range",data:=.fields #[.int lo t,.int hi u,.int 1 v]},toks:=tk}:=by
 refine wpAny_pyIter_range (IsRange.new ..) (small_one h1 h2 h3 h4) ?_;have I1:Inv X pins σ H {s with heap:=s.heap.push {cls:=.type "range",data:=.fields #[.int lo t,.int hi u,.int 1 v]},toks:=tk}:=I.kept fun b o e=>v_ _ e
 refine⟨(s.heap.push {cls:=.type "range",data:=.fields #[.int lo t,.int hi u,.int 1 v]}).objs.size,[(s.heap.push {cls:=.type "range",data:=.fields #[.int lo t,.int hi u,.int 1 v]}).objs.size],_,_,H,rfl,
  I1.kept (t':=tk) fun b o e=>v_ _ e,mZ _ lo (hi - lo).toNat,?_,fun b hb=>?_,q⟩
 ·have e1:lo+((0:Nat):Int)*1=lo:=by simp
  have e2:(((hi - lo).toNat:Nat):Int) - ((0:Nat):Int)=Builtin.Range.rangeSize lo hi 1:=by rw[rangeSize_one];split<;>omega
  show IsRangeIter _ _ (lo+((0:Nat):Int)*1) ((((hi - lo).toNat:Nat):Int) - ((0:Nat):Int)) 1;rw[e1,e2];exact Aa _ rfl
 ·have e:b=(s.heap.push {cls:=.type "range",data:=.fields #[.int lo t,.int hi u,.int 1 v]}).objs.size:=by simpa using hb
  subst e;exact I1.fpOk (k_ _) (I1.hok.fresh (k_ _))
def xq (ta:TA):TI:=fun σ H R=>ta σ H fun vs H1=>∃j:Int,vs=[.int j]/\-(2 ^ 62)<=j/\j < 2 ^ 62/\R (Itr 0 j.toNat) H1
theorem ky {a:Expr}{ta:TA}{p pos:Pos}(hg:Gl X "range") (hm:X.mg "range" = Ξ) (ha:PA X [a] ta) (hs:Μ [a] X.env=[(Θ,eval a X.env)]:=by rfl):PI X tg (.Call (.Name "range" p) [a] [] pos) (xq ta):=by
 intro pins s σ H R I h;refine Call_ (i6 I hg hm boot_range (PyProof.Rows.callWith_type1 (thn (ha pos pins s σ H _ I h) fun us s1 ⟨vs,H1,I1,r1,q1⟩=>?_) hs rfl));obtain⟨j,e,q1,q2,q⟩:=q1;subst e;cases r1 with
 |cons r rr=>cases rr;obtain⟨t,rfl⟩:=r;exact call_range_1 (pS I1 (by omega) (by omega) q1 q2 (by simpa using q))
def zf (wi:TI)(g:TG)(tb:TS):TS:=fun D σ H=>wi σ H fun J H1=>∃W:Nat->Nat->St->Hp->Prop,(∃m,W 0 m σ H1)/\∀i m σ H,W i m σ H->
 (J.stop i H/\D.nx σ H)∨(J.go i H/\∃N:St->Hp->Prop,(∀σ' H',N σ' H'->∃m',m' < m/\W (i+1) m' σ' H')/\∀x H',J.yld i H x H'->g x σ H' fun σ2 H2=>tb {D with nx:=N,ct:=N,bk:=D.nx} σ2 H2)
noncomputable def i7 (fp:List Ψ)(h:Heap):List (Ψ×Obj):=fp.filterMap fun b=>(h.get? b).map fun o=>(b,o)
theorem gX {fp:List Ψ}{h:Heap}{b:Ψ}{o:Obj}(hb:b∈fp)(e:h.get? b=Γ o):(b,o)∈i7 fp h:=List.mem_filterMap.mpr ⟨b,hb,by rw[e];rfl⟩
theorem oX {fp:List Ψ}{h:Heap}{p:Ψ×Obj}(hp:p∈i7 fp h):p.1∈fp/\h.get? p.1=Γ p.2:=by
 obtain⟨b,hb,e⟩:=List.mem_filterMap.mp hp;cases q:h.get? b with
 |none=>rw[q]at e;cases e
 |some o=>rw[q]at e;have e':(b,o)=p:=zZ e;subst e';exact⟨hb,q⟩
theorem Inv.pinned {pins:List (Ψ×Obj)}{σ:St}{H:Hp}{s:Ω}{fp:List Ψ}(I:Inv X pins σ H s)(hf:∀b∈fp,hI X pins H b)(ho:∀b∈fp,∃o,s.heap.get? b=Γ o/\∀v,o.data≠.cell v):Inv X (pins++i7 fp s.heap) σ H s:=
 I.pins_of fun p hp=>(x_.mp hp).elim (fun z=>I.pin p (o_ _ z)) fun z=>by obtain⟨hb,e⟩:=oX z;obtain⟨f0,f1,f2,_⟩:=hf p.1 hb;obtain⟨o,e',d⟩:=ho p.1 hb;rw[e]at e';cases e';exact⟨e,f0,f1,f2,d⟩
theorem Inv.unpinned {pins pl:List (Ψ×Obj)}{σ:St}{H:Hp}{s:Ω}(I:Inv X (pins++pl) σ H s):Inv X pins σ H s:=I.pins_of fun p hp=>I.pin p (o_ _ (r_ _ hp))
theorem pT {iter:Expr}{body:List Stmt}{wi:TI}{g:TG}{tb:TS}{pos:Pos}(hp:PassesOwn (Κ X.prog X.w) X.A X.env X.xe)(hc:X.calm=Δ)(hi:PI X tg iter wi)(hg:PG X tg g)(hb:PSs X body tb)
  (hs:∀x,foldedSetIterable iter X.env x=pure x:=by intro _;rfl):PS X (.For tg iter body [] pos) (zf wi g tb):=by
 intro pins s σ H D I h;refine wpAny_For (thn (hi pins s σ H _ I h) fun v s1 h1=>thn h1 fun itv s2 h2=>?_) hs;obtain⟨it,fp,tn,J,H2,e,I2,T,st2,f2,W,⟨m0,w0⟩,turn⟩:=h2;subst e
 -- what stays Δ of the iterator's objects through the loop
 have stat:∀ {H':Hp},(∀b∈fp,H' b=Ξ)->∀b∈fp,hI X pins H' b:=fun hn b hb=>⟨hn b hb,(f2 b hb).2⟩
 refine codeAny_forLoop_any (fun n s'=>∃i σ' H',Inv X pins σ' H' s'/\tn i s'.heap/\(∀b∈fp,H' b=Ξ)/\W i n σ' H') ?_ m0 ⟨0,σ,H2,I2,st2,fun b hb=>(f2 b hb).1,w0⟩;rintro n s3 ⟨i,σ3,H3,I3,st3,fr3,w3⟩;rcases turn i n σ3 H3 w3 with⟨stop,qn⟩|⟨go,N,hN,step⟩
 ·refine wpAny_passesOwn hp (thn (T.done X rfl rfl rfl hc i pins s3 σ3 H3 X.xe I3 (stat fr3) st3 stop) fun r s4 ⟨hr,I4⟩=>?_);subst hr;exact wpAny_execs_nil ⟨σ3,H3,I4,qn⟩
 ·refine wpAny_passesOwn hp (thn (T.item X rfl rfl rfl hc i pins s3 σ3 H3 X.xe I3 (stat fr3) st3 go) fun r s4 ⟨u,hr,h4⟩=>?_);subst hr;refine wpAny_passesOwn hp (thn h4 fun _ s5 ⟨x,H5,I5,r5,y5,st5,fr5⟩=>?_);have I5':=I5.pinned (stat fr5) (T.obj _ _ st5);refine wpAny_passesOwn hp (thn (hg _ s5 σ3 H5 x u _ I5' r5 (step x H5 y5)) fun _ s6 ⟨σ6,H6,I6,q6⟩=>?_);refine wpAny_passesOwn hp (thn (hb _ s6 σ6 H6 _ I6 q6) fun f s7 q7=>?_);have again:∀ {σ7:St}{H7:Hp},Inv X (pins++i7 fp s5.heap) σ7 H7 s7->N σ7 H7->∃m,m < n/\∃i σ' H',Inv X pins σ' H' s7/\tn i s7.heap/\(∀b∈fp,H' b=Ξ)/\W i m σ' H':=fun {σ7 H7} I7 n7=>by obtain⟨m',hm,w7⟩:=hN σ7 H7 n7;refine⟨m',hm,i+1,σ7,H7,I7.unpinned,T.keep _ _ _ st5 fun b hb o e=>(I7.pin (b,o) (o_ _ (o_ _ (gX hb e)))).1,fun b hb=>?_,w7⟩;obtain⟨o,e,d⟩:=T.obj _ _ st5 b hb;exact(I7.pin (b,o) (o_ _ (o_ _ (gX hb e)))).2.1
  cases f with
  |next=>obtain⟨σ7,H7,I7,n7⟩:=q7;exact again I7 n7
  |cont=>obtain⟨σ7,H7,I7,n7⟩:=q7;exact again I7 n7
  |brk=>obtain⟨σ7,H7,I7,q7⟩:=q7;exact⟨σ7,H7,I7.unpinned,q7⟩
  |ret v=>obtain⟨x7,σ7,H7,I7,r7,q7⟩:=q7;exact⟨x7,σ7,H7,I7.unpinned,r7,q7⟩
end
abbrev R2:=V->V->Hp->VK->Prop
def OpR (X:Cx)(f:Φ->Φ->Sem Φ)(r:R2):Prop:=
 ∀(pins:List (Ψ×Obj)) (s:Ω) (σ:St) (H:Hp) (x y:V) (v u:Φ) (Q:VK),Inv X pins σ H s->RelV x v->RelV y u->r x y H Q->
  Ι (Κ X.prog X.w) X.A (f v u) (EP X pins σ Q) X.xe s
def f6 (X:Cx)(f:Φ)(r:List V->Hp->VK->Prop):Prop:=
 ∀(pins:List (Ψ×Obj)) (s:Ω) (σ:St) (H:Hp) (xs:List V) (us:List Φ) (Q:VK),Inv X pins σ H s->Vals xs us->r xs H Q->
  Ι (Κ X.prog X.w) X.A (call f us) (EP X pins σ Q) X.xe s
def zg (X:Cx)(r:V->Hp->(Bool->Hp->Prop)->Prop):Prop:=
 ∀(pins:List (Ψ×Obj)) (s:Ω) (σ:St) (H:Hp) (x:V) (v:Φ) (Q:Bool->Hp->Prop),Inv X pins σ H s->RelV x v->r x H Q->
  Ι (Κ X.prog X.w) X.A (truthy v) (TP X pins σ Q) X.xe s
def tOp (r:R2)(ta tb:TE):TE:=fun σ H Q=>ta σ H fun x H1=>tb σ H1 fun y H2=>r x y H2 Q
def rI (C:Int->Int->Prop)(g:Int->Int->V):R2:=fun x y H Q=>∃i j,x=.int i/\y=.int j/\C i j/\Q (g i j) H
def rI0 (g:Int->Int->V):R2:=fun x y H Q=>∃i j,x=.int i/\y=.int j/\Q (g i j) H
section
variable {X:Cx}{a b c:Expr}{ta tb tc:TE}{pos:Pos}
theorem vj (ha:PE X a ta)(hb:PE X b tb){pins:List (Ψ×Obj)}{s:Ω}{σ:St}{H:Hp}{R:V->V->Hp->Prop}(I:Inv X pins σ H s)
  (h:ta σ H fun x H1=>tb σ H1 fun y H2=>R x y H2) {Q:Φ->Ω->Prop}{f:Φ->Φ->Sem Φ}
  (hf:∀v u s2 x y H2,Inv X pins σ H2 s2->RelV x v->RelV y u->R x y H2->Ι (Κ X.prog X.w) X.A (f v u) Q X.xe s2) :
  Ι (Κ X.prog X.w) X.A (eval a X.env) (fun v s₁=>Ι (Κ X.prog X.w) X.A (eval b X.env) (fun u s₂=>Ι (Κ X.prog X.w) X.A (f v u) Q X.xe s₂) X.xe s₁) X.xe s:=by
 refine thn (ha pins s σ H _ I h) fun v s1 ⟨x,H1,I1,r1,q1⟩=>?_;refine thn (hb pins s1 σ H1 _ I1 q1) fun u s2 ⟨y,H2,I2,r2,q2⟩=>?_;exact hf v u s2 x y H2 I2 r1 r2 q2
theorem pU {op:Operator}{r:R2}(ho:OpR X (binaryOp op) r)(ha:PE X a ta)(hb:PE X b tb):PE X (.BinOp a op b pos) (tOp r ta tb):=by intro pins s σ H Q I h;exact wpAny_BinOp (vj ha hb I h fun v u s2 x y H2 I2 rx ry q=>ho pins s2 σ H2 x y v u Q I2 rx ry q)
theorem opI {f:Φ->Φ->Sem Φ}{C:Int->Int->Prop}{g:Int->Int->Int}
  (rule:∀(i j:Int) (t u:Tok) (s:Ω) (Q:Φ->Ω->Prop) (E:Φ->Ω->Prop),C i j->Q (.int (g i j) s.toks) {s with toks:=s.toks+1}->Ι (Κ X.prog X.w) X.A (f (.int i t) (.int j u)) Q E s) :
  OpR X f (rI C fun i j=>.int (g i j)):=by
 intro pins s σ H x y v u Q I rx ry h;obtain⟨i,j,rfl,rfl,hc,q⟩:=h;obtain⟨t,rfl⟩:=rx;obtain⟨t',rfl⟩:=ry;exact rule i j t t' s _ _ hc ⟨.int (g i j),H,I.tok _,⟨_,rfl⟩,q⟩
theorem xr {f:Φ->Φ->Sem Φ}{g:Int->Int->Int}
  (rule:∀(i j:Int) (t u:Tok) (s:Ω) (Q:Φ->Ω->Prop) (E:Φ->Ω->Prop),Q (.int (g i j) s.toks) {s with toks:=s.toks+1}->Ι (Κ X.prog X.w) X.A (f (.int i t) (.int j u)) Q E s) :
  OpR X f (rI0 fun i j=>.int (g i j)):=by
 intro pins s σ H x y v u Q I rx ry h;obtain⟨i,j,rfl,rfl,q⟩:=h;obtain⟨t,rfl⟩:=rx;obtain⟨t',rfl⟩:=ry;exact rule i j t t' s _ _ ⟨.int (g i j),H,I.tok _,⟨_,rfl⟩,q⟩
def zh (i j:Int):Prop:=0 < j/\j < 1073741824
def zi (i j:Int):Prop:=0<=j/\j<=1000000/\i.natAbs < 2 ^ 64
def vk (i j:Int):Prop:=(-(2 ^ 64) < i/\i < 2 ^ 64)∨(-(2 ^ 64) < j/\j < 2 ^ 64)
theorem vk.ok {i j:Int}(h:vk i j):IntMulOk i j:=by
 rcases h with⟨h1,h2⟩|⟨h1,h2⟩
 ·exact .of_left (intBits_le_64 h1 h2)
 ·exact .of_right (intBits_le_64 h1 h2)
theorem vm:OpR X (binaryOp .Add) (rI0 fun i j=>.int (i+j)):=xr fun _ _ _ _ _ _ _ q=>add_int q
theorem vn:OpR X (binaryOp .Sub) (rI0 fun i j=>.int (i - j)):=xr fun _ _ _ _ _ _ _ q=>sub_int q
theorem vp:OpR X (binaryOp .Mult) (rI vk fun i j=>.int (i*j)):=opI fun _ _ _ _ _ _ _ hc q=>mul_int q hc.ok
theorem si:OpR X (binaryOp .FloorDiv) (rI zh fun i j=>.int (i / j)):=opI fun i j _ _ _ _ _ hc q=>by have h1:(0:Int) < j:=hc.1;have h2:j < 1073741824:=hc.2;exact floordiv_int (by omega) (by rw[Int.fdiv_eq_ediv_of_nonneg i (by omega)];exact q) (.inl (PyProof.noPylong_small (by omega)))
theorem vq:OpR X (binaryOp .Mod) (rI (fun _ j=>0 < j) fun i j=>.int (i % j)):=opI fun i j _ _ _ _ _ hc q=>by have h1:(0:Int) < j:=hc;exact mod_int' (by omega) (by rw[Int.fmod_eq_emod_of_nonneg i (by omega)];exact q)
theorem vt:OpR X (binaryOp .Pow) (rI zi fun i j=>.int (i ^ j.toNat)):=opI fun _ _ _ _ _ _ _ hc q=>pow_int_small hc.1 hc.2.1 hc.2.2 q
end
section
variable {X:Cx}{a b c:Expr}{ta tb tc:TE}{pos:Pos}
theorem sj {op:CmpOp}{r:R2}(ho:OpR X (compareOp op) r)(ha:PE X a ta)(hb:PE X b tb)(hm:behindInMarks op b=Θ):PE X (.Compare a [op] [b] pos) (tOp r ta tb):=by intro pins s σ H Q I h;exact wpAny_Compare1 (vj ha hb I h fun v u s2 x y H2 I2 rx ry q=>ho pins s2 σ H2 x y v u Q I2 rx ry q) hm
def uq (t:TE):TT:=fun σ H Q=>t σ H fun x H'=>∃k,x=.bl k/\Q k H'
theorem sk {op:CmpOp}{r:R2}(ho:OpR X (compareOp op) r)(ha:PE X a ta)(hb:PE X b tb)(hm:behindInMarks op b=Θ):PT X (.Compare a [op] [b] pos) (uq (tOp r ta tb)):=by
 intro pins s σ H Q I h
 refine wpAny_isTrue_Compare1 (thn (ha pins s σ H _ I h) fun v s1 ⟨x,H1,I1,r1,q1⟩=>thn (hb pins s1 σ H1 _ I1 q1) fun u s2 ⟨y,H2,I2,r2,q2⟩=>
  thn (ho pins s2 σ H2 x y v u _ I2 r1 r2 q2) fun c s3 ⟨z,H3,I3,r3,k,e,q3⟩=>?_) hm
 subst e;cases r3;exact wpAny_truthy_bool ⟨H3,I3,q3⟩
def pV (r r':R2)(ta tb tc:TE):TE:=fun σ H Q=>ta σ H fun x H1=>tb σ H1 fun y H2=>r x y H2 fun z H3=>∃k,z=.bl k/\
 (if k=Δ then tc σ H3 fun w' H4=>r' y w' H4 Q else Q (.bl Θ) H3)
theorem pW {op op':CmpOp}{r r':R2}(ho:OpR X (compareOp op) r)(ho':OpR X (compareOp op') r')(ha:PE X a ta)(hb:PE X b tb)(hc:PE X c tc)
  (hm:lastMarks [op,op'] [b,c]=Θ:=by with_unfolding_all rfl):PE X (.Compare a [op,op'] [b,c] pos) (pV r r' ta tb tc):=by
 intro pins s σ H Q I h
 refine Compare_chain (thn (ha pins s σ H _ I h) fun v s1 ⟨x,H1,I1,r1,q1⟩=>chain_link (thn (hb pins s1 σ H1 _ I1 q1) fun u s2 ⟨y,H2,I2,r2,q2⟩=>
  thn (ho pins s2 σ H2 x y v u _ I2 r1 r2 q2) fun d s3 ⟨z,H3,I3,r3,k,e,q3⟩=>?_)) hm
 subst e;cases r3;refine wpAny_truthy_bool ?_;cases k with
 |false=>exact ite_ff ⟨.bl Θ,H3,I3,rfl,q3⟩
 |true=>exact ite_tt (chain_last (thn (hc pins s3 σ H3 _ I3 q3) fun w' s4 ⟨z',H4,I4,r4,q4⟩=>ho' pins s4 σ H4 y z' u w' Q I4 r2 r4 q4))
theorem pX {op op':CmpOp}{r r':R2}(ho:OpR X (compareOp op) r)(ho':OpR X (compareOp op') r')(ha:PE X a ta)(hb:PE X b tb)(hc:PE X c tc)
  (hm:lastMarks [op,op'] [b,c]=Θ:=by with_unfolding_all rfl):PT X (.Compare a [op,op'] [b,c] pos) (uq (pV r r' ta tb tc)):=by
 intro pins s σ H Q I h
 refine isTrue_chain (thn (ha pins s σ H _ I h) fun v s1 ⟨x,H1,I1,r1,q1⟩=>test_link (thn (hb pins s1 σ H1 _ I1 q1) fun u s2 ⟨y,H2,I2,r2,q2⟩=>
  thn (ho pins s2 σ H2 x y v u _ I2 r1 r2 q2) fun d s3 ⟨z,H3,I3,r3,k,e,q3⟩=>?_)) hm
 subst e;cases r3;refine wpAny_truthy_bool ?_;cases k with
 |false=>obtain⟨k',e',q'⟩:=q3;cases e';exact ite_ff ⟨H3,I3,q'⟩
 |true=>refine ite_tt (test_last (thn (hc pins s3 σ H3 _ I3 q3) fun w' s4 ⟨z',H4,I4,r4,q4⟩=>thn (ho' pins s4 σ H4 y z' u w' _ I4 r2 r4 q4) fun d' s5 ⟨z2,H5,I5,r5,k2,e2,q5⟩=>?_));subst e2;cases r5;exact wpAny_truthy_bool ⟨H5,I5,q5⟩
def zj (K:Frag)(x:V)(H:Hp)(k:Bool):Prop:=
 match x with
 |.non=>k=Θ
 |.bl b=>k=b
 |.int i=>k=(i != 0)
 |.str y=>y.length<=Ε/\k=((y.length:Int) != 0)
 |.byt y=>y.size<=Ε/\k=((y.size:Int) != 0)
 |.ref p=>(∃xs,SqL K H p xs/\k = !xs.isEmpty)∨(∃xs,SqT K H p xs/\k = !xs.isEmpty)∨∃kvs,H p=Γ (.dK kvs)/\k = !kvs.isEmpty
 |_=>False
theorem m7 {κ:Type}{kvs:List (κ×V)}{vs:List (κ×Φ)}(r:KV kvs vs):(!vs.isEmpty) = !kvs.isEmpty:=by cases r<;>rfl
theorem jB {xs:List V}{its:List Φ}(r:Vals xs its):(!its.toArray.isEmpty) = !xs.isEmpty:=by cases r<;>simp
theorem jC:(Ε:Nat) < 2 ^ 63:=by rw[sizeLine_eq];decide
theorem vw:zg X (fun x H Q=>∃k,zj X.K x H k/\Q k H):=by
 intro pins s σ H x v Q I rx h;obtain⟨k,e,q⟩:=h;have hl:=jC;have hs:Ε=16777216:=sizeLine_eq;cases x with
 |non=>cases rx;have e':k=Θ:=e;subst e';exact truthy_none ⟨H,I,q⟩
 |bl b=>cases rx;have e':k=b:=e;subst e';exact wpAny_truthy_bool ⟨H,I,q⟩
 |int i=>obtain⟨t,rfl⟩:=rx;have e':k=(i != 0):=e;subst e';exact PySem.P.truthy_int ⟨H,I,q⟩
 |str y=>obtain⟨t,rfl⟩:=rx;obtain⟨hy,e'⟩:y.length<=Ε/\k=((y.length:Int) != 0):=e;subst e';exact PySem.P.truthy_str (by omega) ⟨H,I.tok _,q⟩
 |byt y=>obtain⟨t,rfl⟩:=rx;obtain⟨hy,e'⟩:y.size<=Ε/\k=((y.size:Int) != 0):=e;subst e';exact PySem.W.truthy_bytes (by omega) ⟨H,I.tok _,q⟩
 |ref p=>
  cases rx;have e':(∃xs,SqL X.K H p xs/\k = !xs.isEmpty)∨(∃xs,SqT X.K H p xs/\k = !xs.isEmpty)∨∃kvs,H p=Γ (.dK kvs)/\k = !kvs.isEmpty:=e;rcases e' with⟨xs,hx,e'⟩|⟨xs,hx,e'⟩|⟨kvs,hx,e'⟩
  ·subst e';obtain⟨its,r,pl,hz⟩:=I.list hx;have hlen:=r.length;exact wpAny_truthy_list pl.isList (by simp only[zU];omega) ⟨H,I.tok _,by rw[jB r];exact q⟩
  ·subst e';obtain⟨its,r,pl,hz⟩:=I.tuple hx;have hlen:=r.length;exact truthy_tuple pl (by simp only[zU];omega) ⟨H,I.tok _,by rw[jB r];exact q⟩
  ·subst e';obtain⟨hz,hS,vs,r,m⟩:kvs.length<=Ε/\(p == sysModules)=Θ/\∃vs,KV kvs vs/\s.heap.DictOf (jv X.prog X.w) p vs:=I.hok p _ hx;have hlen:kvs.length=vs.length:=Paired.length r;exact wpAny_truthy_dict hS m (by omega) ⟨H,I.tok _,by rw[m7 r];exact q⟩
 |_=>exact(show False from e).elim
theorem ng:OpR X (binaryOp .Add) (fun x y H Q=>∃i j,x=.str i/\y=.str j/\i.length+j.length<=Ε/\Q (.str (i++j)) H):=by intro pins s σ H x y v u Q I rx ry h;obtain⟨i,j,rfl,rfl,hz,q⟩:=h;obtain⟨t,rfl⟩:=rx;obtain⟨t',rfl⟩:=ry;exact add_str (fun t' tk=>⟨.str (i++j),H,I.tok _,⟨_,rfl⟩,q⟩) hz
theorem vals1 {x:V}{us:List Φ}(r:Vals [x] us):∃u,us=[u]/\RelV x u:=by
 cases r with
 |cons r1 r2=>cases r2;exact⟨_,rfl,r1⟩
theorem vals2 {x y:V}{us:List Φ}(r:Vals [x,y] us):∃u w',us=[u,w']/\RelV x u/\RelV y w':=by
 cases r with
 |cons r1 r2=>
  cases r2 with
  |cons r3 r4=>cases r4;exact⟨_,_,rfl,r1,r3⟩
theorem pY:f6 X (.builtin "abs") (fun xs H Q=>∃i,xs=[.int i]/\Q (.int (if i < 0 then -i else i)) H):=by intro pins s σ H xs us Q I r h;obtain⟨i,rfl,q⟩:=h;obtain⟨u,rfl,t,rfl⟩:=vals1 r;exact call_abs_int fun u tk=>⟨.int (if i < 0 then -i else i),H,I.tok _,⟨_,rfl⟩,q⟩
theorem oY (hc:X.calm=Δ):f6 X (.builtin "max") (fun xs H Q=>∃i j,xs=[.int i,.int j]/\Q (.int (if j > i then j else i)) H):=by
 intro pins s σ H xs us Q I r h;obtain⟨i,j,rfl,q⟩:=h;obtain⟨u,w',rfl,⟨t,rfl⟩,⟨t',rfl⟩⟩:=vals2 r;refine max_two_ints (I.ok.hd hc) fun h' tk k=>⟨_,H,I.kept k,?_,q⟩
 by_cases hj:j > i
 ·rw[d_ hj,d_ hj];exact⟨_,rfl⟩
 ·rw[c_ hj,c_ hj];exact⟨_,rfl⟩
theorem oZ (hc:X.calm=Δ):f6 X (.builtin "min") (fun xs H Q=>∃i j,xs=[.int i,.int j]/\Q (.int (if j < i then j else i)) H):=by
 intro pins s σ H xs us Q I r h;obtain⟨i,j,rfl,q⟩:=h;obtain⟨u,w',rfl,⟨t,rfl⟩,⟨t',rfl⟩⟩:=vals2 r;refine min_two_ints (I.ok.hd hc) fun h' tk k=>⟨_,H,I.kept k,?_,q⟩
 by_cases hj:j < i
 ·rw[d_ hj,d_ hj];exact⟨_,rfl⟩
 ·rw[c_ hj,c_ hj];exact⟨_,rfl⟩
theorem kz:f6 X (.type "int") (fun xs H Q=>(∃i,xs=[.int i]/\Q (.int i) H)∨∃k,xs=[.bl k]/\Q (.int (if k then 1 else 0)) H):=by
 intro pins s σ H xs us Q I r h;rcases h with⟨i,rfl,q⟩|⟨k,rfl,q⟩
 ·obtain⟨u,rfl,t,rfl⟩:=vals1 r;exact call_int_int ⟨.int i,H,I,⟨_,rfl⟩,q⟩
 ·obtain⟨u,rfl,r1⟩:=vals1 r;cases r1;exact call_int_bool ⟨.int (if k then 1 else 0),H,I.tok _,⟨_,rfl⟩,q⟩
theorem k6:f6 X (.type "str") (fun xs H Q=>∃i,xs=[.int i]/\i.natAbs.log2 < 1920/\Q (.str (toString i)) H):=by intro pins s σ H xs us Q I r h;obtain⟨i,rfl,hz,q⟩:=h;obtain⟨u,rfl,t,rfl⟩:=vals1 r;exact PySem.P.str_of_int hz ⟨.str _,H,I.tok _,⟨_,rfl⟩,q⟩
def zk (K:Frag)(x:V)(H:Hp)(n:Nat):Prop:=
 match x with
 |.str y=>y.length<=Ε/\n=y.length
 |.byt y=>y.size<=Ε/\n=y.size
 |.ref p=>(∃xs,SqL K H p xs/\n=xs.length)∨∃xs,SqT K H p xs/\n=xs.length
 |_=>False
theorem jD:f6 X (.builtin "len") (fun xs H Q=>∃x n,xs=[x]/\zk X.K x H n/\Q (.int n) H):=by
 intro pins s σ H xs us Q I r h;obtain⟨x,n,rfl,e,q⟩:=h;obtain⟨u,rfl,rx⟩:=vals1 r;have hl:=jC;have hs:Ε=16777216:=sizeLine_eq;cases x with
 |str y=>obtain⟨t,rfl⟩:=rx;obtain⟨hy,e'⟩:y.length<=Ε/\n=y.length:=e;subst e';exact len_str (by omega) ⟨.int _,H,I.tok _,⟨_,rfl⟩,q⟩
 |byt y=>obtain⟨t,rfl⟩:=rx;obtain⟨hy,e'⟩:y.size<=Ε/\n=y.size:=e;subst e';exact PySem.W.len_bytes (by omega) ⟨.int _,H,I.tok _,⟨_,rfl⟩,q⟩
 |ref p=>
  cases rx;have e':(∃xs,SqL X.K H p xs/\n=xs.length)∨∃xs,SqT X.K H p xs/\n=xs.length:=e;rcases e' with⟨xs,hx,e'⟩|⟨xs,hx,e'⟩
  ·subst e';obtain⟨its,r',pl,hz⟩:=I.list hx;have hlen:=r'.length;exact Calls.call_len_list pl.isList (by simp only[zU];omega) ⟨.int xs.length,H,I.tok _,⟨_,by simp only[zU];rw[hlen]⟩,q⟩
  ·subst e';obtain⟨its,r',pl,hz⟩:=I.tuple hx;have hlen:=r'.length;exact len_tuple pl (by simp only[zU];omega) ⟨.int xs.length,H,I.tok _,⟨_,by simp only[zU];rw[hlen]⟩,q⟩
 |_=>exact(show False from e).elim
end
structure Room (k:Nat)(A:Η):Prop where
 hd:k < 1000->A.handled=Ξ
 dp:A.depth+3*(k % 1000)+5 < recursionLimit
 un:A.units+16*(k % 1000)+200 < cLine
theorem Room.deeper {k:Nat}{A:Η}(r:Room (k+1) A)(env:Env)(hk:k % 1000≠999):Room k (A.deeper env):=
 ⟨fun z=>r.hd (by omega),by have:=r.dp;show A.depth+1+3*(k % 1000)+5 < _;omega,by have:=r.un;show A.units+3+16*(k % 1000)+200 < _;omega⟩
theorem Room.depth {k:Nat}{A:Η}(r:Room k A):A.depth < recursionLimit:=by have:=r.dp;omega
def pZ:TA:=fun _ H Q=>Q [] H
def jE (ta:TE)(tr:TA):TA:=fun σ H Q=>ta σ H fun x H1=>tr σ H1 fun xs H2=>Q (x::xs) H2
section
variable {X:Cx}{e:Expr}{es:List Expr}{te:TE}{t:TA}{pos:Pos}
theorem gK:PA X [] pZ:=fun _ _ _ _ H Q I h=>Calls.spliced_nil ⟨[],H,I,.nil,h⟩
theorem fM (ha:PE X e te)(hr:PA X es t)(hs:Μ (e::es) X.env=(Θ,eval e X.env)::Μ es X.env:=by rfl):PA X (e::es) (jE te t):=by intro pos pins s σ H Q I h;rw[hs];show Ι _ _ (spliced ((Θ,eval e X.env)::backTo pos (Μ es X.env))) _ _ s;refine Calls.spliced_cons (thn (ha pins s σ H _ I h) fun u s1 ⟨x,H1,I1,r1,q1⟩=>?_);exact thn (hr pos pins s1 σ H1 _ I1 q1) fun us s2 ⟨xs,H2,I2,r2,q2⟩=>⟨x::xs,H2,I2,.cons r1 r2,q2⟩
def zl (t:TA):TE:=fun σ H Q=>t σ H fun xs H1=>xs.length<=Ε/\∀p,H1 p=Ξ->Q (.ref p) (upd H1 p (.tup xs))
def zm (t:TA):TE:=fun σ H Q=>t σ H fun xs H1=>xs.length<=Ε/\∀p,H1 p=Ξ->Q (.ref p) (upd H1 p (.lst xs))
theorem nh {x1}(h:PA X es t):PE X (.Tuple es x1 pos) (zl t):=by intro pins s σ H Q I hq;refine wpAny_Tuple_spliced (thn (h pos pins s σ H _ I hq) fun us s1 ⟨xs,H1,I1,r,z,q⟩=>⟨by rw[<- r.length];exact z,?_⟩);have hf:H1 s1.heap.objs.size=Ξ:=I1.hok.fresh (k_ _);refine⟨.ref s1.heap.objs.size,upd H1 s1.heap.objs.size (.tup xs),I1.laid (t':=s1.toks) (fun b u e=>v_ _ e) (k_ _) ?_,rfl,q _ hf⟩;exact⟨z,us,r,⟨_,Aa _ rfl,rfl,_,rfl⟩⟩
theorem p4 (h:PA X es t):PE X (.List es pos) (zm t):=by intro pins s σ H Q I hq;refine wpAny_List_spliced (thn (h pos pins s σ H _ I hq) fun us s1 ⟨xs,H1,I1,r,z,q⟩=>⟨by rw[<- r.length];exact z,?_⟩);have hf:H1 s1.heap.objs.size=Ξ:=I1.hok.fresh (k_ _);refine⟨.ref s1.heap.objs.size,upd H1 s1.heap.objs.size (.lst xs),I1.laid (t':=s1.toks) (fun b u e=>v_ _ e) (k_ _) ?_,rfl,q _ hf⟩;exact⟨z,us,0,r,Aa _ rfl⟩
end
abbrev Sp:=List V->Hp->VK->XK->Prop
abbrev CXT:=List Env->Hp->Ω->XK->Φ->Ω->Prop
structure Env0 (P:Β)(w:Α)(K:Frag)(mg:Str->Option Φ)(base:Heap)(A:Η)(outer:List Env)(s:Ω)(H:Hp):Prop where
 frames:A.frames=Γ outer
 mod:Mod K mg base
 bs:∀b o,base.get? b=Γ o->s.heap.get? b=Γ o/\H b=Ξ
 bsz:base.objs.size<=s.heap.objs.size
 funs:s.heap.FunFrames base outer
 frf:∀b∈frs outer,H b=Ξ
 hok:HOk P w H s.heap
 bare:AllBare s.gens
def CE (outer:List Env)(P:Β)(w:Α)(H:Hp)(s:Ω)(Q:VK)(u:Φ)(s':Ω):Prop:=
 ∃v H',s'.os=s.os/\AllBare s'.gens/\Un (frs outer) [] H H' s.heap s'.heap/\HOk P w H' s'.heap/\RelV v u/\Q v H'
def CR (CX:CXT)(outer:List Env)(P:Β)(w:Α)(H:Hp)(s:Ω)(Q:VK)(E:XK)(r:Result)(s':Ω):Prop:=
 match r with
 |.ok (.ret u)=>CE outer P w H s Q u s'
 |.ok _=>False
 |.error e=>CX outer H s E e s'
structure FnOk (P:Β)(w:Α)(K:Frag)(mg:Str->Option Φ)(base:Heap)(CX:CXT)(k:Nat)(f:Ψ)(fd:Ν)(ps:List Str)(sp:Sp):Prop where
 len:∀vs H Q E,sp vs H Q E->vs.length=ps.length
 run:∀(A:Η) (outer:List Env) (s:Ω) (H:Hp) (args:Args) (us:List Φ) (vs:List V) (Q:VK) (E:XK),Room k A->Env0 P w K mg base A outer s H->BindsTo s fd args (ps.zip us)->Vals vs us->sp vs H Q E->
  codeAny (Κ P w) A (.call (.ref f) args) (CR CX outer P w H s Q E) s
section
variable {X:Cx}{pins:List (Ψ×Obj)}{σ:St}{H:Hp}{s s':Ω}
theorem Inv.env0 (I:Inv X pins σ H s):Env0 X.prog X.w X.K X.mg X.base X.A X.stack s H:=
 ⟨I.ok.frames,I.ok.mod,I.bs,Ad I.ok.bsz I.sz,I.stack,I.stkFree,I.hok,I.bare⟩
theorem Inv.after {Q:VK}{u:Φ}(I:Inv X pins σ H s)(h:CE X.stack X.prog X.w H s Q u s'):EP X pins σ Q u s':=by obtain⟨v,H',os,bare,un,hok,r,q⟩:=h;obtain⟨hh,g,d,t,os'⟩:=s';obtain rfl:os'=s.os:=os;exact⟨v,H',I.call (h':=hh) (g':=g) (d':=d) (t':=t) (ch:=[]) un hok bare (fun b z=>absurd z (by simp)),r,q⟩
end
def Binds (K:Frag)(fd:Ν)(ps:List Str)(ds:List Φ):Prop:=
 ∀(s:Ω) (us:List Φ),K.In s.heap->(us++ds).length=ps.length->BindsTo s fd ⟨us,[]⟩ (ps.zip (us++ds))
theorem Binds.all {K:Frag}{fd:Ν}{ps:List Str}(h:∀us:List Φ,us.length=ps.length->bindArgs fd ⟨us,[]⟩=pure (ps.zip us)):Binds K fd ps []:=fun s us _ hl=>by rw[Am]at hl ⊢;exact .of_eq (h us hl)
def Passes (CX:CXT)(X:Cx)(E:XK):Prop:=∀(pins:List (Ψ×Obj)) (σ:St) (H:Hp) (s:Ω) (e:Φ) (s':Ω),Inv X pins σ H s->CX X.stack H s E e s'->X.xe e s'
structure FnScope (N P:List Str)(sc:Scope):Prop where
 kind:sc.kind=.function
 co:sc.isCoroutine=Θ
 gen:sc.isGenerator=Θ
 nd:N.Nodup
 pre:N.take P.length=P
 par:∀x∈P,sc.names.lookup x=Γ .local∨sc.names.lookup x=Γ .cell
 nofree:∀y∈sc.names,y.2≠.free
theorem kD {kindOf:Str->Option NameKind}{x:Str}:∀ {binds:List (Str×Φ)}{m:Str->Option Φ},(∀v,(x,v)∉binds)->bindL kindOf binds m x=m x
 |[],_,_=>rfl
 | (n,v)::r,m,h=>by
  unfold bindL;rw[kD fun w hw=>h w (s_ _ hw)];split
  ·have:x≠n:=by rintro rfl;exact h v List.mem_cons_self
   simp[this]
  ·rfl
theorem kE {kindOf:Str->Option NameKind}{x:Str}:∀ {binds:List (Str×Φ)}{m:Str->Option Φ},(∀v,(x,v)∉binds)->bindC kindOf binds m x=m x
 |[],_,_=>rfl
 | (n,v)::r,m,h=>by
  unfold bindC;rw[kE fun w hw=>h w (s_ _ hw)];split
  ·rfl
  ·have:x≠n:=by rintro rfl;exact h v List.mem_cons_self
   simp[this]
theorem kF {kindOf:Str->Option NameKind}{x:Str}{v:Φ}:∀ {P:List Str}{vs:List Φ}{i:Nat}{m:Str->Option Φ},P.Nodup->P[i]? = Γ x->vs[i]? = Γ v->kindOf x=Γ .local->
  bindL kindOf (P.zip vs) m x=Γ v
 |[],_,_,_,_,h,_,_=>by simp at h
 |_::_,[],_,_,_,_,h,_=>by simp at h
 |p::P,w::vs,0,m,nd,h1,h2,hk=>by simp at h1 h2;subst h1;subst h2;show bindL kindOf ((p,w)::P.zip vs) m p=_;unfold bindL;rw[kD fun v hv=>(Ab.mp nd).1 (List.of_mem_zip hv).1,d_ hk];simp
 |p::P,w::vs,i+1,m,nd,h1,h2,hk=>by show bindL kindOf ((p,w)::P.zip vs) m x=_;unfold bindL;exact kF (i:=i) (Ab.mp nd).2 (by simpa using h1) (by simpa using h2) hk
theorem kG {kindOf:Str->Option NameKind}{x:Str}{v:Φ}:∀ {P:List Str}{vs:List Φ}{i:Nat}{m:Str->Option Φ},P.Nodup->P[i]? = Γ x->vs[i]? = Γ v->kindOf x≠Γ .local->
  bindC kindOf (P.zip vs) m x=Γ v
 |[],_,_,_,_,h,_,_=>by simp at h
 |_::_,[],_,_,_,_,h,_=>by simp at h
 |p::P,w::vs,0,m,nd,h1,h2,hk=>by simp at h1 h2;subst h1;subst h2;show bindC kindOf ((p,w)::P.zip vs) m p=_;unfold bindC;rw[kE fun v hv=>(Ab.mp nd).1 (List.of_mem_zip hv).1,c_ hk];simp
 |p::P,w::vs,i+1,m,nd,h1,h2,hk=>by show bindC kindOf ((p,w)::P.zip vs) m x=_;unfold bindC;exact kG (i:=i) (Ab.mp nd).2 (by simpa using h1) (by simpa using h2) hk
noncomputable def start (N:List Str)(vs:List V):St:=vs.map Γ++Ρ (N.length - vs.length) Ξ
noncomputable def g7 (CX:CXT)(P:Β)(w:Α)(K:Frag)(mg:Str->Option Φ)(base:Heap)(N:List Str)(qual:Str)(scope:Scope)(f:Ψ)(cd:Φ)(A:Η)(outer:List Env)(s:Ω)(H:Hp)(E:XK):Cx where
 prog:=P
 w:=w
 K:=K
 mg:=mg
 base:=base
 A:=A.deeper (envOfC qual scope s.heap.objs.size f cd)
 N:=N
 s₀:=s
 H₀:=H
 env:=envOfC qual scope s.heap.objs.size f cd
 outer:=outer
 stack:=envOfC qual scope s.heap.objs.size f cd::outer
 ex:=[]
 calm:=A.handled.isNone
 fn:=fun _=>Δ
 pn:=[]
 xe:=fun e s'=>Ι (Κ P w) (A.deeper (envOfC qual scope s.heap.objs.size f cd)) (leaving (envOfC qual scope s.heap.objs.size f cd) e) (fun _ s''=>CX outer H s E e s'') (fun e' s''=>CX outer H s E e' s'') s'
theorem me {sc:Scope}{n:Nat}{x:Str}(h:sc.names.lookup x=Γ .cell):∃c,(cellsFrom n sc.names []).lookup x=Γ c:=by have q:=PySem.W.cellsFrom_some sc.names n [] (.inl h);exact Option.isSome_iff_exists.mp q
theorem o4 {CX:CXT}{P:Β}{w:Α}{K:Frag}{mg:Str->Option Φ}{base:Heap}{N ps:List Str}{qual:Str}{scope:Scope}{f:Ψ}{cd:Φ}{A:Η}{outer:List Env}{s s1:Ω}{H:Hp}{E:XK}{us:List Φ}{vs:List V}
  (S:FnScope N ps scope) (e0:Env0 P w K mg base A outer s H) (hl:vs.length=ps.length) (r:Vals vs us)
  (x:InCallC s s.heap.objs.size (bindL (envOfC qual scope s.heap.objs.size f cd).kindOf (ps.zip us) fun _=>Ξ) (cellsFrom (s.heap.objs.size+1) scope.names []) (bindC (envOfC qual scope s.heap.objs.size f cd).kindOf (ps.zip us) fun _=>Ξ) s1) :
  Inv (g7 CX P w K mg base N qual scope f cd A outer s H E) [] (start N vs) H s1:=by
 have hpl:ps.length<=N.length:=by have:=congrArg List.length S.pre;rw[Aj]at this;omega
 obtain⟨h1,tk,rfl,hk⟩:=x.done;have noA:∀b:Ψ,b∉(g7 CX P w K mg base N qual scope f cd A outer s H E).ex:=fun b z=>absurd (show b∈([]:List Ψ) from z) (by simp)
 refine⟨⟨e0.mod,S.kind,rfl,rfl,k_ _,fun y z c h1 h2=>?_,fun y hy=>?_,fun y c _ h=>?_,fun h=>Option.isNone_iff_eq_none.mp h,Around.frames_deeper e0.frames,.inr ⟨rfl,rfl⟩,fun b z=>absurd z (noA b),e0.bs,e0.bsz,fun b _ _=>noA b,fun b z=>absurd z (noA b),e0.funs,e0.frf⟩,
  rfl,e0.bare,Un.kept hk,⟨_,x.toInCall.ns,fun i y v h1 h2 h3=>?_⟩,fun y c h=>⟨_,x.cell y c h⟩,e0.hok.fresh (k_ _),fun y c h=>?_,fun p hp=>absurd (show p∈([]:List (Ψ×Obj)) from hp) (by simp),e0.hok.kept hk,?_⟩
 ·exact name_of_addr x.apart (PySem.mem_of_lookup h1) (PySem.mem_of_lookup h2)
 ·have hy:scope.names.lookup y=Γ .cell∨scope.names.lookup y=Γ .free:=hy;rcases hy with hy|hy
  ·exact me hy
  ·exact absurd rfl (S.nofree _ (PySem.mem_of_lookup hy))
 ·exact Nat.le_of_lt (x.above y c (PySem.mem_of_lookup h))
 ·have hi:i < vs.length:=by
   unfold start at h2;by_cases hi:i < vs.length
   ·exact hi
   ·rw[List.getElem?_append_right (by simpa using hi)]at h2;rw[List.getElem?_replicate]at h2;split at h2<;>cases h2
  have ha:vs[i]? = Γ v:=by
   unfold start at h2;rw[Ay (by simpa using hi),Ac]at h2;cases e:vs[i]? with
   |none=>rw[e]at h2;cases h2
   |some a=>rw[e]at h2;cases h2;rfl
  obtain⟨u,hu,rv⟩:=r.get ha;have hp:ps[i]? = Γ y:=by rw[<- S.pre,List.getElem?_take_of_lt (by omega)];exact h1
  have ndP:ps.Nodup:=by rw[<- S.pre];exact S.nd.sublist (List.take_sublist _ _)
  refine⟨u,rv,?_⟩;rcases S.par y (Af hp) with k|k
  ·exact .inl ⟨k,kF ndP hp hu k⟩
  ·obtain⟨c,e⟩:=me (n:=s.heap.objs.size+1) k;refine .inr ⟨.inl k,c,e,?_⟩;have q:=x.cell y c e;rw[kG ndP hp hu (by show scope.names.lookup y≠_;rw[k];decide)]at q;exact q
 ·exact e0.hok.fresh (Nat.le_of_lt (x.above y c (PySem.mem_of_lookup h)))
 ·unfold start;show _=N.length;rw[zW,h_,List.length_replicate];omega
theorem ur {CX:CXT}{P:Β}{w:Α}{K:Frag}{mg:Str->Option Φ}{base:Heap}{k:Nat}{f:Ψ}{name qual:Str}{params:Arguments}{body:List Stmt}{scope:Scope}{dV kV doc pm cdv ct oc:Φ}{an od:Option Ψ}
  {osl:Array (Option Φ)}{N ps:List Str}{sp:Sp} (lk:K.lookup f=Γ ⟨oc,od,.func (PySem.W.fnOf name qual params body scope dV kV doc pm an cdv ct),osl⟩) (hcd:PySem.W.codeIn K cdv qual=Δ) (S:FnScope N ps scope)
  (hk9:k % 1000≠999) (len:∀vs H Q E,sp vs H Q E->vs.length=ps.length)
  (hbody:∀(A:Η) (outer:List Env) (s:Ω) (H:Hp) (vs:List V) (Q:VK) (E:XK),Room k (A.deeper (envOfC qual scope s.heap.objs.size f cdv))->sp vs H Q E->
   ∃t,PSs (g7 CX P w K mg base N qual scope f cdv A outer s H E) body t/\t {nx:=fun _ H'=>Q .non H',rt:=Q} (start N vs) H) :
  FnOk P w K mg base CX (k+1) f (PySem.W.fnOf name qual params body scope dV kV doc pm an cdv ct) ps sp:=by
 refine⟨len,fun A outer s H args us vs Q E hr e0 hb r hsp=>?_⟩;have hl:=len _ _ _ _ hsp;have KX:K.In s.heap:=e0.mod.kin.keeps fun b o e=>(e0.bs b o e).1;have lim:s.heap.NoLimit:=e0.mod.nolimit.keeps fun b o e=>(e0.bs b o e).1;have hkind:∀y∈ps.zip us,scope.names.lookup y.1=Γ .local∨(scope.names.lookup y.1=Γ .cell/\((cellsFrom (s.heap.objs.size+1) scope.names []).lookup y.1).isSome=Δ):=fun⟨n,v⟩ hy=>by
  rcases S.par n (List.of_mem_zip hy).1 with q|q
  ·exact .inl q
  ·exact .inr ⟨q,PySem.W.cellsFrom_some _ _ _ (.inl q)⟩
 refine codeAny_call_function hr.depth (KX _ _ lk) rfl S.co S.gen rfl (PySem.W.codeRec_of KX hcd) (hb _ _ _ _ ?_);refine wpAny_newFunctionEnv_cells S.kind hkind fun env he s1 x=>?_;subst he;refine⟨lim.keeps x.toInCall.keep,codeAny_func ?_⟩;obtain⟨t,ht,hq⟩:=hbody A outer s H vs Q E (hr.deeper _ hk9) hsp;have I:Inv (g7 CX P w K mg base N qual scope f cdv A outer s H E) [] (start N vs) H s1:=o4 S e0 hl r x;refine wpAny_mono (ht [] s1 (start N vs) H _ I hq) (fun fl s' hs=>?_) fun e s' hs=>hs;have fin:∀ {σ':St}{H':Hp}{v:V}{u:Φ},Inv (g7 CX P w K mg base N qual scope f cdv A outer s H E) [] σ' H' s'->RelV v u->Q v H'->CE outer P w H s Q u s':=
  fun {σ' H' v u} J rv q=>⟨v,H',J.os,J.bare,J.base,J.hok,rv,q⟩
 cases fl with
 |ret u=>obtain⟨v,σ',H',J,rv,q⟩:=hs;exact fin J rv q
 |next=>obtain⟨σ',H',J,q⟩:=hs;exact fin (v:=V.non) (u:=Value.none) J rfl q
 |brk=>obtain⟨_,_,_,q⟩:=hs;exact False.elim q
 |cont=>obtain⟨_,_,_,q⟩:=hs;exact False.elim q
section
variable {X:Cx}{x:Str}{p pos:Pos}{e:Expr}{es:List Expr}{t:TA}{id T:String}{r:List V->Hp->VK->Prop}
def tCB (r:List V->Hp->VK->Prop)(t:TA):TE:=fun σ H Q=>t σ H fun vs H1=>r vs H1 Q
theorem iM (hc:f6 X (.builtin id) r)(hg:Gl X x)(hm:X.mg x=Ξ)(hv:bootBuiltins x=Γ (.builtin id))(ha:PA X (e::es) t)(hn:x≠"__name__":=by decide) (hdb:(x == ("__debug__" : Str))=Θ:=by decide)
  (he:Μ (e::es) X.env=(Θ,eval e X.env)::Μ es X.env:=by rfl) (hpl:(backTo pos (Μ es X.env)).any (·.1)=Θ:=by rfl):PE X (.Call (.Name x p) (e::es) [] pos) (tCB r t):=by
 intro pins s σ H Q I h;refine Au (i6 I hg hm hv ?_ hn hdb);exact PyProof.Rows.callWith_builtin1 (thn (ha pos pins s σ H _ I h) fun us s1 ⟨vs,H1,I1,r1,q1⟩=>hc pins s1 σ H1 vs us Q I1 r1 q1) he hpl
theorem kH (hc:f6 X (.type T) r)(hg:Gl X x)(hm:X.mg x=Ξ)(hv:bootBuiltins x=Γ (.type T))(ha:PA X (e::es) t)(hn:x≠"__name__":=by decide) (hdb:(x == ("__debug__" : Str))=Θ:=by decide)
  (he:Μ (e::es) X.env=(Θ,eval e X.env)::Μ es X.env:=by rfl) (hpl:(backTo pos (Μ es X.env)).any (·.1)=Θ:=by rfl):PE X (.Call (.Name x p) (e::es) [] pos) (tCB r t):=by
 intro pins s σ H Q I h;refine Au (i6 I hg hm hv ?_ hn hdb);exact PyProof.Rows.callWith_type1 (thn (ha pos pins s σ H _ I h) fun us s1 ⟨vs,H1,I1,r1,q1⟩=>hc pins s1 σ H1 vs us Q I1 r1 q1) he hpl
end
end L2
namespace HT
open PySem PyProof.Rows
section
variable {prog:Β}{w:Α}{A:Η}{E:Φ->Ω->Prop}{s:Ω}
noncomputable def sIx (n d:Nat):Option Int->Nat
 |none=>d
 |some v=>if v < 0 then(v+(n:Int)).toNat else min v.toNat n
end
end HT
namespace L2
open PySem PySem.Spec PyProof.Rows
abbrev TO:=St->Hp->(Option Int->Hp->Prop)->Prop
def PO (X:Cx)(e:Option Expr)(t:TO):Prop:=
 ∀(pins:List (Ψ×Obj)) (s:Ω) (σ:St) (H:Hp) (Q:Option Int->Hp->Prop),Inv X pins σ H s->t σ H Q->
  Ι (Κ X.prog X.w) X.A (evalPart e X.env) (fun u s'=>∃o H',Inv X pins σ H' s'/\IsPart u o/\Q o H') X.xe s
def sr:TO:=fun _ H Q=>Q Ξ H
def xu (t:TE):TO:=fun σ H Q=>t σ H fun x H1=>∃i,x=.int i/\Q (Γ i) H1
section
variable {X:Cx}{e:Expr}{te:TE}{lo hi:Option Expr}{tl th:TO}{pos p2:Pos}
theorem su:PO X Ξ sr:=by intro pins s σ H Q I h;rw[evalPart_none];exact q_ ⟨Ξ,H,I,.none,h⟩
theorem sv (h:PE X e te):PO X (Γ e) (xu te):=by intro pins s σ H Q I hw;rw[evalPart_some];refine thn (h pins s σ H _ I hw) fun u s1 ⟨x,H1,I1,r1,q1⟩=>?_;obtain⟨i,rfl,q⟩:=q1;obtain⟨t,rfl⟩:=r1;exact⟨Γ i,H1,I1,.int i t,q⟩
def SlR (X:Cx)(r:V->Option Int->Option Int->Hp->VK->Prop):Prop:=
 ∀(pins:List (Ψ×Obj)) (s:Ω) (σ:St) (H:Hp) (x:V) (v vl vu:Φ) (lo hi:Option Int) (sl:Ψ) (Q:VK),Inv X pins σ H s->RelV x v->s.heap.IsSliceOf sl vl vu .none->IsPart vl lo->IsPart vu hi->r x lo hi H Q->
  ∃T id,typeLookup (.type T) "__getitem__" = pure (Γ (.builtin id))/\s.TypeIs v T/\Ι (Κ X.prog X.w) X.A (getItem v (.ref sl)) (EP X pins σ Q) X.xe s
def tSl (r:V->Option Int->Option Int->Hp->VK->Prop)(te:TE)(tl th:TO):TE:=fun σ H Q=>te σ H fun x H1=>tl σ H1 fun l H2=>th σ H2 fun u H3=>r x l u H3 Q
theorem mf {r:V->Option Int->Option Int->Hp->VK->Prop}(hr:SlR X r)(he:PE X e te)(hl:PO X lo tl)(hu:PO X hi th):PE X (.Subscript e (.Slice lo hi Ξ p2) pos) (tSl r te tl th):=by intro pins s σ H Q I h;refine Subscript_ (thn (he pins s σ H _ I h) fun v s1 ⟨x,H1,I1,r1,q1⟩=>?_);refine wpAny_Slice (thn (hl pins s1 σ H1 _ I1 q1) fun vl s2 ⟨l,H2,I2,pl,q2⟩=>thn (hu pins s2 σ H2 _ I2 q2) fun vu s3 ⟨u,H3,I3,pu,q3⟩=>?_);rw[evalPart_none];refine q_ ?_;have I4:Inv X pins σ H3 {s3 with heap:=s3.heap.push {cls:=.type "slice",data:=.fields #[vl,vu,.none]}}:=I3.kept (t':=s3.toks) fun b ob q=>v_ _ q;obtain⟨T,id,hT,ht,hg⟩:=hr pins {s3 with heap:=s3.heap.push {cls:=.type "slice",data:=.fields #[vl,vu,.none]}} σ H3 x v vl vu l u s3.heap.objs.size Q I4 r1 (Heap.IsSliceOf.new ..) pl pu q3;show Ι (Κ X.prog X.w) X.A (subscriptTail e (.Slice lo hi Ξ p2) v (.ref s3.heap.objs.size)) (EP X pins σ Q) X.xe {s3 with heap:=s3.heap.push {cls:=.type "slice",data:=.fields #[vl,vu,.none]}};exact tail_any (ops:=[.ref s3.heap.objs.size,v]) ht hT hg (by with_unfolding_all rfl)
noncomputable def o5 (xs:List V)(lo hi:Option Int):List V:=(xs.drop (HT.sIx xs.length 0 lo)).take (HT.sIx xs.length xs.length hi - HT.sIx xs.length 0 lo)
theorem mh (xs:List V)(lo hi:Option Int):(o5 xs lo hi).length<=xs.length:=by unfold o5;rw[Aj,Ak];omega
end
noncomputable def ixN (n:Nat)(i:Int):Option Nat:=if 0<=i then(if i < n then Γ i.toNat else Ξ) else if -(n:Int)<=i then Γ (i+n).toNat else Ξ
noncomputable def atI {α:Type}(xs:List α)(i:Int):Option α:=(ixN xs.length i).bind fun j=>xs[j]?
theorem sx {n:Nat}{i:Int}{j:Nat}(h:ixN n i=Γ j):seqIndex? i n=Γ j/\j < n/\-(n:Int)<=i/\i < n:=by
 unfold ixN at h;by_cases h0:0<=i
 ·rw[d_ h0]at h;by_cases h1:i < n
  ·rw[d_ h1]at h;have e:i.toNat=j:=zZ h;exact⟨by rw[seqIndex_of h0 h1,e],by omega,by omega,h1⟩
  ·rw[c_ h1]at h;cases h
 ·rw[c_ h0]at h;by_cases h1 : -(n:Int)<=i
  ·rw[d_ h1]at h;have e:(i+n).toNat=j:=zZ h;exact⟨by rw[seqIndex_neg (by omega) h1,e],by omega,h1,by omega⟩
  ·rw[c_ h1]at h;cases h
theorem k7 {α:Type}{xs:List α}{i:Int}{v:α}(h:atI xs i=Γ v):∃j,seqIndex? i xs.length=Γ j/\xs[j]? = Γ v/\j < xs.length/\-(xs.length:Int)<=i/\i < xs.length:=by
 unfold atI at h;cases e:ixN xs.length i with
 |none=>rw[e]at h;cases h
 |some j=>rw[e]at h;obtain⟨h1,h2,h3,h4⟩:=sx e;exact⟨j,h1,h,h2,h3,h4⟩
def sy (b:Expr):Prop:=∀o i,subscripted b Θ o i=operate [o,i] (getItem o i)
def IxR (X:Cx)(r:R2):Prop:=
 ∀(value slice:Expr) (pins:List (Ψ×Obj)) (s:Ω) (σ:St) (H:Hp) (x y:V) (v u:Φ) (Q:VK),Inv X pins σ H s->RelV x v->RelV y u->r x y H Q->
  subscripted slice Θ v u=operate [v,u] (getItem v u)->Ι (Κ X.prog X.w) X.A (subscriptTail value slice v u) (EP X pins σ Q) X.xe s
def MtR (X:Cx)(id:String)(r:V->List V->Hp->VK->Prop):Prop:=
 ∀(pins:List (Ψ×Obj)) (s:Ω) (σ:St) (H:Hp) (x:V) (xs:List V) (v:Φ) (us:List Φ) (Q:VK),Inv X pins σ H s->RelV x v->Vals xs us->r x xs H Q->
  Ι (Κ X.prog X.w) X.A (call (.builtin id) (v::us)) (EP X pins σ Q) X.xe s
section
variable {X:Cx}{a b:Expr}{ta tb:TE}{pos:Pos}
theorem IxR.or {r r':R2}(h:IxR X r)(h':IxR X r'):IxR X (fun x y H Q=>r x y H Q∨r' x y H Q):=by
 intro value slice pins s σ H x y v u Q I rx ry q hs;rcases q with q|q
 ·exact h value slice pins s σ H x y v u Q I rx ry q hs
 ·exact h' value slice pins s σ H x y v u Q I rx ry q hs
theorem xw {r:R2}(hr:IxR X r)(ha:PE X a ta)(hb:PE X b tb)(hs:sy b):PE X (.Subscript a b pos) (tOp r ta tb):=by intro pins s σ H Q I h;exact Subscript_ (vj ha hb I h fun v u s2 x y H2 I2 rx ry q=>hr a b pins s2 σ H2 x y v u Q I2 rx ry q (hs _ _))
def xx (K:Frag):R2:=fun x y H Q=>∃p xs i v,x=.ref p/\y=.int i/\SqL K H p xs/\atI xs i=Γ v/\Q v H
def xy (K:Frag):R2:=fun x y H Q=>∃p xs i v,x=.ref p/\y=.int i/\SqT K H p xs/\atI xs i=Γ v/\Q v H
def xA:R2:=fun x y H Q=>∃z i c,x=.str z/\y=.int i/\z.length<=Ε/\atI z.cps.toList i=Γ c/\Q (.str ⟨#[c]⟩) H
theorem sA:IxR X (xx X.K):=by
 intro value slice pins s σ H x y v u Q I rx ry h hs;obtain⟨p,xs,i,z,rfl,rfl,hq,he,q⟩:=h;cases rx;obtain⟨t,rfl⟩:=ry;obtain⟨its,r,pl,hz⟩:=I.list hq;obtain⟨j,h1,h2,h3,h4,h5⟩:=k7 he;obtain⟨w,ew,rw'⟩:=r.get h2;have hl:=r.length;have hn:=jC;have fin:EP X pins σ Q w s:=⟨z,H,I,rw',q⟩
 by_cases h0:0<=i
 ·have hj:i.toNat=j:=by rw[seqIndex_of h0 h5]at h1;exact zZ h1
  exact item_listR pl.isList h0 (by omega) (by rw[hj];simpa using ew) fin hs
 ·have hj:(i+(its.toArray.size:Int)).toNat=j:=by rw[seqIndex_neg (by omega) h4]at h1;rw[zU,<- hl];exact zZ h1
  exact subscriptTail_builtinR (x:=w) pl.isList.typeIs slot_list_getitem.lookup
   (wpAny_getItem_list_neg (Q:=fun r s'=>r=w/\EP X pins σ Q r s') pl.isList (by omega) (by rw[zU]<;>omega) (by omega) (by rw[hj];simpa using ew) ⟨rfl,fin⟩) hs
theorem vx:IxR X (xy X.K):=by
 intro value slice pins s σ H x y v u Q I rx ry h hs;obtain⟨p,xs,i,z,rfl,rfl,hq,he,q⟩:=h;cases rx;obtain⟨t,rfl⟩:=ry;obtain⟨its,r,pl,hz⟩:=I.tuple hq;obtain⟨j,h1,h2,h3,h4,h5⟩:=k7 he;obtain⟨w,ew,rw'⟩:=r.get h2;have hl:=r.length;have hn:=jC;have fin:EP X pins σ Q w s:=⟨z,H,I,rw',q⟩
 exact subscriptTail_builtinR (x:=w) pl.typeIs slot_tuple_getitem.lookup
  (getItem_tuple (j:=j) (Q:=fun r s'=>r=w/\EP X pins σ Q r s') pl (by omega) (by omega) (by rw[zU,<- hl];exact h1) (by simpa using ew) ⟨rfl,fin⟩) hs
theorem vy:IxR X xA:=by
 intro value slice pins s σ H x y v u Q I rx ry h hs;obtain⟨z,i,c,rfl,rfl,hz,he,q⟩:=h;obtain⟨t,rfl⟩:=rx;obtain⟨t',rfl⟩:=ry;obtain⟨j,h1,h2,h3,h4,h5⟩:=k7 he;have hl:z.cps.toList.length=z.length:=by simp[Str.length]
 rw[hl]at h1 h4 h5;have hn:=jC
 exact tail_any (typeIs_str s z t) slot_str_getitem.lookup (getItem_str (c:=c) (by
  have e1:decide (i < -(2 ^ 63:Int))=Θ:=w_ (by omega);have e2:decide (i >= 2 ^ 63)=Θ:=w_ (by omega)
  rw[e1,e2,Bool.or_false]) (by rw[h1];simpa using h2) ⟨.str ⟨#[c]⟩,H,I.tok _,⟨_,rfl⟩,q⟩) hs
def rIx (K:Frag):R2:=fun x y H Q=>xx K x y H Q∨xy K x y H Q∨xA x y H Q
theorem vz:IxR X (rIx X.K):=sA.or (vx.or vy)
theorem k8 (lo hi:Option Int)(n:Nat):(sliceBounds lo hi Ξ n).1=((HT.sIx n 0 lo:Nat):Int)/\(sliceBounds lo hi Ξ n).2.1=((HT.sIx n n hi:Nat):Int)/\(sliceBounds lo hi Ξ n).2.2=1:=by
 refine⟨?_,?_,rfl⟩
 ·cases lo with
  |none=>simp[sliceBounds,HT.sIx]
  |some i=>
   simp only[sliceBounds,HT.sIx,Option.getD_none,show(1:Int) > 0 by decide,if_true];by_cases h:i < 0
   ·simp only[h,if_true]<;>omega
   ·simp only[h,if_false]<;>omega
 ·cases hi with
  |none=>simp[sliceBounds,HT.sIx]
  |some i=>
   simp only[sliceBounds,HT.sIx,Option.getD_none,show(1:Int) > 0 by decide,if_true];by_cases h:i < 0
   ·simp only[h,if_true]<;>omega
   ·simp only[h,if_false]<;>omega
theorem ki (its:List Φ)(lo hi:Option Int):slicePick its.toArray lo hi Ξ=((its.drop (HT.sIx its.length 0 lo)).take (HT.sIx its.length its.length hi - HT.sIx its.length 0 lo)).toArray:=by obtain⟨h1,h2,h3⟩:=k8 lo hi its.toArray.size;unfold slicePick;rw[h1,h2,h3];simp only[sliceRange_one,pick_run,zU]<;>rfl
def zo (K:Frag):V->Option Int->Option Int->Hp->VK->Prop:=fun x lo hi H Q=>∃a xs,x=.ref a/\SqL K H a xs/\∀p,H p=Ξ->Q (.ref p) (upd H p (.lst (o5 xs lo hi)))
theorem nT:SlR X (zo X.K):=by intro pins s σ H x v vl vu lo hi sl Q I rx hs pl pu h;obtain⟨a,xs,rfl,hx,q⟩:=h;cases rx;obtain⟨its,r,ht,hz⟩:=I.list hx;have hlen:=r.length;refine⟨"list",_,slot_list_getitem.lookup,ht.isList.typeIs,?_⟩;refine wpAny_getItem_list_slice ht.isList hs pl pu .none (by simp) ?_ (by rw[zU]<;>omega);rw[ki,<- hlen];refine⟨.ref s.heap.objs.size,_,I.laid (t':=s.toks) (o:=.lst (o5 xs lo hi)) (fun b ob q=>v_ _ q) (k_ _) ?_,rfl,q _ (I.hok.fresh (k_ _))⟩;exact⟨Ad (mh xs lo hi) hz,_,0,(r.drop (HT.sIx xs.length 0 lo)).take (HT.sIx xs.length xs.length hi - HT.sIx xs.length 0 lo),Aa _ rfl⟩
theorem gY:f6 X (.type "list") (fun xs H Q=>∃p ys,xs=[.ref p]/\(SqL X.K H p ys∨SqT X.K H p ys)/\∀l,H l=Ξ->Q (.ref l) (upd H l (.lst ys))):=by
 intro pins s σ H xs us Q I r h;obtain⟨p,ys,rfl,hq,q⟩:=h;obtain⟨u,rfl,rx⟩:=vals1 r;cases rx;have fin:∀(its:List Φ),Vals ys its->ys.length<=Ε->∀(h':Heap) (c':Nat),(∀b o',s.heap.get? b=Γ o'->h'.get? b=Γ o')->
   h'.get? s.heap.objs.size=Γ {cls:=.type "list",dict:=Ξ,data:=.seq its.toArray c',slots:=#[]}->EP X pins σ Q (.ref s.heap.objs.size) {s with heap:=h'}:=fun its r' hz h' c' kp e=>
  ⟨.ref s.heap.objs.size,_,I.laid (t':=s.toks) kp (k_ _) (show fN X.prog X.w _ h' _ (.lst ys) from⟨hz,its,c',r',e⟩),rfl,q _ (I.hok.fresh (k_ _))⟩
 rcases hq with hq|hq
 ·obtain⟨its,r',pl,hz⟩:=I.list hq;have hlen:=r'.length;obtain⟨o,ho,hc,n,hd⟩:=pl.isList;exact call_list_seq p (.inl rfl) ho hc hd (fun h' c' kp e=>fin its r' hz h' c' kp e) (by simp only[zU]<;>omega)
 ·obtain⟨its,r',pl,hz⟩:=I.tuple hq;have hlen:=r'.length;obtain⟨o,ho,hc,n,hd⟩:=pl;exact call_list_seq p (.inr rfl) ho hc hd (fun h' c' kp e=>fin its r' hz h' c' kp e) (by simp only[zU]<;>omega)
theorem kj:f6 X (.type "tuple") (fun xs H Q=>∃p ys,xs=[.ref p]/\((SqL X.K H p ys/\∀l,H l=Ξ->Q (.ref l) (upd H l (.tup ys)))∨(SqT X.K H p ys/\Q (.ref p) H))):=by
 intro pins s σ H xs us Q I r h;obtain⟨p,ys,rfl,h⟩:=h;obtain⟨u,rfl,rx⟩:=vals1 r;cases rx;rcases h with⟨hq,q⟩|⟨hq,q⟩
 ·obtain⟨its,r',pl,hz⟩:=I.list hq;have hlen:=r'.length;refine call_tuple_list pl.isList (fun h' kp=>?_) (by simp only[zU]<;>omega);have I1:Inv X pins σ H {s with heap:=h'}:=I.kept (t':=s.toks) kp;have I2:Inv X pins σ (upd H h'.objs.size (.tup ys)) {s with heap:=h'.push {cls:=.type "tuple",data:=.seq its.toArray}}:=
   I1.laid (t':=s.toks) (fun b o e=>v_ _ e) (k_ _) (show fN X.prog X.w _ _ _ (.tup ys) from⟨hz,its,r',IsTup.new _ _⟩)
  exact⟨.ref h'.objs.size,_,I2,rfl,q _ (I1.hok.fresh (k_ _))⟩
 ·obtain⟨its,r',pl,hz⟩:=I.tuple hq;exact call_tuple_same pl ⟨.ref p,H,I,rfl,q⟩
def tyV (K:Frag)(T:String)(x:V)(H:Hp):Prop:=match x with
 |.str _=>T = "str"
 |.int _=>T = "int"
 |.ref p=>(T = "list"/\∃xs,SqL K H p xs)∨(T = "tuple"/\∃o,K.lookup p=Γ o/\o.cls=.type "tuple"/\o.dict=Ξ)∨
   (T = "dict"/\((∃kvs,H p=Γ (.dK kvs))∨∃kvs,H p=Γ (.dT kvs)))∨(T = "set"/\∃S n,H p=Γ (.set S n))
 |_=>False
theorem vA {pins:List (Ψ×Obj)}{σ:St}{H:Hp}{s:Ω}{T:String}{x:V}{v:Φ}(I:Inv X pins σ H s)(r:RelV x v)(ty:tyV X.K T x H) :
  s.TypeIs v T/\∀a,v=.ref a->∃ob,s.heap.get? a=Γ ob/\ob.dict=Ξ:=by
 cases x with
 |str z=>obtain⟨t,rfl⟩:=r;cases(show T = "str" from ty);exact⟨typeIs_str s z t,fun _ e=>nomatch e⟩
 |int i=>obtain⟨t,rfl⟩:=r;cases(show T = "int" from ty);exact⟨typeIs_int s i t,fun _ e=>nomatch e⟩
 |ref p=>
  cases r;rcases ty with⟨rfl,xs,hq⟩|⟨rfl,o,hk,hc,hd⟩|⟨rfl,hk⟩|⟨rfl,S,n,hk⟩
  ·obtain⟨its,_,pl,_⟩:=I.list hq;refine⟨pl.isList.typeIs,fun a e=>?_⟩;cases e;obtain⟨o,n,e,c,hd,_⟩:=pl;exact⟨o,e,hd⟩
  ·refine⟨⟨o,I.kIn p o hk,hc⟩,fun a e=>?_⟩;cases e;exact⟨o,I.kIn _ o hk,hd⟩
  ·have z:∃o,s.heap.get? p=Γ o/\o.ExactDict:=by
    rcases hk with⟨kvs,hk⟩|⟨kvs,hk⟩
    ·obtain⟨_,_,_,_,o,_,_,e,ex,_⟩:=I.hok p _ hk;exact⟨o,e,ex⟩
    ·obtain⟨_,_,_,_,o,_,_,e,ex,_⟩:=I.hok p _ hk;exact⟨o,e,ex⟩
   obtain⟨o,e,ex⟩:=z;refine⟨⟨o,e,ex.1⟩,fun a e2=>?_⟩;cases e2;exact⟨o,e,ex.2.1⟩
  ·obtain⟨o,_,_,_,e,ex,_⟩:=I.hok p _ hk;refine⟨⟨o,e,ex.1⟩,fun a e2=>?_⟩;cases e2;exact⟨o,e,ex.2.1⟩
 |_=>exact False.elim ty
def tBM (K:Frag)(T:String)(r:V->List V->Hp->VK->Prop)(to:TE)(t:TA):TE:=fun σ H Q=>to σ H fun x H1=>tyV K T x H1/\t σ H1 fun xs H2=>r x xs H2 Q
variable {o e:Expr}{es:List Expr}{to:TE}{t:TA}{name:Str}{apos cpos:Pos}{T id:String}{r:V->List V->Hp->VK->Prop}
theorem nU (pa:PlainAttrs T)(slot:Slot T name id)(hty:typeOf (.builtin id)=pure (.type "method_descriptor")) (hm:MtR X id r) (ho:PE X o to) (ha:PA X (e::es) t)
  (hbase:attributeBase o name X.env (eval o X.env)=eval o X.env:=by rfl)
  (hfew:((backTo cpos (Μ (e::es) X.env)).all (fun x=>!x.1)&&(backToKw cpos (keywordEach [] X.env)).all (fun x=>x.1.isSome)
  &&decide ((e::es).length+([]:List Keyword).length+(if([]:List Keyword).isEmpty then 0 else 1) < 30))=Δ:=by rfl)
  (hline:(apos.endLine == cpos.line)=Δ:=by rfl) (hs:Μ (e::es) X.env=(Θ,eval e X.env)::Μ es X.env:=by rfl) (hplain:(backTo cpos (Μ es X.env)).any (·.1)=Θ:=by rfl) :
  PE X (.Call (.Attribute o name apos) (e::es) [] cpos) (tBM X.K T r to t):=by
 intro pins s σ H Q I h;refine wpAny_Call_method_late hbase hfew hline rfl (thn (ho pins s σ H _ I h) fun v s1 ⟨x,H1,I1,r1,ty,q1⟩=>?_);obtain⟨h1,h2⟩:=vA I1 r1 ty;refine⟨T,id,pa,slot,hty,h1,h2,?_⟩;have hA:=ha cpos pins s1 σ H1 _ I1 q1;rw[hs]at hA ⊢;refine Calls.callWith_builtin (by show(Θ||(backTo cpos (Μ es X.env)).any (·.1))=Θ;rw[hplain]<;>rfl) (Calls.evalArgs_plain ?_);exact thn hA fun us s2 ⟨vs,H2,I2,r2,q2⟩=>hm pins s2 σ H2 x vs v us Q I2 r1 r2 q2
end
def MtM (X:Cx)(id:String)(r:V->List V->Hp->VK->Prop):Prop:=
 ∀(pins:List (Ψ×Obj)) (s:Ω) (σ:St) (H:Hp) (x:V) (xs:List V) (v:Φ) (us:List Φ) (Q:VK),Inv X pins σ H s->RelV x v->Vals xs us->r x xs H Q->
  Ι (Κ X.prog X.w) X.A (call (.builtin id) (v::us)) (EP X pins σ Q) X.xe s
theorem Vals.one:∀ {x:V}{us:List Φ},Vals [x] us->∃u,us=[u]/\RelV x u
 |_,_,.cons r .nil=>⟨_,rfl,r⟩
theorem Vals.rep {xs:List V}{us:List Φ}(h:Vals xs us):∀k:Nat,Vals (Ρ k xs).flatten (Ρ k us).flatten
 |0=>.nil
 |k+1=>by rw[List.replicate_succ,List.replicate_succ,List.flatten_cons,List.flatten_cons];exact Vals.append h (Vals.rep h k)
theorem foldl_rep (its:List Φ):∀(k:Nat) (acc:List Φ),
  List.foldl (fun x1 x2=>x1++x2) acc.toArray (Ρ k its.toArray)=(acc++(Ρ k its).flatten).toArray
 |0,acc=>by simp
 |k+1,acc=>by
  have e:acc.toArray++its.toArray=(acc++its).toArray:=by simp
  have e2:(acc++its)++(Ρ k its).flatten=acc++(Ρ (k+1) its).flatten:=by rw[List.replicate_succ,List.flatten_cons,z_]
  rw[<- e2,<- foldl_rep its k (acc++its),<- e,List.replicate_succ,List.foldl_cons]
section
variable {X:Cx}{pins:List (Ψ×Obj)}{σ:St}{H:Hp}{s:Ω}{l b:Ψ}{xs ys zs:List V}
theorem Inv.lset {its its':List Φ}{n:Nat}{f:Array Φ->Array Φ}{t':Nat}(I:Inv X pins σ H s)(hH:H l=Γ (.lst xs))
  (e:s.heap.get? l=Γ {cls:=.type "list",data:=.seq its.toArray n}) (hf:f its.toArray=its'.toArray) (hv:Vals ys its') (hz:ys.length<=Ε) :
  Inv X pins σ (upd H l (.lst ys)) {s with heap:=s.heap.update l (θ f),toks:=t'}:=by
 have q:=PySem.IsL.update e f;rw[hf]at q;refine I.write (x:=l) (e:=l) (by rw[hH];exact trivial) (.inl rfl) (fun b' u hb hu=>(An s.heap (θ f) (Ne.symm hb)).trans hu) ⟨_,q⟩ ?_;exact⟨hz,its',_,hv,q⟩
theorem Inv.lnew {its:List Φ}{t':Nat}(I:Inv X pins σ H s)(hv:Vals ys its)(hz:ys.length<=Ε) :
  Inv X pins σ (upd H s.heap.objs.size (.lst ys)) {s with heap:=s.heap.push {cls:=.type "list",data:=.seq its.toArray},toks:=t'}:=
 I.laid (fun _ _ q=>v_ _ q) (k_ _) ⟨hz,its,0,hv,Aa _ rfl⟩
theorem Inv.fresh (I:Inv X pins σ H s):H s.heap.objs.size=Ξ:=I.hok.fresh (k_ _)
theorem Inv.lstM (I:Inv X pins σ H s)(hH:H l=Γ (.lst xs)):xs.length<=Ε/\∃(its:List Φ) (n:Nat),Vals xs its/\xs.length=its.length/\s.heap.get? l=Γ {cls:=.type "list",data:=.seq its.toArray n}:=by obtain⟨z,its,n,r,e⟩:=I.hok l _ hH;exact⟨z,its,n,r,r.length,e⟩
theorem p5 {n:Nat}(h:n<=Ε):Builtin.List.listTooLong n=Θ:=by unfold Builtin.List.listTooLong;exact w_ (by omega)
end
section
variable {X:Cx}
def sC:V->List V->Hp->VK->Prop:=fun x vs H Q=>∃l xs y,x=.ref l/\vs=[y]/\H l=Γ (.lst xs)/\xs.length < Ε/\Q .non (upd H l (.lst (xs++[y])))
theorem kI:MtM X "list.append" sC:=by intro pins s σ H x vs v us Q I rx rv h;obtain⟨l,xs,y,rfl,rfl,hH,hz,q⟩:=h;cases rx;obtain⟨u,rfl,ru⟩:=rv.one;obtain⟨z,its,n,r,hl,e⟩:=I.lstM hH;refine call_meets F.slot_list_append ⟨_,e,rfl⟩ F.entry_list_append (F.args_list_append_2 _ _) (PySem.list_append l its.toArray n u (by rw[zU];omega)) ⟨e,?_⟩;refine⟨.non,_,I.lset (its':=its++[u]) hH e (by simp) (r.append (.cons ru .nil)) ?_,rfl,q⟩;rw[zW,Av];omega
theorem len_rep {α:Type}(xs:List α)(k:Nat):(Ρ k xs).flatten.length=k*xs.length:=by
 induction k with
 |zero=>simp
 |succ k ih=>rw[List.replicate_succ,List.flatten_cons,zW,ih,Nat.succ_mul,Nat.add_comm]
end
end L2
namespace Att
open PySem PySem.W PySem.Calls PyProof.Rows
theorem jr {P:Params}{h:Heap}:∀(ns:List Int) (vs:List Φ),WellAll P h vs (ns.map WData.int)->IntsAre vs ns:=by
 intro ns
 induction ns with
 |nil=>intro vs w;rw[List.map_nil]at w;cases w;exact .nil
 |cons n ns ih=>
  intro vs w;rw[a_]at w;cases w with
  |cons a b=>cases a;exact .cons _ _ (ih _ b)
theorem o6 {l:OpenLaw}{n:Nat}(hn:l.most=Γ n){P:Params}{h:Heap}{args:List WData}{vals:List Φ}
  (hpre:l.row.toRowW.claim.pre args=Δ) (hwl:WellAll P h vals args) :
  ∃a vs ns,vals=[η a]/\args=[WData.list (ns.map WData.int)]/\h.get? a=Γ {cls:=.type "list",data:=.seq vs.toArray}/\IntsAre vs ns/\ns.length<=n:=by
 have hsh:WShape.hasAll [] args [.list .int]=Δ:=(pre_splitW hpre).1;have hc:l.pre.holds [] {args:=args} = Δ:=(pre_splitW hpre).2;obtain⟨d,r,rfl,h1,h2⟩:=hasAllW_cons hsh;obtain rfl:=hasAllW_nil h2;obtain⟨xs,rfl,h3⟩:=hasW_list h1;obtain⟨ns,rfl⟩:=items_int h3;have hlen:ns.length<=n:=by
  unfold OpenLaw.pre at hc;have h4:(WTm.not (.lt (.lit (.int (n:Int))) (.len (.arg 0)))).holds [] {args:=[.list (ns.map .int)]} = Δ:=by have h4:=(holds_andW hc).1;rw[hn]at h4;exact h4
  have h5:=condW_of h4 (w_not (w_lt w_lit (w_len_list (w_arg rfl))));rw[h_]at h5;refine Nat.le_of_not_lt fun q=>?_;have q':(n:Int) < ((ns.length:Nat):Int):=by omega
  first
   | (rw[l_ q']at h5;exact absurd h5 (by decide))
   | (simp at h5;omega)
 cases hwl with
 |cons w1 w2=>
  cases w2;cases w1 with
  |list ho hall=>exact⟨_,_,ns,rfl,rfl,ho,jr ns _ hall,hlen⟩
theorem o7 (l:OpenLaw)(args:List WData):l.row.toRowW.claim.post args (.bool Δ) args=Δ:=
 postW_of (r:=l.row.toRowW) (X:=(Δ == Δ))
  (show WShape.has [] (.bool Δ) .bool=Δ by first|rfl|decide|simp[WShape.has,WShape.arms,WShape.armsAll])
  (show(WTm.eq .res (.lit (.bool Δ))).value [] {args:=args,res:=Γ (.bool Δ),after:=args} = Γ (.bool (Δ == Δ)) from w_eq_bool (w_res rfl) w_lit) rfl
theorem attach_call {l:OpenLaw}{n:Nat}{q:Β}{loose:List Str}{XP:(Str->Option Φ)->Heap->Prop}{YP:Α->Heap->Prop}{d:DefRec}
  (hn:l.most=Γ n) (hdf:d.params.defaults=[])
  (call:∀(w:Α) (s₀ s₁:Ω) (mg mb:Str->Option Φ) (fa:Ψ) (o:Obj) (pm cd doc:Φ) (a:Ψ) (vs:List Φ) (ns:List Int),
   Ground q loose [] XP w s₀ mg mb s₁.heap->YP w s₁.heap->
   s₁.heap.get? fa=Γ o->o.data=.func (docDef d.name d.params d.body d.scope pm cd doc)->s₁.heap.CodeRec cd d.name->mg d.name=Γ (.ref fa)->
   s₁.heap.get? a=Γ {cls:=.type "list",data:=.seq vs.toArray}->IntsAre vs ns->ns.length<=n->s₁.gens = #[]->
   codeAny (Κ l.prog w) callerA (.call (.ref fa) ⟨[.ref a],[]⟩) (fun r s'=>r=.ok (.ret (.bool Δ))/\OldK s₁.heap s'.heap/\s'.os=s₁.os/\AllBare s'.gens) s₁) :
  WalkO q loose XP YP l.row.toRowW d [] (fun f vs=>PySem.call f vs):=by
 intro w s₀ s₁ mg mb G Y fa o pm cd doc dV kV ho hd hcd hD hmg hg args vals as hpre hlay hrd hwl hlo;obtain rfl:dV=.none:=Dflts.none hD hdf;obtain rfl:kV=.none:=Dflts.noKw hD;obtain⟨a,vs,ns,rfl,rfl,hobj,hints,hlen⟩:=o6 hn hpre hwl;refine enter_call (codeAny_mono (call w s₀ s₁ mg mb fa o pm cd doc a vs ns G Y ho (fd_plain hd) hcd hmg hobj hints hlen hg) fun r s' hq=>?_);obtain⟨rfl,h2,h3,h4⟩:=hq;exact⟨.inl ⟨.bool Δ,.bool Δ,[],rfl,fun _=>rfl,.bool Δ,o7 l _,fun _=>⟨List.Pairwise.nil,fun _ hm=>(nomatch hm)⟩⟩,h2,h3,h4⟩
end Att
namespace L2
open PySem PySem.Spec PyProof.Rows
def KL (K:Frag)(a:Ψ)(xs:List V):Prop:=
 ∃(its:List Φ) (n:Nat),K.lookup a=Γ {cls:=.type "list",data:=.seq its.toArray n}/\its.length<=Ε/\Vals xs its
def Ls (K:Frag)(H:Hp)(a:Ψ)(xs:List V):Prop:=Rd H a (.lst xs)∨KL K a xs
theorem kJ:∀ {vs:List Φ}{ns:List Int},IntsAre vs ns->Vals (ns.map V.int) vs
 |_,_,.nil=>.nil
 |_,_,.cons n t h=>.cons ⟨t,rfl⟩ (kJ h)
def vB (H:Hp):Prop:=∀b,H b=Ξ∨∃o xs,H b=Γ (.frz o (.lst xs))
theorem p6 {P:Β}{w:Α}{K:Frag}{mg mb:Str->Option Φ}{CX:CXT}{k:Nat}{fa a:Ψ}{fd:Ν}{x:Str}{sp:Sp}{s₁:Ω}{vs:List Φ}{ns:List Int}
  (KX:K.In s₁.heap) (hns:s₁.heap.Ns Ζ mg) (hb:s₁.heap.Ns builtinsNs mb) (hbb:∀x:Str,x≠"__name__"->mb x=bootBuiltins x) (hlim:s₁.heap.NoLimit) (hg:s₁.gens = #[])
  (ha:s₁.heap.get? a=Γ {cls:=.type "list",data:=.seq vs.toArray}) (hi:IntsAre vs ns) (hl:ns.length<=Ε) (hr:Room k callerA)
  (F:∀base:Heap,K.In base->base.Ns Ζ mg->FnOk P w K mg base CX k fa fd [x] sp) (hbind:∀(s:Ω) (u:Φ),BindsTo s fd ⟨[u],[]⟩ [(x,u)])
  (hsp:∀H:Hp,vB H->Ls K H a (ns.map V.int)->sp [.ref a] H (fun v _=>v=.bl Δ) fun _ _ _=>False)
  (hCX:∀H e s',CX [] H s₁ (fun _ _ _=>False) e s'->False) :
  codeAny (Κ P w) callerA (.call (.ref fa) ⟨[.ref a],[]⟩) (fun r s'=>r=.ok (.ret (.bool Δ))/\OldK s₁.heap s'.heap/\s'.os=s₁.os/\AllBare s'.gens) s₁:=by
 have rv:=kJ hi;have lenV:=hi.length
 -- from an abstract heap in which nothing but the script may be tracked
 have core:∀H:Hp,vB H->Ls K H a (ns.map V.int)->HOk P w H s₁.heap->(∀b,H b≠Ξ->b=a)->(H a≠Ξ->K.lookup a=Ξ)->
   codeAny (Κ P w) callerA (.call (.ref fa) ⟨[.ref a],[]⟩) (fun r s'=>r=.ok (.ret (.bool Δ))/\OldK s₁.heap s'.heap/\s'.os=s₁.os/\AllBare s'.gens) s₁:=by
  intro H hO hS hok hA hK;have base_of:∀ {b:Ψ}{o:Obj},s₁.heap.get? b=Γ o->H b=Ξ->(kZ s₁.heap H).get? b=Γ o:=fun e n=>pN e n;have noA:∀ {b:Ψ}{o:Obj}{es:Array DictEntry}{ep:Nat},s₁.heap.get? b=Γ o->o.data=.dict es ep->H b=Ξ:=fun {b o es ep} e d=>by
   cases q:H b with
   |none=>rfl
   |some u=>have e':b=a:=hA b (by rw[q];simp);subst e';rw[ha]at e;cases e;have d':Data.seq vs.toArray _=Data.dict es ep:=d;cases d'
  have nsK:∀ {b:Ψ}{m:Str->Option Φ},s₁.heap.Ns b m->(kZ s₁.heap H).Ns b m:=fun {b m} ⟨o,es,ep,e,d,r⟩=>⟨o,es,ep,base_of e (noA e d),d,r⟩
  have hKb:K.In (kZ s₁.heap H):=fun b o e=>base_of (KX b o e) (by
   cases q:H b with
   |none=>rfl
   |some u=>
    have e':b=a:=hA b (by rw[q];simp);subst e'
    rw[hK (by rw[q];simp)]at e;cases e)
  have hM:Mod K mg (kZ s₁.heap H):=⟨hKb,nsK hns,⟨mb,nsK hb,hbb⟩,let ⟨mc,h1,h2⟩:=hlim;⟨mc,nsK h1,h2⟩⟩
  have e0:Env0 P w K mg (kZ s₁.heap H) callerA [] s₁ H:=⟨rfl,hM,fun b o e=>rZ e,Nat.le_of_eq (oV _ _),trivial,fun b hb=>absurd (show b∈([]:List Ψ) from hb) (by simp),hok,.of_eq hg⟩
  refine codeAny_mono ((F _ hKb (nsK hns)).run callerA [] s₁ H ⟨[.ref a],[]⟩ [.ref a] [.ref a] _ _ hr e0 (hbind s₁ (.ref a)) (.cons rfl .nil) (hsp H hO hS)) fun r s' h=>?_;cases r with
  |error e=>exact(hCX H e s' h).elim
  |ok fl=>
   cases fl with
   |next=>exact False.elim h
   |brk=>exact False.elim h
   |cont=>exact False.elim h
   |ret u=>
    obtain⟨v,H',os,bare,un,hok',r',q⟩:=h;have q':v=.bl Δ:=q;subst q';obtain rfl:u=Value.bool Δ:=r';refine⟨rfl,OldK.of_keep fun b o e=>?_,os,bare⟩;cases q:H b with
    |none=>exact un.keep b o e q (by intro z;exact absurd (show b∈([]:List Ψ) from z) (by simp)) (by simp)
    |some u=>
     rcases hO b with z|⟨ob,xs,z⟩
     ·rw[q]at z;cases z
     ·have z2:=un.frzs b ob _ z;obtain⟨e1,_⟩:=hok b _ z;obtain⟨e2,_⟩:=hok' b _ z2;rw[e]at e1;cases e1;exact e2
 cases hk:K.lookup a with
 |some o=>
  -- the script is one of the module's own objects
  have e:=KX a o hk;rw[ha]at e;cases e;refine core (fun _=>Ξ) (fun _=>.inl rfl) (.inr ⟨vs,_,hk,by rw[lenV];exact hl,rv⟩) (fun b u z=>by have z':(Ξ:Option HO)=Γ u:=z;cases z') (fun b z=>absurd rfl z) fun z=>absurd rfl z
 |none=>
  refine core (fun b=>if b=a then Γ (.frz {cls:=.type "list",data:=.seq vs.toArray} (.lst (ns.map V.int))) else Ξ) (fun b=>?_) (.inl (.inr ⟨{cls:=.type "list",data:=.seq vs.toArray},d_ rfl⟩)) (fun b u z=>?_) (fun b z=>?_) fun _=>hk
  ·by_cases hb:b=a
   ·exact .inr ⟨_,_,d_ hb⟩
   ·exact .inl (c_ hb)
  ·by_cases hb:b=a
   ·have z':=(d_ hb).symm.trans z;cases z';subst hb;exact⟨ha,by rw[h_];exact hl,vs,_,rv,ha⟩
   ·have z':=(c_ hb).symm.trans z;cases z'
  ·by_cases hb:b=a
   ·exact hb
   ·exact absurd (c_ hb) z
theorem sD {l:PySem.W.OpenLaw}{n k:Nat}{q:Β}{loose:List Str}{XP:(Str->Option Φ)->Heap->Prop}{YP:Α->Heap->Prop}{d:DefRec}{K:Params->Frag}{CX:Α->CXT}{sp:Α->Sp}{x:Str}
  (hn:l.most=Γ n) (hn2:n<=Ε) (hdf:d.params.defaults=[]) (hr:Room k callerA)
  (hY:∀(w:Α) (h:Heap),YP w h->(K w.params).In h)
  (F:∀(w:Α) (mg:Str->Option Φ) (fa:Ψ) (h:Heap),(K w.params).In h->h.Ns Ζ mg->mg d.name=Γ (.ref fa)->
   ∃fd:Ν,(∀(s:Ω) (u:Φ),BindsTo s fd ⟨[u],[]⟩ [(x,u)])/\
    ∀base:Heap,(K w.params).In base->base.Ns Ζ mg->FnOk l.prog w (K w.params) mg base (CX w) k fa fd [x] (sp w))
  (hsp:∀(w:Α) (H:Hp) (a:Ψ) (ns:List Int),ns.length<=n->vB H->Ls (K w.params) H a (ns.map V.int)->sp w [.ref a] H (fun v _=>v=.bl Δ) fun _ _ _=>False)
  (hCX:∀(w:Α) (H:Hp) (s:Ω) (e:Φ) (s':Ω),CX w [] H s (fun _ _ _=>False) e s'->False) :
  PySem.W.WalkO q loose XP YP l.row.toRowW d [] (fun f vs=>PySem.call f vs):=by
 refine Att.attach_call hn hdf fun w s₀ s₁ mg mb fa o pm cd doc a vs ns G Y ho hd hcd hmg hobj hints hlen hg=>?_;have KX:=hY w _ Y;obtain⟨fd,hb,hF⟩:=F w mg fa _ KX G.T.g hmg;exact p6 KX G.T.g G.T.b G.T.builtins G.T.nolimit hg hobj hints (Ad hlen hn2) hr hF hb (fun H hO hS=>hsp w H a ns hlen hO hS) fun H e s'=>hCX w H s₁ e s'
noncomputable def gG (s:Stmt):Arguments:=match s with
 |.FunctionDef _ a _ _ _ _ _ _ _ _=>a
 |_=>{posonlyargs:=[],args:=[],vararg:=Ξ,kwonlyargs:=[],kw_defaults:=[],kwarg:=Ξ,defaults:=[]}
noncomputable def fV (s:Stmt):List Stmt:=match s with
 |.FunctionDef _ _ b _ _ _ _ _ _ _=>b
 |_=>[]
noncomputable def e6 (s:Stmt):Scope:=match s with
 |.FunctionDef _ _ _ _ _ _ sc _ _ _=>sc
 |_=>{kind:=.function,names:=[],isGenerator:=Θ,isCoroutine:=Θ}
structure Fun (K:Frag)(x qual:Str)(st:Stmt)(f:Ψ)(fd:Ν):Prop where
 ex:∃(oc:Φ) (od:Option Ψ) (kV doc pm:Φ) (an:Option Ψ) (cdv ct:Φ) (osl:Array (Option Φ)),
  fd=PySem.W.fnOf x qual (gG st) (fV st) (e6 st) .none kV doc pm an cdv ct/\K.lookup f=Γ ⟨oc,od,.func fd,osl⟩/\PySem.W.codeIn K cdv qual=Δ
 kp:PySem.W.keepIn K (.ref f)=Δ
section
variable {P:Β}{w:Α}{K:Frag}{mg:Str->Option Φ}{base:Heap}
theorem Fun.binds {x qual:Str}{st:Stmt}{f:Ψ}{fd:Ν}{ps:List Str}(F:Fun K x qual st f fd)
  (h:∀(kV doc pm:Φ) (an:Option Ψ) (cdv ct:Φ) (us:List Φ),us.length=ps.length->bindArgs (PySem.W.fnOf x qual (gG st) (fV st) (e6 st) .none kV doc pm an cdv ct) ⟨us,[]⟩=pure (ps.zip us)):Binds K fd ps []:=by
 obtain⟨oc,od,kV,doc,pm,an,cdv,ct,osl,rfl,lk,hcd⟩:=F.ex;exact .all (h kV doc pm an cdv ct)
theorem ni {x qual:Str}{st:Stmt}{f:Ψ}{oc:Φ}{od an:Option Ψ}{osl:Array (Option Φ)}{kV doc pm cdv ct:Φ}(l:K.lookup f=Γ ⟨oc,od,.func (PySem.W.fnOf x qual (gG st) (fV st) (e6 st) .none kV doc pm an cdv ct),osl⟩)
  (c:PySem.W.codeIn K cdv qual=Δ) (k:PySem.W.keepIn K (.ref f)=Δ):Fun K x qual st f (PySem.W.fnOf x qual (gG st) (fV st) (e6 st) .none kV doc pm an cdv ct):=⟨⟨oc,od,kV,doc,pm,an,cdv,ct,osl,rfl,l,c⟩,k⟩
end
def eX (H H':Hp):Prop:=∀b o,H b=Γ o->H' b=Γ o
theorem eX.refl (H:Hp):eX H H:=fun _ _ h=>h
theorem eX.trans {H H1 H2:Hp}(a:eX H H1)(b:eX H1 H2):eX H H2:=fun c o h=>b c o (a c o h)
theorem eX.free {H H':Hp}(e:eX H H'){l:Ψ}(h:H' l=Option.none):H l=Option.none:=by
 cases q:H l with
 |none=>rfl
 |some o=>rw[e l o q]at h;cases h
theorem eX.seq {K:Frag}{H H':Hp}{a:Ψ}{xs:List V}(e:eX H H')(h:SqL K H a xs):SqL K H' a xs:=by
 rcases h with(h|⟨o,h⟩)|h
 ·exact .inl (.inl (e _ _ h))
 ·exact .inl (.inr ⟨o,e _ _ h⟩)
 ·exact .inr h
theorem e8 {X:Cx}{e:Expr}{t t':TE}(h:PE X e t)(m:∀σ H Q,t' σ H Q->t σ H Q):PE X e t':=fun pins s σ H Q I q=>h pins s σ H Q I (m σ H Q q)
theorem jF {X:Cx}{e:Expr}{t t':TT}(h:PT X e t)(m:∀σ H Q,t' σ H Q->t σ H Q):PT X e t':=fun pins s σ H Q I q=>h pins s σ H Q I (m σ H Q q)
theorem k9 {X:Cx}{e:List Expr}{t t':TA}(h:PA X e t)(m:∀σ H Q,t' σ H Q->t σ H Q):PA X e t':=fun pos pins s σ H Q I q=>h pos pins s σ H Q I (m σ H Q q)
theorem hJ {X:Cx}{e:Stmt}{t t':TS}(h:PS X e t)(m:∀D σ H,t' D σ H->t D σ H):PS X e t':=fun pins s σ H D I q=>h pins s σ H D I (m D σ H q)
theorem iN {X:Cx}{e:List Stmt}{t t':TS}(h:PSs X e t)(m:∀D σ H,t' D σ H->t D σ H):PSs X e t':=fun pins s σ H D I q=>h pins s σ H D I (m D σ H q)
theorem p7 {X:Cx}{tg e:Expr}{t t':TI}(h:PI X tg e t)(m:∀σ H Q,t' σ H Q->t σ H Q):PI X tg e t':=fun pins s σ H Q I q=>h pins s σ H Q I (m σ H Q q)
def cxC (X:Cx)(scope:Scope)(cl:List (Str×Ψ))(N:List Str)(C:Ψ)(s3:Ω)(H3:Hp)(fp:List Ψ)(xe:Φ->Ω->Prop:=fun _ _=>False):Cx:=
 {X with N:=N,s₀:=s3,H₀:=H3,env:=compEnvC scope cl C X.env,outer:=X.stack,ex:=fp,fn:=fun _=>Θ,pn:=[],xe:=xe}
structure CompSc (X:Cx)(scope:Scope)(cl:List (Str×Ψ))(Fr:List (Str×Nat))(Tg:List Str):Prop where
 clos:closureFor scope X.env=pure cl
 kind:scope.kind=.function
 nocell:∀y∈scope.names,y.2≠.cell
 loc:∀y∈scope.names,y.2=.local->scope.names.lookup y.1=Γ .local
 sub:∀x c,cl.lookup x=Γ c->X.env.cells.lookup x=Γ c
 has:∀x,((relabel scope X.env).names.lookup x=Γ .cell∨(relabel scope X.env).names.lookup x=Γ .free)->∃c,cl.lookup x=Γ c
 out:∀p∈Fr,X.N[p.2]? = Γ p.1/\(X.env.kindOf p.1=Γ .cell∨X.env.kindOf p.1=Γ .free)/\((relabel scope X.env).names.lookup p.1=Γ .cell∨(relabel scope X.env).names.lookup p.1=Γ .free)
noncomputable def stC (Fr:List (Str×Nat))(Tg:List Str)(σ:St):St:=Fr.map (fun p=>(σ[p.2]?).join)++Ρ Tg.length Ξ
section
variable {X:Cx}{scope:Scope}{cl:List (Str×Ψ)}{Fr:List (Str×Nat)}{Tg:List Str}{pins:List (Ψ×Obj)}{σ:St}{H3:Hp}{s3:Ω}{fp:List Ψ}
theorem vC (S:CompSc X scope cl Fr Tg)(I:Inv X pins σ H3 s3)(hf:∀b∈fp,hI X pins H3 b)(hfs:∀b∈fp,b < s3.heap.objs.size)(N:List Str)(xe:Φ->Ω->Prop):(cxC X scope cl N s3.heap.objs.size s3 H3 fp xe).Ok where
 mod:=I.ok.mod
 kind:=S.kind
 glob:=I.ok.glob
 blt:=I.ok.blt
 above:=k_ _
 inj:=fun x y c h1 h2=>I.ok.inj x y c (S.sub x c h1) (S.sub y c h2)
 has:=fun x h=>S.has x h
 cab:=fun x c h _=>absurd (show Θ=Δ from h) (by decide)
 hd:=I.ok.hd
 frames:=I.ok.frames
 stk:=.inl rfl
 exf:=fun b hb=>⟨u_ (hfs b hb),fun x c e z=>(hf b hb).2.2.2.2.1 x c (S.sub x c e) z⟩
 bs:=I.bs
 bsz:=Ad I.ok.bsz I.sz
 noex:=fun b o e hb=>by
  rcases(hf b hb).2.2.2.1 with z|z
  ·exact I.ok.noex b o e z
  ·exact absurd (zV (j_ e) (Ad I.ok.bsz z)) (Ai _)
 exfs:=fun b hb z=>by
  rcases p_.mp (I.stkSub b z) with z|z
  ·exact(hf b hb).2.1 z
  ·exact(hf b hb).2.2.1 z
 funs:=I.stack
 frf:=I.stkFree
theorem o8 (S:CompSc X scope cl Fr Tg)(I:Inv X pins σ H3 s3)(hf:∀b∈fp,hI X pins H3 b)(hfs:∀b∈fp,b < s3.heap.objs.size){h':Heap}{tk:Nat}
  (hns:h'.Ns s3.heap.objs.size (fun _=>Ξ)) (hk:∀b o,s3.heap.get? b=Γ o->h'.get? b=Γ o) (xe:Φ->Ω->Prop) :
  Inv (cxC X scope cl (Fr.map (·.1)++Tg) s3.heap.objs.size s3 H3 fp xe) [] (stC Fr Tg σ) H3 {s3 with heap:=h',toks:=tk} where
 ok:=vC S I hf hfs _ _
 os:=rfl
 bare:=I.bare
 base:=Un.kept hk
 loc:=by
  refine⟨_,hns,fun i x v e1 e2 e3=>?_⟩;have hi:i < Fr.length:=by
   by_cases hi:i < Fr.length
   ·exact hi
   ·unfold stC at e2;rw[List.getElem?_append_right (by simpa using hi),List.getElem?_replicate]at e2;split at e2<;>cases e2
  have e1':(Fr.map (·.1))[i]? = Γ x:=by rw[<- e1];exact(Ay (by simpa using hi)).symm
  have e2':(Fr.map (fun p=>(σ[p.2]?).join))[i]? = Γ (Γ v):=by rw[<- e2];exact(Ay (by simpa using hi)).symm
  rw[Ac]at e1' e2';obtain⟨p,hp,rfl⟩:=Option.map_eq_some_iff.mp e1';rw[hp]at e2';have e2'':(σ[p.2]?).join=Γ v:=zZ e2';have e4:σ[p.2]? = Γ (Γ v):=by
   cases q:σ[p.2]? with
   |none=>rw[q]at e2'';cases e2''
   |some y=>rw[q]at e2'';rw[show y=Γ v from e2'']
  obtain⟨o1,o2,o3⟩:=S.out p (Af hp);obtain⟨m,hn,hl⟩:=I.loc;have hv:Vis X.env.scope p.1:=by
   rcases o2 with o2|o2
   ·exact .inr (.inl o2)
   ·exact .inr (.inr o2)
  obtain⟨u,r,l⟩:=hl p.2 p.1 v o1 e4 hv;refine⟨u,r,.inr ⟨o3,?_⟩⟩;obtain⟨c,hc⟩:=S.has p.1 o3;refine⟨c,hc,?_⟩;have hc':=S.sub _ _ hc;rcases l with⟨k,_⟩|⟨_,c2,h2,z⟩
  ·rcases o2 with o2|o2<;>(rw[k]at o2;cases o2)
  ·rw[hc']at h2;cases h2;obtain⟨o,ho,hd⟩:=z;exact⟨o,hk _ _ ho,hd⟩
 cell:=fun x c e=>by obtain⟨v,o,ho,hd⟩:=I.cell x c (S.sub x c e);exact⟨v,o,hk _ _ ho,hd⟩
 free:=I.hok.fresh (k_ _)
 freeC:=fun x c e=>I.freeC x c (S.sub x c e)
 pin:=fun p hp=>absurd (show p∈([]:List (Ψ×Obj)) from hp) (by simp)
 hok:=I.hok.kept hk
 len:=by unfold stC;show _=(Fr.map (·.1)++Tg).length;simp
end
def PTs (X:Cx)(ifs:List Expr)(t:TT):Prop:=
 ∀(pins:List (Ψ×Obj)) (s:Ω) (σ:St) (H:Hp) (Q:Bool->Hp->Prop),Inv X pins σ H s->t σ H Q->
  Ι (Κ X.prog X.w) X.A (forIn ifs Δ fun c r=>if r=Δ then do let ok <- isTrue c X.env (eval c X.env);pure (ForInStep.yield ok) else pure (ForInStep.yield r)) (TP X pins σ Q) X.xe s
theorem jj {M:Model}{A:Η}{E:Φ->Ω->Prop}{s:Ω}{env:Env}{Q:Bool->Ω->Prop}(h:Q Θ s):∀ifs:List Expr,
  Ι M A (forIn ifs Θ fun c r=>if r=Δ then do let ok <- isTrue c env (eval c env);pure (ForInStep.yield ok) else pure (ForInStep.yield r)) Q E s
 |[]=>by rw[List.forIn_nil];exact q_ h
 |c::cs=>by rw[List.forIn_cons];rw[c_ i_];exact g_ (q_ (jj h cs))
theorem sE {X:Cx}:PTs X [] (fun _ H Q=>Q Δ H):=fun pins s σ H Q I q=>by rw[List.forIn_nil];exact q_ ⟨H,I,q⟩
theorem p9 {X:Cx}{c:Expr}{cs:List Expr}{t u:TT}(hc:PT X c t)(hr:PTs X cs u):PTs X (c::cs) (xg t u):=fun pins s σ H Q I q=>by
 rw[List.forIn_cons,d_ rfl];refine g_ (g_ (thn (hc pins s σ H _ I q) fun b s1 ⟨H1,I1,q1⟩=>q_ ?_))
 induction b using zB with
 |true=>exact hr pins s1 σ H1 Q I1 q1
 |false=>exact jj ⟨H1,I1,q1⟩ cs
def qa (wi:TI)(start:St->St)(g:TG)(tt:TT)(te:TE):TE:=fun σ H Q=>wi σ H fun J H1=>∀D,H1 D=Ξ->∃W:Nat->Nat->St->Hp->Prop,(∃m,W 0 m (start σ) (upd H1 D (.lst [])))/\
 ∀i m σ' H',W i m σ' H'->(J.stop i H'/\Q (.ref D) H')∨(J.go i H'/\∀x H2,J.yld i H' x H2->g x σ' H2 fun σ2 H3=>tt σ2 H3 fun b H4=>
  if b=Δ then te σ2 H4 fun v H5=>∃ys,H5 D=Γ (.lst ys)/\ys.length < Ε/\∃m',m' < m/\W (i+1) m' σ2 (upd H5 D (.lst (ys++[v])))
  else ∃m',m' < m/\W (i+1) m' σ2 H4)
section
variable {X:Cx}{scope:Scope}{cl:List (Str×Ψ)}{Fr:List (Str×Nat)}{Tg:List Str}{elt tg iter:Expr}{ifs:List Expr}{wi:TI}{g:TG}{tt:TT}{te:TE}{pos:Pos}
theorem lh (scope:Scope)(pos:Pos)(it acc:Φ)(env:Env) :
  compTurn (.ListComp elt [⟨tg,iter,ifs,0⟩] scope pos) 0 it acc env=(do
   standAt iter.pos
   match <- pyNext it with
   |none=>pure (.done .next)
   |some v=>
    letOwnedTupleGo tg it v
    assign tg env v
    let ok <- forIn ifs Δ fun c r=>if r=Δ then do let ok <- isTrue c env (eval c env);pure (ForInStep.yield ok) else pure (ForInStep.yield r)
    if ok=Δ then
     (do let _ <- call (.builtin "list.append") [acc,<- eval elt env])
    again (.compLoop (.ListComp elt [⟨tg,iter,ifs,0⟩] scope pos) 0 it acc env)):=by rfl
theorem jG {XE:Ψ->Ω->Hp->List Ψ->Φ->Ω->Prop}(hc:X.calm=Δ)(S:CompSc X scope cl Fr Tg)
  (hg:∀C s H fp,PG (cxC X scope cl (Fr.map (·.1)++Tg) C s H fp (XE C s H fp)) tg g) (ht:∀C s H fp,PTs (cxC X scope cl (Fr.map (·.1)++Tg) C s H fp (XE C s H fp)) ifs tt)
  (he:∀C s H fp,PE (cxC X scope cl (Fr.map (·.1)++Tg) C s H fp (XE C s H fp)) elt te)
  {pins:List (Ψ×Obj)}{σ:St}{H2:Hp}{s2:Ω}{it:Ψ}{fp:List Ψ}{tn:Nat->Heap->Prop}{J:It}{Q:VK} (I2:Inv X pins σ H2 s2) (T:Turn X.prog X.w X.K tg J fp it tn) (st2:tn 0 s2.heap)
  (f2:∀b∈fp,hI X pins H2 b)
  (q:∀D,H2 D=Ξ->∃W:Nat->Nat->St->Hp->Prop,(∃m,W 0 m (stC Fr Tg σ) (upd H2 D (.lst [])))/\
   ∀i m σ' H',W i m σ' H'->(J.stop i H'/\Q (.ref D) H')∨(J.go i H'/\∀x H2,J.yld i H' x H2->g x σ' H2 fun σ2 H3=>tt σ2 H3 fun b H4=>
    if b=Δ then te σ2 H4 fun v H5=>∃ys,H5 D=Γ (.lst ys)/\ys.length < Ε/\∃m',m' < m/\W (i+1) m' σ2 (upd H5 D (.lst (ys++[v])))
    else ∃m',m' < m/\W (i+1) m' σ2 H4))
  {E:Φ->Ω->Prop}{RR:Φ->Env->Result->Ω->Prop}
  (hR:∀D C s' H',(∃m,s'.heap.Ns C m)->Inv X pins σ H' s'->hI X pins H' C->Q (.ref D) H'->∀V:Env,V.locals=C->V.frame=X.env.frame->RR (.ref D) V (.ok .next) s')
  (hX:∀D C s3 H3,Inv X pins σ H3 s3->s3.heap.objs.size=C->(∀b∈fp,hI X pins H3 b)->∀e s',XE C s3 H3 fp e s'->
   notedBy (Κ X.prog X.w) X.A (compEnvC scope cl C X.env) (fun x s''=>∀V:Env,V.locals=C->V.frame=X.env.frame->RR (.ref D) V (.error x) s'') e s') :
  Ι (Κ X.prog X.w) X.A (newList []) (fun acc s₃=>Ι (Κ X.prog X.w) X.A (newFunctionEnv scope X.env.globals cl [] X.env.qual Ξ .none (Γ X.env)) (fun cenv s₄=>
   codeAny (Κ X.prog X.w) X.A (.compStart (.ListComp elt [⟨tg,iter,ifs,0⟩] scope pos) 0 (.ref it) acc {cenv with scope:=relabel scope X.env}) (RR acc cenv) s₄) E s₃) E s2:=by
 have fsz:∀b∈fp,b < s2.heap.objs.size:=fun b hb=>by obtain⟨o,e,_⟩:=T.obj _ _ st2 b hb;exact j_ e
 -- the accumulator
 refine wpAny_newObj_type ?_;have I3:Inv X pins σ (upd H2 s2.heap.objs.size (.lst [])) {s2 with heap:=s2.heap.push {cls:=.type "list",data:=.seq ([]:List Φ).toArray},toks:=s2.toks}:=I2.lnew (ys:=[]) (its:=[]) .nil (Nat.zero_le _);generalize hD:s2.heap.objs.size=D at I3 ⊢;have hDn:H2 D=Ξ:=by rw[<- hD];exact I2.fresh
 generalize hs3:({s2 with heap:=s2.heap.push {cls:=.type "list",data:=.seq ([]:List Φ).toArray},toks:=s2.toks}:Ω)=s3 at I3;have k3:∀b o,s2.heap.get? b=Γ o->s3.heap.get? b=Γ o:=fun b o e=>by rw[<- hs3];exact v_ _ e
 have sz3:s3.heap.objs.size=D+1:=by rw[<- hs3,<- hD];exact Heap.size_push ..
 have fszD:∀b∈fp,b < D:=fun b hb=>by rw[<- hD];exact fsz b hb
 have fsz3:∀b∈fp,b < s3.heap.objs.size:=fun b hb=>by rw[sz3];exact Nat.lt_succ_of_lt (fszD b hb)
 have f3:∀b∈fp,hI X pins (upd H2 D (.lst [])) b:=fun b hb=>by obtain⟨a1,a2⟩:=f2 b hb;refine⟨?_,a2⟩;rw[eY (u_ (fszD b hb))];exact a1
 obtain⟨W,⟨m0,w0⟩,turn⟩:=q D hDn;refine wpAny_newFunctionEnv S.nocell (by intro y hy;simp at hy) (fun h4 hns hsb=>codeAny_mono (R:=fun r s'=>∀V:Env,V.locals=s3.heap.objs.size->V.frame=X.env.frame->RR (.ref D) V r s') ?_ fun r s' z=>z _ rfl rfl) S.kind;have k4:∀b o,s3.heap.get? b=Γ o->h4.get? b=Γ o:=fun b o e=>
  hsb.extBut b o (u_ (j_ e)) (v_ _ e)
 have st4:tn 0 h4:=T.keep _ _ _ st2 fun b hb o e=>k4 b o (k3 b o e);have I4:=o8 (fp:=fp) (h':=h4) (tk:=s3.toks+([]:List (Str×Φ)).length) S I3 f3 fsz3 (by simpa using hns) k4 (XE s3.heap.objs.size s3 (upd H2 D (.lst [])) fp);generalize hC:s3.heap.objs.size=C at I4 hns hsb ⊢;have hX':=hX D C s3 (upd H2 D (.lst [])) I3 hC f3;generalize hZ:XE C s3 (upd H2 D (.lst [])) fp=Z at I4 hX';generalize hY:cxC X scope cl (Fr.map (·.1)++Tg) C s3 (upd H2 D (.lst [])) fp Z=Y at I4 hX';have yP:Y.prog=X.prog:=by rw[<- hY];rfl
 have yw:Y.w=X.w:=by rw[<- hY];rfl
 have yK:Y.K=X.K:=by rw[<- hY];rfl
 have yA:Y.A=X.A:=by rw[<- hY];rfl
 have yc:Y.calm=Δ:=by rw[<- hY];exact hc
 have yx:Y.xe=Z:=by rw[<- hY];rfl
 have ye:Y.env=compEnvC scope cl C X.env:=by rw[<- hY];rfl
 have yex:Y.ex=fp:=by rw[<- hY];rfl
 have ypn:Y.pn=[]:=by rw[<- hY];rfl
 have yfs:Y.fs=frs X.stack:=by rw[<- hY];rfl
 have yH:Y.H₀=upd H2 D (.lst []):=by rw[<- hY];rfl
 have ys₀:Y.s₀=s3:=by rw[<- hY];rfl
 have hg':PG Y tg g:=by rw[<- hY,<- hZ];exact hg _ _ _ _
 have ht':PTs Y ifs tt:=by rw[<- hY,<- hZ];exact ht _ _ _ _
 have he':PE Y elt te:=by rw[<- hY,<- hZ];exact he _ _ _ _
 have stat:∀ {H':Hp},(∀b∈fp,H' b=Ξ)->∀b∈fp,hI Y [] H' b:=fun hn b hb=>by have okY:=I4.ok;refine⟨hn b hb,(okY.exf b (by rw[yex];exact hb)).1,okY.exfs b (by rw[yex];exact hb),.inl (by rw[yex];exact hb),(okY.exf b (by rw[yex];exact hb)).2,fun p hp=>absurd hp (by rw[ypn];simp)⟩
 have fr0:∀b∈fp,(upd H2 D (.lst [])) b=Ξ:=fun b hb=>(f3 b hb).1
 -- back to the frame
 have back:∀(s5:Ω) (σ5:St) (H5:Hp),Inv Y [] σ5 H5 s5->(∃m,s5.heap.Ns C m)/\Inv X pins σ H5 s5/\hI X pins H5 C:=by
  intro s5 σ5 H5 I5;have hns5:∃m,s5.heap.Ns C m:=by obtain⟨m,hn,_⟩:=I5.loc;rw[ye]at hn;exact⟨m,hn⟩
  have un5:Un (frs X.stack) fp (upd H2 D (.lst [])) H5 s3.heap s5.heap:=by have u:=I5.base;rw[yfs,yex,yH,ys₀]at u;exact u
  have os5:s5.os=s3.os:=by have:=I5.os;rw[ys₀]at this;exact this
  have hok5:HOk X.prog X.w H5 s5.heap:=by have:=I5.hok;rw[yP,yw]at this;exact this
  have hch:∀b∈fp,(b∈X.ex∨X.s₀.heap.objs.size<=b)/\b≠X.env.locals/\(∀x c,X.env.cells.lookup x=Γ c->c≠b)/\∀p∈X.pn++pins,p.1≠b:=fun b hb=>by obtain⟨_,a1,_,a3,a4,a5⟩:=f3 b hb;exact⟨a3,a1,a4,a5⟩
  have free5:H5 C=Ξ:=by have:=I5.free;rw[ye]at this;exact this
  exact⟨hns5,I3.call' os5 un5 hok5 I5.bare hch,I3.fpOk (Nat.le_of_eq hC) free5⟩
 have nz:∀ {α:Type}{t:Sem α}{Q:α->Ω->Prop}{s:Ω},Ι (Κ X.prog X.w) X.A t Q Z s->Ι (Κ X.prog X.w) X.A t Q (notedBy (Κ X.prog X.w) X.A (compEnvC scope cl C X.env) fun x s''=>∀V:Env,V.locals=C->V.frame=X.env.frame->RR (.ref D) V (.error x) s'') s:=fun h=>wpAny_mono h (fun _ _ z=>z) fun e s' z=>hX' e s' z;have loop:∀(s5:Ω) (σ5:St) (H5:Hp) (i m:Nat),Inv Y [] σ5 H5 s5->tn i s5.heap->(∀b∈fp,H5 b=Ξ)->W i m σ5 H5->
   codeAny (Κ X.prog X.w) X.A (.compLoop (.ListComp elt [⟨tg,iter,ifs,0⟩] scope pos) 0 (.ref it) (.ref D) (compEnvC scope cl C X.env)) (fun r s'=>∀V:Env,V.locals=C->V.frame=X.env.frame->RR (.ref D) V r s') s5:=by
  intro s5 σ5 H5 i m I5 st5 fr5 w5;refine codeAny_loop rfl (fun n s'=>∃i σ' H',Inv Y [] σ' H' s'/\tn i s'.heap/\(∀b∈fp,H' b=Ξ)/\W i n σ' H') ?_ m ⟨i,σ5,H5,I5,st5,fr5,w5⟩;rintro n s6 ⟨i,σ6,H6,I6,st6,fr6,w6⟩;show Ι _ X.A ((compTurn (.ListComp elt [⟨tg,iter,ifs,0⟩] scope pos) 0 (.ref it) (.ref D) (compEnvC scope cl C X.env)).onRaise (fun x=>do noteFrame x (compEnvC scope cl C X.env);theTreesLotGoes x)) _ _ s6;refine wpAny_noted ?_;rw[lh];refine g_ (wpAny_standAt (g_ ?_));have nx:∀ {α:Type}{t:Sem α}{Q:α->Ω->Prop}{E':Φ->Ω->Prop}{s:Ω},Ι (Κ X.prog X.w) X.A t Q (fun _ _=>False) s->Ι (Κ X.prog X.w) X.A t Q E' s:=fun h=>wpAny_mono h (fun _ _ z=>z) fun _ _ z=>z.elim;rcases turn i n σ6 H6 w6 with⟨stop,qn⟩|⟨go,step⟩
  ·have h:=T.done Y yP yw yK yc i [] s6 σ6 H6 (fun _ _=>False) I6 (stat fr6) st6 stop;rw[yA]at h;refine nx (thn h fun r s7 ⟨hr,I7⟩=>?_);subst hr;refine q_ ?_;obtain⟨b1,b2,b3⟩:=back s7 σ6 H6 I7;exact hR D C s7 H6 b1 b2 b3 qn
  ·have h:=T.item Y yP yw yK yc i [] s6 σ6 H6 (fun _ _=>False) I6 (stat fr6) st6 go;rw[yA]at h;refine nx (thn h fun r s7 ⟨u,hr,h7⟩=>?_);subst hr;refine g_ (nx (thn h7 fun _ s8 ⟨x,H8,I8,r8,y8,st8,fr8⟩=>?_));have I8':=I8.pinned (stat fr8) (T.obj _ _ st8);have h9:=hg' _ s8 σ6 H8 x u _ I8' r8 (step x H8 y8);rw[yP,yw,yA,yx,ye]at h9;refine g_ (nz (thn h9 fun _ s9 ⟨σ9,H9,I9,q9⟩=>?_));have h10:=ht' _ s9 σ9 H9 _ I9 q9;rw[yP,yw,yA,yx,ye]at h10;refine g_ (nz (thn h10 fun ok s10 ⟨H10,I10,q10⟩=>?_));have again:∀ {σ':St}{H':Hp}{s':Ω},Inv Y ([]++i7 fp s8.heap) σ' H' s'->(∃m',m' < n/\W (i+1) m' σ' H')->∃m,m < n/\∃i σ' H',Inv Y [] σ' H' s'/\tn i s'.heap/\(∀b∈fp,H' b=Ξ)/\W i m σ' H':=fun {σ' H' s'} I' ⟨m',hm,w'⟩=>by refine⟨m',hm,i+1,σ',H',I'.unpinned,T.keep _ _ _ st8 fun b hb o e=>(I'.pin (b,o) (o_ _ (o_ _ (gX hb e)))).1,fun b hb=>?_,w'⟩;obtain⟨o,e,d⟩:=T.obj _ _ st8 b hb;exact(I'.pin (b,o) (o_ _ (o_ _ (gX hb e)))).2.1
   induction ok using zB with
   |false=>rw[c_ i_]at q10;refine g_ (q_ (q_ ⟨rfl,again I10 q10⟩))
   |true=>rw[d_ rfl]at q10;have h11:=he' _ s10 σ9 H10 _ I10 q10;rw[yP,yw,yA,yx,ye]at h11;refine g_ (g_ (nz (thn h11 fun y s11 ⟨v,H11,I11,r11,ys,ey,zy,q11⟩=>?_)));have h12:=kI (X:=Y) ([]++i7 fp s8.heap) s11 σ9 H11 (.ref D) [v] (.ref D) [y] (fun v' H'=>v'=.non/\H'=upd H11 D (.lst (ys++[v]))) I11 rfl (.cons r11 .nil) ⟨D,ys,v,rfl,rfl,ey,zy,rfl,rfl⟩;rw[yP,yw,yA,yx]at h12;refine g_ (nz (thn h12 fun z s12 ⟨v12,H12,I12,r12,e12,e12'⟩=>?_));subst e12';exact q_ (q_ ⟨rfl,again I12 q11⟩)
 have start:=loop {s3 with heap:=h4,toks:=s3.toks+([]:List (Str×Φ)).length} (stC Fr Tg σ) (upd H2 D (.lst [])) 0 m0 I4 st4 fr0 w0;have e5:∀(s':Ω),s' = {s3 with heap:=h4,toks:=s3.toks+([]:List (Str×Φ)).length}->codeAny (Κ X.prog X.w) X.A (.compLoop (.ListComp elt [⟨tg,iter,ifs,0⟩] scope pos) 0 (.ref it) (.ref D) (compEnvC scope cl C X.env)) (fun r s'=>∀V:Env,V.locals=C->V.frame=X.env.frame->RR (.ref D) V r s') s':=by rintro _ rfl;exact start
 exact codeAny_compStart_list (e5 _ rfl) (T.self _ _ _ _ _ st4 (e5 _ rfl))
theorem nV {XE:Ψ->Ω->Hp->List Ψ->Φ->Ω->Prop}(hc:X.calm=Δ)(S:CompSc X scope cl Fr Tg)(hi:PI X tg iter wi)
  (hg:∀C s H fp,PG (cxC X scope cl (Fr.map (·.1)++Tg) C s H fp (XE C s H fp)) tg g) (ht:∀C s H fp,PTs (cxC X scope cl (Fr.map (·.1)++Tg) C s H fp (XE C s H fp)) ifs tt)
  (he:∀C s H fp,PE (cxC X scope cl (Fr.map (·.1)++Tg) C s H fp (XE C s H fp)) elt te) (hX:∀(pins:List (Ψ×Obj)) (σ:St) (H3:Hp) (s3:Ω) (C:Ψ) (fp:List Ψ),Inv X pins σ H3 s3->s3.heap.objs.size=C->(∀b∈fp,hI X pins H3 b)->∀e s',XE C s3 H3 fp e s'->
   notedBy (Κ X.prog X.w) X.A (compEnvC scope cl C X.env) (fun x s''=>∃m,s''.heap.Ns C m/\∀h',Heap.SameBut C s''.heap h'->∀cenv:Env,cenv.locals=C->Ι (Κ X.prog X.w) X.A (passOn "comprehension.variables-let-go" x cenv:Sem Φ) (fun _ _=>False) X.xe {s'' with heap:=h'}) e s')  (hs:∀x,foldedSetIterable iter X.env x=pure x:=by intro _;rfl) :
  PE X (.ListComp elt [⟨tg,iter,ifs,0⟩] scope pos) (qa wi (stC Fr Tg) g tt te):=by
 intro pins s σ H Q I h;rw[eval_ListComp];refine wpAny_comprehension_free (use:=Ξ) rfl hs S.clos S.kind S.loc (thn (hi pins s σ H _ I h) fun xv s1 h1=>thn h1 fun itv s2 h2=>?_);obtain⟨it,fp,tn,J,H2,rfl,I2,T,st2,f2,q⟩:=h2;refine jG (XE:=XE) (RR:=fun acc V=>compPost (Κ X.prog X.w) X.A X.xe Ξ (EP X pins σ Q) acc V.locals) hc S hg ht he I2 T st2 f2 q ?_ fun D' C' s3 H3 I3 hC' f3 e s' z=>wpAny_mono (hX pins σ H3 s3 C' _ I3 hC' f3 e s' z) (fun _ s'' q V hV _=>by subst hV;exact q) fun _ s'' q V hV _=>by subst hV;exact q
 intro D C s' H' ⟨m,hn⟩ I' F' q' V hV _;subst hV;obtain⟨f0,f1,f2,f3,f4,f5⟩:=F';exact⟨m,hn,fun h' sb=>⟨.ref D,H',I'.turned (t':=s'.toks) (fun b o hb e=>(sb.2 b hb).trans e) f0 f1 f3 f4 f5,rfl,q'⟩⟩
theorem sG {XE:Ψ->Ω->Hp->List Ψ->Φ->Ω->Prop}{y:Str}{py spos:Pos}{i:Nat}(hc:X.calm=Δ)(hN:X.N.Nodup)(hiN:X.N[i]? = Γ y)(hy:X.env.kindOf y=Γ .local)(S:CompSc X scope cl Fr Tg)(hi:PI X tg iter wi)
  (hg:∀C s H fp,PG (cxC X scope cl (Fr.map (·.1)++Tg) C s H fp (XE C s H fp)) tg g) (ht:∀C s H fp,PTs (cxC X scope cl (Fr.map (·.1)++Tg) C s H fp (XE C s H fp)) ifs tt)
  (he:∀C s H fp,PE (cxC X scope cl (Fr.map (·.1)++Tg) C s H fp (XE C s H fp)) elt te) (hX:∀(pins:List (Ψ×Obj)) (σ:St) (H3:Hp) (s3:Ω) (C:Ψ) (fp:List Ψ),Inv X pins σ H3 s3->s3.heap.objs.size=C->(∀b∈fp,hI X pins H3 b)->∀e s',XE C s3 H3 fp e s'->
   notedBy (Κ X.prog X.w) X.A (compEnvC scope cl C X.env) (fun x s''=>∃m,s''.heap.Ns C m/\∀h',Heap.SameBut C s''.heap h'->∀cenv:Env,cenv.locals=C->Ι (Κ X.prog X.w) X.A (passOn "comprehension.variables-let-go" x cenv:Sem Φ) (fun _ _=>False) X.xe {s'' with heap:=h'}) e s')
  (hsw:swapsWith (.ListComp elt [⟨tg,iter,ifs,0⟩] scope pos) (Γ (.Name y py)) spos.line X.env=pure Δ) (hs:∀x,foldedSetIterable iter X.env x=pure x:=by intro _;rfl) :
  PS X (.Assign [.Name y py] (.ListComp elt [⟨tg,iter,ifs,0⟩] scope pos) spos) (fun D σ H=>qa wi (stC Fr Tg) g tt te σ H fun v H'=>D.nx (σ.set i (Γ v)) H'):=by
 intro pins s σ H D I h;rw[exec_Assign_Name_used _ _ _ _ hsw];refine g_ (wpAny_standAt (g_ ?_));show Ι _ X.A (do let _ <- comprehension (.ListComp elt [⟨tg,iter,ifs,0⟩] scope pos) scope X.env _ (newList []) Θ (eval iter X.env) (Γ (assign (.Name y py) X.env))) _ _ s
 refine g_ (thn (wpAny_comprehension_free (use:=Γ (assign (.Name y py) X.env)) (Q:=fun _ s'=>SP X pins D .next s') rfl hs S.clos S.kind S.loc
  (thn (hi pins s σ H _ I h) fun xv s1 h1=>thn h1 fun itv s2 h2=>?_)) fun _ s' hq=>q_ (q_ hq))
 obtain⟨it,fp,tn,J,H2,rfl,I2,T,st2,f2,q⟩:=h2;refine jG (Q:=fun v H'=>D.nx (σ.set i (Γ v)) H') (XE:=XE) (RR:=fun acc V=>compPost (Κ X.prog X.w) X.A X.xe (Γ (assign (.Name y py) X.env)) (fun _ s'=>SP X pins D .next s') acc V.locals) hc S hg ht he I2 T st2 f2 q ?_ fun D' C' s3 H3 I3 hC' f3 e s' z=>wpAny_mono (hX pins σ H3 s3 C' _ I3 hC' f3 e s' z) (fun _ s'' q V hV _=>by subst hV;exact q) fun _ s'' q V hV _=>by subst hV;exact q
 intro D' C s' H' ⟨m,hn⟩ I' F' q' V hV _;subst hV;obtain⟨f0,f1,f2,f3,f4,f5⟩:=F';show Ι _ X.A (assign (.Name y py) X.env (.ref D')) _ _ _;refine wpAny_assign_Name (kx I' hN hiN (.inl hy) (show RelV (.ref D') (.ref D') from rfl) (fun s'' I'' ⟨a,sb,ha⟩=>?_) (.inr hy));have hCa:V.locals≠a:=by
  rcases ha with rfl|ha
  ·exact f1
  ·exact fun z=>f4 y a ha z.symm
 refine⟨m,hn.sameBut sb hCa,fun h' sb'=>⟨_,H',I''.turned (t':=s''.toks) (fun b o hb e=>(sb'.2 b hb).trans e) f0 f1 f3 f4 f5,q'⟩⟩
end
end L2
namespace PySem
open Sem (wp)
noncomputable def cxV:Option Ψ->Φ
 |none=>.none
 |some a=>.ref a
namespace Heap
def UpG (h h':Heap):Prop:=h.UpToSlots h'/\∀b o,h.get? b=Γ o->∃o',h'.get? b=Γ o'
theorem UpG.refl (h:Heap):h.UpG h:=⟨.refl h,fun _ o e=>⟨o,e⟩⟩
theorem UpG.trans {h₁ h₂ h₃:Heap}(x:h₁.UpG h₂)(y:h₂.UpG h₃):h₁.UpG h₃:=⟨x.1.trans y.1,fun b o e=>let ⟨o',e'⟩:=x.2 b o e;y.2 b o' e'⟩
def TracedAtD (h base:Heap)(e:Ψ)(cls:Φ)(a0:Option Ψ)(fl:Φ):Prop:=
 ∃oe vs T oT ts,h.get? e=Γ oe/\(oe.cls=cls/\vs[2]? = Γ (cxV a0))/\oe.data=.fields vs/\vs[1]? = Γ (.ref T)/\base.get? T=Ξ/\T≠e/\h.get? T=Γ oT/\oT.data=.fields ts/\ts[3]? = Γ fl
def NotedD (base:Heap)(l:List Env)(e:Ψ)(cls:Φ)(a0:Option Ψ)(fl:Φ)(h h':Heap):Prop:=
 base.StaysIn h'/\h'.FunFrames base l/\h'.TracedAtD base e cls a0 fl/\h.UpG h'
def FlyingD (base:Heap)(l:List Env)(e:Ψ)(cls:Φ)(a0:Option Ψ)(h:Heap):Prop:=
 base.StaysIn h/\base.get? e=Ξ/\h.FunFrames base l/\∃fl,h.TracedAtD base e cls a0 fl
theorem FlyingD.there {base h:Heap}{l:List Env}{e:Ψ}{cls:Φ}{a0:Option Ψ}(x:FlyingD base l e cls a0 h):∃ob,h.get? e=Γ ob/\ob.cls=cls:=by obtain⟨_,_,_,_,oe,_,_,_,_,he,hc,_⟩:=x;exact⟨oe,he,hc.1⟩
theorem FlyingD.first {base h:Heap}{l:List Env}{e:Ψ}{cls:Φ}{a0:Option Ψ}(x:FlyingD base l e cls a0 h):∃oe vs,h.get? e=Γ oe/\oe.cls=cls/\oe.data=.fields vs/\vs[2]? = Γ (cxV a0):=
 let ⟨_,_,_,_,oe,vs,_,_,_,he,hc,hd,_⟩:=x;⟨oe,vs,he,hc.1,hd,hc.2⟩
end Heap
section
variable {M:Model}{A:Η}{E:Φ->Ω->Prop}{s:Ω}
theorem qb {base:Heap}{env:Env}{outer:List Env}{L e:Ψ}{oe:Obj}{vs:Array Φ}{head:Φ}{a0:Option Ψ}{hadNext:Bool}{Q:Unit->Ω->Prop}
  (hfr:A.frames=Γ (env::outer)) (hl:s.heap.FunFrames base (env::outer)) (hf:env.frame=Γ L)
  (he:s.heap.get? e=Γ oe) (hkb:base.StaysIn s.heap) (hen:base.get? e=Ξ) (hd:oe.data=.fields vs) (hsz:1 < vs.size) (h0:vs[2]? = Γ (cxV a0))
  (h:∀h',Heap.NotedD base (env::outer) e oe.cls a0 (rawInt L) s.heap h'->Q () {s with heap:=h'}) :
  Ι M A (do let a <- frameOf env;let pl <- entryPlaceOf L hadNext;let b <- EntryCells.newEntry head a .none (rawInt L) .none pl;setField (.ref e) 1 b) Q E s:=by
 have hene:e∉(env::outer).filterMap (·.frame):=fun hm=>by obtain⟨_,o,ho,hnf⟩:=hl.mem hm;rw[he]at ho;injection ho with ho;subst ho;exact hnf vs hd
 refine g_ (wpAny_frameOf_fun hfr hl hf fun h₁ hs₁=>?_);refine g_ (wpAny_entryPlaceOf fun pl hpl=>?_);unfold EntryCells.newEntry newFields;refine g_ (wpAny_newObj_type ?_ (hpl.sizeOk5 _ _ _ _ _));have he₁:h₁.get? e=Γ oe:=(hs₁.2.1 e hene).trans he;have kb₁:base.StaysIn h₁:=fun b o hbo=>(hs₁.2.1 b fun hm=>by rw[(hl.mem hm).1]at hbo;cases hbo).trans (hkb b o hbo);have he₂:=v_ (h:=h₁) {cls:=.type "traceback",dict:=Ξ,data:=.fields ([head,.ref L,.none,rawInt L,.none]++(if pl.isEmpty then Ρ 6 Value.none else pl)).toArray} he₁;refine wpAny_setField he₂ hd hsz (h _ ?_);have hTe:h₁.objs.size≠e:=Nat.ne_of_gt (j_ he₁);have hd₃:=Obj.data_mapFields hd (·.setIfInBounds 1 (η h₁.objs.size));have he₃:=Ar (Obj.mapFields (·.setIfInBounds 1 (η h₁.objs.size))) he₂ (Obj.isFreed_of_fields hd₃)
 have hT₃:=(An (h₁.push {cls:=.type "traceback",dict:=Ξ,data:=.fields ([head,.ref L,.none,rawInt L,.none]++(if pl.isEmpty then Ρ 6 Value.none else pl)).toArray})
  (Obj.mapFields (·.setIfInBounds 1 (η h₁.objs.size))) (Ne.symm hTe)).trans (Aa h₁ rfl)
 have keep:∀b o,b≠e->h₁.get? b=Γ o->
   ((h₁.push {cls:=.type "traceback",dict:=Ξ,data:=.fields ([head,.ref L,.none,rawInt L,.none]++(if pl.isEmpty then Ρ 6 Value.none else pl)).toArray}).update e (Obj.mapFields (·.setIfInBounds 1 (η h₁.objs.size)))).get? b=Γ o:=
  fun b o hbe hb=>by rw[An _ _ (Ne.symm hbe)];exact v_ _ hb
 have noRecord:∀b o,s.heap.get? b=Γ o->(∀vs,o.data≠.fields vs)->b≠e:=fun b o hb hnf q=>by rw[q,he]at hb;injection hb with hb;subst hb;exact hnf vs hd
 refine⟨fun b o hbo=>keep b o (fun q=>by rw[q,hen]at hbo;cases hbo) (kb₁ b o hbo),hl.of_keeps fun b o hb hnf=>?_,?_,⟨fun b o hb hnf=>?_,fun b o hb=>?_⟩⟩
 ·obtain⟨sl,hs⟩:=hs₁.2.2 b o hb;exact⟨_,keep b _ (noRecord b o hb hnf) hs,rfl⟩
 ·exact⟨_,_,h₁.objs.size,_,_,he₃,⟨Obj.cls_mapFields _ _,by rw[Array.getElem?_setIfInBounds_ne (by decide)];exact h0⟩,hd₃,by simp[hsz],kb₁.fresh,hTe,hT₃,rfl,by first|(simp;done)|(rcases hpl with rfl|⟨_,_,_,_,_,_,_,rfl⟩<;>simp)⟩
 ·obtain⟨sl,hs⟩:=hs₁.2.2 b o hb;exact⟨sl,keep b _ (noRecord b o hb hnf) hs⟩
 ·obtain⟨sl,hs⟩:=hs₁.2.2 b o hb;by_cases q:b=e
  ·subst q;exact⟨_,he₃⟩
  ·exact⟨_,keep b _ q hs⟩
theorem nW {base:Heap}{env:Env}{outer:List Env}{L e:Ψ}{cls:Φ}{a0:Option Ψ}{Q:Unit->Ω->Prop}
  (hfr:A.frames=Γ (env::outer)) (hf:env.frame=Γ L) (hfl:Heap.FlyingD base (env::outer) e cls a0 s.heap)
  (h:∀h',Heap.FlyingD base (env::outer) e cls a0 h'->s.heap.UpG h'->Q () {s with heap:=h'}):Ι M A (noteFrame (.ref e) env) Q E s:=by
 obtain⟨hkb,hen,hl,fl,oe,vs,T,oT,ts,he,⟨hcls,h0⟩,hd,h1,hnT,hTe,hT,hdT,h3⟩:=id hfl;subst hcls;unfold noteFrame;simp only[hf];refine g_ (wpAny_field he hd h1 ?_);rw[d_ (show(η T != Value.none)=Δ from by simp)];refine g_ (wpAny_field hT hdT h3 ?_);by_cases hL:(fl == rawInt L)=Δ
 ·rw[d_ hL];exact q_ (h s.heap hfl (.refl _))
 rw[c_ hL];refine g_ (wpAny_setField hT hdT (Array.getElem?_eq_some_iff.mp h3).1 ?_);have other:∀b,b≠T->(s.heap.update T (Obj.mapFields (·.setIfInBounds 3 Value.none))).get? b=s.heap.get? b:=fun b hb=>An _ _ (Ne.symm hb);have noRecord:∀b o,s.heap.get? b=Γ o->(∀vs,o.data≠.fields vs)->b≠T:=fun b o hb hnf q=>by rw[q,hT]at hb;injection hb with hb;subst hb;exact hnf ts hdT
 refine qb hfr (hl.of_keeps fun b o hb hnf=>⟨o,(other b (noRecord b o hb hnf)).trans hb,rfl⟩) hf ((other e (Ne.symm hTe)).trans he)
  (fun b o hbo=>(other b fun q=>by rw[q,hnT]at hbo;cases hbo).trans (hkb b o hbo)) hen hd (Array.getElem?_eq_some_iff.mp h1).1 h0
  fun h' ⟨x1,x2,x3,x4⟩=>h h' ⟨x1,hen,x2,_,x3⟩ ⟨fun b o hb hnf=>x4.1 b o ((other b (noRecord b o hb hnf)).trans hb) hnf,fun b o hb=>?_⟩
 by_cases q:b=T
 ·subst q;exact x4.2 _ _ (Ar _ hT (Obj.isFreed_of_fields (Obj.data_mapFields hdT _)))
 ·exact x4.2 _ _ ((other b q).trans hb)
theorem gH {base:Heap}{l:List Env}{e:Ψ}{cls:Φ}{a0:Option Ψ}{fr:Option Ψ}{Q:Unit->Ω->Prop}(hfl:Heap.FlyingD base l e cls a0 s.heap)
  (h:∀h',Heap.FlyingD base l e cls a0 h'->s.heap.UpG h'->Q () {s with heap:=h'}):Ι M A (setFlight (.ref e) fr) Q E s:=by
 obtain⟨hkb,hen,hl,fl,oe,vs,T,oT,ts,he,hcls,hd,h1,hnT,hTe,hT,hdT,h3⟩:=hfl;have hsz3:3 < ts.size:=(Array.getElem?_eq_some_iff.mp h3).1;have other:∀b,b≠T->(s.heap.update T (Obj.mapFields (·.setIfInBounds 3 (fr.elim Value.none fun f=>rawInt f)))).get? b=s.heap.get? b:=
  fun b hb=>An _ _ (Ne.symm hb)
 have noRecord:∀b o,s.heap.get? b=Γ o->(∀vs,o.data≠.fields vs)->b≠T:=fun b o hb hnf q=>by rw[q,hT]at hb;injection hb with hb;subst hb;exact hnf ts hdT
 unfold setFlight;refine g_ (wpAny_field he hd h1 ?_);rw[d_ (show(η T != Value.none)=Δ from by simp)]
 refine wpAny_setField hT hdT hsz3 (h _ ⟨fun b o hbo=>(other b fun q=>by rw[q,hnT]at hbo;cases hbo).trans (hkb b o hbo),hen,
  hl.of_keeps fun b o hb hnf=>⟨o,(other b (noRecord b o hb hnf)).trans hb,rfl⟩,fr.elim Value.none fun f=>rawInt f,?_⟩ ⟨fun b o hb hnf=>⟨o.slots,(other b (noRecord b o hb hnf)).trans hb⟩,fun b o hb=>?_⟩)
 rotate_left
 ·by_cases q:b=T
  ·subst q;exact⟨_,Ar _ hT (Obj.isFreed_of_fields (Obj.data_mapFields hdT _))⟩
  ·exact⟨_,(other b q).trans hb⟩
 exact⟨oe,vs,T,_,_,(other e (Ne.symm hTe)).trans he,hcls,hd,h1,hnT,hTe,Ar _ hT (Obj.isFreed_of_fields (Obj.data_mapFields hdT _)),Obj.data_mapFields hdT _,by simp[hsz3]⟩
theorem sH {base:Heap}{env:Env}{outer:List Env}{L e:Ψ}{cls:Φ}{a0:Option Ψ}{Q:Unit->Ω->Prop}
  (hfr:A.frames=Γ (env::outer)) (hf:env.frame=Γ L) (hfl:Heap.FlyingD base (env::outer) e cls a0 s.heap)
  (hQ:∀h',Heap.FlyingD base outer e cls a0 h'->s.heap.UpG h'->Q () {s with heap:=h'}):Ι M A (leaving env (.ref e)) Q E s:=by
 unfold leaving;refine g_ (nW hfr hf hfl fun h1 f1 u1=>gH (s:={s with heap:=h1}) f1 fun h2 f2 u2=>hQ h2 ?_ (u1.trans u2));obtain⟨k1,k2,⟨_,_,k3⟩,k4⟩:=f2;exact⟨k1,k2,k3,k4⟩
theorem qc {base:Heap}{env:Env}{outer:List Env}{L e:Ψ}{oe:Obj}{vs:Array Φ}{cls:Φ}{a0:Option Ψ}{Q:Unit->Ω->Prop}
  (hfr:A.frames=Γ (env::outer)) (hl:s.heap.FunFrames base (env::outer)) (hf:env.frame=Γ L) (he:s.heap.get? e=Γ oe) (hcl:oe.cls=cls) (hkb:base.StaysIn s.heap) (hen:base.get? e=Ξ) (hd:oe.data=.fields vs)
  (h1:vs[1]? = Γ .none) (h0:vs[2]? = Γ (cxV a0))
  (hQ:∀h',Heap.FlyingD base (env::outer) e cls a0 h'->s.heap.UpG h'->Q () {s with heap:=h'}):Ι M A (noteFrame (.ref e) env) Q E s:=by
 subst hcl;unfold noteFrame;simp only[hf];refine g_ (wpAny_field he hd h1 ?_);rw[c_ (by decide)];exact qb hfr hl hf he hkb hen hd (Array.getElem?_eq_some_iff.mp h1).1 h0 fun h' ⟨x1,x2,x3,x4⟩=>hQ h' ⟨x1,hen,x2,_,x3⟩ x4
theorem qd {base h:Heap}{env:Env}{outer:List Env}{L e:Ψ}{cls:Φ}{args:List Φ}{Q:Unit->Ω->Prop}
  (hfr:A.frames=Γ (env::outer)) (hf:env.frame=Γ L) (hkb:base.StaysIn h) (hl:h.FunFrames base (env::outer)) (hx:Heap.MadeExcOf h s.heap e cls args)
  (hQ:∀h',Heap.FlyingD base outer e cls Ξ h'->s.heap.UpG h'->Q () {s with heap:=h'}):Ι M A (leaving env (.ref e)) Q E s:=by
 obtain⟨t,he,htn,ht⟩:=hx.there;have fresh:base.get? e=Ξ:=by
  cases hq:base.get? e with
  |none=>rfl
  |some o'=>have:=hkb e o' hq;rw[hx.new]at this;cases this
 unfold leaving;refine g_ (qc (cls:=cls) (a0:=Ξ) hfr (hl.of_keeps fun b o hb _=>⟨o,hx.keeps b o hb,rfl⟩) hf he rfl (fun b o hb=>hx.keeps b o (hkb b o hb)) fresh rfl rfl rfl fun h1 f1 u1=>gH (s:={s with heap:=h1}) f1 fun h2 f2 u2=>hQ h2 ?_ (u1.trans u2));obtain⟨k1,k2,⟨_,_,k3⟩,k4⟩:=f2;exact⟨k1,k2,k3,k4⟩
theorem sI {e:Φ}{env env':Env}(h:env.frame=env'.frame):noteFrame e env=noteFrame e env':=by unfold noteFrame frameOf;rw[h]
theorem mi {B h h':Heap}{l:List Env}{a C:Ψ}{cls:Φ}{dx:Option Ψ}(f:Heap.FlyingD B l a cls dx h)(sb:Heap.SameBut C h h')(hd:∃o,h.get? C=Γ o/\∀vs,o.data≠.fields vs)(hl:∀env∈l,env.frame≠Γ C) :
  Heap.FlyingD (W.hideAll B [C]) l a cls dx h':=by
 obtain⟨f1,f2,f3,fl,oe,vs,T,oT,ts,he,hc,hde,h1,hnT,hTe,hT,hdT,h3⟩:=f;obtain⟨oC,hoC,hnf⟩:=hd;have hh:∀ {b:Ψ},B.get? b=Ξ->(W.hideAll B [C]).get? b=Ξ:=fun {b} n=>by
  cases q:(W.hideAll B [C]).get? b with
  |none=>rfl
  |some o=>rw[W.of_hideAll _ q]at n;cases n
 have ne:∀ {b:Ψ}{o:Obj}{us:Array Φ},h.get? b=Γ o->o.data=.fields us->b≠C:=fun {b o us} e d q=>by subst q;rw[hoC]at e;cases e;exact hnf us d
 refine⟨fun b o e=>?_,hh f2,?_,fl,oe,vs,T,oT,ts,(sb.2 a (ne he hde)).trans he,hc,hde,h1,hh hnT,hTe,(sb.2 T (ne hT hdT)).trans hT,hdT,h3⟩
 ·have hb:b≠C:=by rintro rfl;rw[W.hideAll_none [b] (Ag.mpr rfl)]at e;cases e
  exact(sb.2 b hb).trans (f1 b o (W.of_hideAll _ e))
 ·clear he hc hde h1 hnT hTe hT hdT h3 f1 f2
  induction l with
  |nil=>trivial
  |cons env l ih=>obtain⟨hk,⟨L,o,hf,hn,ho,hd⟩,hr⟩:=f3;exact⟨hk,⟨L,o,hf,hh hn,(sb.2 L fun q=>hl env (by simp) (q ▸ hf)).trans ho,hd⟩,ih (fun e he=>hl e (s_ _ he)) hr⟩
theorem xB {α:Type}{base:Heap}{l:List Env}{e:Ψ}{cls:Φ}{a0:Option Ψ}{what:String}{env:Env}{Q:α->Ω->Prop}(hfl:Heap.FlyingD base l e cls a0 s.heap)
  (h:∀h',Heap.FlyingD base l e cls a0 h'->s.heap.UpG h'->E (.ref e) {s with heap:=h'}):Ι M A (passOn what (.ref e) env:Sem α) Q E s:=by
 obtain⟨_,_,_,fl,oe,vs,T,oT,ts,he,hcls,hd,h1,_⟩:=id hfl;unfold passOn;refine g_ (wpAny_field he hd h1 ?_);rw[c_ (by simp)];exact g_ (gH hfl fun h' f u=>wpAny_throw (h h' f u))
end
end PySem
namespace L2
open PySem PySem.Spec PyProof.Rows PySem.SeqAt
section
variable {prog:Β}{w:Α}{A:Η}{E:Φ->Ω->Prop}{s:Ω}
theorem nj:typeLookup (.type "list_reverseiterator") "__len__" = pure Ξ:=by rw[typeLookup_type,builtinLookup_eq_fast];kernel_rfl
theorem qe:typeLookup (.type "list_reverseiterator") "__length_hint__" = pure (Γ (.builtin "list_reverseiterator.__length_hint__")):=by rw[typeLookup_type,builtinLookup_eq_fast];kernel_rfl
theorem jH {I l:Ψ}{i:Int}{Q:Bool->Ω->Prop}(hit:s.heap.IsRevIter I l i)(h:Q Θ s):Ι (Κ prog w) A (Builtin.List.listLengthHint (.ref I)) Q E s:=by
 unfold Builtin.List.listLengthHint;refine g_ (wpAny_specialOf hit.typeIs nj ?_);show Ι _ A (specialOf (η I) (Ο "__length_hint__") >>= _) _ _ _;refine g_ (wpAny_specialOf hit.typeIs qe ?_);generalize hid:("list_reverseiterator.__length_hint__" : String)=id0
 wp_delta
 rw[show splitId id0=Γ ("list_reverseiterator","__length_hint__") from by subst hid;decide +kernel];subst hid;refine g_ (wpAny_isInstance (T:="list_reverseiterator") (b:=Δ) hit.typeIs (by rw[isSubtype_type];kernel_rfl) ?_);refine wpAny_ite_split (fun hab=>absurd hab (by decide)) (fun _=>?_);refine wpAny_ite_split (fun _=>?_) (fun hab=>absurd (by decide +kernel) hab);refine wpAny_ite_split (fun hab=>absurd hab (by decide +kernel)) (fun _=>?_);exact q_ h
theorem ja {R:Result->Ω->Prop}(hh:A.handled=Ξ)(I l S:Ψ)(items:Array Φ)(hne:l≠I)(res:Φ)(c₀:Nat)(hit:s.heap.IsRevIter I l ((items.size:Int) - 1))(hl:s.heap.IsList l items)(hSI:S≠I)(hSl:S≠l)
  (hS:s.heap.get? S=Γ {cls:=.type "list",data:=.seq #[] c₀})
  (hR:∀h' tk acc' c',(∀b o,b≠S->b≠I->s.heap.get? b=Γ o->h'.get? b=Γ o)->h'.get? S=Γ {cls:=.type "list",dict:=Ξ,data:=.seq acc' c',slots:=#[]}->
   ItemsOf (fun i v=>items[items.size - 1 - i]? = Γ v) acc' items.size->R (.ok (.ret res)) {s with heap:=h',toks:=tk}) (hn:items.size<=Ε) :
  Ι (Κ prog w) A.in1 (Υ (.ref S) (.ref I) res)
   (fun fin s'=>match fin with|.done f=>R (.ok f) s'|.again c'=>c'.quiet=Δ/\codeAny (Κ prog w) A c' R s') (fun e s'=>R (.error e) s') s:=by
 have hSf:S∉[I,l]:=fun hm=>by
  rcases p_.mp hm with e|hm
  ·exact hSI e
  ·exact hSl (Ag.mp hm)
 unfold Υ;refine g_ (wpAny_typeOf hit.typeIs ?_);have h1:Builtin.List.listSameRef (.ref S) (.ref I)=Θ:=by simp[Builtin.List.listSameRef,hSI]
 have h2:(Value.type "list_reverseiterator" == Value.type "list")=Θ:=by decide
 have h3:(Value.type "list_reverseiterator" == Value.type "tuple")=Θ:=by decide
 simp only[h1,h2,h3,Bool.or_false,Bool.false_eq_true,if_false];refine g_ (wpAny_pyIter_revIter hit ?_);refine g_ (Ae (jH hit ?_));refine wpAny_ite_split (fun hab=>absurd hab (by decide)) (fun _=>?_);have W:=(Walks.listRev (prog:=prog) (w:=w) (A:=A.in1) hh I l hne items).toS;refine q_ ⟨plainId_quiet F.plain_extend_loop _,codeAny_extend_loopS W hn S hSf res items.size 0 _ #[] c₀ rfl (Nat.zero_le _) ⟨Nat.zero_le _,by simpa using hit,hl⟩ hS (ItemsOf.nil _) fun s' acc' c' hm hS' hacc=>?_⟩;rw[Moved.eq_with hm];refine hR s'.heap s'.toks acc' c' (fun b o hb hb' e=>hm.heap b o (fun hmem=>?_) e) hS' hacc;rcases p_.mp hmem with e'|hmem
 ·exact hb e'
 ·exact hb' (Ag.mp hmem)
theorem kl {Q:Φ->Ω->Prop}(hh:A.handled=Ξ)(I l:Ψ)(items:Array Φ)(hne:l≠I)(hit:s.heap.IsRevIter I l ((items.size:Int) - 1))(hl:s.heap.IsList l items)
  (hQ:∀h' tk acc' c',(∀b o,b≠I->s.heap.get? b=Γ o->h'.get? b=Γ o)->
   h'.get? s.heap.objs.size=Γ {cls:=.type "list",dict:=Ξ,data:=.seq acc' c',slots:=#[]}->ItemsOf (fun i v=>items[items.size - 1 - i]? = Γ v) acc' items.size->Q (.ref s.heap.objs.size) {s with heap:=h',toks:=tk}) (hn:items.size<=Ε) :
  Ι (Κ prog w) A (call (.type "list") [.ref I]) Q E s:=by
 have ltI:I < s.heap.objs.size:=by obtain⟨o,e,_⟩:=hit;exact j_ e
 have ltl:l < s.heap.objs.size:=by obtain⟨o,e,_⟩:=hl;exact j_ e
 refine callType_codes (Q₁:=fun obj s₁=>obj=.ref s.heap.objs.size/\s₁ = {s with heap:=s.heap.push {cls:=.type "list",data:=.seq #[]}}) F.called_list (F.typeCall_list_1 _) F.entry_list_init
  (code_list_new _ ⟨rfl,rfl⟩) fun obj s₁ h₁=>?_
 obtain⟨rfl,rfl⟩:=h₁;have hS:(s.heap.push {cls:=.type "list",data:=.seq #[]}).get? s.heap.objs.size=Γ {cls:=.type "list",data:=.seq #[]}:=Aa _ rfl;refine⟨⟨_,hS,rfl⟩,F.args_list_init_2 _ _,?_⟩;show Ι _ _ (do let old <- Builtin.List.listItems (.ref s.heap.objs.size);Builtin.List.listUpdate (.ref s.heap.objs.size) (fun _=>#[]);letGo old.toList.reverse;Υ (.ref s.heap.objs.size) (.ref I) .none) _ _ _;refine g_ ?_;unfold Builtin.List.listItems;refine g_ (wpAny_seqItems hS rfl (q_ ?_));show Ι _ _ (updateSeq s.heap.objs.size (fun _=>#[]) >>= fun _=>letGo (#[]:Array Φ).toList.reverse >>= fun _=>Υ (.ref s.heap.objs.size) (.ref I) .none) _ _ _;refine g_ (wpAny_updateSeq hS rfl ?_);have hS₂:=Ar (θ (fun _=>(#[]:Array Φ))) hS rfl;have oth:∀b o,b≠s.heap.objs.size->s.heap.get? b=Γ o->((s.heap.push {cls:=.type "list",data:=.seq #[]}).update s.heap.objs.size (θ (fun _=>(#[]:Array Φ)))).get? b=Γ o:=
  fun b o hb e=>(An _ _ (Ne.symm hb)).trans (v_ _ e)
 refine g_ (wpAny_letGo ?_);refine ja (A:=A.in1) hh I l _ items hne .none _ (hit.at fun o e=>oth I o (u_ ltI) e) (hl.at fun o e=>oth l o (u_ ltl) e) (Nat.ne_of_gt ltI) (Nat.ne_of_gt ltl) hS₂ (fun h' tk acc' c' hk hS' hacc=>?_) hn;exact⟨rfl,hQ h' tk acc' c' (fun b o hb e=>hk b o (u_ (j_ e)) hb (oth b o (u_ (j_ e)) e)) hS' hacc⟩
end
section
variable {X:Cx}{e:Expr}{t:TE}{p p' pos pos':Pos}
theorem Vals.rev:∀ {xs:List V}{us:List Φ},Vals xs us->Vals xs.reverse us.reverse
 |[],[],_=>.nil
 |x::xs,u::us,.cons r rs=>by rw[List.reverse_cons,List.reverse_cons];exact(Vals.rev rs).append (.cons r .nil)
theorem sJ (hc:X.calm=Δ)(g1:Gl X "list") (m1:X.mg "list" = Ξ) (g2:Gl X "reversed") (m2:X.mg "reversed" = Ξ) (he:PE X e t) (hst:∀es,Μ (e::es) X.env=(Θ,eval e X.env)::Μ es X.env) :
  PE X (.Call (.Name "list" p) [.Call (.Name "reversed" p') [e] [] pos'] [] pos) (fun σ H Q=>t σ H fun v H1=>∃l ys,v=.ref l/\SqL X.K H1 l ys/\∀q,H1 q=Ξ->Q (.ref q) (upd H1 q (.lst ys.reverse))):=by
 intro pins s σ H Q I h;refine Au (i6 (u:=.type "list") I g1 m1 (by decide +kernel) ?_ (by decide) (by decide));refine PyProof.Rows.callWith_type1 ?_ rfl rfl;show Ι _ _ (spliced ((Θ,eval (.Call (.Name "reversed" p') [e] [] pos') X.env)::backTo pos (Μ [] X.env))) _ _ s;have key:Ι (Κ X.prog X.w) X.A (eval (.Call (.Name "reversed" p') [e] [] pos') X.env) (fun u s1=>∃s0 l ys its H1,Inv X pins σ H1 s0/\Vals ys its/\s0.heap.IsList l its.toArray/\ys.length<=Ε/\u=.ref s0.heap.objs.size/\s1 = {s0 with heap:=s0.heap.push (revObj l ((its.toArray.size:Int) - 1))}/\∀q,H1 q=Ξ->Q (.ref q) (upd H1 q (.lst ys.reverse))) X.xe s:=by refine Au (i6 (u:=.type "reversed") I g2 m2 (by decide +kernel) ?_ (by decide) (by decide));refine PyProof.Rows.callWith_type1 ?_ (hst []) rfl;rw[hst []];show Ι _ _ (spliced ((Θ,eval e X.env)::backTo pos' (Μ [] X.env))) _ _ s;refine Calls.spliced_cons (thn (he pins s σ H _ I h) fun u s1 ⟨x,H1,I1,r1,l,ys,ex,hq,q1⟩=>?_);subst ex;cases r1;refine Calls.spliced_nil ?_;obtain⟨its,r',pl,hz⟩:=I1.list hq;exact call_reversed_list pl.isList ⟨s1,l,ys,its,H1,I1,r',pl.isList,hz,rfl,rfl,q1⟩
 refine Calls.spliced_cons (thn key fun u s1 ⟨s0,l,ys,its,H1,I1,rv,hl,hz,eu,es,q1⟩=>?_);subst eu es;refine Calls.spliced_nil ?_;have hlen:=rv.length;have ltl:l < s0.heap.objs.size:=by obtain⟨o,e,_⟩:=hl;exact j_ e
 have hit:(s0.heap.push (revObj l ((its.toArray.size:Int) - 1))).IsRevIter s0.heap.objs.size l ((its.toArray.size:Int) - 1):=⟨_,Aa _ rfl,rfl,rfl⟩
 have hl':(s0.heap.push (revObj l ((its.toArray.size:Int) - 1))).IsList l its.toArray:=hl.at fun o e=>v_ _ e;have hsz:(s0.heap.push (revObj l ((its.toArray.size:Int) - 1))).objs.size=s0.heap.objs.size+1:=Heap.size_push ..;refine kl (s:={s0 with heap:=s0.heap.push (revObj l ((its.toArray.size:Int) - 1))}) (show X.A.handled=Ξ from I.ok.hd hc) s0.heap.objs.size l its.toArray (u_ ltl) hit hl' (fun h' tk acc' c' kp e hacc=>?_) (by simp only[zU]<;>omega);have ha:acc'=(its.reverse).toArray:=by
  apply Array.ext
  ·rw[hacc.1];simp
  ·intro i h1 h2;have:=hacc.2 i acc'[i] (Array.getElem?_eq_getElem h1);rw[hacc.1]at h1;have h3:i < its.length:=by simpa using h1
   simp only[zU,List.getElem?_toArray]at this;rw[Aw (by omega)]at this;have:=zZ this;rw[<- this];simp[List.getElem_reverse]
 subst ha;exact⟨.ref _,_,I1.laid (t':=tk) (fun b o e=>kp b o (u_ (j_ e)) (v_ _ e)) (by show s0.heap.objs.size<=(s0.heap.push _).objs.size;rw[hsz];exact Nat.le_succ _) (show fN X.prog X.w _ h' _ (.lst ys.reverse) from⟨by simpa using hz,its.reverse,c',rv.rev,e⟩),rfl,q1 _ (I1.hok.fresh (by show s0.heap.objs.size<=(s0.heap.push _).objs.size;rw[hsz];exact Nat.le_succ _))⟩
end
section
variable {X:Cx}
theorem mj {x:Str}{n:Int}(h0 : -16000<=n)(h1:n<=16000)(hx:x.length<=1000):MulOk x n:=by
 refine⟨?_,fun hn _=>?_,fun hn _=>?_⟩
 ·rw[Bool.or_eq_false_iff];exact⟨w_ (by omega),w_ (by omega)⟩
 ·have:(1000:Int)<=(2 ^ 63 - 1) / n:=Int.le_ediv_of_mul_le (by omega) (by omega);omega
 ·have:x.length*n.toNat<=1000*16000:=Nat.mul_le_mul hx (by omega);unfold Builtin.Str.tooLong;exact w_ (by rw[sizeLine_eq];omega)
theorem nk:OpR X (binaryOp .Mult) (fun x y H Q=>∃i j,x=.str i/\y=.int j/\-16000<=j/\j<=16000/\i.length<=1000/\Q (.str (Txt.mul i j)) H):=by intro pins s σ H x y v u Q I rx ry h;obtain⟨i,j,rfl,rfl,h0,h1,hz,q⟩:=h;obtain⟨t,rfl⟩:=rx;obtain⟨t',rfl⟩:=ry;exact SB.mul (mj h0 h1 hz) fun t' tk=>⟨.str (Txt.mul i j),H,I.tok _,⟨_,rfl⟩,q⟩
noncomputable def gL (z:Str):List V:=z.cps.toList.map fun c=>.str ⟨#[c]⟩
theorem jI {z:Str}{acc':Array Φ}(hacc:ItemsOf (SignAt z) acc' z.cps.size):Vals (gL z) acc'.toList:=by
 have hl:acc'.toList.length=z.cps.toList.length:=by rw[Array.length_toList,Array.length_toList,hacc.1]
 have key:∀(cs:List Nat) (vs:List Φ),vs.length=cs.length->(∀(i:Nat) (v:Φ),vs[i]? = Γ v->∃c u,cs[i]? = Γ c/\v=Value.str ⟨#[c]⟩ u)->Vals (cs.map fun c=>V.str ⟨#[c]⟩) vs:=by
  intro cs
  induction cs with
  |nil=>
   intro vs hl _
   induction vs using zL with
   |nil=>exact .nil
   |cons _ _=>cases hl
  |cons c cs ih=>
   intro vs hl hv
   induction vs using zL with
   |nil=>cases hl
   |cons v vs=>
    obtain⟨c',u,e1,e2⟩:=hv 0 v rfl;have e1':c=c':=by simpa using e1
    subst e1' e2;exact .cons ⟨u,rfl⟩ (ih vs (by simpa using hl) fun i w hw=>by simpa using hv (i+1) w (by simpa using hw))
 refine key _ _ hl fun i v hv=>?_;obtain⟨c,u,e1,e2⟩:=hacc.2 i v (by rw[<- Array.getElem?_toList];exact hv);exact⟨c,u,by rw[Array.getElem?_toList];exact e1,e2⟩
theorem iC (hc:X.calm=Δ):f6 X (.type "list") (fun xs H Q=>∃z:Str,xs=[.str z]/\z.length<=Ε/\∀l,H l=Ξ->Q (.ref l) (upd H l (.lst (gL z)))):=by intro pins s σ H xs us Q I r h;obtain⟨z,rfl,hz,q⟩:=h;obtain⟨u,rfl,t,rfl⟩:=vals1 r;refine call_list_str (show X.A.handled=Ξ from I.ok.hd hc) z t (fun h' tk acc' c' kp e hacc=>?_) hz;have rv:=jI hacc;exact⟨.ref _,_,I.laid (t':=tk) kp (k_ _) (show fN X.prog X.w _ h' _ (.lst (gL z)) from⟨by unfold gL;simpa[Str.length] using hz,acc'.toList,c',rv,by simpa using e⟩),rfl,q _ (I.hok.fresh (k_ _))⟩
theorem jJ (hc:X.calm=Δ):f6 X (.type "tuple") (fun xs H Q=>∃z:Str,xs=[.str z]/\z.length<=Ε/\∀l,H l=Ξ->Q (.ref l) (upd H l (.tup (gL z)))):=by intro pins s σ H xs us Q I r h;obtain⟨z,rfl,hz,q⟩:=h;obtain⟨u,rfl,t,rfl⟩:=vals1 r;refine call_tuple_str (hsz:=hz) (show X.A.handled=Ξ from I.ok.hd hc) z t (fun h' tk acc kp hacc=>?_);have rv:=jI hacc;have I1:Inv X pins σ H {s with heap:=h',toks:=tk}:=I.kept (t':=tk) kp;exact⟨.ref _,_,I1.laid (t':=tk) (fun b o e=>v_ _ e) (k_ _) (show fN X.prog X.w _ _ _ (.tup (gL z)) from⟨by unfold gL;simpa[Str.length] using hz,acc.toList,rv,by simpa using IsTup.new h' acc⟩),rfl,q _ (I1.hok.fresh (k_ _))⟩
end
open PySem.W
open PySem.Builtin PySem.Builtin.Str
section
variable {X:Cx}
theorem sL {x:Str}{e:Expr}{j:Nat}{p q pos:Pos}{t:TE}(hx:x.length<=1000)(h:PE X e t) :
  PE X (.JoinedStr [.Constant (.str x) j p,.FormattedValue e 114 Ξ q] pos) (fun σ H Q=>t σ H fun v H'=>∃z,v=.str z/\x.length+(reprText z).length<=Ε/\Q (.str (x++reprText z)) H'):=by
 intro pins s σ H Q I hq;have hs:Ε=16777216:=sizeLine_eq;refine JoinedStr_many (joinParts_cons (thn (jA (X:=X) (x:=x) (j:=j) (pos:=p) pins s σ H (fun v H'=>v=.str x/\H'=H) I ⟨rfl,rfl⟩) fun v s1 ⟨y,H1,I1,r1,e1,e2⟩=>?_));subst e1 e2;obtain⟨t1,rfl⟩:=r1;have ex:Str.empty++x=x:=Str.empty_append x;refine⟨by rw[ex];omega,?_⟩;rw[ex];refine joinParts_cons (wpAny_FormattedValue_repr (thn (h pins s1 σ _ _ I1 hq) fun v s2 ⟨y,H2,I2,r2,z,e2,hz,q2⟩=>?_));subst e2;obtain⟨t2,rfl⟩:=r2;refine pyReprObj_str ?_ (by omega);refine formatField_str (fun t' tk=>⟨by rw[strLen_append];exact hz,?_⟩) (by omega);exact joinParts_nil ⟨.str _,H2,(I2.tok _).tok _,⟨_,rfl⟩,q2⟩ (by rw[strLen_append];exact hz)
theorem sM {x w:Str}{e:Expr}{j j':Nat}{p q r pos:Pos}{t:TE}(hx:x.length<=1000)(h:PE X e t) :
  PE X (.JoinedStr [.Constant (.str x) j p,.FormattedValue e 114 Ξ q,.Constant (.str w) j' r] pos) (fun σ H Q=>t σ H fun v H'=>∃z,v=.str z/\x.length+(reprText z).length+w.length<=Ε/\Q (.str (x++reprText z++w)) H'):=by
 intro pins s σ H Q I hq;have hs:Ε=16777216:=sizeLine_eq;refine JoinedStr_many (joinParts_cons (thn (jA (X:=X) (x:=x) (j:=j) (pos:=p) pins s σ H (fun v H'=>v=.str x/\H'=H) I ⟨rfl,rfl⟩) fun v s1 ⟨y,H1,I1,r1,e1,e2⟩=>?_));subst e1 e2;obtain⟨t1,rfl⟩:=r1;have ex:Str.empty++x=x:=Str.empty_append x;refine⟨by rw[ex];omega,?_⟩;rw[ex];refine joinParts_cons (wpAny_FormattedValue_repr (thn (h pins s1 σ _ _ I1 hq) fun v s2 ⟨y,H2,I2,r2,z,e2,hz,q2⟩=>?_));subst e2;obtain⟨t2,rfl⟩:=r2;refine pyReprObj_str ?_ (by omega);refine formatField_str (fun t' tk=>⟨by rw[strLen_append];omega,?_⟩) (by omega);refine joinParts_cons (thn (jA (X:=X) (x:=w) (j:=j') (pos:=r) pins _ σ H2 (fun v H'=>v=.str w/\H'=H2) ((I2.tok _).tok _) ⟨rfl,rfl⟩) fun v s3 ⟨y,H3,I3,r3,e3,e4⟩=>?_);subst e3 e4;obtain⟨t3,rfl⟩:=r3;refine⟨by rw[strLen_append,strLen_append];omega,?_⟩;exact joinParts_nil ⟨.str _,_,I3.tok _,⟨_,rfl⟩,q2⟩ (by rw[strLen_append,strLen_append];omega)
theorem ig:∀l:List (Str×Tok),Vals ((l.map (·.1)).map V.str) (strValues l)
 |[]=>.nil
 |p::r=>.cons ⟨p.2,rfl⟩ (ig r)
theorem sN {K:Frag}{H:Hp}{a:Ψ}{od:Option Ψ}{n:Nat}{sl:Array (Option Φ)}(l:List (Str×Tok))(h:K.lookup a=Γ ⟨.type "tuple",od,.seq (strValues l).toArray n,sl⟩) (hz:l.length<=1000):SqT K H a ((l.map (·.1)).map V.str):=by
 have hs:Ε=16777216:=sizeLine_eq;refine .inr ⟨_,_,_,h,rfl,rfl,?_,ig l⟩;have e:(strValues l).length=l.length:=by rw[<- (ig l).length,h_,h_]
 show(strValues l).toArray.size<=Ε;rw[zU];omega
end
section
variable {X:Cx}
theorem lj:f6 X (.type "int") (fun xs H Q=>∃x n,xs=[.str x]/\x.length<=640/\PySem.intText? x=Γ n/\Q (.int n) H):=by intro pins s σ H xs us Q I r h;obtain⟨x,n,rfl,hz,hn,q⟩:=h;obtain⟨u,rfl,t,rfl⟩:=vals1 r;exact PySem.W.KIN.call_text hn hz ⟨.int _,H,I.tok _,⟨_,rfl⟩,q⟩
theorem o9 {P:Β}{w:Α}{A:Η}{E:Φ->Ω->Prop}{s:Ω}{x y:Str}{t u:Tok}{Q:Φ->Ω->Prop}(hy:y.length≠0)(hx:x.length+2<=Ε)
  (k:∀(l:List (Str×Tok)) (n:Nat),l.map (·.1)=Txt.split x y->Q (.ref s.heap.objs.size) {s with heap:=s.heap.push {cls:=.type "list",data:=.seq (strValues l).toArray},toks:=n}) :
  Ι (Κ P w) A (call (.builtin "str.split") [.str x t,.str y u]) Q E s:=by
 have h0:(y.length == 0)=Θ:=by simpa using hy
 have hm:(partsBetween x (occurrences x y 0 x.length (x.length+1)) y.length).length<=Ε:=by have:=StrLaws.occ_length_le x y 0 x.length (x.length+1);rw[length_partsBetween];omega
 by_cases c1:(decide (x.length < y.length)||decide (strKind x < strKind y))=Δ
 ·refine call_meets F.slot_str_split (typeIs_str _ _ _) F.entry_str_split (F.args_str_split_2 _ _) (meets_str_split_cannot_occur x y t u c1) ?_;exact k [(x,t)] s.toks (d_ c1).symm
 ·have c1':=Bool.eq_false_iff.mpr c1;by_cases c2:(occurrences x y 0 x.length (x.length+1)).isEmpty=Δ
  ·refine call_meets F.slot_str_split (typeIs_str _ _ _) F.entry_str_split (F.args_str_split_2 _ _) (meets_str_split_not_found x y t u c1' h0 c2) ?_;exact k [(x,t)] s.toks ((c_ c1).trans (d_ c2)).symm
  ·refine call_meets F.slot_str_split (typeIs_str _ _ _) F.entry_str_split (F.args_str_split_2 _ _) (meets_str_split_sep x y t u c1' h0 (Bool.eq_false_iff.mpr c2) (by omega) hm) ?_;have e:=k (numbered s.toks (partsBetween x (occurrences x y 0 x.length (x.length+1)) y.length)) (s.toks+(partsBetween x (occurrences x y 0 x.length (x.length+1)) y.length).length) ((numbered_texts _ _).trans ((c_ c1).trans (c_ c2)).symm);rw[<- strsFrom_eq]at e;exact e
theorem qf {pins:List (Ψ×Obj)}{s:Ω}{σ:St}{H:Hp}{x y:Str}{t u:Tok}{Q:VK}(I:Inv X pins σ H s)(hy:y.length≠0)(hx:x.length+2<=Ε)
  (k:∀p,H p=Ξ->Q (.ref p) (upd H p (.lst ((Txt.split x y).map V.str)))):Ι (Κ X.prog X.w) X.A (call (.builtin "str.split") [.str x t,.str y u]) (EP X pins σ Q) X.xe s:=by
 refine o9 hy hx fun l n e=>?_;refine⟨.ref _,_,I.laid (t':=n) (fun b o z=>v_ _ z) (k_ _) (show fN X.prog X.w _ _ _ (.lst ((Txt.split x y).map V.str)) from⟨?_,strValues l,0,?_,Aa _ rfl⟩),rfl,k _ (I.hok.fresh (k_ _))⟩
 ·have:=split_le x y;rw[h_];omega
 ·rw[<- e];exact ig l
end
end L2
namespace L2.Zp
open PySem
end L2.Zp
namespace L2
open PySem PySem.Spec PyProof.Rows
end L2
namespace L2.Zp
open PySem
end L2.Zp
namespace L2
open PySem PySem.Spec PyProof.Rows
end L2
namespace L2.Se
open PySem
open PyProof.Rows
section
variable {prog:Β}{w:Α}{A:Η}{E:Φ->Ω->Prop}{s:Ω}
instance:Inhabited Str:=⟨⟨#[]⟩⟩
end
end L2.Se
namespace L2.Sv
open PySem PyProof.Rows
end L2.Sv
namespace L2
open PySem PySem.Spec PyProof.Rows PySem.SeqAt
end L2
namespace L2.Sx
open PySem PyProof.Rows
end L2.Sx
namespace L2
open PySem PySem.Spec PyProof.Rows
end L2
namespace L2.Dp
open PySem PyProof.Rows
end L2.Dp
namespace L2
open PySem PySem.Spec PyProof.Rows
open PySem.SeqAt
section
variable {X:Cx}
theorem Inv.dct {pins:List (Ψ×Obj)}{σ:St}{H:Hp}{s:Ω}{p:Ψ}{kvs:List (Key×V)}(I:Inv X pins σ H s)(e:Rd H p (.dK kvs)):kvs.length<=Ε/\(p == sysModules)=Θ/\∃vs o es ep,KV kvs vs/\s.heap.get? p=Γ o/\o.data=.dict es ep/\s.heap.DictAt (jv X.prog X.w) p vs ep:=by obtain⟨h1,h2,vs,kv,o,es,ep,ho,c,hd,r⟩:=e.ok I.hok;exact⟨h1,h2,vs,o,es,ep,kv,ho,hd,o,es,ho,c,hd,r⟩
theorem KV.len {κ:Type}{kvs:List (κ×V)}{vs:List (κ×Φ)}(r:KV kvs vs):kvs.length=vs.length:=Paired.length r
theorem pd:f6 X (.builtin "len") (fun xs H Q=>∃(p:Ψ) (kvs:List (Key×V)),xs=[.ref p]/\Rd H p (.dK kvs)/\Q (.int kvs.length) H):=by intro pins s σ H xs us Q I r h;obtain⟨p,kvs,rfl,hp,q⟩:=h;obtain⟨u,rfl,rx⟩:=vals1 r;cases rx;obtain⟨hz,lo,vs,o,es,ep,kv,ho,hd,hm⟩:=I.dct hp;have hs:Ε=16777216:=sizeLine_eq;have hl:=kv.len;exact call_len_dict lo hm.dictOf (by omega) ⟨.int kvs.length,H,I.tok _,⟨_,by rw[hl]⟩,q⟩
end
inductive D where
 | non|bl (b:Bool)|int (i:Int)|str (x:Str)|tup (ds:List D)|lst (own:Bool) (ds:List D)|exc (c:Str)|dct (own:Bool) (ks:List Key) (ds:List D)
 deriving Inhabited
mutual
noncomputable def er:D->D
 |.tup ds=>.tup (ers ds)
 |.lst _ ds=>.lst Θ (ers ds)
 |.dct _ ks ds=>.dct Θ ks (ers ds)
 |.non=>.non
 |.bl b=>.bl b
 |.int i=>.int i
 |.str x=>.str x
 |.exc c=>.exc c
noncomputable def ers:List D->List D
 |[]=>[]
 |d::ds=>er d::ers ds
end
mutual
noncomputable def e7:D->Bool
 |.tup ds=>eS ds
 |.lst _ _=>Θ
 |.dct _ _ _=>Θ
 |.non=>Δ
 |.bl _=>Δ
 |.int _=>Δ
 |.str _=>Δ
 |.exc _=>Δ
noncomputable def eS:List D->Bool
 |[]=>Δ
 |d::ds=>e7 d&&eS ds
end
theorem ij:∀ds:List D,ers ds=ds.map er
 |[]=>rfl
 |d::ds=>by rw[ers,ij ds];rfl
theorem gw:∀ds:List D,eS ds=ds.all e7
 |[]=>rfl
 |d::ds=>by rw[eS,gw ds];rfl
theorem gi (ds:List D):(ers ds).length=ds.length:=by rw[ij,h_]
mutual
theorem qg:∀ {d:D},e7 d=Δ->er d=d
 |.non,_=>rfl
 |.bl _,_=>rfl
 |.int _,_=>rfl
 |.str _,_=>rfl
 |.exc _,_=>rfl
 |.tup ds,h=>by rw[er,fY (ds:=ds) h]
 |.lst o ds,h=>by cases(show Θ=Δ from h)
 |.dct o ks ds,h=>by cases(show Θ=Δ from h)
theorem fY:∀ {ds:List D},eS ds=Δ->ers ds=ds
 |[],_=>rfl
 |d::ds,h=>by have h':(e7 d&&eS ds)=Δ:=h;rw[e_]at h';rw[ers,qg h'.1,fY h'.2]
end
inductive Exc where
 | stuck|exc (c:Str)
abbrev Res (α:Type):=Except Exc α
noncomputable abbrev stk {α:Type}:Res α:=.error .stuck
noncomputable def bnd {α β:Type}(x:Res α)(f:α->Res β):Res β:=match x with
 |.ok a=>f a
 |.error e=>.error e
noncomputable def grd {α:Type}(c:Bool)(x:Res α):Res α:=if c=Δ then x else stk
def PO' {α:Type}(ex:Str->Prop)(x:Res α)(k:α->Prop):Prop:=match x with
 |.ok a=>k a
 |.error (.exc c)=>ex c
 |.error .stuck=>False
theorem PO'.bnd {α β:Type}{ex:Str->Prop}{x:Res α}{f:α->Res β}{k:β->Prop}(h:PO' ex (bnd x f) k):PO' ex x fun a=>PO' ex (f a) k:=by
 cases x with
 |ok a=>exact h
 |error e=>cases e<;>exact h
theorem PO'.grd {α:Type}{ex:Str->Prop}{c:Bool}{x:Res α}{k:α->Prop}(h:PO' ex (grd c x) k):c=Δ/\PO' ex x k:=by
 unfold L2.grd at h
 induction c using zB with
 |true=>exact⟨rfl,h⟩
 |false=>exact False.elim h
theorem PO'.mono {α:Type}{ex:Str->Prop}{x:Res α}{k k':α->Prop}(h:PO' ex x k)(m:∀a,k a->k' a):PO' ex x k':=by
 cases x with
 |ok a=>exact m a h
 |error e=>cases e<;>exact h
theorem PO'.mk {α β:Type}{ex:Str->Prop}{x:Res α}{f:α->Res β}{k:β->Prop}(h:PO' ex x fun a=>PO' ex (f a) k):PO' ex (L2.bnd x f) k:=by
 cases x with
 |ok a=>exact h
 |error e=>cases e<;>exact h
theorem PO'.eq {α:Type}{ex:Str->Prop}{x:Res α}{k:α->Prop}(h:PO' ex x k):PO' ex x fun a=>x=.ok a/\k a:=by
 cases x with
 |ok a=>exact⟨rfl,h⟩
 |error e=>cases e<;>exact h
theorem PO'.ok {α:Type}{ex:Str->Prop}{a:α}{k:α->Prop}(h:PO' ex (.ok a:Res α) k):k a:=h
theorem PO'.no {α:Type}{ex:Str->Prop}{k:α->Prop}(h:PO' ex (stk:Res α) k):False:=h
inductive LD where
 | l (xs:List V)|d (kvs:List (Key×V))
noncomputable abbrev LD.o:LD->HO
 |.l xs=>.lst xs
 |.d kvs=>.dK kvs
theorem KL.sq {K:Frag}{H:Hp}{a:Ψ}{xs:List V}(h:KL K a xs):SqL K H a xs:=by obtain⟨its,n,h1,h2,h3⟩:=h;exact .inr ⟨_,its.toArray,n,h1,rfl,rfl,rfl,by simpa using h2,by simpa using h3⟩
theorem Inv.ls {X:Cx}{pins:List (Ψ×Obj)}{σ:St}{H:Hp}{s:Ω}{a:Ψ}{xs:List V}(I:Inv X pins σ H s)(h:Ls X.K H a xs) :
  xs.length<=Ε/\∃(its:List Φ) (n:Nat),Vals xs its/\s.heap.get? a=Γ {cls:=.type "list",data:=.seq its.toArray n}:=by
 rcases h with h|⟨its,n,h1,h2,h3⟩
 ·obtain⟨z,its,n,r,e⟩:=h.ok I.hok;exact⟨z,its,n,r,e⟩
 ·exact⟨by rw[h3.length];exact h2,its,n,h3,I.kIn _ _ h1⟩
noncomputable def nameIn (K:Frag)(C:Ψ):Option Str:=match K.lookup C with
 |some ⟨_,_,.cls cd,_⟩=>Γ cd.name
 |_=>Ξ
noncomputable def XU:HO:=.ext fun _=>True
def XO (K:Frag)(H:Hp)(a:Ψ)(c:Str):Prop:=∃(C:Ψ) (o:Obj) (vs:Array Φ),PySem.W.nsIn K Ζ c=Γ (Γ (.ref C))/\nameIn K C=Γ c/\H a=Γ (.frz o XU)/\o.cls=.ref C/\o.data=.fields vs
def SqE (K:Frag)(H:Hp)(a:Ψ):List V ⊕ Str->Prop
 |.inl xs=>SqT K H a xs
 |.inr c=>XO K H a c
mutual
inductive HRep (K:Frag)(S:Ψ->Prop)(H:Hp):V->D->Prop where
 | non:HRep K S H .non .non
 | bl (b:Bool):HRep K S H (.bl b) (.bl b)
 | int (i:Int):HRep K S H (.int i) (.int i)
 | str (x:Str):HRep K S H (.str x) (.str x)
 | exc {a:Ψ}{c:Str}:SqE K H a (.inr c)->HRep K S H (.ref a) (.exc c)
 | tup {a:Ψ}{xs:List V}{ds:List D}:SqT K H a xs->HReps K S H xs ds->HRep K S H (.ref a) (.tup ds)
 | lst {a:Ψ}{xs:List V}{o:Bool}{ds:List D}:S a->Rd H a (.lst xs)->HReps K S H xs ds->HRep K S H (.ref a) (.lst o ds)
 | lstK {a:Ψ}{xs:List V}{o:Bool}{ds:List D}:KL K a xs->HReps K S H xs ds->HRep K S H (.ref a) (.lst o ds)
 | dct {a:Ψ}{kvs:List (Key×V)}{o:Bool}{ks:List Key}{ds:List D}:S a->Rd H a (.dK kvs)->kvs.map (·.1)=ks->HReps K S H (kvs.map (·.2)) ds->HRep K S H (.ref a) (.dct o ks ds)
inductive HReps (K:Frag)(S:Ψ->Prop)(H:Hp):List V->List D->Prop where
 | nil:HReps K S H [] []
 | cons {v:V}{d:D}{vs:List V}{ds:List D}:HRep K S H v d->HReps K S H vs ds->HReps K S H (v::vs) (d::ds)
end
mutual
inductive MRep (K:Frag)(F:Ψ->Prop)(H:Hp):V->D->List Ψ->Prop where
 | non:MRep K F H .non .non []
 | bl (b:Bool):MRep K F H (.bl b) (.bl b) []
 | int (i:Int):MRep K F H (.int i) (.int i) []
 | str (x:Str):MRep K F H (.str x) (.str x) []
 | exc {a:Ψ}{c:Str}:SqE K H a (.inr c)->MRep K F H (.ref a) (.exc c) []
 | tup {a:Ψ}{xs:List V}{ds:List D}{f:List Ψ}:SqT K H a xs->MReps K F H xs ds f->MRep K F H (.ref a) (.tup ds) f
 | lstS {a:Ψ}{xs:List V}{ds:List D}:F a->Rd H a (.lst xs)->MReps K F H xs ds []->MRep K F H (.ref a) (.lst Θ ds) []
 | lstK {a:Ψ}{xs:List V}{ds:List D}:KL K a xs->MReps K F H xs ds []->MRep K F H (.ref a) (.lst Θ ds) []
 | lstO {a:Ψ}{xs:List V}{ds:List D}{f:List Ψ}:¬F a->H a=Γ (.lst xs)->MReps K F H xs ds f->MRep K F H (.ref a) (.lst Δ ds) (a::f)
 | dctS {a:Ψ}{kvs:List (Key×V)}{ks:List Key}{ds:List D}:F a->Rd H a (.dK kvs)->kvs.map (·.1)=ks->MReps K F H (kvs.map (·.2)) ds []->MRep K F H (.ref a) (.dct Θ ks ds) []
 | dctO {a:Ψ}{kvs:List (Key×V)}{ks:List Key}{ds:List D}{f:List Ψ}:¬F a->H a=Γ (.dK kvs)->kvs.map (·.1)=ks->MReps K F H (kvs.map (·.2)) ds f->MRep K F H (.ref a) (.dct Δ ks ds) (a::f)
inductive MReps (K:Frag)(F:Ψ->Prop)(H:Hp):List V->List D->List Ψ->Prop where
 | nil:MReps K F H [] [] []
 | cons {v:V}{d:D}{f:List Ψ}{vs:List V}{ds:List D}{g:List Ψ}:MRep K F H v d f->MReps K F H vs ds g->MReps K F H (v::vs) (d::ds) (f++g)
end
theorem eX.rd {H H':Hp}{a:Ψ}{u:HO}(e:eX H H')(h:Rd H a u):Rd H' a u:=by
 rcases h with h|⟨o,h⟩
 ·exact .inl (e _ _ h)
 ·exact .inr ⟨o,e _ _ h⟩
theorem eX.seqT {K:Frag}{H H':Hp}{a:Ψ}{xs:List V ⊕ Str}(e:eX H H')(h:SqE K H a xs):SqE K H' a xs:=by
 cases xs with
 |inl xs=>
  rcases h with h|h
  ·exact .inl (e.rd h)
  ·exact .inr h
 |inr c=>obtain⟨C,o,vs,h0,h1,h2,h3⟩:=h;exact⟨C,o,vs,h0,h1,e _ _ h2,h3⟩
theorem SqE.upd {K:Frag}{H:Hp}{a l:Ψ}{xs:List V ⊕ Str}{ys zs:List V}(hl:H l=Γ (.lst ys))(h:SqE K H a xs):SqE K (upd H l (.lst zs)) a xs:=by
 cases xs with
 |inl xs=>
  rcases h with h|h
  ·have:a≠l:=by rintro rfl;rcases h with h|⟨o,h⟩<;>(rw[hl]at h;cases h)
   refine .inl ?_;unfold Rd;rw[eY this];exact h
  ·exact .inr h
 |inr c=>
  obtain⟨C,o,vs,h0,h1,h2,h3⟩:=h;have:a≠l:=by rintro rfl;rw[hl]at h2;cases h2
  exact⟨C,o,vs,h0,h1,by rw[eY this];exact h2,h3⟩
theorem Rd.some {H:Hp}{a:Ψ}{u:HO}(h:Rd H a u):H a≠Ξ:=by rcases h with h|⟨o,h⟩<;>(rw[h];simp)
section
variable {K:Frag}{S S' F F':Ψ->Prop}{H H':Hp}
theorem HRep.step (hl:∀a (u:LD),S a->Rd H a u.o->S' a/\Rd H' a u.o)(ht:∀a xs,SqE K H a xs->SqE K H' a xs){v:V}{d:D}(h:HRep K S H v d):HRep K S' H' v d:=
 HRep.rec (motive_1:=fun v d _=>HRep K S' H' v d) (motive_2:=fun v d _=>HReps K S' H' v d) .non .bl .int .str (fun h=>.exc (ht _ (.inr _) h)) (fun h1 _ i=>.tup (ht _ (.inl _) h1) i)
  (fun h0 h1 _ i=>.lst (hl _ (.l _) h0 h1).1 (hl _ (.l _) h0 h1).2 i) (fun h1 _ i=>.lstK h1 i) (fun h0 h1 h2 _ i=>.dct (hl _ (.d _) h0 h1).1 (hl _ (.d _) h0 h1).2 h2 i) .nil (fun _ _ i j=>.cons i j) h
theorem HReps.step (hl:∀a (u:LD),S a->Rd H a u.o->S' a/\Rd H' a u.o)(ht:∀a xs,SqE K H a xs->SqE K H' a xs){v:List V}{d:List D}(h:HReps K S H v d):HReps K S' H' v d:=
 HReps.rec (motive_1:=fun v d _=>HRep K S' H' v d) (motive_2:=fun v d _=>HReps K S' H' v d) .non .bl .int .str (fun h=>.exc (ht _ (.inr _) h)) (fun h1 _ i=>.tup (ht _ (.inl _) h1) i)
  (fun h0 h1 _ i=>.lst (hl _ (.l _) h0 h1).1 (hl _ (.l _) h0 h1).2 i) (fun h1 _ i=>.lstK h1 i) (fun h0 h1 h2 _ i=>.dct (hl _ (.d _) h0 h1).1 (hl _ (.d _) h0 h1).2 h2 i) .nil (fun _ _ i j=>.cons i j) h
theorem HRep.mono {v:V}{d:D}(h:HRep K S H v d)(hS:∀a,S a->S' a)(e:eX H H'):HRep K S' H' v d:=h.step (fun a xs s r=>⟨hS a s,e.rd r⟩) fun a xs s=>e.seqT s
theorem HReps.mono {v:List V}{d:List D}(h:HReps K S H v d)(hS:∀a,S a->S' a)(e:eX H H'):HReps K S' H' v d:=h.step (fun a xs s r=>⟨hS a s,e.rd r⟩) fun a xs s=>e.seqT s
theorem HReps.tight {v:List V}{d:List D}(h:HReps K S H v d):HReps K (fun a=>S a/\H a≠Ξ) H v d:=h.step (fun a xs s r=>⟨⟨s,r.some⟩,r⟩) fun a xs s=>s
theorem HRep.frozen {v:V}{d:D}(h:HRep K F H v d):MRep K F H v (L2.er d) []:=
 HRep.rec (motive_1:=fun v d _=>MRep K F H v (L2.er d) []) (motive_2:=fun v d _=>MReps K F H v (L2.ers d) []) .non .bl .int .str (fun h=>.exc h) (fun h1 _ i=>.tup h1 i) (fun h0 h1 _ i=>.lstS h0 h1 i) (fun h1 _ i=>.lstK h1 i) (fun h0 h1 h2 _ i=>.dctS h0 h1 h2 i) .nil (fun _ _ i j=>.cons (f:=[]) (g:=[]) i j) h
theorem HReps.frozen {v:List V}{d:List D}(h:HReps K F H v d):MReps K F H v (L2.ers d) []:=
 HReps.rec (motive_1:=fun v d _=>MRep K F H v (L2.er d) []) (motive_2:=fun v d _=>MReps K F H v (L2.ers d) []) .non .bl .int .str (fun h=>.exc h) (fun h1 _ i=>.tup h1 i) (fun h0 h1 _ i=>.lstS h0 h1 i) (fun h1 _ i=>.lstK h1 i) (fun h0 h1 h2 _ i=>.dctS h0 h1 h2 i) .nil (fun _ _ i j=>.cons (f:=[]) (g:=[]) i j) h
theorem sO {a b:Bool}(h:(a&&b)=Δ):a=Δ/\b=Δ:=by rwa [e_]at h
theorem HRep.free {v:V}{d:D}(n:e7 d=Δ)(h:HRep K S H v d):MRep K F H v d []:=
 HRep.rec (motive_1:=fun v d _=>e7 d=Δ->MRep K F H v d []) (motive_2:=fun v d _=>eS d=Δ->MReps K F H v d []) (fun _=>.non) (fun b _=>.bl b) (fun b _=>.int b) (fun b _=>.str b) (fun h _=>.exc h) (fun h1 _ i n=>.tup h1 (i n)) (fun _ _ _ _ n=>nomatch n) (fun _ _ _ n=>nomatch n) (fun _ _ _ _ _ n=>nomatch n) (fun _=>.nil) (fun _ _ i j n=>.cons (f:=[]) (g:=[]) (i (sO n).1) (j (sO n).2)) h n
theorem HReps.free {v:List V}{d:List D}(n:eS d=Δ)(h:HReps K S H v d):MReps K F H v d []:=
 HReps.rec (motive_1:=fun v d _=>e7 d=Δ->MRep K F H v d []) (motive_2:=fun v d _=>eS d=Δ->MReps K F H v d []) (fun _=>.non) (fun b _=>.bl b) (fun b _=>.int b) (fun b _=>.str b) (fun h _=>.exc h) (fun h1 _ i n=>.tup h1 (i n)) (fun _ _ _ _ n=>nomatch n) (fun _ _ _ n=>nomatch n) (fun _ _ _ _ _ n=>nomatch n) (fun _=>.nil) (fun _ _ i j n=>.cons (f:=[]) (g:=[]) (i (sO n).1) (j (sO n).2)) h n
theorem gj {p:Ψ->Prop}:∀a∈([]:List Ψ),p a:=fun _ h=>nomatch h
theorem MRep.read {v:V}{d:D}{f:List Ψ}(hF:∀a,F a->S a)(hf:∀a∈f,S a)(h:MRep K F H v d f):HRep K S H v d:=
 MRep.rec (motive_1:=fun v d f _=>(∀a∈f,S a)->HRep K S H v d) (motive_2:=fun v d f _=>(∀a∈f,S a)->HReps K S H v d) (fun _=>.non) (fun b _=>.bl b) (fun b _=>.int b) (fun b _=>.str b) (fun h _=>.exc h) (fun h1 _ i hf=>.tup h1 (i hf))
  (fun h0 h1 _ i _=>.lst (hF _ h0) h1 (i gj)) (fun h1 _ i _=>.lstK h1 (i gj)) (fun _ h1 _ i hf=>.lst (hf _ (.head _)) (.inl h1) (i fun b hb=>hf b (.tail _ hb))) (fun h0 h1 h2 _ i _=>.dct (hF _ h0) h1 h2 (i gj)) (fun _ h1 h2 _ i hf=>.dct (hf _ (.head _)) (.inl h1) h2 (i fun b hb=>hf b (.tail _ hb))) (fun _=>.nil)
  (fun _ _ i j hf=>.cons (i fun a ha=>hf a (r_ _ ha)) (j fun a ha=>hf a (o_ _ ha))) h hf
theorem gI {α:Type}{x:Option α}{y:α}(h:x=Γ y):x≠Ξ:=fun e=>nomatch h.symm.trans e
theorem MRep.step (hl:∀a (u:LD),F a->Rd H a u.o->F' a/\Rd H' a u.o)(ht:∀a xs,SqE K H a xs->SqE K H' a xs){v:V}{d:D}{f:List Ψ}(k:∀a∈f,¬F a->H a≠Ξ->¬F' a/\H' a=H a)
  (h:MRep K F H v d f):MRep K F' H' v d f:=
 MRep.rec (motive_1:=fun v d f _=>(∀a∈f,¬F a->H a≠Ξ->¬F' a/\H' a=H a)->MRep K F' H' v d f) (motive_2:=fun v d f _=>(∀a∈f,¬F a->H a≠Ξ->¬F' a/\H' a=H a)->MReps K F' H' v d f) (fun _=>.non) (fun b _=>.bl b) (fun b _=>.int b) (fun b _=>.str b)
  (fun h _=>.exc (ht _ (.inr _) h)) (fun h1 _ i k=>.tup (ht _ (.inl _) h1) (i k)) (fun h0 h1 _ i _=>.lstS (hl _ (.l _) h0 h1).1 (hl _ (.l _) h0 h1).2 (i gj)) (fun h1 _ i _=>.lstK h1 (i gj))
  (fun h0 h1 _ i k=>.lstO (k _ (.head _) h0 (gI h1)).1 ((k _ (.head _) h0 (gI h1)).2.trans h1) (i fun b hb=>k b (.tail _ hb))) (fun h0 h1 h2 _ i _=>.dctS (hl _ (.d _) h0 h1).1 (hl _ (.d _) h0 h1).2 h2 (i gj)) (fun h0 h1 h2 _ i k=>.dctO (k _ (.head _) h0 (gI h1)).1 ((k _ (.head _) h0 (gI h1)).2.trans h1) h2 (i fun b hb=>k b (.tail _ hb))) (fun _=>.nil)
  (fun _ _ i j k=>.cons (i fun a ha=>k a (r_ _ ha)) (j fun a ha=>k a (o_ _ ha))) h k
theorem MReps.step (hl:∀a (u:LD),F a->Rd H a u.o->F' a/\Rd H' a u.o)(ht:∀a xs,SqE K H a xs->SqE K H' a xs){v:List V}{d:List D}{f:List Ψ}(k:∀a∈f,¬F a->H a≠Ξ->¬F' a/\H' a=H a)
  (h:MReps K F H v d f):MReps K F' H' v d f:=
 MReps.rec (motive_1:=fun v d f _=>(∀a∈f,¬F a->H a≠Ξ->¬F' a/\H' a=H a)->MRep K F' H' v d f) (motive_2:=fun v d f _=>(∀a∈f,¬F a->H a≠Ξ->¬F' a/\H' a=H a)->MReps K F' H' v d f) (fun _=>.non) (fun b _=>.bl b) (fun b _=>.int b) (fun b _=>.str b)
  (fun h _=>.exc (ht _ (.inr _) h)) (fun h1 _ i k=>.tup (ht _ (.inl _) h1) (i k)) (fun h0 h1 _ i _=>.lstS (hl _ (.l _) h0 h1).1 (hl _ (.l _) h0 h1).2 (i gj)) (fun h1 _ i _=>.lstK h1 (i gj))
  (fun h0 h1 _ i k=>.lstO (k _ (.head _) h0 (gI h1)).1 ((k _ (.head _) h0 (gI h1)).2.trans h1) (i fun b hb=>k b (.tail _ hb))) (fun h0 h1 h2 _ i _=>.dctS (hl _ (.d _) h0 h1).1 (hl _ (.d _) h0 h1).2 h2 (i gj)) (fun h0 h1 h2 _ i k=>.dctO (k _ (.head _) h0 (gI h1)).1 ((k _ (.head _) h0 (gI h1)).2.trans h1) h2 (i fun b hb=>k b (.tail _ hb))) (fun _=>.nil)
  (fun _ _ i j k=>.cons (i fun a ha=>k a (r_ _ ha)) (j fun a ha=>k a (o_ _ ha))) h k
theorem sP {p:Ψ->Prop}{x:Ψ}{f:List Ψ}(h:p x)(i:∀a∈f,p a):∀a∈x::f,p a:=by
 intro b hb;rcases p_.mp hb with rfl|hb
 ·exact h
 ·exact i b hb
theorem xC {p:Ψ->Prop}{f g:List Ψ}(h:∀a∈f,p a)(i:∀a∈g,p a):∀a∈f++g,p a:=fun b hb=>(x_.mp hb).elim (h b) (i b)
theorem MRep.own {v:V}{d:D}{f:List Ψ}(h:MRep K F H v d f):∀a∈f,¬F a/\∃u,H a=Γ u:=
 MRep.rec (motive_1:=fun _ _ f _=>∀a∈f,¬F a/\∃u,H a=Γ u) (motive_2:=fun _ _ f _=>∀a∈f,¬F a/\∃u,H a=Γ u) gj (fun _=>gj) (fun _=>gj) (fun _=>gj) (fun _=>gj) (fun _ _ i=>i) (fun _ _ _ _=>gj) (fun _ _ _=>gj)
  (fun h0 h1 _ i=>sP ⟨h0,_,h1⟩ i) (fun _ _ _ _ _=>gj) (fun h0 h1 _ _ i=>sP ⟨h0,_,h1⟩ i) gj (fun _ _ i j=>xC i j) h
theorem MReps.own {v:List V}{d:List D}{f:List Ψ}(h:MReps K F H v d f):∀a∈f,¬F a/\∃u,H a=Γ u:=
 MReps.rec (motive_1:=fun _ _ f _=>∀a∈f,¬F a/\∃u,H a=Γ u) (motive_2:=fun _ _ f _=>∀a∈f,¬F a/\∃u,H a=Γ u) gj (fun _=>gj) (fun _=>gj) (fun _=>gj) (fun _=>gj) (fun _ _ i=>i) (fun _ _ _ _=>gj) (fun _ _ _=>gj)
  (fun h0 h1 _ i=>sP ⟨h0,_,h1⟩ i) (fun _ _ _ _ _=>gj) (fun h0 h1 _ _ i=>sP ⟨h0,_,h1⟩ i) gj (fun _ _ i j=>xC i j) h
theorem HReps.ind {P:List V->List D->Prop}(n:P [] [])(c:∀v d vs ds,HRep K S H v d->HReps K S H vs ds->P vs ds->P (v::vs) (d::ds)){vs:List V}{ds:List D}(h:HReps K S H vs ds):P vs ds:=
 HReps.rec (motive_1:=fun _ _ _=>True) (motive_2:=fun v d _=>P v d) trivial (fun _=>trivial) (fun _=>trivial) (fun _=>trivial) (fun _=>trivial) (fun _ _ _=>trivial) (fun _ _ _ _=>trivial) (fun _ _ _=>trivial) (fun _ _ _ _ _=>trivial) n (fun a b _ j=>c _ _ _ _ a b j) h
theorem MReps.ind {P:List V->List D->List Ψ->Prop}(n:P [] [] [])(c:∀v d f vs ds g,MRep K F H v d f->MReps K F H vs ds g->P vs ds g->P (v::vs) (d::ds) (f++g)){vs:List V}{ds:List D}{f:List Ψ}(h:MReps K F H vs ds f):P vs ds f:=
 MReps.rec (motive_1:=fun _ _ _ _=>True) (motive_2:=fun v d f _=>P v d f) trivial (fun _=>trivial) (fun _=>trivial) (fun _=>trivial) (fun _=>trivial) (fun _ _ _=>trivial) (fun _ _ _ _=>trivial) (fun _ _ _=>trivial) (fun _ _ _ _=>trivial) (fun _ _ _ _ _=>trivial) (fun _ _ _ _ _=>trivial) n (fun a b _ j=>c _ _ _ _ _ _ a b j) h
theorem HReps.length {vs:List V}{ds:List D}(h:HReps K S H vs ds):vs.length=ds.length:=
 HReps.ind (P:=fun v d=>v.length=d.length) rfl (fun _ _ _ _ _ _ j=>congrArg (· + 1) j) h
theorem HReps.get {i:Nat}{vs:List V}{ds:List D}{d:D}(h:HReps K S H vs ds)(e:ds[i]? = Γ d):∃v,vs[i]? = Γ v/\HRep K S H v d:=
 HReps.ind (P:=fun vs ds=>∀i d,ds[i]? = Γ d->∃v,vs[i]? = Γ v/\HRep K S H v d) (fun i d e=>nomatch (show Ξ=Γ d from e)) (fun v d _ _ a _ j i d e=>by
  cases i with
  |zero=>exact⟨_,rfl,zZ e ▸ a⟩
  |succ i=>exact j i d e) h i d e
theorem HReps.getV {i:Nat}{vs:List V}{ds:List D}{v:V}(h:HReps K S H vs ds)(e:vs[i]? = Γ v):∃d,ds[i]? = Γ d/\HRep K S H v d:=
 HReps.ind (P:=fun vs ds=>∀i v,vs[i]? = Γ v->∃d,ds[i]? = Γ d/\HRep K S H v d) (fun i d e=>nomatch (show Ξ=Γ d from e)) (fun v d _ _ a _ j i d e=>by
  cases i with
  |zero=>exact⟨_,rfl,zZ e ▸ a⟩
  |succ i=>exact j i d e) h i v e
theorem HReps.append {vs ws:List V}{ds es:List D}(h:HReps K S H vs ds)(h':HReps K S H ws es):HReps K S H (vs++ws) (ds++es):=
 HReps.ind (P:=fun v d=>HReps K S H (v++ws) (d++es)) h' (fun _ _ _ _ a _ j=>.cons a j) h
theorem HReps.take {vs:List V}{ds:List D}(n:Nat)(h:HReps K S H vs ds):HReps K S H (vs.take n) (ds.take n):=
 HReps.ind (P:=fun v d=>∀n,HReps K S H (v.take n) (d.take n)) (fun n=>by cases n<;>exact .nil) (fun _ _ _ _ a _ j n=>by
  cases n with
  |zero=>exact .nil
  |succ n=>exact .cons a (j n)) h n
theorem HReps.drop {vs:List V}{ds:List D}(n:Nat)(h:HReps K S H vs ds):HReps K S H (vs.drop n) (ds.drop n):=
 HReps.ind (P:=fun v d=>∀n,HReps K S H (v.drop n) (d.drop n)) (fun n=>by cases n<;>exact .nil) (fun _ _ _ _ a b j n=>by
  cases n with
  |zero=>exact .cons a b
  |succ n=>exact j n) h n
theorem MReps.length {vs:List V}{ds:List D}{f:List Ψ}(h:MReps K F H vs ds f):vs.length=ds.length:=
 MReps.ind (P:=fun v d _=>v.length=d.length) rfl (fun _ _ _ _ _ _ _ _ j=>congrArg (· + 1) j) h
theorem MReps.append {vs ws:List V}{ds es:List D}{f g:List Ψ}(h:MReps K F H vs ds f)(h':MReps K F H ws es g):MReps K F H (vs++ws) (ds++es) (f++g):=
 MReps.ind (P:=fun v d f=>MReps K F H (v++ws) (d++es) (f++g)) h' (fun _ _ _ _ _ _ a _ j=>by
  rw[z_]
  exact .cons a j) h
theorem HRep.lstR {v:V}{o:Bool}{ds:List D}(h:HRep K S H v (.lst o ds)):∃a xs,v=.ref a/\SqL K H a xs/\HReps K S H xs ds:=by
 cases h with
 |lst h0 h1 h2=>exact⟨_,_,rfl,.inl h1,h2⟩
 |lstK h1 h2=>exact⟨_,_,rfl,h1.sq,h2⟩
theorem HRep.lstL {v:V}{o:Bool}{ds:List D}(h:HRep K S H v (.lst o ds)):∃a xs,v=.ref a/\Ls K H a xs/\HReps K S H xs ds:=by
 cases h with
 |lst h0 h1 h2=>exact⟨_,_,rfl,.inl h1,h2⟩
 |lstK h1 h2=>exact⟨_,_,rfl,.inr h1,h2⟩
theorem HRep.tupR {v:V}{ds:List D}(h:HRep K S H v (.tup ds)):∃a xs,v=.ref a/\SqT K H a xs/\HReps K S H xs ds:=by
 cases h with
 |tup h1 h2=>exact⟨_,_,rfl,h1,h2⟩
theorem HRep.intR {v:V}{i:Int}(h:HRep K S H v (.int i)):v=.int i:=by cases h;rfl
theorem HRep.blR {v:V}{i:Bool}(h:HRep K S H v (.bl i)):v=.bl i:=by cases h;rfl
theorem HRep.strR {v:V}{i:Str}(h:HRep K S H v (.str i)):v=.str i:=by cases h;rfl
theorem HRep.nonR {v:V}(h:HRep K S H v .non):v=.non:=by cases h;rfl
theorem HReps.strs {vs:List V}{ns:List Str}(h:HReps K S H vs (ns.map .str)):vs=ns.map .str:=
 HReps.ind (P:=fun v d=>∀ns:List Str,d=ns.map .str->v=ns.map .str) (fun ns e=>by
  induction ns using zL with
  |nil=>rfl
  |cons n ns=>exact nomatch e) (fun _ _ _ _ a _ j ns e=>by
  induction ns using zL with
  |nil=>exact nomatch e
  |cons n ns=>
   obtain⟨h1,h2⟩:=List.cons.inj e;subst h1;rw[j ns h2,a.strR]
   rfl) h ns rfl
theorem HReps.bls {vs:List V}{ns:List Bool}(h:HReps K S H vs (ns.map .bl)):vs=ns.map .bl:=
 HReps.ind (P:=fun v d=>∀ns:List Bool,d=ns.map .bl->v=ns.map .bl) (fun ns e=>by
  induction ns using zL with
  |nil=>rfl
  |cons n ns=>exact nomatch e) (fun _ _ _ _ a _ j ns e=>by
  induction ns using zL with
  |nil=>exact nomatch e
  |cons n ns=>
   obtain⟨h1,h2⟩:=List.cons.inj e;subst h1;rw[j ns h2,a.blR]
   rfl) h ns rfl
theorem HReps.ofInts:∀(ns:List Int),HReps K S H (ns.map .int) (ns.map .int)
 |[]=>.nil
 |n::ns=>.cons (.int n) (HReps.ofInts ns)
end
theorem eX.upd {H:Hp}{a:Ψ}{o:HO}(h:H a=Ξ):eX H (upd H a o):=fun b u e=>by rw[eY (fK e h)];exact e
theorem zD:type_of% @D.casesOn.{0}:=@D.casesOn.{0}
noncomputable def fG:Str:="NoLine"
inductive BOp where
 | add|sub|mul|fdiv|mod|pow
 deriving DecidableEq
inductive COp where
 | eq|ne|lt|le|gt|ge|in_|nin|is_|isn
 deriving DecidableEq
inductive Kd where
 | str|int|bool|list|tuple
 deriving DecidableEq
inductive Bi where
 | len|sum|min2|max2|maxl|sorted|list|tuple|ord|int|all|any|str|set|abs
 deriving DecidableEq
inductive Mt where
 | join|split|starts
 deriving DecidableEq
inductive Tg where
 | nm (i:Nat)|tp (ts:List Tg)
structure Gm where
 N:List Str
 kd:List NameKind
 gl:List Nat
 df:Bool
 cm:Bool:=Δ
 rs:Bool:=Δ
 tr:Bool:=Θ
 io:Option Nat:=Ξ
mutual
inductive IR where
 | c (d:D)
 | g (n:Nat) (d:D)
 | v (i:Nat)
 | bin (op:BOp) (a b:IR)
 | cmp (op:COp) (a b:IR)
 | chain (op op':COp) (a b c:IR)
 | and_ (a b:IR)
 | or_ (a b:IR)
 | not_ (a:IR)
 | ite (t a b:IR)
 | tup (es:List IR)
 | lst (es:List IR)
 | idx (a i:IR)
 | sl (a:IR) (lo hi:Option IR)
 | call (f:Nat) (es:List IR)
 | bi (f:Bi) (es:List IR)
 | isi (a:IR) (k:Kd)
 | isx (a:IR) (ns:List Nat) (tb:List (Str×Bool))
 | lrev (a:IR)
 | ftr (x:Str) (a:IR) (y:Option Str)
 | mth (m:Mt) (o:IR) (es:List IR)
 | comp (G:Gm) (fr:List Nat) (tg:Tg) (src:Sr) (ifs:List IR) (elt:IR)
inductive Sr where
 | rng1 (n:IR)|val (e:IR)
end
inductive IS where
 | asg (tg:Tg) (e:IR)
 | app (i:Nat) (e:IR)
 | ret (e:IR)
 | if_ (t:IR) (a b:List IS)
 | for_ (tg:Tg) (src:Sr) (body:List IS)
 | raise_ (n:Nat) (c:Str) (w:Str)
 | raisee (n:Nat) (c:Str) (e:IR)
 | tryc (i f:Nat) (es:List IR) (n:Nat) (cs:List Str) (k:Nat) (h:List IS)
 | tryr (f:Nat) (es:List IR) (n1 n2:Nat) (cs:List Str) (n:Nat)
abbrev Ev:=List (Option D)
inductive Fl where
 | nx (τ:Ev)|rt (d:D)|bk (τ:Ev)|ct (τ:Ev)|ri (d:D) (ks:List Key) (vs:List D)
noncomputable def fR {α:Type}(xs:List α)(lo hi:Option Int):List α:=(xs.drop (HT.sIx xs.length 0 lo)).take (HT.sIx xs.length xs.length hi - HT.sIx xs.length 0 lo)
noncomputable def fL (n:Nat):Bool:=decide (n<=Ε)
noncomputable def jK (n:Nat):Bool:=decide (n < Ε)
noncomputable def opB:BOp->D->D->Res D
 |.add,.int a,.int b=>.ok (.int (a+b))
 |.add,.str a,.str b=>grd (fL (a.length+b.length)) (.ok (.str (a++b)))
 |.add,.lst _ a,.lst _ b=>grd (fL (a.length+b.length)) (.ok (.lst Δ (a++b)))
 |.sub,.int a,.int b=>.ok (.int (a - b))
 |.mul,.int a,.int b=>grd (decide (-(2 ^ 64) < a/\a < 2 ^ 64)||decide (-(2 ^ 64) < b/\b < 2 ^ 64)) (.ok (.int (a*b)))
 |.mul,.str a,.int b=>grd (decide (-16000<=b/\b<=16000/\a.length<=1000)) (.ok (.str (Txt.mul a b)))
 |.mul,.lst _ a,.int b=>grd (decide (0<=b/\b<=16000/\a.length<=1000)) (.ok (.lst Δ (List.flatten (Ρ b.toNat a))))
 |.fdiv,.int a,.int b=>grd (decide (0 < b/\b < 1073741824)) (.ok (.int (a / b)))
 |.mod,.int a,.int b=>grd (decide (0 < b)) (.ok (.int (a % b)))
 |.pow,.int a,.int b=>grd (decide (0<=b/\b<=1000000/\a.natAbs < 2 ^ 64)) (.ok (.int (a ^ b.toNat)))
 |_,_,_=>stk
noncomputable def fO:D->D->Res D
 |.lst _ ds,.int i=>match atI ds i with
  |some d=>.ok d
  |none=>stk
 |.tup ds,.int i=>match atI ds i with
  |some d=>.ok d
  |none=>stk
 |.str z,.int i=>grd (fL z.length) (match atI z.cps.toList i with
  |some c=>.ok (.str ⟨#[c]⟩)
  |none=>stk)
 |_,_=>stk
noncomputable def km:D->Option Int->Option Int->Res D
 |.lst _ ds,lo,hi=>.ok (.lst Δ (fR ds lo hi))
 |.str z,lo,hi=>grd (fL z.length) (.ok (.str (Txt.slice z lo hi)))
 |_,_,_=>stk
noncomputable def fB:D->Res Bool
 |.non=>.ok Θ
 |.bl b=>.ok b
 |.int i=>.ok (i != 0)
 |.str x=>grd (fL x.length) (.ok ((x.length:Int) != 0))
 |.tup ds=>.ok (!ds.isEmpty)
 |.lst _ ds=>.ok (!ds.isEmpty)
 |.exc _=>stk
 |.dct _ _ _=>stk
noncomputable def gh (f:D->D->Res Bool):List D->List D->Res Bool
 |[],[]=>.ok Δ
 |a::r,b::t=>bnd (f a b) fun x=>bnd (gh f r t) fun y=>.ok (x&&y)
 |_,_=>.ok Θ
noncomputable def eqN:Nat->D->D->Res Bool
 |0,_,_=>stk
 |_+1,.exc _,_=>stk
 |_+1,_,.exc _=>stk
 |_+1,.dct _ _ _,_=>stk
 |_+1,_,.dct _ _ _=>stk
 |_+1,.non,.non=>.ok Δ
 |_+1,.non,_=>.ok Θ
 |_+1,.bl a,.bl b=>.ok (a == b)
 |_+1,.bl a,.int b=>.ok ((if a then 1 else 0) == b)
 |_+1,.bl _,_=>.ok Θ
 |_+1,.int a,.bl b=>.ok (a == (if b then 1 else 0))
 |_+1,.int a,.int b=>.ok (a == b)
 |_+1,.int _,_=>.ok Θ
 |_+1,.str a,.str b=>.ok (a == b)
 |_+1,.str _,_=>.ok Θ
 |n+1,.tup a,.tup b=>gh (eqN n) a b
 |_+1,.tup _,_=>.ok Θ
 |n+1,.lst _ a,.lst _ b=>gh (eqN n) a b
 |_+1,.lst _ _,_=>.ok Θ
noncomputable def anyN (d:D):List D->Res Bool
 |[]=>.ok Θ
 |e::r=>bnd (eqN 40 e d) fun x=>bnd (anyN d r) fun y=>.ok (x||y)
noncomputable def ml (x y:Str):Bool:=!(Builtin.Str.occurrences x y 0 x.length 1).isEmpty
noncomputable def jk:D->Bool
 |.non=>Δ
 |_=>Θ
noncomputable def ll:D->Bool
 |.exc _=>Θ
 |.dct _ _ _=>Θ
 |_=>Δ
noncomputable def opC:COp->D->D->Res Bool
 |.eq,a,b=>eqN 40 a b
 |.ne,a,b=>bnd (eqN 40 a b) fun r=>.ok !r
 |.lt,.int a,.int b=>.ok (decide (a < b))
 |.le,.int a,.int b=>.ok (decide (a<=b))
 |.gt,.int a,.int b=>.ok (decide (b < a))
 |.in_,.str y,.str x=>.ok (ml x y)
 |.nin,.str y,.str x=>.ok (!ml x y)
 |.in_,a,.lst _ ds=>anyN a ds
 |.nin,a,.lst _ ds=>bnd (anyN a ds) fun r=>.ok !r
 |.in_,a,.tup ds=>anyN a ds
 |.nin,a,.tup ds=>bnd (anyN a ds) fun r=>.ok !r
 |.is_,a,.non=>.ok (jk a)
 |_,_,_=>stk
noncomputable def gM:List D->Option (List Str)
 |[]=>Γ []
 |.str i::r=>(gM r).map (i::·)
 |_::_=>Ξ
noncomputable def iD:List D->Option (List Bool)
 |[]=>Γ []
 |.bl i::r=>(iD r).map (i::·)
 |_::_=>Ξ
noncomputable def iO:Kd->D->Bool
 |.str,.str _=>Δ
 |.int,.int _=>Δ
 |.int,.bl _=>Δ
 |.bool,.bl _=>Δ
 |.list,.lst _ _=>Δ
 |.tuple,.tup _=>Δ
 |_,_=>Θ
noncomputable def vD (tb:List (Str×Bool)):D->Res D
 |.exc c=>match tb.lookup c with
  |some b=>.ok (.bl b)
  |none=>stk
 |_=>stk
noncomputable def gk (x:Str):List D:=x.cps.toList.map fun c=>.str ⟨#[c]⟩
noncomputable def gx:Bi->List D->Res D
 |.len,[.str x]=>grd (fL x.length) (.ok (.int x.length))
 |.len,[.tup ds]=>.ok (.int ds.length)
 |.len,[.lst _ ds]=>.ok (.int ds.length)
 |.len,[.dct _ ks _]=>.ok (.int ks.length)
 |.min2,[.int a,.int b]=>.ok (.int (if b < a then b else a))
 |.max2,[.int a,.int b]=>.ok (.int (if b > a then b else a))
 |.int,[.int i]=>.ok (.int i)
 |.int,[.bl b]=>.ok (.int (if b then 1 else 0))
 |.int,[.str x]=>match PySem.intText? x with
  |some n=>grd (decide (x.length<=640)) (.ok (.int n))
  |none=>stk
 |.str,[.int i]=>grd (decide (i.natAbs.log2 < 1920)) (.ok (.str (toString i)))
 |.str,[.str x]=>.ok (.str x)
 |.list,[.lst _ ds]=>.ok (.lst Δ ds)
 |.list,[.tup ds]=>.ok (.lst Δ ds)
 |.list,[.str x]=>grd (fL x.length) (.ok (.lst Δ (gk x)))
 |.tuple,[.lst _ ds]=>.ok (.tup ds)
 |.tuple,[.str x]=>grd (fL x.length) (.ok (.tup (gk x)))
 |.all,[.lst _ ds]=>match iD ds with
  |some bs=>.ok (.bl (bs.all id))
  |none=>stk
 |.abs,[.int i]=>.ok (.int (if i < 0 then -i else i))
 |_,_=>stk
noncomputable def iG:D->Bool
 |.str _=>Δ
 |_=>Θ
noncomputable def iz:Mt->D->List D->Res D
 |.join,.str x,[.lst _ ds]=>match gM ds with
  |some ys=>grd (decide ((ys.map (·.length)).sum+ys.length*x.length<=16777216)) (.ok (.str (Txt.join x ys)))
  |none=>stk
 |.split,.str x,[.str y]=>grd (decide (y.length≠0/\x.length+2<=Ε)) (.ok (.lst Δ ((Txt.split x y).map .str)))
 |.starts,.str x,[.str y]=>.ok (.bl (Txt.startswith x y))
 |_,_,_=>stk
noncomputable def jL:D->Res (List D)
 |.lst _ ds=>.ok ds
 |.tup ds=>.ok ds
 |.str x=>grd (fL x.length) (.ok (gk x))
 |_=>stk
noncomputable def gE (a b:Int):List D:=(List.range (b - a).toNat).map fun k=>.int (a+(k:Nat))
noncomputable def qh:D->Res D
 |.lst _ ds=>.ok (.lst Δ ds.reverse)
 |_=>stk
noncomputable def qi (x:Str)(y:Option Str):D->Res D
 |.str z=>grd (fL (x.length+(reprText z).length+(y.getD Str.empty).length)) (.ok (.str (x++reprText z++y.getD Str.empty)))
 |_=>stk
noncomputable def jm (i:Int):Bool:=decide (-(2 ^ 62)<=i/\i < 2 ^ 62)
noncomputable def fm {α β:Type}(f:α->Res (Option β)):List α->Res (List β)
 |[]=>.ok []
 |x::xs=>bnd (f x) fun
  |some d=>bnd (fm f xs) fun r=>.ok (d::r)
  |none=>fm f xs
noncomputable def noX {α:Type}:Res α->Res α
 |.error _=>stk
 |.ok a=>.ok a
mutual
noncomputable def gy:Tg->D->Ev->Res Ev
 |.nm i,d,τ=>.ok (τ.set i (Γ d))
 |.tp ts,.tup ds,τ=>grd (decide (ds.length=ts.length)) (mn ts ds τ)
 |.tp ts,.lst _ ds,τ=>grd (decide (ds.length=ts.length)) (mn ts ds τ)
 |.tp _,_,_=>stk
noncomputable def mn:List Tg->List D->Ev->Res Ev
 |t::ts,d::ds,τ=>bnd (gy t d τ) fun τ'=>mn ts ds τ'
 |[],[],τ=>.ok τ
 |_,_,_=>stk
end
noncomputable def eZ (τ:Ev)(i:Nat):Option D:=(τ[i]?).join
mutual
noncomputable def vars:IR->List Nat
 |.c _=>[]
 |.g _ _=>[]
 |.v i=>[i]
 |.bin _ a b=>vars a++vars b
 |.cmp _ a b=>vars a++vars b
 |.chain _ _ a b c=>vars a++vars b++vars c
 |.and_ a b=>vars a++vars b
 |.or_ a b=>vars a++vars b
 |.not_ a=>vars a
 |.ite t a b=>vars t++vars a++vars b
 |.tup es=>eW es
 |.lst es=>eW es
 |.idx a i=>vars a++vars i
 |.sl a lo hi=>vars a++qj lo++qj hi
 |.call _ es=>eW es
 |.bi _ es=>eW es
 |.isi a _=>vars a
 |.isx a _ _=>vars a
 |.lrev a=>vars a
 |.ftr _ a _=>vars a
 |.mth _ o es=>vars o++eW es
 |.comp _ fr _ src _ _=>fr++iP src
noncomputable def eW:List IR->List Nat
 |[]=>[]
 |e::es=>vars e++eW es
noncomputable def qj:Option IR->List Nat
 |none=>[]
 |some e=>vars e
noncomputable def iP:Sr->List Nat
 |.rng1 n=>vars n
 |.val e=>vars e
end
mutual
noncomputable def evR (cl:Nat->List D->Res D):IR->Ev->Res D
 |.c d,_=>.ok d
 |.g _ d,_=>.ok d
 |.v i,τ=>match eZ τ i with
  |some d=>.ok d
  |none=>stk
 |.bin op a b,τ=>bnd (evR cl a τ) fun x=>bnd (evR cl b τ) fun y=>opB op x y
 |.cmp op a b,τ=>bnd (evR cl a τ) fun x=>bnd (evR cl b τ) fun y=>bnd (opC op x y) fun r=>.ok (.bl r)
 |.chain op op' a b c,τ=>bnd (evR cl a τ) fun x=>bnd (evR cl b τ) fun y=>bnd (opC op x y) fun r=>
  if r=Δ then bnd (evR cl c τ) fun z=>bnd (opC op' y z) fun r'=>.ok (.bl r') else .ok (.bl Θ)
 |.and_ a b,τ=>bnd (evR cl a τ) fun x=>bnd (fB x) fun r=>if r=Δ then evR cl b τ else .ok x
 |.or_ a b,τ=>bnd (evR cl a τ) fun x=>bnd (fB x) fun r=>if r=Δ then .ok x else evR cl b τ
 |.not_ a,τ=>bnd (evR cl a τ) fun x=>bnd (fB x) fun r=>.ok (.bl !r)
 |.ite t a b,τ=>bnd (evR cl t τ) fun x=>bnd (fB x) fun r=>if r=Δ then evR cl a τ else evR cl b τ
 |.tup es,τ=>bnd (fq cl es τ) fun ds=>grd (fL ds.length) (.ok (.tup ds))
 |.lst es,τ=>bnd (fq cl es τ) fun ds=>grd (fL ds.length) (.ok (.lst Δ ds))
 |.idx a i,τ=>bnd (evR cl a τ) fun x=>bnd (evR cl i τ) fun y=>fO x y
 |.sl a lo hi,τ=>bnd (evR cl a τ) fun x=>bnd (lp cl lo τ) fun l=>bnd (lp cl hi τ) fun h=>km x l h
 |.call f es,τ=>bnd (fq cl es τ) fun ds=>cl f (ers ds)
 |.bi f es,τ=>bnd (fq cl es τ) fun ds=>gx f ds
 |.isi a k,τ=>bnd (evR cl a τ) fun x=>grd (ll x) (.ok (.bl (iO k x)))
 |.isx a _ tb,τ=>bnd (evR cl a τ) (vD tb)
 |.lrev a,τ=>bnd (evR cl a τ) qh
 |.ftr x a y,τ=>bnd (evR cl a τ) (qi x y)
 |.mth m o es,τ=>bnd (evR cl o τ) fun x=>grd (iG x) (bnd (fq cl es τ) fun ds=>iz m x ds)
 |.comp G fr tg src ifs elt,τ=>bnd (iQ cl src τ) fun its=>grd (jK its.length) (bnd (fm (fun x=>bnd (gy tg x (fr.map (eZ τ)++Ρ (G.N.length - fr.length) Ξ)) fun τ1=>
   bnd (iH cl ifs τ1) fun r=>if r=Δ then bnd (evR cl elt τ1) fun d=>.ok (Γ d) else .ok Ξ) its) fun ds=>.ok (.lst Δ ds))
noncomputable def fq (cl:Nat->List D->Res D):List IR->Ev->Res (List D)
 |[],_=>.ok []
 |e::es,τ=>bnd (evR cl e τ) fun d=>bnd (fq cl es τ) fun ds=>.ok (d::ds)
noncomputable def lp (cl:Nat->List D->Res D):Option IR->Ev->Res (Option Int)
 |none,_=>.ok Ξ
 |some e,τ=>bnd (evR cl e τ) fun
  |.int i=>.ok (Γ i)
  |_=>stk
noncomputable def iH (cl:Nat->List D->Res D):List IR->Ev->Res Bool
 |[],_=>.ok Δ
 |e::es,τ=>bnd (bnd (evR cl e τ) fB) fun r=>if r=Δ then iH cl es τ else .ok Θ
noncomputable def iQ (cl:Nat->List D->Res D):Sr->Ev->Res (List D)
 |.rng1 n,τ=>bnd (evR cl n τ) fun
  |.int i=>grd (jm i) (.ok (gE 0 i))
  |_=>stk
 |.val e,τ=>bnd (evR cl e τ) jL
end
noncomputable def evT (cl:Nat->List D->Res D)(t:IR)(τ:Ev):Res Bool:=bnd (evR cl t τ) fB
noncomputable def kn (is:List Nat):Nat->Ev->Ev
 |_,[]=>[]
 |k,o::τ=>(if is.contains k then o.map er else o)::kn is (k+1) τ
noncomputable abbrev frz (is:List Nat)(τ:Ev):Ev:=kn is 0 τ
noncomputable def e9 : IR->Bool
 |.bin .add _ _=>Δ
 |.bin .mul _ _=>Δ
 |.sl _ _ _=>Δ
 |.bi .list _=>Δ
 |.comp _ _ _ _ _ _=>Δ
 |_=>Θ
noncomputable def fF (e:IR)(d:D)(τ:Ev):D×Ev:=
 if e7 d=Δ then(d,τ)
 else match e9 e,d with
  |true,.lst _ ds=>if eS ds=Δ then(.lst Δ ds,τ) else(.lst Δ (ers ds),frz (vars e) τ)
  |_,_=>(er d,frz (vars e) τ)
mutual
noncomputable def evO (cl:Nat->List D->Res D)(mv:Bool):IR->Ev->Res (D×Ev)
 |.v i,τ=>match eZ τ i with
  |some d=>if mv=Δ then .ok (d,τ.set i Ξ) else .ok (er d,τ.set i (Γ (er d)))
  |none=>stk
 |.tup es,τ=>bnd (ko cl mv es τ) fun p=>grd (fL p.1.length) (.ok (.tup p.1,p.2))
 |.lst es,τ=>bnd (ko cl mv es τ) fun p=>grd (fL p.1.length) (.ok (.lst Δ p.1,p.2))
 |.ite t a b,τ=>bnd (evT cl t τ) fun r=>if r=Δ then evO cl mv a τ else evO cl mv b τ
 |.call f es,τ=>bnd (fq cl es τ) fun ds=>bnd (cl f (ers ds)) fun d=>if e7 d=Δ then .ok (d,τ) else .ok (d,frz (eW es) τ)
 |e,τ=>bnd (evR cl e τ) fun d=>.ok (fF e d τ)
noncomputable def ko (cl:Nat->List D->Res D)(mv:Bool):List IR->Ev->Res (List D×Ev)
 |[],τ=>.ok ([],τ)
 |e::es,τ=>bnd (evO cl mv e τ) fun p=>bnd (ko cl mv es p.2) fun q=>.ok (p.1::q.1,q.2)
end
noncomputable def forM (body:D->Ev->Res Fl):List D->Ev->Res Fl
 |[],τ=>.ok (.nx τ)
 |x::xs,τ=>bnd (body x τ) fun
  |.nx τ'=>forM body xs τ'
  |.ct τ'=>forM body xs τ'
  |.bk τ'=>.ok (.nx τ')
  |.rt d=>.ok (.rt d)
  |.ri d ks vs=>.ok (.ri d ks vs)
noncomputable def nq (cl:Nat->List D->Res D)(s:Sr)(τ:Ev):Res (List D×Ev):=bnd (iQ cl s τ) fun its=>match s with
 |.rng1 _=>.ok (its,τ)
 |s=>.ok (ers its,frz (iP s) τ)
mutual
noncomputable def evS (cl:Nat->List D->Res D):IS->Ev->Res Fl
 |.asg tg e,τ=>bnd (evO cl Θ e τ) fun p=>bnd (gy tg p.1 p.2) fun τ'=>.ok (.nx τ')
 |.app i e,τ=>match eZ τ i with
  |some (.lst _ _)=>bnd (evO cl Θ e τ) fun p=>(match eZ p.2 i with
   |some (.lst Δ ds)=>grd (jK ds.length) (.ok (.nx (p.2.set i (Γ (.lst Δ (ds++[p.1]))))))
   |_=>stk)
  |_=>stk
 |.ret e,τ=>bnd (evO cl Δ e τ) fun p=>.ok (.rt p.1)
 |.if_ t a b,τ=>bnd (evT cl t τ) fun r=>if r=Δ then fH cl a τ else fH cl b τ
 |.for_ tg s body,τ=>bnd (nq cl s τ) fun p=>forM (fun x τ=>bnd (gy tg x τ) fun τ'=>fH cl body τ') p.1 p.2
 |.raise_ _ c _,_=>.error (.exc c)
 |.raisee _ c e,τ=>bnd (noX (evR cl e τ)) fun _=>.error (.exc c)
 |.tryc i f es _ cs k h,τ=>bnd (noX (fq cl es τ)) fun ds=>match cl f (ers ds) with
  |.ok d=>if e7 d=Δ then .ok (.nx (τ.set i (Γ d))) else .ok (.nx ((frz (eW es) τ).set i (Γ d)))
  |.error (.exc c)=>grd (cs.contains c) (bnd (noX (fH cl h (τ.set k (Γ (.exc c))))) fun
   |.nx τ'=>.ok (.nx (τ'.set k Ξ))
   |_=>stk)
  |.error .stuck=>stk
 |.tryr f es _ _ cs _,τ=>bnd (noX (fq cl es τ)) fun ds=>match cl f (ers ds) with
  |.ok d=>grd (e7 d) (.ok (.nx τ))
  |.error (.exc c)=>grd (cs.contains c) (.error (.exc fG))
  |.error .stuck=>stk
noncomputable def fH (cl:Nat->List D->Res D):List IS->Ev->Res Fl
 |[],τ=>.ok (.nx τ)
 |s::r,τ=>bnd (evS cl s τ) fun
  |.nx τ'=>fH cl r τ'
  |.ct τ'=>.ok (.ct τ')
  |.bk τ'=>.ok (.bk τ')
  |.rt d=>.ok (.rt d)
  |.ri d ks vs=>.ok (.ri d ks vs)
end
structure Fn where
 np:Nat
 G:Gm
 body:List IS
 io:Bool:=Θ
noncomputable def iA (cl:Nat->List D->Res D)(fn:Fn)(ds:List D):Res D:=
 grd (decide (ds.length=fn.np)) (bnd (fH cl fn.body (ds.map Γ++Ρ (fn.G.N.length - fn.np) Ξ)) fun
  |.nx _=>.ok .non
  |.rt d=>.ok d
  |_=>stk)
noncomputable def zp:D->D
 |.dct _ ks vs=>.dct Δ ks vs
 |d=>d
noncomputable def sQ:List D->List D
 |[]=>[]
 |[d]=>[zp d]
 |d::ds=>d::sQ ds
noncomputable def iR (cl:Nat->List D->Res D)(fn:Fn)(ds:List D):Res D:=
 grd (decide (ds.length=fn.np)) (bnd (fH cl fn.body ((sQ ds).map Γ++Ρ (fn.G.N.length - fn.np) Ξ)) fun
  |.ri d ks vs=>.ok (.tup [d,.dct Θ ks vs])
  |_=>stk)
abbrev Tb:=Nat->Option Fn
noncomputable def b9 (T:Tb):Nat->Nat->List D->Res D
 |0,_,_=>stk
 |n+1,f,ds=>match T f with
  |some fn=>(match fn.io with
   |false=>iA (b9 T n) fn ds
   |true=>iR (b9 T n) fn ds)
  |none=>stk
theorem xD {cl:Nat->List D->Res D}{i:Nat}{τ:Ev}:evR cl (.v i) τ=(match eZ τ i with|some d=>.ok d|none=>stk):=rfl
theorem xE {cl:Nat->List D->Res D}{i:Nat}{τ:Ev}{mv:Bool}:evO cl mv (.v i) τ=(match eZ τ i with|some d=>if mv=Δ then .ok (d,τ.set i Ξ) else .ok (er d,τ.set i (Γ (er d)))|none=>stk):=rfl
theorem zI:type_of% @IR.casesOn.{0}:=@IR.casesOn.{0}
theorem zT:type_of% @IS.casesOn.{0}:=@IS.casesOn.{0}
section
variable {X:Cx}{pins:List (Ψ×Obj)}{σ:St}{H:Hp}{S:Ψ->Prop}{s:Ω}
theorem Inv.not_both (I:Inv X pins σ H s){a:Ψ}{xs ys:List V}(h1:SqL X.K H a xs)(h2:SqT X.K H a ys):False:=by obtain⟨its,_,⟨o,n,e,c,_⟩,_⟩:=I.list h1;obtain⟨its',_,⟨o',e',c',_⟩,_⟩:=I.tuple h2;rw[e]at e';cases e';rw[c]at c';injection c' with c';exact absurd c' (by decide)
theorem Inv.exc_at (I:Inv X pins σ H s){a:Ψ}{c:Str}(h:SqE X.K H a (.inr c)):∃C o vs,PySem.W.nsIn X.K Ζ c=Γ (Γ (.ref C))/\nameIn X.K C=Γ c/\s.heap.get? a=Γ o/\o.cls=.ref C/\o.data=.fields vs:=by obtain⟨C,o,vs,h0,h1,h2,h3,h4⟩:=h;exact⟨C,o,vs,h0,h1,(I.hok a _ h2).1,h3,h4⟩
theorem Inv.exc_one (I:Inv X pins σ H s){a:Ψ}{c c':Str}(h:SqE X.K H a (.inr c))(k:SqE X.K H a (.inr c')):c=c':=by obtain⟨C,o,vs,_,n1,e,c1,_⟩:=I.exc_at h;obtain⟨C',o',vs',_,n2,e',c2,_⟩:=I.exc_at k;rw[e]at e';cases e';rw[c1]at c2;cases c2;rw[n1]at n2;cases n2;rfl
theorem Inv.exc_tup (I:Inv X pins σ H s){a:Ψ}{c:Str}{xs:List V}(h:SqE X.K H a (.inr c))(k:SqT X.K H a xs):False:=by obtain⟨C,o,vs,_,_,e,c1,_⟩:=I.exc_at h;obtain⟨its',_,⟨o',e',c',_⟩,_⟩:=I.tuple k;rw[e]at e';cases e';rw[c1]at c';cases c'
theorem Inv.exc_lst (I:Inv X pins σ H s){a:Ψ}{c:Str}{xs:List V}(h:SqE X.K H a (.inr c))(k:SqL X.K H a xs):False:=by obtain⟨C,o,vs,_,_,e,c1,_⟩:=I.exc_at h;obtain⟨its',_,⟨o',n,e',c',_⟩,_⟩:=I.list k;rw[e]at e';cases e';rw[c1]at c';cases c'
theorem Inv.dct_at (I:Inv X pins σ H s){a:Ψ}{kvs:List (Key×V)}(h:Rd H a (.dK kvs)):∃o es ep,s.heap.get? a=Γ o/\o.data=.dict es ep:=by obtain⟨_,_,vs,_,o,es,ep,e,c,d,_⟩:=h.ok I.hok;exact⟨o,es,ep,e,d⟩
theorem Inv.dct_tup (I:Inv X pins σ H s){a:Ψ}{kvs:List (Key×V)}{xs:List V}(h:Rd H a (.dK kvs))(k:SqT X.K H a xs):False:=by obtain⟨o,es,ep,e,d⟩:=I.dct_at h;obtain⟨its',_,⟨o',e',c',n,d'⟩,_⟩:=I.tuple k;rw[e]at e';cases e';rw[d]at d';cases d'
theorem Inv.dct_lst (I:Inv X pins σ H s){a:Ψ}{kvs:List (Key×V)}{xs:List V}(h:Rd H a (.dK kvs))(k:SqL X.K H a xs):False:=by obtain⟨o,es,ep,e,d⟩:=I.dct_at h;obtain⟨its',_,⟨o',n,e',c',n',d'⟩,_⟩:=I.list k;rw[e]at e';cases e';rw[d]at d';cases d'
theorem Inv.exc_dct (I:Inv X pins σ H s){a:Ψ}{c:Str}{kvs:List (Key×V)}(h:SqE X.K H a (.inr c))(k:Rd H a (.dK kvs)):False:=by obtain⟨C,o,vs,_,_,e,c1,d1⟩:=I.exc_at h;obtain⟨o',es,ep,e',d⟩:=I.dct_at k;rw[e]at e';cases e';rw[d]at d1;cases d1
theorem Rd.dk {H:Hp}{a:Ψ}{u v:List (Key×V)}(h:Rd H a (.dK u))(k:Rd H a (.dK v)):u=v:=by rcases h with h|⟨o,h⟩<;>rcases k with k|⟨o',k⟩<;>(rw[h]at k;cases k;try rfl)
mutual
theorem HRep.one (I:Inv X pins σ H s):∀ {v:V}{d e:D},HRep X.K S H v d->HRep X.K S H v e->er d=er e
 |_,_,_,.non,h=>by cases h;rfl
 |_,_,_,.bl b,h=>by cases h;rfl
 |_,_,_,.int i,h=>by cases h;rfl
 |_,_,_,.str x,h=>by cases h;rfl
 |_,_,_,.exc h0,h=>by
  cases h with
  |exc k1=>exact congrArg D.exc (I.exc_one h0 k1)
  |tup k1 k2=>exact(I.exc_tup h0 k1).elim
  |lst k0 k1 k2=>exact(I.exc_lst h0 (.inl k1)).elim
  |lstK k1 k2=>exact(I.exc_lst h0 k1.sq).elim
  |dct k0 k1 k2 k3=>exact(I.exc_dct h0 k1).elim
 |_,_,_,.tup h1 h2,h=>by
  cases h with
  |exc k1=>exact(I.exc_tup k1 h1).elim
  |tup k1 k2=>have e:=I.tuple_inj h1 k1;subst e;rw[er,er,HReps.one I h2 k2]
  |lst k0 k1 k2=>exact(I.not_both (.inl k1) h1).elim
  |lstK k1 k2=>exact(I.not_both k1.sq h1).elim
  |dct k0 k1 k2 k3=>exact(I.dct_tup k1 h1).elim
 |_,_,_,.lst h0 h1 h2,h=>by
  cases h with
  |exc k1=>exact(I.exc_lst k1 (.inl h1)).elim
  |tup k1 k2=>exact(I.not_both (.inl h1) k1).elim
  |lst k0 k1 k2=>have e:=I.list_inj (.inl h1) (.inl k1);subst e;rw[er,er,HReps.one I h2 k2]
  |lstK k1 k2=>have e:=I.list_inj (.inl h1) k1.sq;subst e;rw[er,er,HReps.one I h2 k2]
  |dct k0 k1 k2 k3=>exact(I.dct_lst k1 (.inl h1)).elim
 |_,_,_,.lstK h1 h2,h=>by
  cases h with
  |exc k1=>exact(I.exc_lst k1 h1.sq).elim
  |tup k1 k2=>exact(I.not_both h1.sq k1).elim
  |lst k0 k1 k2=>have e:=I.list_inj h1.sq (.inl k1);subst e;rw[er,er,HReps.one I h2 k2]
  |lstK k1 k2=>have e:=I.list_inj h1.sq k1.sq;subst e;rw[er,er,HReps.one I h2 k2]
  |dct k0 k1 k2 k3=>exact(I.dct_lst k1 h1.sq).elim
 |_,_,_,.dct h0 h1 h2 h3,h=>by
  cases h with
  |exc k1=>exact(I.exc_dct k1 h1).elim
  |tup k1 k2=>exact(I.dct_tup h1 k1).elim
  |lst k0 k1 k2=>exact(I.dct_lst h1 (.inl k1)).elim
  |lstK k1 k2=>exact(I.dct_lst h1 k1.sq).elim
  |dct k0 k1 k2 k3=>have e:=Rd.dk h1 k1;subst e;rw[er,er,HReps.one I h3 k3,<- h2,<- k2]
theorem HReps.one (I:Inv X pins σ H s):∀ {vs:List V}{ds es:List D},HReps X.K S H vs ds->HReps X.K S H vs es->ers ds=ers es
 |_,_,_,.nil,h=>by cases h;rfl
 |_,_,_,.cons h1 h2,h=>by
  cases h with
  |cons k1 k2=>rw[ers,ers,HRep.one I h1 k1,HReps.one I h2 k2]
end
end
theorem gA {α β:Type}{x:Res α}{f:α->Res β}{b:β}(h:bnd x f=.ok b):∃a,x=.ok a/\f a=.ok b:=by
 cases x with
 |error e=>cases h
 |ok a=>exact⟨a,rfl,h⟩
theorem nt {α:Type}{c:Bool}{x:Res α}{b:α}(h:grd c x=.ok b):c=Δ/\x=.ok b:=by
 unfold grd at h
 induction c using zB with
 |true=>exact⟨rfl,h⟩
 |false=>cases h
theorem gP {f:D->D->Res Bool}(hf:∀d e r,f d e=.ok r->er d=er e->r=Δ):∀ {ds es:List D}{r:Bool},gh f ds es=.ok r->ers ds=ers es->r=Δ
 |[],[],r,h,_=>by cases h;rfl
 |[],_::_,_,_,h=>by rw[ers,ers]at h;cases h
 |_::_,[],_,_,h=>by rw[ers,ers]at h;cases h
 |a::ds,b::es,r,h,h'=>by rw[ers,ers]at h';injection h' with e1 e2;obtain⟨x,hx,h⟩:=gA (show bnd (f a b) (fun x=>bnd (gh f ds es) fun y=>.ok (x&&y))=.ok r from h);obtain⟨y,hy,h⟩:=gA h;cases h;rw[hf a b x hx e1,gP hf hy e2];rfl
theorem iS:∀(n:Nat) (d e:D) (r:Bool),eqN n d e=.ok r->er d=er e->r=Δ
 |0,_,_,_,h,_=>by cases h
 |n+1,d,e,r,h,h'=>by
  induction d using zD with
  |tup ds=>
   induction e using zD with
   |tup es=>rw[er,er]at h';injection h' with e1;exact gP (iS n) h e1
   |non=>rw[er,er]at h';cases h'
   |bl _=>rw[er,er]at h';cases h'
   |int _=>rw[er,er]at h';cases h'
   |str _=>rw[er,er]at h';cases h'
   |lst _ _=>rw[er,er]at h';cases h'
   |exc _=>cases h
   |dct _ _ _=>cases h
  |lst o ds=>
   induction e using zD with
   |lst o' es=>rw[er,er]at h';injection h' with _ e1;exact gP (iS n) h e1
   |non=>rw[er,er]at h';cases h'
   |bl _=>rw[er,er]at h';cases h'
   |int _=>rw[er,er]at h';cases h'
   |str _=>rw[er,er]at h';cases h'
   |tup _=>rw[er,er]at h';cases h'
   |exc _=>cases h
   |dct _ _ _=>cases h
  |exc _=>cases h
  |dct _ _ _=>induction e using zD<;>cases h
  |non=>induction e using zD<;>first|(cases h;done)|(cases h;rfl)|(exfalso;simp[er]at h')
  |bl b=>induction e using zD<;>first|(simp only[er,D.bl.injEq]at h';subst h';cases h;simp)|(exfalso;simp[er]at h')
  |int b=>induction e using zD<;>first|(simp only[er,D.int.injEq]at h';subst h';cases h;simp)|(exfalso;simp[er]at h')
  |str b=>induction e using zD<;>first|(simp only[er,D.str.injEq]at h';subst h';cases h;simp)|(exfalso;simp[er]at h')
theorem mq {f:D->D->Res Bool}:∀ {ds es:List D}{r:Bool},gh f ds es=.ok r->ds.length≠es.length->r=Θ
 |[],[],_,_,h=>absurd rfl h
 |[],_::_,_,h,_=>by cases h;rfl
 |_::_,[],_,h,_=>by cases h;rfl
 |a::ds,b::es,r,h,n=>by obtain⟨x,hx,h⟩:=gA (show bnd (f a b) (fun x=>bnd (gh f ds es) fun y=>.ok (x&&y))=.ok r from h);obtain⟨y,hy,h⟩:=gA h;cases h;rw[mq hy (fun z=>n (by rw[List.length_cons,List.length_cons,z]))];simp
theorem nX {f:D->D->Res Bool}:∀ {ds es:List D}{r:Bool},gh f ds es=.ok r->ds.length=es.length->
  ∃e:Nat->Bool,(∀j a b,ds[j]? = Γ a->es[j]? = Γ b->f a b=.ok (e j))/\r=(List.range ds.length).all e
 |[],[],r,h,_=>by cases h;exact⟨fun _=>Δ,fun j a b h=>by simp at h,rfl⟩
 |[],_::_,_,_,h=>by cases h
 |_::_,[],_,_,h=>by cases h
 |a::ds,b::es,r,h,n=>by
  obtain⟨x,hx,h⟩:=gA (show bnd (f a b) (fun x=>bnd (gh f ds es) fun y=>.ok (x&&y))=.ok r from h);obtain⟨y,hy,h⟩:=gA h;cases h;obtain⟨e,h1,h2⟩:=nX hy (by simpa using n);refine⟨fun j=>match j with|0=>x|k+1=>e k,fun j a' b' e1 e2=>?_,?_⟩
  ·cases j with
   |zero=>simp at e1 e2;subst e1 e2;exact hx
   |succ k=>exact h1 k a' b' (by simpa using e1) (by simpa using e2)
  ·rw[h2,List.length_cons,List.range_succ_eq_map,List.all_cons,List.all_map];rfl
section
variable {X:Cx}{pins:List (Ψ×Obj)}{σ:St}{H:Hp}{S:Ψ->Prop}{s:Ω}
structure EqAll (A:Η)(s:Ω)(v u:Φ)(r:Bool):Prop where
 eq:EqAt A s v u r
 rc:RcAt A s v u r
 ne:RcNeAt A s v u (!r)
theorem mr (n:Nat)(A:Η)(ih:∀(x y:V)(v u:Φ)(d e:D)(r:Bool),HRep X.K S H x d->HRep X.K S H y e->RelV x v->RelV y u->eqN n d e=.ok r->EqAt A.in1 s v u r)
  {xs ys:List V}{ds es:List D}{its its':List Φ}{r:Bool} (rv:Vals xs its) (rv':Vals ys its') (h2:HReps X.K S H xs ds) (k2:HReps X.K S H ys es) (hr:gh (eqN n) ds es=.ok r) :
  ∃e:Nat->Bool,(∀j (q1:j < its.toArray.size) (q2:j < its'.toArray.size),EqAt A.in1 s its.toArray[j] its'.toArray[j] (e j))/\r=((List.range (min its.toArray.size its'.toArray.size)).all e&&its.toArray.size == its'.toArray.size):=by
 have l1:=h2.length;have l2:=k2.length;have l3:=rv.length;have l4:=rv'.length;have pair:∀j (j1:j < its.toArray.size) (j2:j < its'.toArray.size) (b:Bool) (d1:j < ds.length) (d2:j < es.length),eqN n ds[j] es[j]=.ok b->EqAt A.in1 s its.toArray[j] its'.toArray[j] b:=by
  intro j j1 j2 b d1 d2 hb;obtain⟨x',e1,m1⟩:=h2.get (i:=j) (d:=ds[j]) (by simp);obtain⟨y',e2,m2⟩:=k2.get (i:=j) (d:=es[j]) (by simp);obtain⟨v',ev,rv1⟩:=rv.get e1;obtain⟨u',eu,ru1⟩:=rv'.get e2;have hv:its.toArray[j]=v':=by have:=(y_.mp ev).2;simpa using this
  have hu':its'.toArray[j]=u':=by have:=(y_.mp eu).2;simpa using this
  rw[hv,hu'];exact ih x' y' v' u' _ _ _ m1 m2 rv1 ru1 hb
 have z1:its.toArray.size=ds.length:=by simp;omega
 have z2:its'.toArray.size=es.length:=by simp;omega
 by_cases hl:ds.length=es.length
 ·obtain⟨e,q1,q2⟩:=nX hr hl;refine⟨e,fun j j1 j2=>pair j j1 j2 _ (by omega) (by omega) (q1 j _ _ (by simp) (by simp)),?_⟩;rw[q2,z1,z2,hl];simp
 ·have hr':=mq hr hl;have each:∀(ds es:List D) (r:Bool),gh (eqN n) ds es=.ok r->∀j (q1:j < ds.length) (q2:j < es.length),∃b,eqN n ds[j] es[j]=.ok b:=by
   intro ds
   induction ds with
   |nil=>intro es r _ j q1;simp at q1
   |cons a ds ih=>
    intro es r h j q1 q2
    induction es using zL with
    |nil=>simp at q2
    |cons b es=>
     obtain⟨x,hx,h⟩:=gA (show bnd (eqN n a b) (fun x=>bnd (gh (eqN n) ds es) fun y=>.ok (x&&y))=.ok r from h);obtain⟨y,hy,h⟩:=gA h;cases j with
     |zero=>exact⟨x,hx⟩
     |succ k=>exact ih es y hy k (by simpa using q1) (by simpa using q2)
  refine⟨fun j=>if q:j < ds.length/\j < es.length then((match eqN n (ds[j]'q.1) (es[j]'q.2) with|.ok b=>b|.error _=>Θ)) else Θ,fun j j1 j2=>?_,?_⟩
  ·have d1:j < ds.length:=by omega
   have d2:j < es.length:=by omega
   obtain⟨b,hb⟩:=each ds es r hr j d1 d2;have q:=pair j j1 j2 b d1 d2 hb;show EqAt A.in1 s its.toArray[j] its'.toArray[j] (dite _ _ _);rw[dif_pos (show j < ds.length/\j < es.length from⟨d1,d2⟩),hb];exact q
  ·rw[hr'];have:(its.toArray.size == its'.toArray.size)=Θ:=by rw[beq_eq_false_iff_ne,z1,z2];exact hl
   rw[this,Bool.and_false]
theorem qk (I:Inv X pins σ H s)(n:Nat)(A:Η)(ih:∀(x y:V)(v u:Φ)(d e:D)(r:Bool),HRep X.K S H x d->HRep X.K S H y e->RelV x v->RelV y u->eqN n d e=.ok r->EqAt A.in1 s v u r)
  {a b:Ψ}{o o':Bool}{xs ys:List V}{ds es:List D}{r:Bool} (ha:SqL X.K H a xs) (hb:SqL X.K H b ys) (h2:HReps X.K S H xs ds) (k2:HReps X.K S H ys es)
  (m1:HRep X.K S H (.ref a) (.lst o ds)) (m2:HRep X.K S H (.ref b) (.lst o' es)) (hr:gh (eqN n) ds es=.ok r) (hu0:A.units < cLine):EqAll A s (.ref a) (.ref b) r:=by
 obtain⟨its,rv,p,_⟩:=I.list ha;obtain⟨its',rv',p',_⟩:=I.list hb;obtain⟨e,he,hre⟩:=mr n A ih rv rv' h2 k2 hr;have both:RcAt A s (.ref a) (.ref b) r/\RcNeAt A s (.ref a) (.ref b) (!r):=by
  by_cases hl:its.toArray.size=its'.toArray.size
  ·have hre':r=(List.range its.toArray.size).all e:=by rw[hre,<- hl,Nat.min_self];simp
   rw[hre'];exact⟨.lists p.isList p'.isList hl hu0 he,.lists p.isList p'.isList hl hu0 he⟩
  ·have hne:(its.toArray.size != its'.toArray.size)=Δ:=by simpa using hl
   have hre':r=Θ:=by
    rw[hre];have:(its.toArray.size == its'.toArray.size)=Θ:=by rw[beq_eq_false_iff_ne];exact hl
    rw[this,Bool.and_false]
   rw[hre'];exact⟨.lists_lengths p.isList p'.isList hne hu0,.lists_lengths p.isList p'.isList hne hu0⟩
 refine⟨?_,both.1,both.2⟩;by_cases hab:a=b
 ·subst hab;have hd:=HRep.one I m1 m2;rw[er,er]at hd;injection hd with _ hd;rw[gP (iS n) hr hd];exact .same _
 ·exact .of_refs hab both.1
set_option maxHeartbeats 4000000 in
theorem lq (I:Inv X pins σ H s):∀(n:Nat) (A:Η) (x y:V) (v u:Φ) (d e:D) (r:Bool),HRep X.K S H x d->HRep X.K S H y e->RelV x v->RelV y u->eqN n d e=.ok r->
  A.units+n < cLine->EqAll A s v u r
 |0,_,_,_,_,_,_,_,_,_,_,_,_,h,_=>by cases h
 |n+1,A,x,y,v,u,d,e,r,hx,hy,rx,ry,h,hu=>by
  have hu0:A.units < cLine:=by omega
  have hu1:A.in1.units+n < cLine:=by show A.units+1+n < cLine;omega
  have ih:∀(x y:V) (v u:Φ) (d e:D) (r:Bool),HRep X.K S H x d->HRep X.K S H y e->RelV x v->RelV y u->eqN n d e=.ok r->EqAt A.in1 s v u r:=
   fun x y v u d e r a1 a2 a3 a4 a5=>(lq I n A.in1 x y v u d e r a1 a2 a3 a4 a5 hu1).eq
  induction d using zD with
  |non=>
   cases hx.nonR;cases rx
   induction e using zD with
   |non=>cases hy.nonR;cases ry;cases h;exact⟨.same _,.none_none,.none_none⟩
   |bl b'=>cases hy.blR;cases ry;cases h;exact⟨.none_bool _,.none_bool _,.none_bool _⟩
   |int i'=>cases hy.intR;obtain⟨t2,rfl⟩:=ry;cases h;exact⟨.none_int _ _,.none_int _ _,.none_int _ _⟩
   |str z'=>cases hy.strR;obtain⟨t2,rfl⟩:=ry;cases h;exact⟨.none_str _ _,.none_str _ _,.none_str _ _⟩
   |tup es=>obtain⟨a2,xs2,rfl,q2,m2⟩:=hy.tupR;cases ry;obtain⟨its2,rv2,p2,_⟩:=I.tuple q2;cases h;exact⟨.none_tuple p2 hu0,.none_tuple p2 hu0,.none_tuple p2 hu0⟩
   |lst o' es=>obtain⟨a2,xs2,rfl,q2,m2⟩:=hy.lstR;cases ry;obtain⟨its2,rv2,p2,_⟩:=I.list q2;cases h;exact⟨.none_list p2.isList hu0,.none_list p2.isList hu0,.none_list p2.isList hu0⟩
   |exc _=>cases h
   |dct _ _ _=>cases h
  |bl b=>
   cases hx.blR;cases rx
   induction e using zD with
   |non=>cases hy.nonR;cases ry;cases h;exact⟨.bool_none _,.bool_none _,.bool_none _⟩
   |bl b'=>cases hy.blR;cases ry;cases h;exact⟨.bool_bool _ _,.bool_bool _ _,.bool_bool _ _⟩
   |int i'=>cases hy.intR;obtain⟨t2,rfl⟩:=ry;cases h;exact⟨.bool_int _ _ _,.bool_int _ _ _,.bool_int _ _ _⟩
   |str z'=>cases hy.strR;obtain⟨t2,rfl⟩:=ry;cases h;exact⟨.bool_str _ _ _,.bool_str _ _ _,.bool_str _ _ _⟩
   |tup es=>obtain⟨a2,xs2,rfl,q2,m2⟩:=hy.tupR;cases ry;obtain⟨its2,rv2,p2,_⟩:=I.tuple q2;cases h;exact⟨.bool_tuple _ p2 hu0,.bool_tuple _ p2 hu0,.bool_tuple _ p2 hu0⟩
   |lst o' es=>obtain⟨a2,xs2,rfl,q2,m2⟩:=hy.lstR;cases ry;obtain⟨its2,rv2,p2,_⟩:=I.list q2;cases h;exact⟨.bool_list _ p2.isList hu0,.bool_list _ p2.isList hu0,.bool_list _ p2.isList hu0⟩
   |exc _=>cases h
   |dct _ _ _=>cases h
  |int i=>
   cases hx.intR;obtain⟨t1,rfl⟩:=rx
   induction e using zD with
   |non=>cases hy.nonR;cases ry;cases h;exact⟨.int_none _ _,.int_none _ _,.int_none _ _⟩
   |bl b'=>cases hy.blR;cases ry;cases h;exact⟨.int_bool _ _ _,.int_bool _ _ _,.int_bool _ _ _⟩
   |int i'=>cases hy.intR;obtain⟨t2,rfl⟩:=ry;cases h;exact⟨.int_int _ _ _ _,.int_int _ _ _ _,.int_int _ _ _ _⟩
   |str z'=>cases hy.strR;obtain⟨t2,rfl⟩:=ry;cases h;exact⟨.int_str _ _ _ _,.int_str _ _ _ _,.int_str _ _ _ _⟩
   |tup es=>obtain⟨a2,xs2,rfl,q2,m2⟩:=hy.tupR;cases ry;obtain⟨its2,rv2,p2,_⟩:=I.tuple q2;cases h;exact⟨.int_tuple _ _ p2 hu0,.int_tuple _ _ p2 hu0,.int_tuple _ _ p2 hu0⟩
   |lst o' es=>obtain⟨a2,xs2,rfl,q2,m2⟩:=hy.lstR;cases ry;obtain⟨its2,rv2,p2,_⟩:=I.list q2;cases h;exact⟨.int_list _ _ p2.isList hu0,.int_list _ _ p2.isList hu0,.int_list _ _ p2.isList hu0⟩
   |exc _=>cases h
   |dct _ _ _=>cases h
  |str z=>
   cases hx.strR;obtain⟨t1,rfl⟩:=rx
   induction e using zD with
   |non=>cases hy.nonR;cases ry;cases h;exact⟨.str_none _ _,.str_none _ _,.str_none _ _⟩
   |bl b'=>cases hy.blR;cases ry;cases h;exact⟨.str_bool _ _ _,.str_bool _ _ _,.str_bool _ _ _⟩
   |int i'=>cases hy.intR;obtain⟨t2,rfl⟩:=ry;cases h;exact⟨.str_int _ _ _ _,.str_int _ _ _ _,.str_int _ _ _ _⟩
   |str z'=>cases hy.strR;obtain⟨t2,rfl⟩:=ry;cases h;exact⟨.str_str _ _ _ _,.str_str _ _ _ _,.str_str _ _ _ _⟩
   |tup es=>obtain⟨a2,xs2,rfl,q2,m2⟩:=hy.tupR;cases ry;obtain⟨its2,rv2,p2,_⟩:=I.tuple q2;cases h;exact⟨.str_tuple _ _ p2 hu0,.str_tuple _ _ p2 hu0,.str_tuple _ _ p2 hu0⟩
   |lst o' es=>obtain⟨a2,xs2,rfl,q2,m2⟩:=hy.lstR;cases ry;obtain⟨its2,rv2,p2,_⟩:=I.list q2;cases h;exact⟨.str_list _ _ p2.isList hu0,.str_list _ _ p2.isList hu0,.str_list _ _ p2.isList hu0⟩
   |exc _=>cases h
   |dct _ _ _=>cases h
  |tup ds=>
   obtain⟨a1,xs1,rfl,q1,m1⟩:=hx.tupR;cases rx;obtain⟨its1,rv1,p1,_⟩:=I.tuple q1
   induction e using zD with
   |non=>cases hy.nonR;cases ry;cases h;exact⟨.tuple_none p1 hu0,.tuple_none p1 hu0,.tuple_none p1 hu0⟩
   |bl b'=>cases hy.blR;cases ry;cases h;exact⟨.tuple_bool _ p1 hu0,.tuple_bool _ p1 hu0,.tuple_bool _ p1 hu0⟩
   |int i'=>cases hy.intR;obtain⟨t2,rfl⟩:=ry;cases h;exact⟨.tuple_int _ _ p1 hu0,.tuple_int _ _ p1 hu0,.tuple_int _ _ p1 hu0⟩
   |str z'=>cases hy.strR;obtain⟨t2,rfl⟩:=ry;cases h;exact⟨.tuple_str _ _ p1 hu0,.tuple_str _ _ p1 hu0,.tuple_str _ _ p1 hu0⟩
   |tup es=>
    have hx':=hx;have hy':=hy;obtain⟨a2,xs2,rfl,q2,m2⟩:=hy.tupR;cases ry;obtain⟨its2,rv2,p2,_⟩:=I.tuple q2;have hr:gh (eqN n) ds es=.ok r:=h;obtain⟨e,he,hre⟩:=mr n A ih rv1 rv2 m1 m2 hr;refine⟨?_,?_,?_⟩
    ·by_cases hab:a1=a2
     ·subst hab;have hd:=HRep.one I hx' hy';rw[er,er]at hd;injection hd with hd;rw[gP (iS n) hr hd];exact .same _
     ·rw[hre];exact .of_refs hab (.tuples p1 p2 hu0 he)
    ·rw[hre];exact .tuples p1 p2 hu0 he
    ·rw[hre];exact .tuples p1 p2 hu0 he
   |lst o' es=>obtain⟨a2,xs2,rfl,q2,m2⟩:=hy.lstR;cases ry;obtain⟨its2,rv2,p2,_⟩:=I.list q2;cases h;exact⟨.tuple_list p1 p2.isList hu0,.tuple_list p1 p2.isList hu0,.tuple_list p1 p2.isList hu0⟩
   |exc _=>cases h
   |dct _ _ _=>cases h
  |lst o ds=>
   obtain⟨a1,xs1,rfl,q1,m1⟩:=hx.lstR;cases rx;obtain⟨its1,rv1,p1,_⟩:=I.list q1
   induction e using zD with
   |non=>cases hy.nonR;cases ry;cases h;exact⟨.list_none p1.isList hu0,.list_none p1.isList hu0,.list_none p1.isList hu0⟩
   |bl b'=>cases hy.blR;cases ry;cases h;exact⟨.list_bool _ p1.isList hu0,.list_bool _ p1.isList hu0,.list_bool _ p1.isList hu0⟩
   |int i'=>cases hy.intR;obtain⟨t2,rfl⟩:=ry;cases h;exact⟨.list_int _ _ p1.isList hu0,.list_int _ _ p1.isList hu0,.list_int _ _ p1.isList hu0⟩
   |str z'=>cases hy.strR;obtain⟨t2,rfl⟩:=ry;cases h;exact⟨.list_str _ _ p1.isList hu0,.list_str _ _ p1.isList hu0,.list_str _ _ p1.isList hu0⟩
   |tup es=>obtain⟨a2,xs2,rfl,q2,m2⟩:=hy.tupR;cases ry;obtain⟨its2,rv2,p2,_⟩:=I.tuple q2;cases h;exact⟨.list_tuple p1.isList p2 hu0,.list_tuple p1.isList p2 hu0,.list_tuple p1.isList p2 hu0⟩
   |lst o' es=>have hx':=hx;have hy':=hy;obtain⟨a2,xs2,rfl,q2,m2⟩:=hy.lstR;cases ry;obtain⟨its2,rv2,p2,_⟩:=I.list q2;exact qk I n A ih q1 q2 m1 m2 hx' hy' h hu0
   |exc _=>cases h
   |dct _ _ _=>cases h
  |exc _=>cases h
  |dct _ _ _=>induction e using zD<;>cases h
end
abbrev nw (S:Ψ->Prop)(H:Hp):Ψ->Prop:=fun a=>S a∨H a=Ξ
abbrev Kk (K:Frag)(S:Ψ->Prop)(H:Hp)(Q:VK):D->Prop:=fun d=>∀w H',eX H H'->HRep K (nw S H) H' w d->Q w H'
theorem HRep.nw {K:Frag}{S:Ψ->Prop}{H:Hp}{v:V}{d:D}(h:HRep K S H v d):HRep K (nw S H) H v d:=h.mono (fun _=>.inl) (.refl _)
theorem vE {K:Frag}{S:Ψ->Prop}{H:Hp}{p:Ψ}{vs:List V}{ds:List D}(hp:H p=Ξ)(h:HReps K S H vs ds):HRep K (nw S H) (upd H p (.tup vs)) (.ref p) (.tup ds):=
 .tup (.inl (.inl fg)) (h.mono (fun _=>.inl) (.upd hp))
theorem lD {K:Frag}{S:Ψ->Prop}{H:Hp}{p:Ψ}{vs:List V}{ds:List D}{o:Bool}(hp:H p=Ξ)(h:HReps K S H vs ds):HRep K (nw S H) (upd H p (.lst vs)) (.ref p) (.lst o ds):=
 .lst (.inr hp) (.inl fg) (h.mono (fun _=>.inl) (.upd hp))
noncomputable def bop:BOp->Operator
 |.add=>.Add|.sub=>.Sub|.mul=>.Mult|.fdiv=>.FloorDiv|.mod=>.Mod|.pow=>.Pow
noncomputable def cop:COp->CmpOp
 |.eq=>.Eq|.ne=>.NotEq|.lt=>.Lt|.le=>.LtE|.gt=>.Gt|.ge=>.GtE|.in_=>.In|.nin=>.NotIn|.is_=>.Is|.isn=>.IsNot
def zq (K:Frag)(ex:Str->Prop)(op:BOp):R2:=fun x y H Q=>∃S d e,HRep K S H x d/\HRep K S H y e/\PO' ex (opB op d e) (Kk K S H Q)
def zr (K:Frag)(ex:Str->Prop)(op:COp):R2:=fun x y H Q=>∃S d e,HRep K S H x d/\HRep K S H y e/\PO' ex (opC op d e) fun r=>Q (.bl r) H
section
variable {X:Cx}{ex:Str->Prop}
theorem fI {n:Nat}(h:fL n=Δ):n<=Ε:=m_ h
theorem nY {n:Nat}(h:jK n=Δ):n < Ε:=m_ h
theorem nZ:OpR X (binaryOp .Add) (fun x y H Q=>∃l b xs zs,x=.ref l/\y=.ref b/\Ls X.K H l xs/\Ls X.K H b zs/\xs.length+zs.length<=Ε/\∀p,H p=Ξ->Q (.ref p) (upd H p (.lst (xs++zs)))):=by
 intro pins s σ H x y v u Q I rx ry h;obtain⟨l,b,xs,zs,rfl,rfl,hH,hB,hz,q⟩:=h;cases rx;cases ry;obtain⟨hl,its,n,r,e⟩:=I.ls hH;obtain⟨hl2,its2,n2,r2,e'⟩:=I.ls hB;have e1:=r.length;have e2:=r2.length;refine PySem.P.add_list e e' ?_ (by rw[zU,zU];omega);have ea:its.toArray++its2.toArray=(its++its2).toArray:=by simp
 rw[ea];exact⟨.ref _,_,I.lnew (t':=s.toks) (r.append r2) (by rw[zW];omega),rfl,q _ I.fresh⟩
theorem ql {vs:List V}{its:List Φ}(r:Vals vs its):∀k:Nat,Vals (Ρ k vs).flatten (Ρ k its).flatten:=r.rep
theorem n4:OpR X (binaryOp .Mult) (fun x y H Q=>∃l k xs,x=.ref l/\y=.int k/\Ls X.K H l xs/\0<=k/\k<=16000/\xs.length<=1000/\∀p,H p=Ξ->Q (.ref p) (upd H p (.lst (Ρ k.toNat xs).flatten))):=by
 intro pins s σ H x y v u Q I rx ry h;obtain⟨l,k,xs,rfl,rfl,hH,h1,h2,hx,q⟩:=h;cases rx;obtain⟨t,rfl⟩:=ry;obtain⟨hl,its,n,r,e⟩:=I.ls hH;have el:=r.length;have hz:xs.length*k.toNat<=1000*16000:=Nat.mul_le_mul hx (by omega);have big:1000*16000<=Ε:=by decide
 have hsz:its.toArray.size*k.toNat<=Ε:=by rw[zU,<- el];omega
 have c1:¬its.toArray.size*k.toNat > (2 ^ 63 - 1) / 8:=by
  have:(Ε:Nat)<=(2 ^ 63 - 1) / 8:=by decide
  omega
 have c2:¬(!Builtin.List.listFitsIndex k)=Δ:=by rw[fitsIndex_both (by omega) (by omega)];exact i_
 have c3:¬Builtin.List.listTooLong (its.toArray.size*k.toNat)=Δ:=by rw[p5 hsz];exact i_
 have f0:∀m:Nat,List.foldl (fun a b=>a++b) #[] (Ρ m its.toArray)=(Ρ m its).flatten.toArray:=fun m=>by have z:=foldl_rep its m [];rw[List.nil_append]at z;exact z
 have f1:List.foldl (fun a b=>a++b) #[] (Ρ (if its.toArray.isEmpty=Δ then 0 else k.toNat) its.toArray)=(Ρ k.toNat its).flatten.toArray:=by
  rw[f0]
  induction its using zL with
  |nil=>simp
  |cons _ _=>rw[c_ (by simp)]
 refine wpAny_binaryOp_repeat_ref (T:="list") (U:="int") (by decide) ⟨_,e,rfl⟩ (fun s'=>typeIs_int s' k t) noFill_list_mul F.fills_int_mul F.slot_int_rmul repeat_list F.slot_int_index.lookup (call_meets F.slot_int_rmul (typeIs_int s k t) F.entry_int_rmul (F.args_int_rmul_2 _ _) (int___rmul___int_list k t l its.toArray n) ⟨e,rfl,⟨_,e,rfl⟩,call_meets F.slot_list_mul ⟨_,e,rfl⟩ F.entry_list_mul (F.args_list_mul_2 _ _) (AutoListH.list___mul___list_int_3 l its.toArray n k t c2 c1 c3) ⟨e,?_⟩⟩);rw[f1];exact⟨.ref _,_,I.lnew (t':=s.toks) (ql r k.toNat) (by rw[len_rep,Nat.mul_comm];omega),rfl,q _ I.fresh⟩
theorem HReps.rep {K:Frag}{S:Ψ->Prop}{H:Hp}{vs:List V}{ds:List D}(m:HReps K S H vs ds):∀k:Nat,HReps K S H (Ρ k vs).flatten (Ρ k ds).flatten
 |0=>.nil
 |k+1=>by rw[List.replicate_succ,List.replicate_succ,List.flatten_cons,List.flatten_cons];exact m.append (HReps.rep m k)
theorem vF (op:BOp):OpR X (binaryOp (bop op)) (zq X.K ex op):=by
 intro pins s σ H x y v u Q I rx ry h;obtain⟨S,d,e,hx,hy,h⟩:=h;have stuck:∀ {P:Prop},opB op d e=stk->P:=fun z=>by rw[z]at h;exact h.no.elim
 cases op with
 |add=>
  induction d using zD with
  |int a=>
   induction e using zD with
   |int b=>cases hx.intR;cases hy.intR;exact vm pins s σ H _ _ v u Q I rx ry ⟨a,b,rfl,rfl,h.ok _ _ (.refl _) (.int _)⟩
   |_=>exact stuck rfl
  |str a=>
   induction e using zD with
   |str b=>cases hx.strR;cases hy.strR;obtain⟨g,h⟩:=PO'.grd h;exact ng pins s σ H _ _ v u Q I rx ry ⟨a,b,rfl,rfl,fI g,h.ok _ _ (.refl _) (.str _)⟩
   |_=>exact stuck rfl
  |lst o a=>
   induction e using zD with
   |lst o' b=>obtain⟨p,xs,rfl,q1,m1⟩:=hx.lstL;obtain⟨p',ys,rfl,q2,m2⟩:=hy.lstL;obtain⟨g,h⟩:=PO'.grd h;have g':=fI g;have l1:=m1.length;have l2:=m2.length;exact nZ pins s σ H _ _ v u Q I rx ry ⟨p,p',xs,ys,rfl,rfl,q1,q2,by omega,fun z hz=>h.ok _ _ (.upd hz) (lD hz (m1.append m2))⟩
   |_=>exact stuck rfl
  |_=>exact stuck rfl
 |sub=>
  induction d using zD with
  |int a=>
   induction e using zD with
   |int b=>cases hx.intR;cases hy.intR;exact vn pins s σ H _ _ v u Q I rx ry ⟨a,b,rfl,rfl,h.ok _ _ (.refl _) (.int _)⟩
   |_=>exact stuck rfl
  |_=>exact stuck rfl
 |mul=>
  induction d using zD with
  |int a=>
   induction e using zD with
   |int b=>cases hx.intR;cases hy.intR;obtain⟨g,h⟩:=PO'.grd h;rw[zX]at g;exact vp pins s σ H _ _ v u Q I rx ry ⟨a,b,rfl,rfl,g.elim (fun z=>.inl (m_ z)) (fun z=>.inr (m_ z)),h.ok _ _ (.refl _) (.int _)⟩
   |_=>exact stuck rfl
  |str a=>
   induction e using zD with
   |int b=>cases hx.strR;cases hy.intR;obtain⟨g,h⟩:=PO'.grd h;have g':=m_ g;exact nk pins s σ H _ _ v u Q I rx ry ⟨a,b,rfl,rfl,g'.1,g'.2.1,g'.2.2,h.ok _ _ (.refl _) (.str _)⟩
   |_=>exact stuck rfl
  |lst o a=>
   induction e using zD with
   |int b=>obtain⟨p,xs,rfl,q1,m1⟩:=hx.lstL;cases hy.intR;obtain⟨g,h⟩:=PO'.grd h;have g':=m_ g;have l1:=m1.length;exact n4 pins s σ H _ _ v u Q I rx ry ⟨p,b,xs,rfl,rfl,q1,g'.1,g'.2.1,by rw[l1];exact g'.2.2,fun z hz=>h.ok _ _ (.upd hz) (lD hz (m1.rep _))⟩
   |_=>exact stuck rfl
  |_=>exact stuck rfl
 |fdiv=>
  induction d using zD with
  |int a=>
   induction e using zD with
   |int b=>cases hx.intR;cases hy.intR;obtain⟨g,h⟩:=PO'.grd h;exact si pins s σ H _ _ v u Q I rx ry ⟨a,b,rfl,rfl,show 0 < b/\b < 1073741824 from m_ g,h.ok _ _ (.refl _) (.int _)⟩
   |_=>exact stuck rfl
  |_=>exact stuck rfl
 |mod=>
  induction d using zD with
  |int a=>
   induction e using zD with
   |int b=>cases hx.intR;cases hy.intR;obtain⟨g,h⟩:=PO'.grd h;exact vq pins s σ H _ _ v u Q I rx ry ⟨a,b,rfl,rfl,m_ g,h.ok _ _ (.refl _) (.int _)⟩
   |_=>exact stuck rfl
  |_=>exact stuck rfl
 |pow=>
  induction d using zD with
  |int a=>
   induction e using zD with
   |int b=>cases hx.intR;cases hy.intR;obtain⟨g,h⟩:=PO'.grd h;exact vt pins s σ H _ _ v u Q I rx ry ⟨a,b,rfl,rfl,show 0<=b/\b<=1000000/\a.natAbs < 2 ^ 64 from m_ g,h.ok _ _ (.refl _) (.int _)⟩
   |_=>exact stuck rfl
  |_=>exact stuck rfl
theorem PO'.eqN {ex:Str->Prop}:∀ {n:Nat}{d e:D}{k:Bool->Prop},PO' ex (L2.eqN n d e) k->∃r,L2.eqN n d e=.ok r/\k r:=by
 have no:∀(n:Nat) (d e:D) (c:Str),L2.eqN n d e≠.error (.exc c):=by
  intro n;have seqs:∀(f:D->D->Res Bool),(∀d e c,f d e≠.error (.exc c))->∀(ds es:List D) (c:Str),gh f ds es≠.error (.exc c):=by
   intro f hf ds
   induction ds with
   |nil=>intro es c h;cases es<;>cases h
   |cons a ds ih=>
    intro es c h
    induction es using zL with
    |nil=>cases h
    |cons b es=>
     have h':L2.bnd (f a b) (fun x=>L2.bnd (gh f ds es) fun y=>.ok (x&&y))=.error (.exc c):=h;cases q:f a b with
     |error z=>rw[q]at h';exact hf a b c (by rw[q];exact h')
     |ok x=>
      rw[q]at h';have h2:L2.bnd (gh f ds es) (fun y=>.ok (x&&y))=.error (.exc c):=h';cases q2:gh f ds es with
      |error z=>rw[q2]at h2;exact ih es c (by rw[q2];exact h2)
      |ok y=>rw[q2]at h2;cases h2
  induction n with
  |zero=>intro d e c h;cases h
  |succ n ih=>
   intro d e c h
   induction d using zD<;>induction e using zD<;>first|cases h|exact seqs _ ih _ _ _ h
 intro n d e k h;cases q:L2.eqN n d e with
 |ok r=>rw[q]at h;exact⟨r,rfl,h⟩
 |error z=>
  rw[q]at h;cases z with
  |stuck=>exact h.no.elim
  |exc c=>exact absurd q (no n d e c)
theorem PO'.anyN {ex:Str->Prop}{d:D}:∀ {ds:List D}{k:Bool->Prop},PO' ex (L2.anyN d ds) k->∃f:Nat->Bool,(∀i e,ds[i]? = Γ e->L2.eqN 40 e d=.ok (f i))/\k ((List.range ds.length).any f)
 |[],k,h=>⟨fun _=>Θ,fun i e z=>by simp at z,h⟩
 |e::r,k,h=>by
  obtain⟨x,ex',h1⟩:=PO'.eqN (PO'.bnd h);obtain⟨f,h2,h3⟩:=PO'.anyN (PO'.bnd h1);refine⟨fun i=>match i with|0=>x|j+1=>f j,fun i e' z=>?_,?_⟩
  ·cases i with
   |zero=>simp at z;subst z;exact ex'
   |succ j=>exact h2 j e' (by simpa using z)
  ·rw[List.length_cons,List.range_succ_eq_map,List.any_cons,List.any_map];exact h3
theorem nu {A:Η}{s:Ω}{v:Φ}(its:List Φ)(f:Nat->Bool)(h:∀i u,its[i]? = Γ u->EqAt A s u v (f i)) :
  ∃e:Φ->Bool,(∀y,y∈its.toArray->EqAt A s y v (e y))/\its.toArray.any e=(List.range its.length).any f:=by
 classical
 refine⟨fun y=>decide (∃i,its[i]? = Γ y/\f i=Δ),fun y hy=>?_,?_⟩
 ·have hy':y∈its:=by simpa using hy
  obtain⟨j,hj⟩:=List.getElem?_of_mem hy';show EqAt A s y v (decide (∃i,its[i]? = Γ y/\f i=Δ));by_cases q:∃i,its[i]? = Γ y/\f i=Δ
  ·rw[l_ q];obtain⟨i,hi,fi⟩:=q;have:=h i y hi;rw[fi]at this;exact this
  ·rw[w_ q];have:=h j y hj;have fj:f j=Θ:=by
    cases z:f j with
    |false=>rfl
    |true=>exact absurd ⟨j,hj,z⟩ q
   rw[fj]at this;exact this
 ·rw[Bool.eq_iff_iff];simp only[List.any_toArray,List.any_eq_true,List.mem_range,decide_eq_true_eq];constructor
  ·rintro⟨y,hy,i,hi,fi⟩;exact⟨i,(y_.mp hi).1,fi⟩
  ·rintro⟨i,hi,fi⟩;exact⟨its[i],List.getElem_mem hi,i,by simp[hi],fi⟩
theorem ik (hu:X.A.units+42 < cLine){pins:List (Ψ×Obj)}{s:Ω}{σ:St}{H:Hp}{S:Ψ->Prop}{x:V}{v:Φ}{d:D}{k:Bool->Prop}(I:Inv X pins σ H s)(rx:RelV x v)(hx:HRep X.K S H x d)
  {xs:List V}{its:List Φ}{ds:List D} (rv:Vals xs its) (m:HReps X.K S H xs ds) (h:PO' ex (anyN d ds) k) :
  ∃e:Φ->Bool,(∀y,y∈its.toArray->EqAt X.A.in1 s y v (e y))/\k (its.toArray.any e):=by
 obtain⟨f,h1,h2⟩:=PO'.anyN h;have l1:=rv.length;have l2:=m.length;obtain⟨e,h3,h4⟩:=nu (A:=X.A.in1) (s:=s) (v:=v) its f fun i u hi=>by have hlt:i < its.length:=(y_.mp hi).1;obtain⟨y,hy,my⟩:=m.get (i:=i) (d:=ds[i]'(by omega)) (by simp);obtain⟨u',hu',ru⟩:=rv.get hy;rw[hi]at hu';cases hu';exact(lq I 40 X.A.in1 y x u v _ d _ my hx ru rx (h1 i _ (by simp)) (by show X.A.units+1+40 < cLine;omega)).eq
 refine⟨e,h3,?_⟩;rw[h4,show its.length=ds.length by omega];exact h2
theorem jb (hu:X.A.units+42 < cLine)(op:COp):OpR X (compareOp (cop op)) (zr X.K ex op):=by
 intro pins s σ H x y v u Q I rx ry h;obtain⟨S,d,e,hx,hy,h⟩:=h;have stuck:∀ {P:Prop},opC op d e=stk->P:=fun z=>by rw[z]at h;exact h.no.elim
 have fin:∀ {b:Bool},Q (.bl b) H->EP X pins σ Q (.bool b) s:=fun q=>⟨.bl _,H,I,rfl,q⟩
 cases op with
 |eq=>obtain⟨r,h1,h2⟩:=PO'.eqN h;exact(lq I 40 X.A x y v u d e r hx hy rx ry h1 (by omega)).rc _ _ _ _ (fin h2)
 |ne=>obtain⟨r,h1,h2⟩:=PO'.eqN (PO'.bnd h);exact(lq I 40 X.A x y v u d e r hx hy rx ry h1 (by omega)).ne _ _ _ _ (fin h2.ok)
 |lt=>
  induction d using zD with
  |int a=>
   induction e using zD with
   |int b=>cases hx.intR;cases hy.intR;obtain⟨t,rfl⟩:=rx;obtain⟨t',rfl⟩:=ry;exact lt_int (fin h.ok)
   |_=>exact stuck rfl
  |_=>exact stuck rfl
 |le=>
  induction d using zD with
  |int a=>
   induction e using zD with
   |int b=>cases hx.intR;cases hy.intR;obtain⟨t,rfl⟩:=rx;obtain⟨t',rfl⟩:=ry;exact le_int (fin h.ok)
   |_=>exact stuck rfl
  |_=>exact stuck rfl
 |gt=>
  induction d using zD with
  |int a=>
   induction e using zD with
   |int b=>cases hx.intR;cases hy.intR;obtain⟨t,rfl⟩:=rx;obtain⟨t',rfl⟩:=ry;exact gt_int (fin h.ok)
   |_=>exact stuck rfl
  |_=>exact stuck rfl
 |ge=>cases d<;>cases e<;>exact stuck rfl
 |in_=>
  induction e using zD with
  |str b=>
   induction d using zD with
   |str a=>cases hx.strR;cases hy.strR;obtain⟨t,rfl⟩:=rx;obtain⟨t',rfl⟩:=ry;exact in_str (fin h.ok)
   |_=>exact stuck rfl
  |lst o ds=>obtain⟨a,xs,rfl,q1,m1⟩:=hy.lstR;cases ry;obtain⟨its,rv,pl,_⟩:=I.list q1;obtain⟨e,h1,h2⟩:=ik (ex:=ex) hu I rx hx rv m1 (by induction d using zD<;>exact h);exact in_listAt e pl.isList h1 (fin h2)
  |tup ds=>obtain⟨a,xs,rfl,q1,m1⟩:=hy.tupR;cases ry;obtain⟨its,rv,pl,_⟩:=I.tuple q1;obtain⟨e,h1,h2⟩:=ik (ex:=ex) hu I rx hx rv m1 (by induction d using zD<;>exact h);exact in_tupleAt e pl h1 (fin h2)
  |non=>induction d using zD<;>exact stuck rfl
  |bl _=>induction d using zD<;>exact stuck rfl
  |int _=>induction d using zD<;>exact stuck rfl
  |exc _=>induction d using zD<;>exact stuck rfl
  |dct _ _ _=>induction d using zD<;>exact stuck rfl
 |nin=>
  induction e using zD with
  |str b=>
   induction d using zD with
   |str a=>cases hx.strR;cases hy.strR;obtain⟨t,rfl⟩:=rx;obtain⟨t',rfl⟩:=ry;exact notIn_str (fin h.ok)
   |_=>exact stuck rfl
  |lst o ds=>obtain⟨a,xs,rfl,q1,m1⟩:=hy.lstR;cases ry;obtain⟨its,rv,pl,_⟩:=I.list q1;obtain⟨e,h1,h2⟩:=ik (ex:=ex) (k:=fun r=>Q (.bl !r) H) hu I rx hx rv m1 ((PO'.bnd (show PO' ex (bnd (anyN d ds) fun r=>.ok !r) (fun r=>Q (.bl r) H) by induction d using zD<;>exact h)).mono fun _ z=>z);exact notIn_listAt e pl.isList h1 (fin h2)
  |tup ds=>obtain⟨a,xs,rfl,q1,m1⟩:=hy.tupR;cases ry;obtain⟨its,rv,pl,_⟩:=I.tuple q1;obtain⟨e,h1,h2⟩:=ik (ex:=ex) (k:=fun r=>Q (.bl !r) H) hu I rx hx rv m1 ((PO'.bnd (show PO' ex (bnd (anyN d ds) fun r=>.ok !r) (fun r=>Q (.bl r) H) by induction d using zD<;>exact h)).mono fun _ z=>z);exact notIn_tupleAt e pl h1 (fin h2)
  |non=>induction d using zD<;>exact stuck rfl
  |bl _=>induction d using zD<;>exact stuck rfl
  |int _=>induction d using zD<;>exact stuck rfl
  |exc _=>induction d using zD<;>exact stuck rfl
  |dct _ _ _=>induction d using zD<;>exact stuck rfl
 |is_=>
  induction e using zD with
  |non=>
   cases hy.nonR;cases ry;have ev:jk d=(v == Value.none):=by
    cases hx with
    |non=>cases rx;rfl
    |bl b=>cases rx;rfl
    |int i=>obtain⟨t,rfl⟩:=rx;rfl
    |str z=>obtain⟨t,rfl⟩:=rx;rfl
    |tup _ _=>cases rx;rfl
    |lst _ _ _=>cases rx;rfl
    |lstK _ _=>cases rx;rfl
    |exc _=>cases rx;rfl
    |dct _ _ _ _=>cases rx;rfl
   have h':Q (.bl (jk d)) H:=by induction d using zD<;>exact h
   rw[ev]at h';exact is_none_gen (fin h')
  |_=>induction d using zD<;>exact stuck rfl
 |isn=>cases d<;>cases e<;>exact stuck rfl
theorem jw {pins:List (Ψ×Obj)}{s:Ω}{σ:St}{H:Hp}{S:Ψ->Prop}{x:V}{v:Φ}{d:D}{Q:Bool->Hp->Prop}(I:Inv X pins σ H s)(rx:RelV x v)(hx:HRep X.K S H x d)(h:PO' ex (fB d) fun b=>Q b H) :
  Ι (Κ X.prog X.w) X.A (truthy v) (TP X pins σ Q) X.xe s:=by
 refine vw pins s σ H x v Q I rx ?_
 induction d using zD with
 |exc c=>exact h.no.elim
 |dct _ _ _=>exact h.no.elim
 |non=>cases hx.nonR;exact⟨Θ,rfl,h⟩
 |bl b=>cases hx.blR;exact⟨b,rfl,h⟩
 |int i=>cases hx.intR;exact⟨_,rfl,h⟩
 |str z=>cases hx.strR;obtain⟨g,h⟩:=PO'.grd h;exact⟨_,⟨fI g,rfl⟩,h⟩
 |tup ds=>obtain⟨a,xs,rfl,q,m⟩:=hx.tupR;refine⟨!ds.isEmpty,.inr (.inl ⟨xs,q,?_⟩),h⟩;have:=m.length;cases xs<;>cases ds<;>simp_all
 |lst o ds=>obtain⟨a,xs,rfl,q,m⟩:=hx.lstR;refine⟨!ds.isEmpty,.inl ⟨xs,q,?_⟩,h⟩;have:=m.length;cases xs<;>cases ds<;>simp_all
theorem n5 {K:Frag}{S:Ψ->Prop}{H:Hp}{vs:List V}{ds:List D}{i:Int}{d:D}(m:HReps K S H vs ds)(h:atI ds i=Γ d):∃v,atI vs i=Γ v/\HRep K S H v d:=by
 unfold atI at h ⊢;rw[m.length];cases q:ixN ds.length i with
 |none=>rw[q]at h;cases h
 |some j=>rw[q]at h;exact m.get h
def zt (K:Frag)(ex:Str->Prop):R2:=fun x y H Q=>∃S d e,HRep K S H x d/\HRep K S H y e/\PO' ex (fO d e) (Kk K S H Q)
theorem sR:IxR X (zt X.K ex):=by
 intro value slice pins s σ H x y v u Q I rx ry h hs;obtain⟨S,d,e,hx,hy,h⟩:=h;refine vz value slice pins s σ H x y v u Q I rx ry ?_ hs;have stuck:∀ {P:Prop},fO d e=stk->P:=fun z=>by rw[z]at h;exact h.no.elim
 induction e using zD with
 |int i=>
  cases hy.intR
  induction d using zD with
  |lst o ds=>
   obtain⟨a,xs,rfl,q,m⟩:=hx.lstR;have h':PO' ex (match atI ds i with|some d=>.ok d|none=>stk) (Kk X.K S H Q):=h;cases z:atI ds i with
   |none=>rw[z]at h';exact h'.no.elim
   |some d=>rw[z]at h';obtain⟨w,ew,mw⟩:=n5 m z;exact .inl ⟨a,xs,i,w,rfl,rfl,q,ew,h'.ok _ _ (.refl _) mw.nw⟩
  |tup ds=>
   obtain⟨a,xs,rfl,q,m⟩:=hx.tupR;have h':PO' ex (match atI ds i with|some d=>.ok d|none=>stk) (Kk X.K S H Q):=h;cases z:atI ds i with
   |none=>rw[z]at h';exact h'.no.elim
   |some d=>rw[z]at h';obtain⟨w,ew,mw⟩:=n5 m z;exact .inr (.inl ⟨a,xs,i,w,rfl,rfl,q,ew,h'.ok _ _ (.refl _) mw.nw⟩)
  |str z=>
   cases hx.strR;obtain⟨g,h⟩:=PO'.grd h;cases q:atI z.cps.toList i with
   |none=>rw[q]at h;exact h.no.elim
   |some c=>rw[q]at h;exact .inr (.inr ⟨z,i,c,rfl,rfl,fI g,q,h.ok _ _ (.refl _) (.str _)⟩)
  |_=>exact stuck rfl
 |_=>induction d using zD<;>exact stuck rfl
def zu (K:Frag)(ex:Str->Prop):V->Option Int->Option Int->Hp->VK->Prop:=fun x lo hi H Q=>∃S d,HRep K S H x d/\PO' ex (km d lo hi) (Kk K S H Q)
theorem vG:SlR X (fun x lo hi H Q=>∃z,x=.str z/\z.length<=Ε/\Q (.str (Txt.slice z lo hi)) H):=by
 intro pins s σ H x v vl vu lo hi sl Q I rx hs pl pu h;obtain⟨z,rfl,hz,q⟩:=h;obtain⟨t,rfl⟩:=rx;refine⟨"str",_,F.slot_str_getitem.lookup,typeIs_str s z t,?_⟩;have fin:∀(l u:Option (Int×Tok)),vl=partValue l->vu=partValue u->l.map (·.1)=lo->u.map (·.1)=hi->Ι (Κ X.prog X.w) X.A (getItem (.str z t) (.ref sl)) (EP X pins σ Q) X.xe s:=by intro l u e1 e2 e3 e4;subst e1 e2 e3 e4;refine wpAny_getItem_str_slice (l:=l) (u:=u) (st:=Ξ) hs rfl ?_;exact post_val_or_str ⟨Ad (Txt.slice_le z _ _) hz,fun t' k=>⟨.str _,H,I.tok _,⟨_,rfl⟩,q⟩⟩
 cases pl with
 |none=>
  cases pu with
  |none=>exact fin Ξ Ξ rfl rfl rfl rfl
  |int j t'=>exact fin Ξ (Γ (j,t')) rfl rfl rfl rfl
 |int i t'=>
  cases pu with
  |none=>exact fin (Γ (i,t')) Ξ rfl rfl rfl rfl
  |int j t''=>exact fin (Γ (i,t')) (Γ (j,t'')) rfl rfl rfl rfl
end
open PySem.W
section
variable {prog:Β}{w:Α}{A:Η}{E:Φ->Ω->Prop}{K:Frag}{x C:Ψ}{hh:Heap}{g:Array GenState}{d:Drawn}{t:Nat}{os:OsState}
structure ExcAt (K:Frag)(C:Ψ):Prop where
 ga:findIn K (.ref C) "__getattribute__" = Γ (Γ (.builtin "BaseException.__getattribute__"))
 no:findIn K (.ref C) "__getattr__" = Γ Ξ
 cl:findIn K (.ref C) "__class__" = Γ (Γ (.builtin "object.__class__"))
 be:mroIn K C (.type "BaseException")=Γ Δ
 ob:mroIn K C (.type "object")=Γ Δ
 is:(clsIn K C).isSome=Δ
def IX (h:Heap)(x C:Ψ):Prop:=∃o,h.get? x=Γ o/\o.cls=.ref C
theorem IX.type {M:Model}{h:Heap}(I:IX h x C):Looks M h (typeOf (.ref x)) (.ref C):=by obtain⟨o,h1,h2⟩:=I;exact h2 ▸ (Looks.ld h1).andThen .now
open Builtin Builtin.ObjectAttr Builtin.Getset_descriptor in
theorem qm {R:Result->Ω->Prop}{tp:Φ}(X:K.In hh)(I:IX hh x C)(hm:mroIn K C (.type "object")=Γ Δ) (hq:R (.ok (.ret (.ref C))) ⟨hh,g,d,t,os⟩) :
  codeAny (Κ prog w) A (.call (.builtin "getset_descriptor.__get__") ⟨[.builtin "object.__class__",.ref x,tp],[]⟩) R ⟨hh,g,d,t,os⟩:=by
 have y0:=I.type (M:=Κ prog w);have y1:=looks_mroIn (M:=Κ prog w) X hm;refine codeAny_call_builtin KF.slot_gs.plain KF.entry_gs (KF.slot_gs.check _ _ _ _ _ _ _ _ KF.type_class (KF.args_gs _ _ _) ?_);unfold Builtin.«getset_descriptor.__get__» descrGet;rw[dga_obj];refine g_ (q_ ?_);unfold descrGetter descrCheckInstance descrNameAndClass isInstance;simp only[KF.owner_class];repeat lk
 refine⟨Code.quiet_builtin _ (by decide +kernel),codeAny_builtin KF.entry_class ?_⟩;unfold Builtin.«object.__class__» shownTypeOf
 repeat lk
 exact hq
theorem ph (a:ExcAt K C){tk:Tok}{Q:Fin->Ω->Prop}(X:K.In hh)(I:IX hh x C)(hq:Q (.done (.ret (.ref C))) ⟨hh,g,d,t,os⟩) :
  Ι (Κ prog w) A (Builtin.«object.__getattribute__» ⟨[.ref x,.str "__class__" tk],[]⟩) Q E ⟨hh,g,d,t,os⟩:=by
 have y0:=I.type (M:=Κ prog w);have y1:=looks_findIn (M:=Κ prog w) X a.cl;have y5:=F.typeOf_object_class;have y6:=F.slot_gs_get.lookup;have y7:=F.slot_gs_set.lookup
 repeat (any_goals (first|assumption|with_reducible refine Looks.at (by assumption) ?_|wp_step))
 refine qm X I a.ob ?_
 repeat (any_goals (first|assumption|wp_step))
theorem pj (a:ExcAt K C){M:Model}{nameV:Φ}{Q:Unit->Ω->Prop}(X:K.In hh)(I:IX hh x C)(hq:Q () ⟨hh,g,d,t,os⟩) :
  Ι M A (checkBuiltinCall "BaseException.__getattribute__" ⟨[.ref x,nameV],[]⟩) Q E ⟨hh,g,d,t,os⟩:=by
 have e1:builtinKind "BaseException.__getattribute__" = Γ .slot:=by decide +kernel
 have e2:splitId "BaseException.__getattribute__" = Γ ("BaseException","__getattribute__"):=by decide +kernel
 have y0:=I.type (M:=M);have y1:=looks_mroIn (M:=M) X a.be;have ha:=F.args_bexc_ga (.ref x) nameV;simp only[checkBuiltinCall,e1,e2];refine g_ ?_;unfold isInstance
 repeat (any_goals (first|assumption|with_reducible refine Looks.at (by assumption) ?_|wp_step))
theorem vH (a:ExcAt K C){tk:Tok}{fill:Bool}{Q:Φ->Ω->Prop}(X:K.In hh)(I:IX hh x C)(hq:Q (.ref C) ⟨hh,g,d,t,os⟩) :
  Ι (Κ prog w) A (getAttrBy (.ref x) (.str "__class__" tk) fill) Q E ⟨hh,g,d,t,os⟩:=by
 have y0:=I.type (M:=Κ prog w);have y1:=looks_findIn (M:=Κ prog w) X a.ga;have y2:=looks_findIn (M:=Κ prog w) X a.no;have f3:=F.attr_ValueError.ga.bind (.ref x);have y4:(onTheHeap (η C)&&Value.builtin "BaseException.__getattribute__" == Value.builtin "object.__getattribute__")=Θ:=by rw[show(Value.builtin "BaseException.__getattribute__" == Value.builtin "object.__getattribute__")=Θ by decide +kernel];rfl
 repeat (any_goals (first|assumption|with_reducible refine Looks.at (by assumption) ?_|wp_step))
 refine codeAny_call_builtin F.attr_ValueError.ga.plain F.entry_bexc_ga (pj a X I (ph a X I ?_))
 repeat (any_goals (first|assumption|wp_step))
theorem qo (a:ExcAt K C){Q:Option Φ->Ω->Prop}(X:K.In hh)(I:IX hh x C)(hq:Q (Γ (.ref C)) ⟨hh,g,d,t+1,os⟩) :
  Ι (Κ prog w) A (getAttr? (.ref x) "__class__") Q E ⟨hh,g,d,t,os⟩:=by
 unfold getAttr? getAttrBy?
 repeat (any_goals (first|assumption|with_reducible apply vH a X I|wp_step))
theorem mz (a:ExcAt K C):KitX K (.ref x) (.ref C) (fun h=>IX h x C) where
 ty:=fun _ _ _ I=>I.type
 it:=fun _ _ X _=>by
  have z:=a.is;unfold clsIn at z;split at z
  ·rename_i ho
   intro A' Q' E' s' k q;unfold isType loadHead;exact g_ (wpAny_loadPart (k _ _ (X _ _ ho)) (q_ q))
  ·cases z
 ne:=fun h tp dd its n sl X htp=>by
  have z:=a.is;refine Bool.eq_false_iff.mpr fun q=>?_;have e:C=tp:=Value.ref.inj (beq_iff_eq.mp q);subst e;unfold clsIn at z;split at z
  ·rename_i ho
   cases(X _ _ ho).symm.trans htp
  ·cases z
 ca:=fun {_ _ _ _ _ s} X I k=>by obtain⟨hh,g,d,t,os⟩:=s;exact qo a X I k
end
section
variable {X:Cx}{ex:Str->Prop}
theorem n6 {K:Frag}{S:Ψ->Prop}{H:Hp}{vs:List V}{ds:List D}(lo hi:Option Int)(m:HReps K S H vs ds):HReps K S H (o5 vs lo hi) (fR ds lo hi):=by unfold o5 fR;rw[m.length];exact(m.drop _).take _
theorem sS:SlR X (zu X.K ex):=by
 intro pins s σ H x v vl vu lo hi sl Q I rx hs pl pu h;obtain⟨S,d,hx,h⟩:=h
 induction d using zD with
 |lst o ds=>obtain⟨a,xs,rfl,q,m⟩:=hx.lstR;exact nT pins s σ H _ v vl vu lo hi sl Q I rx hs pl pu ⟨a,xs,rfl,q,fun p hp=>h.ok _ _ (.upd hp) (lD hp (n6 lo hi m))⟩
 |str z=>cases hx.strR;obtain⟨g,h⟩:=PO'.grd h;exact vG pins s σ H _ v vl vu lo hi sl Q I rx hs pl pu ⟨z,rfl,fI g,h.ok _ _ (.refl _) (.str _)⟩
 |_=>exact h.no.elim
theorem mB {ns:List Str}:∀ {us:List Φ},Vals (ns.map V.str) us->StrsAre us ns:=by
 induction ns with
 |nil=>intro us r;rw[List.map_nil]at r;cases r;exact .nil
 |cons n ns ih=>
  intro us r;rw[a_]at r;cases r with
  |cons r1 r2=>obtain⟨t,e⟩:=r1;subst e;exact .cons n t (ih r2)
theorem jM:∀ {ds:List D}{ns:List Str},gM ds=Γ ns->ds=ns.map .str
 |[],ns,h=>by cases h;rfl
 |.str i::r,ns,h=>by
  have h':(gM r).map (i::·)=Γ ns:=h;cases q:gM r with
  |none=>rw[q]at h';cases h'
  |some ms=>rw[q]at h';cases h';rw[jM q];rfl
 |.non::_,_,h=>by cases h
 |.bl _::_,_,h=>by cases h
 |.int _::_,_,h=>by cases h
 |.tup _::_,_,h=>by cases h
 |.lst _ _::_,_,h=>by cases h
theorem kK:∀ {ds:List D}{ns:List Bool},iD ds=Γ ns->ds=ns.map .bl
 |[],ns,h=>by cases h;rfl
 |.bl i::r,ns,h=>by
  have h':(iD r).map (i::·)=Γ ns:=h;cases q:iD r with
  |none=>rw[q]at h';cases h'
  |some ms=>rw[q]at h';cases h';rw[kK q];rfl
 |.non::_,_,h=>by cases h
 |.str _::_,_,h=>by cases h
 |.int _::_,_,h=>by cases h
 |.tup _::_,_,h=>by cases h
 |.lst _ _::_,_,h=>by cases h
theorem pk (hc:X.calm=Δ):f6 X (.builtin "all") (fun xs H Q=>∃(p:Ψ) (bs:List Bool),xs=[.ref p]/\SqL X.K H p (bs.map V.bl)/\Q (.bl (bs.all id)) H):=by
 intro pins s σ H xs us Q I r h;obtain⟨p,bs,rfl,hq,q⟩:=h;obtain⟨u,rfl,rx⟩:=vals1 r;cases rx;obtain⟨its,rv,pl,hz⟩:=I.list hq;have hl:=rv.length;rw[h_]at hl;have hlt:p < s.heap.objs.size:=by obtain⟨o,e,_⟩:=pl.isList;exact j_ e
 refine call_all_walk (wpAny_pyIter_list pl.isList ?_);refine⟨s.heap.objs.size,_,_,_,_,_,fun i=>bs.getD i Δ,rfl,Walks.list (A:=X.A.in1) (show X.A.in1.handled=Ξ from I.ok.hd hc) s.heap.objs.size p (u_ hlt) its.toArray,⟨⟨_,Aa _ rfl,rfl,rfl⟩,?_⟩,?_,?_⟩
 ·obtain⟨o,e,c,n,d⟩:=pl.isList;exact⟨o,v_ _ e,c,n,d⟩
 ·intro i v s' Q' E' hv hq';have hv':its[i]? = Γ v:=by simpa using hv
  have hlt':i < bs.length:=by have:=(y_.mp hv').1;omega
  obtain⟨u,hu,ru⟩:=rv.get (i:=i) (x:=.bl bs[i]) (by rw[Ac,Aw hlt'];rfl);rw[hv']at hu;cases hu;cases ru;refine wpAny_truthy_bool ?_;have e:bs.getD i Δ=bs[i]:=by simp[List.getD,hlt']
  rw[<- e];exact hq'
 ·intro h' tk kp;have hall:(List.range its.toArray.size).all (fun i=>bs.getD i Δ)=bs.all id:=by
   rw[show its.toArray.size=bs.length by simp[hl]];rw[Bool.eq_iff_iff,zY,zY];constructor
   ·intro z b hb;obtain⟨i,hi,rfl⟩:=List.getElem_of_mem hb;have:=z i (List.mem_range.mpr hi);simpa[List.getD,hi] using this
   ·intro z i hi;have hi':=List.mem_range.mp hi;have:=z bs[i] (List.getElem_mem hi');simpa[List.getD,hi'] using this
  rw[hall];refine⟨.bl (bs.all id),H,I.kept (t':=tk) fun b o e=>kp b o ?_ (v_ _ e),rfl,q⟩;intro hm;have hb:b=s.heap.objs.size:=by simpa using hm
  subst hb;exact absurd (j_ e) (Ai _)
noncomputable def gZ:Bi->Str
 |.len=>"len" |.sum=>"sum" |.min2=>"min" |.max2=>"max" |.maxl=>"max" |.sorted=>"sorted" |.list=>"list" |.tuple=>"tuple" |.ord=>"ord" |.int=>"int" |.all=>"all" |.any=>"any" |.str=>"str" |.set=>"set" |.abs=>"abs"
noncomputable def xF:Bi->Bool
 |.list=>Δ|.tuple=>Δ|.int=>Δ|.str=>Δ|.set=>Δ
 |_=>Θ
noncomputable def xG:Bi->String
 |.len=>"len" |.sum=>"sum" |.min2=>"min" |.max2=>"max" |.maxl=>"max" |.sorted=>"sorted" |.list=>"list" |.tuple=>"tuple" |.ord=>"ord" |.int=>"int" |.all=>"all" |.any=>"any" |.str=>"str" |.set=>"set" |.abs=>"abs"
noncomputable def qp (f:Bi):Φ:=if xF f=Δ then .type (xG f) else .builtin (xG f)
theorem og (f:Bi):bootBuiltins (gZ f)=Γ (qp f):=by cases f<;>decide +kernel
def rBi (K:Frag)(ex:Str->Prop)(f:Bi):List V->Hp->VK->Prop:=fun xs H Q=>∃S ds,HReps K S H xs ds/\PO' ex (gx f ds) (Kk K S H Q)
theorem HReps.one1 {K:Frag}{S:Ψ->Prop}{H:Hp}{xs:List V}{d:D}(h:HReps K S H xs [d]):∃x,xs=[x]/\HRep K S H x d:=by
 cases h with
 |cons h1 h2=>cases h2;exact⟨_,rfl,h1⟩
theorem HReps.two2 {K:Frag}{S:Ψ->Prop}{H:Hp}{xs:List V}{d e:D}(h:HReps K S H xs [d,e]):∃x y,xs=[x,y]/\HRep K S H x d/\HRep K S H y e:=by
 cases h with
 |cons h1 h2=>
  cases h2 with
  |cons h3 h4=>cases h4;exact⟨_,_,rfl,h1,h3⟩
theorem qr {K:Frag}{S:Ψ->Prop}{H:Hp}(ns:List Str):HReps K S H (ns.map V.str) (ns.map D.str):=by
 induction ns with
 |nil=>exact .nil
 |cons c cs ih=>exact .cons (.str _) ih
theorem jc {K:Frag}{S:Ψ->Prop}{H:Hp}(z:Str):HReps K S H (gL z) (gk z):=by
 unfold gL gk
 induction z.cps.toList with
 |nil=>exact .nil
 |cons c cs ih=>exact .cons (.str _) ih
theorem sT (hc:X.calm=Δ)(f:Bi):f6 X (qp f) (rBi X.K ex f):=by
 intro pins s σ H xs us Q I r h;obtain⟨S,ds,hx,h⟩:=h;have stuck:∀ {P:Prop},gx f ds=stk->P:=fun z=>by rw[z]at h;exact h.no.elim
 have one:∀ {d e:D}{r':List D},ds=d::e::r'->¬(f=.min2∨f=.max2)->gx f ds=stk:=by intro d e r' z nf;subst z;cases f<;>first|rfl|(exfalso;exact nf (.inl rfl))|(exfalso;exact nf (.inr rfl))|(induction d using zD<;>rfl)
 have two:∀ {d e g:D}{r':List D},ds=d::e::g::r'->gx f ds=stk:=by intro d e g r' z;subst z;cases f<;>first|rfl|(induction d using zD<;>rfl)|(induction d using zD<;>induction e using zD<;>rfl)
 have nil:ds=[]->gx f ds=stk:=by intro z;subst z;cases f<;>rfl
 match ds,hx with
 |[],hx=>exact stuck (nil rfl)
 |d::e::g::r',hx=>exact stuck (two rfl)
 |[d,e],hx=>
  by_cases nf:f=.min2∨f=.max2
  ·obtain⟨x,y,rfl,hd,he⟩:=hx.two2;rcases nf with rfl|rfl
   ·induction d using zD with
    |int a=>
     induction e using zD with
     |int b=>cases hd.intR;cases he.intR;exact oZ hc pins s σ H _ us Q I r ⟨a,b,rfl,h.ok _ _ (.refl _) (.int _)⟩
     |_=>exact stuck rfl
    |_=>exact stuck rfl
   ·induction d using zD with
    |int a=>
     induction e using zD with
     |int b=>cases hd.intR;cases he.intR;exact oY hc pins s σ H _ us Q I r ⟨a,b,rfl,h.ok _ _ (.refl _) (.int _)⟩
     |_=>exact stuck rfl
    |_=>exact stuck rfl
  ·exact stuck (one rfl nf)
 |[d],hx=>
  obtain⟨x,rfl,hd⟩:=hx.one1;cases f with
  |len=>
   induction d using zD with
   |str z=>cases hd.strR;obtain⟨g,h⟩:=PO'.grd h;exact jD pins s σ H _ us Q I r ⟨_,_,rfl,⟨fI g,rfl⟩,h.ok _ _ (.refl _) (.int _)⟩
   |tup ds=>obtain⟨a,ys,rfl,q,m⟩:=hd.tupR;exact jD pins s σ H _ us Q I r ⟨_,ds.length,rfl,.inr ⟨ys,q,m.length.symm⟩,h.ok _ _ (.refl _) (.int _)⟩
   |lst o ds=>obtain⟨a,ys,rfl,q,m⟩:=hd.lstR;exact jD pins s σ H _ us Q I r ⟨_,ds.length,rfl,.inl ⟨ys,q,m.length.symm⟩,h.ok _ _ (.refl _) (.int _)⟩
   |dct o ks es=>
    cases hd with
    |dct h0 h1 h2 h3=>exact pd pins s σ H _ us Q I r ⟨_,_,rfl,h1,by rw[<- h_ (f:=(·.1)),h2];exact h.ok _ _ (.refl _) (.int _)⟩
   |_=>exact stuck rfl
  |sum=>cases d<;>exact stuck rfl
  |all=>
   induction d using zD with
   |lst o ds=>
    obtain⟨a,ys,rfl,q,m⟩:=hd.lstR;have h':PO' ex (match iD ds with|some bs=>.ok (.bl (bs.all id))|none=>stk) (Kk X.K S H Q):=h;cases z:iD ds with
    |none=>rw[z]at h';exact h'.no.elim
    |some ns=>rw[z]at h';rw[kK z]at m;rw[m.bls]at q;exact pk hc pins s σ H _ us Q I r ⟨a,ns,rfl,q,h'.ok _ _ (.refl _) (.bl _)⟩
   |_=>exact stuck rfl
  |any=>cases d<;>exact stuck rfl
  |ord=>cases d<;>exact stuck rfl
  |int=>
   induction d using zD with
   |str z=>
    cases hd.strR;have h':PO' ex (match PySem.intText? z with|some n=>grd (decide (z.length<=640)) (.ok (.int n))|none=>stk) (Kk X.K S H Q):=h;cases w:PySem.intText? z with
    |none=>rw[w]at h';exact h'.no.elim
    |some n=>rw[w]at h';obtain⟨g,h'⟩:=PO'.grd h';exact lj pins s σ H _ us Q I r ⟨z,n,rfl,m_ g,w,h'.ok _ _ (.refl _) (.int _)⟩
   |int i=>cases hd.intR;exact kz pins s σ H _ us Q I r (.inl ⟨i,rfl,h.ok _ _ (.refl _) (.int _)⟩)
   |bl i=>cases hd.blR;exact kz pins s σ H _ us Q I r (.inr ⟨i,rfl,h.ok _ _ (.refl _) (.int _)⟩)
   |_=>exact stuck rfl
  |list=>
   induction d using zD with
   |tup ds=>obtain⟨a,ys,rfl,q,m⟩:=hd.tupR;exact gY pins s σ H _ us Q I r ⟨a,ys,rfl,.inr q,fun p hp=>h.ok _ _ (.upd hp) (lD hp m)⟩
   |lst o ds=>obtain⟨a,ys,rfl,q,m⟩:=hd.lstR;exact gY pins s σ H _ us Q I r ⟨a,ys,rfl,.inl q,fun p hp=>h.ok _ _ (.upd hp) (lD hp m)⟩
   |str z=>cases hd.strR;obtain⟨g,h⟩:=PO'.grd h;exact iC hc pins s σ H _ us Q I r ⟨z,rfl,fI g,fun p hp=>h.ok _ _ (.upd hp) (lD hp (jc z))⟩
   |_=>exact stuck rfl
  |abs=>
   induction d using zD with
   |int i=>cases hd.intR;exact pY pins s σ H _ us Q I r ⟨i,rfl,h.ok _ _ (.refl _) (.int _)⟩
   |_=>exact stuck rfl
  |min2=>induction d using zD<;>exact stuck rfl
  |max2=>induction d using zD<;>exact stuck rfl
  |maxl=>cases d<;>exact stuck rfl
  |sorted=>cases d<;>exact stuck rfl
  |tuple=>
   induction d using zD with
   |str z=>cases hd.strR;obtain⟨g,h⟩:=PO'.grd h;exact jJ hc pins s σ H _ us Q I r ⟨z,rfl,fI g,fun p hp=>h.ok _ _ (.upd hp) (vE hp (jc z))⟩
   |lst o ds=>obtain⟨a,ys,rfl,q,m⟩:=hd.lstR;exact kj pins s σ H _ us Q I r ⟨a,ys,rfl,.inl ⟨q,fun p hp=>h.ok _ _ (.upd hp) (vE hp m)⟩⟩
   |_=>exact stuck rfl
  |str=>
   induction d using zD with
   |int i=>cases hd.intR;obtain⟨g,h⟩:=PO'.grd h;exact k6 pins s σ H _ us Q I r ⟨i,rfl,m_ g,h.ok _ _ (.refl _) (.str _)⟩
   |str z=>cases hd.strR;obtain⟨u,rfl,t',rfl⟩:=vals1 r;exact PySem.P.str_of_str ⟨.str z,H,I,⟨_,rfl⟩,h.ok _ _ (.refl _) (.str _)⟩
   |_=>exact stuck rfl
  |set=>exact stuck rfl
noncomputable def iI:Kd->Str
 |.str=>"str" |.int=>"int" |.bool=>"bool" |.list=>"list" |.tuple=>"tuple"
noncomputable def qt:Kd->Φ
 |.str=>.type "str" |.int=>.type "int" |.bool=>.type "bool" |.list=>.type "list" |.tuple=>.type "tuple"
theorem sU (k:Kd):bootBuiltins (iI k)=Γ (qt k):=by cases k<;>decide +kernel
noncomputable def dTy:D->Φ
 |.non=>.type "NoneType" |.bl _=>.type "bool" |.int _=>.type "int" |.str _=>.type "str" |.tup _=>.type "tuple" |.lst _ _=>.type "list" |.exc _=>.none|.dct _ _ _=>.none
theorem sV (K:Frag)(k:Kd)(d:D)(hn:ll d=Δ):PySem.W.kitOne K (dTy d) (qt k)=Γ (iO k d):=by cases k<;>induction d using zD<;>first|rfl|cases hn
theorem sW {pins:List (Ψ×Obj)}{s:Ω}{σ:St}{H:Hp}{S:Ψ->Prop}{x:V}{v:Φ}{d:D}{Q:VK}(I:Inv X pins σ H s)(rx:RelV x v)(hx:HRep X.K S H x d)(k:Kd)(hn:ll d=Δ)(h:Q (.bl (iO k d)) H) :
  Ι (Κ X.prog X.w) X.A (call (.builtin "isinstance") [v,qt k]) (EP X pins σ Q) X.xe s:=by
 have e:=sV X.K k d hn;have fin:∀tk,EP X pins σ Q (.bool (iO k d)) {s with toks:=tk}:=fun tk=>⟨.bl _,H,I.tok _,rfl,h⟩
 induction d using zD with
 |non=>cases hx.nonR;cases rx;exact PySem.W.kia_one PySem.W.kitx_none I.kIn True.intro e (fun z=>nomatch z) fin
 |bl b=>cases hx.blR;cases rx;exact PySem.W.kia_one PySem.W.kitx_bool I.kIn True.intro e (fun z=>nomatch z) fin
 |int b=>cases hx.intR;obtain⟨t,rfl⟩:=rx;exact PySem.W.kia_one PySem.W.kitx_int I.kIn True.intro e (fun z=>nomatch z) fin
 |str b=>cases hx.strR;obtain⟨t,rfl⟩:=rx;exact PySem.W.kia_one PySem.W.kitx_str I.kIn True.intro e (fun z=>nomatch z) fin
 |tup ds=>obtain⟨a,ys,rfl,q,m⟩:=hx.tupR;cases rx;obtain⟨its,_,⟨o,h1,h2,_⟩,_⟩:=I.tuple q;exact PySem.W.kia_one PySem.W.kitx_tuple I.kIn ⟨o,h1,h2⟩ e (fun z=>nomatch z) fin
 |lst o ds=>obtain⟨a,ys,rfl,q,m⟩:=hx.lstR;cases rx;obtain⟨its,_,pl,_⟩:=I.list q;obtain⟨o,h1,h2,_⟩:=pl.isList;exact PySem.W.kia_one PySem.W.kitx_list I.kIn ⟨o,h1,h2⟩ e (fun z=>nomatch z) fin
 |exc c=>cases hn
 |dct o ks ds=>cases hn
def CV (X:Cx)(x:Str)(v:V):Prop:=(∃C,v=.ref C/\X.mg x=Γ (.ref C))∨(∃T,v=.ty T/\X.mg x=Ξ/\bootBuiltins x=Γ (.type T))
noncomputable def vv:V->Φ
 |.ref C=>.ref C
 |.ty T=>.type T
 |_=>.none
theorem CV.rel {x:Str}{v:V}{u:Φ}(h:CV X x v)(r:RelV v u):u=vv v:=by rcases h with⟨C,rfl,_⟩|⟨T,rfl,_⟩<;>exact r
theorem sX {pins:List (Ψ×Obj)}{s:Ω}{σ:St}{H:Hp}{a C:Ψ}{c:Str}{cv:Φ}{b:Bool}{Q:VK}(I:Inv X pins σ H s)(h:SqE X.K H a (.inr c))(hC:PySem.W.nsIn X.K Ζ c=Γ (Γ (.ref C)))(hA:ExcAt X.K C)(hk:PySem.W.kitOne X.K (.ref C) cv=Γ b)(q:Q (.bl b) H) :
  Ι (Κ X.prog X.w) X.A (call (.builtin "isinstance") [.ref a,cv]) (EP X pins σ Q) X.xe s:=by
 obtain⟨C',o,vs,h1,_,h3,h4,_⟩:=I.exc_at h;rw[hC]at h1;cases h1;exact PySem.W.kia_one (mz hA) I.kIn ⟨o,h3,h4⟩ hk (fun z=>nomatch z) fun tk=>⟨.bl _,H,I.tok _,rfl,q⟩
theorem sY {pins:List (Ψ×Obj)}{s:Ω}{σ:St}{H:Hp}{a p C:Ψ}{c:Str}{v1 v2:V}{b:Bool}{Q:VK}{x1 x2:Str}(I:Inv X pins σ H s)(h:SqE X.K H a (.inr c))(hC:PySem.W.nsIn X.K Ζ c=Γ (Γ (.ref C)))(hA:ExcAt X.K C)(c1:CV X x1 v1)(c2:CV X x2 v2)(hp:SqT X.K H p [v1,v2])(hk:PySem.W.kitAny X.K (.ref C) [vv v1,vv v2]=Γ b)(q:Q (.bl b) H) :
  Ι (Κ X.prog X.w) X.A (call (.builtin "isinstance") [.ref a,.ref p]) (EP X pins σ Q) X.xe s:=by
 obtain⟨C',o,vs,h1,_,h3,h4,_⟩:=I.exc_at h;rw[hC]at h1;cases h1;obtain⟨its,rv,⟨ot,e1,e2,e3⟩,_⟩:=I.tuple hp;obtain⟨u1,u2,rfl,r1,r2⟩:=vals2 rv;rw[<- c1.rel r1,<- c2.rel r2]at hk;obtain⟨k1,k2,k3,k4⟩:=ot;dsimp only at e2 e3;subst e2;obtain⟨n,e3⟩:=e3;subst e3;exact PySem.W.kia_tup (mz hA) I.kIn ⟨o,h3,h4⟩ e1 hk (fun z=>nomatch z) fun tk=>⟨.bl _,H,I.tok _,rfl,q⟩
noncomputable def jN:Mt->Str
 |.join=>"join" |.split=>"split" |.starts=>"startswith"
noncomputable def zv:Mt->String
 |.join=>"str.join" |.split=>"str.split" |.starts=>"str.startswith"
def rMt (K:Frag)(ex:Str->Prop)(m:Mt):V->List V->Hp->VK->Prop:=fun x xs H Q=>∃S d ds,HRep K S H x d/\HReps K S H xs ds/\PO' ex (iz m d ds) (Kk K S H Q)
theorem qu {m:Mt}{d:D}{ds:List D}{k:D->Prop}(h:PO' ex (iz m d ds) k):∃x,d=.str x:=by cases m<;>induction d using zD<;>first|exact⟨_,rfl⟩|exact h.no.elim
theorem lE (m:Mt)(hc:m=.split->X.calm=Δ):MtR X (zv m) (rMt X.K ex m):=by
 intro pins s σ H x xs v us Q I rx rs h;obtain⟨S,d,ds,hx,hs,h⟩:=h;obtain⟨z,rfl⟩:=qu h;cases hx.strR;obtain⟨t,rfl⟩:=rx;have stuck:∀ {P:Prop},iz m (.str z) ds=stk->P:=fun z=>by rw[z]at h;exact h.no.elim
 match ds,hs with
 |[],_=>cases m<;>exact stuck rfl
 |d::e::r,_=>cases m<;>induction d using zD<;>exact stuck rfl
 |[d],hs=>
  obtain⟨y,rfl,hd⟩:=hs.one1;obtain⟨u,rfl,ru⟩:=vals1 rs;cases m with
  |join=>
   induction d using zD with
   |lst o ds=>
    obtain⟨a,ys,rfl,q,m⟩:=hd.lstR;cases ru;have h':PO' ex (match gM ds with|some ys=>grd (decide ((ys.map (·.length)).sum+ys.length*z.length<=16777216)) (.ok (.str (Txt.join z ys)))|none=>stk) (Kk X.K S H Q):=h;cases w:gM ds with
    |none=>rw[w]at h';exact h'.no.elim
    |some ns=>rw[w]at h';obtain⟨g,h'⟩:=PO'.grd h';rw[jM w]at m;rw[m.strs]at q;obtain⟨its,rv,pl,_⟩:=I.list q;exact join_list pl.isList (by simpa using mB rv) (m_ g) fun t' k=>⟨.str _,H,I.tok _,⟨_,rfl⟩,h'.ok _ _ (.refl _) (.str _)⟩
   |_=>exact stuck rfl
  |split=>
   induction d using zD with
   |str y=>cases hd.strR;obtain⟨t',rfl⟩:=ru;obtain⟨g,h⟩:=PO'.grd h;have g':y.length≠0/\z.length+2<=Ε:=m_ g;exact qf I g'.1 g'.2 fun p hp=>h.ok _ _ (.upd hp) (lD hp (qr _))
   |_=>exact stuck rfl
  |starts=>
   induction d using zD with
   |str y=>cases hd.strR;obtain⟨t',rfl⟩:=ru;exact SC.startswith ⟨.bl _,H,I,rfl,PO'.ok h _ _ (.refl _) (.bl _)⟩
   |_=>exact stuck rfl
noncomputable def Its (x:Str):It:=⟨fun i _=>i < x.cps.size,fun i H v H'=>H'=H/\∃c,x.cps[i]? = Γ c/\v=.str ⟨#[c]⟩,fun i _=>x.cps.size<=i⟩
theorem qv {P:Β}{w:Α}{K:Frag}{tg:Expr}{it:Ψ}{x:Str}{t:Tok}{ty:String}(hty:ty = "str_ascii_iterator"∨ty = "str_iterator")
  (W:∀A':Η,A'.handled=Ξ->Walks P w A' it [it] [it] x.cps.size (SignAt x) (fun i h=>h.IsStrIter it ty x t i)):Turn P w K tg (Its x) [it] it (fun i h=>i<=x.cps.size/\h.IsStrIter it ty x t i) where
 mem:=by simp
 obj:=fun i h st b hb=>by
  have e:b=it:=by simpa using hb
  subst e;obtain⟨_,o,e,c,d⟩:=st;exact⟨o,e,fun v z=>by rw[d]at z;cases z⟩
 keep:=fun i h h' st k=>by obtain⟨l,o,e,c,d⟩:=st;exact⟨l,o,k it (by simp) o e,c,d⟩
 item:=by intro X hP hw hK hc i pins s σ H E I hf st hg;subst hP hw hK;obtain⟨f0,f1,f2,f3,f4,f5⟩:=hf it (by simp);refine(W X.A (I.ok.hd hc)).item i s _ _ hg st.2 fun v h' tk hv st' kk=>?_;obtain⟨c,u,hcx,rfl⟩:=hv;have I1:Inv X pins σ H {s with heap:=h',toks:=tk}:=I.turned (fun b o hb e=>kk b o (by simpa using hb) e) f0 f1 f3 f4 f5;obtain⟨o,e,cc,d⟩:=id st';refine⟨_,rfl,nS (s:={s with heap:=h',toks:=tk}) (n:=ty) e cc d (by rcases hty with rfl|rfl<;>decide) ⟨.str ⟨#[c]⟩,H,I1,⟨u,rfl⟩,⟨rfl,c,hcx,rfl⟩,⟨hg,st'⟩,fun b hb=>(hf b hb).1⟩⟩
 done:=by intro X hP hw hK hc i pins s σ H E I hf st hg;subst hP hw hK;obtain⟨f0,f1,f2,f3,f4,f5⟩:=hf it (by simp);have e:i=x.cps.size:=Nat.le_antisymm st.1 hg;refine(W X.A (I.ok.hd hc)).done s _ _ (by rw[<- e];exact st.2) fun h' tk kk=>⟨rfl,I.turned (fun b o hb e=>kk b o (by simpa using hb) e) f0 f1 f3 f4 f5⟩
 self:=fun A i s Q E st h=>by
  obtain⟨_,st⟩:=st;rcases hty with rfl|rfl
  ·exact wpAny_pyIter_striter_ascii st h
  ·exact wpAny_pyIter_striter_wide st h
theorem vI {tg:Expr}{pins:List (Ψ×Obj)}{s:Ω}{σ:St}{H:Hp}{x:Str}{t:Tok}{R:It->Hp->Prop}(I:Inv X pins σ H s)(q:R (Its x) H):Ι (Κ X.prog X.w) X.A (pyIter (.str x t)) (PIE X pins σ tg R) X.xe s:=by
 have fin:∀ty,(ty = "str_ascii_iterator"∨ty = "str_iterator")->(∀A':Η,A'.handled=Ξ->Walks X.prog X.w A' s.heap.objs.size [s.heap.objs.size] [s.heap.objs.size] x.cps.size (SignAt x) (fun i h=>h.IsStrIter s.heap.objs.size ty x t i))->
   PIE X pins σ tg R (.ref s.heap.objs.size) {s with heap:=s.heap.push {cls:=.type ty,data:=.fields #[.str x t,.int 0 0]}}:=fun ty hty W=>by
  refine⟨s.heap.objs.size,[s.heap.objs.size],_,_,H,rfl,I.kept (t':=s.toks) fun b o e=>v_ _ e,qv hty W,⟨Nat.zero_le _,_,Aa _ rfl,rfl,rfl⟩,fun b hb=>?_,q⟩;have e:b=s.heap.objs.size:=by simpa using hb
  subst e;exact I.fpOk (k_ _) (I.hok.fresh (k_ _))
 cases ha:x.cps.all (· < 128)
 ·exact wpAny_pyIter_wide ha (fin _ (.inr rfl) fun A' hA=>Walks.strWide hA _ x t)
 ·exact wpAny_pyIter_ascii ha (fin _ (.inl rfl) fun A' hA=>Walks.strAscii hA _ x t)
end
theorem fN.at {P:Β}{w:Α}{H:Hp}{h:Heap}{a:Ψ}{o:HO}(x:fN P w H h a o):∃ob,h.get? a=Γ ob:=by
 cases o with
 |lst xs=>obtain⟨_,_,_,_,e⟩:=x;exact⟨_,e⟩
 |tup xs=>obtain⟨_,_,_,ob,e,_⟩:=x;exact⟨_,e⟩
 |dK kvs=>obtain⟨_,_,_,_,o,_,_,e,_⟩:=x;exact⟨_,e⟩
 |dT kvs=>obtain⟨_,_,_,_,o,_,_,e,_⟩:=x;exact⟨_,e⟩
 |set S n=>obtain⟨o,_,_,_,e,_⟩:=x;exact⟨_,e⟩
 |ins C dx fs=>obtain⟨_,_,_,e,_⟩:=x;exact⟨_,e⟩
 |own y=>exact x
 |xd fs=>obtain⟨_,⟨_,_,_,e,_⟩,_⟩:=x;exact⟨_,e⟩
 |rng lo hi=>obtain⟨_,_,_,e⟩:=x;exact⟨_,e⟩
 |frz ob u=>exact⟨_,x.1⟩
 |tbl ps=>exact⟨_,x⟩
 |met f y=>exact⟨_,x⟩
 |ext φ=>exact x.2.1
noncomputable def indep:HO->Bool
 |.lst _=>Δ
 |.tup _=>Δ
 |.ext _=>Δ
 |.dK _=>Δ
 |_=>Θ
theorem jO {P:Β}{w:Α}{H H':Hp}{h:Heap}{a:Ψ}{u:HO}(i:indep u=Δ)(x:fN P w H h a u):fN P w H' h a u:=by
 cases u with
 |lst _=>exact x
 |tup _=>exact x
 |ext _=>exact x
 |dK _=>exact x
 |_=>cases i
noncomputable def fu (h:Heap)(H:Hp):Hp:=fun b=>match H b with
 |some (.lst xs)=>(h.get? b).map fun o=>.frz o (.lst xs)
 |some (.dK kvs)=>(h.get? b).map fun o=>.frz o (.dK kvs)
 |some (.tup xs)=>Γ (.tup xs)
 |some (.frz o u)=>if indep u=Δ then Γ (.frz o u) else Ξ
 |_=>Ξ
noncomputable def iB (H H':Hp):Hp:=fun b=>match H b with
 |some o=>Γ o
 |none=>H' b
def LTH (H:Hp):Prop:=∀b o,H b=Γ o->(∃ob u,o=.frz ob u)∨∃xs,o=.tup xs
theorem nv (h:Heap)(H:Hp):LTH (fu h H):=fun b o e=>by
 unfold fu at e;split at e
 ·obtain⟨ob,_,rfl⟩:=Option.map_eq_some_iff.mp e;exact .inl ⟨_,_,rfl⟩
 ·obtain⟨ob,_,rfl⟩:=Option.map_eq_some_iff.mp e;exact .inl ⟨_,_,rfl⟩
 ·cases e;exact .inr ⟨_,rfl⟩
 ·split at e
  ·cases e;exact .inl ⟨_,_,rfl⟩
  ·cases e
 ·cases e
structure Pers (h:Heap)(Hc H':Hp):Prop where
 frzs:∀b o u,Hc b=Γ (.frz o u)->H' b=Γ (.frz o u)
 tups:∀b xs,Hc b=Γ (.tup xs)->H' b=Γ (.tup xs)
 free:∀b o,h.get? b=Γ o->Hc b=Ξ->H' b=Ξ
inductive Bk (h:Heap)(H H':Hp)(b:Ψ):HO->Prop where
 | lst {xs:List V}{ob:Obj}:h.get? b=Γ ob->H' b=Γ (.frz ob (.lst xs))->Bk h H H' b (.lst xs)
 | dK {xs:List (Key×V)}{ob:Obj}:h.get? b=Γ ob->H' b=Γ (.frz ob (.dK xs))->Bk h H H' b (.dK xs)
 | tup {xs:List V}:H' b=Γ (.tup xs)->Bk h H H' b (.tup xs)
 | frz {o:Obj}{u:HO}:indep u=Δ->H' b=Γ (.frz o u)->Bk h H H' b (.frz o u)
 | oth {o:HO}{ob:Obj}:h.get? b=Γ ob->fu h H b=Ξ->H' b=Ξ->(∀xs,o≠.lst xs)->(∀xs,o≠.tup xs)->(∀xs,o≠.dK xs)->Bk h H H' b o
section
variable {P:Β}{w:Α}{H H':Hp}{h g:Heap}
theorem kL (x:HOk P w H h)(p:Pers h (fu h H) H'){b:Ψ}{o:HO}(e:H b=Γ o):Bk h H H' b o:=by
 obtain⟨ob,he⟩:=(x b o e).at
 have hc:fu h H b=(match(Γ o:Option HO) with
  |some (.lst xs)=>(h.get? b).map fun o=>.frz o (.lst xs)
  |some (.dK kvs)=>(h.get? b).map fun o=>.frz o (.dK kvs)
  |some (.tup xs)=>Γ (.tup xs)
  |some (.frz o u)=>if indep u=Δ then Γ (.frz o u) else Ξ
  |_=>Ξ):=by unfold fu;rw[e]
 cases o with
 |lst xs=>have hc:fu h H b=(h.get? b).map fun o=>.frz o (.lst xs):=hc;rw[he]at hc;exact .lst he (p.frzs _ _ _ hc)
 |dK xs=>have hc:fu h H b=(h.get? b).map fun o=>.frz o (.dK xs):=hc;rw[he]at hc;exact .dK he (p.frzs _ _ _ hc)
 |tup xs=>exact .tup (p.tups _ _ hc)
 |frz o' u=>
  have hc:fu h H b=if indep u=Δ then Γ (.frz o' u) else Ξ:=hc
  by_cases i:indep u=Δ
  ·rw[d_ i]at hc;exact .frz i (p.frzs _ _ _ hc)
  ·rw[c_ i]at hc;exact .oth he hc (p.free _ _ he hc) (fun _ z=>by cases z) (fun _ z=>by cases z) (fun _ z=>by cases z)
 |_=>exact .oth he hc (p.free _ _ he hc) (fun _ z=>by cases z) (fun _ z=>by cases z) (fun _ z=>by cases z)
theorem qw (x:HOk P w H h):HOk P w (fu h H) h:=fun b o e=>by
 cases q:H b with
 |none=>unfold fu at e;rw[q]at e;cases e
 |some u=>
  have y:=x b u q;unfold fu at e;rw[q]at e;cases u with
  |lst xs=>
   obtain⟨ob,he⟩:=y.at
   have e:(h.get? b).map (fun o=>HO.frz o (.lst xs))=Γ o:=e;rw[he]at e;cases e;exact⟨he,y⟩
  |dK xs=>
   obtain⟨ob,he⟩:=y.at
   have e:(h.get? b).map (fun o=>HO.frz o (.dK xs))=Γ o:=e;rw[he]at e;cases e;exact⟨he,y⟩
  |tup xs=>cases e;exact y
  |frz o' u=>
   have e:(if indep u=Δ then Γ (HO.frz o' u) else Ξ)=Γ o:=e;by_cases i:indep u=Δ
   ·rw[d_ i]at e;cases e;exact⟨y.1,jO i y.2⟩
   ·rw[c_ i]at e;cases e
  |_=>cases e
theorem gq (e:H a=Ξ):fu h H a=Ξ:=by unfold fu;rw[e]
theorem res_some {b:Ψ}{o:HO}(e:H b=Γ o):iB H H' b=Γ o:=by unfold iB;rw[e]
theorem res_none {b:Ψ}(e:H b=Ξ):iB H H' b=H' b:=by unfold iB;rw[e]
theorem mC:eX H (iB H H'):=fun b o e=>res_some e
theorem lF (x:HOk P w H h)(y:HOk P w H' g)(p:Pers h (fu h H) H'){fs:List Ψ}(keep:∀b o,H b≠Ξ->h.get? b=Γ o->fu h H b=Ξ->b∉fs->g.get? b=Γ o)(fr:∀b∈fs,H b=Ξ):HOk P w (iB H H') g:=by
 have tp:∀c xs,H' c=Γ (.tup xs)->iB H H' c=Γ (.tup xs):=fun c xs e=>by
  cases q:H c with
  |none=>rw[res_none q];exact e
  |some o=>
   rw[res_some q];cases kL x p q with
   |lst _ z=>rw[z]at e;cases e
   |dK _ z=>rw[z]at e;cases e
   |tup z=>rw[z]at e;exact e
   |frz _ z=>rw[z]at e;cases e
   |oth _ _ z _ _ _=>rw[z]at e;cases e
 intro b o e;cases q:H b with
 |some o'=>
  rw[res_some q]at e;cases e;cases kL x p q with
  |lst h1 z=>have h2:=(y b _ z).1;obtain⟨a1,its,n,a2,a3⟩:=x b _ q;rw[h1]at a3;exact⟨a1,its,n,a2,by rw[h2,<- a3]⟩
  |dK h1 z=>exact jO rfl (y b _ z).2
  |tup z=>exact y b _ z
  |frz i z=>exact⟨(y b _ z).1,jO i (y b _ z).2⟩
  |oth h1 h2 z n1 n2 n3=>
   refine(x b _ q).stay (fun c u hc hu=>?_) (fun c hc=>res_some hc) fun c xs hc=>res_some hc;rcases hc with rfl|hc
   ·exact keep _ _ (by rw[q];simp) hu h2 fun z=>by rw[fr _ z]at q;cases q
   ·refine keep _ _ (by rw[hc];simp) hu ?_ fun z=>by rw[fr _ z]at hc;cases hc
    unfold fu;rw[hc]
 |none=>
  rw[res_none q]at e;refine(y b o e).stay (fun _ _ _ z=>z) (fun c hc=>?_) tp;cases q':H c with
  |none=>rw[res_none q'];exact hc
  |some o'=>
   exfalso;cases kL x p q' with
   |lst _ z=>rw[z]at hc;cases hc
   |dK _ z=>rw[z]at hc;cases hc
   |tup z=>rw[z]at hc;cases hc
   |frz _ z=>rw[z]at hc;cases hc
   |oth _ _ z _ _ _=>rw[z]at hc;cases hc
theorem g5 {fs:List Ψ}(u:Un fs [] (fu h H) H' h g):Pers h (fu h H) H':=⟨u.frzs,u.tups,fun b o e n=>u.free b o e n (by simp)⟩
theorem lG {fs:List Ψ}(x:HOk P w H h)(u:Un fs [] (fu h H) H' h g):Un fs [] H (iB H H') h g where
 keep:=fun b o e n f i=>u.keep b o e (gq n) f i
 slot:=fun b o e n f i=>u.slot b o e (gq n) f i
 free:=fun b o e n i=>by rw[res_none n];exact u.free b o e (gq n) i
 there:=u.there
 tups:=fun b xs e=>res_some e
 frzs:=fun b o v e=>res_some e
 tbls:=fun b ps e=>⟨#[],by rw[res_some e];simp⟩
end
noncomputable def H0:Hp:=fun _=>Ξ
def CX1 (P:Β)(w:Α):CXT:=fun outer H s E e s'=>∃(a:Ψ) (cls:Φ) (dx:Option Ψ) (H':Hp) (B:Heap),e=.ref a/\s'.os=s.os/\AllBare s'.gens/\Un (frs outer) [] H H' s.heap s'.heap/\HOk P w H' B/\eX H H'/\
 (∀b o,s.heap.get? b=Γ o->H b=Ξ->b∉frs outer->B.get? b=Γ o)/\Heap.FlyingD B outer a cls dx s'.heap/\E cls dx H0
def xp1 (K:Frag):XK->Hp->Str->Prop:=fun E _ c=>∀C dx,PySem.W.nsIn K Ζ c=Γ (Γ (.ref C))->(c≠fG->dx=Ξ)->E (.ref C) dx H0
def kM (X:Cx)(E:XK):Prop:=∀(pins:List (Ψ×Obj)) (σ:St) (H':Hp) (s':Ω) (B:Heap) (a:Ψ) (cls:Φ) (dx:Option Ψ),Inv X pins σ H' s'->HOk X.prog X.w H' B->
 (∀b o,X.s₀.heap.get? b=Γ o->X.H₀ b=Ξ->b∉X.fs->b∉X.ex->B.get? b=Γ o)->Heap.FlyingD B X.stack a cls dx s'.heap->E cls dx H0->X.xe (.ref a) s'
section
variable {X:Cx}{pins:List (Ψ×Obj)}{σ:St}{H:Hp}{s:Ω}{E:XK}
theorem Inv.nst (I:Inv X pins σ H s){b:Ψ}{o:Obj}(e:X.s₀.heap.get? b=Γ o)(f:b∉X.fs):b∉frs X.stack:=fun z=>by
 rcases p_.mp (I.stkSub b z) with z|z
 ·exact absurd (zV (j_ e) (z ▸ I.ok.above)) (Ai _)
 ·exact f z
theorem pq (p:kM X E):Passes (CX1 X.prog X.w) X E:=by intro pins σ H s e s' I ⟨a,cls,dx,H',B,he,os,bare,un,hB,_,kB,fl,hE⟩;subst he;have I':=I.call' os un (hB.kept fl.1) bare (fun b z=>absurd z (by simp));exact p pins σ H' s' B a cls dx I' hB (fun b o e n f x=>kB b o (I.base.keep b o e n f x) (I.base.free b o e n x) (I.nst e f)) fl hE
theorem qx {fs ex:List Ψ}{H H':Hp}{h h1 h2 B:Heap}(u:Un fs ex H H' h h1)(kB:∀b o,h.get? b=Γ o->H b=Ξ->b∉fs->b∉ex->B.get? b=Γ o)(st:B.StaysIn h2)(up:h1.UpG h2)
  (nf:∀b∈fs,∀o,h.get? b=Γ o->∀vs,o.data≠.fields vs):Un fs ex H H' h h2 where
 keep:=fun b o e n f x=>st _ _ (kB b o e n f x)
 slot:=fun b o e n f x=>by obtain⟨sl,h1⟩:=u.slot b o e n f x;obtain⟨sl',h2⟩:=up.1 b _ h1 (nf b f o e);exact⟨sl',h2⟩
 free:=u.free
 there:=fun b o e x=>by obtain⟨o',h1⟩:=u.there b o e x;exact up.2 b o' h1
 tups:=u.tups
 frzs:=u.frzs
 tbls:=u.tbls
theorem vJ {h base:Heap}{l:List Env}(f:h.FunFrames base l):∀b∈frs l,∀o,h.get? b=Γ o->∀vs,o.data≠.fields vs:=fun b hb o e=>by obtain⟨_,o',ho',nf⟩:=f.mem hb;rw[e]at ho';cases ho';exact nf
def XEc (X:Cx)(E:XK)(scope:Scope)(cl:List (Str×Ψ))(N:List Str)(C:Ψ)(s3:Ω)(H3:Hp)(fp:List Ψ):Φ->Ω->Prop:=fun e s'=>
 ∃(a:Ψ) (pins:List (Ψ×Obj)) (σ:St) (H':Hp) (B:Heap) (cls:Φ) (dx:Option Ψ),e=.ref a/\Inv (cxC X scope cl N C s3 H3 fp) pins σ H' s'/\HOk X.prog X.w H' B/\
  (∀b o,s3.heap.get? b=Γ o->H3 b=Ξ->b∉frs X.stack->b∉fp->B.get? b=Γ o)/\Heap.FlyingD B X.stack a cls dx s'.heap/\E cls dx H0
theorem ny {scope:Scope}{cl:List (Str×Ψ)}{N:List Str}{C:Ψ}{s3:Ω}{H3:Hp}{fp:List Ψ}:kM (cxC X scope cl N C s3 H3 fp (XEc X E scope cl N C s3 H3 fp)) E:=
 fun pins σ H' s' B a cls dx I hB kB fl hE=>⟨a,pins,σ,H',B,cls,dx,rfl,I.wish _,hB,kB,fl,hE⟩
def xH (X:Cx):Prop:=∃(fe:Env) (fo:List Env) (L:Ψ),X.stack=fe::fo/\fe.frame=Γ L/\X.env.frame=Γ L
theorem jP {M:Model}{scope:Scope}{cl:List (Str×Ψ)}{N:List Str}{C:Ψ}{s3:Ω}{H3:Hp}{fp:List Ψ}(p:kM X E)(hf:xH X)(I3:Inv X pins σ H3 s3)(hC:s3.heap.objs.size=C)(f3:∀b∈fp,hI X pins H3 b){e:Φ}{s':Ω}
  (hx:XEc X E scope cl N C s3 H3 fp e s'):notedBy M X.A (compEnvC scope cl C X.env) (fun x s''=>∃m,s''.heap.Ns C m/\∀h',Heap.SameBut C s''.heap h'->∀cenv:Env,cenv.locals=C->Ι M X.A (passOn "comprehension.variables-let-go" x cenv:Sem Φ) (fun _ _=>False) X.xe {s'' with heap:=h'}) e s':=by
 obtain⟨a,pins',σ',H',B,cls,dx,rfl,J,hB,kB,fl,hE⟩:=hx;obtain⟨fe,fo,L,hst,hfe,hfx⟩:=hf;have un:Un (frs X.stack) fp H3 H' s3.heap s'.heap:=J.base;have nf:=vJ I3.stack;unfold notedBy;rw[sI (show(compEnvC scope cl C X.env).frame=fe.frame from hfx.trans hfe.symm)];refine nW (A:=X.A) (by rw[<- hst];exact I3.ok.frames) hfe (hst ▸ fl) fun h2 f2 u2=>?_;have f2:Heap.FlyingD B X.stack a cls dx h2:=hst ▸ f2;have un2:=qx un kB f2.1 u2 nf;obtain⟨m,hn,_⟩:=J.loc;have hn:s'.heap.Ns C m:=hn;have hn2:=u2.1.ns hn;refine⟨m,hn2,fun h3 sb cenv _=>?_⟩;have ltC:∀ {b:Ψ}{o:Obj},s3.heap.get? b=Γ o->b≠C:=fun {b o} e=>by rw[<- hC];exact u_ (j_ e)
 have hCd:∃o,h2.get? C=Γ o/\∀vs,o.data≠.fields vs:=by obtain⟨o,es,ep,ho,hd,_⟩:=hn2;exact⟨o,ho,fun vs q=>by rw[hd]at q;cases q⟩
 have f3':Heap.FlyingD (PySem.W.hideAll B [C]) X.stack a cls dx h3:=mi f2 sb hCd fun env he q=>by obtain⟨_,o,ho,_⟩:=I3.stack.mem (List.mem_filterMap.mpr ⟨env,he,q⟩);exact ltC ho rfl
 have fC:H' C=Ξ:=J.free;have hB3:HOk X.prog X.w H' (PySem.W.hideAll B [C]):=fun b o hb=>by
  refine(hB b o hb).stay (fun c u hc hu=>PySem.W.hideAll_get _ hu fun z=>?_) (fun _ z=>z) fun _ _ z=>z;rw[Ag]at z;rw[z]at hc;rcases hc with hc|hc
  ·rw[<- hc,fC]at hb;cases hb
  ·rw[fC]at hc;cases hc
 have un3:Un (frs X.stack) fp H3 H' s3.heap h3:=by
  have k:∀ {b o o'},s3.heap.get? b=Γ o->h2.get? b=Γ o'->h3.get? b=Γ o':=fun e e'=>(sb.2 _ (ltC e)).trans e'
  exact⟨fun b o e n f x=>k e (un2.keep b o e n f x),fun b o e n f x=>by
   obtain⟨sl,z⟩:=un2.slot b o e n f x;exact⟨sl,k e z⟩,un2.free,fun b o e x=>by
   obtain⟨o',z⟩:=un2.there b o e x
   exact⟨o',k e z⟩,un2.tups,un2.frzs,un2.tbls⟩
 refine xB (s:={s' with heap:=h3}) f3' fun h4 f4 u4=>?_;have kB4:∀b o,s3.heap.get? b=Γ o->H3 b=Ξ->b∉frs X.stack->b∉fp->(PySem.W.hideAll B [C]).get? b=Γ o:=fun b o e n f x=>PySem.W.hideAll_get _ (kB b o e n f x) fun z=>ltC e (Ag.mp z);have un4:=qx un3 kB4 f4.1 u4 nf;refine p pins σ H' {s' with heap:=h4} _ a cls dx (I3.call' (s':={s' with heap:=h4}) J.os un4 (hB3.kept f4.1) J.bare fun b hb=>?_) hB3 (fun b o e n f x=>?_) f4 hE
 ·obtain⟨_,a1,_,a3,a4,a5⟩:=f3 b hb;exact⟨a3,a1,a4,a5⟩
 ·refine kB4 b o (I3.base.keep b o e n f x) (I3.base.free b o e n x) (I3.nst e f) fun z=>?_;rcases(f3 b z).2.2.2.1 with q|q
  ·exact x q
  ·exact absurd (zV (j_ e) q) (Ai _)
end
noncomputable def fT:List Str:=["len","sum","min","max","sorted","list","tuple","ord","int","all","any","str","set","abs","isinstance","range","bool","zip","reversed","dict","enumerate"]
noncomputable def kN:Bi->Nat
 |.len=>0|.sum=>1|.min2=>2|.max2=>3|.maxl=>3|.sorted=>4|.list=>5|.tuple=>6|.ord=>7|.int=>8|.all=>9|.any=>10|.str=>11|.set=>12|.abs=>13
noncomputable def oh:Kd->Nat
 |.str=>11|.int=>8|.bool=>16|.list=>5|.tuple=>6
theorem qy (f:Bi):fT[kN f]? = Γ (gZ f):=by cases f<;>rfl
theorem vK (f:Kd):fT[oh f]? = Γ (iI f):=by cases f<;>rfl
mutual
noncomputable def pA:D->D->Bool
 |.non,.non=>Δ
 |.bl a,.bl b=>a == b
 |.int a,.int b=>a == b
 |.str a,.str b=>a == b
 |.tup a,.tup b=>jQ a b
 |.lst o a,.lst o' b=>o == o'&&jQ a b
 |_,_=>Θ
noncomputable def jQ:List D->List D->Bool
 |[],[]=>Δ
 |a::r,b::s=>pA a b&&jQ r s
 |_,_=>Θ
end
mutual
theorem oi:∀ {a b:D},pA a b=Δ->a=b
 |.non,b,h=>by cases b<;>first|rfl|cases h
 |.bl a,b,h=>by cases b<;>first|(rw[f_ (show(a == _)=Δ from h)])|cases h
 |.int a,b,h=>by cases b<;>first|(rw[f_ (show(a == _)=Δ from h)])|cases h
 |.str a,b,h=>by cases b<;>first|(rw[f_ (show(a == _)=Δ from h)])|cases h
 |.tup a,b,h=>by
  induction b using zD with
  |tup b=>rw[jR (show jQ a b=Δ from h)]
  |_=>cases h
 |.lst o a,b,h=>by
  induction b using zD with
  |lst o' b=>have h':(o == o'&&jQ a b)=Δ:=h;rw[e_]at h';rw[f_ h'.1,jR h'.2]
  |_=>cases h
theorem jR:∀ {a b:List D},jQ a b=Δ->a=b
 |[],b,h=>by cases b<;>first|rfl|cases h
 |a::r,b,h=>by
  induction b using zL with
  |nil=>cases h
  |cons b s=>have h':(pA a b&&jQ r s)=Δ:=h;rw[e_]at h';rw[oi h'.1,jR h'.2]
end
structure Sg where
 nm:List Str
 kst:List (Nat×D)
 fns:List Nat
 cls:List Nat:=[]
 xt:List (Str×Nat×Bool):=[]
 pl:List Nat:=[]
 rc:List (Nat×Str):=[]
 xm:List (Str×Nat×Bool):=[]
 fio:List Nat:=[]
noncomputable def Sg.name (Z:Sg)(n:Nat):Option Str:=(fT++Z.nm)[n]?
noncomputable def Gm.glc (G:Gm)(n:Nat):Bool:=G.cm&&G.gl.contains n
theorem nA {G:Gm}{n:Nat}(h:G.glc n=Δ):G.gl.contains n=Δ:=by unfold Gm.glc at h;rw[e_]at h;exact h.2
theorem nB {G:Gm}{n:Nat}(h:G.glc n=Δ):G.cm=Δ:=by unfold Gm.glc at h;rw[e_]at h;exact h.1
noncomputable def Sg.fnc (Z:Sg)(G:Gm)(f:Nat):Bool:=Z.fns.contains f&&(G.cm||Z.pl.contains f)
theorem jd {Z:Sg}{G:Gm}{f:Nat}(h:Z.fnc G f=Δ):f∈Z.fns/\(G.cm=Δ∨f∈Z.pl):=by unfold Sg.fnc at h;rw[e_,zX]at h;exact⟨by simpa using h.1,h.2.elim .inl fun z=>.inr (by simpa using z)⟩
noncomputable def nC:Mt->Bool
 |.join=>Δ
 |_=>Θ
noncomputable def notStar:Expr->Bool
 |.Starred ..=>Θ
 |_=>Δ
noncomputable def jS:Expr->Bool
 |.Slice ..=>Θ
 |_=>Δ
noncomputable def jT:Expr->Bool
 |.Call _ [] [] _=>Θ
 |_=>Δ
noncomputable def mD (G:Gm)(i:Nat)(x:Str):Bool:=G.N[i]? == Γ x&&(G.kd[i]? == Γ .local||G.kd[i]? == Γ .cell||G.kd[i]? == Γ .free)
noncomputable def fx (Z:Sg)(G:Gm)(n:Nat)(x:Str):Bool:=Z.name n == Γ x&&G.gl.contains n
noncomputable def xI:D->Const->Bool
 |.int i,.int j=>i == j
 |.str x,.str y=>x == y
 |.bl a,.bool b=>a == b
 |.non,.none=>Δ
 |_,_=>Θ
mutual
noncomputable def gF (G:Gm):Tg->Expr->Bool
 |.nm i,.Name x _=>(G.N[i]? == Γ x&&(G.kd[i]? == Γ .local||(G.df&&G.kd[i]? == Γ .cell)))&&G.io != Γ i
 |.tp ts,.Tuple es _ _=>G.cm&&iE G ts es
 |_,_=>Θ
noncomputable def iE (G:Gm):List Tg->List Expr->Bool
 |[],[]=>Δ
 |t::ts,e::es=>notStar e&&gF G t e&&iE G ts es
 |_,_=>Θ
end
mutual
noncomputable def tgs:Tg->List Nat
 |.nm i=>[i]
 |.tp ts=>mE ts
noncomputable def mE:List Tg->List Nat
 |[]=>[]
 |t::ts=>tgs t++mE ts
end
noncomputable def f9 (Z : Sg)(G : Gm)(scope : Scope)(G' : Gm)(fr : List Nat) : Bool :=
  (G.cm&&scope.kind == .function)&&!G'.tr&&!G'.df&&G'.kd.length == G'.N.length
 &&scope.names.all (fun y =>y.2 != .cell)&&scope.names.all (fun y =>y.2 != .local||scope.names.lookup y.1 == Γ .local)
 &&scope.names.all (fun y =>y.2 != .free||(List.range G.N.length).any fun i =>G.N[i]? == Γ y.1&&(G.kd[i]? == Γ .cell||G.kd[i]? == Γ .free))
 &&(List.range fr.length).all (fun j =>G'.N[j]? == (fr[j]?).bind (G.N[·]?)&&((G'.N[j]?).bind (scope.names.lookup ·) == Γ .free)&&((fr[j]?).bind (G.kd[·]?) == Γ .cell||(fr[j]?).bind (G.kd[·]?) == Γ .free)
     &&(G'.kd[j]? == Γ (if((fr[j]?).bind (G.kd[·]?) == Γ .cell) then .cell else .free)))
 &&decide (fr.length <= G'.N.length)
 &&((List.range G'.N.length).drop fr.length).all (fun j =>(G'.N[j]?).bind (scope.names.lookup ·) == Γ .local&&G'.kd[j]? == Γ .local)
 &&G'.N.all (fun x =>!(x == "__debug__")&&!(x == "__classdict__"))
 &&decide (G'.N.Nodup)
 &&G'.gl.all (fun n =>match Z.name n with|some x =>scope.names.lookup x == Γ .globalImplicit|none =>Θ)&&!G'.rs
theorem dA {P:Prop}(h:Θ=Δ):P:=by cases h
noncomputable def pB:List Comprehension->(Expr->Expr->List Expr->Bool)->Bool
 |[⟨t,it,fs,0⟩],k=>k t it fs
 |_,_=>Θ
local macro_rules | `(tactic| exists $h) =>`(tactic| first | exact L2.dA $h | cases($h))
theorem lH {gens:List Comprehension}{k:Expr->Expr->List Expr->Bool}(h:pB gens k=Δ):∃t it fs,gens=[⟨t,it,fs,0⟩]/\k t it fs=Δ:=by
 unfold pB at h;split at h
 ·exact⟨_,_,_,rfl,h⟩
 ·cases h
noncomputable def nmv (k:Str->Bool):Expr->Bool
 |.Name z _=>k z
 |_=>Θ
theorem jU {k:Str->Bool}{e:Expr}(h:nmv k e=Δ):∃z p,e=.Name z p/\k z=Δ:=by
 induction e using zE with
 |Name z p=>exact⟨z,p,rfl,h⟩
 |_=>exact dA h
noncomputable def l1v {α:Type}:List α->(α->Bool)->Bool
 |a::r,k=>r.isEmpty&&k a
 |[],_=>Θ
theorem qz {α:Type}{l:List α}{k:α->Bool}(h:l1v l k=Δ):∃a,l=[a]/\k a=Δ:=by
 induction l using zL with
 |nil=>exact dA h
 |cons a r=>
  induction r using zL with
  |nil=>exact⟨a,rfl,h⟩
  |cons b r=>exact dA h
noncomputable def cav:Expr->(Expr->List Expr->Pos->Bool)->Bool
 |.Call f as ks p,k=>ks.isEmpty&&k f as p
 |_,_=>Θ
theorem qA {e:Expr}{k:Expr->List Expr->Pos->Bool}(h:cav e k=Δ):∃f as p,e=.Call f as [] p/\k f as p=Δ:=by
 induction e using zE with
 |Call f as ks p=>
  induction ks using zL with
  |nil=>exact⟨f,as,p,rfl,h⟩
  |cons b r=>exact dA h
 |_=>exact dA h
noncomputable def tpv (k:List Expr->Bool):Expr->Bool
 |.Tuple es _ _=>k es
 |_=>Θ
theorem vL {k:List Expr->Bool}{e:Expr}(h:tpv k e=Δ):∃es c p,e=.Tuple es c p/\k es=Δ:=by
 induction e using zE with
 |Tuple es c p=>exact⟨es,c,p,rfl,h⟩
 |_=>exact dA h
noncomputable def xJ (k:Expr->Expr->Bool):List Expr->Bool
 |[a,b]=>k a b
 |_=>Θ
noncomputable def qB (Z:Sg)(G:Gm):List Nat->Expr->Bool
 |[n],e=>nmv (fun z=>fx Z G n z&&Z.cls.contains n) e
 |[n,m],e=>tpv (xJ fun a b=>nmv (fun z=>fx Z G n z&&Z.cls.contains n) a&&nmv (fun y=>fx Z G m y&&Z.cls.contains m) b) e
 |_,_=>Θ
noncomputable def vM (Z:Sg):List Nat->Str×Bool->Bool
 |[n],p=>Z.xt.contains (p.1,n,p.2)
 |[n,m],p=>Z.xt.contains (p.1,n,Θ)&&Z.xt.contains (p.1,m,p.2)
 |_,_=>Θ
noncomputable def jt:Sr->Expr->Bool
 |_,_=>Δ
noncomputable def jrv:Expr->(Str->Expr->Option Str->Bool)->Bool
 |.JoinedStr [.Constant (.str x) _ _,.FormattedValue e n Ξ _] _,k=>n == 114&&k x e Ξ
 |.JoinedStr [.Constant (.str x) _ _,.FormattedValue e n Ξ _,.Constant (.str y) _ _] _,k=>n == 114&&k x e (Γ y)
 |_,_=>Θ
theorem vN {e:Expr}{k:Str->Expr->Option Str->Bool}(h:jrv e k=Δ):∃x e' y,k x e' y=Δ/\((∃j p q pos,y=Ξ/\e=.JoinedStr [.Constant (.str x) j p,.FormattedValue e' 114 Ξ q] pos)∨
  ∃w j p q j' r pos,y=Γ w/\e=.JoinedStr [.Constant (.str x) j p,.FormattedValue e' 114 Ξ q,.Constant (.str w) j' r] pos):=by
 unfold jrv at h;split at h
 ·rw[e_]at h;rw[f_ h.1];exact⟨_,_,_,h.2,.inl ⟨_,_,_,_,rfl,rfl⟩⟩
 ·rw[e_]at h;rw[f_ h.1];exact⟨_,_,_,h.2,.inr ⟨_,_,_,_,_,_,_,rfl,rfl⟩⟩
 ·cases h
noncomputable def lrv (e:Expr)(k:Str->Str->Expr->Bool):Bool:=cav e fun f as _=>nmv (fun x=>l1v as fun a=>cav a fun g bs _=>nmv (fun y=>l1v bs fun b=>k x y b) g) f
theorem vO {e:Expr}{k:Str->Str->Expr->Bool}(h:lrv e k=Δ):∃x p y p' e' q' q,e=.Call (.Name x p) [.Call (.Name y p') [e'] [] q'] [] q/\k x y e'=Δ:=by obtain⟨f,as,q,rfl,h1⟩:=qA h;obtain⟨x,p,rfl,h2⟩:=jU h1;obtain⟨a,rfl,h3⟩:=qz h2;obtain⟨g,bs,q',rfl,h4⟩:=qA h3;obtain⟨y,p',rfl,h5⟩:=jU h4;obtain⟨b,rfl,h6⟩:=qz h5;exact⟨_,_,_,_,_,_,_,rfl,h6⟩
mutual
noncomputable def chk (Z:Sg)(G:Gm):IR->Expr->Bool
 |.c d,.Constant k _ _=>xI d k
 |.g n d,.Name x _=>fx Z G n x&&Z.kst.any fun p=>p.1 == n&&pA p.2 d
 |.v i,.Name x _=>mD G i x
 |.bin op a b,.BinOp l o r _=>o == bop op&&chk Z G a l&&chk Z G b r
 |.cmp op a b,.Compare l [o] [r] _=>o == cop op&&chk Z G a l&&chk Z G b r&&!behindInMarks o r
 |.chain op op' a b c,.Compare l [o,o'] [m,r] _=>o == cop op&&o' == cop op'&&chk Z G a l&&chk Z G b m&&chk Z G c r&&!lastMarks [o,o'] [m,r]
 |.and_ a b,.BoolOp .And [e,e'] _=>chk Z G a e&&chk Z G b e'
 |.and_ a b,.BoolOp .And (e::e'::e''::rest) p=>chk Z G a e&&chk Z G b (.BoolOp .And (e'::e''::rest) p)
 |.or_ a b,.BoolOp .Or [e,e'] _=>chk Z G a e&&chk Z G b e'
 |.or_ a b,.BoolOp .Or (e::e'::e''::rest) p=>chk Z G a e&&chk Z G b (.BoolOp .Or (e'::e''::rest) p)
 |.not_ a,.UnaryOp .Not e _=>chk Z G a e
 |.ite t a b,.IfExp c x y _=>chk Z G t c&&chk Z G a x&&chk Z G b y
 |.tup es,.Tuple l _ _=>fy Z G es l
 |.lst es,.List l _=>fy Z G es l
 |.sl a lo hi,.Subscript e (.Slice l h Ξ _) _=>chk Z G a e&&nD Z G lo l&&nD Z G hi h
 |.idx a i,.Subscript e s _=>jS s&&chk Z G a e&&chk Z G i s
 |.call f es,.Call (.Name x _) args [] _=>fx Z G f x&&Z.fnc G f&&fy Z G es args
 |.bi f es,.Call (.Name x _) (a::args) [] _=>x == gZ f&&G.glc (kN f)&&fy Z G es (a::args)
 |.isi a k,.Call (.Name x _) [e,.Name y _] [] _=>x == "isinstance"&&G.gl.contains 14&&y == iI k&&G.gl.contains (oh k)&&notStar e&&chk Z G a e
 |.isx a ns tb,.Call (.Name x _) [e,y] [] _=>x == "isinstance"&&G.gl.contains 14&&notStar e&&qB Z G ns y&&tb.all (vM Z ns)&&chk Z G a e
 |.lrev a,e=>lrv e fun x y e=>x == "list"&&G.glc 5&&y == "reversed"&&G.gl.contains 18&&notStar e&&chk Z G a e
 |.ftr x a y,e=>jrv e fun x' e' y'=>x == x'&&y == y'&&decide (x.length<=1000)&&chk Z G a e'
 |.mth m o es,.Call (.Attribute oe name apos) (a::args) [] cpos=>name == jN m&&jT oe&&apos.endLine == cpos.line&&(decide ((a::args).length < 29)&&(G.cm||nC m))&&chk Z G o oe&&fy Z G es (a::args)
 |.comp G' fr tg src ifs elt,.ListComp e gens scope _=>pB gens fun t it fs=>f9 Z G scope G' fr&&gF G' tg t&&(tgs tg).all (fun i=>decide (fr.length<=i))&&(gJ Z G src it&&jt src t)&&fy Z G' ifs fs&&chk Z G' elt e
 |_,_=>Θ
noncomputable def fy (Z:Sg)(G:Gm):List IR->List Expr->Bool
 |[],[]=>Δ
 |a::es,e::l=>notStar e&&chk Z G a e&&fy Z G es l
 |_,_=>Θ
noncomputable def nD (Z:Sg)(G:Gm):Option IR->Option Expr->Bool
 |none,Ξ=>Δ
 |some a,Γ e=>chk Z G a e
 |_,_=>Θ
noncomputable def gJ (Z:Sg)(G:Gm):Sr->Expr->Bool
 |.rng1 n,.Call (.Name x _) [e] [] _=>x == "range"&&G.gl.contains 15&&notStar e&&chk Z G n e
 |.val a,e=>chk Z G a e
 |_,_=>Θ
end
noncomputable def bmV:List Φ:=[.type "ValueError",.type "Exception",.type "BaseException",.type "object"]
def FOk (F:Ψ->Prop)(H:Hp):Prop:=∀a,F a->H a≠Ξ
structure Out (K:Frag)(F:Ψ->Prop)(H:Hp)(F':Ψ->Prop)(H':Hp)(v:V)(d:D)(fv:List Ψ):Prop where
 fok:FOk F' H'
 same:eX H H'
 rep:MRep K F' H' v d fv
 nod:fv.Nodup
 new:∀a∈fv,H a=Ξ
 inn:∀a,F a->F' a
 out:∀a,F' a->F a∨H a=Ξ
def spF (K:Frag)(cl:Nat->List D->Res D)(xp:XK->Hp->Str->Prop)(f:Nat)(ps:List Str):Sp:=fun vs H Q E=>vs.length=ps.length/\LTH H/\∃F ds,FOk F H/\HReps K F H vs ds/\
 PO' (xp E H) (cl f (ers ds)) fun d=>∀v H' F' fv,Out K F H F' H' v d fv->Q v H'
structure FnC (P:Β)(w:Α)(K:Frag)(mg:Str->Option Φ)(base:Heap)(CX:CXT)(A:Η)(cl:Nat->List D->Res D)(xp:XK->Hp->Str->Prop)(f:Nat)(x:Str):Prop where
 ex:∃(k:Nat) (fa:Ψ) (fd:Ν) (ps:List Str),mg x=Γ (.ref fa)/\PySem.W.keepIn K (.ref fa)=Δ/\Binds K fd ps []/\FnOk P w K mg base CX k fa fd ps (spF K cl xp f ps)/\Room k A/\
  ∀(ex:Str->Prop) ds (k:D->Prop),PO' ex (cl f ds) k->ds.length=ps.length
noncomputable def rm (a:Ψ)(H:Hp):Hp:=fun b=>if b=a then Ξ else H b
structure OutI (K:Frag)(a:Ψ)(F:Ψ->Prop)(H:Hp)(F':Ψ->Prop)(H':Hp)(v:V)(d:D)(fv:List Ψ)(kvs':List (Key×V))(ks':List Key)(es':List D):Prop where
 out:Out K F (rm a H) F' H' v d fv
 nF:¬F' a
 nf:a∉fv
 at_:H' a=Γ (.dK kvs')
 ks:kvs'.map (·.1)=ks'
 vs:HReps K F' H' (kvs'.map (·.2)) es'
structure ArgI (K:Frag)(a:Ψ)(F:Ψ->Prop)(H:Hp)(ws:List V)(ds:List D)(kvs:List (Key×V))(es:List D):Prop where
 fok:FOk F H
 nF:¬F a
 at_:H a=Γ (.dK kvs)
 ws:HReps K F H ws ds
 vs:HReps K F H (kvs.map (·.2)) es
 lf:eS es=Δ
def spI (K:Frag)(cl:Nat->List D->Res D)(f:Nat)(ps:List Str):Sp:=fun vs H Q _=>vs.length=ps.length/\∃a F ws ds kvs es,vs=ws++[.ref a]/\ArgI K a F H ws ds kvs es/\
 ∃d ks' es',cl f (ers ds++[.dct Θ (kvs.map (·.1)) es])=.ok (.tup [d,.dct Θ ks' es'])/\eS es'=Δ/\∀v H' F' fv kvs',OutI K a F H F' H' v d fv kvs' ks' es'->Q v H'
structure FnI (P:Β)(w:Α)(K:Frag)(mg:Str->Option Φ)(base:Heap)(CX:CXT)(A:Η)(cl:Nat->List D->Res D)(f:Nat)(x:Str):Prop where
 ex:∃(k:Nat) (fa:Ψ) (fd:Ν) (ps:List Str),mg x=Γ (.ref fa)/\PySem.W.keepIn K (.ref fa)=Δ/\Binds K fd ps []/\FnOk P w K mg base CX k fa fd ps (spI K cl f ps)/\Room k A/\
  ∀ds r,cl f ds=.ok r->ds.length=ps.length
structure TrOk (Z:Sg)(CX:CXT)(cl:Nat->List D->Res D)(xp:XK->Hp->Str->Prop)(X:Cx):Prop where
 st:X.stack=X.env::X.outer
 fr:X.env.frame=Γ X.env.locals
 lt:LTH X.H₀
 pl:∀a:Ψ,∀f∈Z.fns,f∈Z.pl->∀x,Z.name f=Γ x->FnC X.prog X.w X.K X.mg X.base CX (X.A.mark (Γ (.ref a))) cl xp f x
 cx:∀(outer:List Env) (H:Hp) (s:Ω) (E:XK) (e:Φ) (s':Ω),CX outer H s E e s'->CX1 X.prog X.w outer H s E e s'
 xpe:∀(E:XK) (H:Hp) (c:Str) (C:Ψ) (dx:Option Ψ),xp E H c->PySem.W.nsIn X.K Ζ c=Γ (Γ (.ref C))->(c≠fG->dx=Ξ)->E (.ref C) dx H0
 xp:∀(c:Str) (C:Ψ) (H:Hp),PySem.W.nsIn X.K Ζ c=Γ (Γ (.ref C))->xp (fun cls dx _=>cls=.ref C/\(c≠fG->dx=Ξ)) H c
structure GOk (Z:Sg)(CX:CXT)(cl:Nat->List D->Res D)(xp:XK->Hp->Str->Prop)(X:Cx)(ex:Str->Prop)(G:Gm):Prop where
 N:X.N=G.N
 nod:G.N.Nodup
 calm:G.cm=Δ->X.calm=Δ
 fk:X.env.scope.kind=.function
 un:X.A.units+42 < cLine
 own:G.rs=Δ->PassesOwn (Κ X.prog X.w) X.A X.env X.xe
 kd:∀(i:Nat) (x:Str),G.N[i]? = Γ x->X.env.kindOf x=G.kd[i]?
 noD:∀(i:Nat) (x:Str),G.N[i]? = Γ x->(x == ("__debug__" : Str))=Θ/\(x == ("__classdict__" : Str))=Θ
 gl:∀n∈G.gl,∀x,Z.name n=Γ x->Gl X x
 nam:∀n x,Z.name n=Γ x->x≠"__name__"/\(x == ("__debug__" : Str))=Θ
 df:G.df=Δ->∀x,X.fn x=Δ
 blt:∀(n:Nat) (x:Str),fT[n]? = Γ x->X.mg x=Ξ
 cst:∀n d x,(n,d)∈Z.kst->Z.name n=Γ x->∃u v,X.mg x=Γ u/\RelV v u/\∀S H,HRep X.K S H v d
 fns:∀f∈Z.fns,(G.cm=Δ∨f∈Z.pl)->∀x,Z.name f=Γ x->FnC X.prog X.w X.K X.mg X.base CX X.A cl xp f x
 fio:∀f∈Z.fio,G.cm=Δ->∀x,Z.name f=Γ x->FnI X.prog X.w X.K X.mg X.base CX X.A cl f x
 xcv:∀n∈Z.cls,∀x,Z.name n=Γ x->∃v,CV X x v
 xcl:∀c n b x,(c,n,b)∈Z.xt->Z.name n=Γ x->∃C,PySem.W.nsIn X.K Ζ c=Γ (Γ (.ref C))/\ExcAt X.K C/\∀v,CV X x v->PySem.W.kitOne X.K (.ref C) (vv v)=Γ b
 xmt:∀c n b x,(c,n,b)∈Z.xm->Z.name n=Γ x->∃C C',PySem.W.nsIn X.K Ζ c=Γ (Γ (.ref C))/\PySem.W.nsIn X.K Ζ x=Γ (Γ (.ref C'))/\nameIn X.K C=Γ c/\X.mg x=Γ (.ref C')/\PySem.W.exmOne X.K (.ref C) (.ref C')=Γ b
 xrs:∀n c,(n,c)∈Z.rc->Z.name n=Γ c/\∃C,X.mg c=Γ (.ref C)/\PySem.W.nsIn X.K Ζ c=Γ (Γ (.ref C))/\PySem.W.excIn X.K C bmV "ValueError.__new__" = Δ
 rse:G.rs=Δ->∀(pins:List (Ψ×Obj)) (σ:St) (H:Hp) (s:Ω) (c:Str) (C:Ψ) (h':Heap) (e:Ψ) (vs:List Φ),Inv X pins σ H s->ex c->PySem.W.nsIn X.K Ζ c=Γ (Γ (.ref C))->Heap.MadeExcOf s.heap h' e (.ref C) vs->X.xe (.ref e) {s with heap:=h'}
 tr:G.tr=Δ->TrOk Z CX cl xp X
 exs:∃E:XK,kM X E/\∀c H,ex c->xp E H c
 hid:∀(outer:List Env) (H:Hp) (s:Ω) (E:XK) (e:Φ) (s':Ω),HOk X.prog X.w H s.heap->(∀b∈frs outer,H b=Ξ)->CX outer (fu s.heap H) s E e s'->CX outer H s E e s'
 exn:∀(H:Hp) (outer:List Env) (s:Ω) (e:Φ) (s':Ω),¬CX outer H s (fun _ _ _=>False) e s'
 cx:∀(outer:List Env) (H:Hp) (s:Ω) (E:XK) (e:Φ) (s':Ω),CX outer H s E e s'->CX1 X.prog X.w outer H s E e s'
 frm:xH X
theorem GOk.pss {Z:Sg}{CX:CXT}{cl:Nat->List D->Res D}{xp:XK->Hp->Str->Prop}{X:Cx}{ex:Str->Prop}{G:Gm}(g:GOk Z CX cl xp X ex G):∃E:XK,Passes CX X E/\∀c H,ex c->xp E H c:=by obtain⟨E,p,h⟩:=g.exs;exact⟨E,fun pins σ H s e s' I z=>pq p pins σ H s e s' I (g.cx _ _ _ _ _ _ z),h⟩
section
variable {P:Β}{w:Α}{H H':Hp}{h:Heap}{K:Frag}{Fc F':Ψ->Prop}
theorem lI {vs:List V}{ds:List D}(x:HOk P w H h)(m:HReps K Fc H vs ds):HReps K (fun a=>Fc a/\fu h H a≠Ξ) (fu h H) vs ds:=by
 refine(m.step (S':=Fc) (H':=fu h H) (fun a xs f r=>⟨f,?_⟩) fun a xs r=>?_).tight
 ·rcases r with r|⟨o,r⟩
  ·obtain⟨ob,he⟩:=(x a _ r).at
   refine .inr ⟨ob,?_⟩;unfold fu;rw[r];cases xs with
   |l ys=>show(h.get? a).map _=_;rw[he];rfl
   |d ys=>show(h.get? a).map _=_;rw[he];rfl
  ·refine .inr ⟨o,?_⟩;unfold fu;rw[r];cases xs<;>rfl
 ·cases xs with
  |inl xs=>
   rcases r with(r|⟨o,r⟩)|r
   ·refine .inl (.inl ?_);unfold fu;rw[r]
   ·refine .inl (.inr ⟨o,?_⟩);unfold fu;rw[r];rfl
   ·exact .inr r
  |inr c=>obtain⟨C,o,vs,h0,h1,h2,h3⟩:=r;refine⟨C,o,vs,h0,h1,?_,h3⟩;unfold fu;rw[h2];rfl
theorem mF (x:HOk P w H h)(p:Pers h (fu h H) H'){a:Ψ}(n:fu h H a=Ξ)(e:H' a≠Ξ):H a=Ξ:=by
 cases q:H a with
 |none=>rfl
 |some o=>
  obtain⟨ob,he⟩:=(x a o q).at
  exact absurd (p.free a ob he n) e
theorem lJ {v:V}{d:D}{fv:List Ψ}(x:HOk P w H h)(fok:FOk Fc H)(p:Pers h (fu h H) H')(o:Out K (fun a=>Fc a/\fu h H a≠Ξ) (fu h H) F' H' v d fv):Out K Fc H (fun a=>Fc a∨F' a) (iB H H') v d fv:=by
 have new:∀a∈fv,H a=Ξ:=fun a ha=>mF x p (o.new a ha) (by obtain⟨_,xs,e⟩:=o.rep.own a ha;rw[e];simp);refine⟨fun a ha=>?_,mC,o.rep.step (fun a xs f r=>⟨.inr f,?_⟩) (fun a xs r=>?_) fun a ha nf hn=>⟨fun z=>?_,res_none (new a ha)⟩,o.nod,new,fun a ha=>.inl ha,fun a ha=>?_⟩
 ·cases q:H a with
  |some u=>rw[res_some q];simp
  |none=>
   rw[res_none q];rcases ha with ha|ha
   ·exact absurd q (fok a ha)
   ·exact o.fok a ha
 ·cases q:H a with
  |none=>unfold Rd;rw[res_none q];exact r
  |some u=>
   unfold Rd;rw[res_some q];cases kL x p q with
   |lst _ z=>
    cases xs with
    |l ys=>
     rcases r with r|⟨o',r⟩
     ·rw[z]at r;cases r
     ·rw[z]at r;cases r;exact .inl rfl
    |d ys=>rcases r with r|⟨o',r⟩<;>(rw[z]at r;cases r)
   |dK _ z=>
    cases xs with
    |d ys=>
     rcases r with r|⟨o',r⟩
     ·rw[z]at r;cases r
     ·rw[z]at r;cases r;exact .inl rfl
    |l ys=>rcases r with r|⟨o',r⟩<;>(rw[z]at r;cases r)
   |tup z=>cases xs<;>rcases r with r|⟨o',r⟩<;>(rw[z]at r;cases r)
   |frz _ z=>
    cases xs with
    |l ys=>
     rcases r with r|⟨o',r⟩
     ·rw[z]at r;cases r
     ·rw[z]at r;cases r;exact .inr ⟨_,rfl⟩
    |d ys=>
     rcases r with r|⟨o',r⟩
     ·rw[z]at r;cases r
     ·rw[z]at r;cases r;exact .inr ⟨_,rfl⟩
   |oth _ _ z _ _ _=>exact absurd z r.some
 ·cases xs with
  |inl xs=>
   rcases r with r|r
   ·refine .inl ?_;cases q:H a with
    |none=>unfold Rd;rw[res_none q];exact r
    |some u=>
     unfold Rd;rw[res_some q];cases kL x p q with
     |lst _ z=>rcases r with r|⟨o',r⟩<;>(rw[z]at r;cases r)
     |dK _ z=>rcases r with r|⟨o',r⟩<;>(rw[z]at r;cases r)
     |tup z=>
      rcases r with r|⟨o',r⟩
      ·rw[z]at r;cases r;exact .inl rfl
      ·rw[z]at r;cases r
     |frz _ z=>
      rcases r with r|⟨o',r⟩
      ·rw[z]at r;cases r
      ·rw[z]at r;cases r;exact .inr ⟨_,rfl⟩
     |oth _ _ z _ _ _=>exact absurd z r.some
   ·exact .inr r
  |inr c=>
   obtain⟨C,ob,vs,h0,h1,h2,h3⟩:=r;refine⟨C,ob,vs,h0,h1,?_,h3⟩;cases q:H a with
   |none=>rw[res_none q];exact h2
   |some u=>
    rw[res_some q];cases kL x p q with
    |lst _ z=>rw[z]at h2;cases h2
    |dK _ z=>rw[z]at h2;cases h2
    |tup z=>rw[z]at h2;cases h2
    |frz _ z=>rw[z]at h2;cases h2;rfl
    |oth _ _ z _ _ _=>rw[z]at h2;cases h2
 ·rcases z with z|z
  ·exact fok a z (new a ha)
  ·exact nf z
 ·rcases ha with ha|ha
  ·exact .inl ha
  ·rcases o.out a ha with z|z
   ·exact .inl z.1
   ·exact .inr (mF x p z (o.fok a ha))
end
section
variable {X:Cx}{CX:CXT}{cl:Nat->List D->Res D}{xp:XK->Hp->Str->Prop}
theorem Inv.env0h {pins:List (Ψ×Obj)}{σ:St}{H:Hp}{s:Ω}(I:Inv X pins σ H s):Env0 X.prog X.w X.K X.mg X.base X.A X.stack s (fu s.heap H):=
 ⟨I.env0.frames,I.env0.mod,fun b o e=>⟨(I.env0.bs b o e).1,gq (I.env0.bs b o e).2⟩,I.env0.bsz,I.env0.funs,fun b hb=>gq (I.env0.frf b hb),qw I.hok,I.env0.bare⟩
theorem lK {k:Nat}{f:Nat}{fa:Ψ}{fd:Ν}{ps:List Str}{E:XK}{pins:List (Ψ×Obj)}{σ:St}{H:Hp}{s:Ω}{Q:VK}{us:List Φ}{vs:List V}{ds:List D}{Fc:Ψ->Prop}
  (F:FnOk X.prog X.w X.K X.mg X.base CX k fa fd ps (spF X.K cl xp f ps)) (hr:Room k X.A) (hb:Binds X.K fd ps []) (hx:Passes CX X E)
  (hh:∀(outer:List Env) (H:Hp) (s:Ω) (E:XK) (e:Φ) (s':Ω),HOk X.prog X.w H s.heap->(∀b∈frs outer,H b=Ξ)->CX outer (fu s.heap H) s E e s'->CX outer H s E e s')
  (I:Inv X pins σ H s) (r:Vals vs us) (hl:vs.length=ps.length) (fok:FOk Fc H) (m:HReps X.K Fc H vs ds)
  (q:PO' (xp E (fu s.heap H)) (cl f (ers ds)) fun d=>∀v H' F' fv,Out X.K Fc H F' H' v d fv->Q v H'):Ι (Κ X.prog X.w) X.A (call (.ref fa) us) (EP X pins σ Q) X.xe s:=by
 have hsp:spF X.K cl xp f ps vs (fu s.heap H) (fun v H'=>Pers s.heap (fu s.heap H) H'->Q v (iB H H')) E:=
  ⟨hl,nv _ _,_,ds,fun a h=>h.2,lI I.hok m,q.mono fun d hd v H' F' fv o p=>hd v _ _ fv (lJ I.hok fok p o)⟩
 have hl2:(us++([]:List Φ)).length=ps.length:=by rw[Am,<- r.length];exact hl
 have bd:=hb s us I.kIn hl2;rw[Am]at bd;refine wpAny_call (codeAny_mono (F.run X.A X.stack s (fu s.heap H) ⟨us,[]⟩ us vs _ E hr I.env0h bd r hsp) fun r' s' hq=>?_);cases r' with
 |error e=>exact hx pins σ H s e s' I (hh X.stack H s E e s' I.hok I.env0.frf hq)
 |ok fl=>
  cases fl with
  |ret u=>obtain⟨v,H',a1,a2,a3,a4,a5,a6⟩:=hq;exact I.after (Q:=Q) ⟨v,iB H H',a1,a2,lG I.hok a3,lF I.hok a4 (g5 a3) (fs:=frs X.stack) (fun b o _ e n f=>a3.keep b o e n f (by simp)) I.env0.frf,a5,a6 (g5 a3)⟩
  |next=>exact False.elim hq
  |brk=>exact False.elim hq
  |cont=>exact False.elim hq
end
def Slots (K:Frag)(S:Ψ->Prop)(H:Hp)(σ:St)(τ:Ev)(is:List Nat):Prop:=∀i∈is,∀d,eZ τ i=Γ d->∃v,σ[i]? = Γ (Γ v)/\HRep K S H v d
theorem Slots.sub {K:Frag}{S:Ψ->Prop}{H:Hp}{σ:St}{τ:Ev}{is js:List Nat}(h:Slots K S H σ τ is)(s:∀i∈js,i∈is):Slots K S H σ τ js:=fun i hi d e=>h i (s i hi) d e
theorem Slots.left {K:Frag}{S:Ψ->Prop}{H:Hp}{σ:St}{τ:Ev}{is js:List Nat}(h:Slots K S H σ τ (is++js)):Slots K S H σ τ is:=h.sub fun _ hi=>r_ _ hi
theorem Slots.right {K:Frag}{S:Ψ->Prop}{H:Hp}{σ:St}{τ:Ev}{is js:List Nat}(h:Slots K S H σ τ (is++js)):Slots K S H σ τ js:=h.sub fun _ hi=>o_ _ hi
theorem Slots.go {K:Frag}{S:Ψ->Prop}{H H':Hp}{σ:St}{τ:Ev}{is:List Nat}(h:Slots K S H σ τ is)(e:eX H H'):Slots K (nw S H) H' σ τ is:=fun i hi d z=>by obtain⟨v,h1,h2⟩:=h i hi d z;exact⟨v,h1,h2.mono (fun _=>.inl) e⟩
def RD (K:Frag)(ex:Str->Prop)(is:List Nat)(f:Ev->Res D):TE:=fun σ H Q=>∃S τ,Slots K S H σ τ is/\PO' ex (f τ) (Kk K S H Q)
def RT (K:Frag)(ex:Str->Prop)(is:List Nat)(f:Ev->Res Bool):TT:=fun σ H Q=>∃S τ,Slots K S H σ τ is/\PO' ex (f τ) fun b=>∀H',eX H H'->Q b H'
def RA (K:Frag)(ex:Str->Prop)(is:List Nat)(f:Ev->Res (List D)):TA:=fun σ H Q=>∃S τ,Slots K S H σ τ is/\PO' ex (f τ) fun ds=>∀vs H',eX H H'->HReps K (nw S H) H' vs ds->Q vs H'
def ROp (K:Frag)(ex:Str->Prop)(is:List Nat)(f:Ev->Res (Option Int)):TO:=fun σ H Q=>∃S τ,Slots K S H σ τ is/\PO' ex (f τ) fun o=>∀H',eX H H'->Q o H'
inductive Wlk (K:Frag)(S:Ψ->Prop)(H:Hp):It->List D->Prop where
 | lst {a:Ψ}{xs:List V}{ds:List D}:S a->Rd H a (.lst xs)->HReps K S H xs ds->Wlk K S H (Itl K a) ds
 | lstK {a:Ψ}{xs:List V}{ds:List D}:KL K a xs->HReps K S H xs ds->Wlk K S H (Itl K a) ds
 | tup {a:Ψ}{xs:List V}{ds:List D}:SqT K H a xs->HReps K S H xs ds->Wlk K S H (Itt K a) ds
 | rng (lo hi:Int):Wlk K S H (Itr lo (hi - lo).toNat) (gE lo hi)
 | str (x:Str):Wlk K S H (Its x) (gk x)
def RI (K:Frag)(ex:Str->Prop)(is:List Nat)(f:Ev->Res (List D)):TI:=fun σ H R=>∃S τ,Slots K S H σ τ is/\PO' ex (f τ) fun ds=>∀J H',eX H H'->Wlk K (nw S H) H' J ds->R J H'
theorem kO {S:Ψ->Prop}{H H1:Hp}(e:eX H H1):∀a,nw (nw S H) H1 a->nw S H a:=fun a h=>by
 rcases h with h|h
 ·exact h
 ·exact .inr (e.free h)
section
variable {Z:Sg}{CX:CXT}{cl:Nat->List D->Res D}{xp:XK->Hp->Str->Prop}{X:Cx}{ex:Str->Prop}{G:Gm}
theorem Kk.fit {K:Frag}{S:Ψ->Prop}{H H1:Hp}{Q:VK}{d:D}(e:eX H H1)(h:Kk K S H Q d):Kk K (nw S H) H1 Q d:=fun w H' e' m=>h w H' (e.trans e') (m.mono (kO e) (.refl _))
theorem gr (g:GOk Z CX cl xp X ex G){n:Nat}{x:Str}(h:fx Z G n x=Δ):Gl X x/\Z.name n=Γ x/\x≠"__name__"/\(x == ("__debug__" : Str))=Θ:=by unfold fx at h;rw[e_]at h;have e:Z.name n=Γ x:=f_ h.1;exact⟨g.gl n (by simpa using h.2) x e,e,g.nam n x e⟩
theorem uu (Z:Sg){n:Nat}{x:Str}(h:fT[n]? = Γ x):Z.name n=Γ x:=by unfold Sg.name;rw[Ay (y_.mp h).1];exact h
theorem iT (g:GOk Z CX cl xp X ex G){n:Nat}{x:Str}(h:fT[n]? = Γ x)(hc:G.gl.contains n=Δ):Gl X x/\X.mg x=Ξ/\x≠"__name__"/\(x == ("__debug__" : Str))=Θ:=
 ⟨g.gl n (by simpa using hc) x (uu Z h),g.blt n x h,g.nam n x (uu Z h)⟩
theorem eT {e:Expr}(h:notStar e=Δ)(es:List Expr)(env:Env):Μ (e::es) env=(Θ,eval e env)::Μ es env:=by
 induction e using zE<;>first|rfl|cases h
theorem fS (Z:Sg)(G:Gm):∀ {es:List IR}{l:List Expr} (p:Pos) (env:Env),fy Z G es l=Δ->(backTo p (Μ l env)).any (·.1)=Θ
 |[],[],_,_,_=>rfl
 |a::es,e::l,p,env,h=>by have h':(notStar e&&chk Z G a e&&fy Z G es l)=Δ:=h;simp only[e_]at h';rw[eT h'.1.1];have ih:=fS Z G (es:=es) (l:=l) p env h'.2;show(Θ||(backTo p (Μ l env)).any (·.1))=Θ;rw[ih];rfl
 |[],_::_,_,_,h=>by cases h
 |_::_,[],_,_,h=>by cases h
theorem qC {d:D}{v:V}(h:∀S H,HRep X.K S H v d){σ:St}{H:Hp}{Q:VK}{is:List Nat}(q:RD X.K ex is (fun _=>.ok d) σ H Q):Q v H:=by obtain⟨S,τ,_,q⟩:=q;exact q.ok _ _ (.refl _) (h _ _)
theorem xK {e:Expr}{is:List Nat}{f:Ev->Res D}(h:PE X e (RD X.K ex is f))(he:∀whole,isTrue e X.env whole=(do let v <- whole;standAt e.pos;holding [v] (truthy v))):PT X e (RT X.K ex is fun τ=>bnd (f τ) fB):=by intro pins s σ H Q I hw;obtain⟨S,τ,hs,hw⟩:=hw;refine isTrue_plain (thn (h pins s σ H (fun v H'=>∃d,eX H H'/\HRep X.K (nw S H) H' v d/\PO' ex (fB d) fun b=>∀H',eX H H'->Q b H') I ⟨S,τ,hs,(PO'.bnd hw).mono fun d hd v H' e m=>⟨d,e,m,hd⟩⟩) fun v s1 ⟨x,H1,I1,r1,d,e,m,hd⟩=>?_) (he _);exact jw I1 r1 m (hd.mono fun b z=>z H1 e)
end
section
variable {Z:Sg}{CX:CXT}{cl:Nat->List D->Res D}{xp:XK->Hp->Str->Prop}{X:Cx}{ex:Str->Prop}{G:Gm}{K:Frag}{S:Ψ->Prop}{H H1:Hp}{σ:St}{τ:Ev}
theorem fJ {is:List Nat}{f:Ev->Res D}{Kt:D->Prop}{Q:VK}(e:eX H H1)(hs:Slots K S H σ τ is)(h:PO' ex (f τ) Kt)(k:∀x v H2,eX H H2->eX H1 H2->HRep K (nw S H) H2 v x->Kt x->Q v H2):RD K ex is f σ H1 Q:=
 ⟨nw S H,τ,hs.go e,h.mono fun x hx v H2 e2 m=>k x v H2 (e.trans e2) e2 (m.mono (kO e) (.refl _)) hx⟩
theorem iU {is:List Nat}{f:Ev->Res Bool}{Kt:Bool->Prop}{Q:Bool->Hp->Prop}(e:eX H H1)(hs:Slots K S H σ τ is)(h:PO' ex (f τ) Kt)(k:∀x H2,eX H H2->eX H1 H2->Kt x->Q x H2):RT K ex is f σ H1 Q:=
 ⟨nw S H,τ,hs.go e,h.mono fun x hx H2 e2=>k x H2 (e.trans e2) e2 hx⟩
theorem mG {is:List Nat}{f:Ev->Res (List D)}{Kt:List D->Prop}{Q:List V->Hp->Prop}(e:eX H H1)(hs:Slots K S H σ τ is)(h:PO' ex (f τ) Kt)(k:∀x v H2,eX H H2->eX H1 H2->HReps K (nw S H) H2 v x->Kt x->Q v H2):RA K ex is f σ H1 Q:=
 ⟨nw S H,τ,hs.go e,h.mono fun x hx v H2 e2 m=>k x v H2 (e.trans e2) e2 (m.mono (kO e) (.refl _)) hx⟩
theorem sZ {is:List Nat}{f:Ev->Res (Option Int)}{Kt:Option Int->Prop}{Q:Option Int->Hp->Prop}(e:eX H H1)(hs:Slots K S H σ τ is)(h:PO' ex (f τ) Kt)(k:∀x H2,eX H H2->eX H1 H2->Kt x->Q x H2):ROp K ex is f σ H1 Q:=
 ⟨nw S H,τ,hs.go e,h.mono fun x hx H2 e2=>k x H2 (e.trans e2) e2 hx⟩
theorem HRep.later {v:V}{d:D}{H2:Hp}(h:HRep K (L2.nw S H) H1 v d)(e:eX H1 H2):HRep K (L2.nw S H) H2 v d:=h.mono (fun _ z=>z) e
theorem HReps.later {v:List V}{d:List D}{H2:Hp}(h:HReps K (L2.nw S H) H1 v d)(e:eX H1 H2):HReps K (L2.nw S H) H2 v d:=h.mono (fun _ z=>z) e
theorem s_v (g:GOk Z CX cl xp X ex G){i:Nat}{x:Str}{pos:Pos}(h:mD G i x=Δ):PE X (.Name x pos) (RD X.K ex [i] (evR cl (.v i))):=by
 unfold mD at h;rw[e_]at h;have hx:G.N[i]? = Γ x:=f_ h.1;have hk:=g.kd i x hx;have hv:Vis X.env.scope x:=by
  have h2:=h.2;rw[zX,zX]at h2;rcases h2 with(h2|h2)|h2
  ·exact .inl (hk.trans (f_ h2))
  ·exact .inr (.inl (hk.trans (f_ h2)))
  ·exact .inr (.inr (hk.trans (f_ h2)))
 refine e8 (pO (i:=i) (by rw[g.N];exact hx) hv (g.noD i x hx).1 (g.noD i x hx).2) fun σ H Q q=>?_;obtain⟨S,τ,hs,q⟩:=q;rw[xD]at q;cases z:eZ τ i with
 |none=>rw[z]at q;exact q.no.elim
 |some d=>rw[z]at q;obtain⟨v,h1,h2⟩:=hs i (by simp) d z;exact⟨v,h1,q.ok _ _ (.refl _) h2.nw⟩
theorem s_c {d:D}{k:Const}{j:Nat}{pos:Pos}(h:xI d k=Δ):PE X (.Constant k j pos) (RD X.K ex [] (evR cl (.c d))):=by
 induction d using zD with
 |non=>
  cases k with
  |none=>exact e8 u5 fun σ H Q q=>qC (fun _ _=>.non) q
  |_=>cases h
 |bl b=>
  cases k with
  |bool b'=>have e:b=b':=f_ h;subst e;exact e8 xb fun σ H Q q=>qC (fun _ _=>.bl _) q
  |_=>cases h
 |int b=>
  cases k with
  |int b'=>have e:b=b':=f_ h;subst e;exact e8 u0 fun σ H Q q=>qC (fun _ _=>.int _) q
  |_=>cases h
 |str b=>
  cases k with
  |str b'=>have e:b=b':=f_ h;subst e;exact e8 jA fun σ H Q q=>qC (fun _ _=>.str _) q
  |_=>cases h
 |tup _=>cases k<;>cases h
 |lst _ _=>cases k<;>cases h
 |exc _=>cases k<;>cases h
 |dct o ks ds=>cases k<;>cases h
theorem s_g (g:GOk Z CX cl xp X ex G){n:Nat}{d:D}{x:Str}{pos:Pos}(h:fx Z G n x=Δ)(hk:Z.kst.any (fun p=>p.1 == n&&pA p.2 d)=Δ):PE X (.Name x pos) (RD X.K ex [] (evR cl (.g n d))):=by obtain⟨h1,h2,h3,h4⟩:=gr g h;rw[List.any_eq_true]at hk;obtain⟨⟨m,d'⟩,hm,hk⟩:=hk;rw[e_]at hk;have e1:m=n:=f_ hk.1;have e2:d'=d:=oi hk.2;subst e1 e2;obtain⟨u,v,hu,r,hr⟩:=g.cst m d' x hm h2;exact e8 (nP h1 hu r h4) fun σ H Q q=>qC hr q
theorem xM {op:BOp}{a b:Expr}{pos:Pos}{va vb:List Nat}{fa fb:Ev->Res D}(ha:PE X a (RD X.K ex va fa))(hb:PE X b (RD X.K ex vb fb)) :
  PE X (.BinOp a (bop op) b pos) (RD X.K ex (va++vb) fun τ=>bnd (fa τ) fun x=>bnd (fb τ) fun y=>opB op x y):=by
 refine e8 (pU (vF (ex:=ex) op) ha hb) fun σ H Q ⟨S,τ,hs,q⟩=>?_;refine fJ (.refl _) hs.left (PO'.bnd q) fun x v H1 e1 _ m1 q1=>?_;refine fJ e1 hs.right (PO'.bnd q1) fun y w H2 e2 e2' m2 q2=>?_;exact⟨nw S H,x,y,m1.later e2',m2,q2.mono fun d hd=>hd.fit e2⟩
theorem xN (g:GOk Z CX cl xp X ex G){op:COp}{a b:Expr}{pos:Pos}{va vb:List Nat}{fa fb:Ev->Res D}(ha:PE X a (RD X.K ex va fa))(hb:PE X b (RD X.K ex vb fb))(hm:behindInMarks (cop op) b=Θ) :
  PE X (.Compare a [cop op] [b] pos) (RD X.K ex (va++vb) fun τ=>bnd (fa τ) fun x=>bnd (fb τ) fun y=>bnd (opC op x y) fun r=>.ok (.bl r))/\
  PT X (.Compare a [cop op] [b] pos) (RT X.K ex (va++vb) fun τ=>bnd (bnd (fa τ) fun x=>bnd (fb τ) fun y=>bnd (opC op x y) fun r=>.ok (.bl r)) fB):=by
 refine⟨e8 (sj (jb (ex:=ex) g.un op) ha hb hm) fun σ H Q ⟨S,τ,hs,q⟩=>?_,jF (sk (jb (ex:=ex) g.un op) ha hb hm) fun σ H Q ⟨S,τ,hs,q⟩=>?_⟩
 ·refine fJ (.refl _) hs.left (PO'.bnd q) fun x v H1 e1 _ m1 q1=>?_;refine fJ e1 hs.right (PO'.bnd q1) fun y w H2 e2 e2' m2 q2=>?_;exact⟨nw S H,x,y,m1.later e2',m2,(PO'.bnd q2).mono fun d hd=>hd.ok _ _ e2 (.bl _)⟩
 ·refine fJ (.refl _) hs.left (PO'.bnd (PO'.bnd q)) fun x v H1 e1 _ m1 q1=>?_;refine fJ e1 hs.right (PO'.bnd q1) fun y w H2 e2 e2' m2 q2=>?_;exact⟨nw S H,x,y,m1.later e2',m2,(PO'.bnd q2).mono fun d hd=>⟨d,rfl,hd.ok.ok H2 e2⟩⟩
theorem td (g:GOk Z CX cl xp X ex G){op op':COp}{a b c:Expr}{pos:Pos}{va vb vc:List Nat}{fa fb fc:Ev->Res D}(ha:PE X a (RD X.K ex va fa))(hb:PE X b (RD X.K ex vb fb))(hc:PE X c (RD X.K ex vc fc))
  (hm:lastMarks [cop op,cop op'] [b,c]=Θ) :
  PE X (.Compare a [cop op,cop op'] [b,c] pos) (RD X.K ex (va++vb++vc) fun τ=>bnd (fa τ) fun x=>bnd (fb τ) fun y=>bnd (opC op x y) fun r=>if r=Δ then bnd (fc τ) fun z=>bnd (opC op' y z) fun r'=>.ok (.bl r') else .ok (.bl Θ))/\
  PT X (.Compare a [cop op,cop op'] [b,c] pos) (RT X.K ex (va++vb++vc) fun τ=>bnd (bnd (fa τ) fun x=>bnd (fb τ) fun y=>bnd (opC op x y) fun r=>if r=Δ then bnd (fc τ) fun z=>bnd (opC op' y z) fun r'=>.ok (.bl r') else .ok (.bl Θ)) fB):=by
 refine⟨e8 (pW (jb (ex:=ex) g.un op) (jb (ex:=ex) g.un op') ha hb hc hm) fun σ H Q ⟨S,τ,hs,q⟩=>?_,jF (pX (jb (ex:=ex) g.un op) (jb (ex:=ex) g.un op') ha hb hc hm) fun σ H Q ⟨S,τ,hs,q⟩=>?_⟩
 ·refine fJ (.refl _) hs.left.left (PO'.bnd q) fun x v H1 e1 _ m1 q1=>?_;refine fJ e1 hs.left.right (PO'.bnd q1) fun y w H2 e2 e2' m2 q2=>?_;refine⟨nw S H,x,y,m1.later e2',m2,(PO'.bnd q2).mono fun d hd=>⟨d,rfl,?_⟩⟩
  induction d using zB with
  |false=>rw[c_ i_]at hd ⊢;exact hd.ok _ _ e2 (.bl _)
  |true=>rw[d_ rfl]at hd ⊢;refine fJ e2 hs.right (PO'.bnd hd) fun z w' H3 e3 e3' m3 q3=>?_;exact⟨nw S H,y,z,m2.later e3',m3,(PO'.bnd q3).mono fun d hd=>hd.ok _ _ e3 (.bl _)⟩
 ·refine fJ (.refl _) hs.left.left (PO'.bnd (PO'.bnd q)) fun x v H1 e1 _ m1 q1=>?_;refine fJ e1 hs.left.right (PO'.bnd q1) fun y w H2 e2 e2' m2 q2=>?_;refine⟨nw S H,x,y,m1.later e2',m2,(PO'.bnd q2).mono fun d hd=>⟨d,rfl,?_⟩⟩
  induction d using zB with
  |false=>rw[c_ i_]at hd ⊢;exact⟨Θ,rfl,hd.ok.ok _ e2⟩
  |true=>rw[d_ rfl]at hd ⊢;refine fJ e2 hs.right (PO'.bnd hd) fun z w' H3 e3 e3' m3 q3=>?_;exact⟨nw S H,y,z,m2.later e3',m3,(PO'.bnd q3).mono fun d hd=>⟨d,rfl,hd.ok.ok _ e3⟩⟩
theorem uv {a b:Expr}{rest:List Expr}{pos:Pos}{va vb:List Nat}{fa fb:Ev->Res D}(ha:PE X a (RD X.K ex va fa))(hb:PE X (.BoolOp .And (b::rest) pos) (RD X.K ex vb fb)) :
  PE X (.BoolOp .And (a::b::rest) pos) (RD X.K ex (va++vb) fun τ=>bnd (fa τ) fun x=>bnd (fB x) fun r=>if r=Δ then fb τ else .ok x):=by
 intro pins s σ H Q I h;obtain⟨S,τ,hs,q⟩:=h;refine BoolOp_and (thn (ha pins s σ H (fun v H'=>∃d,eX H H'/\HRep X.K (nw S H) H' v d/\_) I (fJ (.refl _) hs.left (PO'.bnd q) fun x v H1 e1 _ m1 q1=>⟨x,e1,m1,q1⟩)) fun v s1 ⟨x,H1,I1,r1,d,e1,m1,q1⟩=>?_);refine thn (jw (Q:=fun b H'=>H'=H1/\PO' ex (if b=Δ then fb τ else .ok d) (Kk X.K S H Q)) I1 r1 m1 ((PO'.bnd q1).mono fun b z=>⟨rfl,z⟩)) fun c s2 ⟨H2,I2,e2,q2⟩=>?_;subst e2
 induction c using zB with
 |true=>rw[d_ rfl]at q2 ⊢;exact hb pins s2 σ _ Q I2 (fJ e1 hs.right q2 fun y w H3 e3 _ m3 q3=>q3 _ _ e3 m3)
 |false=>rw[c_ i_]at q2 ⊢;exact⟨x,_,I2,r1,q2.ok _ _ e1 m1⟩
theorem xO {a b:Expr}{rest:List Expr}{pos:Pos}{va vb:List Nat}{fa fb:Ev->Res D}(ha:PE X a (RD X.K ex va fa))(hb:PE X (.BoolOp .Or (b::rest) pos) (RD X.K ex vb fb)) :
  PE X (.BoolOp .Or (a::b::rest) pos) (RD X.K ex (va++vb) fun τ=>bnd (fa τ) fun x=>bnd (fB x) fun r=>if r=Δ then .ok x else fb τ):=by
 intro pins s σ H Q I h;obtain⟨S,τ,hs,q⟩:=h;refine BoolOp_or (thn (ha pins s σ H (fun v H'=>∃d,eX H H'/\HRep X.K (nw S H) H' v d/\_) I (fJ (.refl _) hs.left (PO'.bnd q) fun x v H1 e1 _ m1 q1=>⟨x,e1,m1,q1⟩)) fun v s1 ⟨x,H1,I1,r1,d,e1,m1,q1⟩=>?_);refine thn (jw (Q:=fun b H'=>H'=H1/\PO' ex (if b=Δ then .ok d else fb τ) (Kk X.K S H Q)) I1 r1 m1 ((PO'.bnd q1).mono fun b z=>⟨rfl,z⟩)) fun c s2 ⟨H2,I2,e2,q2⟩=>?_;subst e2
 induction c using zB with
 |false=>rw[c_ i_]at q2 ⊢;exact hb pins s2 σ _ Q I2 (fJ e1 hs.right q2 fun y w H3 e3 _ m3 q3=>q3 _ _ e3 m3)
 |true=>rw[d_ rfl]at q2 ⊢;exact⟨x,_,I2,r1,q2.ok _ _ e1 m1⟩
theorem xP {a:Expr}{pos:Pos}{va:List Nat}{fa:Ev->Res D}(ha:PE X a (RD X.K ex va fa))(ht:PT X a (RT X.K ex va fun τ=>bnd (fa τ) fB)) :
  PE X (.UnaryOp .Not a pos) (RD X.K ex va fun τ=>bnd (fa τ) fun x=>bnd (fB x) fun r=>.ok (.bl !r))/\PT X (.UnaryOp .Not a pos) (RT X.K ex va fun τ=>bnd (bnd (fa τ) fun x=>bnd (fB x) fun r=>.ok (.bl !r)) fB):=by
 constructor
 ·intro pins s σ H Q I h;obtain⟨S,τ,hs,q⟩:=h;refine UnaryOp_ (thn (ha pins s σ H (fun v H'=>∃d,eX H H'/\HRep X.K (nw S H) H' v d/\_) I (fJ (.refl _) hs (PO'.bnd q) fun x v H1 e1 _ m1 q1=>⟨x,e1,m1,q1⟩)) fun v s1 ⟨x,H1,I1,r1,d,e1,m1,q1⟩=>?_);refine not_of (thn (jw (Q:=fun b H'=>Q (.bl !b) H') I1 r1 m1 ((PO'.bnd q1).mono fun b z=>z.ok _ _ e1 (.bl _))) fun c s2 ⟨H2,I2,q2⟩=>⟨.bl !c,H2,I2,rfl,q2⟩)
 ·refine jF (u9 ht) fun σ H Q ⟨S,τ,hs,q⟩=>?_;exact iU (.refl _) hs (PO'.mk ((PO'.bnd (PO'.bnd q)).mono fun x hx=>(PO'.bnd hx).mono fun r hr=>hr.ok.ok)) fun x H2 e2 _ k=>k H2 e2
theorem qD {e:Expr}{pos:Pos}{op:BoolOp}{es:List Expr}{t:TT}(h:PT X (.BoolOp op es pos) t):PW X (.BoolOp op es pos) t:=fun _ pins s σ H Q I q=>h pins s σ H Q I q
theorem uw {a b:Expr}{rest:List Expr}{pos:Pos}{va vb:List Nat}{fa fb:Ev->Res D}(ha:PT X a (RT X.K ex va fun τ=>bnd (fa τ) fB))(hb:PW X (.BoolOp .And (b::rest) pos) (RT X.K ex vb fun τ=>bnd (fb τ) fB)) :
  PT X (.BoolOp .And (a::b::rest) pos) (RT X.K ex (va++vb) fun τ=>bnd (bnd (fa τ) fun x=>bnd (fB x) fun r=>if r=Δ then fb τ else .ok x) fB):=by
 refine jF (u7 ha hb).pt fun σ H Q ⟨S,τ,hs,q⟩=>?_;refine iU (.refl _) hs.left (Kt:=fun r=>PO' ex (if r=Δ then bnd (fb τ) fB else .ok Θ) fun b=>∀H',eX H H'->Q b H') (PO'.mk ((PO'.bnd (PO'.bnd q)).mono fun x hx=>(PO'.bnd hx).eq.mono fun r hr=>?_)) fun r H2 e2 _ k=>?_
 ·obtain⟨er,hr⟩:=hr
  induction r using zB with
  |true=>rw[d_ rfl]at hr ⊢;exact PO'.mk hr
  |false=>rw[c_ i_]at hr ⊢;have hr':PO' ex (fB x) _:=hr;rw[er]at hr';exact hr'
 ·induction r using zB with
  |true=>rw[d_ rfl]at k ⊢;exact iU e2 hs.right k fun b H3 e3 _ z=>z H3 e3
  |false=>rw[c_ i_]at k ⊢;exact k.ok H2 e2
theorem xQ {a b:Expr}{rest:List Expr}{pos:Pos}{va vb:List Nat}{fa fb:Ev->Res D}(ha:PT X a (RT X.K ex va fun τ=>bnd (fa τ) fB))(hb:PW X (.BoolOp .Or (b::rest) pos) (RT X.K ex vb fun τ=>bnd (fb τ) fB)) :
  PT X (.BoolOp .Or (a::b::rest) pos) (RT X.K ex (va++vb) fun τ=>bnd (bnd (fa τ) fun x=>bnd (fB x) fun r=>if r=Δ then .ok x else fb τ) fB):=by
 refine jF (xh ha hb).pt fun σ H Q ⟨S,τ,hs,q⟩=>?_;refine iU (.refl _) hs.left (Kt:=fun r=>PO' ex (if r=Δ then .ok Δ else bnd (fb τ) fB) fun b=>∀H',eX H H'->Q b H') (PO'.mk ((PO'.bnd (PO'.bnd q)).mono fun x hx=>(PO'.bnd hx).eq.mono fun r hr=>?_)) fun r H2 e2 _ k=>?_
 ·obtain⟨er,hr⟩:=hr
  induction r using zB with
  |false=>rw[c_ i_]at hr ⊢;exact PO'.mk hr
  |true=>rw[d_ rfl]at hr ⊢;have hr':PO' ex (fB x) _:=hr;rw[er]at hr';exact hr'
 ·induction r using zB with
  |false=>rw[c_ i_]at k ⊢;exact iU e2 hs.right k fun b H3 e3 _ z=>z H3 e3
  |true=>rw[d_ rfl]at k ⊢;exact k.ok H2 e2
theorem xR {c a b:Expr}{pos:Pos}{vc va vb:List Nat}{fc fa fb:Ev->Res D}(hc:PT X c (RT X.K ex vc fun τ=>bnd (fc τ) fB))(ha:PE X a (RD X.K ex va fa))(hb:PE X b (RD X.K ex vb fb))
  (ta:PT X a (RT X.K ex va fun τ=>bnd (fa τ) fB)) (tb:PT X b (RT X.K ex vb fun τ=>bnd (fb τ) fB)) :
  PE X (.IfExp c a b pos) (RD X.K ex (vc++va++vb) fun τ=>bnd (fc τ) fun x=>bnd (fB x) fun r=>if r=Δ then fa τ else fb τ)/\
  PT X (.IfExp c a b pos) (RT X.K ex (vc++va++vb) fun τ=>bnd (bnd (fc τ) fun x=>bnd (fB x) fun r=>if r=Δ then fa τ else fb τ) fB):=by
 constructor
 ·refine e8 (ma hc ha hb) fun σ H Q ⟨S,τ,hs,q⟩=>?_;refine iU (.refl _) hs.left.left (PO'.mk ((PO'.bnd q).mono fun x hx=>PO'.bnd hx)) fun r H2 e2 _ k=>?_
  induction r using zB with
  |true=>rw[d_ rfl]at k ⊢;exact fJ e2 hs.left.right k fun y w H3 e3 _ m3 q3=>q3 _ _ e3 m3
  |false=>rw[c_ i_]at k ⊢;exact fJ e2 hs.right k fun y w H3 e3 _ m3 q3=>q3 _ _ e3 m3
 ·intro pins s σ H Q I h;obtain⟨S,τ,hs,q⟩:=h
  refine isTrue_IfExp (thn (hc pins s σ H (fun r H2=>eX H H2/\PO' ex (if r=Δ then fa τ else fb τ) fun d=>PO' ex (fB d) fun b=>∀H',eX H H'->Q b H') I
   (iU (.refl _) hs.left.left (PO'.mk ((PO'.bnd (PO'.bnd q)).mono fun x hx=>PO'.bnd hx)) fun r H2 e2 _ k=>⟨e2,k⟩)) fun d s1 ⟨H1,I1,e1,q1⟩=>?_)
  induction d using zB with
  |true=>rw[d_ rfl]at q1;exact ta pins s1 σ H1 Q I1 (iU e1 hs.left.right (PO'.mk q1) fun b H3 e3 _ z=>z H3 e3)
  |false=>rw[c_ i_]at q1;exact tb pins s1 σ H1 Q I1 (iU e1 hs.right (PO'.mk q1) fun b H3 e3 _ z=>z H3 e3)
theorem xS {es:List Expr}{n:Nat}{pos:Pos}{va:List Nat}{fa:Ev->Res (List D)}(h:PA X es (RA X.K ex va fa)):PE X (.Tuple es n pos) (RD X.K ex va fun τ=>bnd (fa τ) fun ds=>grd (fL ds.length) (.ok (.tup ds))):=by refine e8 (nh h) fun σ H Q ⟨S,τ,hs,q⟩=>?_;refine mG (.refl _) hs (PO'.bnd q) fun ds vs H1 e1 _ m1 q1=>?_;obtain⟨g,q1⟩:=PO'.grd q1;exact⟨by rw[m1.length];exact fI g,fun p hp=>q1.ok _ _ (e1.trans (.upd hp)) ((vE hp m1).mono (kO e1) (.refl _))⟩
theorem xT {es:List Expr}{pos:Pos}{va:List Nat}{fa:Ev->Res (List D)}(h:PA X es (RA X.K ex va fa)):PE X (.List es pos) (RD X.K ex va fun τ=>bnd (fa τ) fun ds=>grd (fL ds.length) (.ok (.lst Δ ds))):=by refine e8 (p4 h) fun σ H Q ⟨S,τ,hs,q⟩=>?_;refine mG (.refl _) hs (PO'.bnd q) fun ds vs H1 e1 _ m1 q1=>?_;obtain⟨g,q1⟩:=PO'.grd q1;exact⟨by rw[m1.length];exact fI g,fun p hp=>q1.ok _ _ (e1.trans (.upd hp)) ((lD hp m1).mono (kO e1) (.refl _))⟩
theorem xU {a b:Expr}{pos:Pos}{va vb:List Nat}{fa fb:Ev->Res D}(ha:PE X a (RD X.K ex va fa))(hb:PE X b (RD X.K ex vb fb))(hp:jS b=Δ) :
  PE X (.Subscript a b pos) (RD X.K ex (va++vb) fun τ=>bnd (fa τ) fun x=>bnd (fb τ) fun y=>fO x y):=by
 refine e8 (xw (sR (ex:=ex)) ha hb fun o i=>by cases b<;>first|rfl|cases hp) fun σ H Q ⟨S,τ,hs,q⟩=>?_;refine fJ (.refl _) hs.left (PO'.bnd q) fun x v H1 e1 _ m1 q1=>?_;refine fJ e1 hs.right (PO'.bnd q1) fun y w H2 e2 e2' m2 q2=>?_;exact⟨nw S H,x,y,m1.later e2',m2,q2.mono fun d hd=>hd.fit e2⟩
theorem zw {a:Expr}{lo hi:Option Expr}{pos p2:Pos}{va vl vh:List Nat}{fa:Ev->Res D}{fl fh:Ev->Res (Option Int)}(ha:PE X a (RD X.K ex va fa))(hl:PO X lo (ROp X.K ex vl fl))(hh:PO X hi (ROp X.K ex vh fh)) :
  PE X (.Subscript a (.Slice lo hi Ξ p2) pos) (RD X.K ex (va++vl++vh) fun τ=>bnd (fa τ) fun x=>bnd (fl τ) fun l=>bnd (fh τ) fun h=>km x l h):=by
 refine e8 (mf (sS (ex:=ex)) ha hl hh) fun σ H Q ⟨S,τ,hs,q⟩=>?_;refine fJ (.refl _) hs.left.left (PO'.bnd q) fun x v H1 e1 _ m1 q1=>?_;refine sZ e1 hs.left.right (PO'.bnd q1) fun l H2 e2 e2' q2=>?_;refine sZ e2 hs.right (PO'.bnd q2) fun h H3 e3 e3' q3=>?_;exact⟨nw S H,x,m1.later (e2'.trans e3'),q3.mono fun d hd=>hd.fit e3⟩
theorem s_call (g:GOk Z CX cl xp X ex G){f:Nat}{x:Str}{p pos:Pos}{es:List IR}{args:List Expr}(h1:fx Z G f x=Δ)(h2:Z.fnc G f=Δ)(hst:fy Z G es args=Δ)(h:PA X args (RA X.K ex (eW es) (fq cl es))) :
  PE X (.Call (.Name x p) args [] pos) (RD X.K ex (eW es) fun τ=>bnd (fq cl es τ) fun ds=>cl f (ers ds)):=by
 obtain⟨k1,k2,k3,k4⟩:=gr g h1;obtain⟨k,fa',fd,ps,hm,hkp,hb,F,hr,hlen⟩:=(g.fns f (jd h2).1 (jd h2).2 x k2).ex;obtain⟨E,hP,hE⟩:=g.pss;intro pins s σ H Q I q;obtain⟨S,τ,hs,q⟩:=q;have fin:∀(us:List Φ) (s1:Ω) (vs:List V) (H1:Hp) (ds:List D),Inv X pins σ H1 s1->Vals vs us->eX H H1->HReps X.K (nw S H) H1 vs ds->PO' ex (cl f (ers ds)) (Kk X.K S H Q)->Ι (Κ X.prog X.w) X.A (call (.ref fa') us) (EP X pins σ Q) X.xe s1:=by
  intro us s1 vs H1 ds I1 r e m q1;have hl:=hlen ex _ _ q1;rw[gi]at hl;refine lK F hr hb hP g.hid I1 r (by rw[m.length];exact hl) (Fc:=fun a=>nw S H a/\H1 a≠Ξ) (fun a z=>z.2) m.tight ?_;cases z:cl f (ers ds) with
  |error er=>
   rw[z]at q1;cases er with
   |stuck=>exact q1.no.elim
   |exc c=>exact hE c _ q1
  |ok d=>
   rw[z]at q1;intro v H' F' fv o;refine q1.ok _ _ (e.trans o.same) (o.rep.read (fun a ha=>?_) fun a ha=>?_)
   ·rcases o.out a ha with z|z
    ·exact z.1
    ·exact .inr (e.free z)
   ·exact .inr (e.free (o.new a ha))
 refine Au (gn I k1 hm ?_ k4)
 induction args using zL with
 |nil=>
  induction es using zL with
  |cons _ _=>cases hst
  |nil=>exact PySem.W.callWith_K0 I.kIn hkp (fin [] s [] H [] I .nil (.refl _) .nil q)
 |cons e l=>
  induction es using zL with
  |nil=>cases hst
  |cons a es=>have hst':(notStar e&&chk Z G a e&&fy Z G es l)=Δ:=hst;simp only[e_]at hst';refine PySem.W.callWith_K (h₀:=X.base) I.ok.mod.kin hkp (thn (h pos pins s σ H (fun vs H1=>∃ds,eX H H1/\HReps X.K (nw S H) H1 vs ds/\PO' ex (cl f (ers ds)) (Kk X.K S H Q)) I ⟨S,τ,hs,(PO'.bnd q).mono fun ds hd vs H1 e m=>⟨ds,e,m,hd⟩⟩) fun us s1 ⟨vs,H1,I1,r,ds,e,m,q1⟩=>⟨I1.kIn,?_⟩) (eT hst'.1.1 l X.env) (fS Z G (es:=es) pos X.env hst'.2);exact fin us s1 vs H1 ds I1 r e m q1
theorem zx (g:GOk Z CX cl xp X ex G){f:Bi}{p pos:Pos}{es:List IR}{a:Expr}{args:List Expr}(hg:G.glc (kN f)=Δ)(hst:fy Z G es (a::args)=Δ)(h:PA X (a::args) (RA X.K ex (eW es) (fq cl es))) :
  PE X (.Call (.Name (gZ f) p) (a::args) [] pos) (RD X.K ex (eW es) fun τ=>bnd (fq cl es τ) fun ds=>gx f ds):=by
 obtain⟨k1,k2,k3,k4⟩:=iT g (qy f) (nA hg)
 induction es using zL with
 |nil=>cases hst
 |cons b es=>
  have hst':(notStar a&&chk Z G b a&&fy Z G es args)=Δ:=hst;simp only[e_]at hst';have mono:∀σ H Q,RD X.K ex (eW (b::es)) (fun τ=>bnd (fq cl (b::es) τ) fun ds=>gx f ds) σ H Q->tCB (rBi X.K ex f) (RA X.K ex (eW (b::es)) (fq cl (b::es))) σ H Q:=by rintro σ H Q ⟨S,τ,hs,q⟩;refine mG (.refl _) hs (PO'.bnd q) fun ds vs H1 e1 _ m1 q1=>?_;exact⟨nw S H,ds,m1,q1.mono fun d hd=>hd.fit e1⟩
  refine e8 ?_ mono;have hv:=og f;have hc:=sT (X:=X) (ex:=ex) (g.calm (nB hg)) f;unfold qp at hv hc;cases z:xF f with
  |true=>rw[z,d_ rfl]at hv hc;exact kH hc k1 k2 hv h k3 k4 (eT hst'.1.1 args X.env) (fS Z G (es:=es) pos X.env hst'.2)
  |false=>rw[z,c_ i_]at hv hc;exact iM hc k1 k2 hv h k3 k4 (eT hst'.1.1 args X.env) (fS Z G (es:=es) pos X.env hst'.2)
noncomputable def kdV:Kd->V
 |.str=>.ty "str" |.int=>.ty "int" |.bool=>.ty "bool" |.list=>.ty "list" |.tuple=>.ty "tuple"
theorem oj (k:Kd):RelV (kdV k) (qt k):=by cases k<;>rfl
theorem qE (k:Kd):f6 X (.builtin "isinstance") (fun xs H Q=>∃S x d,xs=[x,kdV k]/\HRep X.K S H x d/\ll d=Δ/\Q (.bl (iO k d)) H):=by
 intro pins s σ H xs us Q I r h;obtain⟨S,x,d,rfl,m,hn,q⟩:=h;obtain⟨u,w',rfl,r1,r2⟩:=vals2 r;have e:w'=qt k:=by have:=r2.abs;have h2:=(oj k).abs;cases k<;>(revert r2;intro r2;exact r2)
 subst e;exact sW I r1 m k hn q
theorem xV (g:GOk Z CX cl xp X ex G){k:Kd}{e:Expr}{p p' pos:Pos}{va:List Nat}{fa:Ev->Res D}(hg:G.gl.contains 14=Δ)(hk:G.gl.contains (oh k)=Δ)(hn:notStar e=Δ)(ha:PE X e (RD X.K ex va fa)) :
  PE X (.Call (.Name "isinstance" p) [e,.Name (iI k) p'] [] pos) (RD X.K ex va fun τ=>bnd (fa τ) fun x=>grd (ll x) (.ok (.bl (iO k x)))):=by
 obtain⟨k1,k2,k3,k4⟩:=iT g (show fT[14]? = Γ ("isinstance" : Str) from rfl) hg;obtain⟨j1,j2,j3,j4⟩:=iT g (vK k) hk;have pa:PA X [e,.Name (iI k) p'] (jE (RD X.K ex va fa) (jE (tC (kdV k)) pZ)):=fM ha (fM (nQ j1 j2 (sU k) (oj k) j3 j4) gK rfl) (eT hn _ _);refine e8 (iM (qE k) k1 k2 PyProof.Rows.boot_isinstance pa k3 k4 (eT hn _ _) rfl) fun σ H Q ⟨S,τ,hs,q⟩=>?_;refine fJ (.refl _) hs (PO'.bnd q) fun x v H1 e1 _ m1 q1=>?_;obtain⟨gd,q1⟩:=PO'.grd q1;exact⟨nw S H,v,x,rfl,m1,gd,q1.ok _ _ e1 (.bl _)⟩
theorem qF (g:GOk Z CX cl xp X ex G){n:Nat}{z:Str}{p:Pos}(h:fx Z G n z=Δ)(hc:Z.cls.contains n=Δ):∃v,CV X z v/\PE X (.Name z p) (tC v):=by
 obtain⟨k1,k2,k3,k4⟩:=gr g h;obtain⟨v,hv⟩:=g.xcv n (by simpa using hc) z k2;refine⟨v,hv,?_⟩;rcases hv with⟨C,rfl,h1⟩|⟨T,rfl,h1,h2⟩
 ·exact nP k1 h1 rfl k4
 ·exact nQ k1 h1 h2 rfl k3 k4
theorem mH {tb:List (Str×Bool)}{d:D}{k:D->Prop}(h:PO' ex (vD tb d) k):∃c b,d=.exc c/\tb.lookup c=Γ b/\k (.bl b):=by
 induction d using zD with
 |exc c=>
  have h':PO' ex (match tb.lookup c with|some b=>.ok (.bl b)|none=>stk) k:=h;cases z:tb.lookup c with
  |none=>rw[z]at h';exact h'.no.elim
  |some b=>rw[z]at h';exact⟨c,b,rfl,z,h'.ok⟩
 |_=>exact h.no.elim
theorem HRep.excR {K:Frag}{S:Ψ->Prop}{H:Hp}{v:V}{c:Str}(h:HRep K S H v (.exc c)):∃a,v=.ref a/\SqE K H a (.inr c):=by
 cases h with
 |exc h=>exact⟨_,rfl,h⟩
theorem pC {v2:V}{z:Str}(hv:CV X z v2):f6 X (.builtin "isinstance") (fun xs H Q=>∃a c C b,xs=[.ref a,v2]/\SqE X.K H a (.inr c)/\PySem.W.nsIn X.K Ζ c=Γ (Γ (.ref C))/\ExcAt X.K C/\PySem.W.kitOne X.K (.ref C) (vv v2)=Γ b/\Q (.bl b) H):=by intro pins s σ H xs us Q I r h;obtain⟨a,c,C,b,rfl,h1,h2,h3,h4,q⟩:=h;obtain⟨u,w',rfl,r1,r2⟩:=vals2 r;cases r1;rw[hv.rel r2];exact sX I h1 h2 h3 h4 q
theorem pD {v1 v2:V}{z y:Str}(hv:CV X z v1)(hw:CV X y v2):f6 X (.builtin "isinstance") (fun xs H Q=>∃a p c C b,xs=[.ref a,.ref p]/\SqE X.K H a (.inr c)/\SqT X.K H p [v1,v2]/\PySem.W.nsIn X.K Ζ c=Γ (Γ (.ref C))/\ExcAt X.K C/\PySem.W.kitAny X.K (.ref C) [vv v1,vv v2]=Γ b/\Q (.bl b) H):=by intro pins s σ H xs us Q I r h;obtain⟨a,p,c,C,b,rfl,h1,hp,h2,h3,h4,q⟩:=h;obtain⟨u,w',rfl,r1,r2⟩:=vals2 r;cases r1;cases r2;exact sY I h1 h2 h3 hv hw hp h4 q
theorem lookup_mem {tb:List (Str×Bool)}{c:Str}{b:Bool}(h:tb.lookup c=Γ b):(c,b)∈tb:=by
 induction tb with
 |nil=>cases h
 |cons p r ih=>
  rw[Aq]at h;split at h
  ·rename_i hb
   cases h;have:c=p.1:=f_ hb;subst this;exact List.mem_cons_self ..
  ·exact s_ _ (ih h)
theorem xW (g:GOk Z CX cl xp X ex G){ns:List Nat}{tb:List (Str×Bool)}{e y:Expr}{p pos:Pos}{va:List Nat}{fa:Ev->Res D}(hg:G.gl.contains 14=Δ)(hn:notStar e=Δ)(hc:qB Z G ns y=Δ)(ht:tb.all (vM Z ns)=Δ)(ha:PE X e (RD X.K ex va fa)) :
  PE X (.Call (.Name "isinstance" p) [e,y] [] pos) (RD X.K ex va fun τ=>bnd (fa τ) (vD tb)):=by
 obtain⟨k1,k2,k3,k4⟩:=iT g (show fT[14]? = Γ ("isinstance" : Str) from rfl) hg;rw[zY]at ht
 induction ns using zL with
 |nil=>exact dA hc
 |cons n r=>
 induction r using zL with
 |nil=>
  obtain⟨z,p',rfl,hc'⟩:=jU (show nmv (fun z=>fx Z G n z&&Z.cls.contains n) y=Δ from hc);rw[e_]at hc';obtain⟨v,hv,pv⟩:=qF (p:=p') g hc'.1 hc'.2;obtain⟨_,j2,_,_⟩:=gr g hc'.1;have pa:PA X [e,.Name z p'] (jE (RD X.K ex va fa) (jE (tC v) pZ)):=fM ha (fM pv gK rfl) (eT hn _ _);refine e8 (iM (pC hv) k1 k2 PyProof.Rows.boot_isinstance pa k3 k4 (eT hn _ _) rfl) fun σ H Q ⟨S,τ,hs,q⟩=>?_;refine fJ (.refl _) hs (PO'.bnd q) fun x w H1 e1 _ m1 q1=>?_;obtain⟨c,b,rfl,hl,q2⟩:=mH q1;obtain⟨a,rfl,hx⟩:=m1.excR;have hm:(c,n,b)∈Z.xt:=by simpa using show Z.xt.contains (c,n,b)=Δ from ht (c,b) (lookup_mem hl)
  obtain⟨C,h1,h2,h3⟩:=g.xcl c n b z hm j2;exact⟨a,c,C,b,rfl,hx,h1,h2,h3 v hv,q2 _ _ e1 (.bl _)⟩
 |cons m r=>
 induction r using zL with
 |cons _ _=>exact dA hc
 |nil=>
  obtain⟨es,tn,tpos,rfl,hc⟩:=vL (show tpv (xJ fun a b=>nmv (fun z=>fx Z G n z&&Z.cls.contains n) a&&nmv (fun y=>fx Z G m y&&Z.cls.contains m) b) y=Δ from hc)
  induction es using zL with
  |nil=>exact dA hc
  |cons z1 es=>
  induction es using zL with
  |nil=>exact dA hc
  |cons z2 es=>
  induction es using zL with
  |cons _ _=>exact dA hc
  |nil=>
  obtain⟨hc1,hc2⟩:=Ax.mp (show(nmv (fun z=>fx Z G n z&&Z.cls.contains n) z1&&nmv (fun y=>fx Z G m y&&Z.cls.contains m) z2)=Δ from hc);obtain⟨z,p',rfl,hd1⟩:=jU hc1;obtain⟨y,p2,rfl,hd2⟩:=jU hc2;rw[e_]at hd1 hd2;obtain⟨v,hv,pv⟩:=qF (p:=p') g hd1.1 hd1.2;obtain⟨w,hw,pw⟩:=qF (p:=p2) g hd2.1 hd2.2;obtain⟨_,j2,_,_⟩:=gr g hd1.1;obtain⟨_,i2,_,_⟩:=gr g hd2.1;have pt:PE X (.Tuple [.Name z p',.Name y p2] tn tpos) _:=nh (fM pv (fM pw gK rfl) rfl);have pa:=fM ha (fM pt gK rfl) (eT hn _ _);refine e8 (iM (pD hv hw) k1 k2 PyProof.Rows.boot_isinstance pa k3 k4 (eT hn _ _) rfl) fun σ H Q ⟨S,τ,hs,q⟩=>?_;refine fJ (.refl _) hs (PO'.bnd q) fun x w' H1 e1 _ m1 q1=>?_;obtain⟨c,b,rfl,hl,q2⟩:=mH q1;obtain⟨a,rfl,hx⟩:=m1.excR;have hm':(Z.xt.contains (c,n,Θ)&&Z.xt.contains (c,m,b))=Δ:=ht (c,b) (lookup_mem hl);rw[e_]at hm';obtain⟨C,h1,h2,h3⟩:=g.xcl c n Θ z (by simpa using hm'.1) j2;obtain⟨C',h1',h2',h3'⟩:=g.xcl c m b y (by simpa using hm'.2) i2;rw[h1]at h1';cases h1';refine⟨(by decide:2<=Ε),fun pp hp=>⟨a,pp,c,C,b,rfl,(eX.upd hp).seqT hx,.inl (.inl fg),h1,h2,?_,q2 _ _ (e1.trans (.upd hp)) (.bl _)⟩⟩;have a1:=h3 v hv;have a2:=h3' w hw;unfold PySem.W.kitAny;rw[a1];unfold PySem.W.kitAny;rw[a2]
  induction b using zB<;>rfl
theorem HReps.rev {K:Frag}{S:Ψ->Prop}{H:Hp}:∀ {vs:List V}{ds:List D},HReps K S H vs ds->HReps K S H vs.reverse ds.reverse
 |[],[],_=>.nil
 |v::vs,d::ds,.cons h t=>by rw[List.reverse_cons,List.reverse_cons];exact(HReps.rev t).append (.cons h .nil)
theorem xX {x:Str}{y:Option Str}{e e':Expr}{va:List Nat}{fa:Ev->Res D}(hx:x.length<=1000)(he:(∃j p q pos,y=Ξ/\e=.JoinedStr [.Constant (.str x) j p,.FormattedValue e' 114 Ξ q] pos)∨∃w j p q j' r pos,y=Γ w/\e=.JoinedStr [.Constant (.str x) j p,.FormattedValue e' 114 Ξ q,.Constant (.str w) j' r] pos)(ha:PE X e' (RD X.K ex va fa)) :
  PE X e (RD X.K ex va fun τ=>bnd (fa τ) (qi x y)):=by
 rcases he with⟨j,p,q,pos,rfl,rfl⟩|⟨w,j,p,q,j',r,pos,rfl,rfl⟩
 ·refine e8 (sL hx ha) fun σ H Q ⟨S,τ,hs,q⟩=>?_;refine fJ (.refl _) hs (PO'.bnd q) fun d v H1 e1 _ m1 q1=>?_
  induction d using zD with
  |str z=>cases m1.strR;obtain⟨g,q1⟩:=PO'.grd q1;have g:=fI g;have e0:Str.empty.length=0:=rfl;have g:x.length+(reprText z).length+Str.empty.length<=Ε:=g;have q1:Kk X.K S H Q (.str (x++reprText z++Str.empty)):=q1.ok;rw[Str.append_empty]at q1;exact⟨z,rfl,by omega,q1 _ _ e1 (.str _)⟩
  |_=>exact q1.no.elim
 ·refine e8 (sM hx ha) fun σ H Q ⟨S,τ,hs,q⟩=>?_;refine fJ (.refl _) hs (PO'.bnd q) fun d v H1 e1 _ m1 q1=>?_
  induction d using zD with
  |str z=>cases m1.strR;obtain⟨g,q1⟩:=PO'.grd q1;exact⟨z,rfl,fI g,q1.ok _ _ e1 (.str _)⟩
  |_=>exact q1.no.elim
theorem vP (g:GOk Z CX cl xp X ex G){e:Expr}{p p' pos pos':Pos}{va:List Nat}{fa:Ev->Res D}(h1:G.glc 5=Δ)(h2:G.gl.contains 18=Δ)(hn:notStar e=Δ)(ha:PE X e (RD X.K ex va fa)) :
  PE X (.Call (.Name "list" p) [.Call (.Name "reversed" p') [e] [] pos'] [] pos) (RD X.K ex va fun τ=>bnd (fa τ) qh):=by
 obtain⟨k1,k2,k3,k4⟩:=iT g (show fT[5]? = Γ ("list" : Str) from rfl) (nA h1);obtain⟨j1,j2,j3,j4⟩:=iT g (show fT[18]? = Γ ("reversed" : Str) from rfl) h2;refine e8 (sJ (g.calm (nB h1)) k1 k2 j1 j2 ha fun es=>eT hn es X.env) fun σ H Q ⟨S,τ,hs,q⟩=>?_;refine fJ (.refl _) hs (PO'.bnd q) fun x v H1 e1 _ m1 q1=>?_
 induction x using zD with
 |lst o ds=>obtain⟨a,ys,rfl,qq,m⟩:=m1.lstR;exact⟨a,ys,rfl,qq,fun l hl=>Kk.fit e1 q1 _ _ (.upd hl) (lD hl m.rev)⟩
 |_=>exact q1.no.elim
theorem nE {d:D}(h:iG d=Δ):∃x,d=.str x:=by
 induction d using zD<;>first|exact⟨_,rfl⟩|cases h
theorem xY (g:GOk Z CX cl xp X ex G){m:Mt}{o:Expr}{apos cpos:Pos}{vo:List Nat}{fo:Ev->Res D}{es:List IR}{a:Expr}{args:List Expr}(hn:jT o=Δ)(hl:(apos.endLine == cpos.line)=Δ)(hlen:(a::args).length < 29)(hcm:(G.cm||nC m)=Δ)
  (hst:fy Z G es (a::args)=Δ) (ho:PE X o (RD X.K ex vo fo)) (h:PA X (a::args) (RA X.K ex (eW es) (fq cl es))) :
  PE X (.Call (.Attribute o (jN m) apos) (a::args) [] cpos) (RD X.K ex (vo++eW es) fun τ=>bnd (fo τ) fun x=>grd (iG x) (bnd (fq cl es τ) fun ds=>iz m x ds)):=by
 induction es using zL with
 |nil=>cases hst
 |cons b es=>
  have hst':(notStar a&&chk Z G b a&&fy Z G es args)=Δ:=hst;simp only[e_]at hst';have star:=fS Z G (es:=es) cpos X.env hst'.2;have mono:∀σ H Q,RD X.K ex (vo++eW (b::es)) (fun τ=>bnd (fo τ) fun x=>grd (iG x) (bnd (fq cl (b::es) τ) fun ds=>iz m x ds)) σ H Q->tBM X.K "str" (rMt X.K ex m) (RD X.K ex vo fo) (RA X.K ex (eW (b::es)) (fq cl (b::es))) σ H Q:=by rintro σ H Q ⟨S,τ,hs,q⟩;refine fJ (.refl _) hs.left (PO'.bnd q) fun x v H1 e1 _ m1 q1=>?_;obtain⟨gd,q1⟩:=PO'.grd q1;obtain⟨z,rfl⟩:=nE gd;cases m1.strR;refine⟨rfl,mG e1 hs.right (PO'.bnd q1) fun ds vs H2 e2 e2' m2 q2=>?_⟩;exact⟨nw S H,.str z,ds,.str z,m2,q2.mono fun d hd=>hd.fit e2⟩
  have hbase:attributeBase o (jN m) X.env (eval o X.env)=eval o X.env:=by
   induction o using zE with
   |Call f args kws pos=>
    induction args using zL with
    |nil=>
     induction kws using zL with
     |nil=>cases hn
     |cons _ _=>cases f<;>rfl
    |cons _ _=>cases f<;>rfl
   |_=>rfl
  have all0:(backTo cpos (Μ (a::args) X.env)).all (fun x=>!x.1)=Δ:=by rw[eT hst'.1.1];show(Δ&&(backTo cpos (Μ args X.env)).all (fun x=>!x.1))=Δ;rw[Bool.true_and,zY];intro y hy;have:=List.any_eq_false.mp star y hy;simpa using this
  have hfew:((backTo cpos (Μ (a::args) X.env)).all (fun x=>!x.1)&&(backToKw cpos (keywordEach [] X.env)).all (fun x=>x.1.isSome)&&decide ((a::args).length+([]:List Keyword).length+(if([]:List Keyword).isEmpty then 0 else 1) < 30))=Δ:=by rw[all0];have:decide ((a::args).length+([]:List Keyword).length+(if([]:List Keyword).isEmpty then 0 else 1) < 30)=Δ:=l_ (by simp at hlen ⊢;omega);rw[this];rfl
  refine e8 ?_ mono;cases m with
  |join=>exact nU PySem.F.plainAttrs_str PySem.F.slot_str_join PySem.F.type_str_join (lE (ex:=ex) .join fun z=>by cases z) ho h hbase hfew hl (eT hst'.1.1 args X.env) star
  |split=>exact nU PySem.F.plainAttrs_str PySem.F.slot_str_split PySem.F.type_str_split (lE (ex:=ex) .split fun _=>g.calm (by rw[zX]at hcm;exact hcm.elim id fun z=>by cases z)) ho h hbase hfew hl (eT hst'.1.1 args X.env) star
  |starts=>exact nU PySem.F.plainAttrs_str PySem.F.slot_str_startswith PySem.F.type_str_startswith (lE (ex:=ex) .starts fun z=>by cases z) ho h hbase hfew hl (eT hst'.1.1 args X.env) star
end
section
variable {prog:Β}{w:Α}{A:Η}{E:Φ->Ω->Prop}{s:Ω}
theorem jV {it t:Ψ}{items:Array Φ}(hne:t≠it):∀(n i:Nat) (s:Ω) (Q:List Φ->Ω->Prop),s.heap.IsListIter it t i->s.heap.IsList t items->i+n<=items.size->
  (∀h',h'.IsListIter it t (i+n)->Heap.SameBut it s.heap h'->Q ((items.toList.drop i).take n) {s with heap:=h'})->Ι (Κ prog w) A (draw (.ref it) n) Q E s
 |0,i,s,Q,hit,_,_,hQ=>by show Ι _ _ (pure []) Q E s;exact q_ (by simpa using hQ s.heap hit (Heap.SameBut.refl ..))
 |n+1,i,s,Q,hit,ht,hle,hQ=>by
  have hlt:i < items.size:=by omega
  show Ι _ _ (pyNext (.ref it) >>= _) Q E s;refine g_ (wpAny_pyNext_list_item hit ht (x:=items[i]) (by simp[hlt]) fun h₁ hit₁ hs₁=>?_);refine g_ (Ae (jV hne n (i+1) _ _ hit₁ (ht.extBut hs₁.extBut hne) (by omega) fun h₂ hit₂ hs₂=>q_ ?_));have hd:items.toList.drop i=items[i]::items.toList.drop (i+1):=by simp[List.drop_eq_getElem_cons,hlt]
  have:=hQ h₂ (by rw[show i+(n+1)=i+1+n by omega];exact hit₂) (hs₁.trans hs₂);rw[hd,List.take_succ_cons]at this;exact this
theorem jf {t:Ψ}{items:Array Φ}{Q:List Φ->Ω->Prop}(hh:A.handled=Ξ)(ht:s.heap.IsList t items)
  (hQ:∀h',Heap.ExtBut s.heap.objs.size s.heap h'->Q items.toList {s with heap:=h'}):Ι (Κ prog w) A (unpackItems (.ref t) items.size Ξ) Q E s:=by
 have hlt:t≠s.heap.objs.size:=by obtain⟨o,ho,_⟩:=ht;exact u_ (j_ ho)
 have push:∀o,(s.heap.push o).IsList t items:=fun o=>by obtain⟨ob,e,c,n,d⟩:=ht;exact⟨ob,v_ _ e,c,n,d⟩
 unfold unpackItems;refine g_ ?_
 ·unfold notIterableAtAll;refine g_ (wpAny_specialOf ht.typeIs slot_list_iter.lookup ?_);refine q_ ?_;simp only[Bool.false_eq_true,if_false];refine g_ (Ae (wpAny_pyIter_list ht ?_));refine g_ (Ae (jV hlt items.size 0 _ _ ⟨_,Aa _ rfl,rfl,rfl⟩ (push _) (by omega) fun h₁ hit₁ hs₁=>?_));have hall:List.take items.size (List.drop 0 items.toList)=items.toList:=by rw[List.drop_zero];exact List.take_of_length_le (by simp)
  rw[hall];rw[c_ (by simp)];have ht₁:h₁.IsList t items:=(push _).extBut hs₁.extBut hlt;refine g_ (Ae (wpAny_pyNext_list_end hh hit₁ ht₁ (by simp) fun h₂ he₂=>?_));simp only[Option.isSome_none,Bool.false_eq_true,if_false];refine q_ (hQ h₂ fun b o hb e=>he₂ b o hb (hs₁.extBut b o hb (v_ _ e)))
end
def xZ (K:Frag)(n:Nat)(t:TGs):TG:=fun v σ H Q=>∃a xs,v=.ref a/\(SqT K H a xs∨SqL K H a xs)/\xs.length=n/\t xs σ H Q
theorem vQ {X:Cx}{pos:Pos}{es:List Expr}{k:Nat}{t:TGs}{n:Nat}(hc:X.calm=Δ)(h:PGs X es t)(hn:(assignEach es X.env).length=n)(hst:(assignEach es X.env).findIdx? (·.1)=Ξ):PG X (.Tuple es k pos) (xZ X.K n t):=by
 intro pins s σ H v u Q I r hw;obtain⟨a,xs,e1,hq,hl,hw⟩:=hw;subst e1;cases r;rcases hq with hq|hq
 ·obtain⟨its,rv,ht,hz⟩:=I.tuple hq;refine assign_Tuple_tuple (I.ok.hd hc) ht (by simp[hn,<- hl,rv.length]) hst fun h' hx=>?_;have I1:Inv X pins σ H {s with heap:=h'}:=I.kept (t':=s.toks) fun b o e=>hx b o (u_ (j_ e)) e;exact h pins _ σ H xs _ Q I1 (by simpa using rv) hw
 ·obtain⟨its,rv,pl,hz⟩:=I.list hq;rw[assign_Tuple];refine g_ (wpAny_standAt ?_);unfold unpack;have hlen:(assignEach es X.env).length=its.toArray.size:=by simp[hn,<- hl,rv.length]
  rw[hlen,hst];refine g_ (Ae (jf (I.ok.hd hc) pl.isList fun h' hx=>?_));have I1:Inv X pins σ H {s with heap:=h'}:=I.kept (t':=s.toks) fun b o e=>hx b o (u_ (j_ e)) e;exact h pins _ σ H xs _ Q I1 (by simpa using rv) hw
mutual
def gT (K:Frag):Tg->TG
 |.nm i=>pQ i
 |.tp ts=>xZ K ts.length (gTs K ts)
def gTs (K:Frag):List Tg->TGs
 |[]=>xn
 |t::ts=>uo (gT K t) (gTs K ts)
end
theorem iV {e:Expr}(h:notStar e=Δ)(es:List Expr)(env:Env):assignEach (e::es) env=(Θ,assign e env)::assignEach es env:=by
 induction e using zE<;>first|rfl|cases h
section
variable {Z:Sg}{CX:CXT}{cl:Nat->List D->Res D}{xp:XK->Hp->Str->Prop}{X:Cx}{ex:Str->Prop}{G:Gm}
theorem jW (G:Gm):∀ {ts:List Tg}{es:List Expr} (env:Env),iE G ts es=Δ->(assignEach es env).length=ts.length/\(assignEach es env).findIdx? (·.1)=Ξ
 |[],[],_,_=>⟨rfl,rfl⟩
 |t::ts,e::es,env,h=>by have h':(notStar e&&gF G t e&&iE G ts es)=Δ:=h;simp only[e_]at h';obtain⟨h1,h2⟩:=jW G (ts:=ts) (es:=es) env h'.2;rw[iV h'.1.1];refine⟨by rw[List.length_cons,h1,List.length_cons],?_⟩;rw[List.findIdx?_cons,c_ (by simp),h2];rfl
 |[],_::_,_,h=>by cases h
 |_::_,[],_,h=>by cases h
mutual
theorem pgT (g:GOk Z CX cl xp X ex G):∀(t:Tg) (e:Expr),gF G t e=Δ->PG X e (gT X.K t)
 |.nm i,e,h=>by
  induction e using zE with
  |Name x pos=>
   have h':(G.N[i]? == Γ x&&(G.kd[i]? == Γ .local||(G.df&&G.kd[i]? == Γ .cell)))=Δ:=(Ax.mp h).1;rw[e_,zX,e_]at h';obtain⟨h1,h2⟩:=h';have hx:G.N[i]? = Γ x:=f_ h1;have hk:=g.kd i x hx;refine se (by rw[g.N];exact g.nod) (by rw[g.N];exact hx) ?_ ?_
   ·rcases h2 with h2|h2
    ·exact .inl (hk.trans (f_ h2))
    ·exact .inr (hk.trans (f_ h2.2))
   ·rcases h2 with h2|h2
    ·exact .inr (hk.trans (f_ h2))
    ·exact .inl (g.df h2.1 x)
  |_=>cases h
 |.tp ts,e,h=>by
  induction e using zE with
  |Tuple es k pos=>have h0:(G.cm&&iE G ts es)=Δ:=h;rw[e_]at h0;have h':=h0.2;obtain⟨h1,h2⟩:=jW G X.env h';exact vQ (g.calm h0.1) (x5 g ts es h') h1 h2
  |_=>cases h
theorem x5 (g:GOk Z CX cl xp X ex G):∀(ts:List Tg) (es:List Expr),iE G ts es=Δ->PGs X es (gTs X.K ts)
 |[],[],_=>sh
 |t::ts,e::es,h=>by have h':(notStar e&&gF G t e&&iE G ts es)=Δ:=h;simp only[e_]at h';exact pR (pgT g t e h'.1.2) (x5 g ts es h'.2) (by rw[iV h'.1.1];rfl)
 |[],_::_,h=>by cases h
 |_::_,[],h=>by cases h
end
end
mutual
theorem iW {G:Gm}:∀(t:Tg) (e:Expr),gF G t e=Δ->∀j∈tgs t,G.io≠Γ j
 |.nm i,e,h,j,hj=>by
  induction e using zE with
  |Name x pos=>
   have h':=(Ax.mp (show((G.N[i]? == Γ x&&(G.kd[i]? == Γ .local||(G.df&&G.kd[i]? == Γ .cell)))&&G.io != Γ i)=Δ from h)).2;have e:j=i:=by simpa[tgs] using hj
   subst e;simpa using h'
  |_=>cases h
 |.tp ts,e,h,j,hj=>by
  induction e using zE with
  |Tuple es k pos=>have h0:(G.cm&&iE G ts es)=Δ:=h;exact mI ts es (Ax.mp h0).2 j hj
  |_=>cases h
theorem mI {G:Gm}:∀(ts:List Tg) (es:List Expr),iE G ts es=Δ->∀j∈mE ts,G.io≠Γ j
 |[],_,_,j,hj=>by cases hj
 |t::ts,[],h,_,_=>by cases h
 |t::ts,e::es,h,j,hj=>by
  have h':(notStar e&&gF G t e&&iE G ts es)=Δ:=h;simp only[e_]at h';rcases x_.mp (show j∈tgs t++mE ts from hj) with hj|hj
  ·exact iW t e h'.1.2 j hj
  ·exact mI ts es h'.2 j hj
end
def SlA (K:Frag)(S:Ψ->Prop)(H:Hp)(σ:St)(τ:Ev):Prop:=τ.length=σ.length/\∀i d,eZ τ i=Γ d->∃v,σ[i]? = Γ (Γ v)/\HRep K S H v d
theorem pE {τ:Ev}{i j:Nat}{o:Option D}:eZ (τ.set i o) j=if i=j/\i < τ.length then o else eZ τ j:=by
 unfold eZ;rw[List.getElem?_set];by_cases h:i=j
 ·subst h;by_cases h2:i < τ.length
  ·simp[h2]
  ·rw[d_ rfl,c_ h2,c_ (by omega)];rw[List.getElem?_eq_none (by omega)]
 ·rw[c_ h,c_ (by omega)]
section
variable {K:Frag}{S:Ψ->Prop}{H:Hp}{ex:Str->Prop}
mutual
theorem om:∀(t:Tg) {σ:St}{τ:Ev}{v:V}{d:D}{Kt:Ev->Prop}{Q:St->Hp->Prop},SlA K S H σ τ->HRep K S H v d->PO' ex (gy t d τ) Kt->
  (∀τ' σ',SlA K S H σ' τ'->σ'.length=σ.length->(∀j,j∉tgs t->σ'[j]? = σ[j]?)->Kt τ'->Q σ' H)->gT K t v σ H Q
 |.nm i,σ,τ,v,d,Kt,Q,hs,m,h,k=>by
  refine k (τ.set i (Γ d)) (σ.set i (Γ v)) ⟨by rw[List.length_set,List.length_set,hs.1],fun j e z=>?_⟩ (by rw[List.length_set]) (fun j hj=>?_) h.ok
  ·rw[pE]at z;by_cases q:i=j/\i < τ.length
   ·rw[d_ q]at z;obtain⟨rfl,q⟩:=q;cases z;exact⟨v,by rw[List.getElem?_set_self (by rw[<- hs.1];exact q)],m⟩
   ·rw[c_ q]at z;obtain⟨w,h1,h2⟩:=hs.2 j e z;refine⟨w,?_,h2⟩;by_cases q2:i=j
    ·subst q2;exfalso;have:i < σ.length:=by have:=(y_.mp h1).1;exact this
     exact q ⟨rfl,by rw[hs.1];exact this⟩
    ·rw[Al q2];exact h1
  ·have:i≠j:=fun z=>hj (by subst z;simp[tgs]);rw[Al this]
 |.tp ts,σ,τ,v,d,Kt,Q,hs,m,h,k=>by
  induction d using zD with
  |tup ds=>obtain⟨a,xs,rfl,q,ms⟩:=m.tupR;obtain⟨g,h⟩:=PO'.grd h;have g':ds.length=ts.length:=m_ g;exact⟨a,xs,rfl,.inl q,by rw[ms.length,g'],jX ts hs ms h k⟩
  |lst o ds=>obtain⟨a,xs,rfl,q,ms⟩:=m.lstR;obtain⟨g,h⟩:=PO'.grd h;have g':ds.length=ts.length:=m_ g;exact⟨a,xs,rfl,.inr q,by rw[ms.length,g'],jX ts hs ms h k⟩
  |_=>exact h.no.elim
theorem jX:∀(ts:List Tg) {σ:St}{τ:Ev}{vs:List V}{ds:List D}{Kt:Ev->Prop}{Q:St->Hp->Prop},SlA K S H σ τ->HReps K S H vs ds->PO' ex (mn ts ds τ) Kt->
  (∀τ' σ',SlA K S H σ' τ'->σ'.length=σ.length->(∀j,j∉mE ts->σ'[j]? = σ[j]?)->Kt τ'->Q σ' H)->gTs K ts vs σ H Q
 |[],σ,τ,vs,ds,Kt,Q,hs,m,h,k=>by
  cases m with
  |nil=>exact⟨rfl,k τ σ hs rfl (fun _ _=>rfl) h.ok⟩
  |cons _ _=>exact h.no.elim
 |t::ts,σ,τ,vs,ds,Kt,Q,hs,m,h,k=>by
  cases m with
  |nil=>exact h.no.elim
  |cons m1 m2=>
   refine⟨_,_,rfl,om t hs m1 (PO'.bnd h) fun τ' σ' hs' hn hk h'=>?_⟩;refine jX ts hs' m2 h' fun τ'' σ'' hs'' hn' hk' h''=>k τ'' σ'' hs'' (hn'.trans hn) (fun j hj=>?_) h'';have hj':j∉tgs t/\j∉mE ts:=by constructor<;>(intro z;apply hj;simp[mE,z])
   rw[hk' j hj'.2,hk j hj'.1]
end
end
section
variable {K:Frag}{S S':Ψ->Prop}{H H':Hp}{J:It}{ds:List D}
theorem Wlk.step (hl:∀a (u:LD),S a->Rd H a u.o->S' a/\Rd H' a u.o)(ht:∀a xs,SqE K H a xs->SqE K H' a xs)(h:Wlk K S H J ds):Wlk K S' H' J ds:=by
 cases h with
 |lst h0 h1 h2=>exact .lst (hl _ (.l _) h0 h1).1 (hl _ (.l _) h0 h1).2 (h2.step hl ht)
 |lstK h1 h2=>exact .lstK h1 (h2.step hl ht)
 |tup h1 h2=>exact .tup (ht _ (.inl _) h1) (h2.step hl ht)
 |rng lo hi=>exact .rng lo hi
 |str x=>exact .str x
theorem Wlk.mono (h:Wlk K S H J ds)(hS:∀a,S a->S' a)(e:eX H H'):Wlk K S' H' J ds:=h.step (fun a xs s r=>⟨hS a s,e.rd r⟩) fun a xs s=>e.seqT s
theorem jY (x:Str):(gk x).length=x.cps.size:=by unfold gk;simp
theorem iX (a b:Int):(gE a b).length=(b - a).toNat:=by unfold gE;simp
theorem Wlk.stop (h:Wlk K S H J ds){i:Nat}(hi:ds.length=i):J.stop i H:=by
 cases h with
 |lst h0 h1 h2=>exact⟨_,.inl h1,by rw[h2.length];omega⟩
 |lstK h1 h2=>exact⟨_,h1.sq,by rw[h2.length];omega⟩
 |tup h1 h2=>exact⟨_,h1,by rw[h2.length];omega⟩
 |rng lo hi'=>rw[iX]at hi;exact Nat.le_of_eq hi
 |str x=>rw[jY]at hi;exact Nat.le_of_eq hi
theorem Wlk.go (h:Wlk K S H J ds){i:Nat}(hi:i < ds.length):J.go i H:=by
 cases h with
 |lst h0 h1 h2=>obtain⟨v,hv,_⟩:=h2.get (i:=i) (d:=ds[i]) (by simp[hi]);exact⟨_,v,.inl h1,hv⟩
 |lstK h1 h2=>obtain⟨v,hv,_⟩:=h2.get (i:=i) (d:=ds[i]) (by simp[hi]);exact⟨_,v,h1.sq,hv⟩
 |tup h1 h2=>obtain⟨v,hv,_⟩:=h2.get (i:=i) (d:=ds[i]) (by simp[hi]);exact⟨_,v,h1,hv⟩
 |rng lo hi'=>rw[iX]at hi;exact hi
 |str x=>rw[jY]at hi;exact hi
theorem Wlk.yld (h:Wlk K S H J ds){i:Nat}{x:V}{H2:Hp}(y:J.yld i H x H2){d:D}(hd:ds[i]? = Γ d):eX H H2/\HRep K S H2 x d:=by
 have fin:∀ {xs:List V},HReps K S H xs ds->xs[i]? = Γ x->HRep K S H x d:=fun m e=>by obtain⟨d',e',m'⟩:=m.getV e;rw[hd]at e';cases e';exact m'
 cases h with
 |lst h0 h1 h2=>obtain⟨e,y⟩:=y;subst e;exact⟨.refl _,fin h2 (y _ (.inl h1))⟩
 |lstK h1 h2=>obtain⟨e,y⟩:=y;subst e;exact⟨.refl _,fin h2 (y _ h1.sq)⟩
 |tup h1 h2=>obtain⟨e,y⟩:=y;subst e;exact⟨.refl _,fin h2 (y _ h1)⟩
 |rng lo hi'=>
  obtain⟨e1,e2⟩:=y;subst e1;refine⟨.refl _,?_⟩;subst e2;unfold gE at hd;rw[Ac]at hd;have hi:i < (hi' - lo).toNat:=by
   have:=(Option.map_eq_some_iff.mp hd)
   obtain⟨z,h1,_⟩:=this;have:=(y_.mp h1).1;simpa using this
  rw[List.getElem?_range hi]at hd;cases hd;exact .int _
 |str x=>
  obtain⟨e1,c,h1,e2⟩:=y;subst e1;refine⟨.refl _,?_⟩;subst e2;unfold gk at hd;rw[Ac]at hd;have h2:x.cps.toList[i]? = Γ c:=by simpa using h1
  rw[h2]at hd;cases hd;exact .str _
end
section
variable {Z:Sg}{CX:CXT}{cl:Nat->List D->Res D}{xp:XK->Hp->Str->Prop}{X:Cx}{ex:Str->Prop}{G:Gm}{K:Frag}{S:Ψ->Prop}{H H1:Hp}{σ:St}{τ:Ev}
theorem x6 {is:List Nat}{f:Ev->Res (List D)}{Kt:List D->Prop}{R:It->Hp->Prop}(e:eX H H1)(hs:Slots K S H σ τ is)(h:PO' ex (f τ) Kt)(k:∀ds J H2,eX H H2->eX H1 H2->Wlk K (nw S H) H2 J ds->Kt ds->R J H2):RI K ex is f σ H1 R:=
 ⟨nw S H,τ,hs.go e,h.mono fun x hx J H2 e2 m=>k x J H2 (e.trans e2) e2 (m.mono (kO e) (.refl _)) hx⟩
theorem oo {tg:Expr}{pins:List (Ψ×Obj)}{s:Ω}{a:Ψ}{xs:List V}{R:It->Hp->Prop}(I:Inv X pins σ H s)(hq:SqL X.K H a xs)(q:R (Itl X.K a) H):Ι (Κ X.prog X.w) X.A (pyIter (.ref a)) (PIE X pins σ tg R) X.xe s:=by
 obtain⟨its,rv,p,hz⟩:=I.list hq;refine wpAny_pyIter_list p.isList ?_;refine⟨s.heap.objs.size,[s.heap.objs.size],_,_,H,rfl,I.kept (t':=s.toks) fun b o e=>v_ _ e,oW a _,⟨_,Aa _ rfl,rfl,rfl⟩,fun b hb=>?_,q⟩;have e:b=s.heap.objs.size:=by simpa using hb
 subst e;exact I.fpOk (k_ _) (I.hok.fresh (k_ _))
theorem qG {tg:Expr}{pins:List (Ψ×Obj)}{s:Ω}{a:Ψ}{xs:List V}{R:It->Hp->Prop}(I:Inv X pins σ H s)(hq:SqT X.K H a xs)(q:R (Itt X.K a) H):Ι (Κ X.prog X.w) X.A (pyIter (.ref a)) (PIE X pins σ tg R) X.xe s:=by
 obtain⟨its,rv,p,hz⟩:=I.tuple hq;refine wpAny_pyIter_tuple (show s.heap.IsTuple a its.toArray from p) ?_;refine⟨s.heap.objs.size,[s.heap.objs.size],_,_,H,rfl,I.kept (t':=s.toks) fun b o e=>v_ _ e,mY a _,⟨_,Aa _ rfl,rfl,rfl⟩,fun b hb=>?_,q⟩;have e:b=s.heap.objs.size:=by simpa using hb
 subst e;exact I.fpOk (k_ _) (I.hok.fresh (k_ _))
theorem x8 {tg e:Expr}{va:List Nat}{fa:Ev->Res D}(ha:PE X e (RD X.K ex va fa)):PI X tg e (RI X.K ex va fun τ=>bnd (fa τ) jL):=by
 intro pins s σ H R I h;obtain⟨S,τ,hs,q⟩:=h;refine thn (ha pins s σ H (fun v H'=>∃d,eX H H'/\HRep X.K (nw S H) H' v d/\_) I (fJ (.refl _) hs (PO'.bnd q) fun x v H1 e1 _ m1 q1=>⟨x,e1,m1,q1⟩)) fun v s1 ⟨x,H1,I1,r1,d,e1,m1,q1⟩=>?_
 induction d using zD with
 |lst o ds=>
  cases m1 with
  |lst h0 h1 h2=>cases r1;exact oo I1 (.inl h1) (q1.ok _ _ e1 (.lst h0 h1 h2))
  |lstK h1 h2=>cases r1;exact oo I1 h1.sq (q1.ok _ _ e1 (.lstK h1 h2))
 |tup ds=>obtain⟨a,xs,rfl,h1,h2⟩:=m1.tupR;cases r1;exact qG I1 h1 (q1.ok _ _ e1 (.tup h1 h2))
 |str z=>cases m1.strR;obtain⟨t,rfl⟩:=r1;obtain⟨_,q1⟩:=PO'.grd q1;exact vI I1 (q1.ok _ _ e1 (.str z))
 |_=>exact q1.no.elim
theorem vR (g:GOk Z CX cl xp X ex G){tg e:Expr}{p pos:Pos}{va:List Nat}{fa:Ev->Res D}(hg:G.gl.contains 15=Δ)(hn:notStar e=Δ)(ha:PE X e (RD X.K ex va fa)) :
  PI X tg (.Call (.Name "range" p) [e] [] pos) (RI X.K ex va fun τ=>bnd (fa τ) fun|.int i=>grd (jm i) (.ok (gE 0 i))|_=>stk):=by
 obtain⟨k1,k2,_,_⟩:=iT g (show fT[15]? = Γ ("range" : Str) from rfl) hg;refine p7 (ky k1 k2 (fM ha gK (eT hn _ _)) (eT hn _ _)) fun σ H Q ⟨S,τ,hs,q⟩=>?_;refine fJ (.refl _) hs (PO'.bnd q) fun x v H1 e1 _ m1 q1=>?_
 induction x using zD with
 |int i=>cases m1.intR;obtain⟨gd,q1⟩:=PO'.grd q1;have gd' : -(2 ^ 62)<=i/\i < 2 ^ 62:=m_ gd;refine⟨i,rfl,gd'.1,gd'.2,?_⟩;have:=q1.ok _ _ e1 (.rng 0 i);rw[Int.sub_zero]at this;exact this
 |_=>exact q1.no.elim
theorem gQ {env:Env}{x:Str}:∀(names:List (Str×NameKind)),
  (names.map fun(n,k)=>if(k == Τ&&env.scope.kind == .function&&env.kindOf n == Γ .cell) then(n,NameKind.cell) else(n,k)).lookup x =
   (names.lookup x).map fun k=>if(k == Τ&&env.scope.kind == .function&&env.kindOf x == Γ .cell) then NameKind.cell else k
 |[]=>rfl
 | (n,k)::r=>by
  have ih:=gQ (env:=env) (x:=x) r;rw[a_];show List.lookup x ((if(k == Τ&&env.scope.kind == .function&&env.kindOf n == Γ .cell)=Δ then(n,NameKind.cell) else(n,k))::_)=_;by_cases hc:(k == Τ&&env.scope.kind == .function&&env.kindOf n == Γ .cell)=Δ
  ·rw[d_ hc,Aq,Aq];cases hx:x == n with
   |true=>have e:x=n:=f_ hx;subst e;show Γ NameKind.cell=Γ (if _ then _ else _);rw[d_ hc]
   |false=>exact ih
  ·rw[c_ hc,Aq,Aq];cases hx:x == n with
   |true=>have e:x=n:=f_ hx;subst e;show Γ k=Γ (if _ then _ else _);rw[c_ hc]
   |false=>exact ih
theorem nG {scope:Scope}{env:Env}(h:∀y∈scope.names,y.2=.free->∃c,env.cells.lookup y.1=Γ c) :
  ∃cl',closureFor scope env=pure cl'/\(∀x c,cl'.lookup x=Γ c->env.cells.lookup x=Γ c)/\∀y∈scope.names,y.2=.free->∃c,cl'.lookup y.1=Γ c:=by
 have key:∀(names:List (Str×NameKind)) (acc:List (Str×Ψ)),(∀y∈names,y.2=.free->∃c,env.cells.lookup y.1=Γ c)->(∀x c,acc.lookup x=Γ c->env.cells.lookup x=Γ c)->
   ∃cl',(forIn names acc fun(p:Str×NameKind) (r:List (Str×Ψ))=>(if(p.2 == Τ)=Δ then do let a <- cellOf env p.1;pure (ForInStep.yield ((p.1,a)::r)) else pure (ForInStep.yield r):Sem (ForInStep (List (Str×Ψ)))))=pure cl'/\(∀x c,cl'.lookup x=Γ c->env.cells.lookup x=Γ c)/\
    (∀y∈names,y.2=.free->∃c,cl'.lookup y.1=Γ c)/\∀x c,acc.lookup x=Γ c->∃c',cl'.lookup x=Γ c':=by
  intro names
  induction names with
  |nil=>intro acc _ h2;exact⟨acc,rfl,h2,fun y hy=>absurd hy (by simp),fun x c e=>⟨c,e⟩⟩
  |cons p names ih=>
   intro acc h1 h2;rw[List.forIn_cons];by_cases hp:p.2=.free
   ·obtain⟨c,hc⟩:=h1 p (by simp) hp;have hb:(p.2 == Τ)=Δ:=by rw[hp];rfl
    have h2':∀x c',((p.1,c)::acc).lookup x=Γ c'->env.cells.lookup x=Γ c':=by
     intro x c' e;rw[Aq]at e;cases hx:x == p.1 with
     |true=>rw[hx]at e;cases e;rw[f_ hx];exact hc
     |false=>rw[hx]at e;exact h2 x c' e
    obtain⟨cl',e1,e2,e3,e4⟩:=ih ((p.1,c)::acc) (fun y hy=>h1 y (s_ _ hy)) h2';refine⟨cl',?_,e2,fun y hy hf=>?_,fun x c' e=>?_⟩
    ·rw[d_ hb];have:cellOf env p.1=pure c:=by unfold cellOf;rw[hc]
     rw[this];exact e1
    ·rcases p_.mp hy with rfl|hy
     ·exact e4 y.1 c (by rw[Aq];simp)
     ·exact e3 y hy hf
    ·rcases hx:x == p.1 with _|_
     ·exact e4 x c' (by rw[Aq,hx];exact e)
     ·exact e4 x c (by rw[Aq,hx])
   ·have hb:¬(p.2 == Τ)=Δ:=fun z=>hp (f_ z);obtain⟨cl',e1,e2,e3,e4⟩:=ih acc (fun y hy=>h1 y (s_ _ hy)) h2;refine⟨cl',?_,e2,fun y hy hf=>?_,e4⟩
    ·rw[c_ hb];exact e1
    ·rcases p_.mp hy with rfl|hy
     ·exact absurd hf hp
     ·exact e3 y hy hf
 obtain⟨cl',e1,e2,e3,_⟩:=key scope.names [] h (fun x c e=>by cases e);refine⟨cl',?_,e2,e3⟩;unfold closureFor;exact congrArg (fun(m:Sem (List (Str×Ψ)))=>m >>= fun r=>pure r) e1
structure ScOk (Z:Sg)(G:Gm)(scope:Scope)(G':Gm)(fr:List Nat):Prop where
 cm:G.cm=Δ
 kind:scope.kind=.function
 tr:G'.tr=Θ
 df:G'.df=Θ
 kdl:G'.kd.length=G'.N.length
 nocell:∀y∈scope.names,y.2≠.cell
 loc:∀y∈scope.names,y.2=.local->scope.names.lookup y.1=Γ .local
 fre:∀y∈scope.names,y.2=.free->∃i:Nat,G.N[i]? = Γ y.1/\(G.kd[i]? = Γ .cell∨G.kd[i]? = Γ .free)
 frs:∀(j:Nat) (i:Nat),fr[j]? = Γ i->∃x,G.N[i]? = Γ x/\G'.N[j]? = Γ x/\scope.names.lookup x=Γ .free/\(G.kd[i]? = Γ .cell∨G.kd[i]? = Γ .free)/\G'.kd[j]? = Γ (if(G.kd[i]? == Γ .cell)=Δ then .cell else .free)
 fle:fr.length<=G'.N.length
 tgs:∀(j:Nat) (x:Str),fr.length<=j->G'.N[j]? = Γ x->scope.names.lookup x=Γ .local/\G'.kd[j]? = Γ .local
 noD:∀x∈G'.N,(x == ("__debug__" : Str))=Θ/\(x == ("__classdict__" : Str))=Θ
 nod:G'.N.Nodup
 gl:∀n∈G'.gl,∃x,Z.name n=Γ x/\scope.names.lookup x=Γ .globalImplicit
 nrs:G'.rs=Θ
theorem lL {Z:Sg}{G:Gm}{scope:Scope}{G':Gm}{fr:List Nat}(h:f9 Z G scope G' fr=Δ):ScOk Z G scope G' fr:=by
 unfold f9 at h;simp only[e_]at h;obtain⟨⟨⟨⟨⟨⟨⟨⟨⟨⟨⟨⟨⟨⟨h0,h1⟩,h1'⟩,h2⟩,h3⟩,h4⟩,h5⟩,h6⟩,h7⟩,h8⟩,h9⟩,h10⟩,h11⟩,h12⟩,h13⟩:=h;rw[zY]at h4 h5 h6 h7 h9 h10 h12;refine⟨h0,f_ h1,by simpa using h1',by simpa using h2,f_ h3,fun y hy=>by simpa using h4 y hy,fun y hy e=>?_,fun y hy e=>?_,fun j i e=>?_,m_ h8,fun j x hj e=>?_,fun x hx=>by simpa using h10 x hx,m_ h11,fun n hn=>?_,by simpa using h13⟩
 ·have:=h5 y hy;rw[e]at this;simpa using this
 ·have:=h6 y hy;rw[e]at this;simp only[bne_self_eq_false,Bool.false_or,List.any_eq_true,e_,zX]at this;obtain⟨i,_,hi,hk⟩:=this;exact⟨i,f_ hi,hk.elim (fun z=>.inl (f_ z)) fun z=>.inr (f_ z)⟩
 ·have hj:j < fr.length:=(y_.mp e).1;have:=h7 j (List.mem_range.mpr hj);simp only[e,Option.bind_some,e_,zX]at this;obtain⟨⟨⟨a1,a2⟩,a3⟩,a4⟩:=this;have a1':=f_ a1;have a2':=f_ a2;cases q:G'.N[j]? with
  |none=>rw[q]at a2';cases a2'
  |some x=>rw[q]at a2' a1';exact⟨x,a1'.symm,rfl,a2',a3.elim (fun z=>.inl (f_ z)) fun z=>.inr (f_ z),f_ a4⟩
 ·have hlt:j < G'.N.length:=(y_.mp e).1;have hm:j∈(List.range G'.N.length).drop fr.length:=by rw[List.mem_drop_iff_getElem];exact⟨j - fr.length,by simp;omega,by simp;omega⟩
  have:=h9 j hm;rw[e]at this;simp only[Option.bind_some,e_]at this;exact⟨f_ this.1,f_ this.2⟩
 ·have:=h12 n hn;cases q:Z.name n with
  |none=>rw[q]at this;cases this
  |some x=>rw[q]at this;exact⟨x,rfl,f_ this⟩
noncomputable def frN (G:Gm)(fr:List Nat):List (Str×Nat):=fr.map fun i=>(G.N.getD i "",i)
theorem x9 {scope:Scope}{G':Gm}{fr:List Nat}(s:ScOk Z G scope G' fr):(frN G fr).map (·.1)++G'.N.drop fr.length=G'.N:=by
 have e:(frN G fr).map (·.1)=G'.N.take fr.length:=by
  apply List.ext_getElem?;intro j;unfold frN;rw[Ah,Ac,List.getElem?_take];cases q:fr[j]? with
  |none=>
   have:¬j < fr.length:=by intro z;rw[Aw z]at q;cases q
   rw[c_ this];rfl
  |some i=>have:j < fr.length:=(y_.mp q).1;rw[d_ this];obtain⟨x,h1,h2,_⟩:=s.frs j i q;rw[h2];show Γ (G.N.getD i "")=Γ x;rw[Ap,h1];rfl
 rw[e,List.take_append_drop]
theorem jg (g:GOk Z CX cl xp X ex G)(ok:X.Ok){scope:Scope}{G':Gm}{fr:List Nat}(s:ScOk Z G scope G' fr):∃cl',CompSc X scope cl' (frN G fr) (G'.N.drop fr.length):=by
 have hfree:∀y∈scope.names,y.2=.free->∃c,X.env.cells.lookup y.1=Γ c:=fun y hy hf=>by obtain⟨i,h1,h2⟩:=s.fre y hy hf;have hk:=g.kd i y.1 h1;exact ok.has y.1 (h2.elim (fun z=>.inl (hk.trans z)) fun z=>.inr (hk.trans z))
 obtain⟨cl',e1,e2,e3⟩:=nG hfree;refine⟨cl',e1,s.kind,s.nocell,s.loc,e2,fun x hx=>?_,fun p hp=>?_⟩
 ·have hl:=gQ (env:=X.env) (x:=x) scope.names;have hx':((scope.names.lookup x).map fun k=>if(k == Τ&&X.env.scope.kind == .function&&X.env.kindOf x == Γ .cell)=Δ then NameKind.cell else k)=Γ .cell∨
    ((scope.names.lookup x).map fun k=>if(k == Τ&&X.env.scope.kind == .function&&X.env.kindOf x == Γ .cell)=Δ then NameKind.cell else k)=Γ .free:=by
   rcases hx with hx|hx
   ·exact .inl (hl.symm.trans hx)
   ·exact .inr (hl.symm.trans hx)
  cases q:scope.names.lookup x with
  |none=>rw[q]at hx';rcases hx' with z|z<;>cases z
  |some k=>
   have hm:(x,k)∈scope.names:=PySem.mem_of_lookup q;have hk:k=.free:=by
    rw[q]at hx';rcases hx' with z|z
    ·have z':(if(k == Τ&&X.env.scope.kind == .function&&X.env.kindOf x == Γ .cell)=Δ then NameKind.cell else k)=.cell:=zZ z;split at z'
     ·rename_i hc
      simp only[e_]at hc;exact f_ hc.1.1
     ·exact absurd z' (s.nocell _ hm)
    ·have z':(if(k == Τ&&X.env.scope.kind == .function&&X.env.kindOf x == Γ .cell)=Δ then NameKind.cell else k)=.free:=zZ z;split at z'
     ·cases z'
     ·exact z'
   exact e3 (x,k) hm hk
 ·unfold frN at hp;rw[List.mem_map]at hp;obtain⟨i,hi,rfl⟩:=hp;obtain⟨j,hj⟩:=List.getElem?_of_mem hi;obtain⟨x,h1,h2,h3,h4,h5⟩:=s.frs j i hj;have hn:G.N.getD i "" = x:=by rw[Ap,h1];rfl
  show X.N[i]? = Γ (G.N.getD i "")/\_;rw[hn];have hk:=g.kd i x h1;refine⟨by rw[g.N];exact h1,h4.elim (fun z=>.inl (hk.trans z)) fun z=>.inr (hk.trans z),?_⟩;have hl:=gQ (env:=X.env) (x:=x) scope.names;rw[h3]at hl;have hl':(relabel scope X.env).names.lookup x=Γ (if(Τ == Τ&&X.env.scope.kind == .function&&X.env.kindOf x == Γ .cell)=Δ then NameKind.cell else Τ):=hl;rw[hl'];split
  ·exact .inl rfl
  ·exact .inr rfl
theorem gb (g:GOk Z CX cl xp X ex G){scope:Scope}{G':Gm}{fr:List Nat}(s:ScOk Z G scope G' fr)(cl':List (Str×Ψ)){E:XK}(hE:kM X E/\∀c H,ex c->xp E H c)(C:Ψ)(s3:Ω)(H3:Hp)(fp:List Ψ) :
  GOk Z CX cl xp (cxC X scope cl' ((frN G fr).map (·.1)++G'.N.drop fr.length) C s3 H3 fp (XEc X E scope cl' ((frN G fr).map (·.1)++G'.N.drop fr.length) C s3 H3 fp)) ex G' where
 N:=x9 s
 nod:=s.nod
 calm:=fun _=>g.calm s.cm
 fk:=s.kind
 un:=g.un
 own:=fun z=>by rw[s.nrs]at z;cases z
 kd:=fun j x hx=>by
  show(relabel scope X.env).names.lookup x=_;have hl:=gQ (env:=X.env) (x:=x) scope.names;by_cases hj:j < fr.length
  ·obtain⟨y,h1,h2,h3,h4,h5⟩:=s.frs j fr[j] (by simp[hj]);rw[hx]at h2;cases h2;rw[h3]at hl;rw[h5];refine hl.trans ?_;have hk:=g.kd fr[j] x h1;show Γ (if(Τ == Τ&&X.env.scope.kind == .function&&X.env.kindOf x == Γ .cell)=Δ then NameKind.cell else Τ)=_;rw[hk,g.fk];rfl
  ·obtain⟨h1,h2⟩:=s.tgs j x (by omega) hx;rw[h1]at hl;rw[h2];exact hl
 noD:=fun j x hx=>s.noD x (Af hx)
 gl:=fun n hn x e=>by obtain⟨y,h1,h2⟩:=s.gl n hn;rw[e]at h1;cases h1;show(relabel scope X.env).names.lookup x=_;have hl:=gQ (env:=X.env) (x:=x) scope.names;rw[h2]at hl;exact hl
 nam:=g.nam
 df:=fun z=>by rw[s.df]at z;cases z
 blt:=g.blt
 cst:=g.cst
 fns:=fun f hf _ x hx=>g.fns f hf (.inl s.cm) x hx
 fio:=fun f hf _ x hx=>g.fio f hf s.cm x hx
 xcv:=g.xcv
 xcl:=g.xcl
 xmt:=g.xmt
 xrs:=g.xrs
 rse:=fun z=>by rw[s.nrs]at z;cases z
 tr:=fun z=>by rw[s.tr]at z;cases z
 exs:=⟨E,ny,hE.2⟩
 hid:=g.hid
 exn:=g.exn
 cx:=g.cx
 frm:=g.frm
end
abbrev nox:Str->Prop:=fun _=>False
section
variable {K:Frag}{S:Ψ->Prop}{H:Hp}{σ:St}{τ:Ev}{ex:Str->Prop}{cl:Nat->List D->Res D}{G G':Gm}{fr:List Nat}
noncomputable def blk (G':Gm)(fr:List Nat)(τ:Ev):Ev:=fr.map (eZ τ)++Ρ (G'.N.length - fr.length) Ξ
theorem tf (hl:fr.length<=G'.N.length):(blk G' fr τ).length=G'.N.length:=by unfold blk;rw[zW,h_,List.length_replicate];omega
theorem ti (Tg:List Str)(σ:St):(stC (frN G fr) Tg σ).length=fr.length+Tg.length:=by unfold stC frN;rw[zW,h_,h_,List.length_replicate]
theorem qH {j:Nat}{d:D}(h:eZ (blk G' fr τ) j=Γ d):∃i,fr[j]? = Γ i/\eZ τ i=Γ d:=by
 unfold eZ blk at h;by_cases hj:j < fr.length
 ·rw[Ay (by simpa using hj),Ac,Aw hj]at h;exact⟨fr[j],by simp[hj],h⟩
 ·rw[List.getElem?_append_right (by simpa using hj),List.getElem?_replicate]at h;split at h<;>cases h
theorem tj {vs:List Nat}{σ':St}(hl:fr.length<=G'.N.length)(hs:Slots K S H σ τ (fr++vs))(hn:σ'.length=G'.N.length)(hσ:∀j,j < fr.length->σ'[j]? = (stC (frN G fr) (G'.N.drop fr.length) σ)[j]?):SlA K S H σ' (blk G' fr τ):=by refine⟨by rw[tf hl,hn],fun j d h=>?_⟩;obtain⟨i,hi,hd⟩:=qH h;have hj:j < fr.length:=(y_.mp hi).1;obtain⟨v,h1,h2⟩:=hs i (r_ _ (Af hi)) d hd;refine⟨v,?_,h2⟩;rw[hσ j hj];unfold stC frN;rw[Ay (by simpa using hj),Ac,Ac,hi];show Γ ((σ[i]?).join)=Γ (Γ v);rw[h1];rfl
noncomputable def fD (cl:Nat->List D->Res D)(T:Tg)(I:List IR)(E:IR)(τ0:Ev)(x:D):Res (Option D):=bnd (gy T x τ0) fun τ1=>bnd (iH cl I τ1) fun r=>if r=Δ then bnd (evR cl E τ1) fun d=>.ok (Γ d) else .ok Ξ
theorem gR {vs:List Nat}{fs:Ev->Res (List D)}{T:Tg}{I:List IR}{E:IR}{Kt:D->Prop}{Q:VK}(hl:fr.length<=G'.N.length)(ha:∀i∈tgs T,fr.length<=i)(hs:Slots K S H σ τ (fr++vs))
  (q:PO' ex (bnd (fs τ) fun its=>grd (jK its.length) (bnd (fm (fD cl T I E (blk G' fr τ)) its) fun ds=>.ok (.lst Δ ds))) Kt)
  (fin:∀A ys ds H',eX H H'->H A=Ξ->H' A=Γ (.lst ys)->HReps K (fun a=>nw S H a/\a≠A) H' ys ds->Kt (.lst Δ ds)->Q (.ref A) H') :
  qa (RI K ex vs fs) (stC (frN G fr) (G'.N.drop fr.length)) (gT K T) (RT K ex (eW I) (iH cl I)) (RD K ex (vars E) (evR cl E)) σ H Q:=by
 refine x6 (.refl _) hs.right (PO'.bnd q) fun its J H1 e1 _ w1 q1 A hA=>?_;obtain⟨gd,q1⟩:=PO'.grd q1;have q2:=PO'.bnd q1;have hsz:=nY gd;have hHA:H A=Ξ:=e1.free hA
 -- what is read stands apart from the new list
 have tight:∀a,nw S H a->H1 a≠Ξ->nw S H a/\a≠A:=fun a h1 h2=>⟨h1,fun z=>h2 (by rw[z];exact hA)⟩
 have w2:Wlk K (fun a=>nw S H a/\a≠A) H1 J its:=w1.step (fun a xs h r=>⟨tight a h r.some,r⟩) fun a xs h=>h;have hs2:Slots K (fun a=>nw S H a/\a≠A) H1 σ τ (fr++vs):=fun i hi d z=>by obtain⟨v,h1,h2⟩:=(hs.go e1) i hi d z;exact⟨v,h1,h2.step (fun a xs h r=>⟨tight a h r.some,r⟩) fun a xs h=>h⟩
 refine⟨fun i m σ' H'=>m=its.length - i/\i<=its.length/\∃ys acc,H' A=Γ (.lst ys)/\HReps K (fun a=>nw S H a/\a≠A) H' ys acc/\ys.length<=i/\eX H1 H'/\σ'.length=G'.N.length/\
   (∀j,j < fr.length->σ'[j]? = (stC (frN G fr) (G'.N.drop fr.length) σ)[j]?)/\PO' ex (fm (fD cl T I E (blk G' fr τ)) (its.drop i)) fun ds=>Kt (.lst Δ (acc++ds)),⟨its.length,by simp,Nat.zero_le _,[],[],fg,.nil,k_ _,.upd hA,?_,fun _ _=>rfl,?_⟩,?_⟩
 ·rw[ti,Ak];omega
 ·rw[List.drop_zero];exact q2.mono fun ds z=>z.ok
 ·rintro i m σ' H' ⟨rfl,hi,ys,acc,hy,my,ly,e2,hn,hσ,q3⟩;by_cases hlt:i < its.length
  ·refine .inr ⟨(w2.mono (fun _ z=>z) e2).go hlt,fun x H2 hy2=>?_⟩;obtain⟨eH,mx⟩:=(w2.mono (fun _ z=>z) e2).yld hy2 (d:=its[i]) (by simp[hlt]);have hy:=eH _ _ hy;have my:=my.mono (fun _ z=>z) eH;have e2:=e2.trans eH;have hd:its.drop i=its[i]::its.drop (i+1):=List.drop_eq_getElem_cons hlt;rw[hd]at q3;have q4:=PO'.bnd q3;have q5:PO' ex (gy T its[i] (blk G' fr τ)) _:=PO'.bnd q4
   have sl:SlA K (fun a=>nw S H a/\a≠A) H2 σ' (blk G' fr τ):=tj (G:=G) (vs:=vs) (σ:=σ) hl (fun i hi d z=>by
    obtain⟨v,h1,h2⟩:=hs2 i hi d z
    exact⟨v,h1,h2.mono (fun _ z=>z) e2⟩) hn hσ
   refine om T sl mx q5 fun τ' σ2 sl2 hn' hk q6=>?_;have hn2:σ2.length=G'.N.length:=hn'.trans hn;have hσ2:∀j,j < fr.length->σ2[j]? = (stC (frN G fr) (G'.N.drop fr.length) σ)[j]?:=fun j hj=>by rw[hk j (fun z=>by have:=ha j z;omega)];exact hσ j hj
   have sl3:∀is,Slots K (fun a=>nw S H a/\a≠A) H2 σ2 τ' is:=fun is i _ d z=>sl2.2 i d z;refine iU (.refl _) (sl3 _) (PO'.bnd q6) fun r H4 e4 _ q7=>?_
   induction r using zB with
   |false=>rw[c_ i_]at q7 ⊢;have q8:PO' ex (fm (fD cl T I E (blk G' fr τ)) (its.drop (i+1))) fun ds=>Kt (.lst Δ (acc++ds)):=q7;refine⟨its.length - (i+1),by omega,rfl,hlt,ys,acc,e4 _ _ hy,my.mono (fun _ z=>z) e4,by omega,e2.trans e4,hn2,hσ2,q8⟩
   |true=>
    rw[d_ rfl]at q7 ⊢;refine fJ e4 (sl3 _) (PO'.bnd q7) fun d v H5 e5 e5' m5 q8=>?_;have q9:PO' ex (bnd (fm (fD cl T I E (blk G' fr τ)) (its.drop (i+1))) fun r=>.ok (d::r)) fun ds=>Kt (.lst Δ (acc++ds)):=q8;have q10:=PO'.bnd q9;have hy5:H5 A=Γ (.lst ys):=e5 _ _ hy;refine⟨ys,hy5,by omega,its.length - (i+1),by omega,rfl,hlt,ys++[v],acc++[d],fg,?_,by rw[zW,Av];omega,?_,hn2,hσ2,?_⟩
    ·have hl5:∀a (xs:LD),(nw S H a/\a≠A)->Rd H5 a xs.o->(nw S H a/\a≠A)/\Rd (upd H5 A (.lst (ys++[v]))) a xs.o:=fun a xs h r=>by refine⟨h,?_⟩;unfold Rd;rw[eY h.2];exact r
     have ht5:∀a xs,SqE K H5 a xs->SqE K (upd H5 A (.lst (ys++[v]))) a xs:=fun a xs h=>h.upd hy5
     have m6:HRep K (fun a=>nw S H a/\a≠A) H5 v d:=m5.step (fun a xs h r=>⟨by
      rcases h with h|h
      ·exact h
      ·have:H a=Ξ:=e1.free (e2.free h)
       exact⟨.inr this,fun z=>by rw[z,hy]at h;cases h⟩,r⟩) fun a xs h=>h
     exact(((my.mono (fun _ z=>z) e5).step hl5 ht5)).append (.cons (m6.step hl5 ht5) .nil)
    ·exact fun b o hb=>by
      have:b≠A:=by rintro rfl;rw[hA]at hb;cases hb
      rw[eY this];exact e5 _ _ (e2 _ _ hb)
    ·refine q10.mono fun ds z=>?_;have z':=z.ok;rw[z_];exact z'
  ·have e:i=its.length:=by omega
   subst e;refine .inl ⟨(w2.mono (fun _ z=>z) e2).stop rfl,?_⟩;rw[List.drop_length]at q3;have q4:=q3.ok;rw[Am]at q4;exact fin A ys acc H' (e1.trans e2) hHA hy my q4
end
section
variable {Z:Sg}{CX:CXT}{cl:Nat->List D->Res D}{xp:XK->Hp->Str->Prop}{X:Cx}{ex:Str->Prop}{G G':Gm}{fr:List Nat}
theorem jZ {T:Tg}{s:Sr}{I:List IR}{E:IR}:evR cl (.comp G' fr T s I E)=fun τ=>bnd (iQ cl s τ) fun its=>grd (jK its.length) (bnd (fm (fD cl T I E (blk G' fr τ)) its) fun ds=>.ok (.lst Δ ds)):=rfl
theorem vS (g:GOk Z CX cl xp X ex G){scope:Scope}{tg iter elt:Expr}{ifs:List Expr}{pos:Pos}{T:Tg}{s:Sr}{I:List IR}{E:IR}(hs:ScOk Z G scope G' fr)(hT:gF G' T tg=Δ)(ha:∀i∈tgs T,fr.length<=i)
  (hi:PI X tg iter (RI X.K ex (iP s) (iQ cl s))) (ht:∀X',GOk Z CX cl xp X' ex G'->PTs X' ifs (RT X'.K ex (eW I) (iH cl I))) (he:∀X',GOk Z CX cl xp X' ex G'->PE X' elt (RD X'.K ex (vars E) (evR cl E)))
  (hf:∀x,foldedSetIterable iter X.env x=pure x):PE X (.ListComp elt [⟨tg,iter,ifs,0⟩] scope pos) (RD X.K ex (fr++iP s) (evR cl (.comp G' fr T s I E))):=by
 intro pins s' σ H Q Iv h;obtain⟨cl',S⟩:=jg g Iv.ok hs;obtain⟨E0,hE0⟩:=g.exs;have p:=nV (pos:=pos) (elt:=elt) (ifs:=ifs) (tg:=tg) (g:=gT X.K T) (tt:=RT X.K ex (eW I) (iH cl I)) (te:=RD X.K ex (vars E) (evR cl E)) (g.calm hs.cm) S hi (fun C s H fp=>pgT (gb g hs cl' hE0 C s H fp) T tg hT) (fun C s H fp=>ht _ (gb g hs cl' hE0 C s H fp)) (fun C s H fp=>he _ (gb g hs cl' hE0 C s H fp)) (fun _ _ _ _ _ _ I3 hC f3 _ _ z=>jP hE0.1 g.frm I3 hC f3 z) hf;refine p pins s' σ H Q Iv ?_;obtain⟨S0,τ,hsl,q⟩:=h;rw[jZ]at q;exact gR hs.fle ha hsl q fun A ys ds H' e hA hA' m k=>k _ _ e (.lst (.inr hA) (.inl hA') (m.mono (fun _ z=>z.1) (.refl _)))
end
section
variable {Z:Sg}{CX:CXT}{cl:Nat->List D->Res D}{xp:XK->Hp->Str->Prop}
theorem pF {e:Expr}{a:IR}{G:Gm}(h:chk Z G a e=Δ)(env:Env)(x:Φ):foldedSetIterable e env x=pure x:=by
 induction e using zE<;>first|rfl|(induction a using zI<;>cases h)
theorem gB {e:Expr}{a:Sr}{G:Gm}(h:gJ Z G a e=Δ)(env:Env)(x:Φ):foldedSetIterable e env x=pure x:=by
 cases a with
 |val a=>exact pF (show chk Z G a e=Δ from h) env x
 |_=>induction e using zE<;>first|rfl|cases h
theorem both {X:Cx}{ex:Str->Prop}{e:Expr}{is:List Nat}{f:Ev->Res D}(h:PE X e (RD X.K ex is f))(he:∀whole,isTrue e X.env whole=(do let v <- whole;standAt e.pos;holding [v] (truthy v)):=by intro _;rfl) :
  PE X e (RD X.K ex is f)/\PT X e (RT X.K ex is fun τ=>bnd (f τ) fB):=⟨h,xK h he⟩
mutual
theorem snd:∀(a:IR) (X:Cx) (ex:Str->Prop) (G:Gm) (e:Expr),GOk Z CX cl xp X ex G->chk Z G a e=Δ->PE X e (RD X.K ex (vars a) (evR cl a))/\PT X e (RT X.K ex (vars a) fun τ=>bnd (evR cl a τ) fB)
 |.c d,X,ex,G,e,g,h=>by
  induction e using zE with
  |Constant k j pos=>exact both (s_c h)
  |_=>exists h
 |.g n d,X,ex,G,e,g,h=>by
  induction e using zE with
  |Name x pos=>have h':(fx Z G n x&&Z.kst.any fun p=>p.1 == n&&pA p.2 d)=Δ:=h;rw[e_]at h';exact both (s_g g h'.1 h'.2)
  |_=>exists h
 |.v i,X,ex,G,e,g,h=>by
  induction e using zE with
  |Name x pos=>exact both (s_v g h)
  |_=>exists h
 |.bin op a b,X,ex,G,e,g,h=>by
  induction e using zE with
  |BinOp l o r pos=>have h':(o == bop op&&chk Z G a l&&chk Z G b r)=Δ:=h;simp only[e_]at h';have e1:o=bop op:=f_ h'.1.1;subst e1;exact both (xM (snd a X ex G l g h'.1.2).1 (snd b X ex G r g h'.2).1)
  |_=>exists h
 |.cmp op a b,X,ex,G,e,g,h=>by
  induction e using zE with
  |Compare l os rs pos=>
   match os,rs,h with
   |[o],[r],h=>have h':(o == cop op&&chk Z G a l&&chk Z G b r&&!behindInMarks o r)=Δ:=h;simp only[e_]at h';have e1:o=cop op:=f_ h'.1.1.1;subst e1;exact xN g (snd a X ex G l g h'.1.1.2).1 (snd b X ex G r g h'.1.2).1 (by simpa using h'.2)
   |[],_,h=>exists h
   |[_],[],h=>exists h
   |[_],_::_::_,h=>exists h
   |_::_::_,_,h=>exists h
  |_=>exists h
 |.chain op op' a b c,X,ex,G,e,g,h=>by
  induction e using zE with
  |Compare l os rs pos=>
   match os,rs,h with
   |[o,o'],[m,r],h=>have h':(o == cop op&&o' == cop op'&&chk Z G a l&&chk Z G b m&&chk Z G c r&&!lastMarks [o,o'] [m,r])=Δ:=h;simp only[e_]at h';have e1:o=cop op:=f_ h'.1.1.1.1.1;have e2:o'=cop op':=f_ h'.1.1.1.1.2;subst e1 e2;exact td g (snd a X ex G l g h'.1.1.1.2).1 (snd b X ex G m g h'.1.1.2).1 (snd c X ex G r g h'.1.2).1 (by simpa using h'.2)
   |[],_,h=>exists h
   |[_],_,h=>exists h
   |[_,_],[],h=>exists h
   |[_,_],[_],h=>exists h
   |[_,_],_::_::_::_,h=>exists h
   |_::_::_::_,_,h=>exists h
  |_=>exists h
 |.and_ a b,X,ex,G,e,g,h=>by
  induction e using zE with
  |BoolOp o es pos=>
   match o,es,h with
   |.And,[l,r],h=>have h':(chk Z G a l&&chk Z G b r)=Δ:=h;rw[e_]at h';obtain⟨pa,ta⟩:=snd a X ex G l g h'.1;obtain⟨pb,tb⟩:=snd b X ex G r g h'.2;exact⟨uv pa (pP pb),uw ta (r6 tb)⟩
   |.And,l::r::r'::rest,h=>have h':(chk Z G a l&&chk Z G b (.BoolOp .And (r::r'::rest) pos))=Δ:=h;rw[e_]at h';obtain⟨pa,ta⟩:=snd a X ex G l g h'.1;obtain⟨pb,tb⟩:=snd b X ex G _ g h'.2;exact⟨uv pa pb,uw ta (qD (e:=l) tb)⟩
   |.And,[],h=>exists h
   |.And,[_],h=>exists h
   |.Or,_,h=>exists h
  |_=>exists h
 |.or_ a b,X,ex,G,e,g,h=>by
  induction e using zE with
  |BoolOp o es pos=>
   match o,es,h with
   |.Or,[l,r],h=>have h':(chk Z G a l&&chk Z G b r)=Δ:=h;rw[e_]at h';obtain⟨pa,ta⟩:=snd a X ex G l g h'.1;obtain⟨pb,tb⟩:=snd b X ex G r g h'.2;exact⟨xO pa (pP pb),xQ ta (u6 tb)⟩
   |.Or,l::r::r'::rest,h=>have h':(chk Z G a l&&chk Z G b (.BoolOp .Or (r::r'::rest) pos))=Δ:=h;rw[e_]at h';obtain⟨pa,ta⟩:=snd a X ex G l g h'.1;obtain⟨pb,tb⟩:=snd b X ex G _ g h'.2;exact⟨xO pa pb,xQ ta (qD (e:=l) tb)⟩
   |.Or,[],h=>exists h
   |.Or,[_],h=>exists h
   |.And,_,h=>exists h
  |_=>exists h
 |.not_ a,X,ex,G,e,g,h=>by
  induction e using zE with
  |UnaryOp o l pos=>
   cases o with
   |Not=>obtain⟨pa,ta⟩:=snd a X ex G l g h;exact xP pa ta
   |_=>exists h
  |_=>exists h
 |.ite t a b,X,ex,G,e,g,h=>by
  induction e using zE with
  |IfExp c x y pos=>have h':(chk Z G t c&&chk Z G a x&&chk Z G b y)=Δ:=h;simp only[e_]at h';obtain⟨pa,ta⟩:=snd a X ex G x g h'.1.2;obtain⟨pb,tb⟩:=snd b X ex G y g h'.2;exact xR (snd t X ex G c g h'.1.1).2 pa pb ta tb
  |_=>exists h
 |.tup es,X,ex,G,e,g,h=>by
  induction e using zE with
  |Tuple l n pos=>exact both (xS (kq es X ex G l g h))
  |_=>exists h
 |.lst es,X,ex,G,e,g,h=>by
  induction e using zE with
  |List l pos=>exact both (xT (kq es X ex G l g h))
  |_=>exists h
 |.idx a i,X,ex,G,e,g,h=>by
  induction e using zE with
  |Subscript o s pos=>
   have h':(jS s&&chk Z G a o&&chk Z G i s)=Δ:=by cases s<;>first|exact h|(rename_i l u st p;cases st<;>exact h)
   simp only[e_]at h';exact both (xU (snd a X ex G o g h'.1.2).1 (snd i X ex G s g h'.2).1 h'.1.1)
  |_=>exists h
 |.sl a lo hi,X,ex,G,e,g,h=>by
  induction e using zE with
  |Subscript o s pos=>
   match s,h with
   |.Slice l u Ξ p,h=>have h':(chk Z G a o&&nD Z G lo l&&nD Z G hi u)=Δ:=h;simp only[e_]at h';exact both (zw (snd a X ex G o g h'.1.1).1 (tm lo X ex G l g h'.1.2) (tm hi X ex G u g h'.2))
   |.Slice _ _ (Γ _) _,h=>exists h
   |.BoolOp ..,h=>exists h
   |.NamedExpr ..,h=>exists h
   |.BinOp ..,h=>exists h
   |.UnaryOp ..,h=>exists h
   |.Lambda ..,h=>exists h
   |.IfExp ..,h=>exists h
   |.Dict ..,h=>exists h
   |.Set ..,h=>exists h
   |.ListComp ..,h=>exists h
   |.SetComp ..,h=>exists h
   |.DictComp ..,h=>exists h
   |.GeneratorExp ..,h=>exists h
   |.Await ..,h=>exists h
   |.Yield ..,h=>exists h
   |.YieldFrom ..,h=>exists h
   |.Compare ..,h=>exists h
   |.Call ..,h=>exists h
   |.FormattedValue ..,h=>exists h
   |.JoinedStr ..,h=>exists h
   |.Constant ..,h=>exists h
   |.Attribute ..,h=>exists h
   |.Subscript ..,h=>exists h
   |.Starred ..,h=>exists h
   |.Name ..,h=>exists h
   |.List ..,h=>exists h
   |.Tuple ..,h=>exists h
  |_=>exists h
 |.call f es,X,ex,G,e,g,h=>by
  induction e using zE with
  |Call fn args kws pos=>
   induction fn using zE with
   |Name x p=>
    induction kws using zL with
    |nil=>have h':(fx Z G f x&&Z.fnc G f&&fy Z G es args)=Δ:=h;simp only[e_]at h';exact both (s_call g h'.1.1 h'.1.2 h'.2 (kq es X ex G args g h'.2))
    |cons _ _=>exists h
   |_=>exists h
  |_=>exists h
 |.bi f es,X,ex,G,e,g,h=>by
  induction e using zE with
  |Call fn args kws pos=>
   induction fn using zE with
   |Name x p=>
    induction kws using zL with
    |nil=>
     induction args using zL with
     |nil=>exists h
     |cons a args=>have h':(x == gZ f&&G.glc (kN f)&&fy Z G es (a::args))=Δ:=h;simp only[e_]at h';have e1:x=gZ f:=f_ h'.1.1;subst e1;exact both (zx g h'.1.2 h'.2 (kq es X ex G _ g h'.2))
    |cons _ _=>cases args<;>exists h
   |_=>exists h
  |_=>exists h
 |.lrev a,X,ex,G,e,g,h=>by
  have h:lrv e (fun x y e=>x == "list"&&G.glc 5&&y == "reversed"&&G.gl.contains 18&&notStar e&&chk Z G a e)=Δ:=by induction e using zE<;>exact h
  obtain⟨x,p,y,p',e',pos',pos,rfl,h⟩:=vO h;have h:(x == "list"&&G.glc 5&&y == "reversed"&&G.gl.contains 18&&notStar e'&&chk Z G a e')=Δ:=h;simp only[e_]at h;have e1:x = "list":=f_ h.1.1.1.1.1;have e2:y = "reversed":=f_ h.1.1.1.2;subst e1 e2;exact both (vP g h.1.1.1.1.2 h.1.1.2 h.1.2 (snd a X ex G e' g h.2).1)
 |.ftr x a y,X,ex,G,e,g,h=>by
  have h:jrv e (fun x' e' y'=>x == x'&&y == y'&&decide (x.length<=1000)&&chk Z G a e')=Δ:=by induction e using zE<;>exact h
  obtain⟨x',e',y',h,he⟩:=vN h;simp only[e_]at h;have e1:=f_ h.1.1.1;have e2:=f_ h.1.1.2;subst e1 e2;have pe:=xX (m_ h.1.2) he (snd a X ex G e' g h.2).1;rcases he with⟨j,p,q,pos,_,rfl⟩|⟨w,j,p,q,j',r,pos,_,rfl⟩
  ·exact both pe
  ·exact both pe
 |.isx a ns tb,X,ex,G,e,g,h=>by
  induction e using zE with
  |Call fn args kws pos=>
   induction fn using zE with
   |Name x p=>
    match args,kws,h with
    |[o,y],[],h=>have h':(x == "isinstance"&&G.gl.contains 14&&notStar o&&qB Z G ns y&&tb.all (vM Z ns)&&chk Z G a o)=Δ:=h;simp only[e_]at h';have e1:x = "isinstance":=f_ h'.1.1.1.1.1;subst e1;exact both (xW g h'.1.1.1.1.2 h'.1.1.1.2 h'.1.1.2 h'.1.2 (snd a X ex G o g h'.2).1)
    |[],_,h=>exists h
    |[_],_,h=>exists h
    |_::_::_::_,k,h=>cases k<;>exists h
    |[_,_],_::_,h=>exists h
   |_=>exists h
  |_=>exists h
 |.isi a k,X,ex,G,e,g,h=>by
  induction e using zE with
  |Call fn args kws pos=>
   induction fn using zE with
   |Name x p=>
    match args,kws,h with
    |[o,.Name y p'],[],h=>have h':(x == "isinstance"&&G.gl.contains 14&&y == iI k&&G.gl.contains (oh k)&&notStar o&&chk Z G a o)=Δ:=h;simp only[e_]at h';have e1:x = "isinstance":=f_ h'.1.1.1.1.1;have e2:y=iI k:=f_ h'.1.1.1.2;subst e1 e2;exact both (xV g h'.1.1.1.1.2 h'.1.1.2 h'.1.2 (snd a X ex G o g h'.2).1)
    |[],_,h=>exists h
    |[_],_,h=>exists h
    |_::b::_::_,k,h=>cases b<;>cases k<;>exists h
    |[_,.Name _ _],_::_,h=>exists h
    |[_,.BoolOp ..],_,h=>exists h
    |[_,.NamedExpr ..],_,h=>exists h
    |[_,.BinOp ..],_,h=>exists h
    |[_,.UnaryOp ..],_,h=>exists h
    |[_,.Lambda ..],_,h=>exists h
    |[_,.IfExp ..],_,h=>exists h
    |[_,.Dict ..],_,h=>exists h
    |[_,.Set ..],_,h=>exists h
    |[_,.ListComp ..],_,h=>exists h
    |[_,.SetComp ..],_,h=>exists h
    |[_,.DictComp ..],_,h=>exists h
    |[_,.GeneratorExp ..],_,h=>exists h
    |[_,.Await ..],_,h=>exists h
    |[_,.Yield ..],_,h=>exists h
    |[_,.YieldFrom ..],_,h=>exists h
    |[_,.Compare ..],_,h=>exists h
    |[_,.Call ..],_,h=>exists h
    |[_,.FormattedValue ..],_,h=>exists h
    |[_,.JoinedStr ..],_,h=>exists h
    |[_,.Constant ..],_,h=>exists h
    |[_,.Attribute ..],_,h=>exists h
    |[_,.Subscript ..],_,h=>exists h
    |[_,.Starred ..],_,h=>exists h
    |[_,.Slice ..],_,h=>exists h
    |[_,.List ..],_,h=>exists h
    |[_,.Tuple ..],_,h=>exists h
   |_=>exists h
  |_=>exists h
 |.mth m o es,X,ex,G,e,g,h=>by
  induction e using zE with
  |Call fn args kws pos=>
   induction fn using zE with
   |Attribute oe name apos=>
    match args,kws,h with
    |a::args,[],h=>have h':(name == jN m&&jT oe&&apos.endLine == pos.line&&(decide ((a::args).length < 29)&&(G.cm||nC m))&&chk Z G o oe&&fy Z G es (a::args))=Δ:=h;simp only[e_]at h';have e1:name=jN m:=f_ h'.1.1.1.1.1;subst e1;exact both (xY g h'.1.1.1.1.2 h'.1.1.1.2 (m_ h'.1.1.2.1) h'.1.1.2.2 h'.2 (snd o X ex G oe g h'.1.2).1 (kq es X ex G _ g h'.2))
    |[],_,h=>exists h
    |_::_,_::_,h=>exists h
   |_=>exists h
  |_=>exists h
 |.comp G' fr tg src ifs elt,X,ex,G,e,g,h=>by
  induction e using zE with
  |ListComp el gens scope pos=>
   have h:pB gens (fun t it fs=>f9 Z G scope G' fr&&gF G' tg t&&(tgs tg).all (fun i=>decide (fr.length<=i))&&(gJ Z G src it&&jt src t)&&fy Z G' ifs fs&&chk Z G' elt el)=Δ:=h;obtain⟨t,it,fs,rfl,h⟩:=lH h;have h':(f9 Z G scope G' fr&&gF G' tg t&&(tgs tg).all (fun i=>decide (fr.length<=i))&&(gJ Z G src it&&jt src t)&&fy Z G' ifs fs&&chk Z G' elt el)=Δ:=h;simp only[e_]at h'
   exact both (vS g (lL h'.1.1.1.1.1) h'.1.1.1.1.2 (fun i hi=>m_ (zY.mp h'.1.1.1.2 i hi)) (tu src X ex G it t g h'.1.1.2.1 h'.1.1.2.2)
    (fun X' g'=>tq ifs X' ex G' fs g' h'.1.2) (fun X' g'=>(snd elt X' ex G' el g' h'.2).1) (fun x=>gB h'.1.1.2.1 X.env x))
  |_=>exists h
theorem kq:∀(as:List IR) (X:Cx) (ex:Str->Prop) (G:Gm) (l:List Expr),GOk Z CX cl xp X ex G->fy Z G as l=Δ->PA X l (RA X.K ex (eW as) (fq cl as))
 |[],X,ex,G,l,g,h=>by
  induction l using zL with
  |nil=>exact k9 gK fun σ H Q ⟨S,τ,hs,q⟩=>q.ok _ _ (.refl _) .nil
  |cons _ _=>exists h
 |a::as,X,ex,G,l,g,h=>by
  induction l using zL with
  |nil=>exists h
  |cons e l=>have h':(notStar e&&chk Z G a e&&fy Z G as l)=Δ:=h;simp only[e_]at h';refine k9 (fM (snd a X ex G e g h'.1.2).1 (kq as X ex G l g h'.2) (eT h'.1.1 _ _)) fun σ H Q ⟨S,τ,hs,q⟩=>?_;refine fJ (.refl _) hs.left (PO'.bnd q) fun x v H1 e1 _ m1 q1=>?_;refine mG e1 hs.right (PO'.bnd q1) fun ds vs H2 e2 e2' m2 q2=>?_;exact q2.ok _ _ e2 (.cons (m1.later e2') m2)
theorem tm:∀(o:Option IR) (X:Cx) (ex:Str->Prop) (G:Gm) (e:Option Expr),GOk Z CX cl xp X ex G->nD Z G o e=Δ->PO X e (ROp X.K ex (qj o) (lp cl o))
 |none,X,ex,G,e,g,h=>by
  induction e using zO with
  |none=>intro pins s σ H Q I ⟨S,τ,hs,q⟩;exact su pins s σ H Q I (q.ok H (.refl _))
  |some _=>exists h
 |some a,X,ex,G,e,g,h=>by
  induction e using zO with
  |none=>exists h
  |some e=>
   intro pins s σ H Q I ⟨S,τ,hs,q⟩;refine sv (snd a X ex G e g h).1 pins s σ H Q I ?_;refine fJ (.refl _) hs (PO'.bnd q) fun x v H1 e1 _ m1 q1=>?_
   induction x using zD with
   |int i=>cases m1.intR;exact⟨i,rfl,q1.ok _ e1⟩
   |_=>exact q1.no.elim
theorem tq:∀(as:List IR) (X:Cx) (ex:Str->Prop) (G:Gm) (l:List Expr),GOk Z CX cl xp X ex G->fy Z G as l=Δ->PTs X l (RT X.K ex (eW as) (iH cl as))
 |[],X,ex,G,l,g,h=>by
  induction l using zL with
  |nil=>intro pins s σ H Q I ⟨S,τ,hs,q⟩;exact sE pins s σ H Q I (q.ok H (.refl _))
  |cons _ _=>exists h
 |a::as,X,ex,G,l,g,h=>by
  induction l using zL with
  |nil=>exists h
  |cons e l=>
   have h':(notStar e&&chk Z G a e&&fy Z G as l)=Δ:=h;simp only[e_]at h';intro pins s σ H Q I ⟨S,τ,hs,q⟩;refine p9 (snd a X ex G e g h'.1.2).2 (tq as X ex G l g h'.2) pins s σ H Q I ?_;refine iU (.refl _) hs.left (PO'.bnd q) fun r H2 e2 _ k=>?_
   induction r using zB with
   |true=>rw[d_ rfl]at k ⊢;exact iU e2 hs.right k fun b H3 e3 _ z=>z H3 e3
   |false=>rw[c_ i_]at k ⊢;exact k.ok H2 e2
theorem tu:∀(s:Sr) (X:Cx) (ex:Str->Prop) (G:Gm) (e tg:Expr),GOk Z CX cl xp X ex G->gJ Z G s e=Δ->jt s tg=Δ->PI X tg e (RI X.K ex (iP s) (iQ cl s))
 |.rng1 n,X,ex,G,e,tg,g,h,ht=>by
  induction e using zE with
  |Call fn args kws pos=>
   induction fn using zE with
   |Name x p=>
    match args,kws,h with
    |[a],[],h=>have h':(x == "range"&&G.gl.contains 15&&notStar a&&chk Z G n a)=Δ:=h;simp only[e_]at h';have e1:x = "range":=f_ h'.1.1.1;subst e1;exact vR g h'.1.1.2 h'.1.2 (snd n X ex G a g h'.2).1
    |[],_,h=>exists h
    |[_],_::_,h=>exists h
    |_::_::_,_,h=>exists h
   |_=>exists h
  |_=>exists h
 |.val a,X,ex,G,e,tg,g,h,ht=>x8 (snd a X ex G e g h).1
end
end
inductive Rps (K:Frag)(F:Ψ->Prop)(H:Hp):St->Ev->List Ψ->Prop where
 | nil:Rps K F H [] [] []
 | none {o:Option V}{σ:St}{τ:Ev}{f:List Ψ}:Rps K F H σ τ f->Rps K F H (o::σ) (.none::τ) f
 | some {v:V}{d:D}{f:List Ψ}{σ:St}{τ:Ev}{g:List Ψ}:MRep K F H v d f->Rps K F H σ τ g->Rps K F H (.some v::σ) (.some d::τ) (f++g)
section
variable {K:Frag}{F F':Ψ->Prop}{H H':Hp}{σ:St}{τ:Ev}{f:List Ψ}
theorem Rps.step (hl:∀a (u:LD),F a->Rd H a u.o->F' a/\Rd H' a u.o)(ht:∀a xs,SqE K H a xs->SqE K H' a xs):∀ {σ:St}{τ:Ev}{f:List Ψ},(∀a∈f,¬F a->H a≠Option.none->¬F' a/\H' a=H a)->Rps K F H σ τ f->Rps K F' H' σ τ f
 |_,_,_,_,.nil=>.nil
 |_,_,_,k,.none h=>.none (Rps.step hl ht k h)
 |_,_,_,k,.some m h=>.some (m.step hl ht fun a ha=>k a (r_ _ ha)) (Rps.step hl ht (fun a ha=>k a (o_ _ ha)) h)
theorem Rps.own:∀ {σ:St}{τ:Ev}{f:List Ψ},Rps K F H σ τ f->∀a∈f,¬F a/\∃u,H a=.some u
 |_,_,_,.nil=>fun _ h=>absurd h (by simp)
 |_,_,_,.none h=>Rps.own h
 |_,_,_,.some m h=>fun a ha=>by
  rcases x_.mp ha with ha|ha
  ·exact m.own a ha
  ·exact Rps.own h a ha
theorem gC {o:Option D}{τ:Ev}{i:Nat}:eZ (o::τ) (i+1)=eZ τ i:=by unfold eZ;simp
theorem g6 {o:Option D}{τ:Ev}:eZ (o::τ) 0=o:=by unfold eZ;simp
theorem Rps.at:∀ {σ:St}{τ:Ev}{f:List Ψ}{i:Nat}{d:D},Rps K F H σ τ f->eZ τ i=.some d->∃v fv g,σ[i]? = .some (.some v)/\MRep K F H v d fv/\Rps K F H σ (τ.set i .none) g/\f.Perm (fv++g)
 |_,_,_,i,d,.nil,h=>by simp[eZ]at h
 |_,_,_,0,d,.none _,h=>by rw[g6]at h;cases h
 |_,_,_,0,d,.some m h',h=>by rw[g6]at h;cases h;exact⟨_,_,_,rfl,m,.none h',.refl _⟩
 |_,_,_,i+1,d,.none h',h=>by rw[gC]at h;obtain⟨v,fv,g,h1,h2,h3,h4⟩:=Rps.at h' h;exact⟨v,fv,g,by simpa using h1,h2,.none h3,h4⟩
 |_,_,_,i+1,d,.some (f:=f0) m h',h=>by rw[gC]at h;obtain⟨v,fv,g,h1,h2,h3,h4⟩:=Rps.at h' h;refine⟨v,fv,f0++g,by simpa using h1,h2,.some m h3,?_⟩;refine(Az f0 h4).trans ?_;rw[<- z_,<- z_];exact List.Perm.append_right g AA
theorem Rps.put:∀ {σ:St}{τ:Ev}{f:List Ψ} (i:Nat) {v:V}{d:D}{fv:List Ψ},Rps K F H σ τ f->MRep K F H v d fv->∃g h,Rps K F H (σ.set i (.some v)) (τ.set i (.some d)) g/\(g++h).Perm (fv++f)
 |_,_,_,i,v,d,fv,.nil,m=>⟨[],_,.nil,.refl _⟩
 |_,_,_,0,v,d,fv,.none h,m=>⟨_,[],.some m h,by rw[Am]⟩
 |_,_,_,0,v,d,fv,.some (f:=f0) (g:=g0) m' h,m=>⟨_,f0,.some m h,by rw[z_];exact Az _ AA⟩
 |_,_,_,i+1,v,d,fv,.none h,m=>by obtain⟨g,h',h1,h2⟩:=Rps.put i h m;exact⟨g,h',.none h1,h2⟩
 |_,_,_,i+1,v,d,fv,.some (f:=f0) (g:=g0) m' h,m=>by obtain⟨g,h',h1,h2⟩:=Rps.put i h m;refine⟨f0++g,h',.some m' h1,?_⟩;rw[z_];refine(Az f0 h2).trans ?_;rw[<- z_,<- z_];exact List.Perm.append_right g0 AA
theorem Rps.slots {S:Ψ->Prop}{is:List Nat}(h:Rps K F H σ τ f)(hF:∀a,F a->S a)(hf:∀a∈f,S a):Slots K S H σ τ is:=fun i hi d z=>by obtain⟨v,fv,g,h1,h2,h3,h4⟩:=h.at z;exact⟨v,h1,h2.read hF fun a ha=>hf a (h4.mem_iff.mpr (r_ _ ha))⟩
theorem Rps.freeze (is:List Nat):∀ {σ:St}{τ:Ev}{f:List Ψ} (k:Nat),Rps K F H σ τ f->∃fi g,f.Perm (fi++g)/\(∀F':Ψ->Prop,(∀a,F a->F' a)->(∀a∈fi,F' a)->(∀a∈g,¬F a->¬F' a)->Rps K F' H σ (kn is k τ) g)/\
  ∀F':Ψ->Prop,(∀a,F a->F' a)->(∀a∈fi,F' a)->∀i,is.contains (k+i)=Δ->∀d,eZ τ i=.some d->∃v,σ[i]? = .some (.some v)/\HRep K F' H v d
 |_,_,_,k,.nil=>⟨[],[],.refl _,fun _ _ _ _=>.nil,fun _ _ _ i _ d z=>by simp[eZ]at z⟩
 |_,_,_,k,.none h=>by
  obtain⟨fi,g,h1,h2,h3⟩:=Rps.freeze is (k+1) h;refine⟨fi,g,h1,fun F' a b c=>?_,fun F' a b i hi d z=>?_⟩
  ·unfold kn;have e:(if is.contains k=Δ then Option.map er (Option.none:Option D) else Option.none)=Option.none:=by split<;>rfl
   rw[e];exact .none (h2 F' a b c)
  ·cases i with
   |zero=>rw[g6]at z;cases z
   |succ i=>rw[gC]at z;obtain⟨v,q1,q2⟩:=h3 F' a b i (by rw[show k+1+i=k+(i+1) by omega];exact hi) d z;exact⟨v,by simpa using q1,q2⟩
 |_,_,_,k,.some (v:=v) (d:=d0) (f:=f0) (g:=g0) m h=>by
  obtain⟨fi,g,h1,h2,h3⟩:=Rps.freeze is (k+1) h;by_cases hc:is.contains k=Δ
  ·refine⟨f0++fi,g,by rw[z_];exact Az _ h1,fun F' a b c=>?_,fun F' a b i hi d z=>?_⟩
   ·unfold kn;rw[d_ hc];exact .some (f:=[]) ((m.read a fun x hx=>b x (r_ _ hx)).frozen) (h2 F' a (fun x hx=>b x (o_ _ hx)) c)
   ·cases i with
    |zero=>rw[g6]at z;cases z;exact⟨v,rfl,m.read a fun x hx=>b x (r_ _ hx)⟩
    |succ i=>rw[gC]at z;obtain⟨v,q1,q2⟩:=h3 F' a (fun x hx=>b x (o_ _ hx)) i (by rw[show k+1+i=k+(i+1) by omega];exact hi) d z;exact⟨v,by simpa using q1,q2⟩
  ·refine⟨fi,f0++g,?_,fun F' a b c=>?_,fun F' a b i hi d z=>?_⟩
   ·refine(Az f0 h1).trans ?_;rw[<- z_,<- z_];exact List.Perm.append_right g AA
   ·unfold kn;rw[c_ hc];exact .some (m.step (fun x xs q r=>⟨a x q,r⟩) (fun x xs q=>q) fun x hx n _=>⟨c x (r_ _ hx) n,rfl⟩) (h2 F' a b fun x hx=>c x (o_ _ hx))
   ·cases i with
    |zero=>exact absurd hi hc
    |succ i=>rw[gC]at z;obtain⟨v,q1,q2⟩:=h3 F' a b i (by rw[show k+1+i=k+(i+1) by omega];exact hi) d z;exact⟨v,by simpa using q1,q2⟩
end
structure Stp (F:Ψ->Prop)(H:Hp)(f:List Ψ)(F':Ψ->Prop)(H':Hp):Prop where
 same:eX H H'
 inn:∀a,F a->F' a
 out:∀a,F' a->F a∨a∈f∨H a=Ξ
structure Ow (K:Frag)(F:Ψ->Prop)(H:Hp)(f:List Ψ)(F':Ψ->Prop)(H':Hp)(σ:St)(v:V)(d:D)(fv:List Ψ)(τ':Ev)(f':List Ψ):Prop where
 stp:Stp F H f F' H'
 fok:FOk F' H'
 rep:MRep K F' H' v d fv
 rps:Rps K F' H' σ τ' f'
 nod:(fv++f').Nodup
 mem:∀a∈fv++f',a∈f∨H a=Ξ
structure Ows (K:Frag)(F:Ψ->Prop)(H:Hp)(f:List Ψ)(F':Ψ->Prop)(H':Hp)(σ:St)(v:List V)(d:List D)(fv:List Ψ)(τ':Ev)(f':List Ψ):Prop where
 stp:Stp F H f F' H'
 fok:FOk F' H'
 rep:MReps K F' H' v d fv
 rps:Rps K F' H' σ τ' f'
 nod:(fv++f').Nodup
 mem:∀a∈fv++f',a∈f∨H a=Ξ
section
variable {K:Frag}{F F' F'':Ψ->Prop}{H H' H'':Hp}{f f':List Ψ}
theorem Stp.refl:Stp F H f F H:=⟨.refl _,fun _ h=>h,fun _ h=>.inl h⟩
theorem Stp.trans (a:Stp F H f F' H')(b:Stp F' H' f' F'' H'')(hf:∀x∈f',x∈f∨H x=Ξ):Stp F H f F'' H'':=⟨a.same.trans b.same,fun x h=>b.inn x (a.inn x h),fun x h=>by
 rcases b.out x h with h|h|h
 ·exact a.out x h
 ·rcases hf x h with h|h
  ·exact .inr (.inl h)
  ·exact .inr (.inr h)
 ·exact .inr (.inr (a.same.free h))⟩
theorem MRep.stp {v:V}{d:D}{fv:List Ψ}(m:MRep K F H v d fv)(s:Stp F H f F' H')(h:∀a∈fv,a∉f):MRep K F' H' v d fv:=
 m.step (fun a xs q r=>⟨s.inn a q,s.same.rd r⟩) (fun a xs q=>s.same.seqT q) fun a ha n hn=>by
  obtain⟨_,xs,e⟩:=m.own a ha;refine⟨fun z=>?_,(s.same _ _ e).trans e.symm⟩;rcases s.out a z with z|z|z
  ·exact n z
  ·exact h a ha z
  ·exact hn z
theorem MReps.stp {v:List V}{d:List D}{fv:List Ψ}(m:MReps K F H v d fv)(s:Stp F H f F' H')(h:∀a∈fv,a∉f):MReps K F' H' v d fv:=
 m.step (fun a xs q r=>⟨s.inn a q,s.same.rd r⟩) (fun a xs q=>s.same.seqT q) fun a ha n hn=>by
  obtain⟨_,xs,e⟩:=m.own a ha;refine⟨fun z=>?_,(s.same _ _ e).trans e.symm⟩;rcases s.out a z with z|z|z
  ·exact n z
  ·exact h a ha z
  ·exact hn z
end
def RO (K:Frag)(ex:Str->Prop)(g:Ev->Res (D×Ev)):TE:=fun σ H Q=>∃F τ f,FOk F H/\Rps K F H σ τ f/\f.Nodup/\PO' ex (g τ) fun p=>∀v H' F' fv f',Ow K F H f F' H' σ v p.1 fv p.2 f'->Q v H'
def ROs (K:Frag)(ex:Str->Prop)(g:Ev->Res (List D×Ev)):TA:=fun σ H Q=>∃F τ f,FOk F H/\Rps K F H σ τ f/\f.Nodup/\PO' ex (g τ) fun p=>∀v H' F' fv f',Ows K F H f F' H' σ v p.1 fv p.2 f'->Q v H'
abbrev Kn (K:Frag)(S:Ψ->Prop)(H:Hp)(Q:VK):List D->Prop:=fun ds=>∀p ys H',eX H H'->H p=Ξ->H' p=Γ (.lst ys)->HReps K (fun a=>nw S H a/\a≠p) H' ys ds->Q (.ref p) H'
def RN (K:Frag)(ex:Str->Prop)(is:List Nat)(f:Ev->Res (List D)):TE:=fun σ H Q=>∃S τ,Slots K S H σ τ is/\PO' ex (f τ) (Kn K S H Q)
noncomputable def iF:D->Res (List D)
 |.lst _ ds=>.ok ds
 |_=>stk
section
variable {K:Frag}{F F':Ψ->Prop}{H H':Hp}{σ:St}{τ:Ev}{f:List Ψ}{ex:Str->Prop}{S:Ψ->Prop}
theorem pG {vs ws:List V}{ds:List D}{p:Ψ}{H2:Hp}(m:HReps K (nw S H) H2 vs ds)(hp:H2 p=Ξ):HReps K (fun a=>nw S H a/\a≠p) (upd H2 p (.lst ws)) vs ds:=
 m.step (fun a xs h r=>by
  have hne:a≠p:=fun z=>r.some (by rw[z];exact hp);refine⟨⟨h,hne⟩,?_⟩;unfold Rd;rw[eY hne]
  exact r) fun a xs h=>(eX.upd hp).seqT h
theorem grow (P:Ψ->Prop)(fok:FOk F H)(r:Rps K F H σ τ f)(e:eX H H') :
  FOk (fun a=>F a∨(P a/\H a=Ξ/\H' a≠Ξ)) H'/\Rps K (fun a=>F a∨(P a/\H a=Ξ/\H' a≠Ξ)) H' σ τ f/\Stp F H f (fun a=>F a∨(P a/\H a=Ξ/\H' a≠Ξ)) H':=by
 refine⟨fun a h=>?_,r.step (fun a xs q rd=>⟨.inl q,e.rd rd⟩) (fun a xs q=>e.seqT q) fun a ha n hn=>⟨fun z=>?_,?_⟩,⟨e,fun a h=>.inl h,fun a h=>?_⟩⟩
 ·rcases h with h|h
  ·intro z;exact fok a h (e.free z)
  ·exact h.2.2
 ·rcases z with z|z
  ·exact n z
  ·exact hn z.2.1
 ·obtain⟨_,xs,q⟩:=r.own a ha;exact(e _ _ q).trans q.symm
 ·rcases h with h|h
  ·exact .inl h
  ·exact .inr (.inr h.2.1)
theorem jo (fok:FOk F H)(r:Rps K F H σ τ f)(e:eX H H'):FOk F H'/\Rps K F H' σ τ f/\Stp F H f F H':=by refine⟨fun a h z=>fok a h (e.free z),r.step (fun a xs q rd=>⟨q,e.rd rd⟩) (fun a xs q=>e.seqT q) fun a ha n hn=>⟨n,?_⟩,⟨e,fun a h=>h,fun a h=>.inl h⟩⟩;obtain⟨_,xs,q⟩:=r.own a ha;exact(e _ _ q).trans q.symm
theorem il (is:List Nat)(fok:FOk F H)(r:Rps K F H σ τ f)(nd:f.Nodup):∃F1 g,FOk F1 H/\Rps K F1 H σ (frz is τ) g/\g.Nodup/\Stp F H f F1 H/\(∀a∈g,a∈f)/\Slots K F1 H σ τ is:=by
 obtain⟨fi,g,h1,h2,h3⟩:=r.freeze is 0;have nd':(fi++g).Nodup:=h1.nodup_iff.mp nd;have dis:∀a∈g,a∉fi:=fun a ha hb=>(n_.mp nd').2.2 a hb a ha rfl;have inF:∀a∈fi,a∈f:=fun a ha=>h1.mem_iff.mpr (r_ _ ha);have inG:∀a∈g,a∈f:=fun a ha=>h1.mem_iff.mpr (o_ _ ha);refine⟨fun a=>F a∨a∈fi,g,fun a h=>?_,h2 _ (fun a h=>.inl h) (fun a h=>.inr h) (fun a ha n z=>?_),(n_.mp nd').2.1,⟨.refl _,fun a h=>.inl h,fun a h=>?_⟩,inG,fun i hi d z=>?_⟩
 ·rcases h with h|h
  ·exact fok a h
  ·obtain⟨_,xs,q⟩:=r.own a (inF a h);rw[q];simp
 ·rcases z with z|z
  ·exact n z
  ·exact dis a ha z
 ·rcases h with h|h
  ·exact .inl h
  ·exact .inr (.inl (inF a h))
 ·exact h3 _ (fun a h=>.inl h) (fun a h=>.inr h) i (by simpa using hi) d z
theorem ft {is:List Nat}(r:Rps K F H σ τ f):Slots K (fun _=>True) H σ τ is:=r.slots (fun _ _=>trivial) fun _ _=>trivial
theorem HRep.fix {v:V}{d:D}(m:HRep K (L2.nw F H) H' v d):HRep K (fun a=>F a∨(True/\H a=Ξ/\H' a≠Ξ)) H' v d:=m.step (fun a xs h r=>⟨h.elim (fun z=>.inl z) fun z=>.inr ⟨trivial,z,r.some⟩,r⟩) fun a xs h=>h
end
section
variable {X:Cx}{ex:Str->Prop}{cl:Nat->List D->Res D}
theorem o_v {i:Nat}{e:Expr}(he:PE X e (uZ i))(mv:Bool):PE X e (RO X.K ex (evO cl mv (.v i))):=by
 refine e8 he fun σ H Q ⟨F,τ,f,fok,r,nd,q⟩=>?_;rw[xE]at q;cases z:eZ τ i with
 |none=>rw[z]at q;exact q.no.elim
 |some d=>
  rw[z]at q;obtain⟨v,fv,g,h1,h2,h3,h4⟩:=r.at z;have nd':(fv++g).Nodup:=h4.nodup_iff.mp nd
  induction mv using zB with
  |true=>have q':=(show PO' ex (.ok (d,τ.set i Ξ):Res (D×Ev)) _ from q).ok;exact⟨v,h1,q' v H F fv g ⟨.refl,fok,h2,h3,nd',fun a ha=>.inl (h4.mem_iff.mpr ha)⟩⟩
  |false=>
   have q':=(show PO' ex (.ok (er d,τ.set i (Γ (er d))):Res (D×Ev)) _ from q).ok;have dis:∀a∈g,a∉fv:=fun a ha hb=>(n_.mp nd').2.2 a hb a ha rfl;have m1:MRep X.K (fun a=>F a∨a∈fv) H v (er d) []:=(h2.read (fun a h=>.inl h) (fun a h=>.inr h)).frozen;have r1:Rps X.K (fun a=>F a∨a∈fv) H σ (τ.set i Ξ) g:=h3.step (fun a xs h r=>⟨.inl h,r⟩) (fun a xs h=>h) fun a ha n _=>⟨fun z=>z.elim n (dis a ha),rfl⟩
   obtain⟨g',h',r2,p2⟩:=r1.put i m1;have hσ:σ.set i (Γ v)=σ:=by
    apply List.ext_getElem?;intro j;rw[List.getElem?_set];by_cases hj:i=j
    ·subst hj;have hlt:i < σ.length:=(y_.mp h1).1;rw[d_ rfl,d_ hlt,h1]
    ·rw[c_ hj]
   rw[hσ,List.set_set]at r2;rw[List.nil_append]at p2;have nd2:(g'++h').Nodup:=p2.nodup_iff.mpr (n_.mp nd').2.1;refine⟨v,h1,q' v H _ [] g' ⟨⟨.refl _,fun a h=>.inl h,fun a h=>?_⟩,fun a h=>?_,m1,r2,(n_.mp nd2).1,fun a ha=>?_⟩⟩
   ·exact h.elim (fun z=>.inl z) fun z=>.inr (.inl (h4.mem_iff.mpr (r_ _ z)))
   ·rcases h with h|h
    ·exact fok a h
    ·obtain⟨_,xs,e⟩:=h2.own a h;rw[e];simp
   ·have:a∈g:=p2.mem_iff.mp (r_ _ (by simpa using ha));exact .inl (h4.mem_iff.mpr (o_ _ this))
theorem o_tup {l:List Expr}{n:Nat}{pos:Pos}{g:Ev->Res (List D×Ev)}(h:PA X l (ROs X.K ex g)):PE X (.Tuple l n pos) (RO X.K ex fun τ=>bnd (g τ) fun p=>grd (fL p.1.length) (.ok (.tup p.1,p.2))):=by
 refine e8 (nh h) fun σ H Q ⟨F,τ,f,fok,r,nd,q⟩=>⟨F,τ,f,fok,r,nd,(PO'.bnd q).mono fun p hp vs H1 F1 fv f1 o=>?_⟩
 obtain⟨gd,hp⟩:=PO'.grd hp;refine⟨by rw[o.rep.length];exact fI gd,fun p' hp'=>hp.ok _ _ F1 fv f1 ?_⟩;have e:eX H1 (upd H1 p' (.tup vs)):=.upd hp';obtain⟨k1,k2,k3⟩:=jo o.fok o.rps e;refine⟨o.stp.trans k3 (fun x hx=>o.mem x (o_ _ hx)),k1,.tup (.inl (.inl fg)) (o.rep.stp k3 fun a ha hb=>(n_.mp o.nod).2.2 a ha a hb rfl),k2,o.nod,o.mem⟩
theorem o_lst {l:List Expr}{pos:Pos}{g:Ev->Res (List D×Ev)}(h:PA X l (ROs X.K ex g)):PE X (.List l pos) (RO X.K ex fun τ=>bnd (g τ) fun p=>grd (fL p.1.length) (.ok (.lst Δ p.1,p.2))):=by
 refine e8 (p4 h) fun σ H Q ⟨F,τ,f,fok,r,nd,q⟩=>⟨F,τ,f,fok,r,nd,(PO'.bnd q).mono fun p hp vs H1 F1 fv f1 o=>?_⟩
 obtain⟨gd,hp⟩:=PO'.grd hp;refine⟨by rw[o.rep.length];exact fI gd,fun p' hp'=>hp.ok _ _ F1 (p'::fv) f1 ?_⟩;have e:eX H1 (upd H1 p' (.lst vs)):=.upd hp';obtain⟨k1,k2,k3⟩:=jo o.fok o.rps e;refine⟨o.stp.trans k3 (fun x hx=>o.mem x (o_ _ hx)),k1,.lstO (fun z=>o.fok _ z hp') fg (o.rep.stp k3 fun a ha hb=>(n_.mp o.nod).2.2 a ha a hb rfl),k2,?_,fun a ha=>?_⟩
 ·rw[b_,Ab];refine⟨fun z=>?_,o.nod⟩;rcases x_.mp z with z|z
  ·obtain⟨_,xs,e⟩:=o.rep.own _ z;rw[hp']at e;cases e
  ·obtain⟨_,xs,e⟩:=o.rps.own _ z;rw[hp']at e;cases e
 ·rw[b_]at ha;rcases p_.mp ha with rfl|ha
  ·exact .inr (o.stp.same.free hp')
  ·exact o.mem a ha
theorem o_ite {c a b:Expr}{pos:Pos}{vc:List Nat}{fc:Ev->Res Bool}{fa fb:Ev->Res (D×Ev)}(hc:PT X c (RT X.K ex vc fc))(ha:PE X a (RO X.K ex fa))(hb:PE X b (RO X.K ex fb)) :
  PE X (.IfExp c a b pos) (RO X.K ex fun τ=>bnd (fc τ) fun r=>if r=Δ then fa τ else fb τ):=by
 refine e8 (ma hc ha hb) fun σ H Q ⟨F,τ,f,fok,r,nd,q⟩=>?_;refine iU (.refl _) (ft r) (PO'.bnd q) fun x H2 e2 _ k=>?_;obtain⟨k1,k2,k3⟩:=jo fok r e2;have go:∀ {g:Ev->Res (D×Ev)},PO' ex (g τ) (fun p=>∀v H' F' fv f',Ow X.K F H f F' H' σ v p.1 fv p.2 f'->Q v H')->RO X.K ex g σ H2 Q:=fun hg=>
  ⟨F,τ,f,k1,k2,nd,hg.mono fun p hp v H' F' fv f' o=>hp v H' F' fv f' ⟨k3.trans o.stp (fun x hx=>.inl hx),o.fok,o.rep,o.rps,o.nod,fun a ha=>(o.mem a ha).elim (fun z=>.inl z) fun z=>.inr (e2.free z)⟩⟩
 induction x using zB with
 |true=>rw[d_ rfl]at k ⊢;exact go k
 |false=>rw[c_ i_]at k ⊢;exact go k
theorem vT:PA X [] (ROs X.K ex fun τ=>.ok ([],τ)):=k9 gK fun σ H Q ⟨F,τ,f,fok,r,nd,q⟩=>q.ok [] H F [] f ⟨.refl,fok,.nil,r,nd,fun a ha=>.inl ha⟩
theorem tv {e:Expr}{l:List Expr}{ga:Ev->Res (D×Ev)}{gs:Ev->Res (List D×Ev)}(hn:notStar e=Δ)(ha:PE X e (RO X.K ex ga))(hr:PA X l (ROs X.K ex gs)) :
  PA X (e::l) (ROs X.K ex fun τ=>bnd (ga τ) fun p=>bnd (gs p.2) fun q=>.ok (p.1::q.1,q.2)):=by
 refine k9 (fM ha hr (eT hn _ _)) fun σ H Q ⟨F,τ,f,fok,r,nd,q⟩=>⟨F,τ,f,fok,r,nd,(PO'.bnd q).mono fun p hp v H1 F1 fv f1 o=>?_⟩
 refine⟨F1,p.2,f1,o.fok,o.rps,(n_.mp o.nod).2.1,(PO'.bnd hp).mono fun p' hp' vs H2 F2 fvs f2 o2=>?_⟩;have dis:∀a∈fv,a∉f1:=fun a h1 h2=>(n_.mp o.nod).2.2 a h1 a h2 rfl;have m2:=o.rep.stp o2.stp dis;refine hp'.ok (v::vs) H2 F2 (fv++fvs) f2 ⟨o.stp.trans o2.stp (fun x hx=>o.mem x (o_ _ hx)),o2.fok,.cons m2 o2.rep,o2.rps,?_,fun a ha=>?_⟩
 ·rw[z_];refine n_.mpr ⟨(n_.mp o.nod).1,o2.nod,fun a h1 b h2 e=>?_⟩;subst e;rcases o2.mem a h2 with z|z
  ·exact dis a h1 z
  ·obtain⟨_,xs,e⟩:=o.rep.own a h1;rw[z]at e;cases e
 ·rw[z_]at ha;rcases x_.mp ha with ha|ha
  ·exact o.mem a (r_ _ ha)
  ·rcases o2.mem a ha with z|z
   ·exact o.mem a (o_ _ z)
   ·exact .inr (o.stp.same.free z)
end
section
variable {Z:Sg}{CX:CXT}{cl:Nat->List D->Res D}{xp:XK->Hp->Str->Prop}{X:Cx}{ex:Str->Prop}{G:Gm}
def spP (K:Frag)(ex:Str->Prop)(cl:Nat->List D->Res D)(f:Nat)(vs:List V)(H:Hp)(Q:VK):Prop:=∃F ds,FOk F H/\HReps K F H vs ds/\PO' ex (cl f (ers ds)) fun d=>∀v H' F' fv,Out K F H F' H' v d fv->Q v H'
theorem qI (g:GOk Z CX cl xp X ex G){f:Nat}{x:Str}{p pos:Pos}{es:List IR}{args:List Expr}{t:TA}(h1:fx Z G f x=Δ)(h2:Z.fnc G f=Δ)(hst:fy Z G es args=Δ)(h:PA X args t)
  (h0:args=[]->∀σ H (Q:List V->Hp->Prop),t σ H Q->Q [] H):PE X (.Call (.Name x p) args [] pos) (fun σ H Q=>t σ H fun vs H1=>spP X.K ex cl f vs H1 Q):=by
 obtain⟨k1,k2,k3,k4⟩:=gr g h1;obtain⟨k,fa',fd,ps,hm,hkp,hb,F,hr,hlen⟩:=(g.fns f (jd h2).1 (jd h2).2 x k2).ex;obtain⟨E,hP,hE⟩:=g.pss;intro pins s σ H Q I q;have fin:∀(us:List Φ) (s1:Ω) (vs:List V) (H1:Hp),Inv X pins σ H1 s1->Vals vs us->spP X.K ex cl f vs H1 Q->Ι (Κ X.prog X.w) X.A (call (.ref fa') us) (EP X pins σ Q) X.xe s1:=by
  intro us s1 vs H1 I1 r ⟨Fc,ds,fok,m,q1⟩;have hl:=hlen ex _ _ q1;rw[gi]at hl;refine lK F hr hb hP g.hid I1 r (by rw[m.length];exact hl) fok m ?_;cases z:cl f (ers ds) with
  |error er=>
   rw[z]at q1;cases er with
   |stuck=>exact q1.no.elim
   |exc c=>exact hE c _ q1
  |ok d=>rw[z]at q1;exact q1.ok
 refine Au (gn I k1 hm ?_ k4)
 induction args using zL with
 |nil=>
  induction es using zL with
  |cons _ _=>cases hst
  |nil=>exact PySem.W.callWith_K0 I.kIn hkp (fin [] s [] H I .nil (h0 rfl σ H _ q))
 |cons e l=>
  induction es using zL with
  |nil=>cases hst
  |cons a es=>have hst':(notStar e&&chk Z G a e&&fy Z G es l)=Δ:=hst;simp only[e_]at hst';refine PySem.W.callWith_K (h₀:=X.base) I.ok.mod.kin hkp (thn (h pos pins s σ H _ I q) fun us s1 ⟨vs,H1,I1,r,q1⟩=>⟨I1.kIn,?_⟩) (eT hst'.1.1 l X.env) (fS Z G (es:=es) pos X.env hst'.2);exact fin us s1 vs H1 I1 r q1
theorem MRep.lfree_nil {K:Frag}{F F':Ψ->Prop}{H:Hp}{v:V}{d:D}{fv:List Ψ}(m:MRep K F H v d fv)(n:e7 d=Δ):MRep K F' H v d []:=(m.read (S:=fun _=>True) (fun _ _=>trivial) fun _ _=>trivial).free n
theorem o_call (g:GOk Z CX cl xp X ex G){f:Nat}{x:Str}{p pos:Pos}{es:List IR}{args:List Expr}(h1:fx Z G f x=Δ)(h2:Z.fnc G f=Δ)(hst:fy Z G es args=Δ)(mv:Bool) :
  PE X (.Call (.Name x p) args [] pos) (RO X.K ex (evO cl mv (.call f es))):=by
 have pa:=kq es X ex G args g hst
 have pe:=qI (p:=p) (pos:=pos) g h1 h2 hst pa (fun e σ H Q ⟨S,τ,hs,q⟩=>by
  subst e
  induction es using zL with
  |nil=>exact q.ok [] H (.refl _) .nil
  |cons _ _=>cases hst)
 refine e8 pe fun σ H Q ⟨F,τ,fo,fok,r,nd,q⟩=>?_;have q':PO' ex (bnd (fq cl es τ) fun ds=>bnd (cl f (ers ds)) fun d=>if e7 d=Δ then .ok (d,τ) else .ok (d,frz (eW es) τ)) (fun p=>∀v H' F' fv f',Ow X.K F H fo F' H' σ v p.1 fv p.2 f'->Q v H'):=q
 -- read without giving up
 have borrow:(∀ds,fq cl es τ=.ok ds->PO' ex (cl f (ers ds)) fun d=>e7 d=Δ/\∀v H' F' fv f',Ow X.K F H fo F' H' σ v d fv τ f'->Q v H')->PO' ex (fq cl es τ) (fun _=>True)->RA X.K ex (eW es) (fq cl es) σ H (fun vs H1=>spP X.K ex cl f vs H1 Q):=by intro hk hok;refine mG (.refl _) (ft r) hok.eq fun ds vs H1 e1 _ m1 q1=>?_;refine⟨fun a=>H1 a≠Ξ,ds,fun a h=>h,m1.step (fun a xs h rd=>⟨rd.some,rd⟩) fun a xs h=>h,(hk ds q1.1).mono fun d hd v H' F' fv o=>?_⟩;obtain⟨k1,k2,k3⟩:=jo fok r (e1.trans o.same);exact hd.2 v H' F [] fo ⟨k3,k1,o.rep.lfree_nil hd.1,k2,by simpa using nd,fun a ha=>.inl (by simpa using ha)⟩
 cases z:fq cl es τ with
 |error er=>
  rw[z]at q';cases er with
  |stuck=>exact q'.no.elim
  |exc c=>exact borrow (fun ds h=>by rw[z]at h;cases h) (by rw[z];exact q')
 |ok ds=>
  rw[z]at q';have q1:PO' ex (bnd (cl f (ers ds)) fun d=>if e7 d=Δ then .ok (d,τ) else .ok (d,frz (eW es) τ)) (fun p=>∀v H' F' fv f',Ow X.K F H fo F' H' σ v p.1 fv p.2 f'->Q v H'):=q';cases zc:cl f (ers ds) with
  |error er=>
   rw[zc]at q1;cases er with
   |stuck=>exact q1.no.elim
   |exc c=>exact borrow (fun ds' h=>by rw[z]at h;cases h;rw[zc];exact q1) (by rw[z];trivial)
  |ok d=>
   rw[zc]at q1;have q2:PO' ex (if e7 d=Δ then .ok (d,τ) else .ok (d,frz (eW es) τ)) (fun p=>∀v H' F' fv f',Ow X.K F H fo F' H' σ v p.1 fv p.2 f'->Q v H'):=q1;by_cases hl:e7 d=Δ
   ·rw[d_ hl]at q2;exact borrow (fun ds' h=>by rw[z]at h;cases h;rw[zc];exact⟨hl,q2.ok⟩) (by rw[z];trivial)
   ·rw[c_ hl]at q2;obtain⟨F1,gg,b1,b2,b3,b4,b5,b6⟩:=il (eW es) fok r nd;refine mG (Kt:=fun ds'=>ds'=ds) (.refl _) b6 (by rw[z];rfl) fun ds' vs H1 e1 _ m1 e=>?_;subst e;have hm:HReps X.K (fun a=>F1 a∨(True/\H a=Ξ/\H1 a≠Ξ)) H1 vs ds':=m1.step (fun a xs h r=>⟨h.elim (fun z=>.inl z) fun z=>.inr ⟨trivial,z,r.some⟩,r⟩) fun a xs h=>h;obtain⟨c1,c2,c3⟩:=grow (fun _=>True) b1 b2 e1;refine⟨_,ds',c1,hm,?_⟩;rw[zc];intro v H' F' fv o;have s1:Stp (fun a=>F1 a∨(True/\H a=Ξ/\H1 a≠Ξ)) H1 gg F' H':=⟨o.same,o.inn,fun a h=>(o.out a h).elim (fun z=>.inl z) fun z=>.inr (.inr z)⟩
    have r2:Rps X.K F' H' σ (frz (eW es) τ) gg:=c2.step (fun a xs q rd=>⟨o.inn a q,o.same.rd rd⟩) (fun a xs q=>o.same.seqT q) fun a ha n hn=>by
     obtain⟨_,xs,e⟩:=c2.own a ha;refine⟨fun z=>?_,(o.same _ _ e).trans e.symm⟩;rcases o.out a z with z|z
     ·exact n z
     ·exact hn z
    refine q2.ok v H' F' fv gg ⟨(b4.trans c3 (fun x hx=>.inl (b5 x hx))).trans s1 (fun x hx=>.inl (b5 x hx)),o.fok,o.rep,r2,?_,fun a ha=>?_⟩
    ·refine n_.mpr ⟨o.nod,b3,fun a h1 b h2 e=>?_⟩;subst e;obtain⟨_,xs,e⟩:=c2.own a h2;rw[o.new a h1]at e;cases e
    ·rcases x_.mp ha with ha|ha
     ·exact .inr (e1.free (o.new a ha))
     ·exact .inl (b5 a ha)
theorem fP {a:IR}{e:Expr}(he:PE X e (RD X.K ex (vars a) (evR cl a)))(hN:e9 a=Δ->PE X e (RN X.K ex (vars a) fun τ=>bnd (evR cl a τ) iF)):PE X e (RO X.K ex fun τ=>bnd (evR cl a τ) fun d=>.ok (fF a d τ)):=by
 intro pins s σ H Q I h;obtain⟨F,τ,fo,fok,r,nd,q⟩:=h
 replace q:PO' ex (bnd (evR cl a τ) fun d=>.ok (fF a d τ)) (fun p=>∀v H' F' fv f',Ow X.K F H fo F' H' σ v p.1 fv p.2 f'->Q v H'):=q
 have rd:RD X.K ex (vars a) (evR cl a) σ H Q->Ι (Κ X.prog X.w) X.A (eval e X.env) (EP X pins σ Q) X.xe s:=fun h=>he pins s σ H Q I h;cases z:evR cl a τ with
 |error er=>
  rw[z]at q;cases er with
  |stuck=>exact q.no.elim
  |exc c=>exact rd ⟨fun _=>True,τ,ft r,by rw[z];exact q⟩
 |ok d=>
  rw[z]at q;have q1:∀v H' F' fv f',Ow X.K F H fo F' H' σ v (fF a d τ).1 fv (fF a d τ).2 f'->Q v H':=q;by_cases hl:e7 d=Δ
  ·unfold fF at q1;rw[d_ hl]at q1;refine rd ⟨fun _=>True,τ,ft r,?_⟩;rw[z];intro v H' e m;obtain⟨k1,k2,k3⟩:=jo fok r e;exact q1 v H' F [] fo ⟨k3,k1,m.free hl,k2,by simpa using nd,fun a ha=>.inl (by simpa using ha)⟩
  ·have other:fF a d τ=(er d,frz (vars a) τ)->Ι (Κ X.prog X.w) X.A (eval e X.env) (EP X pins σ Q) X.xe s:=fun hk=>by rw[hk]at q1;obtain⟨F1,gg,b1,b2,b3,b4,b5,b6⟩:=il (vars a) fok r nd;refine rd ⟨F1,τ,b6,?_⟩;rw[z];intro v H' e m;obtain⟨c1,c2,c3⟩:=grow (fun _=>True) b1 b2 e;exact q1 v H' _ [] gg ⟨b4.trans c3 (fun x hx=>.inl (b5 x hx)),c1,m.fix.frozen,c2,by simpa using b3,fun a ha=>.inl (b5 a (by simpa using ha))⟩
   by_cases hn:e9 a=Δ
   ·induction d using zD with
    |lst o ds=>
     by_cases hi:eS ds=Δ
     ·have hk:fF a (.lst o ds) τ=(.lst Δ ds,τ):=by unfold fF;rw[c_ hl,hn];show(if eS ds=Δ then _ else _)=_;rw[d_ hi]
      rw[hk]at q1;refine hN hn pins s σ H Q I ⟨fun _=>True,τ,ft r,?_⟩;show PO' ex (bnd (evR cl a τ) iF) _;rw[z];intro p ys H' e hp hy m;obtain⟨k1,k2,k3⟩:=jo fok r e;refine q1 (.ref p) H' F [p] fo ⟨k3,k1,.lstO (fun zz=>fok p zz hp) hy (m.free hi),k2,?_,fun a ha=>?_⟩
      ·rw[As,Ab];refine⟨fun zz=>?_,nd⟩;obtain⟨_,xs,e⟩:=r.own p zz;rw[hp]at e;cases e
      ·rw[As]at ha;rcases p_.mp ha with rfl|ha
       ·exact .inr hp
       ·exact .inl ha
     ·have hk:fF a (.lst o ds) τ=(.lst Δ (ers ds),frz (vars a) τ):=by unfold fF;rw[c_ hl,hn];show(if eS ds=Δ then _ else _)=_;rw[c_ hi]
      rw[hk]at q1;obtain⟨F1,gg,b1,b2,b3,b4,b5,b6⟩:=il (vars a) fok r nd;refine hN hn pins s σ H Q I ⟨F1,τ,b6,?_⟩;show PO' ex (bnd (evR cl a τ) iF) _;rw[z];intro p ys H' e hp hy m;obtain⟨c1,c2,c3⟩:=grow (fun a=>a≠p) b1 b2 e;have m2:HReps X.K (fun a=>F1 a∨(a≠p/\H a=Ξ/\H' a≠Ξ)) H' ys ds:=m.step (fun a xs h r=>⟨h.1.elim (fun z=>.inl z) fun z=>.inr ⟨h.2,z,r.some⟩,r⟩) fun a xs h=>h;refine q1 (.ref p) H' _ [p] gg ⟨b4.trans c3 (fun x hx=>.inl (b5 x hx)),c1,.lstO (fun zz=>?_) hy m2.frozen,c2,?_,fun a ha=>?_⟩
      ·rcases zz with zz|zz
       ·exact b1 p zz hp
       ·exact zz.1 rfl
      ·rw[As,Ab];refine⟨fun zz=>?_,b3⟩;obtain⟨_,xs,e⟩:=b2.own p zz;rw[hp]at e;cases e
      ·rw[As]at ha;rcases p_.mp ha with rfl|ha
       ·exact .inr hp
       ·exact .inl (b5 a ha)
    |_=>refine other ?_;unfold fF;rw[c_ hl,hn]
   ·have hn':e9 a=Θ:=by simpa using hn
    refine other ?_;unfold fF;rw[c_ hl,hn']
theorem ya {a b:Expr}{pos:Pos}{va vb:List Nat}{fa fb:Ev->Res D}(ha:PE X a (RD X.K ex va fa))(hb:PE X b (RD X.K ex vb fb)) :
  PE X (.BinOp a .Add b pos) (RN X.K ex (va++vb) fun τ=>bnd (bnd (fa τ) fun x=>bnd (fb τ) fun y=>opB .add x y) iF):=by
 refine e8 (pU nZ ha hb) fun σ H Q ⟨S,τ,hs,q⟩=>?_;refine fJ (.refl _) hs.left (PO'.bnd (PO'.bnd q)) fun x v H1 e1 _ m1 q1=>?_;refine fJ e1 hs.right (PO'.bnd q1) fun y w H2 e2 e2' m2 q2=>?_;have stuck:∀ {P:Prop},opB .add x y=stk->P:=fun z=>by rw[z]at q2;exact q2.no.elim
 induction x using zD with
 |int a=>induction y using zD with
  |int b=>exact q2.ok.no.elim
  |_=>exact stuck rfl
 |str a=>induction y using zD with
  |str b=>exact(PO'.grd q2).2.ok.no.elim
  |_=>exact stuck rfl
 |lst o a=>induction y using zD with
  |lst o' b=>obtain⟨p,xs,rfl,h1,n1⟩:=m1.lstL;obtain⟨p',ys,rfl,h2,n2⟩:=m2.lstL;obtain⟨gd,q3⟩:=PO'.grd q2;have g':=fI gd;have l1:=n1.length;have l2:=n2.length;have h1':Ls X.K H2 p xs:=h1.elim (fun z=>.inl (e2'.rd z)) .inr;exact⟨p,p',xs,ys,rfl,rfl,h1',h2,by omega,fun z hz=>q3.ok.ok z _ _ (e2.trans (.upd hz)) (e2.free hz) fg (pG ((n1.later e2').append n2) hz)⟩
  |_=>exact stuck rfl
 |_=>exact stuck rfl
theorem yb {a b:Expr}{pos:Pos}{va vb:List Nat}{fa fb:Ev->Res D}(ha:PE X a (RD X.K ex va fa))(hb:PE X b (RD X.K ex vb fb)) :
  PE X (.BinOp a .Mult b pos) (RN X.K ex (va++vb) fun τ=>bnd (bnd (fa τ) fun x=>bnd (fb τ) fun y=>opB .mul x y) iF):=by
 refine e8 (pU n4 ha hb) fun σ H Q ⟨S,τ,hs,q⟩=>?_;refine fJ (.refl _) hs.left (PO'.bnd (PO'.bnd q)) fun x v H1 e1 _ m1 q1=>?_;refine fJ e1 hs.right (PO'.bnd q1) fun y w H2 e2 e2' m2 q2=>?_;have stuck:∀ {P:Prop},opB .mul x y=stk->P:=fun z=>by rw[z]at q2;exact q2.no.elim
 induction y using zD with
 |int b=>
  cases m2
  induction x using zD with
  |int a=>exact(PO'.grd q2).2.ok.no.elim
  |str a=>exact(PO'.grd q2).2.ok.no.elim
  |lst o a=>obtain⟨p,xs,rfl,h1,n1⟩:=m1.lstL;obtain⟨gd,q3⟩:=PO'.grd q2;have gd:=m_ gd;have h1':Ls X.K H2 p xs:=h1.elim (fun z=>.inl (e2'.rd z)) .inr;exact⟨p,b,xs,rfl,rfl,h1',gd.1,gd.2.1,by rw[n1.length];exact gd.2.2,fun z hz=>q3.ok.ok z _ _ (e2.trans (.upd hz)) (e2.free hz) fg (pG ((n1.later e2').rep b.toNat) hz)⟩
  |_=>exact stuck rfl
 |_=>induction x using zD<;>exact stuck rfl
theorem zA {a:Expr}{lo hi:Option Expr}{pos p2:Pos}{va vl vh:List Nat}{fa:Ev->Res D}{fl fh:Ev->Res (Option Int)}(ha:PE X a (RD X.K ex va fa))(hl:PO X lo (ROp X.K ex vl fl))(hh:PO X hi (ROp X.K ex vh fh)) :
  PE X (.Subscript a (.Slice lo hi Ξ p2) pos) (RN X.K ex (va++vl++vh) fun τ=>bnd (bnd (fa τ) fun x=>bnd (fl τ) fun l=>bnd (fh τ) fun h=>km x l h) iF):=by
 refine e8 (mf nT ha hl hh) fun σ H Q ⟨S,τ,hs,q⟩=>?_;refine fJ (.refl _) hs.left.left (PO'.bnd (PO'.bnd q)) fun x v H1 e1 _ m1 q1=>?_;refine sZ e1 hs.left.right (PO'.bnd q1) fun l H2 e2 e2' q2=>?_;refine sZ e2 hs.right (PO'.bnd q2) fun h H3 e3 e3' q3=>?_
 induction x using zD with
 |lst o ds=>obtain⟨p,xs,rfl,h1,n1⟩:=m1.lstR;exact⟨p,xs,rfl,(e2'.trans e3').seq h1,fun z hz=>q3.ok.ok z _ _ (e3.trans (.upd hz)) (e3.free hz) fg (pG (n6 l h (n1.later (e2'.trans e3'))) hz)⟩
 |str _=>exact(PO'.grd q3).2.ok.no.elim
 |_=>exact q3.no.elim
theorem kr (hc:X.calm=Δ):f6 X (.type "list") (fun xs H Q=>(∃p ys,xs=[.ref p]/\(SqL X.K H p ys∨SqT X.K H p ys)/\∀l,H l=Ξ->Q (.ref l) (upd H l (.lst ys)))∨∃z:Str,xs=[.str z]/\z.length<=Ε/\∀l,H l=Ξ->Q (.ref l) (upd H l (.lst (gL z)))):=by
 intro pins s σ H xs us Q I r h;rcases h with h|h
 ·exact gY pins s σ H xs us Q I r h
 ·exact iC hc pins s σ H xs us Q I r h
theorem vU (g:GOk Z CX cl xp X ex G){p pos:Pos}{es:List IR}{a:Expr}{args:List Expr}(hg:G.glc (kN .list)=Δ)(hst:fy Z G es (a::args)=Δ)(h:PA X (a::args) (RA X.K ex (eW es) (fq cl es))) :
  PE X (.Call (.Name (gZ .list) p) (a::args) [] pos) (RN X.K ex (eW es) fun τ=>bnd (bnd (fq cl es τ) fun ds=>gx .list ds) iF):=by
 obtain⟨k1,k2,k3,k4⟩:=iT g (qy .list) (nA hg)
 induction es using zL with
 |nil=>cases hst
 |cons b es=>
  have hst':(notStar a&&chk Z G b a&&fy Z G es args)=Δ:=hst;simp only[e_]at hst';refine e8 (kH (kr (g.calm (nB hg))) k1 k2 (og .list) h k3 k4 (eT hst'.1.1 args X.env) (fS Z G (es:=es) pos X.env hst'.2)) fun σ H Q ⟨S,τ,hs,q⟩=>?_;refine mG (.refl _) hs (PO'.bnd (PO'.bnd q)) fun ds vs H1 e1 _ m1 q1=>?_;have stuck:∀ {P:Prop},gx .list ds=stk->P:=fun z=>by rw[z]at q1;exact q1.no.elim
  match ds,m1 with
  |[],_=>exact stuck rfl
  |d::_::_,_=>exact stuck (by induction d using zD<;>rfl)
  |[d],m1=>
   obtain⟨x,rfl,hd⟩:=m1.one1
   induction d using zD with
   |tup ds=>obtain⟨a,ys,rfl,q',m⟩:=hd.tupR;exact .inl ⟨a,ys,rfl,.inr q',fun z hz=>q1.ok.ok z _ _ (e1.trans (.upd hz)) (e1.free hz) fg (pG m hz)⟩
   |lst o ds=>obtain⟨a,ys,rfl,q',m⟩:=hd.lstR;exact .inl ⟨a,ys,rfl,.inl q',fun z hz=>q1.ok.ok z _ _ (e1.trans (.upd hz)) (e1.free hz) fg (pG m hz)⟩
   |str z=>cases hd.strR;obtain⟨gz,q1⟩:=PO'.grd q1;exact .inr ⟨z,rfl,fI gz,fun l hl=>q1.ok.ok l _ _ (e1.trans (.upd hl)) (e1.free hl) fg (pG (jc z) hl)⟩
   |_=>exact stuck rfl
end
section
variable {Z:Sg}{CX:CXT}{cl:Nat->List D->Res D}{xp:XK->Hp->Str->Prop}
theorem ux {X:Cx}{ex:Str->Prop}{G:Gm}(g:GOk Z CX cl xp X ex G){i:Nat}{x:Str}{pos:Pos}(h:mD G i x=Δ):PE X (.Name x pos) (uZ i):=by
 unfold mD at h;rw[e_]at h;have hx:G.N[i]? = Γ x:=f_ h.1;have hk:=g.kd i x hx;have hv:Vis X.env.scope x:=by
  have h2:=h.2;rw[zX,zX]at h2;rcases h2 with(h2|h2)|h2
  ·exact .inl (hk.trans (f_ h2))
  ·exact .inr (.inl (hk.trans (f_ h2)))
  ·exact .inr (.inr (hk.trans (f_ h2)))
 exact pO (i:=i) (by rw[g.N];exact hx) hv (g.noD i x hx).1 (g.noD i x hx).2
theorem vV {X:Cx}{ex:Str->Prop}{G G':Gm}{fr:List Nat}(g:GOk Z CX cl xp X ex G){scope:Scope}{tg iter elt:Expr}{ifs:List Expr}{pos:Pos}{T:Tg}{s:Sr}{I:List IR}{E:IR}(hs:ScOk Z G scope G' fr)(hT:gF G' T tg=Δ)(ha:∀i∈tgs T,fr.length<=i)
  (hi:gJ Z G s iter=Δ/\jt s tg=Δ) (ht:fy Z G' I ifs=Δ) (he:chk Z G' E elt=Δ) :
  PE X (.ListComp elt [⟨tg,iter,ifs,0⟩] scope pos) (RN X.K ex (vars (.comp G' fr T s I E)) fun τ=>bnd (evR cl (.comp G' fr T s I E) τ) iF):=by
 intro pins s' σ H Q Iv h;obtain⟨cl',S⟩:=jg g Iv.ok hs;obtain⟨E0,hE0⟩:=g.exs;have p:=nV (pos:=pos) (elt:=elt) (ifs:=ifs) (tg:=tg) (g:=gT X.K T) (tt:=RT X.K ex (eW I) (iH cl I)) (te:=RD X.K ex (vars E) (evR cl E)) (g.calm hs.cm) S (tu s X ex G iter tg g hi.1 hi.2) (fun C s H fp=>pgT (gb g hs cl' hE0 C s H fp) T tg hT)
  (fun C s H fp=>tq I _ ex G' ifs (gb g hs cl' hE0 C s H fp) ht) (fun C s H fp=>(snd E _ ex G' elt (gb g hs cl' hE0 C s H fp) he).1) (fun _ _ _ _ _ _ I3 hC f3 _ _ z=>jP hE0.1 g.frm I3 hC f3 z) (fun x=>gB hi.1 X.env x)
 refine p pins s' σ H Q Iv ?_;obtain⟨S0,τ,hsl,q⟩:=h;have q':=PO'.bnd (show PO' ex (bnd (evR cl (.comp G' fr T s I E) τ) iF) _ from q);rw[jZ]at q';exact gR hs.fle ha hsl q' fun A ys ds H' e hA hA' m k=>k.ok A ys H' e hA hA' m
theorem snN:∀(a:IR) (X:Cx) (ex:Str->Prop) (G:Gm) (e:Expr),GOk Z CX cl xp X ex G->chk Z G a e=Δ->e9 a=Δ->PE X e (RN X.K ex (vars a) fun τ=>bnd (evR cl a τ) iF):=by
 intro a X ex G e g h n;cases a with
 |bin op a b=>
  cases op with
  |add=>
   induction e using zE with
   |BinOp l o r pos=>have h':(o == bop .add&&chk Z G a l&&chk Z G b r)=Δ:=h;simp only[e_]at h';have e1:o=bop .add:=f_ h'.1.1;subst e1;exact ya (snd a X ex G l g h'.1.2).1 (snd b X ex G r g h'.2).1
   |_=>exists h
  |mul=>
   induction e using zE with
   |BinOp l o r pos=>have h':(o == bop .mul&&chk Z G a l&&chk Z G b r)=Δ:=h;simp only[e_]at h';have e1:o=bop .mul:=f_ h'.1.1;subst e1;exact yb (snd a X ex G l g h'.1.2).1 (snd b X ex G r g h'.2).1
   |_=>exists h
  |_=>cases n
 |sl a lo hi=>
  induction e using zE with
  |Subscript o s pos=>
   induction s using zE with
   |Slice l u st p=>
    induction st using zO with
    |none=>have h':(chk Z G a o&&nD Z G lo l&&nD Z G hi u)=Δ:=h;simp only[e_]at h';exact zA (snd a X ex G o g h'.1.1).1 (tm lo X ex G l g h'.1.2) (tm hi X ex G u g h'.2)
    |some _=>exists h
   |_=>exists h
  |_=>exists h
 |bi f es=>
  cases f with
  |list=>
   induction e using zE with
   |Call fn args kws pos=>
    induction fn using zE with
    |Name x p=>
     induction kws using zL with
     |nil=>
      induction args using zL with
      |nil=>exists h
      |cons a args=>have h':(x == gZ .list&&G.glc (kN .list)&&fy Z G es (a::args))=Δ:=h;simp only[e_]at h';have e1:x=gZ .list:=f_ h'.1.1;subst e1;exact vU g h'.1.2 h'.2 (kq es X ex G _ g h'.2)
     |cons _ _=>cases args<;>exists h
    |_=>exists h
   |_=>exists h
  |_=>cases n
 |comp G' fr tg src ifs elt=>
  induction e using zE with
  |ListComp el gens scope pos=>have h:pB gens (fun t it fs=>f9 Z G scope G' fr&&gF G' tg t&&(tgs tg).all (fun i=>decide (fr.length<=i))&&(gJ Z G src it&&jt src t)&&fy Z G' ifs fs&&chk Z G' elt el)=Δ:=h;obtain⟨t,it,fs,rfl,h⟩:=lH h;have h':(f9 Z G scope G' fr&&gF G' tg t&&(tgs tg).all (fun i=>decide (fr.length<=i))&&(gJ Z G src it&&jt src t)&&fy Z G' ifs fs&&chk Z G' elt el)=Δ:=h;simp only[e_]at h';exact vV g (lL h'.1.1.1.1.1) h'.1.1.1.1.2 (fun i hi=>m_ (zY.mp h'.1.1.1.2 i hi)) h'.1.1.2 h'.1.2 h'.2
  |_=>exists h
 |_=>cases n
mutual
theorem snO:∀(a:IR) (mv:Bool) (X:Cx) (ex:Str->Prop) (G:Gm) (e:Expr),GOk Z CX cl xp X ex G->chk Z G a e=Δ->PE X e (RO X.K ex (evO cl mv a))
 |.v i,mv,X,ex,G,e,g,h=>by
  induction e using zE with
  |Name x pos=>exact o_v (ux g h) mv
  |_=>exists h
 |.tup es,mv,X,ex,G,e,g,h=>by
  induction e using zE with
  |Tuple l n pos=>exact o_tup (vW es mv X ex G l g h)
  |_=>exists h
 |.lst es,mv,X,ex,G,e,g,h=>by
  induction e using zE with
  |List l pos=>exact o_lst (vW es mv X ex G l g h)
  |_=>exists h
 |.ite t a b,mv,X,ex,G,e,g,h=>by
  induction e using zE with
  |IfExp c x y pos=>have h':(chk Z G t c&&chk Z G a x&&chk Z G b y)=Δ:=h;simp only[e_]at h';exact o_ite (snd t X ex G c g h'.1.1).2 (snO a mv X ex G x g h'.1.2) (snO b mv X ex G y g h'.2)
  |_=>exists h
 |.call f es,mv,X,ex,G,e,g,h=>by
  induction e using zE with
  |Call fn args kws pos=>
   induction fn using zE with
   |Name x p=>
    induction kws using zL with
    |nil=>have h':(fx Z G f x&&Z.fnc G f&&fy Z G es args)=Δ:=h;simp only[e_]at h';exact o_call g h'.1.1 h'.1.2 h'.2 mv
    |cons _ _=>exists h
   |_=>exists h
  |_=>exists h
 |.c d,mv,X,ex,G,e,g,h=>fP (snd _ X ex G e g h).1 (snN _ X ex G e g h)
 |.g n d,mv,X,ex,G,e,g,h=>fP (snd _ X ex G e g h).1 (snN _ X ex G e g h)
 |.bin op a b,mv,X,ex,G,e,g,h=>fP (snd _ X ex G e g h).1 (snN _ X ex G e g h)
 |.cmp op a b,mv,X,ex,G,e,g,h=>fP (snd _ X ex G e g h).1 (snN _ X ex G e g h)
 |.chain op op' a b c,mv,X,ex,G,e,g,h=>fP (snd _ X ex G e g h).1 (snN _ X ex G e g h)
 |.and_ a b,mv,X,ex,G,e,g,h=>fP (snd _ X ex G e g h).1 (snN _ X ex G e g h)
 |.or_ a b,mv,X,ex,G,e,g,h=>fP (snd _ X ex G e g h).1 (snN _ X ex G e g h)
 |.not_ a,mv,X,ex,G,e,g,h=>fP (snd _ X ex G e g h).1 (snN _ X ex G e g h)
 |.idx a i,mv,X,ex,G,e,g,h=>fP (snd _ X ex G e g h).1 (snN _ X ex G e g h)
 |.sl a lo hi,mv,X,ex,G,e,g,h=>fP (snd _ X ex G e g h).1 (snN _ X ex G e g h)
 |.bi f es,mv,X,ex,G,e,g,h=>fP (snd _ X ex G e g h).1 (snN _ X ex G e g h)
 |.isx a ns tb,mv,X,ex,G,e,g,h=>fP (snd _ X ex G e g h).1 (snN _ X ex G e g h)
 |.isi a k,mv,X,ex,G,e,g,h=>fP (snd _ X ex G e g h).1 (snN _ X ex G e g h)
 |.ftr x a y,mv,X,ex,G,e,g,h=>fP (snd _ X ex G e g h).1 (snN _ X ex G e g h)
 |.lrev a,mv,X,ex,G,e,g,h=>fP (snd _ X ex G e g h).1 (snN _ X ex G e g h)
 |.mth m o es,mv,X,ex,G,e,g,h=>fP (snd _ X ex G e g h).1 (snN _ X ex G e g h)
 |.comp G' fr tg src ifs elt,mv,X,ex,G,e,g,h=>fP (snd _ X ex G e g h).1 (snN _ X ex G e g h)
theorem vW:∀(as:List IR) (mv:Bool) (X:Cx) (ex:Str->Prop) (G:Gm) (l:List Expr),GOk Z CX cl xp X ex G->fy Z G as l=Δ->PA X l (ROs X.K ex (ko cl mv as))
 |[],mv,X,ex,G,l,g,h=>by
  induction l using zL with
  |nil=>exact vT
  |cons _ _=>exists h
 |a::as,mv,X,ex,G,l,g,h=>by
  induction l using zL with
  |nil=>exists h
  |cons e l=>have h':(notStar e&&chk Z G a e&&fy Z G as l)=Δ:=h;simp only[e_]at h';exact tv h'.1.1 (snO a mv X ex G e g h'.1.2) (vW as mv X ex G l g h'.2)
end
end
structure Bs (io:Option Nat) where
 F:Ψ->Prop
 H:Hp
 L:Ψ->LD->Prop
 T:Ψ->List V ⊕ Str->Prop
 N:Option Ψ:=Ξ
structure Frm (K:Frag){io:Option Nat}(B:Bs io)(F:Ψ->Prop)(H:Hp)(σ:St)(τ:Ev)(f:List Ψ):Prop where
 fok:FOk F H
 rps:Rps K F H σ τ f
 nod:f.Nodup
 same:eX B.H H
 own:∀a∈f,B.H a=Ξ
 inn:∀a,B.F a->F a
 out:∀a,F a->B.F a∨B.H a=Ξ
 pin:∀a xs,B.L a xs->F a/\Rd H a xs.o
 pit:∀a xs,B.T a xs->SqE K H a xs
 nm:∀j a,io=Γ j->B.N=Γ a->σ[j]? = Γ (Γ (.ref a))
def Fk (K:Frag){io:Option Nat}(B:Bs io)(Dn:Ends):Fl->Prop
 |.nx τ=>∀σ H F f,Frm K B F H σ τ f->Dn.nx σ H
 |.bk τ=>∀σ H F f,Frm K B F H σ τ f->Dn.bk σ H
 |.ct τ=>∀σ H F f,Frm K B F H σ τ f->Dn.ct σ H
 |.rt d=>∀v H F fv,Out K B.F B.H F H v d fv->Dn.rt v H
 |.ri d ks es=>∀v H F fv kvs a,(∀a',B.N=Γ a'->a'=a)->Out K B.F B.H F H v d fv->¬F a->a∉fv->H a=Γ (.dK kvs)->kvs.map (·.1)=ks->HReps K F H (kvs.map (·.2)) es->Dn.rt v H
def RS (K:Frag)(io:Option Nat)(ex:Str->Prop)(g:Ev->Res Fl):TS:=fun Dn σ H=>∃(B:Bs io),∃F τ f,Frm K B F H σ τ f/\PO' ex (g τ) (Fk K B Dn)
section
variable {K:Frag}{io:Option Nat}{B:Bs io}{F F':Ψ->Prop}{H H':Hp}{σ:St}{τ τ':Ev}{f f':List Ψ}{ex:Str->Prop}
theorem Frm.stp (m:Frm K B F H σ τ f)(s:Stp F H f F' H')(fok:FOk F' H')(r:Rps K F' H' σ τ' f')(nd:f'.Nodup)(hm:∀a∈f',a∈f∨H a=Ξ):Frm K B F' H' σ τ' f' where
 fok:=fok
 rps:=r
 nod:=nd
 same:=m.same.trans s.same
 own:=fun a ha=>(hm a ha).elim (m.own a) fun z=>m.same.free z
 inn:=fun a h=>s.inn a (m.inn a h)
 out:=fun a h=>by
  rcases s.out a h with h|h|h
  ·exact m.out a h
  ·exact .inr (m.own a h)
  ·exact .inr (m.same.free h)
 pin:=fun a xs h=>⟨s.inn a (m.pin a xs h).1,s.same.rd (m.pin a xs h).2⟩
 pit:=fun a xs h=>s.same.seqT (m.pit a xs h)
 nm:=m.nm
theorem Frm.ow {v:V}{d:D}{fv:List Ψ}(m:Frm K B F H σ τ f)(o:Ow K F H f F' H' σ v d fv τ' f'):Frm K B F' H' σ τ' f'/\∀a∈fv,B.H a=Ξ:=
 ⟨m.stp o.stp o.fok o.rps (n_.mp o.nod).2.1 fun a ha=>o.mem a (o_ _ ha),fun a ha=>(o.mem a (r_ _ ha)).elim (m.own a) fun z=>m.same.free z⟩
theorem Frm.grow (m:Frm K B F H σ τ f)(e:eX H H'):Frm K B F H' σ τ f:=by obtain⟨k1,k2,k3⟩:=jo m.fok m.rps e;exact m.stp k3 k1 k2 m.nod fun a ha=>.inl ha
theorem Frm.ro {g:Ev->Res (D×Ev)}{Kt:D×Ev->Prop}{Q:VK}(m:Frm K B F H σ τ f)(h:PO' ex (g τ) Kt)(k:∀p v H' F' fv f',Ow K F H f F' H' σ v p.1 fv p.2 f'->Kt p->Q v H'):RO K ex g σ H Q:=
 ⟨F,τ,f,m.fok,m.rps,m.nod,h.mono fun p hp v H' F' fv f' o=>k p v H' F' fv f' o hp⟩
theorem Frm.rt {is:List Nat}{g:Ev->Res Bool}{Kt:Bool->Prop}{Q:Bool->Hp->Prop}(m:Frm K B F H σ τ f)(h:PO' ex (g τ) Kt)(k:∀b H',Frm K B F H' σ τ f->eX H H'->Kt b->Q b H'):RT K ex is g σ H Q:=
 iU (.refl _) (ft m.rps) h fun b H2 e2 _ hb=>k b H2 (m.grow e2) e2 hb
mutual
theorem qJ:∀(t:Tg) {σ:St}{τ:Ev}{f:List Ψ}{v:V}{d:D}{fv:List Ψ}{Kt:Ev->Prop}{Q:St->Hp->Prop},Rps K F H σ τ f->MRep K F H v d fv->(fv++f).Nodup->PO' ex (gy t d τ) Kt->
  (∀τ' σ' f',Rps K F H σ' τ' f'->f'.Nodup->(∀a∈f',a∈fv++f)->(∀j,j∉tgs t->σ'[j]? = σ[j]?)->Kt τ'->Q σ' H)->gT K t v σ H Q
 |.nm i,σ,τ,f,v,d,fv,Kt,Q,r,m,nd,h,k=>by obtain⟨g,h',r2,p2⟩:=r.put i m;have nd2:(g++h').Nodup:=p2.nodup_iff.mpr nd;exact k (τ.set i (Γ d)) (σ.set i (Γ v)) g r2 (n_.mp nd2).1 (fun a ha=>p2.mem_iff.mp (r_ _ ha)) (fun j hj=>Al (fun z=>hj (by rw[<- z];exact Ag.mpr rfl))) h.ok
 |.tp ts,σ,τ,f,v,d,fv,Kt,Q,r,m,nd,h,k=>by
  cases m with
  |tup h1 h2=>obtain⟨gd,h⟩:=PO'.grd h;have g':=m_ gd;exact⟨_,_,rfl,.inl h1,by rw[h2.length];exact g',iY ts r h2 nd h k⟩
  |lstS h0 h1 h2=>obtain⟨gd,h⟩:=PO'.grd h;have g':=m_ gd;exact⟨_,_,rfl,.inr (.inl h1),by rw[h2.length];exact g',iY ts r h2 nd h k⟩
  |lstK h1 h2=>obtain⟨gd,h⟩:=PO'.grd h;have g':=m_ gd;exact⟨_,_,rfl,.inr h1.sq,by rw[h2.length];exact g',iY ts r h2 nd h k⟩
  |lstO h0 h1 h2=>obtain⟨gd,h⟩:=PO'.grd h;have g':=m_ gd;rw[b_,Ab]at nd;exact⟨_,_,rfl,.inr (.inl (.inl h1)),by rw[h2.length];exact g',iY ts r h2 nd.2 h fun τ' σ' f' a1 a2 a3 a5 a4=>k τ' σ' f' a1 a2 (fun x hx=>by rw[b_];exact s_ _ (a3 x hx)) a5 a4⟩
  |_=>exact h.no.elim
theorem iY:∀(ts:List Tg) {σ:St}{τ:Ev}{f:List Ψ}{vs:List V}{ds:List D}{fv:List Ψ}{Kt:Ev->Prop}{Q:St->Hp->Prop},Rps K F H σ τ f->MReps K F H vs ds fv->(fv++f).Nodup->PO' ex (mn ts ds τ) Kt->
  (∀τ' σ' f',Rps K F H σ' τ' f'->f'.Nodup->(∀a∈f',a∈fv++f)->(∀j,j∉mE ts->σ'[j]? = σ[j]?)->Kt τ'->Q σ' H)->gTs K ts vs σ H Q
 |[],σ,τ,f,vs,ds,fv,Kt,Q,r,m,nd,h,k=>by
  cases m with
  |nil=>exact⟨rfl,k τ σ f r (by simpa using nd) (fun a ha=>by simpa using ha) (fun _ _=>rfl) h.ok⟩
  |cons _ _=>exact h.no.elim
 |t::ts,σ,τ,f,vs,ds,fv,Kt,Q,r,m,nd,h,k=>by
  cases m with
  |nil=>exact h.no.elim
  |cons m1 m2=>
   rename_i v d f1 vs ds f2
   have nd':(f2++(f1++f)).Nodup:=by refine(List.Perm.nodup_iff ?_).mp nd;rw[<- z_];exact List.Perm.append_right f AA
   refine⟨_,_,rfl,qJ t r m1 (n_.mp nd').2.1 (PO'.bnd h) fun τ' σ' f' r' nf' hm' hj' h'=>?_⟩;refine iY ts r' m2 (n_.mpr ⟨(n_.mp nd').1,nf',fun a h1 b h2 e=>(n_.mp nd').2.2 a h1 b (hm' b h2) e⟩) h' fun τ'' σ'' f'' r'' nf'' hm'' hj'' h''=>k τ'' σ'' f'' r'' nf'' (fun a ha=>?_) (fun j hj=>(hj'' j fun z=>hj (o_ _ z)).trans (hj' j fun z=>hj (r_ _ z))) h'';rcases x_.mp (hm'' a ha) with z|z
   ·exact r_ _ (o_ _ z)
   ·rcases x_.mp (hm' a z) with z|z
    ·exact r_ _ (r_ _ z)
    ·exact o_ _ z
end
theorem Frm.gT {t:Tg}{v:V}{d:D}{fv:List Ψ}{Kt:Ev->Prop}{Q:St->Hp->Prop}(m:Frm K B F H σ τ f)(mv:MRep K F H v d fv)(nd:(fv++f).Nodup)(hb:∀a∈fv,B.H a=Ξ)(hio:∀j∈tgs t,io≠Γ j)(h:PO' ex (gy t d τ) Kt)
  (k:∀τ' σ' f',Frm K B F H σ' τ' f'->Kt τ'->Q σ' H):L2.gT K t v σ H Q:=
 qJ t m.rps mv nd h fun τ' σ' f' r' nf' hm hj h'=>k τ' σ' f' ⟨m.fok,r',nf',m.same,fun a ha=>(x_.mp (hm a ha)).elim (hb a) (m.own a),m.inn,m.out,m.pin,m.pit,fun j a e1 e2=>(hj j fun z=>hio j z e1).trans (m.nm j a e1 e2)⟩ h'
theorem Frm.write {i:Nat}{ds ds':List D}{w:V}{d:D}{fv:List Ψ}{l:Ψ}{xs ys:List V}(m:Frm K B F H σ τ f)(hs:eZ τ i=Γ (.lst Δ ds))(hσ:σ[i]? = Γ (Γ (.ref l)))(hl:H l=Γ (.lst xs))(mw:MRep K F H w d fv)(nd:(fv++f).Nodup)(hb:∀a∈fv,B.H a=Ξ)
  (hy:∀fi,MReps K F H xs ds fi->∃fl h,MReps K F H ys ds' fl/\(fl++h).Perm (fv++fi)):∃f',Frm K B F (upd H l (.lst ys)) σ (τ.set i (Γ (.lst Δ ds'))) f':=by
 obtain⟨v,fs,g,h1,h2,h3,h4⟩:=m.rps.at hs;rw[hσ]at h1;cases h1;cases h2 with
 | @lstO a xs' ds0 fi hF hH hm=>
  rw[hl]at hH;cases hH;obtain⟨fl,h,hm',hp⟩:=hy fi hm;have ndf:((l::fi)++g).Nodup:=h4.nodup_iff.mp m.nod;have nda:(fv++((l::fi)++g)).Nodup:=(Az fv h4).nodup_iff.mp nd;have lg:l∉g:=by rw[b_,Ab]at ndf;exact fun z=>ndf.1 (o_ _ z)
  have lfi:l∉fi:=by rw[b_,Ab]at ndf;exact fun z=>ndf.1 (r_ _ z)
  have lfv:l∉fv:=fun z=>(n_.mp nda).2.2 l z l (by simp) rfl;have inFl:∀a∈fl,a∈fv++fi:=fun a ha=>hp.mem_iff.mp (r_ _ ha);have lfl:l∉fl:=fun z=>(x_.mp (inFl l z)).elim lfv lfi;have sl:∀a (u:LD),F a->Rd H a u.o->F a/\Rd (upd H l (.lst ys)) a u.o:=fun a xs h r=>by refine⟨h,?_⟩;have:a≠l:=fun z=>hF (by rw[<- z];exact h);unfold Rd;rw[eY this];exact r
  have st:∀a xs,SqE K H a xs->SqE K (upd H l (.lst ys)) a xs:=fun a xs h=>h.upd hl;have r1:Rps K F (upd H l (.lst ys)) σ (τ.set i Ξ) g:=h3.step sl st fun a ha n _=>⟨n,eY fun z=>lg (by rw[<- z];exact ha)⟩
  have m1:MRep K F (upd H l (.lst ys)) (.ref l) (.lst Δ ds') (l::fl):=.lstO hF fg (hm'.step sl st fun a ha n _=>⟨n,eY fun z=>lfl (by rw[<- z];exact ha)⟩);obtain⟨g',h',r2,p2⟩:=r1.put i m1;have hσ':σ.set i (Γ (.ref l))=σ:=by
   apply List.ext_getElem?;intro j;rw[List.getElem?_set];by_cases hj:i=j
   ·subst hj;have hlt:i < σ.length:=(y_.mp hσ).1;rw[d_ rfl,d_ hlt,hσ]
   ·rw[c_ hj]
  rw[hσ',List.set_set]at r2;have ndl:((l::fl)++g).Nodup:=by
   rw[b_,Ab];refine⟨fun z=>(x_.mp z).elim lfl lg,n_.mpr ⟨?_,(n_.mp ndf).2.1,fun a h1 b h2 e=>?_⟩⟩
   ·have:(fl++h).Nodup:=hp.nodup_iff.mpr (n_.mpr ⟨(n_.mp nda).1,(Ab.mp (n_.mp ndf).1).2,fun a h1 b h2 e=>(n_.mp nda).2.2 a h1 b (r_ _ (s_ _ h2)) e⟩);exact(n_.mp this).1
   ·subst e;rcases x_.mp (inFl a h1) with z|z
    ·exact(n_.mp nda).2.2 a z a (o_ _ h2) rfl
    ·exact(n_.mp ndf).2.2 a (s_ _ z) a h2 rfl
  have nd2:(g'++h').Nodup:=p2.nodup_iff.mpr ndl;have lB:B.H l=Ξ:=m.own l (h4.mem_iff.mpr (by simp));refine⟨g',fun a h=>?_,r2,(n_.mp nd2).1,fun b o hbo=>?_,fun a ha=>?_,m.inn,m.out,fun a xs h=>⟨(m.pin a xs h).1,(sl a xs (m.pin a xs h).1 (m.pin a xs h).2).2⟩,fun a xs h=>st a xs (m.pit a xs h),m.nm⟩
  ·have:a≠l:=fun z=>hF (by rw[<- z];exact h);rw[eY this];exact m.fok a h
  ·have:b≠l:=fun z=>by rw[z,lB]at hbo;cases hbo
   rw[eY this];exact m.same _ _ hbo
  ·have:a∈(l::fl)++g:=p2.mem_iff.mp (r_ _ ha);rcases x_.mp this with z|z
   ·rcases p_.mp z with rfl|z
    ·exact lB
    ·rcases x_.mp (inFl a z) with z|z
     ·exact hb a z
     ·exact m.own a (h4.mem_iff.mpr (r_ _ (s_ _ z)))
   ·exact m.own a (h4.mem_iff.mpr (o_ _ z))
theorem MReps.snoc {w:V}{d:D}{fv:List Ψ}(mw:MRep K F H w d fv){xs:List V}{ds:List D}{fi:List Ψ}(m:MReps K F H xs ds fi):∃fl h,MReps K F H (xs++[w]) (ds++[d]) fl/\(fl++h).Perm (fv++fi):=
 ⟨fi++(fv++[]),[],m.append (.cons mw .nil),by rw[Am,Am];exact AA⟩
end
noncomputable def notTuple:Expr->Bool
 |.Tuple ..=>Θ
 |_=>Δ
noncomputable def isName:Expr->Bool
 |.Name ..=>Δ
 |_=>Θ
noncomputable def isTup:Expr->Bool
 |.Tuple ..=>Δ
 |_=>Θ
noncomputable def rsv:Option Expr->(Str->Bool)->Bool
 |some (.Call (.Name x _) [.Constant (.str _) _ _] [] _),k=>k x
 |_,_=>Θ
theorem vX {e:Option Expr}{k:Str->Bool}(h:rsv e k=Δ):∃x np w j p cpos,e=Γ (.Call (.Name x np) [.Constant (.str w) j p] [] cpos)/\k x=Δ:=by
 unfold rsv at h;split at h
 ·exact⟨_,_,_,_,_,_,rfl,h⟩
 ·cases h
noncomputable def vY (G:Gm)(i:Nat)(x:Str):Bool:=(G.N[i]? == Γ x&&(G.kd[i]? == Γ .local||(G.df&&G.kd[i]? == Γ .cell)))&&G.io != Γ i
noncomputable def rev:Stmt->(Option Expr->Bool)->Bool
 |.Raise e Ξ _,k=>k e
 |_,_=>Θ
theorem vZ {s:Stmt}{k:Option Expr->Bool}(h:rev s k=Δ):∃e pos,s=.Raise e Ξ pos/\k e=Δ:=by
 unfold rev at h;split at h
 ·exact⟨_,_,rfl,h⟩
 ·cases h
noncomputable def rsx:Option Expr->(Str->Expr->Bool)->Bool
 |some (.Call (.Name x _) [a] [] _),k=>k x a
 |_,_=>Θ
theorem v3 {e:Option Expr}{k:Str->Expr->Bool}(h:rsx e k=Δ):∃x np a cpos,e=Γ (.Call (.Name x np) [a] [] cpos)/\k x a=Δ:=by
 unfold rsx at h;split at h
 ·exact⟨_,_,_,_,rfl,h⟩
 ·cases h
noncomputable def tcv:Stmt->(Str->Str->List Expr->Str->Str->Stmt->List Stmt->Bool)->Bool
 |.Try [.Assign [.Name xi _] (.Call (.Name xf _) args [] _) _] [.ExceptHandler (Γ (.Name xc _)) (Γ y) (b0::r) _] [] [] _,k=>k xi xf args xc y b0 r
 |_,_=>Θ
theorem v5 {s:Stmt}{k:Str->Str->List Expr->Str->Str->Stmt->List Stmt->Bool}(h:tcv s k=Δ):∃xi pi xf pf args pc pa xc np y b0 r hp pos,s=.Try [.Assign [.Name xi pi] (.Call (.Name xf pf) args [] pc) pa] [.ExceptHandler (Γ (.Name xc np)) (Γ y) (b0::r) hp] [] [] pos/\k xi xf args xc y b0 r=Δ:=by
 unfold tcv at h;split at h
 ·exact⟨_,_,_,_,_,_,_,_,_,_,_,_,_,_,rfl,h⟩
 ·cases h
noncomputable def trv:Stmt->(Str->List Expr->Str->Str->Str->Bool)->Bool
 |.Try [.Expr (.Call (.Name xf _) args [] _) _] [.ExceptHandler (Γ (.Tuple [.Name x1 _,.Name x2 _] _ _)) Ξ [.Raise (Γ (.Call (.Name xc _) [.Constant (.str _) _ _] [] _)) (Γ (.Constant .none _ _)) _] _] [] [] _,k=>k xf args x1 x2 xc
 |_,_=>Θ
theorem v7 {s:Stmt}{k:Str->List Expr->Str->Str->Str->Bool}(h:trv s k=Δ):∃xf pf args pc pe x1 p1 x2 p2 ct tp xc np w j p3 cpos j0 p0 rpos hp pos,s=.Try [.Expr (.Call (.Name xf pf) args [] pc) pe] [.ExceptHandler (Γ (.Tuple [.Name x1 p1,.Name x2 p2] ct tp)) Ξ [.Raise (Γ (.Call (.Name xc np) [.Constant (.str w) j p3] [] cpos)) (Γ (.Constant .none j0 p0)) rpos] hp] [] [] pos/\k xf args x1 x2 xc=Δ:=by
 unfold trv at h;split at h
 ·exact⟨_,_,_,_,_,_,_,_,_,_,_,_,_,_,_,_,_,_,_,_,_,_,rfl,h⟩
 ·cases h
noncomputable def tpx (Z:Sg)(n1 n2:Nat)(c:Str):Bool:=c != fG&&((Z.xm.contains (c,n1,Δ)&&Z.xm.contains (c,n2,Θ))||(Z.xm.contains (c,n1,Θ)&&Z.xm.contains (c,n2,Δ)))
mutual
noncomputable def pH (Z:Sg)(G:Gm):IS->Stmt->Bool
 |.asg tg e,.Assign [t] v _=>gF G tg t&&chk Z G e v&&(isName t||(isTup t&&notTuple v))
 |.app i e,.Expr (.Call (.Attribute (.Name x _) name apos) [v] [] cpos) _=>mD G i x&&name == "append"&&apos.endLine == cpos.line&&notStar v&&chk Z G e v
 |.ret e,.Return (Γ v) _=>chk Z G e v
 |.if_ t a b,.If c x y _=>chk Z G t c&&gu Z G a x&&gu Z G b y
 |.for_ tg s body,.For t it b [] _=>((G.cm&&G.rs)&&gF G tg t)&&(gJ Z G s it&&jt s t)&&gu Z G body b
 |.raisee n c e,s=>rev s fun o=>rsx o fun x a=>G.rs&&G.cm&&fx Z G n x&&x == c&&Z.rc.contains (n,c)&&fy Z {G with rs:=Θ,tr:=Θ} [e] [a]
 |.tryr f es n1 n2 cs n,s=>trv s fun xf args x1 x2 xc=>G.tr&&G.cm&&fx Z G f xf&&Z.fnc G f&&fy Z {G with rs:=Θ,tr:=Θ} es args&&fx Z G n1 x1&&fx Z G n2 x2&&cs.all (tpx Z n1 n2)&&xc == fG&&fx Z G n xc&&Z.rc.contains (n,xc)
 |.tryc i f es n cs k hd,s=>tcv s fun xi xf args xc y b0 r=>G.tr&&G.cm&&vY G i xi&&fx Z G f xf&&Z.fnc G f&&fy Z {G with rs:=Θ,tr:=Θ} es args&&fx Z G n xc&&cs.all (fun c=>Z.xm.contains (c,n,Δ))&&(G.N[k]? == Γ y&&G.io != Γ k)&&G.kd[k]? == Γ .local&&gu Z {G with cm:=Θ,rs:=Θ,tr:=Θ} hd (b0::r)
 |.raise_ n c _,.Raise e Ξ _=>rsv e fun x=>G.rs&&G.cm&&fx Z G n x&&x == c&&Z.rc.contains (n,c)
 |_,_=>Θ
noncomputable def gu (Z:Sg)(G:Gm):List IS->List Stmt->Bool
 |[],[]=>Δ
 |a::as,s::ss=>pH Z G a s&&gu Z G as ss
 |_,_=>Θ
end
noncomputable def uy:IS->Bool
 |_=>Θ
theorem nH {Z:Sg}{G:Gm}{a:IS}{as:List IS}{s:Stmt}{ss:List Stmt}(h:uy a=Θ):gu Z G (a::as) (s::ss)=(pH Z G a s&&gu Z G as ss):=by
 induction a using zT<;>first|rfl|cases h
section
variable {Z:Sg}{CX:CXT}{cl:Nat->List D->Res D}{xp:XK->Hp->Str->Prop}{X:Cx}{ex:Str->Prop}{G:Gm}
theorem uz {tg:Tg}{t:Expr}(ht:gF G tg t=Δ){ga:Ev->Res (D×Ev)}{Dn:Ends}{σ:St}{H:Hp}(h:RS X.K G.io ex (fun τ=>bnd (ga τ) fun p=>bnd (gy tg p.1 p.2) fun τ'=>.ok (.nx τ')) Dn σ H):vf (RO X.K ex ga) (gT X.K tg) Dn σ H:=by obtain⟨B,F,τ,f,m,q⟩:=h;refine m.ro (PO'.bnd q) fun p v H' F' fv f' o hp=>?_;obtain⟨m',hb⟩:=m.ow o;exact m'.gT o.rep o.nod hb (iW tg t ht) (PO'.bnd hp) fun τ' σ' f'' m'' h'=>h'.ok _ _ _ _ m''
theorem st_asg (g:GOk Z CX cl xp X ex G){tg:Tg}{e:IR}{t v:Expr}{pos:Pos}(ht:gF G tg t=Δ)(hv:chk Z G e v=Δ)(hc:(isName t||(isTup t&&notTuple v))=Δ):PS X (.Assign [t] v pos) (RS X.K G.io ex (evS cl (.asg tg e))):=by
 have pe:=snO e Θ X ex G v g hv;have pg:=pgT g tg t ht
 induction t using zE with
 |Name x px=>
  cases tg with
  |tp _=>cases ht
  |nm i=>
   have ht':(G.N[i]? == Γ x&&(G.kd[i]? == Γ .local||(G.df&&G.kd[i]? == Γ .cell)))=Δ:=(Ax.mp ht).1;rw[e_,zX,e_]at ht';have hx:G.N[i]? = Γ x:=f_ ht'.1;have hk:=g.kd i x hx;have hloc:Loc X.env.scope x:=ht'.2.elim (fun z=>.inl (hk.trans (f_ z))) fun z=>.inr (hk.trans (f_ z.2));have hfn:X.fn x=Δ∨X.env.scope.names.lookup x=Γ .local:=ht'.2.elim (fun z=>.inr (hk.trans (f_ z))) fun z=>.inl (g.df z.1 x);have plain:swapsWith v (Γ (.Name x px)) pos.line X.env=pure Θ->PS X (.Assign [.Name x px] v pos) (RS X.K G.io ex (evS cl (.asg (.nm i) e))):=fun hs=>
    hJ (vi (i:=i) (by rw[g.N];exact g.nod) (by rw[g.N];exact hx) hloc pe hs hfn) fun Dn σ H h=>uz ht h
   induction v using zE with
   |ListComp el gens scope vpos=>
    have hsw:swapsWith (.ListComp el gens scope vpos) (Γ (.Name x px)) pos.line X.env=pure (X.env.blockKind == .function&&X.env.kindOf x == Γ .local&&px.line == vpos.line&&!(scope.names.any fun(n,k)=>n == x&&(k == .local||k == .cell))):=rfl;cases hb:(X.env.blockKind == .function&&X.env.kindOf x == Γ .local&&px.line == vpos.line&&!(scope.names.any fun(n,k)=>n == x&&(k == .local||k == .cell))) with
    |false=>exact plain (by rw[hsw,hb])
    |true=>
     rw[hb]at hsw;have hlx:X.env.kindOf x=Γ .local:=by simp only[e_]at hb;exact f_ hb.1.1.2
     cases e with
     |comp G' fr T src ifs elt=>
      have hv:pB gens (fun t it fs=>f9 Z G scope G' fr&&gF G' T t&&(tgs T).all (fun i=>decide (fr.length<=i))&&(gJ Z G src it&&jt src t)&&fy Z G' ifs fs&&chk Z G' elt el)=Δ:=hv;obtain⟨t,it,fs,rfl,hv⟩:=lH hv;have h':(f9 Z G scope G' fr&&gF G' T t&&(tgs T).all (fun i=>decide (fr.length<=i))&&(gJ Z G src it&&jt src t)&&fy Z G' ifs fs&&chk Z G' elt el)=Δ:=hv;simp only[e_]at h';have hs:=lL h'.1.1.1.1.1;have hT:=h'.1.1.1.1.2;have ha:∀i∈tgs T,fr.length<=i:=fun i hi=>m_ (zY.mp h'.1.1.1.2 i hi);intro pins s' σ H Dn Iv h;obtain⟨cl',S⟩:=jg g Iv.ok hs;obtain⟨E0,hE0⟩:=g.exs;have p:=sG (py:=px) (spos:=pos) (i:=i) (pos:=vpos) (elt:=el) (ifs:=fs) (tg:=t) (g:=gT X.K T) (tt:=RT X.K ex (eW ifs) (iH cl ifs)) (te:=RD X.K ex (vars elt) (evR cl elt)) (g.calm hs.cm) (by rw[g.N];exact g.nod) (by rw[g.N];exact hx) hlx S (tu src X ex G it t g h'.1.1.2.1 h'.1.1.2.2) (fun C s H fp=>pgT (gb g hs cl' hE0 C s H fp) T t hT)
       (fun C s H fp=>tq ifs _ ex G' fs (gb g hs cl' hE0 C s H fp) h'.1.2) (fun C s H fp=>(snd elt _ ex G' el (gb g hs cl' hE0 C s H fp) h'.2).1) (fun _ _ _ _ _ _ I3 hC f3 _ _ z=>jP hE0.1 g.frm I3 hC f3 z) hsw (fun x=>gB h'.1.1.2.1 X.env x)
      refine p pins s' σ H Dn Iv ?_;obtain⟨B,F,τ,f,m,q⟩:=h
      -- as one that is kept
      have q0:PO' ex (bnd (bnd (evR cl (.comp G' fr T src ifs elt) τ) fun d=>.ok (fF (.comp G' fr T src ifs elt) d τ)) fun p=>bnd (gy (.nm i) p.1 p.2) fun τ'=>.ok (.nx τ')) (Fk X.K B Dn):=q;have q1:=PO'.bnd (PO'.bnd q0);have fin:∀(d:D) (v:V) (H':Hp) (F':Ψ->Prop) (fv f':List Ψ),Ow X.K F H f F' H' σ v (fF (.comp G' fr T src ifs elt) d τ).1 fv (fF (.comp G' fr T src ifs elt) d τ).2 f'->(∀(p:D×Ev),p=fF (.comp G' fr T src ifs elt) d τ->PO' ex (bnd (gy (.nm i) p.1 p.2) fun τ'=>.ok (.nx τ')) (Fk X.K B Dn))->Dn.nx (σ.set i (Γ v)) H':=by intro d v H' F' fv f' o hp;obtain⟨m',hb'⟩:=m.ow o;have:=m'.gT (t:=.nm i) (Q:=Dn.nx) o.rep o.nod hb' (iW _ _ ht) (PO'.bnd (hp _ rfl)) fun τ' σ' f'' m'' h'=>h'.ok _ _ _ _ m'';exact this
      cases z:evR cl (.comp G' fr T src ifs elt) τ with
      |error er=>
       rw[z]at q1;cases er with
       |stuck=>exact q1.no.elim
       |exc c=>refine gR (S:=fun _=>True) (τ:=τ) (ex:=ex) (Kt:=fun _=>False) hs.fle ha (ft m.rps) ?_ fun A ys ds H' e hA hA' mm k=>k.elim;show PO' ex (evR cl (.comp G' fr T src ifs elt) τ) _;rw[z];exact q1
      |ok d=>
       rw[z]at q1;have q2:=q1.ok.ok;obtain⟨o',ds,rfl⟩:∃o ds,d=.lst o ds:=by have zz:=z;rw[jZ]at zz;obtain⟨its,_,zz⟩:=gA zz;obtain⟨_,zz⟩:=nt zz;obtain⟨ds,_,zz⟩:=gA zz;cases zz;exact⟨Δ,ds,rfl⟩
       by_cases hi:eS ds=Δ
       ·have hkp:fF (.comp G' fr T src ifs elt) (.lst o' ds) τ=(.lst Δ ds,τ):=by unfold fF;rw[c_ (show ¬e7 (.lst o' ds)=Δ by intro z;cases z)];show(if eS ds=Δ then _ else _)=_;rw[d_ hi]
        refine gR (S:=fun _=>True) (τ:=τ) (ex:=ex) (Kt:=fun d'=>∃o'',d'=.lst o'' ds) hs.fle ha (ft m.rps) ?_ fun A ys ds' H' e hA hA' mm k=>?_
        ·show PO' ex (evR cl (.comp G' fr T src ifs elt) τ) _;rw[z];exact⟨o',rfl⟩
        ·obtain⟨o'',k⟩:=k;cases k;obtain⟨k1,k2,k3⟩:=jo m.fok m.rps e;refine fin (.lst o' ds) (.ref A) H' F [A] f ?_ (fun p hp=>by subst hp;exact q2);rw[hkp];refine⟨k3,k1,.lstO (fun zz=>m.fok A zz hA) hA' (mm.free hi),k2,?_,fun a ha=>?_⟩
         ·rw[As,Ab];refine⟨fun zz=>?_,m.nod⟩;obtain⟨_,xs,e⟩:=m.rps.own A zz;rw[hA]at e;cases e
         ·rw[As]at ha;rcases p_.mp ha with rfl|ha
          ·exact .inr hA
          ·exact .inl ha
       ·have hkp:fF (.comp G' fr T src ifs elt) (.lst o' ds) τ=(.lst Δ (ers ds),frz (vars (.comp G' fr T src ifs elt)) τ):=by unfold fF;rw[c_ (show ¬e7 (.lst o' ds)=Δ by intro z;cases z)];show(if eS ds=Δ then _ else _)=_;rw[c_ hi]
        obtain⟨F1,gg,b1,b2,b3,b4,b5,b6⟩:=il (vars (.comp G' fr T src ifs elt)) m.fok m.rps m.nod;refine gR (S:=F1) (τ:=τ) (ex:=ex) (Kt:=fun d'=>∃o'',d'=.lst o'' ds) hs.fle ha b6 ?_ fun A ys ds' H' e hA hA' mm k=>?_
        ·show PO' ex (evR cl (.comp G' fr T src ifs elt) τ) _;rw[z];exact⟨o',rfl⟩
        ·obtain⟨o'',k⟩:=k;cases k;obtain⟨c1,c2,c3⟩:=grow (fun a=>a≠A) b1 b2 e;have m2:HReps X.K (fun a=>F1 a∨(a≠A/\H a=Ξ/\H' a≠Ξ)) H' ys ds:=mm.step (fun a xs h r=>⟨h.1.elim (fun z=>.inl z) fun z=>.inr ⟨h.2,z,r.some⟩,r⟩) fun a xs h=>h;refine fin (.lst o' ds) (.ref A) H' (fun a=>F1 a∨(a≠A/\H a=Ξ/\H' a≠Ξ)) [A] gg ?_ (fun p hp=>by subst hp;exact q2);rw[hkp];refine⟨b4.trans c3 (fun x hx=>.inl (b5 x hx)),c1,.lstO (fun zz=>?_) hA' m2.frozen,c2,?_,fun a ha=>?_⟩
         ·rcases zz with zz|zz
          ·exact b1 A zz hA
          ·exact zz.1 rfl
         ·rw[As,Ab];refine⟨fun zz=>?_,b3⟩;obtain⟨_,xs,e⟩:=b2.own A zz;rw[hA]at e;cases e
         ·rw[As]at ha;rcases p_.mp ha with rfl|ha
          ·exact .inr hA
          ·exact .inl (b5 a ha)
     |_=>first|exact dA hv|cases hv
   |SetComp _ _ _ _=>cases e<;>first|exact dA hv|cases hv
   |DictComp _ _ _ _ _=>cases e<;>first|exact dA hv|cases hv
   |_=>exact plain rfl
 |Tuple ts k px=>
  have hc':notTuple v=Δ:=hc;refine hJ (vg pe pg ?_ ?_ rfl) fun Dn σ H h=>uz ht h
  ·induction v using zE<;>rfl
  ·induction v using zE<;>first|rfl|cases hc'
 |_=>cases hc
end
section
variable {Z:Sg}{CX:CXT}{cl:Nat->List D->Res D}{xp:XK->Hp->Str->Prop}{X:Cx}{ex:Str->Prop}{G:Gm}
theorem v8 {K:Frag}{F:Ψ->Prop}{H:Hp}{σ:St}{τ:Ev}{f:List Ψ}{i:Nat}{ds:List D}(r:Rps K F H σ τ f)(hs:eZ τ i=Γ (.lst Δ ds)):∃l xs,σ[i]? = Γ (Γ (.ref l))/\H l=Γ (.lst xs)/\xs.length=ds.length:=by
 obtain⟨v,fs,g,h1,h2,h3,h4⟩:=r.at hs;cases h2 with
 |lstO hF hH hm=>exact⟨_,_,h1,hH,hm.length⟩
end
theorem lM {K:Frag}{h:Heap}{C:Ψ}{bmB:List Φ}{newId:String}(X:K.In h)(q:PySem.W.excIn K C bmB newId=Δ):∃bm N nm qn bs hdct sn sub ab col dd k0 k1 k2 k3 k5 mN,
  h.get? C=Γ (excClassObj nm qn C N bs bm hdct sn sub ab col dd k0 k1 k2 k3 k5 newId)/\h.Ns N mN/\mN "__init__" = Ξ/\OwnTail h bmB bm:=by
 unfold PySem.W.excIn at q;split at q
 ·rename_i dd cd sl ho;split at q
  ·rename_i C' bm k0 k1 k2 k3 n k5 hm hs;simp only[e_,beq_iff_eq,Bool.not_eq_true']at q
   obtain⟨⟨⟨⟨⟨rfl,rfl⟩,hdel⟩,ht⟩,hok⟩,hni⟩:=q;obtain⟨nm,bs,mro,ns,qn,hd,sn,sub,ab,col,del⟩:=cd;dsimp only at hm hdel hok hni;subst hm hdel;obtain⟨l⟩:=sl;have hs:l=[k0,k1,k2,k3,Γ (.builtin n),k5]:=hs;subst hs;exact⟨bm,ns,nm,qn,bs,hd,sn,sub,ab,col,dd,k0,k1,k2,k3,k5,_,X _ _ ho,.of_isNs (PySem.W.isNs_of_in X hok),PySem.W.nsMap_none_of_in X hok hni,PySem.W.tail_of_in X ht⟩
  ·cases q
 ·cases q
section
variable {Z:Sg}{CX:CXT}{cl:Nat->List D->Res D}{xp:XK->Hp->Str->Prop}{X:Cx}{ex:Str->Prop}{G:Gm}
theorem qK (g:GOk Z CX cl xp X ex G){n:Nat}{c w w':Str}{np cpos pos p1:Pos}{j:Nat}(hrs:G.rs=Δ)(hcm:G.cm=Δ)(hx:fx Z G n c=Δ)(hc:(n,c)∈Z.rc) :
  PS X (.Raise (Γ (.Call (.Name c np) [.Constant (.str w) j p1] [] cpos)) Ξ pos) (RS X.K G.io ex (evS cl (.raise_ n c w'))):=by
 obtain⟨k1,k2,k3,k4⟩:=gr g hx;obtain⟨_,C,hm,hn,hq⟩:=g.xrs n c hc;intro pins s σ H Dn I ⟨B,F,τ,f,m,q⟩;have q:ex c:=q;obtain⟨bm,N,nm,qn,bs,hdct,sn,sub,ab,col,dd,k0,k1',k2',k3',k5,mN,e1,e2,e3,e4⟩:=lM I.ok.mod.kin hq;refine wpAny_Raise_call_subT (C:=C) (nm:=nm) (q:=qn) (N:=N) (bs:=bs) (bm:=bm) (hdct:=hdct) (sn:=sn) (sub:=sub) (ab:=ab) (col:=col) (dd:=dd) (k0:=k0) (k1:=k1') (k2:=k2') (k3:=k3') (k5:=k5)
  PySem.F.excBase_ValueError (mN:=mN) (e4.hasType PySem.F.excBase_ValueError.hasBase) (I.ok.hd (g.calm hcm)) rfl e3 (gn I k1 hm ⟨rfl,?_⟩ k4)
 have pa:PA X [.Constant (.str w) j p1] (jE (tC (.str w)) pZ):=fM jA gK rfl;refine Calls.evalArgs_plain (wpAny_mono (pa cpos pins s σ H (fun vs H'=>vs=[.str w]) I rfl) (fun us s2 ⟨vs,H1,I1,r,hv⟩=>⟨rfl,?_,I1.bk _ _ e1,e2.keeps I1.bk,e4.keeps I1.bk,fun h' e hx=>g.rse hrs pins σ H1 s2 c C h' e us I1 q hn hx⟩) fun _ _ y=>y);subst hv;rw[<- r.length];exact(by decide:1<=Ε)
end
section
variable {X:Cx}{pins:List (Ψ×Obj)}{σ:St}{H:Hp}{s:Ω}
theorem v9 {M:Model}{A:Η}{E:Φ->Ω->Prop}{i:Nat}{x:Str}{v:V}{Q:Unit->Ω->Prop}(I:Inv X pins σ H s)(hN:X.N.Nodup)(hi:X.N[i]? = Γ x)(hk:X.env.kindOf x=Γ .local)(hσ:σ[i]? = Γ (Γ v))
  (h:∀s',Inv X pins (σ.set i Ξ) H s'->Q () s'):Ι M A (unbindName X.env x) Q E s:=by
 obtain⟨m,hn,hl⟩:=id I.loc;have hcls:(X.env.scope.kind == .class||(X.env.scope.kind == .module&&X.env.locals != X.env.globals))=Θ:=by rw[I.ok.kind];rfl
 have cne:=I.cne;obtain⟨u,_,q⟩:=hl i x v hi hσ (.inl hk);have hv:m x=Γ u:=by
  rcases q with⟨_,e⟩|⟨k,_⟩
  ·exact e
  ·rw[hk]at k;rcases k with k|k<;>cases k
 refine wpAny_unbindName_local hk hn hv hcls fun h' w hn' hs=>?_;obtain⟨oL,_,_,hoL,_⟩:=id hn;refine h _ ⟨I.ok,I.os,I.bare,⟨fun b o e n hb hx=>?_,fun b o e n hb hx=>?_,I.base.free,fun b o e hx=>?_,I.base.tups,I.base.frzs,I.base.tbls⟩,⟨_,hn',fun j y v' e1 e2 e3=>?_⟩,fun y c e=>?_,I.free,I.freeC,fun p hp=>?_,fun b ob e=>?_,by simpa using I.len⟩
 ·exact(hs.2 b (u_ (zV (j_ e) I.ok.above))).trans (I.base.keep b o e n hb hx)
 ·obtain⟨sl,e1⟩:=I.base.slot b o e n hb hx;exact⟨sl,(hs.2 b (u_ (zV (j_ e) I.ok.above))).trans e1⟩
 ·obtain⟨o',e1⟩:=I.base.there b o e hx;exact⟨o',(hs.2 b (u_ (zV (j_ e) I.ok.above))).trans e1⟩
 ·have hj:j≠i:=by rintro rfl;have hlt:j < σ.length:=(y_.mp hσ).1;rw[List.getElem?_set_self hlt]at e2;cases e2
  rw[Al (Ne.symm hj)]at e2;obtain⟨u',r',q⟩:=hl j y v' e1 e2 e3;refine⟨u',r',?_⟩;rcases q with⟨k,e⟩|⟨k,c,e,z⟩
  ·refine .inl ⟨k,?_⟩;have:y≠x:=fun e=>hj (jz hN e1 (e ▸ hi));simp[this,e]
  ·exact .inr ⟨k,c,e,z.sameBut hs (cne y c e)⟩
 ·obtain⟨w',z⟩:=I.cell y c e;exact⟨w',z.sameBut hs (cne y c e)⟩
 ·obtain⟨e,n,ne,nf,d⟩:=I.pin p hp;exact⟨(hs.2 p.1 ne).trans e,n,ne,nf,d⟩
 ·refine(I.hok b ob e).stay (fun c w' hc q=>(hs.2 c ?_).trans q) (fun _ q=>q) fun _ _ q=>q;rintro rfl;rcases hc with rfl|hc
  ·rw[I.free]at e;cases e
  ·rw[I.free]at hc;cases hc
theorem wa {M:Model}{A:Η}{E:Φ->Ω->Prop}{i:Nat}{x:Str}{pos:Pos}{Q:Unit->Ω->Prop}(I:Inv X pins σ H s)(hN:X.N.Nodup)(hi:X.N[i]? = Γ x)(hk:X.env.kindOf x=Γ .local)
  (h:∀s',Inv X pins (σ.set i Ξ) H s'->Q () s'):Ι M A (do bindName X.env x .none;unbindBehindTheSuite X.env x pos) Q E s:=by
 have hiσ:i < σ.length:=by rw[I.len];exact(y_.mp hi).1
 unfold bindName unbindBehindTheSuite;refine g_ (g_ (Ae (wpAny_point (g_ (hG (v:=.non) I hN hi (.inl hk) rfl (fun s1 I1=>wpAny_point (wpAny_onRaise (v9 I1 hN hi hk (v:=.non) (by rw[List.getElem?_set_self hiσ]) fun s2 I2=>?_))) (.inr hk))))));rw[List.set_set]at I2;exact h s2 I2
theorem Inv.track {a:Ψ}{o:Obj}{u:HO}(I:Inv X pins σ H s)(ha:s.heap.get? a=Γ o)(n:H a=Ξ)(hu:fN X.prog X.w (upd H a (.frz o u)) s.heap a u)(n0:∀ob,X.s₀.heap.get? a=Γ ob->X.H₀ a=Ξ->a∉X.ex->False)
  (n0':X.H₀ a=Ξ) (nl:a≠X.env.locals) (nc:∀x c,X.env.cells.lookup x=Γ c->c≠a) (np:∀p∈X.pn++pins,p.1≠a):Inv X pins σ (upd H a (.frz o u)) s:=by
 refine⟨I.ok,I.os,I.bare,⟨I.base.keep,I.base.slot,fun b ob e z hx=>?_,I.base.there,fun b xs e=>?_,fun b ob v e=>?_,fun b ps e=>?_⟩,I.loc,I.cell,?_,fun x c e=>?_,fun p hp=>?_,fun b ob e=>?_,I.len⟩
 ·have:b≠a:=by rintro rfl;exact n0 ob e z hx
  rw[eY this];exact I.base.free b ob e z hx
 ·have:b≠a:=by rintro rfl;rw[n0']at e;cases e
  rw[eY this];exact I.base.tups b xs e
 ·have:b≠a:=by rintro rfl;rw[n0']at e;cases e
  rw[eY this];exact I.base.frzs b ob v e
 ·have:b≠a:=by rintro rfl;rw[n0']at e;cases e
  obtain⟨more,z⟩:=I.base.tbls b ps e;exact⟨more,by rw[eY this];exact z⟩
 ·rw[eY (Ne.symm nl)];exact I.free
 ·rw[eY (nc x c e)];exact I.freeC x c e
 ·obtain⟨e,z,r⟩:=I.pin p hp;exact⟨e,by rw[eY (np p hp)];exact z,r⟩
 ·by_cases hb:b=a
  ·subst hb;rw[fg]at e;cases e;exact⟨ha,hu⟩
  ·rw[eY hb]at e;exact(I.hok b ob e).stay (fun _ _ _ z=>z) (fun c z=>by rw[eY (fK z n)];exact z) fun c xs z=>by rw[eY (fK z n)];exact z
theorem ip {H1 H':Hp}{s1 s':Ω}{B:Heap}{a:Ψ}{cls:Φ}{a0:Option Ψ}{h5:Heap}(I:Inv X pins σ H1 s1)(os:s'.os=s1.os)(bare:AllBare s'.gens)(un:Un (frs X.stack) [] H1 H' s1.heap s'.heap)(hB:HOk X.prog X.w H' B)(sm:eX H1 H')
  (kB:∀b o,s1.heap.get? b=Γ o->H1 b=Ξ->b∉frs X.stack->B.get? b=Γ o) (fl:Heap.FlyingD B X.stack a cls a0 h5) (up:s'.heap.UpG h5):Inv X pins σ H' {s' with heap:=h5}:=by
 refine I.call' (s':={s' with heap:=h5}) os ⟨fun b o e n nf _=>fl.1 _ _ (kB b o e n nf),fun b o e n hf _=>?_,un.free,fun b o e _=>?_,fun b xs e=>sm _ _ e,fun b o u e=>sm _ _ e,fun b ps e=>⟨#[],by rw[sm _ _ e];simp⟩⟩ (hB.kept fl.1) bare (fun b z=>absurd z (by simp))
 ·obtain⟨sl,h1⟩:=un.slot b o e n hf (by simp);obtain⟨_,o',ho',nf⟩:=I.stack.mem hf;rw[e]at ho';cases ho';obtain⟨sl',h2⟩:=up.1 b _ h1 nf;exact⟨sl',h2⟩
 ·cases q:H1 b with
  |none=>
   by_cases hf:b∈frs X.stack
   ·obtain⟨sl,h1⟩:=un.slot b o e q hf (by simp);obtain⟨_,o',ho',nf⟩:=I.stack.mem hf;rw[e]at ho';cases ho';obtain⟨sl',h2⟩:=up.1 b _ h1 nf;exact⟨_,h2⟩
   ·exact⟨_,fl.1 _ _ (kB b o e q hf)⟩
  |some u=>
   obtain⟨ob,ho⟩:=(hB b u (sm _ _ q)).at
   exact⟨_,fl.1 _ _ ho⟩
end
theorem Rps.drop {K:Frag}{F:Ψ->Prop}{H:Hp}{o:Option V}:∀ {σ:St}{τ:Ev}{f:List Ψ} (i:Nat),Rps K F H σ τ f->f.Nodup->∃g,Rps K F H (σ.set i o) (τ.set i Option.none) g/\g.Nodup/\∀a∈g,a∈f
 |_,_,_,i,.nil,nd=>⟨[],.nil,nd,fun _ h=>h⟩
 |_,_,_,0,.none h,nd=>⟨_,.none h,nd,fun _ h=>h⟩
 |_,_,_,0,.some m h,nd=>⟨_,.none h,(n_.mp nd).2.1,fun _ h=>o_ _ h⟩
 |_,_,_,i+1,.none h,nd=>by obtain⟨g,h1,h2,h3⟩:=Rps.drop (o:=o) i h nd;exact⟨g,.none h1,h2,h3⟩
 |_,_,_,i+1,.some (f:=f0) m h,nd=>by obtain⟨nd1,nd2,nd3⟩:=n_.mp nd;obtain⟨g,h1,h2,h3⟩:=Rps.drop (o:=o) i h nd2;exact⟨f0++g,.some m h1,n_.mpr ⟨nd1,h2,fun a ha b hb=>nd3 a ha b (h3 b hb)⟩,fun a ha=>(x_.mp ha).elim (r_ _) fun z=>o_ _ (h3 a z)⟩
theorem mJ {K:Frag}{F:Ψ->Prop}{H:Hp}:∀ {σ:St}{n:Nat},σ.length=n->Rps K F H σ (Ρ n Ξ) []
 |[],0,_=>.nil
 |_::σ,n+1,h=>.none (mJ (by simpa using h))
noncomputable def gD (X:Cx)(a:Ψ):Cx:={X with A:=X.A.mark (Γ (.ref a)),calm:=Θ,xe:=fun _ _=>False}
section
variable {X:Cx}{pins pins':List (Ψ×Obj)}{σ:St}{H:Hp}{s:Ω}{E:Φ->Ω->Prop}{a:Ψ}
theorem iq (I:Inv X pins σ H s):Inv (gD X a) pins σ H s:=
 ⟨⟨I.ok.mod,I.ok.kind,I.ok.glob,I.ok.blt,I.ok.above,I.ok.inj,I.ok.has,I.ok.cab,(fun z=>nomatch z),I.ok.frames,I.ok.stk,I.ok.exf,I.ok.bs,I.ok.bsz,I.ok.noex,I.ok.exfs,I.ok.funs,I.ok.frf⟩,I.os,I.bare,I.base,I.loc,I.cell,I.free,I.freeC,I.pin,I.hok,I.len⟩
theorem mK (ok:X.Ok)(I:Inv (gD X a) pins σ H s):Inv X pins σ H s:=
 ⟨ok,I.os,I.bare,I.base,I.loc,I.cell,I.free,I.freeC,I.pin,I.hok,I.len⟩
end
section
variable {Z:Sg}{CX:CXT}{cl:Nat->List D->Res D}{xp:XK->Hp->Str->Prop}{X:Cx}{ex:Str->Prop}{G:Gm}{pins:List (Ψ×Obj)}{a:Ψ}
theorem oq (g:GOk Z CX cl xp X ex G):GOk Z CX cl xp X.nox nox {G with rs:=Θ,tr:=Θ} where
 N:=g.N
 nod:=g.nod
 calm:=g.calm
 fk:=g.fk
 un:=g.un
 own:=fun z=>by cases z
 kd:=g.kd
 noD:=g.noD
 gl:=g.gl
 nam:=g.nam
 df:=g.df
 blt:=g.blt
 cst:=g.cst
 fns:=g.fns
 fio:=g.fio
 xcv:=g.xcv
 xcl:=g.xcl
 xmt:=g.xmt
 xrs:=g.xrs
 rse:=fun z=>by cases z
 tr:=fun z=>by cases z
 exs:=⟨fun _ _ _=>False,fun _ _ _ _ _ _ _ _ _ _ _ _ z=>z.elim,fun c _ z=>z.elim⟩
 hid:=g.hid
 exn:=g.exn
 cx:=g.cx
 frm:=g.frm
theorem pI (g:GOk Z CX cl xp X ex G)(hpl:∀f∈Z.fns,f∈Z.pl->∀x,Z.name f=Γ x->FnC X.prog X.w X.K X.mg X.base CX (X.A.mark (Γ (.ref a))) cl xp f x):GOk Z CX cl xp (gD X a) nox {G with cm:=Θ,rs:=Θ,tr:=Θ} where
 N:=g.N
 nod:=g.nod
 calm:=fun z=>by cases z
 fk:=g.fk
 un:=g.un
 own:=fun z=>by cases z
 kd:=g.kd
 noD:=g.noD
 gl:=g.gl
 nam:=g.nam
 df:=g.df
 blt:=g.blt
 cst:=g.cst
 fns:=fun f hf h x hx=>hpl f hf (h.elim (fun z=>by cases z) id) x hx
 fio:=fun f hf h=>by cases h
 xcv:=g.xcv
 xcl:=g.xcl
 xmt:=g.xmt
 xrs:=g.xrs
 rse:=fun z=>by cases z
 tr:=fun z=>by cases z
 exs:=⟨fun _ _ _=>False,fun _ _ _ _ _ _ _ _ _ _ _ _ z=>z.elim,fun c _ z=>z.elim⟩
 hid:=g.hid
 exn:=g.exn
 cx:=g.cx
 frm:=g.frm
theorem pJ (g:GOk Z CX cl xp X ex G){n:Nat}{c:Str}{e:IR}{a:Expr}{np cpos pos:Pos}(hrs:G.rs=Δ)(hcm:G.cm=Δ)(hx:fx Z G n c=Δ)(hc:(n,c)∈Z.rc)(hst:fy Z {G with rs:=Θ,tr:=Θ} [e] [a]=Δ) :
  PS X (.Raise (Γ (.Call (.Name c np) [a] [] cpos)) Ξ pos) (RS X.K G.io ex (evS cl (.raisee n c e))):=by
 obtain⟨k1,k2,k3,k4⟩:=gr g hx;obtain⟨_,C,hm,hn,hq⟩:=g.xrs n c hc;intro pins s σ H Dn I ⟨B,F,τ,f,m,q⟩;have q:PO' ex (bnd (noX (evR cl e τ)) fun _=>.error (.exc c)) (Fk X.K B Dn):=q;have pa:=kq [e] X.nox nox _ [a] (oq g) hst;cases z:evR cl e τ with
 |error er=>rw[z]at q;exact q.no.elim
 |ok d=>
  rw[z]at q;have q:ex c:=q;obtain⟨bm,N,nm,qn,bs,hdct,sn,sub,ab,col,dd,k0,k1',k2',k3',k5,mN,e1,e2,e3,e4⟩:=lM I.ok.mod.kin hq;refine wpAny_Raise_call_subT (C:=C) (nm:=nm) (q:=qn) (N:=N) (bs:=bs) (bm:=bm) (hdct:=hdct) (sn:=sn) (sub:=sub) (ab:=ab) (col:=col) (dd:=dd) (k0:=k0) (k1:=k1') (k2:=k2') (k3:=k3') (k5:=k5)
   PySem.F.excBase_ValueError (mN:=mN) (e4.hasType PySem.F.excBase_ValueError.hasBase) (I.ok.hd (g.calm hcm)) (fS Z _ cpos X.env hst) e3 (gn I k1 hm ⟨rfl,?_⟩ k4)
  have hra:RA X.K nox (eW [e]) (fq cl [e]) σ H (fun vs _=>vs.length=1):=by refine⟨fun _=>True,τ,ft m.rps,?_⟩;show PO' nox (bnd (evR cl e τ) fun d=>bnd (fq cl [] τ) fun ds=>.ok (d::ds)) _;rw[z];intro vs H' _ r;exact r.length
  have hst':(notStar a&&chk Z {G with rs:=Θ,tr:=Θ} e a&&fy Z {G with rs:=Θ,tr:=Θ} [] [])=Δ:=hst;simp only[e_]at hst';have e0:=eT hst'.1.1 [] X.env;have pa':=pa cpos pins s σ H _ (I.wish _) hra;rw[show Μ [a] X.nox.env=(Θ,eval a X.env)::Μ [] X.env from e0]at pa';rw[e0];refine Calls.evalArgs_plain (wpAny_mono pa' (fun us s2 ⟨vs,H1,I1,r,hv⟩=>⟨rfl,?_,I1.unwish.bk _ _ e1,e2.keeps I1.unwish.bk,e4.keeps I1.unwish.bk,fun h' e hx=>g.rse hrs pins σ H1 s2 c C h' e us I1.unwish q hn hx⟩) fun _ _ y=>y.elim);rw[<- r.length,hv];exact(by decide:1<=Ε)
theorem qL {k:Nat}{f:Nat}{fa:Ψ}{fd:Ν}{ps:List Str}{E:XK}{pins:List (Ψ×Obj)}{σ:St}{H:Hp}{s:Ω}{Q:VK}{E':Φ->Ω->Prop}{us:List Φ}{vs:List V}{ds:List D}{Fc:Ψ->Prop}
  (F:FnOk X.prog X.w X.K X.mg X.base CX k fa fd ps (spF X.K cl xp f ps)) (hr:Room k X.A) (hb:Binds X.K fd ps [])
  (hh:∀(outer:List Env) (H:Hp) (s:Ω) (E:XK) (e:Φ) (s':Ω),HOk X.prog X.w H s.heap->(∀b∈frs outer,H b=Ξ)->CX outer (fu s.heap H) s E e s'->CX outer H s E e s')
  (I:Inv X pins σ H s) (hx:∀(e:Φ) (s':Ω),CX X.stack H s E e s'->E' e s') (r:Vals vs us) (hl:vs.length=ps.length) (fok:FOk Fc H) (m:HReps X.K Fc H vs ds)
  (q:PO' (xp E (fu s.heap H)) (cl f (ers ds)) fun d=>∀v H' F' fv,Out X.K Fc H F' H' v d fv->Q v H'):Ι (Κ X.prog X.w) X.A (call (.ref fa) us) (EP X pins σ Q) E' s:=by
 have hsp:spF X.K cl xp f ps vs (fu s.heap H) (fun v H'=>Pers s.heap (fu s.heap H) H'->Q v (iB H H')) E:=
  ⟨hl,nv _ _,_,ds,fun a h=>h.2,lI I.hok m,q.mono fun d hd v H' F' fv o p=>hd v _ _ fv (lJ I.hok fok p o)⟩
 have hl2:(us++([]:List Φ)).length=ps.length:=by rw[Am,<- r.length];exact hl
 have bd:=hb s us I.kIn hl2;rw[Am]at bd;refine wpAny_call (codeAny_mono (F.run X.A X.stack s (fu s.heap H) ⟨us,[]⟩ us vs _ E hr I.env0h bd r hsp) fun r' s' hq=>?_);cases r' with
 |error e=>exact hx e s' (hh X.stack H s E e s' I.hok I.env0.frf hq)
 |ok fl=>
  cases fl with
  |ret u=>obtain⟨v,H',a1,a2,a3,a4,a5,a6⟩:=hq;exact I.after (Q:=Q) ⟨v,iB H H',a1,a2,lG I.hok a3,lF I.hok a4 (g5 a3) (fs:=frs X.stack) (fun b o _ e n f=>a3.keep b o e n f (by simp)) I.env0.frf,a5,a6 (g5 a3)⟩
  |next=>exact False.elim hq
  |brk=>exact False.elim hq
  |cont=>exact False.elim hq
theorem iZ (g:GOk Z CX cl xp X ex G)(tr:TrOk Z CX cl xp X){f:Nat}{x:Str}{p pos:Pos}{es:List IR}{args:List Expr}(h1:fx Z G f x=Δ)(h2:Z.fnc G f=Δ)(hst:fy Z {G with rs:=Θ,tr:=Θ} es args=Δ)
  {pins:List (Ψ×Obj)}{s:Ω}{σ:St}{H:Hp} (I:Inv X pins σ H s) {τ:Ev}{S:Ψ->Prop} (hs:Slots X.K S H σ τ (eW es)) {ds:List D} (hd:fq cl es τ=.ok ds) {Q:VK}{E':Φ->Ω->Prop}
  (hok:∀vs H1,eX H H1->HReps X.K (nw S H) H1 vs ds->∃Fc,FOk Fc H1/\HReps X.K Fc H1 vs ds/\∀d,cl f (ers ds)=.ok d->∀v H' F' fv,Out X.K Fc H1 F' H' v d fv->Q v H')
  (hsk:cl f (ers ds)≠stk) (hxc:∀c,cl f (ers ds)=.error (.exc c)->∃C,PySem.W.nsIn X.K Ζ c=Γ (Γ (.ref C))/\∀(H1:Hp) (s1:Ω) (e:Φ) (s':Ω),eX H H1->Inv X pins σ H1 s1->CX1 X.prog X.w X.stack H1 s1 (fun cls dx _=>cls=.ref C/\(c≠fG->dx=Ξ)) e s'->E' e s') :
  Ι (Κ X.prog X.w) X.A (eval (.Call (.Name x p) args [] pos) X.env) (EP X pins σ Q) E' s:=by
 obtain⟨k1,k2,k3,k4⟩:=gr g h1;obtain⟨k,fa',fd,ps,hm,hkp,hb,F,hr,hlen⟩:=(g.fns f (jd h2).1 (jd h2).2 x k2).ex;have pa:=kq es X.nox nox _ args (oq g) hst;have hlp:ds.length=ps.length:=by
  rw[<- gi];refine hlen (fun _=>True) (ers ds) (fun _=>True) ?_;cases z:cl f (ers ds) with
  |ok d=>trivial
  |error er=>
   cases er with
   |stuck=>exact absurd z hsk
   |exc c=>trivial
 have fin:∀(us:List Φ) (s1:Ω) (vs:List V) (H1:Hp),Inv X pins σ H1 s1->Vals vs us->eX H H1->HReps X.K (nw S H) H1 vs ds->Ι (Κ X.prog X.w) X.A (call (.ref fa') us) (EP X pins σ Q) E' s1:=by
  intro us s1 vs H1 I1 r e1 m0;obtain⟨Fc,fok,mm,hq⟩:=hok vs H1 e1 m0;have hl:vs.length=ps.length:=by rw[mm.length];exact hlp
  cases z:cl f (ers ds) with
  |error er=>
   cases er with
   |stuck=>exact absurd z hsk
   |exc c=>obtain⟨C,hC,hx⟩:=hxc c z;exact qL (E:=fun cls dx _=>cls=.ref C/\(c≠fG->dx=Ξ)) F hr hb g.hid I1 (fun e s' h'=>hx H1 s1 e s' e1 I1 (tr.cx _ _ _ _ _ _ h')) r hl fok mm (by rw[z];exact tr.xp c C _ hC)
  |ok d=>refine wpAny_mono (lK (X:=X.nox) (Q:=Q) (E:=fun _ _ _=>False) F hr hb (fun pins' σ' H' s' e s'' I' h'=>(g.exn _ _ _ _ _ h').elim) g.hid (I1.wish _) r hl fok mm (by rw[z];exact fun v H' F' fv o=>hq d z v H' F' fv o)) (fun _ _ ⟨v,H',I',rv,q⟩=>⟨v,H',I'.unwish,rv,q⟩) fun _ _ y=>y.elim
 have hra:RA X.K nox (eW es) (fq cl es) σ H (fun vs H1=>eX H H1/\HReps X.K (nw S H) H1 vs ds):=by refine⟨S,τ,hs,?_⟩;rw[hd];exact fun vs H' e r=>⟨e,r⟩
 refine Au (gn I k1 hm ?_ k4)
 induction args using zL with
 |nil=>
  induction es using zL with
  |cons _ _=>cases hst
  |nil=>cases hd;exact PySem.W.callWith_K0 I.kIn hkp (fin [] s [] H I .nil (.refl _) .nil)
 |cons e l=>
  induction es using zL with
  |nil=>cases hst
  |cons a es=>have hst':(notStar e&&chk Z {G with rs:=Θ,tr:=Θ} a e&&fy Z {G with rs:=Θ,tr:=Θ} es l)=Δ:=hst;simp only[e_]at hst';refine PySem.W.callWith_K (h₀:=X.base) I.ok.mod.kin hkp (wpAny_mono (pa pos pins s σ H _ (I.wish _) hra) (fun us s1 ⟨vs,H1,I1,r,q1⟩=>⟨I1.unwish.kIn,?_⟩) fun _ _ y=>y.elim) (eT hst'.1.1 l X.env) (fS Z _ (es:=es) pos X.env hst'.2);exact fin us s1 vs H1 I1.unwish r q1.1 q1.2
end
theorem ku:entryFor table "proto.unchain" = Γ Builtin.«proto.unchain»:=entryFor_of_tree (by kernel_rfl)
section
variable {prog:Β}{w:Α}{A:Η}{E:Φ->Ω->Prop}{s:Ω}{env:Env}
variable {nm q:Str}{C N:Ψ}{bs bm bmB:List Φ}{hdct:Bool}{sn:List Str}{sub:List Φ}{ab:Bool}{col:Option Bool}{dd:Option Ψ}{k0 k1 k2 k3 k5:Option Φ}{B newId initId:String}
def ou (h h':Heap)(e a:Ψ)(cls:Φ):Prop:=(∃oe vs,h'.get? e=Γ oe/\oe.cls=cls/\oe.data=.fields vs/\vs[1]? = Γ .none/\vs[2]? = Γ (.ref a))/\∀b,b≠e->h'.get? b=h.get? b
theorem lN {α:Type}{a e:Ψ}{oa oe:Obj}{va ve:Array Φ}{Q:α->Ω->Prop}(hh:A.handled=Γ (.ref a))(ha:s.heap.get? a=Γ oa)(da:oa.data=.fields va)(ca:va[2]? = Γ .none)(he:s.heap.get? e=Γ oe)(de:oe.data=.fields ve)(hz:2 < ve.size)(ne:a≠e)
  (h:E (.ref e) {s with heap:=s.heap.update e (Obj.mapFields (·.setIfInBounds 2 (.ref a)))}):Ι (Κ prog w) A (raiseNew (.ref e):Sem α) Q E s:=by
 unfold raiseNew;refine g_ (wpAny_handled ?_);rw[hh];dsimp only;rw[d_ (show(η a != η e)=Δ from by simpa using ne)];refine g_ (Ae (wpAny_runValue (codeAny_builtin ku ?_)));unfold Builtin.«proto.unchain»;refine g_ (wpAny_field ha da ca ?_);rw[d_ (by decide)];refine g_ (q_ (q_ ?_));show Ι _ _ (do setField (.ref e) 2 (.ref a);throw (η e)) _ _ _;exact g_ (wpAny_setField he de hz (wpAny_throw h))
theorem j5 {a:Ψ}{x c:Sem Φ}{Q:Flow->Ω->Prop}(hbase:bm.contains (.type "BaseException")=Δ) (hh:A.handled=Γ (.ref a)) (hc:∀ {Q':Φ->Ω->Prop}{s':Ω},Q' .none s'->Ι (Κ prog w) A c Q' E s')
  (h:Ι (Κ prog w) A x (fun v s₁=>∃e t,v=.ref e/\s₁.heap.get? C=Γ (excClassObj nm q C N bs bm hdct sn sub ab col dd k0 k1 k2 k3 k5 newId)/\s₁.heap.get? e=Γ {cls:=.ref C,data:=.fields #[.ref t,.none,.none,.none,.bool Θ,.none]}/\a≠e/\C≠e/\
   (∃oa va,s₁.heap.get? a=Γ oa/\oa.data=.fields va/\va[2]? = Γ .none)/\∀h',ou s₁.heap h' e a (.ref C)->E (.ref e) {s₁ with heap:=h'}) E s) :
  Ι (Κ prog w) A (raiseStmt env (Γ x) (Γ c)) Q E s:=by
 have hcB:(η C::bm).contains (.type "BaseException")=Δ:=by rw[List.contains_cons,hbase,Bool.or_true]
 unfold raiseStmt;refine g_ (wpAny_mono h (fun v s₁ h₁=>?_) fun _ _ x=>x);obtain⟨e,t,rfl,hC,he,hne,hCe,⟨oa,va,ha,da,ca⟩,hE⟩:=h₁;obtain⟨hp,g,d,tk,os⟩:=s₁;refine g_ (Ae (hc (g_ (q_ ?_))));dsimp only at hC he ha ⊢
 repeat (first|with_reducible refine wpAny_loadPart_at he ?_|with_reducible refine wpAny_loadPart_at hC ?_|(with_reducible refine wpAny_isSubtype_exc hC ?_;rw[hcB])|wp_step)
 have he3:=Ar (Obj.mapFields (·.setIfInBounds 3 Value.none)) he (Obj.isFreed_of_fields (Obj.data_mapFields rfl _));have he4:=Ar (Obj.mapFields (·.setIfInBounds 4 (Value.bool Δ))) he3 (Obj.isFreed_of_fields (Obj.data_mapFields rfl _));have he5:=Ar (Obj.mapFields (·.setIfInBounds 2 (η a))) he4 (Obj.isFreed_of_fields (Obj.data_mapFields rfl _));have oth:∀b,b≠e->((hp.update e (Obj.mapFields (·.setIfInBounds 3 Value.none))).update e (Obj.mapFields (·.setIfInBounds 4 (Value.bool Δ)))).get? b=hp.get? b:=fun b hb=>(An _ _ (Ne.symm hb)).trans (An _ _ (Ne.symm hb));refine lN hh ((oth a hne).trans ha) da ca he4 rfl (by simp) hne (hE _ ⟨⟨_,_,he5,rfl,rfl,rfl,rfl⟩,fun b hb=>(An _ _ (Ne.symm hb)).trans (oth b hb)⟩)
theorem nI (F:ExcBaseFacts B newId initId bmB){mN:Str->Option Φ}{a:Ψ}{x:Str}{np cpos pos p0:Pos}{j:Nat}{args:List Expr}{Q:Flow->Ω->Prop}
  (hbase:bm.contains (.type "BaseException")=Δ) (hh:A.handled=Γ (.ref a)) (hplain:(backTo cpos (Μ args env)).any (·.1)=Θ) (hni:mN "__init__" = Ξ)
  (h:Ι (Κ prog w) A (eval (.Name x np) env) (fun f s₁=>f=.ref C/\Ι (Κ prog w) A (evalArgs (.ref C) Δ (backTo cpos (Μ args env)) [])
   (fun r s₂=>r.kw=[]/\r.pos.length<=Ε/\s₂.heap.get? C=Γ (excClassObj nm q C N bs bm hdct sn sub ab col dd k0 k1 k2 k3 k5 newId)/\s₂.heap.Ns N mN/\OwnTail s₂.heap bmB bm/\
    (∃oa va,s₂.heap.get? a=Γ oa/\oa.data=.fields va/\va[2]? = Γ .none)/\
    ∀h1 h2 e,Heap.MadeExcOf s₂.heap h1 e (.ref C) r.pos->ou h1 h2 e a (.ref C)->E (.ref e) {s₂ with heap:=h2}) E s₁) E s) :
  Ι (Κ prog w) A (exec (.Raise (Γ (.Call (.Name x np) args [] cpos)) (Γ (.Constant .none j p0)) pos) env) Q E s:=by
 rw[arm_exec_Raise];simp only[evalOpt,Option.map];refine g_ (wpAny_standAt (j5 (C:=C) (nm:=nm) (q:=q) (N:=N) (bs:=bs) (bm:=bm) (hdct:=hdct) (sn:=sn) (sub:=sub) (ab:=ab) (col:=col) (dd:=dd) (k0:=k0) (k1:=k1) (k2:=k2) (k3:=k3) (k5:=k5) (newId:=newId) hbase hh (fun {Q' s'} hq=>?_) ?_))
 ·exact g_ (wpAny_Constant_none (g_ (wpAny_standAt (q_ hq))))
 refine g_ (wpAny_mono (wpAny_Call_ofName (wpAny_mono h (fun f s₁ h₁=>?_) fun _ _ x=>x)) (fun v s₃ h₃=>g_ (wpAny_standAt (q_ h₃))) fun _ _ x=>x);obtain⟨rfl,h₁⟩:=h₁;unfold callWith;refine g_ (Ae (wpAny_mono h₁ (fun r s₂ h₂=>g_ (wpAny_standAt ?_)) fun _ _ x=>x));obtain⟨apos,akw⟩:=r;obtain⟨hkw,hlen,hC,hn,T,⟨oa,va,ha,da,ca⟩,h₂⟩:=h₂;obtain rfl:akw=[]:=hkw;obtain⟨hp,g,d,tk,os⟩:=s₂;simp only[hplain];refine g_ (wpAny_keeperOf_exc hC ?_);refine g_ (wpAny_call_exc_subT (hrest:=hlen) F T hC hn hni fun h' e hm=>g_ (Ae (wpAny_point (q_ ?_))));obtain⟨t,ht,_,_⟩:=id hm.there;have fresh:∀ {b:Ψ}{o:Obj},hp.get? b=Γ o->b≠e:=fun {b o} hb z=>by have:=hm.new;rw[<- z]at this;exact absurd (hb.symm.trans this) (by simp)
 exact⟨e,t,rfl,hm.keeps _ _ hC,ht,fresh ha,fresh hC,⟨oa,va,hm.keeps _ _ ha,da,ca⟩,fun h2 hch=>h₂ h' h2 e hm hch⟩
end
section
variable {Z:Sg}{CX:CXT}{cl:Nat->List D->Res D}{xp:XK->Hp->Str->Prop}{X:Cx}{ex:Str->Prop}{G:Gm}{pins:List (Ψ×Obj)}
theorem qM (g:GOk Z CX cl xp X ex G)(tr:TrOk Z CX cl xp X){H1:Hp}{s1 s':Ω}{σ:St}{e:Φ}{B:Bs G.io}{F:Ψ->Prop}{τ:Ev}{f:List Ψ}(m:Frm X.K B F H1 σ τ f)(I2:Inv X pins σ H1 s1)
  {hd:List IS}{n k:Nat}{c x y:Str}{np hpos:Pos}{b0:Stmt}{suite:List Stmt}{Dn:Ends}{C C':Ψ} (hc:CX1 X.prog X.w X.stack H1 s1 (fun cls dx _=>cls=.ref C/\(c≠fG->dx=Ξ)) e s')
  (h2:fx Z G n x=Δ) (hn:PySem.W.nsIn X.K Ζ c=Γ (Γ (.ref C))) (hnm:nameIn X.K C=Γ c) (hm:X.mg x=Γ (.ref C')) (hex:PySem.W.exmOne X.K (.ref C) (.ref C')=Γ Δ) (h4:G.N[k]? = Γ y) (h5:G.kd[k]? = Γ .local) (hko:G.io≠Γ k)
  (hsuite:∀a:Ψ,PSs (gD X a) (b0::suite) (RS X.K G.io nox (fH cl hd)))
  (q:PO' ex (bnd (noX (fH cl hd (τ.set k (Γ (.exc c))))) fun|.nx τ'=>.ok (.nx (τ'.set k Ξ))|_=>stk) (Fk X.K B Dn)) :
  Ι (Κ X.prog X.w) X.A (noteFrame e X.env) (fun _ s2=>Ι (Κ X.prog X.w) X.A (setFlight e Ξ) (fun _ s3=>Ι (Κ X.prog X.w) X.A (handleBy e X.env [.ExceptHandler (Γ (.Name x np)) (Γ y) (b0::suite) hpos]) (SP X pins Dn) X.xe s3) X.xe s2) X.xe s':=by
 have hst:=tr.st;have hfr:=tr.fr;have lt:=tr.lt;obtain⟨a,cls,a0,H',Bh,he,os,bare,un,hB,sm,kB,fl,hcls,_⟩:=hc;subst he hcls;obtain⟨k1,k2,k3,k4⟩:=gr g h2;have hk:X.env.kindOf y=Γ .local:=(g.kd k y h4).trans h5;have hNd:X.N.Nodup:=by rw[g.N];exact g.nod
 have hi:X.N[k]? = Γ y:=by rw[g.N];exact h4
 have ok:=I2.ok;have fl0:Heap.FlyingD Bh (X.env::X.outer) a (.ref C) a0 s'.heap:=hst ▸ fl;refine nW (A:=X.A) (by rw[<- hst];exact ok.frames) hfr fl0 fun h4' held4 up4=>?_;refine gH (s:={s' with heap:=h4'}) held4 fun h5' fl5 up5=>?_;have I5:Inv X pins σ H' {s' with heap:=h5'}:=ip I2 os bare un hB sm kB (show Heap.FlyingD Bh X.stack a (.ref C) a0 h5' from hst ▸ fl5) (up4.trans up5);have J5:Inv (gD X a) pins σ H' {s' with heap:=h5'}:=iq I5;refine wpAny_handleBy_cons (codeAny_handlers_test (gn J5 k1 hm ?_ k4)) (by intro q;cases q);obtain⟨oe5,he5,hc5⟩:=fl5.there;refine(PySem.W.exm_one J5.kIn (IX.type ⟨oe5,he5,hc5⟩) hex).here ?_;refine codeAny_handlers_suite_as ?_;refine gH (s:={s' with heap:=h5'}) fl5 fun h6' fl6 up6=>?_;have I6:Inv X pins σ H' {s' with heap:=h6'}:=ip I2 os bare un hB sm kB (show Heap.FlyingD Bh X.stack a (.ref C) a0 h6' from hst ▸ fl6) ((up4.trans up5).trans up6);obtain⟨oe,vs,he6,hc6,hd6,_⟩:=fl6.first
 have na:H' a=Ξ:=by
  cases z:H' a with
  |none=>rfl
  |some u=>
   obtain⟨ob,ho⟩:=(hB a u z).at
   rw[fl6.2.1]at ho;cases ho
 have nst:∀b,b∉X.fs->b≠X.env.locals->b∉frs X.stack:=fun b h1 h2 z=>by
  rw[hst]at z;unfold frs at z;rcases List.mem_filterMap.mp z with⟨env,hm,hf⟩
  rcases p_.mp hm with rfl|hm
  ·rw[hfr]at hf;exact h2 (zZ hf).symm
  ·exact h1 (List.mem_filterMap.mpr ⟨env,hm,hf⟩)
 have nl:a≠X.env.locals:=by rintro rfl;obtain⟨m,⟨o,es,ep,ho,hd,_⟩,_⟩:=I6.loc;have ho:h6'.get? X.env.locals=Γ o:=ho;rw[he6]at ho;cases ho;rw[hd6]at hd;cases hd
 have I6t:Inv (gD X a) pins σ (upd H' a (.frz oe XU)) {s' with heap:=h6'}:=by
  refine(iq I6).track he6 na ⟨trivial,⟨_,he6⟩,fun _ _ _ _=>trivial⟩ (fun ob e z hx=>?_) ?_ nl (fun y c e z=>?_) fun p hp z=>?_
  ·by_cases hf:a∈X.fs
   ·obtain⟨sl,e1⟩:=I6.base.slot a ob e z hf hx;have e1:h6'.get? a=_:=e1;obtain⟨_,o',ho',nf⟩:=ok.funs.mem hf;rw[show X.s₀.heap.get? a=_ from e]at ho';cases ho';rw[he6]at e1;cases e1;exact nf _ hd6
   ·have e1:=I2.base.keep a ob e z hf hx;have e2:=I2.base.free a ob e z hx;have:=kB a ob e1 e2 (nst a hf nl);rw[fl6.2.1]at this;cases this
  ·show X.H₀ a=Ξ;cases z:X.H₀ a with
   |none=>rfl
   |some u=>
    exfalso;rcases lt a u z with⟨ob,v,rfl⟩|⟨xs,rfl⟩
    ·have:=I6.base.frzs a ob v z;rw[na]at this;cases this
    ·have:=I6.base.tups a xs z;rw[na]at this;cases this
  ·subst z;obtain⟨v,o,ho,hd⟩:=I6.cell y c e;have ho:h6'.get? c=Γ o:=ho;rw[he6]at ho;cases ho;rw[hd6]at hd;cases hd
  ·subst z;obtain⟨e1,e2,e3,e4,_⟩:=I2.pin p hp;have:=kB p.1 p.2 e1 e2 (nst _ e4 e3);rw[fl6.2.1]at this;cases this
 refine hG (X:=gD X a) (v:=.ref a) I6t hNd hi (.inl hk) rfl (fun s7 I7=>?_) (.inr hk);have sm0:eX H1 (upd H' a (.frz oe XU)):=by intro b o e;have hb:=sm b o e;rw[eY (fK hb na)];exact hb
 have xo:SqE X.K (upd H' a (.frz oe XU)) a (.inr c):=⟨C,oe,vs,hn,hnm,fg,hc6,hd6⟩
 have mg:=m.grow sm0;obtain⟨g',h',r0,p0⟩:=mg.rps.put k (MRep.exc (F:=F) xo);have p0:(g'++h').Perm f:=p0;have nd0:(g'++h').Nodup:=p0.nodup_iff.mpr mg.nod;have frm:Frm X.K B F (upd H' a (.frz oe XU)) (σ.set k (Γ (.ref a))) (τ.set k (Γ (.exc c))) g':=
  ⟨mg.fok,r0,(n_.mp nd0).1,mg.same,fun b hb=>mg.own b (p0.subset (r_ _ hb)),mg.inn,mg.out,mg.pin,mg.pit,fun j a e1 e2=>(Al (fun z=>hko (by rw[z];exact e1))).trans (mg.nm j a e1 e2)⟩
 have q2:PO' nox (fH cl hd (τ.set k (Γ (.exc c)))) (Fk X.K B {nx:=fun σ8 H8=>∃F8 τ8 f8,Frm X.K B F8 H8 σ8 τ8 f8/\Fk X.K B Dn (.nx (τ8.set k Ξ)),rt:=fun _ _=>False}):=by
  cases z:fH cl hd (τ.set k (Γ (.exc c))) with
  |error er=>rw[z]at q;exact q.no.elim
  |ok r=>
   rw[z]at q;cases r with
   |nx τ8=>exact fun σ8 H8 F8 f8 m8=>⟨F8,τ8,f8,m8,q.ok⟩
   |_=>exact q.no.elim
 refine wpAny_mono (hsuite a pins s7 _ _ _ I7 ⟨B,F,_,g',frm,q2⟩) (fun fw s8 hs=>?_) fun _ _ z=>z.elim;cases fw with
 |next=>obtain⟨σ8,H8,I8,F8,τ8,f8,m8,q8⟩:=hs;refine wa (mK ok I8) hNd hi hk fun s9 I9=>?_;obtain⟨g8,r9,n9,m9⟩:=Rps.drop (o:=Ξ) k m8.rps m8.nod;exact⟨_,_,I9,q8 _ _ F8 g8 ⟨m8.fok,r9,n9,m8.same,fun b hb=>m8.own b (m9 b hb),m8.inn,m8.out,m8.pin,m8.pit,fun j a e1 e2=>(Al (fun z=>hko (by rw[z];exact e1))).trans (m8.nm j a e1 e2)⟩⟩
 |brk=>obtain⟨_,_,_,z⟩:=hs;exact z.elim
 |cont=>obtain⟨_,_,_,z⟩:=hs;exact z.elim
 |ret u=>obtain⟨_,_,_,_,_,z⟩:=hs;exact z.elim
theorem Frm.put {io:Option Nat}{B:Bs io}{F:Ψ->Prop}{H:Hp}{σ:St}{τ:Ev}{f fv:List Ψ}{v:V}{d:D}(i:Nat)(m:Frm X.K B F H σ τ f)(mv:MRep X.K F H v d fv)(nd:(fv++f).Nodup)(hb:∀a∈fv,B.H a=Ξ)(hio:io≠Γ i):∃f',Frm X.K B F H (σ.set i (Γ v)) (τ.set i (Γ d)) f':=by obtain⟨g',h',r0,p0⟩:=m.rps.put i mv;have nd0:(g'++h').Nodup:=p0.nodup_iff.mpr nd;exact⟨g',m.fok,r0,(n_.mp nd0).1,m.same,fun b hb'=>(x_.mp (p0.subset (r_ _ hb'))).elim (hb b) (m.own b),m.inn,m.out,m.pin,m.pit,fun j a e1 e2=>(Al (fun z=>hio (by rw[z];exact e1))).trans (m.nm j a e1 e2)⟩
theorem st_tryc (g:GOk Z CX cl xp X ex G){i f n k:Nat}{es:List IR}{cs:List Str}{hd:List IS}{st:Stmt}
  (h:tcv st (fun xi xf args xc y b0 r=>G.tr&&G.cm&&vY G i xi&&fx Z G f xf&&Z.fnc G f&&fy Z {G with rs:=Θ,tr:=Θ} es args&&fx Z G n xc&&cs.all (fun c=>Z.xm.contains (c,n,Δ))&&(G.N[k]? == Γ y&&G.io != Γ k)&&G.kd[k]? == Γ .local&&gu Z {G with cm:=Θ,rs:=Θ,tr:=Θ} hd (b0::r))=Δ)
  (hsuite:TrOk Z CX cl xp X->∀(a:Ψ) (ss:List Stmt),gu Z {G with cm:=Θ,rs:=Θ,tr:=Θ} hd ss=Δ->PSs (gD X a) ss (RS X.K G.io nox (fH cl hd))):PS X st (RS X.K G.io ex (evS cl (.tryc i f es n cs k hd))):=by
 obtain⟨xi,pi,xf,pf,args,pc,pa,xc,np,y,b0,r,hp,pos,rfl,h0⟩:=v5 h;simp only[e_]at h0;obtain⟨⟨⟨⟨⟨⟨⟨⟨⟨⟨ht,hcm⟩,hi⟩,hf⟩,hfn⟩,hst⟩,hn⟩,hcs⟩,hk1,hko⟩,hk2⟩,hsu⟩:=h0;have tr:=g.tr ht;have hk1:=f_ hk1;have hk2:=f_ hk2;rw[zY]at hcs;obtain⟨q1,q2,q3,q4⟩:=gr g hn;have hi':(G.N[i]? == Γ xi&&(G.kd[i]? == Γ .local||(G.df&&G.kd[i]? == Γ .cell)))=Δ:=(Ax.mp hi).1;have hio:G.io≠Γ i:=by simpa using(Ax.mp hi).2
 have hko:G.io≠Γ k:=by simpa using hko
 rw[e_,zX,e_]at hi';have hx:G.N[i]? = Γ xi:=f_ hi'.1;have hkd:=g.kd i xi hx;have hloc:Loc X.env.scope xi:=hi'.2.elim (fun z=>.inl (hkd.trans (f_ z))) fun z=>.inr (hkd.trans (f_ z.2));have hfn':X.fn xi=Δ∨X.env.scope.names.lookup xi=Γ .local:=hi'.2.elim (fun z=>.inr (hkd.trans (f_ z))) fun z=>.inl (g.df z.1 xi);intro pins s σ H Dn I ⟨B,F,τ,fo,m,q⟩
 have q:PO' ex (bnd (noX (fq cl es τ)) fun ds=>match cl f (ers ds) with
  |.ok d=>if e7 d=Δ then .ok (.nx (τ.set i (Γ d))) else .ok (.nx ((frz (eW es) τ).set i (Γ d)))
  |.error (.exc c)=>grd (cs.contains c) (bnd (noX (fH cl hd (τ.set k (Γ (.exc c))))) fun
   |.nx τ'=>.ok (.nx (τ'.set k Ξ))
   |_=>stk)
  |.error .stuck=>stk) (Fk X.K B Dn):=q
 cases zd:fq cl es τ with
 |error er=>rw[zd]at q;exact q.no.elim
 |ok ds=>
  rw[zd]at q
  have q:PO' ex (match cl f (ers ds) with
   |.ok d=>if e7 d=Δ then .ok (.nx (τ.set i (Γ d))) else .ok (.nx ((frz (eW es) τ).set i (Γ d)))
   |.error (.exc c)=>grd (cs.contains c) (bnd (noX (fH cl hd (τ.set k (Γ (.exc c))))) fun
    |.nx τ'=>.ok (.nx (τ'.set k Ξ))
    |_=>stk)
   |.error .stuck=>stk) (Fk X.K B Dn):=q
  refine wpAny_Try_except (wpAny_execs_cons (wpAny_Assign_Name ?_ rfl));have done:∀ {v:Φ}{s1:Ω},EP X pins σ (fun v H'=>Dn.nx (σ.set i (Γ v)) H') v s1->Ι (Κ X.prog X.w) X.A (storeName X.env xi v) (fun _ s2=>Ι (Κ X.prog X.w) X.A (execs [] X.env) (fun fl s₁=>match fl with|.next=>Ι (Κ X.prog X.w) X.A (execs [] X.env) (SP X pins Dn) X.xe s₁|fl=>SP X pins Dn fl s₁) (fun e s₁=>Ι (Κ X.prog X.w) X.A (noteFrame e X.env) (fun _ s₂=>Ι (Κ X.prog X.w) X.A (setFlight e Ξ) (fun _ s₃=>Ι (Κ X.prog X.w) X.A (handleBy e X.env [.ExceptHandler (Γ (.Name xc np)) (Γ y) (b0::r) hp]) (SP X pins Dn) X.xe s₃) X.xe s₂) X.xe s₁) s2) (fun e s₁=>Ι (Κ X.prog X.w) X.A (noteFrame e X.env) (fun _ s₂=>Ι (Κ X.prog X.w) X.A (setFlight e Ξ) (fun _ s₃=>Ι (Κ X.prog X.w) X.A (handleBy e X.env [.ExceptHandler (Γ (.Name xc np)) (Γ y) (b0::r) hp]) (SP X pins Dn) X.xe s₃) X.xe s₂) X.xe s₁) s1:=by intro v s1 ⟨x,H1,I1,r1,qq⟩;exact hG I1 (by rw[g.N];exact g.nod) (by rw[g.N];exact hx) hloc r1 (fun s2 I2=>wpAny_execs_nil (wpAny_execs_nil ⟨_,_,I2,qq⟩)) hfn'
  have wide:∀(vs:List V) (H1:Hp),HReps X.K (nw (fun _=>True) H) H1 vs ds->HReps X.K (fun a=>H1 a≠Ξ) H1 vs ds:=fun vs H1 m0=>m0.step (fun a xs h rd=>⟨rd.some,rd⟩) fun a xs h=>h;cases zc:cl f (ers ds) with
  |error er=>
   rw[zc]at q;cases er with
   |stuck=>exact q.no.elim
   |exc c=>
    obtain⟨hcc,q⟩:=PO'.grd q;have hc:(c,n,Δ)∈Z.xm:=by simpa using hcs c (by simpa using hcc)
    obtain⟨C,C',hC,_,hnm,hm,hex⟩:=g.xmt c n Δ xc hc q2;refine wpAny_mono (iZ (p:=pf) (pos:=pc) (Q:=fun _ _=>False) g tr hf hfn hst I (ft m.rps) zd (fun vs H1 e1 m0=>⟨fun a=>H1 a≠Ξ,fun a h=>h,wide vs H1 m0,fun d hd=>by rw[zc]at hd;cases hd⟩) (by rw[zc];intro z;cases z) (fun c' hc'=>?_)) (fun v s1 ⟨_,_,_,_,z⟩=>z.elim) fun _ _ z=>z;rw[zc]at hc';cases hc';exact⟨C,hC,fun H1 s1 e s' e1 I1 hx=>qM g tr (m.grow e1) I1 hx hn hC hnm hm hex hk1 hk2 hko (fun a=>hsuite tr a _ hsu) q⟩
  |ok d=>
   rw[zc]at q;have q:PO' ex (if e7 d=Δ then .ok (.nx (τ.set i (Γ d))) else .ok (.nx ((frz (eW es) τ).set i (Γ d)))) (Fk X.K B Dn):=q;have noexc:∀c,cl f (ers ds)=.error (.exc c)->∀ {P:Prop},P:=fun c z=>by rw[zc]at z;cases z
   by_cases hl:e7 d=Δ
   ·rw[d_ hl]at q;have q:Fk X.K B Dn (.nx (τ.set i (Γ d))):=q.ok;refine wpAny_mono (iZ (p:=pf) (pos:=pc) g tr hf hfn hst I (ft m.rps) zd (fun vs H1 e1 m0=>⟨fun a=>H1 a≠Ξ,fun a h=>h,wide vs H1 m0,fun d' hd v H' F' fv o=>?_⟩) (by rw[zc];intro z;cases z) (fun c' hc'=>noexc c' hc')) (fun v s1 z=>done z) fun _ _ z=>z;rw[zc]at hd;cases hd;obtain⟨f',m'⟩:=(m.grow (e1.trans o.same)).put i (o.rep.lfree_nil hl) (by simpa using m.nod) (fun a ha=>absurd ha (by simp)) hio;exact q _ _ _ _ m'
   ·rw[c_ hl]at q;have q:Fk X.K B Dn (.nx ((frz (eW es) τ).set i (Γ d))):=q.ok;obtain⟨F1,gg,b1,b2,b3,b4,b5,b6⟩:=il (eW es) m.fok m.rps m.nod;refine wpAny_mono (iZ (p:=pf) (pos:=pc) g tr hf hfn hst I b6 zd (fun vs H1 e1 m0=>?_) (by rw[zc];intro z;cases z) (fun c' hc'=>noexc c' hc')) (fun v s1 z=>done z) fun _ _ z=>z;have hmm:HReps X.K (fun a=>F1 a∨(True/\H a=Ξ/\H1 a≠Ξ)) H1 vs ds:=m0.step (fun a xs h r=>⟨h.elim (fun z=>.inl z) fun z=>.inr ⟨trivial,z,r.some⟩,r⟩) fun a xs h=>h;obtain⟨c1,c2,c3⟩:=grow (fun _=>True) b1 b2 e1;refine⟨_,c1,hmm,fun d' hd v H' F' fv o=>?_⟩;rw[zc]at hd;cases hd;have s1:Stp (fun a=>F1 a∨(True/\H a=Ξ/\H1 a≠Ξ)) H1 gg F' H':=⟨o.same,o.inn,fun a h=>(o.out a h).elim (fun z=>.inl z) fun z=>.inr (.inr z)⟩
    have r2:Rps X.K F' H' σ (frz (eW es) τ) gg:=c2.step (fun a xs q rd=>⟨o.inn a q,o.same.rd rd⟩) (fun a xs q=>o.same.seqT q) fun a ha n hn=>by
     obtain⟨_,xs,e⟩:=c2.own a ha;refine⟨fun z=>?_,(o.same _ _ e).trans e.symm⟩;rcases o.out a z with z|z
     ·exact n z
     ·exact hn z
    have ow:Ow X.K F H fo F' H' σ v d fv (frz (eW es) τ) gg:=by
     refine⟨(b4.trans c3 (fun x hx=>.inl (b5 x hx))).trans s1 (fun x hx=>.inl (b5 x hx)),o.fok,o.rep,r2,?_,fun a ha=>?_⟩
     ·refine n_.mpr ⟨o.nod,b3,fun a h1 b h2 e=>?_⟩;subst e;obtain⟨_,xs,e⟩:=c2.own a h2;rw[o.new a h1]at e;cases e
     ·rcases x_.mp ha with ha|ha
      ·exact .inr (e1.free (o.new a ha))
      ·exact .inl (b5 a ha)
    obtain⟨mo,hb⟩:=m.ow ow;obtain⟨f',m'⟩:=mo.put i ow.rep ow.nod hb hio;exact q _ _ _ _ m'
end
theorem kP {h h':Heap}(k:∀b o,h.get? b=Γ o->h'.get? b=Γ o):h.UpG h':=⟨.of_keeps k,fun b o e=>⟨o,k b o e⟩⟩
theorem kQ {B h h':Heap}{l:List Env}{a:Ψ}{cls:Φ}{dx:Option Ψ}(f:Heap.FlyingD B l a cls dx h)(k:∀b o,h.get? b=Γ o->h'.get? b=Γ o):Heap.FlyingD B l a cls dx h':=by obtain⟨f1,f2,f3,fl,oe,vs,T,oT,ts,he,hc,hd,h1,hn,hT,ht,hdt,h3⟩:=f;exact⟨fun b o e=>k _ _ (f1 b o e),f2,f3.of_keeps fun b o e _=>⟨o,k _ _ e,rfl⟩,fl,oe,vs,T,oT,ts,k _ _ he,hc,hd,h1,hn,hT,k _ _ ht,hdt,h3⟩
theorem yd {M:Model}{A:Η}{E:Φ->Ω->Prop}{s:Ω}{base:Heap}{l:List Env}{e:Ψ}{cls:Φ}{a0:Option Ψ}{env:Env}(hfl:Heap.FlyingD base l e cls a0 s.heap)
  (h:∀h',Heap.FlyingD base l e cls a0 h'->s.heap.UpG h'->E (.ref e) {s with heap:=h'}):cameBackBy M A env E (.ref e) s:=by
 obtain⟨_,_,_,fl,oe,vs,T,oT,ts,he,hcls,hd,h1,_⟩:=id hfl;unfold cameBackBy;refine g_ (wpAny_field he hd h1 ?_);rw[c_ (by simp)];exact gH hfl h
section
variable {Z:Sg}{CX:CXT}{cl:Nat->List D->Res D}{xp:XK->Hp->Str->Prop}{X:Cx}{ex:Str->Prop}{G:Gm}{pins:List (Ψ×Obj)}
theorem nJ (g:GOk Z CX cl xp X ex G)(tr:TrOk Z CX cl xp X){H1:Hp}{s1 s':Ω}{σ:St}{e:Φ}(I2:Inv X pins σ H1 s1){n1 n2 n:Nat}{c' x1 x2 w:Str}{p1 p2 tp np p3 cpos p0 rpos hpos:Pos}{ct j j0:Nat}{Dn:Ends}{C C1 C2:Ψ}
  (hc:CX1 X.prog X.w X.stack H1 s1 (fun cls dx _=>cls=.ref C/\(c'≠fG->dx=Ξ)) e s') (hcd:c'≠fG)
  (h1:fx Z G n1 x1=Δ) (h2:fx Z G n2 x2=Δ) (hm1:X.mg x1=Γ (.ref C1)) (hm2:X.mg x2=Γ (.ref C2)) (hex:PySem.W.exmAny X.K (.ref C) [.ref C1,.ref C2]=Γ Δ)
  (h3:fx Z G n fG=Δ) (hrc:(n,fG)∈Z.rc) (hx:ex fG) :
  Ι (Κ X.prog X.w) X.A (noteFrame e X.env) (fun _ s2=>Ι (Κ X.prog X.w) X.A (setFlight e Ξ) (fun _ s3=>Ι (Κ X.prog X.w) X.A (handleBy e X.env [.ExceptHandler (Γ (.Tuple [.Name x1 p1,.Name x2 p2] ct tp)) Ξ [.Raise (Γ (.Call (.Name fG np) [.Constant (.str w) j p3] [] cpos)) (Γ (.Constant .none j0 p0)) rpos] hpos]) (SP X pins Dn) X.xe s3) X.xe s2) X.xe s':=by
 have hst:=tr.st;have hfr:=tr.fr;obtain⟨E,hpx,hE⟩:=g.exs;obtain⟨a,cls,dx,H',Bh,he,os,bare,un,hB,sm,kB,fl,hcls,hdx⟩:=hc;subst he hcls;obtain rfl:=hdx hcd;obtain⟨k1,k2,k3,k4⟩:=gr g h1;obtain⟨l1,l2,l3,l4⟩:=gr g h2;obtain⟨m1,m2,m3,m4⟩:=gr g h3;have ok:=I2.ok;have frm:X.A.frames=Γ (X.env::X.outer):=by rw[<- hst];exact ok.frames
 refine nW (A:=X.A) frm hfr (hst ▸ fl) fun h4 fl4 up4=>?_;refine gH (s:={s' with heap:=h4}) fl4 fun h5 fl5 up5=>?_;have fl5:Heap.FlyingD Bh X.stack a (.ref C) Ξ h5:=hst ▸ fl5;have up5:s'.heap.UpG h5:=up4.trans up5;have I5:Inv X pins σ H' {s' with heap:=h5}:=ip I2 os bare un hB sm kB fl5 up5;have J5:Inv (gD X a) pins σ H' {s' with heap:=h5}:=iq I5;refine wpAny_handleBy_cons (codeAny_handlers_test (wpAny_Tuple_spliced (Calls.spliced_cons (gn J5 k1 hm1 (Calls.spliced_cons (gn J5 l1 hm2 (Calls.spliced_nil ⟨by show 2<=Ε;decide,?_⟩) l4)) k4)))) (by intro q;cases q);have kp6:∀b o,h5.get? b=Γ o->(h5.push {cls:=.type "tuple",data:=.seq [η C1,η C2].toArray}).get? b=Γ o:=fun b o z=>v_ _ z;have fl6:=kQ fl5 kp6;have up6:=up5.trans (kP kp6);obtain⟨oe6,he6,hc6⟩:=fl6.there;have I6:Inv X pins σ H' {s' with heap:=h5.push {cls:=.type "tuple",data:=.seq [η C1,η C2].toArray}}:=ip I2 os bare un hB sm kB fl6 up6;refine(PySem.W.exm_tup2 I6.kIn (IX.type ⟨oe6,he6,hc6⟩) (Aa _ rfl) hex).here ?_;refine codeAny_handlers_suite (gH (s:={s' with heap:=h5.push {cls:=.type "tuple",data:=.seq [η C1,η C2].toArray}}) fl6 fun h7 fl7 up7=>?_);have up7:=up6.trans up7;have I7:Inv X pins σ H' {s' with heap:=h7}:=ip I2 os bare un hB sm kB fl7 up7;have J7:Inv (gD X a) pins σ H' {s' with heap:=h7}:=iq I7;obtain⟨_,C0,hm,hn,hq⟩:=g.xrs n fG hrc;obtain⟨bm,N,nm,qn,bs,hdct,sn,sub,ab,col,dd,k0,k1',k2',k3',k5,mN,e1,e2,e3,e4⟩:=lM I7.ok.mod.kin hq
 refine wpAny_execs_cons (nI (C:=C0) (nm:=nm) (q:=qn) (N:=N) (bs:=bs) (bm:=bm) (hdct:=hdct) (sn:=sn) (sub:=sub) (ab:=ab) (col:=col) (dd:=dd) (k0:=k0) (k1:=k1') (k2:=k2') (k3:=k3') (k5:=k5) (a:=a)
  PySem.F.excBase_ValueError (mN:=mN) (e4.hasType PySem.F.excBase_ValueError.hasBase) rfl rfl e3 (gn J7 m1 hm ⟨rfl,?_⟩ m4))
 refine Calls.evalArgs_plain (Calls.spliced_cons (Calls.Constant_str (pos:=p3) (k:=j) (Calls.spliced_nil ⟨rfl,by show 1<=Ε;decide,I7.bk _ _ e1,e2.keeps I7.bk,e4.keeps I7.bk,?_,fun g1 g2 e' hm' hch=>?_⟩)))
 ·obtain⟨oa,va,ha,_,da,ca⟩:=fl7.first
  exact⟨oa,va,ha,da,ca⟩
 obtain⟨⟨oe,vs,he,hcl,hd,hv1,hv2⟩,oth⟩:=hch;have kp7:∀b o,h7.get? b=Γ o->g2.get? b=Γ o:=fun b o z=>by
  have hne:b≠e':=fun q=>by have:=hm'.new;rw[<- q]at this;have z:h7.get? b=Γ o:=z;exact absurd (z.symm.trans this) (by simp)
  exact(oth b hne).trans (hm'.keeps b o z)
 have hen:Bh.get? e'=Ξ:=by
  cases q:Bh.get? e' with
  |none=>rfl
  |some o=>exact absurd ((fl7.1 e' o q).symm.trans hm'.new) (by simp)
 obtain⟨f1,f2,f3,_⟩:=kQ fl7 kp7;refine qc (s:={s' with heap:=g2,toks:=_}) (cls:=.ref C0) (a0:=Γ a) (env:=X.env) (outer:=X.outer) frm (hst ▸ f3) hfr he hcl f1 hen hd hv1 hv2 fun h8 fl8 up8=>?_;refine yd (s:={s' with heap:=h8,toks:=_}) fl8 fun h9 fl9 up9=>?_;have fl9:Heap.FlyingD Bh X.stack e' (.ref C0) (Γ a) h9:=hst ▸ fl9;have up9:s'.heap.UpG h9:=((up7.trans (kP kp7)).trans up8).trans up9;have I9:Inv X pins σ H' {s' with heap:=h9}:=ip I2 os bare un hB sm kB fl9 up9;exact hpx pins σ H' _ Bh e' (.ref C0) (Γ a) (I9.tok _) hB (fun b o e n f x=>kB b o (I2.base.keep b o e n f x) (I2.base.free b o e n x) (I2.nst e f)) fl9 (tr.xpe E H' fG C0 (Γ a) (hE fG H' hx) hn fun z=>absurd rfl z)
theorem tw (g:GOk Z CX cl xp X ex G){n1 n2:Nat}{c x1 x2:Str}(h:tpx Z n1 n2 c=Δ)(k1:Z.name n1=Γ x1)(k2:Z.name n2=Γ x2):c≠fG/\∃C C1 C2,PySem.W.nsIn X.K Ζ c=Γ (Γ (.ref C))/\X.mg x1=Γ (.ref C1)/\X.mg x2=Γ (.ref C2)/\PySem.W.exmAny X.K (.ref C) [.ref C1,.ref C2]=Γ Δ:=by
 unfold tpx at h;rw[e_,zX,e_,e_]at h;refine⟨by simpa using h.1,?_⟩;have key:∀b1 b2,(c,n1,b1)∈Z.xm->(c,n2,b2)∈Z.xm->(b1||b2)=Δ->∃C C1 C2,PySem.W.nsIn X.K Ζ c=Γ (Γ (.ref C))/\X.mg x1=Γ (.ref C1)/\X.mg x2=Γ (.ref C2)/\PySem.W.exmAny X.K (.ref C) [.ref C1,.ref C2]=Γ Δ:=fun b1 b2 e1 e2 e=>by
  obtain⟨C,C1,a1,_,_,a2,a3⟩:=g.xmt c n1 b1 x1 e1 k1;obtain⟨C',C2,a1',_,_,a2',a3'⟩:=g.xmt c n2 b2 x2 e2 k2;rw[a1]at a1';cases a1';refine⟨C,C1,C2,a1,a2,a2',?_⟩;show(match PySem.W.exmOne X.K (.ref C) (.ref C1),PySem.W.exmAny X.K (.ref C) [.ref C2] with|some b,Γ d=>Γ (b||d)|_,_=>Ξ)=_;have z:PySem.W.exmAny X.K (.ref C) [.ref C2]=Γ b2:=by show(match PySem.W.exmOne X.K (.ref C) (.ref C2),(Γ Θ:Option Bool) with|some b,Γ d=>Γ (b||d)|_,_=>Ξ)=_;rw[a3'];show Γ (b2||false)=_;rw[Bool.or_false]
  rw[a3,z];show Γ (b1||b2)=_;rw[e]
 rcases h.2 with⟨e1,e2⟩|⟨e1,e2⟩
 ·exact key Δ Θ (by simpa using e1) (by simpa using e2) rfl
 ·exact key Θ Δ (by simpa using e1) (by simpa using e2) rfl
theorem st_tryr (g:GOk Z CX cl xp X ex G){f n1 n2 n:Nat}{es:List IR}{cs:List Str}{st:Stmt}
  (h:(trv st fun xf args x1 x2 xc=>G.tr&&G.cm&&fx Z G f xf&&Z.fnc G f&&fy Z {G with rs:=Θ,tr:=Θ} es args&&fx Z G n1 x1&&fx Z G n2 x2&&cs.all (tpx Z n1 n2)&&xc == fG&&fx Z G n xc&&Z.rc.contains (n,xc))=Δ):PS X st (RS X.K G.io ex (evS cl (.tryr f es n1 n2 cs n))):=by
 obtain⟨xf,pf,args,pc,pe,x1,p1,x2,p2,ct,tp,xc,np,w,j,p3,cpos,j0,p0,rpos,hp,pos,rfl,h0⟩:=v7 h;simp only[e_]at h0;obtain⟨⟨⟨⟨⟨⟨⟨⟨⟨⟨ht,hcm⟩,hf⟩,hfn⟩,hst⟩,hn1⟩,hn2⟩,hcs⟩,hxc⟩,hn⟩,hrc⟩:=h0;have hxc:=f_ hxc;subst hxc;have tr:=g.tr ht;rw[zY]at hcs;obtain⟨_,q2,_,_⟩:=gr g hn1;obtain⟨_,r2,_,_⟩:=gr g hn2;intro pins s σ H Dn I ⟨B,F,τ,fo,m,q⟩
 have q:PO' ex (bnd (noX (fq cl es τ)) fun ds=>match cl f (ers ds) with
  |.ok d=>grd (e7 d) (.ok (.nx τ))
  |.error (.exc c)=>grd (cs.contains c) (.error (.exc fG))
  |.error .stuck=>stk) (Fk X.K B Dn):=q
 cases zd:fq cl es τ with
 |error er=>rw[zd]at q;exact q.no.elim
 |ok ds=>
  rw[zd]at q
  have q:PO' ex (match cl f (ers ds) with
   |.ok d=>grd (e7 d) (.ok (.nx τ))
   |.error (.exc c)=>grd (cs.contains c) (.error (.exc fG))
   |.error .stuck=>stk) (Fk X.K B Dn):=q
  have wide:∀(vs:List V) (H1:Hp),HReps X.K (nw (fun _=>True) H) H1 vs ds->HReps X.K (fun a=>H1 a≠Ξ) H1 vs ds:=fun vs H1 m0=>m0.step (fun a xs h rd=>⟨rd.some,rd⟩) fun a xs h=>h;refine wpAny_Try_except (wpAny_execs_cons (wpAny_Expr_any ?_ I.quiet));cases zc:cl f (ers ds) with
  |error er=>
   rw[zc]at q;cases er with
   |stuck=>exact q.no.elim
   |exc c=>obtain⟨hcc,q⟩:=PO'.grd q;have q:ex fG:=q;obtain⟨hcd,C,C1,C2,hC,hm1,hm2,hex⟩:=tw g (hcs c (by simpa using hcc)) q2 r2;refine wpAny_mono (iZ (p:=pf) (pos:=pc) (Q:=fun _ _=>False) g tr hf hfn hst I (ft m.rps) zd (fun vs H1 e1 m0=>⟨fun a=>H1 a≠Ξ,fun a h=>h,wide vs H1 m0,fun d hd=>by rw[zc]at hd;cases hd⟩) (by rw[zc];intro z;cases z) (fun c' hc'=>?_)) (fun v s1 ⟨_,_,_,_,z⟩=>z.elim) fun _ _ z=>z;rw[zc]at hc';cases hc';exact⟨C,hC,fun H1 s1 e s' e1 I1 hx=>nJ g tr I1 hx hcd hn1 hn2 hm1 hm2 hex hn (by simpa using hrc) q⟩
  |ok d=>rw[zc]at q;obtain⟨hl,q⟩:=PO'.grd q;have q:Fk X.K B Dn (.nx τ):=q.ok;refine wpAny_mono (iZ (p:=pf) (pos:=pc) (Q:=fun _ H'=>Dn.nx σ H') g tr hf hfn hst I (ft m.rps) zd (fun vs H1 e1 m0=>⟨fun a=>H1 a≠Ξ,fun a h=>h,wide vs H1 m0,fun d' hd v H' F' fv o=>?_⟩) (by rw[zc];intro z;cases z) (fun c' hc'=>by rw[zc]at hc';cases hc')) (fun v s1 ⟨x,H1,I1,r1,qq⟩=>wpAny_execs_nil (wpAny_execs_nil ⟨_,_,I1,qq⟩)) fun _ _ z=>z;rw[zc]at hd;cases hd;exact q _ _ _ _ (m.grow (e1.trans o.same))
end
theorem yf {a b:Ψ}{H:Hp}(h:b≠a):rm a H b=H b:=c_ h
theorem ov {a:Ψ}{H:Hp}:rm a H a=Ξ:=d_ rfl
theorem tD {a b:Ψ}{H:Hp}{u:HO}(h:rm a H b=Γ u):H b=Γ u/\b≠a:=by
 by_cases e:b=a
 ·rw[e,ov]at h;cases h
 ·rw[yf e]at h;exact⟨h,e⟩
theorem yg {a:Ψ}{H:Hp}:eX (rm a H) H:=fun b u h=>(tD h).1
section
variable {Z:Sg}{CX:CXT}{cl:Nat->List D->Res D}{xp:XK->Hp->Str->Prop}{X:Cx}{ex:Str->Prop}{G:Gm}
theorem st_app (g:GOk Z CX cl xp X ex G){i:Nat}{e:IR}{x:Str}{p apos cpos pos:Pos}{v:Expr}(h1:mD G i x=Δ)(h2:(apos.endLine == cpos.line)=Δ)(h3:notStar v=Δ)(h4:chk Z G e v=Δ) :
  PS X (.Expr (.Call (.Attribute (.Name x p) "append" apos) [v] [] cpos) pos) (RS X.K G.io ex (evS cl (.app i e))):=by
 have pa:PA X [v] (jE (RO X.K ex (evO cl Θ e)) pZ):=fM (snO e Θ X ex G v g h4) gK (eT h3 _ _);have hfew:((backTo cpos (Μ [v] X.env)).all (fun x=>!x.1)&&(backToKw cpos (keywordEach [] X.env)).all (fun x=>x.1.isSome)&&decide ([v].length+([]:List Keyword).length+(if([]:List Keyword).isEmpty then 0 else 1) < 30))=Δ:=by rw[eT h3];rfl
 refine hJ (sd (nU PySem.F.plainAttrs_list PySem.F.slot_list_append PySem.F.type_list_append kI (ux g h1) pa rfl hfew h2 (eT h3 _ _) rfl)) fun Dn σ H h=>?_;obtain⟨B,F,τ,f,m,q⟩:=h;have q0:PO' ex (match eZ τ i with|some (.lst _ _)=>(bnd (evO cl Θ e τ) fun p=>(match eZ p.2 i with|some (.lst Δ ds)=>grd (jK ds.length) (.ok (.nx (p.2.set i (Γ (.lst Δ (ds++[p.1]))))))|_=>stk))|_=>stk) (Fk X.K B Dn):=q;cases z0:eZ τ i with
 |none=>rw[z0]at q0;exact q0.no.elim
 |some d0=>
  rw[z0]at q0
  induction d0 using zD with
  |lst o0 ds0=>
   obtain⟨v0,fv0,g0,a1,a2,a3,a4⟩:=m.rps.at z0;have hq:∃l xs,v0=.ref l/\SqL X.K H l xs:=by
    cases a2 with
    |lstS _ b1 _=>exact⟨_,_,rfl,.inl b1⟩
    |lstK b1 _=>exact⟨_,_,rfl,b1.sq⟩
    |lstO _ b1 _=>exact⟨_,_,rfl,.inl (.inl b1)⟩
   obtain⟨l,xs0,rfl,hq⟩:=hq;refine⟨.ref l,a1,.inl ⟨rfl,xs0,hq⟩,m.ro (PO'.bnd q0) fun p v H' F' fv f' o hp=>?_⟩;obtain⟨m',hb⟩:=m.ow o;cases zs:eZ p.2 i with
   |none=>rw[zs]at hp;exact hp.no.elim
   |some d=>
    rw[zs]at hp
    induction d using zD with
    |lst ow ds=>
     induction ow using zB with
     |false=>exact hp.no.elim
     |true=>obtain⟨gd,hp⟩:=PO'.grd hp;obtain⟨l',xs,hσ,hl,hlen⟩:=v8 m'.rps zs;rw[a1]at hσ;cases hσ;obtain⟨f'',m3⟩:=m'.write (ys:=xs++[v]) (ds':=ds++[p.1]) zs a1 hl o.rep o.nod hb fun fi hm=>hm.snoc o.rep;exact⟨l,xs,v,rfl,rfl,hl,by rw[hlen];exact nY gd,hp.ok _ _ _ _ m3⟩
    |_=>exact hp.no.elim
  |_=>exact q0.no.elim
theorem Fk.rt_of {K:Frag}{io:Option Nat}{B:Bs io}{F F':Ψ->Prop}{H H':Hp}{σ:St}{τ τ':Ev}{f f':List Ψ}{v:V}{d:D}{fv:List Ψ}(m:Frm K B F H σ τ f)(o:Ow K F H f F' H' σ v d fv τ' f'):Out K B.F B.H F' H' v d fv:=by obtain⟨m',hb⟩:=m.ow o;exact⟨m'.fok,m'.same,o.rep,(n_.mp o.nod).1,hb,m'.inn,m'.out⟩
theorem st_ret (g:GOk Z CX cl xp X ex G){e:IR}{v:Expr}{pos:Pos}(h:chk Z G e v=Δ):PS X (.Return (Γ v) pos) (RS X.K G.io ex (evS cl (.ret e))):=by refine hJ (vd (snO e Δ X ex G v g h)) fun Dn σ H ⟨B,F,τ,f,m,q⟩=>?_;exact m.ro (PO'.bnd q) fun p v H' F' fv f' o hp=>hp.ok _ _ _ _ (Fk.rt_of m o)
theorem st_if {c:Expr}{x y:List Stmt}{pos:Pos}{t:IR}{a b:List IS}(hc:PT X c (RT X.K ex (vars t) fun τ=>bnd (evR cl t τ) fB))(ha:PSs X x (RS X.K G.io ex (fH cl a)))(hb:PSs X y (RS X.K G.io ex (fH cl b))):PS X (.If c x y pos) (RS X.K G.io ex (evS cl (.if_ t a b))):=by
 refine hJ (xl hc ha hb) fun Dn σ H ⟨B,F,τ,f,m,q⟩=>?_;refine m.rt (PO'.bnd q) fun r H' m' _ hr=>?_
 induction r using zB with
 |true=>rw[d_ rfl]at hr ⊢;exact⟨B,F,τ,f,m',hr⟩
 |false=>rw[c_ i_]at hr ⊢;exact⟨B,F,τ,f,m',hr⟩
theorem Frm.less {K:Frag}{io:Option Nat}{B:Bs io}{L:Ψ->LD->Prop}{T:Ψ->List V ⊕ Str->Prop}{F:Ψ->Prop}{H:Hp}{σ:St}{τ:Ev}{f:List Ψ}(m:Frm K (⟨B.F,B.H,fun a xs=>B.L a xs∨L a xs,fun a xs=>B.T a xs∨T a xs,B.N⟩:Bs io) F H σ τ f):Frm K B F H σ τ f:=
 ⟨m.fok,m.rps,m.nod,m.same,m.own,m.inn,m.out,fun a xs h=>m.pin a xs (.inl h),fun a xs h=>m.pit a xs (.inl h),m.nm⟩
theorem mL:∀(ds:List D) (i:Nat),(ers ds).drop i=ers (ds.drop i):=by intro ds i;rw[ij,ij,List.map_drop]
theorem mM {J:It}{K:Frag}{io:Option Nat}{B:Bs io}{F:Ψ->Prop}{H:Hp}{σ:St}{τ:Ev}{f:List Ψ}{T:Tg}{body:List IS}{its:List D}{Dn:Ends}(hio:∀j∈tgs T,io≠Γ j)(m:Frm K B F H σ τ f)(w:Wlk K F H J its)
  (q:PO' ex (forM (fun x τ=>bnd (gy T x τ) fun τ'=>fH cl body τ') (ers its) τ) (Fk K B Dn)) :
  ∃W:Nat->Nat->St->Hp->Prop,(∃m,W 0 m σ H)/\∀i m σ H,W i m σ H->(J.stop i H/\Dn.nx σ H)∨(J.go i H/\∃N:St->Hp->Prop,(∀σ' H',N σ' H'->∃m',m' < m/\W (i+1) m' σ' H')/\
   ∀x H',J.yld i H x H'->gT K T x σ H' fun σ2 H2=>RS K io ex (fH cl body) {Dn with nx:=N,ct:=N,bk:=Dn.nx} σ2 H2):=by
 let B':Bs io:=⟨B.F,B.H,fun a xs=>B.L a xs∨(F a/\Rd H a xs.o),fun a xs=>B.T a xs∨SqE K H a xs,B.N⟩
 have m0:Frm K B' F H σ τ f:=⟨m.fok,m.rps,m.nod,m.same,m.own,m.inn,m.out,fun a xs h=>h.elim (m.pin a xs) id,fun a xs h=>h.elim (m.pit a xs) id,m.nm⟩
 let bd:D->Ev->Res Fl:=fun x τ=>bnd (gy T x τ) fun τ'=>fH cl body τ';refine⟨fun i n σ H=>n=its.length - i/\i<=its.length/\∃F τ f,Frm K B' F H σ τ f/\PO' ex (forM bd ((ers its).drop i) τ) (Fk K B Dn),⟨its.length,by simp,Nat.zero_le _,F,τ,f,m0,by rw[List.drop_zero];exact q⟩,?_⟩;rintro i n σ1 H1 ⟨rfl,hi,F1,τ1,f1,m1,q1⟩;have w1:Wlk K F1 H1 J its:=w.step (fun a xs h r=>m1.pin a xs (.inr ⟨h,r⟩)) fun a xs h=>m1.pit a xs (.inr h);by_cases hlt:i < its.length
 ·refine .inr ⟨w1.go hlt,fun σ H=>∃F τ f,Frm K B' F H σ τ f/\PO' ex (forM bd ((ers its).drop (i+1)) τ) (Fk K B Dn),fun σ' H' h=>⟨its.length - (i+1),by omega,rfl,hlt,h⟩,fun x H' y=>?_⟩;obtain⟨eH,mx⟩:=w1.yld y (d:=its[i]) (by simp[hlt]);have m1:=m1.grow eH;have hd:(ers its).drop i=er its[i]::(ers its).drop (i+1):=by rw[mL,List.drop_eq_getElem_cons hlt,ers,mL]
  rw[hd]at q1;have q2:=PO'.bnd q1;refine m1.gT mx.frozen (by simpa using m1.nod) (fun a ha=>absurd ha (by simp)) hio (PO'.bnd q2) fun τ' σ' f' m' h'=>?_;refine⟨B',F1,τ',f',m',h'.mono fun r hr=>?_⟩;cases r with
  |nx τ'=>exact fun σ' H' F' f' m''=>⟨F',τ',f',m'',hr⟩
  |ct τ'=>exact fun σ' H' F' f' m''=>⟨F',τ',f',m'',hr⟩
  |bk τ'=>exact fun σ' H' F' f' m''=>hr.ok _ _ _ _ m''.less
  |rt d=>exact fun v H' F' fv o=>hr.ok _ _ _ _ o
  |ri d ks es=>exact hr.ok
 ·have e:i=its.length:=by omega
  subst e;refine .inl ⟨w1.stop rfl,?_⟩;have:(ers its).drop its.length=[]:=by rw[<- gi its,List.drop_length]
  rw[this]at q1;exact q1.ok _ _ _ _ m1.less
theorem tE (a b:Int):ers (gE a b)=gE a b:=by unfold gE;rw[ij,Ah];rfl
noncomputable def uA (cl:Nat->List D->Res D):Sr->Ev->Res (Int×Int)
 |.rng1 n,τ=>bnd (evR cl n τ) fun|.int i=>grd (jm i) (.ok (0,i))|_=>stk
 |_,_=>stk
def RIr (K:Frag)(ex:Str->Prop)(is:List Nat)(f:Ev->Res (Int×Int)):TI:=fun σ H R=>∃S τ,Slots K S H σ τ is/\PO' ex (f τ) fun p=>∀H',eX H H'->R (Itr p.1 (p.2 - p.1).toNat) H'
noncomputable def qN:Sr->Bool
 |.rng1 _=>Δ
 |_=>Θ
theorem qO {s:Sr}(h:qN s=Δ){τ:Ev}{k:List D->Prop}(q:PO' ex (iQ cl s τ) k):PO' ex (uA cl s τ) fun p=>k (gE p.1 p.2):=by
 cases s with
 |rng1 n=>
  refine PO'.mk ((PO'.bnd (show PO' ex (bnd (evR cl n τ) fun|.int i=>grd (jm i) (.ok (gE 0 i))|_=>stk) k from q)).mono fun d hd=>?_)
  induction d using zD with
  |int i=>obtain⟨gd,hd⟩:=PO'.grd hd;show PO' ex (grd (jm i) (.ok (0,i))) _;unfold grd;rw[d_ gd];exact hd.ok
  |_=>exact hd.no.elim
 |_=>exists h
theorem zC:∀(s:Sr) (X:Cx) (ex:Str->Prop) (G:Gm) (e tg:Expr),GOk Z CX cl xp X ex G->gJ Z G s e=Δ->qN s=Δ->PI X tg e (RIr X.K ex (iP s) (uA cl s)):=by
 intro s X ex G e tg g h hr;cases s with
 |rng1 n=>
  induction e using zE with
  |Call fn args kws pos=>
   induction fn using zE with
   |Name x p=>
    match args,kws,h with
    |[a],[],h=>
     have h':(x == "range"&&G.gl.contains 15&&notStar a&&chk Z G n a)=Δ:=h;simp only[e_]at h';have e1:x = "range":=f_ h'.1.1.1;subst e1;obtain⟨k1,k2,_,_⟩:=iT g (show fT[15]? = Γ ("range" : Str) from rfl) h'.1.1.2;refine p7 (ky k1 k2 (fM (snd n X ex G a g h'.2).1 gK (eT h'.1.2 _ _)) (eT h'.1.2 _ _)) fun σ H Q ⟨S,τ,hs,q⟩=>?_;refine fJ (.refl _) hs (PO'.bnd q) fun x v H1 e1 _ m1 q1=>?_
     induction x using zD with
     |int i=>cases m1.intR;obtain⟨gd,q1⟩:=PO'.grd q1;have gd' : -(2 ^ 62)<=i/\i < 2 ^ 62:=m_ gd;refine⟨i,rfl,gd'.1,gd'.2,?_⟩;have:=q1.ok _ e1;rw[show(0,i).2 - (0,i).1=i from Int.sub_zero i]at this;exact this
     |_=>exact q1.no.elim
    |[],_,h=>exists h
    |[_],_::_,h=>exists h
    |_::_::_,_,h=>exists h
   |_=>exists h
  |_=>exists h
 |_=>cases hr
theorem st_for (g:GOk Z CX cl xp X ex G){t it:Expr}{x:List Stmt}{pos:Pos}{T:Tg}{s:Sr}{a:List IS}(hT':(G.cm=Δ/\G.rs=Δ)/\gF G T t=Δ)(hs':gJ Z G s it=Δ/\jt s t=Δ)(ha:PSs X x (RS X.K G.io ex (fH cl a))):PS X (.For t it x [] pos) (RS X.K G.io ex (evS cl (.for_ T s a))):=by
 have hT:=hT'.2;have hs:=hs'.1;by_cases hr:qN s=Δ
 ·refine hJ (pT (g.own hT'.1.2) (g.calm hT'.1.1) (zC s X ex G it t g hs hr) (pgT g T t hT) ha (fun x=>gB hs X.env x)) fun Dn σ H ⟨B,F,τ,f,m,q⟩=>?_;have q0:PO' ex (bnd (nq cl s τ) fun p=>forM (fun x τ=>bnd (gy T x τ) fun τ'=>fH cl a τ') p.1 p.2) (Fk X.K B Dn):=q;have base:PO' ex (iQ cl s τ) fun its=>PO' ex (forM (fun x τ=>bnd (gy T x τ) fun τ'=>fH cl a τ') its τ) (Fk X.K B Dn):=by
   cases s with
   |rng1 u=>exact(PO'.bnd (show PO' ex (bnd (iQ cl (.rng1 u) τ) fun its=>.ok (its,τ)) _ from PO'.bnd q0)).mono fun its h=>h.ok
   |_=>cases hr
  exact⟨fun _=>True,τ,ft m.rps,(qO hr base).mono fun p hp H1 e1=>mM (iW T t hT) (m.grow e1) (.rng p.1 p.2) (by rw[tE];exact hp)⟩
 ·refine hJ (pT (g.own hT'.1.2) (g.calm hT'.1.1) (tu s X ex G it t g hs hs'.2) (pgT g T t hT) ha (fun x=>gB hs X.env x)) fun Dn σ H ⟨B,F,τ,f,m,q⟩=>?_;have q0:PO' ex (bnd (nq cl s τ) fun p=>forM (fun x τ=>bnd (gy T x τ) fun τ'=>fH cl a τ') p.1 p.2) (Fk X.K B Dn):=q;have q1:=PO'.bnd q0;have hsrc:nq cl s τ=(bnd (iQ cl s τ) fun its=>.ok (ers its,frz (iP s) τ)):=by
   cases s with
   |val u=>rfl
   |_=>exact absurd rfl hr
  rw[hsrc]at q1;obtain⟨F1,gg,b1,b2,b3,b4,b5,b6⟩:=il (iP s) m.fok m.rps m.nod;refine x6 (.refl _) b6 (PO'.bnd q1) fun its J H1 e1 _ w1 hk=>?_;obtain⟨c1,c2,c3⟩:=grow (fun _=>True) b1 b2 e1;have m2:Frm X.K B (fun a=>F1 a∨(True/\H a=Ξ/\H1 a≠Ξ)) H1 σ (frz (iP s) τ) gg:=m.stp (b4.trans c3 (fun x hx=>.inl (b5 x hx))) c1 c2 b3 fun a ha=>.inl (b5 a ha);exact mM (iW T t hT) m2 (w1.step (fun a xs h r=>⟨h.elim (fun z=>.inl z) fun z=>.inr ⟨trivial,z,r.some⟩,r⟩) fun a xs h=>h) hk.ok
mutual
theorem snS:∀(a:IS) (X:Cx) (ex:Str->Prop) (G:Gm) (s:Stmt),GOk Z CX cl xp X ex G->pH Z G a s=Δ->PS X s (RS X.K G.io ex (evS cl a))
 |.asg tg e,X,ex,G,s,g,h=>by
  induction s using zS with
  |Assign ts v pos=>
   match ts,h with
   |[t],h=>have h':(gF G tg t&&chk Z G e v&&(isName t||(isTup t&&notTuple v)))=Δ:=h;simp only[e_]at h';exact st_asg g h'.1.1 h'.1.2 h'.2
   |[],h=>exists h
   |_::_::_,h=>exists h
  |_=>exists h
 |.app i e,X,ex,G,s,g,h=>by
  induction s using zS with
  |Expr v pos=>
   induction v using zE with
   |Call fn args kws cpos=>
    induction fn using zE with
    |Attribute o name apos=>
     induction o using zE with
     |Name x p=>
      match args,kws,h with
      |[v],[],h=>have h':(mD G i x&&name == "append"&&apos.endLine == cpos.line&&notStar v&&chk Z G e v)=Δ:=h;simp only[e_]at h';have e1:name = "append":=f_ h'.1.1.1.2;subst e1;exact st_app g h'.1.1.1.1 h'.1.1.2 h'.1.2 h'.2
      |[],_,h=>exists h
      |[_],_::_,h=>exists h
      |_::_::_,_,h=>exists h
     |_=>exists h
    |_=>exists h
   |_=>exists h
  |_=>exists h
 |.ret e,X,ex,G,s,g,h=>by
  induction s using zS with
  |Return v pos=>
   induction v using zO with
   |none=>exists h
   |some v=>exact st_ret g h
  |_=>exists h
 |.if_ t a b,X,ex,G,s,g,h=>by
  induction s using zS with
  |If c x y pos=>have h':(chk Z G t c&&gu Z G a x&&gu Z G b y)=Δ:=h;simp only[e_]at h';exact st_if (snd t X ex G c g h'.1.1).2 (pK a X ex G x g h'.1.2) (pK b X ex G y g h'.2)
  |_=>exists h
 |.for_ tg s body,X,ex,G,st,g,h=>by
  induction st using zS with
  |For t it b els pos=>
   induction els using zL with
   |cons _ _=>exists h
   |nil=>have h':(((G.cm&&G.rs)&&gF G tg t)&&(gJ Z G s it&&jt s t)&&gu Z G body b)=Δ:=h;simp only[e_]at h';exact st_for g h'.1.1 h'.1.2 (pK body X ex G b g h'.2)
  |_=>exists h
 |.raise_ n c w,X,ex,G,s,g,h=>by
  induction s using zS with
  |Raise e cause pos=>
   induction cause using zO with
   |some _=>exact dA h
   |none=>have h:rsv e (fun x=>G.rs&&G.cm&&fx Z G n x&&x == c&&Z.rc.contains (n,c))=Δ:=h;obtain⟨x,np,w',j,p,cpos,rfl,h⟩:=vX h;have h':(G.rs&&G.cm&&fx Z G n x&&x == c&&Z.rc.contains (n,c))=Δ:=h;simp only[e_]at h';have e:=f_ h'.1.2;subst e;exact qK g h'.1.1.1.1 h'.1.1.1.2 h'.1.1.2 (by simpa using h'.2)
  |_=>exact dA h
 |.tryr f es n1 n2 cs n,X,ex,G,s,g,h=>by
  have h1:(trv s fun xf args x1 x2 xc=>G.tr&&G.cm&&fx Z G f xf&&Z.fnc G f&&fy Z {G with rs:=Θ,tr:=Θ} es args&&fx Z G n1 x1&&fx Z G n2 x2&&cs.all (tpx Z n1 n2)&&xc == fG&&fx Z G n xc&&Z.rc.contains (n,xc))=Δ:=by induction s using zS<;>exact h
  exact st_tryr g h1
 |.raisee n c e,X,ex,G,s,g,h=>by
  have h1:rev s (fun o=>rsx o fun x a=>G.rs&&G.cm&&fx Z G n x&&x == c&&Z.rc.contains (n,c)&&fy Z {G with rs:=Θ,tr:=Θ} [e] [a])=Δ:=by induction s using zS<;>exact h
  obtain⟨o,pos,rfl,h2⟩:=vZ h1;obtain⟨x,np,a,cpos,rfl,h3⟩:=v3 h2;simp only[e_]at h3;obtain⟨⟨⟨⟨⟨hrs,hcm⟩,hx⟩,hxc⟩,hrc⟩,hst⟩:=h3;have e:=f_ hxc;subst e;exact pJ g hrs hcm hx (by simpa using hrc) hst
 |.tryc i f es n cs k hd,X,ex,G,s,g,h=>by
  have h1:tcv s (fun xi xf args xc y b0 r=>G.tr&&G.cm&&vY G i xi&&fx Z G f xf&&Z.fnc G f&&fy Z {G with rs:=Θ,tr:=Θ} es args&&fx Z G n xc&&cs.all (fun c=>Z.xm.contains (c,n,Δ))&&(G.N[k]? == Γ y&&G.io != Γ k)&&G.kd[k]? == Γ .local&&gu Z {G with cm:=Θ,rs:=Θ,tr:=Θ} hd (b0::r))=Δ:=by induction s using zS<;>exact h
  exact st_tryc g h1 fun tr a ss hss=>pK hd (gD X a) nox {G with cm:=Θ,rs:=Θ,tr:=Θ} ss (pI g (tr.pl a)) hss
theorem pK:∀(as:List IS) (X:Cx) (ex:Str->Prop) (G:Gm) (ss:List Stmt),GOk Z CX cl xp X ex G->gu Z G as ss=Δ->PSs X ss (RS X.K G.io ex (fH cl as))
 |[],X,ex,G,ss,g,h=>by
  induction ss using zL with
  |nil=>exact iN nR fun Dn σ H ⟨B,F,τ,f,m,q⟩=>q.ok _ _ _ _ m
  |cons _ _=>exists h
 |a::as,X,ex,G,ss,g,h=>by
  induction ss using zL with
  |nil=>induction a using zT<;>exists h
  |cons s ss=>
   cases hal:uy a with
   |true=>
    cases a with
    |_=>cases hal
   |false=>
    have h':(pH Z G a s&&gu Z G as ss)=Δ:=by rw[<- nH hal];exact h
    simp only[e_]at h';refine iN (md (snS a X ex G s g h'.1) (pK as X ex G ss g h'.2)) fun Dn σ H ⟨B,F,τ,f,m,q⟩=>?_;refine⟨B,F,τ,f,m,(PO'.bnd q).mono fun r hr=>?_⟩;cases r with
    |nx τ'=>exact fun σ' H' F' f' m'=>⟨B,F',τ',f',m',hr⟩
    |ct τ'=>exact hr.ok
    |bk τ'=>exact hr.ok
    |rt d=>exact hr.ok
    |ri d ks es=>exact hr.ok
end
end
section
variable {P:Β}{w:Α}
theorem lO {outer:List Env}{H:Hp}{s:Ω}{E:XK}{e:Φ}{s':Ω}(x:HOk P w H s.heap)(fr:∀b∈frs outer,H b=Ξ)(h:CX1 P w outer (fu s.heap H) s E e s'):CX1 P w outer H s E e s':=by obtain⟨a,cls,a0,H',B,h1,h2,h3,h4,h5,_,h6,h7,h8⟩:=h;exact⟨a,cls,a0,iB H H',B,h1,h2,h3,lG x h4,lF x h5 (g5 h4) (fun b o _=>h6 b o) fr,mC,fun b o e n f=>h6 b o e (gq n) f,h7,h8⟩
theorem nK {outer:List Env}{H:Hp}{s:Ω}{e:Φ}{s':Ω}:¬CX1 P w outer H s (fun _ _ _=>False) e s':=fun⟨_,_,_,_,_,_,_,_,_,_,_,_,_,z⟩=>z
variable {K:Frag}{mg:Str->Option Φ}{base:Heap}{N:List Str}{qual:Str}{scope:Scope}{f:Ψ}{cd:Φ}{A:Η}{outer:List Env}{s:Ω}{H:Hp}{E:XK}
theorem uB {H':Hp}{B:Heap}{s2:Ω}{a:Ψ}{cls:Φ}{a0:Option Ψ}(lt:LTH H)(os:s2.os=s.os)(bare:AllBare s2.gens)(fl:Heap.FlyingD B outer a cls a0 s2.heap)(hB:HOk P w H' B)
  (kB:∀b o,s.heap.get? b=Γ o->H b=Ξ->b∉frs outer->B.get? b=Γ o) (hs:∀b o,s.heap.get? b=Γ o->H b=Ξ->b∈frs outer->∃sl,s2.heap.get? b=Γ {o with slots:=sl})
  (fr:∀b o,s.heap.get? b=Γ o->H b=Ξ->H' b=Ξ) (pz:∀b o u,H b=Γ (.frz o u)->H' b=Γ (.frz o u)) (pt:∀b xs,H b=Γ (.tup xs)->H' b=Γ (.tup xs)) (hE:E cls a0 H0):CX1 P w outer H s E (.ref a) s2:=by
 refine⟨a,cls,a0,H',B,rfl,os,bare,⟨fun b o e n nf _=>fl.1 _ _ (kB b o e n nf),fun b o e n hf _=>hs b o e n hf,fun b o e n _=>fr b o e n,fun b o e _=>?_,pt,pz,fun b ps e=>?_⟩,hB,fun b o e=>(lt b o e).elim (fun⟨ob,u,z⟩=>by subst z;exact pz _ _ _ e) fun⟨xs,z⟩=>by subst z;exact pt _ _ e,kB,fl,hE⟩
 ·cases q:H b with
  |none=>
   by_cases hf:b∈frs outer
   ·obtain⟨sl,h⟩:=hs b o e q hf;exact⟨_,h⟩
   ·exact⟨_,fl.1 _ _ (kB b o e q hf)⟩
  |some u=>
   have:∃u',H' b=Γ u':=by
    rcases lt b u q with⟨ob,v,rfl⟩|⟨xs,rfl⟩
    ·exact⟨_,pz _ _ _ q⟩
    ·exact⟨_,pt _ _ q⟩
   obtain⟨u',hu⟩:=this;obtain⟨ob,ho⟩:=(hB b u' hu).at
   exact⟨_,fl.1 _ _ ho⟩
 ·rcases lt b _ e with⟨ob,v,z⟩|⟨xs,z⟩<;>cases z
theorem yh {b:Ψ}{o:Obj}(e:s.heap.get? b=Γ o)(n:b∉frs outer):b∉frs (envOfC qual scope s.heap.objs.size f cd::outer):=fun z=>by
 unfold frs at z n;rcases List.mem_filterMap.mp z with⟨env,hm,hf⟩
 rcases p_.mp hm with rfl|hm
 ·have h1:s.heap.objs.size=b:=zZ hf;have h2:=j_ e;rw[h1]at h2;exact Ai _ h2
 ·exact n (List.mem_filterMap.mpr ⟨env,hm,hf⟩)
theorem tF (lt:LTH H){ex:Str->Prop}(hE:∀c C dx,ex c->PySem.W.nsIn K Ζ c=Γ (Γ (.ref C))->(c≠fG->dx=Ξ)->E (.ref C) dx H0) :
  kM (g7 (CX1 P w) P w K mg base N qual scope f cd A outer s H E) (fun cls dx _=>∃c C,ex c/\PySem.W.nsIn K Ζ c=Γ (Γ (.ref C))/\cls=.ref C/\(c≠fG->dx=Ξ)):=by
 intro pins σ H' s' B a cls dx I hB kB fl ⟨c,C,hc,hn,hcls,hdx⟩;subst hcls;show Ι _ _ (leaving _ (.ref a)) _ _ s';refine sH (show(A.deeper (envOfC qual scope s.heap.objs.size f cd)).frames=Γ (envOfC qual scope s.heap.objs.size f cd::outer) from I.ok.frames) rfl fl fun h' fl' up=>?_;refine uB lt I.os I.bare fl' hB (fun b o e n nf=>kB b o e n nf (by simp[g7])) (fun b o e n hf=>?_) (fun b o e n=>I.base.free b o e n (by simp[g7])) I.base.frzs I.base.tups (hE c C dx hc hn hdx);obtain⟨sl,h1⟩:=I.base.slot b o e n hf (by simp[g7]);obtain⟨_,o',ho',nf⟩:=I.ok.funs.mem hf;have ho':s.heap.get? b=Γ o':=ho';rw[e]at ho';cases ho';obtain⟨sl',h2⟩:=up.1 b _ h1 nf;exact⟨sl',h2⟩
theorem qP (lt:LTH H){pins:List (Ψ×Obj)}{σ:St}{H1:Hp}{s1:Ω}{C e:Ψ}{h':Heap}{vs:List Φ}(hE:E (.ref C) Ξ H0)
  (I:Inv (g7 (CX1 P w) P w K mg base N qual scope f cd A outer s H E) pins σ H1 s1) (hx:Heap.MadeExcOf s1.heap h' e (.ref C) vs) :
  (g7 (CX1 P w) P w K mg base N qual scope f cd A outer s H E).xe (.ref e) {s1 with heap:=h'}:=by
 have hin:∀env∈(g7 (CX1 P w) P w K mg base N qual scope f cd A outer s H E).stack,∀b,env.frame=Γ b->b∈frs (g7 (CX1 P w) P w K mg base N qual scope f cd A outer s H E).stack:=fun env he b hb=>List.mem_filterMap.mpr ⟨env,he,hb⟩;show Ι _ _ (leaving _ (.ref e)) _ _ _;refine qd (base:=PySem.W.hideAll s1.heap (frs (g7 (CX1 P w) P w K mg base N qual scope f cd A outer s H E).stack)) (h:=s1.heap) (show(A.deeper (envOfC qual scope s.heap.objs.size f cd)).frames=Γ (envOfC qual scope s.heap.objs.size f cd::outer) from I.ok.frames) rfl (fun b o q=>PySem.W.of_hideAll _ q) (PySem.W.funFrames_hide I.stack hin) hx fun h2 fl up=>?_;have trk:∀b u o,H1 b=Γ u->s1.heap.get? b=Γ o->(PySem.W.hideAll s1.heap (frs (g7 (CX1 P w) P w K mg base N qual scope f cd A outer s H E).stack)).get? b=Γ o:=fun b u o hu ho=>PySem.W.hideAll_get _ ho fun z=>by rw[I.stkFree b z]at hu;cases hu
 refine uB (H':=H1) lt I.os I.bare fl (fun b o hb=>?_) (fun b o he n nf=>?_) (fun b o he n hf=>?_) (fun b o e n=>I.base.free b o e n (by simp[g7])) I.base.frzs I.base.tups hE
 ·refine(I.hok b o hb).stay (fun c u hc hu=>?_) (fun _ z=>z) fun _ _ z=>z;rcases hc with rfl|hc
  ·exact trk _ _ _ hb hu
  ·exact trk _ _ _ hc hu
 ·exact PySem.W.hideAll_get _ (I.base.keep b o he n nf (by simp[g7])) (yh he nf)
 ·obtain⟨sl,h1⟩:=I.base.slot b o he n hf (by simp[g7]);obtain⟨_,o',ho',nf⟩:=I.ok.funs.mem hf;have ho':s.heap.get? b=Γ o':=ho';rw[he]at ho';cases ho';obtain⟨sl',h3⟩:=up.1 b _ (hx.keeps b _ h1) nf;exact⟨sl',h3⟩
end
def RSB (K:Frag){io:Option Nat}(B:Bs io)(ex:Str->Prop)(g:Ev->Res Fl):TS:=fun Dn σ H=>∃F τ f,Frm K B F H σ τ f/\PO' ex (g τ) (Fk K B Dn)
noncomputable def qQ (Z:Sg)(G:Gm):List IS->List Stmt->Bool
 |[],[]=>Δ
 |a::as,s::ss=>pH Z G a s&&qQ Z G as ss
 |_,_=>Θ
section
variable {Z:Sg}{cl:Nat->List D->Res D}{X:Cx}{ex:Str->Prop}{G:Gm}
theorem snB (g:GOk Z (CX1 X.prog X.w) cl (xp1 X.K) X ex G)(hst:X.stack=X.env::X.outer)(hfr:X.env.frame=Γ X.env.locals)(lt:LTH X.H₀)(hpl:∀a:Ψ,∀f∈Z.fns,f∈Z.pl->∀x,Z.name f=Γ x->FnC X.prog X.w X.K X.mg X.base (CX1 X.prog X.w) (X.A.mark (Γ (.ref a))) cl (xp1 X.K) f x)
  {B0:Bs G.io} (hBN:B0.N=Ξ) (hB0:B0.H=X.H₀) (hBF:FOk B0.F B0.H) (hBL:∀a xs,¬B0.L a xs) (hBT:∀a xs,¬B0.T a xs):∀(as:List IS) (ss:List Stmt),qQ Z G as ss=Δ->PSs X ss (RSB X.K B0 ex (fH cl as))
 |[],ss,h=>by
  induction ss using zL with
  |nil=>exact iN nR fun Dn σ H ⟨F,τ,f,m,q⟩=>q.ok _ _ _ _ m
  |cons _ _=>cases h
 |a::as,ss,h=>by
  induction ss using zL with
  |nil=>cases h
  |cons s ss=>
   have h':(pH Z G a s&&qQ Z G as ss)=Δ:=h;rw[e_]at h';have p1:PS X s (RSB X.K B0 ex (evS cl a)):=by exact hJ (snS a X ex G s g h'.1) fun Dn σ H ⟨F,τ,f,m,q⟩=>⟨B0,F,τ,f,m,q⟩
   refine iN (md p1 (snB g hst hfr lt hpl hBN hB0 hBF hBL hBT as ss h'.2)) fun Dn σ H ⟨F,τ,f,m,q⟩=>?_;refine⟨F,τ,f,m,(PO'.bnd q).mono fun r hr=>?_⟩;cases r with
   |nx τ'=>exact fun σ' H' F' f' m'=>⟨F',τ',f',m',hr⟩
   |ct τ'=>exact hr.ok
   |bk τ'=>exact hr.ok
   |rt d=>exact hr.ok
   |ri d ks es=>exact hr.ok
end
noncomputable def qR (Z:Sg)(fn:Fn)(ps:List Str)(st:Stmt):Bool:=
 (e6 st).kind == .function&&!(e6 st).isCoroutine&&!(e6 st).isGenerator&&decide (fn.G.N.Nodup)&&fn.G.N.take ps.length == ps
&&ps.all (fun x=>(e6 st).names.lookup x == Γ .local||(e6 st).names.lookup x == Γ .cell)&&(e6 st).names.all (fun y=>y.2 != .free)
&&(List.range fn.G.N.length).all (fun i=>(fn.G.N[i]?).bind ((e6 st).names.lookup ·) == fn.G.kd[i]?)
&&fn.G.N.all (fun x=>!(x == "__debug__")&&!(x == "__classdict__"))
&&fn.G.gl.all (fun n=>match Z.name n with|some x=>(e6 st).names.lookup x == Γ .globalImplicit|none=>Θ)
&&decide (ps.length=fn.np)
noncomputable def fA (Z:Sg)(fn:Fn)(ps:List Str)(st:Stmt):Bool:=qR Z fn ps st&&(!fn.io&&qQ Z fn.G fn.body (fV st))
structure DefHd (Z:Sg)(fn:Fn)(ps:List Str)(st:Stmt):Prop where
 sc:FnScope fn.G.N ps (e6 st)
 kd:∀(i:Nat) (x:Str),fn.G.N[i]? = Γ x->(e6 st).names.lookup x=fn.G.kd[i]?
 noD:∀x∈fn.G.N,(x == ("__debug__" : Str))=Θ/\(x == ("__classdict__" : Str))=Θ
 gl:∀n∈fn.G.gl,∀x,Z.name n=Γ x->(e6 st).names.lookup x=Γ .globalImplicit
 np:ps.length=fn.np
structure DefSc (Z:Sg)(fn:Fn)(ps:List Str)(st:Stmt):Prop extends DefHd Z fn ps st where
 pl:fn.io=Θ
 body:qQ Z fn.G fn.body (fV st)=Δ
structure DefSI (Z:Sg)(fn:Fn)(ps:List Str)(st:Stmt):Prop extends DefHd Z fn ps st where
 io:fn.io=Δ
 body:gu Z fn.G fn.body (fV st)=Δ
 gio:fn.G.io=Γ (fn.np - 1)
 pos:0 < fn.np
 ntr:fn.G.tr=Θ
theorem qS {Z:Sg}{fn:Fn}{ps:List Str}{st:Stmt}(h:qR Z fn ps st=Δ):DefHd Z fn ps st:=by
 unfold qR at h;simp only[e_]at h;obtain⟨⟨⟨⟨⟨⟨⟨⟨⟨⟨h1,h2⟩,h3⟩,h4⟩,h5⟩,h6⟩,h7⟩,h8⟩,h9⟩,h10⟩,h11⟩:=h;rw[zY]at h6 h7 h8 h9 h10;refine⟨⟨f_ h1,by simpa using h2,by simpa using h3,m_ h4,f_ h5,fun x hx=>?_,fun y hy=>by simpa using h7 y hy⟩,fun i x hx=>?_,fun x hx=>by simpa using h9 x hx,fun n hn x hx=>?_,m_ h11⟩
 ·have:=h6 x hx;rw[zX]at this;exact this.elim (fun z=>.inl (f_ z)) fun z=>.inr (f_ z)
 ·have hlt:i < fn.G.N.length:=(y_.mp hx).1;have:=f_ (h8 i (List.mem_range.mpr hlt));rw[hx]at this;exact this
 ·have:=h10 n hn;rw[hx]at this;exact f_ this
theorem mO {Z:Sg}{fn:Fn}{ps:List Str}{st:Stmt}(h:fA Z fn ps st=Δ):DefSc Z fn ps st:=by unfold fA at h;rw[e_,e_]at h;exact⟨qS h.1,by simpa using h.2.1,h.2.2⟩
structure DefOI (K:Frag)(mg:Str->Option Φ)(Z:Sg)(T:Tb)(f:Nat)(x:Str):Prop where
 ex:∃(fn:Fn) (st:Stmt) (fa:Ψ) (fd:Ν) (ps:List Str),T f=Γ fn/\Fun K x x st fa fd/\mg x=Γ (.ref fa)/\Binds K fd ps []/\DefSI Z fn ps st
structure DefOk (K:Frag)(mg:Str->Option Φ)(Z:Sg)(T:Tb)(f:Nat)(x:Str):Prop where
 ex:∃(fn:Fn) (st:Stmt) (fa:Ψ) (fd:Ν) (ps:List Str),T f=Γ fn/\Fun K x x st fa fd/\mg x=Γ (.ref fa)/\Binds K fd ps []/\DefSc Z fn ps st
section
variable {P:Β}{w:Α}{K:Frag}{mg:Str->Option Φ}{base:Heap}{Z:Sg}{T:Tb}
def CVk (mg:Str->Option Φ)(x:Str)(v:V):Prop:=(∃C,v=.ref C/\mg x=Γ (.ref C))∨(∃T,v=.ty T/\mg x=Ξ/\bootBuiltins x=Γ (.type T))
structure TopOk (K:Frag)(mg:Str->Option Φ)(Z:Sg)(T:Tb):Prop where
 nam:∀n x,Z.name n=Γ x->x≠"__name__"/\(x == ("__debug__" : Str))=Θ
 blt:∀(n:Nat) (x:Str),fT[n]? = Γ x->mg x=Ξ
 cst:∀n d x,(n,d)∈Z.kst->Z.name n=Γ x->∃u v,mg x=Γ u/\RelV v u/\∀S H,HRep K S H v d
 fns:∀f∈Z.fns,∀x,Z.name f=Γ x->DefOk K mg Z T f x
 fio:∀f∈Z.fio,∀x,Z.name f=Γ x->DefOI K mg Z T f x
 plc:∀f∈Z.pl,∀fn,T f=Γ fn->fn.G.cm=Θ
 xcv:∀n∈Z.cls,∀x,Z.name n=Γ x->∃v,CVk mg x v
 xcl:∀c n b x,(c,n,b)∈Z.xt->Z.name n=Γ x->∃C,PySem.W.nsIn K Ζ c=Γ (Γ (.ref C))/\ExcAt K C/\∀v,CVk mg x v->PySem.W.kitOne K (.ref C) (vv v)=Γ b
 xmt:∀c n b x,(c,n,b)∈Z.xm->Z.name n=Γ x->∃C C',PySem.W.nsIn K Ζ c=Γ (Γ (.ref C))/\PySem.W.nsIn K Ζ x=Γ (Γ (.ref C'))/\nameIn K C=Γ c/\mg x=Γ (.ref C')/\PySem.W.exmOne K (.ref C) (.ref C')=Γ b
 xrs:∀n c,(n,c)∈Z.rc->Z.name n=Γ c/\∃C,mg c=Γ (.ref C)/\PySem.W.nsIn K Ζ c=Γ (Γ (.ref C))/\PySem.W.excIn K C bmV "ValueError.__new__" = Δ
theorem kS {F:Ψ->Prop}{H:Hp}:∀ {vs:List V}{ds:List D} (n:Nat),HReps K F H vs ds->Rps K F H (vs.map Γ++Ρ n Ξ) ((ers ds).map Γ++Ρ n Ξ) []
 |[],[],n,.nil=>by
  induction n with
  |zero=>exact .nil
  |succ n ih=>exact .none ih
 |v::vs,d::ds,n,.cons h1 h2=>.some (f:=[]) h1.frozen (kS n h2)
structure Rm (n:Nat)(A:Η):Prop where
 dp:A.depth+3*n+5 < recursionLimit
 un:A.units+16*n+200 < cLine
theorem Rm.room {n:Nat}{A:Η}(r:Rm n A)(hn:n < 900)(h:A.handled=Ξ):Room n A:=⟨fun _=>h,by have:=r.dp;rw[Nat.mod_eq_of_lt (by omega)];exact this,by have:=r.un;rw[Nat.mod_eq_of_lt (by omega)];exact this⟩
theorem Rm.roomp {n:Nat}{A:Η}(r:Rm n A)(hn:n < 900):Room (1000+n) A:=⟨fun z=>by omega,by have:=r.dp;rw[show(1000+n) % 1000=n by omega];exact this,by have:=r.un;rw[show(1000+n) % 1000=n by omega];exact this⟩
theorem Rm.of {n k:Nat}{A:Η}(r:Room k A)(h:k % 1000=n):Rm n A:=⟨by have:=r.dp;rw[h]at this;exact this,by have:=r.un;rw[h]at this;exact this⟩
theorem lP (t:TopOk K mg Z T){n k:Nat}{f:Nat}{fn:Fn}{x:Str}{st:Stmt}{fa:Ψ}{fd:Ν}{ps:List Str}(hk:k % 1000=n)(hn:n < 900)(h1:T f=Γ fn)(h2:Fun K x x st fa fd)(h5:DefSc Z fn ps st)(hp:k < 1000∨fn.G.cm=Θ)
  (ih:∀(A:Η),Rm n A->∀f∈Z.fns,(A.handled=Ξ∨f∈Z.pl)->∀x,Z.name f=Γ x->FnC P w K mg base (CX1 P w) A (b9 T n) (xp1 K) f x)
  (ih2:∀(A:Η),Rm n A->∀f∈Z.fio,A.handled=Ξ->∀x,Z.name f=Γ x->FnI P w K mg base (CX1 P w) A (b9 T n) f x) :
  FnOk P w K mg base (CX1 P w) (k+1) fa fd ps (spF K (b9 T (n+1)) (xp1 K) f ps):=by
 have hcall:∀ds,b9 T (n+1) f ds=iA (b9 T n) fn ds:=fun ds=>by show(match T f with|some fn=>(match fn.io with|false=>iA (b9 T n) fn ds|true=>iR (b9 T n) fn ds)|none=>stk)=_;rw[h1];show(match fn.io with|false=>iA (b9 T n) fn ds|true=>iR (b9 T n) fn ds)=_;rw[h5.pl]
 obtain⟨oc,od,kV,doc,pm,an,cdv,ct,osl,rfl,lk,hcd⟩:=h2.ex;refine ur lk hcd h5.sc (by omega) (fun vs H Q E h=>h.1) fun A outer s H vs Q E hr hsp=>?_;obtain⟨hl,lt,F,ds,fok,m,q⟩:=hsp;have hcm:fn.G.cm=Δ->A.handled=Ξ:=fun z=>hp.elim (fun h=>hr.hd h) fun h=>by rw[h]at z;cases z
 refine⟨_,snB (Z:=Z) (cl:=b9 T n) (ex:=xp1 K E H) (G:=fn.G) (B0:=⟨F,H,fun _ _=>False,fun _ _=>False,Ξ⟩) ?_ rfl rfl lt (fun a f' hf' hpl' x' hx'=>ih ((A.deeper (envOfC x (e6 st) s.heap.objs.size fa cdv)).mark (Γ (.ref a))) ⟨(Rm.of hr hk).dp,(Rm.of hr hk).un⟩ f' hf' (.inr hpl') x' hx') rfl rfl fok (fun _ _ z=>z) (fun _ _ z=>z) fn.body (fV st) h5.body,?_⟩
 ·refine⟨rfl,h5.sc.nd,fun z=>by show A.handled.isNone=Δ;rw[hcm z];rfl,h5.sc.kind,?_,fun _=>PassesOwn.leaving,fun i y hy=>h5.kd i y hy,fun i y hy=>h5.noD y (Af hy),fun m hm y hy=>h5.gl m hm y hy,t.nam,fun _ _=>rfl,t.blt,t.cst,?_,fun f' hf' z x' hx'=>ih2 _ (Rm.of hr hk) f' hf' (hcm z) x' hx',t.xcv,t.xcl,t.xmt,t.xrs,?_,?_,?_,?_,?_,fun _ _ _ _ _ _ z=>z,⟨_,_,_,rfl,rfl,rfl⟩⟩
  ·have:=hr.un;show(A.deeper _).units+42 < cLine;omega
  ·exact fun f' hf' hc x' hx'=>ih _ (Rm.of hr hk) f' hf' (hc.elim (fun z=>.inl (hcm z)) .inr) x' hx'
  ·exact fun _ pins σ H1 s1 c C h' e vs I hex hn hx=>qP lt (hex C Ξ hn fun _=>rfl) I hx
  ·exact fun _=>⟨rfl,rfl,lt,fun a f' hf' hpl' x' hx'=>ih ((A.deeper (envOfC x (e6 st) s.heap.objs.size fa cdv)).mark (Γ (.ref a))) ⟨(Rm.of hr hk).dp,(Rm.of hr hk).un⟩ f' hf' (.inr hpl') x' hx',fun _ _ _ _ _ _ z=>z,fun E H' c C dx h hn hd=>h C dx hn hd,fun c C H' hC C'' dx hC' hd=>by rw[hC]at hC';cases hC';exact⟨rfl,hd⟩⟩
  ·exact⟨_,tF (ex:=xp1 K E H) lt fun c C dx hc hn hd=>hc C dx hn hd,fun c H' hc C dx hn hd=>⟨c,C,hc,hn,rfl,hd⟩⟩
  ·exact fun outer H s E e s' x fr h=>lO x fr h
  ·exact fun H outer s e s'=>nK
 ·rw[hcall]at q;obtain⟨gd,q⟩:=PO'.grd q;have gd':(ers ds).length=fn.np:=m_ gd;have hn':fn.G.N.length - vs.length=fn.G.N.length - fn.np:=by rw[m.length,<- gi ds,gd']
  refine⟨F,(ers ds).map Γ++Ρ (fn.G.N.length - fn.np) Ξ,[],⟨fok,?_,List.nodup_nil,.refl _,fun a ha=>absurd ha (by simp),fun a h=>h,fun a h=>.inl h,fun a xs h=>h.elim,fun a xs h=>h.elim,fun _ _ _ z=>by cases z⟩,(PO'.bnd q).mono fun r hr=>?_⟩
  ·show Rps K F H (start fn.G.N vs) _ [];unfold start;rw[hn'];exact kS _ m
  ·cases r with
   |nx τ'=>exact fun σ' H' F' f' m'=>hr.ok .non H' F' [] ⟨m'.fok,m'.same,.non,List.nodup_nil,fun a ha=>absurd ha (by simp),m'.inn,m'.out⟩
   |rt d=>exact fun v H' F' fv o=>hr.ok v H' F' fv o
   |bk τ'=>exact hr.no.elim
   |ct τ'=>exact hr.no.elim
   |ri d ks es=>exact hr.no.elim
theorem mP {F:Ψ->Prop}{H:Hp}{a:Ψ}{d:D}(hd:MRep K F H (.ref a) d [a]):∀ {vs:List V}{ds:List D} (n:Nat),HReps K F H vs ds->Rps K F H ((vs++[V.ref a]).map Γ++Ρ n Ξ) ((ers ds++[d]).map Γ++Ρ n Ξ) [a]
 |[],[],n,.nil=>by have h0:Rps K F H (Ρ n Ξ) (Ρ n Ξ) []:=mJ (by simp);exact .some (f:=[a]) (g:=[]) hd h0
 |v::vs,d::ds,n,.cons h1 h2=>.some (f:=[]) h1.frozen (mP hd n h2)
theorem kT (o:Bool)(ks:List Key)(es:List D):∀ds:List D,sQ (ds++[.dct o ks es])=ds++[.dct Δ ks es]
 |[]=>rfl
 |[d]=>rfl
 |d::d'::ds=>by show d::sQ (d'::ds++[.dct o ks es])=_;rw[kT o ks es (d'::ds)];rfl
theorem snI {CX:CXT}{cl:Nat->List D->Res D}{xp:XK->Hp->Str->Prop}{X:Cx}{ex:Str->Prop}{G:Gm}(g:GOk Z CX cl xp X ex G)(B:Bs G.io){as:List IS}{ss:List Stmt}(h:gu Z G as ss=Δ):PSs X ss (RSB X.K B ex (fH cl as)):=
 iN (pK as X ex G ss g h) fun Dn σ H ⟨F,τ,f,m,q⟩=>⟨B,F,τ,f,m,q⟩
theorem qT (t:TopOk K mg Z T){n k:Nat}{f:Nat}{fn:Fn}{x:Str}{st:Stmt}{fa:Ψ}{fd:Ν}{ps:List Str}(hk:k % 1000=n)(hn:n < 900)(h1:T f=Γ fn)(h2:Fun K x x st fa fd)(h5:DefSI Z fn ps st)(hp:k < 1000)
  (ih:∀(A:Η),Rm n A->∀f∈Z.fns,(A.handled=Ξ∨f∈Z.pl)->∀x,Z.name f=Γ x->FnC P w K mg base (CX1 P w) A (b9 T n) (xp1 K) f x)
  (ih2:∀(A:Η),Rm n A->∀f∈Z.fio,A.handled=Ξ->∀x,Z.name f=Γ x->FnI P w K mg base (CX1 P w) A (b9 T n) f x) :
  FnOk P w K mg base (CX1 P w) (k+1) fa fd ps (spI K (b9 T (n+1)) f ps):=by
 have hGi:=h5.gio;have hpos:=h5.pos;have htr:=h5.ntr;have hcall:∀ds,b9 T (n+1) f ds=iR (b9 T n) fn ds:=fun ds=>by show(match T f with|some fn=>(match fn.io with|false=>iA (b9 T n) fn ds|true=>iR (b9 T n) fn ds)|none=>stk)=_;rw[h1];show(match fn.io with|false=>iA (b9 T n) fn ds|true=>iR (b9 T n) fn ds)=_;rw[h5.io]
 obtain⟨oc,od,kV,doc,pm,an,cdv,ct,osl,rfl,lk,hcd⟩:=h2.ex;refine ur lk hcd h5.sc (by omega) (fun vs H Q E h=>h.1) fun A outer s H vs Q E hr hsp=>?_;obtain⟨hl,a,F,ws,ds,kvs,es,rfl,AI,d,ks',es',hc,hlf,q⟩:=hsp;have hcm:A.handled=Ξ:=hr.hd hp;refine⟨_,snI (Z:=Z) (CX:=CX1 P w) (cl:=b9 T n) (xp:=xp1 K) (ex:=nox) (G:=fn.G) ?_ ⟨F,rm a H,fun _ _=>False,fun _ _=>False,Γ a⟩ h5.body,?_⟩
 ·refine⟨rfl,h5.sc.nd,fun z=>by show A.handled.isNone=Δ;rw[hcm];rfl,h5.sc.kind,?_,fun _=>PassesOwn.leaving,fun i y hy=>h5.kd i y hy,fun i y hy=>h5.noD y (Af hy),fun m hm y hy=>h5.gl m hm y hy,t.nam,fun _ _=>rfl,t.blt,t.cst,fun f' hf' hc x' hx'=>ih _ (Rm.of hr hk) f' hf' (.inl hcm) x' hx',fun f' hf' z x' hx'=>ih2 _ (Rm.of hr hk) f' hf' hcm x' hx',t.xcv,t.xcl,t.xmt,t.xrs,fun _ pins σ H1 s1 c C h' e vs I hex hn hx=>hex.elim,(fun z=>by rw[htr]at z;cases z),⟨fun _ _ _=>False,fun _ _ _ _ _ _ _ _ _ _ _ _ z=>z.elim,fun c H z=>z.elim⟩,fun outer H s E e s' x fr h=>lO x fr h,fun H outer s e s'=>nK,fun _ _ _ _ _ _ z=>z,⟨_,_,_,rfl,rfl,rfl⟩⟩;have:=hr.un;show(A.deeper _).units+42 < cLine;omega
 ·rw[hcall]at hc;unfold iR at hc;obtain⟨gd,hc⟩:=nt hc;have gd':(ers ds++[D.dct Θ (kvs.map (·.1)) es]).length=fn.np:=m_ gd;rw[kT]at hc;obtain⟨r,hr1,hc⟩:=gA hc;have hlw:ws.length=fn.np - 1:=by rw[zW,gi]at gd';rw[AI.ws.length,<- gd'];simp
  have hn':fn.G.N.length - (ws++[V.ref a]).length=fn.G.N.length - fn.np:=by rw[zW,hlw];show fn.G.N.length - (fn.np - 1+1)=_;rw[Nat.sub_add_cancel hpos]
  have m0:MRep K F H (.ref a) (.dct Δ (kvs.map (·.1)) es) [a]:=.dctO AI.nF AI.at_ rfl (HReps.free AI.lf AI.vs);refine⟨F,(ers ds++[D.dct Δ (kvs.map (·.1)) es]).map Γ++Ρ (fn.G.N.length - fn.np) Ξ,[a],⟨AI.fok,?_,by simp,yg,fun b hb=>by rw[Ag.mp hb];exact ov,fun b h=>h,fun b h=>.inl h,fun b xs h=>h.elim,fun b xs h=>h.elim,fun j b e1 e2=>?_⟩,?_⟩
  ·show Rps K F H (start fn.G.N (ws++[.ref a])) _ [a];unfold start;rw[hn'];exact mP m0 _ AI.ws
  ·rw[hGi]at e1;cases e1;cases e2;show(start fn.G.N (ws++[.ref a]))[fn.np - 1]? = _;unfold start;rw[<- hlw,List.map_append,z_,List.getElem?_append_right (by simp)];simp
  ·rw[hr1];cases r with
   |ri d1 ks1 es1=>cases hc;intro v H'' F'' fv kvs1 l hN ot hF hfv hH hks hvs;have e:=hN a rfl;subst e;exact q v H'' F'' fv kvs1 ⟨ot,hF,hfv,hH,hks,hvs⟩
   |nx _=>cases hc
   |bk _=>cases hc
   |ct _=>cases hc
   |rt _=>cases hc
theorem j6 (t:TopOk K mg Z T):∀(n:Nat),n < 900->(∀(A:Η),Rm n A->∀f∈Z.fns,(A.handled=Ξ∨f∈Z.pl)->∀x,Z.name f=Γ x->FnC P w K mg base (CX1 P w) A (b9 T n) (xp1 K) f x)/\
  ∀(A:Η),Rm n A->∀f∈Z.fio,A.handled=Ξ->∀x,Z.name f=Γ x->FnI P w K mg base (CX1 P w) A (b9 T n) f x
 |0,h9=>by
  refine⟨fun A hr f hf hc x hx=>?_,fun A hr f hf hc x hx=>?_⟩
  ·obtain⟨fn,st,fa,fd,ps,h1,h2,h3,h4,h5⟩:=(t.fns f hf x hx).ex;have no:∀vs H Q E,¬spF K (b9 T 0) (xp1 K) f ps vs H Q E:=fun vs H Q E ⟨_,_,F,ds,_,_,h⟩=>h;exact⟨1000+0,fa,fd,ps,h3,h2.kp,h4,⟨fun vs H Q E h=>h.1,fun A outer s H args us vs Q E _ _ _ _ h=>(no _ _ _ _ h).elim⟩,hr.roomp h9,fun ex ds k h=>h.elim⟩
  ·obtain⟨fn,st,fa,fd,ps,h1,h2,h3,h4,h5⟩:=(t.fio f hf x hx).ex;have no:∀vs H Q E,¬spI K (b9 T 0) f ps vs H Q E:=fun vs H Q E ⟨_,a,F,ws,ds,kvs,es,_,_,d,ks',es',h,_⟩=>by cases h
   exact⟨0,fa,fd,ps,h3,h2.kp,h4,⟨fun vs H Q E h=>h.1,fun A outer s H args us vs Q E _ _ _ _ h=>(no _ _ _ _ h).elim⟩,hr.room h9 hc,fun ds r h=>by cases h⟩
 |n+1,h9=>by
  obtain⟨ih,ih2⟩:=j6 t n (by omega);refine⟨fun A hr f hf hc x hx=>?_,fun A hr f hf hc x hx=>?_⟩
  ·obtain⟨fn,st,fa,fd,ps,h1,h2,h3,h4,h5⟩:=(t.fns f hf x hx).ex;have hlen:∀(ex:Str->Prop) ds (k:D->Prop),PO' ex (b9 T (n+1) f ds) k->ds.length=ps.length:=fun ex ds k h=>by
    have hcall:b9 T (n+1) f ds=iA (b9 T n) fn ds:=by show(match T f with|some fn=>(match fn.io with|false=>iA (b9 T n) fn ds|true=>iR (b9 T n) fn ds)|none=>stk)=_;rw[h1];show(match fn.io with|false=>iA (b9 T n) fn ds|true=>iR (b9 T n) fn ds)=_;rw[h5.pl]
    rw[hcall]at h;obtain⟨gd,_⟩:=PO'.grd h;rw[m_ gd,h5.np]
   by_cases hpl:f∈Z.pl
   ·exact⟨1000+n+1,fa,fd,ps,h3,h2.kp,h4,lP t (k:=1000+n) (n:=n) (by omega) (by omega) h1 h2 h5 (.inr (t.plc f hpl fn h1)) ih ih2,hr.roomp h9,hlen⟩
   ·exact⟨n+1,fa,fd,ps,h3,h2.kp,h4,lP t (k:=n) (n:=n) (by omega) (by omega) h1 h2 h5 (.inl (by omega)) ih ih2,hr.room h9 (hc.elim id fun z=>absurd z hpl),hlen⟩
  ·obtain⟨fn,st,fa,fd,ps,h1,h2,h3,h4,h5⟩:=(t.fio f hf x hx).ex;refine⟨n+1,fa,fd,ps,h3,h2.kp,h4,qT t (k:=n) (n:=n) (by omega) (by omega) h1 h2 h5 (by omega) ih ih2,hr.room h9 hc,fun ds r h=>?_⟩;have hcall:b9 T (n+1) f ds=iR (b9 T n) fn ds:=by show(match T f with|some fn=>(match fn.io with|false=>iA (b9 T n) fn ds|true=>iR (b9 T n) fn ds)|none=>stk)=_;rw[h1];show(match fn.io with|false=>iA (b9 T n) fn ds|true=>iR (b9 T n) fn ds)=_;rw[h5.io]
   rw[hcall]at h;obtain⟨gd,_⟩:=nt h;rw[m_ gd,h5.np]
theorem tG (t:TopOk K mg Z T)(n:Nat)(hn:n < 900):∀(A:Η),Rm n A->∀f∈Z.fns,(A.handled=Ξ∨f∈Z.pl)->∀x,Z.name f=Γ x->FnC P w K mg base (CX1 P w) A (b9 T n) (xp1 K) f x:=(j6 t n hn).1
end
section
variable {P:Β}{w:Α}{K:Frag}{mg:Str->Option Φ}{base:Heap}{Z:Sg}{T:Tb}
theorem CVk.fn {mg:Str->Option Φ}{x:Str}{v v':V}(h:CVk mg x v)(h':CVk mg x v'):v=v':=by
 rcases h with⟨C,rfl,h1⟩|⟨T,rfl,h1,h2⟩<;>rcases h' with⟨C',rfl,k1⟩|⟨T',rfl,k1,k2⟩
 ·rw[h1]at k1;cases k1;rfl
 ·rw[h1]at k1;cases k1
 ·rw[h1]at k1;cases k1
 ·rw[h2]at k2;cases k2;rfl
def spL (K:Frag)(cl:Nat->List D->Res D)(f:Nat)(ps:List Str):Sp:=fun vs H Q E=>vs.length=ps.length/\∃F ds,FOk F H/\HReps K F H vs ds/\
 PO' nox (cl f (ers ds)) fun d=>∀v H' F' fv,Out K F H F' H' v d fv->Q v H'
theorem qU {cl:Nat->List D->Res D}{k f:Nat}{fa:Ψ}{fd:Ν}{ps:List Str}(F:FnOk P w K mg base (CX1 P w) k fa fd ps (spF K cl (xp1 K) f ps)):FnOk P w K mg base (CX1 P w) k fa fd ps (spL K cl f ps):=by
 refine⟨fun vs H Q E h=>h.1,fun A outer s H args us vs Q E hr e0 bd r hsp=>?_⟩;obtain⟨hl,Fc,ds,fok,m,q⟩:=hsp;have e1:Env0 P w K mg base A outer s (fu s.heap H):=⟨e0.frames,e0.mod,fun b o e=>⟨(e0.bs b o e).1,gq (e0.bs b o e).2⟩,e0.bsz,e0.funs,fun b hb=>gq (e0.frf b hb),qw e0.hok,e0.bare⟩
 have hq:PO' (xp1 K E (fu s.heap H)) (cl f (ers ds)) fun d=>∀v H' F' fv,Out K Fc H F' H' v d fv->Q v H':=by
  cases z:cl f (ers ds) with
  |ok d=>rw[z]at q;exact q
  |error er=>
   rw[z]at q;cases er with
   |stuck=>exact q.no.elim
   |exc c=>exact False.elim q
 have hs:spF K cl (xp1 K) f ps vs (fu s.heap H) (fun v H'=>Pers s.heap (fu s.heap H) H'->Q v (iB H H')) E:=
  ⟨hl,nv _ _,_,ds,fun a h=>h.2,lI e0.hok m,hq.mono fun d hd v H' F' fv o p=>hd v _ _ fv (lJ e0.hok fok p o)⟩
 refine codeAny_mono (F.run A outer s (fu s.heap H) args us vs _ E hr e1 bd r hs) fun r' s' hq=>?_;cases r' with
 |error e=>exact lO e0.hok e0.frf hq
 |ok fl=>
  cases fl with
  |ret u=>obtain⟨v,H',a1,a2,a3,a4,a5,a6⟩:=hq;exact⟨v,iB H H',a1,a2,lG e0.hok a3,lF e0.hok a4 (g5 a3) (fs:=frs outer) (fun b o _ e n f=>a3.keep b o e n f (by simp)) e0.frf,a5,a6 (g5 a3)⟩
  |next=>exact hq
  |brk=>exact hq
  |cont=>exact hq
theorem wb (t:TopOk K mg Z T)(n:Nat)(hn:n < 900){f:Nat}{fn:Fn}{x:Str}{st:Stmt}{fa:Ψ}{fd:Ν}{ps:List Str}(h1:T f=Γ fn)(h2:Fun K x x st fa fd)(h5:DefSc Z fn ps st):FnOk P w K mg base (CX1 P w) (n+1) fa fd ps (spL K (b9 T (n+1)) f ps):=
 qU (lP t (k:=n) (n:=n) (by omega) hn h1 h2 h5 (.inl (by omega)) (tG t n hn) (j6 t n hn).2)
theorem wc {f n:Nat}{x:Str}{a:Ψ}{H:Hp}{ns:List Int}(hS:Ls K H a (ns.map V.int))(hl:b9 T n f [.lst Θ (ns.map .int)]=.ok (.bl Δ)) :
  spL K (b9 T n) f [x] [.ref a] H (fun v _=>v=.bl Δ) fun _ _ _=>False:=by
 have m:HReps K (fun a=>H a≠Ξ) H [.ref a] [.lst Θ (ns.map .int)]:=by
  refine .cons ?_ .nil;rcases hS with hS|hS
  ·exact .lst hS.some hS (HReps.ofInts ns)
  ·exact .lstK hS (HReps.ofInts ns)
 refine⟨rfl,fun a=>H a≠Ξ,[.lst Θ (ns.map .int)],fun a h=>h,m,?_⟩;have he:ers [.lst Θ (ns.map .int)]=[D.lst Θ (ns.map .int)]:=by rw[ers,ers,er,ij,Ah];rfl
 rw[he,hl];intro v H' F' fv o;cases o.rep;rfl
theorem qV {l:PySem.W.OpenLaw}{q:Β}{loose:List Str}{XP:(Str->Option Φ)->Heap->Prop}{YP:Α->Heap->Prop}{d:DefRec}{K:Params->Frag}{T:Tb}{n f:Nat}{x:Str}(hn:l.most=Γ 63)(hdf:d.params.defaults=[])(hr:Room (n+1) callerA)
  (hY:∀(w:Α) (h:Heap),YP w h->(K w.params).In h)
  (F:∀(w:Α) (mg:Str->Option Φ) (fa:Ψ) (h:Heap),(K w.params).In h->h.Ns Ζ mg->mg d.name=Γ (.ref fa)->
   ∃fd:Ν,(∀(s:Ω) (u:Φ),BindsTo s fd ⟨[u],[]⟩ [(x,u)])/\∀base:Heap,(K w.params).In base->base.Ns Ζ mg->FnOk l.prog w (K w.params) mg base (CX1 l.prog w) (n+1) fa fd [x] (spL (K w.params) (b9 T (n+1)) f [x]))
  (hl:∀ns:List Int,ns.length<=63->b9 T (n+1) f [.lst Θ (ns.map .int)]=.ok (.bl Δ)) :
  PySem.W.WalkO q loose XP YP l.row.toRowW d [] (fun f vs=>PySem.call f vs):=
 L2.sD (n:=63) (k:=n+1) (x:=x) (CX:=fun w=>CX1 l.prog w) (sp:=fun w=>spL (K w.params) (b9 T (n+1)) f [x]) hn (by decide) hdf hr hY F (fun w H a ns h1 _ hS=>wc hS (hl ns h1)) fun _ _ _ _ _ z=>nK z
end
namespace Ev
section
variable {α β:Type}{cl:Nat->List D->Res D}{τ:Ev}{mv:Bool}
theorem cb {a:α}{f:α->Res β}:bnd (.ok a) f=f a:=rfl
theorem cn {x:Res α}:grd Δ x=x:=rfl
theorem r_c {d:D}:evR cl (.c d) τ=.ok d:=rfl
theorem r_g {n:Nat}{d:D}:evR cl (.g n d) τ=.ok d:=rfl
theorem r_v {i:Nat}:evR cl (.v i) τ=(match eZ τ i with|some d=>.ok d|none=>stk):=rfl
noncomputable def yi (cl:Nat->List D->Res D)(op:BOp)(b:IR)(τ:Ev)(x:D):Res D:=bnd (evR cl b τ) (opB op x)
theorem aW {op:BOp}{b:IR}{x:D}:yi cl op b τ x=bnd (evR cl b τ) (opB op x):=rfl
theorem cp {op:BOp}{a b:IR}:evR cl (.bin op a b) τ=bnd (evR cl a τ) (yi cl op b τ):=rfl
noncomputable def blK (r:Bool):Res D:=.ok (.bl r)
theorem cq {r:Bool}:blK r=.ok (.bl r):=rfl
noncomputable def mQ (op:COp)(x y:D):Res D:=bnd (opC op x y) blK
theorem av {op:COp}{x y:D}:mQ op x y=bnd (opC op x y) blK:=rfl
noncomputable def yj (cl:Nat->List D->Res D)(op:COp)(b:IR)(τ:Ev)(x:D):Res D:=bnd (evR cl b τ) (mQ op x)
theorem aX {op:COp}{b:IR}{x:D}:yj cl op b τ x=bnd (evR cl b τ) (mQ op x):=rfl
theorem cu {op:COp}{a b:IR}:evR cl (.cmp op a b) τ=bnd (evR cl a τ) (yj cl op b τ):=rfl
noncomputable def wd (cl:Nat->List D->Res D)(op':COp)(c:IR)(τ:Ev)(y:D)(r:Bool):Res D:=if r=Δ then bnd (evR cl c τ) (mQ op' y) else .ok (.bl Θ)
theorem aY {op':COp}{c:IR}{y:D}{r:Bool}:wd cl op' c τ y r=if r=Δ then bnd (evR cl c τ) (mQ op' y) else .ok (.bl Θ):=rfl
noncomputable def we (cl:Nat->List D->Res D)(op op':COp)(c:IR)(τ:Ev)(x y:D):Res D:=bnd (opC op x y) (wd cl op' c τ y)
theorem aZ {op op':COp}{c:IR}{x y:D}:we cl op op' c τ x y=bnd (opC op x y) (wd cl op' c τ y):=rfl
noncomputable def chK (cl:Nat->List D->Res D)(op op':COp)(b c:IR)(τ:Ev)(x:D):Res D:=bnd (evR cl b τ) (we cl op op' c τ x)
theorem cw {op op':COp}{b c:IR}{x:D}:chK cl op op' b c τ x=bnd (evR cl b τ) (we cl op op' c τ x):=rfl
theorem aw {op op':COp}{a b c:IR}:evR cl (.chain op op' a b c) τ=bnd (evR cl a τ) (chK cl op op' b c τ):=rfl
noncomputable def qW (cl:Nat->List D->Res D)(b:IR)(τ:Ev)(x:D)(r:Bool):Res D:=if r=Δ then evR cl b τ else .ok x
theorem ax {b:IR}{x:D}{r:Bool}:qW cl b τ x r=if r=Δ then evR cl b τ else .ok x:=rfl
noncomputable def yk (cl:Nat->List D->Res D)(b:IR)(τ:Ev)(x:D):Res D:=bnd (fB x) (qW cl b τ x)
theorem a7 {b:IR}{x:D}:yk cl b τ x=bnd (fB x) (qW cl b τ x):=rfl
theorem cy {a b:IR}:evR cl (.and_ a b) τ=bnd (evR cl a τ) (yk cl b τ):=rfl
noncomputable def wg (cl:Nat->List D->Res D)(b:IR)(τ:Ev)(x:D)(r:Bool):Res D:=if r=Δ then .ok x else evR cl b τ
theorem a8 {b:IR}{x:D}{r:Bool}:wg cl b τ x r=if r=Δ then .ok x else evR cl b τ:=rfl
noncomputable def orK (cl:Nat->List D->Res D)(b:IR)(τ:Ev)(x:D):Res D:=bnd (fB x) (wg cl b τ x)
theorem cz {b:IR}{x:D}:orK cl b τ x=bnd (fB x) (wg cl b τ x):=rfl
theorem dG {a b:IR}:evR cl (.or_ a b) τ=bnd (evR cl a τ) (orK cl b τ):=rfl
noncomputable def qX (r:Bool):Res D:=.ok (.bl !r)
theorem ay {r:Bool}:qX r=.ok (.bl !r):=rfl
noncomputable def yl (x:D):Res D:=bnd (fB x) qX
theorem a9 {x:D}:yl x=bnd (fB x) qX:=rfl
theorem cA {a:IR}:evR cl (.not_ a) τ=bnd (evR cl a τ) yl:=rfl
noncomputable def tupK (ds:List D):Res D:=grd (fL ds.length) (.ok (.tup ds))
theorem bc {ds:List D}:tupK ds=grd (fL ds.length) (.ok (.tup ds)):=rfl
theorem cB {es:List IR}:evR cl (.tup es) τ=bnd (fq cl es τ) tupK:=rfl
noncomputable def lstK (ds:List D):Res D:=grd (fL ds.length) (.ok (.lst Δ ds))
theorem bf {ds:List D}:lstK ds=grd (fL ds.length) (.ok (.lst Δ ds)):=rfl
theorem cC {es:List IR}:evR cl (.lst es) τ=bnd (fq cl es τ) lstK:=rfl
noncomputable def ym (cl:Nat->List D->Res D)(i:IR)(τ:Ev)(x:D):Res D:=bnd (evR cl i τ) (fO x)
theorem bg {i:IR}{x:D}:ym cl i τ x=bnd (evR cl i τ) (fO x):=rfl
theorem cD {a i:IR}:evR cl (.idx a i) τ=bnd (evR cl a τ) (ym cl i τ):=rfl
noncomputable def wj (cl:Nat->List D->Res D)(hi:Option IR)(τ:Ev)(x:D)(l:Option Int):Res D:=bnd (lp cl hi τ) (km x l)
theorem bh {hi:Option IR}{x:D}{l:Option Int}:wj cl hi τ x l=bnd (lp cl hi τ) (km x l):=rfl
noncomputable def slK (cl:Nat->List D->Res D)(lo hi:Option IR)(τ:Ev)(x:D):Res D:=bnd (lp cl lo τ) (wj cl hi τ x)
theorem cE {lo hi:Option IR}{x:D}:slK cl lo hi τ x=bnd (lp cl lo τ) (wj cl hi τ x):=rfl
theorem dH {a:IR}{lo hi:Option IR}:evR cl (.sl a lo hi) τ=bnd (evR cl a τ) (slK cl lo hi τ):=rfl
noncomputable def uC (cl:Nat->List D->Res D)(f:Nat)(ds:List D):Res D:=cl f (ers ds)
theorem az {f:Nat}{ds:List D}:uC cl f ds=cl f (ers ds):=rfl
theorem bj {f:Nat}{es:List IR}:evR cl (.call f es) τ=bnd (fq cl es τ) (uC cl f):=rfl
theorem dI {f:Bi}{es:List IR}:evR cl (.bi f es) τ=bnd (fq cl es τ) (gx f):=rfl
noncomputable def yn (k:Kd)(x:D):Res D:=grd (ll x) (.ok (.bl (iO k x)))
theorem bo {k:Kd}{x:D}:yn k x=grd (ll x) (.ok (.bl (iO k x))):=rfl
theorem dJ {i:Int}:ll (.int i)=Δ:=rfl
theorem dM {x:Str}:ll (.str x)=Δ:=rfl
theorem bp {a:IR}:evR cl (.lrev a) τ=bnd (evR cl a τ) qh:=rfl
theorem dC {o:Bool}{ds:List D}:qh (.lst o ds)=.ok (.lst Δ ds.reverse):=rfl
theorem cF {a:IR}{k:Kd}:evR cl (.isi a k) τ=bnd (evR cl a τ) (yn k):=rfl
noncomputable def yo (cl:Nat->List D->Res D)(m:Mt)(es:List IR)(τ:Ev)(x:D):Res D:=grd (iG x) (bnd (fq cl es τ) (iz m x))
theorem bq {m:Mt}{es:List IR}{x:D}:yo cl m es τ x=grd (iG x) (bnd (fq cl es τ) (iz m x)):=rfl
theorem cG {m:Mt}{o:IR}{es:List IR}:evR cl (.mth m o es) τ=bnd (evR cl o τ) (yo cl m es τ):=rfl
noncomputable def wk (ds:List D):Res D:=.ok (.lst Δ ds)
theorem br {ds:List D}:wk ds=.ok (.lst Δ ds):=rfl
noncomputable def uD (cl:Nat->List D->Res D)(G:Gm)(fr:List Nat)(T:Tg)(I:List IR)(E:IR)(τ:Ev)(its:List D):Res D:=grd (jK its.length) (bnd (fm (fD cl T I E (blk G fr τ)) its) wk)
theorem aA {G:Gm}{fr:List Nat}{T:Tg}{I:List IR}{E:IR}{its:List D}:uD cl G fr T I E τ its=grd (jK its.length) (bnd (fm (fD cl T I E (blk G fr τ)) its) wk):=rfl
theorem bt {G:Gm}{fr:List Nat}{T:Tg}{s:Sr}{I:List IR}{E:IR}:evR cl (.comp G fr T s I E) τ=bnd (iQ cl s τ) (uD cl G fr T I E τ):=rfl
theorem dN:fq cl [] τ=.ok []:=rfl
noncomputable def qY (d:D)(ds:List D):Res (List D):=.ok (d::ds)
theorem aB {d:D}{ds:List D}:qY d ds=.ok (d::ds):=rfl
noncomputable def rsK (cl:Nat->List D->Res D)(es:List IR)(τ:Ev)(d:D):Res (List D):=bnd (fq cl es τ) (qY d)
theorem cH {es:List IR}{d:D}:rsK cl es τ d=bnd (fq cl es τ) (qY d):=rfl
theorem dO {e:IR}{es:List IR}:fq cl (e::es) τ=bnd (evR cl e τ) (rsK cl es τ):=rfl
noncomputable def yp:D->Res (Option Int)
 |.int i=>.ok (Γ i)
 |_=>stk
theorem bu {i:Int}:yp (.int i)=.ok (Γ i):=rfl
theorem dP:lp cl Ξ τ=.ok Ξ:=rfl
theorem dQ {e:IR}:lp cl (Γ e) τ=bnd (evR cl e τ) yp:=rfl
theorem dR:iH cl [] τ=.ok Δ:=rfl
noncomputable def tsK (cl:Nat->List D->Res D)(es:List IR)(τ:Ev)(r:Bool):Res Bool:=if r=Δ then iH cl es τ else .ok Θ
theorem cI {es:List IR}{r:Bool}:tsK cl es τ r=if r=Δ then iH cl es τ else .ok Θ:=rfl
theorem dS {e:IR}{es:List IR}:iH cl (e::es) τ=bnd (bnd (evR cl e τ) fB) (tsK cl es τ):=rfl
noncomputable def uE:D->Res (List D)
 |.int i=>grd (jm i) (.ok (gE 0 i))
 |_=>stk
theorem aC {i:Int}:uE (.int i)=grd (jm i) (.ok (gE 0 i)):=rfl
theorem dU {n:IR}:iQ cl (.rng1 n) τ=bnd (evR cl n τ) uE:=rfl
theorem cJ {e:IR}:iQ cl (.val e) τ=bnd (evR cl e τ) jL:=rfl
theorem dW {o:Bool}{ds:List D}:jL (.lst o ds)=.ok ds:=rfl
theorem dX {x:Str}:jL (.str x)=grd (fL x.length) (.ok (gk x)):=rfl
theorem t_t {t:IR}:evT cl t τ=bnd (evR cl t τ) fB:=rfl
theorem o_v {i:Nat}:evO cl mv (.v i) τ=(match eZ τ i with|some d=>if mv=Δ then .ok (d,τ.set i Ξ) else .ok (er d,τ.set i (Γ (er d)))|none=>stk):=rfl
noncomputable def uF (p:List D×Ev):Res (D×Ev):=grd (fL p.1.length) (.ok (.tup p.1,p.2))
theorem aD {p:List D×Ev}:uF p=grd (fL p.1.length) (.ok (.tup p.1,p.2)):=rfl
theorem o_tup {es:List IR}:evO cl mv (.tup es) τ=bnd (ko cl mv es τ) uF:=rfl
noncomputable def uG (p:List D×Ev):Res (D×Ev):=grd (fL p.1.length) (.ok (.lst Δ p.1,p.2))
theorem aE {p:List D×Ev}:uG p=grd (fL p.1.length) (.ok (.lst Δ p.1,p.2)):=rfl
theorem o_lst {es:List IR}:evO cl mv (.lst es) τ=bnd (ko cl mv es τ) uG:=rfl
noncomputable def uH (cl:Nat->List D->Res D)(mv:Bool)(a b:IR)(τ:Ev)(r:Bool):Res (D×Ev):=if r=Δ then evO cl mv a τ else evO cl mv b τ
theorem aF {a b:IR}{r:Bool}:uH cl mv a b τ r=if r=Δ then evO cl mv a τ else evO cl mv b τ:=rfl
theorem o_ite {t a b:IR}:evO cl mv (.ite t a b) τ=bnd (evT cl t τ) (uH cl mv a b τ):=rfl
noncomputable def lQ (es:List IR)(τ:Ev)(d:D):Res (D×Ev):=if e7 d=Δ then .ok (d,τ) else .ok (d,frz (eW es) τ)
theorem ae {es:List IR}{d:D}:lQ es τ d=if e7 d=Δ then .ok (d,τ) else .ok (d,frz (eW es) τ):=rfl
noncomputable def qZ (cl:Nat->List D->Res D)(f:Nat)(es:List IR)(τ:Ev)(ds:List D):Res (D×Ev):=bnd (cl f (ers ds)) (lQ es τ)
theorem ah {f:Nat}{es:List IR}{ds:List D}:qZ cl f es τ ds=bnd (cl f (ers ds)) (lQ es τ):=rfl
theorem o_call {f:Nat}{es:List IR}:evO cl mv (.call f es) τ=bnd (fq cl es τ) (qZ cl f es τ):=rfl
noncomputable def gS (e:IR)(τ:Ev)(d:D):Res (D×Ev):=.ok (fF e d τ)
theorem aG {e:IR}{d:D}:gS e τ d=.ok (fF e d τ):=rfl
theorem o_c {d:D}:evO cl mv (.c d) τ=bnd (evR cl (.c d) τ) (gS (.c d) τ):=rfl
theorem cK {op:BOp}{a b:IR}:evO cl mv (.bin op a b) τ=bnd (evR cl (.bin op a b) τ) (gS (.bin op a b) τ):=rfl
theorem cL {op:COp}{a b:IR}:evO cl mv (.cmp op a b) τ=bnd (evR cl (.cmp op a b) τ) (gS (.cmp op a b) τ):=rfl
theorem aH {op op':COp}{a b c:IR}:evO cl mv (.chain op op' a b c) τ=bnd (evR cl (.chain op op' a b c) τ) (gS (.chain op op' a b c) τ):=rfl
theorem cM {a b:IR}:evO cl mv (.and_ a b) τ=bnd (evR cl (.and_ a b) τ) (gS (.and_ a b) τ):=rfl
theorem dY {a b:IR}:evO cl mv (.or_ a b) τ=bnd (evR cl (.or_ a b) τ) (gS (.or_ a b) τ):=rfl
theorem cN {a i:IR}:evO cl mv (.idx a i) τ=bnd (evR cl (.idx a i) τ) (gS (.idx a i) τ):=rfl
theorem dZ {a:IR}{lo hi:Option IR}:evO cl mv (.sl a lo hi) τ=bnd (evR cl (.sl a lo hi) τ) (gS (.sl a lo hi) τ):=rfl
theorem d3 {f:Bi}{es:List IR}:evO cl mv (.bi f es) τ=bnd (evR cl (.bi f es) τ) (gS (.bi f es) τ):=rfl
theorem bw {a:IR}:evO cl mv (.lrev a) τ=bnd (evR cl (.lrev a) τ) (gS (.lrev a) τ):=rfl
theorem cO {m:Mt}{o:IR}{es:List IR}:evO cl mv (.mth m o es) τ=bnd (evR cl (.mth m o es) τ) (gS (.mth m o es) τ):=rfl
theorem bx {G:Gm}{fr:List Nat}{T:Tg}{s:Sr}{I:List IR}{E:IR}:evO cl mv (.comp G fr T s I E) τ=bnd (evR cl (.comp G fr T s I E) τ) (gS (.comp G fr T s I E) τ):=rfl
theorem d4:ko cl mv [] τ=.ok ([],τ):=rfl
noncomputable def wm (d:D)(q:List D×Ev):Res (List D×Ev):=.ok (d::q.1,q.2)
theorem bz {d:D}{q:List D×Ev}:wm d q=.ok (d::q.1,q.2):=rfl
noncomputable def osK (cl:Nat->List D->Res D)(mv:Bool)(es:List IR)(p:D×Ev):Res (List D×Ev):=bnd (ko cl mv es p.2) (wm p.1)
theorem cP {es:List IR}{p:D×Ev}:osK cl mv es p=bnd (ko cl mv es p.2) (wm p.1):=rfl
theorem d5 {e:IR}{es:List IR}:ko cl mv (e::es) τ=bnd (evO cl mv e τ) (osK cl mv es):=rfl
noncomputable def smK (d:D):Res (Option D):=.ok (Γ d)
theorem cQ {d:D}:smK d=.ok (Γ d):=rfl
noncomputable def wq (cl:Nat->List D->Res D)(E:IR)(τ:Ev)(r:Bool):Res (Option D):=if r=Δ then bnd (evR cl E τ) smK else .ok Ξ
theorem bA {E:IR}{r:Bool}:wq cl E τ r=if r=Δ then bnd (evR cl E τ) smK else .ok Ξ:=rfl
noncomputable def bdK (cl:Nat->List D->Res D)(I:List IR)(E:IR)(τ:Ev):Res (Option D):=bnd (iH cl I τ) (wq cl E τ)
theorem cR {I:List IR}{E:IR}:bdK cl I E τ=bnd (iH cl I τ) (wq cl E τ):=rfl
theorem aI {T:Tg}{I:List IR}{E:IR}{x:D}:fD cl T I E τ x=bnd (gy T x τ) (bdK cl I E):=rfl
theorem bB {G:Gm}{fr:List Nat}:blk G fr τ=fr.map (eZ τ)++Ρ (G.N.length - fr.length) Ξ:=rfl
theorem k_i {e:IR}{i:Int}:fF e (.int i) τ=(.int i,τ):=rfl
theorem k_s {e:IR}{x:Str}:fF e (.str x) τ=(.str x,τ):=rfl
theorem k_b {e:IR}{b:Bool}:fF e (.bl b) τ=(.bl b,τ):=rfl
theorem k_n {e:IR}:fF e .non τ=(.non,τ):=rfl
noncomputable def nxK (τ':Ev):Res Fl:=.ok (.nx τ')
theorem cS:nxK τ=.ok (.nx τ):=rfl
noncomputable def yq (tg:Tg)(p:D×Ev):Res Fl:=bnd (gy tg p.1 p.2) nxK
theorem bC {tg:Tg}{p:D×Ev}:yq tg p=bnd (gy tg p.1 p.2) nxK:=rfl
theorem st_asg {tg:Tg}{e:IR}:evS cl (.asg tg e) τ=bnd (evO cl Θ e τ) (yq tg):=rfl
noncomputable def yr (i:Nat)(p:D×Ev)(ds:List D):D->Res Fl
 |.int z=>(match ixN ds.length z with
  |some j=>.ok (.nx (p.2.set i (Γ (.lst Δ (ds.set j p.1)))))
  |none=>stk)
 |_=>stk
noncomputable def yt (cl:Nat->List D->Res D)(i:Nat)(k:IR)(p:D×Ev):Option D->Res Fl
 |some (.lst Δ ds)=>bnd (evR cl k p.2) (yr i p ds)
 |_=>stk
noncomputable def wt (cl:Nat->List D->Res D)(i:Nat)(k:IR)(p:D×Ev):Res Fl:=yt cl i k p (eZ p.2 i)
theorem ai {i:Nat}{k:IR}{p:D×Ev}:wt cl i k p=yt cl i k p (eZ p.2 i):=rfl
noncomputable def wu (i:Nat)(p:D×Ev):Option D->Res Fl
 |some (.lst Δ ds)=>grd (jK ds.length) (.ok (.nx (p.2.set i (Γ (.lst Δ (ds++[p.1]))))))
 |_=>stk
noncomputable def wx (i:Nat)(p:D×Ev):Res Fl:=wu i p (eZ p.2 i)
theorem bD {i:Nat}{p:D×Ev}:wx i p=wu i p (eZ p.2 i):=rfl
noncomputable def yu (cl:Nat->List D->Res D)(i:Nat)(e:IR)(τ:Ev):Option D->Res Fl
 |some (.lst _ _)=>bnd (evO cl Θ e τ) (wx i)
 |_=>stk
theorem bE {i:Nat}{e:IR}{o:Bool}{ds:List D}:yu cl i e τ (Γ (.lst o ds))=bnd (evO cl Θ e τ) (wx i):=rfl
theorem bF {i:Nat}{p:D×Ev}{ds:List D}:wu i p (Γ (.lst Δ ds))=grd (jK ds.length) (.ok (.nx (p.2.set i (Γ (.lst Δ (ds++[p.1])))))):=rfl
theorem st_app {i:Nat}{e:IR}:evS cl (.app i e) τ=yu cl i e τ (eZ τ i):=rfl
noncomputable def rtK (p:D×Ev):Res Fl:=.ok (.rt p.1)
theorem cT {p:D×Ev}:rtK p=.ok (.rt p.1):=rfl
theorem st_ret {e:IR}:evS cl (.ret e) τ=bnd (evO cl Δ e τ) rtK:=rfl
noncomputable def ifK (cl:Nat->List D->Res D)(a b:List IS)(τ:Ev)(r:Bool):Res Fl:=if r=Δ then fH cl a τ else fH cl b τ
theorem cU {a b:List IS}{r:Bool}:ifK cl a b τ r=if r=Δ then fH cl a τ else fH cl b τ:=rfl
theorem bG {n:Nat}{c w:Str}:evS cl (.raise_ n c w) τ=.error (.exc c):=rfl
noncomputable def yv (c:Str)(d:D):Res Fl:=.error (.exc c)
theorem bH {c:Str}{d:D}:yv c d=.error (.exc c):=rfl
theorem aJ {n:Nat}{c:Str}{e:IR}:evS cl (.raisee n c e) τ=bnd (noX (evR cl e τ)) (yv c):=rfl
noncomputable def ra (k:Nat):Fl->Res Fl
 |.nx τ'=>.ok (.nx (τ'.set k Ξ))
 |_=>stk
theorem aK {k:Nat}:ra k (.nx τ)=.ok (.nx (τ.set k Ξ)):=rfl
noncomputable def ox (cl:Nat->List D->Res D)(i:Nat)(es:List IR)(cs:List Str)(k:Nat)(h:List IS)(τ:Ev):Res D->Res Fl
 |.ok d=>if e7 d=Δ then .ok (.nx (τ.set i (Γ d))) else .ok (.nx ((frz (eW es) τ).set i (Γ d)))
 |.error (.exc c)=>grd (cs.contains c) (bnd (noX (fH cl h (τ.set k (Γ (.exc c))))) (ra k))
 |.error .stuck=>stk
noncomputable def uI (cl:Nat->List D->Res D)(i f:Nat)(es:List IR)(cs:List Str)(k:Nat)(h:List IS)(τ:Ev)(ds:List D):Res Fl:=ox cl i es cs k h τ (cl f (ers ds))
theorem aL {i f:Nat}{es:List IR}{cs:List Str}{k:Nat}{h:List IS}{ds:List D}:uI cl i f es cs k h τ ds=ox cl i es cs k h τ (cl f (ers ds)):=rfl
theorem aj {i:Nat}{es:List IR}{cs:List Str}{k:Nat}{h:List IS}{d:D}:ox cl i es cs k h τ (.ok d)=if e7 d=Δ then .ok (.nx (τ.set i (Γ d))) else .ok (.nx ((frz (eW es) τ).set i (Γ d))):=rfl
theorem aM {i:Nat}{es:List IR}{cs:List Str}{k:Nat}{h:List IS}{c:Str}:ox cl i es cs k h τ (.error (.exc c))=grd (cs.contains c) (bnd (noX (fH cl h (τ.set k (Γ (.exc c))))) (ra k)):=rfl
theorem st_tryc {i f:Nat}{es:List IR}{n:Nat}{cs:List Str}{k:Nat}{h:List IS}:evS cl (.tryc i f es n cs k h) τ=bnd (noX (fq cl es τ)) (uI cl i f es cs k h τ):=by show bnd (noX (fq cl es τ)) _=bnd (noX (fq cl es τ)) _;congr 1
noncomputable def oz (cs:List Str)(τ:Ev):Res D->Res Fl
 |.ok d=>grd (e7 d) (.ok (.nx τ))
 |.error (.exc c)=>grd (cs.contains c) (.error (.exc fG))
 |.error .stuck=>stk
noncomputable def uJ (cl:Nat->List D->Res D)(f:Nat)(cs:List Str)(τ:Ev)(ds:List D):Res Fl:=oz cs τ (cl f (ers ds))
theorem aN {f:Nat}{cs:List Str}{ds:List D}:uJ cl f cs τ ds=oz cs τ (cl f (ers ds)):=rfl
theorem ak {cs:List Str}{d:D}:oz cs τ (.ok d)=grd (e7 d) (.ok (.nx τ)):=rfl
theorem aO {cs:List Str}{c:Str}:oz cs τ (.error (.exc c))=grd (cs.contains c) (.error (.exc fG)):=rfl
theorem st_tryr {f:Nat}{es:List IR}{n1 n2:Nat}{cs:List Str}{n:Nat}:evS cl (.tryr f es n1 n2 cs n) τ=bnd (noX (fq cl es τ)) (uJ cl f cs τ):=by show bnd (noX (fq cl es τ)) _=bnd (noX (fq cl es τ)) _;congr 1
theorem cV {x:Str}{a:IR}{y:Option Str}:evR cl (.ftr x a y) τ=bnd (evR cl a τ) (qi x y):=rfl
theorem cf {x:Str}{y:Option Str}{z:Str}:qi x y (.str z)=grd (fL (x.length+(reprText z).length+(y.getD Str.empty).length)) (.ok (.str (x++reprText z++y.getD Str.empty))):=rfl
theorem cW {α β:Type}{c:Str}{f:α->Res β}:bnd (.error (.exc c)) f=.error (.exc c):=rfl
theorem d6 {c:Str}:er (.exc c)=.exc c:=rfl
theorem st_if {t:IR}{a b:List IS}:evS cl (.if_ t a b) τ=bnd (evT cl t τ) (ifK cl a b τ):=rfl
noncomputable def turn (cl:Nat->List D->Res D)(tg:Tg)(body:List IS)(x:D)(τ:Ev):Res Fl:=bnd (gy tg x τ) (fH cl body)
theorem i4 {tg:Tg}{body:List IS}{x:D}:turn cl tg body x τ=bnd (gy tg x τ) (fH cl body):=rfl
noncomputable def yy (cl:Nat->List D->Res D)(tg:Tg)(body:List IS)(p:List D×Ev):Res Fl:=forM (turn cl tg body) p.1 p.2
theorem bI {tg:Tg}{body:List IS}{p:List D×Ev}:yy cl tg body p=forM (turn cl tg body) p.1 p.2:=rfl
theorem st_for {tg:Tg}{s:Sr}{body:List IS}:evS cl (.for_ tg s body) τ=bnd (nq cl s τ) (yy cl tg body):=rfl
noncomputable def wy (f:Ev->Res Fl):Fl->Res Fl
 |.nx τ'=>f τ'
 |.ct τ'=>.ok (.ct τ')
 |.bk τ'=>.ok (.bk τ')
 |.rt d=>.ok (.rt d)
 |.ri d ks vs=>.ok (.ri d ks vs)
theorem d7:fH cl [] τ=.ok (.nx τ):=rfl
theorem d8 {s:IS}{r:List IS}:fH cl (s::r) τ=bnd (evS cl s τ) (wy (fH cl r)):=rfl
theorem cX {f:Ev->Res Fl}:wy f (.nx τ)=f τ:=rfl
theorem cY {f:Ev->Res Fl}{d:D}:wy f (.rt d)=.ok (.rt d):=rfl
noncomputable def yz (τ:Ev)(its:List D):Res (List D×Ev):=.ok (its,τ)
theorem bJ {its:List D}:yz τ its=.ok (its,τ):=rfl
noncomputable def uK (e:IR)(τ:Ev)(its:List D):Res (List D×Ev):=.ok (ers its,frz (vars e) τ)
theorem aP {e:IR}{its:List D}:uK e τ its=.ok (ers its,frz (vars e) τ):=rfl
theorem cZ {n:IR}:nq cl (.rng1 n) τ=bnd (iQ cl (.rng1 n) τ) (yz τ):=rfl
theorem c0 {e:IR}:nq cl (.val e) τ=bnd (iQ cl (.val e) τ) (uK e τ):=rfl
noncomputable def yB (body:D->Ev->Res Fl)(xs:List D):Fl->Res Fl
 |.nx τ'=>forM body xs τ'
 |.ct τ'=>forM body xs τ'
 |.bk τ'=>.ok (.nx τ')
 |.rt d=>.ok (.rt d)
 |.ri d ks vs=>.ok (.ri d ks vs)
theorem yC {body:D->Ev->Res Fl}{x:D}{xs:List D}:forM body (x::xs) τ=bnd (body x τ) (yB body xs):=rfl
theorem yD {body:D->Ev->Res Fl}{xs:List D}:yB body xs (.nx τ)=forM body xs τ:=rfl
theorem ed {i:Nat}{d:D}:gy (.nm i) d τ=.ok (τ.set i (Γ d)):=rfl
theorem c4 {o p:Option D}:(o::τ).set 0 p=p::τ:=rfl
theorem c5 {o p:Option D}{i:Nat}:(o::τ).set (i+1) p=o::τ.set i p:=rfl
theorem c6 {a b:Int}:opB .add (.int a) (.int b)=.ok (.int (a+b)):=rfl
theorem aU {a b:Str}:opB .add (.str a) (.str b)=grd (fL (a.length+b.length)) (.ok (.str (a++b))):=rfl
theorem bK {o o':Bool}{a b:List D}:opB .add (.lst o a) (.lst o' b)=grd (fL (a.length+b.length)) (.ok (.lst Δ (a++b))):=rfl
theorem c7 {a b:Int}:opB .sub (.int a) (.int b)=.ok (.int (a - b)):=rfl
theorem uL {a b:Int}:opB .mul (.int a) (.int b)=grd (decide (-(2 ^ 64) < a/\a < 2 ^ 64)||decide (-(2 ^ 64) < b/\b < 2 ^ 64)) (.ok (.int (a*b))):=rfl
theorem wz {a b:Int}:opB .fdiv (.int a) (.int b)=grd (decide (0 < b/\b < 1073741824)) (.ok (.int (a / b))):=rfl
theorem yE {a b:Int}:opB .mod (.int a) (.int b)=grd (decide (0 < b)) (.ok (.int (a % b))):=rfl
theorem x_l {o:Bool}{ds:List D}{i:Int}:fO (.lst o ds) (.int i)=(match atI ds i with|some d=>.ok d|none=>stk):=rfl
theorem x_s {z:Str}{i:Int}:fO (.str z) (.int i)=grd (fL z.length) (match atI z.cps.toList i with|some c=>.ok (.str ⟨#[c]⟩)|none=>stk):=rfl
theorem eh {o:Bool}{ds:List D}{lo hi:Option Int}:km (.lst o ds) lo hi=.ok (.lst Δ (fR ds lo hi)):=rfl
theorem sl_t {z:Str}{lo hi:Option Int}:km (.str z) lo hi=grd (fL z.length) (.ok (.str (Txt.slice z lo hi))):=rfl
theorem ek {b:Bool}:fB (.bl b)=.ok b:=rfl
theorem yF {a b:D}:opC .eq a b=eqN 40 a b:=by cases a<;>cases b<;>rfl
noncomputable def tH (r:Bool):Res Bool:=.ok !r
theorem bL {r:Bool}:tH r=.ok !r:=rfl
theorem yG {a b:D}:opC .ne a b=bnd (eqN 40 a b) tH:=by cases a<;>cases b<;>rfl
theorem dD {n:Nat}{a b:Int}:eqN (n+1) (.int a) (.int b)=.ok (a == b):=rfl
theorem dB {n:Nat}{a b:Str}:eqN (n+1) (.str a) (.str b)=.ok (a == b):=rfl
theorem eo {n:Nat}{a b:List D}:eqN (n+1) (.tup a) (.tup b)=gh (eqN n) a b:=rfl
theorem eA {n:Nat}{o o':Bool}{a b:List D}:eqN (n+1) (.lst o a) (.lst o' b)=gh (eqN n) a b:=rfl
theorem eB {f:D->D->Res Bool}:gh f [] []=.ok Δ:=rfl
noncomputable def wA (x y:Bool):Res Bool:=.ok (x&&y)
theorem bM {x y:Bool}:wA x y=.ok (x&&y):=rfl
noncomputable def esK (f:D->D->Res Bool)(r s:List D)(x:Bool):Res Bool:=bnd (gh f r s) (wA x)
theorem cg {f:D->D->Res Bool}{r s:List D}{x:Bool}:esK f r s x=bnd (gh f r s) (wA x):=rfl
theorem dE {f:D->D->Res Bool}{a b:D}{r s:List D}:gh f (a::r) (b::s)=bnd (f a b) (esK f r s):=rfl
theorem eC {a b:Int}:opC .lt (.int a) (.int b)=.ok (decide (a < b)):=rfl
theorem eD {a b:Int}:opC .le (.int a) (.int b)=.ok (decide (a<=b)):=rfl
theorem eE {a b:Int}:opC .gt (.int a) (.int b)=.ok (decide (b < a)):=rfl
theorem c8 {y x:Str}:opC .in_ (.str y) (.str x)=.ok (ml x y):=rfl
theorem bN {y x:Str}:opC .nin (.str y) (.str x)=.ok (!ml x y):=rfl
theorem rb {a:D}{o:Bool}{ds:List D}:opC .nin a (.lst o ds)=bnd (anyN a ds) tH:=by cases a<;>rfl
theorem yI {a:D}:opC .is_ a .non=.ok (jk a):=by cases a<;>rfl
theorem n_n:jk .non=Δ:=rfl
theorem n_i {i:Int}:jk (.int i)=Θ:=rfl
theorem n_s {i:Str}:jk (.str i)=Θ:=rfl
theorem n_t {ds:List D}:jk (.tup ds)=Θ:=rfl
theorem uM {a:D}{ds:List D}:opC .in_ a (.tup ds)=anyN a ds:=by cases a<;>rfl
theorem rf {a:D}{ds:List D}:opC .nin a (.tup ds)=bnd (anyN a ds) tH:=by cases a<;>rfl
theorem eF {d:D}:anyN d []=.ok Θ:=rfl
noncomputable def wB (x y:Bool):Res Bool:=.ok (x||y)
theorem bO {x y:Bool}:wB x y=.ok (x||y):=rfl
noncomputable def anK (d:D)(r:List D)(x:Bool):Res Bool:=bnd (anyN d r) (wB x)
theorem cj {d:D}{r:List D}{x:Bool}:anK d r x=bnd (anyN d r) (wB x):=rfl
theorem dF {d e:D}{r:List D}:anyN d (e::r)=bnd (eqN 40 e d) (anK d r):=rfl
theorem c9 {x:Str}:gx .len [.str x]=grd (fL x.length) (.ok (.int x.length)):=rfl
theorem dg {o:Bool}{ds:List D}:gx .len [.lst o ds]=.ok (.int ds.length):=rfl
theorem aQ {b:Bool}:gx .int [.bl b]=.ok (.int (if b then 1 else 0)):=rfl
theorem rg (ns:List Str):gM (ns.map .str)=Γ ns:=by
 induction ns with
 |nil=>rfl
 |cons n ns ih=>show(gM (ns.map .str)).map (n::·)=_;rw[ih];rfl
theorem tI (ns:List Bool):iD (ns.map .bl)=Γ ns:=by
 induction ns with
 |nil=>rfl
 |cons n ns ih=>show(iD (ns.map .bl)).map (n::·)=_;rw[ih];rfl
theorem aV {i:Int}:gx .str [.int i]=grd (decide (i.natAbs.log2 < 1920)) (.ok (.str (toString i))):=rfl
theorem aR {x:Str}:gx .str [.str x]=.ok (.str x):=rfl
theorem au {x:Str}:gx .int [.str x]=(match PySem.intText? x with|some n=>grd (decide (x.length<=640)) (.ok (.int n))|none=>stk):=rfl
theorem bP {i:Int}:gx .abs [.int i]=.ok (.int (if i < 0 then -i else i)):=rfl
theorem jh {o:Bool}{bs:List Bool}:gx .all [.lst o (bs.map .bl)]=.ok (.bl (bs.all id)):=by
 show(match iD (bs.map .bl) with|some bs=>.ok (.bl (bs.all id))|none=>stk)=(_:Res D)
 rw[tI]
theorem oA {x:Str}{o:Bool}{ys:List Str}(h:(ys.map (·.length)).sum+ys.length*x.length<=16777216):iz .join (.str x) [.lst o (ys.map .str)]=.ok (.str (Txt.join x ys)):=by
 show(match gM (ys.map .str) with|some ys=>grd (decide ((ys.map (fun y:Str=>y.length)).sum+ys.length*x.length<=16777216)) (.ok (.str (Txt.join x ys)))|none=>stk)=(_:Res D)
 rw[rg];show grd (decide _) _=_;rw[l_ h];rfl
theorem ao {x y:Str}:iz .split (.str x) [.str y]=grd (decide (y.length≠0/\x.length+2<=Ε)) (.ok (.lst Δ ((Txt.split x y).map .str))):=rfl
theorem af {x y:Str}:iz .starts (.str x) [.str y]=.ok (.bl (Txt.startswith x y)):=rfl
theorem dh {x:Str}:iG (.str x)=Δ:=rfl
theorem bQ {x:Str}:iO .str (.str x)=Δ:=rfl
theorem bR {x:Int}:iO .int (.int x)=Δ:=rfl
theorem bS {x:Int}:iO .bool (.int x)=Θ:=rfl
theorem aq {i:Int}:iO .str (.int i)=Θ:=rfl
theorem ar {x:Str}:iO .int (.str x)=Θ:=rfl
theorem ag {x:Str}:iO .bool (.str x)=Θ:=rfl
theorem zF (ns:List Int):eS (ns.map .int)=Δ:=by rw[gw,List.all_map,zY];intro x _;rfl
theorem fQ (ns:List Str):eS (ns.map .str)=Δ:=by rw[gw,List.all_map,zY];intro x _;rfl
theorem eG {i:Int}:er (.int i)=.int i:=by rw[er]
theorem eI {i:Str}:er (.str i)=.str i:=by rw[er]
theorem eJ {ds:List D}:er (.tup ds)=.tup (ers ds):=by rw[er]
theorem eK {o:Bool}{ds:List D}:er (.lst o ds)=.lst Θ (ers ds):=by rw[er]
theorem di:ers []=[]:=by rw[ers]
theorem dj {d:D}{ds:List D}:ers (d::ds)=er d::ers ds:=by rw[ers]
theorem lR (ns:List Int):ers (ns.map .int)=ns.map .int:=fY (zF ns)
theorem fZ (ns:List Str):ers (ns.map .str)=ns.map .str:=fY (fQ ns)
theorem dm {i:Int}:e7 (.int i)=Δ:=rfl
theorem dn {i:Str}:e7 (.str i)=Δ:=rfl
theorem dq {i:Bool}:e7 (.bl i)=Δ:=rfl
theorem dr:e7 .non=Δ:=rfl
theorem dt {ds:List D}:e7 (.tup ds)=eS ds:=rfl
theorem du {o:Bool}{ds:List D}:e7 (.lst o ds)=Θ:=rfl
theorem bT:eS []=Δ:=rfl
theorem bU {d:D}{ds:List D}:eS (d::ds)=(e7 d&&eS ds):=rfl
noncomputable def tJ:Fl->Res D
 |.nx _=>.ok .non
 |.rt d=>.ok d
 |_=>stk
theorem run {fn:Fn}{ds:List D}(h:ds.length=fn.np):iA cl fn ds=bnd (fH cl fn.body (ds.map Γ++Ρ (fn.G.N.length - fn.np) Ξ)) tJ:=by unfold iA;rw[l_ h];rfl
theorem bV {d:D}:tJ (.rt d)=.ok d:=rfl
theorem call {T:Tb}{n f:Nat}{fn:Fn}{ds:List D}(h:T f=Γ fn)(h0:fn.io=Θ):b9 T (n+1) f ds=iA (b9 T n) fn ds:=by show(match T f with|some fn=>(match fn.io with|false=>iA (b9 T n) fn ds|true=>iR (b9 T n) fn ds)|none=>stk)=_;rw[h];show(match fn.io with|false=>iA (b9 T n) fn ds|true=>iR (b9 T n) fn ds)=_;rw[h0]
theorem go {T:Tb}{n f:Nat}{fn:Fn}{ds:List D}{m k:Nat}{body:List IS}(h:T f=Γ fn)(h0:fn.io=Θ)(h1:fn.np=m)(h2:fn.G.N.length=k)(h3:fn.body=body)(hl:ds.length=m) :
  b9 T (n+1) f ds=bnd (fH (b9 T n) body (ds.map Γ++Ρ (k - m) Ξ)) tJ:=by
 rw[call h h0,run (by rw[hl,h1]),h1,h2,h3]
end
end Ev
namespace Ev
section
variable {cl:Nat->List D->Res D}{τ:Ev}
theorem line:Ε=16777216:=sizeLine_eq
theorem rh {a b:Int}(h1 : -18446744073709551616 < a)(h2:a < 18446744073709551616):opB .mul (.int a) (.int b)=.ok (.int (a*b)):=by rw[uL,l_ (show -(2 ^ 64) < a/\a < 2 ^ 64 from⟨by omega,by omega⟩)];rfl
theorem rj {a b:Int}(h1 : -18446744073709551616 < b)(h2:b < 18446744073709551616):opB .mul (.int a) (.int b)=.ok (.int (a*b)):=by rw[uL,l_ (show -(2 ^ 64) < b/\b < 2 ^ 64 from⟨by omega,by omega⟩),Bool.or_true];rfl
theorem rl {a b:Int}(h1:0 < b)(h2:b < 1073741824):opB .fdiv (.int a) (.int b)=.ok (.int (a / b)):=by rw[wz,l_ ⟨h1,h2⟩];rfl
theorem uN {a b:Int}(h1:0 < b):opB .mod (.int a) (.int b)=.ok (.int (a % b)):=by rw[yE,l_ h1];rfl
theorem gN {n:Nat}(h:n<=16777216):fL n=Δ:=l_ (by rw[line];exact h)
theorem rn {n:Nat}(h:n < 16777216):jK n=Δ:=l_ (by rw[line];exact h)
theorem oB {i:Int}(h1 : -4611686018427387904<=i)(h2:i < 4611686018427387904):jm i=Δ:=l_ ⟨by omega,by omega⟩
theorem oE {α β:Type}(f:α->β)(xs:List α)(i:Int):atI (xs.map f) i=(atI xs i).map f:=by
 unfold atI;rw[h_];cases ixN xs.length i with
 |none=>rfl
 |some j=>exact Ac ..
theorem hU {α:Type}{xs:List α}{i:Int}(d:α)(h0:0<=i)(h1:i < xs.length):atI xs i=Γ (xs.getD i.toNat d):=by
 unfold atI ixN;rw[d_ h0,d_ h1];show xs[i.toNat]? = _;have:i.toNat < xs.length:=by omega
 rw[Ap,Aw this];rfl
theorem x_i {o:Bool}{xs:List Int}{i:Int}(h0:0<=i)(h1:i < xs.length):fO (.lst o (xs.map .int)) (.int i)=.ok (.int (xs.getD i.toNat 0)):=by rw[x_l,oE,hU 0 h0 h1];rfl
theorem rp {o:Bool}{xs:List Str}{i:Int}(h0:0<=i)(h1:i < xs.length):fO (.lst o (xs.map .str)) (.int i)=.ok (.str (xs.getD i.toNat ⟨#[]⟩)):=by rw[x_l,oE,hU ⟨#[]⟩ h0 h1];rfl
theorem x_c {z:Str}{i:Int}(h0:0<=i)(h1:i < z.length)(hz:z.length<=16777216):fO (.str z) (.int i)=.ok (.str ⟨#[z.cps.toList.getD i.toNat 0]⟩):=by
 rw[x_s,gN hz];have hl:z.cps.toList.length=z.length:=by simp[Str.length]
 rw[hU 0 h0 (by rw[hl];exact h1)];rfl
theorem j7 {α β:Type}(f:α->β)(xs:List α)(lo hi:Option Int):fR (xs.map f) lo hi=(fR xs lo hi).map f:=by unfold fR;rw[h_,List.map_take,List.map_drop]
theorem wC {α:Type}(xs:List α){m:Int}(h:0<=m):fR xs Ξ (Γ m)=xs.take m.toNat:=by
 unfold fR HT.sIx;simp only[List.drop_zero,Nat.sub_zero];rw[c_ (by omega)];by_cases hm:m.toNat<=xs.length
 ·rw[show min m.toNat xs.length=m.toNat from Nat.min_eq_left hm]
 ·rw[show min m.toNat xs.length=xs.length from Nat.min_eq_right (by omega),List.take_length,List.take_of_length_le (by omega)]
noncomputable def fz:Bool->Option D->Option D
 |true,Γ d=>Γ (er d)
 |true,Ξ=>Ξ
 |false,o=>o
theorem eM {d:D}:fz Δ (Γ d)=Γ (er d):=rfl
theorem eN {o:Option D}:fz Θ o=o:=rfl
theorem uO {is:List Nat}{k:Nat}{o:Option D}{τ:Ev}:kn is k (o::τ)=fz (is.contains k) o::kn is (k+1) τ:=by show(if is.contains k then o.map er else o)::kn is (k+1) τ=_;cases is.contains k<;>induction o using zO<;>rfl
theorem eP {d:D}:vars (.c d)=[]:=rfl
theorem eQ {n:Nat}{d:D}:vars (.g n d)=[]:=rfl
theorem eR {i:Nat}:vars (.v i)=[i]:=rfl
theorem bW {o:BOp}{a b:IR}:vars (.bin o a b)=vars a++vars b:=rfl
theorem bX {es:List IR}:vars (.tup es)=eW es:=rfl
theorem bY {es:List IR}:vars (.lst es)=eW es:=rfl
theorem aS {f:Nat}{es:List IR}:vars (.call f es)=eW es:=rfl
theorem dv {f:Bi}{es:List IR}:vars (.bi f es)=eW es:=rfl
theorem bZ {a i:IR}:vars (.idx a i)=vars a++vars i:=rfl
theorem b7 {m:Mt}{o:IR}{es:List IR}:vars (.mth m o es)=vars o++eW es:=rfl
theorem dw:eW []=[]:=rfl
theorem dy {e:IR}{es:List IR}:eW (e::es)=vars e++eW es:=rfl
theorem aT {G:Gm}{fr:List Nat}{t:Tg}{s:Sr}{i:List IR}{e:IR}:e9 (.comp G fr t s i e)=Δ:=rfl
theorem b8 {a b:IR}:e9 (.bin .add a b)=Δ:=rfl
theorem yJ {e:IR}{o:Bool}{ds:List D}{τ:Ev}:fF e (.lst o ds) τ=cond (e9 e) (cond (eS ds) (.lst Δ ds,τ) (.lst Δ (ers ds),frz (vars e) τ)) (.lst Θ (ers ds),frz (vars e) τ):=by
 unfold fF;rw[c_ (show ¬e7 (.lst o ds)=Δ by intro z;cases z)];cases e9 e
 ·exact Prod.ext (by show er (.lst o ds)=_;rw[er];rfl) rfl
 ·show(if eS ds=Δ then _ else _)=_;cases eS ds<;>rfl
theorem oF {body:D->Ev->Res Fl}(P:Nat->Ev->Prop):∀(its:List D) (k:Nat) (τ:Ev),P k τ->(∀(i:Nat) (x:D) (τ:Ev),its[i]? = Γ x->P (k+i) τ->∃τ',body x τ=.ok (.nx τ')/\P (k+i+1) τ')->∃τ',forM body its τ=.ok (.nx τ')/\P (k+its.length) τ'
 |[],k,τ,h,_=>⟨τ,rfl,h⟩
 |x::xs,k,τ,h,hb=>by
  obtain⟨τ1,e1,h1⟩:=hb 0 x τ rfl h;obtain⟨τ2,e2,h2⟩:=oF P xs (k+1) τ1 h1 fun i y σ hy hp=>by obtain⟨τ',e',h'⟩:=hb (i+1) y σ (by simpa using hy) (by rw[show k+(i+1)=k+1+i by omega];exact hp);exact⟨τ',e',by rw[show k+1+i+1=k+(i+1)+1 by omega];exact h'⟩
  refine⟨τ2,?_,by rw[List.length_cons,show k+(xs.length+1)=k+1+xs.length by omega];exact h2⟩;rw[yC,e1,cb,yD,e2]
theorem jx {body:D->Ev->Res Fl}(P:Nat->Ev->Prop){its:List D}{τ:Ev}(h:P 0 τ)(hb:∀(i:Nat)(x:D)(τ:Ev),its[i]? = Γ x->P i τ->∃τ',body x τ=.ok (.nx τ')/\P (i+1) τ'):∃τ',forM body its τ=.ok (.nx τ')/\P its.length τ':=by
 obtain⟨τ',h1,h2⟩:=oF P its 0 τ h fun i x τ hx hp=>by rw[Nat.zero_add]at hp ⊢;exact hb i x τ hx hp
 exact⟨τ',h1,by rw[Nat.zero_add]at h2;exact h2⟩
theorem gc {α β:Type}{g:D->Res (Option D)}(emb:α->D)(out:α->β)(emb':β->D):∀(xs:List α),(∀x∈xs,g (emb x)=.ok (Γ (emb' (out x))))->fm g (xs.map emb)=.ok ((xs.map out).map emb')
 |[],_=>rfl
 |x::xs,h=>by show bnd (g (emb x)) _=_;rw[h x (by simp)];show bnd (fm g (xs.map emb)) _=_;rw[gc emb out emb' xs fun y hy=>h y (s_ _ hy)];rfl
theorem dz {α:Type}{a:α}:noX (.ok a:Res α)=.ok a:=rfl
theorem j8 (a b:Int):gE a b=((List.range (b - a).toNat).map fun k=>a+(k:Nat)).map .int:=by unfold gE;rw[Ah];rfl
theorem nL (x:Str):gk x=(x.cps.toList.map fun c=>(⟨#[c]⟩:Str)).map .str:=by unfold gk;rw[Ah];rfl
end
end Ev
end L2
namespace L2.Ev
theorem rs0 {o:Option D}{τ:Ev}:eZ (o::τ) 0=o:=rfl
theorem rss {o:Option D}{τ:Ev}{i:Nat}:eZ (o::τ) (i+1)=eZ τ i:=rfl
theorem rfn {is:List Nat}{k:Nat}:kn is k []=[]:=rfl
theorem rct {a k:Nat}{l:List Nat}:List.contains (a::l) k=((k == a)||l.contains k):=rfl
theorem rcn {k:Nat}:List.contains [] k=Θ:=rfl
theorem fzI {b:Bool}{i:Int}:fz b (Γ (.int i))=Γ (.int i):=by cases b<;>rfl
theorem fzS {b:Bool}{i:PySem.Str}:fz b (Γ (.str i))=Γ (.str i):=by cases b<;>rfl
theorem fzN {b:Bool}:fz b Ξ=Ξ:=by cases b<;>rfl
end L2.Ev
namespace L2
open PySem
theorem Zaa {a b:Prop}(x:a)(y:b):a/\b:=⟨x,y⟩
noncomputable def ev0:=(Zaa (Zaa (Zaa (Zaa (Zaa @Ev.st_tryc @Ev.st_tryr) (Zaa @Ev.yF (Zaa @Ev.yG @Ev.rb))) (Zaa (Zaa @Ev.yI @Ev.uM) (Zaa @Ev.rf (Zaa @Ev.jh @Ev.lR)))) (Zaa (Zaa (Zaa @Ev.fZ @Ev.rh) (Zaa @Ev.rj (Zaa @Ev.rl @Ev.uN))) (Zaa (Zaa @Ev.gN (Zaa @Ev.rn @Ev.oB)) (Zaa @Ev.x_i (Zaa @Ev.rp @Ev.x_c))))) (Zaa (Zaa (Zaa (Zaa @Ev.uO @Ev.yJ) (Zaa @Ev.fQ (Zaa @Bool.or_false @Bool.or_true))) (Zaa (Zaa @List.replicate_succ.{0} (Zaa @List.replicate_zero.{0} @List.length_cons.{0})) (Zaa @List.length_nil.{0} (Zaa @Nat.zero_add @decide_true)))) (Zaa (Zaa (Zaa @Bool.and_self @Bool.not_true) (Zaa @Bool.not_false (Zaa @Bool.and_true @Bool.true_and))) (Zaa (Zaa @Bool.and_false (Zaa @Bool.false_and @beq_self_eq_true.{0})) (Zaa @if_true.{1} (Zaa @if_false.{1} @Bool.false_eq_true))))))
namespace Fr
noncomputable def uP:List IS:=[(.if_ (.cmp .lt (.v 1) (.bi .len [(.v 0)])) [(.ret (.idx (.v 0) (.v 1)))] []),(.ret (.c (.int 0)))]
end Fr
end L2
local macro_rules | `(tactic| simp! [$xs,*]) =>do
 let a ← ("Nat.reduceBEq Nat.reduceSub Nat.reduceAdd reduceIte Ev.rs0 Ev.rss Ev.c4 Ev.c5 Ev.rfn Ev.rct Ev.rcn cond_true cond_false List.map_cons List.map_nil List.cons_append List.nil_append Bool.true_or Bool.false_or Ev.eG Ev.eI Ev.eJ Ev.eK Ev.di Ev.dj Ev.eP Ev.eR Ev.bW Ev.aS Ev.dw Ev.dy Ev.bX Ev.bY Ev.dv Ev.bZ Ev.aW Ev.cq Ev.av Ev.aX Ev.aY Ev.aZ Ev.cw Ev.ax Ev.a7 Ev.a8 Ev.cz Ev.ay Ev.a9 Ev.bc Ev.bf Ev.bg Ev.bh Ev.cE Ev.az Ev.bo Ev.bq Ev.br Ev.aA Ev.aB Ev.cH Ev.cI Ev.aD Ev.aE Ev.aF Ev.ae Ev.ah Ev.aG Ev.bz Ev.cP Ev.cQ Ev.bA Ev.cR Ev.cS Ev.bC Ev.ai Ev.bD Ev.cT Ev.cU Ev.bH Ev.aK Ev.aL Ev.aN Ev.bI Ev.bJ Ev.aP Ev.bL Ev.bM Ev.cg Ev.bO Ev.cj Ev.dz Ev.cb Ev.cn Ev.r_c Ev.r_g Ev.r_v Ev.cp Ev.cu Ev.aw Ev.cy Ev.dG Ev.cA Ev.cB Ev.cC Ev.cD Ev.dH Ev.bj Ev.dI Ev.dJ Ev.dM Ev.bp Ev.dC Ev.cF Ev.cG Ev.bt Ev.dN Ev.dO Ev.bu Ev.dP Ev.dQ Ev.dR Ev.dS Ev.aC Ev.dU Ev.cJ Ev.dW Ev.dX Ev.t_t Ev.o_v Ev.o_tup Ev.o_lst Ev.o_ite Ev.o_call Ev.o_c Ev.cK Ev.cL Ev.aH Ev.cM Ev.dY Ev.cN Ev.dZ Ev.d3 Ev.bw Ev.cO Ev.bx Ev.d4 Ev.d5 Ev.aI Ev.bB Ev.k_i Ev.k_s Ev.k_b Ev.k_n Ev.st_asg Ev.bE Ev.bF Ev.st_app Ev.st_ret Ev.bG Ev.aJ Ev.aj Ev.aM Ev.ak Ev.aO Ev.cV Ev.cf Ev.cW Ev.d6 Ev.st_if Ev.st_for Ev.d7 Ev.d8 Ev.cX Ev.cY Ev.cZ Ev.c0 Ev.ed Ev.c6 Ev.aU Ev.bK Ev.c7 Ev.eh Ev.sl_t Ev.ek Ev.dD Ev.dB Ev.eo Ev.eA Ev.eB Ev.dE Ev.eC Ev.eD Ev.eE Ev.c8 Ev.bN Ev.n_n Ev.n_i Ev.n_s Ev.n_t Ev.eF Ev.dF Ev.c9 Ev.dg Ev.aQ Ev.aV Ev.aR Ev.au Ev.bP Ev.ao Ev.af Ev.dh Ev.bQ Ev.bR Ev.bS Ev.aq Ev.ar Ev.ag Ev.dm Ev.dn Ev.dq Ev.dr Ev.dt Ev.du Ev.bT Ev.bU Ev.bV Ev.eM Ev.eN Ev.eQ Ev.b7 Ev.aT Ev.b8".splitOn " ").toArray.mapM fun s =>`(Lean.Parser.Tactic.simpLemma| $(Lean.mkIdent s.toName):ident)
 `(tactic| simp (disch :=omega) only [L2.ev0,$a,*,↓L2.Ev.fzI,↓L2.Ev.fzS,↓L2.Ev.fzN,$xs,*])
namespace Law
open PySem L2
noncomputable def top (i:Nat):Stmt:=PySem.Challenge.pw_flagroll_k18_lines_refused.main.body.getD i (.Pass ⟨0,0,0,0⟩)
noncomputable def Z:Sg:={nm:=(["LETTERS","FIGURES","SIGNS","WORDS","MOST_THINGS","GREATEST_TOLD","LONGEST_TOLD","LONGEST_NAME","MOST_FIGURES","is_whole","is_text_of","is_told_text","is_told_number","things_go","cond_checked","is_written_number","read_thing","read_cond","_law_cell_at","_law_stream","_law_names","_law_word","_law_told","_law_cond","_law_line"]:List Str)++(["_law_changed","_law_read","_law_due","_law_right","law","NoWord","NoGroup","BadThings","NoLine","NoSalt","NoFace","Twice","BadShare","TooMuch","BadStage","BadOutcome","NoSwitch","NoRule","Unlike","ValueError","RollError"]:List Str),kst:=[(21,(.str "abcdefghijklmnopqrstuvwxyz")),(22,(.str "0123456789")),(23,(.str "abcdefghijklmnopqrstuvwxyz0123456789")),(24,(.tup [(.str "is"),(.str "not"),(.str "begins"),(.str "least"),(.str "most"),(.str "has"),(.str "lacks"),(.str "in"),(.str "out")])),(25,(.int 10)),(26,(.int 999999999)),(27,(.int 8)),(28,(.int 8)),(29,(.int 9))],fns:=[30,31,32,33,34,35,36,37,38,39,40,41,42,43,44,45,46,47,48,49,50],cls:=[55,56,57,58,59,51,52,53,54,60,61,62,63,64,65],xt:=[(Ο "NoWord",55,Θ),(Ο "NoWord",56,Θ),(Ο "NoWord",57,Θ),(Ο "NoWord",58,Θ),(Ο "NoWord",59,Θ),(Ο "NoWord",51,Δ),(Ο "NoWord",52,Θ),(Ο "NoWord",53,Θ),(Ο "NoWord",54,Θ),(Ο "NoWord",60,Θ),(Ο "NoWord",61,Θ),(Ο "NoWord",62,Θ),(Ο "NoWord",63,Θ),(Ο "NoWord",64,Θ),(Ο "NoWord",65,Δ),(Ο "NoGroup",55,Θ),(Ο "NoGroup",56,Θ),(Ο "NoGroup",57,Θ),(Ο "NoGroup",58,Θ),(Ο "NoGroup",59,Θ),(Ο "NoGroup",51,Θ),(Ο "NoGroup",52,Δ),(Ο "NoGroup",53,Θ),(Ο "NoGroup",54,Θ),(Ο "NoGroup",60,Θ),(Ο "NoGroup",61,Θ),(Ο "NoGroup",62,Θ),(Ο "NoGroup",63,Θ),(Ο "NoGroup",64,Θ),(Ο "NoGroup",65,Δ),(Ο "BadThings",55,Θ),(Ο "BadThings",56,Θ),(Ο "BadThings",57,Θ),(Ο "BadThings",58,Θ),(Ο "BadThings",59,Θ),(Ο "BadThings",51,Θ),(Ο "BadThings",52,Θ),(Ο "BadThings",53,Δ),(Ο "BadThings",54,Θ),(Ο "BadThings",60,Θ),(Ο "BadThings",61,Θ),(Ο "BadThings",62,Θ),(Ο "BadThings",63,Θ),(Ο "BadThings",64,Θ),(Ο "BadThings",65,Δ),(Ο "NoLine",55,Θ),(Ο "NoLine",56,Θ),(Ο "NoLine",57,Θ),(Ο "NoLine",58,Θ),(Ο "NoLine",59,Θ),(Ο "NoLine",51,Θ),(Ο "NoLine",52,Θ),(Ο "NoLine",53,Θ),(Ο "NoLine",54,Δ),(Ο "NoLine",60,Θ),(Ο "NoLine",61,Θ),(Ο "NoLine",62,Θ),(Ο "NoLine",63,Θ),(Ο "NoLine",64,Θ),(Ο "NoLine",65,Δ)],pl:=[42],rc:=[(51,"NoWord"),(52,"NoGroup"),(53,"BadThings"),(54,"NoLine")],xm:=[(Ο "NoWord",51,Δ),(Ο "NoWord",53,Θ),(Ο "NoWord",66,Δ),(Ο "NoGroup",51,Θ),(Ο "NoGroup",53,Θ),(Ο "NoGroup",66,Δ),(Ο "BadThings",51,Θ),(Ο "BadThings",53,Δ),(Ο "BadThings",66,Δ),(Ο "NoLine",51,Θ),(Ο "NoLine",53,Θ),(Ο "NoLine",66,Δ)],fio:=[]}
noncomputable def rq:List IS:=[(.if_ (.cmp .eq (.bin .mod (.bin .fdiv (.v 3) (.c (.int 8))) (.c (.int 3))) (.c (.int 0))) [(.asg (.nm 4) (.call 46 [(.v 4),(.bin .fdiv (.v 3) (.c (.int 5)))]))] []),(.if_ (.not_ (.call 49 [(.v 4)])) [(.ret (.c (.bl Θ)))] [])]
noncomputable def tK:List IS:=(.asg (.nm 3) (.bin .add (.call 39 [(.v 0),(.v 2)]) (.bin .mul (.c (.int 29)) (.v 2))))::(.asg (.nm 4) (.call 46 [(.call 45 [(.call 44 [(.bin .fdiv (.v 3) (.c (.int 3))),(.sl (.v 1) Ξ (Γ (.c (.int 3)))),(.sl (.v 1) (Γ (.c (.int 3))) Ξ)])]),(.v 3)]))::rq
noncomputable def tL:List IS:=[(.if_ (.not_ (.call 49 [(.v 4)])) [(.ret (.c (.bl Θ)))] [])]
noncomputable def wD:List IS:=[(.asg (.nm 5) (.lst [(.c (.str "")),(.c (.str " ")),(.c (.str "age")),(.c (.str "age ")),(.c (.str "age has ")),(.c (.str " age has")),(.c (.str "age  has")),(.c (.str "is is .is")),(.c (.str "age is")),(.c (.str "a is .a  .b"))])),(.for_ (.nm 4) (.val (.v 5)) tL),(.ret (.and_ (.call 49 [(.c (.str "abcdefghi has"))]) (.and_ (.call 49 [(.c (.str "abcdefgh has"))]) (.call 49 [(.c (.str "age is 0 -1 .0 .-1"))]))))]
noncomputable def b30:List IS:=
 [(.ret (.and_ (.isi (.v 0) .int) (.not_ (.isi (.v 0) .bool))))]
noncomputable def d30:Fn:={np:=1,G:={N:=["thing"],kd:=[.local],gl:=[14,8,16],df:=Δ},body:=b30}
noncomputable def b31:List IS:=
 [(.if_ (.not_ (.isi (.v 0) .str)) [(.ret (.c (.bl Θ)))] []),(.if_ (.not_ (.chain .le .le (.v 2) (.bi .len [(.v 0)]) (.v 3))) [(.ret (.c (.bl Θ)))] []),(.ret (.bi .all [(.comp {N:=["signs","sign"],kd:=[.cell,.local],gl:=[],df:=Θ,rs:=Θ} [1] (.nm 1) (.val (.v 0)) [] (.cmp .in_ (.v 1) (.v 0)))]))]
noncomputable def d31:Fn:={np:=4,G:={N:=["thing","signs","least","most"],kd:=[.local,.cell,.local,.local],gl:=[14,11,0,9],df:=Δ},body:=b31}
noncomputable def b32:List IS:=
 [(.ret (.call 31 [(.v 0),(.g 23 (.str "abcdefghijklmnopqrstuvwxyz0123456789")),(.v 1),(.g 27 (.int 8))]))]
noncomputable def d32:Fn:={np:=2,G:={N:=["thing","least"],kd:=[.local,.local],gl:=[31,23,27],df:=Δ},body:=b32}
noncomputable def b33:List IS:=
 [(.ret (.and_ (.call 30 [(.v 0)]) (.cmp .le (.bi .abs [(.v 0)]) (.g 26 (.int 999999999)))))]
noncomputable def d33:Fn:={np:=1,G:={N:=["thing"],kd:=[.local],gl:=[30,13,26],df:=Δ},body:=b33}
noncomputable def b34:List IS:=
 [(.if_ (.or_ (.cmp .eq (.v 0) (.c (.str "is"))) (.cmp .eq (.v 0) (.c (.str "not")))) [(.asg (.nm 2) (.comp {N:=["thing"],kd:=[.local],gl:=[32,33],df:=Θ,rs:=Θ} [] (.nm 0) (.val (.v 1)) [] (.or_ (.call 32 [(.v 0),(.c (.int 0))]) (.call 33 [(.v 0)])))),(.ret (.and_ (.chain .le .le (.c (.int 1)) (.bi .len [(.v 1)]) (.g 25 (.int 10))) (.bi .all [(.v 2)])))] []),(.if_ (.cmp .eq (.v 0) (.c (.str "begins"))) [(.ret (.and_ (.chain .le .le (.c (.int 1)) (.bi .len [(.v 1)]) (.g 25 (.int 10))) (.bi .all [(.comp {N:=["thing"],kd:=[.local],gl:=[32],df:=Θ,rs:=Θ} [] (.nm 0) (.val (.v 1)) [] (.call 32 [(.v 0),(.c (.int 1))]))])))] []),(.if_ (.or_ (.cmp .eq (.v 0) (.c (.str "least"))) (.cmp .eq (.v 0) (.c (.str "most")))) [(.ret (.and_ (.cmp .eq (.bi .len [(.v 1)]) (.c (.int 1))) (.call 33 [(.idx (.v 1) (.c (.int 0)))])))] []),(.ret (.cmp .eq (.v 1) (.lst [])))]
noncomputable def d34:Fn:={np:=2,G:={N:=["word","things","fits"],kd:=[.local,.local,.local],gl:=[0,25,9,33],df:=Δ},body:=b34}
noncomputable def b35:List IS:=
 [(.asg (.nm 2) (.idx (.v 0) (.c (.int 0)))),(.asg (.nm 3) (.idx (.v 0) (.c (.int 1)))),(.if_ (.cmp .nin (.v 3) (.g 24 (.tup [(.str "is"),(.str "not"),(.str "begins"),(.str "least"),(.str "most"),(.str "has"),(.str "lacks"),(.str "in"),(.str "out")]))) [(.raise_ 51 "NoWord" "a condition's word is none of the nine")] []),(.if_ (.and_ (.or_ (.cmp .eq (.v 3) (.c (.str "in"))) (.cmp .eq (.v 3) (.c (.str "out")))) (.cmp .nin (.v 2) (.v 1))) [(.raisee 52 "NoGroup" (.ftr "there is no group " (.v 2) Ξ))] []),(.if_ (.not_ (.call 34 [(.v 3),(.idx (.v 0) (.c (.int 2)))])) [(.raisee 53 "BadThings" (.ftr "the things don't go with the word " (.v 3) Ξ))] []),(.ret (.c (.bl Δ)))]
noncomputable def d35:Fn:={np:=2,G:={N:=["cond","names","name","word"],kd:=[.local,.local,.local,.local],gl:=[24,51,52,34,53],df:=Δ},body:=b35}
noncomputable def b36:List IS:=
 [(.asg (.nm 1) (.ite (.mth .starts (.v 0) [(.c (.str "-"))]) (.sl (.v 0) (Γ (.c (.int 1))) Ξ) (.v 0))),(.if_ (.not_ (.call 31 [(.v 1),(.g 22 (.str "0123456789")),(.c (.int 1)),(.g 29 (.int 9))])) [(.ret (.c (.bl Θ)))] []),(.ret (.or_ (.cmp .eq (.v 0) (.c (.str "0"))) (.not_ (.mth .starts (.v 1) [(.c (.str "0"))]))))]
noncomputable def d36:Fn:={np:=1,G:={N:=["part","figures"],kd:=[.local,.local],gl:=[31,22,29],df:=Δ},body:=b36}
noncomputable def b37:List IS:=
 [(.if_ (.mth .starts (.v 0) [(.c (.str "."))]) [(.ret (.sl (.v 0) (Γ (.c (.int 1))) Ξ))] []),(.if_ (.not_ (.call 36 [(.v 0)])) [(.raise_ 54 "NoLine" "a thing is neither a text behind a point nor a whole number as it is written here")] []),(.ret (.bi .int [(.v 0)]))]
noncomputable def d37:Fn:={np:=1,G:={N:=["part"],kd:=[.local],gl:=[36,54,8],df:=Δ},body:=b37}
noncomputable def b38:List IS:=
 [(.asg (.nm 1) (.mth .split (.v 0) [(.c (.str " "))])),(.if_ (.cmp .lt (.bi .len [(.v 1)]) (.c (.int 2))) [(.raise_ 54 "NoLine" "a condition has a name and a word, parted by a blank")] []),(.asg (.nm 2) (.idx (.v 1) (.c (.int 0)))),(.if_ (.not_ (.call 31 [(.v 2),(.g 21 (.str "abcdefghijklmnopqrstuvwxyz")),(.c (.int 1)),(.g 28 (.int 8))])) [(.raise_ 54 "NoLine" "a name is a text of one to eight small letters from a to z")] []),(.asg (.nm 3) (.tup [(.v 2),(.idx (.v 1) (.c (.int 1))),(.comp {N:=["part"],kd:=[.local],gl:=[37],df:=Θ,rs:=Θ} [] (.nm 0) (.val (.sl (.v 1) (Γ (.c (.int 2))) Ξ)) [] (.call 37 [(.v 0)]))])),(.tryr 35 [(.v 3),(.lst [(.v 2)])] 51 53 ["NoWord","BadThings"] 54),(.ret (.v 3))]
noncomputable def d38:Fn:={np:=1,G:={N:=["line","parts","name","cond"],kd:=[.local,.local,.local,.local],gl:=[0,54,31,21,28,51,53,35],df:=Δ,tr:=Δ},body:=b38}
noncomputable def b39:List IS:=
 [(.if_ (.cmp .lt (.v 1) (.bi .len [(.v 0)])) [(.ret (.idx (.v 0) (.v 1)))] []),(.ret (.c (.int 0)))]
noncomputable def d39:Fn:={np:=2,G:={N:=["_law_script","_law_k"],kd:=[.local,.local],gl:=[0],df:=Δ},body:=b39}
noncomputable def b40:List IS:=
 [(.asg (.nm 2) (.lst [])),(.asg (.nm 3) (.bin .add (.bin .mod (.v 0) (.c (.int 2147483647))) (.c (.int 1)))),(.for_ (.nm 4) (.rng1 (.v 1)) [(.asg (.nm 3) (.bin .mod (.bin .add (.bin .add (.bin .mul (.v 3) (.c (.int 48271))) (.bin .mul (.bin .mul (.c (.int 7)) (.v 4)) (.v 4))) (.c (.int 3))) (.c (.int 2147483647)))),(.app 2 (.bin .fdiv (.v 3) (.c (.int 16))))]),(.ret (.v 2))]
noncomputable def d40:Fn:={np:=2,G:={N:=["_law_cell","_law_many","_law_found","_law_number","_law_k"],kd:=[.local,.local,.local,.local,.local],gl:=[15],df:=Δ},body:=b40}
noncomputable def b41:List IS:=
 [(.asg (.nm 2) (.c (.str "abcdefghijklmnopqrstuvwxyz"))),(.asg (.nm 3) (.mth .join (.c (.str "")) [(.comp {N:=["_law_abc","_law_number"],kd:=[.cell,.local],gl:=[],df:=Θ,rs:=Θ} [2] (.nm 1) (.val (.call 40 [(.bin .fdiv (.v 0) (.c (.int 3))),(.c (.int 8))])) [] (.idx (.v 0) (.bin .mod (.v 1) (.c (.int 26)))))])),(.if_ (.and_ (.cmp .eq (.bin .mod (.v 0) (.c (.int 3))) (.c (.int 1))) (.cmp .le (.v 1) (.c (.int 8)))) [(.ret (.comp {N:=["_law_base","_law_k"],kd:=[.cell,.local],gl:=[],df:=Θ,rs:=Θ} [3] (.nm 1) (.rng1 (.v 1)) [] (.sl (.v 0) Ξ (Γ (.bin .add (.v 1) (.c (.int 1)))))))] []),(.asg (.nm 3) (.sl (.v 3) Ξ (Γ (.bin .add (.c (.int 1)) (.bin .mod (.bin .fdiv (.v 0) (.c (.int 3))) (.c (.int 8))))))),(.asg (.nm 4) (.bin .mod (.bin .fdiv (.v 0) (.c (.int 24))) (.bi .len [(.v 3)]))),(.ret (.comp {N:=["_law_base","_law_at","_law_abc","_law_cell","_law_k"],kd:=[.cell,.cell,.cell,.cell,.local],gl:=[],df:=Θ,rs:=Θ} [3,4,2,0] (.nm 4) (.rng1 (.v 1)) [] (.bin .add (.bin .add (.sl (.v 0) Ξ (Γ (.v 1))) (.idx (.v 2) (.bin .mod (.bin .add (.bin .fdiv (.v 3) (.c (.int 3))) (.bin .mul (.c (.int 7)) (.v 4))) (.c (.int 26))))) (.sl (.v 0) (Γ (.bin .add (.v 1) (.c (.int 1)))) Ξ))))]
noncomputable def d41:Fn:={np:=2,G:={N:=["_law_cell","_law_many","_law_abc","_law_base","_law_at"],kd:=[.cell,.local,.cell,.cell,.cell],gl:=[40,15,0],df:=Δ},body:=b41}
noncomputable def b42:List IS:=
 [(.asg (.nm 1) (.lst [])),(.if_ (.isx (.v 0) [55] [(Ο "NoWord",Θ),(Ο "NoGroup",Θ),(Ο "BadThings",Θ),(Ο "NoLine",Θ)]) [(.app 1 (.c (.str "salt")))] []),(.if_ (.isx (.v 0) [56] [(Ο "NoWord",Θ),(Ο "NoGroup",Θ),(Ο "BadThings",Θ),(Ο "NoLine",Θ)]) [(.app 1 (.c (.str "face")))] []),(.if_ (.isx (.v 0) [57] [(Ο "NoWord",Θ),(Ο "NoGroup",Θ),(Ο "BadThings",Θ),(Ο "NoLine",Θ)]) [(.app 1 (.c (.str "twice")))] []),(.if_ (.isx (.v 0) [58] [(Ο "NoWord",Θ),(Ο "NoGroup",Θ),(Ο "BadThings",Θ),(Ο "NoLine",Θ)]) [(.app 1 (.c (.str "share")))] []),(.if_ (.isx (.v 0) [59] [(Ο "NoWord",Θ),(Ο "NoGroup",Θ),(Ο "BadThings",Θ),(Ο "NoLine",Θ)]) [(.app 1 (.c (.str "much")))] []),(.if_ (.isx (.v 0) [51] [(Ο "NoWord",Δ),(Ο "NoGroup",Θ),(Ο "BadThings",Θ),(Ο "NoLine",Θ)]) [(.app 1 (.c (.str "word")))] []),(.if_ (.isx (.v 0) [52] [(Ο "NoWord",Θ),(Ο "NoGroup",Δ),(Ο "BadThings",Θ),(Ο "NoLine",Θ)]) [(.app 1 (.c (.str "group")))] []),(.if_ (.isx (.v 0) [53] [(Ο "NoWord",Θ),(Ο "NoGroup",Θ),(Ο "BadThings",Δ),(Ο "NoLine",Θ)]) [(.app 1 (.c (.str "things")))] []),(.if_ (.isx (.v 0) [54] [(Ο "NoWord",Θ),(Ο "NoGroup",Θ),(Ο "BadThings",Θ),(Ο "NoLine",Δ)]) [(.app 1 (.c (.str "line")))] []),(.if_ (.or_ (.isx (.v 0) [60,61] [(Ο "NoWord",Θ),(Ο "NoGroup",Θ),(Ο "BadThings",Θ),(Ο "NoLine",Θ)]) (.or_ (.isx (.v 0) [62,63] [(Ο "NoWord",Θ),(Ο "NoGroup",Θ),(Ο "BadThings",Θ),(Ο "NoLine",Θ)]) (.isx (.v 0) [64] [(Ο "NoWord",Θ),(Ο "NoGroup",Θ),(Ο "BadThings",Θ),(Ο "NoLine",Θ)]))) [(.app 1 (.c (.str "other")))] []),(.if_ (.not_ (.isx (.v 0) [65] [(Ο "NoWord",Δ),(Ο "NoGroup",Δ),(Ο "BadThings",Δ),(Ο "NoLine",Δ)])) [(.app 1 (.c (.str "base")))] []),(.ret (.mth .join (.c (.str "")) [(.v 1)]))]
noncomputable def d42:Fn:={np:=1,G:={N:=["_law_e","_law_words"],kd:=[.local,.local],gl:=[14,55,56,57,58,59,51,52,53,54,60,61,62,63,64,65],df:=Δ,cm:=Θ},body:=b42}
noncomputable def b43:List IS:=
 [(.asg (.nm 2) (.call 40 [(.v 0),(.c (.int 10))])),(.asg (.nm 3) (.c (.str "abcdefghijklmnopqrstuvwxyz0123456789"))),(.if_ (.or_ (.cmp .eq (.v 1) (.c (.str "number"))) (.and_ (.cmp .eq (.v 1) (.c (.str "any"))) (.cmp .eq (.bin .mod (.idx (.v 2) (.c (.int 0))) (.c (.int 3))) (.c (.int 0))))) [(.asg (.nm 4) (.idx (.lst [(.c (.int 4)),(.c (.int 999999999))]) (.bin .mod (.idx (.v 2) (.c (.int 1))) (.c (.int 2))))),(.ret (.idx (.lst [(.bin .sub (.bin .mod (.idx (.v 2) (.c (.int 2))) (.bin .add (.bin .mul (.c (.int 2)) (.v 4)) (.c (.int 1)))) (.v 4)),(.v 4),(.bin .sub (.c (.int 0)) (.v 4))]) (.bin .mod (.idx (.v 2) (.c (.int 3))) (.c (.int 3)))))] []),(.asg (.nm 5) (.mth .join (.c (.str "")) [(.comp {N:=["_law_signs","_law_xs","_law_number"],kd:=[.cell,.cell,.local],gl:=[],df:=Θ,rs:=Θ} [3,2] (.nm 2) (.val (.sl (.v 2) (Γ (.c (.int 2))) (Γ (.c (.int 10))))) [] (.idx (.v 0) (.bin .mod (.v 2) (.idx (.lst [(.c (.int 2)),(.c (.int 36))]) (.bin .fdiv (.bin .mod (.idx (.v 1) (.c (.int 1))) (.c (.int 4))) (.c (.int 3)))))))])),(.if_ (.cmp .eq (.v 1) (.c (.str "begins"))) [(.ret (.sl (.v 5) Ξ (Γ (.bin .add (.c (.int 1)) (.bin .mod (.bin .fdiv (.idx (.v 2) (.c (.int 0))) (.c (.int 3))) (.idx (.lst [(.c (.int 3)),(.c (.int 8))]) (.bin .mod (.idx (.v 2) (.c (.int 2))) (.c (.int 2)))))))))] []),(.ret (.sl (.v 5) Ξ (Γ (.bin .mod (.bin .fdiv (.idx (.v 2) (.c (.int 0))) (.c (.int 3))) (.idx (.lst [(.c (.int 4)),(.c (.int 9))]) (.bin .mod (.idx (.v 2) (.c (.int 2))) (.c (.int 2))))))))]
noncomputable def d43:Fn:={np:=2,G:={N:=["_law_cell","_law_kind","_law_xs","_law_signs","_law_far","_law_text"],kd:=[.local,.local,.cell,.cell,.local,.local],gl:=[40],df:=Δ},body:=b43}
noncomputable def b44:List IS:=
 [(.asg (.nm 3) (.lst [(.c (.str "is")),(.c (.str "not")),(.c (.str "begins")),(.c (.str "least")),(.c (.str "most")),(.c (.str "has")),(.c (.str "lacks")),(.c (.str "in")),(.c (.str "out"))])),(.asg (.nm 4) (.call 40 [(.v 0),(.c (.int 4))])),(.asg (.nm 5) (.idx (.v 3) (.bin .mod (.idx (.v 4) (.c (.int 0))) (.idx (.lst [(.c (.int 9)),(.c (.int 7))]) (.bi .int [(.cmp .eq (.v 2) (.lst []))]))))),(.asg (.nm 6) (.idx (.v 1) (.bin .mod (.idx (.v 4) (.c (.int 1))) (.bi .len [(.v 1)])))),(.if_ (.or_ (.cmp .eq (.v 5) (.c (.str "in"))) (.cmp .eq (.v 5) (.c (.str "out")))) [(.ret (.tup [(.idx (.v 2) (.bin .mod (.idx (.v 4) (.c (.int 1))) (.bi .len [(.v 2)]))),(.v 5),(.lst [])]))] []),(.if_ (.or_ (.cmp .eq (.v 5) (.c (.str "has"))) (.cmp .eq (.v 5) (.c (.str "lacks")))) [(.ret (.tup [(.v 6),(.v 5),(.lst [])]))] []),(.if_ (.or_ (.cmp .eq (.v 5) (.c (.str "least"))) (.cmp .eq (.v 5) (.c (.str "most")))) [(.ret (.tup [(.v 6),(.v 5),(.lst [(.call 43 [(.bin .fdiv (.v 0) (.c (.int 5))),(.c (.str "number"))])])]))] []),(.asg (.nm 7) (.idx (.lst [(.bin .add (.c (.int 1)) (.bin .mod (.idx (.v 4) (.c (.int 2))) (.c (.int 3)))),(.bin .add (.c (.int 1)) (.bin .mod (.idx (.v 4) (.c (.int 2))) (.c (.int 10))))]) (.bin .fdiv (.bin .mod (.idx (.v 4) (.c (.int 3))) (.c (.int 4))) (.c (.int 3))))),(.asg (.nm 8) (.idx (.lst [(.c (.str "any")),(.c (.str "begins"))]) (.bi .int [(.cmp .eq (.v 5) (.c (.str "begins")))]))),(.ret (.tup [(.v 6),(.v 5),(.comp {N:=["_law_cell","_law_kind","_law_k"],kd:=[.cell,.cell,.local],gl:=[43],df:=Θ,rs:=Θ} [0,8] (.nm 2) (.rng1 (.v 7)) [] (.call 43 [(.bin .add (.bin .fdiv (.v 0) (.c (.int 5))) (.bin .mul (.c (.int 31)) (.v 2))),(.v 1)]))]))]
noncomputable def d44:Fn:={np:=3,G:={N:=["_law_cell","_law_names_here","_law_groups","_law_words","_law_xs","_law_word_here","_law_name","_law_many","_law_kind"],kd:=[.cell,.local,.local,.local,.local,.local,.local,.local,.cell],gl:=[40,8,0,43,15],df:=Δ},body:=b44}
noncomputable def b45:List IS:=
 [(.asg (.nm 1) (.lst [(.idx (.v 0) (.c (.int 0))),(.idx (.v 0) (.c (.int 1)))])),(.for_ (.nm 2) (.val (.idx (.v 0) (.c (.int 2)))) [(.app 1 (.idx (.lst [(.bi .str [(.v 2)]),(.bin .add (.c (.str ".")) (.bi .str [(.v 2)]))]) (.bi .int [(.isi (.v 2) .str)])))]),(.ret (.mth .join (.c (.str " ")) [(.v 1)]))]
noncomputable def d45:Fn:={np:=1,G:={N:=["_law_cond_here","_law_words","_law_thing"],kd:=[.local,.local,.local],gl:=[11,8,14],df:=Δ},body:=b45}
noncomputable def b46:List IS:=
 [(.asg (.nm 2) (.c (.str " !\"#$&'()*+,-./0123456789:;<=>?@ABCDEFGHIJKLMNOPQRSTUVWXYZ[\\]^_`"))),(.asg (.nm 2) (.bin .add (.v 2) (.c (.str "abcdefghijklmnopqrstuvwxyz{|}~\n\t  ..--0")))),(.asg (.nm 3) (.lst [(.c (.str "is")),(.c (.str "not")),(.c (.str "begins")),(.c (.str "least")),(.c (.str "most")),(.c (.str "has")),(.c (.str "lacks")),(.c (.str "in")),(.c (.str "out")),(.c (.str "")),(.c (.str "007")),(.c (.str "-0")),(.c (.str "+1")),(.c (.str "1_0")),(.c (.str "1.0"))])),(.asg (.nm 3) (.bin .add (.v 3) (.lst [(.c (.str "999999999")),(.c (.str "1000000000")),(.c (.str "-999999999")),(.c (.str ".abcdefghi")),(.c (.str ".a")),(.c (.str ".")),(.c (.str "abc")),(.c (.str "-")),(.c (.str "Is")),(.c (.str "00")),(.c (.str "0"))]))),(.asg (.nm 4) (.bin .mod (.bin .fdiv (.v 1) (.c (.int 8))) (.bin .add (.bi .len [(.v 0)]) (.c (.int 1))))),(.asg (.nm 5) (.idx (.v 2) (.bin .mod (.bin .fdiv (.v 1) (.c (.int 800))) (.bi .len [(.v 2)])))),(.asg (.nm 6) (.mth .split (.v 0) [(.c (.str " "))])),(.asg (.nm 7) (.bin .mod (.bin .fdiv (.v 1) (.c (.int 8))) (.bi .len [(.v 6)]))),(.if_ (.cmp .eq (.bin .mod (.v 1) (.c (.int 8))) (.c (.int 0))) [(.ret (.bin .add (.bin .add (.sl (.v 0) none (some (.v 4))) (.v 5)) (.sl (.v 0) (some (.v 4)) none)))] []),(.if_ (.cmp .eq (.bin .mod (.v 1) (.c (.int 8))) (.c (.int 1))) [(.ret (.bin .add (.sl (.v 0) none (some (.v 4))) (.sl (.v 0) (some (.bin .add (.v 4) (.c (.int 1)))) none)))] []),(.if_ (.cmp .eq (.bin .mod (.v 1) (.c (.int 8))) (.c (.int 2))) [(.ret (.bin .add (.bin .add (.sl (.v 0) none (some (.v 4))) (.v 5)) (.sl (.v 0) (some (.bin .add (.v 4) (.c (.int 1)))) none)))] []),(.if_ (.cmp .eq (.bin .mod (.v 1) (.c (.int 8))) (.c (.int 3))) [(.asg (.nm 6) (.bin .add (.bin .add (.sl (.v 6) none (some (.v 7))) (.sl (.v 6) (some (.v 7)) (some (.bin .add (.v 7) (.c (.int 1)))))) (.sl (.v 6) (some (.v 7)) none)))] []),(.if_ (.cmp .eq (.bin .mod (.v 1) (.c (.int 8))) (.c (.int 4))) [(.asg (.nm 6) (.bin .add (.sl (.v 6) none (some (.v 7))) (.sl (.v 6) (some (.bin .add (.v 7) (.c (.int 1)))) none)))] []),(.if_ (.cmp .eq (.bin .mod (.v 1) (.c (.int 8))) (.c (.int 5))) [(.asg (.nm 8) (.lrev (.sl (.v 6) (some (.v 7)) (some (.bin .add (.v 7) (.c (.int 2))))))),(.asg (.nm 6) (.bin .add (.bin .add (.sl (.v 6) none (some (.v 7))) (.v 8)) (.sl (.v 6) (some (.bin .add (.v 7) (.c (.int 2)))) none)))] []),(.if_ (.cmp .eq (.bin .mod (.v 1) (.c (.int 8))) (.c (.int 6))) [(.asg (.nm 6) (.bin .add (.bin .add (.sl (.v 6) none (some (.v 7))) (.lst [(.idx (.v 3) (.bin .mod (.bin .fdiv (.v 1) (.c (.int 80))) (.c (.int 26))))])) (.sl (.v 6) (some (.bin .add (.v 7) (.c (.int 1)))) none)))] []),(.if_ (.cmp .eq (.bin .mod (.v 1) (.c (.int 8))) (.c (.int 7))) [(.asg (.nm 6) (.bin .add (.bin .add (.sl (.v 6) none (some (.v 7))) (.lst [(.idx (.v 3) (.bin .mod (.bin .fdiv (.v 1) (.c (.int 80))) (.c (.int 26))))])) (.sl (.v 6) (some (.v 7)) none)))] []),(.ret (.mth .join (.c (.str " ")) [(.v 6)]))]
noncomputable def d46:Fn:={np:=2,G:={N:=["_law_line_here","_law_cell","_law_some","_law_other","_law_at","_law_sign","_law_words","_law_spot","_law_both"],kd:=[.local,.local,.local,.local,.local,.local,.local,.local,.local],gl:=[0,5,18],df:=Δ},body:=b46}
noncomputable def b47:List IS:=
 [(.if_ (.cmp .eq (.sl (.v 0) Ξ (Γ (.c (.int 1)))) (.c (.str "."))) [(.asg (.nm 1) (.c (.str "abcdefghijklmnopqrstuvwxyz0123456789"))),(.if_ (.or_ (.cmp .gt (.bi .len [(.v 0)]) (.c (.int 9))) (.cmp .ne (.comp {N:=["_law_good","_law_sign"],kd:=[.cell,.local],gl:=[],df:=Θ,rs:=Θ} [1] (.nm 1) (.val (.sl (.v 0) (Γ (.c (.int 1))) Ξ)) [(.cmp .nin (.v 1) (.v 0))] (.v 1)) (.lst []))) [(.ret (.c .non))] []),(.ret (.sl (.v 0) (Γ (.c (.int 1))) Ξ))] []),(.asg (.nm 2) (.sl (.v 0) (Γ (.bi .int [(.cmp .eq (.sl (.v 0) Ξ (Γ (.c (.int 1)))) (.c (.str "-")))])) Ξ)),(.if_ (.or_ (.cmp .lt (.bi .len [(.v 2)]) (.c (.int 1))) (.cmp .gt (.bi .len [(.v 2)]) (.c (.int 9)))) [(.ret (.c .non))] []),(.if_ (.cmp .ne (.comp {N:=["_law_sign"],kd:=[.local],gl:=[],df:=Θ,rs:=Θ} [] (.nm 0) (.val (.v 2)) [(.cmp .nin (.v 0) (.c (.str "0123456789")))] (.v 0)) (.lst [])) [(.ret (.c .non))] []),(.if_ (.and_ (.cmp .eq (.idx (.v 2) (.c (.int 0))) (.c (.str "0"))) (.cmp .ne (.v 0) (.c (.str "0")))) [(.ret (.c .non))] []),(.ret (.bi .int [(.v 0)]))]
noncomputable def d47:Fn:={np:=1,G:={N:=["_law_word_here","_law_good","_law_figures"],kd:=[.local,.cell,.local],gl:=[0,8],df:=Δ},body:=b47}
noncomputable def b48:List IS:=
 [(.asg (.nm 1) (.mth .split (.v 0) [(.c (.str " "))])),(.if_ (.or_ (.cmp .lt (.bi .len [(.v 1)]) (.c (.int 2))) (.not_ (.chain .le .le (.c (.int 1)) (.bi .len [(.idx (.v 1) (.c (.int 0)))]) (.c (.int 8))))) [(.ret (.c .non))] []),(.if_ (.cmp .ne (.comp {N:=["_law_sign"],kd:=[.local],gl:=[],df:=Θ,rs:=Θ} [] (.nm 0) (.val (.idx (.v 1) (.c (.int 0)))) [(.cmp .nin (.v 0) (.c (.str "abcdefghijklmnopqrstuvwxyz")))] (.v 0)) (.lst [])) [(.ret (.c .non))] []),(.asg (.nm 2) (.comp {N:=["_law_word_here"],kd:=[.local],gl:=[47],df:=Θ,rs:=Θ} [] (.nm 0) (.val (.sl (.v 1) (Γ (.c (.int 2))) Ξ)) [] (.call 47 [(.v 0)]))),(.if_ (.cmp .ne (.comp {N:=["_law_thing"],kd:=[.local],gl:=[],df:=Θ,rs:=Θ} [] (.nm 0) (.val (.v 2)) [(.cmp .is_ (.v 0) (.c .non))] (.v 0)) (.lst [])) [(.ret (.c .non))] []),(.asg (.nm 3) (.comp {N:=["_law_thing"],kd:=[.local],gl:=[14,11],df:=Θ,rs:=Θ} [] (.nm 0) (.val (.v 2)) [(.isi (.v 0) .str)] (.v 0))),(.asg (.nm 4) (.c (.bl Θ))),(.if_ (.cmp .in_ (.idx (.v 1) (.c (.int 1))) (.tup [(.c (.str "is")),(.c (.str "not"))])) [(.asg (.nm 4) (.chain .le .le (.c (.int 1)) (.bi .len [(.v 2)]) (.c (.int 10))))] []),(.if_ (.cmp .eq (.idx (.v 1) (.c (.int 1))) (.c (.str "begins"))) [(.asg (.nm 4) (.and_ (.chain .le .le (.c (.int 1)) (.bi .len [(.v 2)]) (.c (.int 10))) (.and_ (.cmp .eq (.bi .len [(.v 3)]) (.bi .len [(.v 2)])) (.cmp .nin (.c (.str "")) (.v 3)))))] []),(.if_ (.cmp .in_ (.idx (.v 1) (.c (.int 1))) (.tup [(.c (.str "least")),(.c (.str "most"))])) [(.asg (.nm 4) (.and_ (.cmp .eq (.bi .len [(.v 2)]) (.c (.int 1))) (.cmp .eq (.v 3) (.lst []))))] []),(.if_ (.cmp .in_ (.idx (.v 1) (.c (.int 1))) (.tup [(.c (.str "has")),(.c (.str "lacks")),(.c (.str "in")),(.c (.str "out"))])) [(.asg (.nm 4) (.cmp .eq (.v 2) (.lst [])))] []),(.if_ (.not_ (.v 4)) [(.ret (.c .non))] []),(.ret (.tup [(.idx (.v 1) (.c (.int 0))),(.idx (.v 1) (.c (.int 1))),(.v 2)]))]
noncomputable def d48:Fn:={np:=1,G:={N:=["_law_line_here","_law_words","_law_things","_law_texts","_law_fit"],kd:=[.local,.local,.local,.local,.local],gl:=[0],df:=Δ},body:=b48}
noncomputable def b49:List IS:=
 [(.asg (.nm 1) (.c (.str "none"))),(.asg (.nm 2) (.c .non)),(.tryc 2 38 [(.v 0)] 66 ["NoWord","NoGroup","BadThings","NoLine"] 3 [(.asg (.nm 1) (.call 42 [(.v 3)]))]),(.asg (.nm 4) (.call 48 [(.v 0)])),(.if_ (.cmp .is_ (.v 4) (.c .non)) [(.ret (.cmp .eq (.v 1) (.c (.str "line"))))] []),(.ret (.and_ (.cmp .eq (.v 1) (.c (.str "none"))) (.cmp .eq (.v 2) (.v 4))))]
noncomputable def d49:Fn:={np:=1,G:={N:=["_law_line_here","_law_word_here","_law_found","_law_e","_law_due_here"],kd:=[.local,.local,.local,.local,.local],gl:=[66,38,42,48],df:=Δ,tr:=Δ},body:=b49}
noncomputable def b50:List IS:=
 (.asg (.nm 1) (.call 41 [(.bin .fdiv (.call 39 [(.v 0),(.c (.int 0))]) (.c (.int 5))),(.c (.int 6))]))::(.for_ (.nm 2) (.rng1 (.c (.int 10))) tK)::wD
noncomputable def d50:Fn:={np:=1,G:={N:=["_law_script","_law_names_here","_law_k","_law_cell","_law_line_here","_law_some"],kd:=[.local,.local,.local,.local,.local,.local],gl:=[41,39,15,46,45,44,49],df:=Δ},body:=b50}
noncomputable def T:Tb:=fun n=>match n with
 |30=>Γ d30
 |31=>Γ d31
 |32=>Γ d32
 |33=>Γ d33
 |34=>Γ d34
 |35=>Γ d35
 |36=>Γ d36
 |37=>Γ d37
 |38=>Γ d38
 |39=>Γ d39
 |40=>Γ d40
 |41=>Γ d41
 |42=>Γ d42
 |43=>Γ d43
 |44=>Γ d44
 |45=>Γ d45
 |46=>Γ d46
 |47=>Γ d47
 |48=>Γ d48
 |49=>Γ d49
 |50=>Γ d50
 |_=>Ξ
theorem c30:fA Z d30 ["thing"] (top 20)=Δ:=by decide +kernel
theorem c31:fA Z d31 ["thing","signs","least","most"] (top 21)=Δ:=by decide +kernel
theorem c32:fA Z d32 ["thing","least"] (top 27)=Δ:=by decide +kernel
theorem c33:fA Z d33 ["thing"] (top 28)=Δ:=by decide +kernel
theorem c34:fA Z d34 ["word","things"] (top 29)=Δ:=by decide +kernel
theorem c35:fA Z d35 ["cond","names"] (top 30)=Δ:=by decide +kernel
theorem c36:fA Z d36 ["part"] (top 34)=Δ:=by decide +kernel
theorem c37:fA Z d37 ["part"] (top 35)=Δ:=by decide +kernel
theorem c38:fA Z d38 ["line"] (top 36)=Δ:=by decide +kernel
theorem c39:fA Z d39 ["_law_script","_law_k"] (top 38)=Δ:=by decide +kernel
theorem c40:fA Z d40 ["_law_cell","_law_many"] (top 39)=Δ:=by decide +kernel
theorem c41:fA Z d41 ["_law_cell","_law_many"] (top 40)=Δ:=by decide +kernel
theorem c42:fA Z d42 ["_law_e"] (top 41)=Δ:=by decide +kernel
theorem c43:fA Z d43 ["_law_cell","_law_kind"] (top 42)=Δ:=by decide +kernel
theorem c44:fA Z d44 ["_law_cell","_law_names_here","_law_groups"] (top 43)=Δ:=by decide +kernel
theorem c45:fA Z d45 ["_law_cond_here"] (top 44)=Δ:=by decide +kernel
theorem c46:fA Z d46 ["_law_line_here","_law_cell"] (top 45)=Δ:=by decide +kernel
theorem c47:fA Z d47 ["_law_word_here"] (top 46)=Δ:=by decide +kernel
theorem c48:fA Z d48 ["_law_line_here"] (top 47)=Δ:=by decide +kernel
theorem c49:fA Z d49 ["_law_line_here"] (top 48)=Δ:=by decide +kernel
theorem c50:fA Z d50 ["_law_script"] (top 49)=Δ:=by decide +kernel
theorem wF:∀n x,Z.name n=Γ x->x≠"__name__"/\(x == ("__debug__" : Str))=Θ:=by
 have h:(fT++Z.nm).all (fun x=>!(x == "__name__")&&!(x == "__debug__"))=Δ:=by decide +kernel
 intro n x hx;have:=zY.mp h x (Af hx);simpa using this
@[elab_as_elim] theorem lnS {P:List Φ->Prop}{n:Nat} (us:List Φ) (e:us.length=n+1) (h:∀(x:Φ) (us:List Φ),us.length=n->P (x::us)):P us:=by
 cases us with
 |nil=>cases e
 |cons x us=>exact h x us (Nat.succ.inj e)
@[elab_as_elim] theorem lnZ {P:List Φ->Prop} (us:List Φ) (e:us.length=0) (h:P []):P us:=by
 cases us with
 |nil=>exact h
 |cons x us=>cases e
theorem ln1 {fd:Ν}{ps:List Str}(h:∀x0:Φ,bindArgs fd ⟨[x0],[]⟩=pure (ps.zip [x0]))(us:List Φ)(e:us.length=1):bindArgs fd ⟨us,[]⟩=pure (ps.zip us):=lnS us e fun x0 us e=>lnZ us e (h x0)
theorem ln2 {fd:Ν}{ps:List Str}(h:∀x0 x1:Φ,bindArgs fd ⟨[x0,x1],[]⟩=pure (ps.zip [x0,x1]))(us:List Φ)(e:us.length=2):bindArgs fd ⟨us,[]⟩=pure (ps.zip us):=lnS us e fun x0 us e=>lnS us e fun x1 us e=>lnZ us e (h x0 x1)
theorem ln3 {fd:Ν}{ps:List Str}(h:∀x0 x1 x2:Φ,bindArgs fd ⟨[x0,x1,x2],[]⟩=pure (ps.zip [x0,x1,x2]))(us:List Φ)(e:us.length=3):bindArgs fd ⟨us,[]⟩=pure (ps.zip us):=lnS us e fun x0 us e=>lnS us e fun x1 us e=>lnS us e fun x2 us e=>lnZ us e (h x0 x1 x2)
theorem ln4 {fd:Ν}{ps:List Str}(h:∀x0 x1 x2 x3:Φ,bindArgs fd ⟨[x0,x1,x2,x3],[]⟩=pure (ps.zip [x0,x1,x2,x3]))(us:List Φ)(e:us.length=4):bindArgs fd ⟨us,[]⟩=pure (ps.zip us):=lnS us e fun x0 us e=>lnS us e fun x1 us e=>lnS us e fun x2 us e=>lnS us e fun x3 us e=>lnZ us e (h x0 x1 x2 x3)
theorem dfo {f:Nat}{x:Str}{fn:Fn}{st:Stmt}{fa:Ψ}{ps:List Str}{K:W.Frag}{h:Heap}{mg:Str->Option Φ}{oc:Φ}{od an:Option Ψ}{sl:Array (Option Φ)}{kV dc pm cd ct:Φ}(c:fA Z fn ps st=Δ)(hT:T f=Γ fn)(b:∀(kV dc pm:Φ)(an:Option Ψ)(cd ct:Φ)(us:List Φ),us.length=ps.length->bindArgs (W.fnOf x x (gG st) (fV st) (e6 st) .none kV dc pm an cd ct) ⟨us,[]⟩=pure (ps.zip us))(X:K.In h)(G:h.Ns Ζ mg)
  (a:W.nsIn K Ζ x=Γ (Γ (.ref fa))) (l:K.lookup fa=Γ ⟨oc,od,.func (W.fnOf x x (gG st) (fV st) (e6 st) .none kV dc pm an cd ct),sl⟩) (e:W.codeIn K cd x=Δ) (k:W.keepIn K (.ref fa)=Δ):DefOk K mg Z T f x:=⟨fn,st,fa,_,ps,hT,ni l e k,W.mg_of X G a,(ni l e k).binds b,mO c⟩
noncomputable def tM:Nat:=50
noncomputable def tN:Str:="_law_script"
theorem all_mk {l:PySem.W.OpenLaw}{w:Α}{fa:Ψ}{w51 w52 w53 w54 w55 w56 w57 w58 w59 w60 w61 w62 w63 w64 w66:Ψ}{K:W.Frag}{h:Heap}{mg:Str->Option Φ}{f50:Ψ}{od50 an50:Option Ψ}{sl50:Array (Option Φ)}{oc50 kV50 dc50 pm50 cd50 ct50:Φ}{t21:Tok}{t22:Tok}{t23:Tok}{t25:Tok}{t26:Tok}{t27:Tok}{t28:Tok}{t29:Tok}{g24:Ψ}{od24:Option Ψ}{nn24:Nat}{sl24:Array (Option Φ)}{u24_0 u24_1 u24_2 u24_3 u24_4 u24_5 u24_6 u24_7 u24_8:Tok}(X:K.In h)(G:h.Ns Ζ mg)(hfa:mg "law" = Γ (.ref fa))
  (t30:DefOk K mg Z T 30 "is_whole")
  (t31:DefOk K mg Z T 31 "is_text_of")
  (t32:DefOk K mg Z T 32 "is_told_text")
  (t33:DefOk K mg Z T 33 "is_told_number")
  (t34:DefOk K mg Z T 34 "things_go")
  (t35:DefOk K mg Z T 35 "cond_checked")
  (t36:DefOk K mg Z T 36 "is_written_number")
  (t37:DefOk K mg Z T 37 "read_thing")
  (t38:DefOk K mg Z T 38 "read_cond")
  (t39:DefOk K mg Z T 39 "_law_cell_at")
  (t40:DefOk K mg Z T 40 "_law_stream")
  (t41:DefOk K mg Z T 41 "_law_names")
  (t42:DefOk K mg Z T 42 "_law_word")
  (t43:DefOk K mg Z T 43 "_law_told")
  (t44:DefOk K mg Z T 44 "_law_cond")
  (t45:DefOk K mg Z T 45 "_law_line")
  (t46:DefOk K mg Z T 46 "_law_changed")
  (t47:DefOk K mg Z T 47 "_law_read")
  (t48:DefOk K mg Z T 48 "_law_due")
  (t49:DefOk K mg Z T 49 "_law_right")
  (a50:W.nsIn K Ζ "law" = Γ (Γ (.ref f50))) (l50:K.lookup f50=Γ ⟨oc50,od50,.func (W.fnOf "law" "law" (gG (top 49)) (fV (top 49)) (e6 (top 49)) .none kV50 dc50 pm50 an50 cd50 ct50),sl50⟩) (e50:W.codeIn K cd50 "law" = Δ) (k50:W.keepIn K (.ref f50)=Δ)
  (q21:W.nsIn K Ζ "LETTERS" = Γ (Γ (.str "abcdefghijklmnopqrstuvwxyz" t21)))
  (q22:W.nsIn K Ζ "FIGURES" = Γ (Γ (.str "0123456789" t22)))
  (q23:W.nsIn K Ζ "SIGNS" = Γ (Γ (.str "abcdefghijklmnopqrstuvwxyz0123456789" t23)))
  (q24:W.nsIn K Ζ "WORDS" = Γ (Γ (.ref g24))) (r24:K.lookup g24=Γ ⟨.type "tuple",od24,.seq #[.str "is" u24_0,.str "not" u24_1,.str "begins" u24_2,.str "least" u24_3,.str "most" u24_4,.str "has" u24_5,.str "lacks" u24_6,.str "in" u24_7,.str "out" u24_8] nn24,sl24⟩)
  (q25:W.nsIn K Ζ "MOST_THINGS" = Γ (Γ (.int 10 t25)))
  (q26:W.nsIn K Ζ "GREATEST_TOLD" = Γ (Γ (.int 999999999 t26)))
  (q27:W.nsIn K Ζ "LONGEST_TOLD" = Γ (Γ (.int 8 t27)))
  (q28:W.nsIn K Ζ "LONGEST_NAME" = Γ (Γ (.int 8 t28)))
  (q29:W.nsIn K Ζ "MOST_FIGURES" = Γ (Γ (.int 9 t29)))
  (u51:W.nsIn K Ζ "NoWord" = Γ (Γ (.ref w51)))
  (u52:W.nsIn K Ζ "NoGroup" = Γ (Γ (.ref w52)))
  (u53:W.nsIn K Ζ "BadThings" = Γ (Γ (.ref w53)))
  (u54:W.nsIn K Ζ "NoLine" = Γ (Γ (.ref w54)))
  (u55:W.nsIn K Ζ "NoSalt" = Γ (Γ (.ref w55)))
  (u56:W.nsIn K Ζ "NoFace" = Γ (Γ (.ref w56)))
  (u57:W.nsIn K Ζ "Twice" = Γ (Γ (.ref w57)))
  (u58:W.nsIn K Ζ "BadShare" = Γ (Γ (.ref w58)))
  (u59:W.nsIn K Ζ "TooMuch" = Γ (Γ (.ref w59)))
  (u60:W.nsIn K Ζ "BadStage" = Γ (Γ (.ref w60)))
  (u61:W.nsIn K Ζ "BadOutcome" = Γ (Γ (.ref w61)))
  (u62:W.nsIn K Ζ "NoSwitch" = Γ (Γ (.ref w62)))
  (u63:W.nsIn K Ζ "NoRule" = Γ (Γ (.ref w63)))
  (u64:W.nsIn K Ζ "Unlike" = Γ (Γ (.ref w64)))
  (u66:W.nsIn K Ζ "RollError" = Γ (Γ (.ref w66)))
  (u65:W.nsIn K Ζ "ValueError" = Γ Ξ)
  (vn51:nameIn K w51=Γ "NoWord")
  (vg51:W.findIn K (.ref w51) "__getattribute__" = Γ (Γ (.builtin "BaseException.__getattribute__")))
  (vo51:W.findIn K (.ref w51) "__getattr__" = Γ Ξ)
  (vc51:W.findIn K (.ref w51) "__class__" = Γ (Γ (.builtin "object.__class__")))
  (vb51:W.mroIn K w51 (.type "BaseException")=Γ Δ)
  (vj51:W.mroIn K w51 (.type "object")=Γ Δ)
  (vi51:(W.clsIn K w51).isSome=Δ)
  (vx51:W.excIn K w51 bmV "ValueError.__new__" = Δ)
  (y51_55:W.kitOne K (.ref w51) (.ref w55)=Γ Θ)
  (y51_56:W.kitOne K (.ref w51) (.ref w56)=Γ Θ)
  (y51_57:W.kitOne K (.ref w51) (.ref w57)=Γ Θ)
  (y51_58:W.kitOne K (.ref w51) (.ref w58)=Γ Θ)
  (y51_59:W.kitOne K (.ref w51) (.ref w59)=Γ Θ)
  (y51_51:W.kitOne K (.ref w51) (.ref w51)=Γ Δ)
  (y51_52:W.kitOne K (.ref w51) (.ref w52)=Γ Θ)
  (y51_53:W.kitOne K (.ref w51) (.ref w53)=Γ Θ)
  (y51_54:W.kitOne K (.ref w51) (.ref w54)=Γ Θ)
  (y51_60:W.kitOne K (.ref w51) (.ref w60)=Γ Θ)
  (y51_61:W.kitOne K (.ref w51) (.ref w61)=Γ Θ)
  (y51_62:W.kitOne K (.ref w51) (.ref w62)=Γ Θ)
  (y51_63:W.kitOne K (.ref w51) (.ref w63)=Γ Θ)
  (y51_64:W.kitOne K (.ref w51) (.ref w64)=Γ Θ)
  (y51_65:W.kitOne K (.ref w51) (.type "ValueError")=Γ Δ)
  (m51_51:W.exmOne K (.ref w51) (.ref w51)=Γ Δ)
  (m51_53:W.exmOne K (.ref w51) (.ref w53)=Γ Θ)
  (m51_66:W.exmOne K (.ref w51) (.ref w66)=Γ Δ)
  (vn52:nameIn K w52=Γ "NoGroup")
  (vg52:W.findIn K (.ref w52) "__getattribute__" = Γ (Γ (.builtin "BaseException.__getattribute__")))
  (vo52:W.findIn K (.ref w52) "__getattr__" = Γ Ξ)
  (vc52:W.findIn K (.ref w52) "__class__" = Γ (Γ (.builtin "object.__class__")))
  (vb52:W.mroIn K w52 (.type "BaseException")=Γ Δ)
  (vj52:W.mroIn K w52 (.type "object")=Γ Δ)
  (vi52:(W.clsIn K w52).isSome=Δ)
  (vx52:W.excIn K w52 bmV "ValueError.__new__" = Δ)
  (y52_55:W.kitOne K (.ref w52) (.ref w55)=Γ Θ)
  (y52_56:W.kitOne K (.ref w52) (.ref w56)=Γ Θ)
  (y52_57:W.kitOne K (.ref w52) (.ref w57)=Γ Θ)
  (y52_58:W.kitOne K (.ref w52) (.ref w58)=Γ Θ)
  (y52_59:W.kitOne K (.ref w52) (.ref w59)=Γ Θ)
  (y52_51:W.kitOne K (.ref w52) (.ref w51)=Γ Θ)
  (y52_52:W.kitOne K (.ref w52) (.ref w52)=Γ Δ)
  (y52_53:W.kitOne K (.ref w52) (.ref w53)=Γ Θ)
  (y52_54:W.kitOne K (.ref w52) (.ref w54)=Γ Θ)
  (y52_60:W.kitOne K (.ref w52) (.ref w60)=Γ Θ)
  (y52_61:W.kitOne K (.ref w52) (.ref w61)=Γ Θ)
  (y52_62:W.kitOne K (.ref w52) (.ref w62)=Γ Θ)
  (y52_63:W.kitOne K (.ref w52) (.ref w63)=Γ Θ)
  (y52_64:W.kitOne K (.ref w52) (.ref w64)=Γ Θ)
  (y52_65:W.kitOne K (.ref w52) (.type "ValueError")=Γ Δ)
  (m52_51:W.exmOne K (.ref w52) (.ref w51)=Γ Θ)
  (m52_53:W.exmOne K (.ref w52) (.ref w53)=Γ Θ)
  (m52_66:W.exmOne K (.ref w52) (.ref w66)=Γ Δ)
  (vn53:nameIn K w53=Γ "BadThings")
  (vg53:W.findIn K (.ref w53) "__getattribute__" = Γ (Γ (.builtin "BaseException.__getattribute__")))
  (vo53:W.findIn K (.ref w53) "__getattr__" = Γ Ξ)
  (vc53:W.findIn K (.ref w53) "__class__" = Γ (Γ (.builtin "object.__class__")))
  (vb53:W.mroIn K w53 (.type "BaseException")=Γ Δ)
  (vj53:W.mroIn K w53 (.type "object")=Γ Δ)
  (vi53:(W.clsIn K w53).isSome=Δ)
  (vx53:W.excIn K w53 bmV "ValueError.__new__" = Δ)
  (y53_55:W.kitOne K (.ref w53) (.ref w55)=Γ Θ)
  (y53_56:W.kitOne K (.ref w53) (.ref w56)=Γ Θ)
  (y53_57:W.kitOne K (.ref w53) (.ref w57)=Γ Θ)
  (y53_58:W.kitOne K (.ref w53) (.ref w58)=Γ Θ)
  (y53_59:W.kitOne K (.ref w53) (.ref w59)=Γ Θ)
  (y53_51:W.kitOne K (.ref w53) (.ref w51)=Γ Θ)
  (y53_52:W.kitOne K (.ref w53) (.ref w52)=Γ Θ)
  (y53_53:W.kitOne K (.ref w53) (.ref w53)=Γ Δ)
  (y53_54:W.kitOne K (.ref w53) (.ref w54)=Γ Θ)
  (y53_60:W.kitOne K (.ref w53) (.ref w60)=Γ Θ)
  (y53_61:W.kitOne K (.ref w53) (.ref w61)=Γ Θ)
  (y53_62:W.kitOne K (.ref w53) (.ref w62)=Γ Θ)
  (y53_63:W.kitOne K (.ref w53) (.ref w63)=Γ Θ)
  (y53_64:W.kitOne K (.ref w53) (.ref w64)=Γ Θ)
  (y53_65:W.kitOne K (.ref w53) (.type "ValueError")=Γ Δ)
  (m53_51:W.exmOne K (.ref w53) (.ref w51)=Γ Θ)
  (m53_53:W.exmOne K (.ref w53) (.ref w53)=Γ Δ)
  (m53_66:W.exmOne K (.ref w53) (.ref w66)=Γ Δ)
  (vn54:nameIn K w54=Γ "NoLine")
  (vg54:W.findIn K (.ref w54) "__getattribute__" = Γ (Γ (.builtin "BaseException.__getattribute__")))
  (vo54:W.findIn K (.ref w54) "__getattr__" = Γ Ξ)
  (vc54:W.findIn K (.ref w54) "__class__" = Γ (Γ (.builtin "object.__class__")))
  (vb54:W.mroIn K w54 (.type "BaseException")=Γ Δ)
  (vj54:W.mroIn K w54 (.type "object")=Γ Δ)
  (vi54:(W.clsIn K w54).isSome=Δ)
  (vx54:W.excIn K w54 bmV "ValueError.__new__" = Δ)
  (y54_55:W.kitOne K (.ref w54) (.ref w55)=Γ Θ)
  (y54_56:W.kitOne K (.ref w54) (.ref w56)=Γ Θ)
  (y54_57:W.kitOne K (.ref w54) (.ref w57)=Γ Θ)
  (y54_58:W.kitOne K (.ref w54) (.ref w58)=Γ Θ)
  (y54_59:W.kitOne K (.ref w54) (.ref w59)=Γ Θ)
  (y54_51:W.kitOne K (.ref w54) (.ref w51)=Γ Θ)
  (y54_52:W.kitOne K (.ref w54) (.ref w52)=Γ Θ)
  (y54_53:W.kitOne K (.ref w54) (.ref w53)=Γ Θ)
  (y54_54:W.kitOne K (.ref w54) (.ref w54)=Γ Δ)
  (y54_60:W.kitOne K (.ref w54) (.ref w60)=Γ Θ)
  (y54_61:W.kitOne K (.ref w54) (.ref w61)=Γ Θ)
  (y54_62:W.kitOne K (.ref w54) (.ref w62)=Γ Θ)
  (y54_63:W.kitOne K (.ref w54) (.ref w63)=Γ Θ)
  (y54_64:W.kitOne K (.ref w54) (.ref w64)=Γ Θ)
  (y54_65:W.kitOne K (.ref w54) (.type "ValueError")=Γ Δ)
  (m54_51:W.exmOne K (.ref w54) (.ref w51)=Γ Θ)
  (m54_53:W.exmOne K (.ref w54) (.ref w53)=Γ Θ)
  (m54_66:W.exmOne K (.ref w54) (.ref w66)=Γ Δ)
  (z0:W.nsIn K Ζ "len" = Γ Ξ)
  (z1:W.nsIn K Ζ "sum" = Γ Ξ)
  (z2:W.nsIn K Ζ "min" = Γ Ξ)
  (z3:W.nsIn K Ζ "max" = Γ Ξ)
  (z4:W.nsIn K Ζ "sorted" = Γ Ξ)
  (z5:W.nsIn K Ζ "list" = Γ Ξ)
  (z6:W.nsIn K Ζ "tuple" = Γ Ξ)
  (z7:W.nsIn K Ζ "ord" = Γ Ξ)
  (z8:W.nsIn K Ζ "int" = Γ Ξ)
  (z9:W.nsIn K Ζ "all" = Γ Ξ)
  (z10:W.nsIn K Ζ "any" = Γ Ξ)
  (z11:W.nsIn K Ζ "str" = Γ Ξ)
  (z12:W.nsIn K Ζ "set" = Γ Ξ)
  (z13:W.nsIn K Ζ "abs" = Γ Ξ)
  (z14:W.nsIn K Ζ "isinstance" = Γ Ξ)
  (z15:W.nsIn K Ζ "range" = Γ Ξ)
  (z16:W.nsIn K Ζ "bool" = Γ Ξ)
  (z17:W.nsIn K Ζ "zip" = Γ Ξ)
  (z18:W.nsIn K Ζ "reversed" = Γ Ξ)
  (z19:W.nsIn K Ζ "dict" = Γ Ξ)
  (z20:W.nsIn K Ζ "enumerate" = Γ Ξ) :
  ∃fd:Ν,(∀(s:Ω) (v:Φ),BindsTo s fd ⟨[v],[]⟩ [(tN,v)])/\∀base:Heap,K.In base->base.Ns Ζ mg->FnOk l.prog w K mg base (CX1 l.prog w) (16+1) fa fd [tN] (spL K (b9 T (16+1)) tM [tN]):=by
 have e:=hfa.symm.trans (PySem.W.mg_of X G a50);cases e;have t:TopOk K mg Z T:=by
  constructor
  case nam=>
   exact wF
  case blt=>
   exact fun n x hx=>by
    have key:∀y∈fT,mg y=Ξ:=by
     intro y hy;simp only[fT,p_,Ao,or_false]at hy;rcases hy with rfl|rfl|rfl|rfl|rfl|rfl|rfl|rfl|rfl|rfl|rfl|rfl|rfl|rfl|rfl|rfl|rfl|rfl|rfl|rfl|rfl
     ·exact t_ X G z0
     ·exact t_ X G z1
     ·exact t_ X G z2
     ·exact t_ X G z3
     ·exact t_ X G z4
     ·exact t_ X G z5
     ·exact t_ X G z6
     ·exact t_ X G z7
     ·exact t_ X G z8
     ·exact t_ X G z9
     ·exact t_ X G z10
     ·exact t_ X G z11
     ·exact t_ X G z12
     ·exact t_ X G z13
     ·exact t_ X G z14
     ·exact t_ X G z15
     ·exact t_ X G z16
     ·exact t_ X G z17
     ·exact t_ X G z18
     ·exact t_ X G z19
     ·exact t_ X G z20
    exact key x (Af hx)
  case cst=>
   exact fun n d x hm hx=>by
    have hm':(n,d)∈([(21,(.str "abcdefghijklmnopqrstuvwxyz")),(22,(.str "0123456789")),(23,(.str "abcdefghijklmnopqrstuvwxyz0123456789")),(24,(.tup [(.str "is"),(.str "not"),(.str "begins"),(.str "least"),(.str "most"),(.str "has"),(.str "lacks"),(.str "in"),(.str "out")])),(25,(.int 10)),(26,(.int 999999999)),(27,(.int 8)),(28,(.int 8)),(29,(.int 9))]:List (Nat×D)):=hm;simp only[p_,Ao,or_false,Prod.mk.injEq]at hm';rcases hm' with⟨rfl,rfl⟩|⟨rfl,rfl⟩|⟨rfl,rfl⟩|⟨rfl,rfl⟩|⟨rfl,rfl⟩|⟨rfl,rfl⟩|⟨rfl,rfl⟩|⟨rfl,rfl⟩|⟨rfl,rfl⟩
    ·cases hx;exact⟨_,.str _,PySem.W.mg_of X G q21,⟨_,rfl⟩,fun _ _=>.str _⟩
    ·cases hx;exact⟨_,.str _,PySem.W.mg_of X G q22,⟨_,rfl⟩,fun _ _=>.str _⟩
    ·cases hx;exact⟨_,.str _,PySem.W.mg_of X G q23,⟨_,rfl⟩,fun _ _=>.str _⟩
    ·cases hx;exact⟨_,.ref _,PySem.W.mg_of X G q24,rfl,fun _ _=>.tup (sN [("is",_),("not",_),("begins",_),("least",_),("most",_),("has",_),("lacks",_),("in",_),("out",_)] r24 (Nat.le_of_ble_eq_true rfl)) (.cons (.str _) (.cons (.str _) (.cons (.str _) (.cons (.str _) (.cons (.str _) (.cons (.str _) (.cons (.str _) (.cons (.str _) (.cons (.str _) .nil)))))))))⟩
    ·cases hx;exact⟨_,.int _,PySem.W.mg_of X G q25,⟨_,rfl⟩,fun _ _=>.int _⟩
    ·cases hx;exact⟨_,.int _,PySem.W.mg_of X G q26,⟨_,rfl⟩,fun _ _=>.int _⟩
    ·cases hx;exact⟨_,.int _,PySem.W.mg_of X G q27,⟨_,rfl⟩,fun _ _=>.int _⟩
    ·cases hx;exact⟨_,.int _,PySem.W.mg_of X G q28,⟨_,rfl⟩,fun _ _=>.int _⟩
    ·cases hx;exact⟨_,.int _,PySem.W.mg_of X G q29,⟨_,rfl⟩,fun _ _=>.int _⟩
  case fns=>
   exact fun f hf x hx=>by
    have hf':f∈([30,31,32,33,34,35,36,37,38,39,40,41,42,43,44,45,46,47,48,49,50]:List Nat):=hf;simp only[p_,Ao,or_false]at hf';rcases hf' with rfl|rfl|rfl|rfl|rfl|rfl|rfl|rfl|rfl|rfl|rfl|rfl|rfl|rfl|rfl|rfl|rfl|rfl|rfl|rfl|rfl
    ·cases hx;exact t30
    ·cases hx;exact t31
    ·cases hx;exact t32
    ·cases hx;exact t33
    ·cases hx;exact t34
    ·cases hx;exact t35
    ·cases hx;exact t36
    ·cases hx;exact t37
    ·cases hx;exact t38
    ·cases hx;exact t39
    ·cases hx;exact t40
    ·cases hx;exact t41
    ·cases hx;exact t42
    ·cases hx;exact t43
    ·cases hx;exact t44
    ·cases hx;exact t45
    ·cases hx;exact t46
    ·cases hx;exact t47
    ·cases hx;exact t48
    ·cases hx;exact t49
    ·cases hx;exact dfo c50 rfl (fun _ _ _ _ _ _=>ln1 fun _=>rfl) X G a50 l50 e50 k50
  case fio=>
   exact fun f hf=>absurd (show f∈([]:List Nat) from hf) (by simp)
  case plc=>
   exact fun f hf fn e=>by
    have hf':f∈([42]:List Nat):=hf;simp only[p_,Ao,or_false]at hf';rcases hf' with rfl
    ·cases e;rfl
  case xcv=>
   exact fun n hn x hx=>by
    have hn':n∈([55,56,57,58,59,51,52,53,54,60,61,62,63,64,65]:List Nat):=hn;simp only[p_,Ao,or_false]at hn';rcases hn' with rfl|rfl|rfl|rfl|rfl|rfl|rfl|rfl|rfl|rfl|rfl|rfl|rfl|rfl|rfl
    ·cases hx;exact⟨_,(.inl ⟨w55,rfl,PySem.W.mg_of X G u55⟩)⟩
    ·cases hx;exact⟨_,(.inl ⟨w56,rfl,PySem.W.mg_of X G u56⟩)⟩
    ·cases hx;exact⟨_,(.inl ⟨w57,rfl,PySem.W.mg_of X G u57⟩)⟩
    ·cases hx;exact⟨_,(.inl ⟨w58,rfl,PySem.W.mg_of X G u58⟩)⟩
    ·cases hx;exact⟨_,(.inl ⟨w59,rfl,PySem.W.mg_of X G u59⟩)⟩
    ·cases hx;exact⟨_,(.inl ⟨w51,rfl,PySem.W.mg_of X G u51⟩)⟩
    ·cases hx;exact⟨_,(.inl ⟨w52,rfl,PySem.W.mg_of X G u52⟩)⟩
    ·cases hx;exact⟨_,(.inl ⟨w53,rfl,PySem.W.mg_of X G u53⟩)⟩
    ·cases hx;exact⟨_,(.inl ⟨w54,rfl,PySem.W.mg_of X G u54⟩)⟩
    ·cases hx;exact⟨_,(.inl ⟨w60,rfl,PySem.W.mg_of X G u60⟩)⟩
    ·cases hx;exact⟨_,(.inl ⟨w61,rfl,PySem.W.mg_of X G u61⟩)⟩
    ·cases hx;exact⟨_,(.inl ⟨w62,rfl,PySem.W.mg_of X G u62⟩)⟩
    ·cases hx;exact⟨_,(.inl ⟨w63,rfl,PySem.W.mg_of X G u63⟩)⟩
    ·cases hx;exact⟨_,(.inl ⟨w64,rfl,PySem.W.mg_of X G u64⟩)⟩
    ·cases hx;exact⟨_,(.inr ⟨"ValueError",rfl,t_ X G u65,by decide +kernel⟩)⟩
  case xcl=>
   exact fun c n b x hm hx=>by
    have hm':(c,n,b)∈([(Ο "NoWord",55,Θ),(Ο "NoWord",56,Θ),(Ο "NoWord",57,Θ),(Ο "NoWord",58,Θ),(Ο "NoWord",59,Θ),(Ο "NoWord",51,Δ),(Ο "NoWord",52,Θ),(Ο "NoWord",53,Θ),(Ο "NoWord",54,Θ),(Ο "NoWord",60,Θ),(Ο "NoWord",61,Θ),(Ο "NoWord",62,Θ),(Ο "NoWord",63,Θ),(Ο "NoWord",64,Θ),(Ο "NoWord",65,Δ),(Ο "NoGroup",55,Θ),(Ο "NoGroup",56,Θ),(Ο "NoGroup",57,Θ),(Ο "NoGroup",58,Θ),(Ο "NoGroup",59,Θ),(Ο "NoGroup",51,Θ),(Ο "NoGroup",52,Δ),(Ο "NoGroup",53,Θ),(Ο "NoGroup",54,Θ),(Ο "NoGroup",60,Θ),(Ο "NoGroup",61,Θ),(Ο "NoGroup",62,Θ),(Ο "NoGroup",63,Θ),(Ο "NoGroup",64,Θ),(Ο "NoGroup",65,Δ),(Ο "BadThings",55,Θ),(Ο "BadThings",56,Θ),(Ο "BadThings",57,Θ),(Ο "BadThings",58,Θ),(Ο "BadThings",59,Θ),(Ο "BadThings",51,Θ),(Ο "BadThings",52,Θ),(Ο "BadThings",53,Δ),(Ο "BadThings",54,Θ),(Ο "BadThings",60,Θ),(Ο "BadThings",61,Θ),(Ο "BadThings",62,Θ),(Ο "BadThings",63,Θ),(Ο "BadThings",64,Θ),(Ο "BadThings",65,Δ),(Ο "NoLine",55,Θ),(Ο "NoLine",56,Θ),(Ο "NoLine",57,Θ),(Ο "NoLine",58,Θ),(Ο "NoLine",59,Θ),(Ο "NoLine",51,Θ),(Ο "NoLine",52,Θ),(Ο "NoLine",53,Θ),(Ο "NoLine",54,Δ),(Ο "NoLine",60,Θ),(Ο "NoLine",61,Θ),(Ο "NoLine",62,Θ),(Ο "NoLine",63,Θ),(Ο "NoLine",64,Θ),(Ο "NoLine",65,Δ)]:List (Str×Nat×Bool)):=hm;simp only[p_,Ao,or_false,Prod.mk.injEq]at hm';rcases hm' with⟨rfl,rfl,rfl⟩|⟨rfl,rfl,rfl⟩|⟨rfl,rfl,rfl⟩|⟨rfl,rfl,rfl⟩|⟨rfl,rfl,rfl⟩|⟨rfl,rfl,rfl⟩|⟨rfl,rfl,rfl⟩|⟨rfl,rfl,rfl⟩|⟨rfl,rfl,rfl⟩|⟨rfl,rfl,rfl⟩|⟨rfl,rfl,rfl⟩|⟨rfl,rfl,rfl⟩|⟨rfl,rfl,rfl⟩|⟨rfl,rfl,rfl⟩|⟨rfl,rfl,rfl⟩|⟨rfl,rfl,rfl⟩|⟨rfl,rfl,rfl⟩|⟨rfl,rfl,rfl⟩|⟨rfl,rfl,rfl⟩|⟨rfl,rfl,rfl⟩|⟨rfl,rfl,rfl⟩|⟨rfl,rfl,rfl⟩|⟨rfl,rfl,rfl⟩|⟨rfl,rfl,rfl⟩|⟨rfl,rfl,rfl⟩|⟨rfl,rfl,rfl⟩|⟨rfl,rfl,rfl⟩|⟨rfl,rfl,rfl⟩|⟨rfl,rfl,rfl⟩|⟨rfl,rfl,rfl⟩|⟨rfl,rfl,rfl⟩|⟨rfl,rfl,rfl⟩|⟨rfl,rfl,rfl⟩|⟨rfl,rfl,rfl⟩|⟨rfl,rfl,rfl⟩|⟨rfl,rfl,rfl⟩|⟨rfl,rfl,rfl⟩|⟨rfl,rfl,rfl⟩|⟨rfl,rfl,rfl⟩|⟨rfl,rfl,rfl⟩|⟨rfl,rfl,rfl⟩|⟨rfl,rfl,rfl⟩|⟨rfl,rfl,rfl⟩|⟨rfl,rfl,rfl⟩|⟨rfl,rfl,rfl⟩|⟨rfl,rfl,rfl⟩|⟨rfl,rfl,rfl⟩|⟨rfl,rfl,rfl⟩|⟨rfl,rfl,rfl⟩|⟨rfl,rfl,rfl⟩|⟨rfl,rfl,rfl⟩|⟨rfl,rfl,rfl⟩|⟨rfl,rfl,rfl⟩|⟨rfl,rfl,rfl⟩|⟨rfl,rfl,rfl⟩|⟨rfl,rfl,rfl⟩|⟨rfl,rfl,rfl⟩|⟨rfl,rfl,rfl⟩|⟨rfl,rfl,rfl⟩|⟨rfl,rfl,rfl⟩
    ·cases hx;exact⟨w51,u51,⟨vg51,vo51,vc51,vb51,vj51,vi51⟩,fun v hv=>by rw[CVk.fn hv (.inl ⟨w55,rfl,PySem.W.mg_of X G u55⟩)];exact y51_55⟩
    ·cases hx;exact⟨w51,u51,⟨vg51,vo51,vc51,vb51,vj51,vi51⟩,fun v hv=>by rw[CVk.fn hv (.inl ⟨w56,rfl,PySem.W.mg_of X G u56⟩)];exact y51_56⟩
    ·cases hx;exact⟨w51,u51,⟨vg51,vo51,vc51,vb51,vj51,vi51⟩,fun v hv=>by rw[CVk.fn hv (.inl ⟨w57,rfl,PySem.W.mg_of X G u57⟩)];exact y51_57⟩
    ·cases hx;exact⟨w51,u51,⟨vg51,vo51,vc51,vb51,vj51,vi51⟩,fun v hv=>by rw[CVk.fn hv (.inl ⟨w58,rfl,PySem.W.mg_of X G u58⟩)];exact y51_58⟩
    ·cases hx;exact⟨w51,u51,⟨vg51,vo51,vc51,vb51,vj51,vi51⟩,fun v hv=>by rw[CVk.fn hv (.inl ⟨w59,rfl,PySem.W.mg_of X G u59⟩)];exact y51_59⟩
    ·cases hx;exact⟨w51,u51,⟨vg51,vo51,vc51,vb51,vj51,vi51⟩,fun v hv=>by rw[CVk.fn hv (.inl ⟨w51,rfl,PySem.W.mg_of X G u51⟩)];exact y51_51⟩
    ·cases hx;exact⟨w51,u51,⟨vg51,vo51,vc51,vb51,vj51,vi51⟩,fun v hv=>by rw[CVk.fn hv (.inl ⟨w52,rfl,PySem.W.mg_of X G u52⟩)];exact y51_52⟩
    ·cases hx;exact⟨w51,u51,⟨vg51,vo51,vc51,vb51,vj51,vi51⟩,fun v hv=>by rw[CVk.fn hv (.inl ⟨w53,rfl,PySem.W.mg_of X G u53⟩)];exact y51_53⟩
    ·cases hx;exact⟨w51,u51,⟨vg51,vo51,vc51,vb51,vj51,vi51⟩,fun v hv=>by rw[CVk.fn hv (.inl ⟨w54,rfl,PySem.W.mg_of X G u54⟩)];exact y51_54⟩
    ·cases hx;exact⟨w51,u51,⟨vg51,vo51,vc51,vb51,vj51,vi51⟩,fun v hv=>by rw[CVk.fn hv (.inl ⟨w60,rfl,PySem.W.mg_of X G u60⟩)];exact y51_60⟩
    ·cases hx;exact⟨w51,u51,⟨vg51,vo51,vc51,vb51,vj51,vi51⟩,fun v hv=>by rw[CVk.fn hv (.inl ⟨w61,rfl,PySem.W.mg_of X G u61⟩)];exact y51_61⟩
    ·cases hx;exact⟨w51,u51,⟨vg51,vo51,vc51,vb51,vj51,vi51⟩,fun v hv=>by rw[CVk.fn hv (.inl ⟨w62,rfl,PySem.W.mg_of X G u62⟩)];exact y51_62⟩
    ·cases hx;exact⟨w51,u51,⟨vg51,vo51,vc51,vb51,vj51,vi51⟩,fun v hv=>by rw[CVk.fn hv (.inl ⟨w63,rfl,PySem.W.mg_of X G u63⟩)];exact y51_63⟩
    ·cases hx;exact⟨w51,u51,⟨vg51,vo51,vc51,vb51,vj51,vi51⟩,fun v hv=>by rw[CVk.fn hv (.inl ⟨w64,rfl,PySem.W.mg_of X G u64⟩)];exact y51_64⟩
    ·cases hx;exact⟨w51,u51,⟨vg51,vo51,vc51,vb51,vj51,vi51⟩,fun v hv=>by rw[CVk.fn hv (.inr ⟨"ValueError",rfl,t_ X G u65,by decide +kernel⟩)];exact y51_65⟩
    ·cases hx;exact⟨w52,u52,⟨vg52,vo52,vc52,vb52,vj52,vi52⟩,fun v hv=>by rw[CVk.fn hv (.inl ⟨w55,rfl,PySem.W.mg_of X G u55⟩)];exact y52_55⟩
    ·cases hx;exact⟨w52,u52,⟨vg52,vo52,vc52,vb52,vj52,vi52⟩,fun v hv=>by rw[CVk.fn hv (.inl ⟨w56,rfl,PySem.W.mg_of X G u56⟩)];exact y52_56⟩
    ·cases hx;exact⟨w52,u52,⟨vg52,vo52,vc52,vb52,vj52,vi52⟩,fun v hv=>by rw[CVk.fn hv (.inl ⟨w57,rfl,PySem.W.mg_of X G u57⟩)];exact y52_57⟩
    ·cases hx;exact⟨w52,u52,⟨vg52,vo52,vc52,vb52,vj52,vi52⟩,fun v hv=>by rw[CVk.fn hv (.inl ⟨w58,rfl,PySem.W.mg_of X G u58⟩)];exact y52_58⟩
    ·cases hx;exact⟨w52,u52,⟨vg52,vo52,vc52,vb52,vj52,vi52⟩,fun v hv=>by rw[CVk.fn hv (.inl ⟨w59,rfl,PySem.W.mg_of X G u59⟩)];exact y52_59⟩
    ·cases hx;exact⟨w52,u52,⟨vg52,vo52,vc52,vb52,vj52,vi52⟩,fun v hv=>by rw[CVk.fn hv (.inl ⟨w51,rfl,PySem.W.mg_of X G u51⟩)];exact y52_51⟩
    ·cases hx;exact⟨w52,u52,⟨vg52,vo52,vc52,vb52,vj52,vi52⟩,fun v hv=>by rw[CVk.fn hv (.inl ⟨w52,rfl,PySem.W.mg_of X G u52⟩)];exact y52_52⟩
    ·cases hx;exact⟨w52,u52,⟨vg52,vo52,vc52,vb52,vj52,vi52⟩,fun v hv=>by rw[CVk.fn hv (.inl ⟨w53,rfl,PySem.W.mg_of X G u53⟩)];exact y52_53⟩
    ·cases hx;exact⟨w52,u52,⟨vg52,vo52,vc52,vb52,vj52,vi52⟩,fun v hv=>by rw[CVk.fn hv (.inl ⟨w54,rfl,PySem.W.mg_of X G u54⟩)];exact y52_54⟩
    ·cases hx;exact⟨w52,u52,⟨vg52,vo52,vc52,vb52,vj52,vi52⟩,fun v hv=>by rw[CVk.fn hv (.inl ⟨w60,rfl,PySem.W.mg_of X G u60⟩)];exact y52_60⟩
    ·cases hx;exact⟨w52,u52,⟨vg52,vo52,vc52,vb52,vj52,vi52⟩,fun v hv=>by rw[CVk.fn hv (.inl ⟨w61,rfl,PySem.W.mg_of X G u61⟩)];exact y52_61⟩
    ·cases hx;exact⟨w52,u52,⟨vg52,vo52,vc52,vb52,vj52,vi52⟩,fun v hv=>by rw[CVk.fn hv (.inl ⟨w62,rfl,PySem.W.mg_of X G u62⟩)];exact y52_62⟩
    ·cases hx;exact⟨w52,u52,⟨vg52,vo52,vc52,vb52,vj52,vi52⟩,fun v hv=>by rw[CVk.fn hv (.inl ⟨w63,rfl,PySem.W.mg_of X G u63⟩)];exact y52_63⟩
    ·cases hx;exact⟨w52,u52,⟨vg52,vo52,vc52,vb52,vj52,vi52⟩,fun v hv=>by rw[CVk.fn hv (.inl ⟨w64,rfl,PySem.W.mg_of X G u64⟩)];exact y52_64⟩
    ·cases hx;exact⟨w52,u52,⟨vg52,vo52,vc52,vb52,vj52,vi52⟩,fun v hv=>by rw[CVk.fn hv (.inr ⟨"ValueError",rfl,t_ X G u65,by decide +kernel⟩)];exact y52_65⟩
    ·cases hx;exact⟨w53,u53,⟨vg53,vo53,vc53,vb53,vj53,vi53⟩,fun v hv=>by rw[CVk.fn hv (.inl ⟨w55,rfl,PySem.W.mg_of X G u55⟩)];exact y53_55⟩
    ·cases hx;exact⟨w53,u53,⟨vg53,vo53,vc53,vb53,vj53,vi53⟩,fun v hv=>by rw[CVk.fn hv (.inl ⟨w56,rfl,PySem.W.mg_of X G u56⟩)];exact y53_56⟩
    ·cases hx;exact⟨w53,u53,⟨vg53,vo53,vc53,vb53,vj53,vi53⟩,fun v hv=>by rw[CVk.fn hv (.inl ⟨w57,rfl,PySem.W.mg_of X G u57⟩)];exact y53_57⟩
    ·cases hx;exact⟨w53,u53,⟨vg53,vo53,vc53,vb53,vj53,vi53⟩,fun v hv=>by rw[CVk.fn hv (.inl ⟨w58,rfl,PySem.W.mg_of X G u58⟩)];exact y53_58⟩
    ·cases hx;exact⟨w53,u53,⟨vg53,vo53,vc53,vb53,vj53,vi53⟩,fun v hv=>by rw[CVk.fn hv (.inl ⟨w59,rfl,PySem.W.mg_of X G u59⟩)];exact y53_59⟩
    ·cases hx;exact⟨w53,u53,⟨vg53,vo53,vc53,vb53,vj53,vi53⟩,fun v hv=>by rw[CVk.fn hv (.inl ⟨w51,rfl,PySem.W.mg_of X G u51⟩)];exact y53_51⟩
    ·cases hx;exact⟨w53,u53,⟨vg53,vo53,vc53,vb53,vj53,vi53⟩,fun v hv=>by rw[CVk.fn hv (.inl ⟨w52,rfl,PySem.W.mg_of X G u52⟩)];exact y53_52⟩
    ·cases hx;exact⟨w53,u53,⟨vg53,vo53,vc53,vb53,vj53,vi53⟩,fun v hv=>by rw[CVk.fn hv (.inl ⟨w53,rfl,PySem.W.mg_of X G u53⟩)];exact y53_53⟩
    ·cases hx;exact⟨w53,u53,⟨vg53,vo53,vc53,vb53,vj53,vi53⟩,fun v hv=>by rw[CVk.fn hv (.inl ⟨w54,rfl,PySem.W.mg_of X G u54⟩)];exact y53_54⟩
    ·cases hx;exact⟨w53,u53,⟨vg53,vo53,vc53,vb53,vj53,vi53⟩,fun v hv=>by rw[CVk.fn hv (.inl ⟨w60,rfl,PySem.W.mg_of X G u60⟩)];exact y53_60⟩
    ·cases hx;exact⟨w53,u53,⟨vg53,vo53,vc53,vb53,vj53,vi53⟩,fun v hv=>by rw[CVk.fn hv (.inl ⟨w61,rfl,PySem.W.mg_of X G u61⟩)];exact y53_61⟩
    ·cases hx;exact⟨w53,u53,⟨vg53,vo53,vc53,vb53,vj53,vi53⟩,fun v hv=>by rw[CVk.fn hv (.inl ⟨w62,rfl,PySem.W.mg_of X G u62⟩)];exact y53_62⟩
    ·cases hx;exact⟨w53,u53,⟨vg53,vo53,vc53,vb53,vj53,vi53⟩,fun v hv=>by rw[CVk.fn hv (.inl ⟨w63,rfl,PySem.W.mg_of X G u63⟩)];exact y53_63⟩
    ·cases hx;exact⟨w53,u53,⟨vg53,vo53,vc53,vb53,vj53,vi53⟩,fun v hv=>by rw[CVk.fn hv (.inl ⟨w64,rfl,PySem.W.mg_of X G u64⟩)];exact y53_64⟩
    ·cases hx;exact⟨w53,u53,⟨vg53,vo53,vc53,vb53,vj53,vi53⟩,fun v hv=>by rw[CVk.fn hv (.inr ⟨"ValueError",rfl,t_ X G u65,by decide +kernel⟩)];exact y53_65⟩
    ·cases hx;exact⟨w54,u54,⟨vg54,vo54,vc54,vb54,vj54,vi54⟩,fun v hv=>by rw[CVk.fn hv (.inl ⟨w55,rfl,PySem.W.mg_of X G u55⟩)];exact y54_55⟩
    ·cases hx;exact⟨w54,u54,⟨vg54,vo54,vc54,vb54,vj54,vi54⟩,fun v hv=>by rw[CVk.fn hv (.inl ⟨w56,rfl,PySem.W.mg_of X G u56⟩)];exact y54_56⟩
    ·cases hx;exact⟨w54,u54,⟨vg54,vo54,vc54,vb54,vj54,vi54⟩,fun v hv=>by rw[CVk.fn hv (.inl ⟨w57,rfl,PySem.W.mg_of X G u57⟩)];exact y54_57⟩
    ·cases hx;exact⟨w54,u54,⟨vg54,vo54,vc54,vb54,vj54,vi54⟩,fun v hv=>by rw[CVk.fn hv (.inl ⟨w58,rfl,PySem.W.mg_of X G u58⟩)];exact y54_58⟩
    ·cases hx;exact⟨w54,u54,⟨vg54,vo54,vc54,vb54,vj54,vi54⟩,fun v hv=>by rw[CVk.fn hv (.inl ⟨w59,rfl,PySem.W.mg_of X G u59⟩)];exact y54_59⟩
    ·cases hx;exact⟨w54,u54,⟨vg54,vo54,vc54,vb54,vj54,vi54⟩,fun v hv=>by rw[CVk.fn hv (.inl ⟨w51,rfl,PySem.W.mg_of X G u51⟩)];exact y54_51⟩
    ·cases hx;exact⟨w54,u54,⟨vg54,vo54,vc54,vb54,vj54,vi54⟩,fun v hv=>by rw[CVk.fn hv (.inl ⟨w52,rfl,PySem.W.mg_of X G u52⟩)];exact y54_52⟩
    ·cases hx;exact⟨w54,u54,⟨vg54,vo54,vc54,vb54,vj54,vi54⟩,fun v hv=>by rw[CVk.fn hv (.inl ⟨w53,rfl,PySem.W.mg_of X G u53⟩)];exact y54_53⟩
    ·cases hx;exact⟨w54,u54,⟨vg54,vo54,vc54,vb54,vj54,vi54⟩,fun v hv=>by rw[CVk.fn hv (.inl ⟨w54,rfl,PySem.W.mg_of X G u54⟩)];exact y54_54⟩
    ·cases hx;exact⟨w54,u54,⟨vg54,vo54,vc54,vb54,vj54,vi54⟩,fun v hv=>by rw[CVk.fn hv (.inl ⟨w60,rfl,PySem.W.mg_of X G u60⟩)];exact y54_60⟩
    ·cases hx;exact⟨w54,u54,⟨vg54,vo54,vc54,vb54,vj54,vi54⟩,fun v hv=>by rw[CVk.fn hv (.inl ⟨w61,rfl,PySem.W.mg_of X G u61⟩)];exact y54_61⟩
    ·cases hx;exact⟨w54,u54,⟨vg54,vo54,vc54,vb54,vj54,vi54⟩,fun v hv=>by rw[CVk.fn hv (.inl ⟨w62,rfl,PySem.W.mg_of X G u62⟩)];exact y54_62⟩
    ·cases hx;exact⟨w54,u54,⟨vg54,vo54,vc54,vb54,vj54,vi54⟩,fun v hv=>by rw[CVk.fn hv (.inl ⟨w63,rfl,PySem.W.mg_of X G u63⟩)];exact y54_63⟩
    ·cases hx;exact⟨w54,u54,⟨vg54,vo54,vc54,vb54,vj54,vi54⟩,fun v hv=>by rw[CVk.fn hv (.inl ⟨w64,rfl,PySem.W.mg_of X G u64⟩)];exact y54_64⟩
    ·cases hx;exact⟨w54,u54,⟨vg54,vo54,vc54,vb54,vj54,vi54⟩,fun v hv=>by rw[CVk.fn hv (.inr ⟨"ValueError",rfl,t_ X G u65,by decide +kernel⟩)];exact y54_65⟩
  case xmt=>
   exact fun c n b x hm hx=>by
    have hm':(c,n,b)∈([(Ο "NoWord",51,Δ),(Ο "NoWord",53,Θ),(Ο "NoWord",66,Δ),(Ο "NoGroup",51,Θ),(Ο "NoGroup",53,Θ),(Ο "NoGroup",66,Δ),(Ο "BadThings",51,Θ),(Ο "BadThings",53,Δ),(Ο "BadThings",66,Δ),(Ο "NoLine",51,Θ),(Ο "NoLine",53,Θ),(Ο "NoLine",66,Δ)]:List (Str×Nat×Bool)):=hm;simp only[p_,Ao,or_false,Prod.mk.injEq]at hm';rcases hm' with⟨rfl,rfl,rfl⟩|⟨rfl,rfl,rfl⟩|⟨rfl,rfl,rfl⟩|⟨rfl,rfl,rfl⟩|⟨rfl,rfl,rfl⟩|⟨rfl,rfl,rfl⟩|⟨rfl,rfl,rfl⟩|⟨rfl,rfl,rfl⟩|⟨rfl,rfl,rfl⟩|⟨rfl,rfl,rfl⟩|⟨rfl,rfl,rfl⟩|⟨rfl,rfl,rfl⟩
    ·cases hx;exact⟨w51,w51,u51,u51,vn51,PySem.W.mg_of X G u51,m51_51⟩
    ·cases hx;exact⟨w51,w53,u51,u53,vn51,PySem.W.mg_of X G u53,m51_53⟩
    ·cases hx;exact⟨w51,w66,u51,u66,vn51,PySem.W.mg_of X G u66,m51_66⟩
    ·cases hx;exact⟨w52,w51,u52,u51,vn52,PySem.W.mg_of X G u51,m52_51⟩
    ·cases hx;exact⟨w52,w53,u52,u53,vn52,PySem.W.mg_of X G u53,m52_53⟩
    ·cases hx;exact⟨w52,w66,u52,u66,vn52,PySem.W.mg_of X G u66,m52_66⟩
    ·cases hx;exact⟨w53,w51,u53,u51,vn53,PySem.W.mg_of X G u51,m53_51⟩
    ·cases hx;exact⟨w53,w53,u53,u53,vn53,PySem.W.mg_of X G u53,m53_53⟩
    ·cases hx;exact⟨w53,w66,u53,u66,vn53,PySem.W.mg_of X G u66,m53_66⟩
    ·cases hx;exact⟨w54,w51,u54,u51,vn54,PySem.W.mg_of X G u51,m54_51⟩
    ·cases hx;exact⟨w54,w53,u54,u53,vn54,PySem.W.mg_of X G u53,m54_53⟩
    ·cases hx;exact⟨w54,w66,u54,u66,vn54,PySem.W.mg_of X G u66,m54_66⟩
  case xrs=>
   exact fun n c hm=>by
    have hm':(n,c)∈([(51,"NoWord"),(52,"NoGroup"),(53,"BadThings"),(54,"NoLine")]:List (Nat×Str)):=hm;simp only[p_,Ao,or_false,Prod.mk.injEq]at hm';rcases hm' with⟨rfl,rfl⟩|⟨rfl,rfl⟩|⟨rfl,rfl⟩|⟨rfl,rfl⟩
    ·exact⟨rfl,w51,PySem.W.mg_of X G u51,u51,vx51⟩
    ·exact⟨rfl,w52,PySem.W.mg_of X G u52,u52,vx52⟩
    ·exact⟨rfl,w53,PySem.W.mg_of X G u53,u53,vx53⟩
    ·exact⟨rfl,w54,PySem.W.mg_of X G u54,u54,vx54⟩
 exact⟨PySem.W.fnOf "law" "law" (gG (top 49)) (fV (top 49)) (e6 (top 49)) .none kV50 dc50 pm50 an50 cd50 ct50,fun s v=>.of_eq rfl,fun base _ _=>wb t 16 (by decide) (f:=50) (fn:=d50) rfl (ni (st:=top 49) l50 e50 k50) (mO c50)⟩
end Law
namespace L2
open PySem PySem.Spec PyProof.Rows PySem.SeqAt
namespace Fr
variable {T:Tb}
theorem cell {f:Nat}{fn:Fn}(hT:T f=Γ fn)(hio:fn.io=Θ)(h1:fn.np=2)(h2:fn.G.N.length=2)(h3:fn.body=uP)(n:Nat)(ns:List Int)(k:Int)(hk:0<=k):b9 T (n+1) f [.lst Θ (ns.map .int),.int k]=.ok (.int (ns.getD k.toNat 0)):=by
 rw[Ev.go hT hio h1 h2 h3 rfl];unfold uP;by_cases h:k < (ns.length:Int)
 ·have hd:decide (k < (((ns.map D.int).length:Nat):Int))=Δ:=l_ (by rw[h_];exact h);simp -implicitDefEqProofs (disch:=omega) only[ev0,Nat.reduceBEq,Nat.reduceSub,Nat.reduceAdd,reduceIte,Ev.rs0,Ev.rss,Ev.c4,Ev.c5,↓Ev.fzI,↓Ev.fzS,↓Ev.fzN,Ev.rfn,Ev.rct,Ev.rcn,cond_true,cond_false,a_,List.map_nil,b_,List.nil_append,Bool.true_or,Bool.false_or,Ev.eG,Ev.eI,Ev.eJ,Ev.eK,Ev.di,Ev.dj,Ev.eP,Ev.eR,Ev.bW,Ev.aS,Ev.dw,Ev.dy,Ev.bX,Ev.bY,Ev.dv,Ev.bZ,Ev.aW,Ev.cq,Ev.av,Ev.aX,Ev.aY,Ev.aZ,Ev.cw,Ev.ax,Ev.a7,Ev.a8,Ev.cz,Ev.ay,Ev.a9,Ev.bc,Ev.bf,Ev.bg,Ev.bh,Ev.cE,Ev.az,Ev.bo,Ev.bq,Ev.br,Ev.aA,Ev.aB,Ev.cH,Ev.cI,Ev.aD,Ev.aE,Ev.aF,Ev.ae,Ev.ah,Ev.aG,Ev.bz,Ev.cP,Ev.cQ,Ev.bA,Ev.cR,Ev.cS,Ev.bC,Ev.ai,Ev.bD,Ev.cT,Ev.cU,Ev.bH,Ev.aK,Ev.aL,Ev.aN,Ev.bI,Ev.bJ,Ev.aP,Ev.bL,Ev.bM,Ev.cg,Ev.bO,Ev.cj,Ev.dz,Ev.cb,Ev.cn,Ev.r_c,Ev.r_g,Ev.r_v,Ev.cp,Ev.cu,Ev.aw,Ev.cy,Ev.dG,Ev.cA,Ev.cB,Ev.cC,Ev.cD,Ev.dH,Ev.bj,Ev.dI,Ev.dJ,Ev.dM,Ev.bp,Ev.dC,Ev.cF,Ev.cG,Ev.bt,Ev.dN,Ev.dO,Ev.bu,Ev.dP,Ev.dQ,Ev.dR,Ev.dS,Ev.aC,Ev.dU,Ev.cJ,Ev.dW,Ev.dX,Ev.t_t,Ev.o_v,Ev.o_tup,Ev.o_lst,Ev.o_ite,Ev.o_call,Ev.o_c,Ev.cK,Ev.cL,Ev.aH,Ev.cM,Ev.dY,Ev.cN,Ev.dZ,Ev.d3,Ev.bw,Ev.cO,Ev.bx,Ev.d4,Ev.d5,Ev.aI,Ev.bB,Ev.k_i,Ev.k_s,Ev.k_b,Ev.k_n,Ev.st_asg,Ev.bE,Ev.bF,Ev.st_app,Ev.st_ret,Ev.bG,Ev.aJ,Ev.aj,Ev.aM,Ev.ak,Ev.aO,Ev.cV,Ev.cf,Ev.cW,Ev.d6,Ev.st_if,Ev.st_for,Ev.d7,Ev.d8,Ev.cX,Ev.cY,Ev.cZ,Ev.c0,Ev.ed,Ev.c6,Ev.aU,Ev.bK,Ev.c7,Ev.eh,Ev.sl_t,Ev.ek,Ev.dD,Ev.dB,Ev.eo,Ev.eA,Ev.eB,Ev.dE,Ev.eC,Ev.eD,Ev.eE,Ev.c8,Ev.bN,Ev.n_n,Ev.n_i,Ev.n_s,Ev.n_t,Ev.eF,Ev.dF,Ev.c9,Ev.dg,Ev.aQ,Ev.aV,Ev.aR,Ev.au,Ev.bP,Ev.ao,Ev.af,Ev.dh,Ev.bQ,Ev.bR,Ev.bS,Ev.aq,Ev.ar,Ev.ag,Ev.dm,Ev.dn,Ev.dq,Ev.dr,Ev.dt,Ev.du,Ev.bT,Ev.bU,Ev.bV,Ev.eM,Ev.eN,Ev.eQ,Ev.b7,Ev.aT,Ev.b8,hd]
 ·have hd:decide (k < (((ns.map D.int).length:Nat):Int))=Θ:=w_ (by rw[h_];exact h);simp -implicitDefEqProofs (disch:=omega) only[ev0,Nat.reduceBEq,Nat.reduceSub,Nat.reduceAdd,reduceIte,Ev.rs0,Ev.rss,Ev.c4,Ev.c5,↓Ev.fzI,↓Ev.fzS,↓Ev.fzN,Ev.rfn,Ev.rct,Ev.rcn,cond_true,cond_false,a_,List.map_nil,b_,List.nil_append,Bool.true_or,Bool.false_or,Ev.eG,Ev.eI,Ev.eJ,Ev.eK,Ev.di,Ev.dj,Ev.eP,Ev.eR,Ev.bW,Ev.aS,Ev.dw,Ev.dy,Ev.bX,Ev.bY,Ev.dv,Ev.bZ,Ev.aW,Ev.cq,Ev.av,Ev.aX,Ev.aY,Ev.aZ,Ev.cw,Ev.ax,Ev.a7,Ev.a8,Ev.cz,Ev.ay,Ev.a9,Ev.bc,Ev.bf,Ev.bg,Ev.bh,Ev.cE,Ev.az,Ev.bo,Ev.bq,Ev.br,Ev.aA,Ev.aB,Ev.cH,Ev.cI,Ev.aD,Ev.aE,Ev.aF,Ev.ae,Ev.ah,Ev.aG,Ev.bz,Ev.cP,Ev.cQ,Ev.bA,Ev.cR,Ev.cS,Ev.bC,Ev.ai,Ev.bD,Ev.cT,Ev.cU,Ev.bH,Ev.aK,Ev.aL,Ev.aN,Ev.bI,Ev.bJ,Ev.aP,Ev.bL,Ev.bM,Ev.cg,Ev.bO,Ev.cj,Ev.dz,Ev.cb,Ev.cn,Ev.r_c,Ev.r_g,Ev.r_v,Ev.cp,Ev.cu,Ev.aw,Ev.cy,Ev.dG,Ev.cA,Ev.cB,Ev.cC,Ev.cD,Ev.dH,Ev.bj,Ev.dI,Ev.dJ,Ev.dM,Ev.bp,Ev.dC,Ev.cF,Ev.cG,Ev.bt,Ev.dN,Ev.dO,Ev.bu,Ev.dP,Ev.dQ,Ev.dR,Ev.dS,Ev.aC,Ev.dU,Ev.cJ,Ev.dW,Ev.dX,Ev.t_t,Ev.o_v,Ev.o_tup,Ev.o_lst,Ev.o_ite,Ev.o_call,Ev.o_c,Ev.cK,Ev.cL,Ev.aH,Ev.cM,Ev.dY,Ev.cN,Ev.dZ,Ev.d3,Ev.bw,Ev.cO,Ev.bx,Ev.d4,Ev.d5,Ev.aI,Ev.bB,Ev.k_i,Ev.k_s,Ev.k_b,Ev.k_n,Ev.st_asg,Ev.bE,Ev.bF,Ev.st_app,Ev.st_ret,Ev.bG,Ev.aJ,Ev.aj,Ev.aM,Ev.ak,Ev.aO,Ev.cV,Ev.cf,Ev.cW,Ev.d6,Ev.st_if,Ev.st_for,Ev.d7,Ev.d8,Ev.cX,Ev.cY,Ev.cZ,Ev.c0,Ev.ed,Ev.c6,Ev.aU,Ev.bK,Ev.c7,Ev.eh,Ev.sl_t,Ev.ek,Ev.dD,Ev.dB,Ev.eo,Ev.eA,Ev.eB,Ev.dE,Ev.eC,Ev.eD,Ev.eE,Ev.c8,Ev.bN,Ev.n_n,Ev.n_i,Ev.n_s,Ev.n_t,Ev.eF,Ev.dF,Ev.c9,Ev.dg,Ev.aQ,Ev.aV,Ev.aR,Ev.au,Ev.bP,Ev.ao,Ev.af,Ev.dh,Ev.bQ,Ev.bR,Ev.bS,Ev.aq,Ev.ar,Ev.ag,Ev.dm,Ev.dn,Ev.dq,Ev.dr,Ev.dt,Ev.du,Ev.bT,Ev.bU,Ev.bV,Ev.eM,Ev.eN,Ev.eQ,Ev.b7,Ev.aT,Ev.b8,hd];rw[Ap,List.getElem?_eq_none (by omega)];rfl
noncomputable def lS:List IS:=[(.asg (.nm 3) (.bin .mod (.bin .add (.bin .add (.bin .mul (.v 3) (.c (.int 48271))) (.bin .mul (.bin .mul (.c (.int 7)) (.v 4)) (.v 4))) (.c (.int 3))) (.c (.int 2147483647)))),(.app 2 (.bin .fdiv (.v 3) (.c (.int 16))))]
noncomputable def oG:List IS:=[(.asg (.nm 2) (.lst [])),(.asg (.nm 3) (.bin .add (.bin .mod (.v 0) (.c (.int 2147483647))) (.c (.int 1)))),(.for_ (.nm 4) (.rng1 (.v 1)) lS),(.ret (.v 2))]
theorem stream {f:Nat}{fn:Fn}(hT:T f=Γ fn)(hio:fn.io=Θ)(h1:fn.np=2)(h2:fn.G.N.length=5)(h3:fn.body=oG)(n:Nat)(c m:Int)(h0:0<=m)(hm:m<=1000) :
  ∃xs:List Int,b9 T (n+1) f [.int c,.int m]=.ok (.lst Δ (xs.map .int))/\xs.length=m.toNat/\∀x∈xs,0<=x:=by
 rw[Ev.go hT hio h1 h2 h3 rfl];unfold oG;obtain⟨τ',e,xs,num,kk,rfl,hl,hx,hn⟩:=Ev.jx (its:=gE 0 m) (τ:=[Γ (.int c),Γ (.int m),Γ (.lst Δ []),Γ (.int (c % 2147483647+1)),Ξ]) (body:=Ev.turn (b9 T n) (.nm 4) lS)
  (fun i τ=>∃(xs:List Int) (num:Int) (kk:Option D),τ=[Γ (.int c),Γ (.int m),Γ (.lst Δ (xs.map .int)),Γ (.int num),kk]/\xs.length=i/\(∀x∈xs,0<=x)/\0<=num)
  ⟨[],_,Ξ,rfl,rfl,fun x hx=>absurd hx (by simp),by have:=Int.emod_nonneg c (show(2147483647:Int)≠0 by decide);omega⟩ (by
   rintro i x τ hx ⟨xs,num,kk,rfl,hl,hxs,hn⟩;have hi:i < m.toNat:=by have:=(y_.mp hx).1;rw[iX]at this;omega
   unfold gE at hx;rw[Ac,List.getElem?_range (by omega)]at hx;have hx':D.int (0+(i:Nat))=x:=zZ hx;subst hx';refine⟨[Γ (.int c),Γ (.int m),Γ (.lst Δ ((xs++[(num*48271+7*(0+(i:Int))*(0+(i:Int))+3) % 2147483647 / 16]).map .int)),Γ (.int ((num*48271+7*(0+(i:Int))*(0+(i:Int))+3) % 2147483647)),Γ (.int (0+(i:Nat)))],?_,_,_,_,rfl,by rw[zW,Av,hl],fun x hx=>?_,Int.emod_nonneg _ (by decide)⟩
   ·unfold lS;simp -implicitDefEqProofs (disch:=omega) only[ev0,Nat.reduceBEq,Nat.reduceSub,Nat.reduceAdd,reduceIte,Ev.rs0,Ev.rss,Ev.c4,Ev.c5,↓Ev.fzI,↓Ev.fzS,↓Ev.fzN,Ev.rfn,Ev.rct,Ev.rcn,cond_true,cond_false,a_,List.map_nil,b_,List.nil_append,Bool.true_or,Bool.false_or,Ev.eG,Ev.eI,Ev.eJ,Ev.eK,Ev.di,Ev.dj,Ev.eP,Ev.eR,Ev.bW,Ev.aS,Ev.dw,Ev.dy,Ev.bX,Ev.bY,Ev.dv,Ev.bZ,Ev.aW,Ev.cq,Ev.av,Ev.aX,Ev.aY,Ev.aZ,Ev.cw,Ev.ax,Ev.a7,Ev.a8,Ev.cz,Ev.ay,Ev.a9,Ev.bc,Ev.bf,Ev.bg,Ev.bh,Ev.cE,Ev.az,Ev.bo,Ev.bq,Ev.br,Ev.aA,Ev.aB,Ev.cH,Ev.cI,Ev.aD,Ev.aE,Ev.aF,Ev.ae,Ev.ah,Ev.aG,Ev.bz,Ev.cP,Ev.cQ,Ev.bA,Ev.cR,Ev.cS,Ev.bC,Ev.ai,Ev.bD,Ev.cT,Ev.cU,Ev.bH,Ev.aK,Ev.aL,Ev.aN,Ev.bI,Ev.bJ,Ev.aP,Ev.bL,Ev.bM,Ev.cg,Ev.bO,Ev.cj,Ev.dz,Ev.cb,Ev.cn,Ev.r_c,Ev.r_g,Ev.r_v,Ev.cp,Ev.cu,Ev.aw,Ev.cy,Ev.dG,Ev.cA,Ev.cB,Ev.cC,Ev.cD,Ev.dH,Ev.bj,Ev.dI,Ev.dJ,Ev.dM,Ev.bp,Ev.dC,Ev.cF,Ev.cG,Ev.bt,Ev.dN,Ev.dO,Ev.bu,Ev.dP,Ev.dQ,Ev.dR,Ev.dS,Ev.aC,Ev.dU,Ev.cJ,Ev.dW,Ev.dX,Ev.t_t,Ev.o_v,Ev.o_tup,Ev.o_lst,Ev.o_ite,Ev.o_call,Ev.o_c,Ev.cK,Ev.cL,Ev.aH,Ev.cM,Ev.dY,Ev.cN,Ev.dZ,Ev.d3,Ev.bw,Ev.cO,Ev.bx,Ev.d4,Ev.d5,Ev.aI,Ev.bB,Ev.k_i,Ev.k_s,Ev.k_b,Ev.k_n,Ev.st_asg,Ev.bE,Ev.bF,Ev.st_app,Ev.st_ret,Ev.bG,Ev.aJ,Ev.aj,Ev.aM,Ev.ak,Ev.aO,Ev.cV,Ev.cf,Ev.cW,Ev.d6,Ev.st_if,Ev.st_for,Ev.d7,Ev.d8,Ev.cX,Ev.cY,Ev.cZ,Ev.c0,Ev.ed,Ev.c6,Ev.aU,Ev.bK,Ev.c7,Ev.eh,Ev.sl_t,Ev.ek,Ev.dD,Ev.dB,Ev.eo,Ev.eA,Ev.eB,Ev.dE,Ev.eC,Ev.eD,Ev.eE,Ev.c8,Ev.bN,Ev.n_n,Ev.n_i,Ev.n_s,Ev.n_t,Ev.eF,Ev.dF,Ev.c9,Ev.dg,Ev.aQ,Ev.aV,Ev.aR,Ev.au,Ev.bP,Ev.ao,Ev.af,Ev.dh,Ev.bQ,Ev.bR,Ev.bS,Ev.aq,Ev.ar,Ev.ag,Ev.dm,Ev.dn,Ev.dq,Ev.dr,Ev.dt,Ev.du,Ev.bT,Ev.bU,Ev.bV,Ev.eM,Ev.eN,Ev.eQ,Ev.b7,Ev.aT,Ev.b8,Ev.i4,List.map_append,h_]
   ·rcases x_.mp hx with hx|hx
    ·exact hxs x hx
    ·rw[Ag]at hx;rw[hx]
     exact Int.ediv_nonneg (Int.emod_nonneg _ (by decide)) (by decide))
 refine⟨xs,?_,?_,hx⟩
 ·simp -implicitDefEqProofs (disch:=omega) only[ev0,Nat.reduceBEq,Nat.reduceSub,Nat.reduceAdd,reduceIte,Ev.rs0,Ev.rss,Ev.c4,Ev.c5,↓Ev.fzI,↓Ev.fzS,↓Ev.fzN,Ev.rfn,Ev.rct,Ev.rcn,cond_true,cond_false,a_,List.map_nil,b_,List.nil_append,Bool.true_or,Bool.false_or,Ev.eG,Ev.eI,Ev.eJ,Ev.eK,Ev.di,Ev.dj,Ev.eP,Ev.eR,Ev.bW,Ev.aS,Ev.dw,Ev.dy,Ev.bX,Ev.bY,Ev.dv,Ev.bZ,Ev.aW,Ev.cq,Ev.av,Ev.aX,Ev.aY,Ev.aZ,Ev.cw,Ev.ax,Ev.a7,Ev.a8,Ev.cz,Ev.ay,Ev.a9,Ev.bc,Ev.bf,Ev.bg,Ev.bh,Ev.cE,Ev.az,Ev.bo,Ev.bq,Ev.br,Ev.aA,Ev.aB,Ev.cH,Ev.cI,Ev.aD,Ev.aE,Ev.aF,Ev.ae,Ev.ah,Ev.aG,Ev.bz,Ev.cP,Ev.cQ,Ev.bA,Ev.cR,Ev.cS,Ev.bC,Ev.ai,Ev.bD,Ev.cT,Ev.cU,Ev.bH,Ev.aK,Ev.aL,Ev.aN,Ev.bI,Ev.bJ,Ev.aP,Ev.bL,Ev.bM,Ev.cg,Ev.bO,Ev.cj,Ev.dz,Ev.cb,Ev.cn,Ev.r_c,Ev.r_g,Ev.r_v,Ev.cp,Ev.cu,Ev.aw,Ev.cy,Ev.dG,Ev.cA,Ev.cB,Ev.cC,Ev.cD,Ev.dH,Ev.bj,Ev.dI,Ev.dJ,Ev.dM,Ev.bp,Ev.dC,Ev.cF,Ev.cG,Ev.bt,Ev.dN,Ev.dO,Ev.bu,Ev.dP,Ev.dQ,Ev.dR,Ev.dS,Ev.aC,Ev.dU,Ev.cJ,Ev.dW,Ev.dX,Ev.t_t,Ev.o_v,Ev.o_tup,Ev.o_lst,Ev.o_ite,Ev.o_call,Ev.o_c,Ev.cK,Ev.cL,Ev.aH,Ev.cM,Ev.dY,Ev.cN,Ev.dZ,Ev.d3,Ev.bw,Ev.cO,Ev.bx,Ev.d4,Ev.d5,Ev.aI,Ev.bB,Ev.k_i,Ev.k_s,Ev.k_b,Ev.k_n,Ev.st_asg,Ev.bE,Ev.bF,Ev.st_app,Ev.st_ret,Ev.bG,Ev.aJ,Ev.aj,Ev.aM,Ev.ak,Ev.aO,Ev.cV,Ev.cf,Ev.cW,Ev.d6,Ev.st_if,Ev.st_for,Ev.d7,Ev.d8,Ev.cX,Ev.cY,Ev.cZ,Ev.c0,Ev.ed,Ev.c6,Ev.aU,Ev.bK,Ev.c7,Ev.eh,Ev.sl_t,Ev.ek,Ev.dD,Ev.dB,Ev.eo,Ev.eA,Ev.eB,Ev.dE,Ev.eC,Ev.eD,Ev.eE,Ev.c8,Ev.bN,Ev.n_n,Ev.n_i,Ev.n_s,Ev.n_t,Ev.eF,Ev.dF,Ev.c9,Ev.dg,Ev.aQ,Ev.aV,Ev.aR,Ev.au,Ev.bP,Ev.ao,Ev.af,Ev.dh,Ev.bQ,Ev.bR,Ev.bS,Ev.aq,Ev.ar,Ev.ag,Ev.dm,Ev.dn,Ev.dq,Ev.dr,Ev.dt,Ev.du,Ev.bT,Ev.bU,Ev.bV,Ev.eM,Ev.eN,Ev.eQ,Ev.b7,Ev.aT,Ev.b8,e]
 ·rw[hl,iX];omega
noncomputable def one (c:Nat):Str:=⟨#[c]⟩
noncomputable def sal (cs:List Nat):Str:=⟨cs.toArray⟩
def low (c:Nat):Prop:=97<=c/\c<=122
theorem rz:(Ο "abcdefghijklmnopqrstuvwxyz").cps.toList=List.range' 97 26:=by decide +kernel
theorem oH:(Ο "abcdefghijklmnopqrstuvwxyz").length=26:=by decide +kernel
theorem rA {i:Int}(h0:0<=i)(h1:i < 26):fO (.str "abcdefghijklmnopqrstuvwxyz") (.int i)=.ok (.str (one (97+i.toNat))):=by
 rw[Ev.x_c h0 (by rw[oH];exact h1) (by rw[oH];decide),rz];have:(List.range' 97 26).getD i.toNat 0=97+i.toNat:=by rw[Ap,List.getElem?_range' (by omega)];show 97+1*i.toNat=_;omega
 rw[this];rfl
theorem eV (cs:List Nat):(sal cs).length=cs.length:=by unfold sal Str.length;simp
theorem tP (c:Nat):(one c).length=1:=rfl
theorem kU:∀(cs:List Nat) (acc:Array Nat),(cs.map one).foldl (fun acc p=>acc++(Ο "").cps++p.cps) acc=acc++cs.toArray
 |[],acc=>by simp
 |c::cs,acc=>by
  have e:(Ο "").cps = #[]:=by decide +kernel
  rw[a_,List.foldl_cons,kU cs,e];show acc++#[]++#[c]++cs.toArray=_;simp
theorem join_one (cs:List Nat):Txt.join "" (cs.map one)=sal cs:=by
 show(⟨((cs.map one).drop 1).foldl (fun acc p=>acc++(Ο "").cps++p.cps) ((cs.map one).headD Str.empty).cps⟩:Str)=_;cases cs with
 |nil=>rfl
 |cons c cs=>rw[a_,List.drop_succ_cons,List.drop_zero,List.headD_cons,kU];unfold sal one;simp
theorem tQ (cs:List Nat):((cs.map one).map (fun y:Str=>y.length)).sum=cs.length:=by
 induction cs with
 |nil=>rfl
 |cons c cs ih=>rw[a_,a_,List.sum_cons,ih,List.length_cons,tP];omega
theorem lT {o:Bool}{cs:List Nat}(h:cs.length<=1000):iz .join (.str "") [.lst o ((cs.map one).map .str)]=.ok (.str (sal cs)):=by
 have e:(Ο "").length=0:=by decide +kernel
 rw[Ev.oA (by rw[tQ,h_,e];omega),join_one]
theorem gU {cs:List Nat}{j:Int}(h0:0<=j)(h1:j<=cs.length):Txt.slice (sal cs) Ξ (Γ j)=sal (cs.take j.toNat):=by
 have:=StrLaws.sliceText_to (x:=sal cs) (j:=j) ⟨h0,by show j<=(cs.toArray.toList.length:Nat);simpa using h1⟩;refine this.trans ?_;show(⟨((cs.toArray.toList.drop 0).take (j - 0).toNat).toArray⟩:Str)=⟨(cs.take j.toNat).toArray⟩
 rw[List.toList_toArray,List.drop_zero,Int.sub_zero]
theorem iJ {cs:List Nat}{i:Int}(h0:0<=i)(h1:i<=cs.length):Txt.slice (sal cs) (Γ i) Ξ=sal (cs.drop i.toNat):=by
 have:=StrLaws.sliceText_from (x:=sal cs) (i:=i) ⟨h0,by show i<=(cs.toArray.toList.length:Nat);simpa using h1⟩;refine this.trans ?_;show(⟨((cs.toArray.toList.drop i.toNat).take ((cs.toArray.toList.length:Int) - i).toNat).toArray⟩:Str)=⟨(cs.drop i.toNat).toArray⟩
 rw[List.toList_toArray,List.take_of_length_le (by rw[Ak];omega)]
theorem jy (a b:List Nat):sal a++sal b=sal (a++b):=by
 show(⟨a.toArray++b.toArray⟩:Str)=⟨(a++b).toArray⟩
 rw[List.append_toArray]
theorem tS (c:Nat):one c=sal [c]:=rfl
theorem oI {a b:List Nat}(h:a.length+b.length<=1000):opB .add (.str (sal a)) (.str (sal b))=.ok (.str (sal (a++b))):=by rw[Ev.aU,Ev.gN (by rw[eV,eV];omega),jy];rfl
end Fr
end L2
namespace Law
open PySem PySem.Spec L2 L2.Fr
theorem oJ {a b:List Nat}(h:sal a=sal b):a=b:=by unfold sal at h;injection h with h;simpa using congrArg Array.toList h
theorem rB (fs:List Str):eS (fs.map D.str)=Δ:=Ev.fQ fs
noncomputable def ch (c k:Int):Nat:=97+((c / 3+7*k) % 26).toNat
noncomputable def ks (m:Int):List Int:=(List.range (m - 0).toNat).map fun k=>0+((k:Nat):Int)
theorem rC {m x:Int}(h:x∈ks m):0<=x/\x < m:=by obtain⟨k,hk,rfl⟩:=List.mem_map.mp h;have:=List.mem_range.mp hk;omega
theorem iK (m:Int):(ks m).length=(m - 0).toNat:=by unfold ks;rw[h_,List.length_range]
structure Nam (x:Str):Prop where
 ex:∃cs:List Nat,x=sal cs/\1<=cs.length/\cs.length<=8/\∀c∈cs,low c
structure Nms (m:Int)(fs:List Str):Prop where
 len:fs.length=(m - 0).toNat
 nam:∀x∈fs,Nam x
theorem g9x {n:Nat}{ds:List D}(f:Nat)(fn:Fn)(m k:Nat)(body:List IS)(h:T f=Γ fn)(h0:fn.io=Θ)(h1:fn.np=m)(h2:fn.G.N.length=k)(h3:fn.body=body)(hl:ds.length=m):b9 T (n+1) f ds=bnd (fH (b9 T n) body (ds.map Γ++Ρ (k - m) Ξ)) Ev.tJ:=Ev.go h h0 h1 h2 h3 hl
theorem rD (n:Nat)(c m:Int)(h0:0<=m)(h1:m<=12):∃fs:List Str,b9 T (n+2) 41 [.int c,.int m]=.ok (.lst Δ (fs.map .str))/\Nms m fs:=by
 obtain⟨xs,ex,lx,px⟩:=stream (show T 40=Γ d40 from rfl) rfl rfl rfl rfl n (c / 3) 8 (by omega) (by omega);have e1:fm (fD (b9 T (n+1)) (.nm 1) [] (.idx (.v 0) (.bin .mod (.v 1) (.c (.int 26)))) [Γ (.str "abcdefghijklmnopqrstuvwxyz"),Ξ]) (xs.map .int)=.ok (((xs.map fun x=>97+(x % 26).toNat).map one).map .str):=by
  have hg:(xs.map fun x=>97+(x % 26).toNat).map one=xs.map fun x:Int=>one (97+(x % 26).toNat):=by rw[Ah];rfl
  rw[hg];refine Ev.gc D.int (fun x:Int=>one (97+(x % 26).toNat)) .str _ fun x hx=>?_;have hx0:=Int.emod_nonneg x (show(26:Int)≠0 by decide);have hx1:=Int.emod_lt_of_pos x (show(0:Int) < 26 by decide);simp![rA]
 have lb:(xs.map fun x=>97+(x % 26).toNat).length=8:=by rw[h_,lx];rfl
 have hlow:∀c∈(xs.map fun x=>97+(x % 26).toNat),low c:=by intro c hc;obtain⟨x,_,rfl⟩:=List.mem_map.mp hc;have:=Int.emod_nonneg x (show(26:Int)≠0 by decide);have:=Int.emod_lt_of_pos x (show(0:Int) < 26 by decide);unfold low;omega
 generalize(xs.map fun x=>97+(x % 26).toNat)=cs at *;have lxs:(xs.map D.int).length=8:=by rw[h_,lx];rfl
 have je:∀o:Bool,iz .join (.str "") [.lst o ((cs.map one).map .str)]=.ok (.str (sal cs)):=fun o=>lT (by omega);generalize(cs.map one).map D.str=J,xs.map D.int=X at *;have rk:gE 0 m=(ks m).map .int:=Ev.j8 0 m;have lk:((ks m).map D.int).length=(m - 0).toNat:=by rw[h_,iK]
 by_cases hb:c % 3=1/\m<=8
 ·have b1:(c % 3 == 1)=Δ:=by rw[hb.1];rfl
  have b2:decide (m<=8)=Δ:=l_ hb.2;have e2:fm (fD (b9 T (n+1)) (.nm 1) [] (.sl (.v 0) Ξ (Γ (.bin .add (.v 1) (.c (.int 1))))) [Γ (.str (sal cs)),Ξ]) ((ks m).map .int)=.ok (((ks m).map fun k=>sal (cs.take (k+1).toNat)).map .str):=by
   refine Ev.gc D.int (fun k:Int=>sal (cs.take (k+1).toNat)) .str _ fun k hk=>?_;obtain⟨k0,k1⟩:=rC hk;have es:=gU (cs:=cs) (j:=k+1) (by omega) (by omega);have sl:=eV cs;have s8:(sal cs).length<=16777216:=by omega
   simp![es]
  refine⟨(ks m).map fun k=>sal (cs.take (k+1).toNat),?_,by rw[h_,iK],fun x hx=>?_⟩
  ·rw[g9x 41 d41 2 5 b41 rfl rfl rfl rfl rfl rfl];unfold b41;generalize((ks m).map fun k=>sal (cs.take (k+1).toNat))=F at *;have ff:=rB F;generalize(ks m).map D.int=KK at *;simp![ex,e1,je,b1,b2,rk,e2,lxs,lk,ff]
  ·obtain⟨k,hk,rfl⟩:=List.mem_map.mp hx;obtain⟨k0,k1⟩:=rC hk;exact⟨_,rfl,by rw[Aj];omega,by rw[Aj];omega,fun c hc=>hlow c (List.mem_of_mem_take hc)⟩
 ·have b3:((c % 3 == 1)&&decide (m<=8))=Θ:=by
   rw[Bool.and_eq_false_iff];by_cases hc:c % 3=1
   ·exact .inr (w_ fun z=>hb ⟨hc,z⟩)
   ·exact .inl (by simpa using hc)
  have m0:=Int.emod_nonneg (c / 3) (show(8:Int)≠0 by decide);have m1:=Int.emod_lt_of_pos (c / 3) (show(0:Int) < 8 by decide);have es:=gU (cs:=cs) (j:=1+c / 3 % 8) (by omega) (by omega);have lb':(cs.take (1+c / 3 % 8).toNat).length=(1+c / 3 % 8).toNat:=by rw[Aj];omega
  have sl:=eV cs;have lB:∀z∈cs.take (1+c / 3 % 8).toNat,low z:=fun z hz=>hlow z (List.mem_of_mem_take hz);generalize cs.take (1+c / 3 % 8).toNat=B at *;have slB:=eV B;have hlen:((sal B).length:Int)=1+c / 3 % 8:=by rw[slB];omega
  have a0:=Int.emod_nonneg (c / 24) (show((sal B).length:Int)≠0 by omega);have a1:=Int.emod_lt_of_pos (c / 24) (show(0:Int) < ((sal B).length:Int) by omega);generalize hat:c / 24 % ((sal B).length:Int)=at' at *;have es1:=gU (cs:=B) (j:=at') (by omega) (by omega);have es2:=iJ (cs:=B) (i:=at' + 1) (by omega) (by omega);have la:(B.take at'.toNat).length=at'.toNat:=by rw[Aj];omega
  have lc:(B.drop (at' + 1).toNat).length=B.length - (at' + 1).toNat:=Ak ..;have lA:∀z∈B.take at'.toNat,low z:=fun z hz=>lB z (List.mem_of_mem_take hz);have lC:∀z∈B.drop (at' + 1).toNat,low z:=fun z hz=>lB z (List.mem_of_mem_drop hz);generalize B.take at'.toNat=A,B.drop (at' + 1).toNat=C at *;have e2:fm (fD (b9 T (n+1)) (.nm 4) [] (.bin .add (.bin .add (.sl (.v 0) Ξ (Γ (.v 1))) (.idx (.v 2) (.bin .mod (.bin .add (.bin .fdiv (.v 3) (.c (.int 3))) (.bin .mul (.c (.int 7)) (.v 4))) (.c (.int 26))))) (.sl (.v 0) (Γ (.bin .add (.v 1) (.c (.int 1)))) Ξ)) [Γ (.str (sal B)),Γ (.int at'),Γ (.str "abcdefghijklmnopqrstuvwxyz"),Γ (.int c),Ξ]) ((ks m).map .int)=.ok (((ks m).map fun k=>sal (A++[ch c k]++C)).map .str):=by
   refine Ev.gc D.int (fun k:Int=>sal (A++[ch c k]++C)) .str _ fun k hk=>?_;obtain⟨k0,k1⟩:=rC hk;have r0:=Int.emod_nonneg (c / 3+7*k) (show(26:Int)≠0 by decide);have r1:=Int.emod_lt_of_pos (c / 3+7*k) (show(0:Int) < 26 by decide);have f0:=rA r0 r1;rw[show one (97+((c / 3+7*k) % 26).toNat)=sal [ch c k] from rfl]at f0;have f1:opB .add (.str (sal A)) (.str (sal [ch c k]))=.ok (.str (sal (A++[ch c k]))):=oI (by rw[List.length_cons,List.length_nil];omega);have f2:opB .add (.str (sal (A++[ch c k]))) (.str (sal C))=.ok (.str (sal (A++[ch c k]++C))):=oI (by rw[zW,List.length_cons,List.length_nil];omega);generalize sal (A++[ch c k]++C)=W3,sal (A++[ch c k])=W2,sal [ch c k]=W1 at *;have s8:(sal B).length<=16777216:=by omega
   simp![es1,es2,f0,f1,f2]
  refine⟨(ks m).map fun k=>sal (A++[ch c k]++C),?_,by rw[h_,iK],fun x hx=>?_⟩
  ·rw[g9x 41 d41 2 5 b41 rfl rfl rfl rfl rfl rfl];unfold b41;generalize((ks m).map fun k=>sal (A++[ch c k]++C))=F at *;have ff:=rB F;generalize(ks m).map D.int=KK at *;have s8:(sal cs).length<=16777216:=by omega
   have s9:(sal B).length<=16777216:=by omega
   have sp:(0:Int) < ((sal B).length:Int):=by omega
   cases q1:(c % 3 == 1) with
   |true=>
    cases q2:decide (m<=8) with
    |true=>rw[q1,q2]at b3;cases b3
    |false=>simp![ex,e1,je,q1,q2,rk,e2,lxs,lk,ff,es,hat]
   |false=>simp![ex,e1,je,q1,rk,e2,lxs,lk,ff,es,hat]
  ·obtain⟨k,hk,rfl⟩:=List.mem_map.mp hx;refine⟨_,rfl,by rw[zW,zW,Av];omega,by rw[zW,zW,Av];omega,fun z hz=>?_⟩;rcases x_.mp hz with hz|hz
   ·rcases x_.mp hz with hz|hz
    ·exact lA z hz
    ·rw[Ag]at hz;subst hz;have:=Int.emod_nonneg (c / 3+7*k) (show(26:Int)≠0 by decide);have:=Int.emod_lt_of_pos (c / 3+7*k) (show(0:Int) < 26 by decide);unfold low ch;omega
   ·exact lC z hz
def Sig (c:Nat):Prop:=(97<=c/\c<=122)∨(48<=c/\c<=57)
inductive Th where
 | txt (cs:List Nat)|num (i:Int)
noncomputable def Th.d:Th->D
 |.txt cs=>.str (sal cs)
 |.num i=>.int i
def Th.ok:Th->Prop
 |.txt cs=>cs.length<=8/\∀c∈cs,Sig c
 |.num i=>-999999999<=i/\i<=999999999
def Th.isBeg:Th->Prop
 |.txt cs=>1<=cs.length
 |.num _=>False
noncomputable def SG:Str:="abcdefghijklmnopqrstuvwxyz0123456789"
noncomputable def sgs:List Nat:=List.range' 97 26++List.range' 48 10
theorem tT:SG.cps.toList=sgs:=by decide +kernel
theorem rE:SG.length=36:=by decide +kernel
noncomputable def sg (i:Int):Nat:=sgs.getD i.toNat 0
theorem wG {i:Int}(h0:0<=i)(h1:i < 36):Sig (sg i):=by
 have key:∀k:Nat,k < 36->(97<=sgs.getD k 0/\sgs.getD k 0<=122)∨(48<=sgs.getD k 0/\sgs.getD k 0<=57):=by decide +kernel
 exact key i.toNat (by omega)
theorem yL {i:Int}(h0:0<=i)(h1:i < 36):fO (.str SG) (.int i)=.ok (.str (one (sg i))):=by rw[Ev.x_c h0 (by rw[rE];exact h1) (by rw[rE];decide),tT];rfl
theorem ix2 {o:Bool}{a b:Int}{i:Int}(h0:0<=i)(h1:i < 2):fO (.lst o [.int a,.int b]) (.int i)=.ok (.int (if i=0 then a else b)):=by rcases(show i=0∨i=1 by omega) with rfl|rfl<;>rfl
theorem ix3 {o:Bool}{a b c:Int}{i:Int}(h0:0<=i)(h1:i < 3):fO (.lst o [.int a,.int b,.int c]) (.int i)=.ok (.int (if i=0 then a else if i=1 then b else c)):=by rcases(show i=0∨i=1∨i=2 by omega) with rfl|rfl|rfl<;>rfl
theorem tU {o:Bool}{a b:Str}{i:Int}(h0:0<=i)(h1:i < 2):fO (.lst o [.str a,.str b]) (.int i)=.ok (.str (if i=0 then a else b)):=by rcases(show i=0∨i=1 by omega) with rfl|rfl<;>rfl
theorem oK {xs:List Int}(h:∀x∈xs,0<=x)(k:Nat):0<=xs.getD k 0:=by
 rw[Ap];cases e:xs[k]? with
 |none=>exact Int.le_refl _
 |some v=>exact h v (Af e)
theorem rF (n:Nat)(c:Int):∃xs:List Int,b9 T (n+1) 40 [.int c,.int 10]=.ok (.lst Δ (xs.map .int))/\xs.length=10/\∀k,0<=xs.getD k 0:=by obtain⟨xs,ex,lx,px⟩:=stream (show T 40=Γ d40 from rfl) rfl rfl rfl rfl n c 10 (by omega) (by omega);exact⟨xs,ex,lx,oK px⟩
theorem tn0:Int.toNat 0=0:=rfl
theorem tn1:Int.toNat 1=1:=rfl
theorem tn2:Int.toNat 2=2:=rfl
theorem tn3:Int.toNat 3=3:=rfl
theorem rG (n:Nat)(c:Int):∃i:Int,b9 T (n+2) 43 [.int c,.str "number"]=.ok (.int i)/\-999999999<=i/\i<=999999999:=by
 obtain⟨xs,ex,lx,px⟩:=rF n c;have f1:((Ο "number") == (Ο "number"))=Δ:=by decide +kernel
 have p1:=px 1;have i2:=ix2 (o:=Δ) (a:=4) (b:=999999999) (i:=xs.getD 1 0 % 2) (by omega) (by omega);generalize hf:(if xs.getD 1 0 % 2=0 then(4:Int) else 999999999)=far at i2;have hfar:far=4∨far=999999999:=by rw[<- hf];split<;>simp
 have r0:=Int.emod_nonneg (xs.getD 2 0) (show 2*far+1≠0 by omega);have r1:=Int.emod_lt_of_pos (xs.getD 2 0) (show 0 < 2*far+1 by omega);have m0:0 < 2*far+1:=by omega
 have i3:=ix3 (o:=Δ) (a:=xs.getD 2 0 % (2*far+1) - far) (b:=far) (c:=0 - far) (i:=xs.getD 3 0 % 3) (by omega) (by omega);refine⟨if xs.getD 3 0 % 3=0 then xs.getD 2 0 % (2*far+1) - far else if xs.getD 3 0 % 3=1 then far else 0 - far,?_,?_,?_⟩
 ·rw[g9x 43 d43 2 6 b43 rfl rfl rfl rfl rfl rfl];unfold b43;simp![ex,f1,i2,i3,tn0,tn1,tn2,tn3]
 ·split
  ·omega
  ·split<;>omega
 ·split
  ·omega
  ·split<;>omega
theorem rH {xs:List Int}(h:xs.length=10):fR (xs.map D.int) (Γ 2) (Γ 10)=(xs.drop 2).map .int:=by rw[Ev.j7];congr 1;unfold fR HT.sIx;rw[h];show List.take 8 (List.drop 2 xs)=_;rw[List.take_of_length_le (by rw[Ak];omega)]
theorem drawn (n:Nat){xs:List Int}(lx:xs.length=10)(px:∀k,0<=xs.getD k 0):∃cs:List Nat,cs.length=8/\(∀c∈cs,Sig c)/\
  fm (fD (b9 T (n+1)) (.nm 2) [] (.idx (.v 0) (.bin .mod (.v 2) (.idx (.lst [(.c (.int 2)),(.c (.int 36))]) (.bin .fdiv (.bin .mod (.idx (.v 1) (.c (.int 1))) (.c (.int 4))) (.c (.int 3)))))) [Γ (.str SG),Γ (.lst Δ (xs.map .int)),Ξ]) ((xs.drop 2).map .int)=.ok ((cs.map one).map .str):=by
 have p1:=px 1;have i2:=ix2 (o:=Δ) (a:=2) (b:=36) (i:=xs.getD 1 0 % 4 / 3) (by omega) (by omega);generalize hf:(if xs.getD 1 0 % 4 / 3=0 then(2:Int) else 36)=m at i2;have hm:m=2∨m=36:=by rw[<- hf];split<;>simp
 refine⟨(xs.drop 2).map fun x=>sg (x % m),by rw[h_,Ak,lx],fun c hc=>?_,?_⟩
 ·obtain⟨x,_,rfl⟩:=List.mem_map.mp hc;have r0:=Int.emod_nonneg x (show m≠0 by omega);have r1:=Int.emod_lt_of_pos x (show 0 < m by omega);exact wG r0 (by omega)
 ·rw[show((xs.drop 2).map fun x=>sg (x % m)).map one=(xs.drop 2).map fun x=>one (sg (x % m)) from Ah ..];refine Ev.gc D.int (fun x=>one (sg (x % m))) .str _ fun x hx=>?_;have r0:=Int.emod_nonneg x (show m≠0 by omega);have r1:=Int.emod_lt_of_pos x (show 0 < m by omega);have m0:0 < m:=by omega
  have e:=yL (i:=x % m) r0 (by omega);simp![i2,e,tn1]
theorem rJ (n:Nat)(c:Int):∃t:Th,b9 T (n+2) 43 [.int c,.str "any"]=.ok t.d/\t.ok:=by
 obtain⟨xs,ex,lx,px⟩:=rF n c;have f1:((Ο "any") == (Ο "number"))=Θ:=by decide +kernel
 have f2:((Ο "any") == (Ο "any"))=Δ:=by decide +kernel
 have f3:((Ο "any") == (Ο "begins"))=Θ:=by decide +kernel
 have p0:=px 0;have p1:=px 1;have p2:=px 2;by_cases h3:xs.getD 0 0 % 3=0
 ·have g3:(xs.getD 0 0 % 3 == 0)=Δ:=by rw[h3];rfl
  have i2:=ix2 (o:=Δ) (a:=4) (b:=999999999) (i:=xs.getD 1 0 % 2) (by omega) (by omega);generalize hf:(if xs.getD 1 0 % 2=0 then(4:Int) else 999999999)=far at i2;have hfar:far=4∨far=999999999:=by rw[<- hf];split<;>simp
  have r0:=Int.emod_nonneg (xs.getD 2 0) (show 2*far+1≠0 by omega);have r1:=Int.emod_lt_of_pos (xs.getD 2 0) (show 0 < 2*far+1 by omega);have m0:0 < 2*far+1:=by omega
  have i3:=ix3 (o:=Δ) (a:=xs.getD 2 0 % (2*far+1) - far) (b:=far) (c:=0 - far) (i:=xs.getD 3 0 % 3) (by omega) (by omega);refine⟨.num (if xs.getD 3 0 % 3=0 then xs.getD 2 0 % (2*far+1) - far else if xs.getD 3 0 % 3=1 then far else 0 - far),?_,?_,?_⟩
  ·unfold Th.d;rw[g9x 43 d43 2 6 b43 rfl rfl rfl rfl rfl rfl];unfold b43;simp![ex,f1,f2,g3,i2,i3,tn0,tn1,tn2,tn3]
  ·split
   ·omega
   ·split<;>omega
  ·split
   ·omega
   ·split<;>omega
 ·have g3:(xs.getD 0 0 % 3 == 0)=Θ:=by simpa using h3
  obtain⟨cs,lc,sc,ec⟩:=drawn n lx px;have je:∀o:Bool,iz .join (.str "") [.lst o ((cs.map one).map .str)]=.ok (.str (sal cs)):=fun o=>lT (by omega);have i2:=ix2 (o:=Δ) (a:=4) (b:=9) (i:=xs.getD 2 0 % 2) (by omega) (by omega);generalize hf:(if xs.getD 2 0 % 2=0 then(4:Int) else 9)=m at i2;have hm:m=4∨m=9:=by rw[<- hf];split<;>simp
  have m0:0 < m:=by omega
  have r0:=Int.emod_nonneg (xs.getD 0 0 / 3) (show m≠0 by omega);have r1:=Int.emod_lt_of_pos (xs.getD 0 0 / 3) (show 0 < m by omega);have es:=gU (cs:=cs) (j:=xs.getD 0 0 / 3 % m) (by omega) (by omega);refine⟨.txt (cs.take (xs.getD 0 0 / 3 % m).toNat),?_,by rw[Aj];omega,fun z hz=>sc z (List.mem_of_mem_take hz)⟩;have c10:=rH lx;have l8:((xs.drop 2).map D.int).length=8:=by rw[h_,Ak,lx]
  have sl:=eV cs;have s8:(sal cs).length<=16777216:=by omega
  unfold Th.d;generalize(cs.map one).map D.str=J,(xs.drop 2).map D.int=XD at *;unfold SG at ec;rw[g9x 43 d43 2 6 b43 rfl rfl rfl rfl rfl rfl];unfold b43;simp![ex,f1,f2,f3,g3,i2,c10,ec,je,es,l8,tn0,tn1,tn2,tn3]
theorem rK (n:Nat)(c:Int):∃cs:List Nat,b9 T (n+2) 43 [.int c,.str "begins"]=.ok (.str (sal cs))/\1<=cs.length/\cs.length<=8/\∀c∈cs,Sig c:=by
 obtain⟨xs,ex,lx,px⟩:=rF n c;have f1:((Ο "begins") == (Ο "number"))=Θ:=by decide +kernel
 have f2:((Ο "begins") == (Ο "any"))=Θ:=by decide +kernel
 have f3:((Ο "begins") == (Ο "begins"))=Δ:=by decide +kernel
 have p0:=px 0;have p2:=px 2;obtain⟨cs,lc,sc,ec⟩:=drawn n lx px;have je:∀o:Bool,iz .join (.str "") [.lst o ((cs.map one).map .str)]=.ok (.str (sal cs)):=fun o=>lT (by omega);have i2:=ix2 (o:=Δ) (a:=3) (b:=8) (i:=xs.getD 2 0 % 2) (by omega) (by omega);generalize hf:(if xs.getD 2 0 % 2=0 then(3:Int) else 8)=m at i2;have hm:m=3∨m=8:=by rw[<- hf];split<;>simp
 have m0:0 < m:=by omega
 have r0:=Int.emod_nonneg (xs.getD 0 0 / 3) (show m≠0 by omega);have r1:=Int.emod_lt_of_pos (xs.getD 0 0 / 3) (show 0 < m by omega);have es:=gU (cs:=cs) (j:=1+xs.getD 0 0 / 3 % m) (by omega) (by omega);refine⟨cs.take (1+xs.getD 0 0 / 3 % m).toNat,?_,by rw[Aj];omega,by rw[Aj];omega,fun z hz=>sc z (List.mem_of_mem_take hz)⟩;have c10:=rH lx;have l8:((xs.drop 2).map D.int).length=8:=by rw[h_,Ak,lx]
 have sl:=eV cs;have s8:(sal cs).length<=16777216:=by omega
 generalize(cs.map one).map D.str=J,(xs.drop 2).map D.int=XD at *;unfold SG at ec;rw[g9x 43 d43 2 6 b43 rfl rfl rfl rfl rfl rfl];unfold b43;simp![ex,f1,f2,f3,i2,c10,ec,je,es,l8,tn0,tn1,tn2,tn3]
theorem lV {α β:Type}{g:D->Res (Option D)}(emb:α->D)(emb':β->D)(P:β->Prop):∀(xs:List α),(∀x∈xs,∃t,g (emb x)=.ok (Γ (emb' t))/\P t)->∃ts:List β,fm g (xs.map emb)=.ok (ts.map emb')/\ts.length=xs.length/\∀t∈ts,P t
 |[],_=>⟨[],rfl,rfl,fun t h=>absurd h (by simp)⟩
 |x::xs,h=>by
  obtain⟨t,e,p⟩:=h x (by simp);obtain⟨ts,e',l,ps⟩:=lV emb emb' P xs fun y hy=>h y (s_ _ hy);refine⟨t::ts,?_,by rw[List.length_cons,List.length_cons,l],fun z hz=>?_⟩
  ·show bnd (g (emb x)) _=_;rw[e];show bnd (fm g (xs.map emb)) _=_;rw[e'];rfl
  ·rcases p_.mp hz with rfl|hz
   ·exact p
   ·exact ps z hz
theorem i5:∀ts:List Th,eS (ts.map Th.d)=Δ
 |[]=>rfl
 |t::ts=>by rw[a_];show(e7 t.d&&eS (ts.map Th.d))=Δ;rw[i5 ts];cases t<;>rfl
theorem kW (ts:List Th):ers (ts.map Th.d)=ts.map Th.d:=fY (i5 ts)
noncomputable def ws:List Str:=["is","not","begins","least","most","has","lacks","in","out"]
structure Cnd (nm:List Nat)(w:Str)(ts:List Th):Prop where
 n1:1<=nm.length
 n8:nm.length<=8
 low:∀c∈nm,low c
 len:ts.length<=10
 ok:∀t∈ts,t.ok
 go:((w = "is"∨w = "not")/\1<=ts.length)∨(w = "begins"/\1<=ts.length/\∀t∈ts,t.isBeg)∨((w = "least"∨w = "most")/\∃i,ts=[.num i])∨((w = "has"∨w = "lacks"∨w = "in"∨w = "out")/\ts=[])
theorem w9 {k:Nat}(h:k < 9):(ws.getD k ⟨#[]⟩ = "is"∨ws.getD k ⟨#[]⟩ = "not")∨ws.getD k ⟨#[]⟩ = "begins"∨(ws.getD k ⟨#[]⟩ = "least"∨ws.getD k ⟨#[]⟩ = "most")∨(ws.getD k ⟨#[]⟩ = "has"∨ws.getD k ⟨#[]⟩ = "lacks")∨(ws.getD k ⟨#[]⟩ = "in"∨ws.getD k ⟨#[]⟩ = "out"):=by
 match k,h with
 |0,_=>exact .inl (.inl rfl)
 |1,_=>exact .inl (.inr rfl)
 |2,_=>exact .inr (.inl rfl)
 |3,_=>exact .inr (.inr (.inl (.inl rfl)))
 |4,_=>exact .inr (.inr (.inl (.inr rfl)))
 |5,_=>exact .inr (.inr (.inr (.inl (.inl rfl))))
 |6,_=>exact .inr (.inr (.inr (.inl (.inr rfl))))
 |7,_=>exact .inr (.inr (.inr (.inr (.inl rfl))))
 |8,_=>exact .inr (.inr (.inr (.inr (.inr rfl))))
theorem rL {fs:List Str}(h:∀x∈fs,Nam x){k:Nat}(hk:k < fs.length):∃cs:List Nat,fs.getD k ⟨#[]⟩=sal cs/\1<=cs.length/\cs.length<=8/\∀c∈cs,low c:=by rw[Ap,Aw hk];exact(h _ (List.getElem_mem hk)).ex
theorem tV (n:Nat)(c:Int){ns gs:List Str}(ln:ns.length=3)(lg:gs.length=3)(hn:∀x∈ns,Nam x)(hg:∀x∈gs,Nam x) :
  ∃(nm:List Nat) (w:Str) (ts:List Th),b9 T (n+3) 44 [.int c,.lst Θ (ns.map .str),.lst Θ (gs.map .str)]=.ok (.tup [.str (sal nm),.str w,.lst Δ (ts.map Th.d)])/\Cnd nm w ts:=by
 obtain⟨xs,ex,lx,px'⟩:=stream (show T 40=Γ d40 from rfl) rfl rfl rfl rfl (n+1) c 4 (by omega) (by omega);have px:=oK px';have lx4:xs.length=4:=lx;have p0:=px 0;have p1:=px 1;have p2:=px 2;have p3:=px 3;have eg:gh (eqN 39) (gs.map D.str) []=.ok Θ:=by
  cases gs with
  |nil=>cases lg
  |cons g gs=>rfl
 have i9:=ix2 (o:=Δ) (a:=9) (b:=7) (i:=0) (by omega) (by omega);rw[d_ rfl]at i9;have hw:fO (.lst Δ [.str "is",.str "not",.str "begins",.str "least",.str "most",.str "has",.str "lacks",.str "in",.str "out"]) (.int (xs.getD 0 0 % 9))=.ok (.str (ws.getD (xs.getD 0 0 % 9).toNat ⟨#[]⟩)):=Ev.rp (o:=Δ) (xs:=ws) (by omega) (by show _ < ((9:Nat):Int);omega);have hw9:=w9 (k:=(xs.getD 0 0 % 9).toNat) (by omega);generalize ws.getD (xs.getD 0 0 % 9).toNat ⟨#[]⟩=w at hw hw9;have l3:(ns.map D.str).length=3:=by rw[h_,ln]
 have l3':(gs.map D.str).length=3:=by rw[h_,lg]
 have c3:((3:Nat):Int)=3:=rfl;obtain⟨nm,en,nm1,nm8,nml⟩:=rL hn (k:=(xs.getD 1 0 % 3).toNat) (by omega);obtain⟨gm,eg',gm1,gm8,gml⟩:=rL hg (k:=(xs.getD 1 0 % 3).toNat) (by omega);have hx:fO (.lst Θ (ns.map .str)) (.int (xs.getD 1 0 % 3))=.ok (.str (sal nm)):=by rw[Ev.rp (by omega) (by omega),en]
 have hx':fO (.lst Θ (gs.map .str)) (.int (xs.getD 1 0 % 3))=.ok (.str (sal gm)):=by rw[Ev.rp (by omega) (by omega),eg']
 generalize ns.map D.str=NS,gs.map D.str=GS at *;have nf:∀ {a b:String},(Ο a == Ο b)=Δ->∀ {x:Str},x=Ο a->(x == Ο b)=Δ:=fun h x e=>by rw[e];exact h
 rcases hw9 with hw9|hw9|hw9|hw9|hw9
 ·have q1:(w == "in")=Θ:=by rcases hw9 with rfl|rfl<;>decide +kernel
  have q2:(w == "out")=Θ:=by rcases hw9 with rfl|rfl<;>decide +kernel
  have q3:(w == "has")=Θ:=by rcases hw9 with rfl|rfl<;>decide +kernel
  have q4:(w == "lacks")=Θ:=by rcases hw9 with rfl|rfl<;>decide +kernel
  have q5:(w == "least")=Θ:=by rcases hw9 with rfl|rfl<;>decide +kernel
  have q6:(w == "most")=Θ:=by rcases hw9 with rfl|rfl<;>decide +kernel
  have q7:(w == "begins")=Θ:=by rcases hw9 with rfl|rfl<;>decide +kernel
  have i2:=ix2 (o:=Δ) (a:=1+xs.getD 2 0 % 3) (b:=1+xs.getD 2 0 % 10) (i:=xs.getD 3 0 % 4 / 3) (by omega) (by omega);generalize hf:(if xs.getD 3 0 % 4 / 3=0 then 1+xs.getD 2 0 % 3 else 1+xs.getD 2 0 % 10)=m at i2;have hm:1<=m/\m<=10:=by rw[<- hf];split<;>omega
  have rk:gE 0 m=(ks m).map .int:=Ev.j8 0 m;have lk:((ks m).map D.int).length=(m - 0).toNat:=by rw[h_,iK]
  obtain⟨ts,et,lt,pt⟩:=lV (g:=fD (b9 T (n+2)) (.nm 2) [] (.call 43 [.bin .add (.bin .fdiv (.v 0) (.c (.int 5))) (.bin .mul (.c (.int 31)) (.v 2)),.v 1]) [Γ (.int c),Γ (.str "any"),Ξ]) D.int Th.d Th.ok (ks m) fun k hk=>by obtain⟨t,e,p⟩:=rJ n (c / 5+31*k);refine⟨t,?_,p⟩;simp![e]
  rw[iK]at lt;refine⟨nm,w,ts,?_,nm1,nm8,nml,by omega,pt,.inl ⟨hw9,by omega⟩⟩;have i8:=tU (o:=Δ) (a:="any") (b:="begins") (i:=0) (by omega) (by omega);rw[d_ rfl]at i8;have tl:=i5 ts;generalize ts.map Th.d=TS,(ks m).map D.int=KK at *;rw[g9x 44 d44 3 9 b44 rfl rfl rfl rfl rfl rfl];unfold b44;simp![ex,eg,i9,hw,l3,l3',c3,hx,q1,q2,q3,q4,q5,q6,q7,i2,i8,rk,lk,et,tl,tn0,tn1,tn2,tn3]
 ·have q1:(w == "in")=Θ:=by subst hw9;decide +kernel
  have q2:(w == "out")=Θ:=by subst hw9;decide +kernel
  have q3:(w == "has")=Θ:=by subst hw9;decide +kernel
  have q4:(w == "lacks")=Θ:=by subst hw9;decide +kernel
  have q5:(w == "least")=Θ:=by subst hw9;decide +kernel
  have q6:(w == "most")=Θ:=by subst hw9;decide +kernel
  have q7:(w == "begins")=Δ:=by subst hw9;decide +kernel
  have i2:=ix2 (o:=Δ) (a:=1+xs.getD 2 0 % 3) (b:=1+xs.getD 2 0 % 10) (i:=xs.getD 3 0 % 4 / 3) (by omega) (by omega);generalize hf:(if xs.getD 3 0 % 4 / 3=0 then 1+xs.getD 2 0 % 3 else 1+xs.getD 2 0 % 10)=m at i2;have hm:1<=m/\m<=10:=by rw[<- hf];split<;>omega
  have rk:gE 0 m=(ks m).map .int:=Ev.j8 0 m;have lk:((ks m).map D.int).length=(m - 0).toNat:=by rw[h_,iK]
  obtain⟨ts,et,lt,pt⟩:=lV (g:=fD (b9 T (n+2)) (.nm 2) [] (.call 43 [.bin .add (.bin .fdiv (.v 0) (.c (.int 5))) (.bin .mul (.c (.int 31)) (.v 2)),.v 1]) [Γ (.int c),Γ (.str "begins"),Ξ]) D.int Th.d (fun t=>t.ok/\t.isBeg) (ks m) fun k hk=>by obtain⟨cs,e,p1,p8,pc⟩:=rK n (c / 5+31*k);refine⟨.txt cs,?_,⟨p8,pc⟩,p1⟩;show _=Except.ok (Γ (D.str (sal cs)));simp![e]
  rw[iK]at lt;refine⟨nm,w,ts,?_,nm1,nm8,nml,by omega,fun t ht=>(pt t ht).1,.inr (.inl ⟨hw9,by omega,fun t ht=>(pt t ht).2⟩)⟩;have i8:=tU (o:=Δ) (a:="any") (b:="begins") (i:=1) (by omega) (by omega);rw[c_ (by omega)]at i8;have tl:=i5 ts;generalize ts.map Th.d=TS,(ks m).map D.int=KK at *;rw[g9x 44 d44 3 9 b44 rfl rfl rfl rfl rfl rfl];unfold b44;simp![ex,eg,i9,hw,l3,l3',c3,hx,q1,q2,q3,q4,q5,q6,q7,i2,i8,rk,lk,et,tl,tn0,tn1,tn2,tn3]
 ·have q1:(w == "in")=Θ:=by rcases hw9 with rfl|rfl<;>decide +kernel
  have q2:(w == "out")=Θ:=by rcases hw9 with rfl|rfl<;>decide +kernel
  have q3:(w == "has")=Θ:=by rcases hw9 with rfl|rfl<;>decide +kernel
  have q4:(w == "lacks")=Θ:=by rcases hw9 with rfl|rfl<;>decide +kernel
  obtain⟨i,ei,i0,i1⟩:=rG n (c / 5);refine⟨nm,w,[.num i],?_,nm1,nm8,nml,by simp,fun t ht=>?_,.inr (.inr (.inl ⟨hw9,i,rfl⟩))⟩
  ·show _=Except.ok (D.tup [.str (sal nm),.str w,.lst Δ [.int i]]);cases q5:(w == "least") with
   |true=>rw[g9x 44 d44 3 9 b44 rfl rfl rfl rfl rfl rfl];unfold b44;simp![ex,eg,i9,hw,l3,l3',c3,hx,q1,q2,q3,q4,q5,ei,tn0,tn1,tn2,tn3]
   |false=>
    have q6:(w == "most")=Δ:=by
     rcases hw9 with rfl|rfl
     ·cases q5.symm.trans (show((Ο "least") == (Ο "least"))=Δ by decide +kernel)
     ·decide +kernel
    rw[g9x 44 d44 3 9 b44 rfl rfl rfl rfl rfl rfl];unfold b44;simp![ex,eg,i9,hw,l3,l3',c3,hx,q1,q2,q3,q4,q5,q6,ei,tn0,tn1,tn2,tn3]
  ·rw[Ag]at ht;subst ht;exact⟨i0,i1⟩
 ·have q1:(w == "in")=Θ:=by rcases hw9 with rfl|rfl<;>decide +kernel
  have q2:(w == "out")=Θ:=by rcases hw9 with rfl|rfl<;>decide +kernel
  refine⟨nm,w,[],?_,nm1,nm8,nml,by simp,fun t ht=>absurd ht (by simp),.inr (.inr (.inr ⟨by rcases hw9 with h|h;exact .inl h;exact .inr (.inl h),rfl⟩))⟩;show _=Except.ok (D.tup [.str (sal nm),.str w,.lst Δ []]);cases q3:(w == "has") with
  |true=>rw[g9x 44 d44 3 9 b44 rfl rfl rfl rfl rfl rfl];unfold b44;simp![ex,eg,i9,hw,l3,l3',c3,hx,q1,q2,q3,tn0,tn1,tn2,tn3]
  |false=>
   have q4:(w == "lacks")=Δ:=by
    rcases hw9 with rfl|rfl
    ·cases q3.symm.trans (show((Ο "has") == (Ο "has"))=Δ by decide +kernel)
    ·decide +kernel
   rw[g9x 44 d44 3 9 b44 rfl rfl rfl rfl rfl rfl];unfold b44;simp![ex,eg,i9,hw,l3,l3',c3,hx,q1,q2,q3,q4,tn0,tn1,tn2,tn3]
 ·refine⟨gm,w,[],?_,gm1,gm8,gml,by simp,fun t ht=>absurd ht (by simp),.inr (.inr (.inr ⟨.inr (.inr hw9),rfl⟩))⟩;show _=Except.ok (D.tup [.str (sal gm),.str w,.lst Δ []]);cases q1:(w == "in") with
  |true=>rw[g9x 44 d44 3 9 b44 rfl rfl rfl rfl rfl rfl];unfold b44;simp![ex,eg,i9,hw,l3,l3',c3,hx,hx',q1,tn0,tn1,tn2,tn3]
  |false=>
   have q2:(w == "out")=Δ:=by
    rcases hw9 with rfl|rfl
    ·cases q1.symm.trans (show((Ο "in") == (Ο "in"))=Δ by decide +kernel)
    ·decide +kernel
   rw[g9x 44 d44 3 9 b44 rfl rfl rfl rfl rfl rfl];unfold b44;simp![ex,eg,i9,hw,l3,l3',c3,hx,hx',q1,q2,tn0,tn1,tn2,tn3]
open PyProof.Rows
theorem gp (cs:List Nat):(sal cs).cps.toList=cs:=by unfold sal;simp
theorem ir (x:Str):sal x.cps.toList=x:=by cases x;unfold sal;simp
noncomputable def jn:List (List Nat)->List Nat
 |[]=>[]
 |[p]=>p
 |p::q::r=>p++32::jn (q::r)
theorem kX:Ο " " = sal [32]:=by decide +kernel
theorem lW:∀ps:List (List Nat),Str.join (sal [32]) (ps.map sal)=sal (jn ps)
 |[]=>rfl
 |[p]=>rfl
 |p::q::r=>by show sal p++sal [32]++Str.join (sal [32]) ((q::r).map sal)=_;rw[lW (q::r),jy,jy];show sal (p++[32]++jn (q::r))=sal (p++32::jn (q::r));rw[z_];rfl
theorem kY:∀ {a b r s:List Nat},32∉a->32∉b->a++32::r=b++32::s->a=b/\r=s
 |[],[],r,s,_,_,h=>by simpa using h
 |[],y::b,r,s,_,hb,h=>by
  have:32=y:=by injection h
  exact absurd (by rw[this];simp) hb
 |x::a,[],r,s,ha,_,h=>by
  have:x=32:=by injection h
  exact absurd (by rw[this];simp) ha
 |x::a,y::b,r,s,ha,hb,h=>by injection h with h1 h2;have:=kY (fun z=>ha (s_ _ z)) (fun z=>hb (s_ _ z)) h2;exact⟨by rw[h1,this.1],this.2⟩
theorem rM:∀ {ps qs:List (List Nat)},ps≠[]->qs≠[]->(∀p∈ps,32∉p)->(∀q∈qs,32∉q)->jn ps=jn qs->ps=qs
 |[],_,h,_,_,_,_=>absurd rfl h
 |_,[],_,h,_,_,_=>absurd rfl h
 |[p],[q],_,_,_,_,h=>by have:p=q:=h;rw[this]
 |[p],q::q'::r,_,_,hp,_,h=>by have h:p=q++32::jn (q'::r):=h;exact absurd (show 32∈p by rw[h];simp) (hp p (by simp))
 |p::p'::r,[q],_,_,_,hq,h=>by have h:p++32::jn (p'::r)=q:=h;exact absurd (show 32∈q by rw[<- h];simp) (hq q (by simp))
 |p::p'::r,q::q'::s,_,_,hp,hq,h=>by have h:p++32::jn (p'::r)=q++32::jn (q'::s):=h;obtain⟨e1,e2⟩:=kY (hp p (by simp)) (hq q (by simp)) h;rw[e1,rM (ps:=p'::r) (qs:=q'::s) (by simp) (by simp) (fun z hz=>hp z (s_ _ hz)) (fun z hz=>hq z (s_ _ hz)) e2]
theorem j9 {ps:List (List Nat)}(h0:ps≠[])(h:∀p∈ps,32∉p):Txt.split (sal (jn ps)) (Ο " ")=ps.map sal:=by
 rw[kX];have e1:=StrLaws.join_split (sal (jn ps)) (sal [32]);have e2:=StrLaws.split_free (sal (jn ps)) 32;have e3:=split_pos (sal (jn ps)) (sal [32]);have e2':∀p∈Txt.split (sal (jn ps)) (sal [32]),32∉p.cps.toList:=e2;generalize Txt.split (sal (jn ps)) (sal [32])=l at *;have el:l=(l.map (·.cps.toList)).map sal:=by
  rw[Ah];have:(sal ∘ fun x:Str=>x.cps.toList)=id:=by funext x;exact ir x
  rw[this,List.map_id]
 rw[el,lW]at e1;have e4:=oJ e1
 have:=rM (ps:=l.map (·.cps.toList)) (qs:=ps) (by intro z;rw[List.map_eq_nil_iff.mp z]at e3;exact absurd e3 (by decide)) h0 (by
  intro p hp;obtain⟨x,hx,rfl⟩:=List.mem_map.mp hp
  exact e2' x hx) h e4
 rw[el,this]
theorem rN (ps:List (List Nat)):Txt.join (Ο " ") (ps.map sal)=sal (jn ps):=by have:=join_closes (sep:=Ο " ") (sep':=sal [32]) (ys:=ps.map sal) kX;rw[f_ this,lW]
noncomputable def dgs (n:Nat):List Nat:=(Nat.toDigits 10 n).map Char.toNat
noncomputable def shw:Th->List Nat
 |.txt cs=>46::cs
 |.num i=>if i < 0 then 45::dgs i.natAbs else dgs i.natAbs
theorem oM (i:Int):shw (.num i)=if i < 0 then 45::dgs i.natAbs else dgs i.natAbs:=rfl
theorem tW {n:Nat}(h:n < 10 ^ 9):(dgs n).length<=9:=by unfold dgs;rw[h_];exact(Nat.length_toDigits_le_iff (by decide) (by decide)).mpr h
theorem tX (m:Nat):Ο (toString ((m:Nat):Int))=sal (dgs m):=by rw[<- ir (Ο (toString ((m:Nat):Int))),PySem.W.KIN.signs_num];rfl
theorem tY (i:Int):Ο (toString i)=sal (shw (.num i)):=by
 rw[oM];by_cases h:i < 0
 ·rw[d_ h];obtain⟨m,rfl⟩:=Int.eq_negSucc_of_lt_zero h;rw[<- ir (Ο (toString (Int.negSucc m))),signs_ofString];show sal (("-"++Nat.repr (m+1)).toList.map Char.toNat)=_;rw[String.toList_append,Nat.toList_repr,List.map_append];rfl
 ·rw[c_ h];obtain⟨m,rfl⟩:=Int.eq_ofNat_of_zero_le (show 0<=i by omega);exact tX m
theorem lY (c d:Nat)(r:List Nat):Txt.startswith (sal (c::r)) (sal [d])=(c == d):=by unfold Txt.startswith;rw[StrLaws.subAt_eq,gp,gp,eV,eV];simp
theorem wH {i:Int}(h0 : -999999999<=i)(h1:i<=999999999):decide (i.natAbs.log2 < 1920)=Δ:=by
 refine l_ ?_;by_cases h:i.natAbs=0
 ·rw[h];decide
 ·have:i.natAbs.log2 < 30:=(Nat.log2_lt h).mpr (by omega);omega
theorem nM (x:Str)(c:Nat):ml x (one c)=decide (c∈x.cps.toList):=StrLaws.found_one x c
theorem iv (cs:List Nat):gk (sal cs)=cs.map (fun c=>D.str (one c)):=by rw[Ev.nL,gp,Ah];rfl
noncomputable def al (sg:Str)(cs:List Nat):Bool:=cs.all fun c=>decide (c∈sg.cps.toList)
noncomputable def fU (lo hi:Int)(cs:List Nat):Bool:=decide (lo<=((cs.length:Nat):Int))&&decide (((cs.length:Nat):Int)<=hi)
theorem tx (n:Nat)(lo hi:Int)(sg:Str)(cs:List Nat)(hx:cs.length<=2000):b9 T (n+1) 31 [.str (sal cs),.str sg,.int lo,.int hi]=.ok (.bl (fU lo hi cs&&al sg cs)):=by
 have e1:fm (fD (b9 T n) (.nm 1) [] (.cmp .in_ (.v 1) (.v 0)) [Γ (.str sg),Ξ]) (cs.map fun c=>D.str (one c))=.ok ((cs.map fun c=>decide (c∈sg.cps.toList)).map .bl):=by refine Ev.gc (fun c=>D.str (one c)) (fun c=>decide (c∈sg.cps.toList)) .bl _ fun c hc=>?_;have:=nM sg c;simp![this]
 have sl:=eV cs;have s8:(sal cs).length<=16777216:=by omega
 have lc:(cs.map fun c=>D.str (one c)).length=cs.length:=h_ ..;have ce:=iv cs;have ale:(cs.map fun c=>decide (c∈sg.cps.toList)).all id=al sg cs:=by unfold al;rw[List.all_map];rfl
 unfold fU;rw[<- sl];generalize al sg cs=aa,(cs.map fun c=>D.str (one c))=X at *;cases d0:decide (lo<=(((sal cs).length:Nat):Int)) with
 |false=>rw[g9x 31 d31 4 4 b31 rfl rfl rfl rfl rfl rfl];unfold b31;simp![d0]
 |true=>
  cases d1:decide ((((sal cs).length:Nat):Int)<=hi) with
  |false=>rw[g9x 31 d31 4 4 b31 rfl rfl rfl rfl rfl rfl];unfold b31;simp![d0,d1]
  |true=>rw[g9x 31 d31 4 4 b31 rfl rfl rfl rfl rfl rfl];unfold b31;simp![d0,d1,ce,e1,lc,Ev.jh,ale]
theorem yM (n:Nat)(lo hi i:Int)(sg:Str):b9 T (n+1) 31 [.int i,.str sg,.int lo,.int hi]=.ok (.bl Θ):=by rw[g9x 31 d31 4 4 b31 rfl rfl rfl rfl rfl rfl];unfold b31;simp![ev0]
noncomputable def B1 (lo:Int):Th->Bool
 |.txt cs=>fU lo 8 cs&&al SG cs
 |.num _=>Θ
noncomputable def B2:Th->Bool
 |.num i=>decide ((if i < 0 then -i else i)<=999999999)
 |.txt _=>Θ
def Th.fit:Th->Prop
 |.txt cs=>cs.length<=2000
 |.num _=>True
theorem uQ (n:Nat)(lo:Int){t:Th}(h:t.fit):b9 T (n+2) 32 [t.d,.int lo]=.ok (.bl (B1 lo t)):=by
 cases t with
 |txt cs=>have key:=tx n lo 8 SG cs h;show b9 T (n+2) 32 [.str (sal cs),.int lo]=.ok (.bl (fU lo 8 cs&&al SG cs));generalize(fU lo 8 cs&&al SG cs)=bb at *;unfold SG at key;rw[g9x 32 d32 2 2 b32 rfl rfl rfl rfl rfl rfl];unfold b32;simp![key]
 |num i=>have key:=yM n lo 8 i SG;unfold SG at key;unfold B1 Th.d;rw[g9x 32 d32 2 2 b32 rfl rfl rfl rfl rfl rfl];unfold b32;simp![key]
theorem yN (n:Nat)(t:Th):b9 T (n+1) 30 [t.d]=.ok (.bl (match t with|.num _=>Δ|.txt _=>Θ)):=by
 cases t with
 |num i=>unfold Th.d;rw[g9x 30 d30 1 1 b30 rfl rfl rfl rfl rfl rfl];unfold b30;simp![ev0]
 |txt cs=>unfold Th.d;rw[g9x 30 d30 1 1 b30 rfl rfl rfl rfl rfl rfl];unfold b30;simp![ev0]
theorem uR (n:Nat)(t:Th):b9 T (n+2) 33 [t.d]=.ok (.bl (B2 t)):=by
 have w:=yN n t;cases t with
 |num i=>have w:b9 T (n+1) 30 [.int i]=.ok (.bl Δ):=w;unfold B2 Th.d;rw[g9x 33 d33 1 1 b33 rfl rfl rfl rfl rfl rfl];unfold b33;simp![w]
 |txt cs=>have w:b9 T (n+1) 30 [.str (sal cs)]=.ok (.bl Θ):=w;unfold B2 Th.d;rw[g9x 33 d33 1 1 b33 rfl rfl rfl rfl rfl rfl];unfold b33;simp![w]
theorem rO (t:Th):er t.d=t.d:=by cases t<;>(unfold Th.d;rw[er])
noncomputable def szB (ts:List Th):Bool:=decide ((1:Int)<=((ts.length:Nat):Int))&&decide (((ts.length:Nat):Int)<=10)
noncomputable def goA (ts:List Th):Bool:=szB ts&&ts.all fun t=>B1 0 t||B2 t
noncomputable def goG (ts:List Th):Bool:=szB ts&&ts.all fun t=>B1 1 t
noncomputable def goL:List Th->Bool
 |[t]=>B2 t
 |_=>Θ
noncomputable def goB (w:Str)(ts:List Th):Bool:=
 if(w == "is")=Δ then goA ts else if(w == "not")=Δ then goA ts else if(w == "begins")=Δ then goG ts else if(w == "least")=Δ then goL ts else if(w == "most")=Δ then goL ts else ts.isEmpty
theorem wI (bs:List Bool):eS (bs.map D.bl)=Δ:=by rw[gw,List.all_map,zY];intro x _;rfl
section
variable {ts:List Th}(hf:∀t∈ts,t.fit)(hl:ts.length<=2000)
include hf hl
theorem yO (n:Nat){w:Str}(h:(w == "is")=Δ∨((w == "is")=Θ/\(w == "not")=Δ)):b9 T (n+4) 34 [.str w,.lst Θ (ts.map Th.d)]=.ok (.bl (goA ts)):=by
 have e1:fm (fD (b9 T (n+3)) (.nm 0) [] (.or_ (.call 32 [(.v 0),(.c (.int 0))]) (.call 33 [(.v 0)])) [Ξ]) (ts.map Th.d)=.ok ((ts.map fun t=>B1 0 t||B2 t).map .bl):=by
  refine Ev.gc (g:=fD (b9 T (n+3)) (.nm 0) [] (.or_ (.call 32 [(.v 0),(.c (.int 0))]) (.call 33 [(.v 0)])) [Ξ]) Th.d (fun t=>B1 0 t||B2 t) .bl ts fun t ht=>?_;have e:=rO t;have t1:=uQ (n+1) 0 (hf t ht);have t2:=uR (n+1) t;cases q:B1 0 t with
  |true=>rw[q]at t1;rw[Bool.true_or];simp![e,t1]
  |false=>rw[q]at t1;rw[Bool.false_or];simp![e,t1,t2]
 have lf:=wI (ts.map fun t=>B1 0 t||B2 t);have al:(ts.map fun t=>B1 0 t||B2 t).all id=ts.all fun t=>B1 0 t||B2 t:=by rw[List.all_map];rfl
 have lt:(ts.map Th.d).length=ts.length:=h_ ..;have he:=kW ts;unfold goA szB;rw[<- lt];generalize ts.map (fun t=>B1 0 t||B2 t)=BS,(ts.all fun t=>B1 0 t||B2 t)=bb,ts.map Th.d=X at *;cases d1:decide ((1:Int)<=((X.length:Nat):Int)) with
 |false=>
  rcases h with q|⟨q,q2⟩
  ·rw[g9x 34 d34 2 3 b34 rfl rfl rfl rfl rfl rfl];unfold b34;simp![q,e1,lf,he,d1]
  ·rw[g9x 34 d34 2 3 b34 rfl rfl rfl rfl rfl rfl];unfold b34;simp![q,q2,e1,lf,he,d1]
 |true=>
  cases d2:decide (((X.length:Nat):Int)<=10) with
  |false=>
   rcases h with q|⟨q,q2⟩
   ·rw[g9x 34 d34 2 3 b34 rfl rfl rfl rfl rfl rfl];unfold b34;simp![q,e1,lf,he,d1,d2]
   ·rw[g9x 34 d34 2 3 b34 rfl rfl rfl rfl rfl rfl];unfold b34;simp![q,q2,e1,lf,he,d1,d2]
  |true=>
   rcases h with q|⟨q,q2⟩
   ·rw[g9x 34 d34 2 3 b34 rfl rfl rfl rfl rfl rfl];unfold b34;simp![q,e1,lf,he,d1,d2,Ev.jh,al]
   ·rw[g9x 34 d34 2 3 b34 rfl rfl rfl rfl rfl rfl];unfold b34;simp![q,q2,e1,lf,he,d1,d2,Ev.jh,al]
theorem zG (n:Nat){w:Str}(q1:(w == "is")=Θ) (q2:(w == "not")=Θ) (q3:(w == "begins")=Δ):b9 T (n+4) 34 [.str w,.lst Θ (ts.map Th.d)]=.ok (.bl (goG ts)):=by
 have e1:fm (fD (b9 T (n+3)) (.nm 0) [] (.call 32 [(.v 0),(.c (.int 1))]) [Ξ]) (ts.map Th.d)=.ok ((ts.map fun t=>B1 1 t).map .bl):=by refine Ev.gc (g:=fD (b9 T (n+3)) (.nm 0) [] (.call 32 [(.v 0),(.c (.int 1))]) [Ξ]) Th.d (fun t=>B1 1 t) .bl ts fun t ht=>?_;have e:=rO t;have t1:=uQ (n+1) 1 (hf t ht);simp![e,t1]
 have al:(ts.map fun t=>B1 1 t).all id=ts.all fun t=>B1 1 t:=by rw[List.all_map];rfl
 have lt:(ts.map Th.d).length=ts.length:=h_ ..;unfold goG szB;rw[<- lt];generalize ts.map (fun t=>B1 1 t)=BS,(ts.all fun t=>B1 1 t)=bb,ts.map Th.d=X at *;cases d1:decide ((1:Int)<=((X.length:Nat):Int)) with
 |false=>rw[g9x 34 d34 2 3 b34 rfl rfl rfl rfl rfl rfl];unfold b34;simp![q1,q2,q3,d1]
 |true=>
  cases d2:decide (((X.length:Nat):Int)<=10) with
  |false=>rw[g9x 34 d34 2 3 b34 rfl rfl rfl rfl rfl rfl];unfold b34;simp![q1,q2,q3,d1,d2]
  |true=>rw[g9x 34 d34 2 3 b34 rfl rfl rfl rfl rfl rfl];unfold b34;simp![q1,q2,q3,e1,d1,d2,Ev.jh,al]
theorem yQ (n:Nat){w:Str}(q1:(w == "is")=Θ) (q2:(w == "not")=Θ) (q3:(w == "begins")=Θ) (h:(w == "least")=Δ∨((w == "least")=Θ/\(w == "most")=Δ)):b9 T (n+4) 34 [.str w,.lst Θ (ts.map Th.d)]=.ok (.bl (goL ts)):=by
 have lt:(ts.map Th.d).length=ts.length:=h_ ..;cases d1:((((ts.map Th.d).length:Nat):Int) == 1) with
 |false=>
  have hg:goL ts=Θ:=by
   cases ts with
   |nil=>rfl
   |cons t r=>
    cases r with
    |nil=>cases d1
    |cons _ _=>rfl
  rw[hg];generalize ts.map Th.d=X at *;rcases h with q|⟨q,q4⟩
  ·rw[g9x 34 d34 2 3 b34 rfl rfl rfl rfl rfl rfl];unfold b34;simp![q1,q2,q3,q,d1]
  ·rw[g9x 34 d34 2 3 b34 rfl rfl rfl rfl rfl rfl];unfold b34;simp![q1,q2,q3,q,q4,d1]
 |true=>
  have l1:ts.length=1:=by have:=f_ d1;omega
  obtain⟨t,rfl⟩:=List.length_eq_one_iff.mp l1;have e:=rO t;have t2:=uR (n+1) t;have ix:fO (.lst Θ [t.d]) (.int 0)=.ok t.d:=rfl;show b9 T (n+4) 34 [.str w,.lst Θ [t.d]]=Except.ok (D.bl (B2 t));have d1:((([t.d].length:Nat):Int) == 1)=Δ:=d1;rcases h with q|⟨q,q4⟩
  ·rw[g9x 34 d34 2 3 b34 rfl rfl rfl rfl rfl rfl];unfold b34;simp![q1,q2,q3,q,d1,ix,e,t2];rfl
  ·rw[g9x 34 d34 2 3 b34 rfl rfl rfl rfl rfl rfl];unfold b34;simp![q1,q2,q3,q,q4,d1,ix,e,t2];rfl
omit hf in
theorem zH (n:Nat){w:Str}(q1:(w == "is")=Θ) (q2:(w == "not")=Θ) (q3:(w == "begins")=Θ) (q4:(w == "least")=Θ) (q5:(w == "most")=Θ):b9 T (n+4) 34 [.str w,.lst Θ (ts.map Th.d)]=.ok (.bl ts.isEmpty):=by
 have en:gh (eqN 39) (ts.map Th.d) []=.ok ts.isEmpty:=by cases ts<;>rfl
 generalize ts.map Th.d=X,ts.isEmpty=b at *;rw[g9x 34 d34 2 3 b34 rfl rfl rfl rfl rfl rfl];unfold b34;simp![q1,q2,q3,q4,q5,en]
theorem yR (n:Nat)(w:Str):b9 T (n+4) 34 [.str w,.lst Θ (ts.map Th.d)]=.ok (.bl (goB w ts)):=by
 unfold goB;cases q1:(w == "is") with
 |true=>rw[d_ rfl];exact yO hf hl n (.inl q1)
 |false=>
  rw[c_ i_];cases q2:(w == "not") with
  |true=>rw[d_ rfl];exact yO hf hl n (.inr ⟨q1,q2⟩)
  |false=>
   rw[c_ i_];cases q3:(w == "begins") with
   |true=>rw[d_ rfl];exact zG hf hl n q1 q2 q3
   |false=>
    rw[c_ i_];cases q4:(w == "least") with
    |true=>rw[d_ rfl];exact yQ hf hl n q1 q2 q3 (.inl q4)
    |false=>
     rw[c_ i_];cases q5:(w == "most") with
     |true=>rw[d_ rfl];exact yQ hf hl n q1 q2 q3 (.inr ⟨q4,q5⟩)
     |false=>rw[c_ i_];exact zH hl n q1 q2 q3 q4 q5
end
noncomputable def wsB (w:Str):Bool:=(Ο "is" == w)||((Ο "not" == w)||((Ο "begins" == w)||((Ο "least" == w)||((Ο "most" == w)||((Ο "has" == w)||((Ο "lacks" == w)||((Ο "in" == w)||(Ο "out" == w))))))))
theorem yS {w:Str}(h:wsB w=Δ):w∈ws:=by unfold wsB at h;simp only[zX,beq_iff_eq]at h;unfold ws;simp only[p_,Ao,or_false];rcases h with h|h|h|h|h|h|h|h|h<;>(rw[<- h];simp)
theorem wJ (n:Nat){nm w:Str}{X:List D}(h:wsB w=Θ):b9 T (n+5) 35 [.tup [.str nm,.str w,.lst Θ X],.lst Θ [.str nm]]=.error (.exc "NoWord"):=by have i0:fO (.tup [.str nm,.str w,.lst Θ X]) (.int 0)=.ok (.str nm):=rfl;have i1:fO (.tup [.str nm,.str w,.lst Θ X]) (.int 1)=.ok (.str w):=rfl;unfold wsB at h;rw[g9x 35 d35 2 4 b35 rfl rfl rfl rfl rfl rfl];unfold b35;simp![i0,i1,h]
theorem wK (n:Nat){nm w:Str}{ts:List Th}(hf:∀t∈ts,t.fit)(hl:ts.length<=2000)(h:wsB w=Δ):b9 T (n+5) 35 [.tup [.str nm,.str w,.lst Θ (ts.map Th.d)],.lst Θ [.str nm]]=if goB w ts=Δ then .ok (.bl Δ) else .error (.exc "BadThings"):=by
 have hg:=yR hf hl n w;have he:=kW ts;have i0:fO (.tup [.str nm,.str w,.lst Θ (ts.map Th.d)]) (.int 0)=.ok (.str nm):=rfl;have i1:fO (.tup [.str nm,.str w,.lst Θ (ts.map Th.d)]) (.int 1)=.ok (.str w):=rfl;have i2:fO (.tup [.str nm,.str w,.lst Θ (ts.map Th.d)]) (.int 2)=.ok (.lst Θ (ts.map Th.d)):=rfl;have wl:w.length<=6/\∀c∈w.cps.toList,c < 128:=by
  have:∀w∈ws,w.length<=6/\∀c∈w.cps.toList,c < 128:=by decide +kernel
  exact this w (yS h)
 have hR:=StrLaws.reprText_len w fun c hc=>by have:=wl.2 c hc;omega
 have g34:(Ο "the things don't go with the word ").length<=40:=by decide +kernel
 have g0:(Option.getD (Ξ:Option Str) Str.empty).length=0:=rfl;have f2:qi "the things don't go with the word " Ξ (.str w)=.ok (.str (Ο "the things don't go with the word "++reprText w++Option.getD Ξ Str.empty)):=by rw[Ev.cf,Ev.gN (by omega)];rfl
 generalize Ο "the things don't go with the word "++reprText w++Option.getD Ξ Str.empty=M2 at *;have bn:=beq_self_eq_true nm;obtain⟨k1,ek1⟩:∃k1,(w == Ο "in")=k1:=⟨_,rfl⟩
 obtain⟨k2,ek2⟩:∃k2,(w == Ο "out")=k2:=⟨_,rfl⟩
 unfold wsB at h;generalize ts.map Th.d=X,goB w ts=b at *;cases b with
 |true=>
  rw[d_ rfl];cases k1 with
  |true=>rw[g9x 35 d35 2 4 b35 rfl rfl rfl rfl rfl rfl];unfold b35;simp![i0,i1,i2,h,ek1,ek2,hg,he,bn]
  |false=>
   cases k2 with
   |true=>rw[g9x 35 d35 2 4 b35 rfl rfl rfl rfl rfl rfl];unfold b35;simp![i0,i1,i2,h,ek1,ek2,hg,he,bn]
   |false=>rw[g9x 35 d35 2 4 b35 rfl rfl rfl rfl rfl rfl];unfold b35;simp![i0,i1,i2,h,ek1,ek2,hg,he,bn]
 |false=>
  rw[c_ i_];cases k1 with
  |true=>rw[g9x 35 d35 2 4 b35 rfl rfl rfl rfl rfl rfl];unfold b35;simp![i0,i1,i2,h,ek1,ek2,hg,he,bn,f2]
  |false=>
   cases k2 with
   |true=>rw[g9x 35 d35 2 4 b35 rfl rfl rfl rfl rfl rfl];unfold b35;simp![i0,i1,i2,h,ek1,ek2,hg,he,bn,f2]
   |false=>rw[g9x 35 d35 2 4 b35 rfl rfl rfl rfl rfl rfl];unfold b35;simp![i0,i1,i2,h,ek1,ek2,hg,he,bn,f2]
noncomputable def FG:Str:="0123456789"
theorem tZ:FG.cps.toList=List.range' 48 10:=by decide +kernel
noncomputable def fig:List Nat->List Nat
 |[]=>[]
 |c::r=>if c=45 then r else c::r
theorem ke (c:Nat)(r:List Nat):fig (c::r)=if c=45 then r else c::r:=rfl
noncomputable def kf:List Nat->Bool
 |[]=>Θ
 |c::_=>c == 48
noncomputable def wri (p:List Nat):Bool:=(fU 1 9 (fig p)&&al FG (fig p))&&(decide (p=[48])||!kf (fig p))
theorem lZ (p q:List Nat):(sal p == sal q)=decide (p=q):=by
 by_cases h:p=q
 ·subst h;rw[l_ rfl];exact beq_self_eq_true _
 ·rw[w_ h];exact beq_false_of_ne fun z=>h (oJ z)
theorem s0:Ο "0" = sal [48]:=by decide +kernel
theorem sm:Ο "-" = sal [45]:=by decide +kernel
theorem sp:Ο "." = sal [46]:=by decide +kernel
theorem eq0 (p:List Nat):(sal p == Ο "0")=decide (p=[48]):=by rw[s0,lZ]
theorem nN (d:Nat):Txt.startswith (sal []) (sal [d])=Θ:=by unfold Txt.startswith;rw[StrLaws.subAt_eq,gp,gp,eV,eV];simp
theorem zJ (c:Nat)(r:List Nat):Txt.startswith (sal (c::r)) (Ο "-")=(c == 45):=by rw[sm];exact lY c 45 r
theorem zK (c:Nat)(r:List Nat):Txt.startswith (sal (c::r)) (Ο ".")=(c == 46):=by rw[sp];exact lY c 46 r
theorem zM (p:List Nat):Txt.startswith (sal p) (Ο "0")=kf p:=by
 rw[s0];cases p with
 |nil=>exact nN 48
 |cons c r=>exact lY c 48 r
theorem oN (c:Nat)(r:List Nat):Txt.slice (sal (c::r)) (Γ 1) Ξ=sal r:=by rw[iJ (by omega) (by rw[List.length_cons];omega)];rfl
theorem wL (n:Nat)(p:List Nat)(hp:p.length<=2000):b9 T (n+2) 36 [.str (sal p)]=.ok (.bl (wri p)):=by
 have e0:=eq0 p;have hfl:(fig p).length<=2000:=by
  cases p with
  |nil=>exact hp
  |cons c r=>
   rw[ke];rw[List.length_cons]at hp;split
   ·omega
   ·exact hp
 have t:=tx n 1 9 FG (fig p) hfl;have z:=zM (fig p);unfold FG at t;have key:∀(d:D),(d=.str (sal (fig p)))->True:=fun _ _=>trivial;unfold wri;have sl:=eV p;have s8:(sal p).length<=16777216:=by omega
 have fin:∀(b:Bool),Txt.startswith (sal p) (Ο "-")=b->(b=Δ->Txt.slice (sal p) (Γ 1) Ξ=sal (fig p))->(b=Θ->sal (fig p)=sal p)->
   b9 T (n+2) 36 [.str (sal p)]=.ok (.bl ((fU 1 9 (fig p)&&al FG (fig p))&&(decide (p=[48])||!kf (fig p)))):=by
  intro b hb h1 h2;unfold FG at *;generalize hA:(fU 1 9 (fig p)&&al _ (fig p))=A at *;generalize hC:decide (p=[48])=C at *;generalize hL:kf (fig p)=L at *;cases b with
  |true=>
   have h1:=h1 rfl;generalize sal (fig p)=F at *;cases A with
   |false=>rw[g9x 36 d36 1 2 b36 rfl rfl rfl rfl rfl rfl];unfold b36;simp![hb,h1,t]
   |true=>
    cases C with
    |true=>rw[g9x 36 d36 1 2 b36 rfl rfl rfl rfl rfl rfl];unfold b36;simp![hb,h1,t,e0]
    |false=>rw[g9x 36 d36 1 2 b36 rfl rfl rfl rfl rfl rfl];unfold b36;simp![hb,h1,t,e0,z]
  |false=>
   have h2:=h2 rfl;rw[h2]at t z;cases A with
   |false=>rw[g9x 36 d36 1 2 b36 rfl rfl rfl rfl rfl rfl];unfold b36;simp![hb,t]
   |true=>
    cases C with
    |true=>rw[g9x 36 d36 1 2 b36 rfl rfl rfl rfl rfl rfl];unfold b36;simp![hb,t,e0]
    |false=>rw[g9x 36 d36 1 2 b36 rfl rfl rfl rfl rfl rfl];unfold b36;simp![hb,t,e0,z]
 cases p with
 |nil=>exact fin Θ (by rw[sm];exact nN 45) (fun z=>by cases z) fun _=>rfl
 |cons c r=>
  refine fin (c == 45) (zJ c r) (fun h=>?_) fun h=>?_
  ·have:c=45:=f_ h;rw[oN];rw[ke,d_ this]
  ·have:¬c=45:=fun q=>by rw[q]at h;cases h
   rw[ke,c_ this]
noncomputable def val:List Nat->Int
 |[]=>0
 |c::r=>if c=45 then -((NumText.digitsVal r:Nat):Int) else((NumText.digitsVal (c::r):Nat):Int)
theorem uS (c:Nat)(r:List Nat):val (c::r)=if c=45 then -((NumText.digitsVal r:Nat):Int) else((NumText.digitsVal (c::r):Nat):Int):=rfl
theorem wM {f:List Nat}(h:al FG f=Δ):∀c∈f,48<=c/\c<=57:=by unfold al at h;rw[zY]at h;intro c hc;have:=m_ (h c hc);rw[tZ,List.mem_range']at this;obtain⟨i,h1,h2⟩:=this;omega
theorem yT:∀(f:List Nat),(∀c∈f,48<=c/\c<=57)->NumText.digitsVal f < 10 ^ f.length:=by
 have key:∀(f:List Nat) (a:Nat),(∀c∈f,48<=c/\c<=57)->f.foldl (fun acc c=>acc*10+(c - 48)) a < (a+1)*10 ^ f.length:=by
  intro f
  induction f with
  |nil=>intro a _;simp
  |cons c f ih=>
   intro a h;have hc:=h c (by simp);have:=ih (a*10+(c - 48)) fun d hd=>h d (s_ _ hd);rw[List.foldl_cons,List.length_cons,Nat.pow_succ];refine zV this ?_;have h1:a*10+(c - 48)+1<=(a+1)*10:=by omega
   calc (a*10+(c - 48)+1)*10 ^ f.length<=((a+1)*10)*10 ^ f.length:=Nat.mul_le_mul_right _ h1
    _=(a+1)*(10 ^ f.length*10):=by rw[Nat.mul_assoc,Nat.mul_comm 10]
 intro f h;have:=key f 0 h;rw[Nat.zero_add,Nat.one_mul]at this;exact this
theorem oO {p:List Nat}(h:wri p=Δ):PySem.intText? (sal p)=Γ (val p)/\-999999999<=val p/\val p<=999999999/\p.length<=10:=by
 unfold wri fU at h;simp only[e_,decide_eq_true_eq]at h;obtain⟨⟨⟨l1,l9⟩,ha⟩,_⟩:=h;have hd:=wM ha;have hv:=yT (fig p) hd;have hp:(10:Nat) ^ (fig p).length<=10 ^ 9:=Nat.pow_le_pow_right (by decide) (by omega);cases p with
 |nil=>exact absurd l1 (by unfold fig;simp)
 |cons c r=>
  by_cases hc:c=45
  ·have e:fig (c::r)=r:=by rw[ke,d_ hc]
   rw[e]at l1 l9 hd hv hp;have ev:val (c::r) = -((NumText.digitsVal r:Nat):Int):=by rw[uS,d_ hc]
   rw[ev,List.length_cons];refine⟨?_,by omega,by omega,by omega⟩;exact intText_neg (cs:=r) (by rw[gp,hc]) hd (fun z=>by rw[z]at l1;simp at l1) (by rw[eV,List.length_cons];omega)
  ·have e:fig (c::r)=c::r:=by rw[ke,c_ hc]
   rw[e]at l1 l9 hd hv hp;have ev:val (c::r)=((NumText.digitsVal (c::r):Nat):Int):=by rw[uS,c_ hc]
   rw[ev];refine⟨?_,by omega,by omega,by omega⟩;have:=intText_digits (x:=sal (c::r)) (by rw[gp];exact hd) (by rw[gp];simp) (by rw[eV];omega);rw[gp]at this;exact this
noncomputable def rdP:List Nat->Option Th
 |[]=>Ξ
 |c::r=>if c=46 then Γ (.txt r) else if wri (c::r)=Δ then Γ (.num (val (c::r))) else Ξ
theorem oP (c:Nat)(r:List Nat):rdP (c::r)=if c=46 then Γ (.txt r) else if wri (c::r)=Δ then Γ (.num (val (c::r))) else Ξ:=rfl
theorem rP {p:List Nat}(h:wri p=Δ):gx .int [.str (sal p)]=.ok (.int (val p)):=by obtain⟨h1,_,_,h4⟩:=oO h;rw[Ev.au,h1];show grd (decide ((sal p).length<=640)) _=_;rw[l_ (by rw[eV];omega)];rfl
theorem t4:wri []=Θ:=rfl
theorem wN (n:Nat)(p:List Nat)(hp:p.length<=2000):b9 T (n+3) 37 [.str (sal p)]=match rdP p with|some t=>.ok t.d|none=>.error (.exc "NoLine"):=by
 have w:=wL n p hp;have sl:=eV p;have s8:(sal p).length<=16777216:=by omega
 cases p with
 |nil=>
  rw[t4]at w;have hs:Txt.startswith (sal []) (Ο ".")=Θ:=by rw[sp];exact nN 46
  show b9 T (n+3) 37 [.str (sal [])]=.error (.exc "NoLine");generalize sal []=x at *;rw[g9x 37 d37 1 1 b37 rfl rfl rfl rfl rfl rfl];unfold b37;simp![hs,w]
 |cons c r=>
  have hs:=zK c r;have tl:=oN c r;rw[oP];by_cases hc:c=46
  ·rw[d_ hc];have hs:Txt.startswith (sal (c::r)) (Ο ".")=Δ:=by rw[hs,hc];rfl
   show b9 T (n+3) 37 [.str (sal (c::r))]=.ok (.str (sal r));generalize sal (c::r)=x at *;rw[g9x 37 d37 1 1 b37 rfl rfl rfl rfl rfl rfl];unfold b37;simp![hs,tl]
  ·rw[c_ hc];have hs:Txt.startswith (sal (c::r)) (Ο ".")=Θ:=by rw[hs];exact beq_false_of_ne hc
   cases hw:wri (c::r) with
   |true=>rw[d_ rfl];have hi:=rP hw;rw[hw]at w;show b9 T (n+3) 37 [.str (sal (c::r))]=.ok (.int (val (c::r)));generalize sal (c::r)=x,val (c::r)=v at *;rw[g9x 37 d37 1 1 b37 rfl rfl rfl rfl rfl rfl];unfold b37;simp![hs,w,hi]
   |false=>rw[c_ i_];rw[hw]at w;show b9 T (n+3) 37 [.str (sal (c::r))]=.error (.exc "NoLine");generalize sal (c::r)=x at *;rw[g9x 37 d37 1 1 b37 rfl rfl rfl rfl rfl rfl];unfold b37;simp![hs,w]
theorem yU {α:Type}(a b:α)(r:List α):fR (a::b::r) (Γ 2) Ξ=r:=by unfold fR HT.sIx;simp
theorem pL (p q:List Nat)(r:List (List Nat)):jn (p::q::r)=p++32::jn (q::r):=rfl
theorem parts:∀cs:List Nat,∃ps:List (List Nat),ps≠[]/\(∀p∈ps,32∉p)/\cs=jn ps
 |[]=>⟨[[]],by simp,by simp,rfl⟩
 |c::r=>by
  obtain⟨ps,h0,h1,h2⟩:=parts r;cases ps with
  |nil=>exact absurd rfl h0
  |cons p ps=>
   by_cases hc:c=32
   ·refine⟨[]::p::ps,by simp,fun q hq=>?_,by rw[pL,<- h2,hc];rfl⟩;rcases p_.mp hq with rfl|hq
    ·simp
    ·exact h1 q hq
   ·refine⟨(c::p)::ps,by simp,fun q hq=>?_,?_⟩
    ·rcases p_.mp hq with rfl|hq
     ·intro z;rcases p_.mp z with z|z
      ·exact hc z.symm
      ·exact h1 p (by simp) z
     ·exact h1 q (s_ _ hq)
    ·cases ps with
     |nil=>rw[h2];rfl
     |cons q ps=>rw[pL,h2,pL];rfl
theorem rQ:∀ps:List (List Nat),ps.length<=(jn ps).length+1/\∀p∈ps,p.length<=(jn ps).length
 |[]=>⟨by simp,by simp⟩
 |[p]=>⟨by simp,fun q hq=>by rw[Ag.mp hq];exact k_ _⟩
 |p::q::r=>by
  obtain⟨h1,h2⟩:=rQ (q::r);rw[pL];have e:(p++32::jn (q::r)).length=p.length+((jn (q::r)).length+1):=by rw[zW,List.length_cons]
  rw[e];refine⟨by rw[List.length_cons];omega,fun s hs=>?_⟩;rcases p_.mp hs with rfl|hs
  ·omega
  ·have:=h2 s hs;omega
noncomputable def gV:List (List Nat)->Option (List Th)
 |[]=>Γ []
 |p::r=>match rdP p,gV r with
  |some t,Γ ts=>Γ (t::ts)
  |_,_=>Ξ
theorem mR {g:D->Res (Option D)}:∀ps:List (List Nat),(∀p∈ps,g (.str (sal p))=match rdP p with|some t=>.ok (Γ t.d)|none=>.error (.exc "NoLine"))->
  fm g ((ps.map sal).map .str)=match gV ps with|some ts=>.ok (ts.map Th.d)|none=>.error (.exc "NoLine")
 |[],_=>rfl
 |p::r,h=>by
  have ih:=mR r fun q hq=>h q (s_ _ hq);have hp:=h p (by simp);show bnd (g (.str (sal p))) _=_;rw[hp];cases e:rdP p with
  |none=>
   show(.error (.exc "NoLine"):Res (List D))=match(match rdP p,gV r with|some t,Γ ts=>Γ (t::ts)|_,_=>Ξ:Option (List Th)) with|some ts=>.ok (ts.map Th.d)|none=>.error (.exc "NoLine")
   rw[e]
  |some t=>
   show bnd (fm g ((r.map sal).map .str)) _=match(match rdP p,gV r with|some t,Γ ts=>Γ (t::ts)|_,_=>Ξ:Option (List Th)) with|some ts=>.ok (ts.map Th.d)|none=>.error (.exc "NoLine")
   rw[ih,e];cases gV r<;>rfl
theorem mS:∀ {ps:List (List Nat)}{ts:List Th},gV ps=Γ ts->ts.length=ps.length/\∀t∈ts,∃p∈ps,rdP p=Γ t
 |[],ts,h=>by cases h;exact⟨rfl,by simp⟩
 |p::r,ts,h=>by
  have h':(match rdP p,gV r with|some t,Γ ts=>Γ (t::ts)|_,_=>Ξ:Option (List Th))=Γ ts:=h;cases e1:rdP p with
  |none=>rw[e1]at h';cases h'
  |some t=>
   cases e2:gV r with
   |none=>rw[e1,e2]at h';cases h'
   |some us=>
    rw[e1,e2]at h';cases h';obtain⟨l,a⟩:=mS e2;refine⟨by rw[List.length_cons,List.length_cons,l],fun t' ht=>?_⟩;rcases p_.mp ht with rfl|ht
    ·exact⟨p,by simp,e1⟩
    ·obtain⟨q,hq,e⟩:=a t' ht;exact⟨q,s_ _ hq,e⟩
theorem t5 {p:List Nat}{t:Th}(h:rdP p=Γ t)(hp:p.length<=2000):t.fit:=by
 cases p with
 |nil=>cases h
 |cons c r=>
  rw[oP]at h;split at h
  ·cases h;rw[List.length_cons]at hp;exact(by show r.length<=2000;omega)
  ·split at h
   ·cases h;trivial
   ·cases h
noncomputable def LE:Str:="abcdefghijklmnopqrstuvwxyz"
noncomputable def rcd:List (List Nat)->Option (List Nat×List Nat×List Th)
 |a::b::r=>if(fU 1 8 a&&al LE a)=Δ then(match gV r with|some ts=>if(wsB (sal b)&&goB (sal b) ts)=Δ then Γ (a,b,ts) else Ξ|none=>Ξ) else Ξ
 |_=>Ξ
noncomputable def wO (x:List Nat×List Nat×List Th)(o:Bool):D:=.tup [.str (sal x.1),.str (sal x.2.1),.lst o (x.2.2.map Th.d)]
theorem t6 (n:Nat){ps:List (List Nat)}(h0:ps≠[])(h:∀p∈ps,32∉p)(hl:(jn ps).length<=1900):b9 T (n+6) 38 [.str (sal (jn ps))]=match rcd ps with|some x=>.ok (wO x Δ)|none=>.error (.exc "NoLine"):=by
 have sp:=j9 h0 h;obtain⟨jl,jp⟩:=rQ ps;have sl:=eV (jn ps);have hs:Ε=16777216:=sizeLine_eq;have d1:decide ((Ο " ").length≠0/\(sal (jn ps)).length+2<=Ε)=Δ:=l_ ⟨by decide +kernel,by omega⟩;generalize sal (jn ps)=LN at *;have nl:e9 (.mth .split (.v 0) [.c (.str " ")])=Θ:=rfl
 match ps,h0 with
 |[a],_=>
  show b9 T (n+6) 38 [.str LN]=.error (.exc "NoLine");have sp:(Txt.split LN (Ο " ")).map D.str=[.str (sal a)]:=by rw[sp];rfl
  have dl:decide (((1:Nat):Int) < 2)=Δ:=by decide
  rw[g9x 38 d38 1 4 b38 rfl rfl rfl rfl rfl rfl];unfold b38;simp![nl,d1,sp,dl]
 |a::b::r,_=>
  have sp:(Txt.split LN (Ο " ")).map D.str=.str (sal a)::.str (sal b)::(r.map sal).map .str:=by rw[sp];rfl
  have la:=jp a (by simp);have lr:((r.map sal).map D.str).length<=1901:=by rw[h_,h_];rw[List.length_cons,List.length_cons]at jl;omega
  have dl:decide (((((r.map sal).map D.str).length+1+1:Nat):Int) < 2)=Θ:=w_ (by omega);have e1:fm (fD (b9 T (n+5)) (.nm 0) [] (.call 37 [(.v 0)]) [Ξ]) ((r.map sal).map .str)=match gV r with|some ts=>.ok (ts.map Th.d)|none=>.error (.exc "NoLine"):=by
   refine mR r fun p hp=>?_;have e:=wN (n+2) p (by have:=jp p (s_ _ (s_ _ hp));omega);generalize sal p=x at *;cases q:rdP p with
   |none=>rw[q]at e;have e:b9 T (n+5) 37 [.str x]=.error (.exc "NoLine"):=e;simp![e]
   |some t=>rw[q]at e;have e:b9 T (n+5) 37 [.str x]=.ok t.d:=e;simp![e]
  have lf':eS ((r.map sal).map D.str)=Δ:=Ev.fQ _;have er2:ers ((r.map sal).map D.str)=(r.map sal).map D.str:=fY lf';have tx1:=tx (n+4) 1 8 LE a (by omega);have hfit:∀ts,gV r=Γ ts->(∀t∈ts,t.fit)/\ts.length<=2000:=fun ts e=>by obtain⟨l,al⟩:=mS e;refine⟨fun t ht=>?_,by rw[h_,h_]at lr;omega⟩;obtain⟨p,hp,e⟩:=al t ht;exact t5 e (by have:=jp p (s_ _ (s_ _ hp));omega)
  have i0:fO (.lst Θ (.str (sal a)::.str (sal b)::(r.map sal).map D.str)) (.int 0)=.ok (.str (sal a)):=by rw[Ev.x_l,Ev.hU (.non) (by omega) (by rw[List.length_cons];omega)];rfl
  have i1:fO (.lst Θ (.str (sal a)::.str (sal b)::(r.map sal).map D.str)) (.int 1)=.ok (.str (sal b)):=by rw[Ev.x_l,Ev.hU (.non) (by omega) (by rw[List.length_cons,List.length_cons];omega)];rfl
  have c2:=yU (D.str (sal a)) (D.str (sal b)) ((r.map sal).map D.str);have hr:rcd (a::b::r)=if(fU 1 8 a&&al LE a)=Δ then(match gV r with|some ts=>if(wsB (sal b)&&goB (sal b) ts)=Δ then Γ (a,b,ts) else Ξ|none=>Ξ) else Ξ:=rfl
  rw[hr];unfold LE at tx1 ⊢;generalize hY:(r.map sal).map D.str=Y at *;cases hA:(fU 1 8 a&&al (Ο "abcdefghijklmnopqrstuvwxyz") a) with
  |false=>rw[hA]at tx1;rw[c_ i_];show b9 T (n+6) 38 [.str LN]=.error (.exc "NoLine");rw[g9x 38 d38 1 4 b38 rfl rfl rfl rfl rfl rfl];unfold b38;simp![nl,er2,d1,sp,i0,i1,dl,tx1]
  |true=>
   rw[hA]at tx1;rw[d_ rfl];cases hq:gV r with
   |none=>rw[hq]at e1;have e1:fm (fD (b9 T (n+5)) (.nm 0) [] (.call 37 [(.v 0)]) [Ξ]) Y=.error (.exc "NoLine"):=e1;show b9 T (n+6) 38 [.str LN]=.error (.exc "NoLine");rw[g9x 38 d38 1 4 b38 rfl rfl rfl rfl rfl rfl];unfold b38;simp![nl,er2,d1,sp,i0,i1,c2,dl,tx1,e1,lf']
   |some ts=>
    rw[hq]at e1;have e1:fm (fD (b9 T (n+5)) (.nm 0) [] (.call 37 [(.v 0)]) [Ξ]) Y=.ok (ts.map Th.d):=e1;obtain⟨hf,hl2⟩:=hfit ts hq;have lf:=i5 ts;have er':=kW ts;cases hw:wsB (sal b) with
    |false=>have ck:=wJ n (nm:=sal a) (X:=ts.map Th.d) hw;show b9 T (n+6) 38 [.str LN]=.error (.exc "NoLine");generalize ts.map Th.d=X at *;rw[g9x 38 d38 1 4 b38 rfl rfl rfl rfl rfl rfl];unfold b38;simp![nl,er2,d1,sp,i0,i1,c2,dl,tx1,e1,lf',ck,lf,er'];rfl
    |true=>
     have ck:=wK n (nm:=sal a) hf hl2 hw;show b9 T (n+6) 38 [.str LN]=match(if(Δ&&goB (sal b) ts)=Δ then Γ (a,b,ts) else Ξ:Option (List Nat×List Nat×List Th)) with|some x=>.ok (wO x Δ)|none=>.error (.exc "NoLine")
     cases hg:goB (sal b) ts with
     |false=>rw[hg,c_ i_]at ck;show b9 T (n+6) 38 [.str LN]=.error (.exc "NoLine");generalize ts.map Th.d=X at *;rw[g9x 38 d38 1 4 b38 rfl rfl rfl rfl rfl rfl];unfold b38;simp![nl,er2,d1,sp,i0,i1,c2,dl,tx1,e1,lf',ck,lf,er'];rfl
     |true=>rw[hg,d_ rfl]at ck;show b9 T (n+6) 38 [.str LN]=.ok (.tup [.str (sal a),.str (sal b),.lst Δ (ts.map Th.d)]);generalize ts.map Th.d=X at *;rw[g9x 38 d38 1 4 b38 rfl rfl rfl rfl rfl rfl];unfold b38;simp![nl,er2,d1,sp,i0,i1,c2,dl,tx1,e1,lf',ck,lf,er']
theorem f7 {α:Type}{g:D->Res (Option D)}(emb:α->D)(p:α->Bool):∀xs:List α,(∀x∈xs,g (emb x)=.ok (if p x=Δ then Γ (emb x) else Ξ))->fm g (xs.map emb)=.ok ((xs.filter p).map emb)
 |[],_=>rfl
 |x::xs,h=>by
  have ih:=f7 emb p xs fun y hy=>h y (s_ _ hy);show bnd (g (emb x)) _=_;rw[h x (by simp),List.filter_cons];cases p x with
  |true=>show bnd (fm g (xs.map emb)) _=_;rw[ih];rfl
  |false=>exact ih
theorem iw {f:D->D->Res Bool}(ds:List D):gh f ds []=.ok ds.isEmpty:=by cases ds<;>rfl
theorem nO {α:Type}(emb:α->D)(p:α->Bool)(xs:List α):((xs.filter fun x=>!p x).map emb).isEmpty=xs.all p:=by
 induction xs with
 |nil=>rfl
 |cons x xs ih=>
  rw[List.filter_cons,List.all_cons];cases h:p x with
  |true=>simpa[h] using ih
  |false=>simp
noncomputable def bad (sg:Str)(cs:List Nat):List D:=(cs.filter fun c=>!decide (c∈sg.cps.toList)).map fun c=>D.str (one c)
theorem rR (sg:Str)(cs:List Nat):(bad sg cs).isEmpty=al sg cs:=nO _ _ cs
theorem zN (n:Nat)(sg:Str)(cs:List Nat):fm (fD (b9 T n) (.nm 1) [(.cmp .nin (.v 1) (.v 0))] (.v 1) [Γ (.str sg),Ξ]) (cs.map fun c=>D.str (one c))=.ok (bad sg cs):=by
 refine f7 (fun c=>D.str (one c)) (fun c=>!decide (c∈sg.cps.toList)) cs fun c hc=>?_;have h:=nM sg c;cases q:decide (c∈sg.cps.toList) with
 |true=>rw[q]at h;simp![h]
 |false=>rw[q]at h;simp![h]
theorem yV (n:Nat)(sg:Str)(cs:List Nat):fm (fD (b9 T n) (.nm 0) [(.cmp .nin (.v 0) (.c (.str sg)))] (.v 0) [Ξ]) (cs.map fun c=>D.str (one c))=.ok (bad sg cs):=by
 refine f7 (fun c=>D.str (one c)) (fun c=>!decide (c∈sg.cps.toList)) cs fun c hc=>?_;have h:=nM sg c;cases q:decide (c∈sg.cps.toList) with
 |true=>rw[q]at h;simp![h]
 |false=>rw[q]at h;simp![h]
noncomputable def t9 (r:List Nat):Bool:=decide ((9:Int) < ((r.length+1:Nat):Int))
noncomputable def rdL:List Nat->Option Th
 |[]=>Ξ
 |c::r=>if c=46 then(if(!t9 r&&al SG r)=Δ then Γ (.txt r) else Ξ) else if wri (c::r)=Δ then Γ (.num (val (c::r))) else Ξ
theorem oQ (c:Nat)(r:List Nat):rdL (c::r)=if c=46 then(if(!t9 r&&al SG r)=Δ then Γ (.txt r) else Ξ) else if wri (c::r)=Δ then Γ (.num (val (c::r))) else Ξ:=rfl
noncomputable def oD:Option Th->D
 |some t=>t.d
 |none=>.non
theorem uT (c:Nat)(r:List Nat):Txt.slice (sal (c::r)) Ξ (Γ 1)=sal [c]:=by rw[gU (by omega) (by rw[List.length_cons];omega)];rfl
theorem eqd (c d:Nat):(sal [c] == sal [d])=(c == d):=by
 rw[lZ];by_cases h:c=d
 ·subst h;simp
 ·rw[w_ (by simpa using h)];exact(beq_false_of_ne h).symm
theorem eqp (c:Nat):(sal [c] == Ο ".")=(c == 46):=by rw[sp,eqd]
theorem eqm (c:Nat):(sal [c] == Ο "-")=(c == 45):=by rw[sm,eqd]
theorem eqz (c:Nat):(one c == Ο "0")=(c == 48):=by rw[tS,s0,eqd]
theorem ji (cs:List Nat):(cs.map fun c=>D.str (one c)).length=cs.length:=h_ ..
theorem t7 (n:Nat)(r:List Nat)(hr:r.length<=2000):b9 T (n+1) 47 [.str (sal (46::r))]=.ok (oD (rdL (46::r))):=by
 have h1:=uT 46 r;have q1:(sal [46] == Ο ".")=Δ:=eqp 46;have tl:=oN 46 r;have s1:(sal (46::r)).length=r.length+1:=by rw[eV,List.length_cons]
 have s8:(sal (46::r)).length<=16777216:=by omega
 have s8':(sal r).length<=16777216:=by rw[eV];omega
 have b1:=zN n SG r;have be:=rR SG r;have ce:=iv r;have lc:=ji r;have en:=iw (f:=eqN 39) (bad SG r);rw[be]at en;rw[oQ,d_ rfl];have ht:decide ((9:Int) < (((sal (46::r)).length:Nat):Int))=t9 r:=by rw[s1];rfl
 generalize bad SG r=BX at *;unfold SG at b1;generalize(r.map fun c=>D.str (one c))=CX at *;generalize hA:al SG r=A,sal (46::r)=x at *;cases hT:t9 r with
 |true=>rw[hT]at ht;show _=Except.ok D.non;rw[g9x 47 d47 1 3 b47 rfl rfl rfl rfl rfl rfl];unfold b47;simp![h1,q1,ht]
 |false=>
  rw[hT]at ht;cases A with
  |false=>show _=Except.ok D.non;rw[g9x 47 d47 1 3 b47 rfl rfl rfl rfl rfl rfl];unfold b47;simp![h1,q1,ht,tl,ce,b1,lc,en]
  |true=>show _=Except.ok (D.str (sal r));rw[g9x 47 d47 1 3 b47 rfl rfl rfl rfl rfl rfl];unfold b47;simp![h1,q1,ht,tl,ce,b1,lc,en]
theorem slF (p:List Nat)(b:Bool)(h:b=Δ->∃r,p=45::r)(h':b=Θ->fig p=p):Txt.slice (sal p) (Γ (if b=Δ then 1 else 0)) Ξ=sal (fig p):=by
 cases b with
 |true=>obtain⟨r,rfl⟩:=h rfl;rw[d_ rfl,oN];rfl
 |false=>rw[c_ i_,iJ (by omega) (by omega),h' rfl];rfl
theorem oR (n:Nat)(p:List Nat)(hp:p.length<=2000){h:Str}{b:Bool}(hh:Txt.slice (sal p) Ξ (Γ 1)=h)(q1:(h == Ο ".")=Θ) (q2:(h == Ο "-")=b) (hb:b=Δ->∃r,p=45::r) (hb':b=Θ->fig p=p) :
  b9 T (n+1) 47 [.str (sal p)]=.ok (if wri p=Δ then .int (val p) else .non):=by
 have sF:=slF p b hb hb';have sl:=eV p;have s8:(sal p).length<=16777216:=by omega
 have hfl:(fig p).length<=p.length:=by
  cases p with
  |nil=>exact k_ _
  |cons c r=>
   rw[ke];split
   ·rw[List.length_cons];omega
   ·exact k_ _
 have sf:=eV (fig p);have s8':(sal (fig p)).length<=16777216:=by omega
 have b1:=yV n FG (fig p);have be:=rR FG (fig p);have ce:=iv (fig p);have lc:=ji (fig p);have en:=iw (f:=eqN 39) (bad FG (fig p));rw[be]at en;have e0:=eq0 p;have ii:wri p=Δ->gx .int [.str (sal p)]=.ok (.int (val p)):=rP;have hw:wri p=((fU 1 9 (fig p)&&al FG (fig p))&&(decide (p=[48])||!kf (fig p))):=rfl;have d1:decide ((((sal (fig p)).length:Nat):Int) < 1) = !decide ((1:Int)<=(((fig p).length:Nat):Int)):=by
  rw[sf];by_cases z:(1:Int)<=(((fig p).length:Nat):Int)
  ·rw[l_ z,w_ (by omega)];rfl
  ·rw[w_ z,l_ (by omega)];rfl
 have d9:decide ((9:Int) < (((sal (fig p)).length:Nat):Int)) = !decide ((((fig p).length:Nat):Int)<=9):=by
  rw[sf];by_cases z:(((fig p).length:Nat):Int)<=9
  ·rw[l_ z,w_ (by omega)];rfl
  ·rw[w_ z,l_ (by omega)];rfl
 have ix:decide ((1:Int)<=(((fig p).length:Nat):Int))=Δ->∃y:Str,fO (.str (sal (fig p))) (.int 0)=.ok (.str y)/\(y == Ο "0")=kf (fig p):=fun z=>by
  have z:=m_ z;cases hf:fig p with
  |nil=>rw[hf]at z;exact absurd z (by simp)
  |cons c r=>refine⟨one c,?_,eqz c⟩;rw[Ev.x_c (by omega) (by rw[eV,List.length_cons];omega) (by rw[hf]at s8';exact s8'),gp];rfl
 have bi:gx .int [.bl b]=.ok (.int (if b=Δ then 1 else 0)):=rfl;unfold fU at hw;generalize bad FG (fig p)=BX at *;unfold FG at b1;generalize((fig p).map fun c=>D.str (one c))=CX,al FG (fig p)=A,decide ((1:Int)<=(((fig p).length:Nat):Int))=L1,decide ((((fig p).length:Nat):Int)<=9)=L9,decide (p=[48])=C0,kf (fig p)=L0,(if b=Δ then(1:Int) else 0)=ib,wri p=W at *;subst hw;cases L1 with
 |false=>show _=Except.ok D.non;rw[g9x 47 d47 1 3 b47 rfl rfl rfl rfl rfl rfl];unfold b47;simp![hh,q1,q2,bi,sF,d1]
 |true=>
  obtain⟨y,iy,hy⟩:=ix rfl;cases L9 with
  |false=>show _=Except.ok D.non;rw[g9x 47 d47 1 3 b47 rfl rfl rfl rfl rfl rfl];unfold b47;simp![hh,q1,q2,bi,sF,d1,d9]
  |true=>
   cases A with
   |false=>show _=Except.ok D.non;rw[g9x 47 d47 1 3 b47 rfl rfl rfl rfl rfl rfl];unfold b47;simp![hh,q1,q2,bi,sF,d1,d9,ce,b1,lc,en]
   |true=>
    cases L0 with
    |false=>rw[Bool.not_false,Bool.or_true]at ii ⊢;have ii:=ii rfl;show _=Except.ok (D.int (val p));rw[g9x 47 d47 1 3 b47 rfl rfl rfl rfl rfl rfl];unfold b47;simp![hh,q1,q2,bi,sF,d1,d9,ce,b1,lc,en,iy,hy,ii]
    |true=>
     cases C0 with
     |true=>have ii:=ii rfl;show _=Except.ok (D.int (val p));rw[g9x 47 d47 1 3 b47 rfl rfl rfl rfl rfl rfl];unfold b47;simp![hh,q1,q2,bi,sF,d1,d9,ce,b1,lc,en,iy,hy,e0,ii]
     |false=>show _=Except.ok D.non;rw[g9x 47 d47 1 3 b47 rfl rfl rfl rfl rfl rfl];unfold b47;simp![hh,q1,q2,bi,sF,d1,d9,ce,b1,lc,en,iy,hy,e0]
theorem wQ (n:Nat)(p:List Nat)(hp:p.length<=2000):b9 T (n+1) 47 [.str (sal p)]=.ok (oD (rdL p)):=by
 cases p with
 |nil=>
  have h1:Txt.slice (sal []) Ξ (Γ 1)=sal []:=by decide +kernel
  exact oR n [] hp (b:=Θ) h1 (by decide +kernel) (by decide +kernel) (fun z=>by cases z) fun _=>rfl
 |cons c r=>
  by_cases hc:c=46
  ·subst hc;exact t7 n r (by rw[List.length_cons]at hp;omega)
  ·have h:=oR n (c::r) hp (b:=c == 45) (uT c r) (by rw[eqp];exact beq_false_of_ne hc) (eqm c) (fun z=>⟨r,by rw[f_ z]⟩) (fun z=>by rw[ke,c_ fun q=>by rw[q]at z;cases z]);rw[h,oQ,c_ hc];cases wri (c::r)<;>rfl
noncomputable def iL:List (List Nat)->Option (List Th)
 |[]=>Γ []
 |p::r=>match rdL p,iL r with
  |some t,Γ ts=>Γ (t::ts)
  |_,_=>Ξ
theorem yW (o:Option Th):e7 (oD o)=Δ:=by
 cases o with
 |none=>rfl
 |some t=>cases t<;>rfl
theorem wR (r:List (List Nat)):eS (r.map fun p=>oD (rdL p))=Δ:=by rw[gw,List.all_map,zY];intro x _;exact yW _
theorem wU (n:Nat)(r:List (List Nat))(h:∀p∈r,p.length<=2000):fm (fD (b9 T (n+1)) (.nm 0) [] (.call 47 [(.v 0)]) [Ξ]) ((r.map sal).map .str)=.ok (r.map fun p=>oD (rdL p)):=by
 have e:(r.map sal).map D.str=r.map fun p=>D.str (sal p):=Ah ..;rw[e];have:=Ev.gc (g:=fD (b9 T (n+1)) (.nm 0) [] (.call 47 [(.v 0)]) [Ξ]) (fun p:List Nat=>D.str (sal p)) (fun p=>oD (rdL p)) (fun d=>d) r fun p hp=>by have e:=wQ n p (h p hp);generalize sal p=x at *;simp![e]
 rw[List.map_id']at this;exact this
theorem rS (n:Nat):∀ {r:List (List Nat)},(iL r=Ξ->∃U,fm (fD (b9 T n) (.nm 0) [(.cmp .is_ (.v 0) (.c .non))] (.v 0) [Ξ]) (r.map fun p=>oD (rdL p))=.ok U/\U.isEmpty=Θ)/\
  ∀ts,iL r=Γ ts->(r.map fun p=>oD (rdL p))=ts.map Th.d:=by
 intro r;have hf:fm (fD (b9 T n) (.nm 0) [(.cmp .is_ (.v 0) (.c .non))] (.v 0) [Ξ]) (r.map fun p=>oD (rdL p))=.ok ((r.filter fun p=>(rdL p).isNone).map fun p=>oD (rdL p)):=by
  refine f7 (fun p=>oD (rdL p)) (fun p=>(rdL p).isNone) r fun p hp=>?_;cases q:rdL p with
  |none=>show _=Except.ok (Γ D.non);unfold oD;simp![ev0]
  |some t=>
   show _=Except.ok Ξ;cases t with
   |num i=>unfold oD Th.d;simp![ev0]
   |txt cs=>unfold oD Th.d;simp![ev0]
 refine⟨fun h=>⟨_,hf,?_⟩,?_⟩
 ·clear hf
  induction r with
  |nil=>cases h
  |cons p r ih=>
   have h':(match rdL p,iL r with|some t,Γ ts=>Γ (t::ts)|_,_=>Ξ:Option (List Th))=Ξ:=h;rw[List.filter_cons];cases q:rdL p with
   |none=>simp
   |some t=>
    rw[q]at h';cases q2:iL r with
    |none=>simpa using ih q2
    |some us=>rw[q2]at h';cases h'
 ·clear hf
  induction r with
  |nil=>intro ts h;cases h;rfl
  |cons p r ih=>
   intro ts h;have h':(match rdL p,iL r with|some t,Γ ts=>Γ (t::ts)|_,_=>Ξ:Option (List Th))=Γ ts:=h;cases q:rdL p with
   |none=>rw[q]at h';cases h'
   |some t=>
    cases q2:iL r with
    |none=>rw[q,q2]at h';cases h'
    |some us=>rw[q,q2]at h';cases h';rw[a_,a_,ih us q2,q];rfl
noncomputable def isT:Th->Bool
 |.txt _=>Δ
 |.num _=>Θ
noncomputable def isE:Th->Bool
 |.txt cs=>cs.isEmpty
 |.num _=>Θ
theorem t8 (n:Nat)(ts:List Th):fm (fD (b9 T n) (.nm 0) [(.cmp .is_ (.v 0) (.c .non))] (.v 0) [Ξ]) (ts.map Th.d)=.ok []:=by
 have:=f7 (g:=fD (b9 T n) (.nm 0) [(.cmp .is_ (.v 0) (.c .non))] (.v 0) [Ξ]) Th.d (fun _=>Θ) ts fun t ht=>by
  show _=Except.ok Ξ;cases t with
  |num i=>unfold Th.d;simp![ev0]
  |txt cs=>unfold Th.d;simp![ev0]
 rw[show ts.filter (fun _=>Θ)=[] by simp]at this;exact this
theorem wV (n:Nat)(ts:List Th):fm (fD (b9 T n) (.nm 0) [(.isi (.v 0) .str)] (.v 0) [Ξ]) (ts.map Th.d)=.ok ((ts.filter isT).map Th.d):=by
 refine f7 Th.d isT ts fun t ht=>?_;cases t with
 |num i=>show _=Except.ok Ξ;unfold Th.d;simp![ev0]
 |txt cs=>show _=Except.ok (Γ (D.str (sal cs)));unfold Th.d;simp![ev0]
theorem rT:∀(us:List Th),anyN (.str (Ο "")) (us.map Th.d)=.ok (us.any isE)
 |[]=>rfl
 |u::us=>by
  have e0:Ο "" = sal []:=by decide +kernel
  have:eqN 40 u.d (.str (Ο ""))=.ok (isE u):=by
   cases u with
   |num i=>rfl
   |txt cs=>show eqN 40 (.str (sal cs)) (.str (Ο ""))=.ok cs.isEmpty;rw[Ev.dB,e0,lZ];cases cs<;>simp
  rw[a_,Ev.dF,this,Ev.cb,Ev.cj,rT us];rfl
noncomputable def g9 (w:Str)(ts:List Th):Bool:=
 if((Ο "is" == w)||(Ο "not" == w))=Δ then szB ts
 else if(w == "begins")=Δ then szB ts&&(((((ts.filter isT).length:Nat):Int) == ((ts.length:Nat):Int))&&!((ts.filter isT).any isE))
 else if((Ο "least" == w)||(Ο "most" == w))=Δ then(((ts.length:Nat):Int) == 1)&&(ts.filter isT).isEmpty
 else if((Ο "has" == w)||((Ο "lacks" == w)||((Ο "in" == w)||(Ο "out" == w))))=Δ then ts.isEmpty
 else Θ
structure Kind (w:Str)(g1 g2 g3 g4:Bool):Prop where
 a:((Ο "is" == w)||(Ο "not" == w))=g1
 b:(w == Ο "begins")=g2
 c:((Ο "least" == w)||(Ο "most" == w))=g3
 d:((Ο "has" == w)||((Ο "lacks" == w)||((Ο "in" == w)||(Ο "out" == w))))=g4
theorem kinds (w:Str):Kind w Δ Θ Θ Θ∨Kind w Θ Δ Θ Θ∨Kind w Θ Θ Δ Θ∨Kind w Θ Θ Θ Δ∨Kind w Θ Θ Θ Θ:=by
 cases h1:((Ο "is" == w)||(Ο "not" == w)) with
 |true=>refine .inl ?_;simp only[zX,beq_iff_eq]at h1;rcases h1 with h1|h1<;>(subst h1;exact⟨by decide +kernel,by decide +kernel,by decide +kernel,by decide +kernel⟩)
 |false=>
  cases h2:(w == Ο "begins") with
  |true=>refine .inr (.inl ?_);have h2:=f_ h2;subst h2;exact⟨by decide +kernel,by decide +kernel,by decide +kernel,by decide +kernel⟩
  |false=>
   cases h3:((Ο "least" == w)||(Ο "most" == w)) with
   |true=>refine .inr (.inr (.inl ?_));simp only[zX,beq_iff_eq]at h3;rcases h3 with h3|h3<;>(subst h3;exact⟨by decide +kernel,by decide +kernel,by decide +kernel,by decide +kernel⟩)
   |false=>
    cases h4:((Ο "has" == w)||((Ο "lacks" == w)||((Ο "in" == w)||(Ο "out" == w)))) with
    |true=>exact .inr (.inr (.inr (.inl ⟨h1,h2,h3,h4⟩)))
    |false=>exact .inr (.inr (.inr (.inr ⟨h1,h2,h3,h4⟩)))
noncomputable def dcd:List (List Nat)->Option (List Nat×List Nat×List Th)
 |a::b::r=>if(fU 1 8 a&&al LE a)=Δ then(match iL r with|some ts=>if g9 (sal b) ts=Δ then Γ (a,b,ts) else Ξ|none=>Ξ) else Ξ
 |_=>Ξ
noncomputable def wW:Option (List Nat×List Nat×List Th)->D
 |some x=>wO x Δ
 |none=>.non
theorem ixa {x y:Str}{Y:List D}:fO (.lst Θ (.str x::.str y::Y)) (.int 0)=.ok (.str x):=by rw[Ev.x_l,Ev.hU (.non) (by omega) (by rw[List.length_cons];omega)];rfl
theorem ixb {x y:Str}{Y:List D}:fO (.lst Θ (.str x::.str y::Y)) (.int 1)=.ok (.str y):=by rw[Ev.x_l,Ev.hU (.non) (by omega) (by rw[List.length_cons,List.length_cons];omega)];rfl
theorem wX (n:Nat){ps:List (List Nat)}(h0:ps≠[])(h:∀p∈ps,32∉p)(hl:(jn ps).length<=1900):b9 T (n+2) 48 [.str (sal (jn ps))]=.ok (wW (dcd ps)):=by
 have sp:=j9 h0 h;obtain⟨jl,jp⟩:=rQ ps;have sl:=eV (jn ps);have hs:Ε=16777216:=sizeLine_eq;have d1:decide ((Ο " ").length≠0/\(sal (jn ps)).length+2<=Ε)=Δ:=l_ ⟨by decide +kernel,by omega⟩;generalize sal (jn ps)=LN at *;have nl:e9 (.mth .split (.v 0) [.c (.str " ")])=Θ:=rfl
 match ps,h0 with
 |[a],_=>
  show b9 T (n+2) 48 [.str LN]=.ok .non;have sp:(Txt.split LN (Ο " ")).map D.str=[.str (sal a)]:=by rw[sp];rfl
  have dl:decide (((1:Nat):Int) < 2)=Δ:=by decide
  rw[g9x 48 d48 1 5 b48 rfl rfl rfl rfl rfl rfl];unfold b48;simp![nl,d1,sp,dl]
 |a::b::r,_=>
  have sp:(Txt.split LN (Ο " ")).map D.str=.str (sal a)::.str (sal b)::(r.map sal).map .str:=by rw[sp];rfl
  have la:=jp a (by simp);have lr:((r.map sal).map D.str).length<=1901:=by rw[h_,h_];rw[List.length_cons,List.length_cons]at jl;omega
  have dl:decide (((((r.map sal).map D.str).length+1+1:Nat):Int) < 2)=Θ:=w_ (by omega);have e1:=wU n r fun p hp=>by have:=jp p (s_ _ (s_ _ hp));omega
  have lf':eS ((r.map sal).map D.str)=Δ:=Ev.fQ _;have er2:ers ((r.map sal).map D.str)=(r.map sal).map D.str:=fY lf';have ia:=ixa (x:=sal a) (y:=sal b) (Y:=(r.map sal).map D.str);have ib:=ixb (x:=sal a) (y:=sal b) (Y:=(r.map sal).map D.str);have c2:=yU (D.str (sal a)) (D.str (sal b)) ((r.map sal).map D.str);have sa:=eV a;have s8:(sal a).length<=16777216:=by omega
  have ca:=iv a;have lca:=ji a;have bd:=yV (n+1) LE a;have be:=rR LE a;have en:=iw (f:=eqN 39) (bad LE a);rw[be]at en;have lx:=wR r;have lX:(r.map fun p=>oD (rdL p)).length<=1901:=by rw[h_]at lr ⊢;rw[h_]at lr;exact lr
  have hr:dcd (a::b::r)=if(fU 1 8 a&&al LE a)=Δ then(match iL r with|some ts=>if g9 (sal b) ts=Δ then Γ (a,b,ts) else Ξ|none=>Ξ) else Ξ:=rfl
  rw[hr];have hLB:fU 1 8 a=(decide ((1:Int)<=(((sal a).length:Nat):Int))&&decide ((((sal a).length:Nat):Int)<=8)):=by unfold fU;rw[sa]
  rw[hLB];generalize hY:(r.map sal).map D.str=Y,bad LE a=BX,(a.map fun c=>D.str (one c))=CX at *;generalize hAL:al LE a=AL at *;unfold LE at bd;obtain⟨sn,ss⟩:=rS (n+1) (r:=r);cases q1:decide ((1:Int)<=(((sal a).length:Nat):Int)) with
  |false=>show b9 T (n+2) 48 [.str LN]=.ok .non;rw[g9x 48 d48 1 5 b48 rfl rfl rfl rfl rfl rfl];unfold b48;simp![nl,d1,sp,dl,er2,ia,ib,q1]
  |true=>
  cases q8:decide ((((sal a).length:Nat):Int)<=8) with
  |false=>show b9 T (n+2) 48 [.str LN]=.ok .non;rw[g9x 48 d48 1 5 b48 rfl rfl rfl rfl rfl rfl];unfold b48;simp![nl,d1,sp,dl,er2,ia,ib,q1,q8]
  |true=>
  cases AL with
  |false=>show b9 T (n+2) 48 [.str LN]=.ok .non;rw[g9x 48 d48 1 5 b48 rfl rfl rfl rfl rfl rfl];unfold b48;simp![nl,d1,sp,dl,er2,ia,ib,q1,q8,ca,bd,lca,en]
  |true=>
  cases hq:iL r with
  |none=>obtain⟨U,e2,eU⟩:=sn hq;have en2:=iw (f:=eqN 39) U;rw[eU]at en2;show b9 T (n+2) 48 [.str LN]=.ok .non;generalize(r.map fun p=>oD (rdL p))=X at *;rw[g9x 48 d48 1 5 b48 rfl rfl rfl rfl rfl rfl];unfold b48;simp![nl,d1,sp,dl,er2,ia,ib,q1,q8,ca,bd,lca,en,c2,e1,lf',lx,e2,en2]
  |some ts=>
   have hX:=ss ts hq;rw[hX]at e1 lx lX;have e2:=t8 (n+1) ts;have e3:=wV (n+1) ts;have lu:eS ((ts.filter isT).map Th.d)=Δ:=i5 _;have em:=rT (ts.filter isT);have en3:=iw (f:=eqN 39) (ts.map Th.d);have en4:=iw (f:=eqN 39) ((ts.filter isT).map Th.d);have lt:(ts.map Th.d).length=ts.length:=h_ ..;have lU:((ts.filter isT).map Th.d).length=(ts.filter isT).length:=h_ ..;have ie:(ts.map Th.d).isEmpty=ts.isEmpty:=by cases ts<;>rfl
   have iu:((ts.filter isT).map Th.d).isEmpty=(ts.filter isT).isEmpty:=by cases ts.filter isT<;>rfl
   rw[ie]at en3;rw[iu]at en4;have goal:(∃f,g9 (sal b) ts=f/\b9 T (n+2) 48 [.str LN]=.ok (if f=Δ then .tup [.str (sal a),.str (sal b),.lst Δ (ts.map Th.d)] else .non))->b9 T (n+2) 48 [.str LN]=.ok (wW (match Γ ts with|some ts=>if g9 (sal b) ts=Δ then Γ (a,b,ts) else Ξ|none=>Ξ)):=by rintro⟨f,hf,e⟩;rw[e];show _=Except.ok (wW (if g9 (sal b) ts=Δ then Γ (a,b,ts) else Ξ));rw[hf];cases f<;>rfl
   refine goal ?_;clear goal;unfold g9 szB;rw[<- lt,<- lU];generalize(ts.filter isT).any isE=EE,(ts.filter isT).isEmpty=UE,(ts.filter isT).map Th.d=U,ts.isEmpty=TE,ts.map Th.d=X,sal b=w at *;rcases kinds w with K|K|K|K|K
   ·have ka:=K.a;have kb:=K.b;have kc:=K.c;have kd:=K.d;refine⟨_,by rw[ka,d_ rfl],?_⟩;cases z1:decide ((1:Int)<=((X.length:Nat):Int)) with
    |false=>rw[g9x 48 d48 1 5 b48 rfl rfl rfl rfl rfl rfl];unfold b48;simp![nl,d1,sp,dl,er2,ia,ib,q1,q8,ca,bd,lca,en,c2,e1,lf',lx,e2,e3,lu,ka,kb,kc,kd,z1]
    |true=>
     cases z2:decide (((X.length:Nat):Int)<=10) with
     |false=>rw[g9x 48 d48 1 5 b48 rfl rfl rfl rfl rfl rfl];unfold b48;simp![nl,d1,sp,dl,er2,ia,ib,q1,q8,ca,bd,lca,en,c2,e1,lf',lx,e2,e3,lu,ka,kb,kc,kd,z1,z2]
     |true=>rw[g9x 48 d48 1 5 b48 rfl rfl rfl rfl rfl rfl];unfold b48;simp![nl,d1,sp,dl,er2,ia,ib,q1,q8,ca,bd,lca,en,c2,e1,lf',lx,e2,e3,lu,ka,kb,kc,kd,z1,z2]
   ·have ka:=K.a;have kb:=K.b;have kc:=K.c;have kd:=K.d;refine⟨_,by rw[ka,c_ i_,show(w == "begins")=Δ from kb,d_ rfl],?_⟩;cases z1:decide ((1:Int)<=((X.length:Nat):Int)) with
    |false=>rw[g9x 48 d48 1 5 b48 rfl rfl rfl rfl rfl rfl];unfold b48;simp![nl,d1,sp,dl,er2,ia,ib,q1,q8,ca,bd,lca,en,c2,e1,lf',lx,e2,e3,lu,ka,kb,kc,kd,z1]
    |true=>
    cases z2:decide (((X.length:Nat):Int)<=10) with
    |false=>rw[g9x 48 d48 1 5 b48 rfl rfl rfl rfl rfl rfl];unfold b48;simp![nl,d1,sp,dl,er2,ia,ib,q1,q8,ca,bd,lca,en,c2,e1,lf',lx,e2,e3,lu,ka,kb,kc,kd,z1,z2]
    |true=>
    cases z3:(((U.length:Nat):Int) == ((X.length:Nat):Int)) with
    |false=>rw[g9x 48 d48 1 5 b48 rfl rfl rfl rfl rfl rfl];unfold b48;simp![nl,d1,sp,dl,er2,ia,ib,q1,q8,ca,bd,lca,en,c2,e1,lf',lx,e2,e3,lu,ka,kb,kc,kd,z1,z2,z3]
    |true=>
    cases EE with
    |false=>rw[g9x 48 d48 1 5 b48 rfl rfl rfl rfl rfl rfl];unfold b48;simp![nl,d1,sp,dl,er2,ia,ib,q1,q8,ca,bd,lca,en,c2,e1,lf',lx,e2,e3,lu,ka,kb,kc,kd,z1,z2,z3,em]
    |true=>rw[g9x 48 d48 1 5 b48 rfl rfl rfl rfl rfl rfl];unfold b48;simp![nl,d1,sp,dl,er2,ia,ib,q1,q8,ca,bd,lca,en,c2,e1,lf',lx,e2,e3,lu,ka,kb,kc,kd,z1,z2,z3,em]
   ·have ka:=K.a;have kb:=K.b;have kc:=K.c;have kd:=K.d;refine⟨_,by rw[ka,c_ i_,show(w == "begins")=Θ from kb,c_ i_,kc,d_ rfl],?_⟩;cases z3:(((X.length:Nat):Int) == 1) with
    |false=>rw[g9x 48 d48 1 5 b48 rfl rfl rfl rfl rfl rfl];unfold b48;simp![nl,d1,sp,dl,er2,ia,ib,q1,q8,ca,bd,lca,en,c2,e1,lf',lx,e2,e3,lu,ka,kb,kc,kd,z3]
    |true=>
    cases UE with
    |false=>rw[g9x 48 d48 1 5 b48 rfl rfl rfl rfl rfl rfl];unfold b48;simp![nl,d1,sp,dl,er2,ia,ib,q1,q8,ca,bd,lca,en,c2,e1,lf',lx,e2,e3,lu,ka,kb,kc,kd,z3,en4]
    |true=>rw[g9x 48 d48 1 5 b48 rfl rfl rfl rfl rfl rfl];unfold b48;simp![nl,d1,sp,dl,er2,ia,ib,q1,q8,ca,bd,lca,en,c2,e1,lf',lx,e2,e3,lu,ka,kb,kc,kd,z3,en4]
   ·have ka:=K.a;have kb:=K.b;have kc:=K.c;have kd:=K.d;refine⟨_,by rw[ka,c_ i_,show(w == "begins")=Θ from kb,c_ i_,kc,c_ i_,kd,d_ rfl],?_⟩;cases TE with
    |false=>rw[g9x 48 d48 1 5 b48 rfl rfl rfl rfl rfl rfl];unfold b48;simp![nl,d1,sp,dl,er2,ia,ib,q1,q8,ca,bd,lca,en,c2,e1,lf',lx,e2,e3,lu,ka,kb,kc,kd,en3]
    |true=>rw[g9x 48 d48 1 5 b48 rfl rfl rfl rfl rfl rfl];unfold b48;simp![nl,d1,sp,dl,er2,ia,ib,q1,q8,ca,bd,lca,en,c2,e1,lf',lx,e2,e3,lu,ka,kb,kc,kd,en3]
   ·have ka:=K.a;have kb:=K.b;have kc:=K.c;have kd:=K.d;refine⟨Θ,by rw[ka,c_ i_,show(w == "begins")=Θ from kb,c_ i_,kc,c_ i_,kd,c_ i_],?_⟩;rw[g9x 48 d48 1 5 b48 rfl rfl rfl rfl rfl rfl];unfold b48;simp![nl,d1,sp,dl,er2,ia,ib,q1,q8,ca,bd,lca,en,c2,e1,lf',lx,e2,e3,lu,ka,kb,kc,kd]
noncomputable def gd (t:Th):Bool:=B1 0 t||B2 t
theorem ua {p:List Nat}(h:rdP p=Ξ):rdL p=Ξ:=by
 cases p with
 |nil=>rfl
 |cons c r=>
  rw[oP]at h;rw[oQ];by_cases hc:c=46
  ·rw[d_ hc]at h;cases h
  ·rw[c_ hc]at h ⊢;cases hw:wri (c::r) with
   |true=>rw[hw,d_ rfl]at h;cases h
   |false=>rw[c_ i_]
theorem wY (r:List Nat):(!t9 r)=fU 0 8 r:=by
 unfold t9 fU;rw[l_ (show(0:Int)<=((r.length:Nat):Int) by omega),Bool.true_and];by_cases h:((r.length:Nat):Int)<=8
 ·rw[l_ h,w_ (by omega)];rfl
 ·rw[w_ h,l_ (by omega)];rfl
theorem ub {p:List Nat}{t:Th}(h:rdP p=Γ t):rdL p=if gd t=Δ then Γ t else Ξ:=by
 cases p with
 |nil=>cases h
 |cons c r=>
  rw[oP]at h;rw[oQ];by_cases hc:c=46
  ·rw[d_ hc]at h ⊢;cases h;have e:gd (.txt r)=(fU 0 8 r&&al SG r):=by show((fU 0 8 r&&al SG r)||false)=_;rw[Bool.or_false]
   rw[e,wY]
  ·rw[c_ hc]at h ⊢;cases hw:wri (c::r) with
   |true=>
    rw[hw,d_ rfl]at h;cases h;obtain⟨_,h1,h2,_⟩:=oO hw;have e:gd (.num (val (c::r)))=Δ:=by show(Θ||decide ((if val (c::r) < 0 then -val (c::r) else val (c::r))<=999999999))=Δ;rw[Bool.false_or];refine l_ ?_;split<;>omega
    rw[d_ rfl,e,d_ rfl]
   |false=>rw[hw,c_ i_]at h;cases h
theorem mT:∀r:List (List Nat),(gV r=Ξ->iL r=Ξ)/\∀ts,gV r=Γ ts->iL r=if ts.all gd=Δ then Γ ts else Ξ
 |[]=>⟨fun h=>h,fun ts h=>by cases h;rfl⟩
 |p::r=>by
  obtain⟨h1,h2⟩:=mT r;have eO:gV (p::r)=match rdP p,gV r with|some t,Γ ts=>Γ (t::ts)|_,_=>Ξ:=rfl
  have eL:iL (p::r)=match rdL p,iL r with|some t,Γ ts=>Γ (t::ts)|_,_=>Ξ:=rfl
  rw[eO,eL];cases q:rdP p with
  |none=>rw[ua q];exact⟨fun _=>rfl,fun ts h=>by cases h⟩
  |some t=>
   rw[ub q];cases q2:gV r with
   |none=>rw[h1 q2];refine⟨fun _=>?_,fun ts h=>by cases h⟩;cases gd t<;>rfl
   |some us=>
    rw[h2 us q2];refine⟨fun h=>(by cases h),fun ts h=>?_⟩;cases h;rw[List.all_cons];cases gd t with
    |false=>rfl
    |true=>cases us.all gd<;>rfl
theorem uc (ts:List Th):((((ts.filter isT).length:Nat):Int) == ((ts.length:Nat):Int))=ts.all isT:=by
 have hle:=List.length_filter_le isT ts;cases h:ts.all isT with
 |true=>have:ts.filter isT=ts:=List.filter_eq_self.mpr fun t ht=>(zY.mp h) t ht;rw[this];simp
 |false=>
  refine beq_false_of_ne fun z=>?_;have z:(ts.filter isT).length=ts.length:=by omega
  have:=List.length_filter_eq_length_iff.mp z;rw[zY.mpr this]at h;cases h
theorem zP (ts:List Th):ts.all (fun t=>B1 1 t)=(ts.all gd&&((((((ts.filter isT).length:Nat):Int) == ((ts.length:Nat):Int)))&&!((ts.filter isT).any isE))):=by
 rw[uc]
 induction ts with
 |nil=>rfl
 |cons t ts ih=>
  rw[List.all_cons,List.all_cons,List.all_cons,List.filter_cons,ih];cases t with
  |num i=>
   show(Θ&&_)=_;rw[Bool.false_and];show Θ=((gd (.num i)&&ts.all gd)&&((Θ&&ts.all isT)&&_))
   rw[Bool.false_and,Bool.false_and,Bool.and_false]
  |txt cs=>
   show((fU 1 8 cs&&al SG cs)&&(ts.all gd&&(ts.all isT&&!(ts.filter isT).any isE)))=((((fU 0 8 cs&&al SG cs)||false)&&ts.all gd)&&((Δ&&ts.all isT)&&!(((Th.txt cs)::ts.filter isT).any isE)))
   rw[List.any_cons];have e:fU 1 8 cs=(fU 0 8 cs&&!isE (.txt cs)):=by
    show fU 1 8 cs=(fU 0 8 cs&&!cs.isEmpty)
    unfold fU;cases cs with
    |nil=>rfl
    |cons c r=>rw[l_ (show(1:Int)<=(((c::r).length:Nat):Int) by rw[List.length_cons];omega),l_ (show(0:Int)<=(((c::r).length:Nat):Int) by omega)];simp
   rw[e,Bool.or_false,Bool.true_and];generalize fU 0 8 cs=a;generalize al SG cs=b;generalize isE (.txt cs)=c;generalize ts.all gd=d;generalize ts.all isT=e;generalize(ts.filter isT).any isE=f;revert a b c d e f;decide
theorem zQ (ts:List Th):goL ts=(ts.all gd&&((((ts.length:Nat):Int) == 1)&&(ts.filter isT).isEmpty)):=by
 match ts with
 |[]=>rfl
 |[t]=>
  cases t with
  |num i=>
   show B2 (.num i)=(((Θ||B2 (.num i))&&Δ)&&(Δ&&Δ))
   rw[Bool.false_or,Bool.and_true,Bool.and_true,Bool.and_true]
  |txt cs=>
   show Θ=((gd (.txt cs)&&Δ)&&(Δ&&Θ))
   rw[Bool.and_false,Bool.and_false]
 |t::u::r=>show Θ=_;have:(((((t::u::r).length:Nat):Int) == 1))=Θ:=beq_false_of_ne (by rw[List.length_cons,List.length_cons];omega);rw[this,Bool.false_and,Bool.and_false]
theorem wZ (w:Str)(ts:List Th):(wsB w&&goB w ts)=(ts.all gd&&g9 w ts):=by
 rcases kinds w with K|K|K|K|K
 ·have h:=K.a;have hf:g9 w ts=szB ts:=by unfold g9;rw[K.a,d_ rfl]
  rw[hf];simp only[zX,beq_iff_eq]at h;have hw:wsB w=Δ/\goB w ts=goA ts:=by
   rcases h with h|h
   ·subst h;exact⟨by decide +kernel,by unfold goB;rw[d_ (by decide +kernel)]⟩
   ·subst h;exact⟨by decide +kernel,by unfold goB;rw[c_ (by decide +kernel),d_ (by decide +kernel)]⟩
  rw[hw.1,hw.2,Bool.true_and];show(szB ts&&ts.all gd)=_;exact Bool.and_comm ..
 ·have h:=f_ K.b;have hf:g9 w ts=(szB ts&&(((((ts.filter isT).length:Nat):Int) == ((ts.length:Nat):Int))&&!((ts.filter isT).any isE))):=by unfold g9;rw[K.a,c_ i_,d_ K.b]
  rw[hf];subst h;have hw:wsB "begins" = Δ/\goB "begins" ts=goG ts:=⟨by decide +kernel,by unfold goB;rw[c_ (by decide +kernel),c_ (by decide +kernel),d_ (by decide +kernel)]⟩
  rw[show wsB (Ο "begins")=Δ from hw.1,show goB (Ο "begins") ts=goG ts from hw.2,Bool.true_and];unfold goG;rw[zP];generalize szB ts=a;generalize ts.all gd=b;generalize((((ts.filter isT).length:Nat):Int) == ((ts.length:Nat):Int))=c;generalize(ts.filter isT).any isE=d;revert a b c d;decide
 ·have h:=K.c;have hf:g9 w ts=((((ts.length:Nat):Int) == 1)&&(ts.filter isT).isEmpty):=by unfold g9;rw[K.a,c_ i_,c_ (by rw[show(w == "begins")=Θ from K.b];decide),K.c,d_ rfl]
  rw[hf];simp only[zX,beq_iff_eq]at h;have hw:wsB w=Δ/\goB w ts=goL ts:=by
   rcases h with h|h
   ·subst h;exact⟨by decide +kernel,by unfold goB;rw[c_ (by decide +kernel),c_ (by decide +kernel),c_ (by decide +kernel),d_ (by decide +kernel)]⟩
   ·subst h;exact⟨by decide +kernel,by unfold goB;rw[c_ (by decide +kernel),c_ (by decide +kernel),c_ (by decide +kernel),c_ (by decide +kernel),d_ (by decide +kernel)]⟩
  rw[hw.1,hw.2,Bool.true_and,zQ]
 ·have h:=K.d;have hf:g9 w ts=ts.isEmpty:=by unfold g9;rw[K.a,c_ i_,c_ (by rw[show(w == "begins")=Θ from K.b];decide),K.c,c_ i_,K.d,d_ rfl]
  rw[hf];simp only[zX,beq_iff_eq]at h;have hw:wsB w=Δ/\goB w ts=ts.isEmpty:=by
   rcases h with h|h|h|h<;>
   ·subst h;exact⟨by decide +kernel,by unfold goB;rw[c_ (by decide +kernel),c_ (by decide +kernel),c_ (by decide +kernel),c_ (by decide +kernel),c_ (by decide +kernel)]⟩
  rw[hw.1,hw.2,Bool.true_and];cases ts with
  |nil=>rfl
  |cons t r=>show Θ=(_&&Θ);rw[Bool.and_false]
 ·have hf:g9 w ts=Θ:=by unfold g9;rw[K.a,c_ i_,c_ (by rw[show(w == "begins")=Θ from K.b];decide),K.c,c_ i_,K.d,c_ i_]
  have hw:wsB w=Θ:=by have ka:=K.a;have kb:=K.b;have kc:=K.c;have kd:=K.d;rw[BEq.comm]at kb;unfold wsB;rw[Bool.or_eq_false_iff]at ka kc;rw[ka.1,ka.2,kb,kc.1,kc.2,kd];rfl
  rw[hf,hw,Bool.false_and,Bool.and_false]
theorem same (ps:List (List Nat)):rcd ps=dcd ps:=by
 match ps with
 |[]=>rfl
 |[_]=>rfl
 |a::b::r=>
  have e1:rcd (a::b::r)=if(fU 1 8 a&&al LE a)=Δ then(match gV r with|some ts=>if(wsB (sal b)&&goB (sal b) ts)=Δ then Γ (a,b,ts) else Ξ|none=>Ξ) else Ξ:=rfl
  have e2:dcd (a::b::r)=if(fU 1 8 a&&al LE a)=Δ then(match iL r with|some ts=>if g9 (sal b) ts=Δ then Γ (a,b,ts) else Ξ|none=>Ξ) else Ξ:=rfl
  rw[e1,e2];obtain⟨h1,h2⟩:=mT r;cases(fU 1 8 a&&al LE a) with
  |false=>rfl
  |true=>
   rw[d_ rfl,d_ rfl];cases q:gV r with
   |none=>rw[h1 q]
   |some ts=>
    rw[h2 ts q];show(if(wsB (sal b)&&goB (sal b) ts)=Δ then Γ (a,b,ts) else Ξ)=_;rw[wZ];cases ts.all gd with
    |false=>rfl
    |true=>rw[Bool.true_and,d_ rfl]
theorem ud (n:Nat):b9 T (n+1) 42 [.exc "NoLine"]=.ok (.str "line"):=by kernel_rfl
theorem rU (k:Nat):∀ts:List Th,gh (eqN (k+1)) (ts.map Th.d) (ts.map Th.d)=.ok Δ
 |[]=>rfl
 |t::ts=>by
  rw[a_,Ev.dE];have:eqN (k+1) t.d t.d=.ok Δ:=by
   cases t with
   |txt cs=>show eqN (k+1) (.str (sal cs)) (.str (sal cs))=_;rw[Ev.dB,beq_self_eq_true]
   |num i=>show eqN (k+1) (.int i) (.int i)=_;rw[Ev.dD,beq_self_eq_true]
  rw[this,Ev.cb,Ev.cg,rU k ts];rfl
theorem gW (n:Nat)(x:Str)(hx:x.length<=1900):b9 T (n+7) 49 [.str x]=.ok (.bl Δ):=by
 obtain⟨cs,rfl⟩:∃cs,x=sal cs:=⟨_,(ir x).symm⟩
 rw[eV]at hx;obtain⟨ps,h0,h1,rfl⟩:=parts cs;have e1:=t6 n h0 h1 hx;have e2:=wX (n+4) h0 h1 hx;rw[<- same ps]at e2;have wo:=ud (n+5);generalize sal (jn ps)=L at *;cases q:rcd ps with
 |none=>
  rw[q]at e1 e2;have e1:b9 T (n+6) 38 [.str L]=.error (.exc "NoLine"):=e1;have e2:b9 T (n+6) 48 [.str L]=.ok .non:=e2;rw[g9x 49 d49 1 5 b49 rfl rfl rfl rfl rfl rfl];unfold b49;have ct:([Ο "NoWord",Ο "NoGroup",Ο "BadThings",Ο "NoLine"]:List Str).contains (Ο "NoLine")=Δ:=by decide +kernel
  simp![e1,e2,wo,ct]
 |some y=>obtain⟨a,b,ts⟩:=y;rw[q]at e1 e2;have e1:b9 T (n+6) 38 [.str L]=.ok (.tup [.str (sal a),.str (sal b),.lst Δ (ts.map Th.d)]):=e1;have e2:b9 T (n+6) 48 [.str L]=.ok (.tup [.str (sal a),.str (sal b),.lst Δ (ts.map Th.d)]):=e2;have lf:=i5 ts;have er':=kW ts;have eq:=rU 37 ts;have ba:=beq_self_eq_true (sal a);have bb:=beq_self_eq_true (sal b);generalize ts.map Th.d=X at *;rw[g9x 49 d49 1 5 b49 rfl rfl rfl rfl rfl rfl];unfold b49;simp![e1,e2,lf,er',eq,ba,bb]
theorem slice_le (x:Str)(l u:Option Int):(Txt.slice x l u).length<=x.length:=by
 unfold Txt.slice;split
 ·exact k_ _
 ·show(List.toArray _).size<=_;rw[zU];exact Ad (List.length_filterMap_le ..) (sliceIndices_le l u x.length)
noncomputable def tot:List Str->Nat
 |[]=>0
 |x::r=>x.length+1+tot r
theorem fW:∀a b:List Str,tot (a++b)=tot a+tot b
 |[],b=>by show tot b=0+tot b;omega
 |x::a,b=>by show x.length+1+tot (a++b)=x.length+1+tot a+tot b;rw[fW a b];omega
theorem oS:∀a:List Str,(a.map (fun y:Str=>y.length)).sum+a.length=tot a
 |[]=>rfl
 |x::a=>by have:=oS a;show(x.length+(a.map (fun y:Str=>y.length)).sum)+(a.length+1)=x.length+1+tot a;omega
theorem mU:∀(k:Nat) (a:List Str),tot (a.drop k)<=tot a
 |0,a=>k_ _
 |k+1,[]=>k_ _
 |k+1,x::a=>by have:=mU k a;show tot (a.drop k)<=x.length+1+tot a;omega
theorem mV:∀(k:Nat) (a:List Str),tot (a.take k)<=tot a
 |0,a=>Nat.zero_le _
 |k+1,[]=>k_ _
 |k+1,x::a=>by have:=mV k a;show x.length+1+tot (a.take k)<=x.length+1+tot a;omega
theorem fX (a:List Str)(l u:Option Int):tot (fR a l u)<=tot a:=Ad (mV _ _) (mU _ _)
theorem gf:∀a:List Str,a.length<=tot a
 |[]=>k_ _
 |x::a=>by have:=gf a;show a.length+1<=x.length+1+tot a;omega
theorem ue (a:List Str):tot a.reverse=tot a:=by
 induction a with
 |nil=>rfl
 |cons x a ih=>rw[List.reverse_cons,fW,ih];show tot a+(x.length+1+0)=x.length+1+tot a;omega
theorem uf {α β:Type}(f:α->β)(a:List α)(l u:Option Int):fR (a.map f) l u=(fR a l u).map f:=by unfold fR;rw[h_,List.map_take,List.map_drop]
theorem rV:∀ps:List (List Nat),(jn ps).length<=tot (ps.map sal)
 |[]=>k_ _
 |[p]=>by show p.length<=(sal p).length+1+0;rw[eV];omega
 |p::q::r=>by have:=rV (q::r);rw[pL,zW,List.length_cons];show p.length+((jn (q::r)).length+1)<=(sal p).length+1+tot ((q::r).map sal);rw[eV];omega
theorem oU:∀ps:List (List Nat),ps≠[]->tot (ps.map sal)=(jn ps).length+1
 |[],h=>absurd rfl h
 |[p],_=>by show(sal p).length+1+0=p.length+1;rw[eV]
 |p::q::r,_=>by have:=oU (q::r) (by simp);rw[pL,zW,List.length_cons];show(sal p).length+1+tot ((q::r).map sal)=p.length+((jn (q::r)).length+1)+1;rw[eV];omega
theorem b1:(Ο " ").length=1:=by decide +kernel
theorem mW (zs:List Str):(zs.map (·.cps.toList)).map sal=zs:=by
 rw[Ah];have:(sal ∘ fun x:Str=>x.cps.toList)=id:=by funext x;exact ir x
 rw[this,List.map_id]
theorem joined {o:Bool}(zs:List Str)(h:tot zs<=5000):∃y:Str,iz .join (.str (Ο " ")) [.lst o (zs.map .str)]=.ok (.str y)/\y.length<=tot zs:=by
 refine⟨Txt.join (Ο " ") zs,Ev.oA ?_,?_⟩
 ·have:=oS zs;rw[b1];omega
 ·have e:=rN (zs.map (·.cps.toList));rw[mW]at e;rw[e,eV];have:=rV (zs.map (·.cps.toList));rw[mW]at this;exact this
theorem gv (x:Str):∃zs:List Str,Txt.split x (Ο " ")=zs/\zs≠[]/\tot zs=x.length+1:=by
 obtain⟨cs,rfl⟩:∃cs,x=sal cs:=⟨_,(ir x).symm⟩
 obtain⟨ps,h0,h1,rfl⟩:=parts cs;refine⟨ps.map sal,j9 h0 h1,by simpa using h0,?_⟩;rw[oU ps h0,eV]
theorem ug {t:Th}(h:t.ok):(shw t).length<=10:=by
 cases t with
 |txt cs=>show(46::cs).length<=10;have:=h.1;rw[List.length_cons];omega
 |num i=>
  have:=tW (n:=i.natAbs) (by have:=h.1;have:=h.2;omega);rw[oM];split
  ·rw[List.length_cons];omega
  ·omega
noncomputable def mX:List IS:=[(.app 1 (.idx (.lst [(.bi .str [(.v 2)]),(.bin .add (.c (.str ".")) (.bi .str [(.v 2)]))]) (.bi .int [(.isi (.v 2) .str)])))]
theorem rW:(Ο ".").length=1:=by decide +kernel
theorem pM (n:Nat){c x:Option D}{zs:List Str}{t:Th}(hz:zs.length<=100)(h:t.ok):∃y:Str,Ev.turn (b9 T n) (.nm 2) mX t.d [c,Γ (.lst Δ (zs.map .str)),x]=.ok (.nx [c,Γ (.lst Δ ((zs++[y]).map .str)),Γ t.d])/\y.length<=12:=by
 have e0:(zs.map D.str).length=zs.length:=h_ ..;cases t with
 |txt cs=>
  have l8:=h.1;have sl:=eV cs;have hz1:(Ο "."++sal cs).length<=12:=by rw[sp,jy,eV,zW,Av];omega
  have ad:opB .add (.str (Ο ".")) (.str (sal cs))=.ok (.str (Ο "."++sal cs)):=by rw[Ev.aU,Ev.gN (by rw[rW];omega)];rfl
  have ix:=tU (o:=Δ) (a:=sal cs) (b:=Ο "."++sal cs) (i:=1) (by omega) (by omega);rw[c_ (by decide)]at ix;refine⟨Ο "."++sal cs,?_,hz1⟩;rw[List.map_append];rw[show(Th.txt cs).d=.str (sal cs) from rfl];unfold mX;generalize Ο "."++sal cs=y,zs.map D.str=X at *;generalize sal cs=w at *;simp![Ev.i4,ad,ix,e0,a_,List.map_nil]
 |num i=>
  have hl:=wH h.1 h.2;have hs:=tY i;have sl:=ug h;have hz1:(Ο (toString i)).length<=12:=by rw[hs,eV];omega
  have ad:opB .add (.str (Ο ".")) (.str (Ο (toString i)))=.ok (.str (Ο "."++Ο (toString i))):=by rw[Ev.aU,Ev.gN (by rw[rW];omega)];rfl
  have ix:=tU (o:=Δ) (a:=Ο (toString i)) (b:=Ο "."++Ο (toString i)) (i:=0) (by omega) (by omega);rw[d_ rfl]at ix;refine⟨Ο (toString i),?_,hz1⟩;rw[List.map_append];rw[show(Th.num i).d=.int i from rfl];unfold mX;generalize Ο "."++Ο (toString i)=y,zs.map D.str=X at *;have sb:gx .str [.int i]=.ok (.str (Ο (toString i))):=by rw[Ev.aV,hl];rfl
  generalize Ο (toString i)=w at *;simp![Ev.i4,sb,ad,ix,e0,a_,List.map_nil]
theorem uh (n:Nat){o:Bool}{nm:List Nat}{w:Str}{ts:List Th}(h:Cnd nm w ts)(hw:w.length<=10):∃y:Str,b9 T (n+1) 45 [.tup [.str (sal nm),.str w,.lst o (ts.map Th.d)]]=.ok (.str y)/\y.length<=200:=by
 have n8:=h.n8;have hl:=h.len;obtain⟨τ',e,zs,x,rfl,lz,tz⟩:=Ev.jx (its:=ts.map Th.d) (τ:=[Γ (.tup [.str (sal nm),.str w,.lst Θ (ts.map Th.d)]),Γ (.lst Δ [.str (sal nm),.str w]),Ξ]) (body:=Ev.turn (b9 T n) (.nm 2) mX)
  (fun i τ=>∃(zs:List Str) (x:Option D),τ=[Γ (.tup [.str (sal nm),.str w,.lst Θ (ts.map Th.d)]),Γ (.lst Δ (zs.map .str)),x]/\zs.length=2+i/\tot zs<=22+13*i)
  ⟨[sal nm,w],Ξ,rfl,rfl,by show(sal nm).length+1+(w.length+1+0)<=_;rw[eV];omega⟩ (by
   rintro i x τ hx ⟨zs,y,rfl,lz,tz⟩;have hi:i < ts.length:=by have:=(y_.mp hx).1;rw[h_]at this;exact this
   rw[Ac,Aw hi]at hx;have hx':(ts[i]).d=x:=zZ hx;subst hx';obtain⟨v,e,hv⟩:=pM n (c:=Γ (.tup [.str (sal nm),.str w,.lst Θ (ts.map Th.d)])) (x:=y) (zs:=zs) (by omega) (h.ok _ (List.getElem_mem hi));refine⟨_,e,zs++[v],Γ (ts[i]).d,rfl,by rw[zW,Av];omega,?_⟩;rw[fW];show tot zs+(v.length+1+0)<=_
   omega)
 rw[h_]at lz tz;obtain⟨y,ej,ly⟩:=joined (o:=Δ) zs (by omega);refine⟨y,?_,by omega⟩;have er':=kW ts;have lf:=i5 ts;generalize ts.map Th.d=X,zs.map D.str=ZZ at *;have i0:fO (.tup [.str (sal nm),.str w,.lst o X]) (.int 0)=.ok (.str (sal nm)):=rfl;have i1:fO (.tup [.str (sal nm),.str w,.lst o X]) (.int 1)=.ok (.str w):=rfl;have i2:fO (.tup [.str (sal nm),.str w,.lst o X]) (.int 2)=.ok (.lst o X):=rfl;unfold mX at e;rw[g9x 45 d45 1 3 b45 rfl rfl rfl rfl rfl rfl];unfold b45;simp![i0,i1,i2,er',lf,e,ej]
noncomputable def so:Str:=Ο " !\"#$&'()*+,-./0123456789:;<=>?@ABCDEFGHIJKLMNOPQRSTUVWXYZ[\\]^_`"++Ο "abcdefghijklmnopqrstuvwxyz{|}~\n\t  ..--0"
theorem gO:so.length=103:=by decide +kernel
theorem hW:opB .add (.str " !\"#$&'()*+,-./0123456789:;<=>?@ABCDEFGHIJKLMNOPQRSTUVWXYZ[\\]^_`") (.str "abcdefghijklmnopqrstuvwxyz{|}~\n\t  ..--0")=.ok (.str so):=by kernel_rfl
noncomputable def ow:List Str:=(["is","not","begins","least","most","has","lacks","in","out","","007","-0","+1","1_0","1.0"]:List Str)++(["999999999","1000000000","-999999999",".abcdefghi",".a",".","abc","-","Is","00","0"]:List Str)
theorem ic:opB .add (.lst Δ ((["is","not","begins","least","most","has","lacks","in","out","","007","-0","+1","1_0","1.0"]:List Str).map .str)) (.lst Δ ((["999999999","1000000000","-999999999",".abcdefghi",".a",".","abc","-","Is","00","0"]:List Str).map .str))=.ok (.lst Δ (ow.map .str)):=rfl
theorem w4:ow.length=26:=rfl
theorem uU {o:Bool}{i:Int}(h0:0<=i)(h1:i < 26):∃y:Str,fO (.lst o (ow.map .str)) (.int i)=.ok (.str y)/\y.length<=10:=by
 have hi:i.toNat < 26:=by omega
 refine⟨ow.getD i.toNat "",?_,?_⟩
 ·rw[Ev.x_l,Ev.hU (.str "") h0 (by rw[h_,w4];omega)];have:(ow.map D.str).getD i.toNat (.str "")=.str (ow.getD i.toNat ""):=by rw[Ap,Ap,Ac];cases ow[i.toNat]?<;>rfl
  rw[this]
 ·have:∀k:Nat,k < 26->(ow.getD k "").length<=10:=by decide +kernel
  exact this _ hi
theorem rX {a b:Str}(h:a.length+b.length<=10000):opB .add (.str a) (.str b)=.ok (.str (a++b)):=by rw[Ev.aU,Ev.gN (by omega)];rfl
theorem l0 {o o':Bool}{a b:List Str}(h:tot a+tot b<=10000):opB .add (.lst o (a.map .str)) (.lst o' (b.map .str))=.ok (.lst Δ ((a++b).map .str)):=by have h1:=gf a;have h2:=gf b;show grd (fL ((a.map D.str).length+(b.map D.str).length)) _=_;rw[Ev.gN (by rw[h_,h_];omega),List.map_append];rfl
theorem sl_t {x:Str}{l u:Option Int}(h:x.length<=10000):km (.str x) l u=.ok (.str (Txt.slice x l u)):=by show grd (fL x.length) _=_;rw[Ev.gN (by omega)];rfl
theorem ju {o:Bool}{a:List Str}{l u:Option Int}:km (.lst o (a.map .str)) l u=.ok (.lst Δ ((fR a l u).map .str)):=by show Except.ok (D.lst Δ (fR (a.map D.str) l u))=_;rw[uf]
theorem jq {i:Int}(h0:0<=i)(h1:i < 103):∃y:Str,fO (.str so) (.int i)=.ok (.str y)/\y.length=1/\({cps:=#[so.cps.toList.getD i.toNat 0]}:Str)=y:=by rw[Ev.x_c h0 (by rw[gO];exact h1) (by rw[gO];decide)];exact⟨_,rfl,rfl,rfl⟩
theorem ch0 (n:Nat)(x:Str)(c:Int)(hx:x.length<=1000)(hm:c % 8=0):∃y:Str,b9 T (n+1) 46 [.str x,.int c]=.ok (.str y)/\y.length<=3*x.length+20:=by
 obtain⟨zs,hz,z0,tz⟩:=gv x;have hs:Ε=16777216:=sizeLine_eq;have d1:decide ((Ο " ").length≠0/\x.length+2<=Ε)=Δ:=l_ ⟨by decide +kernel,by omega⟩;have hsp:(Txt.split x (Ο " ")).map D.str=zs.map .str:=by rw[hz]
 have lz:(zs.map D.str).length=zs.length:=h_ ..;have lz2:=gf zs;have pz:0 < zs.length:=by
  cases zs with
  |nil=>exact absurd rfl z0
  |cons _ _=>simp
 have er2:ers (zs.map D.str)=zs.map D.str:=Ev.fZ zs;have lf2:eS (zs.map D.str)=Δ:=Ev.fQ zs;have nl:e9 (.mth .split (.v 0) [.c (.str " ")])=Θ:=rfl;have sol:=gO;have soa:=hW;have owa:opB .add (.lst Δ [.str "is",.str "not",.str "begins",.str "least",.str "most",.str "has",.str "lacks",.str "in",.str "out",.str "",.str "007",.str "-0",.str "+1",.str "1_0",.str "1.0"]) (.lst Δ [.str "999999999",.str "1000000000",.str "-999999999",.str ".abcdefghi",.str ".a",.str ".",.str "abc",.str "-",.str "Is",.str "00",.str "0"])=.ok (.lst Δ (ow.map .str)):=ic;have owf:eS (ow.map D.str)=Δ:=Ev.fQ ow;obtain⟨sg,sga,sgl,sgx⟩:=jq (i:=c / 800 % ((103:Nat):Int)) (Int.emod_nonneg _ (by decide)) (Int.emod_lt_of_pos _ (by decide));have q0:((0:Int) == 0)=Δ:=rfl;have q1:((0:Int) == 1)=Θ:=rfl;have q2:((0:Int) == 2)=Θ:=rfl;have q3:((0:Int) == 3)=Θ:=rfl;have q4:((0:Int) == 4)=Θ:=rfl;have q5:((0:Int) == 5)=Θ:=rfl;have q6:((0:Int) == 6)=Θ:=rfl;have q7:((0:Int) == 7)=Θ:=rfl;obtain⟨at',hat⟩:∃a:Int,(c / 8 % ((x.length:Int)+1))=a:=⟨_,rfl⟩
 have s1:=sl_t (x:=x) (l:=Ξ) (u:=Γ at') (by omega);have l1:=slice_le x Ξ (Γ at');have s2:=sl_t (x:=x) (l:=Γ (at')) (u:=Ξ) (by omega);have l2:=slice_le x (Γ (at')) Ξ;generalize Txt.slice x Ξ (Γ at')=u,Txt.slice x (Γ (at')) Ξ=v at *;have a1:=rX (a:=u) (b:=sg) (by omega);have l3:(u++sg).length=u.length+sg.length:=strLen_append ..;generalize u++sg=u2 at *;have a2:=rX (a:=u2) (b:=v) (by omega);have l4:(u2++v).length=u2.length+v.length:=strLen_append ..;refine⟨u2++v,?_,by omega⟩;generalize u2++v=u3,so=SO,ow.map D.str=OW at *;rw[g9x 46 d46 2 9 b46 rfl rfl rfl rfl rfl rfl];unfold b46;simp -implicitDefEqProofs (disch:=omega) only[ev0,Nat.reduceBEq,Nat.reduceSub,Nat.reduceAdd,reduceIte,Ev.rs0,Ev.rss,Ev.c4,Ev.c5,↓Ev.fzI,↓Ev.fzS,↓Ev.fzN,Ev.rfn,Ev.rct,Ev.rcn,cond_true,cond_false,a_,List.map_nil,b_,List.nil_append,Bool.true_or,Bool.false_or,Ev.eG,Ev.eI,Ev.eJ,Ev.eK,Ev.di,Ev.dj,Ev.eP,Ev.eR,Ev.bW,Ev.aS,Ev.dw,Ev.dy,Ev.bX,Ev.bY,Ev.dv,Ev.bZ,Ev.aW,Ev.cq,Ev.av,Ev.aX,Ev.aY,Ev.aZ,Ev.cw,Ev.ax,Ev.a7,Ev.a8,Ev.cz,Ev.ay,Ev.a9,Ev.bc,Ev.bf,Ev.bg,Ev.bh,Ev.cE,Ev.az,Ev.bo,Ev.bq,Ev.br,Ev.aA,Ev.aB,Ev.cH,Ev.cI,Ev.aD,Ev.aE,Ev.aF,Ev.ae,Ev.ah,Ev.aG,Ev.bz,Ev.cP,Ev.cQ,Ev.bA,Ev.cR,Ev.cS,Ev.bC,Ev.ai,Ev.bD,Ev.cT,Ev.cU,Ev.bH,Ev.aK,Ev.aL,Ev.aN,Ev.bI,Ev.bJ,Ev.aP,Ev.bL,Ev.bM,Ev.cg,Ev.bO,Ev.cj,Ev.dz,Ev.cb,Ev.cn,Ev.r_c,Ev.r_g,Ev.r_v,Ev.cp,Ev.cu,Ev.aw,Ev.cy,Ev.dG,Ev.cA,Ev.cB,Ev.cC,Ev.cD,Ev.dH,Ev.bj,Ev.dI,Ev.dJ,Ev.dM,Ev.bp,Ev.dC,Ev.cF,Ev.cG,Ev.bt,Ev.dN,Ev.dO,Ev.bu,Ev.dP,Ev.dQ,Ev.dR,Ev.dS,Ev.aC,Ev.dU,Ev.cJ,Ev.dW,Ev.dX,Ev.t_t,Ev.o_v,Ev.o_tup,Ev.o_lst,Ev.o_ite,Ev.o_call,Ev.o_c,Ev.cK,Ev.cL,Ev.aH,Ev.cM,Ev.dY,Ev.cN,Ev.dZ,Ev.d3,Ev.bw,Ev.cO,Ev.bx,Ev.d4,Ev.d5,Ev.aI,Ev.bB,Ev.k_i,Ev.k_s,Ev.k_b,Ev.k_n,Ev.st_asg,Ev.bE,Ev.bF,Ev.st_app,Ev.st_ret,Ev.bG,Ev.aJ,Ev.aj,Ev.aM,Ev.ak,Ev.aO,Ev.cV,Ev.cf,Ev.cW,Ev.d6,Ev.st_if,Ev.st_for,Ev.d7,Ev.d8,Ev.cX,Ev.cY,Ev.cZ,Ev.c0,Ev.ed,Ev.c6,Ev.aU,Ev.bK,Ev.c7,Ev.eh,Ev.sl_t,Ev.ek,Ev.dD,Ev.dB,Ev.eo,Ev.eA,Ev.eB,Ev.dE,Ev.eC,Ev.eD,Ev.eE,Ev.c8,Ev.bN,Ev.n_n,Ev.n_i,Ev.n_s,Ev.n_t,Ev.eF,Ev.dF,Ev.c9,Ev.dg,Ev.aQ,Ev.aV,Ev.aR,Ev.au,Ev.bP,Ev.ao,Ev.af,Ev.dh,Ev.bQ,Ev.bR,Ev.bS,Ev.aq,Ev.ar,Ev.ag,Ev.dm,Ev.dn,Ev.dq,Ev.dr,Ev.dt,Ev.du,Ev.bT,Ev.bU,Ev.bV,Ev.eM,Ev.eN,Ev.eQ,Ev.b7,Ev.aT,Ev.b8,soa,owa,owf,sol,sga,sgx,nl,d1,hsp,er2,lf2,lz,hm,hat,s1,s2,a1,a2,q0,q1,q2,q3,q4,q5,q6,q7]
theorem ch1 (n:Nat)(x:Str)(c:Int)(hx:x.length<=1000)(hm:c % 8=1):∃y:Str,b9 T (n+1) 46 [.str x,.int c]=.ok (.str y)/\y.length<=3*x.length+20:=by
 obtain⟨zs,hz,z0,tz⟩:=gv x;have hs:Ε=16777216:=sizeLine_eq;have d1:decide ((Ο " ").length≠0/\x.length+2<=Ε)=Δ:=l_ ⟨by decide +kernel,by omega⟩;have hsp:(Txt.split x (Ο " ")).map D.str=zs.map .str:=by rw[hz]
 have lz:(zs.map D.str).length=zs.length:=h_ ..;have lz2:=gf zs;have pz:0 < zs.length:=by
  cases zs with
  |nil=>exact absurd rfl z0
  |cons _ _=>simp
 have er2:ers (zs.map D.str)=zs.map D.str:=Ev.fZ zs;have lf2:eS (zs.map D.str)=Δ:=Ev.fQ zs;have nl:e9 (.mth .split (.v 0) [.c (.str " ")])=Θ:=rfl;have sol:=gO;have soa:=hW;have owa:opB .add (.lst Δ [.str "is",.str "not",.str "begins",.str "least",.str "most",.str "has",.str "lacks",.str "in",.str "out",.str "",.str "007",.str "-0",.str "+1",.str "1_0",.str "1.0"]) (.lst Δ [.str "999999999",.str "1000000000",.str "-999999999",.str ".abcdefghi",.str ".a",.str ".",.str "abc",.str "-",.str "Is",.str "00",.str "0"])=.ok (.lst Δ (ow.map .str)):=ic;have owf:eS (ow.map D.str)=Δ:=Ev.fQ ow;obtain⟨sg,sga,sgl,sgx⟩:=jq (i:=c / 800 % ((103:Nat):Int)) (Int.emod_nonneg _ (by decide)) (Int.emod_lt_of_pos _ (by decide));have q0:((1:Int) == 0)=Θ:=rfl;have q1:((1:Int) == 1)=Δ:=rfl;have q2:((1:Int) == 2)=Θ:=rfl;have q3:((1:Int) == 3)=Θ:=rfl;have q4:((1:Int) == 4)=Θ:=rfl;have q5:((1:Int) == 5)=Θ:=rfl;have q6:((1:Int) == 6)=Θ:=rfl;have q7:((1:Int) == 7)=Θ:=rfl;obtain⟨at',hat⟩:∃a:Int,(c / 8 % ((x.length:Int)+1))=a:=⟨_,rfl⟩
 have s1:=sl_t (x:=x) (l:=Ξ) (u:=Γ at') (by omega);have l1:=slice_le x Ξ (Γ at');have s2:=sl_t (x:=x) (l:=Γ (at' + 1)) (u:=Ξ) (by omega);have l2:=slice_le x (Γ (at' + 1)) Ξ;generalize Txt.slice x Ξ (Γ at')=u,Txt.slice x (Γ (at' + 1)) Ξ=v at *;have a2:=rX (a:=u) (b:=v) (by omega);have l4:(u++v).length=u.length+v.length:=strLen_append ..;refine⟨u++v,?_,by omega⟩;generalize u++v=u3,so=SO,ow.map D.str=OW at *;rw[g9x 46 d46 2 9 b46 rfl rfl rfl rfl rfl rfl];unfold b46;simp -implicitDefEqProofs (disch:=omega) only[ev0,Nat.reduceBEq,Nat.reduceSub,Nat.reduceAdd,reduceIte,Ev.rs0,Ev.rss,Ev.c4,Ev.c5,↓Ev.fzI,↓Ev.fzS,↓Ev.fzN,Ev.rfn,Ev.rct,Ev.rcn,cond_true,cond_false,a_,List.map_nil,b_,List.nil_append,Bool.true_or,Bool.false_or,Ev.eG,Ev.eI,Ev.eJ,Ev.eK,Ev.di,Ev.dj,Ev.eP,Ev.eR,Ev.bW,Ev.aS,Ev.dw,Ev.dy,Ev.bX,Ev.bY,Ev.dv,Ev.bZ,Ev.aW,Ev.cq,Ev.av,Ev.aX,Ev.aY,Ev.aZ,Ev.cw,Ev.ax,Ev.a7,Ev.a8,Ev.cz,Ev.ay,Ev.a9,Ev.bc,Ev.bf,Ev.bg,Ev.bh,Ev.cE,Ev.az,Ev.bo,Ev.bq,Ev.br,Ev.aA,Ev.aB,Ev.cH,Ev.cI,Ev.aD,Ev.aE,Ev.aF,Ev.ae,Ev.ah,Ev.aG,Ev.bz,Ev.cP,Ev.cQ,Ev.bA,Ev.cR,Ev.cS,Ev.bC,Ev.ai,Ev.bD,Ev.cT,Ev.cU,Ev.bH,Ev.aK,Ev.aL,Ev.aN,Ev.bI,Ev.bJ,Ev.aP,Ev.bL,Ev.bM,Ev.cg,Ev.bO,Ev.cj,Ev.dz,Ev.cb,Ev.cn,Ev.r_c,Ev.r_g,Ev.r_v,Ev.cp,Ev.cu,Ev.aw,Ev.cy,Ev.dG,Ev.cA,Ev.cB,Ev.cC,Ev.cD,Ev.dH,Ev.bj,Ev.dI,Ev.dJ,Ev.dM,Ev.bp,Ev.dC,Ev.cF,Ev.cG,Ev.bt,Ev.dN,Ev.dO,Ev.bu,Ev.dP,Ev.dQ,Ev.dR,Ev.dS,Ev.aC,Ev.dU,Ev.cJ,Ev.dW,Ev.dX,Ev.t_t,Ev.o_v,Ev.o_tup,Ev.o_lst,Ev.o_ite,Ev.o_call,Ev.o_c,Ev.cK,Ev.cL,Ev.aH,Ev.cM,Ev.dY,Ev.cN,Ev.dZ,Ev.d3,Ev.bw,Ev.cO,Ev.bx,Ev.d4,Ev.d5,Ev.aI,Ev.bB,Ev.k_i,Ev.k_s,Ev.k_b,Ev.k_n,Ev.st_asg,Ev.bE,Ev.bF,Ev.st_app,Ev.st_ret,Ev.bG,Ev.aJ,Ev.aj,Ev.aM,Ev.ak,Ev.aO,Ev.cV,Ev.cf,Ev.cW,Ev.d6,Ev.st_if,Ev.st_for,Ev.d7,Ev.d8,Ev.cX,Ev.cY,Ev.cZ,Ev.c0,Ev.ed,Ev.c6,Ev.aU,Ev.bK,Ev.c7,Ev.eh,Ev.sl_t,Ev.ek,Ev.dD,Ev.dB,Ev.eo,Ev.eA,Ev.eB,Ev.dE,Ev.eC,Ev.eD,Ev.eE,Ev.c8,Ev.bN,Ev.n_n,Ev.n_i,Ev.n_s,Ev.n_t,Ev.eF,Ev.dF,Ev.c9,Ev.dg,Ev.aQ,Ev.aV,Ev.aR,Ev.au,Ev.bP,Ev.ao,Ev.af,Ev.dh,Ev.bQ,Ev.bR,Ev.bS,Ev.aq,Ev.ar,Ev.ag,Ev.dm,Ev.dn,Ev.dq,Ev.dr,Ev.dt,Ev.du,Ev.bT,Ev.bU,Ev.bV,Ev.eM,Ev.eN,Ev.eQ,Ev.b7,Ev.aT,Ev.b8,soa,owa,owf,sol,sga,sgx,nl,d1,hsp,er2,lf2,lz,hm,hat,s1,s2,a2,q0,q1,q2,q3,q4,q5,q6,q7]
theorem ch2 (n:Nat)(x:Str)(c:Int)(hx:x.length<=1000)(hm:c % 8=2):∃y:Str,b9 T (n+1) 46 [.str x,.int c]=.ok (.str y)/\y.length<=3*x.length+20:=by
 obtain⟨zs,hz,z0,tz⟩:=gv x;have hs:Ε=16777216:=sizeLine_eq;have d1:decide ((Ο " ").length≠0/\x.length+2<=Ε)=Δ:=l_ ⟨by decide +kernel,by omega⟩;have hsp:(Txt.split x (Ο " ")).map D.str=zs.map .str:=by rw[hz]
 have lz:(zs.map D.str).length=zs.length:=h_ ..;have lz2:=gf zs;have pz:0 < zs.length:=by
  cases zs with
  |nil=>exact absurd rfl z0
  |cons _ _=>simp
 have er2:ers (zs.map D.str)=zs.map D.str:=Ev.fZ zs;have lf2:eS (zs.map D.str)=Δ:=Ev.fQ zs;have nl:e9 (.mth .split (.v 0) [.c (.str " ")])=Θ:=rfl;have sol:=gO;have soa:=hW;have owa:opB .add (.lst Δ [.str "is",.str "not",.str "begins",.str "least",.str "most",.str "has",.str "lacks",.str "in",.str "out",.str "",.str "007",.str "-0",.str "+1",.str "1_0",.str "1.0"]) (.lst Δ [.str "999999999",.str "1000000000",.str "-999999999",.str ".abcdefghi",.str ".a",.str ".",.str "abc",.str "-",.str "Is",.str "00",.str "0"])=.ok (.lst Δ (ow.map .str)):=ic;have owf:eS (ow.map D.str)=Δ:=Ev.fQ ow;obtain⟨sg,sga,sgl,sgx⟩:=jq (i:=c / 800 % ((103:Nat):Int)) (Int.emod_nonneg _ (by decide)) (Int.emod_lt_of_pos _ (by decide));have q0:((2:Int) == 0)=Θ:=rfl;have q1:((2:Int) == 1)=Θ:=rfl;have q2:((2:Int) == 2)=Δ:=rfl;have q3:((2:Int) == 3)=Θ:=rfl;have q4:((2:Int) == 4)=Θ:=rfl;have q5:((2:Int) == 5)=Θ:=rfl;have q6:((2:Int) == 6)=Θ:=rfl;have q7:((2:Int) == 7)=Θ:=rfl;obtain⟨at',hat⟩:∃a:Int,(c / 8 % ((x.length:Int)+1))=a:=⟨_,rfl⟩
 have s1:=sl_t (x:=x) (l:=Ξ) (u:=Γ at') (by omega);have l1:=slice_le x Ξ (Γ at');have s2:=sl_t (x:=x) (l:=Γ (at' + 1)) (u:=Ξ) (by omega);have l2:=slice_le x (Γ (at' + 1)) Ξ;generalize Txt.slice x Ξ (Γ at')=u,Txt.slice x (Γ (at' + 1)) Ξ=v at *;have a1:=rX (a:=u) (b:=sg) (by omega);have l3:(u++sg).length=u.length+sg.length:=strLen_append ..;generalize u++sg=u2 at *;have a2:=rX (a:=u2) (b:=v) (by omega);have l4:(u2++v).length=u2.length+v.length:=strLen_append ..;refine⟨u2++v,?_,by omega⟩;generalize u2++v=u3,so=SO,ow.map D.str=OW at *;rw[g9x 46 d46 2 9 b46 rfl rfl rfl rfl rfl rfl];unfold b46;simp -implicitDefEqProofs (disch:=omega) only[ev0,Nat.reduceBEq,Nat.reduceSub,Nat.reduceAdd,reduceIte,Ev.rs0,Ev.rss,Ev.c4,Ev.c5,↓Ev.fzI,↓Ev.fzS,↓Ev.fzN,Ev.rfn,Ev.rct,Ev.rcn,cond_true,cond_false,a_,List.map_nil,b_,List.nil_append,Bool.true_or,Bool.false_or,Ev.eG,Ev.eI,Ev.eJ,Ev.eK,Ev.di,Ev.dj,Ev.eP,Ev.eR,Ev.bW,Ev.aS,Ev.dw,Ev.dy,Ev.bX,Ev.bY,Ev.dv,Ev.bZ,Ev.aW,Ev.cq,Ev.av,Ev.aX,Ev.aY,Ev.aZ,Ev.cw,Ev.ax,Ev.a7,Ev.a8,Ev.cz,Ev.ay,Ev.a9,Ev.bc,Ev.bf,Ev.bg,Ev.bh,Ev.cE,Ev.az,Ev.bo,Ev.bq,Ev.br,Ev.aA,Ev.aB,Ev.cH,Ev.cI,Ev.aD,Ev.aE,Ev.aF,Ev.ae,Ev.ah,Ev.aG,Ev.bz,Ev.cP,Ev.cQ,Ev.bA,Ev.cR,Ev.cS,Ev.bC,Ev.ai,Ev.bD,Ev.cT,Ev.cU,Ev.bH,Ev.aK,Ev.aL,Ev.aN,Ev.bI,Ev.bJ,Ev.aP,Ev.bL,Ev.bM,Ev.cg,Ev.bO,Ev.cj,Ev.dz,Ev.cb,Ev.cn,Ev.r_c,Ev.r_g,Ev.r_v,Ev.cp,Ev.cu,Ev.aw,Ev.cy,Ev.dG,Ev.cA,Ev.cB,Ev.cC,Ev.cD,Ev.dH,Ev.bj,Ev.dI,Ev.dJ,Ev.dM,Ev.bp,Ev.dC,Ev.cF,Ev.cG,Ev.bt,Ev.dN,Ev.dO,Ev.bu,Ev.dP,Ev.dQ,Ev.dR,Ev.dS,Ev.aC,Ev.dU,Ev.cJ,Ev.dW,Ev.dX,Ev.t_t,Ev.o_v,Ev.o_tup,Ev.o_lst,Ev.o_ite,Ev.o_call,Ev.o_c,Ev.cK,Ev.cL,Ev.aH,Ev.cM,Ev.dY,Ev.cN,Ev.dZ,Ev.d3,Ev.bw,Ev.cO,Ev.bx,Ev.d4,Ev.d5,Ev.aI,Ev.bB,Ev.k_i,Ev.k_s,Ev.k_b,Ev.k_n,Ev.st_asg,Ev.bE,Ev.bF,Ev.st_app,Ev.st_ret,Ev.bG,Ev.aJ,Ev.aj,Ev.aM,Ev.ak,Ev.aO,Ev.cV,Ev.cf,Ev.cW,Ev.d6,Ev.st_if,Ev.st_for,Ev.d7,Ev.d8,Ev.cX,Ev.cY,Ev.cZ,Ev.c0,Ev.ed,Ev.c6,Ev.aU,Ev.bK,Ev.c7,Ev.eh,Ev.sl_t,Ev.ek,Ev.dD,Ev.dB,Ev.eo,Ev.eA,Ev.eB,Ev.dE,Ev.eC,Ev.eD,Ev.eE,Ev.c8,Ev.bN,Ev.n_n,Ev.n_i,Ev.n_s,Ev.n_t,Ev.eF,Ev.dF,Ev.c9,Ev.dg,Ev.aQ,Ev.aV,Ev.aR,Ev.au,Ev.bP,Ev.ao,Ev.af,Ev.dh,Ev.bQ,Ev.bR,Ev.bS,Ev.aq,Ev.ar,Ev.ag,Ev.dm,Ev.dn,Ev.dq,Ev.dr,Ev.dt,Ev.du,Ev.bT,Ev.bU,Ev.bV,Ev.eM,Ev.eN,Ev.eQ,Ev.b7,Ev.aT,Ev.b8,soa,owa,owf,sol,sga,sgx,nl,d1,hsp,er2,lf2,lz,hm,hat,s1,s2,a1,a2,q0,q1,q2,q3,q4,q5,q6,q7]
theorem ch3 (n:Nat)(x:Str)(c:Int)(hx:x.length<=1000)(hm:c % 8=3):∃y:Str,b9 T (n+1) 46 [.str x,.int c]=.ok (.str y)/\y.length<=3*x.length+20:=by
 obtain⟨zs,hz,z0,tz⟩:=gv x;have hs:Ε=16777216:=sizeLine_eq;have d1:decide ((Ο " ").length≠0/\x.length+2<=Ε)=Δ:=l_ ⟨by decide +kernel,by omega⟩;have hsp:(Txt.split x (Ο " ")).map D.str=zs.map .str:=by rw[hz]
 have lz:(zs.map D.str).length=zs.length:=h_ ..;have lz2:=gf zs;have pz:0 < zs.length:=by
  cases zs with
  |nil=>exact absurd rfl z0
  |cons _ _=>simp
 have er2:ers (zs.map D.str)=zs.map D.str:=Ev.fZ zs;have lf2:eS (zs.map D.str)=Δ:=Ev.fQ zs;have nl:e9 (.mth .split (.v 0) [.c (.str " ")])=Θ:=rfl;have sol:=gO;have soa:=hW;have owa:opB .add (.lst Δ [.str "is",.str "not",.str "begins",.str "least",.str "most",.str "has",.str "lacks",.str "in",.str "out",.str "",.str "007",.str "-0",.str "+1",.str "1_0",.str "1.0"]) (.lst Δ [.str "999999999",.str "1000000000",.str "-999999999",.str ".abcdefghi",.str ".a",.str ".",.str "abc",.str "-",.str "Is",.str "00",.str "0"])=.ok (.lst Δ (ow.map .str)):=ic;have owf:eS (ow.map D.str)=Δ:=Ev.fQ ow;obtain⟨sg,sga,sgl,sgx⟩:=jq (i:=c / 800 % ((103:Nat):Int)) (Int.emod_nonneg _ (by decide)) (Int.emod_lt_of_pos _ (by decide));have q0:((3:Int) == 0)=Θ:=rfl;have q1:((3:Int) == 1)=Θ:=rfl;have q2:((3:Int) == 2)=Θ:=rfl;have q3:((3:Int) == 3)=Δ:=rfl;have q4:((3:Int) == 4)=Θ:=rfl;have q5:((3:Int) == 5)=Θ:=rfl;have q6:((3:Int) == 6)=Θ:=rfl;have q7:((3:Int) == 7)=Θ:=rfl;obtain⟨sp',hsp'⟩:∃a:Int,(c / 8 % (zs.length:Int))=a:=⟨_,rfl⟩
 obtain⟨at',hat⟩:∃a:Int,(c / 8 % ((x.length:Int)+1))=a:=⟨_,rfl⟩
 have kA:=fun o=>ju (o:=o) (a:=zs) (l:=Ξ) (u:=Γ sp');have tA:=fX zs (Ξ) (Γ sp');generalize fR zs (Ξ) (Γ sp')=A at *;have kB:=fun o=>ju (o:=o) (a:=zs) (l:=Γ sp') (u:=Γ (sp' + 1));have tB:=fX zs (Γ sp') (Γ (sp' + 1));generalize fR zs (Γ sp') (Γ (sp' + 1))=B at *;have kC:=fun o=>ju (o:=o) (a:=zs) (l:=Γ sp') (u:=Ξ);have tC:=fX zs (Γ sp') (Ξ);generalize fR zs (Γ sp') (Ξ)=C at *;have a1:=fun o o'=>l0 (o:=o) (o':=o') (a:=A) (b:=B) (by omega);have ta1:=fW (A) (B);generalize A++B=P1 at *;have lf1':eS (P1.map D.str)=Δ:=Ev.fQ _;have a2:=fun o o'=>l0 (o:=o) (o':=o') (a:=P1) (b:=C) (by omega);have ta2:=fW (P1) (C);generalize P1++C=P2 at *;have lf2':eS (P2.map D.str)=Δ:=Ev.fQ _;obtain⟨y,ej,ly⟩:=joined (o:=Δ) P2 (by omega);refine⟨y,?_,by omega⟩;generalize so=SO,ow.map D.str=OW at *;rw[g9x 46 d46 2 9 b46 rfl rfl rfl rfl rfl rfl];unfold b46;simp -implicitDefEqProofs (disch:=omega) only[ev0,Nat.reduceBEq,Nat.reduceSub,Nat.reduceAdd,reduceIte,Ev.rs0,Ev.rss,Ev.c4,Ev.c5,↓Ev.fzI,↓Ev.fzS,↓Ev.fzN,Ev.rfn,Ev.rct,Ev.rcn,cond_true,cond_false,a_,List.map_nil,b_,List.nil_append,Bool.true_or,Bool.false_or,Ev.eG,Ev.eI,Ev.eJ,Ev.eK,Ev.di,Ev.dj,Ev.eP,Ev.eR,Ev.bW,Ev.aS,Ev.dw,Ev.dy,Ev.bX,Ev.bY,Ev.dv,Ev.bZ,Ev.aW,Ev.cq,Ev.av,Ev.aX,Ev.aY,Ev.aZ,Ev.cw,Ev.ax,Ev.a7,Ev.a8,Ev.cz,Ev.ay,Ev.a9,Ev.bc,Ev.bf,Ev.bg,Ev.bh,Ev.cE,Ev.az,Ev.bo,Ev.bq,Ev.br,Ev.aA,Ev.aB,Ev.cH,Ev.cI,Ev.aD,Ev.aE,Ev.aF,Ev.ae,Ev.ah,Ev.aG,Ev.bz,Ev.cP,Ev.cQ,Ev.bA,Ev.cR,Ev.cS,Ev.bC,Ev.ai,Ev.bD,Ev.cT,Ev.cU,Ev.bH,Ev.aK,Ev.aL,Ev.aN,Ev.bI,Ev.bJ,Ev.aP,Ev.bL,Ev.bM,Ev.cg,Ev.bO,Ev.cj,Ev.dz,Ev.cb,Ev.cn,Ev.r_c,Ev.r_g,Ev.r_v,Ev.cp,Ev.cu,Ev.aw,Ev.cy,Ev.dG,Ev.cA,Ev.cB,Ev.cC,Ev.cD,Ev.dH,Ev.bj,Ev.dI,Ev.dJ,Ev.dM,Ev.bp,Ev.dC,Ev.cF,Ev.cG,Ev.bt,Ev.dN,Ev.dO,Ev.bu,Ev.dP,Ev.dQ,Ev.dR,Ev.dS,Ev.aC,Ev.dU,Ev.cJ,Ev.dW,Ev.dX,Ev.t_t,Ev.o_v,Ev.o_tup,Ev.o_lst,Ev.o_ite,Ev.o_call,Ev.o_c,Ev.cK,Ev.cL,Ev.aH,Ev.cM,Ev.dY,Ev.cN,Ev.dZ,Ev.d3,Ev.bw,Ev.cO,Ev.bx,Ev.d4,Ev.d5,Ev.aI,Ev.bB,Ev.k_i,Ev.k_s,Ev.k_b,Ev.k_n,Ev.st_asg,Ev.bE,Ev.bF,Ev.st_app,Ev.st_ret,Ev.bG,Ev.aJ,Ev.aj,Ev.aM,Ev.ak,Ev.aO,Ev.cV,Ev.cf,Ev.cW,Ev.d6,Ev.st_if,Ev.st_for,Ev.d7,Ev.d8,Ev.cX,Ev.cY,Ev.cZ,Ev.c0,Ev.ed,Ev.c6,Ev.aU,Ev.bK,Ev.c7,Ev.eh,Ev.sl_t,Ev.ek,Ev.dD,Ev.dB,Ev.eo,Ev.eA,Ev.eB,Ev.dE,Ev.eC,Ev.eD,Ev.eE,Ev.c8,Ev.bN,Ev.n_n,Ev.n_i,Ev.n_s,Ev.n_t,Ev.eF,Ev.dF,Ev.c9,Ev.dg,Ev.aQ,Ev.aV,Ev.aR,Ev.au,Ev.bP,Ev.ao,Ev.af,Ev.dh,Ev.bQ,Ev.bR,Ev.bS,Ev.aq,Ev.ar,Ev.ag,Ev.dm,Ev.dn,Ev.dq,Ev.dr,Ev.dt,Ev.du,Ev.bT,Ev.bU,Ev.bV,Ev.eM,Ev.eN,Ev.eQ,Ev.b7,Ev.aT,Ev.b8,soa,owa,owf,sol,sga,sgx,nl,d1,hsp,er2,lf2,lz,hm,hat,hsp',kA Θ,kB Θ,kC Θ,a1 Δ Δ,lf1',a2 Δ Δ,lf2',ej,q0,q1,q2,q3,q4,q5,q6,q7]
theorem ch4 (n:Nat)(x:Str)(c:Int)(hx:x.length<=1000)(hm:c % 8=4):∃y:Str,b9 T (n+1) 46 [.str x,.int c]=.ok (.str y)/\y.length<=3*x.length+20:=by
 obtain⟨zs,hz,z0,tz⟩:=gv x;have hs:Ε=16777216:=sizeLine_eq;have d1:decide ((Ο " ").length≠0/\x.length+2<=Ε)=Δ:=l_ ⟨by decide +kernel,by omega⟩;have hsp:(Txt.split x (Ο " ")).map D.str=zs.map .str:=by rw[hz]
 have lz:(zs.map D.str).length=zs.length:=h_ ..;have lz2:=gf zs;have pz:0 < zs.length:=by
  cases zs with
  |nil=>exact absurd rfl z0
  |cons _ _=>simp
 have er2:ers (zs.map D.str)=zs.map D.str:=Ev.fZ zs;have lf2:eS (zs.map D.str)=Δ:=Ev.fQ zs;have nl:e9 (.mth .split (.v 0) [.c (.str " ")])=Θ:=rfl;have sol:=gO;have soa:=hW;have owa:opB .add (.lst Δ [.str "is",.str "not",.str "begins",.str "least",.str "most",.str "has",.str "lacks",.str "in",.str "out",.str "",.str "007",.str "-0",.str "+1",.str "1_0",.str "1.0"]) (.lst Δ [.str "999999999",.str "1000000000",.str "-999999999",.str ".abcdefghi",.str ".a",.str ".",.str "abc",.str "-",.str "Is",.str "00",.str "0"])=.ok (.lst Δ (ow.map .str)):=ic;have owf:eS (ow.map D.str)=Δ:=Ev.fQ ow;obtain⟨sg,sga,sgl,sgx⟩:=jq (i:=c / 800 % ((103:Nat):Int)) (Int.emod_nonneg _ (by decide)) (Int.emod_lt_of_pos _ (by decide));have q0:((4:Int) == 0)=Θ:=rfl;have q1:((4:Int) == 1)=Θ:=rfl;have q2:((4:Int) == 2)=Θ:=rfl;have q3:((4:Int) == 3)=Θ:=rfl;have q4:((4:Int) == 4)=Δ:=rfl;have q5:((4:Int) == 5)=Θ:=rfl;have q6:((4:Int) == 6)=Θ:=rfl;have q7:((4:Int) == 7)=Θ:=rfl;obtain⟨sp',hsp'⟩:∃a:Int,(c / 8 % (zs.length:Int))=a:=⟨_,rfl⟩
 obtain⟨at',hat⟩:∃a:Int,(c / 8 % ((x.length:Int)+1))=a:=⟨_,rfl⟩
 have kA:=fun o=>ju (o:=o) (a:=zs) (l:=Ξ) (u:=Γ sp');have tA:=fX zs (Ξ) (Γ sp');generalize fR zs (Ξ) (Γ sp')=A at *;have kC:=fun o=>ju (o:=o) (a:=zs) (l:=Γ (sp' + 1)) (u:=Ξ);have tC:=fX zs (Γ (sp' + 1)) (Ξ);generalize fR zs (Γ (sp' + 1)) (Ξ)=C at *;have a1:=fun o o'=>l0 (o:=o) (o':=o') (a:=A) (b:=C) (by omega);have ta1:=fW (A) (C);generalize A++C=P1 at *;have lf1':eS (P1.map D.str)=Δ:=Ev.fQ _;obtain⟨y,ej,ly⟩:=joined (o:=Δ) P1 (by omega);refine⟨y,?_,by omega⟩;generalize so=SO,ow.map D.str=OW at *;rw[g9x 46 d46 2 9 b46 rfl rfl rfl rfl rfl rfl];unfold b46;simp -implicitDefEqProofs (disch:=omega) only[ev0,Nat.reduceBEq,Nat.reduceSub,Nat.reduceAdd,reduceIte,Ev.rs0,Ev.rss,Ev.c4,Ev.c5,↓Ev.fzI,↓Ev.fzS,↓Ev.fzN,Ev.rfn,Ev.rct,Ev.rcn,cond_true,cond_false,a_,List.map_nil,b_,List.nil_append,Bool.true_or,Bool.false_or,Ev.eG,Ev.eI,Ev.eJ,Ev.eK,Ev.di,Ev.dj,Ev.eP,Ev.eR,Ev.bW,Ev.aS,Ev.dw,Ev.dy,Ev.bX,Ev.bY,Ev.dv,Ev.bZ,Ev.aW,Ev.cq,Ev.av,Ev.aX,Ev.aY,Ev.aZ,Ev.cw,Ev.ax,Ev.a7,Ev.a8,Ev.cz,Ev.ay,Ev.a9,Ev.bc,Ev.bf,Ev.bg,Ev.bh,Ev.cE,Ev.az,Ev.bo,Ev.bq,Ev.br,Ev.aA,Ev.aB,Ev.cH,Ev.cI,Ev.aD,Ev.aE,Ev.aF,Ev.ae,Ev.ah,Ev.aG,Ev.bz,Ev.cP,Ev.cQ,Ev.bA,Ev.cR,Ev.cS,Ev.bC,Ev.ai,Ev.bD,Ev.cT,Ev.cU,Ev.bH,Ev.aK,Ev.aL,Ev.aN,Ev.bI,Ev.bJ,Ev.aP,Ev.bL,Ev.bM,Ev.cg,Ev.bO,Ev.cj,Ev.dz,Ev.cb,Ev.cn,Ev.r_c,Ev.r_g,Ev.r_v,Ev.cp,Ev.cu,Ev.aw,Ev.cy,Ev.dG,Ev.cA,Ev.cB,Ev.cC,Ev.cD,Ev.dH,Ev.bj,Ev.dI,Ev.dJ,Ev.dM,Ev.bp,Ev.dC,Ev.cF,Ev.cG,Ev.bt,Ev.dN,Ev.dO,Ev.bu,Ev.dP,Ev.dQ,Ev.dR,Ev.dS,Ev.aC,Ev.dU,Ev.cJ,Ev.dW,Ev.dX,Ev.t_t,Ev.o_v,Ev.o_tup,Ev.o_lst,Ev.o_ite,Ev.o_call,Ev.o_c,Ev.cK,Ev.cL,Ev.aH,Ev.cM,Ev.dY,Ev.cN,Ev.dZ,Ev.d3,Ev.bw,Ev.cO,Ev.bx,Ev.d4,Ev.d5,Ev.aI,Ev.bB,Ev.k_i,Ev.k_s,Ev.k_b,Ev.k_n,Ev.st_asg,Ev.bE,Ev.bF,Ev.st_app,Ev.st_ret,Ev.bG,Ev.aJ,Ev.aj,Ev.aM,Ev.ak,Ev.aO,Ev.cV,Ev.cf,Ev.cW,Ev.d6,Ev.st_if,Ev.st_for,Ev.d7,Ev.d8,Ev.cX,Ev.cY,Ev.cZ,Ev.c0,Ev.ed,Ev.c6,Ev.aU,Ev.bK,Ev.c7,Ev.eh,Ev.sl_t,Ev.ek,Ev.dD,Ev.dB,Ev.eo,Ev.eA,Ev.eB,Ev.dE,Ev.eC,Ev.eD,Ev.eE,Ev.c8,Ev.bN,Ev.n_n,Ev.n_i,Ev.n_s,Ev.n_t,Ev.eF,Ev.dF,Ev.c9,Ev.dg,Ev.aQ,Ev.aV,Ev.aR,Ev.au,Ev.bP,Ev.ao,Ev.af,Ev.dh,Ev.bQ,Ev.bR,Ev.bS,Ev.aq,Ev.ar,Ev.ag,Ev.dm,Ev.dn,Ev.dq,Ev.dr,Ev.dt,Ev.du,Ev.bT,Ev.bU,Ev.bV,Ev.eM,Ev.eN,Ev.eQ,Ev.b7,Ev.aT,Ev.b8,soa,owa,owf,sol,sga,sgx,nl,d1,hsp,er2,lf2,lz,hm,hat,hsp',kA Θ,kC Θ,a1 Δ Δ,lf1',ej,q0,q1,q2,q3,q4,q5,q6,q7]
theorem ch5 (n:Nat)(x:Str)(c:Int)(hx:x.length<=1000)(hm:c % 8=5):∃y:Str,b9 T (n+1) 46 [.str x,.int c]=.ok (.str y)/\y.length<=3*x.length+20:=by
 obtain⟨zs,hz,z0,tz⟩:=gv x;have hs:Ε=16777216:=sizeLine_eq;have d1:decide ((Ο " ").length≠0/\x.length+2<=Ε)=Δ:=l_ ⟨by decide +kernel,by omega⟩;have hsp:(Txt.split x (Ο " ")).map D.str=zs.map .str:=by rw[hz]
 have lz:(zs.map D.str).length=zs.length:=h_ ..;have lz2:=gf zs;have pz:0 < zs.length:=by
  cases zs with
  |nil=>exact absurd rfl z0
  |cons _ _=>simp
 have er2:ers (zs.map D.str)=zs.map D.str:=Ev.fZ zs;have lf2:eS (zs.map D.str)=Δ:=Ev.fQ zs;have nl:e9 (.mth .split (.v 0) [.c (.str " ")])=Θ:=rfl;have sol:=gO;have soa:=hW;have owa:opB .add (.lst Δ [.str "is",.str "not",.str "begins",.str "least",.str "most",.str "has",.str "lacks",.str "in",.str "out",.str "",.str "007",.str "-0",.str "+1",.str "1_0",.str "1.0"]) (.lst Δ [.str "999999999",.str "1000000000",.str "-999999999",.str ".abcdefghi",.str ".a",.str ".",.str "abc",.str "-",.str "Is",.str "00",.str "0"])=.ok (.lst Δ (ow.map .str)):=ic;have owf:eS (ow.map D.str)=Δ:=Ev.fQ ow;obtain⟨sg,sga,sgl,sgx⟩:=jq (i:=c / 800 % ((103:Nat):Int)) (Int.emod_nonneg _ (by decide)) (Int.emod_lt_of_pos _ (by decide));have q0:((5:Int) == 0)=Θ:=rfl;have q1:((5:Int) == 1)=Θ:=rfl;have q2:((5:Int) == 2)=Θ:=rfl;have q3:((5:Int) == 3)=Θ:=rfl;have q4:((5:Int) == 4)=Θ:=rfl;have q5:((5:Int) == 5)=Δ:=rfl;have q6:((5:Int) == 6)=Θ:=rfl;have q7:((5:Int) == 7)=Θ:=rfl;obtain⟨sp',hsp'⟩:∃a:Int,(c / 8 % (zs.length:Int))=a:=⟨_,rfl⟩
 obtain⟨at',hat⟩:∃a:Int,(c / 8 % ((x.length:Int)+1))=a:=⟨_,rfl⟩
 have kR:=fun o=>ju (o:=o) (a:=zs) (l:=Γ sp') (u:=Γ (sp' + 2));have tR:=fX zs (Γ sp') (Γ (sp' + 2));generalize fR zs (Γ sp') (Γ (sp' + 2))=R at *;have rv:qh (.lst Δ (R.map .str))=.ok (.lst Δ (R.reverse.map .str)):=by rw[Ev.dC,List.map_reverse]
 have tR':=ue R;have rlf:eS (R.reverse.map D.str)=Δ:=Ev.fQ _;have rer:ers (R.reverse.map D.str)=R.reverse.map D.str:=Ev.fZ _;generalize R.reverse=RR at *;have kA:=fun o=>ju (o:=o) (a:=zs) (l:=Ξ) (u:=Γ sp');have tA:=fX zs (Ξ) (Γ sp');generalize fR zs (Ξ) (Γ sp')=A at *;have kC:=fun o=>ju (o:=o) (a:=zs) (l:=Γ (sp' + 2)) (u:=Ξ);have tC:=fX zs (Γ (sp' + 2)) (Ξ);generalize fR zs (Γ (sp' + 2)) (Ξ)=C at *;have nr:e9 (.lrev (.sl (.v 6) (Γ (.v 7)) (Γ (.bin .add (.v 7) (.c (.int 2))))))=Θ:=rfl;have vr:vars (.lrev (.sl (.v 6) (Γ (.v 7)) (Γ (.bin .add (.v 7) (.c (.int 2))))))=[6,7,7]:=rfl;have a1:=fun o o'=>l0 (o:=o) (o':=o') (a:=A) (b:=RR) (by omega);have ta1:=fW (A) (RR);generalize A++RR=P1 at *;have lf1':eS (P1.map D.str)=Δ:=Ev.fQ _;have a2:=fun o o'=>l0 (o:=o) (o':=o') (a:=P1) (b:=C) (by omega);have ta2:=fW (P1) (C);generalize P1++C=P2 at *;have lf2':eS (P2.map D.str)=Δ:=Ev.fQ _;obtain⟨y,ej,ly⟩:=joined (o:=Δ) P2 (by omega);refine⟨y,?_,by omega⟩;generalize so=SO,ow.map D.str=OW at *;rw[g9x 46 d46 2 9 b46 rfl rfl rfl rfl rfl rfl];unfold b46;simp -implicitDefEqProofs (disch:=omega) only[ev0,Nat.reduceBEq,Nat.reduceSub,Nat.reduceAdd,reduceIte,Ev.rs0,Ev.rss,Ev.c4,Ev.c5,↓Ev.fzI,↓Ev.fzS,↓Ev.fzN,Ev.rfn,Ev.rct,Ev.rcn,cond_true,cond_false,a_,List.map_nil,b_,List.nil_append,Bool.true_or,Bool.false_or,Ev.eG,Ev.eI,Ev.eJ,Ev.eK,Ev.di,Ev.dj,Ev.eP,Ev.eR,Ev.bW,Ev.aS,Ev.dw,Ev.dy,Ev.bX,Ev.bY,Ev.dv,Ev.bZ,Ev.aW,Ev.cq,Ev.av,Ev.aX,Ev.aY,Ev.aZ,Ev.cw,Ev.ax,Ev.a7,Ev.a8,Ev.cz,Ev.ay,Ev.a9,Ev.bc,Ev.bf,Ev.bg,Ev.bh,Ev.cE,Ev.az,Ev.bo,Ev.bq,Ev.br,Ev.aA,Ev.aB,Ev.cH,Ev.cI,Ev.aD,Ev.aE,Ev.aF,Ev.ae,Ev.ah,Ev.aG,Ev.bz,Ev.cP,Ev.cQ,Ev.bA,Ev.cR,Ev.cS,Ev.bC,Ev.ai,Ev.bD,Ev.cT,Ev.cU,Ev.bH,Ev.aK,Ev.aL,Ev.aN,Ev.bI,Ev.bJ,Ev.aP,Ev.bL,Ev.bM,Ev.cg,Ev.bO,Ev.cj,Ev.dz,Ev.cb,Ev.cn,Ev.r_c,Ev.r_g,Ev.r_v,Ev.cp,Ev.cu,Ev.aw,Ev.cy,Ev.dG,Ev.cA,Ev.cB,Ev.cC,Ev.cD,Ev.dH,Ev.bj,Ev.dI,Ev.dJ,Ev.dM,Ev.bp,Ev.dC,Ev.cF,Ev.cG,Ev.bt,Ev.dN,Ev.dO,Ev.bu,Ev.dP,Ev.dQ,Ev.dR,Ev.dS,Ev.aC,Ev.dU,Ev.cJ,Ev.dW,Ev.dX,Ev.t_t,Ev.o_v,Ev.o_tup,Ev.o_lst,Ev.o_ite,Ev.o_call,Ev.o_c,Ev.cK,Ev.cL,Ev.aH,Ev.cM,Ev.dY,Ev.cN,Ev.dZ,Ev.d3,Ev.bw,Ev.cO,Ev.bx,Ev.d4,Ev.d5,Ev.aI,Ev.bB,Ev.k_i,Ev.k_s,Ev.k_b,Ev.k_n,Ev.st_asg,Ev.bE,Ev.bF,Ev.st_app,Ev.st_ret,Ev.bG,Ev.aJ,Ev.aj,Ev.aM,Ev.ak,Ev.aO,Ev.cV,Ev.cf,Ev.cW,Ev.d6,Ev.st_if,Ev.st_for,Ev.d7,Ev.d8,Ev.cX,Ev.cY,Ev.cZ,Ev.c0,Ev.ed,Ev.c6,Ev.aU,Ev.bK,Ev.c7,Ev.eh,Ev.sl_t,Ev.ek,Ev.dD,Ev.dB,Ev.eo,Ev.eA,Ev.eB,Ev.dE,Ev.eC,Ev.eD,Ev.eE,Ev.c8,Ev.bN,Ev.n_n,Ev.n_i,Ev.n_s,Ev.n_t,Ev.eF,Ev.dF,Ev.c9,Ev.dg,Ev.aQ,Ev.aV,Ev.aR,Ev.au,Ev.bP,Ev.ao,Ev.af,Ev.dh,Ev.bQ,Ev.bR,Ev.bS,Ev.aq,Ev.ar,Ev.ag,Ev.dm,Ev.dn,Ev.dq,Ev.dr,Ev.dt,Ev.du,Ev.bT,Ev.bU,Ev.bV,Ev.eM,Ev.eN,Ev.eQ,Ev.b7,Ev.aT,Ev.b8,soa,owa,owf,sol,sga,sgx,nl,d1,hsp,er2,lf2,lz,hm,hat,hsp',kR Θ,rv,rlf,rer,kA Θ,kC Θ,nr,vr,a1 Δ Θ,lf1',a2 Δ Δ,lf2',ej,q0,q1,q2,q3,q4,q5,q6,q7]
theorem ch6 (n:Nat)(x:Str)(c:Int)(hx:x.length<=1000)(hm:c % 8=6):∃y:Str,b9 T (n+1) 46 [.str x,.int c]=.ok (.str y)/\y.length<=3*x.length+20:=by
 obtain⟨zs,hz,z0,tz⟩:=gv x;have hs:Ε=16777216:=sizeLine_eq;have d1:decide ((Ο " ").length≠0/\x.length+2<=Ε)=Δ:=l_ ⟨by decide +kernel,by omega⟩;have hsp:(Txt.split x (Ο " ")).map D.str=zs.map .str:=by rw[hz]
 have lz:(zs.map D.str).length=zs.length:=h_ ..;have lz2:=gf zs;have pz:0 < zs.length:=by
  cases zs with
  |nil=>exact absurd rfl z0
  |cons _ _=>simp
 have er2:ers (zs.map D.str)=zs.map D.str:=Ev.fZ zs;have lf2:eS (zs.map D.str)=Δ:=Ev.fQ zs;have nl:e9 (.mth .split (.v 0) [.c (.str " ")])=Θ:=rfl;have sol:=gO;have soa:=hW;have owa:opB .add (.lst Δ [.str "is",.str "not",.str "begins",.str "least",.str "most",.str "has",.str "lacks",.str "in",.str "out",.str "",.str "007",.str "-0",.str "+1",.str "1_0",.str "1.0"]) (.lst Δ [.str "999999999",.str "1000000000",.str "-999999999",.str ".abcdefghi",.str ".a",.str ".",.str "abc",.str "-",.str "Is",.str "00",.str "0"])=.ok (.lst Δ (ow.map .str)):=ic;have owf:eS (ow.map D.str)=Δ:=Ev.fQ ow;obtain⟨sg,sga,sgl,sgx⟩:=jq (i:=c / 800 % ((103:Nat):Int)) (Int.emod_nonneg _ (by decide)) (Int.emod_lt_of_pos _ (by decide));have q0:((6:Int) == 0)=Θ:=rfl;have q1:((6:Int) == 1)=Θ:=rfl;have q2:((6:Int) == 2)=Θ:=rfl;have q3:((6:Int) == 3)=Θ:=rfl;have q4:((6:Int) == 4)=Θ:=rfl;have q5:((6:Int) == 5)=Θ:=rfl;have q6:((6:Int) == 6)=Δ:=rfl;have q7:((6:Int) == 7)=Θ:=rfl;obtain⟨sp',hsp'⟩:∃a:Int,(c / 8 % (zs.length:Int))=a:=⟨_,rfl⟩
 obtain⟨at',hat⟩:∃a:Int,(c / 8 % ((x.length:Int)+1))=a:=⟨_,rfl⟩
 obtain⟨oy,oya,oyl⟩:=uU (o:=Δ) (i:=c / 80 % 26) (Int.emod_nonneg _ (by decide)) (Int.emod_lt_of_pos _ (by decide));have tO:tot [oy]=oy.length+1:=rfl;have kA:=fun o=>ju (o:=o) (a:=zs) (l:=Ξ) (u:=Γ sp');have tA:=fX zs (Ξ) (Γ sp');generalize fR zs (Ξ) (Γ sp')=A at *;have kC:=fun o=>ju (o:=o) (a:=zs) (l:=Γ (sp' + 1)) (u:=Ξ);have tC:=fX zs (Γ (sp' + 1)) (Ξ);generalize fR zs (Γ (sp' + 1)) (Ξ)=C at *;have a1:=fun o o'=>l0 (o:=o) (o':=o') (a:=A) (b:=[oy]) (by omega);have ta1:=fW (A) ([oy]);rw[show([oy].map D.str)=[D.str oy] from rfl]at a1;generalize A++[oy]=P1 at *;have lf1':eS (P1.map D.str)=Δ:=Ev.fQ _;have a2:=fun o o'=>l0 (o:=o) (o':=o') (a:=P1) (b:=C) (by omega);have ta2:=fW (P1) (C);generalize P1++C=P2 at *;have lf2':eS (P2.map D.str)=Δ:=Ev.fQ _;obtain⟨y,ej,ly⟩:=joined (o:=Δ) P2 (by omega);refine⟨y,?_,by omega⟩;generalize so=SO,ow.map D.str=OW at *;rw[g9x 46 d46 2 9 b46 rfl rfl rfl rfl rfl rfl];unfold b46;simp -implicitDefEqProofs (disch:=omega) only[ev0,Nat.reduceBEq,Nat.reduceSub,Nat.reduceAdd,reduceIte,Ev.rs0,Ev.rss,Ev.c4,Ev.c5,↓Ev.fzI,↓Ev.fzS,↓Ev.fzN,Ev.rfn,Ev.rct,Ev.rcn,cond_true,cond_false,a_,List.map_nil,b_,List.nil_append,Bool.true_or,Bool.false_or,Ev.eG,Ev.eI,Ev.eJ,Ev.eK,Ev.di,Ev.dj,Ev.eP,Ev.eR,Ev.bW,Ev.aS,Ev.dw,Ev.dy,Ev.bX,Ev.bY,Ev.dv,Ev.bZ,Ev.aW,Ev.cq,Ev.av,Ev.aX,Ev.aY,Ev.aZ,Ev.cw,Ev.ax,Ev.a7,Ev.a8,Ev.cz,Ev.ay,Ev.a9,Ev.bc,Ev.bf,Ev.bg,Ev.bh,Ev.cE,Ev.az,Ev.bo,Ev.bq,Ev.br,Ev.aA,Ev.aB,Ev.cH,Ev.cI,Ev.aD,Ev.aE,Ev.aF,Ev.ae,Ev.ah,Ev.aG,Ev.bz,Ev.cP,Ev.cQ,Ev.bA,Ev.cR,Ev.cS,Ev.bC,Ev.ai,Ev.bD,Ev.cT,Ev.cU,Ev.bH,Ev.aK,Ev.aL,Ev.aN,Ev.bI,Ev.bJ,Ev.aP,Ev.bL,Ev.bM,Ev.cg,Ev.bO,Ev.cj,Ev.dz,Ev.cb,Ev.cn,Ev.r_c,Ev.r_g,Ev.r_v,Ev.cp,Ev.cu,Ev.aw,Ev.cy,Ev.dG,Ev.cA,Ev.cB,Ev.cC,Ev.cD,Ev.dH,Ev.bj,Ev.dI,Ev.dJ,Ev.dM,Ev.bp,Ev.dC,Ev.cF,Ev.cG,Ev.bt,Ev.dN,Ev.dO,Ev.bu,Ev.dP,Ev.dQ,Ev.dR,Ev.dS,Ev.aC,Ev.dU,Ev.cJ,Ev.dW,Ev.dX,Ev.t_t,Ev.o_v,Ev.o_tup,Ev.o_lst,Ev.o_ite,Ev.o_call,Ev.o_c,Ev.cK,Ev.cL,Ev.aH,Ev.cM,Ev.dY,Ev.cN,Ev.dZ,Ev.d3,Ev.bw,Ev.cO,Ev.bx,Ev.d4,Ev.d5,Ev.aI,Ev.bB,Ev.k_i,Ev.k_s,Ev.k_b,Ev.k_n,Ev.st_asg,Ev.bE,Ev.bF,Ev.st_app,Ev.st_ret,Ev.bG,Ev.aJ,Ev.aj,Ev.aM,Ev.ak,Ev.aO,Ev.cV,Ev.cf,Ev.cW,Ev.d6,Ev.st_if,Ev.st_for,Ev.d7,Ev.d8,Ev.cX,Ev.cY,Ev.cZ,Ev.c0,Ev.ed,Ev.c6,Ev.aU,Ev.bK,Ev.c7,Ev.eh,Ev.sl_t,Ev.ek,Ev.dD,Ev.dB,Ev.eo,Ev.eA,Ev.eB,Ev.dE,Ev.eC,Ev.eD,Ev.eE,Ev.c8,Ev.bN,Ev.n_n,Ev.n_i,Ev.n_s,Ev.n_t,Ev.eF,Ev.dF,Ev.c9,Ev.dg,Ev.aQ,Ev.aV,Ev.aR,Ev.au,Ev.bP,Ev.ao,Ev.af,Ev.dh,Ev.bQ,Ev.bR,Ev.bS,Ev.aq,Ev.ar,Ev.ag,Ev.dm,Ev.dn,Ev.dq,Ev.dr,Ev.dt,Ev.du,Ev.bT,Ev.bU,Ev.bV,Ev.eM,Ev.eN,Ev.eQ,Ev.b7,Ev.aT,Ev.b8,soa,owa,owf,sol,sga,sgx,nl,d1,hsp,er2,lf2,lz,hm,hat,hsp',oya,kA Θ,kC Θ,a1 Δ Δ,lf1',a2 Δ Δ,lf2',ej,q0,q1,q2,q3,q4,q5,q6,q7]
theorem ch7 (n:Nat)(x:Str)(c:Int)(hx:x.length<=1000)(hm:c % 8=7):∃y:Str,b9 T (n+1) 46 [.str x,.int c]=.ok (.str y)/\y.length<=3*x.length+20:=by
 obtain⟨zs,hz,z0,tz⟩:=gv x;have hs:Ε=16777216:=sizeLine_eq;have d1:decide ((Ο " ").length≠0/\x.length+2<=Ε)=Δ:=l_ ⟨by decide +kernel,by omega⟩;have hsp:(Txt.split x (Ο " ")).map D.str=zs.map .str:=by rw[hz]
 have lz:(zs.map D.str).length=zs.length:=h_ ..;have lz2:=gf zs;have pz:0 < zs.length:=by
  cases zs with
  |nil=>exact absurd rfl z0
  |cons _ _=>simp
 have er2:ers (zs.map D.str)=zs.map D.str:=Ev.fZ zs;have lf2:eS (zs.map D.str)=Δ:=Ev.fQ zs;have nl:e9 (.mth .split (.v 0) [.c (.str " ")])=Θ:=rfl;have sol:=gO;have soa:=hW;have owa:opB .add (.lst Δ [.str "is",.str "not",.str "begins",.str "least",.str "most",.str "has",.str "lacks",.str "in",.str "out",.str "",.str "007",.str "-0",.str "+1",.str "1_0",.str "1.0"]) (.lst Δ [.str "999999999",.str "1000000000",.str "-999999999",.str ".abcdefghi",.str ".a",.str ".",.str "abc",.str "-",.str "Is",.str "00",.str "0"])=.ok (.lst Δ (ow.map .str)):=ic;have owf:eS (ow.map D.str)=Δ:=Ev.fQ ow;obtain⟨sg,sga,sgl,sgx⟩:=jq (i:=c / 800 % ((103:Nat):Int)) (Int.emod_nonneg _ (by decide)) (Int.emod_lt_of_pos _ (by decide));have q0:((7:Int) == 0)=Θ:=rfl;have q1:((7:Int) == 1)=Θ:=rfl;have q2:((7:Int) == 2)=Θ:=rfl;have q3:((7:Int) == 3)=Θ:=rfl;have q4:((7:Int) == 4)=Θ:=rfl;have q5:((7:Int) == 5)=Θ:=rfl;have q6:((7:Int) == 6)=Θ:=rfl;have q7:((7:Int) == 7)=Δ:=rfl;obtain⟨sp',hsp'⟩:∃a:Int,(c / 8 % (zs.length:Int))=a:=⟨_,rfl⟩
 obtain⟨at',hat⟩:∃a:Int,(c / 8 % ((x.length:Int)+1))=a:=⟨_,rfl⟩
 obtain⟨oy,oya,oyl⟩:=uU (o:=Δ) (i:=c / 80 % 26) (Int.emod_nonneg _ (by decide)) (Int.emod_lt_of_pos _ (by decide));have tO:tot [oy]=oy.length+1:=rfl;have kA:=fun o=>ju (o:=o) (a:=zs) (l:=Ξ) (u:=Γ sp');have tA:=fX zs (Ξ) (Γ sp');generalize fR zs (Ξ) (Γ sp')=A at *;have kC:=fun o=>ju (o:=o) (a:=zs) (l:=Γ sp') (u:=Ξ);have tC:=fX zs (Γ sp') (Ξ);generalize fR zs (Γ sp') (Ξ)=C at *;have a1:=fun o o'=>l0 (o:=o) (o':=o') (a:=A) (b:=[oy]) (by omega);have ta1:=fW (A) ([oy]);rw[show([oy].map D.str)=[D.str oy] from rfl]at a1;generalize A++[oy]=P1 at *;have lf1':eS (P1.map D.str)=Δ:=Ev.fQ _;have a2:=fun o o'=>l0 (o:=o) (o':=o') (a:=P1) (b:=C) (by omega);have ta2:=fW (P1) (C);generalize P1++C=P2 at *;have lf2':eS (P2.map D.str)=Δ:=Ev.fQ _;obtain⟨y,ej,ly⟩:=joined (o:=Δ) P2 (by omega);refine⟨y,?_,by omega⟩;generalize so=SO,ow.map D.str=OW at *;rw[g9x 46 d46 2 9 b46 rfl rfl rfl rfl rfl rfl];unfold b46;simp -implicitDefEqProofs (disch:=omega) only[ev0,Nat.reduceBEq,Nat.reduceSub,Nat.reduceAdd,reduceIte,Ev.rs0,Ev.rss,Ev.c4,Ev.c5,↓Ev.fzI,↓Ev.fzS,↓Ev.fzN,Ev.rfn,Ev.rct,Ev.rcn,cond_true,cond_false,a_,List.map_nil,b_,List.nil_append,Bool.true_or,Bool.false_or,Ev.eG,Ev.eI,Ev.eJ,Ev.eK,Ev.di,Ev.dj,Ev.eP,Ev.eR,Ev.bW,Ev.aS,Ev.dw,Ev.dy,Ev.bX,Ev.bY,Ev.dv,Ev.bZ,Ev.aW,Ev.cq,Ev.av,Ev.aX,Ev.aY,Ev.aZ,Ev.cw,Ev.ax,Ev.a7,Ev.a8,Ev.cz,Ev.ay,Ev.a9,Ev.bc,Ev.bf,Ev.bg,Ev.bh,Ev.cE,Ev.az,Ev.bo,Ev.bq,Ev.br,Ev.aA,Ev.aB,Ev.cH,Ev.cI,Ev.aD,Ev.aE,Ev.aF,Ev.ae,Ev.ah,Ev.aG,Ev.bz,Ev.cP,Ev.cQ,Ev.bA,Ev.cR,Ev.cS,Ev.bC,Ev.ai,Ev.bD,Ev.cT,Ev.cU,Ev.bH,Ev.aK,Ev.aL,Ev.aN,Ev.bI,Ev.bJ,Ev.aP,Ev.bL,Ev.bM,Ev.cg,Ev.bO,Ev.cj,Ev.dz,Ev.cb,Ev.cn,Ev.r_c,Ev.r_g,Ev.r_v,Ev.cp,Ev.cu,Ev.aw,Ev.cy,Ev.dG,Ev.cA,Ev.cB,Ev.cC,Ev.cD,Ev.dH,Ev.bj,Ev.dI,Ev.dJ,Ev.dM,Ev.bp,Ev.dC,Ev.cF,Ev.cG,Ev.bt,Ev.dN,Ev.dO,Ev.bu,Ev.dP,Ev.dQ,Ev.dR,Ev.dS,Ev.aC,Ev.dU,Ev.cJ,Ev.dW,Ev.dX,Ev.t_t,Ev.o_v,Ev.o_tup,Ev.o_lst,Ev.o_ite,Ev.o_call,Ev.o_c,Ev.cK,Ev.cL,Ev.aH,Ev.cM,Ev.dY,Ev.cN,Ev.dZ,Ev.d3,Ev.bw,Ev.cO,Ev.bx,Ev.d4,Ev.d5,Ev.aI,Ev.bB,Ev.k_i,Ev.k_s,Ev.k_b,Ev.k_n,Ev.st_asg,Ev.bE,Ev.bF,Ev.st_app,Ev.st_ret,Ev.bG,Ev.aJ,Ev.aj,Ev.aM,Ev.ak,Ev.aO,Ev.cV,Ev.cf,Ev.cW,Ev.d6,Ev.st_if,Ev.st_for,Ev.d7,Ev.d8,Ev.cX,Ev.cY,Ev.cZ,Ev.c0,Ev.ed,Ev.c6,Ev.aU,Ev.bK,Ev.c7,Ev.eh,Ev.sl_t,Ev.ek,Ev.dD,Ev.dB,Ev.eo,Ev.eA,Ev.eB,Ev.dE,Ev.eC,Ev.eD,Ev.eE,Ev.c8,Ev.bN,Ev.n_n,Ev.n_i,Ev.n_s,Ev.n_t,Ev.eF,Ev.dF,Ev.c9,Ev.dg,Ev.aQ,Ev.aV,Ev.aR,Ev.au,Ev.bP,Ev.ao,Ev.af,Ev.dh,Ev.bQ,Ev.bR,Ev.bS,Ev.aq,Ev.ar,Ev.ag,Ev.dm,Ev.dn,Ev.dq,Ev.dr,Ev.dt,Ev.du,Ev.bT,Ev.bU,Ev.bV,Ev.eM,Ev.eN,Ev.eQ,Ev.b7,Ev.aT,Ev.b8,soa,owa,owf,sol,sga,sgx,nl,d1,hsp,er2,lf2,lz,hm,hat,hsp',oya,kA Θ,kC Θ,a1 Δ Δ,lf1',a2 Δ Δ,lf2',ej,q0,q1,q2,q3,q4,q5,q6,q7]
theorem kg (n:Nat)(x:Str)(c:Int)(hx:x.length<=1000):∃y:Str,b9 T (n+1) 46 [.str x,.int c]=.ok (.str y)/\y.length<=3*x.length+20:=by
 have:c % 8=0∨c % 8=1∨c % 8=2∨c % 8=3∨c % 8=4∨c % 8=5∨c % 8=6∨c % 8=7:=by omega
 rcases this with h|h|h|h|h|h|h|h
 ·exact ch0 n x c hx h
 ·exact ch1 n x c hx h
 ·exact ch2 n x c hx h
 ·exact ch3 n x c hx h
 ·exact ch4 n x c hx h
 ·exact ch5 n x c hx h
 ·exact ch6 n x c hx h
 ·exact ch7 n x c hx h
theorem yX {fs:List Str}:fR (fs.map D.str) Ξ (Γ 3)=(fs.take 3).map .str:=by rw[Ev.j7,Ev.wC _ (by decide)];rfl
theorem yY {fs:List Str}(h:fs.length=6):fR (fs.map D.str) (Γ 3) Ξ=(fs.drop 3).map .str:=by rw[Ev.j7];unfold fR HT.sIx;rw[h];show(List.take 3 (List.drop 3 fs)).map D.str=_;rw[List.take_of_length_le (by rw[Ak];omega)]
theorem zR {nm:List Nat}{w:Str}{ts:List Th}(h:Cnd nm w ts):w.length<=10:=by rcases h.go with⟨rfl|rfl,_⟩|⟨rfl,_⟩|⟨rfl|rfl,_⟩|⟨rfl|rfl|rfl|rfl,_⟩<;>decide +kernel
theorem ui (c:Int)(x:Str)(hx:x.length<=620)(s0 s1 s2 s5:Option D):∃y:Str,fH (b9 T 16) rq [s0,s1,s2,Γ (.int c),Γ (.str x),s5]=.ok (.nx [s0,s1,s2,Γ (.int c),Γ (.str y),s5]):=by
 unfold rq;by_cases h:c / 8 % 3=0
 ·obtain⟨y,ey,ly⟩:=kg 15 x (c / 5) (by omega);have er:=gW 9 y (by omega);refine⟨y,?_⟩;simp![ey,er,h]
 ·have er:=gW 9 x (by omega);have hb:(c / 8 % 3 == 0)=Θ:=by simpa using h
  refine⟨x,?_⟩;simp![er,hb]
theorem uj (ns:List Int){fs:List Str}(hf:fs.length=6)(hn:∀x∈fs,Nam x)(k:Nat)(o:Bool)(a b c:Option D) :
  ∃a' b' c',Ev.turn (b9 T 16) (.nm 2) tK (.int (0+(k:Nat))) [Γ (.lst Θ (ns.map .int)),Γ (.lst o (fs.map .str)),a,b,c,Ξ]=.ok (.nx [Γ (.lst Θ (ns.map .int)),Γ (.lst o (fs.map .str)),a',b',c',Ξ]):=by
 have e0:=cell (show T 39=Γ d39 from rfl) rfl rfl rfl rfl 15 ns (0+(k:Nat)) (by omega);obtain⟨nm,w,ts,ec,h⟩:=tV 13 ((ns.getD (0+(k:Int)).toNat 0+29*(0+(k:Nat))) / 3) (ns:=fs.take 3) (gs:=fs.drop 3) (by rw[Aj];omega) (by rw[Ak];omega) (fun x hx=>hn x (List.mem_of_mem_take hx)) (fun x hx=>hn x (List.mem_of_mem_drop hx));obtain⟨y,el,ly⟩:=uh 15 (o:=Θ) h (zR h);obtain⟨z,ez,lz⟩:=kg 15 y (ns.getD (0+(k:Int)).toNat 0+29*(0+(k:Nat))) (by omega);obtain⟨u,eu⟩:=ui (ns.getD (0+(k:Int)).toNat 0+29*(0+(k:Nat))) z (by omega) (Γ (.lst Θ (ns.map .int))) (Γ (.lst o (fs.map .str))) (Γ (.int (0+(k:Nat)))) Ξ;have c1:=yX (fs:=fs);have c2:=yY hf;have l1:=Ev.fZ (fs.take 3);have l2:=Ev.fZ (fs.drop 3);have l3:=Ev.fQ (fs.take 3);have l4:=Ev.fQ (fs.drop 3);have l5:=Ev.lR ns;have lf:=i5 ts;have er':=kW ts;have v1:vars (.sl (.v 1) Ξ (Γ (.c (.int 3))))=[1]:=rfl;have v2:vars (.sl (.v 1) (Γ (.c (.int 3))) Ξ)=[1]:=rfl;have l8:=Ev.fZ fs;generalize ns.getD (0+(k:Int)).toNat 0=q,ts.map Th.d=X,fs.map D.str=FS,(fs.take 3).map D.str=F1,(fs.drop 3).map D.str=F2,ns.map D.int=NS at *;refine⟨Γ (.int (0+(k:Nat))),Γ (.int (q+29*(0+(k:Nat)))),Γ (.str u),?_⟩;unfold tK;simp![Ev.i4,e0,ec,el,ez,c1,c2,l1,l2,l3,l4,l5,lf,er',v1,v2,l8,eu]
noncomputable def kh:List Str:=[""," ","age","age ","age has "," age has","age  has","is is .is","age is","a is .a  .b"]
theorem uk:∀x∈kh,x.length<=1900:=by decide +kernel
theorem rY (x:Str)(hx:x.length<=1900)(s0 s1 s2 s3 s4 s5:Option D):Ev.turn (b9 T 16) (.nm 4) tL (.str x) [s0,s1,s2,s3,s4,s5]=.ok (.nx [s0,s1,s2,s3,Γ (.str x),s5]):=by have er:=gW 9 x hx;unfold tL;simp![Ev.i4,er]
theorem w8 (s0 s1 s2 s3 s4:Option D):fH (b9 T 16) wD [s0,s1,s2,s3,s4,Ξ]=.ok (.rt (.bl Δ)):=by
 obtain⟨τ',e,s4',rfl⟩:=Ev.jx (its:=kh.map .str) (τ:=[s0,s1,s2,s3,s4,Γ (.lst Θ (kh.map .str))]) (body:=Ev.turn (b9 T 16) (.nm 4) tL)
  (fun _ τ=>∃s4,τ=[s0,s1,s2,s3,s4,Γ (.lst Θ (kh.map .str))]) ⟨s4,rfl⟩ (by
   rintro i x τ hx ⟨s4,rfl⟩;obtain⟨y,hy,rfl⟩:=List.mem_map.mp (Af hx)
   exact⟨_,rY y (uk y hy) ..,_,rfl⟩)
 have r1:=gW 9 "abcdefghi has" (by decide +kernel);have r2:=gW 9 "abcdefgh has" (by decide +kernel);have r3:=gW 9 "age is 0 -1 .0 .-1" (by decide +kernel);have es:kh.map D.str=[.str "",.str " ",.str "age",.str "age ",.str "age has ",.str " age has",.str "age  has",.str "is is .is",.str "age is",.str "a is .a  .b"]:=rfl;rw[es]at e;unfold wD;simp![e,r1,r2,r3]
theorem holds (ns:List Int)(h:ns.length<=63):b9 T (16+1) tM [.lst Θ (ns.map .int)]=.ok (.bl Δ):=by
 have e0:=cell (show T 39=Γ d39 from rfl) rfl rfl rfl rfl 15 ns 0 (by decide);obtain⟨fs,ef,hf⟩:=rD 14 (ns.getD 0 0 / 5) 6 (by decide) (by decide);have hf6:fs.length=6:=hf.len;obtain⟨τ',e,a,b,c,rfl⟩:=Ev.jx (its:=gE 0 10) (τ:=[Γ (.lst Θ (ns.map .int)),Γ (.lst Δ (fs.map .str)),Ξ,Ξ,Ξ,Ξ]) (body:=Ev.turn (b9 T 16) (.nm 2) tK)
  (fun _ τ=>∃a b c,τ=[Γ (.lst Θ (ns.map .int)),Γ (.lst Δ (fs.map .str)),a,b,c,Ξ]) ⟨Ξ,Ξ,Ξ,rfl⟩ (by
   rintro i x τ hx ⟨a,b,c,rfl⟩;unfold gE at hx;obtain⟨k,hk,rfl⟩:=List.mem_map.mp (Af hx);obtain⟨a',b',c',e⟩:=uj ns hf6 hf.nam k Δ a b c
   exact⟨_,e,a',b',c',rfl⟩)
 have ee:=w8 (Γ (.lst Θ (ns.map .int))) (Γ (.lst Δ (fs.map .str))) a b c;rw[Ev.go (show T tM=Γ d50 from rfl) (show d50.io=Θ from rfl) (show d50.np=1 from rfl) (show d50.G.N.length=6 from rfl) (show d50.body=b50 from rfl) rfl];unfold b50;have l5:=Ev.lR ns;have l6:=Ev.fQ fs;have l7:=Ev.fZ fs;have t0:Int.toNat 0=0:=rfl;rw[t0]at e0;generalize fs.map D.str=FS,ns.map D.int=NS at *;simp![e0,ef,e,ee,l5,l6,l7]
end Law
namespace PySem.W.Fast
theorem tw7866541006370196621:True:=⟨⟩
theorem tw5577023225159540835:True:=⟨⟩
theorem tw13210783823730094606:True:=⟨⟩
theorem tw10179085656120826654:True:=⟨⟩
theorem tw13616217571831319463:True:=⟨⟩
theorem tw371472634832547528:True:=⟨⟩
theorem tw17143004022519509681:True:=⟨⟩
theorem tw1094552203733870107:True:=⟨⟩
theorem tw1290028403453263958:True:=⟨⟩
theorem tw13765540832066899460:True:=⟨⟩
theorem tw11588419636725924513:True:=⟨⟩
theorem tw10905101360641590637:True:=⟨⟩
theorem tw2693104672024339923:True:=⟨⟩
theorem tw8745504301207330537:True:=⟨⟩
theorem tw10039908596105063448:True:=⟨⟩
theorem tw3445698662586396345:True:=⟨⟩
theorem tw5567171942280010949:True:=⟨⟩
theorem tw13182854429117340104:True:=⟨⟩
theorem tw16534671152528875038:True:=⟨⟩
theorem tw2800523783787597941:True:=⟨⟩
theorem tw7956126595266366638:True:=⟨⟩
theorem tw5046971091127631307:True:=⟨⟩
theorem tw16143113754451902266:True:=⟨⟩
theorem tw8494792013505965693:True:=⟨⟩
theorem tw14621344965251916167:True:=⟨⟩
theorem tw11001098483840689399:True:=⟨⟩
theorem tw8575083723438083974:True:=⟨⟩
theorem tw8970636161142122302:True:=⟨⟩
theorem tw4197057028699944846:True:=⟨⟩
theorem tw10923961517603101167:True:=⟨⟩
theorem tw15002502799093222721:True:=⟨⟩
theorem tw2123945680253939273:True:=⟨⟩
theorem tw10605928768755464251:True:=⟨⟩
theorem tw6446075479664316602:True:=⟨⟩
theorem tw4004344789905871939:True:=⟨⟩
theorem tw1634808076321884015:True:=⟨⟩
theorem tw6916274569311704352:True:=⟨⟩
theorem tw1327739237261708423:True:=⟨⟩
theorem tw12871309460150313133:True:=⟨⟩
theorem tw2456899890624166485:True:=⟨⟩
theorem tw13241017201779904831:True:=⟨⟩
theorem tw3089174083242822763:True:=⟨⟩
theorem tw4754945256414150447:True:=⟨⟩
theorem tw14457224458814857152:True:=⟨⟩
theorem tw12782567827871697491:True:=⟨⟩
theorem tw11731811874429135440:True:=⟨⟩
theorem tw14722831515243597288:True:=⟨⟩
theorem tw5497593667970752686:True:=⟨⟩
theorem tw18351735859298769712:True:=⟨⟩
theorem tw10436413289216405480:True:=⟨⟩
theorem tw8230889194124341697:True:=⟨⟩
theorem tw7096318873486407659:True:=⟨⟩
theorem tw7213290382463720698:True:=⟨⟩
theorem tw7930383221599609786:True:=⟨⟩
theorem tw13113679753084426108:True:=⟨⟩
theorem tw11831929772385336577:True:=⟨⟩
theorem tw16916905617316500960:True:=⟨⟩
theorem tw12057307674467934115:True:=⟨⟩
theorem tw2784198189864696353:True:=⟨⟩
theorem tw7721341074030473984:True:=⟨⟩
theorem tw14816421246272957449:True:=⟨⟩
theorem tw5603924794507544090:True:=⟨⟩
theorem tw7847828397531032870:True:=⟨⟩
theorem tw1470500750111941116:True:=⟨⟩
theorem tw9309035329574182031:True:=⟨⟩
theorem tw7857606339006232310:True:=⟨⟩
theorem tw851862546086601414:True:=⟨⟩
theorem tw2967170119342553351:True:=⟨⟩
theorem tw9448952342866120506:True:=⟨⟩
theorem tw17220601273987193664:True:=⟨⟩
theorem tw16861616111221089719:True:=⟨⟩
theorem tw10482344518295077056:True:=⟨⟩
theorem tw9653603567685114943:True:=⟨⟩
theorem tw14298539534477900703:True:=⟨⟩
theorem tw16714314653731787620:True:=⟨⟩
theorem tw16252839201241179319:True:=⟨⟩
theorem tw16787394177004690035:True:=⟨⟩
theorem tw13794719150856813623:True:=⟨⟩
theorem tw16656746723292738090:True:=⟨⟩
theorem tw3839427195099189138:True:=⟨⟩
theorem tw6674917560482207561:True:=⟨⟩
theorem tw1846673756517363844:True:=⟨⟩
theorem tw11525828954746759500:True:=⟨⟩
theorem tw2174109030579346660:True:=⟨⟩
theorem tw15037020903871723646:True:=⟨⟩
theorem tw15781033297792738691:True:=⟨⟩
theorem tw12846224488296705187:True:=⟨⟩
theorem tw2278123040454846767:True:=⟨⟩
theorem tw6574058332035573073:True:=⟨⟩
theorem tw12207173674437960902:True:=⟨⟩
theorem tw16753668187360950731:True:=⟨⟩
theorem tw8515938294161934455:True:=⟨⟩
theorem tw7777032209181191939:True:=⟨⟩
theorem tw7723775314052412051:True:=⟨⟩
theorem tw635728572786255278:True:=⟨⟩
theorem tw3976054273937422302:True:=⟨⟩
theorem tw3885732496559932877:True:=⟨⟩
theorem tw3851036117279074490:True:=⟨⟩
theorem tw14155980046844378608:True:=⟨⟩
theorem tw13918480021539832928:True:=⟨⟩
theorem tw13653709939761648494:True:=⟨⟩
theorem tw12965931018448450183:True:=⟨⟩
theorem tw1229091252171972382:True:=⟨⟩
theorem tw4093445184750704237:True:=⟨⟩
theorem tw14032920948390424796:True:=⟨⟩
theorem tw8439006337082724048:True:=⟨⟩
theorem tw5966989717671585868:True:=⟨⟩
theorem tw5656547478546137439:True:=⟨⟩
theorem tw392974014942184838:True:=⟨⟩
theorem tw3173897291148480297:True:=⟨⟩
theorem tw13725909366839119997:True:=⟨⟩
theorem tw11009141097368124403:True:=⟨⟩
theorem tw12340199944036604816:True:=⟨⟩
theorem tw9713212592114386505:True:=⟨⟩
theorem tw754251590138355312:True:=⟨⟩
theorem tw3410616101101839124:True:=⟨⟩
theorem tw16908696469094182565:True:=⟨⟩
theorem tw15529423334996092815:True:=⟨⟩
theorem tw8349149944694711862:True:=⟨⟩
theorem tw4040204281986576889:True:=⟨⟩
theorem tw7195543243141048338:True:=⟨⟩
theorem tw12522600792009781632:True:=⟨⟩
theorem tw5475387111728569296:True:=⟨⟩
theorem tw12911353349771529598:True:=⟨⟩
theorem tw2768976855768884564:True:=⟨⟩
theorem tw11098938247239513029:True:=⟨⟩
theorem tw2743615701501685286:True:=⟨⟩
theorem tw8901176373048610112:True:=⟨⟩
theorem tw9726904164258839289:True:=⟨⟩
theorem tw9725678874616005143:True:=⟨⟩
end PySem.W.Fast
open PySem PySem.W PyProof.Rows
set_option maxRecDepth 100000 in
set_option maxHeartbeats 0 in
theorem PySem.Challenge.cw_flagroll_k18_lines_refused_holds : PySem.Challenge.rw_flagroll_k18_lines_refused.Holds := by
  w_on; o_law; k_head; (case hw =>w_witness2)
  k_fill
  refine L2.qV (l :=PySem.Challenge.rw_flagroll_k18_lines_refused) (T :=Law.T) (n :=16) (f :=Law.tM) (x :=Law.tN) rfl rfl ⟨fun _ =>rfl,by decide,by decide⟩ (fun w h Y =>PySem.W.kIn_of Y) ?F Law.holds
  case F =>
    intro w mg fa h KX G hmg
    refine' Law.all_mk KX G hmg (Law.dfo Law.c30 rfl (fun _ _ _ _ _ _ =>Law.ln1 fun _ =>rfl) KX G ?a30 ?l30 ?e30 ?k30) (Law.dfo Law.c31 rfl (fun _ _ _ _ _ _ =>Law.ln4 fun _ _ _ _ =>rfl) KX G ?a31 ?l31 ?e31 ?k31) (Law.dfo Law.c32 rfl (fun _ _ _ _ _ _ =>Law.ln2 fun _ _ =>rfl) KX G ?a32 ?l32 ?e32 ?k32) (Law.dfo Law.c33 rfl (fun _ _ _ _ _ _ =>Law.ln1 fun _ =>rfl) KX G ?a33 ?l33 ?e33 ?k33) (Law.dfo Law.c34 rfl (fun _ _ _ _ _ _ =>Law.ln2 fun _ _ =>rfl) KX G ?a34 ?l34 ?e34 ?k34) (Law.dfo Law.c35 rfl (fun _ _ _ _ _ _ =>Law.ln2 fun _ _ =>rfl) KX G ?a35 ?l35 ?e35 ?k35) (Law.dfo Law.c36 rfl (fun _ _ _ _ _ _ =>Law.ln1 fun _ =>rfl) KX G ?a36 ?l36 ?e36 ?k36) (Law.dfo Law.c37 rfl (fun _ _ _ _ _ _ =>Law.ln1 fun _ =>rfl) KX G ?a37 ?l37 ?e37 ?k37) (Law.dfo Law.c38 rfl (fun _ _ _ _ _ _ =>Law.ln1 fun _ =>rfl) KX G ?a38 ?l38 ?e38 ?k38) (Law.dfo Law.c39 rfl (fun _ _ _ _ _ _ =>Law.ln2 fun _ _ =>rfl) KX G ?a39 ?l39 ?e39 ?k39) (Law.dfo Law.c40 rfl (fun _ _ _ _ _ _ =>Law.ln2 fun _ _ =>rfl) KX G ?a40 ?l40 ?e40 ?k40) (Law.dfo Law.c41 rfl (fun _ _ _ _ _ _ =>Law.ln2 fun _ _ =>rfl) KX G ?a41 ?l41 ?e41 ?k41) (Law.dfo Law.c42 rfl (fun _ _ _ _ _ _ =>Law.ln1 fun _ =>rfl) KX G ?a42 ?l42 ?e42 ?k42) (Law.dfo Law.c43 rfl (fun _ _ _ _ _ _ =>Law.ln2 fun _ _ =>rfl) KX G ?a43 ?l43 ?e43 ?k43) (Law.dfo Law.c44 rfl (fun _ _ _ _ _ _ =>Law.ln3 fun _ _ _ =>rfl) KX G ?a44 ?l44 ?e44 ?k44) (Law.dfo Law.c45 rfl (fun _ _ _ _ _ _ =>Law.ln1 fun _ =>rfl) KX G ?a45 ?l45 ?e45 ?k45) (Law.dfo Law.c46 rfl (fun _ _ _ _ _ _ =>Law.ln2 fun _ _ =>rfl) KX G ?a46 ?l46 ?e46 ?k46) (Law.dfo Law.c47 rfl (fun _ _ _ _ _ _ =>Law.ln1 fun _ =>rfl) KX G ?a47 ?l47 ?e47 ?k47) (Law.dfo Law.c48 rfl (fun _ _ _ _ _ _ =>Law.ln1 fun _ =>rfl) KX G ?a48 ?l48 ?e48 ?k48) (Law.dfo Law.c49 rfl (fun _ _ _ _ _ _ =>Law.ln1 fun _ =>rfl) KX G ?a49 ?l49 ?e49 ?k49) ?a50 ?l50 ?e50 ?k50 ?q21 ?q22 ?q23 ?q24 ?r24 ?q25 ?q26 ?q27 ?q28 ?q29 ?u51 ?u52 ?u53 ?u54 ?u55 ?u56 ?u57 ?u58 ?u59 ?u60 ?u61 ?u62 ?u63 ?u64 ?u66 ?u65 ?vn51 ?vg51 ?vo51 ?vc51 ?vb51 ?vj51 ?vi51 ?vx51 ?y51_55 ?y51_56 ?y51_57 ?y51_58 ?y51_59 ?y51_51 ?y51_52 ?y51_53 ?y51_54 ?y51_60 ?y51_61 ?y51_62 ?y51_63 ?y51_64 ?y51_65 ?m51_51 ?m51_53 ?m51_66 ?vn52 ?vg52 ?vo52 ?vc52 ?vb52 ?vj52 ?vi52 ?vx52 ?y52_55 ?y52_56 ?y52_57 ?y52_58 ?y52_59 ?y52_51 ?y52_52 ?y52_53 ?y52_54 ?y52_60 ?y52_61 ?y52_62 ?y52_63 ?y52_64 ?y52_65 ?m52_51 ?m52_53 ?m52_66 ?vn53 ?vg53 ?vo53 ?vc53 ?vb53 ?vj53 ?vi53 ?vx53 ?y53_55 ?y53_56 ?y53_57 ?y53_58 ?y53_59 ?y53_51 ?y53_52 ?y53_53 ?y53_54 ?y53_60 ?y53_61 ?y53_62 ?y53_63 ?y53_64 ?y53_65 ?m53_51 ?m53_53 ?m53_66 ?vn54 ?vg54 ?vo54 ?vc54 ?vb54 ?vj54 ?vi54 ?vx54 ?y54_55 ?y54_56 ?y54_57 ?y54_58 ?y54_59 ?y54_51 ?y54_52 ?y54_53 ?y54_54 ?y54_60 ?y54_61 ?y54_62 ?y54_63 ?y54_64 ?y54_65 ?m54_51 ?m54_53 ?m54_66 ?z0 ?z1 ?z2 ?z3 ?z4 ?z5 ?z6 ?z7 ?z8 ?z9 ?z10 ?z11 ?z12 ?z13 ?z14 ?z15 ?z16 ?z17 ?z18 ?z19 ?z20
    (case a30|l30|e30|k30|a31|l31|e31|k31|a32|l32|e32|k32|a33|l33|e33|k33|a34|l34|e34|k34|a35|l35|e35|k35|a36|l36|e36|k36|a37|l37|e37|k37|a38|l38|e38|k38|a39|l39|e39|k39|a40|l40|e40|k40|a41|l41|e41|k41|a42|l42|e42|k42|a43|l43|e43|k43|a44|l44|e44|k44|a45|l45|e45|k45|a46|l46|e46|k46|a47|l47|e47|k47|a48|l48|e48|k48|a49|l49|e49|k49|a50|l50|e50|k50|q21|q22|q23|q24|r24|q25|q26|q27|q28|q29|u51|u52|u53|u54|u55|u56|u57|u58|u59|u60|u61|u62|u63|u64|u66|u65=>k_is)
    (case vn51=>kernel_rfl)
    (case vg51=>kernel_rfl)
    (case vo51=>kernel_rfl)
    (case vc51=>kernel_rfl)
    (case vb51=>kernel_rfl)
    (case vj51=>kernel_rfl)
    (case vi51=>kernel_rfl)
    (case vx51=>kernel_rfl)
    (case y51_55=>kernel_rfl)
    (case y51_56=>kernel_rfl)
    (case y51_57=>kernel_rfl)
    (case y51_58=>kernel_rfl)
    (case y51_59=>kernel_rfl)
    (case y51_51=>kernel_rfl)
    (case y51_52=>kernel_rfl)
    (case y51_53=>kernel_rfl)
    (case y51_54=>kernel_rfl)
    (case y51_60=>kernel_rfl)
    (case y51_61=>kernel_rfl)
    (case y51_62=>kernel_rfl)
    (case y51_63=>kernel_rfl)
    (case y51_64=>kernel_rfl)
    (case y51_65=>kernel_rfl)
    (case m51_51=>kernel_rfl)
    (case m51_53=>kernel_rfl)
    (case m51_66=>kernel_rfl)
    (case vn52=>kernel_rfl)
    (case vg52=>kernel_rfl)
    (case vo52=>kernel_rfl)
    (case vc52=>kernel_rfl)
    (case vb52=>kernel_rfl)
    (case vj52=>kernel_rfl)
    (case vi52=>kernel_rfl)
    (case vx52=>kernel_rfl)
    (case y52_55=>kernel_rfl)
    (case y52_56=>kernel_rfl)
    (case y52_57=>kernel_rfl)
    (case y52_58=>kernel_rfl)
    (case y52_59=>kernel_rfl)
    (case y52_51=>kernel_rfl)
    (case y52_52=>kernel_rfl)
    (case y52_53=>kernel_rfl)
    (case y52_54=>kernel_rfl)
    (case y52_60=>kernel_rfl)
    (case y52_61=>kernel_rfl)
    (case y52_62=>kernel_rfl)
    (case y52_63=>kernel_rfl)
    (case y52_64=>kernel_rfl)
    (case y52_65=>kernel_rfl)
    (case m52_51=>kernel_rfl)
    (case m52_53=>kernel_rfl)
    (case m52_66=>kernel_rfl)
    (case vn53=>kernel_rfl)
    (case vg53=>kernel_rfl)
    (case vo53=>kernel_rfl)
    (case vc53=>kernel_rfl)
    (case vb53=>kernel_rfl)
    (case vj53=>kernel_rfl)
    (case vi53=>kernel_rfl)
    (case vx53=>kernel_rfl)
    (case y53_55=>kernel_rfl)
    (case y53_56=>kernel_rfl)
    (case y53_57=>kernel_rfl)
    (case y53_58=>kernel_rfl)
    (case y53_59=>kernel_rfl)
    (case y53_51=>kernel_rfl)
    (case y53_52=>kernel_rfl)
    (case y53_53=>kernel_rfl)
    (case y53_54=>kernel_rfl)
    (case y53_60=>kernel_rfl)
    (case y53_61=>kernel_rfl)
    (case y53_62=>kernel_rfl)
    (case y53_63=>kernel_rfl)
    (case y53_64=>kernel_rfl)
    (case y53_65=>kernel_rfl)
    (case m53_51=>kernel_rfl)
    (case m53_53=>kernel_rfl)
    (case m53_66=>kernel_rfl)
    (case vn54=>kernel_rfl)
    (case vg54=>kernel_rfl)
    (case vo54=>kernel_rfl)
    (case vc54=>kernel_rfl)
    (case vb54=>kernel_rfl)
    (case vj54=>kernel_rfl)
    (case vi54=>kernel_rfl)
    (case vx54=>kernel_rfl)
    (case y54_55=>kernel_rfl)
    (case y54_56=>kernel_rfl)
    (case y54_57=>kernel_rfl)
    (case y54_58=>kernel_rfl)
    (case y54_59=>kernel_rfl)
    (case y54_51=>kernel_rfl)
    (case y54_52=>kernel_rfl)
    (case y54_53=>kernel_rfl)
    (case y54_54=>kernel_rfl)
    (case y54_60=>kernel_rfl)
    (case y54_61=>kernel_rfl)
    (case y54_62=>kernel_rfl)
    (case y54_63=>kernel_rfl)
    (case y54_64=>kernel_rfl)
    (case y54_65=>kernel_rfl)
    (case m54_51=>kernel_rfl)
    (case m54_53=>kernel_rfl)
    (case m54_66=>kernel_rfl)
    (case z0|z1|z2|z3|z4|z5|z6|z7|z8|z9|z10|z11|z12|z13|z14|z15|z16|z17|z18|z19|z20=>k_is)
#print axioms PySem.Challenge.cw_flagroll_k18_lines_refused_holds
