import PyProof.Rows.All
import Wide.All
import OpenK.AllK
import Wide.FinOn
import Lean
import PyProof.EqAt
import PyProof.EqKinds
import PyProof.TupleCall
import PyProof.NeKinds
import KE.KRevIter
import KE.KSortTup
import Wide.Txt2
import PyProof.FString4
import KE.KIntText
import PyProof.ZipIter
import PyProof.TupleIter
import PyProof.WalksMore
import PyProof.Rows.SortShell
import KE.KDictSum
import PyProof.Rows.SortStr
import PyProof.Rows.SetFrom
import PyProof.FactsAll.subtypes_4
import PyProof.DictUpdate
import KE.KDictOf
import PyProof.AttrMissSeq
import KE.KDictList
import KE.KDictIter
import PyProof.Rows.SortWalk
import PyProof.EnumMake
import PyProof.EnumFor
import PyProof.Rows.EnumRows
import PyProof.MeetsSeq
import PyProof.ListRange
import KE.KItemsList
import KE.KSortAsk
import KE.KIsAll
import PyProof.ExcArgsOwn
import PyProof.ExcAttrAll.ValueError
import OpenK.KDescr
import PyProof.ExcInit
import PyProof.ExcClass2
import PyProof.InstStoreFacts
import PyProof.StationsW
import OpenK.KMake
import OpenK.KOwn
import KE.KTryMore
import OpenK.KRaise
import PyProof.RulesDel
import PyProof.RulesAs
import PyProof.Rows.Catch
import PySem.Challenge.RW_flagroll_k49_faces_counted
open PySem.W (Frag)
theorem a_:type_of% @PySem.wpAny_bind:=@PySem.wpAny_bind
theorem b_:type_of% @List.map_cons:=@List.map_cons
theorem c_:type_of% @List.cons_append:=@List.cons_append
theorem d_:type_of% @if_neg:=@if_neg
theorem e_:type_of% @if_pos:=@if_pos
theorem f_:type_of% @PySem.wpAny_pure:=@PySem.wpAny_pure
theorem g_:type_of% @Bool.and_eq_true:=@Bool.and_eq_true
theorem h_:type_of% @LawfulBEq.eq_of_beq:=@LawfulBEq.eq_of_beq
theorem i_:type_of% @List.length_map:=@List.length_map
theorem j_:type_of% @PySem.Heap.lt_size:=@PySem.Heap.lt_size
theorem k_:type_of% @List.mem_cons:=@List.mem_cons
theorem l_:type_of% @PySem.Heap.get?_push_of_some:=@PySem.Heap.get?_push_of_some
theorem m_:type_of% @Nat.le_refl:=@Nat.le_refl
theorem n_:type_of% @Bool.false_ne_true:=@Bool.false_ne_true
theorem o_:type_of% @List.length_append:=@List.length_append
theorem p_:type_of% @Nat.ne_of_lt:=@Nat.ne_of_lt
theorem q_:type_of% @of_decide_eq_true:=@of_decide_eq_true
theorem r_:type_of% @List.nodup_append:=@List.nodup_append
theorem s_:type_of% @List.mem_append_left:=@List.mem_append_left
theorem t_:type_of% @List.mem_append_right:=@List.mem_append_right
theorem u_:type_of% @PySem.Heap.get?_push_size:=@PySem.Heap.get?_push_size
theorem v_:type_of% @List.getElem?_eq_getElem:=@List.getElem?_eq_getElem
theorem w_:type_of% @List.mem_singleton:=@List.mem_singleton
theorem x_:type_of% @List.getElem?_eq_some_iff:=@List.getElem?_eq_some_iff
theorem y_:type_of% @List.getElem?_map:=@List.getElem?_map
theorem z_:type_of% @List.append_assoc:=@List.append_assoc
theorem A_:type_of% @List.size_toArray:=@List.size_toArray
theorem B_:type_of% @Nat.lt_of_lt_of_le:=@Nat.lt_of_lt_of_le
theorem C_:type_of% @List.mem_append:=@List.mem_append
theorem D_:type_of% @Nat.le_trans:=@Nat.le_trans
theorem E_:type_of% @List.nodup_cons:=@List.nodup_cons
theorem F_:type_of% @Bool.and_eq_true_iff:=@Bool.and_eq_true_iff
theorem G_:type_of% @decide_eq_true:=@decide_eq_true
theorem H_:type_of% @List.mem_cons_of_mem:=@List.mem_cons_of_mem
theorem I_:type_of% @List.not_mem_nil:=@List.not_mem_nil
theorem J_:type_of% @Option.some.inj:=@Option.some.inj
theorem K_:type_of% @List.map_map:=@List.map_map
theorem L_:type_of% @PySem.W.mg_none_of:=@PySem.W.mg_none_of
theorem M_:type_of% @PySem.wpAny_holding:=@PySem.wpAny_holding
theorem N_:type_of% @List.map_append:=@List.map_append
theorem O_:type_of% @Array.length_toList:=@Array.length_toList
theorem P_:type_of% @List.append_nil:=@List.append_nil
theorem Q_:type_of% @PySem.wpAny_field:=@PySem.wpAny_field
theorem R_:type_of% @List.all_eq_true:=@List.all_eq_true
theorem S_:type_of% @decide_eq_false:=@decide_eq_false
theorem T_:type_of% @Nat.lt_irrefl:=@Nat.lt_irrefl
theorem U_:type_of% @Nat.ne_of_gt:=@Nat.ne_of_gt
theorem V_:type_of% @List.mem_range:=@List.mem_range
theorem W_:type_of% @List.foldl_cons:=@List.foldl_cons
theorem X_:type_of% @List.length_singleton:=@List.length_singleton
theorem Y_:type_of% @Nat.zero_le:=@Nat.zero_le
theorem Z_:type_of% @List.getD_eq_getElem?_getD:=@List.getD_eq_getElem?_getD
theorem aaa:type_of% @PySem.Heap.size_push:=@PySem.Heap.size_push
theorem aab:type_of% @PySem.wpAny_call_entry:=@PySem.wpAny_call_entry
theorem aac:type_of% @List.length_range:=@List.length_range
theorem aad:type_of% @PySem.wpAny_seqItems:=@PySem.wpAny_seqItems
theorem aae:type_of% @PySem.wpAny_setField_rec:=@PySem.wpAny_setField_rec
theorem aag:type_of% @Bool.or_eq_true:=@Bool.or_eq_true
theorem aah:type_of% @List.length_drop:=@List.length_drop
theorem aai:type_of% @PySem.Heap.get?_update_other:=@PySem.Heap.get?_update_other
theorem aaj:type_of% @List.mem_iff_getElem?:=@List.mem_iff_getElem?
theorem aak:type_of% @List.mem_of_getElem?:=@List.mem_of_getElem?
theorem aal:type_of% @Option.map_eq_some_iff:=@Option.map_eq_some_iff
theorem aam:type_of% @Array.getElem?_toList:=@Array.getElem?_toList
theorem aan:type_of% @List.perm_append_comm:=@List.perm_append_comm
theorem aao:type_of% @PySem.wpAny_newObj_type:=@PySem.wpAny_newObj_type
theorem aaq:type_of% @Bool.false_eq_true:=@Bool.false_eq_true
theorem aar:type_of% @Nat.le_add_right:=@Nat.le_add_right
theorem aas:type_of% @List.Perm.append_left:=@List.Perm.append_left
theorem aat:type_of% @List.map_congr_left:=@List.map_congr_left
theorem aau:type_of% @List.getElem?_append_left:=@List.getElem?_append_left
theorem aav:type_of% @PySem.wpAny_pyIter_list:=@PySem.wpAny_pyIter_list
theorem aaw:type_of% @PySem.Around.under_plainId:=@PySem.Around.under_plainId
theorem aax:type_of% @List.getElem_mem:=@List.getElem_mem
theorem aay:type_of% @List.singleton_append:=@List.singleton_append
theorem aaz:type_of% @List.length_take:=@List.length_take
theorem aaA:type_of% @PySem.Heap.get?_update_self:=@PySem.Heap.get?_update_self
theorem aaB:type_of% @PySem.Heap.SameBut.update:=@PySem.Heap.SameBut.update
theorem aaC:type_of% @List.lookup_cons:=@List.lookup_cons
theorem aaD:type_of% @List.mem_cons_self:=@List.mem_cons_self
theorem aaE:type_of% @List.getElem?_set_ne:=@List.getElem?_set_ne
theorem aaF:type_of% @PyProof.Rows.callWith_type1:=@PyProof.Rows.callWith_type1
theorem aaG:type_of% @List.getElem?_cons_succ:=@List.getElem?_cons_succ
theorem aaH:type_of% @List.getElem?_append_right:=@List.getElem?_append_right
open Option renaming some → Δ
open Bool renaming true → Θ
open Bool renaming false → Ξ
open Option renaming none → Φ
open PySem renaming Value → Ψ
open PySem renaming Addr → Ω
open PySem renaming Shared → Α
open PySem renaming World → Β
open PySem renaming Program → Ε
open PySem renaming sizeLine → Ζ
open PySem renaming mainGlobals → Η
open PySem renaming Around → Ι
open PySem renaming wpAny → Κ
open PySem renaming model → Μ
open PySem renaming starEach → Ν
open PySem renaming FuncData → Ο
open PySem.Str renaming ofString → Ρ
open List renaming replicate → Τ
open PySem.NameKind renaming free → Υ
open PySem.Builtin.List renaming listExtendWith → Χ
open PySem.Builtin.SmallTypes renaming nextOf → ζ
open PySem.Builtin.SmallTypes renaming ownedTupleIsFree → η
open PySem.Value renaming ref → θ
open PySem.Obj renaming mapSeq → ι
namespace L2
theorem zE:type_of% @PySem.Expr.casesOn.{0}:=@PySem.Expr.casesOn.{0}
theorem zS:type_of% @PySem.Stmt.casesOn.{0}:=@PySem.Stmt.casesOn.{0}
end L2
set_option maxHeartbeats 8000000
set_option Elab.async false
set_option linter.all false
set_option maxRecDepth 100000
namespace L2
open PySem PySem.Spec PyProof.Rows
abbrev Key:=Sum Int Str
noncomputable def mT:Key->Ψ->Bool
 |.inl k,v=>Value.isInt k v
 |.inr x,v=>Value.isStrOf x v
noncomputable def Hq (w:Β):Key->Int
 |.inl k=>hashInt k
 |.inr x=>hashStr w x
theorem iY:∀ {k:Key}{v:Ψ},mT k v=Θ->(∃i t,k=Sum.inl i/\v=Value.int i t)∨(∃x t,k=Sum.inr x/\v=Value.str x t)
 |.inl i,v,h=>by obtain⟨t,e⟩:=Value.isInt_shape (k:=i) (v:=v) h;exact .inl ⟨i,t,rfl,e⟩
 |.inr x,v,h=>by obtain⟨t,e⟩:=Value.isStrOf_shape (x:=x) (v:=v) h;exact .inr ⟨x,t,rfl,e⟩
theorem u7 (i:Int)(t:Tok):mT (.inl i) (.int i t)=Θ:=by simp[mT,Value.isInt]
theorem u9 (x:Str)(t:Tok):mT (.inr x) (.str x t)=Θ:=by simp[mT,Value.isStrOf]
theorem CO (a b:Int):decide ((Sum.inl a:Key)=Sum.inl b)=(a == b):=by
 by_cases e:a=b
 ·subst e;simp
 ·have h:¬(Sum.inl a:Key)=Sum.inl b:=fun q=>e (Sum.inl.inj q);rw[S_ h];exact(beq_eq_false_iff_ne.mpr e).symm
theorem CQ (a b:Str):decide ((Sum.inr a:Key)=Sum.inr b)=decide (a=b):=by
 by_cases e:a=b
 ·subst e;simp
 ·have h:¬(Sum.inr a:Key)=Sum.inr b:=fun q=>e (Sum.inr.inj q);rw[S_ h,S_ e]
theorem CU (a:Int)(b:Str):decide ((Sum.inl a:Key)=Sum.inr b)=Ξ:=S_ (fun q=>nomatch q)
theorem CV (a:Str)(b:Int):decide ((Sum.inr a:Key)=Sum.inl b)=Ξ:=S_ (fun q=>nomatch q)
noncomputable def ja (prog:Ε)(w:Β):PySem.KeyKind prog w Key where
 is:=mT
 hash:=Hq w
 inj:=fun v a b ha hb=>by
  rcases iY ha with⟨i,t,rfl,rfl⟩|⟨x,t,rfl,rfl⟩
  ·rcases iY hb with⟨j,u,rfl,e⟩|⟨y,u,rfl,e⟩
   ·injection e with e1 _;rw[e1]
   ·exact nomatch e
  ·rcases iY hb with⟨j,u,rfl,e⟩|⟨y,u,rfl,e⟩
   ·exact nomatch e
   ·injection e with e1 _;rw[e1]
 byValue:=fun k v h=>by rcases iY h with⟨i,t,rfl,rfl⟩|⟨x,t,rfl,rfl⟩<;>rfl
 pyHash:=fun hv h=>by
  rcases iY hv with⟨i,t,rfl,rfl⟩|⟨x,t,rfl,rfl⟩
  ·exact wpAny_pyHash_int h
  ·exact wpAny_pyHash_str h
 eqBool:=fun hu hv h=>by
  rcases iY hu with⟨i,t,rfl,rfl⟩|⟨x,t,rfl,rfl⟩
  ·rcases iY hv with⟨j,u,rfl,rfl⟩|⟨y,u,rfl,rfl⟩
   ·rw[CO]at h;exact wpAny_eqBool_int h
   ·rw[CU]at h;exact SeqAt.EqAt.int_str i t y u _ _ _ _ h
  ·rcases iY hv with⟨j,u,rfl,rfl⟩|⟨y,u,rfl,rfl⟩
   ·rw[CV]at h;exact SeqAt.EqAt.str_int x t j u _ _ _ _ h
   ·rw[CQ]at h;exact wpAny_eqBool_str h
 «strs»:=fun k x t v h=>by
  rcases iY h with⟨i,u,rfl,e⟩|⟨y,u,rfl,e⟩
  ·exact nomatch e
  ·injection e with e1 _;subst e1;cases v<;>rfl
theorem qz (prog:Ε)(w:Β)(i:Int)(t:Tok):(ja prog w).is (.inl i) (.int i t)=Θ:=u7 i t
theorem qA (prog:Ε)(w:Β)(x:Str)(t:Tok):(ja prog w).is (.inr x) (.str x t)=Θ:=u9 x t
inductive V where
 | Jt|bl (b:Bool)|int (i:Int)|str (x:Str)|OQ (b:Array UInt8)|TZ (b:UInt64)|ref (a:Ω)|ty (n:String)
 deriving DecidableEq
def RelV:V->Ψ->Prop
 |.Jt,u=>u=Value.none
 |.bl b,u=>u=Value.bool b
 |.int i,u=>∃t,u=Value.int i t
 |.str x,u=>∃t,u=Value.str x t
 |.OQ b,u=>∃t,u=Value.bytes b t
 |.TZ b,u=>∃t,u=Value.float b t
 |.ref a,u=>u=θ a
 |.ty n,u=>u=Value.type n
abbrev Vals:List V->List Ψ->Prop:=Paired RelV
theorem Vals.length (r:Vals xs us):xs.length=us.length:=Paired.length r
theorem Vals.get:∀ {xs:List V}{us:List Ψ}{i:Nat}{x:V},Vals xs us->xs[i]? = Δ x->∃u,us[i]? = Δ u/\RelV x u
 |_,_,_,_,.nil,e=>by simp at e
 |_,_,0,_,.cons r _,e=>by simp at e;subst e;exact⟨_,rfl,r⟩
 |_,_,i+1,x,.cons _ t,e=>by obtain⟨u,h1,h2⟩:=Vals.get (i:=i) (x:=x) t (by simpa using e);exact⟨u,by simpa using h1,h2⟩
theorem Vals.set (r:RelV x u):∀ {xs:List V}{us:List Ψ} (i:Nat),Vals xs us->Vals (xs.set i x) (us.set i u)
 |_,_,_,.nil=>.nil
 |_,_,0,.cons _ t=>.cons r t
 |_,_,i+1,.cons q t=>.cons q (Vals.set r i t)
theorem Vals.append:∀ {xs ys:List V}{us ws:List Ψ},Vals xs us->Vals ys ws->Vals (xs++ys) (us++ws)
 |_,_,_,_,.nil,s=>s
 |_,_,_,_,.cons r t,s=>.cons r (Vals.append t s)
theorem Vals.take:∀ {xs:List V}{us:List Ψ} (n:Nat),Vals xs us->Vals (xs.take n) (us.take n)
 |_,_,0,_=>.nil
 |_,_,_+1,.nil=>.nil
 |_,_,n+1,.cons r t=>.cons r (Vals.take n t)
theorem Vals.drop:∀ {xs:List V}{us:List Ψ} (n:Nat),Vals xs us->Vals (xs.drop n) (us.drop n)
 |_,_,0,r=>r
 |_,_,_+1,.nil=>.nil
 |_,_,n+1,.cons _ t=>Vals.drop n t
def mZ:Option V->Option Ψ->Prop
 |some v,Δ u=>RelV v u
 |none,Φ=>True
 |_,_=>False
def KV {κ:Type}:List (κ×V)->List (κ×Ψ)->Prop:=Paired fun(p:κ×V) (q:κ×Ψ)=>p.1=q.1/\RelV p.2 q.2
noncomputable def kV:Key->V
 |.inl i=>.int i
 |.inr x=>.str x
inductive HO where
 | lst (xs:List V)
 | tup (xs:List V)
 | dK (kvs:List (Key×V))|dT (kvs:List (List Key×V))
 | set (S:Int->Bool) (n:Nat)
 | ins (C dx:Ω) (fs:List (Str×V))
 | own (x:Ω)
 | xd (fs:List (Str×V))
 | met (f x:Ω)
 | M0 (lo hi:Int)
 | JM (o:Obj) (u:HO)
 | Oo (ps:Array Ψ)
 | ext (φ:Heap->Prop)
abbrev Hp:=Ω->Option HO
noncomputable def upd (H:Hp)(a:Ω)(o:HO):Hp:=fun b=>if b=a then Δ o else H b
theorem iM:upd H a o a=Δ o:=by unfold upd;rw[e_ rfl]
theorem iI (h:b≠a):upd H a o b=H b:=by unfold upd;rw[d_ h]
theorem Fb {H:Hp}{a b:Ω}{o u:HO}(h:H a=Δ o)(h':H b=Δ u)(d:o≠u):a≠b:=by intro e;subst e;rw[h]at h';exact d (J_ h')
theorem jg {H:Hp}{a b:Ω}{o:HO}(h:H a=Δ o)(h':H b=Φ):a≠b:=by intro e;subst e;rw[h]at h';cases h'
section
variable (P:Ε)(w:Β)
def iV (H:Hp)(h:Heap)(a:Ω):HO->Prop
 |.lst xs=>xs.length<=Ζ/\∃(its:List Ψ) (n:Nat),Vals xs its/\h.get? a=Δ {cls:=.type "list",data:=.seq its.toArray n}
 |.tup xs=>xs.length<=Ζ/\∃its:List Ψ,Vals xs its/\IsTup h a its.toArray
 |.dK kvs=>kvs.length<=Ζ/\(a == sysModules)=Ξ/\∃vs,KV kvs vs/\h.DictOf (ja P w) a vs
 |.dT kvs=>kvs.length<=Ζ/\(a == sysModules)=Ξ/\∃xs:List (List Key×Ω×Ψ),
   Paired (fun(p:List Key×V) (q:List Key×Ω×Ψ)=>p.1=q.1/\H q.2.1=Δ (.tup (p.1.map kV))/\RelV p.2 q.2.2) kvs xs/\
   ∃o es ep,h.get? a=Δ o/\o.ExactDict/\o.data=.dict es ep/\es.toList=xs.map (entryOfKey (tupleKind (ja P w)))/\(xs.map (·.1)).Nodup
 |.set S n=>h.SetOf (intKind P w) a S n
 |.ins C dx fs=>H dx=Δ (.own a)/\fs.length<=1000/\dx≠a/\h.get? a=Δ (PySem.W.instObj C dx)/\
   ∃mA,h.Ns1 dx mA/\(∀f,mZ (fs.lookup f) (mA f))/\PySem.Within mA (fs.map (·.1))
 |.own _=>∃o,h.get? a=Δ o
 |.xd fs=>∃mA,h.Ns1 a mA/\∀f,mZ (fs.lookup f) (mA f)
 |.M0 lo hi=>∃t u v,h.get? a=Δ {cls:=.type "range",data:=.fields #[.int lo t,.int hi u,.int 1 v]}
 |.JM o u=>h.get? a=Δ o/\iV H h a u
 |.Oo ps=>h.get? a=Δ {cls:=.none,data:=.fields ps}
 |.met f x=>h.get? a=Δ (PySem.W.methodObj (.ref f) (.ref x))
 |.ext φ=>φ h/\(∃o,h.get? a=Δ o)/\∀h1 h2:Heap,φ h1->(∀o,h1.get? a=Δ o->h2.get? a=Δ o)->φ h2
def J6 (H:Hp)(h:Heap):Prop:=∀a o,H a=Δ o->iV P w H h a o
end
section
variable {P:Ε}{w:Β}{H H':Hp}{h h':Heap}{a:Ω}{o:HO}
theorem iV.lt (x:iV P w H h a o):a < h.objs.size:=by
 cases o with
 |lst xs=>obtain⟨_,_,_,_,e⟩:=x;exact j_ e
 |tup xs=>obtain⟨_,_,_,p⟩:=x;exact p.lt
 |dK kvs=>obtain⟨_,_,_,_,o,_,_,e,_⟩:=x;exact j_ e
 |dT kvs=>obtain⟨_,_,_,_,o,_,_,e,_⟩:=x;exact j_ e
 |set S n=>obtain⟨o,_,_,_,e,_⟩:=x;exact j_ e
 |ins C dx fs=>obtain⟨_,_,_,e,_⟩:=x;exact j_ e
 |own y=>obtain⟨_,e⟩:=x;exact j_ e
 |xd fs=>obtain⟨_,⟨_,_,_,e,_⟩,_⟩:=x;exact j_ e
 |M0 lo hi=>obtain⟨_,_,_,e⟩:=x;exact j_ e
 |JM ob u=>obtain⟨e,_⟩:=x;exact j_ e
 |Oo ps=>exact j_ (show h.get? a=Δ _ from x)
 |met f y=>exact j_ (show h.get? a=Δ _ from x)
 |ext φ=>obtain⟨_,⟨_,e⟩,_⟩:=x;exact j_ e
theorem Paired.OR:∀ {l₁:List α}{l₂:List β},Paired F l₁ l₂->(∀a b,F a b->G a b)->Paired G l₁ l₂
 |_,_,.nil,_=>.nil
 |_,_,.cons r t,f=>.cons (f _ _ r) (Paired.OR t f)
theorem iV.Li (x:iV P w H h a o)(k:∀b u,(b=a∨H b=Δ (.own a))->h.get? b=Δ u->h'.get? b=Δ u)
  (ho:∀b,H b=Δ (.own a)->H' b=Δ (.own a)) (ht:∀b xs,H b=Δ (.tup xs)->H' b=Δ (.tup xs)):iV P w H' h' a o:=by
 induction o with
 |lst xs=>obtain⟨z,its,n,r,e⟩:=x;exact⟨z,its,n,r,k _ _ (.inl rfl) e⟩
 |tup xs=>obtain⟨z,its,r,ob,e,c⟩:=x;exact⟨z,its,r,ob,k _ _ (.inl rfl) e,c⟩
 |dK kvs=>obtain⟨z,y,vs,r,ob,es,ep,e,c⟩:=x;exact⟨z,y,vs,r,ob,es,ep,k _ _ (.inl rfl) e,c⟩
 |dT kvs=>obtain⟨z,y,xs,r,ob,es,ep,e,c⟩:=x;exact⟨z,y,xs,Paired.OR r fun p q z=>⟨z.1,ht _ _ z.2.1,z.2.2⟩,ob,es,ep,k _ _ (.inl rfl) e,c⟩
 |set S n=>obtain⟨ob,es,ep,t,e,c⟩:=x;exact⟨ob,es,ep,t,k _ _ (.inl rfl) e,c⟩
 |ins C dx fs=>obtain⟨d,z,ne,e,mA,⟨od,es,ep,e2,c⟩,r⟩:=x;exact⟨ho _ d,z,ne,k _ _ (.inl rfl) e,mA,⟨od,es,ep,k _ _ (.inr d) e2,c⟩,r⟩
 |own y=>obtain⟨ob,e⟩:=x;exact⟨ob,k _ _ (.inl rfl) e⟩
 |xd fs=>obtain⟨mA,⟨od,es,ep,e,c⟩,r⟩:=x;exact⟨mA,⟨od,es,ep,k _ _ (.inl rfl) e,c⟩,r⟩
 |M0 lo hi=>obtain⟨t,u,v,e⟩:=x;exact⟨t,u,v,k _ _ (.inl rfl) e⟩
 |JM ob u ih=>obtain⟨e,q⟩:=x;exact⟨k _ _ (.inl rfl) e,ih q⟩
 |Oo ps=>have e:h.get? a=Δ {cls:=.none,data:=.fields ps}:=x;show h'.get? a=Δ {cls:=.none,data:=.fields ps};exact k a _ (.inl rfl) e
 |met f y=>have e:h.get? a=Δ (PySem.W.methodObj (.ref f) (.ref y)):=x;show h'.get? a=Δ (PySem.W.methodObj (.ref f) (.ref y));exact k a _ (.inl rfl) e
 |ext φ=>obtain⟨p,⟨o,e⟩,st⟩:=x;exact⟨st _ _ p fun o q=>k _ _ (.inl rfl) q,⟨o,k _ _ (.inl rfl) e⟩,st⟩
theorem J6.lt (x:J6 P w H h)(e:H a=Δ o):a < h.objs.size:=(x a o e).lt
theorem J6.fresh (x:J6 P w H h)(e:h.objs.size<=a):H a=Φ:=by
 cases q:H a with
 |none=>rfl
 |some u=>exact absurd (B_ (x.lt q) e) (T_ _)
theorem J6.kept (x:J6 P w H h)(k:∀b u,h.get? b=Δ u->h'.get? b=Δ u):J6 P w H h':=fun a o e=>
 (x a o e).Li (fun b u _ q=>k b u q) (fun _ q=>q) fun _ _ q=>q
theorem J6.laid (x:J6 P w H h)(k:∀b u,h.get? b=Δ u->h'.get? b=Δ u)(hp:h.objs.size<=a)(new:iV P w (upd H a o) h' a o):J6 P w (upd H a o) h':=fun b u e=>by
 have hn:=x.fresh hp;by_cases hb:b=a
 ·subst hb;rw[iM]at e;cases e;exact new
 ·rw[iI hb]at e;exact(x b u e).Li (fun c v _ q=>k c v q) (fun c q=>by rw[iI (jg q hn)];exact q) fun c xs q=>by rw[iI (jg q hn)];exact q
end
def Rd (H:Hp)(a:Ω)(u:HO):Prop:=H a=Δ u∨∃o,H a=Δ (.JM o u)
theorem Rd.ok (r:Rd H a u)(x:J6 P w H h):iV P w H h a u:=by
 rcases r with r|⟨o,r⟩
 ·exact x a u r
 ·obtain⟨_,q⟩:=x a _ r;exact q
def QB:Option HO->Prop
 |some (.lst _)=>True
 |some (.dK _)=>True
 |some (.dT _)=>True
 |some (.set _ _)=>True
 |some (.ins _ _ _)=>True
 |some (.ext _)=>True
 |_=>False
section
variable {P:Ε}{w:Β}{H:Hp}{h h':Heap}{x e:Ω}{o':HO}
theorem J6.write (ok:J6 P w H h)(mu:QB (H x))(he:e=x∨H e=Δ (.own x))(k:∀b u,b≠e->h.get? b=Δ u->h'.get? b=Δ u)(P6:∃u,h'.get? e=Δ u)
  (new:iV P w (upd H x o') h' x o'):J6 P w (upd H x o') h':=fun b u q=>by
 have QC:∀c y,H c=Δ (.own y)->c≠x:=fun c y r z=>by subst z;rw[r]at mu;exact mu
 have T1:∀c xs,H c=Δ (.tup xs)->c≠x:=fun c xs r z=>by subst z;rw[r]at mu;exact mu
 by_cases hb:b=x
 ·subst hb;rw[iM]at q;cases q;exact new
 ·rw[iI hb]at q;by_cases OT:b=e
  ·have q':H b=Δ (.own x):=by
    rcases he with z|z
    ·exact absurd (OT.trans z) hb
    ·rw[OT];exact z
   rw[q]at q';cases q';obtain⟨v,hv⟩:=P6;exact⟨v,by rw[OT];exact hv⟩
  ·refine(ok b u q).Li (fun c v hc r=>k c v ?_ r) (fun c r=>by rw[iI (QC c b r)];exact r) fun c xs r=>by rw[iI (T1 c xs r)];exact r
   rcases hc with rfl|hc
   ·exact OT
   ·rintro rfl;rcases he with z|z
    ·exact QC c b hc z
    ·rw[hc]at z;cases z;exact hb rfl
end
structure Un (fs ex:List Ω)(H H':Hp)(h h':Heap):Prop where
 keep:∀b o,h.get? b=Δ o->H b=Φ->b∉fs->b∉ex->h'.get? b=Δ o
 slot:∀b o,h.get? b=Δ o->H b=Φ->b∈fs->b∉ex->∃sl,h'.get? b=Δ {o with slots:=sl}
 free:∀b o,h.get? b=Δ o->H b=Φ->b∉ex->H' b=Φ
 there:∀b o,h.get? b=Δ o->b∉ex->∃o',h'.get? b=Δ o'
 KY:∀b xs,H b=Δ (.tup xs)->H' b=Δ (.tup xs)
 Kw:∀b o u,H b=Δ (.JM o u)->H' b=Δ (.JM o u)
 LG:∀b ps,H b=Δ (.Oo ps)->∃more,H' b=Δ (.Oo (ps++more))
section
variable {fs fs' ex WA:List Ω}{H H1 H2:Hp}{h h1 h2 h':Heap}{a x e:Ω}{o:HO}
theorem Un.any (u:Un fs ex H H1 h h1)  (q:h.get? b=Δ ob)(n:H b=Φ)(hx:b∉ex):∃sl,h1.get? b=Δ {ob with slots:=sl}:=by
 by_cases hb:b∈fs
 ·exact u.slot b ob q n hb hx
 ·exact⟨ob.slots,u.keep b ob q n hb hx⟩
theorem Un.kept (k:∀b u,h.get? b=Δ u->h'.get? b=Δ u):Un fs ex H H h h':=
 ⟨fun b ob q _ _ _=>k b ob q,fun b ob q _ _ _=>⟨ob.slots,k b ob q⟩,fun _ _ _ n _=>n,fun b ob q _=>⟨ob,k b ob q⟩,fun _ _ q=>q,fun _ _ _ q=>q,fun _ ps q=>⟨#[],by rw[q];simp⟩⟩
theorem Un.refl:Un fs ex H H h h:=Un.kept fun _ _ q=>q
theorem Un.laid (k:∀b u,h.get? b=Δ u->h'.get? b=Δ u)(hp:h.objs.size<=a)(hn:H a=Φ):Un fs ex H (upd H a o) h h' where
 keep:=fun b u q _ _ _=>k b u q
 slot:=fun b u q _ _ _=>⟨u.slots,k b u q⟩
 free:=fun b u q n _=>by rw[iI (p_ (B_ (j_ q) hp))];exact n
 there:=fun b u q _=>⟨u,k b u q⟩
 KY:=fun b xs q=>by rw[iI (jg q hn)];exact q
 Kw:=fun b u xs q=>by rw[iI (jg q hn)];exact q
 LG:=fun b ps q=>⟨#[],by rw[iI (jg q hn),q];simp⟩
theorem Un.write (mu:QB (H x))(he:e=x∨H e=Δ (.own x))(k:∀b u,b≠e->h.get? b=Δ u->h'.get? b=Δ u)(P6:∃u,h'.get? e=Δ u):Un fs ex H (upd H x o) h h':=by
 have hx:∀b,H b=Φ->b≠x:=fun b n z=>by subst z;rw[n]at mu;exact mu
 have hb:∀b,H b=Φ->b≠e:=fun b n z=>by
  subst z;rcases he with r|r
  ·exact hx b n r
  ·rw[n]at r;cases r
 have hm:∀b u,H b=Δ u->¬QB (Δ u)->b≠x:=fun b u q nm z=>by subst z;rw[q]at mu;exact nm mu
 refine⟨fun b u q n _ _=>k b u (hb b n) q,fun b u q n _ _=>⟨u.slots,k b u (hb b n) q⟩,fun b u q n _=>by rw[iI (hx b n)];exact n,fun b u q _=>?_,
  fun b xs q=>by rw[iI (hm b _ q fun z=>z)];exact q,fun b u xs q=>by rw[iI (hm b _ q fun z=>z)];exact q,fun b ps q=>⟨#[],by rw[iI (hm b _ q fun z=>z),q];simp⟩⟩
 by_cases OT:b=e
 ·subst OT;exact P6
 ·exact⟨u,k b u OT q⟩
end
noncomputable def SA (h:Heap)(H:Hp):List Ω:=(List.range h.objs.size).filter fun a=>(H a).isSome
noncomputable def pR (h:Heap)(H:Hp):Heap:=PySem.W.hideAll h (SA h H)
theorem vd (h:Heap)(H:Hp):(pR h H).objs.size=h.objs.size:=PySem.W.hideAll_size _ _
theorem v8 (e:h.get? b=Δ o)(n:H b=Φ):(pR h H).get? b=Δ o:=
 PySem.W.hideAll_get _ e fun hm=>by have q:(H b).isSome=Θ:=(List.mem_filter.mp hm).2;rw[n]at q;simp at q
theorem Ab (e:(pR h H).get? b=Δ o):h.get? b=Δ o/\H b=Φ:=by
 have e':h.get? b=Δ o:=PySem.W.of_hideAll (SA h H) e;refine⟨e',?_⟩;cases q:H b with
 |none=>rfl
 |some x=>have hm:b∈SA h H:=List.mem_filter.mpr ⟨V_.mpr (j_ e'),by simp[q]⟩;have z:(pR h H).get? b=Φ:=PySem.W.hideAll_none (SA h H) hm;rw[z]at e;cases e
structure Mod (K:Frag)(mg:Str->Option Ψ)(base:Heap):Prop where
 SD:K.In base
 glob:base.Ns Η mg
 blt:∃mb,base.Ns builtinsNs mb/\∀x:Str,x≠"__name__"->mb x=bootBuiltins x
 nolimit:base.NoLimit
structure Cx where
 prog:Ε
 w:Β
 K:Frag
 mg:Str->Option Ψ
 base:Heap
 A:Ι
 N:List Str
 JZ:Α
 MI:Hp
 env:Env
 outer:List Env
 stack:List Env
 ex:List Ω
 fn:Str->Bool
 calm:Bool
 pn:List (Ω×Obj)
 xe:Ψ->Α->Prop
noncomputable def Lj (l:List Env):List Ω:=l.filterMap (·.frame)
noncomputable abbrev Cx.fs (X:Cx):List Ω:=Lj X.outer
def QE (sc:Scope)(x:Str):Prop:=sc.names.lookup x=Δ .local∨sc.names.lookup x=Δ .cell∨sc.names.lookup x=Δ .free
def Loc (sc:Scope)(x:Str):Prop:=sc.names.lookup x=Δ .local∨sc.names.lookup x=Δ .cell
def Look (env:Env)(h:Heap)(m:Str->Option Ψ)(x:Str)(u:Ψ):Prop:=
 (env.kindOf x=Δ .local/\m x=Δ u)∨((env.kindOf x=Δ .cell∨env.kindOf x=Δ .free)/\∃c,env.cells.lookup x=Δ c/\h.IsCell c (Δ u))
structure Cx.Ok (X:Cx):Prop where
 mod:Mod X.K X.mg X.base
 kind:X.env.scope.kind=.function
 glob:X.env.globals=Η
 blt:X.env.builtins=builtinsNs
 above:X.JZ.heap.objs.size<=X.env.locals
 inj:∀x y c,X.env.cells.lookup x=Δ c->X.env.cells.lookup y=Δ c->x=y
 has:∀x,(X.env.kindOf x=Δ .cell∨X.env.kindOf x=Δ .free)->∃c,X.env.cells.lookup x=Δ c
 SE:∀x c,X.fn x=Θ->X.env.cells.lookup x=Δ c->X.JZ.heap.objs.size<=c
 hd:X.calm=Θ->X.A.handled=Φ
 frames:X.A.frames=Δ X.stack
 Jw:X.stack=X.outer∨(X.stack=X.env::X.outer/\X.env.frame=Δ X.env.locals)
 T2:∀b∈X.ex,b≠X.env.locals/\∀x c,X.env.cells.lookup x=Δ c->c≠b
 bs:∀b o,X.base.get? b=Δ o->X.JZ.heap.get? b=Δ o/\X.MI b=Φ
 NQ:X.base.objs.size<=X.JZ.heap.objs.size
 NR:∀b o,X.base.get? b=Δ o->b∉X.ex
 NT:∀b∈X.ex,b∉X.fs
 KZ:X.JZ.heap.FunFrames X.base X.outer
 Nz:∀b∈X.fs,X.MI b=Φ
structure Inv (X:Cx)(pins:List (Ω×Obj))(σ:List (Option V))(H:Hp)(s:Α):Prop where
 ok:X.Ok
 os:s.os=X.JZ.os
 bare:AllBare s.gens
 base:Un X.fs X.ex X.MI H X.JZ.heap s.heap
 loc:∃m,s.heap.Ns X.env.locals m/\∀(i:Nat) (x:Str) (v:V),X.N[i]? = Δ x->σ[i]? = Δ (Δ v)->QE X.env.scope x->∃u,RelV v u/\Look X.env s.heap m x u
 cell:∀x c,X.env.cells.lookup x=Δ c->∃v,s.heap.IsCell c v
 free:H X.env.locals=Φ
 Ks:∀x c,X.env.cells.lookup x=Δ c->H c=Φ
 pin:∀p∈X.pn++pins,s.heap.get? p.1=Δ p.2/\H p.1=Φ/\p.1≠X.env.locals/\p.1∉X.fs/\∀v,p.2.data≠.cell v
 JD:J6 X.prog X.w H s.heap
 len:σ.length=X.N.length
section
variable {X:Cx}{pins:List (Ω×Obj)}{σ:List (Option V)}{H H':Hp}{s:Α}{h':Heap}
theorem Cx.Ok.T3 (ok:X.Ok)  (e:X.base.get? b=Δ o):b∉X.fs:=fun hb=>by have:=(ok.KZ.mem hb).1;rw[e]at this;cases this
theorem Inv.bs (I:Inv X pins σ H s):∀b o,X.base.get? b=Δ o->s.heap.get? b=Δ o/\H b=Φ:=fun b o e=>
 ⟨I.base.keep b o (I.ok.bs b o e).1 (I.ok.bs b o e).2 (I.ok.T3 e) (I.ok.NR b o e),I.base.free b o (I.ok.bs b o e).1 (I.ok.bs b o e).2 (I.ok.NR b o e)⟩
theorem Inv.bk (I:Inv X pins σ H s):∀b o,X.base.get? b=Δ o->s.heap.get? b=Δ o:=fun b o e=>(I.bs b o e).1
theorem Inv.mod (I:Inv X pins σ H s):Mod X.K X.mg X.base:=I.ok.mod
theorem Inv.LX (I:Inv X pins σ H s):X.K.In s.heap:=I.ok.mod.SD.keeps I.bk
theorem Inv.lt (I:Inv X pins σ H s):X.env.locals < s.heap.objs.size:=let ⟨_,hn,_⟩:=I.loc;hn.lt
theorem Inv.sz (I:Inv X pins σ H s):X.JZ.heap.objs.size<=s.heap.objs.size:=D_ I.ok.above (Nat.le_of_lt I.lt)
theorem Inv.T4 (I:Inv X pins σ H s)  (h:s.heap.objs.size<=a):a∉X.fs:=fun hb=>by obtain⟨_,o,ho,_⟩:=I.ok.KZ.mem hb;exact absurd (B_ (j_ ho) (D_ I.sz h)) (T_ _)
theorem Inv.OU (I:Inv X pins σ H s):∀x c,X.env.cells.lookup x=Δ c->c≠X.env.locals:=fun x c e z=>by obtain⟨v,o,ho,hd⟩:=I.cell x c e;obtain⟨m,⟨o',es,ep,MJ,Yv,_⟩,_⟩:=I.loc;rw[z,MJ]at ho;cases ho;rw[Yv]at hd;cases hd
theorem Inv.KZ (I:Inv X pins σ H s):s.heap.FunFrames X.base X.outer:=by
 have all:∀(l:List Env),(∀b∈Lj l,b∈X.fs)->X.JZ.heap.FunFrames X.base l->s.heap.FunFrames X.base l:=by
  intro l
  induction l with
  |nil=>intro _ _;trivial
  |cons env r ih=>intro hs hl;obtain⟨hk,⟨L,o,hf,hn,ho,hd⟩,hr⟩:=hl;have hL:L∈X.fs:=hs L (by unfold Lj;rw[List.filterMap_cons,hf];exact aaD);obtain⟨sl,e⟩:=I.base.slot L o ho (I.ok.Nz L hL) hL fun z=>I.ok.NT L z hL;exact⟨hk,⟨L,_,hf,hn,e,hd⟩,ih (fun b hb=>hs b (by unfold Lj;rw[List.filterMap_cons,hf];exact H_ _ hb)) hr⟩
 exact all X.outer (fun _ hb=>hb) I.ok.KZ
theorem Inv.stack (I:Inv X pins σ H s):s.heap.FunFrames X.base X.stack:=by
 rcases I.ok.Jw with e|⟨e,hf⟩
 ·rw[e];exact I.KZ
 ·rw[e];obtain⟨m,hn,_⟩:=I.loc;refine .cons (by rw[I.ok.kind];decide) hf hn ?_ I.KZ;exact Heap.get?_none_of_le (D_ I.ok.NQ I.ok.above)
theorem Inv.L' (I:Inv X pins σ H s):∀b∈Lj X.stack,b∈X.env.locals::X.fs:=fun b hb=>by
 rcases I.ok.Jw with e|⟨e,hf⟩
 ·rw[e]at hb;exact H_ _ hb
 ·rw[e]at hb;unfold Lj at hb;rw[List.filterMap_cons,hf]at hb;exact hb
theorem Inv.Mn (I:Inv X pins σ H s):∀b∈Lj X.stack,H b=Φ:=fun b hb=>by
 rcases k_.mp (I.L' b hb) with e|hb
 ·rw[e];exact I.free
 ·obtain⟨_,o,ho,_⟩:=I.ok.KZ.mem hb;exact I.base.free b o ho (I.ok.Nz b hb) fun z=>I.ok.NT b z hb
theorem Inv.step {g':Array GenState}{t':Nat}{d':Drawn}{ch:List Ω}(I:Inv X pins σ H s)
  (Ma:∀b∈ch,(b∈X.ex∨X.JZ.heap.objs.size<=b)/\b≠X.env.locals/\(∀x c,X.env.cells.lookup x=Δ c->c≠b)/\∀p∈X.pn++pins,p.1≠b)
  (keep:∀b o,b≠X.env.locals->b∉X.fs->b∉ch->s.heap.get? b=Δ o->H b=Φ->h'.get? b=Δ o)
  (slot:∀b o,b≠X.env.locals->b∈X.fs->b∉ch->s.heap.get? b=Δ o->H b=Φ->∃sl,h'.get? b=Δ {o with slots:=sl}) (free:∀b o,b∉ch->s.heap.get? b=Δ o->H b=Φ->H' b=Φ)
  (there:∀b o,b∉ch->s.heap.get? b=Δ o->∃o',h'.get? b=Δ o')
  (KY:∀b xs,H b=Δ (.tup xs)->H' b=Δ (.tup xs)) (Kw:∀b o u,H b=Δ (.JM o u)->H' b=Δ (.JM o u)) (LG:∀b ps,H b=Δ (.Oo ps)->∃more,H' b=Δ (.Oo (ps++more)))
  (ns:∀m,s.heap.Ns X.env.locals m->h'.Ns X.env.locals m) (JD:J6 X.prog X.w H' h') (hg:AllBare g') :
  Inv X pins σ H' {s with heap:=h',gens:=g',drawn:=d',toks:=t'}:=by
 have WB:∀b o,X.JZ.heap.get? b=Δ o->b≠X.env.locals:=fun b o e=>p_ (B_ (j_ e) I.ok.above);have SF:∀b o,X.JZ.heap.get? b=Δ o->b∉X.ex->b∉ch:=fun b o e hx hb=>by
  rcases(Ma b hb).1 with z|z
  ·exact hx z
  ·exact absurd (B_ (j_ e) z) (T_ _)
 have cellK:∀x c,X.env.cells.lookup x=Δ c->∀v,s.heap.IsCell c v->h'.IsCell c v:=fun x c e v ⟨o,ho,hd⟩=>by
  have QF:c∉ch:=fun z=>(Ma c z).2.2.1 x c e rfl;by_cases hc:c∈X.fs
  ·obtain⟨sl,q⟩:=slot c o (I.OU x c e) hc QF ho (I.Ks x c e);exact⟨_,q,hd⟩
  ·exact⟨o,keep c o (I.OU x c e) hc QF ho (I.Ks x c e),hd⟩
 refine⟨I.ok,I.os,hg,⟨fun b o e n hb hx=>?_,fun b o e n hb hx=>?_,fun b o e n hx=>?_,fun b o e hx=>?_,fun b xs e=>KY b xs (I.base.KY b xs e),fun b o xs e=>Kw b o xs (I.base.Kw b o xs e),fun b ps e=>?_⟩,?_,fun x c e=>?_,?_,fun x c e=>?_,fun p hp=>?_,JD,I.len⟩
 ·exact keep b o (WB b o e) hb (SF b o e hx) (I.base.keep b o e n hb hx) (I.base.free b o e n hx)
 ·obtain⟨sl,e1⟩:=I.base.slot b o e n hb hx;obtain⟨Yw,e2⟩:=slot b _ (WB b o e) hb (SF b o e hx) e1 (I.base.free b o e n hx);exact⟨Yw,e2⟩
 ·obtain⟨o',e1⟩:=I.base.there b o e hx;exact free b o' (SF b o e hx) e1 (I.base.free b o e n hx)
 ·obtain⟨o',e1⟩:=I.base.there b o e hx;exact there b o' (SF b o e hx) e1
 ·obtain⟨m1,e1⟩:=I.base.LG b ps e;obtain⟨m2,e2⟩:=LG b _ e1;exact⟨m1++m2,by rw[e2,Array.append_assoc]⟩
 ·obtain⟨m,hn,hl⟩:=I.loc;refine⟨m,ns m hn,fun i x v e1 e2 e3=>?_⟩;obtain⟨u,r,l⟩:=hl i x v e1 e2 e3;refine⟨u,r,?_⟩;rcases l with l|⟨k,c,e,z⟩
  ·exact .inl l
  ·exact .inr ⟨k,c,e,cellK x c e _ z⟩
 ·obtain⟨v,z⟩:=I.cell x c e;exact⟨v,cellK x c e v z⟩
 ·obtain⟨m,⟨o,_,_,ho,_⟩,_⟩:=I.loc;exact free _ o (fun z=>(Ma _ z).2.1 rfl) ho I.free
 ·obtain⟨v,o,ho,hd⟩:=I.cell x c e;exact free c o (fun z=>(Ma c z).2.2.1 x c e rfl) ho (I.Ks x c e)
 ·obtain⟨e,n,ne,nf,d⟩:=I.pin p hp;have QF:p.1∉ch:=fun z=>(Ma p.1 z).2.2.2 p hp rfl;exact⟨keep p.1 p.2 ne nf QF e n,free p.1 p.2 QF e n,ne,nf,d⟩
theorem Inv.un (I:Inv X pins σ H s)(u:Un X.fs [] H H' s.heap h')(JD:J6 X.prog X.w H' h'):Inv X pins σ H' {s with heap:=h',toks:=t'}:=by
 obtain⟨m,⟨o,es,ep,ho,r⟩,_⟩:=id I.loc;obtain⟨sl,hL⟩:=u.any ho I.free (by simp)
 exact I.step (g':=s.gens) (d':=s.drawn) (ch:=[]) (fun _ z=>nomatch z) (fun b o _ hb _ e n=>u.keep b o e n hb (by simp)) (fun b o _ hb _ e n=>u.slot b o e n hb (by simp)) (fun b o _ e n=>u.free b o e n (by simp)) (fun b o _ e=>u.there b o e (by simp)) u.KY u.Kw u.LG (fun m' hm=>by
  obtain⟨o',es',T5,MJ,r'⟩:=hm;rw[ho]at MJ;cases MJ
  exact⟨_,es',T5,hL,r'⟩) JD I.bare
theorem Inv.call (I:Inv X pins σ H s)(u:Un (Lj X.stack) ch H H' s.heap h')(JD:J6 X.prog X.w H' h')(hg:AllBare g')
  (Ma:∀b∈ch,(b∈X.ex∨X.JZ.heap.objs.size<=b)/\b≠X.env.locals/\(∀x c,X.env.cells.lookup x=Δ c->c≠b)/\∀p∈X.pn++pins,p.1≠b) :
  Inv X pins σ H' {s with heap:=h',gens:=g',drawn:=d',toks:=t'}:=by
 obtain⟨m,⟨o,es,ep,ho,r⟩,_⟩:=id I.loc;obtain⟨sl,hL⟩:=u.any ho I.free fun z=>(Ma _ z).2.1 rfl
 exact I.step (ch:=ch) Ma (fun b o hL hb hc e n=>u.keep b o e n (fun z=>(k_.mp (I.L' b z)).elim hL hb) hc) (fun b o _ _ hc e n=>u.any e n hc) (fun b o hc e n=>u.free b o e n hc) (fun b o hc e=>u.there b o e hc) u.KY u.Kw u.LG (fun m' hm=>by
  obtain⟨o',es',T5,MJ,r'⟩:=hm;rw[ho]at MJ;cases MJ
  exact⟨_,es',T5,hL,r'⟩) JD hg
theorem Inv.turned (I:Inv X pins σ H s)(k:∀b o,b≠it->s.heap.get? b=Δ o->h'.get? b=Δ o)(hn:H it=Φ)(hL:it≠X.env.locals)
  (h1:it∈X.ex∨X.JZ.heap.objs.size<=it) (h2:∀x c,X.env.cells.lookup x=Δ c->c≠it) (h3:∀p∈X.pn++pins,p.1≠it):Inv X pins σ H {s with heap:=h',toks:=t'}:=by
 have Oq:∀b u,H b=Δ u->b≠it:=fun b u e z=>by rw[z,hn]at e;cases e
 refine I.step (g':=s.gens) (d':=s.drawn) (ch:=[it]) (fun b hb=>?_) (fun b o _ _ hc e _=>k b o (fun z=>hc (by simp[z])) e) (fun b o _ _ hc e _=>⟨o.slots,k b o (fun z=>hc (by simp[z])) e⟩) (fun _ _ _ _ n=>n)
  (fun b o hc e=>⟨o,k b o (fun z=>hc (by simp[z])) e⟩) (fun _ _ e=>e) (fun _ _ _ e=>e) (fun b ps e=>⟨#[],by rw[e];simp⟩) (fun m hm=>?_) (fun b u e=>?_) I.bare
 ·have e:b=it:=by simpa using hb
  subst e;exact⟨h1,hL,h2,h3⟩
 ·obtain⟨o,es,ep,ho,r⟩:=hm;exact⟨o,es,ep,k _ o (Ne.symm hL) ho,r⟩
 ·refine(I.JD b u e).Li (fun c v hc q=>k c v ?_ q) (fun _ q=>q) fun _ _ q=>q;rcases hc with z|z
  ·rw[z];exact Oq b u e
  ·exact Oq c _ z
theorem Inv.tok (I:Inv X pins σ H s)(t:Nat):Inv X pins σ H {s with toks:=t}:=I.un (h':=s.heap) (t':=t) Un.refl I.JD
theorem Inv.kept (I:Inv X pins σ H s)(k:∀b u,s.heap.get? b=Δ u->h'.get? b=Δ u):Inv X pins σ H {s with heap:=h',toks:=t'}:=I.un (Un.kept k) (I.JD.kept k)
theorem Inv.laid (I:Inv X pins σ H s)(k:∀b u,s.heap.get? b=Δ u->h'.get? b=Δ u)(hp:s.heap.objs.size<=a)(new:iV X.prog X.w (upd H a o) h' a o) :
  Inv X pins σ (upd H a o) {s with heap:=h',toks:=t'}:=I.un (Un.laid k hp (I.JD.fresh hp)) (I.JD.laid k hp new)
theorem Inv.write (I:Inv X pins σ H s)(mu:QB (H x))(he:e=x∨H e=Δ (.own x))(k:∀b u,b≠e->s.heap.get? b=Δ u->h'.get? b=Δ u)(P6:∃u,h'.get? e=Δ u)
  (new:iV X.prog X.w (upd H x o) h' x o):Inv X pins σ (upd H x o) {s with heap:=h',toks:=t'}:=I.un (Un.write mu he k P6) (I.JD.write mu he k P6 new)
theorem Inv.Mo (I:Inv X pins σ H s)(h:∀p∈QG,s.heap.get? p.1=Δ p.2/\H p.1=Φ/\p.1≠X.env.locals/\p.1∉X.fs/\∀v,p.2.data≠.cell v):Inv X QG σ H s:=
 ⟨I.ok,I.os,I.bare,I.base,I.loc,I.cell,I.free,I.Ks,fun p hp=>(C_.mp hp).elim (fun z=>I.pin p (s_ _ z)) (h p),I.JD,I.len⟩
theorem qB {N:List Str}(hN:N.Nodup){i j:Nat}{x:Str}(a:N[i]? = Δ x)(b:N[j]? = Δ x):i=j:=by obtain⟨h1,e1⟩:=x_.mp a;obtain⟨h2,e2⟩:=x_.mp b;exact(List.getElem_inj hN).mp (e1.trans e2.symm)
theorem o6 (I:Inv X pins σ H s)(hN:X.N.Nodup)(hi:X.N[i]? = Δ x)(hx:Loc X.env.scope x)(r:RelV v u)
  (h:∀s',Inv X pins (σ.set i (Δ v)) H s'->(∃a,Heap.SameBut a s.heap s'.heap/\(a=X.env.locals∨X.env.cells.lookup x=Δ a))->Q () s') (hf:X.fn x=Θ∨X.env.scope.names.lookup x=Δ .local:=by first|exact .inl rfl|exact .inr rfl|assumption):Κ M A (storeName X.env x u) Q E s:=by
 obtain⟨m,hn,hl⟩:=id I.loc;have T6:(X.env.scope.kind == .class||(X.env.scope.kind == .module&&X.env.locals != X.env.globals))=Ξ:=by rw[I.ok.kind];rfl
 have QH:i < σ.length:=by rw[I.len];exact(x_.mp hi).1
 have OU:=I.OU;have tracked:∀ {a:Ω}{h':Heap},(∃o,s.heap.get? a=Δ o/\H a=Φ)->Heap.SameBut a s.heap h'->J6 X.prog X.w H h':=fun {a h'} ha hs b ob e=>by
  obtain⟨_,_,Mp⟩:=ha;refine(I.JD b ob e).Li (fun c w' hc q=>(hs.2 c ?_).trans q) (fun _ q=>q) fun _ _ q=>q;rintro rfl;rcases hc with rfl|hc
  ·rw[Mp]at e;cases e
  ·rw[Mp]at hc;cases hc
 rcases hx with hk|hk
 ·refine wpAny_storeName_local hk hn (fun h' LR hs=>?_) T6;obtain⟨oL,_,_,Yx,_⟩:=id hn;refine h _ ⟨I.ok,I.os,I.bare,⟨fun b o e n hb hx=>?_,fun b o e n hb hx=>?_,I.base.free,fun b o e hx=>?_,I.base.KY,I.base.Kw,I.base.LG⟩,⟨_,LR,fun j y v' e1 e2 e3=>?_⟩,fun y c e=>?_,I.free,I.Ks,fun p hp=>?_,tracked ⟨oL,Yx,I.free⟩ hs,by simpa using I.len⟩ ⟨_,hs,.inl rfl⟩
  ·exact(hs.2 b (p_ (B_ (j_ e) I.ok.above))).trans (I.base.keep b o e n hb hx)
  ·obtain⟨sl,e1⟩:=I.base.slot b o e n hb hx;exact⟨sl,(hs.2 b (p_ (B_ (j_ e) I.ok.above))).trans e1⟩
  ·obtain⟨o',e1⟩:=I.base.there b o e hx;exact⟨o',(hs.2 b (p_ (B_ (j_ e) I.ok.above))).trans e1⟩
  ·by_cases hj:j=i
   ·subst hj;rw[hi]at e1;cases e1;rw[List.getElem?_set_self QH]at e2;cases e2;exact⟨u,r,.inl ⟨hk,by simp⟩⟩
   ·rw[aaE (Ne.symm hj)]at e2;obtain⟨u',r',q⟩:=hl j y v' e1 e2 e3;refine⟨u',r',?_⟩;rcases q with⟨k,e⟩|⟨k,c,e,z⟩
    ·refine .inl ⟨k,?_⟩;have:y≠x:=fun e=>hj (qB hN e1 (e ▸ hi));simp[this,e]
    ·exact .inr ⟨k,c,e,z.sameBut hs (OU y c e)⟩
  ·obtain⟨w',z⟩:=I.cell y c e;exact⟨w',z.sameBut hs (OU y c e)⟩
  ·obtain⟨e,n,ne,nf,d⟩:=I.pin p hp;exact⟨(hs.2 p.1 ne).trans e,n,ne,nf,d⟩
 ·have M6:X.fn x=Θ:=by
   rcases hf with z|z
   ·exact z
   ·rw[z]at hk;cases hk
  obtain⟨c,hc⟩:=I.ok.has x (.inl hk);obtain⟨w',z⟩:=I.cell x c hc;refine wpAny_storeName_cell I.ok.kind hk hc z (fun h' P7 hs=>?_);obtain⟨oc,WC,T7⟩:=id z;refine h {s with heap:=h'} ⟨I.ok,I.os,I.bare,⟨fun b o e n hb hx=>?_,fun b o e n hb hx=>?_,I.base.free,fun b o e hx=>?_,I.base.KY,I.base.Kw,I.base.LG⟩,⟨m,hn.sameBut hs (Ne.symm (OU x c hc)),fun j y v' e1 e2 e3=>?_⟩,fun y c' e=>?_,I.free,I.Ks,fun p hp=>?_,tracked ⟨oc,WC,I.Ks x c hc⟩ hs,by simpa using I.len⟩ ⟨c,hs,.inr hc⟩
  ·exact(hs.2 b (p_ (B_ (j_ e) (I.ok.SE x c M6 hc)))).trans (I.base.keep b o e n hb hx)
  ·obtain⟨sl,e1⟩:=I.base.slot b o e n hb hx;exact⟨sl,(hs.2 b (p_ (B_ (j_ e) (I.ok.SE x c M6 hc)))).trans e1⟩
  ·obtain⟨o',e1⟩:=I.base.there b o e hx;exact⟨o',(hs.2 b (p_ (B_ (j_ e) (I.ok.SE x c M6 hc)))).trans e1⟩
  ·by_cases hj:j=i
   ·subst hj;rw[hi]at e1;cases e1;rw[List.getElem?_set_self QH]at e2;cases e2;exact⟨u,r,.inr ⟨.inl hk,c,hc,P7⟩⟩
   ·rw[aaE (Ne.symm hj)]at e2;obtain⟨u',r',q⟩:=hl j y v' e1 e2 e3;refine⟨u',r',?_⟩;rcases q with q|⟨k,c',e,z'⟩
    ·exact .inl q
    ·refine .inr ⟨k,c',e,z'.sameBut hs ?_⟩;rintro rfl;exact hj (qB hN e1 (I.ok.inj _ _ _ e hc ▸ hi))
  ·by_cases WE:c'=c
   ·subst WE;exact⟨_,P7⟩
   ·obtain⟨w2,z2⟩:=I.cell y c' e;exact⟨w2,z2.sameBut hs WE⟩
  ·obtain⟨e,n,ne,nf,d⟩:=I.pin p hp;refine⟨(hs.2 p.1 ?_).trans e,n,ne,nf,d⟩;intro q;rw[q,WC]at e;have q':oc=p.2:=J_ e;exact d w' (by rw[<- q'];exact T7)
theorem qC (I:Inv X pins σ H s)(hN:X.N.Nodup)(hi:X.N[i]? = Δ x)(hx:Loc X.env.scope x)(r:RelV v u)
  (h:∀s',Inv X pins (σ.set i (Δ v)) H s'->Q () s') (hf:X.fn x=Θ∨X.env.scope.names.lookup x=Δ .local:=by first|exact .inl rfl|exact .inr rfl|assumption):Κ M A (storeName X.env x u) Q E s:=
 o6 I hN hi hx r (fun s' I' _=>h s' I') hf
theorem Inv.QI (I:Inv X pins σ H s)(ho:s'.os=s.os)(u:Un (Lj X.stack) ch H H' s.heap s'.heap)(JD:J6 X.prog X.w H' s'.heap)(hg:AllBare s'.gens)
  (Ma:∀b∈ch,(b∈X.ex∨X.JZ.heap.objs.size<=b)/\b≠X.env.locals/\(∀x c,X.env.cells.lookup x=Δ c->c≠b)/\∀p∈X.pn++pins,p.1≠b):Inv X pins σ H' s':=by
 obtain⟨h',g',d',t',o'⟩:=s';have e:o'=s.os:=ho;subst e;exact I.call (g':=g') (t':=t') (d':=d') u JD hg Ma
end
abbrev XK:=Ψ->Option Ω->Hp->Prop
abbrev St:=List (Option V)
abbrev VK:=V->Hp->Prop
abbrev TE:=St->Hp->VK->Prop
abbrev TT:=St->Hp->(Bool->Hp->Prop)->Prop
abbrev TA:=St->Hp->(List V->Hp->Prop)->Prop
structure Ends where
 nx:St->Hp->Prop
 rt:VK
 bk:St->Hp->Prop:=fun _ _=>False
 ct:St->Hp->Prop:=fun _ _=>False
abbrev TS:=Ends->St->Hp->Prop
def EP (X:Cx)(pins:List (Ω×Obj))(σ:St)(Q:VK)(u:Ψ)(s':Α):Prop:=∃v H',Inv X pins σ H' s'/\RelV v u/\Q v H'
def TP (X:Cx)(pins:List (Ω×Obj))(σ:St)(Q:Bool->Hp->Prop)(b:Bool)(s':Α):Prop:=∃H',Inv X pins σ H' s'/\Q b H'
def AP (X:Cx)(pins:List (Ω×Obj))(σ:St)(Q:List V->Hp->Prop)(us:List Ψ)(s':Α):Prop:=∃vs H',Inv X pins σ H' s'/\Vals vs us/\Q vs H'
def SP (X:Cx)(pins:List (Ω×Obj))(D:Ends)(f:Flow)(s':Α):Prop:=
 match f with
 |.next=>∃JC H',Inv X pins JC H' s'/\D.nx JC H'
 |.brk=>∃JC H',Inv X pins JC H' s'/\D.bk JC H'
 |.cont=>∃JC H',Inv X pins JC H' s'/\D.ct JC H'
 |.ret u=>∃v JC H',Inv X pins JC H' s'/\RelV v u/\D.rt v H'
def PE (X:Cx)(e:Expr)(t:TE):Prop:=
 ∀(pins:List (Ω×Obj)) (s:Α) (σ:St) (H:Hp) (Q:VK),Inv X pins σ H s->t σ H Q->Κ (Μ X.prog X.w) X.A (eval e X.env) (EP X pins σ Q) X.xe s
def PT (X:Cx)(e:Expr)(t:TT):Prop:=
 ∀(pins:List (Ω×Obj)) (s:Α) (σ:St) (H:Hp) (Q:Bool->Hp->Prop),Inv X pins σ H s->t σ H Q->Κ (Μ X.prog X.w) X.A (isTrue e X.env (eval e X.env)) (TP X pins σ Q) X.xe s
def PW (X:Cx)(e:Expr)(t:TT):Prop:=
 ∀(whole:Sem Ψ) (pins:List (Ω×Obj)) (s:Α) (σ:St) (H:Hp) (Q:Bool->Hp->Prop),Inv X pins σ H s->t σ H Q->Κ (Μ X.prog X.w) X.A (isTrue e X.env whole) (TP X pins σ Q) X.xe s
theorem PW.pt (h:PW X e t):PT X e t:=h _
def PA (X:Cx)(es:List Expr)(t:TA):Prop:=
 ∀(pos:Pos) (pins:List (Ω×Obj)) (s:Α) (σ:St) (H:Hp) (Q:List V->Hp->Prop),Inv X pins σ H s->t σ H Q->Κ (Μ X.prog X.w) X.A (spliced (backTo pos (Ν es X.env))) (AP X pins σ Q) X.xe s
def PS (X:Cx)(st:Stmt)(t:TS):Prop:=
 ∀(pins:List (Ω×Obj)) (s:Α) (σ:St) (H:Hp) (D:Ends),Inv X pins σ H s->t D σ H->Κ (Μ X.prog X.w) X.A (exec st X.env) (SP X pins D) X.xe s
def L7 (X:Cx)(st:List Stmt)(t:TS):Prop:=
 ∀(pins:List (Ω×Obj)) (s:Α) (σ:St) (H:Hp) (D:Ends),Inv X pins σ H s->t D σ H->Κ (Μ X.prog X.w) X.A (execs st X.env) (SP X pins D) X.xe s
theorem JG (h:Κ M A t Q E s)(hQ:∀a s,Q a s->Q' a s):Κ M A t Q' E s:=wpAny_mono h hQ fun _ _ x=>x
section
variable {X:Cx}
def CW (i:Nat):TE:=fun σ H Q=>∃v,σ[i]? = Δ (Δ v)/\Q v H
def tC (v:V):TE:=fun _ H Q=>Q v H
theorem v9 (hN:X.N[i]? = Δ x)(hv:QE X.env.scope x)(hd:(x == ("__debug__" : Str))=Ξ:=by decide) (NV:(x == ("__classdict__" : Str))=Ξ:=by decide):PE X (.Name x pos) (CW i):=by
 intro pins s σ H Q I h;obtain⟨v,e,h⟩:=h;obtain⟨m,hn,hl⟩:=I.loc;obtain⟨u,r,l⟩:=hl i x v hN e hv;have fin:EP X pins σ Q u s:=⟨v,H,I,r,h⟩
 rcases l with⟨hk,hm⟩|⟨hk,c,hc,Ot⟩
 ·exact wpAny_Name (wpAny_loadName_local I.ok.kind hk hn hm fin) hd
 ·rcases hk with hk|hk
  ·exact wpAny_Name (wpAny_loadName_cell I.ok.kind hk hc Ot fin) hd
  ·exact wpAny_Name (wpAny_loadName_free I.ok.kind hk hc Ot fin NV) hd
theorem CY {i j pos}:PE X (.Constant (.int i) j pos) (tC (.int i)):=fun _ _ _ H _ I h=>wpAny_Constant_int ⟨.int i,H,I.tok _,⟨_,rfl⟩,h⟩
theorem Fd {b j pos}:PE X (.Constant (.bool b) j pos) (tC (.bl b)):=fun _ _ _ H _ I h=>Constant_bool ⟨.bl b,H,I,rfl,h⟩
theorem CZ {j pos}:PE X (.Constant .none j pos) (tC .Jt):=fun _ _ _ H _ I h=>Constant_none ⟨.Jt,H,I,rfl,h⟩
theorem C0 {x j pos}:PE X (.Constant (.str x) j pos) (tC (.str x)):=fun _ _ _ H _ I h=>Calls.Constant_str ⟨.str x,H,I.tok _,⟨_,rfl⟩,h⟩
def Gl (X:Cx)(x:Str):Prop:=X.env.kindOf x=Δ .globalImplicit
theorem pS (I:Inv X pins σ H s)(hg:Gl X x)(hm:X.mg x=Δ u)(h:Q u s)
  (hd:(x == ("__debug__" : Str))=Ξ:=by decide):Κ (Μ X.prog X.w) X.A (eval (.Name x pos) X.env) Q E s:=
 Calls.Name_function_global I.ok.kind hg (Calls.loadGlobal_global (by rw[I.ok.glob];exact I.mod.glob.keeps I.bk) hm h) hd
theorem kD (I:Inv X pins σ H s)(hg:Gl X x)(hm:X.mg x=Φ)(hv:bootBuiltins x=Δ u)(h:Q u s)
  (hn:x≠"__name__":=by decide) (hd:(x == ("__debug__" : Str))=Ξ:=by decide):Κ (Μ X.prog X.w) X.A (eval (.Name x pos) X.env) Q E s:=by
 obtain⟨mb,h1,h2⟩:=I.mod.blt;exact Calls.Name_function_global I.ok.kind hg (Calls.loadGlobal_builtin (by rw[I.ok.glob];exact I.mod.glob.keeps I.bk) hm (by rw[I.ok.blt];exact h1.keeps I.bk) ((h2 x hn).trans hv) h) hd
theorem Ac (hg:Gl X x)(hm:X.mg x=Δ u)(r:RelV v u)(hd:(x == ("__debug__" : Str))=Ξ:=by decide):PE X (.Name x pos) (tC v):=
 fun _ _ _ H _ I h=>pS I hg hm ⟨v,H,I,r,h⟩ hd
theorem Ad (hg:Gl X x)(hm:X.mg x=Φ)(hv:bootBuiltins x=Δ u)(r:RelV v u)(hn:x≠"__name__":=by decide) (hd:(x == ("__debug__" : Str))=Ξ:=by decide):PE X (.Name x pos) (tC v):=
 fun _ _ _ H _ I h=>kD I hg hm hv ⟨v,H,I,r,h⟩ hn hd
variable {a b:Expr}{ta tb:TE}{pos:Pos}
variable {tA SH:TT}{rest:List Expr}
def Fe (t u:TT):TT:=fun σ H Q=>t σ H fun c H1=>if c=Θ then u σ H1 Q else Q Ξ H1
def Yy (t u:TT):TT:=fun σ H Q=>t σ H fun c H1=>if c=Θ then Q Θ H1 else u σ H1 Q
def Hr (t:TT):TT:=fun σ H Q=>t σ H fun c H1=>Q (!c) H1
theorem Ae (ha:PT X a tA):PW X (.BoolOp .And [a] pos) tA:=by
 intro wh pins s σ H Q I h;refine isTrue_and (JG (ha pins s σ H Q I h) fun c s1 e=>?_);cases c with
 |true=>exact isTrue_and_nil e
 |false=>exact e
theorem C3 (ha:PT X a tA):PW X (.BoolOp .Or [a] pos) tA:=by
 intro wh pins s σ H Q I h;refine isTrue_or (JG (ha pins s σ H Q I h) fun c s1 e=>?_);cases c with
 |false=>exact isTrue_or_nil e
 |true=>exact e
theorem C4 (ha:PT X a tA)(hb:PW X (.BoolOp .And (b::rest) pos) SH):PW X (.BoolOp .And (a::b::rest) pos) (Fe tA SH):=by
 intro wh pins s σ H Q I h;refine isTrue_and (JG (ha pins s σ H _ I h) fun c s1 ⟨H1,I1,q1⟩=>?_);cases c with
 |true=>exact hb wh pins s1 σ H1 Q I1 q1
 |false=>exact⟨H1,I1,q1⟩
theorem Ff (ha:PT X a tA)(hb:PW X (.BoolOp .Or (b::rest) pos) SH):PW X (.BoolOp .Or (a::b::rest) pos) (Yy tA SH):=by
 intro wh pins s σ H Q I h;refine isTrue_or (JG (ha pins s σ H _ I h) fun c s1 ⟨H1,I1,q1⟩=>?_);cases c with
 |true=>exact⟨H1,I1,q1⟩
 |false=>exact hb wh pins s1 σ H1 Q I1 q1
theorem C5 (ha:PT X a tA):PT X (.UnaryOp .Not a pos) (Hr tA):=by intro pins s σ H Q I h;exact isTrue_not (ha pins s σ H (fun c H1=>Q (!c) H1) I h)
theorem wb {op}  (h:PE X a t):PE X (.BoolOp op [a] pos) t:=fun pins s σ H Q I hw=>BoolOp_one (h pins s σ H Q I hw)
def Yz (t:TT)(ta tb:TE):TE:=fun σ H Q=>t σ H fun c H1=>if c=Θ then ta σ H1 Q else tb σ H1 Q
theorem qD (hc:PT X c tA)(ha:PE X a ta)(hb:PE X b tb):PE X (.IfExp c a b pos) (Yz tA ta tb):=by
 intro pins s σ H Q I h;refine wpAny_IfExp (JG (hc pins s σ H _ I h) fun d s1 ⟨H1,I1,q1⟩=>?_);cases d with
 |true=>exact ha pins s1 σ H1 Q I1 q1
 |false=>exact hb pins s1 σ H1 Q I1 q1
end
def Kf (K:Frag)(H:Hp)(a:Ω)(xs:List V):Prop:=
 Rd H a (.lst xs)∨
  ∃(o:Obj) (its:Array Ψ) (n:Nat),K.lookup a=Δ o/\o.cls=.type "list"/\o.dict=Φ/\o.data=.seq its n/\its.size<=Ζ/\Vals xs its.toList
def JO (K:Frag)(H:Hp)(a:Ω)(xs:List V):Prop:=
 Rd H a (.tup xs)∨
  ∃(o:Obj) (its:Array Ψ) (n:Nat),K.lookup a=Δ o/\o.cls=.type "tuple"/\o.data=.seq its n/\its.size<=Ζ/\Vals xs its.toList
noncomputable def Hs:Ψ->Option V
 |.none=>Δ .Jt
 |.bool b=>Δ (.bl b)
 |.int i _=>Δ (.int i)
 |.str x _=>Δ (.str x)
 |.bytes b _=>Δ (.OQ b)
 |.float b _=>Δ (.TZ b)
 |.ref a=>Δ (.ref a)
 |.type n=>Δ (.ty n)
 |_=>Φ
theorem RelV.abs (r:RelV x u):Hs u=Δ x:=by
 cases x with
 |Jt=>cases r;rfl
 |bl _=>cases r;rfl
 |int _=>obtain⟨t,rfl⟩:=r;rfl
 |str _=>obtain⟨t,rfl⟩:=r;rfl
 |OQ _=>obtain⟨t,rfl⟩:=r;rfl
 |TZ _=>obtain⟨t,rfl⟩:=r;rfl
 |ref _=>cases r;rfl
 |ty _=>cases r;rfl
theorem RelV.inj (r:RelV x u)(q:RelV y u):x=y:=J_ (r.abs.symm.trans q.abs)
theorem Vals.inj:∀ {xs ys:List V}{us:List Ψ},Vals xs us->Vals ys us->xs=ys
 |_,_,_,.nil,.nil=>rfl
 |_,_,_,.cons r t,.cons r' t'=>by rw[r.inj r',Vals.inj t t']
section
variable {X:Cx}{pins:List (Ω×Obj)}{σ:St}{H:Hp}{s:Α}{a:Ω}{xs ys:List V}
theorem JO.of {K:Frag}(h:H a=Δ (.tup xs)):JO K H a xs:=.inl (.inl h)
theorem Inv.list (I:Inv X pins σ H s)(h:Kf X.K H a xs):∃its:List Ψ,Vals xs its/\PlainL s.heap a its.toArray/\xs.length<=Ζ:=by
 rcases h with h|⟨o,its,n,hk,hc,hd,hs,hz,r⟩
 ·obtain⟨z,its,n,r,e⟩:=h.ok I.JD;exact⟨its,r,⟨_,n,e,rfl,rfl,rfl⟩,z⟩
 ·refine⟨its.toList,r,⟨o,n,I.LX a o hk,hc,hd,by simpa using hs⟩,?_⟩;have e:=r.length;simp only[O_]at e;omega
theorem Inv.tuple (I:Inv X pins σ H s)(h:JO X.K H a xs):∃its:List Ψ,Vals xs its/\IsTup s.heap a its.toArray/\xs.length<=Ζ:=by
 rcases h with h|⟨o,its,n,hk,hc,hs,hz,r⟩
 ·obtain⟨z,its,r,p⟩:=h.ok I.JD;exact⟨its,r,p,z⟩
 ·refine⟨its.toList,r,⟨o,I.LX a o hk,hc,n,by simpa using hs⟩,?_⟩;have e:=r.length;simp only[O_]at e;omega
theorem Inv.J2 (I:Inv X pins σ H s)(h:Kf X.K H a xs)(h':Kf X.K H a ys):xs=ys:=by
 obtain⟨its,r,⟨o,n,e,_,_,d⟩,_⟩:=I.list h;obtain⟨its',r',⟨o',n',e',_,_,d'⟩,_⟩:=I.list h';rw[e]at e';cases e';rw[d]at d';injection d' with d1 _;have:its=its':=by simpa using congrArg Array.toList d1
 subst this;exact r.inj r'
theorem Inv.KO (I:Inv X pins σ H s)(h:JO X.K H a xs)(h':JO X.K H a ys):xs=ys:=by
 obtain⟨its,r,⟨o,e,_,n,d⟩,_⟩:=I.tuple h;obtain⟨its',r',⟨o',e',_,n',d'⟩,_⟩:=I.tuple h';rw[e]at e';cases e';rw[d]at d';injection d' with d1 _;have:its=its':=by simpa using congrArg Array.toList d1
 subst this;exact r.inj r'
end
section
variable {X:Cx}{st:Stmt}{rest:List Stmt}{t u:TS}{e:Expr}{te:TE}{pos:Pos}
def Fg:TS:=fun D σ H=>D.nx σ H
def Ht (t u:TS):TS:=fun D σ H=>t {D with nx:=u D} σ H
theorem pT:L7 X [] Fg:=fun _ _ σ H _ I h=>wpAny_execs_nil ⟨σ,H,I,h⟩
theorem kP (h1:PS X st t)(h2:L7 X rest u):L7 X (st::rest) (Ht t u):=by
 intro pins s σ H D I h;refine wpAny_execs_cons (JG (h1 pins s σ H {D with nx:=u D} I h) fun f s1 q=>?_);cases f with
 |next=>obtain⟨JC,H',I',q⟩:=q;exact h2 pins s1 JC H' D I' q
 |ret v=>exact q
 |brk=>exact q
 |cont=>exact q
theorem Inv.quiet (I:Inv X pins σ H s):interactive X.env=Ξ:=by simp[interactive,I.ok.kind]
def Fh (te:TE):TS:=fun D σ H=>te σ H fun _ H1=>D.nx σ H1
theorem ng (he:PE X e te)(hs:swapsWith e Φ pos.line X.env=pure Ξ:=by rfl):PS X (.Expr e pos) (Fh te):=by intro pins s σ H D I h;exact wpAny_Expr_any (JG (he pins s σ H _ I h) fun v s1 ⟨x,H1,I1,r1,q1⟩=>⟨σ,H1,I1,q1⟩) I.quiet hs
def Hu (te:TE):TS:=fun D σ H=>te σ H D.rt
theorem C6 (he:PE X e te):PS X (.Return (Δ e) pos) (Hu te):=by intro pins s σ H D I h;exact wpAny_Return_some (JG (he pins s σ H _ I h) fun v s1 ⟨x,H1,I1,r1,q1⟩=>⟨x,σ,H1,I1,r1,q1⟩)
def Hv (c:TT)(t u:TS):TS:=fun D σ H=>c σ H fun b H1=>if b=Θ then t D σ H1 else u D σ H1
theorem B4 (hc:PT X c tc)(ha:L7 X a t)(hb:L7 X b u):PS X (.If c a b pos) (Hv tc t u):=by
 intro pins s σ H D I h;refine wpAny_If (JG (hc pins s σ H _ I h) fun d s1 ⟨H1,I1,q1⟩=>?_);cases d with
 |true=>exact ha pins s1 σ H1 D I1 q1
 |false=>exact hb pins s1 σ H1 D I1 q1
end
abbrev TG:=V->St->Hp->(St->Hp->Prop)->Prop
abbrev P8:=List V->St->Hp->(St->Hp->Prop)->Prop
def PG (X:Cx)(target:Expr)(t:TG):Prop:=
 ∀(pins:List (Ω×Obj)) (s:Α) (σ:St) (H:Hp) (v:V) (u:Ψ) (Q:St->Hp->Prop),Inv X pins σ H s->RelV v u->t v σ H Q->
  Κ (Μ X.prog X.w) X.A (assign target X.env u) (fun _ s'=>∃JC H',Inv X pins JC H' s'/\Q JC H') X.xe s
def QJ (X:Cx)(ts:List Expr)(t:P8):Prop:=
 ∀(pins:List (Ω×Obj)) (s:Α) (σ:St) (H:Hp) (vs:List V) (us:List Ψ) (Q:St->Hp->Prop),Inv X pins σ H s->Vals vs us->t vs σ H Q->
  Κ (Μ X.prog X.w) X.A (assignInOrder ((assignEach ts X.env).map (·.2)) us) (fun _ s'=>∃JC H',Inv X pins JC H' s'/\Q JC H') X.xe s
abbrev Fi:=V->V->V->Hp->(Hp->Prop)->Prop
def Fj (X:Cx)(t:Fi):Prop:=
 ∀(pins:List (Ω×Obj)) (s:Α) (σ:St) (H:Hp) (o i v:V) (ov iv u:Ψ) (Q:Hp->Prop),Inv X pins σ H s->RelV o ov->RelV i iv->RelV v u->t o i v H Q->
  Κ (Μ X.prog X.w) X.A (setItem ov iv u) (fun _ s'=>∃H',Inv X pins σ H' s'/\Q H') X.xe s
section
variable {X:Cx}{pos:Pos}
def wc (i:Nat):TG:=fun v σ H Q=>Q (σ.set i (Δ v)) H
theorem Af (hN:X.N.Nodup)(hi:X.N[i]? = Δ x)(hx:Loc X.env.scope x)(hf:X.fn x=Θ∨X.env.scope.names.lookup x=Δ .local:=by first|exact .inl rfl|exact .inr rfl|assumption):PG X (.Name x pos) (wc i):=by intro pins s σ H v u Q I r h;exact wpAny_assign_Name (qC I hN hi hx r (fun s' I'=>⟨_,H,I',h⟩) hf)
def Fm:P8:=fun vs σ H Q=>vs=[]/\Q σ H
def B5 (t:TG)(u:P8):P8:=fun vs σ H Q=>∃v r,vs=v::r/\t v σ H fun JC H'=>u r JC H' Q
theorem Ag:QJ X [] Fm:=by intro pins s σ H vs us Q I r h;obtain⟨e,h⟩:=h;subst e;cases r;exact assignInOrder_nil ⟨σ,H,I,h⟩
theorem wg (h1:PG X e t)(h2:QJ X es u)
  (hs:(assignEach (e::es) X.env).map (·.2)=assign e X.env::(assignEach es X.env).map (·.2):=by rfl):QJ X (e::es) (B5 t u):=by
 intro pins s σ H vs us Q I r h;obtain⟨v,vr,e1,h⟩:=h;subst e1;cases r with
 |cons r rr=>rw[hs];refine assignInOrder_cons (JG (h1 pins s σ H _ _ _ I r h) fun _ s1 ⟨WG,H1,I1,q1⟩=>?_);exact h2 pins s1 WG H1 _ _ Q I1 rr q1
def Hw (to ti:TE)(t:Fi):TG:=fun v σ H Q=>to σ H fun o H1=>ti σ H1 fun i H2=>t o i v H2 fun H3=>Q σ H3
theorem wj (ho:PE X o to)(hi:PE X i ti)(hs:Fj X t)
  (ha:∀v,assign (.Subscript o i pos) X.env v=(do
   let ov <- holding [v] (eval o X.env);let iv <- holding [v,ov] (eval i X.env)
   standAt pos
   holding [v,ov,iv] (setItem ov iv v)
   release [v,ov,iv] []):=by intro _;rfl):PG X (.Subscript o i pos) (Hw to ti t):=by
 intro pins s σ H v u Q I r h;rw[ha];refine a_ (M_ (JG (ho pins s σ H _ I h) fun ov s1 ⟨x,H1,I1,r1,q1⟩=>?_));refine a_ (M_ (JG (hi pins s1 σ H1 _ I1 q1) fun iv s2 ⟨y,H2,I2,r2,q2⟩=>?_));refine a_ (wpAny_standAt (a_ (M_ (JG (hs pins s2 σ H2 x y v ov iv u _ I2 r1 r2 r q2) fun _ s3 ⟨H3,I3,q3⟩=>?_))));exact wpAny_release ⟨σ,H3,I3,q3⟩
def C7 (te:TE)(g:TG):TS:=fun D σ H=>te σ H fun x H1=>g x σ H1 D.nx
theorem rR (he:PE X e te)(hg:PG X tg g)(hs:swapsWithSole [tg] e pos.line X.env=pure Ξ:=by rfl)(hw:swappedStores [tg] e X.env=pure Φ:=by rfl)
  (h1:(assignEach [tg] X.env).map (·.2)=[assign tg X.env]:=by rfl):PS X (.Assign [tg] e pos) (C7 te g):=by
 intro pins s σ H D I h;refine wpAny_Assign_stores (JG (he pins s σ H _ I h) fun v s1 ⟨x,H1,I1,r1,q1⟩=>?_) hs hw;rw[h1];exact JG (hg pins s1 σ H1 x v _ I1 r1 q1) fun _ s2 q=>q
theorem wo (hN:X.N.Nodup)(hi:X.N[i]? = Δ x)(hx:Loc X.env.scope x)(he:PE X e te)(hs:swapsWith e (Δ (.Name x pos')) pos.line X.env=pure Ξ:=by rfl)(hf:X.fn x=Θ∨X.env.scope.names.lookup x=Δ .local:=by first|exact .inl rfl|exact .inr rfl|assumption) :
  PS X (.Assign [.Name x pos'] e pos) (C7 te (wc i)):=by
 intro pins s σ H D I h;refine wpAny_Assign_Name (JG (he pins s σ H _ I h) fun v s1 ⟨y,H1,I1,r1,q1⟩=>?_) hs;exact qC I1 hN hi hx r1 (fun s2 I2=>⟨_,H1,I2,q1⟩) hf
end
structure It where
 go:Nat->Hp->Prop
 NW:Nat->Hp->V->Hp->Prop
 stop:Nat->Hp->Prop
def lb (X:Cx)(pins:List (Ω×Obj))(H:Hp)(b:Ω):Prop:=
 H b=Φ/\b≠X.env.locals/\b∉X.fs/\(b∈X.ex∨X.JZ.heap.objs.size<=b)/\(∀x c,X.env.cells.lookup x=Δ c->c≠b)/\∀p∈X.pn++pins,p.1≠b
theorem Inv.Mb (I:Inv X pins σ H s)(hb:s.heap.objs.size<=b)(hn:H' b=Φ):lb X pins H' b:=by
 refine⟨hn,U_ (B_ I.lt hb),I.T4 hb,.inr (D_ I.sz hb),fun x c e z=>?_,fun p hp z=>?_⟩
 ·obtain⟨v,q⟩:=I.cell x c e;exact absurd (B_ q.lt (by rw[z];exact hb)) (T_ _)
 ·exact absurd (B_ (j_ (I.pin p hp).1) (by rw[z];exact hb)) (T_ _)
structure Turn (P:Ε)(w:Β)(K:Frag)(tg:Expr)(J:It)(fp:List Ω)(it:Ω)(tn:Nat->Heap->Prop):Prop where
 mem:it∈fp
 obj:∀i h,tn i h->∀b∈fp,∃o,h.get? b=Δ o/\∀v,o.data≠.cell v
 keep:∀i h h',tn i h->(∀b∈fp,∀o,h.get? b=Δ o->h'.get? b=Δ o)->tn i h'
 item:∀(X:Cx),X.prog=P->X.w=w->X.K=K->X.calm=Θ->∀(i:Nat) (pins:List (Ω×Obj)) (s:Α) (σ:St) (H:Hp) (E:Ψ->Α->Prop),Inv X pins σ H s->(∀b∈fp,lb X pins H b)->tn i s.heap->J.go i H->
  Κ (Μ P w) X.A (pyNext (.ref it)) (fun r s1=>∃u,r=Δ u/\
   Κ (Μ P w) X.A (letOwnedTupleGo tg (.ref it) u) (fun _ s2=>∃x H',Inv X pins σ H' s2/\RelV x u/\J.NW i H x H'/\tn (i+1) s2.heap/\∀b∈fp,H' b=Φ) E s1) E s
 done:∀(X:Cx),X.prog=P->X.w=w->X.K=K->X.calm=Θ->∀(i:Nat) (pins:List (Ω×Obj)) (s:Α) (σ:St) (H:Hp) (E:Ψ->Α->Prop),Inv X pins σ H s->(∀b∈fp,lb X pins H b)->tn i s.heap->J.stop i H->
  Κ (Μ P w) X.A (pyNext (.ref it)) (fun r s1=>r=Φ/\Inv X pins σ H s1) E s
 self:∀(A:Ι) (i:Nat) (s:Α) (Q:Ψ->Α->Prop) (E:Ψ->Α->Prop),tn i s.heap->Q (.ref it) s->Κ (Μ P w) A (pyIter (.ref it)) Q E s
abbrev TI:=St->Hp->(It->Hp->Prop)->Prop
def P9 (X:Cx)(pins:List (Ω×Obj))(σ:St)(tg:Expr)(R:It->Hp->Prop)(SJ:Ψ)(s2:Α):Prop:=
 ∃(it:Ω) (fp:List Ω) (tn:Nat->Heap->Prop) (J:It) (H':Hp),SJ=.ref it/\Inv X pins σ H' s2/\Turn X.prog X.w X.K tg J fp it tn/\tn 0 s2.heap/\(∀b∈fp,lb X pins H' b)/\R J H'
def PI (X:Cx)(tg iter:Expr)(wi:TI):Prop:=
 ∀(pins:List (Ω×Obj)) (s:Α) (σ:St) (H:Hp) (R:It->Hp->Prop),Inv X pins σ H s->wi σ H R->
  Κ (Μ X.prog X.w) X.A (eval iter X.env) (fun v s1=>Κ (Μ X.prog X.w) X.A (pyIter v) (P9 X pins σ tg R) X.xe s1) X.xe s
theorem tw (ho : s.heap.get? it = Δ o)(hc : o.cls = .type n)(hd : o.data = .fields vs)
    (hn : ["enumerate", "zip", "dict_itemiterator", "dict_reverseitemiterator", "odict_iterator", "itertools.zip_longest", "itertools.pairwise"].contains n = Ξ) (hQ : Q () s) : Κ M A (letOwnedTupleGo tg (.ref it) u) Q E s :=by
  unfold letOwnedTupleGo;cases tg <;> first
    | exact f_ hQ
    | (cases u <;> first
        | exact f_ hQ
        | (refine a_ (wpAny_load ho ?_)
           rw [hc,hd];show Κ M A (if(["enumerate", "zip", "dict_itemiterator", "dict_reverseitemiterator", "odict_iterator", "itertools.zip_longest", "itertools.pairwise"].contains n&&vs[0]? == Δ (rawInt _)) = Θ then _ else _) Q E s;rw [d_ (by intro h; rw [hn,Bool.false_and]at h; cases h)]
           exact f_ hQ))
noncomputable def SK (K:Frag)(a:Ω):It:=
 ⟨fun i H=>∃xs x,Kf K H a xs/\xs[i]? = Δ x,fun i H x H'=>H'=H/\∀xs,Kf K H a xs->xs[i]? = Δ x,fun i H=>∃xs,Kf K H a xs/\xs.length<=i⟩
noncomputable def T8 (K:Frag)(a:Ω):It:=
 ⟨fun i H=>∃xs x,JO K H a xs/\xs[i]? = Δ x,fun i H x H'=>H'=H/\∀xs,JO K H a xs->xs[i]? = Δ x,fun i H=>∃xs,JO K H a xs/\xs.length<=i⟩
noncomputable def QK (lo:Int)(n:Nat):It:=⟨fun i _=>i < n,fun i H x H'=>H'=H/\x=.int (lo+i),fun i _=>n<=i⟩
theorem vf {P:Ε}{w:Β}{K:Frag}{tg:Expr}(a it:Ω):Turn P w K tg (SK K a) [it] it (fun i h=>h.IsListIter it a i) where
 mem:=by simp
 obj:=fun i h st b hb=>by
  have e:b=it:=by simpa using hb
  subst e;obtain⟨o,e,c,d⟩:=st;exact⟨o,e,fun v z=>by rw[d]at z;cases z⟩
 keep:=fun i h h' st k=>st.at fun o e=>k it (by simp) o e
 item:=by intro X hP hw hK hc i pins s σ H E I hf st hg;subst hP hw hK;obtain⟨xs,x,hq,hx⟩:=hg;obtain⟨its,rv,p,hz⟩:=I.list hq;obtain⟨u,hu,ru⟩:=rv.get hx;obtain⟨f0,f1,f2,f3,f4,f5⟩:=hf it (by simp);refine wpAny_pyNext_list_item st p.isList (x:=u) (by simpa using hu) fun h' L8 sb=>?_;have I1:Inv X pins σ H {s with heap:=h'}:=I.turned (t':=s.toks) (fun b o hb e=>(sb.2 b hb).trans e) f0 f1 f3 f4 f5;obtain⟨o,e,c,d⟩:=id L8;exact⟨u,rfl,tw (s:={s with heap:=h'}) e c d (by decide) ⟨x,H,I1,ru,⟨rfl,fun ys hy=>by rw[I.J2 hy hq];exact hx⟩,L8,fun b hb=>(hf b hb).1⟩⟩
 done:=by intro X hP hw hK hc i pins s σ H E I hf st hg;subst hP hw hK;obtain⟨xs,hq,hx⟩:=hg;obtain⟨its,rv,p,hz⟩:=I.list hq;obtain⟨f0,f1,f2,f3,f4,f5⟩:=hf it (by simp);have hl:=rv.length;exact wpAny_pyNext_list_end (I.ok.hd hc) st p.isList (by simp;omega) fun h' eb=>⟨rfl,I.turned (t':=s.toks) (fun b o hb e=>eb b o hb e) f0 f1 f3 f4 f5⟩
 self:=fun _ _ _ _ _ st h=>wpAny_pyIter_listiter st h
theorem rS {P:Ε}{w:Β}{K:Frag}{tg:Expr}(a it:Ω):Turn P w K tg (T8 K a) [it] it (fun i h=>h.IsTupleIter it a i) where
 mem:=by simp
 obj:=fun i h st b hb=>by
  have e:b=it:=by simpa using hb
  subst e;obtain⟨o,e,c,d⟩:=st;exact⟨o,e,fun v z=>by rw[d]at z;cases z⟩
 keep:=fun i h h' st k=>st.at fun o e=>k it (by simp) o e
 item:=by intro X hP hw hK hc i pins s σ H E I hf st hg;subst hP hw hK;obtain⟨xs,x,hq,hx⟩:=hg;obtain⟨its,rv,p,hz⟩:=I.tuple hq;obtain⟨u,hu,ru⟩:=rv.get hx;obtain⟨f0,f1,f2,f3,f4,f5⟩:=hf it (by simp);refine wpAny_pyNext_tuple_item st (show s.heap.IsTuple a its.toArray from p) (x:=u) (by simpa using hu) fun h' L8 sb=>?_;have I1:Inv X pins σ H {s with heap:=h'}:=I.turned (t':=s.toks) (fun b o hb e=>(sb.2 b hb).trans e) f0 f1 f3 f4 f5;obtain⟨o,e,c,d⟩:=id L8;exact⟨u,rfl,tw (s:={s with heap:=h'}) e c d (by decide) ⟨x,H,I1,ru,⟨rfl,fun ys hy=>by rw[I.KO hy hq];exact hx⟩,L8,fun b hb=>(hf b hb).1⟩⟩
 done:=by intro X hP hw hK hc i pins s σ H E I hf st hg;subst hP hw hK;obtain⟨xs,hq,hx⟩:=hg;obtain⟨its,rv,p,hz⟩:=I.tuple hq;obtain⟨f0,f1,f2,f3,f4,f5⟩:=hf it (by simp);have hl:=rv.length;exact wpAny_pyNext_tuple_end (I.ok.hd hc) st (show s.heap.IsTuple a its.toArray from p) (by simp;omega) fun h' eb=>⟨rfl,I.turned (t':=s.toks) (fun b o hb e=>eb b o hb e) f0 f1 f3 f4 f5⟩
 self:=fun _ _ _ _ _ st h=>wpAny_pyIter_tupleiter st h
theorem rT {P:Ε}{w:Β}{K:Frag}{tg:Expr}(it:Ω)(lo:Int)(n:Nat):Turn P w K tg (QK lo n) [it] it (fun i h=>IsRangeIter h it (lo+(i:Nat)*1) ((n:Int) - (i:Nat)) 1) where
 mem:=by simp
 obj:=fun i h st b hb=>by
  have e:b=it:=by simpa using hb
  subst e
  exact⟨_,st,fun v z=>by
   have z':Data.fields _=Data.cell v:=z
   cases z'⟩
 keep:=fun i h h' st k=>k it (by simp) _ st
 item:=by intro X hP hw hK hc i pins s σ H E I hf st hg;subst hP hw hK;obtain⟨f0,f1,f2,f3,f4,f5⟩:=hf it (by simp);have W:=Walks.range (prog:=X.prog) (w:=X.w) (I.ok.hd hc) it lo 1 n;refine W.item i s _ _ hg st fun v h' tk hv L8 kk=>?_;obtain⟨t,rfl⟩:=hv;have I1:Inv X pins σ H {s with heap:=h',toks:=tk}:=I.turned (fun b o hb e=>kk b o (by simpa using hb) e) f0 f1 f3 f4 f5;refine⟨_,rfl,tw (s:={s with heap:=h',toks:=tk}) (n:="range_iterator") L8 rfl rfl (by decide) ⟨.int (lo+i),H,I1,⟨t,?_⟩,⟨rfl,rfl⟩,L8,fun b hb=>(hf b hb).1⟩⟩;rw[Int.mul_one]
 done:=by intro X hP hw hK hc i pins s σ H E I hf st hg;subst hP hw hK;obtain⟨f0,f1,f2,f3,f4,f5⟩:=hf it (by simp);exact wpAny_pyNext_range_end (I.ok.hd hc) st (by have:n<=i:=hg;omega) fun h' eb=>⟨rfl,I.turned (t':=s.toks) (fun b o hb e=>eb b o hb e) f0 f1 f3 f4 f5⟩
 self:=fun _ _ _ _ _ st h=>wpAny_pyIter_rangeiter st h
section
variable {X:Cx}{tg:Expr}
theorem wq {pins:List (Ω×Obj)}{σ:St}{H:Hp}{s:Α}{R:It->Hp->Prop}{E:Ψ->Α->Prop}{lo hi:Int}{t u v:Tok}{tk:Nat}(I:Inv X pins σ H s)(h1 : -(2 ^ 62)<=lo)(h2:lo < 2 ^ 62)(h3 : -(2 ^ 62)<=hi)(h4:hi < 2 ^ 62)
  (q:R (QK lo (hi - lo).toNat) H):Κ (Μ X.prog X.w) X.A (pyIter (.ref s.heap.objs.size)) (P9 X pins σ tg R) E {s with heap:=s.heap.push {cls:=.type "range",data:=.fields #[.int lo t,.int hi u,.int 1 v]},toks:=tk}:=by
 refine wpAny_pyIter_range (IsRange.new ..) (small_one h1 h2 h3 h4) ?_;have I1:Inv X pins σ H {s with heap:=s.heap.push {cls:=.type "range",data:=.fields #[.int lo t,.int hi u,.int 1 v]},toks:=tk}:=I.kept fun b o e=>l_ _ e
 refine⟨(s.heap.push {cls:=.type "range",data:=.fields #[.int lo t,.int hi u,.int 1 v]}).objs.size,[(s.heap.push {cls:=.type "range",data:=.fields #[.int lo t,.int hi u,.int 1 v]}).objs.size],_,_,H,rfl,
  I1.kept (t':=tk) fun b o e=>l_ _ e,rT _ lo (hi - lo).toNat,?_,fun b hb=>?_,q⟩
 ·have e1:lo+((0:Nat):Int)*1=lo:=by simp
  have e2:(((hi - lo).toNat:Nat):Int) - ((0:Nat):Int)=Builtin.Range.rangeSize lo hi 1:=by rw[rangeSize_one];split<;>omega
  show IsRangeIter _ _ (lo+((0:Nat):Int)*1) ((((hi - lo).toNat:Nat):Int) - ((0:Nat):Int)) 1;rw[e1,e2];exact u_ _ rfl
 ·have e:b=(s.heap.push {cls:=.type "range",data:=.fields #[.int lo t,.int hi u,.int 1 v]}).objs.size:=by simpa using hb
  subst e;exact I1.Mb (m_ _) (I1.JD.fresh (m_ _))
def Fo (ta:TA):TI:=fun σ H R=>ta σ H fun vs H1=>∃j:Int,vs=[.int j]/\-(2 ^ 62)<=j/\j < 2 ^ 62/\R (QK 0 j.toNat) H1
theorem o7 (hg:Gl X "range") (hm:X.mg "range" = Φ) (ha:PA X [a] ta) (hs:Ν [a] X.env=[(Ξ,eval a X.env)]:=by rfl):PI X tg (.Call (.Name "range" p) [a] [] pos) (Fo ta):=by
 intro pins s σ H R I h;refine Call_ (kD I hg hm boot_range (aaF (JG (ha pos pins s σ H _ I h) fun us s1 ⟨vs,H1,I1,r1,q1⟩=>?_) hs rfl));obtain⟨j,e,q1,q2,q⟩:=q1;subst e;cases r1 with
 |cons r rr=>cases rr;obtain⟨t,rfl⟩:=r;exact call_range_1 (wq I1 (by omega) (by omega) q1 q2 (by simpa using q))
def Hx (wi:TI)(g:TG)(tb:TS):TS:=fun D σ H=>wi σ H fun J H1=>∃W:Nat->Nat->St->Hp->Prop,(∃m,W 0 m σ H1)/\∀i m σ H,W i m σ H->
 (J.stop i H/\D.nx σ H)∨(J.go i H/\∃N:St->Hp->Prop,(∀JC H',N JC H'->∃m',m' < m/\W (i+1) m' JC H')/\∀x H',J.NW i H x H'->g x σ H' fun LY H2=>tb {D with nx:=N,ct:=N,bk:=D.nx} LY H2)
noncomputable def mq (fp:List Ω)(h:Heap):List (Ω×Obj):=fp.filterMap fun b=>(h.get? b).map fun o=>(b,o)
theorem kE (hb:b∈fp)(e:h.get? b=Δ o):(b,o)∈mq fp h:=List.mem_filterMap.mpr ⟨b,hb,by rw[e];rfl⟩
theorem vj (hp:p∈mq fp h):p.1∈fp/\h.get? p.1=Δ p.2:=by
 obtain⟨b,hb,e⟩:=List.mem_filterMap.mp hp;cases q:h.get? b with
 |none=>rw[q]at e;cases e
 |some o=>rw[q]at e;have e':(b,o)=p:=J_ e;subst e';exact⟨hb,q⟩
theorem Inv.pinned (I:Inv X pins σ H s)(hf:∀b∈fp,lb X pins H b)(ho:∀b∈fp,∃o,s.heap.get? b=Δ o/\∀v,o.data≠.cell v):Inv X (pins++mq fp s.heap) σ H s:=
 I.Mo fun p hp=>(C_.mp hp).elim (fun z=>I.pin p (t_ _ z)) fun z=>by obtain⟨hb,e⟩:=vj z;obtain⟨f0,f1,f2,_⟩:=hf p.1 hb;obtain⟨o,e',d⟩:=ho p.1 hb;rw[e]at e';cases e';exact⟨e,f0,f1,f2,d⟩
theorem Inv.KD (I:Inv X (pins++pl) σ H s):Inv X pins σ H s:=I.Mo fun p hp=>I.pin p (t_ _ (s_ _ hp))
theorem wt (hp:PassesOwn (Μ X.prog X.w) X.A X.env X.xe)(hc:X.calm=Θ)(hi:PI X tg iter wi)(hg:PG X tg g)(hb:L7 X body tb)
  (hs:∀x,foldedSetIterable iter X.env x=pure x:=by intro _;rfl):PS X (.For tg iter body [] pos) (Hx wi g tb):=by
 intro pins s σ H D I h;refine wpAny_For (JG (hi pins s σ H _ I h) fun v s1 h1=>JG h1 fun SJ s2 h2=>?_) hs;obtain⟨it,fp,tn,J,H2,e,I2,T,Ou,f2,W,⟨m0,w0⟩,turn⟩:=h2;subst e
 -- T9 stays Θ of OV OW objects through OV loop
 have Mc:∀ {H':Hp},(∀b∈fp,H' b=Φ)->∀b∈fp,lb X pins H' b:=fun hn b hb=>⟨hn b hb,(f2 b hb).2⟩
 refine codeAny_forLoop_any (fun n s'=>∃i JC H',Inv X pins JC H' s'/\tn i s'.heap/\(∀b∈fp,H' b=Φ)/\W i n JC H') ?_ m0 ⟨0,σ,H2,I2,Ou,fun b hb=>(f2 b hb).1,w0⟩;rintro n s3 ⟨i,QL,H3,I3,WH,WI,w3⟩;rcases turn i n QL H3 w3 with⟨stop,qn⟩|⟨go,N,hN,step⟩
 ·refine wpAny_passesOwn hp (JG (T.done X rfl rfl rfl hc i pins s3 QL H3 X.xe I3 (Mc WI) WH stop) fun r s4 ⟨hr,I4⟩=>?_);subst hr;exact wpAny_execs_nil ⟨QL,H3,I4,qn⟩
 ·refine wpAny_passesOwn hp (JG (T.item X rfl rfl rfl hc i pins s3 QL H3 X.xe I3 (Mc WI) WH go) fun r s4 ⟨u,hr,h4⟩=>?_);subst hr;refine wpAny_passesOwn hp (JG h4 fun _ s5 ⟨x,H5,I5,r5,y5,QM,T'⟩=>?_);have YA:=I5.pinned (Mc T') (T.obj _ _ QM);refine wpAny_passesOwn hp (JG (hg _ s5 QL H5 x u _ YA r5 (step x H5 y5)) fun _ s6 ⟨OX,H6,I6,q6⟩=>?_);refine wpAny_passesOwn hp (JG (hb _ s6 OX H6 _ I6 q6) fun f s7 q7=>?_);have again:∀ {M7:St}{H7:Hp},Inv X (pins++mq fp s5.heap) M7 H7 s7->N M7 H7->∃m,m < n/\∃i JC H',Inv X pins JC H' s7/\tn i s7.heap/\(∀b∈fp,H' b=Φ)/\W i m JC H':=fun {M7 H7} I7 n7=>by obtain⟨m',hm,w7⟩:=hN M7 H7 n7;refine⟨m',hm,i+1,M7,H7,I7.KD,T.keep _ _ _ QM fun b hb o e=>(I7.pin (b,o) (t_ _ (t_ _ (kE hb e)))).1,fun b hb=>?_,w7⟩;obtain⟨o,e,d⟩:=T.obj _ _ QM b hb;exact(I7.pin (b,o) (t_ _ (t_ _ (kE hb e)))).2.1
  cases f with
  |next=>obtain⟨M7,H7,I7,n7⟩:=q7;exact again I7 n7
  |cont=>obtain⟨M7,H7,I7,n7⟩:=q7;exact again I7 n7
  |brk=>obtain⟨M7,H7,I7,q7⟩:=q7;exact⟨M7,H7,I7.KD,q7⟩
  |ret v=>obtain⟨x7,M7,H7,I7,r7,q7⟩:=q7;exact⟨x7,M7,H7,I7.KD,r7,q7⟩
end
abbrev R2:=V->V->Hp->VK->Prop
def Lk (X:Cx)(f:Ψ->Ψ->Sem Ψ)(r:R2):Prop:=
 ∀(pins:List (Ω×Obj)) (s:Α) (σ:St) (H:Hp) (x y:V) (v u:Ψ) (Q:VK),Inv X pins σ H s->RelV x v->RelV y u->r x y H Q->
  Κ (Μ X.prog X.w) X.A (f v u) (EP X pins σ Q) X.xe s
def Ua (X:Cx)(f:Ψ->Sem Ψ)(r:V->Hp->VK->Prop):Prop:=
 ∀(pins:List (Ω×Obj)) (s:Α) (σ:St) (H:Hp) (x:V) (v:Ψ) (Q:VK),Inv X pins σ H s->RelV x v->r x H Q->
  Κ (Μ X.prog X.w) X.A (f v) (EP X pins σ Q) X.xe s
def jD (X:Cx)(f:Ψ)(r:List V->Hp->VK->Prop):Prop:=
 ∀(pins:List (Ω×Obj)) (s:Α) (σ:St) (H:Hp) (xs:List V) (us:List Ψ) (Q:VK),Inv X pins σ H s->Vals xs us->r xs H Q->
  Κ (Μ X.prog X.w) X.A (call f us) (EP X pins σ Q) X.xe s
def Hy (X:Cx)(r:V->Hp->(Bool->Hp->Prop)->Prop):Prop:=
 ∀(pins:List (Ω×Obj)) (s:Α) (σ:St) (H:Hp) (x:V) (v:Ψ) (Q:Bool->Hp->Prop),Inv X pins σ H s->RelV x v->r x H Q->
  Κ (Μ X.prog X.w) X.A (truthy v) (TP X pins σ Q) X.xe s
def SM (r:R2)(ta tb:TE):TE:=fun σ H Q=>ta σ H fun x H1=>tb σ H1 fun y H2=>r x y H2 Q
def YB (r:V->Hp->VK->Prop)(ta:TE):TE:=fun σ H Q=>ta σ H fun x H1=>r x H1 Q
def rI (C:Int->Int->Prop)(g:Int->Int->V):R2:=fun x y H Q=>∃i j,x=.int i/\y=.int j/\C i j/\Q (g i j) H
def Ub (g:Int->Int->V):R2:=fun x y H Q=>∃i j,x=.int i/\y=.int j/\Q (g i j) H
def rU (g:Int->V):V->Hp->VK->Prop:=fun x H Q=>∃i,x=.int i/\Q (g i) H
section
variable {X:Cx}{a b c:Expr}{ta tb tc:TE}{pos:Pos}
theorem C8 (ha:PE X a ta)(hb:PE X b tb){pins:List (Ω×Obj)}{s:Α}{σ:St}{H:Hp}{R:V->V->Hp->Prop}(I:Inv X pins σ H s)
  (h:ta σ H fun x H1=>tb σ H1 fun y H2=>R x y H2) {Q:Ψ->Α->Prop}{f:Ψ->Ψ->Sem Ψ}
  (hf:∀v u s2 x y H2,Inv X pins σ H2 s2->RelV x v->RelV y u->R x y H2->Κ (Μ X.prog X.w) X.A (f v u) Q X.xe s2) :
  Κ (Μ X.prog X.w) X.A (eval a X.env) (fun v JA=>Κ (Μ X.prog X.w) X.A (eval b X.env) (fun u MM=>Κ (Μ X.prog X.w) X.A (f v u) Q X.xe MM) X.xe JA) X.xe s:=by
 refine JG (ha pins s σ H _ I h) fun v s1 ⟨x,H1,I1,r1,q1⟩=>?_;refine JG (hb pins s1 σ H1 _ I1 q1) fun u s2 ⟨y,H2,I2,r2,q2⟩=>?_;exact hf v u s2 x y H2 I2 r1 r2 q2
theorem wu (ho:Lk X (binaryOp op) r)(ha:PE X a ta)(hb:PE X b tb):PE X (.BinOp a op b pos) (SM r ta tb):=by intro pins s σ H Q I h;exact wpAny_BinOp (C8 ha hb I h fun v u s2 x y H2 I2 rx ry q=>ho pins s2 σ H2 x y v u Q I2 rx ry q)
theorem Fp (ho:Ua X (unaryOp op) r)(ha:PE X a ta):PE X (.UnaryOp op a pos) (YB r ta):=by intro pins s σ H Q I h;exact UnaryOp_ (JG (ha pins s σ H _ I h) fun v s1 ⟨x,H1,I1,r1,q1⟩=>ho pins s1 σ H1 x v Q I1 r1 q1)
theorem SN {f:Ψ->Ψ->Sem Ψ}{C:Int->Int->Prop}{g:Int->Int->Int}
  (rule:∀(i j:Int) (t u:Tok) (s:Α) (Q:Ψ->Α->Prop) (E:Ψ->Α->Prop),C i j->Q (.int (g i j) s.toks) {s with toks:=s.toks+1}->Κ (Μ X.prog X.w) X.A (f (.int i t) (.int j u)) Q E s) :
  Lk X f (rI C fun i j=>.int (g i j)):=by
 intro pins s σ H x y v u Q I rx ry h;obtain⟨i,j,rfl,rfl,hc,q⟩:=h;obtain⟨t,rfl⟩:=rx;obtain⟨t',rfl⟩:=ry;exact rule i j t t' s _ _ hc ⟨.int (g i j),H,I.tok _,⟨_,rfl⟩,q⟩
theorem Fq {f:Ψ->Ψ->Sem Ψ}{g:Int->Int->Int}
  (rule:∀(i j:Int) (t u:Tok) (s:Α) (Q:Ψ->Α->Prop) (E:Ψ->Α->Prop),Q (.int (g i j) s.toks) {s with toks:=s.toks+1}->Κ (Μ X.prog X.w) X.A (f (.int i t) (.int j u)) Q E s) :
  Lk X f (Ub fun i j=>.int (g i j)):=by
 intro pins s σ H x y v u Q I rx ry h;obtain⟨i,j,rfl,rfl,q⟩:=h;obtain⟨t,rfl⟩:=rx;obtain⟨t',rfl⟩:=ry;exact rule i j t t' s _ _ ⟨.int (g i j),H,I.tok _,⟨_,rfl⟩,q⟩
def Hz (i j:Int):Prop:=0 < j/\j < 1073741824
def HA (i j:Int):Prop:=0<=j/\j<=1000000/\i.natAbs < 2 ^ 64
def C9 (i j:Int):Prop:=(-(2 ^ 64) < i/\i < 2 ^ 64)∨(-(2 ^ 64) < j/\j < 2 ^ 64)
theorem C9.ok (h:C9 i j):IntMulOk i j:=by
 rcases h with⟨h1,h2⟩|⟨h1,h2⟩
 ·exact .of_left (intBits_le_64 h1 h2)
 ·exact .of_right (intBits_le_64 h1 h2)
theorem Dc:Lk X (binaryOp .Add) (Ub fun i j=>.int (i+j)):=Fq fun _ _ _ _ _ _ _ q=>add_int q
theorem Dd:Lk X (binaryOp .Sub) (Ub fun i j=>.int (i - j)):=Fq fun _ _ _ _ _ _ _ q=>sub_int q
theorem De:Lk X (binaryOp .Mult) (rI C9 fun i j=>.int (i*j)):=SN fun _ _ _ _ _ _ _ hc q=>mul_int q hc.ok
theorem Ah:Lk X (binaryOp .FloorDiv) (rI Hz fun i j=>.int (i / j)):=SN fun i j _ _ _ _ _ hc q=>by have h1:(0:Int) < j:=hc.1;have h2:j < 1073741824:=hc.2;exact floordiv_int (by omega) (by rw[Int.fdiv_eq_ediv_of_nonneg i (by omega)];exact q) (.inl (PyProof.noPylong_small (by omega)))
theorem Df:Lk X (binaryOp .Mod) (rI (fun _ j=>0 < j) fun i j=>.int (i % j)):=SN fun i j _ _ _ _ _ hc q=>by have h1:(0:Int) < j:=hc;exact mod_int' (by omega) (by rw[Int.fmod_eq_emod_of_nonneg i (by omega)];exact q)
theorem Dg:Lk X (binaryOp .Pow) (rI HA fun i j=>.int (i ^ j.toNat)):=SN fun _ _ _ _ _ _ _ hc q=>pow_int_small hc.1 hc.2.1 hc.2.2 q
theorem YC {f:Ψ->Sem Ψ}{g:Int->Int}
  (rule:∀(i:Int) (t:Tok) (s:Α) (Q:Ψ->Α->Prop) (E:Ψ->Α->Prop),Q (.int (g i) s.toks) {s with toks:=s.toks+1}->Κ (Μ X.prog X.w) X.A (f (.int i t)) Q E s) :
  Ua X f (rU fun i=>.int (g i)):=by
 intro pins s σ H x v Q I rx h;obtain⟨i,rfl,q⟩:=h;obtain⟨t,rfl⟩:=rx;exact rule i t s _ _ ⟨.int (g i),H,I.tok _,⟨_,rfl⟩,q⟩
theorem Dh:Ua X (unaryOp .USub) (rU fun i=>.int (-i)):=YC fun _ _ _ _ _ q=>neg_int q
end
section
variable {X:Cx}{a b c:Expr}{ta tb tc:TE}{pos:Pos}
theorem Ai (ho:Lk X (compareOp op) r)(ha:PE X a ta)(hb:PE X b tb)(hm:behindInMarks op b=Ξ):PE X (.Compare a [op] [b] pos) (SM r ta tb):=by intro pins s σ H Q I h;exact wpAny_Compare1 (C8 ha hb I h fun v u s2 x y H2 I2 rx ry q=>ho pins s2 σ H2 x y v u Q I2 rx ry q) hm
def B6 (t:TE):TT:=fun σ H Q=>t σ H fun x H'=>∃k,x=.bl k/\Q k H'
theorem Aj (ho:Lk X (compareOp op) r)(ha:PE X a ta)(hb:PE X b tb)(hm:behindInMarks op b=Ξ):PT X (.Compare a [op] [b] pos) (B6 (SM r ta tb)):=by
 intro pins s σ H Q I h
 refine wpAny_isTrue_Compare1 (JG (ha pins s σ H _ I h) fun v s1 ⟨x,H1,I1,r1,q1⟩=>JG (hb pins s1 σ H1 _ I1 q1) fun u s2 ⟨y,H2,I2,r2,q2⟩=>
  JG (ho pins s2 σ H2 x y v u _ I2 r1 r2 q2) fun c s3 ⟨z,H3,I3,r3,k,e,q3⟩=>?_) hm
 subst e;cases r3;exact wpAny_truthy_bool ⟨H3,I3,q3⟩
def wx (r r':R2)(ta tb tc:TE):TE:=fun σ H Q=>ta σ H fun x H1=>tb σ H1 fun y H2=>r x y H2 fun z H3=>∃k,z=.bl k/\
 (if k=Θ then tc σ H3 fun w' H4=>r' y w' H4 Q else Q (.bl Ξ) H3)
theorem wz (ho:Lk X (compareOp op) r)(MJ:Lk X (compareOp J9) r')(ha:PE X a ta)(hb:PE X b tb)(hc:PE X c tc)
  (hm:lastMarks [op,J9] [b,c]=Ξ:=by with_unfolding_all rfl):PE X (.Compare a [op,J9] [b,c] pos) (wx r r' ta tb tc):=by
 intro pins s σ H Q I h
 refine Compare_chain (JG (ha pins s σ H _ I h) fun v s1 ⟨x,H1,I1,r1,q1⟩=>chain_link (JG (hb pins s1 σ H1 _ I1 q1) fun u s2 ⟨y,H2,I2,r2,q2⟩=>
  JG (ho pins s2 σ H2 x y v u _ I2 r1 r2 q2) fun d s3 ⟨z,H3,I3,r3,k,e,q3⟩=>?_)) hm
 subst e;cases r3;refine wpAny_truthy_bool ?_;cases k with
 |false=>exact ite_ff ⟨.bl Ξ,H3,I3,rfl,q3⟩
 |true=>exact ite_tt (chain_last (JG (hc pins s3 σ H3 _ I3 q3) fun w' s4 ⟨z',H4,I4,r4,q4⟩=>MJ pins s4 σ H4 y z' u w' Q I4 r2 r4 q4))
theorem wA (ho:Lk X (compareOp op) r)(MJ:Lk X (compareOp J9) r')(ha:PE X a ta)(hb:PE X b tb)(hc:PE X c tc)
  (hm:lastMarks [op,J9] [b,c]=Ξ:=by with_unfolding_all rfl):PT X (.Compare a [op,J9] [b,c] pos) (B6 (wx r r' ta tb tc)):=by
 intro pins s σ H Q I h
 refine isTrue_chain (JG (ha pins s σ H _ I h) fun v s1 ⟨x,H1,I1,r1,q1⟩=>test_link (JG (hb pins s1 σ H1 _ I1 q1) fun u s2 ⟨y,H2,I2,r2,q2⟩=>
  JG (ho pins s2 σ H2 x y v u _ I2 r1 r2 q2) fun d s3 ⟨z,H3,I3,r3,k,e,q3⟩=>?_)) hm
 subst e;cases r3;refine wpAny_truthy_bool ?_;cases k with
 |false=>obtain⟨k',e',q'⟩:=q3;cases e';exact ite_ff ⟨H3,I3,q'⟩
 |true=>refine ite_tt (test_last (JG (hc pins s3 σ H3 _ I3 q3) fun w' s4 ⟨z',H4,I4,r4,q4⟩=>JG (MJ pins s4 σ H4 y z' u w' _ I4 r2 r4 q4) fun d' s5 ⟨z2,H5,I5,r5,k2,e2,q5⟩=>?_));subst e2;cases r5;exact wpAny_truthy_bool ⟨H5,I5,q5⟩
def HC (K:Frag)(x:V)(H:Hp)(k:Bool):Prop:=
 match x with
 |.Jt=>k=Ξ
 |.bl b=>k=b
 |.int i=>k=(i != 0)
 |.str y=>y.length<=Ζ/\k=((y.length:Int) != 0)
 |.OQ y=>y.size<=Ζ/\k=((y.size:Int) != 0)
 |.ref p=>(∃xs,Kf K H p xs/\k = !xs.isEmpty)∨(∃xs,JO K H p xs/\k = !xs.isEmpty)∨∃kvs,H p=Δ (.dK kvs)/\k = !kvs.isEmpty
 |_=>False
theorem rV (r:KV kvs vs):(!vs.isEmpty) = !kvs.isEmpty:=by cases r<;>rfl
theorem nC {its:List Ψ}(r:Vals xs its):(!its.toArray.isEmpty) = !xs.isEmpty:=by cases r<;>simp
theorem mr:(Ζ:Nat) < 2 ^ 63:=by rw[sizeLine_eq];decide
theorem Di:Hy X (fun x H Q=>∃k,HC X.K x H k/\Q k H):=by
 intro pins s σ H x v Q I rx h;obtain⟨k,e,q⟩:=h;have hl:=mr;have hs:Ζ=16777216:=sizeLine_eq;cases x with
 |Jt=>cases rx;have e':k=Ξ:=e;subst e';exact truthy_none ⟨H,I,q⟩
 |bl b=>cases rx;have e':k=b:=e;subst e';exact wpAny_truthy_bool ⟨H,I,q⟩
 |int i=>obtain⟨t,rfl⟩:=rx;have e':k=(i != 0):=e;subst e';exact PySem.P.truthy_int ⟨H,I,q⟩
 |str y=>obtain⟨t,rfl⟩:=rx;obtain⟨hy,e'⟩:y.length<=Ζ/\k=((y.length:Int) != 0):=e;subst e';exact PySem.P.truthy_str (by omega) ⟨H,I.tok _,q⟩
 |OQ y=>obtain⟨t,rfl⟩:=rx;obtain⟨hy,e'⟩:y.size<=Ζ/\k=((y.size:Int) != 0):=e;subst e';exact PySem.W.truthy_bytes (by omega) ⟨H,I.tok _,q⟩
 |ref p=>
  cases rx;have e':(∃xs,Kf X.K H p xs/\k = !xs.isEmpty)∨(∃xs,JO X.K H p xs/\k = !xs.isEmpty)∨∃kvs,H p=Δ (.dK kvs)/\k = !kvs.isEmpty:=e;rcases e' with⟨xs,hx,e'⟩|⟨xs,hx,e'⟩|⟨kvs,hx,e'⟩
  ·subst e';obtain⟨its,r,pl,hz⟩:=I.list hx;have hlen:=r.length;exact wpAny_truthy_list pl.isList (by simp only[A_];omega) ⟨H,I.tok _,by rw[nC r];exact q⟩
  ·subst e';obtain⟨its,r,pl,hz⟩:=I.tuple hx;have hlen:=r.length;exact truthy_tuple pl (by simp only[A_];omega) ⟨H,I.tok _,by rw[nC r];exact q⟩
  ·subst e';obtain⟨hz,hS,vs,r,m⟩:kvs.length<=Ζ/\(p == sysModules)=Ξ/\∃vs,KV kvs vs/\s.heap.DictOf (ja X.prog X.w) p vs:=I.JD p _ hx;have hlen:kvs.length=vs.length:=Paired.length r;exact wpAny_truthy_dict hS m (by omega) ⟨H,I.tok _,by rw[rV r];exact q⟩
 |_=>exact(show False from e).elim
theorem rW:Lk X (binaryOp .Add) (fun x y H Q=>∃i j,x=.str i/\y=.str j/\i.length+j.length<=Ζ/\Q (.str (i++j)) H):=by intro pins s σ H x y v u Q I rx ry h;obtain⟨i,j,rfl,rfl,hz,q⟩:=h;obtain⟨t,rfl⟩:=rx;obtain⟨t',rfl⟩:=ry;exact add_str (fun t' tk=>⟨.str (i++j),H,I.tok _,⟨_,rfl⟩,q⟩) hz
theorem vals1 (r:Vals [x] us):∃u,us=[u]/\RelV x u:=by
 cases r with
 |cons r1 r2=>cases r2;exact⟨_,rfl,r1⟩
theorem vals2 (r:Vals [x,y] us):∃u w',us=[u,w']/\RelV x u/\RelV y w':=by
 cases r with
 |cons r1 r2=>
  cases r2 with
  |cons r3 r4=>cases r4;exact⟨_,_,rfl,r1,r3⟩
theorem wB:jD X (.builtin "abs") (fun xs H Q=>∃i,xs=[.int i]/\Q (.int (if i < 0 then -i else i)) H):=by intro pins s σ H xs us Q I r h;obtain⟨i,rfl,q⟩:=h;obtain⟨u,rfl,t,rfl⟩:=vals1 r;exact call_abs_int fun u tk=>⟨.int (if i < 0 then -i else i),H,I.tok _,⟨_,rfl⟩,q⟩
theorem vk (hc:X.calm=Θ):jD X (.builtin "max") (fun xs H Q=>∃i j,xs=[.int i,.int j]/\Q (.int (if j > i then j else i)) H):=by
 intro pins s σ H xs us Q I r h;obtain⟨i,j,rfl,q⟩:=h;obtain⟨u,w',rfl,⟨t,rfl⟩,⟨t',rfl⟩⟩:=vals2 r;refine max_two_ints (I.ok.hd hc) fun h' tk k=>⟨_,H,I.kept k,?_,q⟩
 by_cases hj:j > i
 ·rw[e_ hj,e_ hj];exact⟨_,rfl⟩
 ·rw[d_ hj,d_ hj];exact⟨_,rfl⟩
theorem vn (hc:X.calm=Θ):jD X (.builtin "min") (fun xs H Q=>∃i j,xs=[.int i,.int j]/\Q (.int (if j < i then j else i)) H):=by
 intro pins s σ H xs us Q I r h;obtain⟨i,j,rfl,q⟩:=h;obtain⟨u,w',rfl,⟨t,rfl⟩,⟨t',rfl⟩⟩:=vals2 r;refine min_two_ints (I.ok.hd hc) fun h' tk k=>⟨_,H,I.kept k,?_,q⟩
 by_cases hj:j < i
 ·rw[e_ hj,e_ hj];exact⟨_,rfl⟩
 ·rw[d_ hj,d_ hj];exact⟨_,rfl⟩
theorem o8:jD X (.type "int") (fun xs H Q=>(∃i,xs=[.int i]/\Q (.int i) H)∨∃k,xs=[.bl k]/\Q (.int (if k then 1 else 0)) H):=by
 intro pins s σ H xs us Q I r h;rcases h with⟨i,rfl,q⟩|⟨k,rfl,q⟩
 ·obtain⟨u,rfl,t,rfl⟩:=vals1 r;exact call_int_int ⟨.int i,H,I,⟨_,rfl⟩,q⟩
 ·obtain⟨u,rfl,r1⟩:=vals1 r;cases r1;exact call_int_bool ⟨.int (if k then 1 else 0),H,I.tok _,⟨_,rfl⟩,q⟩
theorem wC:jD X (.builtin "ord") (fun xs H Q=>∃x,xs=[.str x]/\x.length=1/\Q (.int (x.cps.getD 0 0:Nat)) H):=by intro pins s σ H xs us Q I r h;obtain⟨x,rfl,hz,q⟩:=h;obtain⟨u,rfl,t,rfl⟩:=vals1 r;exact ord_of_one hz ⟨.int _,H,I.tok _,⟨_,rfl⟩,q⟩
def HD (K:Frag)(x:V)(H:Hp)(n:Nat):Prop:=
 match x with
 |.str y=>y.length<=Ζ/\n=y.length
 |.OQ y=>y.size<=Ζ/\n=y.size
 |.ref p=>(∃xs,Kf K H p xs/\n=xs.length)∨∃xs,JO K H p xs/\n=xs.length
 |_=>False
theorem nE:jD X (.builtin "len") (fun xs H Q=>∃x n,xs=[x]/\HD X.K x H n/\Q (.int n) H):=by
 intro pins s σ H xs us Q I r h;obtain⟨x,n,rfl,e,q⟩:=h;obtain⟨u,rfl,rx⟩:=vals1 r;have hl:=mr;have hs:Ζ=16777216:=sizeLine_eq;cases x with
 |str y=>obtain⟨t,rfl⟩:=rx;obtain⟨hy,e'⟩:y.length<=Ζ/\n=y.length:=e;subst e';exact len_str (by omega) ⟨.int _,H,I.tok _,⟨_,rfl⟩,q⟩
 |OQ y=>obtain⟨t,rfl⟩:=rx;obtain⟨hy,e'⟩:y.size<=Ζ/\n=y.size:=e;subst e';exact PySem.W.len_bytes (by omega) ⟨.int _,H,I.tok _,⟨_,rfl⟩,q⟩
 |ref p=>
  cases rx;have e':(∃xs,Kf X.K H p xs/\n=xs.length)∨∃xs,JO X.K H p xs/\n=xs.length:=e;rcases e' with⟨xs,hx,e'⟩|⟨xs,hx,e'⟩
  ·subst e';obtain⟨its,r',pl,hz⟩:=I.list hx;have hlen:=r'.length;exact Calls.call_len_list pl.isList (by simp only[A_];omega) ⟨.int xs.length,H,I.tok _,⟨_,by simp only[A_];rw[hlen]⟩,q⟩
  ·subst e';obtain⟨its,r',pl,hz⟩:=I.tuple hx;have hlen:=r'.length;exact len_tuple pl (by simp only[A_];omega) ⟨.int xs.length,H,I.tok _,⟨_,by simp only[A_];rw[hlen]⟩,q⟩
 |_=>exact(show False from e).elim
end
theorem mZ.some_of (r:mZ (Δ v) o):∃u,o=Δ u/\RelV v u:=by
 cases o with
 |none=>exact(show False from r).elim
 |some u=>exact⟨u,rfl,r⟩
structure Kx (k:Nat)(A:Ι):Prop where
 hd:k < 1000->A.handled=Φ
 dp:A.depth+3*(k % 1000)+5 < recursionLimit
 un:A.units+16*(k % 1000)+200 < cLine
theorem Kx.deeper (r:Kx (k+1) A)(env:Env)(hk:k % 1000≠999):Kx k (A.deeper env):=
 ⟨fun z=>r.hd (by omega),by have:=r.dp;show A.depth+1+3*(k % 1000)+5 < _;omega,by have:=r.un;show A.units+3+16*(k % 1000)+200 < _;omega⟩
theorem Kx.depth (r:Kx k A):A.depth < recursionLimit:=by have:=r.dp;omega
def wD:TA:=fun _ H Q=>Q [] H
def o9 (ta:TE)(tr:TA):TA:=fun σ H Q=>ta σ H fun x H1=>tr σ H1 fun xs H2=>Q (x::xs) H2
section
variable {X:Cx}{e:Expr}{es:List Expr}{te:TE}{t:TA}{pos:Pos}
theorem jO:PA X [] wD:=fun _ _ _ _ H Q I h=>Calls.spliced_nil ⟨[],H,I,.nil,h⟩
theorem jn (ha:PE X e te)(hr:PA X es t)(hs:Ν (e::es) X.env=(Ξ,eval e X.env)::Ν es X.env:=by rfl):PA X (e::es) (o9 te t):=by intro pos pins s σ H Q I h;rw[hs];show Κ _ _ (spliced ((Ξ,eval e X.env)::backTo pos (Ν es X.env))) _ _ s;refine Calls.spliced_cons (JG (ha pins s σ H _ I h) fun u s1 ⟨x,H1,I1,r1,q1⟩=>?_);exact JG (hr pos pins s1 σ H1 _ I1 q1) fun us s2 ⟨xs,H2,I2,r2,q2⟩=>⟨x::xs,H2,I2,.cons r1 r2,q2⟩
def HE (t:TA):TE:=fun σ H Q=>t σ H fun xs H1=>xs.length<=Ζ/\∀p,H1 p=Φ->Q (.ref p) (upd H1 p (.tup xs))
def HF (t:TA):TE:=fun σ H Q=>t σ H fun xs H1=>xs.length<=Ζ/\∀p,H1 p=Φ->Q (.ref p) (upd H1 p (.lst xs))
theorem wF {x1}(h:PA X es t):PE X (.Tuple es x1 pos) (HE t):=by intro pins s σ H Q I hq;refine wpAny_Tuple_spliced (JG (h pos pins s σ H _ I hq) fun us s1 ⟨xs,H1,I1,r,z,q⟩=>⟨by rw[<- r.length];exact z,?_⟩);have hf:H1 s1.heap.objs.size=Φ:=I1.JD.fresh (m_ _);refine⟨.ref s1.heap.objs.size,upd H1 s1.heap.objs.size (.tup xs),I1.laid (t':=s1.toks) (fun b u e=>l_ _ e) (m_ _) ?_,rfl,q _ hf⟩;exact⟨z,us,r,⟨_,u_ _ rfl,rfl,_,rfl⟩⟩
theorem wG (h:PA X es t):PE X (.List es pos) (HF t):=by intro pins s σ H Q I hq;refine wpAny_List_spliced (JG (h pos pins s σ H _ I hq) fun us s1 ⟨xs,H1,I1,r,z,q⟩=>⟨by rw[<- r.length];exact z,?_⟩);have hf:H1 s1.heap.objs.size=Φ:=I1.JD.fresh (m_ _);refine⟨.ref s1.heap.objs.size,upd H1 s1.heap.objs.size (.lst xs),I1.laid (t':=s1.toks) (fun b u e=>l_ _ e) (m_ _) ?_,rfl,q _ hf⟩;exact⟨z,us,0,r,u_ _ rfl⟩
end
abbrev Sp:=List V->Hp->VK->XK->Prop
abbrev KJ:=List Env->Hp->Α->XK->Ψ->Α->Prop
structure MN (P:Ε)(w:Β)(K:Frag)(mg:Str->Option Ψ)(base:Heap)(A:Ι)(outer:List Env)(s:Α)(H:Hp):Prop where
 frames:A.frames=Δ outer
 mod:Mod K mg base
 bs:∀b o,base.get? b=Δ o->s.heap.get? b=Δ o/\H b=Φ
 NQ:base.objs.size<=s.heap.objs.size
 KZ:s.heap.FunFrames base outer
 Nz:∀b∈Lj outer,H b=Φ
 JD:J6 P w H s.heap
 bare:AllBare s.gens
def CE (outer:List Env)(P:Ε)(w:Β)(H:Hp)(s:Α)(Q:VK)(u:Ψ)(s':Α):Prop:=
 ∃v H',s'.os=s.os/\AllBare s'.gens/\Un (Lj outer) [] H H' s.heap s'.heap/\J6 P w H' s'.heap/\RelV v u/\Q v H'
def CR (CX:KJ)(outer:List Env)(P:Ε)(w:Β)(H:Hp)(s:Α)(Q:VK)(E:XK)(r:Result)(s':Α):Prop:=
 match r with
 |.ok (.ret u)=>CE outer P w H s Q u s'
 |.ok _=>False
 |.error e=>CX outer H s E e s'
structure Lb (P:Ε)(w:Β)(K:Frag)(mg:Str->Option Ψ)(base:Heap)(CX:KJ)(k:Nat)(f:Ω)(fd:Ο)(ps:List Str)(sp:Sp):Prop where
 len:∀vs H Q E,sp vs H Q E->vs.length=ps.length
 run:∀(A:Ι) (outer:List Env) (s:Α) (H:Hp) (args:Args) (us:List Ψ) (vs:List V) (Q:VK) (E:XK),Kx k A->MN P w K mg base A outer s H->BindsTo s fd args (ps.zip us)->Vals vs us->sp vs H Q E->
  codeAny (Μ P w) A (.call (.ref f) args) (CR CX outer P w H s Q E) s
section
variable {X:Cx}{pins:List (Ω×Obj)}{σ:St}{H:Hp}{s s':Α}
theorem Inv.Ll (I:Inv X pins σ H s):MN X.prog X.w X.K X.mg X.base X.A X.stack s H:=
 ⟨I.ok.frames,I.ok.mod,I.bs,D_ I.ok.NQ I.sz,I.stack,I.Mn,I.JD,I.bare⟩
theorem Inv.after (I:Inv X pins σ H s)(h:CE X.stack X.prog X.w H s Q u s'):EP X pins σ Q u s':=by obtain⟨v,H',os,bare,un,JD,r,q⟩:=h;obtain⟨hh,g,d,t,Uc⟩:=s';obtain rfl:Uc=s.os:=os;exact⟨v,H',I.call (h':=hh) (g':=g) (d':=d) (t':=t) (ch:=[]) un JD bare (fun b z=>absurd z (by simp)),r,q⟩
end
def Binds (K:Frag)(fd:Ο)(ps:List Str)(ds:List Ψ):Prop:=
 ∀(s:Α) (us:List Ψ),K.In s.heap->(us++ds).length=ps.length->BindsTo s fd ⟨us,[]⟩ (ps.zip (us++ds))
theorem Binds.all {K:Frag}{fd:Ο}{ps:List Str}(h:∀us:List Ψ,us.length=ps.length->bindArgs fd ⟨us,[]⟩=pure (ps.zip us)):Binds K fd ps []:=fun s us _ hl=>by rw[P_]at hl ⊢;exact .of_eq (h us hl)
def Passes (CX:KJ)(X:Cx)(E:XK):Prop:=∀(pins:List (Ω×Obj)) (σ:St) (H:Hp) (s:Α) (e:Ψ) (s':Α),Inv X pins σ H s->CX X.stack H s E e s'->X.xe e s'
structure LH (N P:List Str)(sc:Scope):Prop where
 kind:sc.kind=.function
 co:sc.isCoroutine=Ξ
 gen:sc.isGenerator=Ξ
 nd:N.Nodup
 pre:N.take P.length=P
 par:∀x∈P,sc.names.lookup x=Δ .local∨sc.names.lookup x=Δ .cell
 OY:∀y∈sc.names,y.2≠.free
theorem pf {kindOf:Str->Option NameKind}{x:Str}:∀ {binds:List (Str×Ψ)}{m:Str->Option Ψ},(∀v,(x,v)∉binds)->bindL kindOf binds m x=m x
 |[],_,_=>rfl
 | (n,v)::r,m,h=>by
  unfold bindL;rw[pf fun w hw=>h w (H_ _ hw)];split
  ·have:x≠n:=by rintro rfl;exact h v aaD
   simp[this]
  ·rfl
theorem ph {kindOf:Str->Option NameKind}{x:Str}:∀ {binds:List (Str×Ψ)}{m:Str->Option Ψ},(∀v,(x,v)∉binds)->bindC kindOf binds m x=m x
 |[],_,_=>rfl
 | (n,v)::r,m,h=>by
  unfold bindC;rw[ph fun w hw=>h w (H_ _ hw)];split
  ·rfl
  ·have:x≠n:=by rintro rfl;exact h v aaD
   simp[this]
theorem pj {kindOf:Str->Option NameKind}{x:Str}{v:Ψ}:∀ {P:List Str}{vs:List Ψ}{i:Nat}{m:Str->Option Ψ},P.Nodup->P[i]? = Δ x->vs[i]? = Δ v->kindOf x=Δ .local->
  bindL kindOf (P.zip vs) m x=Δ v
 |[],_,_,_,_,h,_,_=>by simp at h
 |_::_,[],_,_,_,_,h,_=>by simp at h
 |p::P,w::vs,0,m,nd,h1,h2,hk=>by simp at h1 h2;subst h1;subst h2;show bindL kindOf ((p,w)::P.zip vs) m p=_;unfold bindL;rw[pf fun v hv=>(E_.mp nd).1 (List.of_mem_zip hv).1,e_ hk];simp
 |p::P,w::vs,i+1,m,nd,h1,h2,hk=>by show bindL kindOf ((p,w)::P.zip vs) m x=_;unfold bindL;exact pj (i:=i) (E_.mp nd).2 (by simpa using h1) (by simpa using h2) hk
theorem pq {kindOf:Str->Option NameKind}{x:Str}{v:Ψ}:∀ {P:List Str}{vs:List Ψ}{i:Nat}{m:Str->Option Ψ},P.Nodup->P[i]? = Δ x->vs[i]? = Δ v->kindOf x≠Δ .local->
  bindC kindOf (P.zip vs) m x=Δ v
 |[],_,_,_,_,h,_,_=>by simp at h
 |_::_,[],_,_,_,_,h,_=>by simp at h
 |p::P,w::vs,0,m,nd,h1,h2,hk=>by simp at h1 h2;subst h1;subst h2;show bindC kindOf ((p,w)::P.zip vs) m p=_;unfold bindC;rw[ph fun v hv=>(E_.mp nd).1 (List.of_mem_zip hv).1,d_ hk];simp
 |p::P,w::vs,i+1,m,nd,h1,h2,hk=>by show bindC kindOf ((p,w)::P.zip vs) m x=_;unfold bindC;exact pq (i:=i) (E_.mp nd).2 (by simpa using h1) (by simpa using h2) hk
noncomputable def start (N:List Str)(vs:List V):St:=vs.map Δ++Τ (N.length - vs.length) Φ
noncomputable def wH (CX:KJ)(P:Ε)(w:Β)(K:Frag)(mg:Str->Option Ψ)(base:Heap)(N:List Str)(qual:Str)(scope:Scope)(f:Ω)(cd:Ψ)(A:Ι)(outer:List Env)(s:Α)(H:Hp)(E:XK):Cx where
 prog:=P
 w:=w
 K:=K
 mg:=mg
 base:=base
 A:=A.deeper (envOfC qual scope s.heap.objs.size f cd)
 N:=N
 JZ:=s
 MI:=H
 env:=envOfC qual scope s.heap.objs.size f cd
 outer:=outer
 stack:=envOfC qual scope s.heap.objs.size f cd::outer
 ex:=[]
 calm:=A.handled.isNone
 fn:=fun _=>Θ
 pn:=[]
 xe:=fun e s'=>Κ (Μ P w) (A.deeper (envOfC qual scope s.heap.objs.size f cd)) (leaving (envOfC qual scope s.heap.objs.size f cd) e) (fun _ M8=>CX outer H s E e M8) (fun e' M8=>CX outer H s E e' M8) s'
theorem qE {sc:Scope}{n:Nat}{x:Str}(h:sc.names.lookup x=Δ .cell):∃c,(cellsFrom n sc.names []).lookup x=Δ c:=by have q:=PySem.W.cellsFrom_some sc.names n [] (.inl h);exact Option.isSome_iff_exists.mp q
theorem vq {CX:KJ}{P:Ε}{w:Β}{K:Frag}{mg:Str->Option Ψ}{base:Heap}{N ps:List Str}{qual:Str}{scope:Scope}{f:Ω}{cd:Ψ}{A:Ι}{outer:List Env}{s s1:Α}{H:Hp}{E:XK}{us:List Ψ}{vs:List V}
  (S:LH N ps scope) (e0:MN P w K mg base A outer s H) (hl:vs.length=ps.length) (r:Vals vs us)
  (x:InCallC s s.heap.objs.size (bindL (envOfC qual scope s.heap.objs.size f cd).kindOf (ps.zip us) fun _=>Φ) (cellsFrom (s.heap.objs.size+1) scope.names []) (bindC (envOfC qual scope s.heap.objs.size f cd).kindOf (ps.zip us) fun _=>Φ) s1) :
  Inv (wH CX P w K mg base N qual scope f cd A outer s H E) [] (start N vs) H s1:=by
 have OZ:ps.length<=N.length:=by have:=congrArg List.length S.pre;rw[aaz]at this;omega
 obtain⟨h1,tk,rfl,hk⟩:=x.done;have QN:∀b:Ω,b∉(wH CX P w K mg base N qual scope f cd A outer s H E).ex:=fun b z=>absurd (show b∈([]:List Ω) from z) (by simp)
 refine⟨⟨e0.mod,S.kind,rfl,rfl,m_ _,fun y z c h1 h2=>?_,fun y hy=>?_,fun y c _ h=>?_,fun h=>Option.isNone_iff_eq_none.mp h,Around.frames_deeper e0.frames,.inr ⟨rfl,rfl⟩,fun b z=>absurd z (QN b),e0.bs,e0.NQ,fun b _ _=>QN b,fun b z=>absurd z (QN b),e0.KZ,e0.Nz⟩,
  rfl,e0.bare,Un.kept hk,⟨_,x.toInCall.ns,fun i y v h1 h2 h3=>?_⟩,fun y c h=>⟨_,x.cell y c h⟩,e0.JD.fresh (m_ _),fun y c h=>?_,fun p hp=>absurd (show p∈([]:List (Ω×Obj)) from hp) (by simp),e0.JD.kept hk,?_⟩
 ·exact name_of_addr x.apart (PySem.mem_of_lookup h1) (PySem.mem_of_lookup h2)
 ·have hy:scope.names.lookup y=Δ .cell∨scope.names.lookup y=Δ .free:=hy;rcases hy with hy|hy
  ·exact qE hy
  ·exact absurd rfl (S.OY _ (PySem.mem_of_lookup hy))
 ·exact Nat.le_of_lt (x.above y c (PySem.mem_of_lookup h))
 ·have hi:i < vs.length:=by
   unfold start at h2;by_cases hi:i < vs.length
   ·exact hi
   ·rw[aaH (by simpa using hi)]at h2;rw[List.getElem?_replicate]at h2;split at h2<;>cases h2
  have ha:vs[i]? = Δ v:=by
   unfold start at h2;rw[aau (by simpa using hi),y_]at h2;cases e:vs[i]? with
   |none=>rw[e]at h2;cases h2
   |some a=>rw[e]at h2;cases h2;rfl
  obtain⟨u,hu,rv⟩:=r.get ha;have hp:ps[i]? = Δ y:=by rw[<- S.pre,List.getElem?_take_of_lt (by omega)];exact h1
  have WJ:ps.Nodup:=by rw[<- S.pre];exact S.nd.sublist (List.take_sublist _ _)
  refine⟨u,rv,?_⟩;rcases S.par y (aak hp) with k|k
  ·exact .inl ⟨k,pj WJ hp hu k⟩
  ·obtain⟨c,e⟩:=qE (n:=s.heap.objs.size+1) k;refine .inr ⟨.inl k,c,e,?_⟩;have q:=x.cell y c e;rw[pq WJ hp hu (by show scope.names.lookup y≠_;rw[k];decide)]at q;exact q
 ·exact e0.JD.fresh (Nat.le_of_lt (x.above y c (PySem.mem_of_lookup h)))
 ·unfold start;show _=N.length;rw[o_,i_,List.length_replicate];omega
theorem Fs {CX:KJ}{P:Ε}{w:Β}{K:Frag}{mg:Str->Option Ψ}{base:Heap}{k:Nat}{f:Ω}{name qual:Str}{params:Arguments}{body:List Stmt}{scope:Scope}{dV kV doc pm Lr ct oc:Ψ}{an od:Option Ω}
  {Ov:Array (Option Ψ)}{N ps:List Str}{sp:Sp} (lk:K.lookup f=Δ ⟨oc,od,.func (PySem.W.fnOf name qual params body scope dV kV doc pm an Lr ct),Ov⟩) (NV:PySem.W.codeIn K Lr qual=Θ) (S:LH N ps scope)
  (YD:k % 1000≠999) (len:∀vs H Q E,sp vs H Q E->vs.length=ps.length)
  (QO:∀(A:Ι) (outer:List Env) (s:Α) (H:Hp) (vs:List V) (Q:VK) (E:XK),Kx k (A.deeper (envOfC qual scope s.heap.objs.size f Lr))->sp vs H Q E->
   ∃t,L7 (wH CX P w K mg base N qual scope f Lr A outer s H E) body t/\t {nx:=fun _ H'=>Q .Jt H',rt:=Q} (start N vs) H) :
  Lb P w K mg base CX (k+1) f (PySem.W.fnOf name qual params body scope dV kV doc pm an Lr ct) ps sp:=by
 refine⟨len,fun A outer s H args us vs Q E hr e0 hb r Mq=>?_⟩;have hl:=len _ _ _ _ Mq;have KX:K.In s.heap:=e0.mod.SD.keeps fun b o e=>(e0.bs b o e).1;have lim:s.heap.NoLimit:=e0.mod.nolimit.keeps fun b o e=>(e0.bs b o e).1;have QP:∀y∈ps.zip us,scope.names.lookup y.1=Δ .local∨(scope.names.lookup y.1=Δ .cell/\((cellsFrom (s.heap.objs.size+1) scope.names []).lookup y.1).isSome=Θ):=fun⟨n,v⟩ hy=>by
  rcases S.par n (List.of_mem_zip hy).1 with q|q
  ·exact .inl q
  ·exact .inr ⟨q,PySem.W.cellsFrom_some _ _ _ (.inl q)⟩
 refine codeAny_call_function hr.depth (KX _ _ lk) rfl S.co S.gen rfl (PySem.W.codeRec_of KX NV) (hb _ _ _ _ ?_);refine wpAny_newFunctionEnv_cells S.kind QP fun env he s1 x=>?_;subst he;refine⟨lim.keeps x.toInCall.keep,codeAny_func ?_⟩;obtain⟨t,ht,hq⟩:=QO A outer s H vs Q E (hr.deeper _ YD) Mq;have I:Inv (wH CX P w K mg base N qual scope f Lr A outer s H E) [] (start N vs) H s1:=vq S e0 hl r x;refine wpAny_mono (ht [] s1 (start N vs) H _ I hq) (fun fl s' hs=>?_) fun e s' hs=>hs;have fin:∀ {JC:St}{H':Hp}{v:V}{u:Ψ},Inv (wH CX P w K mg base N qual scope f Lr A outer s H E) [] JC H' s'->RelV v u->Q v H'->CE outer P w H s Q u s':=
  fun {JC H' v u} J rv q=>⟨v,H',J.os,J.bare,J.base,J.JD,rv,q⟩
 cases fl with
 |ret u=>obtain⟨v,JC,H',J,rv,q⟩:=hs;exact fin J rv q
 |next=>obtain⟨JC,H',J,q⟩:=hs;exact fin (v:=V.Jt) (u:=Value.none) J rfl q
 |brk=>obtain⟨_,_,_,q⟩:=hs;exact False.elim q
 |cont=>obtain⟨_,_,_,q⟩:=hs;exact False.elim q
section
variable {X:Cx}{x:Str}{p pos:Pos}{e:Expr}{es:List Expr}{t:TA}{id T:String}{r:List V->Hp->VK->Prop}
def Ud (r:List V->Hp->VK->Prop)(t:TA):TE:=fun σ H Q=>t σ H fun vs H1=>r vs H1 Q
theorem nG (hc:jD X (.builtin id) r)(hg:Gl X x)(hm:X.mg x=Φ)(hv:bootBuiltins x=Δ (.builtin id))(ha:PA X (e::es) t)(hn:x≠"__name__":=by decide) (Ue:(x == ("__debug__" : Str))=Ξ:=by decide)
  (he:Ν (e::es) X.env=(Ξ,eval e X.env)::Ν es X.env:=by rfl) (OZ:(backTo pos (Ν es X.env)).any (·.1)=Ξ:=by rfl):PE X (.Call (.Name x p) (e::es) [] pos) (Ud r t):=by
 intro pins s σ H Q I h;refine wpAny_Call_Name_kw (kD I hg hm hv ?_ hn Ue);exact PyProof.Rows.callWith_builtin1 (JG (ha pos pins s σ H _ I h) fun us s1 ⟨vs,H1,I1,r1,q1⟩=>hc pins s1 σ H1 vs us Q I1 r1 q1) he OZ
theorem mB (hc:jD X (.type T) r)(hg:Gl X x)(hm:X.mg x=Φ)(hv:bootBuiltins x=Δ (.type T))(ha:PA X (e::es) t)(hn:x≠"__name__":=by decide) (Ue:(x == ("__debug__" : Str))=Ξ:=by decide)
  (he:Ν (e::es) X.env=(Ξ,eval e X.env)::Ν es X.env:=by rfl) (OZ:(backTo pos (Ν es X.env)).any (·.1)=Ξ:=by rfl):PE X (.Call (.Name x p) (e::es) [] pos) (Ud r t):=by
 intro pins s σ H Q I h;refine wpAny_Call_Name_kw (kD I hg hm hv ?_ hn Ue);exact aaF (JG (ha pos pins s σ H _ I h) fun us s1 ⟨vs,H1,I1,r1,q1⟩=>hc pins s1 σ H1 vs us Q I1 r1 q1) he OZ
end
end L2
namespace HT
open PySem PyProof.Rows
section
variable {prog:Ε}{w:Β}{A:Ι}{E:Ψ->Α->Prop}{s:Α}
noncomputable def LI (n d:Nat):Option Int->Nat
 |none=>d
 |some v=>if v < 0 then(v+(n:Int)).toNat else min v.toNat n
end
end HT
namespace L2
open PySem PySem.Spec PyProof.Rows
abbrev TO:=St->Hp->(Option Int->Hp->Prop)->Prop
def PO (X:Cx)(e:Option Expr)(t:TO):Prop:=
 ∀(pins:List (Ω×Obj)) (s:Α) (σ:St) (H:Hp) (Q:Option Int->Hp->Prop),Inv X pins σ H s->t σ H Q->
  Κ (Μ X.prog X.w) X.A (evalPart e X.env) (fun u s'=>∃o H',Inv X pins σ H' s'/\IsPart u o/\Q o H') X.xe s
def Ak:TO:=fun _ H Q=>Q Φ H
def Ft (t:TE):TO:=fun σ H Q=>t σ H fun x H1=>∃i,x=.int i/\Q (Δ i) H1
theorem intsAre_of:∀ {us:List Ψ},Vals (ns.map V.int) us->IntsAre us ns:=by
 induction ns with
 |nil=>intro us r;rw[List.map_nil]at r;cases r;exact .nil
 |cons n ns ih=>
  intro us r;rw[b_]at r;cases r with
  |cons r1 r2=>obtain⟨t,e⟩:=r1;subst e;exact .cons n t (ih r2)
section
variable {X:Cx}{e:Expr}{te:TE}{lo hi:Option Expr}{tl th:TO}{pos p2:Pos}
theorem Am:PO X Φ Ak:=by intro pins s σ H Q I h;rw[evalPart_none];exact f_ ⟨Φ,H,I,.none,h⟩
theorem An (h:PE X e te):PO X (Δ e) (Ft te):=by intro pins s σ H Q I hw;rw[evalPart_some];refine JG (h pins s σ H _ I hw) fun u s1 ⟨x,H1,I1,r1,q1⟩=>?_;obtain⟨i,rfl,q⟩:=q1;obtain⟨t,rfl⟩:=r1;exact⟨Δ i,H1,I1,.int i t,q⟩
def SQ (X:Cx)(r:V->Option Int->Option Int->Hp->VK->Prop):Prop:=
 ∀(pins:List (Ω×Obj)) (s:Α) (σ:St) (H:Hp) (x:V) (v vl vu:Ψ) (lo hi:Option Int) (sl:Ω) (Q:VK),Inv X pins σ H s->RelV x v->s.heap.IsSliceOf sl vl vu .none->IsPart vl lo->IsPart vu hi->r x lo hi H Q->
  ∃T id,typeLookup (.type T) "__getitem__" = pure (Δ (.builtin id))/\s.TypeIs v T/\Κ (Μ X.prog X.w) X.A (getItem v (.ref sl)) (EP X pins σ Q) X.xe s
def YE (r:V->Option Int->Option Int->Hp->VK->Prop)(te:TE)(tl th:TO):TE:=fun σ H Q=>te σ H fun x H1=>tl σ H1 fun l H2=>th σ H2 fun u H3=>r x l u H3 Q
theorem qF (hr:SQ X r)(he:PE X e te)(hl:PO X lo tl)(hu:PO X hi th):PE X (.Subscript e (.Slice lo hi Φ p2) pos) (YE r te tl th):=by intro pins s σ H Q I h;refine Subscript_ (JG (he pins s σ H _ I h) fun v s1 ⟨x,H1,I1,r1,q1⟩=>?_);refine wpAny_Slice (JG (hl pins s1 σ H1 _ I1 q1) fun vl s2 ⟨l,H2,I2,pl,q2⟩=>JG (hu pins s2 σ H2 _ I2 q2) fun vu s3 ⟨u,H3,I3,pu,q3⟩=>?_);rw[evalPart_none];refine f_ ?_;have I4:Inv X pins σ H3 {s3 with heap:=s3.heap.push {cls:=.type "slice",data:=.fields #[vl,vu,.none]}}:=I3.kept (t':=s3.toks) fun b ob q=>l_ _ q;obtain⟨T,id,hT,ht,hg⟩:=hr pins {s3 with heap:=s3.heap.push {cls:=.type "slice",data:=.fields #[vl,vu,.none]}} σ H3 x v vl vu l u s3.heap.objs.size Q I4 r1 (Heap.IsSliceOf.new ..) pl pu q3;show Κ (Μ X.prog X.w) X.A (subscriptTail e (.Slice lo hi Φ p2) v (.ref s3.heap.objs.size)) (EP X pins σ Q) X.xe {s3 with heap:=s3.heap.push {cls:=.type "slice",data:=.fields #[vl,vu,.none]}};exact tail_any (ops:=[.ref s3.heap.objs.size,v]) ht hT hg (by with_unfolding_all rfl)
noncomputable def vt (xs:List V)(lo hi:Option Int):List V:=(xs.drop (HT.LI xs.length 0 lo)).take (HT.LI xs.length xs.length hi - HT.LI xs.length 0 lo)
theorem qG (xs:List V)(lo hi:Option Int):(vt xs lo hi).length<=xs.length:=by unfold vt;rw[aaz,aah];omega
end
noncomputable def KU (n:Nat)(i:Int):Option Nat:=if 0<=i then(if i < n then Δ i.toNat else Φ) else if -(n:Int)<=i then Δ (i+n).toNat else Φ
noncomputable def KG {α:Type}(xs:List α)(i:Int):Option α:=(KU xs.length i).bind fun j=>xs[j]?
theorem tB (h:KU n i=Δ j):seqIndex? i n=Δ j/\j < n/\-(n:Int)<=i/\i < n:=by
 unfold KU at h;by_cases h0:0<=i
 ·rw[e_ h0]at h;by_cases h1:i < n
  ·rw[e_ h1]at h;have e:i.toNat=j:=J_ h;exact⟨by rw[seqIndex_of h0 h1,e],by omega,by omega,h1⟩
  ·rw[d_ h1]at h;cases h
 ·rw[d_ h0]at h;by_cases h1 : -(n:Int)<=i
  ·rw[e_ h1]at h;have e:(i+n).toNat=j:=J_ h;exact⟨by rw[seqIndex_neg (by omega) h1,e],by omega,h1,by omega⟩
  ·rw[d_ h1]at h;cases h
theorem pU (h:KG xs i=Δ v):∃j,seqIndex? i xs.length=Δ j/\xs[j]? = Δ v/\j < xs.length/\-(xs.length:Int)<=i/\i < xs.length:=by
 unfold KG at h;cases e:KU xs.length i with
 |none=>rw[e]at h;cases h
 |some j=>rw[e]at h;obtain⟨h1,h2,h3,h4⟩:=tB e;exact⟨j,h1,h,h2,h3,h4⟩
def Ao (b:Expr):Prop:=∀o i,subscripted b Ξ o i=operate [o,i] (getItem o i)
def NA (X:Cx)(r:R2):Prop:=
 ∀(value slice:Expr) (pins:List (Ω×Obj)) (s:Α) (σ:St) (H:Hp) (x y:V) (v u:Ψ) (Q:VK),Inv X pins σ H s->RelV x v->RelV y u->r x y H Q->
  subscripted slice Ξ v u=operate [v,u] (getItem v u)->Κ (Μ X.prog X.w) X.A (subscriptTail value slice v u) (EP X pins σ Q) X.xe s
def WK (X:Cx)(id:String)(r:V->List V->Hp->VK->Prop):Prop:=
 ∀(pins:List (Ω×Obj)) (s:Α) (σ:St) (H:Hp) (x:V) (xs:List V) (v:Ψ) (us:List Ψ) (Q:VK),Inv X pins σ H s->RelV x v->Vals xs us->r x xs H Q->
  Κ (Μ X.prog X.w) X.A (call (.builtin id) (v::us)) (EP X pins σ Q) X.xe s
section
variable {X:Cx}{a b:Expr}{ta tb:TE}{pos:Pos}
theorem NA.or (h:NA X r)(h':NA X r'):NA X (fun x y H Q=>r x y H Q∨r' x y H Q):=by
 intro value slice pins s σ H x y v u Q I rx ry q hs;rcases q with q|q
 ·exact h value slice pins s σ H x y v u Q I rx ry q hs
 ·exact h' value slice pins s σ H x y v u Q I rx ry q hs
theorem B7 (hr:NA X r)(ha:PE X a ta)(hb:PE X b tb)(hs:Ao b):PE X (.Subscript a b pos) (SM r ta tb):=by intro pins s σ H Q I h;exact Subscript_ (C8 ha hb I h fun v u s2 x y H2 I2 rx ry q=>hr a b pins s2 σ H2 x y v u Q I2 rx ry q (hs _ _))
def Fu (K:Frag):R2:=fun x y H Q=>∃p xs i v,x=.ref p/\y=.int i/\Kf K H p xs/\KG xs i=Δ v/\Q v H
def Fv (K:Frag):R2:=fun x y H Q=>∃p xs i v,x=.ref p/\y=.int i/\JO K H p xs/\KG xs i=Δ v/\Q v H
def Fw:R2:=fun x y H Q=>∃z i c,x=.str z/\y=.int i/\z.length<=Ζ/\KG z.cps.toList i=Δ c/\Q (.str ⟨#[c]⟩) H
theorem tD:NA X (Fu X.K):=by
 intro value slice pins s σ H x y v u Q I rx ry h hs;obtain⟨p,xs,i,z,rfl,rfl,hq,he,q⟩:=h;cases rx;obtain⟨t,rfl⟩:=ry;obtain⟨its,r,pl,hz⟩:=I.list hq;obtain⟨j,h1,h2,h3,h4,h5⟩:=pU he;obtain⟨w,ew,M9⟩:=r.get h2;have hl:=r.length;have hn:=mr;have fin:EP X pins σ Q w s:=⟨z,H,I,M9,q⟩
 by_cases h0:0<=i
 ·have hj:i.toNat=j:=by rw[seqIndex_of h0 h5]at h1;exact J_ h1
  exact item_listR pl.isList h0 (by omega) (by rw[hj];simpa using ew) fin hs
 ·have hj:(i+(its.toArray.size:Int)).toNat=j:=by rw[seqIndex_neg (by omega) h4]at h1;rw[A_,<- hl];exact J_ h1
  exact subscriptTail_builtinR (x:=w) pl.isList.typeIs slot_list_getitem.lookup
   (wpAny_getItem_list_neg (Q:=fun r s'=>r=w/\EP X pins σ Q r s') pl.isList (by omega) (by rw[A_]<;>omega) (by omega) (by rw[hj];simpa using ew) ⟨rfl,fin⟩) hs
theorem Dj:NA X (Fv X.K):=by
 intro value slice pins s σ H x y v u Q I rx ry h hs;obtain⟨p,xs,i,z,rfl,rfl,hq,he,q⟩:=h;cases rx;obtain⟨t,rfl⟩:=ry;obtain⟨its,r,pl,hz⟩:=I.tuple hq;obtain⟨j,h1,h2,h3,h4,h5⟩:=pU he;obtain⟨w,ew,M9⟩:=r.get h2;have hl:=r.length;have hn:=mr;have fin:EP X pins σ Q w s:=⟨z,H,I,M9,q⟩
 exact subscriptTail_builtinR (x:=w) pl.typeIs slot_tuple_getitem.lookup
  (getItem_tuple (j:=j) (Q:=fun r s'=>r=w/\EP X pins σ Q r s') pl (by omega) (by omega) (by rw[A_,<- hl];exact h1) (by simpa using ew) ⟨rfl,fin⟩) hs
theorem Dk:NA X Fw:=by
 intro value slice pins s σ H x y v u Q I rx ry h hs;obtain⟨z,i,c,rfl,rfl,hz,he,q⟩:=h;obtain⟨t,rfl⟩:=rx;obtain⟨t',rfl⟩:=ry;obtain⟨j,h1,h2,h3,h4,h5⟩:=pU he;have hl:z.cps.toList.length=z.length:=by simp[Str.length]
 rw[hl]at h1 h4 h5;have hn:=mr
 exact tail_any (typeIs_str s z t) slot_str_getitem.lookup (getItem_str (c:=c) (by
  have e1:decide (i < -(2 ^ 63:Int))=Ξ:=S_ (by omega);have e2:decide (i >= 2 ^ 63)=Ξ:=S_ (by omega)
  rw[e1,e2,Bool.or_false]) (by rw[h1];simpa using h2) ⟨.str ⟨#[c]⟩,H,I.tok _,⟨_,rfl⟩,q⟩) hs
def YF (K:Frag):R2:=fun x y H Q=>Fu K x y H Q∨Fv K x y H Q∨Fw x y H Q
theorem Dl:NA X (YF X.K):=tD.or (Dj.or Dk)
theorem rX (its:List Ψ)(n j:Nat)(u:Ψ):ι (·.setIfInBounds j u) {cls:=.type "list",data:=.seq its.toArray n} = {cls:=.type "list",data:=.seq (its.set j u).toArray n}:=by simp[ι]
theorem Inv.lst (I:Inv X pins σ H s)(h:H p=Δ (.lst xs)) :
  ∃(its:List Ψ) (n:Nat),Vals xs its/\s.heap.get? p=Δ {cls:=.type "list",data:=.seq its.toArray n}/\xs.length<=Ζ:=by
 obtain⟨z,its,n,r,e⟩:=I.JD p _ h;exact⟨its,n,r,e,z⟩
theorem Inv.O0 {pins:List (Ω×Obj)}{σ:St}{H:Hp}{s:Α}{p:Ω}{xs ys:List V}{its its':List Ψ}{n n':Nat}{f:Obj->Obj}(I:Inv X pins σ H s)(h:H p=Δ (.lst xs))
  (ho:s.heap.get? p=Δ {cls:=.type "list",data:=.seq its.toArray n}) (hf:f {cls:=.type "list",data:=.seq its.toArray n} = {cls:=.type "list",data:=.seq its'.toArray n'}) (r:Vals ys its') (hz:ys.length<=Ζ) (t:Nat) :
  Inv X pins σ (upd H p (.lst ys)) {s with heap:=s.heap.update p f,toks:=t}:=by
 have e:(s.heap.update p f).get? p=Δ {cls:=.type "list",data:=.seq its'.toArray n'}:=by rw[aaA f ho (by rw[hf]<;>rfl),hf]
 refine I.write (x:=p) (e:=p) (by rw[h];trivial) (.inl rfl) (fun b u hb q=>(aai _ _ (Ne.symm hb)).trans q) ⟨_,e⟩ ?_;exact⟨hz,its',n',r,e⟩
def Fx:V->V->V->Hp->(Hp->Prop)->Prop:=fun o i v H Q=>∃p xs k j,o=.ref p/\i=.int k/\H p=Δ (.lst xs)/\KU xs.length k=Δ j/\Q (upd H p (.lst (xs.set j v)))
theorem set_list:Fj X Fx:=by
 intro pins s σ H o i v ov iv u Q I ro ri rv h;obtain⟨p,xs,k,j,rfl,rfl,hp,hj,q⟩:=h;cases ro;obtain⟨t,rfl⟩:=ri;obtain⟨its,n,r,ho,hz⟩:=I.lst hp;obtain⟨h1,h2,h3,h4⟩:=tB hj;have hl:=r.length;have hn:=mr;have I':Inv X pins σ (upd H p (.lst (xs.set j v))) {s with heap:=s.heap.update p (ι (·.setIfInBounds j u))}:=
  I.O0 hp ho (rX its n j u) (r.set rv j) (by rw[List.length_set];exact hz) s.toks
 by_cases h0:0<=k
 ·have hk:k.toNat=j:=by rw[seqIndex_of h0 h4]at h1;exact J_ h1
  exact PySem.W.ki_setAt ho h0 (by omega) (by rw[A_,<- hl];exact h4) (by rw[hk];exact⟨_,I',q⟩)
 ·have hk:(k+(its.toArray.size:Int)).toNat=j:=by rw[seqIndex_neg (by omega) h3]at h1;rw[A_,<- hl];exact J_ h1
  exact PySem.W.ki_setBack ho (by omega) (by rw[A_,<- hl];exact h3) (by omega) (by rw[hk];exact⟨_,I',q⟩)
theorem pV (lo hi:Option Int)(n:Nat):(sliceBounds lo hi Φ n).1=((HT.LI n 0 lo:Nat):Int)/\(sliceBounds lo hi Φ n).2.1=((HT.LI n n hi:Nat):Int)/\(sliceBounds lo hi Φ n).2.2=1:=by
 refine⟨?_,?_,rfl⟩
 ·cases lo with
  |none=>simp[sliceBounds,HT.LI]
  |some i=>
   simp only[sliceBounds,HT.LI,Option.getD_none,show(1:Int) > 0 by decide,if_true];by_cases h:i < 0
   ·simp only[h,if_true]<;>omega
   ·simp only[h,if_false]<;>omega
 ·cases hi with
  |none=>simp[sliceBounds,HT.LI]
  |some i=>
   simp only[sliceBounds,HT.LI,Option.getD_none,show(1:Int) > 0 by decide,if_true];by_cases h:i < 0
   ·simp only[h,if_true]<;>omega
   ·simp only[h,if_false]<;>omega
theorem oQ (its:List Ψ)(lo hi:Option Int):slicePick its.toArray lo hi Φ=((its.drop (HT.LI its.length 0 lo)).take (HT.LI its.length its.length hi - HT.LI its.length 0 lo)).toArray:=by obtain⟨h1,h2,h3⟩:=pV lo hi its.toArray.size;unfold slicePick;rw[h1,h2,h3];simp only[sliceRange_one,pick_run,A_]<;>rfl
def HG (K:Frag):V->Option Int->Option Int->Hp->VK->Prop:=fun x lo hi H Q=>∃a xs,x=.ref a/\Kf K H a xs/\∀p,H p=Φ->Q (.ref p) (upd H p (.lst (vt xs lo hi)))
theorem tE:SQ X (HG X.K):=by intro pins s σ H x v vl vu lo hi sl Q I rx hs pl pu h;obtain⟨a,xs,rfl,hx,q⟩:=h;cases rx;obtain⟨its,r,ht,hz⟩:=I.list hx;have hlen:=r.length;refine⟨"list",_,slot_list_getitem.lookup,ht.isList.typeIs,?_⟩;refine wpAny_getItem_list_slice ht.isList hs pl pu .none (by simp) ?_ (by rw[A_]<;>omega);rw[oQ,<- hlen];refine⟨.ref s.heap.objs.size,_,I.laid (t':=s.toks) (o:=.lst (vt xs lo hi)) (fun b ob q=>l_ _ q) (m_ _) ?_,rfl,q _ (I.JD.fresh (m_ _))⟩;exact⟨D_ (qG xs lo hi) hz,_,0,(r.drop (HT.LI xs.length 0 lo)).take (HT.LI xs.length xs.length hi - HT.LI xs.length 0 lo),u_ _ rfl⟩
theorem kF:jD X (.type "list") (fun xs H Q=>∃p ys,xs=[.ref p]/\(Kf X.K H p ys∨JO X.K H p ys)/\∀l,H l=Φ->Q (.ref l) (upd H l (.lst ys))):=by
 intro pins s σ H xs us Q I r h;obtain⟨p,ys,rfl,hq,q⟩:=h;obtain⟨u,rfl,rx⟩:=vals1 r;cases rx;have fin:∀(its:List Ψ),Vals ys its->ys.length<=Ζ->∀(h':Heap) (c':Nat),(∀b o',s.heap.get? b=Δ o'->h'.get? b=Δ o')->
   h'.get? s.heap.objs.size=Δ {cls:=.type "list",dict:=Φ,data:=.seq its.toArray c',slots:=#[]}->EP X pins σ Q (.ref s.heap.objs.size) {s with heap:=h'}:=fun its r' hz h' c' kp e=>
  ⟨.ref s.heap.objs.size,_,I.laid (t':=s.toks) kp (m_ _) (show iV X.prog X.w _ h' _ (.lst ys) from⟨hz,its,c',r',e⟩),rfl,q _ (I.JD.fresh (m_ _))⟩
 rcases hq with hq|hq
 ·obtain⟨its,r',pl,hz⟩:=I.list hq;have hlen:=r'.length;obtain⟨o,ho,hc,n,hd⟩:=pl.isList;exact call_list_seq p (.inl rfl) ho hc hd (fun h' c' kp e=>fin its r' hz h' c' kp e) (by simp only[A_]<;>omega)
 ·obtain⟨its,r',pl,hz⟩:=I.tuple hq;have hlen:=r'.length;obtain⟨o,ho,hc,n,hd⟩:=pl;exact call_list_seq p (.inr rfl) ho hc hd (fun h' c' kp e=>fin its r' hz h' c' kp e) (by simp only[A_]<;>omega)
theorem oR:jD X (.type "tuple") (fun xs H Q=>∃p ys,xs=[.ref p]/\((Kf X.K H p ys/\∀l,H l=Φ->Q (.ref l) (upd H l (.tup ys)))∨(JO X.K H p ys/\Q (.ref p) H))):=by
 intro pins s σ H xs us Q I r h;obtain⟨p,ys,rfl,h⟩:=h;obtain⟨u,rfl,rx⟩:=vals1 r;cases rx;rcases h with⟨hq,q⟩|⟨hq,q⟩
 ·obtain⟨its,r',pl,hz⟩:=I.list hq;have hlen:=r'.length;refine call_tuple_list pl.isList (fun h' kp=>?_) (by simp only[A_]<;>omega);have I1:Inv X pins σ H {s with heap:=h'}:=I.kept (t':=s.toks) kp;have I2:Inv X pins σ (upd H h'.objs.size (.tup ys)) {s with heap:=h'.push {cls:=.type "tuple",data:=.seq its.toArray}}:=
   I1.laid (t':=s.toks) (fun b o e=>l_ _ e) (m_ _) (show iV X.prog X.w _ _ _ (.tup ys) from⟨hz,its,r',IsTup.new _ _⟩)
  exact⟨.ref h'.objs.size,_,I2,rfl,q _ (I1.JD.fresh (m_ _))⟩
 ·obtain⟨its,r',pl,hz⟩:=I.tuple hq;exact call_tuple_same pl ⟨.ref p,H,I,rfl,q⟩
def WL (K:Frag)(T:String)(x:V)(H:Hp):Prop:=match x with
 |.str _=>T = "str"
 |.int _=>T = "int"
 |.ref p=>(T = "list"/\∃xs,Kf K H p xs)∨(T = "tuple"/\∃o,K.lookup p=Δ o/\o.cls=.type "tuple"/\o.dict=Φ)∨
   (T = "dict"/\((∃kvs,H p=Δ (.dK kvs))∨∃kvs,H p=Δ (.dT kvs)))∨(T = "set"/\∃S n,H p=Δ (.set S n))
 |_=>False
theorem Dm (I:Inv X pins σ H s)(r:RelV x v)(ty:WL X.K T x H) :
  s.TypeIs v T/\∀a,v=.ref a->∃ob,s.heap.get? a=Δ ob/\ob.dict=Φ:=by
 cases x with
 |str z=>obtain⟨t,rfl⟩:=r;cases(show T = "str" from ty);exact⟨typeIs_str s z t,fun _ e=>nomatch e⟩
 |int i=>obtain⟨t,rfl⟩:=r;cases(show T = "int" from ty);exact⟨typeIs_int s i t,fun _ e=>nomatch e⟩
 |ref p=>
  cases r;rcases ty with⟨rfl,xs,hq⟩|⟨rfl,o,hk,hc,hd⟩|⟨rfl,hk⟩|⟨rfl,S,n,hk⟩
  ·obtain⟨its,_,pl,_⟩:=I.list hq;refine⟨pl.isList.typeIs,fun a e=>?_⟩;cases e;obtain⟨o,n,e,c,hd,_⟩:=pl;exact⟨o,e,hd⟩
  ·refine⟨⟨o,I.LX p o hk,hc⟩,fun a e=>?_⟩;cases e;exact⟨o,I.LX _ o hk,hd⟩
  ·have z:∃o,s.heap.get? p=Δ o/\o.ExactDict:=by
    rcases hk with⟨kvs,hk⟩|⟨kvs,hk⟩
    ·obtain⟨_,_,_,_,o,_,_,e,ex,_⟩:=I.JD p _ hk;exact⟨o,e,ex⟩
    ·obtain⟨_,_,_,_,o,_,_,e,ex,_⟩:=I.JD p _ hk;exact⟨o,e,ex⟩
   obtain⟨o,e,ex⟩:=z;refine⟨⟨o,e,ex.1⟩,fun a e2=>?_⟩;cases e2;exact⟨o,e,ex.2.1⟩
  ·obtain⟨o,_,_,_,e,ex,_⟩:=I.JD p _ hk;refine⟨⟨o,e,ex.1⟩,fun a e2=>?_⟩;cases e2;exact⟨o,e,ex.2.1⟩
 |_=>exact False.elim ty
def WM (K:Frag)(T:String)(r:V->List V->Hp->VK->Prop)(to:TE)(t:TA):TE:=fun σ H Q=>to σ H fun x H1=>WL K T x H1/\t σ H1 fun xs H2=>r x xs H2 Q
variable {o e:Expr}{es:List Expr}{to:TE}{t:TA}{name:Str}{apos IF:Pos}{T id:String}{r:V->List V->Hp->VK->Prop}
theorem pw (pa:PlainAttrs T)(slot:Slot T name id)(Qa:typeOf (.builtin id)=pure (.type "method_descriptor")) (hm:WK X id r) (ho:PE X o to) (ha:PA X (e::es) t)
  (Lc:attributeBase o name X.env (eval o X.env)=eval o X.env:=by rfl)
  (Ld:((backTo IF (Ν (e::es) X.env)).all (fun x=>!x.1)&&(backToKw IF (keywordEach [] X.env)).all (fun x=>x.1.isSome)
  &&decide ((e::es).length+([]:List Keyword).length+(if([]:List Keyword).isEmpty then 0 else 1) < 30))=Θ:=by rfl)
  (M':(apos.endLine == IF.line)=Θ:=by rfl) (hs:Ν (e::es) X.env=(Ξ,eval e X.env)::Ν es X.env:=by rfl) (O1:(backTo IF (Ν es X.env)).any (·.1)=Ξ:=by rfl) :
  PE X (.Call (.Attribute o name apos) (e::es) [] IF) (WM X.K T r to t):=by
 intro pins s σ H Q I h;refine wpAny_Call_method_late Lc Ld M' rfl (JG (ho pins s σ H _ I h) fun v s1 ⟨x,H1,I1,r1,ty,q1⟩=>?_);obtain⟨h1,h2⟩:=Dm I1 r1 ty;refine⟨T,id,pa,slot,Qa,h1,h2,?_⟩;have hA:=ha IF pins s1 σ H1 _ I1 q1;rw[hs]at hA ⊢;refine Calls.callWith_builtin (by show(Ξ||(backTo IF (Ν es X.env)).any (·.1))=Ξ;rw[O1]<;>rfl) (Calls.evalArgs_plain ?_);exact JG hA fun us s2 ⟨vs,H2,I2,r2,q2⟩=>hm pins s2 σ H2 x vs v us Q I2 r1 r2 q2
end
def WN (X:Cx)(id:String)(r:V->List V->Hp->VK->Prop):Prop:=
 ∀(pins:List (Ω×Obj)) (s:Α) (σ:St) (H:Hp) (x:V) (xs:List V) (v:Ψ) (us:List Ψ) (Q:VK),Inv X pins σ H s->RelV x v->Vals xs us->r x xs H Q->
  Κ (Μ X.prog X.w) X.A (call (.builtin id) (v::us)) (EP X pins σ Q) X.xe s
theorem Vals.one:∀ {x:V}{us:List Ψ},Vals [x] us->∃u,us=[u]/\RelV x u
 |_,_,.cons r .nil=>⟨_,rfl,r⟩
theorem Vals.rep (h:Vals xs us):∀k:Nat,Vals (Τ k xs).flatten (Τ k us).flatten
 |0=>.nil
 |k+1=>by rw[List.replicate_succ,List.replicate_succ,List.flatten_cons,List.flatten_cons];exact Vals.append h (Vals.rep h k)
theorem foldl_rep (its:List Ψ):∀(k:Nat) (acc:List Ψ),
  List.foldl (fun x1 x2=>x1++x2) acc.toArray (Τ k its.toArray)=(acc++(Τ k its).flatten).toArray
 |0,acc=>by simp
 |k+1,acc=>by
  have e:acc.toArray++its.toArray=(acc++its).toArray:=by simp
  have e2:(acc++its)++(Τ k its).flatten=acc++(Τ (k+1) its).flatten:=by rw[List.replicate_succ,List.flatten_cons,z_]
  rw[<- e2,<- foldl_rep its k (acc++its),<- e,List.replicate_succ,W_]
section
variable {X:Cx}{pins:List (Ω×Obj)}{σ:St}{H:Hp}{s:Α}{l b:Ω}{xs ys zs:List V}
theorem Inv.QQ {its its':List Ψ}{n:Nat}{f:Array Ψ->Array Ψ}{t':Nat}(I:Inv X pins σ H s)(hH:H l=Δ (.lst xs))
  (e:s.heap.get? l=Δ {cls:=.type "list",data:=.seq its.toArray n}) (hf:f its.toArray=its'.toArray) (hv:Vals ys its') (hz:ys.length<=Ζ) :
  Inv X pins σ (upd H l (.lst ys)) {s with heap:=s.heap.update l (ι f),toks:=t'}:=by
 have q:=PySem.IsL.update e f;rw[hf]at q;refine I.write (x:=l) (e:=l) (by rw[hH];exact trivial) (.inl rfl) (fun b' u hb hu=>(aai s.heap (ι f) (Ne.symm hb)).trans hu) ⟨_,q⟩ ?_;exact⟨hz,its',_,hv,q⟩
theorem Inv.O6 {its:List Ψ}  (I:Inv X pins σ H s)(hv:Vals ys its)(hz:ys.length<=Ζ) :
  Inv X pins σ (upd H s.heap.objs.size (.lst ys)) {s with heap:=s.heap.push {cls:=.type "list",data:=.seq its.toArray},toks:=t'}:=
 I.laid (fun _ _ q=>l_ _ q) (m_ _) ⟨hz,its,0,hv,u_ _ rfl⟩
theorem Inv.fresh (I:Inv X pins σ H s):H s.heap.objs.size=Φ:=I.JD.fresh (m_ _)
theorem Inv.QR (I:Inv X pins σ H s)(hH:H l=Δ (.lst xs)):xs.length<=Ζ/\∃(its:List Ψ) (n:Nat),Vals xs its/\xs.length=its.length/\s.heap.get? l=Δ {cls:=.type "list",data:=.seq its.toArray n}:=by obtain⟨z,its,n,r,e⟩:=I.JD l _ hH;exact⟨z,its,n,r,r.length,e⟩
theorem qH (h:n<=Ζ):Builtin.List.listTooLong n=Ξ:=by unfold Builtin.List.listTooLong;exact S_ (by omega)
end
section
variable {X:Cx}
def Ap:V->List V->Hp->VK->Prop:=fun x vs H Q=>∃l xs y,x=.ref l/\vs=[y]/\H l=Δ (.lst xs)/\xs.length < Ζ/\Q .Jt (upd H l (.lst (xs++[y])))
theorem mC:WN X "list.append" Ap:=by intro pins s σ H x vs v us Q I rx rv h;obtain⟨l,xs,y,rfl,rfl,hH,hz,q⟩:=h;cases rx;obtain⟨u,rfl,ru⟩:=rv.one;obtain⟨z,its,n,r,hl,e⟩:=I.QR hH;refine call_meets F.slot_list_append ⟨_,e,rfl⟩ F.entry_list_append (F.args_list_append_2 _ _) (PySem.list_append l its.toArray n u (by rw[A_];omega)) ⟨e,?_⟩;refine⟨.Jt,_,I.QQ (its':=its++[u]) hH e (by simp) (r.append (.cons ru .nil)) ?_,rfl,q⟩;rw[o_,X_];omega
theorem len_rep (xs:List α)(k:Nat):(Τ k xs).flatten.length=k*xs.length:=by
 induction k with
 |zero=>simp
 |succ k ih=>rw[List.replicate_succ,List.flatten_cons,o_,ih,Nat.succ_mul,Nat.add_comm]
end
end L2
namespace Att
open PySem PySem.W PySem.Calls PyProof.Rows
theorem m7:∀(ns:List Int) (vs:List Ψ),WellAll P h vs (ns.map WData.int)->IntsAre vs ns:=by
 intro ns
 induction ns with
 |nil=>intro vs w;rw[List.map_nil]at w;cases w;exact .nil
 |cons n ns ih=>
  intro vs w;rw[b_]at w;cases w with
  |cons a b=>cases a;exact .cons _ _ (ih _ b)
theorem vw {l:OpenLaw}{n:Nat}(hn:l.most=Δ n){P:Params}{h:Heap}{args:List WData}{vals:List Ψ}
  (NX:l.row.toRowW.claim.pre args=Θ) (Ug:WellAll P h vals args) :
  ∃a vs ns,vals=[θ a]/\args=[WData.list (ns.map WData.int)]/\h.get? a=Δ {cls:=.type "list",data:=.seq vs.toArray}/\IntsAre vs ns/\ns.length<=n:=by
 have YG:WShape.hasAll [] args [.list .int]=Θ:=(pre_splitW NX).1;have hc:l.pre.holds [] {args:=args} = Θ:=(pre_splitW NX).2;obtain⟨d,r,rfl,h1,h2⟩:=hasAllW_cons YG;obtain rfl:=hasAllW_nil h2;obtain⟨xs,rfl,h3⟩:=hasW_list h1;obtain⟨ns,rfl⟩:=items_int h3;have hlen:ns.length<=n:=by
  unfold OpenLaw.pre at hc;have h4:(WTm.not (.lt (.lit (.int (n:Int))) (.len (.arg 0)))).holds [] {args:=[.list (ns.map .int)]} = Θ:=by have h4:=(holds_andW hc).1;rw[hn]at h4;exact h4
  have h5:=condW_of h4 (w_not (w_lt w_lit (w_len_list (w_arg rfl))));rw[i_]at h5;refine Nat.le_of_not_lt fun q=>?_;have q':(n:Int) < ((ns.length:Nat):Int):=by omega
  first
   | (rw[G_ q']at h5;exact absurd h5 (by decide))
   | (simp at h5;omega)
 cases Ug with
 |cons w1 w2=>
  cases w2;cases w1 with
  |list ho Md=>exact⟨_,_,ns,rfl,rfl,ho,m7 ns _ Md,hlen⟩
theorem vA (l:OpenLaw)(args:List WData):l.row.toRowW.claim.post args (.bool Θ) args=Θ:=
 postW_of (r:=l.row.toRowW) (X:=(Θ == Θ))
  (show WShape.has [] (.bool Θ) .bool=Θ by first|rfl|decide|simp[WShape.has,WShape.arms,WShape.armsAll])
  (show(WTm.eq .res (.lit (.bool Θ))).value [] {args:=args,res:=Δ (.bool Θ),after:=args} = Δ (.bool (Θ == Θ)) from w_eq_bool (w_res rfl) w_lit) rfl
theorem LZ {l:OpenLaw}{n:Nat}{q:Ε}{loose:List Str}{XP:(Str->Option Ψ)->Heap->Prop}{YP:Β->Heap->Prop}{d:DefRec}
  (hn:l.most=Δ n) (QS:d.params.defaults=[])
  (call:∀(w:Β) (JZ JA:Α) (mg mb:Str->Option Ψ) (fa:Ω) (o:Obj) (pm cd doc:Ψ) (a:Ω) (vs:List Ψ) (ns:List Int),
   Ground q loose [] XP w JZ mg mb JA.heap->YP w JA.heap->
   JA.heap.get? fa=Δ o->o.data=.func (docDef d.name d.params d.body d.scope pm cd doc)->JA.heap.CodeRec cd d.name->mg d.name=Δ (.ref fa)->
   JA.heap.get? a=Δ {cls:=.type "list",data:=.seq vs.toArray}->IntsAre vs ns->ns.length<=n->JA.gens = #[]->
   codeAny (Μ l.prog w) callerA (.call (.ref fa) ⟨[.ref a],[]⟩) (fun r s'=>r=.ok (.ret (.bool Θ))/\OldK JA.heap s'.heap/\s'.os=JA.os/\AllBare s'.gens) JA) :
  WalkO q loose XP YP l.row.toRowW d [] (fun f vs=>PySem.call f vs):=by
 intro w JZ JA mg mb G Y fa o pm cd doc dV kV ho hd NV hD hmg hg args vals as NX YH hrd Ug Na;obtain rfl:dV=.none:=Dflts.none hD QS;obtain rfl:kV=.none:=Dflts.noKw hD;obtain⟨a,vs,ns,rfl,rfl,O7,hints,hlen⟩:=vw hn NX Ug;refine enter_call (codeAny_mono (call w JZ JA mg mb fa o pm cd doc a vs ns G Y ho (fd_plain hd) NV hmg O7 hints hlen hg) fun r s' hq=>?_);obtain⟨rfl,h2,h3,h4⟩:=hq;exact⟨.inl ⟨.bool Θ,.bool Θ,[],rfl,fun _=>rfl,.bool Θ,vA l _,fun _=>⟨List.Pairwise.nil,fun _ hm=>(nomatch hm)⟩⟩,h2,h3,h4⟩
end Att
namespace L2
open PySem PySem.Spec PyProof.Rows
def KL (K:Frag)(a:Ω)(xs:List V):Prop:=
 ∃(its:List Ψ) (n:Nat),K.lookup a=Δ {cls:=.type "list",data:=.seq its.toArray n}/\its.length<=Ζ/\Vals xs its
def Ls (K:Frag)(H:Hp)(a:Ω)(xs:List V):Prop:=Rd H a (.lst xs)∨KL K a xs
theorem pz:∀ {vs:List Ψ}{ns:List Int},IntsAre vs ns->Vals (ns.map V.int) vs
 |_,_,.nil=>.nil
 |_,_,.cons n t h=>.cons ⟨t,rfl⟩ (pz h)
def Dq (H:Hp):Prop:=∀b,H b=Φ∨∃o xs,H b=Δ (.JM o (.lst xs))
theorem wI {P:Ε}{w:Β}{K:Frag}{mg mb:Str->Option Ψ}{CX:KJ}{k:Nat}{fa a:Ω}{fd:Ο}{x:Str}{sp:Sp}{JA:Α}{vs:List Ψ}{ns:List Int}
  (KX:K.In JA.heap) (O8:JA.heap.Ns Η mg) (hb:JA.heap.Ns builtinsNs mb) (YI:∀x:Str,x≠"__name__"->mb x=bootBuiltins x) (Uh:JA.heap.NoLimit) (hg:JA.gens = #[])
  (ha:JA.heap.get? a=Δ {cls:=.type "list",data:=.seq vs.toArray}) (hi:IntsAre vs ns) (hl:ns.length<=Ζ) (hr:Kx k callerA)
  (F:∀base:Heap,K.In base->base.Ns Η mg->Lb P w K mg base CX k fa fd [x] sp) (QT:∀(s:Α) (u:Ψ),BindsTo s fd ⟨[u],[]⟩ [(x,u)])
  (Mq:∀H:Hp,Dq H->Ls K H a (ns.map V.int)->sp [.ref a] H (fun v _=>v=.bl Θ) fun _ _ _=>False)
  (Ui:∀H e s',CX [] H JA (fun _ _ _=>False) e s'->False) :
  codeAny (Μ P w) callerA (.call (.ref fa) ⟨[.ref a],[]⟩) (fun r s'=>r=.ok (.ret (.bool Θ))/\OldK JA.heap s'.heap/\s'.os=JA.os/\AllBare s'.gens) JA:=by
 have rv:=pz hi;have Uj:=hi.length
 -- from an abstract heap in WO nothing but OV O9 may be tracked
 have core:∀H:Hp,Dq H->Ls K H a (ns.map V.int)->J6 P w H JA.heap->(∀b,H b≠Φ->b=a)->(H a≠Φ->K.lookup a=Φ)->
   codeAny (Μ P w) callerA (.call (.ref fa) ⟨[.ref a],[]⟩) (fun r s'=>r=.ok (.ret (.bool Θ))/\OldK JA.heap s'.heap/\s'.os=JA.os/\AllBare s'.gens) JA:=by
  intro H hO hS JD hA hK;have Mr:∀ {b:Ω}{o:Obj},JA.heap.get? b=Δ o->H b=Φ->(pR JA.heap H).get? b=Δ o:=fun e n=>v8 e n;have QN:∀ {b:Ω}{o:Obj}{es:Array DictEntry}{ep:Nat},JA.heap.get? b=Δ o->o.data=.dict es ep->H b=Φ:=fun {b o es ep} e d=>by
   cases q:H b with
   |none=>rfl
   |some u=>have e':b=a:=hA b (by rw[q];simp);subst e';rw[ha]at e;cases e;have d':Data.seq vs.toArray _=Data.dict es ep:=d;cases d'
  have SR:∀ {b:Ω}{m:Str->Option Ψ},JA.heap.Ns b m->(pR JA.heap H).Ns b m:=fun {b m} ⟨o,es,ep,e,d,r⟩=>⟨o,es,ep,Mr e (QN e d),d,r⟩
  have WQ:K.In (pR JA.heap H):=fun b o e=>Mr (KX b o e) (by
   cases q:H b with
   |none=>rfl
   |some u=>
    have e':b=a:=hA b (by rw[q];simp);subst e'
    rw[hK (by rw[q];simp)]at e;cases e)
  have hM:Mod K mg (pR JA.heap H):=⟨WQ,SR O8,⟨mb,SR hb,YI⟩,let ⟨mc,h1,h2⟩:=Uh;⟨mc,SR h1,h2⟩⟩
  have e0:MN P w K mg (pR JA.heap H) callerA [] JA H:=⟨rfl,hM,fun b o e=>Ab e,Nat.le_of_eq (vd _ _),trivial,fun b hb=>absurd (show b∈([]:List Ω) from hb) (by simp),JD,.of_eq hg⟩
  refine codeAny_mono ((F _ WQ (SR O8)).run callerA [] JA H ⟨[.ref a],[]⟩ [.ref a] [.ref a] _ _ hr e0 (QT JA (.ref a)) (.cons rfl .nil) (Mq H hO hS)) fun r s' h=>?_;cases r with
  |error e=>exact(Ui H e s' h).elim
  |ok fl=>
   cases fl with
   |next=>exact False.elim h
   |brk=>exact False.elim h
   |cont=>exact False.elim h
   |ret u=>
    obtain⟨v,H',os,bare,un,Uk,r',q⟩:=h;have q':v=.bl Θ:=q;subst q';obtain rfl:u=Value.bool Θ:=r';refine⟨rfl,OldK.of_keep fun b o e=>?_,os,bare⟩;cases q:H b with
    |none=>exact un.keep b o e q (by intro z;exact absurd (show b∈([]:List Ω) from z) (by simp)) (by simp)
    |some u=>
     rcases hO b with z|⟨ob,xs,z⟩
     ·rw[q]at z;cases z
     ·have z2:=un.Kw b ob _ z;obtain⟨e1,_⟩:=JD b _ z;obtain⟨e2,_⟩:=Uk b _ z2;rw[e]at e1;cases e1;exact e2
 cases hk:K.lookup a with
 |some o=>
  -- OV O9 is one of OV QU own objects
  have e:=KX a o hk;rw[ha]at e;cases e;refine core (fun _=>Φ) (fun _=>.inl rfl) (.inr ⟨vs,_,hk,by rw[Uj];exact hl,rv⟩) (fun b u z=>by have z':(Φ:Option HO)=Δ u:=z;cases z') (fun b z=>absurd rfl z) fun z=>absurd rfl z
 |none=>
  refine core (fun b=>if b=a then Δ (.JM {cls:=.type "list",data:=.seq vs.toArray} (.lst (ns.map V.int))) else Φ) (fun b=>?_) (.inl (.inr ⟨{cls:=.type "list",data:=.seq vs.toArray},e_ rfl⟩)) (fun b u z=>?_) (fun b z=>?_) fun _=>hk
  ·by_cases hb:b=a
   ·exact .inr ⟨_,_,e_ hb⟩
   ·exact .inl (d_ hb)
  ·by_cases hb:b=a
   ·have z':=(e_ hb).symm.trans z;cases z';subst hb;exact⟨ha,by rw[i_];exact hl,vs,_,rv,ha⟩
   ·have z':=(d_ hb).symm.trans z;cases z'
  ·by_cases hb:b=a
   ·exact hb
   ·exact absurd (d_ hb) z
theorem Aq {l:PySem.W.OpenLaw}{n k:Nat}{q:Ε}{loose:List Str}{XP:(Str->Option Ψ)->Heap->Prop}{YP:Β->Heap->Prop}{d:DefRec}{K:Params->Frag}{CX:Β->KJ}{sp:Β->Sp}{x:Str}
  (hn:l.most=Δ n) (SS:n<=Ζ) (QS:d.params.defaults=[]) (hr:Kx k callerA)
  (hY:∀(w:Β) (h:Heap),YP w h->(K w.params).In h)
  (F:∀(w:Β) (mg:Str->Option Ψ) (fa:Ω) (h:Heap),(K w.params).In h->h.Ns Η mg->mg d.name=Δ (.ref fa)->
   ∃fd:Ο,(∀(s:Α) (u:Ψ),BindsTo s fd ⟨[u],[]⟩ [(x,u)])/\
    ∀base:Heap,(K w.params).In base->base.Ns Η mg->Lb l.prog w (K w.params) mg base (CX w) k fa fd [x] (sp w))
  (Mq:∀(w:Β) (H:Hp) (a:Ω) (ns:List Int),ns.length<=n->Dq H->Ls (K w.params) H a (ns.map V.int)->sp w [.ref a] H (fun v _=>v=.bl Θ) fun _ _ _=>False)
  (Ui:∀(w:Β) (H:Hp) (s:Α) (e:Ψ) (s':Α),CX w [] H s (fun _ _ _=>False) e s'->False) :
  PySem.W.WalkO q loose XP YP l.row.toRowW d [] (fun f vs=>PySem.call f vs):=by
 refine Att.LZ hn QS fun w JZ JA mg mb fa o pm cd doc a vs ns G Y ho hd NV hmg O7 hints hlen hg=>?_;have KX:=hY w _ Y;obtain⟨fd,hb,hF⟩:=F w mg fa _ KX G.T.g hmg;exact wI KX G.T.g G.T.b G.T.builtins G.T.nolimit hg O7 hints (D_ hlen SS) hr hF hb (fun H hO hS=>Mq w H a ns hlen hO hS) fun H e s'=>Ui w H JA e s'
noncomputable def ke (s:Stmt):Arguments:=match s with
 |.FunctionDef _ a _ _ _ _ _ _ _ _=>a
 |_=>{posonlyargs:=[],args:=[],vararg:=Φ,kwonlyargs:=[],kw_defaults:=[],kwarg:=Φ,defaults:=[]}
noncomputable def jQ (s:Stmt):List Stmt:=match s with
 |.FunctionDef _ _ b _ _ _ _ _ _ _=>b
 |_=>[]
noncomputable def iT (s:Stmt):Scope:=match s with
 |.FunctionDef _ _ _ _ _ _ sc _ _ _=>sc
 |_=>{kind:=.function,names:=[],isGenerator:=Ξ,isCoroutine:=Ξ}
structure Qb (K:Frag)(x qual:Str)(st:Stmt)(f:Ω)(fd:Ο):Prop where
 ex:∃(oc:Ψ) (od:Option Ω) (kV doc pm:Ψ) (an:Option Ω) (Lr ct:Ψ) (Ov:Array (Option Ψ)),
  fd=PySem.W.fnOf x qual (ke st) (jQ st) (iT st) .none kV doc pm an Lr ct/\K.lookup f=Δ ⟨oc,od,.func fd,Ov⟩/\PySem.W.codeIn K Lr qual=Θ
 kp:PySem.W.keepIn K (.ref f)=Θ
section
variable {P:Ε}{w:Β}{K:Frag}{mg:Str->Option Ψ}{base:Heap}
theorem Qb.binds {x qual:Str}{st:Stmt}{f:Ω}{fd:Ο}{ps:List Str}(F:Qb K x qual st f fd)
  (h:∀(kV doc pm:Ψ) (an:Option Ω) (Lr ct:Ψ) (us:List Ψ),us.length=ps.length->bindArgs (PySem.W.fnOf x qual (ke st) (jQ st) (iT st) .none kV doc pm an Lr ct) ⟨us,[]⟩=pure (ps.zip us)):Binds K fd ps []:=by
 obtain⟨oc,od,kV,doc,pm,an,Lr,ct,Ov,rfl,lk,NV⟩:=F.ex;exact .all (h kV doc pm an Lr ct)
theorem rY {x qual:Str}{st:Stmt}{f:Ω}{oc:Ψ}{od an:Option Ω}{Ov:Array (Option Ψ)}{kV doc pm Lr ct:Ψ}(l:K.lookup f=Δ ⟨oc,od,.func (PySem.W.fnOf x qual (ke st) (jQ st) (iT st) .none kV doc pm an Lr ct),Ov⟩)
  (c:PySem.W.codeIn K Lr qual=Θ) (k:PySem.W.keepIn K (.ref f)=Θ):Qb K x qual st f (PySem.W.fnOf x qual (ke st) (jQ st) (iT st) .none kV doc pm an Lr ct):=⟨⟨oc,od,kV,doc,pm,an,Lr,ct,Ov,rfl,l,c⟩,k⟩
end
def iL (H H':Hp):Prop:=∀b o,H b=Δ o->H' b=Δ o
theorem iL.refl (H:Hp):iL H H:=fun _ _ h=>h
theorem iL.trans (a:iL H H1)(b:iL H1 H2):iL H H2:=fun c o h=>b c o (a c o h)
theorem iL.free (e:iL H H')  (h:H' l=Option.none):H l=Option.none:=by
 cases q:H l with
 |none=>rfl
 |some o=>rw[e l o q]at h;cases h
theorem iL.seq {K:Frag}{H H':Hp}{a:Ω}{xs:List V}(e:iL H H')(h:Kf K H a xs):Kf K H' a xs:=by
 rcases h with(h|⟨o,h⟩)|h
 ·exact .inl (.inl (e _ _ h))
 ·exact .inl (.inr ⟨o,e _ _ h⟩)
 ·exact .inr h
theorem iN (h:PE X e t)(m:∀σ H Q,t' σ H Q->t σ H Q):PE X e t':=fun pins s σ H Q I q=>h pins s σ H Q I (m σ H Q q)
theorem nH (h:PT X e t)(m:∀σ H Q,t' σ H Q->t σ H Q):PT X e t':=fun pins s σ H Q I q=>h pins s σ H Q I (m σ H Q q)
theorem pW (h:PA X e t)(m:∀σ H Q,t' σ H Q->t σ H Q):PA X e t':=fun pos pins s σ H Q I q=>h pos pins s σ H Q I (m σ H Q q)
theorem jY (h:PS X e t)(m:∀D σ H,t' D σ H->t D σ H):PS X e t':=fun pins s σ H D I q=>h pins s σ H D I (m D σ H q)
theorem nh (h:L7 X e t)(m:∀D σ H,t' D σ H->t D σ H):L7 X e t':=fun pins s σ H D I q=>h pins s σ H D I (m D σ H q)
theorem pX (h:PI X tg e t)(m:∀σ H Q,t' σ H Q->t σ H Q):PI X tg e t':=fun pins s σ H Q I q=>h pins s σ H Q I (m σ H Q q)
def Ms (X:Cx)(scope:Scope)(cl:List (Str×Ω))(N:List Str)(C:Ω)(s3:Α)(H3:Hp)(fp:List Ω)(xe:Ψ->Α->Prop:=fun _ _=>False):Cx:=
 {X with N:=N,JZ:=s3,MI:=H3,env:=compEnvC scope cl C X.env,outer:=X.stack,ex:=fp,fn:=fun _=>Ξ,pn:=[],xe:=xe}
structure KP (X:Cx)(scope:Scope)(cl:List (Str×Ω))(Fr:List (Str×Nat))(Tg:List Str):Prop where
 QV:closureFor scope X.env=pure cl
 kind:scope.kind=.function
 LJ:∀y∈scope.names,y.2≠.cell
 loc:∀y∈scope.names,y.2=.local->scope.names.lookup y.1=Δ .local
 sub:∀x c,cl.lookup x=Δ c->X.env.cells.lookup x=Δ c
 has:∀x,((relabel scope X.env).names.lookup x=Δ .cell∨(relabel scope X.env).names.lookup x=Δ .free)->∃c,cl.lookup x=Δ c
 out:∀p∈Fr,X.N[p.2]? = Δ p.1/\(X.env.kindOf p.1=Δ .cell∨X.env.kindOf p.1=Δ .free)/\((relabel scope X.env).names.lookup p.1=Δ .cell∨(relabel scope X.env).names.lookup p.1=Δ .free)
noncomputable def stC (Fr:List (Str×Nat))(Tg:List Str)(σ:St):St:=Fr.map (fun p=>(σ[p.2]?).join)++Τ Tg.length Φ
section
variable {X:Cx}{scope:Scope}{cl:List (Str×Ω)}{Fr:List (Str×Nat)}{Tg:List Str}{pins:List (Ω×Obj)}{σ:St}{H3:Hp}{s3:Α}{fp:List Ω}
theorem Dr (S:KP X scope cl Fr Tg)(I:Inv X pins σ H3 s3)(hf:∀b∈fp,lb X pins H3 b)(Ul:∀b∈fp,b < s3.heap.objs.size)(N:List Str)(xe:Ψ->Α->Prop):(Ms X scope cl N s3.heap.objs.size s3 H3 fp xe).Ok where
 mod:=I.ok.mod
 kind:=S.kind
 glob:=I.ok.glob
 blt:=I.ok.blt
 above:=m_ _
 inj:=fun x y c h1 h2=>I.ok.inj x y c (S.sub x c h1) (S.sub y c h2)
 has:=fun x h=>S.has x h
 SE:=fun x c h _=>absurd (show Ξ=Θ from h) (by decide)
 hd:=I.ok.hd
 frames:=I.ok.frames
 Jw:=.inl rfl
 T2:=fun b hb=>⟨p_ (Ul b hb),fun x c e z=>(hf b hb).2.2.2.2.1 x c (S.sub x c e) z⟩
 bs:=I.bs
 NQ:=D_ I.ok.NQ I.sz
 NR:=fun b o e hb=>by
  rcases(hf b hb).2.2.2.1 with z|z
  ·exact I.ok.NR b o e z
  ·exact absurd (B_ (j_ e) (D_ I.ok.NQ z)) (T_ _)
 NT:=fun b hb z=>by
  rcases k_.mp (I.L' b z) with z|z
  ·exact(hf b hb).2.1 z
  ·exact(hf b hb).2.2.1 z
 KZ:=I.stack
 Nz:=I.Mn
theorem vB (S:KP X scope cl Fr Tg)(I:Inv X pins σ H3 s3)(hf:∀b∈fp,lb X pins H3 b)(Ul:∀b∈fp,b < s3.heap.objs.size){h':Heap}{tk:Nat}
  (O8:h'.Ns s3.heap.objs.size (fun _=>Φ)) (hk:∀b o,s3.heap.get? b=Δ o->h'.get? b=Δ o) (xe:Ψ->Α->Prop) :
  Inv (Ms X scope cl (Fr.map (·.1)++Tg) s3.heap.objs.size s3 H3 fp xe) [] (stC Fr Tg σ) H3 {s3 with heap:=h',toks:=tk} where
 ok:=Dr S I hf Ul _ _
 os:=rfl
 bare:=I.bare
 base:=Un.kept hk
 loc:=by
  refine⟨_,O8,fun i x v e1 e2 e3=>?_⟩;have hi:i < Fr.length:=by
   by_cases hi:i < Fr.length
   ·exact hi
   ·unfold stC at e2;rw[aaH (by simpa using hi),List.getElem?_replicate]at e2;split at e2<;>cases e2
  have SU:(Fr.map (·.1))[i]? = Δ x:=by rw[<- e1];exact(aau (by simpa using hi)).symm
  have Kh:(Fr.map (fun p=>(σ[p.2]?).join))[i]? = Δ (Δ v):=by rw[<- e2];exact(aau (by simpa using hi)).symm
  rw[y_]at SU Kh;obtain⟨p,hp,rfl⟩:=aal.mp SU;rw[hp]at Kh;have NY:(σ[p.2]?).join=Δ v:=J_ Kh;have e4:σ[p.2]? = Δ (Δ v):=by
   cases q:σ[p.2]? with
   |none=>rw[q]at NY;cases NY
   |some y=>rw[q]at NY;rw[show y=Δ v from NY]
  obtain⟨o1,o2,o3⟩:=S.out p (aak hp);obtain⟨m,hn,hl⟩:=I.loc;have hv:QE X.env.scope p.1:=by
   rcases o2 with o2|o2
   ·exact .inr (.inl o2)
   ·exact .inr (.inr o2)
  obtain⟨u,r,l⟩:=hl p.2 p.1 v o1 e4 hv;refine⟨u,r,.inr ⟨o3,?_⟩⟩;obtain⟨c,hc⟩:=S.has p.1 o3;refine⟨c,hc,?_⟩;have P7:=S.sub _ _ hc;rcases l with⟨k,_⟩|⟨_,c2,h2,z⟩
  ·rcases o2 with o2|o2<;>(rw[k]at o2;cases o2)
  ·rw[P7]at h2;cases h2;obtain⟨o,ho,hd⟩:=z;exact⟨o,hk _ _ ho,hd⟩
 cell:=fun x c e=>by obtain⟨v,o,ho,hd⟩:=I.cell x c (S.sub x c e);exact⟨v,o,hk _ _ ho,hd⟩
 free:=I.JD.fresh (m_ _)
 Ks:=fun x c e=>I.Ks x c (S.sub x c e)
 pin:=fun p hp=>absurd (show p∈([]:List (Ω×Obj)) from hp) (by simp)
 JD:=I.JD.kept hk
 len:=by unfold stC;show _=(Fr.map (·.1)++Tg).length;simp
end
def NZ (X:Cx)(ifs:List Expr)(t:TT):Prop:=
 ∀(pins:List (Ω×Obj)) (s:Α) (σ:St) (H:Hp) (Q:Bool->Hp->Prop),Inv X pins σ H s->t σ H Q->
  Κ (Μ X.prog X.w) X.A (forIn ifs Θ fun c r=>if r=Θ then do let ok <- isTrue c X.env (eval c X.env);pure (ForInStep.yield ok) else pure (ForInStep.yield r)) (TP X pins σ Q) X.xe s
theorem mU (h:Q Ξ s):∀ifs:List Expr,
  Κ M A (forIn ifs Ξ fun c r=>if r=Θ then do let ok <- isTrue c env (eval c env);pure (ForInStep.yield ok) else pure (ForInStep.yield r)) Q E s
 |[]=>by rw[List.forIn_nil];exact f_ h
 |c::cs=>by rw[List.forIn_cons];rw[d_ n_];exact a_ (f_ (mU h cs))
theorem As:NZ X [] (fun _ H Q=>Q Θ H):=fun pins s σ H Q I q=>by rw[List.forIn_nil];exact f_ ⟨H,I,q⟩
theorem wJ (hc:PT X c t)(hr:NZ X cs u):NZ X (c::cs) (Fe t u):=fun pins s σ H Q I q=>by
 rw[List.forIn_cons,e_ rfl];refine a_ (a_ (JG (hc pins s σ H _ I q) fun b s1 ⟨H1,I1,q1⟩=>f_ ?_));cases b with
 |true=>exact hr pins s1 σ H1 Q I1 q1
 |false=>exact mU ⟨H1,I1,q1⟩ cs
def wK (wi:TI)(start:St->St)(g:TG)(tt:TT)(te:TE):TE:=fun σ H Q=>wi σ H fun J H1=>∀D,H1 D=Φ->∃W:Nat->Nat->St->Hp->Prop,(∃m,W 0 m (start σ) (upd H1 D (.lst [])))/\
 ∀i m JC H',W i m JC H'->(J.stop i H'/\Q (.ref D) H')∨(J.go i H'/\∀x H2,J.NW i H' x H2->g x JC H2 fun LY H3=>tt LY H3 fun b H4=>
  if b=Θ then te LY H4 fun v H5=>∃ys,H5 D=Δ (.lst ys)/\ys.length < Ζ/\∃m',m' < m/\W (i+1) m' LY (upd H5 D (.lst (ys++[v])))
  else ∃m',m' < m/\W (i+1) m' LY H4)
section
variable {X:Cx}{scope:Scope}{cl:List (Str×Ω)}{Fr:List (Str×Nat)}{Tg:List Str}{elt tg iter:Expr}{ifs:List Expr}{wi:TI}{g:TG}{tt:TT}{te:TE}{pos:Pos}
theorem pY (scope:Scope)(pos:Pos)(it acc:Ψ)(env:Env) :
  compTurn (.ListComp elt [⟨tg,iter,ifs,0⟩] scope pos) 0 it acc env=(do
   standAt iter.pos
   match <- pyNext it with
   |none=>pure (.done .next)
   |some v=>
    letOwnedTupleGo tg it v
    assign tg env v
    let ok <- forIn ifs Θ fun c r=>if r=Θ then do let ok <- isTrue c env (eval c env);pure (ForInStep.yield ok) else pure (ForInStep.yield r)
    if ok=Θ then
     (do let _ <- call (.builtin "list.append") [acc,<- eval elt env])
    again (.compLoop (.ListComp elt [⟨tg,iter,ifs,0⟩] scope pos) 0 it acc env)):=by rfl
theorem nJ {XE:Ω->Α->Hp->List Ω->Ψ->Α->Prop}(hc:X.calm=Θ)(S:KP X scope cl Fr Tg)
  (hg:∀C s H fp,PG (Ms X scope cl (Fr.map (·.1)++Tg) C s H fp (XE C s H fp)) tg g) (ht:∀C s H fp,NZ (Ms X scope cl (Fr.map (·.1)++Tg) C s H fp (XE C s H fp)) ifs tt)
  (he:∀C s H fp,PE (Ms X scope cl (Fr.map (·.1)++Tg) C s H fp (XE C s H fp)) elt te)
  {pins:List (Ω×Obj)}{σ:St}{H2:Hp}{s2:Α}{it:Ω}{fp:List Ω}{tn:Nat->Heap->Prop}{J:It}{Q:VK} (I2:Inv X pins σ H2 s2) (T:Turn X.prog X.w X.K tg J fp it tn) (Ou:tn 0 s2.heap)
  (f2:∀b∈fp,lb X pins H2 b)
  (q:∀D,H2 D=Φ->∃W:Nat->Nat->St->Hp->Prop,(∃m,W 0 m (stC Fr Tg σ) (upd H2 D (.lst [])))/\
   ∀i m JC H',W i m JC H'->(J.stop i H'/\Q (.ref D) H')∨(J.go i H'/\∀x H2,J.NW i H' x H2->g x JC H2 fun LY H3=>tt LY H3 fun b H4=>
    if b=Θ then te LY H4 fun v H5=>∃ys,H5 D=Δ (.lst ys)/\ys.length < Ζ/\∃m',m' < m/\W (i+1) m' LY (upd H5 D (.lst (ys++[v])))
    else ∃m',m' < m/\W (i+1) m' LY H4))
  {E:Ψ->Α->Prop}{RR:Ψ->Env->Result->Α->Prop}
  (hR:∀D C s' H',(∃m,s'.heap.Ns C m)->Inv X pins σ H' s'->lb X pins H' C->Q (.ref D) H'->∀V:Env,V.locals=C->V.frame=X.env.frame->RR (.ref D) V (.ok .next) s')
  (hX:∀D C s3 H3,(∀s5 N0 H5,Inv (Ms X scope cl (Fr.map (·.1)++Tg) C s3 H3 fp (XE C s3 H3 fp)) [] N0 H5 s5->(∃m,s5.heap.Ns C m)/\Inv X pins σ H5 s5/\lb X pins H5 C)->∀e s',XE C s3 H3 fp e s'->
   notedBy (Μ X.prog X.w) X.A (compEnvC scope cl C X.env) (fun x M8=>∀V:Env,V.locals=C->V.frame=X.env.frame->RR (.ref D) V (.error x) M8) e s') :
  Κ (Μ X.prog X.w) X.A (newList []) (fun acc N1=>Κ (Μ X.prog X.w) X.A (newFunctionEnv scope X.env.globals cl [] X.env.qual Φ .none (Δ X.env)) (fun QW Um=>
   codeAny (Μ X.prog X.w) X.A (.compStart (.ListComp elt [⟨tg,iter,ifs,0⟩] scope pos) 0 (.ref it) acc {QW with scope:=relabel scope X.env}) (RR acc QW) Um) E N1) E s2:=by
 have YJ:∀b∈fp,b < s2.heap.objs.size:=fun b hb=>by obtain⟨o,e,_⟩:=T.obj _ _ Ou b hb;exact j_ e
 -- OV Ox
 refine aao ?_;have I3:Inv X pins σ (upd H2 s2.heap.objs.size (.lst [])) {s2 with heap:=s2.heap.push {cls:=.type "list",data:=.seq ([]:List Ψ).toArray},toks:=s2.toks}:=I2.O6 (ys:=[]) (its:=[]) .nil (Y_ _);generalize hD:s2.heap.objs.size=D at I3 ⊢;have YK:H2 D=Φ:=by rw[<- hD];exact I2.fresh
 generalize WR:({s2 with heap:=s2.heap.push {cls:=.type "list",data:=.seq ([]:List Ψ).toArray},toks:=s2.toks}:Α)=s3 at I3;have k3:∀b o,s2.heap.get? b=Δ o->s3.heap.get? b=Δ o:=fun b o e=>by rw[<- WR];exact l_ _ e
 have YL:s3.heap.objs.size=D+1:=by rw[<- WR,<- hD];exact aaa ..
 have QX:∀b∈fp,b < D:=fun b hb=>by rw[<- hD];exact YJ b hb
 have Uo:∀b∈fp,b < s3.heap.objs.size:=fun b hb=>by rw[YL];exact Nat.lt_succ_of_lt (QX b hb)
 have f3:∀b∈fp,lb X pins (upd H2 D (.lst [])) b:=fun b hb=>by obtain⟨a1,a2⟩:=f2 b hb;refine⟨?_,a2⟩;rw[iI (p_ (QX b hb))];exact a1
 obtain⟨W,⟨m0,w0⟩,turn⟩:=q D YK;refine wpAny_newFunctionEnv S.LJ (by intro y hy;simp at hy) (fun h4 O8 QY=>codeAny_mono (R:=fun r s'=>∀V:Env,V.locals=s3.heap.objs.size->V.frame=X.env.frame->RR (.ref D) V r s') ?_ fun r s' z=>z _ rfl rfl) S.kind;have k4:∀b o,s3.heap.get? b=Δ o->h4.get? b=Δ o:=fun b o e=>
  QY.extBut b o (p_ (j_ e)) (l_ _ e)
 have WT:tn 0 h4:=T.keep _ _ _ Ou fun b hb o e=>k4 b o (k3 b o e);have I4:=vB (fp:=fp) (h':=h4) (tk:=s3.toks+([]:List (Str×Ψ)).length) S I3 f3 Uo (by simpa using O8) k4 (XE s3.heap.objs.size s3 (upd H2 D (.lst [])) fp);generalize hC:s3.heap.objs.size=C at I4 O8 QY ⊢;have Uq:=hX D C s3 (upd H2 D (.lst []));generalize hZ:XE C s3 (upd H2 D (.lst [])) fp=Z at I4 Uq;generalize hY:Ms X scope cl (Fr.map (·.1)++Tg) C s3 (upd H2 D (.lst [])) fp Z=Y at I4 Uq;have yP:Y.prog=X.prog:=by rw[<- hY];rfl
 have yw:Y.w=X.w:=by rw[<- hY];rfl
 have yK:Y.K=X.K:=by rw[<- hY];rfl
 have yA:Y.A=X.A:=by rw[<- hY];rfl
 have yc:Y.calm=Θ:=by rw[<- hY];exact hc
 have yx:Y.xe=Z:=by rw[<- hY];rfl
 have ye:Y.env=compEnvC scope cl C X.env:=by rw[<- hY];rfl
 have QZ:Y.ex=fp:=by rw[<- hY];rfl
 have YM:Y.pn=[]:=by rw[<- hY];rfl
 have YN:Y.fs=Lj X.stack:=by rw[<- hY];rfl
 have yH:Y.MI=upd H2 D (.lst []):=by rw[<- hY];rfl
 have Oy:Y.JZ=s3:=by rw[<- hY];rfl
 have YO:PG Y tg g:=by rw[<- hY,<- hZ];exact hg _ _ _ _
 have Nb:NZ Y ifs tt:=by rw[<- hY,<- hZ];exact ht _ _ _ _
 have YQ:PE Y elt te:=by rw[<- hY,<- hZ];exact he _ _ _ _
 have Mc:∀ {H':Hp},(∀b∈fp,H' b=Φ)->∀b∈fp,lb Y [] H' b:=fun hn b hb=>by have Ur:=I4.ok;refine⟨hn b hb,(Ur.T2 b (by rw[QZ];exact hb)).1,Ur.NT b (by rw[QZ];exact hb),.inl (by rw[QZ];exact hb),(Ur.T2 b (by rw[QZ];exact hb)).2,fun p hp=>absurd hp (by rw[YM];simp)⟩
 have YR:∀b∈fp,(upd H2 D (.lst [])) b=Φ:=fun b hb=>(f3 b hb).1
 -- back to OV frame
 have back:∀(s5:Α) (N0:St) (H5:Hp),Inv Y [] N0 H5 s5->(∃m,s5.heap.Ns C m)/\Inv X pins σ H5 s5/\lb X pins H5 C:=by
  intro s5 N0 H5 I5;have Us:∃m,s5.heap.Ns C m:=by obtain⟨m,hn,_⟩:=I5.loc;rw[ye]at hn;exact⟨m,hn⟩
  have YU:Un (Lj X.stack) fp (upd H2 D (.lst [])) H5 s3.heap s5.heap:=by have u:=I5.base;rw[YN,QZ,yH,Oy]at u;exact u
  have YV:s5.os=s3.os:=by have:=I5.os;rw[Oy]at this;exact this
  have Ut:J6 X.prog X.w H5 s5.heap:=by have:=I5.JD;rw[yP,yw]at this;exact this
  have Ma:∀b∈fp,(b∈X.ex∨X.JZ.heap.objs.size<=b)/\b≠X.env.locals/\(∀x c,X.env.cells.lookup x=Δ c->c≠b)/\∀p∈X.pn++pins,p.1≠b:=fun b hb=>by obtain⟨_,a1,_,a3,a4,a5⟩:=f3 b hb;exact⟨a3,a1,a4,a5⟩
  have Q0:H5 C=Φ:=by have:=I5.free;rw[ye]at this;exact this
  exact⟨Us,I3.QI YV YU Ut I5.bare Ma,I3.Mb (Nat.le_of_eq hC) Q0⟩
 have nz:∀ {α:Type}{t:Sem α}{Q:α->Α->Prop}{s:Α},Κ (Μ X.prog X.w) X.A t Q Z s->Κ (Μ X.prog X.w) X.A t Q (notedBy (Μ X.prog X.w) X.A (compEnvC scope cl C X.env) fun x M8=>∀V:Env,V.locals=C->V.frame=X.env.frame->RR (.ref D) V (.error x) M8) s:=fun h=>wpAny_mono h (fun _ _ z=>z) fun e s' z=>Uq back e s' z;have loop:∀(s5:Α) (N0:St) (H5:Hp) (i m:Nat),Inv Y [] N0 H5 s5->tn i s5.heap->(∀b∈fp,H5 b=Φ)->W i m N0 H5->
   codeAny (Μ X.prog X.w) X.A (.compLoop (.ListComp elt [⟨tg,iter,ifs,0⟩] scope pos) 0 (.ref it) (.ref D) (compEnvC scope cl C X.env)) (fun r s'=>∀V:Env,V.locals=C->V.frame=X.env.frame->RR (.ref D) V r s') s5:=by
  intro s5 N0 H5 i m I5 QM T' w5;refine codeAny_loop rfl (fun n s'=>∃i JC H',Inv Y [] JC H' s'/\tn i s'.heap/\(∀b∈fp,H' b=Φ)/\W i n JC H') ?_ m ⟨i,N0,H5,I5,QM,T',w5⟩;rintro n s6 ⟨i,OX,H6,I6,WU,WV,w6⟩;show Κ _ X.A ((compTurn (.ListComp elt [⟨tg,iter,ifs,0⟩] scope pos) 0 (.ref it) (.ref D) (compEnvC scope cl C X.env)).onRaise (fun x=>do noteFrame x (compEnvC scope cl C X.env);theTreesLotGoes x)) _ _ s6;refine wpAny_noted ?_;rw[pY];refine a_ (wpAny_standAt (a_ ?_));have nx:∀ {α:Type}{t:Sem α}{Q:α->Α->Prop}{E':Ψ->Α->Prop}{s:Α},Κ (Μ X.prog X.w) X.A t Q (fun _ _=>False) s->Κ (Μ X.prog X.w) X.A t Q E' s:=fun h=>wpAny_mono h (fun _ _ z=>z) fun _ _ z=>z.elim;rcases turn i n OX H6 w6 with⟨stop,qn⟩|⟨go,step⟩
  ·have h:=T.done Y yP yw yK yc i [] s6 OX H6 (fun _ _=>False) I6 (Mc WV) WU stop;rw[yA]at h;refine nx (JG h fun r s7 ⟨hr,I7⟩=>?_);subst hr;refine f_ ?_;obtain⟨b1,b2,b3⟩:=back s7 OX H6 I7;exact hR D C s7 H6 b1 b2 b3 qn
  ·have h:=T.item Y yP yw yK yc i [] s6 OX H6 (fun _ _=>False) I6 (Mc WV) WU go;rw[yA]at h;refine nx (JG h fun r s7 ⟨u,hr,h7⟩=>?_);subst hr;refine a_ (nx (JG h7 fun _ s8 ⟨x,H8,I8,r8,y8,Uu,YW⟩=>?_));have YX:=I8.pinned (Mc YW) (T.obj _ _ Uu);have h9:=YO _ s8 OX H8 x u _ YX r8 (step x H8 y8);rw[yP,yw,yA,yx,ye]at h9;refine a_ (nz (JG h9 fun _ s9 ⟨Uv,H9,I9,q9⟩=>?_));have NB:=Nb _ s9 Uv H9 _ I9 q9;rw[yP,yw,yA,yx,ye]at NB;refine a_ (nz (JG NB fun ok Lu ⟨YY,WW,Qc⟩=>?_));have again:∀ {JC:St}{H':Hp}{s':Α},Inv Y ([]++mq fp s8.heap) JC H' s'->(∃m',m' < n/\W (i+1) m' JC H')->∃m,m < n/\∃i JC H',Inv Y [] JC H' s'/\tn i s'.heap/\(∀b∈fp,H' b=Φ)/\W i m JC H':=fun {JC H' s'} I' ⟨m',hm,w'⟩=>by refine⟨m',hm,i+1,JC,H',I'.KD,T.keep _ _ _ Uu fun b hb o e=>(I'.pin (b,o) (t_ _ (t_ _ (kE hb e)))).1,fun b hb=>?_,w'⟩;obtain⟨o,e,d⟩:=T.obj _ _ Uu b hb;exact(I'.pin (b,o) (t_ _ (t_ _ (kE hb e)))).2.1
   cases ok with
   |false=>rw[d_ n_]at Qc;refine a_ (f_ (f_ ⟨rfl,again WW Qc⟩))
   |true=>rw[e_ rfl]at Qc;have Oz:=YQ _ Lu Uv YY _ WW Qc;rw[yP,yw,yA,yx,ye]at Oz;refine a_ (a_ (nz (JG Oz fun y K0 ⟨v,WX,YZ,Y0,ys,ey,zy,Y1⟩=>?_)));have O':=mC (X:=Y) ([]++mq fp s8.heap) K0 Uv WX (.ref D) [v] (.ref D) [y] (fun v' H'=>v'=.Jt/\H'=upd WX D (.lst (ys++[v]))) YZ rfl (.cons Y0 .nil) ⟨D,ys,v,rfl,rfl,ey,zy,rfl,rfl⟩;rw[yP,yw,yA,yx]at O';refine a_ (nz (JG O' fun z s12 ⟨v12,H12,Y2,r12,e12,Uw⟩=>?_));subst Uw;exact f_ (f_ ⟨rfl,again Y2 Y1⟩)
 have start:=loop {s3 with heap:=h4,toks:=s3.toks+([]:List (Str×Ψ)).length} (stC Fr Tg σ) (upd H2 D (.lst [])) 0 m0 I4 WT YR w0;have e5:∀(s':Α),s' = {s3 with heap:=h4,toks:=s3.toks+([]:List (Str×Ψ)).length}->codeAny (Μ X.prog X.w) X.A (.compLoop (.ListComp elt [⟨tg,iter,ifs,0⟩] scope pos) 0 (.ref it) (.ref D) (compEnvC scope cl C X.env)) (fun r s'=>∀V:Env,V.locals=C->V.frame=X.env.frame->RR (.ref D) V r s') s':=by rintro _ rfl;exact start
 exact codeAny_compStart_list (e5 _ rfl) (T.self _ _ _ _ _ WT (e5 _ rfl))
theorem tH (hc:X.calm=Θ)(S:KP X scope cl Fr Tg)(hi:PI X tg iter wi)
  (hg:∀C s H fp,PG (Ms X scope cl (Fr.map (·.1)++Tg) C s H fp) tg g) (ht:∀C s H fp,NZ (Ms X scope cl (Fr.map (·.1)++Tg) C s H fp) ifs tt)
  (he:∀C s H fp,PE (Ms X scope cl (Fr.map (·.1)++Tg) C s H fp) elt te) (hs:∀x,foldedSetIterable iter X.env x=pure x:=by intro _;rfl) :
  PE X (.ListComp elt [⟨tg,iter,ifs,0⟩] scope pos) (wK wi (stC Fr Tg) g tt te):=by
 intro pins s σ H Q I h;rw[eval_ListComp];refine wpAny_comprehension_free (use:=Φ) rfl hs S.QV S.kind S.loc (JG (hi pins s σ H _ I h) fun xv s1 h1=>JG h1 fun SJ s2 h2=>?_);obtain⟨it,fp,tn,J,H2,rfl,I2,T,Ou,f2,q⟩:=h2;refine nJ (XE:=fun _ _ _ _ _ _=>False) (RR:=fun acc V=>compPost (Μ X.prog X.w) X.A X.xe Φ (EP X pins σ Q) acc V.locals) hc S hg ht he I2 T Ou f2 q ?_ fun _ _ _ _ _ _ _ z=>z.elim;intro D C s' H' ⟨m,hn⟩ I' F' q' V hV _;subst hV;obtain⟨f0,f1,f2,f3,f4,f5⟩:=F';exact⟨m,hn,fun h' sb=>⟨.ref D,H',I'.turned (t':=s'.toks) (fun b o hb e=>(sb.2 b hb).trans e) f0 f1 f3 f4 f5,rfl,q'⟩⟩
theorem Au (hc:X.calm=Θ)(hN:X.N.Nodup)(Y3:X.N[i]? = Δ y)(hy:X.env.kindOf y=Δ .local)(S:KP X scope cl Fr Tg)(hi:PI X tg iter wi)
  (hg:∀C s H fp,PG (Ms X scope cl (Fr.map (·.1)++Tg) C s H fp) tg g) (ht:∀C s H fp,NZ (Ms X scope cl (Fr.map (·.1)++Tg) C s H fp) ifs tt)
  (he:∀C s H fp,PE (Ms X scope cl (Fr.map (·.1)++Tg) C s H fp) elt te)
  (Q2:swapsWith (.ListComp elt [⟨tg,iter,ifs,0⟩] scope pos) (Δ (.Name y py)) spos.line X.env=pure Θ) (hs:∀x,foldedSetIterable iter X.env x=pure x:=by intro _;rfl) :
  PS X (.Assign [.Name y py] (.ListComp elt [⟨tg,iter,ifs,0⟩] scope pos) spos) (fun D σ H=>wK wi (stC Fr Tg) g tt te σ H fun v H'=>D.nx (σ.set i (Δ v)) H'):=by
 intro pins s σ H D I h;rw[exec_Assign_Name_used _ _ _ _ Q2];refine a_ (wpAny_standAt (a_ ?_));show Κ _ X.A (do let _ <- comprehension (.ListComp elt [⟨tg,iter,ifs,0⟩] scope pos) scope X.env _ (newList []) Ξ (eval iter X.env) (Δ (assign (.Name y py) X.env))) _ _ s
 refine a_ (JG (wpAny_comprehension_free (use:=Δ (assign (.Name y py) X.env)) (Q:=fun _ s'=>SP X pins D .next s') rfl hs S.QV S.kind S.loc
  (JG (hi pins s σ H _ I h) fun xv s1 h1=>JG h1 fun SJ s2 h2=>?_)) fun _ s' hq=>f_ (f_ hq))
 obtain⟨it,fp,tn,J,H2,rfl,I2,T,Ou,f2,q⟩:=h2;refine nJ (Q:=fun v H'=>D.nx (σ.set i (Δ v)) H') (XE:=fun _ _ _ _ _ _=>False) (RR:=fun acc V=>compPost (Μ X.prog X.w) X.A X.xe (Δ (assign (.Name y py) X.env)) (fun _ s'=>SP X pins D .next s') acc V.locals) hc S hg ht he I2 T Ou f2 q ?_ fun _ _ _ _ _ _ _ z=>z.elim;intro D' C s' H' ⟨m,hn⟩ I' F' q' V hV _;subst hV;obtain⟨f0,f1,f2,f3,f4,f5⟩:=F';show Κ _ X.A (assign (.Name y py) X.env (.ref D')) _ _ _;refine wpAny_assign_Name (o6 I' hN Y3 (.inl hy) (show RelV (.ref D') (.ref D') from rfl) (fun M8 Y4 ⟨a,sb,ha⟩=>?_) (.inr hy));have Y5:V.locals≠a:=by
  rcases ha with rfl|ha
  ·exact f1
  ·exact fun z=>f4 y a ha z.symm
 refine⟨m,hn.sameBut sb Y5,fun h' Y6=>⟨_,H',Y4.turned (t':=M8.toks) (fun b o hb e=>(Y6.2 b hb).trans e) f0 f1 f3 f4 f5,q'⟩⟩
end
open PySem.SeqAt
section
variable {X:Cx}
theorem qI (h0 : -16000<=n)(h1:n<=16000)(hx:x.length<=1000):MulOk x n:=by
 refine⟨?_,fun hn _=>?_,fun hn _=>?_⟩
 ·rw[Bool.or_eq_false_iff];exact⟨S_ (by omega),S_ (by omega)⟩
 ·have:(1000:Int)<=(2 ^ 63 - 1) / n:=Int.le_ediv_of_mul_le (by omega) (by omega);omega
 ·have:x.length*n.toNat<=1000*16000:=Nat.mul_le_mul hx (by omega);unfold Builtin.Str.tooLong;exact S_ (by rw[sizeLine_eq];omega)
theorem rZ:Lk X (binaryOp .Mult) (fun x y H Q=>∃i j,x=.str i/\y=.int j/\-16000<=j/\j<=16000/\i.length<=1000/\Q (.str (Txt.mul i j)) H):=by intro pins s σ H x y v u Q I rx ry h;obtain⟨i,j,rfl,rfl,h0,h1,hz,q⟩:=h;obtain⟨t,rfl⟩:=rx;obtain⟨t',rfl⟩:=ry;exact SB.mul (qI h0 h1 hz) fun t' tk=>⟨.str (Txt.mul i j),H,I.tok _,⟨_,rfl⟩,q⟩
noncomputable def mE (z:Str):List V:=z.cps.toList.map fun c=>.str ⟨#[c]⟩
theorem sd (JT:ItemsOf (SignAt z) Q3 z.cps.size):Vals (mE z) Q3.toList:=by
 have hl:Q3.toList.length=z.cps.toList.length:=by rw[O_,O_,JT.1]
 have key:∀(cs:List Nat) (vs:List Ψ),vs.length=cs.length->(∀(i:Nat) (v:Ψ),vs[i]? = Δ v->∃c u,cs[i]? = Δ c/\v=Value.str ⟨#[c]⟩ u)->Vals (cs.map fun c=>V.str ⟨#[c]⟩) vs:=by
  intro cs
  induction cs with
  |nil=>
   intro vs hl _;cases vs with
   |nil=>exact .nil
   |cons _ _=>cases hl
  |cons c cs ih=>
   intro vs hl hv;cases vs with
   |nil=>cases hl
   |cons v vs=>
    obtain⟨c',u,e1,e2⟩:=hv 0 v rfl;have SU:c=c':=by simpa using e1
    subst SU e2;exact .cons ⟨u,rfl⟩ (ih vs (by simpa using hl) fun i w hw=>by simpa using hv (i+1) w (by simpa using hw))
 refine key _ _ hl fun i v hv=>?_;obtain⟨c,u,e1,e2⟩:=JT.2 i v (by rw[<- aam];exact hv);exact⟨c,u,by rw[aam];exact e1,e2⟩
theorem nK (hc:X.calm=Θ):jD X (.type "tuple") (fun xs H Q=>∃z:Str,xs=[.str z]/\z.length<=Ζ/\∀l,H l=Φ->Q (.ref l) (upd H l (.tup (mE z)))):=by intro pins s σ H xs us Q I r h;obtain⟨z,rfl,hz,q⟩:=h;obtain⟨u,rfl,t,rfl⟩:=vals1 r;refine call_tuple_str (hsz:=hz) (show X.A.handled=Φ from I.ok.hd hc) z t (fun h' tk acc kp JT=>?_);have rv:=sd JT;have I1:Inv X pins σ H {s with heap:=h',toks:=tk}:=I.kept (t':=tk) kp;exact⟨.ref _,_,I1.laid (t':=tk) (fun b o e=>l_ _ e) (m_ _) (show iV X.prog X.w _ _ _ (.tup (mE z)) from⟨by unfold mE;simpa[Str.length] using hz,acc.toList,rv,by simpa using IsTup.new h' acc⟩),rfl,q _ (I1.JD.fresh (m_ _))⟩
end
open PySem.W
noncomputable def wL {α:Type}(lt:Nat->Nat->Bool):KasT α->α
 |.ret a=>a
 |.ask i j k=>wL lt (k (lt i j))
def jN {α:Type}(n:Nat)(P:α->Prop):KasT α->Prop
 |.ret a=>P a
 |.ask i j k=>i < n/\j < n/\∀b,jN n P (k b)
theorem jN.bind {α β:Type}{n:Nat}{P:α->Prop}{P':β->Prop}{f:α->KasT β}(hf:∀a,P a->jN n P' (f a)):∀ {t:KasT α},jN n P t->jN n P' (t.bind f)
 |.ret a,h=>hf a h
 |.ask i j k,h=>⟨h.1,h.2.1,fun b=>(h.2.2 b).bind hf⟩
theorem jN.run (lt:Nat->Nat->Bool):∀ {t:KasT α},jN n P t->P (wL lt t)
 |.ret _,h=>h
 |.ask i j k,h=>(h.2.2 (lt i j)).run lt
theorem jN.wp (hc:∀i j (C:Bool->Α->Prop),i < n->j < n->C (lt i j) s->cmp i j C s)  : ∀ {t:KasT α},jN n P t->Q (wL lt t) s->t.kasWp cmp Q s
 |.ret _,_,h=>h
 |.ask i j k,a,h=>hc i j _ a.1 a.2.1 ((a.2.2 (lt i j)).wp hc h)
def PR (n:Nat)(p:Array Nat):Prop:=p.Perm (List.range n).toArray
theorem PR.lt (h:PR n p)(hn:0 < n)(i:Nat):p.getD i 0 < n:=by
 by_cases hi:i < p.size
 ·have e:p.getD i 0=p[i]:=by simp[Array.getD,hi]
  rw[e];have hm:p[i]∈(List.range n).toArray:=h.mem_iff.mp (Array.getElem_mem hi);have Nc:p[i]∈List.range n:=by simpa using hm
  exact V_.mp Nc
 ·have e:p.getD i 0=0:=by simp[Array.getD,hi]
  rw[e];exact hn
theorem PR.rev (h:PR n p)(i j:Nat):PR n (kas_rev p i j):=(mirror_perm p i j _).trans h
theorem PR.Y7 {n:Nat}{p:Array Nat}(h:PR n p)(i j:Nat):PR n (bubble p i j):=(bubble_perm p i j).trans h
section
variable {n:Nat}
theorem sf {p:Array Nat}(h:PR n p)(hn:0 < n):∀f m,jN n (fun _:Nat=>True) (kas_asc p f m)
 |0,m=>trivial
 |f+1,m=>⟨h.lt hn _,h.lt hn _,fun b=>by
  cases b with
  |true=>exact trivial
  |false=>exact sf h hn f (m+1)⟩
theorem nj (hn:0 < n):∀(f:Nat) {p:Array Nat} (m q:Nat),PR n p->jN n (fun r:Array Nat×Nat×Nat=>PR n r.1) (kas_desc f p m q)
 |0,p,m,q,h=>h
 |f+1,p,m,q,h=>⟨h.lt hn _,h.lt hn _,fun b=>by
  cases b with
  |true=>
   show jN n _ (if q > 0 then _ else _);by_cases hq:q > 0
   ·rw[e_ hq];exact nj hn f _ _ (h.rev _ _)
   ·rw[d_ hq];exact nj hn f _ _ h
  |false=>
   refine⟨h.lt hn _,h.lt hn _,fun b=>?_⟩;cases b with
   |true=>exact h
   |false=>exact nj hn f _ _ h⟩
theorem qJ (hn:0 < n){p:Array Nat}(a b:Nat)(h:PR n p):jN n (fun r:Nat×Array Nat=>PR n r.2) (kas_tail3 a b p):=by unfold kas_tail3;refine(sf (h.rev 0 a) hn _ _).bind fun m _=>?_;exact h.rev 0 a
theorem mV (hn:0 < n){p:Array Nat}(a b:Nat)(h:PR n p):jN n (fun r:Nat×Array Nat=>PR n r.2) (kas_descPart a b p):=by
 refine(nj hn _ _ _ h).bind fun r hr=>?_;by_cases hq:r.2.2 > 0
 ·rw[e_ hq];exact qJ hn _ _ (hr.rev _ _)
 ·rw[d_ hq];exact qJ hn _ _ hr
theorem wM (hn:0 < n){p:Array Nat}(b:Nat)(h:PR n p):jN n (fun r:Nat×Array Nat=>PR n r.2) (kas_count b p):=by
 refine(sf h hn _ _).bind fun m _=>?_;by_cases h1:(m == b)=Θ
 ·rw[e_ h1];exact h
 ·rw[d_ h1];by_cases h2:m > 1
  ·rw[e_ h2];refine⟨h.lt hn _,h.lt hn _,fun c=>?_⟩;cases c with
   |true=>exact h
   |false=>exact mV hn _ _ (h.rev _ _)
  ·rw[d_ h2];exact mV hn _ _ h
theorem nL {p:Array Nat}(h:PR n p)(hn:0 < n)(k:Nat):∀f l r,jN n (fun _:Nat=>True) (kas_place p k f l r)
 |0,l,r=>trivial
 |f+1,l,r=>by
  unfold kas_place;by_cases hl:l >= r
  ·rw[e_ hl];exact trivial
  ·rw[d_ hl];refine⟨h.lt hn _,h.lt hn _,fun c=>?_⟩;cases c with
   |true=>exact nL h hn k f _ _
   |false=>exact nL h hn k f _ _
theorem wN (hn:0 < n):∀(f:Nat) {p:Array Nat} (k:Nat),PR n p->jN n (PR n) (kas_bin f p k)
 |0,p,k,h=>h
 |f+1,p,k,h=>(nL h hn k _ _ _).bind fun l _=>wN hn f _ (h.Y7 _ _)
theorem tJ (hn:0 < n):jN n (PR n) (kas_sort n):=by
 refine(wM hn n (Array.Perm.refl _)).bind fun r hr=>?_;by_cases h:r.1 < n
 ·rw[e_ h];exact wN hn _ _ hr
 ·rw[d_ h];exact hr
end
section
variable {prog:Ε}{w:Β}{A:Ι}{E:Ψ->Α->Prop}{s:Α}
theorem si:∀vs:List Ψ,(List.range vs.length).map (fun i=>vs.getD i Value.none)=vs:=by
 intro vs;apply List.ext_getElem?;intro i;rw[y_];by_cases h:i < vs.length
 ·rw[List.getElem?_range h,v_ h];simp[h]
 ·rw[List.getElem?_eq_none (by simpa using h),List.getElem?_eq_none (by simpa using h)];rfl
end
section
variable {κ:Type} [DecidableEq κ]
noncomputable def lp (kvs:List (κ×V))(k:κ):Option V:=(kvs.find? fun kv=>decide (kv.1=k)).map (·.2)
noncomputable def putK (kvs:List (κ×V))(k:κ)(v:V):List (κ×V):=
 if(kvs.any fun kv=>decide (kv.1=k))=Θ then kvs.map (fun kv=>if kv.1=k then(kv.1,v) else kv) else kvs++[(k,v)]
theorem nM {p:κ×V}{r:List (κ×V)}{k:κ}(e:p.1=k):lp (p::r) k=Δ p.2:=by simp[lp,List.find?_cons,e]
theorem nN {p:κ×V}{r:List (κ×V)}{k:κ}(e:¬p.1=k):lp (p::r) k=lp r k:=by simp[lp,List.find?_cons,e]
theorem qK (k:κ):∀kvs:List (κ×V),(kvs.any fun kv=>decide (kv.1=k))=(lp kvs k).isSome
 |[]=>rfl
 |p::r=>by
  rw[List.any_cons];by_cases e:p.1=k
  ·simp only[nM e,G_ e,Bool.true_or,Option.isSome_some]
  ·rw[nN e,S_ e,Bool.false_or];exact qK k r
theorem mW (kvs:List (κ×V))(k:κ)(v:V):(putK kvs k v).length<=kvs.length+1:=by
 unfold putK;split
 ·rw[i_];omega
 ·rw[o_,List.length_cons,List.length_nil];omega
theorem mZ.MO (r:mZ o u):o.isSome=u.isSome:=by
 cases o with
 |none=>cases u with
  |none=>rfl
  |some _=>exact(show False from r).elim
 |some _=>cases u with
  |none=>exact(show False from r).elim
  |some _=>rfl
theorem mZ.getD (r:mZ o u)(rd:RelV d d'):RelV (o.getD d) (u.getD d'):=by
 cases o with
 |none=>cases u with
  |none=>exact rd
  |some _=>exact(show False from r).elim
 |some _=>cases u with
  |none=>exact(show False from r).elim
  |some _=>exact r
theorem KV.val (r:KV kvs vs)(k:κ):mZ (lp kvs k) (valueAt vs k):=by
 unfold KV at r
 induction r with
 |nil=>exact True.intro
 | @cons p q ps qs h t ih=>
  obtain⟨h1,h2⟩:=h;by_cases e:p.1=k
  ·have e':q.1=k:=h1.symm.trans e;have b:valueAt (q::qs) k=Δ q.2:=by simp[valueAt,List.find?_cons,e']
   rw[nM e,b];exact h2
  ·have e':¬q.1=k:=fun z=>e (h1.trans z);have b:valueAt (q::qs) k=valueAt qs k:=by simp[valueAt,List.find?_cons,e']
   rw[nN e,b];exact ih
theorem KV.any (r:KV kvs vs)(k:κ):(kvs.any fun kv=>decide (kv.1=k))=vs.any fun kv=>decide (kv.1=k):=by
 unfold KV at r
 induction r with
 |nil=>rfl
 |cons h t ih=>rw[List.any_cons,List.any_cons,ih,h.1]
theorem KV.Pc (r:KV kvs vs)(k:κ)  (ry:RelV y u) :
  KV (kvs.map fun kv=>if kv.1=k then(kv.1,y) else kv) (vs.map fun kv=>if kv.1=k then(kv.1,u) else kv):=by
 unfold KV at r ⊢
 induction r with
 |nil=>exact .nil
 | @cons p q ps qs h t ih=>
  rw[b_,b_];refine .cons ?_ ih;obtain⟨h1,h2⟩:=h;by_cases e:p.1=k
  ·rw[e_ e,e_ (h1.symm.trans e)];exact⟨h1,ry⟩
  ·rw[d_ e,d_ (fun z=>e (h1.trans z))];exact⟨h1,h2⟩
theorem KV.put (r:KV kvs vs)(k:κ)  (ry:RelV y u):KV (putK kvs k y) (stored vs k u):=by
 unfold putK stored;rw[r.any k];by_cases e:(vs.any fun kv=>decide (kv.1=k))=Θ
 ·rw[e_ e,e_ e];exact r.Pc k ry
 ·rw[d_ e,d_ e];exact Paired.snoc r ⟨rfl,ry⟩
theorem KV.length {kvs:List (κ×V)}{vs:List (κ×Ψ)}(r:KV kvs vs):kvs.length=vs.length:=Paired.length r
end
theorem tL (r:RelV (kV k) u):(ja P w).is k u=Θ:=by
 cases k with
 |inl i=>obtain⟨t,e⟩:=(show ∃t,u=Value.int i t from r);subst e;exact qz P w i t
 |inr x=>obtain⟨t,e⟩:=(show ∃t,u=Value.str x t from r);subst e;exact qA P w x t
theorem pA:∀ {ks:List Key}{us:List Ψ},Vals (ks.map kV) us->ItemsAre (ja P w) ks us
 |[],_,r=>by rw[List.map_nil]at r;cases r;exact .nil
 |k::ks,_,r=>by
  rw[b_]at r;cases r with
  |cons h t=>exact .cons (tL h) (pA t)
abbrev KT (H:Hp):List (List Key×V)->List (List Key×Ω×Ψ)->Prop:=Paired fun p q=>p.1=q.1/\H q.2.1=Δ (.tup (p.1.map kV))/\RelV p.2 q.2.2
theorem KT.val (r:KT H kvs xs)(k:List Key):mZ (lp kvs k) ((atKey xs k).map (·.2)):=by
 induction r with
 |nil=>exact True.intro
 | @cons p q ps qs h t ih=>
  obtain⟨h1,_,h2⟩:=h;by_cases e:p.1=k
  ·have e':q.1=k:=h1.symm.trans e;have b:atKey (q::qs) k=Δ q.2:=by simp[atKey,List.find?_cons,e']
   rw[nM e,b];exact h2
  ·have e':¬q.1=k:=fun z=>e (h1.trans z);have b:atKey (q::qs) k=atKey qs k:=by simp[atKey,List.find?_cons,e']
   rw[nN e,b];exact ih
theorem KT.Pc (r:KT H kvs xs)(k:List Key)  (ry:RelV y u) :
  KT H (kvs.map fun kv=>if kv.1=k then(kv.1,y) else kv) (xs.map (putAt k u)):=by
 induction r with
 |nil=>exact .nil
 | @cons p q ps qs h t ih=>
  rw[b_,b_];refine .cons ?_ ih;obtain⟨h1,h2,h3⟩:=h;unfold putAt;by_cases e:p.1=k
  ·rw[e_ e,e_ (h1.symm.trans e)];exact⟨h1,h2,ry⟩
  ·rw[d_ e,d_ (fun z=>e (h1.trans z))];exact⟨h1,h2,h3⟩
theorem KT.put (r:KT H kvs xs)(k:List Key)  (hb:H b=Δ (.tup (k.map kV)))(ry:RelV y u) :
  KT H (putK kvs k y) (storedH xs k b u):=by
 have e:(kvs.any fun kv=>decide (kv.1=k))=(atKey xs k).isSome:=by rw[qK,(r.val k).MO,Option.isSome_map]
 unfold putK storedH;rw[e];by_cases q:(atKey xs k).isSome=Θ
 ·rw[e_ q,e_ q];exact r.Pc k ry
 ·rw[d_ q,d_ q];exact Paired.snoc r ⟨rfl,hb,ry⟩
theorem KT.keeps (r:KT H kvs xs)(ht:∀b ys,H b=Δ (.tup ys)->H' b=Δ (.tup ys)):KT H' kvs xs:=
 Paired.OR r fun _ _ z=>⟨z.1,ht _ _ z.2.1,z.2.2⟩
section
variable {P:Ε}{w:Β}{H:Hp}{h:Heap}{a:Ω}
theorem B8 (ok:J6 P w H h)(e:Rd H a u):iV P w H h a u:=e.ok ok
theorem pC (ok:J6 P w H h)(e:Rd H a (.dK kvs)):kvs.length<=Ζ/\(a == sysModules)=Ξ/\∃vs,KV kvs vs/\h.DictOf (ja P w) a vs:=
 show iV P w H h a (.dK kvs) from B8 ok e
theorem Fy (ok:J6 P w H h)(e:H a=Δ (.dK kvs)):kvs.length<=Ζ/\(a == sysModules)=Ξ/\∃vs,KV kvs vs/\h.DictOf (ja P w) a vs:=pC ok (.inl e)
theorem pZ (ok:J6 P w H h)(e:H a=Δ (.tup (ks.map kV))):(tupleKind (ja P w)).is h ks a:=by
 obtain⟨_,its,r,o,h1,h2,n,h3⟩:=(show iV P w H h a (.tup (ks.map kV)) from ok a _ e)
 exact⟨o,its.toArray,n,h1,h2,h3,by simpa using pA r⟩
theorem qL (ok:J6 P w H h)(e:Rd H a (.dT kvs)):kvs.length<=Ζ/\(a == sysModules)=Ξ/\
  ∃xs,KT H kvs xs/\h.DictOfH (tupleKind (ja P w)) a xs:=by
 obtain⟨z,y,xs,r,o,es,ep,h1,h2,h3,h4,h5⟩:=(show iV P w H h a (.dT kvs) from B8 ok e)
 refine⟨z,y,xs,r,o,es,ep,h1,h2,h3,h4,fun x hx=>?_,h5⟩;have all:∀ {l:List (List Key×V)}{m:List (List Key×Ω×Ψ)},KT H l m->∀x∈m,(tupleKind (ja P w)).is h x.1 x.2.1:=by
  intro l m q
  induction q with
  |nil=>intro x hx;exact nomatch hx
  | @cons p q ps qs hq t ih=>
   intro x hx;rcases k_.mp hx with e|hx
   ·subst e;exact pZ ok (by rw[<- hq.1];exact hq.2.1)
   ·exact ih x hx
 exact all r x hx
theorem Fz (ok:J6 P w H h)(e:H a=Δ (.dT kvs)):kvs.length<=Ζ/\(a == sysModules)=Ξ/\
  ∃xs,KT H kvs xs/\h.DictOfH (tupleKind (ja P w)) a xs:=qL ok (.inl e)
end
def wO (H:Hp)(a:Ω)(y:V)(r:Option V):Prop:=
 (∃kvs k,Rd H a (.dK kvs)/\y=kV k/\r=lp kvs k)∨∃kvs k b,Rd H a (.dT kvs)/\y=.ref b/\H b=Δ (.tup (k.map kV))/\r=lp kvs k
def FA (H:Hp)(a:Ω)(y v:V)(H':Hp):Prop:=
 (∃kvs k,H a=Δ (.dK kvs)/\y=kV k/\kvs.length < Ζ/\H'=upd H a (.dK (putK kvs k v)))∨
 ∃kvs k b,H a=Δ (.dT kvs)/\y=.ref b/\H b=Δ (.tup (k.map kV))/\kvs.length < Ζ/\H'=upd H a (.dT (putK kvs k v))
section
variable {X:Cx}{pins:List (Ω×Obj)}{σ:St}{H:Hp}{s:Α}{a:Ω}{y v:V}{u r:Ψ}{o:Option V}{A:Ι}{E:Ψ->Α->Prop}
theorem Inv.big (I:Inv X pins σ H s):sysModules < s.heap.objs.size:=by have h:Η < s.heap.objs.size:=(I.mod.glob.keeps I.bk).lt;exact Nat.lt_trans (by decide) h
theorem vC (hu:A.units+1 < cLine)(I:Inv X pins σ H s)(g:wO H a y (Δ v))(ry:RelV y u)(h:∀w' s',Inv X pins σ H s'->RelV v w'->Q w' s') :
  Κ (Μ X.prog X.w) A (getItem (.ref a) u) Q E s:=by
 rcases g with⟨kvs,k,e,ey,l⟩|⟨kvs,k,b,e,ey,eb,l⟩
 ·subst ey;obtain⟨z,hd,vs,rel,dd⟩:=pC I.JD e;obtain⟨w',hw,M9⟩:=mZ.some_of (v:=v) (o:=valueAt vs k) (by rw[l];exact rel.val k);exact wpAny_getItem_of (tL ry) dd.mapOf hw (h w' _ (I.tok _) M9)
 ·subst ey;cases(show u=θ b from ry);obtain⟨z,hd,xs,rel,dd⟩:=qL I.JD e;obtain⟨w',hw,M9⟩:=mZ.some_of (v:=v) (o:=(atKey xs k).map (·.2)) (by rw[l];exact rel.val k);obtain⟨p,hp,Y8⟩:=aal.mp hw;refine wpAny_getItem_heap (tupleKind_room_in1 hu) (pZ I.JD eb) dd hp ?_;rw[Y8];exact h w' _ (I.tok _) M9
theorem tM (I:Inv X pins σ H s)(mu:QB (H a))(hs:Heap.SameBut a s.heap h')(he:∃q,h'.get? a=Δ q)(new:iV X.prog X.w (upd H a ob) h' a ob) :
  Inv X pins σ (upd H a ob) {s with heap:=h',toks:=t'}:=
 I.write (x:=a) (e:=a) mu (.inl rfl) (fun b q hb z=>(hs.2 b hb).trans z) he new
theorem Ds (z:kvs.length<=Ζ)(hd:(a == sysModules)=Ξ)(rel:KV kvs vs)(dd:h'.DictOf (ja P w) a vs) :
  iV P w H' h' a (.dK kvs):=⟨z,hd,vs,rel,dd⟩
theorem vD (hu:A.units+1 < cLine)(I:Inv X pins σ H s)(g:FA H a y v H')(ry:RelV y u)(rv:RelV v r)(h:∀s',Inv X pins σ H' s'->Q () s') :
  Κ (Μ X.prog X.w) A (setItem (.ref a) u r) Q E s:=by
 rcases g with⟨kvs,k,e,ey,l,eH⟩|⟨kvs,k,b,e,ey,eb,l,eH⟩
 ·subst ey eH;obtain⟨z,hd,vs,rel,dd⟩:=Fy I.JD e;have hz:vs.length<=Ζ:=by rw[<- rel.length];exact z
  have hl:(putK kvs k v).length<=Ζ:=by have:=mW kvs k v;omega
  refine wpAny_setItem_pairs (hsz:=hz) (tL ry) dd fun h' SV hs=>h _ ?_;have he:∃q,h'.get? a=Δ q:=let ⟨q,_,_,hq,_⟩:=SV;⟨q,hq⟩;exact tM I (by rw[e];exact True.intro) hs he (Ds hl hd (rel.put k rv) SV)
 ·subst ey eH;cases(show u=θ b from ry);obtain⟨z,hd,xs,rel,dd⟩:=Fz I.JD e;have hz:xs.length<=Ζ:=by rw[<- Paired.length rel];exact z
  have hl:(putK kvs k v).length<=Ζ:=by have:=mW kvs k v;omega
  refine wpAny_setItem_heap (hsz:=hz) (tupleKind_room_in1 hu) (pZ I.JD eb) dd fun h' SV hs=>h _ ?_;obtain⟨q,es,ep,hq,h2,h3,h4,_,h5⟩:=SV;refine tM I (by rw[e];exact True.intro) hs ⟨q,hq⟩ ⟨hl,hd,_,(rel.put k eb rv).keeps fun c ys ec=>?_,q,es,ep,hq,h2,h3,h4,h5⟩;rw[iI (Fb ec e (fun z=>nomatch z))];exact ec
end
def FC (i:Expr):Prop:=∀ov iv,subscripted i Ξ ov iv=operate [ov,iv] (getItem ov iv)
theorem Av {prog:Ε}{w:Β}{A:Ι}{E:Ψ->Α->Prop}{s:Α}{env:Env}{value slice:Expr}{pos:Pos}{T id:String}{Q:Ψ->Α->Prop}
  (hl:typeLookup (.type T) "__getitem__" = pure (Δ (.builtin id))) (hs:FC slice)
  (h:Κ (Μ prog w) A (eval value env) (fun o JA=>Κ (Μ prog w) A (eval slice env) (fun i MM=>MM.TypeIs o T/\Κ (Μ prog w) A (getItem o i) Q E MM) E JA) E s) :
  Κ (Μ prog w) A (eval (.Subscript value slice pos) env) Q E s:=by
 refine Subscript_ (wpAny_mono h (fun o JA MP=>wpAny_mono MP (fun i MM Me=>?_) fun _ _ x=>x) fun _ _ x=>x);obtain⟨hT,Me⟩:=Me;unfold subscriptTail;refine a_ ?_;rw[getitemInPython_of_ne hT.not_modules];refine a_ (wpAny_specialOf hT hl ?_);have fin:Κ (Μ prog w) A (subscripted slice Ξ o i) (fun r N1=>Κ (Μ prog w) A (letTemporaryGo value o r >>= fun _=>pure r) Q E N1) E MM:=by rw[hs o i];exact wpAny_operating (wpAny_mono Me (fun r N1 Pd=>a_ (wpAny_letTemporaryGo (f_ Pd))) fun _ _ x=>x)
 first
  | exact f_ (a_ fin)
  | exact a_ (f_ (a_ fin))
  | exact a_ fin
theorem qM (I:Inv X pins σ H s)(g:wO H a y o):s.TypeIs (.ref a) "dict":=by
 rcases g with⟨kvs,k,e,_,_⟩|⟨kvs,k,b,e,_,_,_⟩
 ·obtain⟨_,_,vs,_,dd⟩:=pC I.JD e;exact dd.typeIs
 ·obtain⟨_,_,xs,_,dd⟩:=qL I.JD e;exact dd.typeIs
def FE (td ty:TE):TE:=fun σ H Q=>td σ H fun x H1=>ty σ H1 fun y H2=>∃a v,x=.ref a/\wO H2 a y (Δ v)/\Q v H2
def FG (td ty tv:TE):TS:=fun D σ H=>tv σ H fun v H1=>td σ H1 fun x H2=>ty σ H2 fun y H3=>∃a H4,x=.ref a/\FA H3 a y v H4/\D.nx σ H4
section
variable {X:Cx}{o i e value:Expr}{pos pos' Y9:Pos}{td ty tv:TE}
theorem Aw (hu:X.A.units+1 < cLine)(ho:PE X o td)(hi:PE X i ty)(hs:FC i):PE X (.Subscript o i pos) (FE td ty):=by intro pins s σ H Q I h;refine Av PySem.F.slot_dict_getitem.lookup hs (JG (ho pins s σ H _ I h) fun u s1 ⟨x,H1,I1,rx,q1⟩=>JG (hi pins s1 σ H1 _ I1 q1) fun iv s2 ⟨y,H2,I2,ry,a,v,ex,g,q2⟩=>?_);subst ex;obtain rfl:u=θ a:=rx;exact⟨qM I2 g,vC hu I2 g ry fun w' s3 I3 M9=>⟨v,H2,I3,M9,q2⟩⟩
theorem Ax (hu:X.A.units+1 < cLine)(ho:PE X o td)(hi:PE X i ty)(hv:PE X value tv)(hs:swapsWith value (Δ (.Subscript o i pos')) pos.line X.env=pure Ξ) :
  PS X (.Assign [.Subscript o i pos'] value pos) (FG td ty tv):=by
 intro pins s σ H D I h;refine wpAny_Assign_Subscript (JG (hv pins s σ H _ I h) fun r s1 ⟨v,H1,I1,rv,q1⟩=>JG (ho pins s1 σ H1 _ I1 q1) fun u s2 ⟨x,H2,I2,rx,q2⟩=>JG (hi pins s2 σ H2 _ I2 q2) fun iv s3 ⟨y,H3,I3,ry,a,H4,ex,g,q3⟩=>?_) hs;subst ex;obtain rfl:u=θ a:=rx;exact vD hu I3 g ry rv fun s4 I4=>⟨σ,H4,I4,q3⟩
end
theorem wQ (h:Heap)(hb:sysModules < h.objs.size):iV P w H (h.push {cls:=.type "dict",data:=.dict #[]}) h.objs.size (.dK []):=
 ⟨Y_ _,beq_eq_false_iff_ne.mpr (Ne.symm (p_ hb)),[],.nil,Heap.DictOf.new h⟩
def Dt:TE:=fun _ H Q=>∀p,H p=Φ->Q (.ref p) (upd H p (.dK []))
section
variable {X:Cx}{pos:Pos}
theorem qN:PE X (.Dict [] [] pos) Dt:=fun pins s σ H Q I h=>
 wpAny_Dict_empty ⟨.ref s.heap.objs.size,_,I.laid (a:=s.heap.objs.size) (o:=.dK []) (t':=s.toks) (fun _ _ q=>l_ _ q) (m_ _) (wQ s.heap I.big),rfl,h _ (I.JD.fresh (m_ _))⟩
end
structure M2 (X:Cx)(o:Expr)(m:Str)(apos:Pos)(e f:Expr)(IF:Pos):Prop where
 base:attributeBase o m X.env (eval o X.env)=eval o X.env
 Y':((backTo IF (Ν [e,f] X.env)).all (fun x=>!x.1)&&(backToKw IF (keywordEach [] X.env)).all (fun x=>x.1.isSome)
 &&decide (([e,f]:List Expr).length+([]:List Keyword).length+(if([]:List Keyword).isEmpty then 0 else 1) < 30))=Θ
 line:(apos.endLine == IF.line)=Θ
 trees:backTo IF (Ν [e,f] X.env)=[(Ξ,eval e X.env),(Ξ,eval f X.env)]
def WY (H:Hp)(a:Ω):Prop:=(∃kvs,Rd H a (.dK kvs))∨∃kvs,Rd H a (.dT kvs)
theorem wR {X:Cx}{pins:List (Ω×Obj)}{σ:St}{H:Hp}{s:Α}{a:Ω}(I:Inv X pins σ H s)(d:WY H a) :
  s.TypeIs (.ref a) "dict"/\(∀b,θ a=.ref b->∃ob,s.heap.get? b=Δ ob/\ob.dict=Φ)/\(a == sysModules)=Ξ:=by
 rcases d with⟨kvs,e⟩|⟨kvs,e⟩
 ·obtain⟨_,hd,vs,_,dd⟩:=pC I.JD e;refine⟨dd.typeIs,fun b q=>?_,hd⟩;cases q;obtain⟨ob,_,_,h1,h2,_⟩:=dd;exact⟨ob,h1,h2.2.1⟩
 ·obtain⟨_,hd,xs,_,dd⟩:=qL I.JD e;refine⟨dd.typeIs,fun b q=>?_,hd⟩;cases q;obtain⟨ob,_,_,h1,h2,_⟩:=dd;exact⟨ob,h1,h2.2.1⟩
section
variable {X:Cx}{pins:List (Ω×Obj)}{σ:St}{H:Hp}{s:Α}{a:Ω}{y d:V}{u r:Ψ}{o:Option V}{A:Ι}{E:Ψ->Α->Prop}
theorem Du {Q:Ψ->Α->Prop}(hu:A.units+1 < cLine)(I:Inv X pins σ H s)(g:wO H a y o)(ry:RelV y u)(rd:RelV d r)(h:∀w' s',Inv X pins σ H s'->RelV (o.getD d) w'->Q w' s') :
  Κ (Μ X.prog X.w) A (call (.builtin "dict.get") [.ref a,u,r]) Q E s:=by
 rcases g with⟨kvs,k,e,ey,l⟩|⟨kvs,k,b,e,ey,eb,l⟩
 ·subst ey;obtain⟨z,hd,vs,rel,dd⟩:=pC I.JD e;refine call_meetsIn PySem.F.slot_dict_get dd.typeIs PySem.F.entry_dict_get (PySem.F.args_dict_get_3 _ _ _) (meets_dict_get_default (ja X.prog X.w) a (tL ry) hd r) ⟨_,dd.mapOf,h _ _ (I.tok _) ?_⟩;rw[l];exact(rel.val k).getD rd
 ·subst ey;cases(show u=θ b from ry);obtain⟨z,hd,xs,rel,dd⟩:=qL I.JD e;refine call_meetsIn PySem.F.slot_dict_get dd.typeIs PySem.F.entry_dict_get (PySem.F.args_dict_get_3 _ _ _) (meetsH_dict_get_default (tupleKind (ja X.prog X.w)) a b hd r) ⟨tupleKind_room_in1 hu,k,xs,pZ I.JD eb,dd,h _ _ (I.tok _) ?_⟩;rw[l];exact(rel.val k).getD rd
end
def Dv (td ty tx:TE):TE:=fun σ H Q=>td σ H fun x H1=>∃a,x=.ref a/\WY H1 a/\ty σ H1 fun y H2=>tx σ H2 fun z H3=>∃o,wO H3 a y o/\Q (o.getD z) H3
section
variable {X:Cx}{o e f:Expr}{apos IF:Pos}{td ty tx:TE}
theorem wU (hu:X.A.units+1 < cLine)(ho:PE X o td)(he:PE X e ty)(hf:PE X f tx)(m:M2 X o "get" apos e f IF):PE X (.Call (.Attribute o "get" apos) [e,f] [] IF) (Dv td ty tx):=by
 intro pins s σ H Q I h;refine wpAny_Call_method m.base m.Y' m.line PySem.F.plainAttrs_dict PySem.F.slot_dict_get PySem.F.type_dict_get (JG (ho pins s σ H _ I h) fun u s1 ⟨x,H1,I1,rx,a,ex,d,q1⟩=>?_);subst ex;obtain rfl:u=θ a:=rx;obtain⟨t1,t2,_⟩:=wR I1 d;refine⟨t1,t2,?_⟩;rw[m.trees]
 refine Calls.callWith_builtin rfl (Calls.evalArgs_plain (Calls.spliced_cons (JG (he pins s1 σ H1 _ I1 q1) fun iv s2 ⟨y,H2,I2,ry,q2⟩=>
  Calls.spliced_cons (JG (hf pins s2 σ H2 _ I2 q2) fun fv s3 ⟨z,H3,I3,rz,ov,g,q3⟩=>Calls.spliced_nil ?_))))
 exact Du hu I3 g ry rz fun w' s4 I4 M9=>⟨_,H3,I4,M9,q3⟩
end
open PySem.Builtin PySem.Builtin.Str
end L2
namespace L2.Zp
open PySem
inductive Kq where
 | l|t
def Sq (k:Kq)(h:Heap)(a:Ω)(xs:Array Ψ):Prop:=match k with
 |.l=>h.IsList a xs
 |.t=>h.IsTuple a xs
def It (k:Kq)(h:Heap)(i a:Ω)(n:Nat):Prop:=match k with
 |.l=>h.IsListIter i a n
 |.t=>h.IsTupleIter i a n
theorem Sq.to (q:Sq k h a xs)(e:∀o,h.get? a=Δ o->h'.get? a=Δ o):Sq k h' a xs:=by
 cases k with
 |l=>obtain⟨o,ho,r⟩:=q;exact⟨o,e o ho,r⟩
 |t=>obtain⟨o,ho,r⟩:=q;exact⟨o,e o ho,r⟩
theorem It.to (q:It k h i a n)(e:∀o,h.get? i=Δ o->h'.get? i=Δ o):It k h' i a n:=by
 cases k with
 |l=>obtain⟨o,ho,r⟩:=q;exact⟨o,e o ho,r⟩
 |t=>obtain⟨o,ho,r⟩:=q;exact⟨o,e o ho,r⟩
theorem It.lt (q:It k h i a n):i < h.objs.size:=by
 cases k with
 |l=>obtain⟨o,ho,_⟩:=q;exact j_ ho
 |t=>obtain⟨o,ho,_⟩:=q;exact j_ ho
section
variable {prog:Ε}{w:Β}{A:Ι}{E:Ψ->Α->Prop}{s:Α}
theorem wV (c:s.heap.IsTupleIter i a n)(q:s.heap.IsTuple a xs)(hx:xs[n]? = Δ x)
  (k:∀h',h'.IsTupleIter i a (n+1)->Heap.SameBut i s.heap h'->Q x {s with heap:=h'}):Κ (Μ prog w) A (ζ (.ref i)) Q E s:=by
 have ty:=c.typeIs;obtain⟨oi,gi,ci,di⟩:=c;obtain⟨oa,ga,_,na,da⟩:=q;unfold ζ;refine a_ (wpAny_callSpecial?_slot (name:=Ρ "__next__") ty F.slot_tuple_iterator_next (aab F.slot_tuple_iterator_next ty F.entry_tuple_iterator_next ?_ (F.args_tuple_iterator_next_1 _)));show Κ _ _ (field (.ref i) 0 >>= _) _ _ s;refine a_ (Q_ gi di (x:=.ref a) rfl ?_);show Κ _ _ (if(θ a == Value.none)=Θ then _ else _) _ _ s;rw[d_ (by intro z;cases z)];show Κ _ _ (field (.ref i) 1 >>= _) _ _ s;refine a_ (Q_ gi di (x:=.int n 0) rfl ?_);show Κ _ _ (seqItems? (.ref a) >>= _) _ _ s;refine a_ (aad ga da ?_);simp only[Int.toNat_natCast,hx];refine a_ (wpAny_setField gi di (by simp) (f_ ⟨x,rfl,f_ (k _ ⟨_,aaA _ gi (Obj.isFreed_of_fields (Obj.data_mapFields di _)),(Obj.cls_mapFields ..).trans ci,?_⟩ (aaB ..))⟩));rw[Obj.data_mapFields di];simp[rawInt]
theorem Ay (hh:A.handled=Φ)(c:s.heap.IsTupleIter i a n)(q:s.heap.IsTuple a xs)(hx:xs[n]? = Φ)
  (k:∀h' e,Heap.ExtBut i s.heap h'->(∃o,h'.get? e=Δ o/\o.cls=.type "StopIteration")->E (.ref e) {s with heap:=h'}):Κ (Μ prog w) A (ζ (.ref i)) Q E s:=by
 have ty:=c.typeIs;obtain⟨oi,gi,ci,di⟩:=c;obtain⟨oa,ga,_,na,da⟩:=q;unfold ζ;refine a_ (wpAny_callSpecial?_slot (name:=Ρ "__next__") ty F.slot_tuple_iterator_next (aab F.slot_tuple_iterator_next ty F.entry_tuple_iterator_next ?_ (F.args_tuple_iterator_next_1 _)));show Κ _ _ (field (.ref i) 0 >>= _) _ _ s;refine a_ (Q_ gi di (x:=.ref a) rfl ?_);show Κ _ _ (if(θ a == Value.none)=Θ then _ else _) _ _ s;rw[d_ (by intro z;cases z)];show Κ _ _ (field (.ref i) 1 >>= _) _ _ s;refine a_ (Q_ gi di (x:=.int n 0) rfl ?_);show Κ _ _ (seqItems? (.ref a) >>= _) _ _ s;refine a_ (aad ga da ?_);simp only[Int.toNat_natCast,hx];refine a_ (wpAny_rule (a_ (wpAny_setField gi di (by simp) (a_ ?_))));simp only[newExc,newTuple];refine a_ (aao (a_ (m:=firstArgMember _ _) (wpAny_of_eq (a:=Value.none) (by first|rfl|(simp only[firstArgMember];rfl)) (aao ?_ (by size_fits)))) (by size_fits));simp only[raiseNew];refine a_ (wpAny_handled ?_)
 first|rw[show A.in1.handled=Φ from hh]|rw[hh]
 exact a_ (f_ (wpAny_throw (k _ _ (((aaB ..).extBut.push _).push _) ⟨_,u_ _ rfl,rfl⟩)))
theorem kY (c:It k s.heap i a n)(q:Sq k s.heap a xs)(hx:xs[n]? = Δ x)
  (f:∀h',It k h' i a (n+1)->Heap.SameBut i s.heap h'->Q x {s with heap:=h'}):Κ (Μ prog w) A (ζ (.ref i)) Q E s:=by
 cases k with
 |l=>exact wpAny_nextOf_list_item c q hx f
 |t=>exact wV c q hx f
theorem p0 (hh:A.handled=Φ)(c:It k s.heap i a n)(q:Sq k s.heap a xs)(hx:xs[n]? = Φ)
  (f:∀h' e,Heap.ExtBut i s.heap h'->(∃o,h'.get? e=Δ o/\o.cls=.type "StopIteration")->E (.ref e) {s with heap:=h'}):Κ (Μ prog w) A (ζ (.ref i)) Q E s:=by
 cases k with
 |l=>exact wpAny_nextOf_list_end hh c q hx f
 |t=>exact Ay hh c q hx f
end
section
variable {prog:Ε}{w:Β}{A:Ι}{E:Ψ->Α->Prop}{s:Α}
def Kept (z TO i j:Ω)(h h':Heap):Prop:=∀c o,c≠z->c≠TO->c≠i->c≠j->h.get? c=Δ o->h'.get? c=Δ o
theorem vE {p q:Kq}{z TI TO i j l m:Ω}{n n':Nat}{xs ys:Array Ψ}{x y a b:Ψ}{Q:Ψ->Α->Prop}(D:ZipApart z TI TO i j l m)(hz:IsZip s.heap z TI TO .none)(hI:IsPair s.heap TI (.ref i) (.ref j))(hO:IsPair s.heap TO a b)
  (ci:It p s.heap i l n) (cj:It q s.heap j m n') (sl:Sq p s.heap l xs) (sm:Sq q s.heap m ys) (hx:xs[n]? = Δ x) (hy:ys[n']? = Δ y)
  (k:∀h',IsZip h' z TI TO (rawInt s.heap.objs.size)->IsPair h' TO x y->It p h' i l (n+1)->It q h' j m (n' + 1)->IsPair h' s.heap.objs.size x y->h'.objs.size=s.heap.objs.size+1->Kept z TO i j s.heap h'->Q (.ref s.heap.objs.size) {s with heap:=h'}) :
  Κ (Μ prog w) A (Builtin.«zip.__next__» ⟨[.ref z],[]⟩) (fun fin s'=>∃v,fin=.done (.ret v)/\Q v s') E s:=by
 show Κ _ _ (field (.ref z) 2 >>= _) _ _ _;refine a_ (Q_ hz rfl (x:=.bool Ξ) rfl ?_);show Κ _ _ (field (.ref z) 3 >>= _) _ _ _;refine a_ (Q_ hz rfl (x:=.ref TI) rfl (a_ (aad hI rfl ?_)));show Κ _ _ (η (.ref z) >>= _) _ _ _;refine a_ ?_;unfold η;refine a_ (Q_ hz rfl (x:=.none) rfl (f_ ?_));simp only[if_true];refine a_ (wpAny_rule (a_ (Q_ hz rfl (x:=.ref TO) rfl (a_ (aae hz (by simp) fun h1 z1 e1=>?_)))));have SX:IsZip h1 z TI TO .ellipsis:=z1;refine a_ ?_;simp only[List.zipIdx_cons,List.zipIdx_nil,List.forIn_cons,List.forIn_nil];refine a_ (a_ (wpAny_onRaise ?_));show Κ _ _ (ζ (.ref i) >>= _) _ _ _;refine a_ (kY (ci.to fun o e=>e1.extBut _ _ D.i1z e) (sl.to fun o e=>e1.extBut _ _ D.l1z e) hx fun h2 Q4 e2=>f_ ?_);have O2:IsPair h2 TO a b:=e2.extBut _ _ D.TOi1 (e1.extBut _ _ D.TOz hO);refine a_ (aad O2 rfl (a_ (wpAny_updateSeq_pair O2 fun h3 O3 e3=>?_)));have Za:IsPair h3 TO x b:=O3;refine a_ (wpAny_letGo (f_ (a_ (a_ (wpAny_onRaise ?_)))));show Κ _ _ (ζ (.ref j) >>= _) _ _ _;refine a_ (kY (cj.to fun o e=>e3.extBut _ _ D.TOi2.symm (e2.extBut _ _ D.i12.symm (e1.extBut _ _ D.i2z e))) (sm.to fun o e=>e3.extBut _ _ D.l2TO (e2.extBut _ _ D.l2i1 (e1.extBut _ _ D.l2z e))) hy fun h4 Zb e4=>f_ ?_);have O4:IsPair h4 TO x b:=e4.extBut _ _ D.TOi2 Za;refine a_ (aad O4 rfl (a_ (wpAny_updateSeq_pair O4 fun h5 O5 e5=>?_)));have WZ:IsPair h5 TO x y:=O5;refine a_ (wpAny_letGo (f_ (f_ (a_ (aad WZ rfl (a_ (wpAny_newTuple ?_)))))));have sz:h5.objs.size=s.heap.objs.size:=by rw[e5.1,e4.1,e3.1,e2.1,e1.1]
 have z5:IsZip h5 z TI TO .ellipsis:=e5.extBut _ _ D.TOz.symm (e4.extBut _ _ D.i2z.symm (e3.extBut _ _ D.TOz.symm (e2.extBut _ _ D.i1z.symm SX)));have k5:Kept z TO i j s.heap h5:=fun c o c1 c2 c3 c4 e=>e5.extBut _ _ c2 (e4.extBut _ _ c4 (e3.extBut _ _ c2 (e2.extBut _ _ c3 (e1.extBut _ _ c1 e))));have Zc:It p h5 i l (n+1):=Q4.to fun o e=>e5.extBut _ _ D.TOi1.symm (e4.extBut _ _ D.i12 (e3.extBut _ _ D.TOi1.symm e));have Zd:It q h5 j m (n' + 1):=Zb.to fun o e=>e5.extBut _ _ D.TOi2.symm e;have lz:z < h5.objs.size:=j_ z5;show Κ _ _ (Builtin.SmallTypes.ownedTupleHandOut (.ref z) (.ref h5.objs.size) >>= _) _ _ _;refine a_ ?_;unfold Builtin.SmallTypes.ownedTupleHandOut;have z6:IsZip (h5.push {cls:=.type "tuple",data:=.seq #[x,y]}) z TI TO .ellipsis:=l_ _ z5;refine a_ (aae z6 (by simp) fun h7 z7 e7=>aae (show IsZip h7 z TI TO (rawInt h5.objs.size) from z7) (by simp) fun h8 z8 e8=>?_);have W0:IsZip h8 z TI TO (rawInt h5.objs.size):=z8;have up:∀c o,c≠z->h5.get? c=Δ o->h8.get? c=Δ o:=fun c o c1 e=>e8.extBut _ _ c1 (e7.extBut _ _ c1 (l_ _ e));have t8:IsPair h8 h5.objs.size x y:=e8.extBut _ _ (U_ lz) (e7.extBut _ _ (U_ lz) (u_ _ rfl));have s8:h8.objs.size=h5.objs.size+1:=by rw[e8.1,e7.1,aaa]
 rw[sz]at W0 t8 s8;refine f_ ⟨_,rfl,?_⟩;show Q (.ref h5.objs.size) _;rw[sz];exact k h8 W0 (up _ _ D.TOz WZ) (Zc.to fun o e=>up _ o D.i1z e) (Zd.to fun o e=>up _ o D.i2z e) t8 s8 fun c o c1 c2 c3 c4 e=>up c o c1 (k5 c o c1 c2 c3 c4 e)
theorem vF {z TI TO i j l m:Ω}  (hh:A.handled=Φ)(D:ZipApart z TI TO i j l m)(hz:IsZip s.heap z TI TO .none)(hI:IsPair s.heap TI (.ref i) (.ref j))(hO:IsPair s.heap TO a b)
  (ci:It p s.heap i l n) (cj:It q s.heap j m n') (sl:Sq p s.heap l xs) (sm:Sq q s.heap m ys) (Mf:xs[n]? = Φ∨ys[n']? = Φ)
  (k:∀h' e,Kept z TO i j s.heap h'->(∃o,h'.get? e=Δ o/\o.cls=.type "StopIteration")->E (.ref e) {s with heap:=h'}) :
  Κ (Μ prog w) A (Builtin.«zip.__next__» ⟨[.ref z],[]⟩) Q E s:=by
 show Κ _ _ (field (.ref z) 2 >>= _) _ _ _;refine a_ (Q_ hz rfl (x:=.bool Ξ) rfl ?_);show Κ _ _ (field (.ref z) 3 >>= _) _ _ _;refine a_ (Q_ hz rfl (x:=.ref TI) rfl (a_ (aad hI rfl ?_)));show Κ _ _ (η (.ref z) >>= _) _ _ _;refine a_ ?_;unfold η;refine a_ (Q_ hz rfl (x:=.none) rfl (f_ ?_));simp only[if_true];refine a_ (wpAny_rule (a_ (Q_ hz rfl (x:=.ref TO) rfl (a_ (aae hz (by simp) fun h1 z1 e1=>?_)))));have SX:IsZip h1 z TI TO .ellipsis:=z1;refine a_ ?_;simp only[List.zipIdx_cons,List.zipIdx_nil,List.forIn_cons,List.forIn_nil];refine a_ (a_ (wpAny_onRaise ?_));show Κ _ _ (ζ (.ref i) >>= _) _ _ _;cases hx:xs[n]? with
 |none=>
  refine a_ (p0 hh (ci.to fun o e=>e1.extBut _ _ D.i1z e) (sl.to fun o e=>e1.extBut _ _ D.l1z e) hx fun h2 e e2 he=>?_);obtain⟨oe,g,c⟩:=he;have z2:IsZip h2 z TI TO .ellipsis:=e2 _ _ D.i1z.symm SX;have ne:e≠z:=fun v=>by rw[v,z2]at g;cases g;simp at c
  exact aae z2 (by simp) fun h3 _ e3=>k h3 e (fun d o c1 _ c3 _ v=>e3.extBut _ _ c1 (e2 _ _ c3 (e1.extBut _ _ c1 v))) ⟨oe,e3.extBut _ _ ne g,c⟩
 |some x=>
  have hy:ys[n']? = Φ:=by
   rcases Mf with v|v
   ·rw[hx]at v;cases v
   ·exact v
  refine a_ (kY (ci.to fun o e=>e1.extBut _ _ D.i1z e) (sl.to fun o e=>e1.extBut _ _ D.l1z e) hx fun h2 Q4 e2=>f_ ?_);have O2:IsPair h2 TO a b:=e2.extBut _ _ D.TOi1 (e1.extBut _ _ D.TOz hO);refine a_ (aad O2 rfl (a_ (wpAny_updateSeq_pair O2 fun h3 O3 e3=>a_ (wpAny_letGo (f_ (a_ (a_ (wpAny_onRaise ?_))))))));show Κ _ _ (ζ (.ref j) >>= _) _ _ _;refine a_ (p0 hh (cj.to fun o e=>e3.extBut _ _ D.TOi2.symm (e2.extBut _ _ D.i12.symm (e1.extBut _ _ D.i2z e))) (sm.to fun o e=>e3.extBut _ _ D.l2TO (e2.extBut _ _ D.l2i1 (e1.extBut _ _ D.l2z e))) hy fun h4 e e4 he=>?_);obtain⟨oe,g,c⟩:=he;have z4:IsZip h4 z TI TO .ellipsis:=e4 _ _ D.i2z.symm (e3.extBut _ _ D.TOz.symm (e2.extBut _ _ D.i1z.symm SX));have ne:e≠z:=fun v=>by rw[v,z4]at g;cases g;simp at c
  exact aae z4 (by simp) fun h5 _ e5=>k h5 e (fun d o c1 c2 c3 c4 v=>e5.extBut _ _ c1 (e4 _ _ c4 (e3.extBut _ _ c2 (e2.extBut _ _ c3 (e1.extBut _ _ c1 v))))) ⟨oe,e5.extBut _ _ ne g,c⟩
end
noncomputable def Qd:Kq->Ω->Obj
 |.l,a=>{cls:=.type "list_iterator",data:=.fields #[.ref a,.int 0 0]}
 |.t,a=>{cls:=.type "tuple_iterator",data:=.fields #[.ref a,.int 0 0]}
noncomputable def Hi (p:Kq)(h:Heap)(l:Ω):Heap:=h.push (Qd p l)
noncomputable def Hj (p q:Kq)(h:Heap)(l m:Ω):Heap:=(Hi p h l).push (Qd q m)
noncomputable def HI (p q:Kq)(h:Heap)(l m:Ω):Heap:=(Hj p q h l m).push {cls:=.type "tuple",data:=.seq #[.ref h.objs.size,.ref (Hi p h l).objs.size]}
noncomputable def HO (p q:Kq)(h:Heap)(l m:Ω):Heap:=(HI p q h l m).push {cls:=.type "tuple",data:=.seq #[.none,.none]}
noncomputable def HZ (p q:Kq)(h:Heap)(l m:Ω):Heap:=(HO p q h l m).push {cls:=.type "zip",data:=.fields #[.none,.bool Ξ,.bool Ξ,.ref (Hj p q h l m).objs.size,.ref (HI p q h l m).objs.size]}
theorem Dw (l m:Ω)(xs ys:Array Ψ):Meets (Builtin.«zip.__new__» ⟨[.type "zip",.ref l,.ref m],[]⟩) (fun _ R s=>Sq .l s.heap l xs/\Sq .l s.heap m ys/\R (.ok (.ret (.ref (HO .l .l s.heap l m).objs.size))) {s with heap:=HZ .l .l s.heap l m}):=
 .of_wp fun prog w A R s h=>by
  obtain⟨hp,g,d,tk,os⟩:=s;obtain⟨q1,q2,h⟩:=h;have sub:=sub_zip;have a1:Heap.IsList (Shared.heap ⟨hp,g,d,tk,os⟩) l xs:=q1;have a2:Heap.IsList (Shared.heap ⟨hp.push {cls:=.type "list_iterator",data:=.fields #[.ref l,.int 0 0]},g,d,tk,os⟩) m ys:=Heap.IsList.push (show hp.IsList m ys from q2) _
  wp_walk using aav a1,aav a2
  exact⟨_,rfl,h⟩
theorem Dx (l m:Ω)(xs ys:Array Ψ):Meets (Builtin.«zip.__new__» ⟨[.type "zip",.ref l,.ref m],[]⟩) (fun _ R s=>Sq .l s.heap l xs/\Sq .t s.heap m ys/\R (.ok (.ret (.ref (HO .l .t s.heap l m).objs.size))) {s with heap:=HZ .l .t s.heap l m}):=
 .of_wp fun prog w A R s h=>by
  obtain⟨hp,g,d,tk,os⟩:=s;obtain⟨q1,q2,h⟩:=h;have sub:=sub_zip;have a1:Heap.IsList (Shared.heap ⟨hp,g,d,tk,os⟩) l xs:=q1;have a2:Heap.IsTuple (Shared.heap ⟨hp.push {cls:=.type "list_iterator",data:=.fields #[.ref l,.int 0 0]},g,d,tk,os⟩) m ys:=Heap.IsTuple.push (show hp.IsTuple m ys from q2) _
  wp_walk using aav a1,wpAny_pyIter_tuple a2
  exact⟨_,rfl,h⟩
theorem Dy (l m:Ω)(xs ys:Array Ψ):Meets (Builtin.«zip.__new__» ⟨[.type "zip",.ref l,.ref m],[]⟩) (fun _ R s=>Sq .t s.heap l xs/\Sq .l s.heap m ys/\R (.ok (.ret (.ref (HO .t .l s.heap l m).objs.size))) {s with heap:=HZ .t .l s.heap l m}):=
 .of_wp fun prog w A R s h=>by
  obtain⟨hp,g,d,tk,os⟩:=s;obtain⟨q1,q2,h⟩:=h;have sub:=sub_zip;have a1:Heap.IsTuple (Shared.heap ⟨hp,g,d,tk,os⟩) l xs:=q1;have a2:Heap.IsList (Shared.heap ⟨hp.push {cls:=.type "tuple_iterator",data:=.fields #[.ref l,.int 0 0]},g,d,tk,os⟩) m ys:=Heap.IsList.push (show hp.IsList m ys from q2) _
  wp_walk using wpAny_pyIter_tuple a1,aav a2
  exact⟨_,rfl,h⟩
theorem Dz (l m:Ω)(xs ys:Array Ψ):Meets (Builtin.«zip.__new__» ⟨[.type "zip",.ref l,.ref m],[]⟩) (fun _ R s=>Sq .t s.heap l xs/\Sq .t s.heap m ys/\R (.ok (.ret (.ref (HO .t .t s.heap l m).objs.size))) {s with heap:=HZ .t .t s.heap l m}):=
 .of_wp fun prog w A R s h=>by
  obtain⟨hp,g,d,tk,os⟩:=s;obtain⟨q1,q2,h⟩:=h;have sub:=sub_zip;have a1:Heap.IsTuple (Shared.heap ⟨hp,g,d,tk,os⟩) l xs:=q1;have a2:Heap.IsTuple (Shared.heap ⟨hp.push {cls:=.type "tuple_iterator",data:=.fields #[.ref l,.int 0 0]},g,d,tk,os⟩) m ys:=Heap.IsTuple.push (show hp.IsTuple m ys from q2) _
  wp_walk using wpAny_pyIter_tuple a1,wpAny_pyIter_tuple a2
  exact⟨_,rfl,h⟩
theorem DB (p q:Kq)(l m:Ω)(xs ys:Array Ψ):Meets (Builtin.«zip.__new__» ⟨[.type "zip",.ref l,.ref m],[]⟩) (fun _ R s=>Sq p s.heap l xs/\Sq q s.heap m ys/\R (.ok (.ret (.ref (HO p q s.heap l m).objs.size))) {s with heap:=HZ p q s.heap l m}):=by
 cases p<;>cases q
 ·exact Dw l m xs ys
 ·exact Dx l m xs ys
 ·exact Dy l m xs ys
 ·exact Dz l m xs ys
theorem wW {h h':Heap}  (e:h'.get? i=Δ (Qd k a)):It k h' i a 0:=by
 cases k with
 |l=>exact⟨_,e,rfl,rfl⟩
 |t=>exact⟨_,e,rfl,rfl⟩
theorem qO (k:Kq)(a:Ω):(Qd k a).isFreed=Ξ:=by cases k<;>rfl
section
variable {prog:Ε}{w:Β}{A:Ι}{E:Ψ->Α->Prop}{s:Α}
theorem L0 (h1:Sq p s.heap l xs)(h2:Sq q s.heap m ys)
  (k:∀h',IsZip h' (s.heap.objs.size+4) (s.heap.objs.size+2) (s.heap.objs.size+3) .none->IsPair h' (s.heap.objs.size+2) (.ref s.heap.objs.size) (.ref (s.heap.objs.size+1))->IsPair h' (s.heap.objs.size+3) .none .none->
   It p h' s.heap.objs.size l 0->It q h' (s.heap.objs.size+1) m 0->h'.objs.size=s.heap.objs.size+5->(∀c o,s.heap.get? c=Δ o->h'.get? c=Δ o)->Q (.ref (s.heap.objs.size+4)) {s with heap:=h'}) :
  Κ (Μ prog w) A (call (.type "zip") [.ref l,.ref m]) Q E s:=by
 refine callType_new F.called_zip (by decide) (F.typeCall_zip_2 _ _) (F.newCall_zip_2 _ _) (fun obj=>F.args_object_init_3 obj _ _) F.entry_zip_new (DB p q l m xs ys) ⟨h1,h2,?_⟩;have n1:(Hi p s.heap l).objs.size=s.heap.objs.size+1:=aaa ..;have n2:(Hj p q s.heap l m).objs.size=s.heap.objs.size+2:=(aaa ..).trans (by rw[n1]);have n3:(HI p q s.heap l m).objs.size=s.heap.objs.size+3:=(aaa ..).trans (by rw[n2]);have n4:(HO p q s.heap l m).objs.size=s.heap.objs.size+4:=(aaa ..).trans (by rw[n3]);have n5:(HZ p q s.heap l m).objs.size=s.heap.objs.size+5:=(aaa ..).trans (by rw[n4]);have W2:∀c o,(HO p q s.heap l m).get? c=Δ o->(HZ p q s.heap l m).get? c=Δ o:=fun c o e=>l_ _ e;have W3:∀c o,(HI p q s.heap l m).get? c=Δ o->(HZ p q s.heap l m).get? c=Δ o:=fun c o e=>W2 c o (l_ _ e);have W4:∀c o,(Hj p q s.heap l m).get? c=Δ o->(HZ p q s.heap l m).get? c=Δ o:=fun c o e=>W3 c o (l_ _ e);have W5:∀c o,(Hi p s.heap l).get? c=Δ o->(HZ p q s.heap l m).get? c=Δ o:=fun c o e=>W4 c o (l_ _ e);have g5:(HZ p q s.heap l m).get? (HO p q s.heap l m).objs.size=Δ _:=u_ _ rfl;have g4:(HZ p q s.heap l m).get? (HI p q s.heap l m).objs.size=Δ {cls:=.type "tuple",data:=.seq #[.none,.none]}:=W2 _ _ (u_ _ rfl);have g3:(HZ p q s.heap l m).get? (Hj p q s.heap l m).objs.size=Δ {cls:=.type "tuple",data:=.seq #[.ref s.heap.objs.size,.ref (Hi p s.heap l).objs.size]}:=W3 _ _ (u_ _ rfl);have g2:(HZ p q s.heap l m).get? (Hi p s.heap l).objs.size=Δ (Qd q m):=W4 _ _ (u_ _ (qO q m));have g1:(HZ p q s.heap l m).get? s.heap.objs.size=Δ (Qd p l):=W5 _ _ (u_ _ (qO p l));rw[n2,n3,n4]at g5;rw[n3]at g4;rw[n1,n2]at g3;rw[n1]at g2;show _/\_;rw[n4];exact⟨⟨_,g5,rfl⟩,k _ g5 g3 g4 (wW (h:=s.heap) g1) (wW (h:=s.heap) g2) n5 fun c o e=>W5 c o (l_ _ e)⟩
end
section
variable {prog:Ε}{w:Β}{A:Ι}{E:Ψ->Α->Prop}{s:Α}
theorem Mu {z TI TO i j l m:Ω}  (D:ZipApart z TI TO i j l m)(hz:IsZip s.heap z TI TO .none)(hI:IsPair s.heap TI (.ref i) (.ref j))(hO:IsPair s.heap TO a b)
  (ci:It p s.heap i l n) (cj:It q s.heap j m n') (sl:Sq p s.heap l xs) (sm:Sq q s.heap m ys) (hx:xs[n]? = Δ x) (hy:ys[n']? = Δ y)
  (k:∀h',IsZip h' z TI TO (rawInt s.heap.objs.size)->IsPair h' TO x y->It p h' i l (n+1)->It q h' j m (n' + 1)->IsPair h' s.heap.objs.size x y->h'.objs.size=s.heap.objs.size+1->Kept z TO i j s.heap h'->Q (Δ (.ref s.heap.objs.size)) {s with heap:=h'}) :
  Κ (Μ prog w) A (pyNext (.ref z)) Q E s:=by
 have ty:s.TypeIs (.ref z) "zip":=⟨_,hz,rfl⟩
 unfold pyNext;refine a_ (wpAny_attempt (wpAny_callSpecial?_slot (name:=Ρ "__next__") ty F.slot_zip_next (aab F.slot_zip_next ty F.entry_zip_next ?_ (F.args_zip_next_1 _))));exact vE D hz hI hO ci cj sl sm hx hy fun h' a1 a2 a3 a4 a5 a6 a7=>f_ (k h' a1 a2 a3 a4 a5 a6 a7)
theorem Mv {z TI TO i j l m:Ω}  (hh:A.handled=Φ)(D:ZipApart z TI TO i j l m)(hz:IsZip s.heap z TI TO .none)(hI:IsPair s.heap TI (.ref i) (.ref j))(hO:IsPair s.heap TO a b)
  (ci:It p s.heap i l n) (cj:It q s.heap j m n') (sl:Sq p s.heap l xs) (sm:Sq q s.heap m ys) (Mf:xs[n]? = Φ∨ys[n']? = Φ)
  (k:∀h',Kept z TO i j s.heap h'->Q Φ {s with heap:=h'}):Κ (Μ prog w) A (pyNext (.ref z)) Q E s:=by
 have ty:s.TypeIs (.ref z) "zip":=⟨_,hz,rfl⟩
 unfold pyNext;refine a_ (wpAny_attempt (wpAny_callSpecial?_slot (name:=Ρ "__next__") ty F.slot_zip_next (aab F.slot_zip_next ty F.entry_zip_next (vF hh D hz hI hO ci cj sl sm Mf fun h' e hk he=>?_) (F.args_zip_next_1 _))));obtain⟨o,g,c⟩:=he;exact a_ (wpAny_isInstance (T:="StopIteration") (b:=Θ) ⟨o,g,c⟩ isSubtype_stop (f_ (k _ hk)))
end
end L2.Zp
namespace L2
open PySem PySem.Spec PyProof.Rows
def Mg (K:Frag)(H:Hp)(k:Zp.Kq)(a:Ω)(xs:List V):Prop:=match k with
 |.l=>Kf K H a xs
 |.t=>JO K H a xs
section
variable {X:Cx}{pins:List (Ω×Obj)}{σ:St}{H:Hp}{s:Α}{h':Heap}{k:Zp.Kq}{a:Ω}{xs ys:List V}
theorem Inv.OA (I:Inv X pins σ H s)(h:Mg X.K H k a xs):∃its:List Ψ,Vals xs its/\Zp.Sq k s.heap a its.toArray:=by
 cases k with
 |l=>obtain⟨its,rv,p,hz⟩:=I.list h;exact⟨its,rv,p.isList⟩
 |t=>obtain⟨its,rv,p,hz⟩:=I.tuple h;exact⟨its,rv,p⟩
theorem Inv.Mw (I:Inv X pins σ H s)(h:Mg X.K H k a xs)(h':Mg X.K H k a ys):xs=ys:=by
 cases k with
 |l=>exact I.J2 h h'
 |t=>exact I.KO h h'
theorem Inv.turns {t':Nat}{ch:List Ω}(I:Inv X pins σ H s)(k:∀b o,b∉ch->s.heap.get? b=Δ o->h'.get? b=Δ o)(hf:∀b∈ch,lb X pins H b):Inv X pins σ H {s with heap:=h',toks:=t'}:=by
 have Oq:∀b u,H b=Δ u->b∉ch:=fun b u e z=>by rw[(hf b z).1]at e;cases e
 refine I.step (g':=s.gens) (d':=s.drawn) (ch:=ch) (fun b hb=>?_) (fun b o _ _ hc e _=>k b o hc e) (fun b o _ _ hc e _=>⟨o.slots,k b o hc e⟩) (fun _ _ _ _ n=>n)
  (fun b o hc e=>⟨o,k b o hc e⟩) (fun _ _ e=>e) (fun _ _ _ e=>e) (fun b ps e=>⟨#[],by rw[e];simp⟩) (fun m hm=>?_) (fun b u e=>?_) I.bare
 ·obtain⟨f0,f1,f2,f3,f4,f5⟩:=hf b hb;exact⟨f3,f1,f4,f5⟩
 ·obtain⟨o,es,ep,ho,r⟩:=hm;exact⟨o,es,ep,k _ o (fun z=>(hf _ z).2.1 rfl) ho,r⟩
 ·refine(I.JD b u e).Li (fun c v hc q=>k c v ?_ q) (fun _ q=>q) fun _ _ q=>q;rcases hc with z|z
  ·rw[z];exact Oq b u e
  ·exact Oq c _ z
theorem Inv.Nd {t':Nat}{ch:List Ω}{T:Ω}{ho:HO}(I:Inv X pins σ H s)(k:∀b o,b∉ch->s.heap.get? b=Δ o->h'.get? b=Δ o)(hf:∀b∈ch,lb X pins H b)(hp:s.heap.objs.size<=T)(new:iV X.prog X.w (upd H T ho) h' T ho):Inv X pins σ (upd H T ho) {s with heap:=h',toks:=t'}:=by
 have Oq:∀b u,H b=Δ u->b∉ch:=fun b u e z=>by rw[(hf b z).1]at e;cases e
 have hn:H T=Φ:=I.JD.fresh hp;refine I.step (g':=s.gens) (d':=s.drawn) (ch:=ch) (fun b hb=>?_) (fun b o _ _ hc e _=>k b o hc e) (fun b o _ _ hc e _=>⟨o.slots,k b o hc e⟩) (fun b o _ e n=>by rw[iI (p_ (B_ (j_ e) hp))];exact n)
  (fun b o hc e=>⟨o,k b o hc e⟩) (fun b xs q=>by rw[iI (jg q hn)];exact q) (fun b u xs q=>by rw[iI (jg q hn)];exact q) (fun b ps q=>⟨#[],by rw[iI (jg q hn),q];simp⟩) (fun m hm=>?_) (fun b u e=>?_) I.bare
 ·obtain⟨f0,f1,f2,f3,f4,f5⟩:=hf b hb;exact⟨f3,f1,f4,f5⟩
 ·obtain⟨o,es,ep,ho,r⟩:=hm;exact⟨o,es,ep,k _ o (fun z=>(hf _ z).2.1 rfl) ho,r⟩
 ·by_cases hb:b=T
  ·subst hb;rw[iM]at e;cases e;exact new
  ·rw[iI hb]at e;refine(I.JD b u e).Li (fun c v hc q=>k c v ?_ q) (fun c q=>by rw[iI (jg q hn)];exact q) fun c xs q=>by rw[iI (jg q hn)];exact q
   rcases hc with z|z
   ·rw[z];exact Oq b u e
   ·exact Oq c _ z
end
noncomputable def Ux (K:Frag)(p q:Zp.Kq)(l m:Ω):It:=
 ⟨fun i H=>∃xs ys x y,Mg K H p l xs/\Mg K H q m ys/\xs[i]? = Δ x/\ys[i]? = Δ y,
  fun i H v H'=>∃T a b,v=.ref T/\H T=Φ/\H'=upd H T (.tup [a,b])/\∀xs ys,Mg K H p l xs->Mg K H q m ys->xs[i]? = Δ a/\ys[i]? = Δ b,
  fun i H=>∃xs ys,Mg K H p l xs/\Mg K H q m ys/\(xs.length<=i∨ys.length<=i)⟩
theorem Zp.It.obj (c:Zp.It k h i a n):∃o,h.get? i=Δ o/\∀v,o.data≠.cell v:=by
 cases k with
 |l=>obtain⟨o,e,c,d⟩:=c;exact⟨o,e,fun v z=>by rw[d]at z;cases z⟩
 |t=>obtain⟨o,e,c,d⟩:=c;exact⟨o,e,fun v z=>by rw[d]at z;cases z⟩
theorem wX {P:Ε}{w:Β}{K:Frag}{es:List Expr}{c:Nat}{pos:Pos}(p q:Zp.Kq)(z TI TO i j l m:Ω)(D:ZipApart z TI TO i j l m) :
  Turn P w K (.Tuple es c pos) (Ux K p q l m) [z,TI,TO,i,j] z (fun n h=>IsZip h z TI TO .none/\IsPair h TI (.ref i) (.ref j)/\(∃a b,IsPair h TO a b)/\Zp.It p h i l n/\Zp.It q h j m n) where
 mem:=by simp
 obj:=fun n h st b hb=>by
  obtain⟨hz,hI,⟨a,b',hO⟩,ci,cj⟩:=st;simp only[k_,I_,or_false]at hb;rcases hb with rfl|rfl|rfl|rfl|rfl
  ·exact⟨_,hz,fun v z=>by cases z⟩
  ·exact⟨_,hI,fun v z=>by cases z⟩
  ·exact⟨_,hO,fun v z=>by cases z⟩
  ·exact ci.obj
  ·exact cj.obj
 keep:=fun n h h' st k=>by obtain⟨hz,hI,⟨a,b',hO⟩,ci,cj⟩:=st;exact⟨k z (by simp) _ hz,k TI (by simp) _ hI,⟨a,b',k TO (by simp) _ hO⟩,ci.to fun o e=>k i (by simp) o e,cj.to fun o e=>k j (by simp) o e⟩
 item:=by
  intro X hP hw hK hc n pins s σ H E I hf st hg;subst hP hw hK;obtain⟨hz,hI,⟨a,b',hO⟩,ci,cj⟩:=st;obtain⟨xs,ys,x,y,SY,S1,hx,hy⟩:=hg;obtain⟨L1,MQ,p1⟩:=I.OA SY;obtain⟨JS,Lv,p2⟩:=I.OA S1;obtain⟨u1,Uy,Uz⟩:=MQ.get hx;obtain⟨u2,Ze,Zf⟩:=Lv.get hy;refine Zp.Mu D hz hI hO ci cj p1 p2 (x:=u1) (y:=u2) (by simpa using Uy) (by simpa using Ze) fun h1 a1 a2 a3 a4 a5 a6 hk=>?_;refine⟨_,rfl,?_⟩;have lz:z < s.heap.objs.size:=j_ hz;have Zg:s.heap.objs.size≠z:=U_ lz;refine wpAny_letOwnedTupleGo_zip (s:={s with heap:=h1}) a1 fun h2 Zh Lw=>?_;have kk:∀b o,b∉[z,TI,TO,i,j]->s.heap.get? b=Δ o->h2.get? b=Δ o:=fun b o hb e=>by simp only[k_,I_,or_false,not_or]at hb;exact Lw.extBut _ _ hb.1 (hk b o hb.1 hb.2.2.1 hb.2.2.2.1 hb.2.2.2.2 e)
  have hT:IsPair h2 s.heap.objs.size u1 u2:=Lw.extBut _ _ Zg a5;have I2:Inv X pins σ (upd H s.heap.objs.size (.tup [x,y])) {s with heap:=h2}:=I.Nd (t':=s.toks) kk hf (m_ _) ⟨by show 2<=Ζ;decide,[u1,u2],.cons Uz (.cons Zf .nil),⟨_,hT,rfl,_,rfl⟩⟩;refine⟨.ref s.heap.objs.size,_,I2,rfl,⟨_,x,y,rfl,I.JD.fresh (m_ _),rfl,fun UA Zi g1 g2=>by rw[I.Mw g1 SY,I.Mw g2 S1];exact⟨hx,hy⟩⟩,⟨Zh,Lw.extBut _ _ D.TIz (hk _ _ D.TIz D.TITO D.TIi1 D.TIi2 hI),⟨_,_,Lw.extBut _ _ D.TOz a2⟩,a3.to fun o e=>Lw.extBut _ _ D.i1z e,a4.to fun o e=>Lw.extBut _ _ D.i2z e⟩,fun b hb=>?_⟩;have Mx:b < s.heap.objs.size:=by
   simp only[k_,I_,or_false]at hb;rcases hb with rfl|rfl|rfl|rfl|rfl
   ·exact lz
   ·exact j_ hI
   ·exact j_ hO
   ·exact ci.lt
   ·exact cj.lt
  rw[iI (p_ Mx)];exact(hf b hb).1
 done:=by
  intro X hP hw hK hc n pins s σ H E I hf st hg;subst hP hw hK;obtain⟨hz,hI,⟨a,b',hO⟩,ci,cj⟩:=st;obtain⟨xs,ys,SY,S1,hx⟩:=hg;obtain⟨L1,MQ,p1⟩:=I.OA SY;obtain⟨JS,Lv,p2⟩:=I.OA S1;have l1:=MQ.length;have l2:=Lv.length
  refine Zp.Mv (I.ok.hd hc) D hz hI hO ci cj p1 p2 (by
   rcases hx with hx|hx
   ·exact .inl (Array.getElem?_eq_none (by simp;omega))
   ·exact .inr (Array.getElem?_eq_none (by simp;omega))) fun h1 hk=>⟨rfl,I.turns (t':=s.toks) (ch:=[z,TI,TO,i,j]) (fun b o hb e=>?_) hf⟩
  simp only[k_,I_,or_false,not_or]at hb;exact hk b o hb.1 hb.2.2.1 hb.2.2.2.1 hb.2.2.2.2 e
 self:=fun _ _ _ _ _ st h=>wpAny_pyIter_zip st.1 h
def HH (K:Frag)(ta:TA):TI:=fun σ H R=>ta σ H fun vs H1=>∃p q l m xs ys,vs=[.ref l,.ref m]/\Mg K H1 p l xs/\Mg K H1 q m ys/\R (Ux K p q l m) H1
theorem Zp.Sq.lt (q:Zp.Sq k h a xs):a < h.objs.size:=by
 cases k with
 |l=>obtain⟨o,e,_⟩:=q;exact j_ e
 |t=>obtain⟨o,e,_⟩:=q;exact j_ e
theorem qP (N l m:Nat)(hl:l < N)(hm:m < N):ZipApart (N+4) (N+2) (N+3) N (N+1) l m:=by constructor<;>(intro e;have e':(_:Nat)=(_:Nat):=e;omega)
theorem DC (hg:Gl X "zip") (hm:X.mg "zip" = Φ) (ha:PA X [a,b] ta) (hs:Ν [a,b] X.env=[(Ξ,eval a X.env),(Ξ,eval b X.env)]) (Lw:Ν [b] X.env=[(Ξ,eval b X.env)]) :
  PI X (.Tuple es c tp) (.Call (.Name "zip" p) [a,b] [] pos) (HH X.K ta):=by
 intro pins s σ H R I h;refine Call_ (kD I hg hm boot_zip (aaF (JG (ha pos pins s σ H _ I h) fun us s1 ⟨vs,H1,I1,r1,q1⟩=>?_) (by rw[hs,Lw]) (by rw[Lw];rfl)));obtain⟨k1,k2,l,m,xs,ys,e,g1,g2,q⟩:=q1;subst e;cases r1 with
 |cons r rr=>
  cases rr with
  |cons r' rr=>
   cases rr;cases r;cases r';obtain⟨L1,MQ,p1⟩:=I1.OA g1;obtain⟨JS,Lv,p2⟩:=I1.OA g2;have l1:=p1.lt;have l2:=p2.lt;refine Zp.L0 p1 p2 fun h2 b1 b2 b3 b4 b5 b6 b7=>?_;refine wpAny_pyIter_zip (s:={s1 with heap:=h2}) b1 ?_;refine⟨s1.heap.objs.size+4,[s1.heap.objs.size+4,s1.heap.objs.size+2,s1.heap.objs.size+3,s1.heap.objs.size,s1.heap.objs.size+1],_,_,H1,rfl,I1.kept (t':=s1.toks) b7,wX k1 k2 _ _ _ _ _ l m (qP _ l m l1 l2),⟨b1,b2,⟨_,_,b3⟩,b4,b5⟩,fun b hb=>?_,q⟩;have Mx:s1.heap.objs.size<=b:=by
    simp only[k_,I_,or_false]at hb;rcases hb with rfl|rfl|rfl|rfl|rfl
    ·exact aar _ _
    ·exact aar _ _
    ·exact aar _ _
    ·exact m_ _
    ·exact aar _ _
   exact I1.Mb Mx (I1.JD.fresh Mx)
end L2
namespace L2.Zp
open PySem
abbrev jV (h:Heap)(z TI TO T:Ω)(f:Bool):Prop:=
 h.get? z=Δ {cls:=.type "zip",dict:=Φ,data:=.fields #[rawInt T,.bool f,.bool Ξ,.ref TI,.ref TO],slots:=#[]}
section
variable {prog:Ε}{w:Β}{A:Ι}{E:Ψ->Α->Prop}{s:Α}
theorem alive (ho:s.heap.get? a=Δ o)(h:Q (Δ o) s):Κ (Μ prog w) A (loadIfAlive a) Q E s:=by
 have h':Q (s.heap.get? a) s:=by rw[ho];exact h
 exact fun _ _ _=>h'
theorem pD {z TI TO T:Ω}{f:Bool}{oT:Obj}{Q:Bool->Α->Prop}(hz:jV s.heap z TI TO T f)(hT:s.heap.get? T=Δ oT)
  (k:∀h',jV h' z TI TO T Θ->Heap.SameBut z s.heap h'->Q Ξ {s with heap:=h'}):Κ (Μ prog w) A (η (.ref z)) Q E s:=by
 unfold η;refine a_ (Q_ hz rfl (x:=rawInt T) rfl ?_);show Κ _ _ (loadIfAlive ((T:Int).toNat) >>= _) _ _ _;rw[Int.toNat_natCast];refine a_ (alive hT ?_);simp only[Option.isNone_some,aaq,if_false];refine a_ (Q_ hz rfl (x:=.bool f) rfl ?_);cases f with
 |true=>rw[d_ (show ¬((Value.bool Θ != Value.bool Θ)=Θ) from n_)];exact f_ (k s.heap hz (Heap.SameBut.refl _ _))
 |false=>rw[e_ (show(Value.bool Ξ != Value.bool Θ)=Θ from rfl)];refine a_ (aae hz (by simp) fun Pd Q5 Q6=>?_);exact f_ (k Pd Q5 Q6)
theorem sj {p q:Kq}{z TI TO i j l m T:Ω}{f:Bool}{oT:Obj}{n n':Nat}{xs ys:Array Ψ}{x y:Ψ}{Q:Ψ->Α->Prop}(D:ZipApart z TI TO i j l m)(hz:jV s.heap z TI TO T f)(hT:s.heap.get? T=Δ oT)(hI:IsPair s.heap TI (.ref i) (.ref j))
  (ci:It p s.heap i l n) (cj:It q s.heap j m n') (sl:Sq p s.heap l xs) (sm:Sq q s.heap m ys) (hx:xs[n]? = Δ x) (hy:ys[n']? = Δ y)
  (k:∀h',jV h' z TI TO T Θ->It p h' i l (n+1)->It q h' j m (n' + 1)->IsPair h' s.heap.objs.size x y->h'.objs.size=s.heap.objs.size+1->(∀c o,c≠z->c≠i->c≠j->s.heap.get? c=Δ o->h'.get? c=Δ o)->Q (.ref s.heap.objs.size) {s with heap:=h'}) :
  Κ (Μ prog w) A (Builtin.«zip.__next__» ⟨[.ref z],[]⟩) (fun fin s'=>∃v,fin=.done (.ret v)/\Q v s') E s:=by
 show Κ _ _ (field (.ref z) 2 >>= _) _ _ _;refine a_ (Q_ hz rfl (x:=.bool Ξ) rfl ?_);show Κ _ _ (field (.ref z) 3 >>= _) _ _ _;refine a_ (Q_ hz rfl (x:=.ref TI) rfl (a_ (aad hI rfl ?_)));show Κ _ _ (η (.ref z) >>= _) _ _ _;refine a_ (pD hz hT fun h1 z1 e1=>?_);simp only[aaq,if_false];refine a_ ?_;rw[<- Array.forIn_toList];simp only[List.forIn_cons,List.forIn_nil];refine a_ (a_ (M_ ?_));show Κ _ _ (ζ (.ref i) >>= _) _ _ _;refine a_ (kY (ci.to fun o e=>e1.extBut _ _ D.i1z e) (sl.to fun o e=>e1.extBut _ _ D.l1z e) hx fun h2 Q4 e2=>f_ (f_ (a_ (a_ (M_ ?_)))));show Κ _ _ (ζ (.ref j) >>= _) _ _ _;refine a_ (kY (cj.to fun o e=>e2.extBut _ _ D.i12.symm (e1.extBut _ _ D.i2z e)) (sm.to fun o e=>e2.extBut _ _ D.l2i1 (e1.extBut _ _ D.l2z e)) hy fun h3 Zj e3=>f_ (f_ (f_ (a_ (wpAny_newTuple ?_ (hsz:=by show 2<=Ζ;decide))))));have sz:h3.objs.size=s.heap.objs.size:=by rw[e3.1,e2.1,e1.1]
 have z3:jV h3 z TI TO T Θ:=e3.extBut _ _ D.i2z.symm (e2.extBut _ _ D.i1z.symm z1);refine f_ ⟨_,rfl,?_⟩;show Q (.ref h3.objs.size) _;rw[sz];have up:∀c o,h3.get? c=Δ o->(h3.push {cls:=.type "tuple",data:=.seq #[x,y]}).get? c=Δ o:=fun c o e=>l_ _ e;refine k _ (up _ _ z3) ((Q4.to fun o e=>e3.extBut _ _ D.i12 e).to fun o e=>up _ o e) (Zj.to fun o e=>up _ o e) ?_ (by rw[aaa,sz]) fun c o c1 c2 c3 e=>up c o (e3.extBut _ _ c3 (e2.extBut _ _ c2 (e1.extBut _ _ c1 e)));show(h3.push _).get? s.heap.objs.size=_;rw[<- sz];exact u_ _ rfl
theorem so {p q:Kq}{z TI TO i j l m T:Ω}{f:Bool}{oT:Obj}{n n':Nat}{xs ys:Array Ψ}{Q:PySem.Fin->Α->Prop}(hh:A.handled=Φ)(D:ZipApart z TI TO i j l m)(hz:jV s.heap z TI TO T f)(hT:s.heap.get? T=Δ oT)(hI:IsPair s.heap TI (.ref i) (.ref j))
  (ci:It p s.heap i l n) (cj:It q s.heap j m n') (sl:Sq p s.heap l xs) (sm:Sq q s.heap m ys) (Mf:xs[n]? = Φ∨ys[n']? = Φ)
  (k:∀h' e,(∀c o,c≠z->c≠i->c≠j->s.heap.get? c=Δ o->h'.get? c=Δ o)->(∃o,h'.get? e=Δ o/\o.cls=.type "StopIteration")->E (.ref e) {s with heap:=h'}) :
  Κ (Μ prog w) A (Builtin.«zip.__next__» ⟨[.ref z],[]⟩) Q E s:=by
 show Κ _ _ (field (.ref z) 2 >>= _) _ _ _;refine a_ (Q_ hz rfl (x:=.bool Ξ) rfl ?_);show Κ _ _ (field (.ref z) 3 >>= _) _ _ _;refine a_ (Q_ hz rfl (x:=.ref TI) rfl (a_ (aad hI rfl ?_)));show Κ _ _ (η (.ref z) >>= _) _ _ _;refine a_ (pD hz hT fun h1 z1 e1=>?_);simp only[aaq,if_false];refine a_ ?_;rw[<- Array.forIn_toList];simp only[List.forIn_cons,List.forIn_nil];refine a_ (a_ (M_ ?_));show Κ _ _ (ζ (.ref i) >>= _) _ _ _;cases hx:xs[n]? with
 |none=>refine a_ (p0 hh (ci.to fun o e=>e1.extBut _ _ D.i1z e) (sl.to fun o e=>e1.extBut _ _ D.l1z e) hx fun h2 e e2 he=>?_);exact k h2 e (fun c o c1 c2 c3 g=>e2 _ _ c2 (e1.extBut _ _ c1 g)) he
 |some x=>have hy:ys[n']? = Φ:=Mf.resolve_left (by rw[hx];simp);refine a_ (kY (ci.to fun o e=>e1.extBut _ _ D.i1z e) (sl.to fun o e=>e1.extBut _ _ D.l1z e) hx fun h2 Q4 e2=>f_ (f_ (a_ (a_ (M_ ?_)))));show Κ _ _ (ζ (.ref j) >>= _) _ _ _;refine a_ (p0 hh (cj.to fun o e=>e2.extBut _ _ D.i12.symm (e1.extBut _ _ D.i2z e)) (sm.to fun o e=>e2.extBut _ _ D.l2i1 (e1.extBut _ _ D.l2z e)) hy fun h3 e e3 he=>?_);exact k h3 e (fun c o c1 c2 c3 g=>e3 _ _ c3 (e2.extBut _ _ c2 (e1.extBut _ _ c1 g))) he
theorem wY {p q:Kq}{z TI TO i j l m T:Ω}{f:Bool}{oT:Obj}{n n':Nat}{xs ys:Array Ψ}{x y:Ψ}{Q:Option Ψ->Α->Prop}(D:ZipApart z TI TO i j l m)(hz:jV s.heap z TI TO T f)(hT:s.heap.get? T=Δ oT)(hI:IsPair s.heap TI (.ref i) (.ref j))
  (ci:It p s.heap i l n) (cj:It q s.heap j m n') (sl:Sq p s.heap l xs) (sm:Sq q s.heap m ys) (hx:xs[n]? = Δ x) (hy:ys[n']? = Δ y)
  (k:∀h',jV h' z TI TO T Θ->It p h' i l (n+1)->It q h' j m (n' + 1)->IsPair h' s.heap.objs.size x y->h'.objs.size=s.heap.objs.size+1->(∀c o,c≠z->c≠i->c≠j->s.heap.get? c=Δ o->h'.get? c=Δ o)->Q (Δ (.ref s.heap.objs.size)) {s with heap:=h'}) :
  Κ (Μ prog w) A (pyNext (.ref z)) Q E s:=by
 have ty:s.TypeIs (.ref z) "zip":=⟨_,hz,rfl⟩
 unfold pyNext;refine a_ (wpAny_attempt (wpAny_callSpecial?_slot (name:=Ρ "__next__") ty F.slot_zip_next (aab F.slot_zip_next ty F.entry_zip_next ?_ (F.args_zip_next_1 _))));exact sj D hz hT hI ci cj sl sm hx hy fun h' a1 a2 a3 a4 a5 a6=>f_ (k h' a1 a2 a3 a4 a5 a6)
theorem wZ {p q:Kq}{z TI TO i j l m T:Ω}{f:Bool}{oT:Obj}{n n':Nat}{xs ys:Array Ψ}{Q:Option Ψ->Α->Prop}(hh:A.handled=Φ)(D:ZipApart z TI TO i j l m)(hz:jV s.heap z TI TO T f)(hT:s.heap.get? T=Δ oT)(hI:IsPair s.heap TI (.ref i) (.ref j))
  (ci:It p s.heap i l n) (cj:It q s.heap j m n') (sl:Sq p s.heap l xs) (sm:Sq q s.heap m ys) (Mf:xs[n]? = Φ∨ys[n']? = Φ)
  (k:∀h',(∀c o,c≠z->c≠i->c≠j->s.heap.get? c=Δ o->h'.get? c=Δ o)->Q Φ {s with heap:=h'}):Κ (Μ prog w) A (pyNext (.ref z)) Q E s:=by
 have ty:s.TypeIs (.ref z) "zip":=⟨_,hz,rfl⟩
 unfold pyNext;refine a_ (wpAny_attempt (wpAny_callSpecial?_slot (name:=Ρ "__next__") ty F.slot_zip_next (aab F.slot_zip_next ty F.entry_zip_next (so hh D hz hT hI ci cj sl sm Mf fun h' e hk he=>?_) (F.args_zip_next_1 _))));obtain⟨o,g,c⟩:=he;exact a_ (wpAny_isInstance (T:="StopIteration") (b:=Θ) ⟨o,g,c⟩ isSubtype_stop (f_ (k _ hk)))
structure St (z TI TO i j l m:Ω)(p q:Kq)(xs ys:Array Ψ)(n:Nat)(b:Nat)(Ts:List Ω)(h:Heap):Prop where
 zp:IsZip h z TI TO .none∨∃T f,jV h z TI TO T f/\T∈Ts
 I:IsPair h TI (.ref i) (.ref j)
 O:∃a b,IsPair h TO a b
 ci:It p h i l n
 cj:It q h j m n
 sl:Sq p h l xs
 sm:Sq q h m ys
 len:Ts.length=n
 nd:Ts.Nodup
 at_:∀(k:Nat) (T:Ω),Ts[k]? = Δ T->b<=T/\∃x y,xs[k]? = Δ x/\ys[k]? = Δ y/\IsPair h T x y
theorem loop {p q:Kq}{z TI TO i j l m S:Ω}{xs ys:Array Ψ}{R:Result->Α->Prop}{b:Nat}(hh:A.handled=Φ)(D:ZipApart z TI TO i j l m)(res:Ψ)(hn:min xs.size ys.size<=Ζ)(bz:z < b)(bI:TI < b)(bO:TO < b)(bi:i < b)(bj:j < b)(bl:l < b)(bm:m < b)(bS:S < b)(Sz:S≠z)(SI:S≠TI)(SO:S≠TO)(Si:S≠i)(Sj:S≠j)(Sl:S≠l)(Sm:S≠m) :
  ∀(k n:Nat) (s:Α) (Ts:List Ω) (c:Nat),min xs.size ys.size - n=k->n<=min xs.size ys.size->St z TI TO i j l m p q xs ys n b Ts s.heap->b<=s.heap.objs.size->s.heap.get? S=Δ {cls:=.type "list",dict:=Φ,data:=.seq (Ts.map θ).toArray c,slots:=#[]}->
  (∀(h':Heap) (tk:Nat) (Lx:List Ω) (c':Nat),(∀a o,a≠z->a≠TO->a≠i->a≠j->a≠S->s.heap.get? a=Δ o->h'.get? a=Δ o)->h'.get? S=Δ {cls:=.type "list",dict:=Φ,data:=.seq (Lx.map θ).toArray c',slots:=#[]}->Lx.length=min xs.size ys.size->Lx.Nodup->(∀(k:Nat) (T:Ω),Lx[k]? = Δ T->b<=T/\∃x y,xs[k]? = Δ x/\ys[k]? = Δ y/\IsPair h' T x y)->R (.ok (.ret res)) {s with heap:=h',toks:=tk})->
  codeAny (Μ prog w) A (.builtin "list.extend.loop" ⟨[.ref S,.ref z,res],[]⟩) R s:=by
 intro k
 induction k with
 |zero=>
  intro n s Ts c hk hi st hb hS hR;have Q7:n=min xs.size ys.size:=by omega
  subst Q7;refine codeAny_builtin F.entry_extend_loop ?_;rw[aaw F.plain_extend_loop _];show Κ _ A.in1 (pyNext (.ref z) >>= _) _ _ s;have he:xs[min xs.size ys.size]? = Φ∨ys[min xs.size ys.size]? = Φ:=by
   by_cases h:xs.size<=ys.size
   ·exact .inl (Array.getElem?_eq_none (by omega))
   ·exact .inr (Array.getElem?_eq_none (by omega))
  have fin:∀h',(∀a o,a≠z->a≠TO->a≠i->a≠j->s.heap.get? a=Δ o->h'.get? a=Δ o)->R (.ok (.ret res)) {s with heap:=h'}:=fun h' kp=>by
   refine hR h' s.toks Ts c (fun a o a1 a2 a3 a4 _ e=>kp a o a1 a2 a3 a4 e) (kp S _ Sz SO Si Sj hS) st.len st.nd fun k T e=>?_;obtain⟨t1,x,y,t2,t3,t4⟩:=st.at_ k T e;have ne:∀a,a < b->T≠a:=fun a ha z=>by rw[z]at t1;omega
   exact⟨t1,x,y,t2,t3,kp T _ (ne z bz) (ne TO bO) (ne i bi) (ne j bj) t4⟩
  obtain⟨a,b',hO⟩:=st.O;rcases st.zp with hz|⟨T,f,hz,hT⟩
  ·refine a_ (Mv (A:=A.in1) hh D hz st.I hO st.ci st.cj st.sl st.sm he fun h' kp=>?_);exact f_ (fin h' fun a o a1 a2 a3 a4 e=>kp a o a1 a2 a3 a4 e)
  ·obtain⟨k,N2⟩:=aaj.mp hT;obtain⟨_,x,y,_,_,Pe⟩:=st.at_ k T N2;refine a_ (wZ (A:=A.in1) hh D hz Pe st.I st.ci st.cj st.sl st.sm he fun h' kp=>?_);exact f_ (fin h' fun a o a1 _ a3 a4 e=>kp a o a1 a3 a4 e)
 |succ k ih=>
  intro n s Ts c hk hi st hb hS hR;have JU:n < min xs.size ys.size:=by omega
  have b1:n < xs.size:=B_ JU (Nat.min_le_left ..);have b2:n < ys.size:=B_ JU (Nat.min_le_right ..);have g1:=Array.getElem?_eq_getElem b1;have g2:=Array.getElem?_eq_getElem b2;refine codeAny_builtin F.entry_extend_loop ?_;rw[aaw F.plain_extend_loop _];show Κ _ A.in1 (pyNext (.ref z) >>= _) _ _ s;have UB:s.heap.objs.size∉Ts:=fun hm=>by obtain⟨k,N2⟩:=aaj.mp hm;obtain⟨_,x,y,_,_,Pe⟩:=st.at_ k _ N2;exact absurd (j_ Pe) (T_ _)
  have fin:∀h',(jV h' z TI TO s.heap.objs.size Ξ∨∃T f,jV h' z TI TO T f/\T∈Ts)->(∃a b,IsPair h' TO a b)->It p h' i l (n+1)->It q h' j m (n+1)->IsPair h' s.heap.objs.size xs[n] ys[n]->h'.objs.size=s.heap.objs.size+1->(∀a o,a≠z->a≠TO->a≠i->a≠j->s.heap.get? a=Δ o->h'.get? a=Δ o)->
    Κ (Μ prog w) A.in1 (updateSeq S (·.push (.ref s.heap.objs.size)) >>= fun _=>again (.builtin "list.extend.loop" ⟨[.ref S,.ref z,res],[]⟩)) (fun fin s'=>match fin with|.done f=>R (.ok f) s'|.again c'=>c'.quiet=Θ/\codeAny (Μ prog w) A c' R s') (fun e s'=>R (.error e) s') {s with heap:=h'}:=by
   intro h' hz hO ci cj hT sz kp;have KC:=kp S _ Sz SO Si Sj hS;have hsz:(Ts.map θ).toArray.size=n:=by simp[st.len]
   refine a_ (wpAny_updateSeq KC rfl (f_ ⟨plainId_quiet F.plain_extend_loop _,?_⟩) (by rw[hsz];omega) (by show((Ts.map θ).toArray.push _).size<=Ζ+1;rw[Array.size_push,hsz];omega));have S2:(h'.update S (ι fun x=>x.push (θ s.heap.objs.size))).get? S=Δ (ι (fun x=>x.push (θ s.heap.objs.size)) {cls:=.type "list",dict:=Φ,data:=.seq (Ts.map θ).toArray c,slots:=#[]}):=aaA _ KC rfl;have ar:(Ts.map θ).toArray.push (θ s.heap.objs.size)=((Ts++[s.heap.objs.size]).map θ).toArray:=by simp
   obtain⟨c2,Zk⟩:∃c2,(h'.update S (ι fun x=>x.push (θ s.heap.objs.size))).get? S=Δ {cls:=.type "list",dict:=Φ,data:=.seq (((Ts++[s.heap.objs.size]).map θ).toArray) c2,slots:=#[]}:=⟨_,by rw[S2,<- ar];rfl⟩
   have Nf:∀a o,a≠S->h'.get? a=Δ o->(h'.update S (ι fun x=>x.push (θ s.heap.objs.size))).get? a=Δ o:=fun a o ha e=>(aai _ _ (Ne.symm ha)).trans e;have Q8:(h'.update S (ι fun x=>x.push (θ s.heap.objs.size))).objs.size=h'.objs.size:=(aaB ..).1;have nS:∀T:Ω,b<=T->T≠S:=fun T Pf z=>T_ _ (B_ bS (z ▸ Pf:b<=S));refine ih (n+1) _ (Ts++[s.heap.objs.size]) c2 (by omega) JU ⟨?_,Nf _ _ SI.symm (kp _ _ D.TIz D.TITO D.TIi1 D.TIi2 st.I),?_,ci.to fun o e=>Nf _ o Si.symm e,cj.to fun o e=>Nf _ o Sj.symm e,?_,?_,by rw[o_,st.len];rfl,?_,fun k T e=>?_⟩ (by show b<=(h'.update S _).objs.size;rw[Q8,sz];omega) Zk fun Q9 tk Lx c' Zl a1 a2 a3 a4=>?_
   ·rcases hz with hz|⟨T,f,hz,hT⟩
    ·exact .inr ⟨_,Ξ,Nf _ _ Sz.symm hz,t_ _ (w_.mpr rfl)⟩
    ·exact .inr ⟨T,f,Nf _ _ Sz.symm hz,s_ _ hT⟩
   ·obtain⟨a,b',hO⟩:=hO;exact⟨a,b',Nf _ _ SO.symm hO⟩
   ·exact(st.sl.to fun o e=>kp _ o D.l1z D.l1TO D.l1i1 D.l1i2 e).to fun o e=>Nf _ o Sl.symm e
   ·exact(st.sm.to fun o e=>kp _ o D.l2z D.l2TO D.l2i1 D.l2i2 e).to fun o e=>Nf _ o Sm.symm e
   ·refine r_.mpr ⟨st.nd,by simp,fun a ha b hb e=>?_⟩;rw[w_.mp hb]at e;exact UB (e ▸ ha)
   ·by_cases Qe:k < Ts.length
    ·rw[aau Qe]at e;obtain⟨t1,x,y,t2,t3,t4⟩:=st.at_ k T e;have ne:∀a,a < b->T≠a:=fun a ha z=>by rw[z]at t1;omega
     exact⟨t1,x,y,t2,t3,Nf _ _ (nS T t1) (kp T _ (ne z bz) (ne TO bO) (ne i bi) (ne j bj) t4)⟩
    ·rw[aaH (by omega)]at e;have Zm:k=n:=by have:=(x_.mp e).1;rw[X_]at this;have:=st.len;omega
     rw[show k - Ts.length=0 by have:=st.len;omega]at e;have e':s.heap.objs.size=T:=J_ e;subst e';rw[Zm];exact⟨hb,_,_,g1,g2,Nf _ _ (nS _ hb) hT⟩
   ·exact hR Q9 tk Lx c' (fun a o c1 c2 c3 c4 c5 e=>Zl a o c1 c2 c3 c4 c5 (Nf a o c5 (kp a o c1 c2 c3 c4 e))) a1 a2 a3 a4
  obtain⟨a,b',hO⟩:=st.O;rcases st.zp with hz|⟨T,f,hz,hT⟩
  ·refine a_ (Mu (A:=A.in1) D hz st.I hO st.ci st.cj st.sl st.sm g1 g2 fun h' a1 a2 a3 a4 a5 a6 kp=>?_);exact fin h' (.inl a1) ⟨_,_,a2⟩ a3 a4 a5 a6 fun a o c1 c2 c3 c4 e=>kp a o c1 c2 c3 c4 e
  ·obtain⟨k',N2⟩:=aaj.mp hT;obtain⟨_,x,y,_,_,Pe⟩:=st.at_ k' T N2;refine a_ (wY (A:=A.in1) D hz Pe st.I st.ci st.cj st.sl st.sm g1 g2 fun h' a1 a3 a4 a5 a6 kp=>?_);exact fin h' (.inr ⟨T,Θ,a1,hT⟩) ⟨a,b',kp TO _ D.TOz D.TOi1 D.TOi2 hO⟩ a3 a4 a5 a6 fun a o c1 _ c3 c4 e=>kp a o c1 c3 c4 e
theorem sr:typeLookup (.type "zip") "__len__" = pure Φ:=by rw[typeLookup_type,builtinLookup_eq_fast];kernel_rfl
theorem qQ:typeLookup (.type "zip") "__length_hint__" = pure Φ:=by rw[typeLookup_type,builtinLookup_eq_fast];kernel_rfl
theorem su {p q:Kq}{z TI TO i j l m S:Ω}{xs ys:Array Ψ}{R:Result->Α->Prop}(hh:A.handled=Φ)(D:ZipApart z TI TO i j l m)(res:Ψ)(c₀:Nat)(hz:IsZip s.heap z TI TO .none)(hI:IsPair s.heap TI (.ref i) (.ref j))(hO:∃a b,IsPair s.heap TO a b)(ci:It p s.heap i l 0)(cj:It q s.heap j m 0)(sl:Sq p s.heap l xs)(sm:Sq q s.heap m ys)
  (hS:s.heap.get? S=Δ {cls:=.type "list",data:=.seq #[] c₀}) (hn:min xs.size ys.size<=Ζ) (Sz:S≠z) (SI:S≠TI) (SO:S≠TO) (Si:S≠i) (Sj:S≠j) (Sl:S≠l) (Sm:S≠m)
  (hR:∀(h':Heap) (tk:Nat) (Lx:List Ω) (c':Nat),(∀a o,a≠z->a≠TO->a≠i->a≠j->a≠S->s.heap.get? a=Δ o->h'.get? a=Δ o)->h'.get? S=Δ {cls:=.type "list",dict:=Φ,data:=.seq (Lx.map θ).toArray c',slots:=#[]}->Lx.length=min xs.size ys.size->Lx.Nodup->(∀(k:Nat) (T:Ω),Lx[k]? = Δ T->s.heap.objs.size<=T/\∃x y,xs[k]? = Δ x/\ys[k]? = Δ y/\IsPair h' T x y)->R (.ok (.ret res)) {s with heap:=h',toks:=tk}) :
  Κ (Μ prog w) A.in1 (Χ (.ref S) (.ref z) res)
   (fun fin s'=>match fin with|.done f=>R (.ok f) s'|.again c'=>c'.quiet=Θ/\codeAny (Μ prog w) A c' R s') (fun e s'=>R (.error e) s') s:=by
 have ty:s.TypeIs (.ref z) "zip":=⟨_,hz,rfl⟩
 unfold Χ;refine a_ (wpAny_typeOf ty ?_);have h1:Builtin.List.listSameRef (.ref S) (.ref z)=Ξ:=by simp[Builtin.List.listSameRef,Sz]
 have h2:(Value.type "zip" == Value.type "list")=Ξ:=by decide
 have h3:(Value.type "zip" == Value.type "tuple")=Ξ:=by decide
 simp only[h1,h2,h3,Bool.or_false,aaq,if_false];refine a_ (wpAny_pyIter_zip hz ?_);refine a_ (M_ ?_);unfold Builtin.List.listLengthHint;refine a_ (wpAny_specialOf ty sr ?_);show Κ _ A.in1 (specialOf (θ z) (Ρ "__length_hint__") >>= _) _ _ _;refine a_ (wpAny_specialOf ty qQ (f_ ?_))
 show Κ _ A.in1 (rule "list.extend.makes-room" >>= fun _=>Builtin.List.listTouch (.ref S) >>= fun _=>
  again (.builtin "list.extend.loop" ⟨[.ref S,.ref z,res],[]⟩)) _ _ _
 refine a_ (wpAny_rule ?_);refine a_ ?_;show Κ _ A.in1 (updateSeq S (·.push .none) >>= fun _=>updateSeq S (·.pop)) _ _ _;refine a_ (wpAny_updateSeq hS rfl ?_);have My:=aaA (ι (·.push Value.none)) hS rfl;refine wpAny_updateSeq (hz:=by seq_fits) My rfl ?_;have Rb:=aaA (ι (·.pop)) My rfl;have K1:∀b o,b≠S->s.heap.get? b=Δ o->((s.heap.update S (ι (·.push Value.none))).update S (ι (·.pop))).get? b=Δ o:=
  fun b o hb e=>(aai _ _ (Ne.symm hb)).trans ((aai _ _ (Ne.symm hb)).trans e)
 have Q8:((s.heap.update S (ι (·.push Value.none))).update S (ι (·.pop))).objs.size=s.heap.objs.size:=((aaB ..).1).trans (aaB ..).1;obtain⟨a,b',hO⟩:=hO
 refine f_ ⟨plainId_quiet F.plain_extend_loop _,loop (b:=s.heap.objs.size) hh D res hn (j_ hz) (j_ hI) (j_ hO) ci.lt cj.lt sl.lt sm.lt (j_ hS) Sz SI SO Si Sj Sl Sm _ 0 _ [] _ rfl (Y_ _)
  ⟨.inl (K1 _ _ Sz.symm hz),K1 _ _ SI.symm hI,⟨a,b',K1 _ _ SO.symm hO⟩,ci.to fun o e=>K1 _ o Si.symm e,cj.to fun o e=>K1 _ o Sj.symm e,sl.to fun o e=>K1 _ o Sl.symm e,sm.to fun o e=>K1 _ o Sm.symm e,rfl,List.nodup_nil,fun k T e=>by simp at e⟩ (by show s.heap.objs.size<=((s.heap.update S _).update S _).objs.size;rw[Q8];exact m_ _) Rb fun h' tk Lx c' kp a1 a2 a3 a4=>?_⟩
 exact hR h' tk Lx c' (fun a o c1 c2 c3 c4 c5 e=>kp a o c1 c2 c3 c4 c5 (K1 a o c5 e)) a1 a2 a3 a4
theorem Lm {p q:Kq}{z TI TO i j l m:Ω}{xs ys:Array Ψ}{Q:Ψ->Α->Prop}(hh:A.handled=Φ)(D:ZipApart z TI TO i j l m)(hz:IsZip s.heap z TI TO .none)(hI:IsPair s.heap TI (.ref i) (.ref j))(hO:∃a b,IsPair s.heap TO a b)(ci:It p s.heap i l 0)(cj:It q s.heap j m 0)(sl:Sq p s.heap l xs)(sm:Sq q s.heap m ys)(hn:min xs.size ys.size<=Ζ)
  (hQ:∀(h':Heap) (tk:Nat) (Lx:List Ω) (c':Nat),(∀a o,a≠z->a≠TO->a≠i->a≠j->s.heap.get? a=Δ o->h'.get? a=Δ o)->h'.get? s.heap.objs.size=Δ {cls:=.type "list",dict:=Φ,data:=.seq (Lx.map θ).toArray c',slots:=#[]}->Lx.length=min xs.size ys.size->Lx.Nodup->(∀(k:Nat) (T:Ω),Lx[k]? = Δ T->s.heap.objs.size < T/\∃x y,xs[k]? = Δ x/\ys[k]? = Δ y/\IsPair h' T x y)->Q (.ref s.heap.objs.size) {s with heap:=h',toks:=tk}) :
  Κ (Μ prog w) A (call (.type "list") [.ref z]) Q E s:=by
 obtain⟨a0,b0,hO⟩:=hO;have lz:z < s.heap.objs.size:=j_ hz;have lI:TI < s.heap.objs.size:=j_ hI;have lO:TO < s.heap.objs.size:=j_ hO;refine callType_codes (Q₁:=fun obj JA=>obj=.ref s.heap.objs.size/\JA = {s with heap:=s.heap.push {cls:=.type "list",data:=.seq #[]}}) F.called_list (F.typeCall_list_1 _) F.entry_list_init
  (code_list_new _ ⟨rfl,rfl⟩) fun obj JA MP=>?_
 obtain⟨rfl,rfl⟩:=MP;have hS:(s.heap.push {cls:=.type "list",data:=.seq #[]}).get? s.heap.objs.size=Δ {cls:=.type "list",data:=.seq #[]}:=u_ _ rfl;refine⟨⟨_,hS,rfl⟩,F.args_list_init_2 _ _,?_⟩;show Κ _ _ (do let old <- Builtin.List.listItems (.ref s.heap.objs.size);Builtin.List.listUpdate (.ref s.heap.objs.size) (fun _=>#[]);letGo old.toList.reverse;Χ (.ref s.heap.objs.size) (.ref z) .none) _ _ _;refine a_ ?_;unfold Builtin.List.listItems;refine a_ (aad hS rfl (f_ ?_));show Κ _ _ (updateSeq s.heap.objs.size (fun _=>#[]) >>= fun _=>letGo (#[]:Array Ψ).toList.reverse >>= fun _=>Χ (.ref s.heap.objs.size) (.ref z) .none) _ _ _;refine a_ (wpAny_updateSeq hS rfl ?_);have My:=aaA (ι (fun _=>(#[]:Array Ψ))) hS rfl;have K1:∀b o,b≠s.heap.objs.size->s.heap.get? b=Δ o->((s.heap.push {cls:=.type "list",data:=.seq #[]}).update s.heap.objs.size (ι (fun _=>(#[]:Array Ψ)))).get? b=Δ o:=
  fun b o hb e=>(aai _ _ (Ne.symm hb)).trans (l_ _ e)
 have Q8:((s.heap.push {cls:=.type "list",data:=.seq #[]}).update s.heap.objs.size (ι (fun _=>(#[]:Array Ψ)))).objs.size=s.heap.objs.size+1:=((aaB ..).1).trans (aaa ..);refine a_ (wpAny_letGo ?_);refine su (A:=A.in1) hh D .none _ (K1 _ _ (p_ lz) hz) (K1 _ _ (p_ lI) hI) ⟨a0,b0,K1 _ _ (p_ lO) hO⟩ (ci.to fun o e=>K1 _ o (p_ ci.lt) e) (cj.to fun o e=>K1 _ o (p_ cj.lt) e) (sl.to fun o e=>K1 _ o (p_ sl.lt) e) (sm.to fun o e=>K1 _ o (p_ sm.lt) e) My hn (U_ lz) (U_ lI) (U_ lO) (U_ ci.lt) (U_ cj.lt) (U_ sl.lt) (U_ sm.lt) fun h' tk Lx c' kp a1 a2 a3 a4=>?_;refine⟨rfl,hQ h' tk Lx c' (fun a o c1 c2 c3 c4 e=>kp a o c1 c2 c3 c4 (p_ (j_ e)) (K1 a o (p_ (j_ e)) e)) a1 a2 a3 fun k T e=>?_⟩;obtain⟨t1,t2⟩:=a4 k T e;have t1:((s.heap.push {cls:=.type "list",data:=.seq #[]}).update s.heap.objs.size (ι (fun _=>(#[]:Array Ψ)))).objs.size<=T:=t1;rw[Q8]at t1;exact⟨t1,t2⟩
end
end L2.Zp
namespace L2
open PySem PySem.Spec PyProof.Rows
noncomputable def oU (H:Hp):List (Ω×HO)->Hp
 |[]=>H
 |p::L=>upd (oU H L) p.1 p.2
theorem nO:∀ {L:List (Ω×HO)},a∉L.map (·.1)->oU H L a=H a
 |[],_=>rfl
 |p::L,h=>by rw[b_,k_,not_or]at h;show upd (oU H L) p.1 p.2 a=_;rw[iI h.1,nO h.2]
theorem lQ:∀ {L:List (Ω×HO)},(L.map (·.1)).Nodup->(a,o)∈L->oU H L a=Δ o
 |[],_,h=>by simp at h
 |p::L,nd,h=>by
  rw[b_,E_]at nd;show upd (oU H L) p.1 p.2 a=_;rcases k_.mp h with rfl|h
  ·exact iM
  ·have:a≠p.1:=fun z=>nd.1 (z ▸ List.mem_map.mpr ⟨(a,o),h,rfl⟩);rw[iI this,lQ nd.2 h]
theorem pE (h:oU H L a=Δ u)(n:H a=Φ):∃p∈L,p.1=a/\p.2=u:=by
 induction L with
 |nil=>rw[show oU H [] a=H a from rfl,n]at h;cases h
 |cons p L ih=>
  have h:upd (oU H L) p.1 p.2 a=Δ u:=h;by_cases e:a=p.1
  ·rw[e,iM]at h;exact⟨p,.head _,e.symm,J_ h⟩
  ·rw[iI e]at h;obtain⟨q,hq,h1⟩:=ih h;exact⟨q,.tail _ hq,h1⟩
section
variable {X:Cx}{pins:List (Ω×Obj)}{σ:St}{H H':Hp}{s:Α}{h':Heap}
theorem Inv.Ng (I:Inv X pins σ H s)(k:∀b o,s.heap.get? b=Δ o->h'.get? b=Δ o)(Na:∀b,b < s.heap.objs.size->H' b=H b)(new:∀b u,s.heap.objs.size<=b->H' b=Δ u->iV X.prog X.w H' h' b u):Inv X pins σ H' {s with heap:=h',toks:=t'}:=by
 have hs:∀b u,H b=Δ u->H' b=Δ u:=fun b u q=>by rw[Na b (Nat.lt_of_not_le fun z=>by rw[I.JD.fresh z]at q;cases q)];exact q
 refine I.step (g':=s.gens) (d':=s.drawn) (ch:=[]) (fun b hb=>by simp at hb) (fun b o _ _ hc e _=>k b o e) (fun b o _ _ hc e _=>⟨o.slots,k b o e⟩) (fun b o _ e n=>by rw[Na b (j_ e)];exact n)
  (fun b o hc e=>⟨o,k b o e⟩) (fun b xs q=>hs _ _ q) (fun b u xs q=>hs _ _ q) (fun b ps q=>⟨#[],by rw[hs _ _ q];simp⟩) (fun m hm=>?_) (fun b u e=>?_) I.bare
 ·obtain⟨o,es,ep,ho,r⟩:=hm;exact⟨o,es,ep,k _ o ho,r⟩
 ·by_cases hb:s.heap.objs.size<=b
  ·exact new b u hb e
  ·rw[Na b (Nat.lt_of_not_le hb)]at e;exact(I.JD b u e).Li (fun c v hc q=>k c v q) (fun c q=>hs _ _ q) fun c xs q=>hs _ _ q
theorem qR:∀Ts:List Ω,Vals (Ts.map V.ref) (Ts.map θ)
 |[]=>.nil
 |T::Ts=>.cons rfl (qR Ts)
end
def FH (K:Frag)(ta:TA):TE:=fun σ H Q=>ta σ H fun vs H1=>∃p q l m xs ys,vs=[.ref l,.ref m]/\Mg K H1 p l xs/\Mg K H1 q m ys/\min xs.length ys.length<=Ζ/\
 ∀(Ts:List Ω) (A:Ω) (H':Hp),iL H1 H'->H1 A=Φ->H' A=Δ (.lst (Ts.map V.ref))->Ts.length=min xs.length ys.length->(∀(k:Nat) (T:Ω),Ts[k]? = Δ T->∃x y,xs[k]? = Δ x/\ys[k]? = Δ y/\H' T=Δ (.tup [x,y]))->Q (.ref A) H'
theorem Az (hc:X.calm=Θ)(g1:Gl X "list") (m1:X.mg "list" = Φ) (hg:Gl X "zip") (hm:X.mg "zip" = Φ) (ha:PA X [a,b] ta) (hs:Ν [a,b] X.env=[(Ξ,eval a X.env),(Ξ,eval b X.env)]) (Lw:Ν [b] X.env=[(Ξ,eval b X.env)]) :
  PE X (.Call (.Name "list" p) [.Call (.Name "zip" p') [a,b] [] pos'] [] pos) (FH X.K ta):=by
 intro pins s σ H Q I h;refine wpAny_Call_Name_kw (kD (u:=.type "list") I g1 m1 (by decide +kernel) ?_ (by decide) (by decide));refine aaF ?_ rfl rfl;show Κ _ _ (spliced ((Ξ,eval (.Call (.Name "zip" p') [a,b] [] pos') X.env)::backTo pos (Ν [] X.env))) _ _ s;refine Calls.spliced_cons ?_;refine Call_ (kD I hg hm boot_zip (aaF (JG (ha pos' pins s σ H _ I h) fun us s1 ⟨vs,H1,I1,r1,q1⟩=>?_) (by rw[hs,Lw]) (by rw[Lw];rfl)));obtain⟨k1,k2,l,m,xs,ys,e,g1,g2,Rc,q⟩:=q1;subst e;cases r1 with
 |cons r rr=>
  cases rr with
  |cons r' rr=>
   cases rr;cases r;cases r';obtain⟨L1,MQ,p1⟩:=I1.OA g1;obtain⟨JS,Lv,p2⟩:=I1.OA g2;have l1:=p1.lt;have l2:=p2.lt;refine Zp.L0 p1 p2 fun h2 b1 b2 b3 b4 b5 b6 b7=>?_;refine Calls.spliced_nil ?_;have Zn:=MQ.length;have Zo:=Lv.length;have hsz:min L1.toArray.size JS.toArray.size=min xs.length ys.length:=by simp[Zn,Zo]
   refine Zp.Lm (s:={s1 with heap:=h2}) (show X.A.handled=Φ from I.ok.hd hc) (qP _ l m l1 l2) b1 b2 ⟨_,_,b3⟩ b4 b5 (p1.to fun o e=>b7 _ o e) (p2.to fun o e=>b7 _ o e) (by rw[hsz];exact Rc) fun h' tk Ts c' kp a1 a2 a3 a4=>?_;have a1:h'.get? h2.objs.size=Δ {cls:=.type "list",dict:=Φ,data:=.seq (Ts.map θ).toArray c',slots:=#[]}:=a1;have Zq:∀b o,s1.heap.get? b=Δ o->h'.get? b=Δ o:=fun b o e=>by have lt:=j_ e;exact kp b o (p_ (B_ lt (aar _ _))) (p_ (B_ lt (aar _ _))) (p_ lt) (p_ (B_ lt (aar _ _))) (b7 b o e)
   have tT:∀T∈Ts,h2.objs.size < T:=fun T hT=>by obtain⟨k,hk⟩:=aaj.mp hT;exact(a4 k T hk).1
   have Rf:min L1.toArray.size JS.toArray.size=Ts.length:=a2.symm;have lM:((xs.zip ys).map fun xy:V×V=>HO.tup [xy.1,xy.2]).length=Ts.length:=by rw[i_,List.length_zip,<- hsz,Rf]
   have keys:((Ts.zip ((xs.zip ys).map fun xy:V×V=>HO.tup [xy.1,xy.2])).map (·.1))=Ts:=List.map_fst_zip (by rw[lM];exact m_ _);have UC:∀(T:Ω) (o:HO),(T,o)∈Ts.zip ((xs.zip ys).map fun xy:V×V=>HO.tup [xy.1,xy.2])->∃(k:Nat) (x y:V),Ts[k]? = Δ T/\xs[k]? = Δ x/\ys[k]? = Δ y/\o=.tup [x,y]:=fun T o hm=>by obtain⟨k,hk⟩:=aaj.mp hm;obtain⟨h1,h2⟩:=List.getElem?_zip_eq_some.mp hk;rw[y_]at h2;obtain⟨xy,h3,h4⟩:=aal.mp h2;obtain⟨h5,h6⟩:=List.getElem?_zip_eq_some.mp h3;exact⟨k,xy.1,xy.2,h1,h5,h6,h4.symm⟩
   have nd:(((h2.objs.size,HO.lst (Ts.map V.ref))::Ts.zip ((xs.zip ys).map fun xy:V×V=>HO.tup [xy.1,xy.2])).map (·.1)).Nodup:=by rw[b_,keys,E_];exact⟨fun z=>T_ _ (tT _ z),a3⟩
   have fresh:∀b,s1.heap.objs.size<=b->H1 b=Φ:=fun b hb=>I1.JD.fresh hb;have hA:s1.heap.objs.size<=h2.objs.size:=by rw[b6];exact aar _ _
   have Na:∀b,b < s1.heap.objs.size->oU H1 ((h2.objs.size,HO.lst (Ts.map V.ref))::Ts.zip ((xs.zip ys).map fun xy:V×V=>HO.tup [xy.1,xy.2])) b=H1 b:=fun b hb=>nO (by
    rw[b_,keys,k_,not_or]
    exact⟨p_ (B_ hb hA),fun z=>T_ _ (B_ hb (D_ hA (Nat.le_of_lt (tT _ z))))⟩)
   have I2:=I1.Ng (t':=tk) Zq Na fun b u hb hu=>by
    obtain⟨pr,hp,e1,e2⟩:=pE hu (fresh b hb);subst e1 e2;rcases k_.mp hp with rfl|hp
    ·exact(show iV X.prog X.w _ h' h2.objs.size (.lst (Ts.map V.ref)) from⟨by rw[i_,<- Rf,hsz];exact Rc,Ts.map θ,c',qR Ts,a1⟩)
    ·obtain⟨T,o⟩:=pr;obtain⟨k,x,y,t1,t2,t3,rfl⟩:=UC T o hp;obtain⟨_,u1,u2,u3,u4,u5⟩:=a4 k T t1;obtain⟨v1,Zr,r1⟩:=MQ.get t2;obtain⟨v2,Zs,r2⟩:=Lv.get t3;rw[List.getElem?_toArray,Zr]at u3;rw[List.getElem?_toArray,Zs]at u4;cases u3;cases u4;exact(show iV X.prog X.w _ h' T (.tup [x,y]) from⟨by show 2<=Ζ;decide,[_,_],.cons r1 (.cons r2 .nil),⟨_,u5,rfl,_,rfl⟩⟩)
   refine⟨.ref _,_,I2,rfl,q Ts h2.objs.size _ (fun b u e=>?_) (fresh _ hA) (lQ nd (.head _)) (by rw[<- Rf,hsz]) fun k T hk=>?_⟩
   ·rw[Na b (Nat.lt_of_not_le fun z=>by rw[fresh b z]at e;cases e)];exact e
   ·have Qe:k < Ts.length:=(x_.mp hk).1;have hx:k < xs.length:=by rw[<- Rf,hsz]at Qe;exact B_ Qe (Nat.min_le_left ..)
    have hy:k < ys.length:=by rw[<- Rf,hsz]at Qe;exact B_ Qe (Nat.min_le_right ..)
    refine⟨xs[k],ys[k],v_ hx,v_ hy,lQ nd (.tail _ ?_)⟩;refine aaj.mpr ⟨k,List.getElem?_zip_eq_some.mpr ⟨hk,?_⟩⟩;rw[y_,show(xs.zip ys)[k]? = Δ (xs[k],ys[k]) from List.getElem?_zip_eq_some.mpr ⟨v_ hx,v_ hy⟩];rfl
end L2
namespace L2.Se
open PySem
structure Cut (xs:Array Nat)(j p:Nat):Prop where
 le:p<=xs.size
 lo:∀i x:Nat,i < p->xs[i]? = Δ x->x < j
 hi:∀i x:Nat,p<=i->xs[i]? = Δ x->j<=x
def Up (xs:Array Nat):Prop:=∀i k x y:Nat,i < k->xs[i]? = Δ x->xs[k]? = Δ y->x < y
theorem w8 (u:Up xs):∀(fuel lo hi:Nat),hi<=lo+fuel->lo<=hi->hi<=xs.size->(∀i x,i < lo->xs[i]? = Δ x->x < j)->(∀i x,hi<=i->xs[i]? = Δ x->j<=x)->Cut xs j (SetTable.below.go xs j fuel lo hi):=by
 intro fuel
 induction fuel with
 |zero=>
  intro lo hi h1 h2 h3 h4 h5;have e:lo=hi:=by omega
  subst e;exact⟨h3,h4,h5⟩
 |succ f ih=>
  intro lo hi h1 h2 h3 h4 h5;unfold SetTable.below.go;by_cases hl:lo < hi
  ·rw[e_ hl];have hm:(lo+hi) / 2 < xs.size:=by omega
   have e:xs[(lo+hi) / 2]? = Δ xs[(lo+hi) / 2]:=by simp[hm]
   have eg:xs.getD ((lo+hi) / 2) j=xs[(lo+hi) / 2]:=by simp[Array.getD,hm]
   dsimp only;rw[eg];by_cases hx:xs[(lo+hi) / 2] < j
   ·rw[e_ hx];refine ih _ _ (by omega) (by omega) h3 (fun i x Ln Pg=>?_) h5;by_cases UD:i=(lo+hi) / 2
    ·subst UD;rw[e]at Pg;cases Pg;exact hx
    ·exact Nat.lt_trans (u i _ x _ (by omega) Pg e) hx
   ·rw[d_ hx];refine ih _ _ (by omega) (by omega) (by omega) h4 (fun i x Ln Pg=>?_);by_cases UD:i=(lo+hi) / 2
    ·subst UD;rw[e]at Pg;cases Pg;omega
    ·have:=u _ i _ x (by omega) e Pg;omega
  ·rw[d_ hl];have e:lo=hi:=by omega
   subst e;exact⟨h3,h4,h5⟩
theorem mG (u:Up xs)(j:Nat):Cut xs j (SetTable.below xs j):=
 w8 u xs.size 0 xs.size (by omega) (Y_ _) (m_ _) (fun i x h=>absurd h (Nat.not_lt_zero i)) (fun i x h hx=>by
  have:=(Array.getElem?_eq_some_iff.mp hx).1
  omega)
theorem AA (hp:p<=xs.size)(i:Nat):(SetTable.insertAt xs p x)[i]? = if i < p then xs[i]? else if i=p then Δ x else xs[i - 1]?:=by
 rw[<- aam,SetTable.toList_insertAt];by_cases h1:i < p
 ·rw[e_ h1,aau (by simp;omega),List.getElem?_take,e_ h1,aam]
 ·rw[d_ h1,aaH (by simp;omega)];have hl:(xs.toList.take p).length=p:=by simp;omega
  rw[hl];by_cases h2:i=p
  ·subst h2;rw[e_ rfl,Nat.sub_self];rfl
  ·rw[d_ h2];obtain⟨k,rfl⟩:∃k,i=p+k+1:=⟨i - p - 1,by omega⟩
   rw[show p+k+1 - p=k+1 by omega,aaG,List.getElem?_drop,aam];rfl
theorem DE {xs:Array Nat}{j p:Nat}(u:Up xs)(c:Cut xs j p)(hn:xs[p]?≠Δ j):Up (SetTable.insertAt xs p j):=by
 intro i k x y UE hx hy;rw[AA c.le]at hx hy;have W6:∀m z,p<=m->xs[m]? = Δ z->j < z:=fun m z hm hz=>by
  have h1:=c.hi m z hm hz;by_cases e:m=p
  ·subst e;have:j≠z:=fun e=>hn (by rw[hz,e]);omega
  ·have JU:m < xs.size:=(Array.getElem?_eq_some_iff.mp hz).1;have hp:p < xs.size:=by omega
   have ep:xs[p]? = Δ xs[p]:=by simp[hp]
   have h2:=c.hi p _ (m_ _) ep;have:=u p m _ z (by omega) ep hz;omega
 by_cases a1:i < p
 ·rw[e_ a1]at hx;have Zt:=c.lo i x a1 hx;by_cases b1:k < p
  ·rw[e_ b1]at hy;exact u i k x y UE hx hy
  ·rw[d_ b1]at hy;by_cases b2:k=p
   ·rw[e_ b2]at hy;cases hy;exact Zt
   ·rw[d_ b2]at hy;have:=W6 (k - 1) y (by omega) hy;omega
 ·rw[d_ a1]at hx;by_cases a2:i=p
  ·rw[e_ a2]at hx;cases hx;rw[d_ (by omega),d_ (by omega)]at hy;exact W6 (k - 1) y (by omega) hy
  ·rw[d_ a2]at hx;rw[d_ (by omega),d_ (by omega)]at hy;exact u (i - 1) (k - 1) x y (by omega) hx hy
theorem xb (n:Nat):Up (Array.range n):=by intro i k x y h hx hy;obtain⟨h1,e1⟩:=Array.getElem?_eq_some_iff.mp hx;obtain⟨h2,e2⟩:=Array.getElem?_eq_some_iff.mp hy;simp at e1 e2;omega
structure Tb (led:Bool)(t:SetTable):Prop where
 up:Up t.place
 dm:t.dummies = #[]
 ld:t.led=led
theorem sv {t:SetTable}{j:Nat}(h:t.slot j=.empty):t.place[SetTable.below t.place j]?≠Δ j:=by intro e;unfold SetTable.slot at h;dsimp only at h;rw[e_ (by rw[e];exact beq_self_eq_true _)]at h;cases h
theorem has_none (j:Nat):SetTable.has #[] j=Ξ:=by unfold SetTable.has;rw[show(#[]:Array Nat)[SetTable.below #[] j]? = Φ by simp];rfl
theorem sA {t:SetTable}(hd:t.dummies = #[])(j:Nat):t.slot j≠.dummy:=by
 intro h;unfold SetTable.slot at h;dsimp only at h;rw[hd,has_none]at h;split at h
 ·cases h
 ·rw[d_ n_]at h;cases h
theorem vG (t:SetTable)(p:SetTable.Probe):(t.advance p).dummy=p.dummy:=by unfold SetTable.advance;split<;>rfl
theorem xc (hd:t.dummies = #[])  (hh:∀i,(f i == h)=Ξ):∀(fuel:Nat) (p:SetTable.Probe) (m:SetTable.Met),p.dummy=Φ->SetTable.probe.go t f h fuel p=Δ m->∃j,m=.empty j Φ/\t.slot j=.empty:=by
 intro fuel
 induction fuel with
 |zero=>intro p m _ e;cases e
 |succ n ih=>
  intro p m hp e;unfold SetTable.probe.go at e;cases hs:t.slot p.j with
  |empty=>rw[hs]at e;dsimp only at e;rw[hp]at e;cases e;exact⟨_,rfl,hs⟩
  |dummy=>exact absurd hs (sA hd _)
  |live i=>rw[hs]at e;dsimp only at e;rw[hh,d_ n_]at e;exact ih _ m (by rw[vG];exact hp) e
theorem vH {t:SetTable}(hd:t.dummies = #[]){h:Int}{j:Nat}{b:Bool}(e:t.freeSlot h=Δ (j,b)):t.slot j=.empty/\b=Ξ:=by
 unfold SetTable.freeSlot at e;cases q:t.probe (fun _=>h+1) h (t.probeStart h) with
 |none=>rw[q]at e;cases e
 |some m=>obtain⟨j',rfl,hs⟩:=xc hd (f:=fun _=>h+1) (h:=h) (fun i=>by rw[beq_eq_false_iff_ne];omega) _ _ m rfl q;rw[q]at e;cases e;exact⟨hs,rfl⟩
theorem lU (T:Tb led t)(n:Nat):Tb led (t.standIn n):=⟨xb n,rfl,T.ld⟩
theorem FI (T:Tb led t)(n:Nat):Tb led (t.orStandIn n):=by
 unfold SetTable.orStandIn;split
 ·exact T
 ·exact lU T n
theorem DF (T:Tb led t)  (hs:t.slot j=.empty):Tb led (t.put j).1:=by refine⟨DE T.up (mG T.up j) (sv hs),?_,T.ld⟩;show(if SetTable.has t.dummies j then _ else t.dummies) = #[];rw[T.dm,has_none];rfl
theorem DG (T:Tb led t)(es:Array (Int×Ψ))(h:Int)(x:Ψ):Tb led (layNew t es h x).2.1:=by
 unfold layNew;cases q:t.freeSlot h with
 |none=>exact lU T _
 |some p=>obtain⟨j,b⟩:=p;exact FI (DF T (vH T.dm q).1) _
theorem xf (o:Nat->Option Nat)(l:List Nat):((l.filterMap fun j=>(o j).map (j,·)).map (·.1))=l.filter fun j=>(o j).isSome:=by
 induction l with
 |nil=>rfl
 |cons a l ih=>
  rw[List.filterMap_cons,List.filter_cons];cases o a with
  |none=>simpa using ih
  |some b=>simpa using ih
theorem AE {l:List Nat}(h:l.Pairwise (· < ·)):Up l.toArray:=by
 intro i k x y UE hx hy;have K7:l[i]? = Δ x:=by simpa using hx
 have Mz:l[k]? = Δ y:=by simpa using hy
 obtain⟨h1,e1⟩:=x_.mp K7;obtain⟨h2,e2⟩:=x_.mp Mz;have:=List.pairwise_iff_getElem.mp h i k h1 h2 UE;omega
theorem AG {mask finger moves:Nat}{led plain:Bool}{hs:Array Int}{t:SetTable}{o:Array Nat}(e:SetTable.laid mask finger moves led plain hs=Δ (t,o)):Tb led t:=by
 unfold SetTable.laid at e;cases q:SetTable.layClean mask hs with
 |none=>rw[q]at e;cases e
 |some ow=>rw[q]at e;have e':=J_ e;cases e';refine⟨?_,rfl,rfl⟩;show Up (List.toArray (List.map _ (List.filterMap _ _)));rw[xf];exact AE (List.Pairwise.sublist List.filter_sublist List.pairwise_lt_range)
theorem xg (T:Tb led t)(es:Array (Int×Ψ))(n:Nat):Tb led (relayAll t es n).2.1:=by
 unfold relayAll;cases q:t.relaid (es.map (·.1)) n with
 |none=>exact lU T _
 |some p=>
  obtain⟨t',o⟩:=p;dsimp only;split
  ·have:=AG q;rw[T.ld]at this;exact this
  ·exact lU T _
theorem xh (T:Tb led t)(b:Bool):Tb led {t with plain:=b}:=⟨T.up,T.dm,T.ld⟩
theorem xj (f m:Nat)(led:Bool):Tb led (SetTable.fresh f m led):=⟨fun i k x y _ h=>by simp[SetTable.fresh]at h,rfl,rfl⟩
open PyProof.Rows
structure Ky (prog:Ε)(w:Β)(α:Type) [DecidableEq α] where
 knd:PySem.KeyKind prog w α
 mv:α->Tok->Ψ
 is:∀k t,knd.is k (mv k t)=Θ
 sc:∀k t,(mv k t).scannable=Θ
inductive Ar {α:Type}(mk:α->Tok->Ψ):List Ψ->List α->Prop
 | nil:Ar mk [] []
 | cons (n:α) (t:Tok) {vs:List Ψ}{ns:List α}:Ar mk vs ns->Ar mk (mk n t::vs) (n::ns)
theorem Ar.length (h:Ar mk vs ns):vs.length=ns.length:=by
 induction h with
 |nil=>rfl
 |cons _ _ _ ih=>rw[List.length_cons,List.length_cons,ih]
theorem Ar.at [Inhabited α]  : ∀ {vs:List Ψ}{ns:List α},Ar mk vs ns->∀(i:Nat) (v:Ψ),vs[i]? = Δ v->∃t,v=mk (ns.getD i default) t
 |_,_,.nil,i,v,h=>by simp at h
 |_,_,.cons n t hr,0,v,h=>by simp at h;exact⟨t,by rw[<- h];rfl⟩
 |_,_,.cons n t hr,i+1,v,h=>by simp only[aaG]at h;obtain⟨t',e⟩:=Ar.at hr i v h;exact⟨t',by rw[e];rfl⟩
section
variable {prog:Ε}{w:Β}{α:Type} [DecidableEq α] [Inhabited α]{ky:Ky prog w α}{A:Ι}{E:Ψ->Α->Prop}{s:Α}
noncomputable abbrev vals (es:Array (Int×Ψ)):List Ψ:=es.toList.map (·.2)
structure Kp {prog:Ε}{w:Β}{α:Type} [DecidableEq α](ky:Ky prog w α)(led:Bool)(σ:List α)(o:Obj)(es:Array (Int×Ψ))(ep:Nat)(t:SetTable):Prop where
 ex:o.ExactSet
 da:o.data=.set es ep t
 el:ElemsOf ky.knd es.toList
 sb:es.size < scanBound
 fi:t.fits es.size=Θ
 tb:Tb led t
 pm:∃ks,Ar ky.mv (vals es) ks/\ks.Perm σ
def kQ {prog:Ε}{w:Β}{α:Type} [DecidableEq α](ky:Ky prog w α)(h:Heap)(a:Ω)(led:Bool)(σ:List α):Prop:=∃o es ep t,h.get? a=Δ o/\Kp ky led σ o es ep t
theorem lV (p:UG.Perm vs)(h:Ar ky.mv vs ks):∃LK,Ar ky.mv UG LK/\LK.Perm ks:=by
 induction p generalizing ks with
 |nil=>exact⟨ks,h,.refl _⟩
 |cons x _ ih=>
  cases h with
  |cons n t h=>obtain⟨LK,h1,h2⟩:=ih h;exact⟨n::LK,.cons n t h1,.cons n h2⟩
 |swap x y l=>
  cases h with
  |cons n t h=>
   cases h with
   |cons m u h=>exact⟨m::n::_,.cons m u (.cons n t h),.swap n m _⟩
 |trans _ _ Zu UH=>obtain⟨k1,a1,b1⟩:=UH h;obtain⟨k2,a2,b2⟩:=Zu a1;exact⟨k2,a2,b2.trans b1⟩
theorem xk (h:Ar ky.mv vs ks):Ar ky.mv (vs++[ky.mv k t]) (ks++[k]):=by
 induction h with
 |nil=>exact .cons k t .nil
 |cons n u _ ih=>exact .cons n u ih
theorem xl {es:List (Int×Ψ)}{ks:List α}{k:α}(h:Ar ky.mv (es.map (·.2)) ks):es.any (fun e=>ky.knd.is k e.2)=ks.any (· == k):=by
 induction es generalizing ks with
 |nil=>cases h;rfl
 |cons e es ih=>
  obtain⟨c,v⟩:=e;cases h with
  |cons n t h=>
   rw[List.any_cons,List.any_cons,ih h,KeyKind.is_eq_decide (ky.is n t) k];congr 1;by_cases q:k=n
   ·subst q;simp
   ·simp[q,show ¬n=k from fun z=>q z.symm]
theorem store {h:Heap}{a:Ω}{led:Bool}{σ JC:List α}{o:Obj}{es es':Array (Int×Ψ)}{ep:Nat}{t t':SetTable}(ho:h.get? a=Δ o)(D:Kp ky led σ o es ep t)
  (el:ElemsOf ky.knd es'.toList) (sb:es'.size < scanBound) (fi:t'.fits es'.size=Θ) (tb:Tb led t') (pm:∃ks,Ar ky.mv (vals es') ks/\ks.Perm JC) :
  (h.update a (Obj.putSet es' t')).get? a=Δ {o with data:=.set es' (ep+1) t'}/\Kp ky led JC {o with data:=.set es' (ep+1) t'} es' (ep+1) t':=
 ⟨(SetOf_store (knd:=ky.knd) (S':=fun k=>es'.toList.any fun e=>ky.knd.is k e.2) ho D.ex D.da el (fun k=>by rw[List.any_eq_true]) sb fi).1,D.ex,rfl,el,sb,fi,tb,pm⟩
theorem qS {a:Ω}{led:Bool}{σ JC:List α}{o:Obj}{es KW:Array (Int×Ψ)}{ep:Nat}{t t2:SetTable}{b:Bool}{g:Bool->Sem Unit}(hg:∀(b:Bool)(JA:Α)(Q':Unit->Α->Prop),Q' () JA->Κ (Μ prog w) A (g b) Q' E JA)
  (ho:s.heap.get? a=Δ o) (D:Kp ky led σ o es ep t) (el:ElemsOf ky.knd KW.toList) (sb:KW.size < scanBound) (fi:t2.fits KW.size=Θ) (tb:Tb led t2) (pm:∃ks,Ar ky.mv (vals KW) ks/\ks.Perm JC)
  {R:Option Bool->Α->Prop} (h:∀h',Heap.SameBut a s.heap h'->kQ ky h' a led JC->R (Δ Θ) {s with heap:=h'}) :
  Κ (Μ prog w) A (do
    storeSet a KW t2
    if(!b&&t2.tooFull)=Θ then do
      g (relayAll t2 KW (SetTable.grown KW.size)).2.2
      storeSet a (relayAll t2 KW (SetTable.grown KW.size)).1 (relayAll t2 KW (SetTable.grown KW.size)).2.1
      pure (Δ Θ)
     else pure (Δ Θ)) R E s:=by
 obtain⟨g1,D1⟩:=store ho D el sb fi tb pm;have b1:=aaB s.heap a (Obj.putSet KW t2);refine a_ (wpAny_storeSet_of ho D.da ?_ (fits_of_scanBound sb));split
 ·have p2:=relayAll_perm t2 KW (SetTable.grown KW.size);have f2:=relayAll_fits t2 KW (SetTable.grown KW.size);have u2:=xg tb KW (SetTable.grown KW.size);generalize relayAll t2 KW (SetTable.grown KW.size)=Z at p2 f2 u2 ⊢;obtain⟨W8,t3,gv⟩:=Z;dsimp only at p2 f2 u2 ⊢;have sz:W8.size=KW.size:=by rw[<- O_,p2.length_eq,O_]
  have W':W8.size < scanBound:=by rw[sz];exact sb
  obtain⟨ks,k1,k2⟩:=pm;obtain⟨LK,k3,k4⟩:=lV (p2.map (·.2)) k1;obtain⟨g2,D2⟩:=store g1 D1 (el.perm p2) W' f2 u2 ⟨LK,k3,k4.trans k2⟩;refine a_ (hg _ _ _ (a_ (wpAny_storeSet_of g1 rfl ?_ (fits_of_scanBound W'))));exact f_ (h _ (b1.trans (aaB _ a _)) ⟨_,_,_,_,g2,D2⟩)
 ·exact f_ (h _ b1 ⟨_,_,_,_,g1,D1⟩)
theorem add_int (hS:kQ ky s.heap a led σ)(hr:σ.length+1 < scanBound)
  (h:∀h',Heap.SameBut a s.heap h'->kQ ky h' a led (step_dedup σ k)->∀b,Q b {s with heap:=h'}) :
  Κ (Μ prog w) A (setAddHashed a (ky.mv k tk) (ky.knd.hash k)) Q E s:=by
 obtain⟨o,es,ep,t,ho,D⟩:=hS;obtain⟨ks,k1,k2⟩:=D.pm;have lk:es.size=ks.length:=by have:=Ar.length k1;rw[i_,O_]at this;exact this
 have Rh:es.toList.any (fun e=>ky.knd.is k e.2)=σ.any (· == k):=(xl k1).trans (k2.any_eq);unfold setAddHashed setAddHashedIn;refine M_ (a_ (wpAny_setState_of ho D.da D.fi ?_));dsimp only;rw[byScan_of (x:=ky.mv k tk) (ky.sc k tk) D.sb D.el,e_ rfl];unfold setAddByScan;refine a_ (a_ (wpAny_rule (a_ (wpAny_setScan_of (ky.is k tk) ho D.da D.fi D.el ?_))));cases hq:List.findIdx? (fun e=>ky.knd.is k e.2) es.toList with
 |some j=>
  dsimp only;obtain⟨hj,Zv,_⟩:=List.findIdx?_eq_some_iff_getElem.mp hq;have Q7:σ.any (· == k)=Θ:=by rw[<- Rh,List.any_eq_true];exact⟨_,aax hj,Zv⟩
  have e2:step_dedup σ k=σ:=by unfold step_dedup;rw[e_ Q7]
  refine f_ (f_ ?_);have z:=h s.heap (Heap.SameBut.refl a s.heap) (by rw[e2];exact⟨o,es,ep,t,ho,D⟩) Ξ;cases s;exact z
 |none=>
  dsimp only;have UI:σ.any (· == k)=Ξ:=by rw[<- Rh,List.any_eq_false];intro e he;have:=List.findIdx?_eq_none_iff.mp hq e he;rw[this];exact n_
  have e2:step_dedup σ k=σ++[k]:=by unfold step_dedup;rw[d_ (by rw[UI];exact n_)]
  have p1:=layNew_perm t es (ky.knd.hash k) (ky.mv k tk);have f1:=layNew_fits t es (ky.knd.hash k) (ky.mv k tk);have u1:=DG D.tb es (ky.knd.hash k) (ky.mv k tk);generalize layNew t es (ky.knd.hash k) (ky.mv k tk)=L at p1 f1 u1 ⊢;obtain⟨KW,t1,wd,gv⟩:=L;dsimp only at p1 f1 u1 ⊢;rw[Array.toList_push]at p1;have Xa:ElemsOf ky.knd KW.toList:=(D.el.push (ky.is k tk) (ky.sc k tk)).perm p1;have Zw:KW.size=es.size+1:=by rw[<- O_,p1.length_eq,o_,O_];rfl
  have Xb:KW.size < scanBound:=by rw[Zw,lk,k2.length_eq];exact hr
  have Xc:∃LK,Ar ky.mv (vals KW) LK/\LK.Perm (step_dedup σ k):=by obtain⟨LK,k3,k4⟩:=lV (p1.map (·.2)) (by rw[N_];exact xk (k:=k) (t:=tk) k1);exact⟨LK,k3,k4.trans (by rw[e2];exact k2.append_right _)⟩
  refine a_ ((show ∀(b:Bool) (JA:Α) (Q':Unit->Α->Prop),Q' () JA->Κ (Μ prog w) A (match b with|true=>rule "set.scan.the-table-gave-way" |false=>pure ()) Q' E JA from fun b JA Q' hq=>by cases b<;>first|exact f_ hq|exact wpAny_rule hq) _ _ _ ?_);have fin:∀h',Heap.SameBut a s.heap h'->kQ ky h' a led (step_dedup σ k)->Κ (Μ prog w) A (pure Θ) Q E {s with heap:=h'}:=fun h' hb KC=>f_ (h h' hb KC Θ);split
  ·rw[hashByValue_scannable 8 (x:=ky.mv k tk) (ky.sc k tk)];refine a_ (f_ (qS ?_ ho D Xa Xb ?_ ?_ Xc fun h' hb KC=>?_))
   ·intro b JA Q' hq;cases b<;>first|exact f_ hq|exact wpAny_rule hq
   ·split
    ·exact f1
    ·exact SetTable.fits_plain_off f1
   ·split
    ·exact u1
    ·exact xh u1 _
   ·exact fin h' hb KC
  ·refine a_ (f_ ?_);rw[e_ rfl];refine qS ?_ ho D Xa Xb f1 u1 Xc fun h' hb KC=>fin h' hb KC;intro b JA Q' hq;cases b<;>first|exact f_ hq|exact wpAny_rule hq
end
noncomputable abbrev jt (w:Β):Bool:=w.params.followText "set-order"
section
variable {prog:Ε}{w:Β}{α:Type} [DecidableEq α] [Inhabited α]{ky:Ky prog w α}{A:Ι}{E:Ψ->Α->Prop}{s:Α}{R:Result->Α->Prop}{I:Ω}{fp wr:List Ω}{G:Array GenState->Array GenState->Prop}{n:Nat}{P:Nat->Ψ->Prop}{St:Nat->Α->Prop}
theorem kQ.moved (hS:kQ ky h a led σ)(k:∀o,h.get? a=Δ o->h'.get? a=Δ o):kQ ky h' a led σ:=by obtain⟨o,es,ep,t,ho,D⟩:=hS;exact⟨o,es,ep,t,k o ho,D⟩
theorem Km (l:List α):∀σ:List α,(l.foldl step_dedup σ).length<=σ.length+l.length:=fun σ=>foldl_step_dedup_length_le σ l
theorem loop (W:WalksS prog w A.in1 I fp wr G n P St)(a:Ω)(ha:a∉fp){led:Bool}{ns:List α}(hv:∀i v,P i v->∃t,v=ky.mv (ns.getD i default) t)(hn:ns.length=n)(hb:n+1 < scanBound) :
  ∀(k i:Nat) (s:Α),n - i=k->i<=n->St i s->kQ ky s.heap a led ((ns.take i).foldl step_dedup [])->
   (∀s',Moved (a::wr) G s s'->kQ ky s'.heap a led (ns.foldl step_dedup [])->R (.ok (.ret .none)) s')->
   codeAny (Μ prog w) A (.builtin "set.update.loop" ⟨[.ref a,.ref I],[]⟩) R s:=by
 have Xd:a∉wr:=fun z=>ha (W.sub _ z);have sub:∀b∈wr,b∈a::wr:=fun b z=>H_ _ z;intro k
 induction k with
 |zero=>
  intro i s hk hi Ke hS hR;have e:i=n:=by omega
  subst e;rw[<- hn,List.take_length]at hS;refine codeAny_builtin F.entry_set_update_loop ?_;rw[aaw F.plain_set_update_loop _];show Κ _ A.in1 (pyNext (.ref I) >>= _) _ _ s;exact a_ (W.done s _ _ Ke fun s' hm=>show Κ _ A.in1 (ret Value.none) _ _ s' from f_ (hR s' (hm.mono sub) (hS.moved fun o e=>hm.heap a o Xd e)))
 |succ k ih=>
  intro i s hk hi Ke hS hR;have JU:i < n:=by omega
  refine codeAny_builtin F.entry_set_update_loop ?_;rw[aaw F.plain_set_update_loop _];show Κ _ A.in1 (pyNext (.ref I) >>= _) _ _ s;refine a_ (W.item i s _ _ JU Ke fun v s' hP JW hm=>?_);obtain⟨t,rfl⟩:=hv i v hP;have UJ:kQ ky s'.heap a led ((ns.take i).foldl step_dedup []):=hS.moved fun o e=>hm.heap a o Xd e;show Κ _ A.in1 (holding [ky.mv (ns.getD i default) t] (setAdd a (ky.mv (ns.getD i default) t)) >>= _) _ _ s';unfold setAdd;refine a_ (M_ (M_ (a_ (ky.knd.pyHash (ky.is _ _) ?_))));have hlen:=Km (ns.take i) [];rw[aaz,List.length_nil]at hlen;refine add_int (s:={s' with toks:=s'.toks+1}) UJ (by omega) fun h' QY S2 b=>?_;have et:(ns.take (i+1)).foldl step_dedup []=step_dedup ((ns.take i).foldl step_dedup []) (ns.getD i default):=by
   have Ln:i < ns.length:=by omega
   rw[List.take_succ,List.foldl_append,v_ Ln,Z_,v_ Ln];rfl
  rw[<- et]at S2;refine f_ ⟨plainId_quiet F.plain_set_update_loop _,ih (i+1) _ (by omega) JU (W.frame _ s' _ _ JW (Nat.le_succ _) fun b hb o e=>?_) S2 fun M8 Ph UK=>?_⟩
  ·rw[QY.2 b fun z=>ha (z ▸ hb)];exact e
  ·refine hR M8 (Moved.trans W.gtrans ((hm.mono sub).then_heap (Nat.le_succ _) fun b o hb e=>?_) Ph) UK;rw[QY.2 b fun z=>hb (z ▸ aaD)];exact e
theorem xn (x:Ψ)  (h:Q1 (.ref s.heap.objs.size) {s with heap:=s.heap.push {cls:=.type "set",dict:=Φ,data:=.set #[] 0 (.fresh 0 0 (!jt w))}}) :
  codeAny (Μ prog w) A (.call (.builtin "set.__new__") ⟨[.type "set",x],[]⟩) (wants Q1 E) s:=by
 refine codeAny_of_tree (show Κ _ A.in1 (do checkBuiltinCall "set.__new__" ⟨[.type "set",x],[]⟩;again (.builtin "set.__new__" ⟨[.type "set",x],[]⟩)) _ _ s from a_ (wpAny_of_eq (F.newCall_set_1 x) (f_ ⟨plainId_quiet F.plain_set_new _,codeAny_builtin F.entry_set_new ?_⟩)));rw[aaw F.plain_set_new _];unfold Builtin.«set.__new__» Builtin.Frozenset.newClass;have hs1:=sub_set_self;obtain⟨hp,g,d,tk,os⟩:=s;dsimp only
 wp_walk
 refine wpAny_askSetting (f_ ?_);dsimp only;simp only[newObj];exact a_ (wpAny_alloc (f_ (f_ h)))
end
section
variable {prog:Ε}{w:Β}{α:Type} [DecidableEq α] [Inhabited α]{ky:Ky prog w α}{A:Ι}{E:Ψ->Α->Prop}{s:Α}
noncomputable abbrev oS (w:Β):Obj:={cls:=.type "set",dict:=Φ,data:=.set #[] 0 (.fresh 0 0 (!jt w))}
theorem vI (h:Heap):kQ ky (h.push (oS w)) h.objs.size (!jt w) []:=
 ⟨_,#[],0,_,u_ _ rfl,⟨rfl,rfl,rfl⟩,rfl,fun e he=>by simp at he,by decide,rfl,xj _ _ _,[],.nil,.refl _⟩
theorem xo {l:Ω}{items:Array Ψ}{ns:List α}{Q:Ψ->Α->Prop}(hh:A.handled=Φ)(hl:s.heap.IsList l items)(hi:Ar ky.mv items.toList ns)(hb:items.size+1 < scanBound)
  (h:∀(h':Heap) (tk:Nat),kQ ky h' s.heap.objs.size (!jt w) (ns.foldl step_dedup [])->(∀b o,b < s.heap.objs.size->s.heap.get? b=Δ o->h'.get? b=Δ o)->Q (.ref s.heap.objs.size) {s with heap:=h',toks:=tk}) :
  Κ (Μ prog w) A (call (.type "set") [.ref l]) Q E s:=by
 obtain⟨c,tl,mro⟩:=F.called_set.mro;have made:=F.called_set.made;have sub:=F.called_set.sub;refine wpAny_call (codeAny_of_tree (show Κ _ _ (callAny (.type "set") _) _ _ _ from f_ ⟨Code.quiet_builtin _ (by decide +kernel),codeAny_builtin F.entry_type_call ?_⟩));rw[Around.under_plain (weight_type_call_type "set" [.ref l] []) rfl];have n1:=F.called_set.notType;have n2:=F.called_set.canCreate;have n3:=F.typeCall_set_1 (.ref l)
 repeat (any_goals (first|assumption|wp_step))
 refine codeAny_mono (xn (.ref l) (E:=E) (Q1:=fun obj s1=>obj=.ref s.heap.objs.size/\s1 = {s with heap:=s.heap.push (oS w)}) ⟨rfl,rfl⟩) fun r s1 hr=>?_;cases r with
 |error e=>exact hr
 |ok fl=>
  cases fl with
  |ret obj=>
   obtain⟨rfl,rfl⟩:=hr;have gS:(s.heap.push (oS w)).get? s.heap.objs.size=Δ (oS w):=u_ _ rfl;have hT:Shared.TypeIs {s with heap:=s.heap.push (oS w)} (.ref s.heap.objs.size) "set":=⟨_,gS,rfl⟩
   have i1:=F.called_set.init.lookup;have i2:=F.called_set.init.bind (.ref s.heap.objs.size)
   repeat (any_goals (first|assumption|wp_step))
   refine codeAny_mono (codeAny_call_builtin (R:=wants (fun r s2=>r=.none/\∃h' tk,s2 = {s with heap:=h',toks:=tk}/\kQ ky h' s.heap.objs.size (!jt w) (ns.foldl step_dedup [])/\
     (∀b o,b < s.heap.objs.size->s.heap.get? b=Δ o->h'.get? b=Δ o)) E) F.called_set.init.plain F.entry_set_init (check_set_init_1 hT ?_)) fun r2 s2 UL=>?_
   ·obtain⟨ol,Xe,Xf,nl,Xg⟩:=hl;obtain⟨Zx,Ri,Xh,Pj⟩:=ol;simp only at Xf Xg;subst Xf;subst Xg;have UM:(s.heap.push (oS w)).get? l=Δ {cls:=.type "list",dict:=Ri,data:=.seq items nl,slots:=Pj}:=l_ _ Xe;have w1:=F.sub_list_set;have w2:=F.sub_list_frozenset;have w3:(Value.type "list" == Value.type "dict")=Ξ:=by decide
    have S3:(s.heap.push (oS w)).IsList l items:=⟨_,UM,rfl,nl,rfl⟩
    unfold Builtin.«set.__init__» noKeywords Builtin.Frozenset.updateFrom;generalize Zy:pyIter=PI
    wp_walk
    subst Zy;refine aav S3 (a_ (wpAny_runValue ?_));have lS:l < s.heap.objs.size:=j_ Xe;have nI:l≠(s.heap.push (oS w)).objs.size:=by rw[aaa];exact p_ (Nat.lt_succ_of_lt lS)
    have aS:s.heap.objs.size∉[(s.heap.push (oS w)).objs.size,l]:=by
     rw[aaa];intro z;rcases k_.mp z with z|z
     ·exact p_ (Nat.lt_succ_self _) z
     ·exact U_ lS (w_.mp z)
    have hlen:ns.length=items.size:=by have:=Ar.length hi;rw[O_]at this;exact this.symm
    refine loop ((Walks.list (show A.in1.in1.in1.handled=Φ by simp[hh]) _ l nI items).toS) s.heap.objs.size aS (ns:=ns) (fun i v hv=>Ar.at hi i v (by rw[aam];exact hv)) hlen hb (items.size - 0) 0 _ (by omega) (Y_ _)
     ⟨⟨_,u_ _ rfl,rfl,rfl⟩,(S3.push _)⟩ ((vI s.heap).moved fun o e=>l_ _ e) ?_
    intro s' hm KC;obtain⟨h',g',d',Zz,Uc⟩:=s';have eg:g'=s.gens:=hm.gens;have ed:d'=s.drawn:=hm.drawn;have eo:Uc=s.os:=hm.os;subst eg ed eo;show Κ _ _ _ _ _ _;refine f_ (show Κ _ _ (ret Value.none) _ _ _ from f_ ⟨rfl,h',Zz,rfl,KC,fun b o hb e=>?_⟩);refine hm.heap b o (fun z=>?_) (l_ _ (l_ _ e));rcases k_.mp z with z|z
    ·exact p_ hb z
    ·have:=w_.mp z;rw[aaa]at this;exact p_ (Nat.lt_succ_of_lt hb) this
   ·cases r2 with
    |error e=>exact UL
    |ok ZA=>
     cases ZA with
     |ret r=>
      obtain⟨rfl,h',tk,rfl,KC,N2⟩:=UL
      repeat (any_goals (first|assumption|wp_step))
      exact h _ _ KC N2
     |_=>exact UL.elim
  |_=>exact hr.elim
end
theorem iO:Slot "set_iterator" "__next__" "set_iterator.__next__":=.of (owner:="set_iterator") (n:="__next__")
 (by rw[typeLookup_type,builtinLookup_eq_fast];kernel_rfl) (by decide +kernel) (by decide +kernel) (by decide +kernel) (by first|exact .inl (by decide +kernel)|exact .inr (by decide +kernel)) (by rw[isSubtype_type];kernel_rfl)
theorem lu:Slot "set_iterator" "__iter__" "set_iterator.__iter__":=.of (owner:="set_iterator") (n:="__iter__")
 (by rw[typeLookup_type,builtinLookup_eq_fast];kernel_rfl) (by decide +kernel) (by decide +kernel) (by decide +kernel) (by first|exact .inl (by decide +kernel)|exact .inr (by decide +kernel)) (by rw[isSubtype_type];kernel_rfl)
theorem jI:entryFor table "set_iterator.__next__" = Δ Builtin.«set_iterator.__next__»:=entryFor_of_tree (by kernel_rfl)
theorem jR (a:Ψ):argsOk "set_iterator.__next__" ⟨[a],[]⟩:=by unfold argsOk;kernel_rfl
theorem p4:entryFor table "set.__iter__" = Δ Builtin.«frozenset.__iter__»:=
 entryFor_alias (id':="frozenset.__iter__") (by kernel_rfl) (by first|rfl|decide +kernel|(unfold String.splitOn;simp +decide [String.splitOnAux])) (by decide +kernel) (by kernel_rfl)
section
variable {prog:Ε}{w:Β}{α:Type} [DecidableEq α] [Inhabited α]{ky:Ky prog w α}{A:Ι}{E:Ψ->Α->Prop}{s:Α}
noncomputable abbrev Nh (first:Ψ)(i n:Nat)(a:Ω)(ep:Nat):Obj:={cls:=.type "set_iterator",data:=.fields #[first,rawInt i,.ref a,rawInt n,rawInt ep]}
theorem nk (h:Q (jt w) s):Κ (Μ prog w) A setsByText Q E s:=by unfold setsByText;exact a_ (wpAny_askSetting (f_ h))
theorem vJ {a:Ω}{σ:List α}{o:Obj}{es:Array (Int×Ψ)}{ep:Nat}{t:SetTable}{led:Bool}{Q:Array (Int×Ψ)->Α->Prop}(hb:jt w=Θ)(ho:s.heap.get? a=Δ o)(D:Kp ky led σ o es ep t)
  (h:Q (pickOrder (w.params.setOrder a ep) es) s):Κ (Μ prog w) A (setWalk a) Q E s:=by
 unfold setWalk;refine a_ (wpAny_setState_of ho D.da D.fi ?_);dsimp only;refine a_ (nk ?_);rw[hb,e_ rfl];exact a_ (wpAny_askSetting (f_ h))
theorem pF {a:Ω}{σ:List α}{o:Obj}{es:Array (Int×Ψ)}{ep slot i:Nat}{t:SetTable}{led:Bool}{Q:Option (Ψ×Nat)->Α->Prop}(hb:jt w=Θ)(ho:s.heap.get? a=Δ o)(D:Kp ky led σ o es ep t)
  (h:Q (((pickOrder (w.params.setOrder a ep) es)[i]?).map fun e=>(e.2,slot)) s):Κ (Μ prog w) A (setNext a slot i ep) Q E s:=by
 unfold setNext;refine a_ (wpAny_setState_of ho D.da D.fi ?_);dsimp only;refine a_ (nk ?_);rw[hb,e_ rfl];rw[d_ (by rw[bne_self_eq_false];exact n_)];exact a_ (vJ hb ho D (f_ h))
theorem nP {a:Ω}{σ:List α}{o:Obj}{es:Array (Int×Ψ)}{ep slot i:Nat}{t:SetTable}{Q:Option (Ψ×Nat)->Α->Prop}(hb:jt w=Ξ)(ho:s.heap.get? a=Δ o)(D:Kp ky (!jt w) σ o es ep t)
  (hd:(!t.plain&&decide (es.size > 1))=Ξ)
  (h:Q (match es[SetTable.below t.place slot]?,t.place[SetTable.below t.place slot]? with
   |some (_,x),Δ j=>Δ (x,j+1)
   |_,_=>Φ) s):Κ (Μ prog w) A (setNext a slot i ep) Q E s:=by
 unfold setNext;refine a_ (wpAny_setState_of ho D.da D.fi ?_);dsimp only;refine a_ (nk ?_);rw[hb,d_ n_];refine a_ (f_ ?_);show Κ _ _ (if(!t.plain&&decide (es.size > 1))=Θ then _ else _) _ _ _;rw[hd,d_ n_];have hl:t.led=Θ:=by rw[D.tb.ld,hb];rfl
 show Κ _ _ ((if(!t.led&&!es.isEmpty)=Θ then _ else _) >>= _) _ _ _;rw[hl];exact a_ (f_ (f_ h))
end
section
variable {prog:Ε}{w:Β}{α:Type} [DecidableEq α] [Inhabited α]{ky:Ky prog w α}{A:Ι}{E:Ψ->Α->Prop}{s:Α}{it a:Ω}{i n ep slot:Nat}{σ:List α}{o:Obj}{es:Array (Int×Ψ)}{t:SetTable}{led:Bool}
theorem stop {M:Model}{A:Ι}{h:Heap}{hh:A.handled=Φ}{R:Fin->Α->Prop}{R':Ψ->Α->Prop}(hQ:∀h' e,(∀b o,s.heap.get? b=Δ o->h'.get? b=Δ o)->(∃o,h'.get? e=Δ o/\o.cls=.type "StopIteration")->R' (.ref e) {s with heap:=h'}) :
  Κ M A (do raiseNew (<- newExc (.type "StopIteration") [])) R R' s:=by
 refine a_ ?_;simp only[newExc,newTuple];refine a_ (aao ?_ (by size_fits));refine a_ (m:=firstArgMember _ _) (wpAny_of_eq (a:=Value.none) (by first|rfl|(simp only[firstArgMember];rfl)) (aao ?_ (by size_fits)));simp only[raiseNew];refine a_ (wpAny_handled ?_);rw[hh];exact a_ (f_ (wpAny_throw (hQ _ _ (fun b o e=>l_ _ (l_ _ e)) ⟨_,u_ _ rfl,rfl⟩)))
theorem tO {nx:Nat}{x:Ψ}(hit:s.heap.get? it=Δ (Nh (rawInt slot) i n a ep))(ho:s.heap.get? a=Δ o)(D:Kp ky led σ o es ep t)(hn:es.size=n)
  (hs:∀(A':Ι) (E':Ψ->Α->Prop) (Q':Option (Ψ×Nat)->Α->Prop),Q' (Δ (x,nx)) s->Κ (Μ prog w) A' (setNext a slot i ep) Q' E' s) {Q:Option Ψ->Α->Prop}
  (h:∀h',h'.get? it=Δ (Nh (rawInt nx) (i+1) n a ep)->Heap.SameBut it s.heap h'->Q (Δ x) {s with heap:=h'}):Κ (Μ prog w) A (pyNext (.ref it)) Q E s:=by
 have hT:s.TypeIs (.ref it) "set_iterator":=⟨_,hit,rfl⟩
 unfold pyNext;refine a_ (wpAny_attempt (wpAny_callSpecial?_slot (name:=Ρ "__next__") hT iO (aab iO hT jI ?_ (jR _))));show Κ _ _ (fieldsOf (.ref it) >>= _) _ _ s;refine a_ (wpAny_fieldsOf hit rfl ?_);show Κ _ _ (setEntries a >>= _) _ _ s;refine a_ (wpAny_setEntries_of ho D.da D.fi ?_);rw[d_ (by rw[hn];simp)];show Κ _ _ (setNext a slot i ep >>= _) _ _ s;refine a_ (hs _ _ _ ?_);show Κ _ _ (setField (.ref it) 0 (rawInt nx) >>= _) _ _ s;refine a_ (aae hit (by simp) fun h1 g1 b1=>?_);refine a_ (aae g1 (by simp) fun h2 g2 b2=>?_);exact f_ ⟨x,rfl,f_ (h h2 g2 (b1.trans b2))⟩
theorem tU (hh:A.handled=Φ)(hit:s.heap.get? it=Δ (Nh (rawInt slot) i n a ep))(ho:s.heap.get? a=Δ o)(D:Kp ky led σ o es ep t)(hn:es.size=n)
  (hs:∀(A':Ι) (E':Ψ->Α->Prop) (Q':Option (Ψ×Nat)->Α->Prop),Q' Φ s->Κ (Μ prog w) A' (setNext a slot i ep) Q' E' s) {Q:Option Ψ->Α->Prop}
  (h:∀h',(∀b o,b≠it->s.heap.get? b=Δ o->h'.get? b=Δ o)->Q Φ {s with heap:=h'}):Κ (Μ prog w) A (pyNext (.ref it)) Q E s:=by
 have hT:s.TypeIs (.ref it) "set_iterator":=⟨_,hit,rfl⟩
 unfold pyNext;refine a_ (wpAny_attempt (wpAny_callSpecial?_slot (name:=Ρ "__next__") hT iO (aab iO hT jI ?_ (jR _))));show Κ _ _ (fieldsOf (.ref it) >>= _) _ _ s;refine a_ (wpAny_fieldsOf hit rfl ?_);show Κ _ _ (setEntries a >>= _) _ _ s;refine a_ (wpAny_setEntries_of ho D.da D.fi ?_);rw[d_ (by rw[hn];simp)];show Κ _ _ (setNext a slot i ep >>= _) _ _ s;refine a_ (hs _ _ _ ?_);show Κ _ _ (setField (.ref it) 2 .none >>= _) _ _ s;refine a_ (aae hit (by simp) fun h1 g1 b1=>?_);refine stop (h:=h1) (hh:=show A.in1.handled=Φ from hh) (s:={s with heap:=h1}) fun h' e k he=>?_;obtain⟨oe,ge,ce⟩:=he;refine a_ (wpAny_isInstance (T:="StopIteration") (b:=Θ) ⟨_,ge,ce⟩ isSubtype_stop ?_);exact f_ (h h' fun b o hb e=>k b o (b1.extBut b o hb e))
end
section
variable {prog:Ε}{w:Β}{α:Type} [DecidableEq α] [Inhabited α]{ky:Ky prog w α}{A:Ι}{E:Ψ->Α->Prop}{s:Α}{it a T:Ω}{i n ep slot:Nat}{σ:List α}{o:Obj}{es:Array (Int×Ψ)}{t:SetTable}{led:Bool}
noncomputable abbrev Pk (ps:List Nat):Obj:={cls:=.type "tuple",data:=.seq (ps.map fun(k:Nat)=>rawInt k).toArray}
theorem sC {pl:Nat}{c:Int}{x:Ψ}{Q:Ψ->Α->Prop}(ho:s.heap.get? a=Δ o)(D:Kp ky led σ o es ep t)(he:es[pl]? = Δ (c,x))(h:Q x s):Κ (Μ prog w) A (setNextDrawn a pl ep) Q E s:=by unfold setNextDrawn;refine a_ (wpAny_setState_of ho D.da D.fi ?_);dsimp only;rw[d_ (by rw[bne_self_eq_false];exact n_)];rw[he];exact f_ h
theorem xp {ps:List Nat}{pl:Nat}{c:Int}{x:Ψ}(hit:s.heap.get? it=Δ (Nh (.ref T) i n a ep))(hT:s.heap.get? T=Δ (Pk ps))(ho:s.heap.get? a=Δ o)(D:Kp ky led σ o es ep t)(hn:es.size=n)
  (hp:ps[i]? = Δ pl) (he:es[pl]? = Δ (c,x)) {Q:Option Ψ->Α->Prop}
  (h:∀h',h'.get? it=Δ (Nh (.ref T) (i+1) n a ep)->Heap.SameBut it s.heap h'->Q (Δ x) {s with heap:=h'}):Κ (Μ prog w) A (pyNext (.ref it)) Q E s:=by
 have Rj:s.TypeIs (.ref it) "set_iterator":=⟨_,hit,rfl⟩
 unfold pyNext;refine a_ (wpAny_attempt (wpAny_callSpecial?_slot (name:=Ρ "__next__") Rj iO (aab iO Rj jI ?_ (jR _))));show Κ _ _ (fieldsOf (.ref it) >>= _) _ _ s;refine a_ (wpAny_fieldsOf hit rfl ?_);show Κ _ _ (setEntries a >>= _) _ _ s;refine a_ (wpAny_setEntries_of ho D.da D.fi ?_);rw[d_ (by rw[hn];simp)];show Κ _ _ (seqItems? (.ref T) >>= _) _ _ s;refine a_ (aad hT rfl ?_);dsimp only;have e:((ps.map fun(k:Nat)=>rawInt k).toArray)[((i:Nat):Int).toNat]? = Δ (rawInt pl):=by simp[hp]
 rw[e];show Κ _ _ (setNextDrawn a pl ep >>= _) _ _ s;refine a_ (sC ho D he ?_);refine a_ (aae hit (by simp) fun h1 g1 b1=>?_);exact f_ ⟨x,rfl,f_ (h h1 g1 b1)⟩
theorem xq {ps:List Nat}(hh:A.handled=Φ)(hit:s.heap.get? it=Δ (Nh (.ref T) i n a ep))(hT:s.heap.get? T=Δ (Pk ps))(ho:s.heap.get? a=Δ o)(D:Kp ky led σ o es ep t)(hn:es.size=n)
  (hp:ps[i]? = Φ) {Q:Option Ψ->Α->Prop}
  (h:∀h',(∀b o,b≠it->s.heap.get? b=Δ o->h'.get? b=Δ o)->Q Φ {s with heap:=h'}):Κ (Μ prog w) A (pyNext (.ref it)) Q E s:=by
 have Rj:s.TypeIs (.ref it) "set_iterator":=⟨_,hit,rfl⟩
 unfold pyNext;refine a_ (wpAny_attempt (wpAny_callSpecial?_slot (name:=Ρ "__next__") Rj iO (aab iO Rj jI ?_ (jR _))));show Κ _ _ (fieldsOf (.ref it) >>= _) _ _ s;refine a_ (wpAny_fieldsOf hit rfl ?_);show Κ _ _ (setEntries a >>= _) _ _ s;refine a_ (wpAny_setEntries_of ho D.da D.fi ?_);rw[d_ (by rw[hn];simp)];show Κ _ _ (seqItems? (.ref T) >>= _) _ _ s;refine a_ (aad hT rfl ?_);dsimp only;have e:((ps.map fun(k:Nat)=>rawInt k).toArray)[((i:Nat):Int).toNat]? = Φ:=by have:=hp;simp at this ⊢;exact this
 rw[e];show Κ _ _ (setField (.ref it) 0 (rawInt 0) >>= _) _ _ s;refine a_ (aae hit (by simp) fun h1 g1 b1=>?_);refine a_ (aae g1 (by simp) fun h2 g2 b2=>?_);refine stop (h:=h2) (hh:=show A.in1.handled=Φ from hh) (s:={s with heap:=h2}) fun h' e k he=>?_;obtain⟨oe,ge,ce⟩:=he;refine a_ (wpAny_isInstance (T:="StopIteration") (b:=Θ) ⟨_,ge,ce⟩ isSubtype_stop ?_);exact f_ (h h' fun b o hb e=>k b o (b2.extBut b o hb (b1.extBut b o hb e)))
theorem nQ (l:List α):∀(j:Nat) (h:j < l.length),(l[j]::l.eraseIdx j).Perm l:=by
 induction l with
 |nil=>intro j h;cases h
 |cons a l ih=>
  intro j h;cases j with
  |zero=>exact .refl _
  |succ j=>
   have h':j < l.length:=by simpa using h
   exact(List.Perm.swap a l[j] (l.eraseIdx j)).trans (List.Perm.cons a (ih j h'))
theorem vK (f:Nat->Nat):∀(fuel k:Nat) (left:List α) (out:Array α),left.length<=fuel->(pickOrder.go f fuel k left out).toList.Perm (out.toList++left):=by
 intro fuel
 induction fuel with
 |zero=>intro k left out h;have:left=[]:=List.length_eq_zero_iff.mp (by omega);subst this;unfold pickOrder.go;rw[P_]
 |succ n ih=>
  intro k left out h;unfold pickOrder.go;cases left with
  |nil=>simp
  |cons y l=>have JU:f k % (y::l).length < (y::l).length:=Nat.mod_lt _ (by simp);generalize f k % (y::l).length=j at JU;rw[v_ JU];dsimp only;refine(ih (k+1) _ _ (by rw[List.length_eraseIdx_of_lt JU];simp at h ⊢;omega)).trans ?_;rw[Array.toList_push,z_];refine aas _ ?_;exact(nQ _ _ JU)
theorem lW (f:Nat->Nat)(xs:Array α):(pickOrder f xs).toList.Perm xs.toList:=by have:=vK f xs.size 0 xs.toList #[] (by simp);rw[show(#[]:Array α).toList++xs.toList=xs.toList by simp]at this;exact this
theorem vL (hm:m≠0)(h:∀k d,k < m->Q k {s with drawn:=d}):Κ (Μ prog w) A (choose src m) Q E s:=fun Γ p hΓ=>
 show m≠0/\Q _ _ from⟨hm,h _ _ (Nat.mod_lt _ (Nat.pos_of_ne_zero hm))⟩
theorem AH:∀(m:Nat) (xs:List α) (s:Α),xs.length=m->(∀ys d,ys.Perm xs->Q ys {s with drawn:=d})->Κ (Μ prog w) A (drawOrder m xs) Q E s:=by
 intro m
 induction m generalizing Q with
 |zero=>intro xs s hx h;have:xs=[]:=List.length_eq_zero_iff.mp hx;subst this;exact f_ (by cases s;exact h [] _ (.refl _))
 |succ m ih=>
  intro xs s hx h;cases xs with
  |nil=>cases hx
  |cons y l=>unfold drawOrder;refine a_ (vL (by simp) fun k d hk=>?_);rw[v_ hk];dsimp only;refine a_ (ih _ _ (by rw[List.length_eraseIdx_of_lt hk];simp at hx ⊢;omega) fun ys d' hy=>f_ ?_);exact h _ d' ((List.Perm.cons _ hy).trans (nQ _ _ hk))
end
theorem nR:entryFor table "set_iterator.__iter__" = Δ Builtin.«dict_keyiterator.__iter__»:=
 entryFor_alias (id':="dict_keyiterator.__iter__") (by kernel_rfl) (by first|rfl|decide +kernel|(unfold String.splitOn;simp +decide [String.splitOnAux])) (by decide +kernel) (by kernel_rfl)
theorem oW (a:Ψ):argsOk "set_iterator.__iter__" ⟨[a],[]⟩:=by unfold argsOk;kernel_rfl
section
variable {prog:Ε}{w:Β}{α:Type} [DecidableEq α] [Inhabited α]{ky:Ky prog w α}{A:Ι}{E:Ψ->Α->Prop}{s:Α}{it a T:Ω}{i n ep slot:Nat}{σ:List α}{o:Obj}{es:Array (Int×Ψ)}{t:SetTable}{led:Bool}
theorem nT (hit:s.heap.get? it=Δ (Nh f i n a ep))(h:Q (.ref it) s):Κ (Μ prog w) A (pyIter (.ref it)) Q E s:=by
 have hT:s.TypeIs (.ref it) "set_iterator":=⟨_,hit,rfl⟩
 refine wpAny_pyIter_slot hT lu (aab lu hT nR ?_ (oW _));exact f_ ⟨_,rfl,"set_iterator",_,hT,iO.lookup,h⟩
theorem tV (h1:Cut xs j p)(h2:Cut xs j q):p=q:=by
 have key:∀p q:Nat,Cut xs j p->Cut xs j q->¬p < q:=fun p q h1 h2 h=>by
  have hl:p < xs.size:=B_ h h2.le;have e:xs[p]? = Δ xs[p]:=by simp[hl]
  have:=h2.lo p _ h e;have:=h1.hi p _ (m_ _) e;omega
 have:=key p q h1 h2;have:=key q p h2 h1;omega
theorem FJ (hh:A.handled=Φ)(hb:jt w=Θ)(D:Kp ky led σ o es ep t)(Ly:a≠it) :
  Walks prog w A it [it,a] [it] es.size (fun i v=>((pickOrder (w.params.setOrder a ep) es).toList.map (·.2))[i]? = Δ v) (fun i h=>h.get? it=Δ (Nh (rawInt 0) i es.size a ep)/\h.get? a=Δ o) where
 sub:=fun b hb=>by rw[w_.mp hb];exact aaD
 frame:=fun _ _ _ st k=>⟨k it (by simp) _ st.1,k a (by simp) _ st.2⟩
 item:=fun i s Q E hi st hQ=>by
  have hl:(pickOrder (w.params.setOrder a ep) es).size=es.size:=by rw[<- O_,(lW _ es).length_eq,O_]
  have e:(pickOrder (w.params.setOrder a ep) es)[i]? = Δ (pickOrder (w.params.setOrder a ep) es)[i]:=by simp[hl,hi]
  refine tO (x:=(pickOrder (w.params.setOrder a ep) es)[i].2) (nx:=0) st.1 st.2 D rfl (fun A' E' Q' q=>pF hb st.2 D (by rw[e];exact q)) fun h' g b=>?_;exact hQ _ h' s.toks (by rw[y_,aam,e];rfl) ⟨g,b.extBut a o Ly st.2⟩ fun c o hc e=>b.extBut c o (fun z=>hc (by simp[z])) e
 done:=fun s Q E st hQ=>by
  have hl:(pickOrder (w.params.setOrder a ep) es).size=es.size:=by rw[<- O_,(lW _ es).length_eq,O_]
  have e:(pickOrder (w.params.setOrder a ep) es)[es.size]? = Φ:=by simp[hl]
  exact tU hh st.1 st.2 D rfl (fun A' E' Q' q=>pF hb st.2 D (by rw[e];exact q)) fun h' k=>hQ h' s.toks fun c o hc e=>k c o (fun z=>hc (by simp[z])) e
 self:=fun _ _ _ _ st hQ=>nT st.1 hQ
noncomputable def pG (t:SetTable):Nat->Nat
 |0=>0
 |i+1=>t.place.getD i 0+1
theorem pH (u:Up t.place)(hi:i<=t.place.size):Cut t.place (pG t i) i:=by
 cases i with
 |zero=>exact⟨hi,fun i x h=>absurd h (Nat.not_lt_zero i),fun i x _ _=>Y_ _⟩
 |succ k=>
  have hk:k < t.place.size:=by omega
  have e:t.place[k]? = Δ t.place[k]:=by simp[hk]
  have eg:t.place.getD k 0=t.place[k]:=by simp[Array.getD,hk]
  refine⟨hi,fun j x hj hx=>?_,fun j x hj hx=>?_⟩
  ·show x < t.place.getD k 0+1;rw[eg];by_cases q:j=k
   ·subst q;rw[e]at hx;cases hx;omega
   ·have:=u j k x _ (by omega) hx e;omega
  ·show t.place.getD k 0+1<=x;rw[eg];have:=u k j _ x (by omega) e hx;omega
theorem FK (hh:A.handled=Φ)(hb:jt w=Ξ)(D:Kp ky (!jt w) σ o es ep t)(hd:(!t.plain&&decide (es.size > 1))=Ξ)(Ly:a≠it) :
  Walks prog w A it [it,a] [it] es.size (fun i v=>(vals es)[i]? = Δ v) (fun i h=>h.get? it=Δ (Nh (rawInt (pG t i)) i es.size a ep)/\h.get? a=Δ o) where
 sub:=fun b hb=>by rw[w_.mp hb];exact aaD
 frame:=fun _ _ _ st k=>⟨k it (by simp) _ st.1,k a (by simp) _ st.2⟩
 item:=fun i s Q E hi st hQ=>by
  have hz:t.place.size=es.size:=by have:=D.fi;unfold SetTable.fits at this;rw[g_]at this;exact h_ this.1
  have hp:i < t.place.size:=by omega
  have eb:SetTable.below t.place (pG t i)=i:=tV (mG D.tb.up _) (pH D.tb.up (Nat.le_of_lt hp));have e1:es[i]? = Δ (es[i].1,es[i].2):=by simp[hi]
  have e2:t.place[i]? = Δ t.place[i]:=by simp[hp]
  have e3:pG t (i+1)=t.place[i]+1:=by show t.place.getD i 0+1=_;simp[Array.getD,hp]
  refine tO (x:=es[i].2) (nx:=pG t (i+1)) st.1 st.2 D rfl (fun A' E' Q' q=>nP hb st.2 D hd (by rw[eb,e1,e2];rw[e3]at q;exact q)) fun h' g b=>?_;exact hQ _ h' s.toks (by rw[y_,aam,e1];rfl) ⟨g,b.extBut a o Ly st.2⟩ fun c o hc e=>b.extBut c o (fun z=>hc (by simp[z])) e
 done:=fun s Q E st hQ=>by
  have hz:t.place.size=es.size:=by have:=D.fi;unfold SetTable.fits at this;rw[g_]at this;exact h_ this.1
  have eb:SetTable.below t.place (pG t es.size)=es.size:=tV (mG D.tb.up _) (pH D.tb.up (by omega));have e1:es[es.size]? = Φ:=by simp
  exact tU hh st.1 st.2 D rfl (fun A' E' Q' q=>nP hb st.2 D hd (by rw[eb,e1];exact q)) fun h' k=>hQ h' s.toks fun c o hc e=>k c o (fun z=>hc (by simp[z])) e
 self:=fun _ _ _ _ st hQ=>nT st.1 hQ
theorem FL (hh:A.handled=Φ)(D:Kp ky led σ o es ep t){ps:List Nat}(hp:ps.Perm (List.range es.size))(Ly:a≠it)(ZC:T≠it) :
  Walks prog w A it [it,a,T] [it] es.size (fun i v=>(ps.map fun k=>(es.getD k (0,.none)).2)[i]? = Δ v) (fun i h=>h.get? it=Δ (Nh (.ref T) i es.size a ep)/\h.get? a=Δ o/\h.get? T=Δ (Pk ps)) where
 sub:=fun b hb=>by rw[w_.mp hb];exact aaD
 frame:=fun _ _ _ st k=>⟨k it (by simp) _ st.1,k a (by simp) _ st.2.1,k T (by simp) _ st.2.2⟩
 item:=fun i s Q E hi st hQ=>by
  have hl:ps.length=es.size:=by rw[hp.length_eq,aac]
  have Ln:i < ps.length:=by omega
  have JU:ps[i] < es.size:=V_.mp (hp.mem_iff.mp (aax Ln));have e1:ps[i]? = Δ ps[i]:=v_ Ln;have e2:es[ps[i]]? = Δ (es[ps[i]].1,es[ps[i]].2):=by simp[JU]
  refine xp st.1 st.2.2 st.2.1 D rfl e1 e2 fun h' g b=>?_;exact hQ _ h' s.toks (by rw[y_,e1];simp[Array.getD,JU]) ⟨g,b.extBut a o Ly st.2.1,b.extBut T _ ZC st.2.2⟩ fun c o hc e=>b.extBut c o (fun z=>hc (by simp[z])) e
 done:=fun s Q E st hQ=>by
  have hl:ps.length=es.size:=by rw[hp.length_eq,aac]
  exact xq hh st.1 st.2.2 st.2.1 D rfl (by rw[List.getElem?_eq_none];omega) fun h' k=>hQ h' s.toks fun c o hc e=>k c o (fun z=>hc (by simp[z])) e
 self:=fun _ _ _ _ st hQ=>nT st.1 hQ
end
section
variable {prog:Ε}{w:Β}{α:Type} [DecidableEq α] [Inhabited α]{ky:Ky prog w α}{A:Ι}{E:Ψ->Α->Prop}{s:Α}{it a T:Ω}{i n ep slot:Nat}{σ:List α}{o:Obj}{es:Array (Int×Ψ)}{t:SetTable}{led:Bool}
structure UN {prog:Ε}{w:Β}{α:Type} [DecidableEq α](ky:Ky prog w α)(A:Ι)(a:Ω)(σ:List α)(h h1:Heap)(it:Ω)(seq:List Ψ)(n:Nat)(fp:List Ω)(St:Nat->Heap->Prop):Prop where
 keep:∀b o,h.get? b=Δ o->h1.get? b=Δ o
 new:h.get? it=Φ
 pm:∃ks,Ar ky.mv seq ks/\ks.Perm σ
 ln:seq.length=n
 wk:Walks prog w A it fp [it] n (fun i v=>seq[i]? = Δ v) St
 st:St 0 h1
 ZD:∀b∈fp,b=a∨h.get? b=Φ
theorem lX (h:Heap):h.get? h.objs.size=Φ:=by
 cases e:h.get? h.objs.size with
 |none=>rfl
 |some o=>exact absurd (j_ e) (T_ _)
theorem qT (h:Heap)(o:Obj):h.get? (h.push o).objs.size=Φ:=by
 cases e:h.get? (h.push o).objs.size with
 |none=>rfl
 |some o'=>have:=j_ e;rw[aaa]at this;exact absurd this (Nat.not_lt.mpr (Nat.le_succ _))
theorem map_range (es:Array (Int×Ψ)):(List.range es.size).map (fun k=>(es.getD k (0,.none)).2)=vals es:=by
 apply List.ext_getElem?;intro j;rw[y_,y_];by_cases h:j < es.size
 ·rw[List.getElem?_range h];simp[Array.getD,h]
 ·rw[List.getElem?_eq_none (by simp;omega)];simp[h]
theorem xr (hh:A.handled=Φ)(hS:kQ ky s.heap a (!jt w) σ){Q:Ψ->Α->Prop}(h:∀h1 d it seq n fp St,UN ky A a σ s.heap h1 it seq n fp St->Q (.ref it) {s with heap:=h1,drawn:=d}) :
  Κ (Μ prog w) A (pyIter (.ref a)) Q E s:=by
 obtain⟨o,es,ep,t,ho,D⟩:=hS;obtain⟨ks,k1,k2⟩:=D.pm;have hT:s.TypeIs (.ref a) "set":=⟨_,ho,D.ex.1⟩
 have alt:a < s.heap.objs.size:=j_ ho;refine wpAny_pyIter_slot hT F.slot_set_iter (aab F.slot_set_iter hT p4 ?_ (F.args_set_iter_1 _));show Κ _ _ (Builtin.Frozenset.sizeOf a >>= _) _ _ s;unfold Builtin.Frozenset.sizeOf;refine a_ (a_ (wpAny_setEntries_of ho D.da D.fi (f_ ?_)));have UO:∀ {f:Ψ}{h1:Heap}{d:Drawn}{x:Ω},h1.get? x=Δ (Nh f 0 es.size a ep)->Shared.TypeIs {s with heap:=h1,drawn:=d} (.ref x) "set_iterator":=fun e=>⟨_,e,rfl⟩
 show Κ _ _ (setDrawn a >>= _) _ _ s;unfold setDrawn;refine a_ (a_ (wpAny_setState_of ho D.da D.fi ?_));dsimp only;refine a_ (nk (f_ ?_));cases hb:jt w with
 |true=>
  show Κ _ _ (if(!Θ&&_)=Θ then _ else _) _ _ _;rw[Bool.not_true,Bool.false_and,d_ n_];refine a_ (f_ (a_ (wpAny_setEpoch_of ho D.da D.fi (a_ (aao ?_ (by size_fits))))));obtain⟨LK,k3,k4⟩:=lV ((lW (w.params.setOrder a ep) es).map (·.2)) k1;have hl:((pickOrder (w.params.setOrder a ep) es).toList.map (·.2)).length=es.size:=by rw[i_,(lW _ es).length_eq,O_]
  have W:=FJ (A:=A) (it:=s.heap.objs.size) hh hb D (p_ alt)
  exact f_ ⟨_,rfl,"set_iterator",_,UO (d:=s.drawn) (u_ _ rfl),iO.lookup,h _ s.drawn s.heap.objs.size _ _ _ _
   ⟨fun b o e=>l_ _ e,lX _,⟨LK,k3,k4.trans k2⟩,hl,W,⟨u_ _ rfl,l_ _ ho⟩,fun b hb=>by
    rcases k_.mp hb with e|hb
    ·rw[e];exact .inr (lX _)
    ·exact .inl (w_.mp hb)⟩⟩
 |false=>
  cases hd:(!t.plain&&decide (es.size > 1)) with
  |false=>
   show Κ _ _ (if(!Ξ&&(!t.plain&&decide (es.size > 1)))=Θ then _ else _) _ _ _;rw[hd,Bool.and_false,d_ n_];refine a_ (f_ (a_ (wpAny_setEpoch_of ho D.da D.fi (a_ (aao ?_ (by size_fits))))));have hl:(vals es).length=es.size:=by rw[i_,O_]
   have W:=FK (A:=A) (it:=s.heap.objs.size) hh hb D hd (p_ alt)
   exact f_ ⟨_,rfl,"set_iterator",_,UO (d:=s.drawn) (u_ _ rfl),iO.lookup,h _ s.drawn s.heap.objs.size _ _ _ _
    ⟨fun b o e=>l_ _ e,lX _,⟨ks,k1,k2⟩,hl,W,⟨u_ _ rfl,l_ _ ho⟩,fun b hb=>by
     rcases k_.mp hb with e|hb
     ·rw[e];exact .inr (lX _)
     ·exact .inl (w_.mp hb)⟩⟩
  |true=>
   show Κ _ _ (if(!Ξ&&(!t.plain&&decide (es.size > 1)))=Θ then _ else _) _ _ _;rw[hd,Bool.not_false,Bool.and_self,e_ rfl];have hz:=fits_of_scanBound D.sb;refine a_ (AH _ _ _ aac fun ps d hp=>?_);have UP:ps.length=es.size:=by rw[hp.length_eq,aac]
   have Xi:(s.heap.push (Pk ps)).get? a=Δ o:=l_ _ ho;refine a_ (wpAny_newTuple (a_ (wpAny_setEpoch_of Xi D.da D.fi (a_ (aao ?_ (by size_fits))))) (by rw[i_,UP];exact hz));have pv:(ps.map fun k=>(es.getD k (0,.none)).2).Perm (vals es):=by rw[<- map_range];exact hp.map _
   obtain⟨LK,k3,k4⟩:=lV pv k1;have hl:(ps.map fun k=>(es.getD k (0,.none)).2).length=es.size:=by rw[i_,UP]
   have hsz:(s.heap.push (Pk ps)).objs.size=s.heap.objs.size+1:=aaa ..;have W:=FL (A:=A) (T:=s.heap.objs.size) (it:=(s.heap.push (Pk ps)).objs.size) hh D hp (by rw[hsz];exact p_ (Nat.lt_succ_of_lt alt)) (by rw[hsz];exact p_ (Nat.lt_succ_self _))
   exact f_ ⟨_,rfl,"set_iterator",_,UO (d:=d) (u_ _ rfl),iO.lookup,h _ d (s.heap.push (Pk ps)).objs.size _ _ _ _
    ⟨fun b o e=>l_ _ (l_ _ e),qT _ _,⟨LK,k3,k4.trans k2⟩,hl,W,
     ⟨u_ _ rfl,l_ _ Xi,l_ _ (u_ _ rfl)⟩,fun b hb=>by
     rcases k_.mp hb with e|hb
     ·rw[e];exact .inr (qT _ _)
     ·rcases k_.mp hb with e|hb
      ·exact .inl e
      ·rw[w_.mp hb];exact .inr (lX _)⟩⟩
end
section
variable {prog:Ε}{w:Β}{α:Type} [DecidableEq α] [Inhabited α]{ky:Ky prog w α}{A:Ι}{E:Ψ->Α->Prop}{s:Α}{a:Ω}{σ:List α}
theorem xu (hT:s.TypeIs (.ref a) "set") (h:Q Ξ s):Κ (Μ prog w) A (Builtin.List.listLengthHint (.ref a)) Q E s:=by
 unfold Builtin.List.listLengthHint;refine a_ (wpAny_specialOf hT PySem.F.slot_set_len.lookup ?_);generalize Pl:("set.__len__" : String)=ZE
 wp_delta
 rw[show splitId ZE=Δ ("set","__len__") from by subst Pl;decide +kernel];subst Pl;refine a_ (wpAny_isInstance (T:="set") (b:=Θ) hT (by rw[isSubtype_type];kernel_rfl) (wpAny_ite_split (fun z=>absurd z (by decide)) fun _=>wpAny_ite_split (fun _=>?_) fun z=>absurd (by decide +kernel) z));exact a_ (wpAny_typeOf hT (f_ h))
theorem DH (h:ItemsOf (fun i v=>seq[i]? = Δ v) acc seq.length):acc.toList=seq:=by
 apply List.ext_getElem?;intro j;rw[aam];by_cases hj:j < acc.size
 ·have e:acc[j]? = Δ acc[j]:=by simp[hj]
  rw[e,h.2 j _ e]
 ·have h1:acc[j]? = Φ:=by simp;omega
  rw[h1,List.getElem?_eq_none (by rw[<- h.1];omega)]
theorem AI {R:Result->Α->Prop}(hh:A.handled=Φ)(hS:kQ ky s.heap a (!jt w) σ)(S:Ω)(Xj:S≠a)(res:Ψ)(c0:Nat)(hg:s.heap.get? S=Δ {cls:=.type "list",data:=.seq #[] c0}) (hn:σ.length<=Ζ)
  (hR:∀h' tk d acc c,(∀b o,b≠S->s.heap.get? b=Δ o->h'.get? b=Δ o)->h'.get? S=Δ {cls:=.type "list",dict:=Φ,data:=.seq acc c,slots:=#[]}->(∃ks,Ar ky.mv acc.toList ks/\ks.Perm σ)->R (.ok (.ret res)) {s with heap:=h',toks:=tk,drawn:=d}) :
  Κ (Μ prog w) A.in1 (Χ (.ref S) (.ref a) res)
   (fun fin s'=>match fin with|.done f=>R (.ok f) s'|.again c'=>c'.quiet=Θ/\codeAny (Μ prog w) A c' R s') (fun e s'=>R (.error e) s') s:=by
 have hT:s.TypeIs (.ref a) "set":=by obtain⟨o,es,ep,t,ho,D⟩:=hS;exact⟨o,ho,D.ex.1⟩
 unfold Χ;refine a_ (wpAny_typeOf (T:="set") hT ?_);have h1:Builtin.List.listSameRef (.ref S) (.ref a)=Ξ:=by simp[Builtin.List.listSameRef,Xj]
 rw[d_ (by rw[h1];decide)];refine a_ (xr (A:=A.in1) hh hS fun h1 d it seq n fp St C=>?_);have Xk:S∉fp:=fun z=>(C.ZD S z).elim Xj fun e=>by rw[hg]at e;cases e
 have hSi:S≠it:=fun z=>by rw[z,C.new]at hg;cases hg
 obtain⟨ks,q1,q2⟩:=C.pm;have Pm:n<=Ζ:=by rw[<- C.ln,Ar.length q1,q2.length_eq];exact hn
 have key:∀(h:Heap) (c1 tk:Nat),St 0 h->(∀b o,b≠S->s.heap.get? b=Δ o->h.get? b=Δ o)->h.get? S=Δ {cls:=.type "list",data:=.seq #[] c1}->
   codeAny (Μ prog w) A (.builtin "list.extend.loop" ⟨[.ref S,.ref it,res],[]⟩) R {s with heap:=h,toks:=tk,drawn:=d}:=by
  intro h c1 tk Ke hk UJ;refine codeAny_extend_loopS C.wk.toS Pm S Xk res n 0 _ #[] c1 rfl (Y_ _) Ke UJ (ItemsOf.nil _) fun s' acc c hm KC JT=>?_;rw[Moved.eq_with hm];rw[<- C.ln]at JT;refine hR s'.heap s'.toks d acc c (fun b o hb e=>hm.heap b o (fun z=>?_) (hk b o hb e)) KC ⟨ks,by rw[DH JT];exact q1,q2⟩;rcases k_.mp z with z|z
  ·exact hb z
  ·rw[w_.mp z,C.new]at e;cases e
 have ZG:Shared.TypeIs {s with heap:=h1,drawn:=d} (.ref a) "set":=by obtain⟨o,es,ep,t,ho,D⟩:=hS;exact⟨o,C.keep _ _ ho,D.ex.1⟩
 have g1:=C.keep _ _ hg;refine a_ (M_ (xu ZG (wpAny_ite_split (fun _=>?_) fun _=>f_ ⟨plainId_quiet PySem.F.plain_extend_loop _,key _ c0 _ C.st (fun b o _ e=>C.keep b o e) g1⟩)));refine a_ (wpAny_rule (a_ ?_));show Κ _ _ (updateSeq S (·.push .none) >>= fun _=>updateSeq S (·.pop)) _ _ _;have g2:=aaA (ι (·.push Value.none)) g1 rfl;have g3:=aaA (ι (·.pop)) g2 rfl;refine a_ (wpAny_updateSeq g1 rfl (wpAny_updateSeq (hz:=by seq_fits) g2 rfl (f_ ⟨plainId_quiet PySem.F.plain_extend_loop _,key _ _ _ ?_ (fun b o hb e=>?_) g3⟩)))
 ·refine C.wk.frame 0 _ _ C.st fun b hb o e=>?_;have Rk:S≠b:=fun z=>Xk (z ▸ hb);exact(aai _ _ Rk).trans ((aai _ _ Rk).trans e)
 ·have Rk:S≠b:=fun z=>hb z.symm;exact(aai _ _ Rk).trans ((aai _ _ Rk).trans (C.keep b o e))
end
section
variable {prog:Ε}{w:Β}{α:Type} [DecidableEq α] [Inhabited α]{ky:Ky prog w α}{A:Ι}{E:Ψ->Α->Prop}{s:Α}{a:Ω}{σ:List α}
theorem qU {Q:List Ψ->Α->Prop}(hh:A.handled=Φ)(hS:kQ ky s.heap a (!jt w) σ)(hn:σ.length<=Ζ)
  (h:∀h' tk d (acc:Array Ψ),s.heap.objs.size < h'.objs.size->(∀b o,s.heap.get? b=Δ o->h'.get? b=Δ o)->(∃ks,Ar ky.mv acc.toList ks/\ks.Perm σ)->Q acc.toList {s with heap:=h',toks:=tk,drawn:=d}):Κ (Μ prog w) A (collect (.ref a)) Q E s:=by
 have JU:a < s.heap.objs.size:=by obtain⟨o,es,ep,t,ho,D⟩:=hS;exact j_ ho
 unfold collect;refine a_ (wpAny_runValue (codeAny_builtin entry_proto_collect' ?_));rw[aaw PySem.F.plain_proto_collect _];refine(show Κ _ A.in1 (newList [] >>= fun l=>again (.builtin "list.__iadd__" ⟨[l,.ref a],[]⟩)) _ _ s from a_ (aao (f_ ⟨plainId_quiet PySem.F.plain_list_iadd _,codeAny_builtin entry_list_iadd' ?_⟩)));rw[aaw PySem.F.plain_list_iadd _];have g1:(s.heap.push {cls:=.type "list",data:=.seq ([]:List Ψ).toArray}).get? s.heap.objs.size=Δ {cls:=.type "list",data:=.seq #[]}:=u_ _ rfl;show Κ _ A.in1 (Χ (.ref s.heap.objs.size) (.ref a) (.ref s.heap.objs.size)) _ _ _;have key:=AI (A:=A) (s:={s with heap:=s.heap.push {cls:=.type "list",data:=.seq ([]:List Ψ).toArray}})
  (R:=fun(q:Result) (s':Α)=>∃(h':Heap) (tk:Nat) (d:Drawn) (acc:Array Ψ) (c:Nat),q=.ok (.ret (.ref s.heap.objs.size))/\s' = {s with heap:=h',toks:=tk,drawn:=d}/\
   (∀b o,s.heap.get? b=Δ o->h'.get? b=Δ o)/\h'.get? s.heap.objs.size=Δ {cls:=.type "list",dict:=Φ,data:=.seq acc c,slots:=#[]}/\∃ks,Ar ky.mv acc.toList ks/\ks.Perm σ)
  hh (hS.moved fun o e=>l_ _ e) s.heap.objs.size (U_ JU) (.ref s.heap.objs.size) 0 g1 hn
  (fun h' tk d acc c hk KC JT=>⟨h',tk,d,acc,c,rfl,rfl,fun b o e=>hk b o (p_ (j_ e)) (l_ _ e),KC,JT⟩)
 refine wpAny_mono key (fun fin s' x=>?_) fun e s' x=>?_
 ·cases fin with
  |done f=>obtain⟨h',tk,d,acc,c,e,rfl,hk,KC,JT⟩:=x;cases e;exact show Κ _ A (load s.heap.objs.size >>= _) _ _ _ from a_ (wpAny_load KC (f_ (h h' tk d acc (j_ KC) hk JT)))
  |again c1=>refine⟨x.1,codeAny_mono x.2 fun q s2 y=>?_⟩;obtain⟨h',tk,d,acc,c,rfl,rfl,hk,KC,JT⟩:=y;exact show Κ _ A (load s.heap.objs.size >>= _) _ _ _ from a_ (wpAny_load KC (f_ (h h' tk d acc (j_ KC) hk JT)))
 ·obtain⟨_,_,_,_,_,e',_⟩:=x;cases e'
theorem sD {Q:Ψ->Α->Prop}(hh:A.handled=Φ)(hS:kQ ky s.heap a (!jt w) σ)(LS:σ.length < 64){Od:List α->Prop}(ZH:∀ {A:Ι}{E:Ψ->Α->Prop}{s:Α}{a:Ω}{vs:List Ψ}{ss:List α}{n:Nat}{P:Fin->Α->Prop},s.heap.get? a=Δ (seqObj "list" vs.toArray n)->Ar ky.mv vs ss->vs.length < 64->
   (∀(out:Array Ψ) (N3:List α),Ar ky.mv out.toList N3->N3.Perm ss->Od N3->P (.done (.ret .none)) {s with heap:=sortedHeap s.heap a vs out})->Κ (Μ prog w) A (Builtin.«list.sort» ⟨[.ref a],[]⟩) P E s)
  (h:∀h' tk d D (out:Array Ψ) c Qf,(∀b o,s.heap.get? b=Δ o->h'.get? b=Δ o)->s.heap.objs.size<=D->h'.get? D=Δ (seqObj "list" out c)->Ar ky.mv out.toList Qf->Qf.Perm σ->Od Qf->Q (.ref D) {s with heap:=h',toks:=tk,drawn:=d}) :
  Κ (Μ prog w) A (call (.builtin "sorted") [.ref a]) Q E s:=by
 have hz:σ.length<=Ζ:=by rw[sizeLine_eq];omega
 refine Calls.call_function_entry kind_sorted plain_sorted entry_sorted (args_sorted1 _) ?_;unfold Builtin.«sorted»;refine a_ (m:=checkCount "sorted" 1 1 _) (f_ (a_ (qU (A:=A.in1) hh hS hz fun h' tk d acc JU hk JT=>?_)));obtain⟨ks,k1,k2⟩:=JT;have hl:acc.toList.length=σ.length:=by rw[Ar.length k1,k2.length_eq]
 refine a_ (wpAny_newList ?_ (by rw[hl];exact hz));have gL:(h'.push (seqObj "list" acc.toList.toArray 0)).get? h'.objs.size=Δ (seqObj "list" acc.toList.toArray 0):=u_ _ rfl;have nD:s.heap.get? h'.objs.size=Φ:=by
  cases e:s.heap.get? h'.objs.size with
  |none=>rfl
  |some o=>exact absurd (j_ (hk _ _ e)) (T_ _)
 refine a_ (M_ (aab (s:={s with heap:=h'.push (seqObj "list" acc.toList.toArray 0),toks:=tk,drawn:=d}) slot_list_sort ⟨_,gL,rfl⟩ entry_list_sort (ZH (s:={s with heap:=h'.push (seqObj "list" acc.toList.toArray 0),toks:=tk,drawn:=d}) gL k1 (by rw[hl];exact LS) fun out Qf a1 a2 a3=>⟨_,rfl,?_⟩) (args_list_sort _)));obtain⟨c,hc⟩:=sortedHeap_at (out:=out) gL;refine f_ ⟨_,rfl,h _ tk d _ out c Qf (fun b o e=>?_) (Nat.le_of_lt JU) hc a1 (a2.trans k2) a3⟩;have e1:=l_ (seqObj "list" acc.toList.toArray 0) (hk b o e);rw[sortedHeap_old (fun z=>by rw[z,nD]at e;cases e) (j_ e1)];exact e1
end
section
variable {prog:Ε}{w:Β}{A:Ι}{E:Ψ->Α->Prop}{s:Α}
instance:Inhabited Str:=⟨⟨#[]⟩⟩
noncomputable def Ro (prog:Ε)(w:Β):Ky prog w Int:=⟨intKind prog w,fun n t=>.int n t,fun n t=>intKind_is prog w n t,fun _ _=>rfl⟩
theorem DI:IntsAre vs ns↔Ar (Ro prog w).mv vs ns:=by
 constructor
 ·intro h
  induction h with
  |nil=>exact .nil
  |cons n t _ ih=>exact .cons n t ih
 ·intro h
  induction h with
  |nil=>exact .nil
  |cons n t _ ih=>exact .cons n t ih
theorem HJ (ho:s.heap.get? a=Δ (seqObj "list" vs.toArray n)) (hS:Ar (Ro prog w).mv vs ss) (LS:vs.length < 64)
  (h:∀(out:Array Ψ) (N3:List Int),Ar (Ro prog w).mv out.toList N3->N3.Perm ss->N3.Pairwise (·<=·)->P (.done (.ret .none)) {s with heap:=sortedHeap s.heap a vs out}):Κ (Μ prog w) A (Builtin.«list.sort» ⟨[.ref a],[]⟩) P E s:=
 list_sort_tree ho (DI.mpr hS) LS fun out N3 a1 a2 a3=>h out N3 (DI.mp a1) a2 a3
end
end L2.Se
namespace L2.Sv
open PySem PyProof.Rows
noncomputable def UQ (σ:List Str)(v:Str):List Str:=if σ.any (· == v) then σ else σ++[v]
theorem DJ : @step_dedup Str instBEqOfDecidableEq=UQ:=by
 funext σ v;unfold step_dedup UQ;have e:(σ.any fun x=>@BEq.beq Str instBEqOfDecidableEq x v)=σ.any (· == v):=by congr 1
 rw[e]
theorem Km (l:List Str)(σ:List Str):(l.foldl UQ σ).length<=σ.length+l.length:=by rw[<- DJ];exact Se.Km l σ
end L2.Sv
namespace L2
open PySem PySem.Spec PyProof.Rows PySem.SeqAt
noncomputable def dd (ns:List Int):List Int:=ns.foldl step_dedup []
theorem xw (ns:List Int):(dd ns).length<=ns.length:=by have:=Se.Km ns [];simpa[dd] using this
section
variable {X:Cx}
noncomputable def XS:HO:=.ext fun _=>True
def FN (X:Cx)(σ:List Int)(o:Obj):Prop:=∃es ep t,Se.Kp (Se.Ro X.prog X.w) (!Se.jt X.w) σ o es ep t
theorem vM (hc:X.calm=Θ):jD X (.type "set") (fun xs H Q=>∃(p:Ω) (ns:List Int),xs=[.ref p]/\Kf X.K H p (ns.map V.int)/\ns.length < 64/\∀a o,H a=Φ->FN X (dd ns) o->Q (.ref a) (upd H a (.JM o XS))):=by intro pins s σ H xs us Q I r h;obtain⟨p,ns,rfl,hq,LS,q⟩:=h;obtain⟨u,rfl,rx⟩:=vals1 r;cases rx;obtain⟨its,rv,pl,hz⟩:=I.list hq;have hi:=intsAre_of rv;have hlen:=rv.length;rw[i_]at hlen;refine Se.xo (ky:=Se.Ro X.prog X.w) (I.ok.hd hc) pl.isList (Se.DI.mp (by simpa using hi)) (by rw[A_];unfold scanBound;omega) fun h' tk hS k=>?_;obtain⟨o,es,ep,t,ho,D⟩:=hS;exact⟨.ref _,_,I.laid (t':=tk) (fun b u e=>k b u (j_ e) e) (m_ _) (show iV X.prog X.w _ _ _ (.JM o XS) from⟨ho,trivial,⟨_,ho⟩,fun _ _ _ _=>trivial⟩),rfl,q _ o (I.JD.fresh (m_ _)) ⟨es,ep,t,D⟩⟩
theorem Inv.N4 (I:Inv X pins σ H s)(d:Drawn):Inv X pins σ H {s with drawn:=d}:=⟨I.ok,I.os,I.bare,I.base,I.loc,I.cell,I.free,I.Ks,I.pin,I.JD,I.len⟩
theorem p5 (hc:X.calm=Θ):jD X (.builtin "sorted") (fun xs H Q=>∃(p:Ω) (o:Obj) (ns:List Int),xs=[.ref p]/\H p=Δ (.JM o XS)/\FN X ns o/\ns.length < 64/\∀l,H l=Φ->Q (.ref l) (upd H l (.lst ((PySem.W.sortI ns).map V.int)))):=by
 intro pins s σ H xs us Q I r h;obtain⟨p,o,ns,rfl,hp,⟨es,ep,t,D⟩,LS,q⟩:=h;obtain⟨u,rfl,rx⟩:=vals1 r;cases rx;have ho:s.heap.get? p=Δ o:=(I.JD p _ hp).1;refine Se.sD (I.ok.hd hc) ⟨o,es,ep,t,ho,D⟩ LS Se.HJ fun h' tk d Dn out c Qf k hD e a1 a2 a3=>?_;rw[PySem.W.eq_sortI a2 a3]at a1;have Qg:Vals ((PySem.W.sortI ns).map V.int) out.toList:=by
  generalize PySem.W.sortI ns=ms at a1;generalize out.toList=vs at a1
  induction a1 with
  |nil=>exact .nil
  |cons n t _ ih=>exact .cons ⟨t,rfl⟩ ih
 have J:=I.laid (t':=tk) (o:=.lst ((PySem.W.sortI ns).map V.int)) k hD (show iV X.prog X.w _ _ _ (.lst _) from⟨by rw[i_,(PySem.W.sortI_perm ns).length_eq,sizeLine_eq];omega,out.toList,c,Qg,by simpa using e⟩);exact⟨.ref _,_,J.N4 d,rfl,q _ (I.JD.fresh hD)⟩
end
section
variable {X:Cx}
theorem AJ (l:Ω)(items:Array Ψ)(n:Nat)(b:Ω)(Le:Array Ψ)(n2:Nat)(sl:Array (Option Ψ))(hc0:¬(!items.isEmpty&&Builtin.List.listTooLong (items.size+Le.size))=Θ)(ZI:items.size<=Ζ)(Lw:items.size+Le.size<=Ζ+1) :
  Meets (Builtin.«list.extend» ⟨[.ref l,.ref b],[]⟩) (fun _ R s=>s.heap.get? l=Δ {cls:=.type "list",dict:=Φ,data:=.seq items n,slots:=#[]}/\s.heap.get? b=Δ {cls:=.type "list",dict:=Φ,data:=.seq Le n2,slots:=sl}/\R (.ok (.ret Value.none)) {s with heap:=s.heap.update l (ι fun x=>x++Le),toks:=s.toks}):=
 .of_wp fun prog w A R s h=>by
  obtain⟨hp,g,d,tk,os⟩:=s;obtain⟨hl,hb,h⟩:=h;have f1:=AutoSeq1.idx_int;have f2:=AutoSeq1.sub_tuple_tuple;have f3:=AutoSeq1.sub_list_list;have f4:=AutoSeq1.sub_tuple_list;have f5:=AutoSeq1.sub_list_tuple;have ZJ:(items++Le).size<=Ζ+1:=by rw[Array.size_append];exact Lw
  wp_walk using(wpAny_updateSeq hl rfl (hz:=ZI) (_hz':=ZJ)),AutoSeq1.wpAny_loadPart' hl,AutoSeq1.wpAny_loadPart' hb
  exact⟨_,rfl,h⟩
def FO (X:Cx):V->List V->Hp->VK->Prop:=fun x vs H Q=>∃l b xs zs,x=.ref l/\vs=[.ref b]/\H l=Δ (.lst xs)/\Kf X.K H b zs/\xs.length+zs.length<=Ζ/\Q .Jt (upd H l (.lst (xs++zs)))
theorem AK:WN X "list.extend" (FO X):=by
 intro pins s σ H x vs v us Q I rx rv h;obtain⟨l,b,xs,zs,rfl,rfl,hH,hB,hz,q⟩:=h;cases rx;obtain⟨u,rfl,ru⟩:=rv.one;cases ru;obtain⟨z,its,n,r,hl,e⟩:=I.QR hH;obtain⟨JS,n2,Rp,r2,z2,e2⟩:∃(JS:List Ψ) (n2:Nat) (Rp:Array (Option Ψ)),Vals zs JS/\zs.length<=Ζ/\s.heap.get? b=Δ {cls:=.type "list",dict:=Φ,data:=.seq JS.toArray n2,slots:=Rp}:=by
  rcases hB with hB|⟨o,its,n,hk,hc,hd,hs,hz,r⟩
  ·obtain⟨z,its,n,r,e⟩:=hB.ok I.JD;exact⟨its,n,_,r,z,e⟩
  ·obtain⟨c,d,dt,sl⟩:=o;dsimp only at hc hd hs;subst hc hd hs;exact⟨its.toList,n,sl,r,by rw[r.length];simpa using hz,I.LX _ _ hk⟩
 have NC:=r2.length;have hsz:its.toArray.size+JS.toArray.size<=Ζ:=by rw[A_,A_];omega
 have Rq:¬(!its.toArray.isEmpty&&Builtin.List.listTooLong (its.toArray.size+JS.toArray.size))=Θ:=by rw[qH hsz,Bool.and_false];exact n_
 refine call_meets F.slot_list_extend ⟨_,e,rfl⟩ F.entry_list_extend (F.args_list_extend_2 _ _)
  (AJ l its.toArray n b JS.toArray n2 Rp Rq (by rw[A_];omega) (by omega)) ⟨e,e2,?_⟩
 refine⟨.Jt,_,I.QQ (its':=its++JS) hH e (by simp) (r.append r2) ?_,rfl,q⟩;rw[o_];omega
end
end L2
namespace L2.Sx
open PySem PyProof.Rows
end L2.Sx
namespace L2
open PySem PySem.Spec PyProof.Rows
end L2
namespace L2.Dp
open PySem PyProof.Rows
end L2.Dp
namespace L2
open PySem PySem.Spec PyProof.Rows
open PySem.SeqAt
section
variable {prog:Ε}{w:Β}{κ:Type} [DecidableEq κ]{knd:KeyKind prog w κ}{A:Ι}{E:Ψ->Α->Prop}{s:Α}{a:Ω}{kvs:List (κ×Ψ)}{ep:Nat}
theorem p6 {Q:List Ψ->Α->Prop}(lo:(a == sysModules)=Ξ)(hh:A.handled=Φ)(hm:s.heap.DictAt knd a kvs ep)(hn:kvs.length<=Ζ)
  (h:∀h' tk (acc:Array Ψ),s.heap.objs.size < h'.objs.size->(∀b o,s.heap.get? b=Δ o->h'.get? b=Δ o)->ItemsOf (fun i v=>∃k x,kvs[i]? = Δ (k,x)/\knd.is k v=Θ) acc kvs.length->Q acc.toList {s with heap:=h',toks:=tk}):Κ (Μ prog w) A (collect (.ref a)) Q E s:=by
 have JU:a < s.heap.objs.size:=hm.lt_size;unfold collect;refine a_ (wpAny_runValue (codeAny_builtin entry_proto_collect' ?_));rw[aaw PySem.F.plain_proto_collect _];refine(show Κ _ A.in1 (newList [] >>= fun l=>again (.builtin "list.__iadd__" ⟨[l,.ref a],[]⟩)) _ _ s from a_ (aao (f_ ⟨plainId_quiet PySem.F.plain_list_iadd _,codeAny_builtin entry_list_iadd' ?_⟩)));rw[aaw PySem.F.plain_list_iadd _];have g1:(s.heap.push {cls:=.type "list",data:=.seq ([]:List Ψ).toArray}).get? s.heap.objs.size=Δ {cls:=.type "list",data:=.seq #[]}:=u_ _ rfl;show Κ _ A.in1 (Χ (.ref s.heap.objs.size) (.ref a) (.ref s.heap.objs.size)) _ _ _;have Nc:(s.heap.push {cls:=.type "list",data:=.seq ([]:List Ψ).toArray}).DictAt knd a kvs ep:=hm.at' fun o e=>l_ _ e;have key:=PySem.W.kdl_extend (A:=A) (s:={s with heap:=s.heap.push {cls:=.type "list",data:=.seq ([]:List Ψ).toArray}})
  (R:=fun(q:Result) (s':Α)=>∃(h':Heap) (tk:Nat) (acc:Array Ψ) (c:Nat),q=.ok (.ret (.ref s.heap.objs.size))/\s' = {s with heap:=h',toks:=tk}/\
   (∀b o,s.heap.get? b=Δ o->h'.get? b=Δ o)/\h'.get? s.heap.objs.size=Δ {cls:=.type "list",dict:=Φ,data:=.seq acc c,slots:=#[]}/\ItemsOf (fun i v=>∃k x,kvs[i]? = Δ (k,x)/\knd.is k v=Θ) acc kvs.length)
  (PySem.W.kdl_dict lo) hh Nc s.heap.objs.size (U_ JU) (U_ JU) (.ref s.heap.objs.size) 0 g1
  (fun h' tk acc c hk KC JT=>⟨h',tk,acc,c,rfl,rfl,fun b o e=>hk b o (p_ (j_ e)) (l_ _ e),KC,JT⟩) hn
 refine wpAny_mono key (fun fin s' x=>?_) fun e s' x=>?_
 ·cases fin with
  |done f=>obtain⟨h',tk,acc,c,e,rfl,hk,KC,JT⟩:=x;cases e;exact show Κ _ A (load s.heap.objs.size >>= _) _ _ _ from a_ (wpAny_load KC (f_ (h h' tk acc (j_ KC) hk JT)))
  |again c1=>refine⟨x.1,codeAny_mono x.2 fun q s2 y=>?_⟩;obtain⟨h',tk,acc,c,rfl,rfl,hk,KC,JT⟩:=y;exact show Κ _ A (load s.heap.objs.size >>= _) _ _ _ from a_ (wpAny_load KC (f_ (h h' tk acc (j_ KC) hk JT)))
 ·obtain⟨_,_,_,_,e',_⟩:=x;cases e'
end
section
variable {X:Cx}
theorem Inv.Jy (I:Inv X pins σ H s)(e:Rd H p (.dK kvs)):kvs.length<=Ζ/\(p == sysModules)=Ξ/\∃vs o es ep,KV kvs vs/\s.heap.get? p=Δ o/\o.data=.dict es ep/\s.heap.DictAt (ja X.prog X.w) p vs ep:=by obtain⟨h1,h2,vs,kv,o,es,ep,ho,c,hd,r⟩:=e.ok I.JD;exact⟨h1,h2,vs,o,es,ep,kv,ho,hd,o,es,ho,c,hd,r⟩
theorem KV.at:∀ {kvs:List (κ×V)}{vs:List (κ×Ψ)} (r:KV kvs vs) {i:Nat}{q:κ×Ψ},vs[i]? = Δ q->∃v,kvs[i]? = Δ (q.1,v)/\RelV v q.2
 |_,_,.nil,_,_,h=>by simp at h
 | (k,v)::_,q'::_,.cons r _,0,q,h=>by cases h;obtain⟨r1,r2⟩:=r;have r1:k=q'.1:=r1;subst r1;exact⟨v,rfl,r2⟩
 |_,_,.cons _ r,i+1,q,h=>KV.at r (i:=i) (by simpa using h)
theorem KV.len (r:KV kvs vs):kvs.length=vs.length:=Paired.length r
theorem vN:jD X (.builtin "len") (fun xs H Q=>∃(p:Ω) (kvs:List (Key×V)),xs=[.ref p]/\Rd H p (.dK kvs)/\Q (.int kvs.length) H):=by intro pins s σ H xs us Q I r h;obtain⟨p,kvs,rfl,hp,q⟩:=h;obtain⟨u,rfl,rx⟩:=vals1 r;cases rx;obtain⟨hz,lo,vs,o,es,ep,kv,ho,hd,hm⟩:=I.Jy hp;have hs:Ζ=16777216:=sizeLine_eq;have hl:=kv.len;exact call_len_dict lo hm.dictOf (by omega) ⟨.int kvs.length,H,I.tok _,⟨_,by rw[hl]⟩,q⟩
theorem DK (h:(ja P w).is k u=Θ):RelV (kV k) u:=by
 rcases iY h with⟨i,t,rfl,rfl⟩|⟨x,t,rfl,rfl⟩
 ·exact⟨t,rfl⟩
 ·exact⟨t,rfl⟩
end
noncomputable def UR (K:Frag)(l:Ω):It:=
 ⟨fun i H=>∃xs x,Kf K H l xs/\xs[i]? = Δ x,
  fun i H v H'=>∃T x,v=.ref T/\H T=Φ/\H'=upd H T (.tup [.int i,x])/\∀xs,Kf K H l xs->xs[i]? = Δ x,
  fun i H=>∃xs,Kf K H l xs/\xs.length<=i⟩
theorem vO {P:Ε}{w:Β}{K:Frag}{es:List Expr}{c:Nat}{pos:Pos}(e it l:Ω)(Ly:e≠it) :
  Turn P w K (.Tuple es c pos) (UR K l) [e,it] e (fun n h=>(∃old,IsEnum h e it n old)/\h.IsListIter it l n) where
 mem:=by simp
 obj:=fun n h st b hb=>by
  obtain⟨⟨old,he⟩,ci⟩:=st;simp only[k_,I_,or_false]at hb;rcases hb with rfl|rfl
  ·exact⟨_,he,fun v z=>by cases z⟩
  ·obtain⟨o,e,c,d⟩:=ci;exact⟨o,e,fun v z=>by rw[d]at z;cases z⟩
 keep:=fun n h h' st k=>by obtain⟨⟨old,he⟩,ci⟩:=st;exact⟨⟨old,k e (by simp) _ he⟩,ci.at fun o q=>k it (by simp) o q⟩
 item:=by
  intro X hP hw hK hc n pins s σ H E I hf st hg;subst hP hw hK;obtain⟨⟨old,he⟩,ci⟩:=st;obtain⟨xs,x,hq,hx⟩:=hg;obtain⟨its,rv,p,hz⟩:=I.list hq;obtain⟨u,hu,ru⟩:=rv.get hx;refine wpAny_pyNext_enum_item he ci p.isList (x:=u) (by simpa using hu) Ly fun h1 a1 a2 a3 a4 hk=>?_;refine⟨_,rfl,?_⟩;have le:e < s.heap.objs.size:=j_ he;have ZK:s.heap.objs.size≠e:=U_ le;refine wpAny_letOwnedTupleGo_enum (s:={s with heap:=h1,toks:=s.toks+1}) a1 fun h2 ZL Lw=>?_;have kk:∀b o,b∉[e,it]->s.heap.get? b=Δ o->h2.get? b=Δ o:=fun b o hb q=>by simp only[k_,I_,or_false,not_or]at hb;exact Lw.extBut _ _ hb.1 (hk b o hb.1 hb.2 q)
  have hT:=Lw.extBut _ _ ZK a3;have I2:Inv X pins σ (upd H s.heap.objs.size (.tup [.int n,x])) {s with heap:=h2,toks:=s.toks+1}:=I.Nd (t':=s.toks+1) kk hf (m_ _) ⟨by show 2<=Ζ;decide,[.int n s.toks,u],.cons ⟨_,rfl⟩ (.cons ru .nil),⟨_,hT,rfl,_,rfl⟩⟩;refine⟨.ref s.heap.objs.size,_,I2,rfl,⟨_,x,rfl,I.JD.fresh (m_ _),rfl,fun UA g1=>by rw[I.J2 g1 hq];exact hx⟩,⟨⟨_,by rw[Int.natCast_succ];exact ZL⟩,a2.at fun o q=>Lw.extBut _ _ Ly.symm q⟩,fun b hb=>?_⟩;have Mx:b < s.heap.objs.size:=by
   simp only[k_,I_,or_false]at hb;rcases hb with rfl|rfl
   ·exact le
   ·obtain⟨o,q,_⟩:=ci;exact j_ q
  rw[iI (p_ Mx)];exact(hf b hb).1
 done:=by
  intro X hP hw hK hc n pins s σ H E I hf st hg;subst hP hw hK;obtain⟨⟨old,he⟩,ci⟩:=st;obtain⟨xs,hq,hx⟩:=hg;obtain⟨its,rv,p,hz⟩:=I.list hq;have l1:=rv.length;refine wpAny_pyNext_enum_end (I.ok.hd hc) he ci p.isList (Array.getElem?_eq_none (by simp;omega)) fun h1 hk=>⟨rfl,I.turns (t':=s.toks) (ch:=[e,it]) (fun b o hb q=>?_) hf⟩
  simp only[k_,I_,or_false,not_or]at hb;exact hk b o hb.2 q
 self:=fun _ _ _ _ _ st h=>by obtain⟨⟨old,he⟩,_⟩:=st;exact wpAny_pyIter_enum he h
def HK (K:Frag)(ta:TA):TI:=fun σ H R=>ta σ H fun vs H1=>∃l xs,vs=[.ref l]/\Kf K H1 l xs/\R (UR K l) H1
theorem AM (hg:Gl X "enumerate") (hm:X.mg "enumerate" = Φ) (ha:PA X [a] ta) (hs:Ν [a] X.env=[(Ξ,eval a X.env)]) :
  PI X (.Tuple es c tp) (.Call (.Name "enumerate" p) [a] [] pos) (HK X.K ta):=by
 intro pins s σ H R I h;refine Call_ (kD I hg hm boot_enumerate (aaF (JG (ha pos pins s σ H _ I h) fun us s1 ⟨vs,H1,I1,r1,q1⟩=>?_) hs rfl));obtain⟨l,xs,e,g1,q⟩:=q1;subst e;obtain⟨u,rfl,r⟩:=vals1 r1;cases r;obtain⟨L1,MQ,p1,hz⟩:=I1.list g1;refine call_enumerate_list p1.isList fun h2 b1 b2 b3 b4=>?_;refine wpAny_pyIter_enum (s:={s1 with heap:=h2}) b1 ?_;refine⟨s1.heap.objs.size+1,[s1.heap.objs.size+1,s1.heap.objs.size],_,_,H1,rfl,I1.kept (t':=s1.toks) b4,vO _ _ l (Nat.succ_ne_self _),⟨⟨_,b1⟩,b2⟩,fun b hb=>?_,q⟩;have Mx:s1.heap.objs.size<=b:=by
  simp only[k_,I_,or_false]at hb;rcases hb with rfl|rfl
  ·exact aar _ _
  ·exact m_ _
 exact I1.Mb Mx (I1.JD.fresh Mx)
section
variable {X:Cx}
theorem tW:∀ {vs:List Ψ}{kvs:List (Key×V)},vs.length=kvs.length->(∀(i:Nat) (v:Ψ),vs[i]? = Δ v->∃k x,kvs[i]? = Δ (k,x)/\RelV (kV k) v)->Vals (kvs.map fun q=>kV q.1) vs
 |[],[],_,_=>.nil
 |v::vs,q::kvs,hl,h=>by obtain⟨k,x,e,r⟩:=h 0 v rfl;cases e;exact .cons r (tW (by simpa using hl) fun i u hu=>h (i+1) u hu)
 |[],_::_,hl,_=>by simp at hl
 |_::_,[],hl,_=>by simp at hl
theorem nU (hc:X.calm=Θ):jD X (.type "list") (fun xs H Q=>∃(p:Ω) (kvs:List (Key×V)),xs=[.ref p]/\Rd H p (.dK kvs)/\∀l,H l=Φ->Q (.ref l) (upd H l (.lst (kvs.map fun q=>kV q.1)))):=by
 intro pins s σ H xs us Q I r h;obtain⟨p,kvs,rfl,hp,q⟩:=h;obtain⟨u,rfl,rx⟩:=vals1 r;cases rx;obtain⟨hz,lo,vs,o,es,ep,kv,ho,hd,hm⟩:=I.Jy hp;have hv:=kv.len;refine PySem.W.kdl_call (PySem.W.kdl_dict lo) (I.ok.hd hc) hm (by rw[<- hv];exact hz) fun h' tk acc c k e JT=>?_;have rv:Vals (kvs.map fun q=>kV q.1) acc.toList:=tW (by rw[O_,JT.1];exact hv.symm) fun i v hi=>by obtain⟨k,x,e1,e2⟩:=JT.2 i v (by rw[<- aam];exact hi);obtain⟨y,e3,_⟩:=kv.at e1;exact⟨k,y,e3,DK e2⟩
 have J:=I.laid (t':=tk) (o:=.lst (kvs.map fun q=>kV q.1)) k (m_ _) (show iV X.prog X.w _ _ _ (.lst _) from⟨by rw[i_];exact hz,acc.toList,c,rv,by simpa using e⟩);exact⟨.ref _,_,J,rfl,q _ (I.JD.fresh (m_ _))⟩
end
open PySem.W
noncomputable def S4 (a b:Str):Bool:=decide (a.cps.toList < b.cps.toList)
noncomputable def kR (n:Nat)(c:Nat->Nat->Bool):List Nat:=if n < 2 then List.range n else(wL c (kas_sort n)).toList
theorem mH (n:Nat)(c:Nat->Nat->Bool):(kR n c).Perm (List.range n):=by
 unfold kR;by_cases h:n < 2
 ·rw[e_ h]
 ·rw[d_ h];have:=(tJ (n:=n) (by omega)).run c;have h2:=Array.Perm.toList this;simpa using h2
noncomputable def kG (ks:List Str):List Nat:=kR ks.length fun i j=>S4 (ks.getD i ⟨#[]⟩) (ks.getD j ⟨#[]⟩)
section
variable {prog:Ε}{w:Β}{A:Ι}{E:Ψ->Α->Prop}{s:Α}
theorem sE {a:Ω}{vs:List Ψ}{n:Nat}{P:PySem.Fin->Α->Prop}{κ:SortKind}{c:Nat->Nat->Bool}(ho:s.heap.get? a=Δ (seqObj "list" vs.toArray n)) (LS:vs.length < 64)
  (kind:∀g:Heap,(∀b o,b≠a->s.heap.get? b=Δ o->g.get? b=Δ o)->2<=vs.length->∀Q:SortKind->Α->Prop,Q κ {s with heap:=g}->Κ (Μ prog w) A (keyKind' vs.toArray) Q E {s with heap:=g})
  (ask:∀g:Heap,(∀b o,b≠a->s.heap.get? b=Δ o->g.get? b=Δ o)->∀(B:Ι) (i j:Nat) (C:Bool->Α->Prop),i < vs.length->j < vs.length->C (c i j) {s with heap:=g}->kas_ask prog w B κ vs i j C {s with heap:=g})
  (fin:∀h' m,(∀b o,b≠a->s.heap.get? b=Δ o->h'.get? b=Δ o)->h'.get? a=Δ (seqObj "list" ((kR vs.length c).map fun i=>vs.getD i Value.none).toArray m)->P (.done (.ret .none)) {s with heap:=h'}) :
  Κ (Μ prog w) A (Builtin.«list.sort» ⟨[.ref a],[]⟩) P E s:=by
 have ltA:a < s.heap.objs.size:=j_ ho;have small:vs.toArray.size<=Ζ:=by rw[A_,sizeLine_eq];omega
 generalize US:s.heap.update a (ι fun _=>(#[]:Array Ψ))=g1;obtain⟨c1,o1⟩:∃c1,g1.get? a=Δ (seqObj "list" #[] c1):=⟨_,by rw[<- US];exact get?_update_seq ho fun _=>#[]⟩
 have k1:∀b o,b≠a->s.heap.get? b=Δ o->g1.get? b=Δ o:=fun b o hb e=>by rw[<- US];exact(aai _ _ (Ne.symm hb)).trans e
 generalize UT:(g1.push (seqObj "tuple" vs.toArray 0)).push (seqObj "list" #[] 0)=g3;have o3:g3.get? a=Δ (seqObj "list" #[] c1):=by rw[<- UT];exact l_ _ (l_ _ o1)
 have k3:∀b o,b≠a->s.heap.get? b=Δ o->g3.get? b=Δ o:=fun b o hb e=>by rw[<- UT];exact l_ _ (l_ _ (k1 b o hb e))
 have last:∀out:List Ψ,out.length<=Ζ->out=(kR vs.length c).map (fun i=>vs.getD i Value.none)->P (.done (.ret .none)) {s with heap:=g3.update a (ι fun _=>out.toArray)}:=fun out _ eo=>by
  obtain⟨c2,o2⟩:∃c2,(g3.update a (ι fun _=>out.toArray)).get? a=Δ (seqObj "list" out.toArray c2):=⟨_,get?_update_seq o3 fun _=>out.toArray⟩
  exact fin _ c2 (fun b o hb e=>(aai _ _ (Ne.symm hb)).trans (k3 b o hb e)) (by rw[<- eo];exact o2)
 rw[list_sort_plain];refine a_ (listItems_at ho rfl ?_);refine a_ (listUpdate_at ho rfl ?_ small (Y_ _));rw[US];refine a_ (seqEpoch_at o1 rfl ?_);refine a_ (wpAny_newTuple ?_ (by rw[sizeLine_eq];show vs.length<=_;omega));refine a_ (wpAny_newList ?_ (Y_ _));refine M_ ?_;have e3:(g1.push {cls:=.type "tuple",data:=.seq vs.toArray.toList.toArray}).push {cls:=.type "list",data:=.seq ([]:List Ψ).toArray} = g3:=UT;show Κ (Μ prog w) A _ P E {s with heap:=(g1.push {cls:=.type "tuple",data:=.seq vs.toArray.toList.toArray}).push {cls:=.type "list",data:=.seq ([]:List Ψ).toArray}};rw[e3];dsimp only;by_cases h2:vs.toArray.size < 2
 ·rw[e_ h2,e_ h2];refine a_ (f_ ?_);rw[StateT.run_pure];refine a_ (f_ ?_);dsimp only;have ea:(arrOf (SortSt.mk' general' (vs.toArray.zip vs.toArray) #[] 7 Φ)).map (·.2)=vs.toArray:=by
   show(vs.toArray.zip vs.toArray).map (·.2)=vs.toArray;apply Array.ext
   ·simp
   ·intro i _ _;simp
  rw[ea];refine a_ (seqEpoch_at o3 rfl ?_);refine a_ (listUpdate_at o3 rfl ?_ (Y_ _) (Nat.le_succ_of_le small));simp only[bne_self_eq_false,aaq,if_false];refine f_ (last vs (by simpa using small) ?_);unfold kR;rw[e_ (by simpa using h2),si]
 ·rw[d_ h2,d_ h2];have S5:2<=vs.length:=by rw[A_]at h2;omega
  refine a_ (kind g3 k3 S5 _ ?_)
  refine a_ (wpAny_mono (kat_run (s:={s with heap:=g3}) (ks:=vs) (G:=fun p s'=>p=wL c (kas_sort vs.length)/\s' = {s with heap:=g3}) (Q:=fun L8 s'=>(arrOf L8).map (·.2)=((kR vs.length c).map fun i=>vs.getD i Value.none).toArray/\failedOf L8=Φ/\s' = {s with heap:=g3}) rfl S5 LS
   (fun p L8 s' a1 a2 a3 a4=>⟨?_,a3,a4.2⟩) ?_) ?_ fun _ _ e=>e)
  ·rw[kat_snds rfl a2,a4.1];unfold kR;rw[d_ (by omega)]
  ·exact(tJ (n:=vs.length) (by omega)).wp (fun i j C hi hj hc=>ask g3 k3 _ i j C hi hj hc) ⟨rfl,rfl⟩
  ·rintro⟨⟨⟩,L8⟩ s' ⟨b1,b2,rfl⟩;dsimp only;rw[b1];have sz:((kR vs.length c).map fun i=>vs.getD i Value.none).toArray.size<=Ζ:=by rw[A_,i_,(mH _ _).length_eq,aac,sizeLine_eq];omega
   refine a_ (seqEpoch_at (s:={s with heap:=g3}) o3 rfl ?_);refine a_ (listUpdate_at (s:={s with heap:=g3}) o3 rfl ?_ (Y_ _) (Nat.le_succ_of_le sz));rw[b2];simp only[bne_self_eq_false,aaq,if_false];exact f_ (last _ (by simpa using sz) rfl)
end
section
variable {prog:Ε}{w:Β}{A:Ι}{E:Ψ->Α->Prop}{s:Α}
theorem qV {r:Ω}{n:Nat}{Q:Ψ->Α->Prop}{κ:SortKind}{c:Nat->Nat->Bool}(G:Heap->List Ψ->Prop)(LS:n < 64)
  (UU:∀(E':Ψ->Α->Prop) (R:List Ψ->Α->Prop),(∀h' tk vs,(∀b o,s.heap.get? b=Δ o->h'.get? b=Δ o)->s.heap.objs.size<=h'.objs.size->G h' vs->R vs {s with heap:=h',toks:=tk})->Κ (Μ prog w) A.in1 (collect (.ref r)) R E' s)
  (hn:∀h vs,G h vs->vs.length=n) (hk:∀h h' vs,G h vs->(∀b o,h.get? b=Δ o->h'.get? b=Δ o)->G h' vs)
  (kind:∀(s':Α) vs,G s'.heap vs->2<=n->∀(A':Ι) (E':Ψ->Α->Prop) (Q:SortKind->Α->Prop),Q κ s'->Κ (Μ prog w) A' (keyKind' vs.toArray) Q E' s')
  (ask:∀(s':Α) vs,G s'.heap vs->∀(B:Ι) (i j:Nat) (C:Bool->Α->Prop),i < n->j < n->C (c i j) s'->kas_ask prog w B κ vs i j C s')
  (h:∀h' tk D vs m,(∀b o,s.heap.get? b=Δ o->h'.get? b=Δ o)->s.heap.objs.size<=D->(∃h1,G h1 vs/\h1.objs.size=D/\∀b o,h1.get? b=Δ o->h'.get? b=Δ o)->h'.get? D=Δ (seqObj "list" ((kR n c).map fun i=>vs.getD i Value.none).toArray m)->Q (.ref D) {s with heap:=h',toks:=tk}) :
  Κ (Μ prog w) A (call (.builtin "sorted") [.ref r]) Q E s:=by
 refine Calls.call_function_entry kind_sorted plain_sorted entry_sorted (args_sorted1 _) ?_;unfold Builtin.«sorted»;refine a_ (m:=checkCount "sorted" 1 1 _) (f_ (a_ (UU _ _ fun h' tk vs k0 hz g0=>?_)));have hl:=hn _ _ g0;refine a_ (wpAny_newList ?_ (by rw[hl,sizeLine_eq];omega));have gL:(h'.push (seqObj "list" vs.toArray 0)).get? h'.objs.size=Δ (seqObj "list" vs.toArray 0):=u_ _ rfl;have kp:∀b o,h'.get? b=Δ o->(h'.push (seqObj "list" vs.toArray 0)).get? b=Δ o:=fun b o e=>l_ _ e;have ne:∀b o,h'.get? b=Δ o->b≠h'.objs.size:=fun b o e=>p_ (j_ e)
 refine a_ (M_ (aab (s:={s with heap:=h'.push (seqObj "list" vs.toArray 0),toks:=tk}) slot_list_sort ⟨_,gL,rfl⟩ entry_list_sort (sE (s:={s with heap:=h'.push (seqObj "list" vs.toArray 0),toks:=tk}) (κ:=κ) (c:=c) gL (by omega)
  (fun g k h2 Q hQ=>kind {s with heap:=g,toks:=tk} vs (hk _ _ _ g0 fun b o e=>k b o (ne b o e) (kp b o e)) (by omega) _ _ Q hQ)
  (fun g k B i j C hi hj hC=>ask {s with heap:=g,toks:=tk} vs (hk _ _ _ g0 fun b o e=>k b o (ne b o e) (kp b o e)) B i j C (by omega) (by omega) hC) fun h2 m k2 o2=>⟨_,rfl,?_⟩) (args_list_sort _)))
 exact f_ ⟨_,rfl,h h2 tk _ vs m (fun b o e=>k2 b o (ne b o (k0 b o e)) (kp b o (k0 b o e))) hz ⟨h',g0,rfl,fun b o e=>k2 b o (ne b o e) (kp b o e)⟩ (by rw[hl]at o2;exact o2)⟩
theorem StrsAre.at:∀ {vs:List Ψ}{ks:List Str},StrsAre vs ks->∀i,i < ks.length->∃t,vs.getD i Value.none=.str (ks.getD i ⟨#[]⟩) t
 |_,_,.cons y t h,0,_=>⟨t,rfl⟩
 |_,_,.cons y t h,i+1,hi=>by obtain⟨u,e⟩:=StrsAre.at h i (by simpa using hi);exact⟨u,by simpa using e⟩
theorem StrsAre.ln:∀ {vs:List Ψ}{ks:List Str},StrsAre vs ks->vs.length=ks.length
 |_,_,.nil=>rfl
 |_,_,.cons y t h=>by rw[List.length_cons,List.length_cons,StrsAre.ln h]
theorem nV:∀(vs:List Ψ) (ks:List Str),vs.length=ks.length->(∀(i:Nat) (v:Ψ),vs[i]? = Δ v->∃n t,ks[i]? = Δ n/\v=Value.str n t)->StrsAre vs ks
 |[],[],_,_=>.nil
 |v::vs,n::ns,hl,h=>by obtain⟨m,t,e,rfl⟩:=h 0 v rfl;cases e;exact .cons _ t (nV vs ns (by simpa using hl) fun i u hu=>h (i+1) u hu)
 |[],_::_,hl,_=>by simp at hl
 |_::_,[],hl,_=>by simp at hl
end
theorem mI {n:Nat}{f:Nat->V}{g:Nat->Ψ}(h:∀i,i < n->RelV (f i) (g i)):∀is:List Nat,(∀i∈is,i < n)->Vals (is.map f) (is.map g)
 |[],_=>.nil
 |i::is,hi=>.cons (h i (hi i (by simp))) (mI h is fun j hj=>hi j (H_ _ hj))
theorem lY {n:Nat}{c:Nat->Nat->Bool}:∀i∈kR n c,i < n:=fun i hi=>V_.mp ((mH n c).mem_iff.mp hi)
theorem kS {n:Nat}{c:Nat->Nat->Bool}:(kR n c).length=n:=by rw[(mH n c).length_eq,aac]
section
variable {X:Cx}
theorem tX {kvs:List (Key×V)}{ks:List Str}{vs:List (Key×Ψ)}(kv:KV kvs vs)(hk:kvs.map (·.1)=ks.map Sum.inr){i:Nat}{k:Key}{x v:Ψ}(e1:vs[i]? = Δ (k,x))(e2:mT k v=Θ):∃n t,ks[i]? = Δ n/\v=Value.str n t:=by
 obtain⟨y,e3,_⟩:=kv.at e1;have e4:(kvs.map (·.1))[i]? = Δ k:=by rw[y_,e3];rfl
 rw[hk,y_]at e4;cases en:ks[i]? with
 |none=>rw[en]at e4;cases e4
 |some n=>
  rw[en]at e4;have e5:Sum.inr n=k:=J_ e4;subst e5;rcases iY (show mT (Sum.inr n) v=Θ from e2) with⟨j,t,h1,h2⟩|⟨j,t,h1,h2⟩
  ·cases h1
  ·cases h1;exact⟨n,t,rfl,h2⟩
theorem p7 (hc:X.calm=Θ):jD X (.builtin "sorted") (fun xs H Q=>∃(p:Ω) (kvs:List (Key×V)) (ks:List Str),xs=[.ref p]/\Rd H p (.dK kvs)/\kvs.map (·.1)=ks.map Sum.inr/\ks.length < 64/\∀l,H l=Φ->Q (.ref l) (upd H l (.lst ((kG ks).map fun i=>V.str (ks.getD i ⟨#[]⟩))))):=by
 intro pins s σ H xs us Q I r h;obtain⟨p,kvs,ks,rfl,hp,hk,LS,q⟩:=h;obtain⟨u,rfl,rx⟩:=vals1 r;cases rx;obtain⟨hz,lo,vs,o,es,ep,kv,ho,hd,hm⟩:=I.Jy hp;have hl:kvs.length=ks.length:=by have:=congrArg List.length hk;simpa using this
 have hv:=kv.len;refine qV (n:=ks.length) (κ:=oneType') (c:=fun i j=>S4 (ks.getD i ⟨#[]⟩) (ks.getD j ⟨#[]⟩)) (fun _ ws=>StrsAre ws ks) LS
  (fun E' R hR=>p6 (A:=X.A.in1) lo (I.ok.hd hc) hm (by omega) fun h' tk acc JU k0 JT=>hR h' tk _ k0 (Nat.le_of_lt JU) (nV _ _ (by rw[O_,JT.1];omega) fun i v e=>?_))
  (fun _ _ g=>StrsAre.ln g) (fun _ _ _ g _=>g) (fun s' ws g h2 A' E' Q hQ=>?_) (fun s' ws g B i j C hi hj hC=>?_) fun h' tk Dn ws m k0 hD ⟨h1,g,_,_⟩ e=>?_
 ·obtain⟨k,x,e1,e2⟩:=JT.2 i v (by rw[<- aam];exact e);exact tX kv hk e1 e2
 ·have Pm:=StrsAre.ln g
  match ws,Pm,g with
  |[],Pm,_=>simp at Pm;omega
  |[_],Pm,_=>simp at Pm;omega
  |v1::v2::ws,_,g=>rw[keyKind_strs g];exact f_ hQ
 ·obtain⟨t,e1⟩:=StrsAre.at g i hi;obtain⟨t',e2⟩:=StrsAre.at g j hj;unfold kas_ask;rw[e1,e2];exact kas_lt_str hC
 ·exact⟨.ref _,_,I.laid (t':=tk) k0 hD (show iV X.prog X.w _ h' _ (.lst _) from⟨by rw[i_];show(kR _ _).length<=_;rw[kS,sizeLine_eq];omega,_,m,mI (fun i hi=>by
   obtain⟨t,e1⟩:=StrsAre.at g i hi;rw[e1]
   exact⟨t,rfl⟩) _ lY,e⟩),rfl,q _ (I.JD.fresh hD)⟩
end
def B9 (ks:List Str)(ns:List Int)(lo:Ω)(h:Heap)(as:List Ω):Prop:=as.Pairwise (· < ·)/\(∀a∈as,lo < a)/\as.length=ks.length/\∀(j:Nat) (a:Ω),as[j]? = Δ a->∃t u,h.get? a=Δ {cls:=.type "tuple",data:=.seq #[.str (ks.getD j ⟨#[]⟩) t,.int (ns.getD j 0) u]}
theorem nW {h:Heap}:∀(as:List Ω),(∀a∈as,∃k t n u,h.get? a=Δ {cls:=.type "tuple",data:=.seq #[.str k t,.int n u]})->∃fs,KatTups h (as.map θ) fs/\fs.length=as.length/\∀f∈fs,∃k t,f=Value.str k t
 |[],_=>⟨[],KatTups.nil,rfl,fun f hf=>by simp at hf⟩
 |a::as,hk=>by
  obtain⟨k,t,n,u,e⟩:=hk a (.head _);obtain⟨fs,h1,h2,h3⟩:=nW as fun b hb=>hk b (.tail _ hb);refine⟨.str k t::fs,KatTups.cons e rfl rfl rfl h1,by rw[List.length_cons,List.length_cons,h2],fun f hf=>?_⟩;rcases k_.mp hf with rfl|hf
  ·exact⟨k,t,rfl⟩
  ·exact h3 f hf
theorem xx (k:Str):S4 k k=Ξ:=S_ (List.lt_irrefl _)
theorem nX {as:List Ω}{i:Nat}{a:Ω}(h:as[i]? = Δ a):(as.map θ).getD i Value.none=.ref a:=by rw[Z_,y_,h];rfl
section
variable {X:Cx}{pins:List (Ω×Obj)}{σ:St}{H:Hp}{s:Α}
theorem AN {A:Ι}{E:Ψ->Α->Prop}{a:Ω}{kvs:List (Key×V)}{Q:Ψ->Α->Prop}(I:Inv X pins σ H s)(e:Rd H a (.dK kvs))
  (h:∀v s',Inv X pins σ H s'->s'.heap.IsItemsView v a->Q (.ref v) s'):Κ (Μ X.prog X.w) A (call (.builtin "dict.items") [.ref a]) Q E s:=by
 obtain⟨z,hd,vs,rel,dd⟩:=pC I.JD e;refine call_meetsIn F.slot_dict_items dd.typeIs F.entry_dict_items (F.args_dict_items_1 _) (meets_dict_items (ja X.prog X.w) a hd) ⟨⟨_,dd⟩,?_⟩;exact h _ _ (I.kept (t':=s.toks) fun b o q=>l_ _ q) ⟨_,u_ _ rfl,rfl,rfl⟩
theorem xA {A:Ι}{E:Ψ->Α->Prop}{a v:Ω}{kvs:List (Key×V)}{ks:List Str}{ns:List Int}{Q:Ψ->Α->Prop}(hh:A.handled=Φ)(I:Inv X pins σ H s)(e:Rd H a (.dK kvs))(hk:kvs.map (·.1)=ks.map Sum.inr)(hn:kvs.map (·.2)=ns.map V.int)(nd:ks.Nodup)(LS:0 < ks.length/\ks.length < 64)(hv:s.heap.IsItemsView v a)
  (h:∀h' tk D as m,(∀b o,s.heap.get? b=Δ o->h'.get? b=Δ o)->s.heap.objs.size<=D->B9 ks ns s.heap.objs.size h' as->(∀b∈as,b < D)->h'.get? D=Δ (seqObj "list" ((kG ks).map fun i=>(as.map θ).getD i Value.none).toArray m)->Q (.ref D) {s with heap:=h',toks:=tk}) :
  Κ (Μ X.prog X.w) A (call (.builtin "sorted") [.ref v]) Q E s:=by
 obtain⟨hz,lo,vs,o,es,ep,kv,ho,hd,hm⟩:=I.Jy e;have hl:kvs.length=ks.length:=by have:=congrArg List.length hk;simpa using this
 have hlen:=kv.len;refine qV (n:=ks.length) (κ:=tuples' (Value.type "str" != Value.type "tuple")) (c:=fun i j=>S4 (ks.getD i ⟨#[]⟩) (ks.getD j ⟨#[]⟩)) (fun g ws=>∃as,ws=as.map θ/\B9 ks ns s.heap.objs.size g as) LS.2
  (fun E' R hR=>kdx_collect (A:=A.in1) (knd:=ja X.prog X.w) (kvs:=vs) (ep:=ep) hh hv hm (by omega) fun h' tk as k0 al G=>hR h' tk _ k0 ?_ ⟨as,rfl,G.rise,G.above,by omega,fun j b hj=>?_⟩)
  (fun _ ws ⟨as,e1,e2⟩=>by rw[e1,i_];exact e2.2.2.1) (fun g g' ws ⟨as,e1,t1,t2,t3,t4⟩ k=>⟨as,e1,t1,t2,t3,fun j b hj=>(t4 j b hj).imp fun t ⟨u,q⟩=>⟨u,k _ _ q⟩⟩) (fun s' ws ⟨as,e1,t1,t2,t3,t4⟩ h2 A' E' Q hQ=>?_) (fun s' ws ⟨as,e1,t1,t2,t3,t4⟩ B i j C hi hj hC=>?_) fun h' tk Dn ws m k0 hD ⟨h1,⟨as,e1,t1,t2,t3,t4⟩,ez,k1⟩ e=>?_
 ·have l0:0 < as.length:=by omega
  have m0:=aax l0;exact Nat.le_of_lt (Nat.lt_trans (G.above _ m0) (G.there m0))
 ·obtain⟨key,k,x,p1,p2,p3⟩:=G.pairs j b hj;obtain⟨n,t,q1,rfl⟩:=tX kv hk p1 p2;obtain⟨y,q2,q3⟩:=kv.at p1;have q4:(kvs.map (·.2))[j]? = Δ y:=by rw[y_,q2];rfl
  rw[hn,y_]at q4;obtain⟨m,q5,q6⟩:=aal.mp q4;subst q6;obtain⟨u,rfl⟩:=q3;refine⟨t,u,?_⟩;rw[Z_,q1,Z_,q5];exact p3
 ·subst e1;obtain⟨fs,f1,f2,f3⟩:=nW (h:=s'.heap) as fun b hb=>by obtain⟨j,hj⟩:=aaj.mp hb;obtain⟨t,u,q⟩:=t4 j b hj;exact⟨_,t,_,u,q⟩
  exact kat_kind (T:=.type "str") f1 (by omega) (fun v hv=>by
   obtain⟨k,tk,rfl⟩:=f3 v hv
   exact Looks.of_pure rfl) (by decide) hQ
 ·subst e1;have li:i < as.length:=by omega
  have lj:j < as.length:=by omega
  obtain⟨t,u,q⟩:=t4 i _ (v_ li);obtain⟨t',u',q'⟩:=t4 j _ (v_ lj);unfold kas_ask;rw[nX (v_ li),nX (v_ lj)];refine kat_lt q rfl q' rfl ?_;show KatLex _ _ _ _ _ _ [(_,_),(_,_)] 0 _;refine kat_cons (eqBool_str ?_);by_cases ek:ks.getD i ⟨#[]⟩=ks.getD j ⟨#[]⟩
  ·have ZM:i=j:=by rw[Z_,Z_,v_ hi,v_ hj]at ek;exact(List.getElem?_inj hi nd).mp (by rw[v_ hi,v_ hj];exact congrArg Δ ek)
   subst ZM;rw[beq_self_eq_true];refine kat_yes (kat_cons (wpAny_eqBool_int ?_));rw[beq_self_eq_true];refine kat_yes (kat_nil ?_);rw[xx]at hC;exact hC
  ·rw[beq_eq_false_iff_ne.mpr ek];refine kat_no ?_;exact oneLt_str hC
 ·subst e1
  exact h h' tk Dn as m k0 hD ⟨t1,t2,t3,fun j b hj=>(t4 j b hj).imp fun t ⟨u,q⟩=>⟨u,k1 _ _ q⟩⟩ (fun b hb=>by
   obtain⟨j,hj⟩:=aaj.mp hb;obtain⟨t,u,q⟩:=t4 j b hj;rw[<- ez]
   exact j_ q) e
end
def FP (td:TE):TE:=fun σ H Q=>td σ H fun x H1=>∃(a:Ω) (kvs:List (Key×V)) (ks:List Str) (ns:List Int),x=.ref a/\Rd H1 a (.dK kvs)/\kvs.map (·.1)=ks.map Sum.inr/\kvs.map (·.2)=ns.map V.int/\ks.Nodup/\(0 < ks.length/\ks.length < 64)/\
 ∀(as:List Ω) (D:Ω) (H':Hp),iL H1 H'->H1 D=Φ->H' D=Δ (.lst ((kG ks).map fun i=>V.ref (as.getD i 0)))->as.length=ks.length->(∀(j:Nat) (b:Ω),as[j]? = Δ b->H' b=Δ (.tup [.str (ks.getD j ⟨#[]⟩),.int (ns.getD j 0)]))->Q (.ref D) H'
theorem tY {X:Cx}{o:Expr}{p pos apos IF:Pos}{td:TE}(hc:X.calm=Θ)(g1:Gl X "sorted") (m1:X.mg "sorted" = Φ) (ho:PE X o td) (Lc:attributeBase o "items" X.env (eval o X.env)=eval o X.env) (M':(apos.endLine == IF.line)=Θ) :
  PE X (.Call (.Name "sorted" p) [.Call (.Attribute o "items" apos) [] [] IF] [] pos) (FP td):=by
 intro pins s σ H Q I h;refine wpAny_Call_Name_kw (kD (u:=.builtin "sorted") I g1 m1 (by decide +kernel) ?_ (by decide) (by decide));refine PyProof.Rows.callWith_builtin1 ?_ rfl rfl;show Κ _ _ (spliced ((Ξ,eval (.Call (.Attribute o "items" apos) [] [] IF) X.env)::backTo pos (Ν [] X.env))) _ _ s
 have key:Κ (Μ X.prog X.w) X.A (eval (.Call (.Attribute o "items" apos) [] [] IF) X.env) (fun u s1=>∃(v:Ω) (H1:Hp) (a:Ω) (kvs:List (Key×V)) (ks:List Str) (ns:List Int),u=.ref v/\Inv X pins σ H1 s1/\s1.heap.IsItemsView v a/\Rd H1 a (.dK kvs)/\kvs.map (·.1)=ks.map Sum.inr/\kvs.map (·.2)=ns.map V.int/\ks.Nodup/\(0 < ks.length/\ks.length < 64)/\
   ∀(as:List Ω) (D:Ω) (H':Hp),iL H1 H'->H1 D=Φ->H' D=Δ (.lst ((kG ks).map fun i=>V.ref (as.getD i 0)))->as.length=ks.length->(∀(j:Nat) (b:Ω),as[j]? = Δ b->H' b=Δ (.tup [.str (ks.getD j ⟨#[]⟩),.int (ns.getD j 0)]))->Q (.ref D) H') X.xe s:=by
  refine wpAny_Call_method0_late Lc M' (JG (ho pins s σ H _ I h) fun u s1 ⟨x,H1,I1,r1,a,kvs,ks,ns,ex,rd,q1⟩=>?_);subst ex;obtain rfl:u=θ a:=r1;obtain⟨t1,t2,_⟩:=wR I1 (.inl ⟨kvs,rd⟩);exact⟨"dict","dict.items",PySem.F.plainAttrs_dict,PySem.F.slot_dict_items,PySem.F.type_dict_items,t1,t2,Calls.callWith_builtin rfl (PySem.evalArgs_none (AN I1 rd fun v s2 I2 hv=>⟨v,H1,a,kvs,ks,ns,rfl,I2,hv,rd,q1⟩))⟩
 refine Calls.spliced_cons (JG key fun u s1 ⟨v,H1,a,kvs,ks,ns,eu,I1,hv,rd,hk,hn,nd,LS,q⟩=>?_);subst eu;refine Calls.spliced_nil ?_;refine xA (I1.ok.hd hc) I1 rd hk hn nd LS hv fun h' tk Dn as m k0 hD ⟨t1,t2,t3,t4⟩ lt e=>?_;have fresh:∀b,s1.heap.objs.size<=b->H1 b=Φ:=fun b hb=>I1.JD.fresh hb;generalize hM:(List.range as.length).map (fun j=>HO.tup [.str (ks.getD j ⟨#[]⟩),.int (ns.getD j 0)])=M;have lM:M.length=as.length:=by rw[<- hM,i_,aac]
 have keys:(as.zip M).map (·.1)=as:=List.map_fst_zip (by rw[lM];exact m_ _);have UC:∀(T:Ω) (o:HO),(T,o)∈as.zip M->∃k,as[k]? = Δ T/\o=.tup [.str (ks.getD k ⟨#[]⟩),.int (ns.getD k 0)]:=fun T o hm=>by obtain⟨k,hk⟩:=aaj.mp hm;obtain⟨h1,h2⟩:=List.getElem?_zip_eq_some.mp hk;rw[<- hM,y_]at h2;obtain⟨j,h3,h4⟩:=aal.mp h2;have lk:k < as.length:=(x_.mp h1).1;rw[List.getElem?_range lk]at h3;cases h3;exact⟨k,h1,h4.symm⟩
 have Xl:(((Dn,HO.lst ((kG ks).map fun i=>V.ref (as.getD i 0)))::as.zip M).map (·.1)).Nodup:=by rw[b_,keys,E_];exact⟨fun z=>T_ _ (lt _ z),t1.imp fun h=>p_ h⟩
 have Na:∀b,b < s1.heap.objs.size->oU H1 ((Dn,HO.lst ((kG ks).map fun i=>V.ref (as.getD i 0)))::as.zip M) b=H1 b:=fun b hb=>nO (by
  rw[b_,keys,k_,not_or]
  exact⟨p_ (B_ hb hD),fun z=>T_ _ (Nat.lt_trans hb (t2 _ z))⟩)
 have pick:∀is:List Nat,(∀i∈is,i < ks.length)->Vals (is.map fun i=>V.ref (as.getD i 0)) (is.map fun i=>(as.map θ).getD i Value.none):=mI fun i hi=>by
  have li:i < as.length:=by omega
  rw[nX (v_ li),Z_,v_ li];rfl
 have I2:=I1.Ng (t':=tk) k0 Na fun b u hb hu=>by
  obtain⟨pr,hp,e1,e2⟩:=pE hu (fresh b hb);subst e1 e2;rcases k_.mp hp with rfl|hp
  ·exact(show iV X.prog X.w _ h' Dn (.lst _) from⟨by rw[i_];show(kR _ _).length<=_;rw[kS,sizeLine_eq];omega,_,m,pick _ lY,e⟩)
  ·obtain⟨T,o⟩:=pr;obtain⟨k,u1,rfl⟩:=UC T o hp;obtain⟨t,u,u2⟩:=t4 k T u1;exact(show iV X.prog X.w _ h' T (.tup [.str _,.int _]) from⟨by show 2<=Ζ;decide,[_,_],.cons ⟨t,rfl⟩ (.cons ⟨u,rfl⟩ .nil),⟨_,u2,rfl,_,rfl⟩⟩)
 refine⟨.ref _,_,I2,rfl,q as Dn _ (fun b u e=>?_) (fresh _ hD) (lQ Xl (.head _)) t3 fun j b hj=>lQ Xl (.tail _ (aaj.mpr ⟨j,List.getElem?_zip_eq_some.mpr ⟨hj,?_⟩⟩))⟩
 ·rw[Na b (Nat.lt_of_not_le fun z=>by rw[fresh b z]at e;cases e)];exact e
 ·rw[<- hM,y_,List.getElem?_range (x_.mp hj).1];rfl
inductive D where
 | Jt|bl (b:Bool)|int (i:Int)|str (x:Str)|tup (ds:List D)|lst (own:Bool) (ds:List D)|Jy (own:Bool) (ks:List Key) (ds:List D)
 deriving Inhabited
mutual
noncomputable def er:D->D
 |.tup ds=>.tup (Jv ds)
 |.lst _ ds=>.lst Ξ (Jv ds)
 |.Jy _ ks ds=>.Jy Ξ ks (Jv ds)
 |.Jt=>.Jt
 |.bl b=>.bl b
 |.int i=>.int i
 |.str x=>.str x
noncomputable def Jv:List D->List D
 |[]=>[]
 |d::ds=>er d::Jv ds
end
mutual
noncomputable def iH:D->Bool
 |.tup ds=>iD ds
 |.lst _ _=>Ξ
 |.Jy _ _ _=>Ξ
 |.Jt=>Θ
 |.bl _=>Θ
 |.int _=>Θ
 |.str _=>Θ
noncomputable def iD:List D->Bool
 |[]=>Θ
 |d::ds=>iH d&&iD ds
end
theorem ji:∀ds:List D,Jv ds=ds.map er
 |[]=>rfl
 |d::ds=>by rw[Jv,ji ds];rfl
theorem iU:∀ds:List D,iD ds=ds.all iH
 |[]=>rfl
 |d::ds=>by rw[iD,iU ds];rfl
theorem kH (ds:List D):(Jv ds).length=ds.length:=by rw[ji,i_]
mutual
theorem nY:∀ {d:D},iH d=Θ->er d=d
 |.Jt,_=>rfl
 |.bl _,_=>rfl
 |.int _,_=>rfl
 |.str _,_=>rfl
 |.tup ds,h=>by rw[er,jF (ds:=ds) h]
 |.lst o ds,h=>by cases(show Ξ=Θ from h)
 |.Jy o ks ds,h=>by cases(show Ξ=Θ from h)
theorem jF:∀ {ds:List D},iD ds=Θ->Jv ds=ds
 |[],_=>rfl
 |d::ds,h=>by have h':(iH d&&iD ds)=Θ:=h;rw[g_]at h';rw[Jv,nY h'.1,jF h'.2]
end
mutual
theorem Ca:∀d:D,er (er d)=er d
 |.Jt=>rfl
 |.bl _=>rfl
 |.int _=>rfl
 |.str _=>rfl
 |.tup ds=>by rw[er,er,J' ds]
 |.lst _ ds=>by rw[er,er,J' ds]
 |.Jy _ ks ds=>by rw[er,er,J' ds]
theorem J':∀ds:List D,Jv (Jv ds)=Jv ds
 |[]=>rfl
 |d::ds=>by rw[Jv,Jv,Ca d,J' ds]
end
inductive Exc where
 | stuck
abbrev Res (α:Type):=Except Exc α
noncomputable abbrev Jw {α:Type}:Res α:=.error .stuck
noncomputable def Iq {α β:Type}(x:Res α)(f:α->Res β):Res β:=match x with
 |.ok a=>f a
 |.error e=>.error e
noncomputable def IE {α:Type}(c:Bool)(x:Res α):Res α:=if c=Θ then x else Jw
def IA {α:Type}(x:Res α)(k:α->Prop):Prop:=match x with
 |.ok a=>k a
 |.error .stuck=>False
theorem IA.Iq {α β:Type}{x:Res α}{f:α->Res β}{k:β->Prop}(h:IA (Iq x f) k):IA x fun a=>IA (f a) k:=by
 cases x with
 |ok a=>exact h
 |error e=>cases e<;>exact h
theorem IA.IE {α:Type}{c:Bool}{x:Res α}{k:α->Prop}(h:IA (IE c x) k):c=Θ/\IA x k:=by
 unfold L2.IE at h;cases c with
 |true=>exact⟨rfl,h⟩
 |false=>exact False.elim h
theorem IA.mono (h:IA x k)(m:∀a,k a->k' a):IA x k':=by
 cases x with
 |ok a=>exact m a h
 |error e=>cases e<;>exact h
theorem IA.mk (h:IA x fun a=>IA (f a) k):IA (L2.Iq x f) k:=by
 cases x with
 |ok a=>exact h
 |error e=>cases e<;>exact h
theorem IA.eq (h:IA x k):IA x fun a=>x=.ok a/\k a:=by
 cases x with
 |ok a=>exact⟨rfl,h⟩
 |error e=>cases e<;>exact h
theorem IA.ok (h:IA (.ok a:Res α) k):k a:=h
theorem IA.no (h:IA (Jw:Res α) k):False:=h
inductive LD where
 | l (xs:List V)|d (kvs:List (Key×V))
noncomputable abbrev LD.o:LD->HO
 |.l xs=>.lst xs
 |.d kvs=>.dK kvs
theorem KL.sq {K:Frag}{H:Hp}{a:Ω}{xs:List V}(h:KL K a xs):Kf K H a xs:=by obtain⟨its,n,h1,h2,h3⟩:=h;exact .inr ⟨_,its.toArray,n,h1,rfl,rfl,rfl,by simpa using h2,by simpa using h3⟩
theorem Inv.ls (I:Inv X pins σ H s)(h:Ls X.K H a xs) :
  xs.length<=Ζ/\∃(its:List Ψ) (n:Nat),Vals xs its/\s.heap.get? a=Δ {cls:=.type "list",data:=.seq its.toArray n}:=by
 rcases h with h|⟨its,n,h1,h2,h3⟩
 ·obtain⟨z,its,n,r,e⟩:=h.ok I.JD;exact⟨z,its,n,r,e⟩
 ·exact⟨by rw[h3.length];exact h2,its,n,h3,I.LX _ _ h1⟩
structure Cl (H H':Hp):Prop where
 t:∀b xs,Rd H b (.tup xs)->Rd H' b (.tup xs)
theorem Cl.sq {K:Frag}{H H':Hp}{a:Ω}{xs:List V}(k:Cl H H')(h:JO K H a xs):JO K H' a xs:=h.elim (fun h=>.inl (k.t _ _ h)) .inr
mutual
inductive IB (K:Frag)(S:Ω->Prop)(H:Hp):V->D->Prop where
 | Jt:IB K S H .Jt .Jt
 | bl (b:Bool):IB K S H (.bl b) (.bl b)
 | int (i:Int):IB K S H (.int i) (.int i)
 | str (x:Str):IB K S H (.str x) (.str x)
 | tup {a:Ω}{xs:List V}{ds:List D}:JO K H a xs->Iz K S H xs ds->IB K S H (.ref a) (.tup ds)
 | lst {a:Ω}{xs:List V}{o:Bool}{ds:List D}:S a->Rd H a (.lst xs)->Iz K S H xs ds->IB K S H (.ref a) (.lst o ds)
 | lstK {a:Ω}{xs:List V}{o:Bool}{ds:List D}:KL K a xs->Iz K S H xs ds->IB K S H (.ref a) (.lst o ds)
 | Jy {a:Ω}{kvs:List (Key×V)}{o:Bool}{ks:List Key}{ds:List D}:S a->Rd H a (.dK kvs)->kvs.map (·.1)=ks->Iz K S H (kvs.map (·.2)) ds->IB K S H (.ref a) (.Jy o ks ds)
inductive Iz (K:Frag)(S:Ω->Prop)(H:Hp):List V->List D->Prop where
 | nil:Iz K S H [] []
 | cons {v:V}{d:D}{vs:List V}{ds:List D}:IB K S H v d->Iz K S H vs ds->Iz K S H (v::vs) (d::ds)
end
mutual
inductive JB (K:Frag)(F:Ω->Prop)(H:Hp):V->D->List Ω->Prop where
 | Jt:JB K F H .Jt .Jt []
 | bl (b:Bool):JB K F H (.bl b) (.bl b) []
 | int (i:Int):JB K F H (.int i) (.int i) []
 | str (x:Str):JB K F H (.str x) (.str x) []
 | tup {a:Ω}{xs:List V}{ds:List D}{f:List Ω}:JO K H a xs->ID K F H xs ds f->JB K F H (.ref a) (.tup ds) f
 | Mh {a:Ω}{xs:List V}{ds:List D}:F a->Rd H a (.lst xs)->ID K F H xs ds []->JB K F H (.ref a) (.lst Ξ ds) []
 | lstK {a:Ω}{xs:List V}{ds:List D}:KL K a xs->ID K F H xs ds []->JB K F H (.ref a) (.lst Ξ ds) []
 | Ki {a:Ω}{xs:List V}{ds:List D}{f:List Ω}:¬F a->H a=Δ (.lst xs)->ID K F H xs ds f->JB K F H (.ref a) (.lst Θ ds) (a::f)
 | N5 {a:Ω}{kvs:List (Key×V)}{ks:List Key}{ds:List D}:F a->Rd H a (.dK kvs)->kvs.map (·.1)=ks->ID K F H (kvs.map (·.2)) ds []->JB K F H (.ref a) (.Jy Ξ ks ds) []
 | Ni {a:Ω}{kvs:List (Key×V)}{ks:List Key}{ds:List D}{f:List Ω}:¬F a->H a=Δ (.dK kvs)->kvs.map (·.1)=ks->ID K F H (kvs.map (·.2)) ds f->JB K F H (.ref a) (.Jy Θ ks ds) (a::f)
inductive ID (K:Frag)(F:Ω->Prop)(H:Hp):List V->List D->List Ω->Prop where
 | nil:ID K F H [] [] []
 | cons {v:V}{d:D}{f:List Ω}{vs:List V}{ds:List D}{g:List Ω}:JB K F H v d f->ID K F H vs ds g->ID K F H (v::vs) (d::ds) (f++g)
end
theorem iL.rd (e:iL H H')(h:Rd H a u):Rd H' a u:=by
 rcases h with h|⟨o,h⟩
 ·exact .inl (e _ _ h)
 ·exact .inr ⟨o,e _ _ h⟩
theorem iL.cl (e:iL H H'):Cl H H':=⟨fun _ _ h=>e.rd h⟩
theorem xB (h2:∀xs,¬Rd H l (.tup xs)):Cl H (upd H l o'):=by
 refine⟨fun b xs h=>?_⟩;have:b≠l:=by rintro rfl;exact h2 xs h
 unfold Rd;rw[iI this];exact h
theorem JO.cl {K:Frag}{H H':Hp}{a:Ω}{xs:List V}(k:Cl H H')(h:JO K H a xs):JO K H' a xs:=k.sq h
theorem iL.Lo {K:Frag}{H H':Hp}{a:Ω}{xs:List V}(e:iL H H')(h:JO K H a xs):JO K H' a xs:=h.cl e.cl
theorem DL (hl:H l=Δ (.lst ys)):Cl H (upd H l o'):=
 xB fun xs z=>by rcases z with z|⟨o,z⟩<;>(rw[hl]at z;cases z)
theorem JO.upd {K:Frag}{H:Hp}{a l:Ω}{xs:List V}{ys zs:List V}(hl:H l=Δ (.lst ys))(h:JO K H a xs):JO K (upd H l (.lst zs)) a xs:=h.cl (DL hl)
theorem Rd.some (h:Rd H a u):H a≠Φ:=by rcases h with h|⟨o,h⟩<;>(rw[h];simp)
section
variable {K:Frag}{S S' F F':Ω->Prop}{H H':Hp}
theorem IB.step (hl:∀a (u:LD),S a->Rd H a u.o->S' a/\Rd H' a u.o)(ht:∀a xs,JO K H a xs->JO K H' a xs)  (h:IB K S H v d):IB K S' H' v d:=
 IB.rec (motive_1:=fun v d _=>IB K S' H' v d) (motive_2:=fun v d _=>Iz K S' H' v d) .Jt .bl .int .str (fun h1 _ i=>.tup (ht _ _ h1) i)
  (fun h0 h1 _ i=>.lst (hl _ (.l _) h0 h1).1 (hl _ (.l _) h0 h1).2 i) (fun h1 _ i=>.lstK h1 i) (fun h0 h1 h2 _ i=>.Jy (hl _ (.d _) h0 h1).1 (hl _ (.d _) h0 h1).2 h2 i) .nil (fun _ _ i j=>.cons i j) h
theorem Iz.step (hl:∀a (u:LD),S a->Rd H a u.o->S' a/\Rd H' a u.o)(ht:∀a xs,JO K H a xs->JO K H' a xs)  (h:Iz K S H v d):Iz K S' H' v d:=
 Iz.rec (motive_1:=fun v d _=>IB K S' H' v d) (motive_2:=fun v d _=>Iz K S' H' v d) .Jt .bl .int .str (fun h1 _ i=>.tup (ht _ _ h1) i)
  (fun h0 h1 _ i=>.lst (hl _ (.l _) h0 h1).1 (hl _ (.l _) h0 h1).2 i) (fun h1 _ i=>.lstK h1 i) (fun h0 h1 h2 _ i=>.Jy (hl _ (.d _) h0 h1).1 (hl _ (.d _) h0 h1).2 h2 i) .nil (fun _ _ i j=>.cons i j) h
theorem IB.mono (h:IB K S H v d)(hS:∀a,S a->S' a)(e:iL H H'):IB K S' H' v d:=h.step (fun a xs s r=>⟨hS a s,e.rd r⟩) fun a xs s=>e.Lo s
theorem Iz.mono (h:Iz K S H v d)(hS:∀a,S a->S' a)(e:iL H H'):Iz K S' H' v d:=h.step (fun a xs s r=>⟨hS a s,e.rd r⟩) fun a xs s=>e.Lo s
theorem Iz.L3 (h:Iz K S H v d):Iz K (fun a=>S a/\H a≠Φ) H v d:=h.step (fun a xs s r=>⟨⟨s,r.some⟩,r⟩) fun a xs s=>s
theorem IB.frozen (h:IB K F H v d):JB K F H v (L2.er d) []:=
 IB.rec (motive_1:=fun v d _=>JB K F H v (L2.er d) []) (motive_2:=fun v d _=>ID K F H v (L2.Jv d) []) .Jt .bl .int .str (fun h1 _ i=>.tup h1 i) (fun h0 h1 _ i=>.Mh h0 h1 i) (fun h1 _ i=>.lstK h1 i) (fun h0 h1 h2 _ i=>.N5 h0 h1 h2 i) .nil (fun _ _ i j=>.cons (f:=[]) (g:=[]) i j) h
theorem Iz.frozen (h:Iz K F H v d):ID K F H v (L2.Jv d) []:=
 Iz.rec (motive_1:=fun v d _=>JB K F H v (L2.er d) []) (motive_2:=fun v d _=>ID K F H v (L2.Jv d) []) .Jt .bl .int .str (fun h1 _ i=>.tup h1 i) (fun h0 h1 _ i=>.Mh h0 h1 i) (fun h1 _ i=>.lstK h1 i) (fun h0 h1 h2 _ i=>.N5 h0 h1 h2 i) .nil (fun _ _ i j=>.cons (f:=[]) (g:=[]) i j) h
theorem AO (h:(a&&b)=Θ):a=Θ/\b=Θ:=by rwa [g_]at h
theorem IB.free (n:iH d=Θ)(h:IB K S H v d):JB K F H v d []:=
 IB.rec (motive_1:=fun v d _=>iH d=Θ->JB K F H v d []) (motive_2:=fun v d _=>iD d=Θ->ID K F H v d []) (fun _=>.Jt) (fun b _=>.bl b) (fun b _=>.int b) (fun b _=>.str b) (fun h1 _ i n=>.tup h1 (i n)) (fun _ _ _ _ n=>nomatch n) (fun _ _ _ n=>nomatch n) (fun _ _ _ _ _ n=>nomatch n) (fun _=>.nil) (fun _ _ i j n=>.cons (f:=[]) (g:=[]) (i (AO n).1) (j (AO n).2)) h n
theorem Iz.free (n:iD d=Θ)(h:Iz K S H v d):ID K F H v d []:=
 Iz.rec (motive_1:=fun v d _=>iH d=Θ->JB K F H v d []) (motive_2:=fun v d _=>iD d=Θ->ID K F H v d []) (fun _=>.Jt) (fun b _=>.bl b) (fun b _=>.int b) (fun b _=>.str b) (fun h1 _ i n=>.tup h1 (i n)) (fun _ _ _ _ n=>nomatch n) (fun _ _ _ n=>nomatch n) (fun _ _ _ _ _ n=>nomatch n) (fun _=>.nil) (fun _ _ i j n=>.cons (f:=[]) (g:=[]) (i (AO n).1) (j (AO n).2)) h n
theorem jH {p:Ω->Prop}:∀a∈([]:List Ω),p a:=fun _ h=>nomatch h
theorem JB.read {v:V}{d:D}{f:List Ω}(hF:∀a,F a->S a)(hf:∀a∈f,S a)(h:JB K F H v d f):IB K S H v d:=
 JB.rec (motive_1:=fun v d f _=>(∀a∈f,S a)->IB K S H v d) (motive_2:=fun v d f _=>(∀a∈f,S a)->Iz K S H v d) (fun _=>.Jt) (fun b _=>.bl b) (fun b _=>.int b) (fun b _=>.str b) (fun h1 _ i hf=>.tup h1 (i hf))
  (fun h0 h1 _ i _=>.lst (hF _ h0) h1 (i jH)) (fun h1 _ i _=>.lstK h1 (i jH)) (fun _ h1 _ i hf=>.lst (hf _ (.head _)) (.inl h1) (i fun b hb=>hf b (.tail _ hb))) (fun h0 h1 h2 _ i _=>.Jy (hF _ h0) h1 h2 (i jH)) (fun _ h1 h2 _ i hf=>.Jy (hf _ (.head _)) (.inl h1) h2 (i fun b hb=>hf b (.tail _ hb))) (fun _=>.nil)
  (fun _ _ i j hf=>.cons (i fun a ha=>hf a (s_ _ ha)) (j fun a ha=>hf a (t_ _ ha))) h hf
theorem ID.read {v:List V}{d:List D}{f:List Ω}(hF:∀a,F a->S a)(hf:∀a∈f,S a)(h:ID K F H v d f):Iz K S H v d:=
 ID.rec (motive_1:=fun v d f _=>(∀a∈f,S a)->IB K S H v d) (motive_2:=fun v d f _=>(∀a∈f,S a)->Iz K S H v d) (fun _=>.Jt) (fun b _=>.bl b) (fun b _=>.int b) (fun b _=>.str b) (fun h1 _ i hf=>.tup h1 (i hf))
  (fun h0 h1 _ i _=>.lst (hF _ h0) h1 (i jH)) (fun h1 _ i _=>.lstK h1 (i jH)) (fun _ h1 _ i hf=>.lst (hf _ (.head _)) (.inl h1) (i fun b hb=>hf b (.tail _ hb))) (fun h0 h1 h2 _ i _=>.Jy (hF _ h0) h1 h2 (i jH)) (fun _ h1 h2 _ i hf=>.Jy (hf _ (.head _)) (.inl h1) h2 (i fun b hb=>hf b (.tail _ hb))) (fun _=>.nil)
  (fun _ _ i j hf=>.cons (i fun a ha=>hf a (s_ _ ha)) (j fun a ha=>hf a (t_ _ ha))) h hf
theorem kg {α:Type}{x:Option α}{y:α}(h:x=Δ y):x≠Φ:=fun e=>nomatch h.symm.trans e
theorem JB.step (hl:∀a (u:LD),F a->Rd H a u.o->F' a/\Rd H' a u.o)(ht:∀a xs,JO K H a xs->JO K H' a xs)  (k:∀a∈f,¬F a->H a≠Φ->¬F' a/\H' a=H a)
  (h:JB K F H v d f):JB K F' H' v d f:=
 JB.rec (motive_1:=fun v d f _=>(∀a∈f,¬F a->H a≠Φ->¬F' a/\H' a=H a)->JB K F' H' v d f) (motive_2:=fun v d f _=>(∀a∈f,¬F a->H a≠Φ->¬F' a/\H' a=H a)->ID K F' H' v d f) (fun _=>.Jt) (fun b _=>.bl b) (fun b _=>.int b) (fun b _=>.str b)
  (fun h1 _ i k=>.tup (ht _ _ h1) (i k)) (fun h0 h1 _ i _=>.Mh (hl _ (.l _) h0 h1).1 (hl _ (.l _) h0 h1).2 (i jH)) (fun h1 _ i _=>.lstK h1 (i jH))
  (fun h0 h1 _ i k=>.Ki (k _ (.head _) h0 (kg h1)).1 ((k _ (.head _) h0 (kg h1)).2.trans h1) (i fun b hb=>k b (.tail _ hb))) (fun h0 h1 h2 _ i _=>.N5 (hl _ (.d _) h0 h1).1 (hl _ (.d _) h0 h1).2 h2 (i jH)) (fun h0 h1 h2 _ i k=>.Ni (k _ (.head _) h0 (kg h1)).1 ((k _ (.head _) h0 (kg h1)).2.trans h1) h2 (i fun b hb=>k b (.tail _ hb))) (fun _=>.nil)
  (fun _ _ i j k=>.cons (i fun a ha=>k a (s_ _ ha)) (j fun a ha=>k a (t_ _ ha))) h k
theorem ID.step (hl:∀a (u:LD),F a->Rd H a u.o->F' a/\Rd H' a u.o)(ht:∀a xs,JO K H a xs->JO K H' a xs)  (k:∀a∈f,¬F a->H a≠Φ->¬F' a/\H' a=H a)
  (h:ID K F H v d f):ID K F' H' v d f:=
 ID.rec (motive_1:=fun v d f _=>(∀a∈f,¬F a->H a≠Φ->¬F' a/\H' a=H a)->JB K F' H' v d f) (motive_2:=fun v d f _=>(∀a∈f,¬F a->H a≠Φ->¬F' a/\H' a=H a)->ID K F' H' v d f) (fun _=>.Jt) (fun b _=>.bl b) (fun b _=>.int b) (fun b _=>.str b)
  (fun h1 _ i k=>.tup (ht _ _ h1) (i k)) (fun h0 h1 _ i _=>.Mh (hl _ (.l _) h0 h1).1 (hl _ (.l _) h0 h1).2 (i jH)) (fun h1 _ i _=>.lstK h1 (i jH))
  (fun h0 h1 _ i k=>.Ki (k _ (.head _) h0 (kg h1)).1 ((k _ (.head _) h0 (kg h1)).2.trans h1) (i fun b hb=>k b (.tail _ hb))) (fun h0 h1 h2 _ i _=>.N5 (hl _ (.d _) h0 h1).1 (hl _ (.d _) h0 h1).2 h2 (i jH)) (fun h0 h1 h2 _ i k=>.Ni (k _ (.head _) h0 (kg h1)).1 ((k _ (.head _) h0 (kg h1)).2.trans h1) h2 (i fun b hb=>k b (.tail _ hb))) (fun _=>.nil)
  (fun _ _ i j k=>.cons (i fun a ha=>k a (s_ _ ha)) (j fun a ha=>k a (t_ _ ha))) h k
theorem AQ {p:Ω->Prop}{x:Ω}{f:List Ω}(h:p x)(i:∀a∈f,p a):∀a∈x::f,p a:=by
 intro b hb;rcases k_.mp hb with rfl|hb
 ·exact h
 ·exact i b hb
theorem FQ {p:Ω->Prop}{f g:List Ω}(h:∀a∈f,p a)(i:∀a∈g,p a):∀a∈f++g,p a:=fun b hb=>(C_.mp hb).elim (h b) (i b)
theorem JB.own (h:JB K F H v d f):∀a∈f,¬F a/\∃u,H a=Δ u:=
 JB.rec (motive_1:=fun _ _ f _=>∀a∈f,¬F a/\∃u,H a=Δ u) (motive_2:=fun _ _ f _=>∀a∈f,¬F a/\∃u,H a=Δ u) jH (fun _=>jH) (fun _=>jH) (fun _=>jH) (fun _ _ i=>i) (fun _ _ _ _=>jH) (fun _ _ _=>jH)
  (fun h0 h1 _ i=>AQ ⟨h0,_,h1⟩ i) (fun _ _ _ _ _=>jH) (fun h0 h1 _ _ i=>AQ ⟨h0,_,h1⟩ i) jH (fun _ _ i j=>FQ i j) h
theorem ID.own (h:ID K F H v d f):∀a∈f,¬F a/\∃u,H a=Δ u:=
 ID.rec (motive_1:=fun _ _ f _=>∀a∈f,¬F a/\∃u,H a=Δ u) (motive_2:=fun _ _ f _=>∀a∈f,¬F a/\∃u,H a=Δ u) jH (fun _=>jH) (fun _=>jH) (fun _=>jH) (fun _ _ i=>i) (fun _ _ _ _=>jH) (fun _ _ _=>jH)
  (fun h0 h1 _ i=>AQ ⟨h0,_,h1⟩ i) (fun _ _ _ _ _=>jH) (fun h0 h1 _ _ i=>AQ ⟨h0,_,h1⟩ i) jH (fun _ _ i j=>FQ i j) h
theorem Iz.ind {P:List V->List D->Prop}(n:P [] [])(c:∀v d vs ds,IB K S H v d->Iz K S H vs ds->P vs ds->P (v::vs) (d::ds)){vs:List V}{ds:List D}(h:Iz K S H vs ds):P vs ds:=
 Iz.rec (motive_1:=fun _ _ _=>True) (motive_2:=fun v d _=>P v d) trivial (fun _=>trivial) (fun _=>trivial) (fun _=>trivial) (fun _ _ _=>trivial) (fun _ _ _ _=>trivial) (fun _ _ _=>trivial) (fun _ _ _ _ _=>trivial) n (fun a b _ j=>c _ _ _ _ a b j) h
theorem ID.ind {P:List V->List D->List Ω->Prop}(n:P [] [] [])(c:∀v d f vs ds g,JB K F H v d f->ID K F H vs ds g->P vs ds g->P (v::vs) (d::ds) (f++g)){vs:List V}{ds:List D}{f:List Ω}(h:ID K F H vs ds f):P vs ds f:=
 ID.rec (motive_1:=fun _ _ _ _=>True) (motive_2:=fun v d f _=>P v d f) trivial (fun _=>trivial) (fun _=>trivial) (fun _=>trivial) (fun _ _ _=>trivial) (fun _ _ _ _=>trivial) (fun _ _ _=>trivial) (fun _ _ _ _=>trivial) (fun _ _ _ _ _=>trivial) (fun _ _ _ _ _=>trivial) n (fun a b _ j=>c _ _ _ _ _ _ a b j) h
theorem Iz.length (h:Iz K S H vs ds):vs.length=ds.length:=
 Iz.ind (P:=fun v d=>v.length=d.length) rfl (fun _ _ _ _ _ _ j=>congrArg (· + 1) j) h
theorem Iz.get {i:Nat}{vs:List V}{ds:List D}{d:D}(h:Iz K S H vs ds)(e:ds[i]? = Δ d):∃v,vs[i]? = Δ v/\IB K S H v d:=
 Iz.ind (P:=fun vs ds=>∀i d,ds[i]? = Δ d->∃v,vs[i]? = Δ v/\IB K S H v d) (fun i d e=>nomatch (show Φ=Δ d from e)) (fun v d _ _ a _ j i d e=>by
  cases i with
  |zero=>exact⟨_,rfl,J_ e ▸ a⟩
  |succ i=>exact j i d e) h i d e
theorem Iz.MR {i:Nat}{vs:List V}{ds:List D}{v:V}(h:Iz K S H vs ds)(e:vs[i]? = Δ v):∃d,ds[i]? = Δ d/\IB K S H v d:=
 Iz.ind (P:=fun vs ds=>∀i v,vs[i]? = Δ v->∃d,ds[i]? = Δ d/\IB K S H v d) (fun i d e=>nomatch (show Φ=Δ d from e)) (fun v d _ _ a _ j i d e=>by
  cases i with
  |zero=>exact⟨_,rfl,J_ e ▸ a⟩
  |succ i=>exact j i d e) h i v e
theorem Iz.append (h:Iz K S H vs ds)(h':Iz K S H ws es):Iz K S H (vs++ws) (ds++es):=
 Iz.ind (P:=fun v d=>Iz K S H (v++ws) (d++es)) h' (fun _ _ _ _ a _ j=>.cons a j) h
theorem Iz.take (n:Nat)(h:Iz K S H vs ds):Iz K S H (vs.take n) (ds.take n):=
 Iz.ind (P:=fun v d=>∀n,Iz K S H (v.take n) (d.take n)) (fun n=>by cases n<;>exact .nil) (fun _ _ _ _ a _ j n=>by
  cases n with
  |zero=>exact .nil
  |succ n=>exact .cons a (j n)) h n
theorem Iz.drop (n:Nat)(h:Iz K S H vs ds):Iz K S H (vs.drop n) (ds.drop n):=
 Iz.ind (P:=fun v d=>∀n,Iz K S H (v.drop n) (d.drop n)) (fun n=>by cases n<;>exact .nil) (fun _ _ _ _ a b j n=>by
  cases n with
  |zero=>exact .cons a b
  |succ n=>exact j n) h n
theorem ID.length (h:ID K F H vs ds f):vs.length=ds.length:=
 ID.ind (P:=fun v d _=>v.length=d.length) rfl (fun _ _ _ _ _ _ _ _ j=>congrArg (· + 1) j) h
theorem ID.append (h:ID K F H vs ds f)(h':ID K F H ws es g):ID K F H (vs++ws) (ds++es) (f++g):=
 ID.ind (P:=fun v d f=>ID K F H (v++ws) (d++es) (f++g)) h' (fun _ _ _ _ _ _ a _ j=>by
  rw[z_]
  exact .cons a j) h
theorem IB.J1 (h:IB K S H v (.lst o ds)):∃a xs,v=.ref a/\Kf K H a xs/\Iz K S H xs ds:=by
 cases h with
 |lst h0 h1 h2=>exact⟨_,_,rfl,.inl h1,h2⟩
 |lstK h1 h2=>exact⟨_,_,rfl,h1.sq,h2⟩
theorem IB.N6 (h:IB K S H v (.lst o ds)):∃a xs,v=.ref a/\Ls K H a xs/\Iz K S H xs ds:=by
 cases h with
 |lst h0 h1 h2=>exact⟨_,_,rfl,.inl h1,h2⟩
 |lstK h1 h2=>exact⟨_,_,rfl,.inr h1,h2⟩
theorem IB.Ka (h:IB K S H v (.tup ds)):∃a xs,v=.ref a/\JO K H a xs/\Iz K S H xs ds:=by
 cases h with
 |tup h1 h2=>exact⟨_,_,rfl,h1,h2⟩
theorem IB.JE (h:IB K S H v (.int i)):v=.int i:=by cases h;rfl
theorem IB.MT (h:IB K S H v (.bl i)):v=.bl i:=by cases h;rfl
theorem IB.JV (h:IB K S H v (.str i)):v=.str i:=by cases h;rfl
theorem IB.K2 (h:IB K S H v .Jt):v=.Jt:=by cases h;rfl
theorem Iz.ints {vs:List V}{ns:List Int}(h:Iz K S H vs (ns.map .int)):vs=ns.map .int:=
 Iz.ind (P:=fun v d=>∀ns:List Int,d=ns.map .int->v=ns.map .int) (fun ns e=>by
  cases ns with
  |nil=>rfl
  |cons n ns=>exact nomatch e) (fun _ _ _ _ a _ j ns e=>by
  cases ns with
  |nil=>exact nomatch e
  |cons n ns=>
   obtain⟨h1,h2⟩:=List.cons.inj e;subst h1;rw[j ns h2,a.JE]
   rfl) h ns rfl
theorem Iz.strs {vs:List V}{ns:List Str}(h:Iz K S H vs (ns.map .str)):vs=ns.map .str:=
 Iz.ind (P:=fun v d=>∀ns:List Str,d=ns.map .str->v=ns.map .str) (fun ns e=>by
  cases ns with
  |nil=>rfl
  |cons n ns=>exact nomatch e) (fun _ _ _ _ a _ j ns e=>by
  cases ns with
  |nil=>exact nomatch e
  |cons n ns=>
   obtain⟨h1,h2⟩:=List.cons.inj e;subst h1;rw[j ns h2,a.JV]
   rfl) h ns rfl
theorem Iz.Xm {vs:List V}{ns:List Bool}(h:Iz K S H vs (ns.map .bl)):vs=ns.map .bl:=
 Iz.ind (P:=fun v d=>∀ns:List Bool,d=ns.map .bl->v=ns.map .bl) (fun ns e=>by
  cases ns with
  |nil=>rfl
  |cons n ns=>exact nomatch e) (fun _ _ _ _ a _ j ns e=>by
  cases ns with
  |nil=>exact nomatch e
  |cons n ns=>
   obtain⟨h1,h2⟩:=List.cons.inj e;subst h1;rw[j ns h2,a.MT]
   rfl) h ns rfl
theorem Iz.ofInts:∀(ns:List Int),Iz K S H (ns.map .int) (ns.map .int)
 |[]=>.nil
 |n::ns=>.cons (.int n) (Iz.ofInts ns)
end
theorem iL.upd {H:Hp}{a:Ω}{o:HO}(h:H a=Φ):iL H (upd H a o):=fun b u e=>by rw[iI (jg e h)];exact e
theorem zD:type_of% @D.casesOn.{0}:=@D.casesOn.{0}
inductive Qh where
 | add|sub|mul|fdiv|mod|pow
 deriving DecidableEq
inductive M1 where
 | eq|ne|lt|le|gt|ge|M3|ND|N7|Lh
 deriving DecidableEq
inductive Kd where
 | str|int|bool|list|tuple
 deriving DecidableEq
inductive Bi where
 | len|sum|min2|max2|N8|sorted|list|tuple|ord|int|all|any|str|set|abs
 deriving DecidableEq
inductive Mt where
 | join|index|starts
 deriving DecidableEq
inductive Tg where
 | nm (i:Nat)|tp (ts:List Tg)
structure Gm where
 N:List Str
 kd:List NameKind
 gl:List Nat
 df:Bool
 cm:Bool:=Θ
 rs:Bool:=Θ
 tr:Bool:=Ξ
 io:Option Nat:=Φ
mutual
inductive IR where
 | c (d:D)
 | g (n:Nat) (d:D)
 | v (i:Nat)
 | bin (op:Qh) (a b:IR)
 | neg (a:IR)
 | cmp (op:M1) (a b:IR)
 | chain (op J9:M1) (a b c:IR)
 | JX (a b:IR)
 | Lf (a b:IR)
 | Kr (a:IR)
 | ite (t a b:IR)
 | tup (es:List IR)
 | lst (es:List IR)
 | idx (a i:IR)
 | sl (a:IR) (lo hi:Option IR)
 | call (f:Nat) (es:List IR)
 | bi (f:Bi) (es:List IR)
 | K3
 | K4 (a k:IR)
 | Kz (a:IR) (k:Kd)
 | KQ (a:IR)
 | K5 (a b:IR)
 | sset (a:IR)
 | Kj (a k e:IR)
 | L9 (m:Mt) (o:IR) (es:List IR)
 | comp (G:Gm) (fr:List Nat) (tg:Tg) (src:Sr) (ifs:List IR) (elt:IR)
inductive Sr where
 | JP (n:IR)|val (e:IR)|zip (a b:IR)|LU (e:IR)
end
inductive IS where
 | asg (tg:Tg) (e:IR)
 | Lz (i:Nat) (k e:IR)
 | app (i:Nat) (e:IR)
 | Mi (i:Nat) (k e:IR)
 | N9 (i j:Nat) (e c x v w:IR)
 | ext (i:Nat) (e:IR)
 | exp (e:IR)
 | ret (e:IR)
 | JJ (t:IR) (a b:List IS)
 | JH (tg:Tg) (src:Sr) (body:List IS)
 | brk|cnt|pass
abbrev Ev:=List (Option D)
inductive Fl where
 | nx (τ:Ev)|rt (d:D)|bk (τ:Ev)|ct (τ:Ev)|ri (d:D) (ks:List Key) (vs:List D)
noncomputable def jE {α:Type}(xs:List α)(lo hi:Option Int):List α:=(xs.drop (HT.LI xs.length 0 lo)).take (HT.LI xs.length xs.length hi - HT.LI xs.length 0 lo)
noncomputable def jo (n:Nat):Bool:=decide (n<=Ζ)
noncomputable def kx (n:Nat):Bool:=decide (n < Ζ)
noncomputable def KN:Qh->D->D->Res D
 |.add,.int a,.int b=>.ok (.int (a+b))
 |.add,.str a,.str b=>IE (jo (a.length+b.length)) (.ok (.str (a++b)))
 |.add,.lst _ a,.lst _ b=>IE (jo (a.length+b.length)) (.ok (.lst Θ (a++b)))
 |.sub,.int a,.int b=>.ok (.int (a - b))
 |.mul,.int a,.int b=>IE (decide (-(2 ^ 64) < a/\a < 2 ^ 64)||decide (-(2 ^ 64) < b/\b < 2 ^ 64)) (.ok (.int (a*b)))
 |.mul,.str a,.int b=>IE (decide (-16000<=b/\b<=16000/\a.length<=1000)) (.ok (.str (Txt.mul a b)))
 |.fdiv,.int a,.int b=>IE (decide (0 < b/\b < 1073741824)) (.ok (.int (a / b)))
 |.mod,.int a,.int b=>IE (decide (0 < b)) (.ok (.int (a % b)))
 |.pow,.int a,.int b=>IE (decide (0<=b/\b<=1000000/\a.natAbs < 2 ^ 64)) (.ok (.int (a ^ b.toNat)))
 |_,_,_=>Jw
noncomputable def iQ:D->D->Res D
 |.lst _ ds,.int i=>match KG ds i with
  |some d=>.ok d
  |none=>Jw
 |.tup ds,.int i=>match KG ds i with
  |some d=>.ok d
  |none=>Jw
 |.str z,.int i=>IE (jo z.length) (match KG z.cps.toList i with
  |some c=>.ok (.str ⟨#[c]⟩)
  |none=>Jw)
 |_,_=>Jw
noncomputable def qW:D->Option Int->Option Int->Res D
 |.lst _ ds,lo,hi=>.ok (.lst Θ (jE ds lo hi))
 |.str z,lo,hi=>IE (jo z.length) (.ok (.str (Txt.slice z lo hi)))
 |_,_,_=>Jw
noncomputable def iX:D->Res Bool
 |.Jt=>.ok Ξ
 |.bl b=>.ok b
 |.int i=>.ok (i != 0)
 |.str x=>IE (jo x.length) (.ok ((x.length:Int) != 0))
 |.tup ds=>.ok (!ds.isEmpty)
 |.lst _ ds=>.ok (!ds.isEmpty)
 |.Jy _ _ _=>Jw
noncomputable def kN (f:D->D->Res Bool):List D->List D->Res Bool
 |[],[]=>.ok Θ
 |a::r,b::t=>Iq (f a b) fun x=>Iq (kN f r t) fun y=>.ok (x&&y)
 |_,_=>.ok Ξ
noncomputable def Kb:Nat->D->D->Res Bool
 |0,_,_=>Jw
 |_+1,.Jy _ _ _,_=>Jw
 |_+1,_,.Jy _ _ _=>Jw
 |_+1,.Jt,.Jt=>.ok Θ
 |_+1,.Jt,_=>.ok Ξ
 |_+1,.bl a,.bl b=>.ok (a == b)
 |_+1,.bl a,.int b=>.ok ((if a then 1 else 0) == b)
 |_+1,.bl _,_=>.ok Ξ
 |_+1,.int a,.bl b=>.ok (a == (if b then 1 else 0))
 |_+1,.int a,.int b=>.ok (a == b)
 |_+1,.int _,_=>.ok Ξ
 |_+1,.str a,.str b=>.ok (a == b)
 |_+1,.str _,_=>.ok Ξ
 |n+1,.tup a,.tup b=>kN (Kb n) a b
 |_+1,.tup _,_=>.ok Ξ
 |n+1,.lst _ a,.lst _ b=>kN (Kb n) a b
 |_+1,.lst _ _,_=>.ok Ξ
noncomputable def Kc (d:D):List D->Res Bool
 |[]=>.ok Ξ
 |e::r=>Iq (Kb 40 e d) fun x=>Iq (Kc d r) fun y=>.ok (x||y)
noncomputable def xC (x y:Str):Bool:=!(Builtin.Str.occurrences x y 0 x.length 1).isEmpty
noncomputable def kh:D->Bool
 |.Jt=>Θ
 |_=>Ξ
noncomputable def mJ:D->Bool
 |.Jy _ _ _=>Ξ
 |_=>Θ
noncomputable def Kg:M1->D->D->Res Bool
 |.eq,a,b=>Kb 40 a b
 |.ne,a,b=>Iq (Kb 40 a b) fun r=>.ok !r
 |.lt,.int a,.int b=>.ok (decide (a < b))
 |.le,.int a,.int b=>.ok (decide (a<=b))
 |.gt,.int a,.int b=>.ok (decide (b < a))
 |.ge,.int a,.int b=>.ok (decide (b<=a))
 |.M3,.str y,.str x=>.ok (xC x y)
 |.ND,.str y,.str x=>.ok (!xC x y)
 |.M3,a,.lst _ ds=>Kc a ds
 |.ND,a,.lst _ ds=>Iq (Kc a ds) fun r=>.ok !r
 |.M3,a,.tup ds=>Kc a ds
 |.ND,a,.tup ds=>Iq (Kc a ds) fun r=>.ok !r
 |.N7,a,.Jt=>.ok (kh a)
 |.Lh,a,.Jt=>.ok (!kh a)
 |.Lh,.bl a,.bl b=>.ok (a != b)
 |.Lh,.Jt,.bl _=>.ok Θ
 |_,_,_=>Jw
noncomputable def jB:List D->Option (List Int)
 |[]=>Δ []
 |.int i::r=>(jB r).map (i::·)
 |_::_=>Φ
noncomputable def ko:List D->Option (List Str)
 |[]=>Δ []
 |.str i::r=>(ko r).map (i::·)
 |_::_=>Φ
noncomputable def jS:List D->Option (List Bool)
 |[]=>Δ []
 |.bl i::r=>(jS r).map (i::·)
 |_::_=>Φ
noncomputable def jl:Kd->D->Bool
 |.str,.str _=>Θ
 |.int,.int _=>Θ
 |.int,.bl _=>Θ
 |.bool,.bl _=>Θ
 |.list,.lst _ _=>Θ
 |.tuple,.tup _=>Θ
 |_,_=>Ξ
noncomputable def jZ (x:Str):List D:=x.cps.toList.map fun c=>.str ⟨#[c]⟩
noncomputable def FR:Key->D
 |.inl i=>.int i
 |.inr x=>.str x
noncomputable def j5:List Key->Option (List Str)
 |[]=>Δ []
 |.inr x::r=>(j5 r).map (x::·)
 |.inl _::_=>Φ
noncomputable def FT (ks:List Key):Res D:=match j5 ks with
 |some xs=>IE (decide (xs.length < 64)) (.ok (.lst Θ ((kG xs).map fun i=>.str (xs.getD i ⟨#[]⟩))))
 |none=>Jw
noncomputable def qX:D->Res D
 |.Jy _ ks ds=>match j5 ks with
  |some xs=>(match jB ds with
   |some ns=>IE (decide (0 < xs.length/\xs.length < 64)&&decide xs.Nodup) (.ok (.lst Θ ((kG xs).map fun i=>.tup [.str (xs.getD i ⟨#[]⟩),.int (ns.getD i 0)])))
   |none=>Jw)
  |none=>Jw
 |_=>Jw
noncomputable def jW:Bi->List D->Res D
 |.len,[.str x]=>IE (jo x.length) (.ok (.int x.length))
 |.len,[.tup ds]=>.ok (.int ds.length)
 |.len,[.lst _ ds]=>.ok (.int ds.length)
 |.len,[.Jy _ ks _]=>.ok (.int ks.length)
 |.min2,[.int a,.int b]=>.ok (.int (if b < a then b else a))
 |.max2,[.int a,.int b]=>.ok (.int (if b > a then b else a))
 |.ord,[.str x]=>IE (decide (x.length=1)) (.ok (.int (x.cps.getD 0 0:Nat)))
 |.int,[.int i]=>.ok (.int i)
 |.int,[.bl b]=>.ok (.int (if b then 1 else 0))
 |.sorted,[.Jy _ ks _]=>FT ks
 |.list,[.lst _ ds]=>.ok (.lst Θ ds)
 |.list,[.tup ds]=>.ok (.lst Θ ds)
 |.list,[.Jy _ ks _]=>.ok (.lst Θ (ks.map FR))
 |.tuple,[.lst _ ds]=>.ok (.tup ds)
 |.tuple,[.str x]=>IE (jo x.length) (.ok (.tup (jZ x)))
 |.all,[.lst _ ds]=>match jS ds with
  |some bs=>.ok (.bl (bs.all id))
  |none=>Jw
 |.any,[.lst _ ds]=>match jS ds with
  |some bs=>.ok (.bl (bs.any id))
  |none=>Jw
 |.abs,[.int i]=>.ok (.int (if i < 0 then -i else i))
 |_,_=>Jw
noncomputable def m8:D->Option Key
 |.int i=>Δ (.inl i)
 |.str x=>Δ (.inr x)
 |_=>Φ
noncomputable def look:List Key->List D->Key->Option D
 |k::ks,d::ds,q=>if k=q then Δ d else look ks ds q
 |_,_,_=>Φ
noncomputable def qY (ks:List Key)(q:Key):Bool:=ks.any fun k=>decide (k=q)
noncomputable def kT (ks:List Key)(q:Key):List Key:=if qY ks q=Θ then ks else ks++[q]
noncomputable def ki (ks:List Key)(ds:List D)(q:Key)(d:D):List D:=if qY ks q=Θ then List.zipWith (fun k e=>if k=q then d else e) ks ds else ds++[d]
noncomputable def qZ:D->D->Res D
 |.Jy _ ks ds,y=>match m8 y with
  |some q=>(match look ks ds q with
   |some d=>.ok d
   |none=>Jw)
  |none=>Jw
 |_,_=>Jw
noncomputable def sF:D->Bool
 |.Jy _ _ _=>Θ
 |_=>Ξ
noncomputable def sG:D->D->D->Res D
 |.Jy _ ks ds,y,z=>match m8 y with
  |some q=>.ok ((look ks ds q).getD z)
  |none=>Jw
 |_,_,_=>Jw
noncomputable def lF:D->Bool
 |.str _=>Θ
 |_=>Ξ
noncomputable def nZ:Mt->D->List D->Res D
 |.join,.str x,[.lst _ ds]=>match ko ds with
  |some ys=>IE (decide ((ys.map (·.length)).sum+ys.length*x.length<=16777216)) (.ok (.str (Txt.join x ys)))
  |none=>Jw
 |.starts,.str x,[.str y]=>.ok (.bl (Txt.startswith x y))
 |_,_,_=>Jw
noncomputable def kU:D->Res (List D)
 |.lst _ ds=>.ok ds
 |.tup ds=>.ok ds
 |.str x=>IE (jo x.length) (.ok (jZ x))
 |_=>Jw
noncomputable def oX:D->Res (List D)
 |.lst _ ds=>.ok ds
 |.tup ds=>.ok ds
 |_=>Jw
noncomputable def jT (ds es:List D):List D:=List.zipWith (fun a b=>.tup [a,b]) ds es
noncomputable def n0 (ds:List D):List D:=List.zipWith (fun(k:Nat) d=>.tup [.int k,d]) (List.range ds.length) ds
noncomputable def AR:D->Res (List D)
 |.lst _ ds=>.ok (n0 ds)
 |_=>Jw
noncomputable def n6 (x y:D):Res (List D):=Iq (oX x) fun ds=>Iq (oX y) fun es=>.ok (jT ds es)
noncomputable def tZ (x y:D):Res D:=Iq (n6 x y) fun ds=>IE (jo ds.length) (.ok (.lst Θ ds))
noncomputable def jq (a b:Int):List D:=(List.range (b - a).toNat).map fun k=>.int (a+(k:Nat))
noncomputable def ra:D->Res D
 |.lst _ ds=>match jB ds with
  |some ns=>IE (decide (ns.length < 64)) (.ok (.lst Θ ((PySem.W.sortI (dd ns)).map .int)))
  |none=>Jw
 |_=>Jw
noncomputable def mX (i:Int):Bool:=decide (-(2 ^ 62)<=i/\i < 2 ^ 62)
noncomputable def iP {α β:Type}(f:α->Res (Option β)):List α->Res (List β)
 |[]=>.ok []
 |x::xs=>Iq (f x) fun
  |some d=>Iq (iP f xs) fun r=>.ok (d::r)
  |none=>iP f xs
mutual
noncomputable def jM:Tg->D->Ev->Res Ev
 |.nm i,d,τ=>.ok (τ.set i (Δ d))
 |.tp ts,.tup ds,τ=>IE (decide (ds.length=ts.length)) (lA ts ds τ)
 |.tp ts,.lst _ ds,τ=>IE (decide (ds.length=ts.length)) (lA ts ds τ)
 |.tp _,_,_=>Jw
noncomputable def lA:List Tg->List D->Ev->Res Ev
 |t::ts,d::ds,τ=>Iq (jM t d τ) fun τ'=>lA ts ds τ'
 |[],[],τ=>.ok τ
 |_,_,_=>Jw
end
noncomputable def iF (τ:Ev)(i:Nat):Option D:=(τ[i]?).join
mutual
noncomputable def vars:IR->List Nat
 |.c _=>[]
 |.g _ _=>[]
 |.v i=>[i]
 |.bin _ a b=>vars a++vars b
 |.neg a=>vars a
 |.cmp _ a b=>vars a++vars b
 |.chain _ _ a b c=>vars a++vars b++vars c
 |.JX a b=>vars a++vars b
 |.Lf a b=>vars a++vars b
 |.Kr a=>vars a
 |.ite t a b=>vars t++vars a++vars b
 |.tup es=>iR es
 |.lst es=>iR es
 |.idx a i=>vars a++vars i
 |.sl a lo hi=>vars a++xD lo++xD hi
 |.call _ es=>iR es
 |.bi _ es=>iR es
 |.K3=>[]
 |.K4 a k=>vars a++vars k
 |.Kz a _=>vars a
 |.KQ a=>vars a
 |.K5 a b=>vars a++vars b
 |.sset a=>vars a
 |.Kj a k e=>vars a++vars k++vars e
 |.L9 _ o es=>vars o++iR es
 |.comp _ fr _ src _ _=>fr++kj src
noncomputable def iR:List IR->List Nat
 |[]=>[]
 |e::es=>vars e++iR es
noncomputable def xD:Option IR->List Nat
 |none=>[]
 |some e=>vars e
noncomputable def kj:Sr->List Nat
 |.JP n=>vars n
 |.val e=>vars e
 |.zip a b=>vars a++vars b
 |.LU a=>vars a
end
mutual
noncomputable def IC (cl:Nat->List D->Res D):IR->Ev->Res D
 |.c d,_=>.ok d
 |.g _ d,_=>.ok d
 |.v i,τ=>match iF τ i with
  |some d=>.ok d
  |none=>Jw
 |.bin op a b,τ=>Iq (IC cl a τ) fun x=>Iq (IC cl b τ) fun y=>KN op x y
 |.neg a,τ=>Iq (IC cl a τ) fun
  |.int i=>.ok (.int (-i))
  |_=>Jw
 |.cmp op a b,τ=>Iq (IC cl a τ) fun x=>Iq (IC cl b τ) fun y=>Iq (Kg op x y) fun r=>.ok (.bl r)
 |.chain op J9 a b c,τ=>Iq (IC cl a τ) fun x=>Iq (IC cl b τ) fun y=>Iq (Kg op x y) fun r=>
  if r=Θ then Iq (IC cl c τ) fun z=>Iq (Kg J9 y z) fun r'=>.ok (.bl r') else .ok (.bl Ξ)
 |.JX a b,τ=>Iq (IC cl a τ) fun x=>Iq (iX x) fun r=>if r=Θ then IC cl b τ else .ok x
 |.Lf a b,τ=>Iq (IC cl a τ) fun x=>Iq (iX x) fun r=>if r=Θ then .ok x else IC cl b τ
 |.Kr a,τ=>Iq (IC cl a τ) fun x=>Iq (iX x) fun r=>.ok (.bl !r)
 |.ite t a b,τ=>Iq (IC cl t τ) fun x=>Iq (iX x) fun r=>if r=Θ then IC cl a τ else IC cl b τ
 |.tup es,τ=>Iq (jy cl es τ) fun ds=>IE (jo ds.length) (.ok (.tup ds))
 |.lst es,τ=>Iq (jy cl es τ) fun ds=>IE (jo ds.length) (.ok (.lst Θ ds))
 |.idx a i,τ=>Iq (IC cl a τ) fun x=>Iq (IC cl i τ) fun y=>iQ x y
 |.sl a lo hi,τ=>Iq (IC cl a τ) fun x=>Iq (p8 cl lo τ) fun l=>Iq (p8 cl hi τ) fun h=>qW x l h
 |.call f es,τ=>Iq (jy cl es τ) fun ds=>cl f (Jv ds)
 |.bi f es,τ=>Iq (jy cl es τ) fun ds=>jW f ds
 |.K3,_=>.ok (.Jy Θ [] [])
 |.K4 a k,τ=>Iq (IC cl a τ) fun x=>Iq (IC cl k τ) fun y=>qZ x y
 |.Kz a k,τ=>Iq (IC cl a τ) fun x=>IE (mJ x) (.ok (.bl (jl k x)))
 |.KQ a,τ=>Iq (IC cl a τ) qX
 |.K5 a b,τ=>Iq (IC cl a τ) fun x=>Iq (IC cl b τ) fun y=>tZ x y
 |.sset a,τ=>Iq (IC cl a τ) ra
 |.Kj a k e,τ=>Iq (IC cl a τ) fun x=>IE (sF x) (Iq (IC cl k τ) fun y=>Iq (IC cl e τ) fun z=>sG x y z)
 |.L9 m o es,τ=>Iq (IC cl o τ) fun x=>IE (lF x) (Iq (jy cl es τ) fun ds=>nZ m x ds)
 |.comp G fr tg src ifs elt,τ=>Iq (kO cl src τ) fun its=>IE (kx its.length) (Iq ((iP (fun x=>Iq (jM tg x (fr.map (iF τ)++Τ (G.N.length - fr.length) Φ)) fun NF=>
   Iq (lG cl ifs NF) fun r=>if r=Θ then Iq (IC cl elt NF) fun d=>.ok (Δ d) else .ok Φ) its)) fun ds=>.ok (.lst Θ ds))
noncomputable def jy (cl:Nat->List D->Res D):List IR->Ev->Res (List D)
 |[],_=>.ok []
 |e::es,τ=>Iq (IC cl e τ) fun d=>Iq (jy cl es τ) fun ds=>.ok (d::ds)
noncomputable def p8 (cl:Nat->List D->Res D):Option IR->Ev->Res (Option Int)
 |none,_=>.ok Φ
 |some e,τ=>Iq (IC cl e τ) fun
  |.int i=>.ok (Δ i)
  |_=>Jw
noncomputable def lG (cl:Nat->List D->Res D):List IR->Ev->Res Bool
 |[],_=>.ok Θ
 |e::es,τ=>Iq (Iq (IC cl e τ) iX) fun r=>if r=Θ then lG cl es τ else .ok Ξ
noncomputable def kO (cl:Nat->List D->Res D):Sr->Ev->Res (List D)
 |.JP n,τ=>Iq (IC cl n τ) fun
  |.int i=>IE (mX i) (.ok (jq 0 i))
  |_=>Jw
 |.val e,τ=>Iq (IC cl e τ) kU
 |.zip a b,τ=>Iq (IC cl a τ) fun x=>Iq (IC cl b τ) fun y=>n6 x y
 |.LU a,τ=>Iq (IC cl a τ) AR
end
noncomputable def Rr (cl:Nat->List D->Res D)(t:IR)(τ:Ev):Res Bool:=Iq (IC cl t τ) iX
noncomputable def oY (is:List Nat):Nat->Ev->Ev
 |_,[]=>[]
 |k,o::τ=>(if is.contains k then o.map er else o)::oY is (k+1) τ
noncomputable abbrev JM (is:List Nat)(τ:Ev):Ev:=oY is 0 τ
noncomputable def iS : IR->Bool
 |.bin .add _ _=>Θ
 |.bin .mul _ _=>Θ
 |.sl _ _ _=>Θ
 |.bi .list _=>Θ
 |.comp _ _ _ _ _ _=>Θ
 |.KQ _=>Θ
 |_=>Ξ
noncomputable def iW (e:IR)(d:D)(τ:Ev):D×Ev:=
 if iH d=Θ then(d,τ)
 else match iS e,d with
  |true,.lst _ ds=>if iD ds=Θ then(.lst Θ ds,τ) else(.lst Θ (Jv ds),JM (vars e) τ)
  |_,_=>(er d,JM (vars e) τ)
mutual
noncomputable def JR (cl:Nat->List D->Res D)(mv:Bool):IR->Ev->Res (D×Ev)
 |.v i,τ=>match iF τ i with
  |some d=>if mv=Θ then .ok (d,τ.set i Φ) else .ok (er d,τ.set i (Δ (er d)))
  |none=>Jw
 |.tup es,τ=>Iq (oZ cl mv es τ) fun p=>IE (jo p.1.length) (.ok (.tup p.1,p.2))
 |.lst es,τ=>Iq (oZ cl mv es τ) fun p=>IE (jo p.1.length) (.ok (.lst Θ p.1,p.2))
 |.K3,τ=>.ok (.Jy Θ [] [],τ)
 |.ite t a b,τ=>Iq (Rr cl t τ) fun r=>if r=Θ then JR cl mv a τ else JR cl mv b τ
 |.call f es,τ=>Iq (jy cl es τ) fun ds=>Iq (cl f (Jv ds)) fun d=>if iH d=Θ then .ok (d,τ) else .ok (d,JM (iR es) τ)
 |e,τ=>Iq (IC cl e τ) fun d=>.ok (iW e d τ)
noncomputable def oZ (cl:Nat->List D->Res D)(mv:Bool):List IR->Ev->Res (List D×Ev)
 |[],τ=>.ok ([],τ)
 |e::es,τ=>Iq (JR cl mv e τ) fun p=>Iq (oZ cl mv es p.2) fun q=>.ok (p.1::q.1,q.2)
end
noncomputable def forM (body:D->Ev->Res Fl):List D->Ev->Res Fl
 |[],τ=>.ok (.nx τ)
 |x::xs,τ=>Iq (body x τ) fun
  |.nx τ'=>forM body xs τ'
  |.ct τ'=>forM body xs τ'
  |.bk τ'=>.ok (.nx τ')
  |.rt d=>.ok (.rt d)
  |.ri d ks vs=>.ok (.ri d ks vs)
noncomputable def p9 (cl:Nat->List D->Res D)(s:Sr)(τ:Ev):Res (List D×Ev):=Iq (kO cl s τ) fun its=>match s with
 |.JP _=>.ok (its,τ)
 |s=>.ok (Jv its,JM (kj s) τ)
noncomputable def sH:Ev->Nat->Bool
 |[],_=>Ξ
 |_::_,0=>Θ
 |_::τ,j+1=>sH τ j
noncomputable def AS (i j k:Nat)(ds es:List D)(τ:Ev)(d:D):D->Res Fl
 |.int z=>(match KU es.length z with
  |some t=>IE (iH d) (.ok (.nx ((τ.set i (Δ (.lst Θ (ds.set k (.lst Θ (es.set t d)))))).set j Φ)))
  |none=>Jw)
 |_=>Jw
noncomputable def DM (i j k:Nat)(ds es:List D)(τ:Ev)(d:D):Res Fl:=IE (iH d&&kx es.length) (.ok (.nx ((τ.set i (Δ (.lst Θ (ds.set k (.lst Θ (es++[d])))))).set j Φ)))
noncomputable def vP (cl:Nat->List D->Res D)(i j k:Nat)(x v w:IR)(ds es:List D)(τ:Ev)(r:Bool):Res Fl:=
 if r=Θ then Iq (IC cl v (τ.set j (Δ (.lst Θ es)))) fun d=>Iq (IC cl x (τ.set j (Δ (.lst Θ es)))) (AS i j k ds es τ d)
 else Iq (IC cl w (τ.set j (Δ (.lst Θ es)))) (DM i j k ds es τ)
noncomputable def sI (cl:Nat->List D->Res D)(i j:Nat)(c x v w:IR)(ds:List D)(τ:Ev):Option Nat->Res Fl
 |some k=>(match ds[k]? with
  |some (.lst Θ es)=>IE (iD es&&sH τ j) (Iq (Iq (IC cl c (τ.set j (Δ (.lst Θ es)))) iX) (vP cl i j k x v w ds es τ))
  |_=>Jw)
 |none=>Jw
noncomputable def AU (cl:Nat->List D->Res D)(i j:Nat)(c x v w:IR)(ds:List D)(τ:Ev):D->Res Fl
 |.int z=>sI cl i j c x v w ds τ (KU ds.length z)
 |_=>Jw
noncomputable def xE (cl:Nat->List D->Res D)(i j:Nat)(e c x v w:IR)(τ:Ev):Option D->Res Fl
 |some (.lst Θ ds)=>Iq (IC cl e τ) (AU cl i j c x v w ds τ)
 |_=>Jw
mutual
noncomputable def Ko (cl:Nat->List D->Res D):IS->Ev->Res Fl
 |.asg tg e,τ=>Iq (JR cl Ξ e τ) fun p=>Iq (jM tg p.1 p.2) fun τ'=>.ok (.nx τ')
 |.Lz i k e,τ=>Iq (JR cl Ξ e τ) fun p=>match iF p.2 i with
  |some (.lst Θ ds)=>Iq (IC cl k p.2) fun
   |.int z=>(match KU ds.length z with
    |some j=>.ok (.nx (p.2.set i (Δ (.lst Θ (ds.set j p.1)))))
    |none=>Jw)
   |_=>Jw
  |_=>Jw
 |.app i e,τ=>match iF τ i with
  |some (.lst _ _)=>Iq (JR cl Ξ e τ) fun p=>(match iF p.2 i with
   |some (.lst Θ ds)=>IE (kx ds.length) (.ok (.nx (p.2.set i (Δ (.lst Θ (ds++[p.1]))))))
   |_=>Jw)
  |_=>Jw
 |.Mi i k e,τ=>Iq (IC cl e τ) fun d=>match iF τ i with
  |some (.Jy Θ ks ds)=>Iq (IC cl k τ) fun y=>(match m8 y with
   |some q=>IE (iH d&&iD ds&&kx ks.length) (.ok (.nx (τ.set i (Δ (.Jy Θ (kT ks q) (ki ks ds q d))))))
   |none=>Jw)
  |_=>Jw
 |.N9 i j e c x v w,τ=>xE cl i j e c x v w τ (iF τ i)
 |.ext i e,τ=>match iF τ i with
  |some (.lst _ _)=>Iq (JR cl Ξ e τ) fun p=>(match p.1,iF p.2 i with
   |.lst _ es,Δ (.lst Θ ds)=>IE (jo (ds.length+es.length)) (.ok (.nx (p.2.set i (Δ (.lst Θ (ds++es))))))
   |_,_=>Jw)
  |_=>Jw
 |.exp e,τ=>Iq (IC cl e τ) fun _=>.ok (.nx τ)
 |.ret e,τ=>Iq (JR cl Θ e τ) fun p=>.ok (.rt p.1)
 |.JJ t a b,τ=>Iq (Rr cl t τ) fun r=>if r=Θ then jf cl a τ else jf cl b τ
 |.JH tg s body,τ=>Iq (p9 cl s τ) fun p=>forM (fun x τ=>Iq (jM tg x τ) fun τ'=>jf cl body τ') p.1 p.2
 |.brk,τ=>.ok (.bk τ)
 |.cnt,τ=>.ok (.ct τ)
 |.pass,τ=>.ok (.nx τ)
noncomputable def jf (cl:Nat->List D->Res D):List IS->Ev->Res Fl
 |[],τ=>.ok (.nx τ)
 |s::r,τ=>Iq (Ko cl s τ) fun
  |.nx τ'=>jf cl r τ'
  |.ct τ'=>.ok (.ct τ')
  |.bk τ'=>.ok (.bk τ')
  |.rt d=>.ok (.rt d)
  |.ri d ks vs=>.ok (.ri d ks vs)
end
structure Fn where
 np:Nat
 G:Gm
 body:List IS
 io:Bool:=Ξ
noncomputable def m9 (cl:Nat->List D->Res D)(fn:Fn)(ds:List D):Res D:=
 IE (decide (ds.length=fn.np)) (Iq (jf cl fn.body (ds.map Δ++Τ (fn.G.N.length - fn.np) Φ)) fun
  |.nx _=>.ok .Jt
  |.rt d=>.ok d
  |_=>Jw)
noncomputable def HL:D->D
 |.Jy _ ks vs=>.Jy Θ ks vs
 |d=>d
noncomputable def FU:List D->List D
 |[]=>[]
 |[d]=>[HL d]
 |d::ds=>d::FU ds
noncomputable def sJ (cl:Nat->List D->Res D)(fn:Fn)(ds:List D):Res D:=
 IE (decide (ds.length=fn.np)) (Iq (jf cl fn.body ((FU ds).map Δ++Τ (fn.G.N.length - fn.np) Φ)) fun
  |.ri d ks vs=>.ok (.tup [d,.Jy Ξ ks vs])
  |_=>Jw)
abbrev Tb:=Nat->Option Fn
noncomputable def bK (T:Tb):Nat->Nat->List D->Res D
 |0,_,_=>Jw
 |n+1,f,ds=>match T f with
  |some fn=>(match fn.io with
   |false=>m9 (bK T n) fn ds
   |true=>sJ (bK T n) fn ds)
  |none=>Jw
theorem FV:IC cl (.v i) τ=(match iF τ i with|some d=>.ok d|none=>Jw):=rfl
theorem FW:JR cl mv (.v i) τ=(match iF τ i with|some d=>if mv=Θ then .ok (d,τ.set i Φ) else .ok (er d,τ.set i (Δ (er d)))|none=>Jw):=rfl
theorem zI:type_of% @IR.casesOn.{0}:=@IR.casesOn.{0}
theorem zT:type_of% @IS.casesOn.{0}:=@IS.casesOn.{0}
section
variable {X:Cx}{pins:List (Ω×Obj)}{σ:St}{H:Hp}{S:Ω->Prop}{s:Α}
theorem Inv.KH (I:Inv X pins σ H s)  (h1:Kf X.K H a xs)(h2:JO X.K H a ys):False:=by obtain⟨its,_,⟨o,n,e,c,_⟩,_⟩:=I.list h1;obtain⟨its',_,⟨o',e',c',_⟩,_⟩:=I.tuple h2;rw[e]at e';cases e';rw[c]at c';injection c' with c';exact absurd c' (by decide)
theorem Inv.Nj (I:Inv X pins σ H s)  (h:Rd H a (.dK kvs)):∃o es ep,s.heap.get? a=Δ o/\o.data=.dict es ep:=by obtain⟨_,_,vs,_,o,es,ep,e,c,d,_⟩:=h.ok I.JD;exact⟨o,es,ep,e,d⟩
theorem Inv.MA (I:Inv X pins σ H s)  (h:Rd H a (.dK kvs))(k:JO X.K H a xs):False:=by obtain⟨o,es,ep,e,d⟩:=I.Nj h;obtain⟨its',_,⟨o',e',c',n,d'⟩,_⟩:=I.tuple k;rw[e]at e';cases e';rw[d]at d';cases d'
theorem Inv.K8 (I:Inv X pins σ H s)  (h:Rd H a (.dK kvs))(k:Kf X.K H a xs):False:=by obtain⟨o,es,ep,e,d⟩:=I.Nj h;obtain⟨its',_,⟨o',n,e',c',n',d'⟩,_⟩:=I.list k;rw[e]at e';cases e';rw[d]at d';cases d'
theorem Rd.dk (h:Rd H a (.dK u))(k:Rd H a (.dK v)):u=v:=by rcases h with h|⟨o,h⟩<;>rcases k with k|⟨o',k⟩<;>(rw[h]at k;cases k;try rfl)
mutual
theorem IB.one (I:Inv X pins σ H s):∀ {v:V}{d e:D},IB X.K S H v d->IB X.K S H v e->er d=er e
 |_,_,_,.Jt,h=>by cases h;rfl
 |_,_,_,.bl b,h=>by cases h;rfl
 |_,_,_,.int i,h=>by cases h;rfl
 |_,_,_,.str x,h=>by cases h;rfl
 |_,_,_,.tup h1 h2,h=>by
  cases h with
  |tup k1 k2=>have e:=I.KO h1 k1;subst e;rw[er,er,Iz.one I h2 k2]
  |lst k0 k1 k2=>exact(I.KH (.inl k1) h1).elim
  |lstK k1 k2=>exact(I.KH k1.sq h1).elim
  |Jy k0 k1 k2 k3=>exact(I.MA k1 h1).elim
 |_,_,_,.lst h0 h1 h2,h=>by
  cases h with
  |tup k1 k2=>exact(I.KH (.inl h1) k1).elim
  |lst k0 k1 k2=>have e:=I.J2 (.inl h1) (.inl k1);subst e;rw[er,er,Iz.one I h2 k2]
  |lstK k1 k2=>have e:=I.J2 (.inl h1) k1.sq;subst e;rw[er,er,Iz.one I h2 k2]
  |Jy k0 k1 k2 k3=>exact(I.K8 k1 (.inl h1)).elim
 |_,_,_,.lstK h1 h2,h=>by
  cases h with
  |tup k1 k2=>exact(I.KH h1.sq k1).elim
  |lst k0 k1 k2=>have e:=I.J2 h1.sq (.inl k1);subst e;rw[er,er,Iz.one I h2 k2]
  |lstK k1 k2=>have e:=I.J2 h1.sq k1.sq;subst e;rw[er,er,Iz.one I h2 k2]
  |Jy k0 k1 k2 k3=>exact(I.K8 k1 h1.sq).elim
 |_,_,_,.Jy h0 h1 h2 h3,h=>by
  cases h with
  |tup k1 k2=>exact(I.MA h1 k1).elim
  |lst k0 k1 k2=>exact(I.K8 h1 (.inl k1)).elim
  |lstK k1 k2=>exact(I.K8 h1 k1.sq).elim
  |Jy k0 k1 k2 k3=>have e:=Rd.dk h1 k1;subst e;rw[er,er,Iz.one I h3 k3,<- h2,<- k2]
theorem Iz.one (I:Inv X pins σ H s):∀ {vs:List V}{ds es:List D},Iz X.K S H vs ds->Iz X.K S H vs es->Jv ds=Jv es
 |_,_,_,.nil,h=>by cases h;rfl
 |_,_,_,.cons h1 h2,h=>by
  cases h with
  |cons k1 k2=>rw[Jv,Jv,IB.one I h1 k1,Iz.one I h2 k2]
end
end
theorem kq (h:Iq x f=.ok b):∃a,x=.ok a/\f a=.ok b:=by
 cases x with
 |error e=>cases h
 |ok a=>exact⟨a,rfl,h⟩
theorem DN (h:IE c x=.ok b):c=Θ/\x=.ok b:=by
 unfold IE at h;cases c with
 |true=>exact⟨rfl,h⟩
 |false=>cases h
theorem kz (hf:∀d e r,f d e=.ok r->er d=er e->r=Θ):∀ {ds es:List D}{r:Bool},kN f ds es=.ok r->Jv ds=Jv es->r=Θ
 |[],[],r,h,_=>by cases h;rfl
 |[],_::_,_,_,h=>by rw[Jv,Jv]at h;cases h
 |_::_,[],_,_,h=>by rw[Jv,Jv]at h;cases h
 |a::ds,b::es,r,h,h'=>by rw[Jv,Jv]at h';injection h' with e1 e2;obtain⟨x,hx,h⟩:=kq (show Iq (f a b) (fun x=>Iq (kN f ds es) fun y=>.ok (x&&y))=.ok r from h);obtain⟨y,hy,h⟩:=kq h;cases h;rw[hf a b x hx e1,kz hf hy e2];rfl
theorem lZ:∀(n:Nat) (d e:D) (r:Bool),Kb n d e=.ok r->er d=er e->r=Θ
 |0,_,_,_,h,_=>by cases h
 |n+1,d,e,r,h,h'=>by
  induction d using zD with
  |tup ds=>
   induction e using zD with
   |tup es=>rw[er,er]at h';injection h' with e1;exact kz (lZ n) h e1
   |Jt=>rw[er,er]at h';cases h'
   |bl _=>rw[er,er]at h';cases h'
   |int _=>rw[er,er]at h';cases h'
   |str _=>rw[er,er]at h';cases h'
   |lst _ _=>rw[er,er]at h';cases h'
   |Jy _ _ _=>cases h
  |lst o ds=>
   induction e using zD with
   |lst o' es=>rw[er,er]at h';injection h' with _ e1;exact kz (lZ n) h e1
   |Jt=>rw[er,er]at h';cases h'
   |bl _=>rw[er,er]at h';cases h'
   |int _=>rw[er,er]at h';cases h'
   |str _=>rw[er,er]at h';cases h'
   |tup _=>rw[er,er]at h';cases h'
   |Jy _ _ _=>cases h
  |Jy _ _ _=>induction e using zD<;>cases h
  |Jt=>induction e using zD<;>first|(cases h;done)|(cases h;rfl)|(exfalso;simp[er]at h')
  |bl b=>induction e using zD<;>first|(simp only[er,D.bl.injEq]at h';subst h';cases h;simp)|(exfalso;simp[er]at h')
  |int b=>induction e using zD<;>first|(simp only[er,D.int.injEq]at h';subst h';cases h;simp)|(exfalso;simp[er]at h')
  |str b=>induction e using zD<;>first|(simp only[er,D.str.injEq]at h';subst h';cases h;simp)|(exfalso;simp[er]at h')
theorem rb:∀ {ds es:List D}{r:Bool},kN f ds es=.ok r->ds.length≠es.length->r=Ξ
 |[],[],_,_,h=>absurd rfl h
 |[],_::_,_,h,_=>by cases h;rfl
 |_::_,[],_,h,_=>by cases h;rfl
 |a::ds,b::es,r,h,n=>by obtain⟨x,hx,h⟩:=kq (show Iq (f a b) (fun x=>Iq (kN f ds es) fun y=>.ok (x&&y))=.ok r from h);obtain⟨y,hy,h⟩:=kq h;cases h;rw[rb hy (fun z=>n (by rw[List.length_cons,List.length_cons,z]))];simp
theorem t5:∀ {ds es:List D}{r:Bool},kN f ds es=.ok r->ds.length=es.length->
  ∃e:Nat->Bool,(∀j a b,ds[j]? = Δ a->es[j]? = Δ b->f a b=.ok (e j))/\r=(List.range ds.length).all e
 |[],[],r,h,_=>by cases h;exact⟨fun _=>Θ,fun j a b h=>by simp at h,rfl⟩
 |[],_::_,_,_,h=>by cases h
 |_::_,[],_,_,h=>by cases h
 |a::ds,b::es,r,h,n=>by
  obtain⟨x,hx,h⟩:=kq (show Iq (f a b) (fun x=>Iq (kN f ds es) fun y=>.ok (x&&y))=.ok r from h);obtain⟨y,hy,h⟩:=kq h;cases h;obtain⟨e,h1,h2⟩:=t5 hy (by simpa using n);refine⟨fun j=>match j with|0=>x|k+1=>e k,fun j a' b' e1 e2=>?_,?_⟩
  ·cases j with
   |zero=>simp at e1 e2;subst e1 e2;exact hx
   |succ k=>exact h1 k a' b' (by simpa using e1) (by simpa using e2)
  ·rw[h2,List.length_cons,List.range_succ_eq_map,List.all_cons,List.all_map];rfl
section
variable {X:Cx}{pins:List (Ω×Obj)}{σ:St}{H:Hp}{S:Ω->Prop}{s:Α}
structure OB (A:Ι)(s:Α)(v u:Ψ)(r:Bool):Prop where
 eq:EqAt A s v u r
 rc:RcAt A s v u r
 ne:RcNeAt A s v u (!r)
theorem rf (n:Nat)(A:Ι)(ih:∀(x y:V)(v u:Ψ)(d e:D)(r:Bool),IB X.K S H x d->IB X.K S H y e->RelV x v->RelV y u->Kb n d e=.ok r->EqAt A.in1 s v u r)
   {its its':List Ψ}  (rv:Vals xs its) (Qg:Vals ys its') (h2:Iz X.K S H xs ds) (k2:Iz X.K S H ys es) (hr:kN (Kb n) ds es=.ok r) :
  ∃e:Nat->Bool,(∀j (q1:j < its.toArray.size) (q2:j < its'.toArray.size),EqAt A.in1 s its.toArray[j] its'.toArray[j] (e j))/\r=((List.range (min its.toArray.size its'.toArray.size)).all e&&its.toArray.size == its'.toArray.size):=by
 have l1:=h2.length;have l2:=k2.length;have l3:=rv.length;have l4:=Qg.length;have pair:∀j (j1:j < its.toArray.size) (j2:j < its'.toArray.size) (b:Bool) (d1:j < ds.length) (d2:j < es.length),Kb n ds[j] es[j]=.ok b->EqAt A.in1 s its.toArray[j] its'.toArray[j] b:=by
  intro j j1 j2 b d1 d2 hb;obtain⟨x',e1,m1⟩:=h2.get (i:=j) (d:=ds[j]) (by simp);obtain⟨y',e2,m2⟩:=k2.get (i:=j) (d:=es[j]) (by simp);obtain⟨v',ev,MQ⟩:=rv.get e1;obtain⟨u',eu,Uz⟩:=Qg.get e2;have hv:its.toArray[j]=v':=by have:=(x_.mp ev).2;simpa using this
  have S6:its'.toArray[j]=u':=by have:=(x_.mp eu).2;simpa using this
  rw[hv,S6];exact ih x' y' v' u' _ _ _ m1 m2 MQ Uz hb
 have z1:its.toArray.size=ds.length:=by simp;omega
 have z2:its'.toArray.size=es.length:=by simp;omega
 by_cases hl:ds.length=es.length
 ·obtain⟨e,q1,q2⟩:=t5 hr hl;refine⟨e,fun j j1 j2=>pair j j1 j2 _ (by omega) (by omega) (q1 j _ _ (by simp) (by simp)),?_⟩;rw[q2,z1,z2,hl];simp
 ·have N':=rb hr hl;have each:∀(ds es:List D) (r:Bool),kN (Kb n) ds es=.ok r->∀j (q1:j < ds.length) (q2:j < es.length),∃b,Kb n ds[j] es[j]=.ok b:=by
   intro ds
   induction ds with
   |nil=>intro es r _ j q1;simp at q1
   |cons a ds ih=>
    intro es r h j q1 q2;cases es with
    |nil=>simp at q2
    |cons b es=>
     obtain⟨x,hx,h⟩:=kq (show Iq (Kb n a b) (fun x=>Iq (kN (Kb n) ds es) fun y=>.ok (x&&y))=.ok r from h);obtain⟨y,hy,h⟩:=kq h;cases j with
     |zero=>exact⟨x,hx⟩
     |succ k=>exact ih es y hy k (by simpa using q1) (by simpa using q2)
  refine⟨fun j=>if q:j < ds.length/\j < es.length then((match Kb n (ds[j]'q.1) (es[j]'q.2) with|.ok b=>b|.error _=>Ξ)) else Ξ,fun j j1 j2=>?_,?_⟩
  ·have d1:j < ds.length:=by omega
   have d2:j < es.length:=by omega
   obtain⟨b,hb⟩:=each ds es r hr j d1 d2;have q:=pair j j1 j2 b d1 d2 hb;show EqAt A.in1 s its.toArray[j] its'.toArray[j] (dite _ _ _);rw[dif_pos (show j < ds.length/\j < es.length from⟨d1,d2⟩),hb];exact q
  ·rw[N'];have:(its.toArray.size == its'.toArray.size)=Ξ:=by rw[beq_eq_false_iff_ne,z1,z2];exact hl
   rw[this,Bool.and_false]
theorem xF (I:Inv X pins σ H s)(n:Nat)(A:Ι)(ih:∀(x y:V)(v u:Ψ)(d e:D)(r:Bool),IB X.K S H x d->IB X.K S H y e->RelV x v->RelV y u->Kb n d e=.ok r->EqAt A.in1 s v u r)
   (ha:Kf X.K H a xs) (hb:Kf X.K H b ys) (h2:Iz X.K S H xs ds) (k2:Iz X.K S H ys es)
  (m1:IB X.K S H (.ref a) (.lst o ds)) (m2:IB X.K S H (.ref b) (.lst o' es)) (hr:kN (Kb n) ds es=.ok r) (JQ:A.units < cLine):OB A s (.ref a) (.ref b) r:=by
 obtain⟨its,rv,p,_⟩:=I.list ha;obtain⟨its',Qg,p',_⟩:=I.list hb;obtain⟨e,he,Qi⟩:=rf n A ih rv Qg h2 k2 hr;have both:RcAt A s (.ref a) (.ref b) r/\RcNeAt A s (.ref a) (.ref b) (!r):=by
  by_cases hl:its.toArray.size=its'.toArray.size
  ·have Pn:r=(List.range its.toArray.size).all e:=by rw[Qi,<- hl,Nat.min_self];simp
   rw[Pn];exact⟨.lists p.isList p'.isList hl JQ he,.lists p.isList p'.isList hl JQ he⟩
  ·have Ly:(its.toArray.size != its'.toArray.size)=Θ:=by simpa using hl
   have Pn:r=Ξ:=by
    rw[Qi];have:(its.toArray.size == its'.toArray.size)=Ξ:=by rw[beq_eq_false_iff_ne];exact hl
    rw[this,Bool.and_false]
   rw[Pn];exact⟨.lists_lengths p.isList p'.isList Ly JQ,.lists_lengths p.isList p'.isList Ly JQ⟩
 refine⟨?_,both.1,both.2⟩;by_cases Rt:a=b
 ·subst Rt;have hd:=IB.one I m1 m2;rw[er,er]at hd;injection hd with _ hd;rw[kz (lZ n) hr hd];exact .same _
 ·exact .of_refs Rt both.1
set_option maxHeartbeats 4000000 in
theorem qa (I:Inv X pins σ H s):∀(n:Nat) (A:Ι) (x y:V) (v u:Ψ) (d e:D) (r:Bool),IB X.K S H x d->IB X.K S H y e->RelV x v->RelV y u->Kb n d e=.ok r->
  A.units+n < cLine->OB A s v u r
 |0,_,_,_,_,_,_,_,_,_,_,_,_,h,_=>by cases h
 |n+1,A,x,y,v,u,d,e,r,hx,hy,rx,ry,h,hu=>by
  have JQ:A.units < cLine:=by omega
  have Uy:A.in1.units+n < cLine:=by show A.units+1+n < cLine;omega
  have ih:∀(x y:V) (v u:Ψ) (d e:D) (r:Bool),IB X.K S H x d->IB X.K S H y e->RelV x v->RelV y u->Kb n d e=.ok r->EqAt A.in1 s v u r:=
   fun x y v u d e r a1 a2 a3 a4 a5=>(qa I n A.in1 x y v u d e r a1 a2 a3 a4 a5 Uy).eq
  induction d using zD with
  |Jt=>
   cases hx.K2;cases rx
   induction e using zD with
   |Jt=>cases hy.K2;cases ry;cases h;exact⟨.same _,.none_none,.none_none⟩
   |bl b'=>cases hy.MT;cases ry;cases h;exact⟨.none_bool _,.none_bool _,.none_bool _⟩
   |int i'=>cases hy.JE;obtain⟨t2,rfl⟩:=ry;cases h;exact⟨.none_int _ _,.none_int _ _,.none_int _ _⟩
   |str z'=>cases hy.JV;obtain⟨t2,rfl⟩:=ry;cases h;exact⟨.none_str _ _,.none_str _ _,.none_str _ _⟩
   |tup es=>obtain⟨a2,Nk,rfl,q2,m2⟩:=hy.Ka;cases ry;obtain⟨JS,Lv,p2,_⟩:=I.tuple q2;cases h;exact⟨.none_tuple p2 JQ,.none_tuple p2 JQ,.none_tuple p2 JQ⟩
   |lst o' es=>obtain⟨a2,Nk,rfl,q2,m2⟩:=hy.J1;cases ry;obtain⟨JS,Lv,p2,_⟩:=I.list q2;cases h;exact⟨.none_list p2.isList JQ,.none_list p2.isList JQ,.none_list p2.isList JQ⟩
   |Jy _ _ _=>cases h
  |bl b=>
   cases hx.MT;cases rx
   induction e using zD with
   |Jt=>cases hy.K2;cases ry;cases h;exact⟨.bool_none _,.bool_none _,.bool_none _⟩
   |bl b'=>cases hy.MT;cases ry;cases h;exact⟨.bool_bool _ _,.bool_bool _ _,.bool_bool _ _⟩
   |int i'=>cases hy.JE;obtain⟨t2,rfl⟩:=ry;cases h;exact⟨.bool_int _ _ _,.bool_int _ _ _,.bool_int _ _ _⟩
   |str z'=>cases hy.JV;obtain⟨t2,rfl⟩:=ry;cases h;exact⟨.bool_str _ _ _,.bool_str _ _ _,.bool_str _ _ _⟩
   |tup es=>obtain⟨a2,Nk,rfl,q2,m2⟩:=hy.Ka;cases ry;obtain⟨JS,Lv,p2,_⟩:=I.tuple q2;cases h;exact⟨.bool_tuple _ p2 JQ,.bool_tuple _ p2 JQ,.bool_tuple _ p2 JQ⟩
   |lst o' es=>obtain⟨a2,Nk,rfl,q2,m2⟩:=hy.J1;cases ry;obtain⟨JS,Lv,p2,_⟩:=I.list q2;cases h;exact⟨.bool_list _ p2.isList JQ,.bool_list _ p2.isList JQ,.bool_list _ p2.isList JQ⟩
   |Jy _ _ _=>cases h
  |int i=>
   cases hx.JE;obtain⟨t1,rfl⟩:=rx
   induction e using zD with
   |Jt=>cases hy.K2;cases ry;cases h;exact⟨.int_none _ _,.int_none _ _,.int_none _ _⟩
   |bl b'=>cases hy.MT;cases ry;cases h;exact⟨.int_bool _ _ _,.int_bool _ _ _,.int_bool _ _ _⟩
   |int i'=>cases hy.JE;obtain⟨t2,rfl⟩:=ry;cases h;exact⟨.int_int _ _ _ _,.int_int _ _ _ _,.int_int _ _ _ _⟩
   |str z'=>cases hy.JV;obtain⟨t2,rfl⟩:=ry;cases h;exact⟨.int_str _ _ _ _,.int_str _ _ _ _,.int_str _ _ _ _⟩
   |tup es=>obtain⟨a2,Nk,rfl,q2,m2⟩:=hy.Ka;cases ry;obtain⟨JS,Lv,p2,_⟩:=I.tuple q2;cases h;exact⟨.int_tuple _ _ p2 JQ,.int_tuple _ _ p2 JQ,.int_tuple _ _ p2 JQ⟩
   |lst o' es=>obtain⟨a2,Nk,rfl,q2,m2⟩:=hy.J1;cases ry;obtain⟨JS,Lv,p2,_⟩:=I.list q2;cases h;exact⟨.int_list _ _ p2.isList JQ,.int_list _ _ p2.isList JQ,.int_list _ _ p2.isList JQ⟩
   |Jy _ _ _=>cases h
  |str z=>
   cases hx.JV;obtain⟨t1,rfl⟩:=rx
   induction e using zD with
   |Jt=>cases hy.K2;cases ry;cases h;exact⟨.str_none _ _,.str_none _ _,.str_none _ _⟩
   |bl b'=>cases hy.MT;cases ry;cases h;exact⟨.str_bool _ _ _,.str_bool _ _ _,.str_bool _ _ _⟩
   |int i'=>cases hy.JE;obtain⟨t2,rfl⟩:=ry;cases h;exact⟨.str_int _ _ _ _,.str_int _ _ _ _,.str_int _ _ _ _⟩
   |str z'=>cases hy.JV;obtain⟨t2,rfl⟩:=ry;cases h;exact⟨.str_str _ _ _ _,.str_str _ _ _ _,.str_str _ _ _ _⟩
   |tup es=>obtain⟨a2,Nk,rfl,q2,m2⟩:=hy.Ka;cases ry;obtain⟨JS,Lv,p2,_⟩:=I.tuple q2;cases h;exact⟨.str_tuple _ _ p2 JQ,.str_tuple _ _ p2 JQ,.str_tuple _ _ p2 JQ⟩
   |lst o' es=>obtain⟨a2,Nk,rfl,q2,m2⟩:=hy.J1;cases ry;obtain⟨JS,Lv,p2,_⟩:=I.list q2;cases h;exact⟨.str_list _ _ p2.isList JQ,.str_list _ _ p2.isList JQ,.str_list _ _ p2.isList JQ⟩
   |Jy _ _ _=>cases h
  |tup ds=>
   obtain⟨a1,ZN,rfl,q1,m1⟩:=hx.Ka;cases rx;obtain⟨L1,MQ,p1,_⟩:=I.tuple q1
   induction e using zD with
   |Jt=>cases hy.K2;cases ry;cases h;exact⟨.tuple_none p1 JQ,.tuple_none p1 JQ,.tuple_none p1 JQ⟩
   |bl b'=>cases hy.MT;cases ry;cases h;exact⟨.tuple_bool _ p1 JQ,.tuple_bool _ p1 JQ,.tuple_bool _ p1 JQ⟩
   |int i'=>cases hy.JE;obtain⟨t2,rfl⟩:=ry;cases h;exact⟨.tuple_int _ _ p1 JQ,.tuple_int _ _ p1 JQ,.tuple_int _ _ p1 JQ⟩
   |str z'=>cases hy.JV;obtain⟨t2,rfl⟩:=ry;cases h;exact⟨.tuple_str _ _ p1 JQ,.tuple_str _ _ p1 JQ,.tuple_str _ _ p1 JQ⟩
   |tup es=>
    have K7:=hx;have Mz:=hy;obtain⟨a2,Nk,rfl,q2,m2⟩:=hy.Ka;cases ry;obtain⟨JS,Lv,p2,_⟩:=I.tuple q2;have hr:kN (Kb n) ds es=.ok r:=h;obtain⟨e,he,Qi⟩:=rf n A ih MQ Lv m1 m2 hr;refine⟨?_,?_,?_⟩
    ·by_cases Rt:a1=a2
     ·subst Rt;have hd:=IB.one I K7 Mz;rw[er,er]at hd;injection hd with hd;rw[kz (lZ n) hr hd];exact .same _
     ·rw[Qi];exact .of_refs Rt (.tuples p1 p2 JQ he)
    ·rw[Qi];exact .tuples p1 p2 JQ he
    ·rw[Qi];exact .tuples p1 p2 JQ he
   |lst o' es=>obtain⟨a2,Nk,rfl,q2,m2⟩:=hy.J1;cases ry;obtain⟨JS,Lv,p2,_⟩:=I.list q2;cases h;exact⟨.tuple_list p1 p2.isList JQ,.tuple_list p1 p2.isList JQ,.tuple_list p1 p2.isList JQ⟩
   |Jy _ _ _=>cases h
  |lst o ds=>
   obtain⟨a1,ZN,rfl,q1,m1⟩:=hx.J1;cases rx;obtain⟨L1,MQ,p1,_⟩:=I.list q1
   induction e using zD with
   |Jt=>cases hy.K2;cases ry;cases h;exact⟨.list_none p1.isList JQ,.list_none p1.isList JQ,.list_none p1.isList JQ⟩
   |bl b'=>cases hy.MT;cases ry;cases h;exact⟨.list_bool _ p1.isList JQ,.list_bool _ p1.isList JQ,.list_bool _ p1.isList JQ⟩
   |int i'=>cases hy.JE;obtain⟨t2,rfl⟩:=ry;cases h;exact⟨.list_int _ _ p1.isList JQ,.list_int _ _ p1.isList JQ,.list_int _ _ p1.isList JQ⟩
   |str z'=>cases hy.JV;obtain⟨t2,rfl⟩:=ry;cases h;exact⟨.list_str _ _ p1.isList JQ,.list_str _ _ p1.isList JQ,.list_str _ _ p1.isList JQ⟩
   |tup es=>obtain⟨a2,Nk,rfl,q2,m2⟩:=hy.Ka;cases ry;obtain⟨JS,Lv,p2,_⟩:=I.tuple q2;cases h;exact⟨.list_tuple p1.isList p2 JQ,.list_tuple p1.isList p2 JQ,.list_tuple p1.isList p2 JQ⟩
   |lst o' es=>have K7:=hx;have Mz:=hy;obtain⟨a2,Nk,rfl,q2,m2⟩:=hy.J1;cases ry;obtain⟨JS,Lv,p2,_⟩:=I.list q2;exact xF I n A ih q1 q2 m1 m2 K7 Mz h JQ
   |Jy _ _ _=>cases h
  |Jy _ _ _=>induction e using zD<;>cases h
end
abbrev nw (S:Ω->Prop)(H:Hp):Ω->Prop:=fun a=>S a∨H a=Φ
abbrev Kk (K:Frag)(S:Ω->Prop)(H:Hp)(Q:VK):D->Prop:=fun d=>∀w H',iL H H'->IB K (nw S H) H' w d->Q w H'
theorem IB.nw {K:Frag}{S:Ω->Prop}{H:Hp}{v:V}{d:D}(h:IB K S H v d):IB K (nw S H) H v d:=h.mono (fun _=>.inl) (.refl _)
theorem DO {K:Frag}{S:Ω->Prop}{H:Hp}{p:Ω}{vs:List V}{ds:List D}(hp:H p=Φ)(h:Iz K S H vs ds):IB K (nw S H) (upd H p (.tup vs)) (.ref p) (.tup ds):=
 .tup (.inl (.inl iM)) (h.mono (fun _=>.inl) (.upd hp))
theorem sL {K:Frag}{S:Ω->Prop}{H:Hp}{p:Ω}{vs:List V}{ds:List D}{o:Bool}(hp:H p=Φ)(h:Iz K S H vs ds):IB K (nw S H) (upd H p (.lst vs)) (.ref p) (.lst o ds):=
 .lst (.inr hp) (.inl iM) (h.mono (fun _=>.inl) (.upd hp))
noncomputable def Oa:Qh->Operator
 |.add=>.Add|.sub=>.Sub|.mul=>.Mult|.fdiv=>.FloorDiv|.mod=>.Mod|.pow=>.Pow
noncomputable def LL:M1->CmpOp
 |.eq=>.Eq|.ne=>.NotEq|.lt=>.Lt|.le=>.LtE|.gt=>.Gt|.ge=>.GtE|.M3=>.In|.ND=>.NotIn|.N7=>.Is|.Lh=>.IsNot
def HM (K:Frag)(op:Qh):R2:=fun x y H Q=>∃S d e,IB K S H x d/\IB K S H y e/\IA (KN op d e) (Kk K S H Q)
def HN (K:Frag)(op:M1):R2:=fun x y H Q=>∃S d e,IB K S H x d/\IB K S H y e/\IA (Kg op d e) fun r=>Q (.bl r) H
section
variable {X:Cx}
theorem jv (h:jo n=Θ):n<=Ζ:=q_ h
theorem nq (h:kx n=Θ):n < Ζ:=q_ h
theorem t6:Lk X (binaryOp .Add) (fun x y H Q=>∃l b xs zs,x=.ref l/\y=.ref b/\Ls X.K H l xs/\Ls X.K H b zs/\xs.length+zs.length<=Ζ/\∀p,H p=Φ->Q (.ref p) (upd H p (.lst (xs++zs)))):=by
 intro pins s σ H x y v u Q I rx ry h;obtain⟨l,b,xs,zs,rfl,rfl,hH,hB,hz,q⟩:=h;cases rx;cases ry;obtain⟨hl,its,n,r,e⟩:=I.ls hH;obtain⟨NC,JS,n2,r2,e'⟩:=I.ls hB;have e1:=r.length;have e2:=r2.length;refine PySem.P.add_list e e' ?_ (by rw[A_,A_];omega);have ea:its.toArray++JS.toArray=(its++JS).toArray:=by simp
 rw[ea];exact⟨.ref _,_,I.O6 (t':=s.toks) (r.append r2) (by rw[o_];omega),rfl,q _ I.fresh⟩
theorem xG {its:List Ψ}(r:Vals vs its):∀k:Nat,Vals (Τ k vs).flatten (Τ k its).flatten:=r.rep
theorem AV:Lk X (binaryOp .Mult) (fun x y H Q=>∃l k xs,x=.ref l/\y=.int k/\Ls X.K H l xs/\0<=k/\k<=16000/\xs.length<=1000/\∀p,H p=Φ->Q (.ref p) (upd H p (.lst (Τ k.toNat xs).flatten))):=by
 intro pins s σ H x y v u Q I rx ry h;obtain⟨l,k,xs,rfl,rfl,hH,h1,h2,hx,q⟩:=h;cases rx;obtain⟨t,rfl⟩:=ry;obtain⟨hl,its,n,r,e⟩:=I.ls hH;have el:=r.length;have hz:xs.length*k.toNat<=1000*16000:=Nat.mul_le_mul hx (by omega);have big:1000*16000<=Ζ:=by decide
 have hsz:its.toArray.size*k.toNat<=Ζ:=by rw[A_,<- el];omega
 have c1:¬its.toArray.size*k.toNat > (2 ^ 63 - 1) / 8:=by
  have:(Ζ:Nat)<=(2 ^ 63 - 1) / 8:=by decide
  omega
 have c2:¬(!Builtin.List.listFitsIndex k)=Θ:=by rw[fitsIndex_both (by omega) (by omega)];exact n_
 have c3:¬Builtin.List.listTooLong (its.toArray.size*k.toNat)=Θ:=by rw[qH hsz];exact n_
 have f0:∀m:Nat,List.foldl (fun a b=>a++b) #[] (Τ m its.toArray)=(Τ m its).flatten.toArray:=fun m=>by have z:=foldl_rep its m [];rw[List.nil_append]at z;exact z
 have f1:List.foldl (fun a b=>a++b) #[] (Τ (if its.toArray.isEmpty=Θ then 0 else k.toNat) its.toArray)=(Τ k.toNat its).flatten.toArray:=by
  rw[f0];cases its with
  |nil=>simp
  |cons _ _=>rw[d_ (by simp)]
 refine wpAny_binaryOp_repeat_ref (T:="list") (U:="int") (by decide) ⟨_,e,rfl⟩ (fun s'=>typeIs_int s' k t) noFill_list_mul F.fills_int_mul F.slot_int_rmul repeat_list F.slot_int_index.lookup (call_meets F.slot_int_rmul (typeIs_int s k t) F.entry_int_rmul (F.args_int_rmul_2 _ _) (int___rmul___int_list k t l its.toArray n) ⟨e,rfl,⟨_,e,rfl⟩,call_meets F.slot_list_mul ⟨_,e,rfl⟩ F.entry_list_mul (F.args_list_mul_2 _ _) (AutoListH.list___mul___list_int_3 l its.toArray n k t c2 c1 c3) ⟨e,?_⟩⟩);rw[f1];exact⟨.ref _,_,I.O6 (t':=s.toks) (xG r k.toNat) (by rw[len_rep,Nat.mul_comm];omega),rfl,q _ I.fresh⟩
theorem DP (op:Qh):Lk X (binaryOp (Oa op)) (HM X.K op):=by
 intro pins s σ H x y v u Q I rx ry h;obtain⟨S,d,e,hx,hy,h⟩:=h;have stuck:∀ {P:Prop},KN op d e=Jw->P:=fun z=>by rw[z]at h;exact h.no.elim
 cases op with
 |add=>
  induction d using zD with
  |int a=>
   induction e using zD with
   |int b=>cases hx.JE;cases hy.JE;exact Dc pins s σ H _ _ v u Q I rx ry ⟨a,b,rfl,rfl,h.ok _ _ (.refl _) (.int _)⟩
   |_=>exact stuck rfl
  |str a=>
   induction e using zD with
   |str b=>cases hx.JV;cases hy.JV;obtain⟨g,h⟩:=IA.IE h;exact rW pins s σ H _ _ v u Q I rx ry ⟨a,b,rfl,rfl,jv g,h.ok _ _ (.refl _) (.str _)⟩
   |_=>exact stuck rfl
  |lst o a=>
   induction e using zD with
   |lst o' b=>obtain⟨p,xs,rfl,q1,m1⟩:=hx.N6;obtain⟨p',ys,rfl,q2,m2⟩:=hy.N6;obtain⟨g,h⟩:=IA.IE h;have g':=jv g;have l1:=m1.length;have l2:=m2.length;exact t6 pins s σ H _ _ v u Q I rx ry ⟨p,p',xs,ys,rfl,rfl,q1,q2,by omega,fun z hz=>h.ok _ _ (.upd hz) (sL hz (m1.append m2))⟩
   |_=>exact stuck rfl
  |_=>exact stuck rfl
 |sub=>
  induction d using zD with
  |int a=>
   induction e using zD with
   |int b=>cases hx.JE;cases hy.JE;exact Dd pins s σ H _ _ v u Q I rx ry ⟨a,b,rfl,rfl,h.ok _ _ (.refl _) (.int _)⟩
   |_=>exact stuck rfl
  |_=>exact stuck rfl
 |mul=>
  induction d using zD with
  |int a=>
   induction e using zD with
   |int b=>cases hx.JE;cases hy.JE;obtain⟨g,h⟩:=IA.IE h;rw[aag]at g;exact De pins s σ H _ _ v u Q I rx ry ⟨a,b,rfl,rfl,g.elim (fun z=>.inl (q_ z)) (fun z=>.inr (q_ z)),h.ok _ _ (.refl _) (.int _)⟩
   |_=>exact stuck rfl
  |str a=>
   induction e using zD with
   |int b=>cases hx.JV;cases hy.JE;obtain⟨g,h⟩:=IA.IE h;have g':=q_ g;exact rZ pins s σ H _ _ v u Q I rx ry ⟨a,b,rfl,rfl,g'.1,g'.2.1,g'.2.2,h.ok _ _ (.refl _) (.str _)⟩
   |_=>exact stuck rfl
  |lst _ _=>cases e<;>exact stuck rfl
  |_=>exact stuck rfl
 |fdiv=>
  induction d using zD with
  |int a=>
   induction e using zD with
   |int b=>cases hx.JE;cases hy.JE;obtain⟨g,h⟩:=IA.IE h;exact Ah pins s σ H _ _ v u Q I rx ry ⟨a,b,rfl,rfl,show 0 < b/\b < 1073741824 from q_ g,h.ok _ _ (.refl _) (.int _)⟩
   |_=>exact stuck rfl
  |_=>exact stuck rfl
 |mod=>
  induction d using zD with
  |int a=>
   induction e using zD with
   |int b=>cases hx.JE;cases hy.JE;obtain⟨g,h⟩:=IA.IE h;exact Df pins s σ H _ _ v u Q I rx ry ⟨a,b,rfl,rfl,q_ g,h.ok _ _ (.refl _) (.int _)⟩
   |_=>exact stuck rfl
  |_=>exact stuck rfl
 |pow=>
  induction d using zD with
  |int a=>
   induction e using zD with
   |int b=>cases hx.JE;cases hy.JE;obtain⟨g,h⟩:=IA.IE h;exact Dg pins s σ H _ _ v u Q I rx ry ⟨a,b,rfl,rfl,show 0<=b/\b<=1000000/\a.natAbs < 2 ^ 64 from q_ g,h.ok _ _ (.refl _) (.int _)⟩
   |_=>exact stuck rfl
  |_=>exact stuck rfl
theorem IA.Kb (h:IA (L2.Kb n d e) k):∃r,L2.Kb n d e=.ok r/\k r:=by
 cases q:L2.Kb n d e with
 |ok r=>rw[q]at h;exact⟨r,rfl,h⟩
 |error z=>rw[q]at h;cases z;exact h.no.elim
theorem IA.Kc:∀ {ds:List D}{k:Bool->Prop},IA (L2.Kc d ds) k->∃f:Nat->Bool,(∀i e,ds[i]? = Δ e->L2.Kb 40 e d=.ok (f i))/\k ((List.range ds.length).any f)
 |[],k,h=>⟨fun _=>Ξ,fun i e z=>by simp at z,h⟩
 |e::r,k,h=>by
  obtain⟨x,WA,h1⟩:=IA.Kb (IA.Iq h);obtain⟨f,h2,h3⟩:=IA.Kc (IA.Iq h1);refine⟨fun i=>match i with|0=>x|j+1=>f j,fun i e' z=>?_,?_⟩
  ·cases i with
   |zero=>simp at z;subst z;exact WA
   |succ j=>exact h2 j e' (by simpa using z)
  ·rw[List.length_cons,List.range_succ_eq_map,List.any_cons,List.any_map];exact h3
theorem sM (its:List Ψ)(f:Nat->Bool)(h:∀i u,its[i]? = Δ u->EqAt A s u v (f i)) :
  ∃e:Ψ->Bool,(∀y,y∈its.toArray->EqAt A s y v (e y))/\its.toArray.any e=(List.range its.length).any f:=by
 classical
 refine⟨fun y=>decide (∃i,its[i]? = Δ y/\f i=Θ),fun y hy=>?_,?_⟩
 ·have Mz:y∈its:=by simpa using hy
  obtain⟨j,hj⟩:=List.getElem?_of_mem Mz;show EqAt A s y v (decide (∃i,its[i]? = Δ y/\f i=Θ));by_cases q:∃i,its[i]? = Δ y/\f i=Θ
  ·rw[G_ q];obtain⟨i,hi,fi⟩:=q;have:=h i y hi;rw[fi]at this;exact this
  ·rw[S_ q];have:=h j y hj;have fj:f j=Ξ:=by
    cases z:f j with
    |false=>rfl
    |true=>exact absurd ⟨j,hj,z⟩ q
   rw[fj]at this;exact this
 ·rw[Bool.eq_iff_iff];simp only[List.any_toArray,List.any_eq_true,V_,decide_eq_true_eq];constructor
  ·rintro⟨y,hy,i,hi,fi⟩;exact⟨i,(x_.mp hi).1,fi⟩
  ·rintro⟨i,hi,fi⟩;exact⟨its[i],aax hi,i,by simp[hi],fi⟩
theorem kZ (hu:X.A.units+42 < cLine)  (I:Inv X pins σ H s)(rx:RelV x v)(hx:IB X.K S H x d)
   {its:List Ψ}  (rv:Vals xs its) (m:Iz X.K S H xs ds) (h:IA (Kc d ds) k) :
  ∃e:Ψ->Bool,(∀y,y∈its.toArray->EqAt X.A.in1 s y v (e y))/\k (its.toArray.any e):=by
 obtain⟨f,h1,h2⟩:=IA.Kc h;have l1:=rv.length;have l2:=m.length;obtain⟨e,h3,h4⟩:=sM (A:=X.A.in1) (s:=s) (v:=v) its f fun i u hi=>by have JU:i < its.length:=(x_.mp hi).1;obtain⟨y,hy,my⟩:=m.get (i:=i) (d:=ds[i]'(by omega)) (by simp);obtain⟨u',S6,ru⟩:=rv.get hy;rw[hi]at S6;cases S6;exact(qa I 40 X.A.in1 y x u v _ d _ my hx ru rx (h1 i _ (by simp)) (by show X.A.units+1+40 < cLine;omega)).eq
 refine⟨e,h3,?_⟩;rw[h4,show its.length=ds.length by omega];exact h2
theorem mK (hu:X.A.units+42 < cLine)(op:M1):Lk X (compareOp (LL op)) (HN X.K op):=by
 intro pins s σ H x y v u Q I rx ry h;obtain⟨S,d,e,hx,hy,h⟩:=h;have stuck:∀ {P:Prop},Kg op d e=Jw->P:=fun z=>by rw[z]at h;exact h.no.elim
 have fin:∀ {b:Bool},Q (.bl b) H->EP X pins σ Q (.bool b) s:=fun q=>⟨.bl _,H,I,rfl,q⟩
 cases op with
 |eq=>obtain⟨r,h1,h2⟩:=IA.Kb h;exact(qa I 40 X.A x y v u d e r hx hy rx ry h1 (by omega)).rc _ _ _ _ (fin h2)
 |ne=>obtain⟨r,h1,h2⟩:=IA.Kb (IA.Iq h);exact(qa I 40 X.A x y v u d e r hx hy rx ry h1 (by omega)).ne _ _ _ _ (fin h2.ok)
 |lt=>
  induction d using zD with
  |int a=>
   induction e using zD with
   |int b=>cases hx.JE;cases hy.JE;obtain⟨t,rfl⟩:=rx;obtain⟨t',rfl⟩:=ry;exact lt_int (fin h.ok)
   |_=>exact stuck rfl
  |_=>exact stuck rfl
 |le=>
  induction d using zD with
  |int a=>
   induction e using zD with
   |int b=>cases hx.JE;cases hy.JE;obtain⟨t,rfl⟩:=rx;obtain⟨t',rfl⟩:=ry;exact le_int (fin h.ok)
   |_=>exact stuck rfl
  |_=>exact stuck rfl
 |gt=>
  induction d using zD with
  |int a=>
   induction e using zD with
   |int b=>cases hx.JE;cases hy.JE;obtain⟨t,rfl⟩:=rx;obtain⟨t',rfl⟩:=ry;exact gt_int (fin h.ok)
   |_=>exact stuck rfl
  |_=>exact stuck rfl
 |ge=>
  induction d using zD with
  |int a=>
   induction e using zD with
   |int b=>cases hx.JE;cases hy.JE;obtain⟨t,rfl⟩:=rx;obtain⟨t',rfl⟩:=ry;exact ge_int (fin h.ok)
   |_=>exact stuck rfl
  |_=>exact stuck rfl
 |M3=>
  induction e using zD with
  |str b=>
   induction d using zD with
   |str a=>cases hx.JV;cases hy.JV;obtain⟨t,rfl⟩:=rx;obtain⟨t',rfl⟩:=ry;exact in_str (fin h.ok)
   |_=>exact stuck rfl
  |lst o ds=>obtain⟨a,xs,rfl,q1,m1⟩:=hy.J1;cases ry;obtain⟨its,rv,pl,_⟩:=I.list q1;obtain⟨e,h1,h2⟩:=kZ hu I rx hx rv m1 (by induction d using zD<;>exact h);exact in_listAt e pl.isList h1 (fin h2)
  |tup ds=>obtain⟨a,xs,rfl,q1,m1⟩:=hy.Ka;cases ry;obtain⟨its,rv,pl,_⟩:=I.tuple q1;obtain⟨e,h1,h2⟩:=kZ hu I rx hx rv m1 (by induction d using zD<;>exact h);exact in_tupleAt e pl h1 (fin h2)
  |Jt=>induction d using zD<;>exact stuck rfl
  |bl _=>induction d using zD<;>exact stuck rfl
  |int _=>induction d using zD<;>exact stuck rfl
  |Jy _ _ _=>induction d using zD<;>exact stuck rfl
 |ND=>
  induction e using zD with
  |str b=>
   induction d using zD with
   |str a=>cases hx.JV;cases hy.JV;obtain⟨t,rfl⟩:=rx;obtain⟨t',rfl⟩:=ry;exact notIn_str (fin h.ok)
   |_=>exact stuck rfl
  |lst o ds=>obtain⟨a,xs,rfl,q1,m1⟩:=hy.J1;cases ry;obtain⟨its,rv,pl,_⟩:=I.list q1;obtain⟨e,h1,h2⟩:=kZ (k:=fun r=>Q (.bl !r) H) hu I rx hx rv m1 ((IA.Iq (show IA (Iq (Kc d ds) fun r=>.ok !r) (fun r=>Q (.bl r) H) by induction d using zD<;>exact h)).mono fun _ z=>z);exact notIn_listAt e pl.isList h1 (fin h2)
  |tup ds=>obtain⟨a,xs,rfl,q1,m1⟩:=hy.Ka;cases ry;obtain⟨its,rv,pl,_⟩:=I.tuple q1;obtain⟨e,h1,h2⟩:=kZ (k:=fun r=>Q (.bl !r) H) hu I rx hx rv m1 ((IA.Iq (show IA (Iq (Kc d ds) fun r=>.ok !r) (fun r=>Q (.bl r) H) by induction d using zD<;>exact h)).mono fun _ z=>z);exact notIn_tupleAt e pl h1 (fin h2)
  |Jt=>induction d using zD<;>exact stuck rfl
  |bl _=>induction d using zD<;>exact stuck rfl
  |int _=>induction d using zD<;>exact stuck rfl
  |Jy _ _ _=>induction d using zD<;>exact stuck rfl
 |N7=>
  induction e using zD with
  |Jt=>
   cases hy.K2;cases ry;have ev:kh d=(v == Value.none):=by
    cases hx with
    |Jt=>cases rx;rfl
    |bl b=>cases rx;rfl
    |int i=>obtain⟨t,rfl⟩:=rx;rfl
    |str z=>obtain⟨t,rfl⟩:=rx;rfl
    |tup _ _=>cases rx;rfl
    |lst _ _ _=>cases rx;rfl
    |lstK _ _=>cases rx;rfl
    |Jy _ _ _ _=>cases rx;rfl
   have h':Q (.bl (kh d)) H:=by induction d using zD<;>exact h
   rw[ev]at h';exact is_none_gen (fin h')
  |_=>induction d using zD<;>exact stuck rfl
 |Lh=>
  induction e using zD with
  |Jt=>
   cases hy.K2;cases ry;have ev:kh d=(v == Value.none):=by
    cases hx with
    |Jt=>cases rx;rfl
    |bl b=>cases rx;rfl
    |int i=>obtain⟨t,rfl⟩:=rx;rfl
    |str z=>obtain⟨t,rfl⟩:=rx;rfl
    |tup _ _=>cases rx;rfl
    |lst _ _ _=>cases rx;rfl
    |lstK _ _=>cases rx;rfl
    |Jy _ _ _ _=>cases rx;rfl
   have h':Q (.bl (!kh d)) H:=by induction d using zD<;>exact h
   rw[ev]at h';exact isnot_none_gen (fin h')
  |bl b'=>
   cases hy.MT;cases ry
   induction d using zD with
   |bl b=>
    cases hx.MT;cases rx;have ee:(!(Value.bool b == Value.bool b'))=(b != b'):=by cases b<;>cases b'<;>rfl
    exact wpAny_isNot_plain rfl (by rw[ee];exact fin h)
   |Jt=>cases hx.K2;cases rx;exact wpAny_isNot_plain rfl (fin h)
   |_=>exact stuck rfl
  |_=>induction d using zD<;>exact stuck rfl
theorem nr (I:Inv X pins σ H s)(rx:RelV x v)(hx:IB X.K S H x d)(h:IA (iX d) fun b=>Q b H) :
  Κ (Μ X.prog X.w) X.A (truthy v) (TP X pins σ Q) X.xe s:=by
 refine Di pins s σ H x v Q I rx ?_
 induction d using zD with
 |Jy _ _ _=>exact h.no.elim
 |Jt=>cases hx.K2;exact⟨Ξ,rfl,h⟩
 |bl b=>cases hx.MT;exact⟨b,rfl,h⟩
 |int i=>cases hx.JE;exact⟨_,rfl,h⟩
 |str z=>cases hx.JV;obtain⟨g,h⟩:=IA.IE h;exact⟨_,⟨jv g,rfl⟩,h⟩
 |tup ds=>obtain⟨a,xs,rfl,q,m⟩:=hx.Ka;refine⟨!ds.isEmpty,.inr (.inl ⟨xs,q,?_⟩),h⟩;have:=m.length;cases xs<;>cases ds<;>simp_all
 |lst o ds=>obtain⟨a,xs,rfl,q,m⟩:=hx.J1;refine⟨!ds.isEmpty,.inl ⟨xs,q,?_⟩,h⟩;have:=m.length;cases xs<;>cases ds<;>simp_all
theorem ua {K:Frag}{S:Ω->Prop}{H:Hp}{vs:List V}{ds:List D}{i:Int}{d:D}(m:Iz K S H vs ds)(h:KG ds i=Δ d):∃v,KG vs i=Δ v/\IB K S H v d:=by
 unfold KG at h ⊢;rw[m.length];cases q:KU ds.length i with
 |none=>rw[q]at h;cases h
 |some j=>rw[q]at h;exact m.get h
def HP (K:Frag):R2:=fun x y H Q=>∃S d e,IB K S H x d/\IB K S H y e/\IA (iQ d e) (Kk K S H Q)
theorem AW:NA X (HP X.K):=by
 intro value slice pins s σ H x y v u Q I rx ry h hs;obtain⟨S,d,e,hx,hy,h⟩:=h;refine Dl value slice pins s σ H x y v u Q I rx ry ?_ hs;have stuck:∀ {P:Prop},iQ d e=Jw->P:=fun z=>by rw[z]at h;exact h.no.elim
 induction e using zD with
 |int i=>
  cases hy.JE
  induction d using zD with
  |lst o ds=>
   obtain⟨a,xs,rfl,q,m⟩:=hx.J1;have h':IA (match KG ds i with|some d=>.ok d|none=>Jw) (Kk X.K S H Q):=h;cases z:KG ds i with
   |none=>rw[z]at h';exact h'.no.elim
   |some d=>rw[z]at h';obtain⟨w,ew,mw⟩:=ua m z;exact .inl ⟨a,xs,i,w,rfl,rfl,q,ew,h'.ok _ _ (.refl _) mw.nw⟩
  |tup ds=>
   obtain⟨a,xs,rfl,q,m⟩:=hx.Ka;have h':IA (match KG ds i with|some d=>.ok d|none=>Jw) (Kk X.K S H Q):=h;cases z:KG ds i with
   |none=>rw[z]at h';exact h'.no.elim
   |some d=>rw[z]at h';obtain⟨w,ew,mw⟩:=ua m z;exact .inr (.inl ⟨a,xs,i,w,rfl,rfl,q,ew,h'.ok _ _ (.refl _) mw.nw⟩)
  |str z=>
   cases hx.JV;obtain⟨g,h⟩:=IA.IE h;cases q:KG z.cps.toList i with
   |none=>rw[q]at h;exact h.no.elim
   |some c=>rw[q]at h;exact .inr (.inr ⟨z,i,c,rfl,rfl,jv g,q,h.ok _ _ (.refl _) (.str _)⟩)
  |_=>exact stuck rfl
 |_=>induction d using zD<;>exact stuck rfl
def HQ (K:Frag):V->Option Int->Option Int->Hp->VK->Prop:=fun x lo hi H Q=>∃S d,IB K S H x d/\IA (qW d lo hi) (Kk K S H Q)
theorem DQ:SQ X (fun x lo hi H Q=>∃z,x=.str z/\z.length<=Ζ/\Q (.str (Txt.slice z lo hi)) H):=by
 intro pins s σ H x v vl vu lo hi sl Q I rx hs pl pu h;obtain⟨z,rfl,hz,q⟩:=h;obtain⟨t,rfl⟩:=rx;refine⟨"str",_,F.slot_str_getitem.lookup,typeIs_str s z t,?_⟩;have fin:∀(l u:Option (Int×Tok)),vl=partValue l->vu=partValue u->l.map (·.1)=lo->u.map (·.1)=hi->Κ (Μ X.prog X.w) X.A (getItem (.str z t) (.ref sl)) (EP X pins σ Q) X.xe s:=by intro l u e1 e2 e3 e4;subst e1 e2 e3 e4;refine wpAny_getItem_str_slice (l:=l) (u:=u) (st:=Φ) hs rfl ?_;exact post_val_or_str ⟨D_ (Txt.slice_le z _ _) hz,fun t' k=>⟨.str _,H,I.tok _,⟨_,rfl⟩,q⟩⟩
 cases pl with
 |none=>
  cases pu with
  |none=>exact fin Φ Φ rfl rfl rfl rfl
  |int j t'=>exact fin Φ (Δ (j,t')) rfl rfl rfl rfl
 |int i t'=>
  cases pu with
  |none=>exact fin (Δ (i,t')) Φ rfl rfl rfl rfl
  |int j ZO=>exact fin (Δ (i,t')) (Δ (j,ZO)) rfl rfl rfl rfl
end
section
variable {prog:Ε}{w:Β}{A:Ι}{E:Ψ->Α->Prop}{K:Frag}{x C:Ω}{hh:Heap}{g:Array GenState}{d:Drawn}{t:Nat}{os:OsState}
open Builtin Builtin.ObjectAttr Builtin.Getset_descriptor in
end
section
variable {X:Cx}
theorem ub {K:Frag}{S:Ω->Prop}{H:Hp}{vs:List V}{ds:List D}(lo hi:Option Int)(m:Iz K S H vs ds):Iz K S H (vt vs lo hi) (jE ds lo hi):=by unfold vt jE;rw[m.length];exact(m.drop _).take _
theorem AX:SQ X (HQ X.K):=by
 intro pins s σ H x v vl vu lo hi sl Q I rx hs pl pu h;obtain⟨S,d,hx,h⟩:=h
 induction d using zD with
 |lst o ds=>obtain⟨a,xs,rfl,q,m⟩:=hx.J1;exact tE pins s σ H _ v vl vu lo hi sl Q I rx hs pl pu ⟨a,xs,rfl,q,fun p hp=>h.ok _ _ (.upd hp) (sL hp (ub lo hi m))⟩
 |str z=>cases hx.JV;obtain⟨g,h⟩:=IA.IE h;exact DQ pins s σ H _ v vl vu lo hi sl Q I rx hs pl pu ⟨z,rfl,jv g,h.ok _ _ (.refl _) (.str _)⟩
 |_=>exact h.no.elim
theorem rg:∀ {us:List Ψ},Vals (ns.map V.str) us->StrsAre us ns:=by
 induction ns with
 |nil=>intro us r;rw[List.map_nil]at r;cases r;exact .nil
 |cons n ns ih=>
  intro us r;rw[b_]at r;cases r with
  |cons r1 r2=>obtain⟨t,e⟩:=r1;subst e;exact .cons n t (ih r2)
theorem kI:∀ {ds:List D}{ns:List Int},jB ds=Δ ns->ds=ns.map .int
 |[],ns,h=>by cases h;rfl
 |.int i::r,ns,h=>by
  have h':(jB r).map (i::·)=Δ ns:=h;cases q:jB r with
  |none=>rw[q]at h';cases h'
  |some ms=>rw[q]at h';cases h';rw[kI q];rfl
 |.Jt::_,_,h=>by cases h
 |.bl _::_,_,h=>by cases h
 |.str _::_,_,h=>by cases h
 |.tup _::_,_,h=>by cases h
 |.lst _ _::_,_,h=>by cases h
theorem n8:∀ {ds:List D}{ns:List Str},ko ds=Δ ns->ds=ns.map .str
 |[],ns,h=>by cases h;rfl
 |.str i::r,ns,h=>by
  have h':(ko r).map (i::·)=Δ ns:=h;cases q:ko r with
  |none=>rw[q]at h';cases h'
  |some ms=>rw[q]at h';cases h';rw[n8 q];rfl
 |.Jt::_,_,h=>by cases h
 |.bl _::_,_,h=>by cases h
 |.int _::_,_,h=>by cases h
 |.tup _::_,_,h=>by cases h
 |.lst _ _::_,_,h=>by cases h
theorem mL:∀ {ds:List D}{ns:List Bool},jS ds=Δ ns->ds=ns.map .bl
 |[],ns,h=>by cases h;rfl
 |.bl i::r,ns,h=>by
  have h':(jS r).map (i::·)=Δ ns:=h;cases q:jS r with
  |none=>rw[q]at h';cases h'
  |some ms=>rw[q]at h';cases h';rw[mL q];rfl
 |.Jt::_,_,h=>by cases h
 |.str _::_,_,h=>by cases h
 |.int _::_,_,h=>by cases h
 |.tup _::_,_,h=>by cases h
 |.lst _ _::_,_,h=>by cases h
theorem vQ (hc:X.calm=Θ):jD X (.builtin "all") (fun xs H Q=>∃(p:Ω) (bs:List Bool),xs=[.ref p]/\Kf X.K H p (bs.map V.bl)/\Q (.bl (bs.all id)) H):=by
 intro pins s σ H xs us Q I r h;obtain⟨p,bs,rfl,hq,q⟩:=h;obtain⟨u,rfl,rx⟩:=vals1 r;cases rx;obtain⟨its,rv,pl,hz⟩:=I.list hq;have hl:=rv.length;rw[i_]at hl;have JU:p < s.heap.objs.size:=by obtain⟨o,e,_⟩:=pl.isList;exact j_ e
 refine call_all_walk (aav pl.isList ?_);refine⟨s.heap.objs.size,_,_,_,_,_,fun i=>bs.getD i Θ,rfl,Walks.list (A:=X.A.in1) (show X.A.in1.handled=Φ from I.ok.hd hc) s.heap.objs.size p (p_ JU) its.toArray,⟨⟨_,u_ _ rfl,rfl,rfl⟩,?_⟩,?_,?_⟩
 ·obtain⟨o,e,c,n,d⟩:=pl.isList;exact⟨o,l_ _ e,c,n,d⟩
 ·intro i v s' Q' E' hv UW;have Po:its[i]? = Δ v:=by simpa using hv
  have Nl:i < bs.length:=by have:=(x_.mp Po).1;omega
  obtain⟨u,hu,ru⟩:=rv.get (i:=i) (x:=.bl bs[i]) (by rw[y_,v_ Nl];rfl);rw[Po]at hu;cases hu;cases ru;refine wpAny_truthy_bool ?_;have e:bs.getD i Θ=bs[i]:=by simp[List.getD,Nl]
  rw[<- e];exact UW
 ·intro h' tk kp;have Md:(List.range its.toArray.size).all (fun i=>bs.getD i Θ)=bs.all id:=by
   rw[show its.toArray.size=bs.length by simp[hl]];rw[Bool.eq_iff_iff,R_,R_];constructor
   ·intro z b hb;obtain⟨i,hi,rfl⟩:=List.getElem_of_mem hb;have:=z i (V_.mpr hi);simpa[List.getD,hi] using this
   ·intro z i hi;have Ln:=V_.mp hi;have:=z bs[i] (aax Ln);simpa[List.getD,Ln] using this
  rw[Md];refine⟨.bl (bs.all id),H,I.kept (t':=tk) fun b o e=>kp b o ?_ (l_ _ e),rfl,q⟩;intro hm;have hb:b=s.heap.objs.size:=by simpa using hm
  subst hb;exact absurd (j_ e) (T_ _)
theorem vR (hc:X.calm=Θ):jD X (.builtin "any") (fun xs H Q=>∃(p:Ω) (bs:List Bool),xs=[.ref p]/\Kf X.K H p (bs.map V.bl)/\Q (.bl (bs.any id)) H):=by
 intro pins s σ H xs us Q I r h;obtain⟨p,bs,rfl,hq,q⟩:=h;obtain⟨u,rfl,rx⟩:=vals1 r;cases rx;obtain⟨its,rv,pl,hz⟩:=I.list hq;have hl:=rv.length;rw[i_]at hl;have JU:p < s.heap.objs.size:=by obtain⟨o,e,_⟩:=pl.isList;exact j_ e
 refine call_any_walk (aav pl.isList ?_);refine⟨s.heap.objs.size,_,_,_,_,_,fun i=>bs.getD i Ξ,rfl,Walks.list (A:=X.A.in1) (show X.A.in1.handled=Φ from I.ok.hd hc) s.heap.objs.size p (p_ JU) its.toArray,⟨⟨_,u_ _ rfl,rfl,rfl⟩,?_⟩,?_,?_⟩
 ·obtain⟨o,e,c,n,d⟩:=pl.isList;exact⟨o,l_ _ e,c,n,d⟩
 ·intro i v s' Q' E' hv UW;have Po:its[i]? = Δ v:=by simpa using hv
  have Nl:i < bs.length:=by have:=(x_.mp Po).1;omega
  obtain⟨u,hu,ru⟩:=rv.get (i:=i) (x:=.bl bs[i]) (by rw[y_,v_ Nl];rfl);rw[Po]at hu;cases hu;cases ru;refine wpAny_truthy_bool ?_;have e:bs.getD i Ξ=bs[i]:=by simp[List.getD,Nl]
  rw[<- e];exact UW
 ·intro h' tk kp;have Md:(List.range its.toArray.size).any (fun i=>bs.getD i Ξ)=bs.any id:=by
   rw[show its.toArray.size=bs.length by simp[hl]];rw[Bool.eq_iff_iff,List.any_eq_true,List.any_eq_true];constructor
   ·rintro⟨i,hi,z⟩;have Ln:=V_.mp hi;exact⟨bs[i],aax Ln,by simpa[List.getD,Ln] using z⟩
   ·rintro⟨b,hb,z⟩;obtain⟨i,hi,rfl⟩:=List.getElem_of_mem hb;exact⟨i,V_.mpr hi,by simpa[List.getD,hi] using z⟩
  rw[Md];refine⟨.bl (bs.any id),H,I.kept (t':=tk) fun b o e=>kp b o ?_ (l_ _ e),rfl,q⟩;intro hm;have hb:b=s.heap.objs.size:=by simpa using hm
  subst hb;exact absurd (j_ e) (T_ _)
noncomputable def kJ:Bi->Str
 |.len=>"len" |.sum=>"sum" |.min2=>"min" |.max2=>"max" |.N8=>"max" |.sorted=>"sorted" |.list=>"list" |.tuple=>"tuple" |.ord=>"ord" |.int=>"int" |.all=>"all" |.any=>"any" |.str=>"str" |.set=>"set" |.abs=>"abs"
noncomputable def FX:Bi->Bool
 |.list=>Θ|.tuple=>Θ|.int=>Θ|.str=>Θ|.set=>Θ
 |_=>Ξ
noncomputable def FY:Bi->String
 |.len=>"len" |.sum=>"sum" |.min2=>"min" |.max2=>"max" |.N8=>"max" |.sorted=>"sorted" |.list=>"list" |.tuple=>"tuple" |.ord=>"ord" |.int=>"int" |.all=>"all" |.any=>"any" |.str=>"str" |.set=>"set" |.abs=>"abs"
noncomputable def xH (f:Bi):Ψ:=if FX f=Θ then .type (FY f) else .builtin (FY f)
theorem uc (f:Bi):bootBuiltins (kJ f)=Δ (xH f):=by cases f<;>decide +kernel
def Xn (K:Frag)(f:Bi):List V->Hp->VK->Prop:=fun xs H Q=>∃S ds,Iz K S H xs ds/\IA (jW f ds) (Kk K S H Q)
theorem Iz.Pp {K:Frag}{S:Ω->Prop}{H:Hp}{xs:List V}{d:D}(h:Iz K S H xs [d]):∃x,xs=[x]/\IB K S H x d:=by
 cases h with
 |cons h1 h2=>cases h2;exact⟨_,rfl,h1⟩
theorem Iz.UX {K:Frag}{S:Ω->Prop}{H:Hp}{xs:List V}{d e:D}(h:Iz K S H xs [d,e]):∃x y,xs=[x,y]/\IB K S H x d/\IB K S H y e:=by
 cases h with
 |cons h1 h2=>
  cases h2 with
  |cons h3 h4=>cases h4;exact⟨_,_,rfl,h1,h3⟩
theorem vS {K:Frag}{S:Ω->Prop}{H:Hp}(z:Str):Iz K S H (mE z) (jZ z):=by
 unfold mE jZ
 induction z.cps.toList with
 |nil=>exact .nil
 |cons c cs ih=>exact .cons (.str _) ih
theorem l5 {K:Frag}{S:Ω->Prop}{H:Hp}:∀kvs:List (Key×V),Iz K S H (kvs.map fun q=>kV q.1) ((kvs.map (·.1)).map FR)
 |[]=>.nil
 | (.inl i,_)::r=>.cons (.int i) (l5 r)
 | (.inr x,_)::r=>.cons (.str x) (l5 r)
theorem k6:∀ {ks:List Key}{xs:List Str},j5 ks=Δ xs->ks=xs.map .inr
 |[],xs,h=>by cases h;rfl
 |.inl _::_,_,h=>nomatch h
 |.inr x::r,xs,h=>by obtain⟨ys,h1,h2⟩:=aal.mp (show(j5 r).map (x::·)=Δ xs from h);subst h2;rw[k6 h1];rfl
theorem xI {K:Frag}{S:Ω->Prop}{H:Hp}(f:Nat->Str):∀is:List Nat,Iz K S H (is.map fun i=>V.str (f i)) (is.map fun i=>D.str (f i))
 |[]=>.nil
 |i::is=>.cons (.str _) (xI f is)
theorem mM {K:Frag}{S:Ω->Prop}{H:Hp}{as:List Ω}{xs:List Str}{ns:List Int}(hl:as.length=xs.length)(ht:∀(j:Nat)(b:Ω),as[j]? = Δ b->H b=Δ (.tup [.str (xs.getD j ⟨#[]⟩),.int (ns.getD j 0)])):∀is:List Nat,(∀i∈is,i < xs.length)->Iz K S H (is.map fun i=>V.ref (as.getD i 0)) (is.map fun i=>.tup [.str (xs.getD i ⟨#[]⟩),.int (ns.getD i 0)])
 |[],_=>.nil
 |i::is,h=>.cons (by
   have li:i < as.length:=by rw[hl];exact h i (by simp)
   show IB K S H (V.ref (as.getD i 0)) _;rw[Z_ (l:=as),v_ li]
   exact .tup (.inl (.inl (ht i _ (v_ li)))) (.cons (.str _) (.cons (.int _) .nil))) (mM hl ht is fun j hj=>h j (H_ _ hj))
theorem AY (hc:X.calm=Θ)(f:Bi):jD X (xH f) (Xn X.K f):=by
 intro pins s σ H xs us Q I r h;obtain⟨S,ds,hx,h⟩:=h;have stuck:∀ {P:Prop},jW f ds=Jw->P:=fun z=>by rw[z]at h;exact h.no.elim
 have one:∀ {d e:D}{r':List D},ds=d::e::r'->¬(f=.min2∨f=.max2)->jW f ds=Jw:=by intro d e r' z nf;subst z;cases f<;>first|rfl|(exfalso;exact nf (.inl rfl))|(exfalso;exact nf (.inr rfl))|(induction d using zD<;>rfl)
 have two:∀ {d e g:D}{r':List D},ds=d::e::g::r'->jW f ds=Jw:=by intro d e g r' z;subst z;cases f<;>first|rfl|(induction d using zD<;>rfl)|(induction d using zD<;>induction e using zD<;>rfl)
 have nil:ds=[]->jW f ds=Jw:=by intro z;subst z;cases f<;>rfl
 match ds,hx with
 |[],hx=>exact stuck (nil rfl)
 |d::e::g::r',hx=>exact stuck (two rfl)
 |[d,e],hx=>
  by_cases nf:f=.min2∨f=.max2
  ·obtain⟨x,y,rfl,hd,he⟩:=hx.UX;rcases nf with rfl|rfl
   ·induction d using zD with
    |int a=>
     induction e using zD with
     |int b=>cases hd.JE;cases he.JE;exact vn hc pins s σ H _ us Q I r ⟨a,b,rfl,h.ok _ _ (.refl _) (.int _)⟩
     |_=>exact stuck rfl
    |_=>exact stuck rfl
   ·induction d using zD with
    |int a=>
     induction e using zD with
     |int b=>cases hd.JE;cases he.JE;exact vk hc pins s σ H _ us Q I r ⟨a,b,rfl,h.ok _ _ (.refl _) (.int _)⟩
     |_=>exact stuck rfl
    |_=>exact stuck rfl
  ·exact stuck (one rfl nf)
 |[d],hx=>
  obtain⟨x,rfl,hd⟩:=hx.Pp;cases f with
  |len=>
   induction d using zD with
   |str z=>cases hd.JV;obtain⟨g,h⟩:=IA.IE h;exact nE pins s σ H _ us Q I r ⟨_,_,rfl,⟨jv g,rfl⟩,h.ok _ _ (.refl _) (.int _)⟩
   |tup ds=>obtain⟨a,ys,rfl,q,m⟩:=hd.Ka;exact nE pins s σ H _ us Q I r ⟨_,ds.length,rfl,.inr ⟨ys,q,m.length.symm⟩,h.ok _ _ (.refl _) (.int _)⟩
   |lst o ds=>obtain⟨a,ys,rfl,q,m⟩:=hd.J1;exact nE pins s σ H _ us Q I r ⟨_,ds.length,rfl,.inl ⟨ys,q,m.length.symm⟩,h.ok _ _ (.refl _) (.int _)⟩
   |Jy o ks es=>
    cases hd with
    |Jy h0 h1 h2 h3=>exact vN pins s σ H _ us Q I r ⟨_,_,rfl,h1,by rw[<- i_ (f:=(·.1)),h2];exact h.ok _ _ (.refl _) (.int _)⟩
   |_=>exact stuck rfl
  |sum=>cases d<;>exact stuck rfl
  |all=>
   induction d using zD with
   |lst o ds=>
    obtain⟨a,ys,rfl,q,m⟩:=hd.J1;have h':IA (match jS ds with|some bs=>.ok (.bl (bs.all id))|none=>Jw) (Kk X.K S H Q):=h;cases z:jS ds with
    |none=>rw[z]at h';exact h'.no.elim
    |some ns=>rw[z]at h';rw[mL z]at m;rw[m.Xm]at q;exact vQ hc pins s σ H _ us Q I r ⟨a,ns,rfl,q,h'.ok _ _ (.refl _) (.bl _)⟩
   |_=>exact stuck rfl
  |any=>
   induction d using zD with
   |lst o ds=>
    obtain⟨a,ys,rfl,q,m⟩:=hd.J1;have h':IA (match jS ds with|some bs=>.ok (.bl (bs.any id))|none=>Jw) (Kk X.K S H Q):=h;cases z:jS ds with
    |none=>rw[z]at h';exact h'.no.elim
    |some ns=>rw[z]at h';rw[mL z]at m;rw[m.Xm]at q;exact vR hc pins s σ H _ us Q I r ⟨a,ns,rfl,q,h'.ok _ _ (.refl _) (.bl _)⟩
   |_=>exact stuck rfl
  |ord=>
   induction d using zD with
   |str z=>cases hd.JV;obtain⟨g,h⟩:=IA.IE h;exact wC pins s σ H _ us Q I r ⟨z,rfl,q_ g,h.ok _ _ (.refl _) (.int _)⟩
   |_=>exact stuck rfl
  |int=>
   induction d using zD with
   |int i=>cases hd.JE;exact o8 pins s σ H _ us Q I r (.inl ⟨i,rfl,h.ok _ _ (.refl _) (.int _)⟩)
   |bl i=>cases hd.MT;exact o8 pins s σ H _ us Q I r (.inr ⟨i,rfl,h.ok _ _ (.refl _) (.int _)⟩)
   |_=>exact stuck rfl
  |list=>
   induction d using zD with
   |tup ds=>obtain⟨a,ys,rfl,q,m⟩:=hd.Ka;exact kF pins s σ H _ us Q I r ⟨a,ys,rfl,.inr q,fun p hp=>h.ok _ _ (.upd hp) (sL hp m)⟩
   |lst o ds=>obtain⟨a,ys,rfl,q,m⟩:=hd.J1;exact kF pins s σ H _ us Q I r ⟨a,ys,rfl,.inl q,fun p hp=>h.ok _ _ (.upd hp) (sL hp m)⟩
   |Jy o ks ds=>
    cases hd with
    |Jy h0 h1 h2 h3=>subst h2;exact nU hc pins s σ H _ us Q I r ⟨_,_,rfl,h1,fun p hp=>h.ok _ _ (.upd hp) (sL hp (l5 _))⟩
   |_=>exact stuck rfl
  |abs=>
   induction d using zD with
   |int i=>cases hd.JE;exact wB pins s σ H _ us Q I r ⟨i,rfl,h.ok _ _ (.refl _) (.int _)⟩
   |_=>exact stuck rfl
  |min2=>induction d using zD<;>exact stuck rfl
  |max2=>induction d using zD<;>exact stuck rfl
  |N8=>cases d<;>exact stuck rfl
  |sorted=>
   induction d using zD with
   |Jy o ks es=>
    cases hd with
    |Jy h0 h1 h2 h3=>
     have h':IA (match j5 ks with|some xs=>IE (decide (xs.length < 64)) (.ok (.lst Θ ((kG xs).map fun i=>.str (xs.getD i ⟨#[]⟩))))|none=>Jw) (Kk X.K S H Q):=h;cases z:j5 ks with
     |none=>rw[z]at h';exact h'.no.elim
     |some xs=>rw[z]at h';obtain⟨g,h'⟩:=IA.IE h';rw[k6 z]at h2;exact p7 hc pins s σ H _ us Q I r ⟨_,_,xs,rfl,h1,h2,q_ g,fun p hp=>h'.ok _ _ (.upd hp) (sL hp (xI _ _))⟩
   |_=>exact stuck rfl
  |tuple=>
   induction d using zD with
   |str z=>cases hd.JV;obtain⟨g,h⟩:=IA.IE h;exact nK hc pins s σ H _ us Q I r ⟨z,rfl,jv g,fun p hp=>h.ok _ _ (.upd hp) (DO hp (vS z))⟩
   |lst o ds=>obtain⟨a,ys,rfl,q,m⟩:=hd.J1;exact oR pins s σ H _ us Q I r ⟨a,ys,rfl,.inl ⟨q,fun p hp=>h.ok _ _ (.upd hp) (DO hp m)⟩⟩
   |_=>exact stuck rfl
  |str=>exact stuck rfl
  |set=>exact stuck rfl
noncomputable def lJ:Kd->Str
 |.str=>"str" |.int=>"int" |.bool=>"bool" |.list=>"list" |.tuple=>"tuple"
noncomputable def xJ:Kd->Ψ
 |.str=>.type "str" |.int=>.type "int" |.bool=>.type "bool" |.list=>.type "list" |.tuple=>.type "tuple"
theorem AZ (k:Kd):bootBuiltins (lJ k)=Δ (xJ k):=by cases k<;>decide +kernel
noncomputable def ZQ:D->Ψ
 |.Jt=>.type "NoneType" |.bl _=>.type "bool" |.int _=>.type "int" |.str _=>.type "str" |.tup _=>.type "tuple" |.lst _ _=>.type "list" |.Jy _ _ _=>.none
theorem A3 (K:Frag)(k:Kd)(d:D)(hn:mJ d=Θ):PySem.W.kitOne K (ZQ d) (xJ k)=Δ (jl k d):=by cases k<;>induction d using zD<;>first|rfl|cases hn
theorem A4 (I:Inv X pins σ H s)(rx:RelV x v)(hx:IB X.K S H x d)(k:Kd)(hn:mJ d=Θ)(h:Q (.bl (jl k d)) H) :
  Κ (Μ X.prog X.w) X.A (call (.builtin "isinstance") [v,xJ k]) (EP X pins σ Q) X.xe s:=by
 have e:=A3 X.K k d hn;have fin:∀tk,EP X pins σ Q (.bool (jl k d)) {s with toks:=tk}:=fun tk=>⟨.bl _,H,I.tok _,rfl,h⟩
 induction d using zD with
 |Jt=>cases hx.K2;cases rx;exact PySem.W.kia_one PySem.W.kitx_none I.LX True.intro e (fun z=>nomatch z) fin
 |bl b=>cases hx.MT;cases rx;exact PySem.W.kia_one PySem.W.kitx_bool I.LX True.intro e (fun z=>nomatch z) fin
 |int b=>cases hx.JE;obtain⟨t,rfl⟩:=rx;exact PySem.W.kia_one PySem.W.kitx_int I.LX True.intro e (fun z=>nomatch z) fin
 |str b=>cases hx.JV;obtain⟨t,rfl⟩:=rx;exact PySem.W.kia_one PySem.W.kitx_str I.LX True.intro e (fun z=>nomatch z) fin
 |tup ds=>obtain⟨a,ys,rfl,q,m⟩:=hx.Ka;cases rx;obtain⟨its,_,⟨o,h1,h2,_⟩,_⟩:=I.tuple q;exact PySem.W.kia_one PySem.W.kitx_tuple I.LX ⟨o,h1,h2⟩ e (fun z=>nomatch z) fin
 |lst o ds=>obtain⟨a,ys,rfl,q,m⟩:=hx.J1;cases rx;obtain⟨its,_,pl,_⟩:=I.list q;obtain⟨o,h1,h2,_⟩:=pl.isList;exact PySem.W.kia_one PySem.W.kitx_list I.LX ⟨o,h1,h2⟩ e (fun z=>nomatch z) fin
 |Jy o ks ds=>cases hn
noncomputable def n9:Mt->Str
 |.join=>"join" |.index=>"index" |.starts=>"startswith"
noncomputable def HR:Mt->String
 |.join=>"str.join" |.index=>"str.index" |.starts=>"str.startswith"
def Xo (K:Frag)(m:Mt):V->List V->Hp->VK->Prop:=fun x xs H Q=>∃S d ds,IB K S H x d/\Iz K S H xs ds/\IA (nZ m d ds) (Kk K S H Q)
theorem xK (h:IA (nZ m d ds) k):∃x,d=.str x:=by cases m<;>induction d using zD<;>first|exact⟨_,rfl⟩|exact h.no.elim
theorem qb (m:Mt)(hc:m=.index->X.calm=Θ):WK X (HR m) (Xo X.K m):=by
 intro pins s σ H x xs v us Q I rx rs h;obtain⟨S,d,ds,hx,hs,h⟩:=h;obtain⟨z,rfl⟩:=xK h;cases hx.JV;obtain⟨t,rfl⟩:=rx;have stuck:∀ {P:Prop},nZ m (.str z) ds=Jw->P:=fun z=>by rw[z]at h;exact h.no.elim
 match ds,hs with
 |[],_=>cases m<;>exact stuck rfl
 |d::e::r,_=>cases m<;>induction d using zD<;>exact stuck rfl
 |[d],hs=>
  obtain⟨y,rfl,hd⟩:=hs.Pp;obtain⟨u,rfl,ru⟩:=vals1 rs;cases m with
  |join=>
   induction d using zD with
   |lst o ds=>
    obtain⟨a,ys,rfl,q,m⟩:=hd.J1;cases ru;have h':IA (match ko ds with|some ys=>IE (decide ((ys.map (·.length)).sum+ys.length*z.length<=16777216)) (.ok (.str (Txt.join z ys)))|none=>Jw) (Kk X.K S H Q):=h;cases w:ko ds with
    |none=>rw[w]at h';exact h'.no.elim
    |some ns=>rw[w]at h';obtain⟨g,h'⟩:=IA.IE h';rw[n8 w]at m;rw[m.strs]at q;obtain⟨its,rv,pl,_⟩:=I.list q;exact join_list pl.isList (by simpa using rg rv) (q_ g) fun t' k=>⟨.str _,H,I.tok _,⟨_,rfl⟩,h'.ok _ _ (.refl _) (.str _)⟩
   |_=>exact stuck rfl
  |index=>cases d<;>exact stuck rfl
  |starts=>
   induction d using zD with
   |str y=>cases hd.JV;obtain⟨t',rfl⟩:=ru;exact SC.startswith ⟨.bl _,H,I,rfl,IA.ok h _ _ (.refl _) (.bl _)⟩
   |_=>exact stuck rfl
noncomputable def UY (x:Str):It:=⟨fun i _=>i < x.cps.size,fun i H v H'=>H'=H/\∃c,x.cps[i]? = Δ c/\v=.str ⟨#[c]⟩,fun i _=>x.cps.size<=i⟩
theorem xM {P:Ε}{w:Β}{K:Frag}{tg:Expr}{it:Ω}{x:Str}{t:Tok}{ty:String}(Qa:ty = "str_ascii_iterator"∨ty = "str_iterator")
  (W:∀A':Ι,A'.handled=Φ->Walks P w A' it [it] [it] x.cps.size (SignAt x) (fun i h=>h.IsStrIter it ty x t i)):Turn P w K tg (UY x) [it] it (fun i h=>i<=x.cps.size/\h.IsStrIter it ty x t i) where
 mem:=by simp
 obj:=fun i h st b hb=>by
  have e:b=it:=by simpa using hb
  subst e;obtain⟨_,o,e,c,d⟩:=st;exact⟨o,e,fun v z=>by rw[d]at z;cases z⟩
 keep:=fun i h h' st k=>by obtain⟨l,o,e,c,d⟩:=st;exact⟨l,o,k it (by simp) o e,c,d⟩
 item:=by intro X hP hw hK hc i pins s σ H E I hf st hg;subst hP hw hK;obtain⟨f0,f1,f2,f3,f4,f5⟩:=hf it (by simp);refine(W X.A (I.ok.hd hc)).item i s _ _ hg st.2 fun v h' tk hv L8 kk=>?_;obtain⟨c,u,ZR,rfl⟩:=hv;have I1:Inv X pins σ H {s with heap:=h',toks:=tk}:=I.turned (fun b o hb e=>kk b o (by simpa using hb) e) f0 f1 f3 f4 f5;obtain⟨o,e,cc,d⟩:=id L8;refine⟨_,rfl,tw (s:={s with heap:=h',toks:=tk}) (n:=ty) e cc d (by rcases Qa with rfl|rfl<;>decide) ⟨.str ⟨#[c]⟩,H,I1,⟨u,rfl⟩,⟨rfl,c,ZR,rfl⟩,⟨hg,L8⟩,fun b hb=>(hf b hb).1⟩⟩
 done:=by intro X hP hw hK hc i pins s σ H E I hf st hg;subst hP hw hK;obtain⟨f0,f1,f2,f3,f4,f5⟩:=hf it (by simp);have e:i=x.cps.size:=Nat.le_antisymm st.1 hg;refine(W X.A (I.ok.hd hc)).done s _ _ (by rw[<- e];exact st.2) fun h' tk kk=>⟨rfl,I.turned (fun b o hb e=>kk b o (by simpa using hb) e) f0 f1 f3 f4 f5⟩
 self:=fun A i s Q E st h=>by
  obtain⟨_,st⟩:=st;rcases Qa with rfl|rfl
  ·exact wpAny_pyIter_striter_ascii st h
  ·exact wpAny_pyIter_striter_wide st h
theorem DR (I:Inv X pins σ H s)(q:R (UY x) H):Κ (Μ X.prog X.w) X.A (pyIter (.str x t)) (P9 X pins σ tg R) X.xe s:=by
 have fin:∀ty,(ty = "str_ascii_iterator"∨ty = "str_iterator")->(∀A':Ι,A'.handled=Φ->Walks X.prog X.w A' s.heap.objs.size [s.heap.objs.size] [s.heap.objs.size] x.cps.size (SignAt x) (fun i h=>h.IsStrIter s.heap.objs.size ty x t i))->
   P9 X pins σ tg R (.ref s.heap.objs.size) {s with heap:=s.heap.push {cls:=.type ty,data:=.fields #[.str x t,.int 0 0]}}:=fun ty Qa W=>by
  refine⟨s.heap.objs.size,[s.heap.objs.size],_,_,H,rfl,I.kept (t':=s.toks) fun b o e=>l_ _ e,xM Qa W,⟨Y_ _,_,u_ _ rfl,rfl,rfl⟩,fun b hb=>?_,q⟩;have e:b=s.heap.objs.size:=by simpa using hb
  subst e;exact I.Mb (m_ _) (I.JD.fresh (m_ _))
 cases ha:x.cps.all (· < 128)
 ·exact wpAny_pyIter_wide ha (fin _ (.inr rfl) fun A' hA=>Walks.strWide hA _ x t)
 ·exact wpAny_pyIter_ascii ha (fin _ (.inl rfl) fun A' hA=>Walks.strAscii hA _ x t)
end
end L2
namespace PySem
open Sem (wp)
namespace Heap
end Heap
end PySem
namespace L2
open PySem PySem.Spec PyProof.Rows PySem.SeqAt
theorem iV.at (x:iV P w H h a o):∃ob,h.get? a=Δ ob:=by
 cases o with
 |lst xs=>obtain⟨_,_,_,_,e⟩:=x;exact⟨_,e⟩
 |tup xs=>obtain⟨_,_,_,ob,e,_⟩:=x;exact⟨_,e⟩
 |dK kvs=>obtain⟨_,_,_,_,o,_,_,e,_⟩:=x;exact⟨_,e⟩
 |dT kvs=>obtain⟨_,_,_,_,o,_,_,e,_⟩:=x;exact⟨_,e⟩
 |set S n=>obtain⟨o,_,_,_,e,_⟩:=x;exact⟨_,e⟩
 |ins C dx fs=>obtain⟨_,_,_,e,_⟩:=x;exact⟨_,e⟩
 |own y=>exact x
 |xd fs=>obtain⟨_,⟨_,_,_,e,_⟩,_⟩:=x;exact⟨_,e⟩
 |M0 lo hi=>obtain⟨_,_,_,e⟩:=x;exact⟨_,e⟩
 |JM ob u=>exact⟨_,x.1⟩
 |Oo ps=>exact⟨_,x⟩
 |met f y=>exact⟨_,x⟩
 |ext φ=>exact x.2.1
noncomputable def indep:HO->Bool
 |.lst _=>Θ
 |.tup _=>Θ
 |.ext _=>Θ
 |.dK _=>Θ
 |_=>Ξ
theorem og (i:indep u=Θ)(x:iV P w H h a u):iV P w H' h a u:=by
 cases u with
 |lst _=>exact x
 |tup _=>exact x
 |ext _=>exact x
 |dK _=>exact x
 |_=>cases i
noncomputable def jj (h:Heap)(H:Hp):Hp:=fun b=>match H b with
 |some (.lst xs)=>(h.get? b).map fun o=>.JM o (.lst xs)
 |some (.dK kvs)=>(h.get? b).map fun o=>.JM o (.dK kvs)
 |some (.tup xs)=>Δ (.tup xs)
 |some (.JM o u)=>if indep u=Θ then Δ (.JM o u) else Φ
 |_=>Φ
noncomputable def l6 (H H':Hp):Hp:=fun b=>match H b with
 |some o=>Δ o
 |none=>H' b
def Xp (H:Hp):Prop:=∀b o,H b=Δ o->(∃ob u,o=.JM ob u)∨∃xs,o=.tup xs
theorem xN (h:Heap)(H:Hp):Xp (jj h H):=fun b o e=>by
 unfold jj at e;split at e
 ·obtain⟨ob,_,rfl⟩:=aal.mp e;exact .inl ⟨_,_,rfl⟩
 ·obtain⟨ob,_,rfl⟩:=aal.mp e;exact .inl ⟨_,_,rfl⟩
 ·cases e;exact .inr ⟨_,rfl⟩
 ·split at e
  ·cases e;exact .inl ⟨_,_,rfl⟩
  ·cases e
 ·cases e
structure L4 (h:Heap)(Hc H':Hp):Prop where
 Kw:∀b o u,Hc b=Δ (.JM o u)->H' b=Δ (.JM o u)
 KY:∀b xs,Hc b=Δ (.tup xs)->H' b=Δ (.tup xs)
 free:∀b o,h.get? b=Δ o->Hc b=Φ->H' b=Φ
inductive Bk (h:Heap)(H H':Hp)(b:Ω):HO->Prop where
 | lst {xs:List V}{ob:Obj}:h.get? b=Δ ob->H' b=Δ (.JM ob (.lst xs))->Bk h H H' b (.lst xs)
 | dK {xs:List (Key×V)}{ob:Obj}:h.get? b=Δ ob->H' b=Δ (.JM ob (.dK xs))->Bk h H H' b (.dK xs)
 | tup {xs:List V}:H' b=Δ (.tup xs)->Bk h H H' b (.tup xs)
 | JM {o:Obj}{u:HO}:indep u=Θ->H' b=Δ (.JM o u)->Bk h H H' b (.JM o u)
 | K1 {o:HO}{ob:Obj}:h.get? b=Δ ob->jj h H b=Φ->H' b=Φ->(∀xs,o≠.lst xs)->(∀xs,o≠.tup xs)->(∀xs,o≠.dK xs)->Bk h H H' b o
section
variable {P:Ε}{w:Β}{H H':Hp}{h g:Heap}
theorem rh (x:J6 P w H h)(p:L4 h (jj h H) H')  (e:H b=Δ o):Bk h H H' b o:=by
 obtain⟨ob,he⟩:=(x b o e).at
 have hc:jj h H b=(match(Δ o:Option HO) with
  |some (.lst xs)=>(h.get? b).map fun o=>.JM o (.lst xs)
  |some (.dK kvs)=>(h.get? b).map fun o=>.JM o (.dK kvs)
  |some (.tup xs)=>Δ (.tup xs)
  |some (.JM o u)=>if indep u=Θ then Δ (.JM o u) else Φ
  |_=>Φ):=by unfold jj;rw[e]
 cases o with
 |lst xs=>have hc:jj h H b=(h.get? b).map fun o=>.JM o (.lst xs):=hc;rw[he]at hc;exact .lst he (p.Kw _ _ _ hc)
 |dK xs=>have hc:jj h H b=(h.get? b).map fun o=>.JM o (.dK xs):=hc;rw[he]at hc;exact .dK he (p.Kw _ _ _ hc)
 |tup xs=>exact .tup (p.KY _ _ hc)
 |JM o' u=>
  have hc:jj h H b=if indep u=Θ then Δ (.JM o' u) else Φ:=hc
  by_cases i:indep u=Θ
  ·rw[e_ i]at hc;exact .JM i (p.Kw _ _ _ hc)
  ·rw[d_ i]at hc;exact .K1 he hc (p.free _ _ he hc) (fun _ z=>by cases z) (fun _ z=>by cases z) (fun _ z=>by cases z)
 |_=>exact .K1 he hc (p.free _ _ he hc) (fun _ z=>by cases z) (fun _ z=>by cases z) (fun _ z=>by cases z)
theorem xO (x:J6 P w H h):J6 P w (jj h H) h:=fun b o e=>by
 cases q:H b with
 |none=>unfold jj at e;rw[q]at e;cases e
 |some u=>
  have y:=x b u q;unfold jj at e;rw[q]at e;cases u with
  |lst xs=>
   obtain⟨ob,he⟩:=y.at
   have e:(h.get? b).map (fun o=>HO.JM o (.lst xs))=Δ o:=e;rw[he]at e;cases e;exact⟨he,y⟩
  |dK xs=>
   obtain⟨ob,he⟩:=y.at
   have e:(h.get? b).map (fun o=>HO.JM o (.dK xs))=Δ o:=e;rw[he]at e;cases e;exact⟨he,y⟩
  |tup xs=>cases e;exact y
  |JM o' u=>
   have e:(if indep u=Θ then Δ (HO.JM o' u) else Φ)=Δ o:=e;by_cases i:indep u=Θ
   ·rw[e_ i]at e;cases e;exact⟨y.1,og i y.2⟩
   ·rw[d_ i]at e;cases e
  |_=>cases e
theorem j6 (e:H a=Φ):jj h H a=Φ:=by unfold jj;rw[e]
theorem res_some (e:H b=Δ o):l6 H H' b=Δ o:=by unfold l6;rw[e]
theorem res_none (e:H b=Φ):l6 H H' b=H' b:=by unfold l6;rw[e]
theorem xP:iL H (l6 H H'):=fun b o e=>res_some e
theorem xQ (x:J6 P w H h)(y:J6 P w H' g)(p:L4 h (jj h H) H'){fs:List Ω}(keep:∀b o,H b≠Φ->h.get? b=Δ o->jj h H b=Φ->b∉fs->g.get? b=Δ o)(fr:∀b∈fs,H b=Φ):J6 P w (l6 H H') g:=by
 have tp:∀c xs,H' c=Δ (.tup xs)->l6 H H' c=Δ (.tup xs):=fun c xs e=>by
  cases q:H c with
  |none=>rw[res_none q];exact e
  |some o=>
   rw[res_some q];cases rh x p q with
   |lst _ z=>rw[z]at e;cases e
   |dK _ z=>rw[z]at e;cases e
   |tup z=>rw[z]at e;exact e
   |JM _ z=>rw[z]at e;cases e
   |K1 _ _ z _ _ _=>rw[z]at e;cases e
 intro b o e;cases q:H b with
 |some o'=>
  rw[res_some q]at e;cases e;cases rh x p q with
  |lst h1 z=>have h2:=(y b _ z).1;obtain⟨a1,its,n,a2,a3⟩:=x b _ q;rw[h1]at a3;exact⟨a1,its,n,a2,by rw[h2,<- a3]⟩
  |dK h1 z=>exact og rfl (y b _ z).2
  |tup z=>exact y b _ z
  |JM i z=>exact⟨(y b _ z).1,og i (y b _ z).2⟩
  |K1 h1 h2 z n1 n2 n3=>
   refine(x b _ q).Li (fun c u hc hu=>?_) (fun c hc=>res_some hc) fun c xs hc=>res_some hc;rcases hc with rfl|hc
   ·exact keep _ _ (by rw[q];simp) hu h2 fun z=>by rw[fr _ z]at q;cases q
   ·refine keep _ _ (by rw[hc];simp) hu ?_ fun z=>by rw[fr _ z]at hc;cases hc
    unfold jj;rw[hc]
 |none=>
  rw[res_none q]at e;refine(y b o e).Li (fun _ _ _ z=>z) (fun c hc=>?_) tp;cases q':H c with
  |none=>rw[res_none q'];exact hc
  |some o'=>
   exfalso;cases rh x p q' with
   |lst _ z=>rw[z]at hc;cases hc
   |dK _ z=>rw[z]at hc;cases hc
   |tup z=>rw[z]at hc;cases hc
   |JM _ z=>rw[z]at hc;cases hc
   |K1 _ _ z _ _ _=>rw[z]at hc;cases hc
theorem nt (u:Un fs [] (jj h H) H' h g):L4 h (jj h H) H':=⟨u.Kw,u.KY,fun b o e n=>u.free b o e n (by simp)⟩
theorem xR {fs:List Ω}(x:J6 P w H h)(u:Un fs [] (jj h H) H' h g):Un fs [] H (l6 H H') h g where
 keep:=fun b o e n f i=>u.keep b o e (j6 n) f i
 slot:=fun b o e n f i=>u.slot b o e (j6 n) f i
 free:=fun b o e n i=>by rw[res_none n];exact u.free b o e (j6 n) i
 there:=u.there
 KY:=fun b xs e=>res_some e
 Kw:=fun b o v e=>res_some e
 LG:=fun b ps e=>⟨#[],by rw[res_some e];simp⟩
end
theorem DS:Cl H (jj h H):=by
 refine⟨fun b xs e=>?_⟩
 ·rcases e with e|⟨o,e⟩
  ·exact .inl (by unfold jj;rw[e])
  ·exact .inr ⟨o,by unfold jj;rw[e];rfl⟩
theorem DT (x:J6 P w H h)(p:L4 h (jj h H) H'):Cl H' (l6 H H'):=by
 refine⟨fun b xs e=>?_⟩
 ·cases q:H b with
  |none=>unfold Rd;rw[res_none q];exact e
  |some u=>
   unfold Rd;rw[res_some q];have k:=rh x p q;cases k with
   |lst h1 h2=>rcases e with e|⟨o,e⟩<;>(rw[e]at h2;cases h2)
   |dK h1 h2=>rcases e with e|⟨o,e⟩<;>(rw[e]at h2;cases h2)
   |tup h2=>rcases e with e|⟨o,e⟩<;>(rw[e]at h2;cases h2);exact .inl rfl
   |JM h1 h2=>rcases e with e|⟨o,e⟩<;>(rw[e]at h2;cases h2);exact .inr ⟨_,rfl⟩
   |K1 h1 h2 h3=>rcases e with e|⟨o,e⟩<;>(rw[e]at h3;cases h3)
noncomputable def jm:List Str:=["len","sum","min","max","sorted","list","tuple","ord","int","all","any","str","set","abs","isinstance","range","bool","zip","reversed","dict","enumerate"]
noncomputable def pI:Bi->Nat
 |.len=>0|.sum=>1|.min2=>2|.max2=>3|.N8=>3|.sorted=>4|.list=>5|.tuple=>6|.ord=>7|.int=>8|.all=>9|.any=>10|.str=>11|.set=>12|.abs=>13
noncomputable def ud:Kd->Nat
 |.str=>11|.int=>8|.bool=>16|.list=>5|.tuple=>6
theorem xS (f:Bi):jm[pI f]? = Δ (kJ f):=by cases f<;>rfl
theorem DU (f:Kd):jm[ud f]? = Δ (lJ f):=by cases f<;>rfl
mutual
noncomputable def vT:D->D->Bool
 |.Jt,.Jt=>Θ
 |.bl a,.bl b=>a == b
 |.int a,.int b=>a == b
 |.str a,.str b=>a == b
 |.tup a,.tup b=>oh a b
 |.lst o a,.lst o' b=>o == o'&&oh a b
 |_,_=>Ξ
noncomputable def oh:List D->List D->Bool
 |[],[]=>Θ
 |a::r,b::s=>vT a b&&oh r s
 |_,_=>Ξ
end
mutual
theorem ue:∀ {a b:D},vT a b=Θ->a=b
 |.Jt,b,h=>by cases b<;>first|rfl|cases h
 |.bl a,b,h=>by cases b<;>first|(rw[h_ (show(a == _)=Θ from h)])|cases h
 |.int a,b,h=>by cases b<;>first|(rw[h_ (show(a == _)=Θ from h)])|cases h
 |.str a,b,h=>by cases b<;>first|(rw[h_ (show(a == _)=Θ from h)])|cases h
 |.tup a,b,h=>by
  induction b using zD with
  |tup b=>rw[oj (show oh a b=Θ from h)]
  |_=>cases h
 |.lst o a,b,h=>by
  induction b using zD with
  |lst o' b=>have h':(o == o'&&oh a b)=Θ:=h;rw[g_]at h';rw[h_ h'.1,oj h'.2]
  |_=>cases h
theorem oj:∀ {a b:List D},oh a b=Θ->a=b
 |[],b,h=>by cases b<;>first|rfl|cases h
 |a::r,b,h=>by
  cases b with
  |nil=>cases h
  |cons b s=>have h':(vT a b&&oh r s)=Θ:=h;rw[g_]at h';rw[ue h'.1,oj h'.2]
end
structure Sg where
 nm:List Str
 Qj:List (Nat×D)
 fns:List Nat
 cls:List Nat:=[]
 xt:List (Str×Nat×Bool):=[]
 pl:List Nat:=[]
 rc:List (Nat×Str×Str):=[]
 xm:List (Str×Nat):=[]
 ZU:List Nat:=[]
noncomputable def Sg.name (Z:Sg)(n:Nat):Option Str:=(jm++Z.nm)[n]?
noncomputable def Gm.LM (G:Gm)(n:Nat):Bool:=G.cm&&G.gl.contains n
theorem om {G:Gm}{n:Nat}(h:G.LM n=Θ):G.gl.contains n=Θ:=by unfold Gm.LM at h;rw[g_]at h;exact h.2
theorem oq {G:Gm}{n:Nat}(h:G.LM n=Θ):G.cm=Θ:=by unfold Gm.LM at h;rw[g_]at h;exact h.1
noncomputable def Sg.OC (Z:Sg)(G:Gm)(f:Nat):Bool:=Z.fns.contains f&&(G.cm||Z.pl.contains f)
theorem qc {Z:Sg}{G:Gm}{f:Nat}(h:Z.OC G f=Θ):f∈Z.fns/\(G.cm=Θ∨f∈Z.pl):=by unfold Sg.OC at h;rw[g_,aag]at h;exact⟨by simpa using h.1,h.2.elim .inl fun z=>.inr (by simpa using z)⟩
noncomputable def sN:Mt->Bool
 |.join=>Θ
 |_=>Ξ
noncomputable def notStar:Expr->Bool
 |.Starred ..=>Ξ
 |_=>Θ
noncomputable def jk:Expr->Bool
 |.Slice ..=>Ξ
 |_=>Θ
noncomputable def ot:Expr->Bool
 |.Call _ [] [] _=>Ξ
 |_=>Θ
noncomputable def kA (G:Gm)(i:Nat)(x:Str):Bool:=G.N[i]? == Δ x&&(G.kd[i]? == Δ .local||G.kd[i]? == Δ .cell||G.kd[i]? == Δ .free)
noncomputable def ou (Z:Sg)(G:Gm)(n:Nat)(x:Str):Bool:=Z.name n == Δ x&&G.gl.contains n
noncomputable def FZ:D->Const->Bool
 |.int i,.int j=>i == j
 |.str x,.str y=>x == y
 |.bl a,.bool b=>a == b
 |.Jt,.none=>Θ
 |_,_=>Ξ
mutual
noncomputable def j7 (G:Gm):Tg->Expr->Bool
 |.nm i,.Name x _=>(G.N[i]? == Δ x&&(G.kd[i]? == Δ .local||(G.df&&G.kd[i]? == Δ .cell)))&&G.io != Δ i
 |.tp ts,.Tuple es _ _=>G.cm&&lC G ts es
 |_,_=>Ξ
noncomputable def lC (G:Gm):List Tg->List Expr->Bool
 |[],[]=>Θ
 |t::ts,e::es=>notStar e&&j7 G t e&&lC G ts es
 |_,_=>Ξ
end
mutual
noncomputable def Lg:Tg->List Nat
 |.nm i=>[i]
 |.tp ts=>rj ts
noncomputable def rj:List Tg->List Nat
 |[]=>[]
 |t::ts=>Lg t++rj ts
end
noncomputable def jJ (Z : Sg)(G : Gm)(scope : Scope)(G' : Gm)(fr : List Nat) : Bool :=
  (G.cm&&scope.kind == .function)&&!G'.tr&&!G'.df&&G'.kd.length == G'.N.length
 &&scope.names.all (fun y =>y.2 != .cell)&&scope.names.all (fun y =>y.2 != .local||scope.names.lookup y.1 == Δ .local)
 &&scope.names.all (fun y =>y.2 != .free||(List.range G.N.length).any fun i =>G.N[i]? == Δ y.1&&(G.kd[i]? == Δ .cell||G.kd[i]? == Δ .free))
 &&(List.range fr.length).all (fun j =>G'.N[j]? == (fr[j]?).bind (G.N[·]?)&&((G'.N[j]?).bind (scope.names.lookup ·) == Δ .free)&&((fr[j]?).bind (G.kd[·]?) == Δ .cell||(fr[j]?).bind (G.kd[·]?) == Δ .free)
     &&(G'.kd[j]? == Δ (if((fr[j]?).bind (G.kd[·]?) == Δ .cell) then .cell else .free)))
 &&decide (fr.length <= G'.N.length)
 &&((List.range G'.N.length).drop fr.length).all (fun j =>(G'.N[j]?).bind (scope.names.lookup ·) == Δ .local&&G'.kd[j]? == Δ .local)
 &&G'.N.all (fun x =>!(x == "__debug__")&&!(x == "__classdict__"))
 &&decide (G'.N.Nodup)
 &&G'.gl.all (fun n =>match Z.name n with|some x =>scope.names.lookup x == Δ .globalImplicit|none =>Ξ)
theorem gf {P:Prop}(h:Ξ=Θ):P:=by cases h
noncomputable def vU:List Comprehension->(Expr->Expr->List Expr->Bool)->Bool
 |[⟨t,it,fs,0⟩],k=>k t it fs
 |_,_=>Ξ
local macro_rules | `(tactic| exists $h) =>`(tactic| first | exact L2.gf $h | cases($h))
theorem qd (h:vU gens k=Θ):∃t it fs,gens=[⟨t,it,fs,0⟩]/\k t it fs=Θ:=by
 unfold vU at h;split at h
 ·exact⟨_,_,_,rfl,h⟩
 ·cases h
noncomputable def OE (k:Str->Bool):Expr->Bool
 |.Name z _=>k z
 |_=>Ξ
theorem lK (h:OE k e=Θ):∃z p,e=.Name z p/\k z=Θ:=by
 induction e using zE with
 |Name z p=>exact⟨z,p,rfl,h⟩
 |_=>exact gf h
noncomputable def Nm {α:Type}:List α->(α->Bool)->Bool
 |a::r,k=>r.isEmpty&&k a
 |[],_=>Ξ
theorem kK (h:Nm l k=Θ):∃a,l=[a]/\k a=Θ:=by
 cases l with
 |nil=>exact gf h
 |cons a r=>
  cases r with
  |nil=>exact⟨a,rfl,h⟩
  |cons b r=>exact gf h
noncomputable def Qk:Expr->(Expr->List Expr->Pos->Bool)->Bool
 |.Call f as ks p,k=>ks.isEmpty&&k f as p
 |_,_=>Ξ
theorem ox (h:Qk e k=Θ):∃f as p,e=.Call f as [] p/\k f as p=Θ:=by
 induction e using zE with
 |Call f as ks p=>
  cases ks with
  |nil=>exact⟨f,as,p,rfl,h⟩
  |cons b r=>exact gf h
 |_=>exact gf h
noncomputable def xT:Expr->Bool
 |.Tuple _ _ _=>Θ
 |_=>Ξ
noncomputable def nc:Sr->Expr->Bool
 |.zip _ _,t=>xT t
 |.LU _,t=>xT t
 |_,_=>Θ
noncomputable def S7:Expr->Bool
 |.Dict ks vs _=>ks.isEmpty&&vs.isEmpty
 |_=>Ξ
theorem xU (h:S7 e=Θ):∃p,e=.Dict [] [] p:=by
 induction e using zE with
 |Dict ks vs p=>
  have h':=F_.mp (show(ks.isEmpty&&vs.isEmpty)=Θ from h);cases ks with
  |cons _ _=>exact gf h'.1
  |nil=>
   cases vs with
   |cons _ _=>exact gf h'.2
   |nil=>exact⟨p,rfl⟩
 |_=>exact gf h
noncomputable def S8:Expr->(Expr->Expr->Bool)->Bool
 |.Subscript o s _,k=>k o s
 |_,_=>Ξ
theorem DV (h:S8 e k=Θ):∃o s p,e=.Subscript o s p/\k o s=Θ:=by
 unfold S8 at h;split at h
 ·exact⟨_,_,_,rfl,h⟩
 ·cases h
noncomputable def UZ (e:Expr)(k:Str->Str->Expr->Bool):Bool:=Qk e fun f as _=>OE (fun x=>Nm as fun a=>Qk a fun g bs _=>OE (fun y=>Nm bs fun b=>k x y b) g) f
theorem DW (h:UZ e k=Θ):∃x p y p' e' q' q,e=.Call (.Name x p) [.Call (.Name y p') [e'] [] q'] [] q/\k x y e'=Θ:=by obtain⟨f,as,q,rfl,h1⟩:=ox h;obtain⟨x,p,rfl,h2⟩:=lK h1;obtain⟨a,rfl,h3⟩:=kK h2;obtain⟨g,bs,q',rfl,h4⟩:=ox h3;obtain⟨y,p',rfl,h5⟩:=lK h4;obtain⟨b,rfl,h6⟩:=kK h5;exact⟨_,_,_,_,_,_,_,rfl,h6⟩
noncomputable def Xq:List Expr->(Expr->Expr->Bool)->Bool
 |a::r,k=>Nm r (k a)
 |[],_=>Ξ
theorem DX (h:Xq l k=Θ):∃a b,l=[a,b]/\k a b=Θ:=by
 cases l with
 |nil=>exact gf h
 |cons a r=>obtain⟨b,rfl,h⟩:=kK (show Nm r (k a)=Θ from h);exact⟨a,b,rfl,h⟩
noncomputable def U0 (e:Expr)(k:Str->Str->Expr->Expr->Bool):Bool:=Qk e fun f as _=>OE (fun x=>Nm as fun a=>Qk a fun g bs _=>OE (fun y=>Xq bs fun b c=>k x y b c) g) f
theorem DY (h:U0 e k=Θ):∃x p y p' a b q' q,e=.Call (.Name x p) [.Call (.Name y p') [a,b] [] q'] [] q/\k x y a b=Θ:=by obtain⟨f,as,q,rfl,h1⟩:=ox h;obtain⟨x,p,rfl,h2⟩:=lK h1;obtain⟨a,rfl,h3⟩:=kK h2;obtain⟨g,bs,q',rfl,h4⟩:=ox h3;obtain⟨y,p',rfl,h5⟩:=lK h4;obtain⟨b,c,rfl,h6⟩:=DX h5;exact⟨_,_,_,_,_,_,_,_,rfl,h6⟩
noncomputable def isNm:Expr->Bool
 |.Name ..=>Θ
 |_=>Ξ
noncomputable def Ru:Expr->(Str->Expr->Str->Bool->Bool)->Bool
 |.Call (.Name x _) [.Call (.Attribute o name apos) [] [] IF] [] _,k=>k x o name (apos.endLine == IF.line)
 |_,_=>Ξ
theorem xV {e:Expr}{k:Str->Expr->Str->Bool->Bool}(h:Ru e k=Θ):∃x p o name apos IF q,e=.Call (.Name x p) [.Call (.Attribute o name apos) [] [] IF] [] q/\k x o name (apos.endLine == IF.line)=Θ:=by
 unfold Ru at h;split at h
 ·exact⟨_,_,_,_,_,_,_,rfl,h⟩
 ·cases h
noncomputable def S9:Expr->(Expr->Str->Bool->Expr->Expr->Bool)->Bool
 |.Call (.Attribute o name apos) [a,b] [] IF,k=>k o name (apos.endLine == IF.line) a b
 |_,_=>Ξ
theorem DZ {e:Expr}{k:Expr->Str->Bool->Expr->Expr->Bool}(h:S9 e k=Θ):∃o name apos a b IF,e=.Call (.Attribute o name apos) [a,b] [] IF/\k o name (apos.endLine == IF.line) a b=Θ:=by
 unfold S9 at h;split at h
 ·exact⟨_,_,_,_,_,_,rfl,h⟩
 ·cases h
mutual
noncomputable def Ju (Z:Sg)(G:Gm):IR->Expr->Bool
 |.c d,.Constant k _ _=>FZ d k
 |.g n d,.Name x _=>ou Z G n x&&Z.Qj.any fun p=>p.1 == n&&vT p.2 d
 |.v i,.Name x _=>kA G i x
 |.bin op a b,.BinOp l o r _=>o == Oa op&&Ju Z G a l&&Ju Z G b r
 |.neg a,.UnaryOp .USub e _=>Ju Z G a e
 |.cmp op a b,.Compare l [o] [r] _=>o == LL op&&Ju Z G a l&&Ju Z G b r&&!behindInMarks o r
 |.chain op J9 a b c,.Compare l [o,o'] [m,r] _=>o == LL op&&o' == LL J9&&Ju Z G a l&&Ju Z G b m&&Ju Z G c r&&!lastMarks [o,o'] [m,r]
 |.JX a b,.BoolOp .And [e,e'] _=>Ju Z G a e&&Ju Z G b e'
 |.JX a b,.BoolOp .And (e::e'::U1::rest) p=>Ju Z G a e&&Ju Z G b (.BoolOp .And (e'::U1::rest) p)
 |.Lf a b,.BoolOp .Or [e,e'] _=>Ju Z G a e&&Ju Z G b e'
 |.Lf a b,.BoolOp .Or (e::e'::U1::rest) p=>Ju Z G a e&&Ju Z G b (.BoolOp .Or (e'::U1::rest) p)
 |.Kr a,.UnaryOp .Not e _=>Ju Z G a e
 |.ite t a b,.IfExp c x y _=>Ju Z G t c&&Ju Z G a x&&Ju Z G b y
 |.tup es,.Tuple l _ _=>ju Z G es l
 |.lst es,.List l _=>ju Z G es l
 |.sl a lo hi,.Subscript e (.Slice l h Φ _) _=>Ju Z G a e&&sO Z G lo l&&sO Z G hi h
 |.idx a i,.Subscript e s _=>jk s&&Ju Z G a e&&Ju Z G i s
 |.call f es,.Call (.Name x _) args [] _=>ou Z G f x&&Z.OC G f&&ju Z G es args
 |.bi f es,.Call (.Name x _) (a::args) [] _=>x == kJ f&&G.LM (pI f)&&ju Z G es (a::args)
 |.Kz a k,.Call (.Name x _) [e,.Name y _] [] _=>x == "isinstance"&&G.gl.contains 14&&y == lJ k&&G.gl.contains (ud k)&&notStar e&&Ju Z G a e
 |.K3,e=>S7 e
 |.K4 a k,e=>S8 e fun o s=>jk s&&Ju Z G a o&&Ju Z G k s
 |.KQ a,e=>Ru e fun x o n l=>x == "sorted"&&G.LM 4&&isNm o&&n == "items"&&l&&Ju Z G a o
 |.K5 a b,e=>U0 e fun x y e e'=>x == "list"&&G.LM 5&&y == "zip"&&G.gl.contains 17&&(notStar e&&notStar e')&&Ju Z G a e&&Ju Z G b e'
 |.sset a,e=>UZ e fun x y e=>x == "sorted"&&G.gl.contains 4&&y == "set"&&G.gl.contains 12&&(notStar e&&G.cm)&&Ju Z G a e
 |.Kj a k d,e=>S9 e fun o n l s f=>isNm o&&n == "get"&&l&&(notStar s&&notStar f)&&Ju Z G a o&&Ju Z G k s&&Ju Z G d f
 |.L9 m o es,.Call (.Attribute oe name apos) (a::args) [] IF=>name == n9 m&&ot oe&&apos.endLine == IF.line&&(decide ((a::args).length < 29)&&(G.cm||sN m))&&Ju Z G o oe&&ju Z G es (a::args)
 |.comp G' fr tg src ifs elt,.ListComp e gens scope _=>vU gens fun t it fs=>jJ Z G scope G' fr&&j7 G' tg t&&(Lg tg).all (fun i=>decide (fr.length<=i))&&(kl Z G src it&&nc src t)&&ju Z G' ifs fs&&Ju Z G' elt e
 |_,_=>Ξ
noncomputable def ju (Z:Sg)(G:Gm):List IR->List Expr->Bool
 |[],[]=>Θ
 |a::es,e::l=>notStar e&&Ju Z G a e&&ju Z G es l
 |_,_=>Ξ
noncomputable def sO (Z:Sg)(G:Gm):Option IR->Option Expr->Bool
 |none,Φ=>Θ
 |some a,Δ e=>Ju Z G a e
 |_,_=>Ξ
noncomputable def kl (Z:Sg)(G:Gm):Sr->Expr->Bool
 |.JP n,.Call (.Name x _) [e] [] _=>x == "range"&&G.gl.contains 15&&notStar e&&Ju Z G n e
 |.zip a b,.Call (.Name x _) [e,e'] [] _=>x == "zip"&&G.gl.contains 17&&notStar e&&notStar e'&&Ju Z G a e&&Ju Z G b e'
 |.LU a,.Call (.Name x _) [e] [] _=>x == "enumerate"&&G.gl.contains 20&&notStar e&&Ju Z G a e
 |.val a,e=>Ju Z G a e
 |_,_=>Ξ
end
def LV (F:Ω->Prop)(H:Hp):Prop:=∀a,F a->H a≠Φ
structure Out (K:Frag)(F:Ω->Prop)(H:Hp)(F':Ω->Prop)(H':Hp)(v:V)(d:D)(fv:List Ω):Prop where
 JL:LV F' H'
 same:iL H H'
 rep:JB K F' H' v d fv
 J7:fv.Nodup
 new:∀a∈fv,H a=Φ
 inn:∀a,F a->F' a
 out:∀a,F' a->F a∨H a=Φ
def Pq (K:Frag)(cl:Nat->List D->Res D)(f:Nat)(ps:List Str):Sp:=fun vs H Q E=>vs.length=ps.length/\Xp H/\∃F ds,LV F H/\Iz K F H vs ds/\
 IA (cl f (Jv ds)) fun d=>∀v H' F' fv,Out K F H F' H' v d fv->Q v H'
structure U2 (P:Ε)(w:Β)(K:Frag)(mg:Str->Option Ψ)(base:Heap)(CX:KJ)(A:Ι)(cl:Nat->List D->Res D)(f:Nat)(x:Str):Prop where
 ex:∃(k:Nat) (fa:Ω) (fd:Ο) (ps:List Str),mg x=Δ (.ref fa)/\PySem.W.keepIn K (.ref fa)=Θ/\Binds K fd ps []/\Lb P w K mg base CX k fa fd ps (Pq K cl f ps)/\Kx k A/\
  ∀ds (k:D->Prop),IA (cl f ds) k->ds.length=ps.length
structure JY (Z:Sg)(CX:KJ)(cl:Nat->List D->Res D)(X:Cx)(G:Gm):Prop where
 N:X.N=G.N
 J7:G.N.Nodup
 calm:G.cm=Θ->X.calm=Θ
 fk:X.env.scope.kind=.function
 un:X.A.units+42 < cLine
 own:G.rs=Θ->PassesOwn (Μ X.prog X.w) X.A X.env X.xe
 kd:∀(i:Nat) (x:Str),G.N[i]? = Δ x->X.env.kindOf x=G.kd[i]?
 Ob:∀(i:Nat) (x:Str),G.N[i]? = Δ x->(x == ("__debug__" : Str))=Ξ/\(x == ("__classdict__" : Str))=Ξ
 gl:∀n∈G.gl,∀x,Z.name n=Δ x->Gl X x
 Pr:∀n x,Z.name n=Δ x->x≠"__name__"/\(x == ("__debug__" : Str))=Ξ
 df:G.df=Θ->∀x,X.fn x=Θ
 blt:∀(n:Nat) (x:Str),jm[n]? = Δ x->X.mg x=Φ
 cst:∀n d x,(n,d)∈Z.Qj->Z.name n=Δ x->∃u v,X.mg x=Δ u/\RelV v u/\∀S H,IB X.K S H v d
 fns:∀f∈Z.fns,(G.cm=Θ∨f∈Z.pl)->∀x,Z.name f=Δ x->U2 X.prog X.w X.K X.mg X.base CX X.A cl f x
 U3:∃E:XK,Passes CX X E
 Pl:∀(outer:List Env) (H:Hp) (s:Α) (E:XK) (e:Ψ) (s':Α),J6 X.prog X.w H s.heap->(∀b∈Lj outer,H b=Φ)->CX outer (jj s.heap H) s E e s'->CX outer H s E e s'
 U4:∀(H:Hp) (outer:List Env) (s:Α) (e:Ψ) (s':Α),¬CX outer H s (fun _ _ _=>False) e s'
section
variable {P:Ε}{w:Β}{H H':Hp}{h:Heap}{K:Frag}{Fc F':Ω->Prop}
theorem uf (x:J6 P w H h)(m:Iz K Fc H vs ds):Iz K (fun a=>Fc a/\jj h H a≠Φ) (jj h H) vs ds:=by
 refine(m.step (S':=Fc) (H':=jj h H) (fun a xs f r=>⟨f,?_⟩) fun a xs r=>?_).L3
 ·rcases r with r|⟨o,r⟩
  ·obtain⟨ob,he⟩:=(x a _ r).at
   refine .inr ⟨ob,?_⟩;unfold jj;rw[r];cases xs with
   |l ys=>show(h.get? a).map _=_;rw[he];rfl
   |d ys=>show(h.get? a).map _=_;rw[he];rfl
  ·refine .inr ⟨o,?_⟩;unfold jj;rw[r];cases xs<;>rfl
 ·exact r.cl DS
theorem rm (x:J6 P w H h)(p:L4 h (jj h H) H')  (n:jj h H a=Φ)(e:H' a≠Φ):H a=Φ:=by
 cases q:H a with
 |none=>rfl
 |some o=>
  obtain⟨ob,he⟩:=(x a o q).at
  exact absurd (p.free a ob he n) e
theorem ug (x:J6 P w H h)(JL:LV Fc H)(p:L4 h (jj h H) H')(o:Out K (fun a=>Fc a/\jj h H a≠Φ) (jj h H) F' H' v d fv):Out K Fc H (fun a=>Fc a∨F' a) (l6 H H') v d fv:=by
 have new:∀a∈fv,H a=Φ:=fun a ha=>rm x p (o.new a ha) (by obtain⟨_,xs,e⟩:=o.rep.own a ha;rw[e];simp);refine⟨fun a ha=>?_,xP,o.rep.step (fun a xs f r=>⟨.inr f,?_⟩) (fun a xs r=>?_) fun a ha nf hn=>⟨fun z=>?_,res_none (new a ha)⟩,o.J7,new,fun a ha=>.inl ha,fun a ha=>?_⟩
 ·cases q:H a with
  |some u=>rw[res_some q];simp
  |none=>
   rw[res_none q];rcases ha with ha|ha
   ·exact absurd q (JL a ha)
   ·exact o.JL a ha
 ·cases q:H a with
  |none=>unfold Rd;rw[res_none q];exact r
  |some u=>
   unfold Rd;rw[res_some q];cases rh x p q with
   |lst _ z=>
    cases xs with
    |l ys=>
     rcases r with r|⟨o',r⟩
     ·rw[z]at r;cases r
     ·rw[z]at r;cases r;exact .inl rfl
    |d ys=>rcases r with r|⟨o',r⟩<;>(rw[z]at r;cases r)
   |dK _ z=>
    cases xs with
    |d ys=>
     rcases r with r|⟨o',r⟩
     ·rw[z]at r;cases r
     ·rw[z]at r;cases r;exact .inl rfl
    |l ys=>rcases r with r|⟨o',r⟩<;>(rw[z]at r;cases r)
   |tup z=>cases xs<;>rcases r with r|⟨o',r⟩<;>(rw[z]at r;cases r)
   |JM _ z=>
    cases xs with
    |l ys=>
     rcases r with r|⟨o',r⟩
     ·rw[z]at r;cases r
     ·rw[z]at r;cases r;exact .inr ⟨_,rfl⟩
    |d ys=>
     rcases r with r|⟨o',r⟩
     ·rw[z]at r;cases r
     ·rw[z]at r;cases r;exact .inr ⟨_,rfl⟩
   |K1 _ _ z _ _ _=>exact absurd z r.some
 ·exact r.cl (DT x p)
 ·rcases z with z|z
  ·exact JL a z (new a ha)
  ·exact nf z
 ·rcases ha with ha|ha
  ·exact .inl ha
  ·rcases o.out a ha with z|z
   ·exact .inl z.1
   ·exact .inr (rm x p z (o.JL a ha))
end
section
variable {X:Cx}{CX:KJ}{cl:Nat->List D->Res D}
theorem Inv.Rv (I:Inv X pins σ H s):MN X.prog X.w X.K X.mg X.base X.A X.stack s (jj s.heap H):=
 ⟨I.Ll.frames,I.Ll.mod,fun b o e=>⟨(I.Ll.bs b o e).1,j6 (I.Ll.bs b o e).2⟩,I.Ll.NQ,I.Ll.KZ,fun b hb=>j6 (I.Ll.Nz b hb),xO I.JD,I.Ll.bare⟩
theorem uh
  (F:Lb X.prog X.w X.K X.mg X.base CX k fa fd ps (Pq X.K cl f ps)) (hr:Kx k X.A) (hb:Binds X.K fd ps []) (hx:Passes CX X E)
  (hh:∀(outer:List Env) (H:Hp) (s:Α) (E:XK) (e:Ψ) (s':Α),J6 X.prog X.w H s.heap->(∀b∈Lj outer,H b=Φ)->CX outer (jj s.heap H) s E e s'->CX outer H s E e s')
  (I:Inv X pins σ H s) (r:Vals vs us) (hl:vs.length=ps.length) (JL:LV Fc H) (m:Iz X.K Fc H vs ds)
  (q:IA (cl f (Jv ds)) fun d=>∀v H' F' fv,Out X.K Fc H F' H' v d fv->Q v H'):Κ (Μ X.prog X.w) X.A (call (.ref fa) us) (EP X pins σ Q) X.xe s:=by
 have Mq:Pq X.K cl f ps vs (jj s.heap H) (fun v H'=>L4 s.heap (jj s.heap H) H'->Q v (l6 H H')) E:=
  ⟨hl,xN _ _,_,ds,fun a h=>h.2,uf I.JD m,q.mono fun d hd v H' F' fv o p=>hd v _ _ fv (ug I.JD JL p o)⟩
 have NC:(us++([]:List Ψ)).length=ps.length:=by rw[P_,<- r.length];exact hl
 have bd:=hb s us I.LX NC;rw[P_]at bd;refine wpAny_call (codeAny_mono (F.run X.A X.stack s (jj s.heap H) ⟨us,[]⟩ us vs _ E hr I.Rv bd r Mq) fun r' s' hq=>?_);cases r' with
 |error e=>exact hx pins σ H s e s' I (hh X.stack H s E e s' I.JD I.Ll.Nz hq)
 |ok fl=>
  cases fl with
  |ret u=>obtain⟨v,H',a1,a2,a3,a4,a5,a6⟩:=hq;exact I.after (Q:=Q) ⟨v,l6 H H',a1,a2,xR I.JD a3,xQ I.JD a4 (nt a3) (fs:=Lj X.stack) (fun b o _ e n f=>a3.keep b o e n f (by simp)) I.Ll.Nz,a5,a6 (nt a3)⟩
  |next=>exact False.elim hq
  |brk=>exact False.elim hq
  |cont=>exact False.elim hq
end
def Slots (K:Frag)(S:Ω->Prop)(H:Hp)(σ:St)(τ:Ev)(is:List Nat):Prop:=∀i∈is,∀d,iF τ i=Δ d->∃v,σ[i]? = Δ (Δ v)/\IB K S H v d
theorem Slots.sub {K:Frag}{S:Ω->Prop}{H:Hp}{σ:St}{τ:Ev}{is js:List Nat}(h:Slots K S H σ τ is)(s:∀i∈js,i∈is):Slots K S H σ τ js:=fun i hi d e=>h i (s i hi) d e
theorem Slots.left {K:Frag}{S:Ω->Prop}{H:Hp}{σ:St}{τ:Ev}{is js:List Nat}(h:Slots K S H σ τ (is++js)):Slots K S H σ τ is:=h.sub fun _ hi=>s_ _ hi
theorem Slots.right {K:Frag}{S:Ω->Prop}{H:Hp}{σ:St}{τ:Ev}{is js:List Nat}(h:Slots K S H σ τ (is++js)):Slots K S H σ τ js:=h.sub fun _ hi=>t_ _ hi
theorem Slots.go {K:Frag}{S:Ω->Prop}{H H':Hp}{σ:St}{τ:Ev}{is:List Nat}(h:Slots K S H σ τ is)(e:iL H H'):Slots K (nw S H) H' σ τ is:=fun i hi d z=>by obtain⟨v,h1,h2⟩:=h i hi d z;exact⟨v,h1,h2.mono (fun _=>.inl) e⟩
def RD (K:Frag)(is:List Nat)(f:Ev->Res D):TE:=fun σ H Q=>∃S τ,Slots K S H σ τ is/\IA (f τ) (Kk K S H Q)
def RT (K:Frag)(is:List Nat)(f:Ev->Res Bool):TT:=fun σ H Q=>∃S τ,Slots K S H σ τ is/\IA (f τ) fun b=>∀H',iL H H'->Q b H'
def RA (K:Frag)(is:List Nat)(f:Ev->Res (List D)):TA:=fun σ H Q=>∃S τ,Slots K S H σ τ is/\IA (f τ) fun ds=>∀vs H',iL H H'->Iz K (nw S H) H' vs ds->Q vs H'
def Ql (K:Frag)(is:List Nat)(f:Ev->Res (Option Int)):TO:=fun σ H Q=>∃S τ,Slots K S H σ τ is/\IA (f τ) fun o=>∀H',iL H H'->Q o H'
def WS (K:Frag)(S:Ω->Prop)(H:Hp)(k:Zp.Kq)(a:Ω)(xs:List V):Prop:=match k with
 |.l=>(S a/\Rd H a (.lst xs))∨KL K a xs
 |.t=>JO K H a xs
theorem WS.sq {K:Frag}{S:Ω->Prop}{H:Hp}{k:Zp.Kq}{a:Ω}{xs:List V}(h:WS K S H k a xs):Mg K H k a xs:=by
 cases k with
 |l=>exact h.elim (fun z=>.inl z.2) fun z=>z.sq
 |t=>exact h
inductive K9 (K:Frag)(S:Ω->Prop)(H:Hp):It->List D->Prop where
 | lst {a:Ω}{xs:List V}{ds:List D}:S a->Rd H a (.lst xs)->Iz K S H xs ds->K9 K S H (SK K a) ds
 | lstK {a:Ω}{xs:List V}{ds:List D}:KL K a xs->Iz K S H xs ds->K9 K S H (SK K a) ds
 | tup {a:Ω}{xs:List V}{ds:List D}:JO K H a xs->Iz K S H xs ds->K9 K S H (T8 K a) ds
 | M0 (lo hi:Int):K9 K S H (QK lo (hi - lo).toNat) (jq lo hi)
 | str (x:Str):K9 K S H (UY x) (jZ x)
 | zip {p q:Zp.Kq}{l m:Ω}{xs ys:List V}{ds es:List D}:WS K S H p l xs->WS K S H q m ys->Iz K S H xs ds->Iz K S H ys es->K9 K S H (Ux K p q l m) (jT ds es)
 | LU {l:Ω}{xs:List V}{ds:List D}:WS K S H .l l xs->Iz K S H xs ds->K9 K S H (UR K l) (n0 ds)
def RI (K:Frag)(is:List Nat)(f:Ev->Res (List D)):TI:=fun σ H R=>∃S τ,Slots K S H σ τ is/\IA (f τ) fun ds=>∀J H',iL H H'->K9 K (nw S H) H' J ds->R J H'
theorem pJ (e:iL H H1):∀a,nw (nw S H) H1 a->nw S H a:=fun a h=>by
 rcases h with h|h
 ·exact h
 ·exact .inr (e.free h)
section
variable {Z:Sg}{CX:KJ}{cl:Nat->List D->Res D}{X:Cx}{G:Gm}
theorem Kk.fit {K:Frag}{S:Ω->Prop}{H H1:Hp}{Q:VK}{d:D}(e:iL H H1)(h:Kk K S H Q d):Kk K (nw S H) H1 Q d:=fun w H' e' m=>h w H' (e.trans e') (m.mono (pJ e) (.refl _))
theorem xW (g:JY Z CX cl X G)  (h:ou Z G n x=Θ):Gl X x/\Z.name n=Δ x/\x≠"__name__"/\(x == ("__debug__" : Str))=Ξ:=by unfold ou at h;rw[g_]at h;have e:Z.name n=Δ x:=h_ h.1;exact⟨g.gl n (by simpa using h.2) x e,e,g.Pr n x e⟩
theorem Cb (Z:Sg)  (h:jm[n]? = Δ x):Z.name n=Δ x:=by unfold Sg.name;rw[aau (x_.mp h).1];exact h
theorem km (g:JY Z CX cl X G)  (h:jm[n]? = Δ x)(hc:G.gl.contains n=Θ):Gl X x/\X.mg x=Φ/\x≠"__name__"/\(x == ("__debug__" : Str))=Ξ:=
 ⟨g.gl n (by simpa using hc) x (Cb Z h),g.blt n x h,g.Pr n x (Cb Z h)⟩
theorem iC (h:notStar e=Θ)(es:List Expr)(env:Env):Ν (e::es) env=(Ξ,eval e env)::Ν es env:=by
 induction e using zE<;>first|rfl|cases h
theorem jP (Z:Sg)(G:Gm):∀ {es:List IR}{l:List Expr} (p:Pos) (env:Env),ju Z G es l=Θ->(backTo p (Ν l env)).any (·.1)=Ξ
 |[],[],_,_,_=>rfl
 |a::es,e::l,p,env,h=>by have h':(notStar e&&Ju Z G a e&&ju Z G es l)=Θ:=h;simp only[g_]at h';rw[iC h'.1.1];have ih:=jP Z G (es:=es) (l:=l) p env h'.2;show(Ξ||(backTo p (Ν l env)).any (·.1))=Ξ;rw[ih];rfl
 |[],_::_,_,_,h=>by cases h
 |_::_,[],_,_,h=>by cases h
theorem xX (h:∀S H,IB X.K S H v d)  (q:RD X.K is (fun _=>.ok d) σ H Q):Q v H:=by obtain⟨S,τ,_,q⟩:=q;exact q.ok _ _ (.refl _) (h _ _)
theorem F0 (h:PE X e (RD X.K is f))(he:∀whole,isTrue e X.env whole=(do let v <- whole;standAt e.pos;holding [v] (truthy v))):PT X e (RT X.K is fun τ=>Iq (f τ) iX):=by intro pins s σ H Q I hw;obtain⟨S,τ,hs,hw⟩:=hw;refine isTrue_plain (JG (h pins s σ H (fun v H'=>∃d,iL H H'/\IB X.K (nw S H) H' v d/\IA (iX d) fun b=>∀H',iL H H'->Q b H') I ⟨S,τ,hs,(IA.Iq hw).mono fun d hd v H' e m=>⟨d,e,m,hd⟩⟩) fun v s1 ⟨x,H1,I1,r1,d,e,m,hd⟩=>?_) (he _);exact nr I1 r1 m (hd.mono fun b z=>z H1 e)
end
section
variable {Z:Sg}{CX:KJ}{cl:Nat->List D->Res D}{X:Cx}{G:Gm}{K:Frag}{S:Ω->Prop}{H H1:Hp}{σ:St}{τ:Ev}
theorem iZ (e:iL H H1)(hs:Slots K S H σ τ is)(h:IA (f τ) Kt)(k:∀x v H2,iL H H2->iL H1 H2->IB K (nw S H) H2 v x->Kt x->Q v H2):RD K is f σ H1 Q:=
 ⟨nw S H,τ,hs.go e,h.mono fun x hx v H2 e2 m=>k x v H2 (e.trans e2) e2 (m.mono (pJ e) (.refl _)) hx⟩
theorem lL (e:iL H H1)(hs:Slots K S H σ τ is)(h:IA (f τ) Kt)(k:∀x H2,iL H H2->iL H1 H2->Kt x->Q x H2):RT K is f σ H1 Q:=
 ⟨nw S H,τ,hs.go e,h.mono fun x hx H2 e2=>k x H2 (e.trans e2) e2 hx⟩
theorem rp (e:iL H H1)(hs:Slots K S H σ τ is)(h:IA (f τ) Kt)(k:∀x v H2,iL H H2->iL H1 H2->Iz K (nw S H) H2 v x->Kt x->Q v H2):RA K is f σ H1 Q:=
 ⟨nw S H,τ,hs.go e,h.mono fun x hx v H2 e2 m=>k x v H2 (e.trans e2) e2 (m.mono (pJ e) (.refl _)) hx⟩
theorem A5 (e:iL H H1)(hs:Slots K S H σ τ is)(h:IA (f τ) Kt)(k:∀x H2,iL H H2->iL H1 H2->Kt x->Q x H2):Ql K is f σ H1 Q:=
 ⟨nw S H,τ,hs.go e,h.mono fun x hx H2 e2=>k x H2 (e.trans e2) e2 hx⟩
theorem IB.later (h:IB K (L2.nw S H) H1 v d)(e:iL H1 H2):IB K (L2.nw S H) H2 v d:=h.mono (fun _ z=>z) e
theorem Iz.later (h:Iz K (L2.nw S H) H1 v d)(e:iL H1 H2):Iz K (L2.nw S H) H2 v d:=h.mono (fun _ z=>z) e
theorem ZV (g:JY Z CX cl X G)  (h:kA G i x=Θ):PE X (.Name x pos) (RD X.K [i] (IC cl (.v i))):=by
 unfold kA at h;rw[g_]at h;have hx:G.N[i]? = Δ x:=h_ h.1;have hk:=g.kd i x hx;have hv:QE X.env.scope x:=by
  have h2:=h.2;rw[aag,aag]at h2;rcases h2 with(h2|h2)|h2
  ·exact .inl (hk.trans (h_ h2))
  ·exact .inr (.inl (hk.trans (h_ h2)))
  ·exact .inr (.inr (hk.trans (h_ h2)))
 refine iN (v9 (i:=i) (by rw[g.N];exact hx) hv (g.Ob i x hx).1 (g.Ob i x hx).2) fun σ H Q q=>?_;obtain⟨S,τ,hs,q⟩:=q;rw[FV]at q;cases z:iF τ i with
 |none=>rw[z]at q;exact q.no.elim
 |some d=>rw[z]at q;obtain⟨v,h1,h2⟩:=hs i (by simp) d z;exact⟨v,h1,q.ok _ _ (.refl _) h2.nw⟩
theorem ZW (h:FZ d k=Θ):PE X (.Constant k j pos) (RD X.K [] (IC cl (.c d))):=by
 induction d using zD with
 |Jt=>
  cases k with
  |none=>exact iN CZ fun σ H Q q=>xX (fun _ _=>.Jt) q
  |_=>cases h
 |bl b=>
  cases k with
  |bool b'=>have e:b=b':=h_ h;subst e;exact iN Fd fun σ H Q q=>xX (fun _ _=>.bl _) q
  |_=>cases h
 |int b=>
  cases k with
  |int b'=>have e:b=b':=h_ h;subst e;exact iN CY fun σ H Q q=>xX (fun _ _=>.int _) q
  |_=>cases h
 |str b=>
  cases k with
  |str b'=>have e:b=b':=h_ h;subst e;exact iN C0 fun σ H Q q=>xX (fun _ _=>.str _) q
  |_=>cases h
 |tup _=>cases k<;>cases h
 |lst _ _=>cases k<;>cases h
 |Jy o ks ds=>cases k<;>cases h
theorem ZX (g:JY Z CX cl X G)  (h:ou Z G n x=Θ)(hk:Z.Qj.any (fun p=>p.1 == n&&vT p.2 d)=Θ):PE X (.Name x pos) (RD X.K [] (IC cl (.g n d))):=by obtain⟨h1,h2,h3,h4⟩:=xW g h;rw[List.any_eq_true]at hk;obtain⟨⟨m,d'⟩,hm,hk⟩:=hk;rw[g_]at hk;have e1:m=n:=h_ hk.1;have e2:d'=d:=ue hk.2;subst e1 e2;obtain⟨u,v,hu,r,hr⟩:=g.cst m d' x hm h2;exact iN (Ac h1 hu r h4) fun σ H Q q=>xX hr q
theorem F3 (ha:PE X a (RD X.K va fa))(hb:PE X b (RD X.K vb fb)) :
  PE X (.BinOp a (Oa op) b pos) (RD X.K (va++vb) fun τ=>Iq (fa τ) fun x=>Iq (fb τ) fun y=>KN op x y):=by
 refine iN (wu (DP op) ha hb) fun σ H Q ⟨S,τ,hs,q⟩=>?_;refine iZ (.refl _) hs.left (IA.Iq q) fun x v H1 e1 _ m1 q1=>?_;refine iZ e1 hs.right (IA.Iq q1) fun y w H2 e2 Kh m2 q2=>?_;exact⟨nw S H,x,y,m1.later Kh,m2,q2.mono fun d hd=>hd.fit e2⟩
theorem F4 (ha:PE X a (RD X.K va fa)) :
  PE X (.UnaryOp .USub a pos) (RD X.K va fun τ=>Iq (fa τ) fun|.int i=>.ok (.int (-i))|_=>Jw):=by
 refine iN (Fp Dh ha) fun σ H Q ⟨S,τ,hs,q⟩=>?_;refine iZ (.refl _) hs (IA.Iq q) fun x v H1 e1 _ m1 q1=>?_
 induction x using zD with
 |int i=>cases m1.JE;exact⟨i,rfl,q1.ok _ _ e1 (.int _)⟩
 |_=>exact q1.no.elim
theorem F5 (g:JY Z CX cl X G)  (ha:PE X a (RD X.K va fa))(hb:PE X b (RD X.K vb fb))(hm:behindInMarks (LL op) b=Ξ) :
  PE X (.Compare a [LL op] [b] pos) (RD X.K (va++vb) fun τ=>Iq (fa τ) fun x=>Iq (fb τ) fun y=>Iq (Kg op x y) fun r=>.ok (.bl r))/\
  PT X (.Compare a [LL op] [b] pos) (RT X.K (va++vb) fun τ=>Iq (Iq (fa τ) fun x=>Iq (fb τ) fun y=>Iq (Kg op x y) fun r=>.ok (.bl r)) iX):=by
 refine⟨iN (Ai (mK g.un op) ha hb hm) fun σ H Q ⟨S,τ,hs,q⟩=>?_,nH (Aj (mK g.un op) ha hb hm) fun σ H Q ⟨S,τ,hs,q⟩=>?_⟩
 ·refine iZ (.refl _) hs.left (IA.Iq q) fun x v H1 e1 _ m1 q1=>?_;refine iZ e1 hs.right (IA.Iq q1) fun y w H2 e2 Kh m2 q2=>?_;exact⟨nw S H,x,y,m1.later Kh,m2,(IA.Iq q2).mono fun d hd=>hd.ok _ _ e2 (.bl _)⟩
 ·refine iZ (.refl _) hs.left (IA.Iq (IA.Iq q)) fun x v H1 e1 _ m1 q1=>?_;refine iZ e1 hs.right (IA.Iq q1) fun y w H2 e2 Kh m2 q2=>?_;exact⟨nw S H,x,y,m1.later Kh,m2,(IA.Iq q2).mono fun d hd=>⟨d,rfl,hd.ok.ok H2 e2⟩⟩
theorem A6 (g:JY Z CX cl X G)  (ha:PE X a (RD X.K va fa))(hb:PE X b (RD X.K vb fb))(hc:PE X c (RD X.K vc fc))
  (hm:lastMarks [LL op,LL J9] [b,c]=Ξ) :
  PE X (.Compare a [LL op,LL J9] [b,c] pos) (RD X.K (va++vb++vc) fun τ=>Iq (fa τ) fun x=>Iq (fb τ) fun y=>Iq (Kg op x y) fun r=>if r=Θ then Iq (fc τ) fun z=>Iq (Kg J9 y z) fun r'=>.ok (.bl r') else .ok (.bl Ξ))/\
  PT X (.Compare a [LL op,LL J9] [b,c] pos) (RT X.K (va++vb++vc) fun τ=>Iq (Iq (fa τ) fun x=>Iq (fb τ) fun y=>Iq (Kg op x y) fun r=>if r=Θ then Iq (fc τ) fun z=>Iq (Kg J9 y z) fun r'=>.ok (.bl r') else .ok (.bl Ξ)) iX):=by
 refine⟨iN (wz (mK g.un op) (mK g.un J9) ha hb hc hm) fun σ H Q ⟨S,τ,hs,q⟩=>?_,nH (wA (mK g.un op) (mK g.un J9) ha hb hc hm) fun σ H Q ⟨S,τ,hs,q⟩=>?_⟩
 ·refine iZ (.refl _) hs.left.left (IA.Iq q) fun x v H1 e1 _ m1 q1=>?_;refine iZ e1 hs.left.right (IA.Iq q1) fun y w H2 e2 Kh m2 q2=>?_;refine⟨nw S H,x,y,m1.later Kh,m2,(IA.Iq q2).mono fun d hd=>⟨d,rfl,?_⟩⟩;cases d with
  |false=>rw[d_ n_]at hd ⊢;exact hd.ok _ _ e2 (.bl _)
  |true=>rw[e_ rfl]at hd ⊢;refine iZ e2 hs.right (IA.Iq hd) fun z w' H3 e3 NG m3 q3=>?_;exact⟨nw S H,y,z,m2.later NG,m3,(IA.Iq q3).mono fun d hd=>hd.ok _ _ e3 (.bl _)⟩
 ·refine iZ (.refl _) hs.left.left (IA.Iq (IA.Iq q)) fun x v H1 e1 _ m1 q1=>?_;refine iZ e1 hs.left.right (IA.Iq q1) fun y w H2 e2 Kh m2 q2=>?_;refine⟨nw S H,x,y,m1.later Kh,m2,(IA.Iq q2).mono fun d hd=>⟨d,rfl,?_⟩⟩;cases d with
  |false=>rw[d_ n_]at hd ⊢;exact⟨Ξ,rfl,hd.ok.ok _ e2⟩
  |true=>rw[e_ rfl]at hd ⊢;refine iZ e2 hs.right (IA.Iq hd) fun z w' H3 e3 NG m3 q3=>?_;exact⟨nw S H,y,z,m2.later NG,m3,(IA.Iq q3).mono fun d hd=>⟨d,rfl,hd.ok.ok _ e3⟩⟩
theorem Cc {a b:Expr}{rest:List Expr}{pos:Pos}{va vb:List Nat}{fa fb:Ev->Res D}(ha:PE X a (RD X.K va fa))(hb:PE X (.BoolOp .And (b::rest) pos) (RD X.K vb fb)) :
  PE X (.BoolOp .And (a::b::rest) pos) (RD X.K (va++vb) fun τ=>Iq (fa τ) fun x=>Iq (iX x) fun r=>if r=Θ then fb τ else .ok x):=by
 intro pins s σ H Q I h;obtain⟨S,τ,hs,q⟩:=h;refine BoolOp_and (JG (ha pins s σ H (fun v H'=>∃d,iL H H'/\IB X.K (nw S H) H' v d/\_) I (iZ (.refl _) hs.left (IA.Iq q) fun x v H1 e1 _ m1 q1=>⟨x,e1,m1,q1⟩)) fun v s1 ⟨x,H1,I1,r1,d,e1,m1,q1⟩=>?_);refine JG (nr (Q:=fun b H'=>H'=H1/\IA (if b=Θ then fb τ else .ok d) (Kk X.K S H Q)) I1 r1 m1 ((IA.Iq q1).mono fun b z=>⟨rfl,z⟩)) fun c s2 ⟨H2,I2,e2,q2⟩=>?_;subst e2;cases c with
 |true=>rw[e_ rfl]at q2 ⊢;exact hb pins s2 σ _ Q I2 (iZ e1 hs.right q2 fun y w H3 e3 _ m3 q3=>q3 _ _ e3 m3)
 |false=>rw[d_ n_]at q2 ⊢;exact⟨x,_,I2,r1,q2.ok _ _ e1 m1⟩
theorem F6 {a b:Expr}{rest:List Expr}{pos:Pos}{va vb:List Nat}{fa fb:Ev->Res D}(ha:PE X a (RD X.K va fa))(hb:PE X (.BoolOp .Or (b::rest) pos) (RD X.K vb fb)) :
  PE X (.BoolOp .Or (a::b::rest) pos) (RD X.K (va++vb) fun τ=>Iq (fa τ) fun x=>Iq (iX x) fun r=>if r=Θ then .ok x else fb τ):=by
 intro pins s σ H Q I h;obtain⟨S,τ,hs,q⟩:=h;refine BoolOp_or (JG (ha pins s σ H (fun v H'=>∃d,iL H H'/\IB X.K (nw S H) H' v d/\_) I (iZ (.refl _) hs.left (IA.Iq q) fun x v H1 e1 _ m1 q1=>⟨x,e1,m1,q1⟩)) fun v s1 ⟨x,H1,I1,r1,d,e1,m1,q1⟩=>?_);refine JG (nr (Q:=fun b H'=>H'=H1/\IA (if b=Θ then .ok d else fb τ) (Kk X.K S H Q)) I1 r1 m1 ((IA.Iq q1).mono fun b z=>⟨rfl,z⟩)) fun c s2 ⟨H2,I2,e2,q2⟩=>?_;subst e2;cases c with
 |false=>rw[d_ n_]at q2 ⊢;exact hb pins s2 σ _ Q I2 (iZ e1 hs.right q2 fun y w H3 e3 _ m3 q3=>q3 _ _ e3 m3)
 |true=>rw[e_ rfl]at q2 ⊢;exact⟨x,_,I2,r1,q2.ok _ _ e1 m1⟩
theorem F7 (ha:PE X a (RD X.K va fa))(ht:PT X a (RT X.K va fun τ=>Iq (fa τ) iX)) :
  PE X (.UnaryOp .Not a pos) (RD X.K va fun τ=>Iq (fa τ) fun x=>Iq (iX x) fun r=>.ok (.bl !r))/\PT X (.UnaryOp .Not a pos) (RT X.K va fun τ=>Iq (Iq (fa τ) fun x=>Iq (iX x) fun r=>.ok (.bl !r)) iX):=by
 constructor
 ·intro pins s σ H Q I h;obtain⟨S,τ,hs,q⟩:=h;refine UnaryOp_ (JG (ha pins s σ H (fun v H'=>∃d,iL H H'/\IB X.K (nw S H) H' v d/\_) I (iZ (.refl _) hs (IA.Iq q) fun x v H1 e1 _ m1 q1=>⟨x,e1,m1,q1⟩)) fun v s1 ⟨x,H1,I1,r1,d,e1,m1,q1⟩=>?_);refine not_of (JG (nr (Q:=fun b H'=>Q (.bl !b) H') I1 r1 m1 ((IA.Iq q1).mono fun b z=>z.ok _ _ e1 (.bl _))) fun c s2 ⟨H2,I2,q2⟩=>⟨.bl !c,H2,I2,rfl,q2⟩)
 ·refine nH (C5 ht) fun σ H Q ⟨S,τ,hs,q⟩=>?_;exact lL (.refl _) hs (IA.mk ((IA.Iq (IA.Iq q)).mono fun x hx=>(IA.Iq hx).mono fun r hr=>hr.ok.ok)) fun x H2 e2 _ k=>k H2 e2
theorem xY {e:Expr}{pos:Pos}{op:BoolOp}{es:List Expr}{t:TT}(h:PT X (.BoolOp op es pos) t):PW X (.BoolOp op es pos) t:=fun _ pins s σ H Q I q=>h pins s σ H Q I q
theorem Cd {a b:Expr}{rest:List Expr}{pos:Pos}{va vb:List Nat}{fa fb:Ev->Res D}(ha:PT X a (RT X.K va fun τ=>Iq (fa τ) iX))(hb:PW X (.BoolOp .And (b::rest) pos) (RT X.K vb fun τ=>Iq (fb τ) iX)) :
  PT X (.BoolOp .And (a::b::rest) pos) (RT X.K (va++vb) fun τ=>Iq (Iq (fa τ) fun x=>Iq (iX x) fun r=>if r=Θ then fb τ else .ok x) iX):=by
 refine nH (C4 ha hb).pt fun σ H Q ⟨S,τ,hs,q⟩=>?_;refine lL (.refl _) hs.left (Kt:=fun r=>IA (if r=Θ then Iq (fb τ) iX else .ok Ξ) fun b=>∀H',iL H H'->Q b H') (IA.mk ((IA.Iq (IA.Iq q)).mono fun x hx=>(IA.Iq hx).eq.mono fun r hr=>?_)) fun r H2 e2 _ k=>?_
 ·obtain⟨er,hr⟩:=hr;cases r with
  |true=>rw[e_ rfl]at hr ⊢;exact IA.mk hr
  |false=>rw[d_ n_]at hr ⊢;have N':IA (iX x) _:=hr;rw[er]at N';exact N'
 ·cases r with
  |true=>rw[e_ rfl]at k ⊢;exact lL e2 hs.right k fun b H3 e3 _ z=>z H3 e3
  |false=>rw[d_ n_]at k ⊢;exact k.ok H2 e2
theorem F8 {a b:Expr}{rest:List Expr}{pos:Pos}{va vb:List Nat}{fa fb:Ev->Res D}(ha:PT X a (RT X.K va fun τ=>Iq (fa τ) iX))(hb:PW X (.BoolOp .Or (b::rest) pos) (RT X.K vb fun τ=>Iq (fb τ) iX)) :
  PT X (.BoolOp .Or (a::b::rest) pos) (RT X.K (va++vb) fun τ=>Iq (Iq (fa τ) fun x=>Iq (iX x) fun r=>if r=Θ then .ok x else fb τ) iX):=by
 refine nH (Ff ha hb).pt fun σ H Q ⟨S,τ,hs,q⟩=>?_;refine lL (.refl _) hs.left (Kt:=fun r=>IA (if r=Θ then .ok Θ else Iq (fb τ) iX) fun b=>∀H',iL H H'->Q b H') (IA.mk ((IA.Iq (IA.Iq q)).mono fun x hx=>(IA.Iq hx).eq.mono fun r hr=>?_)) fun r H2 e2 _ k=>?_
 ·obtain⟨er,hr⟩:=hr;cases r with
  |false=>rw[d_ n_]at hr ⊢;exact IA.mk hr
  |true=>rw[e_ rfl]at hr ⊢;have N':IA (iX x) _:=hr;rw[er]at N';exact N'
 ·cases r with
  |false=>rw[d_ n_]at k ⊢;exact lL e2 hs.right k fun b H3 e3 _ z=>z H3 e3
  |true=>rw[e_ rfl]at k ⊢;exact k.ok H2 e2
theorem F9 {c a b:Expr}{pos:Pos}{vc va vb:List Nat}{fc fa fb:Ev->Res D}(hc:PT X c (RT X.K vc fun τ=>Iq (fc τ) iX))(ha:PE X a (RD X.K va fa))(hb:PE X b (RD X.K vb fb))
  (ta:PT X a (RT X.K va fun τ=>Iq (fa τ) iX)) (tb:PT X b (RT X.K vb fun τ=>Iq (fb τ) iX)) :
  PE X (.IfExp c a b pos) (RD X.K (vc++va++vb) fun τ=>Iq (fc τ) fun x=>Iq (iX x) fun r=>if r=Θ then fa τ else fb τ)/\
  PT X (.IfExp c a b pos) (RT X.K (vc++va++vb) fun τ=>Iq (Iq (fc τ) fun x=>Iq (iX x) fun r=>if r=Θ then fa τ else fb τ) iX):=by
 constructor
 ·refine iN (qD hc ha hb) fun σ H Q ⟨S,τ,hs,q⟩=>?_;refine lL (.refl _) hs.left.left (IA.mk ((IA.Iq q).mono fun x hx=>IA.Iq hx)) fun r H2 e2 _ k=>?_;cases r with
  |true=>rw[e_ rfl]at k ⊢;exact iZ e2 hs.left.right k fun y w H3 e3 _ m3 q3=>q3 _ _ e3 m3
  |false=>rw[d_ n_]at k ⊢;exact iZ e2 hs.right k fun y w H3 e3 _ m3 q3=>q3 _ _ e3 m3
 ·intro pins s σ H Q I h;obtain⟨S,τ,hs,q⟩:=h
  refine isTrue_IfExp (JG (hc pins s σ H (fun r H2=>iL H H2/\IA (if r=Θ then fa τ else fb τ) fun d=>IA (iX d) fun b=>∀H',iL H H'->Q b H') I
   (lL (.refl _) hs.left.left (IA.mk ((IA.Iq (IA.Iq q)).mono fun x hx=>IA.Iq hx)) fun r H2 e2 _ k=>⟨e2,k⟩)) fun d s1 ⟨H1,I1,e1,q1⟩=>?_)
  cases d with
  |true=>rw[e_ rfl]at q1;exact ta pins s1 σ H1 Q I1 (lL e1 hs.left.right (IA.mk q1) fun b H3 e3 _ z=>z H3 e3)
  |false=>rw[d_ n_]at q1;exact tb pins s1 σ H1 Q I1 (lL e1 hs.right (IA.mk q1) fun b H3 e3 _ z=>z H3 e3)
theorem Ga (h:PA X es (RA X.K va fa)):PE X (.Tuple es n pos) (RD X.K va fun τ=>Iq (fa τ) fun ds=>IE (jo ds.length) (.ok (.tup ds))):=by refine iN (wF h) fun σ H Q ⟨S,τ,hs,q⟩=>?_;refine rp (.refl _) hs (IA.Iq q) fun ds vs H1 e1 _ m1 q1=>?_;obtain⟨g,q1⟩:=IA.IE q1;exact⟨by rw[m1.length];exact jv g,fun p hp=>q1.ok _ _ (e1.trans (.upd hp)) ((DO hp m1).mono (pJ e1) (.refl _))⟩
theorem Gb (h:PA X es (RA X.K va fa)):PE X (.List es pos) (RD X.K va fun τ=>Iq (fa τ) fun ds=>IE (jo ds.length) (.ok (.lst Θ ds))):=by refine iN (wG h) fun σ H Q ⟨S,τ,hs,q⟩=>?_;refine rp (.refl _) hs (IA.Iq q) fun ds vs H1 e1 _ m1 q1=>?_;obtain⟨g,q1⟩:=IA.IE q1;exact⟨by rw[m1.length];exact jv g,fun p hp=>q1.ok _ _ (e1.trans (.upd hp)) ((sL hp m1).mono (pJ e1) (.refl _))⟩
theorem Gd (ha:PE X a (RD X.K va fa))(hb:PE X b (RD X.K vb fb))(hp:jk b=Θ) :
  PE X (.Subscript a b pos) (RD X.K (va++vb) fun τ=>Iq (fa τ) fun x=>Iq (fb τ) fun y=>iQ x y):=by
 refine iN (B7 (AW) ha hb fun o i=>by cases b<;>first|rfl|cases hp) fun σ H Q ⟨S,τ,hs,q⟩=>?_;refine iZ (.refl _) hs.left (IA.Iq q) fun x v H1 e1 _ m1 q1=>?_;refine iZ e1 hs.right (IA.Iq q1) fun y w H2 e2 Kh m2 q2=>?_;exact⟨nw S H,x,y,m1.later Kh,m2,q2.mono fun d hd=>hd.fit e2⟩
theorem HS {a:Expr}{lo hi:Option Expr}{pos p2:Pos}{va vl vh:List Nat}{fa:Ev->Res D}{fl fh:Ev->Res (Option Int)}(ha:PE X a (RD X.K va fa))(hl:PO X lo (Ql X.K vl fl))(hh:PO X hi (Ql X.K vh fh)) :
  PE X (.Subscript a (.Slice lo hi Φ p2) pos) (RD X.K (va++vl++vh) fun τ=>Iq (fa τ) fun x=>Iq (fl τ) fun l=>Iq (fh τ) fun h=>qW x l h):=by
 refine iN (qF (AX) ha hl hh) fun σ H Q ⟨S,τ,hs,q⟩=>?_;refine iZ (.refl _) hs.left.left (IA.Iq q) fun x v H1 e1 _ m1 q1=>?_;refine A5 e1 hs.left.right (IA.Iq q1) fun l H2 e2 Kh q2=>?_;refine A5 e2 hs.right (IA.Iq q2) fun h H3 e3 NG q3=>?_;exact⟨nw S H,x,m1.later (Kh.trans NG),q3.mono fun d hd=>hd.fit e3⟩
theorem s_call (g:JY Z CX cl X G)  (h1:ou Z G f x=Θ)(h2:Z.OC G f=Θ)(Ke:ju Z G es args=Θ)(h:PA X args (RA X.K (iR es) (jy cl es))) :
  PE X (.Call (.Name x p) args [] pos) (RD X.K (iR es) fun τ=>Iq (jy cl es τ) fun ds=>cl f (Jv ds)):=by
 obtain⟨k1,k2,k3,k4⟩:=xW g h1;obtain⟨k,U5,fd,ps,hm,Oe,hb,F,hr,hlen⟩:=(g.fns f (qc h2).1 (qc h2).2 x k2).ex;obtain⟨E,hP⟩:=g.U3;intro pins s σ H Q I q;obtain⟨S,τ,hs,q⟩:=q;have fin:∀(us:List Ψ) (s1:Α) (vs:List V) (H1:Hp) (ds:List D),Inv X pins σ H1 s1->Vals vs us->iL H H1->Iz X.K (nw S H) H1 vs ds->IA (cl f (Jv ds)) (Kk X.K S H Q)->Κ (Μ X.prog X.w) X.A (call (.ref U5) us) (EP X pins σ Q) X.xe s1:=by
  intro us s1 vs H1 ds I1 r e m q1;have hl:=hlen _ _ q1;rw[kH]at hl;refine uh F hr hb hP g.Pl I1 r (by rw[m.length];exact hl) (Fc:=fun a=>nw S H a/\H1 a≠Φ) (fun a z=>z.2) m.L3 ?_;cases z:cl f (Jv ds) with
  |error er=>rw[z]at q1;cases er;exact q1.no.elim
  |ok d=>
   rw[z]at q1;intro v H' F' fv o;refine q1.ok _ _ (e.trans o.same) (o.rep.read (fun a ha=>?_) fun a ha=>?_)
   ·rcases o.out a ha with z|z
    ·exact z.1
    ·exact .inr (e.free z)
   ·exact .inr (e.free (o.new a ha))
 refine wpAny_Call_Name_kw (pS I k1 hm ?_ k4);cases args with
 |nil=>
  cases es with
  |cons _ _=>cases Ke
  |nil=>exact PySem.W.callWith_K0 I.LX Oe (fin [] s [] H [] I .nil (.refl _) .nil q)
 |cons e l=>
  cases es with
  |nil=>cases Ke
  |cons a es=>have JW:(notStar e&&Ju Z G a e&&ju Z G es l)=Θ:=Ke;simp only[g_]at JW;refine PySem.W.callWith_K (h₀:=X.base) I.ok.mod.SD Oe (JG (h pos pins s σ H (fun vs H1=>∃ds,iL H H1/\Iz X.K (nw S H) H1 vs ds/\IA (cl f (Jv ds)) (Kk X.K S H Q)) I ⟨S,τ,hs,(IA.Iq q).mono fun ds hd vs H1 e m=>⟨ds,e,m,hd⟩⟩) fun us s1 ⟨vs,H1,I1,r,ds,e,m,q1⟩=>⟨I1.LX,?_⟩) (iC JW.1.1 l X.env) (jP Z G (es:=es) pos X.env JW.2);exact fin us s1 vs H1 ds I1 r e m q1
theorem HU (g:JY Z CX cl X G)  (hg:G.LM (pI f)=Θ)(Ke:ju Z G es (a::args)=Θ)(h:PA X (a::args) (RA X.K (iR es) (jy cl es))) :
  PE X (.Call (.Name (kJ f) p) (a::args) [] pos) (RD X.K (iR es) fun τ=>Iq (jy cl es τ) fun ds=>jW f ds):=by
 obtain⟨k1,k2,k3,k4⟩:=km g (xS f) (om hg);cases es with
 |nil=>cases Ke
 |cons b es=>
  have JW:(notStar a&&Ju Z G b a&&ju Z G es args)=Θ:=Ke;simp only[g_]at JW;have mono:∀σ H Q,RD X.K (iR (b::es)) (fun τ=>Iq (jy cl (b::es) τ) fun ds=>jW f ds) σ H Q->Ud (Xn X.K f) (RA X.K (iR (b::es)) (jy cl (b::es))) σ H Q:=by rintro σ H Q ⟨S,τ,hs,q⟩;refine rp (.refl _) hs (IA.Iq q) fun ds vs H1 e1 _ m1 q1=>?_;exact⟨nw S H,ds,m1,q1.mono fun d hd=>hd.fit e1⟩
  refine iN ?_ mono;have hv:=uc f;have hc:=AY (X:=X) (g.calm (oq hg)) f;unfold xH at hv hc;cases z:FX f with
  |true=>rw[z,e_ rfl]at hv hc;exact mB hc k1 k2 hv h k3 k4 (iC JW.1.1 args X.env) (jP Z G (es:=es) pos X.env JW.2)
  |false=>rw[z,d_ n_]at hv hc;exact nG hc k1 k2 hv h k3 k4 (iC JW.1.1 args X.env) (jP Z G (es:=es) pos X.env JW.2)
noncomputable def U6:Kd->V
 |.str=>.ty "str" |.int=>.ty "int" |.bool=>.ty "bool" |.list=>.ty "list" |.tuple=>.ty "tuple"
theorem ui (k:Kd):RelV (U6 k) (xJ k):=by cases k<;>rfl
theorem xZ (k:Kd):jD X (.builtin "isinstance") (fun xs H Q=>∃S x d,xs=[x,U6 k]/\IB X.K S H x d/\mJ d=Θ/\Q (.bl (jl k d)) H):=by
 intro pins s σ H xs us Q I r h;obtain⟨S,x,d,rfl,m,hn,q⟩:=h;obtain⟨u,w',rfl,r1,r2⟩:=vals2 r;have e:w'=xJ k:=by have:=r2.abs;have h2:=(ui k).abs;cases k<;>(revert r2;intro r2;exact r2)
 subst e;exact A4 I r1 m k hn q
theorem Ge (g:JY Z CX cl X G)  (hg:G.gl.contains 14=Θ)(hk:G.gl.contains (ud k)=Θ)(hn:notStar e=Θ)(ha:PE X e (RD X.K va fa)) :
  PE X (.Call (.Name "isinstance" p) [e,.Name (lJ k) p'] [] pos) (RD X.K va fun τ=>Iq (fa τ) fun x=>IE (mJ x) (.ok (.bl (jl k x)))):=by
 obtain⟨k1,k2,k3,k4⟩:=km g (show jm[14]? = Δ ("isinstance" : Str) from rfl) hg;obtain⟨j1,j2,j3,j4⟩:=km g (DU k) hk;have pa:PA X [e,.Name (lJ k) p'] (o9 (RD X.K va fa) (o9 (tC (U6 k)) wD)):=jn ha (jn (Ad j1 j2 (AZ k) (ui k) j3 j4) jO rfl) (iC hn _ _);refine iN (nG (xZ k) k1 k2 PyProof.Rows.boot_isinstance pa k3 k4 (iC hn _ _) rfl) fun σ H Q ⟨S,τ,hs,q⟩=>?_;refine iZ (.refl _) hs (IA.Iq q) fun x v H1 e1 _ m1 q1=>?_;obtain⟨gd,q1⟩:=IA.IE q1;exact⟨nw S H,v,x,rfl,m1,gd,q1.ok _ _ e1 (.bl _)⟩
theorem D0 (g:JY Z CX cl X G)  (h1:G.gl.contains 4=Θ)(h2:G.gl.contains 12=Θ)(hn:notStar e=Θ)(OF:G.cm=Θ)(ha:PE X e (RD X.K va fa)) :
  PE X (.Call (.Name "sorted" p) [.Call (.Name "set" p') [e] [] pos'] [] pos) (RD X.K va fun τ=>Iq (fa τ) ra):=by
 obtain⟨k1,k2,k3,k4⟩:=km g (show jm[4]? = Δ ("sorted" : Str) from rfl) h1;obtain⟨j1,j2,j3,j4⟩:=km g (show jm[12]? = Δ ("set" : Str) from rfl) h2;have cc:=vM (g.calm OF);have cs:=p5 (g.calm OF);have i1:=mB (p:=p') (pos:=pos') cc j1 j2 (by decide +kernel) (jn ha jO (iC hn _ _)) (by decide) (by decide) (iC hn _ _) rfl;have i2:=nG (p:=p) (pos:=pos) cs k1 k2 (by decide +kernel) (jn i1 jO rfl) (by decide) (by decide) rfl rfl;refine iN i2 fun σ H Q ⟨S,τ,hs,q⟩=>?_;refine iZ (.refl _) hs (IA.Iq q) fun d v H1 e1 _ m1 q1=>?_
 induction d using zD with
 |lst o ds=>
  obtain⟨a,ys,rfl,qq,m⟩:=m1.J1;have q2:IA (match jB ds with|some ns=>IE (decide (ns.length < 64)) (.ok (.lst Θ ((PySem.W.sortI (dd ns)).map .int)))|none=>Jw) (Kk X.K S H Q):=q1;cases z:jB ds with
  |none=>rw[z]at q2;exact q2.no.elim
  |some ns=>rw[z]at q2;obtain⟨gd,q3⟩:=IA.IE q2;have LS:ns.length < 64:=q_ gd;rw[kI z]at m;rw[m.ints]at qq;refine⟨a,ns,rfl,qq,LS,fun a' o' Rw MJ=>⟨a',o',dd ns,rfl,iM,MJ,Nat.lt_of_le_of_lt (xw ns) LS,fun l hl=>?_⟩⟩;have S3:H1 l=Φ:=(iL.upd Rw).free hl;exact q3.ok _ _ ((e1.trans (.upd Rw)).trans (.upd hl)) (.lst (.inr (e1.free S3)) (.inl iM) (Iz.ofInts _))
 |_=>exact q1.no.elim
theorem sP (h:lF d=Θ):∃x,d=.str x:=by
 induction d using zD<;>first|exact⟨_,rfl⟩|cases h
theorem Gf (g:JY Z CX cl X G)  (hn:ot o=Θ)(hl:(apos.endLine == IF.line)=Θ)(hlen:(a::args).length < 29)(OF:(G.cm||sN m)=Θ)
  (Ke:ju Z G es (a::args)=Θ) (ho:PE X o (RD X.K vo fo)) (h:PA X (a::args) (RA X.K (iR es) (jy cl es))) :
  PE X (.Call (.Attribute o (n9 m) apos) (a::args) [] IF) (RD X.K (vo++iR es) fun τ=>Iq (fo τ) fun x=>IE (lF x) (Iq (jy cl es τ) fun ds=>nZ m x ds)):=by
 cases es with
 |nil=>cases Ke
 |cons b es=>
  have JW:(notStar a&&Ju Z G b a&&ju Z G es args)=Θ:=Ke;simp only[g_]at JW;have star:=jP Z G (es:=es) IF X.env JW.2;have mono:∀σ H Q,RD X.K (vo++iR (b::es)) (fun τ=>Iq (fo τ) fun x=>IE (lF x) (Iq (jy cl (b::es) τ) fun ds=>nZ m x ds)) σ H Q->WM X.K "str" (Xo X.K m) (RD X.K vo fo) (RA X.K (iR (b::es)) (jy cl (b::es))) σ H Q:=by rintro σ H Q ⟨S,τ,hs,q⟩;refine iZ (.refl _) hs.left (IA.Iq q) fun x v H1 e1 _ m1 q1=>?_;obtain⟨gd,q1⟩:=IA.IE q1;obtain⟨z,rfl⟩:=sP gd;cases m1.JV;refine⟨rfl,rp e1 hs.right (IA.Iq q1) fun ds vs H2 e2 Kh m2 q2=>?_⟩;exact⟨nw S H,.str z,ds,.str z,m2,q2.mono fun d hd=>hd.fit e2⟩
  have Lc:attributeBase o (n9 m) X.env (eval o X.env)=eval o X.env:=by
   induction o using zE with
   |Call f args K6 pos=>
    cases args with
    |nil=>
     cases K6 with
     |nil=>cases hn
     |cons _ _=>cases f<;>rfl
    |cons _ _=>cases f<;>rfl
   |_=>rfl
  have U7:(backTo IF (Ν (a::args) X.env)).all (fun x=>!x.1)=Θ:=by rw[iC JW.1.1];show(Θ&&(backTo IF (Ν args X.env)).all (fun x=>!x.1))=Θ;rw[Bool.true_and,R_];intro y hy;have:=List.any_eq_false.mp star y hy;simpa using this
  have Ld:((backTo IF (Ν (a::args) X.env)).all (fun x=>!x.1)&&(backToKw IF (keywordEach [] X.env)).all (fun x=>x.1.isSome)&&decide ((a::args).length+([]:List Keyword).length+(if([]:List Keyword).isEmpty then 0 else 1) < 30))=Θ:=by rw[U7];have:decide ((a::args).length+([]:List Keyword).length+(if([]:List Keyword).isEmpty then 0 else 1) < 30)=Θ:=G_ (by simp at hlen ⊢;omega);rw[this];rfl
  refine iN ?_ mono;cases m with
  |join=>exact pw PySem.F.plainAttrs_str PySem.F.slot_str_join PySem.F.type_str_join (qb .join fun z=>by cases z) ho h Lc Ld hl (iC JW.1.1 args X.env) star
  |index=>exact pw PySem.F.plainAttrs_str PySem.F.slot_str_index PySem.F.type_str_index (qb .index fun _=>g.calm (by rw[aag]at OF;exact OF.elim id fun z=>by cases z)) ho h Lc Ld hl (iC JW.1.1 args X.env) star
  |starts=>exact pw PySem.F.plainAttrs_str PySem.F.slot_str_startswith PySem.F.type_str_startswith (qb .starts fun z=>by cases z) ho h Lc Ld hl (iC JW.1.1 args X.env) star
end
section
variable {Z:Sg}{CX:KJ}{cl:Nat->List D->Res D}{X:Cx}{G:Gm}
theorem qe {K:Frag}{S:Ω->Prop}{H:Hp}{w:V}{y:D}{q:Key}(m:IB K S H w y)(h:m8 y=Δ q):w=kV q:=by
 induction y using zD with
 |int i=>cases h;cases m.JE;rfl
 |str x=>cases h;cases m.JV;rfl
 |_=>cases h
theorem rq {K:Frag}{S:Ω->Prop}{H:Hp}(q:Key):∀(kvs:List (Key×V)) (ds:List D),Iz K S H (kvs.map (·.2)) ds->
  (∀d,look (kvs.map (·.1)) ds q=Δ d->∃v,lp kvs q=Δ v/\IB K S H v d)/\(look (kvs.map (·.1)) ds q).isSome=(lp kvs q).isSome:=by
 intro kvs
 induction kvs with
 |nil=>intro ds _;exact⟨fun d h=>(by cases h),rfl⟩
 |cons p kvs ih=>
  intro ds m;rw[b_]at m;cases ds with
  |nil=>exact absurd m.length (by simp)
  |cons d ds=>
   cases m with
   |cons m1 m2=>
    obtain⟨i1,i2⟩:=ih ds m2;have e1:look ((p::kvs).map (·.1)) (d::ds) q=if p.1=q then Δ d else look (kvs.map (·.1)) ds q:=rfl
    rw[e1];unfold lp at i1 i2 ⊢;rw[List.find?_cons];by_cases h:p.1=q
    ·rw[e_ h,G_ h];exact⟨fun d' z=>⟨p.2,rfl,by cases z;exact m1⟩,rfl⟩
    ·rw[d_ h,S_ h];exact⟨i1,i2⟩
theorem IB.Nn {K:Frag}{S:Ω->Prop}{H:Hp}{v:V}{o:Bool}{ks:List Key}{ds:List D}(h:IB K S H v (.Jy o ks ds)):∃a kvs,v=.ref a/\Rd H a (.dK kvs)/\kvs.map (·.1)=ks/\Iz K S H (kvs.map (·.2)) ds:=by
 cases h with
 |Jy h0 h1 h2 h3=>exact⟨_,_,rfl,h1,h2,h3⟩
theorem D3:PE X (.Dict [] [] pos) (RD X.K [] (IC cl .K3)):=by refine iN qN fun σ H Q ⟨S,τ,hs,q⟩=>fun p hp=>?_;exact q.ok _ _ (.upd hp) (.Jy (kvs:=[]) (.inr hp) (.inl iM) rfl .nil)
theorem D4 (g:JY Z CX cl X G)  (ha:PE X a (RD X.K va fa))(hb:PE X b (RD X.K vb fb))(hp:jk b=Θ) :
  PE X (.Subscript a b pos) (RD X.K (va++vb) fun τ=>Iq (fa τ) fun x=>Iq (fb τ) fun y=>qZ x y):=by
 have hu:=g.un;refine iN (Aw (by omega) ha hb fun o i=>by cases b<;>first|rfl|cases hp) fun σ H Q ⟨S,τ,hs,q⟩=>?_;refine iZ (.refl _) hs.left (IA.Iq q) fun x v H1 e1 _ m1 q1=>?_;refine iZ e1 hs.right (IA.Iq q1) fun y w H2 e2 Kh m2 q2=>?_
 induction x using zD with
 |Jy o ks ds=>
  have q3:IA (match m8 y with|some q=>(match look ks ds q with|some d=>.ok d|none=>Jw)|none=>Jw) (Kk X.K S H Q):=q2;cases hk:m8 y with
  |none=>rw[hk]at q3;exact q3.no.elim
  |some k=>
   simp only[hk]at q3;obtain⟨p,kvs,rfl,h1,rfl,h3⟩:=(m1.later Kh).Nn;cases hl:look (kvs.map (·.1)) ds k with
   |none=>rw[hl]at q3;exact q3.no.elim
   |some d=>rw[hl]at q3;obtain⟨v,hv,mv⟩:=(rq k kvs ds h3).1 d hl;exact⟨p,v,rfl,.inl ⟨kvs,k,h1,qe m2 hk,hv.symm⟩,q3.ok _ _ e2 mv⟩
 |_=>exact q2.no.elim
end
section
variable {Z:Sg}{CX:KJ}{cl:Nat->List D->Res D}{X:Cx}{G:Gm}
theorem A7 (g:JY Z CX cl X G){o s f:Expr}{apos IF:Pos}{va vb vc:List Nat}{fa fb fc:Ev->Res D}(hn:isNm o=Θ)(hl:(apos.endLine == IF.line)=Θ)(h1:notStar s=Θ)(h2:notStar f=Θ)(ha:PE X o (RD X.K va fa))(hb:PE X s (RD X.K vb fb))(hc:PE X f (RD X.K vc fc)) :
  PE X (.Call (.Attribute o "get" apos) [s,f] [] IF) (RD X.K (va++vb++vc) fun τ=>Iq (fa τ) fun x=>IE (sF x) (Iq (fb τ) fun y=>Iq (fc τ) fun z=>sG x y z)):=by
 have hu:=g.un;have Xr:backTo IF (Ν [s,f] X.env)=[(Ξ,eval s X.env),(Ξ,eval f X.env)]:=by rw[iC h1,iC h2];rfl
 refine iN (wU (by omega) ha hb hc ⟨(by cases o<;>first|rfl|cases hn),(by rw[Xr];rfl),hl,Xr⟩) fun σ H Q ⟨S,τ,hs,q⟩=>?_;refine iZ (.refl _) hs.left.left (IA.Iq q) fun x v H1 e1 _ m1 q1=>?_;obtain⟨gd,q1⟩:=IA.IE q1
 induction x using zD with
 |Jy o ks ds=>
  obtain⟨a,kvs,rfl,rd,_,m⟩:=m1.Nn;refine⟨a,rfl,.inl ⟨kvs,rd⟩,iZ e1 hs.left.right (IA.Iq q1) fun y w H2 e2 Kh m2 q2=>?_⟩;refine iZ e2 hs.right (IA.Iq q2) fun z u H3 e3 NG m3 q3=>?_;have q4:IA (match m8 y with|some q=>.ok ((look ks ds q).getD z)|none=>Jw) (Kk X.K S H Q):=q3;cases hk:m8 y with
  |none=>rw[hk]at q4;exact q4.no.elim
  |some k=>
   simp only[hk]at q4;obtain⟨a',KI,ea,ZY,rfl,m'⟩:=((m1.later Kh).later NG).Nn;cases ea;refine⟨lp KI k,.inl ⟨KI,k,ZY,qe m2 hk,rfl⟩,?_⟩;obtain⟨l1,l2⟩:=rq k KI ds m';cases hl:look (KI.map (·.1)) ds k with
   |none=>
    rw[hl]at q4 l2;have:lp KI k=Φ:=by
     cases zv:lp KI k with
     |none=>rfl
     |some _=>rw[zv]at l2;cases l2
    rw[this];exact q4.ok _ _ e3 m3
   |some d=>rw[hl]at q4;obtain⟨v',Po,Z0⟩:=l1 d hl;rw[Po];exact q4.ok _ _ e3 Z0
 |_=>cases gd
theorem D5 (g:JY Z CX cl X G){o:Expr}{p pos apos IF:Pos}{va:List Nat}{fa:Ev->Res D}(h1:G.LM 4=Θ)(hn:isNm o=Θ)(hl:(apos.endLine == IF.line)=Θ)(ha:PE X o (RD X.K va fa)) :
  PE X (.Call (.Name "sorted" p) [.Call (.Attribute o "items" apos) [] [] IF] [] pos) (RD X.K va fun τ=>Iq (fa τ) qX):=by
 obtain⟨k1,k2,k3,k4⟩:=km g (show jm[4]? = Δ ("sorted" : Str) from rfl) (om h1);refine iN (tY (g.calm (oq h1)) k1 k2 ha (by cases o<;>first|rfl|cases hn) hl) fun σ H Q ⟨S,τ,hs,q⟩=>?_;refine iZ (.refl _) hs (IA.Iq q) fun x v H1 e1 _ m1 q1=>?_
 induction x using zD with
 |Jy o ks ds=>
  obtain⟨a,kvs,rfl,rd,hk,m⟩:=m1.Nn;have q2:IA (match j5 ks with|some xs=>(match jB ds with|some ns=>IE (decide (0 < xs.length/\xs.length < 64)&&decide xs.Nodup) (.ok (.lst Θ ((kG xs).map fun i=>.tup [.str (xs.getD i ⟨#[]⟩),.int (ns.getD i 0)])))|none=>Jw)|none=>Jw) (Kk X.K S H Q):=q1;cases z:j5 ks with
  |none=>rw[z]at q2;exact q2.no.elim
  |some xs=>
   rw[z]at q2;cases z':jB ds with
   |none=>rw[z']at q2;exact q2.no.elim
   |some ns=>rw[z']at q2;obtain⟨gd,q3⟩:=IA.IE q2;rw[g_]at gd;rw[kI z']at m;rw[k6 z]at hk;exact⟨a,kvs,xs,ns,rfl,rd,hk,m.ints,q_ gd.2,q_ gd.1,fun as D H' e hD U8 ln ht=>q3.ok (.ref D) H' (e1.trans e) (.lst (.inr (e1.free hD)) (.inl U8) (mM ln ht _ lY))⟩
 |_=>exact q1.no.elim
end
theorem pK {K:Frag}{S:Ω->Prop}{H:Hp}:∀(vs:List V) (ds:List D),vs.length=ds.length->(∀(k:Nat) v d,vs[k]? = Δ v->ds[k]? = Δ d->IB K S H v d)->Iz K S H vs ds
 |[],[],_,_=>.nil
 |v::vs,d::ds,hl,h=>.cons (h 0 v d rfl rfl) (pK vs ds (by simpa using hl) fun k v d h1 h2=>h (k+1) v d (by rw[aaG];exact h1) (by rw[aaG];exact h2))
 |[],_::_,hl,_=>by cases hl
 |_::_,[],hl,_=>by cases hl
section
variable {Z:Sg}{CX:KJ}{cl:Nat->List D->Res D}{X:Cx}{G:Gm}
theorem uj {K:Frag}{S:Ω->Prop}{H:Hp}{v:V}{x:D}{ds:List D}(h:IB K S H v x)(e:oX x=.ok ds):∃k a xs,v=.ref a/\Mg K H k a xs/\Iz K S H xs ds:=by
 induction x using zD with
 |lst o es=>cases e;obtain⟨a,xs,rfl,q,m⟩:=h.J1;exact⟨.l,a,xs,rfl,q,m⟩
 |tup es=>cases e;obtain⟨a,xs,rfl,q,m⟩:=h.Ka;exact⟨.t,a,xs,rfl,q,m⟩
 |_=>cases e
theorem D6 (g:JY Z CX cl X G)  (h1:G.LM 5=Θ)(h2:G.gl.contains 17=Θ)(hn:notStar a=Θ)(LR:notStar b=Θ)(ha:PE X a (RD X.K va fa))(hb:PE X b (RD X.K vb fb)) :
  PE X (.Call (.Name "list" p) [.Call (.Name "zip" p') [a,b] [] pos'] [] pos) (RD X.K (va++vb) fun τ=>Iq (fa τ) fun x=>Iq (fb τ) fun y=>tZ x y):=by
 obtain⟨k1,k2,k3,k4⟩:=km g (show jm[5]? = Δ ("list" : Str) from rfl) (om h1);obtain⟨j1,j2,j3,j4⟩:=km g (show jm[17]? = Δ ("zip" : Str) from rfl) h2;have s2:Ν [b] X.env=[(Ξ,eval b X.env)]:=iC LR [] X.env;refine iN (Az (g.calm (oq h1)) k1 k2 j1 j2 (jn ha (jn hb jO (iC LR _ _)) (iC hn _ _)) (by rw[iC hn,s2]) s2) fun σ H Q ⟨S,τ,hs,q⟩=>?_;refine iZ (.refl _) hs.left (IA.Iq q) fun x v H1 e1 _ m1 q1=>?_;refine iZ e1 hs.right (IA.Iq q1) fun y w H2 e2 Kh m2 q2=>?_;have q3:=IA.Iq (show IA (Iq (n6 x y) fun ds=>IE (jo ds.length) (.ok (D.lst Θ ds))) (Kk X.K S H Q) from q2);cases hx:oX x with
 |error er=>
  induction x using zD<;>first|(cases hx;done)|(rw[show n6 _ y=Jw from rfl]at q3;exact q3.no.elim)
 |ok ds=>
  cases hy:oX y with
  |error er=>
   have:n6 x y=Jw:=by
    unfold n6;rw[hx,hy]
    induction y using zD<;>first|(cases hy;done)|(cases hy;rfl)
   rw[this]at q3;exact q3.no.elim
  |ok es=>
   have hz:n6 x y=.ok (jT ds es):=by unfold n6;rw[hx,hy];rfl
   rw[hz]at q3;obtain⟨gd,q4⟩:=IA.IE q3.ok;obtain⟨ka,l,xs,rfl,g1,n1⟩:=uj (m1.later Kh) hx;obtain⟨kb,m,ys,rfl,g2,n2⟩:=uj m2 hy;have lz:(jT ds es).length=min ds.length es.length:=by unfold jT;rw[List.length_zipWith]
   refine⟨ka,kb,l,m,xs,ys,rfl,g1,g2,by rw[n1.length,n2.length,<- lz];exact jv gd,fun Ts A H' e hA Of hlen hT=>?_⟩;refine q4.ok (.ref A) H' (e2.trans e) (.lst (.inr (e2.free hA)) (.inl Of) (pK _ _ (by rw[i_,hlen,lz,n1.length,n2.length]) fun k v d hv hd=>?_));rw[y_]at hv;obtain⟨T,ht,rfl⟩:=aal.mp hv;obtain⟨x',y',K7,Mz,Pe⟩:=hT k T ht;obtain⟨d1,Z1,r1⟩:=n1.MR K7;obtain⟨d2,hd2,r2⟩:=n2.MR Mz;have:(jT ds es)[k]? = Δ (.tup [d1,d2]):=by unfold jT;rw[List.getElem?_zipWith,Z1,hd2]
   rw[this]at hd;cases hd;exact .tup (.inl (.inl Pe)) (.cons (r1.mono (fun _ z=>z) e) (.cons (r2.mono (fun _ z=>z) e) .nil))
end
section
variable {prog:Ε}{w:Β}{A:Ι}{E:Ψ->Α->Prop}{s:Α}
theorem oy (Ly:t≠it):∀(n i:Nat) (s:Α) (Q:List Ψ->Α->Prop),s.heap.IsListIter it t i->s.heap.IsList t items->i+n<=items.size->
  (∀h',h'.IsListIter it t (i+n)->Heap.SameBut it s.heap h'->Q ((items.toList.drop i).take n) {s with heap:=h'})->Κ (Μ prog w) A (draw (.ref it) n) Q E s
 |0,i,s,Q,hit,_,_,hQ=>by show Κ _ _ (pure []) Q E s;exact f_ (by simpa using hQ s.heap hit (Heap.SameBut.refl ..))
 |n+1,i,s,Q,hit,ht,hle,hQ=>by
  have JU:i < items.size:=by omega
  show Κ _ _ (pyNext (.ref it) >>= _) Q E s;refine a_ (wpAny_pyNext_list_item hit ht (x:=items[i]) (by simp[JU]) fun MP Mj L5=>?_);refine a_ (M_ (oy Ly n (i+1) _ _ Mj (ht.extBut L5.extBut Ly) (by omega) fun Me Pt Rx=>f_ ?_));have hd:items.toList.drop i=items[i]::items.toList.drop (i+1):=by simp[List.drop_eq_getElem_cons,JU]
  have:=hQ Me (by rw[show i+(n+1)=i+1+n by omega];exact Pt) (L5.trans Rx);rw[hd,List.take_succ_cons]at this;exact this
theorem mN (hh:A.handled=Φ)(ht:s.heap.IsList t items)
  (hQ:∀h',Heap.ExtBut s.heap.objs.size s.heap h'->Q items.toList {s with heap:=h'}):Κ (Μ prog w) A (unpackItems (.ref t) items.size Φ) Q E s:=by
 have JU:t≠s.heap.objs.size:=by obtain⟨o,ho,_⟩:=ht;exact p_ (j_ ho)
 have push:∀o,(s.heap.push o).IsList t items:=fun o=>by obtain⟨ob,e,c,n,d⟩:=ht;exact⟨ob,l_ _ e,c,n,d⟩
 unfold unpackItems;refine a_ ?_
 ·unfold notIterableAtAll;refine a_ (wpAny_specialOf ht.typeIs slot_list_iter.lookup ?_);refine f_ ?_;simp only[aaq,if_false];refine a_ (M_ (aav ht ?_));refine a_ (M_ (oy JU items.size 0 _ _ ⟨_,u_ _ rfl,rfl,rfl⟩ (push _) (by omega) fun MP Mj L5=>?_));have Md:List.take items.size (List.drop 0 items.toList)=items.toList:=by rw[List.drop_zero];exact List.take_of_length_le (by simp)
  rw[Md];rw[d_ (by simp)];have Ry:MP.IsList t items:=(push _).extBut L5.extBut JU;refine a_ (M_ (wpAny_pyNext_list_end hh Mj Ry (by simp) fun Me Rz=>?_));simp only[Option.isSome_none,aaq,if_false];refine f_ (hQ Me fun b o hb e=>Rz b o hb (L5.extBut b o hb (l_ _ e)))
end
def Gg (K:Frag)(n:Nat)(t:P8):TG:=fun v σ H Q=>∃a xs,v=.ref a/\(JO K H a xs∨Kf K H a xs)/\xs.length=n/\t xs σ H Q
theorem D7 (hc:X.calm=Θ)(h:QJ X es t)(hn:(assignEach es X.env).length=n)(Ke:(assignEach es X.env).findIdx? (·.1)=Φ):PG X (.Tuple es k pos) (Gg X.K n t):=by
 intro pins s σ H v u Q I r hw;obtain⟨a,xs,e1,hq,hl,hw⟩:=hw;subst e1;cases r;rcases hq with hq|hq
 ·obtain⟨its,rv,ht,hz⟩:=I.tuple hq;refine assign_Tuple_tuple (I.ok.hd hc) ht (by simp[hn,<- hl,rv.length]) Ke fun h' hx=>?_;have I1:Inv X pins σ H {s with heap:=h'}:=I.kept (t':=s.toks) fun b o e=>hx b o (p_ (j_ e)) e;exact h pins _ σ H xs _ Q I1 (by simpa using rv) hw
 ·obtain⟨its,rv,pl,hz⟩:=I.list hq;rw[assign_Tuple];refine a_ (wpAny_standAt ?_);unfold unpack;have hlen:(assignEach es X.env).length=its.toArray.size:=by simp[hn,<- hl,rv.length]
  rw[hlen,Ke];refine a_ (M_ (mN (I.ok.hd hc) pl.isList fun h' hx=>?_));have I1:Inv X pins σ H {s with heap:=h'}:=I.kept (t':=s.toks) fun b o e=>hx b o (p_ (j_ e)) e;exact h pins _ σ H xs _ Q I1 (by simpa using rv) hw
mutual
def gT (K:Frag):Tg->TG
 |.nm i=>wc i
 |.tp ts=>Gg K ts.length (RB K ts)
def RB (K:Frag):List Tg->P8
 |[]=>Fm
 |t::ts=>B5 (gT K t) (RB K ts)
end
theorem l7 (h:notStar e=Θ)(es:List Expr)(env:Env):assignEach (e::es) env=(Ξ,assign e env)::assignEach es env:=by
 induction e using zE<;>first|rfl|cases h
section
variable {Z:Sg}{CX:KJ}{cl:Nat->List D->Res D}{X:Cx}{G:Gm}
theorem oz (G:Gm):∀ {ts:List Tg}{es:List Expr} (env:Env),lC G ts es=Θ->(assignEach es env).length=ts.length/\(assignEach es env).findIdx? (·.1)=Φ
 |[],[],_,_=>⟨rfl,rfl⟩
 |t::ts,e::es,env,h=>by have h':(notStar e&&j7 G t e&&lC G ts es)=Θ:=h;simp only[g_]at h';obtain⟨h1,h2⟩:=oz G (ts:=ts) (es:=es) env h'.2;rw[l7 h'.1.1];refine⟨by rw[List.length_cons,h1,List.length_cons],?_⟩;rw[List.findIdx?_cons,d_ (by simp),h2];rfl
 |[],_::_,_,h=>by cases h
 |_::_,[],_,h=>by cases h
mutual
theorem Pu (g:JY Z CX cl X G):∀(t:Tg) (e:Expr),j7 G t e=Θ->PG X e (gT X.K t)
 |.nm i,e,h=>by
  induction e using zE with
  |Name x pos=>
   have h':(G.N[i]? == Δ x&&(G.kd[i]? == Δ .local||(G.df&&G.kd[i]? == Δ .cell)))=Θ:=(F_.mp h).1;rw[g_,aag,g_]at h';obtain⟨h1,h2⟩:=h';have hx:G.N[i]? = Δ x:=h_ h1;have hk:=g.kd i x hx;refine Af (by rw[g.N];exact g.J7) (by rw[g.N];exact hx) ?_ ?_
   ·rcases h2 with h2|h2
    ·exact .inl (hk.trans (h_ h2))
    ·exact .inr (hk.trans (h_ h2.2))
   ·rcases h2 with h2|h2
    ·exact .inr (hk.trans (h_ h2))
    ·exact .inl (g.df h2.1 x)
  |_=>cases h
 |.tp ts,e,h=>by
  induction e using zE with
  |Tuple es k pos=>have h0:(G.cm&&lC G ts es)=Θ:=h;rw[g_]at h0;have h':=h0.2;obtain⟨h1,h2⟩:=oz G X.env h';exact D7 (g.calm h0.1) (Gh g ts es h') h1 h2
  |_=>cases h
theorem Gh (g:JY Z CX cl X G):∀(ts:List Tg) (es:List Expr),lC G ts es=Θ->QJ X es (RB X.K ts)
 |[],[],_=>Ag
 |t::ts,e::es,h=>by have h':(notStar e&&j7 G t e&&lC G ts es)=Θ:=h;simp only[g_]at h';exact wg (Pu g t e h'.1.2) (Gh g ts es h'.2) (by rw[l7 h'.1.1];rfl)
 |[],_::_,h=>by cases h
 |_::_,[],h=>by cases h
end
end
mutual
theorem l8 {G:Gm}:∀(t:Tg) (e:Expr),j7 G t e=Θ->∀j∈Lg t,G.io≠Δ j
 |.nm i,e,h,j,hj=>by
  induction e using zE with
  |Name x pos=>
   have h':=(F_.mp (show((G.N[i]? == Δ x&&(G.kd[i]? == Δ .local||(G.df&&G.kd[i]? == Δ .cell)))&&G.io != Δ i)=Θ from h)).2;have e:j=i:=by simpa[Lg] using hj
   subst e;simpa using h'
  |_=>cases h
 |.tp ts,e,h,j,hj=>by
  induction e using zE with
  |Tuple es k pos=>have h0:(G.cm&&lC G ts es)=Θ:=h;exact rA ts es (F_.mp h0).2 j hj
  |_=>cases h
theorem rA {G:Gm}:∀(ts:List Tg) (es:List Expr),lC G ts es=Θ->∀j∈rj ts,G.io≠Δ j
 |[],_,_,j,hj=>by cases hj
 |t::ts,[],h,_,_=>by cases h
 |t::ts,e::es,h,j,hj=>by
  have h':(notStar e&&j7 G t e&&lC G ts es)=Θ:=h;simp only[g_]at h';rcases C_.mp (show j∈Lg t++rj ts from hj) with hj|hj
  ·exact l8 t e h'.1.2 j hj
  ·exact rA ts es h'.2 j hj
end
def Qm (K:Frag)(S:Ω->Prop)(H:Hp)(σ:St)(τ:Ev):Prop:=τ.length=σ.length/\∀i d,iF τ i=Δ d->∃v,σ[i]? = Δ (Δ v)/\IB K S H v d
theorem mO:iF (τ.set i o) j=if i=j/\i < τ.length then o else iF τ j:=by
 unfold iF;rw[List.getElem?_set];by_cases h:i=j
 ·subst h;by_cases h2:i < τ.length
  ·simp[h2]
  ·rw[e_ rfl,d_ h2,d_ (by omega)];rw[List.getElem?_eq_none (by omega)]
 ·rw[d_ h,d_ (by omega)]
section
variable {K:Frag}{S:Ω->Prop}{H:Hp}
mutual
theorem uk:∀(t:Tg) {σ:St}{τ:Ev}{v:V}{d:D}{Kt:Ev->Prop}{Q:St->Hp->Prop},Qm K S H σ τ->IB K S H v d->IA (jM t d τ) Kt->
  (∀τ' JC,Qm K S H JC τ'->JC.length=σ.length->(∀j,j∉Lg t->JC[j]? = σ[j]?)->Kt τ'->Q JC H)->gT K t v σ H Q
 |.nm i,σ,τ,v,d,Kt,Q,hs,m,h,k=>by
  refine k (τ.set i (Δ d)) (σ.set i (Δ v)) ⟨by rw[List.length_set,List.length_set,hs.1],fun j e z=>?_⟩ (by rw[List.length_set]) (fun j hj=>?_) h.ok
  ·rw[mO]at z;by_cases q:i=j/\i < τ.length
   ·rw[e_ q]at z;obtain⟨rfl,q⟩:=q;cases z;exact⟨v,by rw[List.getElem?_set_self (by rw[<- hs.1];exact q)],m⟩
   ·rw[d_ q]at z;obtain⟨w,h1,h2⟩:=hs.2 j e z;refine⟨w,?_,h2⟩;by_cases q2:i=j
    ·subst q2;exfalso;have:i < σ.length:=by have:=(x_.mp h1).1;exact this
     exact q ⟨rfl,by rw[hs.1];exact this⟩
    ·rw[aaE q2];exact h1
  ·have:i≠j:=fun z=>hj (by subst z;simp[Lg]);rw[aaE this]
 |.tp ts,σ,τ,v,d,Kt,Q,hs,m,h,k=>by
  induction d using zD with
  |tup ds=>obtain⟨a,xs,rfl,q,ms⟩:=m.Ka;obtain⟨g,h⟩:=IA.IE h;have g':ds.length=ts.length:=q_ g;exact⟨a,xs,rfl,.inl q,by rw[ms.length,g'],oA ts hs ms h k⟩
  |lst o ds=>obtain⟨a,xs,rfl,q,ms⟩:=m.J1;obtain⟨g,h⟩:=IA.IE h;have g':ds.length=ts.length:=q_ g;exact⟨a,xs,rfl,.inr q,by rw[ms.length,g'],oA ts hs ms h k⟩
  |_=>exact h.no.elim
theorem oA:∀(ts:List Tg) {σ:St}{τ:Ev}{vs:List V}{ds:List D}{Kt:Ev->Prop}{Q:St->Hp->Prop},Qm K S H σ τ->Iz K S H vs ds->IA (lA ts ds τ) Kt->
  (∀τ' JC,Qm K S H JC τ'->JC.length=σ.length->(∀j,j∉rj ts->JC[j]? = σ[j]?)->Kt τ'->Q JC H)->RB K ts vs σ H Q
 |[],σ,τ,vs,ds,Kt,Q,hs,m,h,k=>by
  cases m with
  |nil=>exact⟨rfl,k τ σ hs rfl (fun _ _=>rfl) h.ok⟩
  |cons _ _=>exact h.no.elim
 |t::ts,σ,τ,vs,ds,Kt,Q,hs,m,h,k=>by
  cases m with
  |nil=>exact h.no.elim
  |cons m1 m2=>
   refine⟨_,_,rfl,uk t hs m1 (IA.Iq h) fun τ' JC Ta hn hk h'=>?_⟩;refine oA ts Ta m2 h' fun Pw Px U9 LR N2 Q9=>k Pw Px U9 (LR.trans hn) (fun j hj=>?_) Q9;have Tc:j∉Lg t/\j∉rj ts:=by constructor<;>(intro z;apply hj;simp[rj,z])
   rw[N2 j Tc.2,hk j Tc.1]
end
end
section
variable {K:Frag}{S S':Ω->Prop}{H H':Hp}{J:It}{ds:List D}
theorem WS.step (hl:∀a (u:LD),S a->Rd H a u.o->S' a/\Rd H' a u.o)(ht:∀a xs,JO K H a xs->JO K H' a xs)  (h:WS K S H k a xs):WS K S' H' k a xs:=by
 cases k with
 |l=>exact h.elim (fun z=>.inl (hl _ (.l _) z.1 z.2)) fun z=>.inr z
 |t=>exact ht _ _ h
theorem rB (ds:List D):(n0 ds).length=ds.length:=by unfold n0;rw[List.length_zipWith,aac,Nat.min_self]
theorem rC (ds es:List D):(jT ds es).length=min ds.length es.length:=by unfold jT;rw[List.length_zipWith]
theorem K9.step (hl:∀a (u:LD),S a->Rd H a u.o->S' a/\Rd H' a u.o)(ht:∀a xs,JO K H a xs->JO K H' a xs)(h:K9 K S H J ds):K9 K S' H' J ds:=by
 cases h with
 |lst h0 h1 h2=>exact .lst (hl _ (.l _) h0 h1).1 (hl _ (.l _) h0 h1).2 (h2.step hl ht)
 |lstK h1 h2=>exact .lstK h1 (h2.step hl ht)
 |tup h1 h2=>exact .tup (ht _ _ h1) (h2.step hl ht)
 |M0 lo hi=>exact .M0 lo hi
 |str x=>exact .str x
 |zip h1 h2 h3 h4=>exact .zip (h1.step hl ht) (h2.step hl ht) (h3.step hl ht) (h4.step hl ht)
 |LU h1 h2=>exact .LU (h1.step hl ht) (h2.step hl ht)
theorem K9.mono (h:K9 K S H J ds)(hS:∀a,S a->S' a)(e:iL H H'):K9 K S' H' J ds:=h.step (fun a xs s r=>⟨hS a s,e.rd r⟩) fun a xs s=>e.Lo s
theorem oB (x:Str):(jZ x).length=x.cps.size:=by unfold jZ;simp
theorem j8 (a b:Int):(jq a b).length=(b - a).toNat:=by unfold jq;simp
theorem K9.stop (h:K9 K S H J ds)  (hi:ds.length=i):J.stop i H:=by
 cases h with
 |lst h0 h1 h2=>exact⟨_,.inl h1,by rw[h2.length];omega⟩
 |lstK h1 h2=>exact⟨_,h1.sq,by rw[h2.length];omega⟩
 |tup h1 h2=>exact⟨_,h1,by rw[h2.length];omega⟩
 |M0 lo Ln=>rw[j8]at hi;exact Nat.le_of_eq hi
 |str x=>rw[oB]at hi;exact Nat.le_of_eq hi
 |zip h1 h2 h3 h4=>exact⟨_,_,h1.sq,h2.sq,by rw[rC]at hi;rw[h3.length,h4.length];omega⟩
 |LU h1 h2=>exact⟨_,h1.sq,by rw[rB]at hi;rw[h2.length];omega⟩
theorem K9.go (h:K9 K S H J ds)  (hi:i < ds.length):J.go i H:=by
 cases h with
 |lst h0 h1 h2=>obtain⟨v,hv,_⟩:=h2.get (i:=i) (d:=ds[i]) (by simp[hi]);exact⟨_,v,.inl h1,hv⟩
 |lstK h1 h2=>obtain⟨v,hv,_⟩:=h2.get (i:=i) (d:=ds[i]) (by simp[hi]);exact⟨_,v,h1.sq,hv⟩
 |tup h1 h2=>obtain⟨v,hv,_⟩:=h2.get (i:=i) (d:=ds[i]) (by simp[hi]);exact⟨_,v,h1,hv⟩
 |M0 lo Ln=>rw[j8]at hi;exact hi
 |str x=>rw[oB]at hi;exact hi
 |zip h1 h2 h3 h4=>
  rename_i ds' es'
  rw[rC]at hi;obtain⟨v,hv,_⟩:=h3.get (i:=i) (d:=ds'[i]) (by rw[v_]);obtain⟨u,hu,_⟩:=h4.get (i:=i) (d:=es'[i]) (by rw[v_]);exact⟨_,_,v,u,h1.sq,h2.sq,hv,hu⟩
 |LU h1 h2=>
  rename_i ds'
  rw[rB]at hi;obtain⟨v,hv,_⟩:=h2.get (i:=i) (d:=ds'[i]) (by rw[v_]);exact⟨_,v,h1.sq,hv⟩
theorem K9.NW (h:K9 K S H J ds)  (y:J.NW i H x H2)  (hd:ds[i]? = Δ d):iL H H2/\IB K S H2 x d:=by
 have fin:∀ {xs:List V},Iz K S H xs ds->xs[i]? = Δ x->IB K S H x d:=fun m e=>by obtain⟨d',e',m'⟩:=m.MR e;rw[hd]at e';cases e';exact m'
 cases h with
 |lst h0 h1 h2=>obtain⟨e,y⟩:=y;subst e;exact⟨.refl _,fin h2 (y _ (.inl h1))⟩
 |lstK h1 h2=>obtain⟨e,y⟩:=y;subst e;exact⟨.refl _,fin h2 (y _ h1.sq)⟩
 |tup h1 h2=>obtain⟨e,y⟩:=y;subst e;exact⟨.refl _,fin h2 (y _ h1)⟩
 |zip h1 h2 h3 h4=>obtain⟨T,a,b,e1,hT,e2,hy⟩:=y;subst e1 e2;obtain⟨y1,y2⟩:=hy _ _ h1.sq h2.sq;obtain⟨d1,g1,m1⟩:=h3.MR y1;obtain⟨d2,g2,m2⟩:=h4.MR y2;unfold jT at hd;rw[List.getElem?_zipWith,g1,g2]at hd;cases hd;have e:iL H (upd H T (.tup [a,b])):=.upd hT;exact⟨e,.tup (JO.of iM) (.cons (m1.mono (fun _ z=>z) e) (.cons (m2.mono (fun _ z=>z) e) .nil))⟩
 |LU h1 h2=>obtain⟨T,a,e1,hT,e2,hy⟩:=y;subst e1 e2;have y1:=hy _ h1.sq;obtain⟨d1,g1,m1⟩:=h2.MR y1;unfold n0 at hd;have JU:=(x_.mp g1).1;rw[List.getElem?_zipWith,g1,List.getElem?_range JU]at hd;cases hd;have e:iL H (upd H T (.tup [.int i,a])):=.upd hT;exact⟨e,.tup (JO.of iM) (.cons (.int _) (.cons (m1.mono (fun _ z=>z) e) .nil))⟩
 |M0 lo Ln=>
  obtain⟨e1,e2⟩:=y;subst e1;refine⟨.refl _,?_⟩;subst e2;unfold jq at hd;rw[y_]at hd;have hi:i < (Ln - lo).toNat:=by
   have:=(aal.mp hd)
   obtain⟨z,h1,_⟩:=this;have:=(x_.mp h1).1;simpa using this
  rw[List.getElem?_range hi]at hd;cases hd;exact .int _
 |str x=>
  obtain⟨e1,c,h1,e2⟩:=y;subst e1;refine⟨.refl _,?_⟩;subst e2;unfold jZ at hd;rw[y_]at hd;have h2:x.cps.toList[i]? = Δ c:=by simpa using h1
  rw[h2]at hd;cases hd;exact .str _
end
section
variable {Z:Sg}{CX:KJ}{cl:Nat->List D->Res D}{X:Cx}{G:Gm}{K:Frag}{S:Ω->Prop}{H H1:Hp}{σ:St}{τ:Ev}
theorem Gi (e:iL H H1)(hs:Slots K S H σ τ is)(h:IA (f τ) Kt)(k:∀ds J H2,iL H H2->iL H1 H2->K9 K (nw S H) H2 J ds->Kt ds->R J H2):RI K is f σ H1 R:=
 ⟨nw S H,τ,hs.go e,h.mono fun x hx J H2 e2 m=>k x J H2 (e.trans e2) e2 (m.mono (pJ e) (.refl _)) hx⟩
theorem um (I:Inv X pins σ H s)(hq:Kf X.K H a xs)(q:R (SK X.K a) H):Κ (Μ X.prog X.w) X.A (pyIter (.ref a)) (P9 X pins σ tg R) X.xe s:=by
 obtain⟨its,rv,p,hz⟩:=I.list hq;refine aav p.isList ?_;refine⟨s.heap.objs.size,[s.heap.objs.size],_,_,H,rfl,I.kept (t':=s.toks) fun b o e=>l_ _ e,vf a _,⟨_,u_ _ rfl,rfl,rfl⟩,fun b hb=>?_,q⟩;have e:b=s.heap.objs.size:=by simpa using hb
 subst e;exact I.Mb (m_ _) (I.JD.fresh (m_ _))
theorem x6 (I:Inv X pins σ H s)(hq:JO X.K H a xs)(q:R (T8 X.K a) H):Κ (Μ X.prog X.w) X.A (pyIter (.ref a)) (P9 X pins σ tg R) X.xe s:=by
 obtain⟨its,rv,p,hz⟩:=I.tuple hq;refine wpAny_pyIter_tuple (show s.heap.IsTuple a its.toArray from p) ?_;refine⟨s.heap.objs.size,[s.heap.objs.size],_,_,H,rfl,I.kept (t':=s.toks) fun b o e=>l_ _ e,rS a _,⟨_,u_ _ rfl,rfl,rfl⟩,fun b hb=>?_,q⟩;have e:b=s.heap.objs.size:=by simpa using hb
 subst e;exact I.Mb (m_ _) (I.JD.fresh (m_ _))
theorem Gj (ha:PE X e (RD X.K va fa)):PI X tg e (RI X.K va fun τ=>Iq (fa τ) kU):=by
 intro pins s σ H R I h;obtain⟨S,τ,hs,q⟩:=h;refine JG (ha pins s σ H (fun v H'=>∃d,iL H H'/\IB X.K (nw S H) H' v d/\_) I (iZ (.refl _) hs (IA.Iq q) fun x v H1 e1 _ m1 q1=>⟨x,e1,m1,q1⟩)) fun v s1 ⟨x,H1,I1,r1,d,e1,m1,q1⟩=>?_
 induction d using zD with
 |lst o ds=>
  cases m1 with
  |lst h0 h1 h2=>cases r1;exact um I1 (.inl h1) (q1.ok _ _ e1 (.lst h0 h1 h2))
  |lstK h1 h2=>cases r1;exact um I1 h1.sq (q1.ok _ _ e1 (.lstK h1 h2))
 |tup ds=>obtain⟨a,xs,rfl,h1,h2⟩:=m1.Ka;cases r1;exact x6 I1 h1 (q1.ok _ _ e1 (.tup h1 h2))
 |str z=>cases m1.JV;obtain⟨t,rfl⟩:=r1;obtain⟨_,q1⟩:=IA.IE q1;exact DR I1 (q1.ok _ _ e1 (.str z))
 |_=>exact q1.no.elim
theorem D8 (g:JY Z CX cl X G)  (hg:G.gl.contains 15=Θ)(hn:notStar e=Θ)(ha:PE X e (RD X.K va fa)) :
  PI X tg (.Call (.Name "range" p) [e] [] pos) (RI X.K va fun τ=>Iq (fa τ) fun|.int i=>IE (mX i) (.ok (jq 0 i))|_=>Jw):=by
 obtain⟨k1,k2,_,_⟩:=km g (show jm[15]? = Δ ("range" : Str) from rfl) hg;refine pX (o7 k1 k2 (jn ha jO (iC hn _ _)) (iC hn _ _)) fun σ H Q ⟨S,τ,hs,q⟩=>?_;refine iZ (.refl _) hs (IA.Iq q) fun x v H1 e1 _ m1 q1=>?_
 induction x using zD with
 |int i=>cases m1.JE;obtain⟨gd,q1⟩:=IA.IE q1;have Py : -(2 ^ 62)<=i/\i < 2 ^ 62:=q_ gd;refine⟨i,rfl,Py.1,Py.2,?_⟩;have:=q1.ok _ _ e1 (.M0 0 i);rw[Int.sub_zero]at this;exact this
 |_=>exact q1.no.elim
theorem Gk {a:Ω}{v:V}{d:D}{ds:List D}(m:IB K S H v d)(h:oX d=.ok ds):∃k a xs,v=.ref a/\WS K S H k a xs/\Iz K S H xs ds:=by
 induction d using zD with
 |lst o es=>
  cases h;cases m with
  |lst h0 h1 h2=>exact⟨.l,_,_,rfl,.inl ⟨h0,h1⟩,h2⟩
  |lstK h1 h2=>exact⟨.l,_,_,rfl,.inr h1,h2⟩
 |tup es=>cases h;obtain⟨a,xs,rfl,h1,h2⟩:=m.Ka;exact⟨.t,a,xs,rfl,h1,h2⟩
 |_=>cases h
theorem Gn (g:JY Z CX cl X G)  (hg:G.gl.contains 17=Θ)(hn:notStar e=Θ)(LR:notStar e'=Θ)(ha:PE X e (RD X.K va fa))(hb:PE X e' (RD X.K vb fb)) :
  PI X (.Tuple es c tp) (.Call (.Name "zip" p) [e,e'] [] pos) (RI X.K (va++vb) fun τ=>Iq (fa τ) fun x=>Iq (fb τ) fun y=>n6 x y):=by
 obtain⟨k1,k2,_,_⟩:=km g (show jm[17]? = Δ ("zip" : Str) from rfl) hg;refine pX (DC k1 k2 (jn ha (jn hb jO (iC LR _ _)) (iC hn _ _)) (by rw[iC hn,iC LR];rfl) (iC LR _ _)) fun σ H Q ⟨S,τ,hs,q⟩=>?_;refine iZ (.refl _) hs.left (IA.Iq q) fun x v H1 e1 _ m1 q1=>?_;refine iZ e1 hs.right (IA.Iq q1) fun y w H2 e2 Kh m2 q2=>?_;have q3:=IA.Iq (show IA (Iq (oX x) fun ds=>Iq (oX y) fun es=>.ok (jT ds es)) _ from q2);have Z2:=m1.mono (fun _ z=>z) Kh;cases hx:oX x with
 |error z=>
  rw[hx]at q3
  induction x using zD<;>first|(cases hx;exact q3.no.elim)|cases hx
 |ok ds=>
  rw[hx]at q3;have q4:=IA.Iq q3.ok;cases hy:oX y with
  |error z=>
   rw[hy]at q4
   induction y using zD<;>first|(cases hy;exact q4.no.elim)|cases hy
  |ok es'=>rw[hy]at q4;obtain⟨k1,a1,xs,rfl,w1,r1⟩:=Gk (a:=0) Z2 hx;obtain⟨k2,a2,ys,rfl,w2,r2⟩:=Gk (a:=0) m2 hy;exact⟨k1,k2,a1,a2,xs,ys,rfl,w1.sq,w2.sq,q4.ok.ok _ _ e2 (.zip w1 w2 r1 r2)⟩
theorem Gq (g:JY Z CX cl X G)  (hg:G.gl.contains 20=Θ)(hn:notStar e=Θ)(ha:PE X e (RD X.K va fa)) :
  PI X (.Tuple es c tp) (.Call (.Name "enumerate" p) [e] [] pos) (RI X.K va fun τ=>Iq (fa τ) AR):=by
 obtain⟨k1,k2,_,_⟩:=km g (show jm[20]? = Δ ("enumerate" : Str) from rfl) hg;refine pX (AM k1 k2 (jn ha jO (iC hn _ _)) (iC hn _ _)) fun σ H Q ⟨S,τ,hs,q⟩=>?_;refine iZ (.refl _) hs (IA.Iq q) fun x v H1 e1 _ m1 q1=>?_
 induction x using zD with
 |lst o ds=>
  cases m1 with
  |lst h0 h1 h2=>exact⟨_,_,rfl,.inl h1,(show IA (.ok (n0 ds)) _ from q1).ok _ _ e1 (.LU (.inl ⟨h0,h1⟩) h2)⟩
  |lstK h1 h2=>exact⟨_,_,rfl,h1.sq,(show IA (.ok (n0 ds)) _ from q1).ok _ _ e1 (.LU (.inr h1) h2)⟩
 |_=>exact q1.no.elim
theorem kB {env:Env}{x:Str}:∀(names:List (Str×NameKind)),
  (names.map fun(n,k)=>if(k == Υ&&env.scope.kind == .function&&env.kindOf n == Δ .cell) then(n,NameKind.cell) else(n,k)).lookup x =
   (names.lookup x).map fun k=>if(k == Υ&&env.scope.kind == .function&&env.kindOf x == Δ .cell) then NameKind.cell else k
 |[]=>rfl
 | (n,k)::r=>by
  have ih:=kB (env:=env) (x:=x) r;rw[b_];show List.lookup x ((if(k == Υ&&env.scope.kind == .function&&env.kindOf n == Δ .cell)=Θ then(n,NameKind.cell) else(n,k))::_)=_;by_cases hc:(k == Υ&&env.scope.kind == .function&&env.kindOf n == Δ .cell)=Θ
  ·rw[e_ hc,aaC,aaC];cases hx:x == n with
   |true=>have e:x=n:=h_ hx;subst e;show Δ NameKind.cell=Δ (if _ then _ else _);rw[e_ hc]
   |false=>exact ih
  ·rw[d_ hc,aaC,aaC];cases hx:x == n with
   |true=>have e:x=n:=h_ hx;subst e;show Δ k=Δ (if _ then _ else _);rw[d_ hc]
   |false=>exact ih
theorem sQ (h:∀y∈scope.names,y.2=.free->∃c,env.cells.lookup y.1=Δ c) :
  ∃Ku,closureFor scope env=pure Ku/\(∀x c,Ku.lookup x=Δ c->env.cells.lookup x=Δ c)/\∀y∈scope.names,y.2=.free->∃c,Ku.lookup y.1=Δ c:=by
 have key:∀(names:List (Str×NameKind)) (acc:List (Str×Ω)),(∀y∈names,y.2=.free->∃c,env.cells.lookup y.1=Δ c)->(∀x c,acc.lookup x=Δ c->env.cells.lookup x=Δ c)->
   ∃Ku,(forIn names acc fun(p:Str×NameKind) (r:List (Str×Ω))=>(if(p.2 == Υ)=Θ then do let a <- cellOf env p.1;pure (ForInStep.yield ((p.1,a)::r)) else pure (ForInStep.yield r):Sem (ForInStep (List (Str×Ω)))))=pure Ku/\(∀x c,Ku.lookup x=Δ c->env.cells.lookup x=Δ c)/\
    (∀y∈names,y.2=.free->∃c,Ku.lookup y.1=Δ c)/\∀x c,acc.lookup x=Δ c->∃c',Ku.lookup x=Δ c':=by
  intro names
  induction names with
  |nil=>intro acc _ h2;exact⟨acc,rfl,h2,fun y hy=>absurd hy (by simp),fun x c e=>⟨c,e⟩⟩
  |cons p names ih=>
   intro acc h1 h2;rw[List.forIn_cons];by_cases hp:p.2=.free
   ·obtain⟨c,hc⟩:=h1 p (by simp) hp;have hb:(p.2 == Υ)=Θ:=by rw[hp];rfl
    have S5:∀x c',((p.1,c)::acc).lookup x=Δ c'->env.cells.lookup x=Δ c':=by
     intro x c' e;rw[aaC]at e;cases hx:x == p.1 with
     |true=>rw[hx]at e;cases e;rw[h_ hx];exact hc
     |false=>rw[hx]at e;exact h2 x c' e
    obtain⟨Ku,e1,e2,e3,e4⟩:=ih ((p.1,c)::acc) (fun y hy=>h1 y (H_ _ hy)) S5;refine⟨Ku,?_,e2,fun y hy hf=>?_,fun x c' e=>?_⟩
    ·rw[e_ hb];have:cellOf env p.1=pure c:=by unfold cellOf;rw[hc]
     rw[this];exact e1
    ·rcases k_.mp hy with rfl|hy
     ·exact e4 y.1 c (by rw[aaC];simp)
     ·exact e3 y hy hf
    ·rcases hx:x == p.1 with _|_
     ·exact e4 x c' (by rw[aaC,hx];exact e)
     ·exact e4 x c (by rw[aaC,hx])
   ·have hb:¬(p.2 == Υ)=Θ:=fun z=>hp (h_ z);obtain⟨Ku,e1,e2,e3,e4⟩:=ih acc (fun y hy=>h1 y (H_ _ hy)) h2;refine⟨Ku,?_,e2,fun y hy hf=>?_,e4⟩
    ·rw[d_ hb];exact e1
    ·rcases k_.mp hy with rfl|hy
     ·exact absurd hf hp
     ·exact e3 y hy hf
 obtain⟨Ku,e1,e2,e3,_⟩:=key scope.names [] h (fun x c e=>by cases e);refine⟨Ku,?_,e2,e3⟩;unfold closureFor;exact congrArg (fun(m:Sem (List (Str×Ω)))=>m >>= fun r=>pure r) e1
structure MU (Z:Sg)(G:Gm)(scope:Scope)(G':Gm)(fr:List Nat):Prop where
 cm:G.cm=Θ
 kind:scope.kind=.function
 tr:G'.tr=Ξ
 df:G'.df=Ξ
 kdl:G'.kd.length=G'.N.length
 LJ:∀y∈scope.names,y.2≠.cell
 loc:∀y∈scope.names,y.2=.local->scope.names.lookup y.1=Δ .local
 Z3:∀y∈scope.names,y.2=.free->∃i:Nat,G.N[i]? = Δ y.1/\(G.kd[i]? = Δ .cell∨G.kd[i]? = Δ .free)
 Lj:∀(j:Nat) (i:Nat),fr[j]? = Δ i->∃x,G.N[i]? = Δ x/\G'.N[j]? = Δ x/\scope.names.lookup x=Δ .free/\(G.kd[i]? = Δ .cell∨G.kd[i]? = Δ .free)/\G'.kd[j]? = Δ (if(G.kd[i]? == Δ .cell)=Θ then .cell else .free)
 Td:fr.length<=G'.N.length
 Lg:∀(j:Nat) (x:Str),fr.length<=j->G'.N[j]? = Δ x->scope.names.lookup x=Δ .local/\G'.kd[j]? = Δ .local
 Ob:∀x∈G'.N,(x == ("__debug__" : Str))=Ξ/\(x == ("__classdict__" : Str))=Ξ
 J7:G'.N.Nodup
 gl:∀n∈G'.gl,∃x,Z.name n=Δ x/\scope.names.lookup x=Δ .globalImplicit
theorem qf (h:jJ Z G scope G' fr=Θ):MU Z G scope G' fr:=by
 unfold jJ at h;simp only[g_]at h;obtain⟨⟨⟨⟨⟨⟨⟨⟨⟨⟨⟨⟨⟨h0,h1⟩,U'⟩,h2⟩,h3⟩,h4⟩,h5⟩,h6⟩,h7⟩,h8⟩,h9⟩,NB⟩,Oz⟩,O'⟩:=h;rw[R_]at h4 h5 h6 h7 h9 NB O';refine⟨h0,h_ h1,by simpa using U',by simpa using h2,h_ h3,fun y hy=>by simpa using h4 y hy,fun y hy e=>?_,fun y hy e=>?_,fun j i e=>?_,q_ h8,fun j x hj e=>?_,fun x hx=>by simpa using NB x hx,q_ Oz,fun n hn=>?_⟩
 ·have:=h5 y hy;rw[e]at this;simpa using this
 ·have:=h6 y hy;rw[e]at this;simp only[bne_self_eq_false,Bool.false_or,List.any_eq_true,g_,aag]at this;obtain⟨i,_,hi,hk⟩:=this;exact⟨i,h_ hi,hk.elim (fun z=>.inl (h_ z)) fun z=>.inr (h_ z)⟩
 ·have hj:j < fr.length:=(x_.mp e).1;have:=h7 j (V_.mpr hj);simp only[e,Option.bind_some,g_,aag]at this;obtain⟨⟨⟨a1,a2⟩,a3⟩,a4⟩:=this;have Xs:=h_ a1;have Te:=h_ a2;cases q:G'.N[j]? with
  |none=>rw[q]at Te;cases Te
  |some x=>rw[q]at Te Xs;exact⟨x,Xs.symm,rfl,Te,a3.elim (fun z=>.inl (h_ z)) fun z=>.inr (h_ z),h_ a4⟩
 ·have JU:j < G'.N.length:=(x_.mp e).1;have hm:j∈(List.range G'.N.length).drop fr.length:=by rw[List.mem_drop_iff_getElem];exact⟨j - fr.length,by simp;omega,by simp;omega⟩
  have:=h9 j hm;rw[e]at this;simp only[Option.bind_some,g_]at this;exact⟨h_ this.1,h_ this.2⟩
 ·have:=O' n hn;cases q:Z.name n with
  |none=>rw[q]at this;cases this
  |some x=>rw[q]at this;exact⟨x,rfl,h_ this⟩
noncomputable def MV (G:Gm)(fr:List Nat):List (Str×Nat):=fr.map fun i=>(G.N.getD i "",i)
theorem Gr (s:MU Z G scope G' fr):(MV G fr).map (·.1)++G'.N.drop fr.length=G'.N:=by
 have e:(MV G fr).map (·.1)=G'.N.take fr.length:=by
  apply List.ext_getElem?;intro j;unfold MV;rw[K_,y_,List.getElem?_take];cases q:fr[j]? with
  |none=>
   have:¬j < fr.length:=by intro z;rw[v_ z]at q;cases q
   rw[d_ this];rfl
  |some i=>have:j < fr.length:=(x_.mp q).1;rw[e_ this];obtain⟨x,h1,h2,_⟩:=s.Lj j i q;rw[h2];show Δ (G.N.getD i "")=Δ x;rw[Z_,h1];rfl
 rw[e,List.take_append_drop]
theorem mP (g:JY Z CX cl X G)(ok:X.Ok)  (s:MU Z G scope G' fr):∃Ku,KP X scope Ku (MV G fr) (G'.N.drop fr.length):=by
 have Mp:∀y∈scope.names,y.2=.free->∃c,X.env.cells.lookup y.1=Δ c:=fun y hy hf=>by obtain⟨i,h1,h2⟩:=s.Z3 y hy hf;have hk:=g.kd i y.1 h1;exact ok.has y.1 (h2.elim (fun z=>.inl (hk.trans z)) fun z=>.inr (hk.trans z))
 obtain⟨Ku,e1,e2,e3⟩:=sQ Mp;refine⟨Ku,e1,s.kind,s.LJ,s.loc,e2,fun x hx=>?_,fun p hp=>?_⟩
 ·have hl:=kB (env:=X.env) (x:=x) scope.names;have K7:((scope.names.lookup x).map fun k=>if(k == Υ&&X.env.scope.kind == .function&&X.env.kindOf x == Δ .cell)=Θ then NameKind.cell else k)=Δ .cell∨
    ((scope.names.lookup x).map fun k=>if(k == Υ&&X.env.scope.kind == .function&&X.env.kindOf x == Δ .cell)=Θ then NameKind.cell else k)=Δ .free:=by
   rcases hx with hx|hx
   ·exact .inl (hl.symm.trans hx)
   ·exact .inr (hl.symm.trans hx)
  cases q:scope.names.lookup x with
  |none=>rw[q]at K7;rcases K7 with z|z<;>cases z
  |some k=>
   have hm:(x,k)∈scope.names:=PySem.mem_of_lookup q;have hk:k=.free:=by
    rw[q]at K7;rcases K7 with z|z
    ·have z':(if(k == Υ&&X.env.scope.kind == .function&&X.env.kindOf x == Δ .cell)=Θ then NameKind.cell else k)=.cell:=J_ z;split at z'
     ·rename_i hc
      simp only[g_]at hc;exact h_ hc.1.1
     ·exact absurd z' (s.LJ _ hm)
    ·have z':(if(k == Υ&&X.env.scope.kind == .function&&X.env.kindOf x == Δ .cell)=Θ then NameKind.cell else k)=.free:=J_ z;split at z'
     ·cases z'
     ·exact z'
   exact e3 (x,k) hm hk
 ·unfold MV at hp;rw[List.mem_map]at hp;obtain⟨i,hi,rfl⟩:=hp;obtain⟨j,hj⟩:=List.getElem?_of_mem hi;obtain⟨x,h1,h2,h3,h4,h5⟩:=s.Lj j i hj;have hn:G.N.getD i "" = x:=by rw[Z_,h1];rfl
  show X.N[i]? = Δ (G.N.getD i "")/\_;rw[hn];have hk:=g.kd i x h1;refine⟨by rw[g.N];exact h1,h4.elim (fun z=>.inl (hk.trans z)) fun z=>.inr (hk.trans z),?_⟩;have hl:=kB (env:=X.env) (x:=x) scope.names;rw[h3]at hl;have Va:(relabel scope X.env).names.lookup x=Δ (if(Υ == Υ&&X.env.scope.kind == .function&&X.env.kindOf x == Δ .cell)=Θ then NameKind.cell else Υ):=hl;rw[Va];split
  ·exact .inl rfl
  ·exact .inr rfl
theorem jK (g:JY Z CX cl X G){scope:Scope}{G':Gm}{fr:List Nat}(s:MU Z G scope G' fr)(Ku:List (Str×Ω))(C:Ω)(s3:Α)(H3:Hp)(fp:List Ω) :
  JY Z CX cl (Ms X scope Ku ((MV G fr).map (·.1)++G'.N.drop fr.length) C s3 H3 fp) G' where
 N:=Gr s
 J7:=s.J7
 calm:=fun _=>g.calm s.cm
 fk:=s.kind
 un:=g.un
 own:=fun _=>PassesOwn.never
 kd:=fun j x hx=>by
  show(relabel scope X.env).names.lookup x=_;have hl:=kB (env:=X.env) (x:=x) scope.names;by_cases hj:j < fr.length
  ·obtain⟨y,h1,h2,h3,h4,h5⟩:=s.Lj j fr[j] (by simp[hj]);rw[hx]at h2;cases h2;rw[h3]at hl;rw[h5];refine hl.trans ?_;have hk:=g.kd fr[j] x h1;show Δ (if(Υ == Υ&&X.env.scope.kind == .function&&X.env.kindOf x == Δ .cell)=Θ then NameKind.cell else Υ)=_;rw[hk,g.fk];rfl
  ·obtain⟨h1,h2⟩:=s.Lg j x (by omega) hx;rw[h1]at hl;rw[h2];exact hl
 Ob:=fun j x hx=>s.Ob x (aak hx)
 gl:=fun n hn x e=>by obtain⟨y,h1,h2⟩:=s.gl n hn;rw[e]at h1;cases h1;show(relabel scope X.env).names.lookup x=_;have hl:=kB (env:=X.env) (x:=x) scope.names;rw[h2]at hl;exact hl
 Pr:=g.Pr
 df:=fun z=>by rw[s.df]at z;cases z
 blt:=g.blt
 cst:=g.cst
 fns:=fun f hf _ x hx=>g.fns f hf (.inl s.cm) x hx
 U3:=⟨fun _ _ _=>False,fun pins σ H s e s' _ h=>(g.U4 _ _ _ _ _ h).elim⟩
 Pl:=g.Pl
 U4:=g.U4
end
section
variable {K:Frag}{S:Ω->Prop}{H:Hp}{σ:St}{τ:Ev}{cl:Nat->List D->Res D}{G G':Gm}{fr:List Nat}
noncomputable def Mk (G':Gm)(fr:List Nat)(τ:Ev):Ev:=fr.map (iF τ)++Τ (G'.N.length - fr.length) Φ
theorem A8 (hl:fr.length<=G'.N.length):(Mk G' fr τ).length=G'.N.length:=by unfold Mk;rw[o_,i_,List.length_replicate];omega
theorem A9 (Tg:List Str)(σ:St):(stC (MV G fr) Tg σ).length=fr.length+Tg.length:=by unfold stC MV;rw[o_,i_,i_,List.length_replicate]
theorem x8 (h:iF (Mk G' fr τ) j=Δ d):∃i,fr[j]? = Δ i/\iF τ i=Δ d:=by
 unfold iF Mk at h;by_cases hj:j < fr.length
 ·rw[aau (by simpa using hj),y_,v_ hj]at h;exact⟨fr[j],by simp[hj],h⟩
 ·rw[aaH (by simpa using hj),List.getElem?_replicate]at h;split at h<;>cases h
theorem Ba (hl:fr.length<=G'.N.length)(hs:Slots K S H σ τ (fr++vs))(hn:JC.length=G'.N.length)(Kl:∀j,j < fr.length->JC[j]? = (stC (MV G fr) (G'.N.drop fr.length) σ)[j]?):Qm K S H JC (Mk G' fr τ):=by refine⟨by rw[A8 hl,hn],fun j d h=>?_⟩;obtain⟨i,hi,hd⟩:=x8 h;have hj:j < fr.length:=(x_.mp hi).1;obtain⟨v,h1,h2⟩:=hs i (s_ _ (aak hi)) d hd;refine⟨v,?_,h2⟩;rw[Kl j hj];unfold stC MV;rw[aau (by simpa using hj),y_,y_,hi];show Δ ((σ[i]?).join)=Δ (Δ v);rw[h1];rfl
noncomputable def jb (cl:Nat->List D->Res D)(T:Tg)(I:List IR)(E:IR)(Z4:Ev)(x:D):Res (Option D):=Iq (jM T x Z4) fun NF=>Iq (lG cl I NF) fun r=>if r=Θ then Iq (IC cl E NF) fun d=>.ok (Δ d) else .ok Φ
theorem k7 {vs:List Nat}{fs:Ev->Res (List D)}{T:Tg}{I:List IR}{E:IR}{Kt:D->Prop}{Q:VK}(hl:fr.length<=G'.N.length)(ha:∀i∈Lg T,fr.length<=i)(hs:Slots K S H σ τ (fr++vs))
  (q:IA (Iq (fs τ) fun its=>IE (kx its.length) (Iq ((iP (jb cl T I E (Mk G' fr τ)) its)) fun ds=>.ok (.lst Θ ds))) Kt)
  (fin:∀A ys ds H',iL H H'->H A=Φ->H' A=Δ (.lst ys)->Iz K (fun a=>nw S H a/\a≠A) H' ys ds->Kt (.lst Θ ds)->Q (.ref A) H') :
  wK (RI K vs fs) (stC (MV G fr) (G'.N.drop fr.length)) (gT K T) (RT K (iR I) (lG cl I)) (RD K (vars E) (IC cl E)) σ H Q:=by
 refine Gi (.refl _) hs.right (IA.Iq q) fun its J H1 e1 _ w1 q1 A hA=>?_;obtain⟨gd,q1⟩:=IA.IE q1;have q2:=IA.Iq q1;have hsz:=nq gd;have Z5:H A=Φ:=e1.free hA
 -- T9 is read Vb apart from OV new list
 have L3:∀a,nw S H a->H1 a≠Φ->nw S H a/\a≠A:=fun a h1 h2=>⟨h1,fun z=>h2 (by rw[z];exact hA)⟩
 have w2:K9 K (fun a=>nw S H a/\a≠A) H1 J its:=w1.step (fun a xs h r=>⟨L3 a h r.some,r⟩) fun a xs h=>h;have Lw:Slots K (fun a=>nw S H a/\a≠A) H1 σ τ (fr++vs):=fun i hi d z=>by obtain⟨v,h1,h2⟩:=(hs.go e1) i hi d z;exact⟨v,h1,h2.step (fun a xs h r=>⟨L3 a h r.some,r⟩) fun a xs h=>h⟩
 refine⟨fun i m JC H'=>m=its.length - i/\i<=its.length/\∃ys acc,H' A=Δ (.lst ys)/\Iz K (fun a=>nw S H a/\a≠A) H' ys acc/\ys.length<=i/\iL H1 H'/\JC.length=G'.N.length/\
   (∀j,j < fr.length->JC[j]? = (stC (MV G fr) (G'.N.drop fr.length) σ)[j]?)/\IA (iP (jb cl T I E (Mk G' fr τ)) (its.drop i)) fun ds=>Kt (.lst Θ (acc++ds)),⟨its.length,by simp,Y_ _,[],[],iM,.nil,m_ _,.upd hA,?_,fun _ _=>rfl,?_⟩,?_⟩
 ·rw[A9,aah];omega
 ·rw[List.drop_zero];exact q2.mono fun ds z=>z.ok
 ·rintro i m JC H' ⟨rfl,hi,ys,acc,hy,my,ly,e2,hn,Kl,q3⟩;by_cases JU:i < its.length
  ·refine .inr ⟨(w2.mono (fun _ z=>z) e2).go JU,fun x H2 Z6=>?_⟩;obtain⟨eH,mx⟩:=(w2.mono (fun _ z=>z) e2).NW Z6 (d:=its[i]) (by simp[JU]);have hy:=eH _ _ hy;have my:=my.mono (fun _ z=>z) eH;have e2:=e2.trans eH;have hd:its.drop i=its[i]::its.drop (i+1):=List.drop_eq_getElem_cons JU;rw[hd]at q3;have q4:=IA.Iq q3;have q5:IA (jM T its[i] (Mk G' fr τ)) _:=IA.Iq q4
   have sl:Qm K (fun a=>nw S H a/\a≠A) H2 JC (Mk G' fr τ):=Ba (G:=G) (vs:=vs) (σ:=σ) hl (fun i hi d z=>by
    obtain⟨v,h1,h2⟩:=Lw i hi d z
    exact⟨v,h1,h2.mono (fun _ z=>z) e2⟩) hn Kl
   refine uk T sl mx q5 fun τ' LY Rp LR hk q6=>?_;have SS:LY.length=G'.N.length:=LR.trans hn;have RC:∀j,j < fr.length->LY[j]? = (stC (MV G fr) (G'.N.drop fr.length) σ)[j]?:=fun j hj=>by rw[hk j (fun z=>by have:=ha j z;omega)];exact Kl j hj
   have Xt:∀is,Slots K (fun a=>nw S H a/\a≠A) H2 LY τ' is:=fun is i _ d z=>Rp.2 i d z;refine lL (.refl _) (Xt _) (IA.Iq q6) fun r H4 e4 _ q7=>?_;cases r with
   |false=>rw[d_ n_]at q7 ⊢;have q8:IA (iP (jb cl T I E (Mk G' fr τ)) (its.drop (i+1))) fun ds=>Kt (.lst Θ (acc++ds)):=q7;refine⟨its.length - (i+1),by omega,rfl,JU,ys,acc,e4 _ _ hy,my.mono (fun _ z=>z) e4,by omega,e2.trans e4,SS,RC,q8⟩
   |true=>
    rw[e_ rfl]at q7 ⊢;refine iZ e4 (Xt _) (IA.Iq q7) fun d v H5 e5 e5' m5 q8=>?_;have q9:IA (Iq (iP (jb cl T I E (Mk G' fr τ)) (its.drop (i+1))) fun r=>.ok (d::r)) fun ds=>Kt (.lst Θ (acc++ds)):=q8;have Qc:=IA.Iq q9;have Xu:H5 A=Δ (.lst ys):=e5 _ _ hy;refine⟨ys,Xu,by omega,its.length - (i+1),by omega,rfl,JU,ys++[v],acc++[d],iM,?_,by rw[o_,X_];omega,?_,SS,RC,?_⟩
    ·have Xv:∀a (xs:LD),(nw S H a/\a≠A)->Rd H5 a xs.o->(nw S H a/\a≠A)/\Rd (upd H5 A (.lst (ys++[v]))) a xs.o:=fun a xs h r=>by refine⟨h,?_⟩;unfold Rd;rw[iI h.2];exact r
     have Xw:∀a xs,JO K H5 a xs->JO K (upd H5 A (.lst (ys++[v]))) a xs:=fun a xs h=>h.upd Xu
     have m6:IB K (fun a=>nw S H a/\a≠A) H5 v d:=m5.step (fun a xs h r=>⟨by
      rcases h with h|h
      ·exact h
      ·have:H a=Φ:=e1.free (e2.free h)
       exact⟨.inr this,fun z=>by rw[z,hy]at h;cases h⟩,r⟩) fun a xs h=>h
     exact(((my.mono (fun _ z=>z) e5).step Xv Xw)).append (.cons (m6.step Xv Xw) .nil)
    ·exact fun b o hb=>by
      have:b≠A:=by rintro rfl;rw[hA]at hb;cases hb
      rw[iI this];exact e5 _ _ (e2 _ _ hb)
    ·refine Qc.mono fun ds z=>?_;have z':=z.ok;rw[z_];exact z'
  ·have e:i=its.length:=by omega
   subst e;refine .inl ⟨(w2.mono (fun _ z=>z) e2).stop rfl,?_⟩;rw[List.drop_length]at q3;have q4:=q3.ok;rw[P_]at q4;exact fin A ys acc H' (e1.trans e2) Z5 hy my q4
end
section
variable {Z:Sg}{CX:KJ}{cl:Nat->List D->Res D}{X:Cx}{G G':Gm}{fr:List Nat}
theorem oC:IC cl (.comp G' fr T s I E)=fun τ=>Iq (kO cl s τ) fun its=>IE (kx its.length) (Iq ((iP (jb cl T I E (Mk G' fr τ)) its)) fun ds=>.ok (.lst Θ ds)):=rfl
theorem D9 (g:JY Z CX cl X G)  (hs:MU Z G scope G' fr)(hT:j7 G' T tg=Θ)(ha:∀i∈Lg T,fr.length<=i)
  (hi:PI X tg iter (RI X.K (kj s) (kO cl s))) (ht:∀X',JY Z CX cl X' G'->NZ X' ifs (RT X'.K (iR I) (lG cl I))) (he:∀X',JY Z CX cl X' G'->PE X' elt (RD X'.K (vars E) (IC cl E)))
  (hf:∀x,foldedSetIterable iter X.env x=pure x):PE X (.ListComp elt [⟨tg,iter,ifs,0⟩] scope pos) (RD X.K (fr++kj s) (IC cl (.comp G' fr T s I E))):=by
 intro pins s' σ H Q Iv h;obtain⟨Ku,S⟩:=mP g Iv.ok hs;have p:=tH (pos:=pos) (elt:=elt) (ifs:=ifs) (tg:=tg) (g:=gT X.K T) (tt:=RT X.K (iR I) (lG cl I)) (te:=RD X.K (vars E) (IC cl E)) (g.calm hs.cm) S hi (fun C s H fp=>Pu (jK g hs Ku C s H fp) T tg hT) (fun C s H fp=>ht _ (jK g hs Ku C s H fp)) (fun C s H fp=>he _ (jK g hs Ku C s H fp)) hf;refine p pins s' σ H Q Iv ?_;obtain⟨S0,τ,Vc,q⟩:=h;rw[oC]at q;exact k7 hs.Td ha Vc q fun A ys ds H' e hA Of m k=>k _ _ e (.lst (.inr hA) (.inl Of) (m.mono (fun _ z=>z.1) (.refl _)))
end
section
variable {Z:Sg}{CX:KJ}{cl:Nat->List D->Res D}
theorem vV (h:Ju Z G a e=Θ)(env:Env)(x:Ψ):foldedSetIterable e env x=pure x:=by
 induction e using zE<;>first|rfl|(induction a using zI<;>cases h)
theorem j9 (h:kl Z G a e=Θ)(env:Env)(x:Ψ):foldedSetIterable e env x=pure x:=by
 cases a with
 |val a=>exact vV (show Ju Z G a e=Θ from h) env x
 |_=>induction e using zE<;>first|rfl|cases h
theorem both (h:PE X e (RD X.K is f))(he:∀whole,isTrue e X.env whole=(do let v <- whole;standAt e.pos;holding [v] (truthy v)):=by intro _;rfl) :
  PE X e (RD X.K is f)/\PT X e (RT X.K is fun τ=>Iq (f τ) iX):=⟨h,F0 h he⟩
mutual
theorem snd:∀(a:IR) (X:Cx) (G:Gm) (e:Expr),JY Z CX cl X G->Ju Z G a e=Θ->PE X e (RD X.K (vars a) (IC cl a))/\PT X e (RT X.K (vars a) fun τ=>Iq (IC cl a τ) iX)
 |.c d,X,G,e,g,h=>by
  induction e using zE with
  |Constant k j pos=>exact both (ZW h)
  |_=>exists h
 |.g n d,X,G,e,g,h=>by
  induction e using zE with
  |Name x pos=>have h':(ou Z G n x&&Z.Qj.any fun p=>p.1 == n&&vT p.2 d)=Θ:=h;rw[g_]at h';exact both (ZX g h'.1 h'.2)
  |_=>exists h
 |.v i,X,G,e,g,h=>by
  induction e using zE with
  |Name x pos=>exact both (ZV g h)
  |_=>exists h
 |.bin op a b,X,G,e,g,h=>by
  induction e using zE with
  |BinOp l o r pos=>have h':(o == Oa op&&Ju Z G a l&&Ju Z G b r)=Θ:=h;simp only[g_]at h';have e1:o=Oa op:=h_ h'.1.1;subst e1;exact both (F3 (snd a X G l g h'.1.2).1 (snd b X G r g h'.2).1)
  |_=>exists h
 |.neg a,X,G,e,g,h=>by
  induction e using zE with
  |UnaryOp o l pos=>
   cases o with
   |USub=>exact both (F4 (snd a X G l g h).1)
   |_=>exists h
  |_=>exists h
 |.cmp op a b,X,G,e,g,h=>by
  induction e using zE with
  |Compare l os rs pos=>
   match os,rs,h with
   |[o],[r],h=>have h':(o == LL op&&Ju Z G a l&&Ju Z G b r&&!behindInMarks o r)=Θ:=h;simp only[g_]at h';have e1:o=LL op:=h_ h'.1.1.1;subst e1;exact F5 g (snd a X G l g h'.1.1.2).1 (snd b X G r g h'.1.2).1 (by simpa using h'.2)
   |[],_,h=>exists h
   |[_],[],h=>exists h
   |[_],_::_::_,h=>exists h
   |_::_::_,_,h=>exists h
  |_=>exists h
 |.chain op J9 a b c,X,G,e,g,h=>by
  induction e using zE with
  |Compare l os rs pos=>
   match os,rs,h with
   |[o,o'],[m,r],h=>have h':(o == LL op&&o' == LL J9&&Ju Z G a l&&Ju Z G b m&&Ju Z G c r&&!lastMarks [o,o'] [m,r])=Θ:=h;simp only[g_]at h';have e1:o=LL op:=h_ h'.1.1.1.1.1;have e2:o'=LL J9:=h_ h'.1.1.1.1.2;subst e1 e2;exact A6 g (snd a X G l g h'.1.1.1.2).1 (snd b X G m g h'.1.1.2).1 (snd c X G r g h'.1.2).1 (by simpa using h'.2)
   |[],_,h=>exists h
   |[_],_,h=>exists h
   |[_,_],[],h=>exists h
   |[_,_],[_],h=>exists h
   |[_,_],_::_::_::_,h=>exists h
   |_::_::_::_,_,h=>exists h
  |_=>exists h
 |.JX a b,X,G,e,g,h=>by
  induction e using zE with
  |BoolOp o es pos=>
   match o,es,h with
   |.And,[l,r],h=>have h':(Ju Z G a l&&Ju Z G b r)=Θ:=h;rw[g_]at h';obtain⟨pa,ta⟩:=snd a X G l g h'.1;obtain⟨pb,tb⟩:=snd b X G r g h'.2;exact⟨Cc pa (wb pb),Cd ta (Ae tb)⟩
   |.And,l::r::r'::rest,h=>have h':(Ju Z G a l&&Ju Z G b (.BoolOp .And (r::r'::rest) pos))=Θ:=h;rw[g_]at h';obtain⟨pa,ta⟩:=snd a X G l g h'.1;obtain⟨pb,tb⟩:=snd b X G _ g h'.2;exact⟨Cc pa pb,Cd ta (xY (e:=l) tb)⟩
   |.And,[],h=>exists h
   |.And,[_],h=>exists h
   |.Or,_,h=>exists h
  |_=>exists h
 |.Lf a b,X,G,e,g,h=>by
  induction e using zE with
  |BoolOp o es pos=>
   match o,es,h with
   |.Or,[l,r],h=>have h':(Ju Z G a l&&Ju Z G b r)=Θ:=h;rw[g_]at h';obtain⟨pa,ta⟩:=snd a X G l g h'.1;obtain⟨pb,tb⟩:=snd b X G r g h'.2;exact⟨F6 pa (wb pb),F8 ta (C3 tb)⟩
   |.Or,l::r::r'::rest,h=>have h':(Ju Z G a l&&Ju Z G b (.BoolOp .Or (r::r'::rest) pos))=Θ:=h;rw[g_]at h';obtain⟨pa,ta⟩:=snd a X G l g h'.1;obtain⟨pb,tb⟩:=snd b X G _ g h'.2;exact⟨F6 pa pb,F8 ta (xY (e:=l) tb)⟩
   |.Or,[],h=>exists h
   |.Or,[_],h=>exists h
   |.And,_,h=>exists h
  |_=>exists h
 |.Kr a,X,G,e,g,h=>by
  induction e using zE with
  |UnaryOp o l pos=>
   cases o with
   |Not=>obtain⟨pa,ta⟩:=snd a X G l g h;exact F7 pa ta
   |_=>exists h
  |_=>exists h
 |.ite t a b,X,G,e,g,h=>by
  induction e using zE with
  |IfExp c x y pos=>have h':(Ju Z G t c&&Ju Z G a x&&Ju Z G b y)=Θ:=h;simp only[g_]at h';obtain⟨pa,ta⟩:=snd a X G x g h'.1.2;obtain⟨pb,tb⟩:=snd b X G y g h'.2;exact F9 (snd t X G c g h'.1.1).2 pa pb ta tb
  |_=>exists h
 |.tup es,X,G,e,g,h=>by
  induction e using zE with
  |Tuple l n pos=>exact both (Ga (rD es X G l g h))
  |_=>exists h
 |.lst es,X,G,e,g,h=>by
  induction e using zE with
  |List l pos=>exact both (Gb (rD es X G l g h))
  |_=>exists h
 |.idx a i,X,G,e,g,h=>by
  induction e using zE with
  |Subscript o s pos=>
   have h':(jk s&&Ju Z G a o&&Ju Z G i s)=Θ:=by cases s<;>first|exact h|(rename_i l u st p;cases st<;>exact h)
   simp only[g_]at h';exact both (Gd (snd a X G o g h'.1.2).1 (snd i X G s g h'.2).1 h'.1.1)
  |_=>exists h
 |.sl a lo hi,X,G,e,g,h=>by
  induction e using zE with
  |Subscript o s pos=>
   match s,h with
   |.Slice l u Φ p,h=>have h':(Ju Z G a o&&sO Z G lo l&&sO Z G hi u)=Θ:=h;simp only[g_]at h';exact both (HS (snd a X G o g h'.1.1).1 (Bb lo X G l g h'.1.2) (Bb hi X G u g h'.2))
   |.Slice _ _ (Δ _) _,h=>exists h
   |.BoolOp ..,h=>exists h
   |.NamedExpr ..,h=>exists h
   |.BinOp ..,h=>exists h
   |.UnaryOp ..,h=>exists h
   |.Lambda ..,h=>exists h
   |.IfExp ..,h=>exists h
   |.Dict ..,h=>exists h
   |.Set ..,h=>exists h
   |.ListComp ..,h=>exists h
   |.SetComp ..,h=>exists h
   |.DictComp ..,h=>exists h
   |.GeneratorExp ..,h=>exists h
   |.Await ..,h=>exists h
   |.Yield ..,h=>exists h
   |.YieldFrom ..,h=>exists h
   |.Compare ..,h=>exists h
   |.Call ..,h=>exists h
   |.FormattedValue ..,h=>exists h
   |.JoinedStr ..,h=>exists h
   |.Constant ..,h=>exists h
   |.Attribute ..,h=>exists h
   |.Subscript ..,h=>exists h
   |.Starred ..,h=>exists h
   |.Name ..,h=>exists h
   |.List ..,h=>exists h
   |.Tuple ..,h=>exists h
  |_=>exists h
 |.call f es,X,G,e,g,h=>by
  induction e using zE with
  |Call fn args K6 pos=>
   induction fn using zE with
   |Name x p=>
    cases K6 with
    |nil=>have h':(ou Z G f x&&Z.OC G f&&ju Z G es args)=Θ:=h;simp only[g_]at h';exact both (s_call g h'.1.1 h'.1.2 h'.2 (rD es X G args g h'.2))
    |cons _ _=>exists h
   |_=>exists h
  |_=>exists h
 |.bi f es,X,G,e,g,h=>by
  induction e using zE with
  |Call fn args K6 pos=>
   induction fn using zE with
   |Name x p=>
    cases K6 with
    |nil=>
     cases args with
     |nil=>exists h
     |cons a args=>have h':(x == kJ f&&G.LM (pI f)&&ju Z G es (a::args))=Θ:=h;simp only[g_]at h';have e1:x=kJ f:=h_ h'.1.1;subst e1;exact both (HU g h'.1.2 h'.2 (rD es X G _ g h'.2))
    |cons _ _=>cases args<;>exists h
   |_=>exists h
  |_=>exists h
 |.KQ a,X,G,e,g,h=>by
  have h:Ru e (fun x o n l=>x == "sorted"&&G.LM 4&&isNm o&&n == "items"&&l&&Ju Z G a o)=Θ:=by induction e using zE<;>exact h
  obtain⟨x,p,o,n,apos,IF,q,rfl,h⟩:=xV h;have h:(x == "sorted"&&G.LM 4&&isNm o&&n == "items"&&(apos.endLine == IF.line)&&Ju Z G a o)=Θ:=h;simp only[g_]at h;have e1:x = "sorted":=h_ h.1.1.1.1.1;have e2:n = "items":=h_ h.1.1.2;subst e1 e2;exact both (D5 g h.1.1.1.1.2 h.1.1.1.2 h.1.2 (snd a X G o g h.2).1)
 |.K5 a b,X,G,e,g,h=>by
  have h:U0 e (fun x y e e'=>x == "list"&&G.LM 5&&y == "zip"&&G.gl.contains 17&&(notStar e&&notStar e')&&Ju Z G a e&&Ju Z G b e')=Θ:=by induction e using zE<;>exact h
  obtain⟨x,p,y,p',ea,eb,pos',pos,rfl,h'⟩:=DY h;simp only[g_]at h';obtain⟨⟨⟨⟨⟨⟨hx,h5⟩,hy⟩,Z7⟩,hn,LR⟩,ha⟩,hb⟩:=h';have e1:x = "list":=h_ hx;have e2:y = "zip":=h_ hy;subst e1 e2;exact both (D6 g h5 Z7 hn LR (snd a X G ea g ha).1 (snd b X G eb g hb).1)
 |.K3,X,G,e,g,h=>by
  have h:S7 e=Θ:=by induction e using zE<;>exact h
  obtain⟨pos,rfl⟩:=xU h;exact both D3
 |.K4 a k,X,G,e,g,h=>by
  have h:S8 e (fun o s=>jk s&&Ju Z G a o&&Ju Z G k s)=Θ:=by induction e using zE<;>exact h
  obtain⟨o,s,pos,rfl,q1⟩:=DV h;simp only[g_]at q1;exact both (D4 g (snd a X G o g q1.1.2).1 (snd k X G s g q1.2).1 q1.1.1)
 |.sset a,X,G,e,g,h=>by
  have h:UZ e (fun x y e=>x == "sorted"&&G.gl.contains 4&&y == "set"&&G.gl.contains 12&&(notStar e&&G.cm)&&Ju Z G a e)=Θ:=by induction e using zE<;>exact h
  obtain⟨x,p,y,p',e',q',q,rfl,h⟩:=DW h;have h:(x == "sorted"&&G.gl.contains 4&&y == "set"&&G.gl.contains 12&&(notStar e'&&G.cm)&&Ju Z G a e')=Θ:=h;simp only[g_]at h;have e1:x = "sorted":=h_ h.1.1.1.1.1;have e2:y = "set":=h_ h.1.1.1.2;subst e1 e2;exact both (D0 g h.1.1.1.1.2 h.1.1.2 h.1.2.1 h.1.2.2 (snd a X G e' g h.2).1)
 |.Kj a k d,X,G,e,g,h=>by
  have h:S9 e (fun o n l s f=>isNm o&&n == "get"&&l&&(notStar s&&notStar f)&&Ju Z G a o&&Ju Z G k s&&Ju Z G d f)=Θ:=by induction e using zE<;>exact h
  obtain⟨o,n,apos,s,f,IF,rfl,h⟩:=DZ h;have h:(isNm o&&n == "get"&&(apos.endLine == IF.line)&&(notStar s&&notStar f)&&Ju Z G a o&&Ju Z G k s&&Ju Z G d f)=Θ:=h;simp only[g_]at h;obtain⟨⟨⟨⟨⟨⟨h1,h2⟩,h3⟩,h4,h5⟩,h6⟩,h7⟩,h8⟩:=h;have e2:n = "get":=h_ h2;subst e2;exact both (A7 g h1 h3 h4 h5 (snd a X G o g h6).1 (snd k X G s g h7).1 (snd d X G f g h8).1)
 |.Kz a k,X,G,e,g,h=>by
  induction e using zE with
  |Call fn args K6 pos=>
   induction fn using zE with
   |Name x p=>
    match args,K6,h with
    |[o,.Name y p'],[],h=>have h':(x == "isinstance"&&G.gl.contains 14&&y == lJ k&&G.gl.contains (ud k)&&notStar o&&Ju Z G a o)=Θ:=h;simp only[g_]at h';have e1:x = "isinstance":=h_ h'.1.1.1.1.1;have e2:y=lJ k:=h_ h'.1.1.1.2;subst e1 e2;exact both (Ge g h'.1.1.1.1.2 h'.1.1.2 h'.1.2 (snd a X G o g h'.2).1)
    |[],_,h=>exists h
    |[_],_,h=>exists h
    |_::b::_::_,k,h=>cases b<;>cases k<;>exists h
    |[_,.Name _ _],_::_,h=>exists h
    |[_,.BoolOp ..],_,h=>exists h
    |[_,.NamedExpr ..],_,h=>exists h
    |[_,.BinOp ..],_,h=>exists h
    |[_,.UnaryOp ..],_,h=>exists h
    |[_,.Lambda ..],_,h=>exists h
    |[_,.IfExp ..],_,h=>exists h
    |[_,.Dict ..],_,h=>exists h
    |[_,.Set ..],_,h=>exists h
    |[_,.ListComp ..],_,h=>exists h
    |[_,.SetComp ..],_,h=>exists h
    |[_,.DictComp ..],_,h=>exists h
    |[_,.GeneratorExp ..],_,h=>exists h
    |[_,.Await ..],_,h=>exists h
    |[_,.Yield ..],_,h=>exists h
    |[_,.YieldFrom ..],_,h=>exists h
    |[_,.Compare ..],_,h=>exists h
    |[_,.Call ..],_,h=>exists h
    |[_,.FormattedValue ..],_,h=>exists h
    |[_,.JoinedStr ..],_,h=>exists h
    |[_,.Constant ..],_,h=>exists h
    |[_,.Attribute ..],_,h=>exists h
    |[_,.Subscript ..],_,h=>exists h
    |[_,.Starred ..],_,h=>exists h
    |[_,.Slice ..],_,h=>exists h
    |[_,.List ..],_,h=>exists h
    |[_,.Tuple ..],_,h=>exists h
   |_=>exists h
  |_=>exists h
 |.L9 m o es,X,G,e,g,h=>by
  induction e using zE with
  |Call fn args K6 pos=>
   induction fn using zE with
   |Attribute oe name apos=>
    match args,K6,h with
    |a::args,[],h=>have h':(name == n9 m&&ot oe&&apos.endLine == pos.line&&(decide ((a::args).length < 29)&&(G.cm||sN m))&&Ju Z G o oe&&ju Z G es (a::args))=Θ:=h;simp only[g_]at h';have e1:name=n9 m:=h_ h'.1.1.1.1.1;subst e1;exact both (Gf g h'.1.1.1.1.2 h'.1.1.1.2 (q_ h'.1.1.2.1) h'.1.1.2.2 h'.2 (snd o X G oe g h'.1.2).1 (rD es X G _ g h'.2))
    |[],_,h=>exists h
    |_::_,_::_,h=>exists h
   |_=>exists h
  |_=>exists h
 |.comp G' fr tg src ifs elt,X,G,e,g,h=>by
  induction e using zE with
  |ListComp el gens scope pos=>
   have h:vU gens (fun t it fs=>jJ Z G scope G' fr&&j7 G' tg t&&(Lg tg).all (fun i=>decide (fr.length<=i))&&(kl Z G src it&&nc src t)&&ju Z G' ifs fs&&Ju Z G' elt el)=Θ:=h;obtain⟨t,it,fs,rfl,h⟩:=qd h;have h':(jJ Z G scope G' fr&&j7 G' tg t&&(Lg tg).all (fun i=>decide (fr.length<=i))&&(kl Z G src it&&nc src t)&&ju Z G' ifs fs&&Ju Z G' elt el)=Θ:=h;simp only[g_]at h'
   exact both (D9 g (qf h'.1.1.1.1.1) h'.1.1.1.1.2 (fun i hi=>q_ (R_.mp h'.1.1.1.2 i hi)) (Bd src X G it t g h'.1.1.2.1 h'.1.1.2.2)
    (fun X' g'=>Bc ifs X' G' fs g' h'.1.2) (fun X' g'=>(snd elt X' G' el g' h'.2).1) (fun x=>j9 h'.1.1.2.1 X.env x))
  |_=>exists h
theorem rD:∀(as:List IR) (X:Cx) (G:Gm) (l:List Expr),JY Z CX cl X G->ju Z G as l=Θ->PA X l (RA X.K (iR as) (jy cl as))
 |[],X,G,l,g,h=>by
  cases l with
  |nil=>exact pW jO fun σ H Q ⟨S,τ,hs,q⟩=>q.ok _ _ (.refl _) .nil
  |cons _ _=>exists h
 |a::as,X,G,l,g,h=>by
  cases l with
  |nil=>exists h
  |cons e l=>have h':(notStar e&&Ju Z G a e&&ju Z G as l)=Θ:=h;simp only[g_]at h';refine pW (jn (snd a X G e g h'.1.2).1 (rD as X G l g h'.2) (iC h'.1.1 _ _)) fun σ H Q ⟨S,τ,hs,q⟩=>?_;refine iZ (.refl _) hs.left (IA.Iq q) fun x v H1 e1 _ m1 q1=>?_;refine rp e1 hs.right (IA.Iq q1) fun ds vs H2 e2 Kh m2 q2=>?_;exact q2.ok _ _ e2 (.cons (m1.later Kh) m2)
theorem Bb:∀(o:Option IR) (X:Cx) (G:Gm) (e:Option Expr),JY Z CX cl X G->sO Z G o e=Θ->PO X e (Ql X.K (xD o) (p8 cl o))
 |none,X,G,e,g,h=>by
  cases e with
  |none=>intro pins s σ H Q I ⟨S,τ,hs,q⟩;exact Am pins s σ H Q I (q.ok H (.refl _))
  |some _=>exists h
 |some a,X,G,e,g,h=>by
  cases e with
  |none=>exists h
  |some e=>
   intro pins s σ H Q I ⟨S,τ,hs,q⟩;refine An (snd a X G e g h).1 pins s σ H Q I ?_;refine iZ (.refl _) hs (IA.Iq q) fun x v H1 e1 _ m1 q1=>?_
   induction x using zD with
   |int i=>cases m1.JE;exact⟨i,rfl,q1.ok _ e1⟩
   |_=>exact q1.no.elim
theorem Bc:∀(as:List IR) (X:Cx) (G:Gm) (l:List Expr),JY Z CX cl X G->ju Z G as l=Θ->NZ X l (RT X.K (iR as) (lG cl as))
 |[],X,G,l,g,h=>by
  cases l with
  |nil=>intro pins s σ H Q I ⟨S,τ,hs,q⟩;exact As pins s σ H Q I (q.ok H (.refl _))
  |cons _ _=>exists h
 |a::as,X,G,l,g,h=>by
  cases l with
  |nil=>exists h
  |cons e l=>
   have h':(notStar e&&Ju Z G a e&&ju Z G as l)=Θ:=h;simp only[g_]at h';intro pins s σ H Q I ⟨S,τ,hs,q⟩;refine wJ (snd a X G e g h'.1.2).2 (Bc as X G l g h'.2) pins s σ H Q I ?_;refine lL (.refl _) hs.left (IA.Iq q) fun r H2 e2 _ k=>?_;cases r with
   |true=>rw[e_ rfl]at k ⊢;exact lL e2 hs.right k fun b H3 e3 _ z=>z H3 e3
   |false=>rw[d_ n_]at k ⊢;exact k.ok H2 e2
theorem Bd:∀(s:Sr) (X:Cx) (G:Gm) (e tg:Expr),JY Z CX cl X G->kl Z G s e=Θ->nc s tg=Θ->PI X tg e (RI X.K (kj s) (kO cl s))
 |.JP n,X,G,e,tg,g,h,ht=>by
  induction e using zE with
  |Call fn args K6 pos=>
   induction fn using zE with
   |Name x p=>
    match args,K6,h with
    |[a],[],h=>have h':(x == "range"&&G.gl.contains 15&&notStar a&&Ju Z G n a)=Θ:=h;simp only[g_]at h';have e1:x = "range":=h_ h'.1.1.1;subst e1;exact D8 g h'.1.1.2 h'.1.2 (snd n X G a g h'.2).1
    |[],_,h=>exists h
    |[_],_::_,h=>exists h
    |_::_::_,_,h=>exists h
   |_=>exists h
  |_=>exists h
 |.val a,X,G,e,tg,g,h,ht=>Gj (snd a X G e g h).1
 |.LU a,X,G,e,tg,g,h,ht=>by
  induction tg using zE with
  |Tuple Z8 tc tp=>
   induction e using zE with
   |Call fn args K6 pos=>
    induction fn using zE with
    |Name x p=>
     match args,K6,h with
     |[l],[],h=>have h':(x == "enumerate"&&G.gl.contains 20&&notStar l&&Ju Z G a l)=Θ:=h;simp only[g_]at h';have e1:x = "enumerate":=h_ h'.1.1.1;subst e1;exact Gq g h'.1.1.2 h'.1.2 (snd a X G l g h'.2).1
     |[],_,h=>exists h
     |[_],_::_,h=>exists h
     |_::_::_,_,h=>exists h
    |_=>exists h
   |_=>exists h
  |_=>exact gf ht
 |.zip a b,X,G,e,tg,g,h,ht=>by
  induction tg using zE with
  |Tuple Z8 tc tp=>
   induction e using zE with
   |Call fn args K6 pos=>
    induction fn using zE with
    |Name x p=>
     match args,K6,h with
     |[l,r],[],h=>have h':(x == "zip"&&G.gl.contains 17&&notStar l&&notStar r&&Ju Z G a l&&Ju Z G b r)=Θ:=h;simp only[g_]at h';have e1:x = "zip":=h_ h'.1.1.1.1.1;subst e1;exact Gn g h'.1.1.1.1.2 h'.1.1.1.2 h'.1.1.2 (snd a X G l g h'.1.2).1 (snd b X G r g h'.2).1
     |[],_,h=>exists h
     |[_],_,h=>exists h
     |[_,_],_::_,h=>exists h
     |_::_::_::_,_,h=>exists h
    |_=>exists h
   |_=>exists h
  |_=>exact gf ht
end
end
inductive JN (K:Frag)(F:Ω->Prop)(H:Hp):St->Ev->List Ω->Prop where
 | nil:JN K F H [] [] []
 | none {o:Option V}{σ:St}{τ:Ev}{f:List Ω}:JN K F H σ τ f->JN K F H (o::σ) (.none::τ) f
 | some {v:V}{d:D}{f:List Ω}{σ:St}{τ:Ev}{g:List Ω}:JB K F H v d f->JN K F H σ τ g->JN K F H (.some v::σ) (.some d::τ) (f++g)
section
variable {K:Frag}{F F':Ω->Prop}{H H':Hp}{σ:St}{τ:Ev}{f:List Ω}
theorem JN.len:∀ {σ:St}{τ:Ev}{f:List Ω},JN K F H σ τ f->σ.length=τ.length
 |_,_,_,.nil=>rfl
 |_,_,_,.none h=>by rw[List.length_cons,List.length_cons,JN.len h]
 |_,_,_,.some _ h=>by rw[List.length_cons,List.length_cons,JN.len h]
theorem JN.step (hl:∀a (u:LD),F a->Rd H a u.o->F' a/\Rd H' a u.o)(ht:∀a xs,JO K H a xs->JO K H' a xs):∀ {σ:St}{τ:Ev}{f:List Ω},(∀a∈f,¬F a->H a≠Option.none->¬F' a/\H' a=H a)->JN K F H σ τ f->JN K F' H' σ τ f
 |_,_,_,_,.nil=>.nil
 |_,_,_,k,.none h=>.none (JN.step hl ht k h)
 |_,_,_,k,.some m h=>.some (m.step hl ht fun a ha=>k a (s_ _ ha)) (JN.step hl ht (fun a ha=>k a (t_ _ ha)) h)
theorem JN.own:∀ {σ:St}{τ:Ev}{f:List Ω},JN K F H σ τ f->∀a∈f,¬F a/\∃u,H a=.some u
 |_,_,_,.nil=>fun _ h=>absurd h (by simp)
 |_,_,_,.none h=>JN.own h
 |_,_,_,.some m h=>fun a ha=>by
  rcases C_.mp ha with ha|ha
  ·exact m.own a ha
  ·exact JN.own h a ha
theorem kc:iF (o::τ) (i+1)=iF τ i:=by unfold iF;simp
theorem kL:iF (o::τ) 0=o:=by unfold iF;simp
theorem JN.at:∀ {σ:St}{τ:Ev}{f:List Ω}{i:Nat}{d:D},JN K F H σ τ f->iF τ i=.some d->∃v fv g,σ[i]? = .some (.some v)/\JB K F H v d fv/\JN K F H σ (τ.set i .none) g/\f.Perm (fv++g)
 |_,_,_,i,d,.nil,h=>by simp[iF]at h
 |_,_,_,0,d,.none _,h=>by rw[kL]at h;cases h
 |_,_,_,0,d,.some m h',h=>by rw[kL]at h;cases h;exact⟨_,_,_,rfl,m,.none h',.refl _⟩
 |_,_,_,i+1,d,.none h',h=>by rw[kc]at h;obtain⟨v,fv,g,h1,h2,h3,h4⟩:=JN.at h' h;exact⟨v,fv,g,by simpa using h1,h2,.none h3,h4⟩
 |_,_,_,i+1,d,.some (f:=f0) m h',h=>by rw[kc]at h;obtain⟨v,fv,g,h1,h2,h3,h4⟩:=JN.at h' h;refine⟨v,fv,f0++g,by simpa using h1,h2,.some m h3,?_⟩;refine(aas f0 h4).trans ?_;rw[<- z_,<- z_];exact List.Perm.append_right g aan
theorem JN.put:∀ {σ:St}{τ:Ev}{f:List Ω} (i:Nat) {v:V}{d:D}{fv:List Ω},JN K F H σ τ f->JB K F H v d fv->∃g h,JN K F H (σ.set i (.some v)) (τ.set i (.some d)) g/\(g++h).Perm (fv++f)
 |_,_,_,i,v,d,fv,.nil,m=>⟨[],_,.nil,.refl _⟩
 |_,_,_,0,v,d,fv,.none h,m=>⟨_,[],.some m h,by rw[P_]⟩
 |_,_,_,0,v,d,fv,.some (f:=f0) (g:=g0) m' h,m=>⟨_,f0,.some m h,by rw[z_];exact aas _ aan⟩
 |_,_,_,i+1,v,d,fv,.none h,m=>by obtain⟨g,h',h1,h2⟩:=JN.put i h m;exact⟨g,h',.none h1,h2⟩
 |_,_,_,i+1,v,d,fv,.some (f:=f0) (g:=g0) m' h,m=>by obtain⟨g,h',h1,h2⟩:=JN.put i h m;refine⟨f0++g,h',.some m' h1,?_⟩;rw[z_];refine(aas f0 h2).trans ?_;rw[<- z_,<- z_];exact List.Perm.append_right g0 aan
theorem JN.slots (h:JN K F H σ τ f)(hF:∀a,F a->S a)(hf:∀a∈f,S a):Slots K S H σ τ is:=fun i hi d z=>by obtain⟨v,fv,g,h1,h2,h3,h4⟩:=h.at z;exact⟨v,h1,h2.read hF fun a ha=>hf a (h4.mem_iff.mpr (s_ _ ha))⟩
theorem JN.freeze (is:List Nat):∀ {σ:St}{τ:Ev}{f:List Ω} (k:Nat),JN K F H σ τ f->∃fi g,f.Perm (fi++g)/\(∀F':Ω->Prop,(∀a,F a->F' a)->(∀a∈fi,F' a)->(∀a∈g,¬F a->¬F' a)->JN K F' H σ (oY is k τ) g)/\
  ∀F':Ω->Prop,(∀a,F a->F' a)->(∀a∈fi,F' a)->∀i,is.contains (k+i)=Θ->∀d,iF τ i=.some d->∃v,σ[i]? = .some (.some v)/\IB K F' H v d
 |_,_,_,k,.nil=>⟨[],[],.refl _,fun _ _ _ _=>.nil,fun _ _ _ i _ d z=>by simp[iF]at z⟩
 |_,_,_,k,.none h=>by
  obtain⟨fi,g,h1,h2,h3⟩:=JN.freeze is (k+1) h;refine⟨fi,g,h1,fun F' a b c=>?_,fun F' a b i hi d z=>?_⟩
  ·unfold oY;have e:(if is.contains k=Θ then Option.map er (Option.none:Option D) else Option.none)=Option.none:=by split<;>rfl
   rw[e];exact .none (h2 F' a b c)
  ·cases i with
   |zero=>rw[kL]at z;cases z
   |succ i=>rw[kc]at z;obtain⟨v,q1,q2⟩:=h3 F' a b i (by rw[show k+1+i=k+(i+1) by omega];exact hi) d z;exact⟨v,by simpa using q1,q2⟩
 |_,_,_,k,.some (v:=v) (d:=d0) (f:=f0) (g:=g0) m h=>by
  obtain⟨fi,g,h1,h2,h3⟩:=JN.freeze is (k+1) h;by_cases hc:is.contains k=Θ
  ·refine⟨f0++fi,g,by rw[z_];exact aas _ h1,fun F' a b c=>?_,fun F' a b i hi d z=>?_⟩
   ·unfold oY;rw[e_ hc];exact .some (f:=[]) ((m.read a fun x hx=>b x (s_ _ hx)).frozen) (h2 F' a (fun x hx=>b x (t_ _ hx)) c)
   ·cases i with
    |zero=>rw[kL]at z;cases z;exact⟨v,rfl,m.read a fun x hx=>b x (s_ _ hx)⟩
    |succ i=>rw[kc]at z;obtain⟨v,q1,q2⟩:=h3 F' a (fun x hx=>b x (t_ _ hx)) i (by rw[show k+1+i=k+(i+1) by omega];exact hi) d z;exact⟨v,by simpa using q1,q2⟩
  ·refine⟨fi,f0++g,?_,fun F' a b c=>?_,fun F' a b i hi d z=>?_⟩
   ·refine(aas f0 h1).trans ?_;rw[<- z_,<- z_];exact List.Perm.append_right g aan
   ·unfold oY;rw[d_ hc];exact .some (m.step (fun x xs q r=>⟨a x q,r⟩) (fun x xs q=>q) fun x hx n _=>⟨c x (s_ _ hx) n,rfl⟩) (h2 F' a b fun x hx=>c x (t_ _ hx))
   ·cases i with
    |zero=>exact absurd hi hc
    |succ i=>rw[kc]at z;obtain⟨v,q1,q2⟩:=h3 F' a b i (by rw[show k+1+i=k+(i+1) by omega];exact hi) d z;exact⟨v,by simpa using q1,q2⟩
end
structure Ml (F:Ω->Prop)(H:Hp)(f:List Ω)(F':Ω->Prop)(H':Hp):Prop where
 same:iL H H'
 inn:∀a,F a->F' a
 out:∀a,F' a->F a∨a∈f∨H a=Φ
structure Ow (K:Frag)(F:Ω->Prop)(H:Hp)(f:List Ω)(F':Ω->Prop)(H':Hp)(σ:St)(v:V)(d:D)(fv:List Ω)(τ':Ev)(f':List Ω):Prop where
 LA:Ml F H f F' H'
 JL:LV F' H'
 rep:JB K F' H' v d fv
 J8:JN K F' H' σ τ' f'
 J7:(fv++f').Nodup
 mem:∀a∈fv++f',a∈f∨H a=Φ
structure Z9 (K:Frag)(F:Ω->Prop)(H:Hp)(f:List Ω)(F':Ω->Prop)(H':Hp)(σ:St)(v:List V)(d:List D)(fv:List Ω)(τ':Ev)(f':List Ω):Prop where
 LA:Ml F H f F' H'
 JL:LV F' H'
 rep:ID K F' H' v d fv
 J8:JN K F' H' σ τ' f'
 J7:(fv++f').Nodup
 mem:∀a∈fv++f',a∈f∨H a=Φ
section
variable {K:Frag}{F F' Xx:Ω->Prop}{H H' Xy:Hp}{f f':List Ω}
theorem Ml.refl:Ml F H f F H:=⟨.refl _,fun _ h=>h,fun _ h=>.inl h⟩
theorem Ml.trans (a:Ml F H f F' H')(b:Ml F' H' f' Xx Xy)(hf:∀x∈f',x∈f∨H x=Φ):Ml F H f Xx Xy:=⟨a.same.trans b.same,fun x h=>b.inn x (a.inn x h),fun x h=>by
 rcases b.out x h with h|h|h
 ·exact a.out x h
 ·rcases hf x h with h|h
  ·exact .inr (.inl h)
  ·exact .inr (.inr h)
 ·exact .inr (.inr (a.same.free h))⟩
theorem JB.LA (m:JB K F H v d fv)(s:Ml F H f F' H')(h:∀a∈fv,a∉f):JB K F' H' v d fv:=
 m.step (fun a xs q r=>⟨s.inn a q,s.same.rd r⟩) (fun a xs q=>s.same.Lo q) fun a ha n hn=>by
  obtain⟨_,xs,e⟩:=m.own a ha;refine⟨fun z=>?_,(s.same _ _ e).trans e.symm⟩;rcases s.out a z with z|z|z
  ·exact n z
  ·exact h a ha z
  ·exact hn z
theorem ID.LA (m:ID K F H v d fv)(s:Ml F H f F' H')(h:∀a∈fv,a∉f):ID K F' H' v d fv:=
 m.step (fun a xs q r=>⟨s.inn a q,s.same.rd r⟩) (fun a xs q=>s.same.Lo q) fun a ha n hn=>by
  obtain⟨_,xs,e⟩:=m.own a ha;refine⟨fun z=>?_,(s.same _ _ e).trans e.symm⟩;rcases s.out a z with z|z|z
  ·exact n z
  ·exact h a ha z
  ·exact hn z
end
def RO (K:Frag)(g:Ev->Res (D×Ev)):TE:=fun σ H Q=>∃F τ f,LV F H/\JN K F H σ τ f/\f.Nodup/\IA (g τ) fun p=>∀v H' F' fv f',Ow K F H f F' H' σ v p.1 fv p.2 f'->Q v H'
def Qn (K:Frag)(g:Ev->Res (List D×Ev)):TA:=fun σ H Q=>∃F τ f,LV F H/\JN K F H σ τ f/\f.Nodup/\IA (g τ) fun p=>∀v H' F' fv f',Z9 K F H f F' H' σ v p.1 fv p.2 f'->Q v H'
abbrev Kn (K:Frag)(S:Ω->Prop)(H:Hp)(Q:VK):List D->Prop:=fun ds=>∀p ys H',iL H H'->H p=Φ->H' p=Δ (.lst ys)->Iz K (fun a=>nw S H a/\a≠p) H' ys ds->Q (.ref p) H'
def RN (K:Frag)(is:List Nat)(f:Ev->Res (List D)):TE:=fun σ H Q=>∃S τ,Slots K S H σ τ is/\IA (f τ) (Kn K S H Q)
noncomputable def kM:D->Res (List D)
 |.lst _ ds=>.ok ds
 |_=>Jw
section
variable {K:Frag}{F F':Ω->Prop}{H H':Hp}{σ:St}{τ:Ev}{f:List Ω}{S:Ω->Prop}
theorem x9 (m:Iz K (nw S H) H2 vs ds)(hp:H2 p=Φ):Iz K (fun a=>nw S H a/\a≠p) (upd H2 p (.lst ws)) vs ds:=
 m.step (fun a xs h r=>by
  have Ly:a≠p:=fun z=>r.some (by rw[z];exact hp);refine⟨⟨h,Ly⟩,?_⟩;unfold Rd;rw[iI Ly]
  exact r) fun a xs h=>(iL.upd hp).Lo h
theorem grow (P:Ω->Prop)(JL:LV F H)(r:JN K F H σ τ f)(e:iL H H') :
  LV (fun a=>F a∨(P a/\H a=Φ/\H' a≠Φ)) H'/\JN K (fun a=>F a∨(P a/\H a=Φ/\H' a≠Φ)) H' σ τ f/\Ml F H f (fun a=>F a∨(P a/\H a=Φ/\H' a≠Φ)) H':=by
 refine⟨fun a h=>?_,r.step (fun a xs q rd=>⟨.inl q,e.rd rd⟩) (fun a xs q=>e.Lo q) fun a ha n hn=>⟨fun z=>?_,?_⟩,⟨e,fun a h=>.inl h,fun a h=>?_⟩⟩
 ·rcases h with h|h
  ·intro z;exact JL a h (e.free z)
  ·exact h.2.2
 ·rcases z with z|z
  ·exact n z
  ·exact hn z.2.1
 ·obtain⟨_,xs,q⟩:=r.own a ha;exact(e _ _ q).trans q.symm
 ·rcases h with h|h
  ·exact .inl h
  ·exact .inr (.inr h.2.1)
theorem lD (JL:LV F H)(r:JN K F H σ τ f)(e:iL H H'):LV F H'/\JN K F H' σ τ f/\Ml F H f F H':=by refine⟨fun a h z=>JL a h (e.free z),r.step (fun a xs q rd=>⟨q,e.rd rd⟩) (fun a xs q=>e.Lo q) fun a ha n hn=>⟨n,?_⟩,⟨e,fun a h=>h,fun a h=>.inl h⟩⟩;obtain⟨_,xs,q⟩:=r.own a ha;exact(e _ _ q).trans q.symm
theorem l9 (is:List Nat)(JL:LV F H)(r:JN K F H σ τ f)(nd:f.Nodup):∃F1 g,LV F1 H/\JN K F1 H σ (JM is τ) g/\g.Nodup/\Ml F H f F1 H/\(∀a∈g,a∈f)/\Slots K F1 H σ τ is:=by
 obtain⟨fi,g,h1,h2,h3⟩:=r.freeze is 0;have NH:(fi++g).Nodup:=h1.nodup_iff.mp nd;have Qo:∀a∈g,a∉fi:=fun a ha hb=>(r_.mp NH).2.2 a hb a ha rfl;have Xz:∀a∈fi,a∈f:=fun a ha=>h1.mem_iff.mpr (s_ _ ha);have Z':∀a∈g,a∈f:=fun a ha=>h1.mem_iff.mpr (t_ _ ha);refine⟨fun a=>F a∨a∈fi,g,fun a h=>?_,h2 _ (fun a h=>.inl h) (fun a h=>.inr h) (fun a ha n z=>?_),(r_.mp NH).2.1,⟨.refl _,fun a h=>.inl h,fun a h=>?_⟩,Z',fun i hi d z=>?_⟩
 ·rcases h with h|h
  ·exact JL a h
  ·obtain⟨_,xs,q⟩:=r.own a (Xz a h);rw[q];simp
 ·rcases z with z|z
  ·exact n z
  ·exact Qo a ha z
 ·rcases h with h|h
  ·exact .inl h
  ·exact .inr (.inl (Xz a h))
 ·exact h3 _ (fun a h=>.inl h) (fun a h=>.inr h) i (by simpa using hi) d z
theorem jz (r:JN K F H σ τ f):Slots K (fun _=>True) H σ τ is:=r.slots (fun _ _=>trivial) fun _ _=>trivial
theorem IB.fix (m:IB K (L2.nw F H) H' v d):IB K (fun a=>F a∨(True/\H a=Φ/\H' a≠Φ)) H' v d:=m.step (fun a xs h r=>⟨h.elim (fun z=>.inl z) fun z=>.inr ⟨trivial,z,r.some⟩,r⟩) fun a xs h=>h
end
section
variable {X:Cx}{cl:Nat->List D->Res D}
theorem IH (he:PE X e (CW i))(mv:Bool):PE X e (RO X.K (JR cl mv (.v i))):=by
 refine iN he fun σ H Q ⟨F,τ,f,JL,r,nd,q⟩=>?_;rw[FW]at q;cases z:iF τ i with
 |none=>rw[z]at q;exact q.no.elim
 |some d=>
  rw[z]at q;obtain⟨v,fv,g,h1,h2,h3,h4⟩:=r.at z;have NH:(fv++g).Nodup:=h4.nodup_iff.mp nd;cases mv with
  |true=>have q':=(show IA (.ok (d,τ.set i Φ):Res (D×Ev)) _ from q).ok;exact⟨v,h1,q' v H F fv g ⟨.refl,JL,h2,h3,NH,fun a ha=>.inl (h4.mem_iff.mpr ha)⟩⟩
  |false=>
   have q':=(show IA (.ok (er d,τ.set i (Δ (er d))):Res (D×Ev)) _ from q).ok;have Qo:∀a∈g,a∉fv:=fun a ha hb=>(r_.mp NH).2.2 a hb a ha rfl;have m1:JB X.K (fun a=>F a∨a∈fv) H v (er d) []:=(h2.read (fun a h=>.inl h) (fun a h=>.inr h)).frozen;have r1:JN X.K (fun a=>F a∨a∈fv) H σ (τ.set i Φ) g:=h3.step (fun a xs h r=>⟨.inl h,r⟩) (fun a xs h=>h) fun a ha n _=>⟨fun z=>z.elim n (Qo a ha),rfl⟩
   obtain⟨g',h',r2,p2⟩:=r1.put i m1;have Kl:σ.set i (Δ v)=σ:=by
    apply List.ext_getElem?;intro j;rw[List.getElem?_set];by_cases hj:i=j
    ·subst hj;have JU:i < σ.length:=(x_.mp h1).1;rw[e_ rfl,e_ JU,h1]
    ·rw[d_ hj]
   rw[Kl,List.set_set]at r2;rw[List.nil_append]at p2;have Og:(g'++h').Nodup:=p2.nodup_iff.mpr (r_.mp NH).2.1;refine⟨v,h1,q' v H _ [] g' ⟨⟨.refl _,fun a h=>.inl h,fun a h=>?_⟩,fun a h=>?_,m1,r2,(r_.mp Og).1,fun a ha=>?_⟩⟩
   ·exact h.elim (fun z=>.inl z) fun z=>.inr (.inl (h4.mem_iff.mpr (s_ _ z)))
   ·rcases h with h|h
    ·exact JL a h
    ·obtain⟨_,xs,e⟩:=h2.own a h;rw[e];simp
   ·have:a∈g:=p2.mem_iff.mp (s_ _ (by simpa using ha));exact .inl (h4.mem_iff.mpr (t_ _ this))
theorem Ir (h:PA X l (Qn X.K g)):PE X (.Tuple l n pos) (RO X.K fun τ=>Iq (g τ) fun p=>IE (jo p.1.length) (.ok (.tup p.1,p.2))):=by
 refine iN (wF h) fun σ H Q ⟨F,τ,f,JL,r,nd,q⟩=>⟨F,τ,f,JL,r,nd,(IA.Iq q).mono fun p hp vs H1 F1 fv f1 o=>?_⟩
 obtain⟨gd,hp⟩:=IA.IE hp;refine⟨by rw[o.rep.length];exact jv gd,fun p' Oh=>hp.ok _ _ F1 fv f1 ?_⟩;have e:iL H1 (upd H1 p' (.tup vs)):=.upd Oh;obtain⟨k1,k2,k3⟩:=lD o.JL o.J8 e;refine⟨o.LA.trans k3 (fun x hx=>o.mem x (t_ _ hx)),k1,.tup (.inl (.inl iM)) (o.rep.LA k3 fun a ha hb=>(r_.mp o.J7).2.2 a ha a hb rfl),k2,o.J7,o.mem⟩
theorem Iu (h:PA X l (Qn X.K g)):PE X (.List l pos) (RO X.K fun τ=>Iq (g τ) fun p=>IE (jo p.1.length) (.ok (.lst Θ p.1,p.2))):=by
 refine iN (wG h) fun σ H Q ⟨F,τ,f,JL,r,nd,q⟩=>⟨F,τ,f,JL,r,nd,(IA.Iq q).mono fun p hp vs H1 F1 fv f1 o=>?_⟩
 obtain⟨gd,hp⟩:=IA.IE hp;refine⟨by rw[o.rep.length];exact jv gd,fun p' Oh=>hp.ok _ _ F1 (p'::fv) f1 ?_⟩;have e:iL H1 (upd H1 p' (.lst vs)):=.upd Oh;obtain⟨k1,k2,k3⟩:=lD o.JL o.J8 e;refine⟨o.LA.trans k3 (fun x hx=>o.mem x (t_ _ hx)),k1,.Ki (fun z=>o.JL _ z Oh) iM (o.rep.LA k3 fun a ha hb=>(r_.mp o.J7).2.2 a ha a hb rfl),k2,?_,fun a ha=>?_⟩
 ·rw[c_,E_];refine⟨fun z=>?_,o.J7⟩;rcases C_.mp z with z|z
  ·obtain⟨_,xs,e⟩:=o.rep.own _ z;rw[Oh]at e;cases e
  ·obtain⟨_,xs,e⟩:=o.J8.own _ z;rw[Oh]at e;cases e
 ·rw[c_]at ha;rcases k_.mp ha with rfl|ha
  ·exact .inr (o.LA.same.free Oh)
  ·exact o.mem a ha
theorem Iw (hc:PT X c (RT X.K vc fc))(ha:PE X a (RO X.K fa))(hb:PE X b (RO X.K fb)) :
  PE X (.IfExp c a b pos) (RO X.K fun τ=>Iq (fc τ) fun r=>if r=Θ then fa τ else fb τ):=by
 refine iN (qD hc ha hb) fun σ H Q ⟨F,τ,f,JL,r,nd,q⟩=>?_;refine lL (.refl _) (jz r) (IA.Iq q) fun x H2 e2 _ k=>?_;obtain⟨k1,k2,k3⟩:=lD JL r e2;have go:∀ {g:Ev->Res (D×Ev)},IA (g τ) (fun p=>∀v H' F' fv f',Ow X.K F H f F' H' σ v p.1 fv p.2 f'->Q v H')->RO X.K g σ H2 Q:=fun hg=>
  ⟨F,τ,f,k1,k2,nd,hg.mono fun p hp v H' F' fv f' o=>hp v H' F' fv f' ⟨k3.trans o.LA (fun x hx=>.inl hx),o.JL,o.rep,o.J8,o.J7,fun a ha=>(o.mem a ha).elim (fun z=>.inl z) fun z=>.inr (e2.free z)⟩⟩
 cases x with
 |true=>rw[e_ rfl]at k ⊢;exact go k
 |false=>rw[d_ n_]at k ⊢;exact go k
theorem Ea:PA X [] (Qn X.K fun τ=>.ok ([],τ)):=pW jO fun σ H Q ⟨F,τ,f,JL,r,nd,q⟩=>q.ok [] H F [] f ⟨.refl,JL,.nil,r,nd,fun a ha=>.inl ha⟩
theorem Be (hn:notStar e=Θ)(ha:PE X e (RO X.K ga))(hr:PA X l (Qn X.K gs)) :
  PA X (e::l) (Qn X.K fun τ=>Iq (ga τ) fun p=>Iq (gs p.2) fun q=>.ok (p.1::q.1,q.2)):=by
 refine pW (jn ha hr (iC hn _ _)) fun σ H Q ⟨F,τ,f,JL,r,nd,q⟩=>⟨F,τ,f,JL,r,nd,(IA.Iq q).mono fun p hp v H1 F1 fv f1 o=>?_⟩
 refine⟨F1,p.2,f1,o.JL,o.J8,(r_.mp o.J7).2.1,(IA.Iq hp).mono fun p' Oh vs H2 F2 fvs f2 o2=>?_⟩;have Qo:∀a∈fv,a∉f1:=fun a h1 h2=>(r_.mp o.J7).2.2 a h1 a h2 rfl;have m2:=o.rep.LA o2.LA Qo;refine Oh.ok (v::vs) H2 F2 (fv++fvs) f2 ⟨o.LA.trans o2.LA (fun x hx=>o.mem x (t_ _ hx)),o2.JL,.cons m2 o2.rep,o2.J8,?_,fun a ha=>?_⟩
 ·rw[z_];refine r_.mpr ⟨(r_.mp o.J7).1,o2.J7,fun a h1 b h2 e=>?_⟩;subst e;rcases o2.mem a h2 with z|z
  ·exact Qo a h1 z
  ·obtain⟨_,xs,e⟩:=o.rep.own a h1;rw[z]at e;cases e
 ·rw[z_]at ha;rcases C_.mp ha with ha|ha
  ·exact o.mem a (s_ _ ha)
  ·rcases o2.mem a ha with z|z
   ·exact o.mem a (t_ _ z)
   ·exact .inr (o.LA.same.free z)
end
section
variable {Z:Sg}{CX:KJ}{cl:Nat->List D->Res D}{X:Cx}{G:Gm}
def Vd (K:Frag)(cl:Nat->List D->Res D)(f:Nat)(vs:List V)(H:Hp)(Q:VK):Prop:=∃F ds,LV F H/\Iz K F H vs ds/\IA (cl f (Jv ds)) fun d=>∀v H' F' fv,Out K F H F' H' v d fv->Q v H'
theorem ya (g:JY Z CX cl X G)  (h1:ou Z G f x=Θ)(h2:Z.OC G f=Θ)(Ke:ju Z G es args=Θ)(h:PA X args t)
  (h0:args=[]->∀σ H (Q:List V->Hp->Prop),t σ H Q->Q [] H):PE X (.Call (.Name x p) args [] pos) (fun σ H Q=>t σ H fun vs H1=>Vd X.K cl f vs H1 Q):=by
 obtain⟨k1,k2,k3,k4⟩:=xW g h1;obtain⟨k,U5,fd,ps,hm,Oe,hb,F,hr,hlen⟩:=(g.fns f (qc h2).1 (qc h2).2 x k2).ex;obtain⟨E,hP⟩:=g.U3;intro pins s σ H Q I q;have fin:∀(us:List Ψ) (s1:Α) (vs:List V) (H1:Hp),Inv X pins σ H1 s1->Vals vs us->Vd X.K cl f vs H1 Q->Κ (Μ X.prog X.w) X.A (call (.ref U5) us) (EP X pins σ Q) X.xe s1:=by
  intro us s1 vs H1 I1 r ⟨Fc,ds,JL,m,q1⟩;have hl:=hlen _ _ q1;rw[kH]at hl;refine uh F hr hb hP g.Pl I1 r (by rw[m.length];exact hl) JL m ?_;cases z:cl f (Jv ds) with
  |error er=>rw[z]at q1;cases er;exact q1.no.elim
  |ok d=>rw[z]at q1;exact q1.ok
 refine wpAny_Call_Name_kw (pS I k1 hm ?_ k4);cases args with
 |nil=>
  cases es with
  |cons _ _=>cases Ke
  |nil=>exact PySem.W.callWith_K0 I.LX Oe (fin [] s [] H I .nil (h0 rfl σ H _ q))
 |cons e l=>
  cases es with
  |nil=>cases Ke
  |cons a es=>have JW:(notStar e&&Ju Z G a e&&ju Z G es l)=Θ:=Ke;simp only[g_]at JW;refine PySem.W.callWith_K (h₀:=X.base) I.ok.mod.SD Oe (JG (h pos pins s σ H _ I q) fun us s1 ⟨vs,H1,I1,r,q1⟩=>⟨I1.LX,?_⟩) (iC JW.1.1 l X.env) (jP Z G (es:=es) pos X.env JW.2);exact fin us s1 vs H1 I1 r q1
theorem JB.MW {K:Frag}{F F':Ω->Prop}{H:Hp}{v:V}{d:D}{fv:List Ω}(m:JB K F H v d fv)(n:iH d=Θ):JB K F' H v d []:=(m.read (S:=fun _=>True) (fun _ _=>trivial) fun _ _=>trivial).free n
theorem Ii (g:JY Z CX cl X G)  (h1:ou Z G f x=Θ)(h2:Z.OC G f=Θ)(Ke:ju Z G es args=Θ)(mv:Bool) :
  PE X (.Call (.Name x p) args [] pos) (RO X.K (JR cl mv (.call f es))):=by
 have pa:=rD es X G args g Ke
 have pe:=ya (p:=p) (pos:=pos) g h1 h2 Ke pa (fun e σ H Q ⟨S,τ,hs,q⟩=>by
  subst e;cases es with
  |nil=>exact q.ok [] H (.refl _) .nil
  |cons _ _=>cases Ke)
 refine iN pe fun σ H Q ⟨F,τ,fo,JL,r,nd,q⟩=>?_;have q':IA (Iq (jy cl es τ) fun ds=>Iq (cl f (Jv ds)) fun d=>if iH d=Θ then .ok (d,τ) else .ok (d,JM (iR es) τ)) (fun p=>∀v H' F' fv f',Ow X.K F H fo F' H' σ v p.1 fv p.2 f'->Q v H'):=q
 -- read without Ve up
 have borrow:(∀ds,jy cl es τ=.ok ds->IA (cl f (Jv ds)) fun d=>iH d=Θ/\∀v H' F' fv f',Ow X.K F H fo F' H' σ v d fv τ f'->Q v H')->IA (jy cl es τ) (fun _=>True)->RA X.K (iR es) (jy cl es) σ H (fun vs H1=>Vd X.K cl f vs H1 Q):=by intro hk JD;refine rp (.refl _) (jz r) JD.eq fun ds vs H1 e1 _ m1 q1=>?_;refine⟨fun a=>H1 a≠Φ,ds,fun a h=>h,m1.step (fun a xs h rd=>⟨rd.some,rd⟩) fun a xs h=>h,(hk ds q1.1).mono fun d hd v H' F' fv o=>?_⟩;obtain⟨k1,k2,k3⟩:=lD JL r (e1.trans o.same);exact hd.2 v H' F [] fo ⟨k3,k1,o.rep.MW hd.1,k2,by simpa using nd,fun a ha=>.inl (by simpa using ha)⟩
 cases z:jy cl es τ with
 |error er=>rw[z]at q';cases er;exact q'.no.elim
 |ok ds=>
  rw[z]at q';have q1:IA (Iq (cl f (Jv ds)) fun d=>if iH d=Θ then .ok (d,τ) else .ok (d,JM (iR es) τ)) (fun p=>∀v H' F' fv f',Ow X.K F H fo F' H' σ v p.1 fv p.2 f'->Q v H'):=q';cases zc:cl f (Jv ds) with
  |error er=>rw[zc]at q1;cases er;exact q1.no.elim
  |ok d=>
   rw[zc]at q1;have q2:IA (if iH d=Θ then .ok (d,τ) else .ok (d,JM (iR es) τ)) (fun p=>∀v H' F' fv f',Ow X.K F H fo F' H' σ v p.1 fv p.2 f'->Q v H'):=q1;by_cases hl:iH d=Θ
   ·rw[e_ hl]at q2;exact borrow (fun ds' h=>by rw[z]at h;cases h;rw[zc];exact⟨hl,q2.ok⟩) (by rw[z];trivial)
   ·rw[d_ hl]at q2;obtain⟨F1,gg,b1,b2,b3,b4,b5,b6⟩:=l9 (iR es) JL r nd;refine rp (Kt:=fun ds'=>ds'=ds) (.refl _) b6 (by rw[z];rfl) fun ds' vs H1 e1 _ m1 e=>?_;subst e;have hm:Iz X.K (fun a=>F1 a∨(True/\H a=Φ/\H1 a≠Φ)) H1 vs ds':=m1.step (fun a xs h r=>⟨h.elim (fun z=>.inl z) fun z=>.inr ⟨trivial,z,r.some⟩,r⟩) fun a xs h=>h;obtain⟨c1,c2,c3⟩:=grow (fun _=>True) b1 b2 e1;refine⟨_,ds',c1,hm,?_⟩;rw[zc];intro v H' F' fv o;have s1:Ml (fun a=>F1 a∨(True/\H a=Φ/\H1 a≠Φ)) H1 gg F' H':=⟨o.same,o.inn,fun a h=>(o.out a h).elim (fun z=>.inl z) fun z=>.inr (.inr z)⟩
    have r2:JN X.K F' H' σ (JM (iR es) τ) gg:=c2.step (fun a xs q rd=>⟨o.inn a q,o.same.rd rd⟩) (fun a xs q=>o.same.Lo q) fun a ha n hn=>by
     obtain⟨_,xs,e⟩:=c2.own a ha;refine⟨fun z=>?_,(o.same _ _ e).trans e.symm⟩;rcases o.out a z with z|z
     ·exact n z
     ·exact hn z
    refine q2.ok v H' F' fv gg ⟨(b4.trans c3 (fun x hx=>.inl (b5 x hx))).trans s1 (fun x hx=>.inl (b5 x hx)),o.JL,o.rep,r2,?_,fun a ha=>?_⟩
    ·refine r_.mpr ⟨o.J7,b3,fun a h1 b h2 e=>?_⟩;subst e;obtain⟨_,xs,e⟩:=c2.own a h2;rw[o.new a h1]at e;cases e
    ·rcases C_.mp ha with ha|ha
     ·exact .inr (e1.free (o.new a ha))
     ·exact .inl (b5 a ha)
theorem jr (he:PE X e (RD X.K (vars a) (IC cl a)))(hN:iS a=Θ->PE X e (RN X.K (vars a) fun τ=>Iq (IC cl a τ) kM)):PE X e (RO X.K fun τ=>Iq (IC cl a τ) fun d=>.ok (iW a d τ)):=by
 intro pins s σ H Q I h;obtain⟨F,τ,fo,JL,r,nd,q⟩:=h
 replace q:IA (Iq (IC cl a τ) fun d=>.ok (iW a d τ)) (fun p=>∀v H' F' fv f',Ow X.K F H fo F' H' σ v p.1 fv p.2 f'->Q v H'):=q
 have rd:RD X.K (vars a) (IC cl a) σ H Q->Κ (Μ X.prog X.w) X.A (eval e X.env) (EP X pins σ Q) X.xe s:=fun h=>he pins s σ H Q I h;cases z:IC cl a τ with
 |error er=>rw[z]at q;cases er;exact q.no.elim
 |ok d=>
  rw[z]at q;have q1:∀v H' F' fv f',Ow X.K F H fo F' H' σ v (iW a d τ).1 fv (iW a d τ).2 f'->Q v H':=q;by_cases hl:iH d=Θ
  ·unfold iW at q1;rw[e_ hl]at q1;refine rd ⟨fun _=>True,τ,jz r,?_⟩;rw[z];intro v H' e m;obtain⟨k1,k2,k3⟩:=lD JL r e;exact q1 v H' F [] fo ⟨k3,k1,m.free hl,k2,by simpa using nd,fun a ha=>.inl (by simpa using ha)⟩
  ·have other:iW a d τ=(er d,JM (vars a) τ)->Κ (Μ X.prog X.w) X.A (eval e X.env) (EP X pins σ Q) X.xe s:=fun hk=>by rw[hk]at q1;obtain⟨F1,gg,b1,b2,b3,b4,b5,b6⟩:=l9 (vars a) JL r nd;refine rd ⟨F1,τ,b6,?_⟩;rw[z];intro v H' e m;obtain⟨c1,c2,c3⟩:=grow (fun _=>True) b1 b2 e;exact q1 v H' _ [] gg ⟨b4.trans c3 (fun x hx=>.inl (b5 x hx)),c1,m.fix.frozen,c2,by simpa using b3,fun a ha=>.inl (b5 a (by simpa using ha))⟩
   by_cases hn:iS a=Θ
   ·induction d using zD with
    |lst o ds=>
     by_cases hi:iD ds=Θ
     ·have hk:iW a (.lst o ds) τ=(.lst Θ ds,τ):=by unfold iW;rw[d_ hl,hn];show(if iD ds=Θ then _ else _)=_;rw[e_ hi]
      rw[hk]at q1;refine hN hn pins s σ H Q I ⟨fun _=>True,τ,jz r,?_⟩;show IA (Iq (IC cl a τ) kM) _;rw[z];intro p ys H' e hp hy m;obtain⟨k1,k2,k3⟩:=lD JL r e;refine q1 (.ref p) H' F [p] fo ⟨k3,k1,.Ki (fun zz=>JL p zz hp) hy (m.free hi),k2,?_,fun a ha=>?_⟩
      ·rw[aay,E_];refine⟨fun zz=>?_,nd⟩;obtain⟨_,xs,e⟩:=r.own p zz;rw[hp]at e;cases e
      ·rw[aay]at ha;rcases k_.mp ha with rfl|ha
       ·exact .inr hp
       ·exact .inl ha
     ·have hk:iW a (.lst o ds) τ=(.lst Θ (Jv ds),JM (vars a) τ):=by unfold iW;rw[d_ hl,hn];show(if iD ds=Θ then _ else _)=_;rw[d_ hi]
      rw[hk]at q1;obtain⟨F1,gg,b1,b2,b3,b4,b5,b6⟩:=l9 (vars a) JL r nd;refine hN hn pins s σ H Q I ⟨F1,τ,b6,?_⟩;show IA (Iq (IC cl a τ) kM) _;rw[z];intro p ys H' e hp hy m;obtain⟨c1,c2,c3⟩:=grow (fun a=>a≠p) b1 b2 e;have m2:Iz X.K (fun a=>F1 a∨(a≠p/\H a=Φ/\H' a≠Φ)) H' ys ds:=m.step (fun a xs h r=>⟨h.1.elim (fun z=>.inl z) fun z=>.inr ⟨h.2,z,r.some⟩,r⟩) fun a xs h=>h;refine q1 (.ref p) H' _ [p] gg ⟨b4.trans c3 (fun x hx=>.inl (b5 x hx)),c1,.Ki (fun zz=>?_) hy m2.frozen,c2,?_,fun a ha=>?_⟩
      ·rcases zz with zz|zz
       ·exact b1 p zz hp
       ·exact zz.1 rfl
      ·rw[aay,E_];refine⟨fun zz=>?_,b3⟩;obtain⟨_,xs,e⟩:=b2.own p zz;rw[hp]at e;cases e
      ·rw[aay]at ha;rcases k_.mp ha with rfl|ha
       ·exact .inr hp
       ·exact .inl (b5 a ha)
    |_=>refine other ?_;unfold iW;rw[d_ hl,hn]
   ·have LR:iS a=Ξ:=by simpa using hn
    refine other ?_;unfold iW;rw[d_ hl,LR]
theorem Gs (ha:PE X a (RD X.K va fa))(hb:PE X b (RD X.K vb fb)) :
  PE X (.BinOp a .Add b pos) (RN X.K (va++vb) fun τ=>Iq (Iq (fa τ) fun x=>Iq (fb τ) fun y=>KN .add x y) kM):=by
 refine iN (wu t6 ha hb) fun σ H Q ⟨S,τ,hs,q⟩=>?_;refine iZ (.refl _) hs.left (IA.Iq (IA.Iq q)) fun x v H1 e1 _ m1 q1=>?_;refine iZ e1 hs.right (IA.Iq q1) fun y w H2 e2 Kh m2 q2=>?_;have stuck:∀ {P:Prop},KN .add x y=Jw->P:=fun z=>by rw[z]at q2;exact q2.no.elim
 induction x using zD with
 |int a=>induction y using zD with
  |int b=>exact q2.ok.no.elim
  |_=>exact stuck rfl
 |str a=>induction y using zD with
  |str b=>exact(IA.IE q2).2.ok.no.elim
  |_=>exact stuck rfl
 |lst o a=>induction y using zD with
  |lst o' b=>obtain⟨p,xs,rfl,h1,n1⟩:=m1.N6;obtain⟨p',ys,rfl,h2,n2⟩:=m2.N6;obtain⟨gd,q3⟩:=IA.IE q2;have g':=jv gd;have l1:=n1.length;have l2:=n2.length;have U':Ls X.K H2 p xs:=h1.elim (fun z=>.inl (Kh.rd z)) .inr;exact⟨p,p',xs,ys,rfl,rfl,U',h2,by omega,fun z hz=>q3.ok.ok z _ _ (e2.trans (.upd hz)) (e2.free hz) iM (x9 ((n1.later Kh).append n2) hz)⟩
  |_=>exact stuck rfl
 |_=>exact stuck rfl
theorem Gu (ha:PE X a (RD X.K va fa))(hb:PE X b (RD X.K vb fb)) :
  PE X (.BinOp a .Mult b pos) (RN X.K (va++vb) fun τ=>Iq (Iq (fa τ) fun x=>Iq (fb τ) fun y=>KN .mul x y) kM):=by
 refine iN (wu AV ha hb) fun σ H Q ⟨S,τ,hs,q⟩=>?_;refine iZ (.refl _) hs.left (IA.Iq (IA.Iq q)) fun x v H1 e1 _ m1 q1=>?_;refine iZ e1 hs.right (IA.Iq q1) fun y w H2 e2 Kh m2 q2=>?_;have stuck:∀ {P:Prop},KN .mul x y=Jw->P:=fun z=>by rw[z]at q2;exact q2.no.elim
 induction y using zD with
 |int b=>
  cases m2
  induction x using zD with
  |int a=>exact(IA.IE q2).2.ok.no.elim
  |str a=>exact(IA.IE q2).2.ok.no.elim
  |_=>exact stuck rfl
 |_=>induction x using zD<;>exact stuck rfl
theorem HV {a:Expr}{lo hi:Option Expr}{pos p2:Pos}{va vl vh:List Nat}{fa:Ev->Res D}{fl fh:Ev->Res (Option Int)}(ha:PE X a (RD X.K va fa))(hl:PO X lo (Ql X.K vl fl))(hh:PO X hi (Ql X.K vh fh)) :
  PE X (.Subscript a (.Slice lo hi Φ p2) pos) (RN X.K (va++vl++vh) fun τ=>Iq (Iq (fa τ) fun x=>Iq (fl τ) fun l=>Iq (fh τ) fun h=>qW x l h) kM):=by
 refine iN (qF tE ha hl hh) fun σ H Q ⟨S,τ,hs,q⟩=>?_;refine iZ (.refl _) hs.left.left (IA.Iq (IA.Iq q)) fun x v H1 e1 _ m1 q1=>?_;refine A5 e1 hs.left.right (IA.Iq q1) fun l H2 e2 Kh q2=>?_;refine A5 e2 hs.right (IA.Iq q2) fun h H3 e3 NG q3=>?_
 induction x using zD with
 |lst o ds=>obtain⟨p,xs,rfl,h1,n1⟩:=m1.J1;exact⟨p,xs,rfl,(Kh.trans NG).seq h1,fun z hz=>q3.ok.ok z _ _ (e3.trans (.upd hz)) (e3.free hz) iM (x9 (ub l h (n1.later (Kh.trans NG))) hz)⟩
 |str _=>exact(IA.IE q3).2.ok.no.elim
 |_=>exact q3.no.elim
theorem o4 (hc:X.calm=Θ):jD X (.type "list") (fun xs H Q=>(∃p ys,xs=[.ref p]/\(Kf X.K H p ys∨JO X.K H p ys)/\∀l,H l=Φ->Q (.ref l) (upd H l (.lst ys)))∨∃(p:Ω) (kvs:List (Key×V)),xs=[.ref p]/\Rd H p (.dK kvs)/\∀l,H l=Φ->Q (.ref l) (upd H l (.lst (kvs.map fun q=>kV q.1)))):=by
 intro pins s σ H xs us Q I r h;rcases h with h|h
 ·exact kF pins s σ H xs us Q I r h
 ·exact nU hc pins s σ H xs us Q I r h
theorem Eb (g:JY Z CX cl X G){o:Expr}{p pos apos IF:Pos}{va:List Nat}{fa:Ev->Res D}(h1:G.LM 4=Θ)(hn:isNm o=Θ)(hl:(apos.endLine == IF.line)=Θ)(ha:PE X o (RD X.K va fa)) :
  PE X (.Call (.Name "sorted" p) [.Call (.Attribute o "items" apos) [] [] IF] [] pos) (RN X.K va fun τ=>Iq (Iq (fa τ) qX) kM):=by
 obtain⟨k1,k2,k3,k4⟩:=km g (show jm[4]? = Δ ("sorted" : Str) from rfl) (om h1);refine iN (tY (g.calm (oq h1)) k1 k2 ha (by cases o<;>first|rfl|cases hn) hl) fun σ H Q ⟨S,τ,hs,q⟩=>?_;refine iZ (.refl _) hs (IA.Iq (IA.Iq q)) fun x v H1 e1 _ m1 q1=>?_
 induction x using zD with
 |Jy o ks ds=>
  obtain⟨a,kvs,rfl,rd,hk,m⟩:=m1.Nn;have q2:IA (match j5 ks with|some xs=>(match jB ds with|some ns=>IE (decide (0 < xs.length/\xs.length < 64)&&decide xs.Nodup) (.ok (.lst Θ ((kG xs).map fun i=>.tup [.str (xs.getD i ⟨#[]⟩),.int (ns.getD i 0)])))|none=>Jw)|none=>Jw) (fun a=>IA (kM a) (Kn X.K S H Q)):=q1;cases z:j5 ks with
  |none=>rw[z]at q2;exact q2.no.elim
  |some xs=>
   rw[z]at q2;cases z':jB ds with
   |none=>rw[z']at q2;exact q2.no.elim
   |some ns=>rw[z']at q2;obtain⟨gd,q3⟩:=IA.IE q2;rw[g_]at gd;rw[kI z']at m;rw[k6 z]at hk;exact⟨a,kvs,xs,ns,rfl,rd,hk,m.ints,q_ gd.2,q_ gd.1,fun as D H' e hD U8 ln ht=>q3.ok.ok D _ _ (e1.trans e) (e1.free hD) U8 (mM ln ht _ lY)⟩
 |_=>exact q1.no.elim
theorem Ec (g:JY Z CX cl X G)  (hg:G.LM (pI .list)=Θ)(Ke:ju Z G es (a::args)=Θ)(h:PA X (a::args) (RA X.K (iR es) (jy cl es))) :
  PE X (.Call (.Name (kJ .list) p) (a::args) [] pos) (RN X.K (iR es) fun τ=>Iq (Iq (jy cl es τ) fun ds=>jW .list ds) kM):=by
 obtain⟨k1,k2,k3,k4⟩:=km g (xS .list) (om hg);cases es with
 |nil=>cases Ke
 |cons b es=>
  have JW:(notStar a&&Ju Z G b a&&ju Z G es args)=Θ:=Ke;simp only[g_]at JW;refine iN (mB (o4 (g.calm (oq hg))) k1 k2 (uc .list) h k3 k4 (iC JW.1.1 args X.env) (jP Z G (es:=es) pos X.env JW.2)) fun σ H Q ⟨S,τ,hs,q⟩=>?_;refine rp (.refl _) hs (IA.Iq (IA.Iq q)) fun ds vs H1 e1 _ m1 q1=>?_;have stuck:∀ {P:Prop},jW .list ds=Jw->P:=fun z=>by rw[z]at q1;exact q1.no.elim
  match ds,m1 with
  |[],_=>exact stuck rfl
  |d::_::_,_=>exact stuck (by induction d using zD<;>rfl)
  |[d],m1=>
   obtain⟨x,rfl,hd⟩:=m1.Pp
   induction d using zD with
   |tup ds=>obtain⟨a,ys,rfl,q',m⟩:=hd.Ka;exact .inl ⟨a,ys,rfl,.inr q',fun z hz=>q1.ok.ok z _ _ (e1.trans (.upd hz)) (e1.free hz) iM (x9 m hz)⟩
   |lst o ds=>obtain⟨a,ys,rfl,q',m⟩:=hd.J1;exact .inl ⟨a,ys,rfl,.inl q',fun z hz=>q1.ok.ok z _ _ (e1.trans (.upd hz)) (e1.free hz) iM (x9 m hz)⟩
   |Jy o ks ds=>
    cases hd with
    |Jy h0 h1 h2 h3=>subst h2;exact .inr ⟨_,_,rfl,h1,fun l hl=>q1.ok.ok l _ _ (e1.trans (.upd hl)) (e1.free hl) iM (x9 (l5 _) hl)⟩
   |_=>exact stuck rfl
end
section
variable {Z:Sg}{CX:KJ}{cl:Nat->List D->Res D}
theorem mY (g:JY Z CX cl X G)  (h:kA G i x=Θ):PE X (.Name x pos) (CW i):=by
 unfold kA at h;rw[g_]at h;have hx:G.N[i]? = Δ x:=h_ h.1;have hk:=g.kd i x hx;have hv:QE X.env.scope x:=by
  have h2:=h.2;rw[aag,aag]at h2;rcases h2 with(h2|h2)|h2
  ·exact .inl (hk.trans (h_ h2))
  ·exact .inr (.inl (hk.trans (h_ h2)))
  ·exact .inr (.inr (hk.trans (h_ h2)))
 exact v9 (i:=i) (by rw[g.N];exact hx) hv (g.Ob i x hx).1 (g.Ob i x hx).2
theorem Ed (g:JY Z CX cl X G)  (hs:MU Z G scope G' fr)(hT:j7 G' T tg=Θ)(ha:∀i∈Lg T,fr.length<=i)
  (hi:kl Z G s iter=Θ/\nc s tg=Θ) (ht:ju Z G' I ifs=Θ) (he:Ju Z G' E elt=Θ) :
  PE X (.ListComp elt [⟨tg,iter,ifs,0⟩] scope pos) (RN X.K (vars (.comp G' fr T s I E)) fun τ=>Iq (IC cl (.comp G' fr T s I E) τ) kM):=by
 intro pins s' σ H Q Iv h;obtain⟨Ku,S⟩:=mP g Iv.ok hs;have p:=tH (pos:=pos) (elt:=elt) (ifs:=ifs) (tg:=tg) (g:=gT X.K T) (tt:=RT X.K (iR I) (lG cl I)) (te:=RD X.K (vars E) (IC cl E)) (g.calm hs.cm) S (Bd s X G iter tg g hi.1 hi.2) (fun C s H fp=>Pu (jK g hs Ku C s H fp) T tg hT)
  (fun C s H fp=>Bc I _ G' ifs (jK g hs Ku C s H fp) ht) (fun C s H fp=>(snd E _ G' elt (jK g hs Ku C s H fp) he).1) (fun x=>j9 hi.1 X.env x)
 refine p pins s' σ H Q Iv ?_;obtain⟨S0,τ,Vc,q⟩:=h;have q':=IA.Iq (show IA (Iq (IC cl (.comp G' fr T s I E) τ) kM) _ from q);rw[oC]at q';exact k7 hs.Td ha Vc q' fun A ys ds H' e hA Of m k=>k.ok A ys H' e hA Of m
theorem LB:∀(a:IR) (X:Cx) (G:Gm) (e:Expr),JY Z CX cl X G->Ju Z G a e=Θ->iS a=Θ->PE X e (RN X.K (vars a) fun τ=>Iq (IC cl a τ) kM):=by
 intro a X G e g h n;cases a with
 |bin op a b=>
  cases op with
  |add=>
   induction e using zE with
   |BinOp l o r pos=>have h':(o == Oa .add&&Ju Z G a l&&Ju Z G b r)=Θ:=h;simp only[g_]at h';have e1:o=Oa .add:=h_ h'.1.1;subst e1;exact Gs (snd a X G l g h'.1.2).1 (snd b X G r g h'.2).1
   |_=>exists h
  |mul=>
   induction e using zE with
   |BinOp l o r pos=>have h':(o == Oa .mul&&Ju Z G a l&&Ju Z G b r)=Θ:=h;simp only[g_]at h';have e1:o=Oa .mul:=h_ h'.1.1;subst e1;exact Gu (snd a X G l g h'.1.2).1 (snd b X G r g h'.2).1
   |_=>exists h
  |_=>cases n
 |sl a lo hi=>
  induction e using zE with
  |Subscript o s pos=>
   induction s using zE with
   |Slice l u st p=>
    cases st with
    |none=>have h':(Ju Z G a o&&sO Z G lo l&&sO Z G hi u)=Θ:=h;simp only[g_]at h';exact HV (snd a X G o g h'.1.1).1 (Bb lo X G l g h'.1.2) (Bb hi X G u g h'.2)
    |some _=>exists h
   |_=>exists h
  |_=>exists h
 |bi f es=>
  cases f with
  |list=>
   induction e using zE with
   |Call fn args K6 pos=>
    induction fn using zE with
    |Name x p=>
     cases K6 with
     |nil=>
      cases args with
      |nil=>exists h
      |cons a args=>have h':(x == kJ .list&&G.LM (pI .list)&&ju Z G es (a::args))=Θ:=h;simp only[g_]at h';have e1:x=kJ .list:=h_ h'.1.1;subst e1;exact Ec g h'.1.2 h'.2 (rD es X G _ g h'.2)
     |cons _ _=>cases args<;>exists h
    |_=>exists h
   |_=>exists h
  |_=>cases n
 |KQ a=>
  have h:Ru e (fun x o n l=>x == "sorted"&&G.LM 4&&isNm o&&n == "items"&&l&&Ju Z G a o)=Θ:=by induction e using zE<;>exact h
  obtain⟨x,p,o,n,apos,IF,q,rfl,h⟩:=xV h;have h:(x == "sorted"&&G.LM 4&&isNm o&&n == "items"&&(apos.endLine == IF.line)&&Ju Z G a o)=Θ:=h;simp only[g_]at h;have e1:x = "sorted":=h_ h.1.1.1.1.1;have e2:n = "items":=h_ h.1.1.2;subst e1 e2;exact Eb g h.1.1.1.1.2 h.1.1.1.2 h.1.2 (snd a X G o g h.2).1
 |comp G' fr tg src ifs elt=>
  induction e using zE with
  |ListComp el gens scope pos=>have h:vU gens (fun t it fs=>jJ Z G scope G' fr&&j7 G' tg t&&(Lg tg).all (fun i=>decide (fr.length<=i))&&(kl Z G src it&&nc src t)&&ju Z G' ifs fs&&Ju Z G' elt el)=Θ:=h;obtain⟨t,it,fs,rfl,h⟩:=qd h;have h':(jJ Z G scope G' fr&&j7 G' tg t&&(Lg tg).all (fun i=>decide (fr.length<=i))&&(kl Z G src it&&nc src t)&&ju Z G' ifs fs&&Ju Z G' elt el)=Θ:=h;simp only[g_]at h';exact Ed g (qf h'.1.1.1.1.1) h'.1.1.1.1.2 (fun i hi=>q_ (R_.mp h'.1.1.1.2 i hi)) h'.1.1.2 h'.1.2 h'.2
  |_=>exists h
 |_=>cases n
theorem Ij (mv:Bool):PE X (.Dict [] [] pos) (RO X.K (JR cl mv .K3)):=by
 refine iN qN fun σ H Q ⟨F,τ,fo,JL,r,nd,q⟩=>fun p hp=>?_;have q':∀v H' F' fv f',Ow X.K F H fo F' H' σ v (.Jy Θ [] []) fv τ f'->Q v H':=q;have e:iL H (upd H p (.dK [])):=.upd hp;obtain⟨k1,k2,k3⟩:=lD JL r e;have nF:¬F p:=fun z=>JL p z hp;have nfo:p∉fo:=fun z=>by obtain⟨_,u,eu⟩:=r.own p z;rw[hp]at eu;cases eu
 exact q' _ _ F [p] fo ⟨k3,k1,.Ni (kvs:=[]) nF iM rfl .nil,k2,by rw[aay,E_];exact⟨nfo,nd⟩,fun a ha=>by
  rcases C_.mp ha with ha|ha
  ·rw[w_.mp ha];exact .inr hp
  ·exact .inl ha⟩
mutual
theorem OG:∀(a:IR) (mv:Bool) (X:Cx) (G:Gm) (e:Expr),JY Z CX cl X G->Ju Z G a e=Θ->PE X e (RO X.K (JR cl mv a))
 |.v i,mv,X,G,e,g,h=>by
  induction e using zE with
  |Name x pos=>exact IH (mY g h) mv
  |_=>exists h
 |.tup es,mv,X,G,e,g,h=>by
  induction e using zE with
  |Tuple l n pos=>exact Ir (Ee es mv X G l g h)
  |_=>exists h
 |.lst es,mv,X,G,e,g,h=>by
  induction e using zE with
  |List l pos=>exact Iu (Ee es mv X G l g h)
  |_=>exists h
 |.ite t a b,mv,X,G,e,g,h=>by
  induction e using zE with
  |IfExp c x y pos=>have h':(Ju Z G t c&&Ju Z G a x&&Ju Z G b y)=Θ:=h;simp only[g_]at h';exact Iw (snd t X G c g h'.1.1).2 (OG a mv X G x g h'.1.2) (OG b mv X G y g h'.2)
  |_=>exists h
 |.call f es,mv,X,G,e,g,h=>by
  induction e using zE with
  |Call fn args K6 pos=>
   induction fn using zE with
   |Name x p=>
    cases K6 with
    |nil=>have h':(ou Z G f x&&Z.OC G f&&ju Z G es args)=Θ:=h;simp only[g_]at h';exact Ii g h'.1.1 h'.1.2 h'.2 mv
    |cons _ _=>exists h
   |_=>exists h
  |_=>exists h
 |.c d,mv,X,G,e,g,h=>jr (snd _ X G e g h).1 (LB _ X G e g h)
 |.g n d,mv,X,G,e,g,h=>jr (snd _ X G e g h).1 (LB _ X G e g h)
 |.bin op a b,mv,X,G,e,g,h=>jr (snd _ X G e g h).1 (LB _ X G e g h)
 |.neg a,mv,X,G,e,g,h=>jr (snd _ X G e g h).1 (LB _ X G e g h)
 |.cmp op a b,mv,X,G,e,g,h=>jr (snd _ X G e g h).1 (LB _ X G e g h)
 |.chain op J9 a b c,mv,X,G,e,g,h=>jr (snd _ X G e g h).1 (LB _ X G e g h)
 |.JX a b,mv,X,G,e,g,h=>jr (snd _ X G e g h).1 (LB _ X G e g h)
 |.Lf a b,mv,X,G,e,g,h=>jr (snd _ X G e g h).1 (LB _ X G e g h)
 |.Kr a,mv,X,G,e,g,h=>jr (snd _ X G e g h).1 (LB _ X G e g h)
 |.idx a i,mv,X,G,e,g,h=>jr (snd _ X G e g h).1 (LB _ X G e g h)
 |.sl a lo hi,mv,X,G,e,g,h=>jr (snd _ X G e g h).1 (LB _ X G e g h)
 |.bi f es,mv,X,G,e,g,h=>jr (snd _ X G e g h).1 (LB _ X G e g h)
 |.Kz a k,mv,X,G,e,g,h=>jr (snd _ X G e g h).1 (LB _ X G e g h)
 |.K4 a k,mv,X,G,e,g,h=>jr (snd _ X G e g h).1 (LB _ X G e g h)
 |.sset a,mv,X,G,e,g,h=>jr (snd _ X G e g h).1 (LB _ X G e g h)
 |.Kj a k d,mv,X,G,e,g,h=>jr (snd _ X G e g h).1 (LB _ X G e g h)
 |.K3,mv,X,G,e,g,h=>by
  have h:S7 e=Θ:=by induction e using zE<;>exact h
  obtain⟨pos,rfl⟩:=xU h;exact Ij mv
 |.KQ a,mv,X,G,e,g,h=>jr (snd _ X G e g h).1 (LB _ X G e g h)
 |.K5 a b,mv,X,G,e,g,h=>jr (snd _ X G e g h).1 (LB _ X G e g h)
 |.L9 m o es,mv,X,G,e,g,h=>jr (snd _ X G e g h).1 (LB _ X G e g h)
 |.comp G' fr tg src ifs elt,mv,X,G,e,g,h=>jr (snd _ X G e g h).1 (LB _ X G e g h)
theorem Ee:∀(as:List IR) (mv:Bool) (X:Cx) (G:Gm) (l:List Expr),JY Z CX cl X G->ju Z G as l=Θ->PA X l (Qn X.K (oZ cl mv as))
 |[],mv,X,G,l,g,h=>by
  cases l with
  |nil=>exact Ea
  |cons _ _=>exists h
 |a::as,mv,X,G,l,g,h=>by
  cases l with
  |nil=>exists h
  |cons e l=>have h':(notStar e&&Ju Z G a e&&ju Z G as l)=Θ:=h;simp only[g_]at h';exact Be h'.1.1 (OG a mv X G e g h'.1.2) (Ee as mv X G l g h'.2)
end
end
structure Bs (io:Option Nat) where
 F:Ω->Prop
 H:Hp
 L:Ω->LD->Prop
 T:Ω->List V->Prop
 N:Option Ω:=Φ
structure J3 (K:Frag){io:Option Nat}(B:Bs io)(F:Ω->Prop)(H:Hp)(σ:St)(τ:Ev)(f:List Ω):Prop where
 JL:LV F H
 J8:JN K F H σ τ f
 J7:f.Nodup
 same:iL B.H H
 own:∀a∈f,B.H a=Φ
 inn:∀a,B.F a->F a
 out:∀a,F a->B.F a∨B.H a=Φ
 pin:∀a xs,B.L a xs->F a/\Rd H a xs.o
 NI:∀a xs,B.T a xs->JO K H a xs
 nm:∀j a,io=Δ j->B.N=Δ a->σ[j]? = Δ (Δ (.ref a))
def Fk (K:Frag){io:Option Nat}(B:Bs io)(Dn:Ends):Fl->Prop
 |.nx τ=>∀σ H F f,J3 K B F H σ τ f->Dn.nx σ H
 |.bk τ=>∀σ H F f,J3 K B F H σ τ f->Dn.bk σ H
 |.ct τ=>∀σ H F f,J3 K B F H σ τ f->Dn.ct σ H
 |.rt d=>∀v H F fv,Out K B.F B.H F H v d fv->Dn.rt v H
 |.ri d ks es=>∀v H F fv kvs a,(∀a',B.N=Δ a'->a'=a)->Out K B.F B.H F H v d fv->¬F a->a∉fv->H a=Δ (.dK kvs)->kvs.map (·.1)=ks->Iz K F H (kvs.map (·.2)) es->Dn.rt v H
def RS (K:Frag)(io:Option Nat)(g:Ev->Res Fl):TS:=fun Dn σ H=>∃(B:Bs io),∃F τ f,J3 K B F H σ τ f/\IA (g τ) (Fk K B Dn)
section
variable {K:Frag}{io:Option Nat}{B:Bs io}{F F':Ω->Prop}{H H':Hp}{σ:St}{τ τ':Ev}{f f':List Ω}
theorem J3.LA (m:J3 K B F H σ τ f)(s:Ml F H f F' H')(JL:LV F' H')(r:JN K F' H' σ τ' f')(nd:f'.Nodup)(hm:∀a∈f',a∈f∨H a=Φ):J3 K B F' H' σ τ' f' where
 JL:=JL
 J8:=r
 J7:=nd
 same:=m.same.trans s.same
 own:=fun a ha=>(hm a ha).elim (m.own a) fun z=>m.same.free z
 inn:=fun a h=>s.inn a (m.inn a h)
 out:=fun a h=>by
  rcases s.out a h with h|h|h
  ·exact m.out a h
  ·exact .inr (m.own a h)
  ·exact .inr (m.same.free h)
 pin:=fun a xs h=>⟨s.inn a (m.pin a xs h).1,s.same.rd (m.pin a xs h).2⟩
 NI:=fun a xs h=>s.same.Lo (m.NI a xs h)
 nm:=m.nm
theorem J3.ow (m:J3 K B F H σ τ f)(o:Ow K F H f F' H' σ v d fv τ' f'):J3 K B F' H' σ τ' f'/\∀a∈fv,B.H a=Φ:=
 ⟨m.LA o.LA o.JL o.J8 (r_.mp o.J7).2.1 fun a ha=>o.mem a (t_ _ ha),fun a ha=>(o.mem a (s_ _ ha)).elim (m.own a) fun z=>m.same.free z⟩
theorem J3.grow (m:J3 K B F H σ τ f)(e:iL H H'):J3 K B F H' σ τ f:=by obtain⟨k1,k2,k3⟩:=lD m.JL m.J8 e;exact m.LA k3 k1 k2 m.J7 fun a ha=>.inl ha
theorem J3.ro (m:J3 K B F H σ τ f)(h:IA (g τ) Kt)(k:∀p v H' F' fv f',Ow K F H f F' H' σ v p.1 fv p.2 f'->Kt p->Q v H'):RO K g σ H Q:=
 ⟨F,τ,f,m.JL,m.J8,m.J7,h.mono fun p hp v H' F' fv f' o=>k p v H' F' fv f' o hp⟩
theorem J3.rt (m:J3 K B F H σ τ f)(h:IA (g τ) Kt)(k:∀b H',J3 K B F H' σ τ f->iL H H'->Kt b->Q b H'):RT K is g σ H Q:=
 lL (.refl _) (jz m.J8) h fun b H2 e2 _ hb=>k b H2 (m.grow e2) e2 hb
theorem J3.rd (m:J3 K B F H σ τ f)(h:IA (g τ) Kt)(k:∀d v H',J3 K B F H' σ τ f->iL H H'->IB K (nw (fun _=>True) H) H' v d->Kt d->Q v H'):RD K is g σ H Q:=
 iZ (.refl _) (jz m.J8) h fun b v H2 e2 _ mv hb=>k b v H2 (m.grow e2) e2 mv hb
mutual
theorem yb:∀(t:Tg) {σ:St}{τ:Ev}{f:List Ω}{v:V}{d:D}{fv:List Ω}{Kt:Ev->Prop}{Q:St->Hp->Prop},JN K F H σ τ f->JB K F H v d fv->(fv++f).Nodup->IA (jM t d τ) Kt->
  (∀τ' JC f',JN K F H JC τ' f'->f'.Nodup->(∀a∈f',a∈fv++f)->(∀j,j∉Lg t->JC[j]? = σ[j]?)->Kt τ'->Q JC H)->gT K t v σ H Q
 |.nm i,σ,τ,f,v,d,fv,Kt,Q,r,m,nd,h,k=>by obtain⟨g,h',r2,p2⟩:=r.put i m;have Og:(g++h').Nodup:=p2.nodup_iff.mpr nd;exact k (τ.set i (Δ d)) (σ.set i (Δ v)) g r2 (r_.mp Og).1 (fun a ha=>p2.mem_iff.mp (s_ _ ha)) (fun j hj=>aaE (fun z=>hj (by rw[<- z];exact w_.mpr rfl))) h.ok
 |.tp ts,σ,τ,f,v,d,fv,Kt,Q,r,m,nd,h,k=>by
  cases m with
  |tup h1 h2=>obtain⟨gd,h⟩:=IA.IE h;have g':=q_ gd;exact⟨_,_,rfl,.inl h1,by rw[h2.length];exact g',ma ts r h2 nd h k⟩
  |Mh h0 h1 h2=>obtain⟨gd,h⟩:=IA.IE h;have g':=q_ gd;exact⟨_,_,rfl,.inr (.inl h1),by rw[h2.length];exact g',ma ts r h2 nd h k⟩
  |lstK h1 h2=>obtain⟨gd,h⟩:=IA.IE h;have g':=q_ gd;exact⟨_,_,rfl,.inr h1.sq,by rw[h2.length];exact g',ma ts r h2 nd h k⟩
  |Ki h0 h1 h2=>obtain⟨gd,h⟩:=IA.IE h;have g':=q_ gd;rw[c_,E_]at nd;exact⟨_,_,rfl,.inr (.inl (.inl h1)),by rw[h2.length];exact g',ma ts r h2 nd.2 h fun τ' JC f' a1 a2 a3 a5 a4=>k τ' JC f' a1 a2 (fun x hx=>by rw[c_];exact H_ _ (a3 x hx)) a5 a4⟩
  |_=>exact h.no.elim
theorem ma:∀(ts:List Tg) {σ:St}{τ:Ev}{f:List Ω}{vs:List V}{ds:List D}{fv:List Ω}{Kt:Ev->Prop}{Q:St->Hp->Prop},JN K F H σ τ f->ID K F H vs ds fv->(fv++f).Nodup->IA (lA ts ds τ) Kt->
  (∀τ' JC f',JN K F H JC τ' f'->f'.Nodup->(∀a∈f',a∈fv++f)->(∀j,j∉rj ts->JC[j]? = σ[j]?)->Kt τ'->Q JC H)->RB K ts vs σ H Q
 |[],σ,τ,f,vs,ds,fv,Kt,Q,r,m,nd,h,k=>by
  cases m with
  |nil=>exact⟨rfl,k τ σ f r (by simpa using nd) (fun a ha=>by simpa using ha) (fun _ _=>rfl) h.ok⟩
  |cons _ _=>exact h.no.elim
 |t::ts,σ,τ,f,vs,ds,fv,Kt,Q,r,m,nd,h,k=>by
  cases m with
  |nil=>exact h.no.elim
  |cons m1 m2=>
   rename_i v d f1 vs ds f2
   have NH:(f2++(f1++f)).Nodup:=by refine(List.Perm.nodup_iff ?_).mp nd;rw[<- z_];exact List.Perm.append_right f aan
   refine⟨_,_,rfl,yb t r m1 (r_.mp NH).2.1 (IA.Iq h) fun τ' JC f' r' Vf Nc Tc h'=>?_⟩;refine ma ts r' m2 (r_.mpr ⟨(r_.mp NH).1,Vf,fun a h1 b h2 e=>(r_.mp NH).2.2 a h1 b (Nc b h2) e⟩) h' fun Pw Px Qp r'' Vg Ph Vh Q9=>k Pw Px Qp r'' Vg (fun a ha=>?_) (fun j hj=>(Vh j fun z=>hj (t_ _ z)).trans (Tc j fun z=>hj (s_ _ z))) Q9;rcases C_.mp (Ph a ha) with z|z
   ·exact s_ _ (t_ _ z)
   ·rcases C_.mp (Nc a z) with z|z
    ·exact s_ _ (s_ _ z)
    ·exact t_ _ z
end
theorem J3.gT (m:J3 K B F H σ τ f)(mv:JB K F H v d fv)(nd:(fv++f).Nodup)(hb:∀a∈fv,B.H a=Φ)(MY:∀j∈Lg t,io≠Δ j)(h:IA (jM t d τ) Kt)
  (k:∀τ' JC f',J3 K B F H JC τ' f'->Kt τ'->Q JC H):L2.gT K t v σ H Q:=
 yb t m.J8 mv nd h fun τ' JC f' r' Vf hm hj h'=>k τ' JC f' ⟨m.JL,r',Vf,m.same,fun a ha=>(C_.mp (hm a ha)).elim (hb a) (m.own a),m.inn,m.out,m.pin,m.NI,fun j a e1 e2=>(hj j fun z=>MY j z e1).trans (m.nm j a e1 e2)⟩ h'
theorem J3.write (m:J3 K B F H σ τ f)(hs:iF τ i=Δ (.lst Θ ds))(Kl:σ[i]? = Δ (Δ (.ref l)))(hl:H l=Δ (.lst xs))(mw:JB K F H w d fv)(nd:(fv++f).Nodup)(hb:∀a∈fv,B.H a=Φ)
  (hy:∀fi,ID K F H xs ds fi->∃fl h,ID K F H ys ds' fl/\(fl++h).Perm (fv++fi)):∃f',J3 K B F (upd H l (.lst ys)) σ (τ.set i (Δ (.lst Θ ds'))) f':=by
 obtain⟨v,fs,g,h1,h2,h3,h4⟩:=m.J8.at hs;rw[Kl]at h1;cases h1;cases h2 with
 | @Ki a UA Vi fi hF hH hm=>
  rw[hl]at hH;cases hH;obtain⟨fl,h,Nc,hp⟩:=hy fi hm;have Pz:((l::fi)++g).Nodup:=h4.nodup_iff.mp m.J7;have Tf:(fv++((l::fi)++g)).Nodup:=(aas fv h4).nodup_iff.mp nd;have lg:l∉g:=by rw[c_,E_]at Pz;exact fun z=>Pz.1 (t_ _ z)
  have RE:l∉fi:=by rw[c_,E_]at Pz;exact fun z=>Pz.1 (s_ _ z)
  have RF:l∉fv:=fun z=>(r_.mp Tf).2.2 l z l (by simp) rfl;have PB:∀a∈fl,a∈fv++fi:=fun a ha=>hp.mem_iff.mp (s_ _ ha);have Th:l∉fl:=fun z=>(C_.mp (PB l z)).elim RF RE;have sl:∀a (u:LD),F a->Rd H a u.o->F a/\Rd (upd H l (.lst ys)) a u.o:=fun a xs h r=>by refine⟨h,?_⟩;have:a≠l:=fun z=>hF (by rw[<- z];exact h);unfold Rd;rw[iI this];exact r
  have st:∀a xs,JO K H a xs->JO K (upd H l (.lst ys)) a xs:=fun a xs h=>h.upd hl;have r1:JN K F (upd H l (.lst ys)) σ (τ.set i Φ) g:=h3.step sl st fun a ha n _=>⟨n,iI fun z=>lg (by rw[<- z];exact ha)⟩
  have m1:JB K F (upd H l (.lst ys)) (.ref l) (.lst Θ ds') (l::fl):=.Ki hF iM (Nc.step sl st fun a ha n _=>⟨n,iI fun z=>Th (by rw[<- z];exact ha)⟩);obtain⟨g',h',r2,p2⟩:=r1.put i m1;have PC:σ.set i (Δ (.ref l))=σ:=by
   apply List.ext_getElem?;intro j;rw[List.getElem?_set];by_cases hj:i=j
   ·subst hj;have JU:i < σ.length:=(x_.mp Kl).1;rw[e_ rfl,e_ JU,Kl]
   ·rw[d_ hj]
  rw[PC,List.set_set]at r2;have ndl:((l::fl)++g).Nodup:=by
   rw[c_,E_];refine⟨fun z=>(C_.mp z).elim Th lg,r_.mpr ⟨?_,(r_.mp Pz).2.1,fun a h1 b h2 e=>?_⟩⟩
   ·have:(fl++h).Nodup:=hp.nodup_iff.mpr (r_.mpr ⟨(r_.mp Tf).1,(E_.mp (r_.mp Pz).1).2,fun a h1 b h2 e=>(r_.mp Tf).2.2 a h1 b (s_ _ (H_ _ h2)) e⟩);exact(r_.mp this).1
   ·subst e;rcases C_.mp (PB a h1) with z|z
    ·exact(r_.mp Tf).2.2 a z a (t_ _ h2) rfl
    ·exact(r_.mp Pz).2.2 a (H_ _ z) a h2 rfl
  have Og:(g'++h').Nodup:=p2.nodup_iff.mpr ndl;have lB:B.H l=Φ:=m.own l (h4.mem_iff.mpr (by simp));refine⟨g',fun a h=>?_,r2,(r_.mp Og).1,fun b o Np=>?_,fun a ha=>?_,m.inn,m.out,fun a xs h=>⟨(m.pin a xs h).1,(sl a xs (m.pin a xs h).1 (m.pin a xs h).2).2⟩,fun a xs h=>st a xs (m.NI a xs h),m.nm⟩
  ·have:a≠l:=fun z=>hF (by rw[<- z];exact h);rw[iI this];exact m.JL a h
  ·have:b≠l:=fun z=>by rw[z,lB]at Np;cases Np
   rw[iI this];exact m.same _ _ Np
  ·have:a∈(l::fl)++g:=p2.mem_iff.mp (s_ _ ha);rcases C_.mp this with z|z
   ·rcases k_.mp z with rfl|z
    ·exact lB
    ·rcases C_.mp (PB a z) with z|z
     ·exact hb a z
     ·exact m.own a (h4.mem_iff.mpr (s_ _ (H_ _ z)))
   ·exact m.own a (h4.mem_iff.mpr (t_ _ z))
theorem ID.set (mw:JB K F H w d fv):∀ {xs:List V}{ds:List D}{fi:List Ω} (j:Nat),ID K F H xs ds fi->∃fl h,ID K F H (xs.set j w) (ds.set j d) fl/\(fl++h).Perm (fv++fi)
 |_,_,_,_,.nil=>⟨[],_,.nil,.refl _⟩
 |_,_,_,0,.cons (f:=f0) (g:=g0) m1 m2=>⟨_,f0,.cons mw m2,by rw[z_];exact aas _ aan⟩
 |_,_,_,j+1,.cons (f:=f0) (g:=g0) m1 m2=>by obtain⟨fl,h,h1,h2⟩:=ID.set mw j m2;refine⟨f0++fl,h,.cons m1 h1,?_⟩;rw[z_];refine(aas f0 h2).trans ?_;rw[<- z_,<- z_];exact List.Perm.append_right g0 aan
theorem ID.snoc (mw:JB K F H w d fv)  (m:ID K F H xs ds fi):∃fl h,ID K F H (xs++[w]) (ds++[d]) fl/\(fl++h).Perm (fv++fi):=
 ⟨fi++(fv++[]),[],m.append (.cons mw .nil),by rw[P_,P_];exact aan⟩
end
noncomputable def notTuple:Expr->Bool
 |.Tuple ..=>Ξ
 |_=>Θ
noncomputable def qg:Expr->Bool
 |.ListComp ..=>Ξ
 |.SetComp ..=>Ξ
 |.DictComp ..=>Ξ
 |_=>Θ
noncomputable def isName:Expr->Bool
 |.Name ..=>Θ
 |_=>Ξ
noncomputable def isTup:Expr->Bool
 |.Tuple ..=>Θ
 |_=>Ξ
noncomputable def Vj:Stmt->(List Expr->Expr->Bool)->Bool
 |.Assign ts v _,k=>k ts v
 |_,_=>Ξ
theorem yd (h:Vj s k=Θ):∃ts v p,s=.Assign ts v p/\k ts v=Θ:=by
 induction s using zS with
 |Assign ts v p=>exact⟨ts,v,p,rfl,h⟩
 |_=>exact gf h
noncomputable def Vk:Expr->(Expr->Expr->Bool)->Bool
 |.Subscript a b _,k=>k a b
 |_,_=>Ξ
theorem yf (h:Vk e k=Θ):∃a b p,e=.Subscript a b p/\k a b=Θ:=by
 induction e using zE with
 |Subscript a b p=>exact⟨a,b,p,rfl,h⟩
 |_=>exact gf h
noncomputable def XA (s:Stmt)(k:Expr->Str->Expr->Bool):Bool:=Vj s fun ts v=>Nm ts fun t=>Vk v fun o e=>OE (fun x=>k t x e) o
theorem Ef (h:XA s k=Θ):∃t x p e sp pos,s=.Assign [t] (.Subscript (.Name x p) e sp) pos/\k t x e=Θ:=by obtain⟨ts,v,p,rfl,h1⟩:=yd h;obtain⟨t,rfl,h2⟩:=kK h1;obtain⟨o,e,sp,rfl,h3⟩:=yf h2;obtain⟨x,p',rfl,h4⟩:=lK h3;exact⟨_,_,_,_,_,_,rfl,h4⟩
noncomputable def XB:Stmt->(Expr->List Stmt->List Stmt->Bool)->Bool
 |.If c a b _,k=>k c a b
 |_,_=>Ξ
theorem Eg (h:XB s k=Θ):∃c a b p,s=.If c a b p/\k c a b=Θ:=by
 induction s using zS with
 |If c a b p=>exact⟨c,a,b,p,rfl,h⟩
 |_=>exact gf h
noncomputable def XC:Stmt->(Expr->Bool)->Bool
 |.Expr e _,k=>k e
 |_,_=>Ξ
theorem Eh (h:XC s k=Θ):∃e p,s=.Expr e p/\k e=Θ:=by
 induction s using zS with
 |Expr e p=>exact⟨e,p,rfl,h⟩
 |_=>exact gf h
noncomputable def XD:Expr->(Expr->Str->Pos->Bool)->Bool
 |.Attribute o n p,k=>k o n p
 |_,_=>Ξ
theorem Ei (h:XD e k=Θ):∃o n p,e=.Attribute o n p/\k o n p=Θ:=by
 induction e using zE with
 |Attribute o n p=>exact⟨o,n,p,rfl,h⟩
 |_=>exact gf h
noncomputable def alt (s:Stmt)(k:Str->Expr->Expr->Bool):Bool:=Vj s fun ts v=>Nm ts fun t=>Vk t fun o e=>OE (fun x=>k x e v) o
theorem Ej (h:alt s k=Θ):∃y p e sp v vp,s=.Assign [.Subscript (.Name y p) e sp] v vp/\k y e v=Θ:=by obtain⟨ts,v,vp,rfl,h3⟩:=yd h;obtain⟨t,rfl,h4⟩:=kK h3;obtain⟨o,e,sp,rfl,h5⟩:=yf h4;obtain⟨y,p,rfl,h6⟩:=lK h5;exact⟨_,_,_,_,_,_,rfl,h6⟩
noncomputable def XF (s:Stmt)(k:Str->Str->Bool->Expr->Bool):Bool:=XC s fun b=>Qk b fun f ws IF=>XD f fun o name apos=>OE (fun y'=>Nm ws fun w=>k y' name (apos.endLine == IF.line) w) o
theorem Ek (h:XF s k=Θ):∃y' p' name apos w IF ep,s=.Expr (.Call (.Attribute (.Name y' p') name apos) [w] [] IF) ep/\k y' name (apos.endLine == IF.line) w=Θ:=by obtain⟨b,ep,rfl,h8⟩:=Eh h;obtain⟨f,ws,IF,rfl,h9⟩:=ox h8;obtain⟨o,name,apos,rfl,NB⟩:=Ei h9;obtain⟨y',p',rfl,Oz⟩:=lK NB;obtain⟨w,rfl,O'⟩:=kK Oz;exact⟨_,_,_,_,_,_,_,rfl,O'⟩
noncomputable def XG (s:Stmt)(k:Expr->Str->Expr->Expr->Str->Str->Bool->Expr->Bool):Bool:=XB s fun c a b=>Nm a fun a=>alt a fun y e v=>Nm b fun b=>XF b fun y' name l w=>k c y e v y' name l w
theorem El (h:XG s k=Θ):∃c y p e sp v vp y' p' name apos w IF ep pos,s=.If c [.Assign [.Subscript (.Name y p) e sp] v vp] [.Expr (.Call (.Attribute (.Name y' p') name apos) [w] [] IF) ep] pos/\k c y e v y' name (apos.endLine == IF.line) w=Θ:=by obtain⟨c,a,b,pos,rfl,h1⟩:=Eg h;obtain⟨a,rfl,h2⟩:=kK h1;obtain⟨y,p,e,sp,v,vp,rfl,h3⟩:=Ej h2;obtain⟨b,rfl,h4⟩:=kK h3;obtain⟨y',p',name,apos,w,IF,ep,rfl,h5⟩:=Ek h4;exact⟨_,_,_,_,_,_,_,_,_,_,_,_,_,_,_,rfl,h5⟩
noncomputable def uo (Z:Sg)(G:Gm)(i j:Nat)(e c x v w:IR)(s s':Stmt):Bool:=
 (XA s fun t xi se=>isName t&&j7 G (.nm j) t&&kA G i xi&&jk se&&Ju Z G e se&&decide (i≠j)) &&
 XG s' fun ce y se ve y' name l we=>Ju Z G c ce&&kA G j y&&jk se&&Ju Z G x se&&Ju Z G v ve&&kA G j y'&&name == "append"&&l&&notStar we&&Ju Z G w we
mutual
noncomputable def yg (Z:Sg)(G:Gm):IS->Stmt->Bool
 |.asg tg e,.Assign [t] v _=>j7 G tg t&&Ju Z G e v&&(isName t||(isTup t&&notTuple v))
 |.Lz i k e,.Assign [.Subscript (.Name x _) s _] v _=>kA G i x&&jk s&&Ju Z G k s&&Ju Z G e v
 |.Mi i k e,.Assign [.Subscript (.Name x _) s _] v _=>kA G i x&&jk s&&Ju Z G k s&&Ju Z G e v
 |.ext i e,.Expr (.Call (.Attribute (.Name x _) name apos) [v] [] IF) _=>kA G i x&&name == "extend"&&apos.endLine == IF.line&&notStar v&&Ju Z G e v
 |.app i e,.Expr (.Call (.Attribute (.Name x _) name apos) [v] [] IF) _=>kA G i x&&name == "append"&&apos.endLine == IF.line&&notStar v&&Ju Z G e v
 |.exp e,.Expr v _=>qg v&&Ju Z G e v
 |.ret e,.Return (Δ v) _=>Ju Z G e v
 |.JJ t a b,.If c x y _=>Ju Z G t c&&jU Z G a x&&jU Z G b y
 |.JH tg s body,.For t it b [] _=>((G.cm&&G.rs)&&j7 G tg t)&&(kl Z G s it&&nc s t)&&jU Z G body b
 |_,_=>Ξ
noncomputable def jU (Z:Sg)(G:Gm):List IS->List Stmt->Bool
 |[],[]=>Θ
 |.N9 i j e c x v w::as,s::s'::ss=>uo Z G i j e c x v w s s'&&jU Z G as ss
 |a::as,s::ss=>yg Z G a s&&jU Z G as ss
 |_,_=>Ξ
end
noncomputable def Ce:IS->Bool
 |.N9 _ _ _ _ _ _ _=>Θ
 |_=>Ξ
theorem sR (h:Ce a=Ξ):jU Z G (a::as) (s::ss)=(yg Z G a s&&jU Z G as ss):=by
 induction a using zT<;>first|rfl|cases h
section
variable {Z:Sg}{CX:KJ}{cl:Nat->List D->Res D}{X:Cx}{G:Gm}
theorem Cf (ht:j7 G tg t=Θ)  (h:RS X.K G.io (fun τ=>Iq (ga τ) fun p=>Iq (jM tg p.1 p.2) fun τ'=>.ok (.nx τ')) Dn σ H):C7 (RO X.K ga) (gT X.K tg) Dn σ H:=by obtain⟨B,F,τ,f,m,q⟩:=h;refine m.ro (IA.Iq q) fun p v H' F' fv f' o hp=>?_;obtain⟨m',hb⟩:=m.ow o;exact m'.gT o.rep o.J7 hb (l8 tg t ht) (IA.Iq hp) fun τ' JC Qp Oi h'=>h'.ok _ _ _ _ Oi
theorem Ik (g:JY Z CX cl X G)  (ht:j7 G tg t=Θ)(hv:Ju Z G e v=Θ)(hc:(isName t||(isTup t&&notTuple v))=Θ):PS X (.Assign [t] v pos) (RS X.K G.io (Ko cl (.asg tg e))):=by
 have pe:=OG e Ξ X G v g hv;have pg:=Pu g tg t ht
 induction t using zE with
 |Name x px=>
  cases tg with
  |tp _=>cases ht
  |nm i=>
   have Nb:(G.N[i]? == Δ x&&(G.kd[i]? == Δ .local||(G.df&&G.kd[i]? == Δ .cell)))=Θ:=(F_.mp ht).1;rw[g_,aag,g_]at Nb;have hx:G.N[i]? = Δ x:=h_ Nb.1;have hk:=g.kd i x hx;have PF:Loc X.env.scope x:=Nb.2.elim (fun z=>.inl (hk.trans (h_ z))) fun z=>.inr (hk.trans (h_ z.2));have M6:X.fn x=Θ∨X.env.scope.names.lookup x=Δ .local:=Nb.2.elim (fun z=>.inr (hk.trans (h_ z))) fun z=>.inl (g.df z.1 x);have plain:swapsWith v (Δ (.Name x px)) pos.line X.env=pure Ξ->PS X (.Assign [.Name x px] v pos) (RS X.K G.io (Ko cl (.asg (.nm i) e))):=fun hs=>
    jY (wo (i:=i) (by rw[g.N];exact g.J7) (by rw[g.N];exact hx) PF pe hs M6) fun Dn σ H h=>Cf ht h
   induction v using zE with
   |ListComp el gens scope Oj=>
    have Q2:swapsWith (.ListComp el gens scope Oj) (Δ (.Name x px)) pos.line X.env=pure (X.env.blockKind == .function&&X.env.kindOf x == Δ .local&&px.line == Oj.line&&!(scope.names.any fun(n,k)=>n == x&&(k == .local||k == .cell))):=rfl;cases hb:(X.env.blockKind == .function&&X.env.kindOf x == Δ .local&&px.line == Oj.line&&!(scope.names.any fun(n,k)=>n == x&&(k == .local||k == .cell))) with
    |false=>exact plain (by rw[Q2,hb])
    |true=>
     rw[hb]at Q2;have hlx:X.env.kindOf x=Δ .local:=by simp only[g_]at hb;exact h_ hb.1.1.2
     cases e with
     |comp G' fr T src ifs elt=>
      have hv:vU gens (fun t it fs=>jJ Z G scope G' fr&&j7 G' T t&&(Lg T).all (fun i=>decide (fr.length<=i))&&(kl Z G src it&&nc src t)&&ju Z G' ifs fs&&Ju Z G' elt el)=Θ:=hv;obtain⟨t,it,fs,rfl,hv⟩:=qd hv;have h':(jJ Z G scope G' fr&&j7 G' T t&&(Lg T).all (fun i=>decide (fr.length<=i))&&(kl Z G src it&&nc src t)&&ju Z G' ifs fs&&Ju Z G' elt el)=Θ:=hv;simp only[g_]at h';have hs:=qf h'.1.1.1.1.1;have hT:=h'.1.1.1.1.2;have ha:∀i∈Lg T,fr.length<=i:=fun i hi=>q_ (R_.mp h'.1.1.1.2 i hi);intro pins s' σ H Dn Iv h;obtain⟨Ku,S⟩:=mP g Iv.ok hs;have p:=Au (py:=px) (spos:=pos) (i:=i) (pos:=Oj) (elt:=el) (ifs:=fs) (tg:=t) (g:=gT X.K T) (tt:=RT X.K (iR ifs) (lG cl ifs)) (te:=RD X.K (vars elt) (IC cl elt)) (g.calm hs.cm) (by rw[g.N];exact g.J7) (by rw[g.N];exact hx) hlx S (Bd src X G it t g h'.1.1.2.1 h'.1.1.2.2) (fun C s H fp=>Pu (jK g hs Ku C s H fp) T t hT)
       (fun C s H fp=>Bc ifs _ G' fs (jK g hs Ku C s H fp) h'.1.2) (fun C s H fp=>(snd elt _ G' el (jK g hs Ku C s H fp) h'.2).1) Q2 (fun x=>j9 h'.1.1.2.1 X.env x)
      refine p pins s' σ H Dn Iv ?_;obtain⟨B,F,τ,f,m,q⟩:=h
      -- as one aaf is kept
      have q0:IA (Iq (Iq (IC cl (.comp G' fr T src ifs elt) τ) fun d=>.ok (iW (.comp G' fr T src ifs elt) d τ)) fun p=>Iq (jM (.nm i) p.1 p.2) fun τ'=>.ok (.nx τ')) (Fk X.K B Dn):=q;have q1:=IA.Iq (IA.Iq q0);have fin:∀(d:D) (v:V) (H':Hp) (F':Ω->Prop) (fv f':List Ω),Ow X.K F H f F' H' σ v (iW (.comp G' fr T src ifs elt) d τ).1 fv (iW (.comp G' fr T src ifs elt) d τ).2 f'->(∀(p:D×Ev),p=iW (.comp G' fr T src ifs elt) d τ->IA (Iq (jM (.nm i) p.1 p.2) fun τ'=>.ok (.nx τ')) (Fk X.K B Dn))->Dn.nx (σ.set i (Δ v)) H':=by intro d v H' F' fv f' o hp;obtain⟨m',Mx⟩:=m.ow o;have:=m'.gT (t:=.nm i) (Q:=Dn.nx) o.rep o.J7 Mx (l8 _ _ ht) (IA.Iq (hp _ rfl)) fun τ' JC Qp Oi h'=>h'.ok _ _ _ _ Oi;exact this
      cases z:IC cl (.comp G' fr T src ifs elt) τ with
      |error er=>rw[z]at q1;cases er;exact q1.no.elim
      |ok d=>
       rw[z]at q1;have q2:=q1.ok.ok;obtain⟨o',ds,rfl⟩:∃o ds,d=.lst o ds:=by have zz:=z;rw[oC]at zz;obtain⟨its,_,zz⟩:=kq zz;obtain⟨_,zz⟩:=DN zz;obtain⟨ds,_,zz⟩:=kq zz;cases zz;exact⟨Θ,ds,rfl⟩
       by_cases hi:iD ds=Θ
       ·have Oe:iW (.comp G' fr T src ifs elt) (.lst o' ds) τ=(.lst Θ ds,τ):=by unfold iW;rw[d_ (show ¬iH (.lst o' ds)=Θ by intro z;cases z)];show(if iD ds=Θ then _ else _)=_;rw[e_ hi]
        refine k7 (S:=fun _=>True) (τ:=τ) (Kt:=fun d'=>∃RG,d'=.lst RG ds) hs.Td ha (jz m.J8) ?_ fun A ys ds' H' e hA Of mm k=>?_
        ·show IA (IC cl (.comp G' fr T src ifs elt) τ) _;rw[z];exact⟨o',rfl⟩
        ·obtain⟨RG,k⟩:=k;cases k;obtain⟨k1,k2,k3⟩:=lD m.JL m.J8 e;refine fin (.lst o' ds) (.ref A) H' F [A] f ?_ (fun p hp=>by subst hp;exact q2);rw[Oe];refine⟨k3,k1,.Ki (fun zz=>m.JL A zz hA) Of (mm.free hi),k2,?_,fun a ha=>?_⟩
         ·rw[aay,E_];refine⟨fun zz=>?_,m.J7⟩;obtain⟨_,xs,e⟩:=m.J8.own A zz;rw[hA]at e;cases e
         ·rw[aay]at ha;rcases k_.mp ha with rfl|ha
          ·exact .inr hA
          ·exact .inl ha
       ·have Oe:iW (.comp G' fr T src ifs elt) (.lst o' ds) τ=(.lst Θ (Jv ds),JM (vars (.comp G' fr T src ifs elt)) τ):=by unfold iW;rw[d_ (show ¬iH (.lst o' ds)=Θ by intro z;cases z)];show(if iD ds=Θ then _ else _)=_;rw[d_ hi]
        obtain⟨F1,gg,b1,b2,b3,b4,b5,b6⟩:=l9 (vars (.comp G' fr T src ifs elt)) m.JL m.J8 m.J7;refine k7 (S:=F1) (τ:=τ) (Kt:=fun d'=>∃RG,d'=.lst RG ds) hs.Td ha b6 ?_ fun A ys ds' H' e hA Of mm k=>?_
        ·show IA (IC cl (.comp G' fr T src ifs elt) τ) _;rw[z];exact⟨o',rfl⟩
        ·obtain⟨RG,k⟩:=k;cases k;obtain⟨c1,c2,c3⟩:=grow (fun a=>a≠A) b1 b2 e;have m2:Iz X.K (fun a=>F1 a∨(a≠A/\H a=Φ/\H' a≠Φ)) H' ys ds:=mm.step (fun a xs h r=>⟨h.1.elim (fun z=>.inl z) fun z=>.inr ⟨h.2,z,r.some⟩,r⟩) fun a xs h=>h;refine fin (.lst o' ds) (.ref A) H' (fun a=>F1 a∨(a≠A/\H a=Φ/\H' a≠Φ)) [A] gg ?_ (fun p hp=>by subst hp;exact q2);rw[Oe];refine⟨b4.trans c3 (fun x hx=>.inl (b5 x hx)),c1,.Ki (fun zz=>?_) Of m2.frozen,c2,?_,fun a ha=>?_⟩
         ·rcases zz with zz|zz
          ·exact b1 A zz hA
          ·exact zz.1 rfl
         ·rw[aay,E_];refine⟨fun zz=>?_,b3⟩;obtain⟨_,xs,e⟩:=b2.own A zz;rw[hA]at e;cases e
         ·rw[aay]at ha;rcases k_.mp ha with rfl|ha
          ·exact .inr hA
          ·exact .inl (b5 a ha)
     |_=>first|exact gf hv|cases hv
   |SetComp _ _ _ _=>cases e<;>first|exact gf hv|cases hv
   |DictComp _ _ _ _ _=>cases e<;>first|exact gf hv|cases hv
   |_=>exact plain rfl
 |Tuple ts k px=>
  have P7:notTuple v=Θ:=hc;refine jY (rR pe pg ?_ ?_ rfl) fun Dn σ H h=>Cf ht h
  ·induction v using zE<;>rfl
  ·induction v using zE<;>first|rfl|cases P7
 |_=>cases hc
end
theorem JO.Vl {K:Frag}{H:Hp}{a l:Ω}{xs:List V}{ys zs:List (Key×V)}(hl:H l=Δ (.dK ys))(h:JO K H a xs):JO K (L2.upd H l (.dK zs)) a xs:=by exact h.cl (xB fun xs z=>by rcases z with z|⟨o',z⟩<;>(rw[hl]at z;cases z))
theorem ID.XH {K:Frag}{F:Ω->Prop}{H:Hp}{vs:List V}{ds:List D}{f:List Ω}(h:ID K F H vs ds f)(n:iD ds=Θ):f=[]:=by refine ID.rec (motive_1:=fun _ d f _=>iH d=Θ->f=[]) (motive_2:=fun _ d f _=>iD d=Θ->f=[]) (fun _=>rfl) (fun _ _=>rfl) (fun _ _=>rfl) (fun _ _=>rfl) (fun _ _ i z=>i z) (fun _ _ _ _ _=>rfl) (fun _ _ _ _=>rfl) (fun _ _ _ _ z=>gf z) (fun _ _ _ _ _ _=>rfl) (fun _ _ _ _ _ z=>gf z) (fun _=>rfl) (fun {v d f vs ds g} _ _ i j z=>?_) h n;have z':=F_.mp (show(iH d&&iD ds)=Θ from z);rw[i z'.1,j z'.2];rfl
theorem Bf {K:Frag}{F:Ω->Prop}{H:Hp}{σ:St}{τ:Ev}{f:List Ω}{i:Nat}{ks:List Key}{ds:List D}(r:JN K F H σ τ f)(hs:iF τ i=Δ (.Jy Θ ks ds))(n:iD ds=Θ) :
  ∃l kvs g,σ[i]? = Δ (Δ (.ref l))/\¬F l/\H l=Δ (.dK kvs)/\kvs.map (·.1)=ks/\ID K F H (kvs.map (·.2)) ds []/\JN K F H σ (τ.set i Φ) g/\f.Perm (l::g):=by
 obtain⟨v,fs,g,h1,h2,h3,h4⟩:=r.at hs;cases h2 with
 | @Ni a kvs _ _ fi hF hH hk hm=>have e:=hm.XH n;subst e;exact⟨a,kvs,g,h1,hF,hH,hk,hm,h3,h4⟩
theorem J3.PH {K:Frag}{io:Option Nat}{B:Bs io}{F:Ω->Prop}{H:Hp}{σ:St}{τ:Ev}{f g:List Ω}{i:Nat}{l:Ω}{kvs KI:List (Key×V)}{LK:List Key}{ds':List D}(m:J3 K B F H σ τ f)(Kl:σ[i]? = Δ (Δ (.ref l)))(hF:¬F l)(hl:H l=Δ (.dK kvs))(hr:JN K F H σ (τ.set i Φ) g)(h4:f.Perm (l::g))
  (hk:KI.map (·.1)=LK) (hm:ID K F H (KI.map (·.2)) ds' []):∃f',J3 K B F (upd H l (.dK KI)) σ (τ.set i (Δ (.Jy Θ LK ds'))) f':=by
 have RH:(l::g).Nodup:=h4.nodup_iff.mp m.J7;have lg:l∉g:=(E_.mp RH).1;have sl:∀a (u:LD),F a->Rd H a u.o->F a/\Rd (upd H l (.dK KI)) a u.o:=fun a xs h r=>by refine⟨h,?_⟩;have:a≠l:=fun z=>hF (by rw[<- z];exact h);unfold Rd;rw[iI this];exact r
 have st:∀a xs,JO K H a xs->JO K (upd H l (.dK KI)) a xs:=fun a xs h=>h.Vl hl;have r1:JN K F (upd H l (.dK KI)) σ (τ.set i Φ) g:=hr.step sl st fun a ha n _=>⟨n,iI fun z=>lg (by rw[<- z];exact ha)⟩
 have m1:JB K F (upd H l (.dK KI)) (.ref l) (.Jy Θ LK ds') [l]:=.Ni hF iM hk (hm.step sl st jH);obtain⟨g',h',r2,p2⟩:=r1.put i m1;have PC:σ.set i (Δ (.ref l))=σ:=by
  apply List.ext_getElem?;intro j;rw[List.getElem?_set];by_cases hj:i=j
  ·subst hj;rw[e_ rfl,e_ (x_.mp Kl).1,Kl]
  ·rw[d_ hj]
 rw[PC,List.set_set]at r2;have Og:(g'++h').Nodup:=p2.nodup_iff.mpr RH;have lB:B.H l=Φ:=m.own l (h4.mem_iff.mpr (by simp));refine⟨g',fun a h=>?_,r2,(r_.mp Og).1,fun b o Np=>?_,fun a ha=>m.own a (h4.mem_iff.mpr (p2.mem_iff.mp (s_ _ ha))),m.inn,m.out,fun a xs h=>⟨(m.pin a xs h).1,(sl a xs (m.pin a xs h).1 (m.pin a xs h).2).2⟩,fun a xs h=>st a xs (m.NI a xs h),m.nm⟩
 ·have:a≠l:=fun z=>hF (by rw[<- z];exact h);rw[iI this];exact m.JL a h
 ·have:b≠l:=fun z=>by rw[z,lB]at Np;cases Np
  rw[iI this];exact m.same _ _ Np
section
variable {K:Frag}{S:Ω->Prop}{H:Hp}
theorem has_any (kvs:List (Key×V))(q:Key):(kvs.any fun kv=>decide (kv.1=q))=qY (kvs.map (·.1)) q:=by unfold qY;rw[List.any_map];rfl
theorem MB (kvs:List (Key×V))(q:Key)(v:V):(putK kvs q v).map (·.1)=kT (kvs.map (·.1)) q:=by
 unfold putK kT;rw[has_any];by_cases h:qY (kvs.map (·.1)) q=Θ
 ·rw[e_ h,e_ h,K_];refine aat fun kv _=>?_;show(if kv.1=q then(kv.1,v) else kv).1=kv.1;split<;>rfl
 ·rw[d_ h,d_ h,N_];rfl
theorem Gv (q:Key)  (mv:IB K S H v d)  (m:Iz K S H (kvs.map (·.2)) ds):Iz K S H ((putK kvs q v).map (·.2)) (ki (kvs.map (·.1)) ds q d):=by
 unfold putK ki;rw[has_any];by_cases h:qY (kvs.map (·.1)) q=Θ
 ·rw[e_ h,e_ h,K_];clear h
  induction kvs generalizing ds with
  |nil=>cases m;exact .nil
  |cons p kvs ih=>
   rw[b_]at m;cases ds with
   |nil=>exact absurd m.length (by simp)
   |cons e ds=>
    cases m with
    |cons m1 m2=>
     rw[b_,b_,List.zipWith_cons_cons];refine .cons ?_ (ih m2);show IB K S H (if p.1=q then(p.1,v) else p).2 (if p.1=q then d else e);split
     ·exact mv
     ·exact m1
 ·rw[d_ h,d_ h,N_];exact m.append (.cons mv .nil)
theorem Em {ks:List Key}{ds:List D}{q:Key}{d:D}(h1:iD ds=Θ)(h2:iH d=Θ):iD (ki ks ds q d)=Θ:=by
 unfold ki;rw[iU]at h1;rw[iU,R_];rw[R_]at h1;intro x hx;split at hx
 ·rw[aaj]at hx;obtain⟨i,hi⟩:=hx;rw[List.getElem?_zipWith]at hi;split at hi
  ·rename_i a b e1 e2
   cases hi;split
   ·exact h2
   ·exact h1 _ (aak e2)
  ·cases hi
 ·rcases C_.mp hx with hx|hx
  ·exact h1 x hx
  ·rw[w_.mp hx];exact h2
end
section
variable {Z:Sg}{CX:KJ}{cl:Nat->List D->Res D}{X:Cx}{G:Gm}
theorem Ih (g:JY Z CX cl X G){i:Nat}{k e:IR}{x:Str}{p sp pos:Pos}{s v:Expr}(h1:kA G i x=Θ)(h2:jk s=Θ)(h3:Ju Z G k s=Θ)(h4:Ju Z G e v=Θ) :
  PS X (.Assign [.Subscript (.Name x p) s sp] v pos) (RS X.K G.io (Ko cl (.Mi i k e))):=by
 have hu:=g.un;refine jY (Ax (by omega) (mY g h1) (snd k X G s g h3).1 (snd e X G v g h4).1 (by induction v using zE<;>rfl)) fun Dn σ H h=>?_;obtain⟨B,F,τ,f,m,q⟩:=h;have q0:IA (Iq (IC cl e τ) fun d=>match iF τ i with|some (.Jy Θ ks ds)=>Iq (IC cl k τ) fun y=>(match m8 y with|some q=>IE (iH d&&iD ds&&kx ks.length) (.ok (.nx (τ.set i (Δ (.Jy Θ (kT ks q) (ki ks ds q d))))))|none=>Jw)|_=>Jw) (Fk X.K B Dn):=q;refine m.rd (IA.Iq q0) fun d w H1 m1 e1 mw q1=>?_;cases z0:iF τ i with
 |none=>rw[z0]at q1;exact q1.no.elim
 |some d0=>
  rw[z0]at q1
  induction d0 using zD with
  |Jy ow ks ds=>
   cases ow with
   |false=>exact q1.no.elim
   |true=>
    obtain⟨v0,Vm,_⟩:∃v0,σ[i]? = Δ (Δ v0)/\True:=by obtain⟨v0,_,_,h,_⟩:=m1.J8.at z0;exact⟨v0,h,trivial⟩
    refine⟨v0,Vm,m1.rd (IA.Iq q1) fun y w2 H2 m2 e2 mw2 q2=>?_⟩;cases hk:m8 y with
    |none=>simp only[hk]at q2;exact q2.no.elim
    |some qk=>
     simp only[hk]at q2;obtain⟨gd,q2⟩:=IA.IE q2;rw[g_,g_]at gd;obtain⟨l,kvs,g0,Kl,hF,hl,hks,hm,hr,hp⟩:=Bf m2.J8 z0 gd.1.2;rw[Vm]at Kl;cases Kl;subst hks;have L6:Iz X.K (fun _=>True) H2 (kvs.map (·.2)) ds:=hm.read (fun _ _=>trivial) fun _ _=>trivial;have mw1:IB X.K (fun _=>True) H2 w d:=mw.mono (fun _ _=>trivial) e2;have hm2:ID X.K F H2 ((putK kvs qk w).map (·.2)) (ki (kvs.map (·.1)) ds qk d) []:=(Gv qk mw1 L6).free (Em gd.1.2 gd.1.1);obtain⟨f',m3⟩:=m2.PH Vm hF hl hr hp (MB kvs qk w) hm2;have hlen:kvs.length < Ζ:=by
      have:=nq gd.2
      rwa [i_]at this
     exact⟨l,_,rfl,.inl ⟨kvs,qk,hl,qe mw2 hk,hlen,rfl⟩,q2.ok _ _ _ _ m3⟩
  |_=>exact q1.no.elim
end
section
variable {K:Frag}{F:Ω->Prop}{H:Hp}
theorem JB.parts (h:JB K F H v (.lst o es) fv):∃b zs fe h',v=.ref b/\Kf K H b zs/\ID K F H zs es fe/\(fe++h').Perm fv:=by
 cases h with
 |Mh h0 h1 h2=>exact⟨_,_,[],[],rfl,.inl h1,h2,.refl _⟩
 |lstK h1 h2=>exact⟨_,_,[],[],rfl,h1.sq,h2,.refl _⟩
 | @Ki a xs ds f h0 h1 h2=>exact⟨a,_,f,[a],rfl,.inl (.inl h1),h2,aan (l₁:=f) (l₂:=[a])⟩
end
section
variable {Z:Sg}{CX:KJ}{cl:Nat->List D->Res D}{X:Cx}{G:Gm}
theorem qh {K:Frag}{F:Ω->Prop}{H:Hp}{σ:St}{τ:Ev}{f:List Ω}{i:Nat}{ds:List D}(r:JN K F H σ τ f)(hs:iF τ i=Δ (.lst Θ ds)):∃l xs,σ[i]? = Δ (Δ (.ref l))/\H l=Δ (.lst xs)/\xs.length=ds.length:=by
 obtain⟨v,fs,g,h1,h2,h3,h4⟩:=r.at hs;cases h2 with
 |Ki hF hH hm=>exact⟨_,_,h1,hH,hm.length⟩
theorem LN (g:JY Z CX cl X G){i:Nat}{e:IR}{x:Str}{p apos IF pos:Pos}{v:Expr}(h1:kA G i x=Θ)(h2:(apos.endLine == IF.line)=Θ)(h3:notStar v=Θ)(h4:Ju Z G e v=Θ) :
  PS X (.Expr (.Call (.Attribute (.Name x p) "extend" apos) [v] [] IF) pos) (RS X.K G.io (Ko cl (.ext i e))):=by
 have pa:PA X [v] (o9 (RO X.K (JR cl Ξ e)) wD):=jn (OG e Ξ X G v g h4) jO (iC h3 _ _);have Ld:((backTo IF (Ν [v] X.env)).all (fun x=>!x.1)&&(backToKw IF (keywordEach [] X.env)).all (fun x=>x.1.isSome)&&decide ([v].length+([]:List Keyword).length+(if([]:List Keyword).isEmpty then 0 else 1) < 30))=Θ:=by rw[iC h3];rfl
 refine jY (ng (pw PySem.F.plainAttrs_list PySem.F.slot_list_extend PySem.F.type_list_extend AK (mY g h1) pa rfl Ld h2 (iC h3 _ _) rfl)) fun Dn σ H h=>?_;obtain⟨B,F,τ,f,m,q⟩:=h;have q0:IA (match iF τ i with|some (.lst _ _)=>(Iq (JR cl Ξ e τ) fun p=>(match p.1,iF p.2 i with|.lst _ es,Δ (.lst Θ ds)=>IE (jo (ds.length+es.length)) (.ok (.nx (p.2.set i (Δ (.lst Θ (ds++es))))))|_,_=>Jw))|_=>Jw) (Fk X.K B Dn):=q;cases z0:iF τ i with
 |none=>rw[z0]at q0;exact q0.no.elim
 |some d0=>
  rw[z0]at q0
  induction d0 using zD with
  |lst o0 Vi=>
   obtain⟨v0,fv0,g0,a1,a2,a3,a4⟩:=m.J8.at z0;obtain⟨l,Ti,_,_,rfl,hq,_⟩:=a2.parts;refine⟨.ref l,a1,.inl ⟨rfl,Ti,hq⟩,m.ro (IA.Iq q0) fun p v H' F' fv f' o hp=>?_⟩;obtain⟨m',hb⟩:=m.ow o;obtain⟨pd,pτ⟩:=p
   induction pd using zD with
   |lst oe es=>
    cases zs:iF pτ i with
    |none=>simp only[zs]at hp;exact hp.no.elim
    |some d=>
     simp only[zs]at hp
     induction d using zD with
     |lst ow ds=>
      cases ow with
      |false=>exact hp.no.elim
      |true=>
       obtain⟨gd,hp⟩:=IA.IE hp;obtain⟨l',xs,Kl,hl,hlen⟩:=qh m'.J8 zs;rw[a1]at Kl;cases Kl;obtain⟨b,zz,fe,h',rfl,hsq,XI,hpe⟩:=(show JB X.K F' H' v (.lst oe es) fv from o.rep).parts;have hz:zz.length=es.length:=ID.ind (P:=fun v d _=>v.length=d.length) rfl (fun _ _ _ _ _ _ _ _ j=>congrArg (· + 1) j) XI
       obtain⟨Qp,m3⟩:=m'.write (ys:=xs++zz) (ds':=ds++es) zs a1 hl o.rep o.J7 hb fun fi hm=>⟨fi++fe,h',hm.append XI,by
        rw[z_]
        exact aan.trans (List.Perm.append_right _ hpe)⟩
       exact⟨l,b,xs,zz,rfl,rfl,hl,hsq,by rw[hlen,hz];exact jv gd,hp.ok _ _ _ _ m3⟩
     |_=>exact hp.no.elim
   |_=>exact hp.no.elim
  |_=>exact q0.no.elim
end
theorem En {σ:St}{i:Nat}{v:V}(Kl:σ[i]? = Δ (Δ v)):σ.set i (Δ v)=σ:=by
 apply List.ext_getElem?;intro j;rw[List.getElem?_set];by_cases hj:i=j
 ·subst hj;rw[e_ rfl,e_ (x_.mp Kl).1,Kl]
 ·rw[d_ hj]
theorem ID.part {K:Frag}{F:Ω->Prop}{H:Hp}{es:List D}:∀(ds:List D) (k:Nat) (vs:List V) (f:List Ω),ID K F H vs ds f->ds[k]? = Δ (.lst Θ es)->∃l xs fi p q,vs[k]? = Δ (.ref l)/\¬F l/\H l=Δ (.lst xs)/\ID K F H xs es fi/\f=p++((l::fi)++q)/\
  ∀(H':Hp) (es':List D),(∀a (u:LD),F a->Rd H a u.o->F a/\Rd H' a u.o)->(∀a xs,JO K H a xs->JO K H' a xs)->(∀a∈p++q,H' a=H a)->JB K F H' (.ref l) (.lst Θ es') (l::fi)->ID K F H' vs (ds.set k (.lst Θ es')) f:=by
 intro ds
 induction ds with
 |nil=>intro k vs f h hk;simp at hk
 |cons d ds ih=>
  intro k vs f h hk;cases h with
  | @cons v _ f0 UG _ g0 h1 h2=>
   cases k with
   |zero=>
    rw[List.getElem?_cons_zero]at hk;cases hk;cases h1 with
    | @Ki a xs _ fi hF hH hm=>refine⟨a,xs,fi,[],g0,rfl,hF,hH,hm,rfl,fun H' es' sl st k m=>?_⟩;exact .cons m (h2.step sl st fun b hb n _=>⟨n,k b (by simpa using hb)⟩)
   |succ k=>rw[aaG]at hk;obtain⟨l,xs,fi,p,q,a1,a2,a3,a4,a5,a6⟩:=ih k UG g0 h2 hk;refine⟨l,xs,fi,f0++p,q,by rw[aaG];exact a1,a2,a3,a4,by rw[a5,z_],fun H' es' sl st k m=>?_⟩;exact .cons (h1.step sl st fun b hb n _=>⟨n,k b (s_ _ (s_ _ hb))⟩) (a6 H' es' sl st (fun b hb=>k b ((C_.mp hb).elim (fun z=>s_ _ (t_ _ z)) fun z=>t_ _ z)) m)
theorem J3.Nq {K:Frag}{io:Option Nat}{B:Bs io}{F:Ω->Prop}{H:Hp}{σ:St}{τ:Ev}{f:List Ω}{i k:Nat}{ds es es':List D}(m:J3 K B F H σ τ f)(zs:iF τ i=Δ (.lst Θ ds))(hk:ds[k]? = Δ (.lst Θ es))(lf:iD es=Θ)(Vn:iD es'=Θ) :
  ∃a l xs ys,σ[i]? = Δ (Δ (.ref a))/\H a=Δ (.lst xs)/\xs[k]? = Δ (.ref l)/\xs.length=ds.length/\H l=Δ (.lst ys)/\ys.length=es.length/\Iz K (fun _=>True) H ys es/\
   ∀zs,Iz K (fun _=>True) H zs es'->∃f',J3 K B F (upd H l (.lst zs)) σ (τ.set i (Δ (.lst Θ (ds.set k (.lst Θ es'))))) f':=by
 obtain⟨v,fs,g,Kl,h2,hr,h4⟩:=m.J8.at zs;cases h2 with
 | @Ki a xs Vi fi hF hH hm=>
  obtain⟨l,ys,fj,p,q,b1,b2,b3,b4,b5,put⟩:=ID.part ds k xs fi hm hk;have ej:=b4.XH lf;subst ej;refine⟨a,l,xs,ys,Kl,hH,b1,hm.length,b3,b4.length,b4.read (fun _ _=>trivial) fun _ _=>trivial,fun zs hz=>?_⟩;subst b5;have RH:((a::(p++([l]++q)))++g).Nodup:=h4.nodup_iff.mp m.J7;have pm:((a::(p++([l]++q)))++g).Perm (l::(a::(p++q++g))):=by simp only[c_,z_,List.nil_append];refine(List.Perm.cons a List.perm_middle).trans ?_;exact List.Perm.swap _ _ _
  have nl:l∉a::(p++q++g):=(E_.mp (pm.nodup_iff.mp RH)).1;have al:a≠l:=fun z=>nl (by rw[z];exact k_.mpr (.inl rfl));have sl:∀b (u:LD),F b->Rd H b u.o->F b/\Rd (upd H l (.lst zs)) b u.o:=fun b xs h r=>by refine⟨h,?_⟩;have:b≠l:=fun z=>b2 (by rw[<- z];exact h);unfold Rd;rw[iI this];exact r
  have st:∀b xs,JO K H b xs->JO K (upd H l (.lst zs)) b xs:=fun b xs h=>h.upd b3;have r1:JN K F (upd H l (.lst zs)) σ (τ.set i Φ) g:=hr.step sl st fun b ha n _=>⟨n,iI fun z=>nl (by rw[<- z];exact H_ _ (t_ _ ha))⟩
  have mz:ID K F (upd H l (.lst zs)) zs es' []:=(Iz.free Vn hz).step sl st jH;have m0:JB K F (upd H l (.lst zs)) (.ref l) (.lst Θ es') [l]:=.Ki b2 iM mz;have m1:JB K F (upd H l (.lst zs)) (.ref a) (.lst Θ (ds.set k (.lst Θ es'))) (a::(p++([l]++q))):=.Ki hF (by rw[iI al];exact hH) (put _ _ sl st (fun b hb=>iI fun z=>nl (by rw[<- z];exact H_ _ (s_ _ hb))) m0);obtain⟨g',h',r2,p2⟩:=r1.put i m1;rw[En Kl,List.set_set]at r2;have Og:(g'++h').Nodup:=p2.nodup_iff.mpr RH;have lB:B.H l=Φ:=m.own l (h4.mem_iff.mpr (by simp));refine⟨g',fun b h=>?_,r2,(r_.mp Og).1,fun b o Np=>?_,fun b ha=>?_,m.inn,m.out,fun b xs h=>⟨(m.pin b xs h).1,(sl b xs (m.pin b xs h).1 (m.pin b xs h).2).2⟩,fun b xs h=>st b xs (m.NI b xs h),m.nm⟩
  ·have:b≠l:=fun z=>b2 (by rw[<- z];exact h);rw[iI this];exact m.JL b h
  ·have:b≠l:=fun z=>by rw[z,lB]at Np;cases Np
   rw[iI this];exact m.same _ _ Np
  ·exact m.own b (h4.mem_iff.mpr (p2.mem_iff.mp (s_ _ ha)))
section
variable {K:Frag}{io:Option Nat}{B:Bs io}{F:Ω->Prop}{H:Hp}{σ:St}{τ:Ev}{f:List Ω}
theorem md (r:JN K F H σ τ f)  (hv:IB K (fun _=>True) H v d)(j:Nat):Slots K (fun _=>True) H (σ.set j (Δ v)) (τ.set j (Δ d)) is:=fun a ha d' z=>by
 by_cases hj:j=a
 ·subst hj;rw[mO]at z;by_cases hl:j < τ.length
  ·rw[e_ ⟨rfl,hl⟩]at z;cases z;exact⟨v,List.getElem?_set_self (by rw[r.len];exact hl),hv⟩
  ·rw[d_ (fun z=>hl z.2)]at z;obtain⟨_,_,_,h,_⟩:=r.at z;have:=(x_.mp h).1;rw[r.len]at this;exact absurd this hl
 ·rw[mO,d_ (fun z=>hj z.1)]at z;obtain⟨v',h1,h2⟩:=jz (is:=[a]) r a (w_.mpr rfl) d' z;exact⟨v',by rw[aaE hj];exact h1,h2⟩
theorem JN.forget:∀ {σ:St}{τ:Ev}{f:List Ω} (j:Nat) (o:Option V),JN K F H σ τ f->∃g h,JN K F H (σ.set j o) (τ.set j Option.none) g/\(g++h).Perm f
 |_,_,_,_,_,.nil=>⟨[],[],.nil,.refl _⟩
 |_,_,_,0,_,.none h=>⟨_,[],.none h,by rw[P_]⟩
 |_,_,_,0,_,.some (f:=f0) (g:=g0) m h=>⟨g0,f0,.none h,aan⟩
 |_,_,_,j+1,o,.none h=>by obtain⟨g,h',h1,h2⟩:=JN.forget j o h;exact⟨g,h',.none h1,h2⟩
 |_,_,_,j+1,o,.some (f:=f0) (g:=g0) m h=>by obtain⟨g,h',h1,h2⟩:=JN.forget j o h;exact⟨f0++g,h',.some m h1,by rw[z_];exact aas f0 h2⟩
theorem J3.forget (m:J3 K B F H σ τ f)(j:Nat)(o:Option V)(hj:io≠Δ j):∃f',J3 K B F H (σ.set j o) (τ.set j Φ) f':=by
 obtain⟨g,h,r,p⟩:=m.J8.forget j o;have nd:(g++h).Nodup:=p.nodup_iff.mpr m.J7
 exact⟨g,m.JL,r,(r_.mp nd).1,m.same,fun a ha=>m.own a (p.mem_iff.mp (s_ _ ha)),m.inn,m.out,m.pin,m.NI,fun j' a e1 e2=>by
  rw[aaE (fun z=>hj (by rw[z];exact e1))]
  exact m.nm j' a e1 e2⟩
end
section
variable {Z:Sg}{CX:KJ}{cl:Nat->List D->Res D}{X:Cx}{G:Gm}
theorem uq:∀ {τ:Ev}{j:Nat},sH τ j=Θ->j < τ.length
 |[],_,h=>by cases h
 |_::_,0,_=>Nat.succ_pos _
 |_::τ,j+1,h=>Nat.succ_lt_succ (uq (τ:=τ) h)
theorem Iz.RJ {K:Frag}{S:Ω->Prop}{H:Hp}{v:V}{d:D}(hv:IB K S H v d):∀ {vs:List V}{ds:List D} (t:Nat),Iz K S H vs ds->Iz K S H (vs.set t v) (ds.set t d)
 |_,_,_,.nil=>.nil
 |_,_,0,.cons h1 h2=>.cons hv h2
 |_,_,t+1,.cons h1 h2=>.cons h1 (Iz.RJ hv t h2)
theorem ur (hd:iH d=Θ):∀ {ds:List D} (t:Nat),iD ds=Θ->iD (ds.set t d)=Θ
 |[],_,h=>h
 |e::ds,0,h=>by have h':=F_.mp (show(iH e&&iD ds)=Θ from h);show(iH d&&iD ds)=Θ;rw[hd,h'.2];rfl
 |e::ds,t+1,h=>by have h':=F_.mp (show(iH e&&iD ds)=Θ from h);show(iH e&&iD (ds.set t d))=Θ;rw[h'.1,ur hd t h'.2];rfl
theorem yh (hd:iH d=Θ)  (h:iD ds=Θ):iD (ds++[d])=Θ:=by rw[iU]at h ⊢;rw[List.all_append,h];show(iH d&&Θ)=Θ;rw[hd];rfl
theorem Bg (g:JY Z CX cl X G)  (h:uo Z G i j e c x v w s s'=Θ)(hr:L7 X ss (RS X.K G.io (jf cl as))):L7 X (s::s'::ss) (RS X.K G.io (jf cl (.N9 i j e c x v w::as))):=by
 unfold uo at h;rw[g_]at h;obtain⟨ha,hb⟩:=h;obtain⟨t,xi,p1,se,sp,Vo,rfl,Rw⟩:=Ef ha;obtain⟨ce,y,p2,sx,sp2,ve,vp,y',p3,name,apos,we,IF,ep,aap,rfl,Mx⟩:=El hb;simp only[g_]at Rw Mx;obtain⟨⟨⟨⟨⟨hn,hT⟩,hi⟩,hse⟩,he⟩,XJ⟩:=Rw;obtain⟨⟨⟨⟨⟨⟨⟨⟨⟨hc,hj1⟩,hsx⟩,hx⟩,hv⟩,hj2⟩,hnm⟩,hli⟩,Ke⟩,hw⟩:=Mx;have XJ:i≠j:=q_ XJ;have en:=h_ hnm;subst en
 induction t using zE with
 |Name yt py=>
  have Nb:(G.N[j]? == Δ yt&&(G.kd[j]? == Δ .local||(G.df&&G.kd[j]? == Δ .cell)))=Θ:=(F_.mp hT).1;have hjo:G.io≠Δ j:=by simpa using(F_.mp hT).2
  rw[g_,aag,g_]at Nb;have XM:G.N[j]? = Δ yt:=h_ Nb.1;have hk:=g.kd j yt XM;have PF:Loc X.env.scope yt:=Nb.2.elim (fun z=>.inl (hk.trans (h_ z))) fun z=>.inr (hk.trans (h_ z.2));have M6:X.fn yt=Θ∨X.env.scope.names.lookup yt=Δ .local:=Nb.2.elim (fun z=>.inr (hk.trans (h_ z))) fun z=>.inl (g.df z.1 yt);have P1:PS X (.Assign [.Name yt py] (.Subscript (.Name xi p1) se sp) Vo) _:=wo (i:=j) (by rw[g.N];exact g.J7) (by rw[g.N];exact XM) PF (B7 tD (mY g hi) (snd e X G se g he).1 (fun o i=>by cases se<;>first|rfl|cases hse)) rfl M6;have Pa:PS X (.Assign [.Subscript (.Name y p2) sx sp2] ve vp) _:=rR (snd v X G ve g hv).1 (wj (mY g hj1) (snd x X G sx g hx).1 set_list (by intro _;cases sx<;>first|rfl|cases hsx)) (by cases ve<;>rfl) (by cases ve<;>rfl) rfl;have pa:PA X [we] (o9 (RD X.K (vars w) (IC cl w)) wD):=jn (snd w X G we g hw).1 jO (iC Ke _ _);have Ld:((backTo IF (Ν [we] X.env)).all (fun x=>!x.1)&&(backToKw IF (keywordEach [] X.env)).all (fun x=>x.1.isSome)&&decide ([we].length+([]:List Keyword).length+(if([]:List Keyword).isEmpty then 0 else 1) < 30))=Θ:=by rw[iC Ke];rfl
  have Pb:PS X (.Expr (.Call (.Attribute (.Name y' p3) "append" apos) [we] [] IF) ep) _:=ng (pw PySem.F.plainAttrs_list PySem.F.slot_list_append PySem.F.type_list_append mC (mY g hj2) pa rfl Ld hli (iC Ke _ _) rfl);refine nh (kP P1 (kP (B4 (snd c X G ce g hc).2 (kP Pa pT) (kP Pb pT)) hr)) fun Dn σ H ⟨B,F,τ,f,m,q⟩=>?_;have q00:=IA.Iq (show IA (Iq (xE cl i j e c x v w τ (iF τ i)) fun fl=>match fl with|.nx τ'=>jf cl as τ'|.ct τ'=>.ok (.ct τ')|.bk τ'=>.ok (.bk τ')|.rt d=>.ok (.rt d)|.ri d ks vs=>.ok (.ri d ks vs)) (Fk X.K B Dn) from q);obtain⟨KK,XN,q0⟩:∃KK:Fl->Prop,(∀τ',KK (.nx τ')->IA (jf cl as τ') (Fk X.K B Dn))/\IA (xE cl i j e c x v w τ (iF τ i)) KK:=⟨_,fun τ' z=>z,q00⟩
  cases zs:iF τ i with
  |none=>rw[zs]at q0;exact q0.no.elim
  |some dd=>
   rw[zs]at q0
   induction dd using zD with
   |lst ow ds=>
    cases ow with
    |false=>exact q0.no.elim
    |true=>
     have q1:=IA.Iq (show IA (Iq (IC cl e τ) (AU cl i j c x v w ds τ)) KK from q0);obtain⟨l0,Ti,Kl,UP,hlen⟩:=qh m.J8 zs;refine⟨.ref l0,Kl,m.rd q1 fun yv wv H1 m1 e1 mw q2=>?_⟩
     induction yv using zD with
     |int z=>
      cases mw.JE;have q2:IA (sI cl i j c x v w ds τ (KU ds.length z)) KK:=q2;cases RK:KU ds.length z with
      |none=>rw[RK]at q2;exact q2.no.elim
      |some k=>
       rw[RK]at q2;cases Tj:ds[k]? with
       |none=>unfold sI at q2;simp only[Tj]at q2;exact q2.no.elim
       |some dk=>
        have q3:IA (match(Δ dk:Option D) with|some (.lst Θ es)=>IE (iD es&&sH τ j) (Iq (Iq (IC cl c (τ.set j (Δ (.lst Θ es)))) iX) (vP cl i j k x v w ds es τ))|_=>Jw) KK:=by unfold sI at q2;simp only[Tj]at q2;exact q2
        induction dk using zD with
        |lst ow es=>
         cases ow with
         |false=>exact q3.no.elim
         |true=>
          obtain⟨Vp,q4⟩:=IA.IE q3;rw[g_]at Vp;have RL:=Vp.1;have hjl:j < σ.length:=by rw[m.J8.len];exact uq Vp.2
          obtain⟨a,l,xs,ys,b1,b2,b3,b4,b5,b6,b7,_⟩:=m1.Nq (es':=es) zs Tj RL RL;rw[Kl]at b1;cases b1;have To:IB X.K (fun _=>True) H1 (.ref l) (.lst Θ es):=.lst trivial (.inl b5) b7;refine⟨l0,xs,z,.ref l,rfl,rfl,.inl (.inl b2),?_,?_⟩
          ·unfold KG;rw[b4,RK];exact b3
          ·have q5:=IA.Iq q4;refine lL (.refl _) (md m1.J8 To j) q5 fun r H2 e2 _ q6=>?_;have m2:=m1.grow e2;have PJ:IB X.K (fun _=>True) H2 (.ref l) (.lst Θ es):=To.mono (fun _ z=>z) e2;have NC:H2 l=Δ (.lst ys):=e2 _ _ b5;have fin:∀(H3:Hp) (e3:iL H2 H3) (es':List D) (Tp:List V),iD es'=Θ->Iz X.K (fun _=>True) H3 Tp es'->IA (jf cl as ((τ.set i (Δ (.lst Θ (ds.set k (.lst Θ es'))))).set j Φ)) (Fk X.K B Dn)->RS X.K G.io (jf cl as) Dn (σ.set j (Δ (.ref l))) (upd H3 l (.lst Tp)):=by intro H3 e3 es' Tp Vn hz hq;have m3:=m2.grow e3;obtain⟨a',l',UA,Zi,c1,c2,c3,c4,c5,c6,c7,wr⟩:=m3.Nq (es':=es') zs Tj RL Vn;rw[Kl]at c1;cases c1;rw[e3 _ _ (e2 _ _ b2)]at c2;cases c2;rw[b3]at c3;cases c3;obtain⟨f4,m4⟩:=wr Tp hz;obtain⟨f5,m5⟩:=m4.forget j (Δ (.ref l)) hjo;exact⟨B,F,_,f5,m5,hq⟩
           have XO:(σ.set j (Δ (.ref l)))[j]? = Δ (Δ (V.ref l)):=List.getElem?_set_self hjl;cases r with
           |true=>
            have q6:IA (Iq (IC cl v (τ.set j (Δ (.lst Θ es)))) fun d=>Iq (IC cl x (τ.set j (Δ (.lst Θ es)))) (AS i j k ds es τ d)) KK:=q6;refine iZ (.refl _) (md m2.J8 PJ j) (IA.Iq q6) fun d vv H3 e3 _ mv q7=>?_;have m3:=m2.grow e3;refine⟨.ref l,XO,iZ (.refl _) (md m3.J8 (PJ.mono (fun _ z=>z) e3) j) (IA.Iq q7) fun y4 w4 H4 e4 _ mw4 q8=>?_⟩
            induction y4 using zD with
            |int z4=>
             cases mw4.JE;unfold AS at q8;cases PK:KU es.length z4 with
             |none=>simp only[PK]at q8;exact q8.no.elim
             |some t=>simp only[PK]at q8;obtain⟨lfd,q9⟩:=IA.IE q8;refine⟨l,ys,z4,t,rfl,rfl,e4 _ _ (e3 _ _ NC),by rw[b6];exact PK,?_⟩;exact fin H4 (e3.trans e4) (es.set t d) (ys.set t vv) (ur lfd t RL) (Iz.RJ (mv.mono (fun _ _=>trivial) e4) t (b7.mono (fun _ z=>z) (e2.trans (e3.trans e4)))) (XN _ q9.ok)
            |_=>exact q8.no.elim
           |false=>have q6:IA (Iq (IC cl w (τ.set j (Δ (.lst Θ es)))) (DM i j k ds es τ)) KK:=q6;refine⟨.ref l,XO,.inl ⟨rfl,ys,.inl (.inl NC)⟩,iZ (.refl _) (md m2.J8 PJ j) (IA.Iq q6) fun d vv H3 e3 _ mv q7=>?_⟩;obtain⟨gd,q9⟩:=IA.IE (show IA (IE (iH d&&kx es.length) (.ok (.nx ((τ.set i (Δ (.lst Θ (ds.set k (.lst Θ (es++[d])))))).set j Φ)))) KK from q7);rw[g_]at gd;refine⟨l,ys,vv,rfl,rfl,e3 _ _ NC,by rw[b6];exact nq gd.2,?_⟩;exact fin H3 e3 (es++[d]) (ys++[vv]) (yh gd.1 RL) ((b7.mono (fun _ z=>z) (e2.trans e3)).append (.cons (mv.mono (fun _ _=>trivial) (.refl _)) .nil)) (XN _ q9.ok)
        |_=>exact q3.no.elim
     |_=>exact q2.no.elim
   |_=>exact q0.no.elim
 |_=>cases hn
end
section
variable {Z:Sg}{CX:KJ}{cl:Nat->List D->Res D}{X:Cx}{G:Gm}
theorem C' (g:JY Z CX cl X G){i:Nat}{k e:IR}{x:Str}{p sp pos:Pos}{s v:Expr}(h1:kA G i x=Θ)(h2:jk s=Θ)(h3:Ju Z G k s=Θ)(h4:Ju Z G e v=Θ) :
  PS X (.Assign [.Subscript (.Name x p) s sp] v pos) (RS X.K G.io (Ko cl (.Lz i k e))):=by
 refine jY (rR (OG e Ξ X G v g h4) (wj (mY g h1) (snd k X G s g h3).1 set_list (by intro _;cases s<;>first|rfl|cases h2)) (by cases v<;>rfl) (by cases v<;>rfl) rfl) fun Dn σ H h=>?_;obtain⟨B,F,τ,f,m,q⟩:=h;refine m.ro (IA.Iq q) fun p v H' F' fv f' o hp=>?_;obtain⟨m',hb⟩:=m.ow o;have Qq:IA (match iF p.2 i with|some (.lst Θ ds)=>(Iq (IC cl k p.2) fun|.int z=>(match KU ds.length z with|some j=>.ok (.nx (p.2.set i (Δ (.lst Θ (ds.set j p.1)))))|none=>Jw)|_=>Jw)|_=>Jw) (Fk X.K B Dn):=hp;cases zs:iF p.2 i with
 |none=>rw[zs]at Qq;exact Qq.no.elim
 |some d=>
  rw[zs]at Qq
  induction d using zD with
  |lst ow ds=>
   cases ow with
   |false=>exact Qq.no.elim
   |true=>
    obtain⟨l,xs,Kl,hl,hlen⟩:=qh m'.J8 zs;refine⟨.ref l,Kl,m'.rd (IA.Iq Qq) fun y w H2 m2 e2 mw hy=>?_⟩
    induction y using zD with
    |int z=>
     cases mw.JE;have Mz:IA (match KU ds.length z with|some j=>.ok (.nx (p.2.set i (Δ (.lst Θ (ds.set j p.1)))))|none=>Jw) (Fk X.K B Dn):=hy;cases hj:KU ds.length z with
     |none=>rw[hj]at Mz;exact Mz.no.elim
     |some j=>rw[hj]at Mz;obtain⟨k1,k2,k3⟩:=lD m'.JL m'.J8 e2;have XQ:JB X.K F' H2 v p.1 fv:=o.rep.LA k3 fun a ha hb=>(r_.mp o.J7).2.2 a ha a hb rfl;have NC:H2 l=Δ (.lst xs):=e2 _ _ hl;obtain⟨Qp,m3⟩:=m2.write (ys:=xs.set j v) (ds':=ds.set j p.1) zs Kl NC XQ o.J7 hb fun fi hm=>hm.set XQ j;exact⟨l,xs,z,j,rfl,rfl,NC,by rw[hlen];exact hj,Mz.ok _ _ _ _ m3⟩
    |_=>exact hy.no.elim
  |_=>exact Qq.no.elim
theorem Il (g:JY Z CX cl X G)  (h1:kA G i x=Θ)(h2:(apos.endLine == IF.line)=Θ)(h3:notStar v=Θ)(h4:Ju Z G e v=Θ) :
  PS X (.Expr (.Call (.Attribute (.Name x p) "append" apos) [v] [] IF) pos) (RS X.K G.io (Ko cl (.app i e))):=by
 have pa:PA X [v] (o9 (RO X.K (JR cl Ξ e)) wD):=jn (OG e Ξ X G v g h4) jO (iC h3 _ _);have Ld:((backTo IF (Ν [v] X.env)).all (fun x=>!x.1)&&(backToKw IF (keywordEach [] X.env)).all (fun x=>x.1.isSome)&&decide ([v].length+([]:List Keyword).length+(if([]:List Keyword).isEmpty then 0 else 1) < 30))=Θ:=by rw[iC h3];rfl
 refine jY (ng (pw PySem.F.plainAttrs_list PySem.F.slot_list_append PySem.F.type_list_append mC (mY g h1) pa rfl Ld h2 (iC h3 _ _) rfl)) fun Dn σ H h=>?_;obtain⟨B,F,τ,f,m,q⟩:=h;have q0:IA (match iF τ i with|some (.lst _ _)=>(Iq (JR cl Ξ e τ) fun p=>(match iF p.2 i with|some (.lst Θ ds)=>IE (kx ds.length) (.ok (.nx (p.2.set i (Δ (.lst Θ (ds++[p.1]))))))|_=>Jw))|_=>Jw) (Fk X.K B Dn):=q;cases z0:iF τ i with
 |none=>rw[z0]at q0;exact q0.no.elim
 |some d0=>
  rw[z0]at q0
  induction d0 using zD with
  |lst o0 Vi=>
   obtain⟨v0,fv0,g0,a1,a2,a3,a4⟩:=m.J8.at z0;have hq:∃l xs,v0=.ref l/\Kf X.K H l xs:=by
    cases a2 with
    |Mh _ b1 _=>exact⟨_,_,rfl,.inl b1⟩
    |lstK b1 _=>exact⟨_,_,rfl,b1.sq⟩
    |Ki _ b1 _=>exact⟨_,_,rfl,.inl (.inl b1)⟩
   obtain⟨l,Ti,rfl,hq⟩:=hq;refine⟨.ref l,a1,.inl ⟨rfl,Ti,hq⟩,m.ro (IA.Iq q0) fun p v H' F' fv f' o hp=>?_⟩;obtain⟨m',hb⟩:=m.ow o;cases zs:iF p.2 i with
   |none=>rw[zs]at hp;exact hp.no.elim
   |some d=>
    rw[zs]at hp
    induction d using zD with
    |lst ow ds=>
     cases ow with
     |false=>exact hp.no.elim
     |true=>obtain⟨gd,hp⟩:=IA.IE hp;obtain⟨l',xs,Kl,hl,hlen⟩:=qh m'.J8 zs;rw[a1]at Kl;cases Kl;obtain⟨Qp,m3⟩:=m'.write (ys:=xs++[v]) (ds':=ds++[p.1]) zs a1 hl o.rep o.J7 hb fun fi hm=>hm.snoc o.rep;exact⟨l,xs,v,rfl,rfl,hl,by rw[hlen];exact nq gd,hp.ok _ _ _ _ m3⟩
    |_=>exact hp.no.elim
  |_=>exact q0.no.elim
theorem Fk.RM {K:Frag}{io:Option Nat}{B:Bs io}{F F':Ω->Prop}{H H':Hp}{σ:St}{τ τ':Ev}{f f':List Ω}{v:V}{d:D}{fv:List Ω}(m:J3 K B F H σ τ f)(o:Ow K F H f F' H' σ v d fv τ' f'):Out K B.F B.H F' H' v d fv:=by obtain⟨m',hb⟩:=m.ow o;exact⟨m'.JL,m'.same,o.rep,(r_.mp o.J7).1,hb,m'.inn,m'.out⟩
theorem Im (g:JY Z CX cl X G)  (h:Ju Z G e v=Θ):PS X (.Return (Δ v) pos) (RS X.K G.io (Ko cl (.ret e))):=by refine jY (C6 (OG e Θ X G v g h)) fun Dn σ H ⟨B,F,τ,f,m,q⟩=>?_;exact m.ro (IA.Iq q) fun p v H' F' fv f' o hp=>hp.ok _ _ _ _ (Fk.RM m o)
theorem Io (g:JY Z CX cl X G)  (hc:qg v=Θ)(h:Ju Z G e v=Θ):PS X (.Expr v pos) (RS X.K G.io (Ko cl (.exp e))):=by refine jY (ng (snd e X G v g h).1 (by induction v using zE<;>first|rfl|cases hc)) fun Dn σ H ⟨B,F,τ,f,m,q⟩=>?_;exact m.rd (IA.Iq q) fun d v H' m' _ _ hd=>hd.ok _ _ _ _ m'
theorem Iy (hc:PT X c (RT X.K (vars t) fun τ=>Iq (IC cl t τ) iX))(ha:L7 X x (RS X.K G.io (jf cl a)))(hb:L7 X y (RS X.K G.io (jf cl b))):PS X (.If c x y pos) (RS X.K G.io (Ko cl (.JJ t a b))):=by
 refine jY (B4 hc ha hb) fun Dn σ H ⟨B,F,τ,f,m,q⟩=>?_;refine m.rt (IA.Iq q) fun r H' m' _ hr=>?_;cases r with
 |true=>rw[e_ rfl]at hr ⊢;exact⟨B,F,τ,f,m',hr⟩
 |false=>rw[d_ n_]at hr ⊢;exact⟨B,F,τ,f,m',hr⟩
theorem J3.less {K:Frag}{io:Option Nat}{B:Bs io}{L:Ω->LD->Prop}{T:Ω->List V->Prop}{F:Ω->Prop}{H:Hp}{σ:St}{τ:Ev}{f:List Ω}(m:J3 K (⟨B.F,B.H,fun a xs=>B.L a xs∨L a xs,fun a xs=>B.T a xs∨T a xs,B.N⟩:Bs io) F H σ τ f):J3 K B F H σ τ f:=
 ⟨m.JL,m.J8,m.J7,m.same,m.own,m.inn,m.out,fun a xs h=>m.pin a xs (.inl h),fun a xs h=>m.NI a xs (.inl h),m.nm⟩
theorem rE:∀(ds:List D) (i:Nat),(Jv ds).drop i=Jv (ds.drop i):=by intro ds i;rw[ji,ji,List.map_drop]
theorem rF {J:It}{K:Frag}{io:Option Nat}{B:Bs io}{F:Ω->Prop}{H:Hp}{σ:St}{τ:Ev}{f:List Ω}{T:Tg}{body:List IS}{its:List D}{Dn:Ends}(MY:∀j∈Lg T,io≠Δ j)(m:J3 K B F H σ τ f)(w:K9 K F H J its)
  (q:IA (forM (fun x τ=>Iq (jM T x τ) fun τ'=>jf cl body τ') (Jv its) τ) (Fk K B Dn)) :
  ∃W:Nat->Nat->St->Hp->Prop,(∃m,W 0 m σ H)/\∀i m σ H,W i m σ H->(J.stop i H/\Dn.nx σ H)∨(J.go i H/\∃N:St->Hp->Prop,(∀JC H',N JC H'->∃m',m' < m/\W (i+1) m' JC H')/\
   ∀x H',J.NW i H x H'->gT K T x σ H' fun LY H2=>RS K io (jf cl body) {Dn with nx:=N,ct:=N,bk:=Dn.nx} LY H2):=by
 let B':Bs io:=⟨B.F,B.H,fun a xs=>B.L a xs∨(F a/\Rd H a xs.o),fun a xs=>B.T a xs∨JO K H a xs,B.N⟩
 have m0:J3 K B' F H σ τ f:=⟨m.JL,m.J8,m.J7,m.same,m.own,m.inn,m.out,fun a xs h=>h.elim (m.pin a xs) id,fun a xs h=>h.elim (m.NI a xs) id,m.nm⟩
 let bd:D->Ev->Res Fl:=fun x τ=>Iq (jM T x τ) fun τ'=>jf cl body τ';refine⟨fun i n σ H=>n=its.length - i/\i<=its.length/\∃F τ f,J3 K B' F H σ τ f/\IA (forM bd ((Jv its).drop i) τ) (Fk K B Dn),⟨its.length,by simp,Y_ _,F,τ,f,m0,by rw[List.drop_zero];exact q⟩,?_⟩;rintro i n WG H1 ⟨rfl,hi,F1,NF,f1,m1,q1⟩;have w1:K9 K F1 H1 J its:=w.step (fun a xs h r=>m1.pin a xs (.inr ⟨h,r⟩)) fun a xs h=>m1.NI a xs (.inr h);by_cases JU:i < its.length
 ·refine .inr ⟨w1.go JU,fun σ H=>∃F τ f,J3 K B' F H σ τ f/\IA (forM bd ((Jv its).drop (i+1)) τ) (Fk K B Dn),fun JC H' h=>⟨its.length - (i+1),by omega,rfl,JU,h⟩,fun x H' y=>?_⟩;obtain⟨eH,mx⟩:=w1.NW y (d:=its[i]) (by simp[JU]);have m1:=m1.grow eH;have hd:(Jv its).drop i=er its[i]::(Jv its).drop (i+1):=by rw[rE,List.drop_eq_getElem_cons JU,Jv,rE]
  rw[hd]at q1;have q2:=IA.Iq q1;refine m1.gT mx.frozen (by simpa using m1.J7) (fun a ha=>absurd ha (by simp)) MY (IA.Iq q2) fun τ' JC f' m' h'=>?_;refine⟨B',F1,τ',f',m',h'.mono fun r hr=>?_⟩;cases r with
  |nx τ'=>exact fun JC H' F' f' Oi=>⟨F',τ',f',Oi,hr⟩
  |ct τ'=>exact fun JC H' F' f' Oi=>⟨F',τ',f',Oi,hr⟩
  |bk τ'=>exact fun JC H' F' f' Oi=>hr.ok _ _ _ _ Oi.less
  |rt d=>exact fun v H' F' fv o=>hr.ok _ _ _ _ o
  |ri d ks es=>exact hr.ok
 ·have e:i=its.length:=by omega
  subst e;refine .inl ⟨w1.stop rfl,?_⟩;have:(Jv its).drop its.length=[]:=by rw[<- kH its,List.drop_length]
  rw[this]at q1;exact q1.ok _ _ _ _ m1.less
theorem Bh (a b:Int):Jv (jq a b)=jq a b:=by unfold jq;rw[ji,K_];rfl
noncomputable def Cg (cl:Nat->List D->Res D):Sr->Ev->Res (Int×Int)
 |.JP n,τ=>Iq (IC cl n τ) fun|.int i=>IE (mX i) (.ok (0,i))|_=>Jw
 |_,_=>Jw
def RIr (K:Frag)(is:List Nat)(f:Ev->Res (Int×Int)):TI:=fun σ H R=>∃S τ,Slots K S H σ τ is/\IA (f τ) fun p=>∀H',iL H H'->R (QK p.1 (p.2 - p.1).toNat) H'
noncomputable def yi:Sr->Bool
 |.JP _=>Θ
 |_=>Ξ
theorem yj (h:yi s=Θ)  (q:IA (kO cl s τ) k):IA (Cg cl s τ) fun p=>k (jq p.1 p.2):=by
 cases s with
 |JP n=>
  refine IA.mk ((IA.Iq (show IA (Iq (IC cl n τ) fun|.int i=>IE (mX i) (.ok (jq 0 i))|_=>Jw) k from q)).mono fun d hd=>?_)
  induction d using zD with
  |int i=>obtain⟨gd,hd⟩:=IA.IE hd;show IA (IE (mX i) (.ok (0,i))) _;unfold IE;rw[e_ gd];exact hd.ok
  |_=>exact hd.no.elim
 |_=>exists h
theorem HW:∀(s:Sr) (X:Cx) (G:Gm) (e tg:Expr),JY Z CX cl X G->kl Z G s e=Θ->yi s=Θ->PI X tg e (RIr X.K (kj s) (Cg cl s)):=by
 intro s X G e tg g h hr;cases s with
 |JP n=>
  induction e using zE with
  |Call fn args K6 pos=>
   induction fn using zE with
   |Name x p=>
    match args,K6,h with
    |[a],[],h=>
     have h':(x == "range"&&G.gl.contains 15&&notStar a&&Ju Z G n a)=Θ:=h;simp only[g_]at h';have e1:x = "range":=h_ h'.1.1.1;subst e1;obtain⟨k1,k2,_,_⟩:=km g (show jm[15]? = Δ ("range" : Str) from rfl) h'.1.1.2;refine pX (o7 k1 k2 (jn (snd n X G a g h'.2).1 jO (iC h'.1.2 _ _)) (iC h'.1.2 _ _)) fun σ H Q ⟨S,τ,hs,q⟩=>?_;refine iZ (.refl _) hs (IA.Iq q) fun x v H1 e1 _ m1 q1=>?_
     induction x using zD with
     |int i=>cases m1.JE;obtain⟨gd,q1⟩:=IA.IE q1;have Py : -(2 ^ 62)<=i/\i < 2 ^ 62:=q_ gd;refine⟨i,rfl,Py.1,Py.2,?_⟩;have:=q1.ok _ e1;rw[show(0,i).2 - (0,i).1=i from Int.sub_zero i]at this;exact this
     |_=>exact q1.no.elim
    |[],_,h=>exists h
    |[_],_::_,h=>exists h
    |_::_::_,_,h=>exists h
   |_=>exists h
  |_=>exists h
 |_=>cases hr
theorem Ip (g:JY Z CX cl X G)  (Pf:(G.cm=Θ/\G.rs=Θ)/\j7 G T t=Θ)(Ta:kl Z G s it=Θ/\nc s t=Θ)(ha:L7 X x (RS X.K G.io (jf cl a))):PS X (.For t it x [] pos) (RS X.K G.io (Ko cl (.JH T s a))):=by
 have hT:=Pf.2;have hs:=Ta.1;by_cases hr:yi s=Θ
 ·refine jY (wt (g.own Pf.1.2) (g.calm Pf.1.1) (HW s X G it t g hs hr) (Pu g T t hT) ha (fun x=>j9 hs X.env x)) fun Dn σ H ⟨B,F,τ,f,m,q⟩=>?_;have q0:IA (Iq (p9 cl s τ) fun p=>forM (fun x τ=>Iq (jM T x τ) fun τ'=>jf cl a τ') p.1 p.2) (Fk X.K B Dn):=q;have base:IA (kO cl s τ) fun its=>IA (forM (fun x τ=>Iq (jM T x τ) fun τ'=>jf cl a τ') its τ) (Fk X.K B Dn):=by
   cases s with
   |JP u=>exact(IA.Iq (show IA (Iq (kO cl (.JP u) τ) fun its=>.ok (its,τ)) _ from IA.Iq q0)).mono fun its h=>h.ok
   |_=>cases hr
  exact⟨fun _=>True,τ,jz m.J8,(yj hr base).mono fun p hp H1 e1=>rF (l8 T t hT) (m.grow e1) (.M0 p.1 p.2) (by rw[Bh];exact hp)⟩
 ·refine jY (wt (g.own Pf.1.2) (g.calm Pf.1.1) (Bd s X G it t g hs Ta.2) (Pu g T t hT) ha (fun x=>j9 hs X.env x)) fun Dn σ H ⟨B,F,τ,f,m,q⟩=>?_;have q0:IA (Iq (p9 cl s τ) fun p=>forM (fun x τ=>Iq (jM T x τ) fun τ'=>jf cl a τ') p.1 p.2) (Fk X.K B Dn):=q;have q1:=IA.Iq q0;have Vq:p9 cl s τ=(Iq (kO cl s τ) fun its=>.ok (Jv its,JM (kj s) τ)):=by
   cases s with
   |val u=>rfl
   |zip u v=>rfl
   |LU u=>rfl
   |_=>exact absurd rfl hr
  rw[Vq]at q1;obtain⟨F1,gg,b1,b2,b3,b4,b5,b6⟩:=l9 (kj s) m.JL m.J8 m.J7;refine Gi (.refl _) b6 (IA.Iq q1) fun its J H1 e1 _ w1 hk=>?_;obtain⟨c1,c2,c3⟩:=grow (fun _=>True) b1 b2 e1;have m2:J3 X.K B (fun a=>F1 a∨(True/\H a=Φ/\H1 a≠Φ)) H1 σ (JM (kj s) τ) gg:=m.LA (b4.trans c3 (fun x hx=>.inl (b5 x hx))) c1 c2 b3 fun a ha=>.inl (b5 a ha);exact rF (l8 T t hT) m2 (w1.step (fun a xs h r=>⟨h.elim (fun z=>.inl z) fun z=>.inr ⟨trivial,z,r.some⟩,r⟩) fun a xs h=>h) hk.ok
mutual
theorem snS:∀(a:IS) (X:Cx) (G:Gm) (s:Stmt),JY Z CX cl X G->yg Z G a s=Θ->PS X s (RS X.K G.io (Ko cl a))
 |.asg tg e,X,G,s,g,h=>by
  induction s using zS with
  |Assign ts v pos=>
   match ts,h with
   |[t],h=>have h':(j7 G tg t&&Ju Z G e v&&(isName t||(isTup t&&notTuple v)))=Θ:=h;simp only[g_]at h';exact Ik g h'.1.1 h'.1.2 h'.2
   |[],h=>exists h
   |_::_::_,h=>exists h
  |_=>exists h
 |.Lz i k e,X,G,s,g,h=>by
  induction s using zS with
  |Assign ts v pos=>
   cases ts with
   |nil=>exists h
   |cons t ts=>
    cases ts with
    |cons _ _=>cases t<;>first|exact gf h|cases h|(rename_i o _ _;cases o<;>cases h)
    |nil=>
     induction t using zE with
     |Subscript o s sp=>
      induction o using zE with
      |Name x p=>have h':(kA G i x&&jk s&&Ju Z G k s&&Ju Z G e v)=Θ:=h;simp only[g_]at h';exact C' g h'.1.1.1 h'.1.1.2 h'.1.2 h'.2
      |_=>exists h
     |_=>exists h
  |_=>exists h
 |.Mi i k e,X,G,s,g,h=>by
  induction s using zS with
  |Assign ts v pos=>
   cases ts with
   |nil=>exists h
   |cons t ts=>
    cases ts with
    |cons _ _=>cases t<;>first|exact gf h|cases h|(rename_i o _ _;cases o<;>cases h)
    |nil=>
     induction t using zE with
     |Subscript o s sp=>
      induction o using zE with
      |Name x p=>have h':(kA G i x&&jk s&&Ju Z G k s&&Ju Z G e v)=Θ:=h;simp only[g_]at h';exact Ih g h'.1.1.1 h'.1.1.2 h'.1.2 h'.2
      |_=>exists h
     |_=>exists h
  |_=>exists h
 |.N9 i j e c x v w,X,G,s,g,h=>by induction s using zS<;>exists h
 |.ext i e,X,G,s,g,h=>by
  induction s using zS with
  |Expr v pos=>
   induction v using zE with
   |Call fn args K6 IF=>
    induction fn using zE with
    |Attribute o name apos=>
     induction o using zE with
     |Name x p=>
      match args,K6,h with
      |[v],[],h=>have h':(kA G i x&&name == "extend"&&apos.endLine == IF.line&&notStar v&&Ju Z G e v)=Θ:=h;simp only[g_]at h';have e1:name = "extend":=h_ h'.1.1.1.2;subst e1;exact LN g h'.1.1.1.1 h'.1.1.2 h'.1.2 h'.2
      |[],_,h=>exists h
      |[_],_::_,h=>exists h
      |_::_::_,_,h=>exists h
     |_=>exists h
    |_=>exists h
   |_=>exists h
  |_=>exists h
 |.app i e,X,G,s,g,h=>by
  induction s using zS with
  |Expr v pos=>
   induction v using zE with
   |Call fn args K6 IF=>
    induction fn using zE with
    |Attribute o name apos=>
     induction o using zE with
     |Name x p=>
      match args,K6,h with
      |[v],[],h=>have h':(kA G i x&&name == "append"&&apos.endLine == IF.line&&notStar v&&Ju Z G e v)=Θ:=h;simp only[g_]at h';have e1:name = "append":=h_ h'.1.1.1.2;subst e1;exact Il g h'.1.1.1.1 h'.1.1.2 h'.1.2 h'.2
      |[],_,h=>exists h
      |[_],_::_,h=>exists h
      |_::_::_,_,h=>exists h
     |_=>exists h
    |_=>exists h
   |_=>exists h
  |_=>exists h
 |.exp e,X,G,s,g,h=>by
  induction s using zS with
  |Expr v pos=>
   have h':(qg v&&Ju Z G e v)=Θ:=by induction v using zE<;>first|exact h|(rename_i c _ _;cases c<;>exact h)
   simp only[g_]at h';exact Io g h'.1 h'.2
  |_=>exists h
 |.ret e,X,G,s,g,h=>by
  induction s using zS with
  |Return v pos=>
   cases v with
   |none=>exists h
   |some v=>exact Im g h
  |_=>exists h
 |.JJ t a b,X,G,s,g,h=>by
  induction s using zS with
  |If c x y pos=>have h':(Ju Z G t c&&jU Z G a x&&jU Z G b y)=Θ:=h;simp only[g_]at h';exact Iy (snd t X G c g h'.1.1).2 (vW a X G x g h'.1.2) (vW b X G y g h'.2)
  |_=>exists h
 |.JH tg s body,X,G,st,g,h=>by
  induction st using zS with
  |For t it b els pos=>
   cases els with
   |cons _ _=>exists h
   |nil=>have h':(((G.cm&&G.rs)&&j7 G tg t)&&(kl Z G s it&&nc s t)&&jU Z G body b)=Θ:=h;simp only[g_]at h';exact Ip g h'.1.1 h'.1.2 (vW body X G b g h'.2)
  |_=>exists h
 |.brk,X,G,s,g,h=>by cases s<;>exists h
 |.cnt,X,G,s,g,h=>by cases s<;>exists h
 |.pass,X,G,s,g,h=>by cases s<;>exists h
theorem vW:∀(as:List IS) (X:Cx) (G:Gm) (ss:List Stmt),JY Z CX cl X G->jU Z G as ss=Θ->L7 X ss (RS X.K G.io (jf cl as))
 |[],X,G,ss,g,h=>by
  cases ss with
  |nil=>exact nh pT fun Dn σ H ⟨B,F,τ,f,m,q⟩=>q.ok _ _ _ _ m
  |cons _ _=>exists h
 |a::as,X,G,ss,g,h=>by
  cases ss with
  |nil=>induction a using zT<;>exists h
  |cons s ss=>
   cases XR:Ce a with
   |true=>
    cases a with
    |N9 i j e c x v w=>
     cases ss with
     |nil=>
      have h':(yg Z G (.N9 i j e c x v w) s&&jU Z G as [])=Θ:=h;have h1:=(F_.mp h').1
      induction s using zS<;>first|exact gf h1|cases h1
     |cons s' ss=>have h':=F_.mp (show(uo Z G i j e c x v w s s'&&jU Z G as ss)=Θ from h);exact Bg g h'.1 (vW as X G ss g h'.2)
    |_=>cases XR
   |false=>
    have h':(yg Z G a s&&jU Z G as ss)=Θ:=by rw[<- sR XR];exact h
    simp only[g_]at h';refine nh (kP (snS a X G s g h'.1) (vW as X G ss g h'.2)) fun Dn σ H ⟨B,F,τ,f,m,q⟩=>?_;refine⟨B,F,τ,f,m,(IA.Iq q).mono fun r hr=>?_⟩;cases r with
    |nx τ'=>exact fun JC H' F' f' m'=>⟨B,F',τ',f',m',hr⟩
    |ct τ'=>exact hr.ok
    |bk τ'=>exact hr.ok
    |rt d=>exact hr.ok
    |ri d ks es=>exact hr.ok
end
end
def RSB (K:Frag){io:Option Nat}(B:Bs io)(g:Ev->Res Fl):TS:=fun Dn σ H=>∃F τ f,J3 K B F H σ τ f/\IA (g τ) (Fk K B Dn)
def NJ (P:Ε)(w:Β):KJ:=fun _ _ _ _ _ _=>False
noncomputable def yk (Z:Sg)(fn:Fn)(ps:List Str)(st:Stmt):Bool:=
 (iT st).kind == .function&&!(iT st).isCoroutine&&!(iT st).isGenerator&&decide (fn.G.N.Nodup)&&fn.G.N.take ps.length == ps
&&ps.all (fun x=>(iT st).names.lookup x == Δ .local||(iT st).names.lookup x == Δ .cell)&&(iT st).names.all (fun y=>y.2 != .free)
&&(List.range fn.G.N.length).all (fun i=>(fn.G.N[i]?).bind ((iT st).names.lookup ·) == fn.G.kd[i]?)
&&fn.G.N.all (fun x=>!(x == "__debug__")&&!(x == "__classdict__"))
&&fn.G.gl.all (fun n=>match Z.name n with|some x=>(iT st).names.lookup x == Δ .globalImplicit|none=>Ξ)
&&decide (ps.length=fn.np)
noncomputable def iJ (Z:Sg)(fn:Fn)(ps:List Str)(st:Stmt):Bool:=yk Z fn ps st&&(!fn.io&&jU Z fn.G fn.body (jQ st))
structure OH (Z:Sg)(fn:Fn)(ps:List Str)(st:Stmt):Prop where
 sc:LH fn.G.N ps (iT st)
 kd:∀(i:Nat) (x:Str),fn.G.N[i]? = Δ x->(iT st).names.lookup x=fn.G.kd[i]?
 Ob:∀x∈fn.G.N,(x == ("__debug__" : Str))=Ξ/\(x == ("__classdict__" : Str))=Ξ
 gl:∀n∈fn.G.gl,∀x,Z.name n=Δ x->(iT st).names.lookup x=Δ .globalImplicit
 np:ps.length=fn.np
structure MC (Z:Sg)(fn:Fn)(ps:List Str)(st:Stmt):Prop extends OH Z fn ps st where
 pl:fn.io=Ξ
 body:jU Z fn.G fn.body (jQ st)=Θ
theorem yl {Z:Sg}{fn:Fn}{ps:List Str}{st:Stmt}(h:yk Z fn ps st=Θ):OH Z fn ps st:=by
 unfold yk at h;simp only[g_]at h;obtain⟨⟨⟨⟨⟨⟨⟨⟨⟨⟨h1,h2⟩,h3⟩,h4⟩,h5⟩,h6⟩,h7⟩,h8⟩,h9⟩,NB⟩,Oz⟩:=h;rw[R_]at h6 h7 h8 h9 NB;refine⟨⟨h_ h1,by simpa using h2,by simpa using h3,q_ h4,h_ h5,fun x hx=>?_,fun y hy=>by simpa using h7 y hy⟩,fun i x hx=>?_,fun x hx=>by simpa using h9 x hx,fun n hn x hx=>?_,q_ Oz⟩
 ·have:=h6 x hx;rw[aag]at this;exact this.elim (fun z=>.inl (h_ z)) fun z=>.inr (h_ z)
 ·have JU:i < fn.G.N.length:=(x_.mp hx).1;have:=h_ (h8 i (V_.mpr JU));rw[hx]at this;exact this
 ·have:=NB n hn;rw[hx]at this;exact h_ this
theorem rG {Z:Sg}{fn:Fn}{ps:List Str}{st:Stmt}(h:iJ Z fn ps st=Θ):MC Z fn ps st:=by unfold iJ at h;rw[g_,g_]at h;exact⟨yl h.1,by simpa using h.2.1,h.2.2⟩
structure Jz (K:Frag)(mg:Str->Option Ψ)(Z:Sg)(T:Tb)(f:Nat)(x:Str):Prop where
 ex:∃(fn:Fn) (st:Stmt) (fa:Ω) (fd:Ο) (ps:List Str),T f=Δ fn/\Qb K x x st fa fd/\mg x=Δ (.ref fa)/\Binds K fd ps []/\MC Z fn ps st
section
variable {P:Ε}{w:Β}{K:Frag}{mg:Str->Option Ψ}{base:Heap}{Z:Sg}{T:Tb}
structure ME (K:Frag)(mg:Str->Option Ψ)(Z:Sg)(T:Tb):Prop where
 Pr:∀n x,Z.name n=Δ x->x≠"__name__"/\(x == ("__debug__" : Str))=Ξ
 blt:∀(n:Nat) (x:Str),jm[n]? = Δ x->mg x=Φ
 cst:∀n d x,(n,d)∈Z.Qj->Z.name n=Δ x->∃u v,mg x=Δ u/\RelV v u/\∀S H,IB K S H v d
 fns:∀f∈Z.fns,∀x,Z.name f=Δ x->Jz K mg Z T f x
 Qr:∀f∈Z.pl,∀fn,T f=Δ fn->fn.G.cm=Ξ
theorem pL:∀ {vs:List V}{ds:List D} (n:Nat),Iz K F H vs ds->JN K F H (vs.map Δ++Τ n Φ) ((Jv ds).map Δ++Τ n Φ) []
 |[],[],n,.nil=>by
  induction n with
  |zero=>exact .nil
  |succ n ih=>exact .none ih
 |v::vs,d::ds,n,.cons h1 h2=>.some (f:=[]) h1.frozen (pL n h2)
structure Rm (n:Nat)(A:Ι):Prop where
 dp:A.depth+3*(n+2)+5 < recursionLimit
 un:A.units+16*(n+2)+200 < cLine
theorem Rm.room (r:Rm n A)(hn:n < 900)(h:A.handled=Φ):Kx (n+2) A:=⟨fun _=>h,by have:=r.dp;rw[Nat.mod_eq_of_lt (by omega)];exact this,by have:=r.un;rw[Nat.mod_eq_of_lt (by omega)];exact this⟩
theorem Rm.OI (r:Rm n A)(hn:n < 900):Kx (1002+n) A:=⟨fun z=>by omega,by have:=r.dp;rw[show(1002+n) % 1000=n+2 by omega];exact this,by have:=r.un;rw[show(1002+n) % 1000=n+2 by omega];exact this⟩
theorem Rm.of (r:Kx k A)(h:k % 1000=n+2):Rm n A:=⟨by have:=r.dp;rw[h]at this;exact this,by have:=r.un;rw[h]at this;exact this⟩
theorem snI (g:JY Z CX cl X G)(B:Bs G.io)  (h:jU Z G as ss=Θ):L7 X ss (RSB X.K B (jf cl as)):=
 nh (vW as X G ss g h) fun Dn σ H ⟨F,τ,f,m,q⟩=>⟨B,F,τ,f,m,q⟩
theorem qi (t:ME K mg Z T){n k:Nat}{f:Nat}{fn:Fn}{x:Str}{st:Stmt}{fa:Ω}{fd:Ο}{ps:List Str}(hk:k % 1000=n+2)(hn:n < 900)(h1:T f=Δ fn)(h2:Qb K x x st fa fd)(h5:MC Z fn ps st)(hp:k < 1000∨fn.G.cm=Ξ)
  (ih:∀(A:Ι),Rm n A->∀f∈Z.fns,(A.handled=Φ∨f∈Z.pl)->∀x,Z.name f=Δ x->U2 P w K mg base (NJ P w) A (bK T n) f x) :
  Lb P w K mg base (NJ P w) (k+1) fa fd ps (Pq K (bK T (n+1)) f ps):=by
 have Nr:∀ds,bK T (n+1) f ds=m9 (bK T n) fn ds:=fun ds=>by show(match T f with|some fn=>(match fn.io with|false=>m9 (bK T n) fn ds|true=>sJ (bK T n) fn ds)|none=>Jw)=_;rw[h1];show(match fn.io with|false=>m9 (bK T n) fn ds|true=>sJ (bK T n) fn ds)=_;rw[h5.pl]
 obtain⟨oc,od,kV,doc,pm,an,Lr,ct,Ov,rfl,lk,NV⟩:=h2.ex;refine Fs lk NV h5.sc (by omega) (fun vs H Q E h=>h.1) fun A outer s H vs Q E hr Mq=>?_;obtain⟨hl,lt,F,ds,JL,m,q⟩:=Mq;have OF:fn.G.cm=Θ->A.handled=Φ:=fun z=>hp.elim (fun h=>hr.hd h) fun h=>by rw[h]at z;cases z
 refine⟨_,snI (Z:=Z) (CX:=NJ P w) (cl:=bK T n) (G:=fn.G) ?_ ⟨F,H,fun _ _=>False,fun _ _=>False,Φ⟩ h5.body,?_⟩
 ·refine⟨rfl,h5.sc.nd,fun z=>by show A.handled.isNone=Θ;rw[OF z];rfl,h5.sc.kind,?_,fun _=>PassesOwn.leaving,fun i y hy=>h5.kd i y hy,fun i y hy=>h5.Ob y (aak hy),fun m hm y hy=>h5.gl m hm y hy,t.Pr,fun _ _=>rfl,t.blt,t.cst,?_,⟨fun _ _ _=>False,fun pins σ H s e s' _ h=>h.elim⟩,fun outer H s E e s' x fr h=>h,fun H outer s e s' h=>h⟩
  ·have:=hr.un;show(A.deeper _).units+42 < cLine;omega
  ·exact fun f' Tq hc x' K7=>ih _ (Rm.of hr hk) f' Tq (hc.elim (fun z=>.inl (OF z)) .inr) x' K7
 ·rw[Nr]at q;obtain⟨gd,q⟩:=IA.IE q;have Py:(Jv ds).length=fn.np:=q_ gd;have LR:fn.G.N.length - vs.length=fn.G.N.length - fn.np:=by rw[m.length,<- kH ds,Py]
  refine⟨F,(Jv ds).map Δ++Τ (fn.G.N.length - fn.np) Φ,[],⟨JL,?_,List.nodup_nil,.refl _,fun a ha=>absurd ha (by simp),fun a h=>h,fun a h=>.inl h,fun a xs h=>h.elim,fun a xs h=>h.elim,fun _ _ _ z=>by cases z⟩,(IA.Iq q).mono fun r hr=>?_⟩
  ·show JN K F H (start fn.G.N vs) _ [];unfold start;rw[LR];exact pL _ m
  ·cases r with
   |nx τ'=>exact fun JC H' F' f' m'=>hr.ok .Jt H' F' [] ⟨m'.JL,m'.same,.Jt,List.nodup_nil,fun a ha=>absurd ha (by simp),m'.inn,m'.out⟩
   |rt d=>exact fun v H' F' fv o=>hr.ok v H' F' fv o
   |bk τ'=>exact hr.no.elim
   |ct τ'=>exact hr.no.elim
   |ri d ks es=>exact hr.no.elim
theorem uu (t:ME K mg Z T):∀(n:Nat),n < 900->∀(A:Ι),Rm n A->∀f∈Z.fns,(A.handled=Φ∨f∈Z.pl)->∀x,Z.name f=Δ x->U2 P w K mg base (NJ P w) A (bK T n) f x
 |0,h9,A,hr,f,hf,hc,x,hx=>by obtain⟨fn,st,fa,fd,ps,h1,h2,h3,h4,h5⟩:=(t.fns f hf x hx).ex;have no:∀vs H Q E,¬Pq K (bK T 0) f ps vs H Q E:=fun vs H Q E ⟨_,_,F,ds,_,_,h⟩=>h;exact⟨1002+0,fa,fd,ps,h3,h2.kp,h4,⟨fun vs H Q E h=>h.1,fun A outer s H args us vs Q E _ _ _ _ h=>(no _ _ _ _ h).elim⟩,hr.OI h9,fun ds k h=>h.elim⟩
 |n+1,h9,A,hr,f,hf,hc,x,hx=>by
  have ih:=fun A=>uu t n (by omega) A;obtain⟨fn,st,fa,fd,ps,h1,h2,h3,h4,h5⟩:=(t.fns f hf x hx).ex;have hlen:∀ds (k:D->Prop),IA (bK T (n+1) f ds) k->ds.length=ps.length:=fun ds k h=>by
   have Nr:bK T (n+1) f ds=m9 (bK T n) fn ds:=by show(match T f with|some fn=>(match fn.io with|false=>m9 (bK T n) fn ds|true=>sJ (bK T n) fn ds)|none=>Jw)=_;rw[h1];show(match fn.io with|false=>m9 (bK T n) fn ds|true=>sJ (bK T n) fn ds)=_;rw[h5.pl]
   rw[Nr]at h;obtain⟨gd,_⟩:=IA.IE h;rw[q_ gd,h5.np]
  by_cases OZ:f∈Z.pl
  ·exact⟨1002+n+1,fa,fd,ps,h3,h2.kp,h4,qi t (k:=1002+n) (n:=n) (by omega) (by omega) h1 h2 h5 (.inr (t.Qr f OZ fn h1)) ih,hr.OI h9,hlen⟩
  ·exact⟨n+2+1,fa,fd,ps,h3,h2.kp,h4,qi t (k:=n+2) (n:=n) (by omega) (by omega) h1 h2 h5 (.inl (by omega)) ih,hr.room h9 (hc.elim id fun z=>absurd z OZ),hlen⟩
end
section
variable {P:Ε}{w:Β}{K:Frag}{mg:Str->Option Ψ}{base:Heap}{Z:Sg}{T:Tb}
def Qs (K:Frag)(cl:Nat->List D->Res D)(f:Nat)(ps:List Str):Sp:=fun vs H Q E=>vs.length=ps.length/\∃F ds,LV F H/\Iz K F H vs ds/\
 IA (cl f (Jv ds)) fun d=>∀v H' F' fv,Out K F H F' H' v d fv->Q v H'
theorem ym (F:Lb P w K mg base (NJ P w) k fa fd ps (Pq K cl f ps)):Lb P w K mg base (NJ P w) k fa fd ps (Qs K cl f ps):=by
 refine⟨fun vs H Q E h=>h.1,fun A outer s H args us vs Q E hr e0 bd r Mq=>?_⟩;obtain⟨hl,Fc,ds,JL,m,q⟩:=Mq;have e1:MN P w K mg base A outer s (jj s.heap H):=⟨e0.frames,e0.mod,fun b o e=>⟨(e0.bs b o e).1,j6 (e0.bs b o e).2⟩,e0.NQ,e0.KZ,fun b hb=>j6 (e0.Nz b hb),xO e0.JD,e0.bare⟩
 have hq:IA (cl f (Jv ds)) fun d=>∀v H' F' fv,Out K Fc H F' H' v d fv->Q v H':=by
  cases z:cl f (Jv ds) with
  |ok d=>rw[z]at q;exact q
  |error er=>rw[z]at q;cases er;exact q.no.elim
 have hs:Pq K cl f ps vs (jj s.heap H) (fun v H'=>L4 s.heap (jj s.heap H) H'->Q v (l6 H H')) E:=
  ⟨hl,xN _ _,_,ds,fun a h=>h.2,uf e0.JD m,hq.mono fun d hd v H' F' fv o p=>hd v _ _ fv (ug e0.JD JL p o)⟩
 refine codeAny_mono (F.run A outer s (jj s.heap H) args us vs _ E hr e1 bd r hs) fun r' s' hq=>?_;cases r' with
 |error e=>exact hq
 |ok fl=>
  cases fl with
  |ret u=>obtain⟨v,H',a1,a2,a3,a4,a5,a6⟩:=hq;exact⟨v,l6 H H',a1,a2,xR e0.JD a3,xQ e0.JD a4 (nt a3) (fs:=Lj outer) (fun b o _ e n f=>a3.keep b o e n f (by simp)) e0.Nz,a5,a6 (nt a3)⟩
  |next=>exact hq
  |brk=>exact hq
  |cont=>exact hq
theorem Eo (t:ME K mg Z T)(n:Nat)(hn:n < 900){f:Nat}{fn:Fn}{x:Str}{st:Stmt}{fa:Ω}{fd:Ο}{ps:List Str}(h1:T f=Δ fn)(h2:Qb K x x st fa fd)(h5:MC Z fn ps st):Lb P w K mg base (NJ P w) (n+2+1) fa fd ps (Qs K (bK T (n+1)) f ps):=
 ym (qi t (k:=n+2) (n:=n) (by omega) hn h1 h2 h5 (.inl (by omega)) (uu t n hn))
theorem Ep {f n:Nat}{x:Str}{a:Ω}{H:Hp}{ns:List Int}(hS:Ls K H a (ns.map V.int))(hl:bK T n f [.lst Ξ (ns.map .int)]=.ok (.bl Θ)) :
  Qs K (bK T n) f [x] [.ref a] H (fun v _=>v=.bl Θ) fun _ _ _=>False:=by
 have m:Iz K (fun a=>H a≠Φ) H [.ref a] [.lst Ξ (ns.map .int)]:=by
  refine .cons ?_ .nil;rcases hS with hS|hS
  ·exact .lst hS.some hS (Iz.ofInts ns)
  ·exact .lstK hS (Iz.ofInts ns)
 refine⟨rfl,fun a=>H a≠Φ,[.lst Ξ (ns.map .int)],fun a h=>h,m,?_⟩;have he:Jv [.lst Ξ (ns.map .int)]=[D.lst Ξ (ns.map .int)]:=by rw[Jv,Jv,er,ji,K_];rfl
 rw[he,hl];intro v H' F' fv o;cases o.rep;rfl
theorem yn {l:PySem.W.OpenLaw}{q:Ε}{loose:List Str}{XP:(Str->Option Ψ)->Heap->Prop}{YP:Β->Heap->Prop}{d:DefRec}{K:Params->Frag}{T:Tb}{n f:Nat}{x:Str}(hn:l.most=Δ 63)(QS:d.params.defaults=[])(hr:Kx (n+2+1) callerA)
  (hY:∀(w:Β) (h:Heap),YP w h->(K w.params).In h)
  (F:∀(w:Β) (mg:Str->Option Ψ) (fa:Ω) (h:Heap),(K w.params).In h->h.Ns Η mg->mg d.name=Δ (.ref fa)->
   ∃fd:Ο,(∀(s:Α) (u:Ψ),BindsTo s fd ⟨[u],[]⟩ [(x,u)])/\∀base:Heap,(K w.params).In base->base.Ns Η mg->Lb l.prog w (K w.params) mg base (NJ l.prog w) (n+2+1) fa fd [x] (Qs (K w.params) (bK T (n+1)) f [x]))
  (hl:∀ns:List Int,ns.length<=63->bK T (n+1) f [.lst Ξ (ns.map .int)]=.ok (.bl Θ)) :
  PySem.W.WalkO q loose XP YP l.row.toRowW d [] (fun f vs=>PySem.call f vs):=
 L2.Aq (n:=63) (k:=n+2+1) (x:=x) (CX:=fun w=>NJ l.prog w) (sp:=fun w=>Qs (K w.params) (bK T (n+1)) f [x]) hn (by decide) QS hr hY F (fun w H a ns h1 _ hS=>Ep hS (hl ns h1)) fun _ _ _ _ _ z=>z
end
namespace Ev
section
variable {α β:Type}{cl:Nat->List D->Res D}{τ:Ev}{mv:Bool}
theorem dS:Iq (.ok a) f=f a:=rfl
theorem dW:IE Θ x=x:=rfl
theorem gh {a b:α}:(if Θ=Θ then a else b)=a:=rfl
theorem gj {a b:α}:(if Ξ=Θ then a else b)=b:=rfl
theorem II:IC cl (.c d) τ=.ok d:=rfl
theorem IJ:IC cl (.g n d) τ=.ok d:=rfl
theorem IK:IC cl (.v i) τ=(match iF τ i with|some d=>.ok d|none=>Jw):=rfl
noncomputable def Gw (cl:Nat->List D->Res D)(op:Qh)(b:IR)(τ:Ev)(x:D):Res D:=Iq (IC cl b τ) (KN op x)
theorem bP:Gw cl op b τ x=Iq (IC cl b τ) (KN op x):=rfl
theorem dX:IC cl (.bin op a b) τ=Iq (IC cl a τ) (Gw cl op b τ):=rfl
noncomputable def Gx:D->Res D
 |.int i=>.ok (.int (-i))
 |_=>Jw
theorem dY:IC cl (.neg a) τ=Iq (IC cl a τ) Gx:=rfl
theorem bQ:Gx (.int i)=.ok (.int (-i)):=rfl
noncomputable def Vr (r:Bool):Res D:=.ok (.bl r)
theorem dZ:Vr r=.ok (.bl r):=rfl
noncomputable def rH (op:M1)(x y:D):Res D:=Iq (Kg op x y) Vr
theorem aY:rH op x y=Iq (Kg op x y) Vr:=rfl
noncomputable def Gy (cl:Nat->List D->Res D)(op:M1)(b:IR)(τ:Ev)(x:D):Res D:=Iq (IC cl b τ) (rH op x)
theorem bR:Gy cl op b τ x=Iq (IC cl b τ) (rH op x):=rfl
theorem d5:IC cl (.cmp op a b) τ=Iq (IC cl a τ) (Gy cl op b τ):=rfl
noncomputable def Er (cl:Nat->List D->Res D)(J9:M1)(c:IR)(τ:Ev)(y:D)(r:Bool):Res D:=if r=Θ then Iq (IC cl c τ) (rH J9 y) else .ok (.bl Ξ)
theorem bT:Er cl J9 c τ y r=if r=Θ then Iq (IC cl c τ) (rH J9 y) else .ok (.bl Ξ):=rfl
noncomputable def Es (cl:Nat->List D->Res D)(op J9:M1)(c:IR)(τ:Ev)(x y:D):Res D:=Iq (Kg op x y) (Er cl J9 c τ y)
theorem bU:Es cl op J9 c τ x y=Iq (Kg op x y) (Er cl J9 c τ y):=rfl
noncomputable def XU (cl:Nat->List D->Res D)(op J9:M1)(b c:IR)(τ:Ev)(x:D):Res D:=Iq (IC cl b τ) (Es cl op J9 c τ x)
theorem d6:XU cl op J9 b c τ x=Iq (IC cl b τ) (Es cl op J9 c τ x):=rfl
theorem aZ:IC cl (.chain op J9 a b c) τ=Iq (IC cl a τ) (XU cl op J9 b c τ):=rfl
noncomputable def yo (cl:Nat->List D->Res D)(b:IR)(τ:Ev)(x:D)(r:Bool):Res D:=if r=Θ then IC cl b τ else .ok x
theorem ba:yo cl b τ x r=if r=Θ then IC cl b τ else .ok x:=rfl
noncomputable def Gz (cl:Nat->List D->Res D)(b:IR)(τ:Ev)(x:D):Res D:=Iq (iX x) (yo cl b τ x)
theorem bV:Gz cl b τ x=Iq (iX x) (yo cl b τ x):=rfl
theorem eh:IC cl (.JX a b) τ=Iq (IC cl a τ) (Gz cl b τ):=rfl
noncomputable def Et (cl:Nat->List D->Res D)(b:IR)(τ:Ev)(x:D)(r:Bool):Res D:=if r=Θ then .ok x else IC cl b τ
theorem bW:Et cl b τ x r=if r=Θ then .ok x else IC cl b τ:=rfl
noncomputable def XW (cl:Nat->List D->Res D)(b:IR)(τ:Ev)(x:D):Res D:=Iq (iX x) (Et cl b τ x)
theorem eA:XW cl b τ x=Iq (iX x) (Et cl b τ x):=rfl
theorem gk:IC cl (.Lf a b) τ=Iq (IC cl a τ) (XW cl b τ):=rfl
noncomputable def yp (r:Bool):Res D:=.ok (.bl !r)
theorem bc:yp r=.ok (.bl !r):=rfl
noncomputable def GA (x:D):Res D:=Iq (iX x) yp
theorem bX:GA x=Iq (iX x) yp:=rfl
theorem eB:IC cl (.Kr a) τ=Iq (IC cl a τ) GA:=rfl
noncomputable def yq (cl:Nat->List D->Res D)(a b:IR)(τ:Ev)(r:Bool):Res D:=if r=Θ then IC cl a τ else IC cl b τ
theorem bf:yq cl a b τ r=if r=Θ then IC cl a τ else IC cl b τ:=rfl
noncomputable def GB (cl:Nat->List D->Res D)(a b:IR)(τ:Ev)(x:D):Res D:=Iq (iX x) (yq cl a b τ)
theorem bY:GB cl a b τ x=Iq (iX x) (yq cl a b τ):=rfl
theorem eC:IC cl (.ite t a b) τ=Iq (IC cl t τ) (GB cl a b τ):=rfl
noncomputable def tupK (ds:List D):Res D:=IE (jo ds.length) (.ok (.tup ds))
theorem bZ:tupK ds=IE (jo ds.length) (.ok (.tup ds)):=rfl
theorem eD:IC cl (.tup es) τ=Iq (jy cl es τ) tupK:=rfl
noncomputable def lstK (ds:List D):Res D:=IE (jo ds.length) (.ok (.lst Θ ds))
theorem cb:lstK ds=IE (jo ds.length) (.ok (.lst Θ ds)):=rfl
theorem eE:IC cl (.lst es) τ=Iq (jy cl es τ) lstK:=rfl
noncomputable def GC (cl:Nat->List D->Res D)(i:IR)(τ:Ev)(x:D):Res D:=Iq (IC cl i τ) (iQ x)
theorem cf:GC cl i τ x=Iq (IC cl i τ) (iQ x):=rfl
theorem eF:IC cl (.idx a i) τ=Iq (IC cl a τ) (GC cl i τ):=rfl
noncomputable def Eu (cl:Nat->List D->Res D)(hi:Option IR)(τ:Ev)(x:D)(l:Option Int):Res D:=Iq (p8 cl hi τ) (qW x l)
theorem cg:Eu cl hi τ x l=Iq (p8 cl hi τ) (qW x l):=rfl
noncomputable def XY (cl:Nat->List D->Res D)(lo hi:Option IR)(τ:Ev)(x:D):Res D:=Iq (p8 cl lo τ) (Eu cl hi τ x)
theorem eG {lo hi:Option IR}{x:D}:XY cl lo hi τ x=Iq (p8 cl lo τ) (Eu cl hi τ x):=rfl
theorem gm {a:IR}{lo hi:Option IR}:IC cl (.sl a lo hi) τ=Iq (IC cl a τ) (XY cl lo hi τ):=rfl
noncomputable def Ci (cl:Nat->List D->Res D)(f:Nat)(ds:List D):Res D:=cl f (Jv ds)
theorem bg:Ci cl f ds=cl f (Jv ds):=rfl
theorem cp:IC cl (.call f es) τ=Iq (jy cl es τ) (Ci cl f):=rfl
theorem gp:IC cl (.bi f es) τ=Iq (jy cl es τ) (jW f):=rfl
noncomputable def GF (k:Kd)(x:D):Res D:=IE (mJ x) (.ok (.bl (jl k x)))
theorem cq:GF k x=IE (mJ x) (.ok (.bl (jl k x))):=rfl
theorem gq:mJ .Jt=Θ:=rfl
theorem gr {b:Bool}:mJ (.bl b)=Θ:=rfl
theorem gu:mJ (.int i)=Θ:=rfl
theorem gy:mJ (.str x)=Θ:=rfl
theorem gz:mJ (.tup ds)=Θ:=rfl
theorem gA:mJ (.lst o ds)=Θ:=rfl
theorem cu:IC cl (.K5 a b) τ=Iq (IC cl a τ) fun x=>Iq (IC cl b τ) fun y=>tZ x y:=rfl
theorem cv {a:IR}:IC cl (.KQ a) τ=Iq (IC cl a τ) qX:=rfl
theorem cw:IC cl .K3 τ=.ok (.Jy Θ [] []):=rfl
noncomputable def Cj (cl:Nat->List D->Res D)(k:IR)(τ:Ev)(x:D):Res D:=Iq (IC cl k τ) (qZ x)
theorem bh:Cj cl k τ x=Iq (IC cl k τ) (qZ x):=rfl
theorem cx:IC cl (.K4 a k) τ=Iq (IC cl a τ) (Cj cl k τ):=rfl
noncomputable def Ew (x y z:D):Res D:=sG x y z
noncomputable def Ex (cl:Nat->List D->Res D)(e:IR)(τ:Ev)(x y:D):Res D:=Iq (IC cl e τ) (Ew x y)
theorem cy:Ex cl e τ x y=Iq (IC cl e τ) (Ew x y):=rfl
noncomputable def GG (cl:Nat->List D->Res D)(k e:IR)(τ:Ev)(x:D):Res D:=IE (sF x) (Iq (IC cl k τ) (Ex cl e τ x))
theorem cz:GG cl k e τ (.Jy o ks ds)=Iq (IC cl k τ) (Ex cl e τ (.Jy o ks ds)):=rfl
theorem cA {o:Bool}{ks:List Key}{ds:List D}{x:Str}{z:D}:Ew (.Jy o ks ds) (.str x) z=.ok ((look ks ds (.inr x)).getD z):=rfl
theorem bo {a k e:IR}:IC cl (.Kj a k e) τ=Iq (IC cl a τ) (GG cl k e τ):=rfl
theorem cB:IC cl (.sset a) τ=Iq (IC cl a τ) ra:=rfl
theorem eJ:IC cl (.Kz a k) τ=Iq (IC cl a τ) (GF k):=rfl
noncomputable def GH (cl:Nat->List D->Res D)(m:Mt)(es:List IR)(τ:Ev)(x:D):Res D:=IE (lF x) (Iq (jy cl es τ) (nZ m x))
theorem cC:GH cl m es τ x=IE (lF x) (Iq (jy cl es τ) (nZ m x)):=rfl
theorem eK:IC cl (.L9 m o es) τ=Iq (IC cl o τ) (GH cl m es τ):=rfl
noncomputable def Ey (ds:List D):Res D:=.ok (.lst Θ ds)
theorem cD:Ey ds=.ok (.lst Θ ds):=rfl
noncomputable def Ck (cl:Nat->List D->Res D)(G:Gm)(fr:List Nat)(T:Tg)(I:List IR)(E:IR)(τ:Ev)(its:List D):Res D:=IE (kx its.length) (Iq ((iP (jb cl T I E (Mk G fr τ)) its)) Ey)
theorem bp {its:List D}:Ck cl G fr T I E τ its=IE (kx its.length) (Iq ((iP (jb cl T I E (Mk G fr τ)) its)) Ey):=rfl
theorem cE:IC cl (.comp G fr T s I E) τ=Iq (kO cl s τ) (Ck cl G fr T I E τ):=rfl
theorem gB:jy cl [] τ=.ok []:=rfl
noncomputable def yr (d:D)(ds:List D):Res (List D):=.ok (d::ds)
theorem bq:yr d ds=.ok (d::ds):=rfl
noncomputable def XZ (cl:Nat->List D->Res D)(es:List IR)(τ:Ev)(d:D):Res (List D):=Iq (jy cl es τ) (yr d)
theorem eL:XZ cl es τ d=Iq (jy cl es τ) (yr d):=rfl
theorem gC:jy cl (e::es) τ=Iq (IC cl e τ) (XZ cl es τ):=rfl
noncomputable def GI:D->Res (Option Int)
 |.int i=>.ok (Δ i)
 |_=>Jw
theorem cF:GI (.int i)=.ok (Δ i):=rfl
theorem gD:p8 cl Φ τ=.ok Φ:=rfl
theorem gE:p8 cl (Δ e) τ=Iq (IC cl e τ) GI:=rfl
theorem gG:lG cl [] τ=.ok Θ:=rfl
noncomputable def X2 (cl:Nat->List D->Res D)(es:List IR)(τ:Ev)(r:Bool):Res Bool:=if r=Θ then lG cl es τ else .ok Ξ
theorem eM:X2 cl es τ r=if r=Θ then lG cl es τ else .ok Ξ:=rfl
theorem gH:lG cl (e::es) τ=Iq (Iq (IC cl e τ) iX) (X2 cl es τ):=rfl
noncomputable def Cm:D->Res (List D)
 |.int i=>IE (mX i) (.ok (jq 0 i))
 |_=>Jw
theorem br:Cm (.int i)=IE (mX i) (.ok (jq 0 i)):=rfl
theorem gI:kO cl (.JP n) τ=Iq (IC cl n τ) Cm:=rfl
noncomputable def GJ (cl:Nat->List D->Res D)(τ:Ev)(b:IR)(x:D):Res (List D):=Iq (IC cl b τ) fun y=>n6 x y
noncomputable def yu (x y:D):Res (List D):=n6 x y
theorem cG:GJ cl τ b x=Iq (IC cl b τ) (yu x):=rfl
theorem aF:yu (.lst o ds) (.lst o' es)=.ok (jT ds es):=rfl
theorem aG:yu (.tup ds) (.tup es)=.ok (jT ds es):=rfl
theorem cH:AR (.lst o ds)=.ok (n0 ds):=rfl
theorem eN:kO cl (.LU a) τ=Iq (IC cl a τ) AR:=rfl
theorem eO:kO cl (.zip a b) τ=Iq (IC cl a τ) (GJ cl τ b):=rfl
theorem eS:kO cl (.val e) τ=Iq (IC cl e τ) kU:=rfl
theorem gJ:kU (.lst o ds)=.ok ds:=rfl
theorem gK:kU (.tup ds)=.ok ds:=rfl
theorem gM:kU (.str x)=IE (jo x.length) (.ok (jZ x)):=rfl
theorem IL:Rr cl t τ=Iq (IC cl t τ) iX:=rfl
theorem IH:JR cl mv (.v i) τ=(match iF τ i with|some d=>if mv=Θ then .ok (d,τ.set i Φ) else .ok (er d,τ.set i (Δ (er d)))|none=>Jw):=rfl
noncomputable def Co (p:List D×Ev):Res (D×Ev):=IE (jo p.1.length) (.ok (.tup p.1,p.2))
theorem bt:Co p=IE (jo p.1.length) (.ok (.tup p.1,p.2)):=rfl
theorem Ir:JR cl mv (.tup es) τ=Iq (oZ cl mv es τ) Co:=rfl
noncomputable def Cp (p:List D×Ev):Res (D×Ev):=IE (jo p.1.length) (.ok (.lst Θ p.1,p.2))
theorem bu:Cp p=IE (jo p.1.length) (.ok (.lst Θ p.1,p.2)):=rfl
theorem Iu:JR cl mv (.lst es) τ=Iq (oZ cl mv es τ) Cp:=rfl
noncomputable def Cq (cl:Nat->List D->Res D)(mv:Bool)(a b:IR)(τ:Ev)(r:Bool):Res (D×Ev):=if r=Θ then JR cl mv a τ else JR cl mv b τ
theorem bw:Cq cl mv a b τ r=if r=Θ then JR cl mv a τ else JR cl mv b τ:=rfl
theorem Iw:JR cl mv (.ite t a b) τ=Iq (Rr cl t τ) (Cq cl mv a b τ):=rfl
noncomputable def nu (es:List IR)(τ:Ev)(d:D):Res (D×Ev):=if iH d=Θ then .ok (d,τ) else .ok (d,JM (iR es) τ)
theorem ak:nu es τ d=if iH d=Θ then .ok (d,τ) else .ok (d,JM (iR es) τ):=rfl
noncomputable def yy (cl:Nat->List D->Res D)(f:Nat)(es:List IR)(τ:Ev)(ds:List D):Res (D×Ev):=Iq (cl f (Jv ds)) (nu es τ)
theorem aH:yy cl f es τ ds=Iq (cl f (Jv ds)) (nu es τ):=rfl
theorem Ii:JR cl mv (.call f es) τ=Iq (jy cl es τ) (yy cl f es τ):=rfl
noncomputable def jw (e:IR)(τ:Ev)(d:D):Res (D×Ev):=.ok (iW e d τ)
theorem aX:jw e τ d=.ok (iW e d τ):=rfl
theorem IM:JR cl mv (.c d) τ=Iq (IC cl (.c d) τ) (jw (.c d) τ):=rfl
theorem IP {n:Nat}{d:D}:JR cl mv (.g n d) τ=Iq (IC cl (.g n d) τ) (jw (.g n d) τ):=rfl
theorem eT:JR cl mv (.bin op a b) τ=Iq (IC cl (.bin op a b) τ) (jw (.bin op a b) τ):=rfl
theorem eU:JR cl mv (.neg a) τ=Iq (IC cl (.neg a) τ) (jw (.neg a) τ):=rfl
theorem eV:JR cl mv (.cmp op a b) τ=Iq (IC cl (.cmp op a b) τ) (jw (.cmp op a b) τ):=rfl
theorem bx {op J9:M1}{a b c:IR}:JR cl mv (.chain op J9 a b c) τ=Iq (IC cl (.chain op J9 a b c) τ) (jw (.chain op J9 a b c) τ):=rfl
theorem eW:JR cl mv (.JX a b) τ=Iq (IC cl (.JX a b) τ) (jw (.JX a b) τ):=rfl
theorem gN {a b:IR}:JR cl mv (.Lf a b) τ=Iq (IC cl (.Lf a b) τ) (jw (.Lf a b) τ):=rfl
theorem eX {a:IR}:JR cl mv (.Kr a) τ=Iq (IC cl (.Kr a) τ) (jw (.Kr a) τ):=rfl
theorem eY:JR cl mv (.idx a i) τ=Iq (IC cl (.idx a i) τ) (jw (.idx a i) τ):=rfl
theorem gO {a:IR}{lo hi:Option IR}:JR cl mv (.sl a lo hi) τ=Iq (IC cl (.sl a lo hi) τ) (jw (.sl a lo hi) τ):=rfl
theorem gP:JR cl mv (.bi f es) τ=Iq (IC cl (.bi f es) τ) (jw (.bi f es) τ):=rfl
theorem cI:JR cl mv (.K5 a b) τ=Iq (IC cl (.K5 a b) τ) (jw (.K5 a b) τ):=rfl
theorem cJ {a:IR}:JR cl mv (.KQ a) τ=Iq (IC cl (.KQ a) τ) (jw (.KQ a) τ):=rfl
theorem Ij:JR cl mv .K3 τ=.ok (.Jy Θ [] [],τ):=rfl
theorem cK {a k:IR}:JR cl mv (.K4 a k) τ=Iq (IC cl (.K4 a k) τ) (jw (.K4 a k) τ):=rfl
theorem bA {a k e:IR}:JR cl mv (.Kj a k e) τ=Iq (IC cl (.Kj a k e) τ) (jw (.Kj a k e) τ):=rfl
theorem cL:JR cl mv (.sset a) τ=Iq (IC cl (.sset a) τ) (jw (.sset a) τ):=rfl
theorem eZ {a:IR}{k:Kd}:JR cl mv (.Kz a k) τ=Iq (IC cl (.Kz a k) τ) (jw (.Kz a k) τ):=rfl
theorem ff:JR cl mv (.L9 m o es) τ=Iq (IC cl (.L9 m o es) τ) (jw (.L9 m o es) τ):=rfl
theorem bL:JR cl mv (.comp G fr T s I E) τ=Iq (IC cl (.comp G fr T s I E) τ) (jw (.comp G fr T s I E) τ):=rfl
theorem gQ:oZ cl mv [] τ=.ok ([],τ):=rfl
noncomputable def Ez (d:D)(q:List D×Ev):Res (List D×Ev):=.ok (d::q.1,q.2)
theorem cM:Ez d q=.ok (d::q.1,q.2):=rfl
noncomputable def X3 (cl:Nat->List D->Res D)(mv:Bool)(es:List IR)(p:D×Ev):Res (List D×Ev):=Iq (oZ cl mv es p.2) (Ez p.1)
theorem fg:X3 cl mv es p=Iq (oZ cl mv es p.2) (Ez p.1):=rfl
theorem gR:oZ cl mv (e::es) τ=Iq (JR cl mv e τ) (X3 cl mv es):=rfl
noncomputable def Vs (d:D):Res (Option D):=.ok (Δ d)
theorem fq:Vs d=.ok (Δ d):=rfl
noncomputable def EA (cl:Nat->List D->Res D)(E:IR)(τ:Ev)(r:Bool):Res (Option D):=if r=Θ then Iq (IC cl E τ) Vs else .ok Φ
theorem cN:EA cl E τ r=if r=Θ then Iq (IC cl E τ) Vs else .ok Φ:=rfl
noncomputable def X4 (cl:Nat->List D->Res D)(I:List IR)(E:IR)(τ:Ev):Res (Option D):=Iq (lG cl I τ) (EA cl E τ)
theorem ft:X4 cl I E τ=Iq (lG cl I τ) (EA cl E τ):=rfl
theorem bB:jb cl T I E τ x=Iq (jM T x τ) (X4 cl I E):=rfl
theorem cO:Mk G fr τ=fr.map (iF τ)++Τ (G.N.length - fr.length) Φ:=rfl
theorem IQ:iW e (.int i) τ=(.int i,τ):=rfl
theorem IU:iW e (.str x) τ=(.str x,τ):=rfl
theorem IV:iW e (.bl b) τ=(.bl b,τ):=rfl
theorem IW:iW e .Jt τ=(.Jt,τ):=rfl
noncomputable def Vt (τ':Ev):Res Fl:=.ok (.nx τ')
theorem fu:Vt τ=.ok (.nx τ):=rfl
noncomputable def GK (tg:Tg)(p:D×Ev):Res Fl:=Iq (jM tg p.1 p.2) Vt
theorem cP:GK tg p=Iq (jM tg p.1 p.2) Vt:=rfl
theorem Ik:Ko cl (.asg tg e) τ=Iq (JR cl Ξ e τ) (GK tg):=rfl
noncomputable def yz (i:Nat)(p:D×Ev)(ds:List D):D->Res Fl
 |.int z=>(match KU ds.length z with
  |some j=>.ok (.nx (p.2.set i (Δ (.lst Θ (ds.set j p.1)))))
  |none=>Jw)
 |_=>Jw
noncomputable def EB (cl:Nat->List D->Res D)(i:Nat)(k:IR)(p:D×Ev):Option D->Res Fl
 |some (.lst Θ ds)=>Iq (IC cl k p.2) (yz i p ds)
 |_=>Jw
theorem cQ {i:Nat}{k:IR}{p:D×Ev}{ds:List D}:EB cl i k p (Δ (.lst Θ ds))=Iq (IC cl k p.2) (yz i p ds):=rfl
noncomputable def yB (cl:Nat->List D->Res D)(i:Nat)(k:IR)(p:D×Ev):Res Fl:=EB cl i k p (iF p.2 i)
theorem aI {i:Nat}{k:IR}{p:D×Ev}:yB cl i k p=EB cl i k p (iF p.2 i):=rfl
theorem C' {i:Nat}{k e:IR}:Ko cl (.Lz i k e) τ=Iq (JR cl Ξ e τ) (yB cl i k):=rfl
noncomputable def EC (i:Nat)(p:D×Ev):Option D->Res Fl
 |some (.lst Θ ds)=>IE (kx ds.length) (.ok (.nx (p.2.set i (Δ (.lst Θ (ds++[p.1]))))))
 |_=>Jw
noncomputable def ED (i:Nat)(p:D×Ev):Res Fl:=EC i p (iF p.2 i)
theorem cR:ED i p=EC i p (iF p.2 i):=rfl
noncomputable def GO (cl:Nat->List D->Res D)(i:Nat)(e:IR)(τ:Ev):Option D->Res Fl
 |some (.lst _ _)=>Iq (JR cl Ξ e τ) (ED i)
 |_=>Jw
theorem cS:GO cl i e τ (Δ (.lst o ds))=Iq (JR cl Ξ e τ) (ED i):=rfl
theorem cT:EC i p (Δ (.lst Θ ds))=IE (kx ds.length) (.ok (.nx (p.2.set i (Δ (.lst Θ (ds++[p.1])))))):=rfl
noncomputable def Bj (i:Nat)(τ':Ev)(es:List D):Option D->Res Fl
 |some (.lst Θ ds)=>IE (jo (ds.length+es.length)) (.ok (.nx (τ'.set i (Δ (.lst Θ (ds++es))))))
 |_=>Jw
theorem cU {i:Nat}{τ':Ev}{es ds:List D}:Bj i τ' es (Δ (.lst Θ ds))=IE (jo (ds.length+es.length)) (.ok (.nx (τ'.set i (Δ (.lst Θ (ds++es)))))):=rfl
noncomputable def EF (i:Nat)(τ':Ev):D->Res Fl
 |.lst _ es=>Bj i τ' es (iF τ' i)
 |_=>Jw
theorem cV {i:Nat}{τ':Ev}{o:Bool}{es:List D}:EF i τ' (.lst o es)=Bj i τ' es (iF τ' i):=rfl
noncomputable def EG (i:Nat)(p:D×Ev):Res Fl:=EF i p.2 p.1
theorem cW:EG i (d,τ)=EF i τ d:=rfl
noncomputable def GP (cl:Nat->List D->Res D)(i:Nat)(e:IR)(τ:Ev):Option D->Res Fl
 |some (.lst _ _)=>Iq (JR cl Ξ e τ) (EG i)
 |_=>Jw
theorem cX {i:Nat}{e:IR}{o:Bool}{ds:List D}:GP cl i e τ (Δ (.lst o ds))=Iq (JR cl Ξ e τ) (EG i):=rfl
theorem LN {i:Nat}{e:IR}:Ko cl (.ext i e) τ=GP cl i e τ (iF τ i):=by
 show(match iF τ i with|some (.lst _ _)=>(Iq (JR cl Ξ e τ) fun p=>(match p.1,iF p.2 i with|.lst _ es,Δ (.lst Θ ds)=>IE (jo (ds.length+es.length)) (.ok (Fl.nx (p.2.set i (Δ (.lst Θ (ds++es))))))|_,_=>Jw))|_=>Jw)=_;cases iF τ i with
 |none=>rfl
 |some d=>
  induction d using zD with
  |lst o ds=>
   refine congrArg (Iq (JR cl Ξ e τ)) (funext fun p=>?_);obtain⟨d,τ'⟩:=p
   induction d using zD with
   |lst o es=>
    show(match D.lst o es,iF τ' i with|.lst _ es,Δ (.lst Θ ds)=>IE (jo (ds.length+es.length)) (.ok (.nx (τ'.set i (Δ (.lst Θ (ds++es))))))|_,_=>Jw)=Bj i τ' es (iF τ' i);cases iF τ' i with
    |none=>rfl
    |some d2=>induction d2 using zD<;>first|rfl|(rename_i b _;cases b<;>rfl)
   |_=>rfl
  |_=>rfl
noncomputable def rJ (cl:Nat->List D->Res D)(i:Nat)(k:IR)(τ:Ev)(d:D):Option D->Res Fl
 |some (.Jy Θ ks ds)=>Iq (IC cl k τ) fun y=>(match m8 y with|some q=>IE (iH d&&iD ds&&kx ks.length) (.ok (.nx (τ.set i (Δ (.Jy Θ (kT ks q) (ki ks ds q d))))))|none=>Jw)
 |_=>Jw
theorem nv {i:Nat}{k:IR}{d:D}{ks:List Key}{ds:List D}{x:Str}(h:IC cl k τ=.ok (.str x))(hl:(iH d&&iD ds&&kx ks.length)=Θ):rJ cl i k τ d (Δ (.Jy Θ ks ds))=.ok (.nx (τ.set i (Δ (.Jy Θ (kT ks (.inr x)) (ki ks ds (.inr x) d))))):=by show(Iq (IC cl k τ) fun y=>(match m8 y with|some q=>IE (iH d&&iD ds&&kx ks.length) (.ok (Fl.nx (τ.set i (Δ (.Jy Θ (kT ks q) (ki ks ds q d))))))|none=>Jw))=_;rw[h];show IE _ _=_;rw[hl];rfl
noncomputable def Cr (cl:Nat->List D->Res D)(i:Nat)(k:IR)(τ:Ev)(d:D):Res Fl:=rJ cl i k τ d (iF τ i)
theorem bC:Cr cl i k τ d=rJ cl i k τ d (iF τ i):=rfl
theorem Ih {i:Nat}{k e:IR}:Ko cl (.Mi i k e) τ=Iq (IC cl e τ) (Cr cl i k τ):=rfl
theorem cY:Ko cl (.N9 i j e c x v w) τ=xE cl i j e c x v w τ (iF τ i):=rfl
theorem cZ:xE cl i j e c x v w τ (Δ (.lst Θ ds))=Iq (IC cl e τ) (AU cl i j c x v w ds τ):=rfl
theorem de:AU cl i j c x v w ds τ (.int z)=sI cl i j c x v w ds τ (KU ds.length z):=rfl
theorem Il:Ko cl (.app i e) τ=GO cl i e τ (iF τ i):=rfl
noncomputable def GQ (τ:Ev)(d:D):Res Fl:=.ok (.nx τ)
theorem dg:GQ τ d=.ok (.nx τ):=rfl
theorem Io:Ko cl (.exp e) τ=Iq (IC cl e τ) (GQ τ):=rfl
noncomputable def X5 (p:D×Ev):Res Fl:=.ok (.rt p.1)
theorem fw:X5 p=.ok (.rt p.1):=rfl
theorem Im:Ko cl (.ret e) τ=Iq (JR cl Θ e τ) X5:=rfl
noncomputable def X6 (cl:Nat->List D->Res D)(a b:List IS)(τ:Ev)(r:Bool):Res Fl:=if r=Θ then jf cl a τ else jf cl b τ
theorem fx:X6 cl a b τ r=if r=Θ then jf cl a τ else jf cl b τ:=rfl
theorem Iy:Ko cl (.JJ t a b) τ=Iq (Rr cl t τ) (X6 cl a b τ):=rfl
noncomputable def turn (cl:Nat->List D->Res D)(tg:Tg)(body:List IS)(x:D)(τ:Ev):Res Fl:=Iq (jM tg x τ) (jf cl body)
theorem iE:turn cl tg body x τ=Iq (jM tg x τ) (jf cl body):=rfl
noncomputable def GR (cl:Nat->List D->Res D)(tg:Tg)(body:List IS)(p:List D×Ev):Res Fl:=forM (turn cl tg body) p.1 p.2
theorem dh:GR cl tg body p=forM (turn cl tg body) p.1 p.2:=rfl
theorem Ip:Ko cl (.JH tg s body) τ=Iq (p9 cl s τ) (GR cl tg body):=rfl
noncomputable def EH (f:Ev->Res Fl):Fl->Res Fl
 |.nx τ'=>f τ'
 |.ct τ'=>.ok (.ct τ')
 |.bk τ'=>.ok (.bk τ')
 |.rt d=>.ok (.rt d)
 |.ri d ks vs=>.ok (.ri d ks vs)
theorem gU:jf cl [] τ=.ok (.nx τ):=rfl
theorem gV:jf cl (s::r) τ=Iq (Ko cl s τ) (EH (jf cl r)):=rfl
theorem fy:EH f (.nx τ)=f τ:=rfl
theorem fA:EH f (.rt d)=.ok (.rt d):=rfl
noncomputable def GS (τ:Ev)(its:List D):Res (List D×Ev):=.ok (its,τ)
theorem dj {its:List D}:GS τ its=.ok (its,τ):=rfl
noncomputable def yC (e:IR)(τ:Ev)(its:List D):Res (List D×Ev):=.ok (Jv its,JM (vars e) τ)
theorem bD {its:List D}:yC e τ its=.ok (Jv its,JM (vars e) τ):=rfl
noncomputable def Cs (a b:IR)(τ:Ev)(its:List D):Res (List D×Ev):=.ok (Jv its,JM (kj (.zip a b)) τ)
theorem bE {a b:IR}{its:List D}:Cs a b τ its=.ok (Jv its,JM (kj (.zip a b)) τ):=rfl
theorem fB {a b:IR}:p9 cl (.zip a b) τ=Iq (kO cl (.zip a b) τ) (Cs a b τ):=rfl
theorem fC:p9 cl (.JP n) τ=Iq (kO cl (.JP n) τ) (GS τ):=rfl
theorem fD {e:IR}:p9 cl (.LU e) τ=Iq (kO cl (.LU e) τ) (yC e τ):=rfl
theorem fE:p9 cl (.val e) τ=Iq (kO cl (.val e) τ) (yC e τ):=rfl
noncomputable def yD (body:D->Ev->Res Fl)(xs:List D):Fl->Res Fl
 |.nx τ'=>forM body xs τ'
 |.ct τ'=>forM body xs τ'
 |.bk τ'=>.ok (.nx τ')
 |.rt d=>.ok (.rt d)
 |.ri d ks vs=>.ok (.ri d ks vs)
theorem fF:forM body [] τ=.ok (.nx τ):=rfl
theorem dR:forM body (x::xs) τ=Iq (body x τ) (yD body xs):=rfl
theorem dU:yD body xs (.nx τ)=forM body xs τ:=rfl
theorem fG {body:D->Ev->Res Fl}{xs:List D}{d:D}:yD body xs (.rt d)=.ok (.rt d):=rfl
theorem gW:jM (.nm i) d τ=.ok (τ.set i (Δ d)):=rfl
theorem gX:jM (.tp ts) (.tup ds) τ=IE (decide (ds.length=ts.length)) (lA ts ds τ):=rfl
theorem gY {ts:List Tg}{o:Bool}{ds:List D}:jM (.tp ts) (.lst o ds) τ=IE (decide (ds.length=ts.length)) (lA ts ds τ):=rfl
theorem fH:lA [] [] τ=.ok τ:=rfl
theorem fI:lA (t::ts) (d::ds) τ=Iq (jM t d τ) (lA ts ds):=rfl
theorem fJ:(o::τ).set 0 p=p::τ:=rfl
theorem fK:(o::τ).set (i+1) p=o::τ.set i p:=rfl
theorem fL:KN .add (.int a) (.int b)=.ok (.int (a+b)):=rfl
theorem bM:KN .add (.str a) (.str b)=IE (jo (a.length+b.length)) (.ok (.str (a++b))):=rfl
theorem dn:KN .add (.lst o a) (.lst o' b)=IE (jo (a.length+b.length)) (.ok (.lst Θ (a++b))):=rfl
theorem fM:KN .sub (.int a) (.int b)=.ok (.int (a - b)):=rfl
theorem Ct:KN .mul (.int a) (.int b)=IE (decide (-(2 ^ 64) < a/\a < 2 ^ 64)||decide (-(2 ^ 64) < b/\b < 2 ^ 64)) (.ok (.int (a*b))):=rfl
theorem dq:KN .mul (.str a) (.int b)=IE (decide (-16000<=b/\b<=16000/\a.length<=1000)) (.ok (.str (Txt.mul a b))):=rfl
theorem EI:KN .fdiv (.int a) (.int b)=IE (decide (0 < b/\b < 1073741824)) (.ok (.int (a / b))):=rfl
theorem GU:KN .mod (.int a) (.int b)=IE (decide (0 < b)) (.ok (.int (a % b))):=rfl
theorem fN:KN .pow (.int a) (.int b)=IE (decide (0<=b/\b<=1000000/\a.natAbs < 2 ^ 64)) (.ok (.int (a ^ b.toNat))):=rfl
theorem Tr:iQ (.lst o ds) (.int i)=(match KG ds i with|some d=>.ok d|none=>Jw):=rfl
theorem IX {ds:List D}{i:Int}:iQ (.tup ds) (.int i)=(match KG ds i with|some d=>.ok d|none=>Jw):=rfl
theorem x_s:iQ (.str z) (.int i)=IE (jo z.length) (match KG z.cps.toList i with|some c=>.ok (.str ⟨#[c]⟩)|none=>Jw):=rfl
theorem gZ {o:Bool}{ds:List D}{lo hi:Option Int}:qW (.lst o ds) lo hi=.ok (.lst Θ (jE ds lo hi)):=rfl
theorem g6 {z:Str}{lo hi:Option Int}:qW (.str z) lo hi=IE (jo z.length) (.ok (.str (Txt.slice z lo hi))):=rfl
theorem g7:iX (.bl b)=.ok b:=rfl
theorem GV:Kg .eq a b=Kb 40 a b:=by cases a<;>cases b<;>rfl
noncomputable def Bl (r:Bool):Res Bool:=.ok !r
theorem du:Bl r=.ok !r:=rfl
theorem GW:Kg .ne a b=Iq (Kb 40 a b) Bl:=by cases a<;>cases b<;>rfl
theorem g8:Kb (n+1) (.int a) (.int b)=.ok (a == b):=rfl
theorem g9:Kb (n+1) (.str a) (.str b)=.ok (a == b):=rfl
theorem hE {n:Nat}{a b:Bool}:Kb (n+1) (.bl a) (.bl b)=.ok (a == b):=rfl
theorem hG {n:Nat}:Kb (n+1) .Jt .Jt=.ok Θ:=rfl
theorem hJ:Kb (n+1) (.tup a) (.tup b)=kN (Kb n) a b:=rfl
theorem hU:Kb (n+1) (.lst o a) (.lst o' b)=kN (Kb n) a b:=rfl
theorem hW:kN f [] []=.ok Θ:=rfl
theorem ia:Kg .lt (.int a) (.int b)=.ok (decide (a < b)):=rfl
theorem ib:Kg .le (.int a) (.int b)=.ok (decide (a<=b)):=rfl
theorem ic {a b:Int}:Kg .ge (.int a) (.int b)=.ok (decide (b<=a)):=rfl
theorem Cu {a:D}:Kg .Lh a .Jt=.ok (!kh a):=by cases a<;>rfl
theorem ao {x y:Str}:nZ .starts (.str x) [.str y]=.ok (.bl (Txt.startswith x y)):=rfl
theorem ie:Kg .gt (.int a) (.int b)=.ok (decide (b < a)):=rfl
theorem fO:Kg .M3 (.str y) (.str x)=.ok (xC x y):=rfl
theorem Cv {a:D}{o:Bool}{ds:List D}:Kg .M3 a (.lst o ds)=Kc a ds:=by cases a<;>rfl
theorem yE:Kg .ND a (.lst o ds)=Iq (Kc a ds) Bl:=by cases a<;>rfl
theorem GX:Kg .N7 a .Jt=.ok (kh a):=by cases a<;>rfl
theorem IY:kh .Jt=Θ:=rfl
theorem IZ {i:Int}:kh (.int i)=Ξ:=rfl
theorem I0 {i:Str}:kh (.str i)=Ξ:=rfl
theorem Ja {b:Bool}:kh (.bl b)=Ξ:=rfl
theorem Jb:kh (.tup ds)=Ξ:=rfl
theorem Jc:kh (.lst o ds)=Ξ:=rfl
theorem Cw:Kg .M3 a (.tup ds)=Kc a ds:=by cases a<;>rfl
theorem yF:Kg .ND a (.tup ds)=Iq (Kc a ds) Bl:=by cases a<;>rfl
theorem dv:jW .ord [.str x]=IE (decide (x.length=1)) (.ok (.int (x.cps.getD 0 0:Nat))):=rfl
theorem dw:jW .abs [.int i]=.ok (.int (if i < 0 then -i else i)):=rfl
theorem fP:jW .len [.str x]=IE (jo x.length) (.ok (.int x.length)):=rfl
theorem fQ:jW .len [.tup ds]=.ok (.int ds.length):=rfl
theorem fR:jW .len [.lst o ds]=.ok (.int ds.length):=rfl
theorem bN:jW .min2 [.int a,.int b]=.ok (.int (if b < a then b else a)):=rfl
theorem dy:jW .max2 [.int a,.int b]=.ok (.int (if b > a then b else a)):=rfl
theorem bF:jW .tuple [.lst o ds]=.ok (.tup ds):=rfl
theorem aJ:jW .list [.lst o ds]=.ok (.lst Θ ds):=rfl
theorem yG (ns:List Str):ko (ns.map .str)=Δ ns:=by
 induction ns with
 |nil=>rfl
 |cons n ns ih=>show(ko (ns.map .str)).map (n::·)=_;rw[ih];rfl
theorem uv (ns:List Bool):jS (ns.map .bl)=Δ ns:=by
 induction ns with
 |nil=>rfl
 |cons n ns ih=>show(jS (ns.map .bl)).map (n::·)=_;rw[ih];rfl
theorem yI {o:Bool}{bs:List Bool}:jW .any [.lst o (bs.map .bl)]=.ok (.bl (bs.any id)):=by
 show(match jS (bs.map .bl) with|some bs=>.ok (.bl (bs.any id))|none=>Jw)=(_:Res D)
 rw[uv]
theorem yJ {o:Bool}{bs:List Bool}:jW .all [.lst o (bs.map .bl)]=.ok (.bl (bs.all id)):=by
 show(match jS (bs.map .bl) with|some bs=>.ok (.bl (bs.all id))|none=>Jw)=(_:Res D)
 rw[uv]
theorem Bm (h:(ys.map (·.length)).sum+ys.length*x.length<=16777216):nZ .join (.str x) [.lst o (ys.map .str)]=.ok (.str (Txt.join x ys)):=by
 show(match ko (ys.map .str) with|some ys=>IE (decide ((ys.map (fun y:Str=>y.length)).sum+ys.length*x.length<=16777216)) (.ok (.str (Txt.join x ys)))|none=>Jw)=(_:Res D)
 rw[yG];show IE (decide _) _=_;rw[G_ h];rfl
theorem fS:lF (.str x)=Θ:=rfl
theorem dz:jl .str (.str x)=Θ:=rfl
theorem dA:jl .int (.int x)=Θ:=rfl
theorem dB:jl .bool (.int x)=Ξ:=rfl
theorem dC:jl .tuple (.tup x)=Θ:=rfl
theorem aK:jl .str (.Jt)=Ξ:=rfl
theorem aL {b:Bool}:jl .str (.bl b)=Ξ:=rfl
theorem aM:jl .str (.int i)=Ξ:=rfl
theorem aN {x:Str}:jl .str (.str x)=Θ:=rfl
theorem aO:jl .str (.tup ds)=Ξ:=rfl
theorem aP:jl .str (.lst o ds)=Ξ:=rfl
theorem aQ:jl .int (.Jt)=Ξ:=rfl
theorem aR {b:Bool}:jl .int (.bl b)=Θ:=rfl
theorem aT {i:Int}:jl .int (.int i)=Θ:=rfl
theorem aU {x:Str}:jl .int (.str x)=Ξ:=rfl
theorem aV:jl .int (.tup ds)=Ξ:=rfl
theorem aW:jl .int (.lst o ds)=Ξ:=rfl
theorem aq:jl .bool (.Jt)=Ξ:=rfl
theorem au {b:Bool}:jl .bool (.bl b)=Θ:=rfl
theorem av {i:Int}:jl .bool (.int i)=Ξ:=rfl
theorem aw {x:Str}:jl .bool (.str x)=Ξ:=rfl
theorem ax:jl .bool (.tup ds)=Ξ:=rfl
theorem ay:jl .bool (.lst o ds)=Ξ:=rfl
theorem az:jl .list (.Jt)=Ξ:=rfl
theorem aA {b:Bool}:jl .list (.bl b)=Ξ:=rfl
theorem aB {i:Int}:jl .list (.int i)=Ξ:=rfl
theorem aC {x:Str}:jl .list (.str x)=Ξ:=rfl
theorem aD:jl .list (.tup ds)=Ξ:=rfl
theorem aE:jl .list (.lst o ds)=Θ:=rfl
theorem aa:jl .tuple (.Jt)=Ξ:=rfl
theorem ae {b:Bool}:jl .tuple (.bl b)=Ξ:=rfl
theorem af {i:Int}:jl .tuple (.int i)=Ξ:=rfl
theorem ag {x:Str}:jl .tuple (.str x)=Ξ:=rfl
theorem ah {ds:List D}:jl .tuple (.tup ds)=Θ:=rfl
theorem aj:jl .tuple (.lst o ds)=Ξ:=rfl
theorem dD {o:Bool}{x:List D}:jl .list (.lst o x)=Θ:=rfl
theorem sS (ns:List Int):iD (ns.map .int)=Θ:=by rw[iU,List.all_map,R_];intro x _;rfl
theorem yL (ns:List Str):iD (ns.map .str)=Θ:=by rw[iU,List.all_map,R_];intro x _;rfl
theorem ig:er (.int i)=.int i:=by rw[er]
theorem ij:er (.str i)=.str i:=by rw[er]
theorem ik:er (.bl i)=.bl i:=by rw[er]
theorem il:er .Jt=.Jt:=by rw[er]
theorem ip:er (.tup ds)=.tup (Jv ds):=by rw[er]
theorem iq:er (.lst o ds)=.lst Ξ (Jv ds):=by rw[er]
theorem fT:Jv []=[]:=by rw[Jv]
theorem fU:Jv (d::ds)=er d::Jv ds:=by rw[Jv]
theorem jh (ns:List Int):Jv (ns.map .int)=ns.map .int:=jF (sS ns)
theorem jX (ns:List Str):Jv (ns.map .str)=ns.map .str:=jF (yL ns)
theorem fV:iH (.int i)=Θ:=rfl
theorem fW:iH (.str i)=Θ:=rfl
theorem fX:iH (.bl i)=Θ:=rfl
theorem fY:iH .Jt=Θ:=rfl
theorem fZ:iH (.tup ds)=iD ds:=rfl
theorem f6:iH (.lst o ds)=Ξ:=rfl
theorem dE:iD []=Θ:=rfl
theorem dF:iD (d::ds)=(iH d&&iD ds):=rfl
noncomputable def yM:Fl->Res D
 |.nx _=>.ok .Jt
 |.rt d=>.ok d
 |_=>Jw
theorem run (h:ds.length=fn.np):m9 cl fn ds=Iq (jf cl fn.body (ds.map Δ++Τ (fn.G.N.length - fn.np) Φ)) yM:=by unfold m9;rw[G_ h];rfl
theorem dG:yM (.nx τ)=.ok .Jt:=rfl
theorem dH:yM (.rt d)=.ok d:=rfl
theorem call (h:T f=Δ fn)(h0:fn.io=Ξ):bK T (n+1) f ds=m9 (bK T n) fn ds:=by show(match T f with|some fn=>(match fn.io with|false=>m9 (bK T n) fn ds|true=>sJ (bK T n) fn ds)|none=>Jw)=_;rw[h];show(match fn.io with|false=>m9 (bK T n) fn ds|true=>sJ (bK T n) fn ds)=_;rw[h0]
theorem go (h:T f=Δ fn)(h0:fn.io=Ξ)(h1:fn.np=m)(h2:fn.G.N.length=k)(h3:fn.body=body)(hl:ds.length=m) :
  bK T (n+1) f ds=Iq (jf (bK T n) body (ds.map Δ++Τ (k - m) Φ)) yM:=by
 rw[call h h0,run (by rw[hl,h1]),h1,h2,h3]
end
end Ev
namespace Ev
section
variable {cl:Nat->List D->Res D}{τ:Ev}
theorem line:Ζ=16777216:=sizeLine_eq
theorem qj (h1 : -18446744073709551616 < a)(h2:a < 18446744073709551616):KN .mul (.int a) (.int b)=.ok (.int (a*b)):=by rw[Ct,G_ (show -(2 ^ 64) < a/\a < 2 ^ 64 from⟨by omega,by omega⟩)];rfl
theorem yN (h1 : -18446744073709551616 < b)(h2:b < 18446744073709551616):KN .mul (.int a) (.int b)=.ok (.int (a*b)):=by rw[Ct,G_ (show -(2 ^ 64) < b/\b < 2 ^ 64 from⟨by omega,by omega⟩),Bool.or_true];rfl
theorem yO (h1:0 < b)(h2:b < 1073741824):KN .fdiv (.int a) (.int b)=.ok (.int (a / b)):=by rw[EI,G_ ⟨h1,h2⟩];rfl
theorem yQ (h1:0 < b):KN .mod (.int a) (.int b)=.ok (.int (a % b)):=by rw[GU,G_ h1];rfl
theorem oE (h:n<=16777216):jo n=Θ:=G_ (by rw[line];exact h)
theorem oF (h:n < 16777216):kx n=Θ:=G_ (by rw[line];exact h)
theorem uw (h1 : -4611686018427387904<=i)(h2:i < 4611686018427387904):mX i=Θ:=G_ ⟨by omega,by omega⟩
theorem ux (f:α->β)(xs:List α)(i:Int):KG (xs.map f) i=(KG xs i).map f:=by
 unfold KG;rw[i_];cases KU xs.length i with
 |none=>rfl
 |some j=>exact y_ ..
theorem ql (d:α)(h0:0<=i)(h1:i < xs.length):KG xs i=Δ (xs.getD i.toNat d):=by
 unfold KG KU;rw[e_ h0,e_ h1];show xs[i.toNat]? = _;have:i.toNat < xs.length:=by omega
 rw[Z_,v_ this];rfl
theorem Tt {o:Bool}{xs:List Int}{i:Int}(h0:0<=i)(h1:i < xs.length):iQ (.lst o (xs.map .int)) (.int i)=.ok (.int (xs.getD i.toNat 0)):=by rw[Tr,ux,ql 0 h0 h1];rfl
theorem EJ {o:Bool}{xs:List Str}{i:Int}(h0:0<=i)(h1:i < xs.length):iQ (.lst o (xs.map .str)) (.int i)=.ok (.str (xs.getD i.toNat ⟨#[]⟩)):=by rw[Tr,ux,ql ⟨#[]⟩ h0 h1];rfl
theorem RP (h0:0<=i)(h1:i < z.length)(hz:z.length<=16777216):iQ (.str z) (.int i)=.ok (.str ⟨#[z.cps.toList.getD i.toNat 0]⟩):=by
 rw[x_s,oE hz];have hl:z.cps.toList.length=z.length:=by simp[Str.length]
 rw[ql 0 h0 (by rw[hl];exact h1)];rfl
noncomputable def fz:Bool->Option D->Option D
 |true,Δ d=>Δ (er d)
 |true,Φ=>Φ
 |false,o=>o
theorem ir:fz Θ (Δ d)=Δ (er d):=rfl
theorem iw:fz Θ Φ=Φ:=rfl
theorem iy:fz Ξ o=o:=rfl
theorem Cy:oY is k (o::τ)=fz (is.contains k) o::oY is (k+1) τ:=by show(if is.contains k then o.map er else o)::oY is (k+1) τ=_;cases is.contains k<;>cases o<;>rfl
theorem iz:vars (.c d)=[]:=rfl
theorem iA:vars (.g n d)=[]:=rfl
theorem iB:vars (.v i)=[i]:=rfl
theorem dI:vars (.bin o a b)=vars a++vars b:=rfl
theorem dJ:vars (.tup es)=iR es:=rfl
theorem dM:vars (.lst es)=iR es:=rfl
theorem bG:vars (.call f es)=iR es:=rfl
theorem f7:vars (.bi f es)=iR es:=rfl
theorem dN:vars (.idx a i)=vars a++vars i:=rfl
theorem dO {m:Mt}{o:IR}{es:List IR}:vars (.L9 m o es)=vars o++iR es:=rfl
theorem f9:iR []=[]:=rfl
theorem gb:iR (e::es)=vars e++iR es:=rfl
theorem bH:iS (.comp G fr t s i e)=Θ:=rfl
theorem dP:iS (.bin .add a b)=Θ:=rfl
theorem gc:iS (.sl a b c)=Θ:=rfl
theorem bJ:iS (.bi .list es)=Θ:=rfl
theorem dQ:iS (.idx a i)=Ξ:=rfl
theorem GY:iW e (.lst o ds) τ=cond (iS e) (cond (iD ds) (.lst Θ ds,τ) (.lst Θ (Jv ds),JM (vars e) τ)) (.lst Ξ (Jv ds),JM (vars e) τ):=by
 unfold iW;rw[d_ (show ¬iH (.lst o ds)=Θ by intro z;cases z)];cases iS e
 ·exact Prod.ext (by show er (.lst o ds)=_;rw[er];rfl) rfl
 ·show(if iD ds=Θ then _ else _)=_;cases iD ds<;>rfl
theorem GZ:iW e (.tup ds) τ=cond (iD ds) (.tup ds,τ) (.tup (Jv ds),JM (vars e) τ):=by
 unfold iW;cases h:iD ds with
 |true=>rw[e_ (show iH (.tup ds)=Θ from h)];rfl
 |false=>rw[d_ (show ¬iH (.tup ds)=Θ by intro z;rw[show iH (.tup ds)=iD ds from rfl,h]at z;cases z)];cases iS e<;>exact Prod.ext (by show er (.tup ds)=_;rw[er];rfl) rfl
theorem uy (P:Nat->Ev->Prop):∀(its:List D) (k:Nat) (τ:Ev),P k τ->(∀(i:Nat) (x:D) (τ:Ev),its[i]? = Δ x->P (k+i) τ->∃τ',body x τ=.ok (.nx τ')/\P (k+i+1) τ')->∃τ',forM body its τ=.ok (.nx τ')/\P (k+its.length) τ'
 |[],k,τ,h,_=>⟨τ,rfl,h⟩
 |x::xs,k,τ,h,hb=>by
  obtain⟨NF,e1,h1⟩:=hb 0 x τ rfl h;obtain⟨Vu,e2,h2⟩:=uy P xs (k+1) NF h1 fun i y σ hy hp=>by obtain⟨τ',e',h'⟩:=hb (i+1) y σ (by simpa using hy) (by rw[show k+(i+1)=k+1+i by omega];exact hp);exact⟨τ',e',by rw[show k+1+i+1=k+(i+1)+1 by omega];exact h'⟩
  refine⟨Vu,?_,by rw[List.length_cons,show k+(xs.length+1)=k+1+xs.length by omega];exact h2⟩;rw[dR,e1,dS,dU,e2]
theorem ny (P:Nat->Ev->Prop){its:List D}  (h:P 0 τ)(hb:∀(i:Nat)(x:D)(τ:Ev),its[i]? = Δ x->P i τ->∃τ',body x τ=.ok (.nx τ')/\P (i+1) τ'):∃τ',forM body its τ=.ok (.nx τ')/\P its.length τ':=by
 obtain⟨τ',h1,h2⟩:=uy P its 0 τ h fun i x τ hx hp=>by rw[Nat.zero_add]at hp ⊢;exact hb i x τ hx hp
 exact⟨τ',h1,by rw[Nat.zero_add]at h2;exact h2⟩
theorem rK {α β:Type}{body:D->Ev->Res Fl}(f:β->α->β)(MF:α->D)(st:β->Ev->Prop):∀(xs:List α) (b:β) (τ:Ev),st b τ->(∀(x:α) (b:β) (τ:Ev),x∈xs->st b τ->∃τ',body (MF x) τ=.ok (.nx τ')/\st (f b x) τ')->
  ∃τ',forM body (xs.map MF) τ=.ok (.nx τ')/\st (xs.foldl f b) τ'
 |[],b,τ,h,_=>⟨τ,rfl,h⟩
 |x::xs,b,τ,h,hb=>by obtain⟨NF,e1,h1⟩:=hb x b τ (by simp) h;obtain⟨Vu,e2,h2⟩:=rK f MF st xs (f b x) NF h1 fun y b σ hy hp=>hb y b σ (H_ _ hy) hp;refine⟨Vu,?_,h2⟩;rw[b_,dR,e1,dS,dU,e2]
theorem jL {α β:Type}{g:D->Res (Option D)}(MF:α->D)(out:α->β)(PL:β->D):∀(xs:List α),(∀x∈xs,g (MF x)=.ok (Δ (PL (out x))))->iP g (xs.map MF)=.ok ((xs.map out).map PL)
 |[],_=>rfl
 |x::xs,h=>by show Iq (g (MF x)) _=_;rw[h x (by simp)];show Iq (iP g (xs.map MF)) _=_;rw[jL MF out PL xs fun y hy=>h y (H_ _ hy)];rfl
theorem yR (a b:Int):jq a b=((List.range (b - a).toNat).map fun k=>a+(k:Nat)).map .int:=by unfold jq;rw[K_];rfl
end
end Ev
end L2
namespace L2.Ev
theorem IG:iF (o::τ) 0=o:=rfl
theorem Jd:iF (o::τ) (i+1)=iF τ i:=rfl
theorem Je:oY is k []=[]:=rfl
theorem Jf {a k:Nat}{l:List Nat}:List.contains (a::l) k=((k == a)||l.contains k):=rfl
theorem Jg {k:Nat}:List.contains [] k=Ξ:=rfl
theorem Jh:fz b (Δ (.int i))=Δ (.int i):=by cases b<;>rfl
theorem Ji:fz b (Δ (.str i))=Δ (.str i):=by cases b<;>rfl
theorem Jj:fz b Φ=Φ:=by cases b<;>rfl
end L2.Ev
namespace L2
open PySem
namespace Ev
theorem Jk {P:D}:iQ (.tup [P]) (.int 0)=.ok P:=rfl
theorem Jl {P Q:D}:iQ (.tup [P,Q]) (.int 0)=.ok P:=rfl
theorem Jm {P Q:D}:iQ (.tup [P,Q]) (.int 1)=.ok Q:=rfl
theorem Jn {P Q R:D}:iQ (.tup [P,Q,R]) (.int 0)=.ok P:=rfl
theorem Jo {P Q R:D}:iQ (.tup [P,Q,R]) (.int 1)=.ok Q:=rfl
theorem Jp {P Q R:D}:iQ (.tup [P,Q,R]) (.int 2)=.ok R:=rfl
theorem Jq {o:Bool}{P Q:D}:iQ (.lst o [P,Q]) (.int 0)=.ok P:=rfl
theorem Jr {o:Bool}{P Q:D}:iQ (.lst o [P,Q]) (.int 1)=.ok Q:=rfl
end Ev
theorem Zaa {a b:Prop}(x:a)(y:b):a/\b:=⟨x,y⟩
noncomputable def Js:=(Zaa (Zaa (Zaa (Zaa (Zaa @Ev.LN @Ev.nv) (Zaa @Ev.GV (Zaa @Ev.GW @Ev.Cu))) (Zaa (Zaa @Ev.Cv (Zaa @Ev.yE @Ev.GX)) (Zaa @Ev.Cw (Zaa @Ev.yF @Ev.yI)))) (Zaa (Zaa (Zaa @Ev.yJ @Ev.jh) (Zaa @Ev.jX (Zaa @Ev.qj @Ev.yN))) (Zaa (Zaa @Ev.yO (Zaa @Ev.yQ @Ev.oE)) (Zaa @Ev.oF (Zaa @Ev.uw @Ev.Tt))))) (Zaa (Zaa (Zaa (Zaa @Ev.EJ @Ev.RP) (Zaa @Ev.Cy (Zaa @Ev.GY @Ev.GZ))) (Zaa (Zaa @Ev.sS (Zaa @Ev.yL @Bool.or_false)) (Zaa @Bool.or_true (Zaa @List.replicate_succ.{0} @List.replicate_zero.{0})))) (Zaa (Zaa (Zaa @List.length_cons.{0} (Zaa @List.length_nil.{0} @Nat.zero_add)) (Zaa @decide_true (Zaa @Bool.and_self @Bool.not_true))) (Zaa (Zaa @Bool.not_false (Zaa @Bool.and_true @beq_self_eq_true.{0})) (Zaa @if_true.{1} (Zaa @if_false.{1} @aaq))))))
namespace Fr
end Fr
namespace Fr
open PySem
noncomputable def yS (f:Nat):Gm:={N:=["_law_own","_law_part"],kd:=[.local,.local],gl:=[f],df:=Ξ}
noncomputable def Nt (f:Nat):List IS:=
 [(.JJ (.cmp .N7 (.v 1) (.c .Jt)) [(.ret (.cmp .N7 (.v 0) (.c .Jt)))] []),(.JJ (.Lf (.Kz (.v 1) .bool) (.Kz (.v 0) .bool)) [(.ret (.JX (.Kz (.v 1) .bool) (.JX (.Kz (.v 0) .bool) (.cmp .eq (.v 0) (.v 1)))))] []),(.JJ (.Kz (.v 1) .str) [(.ret (.JX (.Kz (.v 0) .str) (.cmp .eq (.v 0) (.v 1))))] []),(.JJ (.Kz (.v 1) .int) [(.ret (.JX (.Kz (.v 0) .int) (.cmp .eq (.v 0) (.v 1))))] []),(.JJ (.Kz (.v 1) .tuple) [(.JJ (.Kr (.Kz (.v 0) .tuple)) [(.ret (.c (.bl Ξ)))] [])] [(.JJ (.Kr (.Kz (.v 0) .list)) [(.ret (.c (.bl Ξ)))] [])]),(.JJ (.cmp .ne (.bi .len [(.v 0)]) (.bi .len [(.v 1)])) [(.ret (.c (.bl Ξ)))] []),(.ret (.bi .all [(.comp (yS f) [] (.tp [(.nm 0),(.nm 1)]) (.zip (.v 0) (.v 1)) [] (.call f [(.v 0),(.v 1)]))]))]
noncomputable def uz (f:Nat)(x:Str):Gm:={N:=[x],kd:=[.local],gl:=[f],df:=Ξ}
noncomputable def Nu (f:Nat)(x:Str):List IS:=
 [(.JJ (.Kz (.v 0) .list) [(.ret (.comp (uz f x) [] (.nm 0) (.val (.v 0)) [] (.call f [(.v 0)])))] []),(.JJ (.Kz (.v 0) .tuple) [(.ret (.bi .tuple [(.comp (uz f x) [] (.nm 0) (.val (.v 0)) [] (.call f [(.v 0)]))]))] []),(.ret (.v 0))]
end Fr
end L2
local macro_rules | `(tactic| simp! [$xs,*]) =>do
 let a ← ("Nat.reduceBEq Nat.reduceSub Nat.reduceAdd reduceIte Ev.IG Ev.Jd Ev.fJ Ev.fK Ev.Je Ev.Jf Ev.Jg cond_true cond_false List.map_cons List.map_nil List.cons_append List.nil_append Bool.true_or Bool.false_or Ev.ig Ev.ij Ev.ik Ev.il Ev.ip Ev.iq Ev.fT Ev.fU Ev.iz Ev.iB Ev.dI Ev.bG Ev.f9 Ev.gb Ev.dJ Ev.dM Ev.f7 Ev.dN Ev.bP Ev.dZ Ev.aY Ev.bR Ev.bT Ev.bU Ev.d6 Ev.ba Ev.bV Ev.bW Ev.eA Ev.bc Ev.bX Ev.bf Ev.bY Ev.bZ Ev.cb Ev.cf Ev.cg Ev.eG Ev.bg Ev.cq Ev.bh Ev.cy Ev.cz Ev.cC Ev.cD Ev.bp Ev.bq Ev.eL Ev.eM Ev.cG Ev.bt Ev.bu Ev.bw Ev.ak Ev.aH Ev.aX Ev.cM Ev.fg Ev.fq Ev.cN Ev.ft Ev.fu Ev.cP Ev.aI Ev.cR Ev.cW Ev.bC Ev.cZ Ev.de Ev.dg Ev.fw Ev.fx Ev.dh Ev.dj Ev.bD Ev.bE Ev.du Ev.dS Ev.dW Ev.gh Ev.gj Ev.II Ev.IJ Ev.IK Ev.dX Ev.dY Ev.bQ Ev.d5 Ev.aZ Ev.eh Ev.gk Ev.eB Ev.eC Ev.eD Ev.eE Ev.eF Ev.gm Ev.cp Ev.gp Ev.gq Ev.gr Ev.gu Ev.gy Ev.gz Ev.gA Ev.cu Ev.cv Ev.cw Ev.cx Ev.cA Ev.bo Ev.cB Ev.eJ Ev.eK Ev.cE Ev.gB Ev.gC Ev.cF Ev.gD Ev.gE Ev.gG Ev.gH Ev.br Ev.gI Ev.aF Ev.aG Ev.cH Ev.eN Ev.eO Ev.eS Ev.gJ Ev.gK Ev.gM Ev.IL Ev.IH Ev.Ir Ev.Iu Ev.Iw Ev.Ii Ev.IM Ev.IP Ev.eT Ev.eU Ev.eV Ev.bx Ev.eW Ev.gN Ev.eX Ev.eY Ev.gO Ev.gP Ev.cI Ev.cJ Ev.Ij Ev.cK Ev.bA Ev.cL Ev.eZ Ev.ff Ev.bL Ev.gQ Ev.gR Ev.bB Ev.cO Ev.IQ Ev.IU Ev.IV Ev.IW Ev.Ik Ev.cQ Ev.C' Ev.cS Ev.cT Ev.cU Ev.cV Ev.cX Ev.Ih Ev.cY Ev.Il Ev.Io Ev.Im Ev.Iy Ev.Ip Ev.gU Ev.gV Ev.fy Ev.fA Ev.fB Ev.fC Ev.fD Ev.fE Ev.fF Ev.dR Ev.dU Ev.fG Ev.gW Ev.gX Ev.gY Ev.fH Ev.fI Ev.fL Ev.bM Ev.dn Ev.fM Ev.dq Ev.fN Ev.IX Ev.gZ Ev.g6 Ev.g7 Ev.g8 Ev.g9 Ev.hE Ev.hG Ev.hJ Ev.hU Ev.hW Ev.ia Ev.ib Ev.ic Ev.ao Ev.ie Ev.fO Ev.IY Ev.IZ Ev.I0 Ev.Ja Ev.Jb Ev.Jc Ev.dv Ev.dw Ev.fP Ev.fQ Ev.fR Ev.bN Ev.dy Ev.bF Ev.aJ Ev.fS Ev.dz Ev.dA Ev.dB Ev.dC Ev.aK Ev.aL Ev.aM Ev.aN Ev.aO Ev.aP Ev.aQ Ev.aR Ev.aT Ev.aU Ev.aV Ev.aW Ev.aq Ev.au Ev.av Ev.aw Ev.ax Ev.ay Ev.az Ev.aA Ev.aB Ev.aC Ev.aD Ev.aE Ev.aa Ev.ae Ev.af Ev.ag Ev.ah Ev.aj Ev.dD Ev.fV Ev.fW Ev.fX Ev.fY Ev.fZ Ev.f6 Ev.dE Ev.dF Ev.dG Ev.dH Ev.ir Ev.iw Ev.iy Ev.iA Ev.dO Ev.bH Ev.dP Ev.gc Ev.bJ Ev.dQ".splitOn " ").toArray.mapM fun s =>`(Lean.Parser.Tactic.simpLemma| $(Lean.mkIdent s.toName):ident)
 `(tactic| simp (disch :=omega) only [L2.Js,$a,*,↓L2.Ev.Jh,↓L2.Ev.Ji,↓L2.Ev.Jj,↓L2.Ev.Jk,↓L2.Ev.Jl,↓L2.Ev.Jm,↓L2.Ev.Jn,↓L2.Ev.Jo,↓L2.Ev.Jp,↓L2.Ev.Jq,↓L2.Ev.Jr,$xs,*])
namespace Law
open PySem L2
noncomputable def top (i:Nat):Stmt:=PySem.Challenge.pw_flagroll_k49_faces_counted.main.body.getD i (.Pass ⟨0,0,0,0⟩)
noncomputable def Z:Sg:={nm:=(["PLACES","is_whole","run_index","face_at","mark_of","mark_holds","cond_holds","conds_hold","in_rows","in_group","share_at","outcome_face","rules_holding","decided_among","place_cuts","stretches_between","stretch_faces","face_counts","_law_draw","_law_names","_law_salt","_law_place","_law_visitor_number","_law_group_names","_law_cond"]:List Str)++(["_law_groups","_law_outcome","_law_allot","_law_stem","_law_center","_law_switch","_law_any_thing","_law_cond_holds","_law_share","_law_face","_law_same","_law_copy","_law_decided_at","_law_due","law"]:List Str),Qj:=[(21,(.int 10007))],fns:=[22,23,24,25,26,27,28,29,30,31,32,33,34,35,36,37,38,39,40,41,42,43,44,45,46,47,48,49,50,51,52,53,54,55,56,57,58,59,60],cls:=[],xt:=[],pl:=[],rc:=[],xm:=[],ZU:=[]}
noncomputable def Tu:Gm:={N:=["_law_groups_here","_law_marks","_law_cond_here"],kd:=[.cell,.cell,.local],gl:=[53],df:=Ξ}
noncomputable def Nv:List IS:=[(.JJ (.bi .all [(.comp Tu [0,3] (.nm 2) (.val (.v 5)) [] (.call 53 [(.v 0),(.v 2),(.v 1)]))]) [(.asg (.nm 7) (.call 55 [(.v 6),(.idx (.v 1) (.c (.int 3))),(.v 4),(.v 2)])),(.JJ (.cmp .Lh (.v 7) (.c .Jt)) [(.ret (.v 7))] [])] [])]
noncomputable def NK:List IS:=[(.JJ (.cmp .eq (.idx (.v 4) (.c (.int 0))) (.c (.str "share"))) [(.app 2 (.call 31 [(.idx (.v 4) (.c (.int 2))),(.v 1)]))] [])]
noncomputable def OJ:List IS:=[(.ext 2 (.lst [(.v 7),(.v 8)]))]
noncomputable def Qt:List IS:=[(.Mi 5 (.v 7) (.bin .sub (.bin .add (.Kj (.v 5) (.v 7) (.c (.int 0))) (.idx (.v 6) (.c (.int 1)))) (.idx (.v 6) (.c (.int 0)))))]
noncomputable def NL:List IS:=[(.JJ (.cmp .eq (.idx (.v 6) (.c (.int 0))) (.c (.str "share"))) [(.app 4 (.call 54 [(.idx (.v 6) (.c (.int 2))),(.v 2)]))] [])]
noncomputable def OK:List IS:=[(.asg (.nm 4) (.bin .add (.v 4) (.lst [(.v 9),(.v 10)])))]
noncomputable def Qu:List IS:=[(.asg (.nm 7) (.call 58 [(.v 0),(.v 1),(.v 2),(.v 3),(.v 9)])),(.Mi 11 (.v 7) (.bin .sub (.bin .add (.Kj (.v 11) (.v 7) (.c (.int 0))) (.v 10)) (.v 9)))]
noncomputable def X7:Gm:={N:=["_law_counts","_law_face_here"],kd:=[.cell,.local],gl:=[],df:=Ξ}
noncomputable def Vv:IS:=(.JJ (.Lf (.cmp .eq (.v 6) (.c (.str "in"))) (.cmp .eq (.v 6) (.c (.str "out")))) [(.ret (.tup [(.idx (.call 44 [(.v 0)]) (.call 39 [(.v 0),(.bin .add (.v 1) (.c (.int 1))),(.c (.int 2))])),(.v 6),(.lst [])]))] [])
noncomputable def X8:Gm:={N:=["_law_stem_here","_law_script","_law_k","_law_j"],kd:=[.cell,.cell,.cell,.local],gl:=[39],df:=Ξ}
noncomputable def X9:List IS:=[(.asg (.nm 10) (.sl (.v 7) Φ (Δ (.bin .add (.c (.int 1)) (.call 39 [(.v 0),(.bin .add (.v 1) (.c (.int 8))),(.c (.int 2))])))))]
noncomputable def oV (x y:Str):IR:=(.Lf (.cmp .eq (.v 6) (.c (.str x))) (.cmp .eq (.v 6) (.c (.str y))))
noncomputable def Ya:List IS:=[(.asg (.nm 10) (.sl (.v 8) Φ (Δ (.c (.int 1)))))]
noncomputable def cB4:List IS:=[(.asg (.nm 10) (.lst []))]
noncomputable def Vw:List IS:=[(.ret (.tup [(.idx (.v 2) (.call 39 [(.v 0),(.bin .add (.v 1) (.c (.int 9))),(.bi .len [(.v 2)])])),(.v 6),(.v 10)]))]
noncomputable def Tv:List IS:=(.JJ (.cmp .eq (.v 6) (.c (.str "begins"))) X9 [])::(.JJ (oV "least" "most") Ya [])::(.JJ (oV "has" "lacks") cB4 [])::Vw
noncomputable def RQ:List IS:=(.asg (.nm 7) (.comp X8 [4,0,1] (.nm 3) (.JP (.c (.int 2))) [] (.sl (.v 0) Φ (Δ (.bin .add (.c (.int 1)) (.call 39 [(.v 1),(.bin .add (.bin .add (.v 2) (.c (.int 2))) (.v 3)),(.c (.int 8))]))))))::(.Lz 7 (.c (.int 1)) (.bin .add (.sl (.idx (.v 7) (.c (.int 1))) Φ (Δ (.neg (.c (.int 1))))) (.idx (.c (.str "abcdefghijklmnopqrstuvwxyz0123456789")) (.call 39 [(.v 0),(.bin .add (.v 1) (.c (.int 4))),(.c (.int 36))]))))::(.asg (.nm 8) (.lst [(.bin .add (.v 5) (.call 39 [(.v 0),(.bin .add (.v 1) (.c (.int 5))),(.c (.int 3))])),(.idx (.lst [(.v 5),(.c (.int 999999999)),(.c (.int 0))]) (.call 39 [(.v 0),(.bin .add (.v 1) (.c (.int 6))),(.c (.int 3))]))]))::(.asg (.nm 9) (.call 39 [(.v 0),(.bin .add (.v 1) (.c (.int 7))),(.c (.int 4))]))::(.asg (.nm 10) (.sl (.bin .add (.v 7) (.v 8)) (Δ (.v 9)) (Δ (.bin .add (.bin .add (.v 9) (.c (.int 1))) (.call 39 [(.v 0),(.bin .add (.v 1) (.c (.int 8))),(.c (.int 2))])))))::Tv
noncomputable def Qv:IR:=(.JX (.cmp .ne (.v 8) (.lst [])) (.cmp .eq (.idx (.idx (.v 8) (.neg (.c (.int 1)))) (.c (.int 1))) (.v 6)))
noncomputable def RU:IR:=(.neg (.c (.int 1)))
noncomputable def RV:IR:=(.tup [(.idx (.idx (.v 8) (.neg (.c (.int 1)))) (.c (.int 0))),(.v 7)])
noncomputable def Tw:IR:=(.tup [(.v 6),(.v 7)])
noncomputable def Qw:List IS:=[(.N9 5 8 (.call 39 [(.v 0),(.bin .add (.bin .add (.v 1) (.c (.int 2))) (.bin .mod (.v 6) (.c (.int 5)))),(.c (.int 3))]) Qv RU RV Tw)]
noncomputable def PM:Gm:={N:=["_law_script","_law_i","_law_names_here","_law_stem_here","_law_center_here","_law_j"],kd:=[.cell,.cell,.cell,.cell,.cell,.local],gl:=[45],df:=Ξ}
noncomputable def NM:IR:=(.call 45 [(.v 0),(.bin .add (.bin .add (.c (.int 306)) (.bin .mul (.c (.int 40)) (.v 1))) (.bin .mul (.c (.int 12)) (.v 5))),(.v 2),(.c (.int 0)),(.v 3),(.v 4)])
noncomputable def RX:List IS:=[(.asg (.nm 11) (.bi .min2 [(.v 9),(.call 39 [(.v 0),(.bin .add (.c (.int 301)) (.v 10)),(.c (.int 3))])])),(.asg (.nm 12) (.comp PM [0,10,1,3,4] (.nm 5) (.JP (.v 11)) [] NM)),(.asg (.nm 9) (.bin .sub (.v 9) (.v 11))),(.app 8 (.tup [(.v 12),(.call 47 [(.v 0),(.bin .add (.c (.int 336)) (.bin .mul (.c (.int 40)) (.v 10))),(.v 5),(.v 7)])]))]
noncomputable def Yb:Gm:={N:=["_law_script","_law_j","_law_at"],kd:=[.cell,.cell,.local],gl:=[52],df:=Ξ}
noncomputable def Yc:Gm:={N:=["_law_names_here","_law_things","_law_at"],kd:=[.cell,.cell,.local],gl:=[],df:=Ξ}
noncomputable def RY:List IS:=[(.asg (.nm 7) (.comp Yb [0,6] (.nm 2) (.JP (.c (.int 2))) [] (.call 52 [(.v 0),(.bin .add (.bin .add (.c (.int 600)) (.bin .mul (.c (.int 10)) (.v 1))) (.bin .mul (.c (.int 4)) (.v 2)))]))),(.asg (.nm 8) (.comp Yc [1,7] (.nm 2) (.val (.lst [(.bin .mod (.v 6) (.c (.int 2))),(.bin .sub (.c (.int 1)) (.bin .mod (.v 6) (.c (.int 2))))])) [(.cmp .Lh (.idx (.v 1) (.v 2)) (.c .Jt))] (.tup [(.idx (.v 0) (.v 2)),(.idx (.v 1) (.v 2))]))),(.asg (.nm 9) (.call 38 [(.idx (.v 5) (.c (.int 0))),(.idx (.v 5) (.c (.int 1))),(.v 2),(.bi .list [(.v 8)])])),(.JJ (.Kr (.call 56 [(.v 9),(.call 59 [(.v 3),(.v 4),(.v 2),(.v 8)])])) [(.ret (.c (.bl Ξ)))] []),(.app 9 (.tup [(.c (.str "a")),(.c (.int 1))]))]
noncomputable def Tx:List IS:=[(.asg (.nm 2) (.c (.int 0))),(.JH (.tp [(.nm 3),(.nm 4)]) (.val (.v 0)) [(.JJ (.cmp .le (.v 3) (.v 1)) [(.asg (.nm 2) (.v 4))] [])]),(.ret (.v 2))]
noncomputable def b22:List IS:=
 [(.ret (.JX (.Kz (.v 0) .int) (.Kr (.Kz (.v 0) .bool))))]
noncomputable def Yd:Fn:={np:=1,G:={N:=["thing"],kd:=[.local],gl:=[14,8,16],df:=Θ},body:=b22}
noncomputable def RZ:List IS:=
 [(.asg (.nm 2) (.c (.int 0))),(.JH (.tp [(.nm 3),(.nm 4)]) (.val (.v 0)) [(.JJ (.chain .le .lt (.v 3) (.v 1) (.v 4)) [(.ret (.bin .sub (.bin .add (.v 2) (.v 1)) (.v 3)))] []),(.asg (.nm 2) (.bin .sub (.bin .add (.v 2) (.v 4)) (.v 3)))]),(.ret (.c .Jt))]
noncomputable def Tz:Fn:={np:=2,G:={N:=["run","place","ahead","low","high"],kd:=Τ 5 .local,gl:=[],df:=Θ},body:=RZ}
noncomputable def R0:List IS:=
 [(.JH (.tp [(.nm 2),(.nm 3)]) (.val (.idx (.v 0) (.c (.int 0)))) [(.JJ (.cmp .Lh (.call 23 [(.v 3),(.v 1)]) (.c .Jt)) [(.ret (.v 2))] [])]),(.ret (.c .Jt))]
noncomputable def TB:Fn:={np:=2,G:={N:=["allot","place","face","run"],kd:=Τ 4 .local,gl:=[23],df:=Θ},body:=R0}
noncomputable def R1:List IS:=
 [(.JH (.tp [(.nm 2),(.nm 3)]) (.val (.v 0)) [(.JJ (.cmp .eq (.v 2) (.v 1)) [(.ret (.v 3))] [])]),(.ret (.c .Jt))]
noncomputable def TC:Fn:={np:=2,G:={N:=["marks","name","mark_name","thing"],kd:=Τ 4 .local,gl:=[],df:=Θ},body:=R1}
noncomputable def R3:List IS:=
 [(.JJ (.cmp .eq (.v 0) (.c (.str "is"))) [(.ret (.JX (.cmp .Lh (.v 2) (.c .Jt)) (.cmp .M3 (.v 2) (.v 1))))] []),(.JJ (.cmp .eq (.v 0) (.c (.str "not"))) [(.ret (.Lf (.cmp .N7 (.v 2) (.c .Jt)) (.cmp .ND (.v 2) (.v 1))))] []),(.JJ (.cmp .eq (.v 0) (.c (.str "begins"))) [(.ret (.JX (.Kz (.v 2) .str) (.bi .any [(.comp {N:=["mark","thing"],kd:=[.cell,.local],gl:=[],df:=Ξ} [2] (.nm 1) (.val (.v 1)) [] (.L9 .starts (.v 0) [(.v 1)]))])))] []),(.JJ (.cmp .eq (.v 0) (.c (.str "least"))) [(.ret (.JX (.call 22 [(.v 2)]) (.cmp .ge (.v 2) (.idx (.v 1) (.c (.int 0))))))] []),(.JJ (.cmp .eq (.v 0) (.c (.str "most"))) [(.ret (.JX (.call 22 [(.v 2)]) (.cmp .le (.v 2) (.idx (.v 1) (.c (.int 0))))))] []),(.JJ (.cmp .eq (.v 0) (.c (.str "has"))) [(.ret (.cmp .Lh (.v 2) (.c .Jt)))] []),(.ret (.cmp .N7 (.v 2) (.c .Jt)))]
noncomputable def Vx:Fn:={np:=3,G:={N:=["word","things","mark"],kd:=[.local,.local,.cell],gl:=[14,11,10,22],df:=Θ},body:=R3}
noncomputable def PN:List IS:=
 [(.asg (.nm 3) (.idx (.v 1) (.c (.int 0)))),(.asg (.nm 4) (.idx (.v 1) (.c (.int 1)))),(.JJ (.cmp .eq (.v 4) (.c (.str "in"))) [(.ret (.call 30 [(.v 0),(.v 3),(.v 2)]))] []),(.JJ (.cmp .eq (.v 4) (.c (.str "out"))) [(.ret (.Kr (.call 30 [(.v 0),(.v 3),(.v 2)])))] []),(.ret (.call 26 [(.v 4),(.idx (.v 1) (.c (.int 2))),(.call 25 [(.v 2),(.v 3)])]))]
noncomputable def R4:Fn:={np:=3,G:={N:=["groups","cond","marks","name","word"],kd:=Τ 5 .local,gl:=[30,26,25],df:=Θ},body:=PN}
noncomputable def R5:List IS:=
 [(.JH (.nm 3) (.val (.v 1)) [(.JJ (.Kr (.call 27 [(.v 0),(.v 3),(.v 2)])) [(.ret (.c (.bl Ξ)))] [])]),(.ret (.c (.bl Θ)))]
noncomputable def TF:Fn:={np:=3,G:={N:=["groups","conds","marks","cond"],kd:=Τ 4 .local,gl:=[27],df:=Θ},body:=R5}
noncomputable def R6:List IS:=
 [(.JH (.nm 3) (.val (.v 1)) [(.JJ (.call 28 [(.v 0),(.v 3),(.v 2)]) [(.ret (.c (.bl Θ)))] [])]),(.ret (.c (.bl Ξ)))]
noncomputable def TH:Fn:={np:=3,G:={N:=["groups","rows","marks","row"],kd:=Τ 4 .local,gl:=[28],df:=Θ},body:=R6}
noncomputable def R7:List IS:=
 [(.JH (.tp [(.nm 3),(.nm 4)]) (.val (.v 0)) [(.JJ (.cmp .eq (.v 3) (.v 1)) [(.ret (.call 29 [(.v 0),(.v 4),(.v 2)]))] [])]),(.ret (.c (.bl Ξ)))]
noncomputable def TJ:Fn:={np:=3,G:={N:=["groups","name","marks","group_name","rows"],kd:=Τ 5 .local,gl:=[29],df:=Θ},body:=R7}
noncomputable def b31:List IS:=
 Tx
noncomputable def Vy:Fn:={np:=2,G:={N:=["stages","day","share","first_day","places"],kd:=Τ 5 .local,gl:=[],df:=Θ},body:=b31}
noncomputable def Ol:List IS:=
 [(.JJ (.cmp .eq (.idx (.v 0) (.c (.int 0))) (.c (.str "face"))) [(.ret (.idx (.v 0) (.c (.int 1))))] []),(.JJ (.cmp .eq (.idx (.v 0) (.c (.int 0))) (.c (.str "share"))) [(.ret (.ite (.cmp .lt (.v 3) (.call 31 [(.idx (.v 0) (.c (.int 2))),(.v 2)])) (.idx (.v 0) (.c (.int 1))) (.c .Jt)))] []),(.ret (.call 24 [(.v 1),(.v 3)]))]
noncomputable def Qx:Fn:={np:=4,G:={N:=["outcome","allot","day","place"],kd:=Τ 4 .local,gl:=[31,24],df:=Θ},body:=Ol}
noncomputable def Vz:List IS:=
 [(.ret (.comp {N:=["groups","marks","number","rule"],kd:=[.cell,.cell,.local,.local],gl:=[28],df:=Ξ} [0,2] (.tp [(.nm 2),(.nm 3)]) (.LU (.idx (.v 1) (.c (.int 2)))) [(.call 28 [(.v 0),(.idx (.v 3) (.c (.int 0))),(.v 1)])] (.v 2)))]
noncomputable def VA:Fn:={np:=3,G:={N:=["groups","switch","marks"],kd:=[.cell,.local,.cell],gl:=[20],df:=Θ},body:=Vz}
noncomputable def R8:List IS:=
 [(.JH (.nm 4) (.val (.v 2)) [(.asg (.nm 5) (.call 32 [(.idx (.idx (.idx (.v 0) (.c (.int 2))) (.v 4)) (.c (.int 1))),(.idx (.v 0) (.c (.int 3))),(.v 1),(.v 3)])),(.JJ (.cmp .Lh (.v 5) (.c .Jt)) [(.ret (.tup [(.v 5),(.v 4)]))] [])]),(.ret (.tup [(.idx (.v 0) (.c (.int 1))),(.bi .len [(.idx (.v 0) (.c (.int 2)))])]))]
noncomputable def TK:Fn:={np:=4,G:={N:=["switch","day","numbers","place","number","face"],kd:=Τ 6 .local,gl:=[32,0],df:=Θ},body:=R8}
noncomputable def VB:List IS:=
 [(.asg (.nm 2) (.lst [(.c (.int 0)),(.g 21 (.int 10007))])),(.JH (.tp [(.nm 3),(.nm 4)]) (.val (.idx (.v 0) (.c (.int 2)))) NK),(.JH (.tp [(.nm 5),(.nm 6)]) (.val (.idx (.idx (.v 0) (.c (.int 3))) (.c (.int 0)))) [(.JH (.tp [(.nm 7),(.nm 8)]) (.val (.v 6)) OJ)]),(.ret (.v 2))]
noncomputable def VC:Fn:={np:=2,G:={N:=["switch","day","cuts","conds","outcome","face","run","low","high"],kd:=Τ 9 .local,gl:=[21,31],df:=Θ},body:=VB}
noncomputable def VD:List IS:=
 [(.asg (.nm 1) (.sset (.v 0))),(.ret (.K5 (.v 1) (.sl (.v 1) (Δ (.c (.int 1))) Φ)))]
noncomputable def VE:Fn:={np:=1,G:={N:=["cuts","ends"],kd:=[.local,.local],gl:=[4,12,5,17],df:=Θ},body:=VD}
noncomputable def VF:List IS:=
 [(.asg (.nm 5) (.call 33 [(.v 0),(.v 1),(.v 3)])),(.ret (.comp {N:=["switch","day","numbers","low","high"],kd:=[.cell,.cell,.cell,.local,.local],gl:=[34],df:=Ξ} [1,2,5] (.tp [(.nm 3),(.nm 4)]) (.val (.v 4)) [] (.idx (.call 34 [(.v 0),(.v 1),(.v 2),(.v 3)]) (.c (.int 0)))))]
noncomputable def VG:Fn:={np:=5,G:={N:=["groups","switch","day","marks","stretches","numbers"],kd:=[.local,.cell,.cell,.local,.local,.cell],gl:=[33],df:=Θ},body:=VF}
noncomputable def VH:List IS:=
 [(.asg (.nm 4) (.call 36 [(.call 35 [(.v 1),(.v 2)])])),(.asg (.nm 5) .K3),(.JH (.tp [(.nm 6),(.nm 7)]) (.zip (.v 4) (.call 37 [(.v 0),(.v 1),(.v 2),(.v 3),(.v 4)])) Qt),(.ret (.KQ (.v 5)))]
noncomputable def VI:Fn:={np:=4,G:={N:=["groups","switch","day","marks","stretches","counts","stretch","face"],kd:=Τ 8 .local,gl:=[36,35,17,37,4],df:=Θ},body:=VH}
noncomputable def VJ:List IS:=
 [(.asg (.nm 3) (.c (.int 0))),(.JJ (.cmp .gt (.bi .len [(.v 0)]) (.c (.int 0))) [(.asg (.nm 3) (.bin .mod (.idx (.v 0) (.bin .mod (.v 1) (.bi .len [(.v 0)]))) (.c (.int 2147483647))))] []),(.asg (.nm 4) (.bin .add (.bin .mul (.v 3) (.bin .add (.c (.int 742938285)) (.bin .mul (.bin .mul (.c (.int 9973)) (.v 1)) (.v 1)))) (.bin .mul (.v 1) (.c (.int 630360016))))),(.ret (.bin .mod (.bin .fdiv (.bin .mod (.v 4) (.c (.int 2147483647))) (.c (.int 97))) (.v 2)))]
noncomputable def VL:Fn:={np:=3,G:={N:=["_law_script","_law_k","_law_many","_law_cell","_law_mixed"],kd:=Τ 5 .local,gl:=[0],df:=Θ},body:=VJ}
noncomputable def R9:List IS:=
 [(.asg (.nm 3) (.c (.str "abcdefghijklmnopqrstuvwxyz"))),(.asg (.nm 4) (.call 39 [(.v 0),(.v 1),(.c (.int 26))])),(.JJ (.cmp .eq (.call 39 [(.v 0),(.bin .add (.v 1) (.c (.int 1))),(.c (.int 5))]) (.c (.int 0))) [(.ret (.comp {N:=["_law_letters","_law_start","_law_j"],kd:=[.cell,.cell,.local],gl:=[],df:=Ξ} [3,4] (.nm 2) (.JP (.v 2)) [] (.bin .mul (.idx (.v 0) (.v 1)) (.bin .add (.c (.int 1)) (.v 2)))))] []),(.asg (.nm 5) (.c (.str ""))),(.JH (.nm 6) (.JP (.call 39 [(.v 0),(.bin .add (.v 1) (.c (.int 2))),(.c (.int 8))])) [(.asg (.nm 5) (.bin .add (.v 5) (.idx (.v 3) (.call 39 [(.v 0),(.bin .add (.bin .add (.v 1) (.c (.int 40))) (.v 6)),(.c (.int 26))]))))]),(.asg (.nm 7) (.call 39 [(.v 0),(.bin .add (.v 1) (.c (.int 3))),(.bin .add (.bi .len [(.v 5)]) (.c (.int 1)))])),(.asg (.nm 8) (.idx (.lst [(.c (.int 1)),(.c (.int 7)),(.c (.int 25)),(.c (.int 11))]) (.call 39 [(.v 0),(.bin .add (.v 1) (.c (.int 1))),(.c (.int 4))]))),(.ret (.comp {N:=["_law_body","_law_at","_law_letters","_law_start","_law_step","_law_j"],kd:=[.cell,.cell,.cell,.cell,.cell,.local],gl:=[],df:=Ξ} [5,7,3,4,8] (.nm 5) (.JP (.v 2)) [] (.bin .add (.bin .add (.sl (.v 0) Φ (Δ (.v 1))) (.idx (.v 2) (.bin .mod (.bin .add (.v 3) (.bin .mul (.v 4) (.v 5))) (.c (.int 26))))) (.sl (.v 0) (Δ (.v 1)) Φ))))]
noncomputable def TL:Fn:={np:=3,G:={N:=["_law_script","_law_k","_law_many","_law_letters","_law_start","_law_body","_law_j","_law_at","_law_step"],kd:=[.local,.local,.local,.cell,.cell,.cell,.local,.cell,.cell],gl:=[39,15,0],df:=Θ},body:=R9}
noncomputable def VM:List IS:=
 [(.asg (.nm 2) (.c (.str "abcdefghijklmnopqrstuvwxyz"))),(.asg (.nm 3) (.c (.str ""))),(.JH (.nm 4) (.JP (.call 39 [(.v 0),(.v 1),(.c (.int 12))])) [(.asg (.nm 3) (.bin .add (.v 3) (.idx (.v 2) (.call 39 [(.v 0),(.bin .add (.bin .add (.v 1) (.c (.int 2))) (.v 4)),(.c (.int 26))]))))]),(.asg (.nm 5) (.call 39 [(.v 0),(.bin .add (.v 1) (.c (.int 1))),(.bin .add (.bi .len [(.v 3)]) (.c (.int 1)))])),(.ret (.bin .add (.bin .add (.sl (.v 3) Φ (Δ (.v 5))) (.idx (.v 2) (.call 39 [(.v 0),(.bin .add (.v 1) (.c (.int 14))),(.c (.int 26))]))) (.sl (.v 3) (Δ (.v 5)) Φ)))]
noncomputable def VN:Fn:={np:=2,G:={N:=["_law_script","_law_k","_law_letters","_law_body","_law_j","_law_at"],kd:=Τ 6 .local,gl:=[15,39,0],df:=Θ},body:=VM}
noncomputable def VO:List IS:=
 [(.asg (.nm 2) (.c (.int 0))),(.asg (.nm 3) (.c (.int 0))),(.JH (.nm 4) (.val (.v 0)) [(.asg (.nm 2) (.bin .mod (.bin .add (.bin .mul (.v 2) (.c (.int 31))) (.bi .ord [(.v 4)])) (.c (.int 10006)))),(.asg (.nm 3) (.bin .mod (.bin .add (.bin .mul (.v 3) (.c (.int 37))) (.bi .ord [(.v 4)])) (.c (.int 10007))))]),(.ret (.bin .mod (.bin .add (.bin .mul (.bin .add (.c (.int 1)) (.v 2)) (.v 1)) (.v 3)) (.c (.int 10007))))]
noncomputable def VP:Fn:={np:=2,G:={N:=["_law_salt_here","_law_number","_law_first","_law_second","_law_sign"],kd:=Τ 5 .local,gl:=[7],df:=Θ},body:=VO}
noncomputable def PQ:List IS:=
 [(.asg (.nm 2) (.call 39 [(.v 0),(.v 1),(.c (.int 6))])),(.JJ (.cmp .lt (.v 2) (.c (.int 2))) [(.ret (.idx (.lst [(.c (.int 0)),(.bin .pow (.c (.int 10)) (.c (.int 9)))]) (.v 2)))] []),(.ret (.bin .add (.bin .mul (.call 39 [(.v 0),(.bin .add (.v 1) (.c (.int 1))),(.c (.int 31600))]) (.c (.int 31600))) (.call 39 [(.v 0),(.bin .add (.v 1) (.c (.int 2))),(.c (.int 31600))])))]
noncomputable def Sa:Fn:={np:=2,G:={N:=["_law_script","_law_k","_law_way"],kd:=Τ 3 .local,gl:=[39],df:=Θ},body:=PQ}
noncomputable def VQ:List IS:=
 [(.ret (.idx (.lst [(.lst [(.c (.str "mates")),(.c (.str "others"))]),(.call 40 [(.v 0),(.c (.int 0)),(.c (.int 2))])]) (.call 39 [(.v 0),(.c (.int 148)),(.c (.int 2))])))]
noncomputable def VR:Fn:={np:=1,G:={N:=["_law_script"],kd:=[.local],gl:=[40,39],df:=Θ},body:=VQ}
noncomputable def TM:List IS:=
 (.asg (.nm 6) (.idx (.lst [(.c (.str "is")),(.c (.str "not")),(.c (.str "begins")),(.c (.str "least")),(.c (.str "most")),(.c (.str "has")),(.c (.str "lacks")),(.c (.str "in")),(.c (.str "out"))]) (.call 39 [(.v 0),(.v 1),(.bin .sub (.c (.int 9)) (.bin .mul (.c (.int 2)) (.v 3)))])))::Vv::RQ
noncomputable def VT:Fn:={np:=6,G:={N:=["_law_script","_law_k","_law_names_here","_law_inner","_law_stem_here","_law_center_here","_law_word","_law_texts","_law_numbers","_law_start","_law_things"],kd:=[.cell,.cell,.local,.local,.cell,.local,.local,.local,.local,.local,.local],gl:=[39,44,15,0],df:=Θ},body:=TM}
noncomputable def VU:List IS:=
 [(.asg (.nm 5) (.comp {N:=["_law_script","_law_k","_law_names_here","_law_stem_here","_law_center_here","_law_j"],kd:=[.cell,.cell,.cell,.cell,.cell,.local],gl:=[45],df:=Ξ} [0,1,2,3,4] (.nm 5) (.JP (.c (.int 3))) [] (.call 45 [(.v 0),(.bin .add (.v 1) (.bin .mul (.c (.int 10)) (.v 5))),(.v 2),(.c (.int 1)),(.v 3),(.v 4)]))),(.asg (.nm 6) (.idx (.lst [(.lst []),(.lst [(.lst [])]),(.lst [(.sl (.v 5) Φ (Δ (.c (.int 1))))]),(.lst [(.sl (.v 5) Φ (Δ (.c (.int 2))))]),(.lst [(.sl (.v 5) Φ (Δ (.c (.int 1)))),(.sl (.v 5) (Δ (.c (.int 1))) (Δ (.c (.int 2))))])]) (.call 39 [(.v 0),(.bin .add (.v 1) (.c (.int 30))),(.c (.int 5))]))),(.asg (.tp [(.nm 7),(.nm 8)]) (.call 44 [(.v 0)])),(.ret (.lst [(.tup [(.v 7),(.v 6)]),(.tup [(.v 8),(.lst [(.sl (.v 5) (Δ (.c (.int 2))) Φ)])])]))]
noncomputable def VV:Fn:={np:=5,G:={N:=["_law_script","_law_k","_law_names_here","_law_stem_here","_law_center_here","_law_ones","_law_rows","_law_mates","_law_others"],kd:=[.cell,.cell,.cell,.cell,.cell,.local,.local,.local,.local],gl:=[15,39,44],df:=Θ},body:=VU}
noncomputable def VW:List IS:=
 [(.asg (.nm 4) (.idx (.v 2) (.call 39 [(.v 0),(.v 1),(.bi .len [(.v 2)])]))),(.asg (.nm 5) (.idx (.lst [(.c (.int 0)),(.c (.int 10007)),(.v 3),(.bin .add (.v 3) (.c (.int 1))),(.call 39 [(.v 0),(.bin .add (.v 1) (.c (.int 1))),(.c (.int 10008))])]) (.call 39 [(.v 0),(.bin .add (.v 1) (.c (.int 2))),(.c (.int 5))]))),(.ret (.idx (.lst [(.tup [(.c (.str "face")),(.v 4)]),(.tup [(.c (.str "lot"))]),(.tup [(.c (.str "share")),(.v 4),(.lst [(.tup [(.c (.int 3)),(.v 5)]),(.tup [(.c (.int 9)),(.bin .sub (.c (.int 10007)) (.v 5))])])])]) (.call 39 [(.v 0),(.bin .add (.v 1) (.c (.int 3))),(.c (.int 3))])))]
noncomputable def VX:Fn:={np:=4,G:={N:=["_law_script","_law_k","_law_faces","_law_place_here","_law_face_here","_law_share_here"],kd:=Τ 6 .local,gl:=[39,0],df:=Θ},body:=VW}
noncomputable def VY:List IS:=
 [(.asg (.nm 4) (.sl (.lst [(.v 3),(.bin .add (.v 3) (.c (.int 1))),(.call 39 [(.v 0),(.v 1),(.c (.int 10007))])]) Φ (Δ (.call 39 [(.v 0),(.bin .add (.v 1) (.c (.int 1))),(.c (.int 4))])))),(.asg (.nm 4) (.sset (.bin .add (.lst [(.c (.int 0))]) (.comp {N:=["_law_cut"],kd:=[.local],gl:=[],df:=Ξ} [] (.nm 0) (.val (.v 4)) [(.cmp .lt (.v 0) (.c (.int 10007)))] (.v 0))))),(.asg (.nm 5) (.lst [(.lst []),(.lst []),(.lst [])])),(.JH (.tp [(.nm 6),(.nm 7)]) (.zip (.v 4) (.bin .add (.sl (.v 4) (Δ (.c (.int 1))) Φ) (.lst [(.c (.int 10007))]))) Qw),(.ret (.tup [(.lst [(.tup [(.idx (.v 2) (.c (.int 0))),(.idx (.v 5) (.c (.int 0)))]),(.tup [(.idx (.v 2) (.c (.int 1))),(.idx (.v 5) (.c (.int 1)))])]),(.idx (.v 5) (.c (.int 2)))]))]
noncomputable def VZ:Fn:={np:=4,G:={N:=["_law_script","_law_k","_law_faces","_law_place_here","_law_cuts","_law_runs","_law_low","_law_high","_law_run"],kd:=Τ 9 .local,gl:=[39,4,12,17],df:=Θ},body:=VY}
noncomputable def V0:List IS:=
 [(.asg (.nm 1) (.c (.str "abcdefghijklmnopqrstuvwxyz0123456789"))),(.ret (.L9 .join (.c (.str "")) [(.comp {N:=["_law_letters","_law_script","_law_j"],kd:=[.cell,.cell,.local],gl:=[39],df:=Ξ} [1,0] (.nm 2) (.JP (.c (.int 12))) [] (.idx (.v 0) (.call 39 [(.v 1),(.bin .add (.c (.int 130)) (.v 2)),(.c (.int 36))])))]))]
noncomputable def V1:Fn:={np:=1,G:={N:=["_law_script","_law_letters"],kd:=[.cell,.cell],gl:=[15],df:=Θ},body:=V0}
noncomputable def V2:List IS:=
 [(.ret (.bin .sub (.bin .mul (.call 39 [(.v 0),(.c (.int 145)),(.c (.int 20000))]) (.c (.int 99999))) (.c (.int 999900000))))]
noncomputable def V3:Fn:={np:=1,G:={N:=["_law_script"],kd:=[.local],gl:=[39],df:=Θ},body:=V2}
noncomputable def V4:List IS:=
 [(.asg (.nm 3) (.call 49 [(.v 0)])),(.asg (.nm 4) (.call 50 [(.v 0)])),(.asg (.nm 5) (.call 40 [(.v 0),(.c (.int 50)),(.c (.int 4))])),(.asg (.nm 6) (.call 41 [(.v 0),(.c (.int 100))])),(.asg (.nm 7) (.call 42 [(.v 6),(.v 2)])),(.asg (.nm 8) (.lst [])),(.asg (.nm 9) (.c (.int 3))),(.JH (.nm 10) (.JP (.call 39 [(.v 0),(.c (.int 300)),(.c (.int 4))])) RX),(.asg (.nm 13) (.tup [(.v 6),(.idx (.v 5) (.call 39 [(.v 0),(.c (.int 149)),(.c (.int 4))])),(.v 8),(.call 48 [(.v 0),(.c (.int 281)),(.v 5),(.v 7)])])),(.ret (.tup [(.call 46 [(.v 0),(.c (.int 160)),(.v 1),(.v 3),(.v 4)]),(.v 13)]))]
noncomputable def V5:Fn:={np:=3,G:={N:=["_law_script","_law_names_here","_law_number","_law_stem_here","_law_center_here","_law_faces","_law_salt_here","_law_place_here","_law_rules","_law_left","_law_i","_law_many","_law_conds","_law_switch_here"],kd:=[.cell,.cell,.local,.cell,.cell,.local,.local,.local,.local,.local,.cell,.local,.local,.local],gl:=[49,50,40,41,42,15,39,2,47,48,46],df:=Θ},body:=V4}
noncomputable def V6:List IS:=
 [(.asg (.nm 2) (.call 49 [(.v 0)])),(.asg (.nm 3) (.bin .sub (.bin .add (.call 50 [(.v 0)]) (.call 39 [(.v 0),(.bin .add (.v 1) (.c (.int 1))),(.c (.int 6))])) (.c (.int 2)))),(.asg (.nm 4) (.lst [(.c .Jt),(.sl (.v 2) Φ (Δ (.call 39 [(.v 0),(.v 1),(.c (.int 13))]))),(.bin .add (.sl (.v 2) Φ (Δ (.call 39 [(.v 0),(.bin .add (.v 1) (.c (.int 3))),(.c (.int 8))]))) (.c (.str "q"))),(.v 3)])),(.ret (.idx (.bin .add (.v 4) (.lst [(.bin .pow (.c (.int 10)) (.c (.int 9))),(.bin .sub (.c (.int 0)) (.bin .pow (.c (.int 10)) (.c (.int 9)))),(.v 3)])) (.call 39 [(.v 0),(.bin .add (.v 1) (.c (.int 2))),(.c (.int 7))])))]
noncomputable def V7:Fn:={np:=2,G:={N:=["_law_script","_law_k","_law_stem_here","_law_number","_law_some"],kd:=Τ 5 .local,gl:=[49,50,39],df:=Θ},body:=V6}
noncomputable def b53:List IS:=
 [(.asg (.tp [(.nm 3),(.nm 4),(.nm 5)]) (.v 1)),(.JJ (.Lf (.cmp .eq (.v 4) (.c (.str "in"))) (.cmp .eq (.v 4) (.c (.str "out")))) [(.asg (.nm 6) (.c (.bl Ξ))),(.JH (.tp [(.nm 7),(.nm 8)]) (.val (.v 0)) [(.JJ (.cmp .eq (.v 7) (.v 3)) [(.asg (.nm 6) (.bi .any [(.comp {N:=["_law_marks","_law_row"],kd:=[.cell,.local],gl:=[9],df:=Ξ} [2] (.nm 1) (.val (.v 8)) [] (.bi .all [(.comp {N:=["_law_marks","_law_other"],kd:=[.cell,.local],gl:=[53],df:=Ξ} [0] (.nm 1) (.val (.v 1)) [] (.call 53 [(.lst []),(.v 1),(.v 0)]))]))]))] [])]),(.ret (.cmp .eq (.v 6) (.cmp .eq (.v 4) (.c (.str "in")))))] []),(.asg (.nm 9) (.c .Jt)),(.JH (.tp [(.nm 7),(.nm 10)]) (.val (.v 2)) [(.JJ (.cmp .eq (.v 7) (.v 3)) [(.asg (.nm 9) (.v 10))] [])]),(.JJ (.Lf (.cmp .eq (.v 4) (.c (.str "is"))) (.cmp .eq (.v 4) (.c (.str "not")))) [(.ret (.cmp .eq (.cmp .M3 (.v 9) (.v 5)) (.cmp .eq (.v 4) (.c (.str "is")))))] []),(.JJ (.cmp .eq (.v 4) (.c (.str "begins"))) [(.ret (.JX (.Kz (.v 9) .str) (.bi .any [(.comp {N:=["_law_thing","_law_other"],kd:=[.cell,.local],gl:=[],df:=Ξ} [9] (.nm 1) (.val (.v 5)) [] (.L9 .starts (.v 0) [(.v 1)]))])))] []),(.JJ (.cmp .eq (.v 4) (.c (.str "least"))) [(.ret (.JX (.Kz (.v 9) .int) (.cmp .ge (.v 9) (.idx (.v 5) (.c (.int 0))))))] []),(.JJ (.cmp .eq (.v 4) (.c (.str "most"))) [(.ret (.JX (.Kz (.v 9) .int) (.cmp .le (.v 9) (.idx (.v 5) (.c (.int 0))))))] []),(.ret (.cmp .eq (.cmp .Lh (.v 9) (.c .Jt)) (.cmp .eq (.v 4) (.c (.str "has")))))]
noncomputable def Nw:Fn:={np:=3,G:={N:=["_law_groups_here","_law_cond_here","_law_marks","_law_name","_law_word","_law_things","_law_inside","_law_own","_law_rows","_law_thing","_law_value"],kd:=[.local,.local,.cell,.local,.local,.local,.local,.local,.local,.cell,.local],gl:=[10,14,11,8],df:=Θ},body:=b53}
noncomputable def b54:List IS:=
 Tx
noncomputable def V8:Fn:={np:=2,G:={N:=["_law_stages","_law_day","_law_share_here","_law_begin","_law_places"],kd:=Τ 5 .local,gl:=[],df:=Θ},body:=b54}
noncomputable def b55:List IS:=
 [(.JJ (.cmp .eq (.idx (.v 0) (.c (.int 0))) (.c (.str "face"))) [(.ret (.idx (.v 0) (.c (.int 1))))] []),(.JJ (.cmp .eq (.idx (.v 0) (.c (.int 0))) (.c (.str "share"))) [(.JJ (.cmp .lt (.v 2) (.call 54 [(.idx (.v 0) (.c (.int 2))),(.v 3)])) [(.ret (.idx (.v 0) (.c (.int 1))))] []),(.ret (.c .Jt))] []),(.JH (.tp [(.nm 4),(.nm 5)]) (.val (.idx (.v 1) (.c (.int 0)))) [(.JH (.tp [(.nm 6),(.nm 7)]) (.val (.v 5)) [(.JJ (.chain .le .lt (.v 6) (.v 2) (.v 7)) [(.ret (.v 4))] [])])]),(.ret (.c .Jt))]
noncomputable def PU:Fn:={np:=4,G:={N:=["_law_outcome_here","_law_allot_here","_law_place_here","_law_day","_law_face_here","_law_run","_law_low","_law_high"],kd:=Τ 8 .local,gl:=[54],df:=Θ},body:=b55}
noncomputable def b56:List IS:=
 L2.Fr.Nt 56
noncomputable def V9:Fn:={np:=2,G:={N:=["_law_found","_law_due_here"],kd:=[.local,.local],gl:=[14,16,11,8,6,5,0,9,17],df:=Θ},body:=b56}
noncomputable def b57:List IS:=
 L2.Fr.Nu 57 "_law_part"
noncomputable def V':Fn:={np:=1,G:={N:=["_law_thing"],kd:=[.local],gl:=[14,5,6],df:=Θ},body:=b57}
noncomputable def Wa:List IS:=
 [(.JH (.tp [(.nm 5),(.nm 6)]) (.val (.idx (.v 1) (.c (.int 2)))) Nv),(.ret (.idx (.v 1) (.c (.int 1))))]
noncomputable def Wb:Fn:={np:=5,G:={N:=["_law_groups_here","_law_switch_here","_law_day","_law_marks","_law_place_here","_law_conds","_law_outcome_here","_law_face_here"],kd:=[.cell,.local,.local,.cell,.local,.local,.local,.local],gl:=[9,55],df:=Θ},body:=Wa}
noncomputable def Wc:List IS:=
 [(.asg (.nm 4) (.lst [(.c (.int 0))])),(.JH (.tp [(.nm 5),(.nm 6)]) (.val (.idx (.v 1) (.c (.int 2)))) NL),(.JH (.tp [(.nm 7),(.nm 8)]) (.val (.idx (.idx (.v 1) (.c (.int 3))) (.c (.int 0)))) [(.JH (.tp [(.nm 9),(.nm 10)]) (.val (.v 8)) OK)]),(.asg (.nm 4) (.sset (.bin .add (.v 4) (.lst [(.c (.int 10007))])))),(.asg (.nm 11) .K3),(.JH (.tp [(.nm 9),(.nm 10)]) (.zip (.v 4) (.sl (.v 4) (Δ (.c (.int 1))) Φ)) Qu),(.ret (.comp X7 [11] (.nm 1) (.val (.bi .sorted [(.v 11)])) [] (.tup [(.v 1),(.K4 (.v 0) (.v 1))])))]
noncomputable def Wd:Fn:={np:=4,G:={N:=["_law_groups_here","_law_switch_here","_law_day","_law_marks","_law_begins","_law_conds","_law_outcome_here","_law_face_here","_law_run","_law_low","_law_high","_law_counts"],kd:=[.local,.local,.local,.local,.local,.local,.local,.local,.local,.local,.local,.cell],gl:=[54,4,12,17,58],df:=Θ},body:=Wc}
noncomputable def We:List IS:=
 [(.asg (.nm 1) (.call 40 [(.v 0),(.c (.int 0)),(.c (.int 2))])),(.asg (.nm 2) (.call 39 [(.v 0),(.c (.int 147)),(.c (.int 12))])),(.asg (.tp [(.nm 3),(.nm 4)]) (.call 51 [(.v 0),(.v 1),(.call 43 [(.v 0),(.c (.int 120))])])),(.asg (.nm 5) (.call 57 [(.tup [(.v 3),(.v 4)])])),(.JH (.nm 6) (.JP (.c (.int 4))) RY),(.ret (.call 56 [(.v 5),(.tup [(.v 3),(.v 4)])]))]
noncomputable def TN:Fn:={np:=1,G:={N:=["_law_script","_law_names_here","_law_day","_law_groups_here","_law_switch_here","_law_handed","_law_j","_law_things","_law_marks","_law_found"],kd:=[.cell,.cell,.local,.local,.local,.local,.cell,.cell,.local,.local],gl:=[40,39,51,43,57,15,38,5,56,59],df:=Θ},body:=We}
noncomputable def T:Tb:=fun n=>match n with
 |22=>Δ Yd
 |23=>Δ Tz
 |24=>Δ TB
 |25=>Δ TC
 |26=>Δ Vx
 |27=>Δ R4
 |28=>Δ TF
 |29=>Δ TH
 |30=>Δ TJ
 |31=>Δ Vy
 |32=>Δ Qx
 |33=>Δ VA
 |34=>Δ TK
 |35=>Δ VC
 |36=>Δ VE
 |37=>Δ VG
 |38=>Δ VI
 |39=>Δ VL
 |40=>Δ TL
 |41=>Δ VN
 |42=>Δ VP
 |43=>Δ Sa
 |44=>Δ VR
 |45=>Δ VT
 |46=>Δ VV
 |47=>Δ VX
 |48=>Δ VZ
 |49=>Δ V1
 |50=>Δ V3
 |51=>Δ V5
 |52=>Δ V7
 |53=>Δ Nw
 |54=>Δ V8
 |55=>Δ PU
 |56=>Δ V9
 |57=>Δ V'
 |58=>Δ Wb
 |59=>Δ Wd
 |60=>Δ TN
 |_=>Φ
theorem c22:iJ Z Yd ["thing"] (top 1)=Θ:=by decide +kernel
theorem c23:iJ Z Tz ["run","place"] (top 4)=Θ:=by decide +kernel
theorem c24:iJ Z TB ["allot","place"] (top 6)=Θ:=by decide +kernel
theorem c25:iJ Z TC ["marks","name"] (top 8)=Θ:=by decide +kernel
theorem c26:iJ Z Vx ["word","things","mark"] (top 10)=Θ:=by decide +kernel
theorem c27:iJ Z R4 ["groups","cond","marks"] (top 11)=Θ:=by decide +kernel
theorem c28:iJ Z TF ["groups","conds","marks"] (top 12)=Θ:=by decide +kernel
theorem c29:iJ Z TH ["groups","rows","marks"] (top 13)=Θ:=by decide +kernel
theorem c30:iJ Z TJ ["groups","name","marks"] (top 14)=Θ:=by decide +kernel
theorem c31:iJ Z Vy ["stages","day"] (top 16)=Θ:=by decide +kernel
theorem c32:iJ Z Qx ["outcome","allot","day","place"] (top 17)=Θ:=by decide +kernel
theorem c33:iJ Z VA ["groups","switch","marks"] (top 18)=Θ:=by decide +kernel
theorem c34:iJ Z TK ["switch","day","numbers","place"] (top 19)=Θ:=by decide +kernel
theorem c35:iJ Z VC ["switch","day"] (top 21)=Θ:=by decide +kernel
theorem c36:iJ Z VE ["cuts"] (top 22)=Θ:=by decide +kernel
theorem c37:iJ Z VG ["groups","switch","day","marks","stretches"] (top 23)=Θ:=by decide +kernel
theorem c38:iJ Z VI ["groups","switch","day","marks"] (top 24)=Θ:=by decide +kernel
theorem c39:iJ Z VL ["_law_script","_law_k","_law_many"] (top 26)=Θ:=by decide +kernel
theorem c40:iJ Z TL ["_law_script","_law_k","_law_many"] (top 27)=Θ:=by decide +kernel
theorem c41:iJ Z VN ["_law_script","_law_k"] (top 28)=Θ:=by decide +kernel
theorem c42:iJ Z VP ["_law_salt_here","_law_number"] (top 29)=Θ:=by decide +kernel
theorem c43:iJ Z Sa ["_law_script","_law_k"] (top 30)=Θ:=by decide +kernel
theorem c44:iJ Z VR ["_law_script"] (top 31)=Θ:=by decide +kernel
theorem c45:iJ Z VT ["_law_script","_law_k","_law_names_here","_law_inner","_law_stem_here","_law_center_here"] (top 32)=Θ:=by decide +kernel
theorem c46:iJ Z VV ["_law_script","_law_k","_law_names_here","_law_stem_here","_law_center_here"] (top 33)=Θ:=by decide +kernel
theorem c47:iJ Z VX ["_law_script","_law_k","_law_faces","_law_place_here"] (top 34)=Θ:=by decide +kernel
theorem c48:iJ Z VZ ["_law_script","_law_k","_law_faces","_law_place_here"] (top 35)=Θ:=by decide +kernel
theorem c49:iJ Z V1 ["_law_script"] (top 36)=Θ:=by decide +kernel
theorem c50:iJ Z V3 ["_law_script"] (top 37)=Θ:=by decide +kernel
theorem c51:iJ Z V5 ["_law_script","_law_names_here","_law_number"] (top 38)=Θ:=by decide +kernel
theorem c52:iJ Z V7 ["_law_script","_law_k"] (top 39)=Θ:=by decide +kernel
theorem c53:iJ Z Nw ["_law_groups_here","_law_cond_here","_law_marks"] (top 40)=Θ:=by decide +kernel
theorem c54:iJ Z V8 ["_law_stages","_law_day"] (top 41)=Θ:=by decide +kernel
theorem c55:iJ Z PU ["_law_outcome_here","_law_allot_here","_law_place_here","_law_day"] (top 42)=Θ:=by decide +kernel
theorem c56:iJ Z V9 ["_law_found","_law_due_here"] (top 43)=Θ:=by decide +kernel
theorem c57:iJ Z V' ["_law_thing"] (top 44)=Θ:=by decide +kernel
theorem c58:iJ Z Wb ["_law_groups_here","_law_switch_here","_law_day","_law_marks","_law_place_here"] (top 45)=Θ:=by decide +kernel
theorem c59:iJ Z Wd ["_law_groups_here","_law_switch_here","_law_day","_law_marks"] (top 46)=Θ:=by decide +kernel
theorem Ye:iJ Z TN ["_law_script"] (top 47)=Θ:=by decide +kernel
theorem EK:∀n x,Z.name n=Δ x->x≠"__name__"/\(x == ("__debug__" : Str))=Ξ:=by
 have h:(jm++Z.nm).all (fun x=>!(x == "__name__")&&!(x == "__debug__"))=Θ:=by decide +kernel
 intro n x hx;have:=R_.mp h x (aak hx);simpa using this
@[elab_as_elim] theorem Lp {P:List Ψ->Prop}{n:Nat} (us:List Ψ) (e:us.length=n+1) (h:∀(x:Ψ) (us:List Ψ),us.length=n->P (x::us)):P us:=by
 cases us with
 |nil=>cases e
 |cons x us=>exact h x us (Nat.succ.inj e)
@[elab_as_elim] theorem Qy {P:List Ψ->Prop} (us:List Ψ) (e:us.length=0) (h:P []):P us:=by
 cases us with
 |nil=>exact h
 |cons x us=>cases e
theorem ln1 {fd:Ο}{ps:List Str}(h:∀x0:Ψ,bindArgs fd ⟨[x0],[]⟩=pure (ps.zip [x0]))(us:List Ψ)(e:us.length=1):bindArgs fd ⟨us,[]⟩=pure (ps.zip us):=Lp us e fun x0 us e=>Qy us e (h x0)
theorem ln2 {fd:Ο}{ps:List Str}(h:∀x0 x1:Ψ,bindArgs fd ⟨[x0,x1],[]⟩=pure (ps.zip [x0,x1]))(us:List Ψ)(e:us.length=2):bindArgs fd ⟨us,[]⟩=pure (ps.zip us):=Lp us e fun x0 us e=>Lp us e fun x1 us e=>Qy us e (h x0 x1)
theorem ln3 {fd:Ο}{ps:List Str}(h:∀x0 x1 x2:Ψ,bindArgs fd ⟨[x0,x1,x2],[]⟩=pure (ps.zip [x0,x1,x2]))(us:List Ψ)(e:us.length=3):bindArgs fd ⟨us,[]⟩=pure (ps.zip us):=Lp us e fun x0 us e=>Lp us e fun x1 us e=>Lp us e fun x2 us e=>Qy us e (h x0 x1 x2)
theorem ln4 {fd:Ο}{ps:List Str}(h:∀x0 x1 x2 x3:Ψ,bindArgs fd ⟨[x0,x1,x2,x3],[]⟩=pure (ps.zip [x0,x1,x2,x3]))(us:List Ψ)(e:us.length=4):bindArgs fd ⟨us,[]⟩=pure (ps.zip us):=Lp us e fun x0 us e=>Lp us e fun x1 us e=>Lp us e fun x2 us e=>Lp us e fun x3 us e=>Qy us e (h x0 x1 x2 x3)
theorem ln5 {fd:Ο}{ps:List Str}(h:∀x0 x1 x2 x3 x4:Ψ,bindArgs fd ⟨[x0,x1,x2,x3,x4],[]⟩=pure (ps.zip [x0,x1,x2,x3,x4]))(us:List Ψ)(e:us.length=5):bindArgs fd ⟨us,[]⟩=pure (ps.zip us):=Lp us e fun x0 us e=>Lp us e fun x1 us e=>Lp us e fun x2 us e=>Lp us e fun x3 us e=>Lp us e fun x4 us e=>Qy us e (h x0 x1 x2 x3 x4)
theorem ln6 {fd:Ο}{ps:List Str}(h:∀x0 x1 x2 x3 x4 x5:Ψ,bindArgs fd ⟨[x0,x1,x2,x3,x4,x5],[]⟩=pure (ps.zip [x0,x1,x2,x3,x4,x5]))(us:List Ψ)(e:us.length=6):bindArgs fd ⟨us,[]⟩=pure (ps.zip us):=Lp us e fun x0 us e=>Lp us e fun x1 us e=>Lp us e fun x2 us e=>Lp us e fun x3 us e=>Lp us e fun x4 us e=>Lp us e fun x5 us e=>Qy us e (h x0 x1 x2 x3 x4 x5)
theorem dfo {f:Nat}{x:Str}{fn:Fn}{st:Stmt}{fa:Ω}{ps:List Str}{K:W.Frag}{h:Heap}{mg:Str->Option Ψ}{oc:Ψ}{od an:Option Ω}{sl:Array (Option Ψ)}{kV dc pm cd ct:Ψ}(c:iJ Z fn ps st=Θ)(hT:T f=Δ fn)(b:∀(kV dc pm:Ψ)(an:Option Ω)(cd ct:Ψ)(us:List Ψ),us.length=ps.length->bindArgs (W.fnOf x x (ke st) (jQ st) (iT st) .none kV dc pm an cd ct) ⟨us,[]⟩=pure (ps.zip us))(X:K.In h)(G:h.Ns Η mg)
  (a:W.nsIn K Η x=Δ (Δ (.ref fa))) (l:K.lookup fa=Δ ⟨oc,od,.func (W.fnOf x x (ke st) (jQ st) (iT st) .none kV dc pm an cd ct),sl⟩) (e:W.codeIn K cd x=Θ) (k:W.keepIn K (.ref fa)=Θ):Jz K mg Z T f x:=⟨fn,st,fa,_,ps,hT,rY l e k,W.mg_of X G a,(rY l e k).binds b,rG c⟩
noncomputable def EL:Nat:=60
noncomputable def Bn:Str:="_law_script"
theorem all_mk {l:PySem.W.OpenLaw}{w:Β}{fa:Ω}{K:W.Frag}{h:Heap}{mg:Str->Option Ψ}{Wg:Ω}{Wh Sb:Option Ω}{Wi:Array (Option Ψ)}{Wj Sd Sf Sh PV Sk:Ψ}{t21:Tok}(X:K.In h)(G:h.Ns Η mg)(hfa:mg "law" = Δ (.ref fa))
  (t22:Jz K mg Z T 22 "is_whole")
  (t23:Jz K mg Z T 23 "run_index")
  (t24:Jz K mg Z T 24 "face_at")
  (t25:Jz K mg Z T 25 "mark_of")
  (t26:Jz K mg Z T 26 "mark_holds")
  (t27:Jz K mg Z T 27 "cond_holds")
  (t28:Jz K mg Z T 28 "conds_hold")
  (t29:Jz K mg Z T 29 "in_rows")
  (t30:Jz K mg Z T 30 "in_group")
  (t31:Jz K mg Z T 31 "share_at")
  (t32:Jz K mg Z T 32 "outcome_face")
  (t33:Jz K mg Z T 33 "rules_holding")
  (t34:Jz K mg Z T 34 "decided_among")
  (t35:Jz K mg Z T 35 "place_cuts")
  (t36:Jz K mg Z T 36 "stretches_between")
  (t37:Jz K mg Z T 37 "stretch_faces")
  (t38:Jz K mg Z T 38 "face_counts")
  (t39:Jz K mg Z T 39 "_law_draw")
  (t40:Jz K mg Z T 40 "_law_names")
  (t41:Jz K mg Z T 41 "_law_salt")
  (t42:Jz K mg Z T 42 "_law_place")
  (t43:Jz K mg Z T 43 "_law_visitor_number")
  (t44:Jz K mg Z T 44 "_law_group_names")
  (t45:Jz K mg Z T 45 "_law_cond")
  (t46:Jz K mg Z T 46 "_law_groups")
  (t47:Jz K mg Z T 47 "_law_outcome")
  (t48:Jz K mg Z T 48 "_law_allot")
  (t49:Jz K mg Z T 49 "_law_stem")
  (t50:Jz K mg Z T 50 "_law_center")
  (t51:Jz K mg Z T 51 "_law_switch")
  (t52:Jz K mg Z T 52 "_law_any_thing")
  (t53:Jz K mg Z T 53 "_law_cond_holds")
  (t54:Jz K mg Z T 54 "_law_share")
  (t55:Jz K mg Z T 55 "_law_face")
  (t56:Jz K mg Z T 56 "_law_same")
  (t57:Jz K mg Z T 57 "_law_copy")
  (t58:Jz K mg Z T 58 "_law_decided_at")
  (t59:Jz K mg Z T 59 "_law_due")
  (a60:W.nsIn K Η "law" = Δ (Δ (.ref Wg))) (l60:K.lookup Wg=Δ ⟨Wj,Wh,.func (W.fnOf "law" "law" (ke (top 47)) (jQ (top 47)) (iT (top 47)) .none Sd Sf Sh Sb PV Sk),Wi⟩) (e60:W.codeIn K PV "law" = Θ) (k60:W.keepIn K (.ref Wg)=Θ)
  (q21:W.nsIn K Η "PLACES" = Δ (Δ (.int 10007 t21)))
  (z0:W.nsIn K Η "len" = Δ Φ)
  (z1:W.nsIn K Η "sum" = Δ Φ)
  (z2:W.nsIn K Η "min" = Δ Φ)
  (z3:W.nsIn K Η "max" = Δ Φ)
  (z4:W.nsIn K Η "sorted" = Δ Φ)
  (z5:W.nsIn K Η "list" = Δ Φ)
  (z6:W.nsIn K Η "tuple" = Δ Φ)
  (z7:W.nsIn K Η "ord" = Δ Φ)
  (z8:W.nsIn K Η "int" = Δ Φ)
  (z9:W.nsIn K Η "all" = Δ Φ)
  (z10:W.nsIn K Η "any" = Δ Φ)
  (z11:W.nsIn K Η "str" = Δ Φ)
  (z12:W.nsIn K Η "set" = Δ Φ)
  (z13:W.nsIn K Η "abs" = Δ Φ)
  (z14:W.nsIn K Η "isinstance" = Δ Φ)
  (z15:W.nsIn K Η "range" = Δ Φ)
  (z16:W.nsIn K Η "bool" = Δ Φ)
  (z17:W.nsIn K Η "zip" = Δ Φ)
  (z18:W.nsIn K Η "reversed" = Δ Φ)
  (z19:W.nsIn K Η "dict" = Δ Φ)
  (z20:W.nsIn K Η "enumerate" = Δ Φ) :
  ∃fd:Ο,(∀(s:Α) (v:Ψ),BindsTo s fd ⟨[v],[]⟩ [(Bn,v)])/\∀base:Heap,K.In base->base.Ns Η mg->Lb l.prog w K mg base (NJ l.prog w) (16+2+1) fa fd [Bn] (Qs K (bK T (16+1)) EL [Bn]):=by
 have e:=hfa.symm.trans (PySem.W.mg_of X G a60);cases e;have t:ME K mg Z T:=by
  constructor
  case Pr=>
   exact EK
  case blt=>
   exact fun n x hx=>by
    have key:∀y∈jm,mg y=Φ:=by
     intro y hy;simp only[jm,k_,I_,or_false]at hy;rcases hy with rfl|rfl|rfl|rfl|rfl|rfl|rfl|rfl|rfl|rfl|rfl|rfl|rfl|rfl|rfl|rfl|rfl|rfl|rfl|rfl|rfl
     ·exact L_ X G z0
     ·exact L_ X G z1
     ·exact L_ X G z2
     ·exact L_ X G z3
     ·exact L_ X G z4
     ·exact L_ X G z5
     ·exact L_ X G z6
     ·exact L_ X G z7
     ·exact L_ X G z8
     ·exact L_ X G z9
     ·exact L_ X G z10
     ·exact L_ X G z11
     ·exact L_ X G z12
     ·exact L_ X G z13
     ·exact L_ X G z14
     ·exact L_ X G z15
     ·exact L_ X G z16
     ·exact L_ X G z17
     ·exact L_ X G z18
     ·exact L_ X G z19
     ·exact L_ X G z20
    exact key x (aak hx)
  case cst=>
   exact fun n d x hm hx=>by
    have Nc:(n,d)∈([(21,(.int 10007))]:List (Nat×D)):=hm;simp only[k_,I_,or_false,Prod.mk.injEq]at Nc;rcases Nc with⟨rfl,rfl⟩
    ·cases hx;exact⟨_,.int _,PySem.W.mg_of X G q21,⟨_,rfl⟩,fun _ _=>.int _⟩
  case fns=>
   exact fun f hf x hx=>by
    have Tq:f∈([22,23,24,25,26,27,28,29,30,31,32,33,34,35,36,37,38,39,40,41,42,43,44,45,46,47,48,49,50,51,52,53,54,55,56,57,58,59,60]:List Nat):=hf;simp only[k_,I_,or_false]at Tq;rcases Tq with rfl|rfl|rfl|rfl|rfl|rfl|rfl|rfl|rfl|rfl|rfl|rfl|rfl|rfl|rfl|rfl|rfl|rfl|rfl|rfl|rfl|rfl|rfl|rfl|rfl|rfl|rfl|rfl|rfl|rfl|rfl|rfl|rfl|rfl|rfl|rfl|rfl|rfl|rfl
    ·cases hx;exact t22
    ·cases hx;exact t23
    ·cases hx;exact t24
    ·cases hx;exact t25
    ·cases hx;exact t26
    ·cases hx;exact t27
    ·cases hx;exact t28
    ·cases hx;exact t29
    ·cases hx;exact t30
    ·cases hx;exact t31
    ·cases hx;exact t32
    ·cases hx;exact t33
    ·cases hx;exact t34
    ·cases hx;exact t35
    ·cases hx;exact t36
    ·cases hx;exact t37
    ·cases hx;exact t38
    ·cases hx;exact t39
    ·cases hx;exact t40
    ·cases hx;exact t41
    ·cases hx;exact t42
    ·cases hx;exact t43
    ·cases hx;exact t44
    ·cases hx;exact t45
    ·cases hx;exact t46
    ·cases hx;exact t47
    ·cases hx;exact t48
    ·cases hx;exact t49
    ·cases hx;exact t50
    ·cases hx;exact t51
    ·cases hx;exact t52
    ·cases hx;exact t53
    ·cases hx;exact t54
    ·cases hx;exact t55
    ·cases hx;exact t56
    ·cases hx;exact t57
    ·cases hx;exact t58
    ·cases hx;exact t59
    ·cases hx;exact dfo Ye rfl (fun _ _ _ _ _ _=>ln1 fun _=>rfl) X G a60 l60 e60 k60
  case Qr=>
   exact fun f hf=>absurd (show f∈([]:List Nat) from hf) (by simp)
 exact⟨PySem.W.fnOf "law" "law" (ke (top 47)) (jQ (top 47)) (iT (top 47)) .none Sd Sf Sh Sb PV Sk,fun s v=>.of_eq rfl,fun base _ _=>Eo t 16 (by decide) (f:=60) (fn:=TN) rfl (rY (st:=top 47) l60 e60 k60) (rG Ye)⟩
end Law
namespace L2
open PySem PySem.Spec PyProof.Rows PySem.SeqAt
namespace Fr
noncomputable def one (c:Nat):Str:=⟨#[c]⟩
noncomputable def J0 (cs:List Nat):Str:=⟨cs.toArray⟩
def low (c:Nat):Prop:=97<=c/\c<=122
theorem yT:(Ρ "abcdefghijklmnopqrstuvwxyz").cps.toList=List.range' 97 26:=by decide +kernel
theorem uA:(Ρ "abcdefghijklmnopqrstuvwxyz").length=26:=by decide +kernel
theorem oG (h0:0<=i)(h1:i < 26):iQ (.str "abcdefghijklmnopqrstuvwxyz") (.int i)=.ok (.str (one (97+i.toNat))):=by
 rw[Ev.RP h0 (by rw[uA];exact h1) (by rw[uA];decide),yT];have:(List.range' 97 26).getD i.toNat 0=97+i.toNat:=by rw[Z_,List.getElem?_range' (by omega)];show 97+1*i.toNat=_;omega
 rw[this];rfl
theorem kn (cs:List Nat):(J0 cs).length=cs.length:=by unfold J0 Str.length;simp
theorem qm (c:Nat):(one c).length=1:=rfl
theorem rL (h0:0<=j)(h1:j<=cs.length):Txt.slice (J0 cs) Φ (Δ j)=J0 (cs.take j.toNat):=by
 have:=StrLaws.sliceText_to (x:=J0 cs) (j:=j) ⟨h0,by show j<=(cs.toArray.toList.length:Nat);simpa using h1⟩;refine this.trans ?_;show(⟨((cs.toArray.toList.drop 0).take (j - 0).toNat).toArray⟩:Str)=⟨(cs.take j.toNat).toArray⟩
 rw[List.toList_toArray,List.drop_zero,Int.sub_zero]
theorem oH (h0:0<=i)(h1:i<=cs.length):Txt.slice (J0 cs) (Δ i) Φ=J0 (cs.drop i.toNat):=by
 have:=StrLaws.sliceText_from (x:=J0 cs) (i:=i) ⟨h0,by show i<=(cs.toArray.toList.length:Nat);simpa using h1⟩;refine this.trans ?_;show(⟨((cs.toArray.toList.drop i.toNat).take ((cs.toArray.toList.length:Int) - i).toNat).toArray⟩:Str)=⟨(cs.drop i.toNat).toArray⟩
 rw[List.toList_toArray,List.take_of_length_le (by rw[aah];omega)]
theorem Bo (a b:List Nat):J0 a++J0 b=J0 (a++b):=by
 show(⟨a.toArray++b.toArray⟩:Str)=⟨(a++b).toArray⟩
 rw[List.append_toArray]
theorem nA (c:Nat):one c=J0 [c]:=rfl
theorem k8 (h:a.length+b.length<=1000):KN .add (.str (J0 a)) (.str (J0 b))=.ok (.str (J0 (a++b))):=by rw[Ev.bM,Ev.oE (by rw[kn,kn];omega),Bo];rfl
theorem vX (cs:List Nat):jZ (J0 cs)=(cs.map one).map .str:=by unfold jZ J0 one;rw[K_];rfl
theorem HX {β:Type}{body:D->Ev->Res Fl}(f:β->Nat->β)(st:β->Ev->Prop)(cs:List Nat)(b:β)(τ:Ev)(h:st b τ)(hb:∀(c:Nat)(b:β)(τ:Ev),c∈cs->st b τ->∃τ',body (.str (one c)) τ=.ok (.nx τ')/\st (f b c) τ') :
  ∃τ',forM body ((cs.map one).map .str) τ=.ok (.nx τ')/\st (cs.foldl f b) τ':=by
 have:=Ev.rK (body:=body) f (fun c:Nat=>D.str (one c)) st cs b τ h hb;rw[show(cs.map one).map D.str=cs.map fun c=>D.str (one c) by rw[K_];rfl];exact this
noncomputable def kf (a m:Int)(k:Int)(c:Nat):Int:=(k*a+(c:Nat)) % m
theorem Bp (c:Nat):decide ((one c).length=1)=Θ:=rfl
theorem Bq (c:Nat):(one c).cps.getD 0 0=c:=rfl
end Fr
end L2
namespace Law
open PySem PySem.Spec L2 L2.Fr PyProof.Rows
theorem gx {n:Nat}{ds:List D}(f:Nat)(fn:Fn)(m k:Nat)(body:List IS)(h:T f=Δ fn)(h0:fn.io=Ξ)(h1:fn.np=m)(h2:fn.G.N.length=k)(h3:fn.body=body)(hl:ds.length=m):bK T (n+1) f ds=Iq (jf (bK T n) body (ds.map Δ++Τ (k - m) Φ)) Ev.yM:=Ev.go h h0 h1 h2 h3 hl
noncomputable def OL (ns:List Int)(k:Int):Int:=if 0 < ns.length then ns.getD (k % (ns.length:Int)).toNat 0 % 2147483647 else 0
noncomputable def dr (ns:List Int)(k m:Int):Int:=(OL ns k*(742938285+9973*k*k)+k*630360016) % 2147483647 / 97 % m
theorem G0 (ns:List Int)(k:Int):0<=OL ns k/\OL ns k < 2147483647:=by
 unfold OL;split
 ·exact⟨Int.emod_nonneg _ (by decide),Int.emod_lt_of_pos _ (by decide)⟩
 ·decide
theorem oI (ns:List Int)(k:Int)  (h:0 < m):0<=dr ns k m:=Int.emod_nonneg _ (by omega)
theorem oJ (ns:List Int)(k:Int)  (h:0 < m):dr ns k m < m:=Int.emod_lt_of_pos _ h
theorem jx (n:Nat)(ns:List Int)(k m:Int)(h0:0<=k)(h1:k<=2000)(hm:0 < m):bK T (n+1) 39 [.lst Ξ (ns.map .int),.int k,.int m]=.ok (.int (dr ns k m)):=by
 rw[gx 39 VL 3 5 VJ rfl rfl rfl rfl rfl rfl];unfold VJ;obtain⟨b0,b1⟩:=G0 ns k;unfold dr;have lm:(ns.map D.int).length=ns.length:=i_ _;by_cases h:0 < ns.length
 ·have hd:decide ((0:Int) < (ns.length:Int))=Θ:=G_ (by omega);have c0:=Int.emod_nonneg k (show(ns.length:Int)≠0 by omega);have c1:=Int.emod_lt_of_pos k (show(0:Int) < (ns.length:Int) by omega);have ec:ns.getD (k % (ns.length:Int)).toNat 0 % 2147483647=OL ns k:=by unfold OL;rw[e_ h]
  simp![lm,hd,ec]
 ·have hd:decide ((0:Int) < (ns.length:Int))=Ξ:=S_ (by omega);have ec:OL ns k=0:=by unfold OL;rw[d_ h]
  rw[ec];simp![lm,hd]
theorem LP (n:Nat)(ns:List Int)(k m:Int)(h0:0<=k)(h1:k<=2000)(hm:0 < m):∃r:Int,bK T (n+1) 39 [.lst Ξ (ns.map .int),.int k,.int m]=.ok (.int r)/\0<=r/\r < m:=⟨_,jx n ns k m h0 h1 hm,oI ns k hm,oJ ns k hm⟩
def Sl (cs:List Nat):Prop:=1<=cs.length/\cs.length<=12/\∀c∈cs,low c
noncomputable def Qr (cs:List Nat)(m:Int):Int:=((1+cs.foldl (kf 31 10006) 0)*m+cs.foldl (kf 37 10007) 0) % 10007
noncomputable def Sn (p:Int×Int)(c:Nat):Int×Int:=(kf 31 10006 p.1 c,kf 37 10007 p.2 c)
theorem yU:∀(cs:List Nat) (a b:Int),cs.foldl Sn (a,b)=(cs.foldl (kf 31 10006) a,cs.foldl (kf 37 10007) b)
 |[],a,b=>rfl
 |c::cs,a,b=>by rw[W_,W_,W_];exact yU cs _ _
noncomputable def Wk:List IS:=[(.asg (.nm 2) (.bin .mod (.bin .add (.bin .mul (.v 2) (.c (.int 31))) (.bi .ord [(.v 4)])) (.c (.int 10006)))),(.asg (.nm 3) (.bin .mod (.bin .add (.bin .mul (.v 3) (.c (.int 37))) (.bi .ord [(.v 4)])) (.c (.int 10007))))]
theorem vY (n:Nat)(cs:List Nat)(hm:cs.length<=12)(m:Int)(m0:0<=m)(m1:m<=1000000000):bK T (n+1) 42 [.str (J0 cs),.int m]=.ok (.int (Qr cs m)):=by
 obtain⟨τ',e,s4,rfl⟩:=HX (body:=Ev.turn (bK T n) (.nm 4) Wk) Sn (fun p τ=>∃s4,τ=[Δ (.str (J0 cs)),Δ (.int m),Δ (.int p.1),Δ (.int p.2),s4]) cs (0,0) [Δ (.str (J0 cs)),Δ (.int m),Δ (.int 0),Δ (.int 0),Φ] ⟨Φ,rfl⟩ (by
  rintro c ⟨a,b⟩ τ hc ⟨s4,rfl⟩;refine⟨[Δ (.str (J0 cs)),Δ (.int m),Δ (.int (Sn (a,b) c).1),Δ (.int (Sn (a,b) c).2),Δ (.str (one c))],?_,_,rfl⟩;unfold Wk Sn kf
  simp![Ev.iE,Bp,Bq])
 rw[yU]at e;unfold Wk at e;unfold Qr;rw[gx 42 VP 2 5 VO rfl rfl rfl rfl rfl rfl];unfold VO;simp![vX,kn,e]
end Law
namespace L2
open PySem PySem.Spec PyProof.Rows PySem.SeqAt
namespace Fr
variable {T:Tb}
mutual
noncomputable def pl:Nat->D->Bool
 |n+1,.tup ds=>LC n ds&&decide (ds.length < 1000)
 |n+1,.lst o ds=>!o&&(LC n ds&&decide (ds.length < 1000))
 |_+1,.Jy _ _ _=>Ξ
 |0,_=>Ξ
 |_+1,_=>Θ
noncomputable def LC:Nat->List D->Bool
 |_,[]=>Θ
 |n,d::ds=>pl n d&&LC n ds
end
theorem qo:∀ {ds:List D},LC n ds=Θ->∀d∈ds,pl n d=Θ
 |[],_,d,hd=>by simp at hd
 |e::ds,h,d,hd=>by
  have h':=F_.mp (show(pl n e&&LC n ds)=Θ from h);rcases k_.mp hd with rfl|hd
  ·exact h'.1
  ·exact qo h'.2 d hd
theorem yV:∀(n:Nat) (d:D),pl n d=Θ->er d=d:=by
 intro n
 induction n with
 |zero=>intro d h;cases d<;>cases h
 |succ n ih=>
  have all:∀ds:List D,LC n ds=Θ->Jv ds=ds:=by
   intro ds
   induction ds with
   |nil=>intro _;rfl
   |cons e ds UH=>intro h;have h':=F_.mp (show(pl n e&&LC n ds)=Θ from h);show er e::Jv ds=_;rw[ih e h'.1,UH h'.2]
  intro d h;cases d with
  |tup ds=>have h':=F_.mp (show(LC n ds&&decide (ds.length < 1000))=Θ from h);rw[er,all ds h'.1]
  |lst o ds=>
   have h':=F_.mp (show(!o&&(LC n ds&&decide (ds.length < 1000)))=Θ from h);have h2:=F_.mp h'.2;have ho:o=Ξ:=by simpa using h'.1
   subst ho;rw[er,all ds h2.1]
  |Jy _ _ _=>cases h
  |_=>rfl
theorem yW:∀ {ds:List D},LC n ds=Θ->Jv ds=ds
 |[],_=>rfl
 |e::ds,h=>by have h':=F_.mp (show(pl n e&&LC n ds)=Θ from h);show er e::Jv ds=_;rw[yV n e h'.1,yW h'.2]
theorem oK (ds:List D):jT ds ds=ds.map fun a=>.tup [a,a]:=by
 unfold jT
 induction ds with
 |nil=>rfl
 |cons d ds ih=>rw[List.zipWith_cons_cons,ih];rfl
theorem rM:∀n:Nat,jS (Τ n (D.bl Θ))=Δ (Τ n Θ)
 |0=>rfl
 |n+1=>by rw[List.replicate_succ,List.replicate_succ];show(jS _).map _=_;rw[rM n];rfl
theorem all_true (o:Bool)(n:Nat):jW .all [.lst o (Τ n (D.bl Θ))]=.ok (.bl Θ):=by show(match jS (Τ n (D.bl Θ)) with|some bs=>.ok (.bl (bs.all id))|none=>Jw:Res D)=_;rw[rM];simp
theorem Br (hT:T f=Δ fn)(MY:fn.io=Ξ)(h1:fn.np=2)(h2:fn.G.N.length=2)(h3:fn.body=Nt f):∀(n k:Nat) (d:D),pl n d=Θ->bK T (n+k) f [d,d]=.ok (.bl Θ):=by
 intro n
 induction n with
 |zero=>intro k d h;cases d<;>cases h
 |succ n ih=>
  intro k d h;have fm:∀ds:List D,LC n ds=Θ->iP (jb (bK T (n+k)) (.tp [(.nm 0),(.nm 1)]) [] (.call f [(.v 0),(.v 1)]) [Φ,Φ]) (jT ds ds)=.ok (Τ ds.length (D.bl Θ)):=by
   intro ds hp;rw[oK];refine(Ev.jL (fun a:D=>D.tup [a,a]) (fun _=>D.bl Θ) id ds fun x hx=>?_).trans (by rw[List.map_id,List.map_const']);have K7:=qo hp x hx;have hc:=ih k x K7;have he:=yV n x K7;have e2:Jv [x,x]=[x,x]:=by show [er x,er x]=_;rw[he]
   simp![Ev.iE,hc,e2,he,id]
  rw[show n+1+k=(n+k)+1 by omega,Ev.go hT MY h1 h2 h3 rfl];unfold Nt;cases d with
  |Jt=>rfl
  |bl b=>exact congrArg (fun z:Bool=>(Except.ok (D.bl z):Res D)) (beq_self_eq_true b)
  |int i=>exact congrArg (fun z:Bool=>(Except.ok (D.bl z):Res D)) (beq_self_eq_true i)
  |str x=>exact congrArg (fun z:Bool=>(Except.ok (D.bl z):Res D)) (beq_self_eq_true x)
  |tup ds=>
   have h':=F_.mp (show(LC n ds&&decide (ds.length < 1000))=Θ from h);have hl:ds.length < 1000:=q_ h'.2;have hz:(jT ds ds).length=ds.length:=by rw[oK,i_]
   have e:=fm ds h'.1;have ea:=all_true Θ ds.length;unfold yS;simp![e,ea,hz]
  |lst o ds=>
   have h0:=F_.mp (show(!o&&(LC n ds&&decide (ds.length < 1000)))=Θ from h);have h':=F_.mp h0.2;have hl:ds.length < 1000:=q_ h'.2;have hz:(jT ds ds).length=ds.length:=by rw[oK,i_]
   have e:=fm ds h'.1;have ea:=all_true Θ ds.length;unfold yS;simp![e,ea,hz]
  |Jy _ _ _=>cases h
theorem J':∀ds:List D,Jv (Jv ds)=Jv ds:=by intro ds;rw[ji,ji,K_];exact aat fun d _=>Ca d
theorem uB:∀(xs:List D),(∀x∈xs,∃y,g x=.ok (Δ y)/\er y=er x)->∃ys,iP g xs=.ok ys/\Jv ys=Jv xs/\ys.length=xs.length
 |[],_=>⟨[],rfl,rfl,rfl⟩
 |x::xs,h=>by obtain⟨y,h1,h2⟩:=h x (by simp);obtain⟨ys,h3,h4,h5⟩:=uB xs fun z hz=>h z (H_ _ hz);refine⟨y::ys,?_,by show er y::Jv ys=er x::Jv xs;rw[h2,h4],by rw[List.length_cons,List.length_cons,h5]⟩;show Iq (g x) _=_;rw[h1];show Iq (iP g xs) _=_;rw[h3];rfl
theorem Bt (hT:T f=Δ fn)(MY:fn.io=Ξ)(h1:fn.np=1)(h2:fn.G.N.length=1)(h3:fn.body=Nu f x):∀(n k:Nat) (d:D),pl n d=Θ->∃d',bK T (n+k) f [d]=.ok d'/\er d'=d:=by
 intro n
 induction n with
 |zero=>intro k d h;cases d<;>cases h
 |succ n ih=>
  intro k d h;have fm:∀ds:List D,LC n ds=Θ->∃ys,iP (jb (bK T (n+k)) (.nm 0) [] (.call f [(.v 0)]) [Φ]) ds=.ok ys/\Jv ys=ds/\ys.length=ds.length:=by
   intro ds hp;obtain⟨ys,h1,h2,h3⟩:=uB (g:=jb (bK T (n+k)) (.nm 0) [] (.call f [(.v 0)]) [Φ]) ds fun x hx=>by
    have K7:=qo hp x hx;obtain⟨y,hc,hy⟩:=ih k x K7;have he:=yV n x K7;have e2:Jv [x]=[x]:=by show [er x]=_;rw[he]
    refine⟨y,?_,hy.trans he.symm⟩;simp![Ev.iE,hc,e2,he]
   exact⟨ys,h1,h2.trans (yW hp),h3⟩
  rw[show n+1+k=(n+k)+1 by omega,Ev.go hT MY h1 h2 h3 rfl];unfold Nu;cases d with
  |Jt=>exact⟨.Jt,rfl,rfl⟩
  |bl b=>exact⟨.bl b,rfl,rfl⟩
  |int i=>exact⟨.int i,rfl,rfl⟩
  |str z=>exact⟨.str z,rfl,rfl⟩
  |tup ds=>
   have h':=F_.mp (show(LC n ds&&decide (ds.length < 1000))=Θ from h);have hl:ds.length < 1000:=q_ h'.2;obtain⟨ys,e,hy,hyl⟩:=fm ds h'.1;unfold uz;cases lf:iD ys with
   |true=>refine⟨.tup ys,?_,by rw[er,hy]⟩;simp![e,lf]
   |false=>refine⟨.tup (Jv ys),?_,by rw[er,J',hy]⟩;simp![e,lf]
  |lst o ds=>
   have h0:=F_.mp (show(!o&&(LC n ds&&decide (ds.length < 1000)))=Θ from h);have h':=F_.mp h0.2;have ho:o=Ξ:=by simpa using h0.1
   subst ho;have hl:ds.length < 1000:=q_ h'.2;obtain⟨ys,e,hy,hyl⟩:=fm ds h'.1;unfold uz;cases lf:iD ys with
   |true=>refine⟨.lst Θ ys,?_,by rw[er,hy]⟩;simp![e,lf]
   |false=>refine⟨.lst Θ (Jv ys),?_,by rw[er,J',hy]⟩;simp![e,lf]
  |Jy _ _ _=>cases h
end Fr
end L2
namespace Law
open PySem PySem.Spec L2 L2.Fr
theorem same (n k:Nat)  (h:pl n d=Θ):bK T (n+k) 56 [d,d]=.ok (.bl Θ):=Br (fn:=V9) rfl rfl rfl rfl rfl n k d h
theorem copy (n k:Nat)  (h:pl n d=Θ):∃d',bK T (n+k) 57 [d]=.ok d'/\er d'=d:=Bt (fn:=V') (x:="_law_part") rfl rfl rfl rfl rfl n k d h
open PyProof.Rows
theorem yX:Ρ "" = J0 []:=by decide +kernel
noncomputable def tS:List IS:=[(.asg (.nm 3) (.bin .add (.v 3) (.idx (.v 2) (.call 39 [(.v 0),(.bin .add (.bin .add (.v 1) (.c (.int 2))) (.v 4)),(.c (.int 26))]))))]
theorem Bu (n:Nat)(ns:List Int)  (h0:0<=k)(h1:k<=1900):∃cs:List Nat,bK T (n+2) 41 [.lst Ξ (ns.map .int),.int k]=.ok (.str (J0 cs))/\Sl cs:=by
 obtain⟨r,d0,a0,a1⟩:=LP n ns k 12 h0 (by omega) (by decide);obtain⟨τ',e,cs,y4,rfl,hl,hx⟩:=Ev.ny (its:=jq 0 r) (τ:=[Δ (.lst Ξ (ns.map .int)),Δ (.int k),Δ (.str "abcdefghijklmnopqrstuvwxyz"),Δ (.str (J0 [])),Φ,Φ]) (body:=Ev.turn (bK T (n+1)) (.nm 4) tS)
  (fun i τ=>∃(cs:List Nat) (x4:Option D),τ=[Δ (.lst Ξ (ns.map .int)),Δ (.int k),Δ (.str "abcdefghijklmnopqrstuvwxyz"),Δ (.str (J0 cs)),x4,Φ]/\cs.length=i/\∀c∈cs,low c)
  ⟨[],Φ,rfl,rfl,fun c hc=>by simp at hc⟩ (by
   rintro i x τ hx ⟨cs,x4,rfl,hl,Wl⟩;have hi:i < r.toNat:=by have:=(x_.mp hx).1;rw[j8]at this;omega
   unfold jq at hx;rw[y_,List.getElem?_range (by omega)]at hx;have K7:D.int (0+(i:Nat))=x:=J_ hx;subst K7;obtain⟨q,d1,b0,b1⟩:=LP n ns (k+2+(0+(i:Int))) 26 (by omega) (by omega) (by decide);refine⟨[Δ (.lst Ξ (ns.map .int)),Δ (.int k),Δ (.str "abcdefghijklmnopqrstuvwxyz"),Δ (.str (J0 (cs++[97+q.toNat]))),Δ (.int (0+(i:Nat))),Φ],?_,_,_,rfl,by rw[o_,hl];rfl,fun c hc=>?_⟩
   ·have sa:=k8 (a:=cs) (b:=[97+q.toNat]) (by rw[hl,X_];omega);have ab:=oG b0 b1;rw[nA]at ab;unfold tS;simp![Ev.iE,d1,ab,sa]
   ·rcases C_.mp hc with hc|hc
    ·exact Wl c hc
    ·rw[w_.mp hc];constructor<;>omega)
 rw[j8]at hl;obtain⟨t,d1,b0,b1⟩:=LP n ns (k+1) ((cs.length:Int)+1) (by omega) (by omega) (by omega);obtain⟨q,d2,c0,c1⟩:=LP n ns (k+14) 26 (by omega) (by omega) (by decide);have ab:=oG c0 c1;rw[nA]at ab;have s1:=rL (cs:=cs) (j:=t) b0 (by omega);have s2:=oH (cs:=cs) (i:=t) b0 (by omega);have l1:(cs.take t.toNat).length<=12:=by rw[aaz];omega
 have l2:(cs.drop t.toNat).length<=12:=by rw[aah];omega
 have p1:=k8 (a:=cs.take t.toNat) (b:=[97+q.toNat]) (by rw[X_];omega);have p2:=k8 (a:=cs.take t.toNat++[97+q.toNat]) (b:=cs.drop t.toNat) (by rw[o_,X_];omega);refine⟨cs.take t.toNat++[97+q.toNat]++cs.drop t.toNat,?_,?_,?_,fun c hc=>?_⟩
 ·unfold tS at e;have sl:=kn cs;rw[gx 41 VN 2 6 VM rfl rfl rfl rfl rfl rfl];unfold VM;simp![yX,d0,e,sl,d1,d2,ab,s1,s2,p1,p2]
 ·rw[o_,o_,X_];omega
 ·have:(cs.take t.toNat).length+(cs.drop t.toNat).length=cs.length:=by rw[<- o_,List.take_append_drop]
  rw[o_,o_,X_];omega
 ·rcases C_.mp hc with hc|hc
  ·rcases C_.mp hc with hc|hc
   ·exact hx c (List.mem_of_mem_take hc)
   ·rw[w_.mp hc];constructor<;>omega
  ·exact hx c (List.mem_of_mem_drop hc)
theorem EM (n:Nat)(ns:List Int)  (h0:0<=k)(h1:k<=1900):∃m:Int,bK T (n+2) 43 [.lst Ξ (ns.map .int),.int k]=.ok (.int m)/\0<=m/\m<=1000000000:=by
 obtain⟨r,d0,a0,a1⟩:=LP n ns k 6 h0 (by omega) (by decide);obtain⟨s,d1,b0,b1⟩:=LP n ns (k+1) 31600 (by omega) (by omega) (by decide);obtain⟨t,d2,c0,c1⟩:=LP n ns (k+2) 31600 (by omega) (by omega) (by decide);have pg:∀x:Res D,IE (decide ((0:Int)<=9/\(9:Int)<=1000000/\Int.natAbs 10 < 2 ^ 64)) x=x:=fun _=>rfl;by_cases h:r < 2
 ·have hd:decide (r < 2)=Θ:=G_ h;rcases(show r=0∨r=1 by omega) with rfl|rfl
  ·refine⟨0,?_,by decide,by decide⟩;rw[gx 43 Sa 2 3 PQ rfl rfl rfl rfl rfl rfl];unfold PQ;simp![d0,hd,pg]
  ·refine⟨10 ^ Int.toNat 9,?_,by decide,by decide⟩;rw[gx 43 Sa 2 3 PQ rfl rfl rfl rfl rfl rfl];unfold PQ;simp![d0,hd,pg]
 ·have hd:decide (r < 2)=Ξ:=S_ h;refine⟨s*31600+t,?_,by omega,by omega⟩;rw[gx 43 Sa 2 3 PQ rfl rfl rfl rfl rfl rfl];unfold PQ;simp![d0,hd,d1,d2]
theorem uC (h:J0 a=J0 b):a=b:=by have:=congrArg (fun s:Str=>s.cps.toList) h;simpa[J0] using this
theorem uD (c:Nat):∀(k:Nat) (acc:Array Nat),(Τ k (one c).cps).foldl (fun x1 x2=>x1++x2) acc=acc++(Τ k c).toArray
 |0,acc=>by simp
 |k+1,acc=>by rw[List.replicate_succ,W_,uD c k,List.replicate_succ];show acc++#[c]++(Τ k c).toArray=acc++(c::Τ k c).toArray;rw[Array.append_assoc];exact congrArg (acc++·) (List.append_toArray [c] (Τ k c))
theorem qp (c:Nat)  (h:1<=j):Txt.mul (one c) j=J0 (Τ j.toNat c):=by
 unfold Txt.mul;split
 ·omega
 ·split
  ·rename_i h1 h2
   rw[qm]at h2;have:j=1:=by simpa using h2
   rw[this];rfl
  ·unfold J0;rw[uD];simp
noncomputable def tN:List IS:=[(.asg (.nm 5) (.bin .add (.v 5) (.idx (.v 3) (.call 39 [(.v 0),(.bin .add (.bin .add (.v 1) (.c (.int 40))) (.v 6)),(.c (.int 26))]))))]
noncomputable def jc (c:Int):List Int:=(List.range (c - 0).toNat).map fun k=>(0:Int)+((k:Nat):Int)
theorem yY (h:x∈jc c):0<=x/\x < c:=by obtain⟨k,hk,rfl⟩:=List.mem_map.mp h;have:=V_.mp hk;omega
theorem Cz {c:Int}{f:Int->Str}(hf:∀x y,0<=x->x < c->0<=y->y < c->f x=f y->x=y):((jc c).map f).Nodup:=by unfold jc;rw[K_];refine List.pairwise_map.mpr (List.Pairwise.imp_of_mem (fun {a b} ha hb hn he=>hn ?_) List.nodup_range);have a1:=V_.mp ha;have b1:=V_.mp hb;have:=hf (0+(a:Int)) (0+(b:Int)) (by omega) (by omega) (by omega) (by omega) he;omega
theorem sT (c:Int):(jc c).length=c.toNat:=by unfold jc;rw[i_,aac];omega
theorem G1:∀(d:Fin 39),∀s∈([1,7,25,11]:List Int),(s*((d.val:Int) - 19)) % 26=0->d.val=19:=by decide +kernel
theorem HY {sp st x y:Int}(Wm:sp∈([1,7,25,11]:List Int))(x0:0<=x)(x1:x < 20)(y0:0<=y)(y1:y < 20)(h:(st+sp*x) % 26=(st+sp*y) % 26):x=y:=by have h1:=Int.emod_eq_emod_iff_emod_sub_eq_zero.mp h;rw[show st+sp*x - (st+sp*y)=sp*(x - y) by rw[Int.mul_sub];omega]at h1;have h2:=G1 ⟨(x - y+19).toNat,by omega⟩ sp Wm (by rw[show(((⟨(x - y+19).toNat,by omega⟩:Fin 39).val:Nat):Int) - 19=x - y by show(((x - y+19).toNat:Nat):Int) - 19=x - y;omega];exact h1);have h3:(x - y+19).toNat=19:=h2;omega
theorem oM (n:Nat)(ns:List Int)  (k0:0<=k)(k1:k<=1000)  (c0':0<=c)(c1':c<=20):∃fs:List Str,bK T (n+2) 40 [.lst Ξ (ns.map .int),.int k,.int c]=.ok (.lst Θ (fs.map .str))/\fs.length=c.toNat/\fs.Nodup/\∀f∈fs,f.length<=100:=by
 obtain⟨st,d0,a0,a1⟩:=LP n ns k 26 k0 (by omega) (by decide);have d1:=jx n ns (k+1) 5 (by omega) (by omega) (by decide);generalize dr ns (k+1) 5=q at *;have ab:=oG a0 a1;have rn:jq 0 c=(jc c).map .int:=Ev.yR 0 c;have ln:((jc c).map D.int).length=c.toNat:=by rw[i_,sT]
 cases hq:(q == 0) with
 |true=>
  have fm:iP (jb (bK T (n+1)) (.nm 2) [] (.bin .mul (.idx (.v 0) (.v 1)) (.bin .add (.c (.int 1)) (.v 2))) [Δ (.str "abcdefghijklmnopqrstuvwxyz"),Δ (.int st),Φ]) ((jc c).map .int)=.ok (((jc c).map fun j=>Txt.mul (one (97+st.toNat)) (1+j)).map .str):=by refine Ev.jL .int (fun j=>Txt.mul (one (97+st.toNat)) (1+j)) .str _ fun j hj=>?_;have:=yY hj;have ol:=qm (97+st.toNat);have gd:decide (-16000<=1+j/\1+j<=16000/\(one (97+st.toNat)).length<=1000)=Θ:=G_ (by rw[ol];omega);simp![ab,gd]
  refine⟨(jc c).map fun j=>Txt.mul (one (97+st.toNat)) (1+j),?_,by rw[i_,sT],Cz fun x y x0 x1 y0 y1 e=>?_,fun f hf=>?_⟩
  ·rw[gx 40 TL 3 9 R9 rfl rfl rfl rfl rfl rfl];unfold R9;generalize(jc c).map (fun j=>Txt.mul (one (97+st.toNat)) (1+j))=L at *;simp![d0,d1,hq,rn,ln,fm]
  ·rw[qp _ (by omega),qp _ (by omega)]at e;have:=congrArg List.length (uC e);rw[List.length_replicate,List.length_replicate]at this;omega
  ·obtain⟨j,hj,rfl⟩:=List.mem_map.mp hf;have:=yY hj;rw[qp _ (by omega)];rw[kn,List.length_replicate];omega
 |false=>
  obtain⟨r,d2,b0,b1⟩:=LP n ns (k+2) 8 (by omega) (by omega) (by decide);obtain⟨τ',e,cs,y4,rfl,hl,Na⟩:=Ev.ny (its:=jq 0 r) (τ:=[Δ (.lst Ξ (ns.map .int)),Δ (.int k),Δ (.int c),Δ (.str "abcdefghijklmnopqrstuvwxyz"),Δ (.int st),Δ (.str (J0 [])),Φ,Φ,Φ]) (body:=Ev.turn (bK T (n+1)) (.nm 6) tN)
   (fun i τ=>∃(cs:List Nat) (x4:Option D),τ=[Δ (.lst Ξ (ns.map .int)),Δ (.int k),Δ (.int c),Δ (.str "abcdefghijklmnopqrstuvwxyz"),Δ (.int st),Δ (.str (J0 cs)),x4,Φ,Φ]/\cs.length=i/\∀c∈cs,low c)
   ⟨[],Φ,rfl,rfl,fun c hc=>by simp at hc⟩ (by
    rintro i x τ hx ⟨cs,x4,rfl,hl,Wl⟩;have hi:i < r.toNat:=by have:=(x_.mp hx).1;rw[j8]at this;omega
    unfold jq at hx;rw[y_,List.getElem?_range (by omega)]at hx;have K7:D.int (0+(i:Nat))=x:=J_ hx;subst K7;obtain⟨q,d1,b0,b1⟩:=LP n ns (k+40+(0+(i:Int))) 26 (by omega) (by omega) (by decide)
    refine⟨[Δ (.lst Ξ (ns.map .int)),Δ (.int k),Δ (.int c),Δ (.str "abcdefghijklmnopqrstuvwxyz"),Δ (.int st),Δ (.str (J0 (cs++[97+q.toNat]))),Δ (.int (0+(i:Nat))),Φ,Φ],?_,_,_,rfl,by rw[o_,hl];rfl,fun c hc=>by
     rcases C_.mp hc with hc|hc
     ·exact Wl c hc
     ·rw[w_.mp hc];constructor<;>omega⟩
    have sa:=k8 (a:=cs) (b:=[97+q.toNat]) (by rw[hl,X_];omega);have ab:=oG b0 b1;rw[nA]at ab;unfold tN
    simp![Ev.iE,d1,ab,sa])
  rw[j8]at hl;unfold tN at e;obtain⟨t,d3,g0,g1⟩:=LP n ns (k+3) ((cs.length:Int)+1) (by omega) (by omega) (by omega);obtain⟨u,d4,f0,f1⟩:=LP n ns (k+1) 4 (by omega) (by omega) (by decide);obtain⟨sp,Mq,Wm⟩:∃sp:Int,(∀o,iQ (.lst o [.int 1,.int 7,.int 25,.int 11]) (.int u)=.ok (.int sp))/\sp∈([1,7,25,11]:List Int):=by
   rcases(show u=0∨u=1∨u=2∨u=3 by omega) with rfl|rfl|rfl|rfl
   ·exact⟨1,fun _=>rfl,by decide⟩
   ·exact⟨7,fun _=>rfl,by decide⟩
   ·exact⟨25,fun _=>rfl,by decide⟩
   ·exact⟨11,fun _=>rfl,by decide⟩
  have s1:=rL (cs:=cs) (j:=t) g0 (by omega);have s2:=oH (cs:=cs) (i:=t) g0 (by omega);have l1:(cs.take t.toNat).length<=12:=by rw[aaz];omega
  have l2:(cs.drop t.toNat).length<=12:=by rw[aah];omega
  have sl:=kn cs;have fm:iP (jb (bK T (n+1)) (.nm 5) [] (.bin .add (.bin .add (.sl (.v 0) Φ (Δ (.v 1))) (.idx (.v 2) (.bin .mod (.bin .add (.v 3) (.bin .mul (.v 4) (.v 5))) (.c (.int 26))))) (.sl (.v 0) (Δ (.v 1)) Φ)) [Δ (.str (J0 cs)),Δ (.int t),Δ (.str "abcdefghijklmnopqrstuvwxyz"),Δ (.int st),Δ (.int sp),Φ]) ((jc c).map .int)=.ok (((jc c).map fun j=>J0 (cs.take t.toNat++[97+((st+sp*j) % 26).toNat]++cs.drop t.toNat)).map .str):=by refine Ev.jL .int (fun j=>J0 (cs.take t.toNat++[97+((st+sp*j) % 26).toNat]++cs.drop t.toNat)) .str _ fun j hj=>?_;have:=yY hj;have c0:=Int.emod_nonneg (st+sp*j) (show(26:Int)≠0 by decide);have c1:=Int.emod_lt_of_pos (st+sp*j) (show(0:Int) < 26 by decide);have ab:=oG c0 c1;rw[nA]at ab;have p1:=k8 (a:=cs.take t.toNat) (b:=[97+((st+sp*j) % 26).toNat]) (by rw[X_];omega);have p2:=k8 (a:=cs.take t.toNat++[97+((st+sp*j) % 26).toNat]) (b:=cs.drop t.toNat) (by rw[o_,X_];omega);simp![s1,s2,sl,ab,p1,p2]
  refine⟨(jc c).map fun j=>J0 (cs.take t.toNat++[97+((st+sp*j) % 26).toNat]++cs.drop t.toNat),?_,by rw[i_,sT],Cz fun x y x0 x1 y0 y1 e=>?_,fun f hf=>?_⟩
  ·rw[gx 40 TL 3 9 R9 rfl rfl rfl rfl rfl rfl];unfold R9;generalize(jc c).map (fun j=>J0 (cs.take t.toNat++[97+((st+sp*j) % 26).toNat]++cs.drop t.toNat))=L at *;simp![yX,d0,d1,hq,d2,e,sl,d3,d4,Mq,rn,ln,fm]
  ·have h1:=List.append_cancel_right (uC e);have h2:=List.append_cancel_left h1;have h3:97+((st+sp*x) % 26).toNat=97+((st+sp*y) % 26).toNat:=List.head_eq_of_cons_eq h2;have n1:=Int.emod_nonneg (st+sp*x) (show(26:Int)≠0 by decide);have n2:=Int.emod_nonneg (st+sp*y) (show(26:Int)≠0 by decide);exact HY (st:=st) Wm x0 (by omega) y0 (by omega) (by omega)
  ·obtain⟨j,hj,rfl⟩:=List.mem_map.mp hf;have c0:=Int.emod_nonneg (st+sp*j) (show(26:Int)≠0 by decide);have c1:=Int.emod_lt_of_pos (st+sp*j) (show(0:Int) < 26 by decide);rw[kn,o_,o_,X_];omega
theorem kr {g:D->Res (Option D)}{x y:D}{xs ys:List D}(h:g x=.ok (Δ y))(k:iP g xs=.ok ys):iP g (x::xs)=.ok (y::ys):=by show Iq (g x) _=_;rw[h];show Iq (iP g xs) _=_;rw[k];rfl
inductive Tn where
 | i (n:Int)|s (x:Str)
noncomputable def Tn.d:Tn->D
 |.i n=>.int n
 |.s x=>.str x
theorem EN:(Ρ "abcdefghijklmnopqrstuvwxyz0123456789").length=36:=by decide +kernel
theorem mQ (x:Str)(lo hi:Option Int):(Txt.slice x lo hi).length<=x.length:=by
 have:=indices_len_le lo hi x.length;unfold Txt.slice;split
 ·exact m_ _
 ·refine D_ ?_ this;show(List.filterMap _ _).toArray.size<=_;rw[A_];exact List.length_filterMap_le ..
theorem EO {z:Str}{i:Int}(h0:0<=i)(h1:i < z.length)(hz:z.length<=1000):∃y:Str,iQ (.str z) (.int i)=.ok (.str y)/\y.length=1:=⟨_,Ev.RP h0 h1 (by omega),rfl⟩
theorem pM:∀(cs:List Nat) (acc:Array Nat),(cs.map one).foldl (fun acc p=>acc++(Ρ "").cps++p.cps) acc=acc++cs.toArray
 |[],acc=>by simp
 |c::cs,acc=>by
  have e:(Ρ "").cps = #[]:=by decide +kernel
  rw[b_,W_,pM cs,e];show acc++#[]++#[c]++cs.toArray=_;simp
theorem join_one (cs:List Nat):Txt.join "" (cs.map one)=J0 cs:=by
 show(⟨((cs.map one).drop 1).foldl (fun acc p=>acc++(Ρ "").cps++p.cps) ((cs.map one).headD Str.empty).cps⟩:Str)=_;cases cs with
 |nil=>rfl
 |cons c cs=>rw[b_,List.drop_succ_cons,List.drop_zero,List.headD_cons,pM];unfold J0 one;simp
theorem Bv (cs:List Nat):((cs.map one).map (fun y:Str=>y.length)).sum=cs.length:=by
 induction cs with
 |nil=>rfl
 |cons c cs ih=>rw[b_,b_,List.sum_cons,ih,List.length_cons,qm];omega
theorem Bw (h:cs.length<=1000):nZ .join (.str "") [.lst o ((cs.map one).map .str)]=.ok (.str (J0 cs)):=by
 have e:(Ρ "").length=0:=by decide +kernel
 rw[Ev.Bm (by rw[Bv,i_,e];omega),join_one]
theorem pN (n:Nat)(ns:List Int):∃c:Int,bK T (n+2) 50 [.lst Ξ (ns.map .int)]=.ok (.int c):=by have d1:=jx n ns 145 20000 (by decide) (by decide) (by decide);generalize dr ns 145 20000=a at *;refine⟨a*99999 - 999900000,?_⟩;rw[gx 50 V3 1 1 V2 rfl rfl rfl rfl rfl rfl];unfold V2;simp![d1]
theorem rN {g:D->Res (Option D)}:∀(its:List D),(∀x∈its,∃y:Nat,g x=.ok (Δ (.str (one y))))->∃ys:List Nat,iP g its=.ok ((ys.map one).map .str)/\ys.length=its.length
 |[],_=>⟨[],rfl,rfl⟩
 |x::its,h=>by obtain⟨y,hy⟩:=h x (by simp);obtain⟨ys,e,hl⟩:=rN its fun z hz=>h z (H_ _ hz);exact⟨y::ys,kr hy e,by rw[List.length_cons,List.length_cons,hl]⟩
theorem uE (h:x∈jq 0 a):∃j:Int,x=.int j/\0<=j/\j < a:=by unfold jq at h;obtain⟨k,hk,rfl⟩:=List.mem_map.mp h;rw[V_]at hk;exact⟨0+(k:Int),rfl,by omega,by omega⟩
noncomputable def sg:Str:=Ρ "abcdefghijklmnopqrstuvwxyz0123456789"
theorem me:sg.length=36:=EN
theorem uF (n:Nat)(ns:List Int):∃x:Str,bK T (n+2) 49 [.lst Ξ (ns.map .int)]=.ok (.str x)/\x.length<=100:=by
 have lr:(jq 0 12).length=12:=by rw[j8];rfl
 obtain⟨ys,e,hl⟩:=rN (g:=jb (bK T (n+1)) (.nm 2) [] (.idx (.v 0) (.call 39 [(.v 1),(.bin .add (.c (.int 130)) (.v 2)),(.c (.int 36))])) [Δ (.str sg),Δ (.lst Ξ (ns.map .int)),Φ]) (jq 0 12) (by
  intro x hx;obtain⟨j,rfl,j0,j1⟩:=uE hx;have d:=jx n ns (130+j) 36 (by omega) (by omega) (by decide);have b:=oI ns (130+j) (m:=36) (by decide);have c:=oJ ns (130+j) (m:=36) (by decide);have hy:=Ev.RP (z:=sg) b (by rw[me];exact c) (by rw[me];decide);refine⟨sg.cps.toList.getD (dr ns (130+j) 36).toNat 0,?_⟩;unfold one;generalize dr ns (130+j) 36=r,sg=SG at *
  simp![Ev.iE,d,hy])
 rw[lr]at hl;have je:=Bw (o:=Θ) (cs:=ys) (by omega);refine⟨J0 ys,?_,by rw[kn];omega⟩;unfold sg at e;rw[gx 49 V1 1 2 V0 rfl rfl rfl rfl rfl rfl];unfold V0;simp![e,je,lr]
structure Cn where
 m:Str
 w:Str
 ts:List Tn
noncomputable def Cn.d (c:Cn):D:=.tup [.str c.m,.str c.w,.lst Ξ (c.ts.map Tn.d)]
noncomputable def Yf:Tn->Tn->Bool
 |.i a,.i b=>a == b
 |.s a,.s b=>a == b
 |_,_=>Ξ
noncomputable def mD:Option Tn->D
 |none=>.Jt
 |some t=>t.d
noncomputable def PX (x:Option Tn)(ts:List Tn):Bool:=match x with
 |none=>Ξ
 |some t=>ts.any fun u=>Yf u t
theorem H0 (u:Tn)(x:Option Tn):Kb 40 u.d (mD x)=.ok (match x with|none=>Ξ|some t=>Yf u t):=by
 rcases x with _|t
 ·cases u<;>rfl
 ·cases u<;>cases t<;>rfl
theorem yZ (x:Option Tn):∀ts:List Tn,Kc (mD x) (ts.map Tn.d)=.ok (PX x ts)
 |[]=>by cases x<;>rfl
 |u::ts=>by show Iq (Kb 40 u.d (mD x)) (fun a=>Iq (Kc (mD x) (ts.map Tn.d)) fun b=>.ok (a||b))=_;rw[H0,yZ x ts];cases x<;>rfl
theorem G2 (o:Bool)(x:Option Tn)(ts:List Tn):Kg .M3 (mD x) (.lst o (ts.map Tn.d))=.ok (PX x ts):=by
 have:=yZ x ts;rcases x with _|t
 ·exact this
 ·cases t<;>exact this
theorem G3 (o:Bool)(x:Option Tn)(ts:List Tn):Kg .ND (mD x) (.lst o (ts.map Tn.d))=.ok (!PX x ts):=by
 have:=yZ x ts;have e:Kg .ND (mD x) (.lst o (ts.map Tn.d))=Iq (Kc (mD x) (ts.map Tn.d)) fun r=>.ok !r:=by
  rcases x with _|t
  ·rfl
  ·cases t<;>rfl
 rw[e,this];rfl
theorem Ia (x:Option Tn):Kg .N7 (mD x) .Jt=.ok (!x.isSome):=by rcases x with _|t;rfl;cases t<;>rfl
theorem y3 (x:Option Tn):Kg .Lh (mD x) .Jt=.ok x.isSome:=by rcases x with _|t;rfl;cases t<;>rfl
noncomputable def OM (y:Str):Tn->Bool
 |.s z=>Txt.startswith y z
 |_=>Ξ
noncomputable def G4 (x:Option Tn)(ts:List Tn):Bool:=match x with
 |some (.s y)=>ts.any (OM y)
 |_=>Ξ
noncomputable def leB (x:Option Tn)(ts:List Tn):Bool:=match x,ts with
 |some (.i a),.i b::_=>decide (b<=a)
 |_,_=>Ξ
noncomputable def So (x:Option Tn)(ts:List Tn):Bool:=match x,ts with
 |some (.i a),.i b::_=>decide (a<=b)
 |_,_=>Ξ
noncomputable def kC (w:Str)(ts:List Tn)(x:Option Tn):Bool:=
 if(w == Ρ "is")=Θ then PX x ts else if(w == Ρ "not")=Θ then !PX x ts else if(w == Ρ "begins")=Θ then G4 x ts
 else if(w == Ρ "least")=Θ then leB x ts else if(w == Ρ "most")=Θ then So x ts else if(w == Ρ "has")=Θ then x.isSome else !x.isSome
structure Wf (c:Cn):Prop where
 len:c.ts.length<=100
 Yg:(c.w == Ρ "begins")=Θ->∀t∈c.ts,∃z,t=.s z
 lm:(c.w == Ρ "least")=Θ∨(c.w == Ρ "most")=Θ->∃z r,c.ts=.i z::r
theorem y6 (n:Nat)(x:Option Tn):bK T (n+1) 22 [mD x]=.ok (.bl (match x with|some (.i _)=>Θ|_=>Ξ)):=by
 rcases x with _|t
 ·rfl
 ·cases t with
  |i a=>rfl
  |s a=>rfl
theorem G5 (x:Option Tn):er (mD x)=mD x:=by rcases x with _|t;rfl;cases t<;>rfl
theorem ER (x:Option Tn):iH (mD x)=Θ:=by rcases x with _|t;rfl;cases t<;>rfl
theorem y7 (ts:List Tn):iD (ts.map Tn.d)=Θ:=by rw[iU,List.all_map];exact R_.mpr fun t _=>by cases t<;>rfl
theorem y9 (ts:List Tn):Jv (ts.map Tn.d)=ts.map Tn.d:=jF (y7 ts)
theorem sU (cl:Nat->List D->Res D)(y:Str):∀ts:List Tn,(∀t∈ts,∃z,t=.s z)->iP (jb cl (.nm 1) [] (.L9 .starts (.v 0) [(.v 1)]) [Δ (.str y),Φ]) (ts.map Tn.d)=.ok ((ts.map (OM y)).map .bl)
 |[],_=>rfl
 |t::ts,h=>by obtain⟨z,rfl⟩:=h _ (.head _);refine kr ?_ (sU cl y ts fun u hu=>h u (.tail _ hu));show jb cl (.nm 1) [] (.L9 .starts (.v 0) [(.v 1)]) [Δ (.str y),Φ] (.str z)=.ok (Δ (.bl (Txt.startswith y z)));simp![Ev.iE]
theorem za (y:Str)(ts:List Tn):(ts.map (OM y)).any id=ts.any (OM y):=by rw[List.any_map];rfl
theorem lE {cl:Nat->List D->Res D}{c:IR}{s:IS}{r:List IS}{τ:Ev}{b B1 B2:Bool}(hc:IC cl c τ=.ok (.bl b))(he:b=Θ->Ko cl s τ=.ok (.rt (.bl B1)))(hr:b=Ξ->jf cl r τ=.ok (.rt (.bl B2))):jf cl (.JJ c [s] []::r) τ=.ok (.rt (.bl (if b=Θ then B1 else B2))):=by
 cases b with
 |true=>have he:=he rfl;rw[e_ rfl];simp![hc,he]
 |false=>have hr:=hr rfl;rw[d_ n_];simp![hc,hr]
theorem sk (h:IC cl c τ=.ok (.bl Ξ)):jf cl (.JJ c a []::r) τ=jf cl r τ:=by simp![h]
theorem Wn (h:IC cl c τ=.ok (.bl Θ))(e:jf cl a τ=.ok (.nx τ')):jf cl (.JJ c a []::r) τ=jf cl r τ':=by simp![h,e]
theorem uG {cl:Nat->List D->Res D}{i j:Nat}{τ:Ev}{x:Option Tn}{ts:List Tn}(hx:iF τ i=Δ (mD x))(hy:iF τ j=Δ (.lst Ξ (ts.map Tn.d)))(h:∃z r,ts=.i z::r) :
  (x.bind (fun t=>match t with|.i a=>Δ a|_=>Φ)).isSome=Θ->IC cl (.cmp .ge (.v i) (.idx (.v j) (.c (.int 0)))) τ=.ok (.bl (leB x ts))/\IC cl (.cmp .le (.v i) (.idx (.v j) (.c (.int 0)))) τ=.ok (.bl (So x ts)):=by
 intro hs;obtain⟨z,r,rfl⟩:=h;have i0:iQ (.lst Ξ ((Tn.i z::r).map Tn.d)) (.int 0)=.ok (.int z):=by rw[Ev.Tr,Ev.ql .Jt (by decide) (by rw[b_,List.length_cons];omega)];rfl
 rcases x with _|(a|a)
 ·cases hs
 ·have hx:iF τ i=Δ (.int a):=hx;generalize(Tn.i z::r).map Tn.d=TS at *;constructor
  ·show _=Except.ok (D.bl (decide (z<=a)));simp![hx,hy,i0]
  ·show _=Except.ok (D.bl (decide (a<=z)));simp![hx,hy,i0]
 ·cases hs
theorem sV (n:Nat)(c:Cn)(wf:Wf c)(x:Option Tn):bK T (n+2) 26 [.str c.w,.lst Ξ (c.ts.map Tn.d),mD x]=.ok (.bl (kC c.w c.ts x)):=by
 obtain⟨cm,w,ts⟩:=c;have wl:ts.length<=100:=wf.len;show bK T (n+2) 26 [.str w,.lst Ξ (ts.map Tn.d),mD x]=.ok (.bl (kC w ts x));have e1:=G2 Ξ x ts;have e2:=G3 Ξ x ts;have e3:=Ia x;have e4:=y3 x;have ex:=G5 x;have wh:=y6 n x;have H:jf (bK T (n+1)) R3 [Δ (.str w),Δ (.lst Ξ (ts.map Tn.d)),Δ (mD x)]=.ok (.rt (.bl (kC w ts x))):=by
  unfold R3 kC;refine lE rfl (fun _=>?_) fun _=>lE rfl (fun _=>?_) fun _=>lE rfl (fun q=>?_) fun _=>lE rfl (fun q=>?_) fun _=>lE rfl (fun q=>?_) fun _=>lE rfl (fun _=>?_) fun _=>?_
  ·rcases x with _|t
   ·rfl
   ·generalize mD (Δ t)=X,ts.map Tn.d=TS at *;simp![e4,e1,Option.isSome_some]
  ·rcases x with _|t
   ·rfl
   ·generalize mD (Δ t)=X,ts.map Tn.d=TS at *;simp![e3,e2,Option.isSome_some]
  ·rcases x with _|(a|a)
   ·rfl
   ·rfl
   ·show _=Except.ok (Fl.rt (D.bl (ts.any (OM a))));have f:=sU (bK T (n+1)) a ts (wf.Yg q);have ai:=za a ts;have lt:(ts.map Tn.d).length=ts.length:=i_ _;show Ko _ _ [Δ (.str w),Δ (.lst Ξ (ts.map Tn.d)),Δ (.str a)]=_;generalize ts.map Tn.d=TS,ts.map (OM a)=BS at *;simp![f,ai,lt]
  ·rcases x with _|(a|a)
   ·have wh:bK T (n+1) 22 [.Jt]=.ok (.bl Ξ):=wh;show Ko _ _ [Δ (.str w),Δ (.lst Ξ (ts.map Tn.d)),Δ .Jt]=Except.ok (Fl.rt (D.bl Ξ));generalize ts.map Tn.d=TS at *;simp![wh]
   ·have wh:bK T (n+1) 22 [.int a]=.ok (.bl Θ):=wh;have l:=(uG (cl:=bK T (n+1)) (i:=2) (j:=1) (τ:=[Δ (.str w),Δ (.lst Ξ (ts.map Tn.d)),Δ (.int a)]) (x:=Δ (.i a)) rfl rfl (wf.lm (.inl q)) rfl).1;show Ko _ _ [Δ (.str w),Δ (.lst Ξ (ts.map Tn.d)),Δ (.int a)]=_;generalize leB (Δ (.i a)) ts=L,ts.map Tn.d=TS,IR.cmp .ge (.v 2) (.idx (.v 1) (.c (.int 0)))=K at *;simp![wh,l]
   ·have wh:bK T (n+1) 22 [.str a]=.ok (.bl Ξ):=wh;show Ko _ _ [Δ (.str w),Δ (.lst Ξ (ts.map Tn.d)),Δ (.str a)]=Except.ok (Fl.rt (D.bl Ξ));generalize ts.map Tn.d=TS at *;simp![wh]
  ·rcases x with _|(a|a)
   ·have wh:bK T (n+1) 22 [.Jt]=.ok (.bl Ξ):=wh;show Ko _ _ [Δ (.str w),Δ (.lst Ξ (ts.map Tn.d)),Δ .Jt]=Except.ok (Fl.rt (D.bl Ξ));generalize ts.map Tn.d=TS at *;simp![wh]
   ·have wh:bK T (n+1) 22 [.int a]=.ok (.bl Θ):=wh;have l:=(uG (cl:=bK T (n+1)) (i:=2) (j:=1) (τ:=[Δ (.str w),Δ (.lst Ξ (ts.map Tn.d)),Δ (.int a)]) (x:=Δ (.i a)) rfl rfl (wf.lm (.inr q)) rfl).2;show Ko _ _ [Δ (.str w),Δ (.lst Ξ (ts.map Tn.d)),Δ (.int a)]=_;generalize So (Δ (.i a)) ts=L,ts.map Tn.d=TS,IR.cmp .le (.v 2) (.idx (.v 1) (.c (.int 0)))=K at *;simp![wh,l]
   ·have wh:bK T (n+1) 22 [.str a]=.ok (.bl Ξ):=wh;show Ko _ _ [Δ (.str w),Δ (.lst Ξ (ts.map Tn.d)),Δ (.str a)]=Except.ok (Fl.rt (D.bl Ξ));generalize ts.map Tn.d=TS at *;simp![wh]
  ·generalize mD x=X,ts.map Tn.d=TS at *;simp![e4]
  ·generalize mD x=X,ts.map Tn.d=TS at *;simp![e3]
 rw[gx 26 Vx 3 3 R3 rfl rfl rfl rfl rfl rfl];generalize kC w ts x=HB,mD x=X,ts.map Tn.d=TS,R3=bb at *;simp![H]
noncomputable def KA (p:Str×Tn):D:=.tup [.str p.1,p.2.d]
noncomputable def lN (ms:List (Str×Tn))(x:Str):Option Tn:=(ms.find? fun p=>p.1 == x).map (·.2)
theorem CA (t:Tn):er t.d=t.d:=by cases t<;>rfl
theorem G6 (t:Tn):iH t.d=Θ:=by cases t<;>rfl
theorem oN (ms:List (Str×Tn)):Jv (ms.map KA)=ms.map KA:=by rw[ji,K_];exact aat fun p _=>by show D.tup [.str p.1,er p.2.d]=_;rw[CA];rfl
noncomputable def tK:List IS:=[(.JJ (.cmp .eq (.v 2) (.v 1)) [(.ret (.v 3))] [])]
theorem zb (cl:Nat->List D->Res D)(x:Str)(a:Option D):∀(ms:List (Str×Tn)) (b c:Option D),
  (∀t,lN ms x=Δ t->forM (Ev.turn cl (.tp [(.nm 2),(.nm 3)]) tK) (ms.map KA) [a,Δ (.str x),b,c]=.ok (.rt t.d))/\
  (lN ms x=Φ->∃b' c',forM (Ev.turn cl (.tp [(.nm 2),(.nm 3)]) tK) (ms.map KA) [a,Δ (.str x),b,c]=.ok (.nx [a,Δ (.str x),b',c']))
 |[],b,c=>⟨fun t h=>(by cases h),fun _=>⟨b,c,rfl⟩⟩
 |p::ms,b,c=>by
  have et:Ev.turn cl (.tp [(.nm 2),(.nm 3)]) tK (KA p) [a,Δ (.str x),b,c]=if(p.1 == x)=Θ then .ok (.rt p.2.d) else .ok (.nx [a,Δ (.str x),Δ (.str p.1),Δ p.2.d]):=by unfold tK KA;generalize p.2.d=E;cases h:(p.1 == x)<;>simp![Ev.iE,h]
  rw[b_,Ev.dR,et];unfold lN;rw[List.find?_cons];cases h:(p.1 == x) with
  |true=>exact⟨fun t z=>(by cases z;rfl),fun z=>(by cases z)⟩
  |false=>exact zb cl x a ms (Δ (.str p.1)) (Δ p.2.d)
theorem Bx (n:Nat)(ms:List (Str×Tn))(x:Str):bK T (n+1) 25 [.lst Ξ (ms.map KA),.str x]=.ok (mD (lN ms x)):=by
 have h:=zb (bK T n) x (Δ (.lst Ξ (ms.map KA))) ms Φ Φ;have em:=oN ms;unfold tK at h;cases hm:lN ms x with
 |some t=>have e:=h.1 t hm;show _=Except.ok t.d;rw[gx 25 TC 2 4 R1 rfl rfl rfl rfl rfl rfl];unfold R1;generalize ms.map KA=MS,t.d=TD at *;simp![em,e]
 |none=>obtain⟨b,c,e⟩:=h.2 hm;show _=Except.ok D.Jt;rw[gx 25 TC 2 4 R1 rfl rfl rfl rfl rfl rfl];unfold R1;generalize ms.map KA=MS at *;simp![em,e]
theorem kW (c:Cn):er c.d=c.d:=by show D.tup [.str c.m,.str c.w,.lst Ξ (Jv (c.ts.map Tn.d))]=_;rw[y9];rfl
noncomputable def J4 (r:List Cn):D:=.lst Ξ (r.map Cn.d)
theorem sW (r:List Cn):Jv (r.map Cn.d)=r.map Cn.d:=by rw[ji,K_];exact aat fun c _=>kW c
theorem uH (r:List Cn):er (J4 r)=J4 r:=by show D.lst Ξ (Jv (r.map Cn.d))=_;rw[sW];rfl
theorem mR (rs:List (List Cn)):Jv (rs.map J4)=rs.map J4:=by rw[ji,K_];exact aat fun c _=>uH c
structure Gp where
 nm:Str
 rows:List (List Cn)
noncomputable def Gp.d (g:Gp):D:=.tup [.str g.nm,.lst Ξ (g.rows.map J4)]
theorem G7 (g:Gp):er g.d=g.d:=by show D.tup [.str g.nm,.lst Ξ (Jv (g.rows.map J4))]=_;rw[mR];rfl
theorem qr (gs:List Gp):Jv (gs.map Gp.d)=gs.map Gp.d:=by rw[ji,K_];exact aat fun c _=>G7 c
noncomputable def LQ (w:Str):Bool:=(w == Ρ "in")||(w == Ρ "out")
theorem zd (n:Nat){c:Cn}(wf:Wf c)(hi:LQ c.w=Ξ){g:D}(hg:er g=g)(ms:List (Str×Tn)):bK T (n+3) 27 [g,c.d,.lst Ξ (ms.map KA)]=.ok (.bl (kC c.w c.ts (lN ms c.m))):=by have e1:=Bx (n+1) ms c.m;have e2:=sV n c wf (lN ms c.m);have ex:=G5 (lN ms c.m);have em:=oN ms;have et:=y9 c.ts;obtain⟨cm,w,ts⟩:=c;have hi:((w == Ρ "in")||(w == Ρ "out"))=Ξ:=hi;rw[Bool.or_eq_false_iff]at hi;obtain⟨q1,q2⟩:=hi;show bK T (n+3) 27 [g,.tup [.str cm,.str w,.lst Ξ (ts.map Tn.d)],.lst Ξ (ms.map KA)]=_;generalize lN ms cm=O at *;generalize kC w ts O=B,mD O=X,ms.map KA=MS,ts.map Tn.d=TS at *;rw[gx 27 R4 3 5 PN rfl rfl rfl rfl rfl rfl];unfold PN;simp![q1,q2,hg,em,et,ex,e1,e2]
noncomputable def tC:List IS:=[(.JJ (.Kr (.call 27 [(.v 0),(.v 3),(.v 2)])) [(.ret (.c (.bl Ξ)))] [])]
theorem ze (n:Nat){g m:D}(hg:er g=g)(hm:er m=m)(p:Cn->Bool)(a:Option D):∀(cs:List Cn) (b:Option D),(∀c∈cs,bK T n 27 [g,c.d,m]=.ok (.bl (p c)))->
  (cs.all p=Θ->∃b',forM (Ev.turn (bK T n) (.nm 3) tC) (cs.map Cn.d) [Δ g,a,Δ m,b]=.ok (.nx [Δ g,a,Δ m,b']))/\
  (cs.all p=Ξ->forM (Ev.turn (bK T n) (.nm 3) tC) (cs.map Cn.d) [Δ g,a,Δ m,b]=.ok (.rt (.bl Ξ)))
 |[],b,_=>⟨fun _=>⟨b,rfl⟩,fun h=>(by cases h)⟩
 |c::cs,b,h=>by
  have e:=h c (.head _);have ec:=kW c;have et:Ev.turn (bK T n) (.nm 3) tC c.d [Δ g,a,Δ m,b]=if p c=Θ then .ok (.nx [Δ g,a,Δ m,Δ c.d]) else .ok (.rt (.bl Ξ)):=by unfold tC;generalize c.d=CD at *;cases hp:p c<;>rw[hp]at e<;>simp![Ev.iE,hg,hm,ec,e]
  rw[b_,Ev.dR,et,List.all_cons];cases hp:p c with
  |true=>exact ze n hg hm p a cs (Δ c.d) fun d hd=>h d (.tail _ hd)
  |false=>exact⟨fun h=>(by cases h),fun _=>rfl⟩
theorem uI (n:Nat){g m:D}(hg:er g=g)(hm:er m=m)(p:Cn->Bool)(cs:List Cn)(h:∀c∈cs,bK T n 27 [g,c.d,m]=.ok (.bl (p c))):bK T (n+1) 28 [g,J4 cs,m]=.ok (.bl (cs.all p)):=by
 have l:=ze n hg hm p (Δ (J4 cs)) cs Φ h;have ec:=sW cs;unfold J4 at l ⊢;cases ha:cs.all p with
 |true=>obtain⟨b,e⟩:=l.1 ha;unfold tC at e;rw[gx 28 TF 3 4 R5 rfl rfl rfl rfl rfl rfl];unfold R5;generalize cs.map Cn.d=CS at *;simp![ec,e]
 |false=>have e:=l.2 ha;unfold tC at e;rw[gx 28 TF 3 4 R5 rfl rfl rfl rfl rfl rfl];unfold R5;generalize cs.map Cn.d=CS at *;simp![ec,e]
noncomputable def tR:List IS:=[(.JJ (.call 28 [(.v 0),(.v 3),(.v 2)]) [(.ret (.c (.bl Θ)))] [])]
theorem zg (n:Nat){g m:D}(hg:er g=g)(hm:er m=m)(p:Cn->Bool)(a:Option D):∀(rs:List (List Cn)) (b:Option D),(∀r∈rs,bK T n 28 [g,J4 r,m]=.ok (.bl (r.all p)))->
  (rs.any (·.all p)=Ξ->∃b',forM (Ev.turn (bK T n) (.nm 3) tR) (rs.map J4) [Δ g,a,Δ m,b]=.ok (.nx [Δ g,a,Δ m,b']))/\
  (rs.any (·.all p)=Θ->forM (Ev.turn (bK T n) (.nm 3) tR) (rs.map J4) [Δ g,a,Δ m,b]=.ok (.rt (.bl Θ)))
 |[],b,_=>⟨fun _=>⟨b,rfl⟩,fun h=>(by cases h)⟩
 |r::rs,b,h=>by
  have e:=h r (.head _);have ec:=uH r;have et:Ev.turn (bK T n) (.nm 3) tR (J4 r) [Δ g,a,Δ m,b]=if r.all p=Θ then .ok (.rt (.bl Θ)) else .ok (.nx [Δ g,a,Δ m,Δ (J4 r)]):=by unfold tR;generalize J4 r=CD at *;cases hp:r.all p<;>rw[hp]at e<;>simp![Ev.iE,hg,hm,ec,e]
  rw[b_,Ev.dR,et,List.any_cons];cases hp:r.all p with
  |false=>exact zg n hg hm p a rs (Δ (J4 r)) fun d hd=>h d (.tail _ hd)
  |true=>exact⟨fun h=>(by cases h),fun _=>rfl⟩
theorem ES (n:Nat){g m:D}(hg:er g=g)(hm:er m=m)(p:Cn->Bool)(rs:List (List Cn))(h:∀r∈rs,bK T n 28 [g,J4 r,m]=.ok (.bl (r.all p))):bK T (n+1) 29 [g,.lst Ξ (rs.map J4),m]=.ok (.bl (rs.any (·.all p))):=by
 have l:=zg n hg hm p (Δ (.lst Ξ (rs.map J4))) rs Φ h;have ec:=mR rs;cases ha:rs.any (·.all p) with
 |false=>obtain⟨b,e⟩:=l.1 ha;unfold tR at e;rw[gx 29 TH 3 4 R6 rfl rfl rfl rfl rfl rfl];unfold R6;generalize rs.map J4=CS at *;simp![ec,e]
 |true=>have e:=l.2 ha;unfold tR at e;rw[gx 29 TH 3 4 R6 rfl rfl rfl rfl rfl rfl];unfold R6;generalize rs.map J4=CS at *;simp![ec,e]
noncomputable def lP (p:Cn->Bool)(gs:List Gp)(x:Str):Bool:=match gs.find? fun g=>g.nm == x with
 |some g=>g.rows.any (·.all p)
 |none=>Ξ
noncomputable def tG:List IS:=[(.JJ (.cmp .eq (.v 3) (.v 1)) [(.ret (.call 29 [(.v 0),(.v 4),(.v 2)]))] [])]
theorem zh (n:Nat){G m:D}(hg:er G=G)(hm:er m=m)(p:Cn->Bool)(x:Str):∀(gs:List Gp) (b c:Option D),(∀g∈gs,bK T n 29 [G,.lst Ξ (g.rows.map J4),m]=.ok (.bl (g.rows.any (·.all p))))->
  (∀g,gs.find? (fun g=>g.nm == x)=Δ g->forM (Ev.turn (bK T n) (.tp [(.nm 3),(.nm 4)]) tG) (gs.map Gp.d) [Δ G,Δ (.str x),Δ m,b,c]=.ok (.rt (.bl (g.rows.any (·.all p)))))/\
  (gs.find? (fun g=>g.nm == x)=Φ->∃b' c',forM (Ev.turn (bK T n) (.tp [(.nm 3),(.nm 4)]) tG) (gs.map Gp.d) [Δ G,Δ (.str x),Δ m,b,c]=.ok (.nx [Δ G,Δ (.str x),Δ m,b',c']))
 |[],b,c,_=>⟨fun g h=>(by cases h),fun _=>⟨b,c,rfl⟩⟩
 |g::gs,b,c,h=>by
  have e:=h g (.head _);have ec:=mR g.rows;have et:Ev.turn (bK T n) (.tp [(.nm 3),(.nm 4)]) tG g.d [Δ G,Δ (.str x),Δ m,b,c]=if(g.nm == x)=Θ then .ok (.rt (.bl (g.rows.any (·.all p)))) else .ok (.nx [Δ G,Δ (.str x),Δ m,Δ (.str g.nm),Δ (.lst Ξ (g.rows.map J4))]):=by unfold tG Gp.d;generalize g.rows.map J4=CD at *;cases hp:(g.nm == x)<;>simp![Ev.iE,hg,hm,ec,e,hp]
  rw[b_,Ev.dR,et,List.find?_cons];cases hp:(g.nm == x) with
  |true=>exact⟨fun q z=>(by cases z;rfl),fun z=>(by cases z)⟩
  |false=>exact zh n hg hm p x gs _ _ fun d hd=>h d (.tail _ hd)
theorem By (n:Nat){m:D}(hm:er m=m)(p:Cn->Bool)(x:Str)(gs:List Gp)(h:∀g∈gs,bK T n 29 [.lst Ξ (gs.map Gp.d),.lst Ξ (g.rows.map J4),m]=.ok (.bl (g.rows.any (·.all p)))):bK T (n+1) 30 [.lst Ξ (gs.map Gp.d),.str x,m]=.ok (.bl (lP p gs x)):=by
 have hg:er (.lst Ξ (gs.map Gp.d))=.lst Ξ (gs.map Gp.d):=by show D.lst Ξ (Jv _)=_;rw[qr]
 have l:=zh n hg hm p x gs Φ Φ h;have ec:=qr gs;unfold lP;cases ha:gs.find? (fun g=>g.nm == x) with
 |some g=>have e:=l.1 g ha;unfold tG at e;show _=Except.ok (D.bl (g.rows.any (·.all p)));rw[gx 30 TJ 3 5 R7 rfl rfl rfl rfl rfl rfl];unfold R7;generalize gs.map Gp.d=CS at *;simp![ec,e]
 |none=>obtain⟨b,c,e⟩:=l.2 ha;unfold tG at e;show _=Except.ok (D.bl Ξ);rw[gx 30 TJ 3 5 R7 rfl rfl rfl rfl rfl rfl];unfold R7;generalize gs.map Gp.d=CS at *;simp![ec,e]
noncomputable def pB (ms:List (Str×Tn))(c:Cn):Bool:=kC c.w c.ts (lN ms c.m)
noncomputable def jA (gs:List Gp)(ms:List (Str×Tn))(c:Cn):Bool:=if(c.w == Ρ "in")=Θ then lP (pB ms) gs c.m else if(c.w == Ρ "out")=Θ then !lP (pB ms) gs c.m else pB ms c
def PY (gs:List Gp):Prop:=∀g∈gs,∀r∈g.rows,∀c∈r,Wf c/\LQ c.w=Ξ
noncomputable def JI (gs:List Gp):D:=.lst Ξ (gs.map Gp.d)
noncomputable def JK (ms:List (Str×Tn)):D:=.lst Ξ (ms.map KA)
theorem jC (gs:List Gp):er (JI gs)=JI gs:=by show D.lst Ξ (Jv _)=_;rw[qr];rfl
theorem jG (ms:List (Str×Tn)):er (JK ms)=JK ms:=by show D.lst Ξ (Jv _)=_;rw[oN];rfl
theorem zi (n:Nat){gs:List Gp}(hg:PY gs)(ms:List (Str×Tn))(x:Str):bK T (n+6) 30 [JI gs,.str x,JK ms]=.ok (.bl (lP (pB ms) gs x)):=
 By (n+5) (jG ms) (pB ms) x gs fun g Nx=>ES (n+4) (jC gs) (jG ms) (pB ms) g.rows fun r hr=>uI (n+3) (jC gs) (jG ms) (pB ms) r fun c hc=>zd n (hg g Nx r hr c hc).1 (hg g Nx r hr c hc).2 (jC gs) ms
theorem Bz (n:Nat){gs:List Gp}(hg:PY gs)(ms:List (Str×Tn)){c:Cn}(wf:Wf c):bK T (n+7) 27 [JI gs,c.d,JK ms]=.ok (.bl (jA gs ms c)):=by
 cases hi:LQ c.w with
 |false=>have:=zd (n+4) wf hi (jC gs) ms;have h2:=Bool.or_eq_false_iff.mp (show((c.w == Ρ "in")||(c.w == Ρ "out"))=Ξ from hi);unfold jA;rw[d_ (by rw[h2.1];exact n_),d_ (by rw[h2.2];exact n_)];exact this
 |true=>
  have e:=zi n hg ms c.m;have eg:=jC gs;have em:=jG ms;unfold jA;obtain⟨cm,w,ts⟩:=c;show bK T (n+7) 27 [JI gs,.tup [.str cm,.str w,.lst Ξ (ts.map Tn.d)],JK ms]=.ok (.bl (if(w == Ρ "in")=Θ then lP (pB ms) gs cm else if(w == Ρ "out")=Θ then !lP (pB ms) gs cm else pB ms ⟨cm,w,ts⟩));have e:bK T (n+6) 30 [JI gs,.str cm,JK ms]=.ok (.bl (lP (pB ms) gs cm)):=e;generalize lP (pB ms) gs cm=B,JI gs=GD,JK ms=MD,ts.map Tn.d=TS at *;cases q1:(w == Ρ "in") with
  |true=>rw[e_ rfl];rw[gx 27 R4 3 5 PN rfl rfl rfl rfl rfl rfl];unfold PN;simp![q1,eg,em,e]
  |false=>
   have q2:(w == Ρ "out")=Θ:=by have hi:((w == Ρ "in")||(w == Ρ "out"))=Θ:=hi;rw[q1]at hi;exact hi
   rw[d_ n_,q2,e_ rfl];rw[gx 27 R4 3 5 PN rfl rfl rfl rfl rfl rfl];unfold PN;simp![q1,q2,eg,em,e]
theorem zj (n:Nat){gs:List Gp}(hg:PY gs)(ms:List (Str×Tn)){cs:List Cn}(wf:∀c∈cs,Wf c):bK T (n+8) 28 [JI gs,J4 cs,JK ms]=.ok (.bl (cs.all (jA gs ms))):=
 uI (n+7) (jC gs) (jG ms) (jA gs ms) cs fun c hc=>Bz n hg ms (wf c hc)
noncomputable def Jx (p:Int×Int):D:=.tup [.int p.1,.int p.2]
theorem jd (l:List (Int×Int)):Jv (l.map Jx)=l.map Jx:=by rw[ji,K_];rfl
noncomputable def TQ (day:Int)(s:Int)(p:Int×Int):Int:=if decide (p.1<=day)=Θ then p.2 else s
noncomputable def shr (st:List (Int×Int))(day:Int):Int:=st.foldl (TQ day) 0
noncomputable def TR:List IS:=[(.JJ (.cmp .le (.v 3) (.v 1)) [(.asg (.nm 2) (.v 4))] [])]
theorem zk (cl:Nat->List D->Res D)(a:Option D)(day:Int):∀(st:List (Int×Int)) (s:Int) (b c:Option D),∃b' c',forM (Ev.turn cl (.tp [(.nm 3),(.nm 4)]) TR) (st.map Jx) [a,Δ (.int day),Δ (.int s),b,c]=.ok (.nx [a,Δ (.int day),Δ (.int (st.foldl (TQ day) s)),b',c'])
 |[],s,b,c=>⟨b,c,rfl⟩
 |p::st,s,b,c=>by
  have et:Ev.turn cl (.tp [(.nm 3),(.nm 4)]) TR (Jx p) [a,Δ (.int day),Δ (.int s),b,c]=.ok (.nx [a,Δ (.int day),Δ (.int (TQ day s p)),Δ (.int p.1),Δ (.int p.2)]):=by unfold TR Jx TQ;cases h:decide (p.1<=day)<;>simp![Ev.iE,h]
  rw[b_,Ev.dR,et,W_];exact zk cl a day st _ _ _
theorem uJ {f:Nat}{fn:Fn}(hT:T f=Δ fn)(MY:fn.io=Ξ)(h1:fn.np=2)(h2:fn.G.N.length=5)(h3:fn.body=Tx)(n:Nat)(st:List (Int×Int))(day:Int):bK T (n+1) f [.lst Ξ (st.map Jx),.int day]=.ok (.int (shr st day)):=by obtain⟨b,c,e⟩:=zk (bK T n) (Δ (.lst Ξ (st.map Jx))) day st 0 Φ Φ;have ep:=jd st;unfold TR at e;rw[Ev.go hT MY h1 h2 h3 rfl];unfold Tx shr;generalize st.map Jx=ST at *;simp![ep,e]
theorem rO (n:Nat)(st:List (Int×Int))(day:Int):bK T (n+1) 31 [.lst Ξ (st.map Jx),.int day]=.ok (.int (shr st day)):=uJ (fn:=Vy) rfl rfl rfl rfl rfl n st day
theorem pO (n:Nat)(st:List (Int×Int))(day:Int):bK T (n+1) 54 [.lst Ξ (st.map Jx),.int day]=.ok (.int (shr st day)):=uJ (fn:=V8) rfl rfl rfl rfl rfl n st day
noncomputable def PZ (z:Int)(p:Int×Int):Bool:=decide (p.1<=z)&&decide (z < p.2)
noncomputable def inR (z:Int)(run:List (Int×Int)):Bool:=run.any (PZ z)
noncomputable def tI:List IS:=[(.JJ (.chain .le .lt (.v 3) (.v 1) (.v 4)) [(.ret (.bin .sub (.bin .add (.v 2) (.v 1)) (.v 3)))] []),(.asg (.nm 2) (.bin .sub (.bin .add (.v 2) (.v 4)) (.v 3)))]
theorem zm (cl:Nat->List D->Res D)(a:Option D)(z:Int):∀(run:List (Int×Int)) (s:Int) (b c:Option D),
  (inR z run=Θ->∃i:Int,forM (Ev.turn cl (.tp [(.nm 3),(.nm 4)]) tI) (run.map Jx) [a,Δ (.int z),Δ (.int s),b,c]=.ok (.rt (.int i)))/\
  (inR z run=Ξ->∃s' b' c',forM (Ev.turn cl (.tp [(.nm 3),(.nm 4)]) tI) (run.map Jx) [a,Δ (.int z),Δ (.int s),b,c]=.ok (.nx [a,Δ (.int z),s',b',c']))
 |[],s,b,c=>⟨fun h=>(by cases h),fun _=>⟨_,b,c,rfl⟩⟩
 |p::run,s,b,c=>by
  have et:Ev.turn cl (.tp [(.nm 3),(.nm 4)]) tI (Jx p) [a,Δ (.int z),Δ (.int s),b,c]=if PZ z p=Θ then .ok (.rt (.int (s+z - p.1))) else .ok (.nx [a,Δ (.int z),Δ (.int (s+p.2 - p.1)),Δ (.int p.1),Δ (.int p.2)]):=by unfold tI Jx PZ;cases h:decide (p.1<=z)<;>cases h':decide (z < p.2)<;>simp![Ev.iE,h,h',Bool.and_true,Bool.and_false,Bool.true_and,Bool.false_and]
  rw[b_,Ev.dR,et];unfold inR;rw[List.any_cons];cases h:PZ z p with
  |true=>exact⟨fun _=>⟨_,rfl⟩,fun z=>(by cases z)⟩
  |false=>exact zm cl a z run _ _ _
theorem ET (n:Nat)(run:List (Int×Int))(z:Int):∃d,bK T (n+1) 23 [.lst Ξ (run.map Jx),.int z]=.ok d/\Kg .Lh d .Jt=.ok (inR z run):=by
 have l:=zm (bK T n) (Δ (.lst Ξ (run.map Jx))) z run 0 Φ Φ;have ep:=jd run;cases h:inR z run with
 |true=>obtain⟨i,e⟩:=l.1 h;unfold tI at e;refine⟨.int i,?_,rfl⟩;rw[gx 23 Tz 2 5 RZ rfl rfl rfl rfl rfl rfl];unfold RZ;generalize run.map Jx=ST at *;simp![ep,e]
 |false=>obtain⟨s,b,c,e⟩:=l.2 h;unfold tI at e;refine⟨.Jt,?_,rfl⟩;rw[gx 23 Tz 2 5 RZ rfl rfl rfl rfl rfl rfl];unfold RZ;generalize run.map Jx=ST at *;simp![ep,e]
abbrev Al:=List (Str×List (Int×Int))
noncomputable def Kv (p:Str×List (Int×Int)):D:=.tup [.str p.1,.lst Ξ (p.2.map Jx)]
noncomputable def J5 (al:Al)(fr:List (Int×Int)):D:=.tup [.lst Ξ (al.map Kv),.lst Ξ (fr.map Jx)]
theorem G8 (p:Str×List (Int×Int)):er (Kv p)=Kv p:=by show D.tup [.str p.1,.lst Ξ (Jv (p.2.map Jx))]=_;rw[jd];rfl
theorem oO (al:Al):Jv (al.map Kv)=al.map Kv:=by rw[ji,K_];exact aat fun p _=>G8 p
theorem pP (al:Al)(fr:List (Int×Int)):er (J5 al fr)=J5 al fr:=by show D.tup [.lst Ξ (Jv (al.map Kv)),.lst Ξ (Jv (fr.map Jx))]=_;rw[oO,jd];rfl
noncomputable def Mm (al:Al)(z:Int):Option Str:=(al.find? fun p=>inR z p.2).map (·.1)
noncomputable def oD:Option Str->D
 |some x=>.str x
 |none=>.Jt
noncomputable def tF:List IS:=[(.JJ (.cmp .Lh (.call 23 [(.v 3),(.v 1)]) (.c .Jt)) [(.ret (.v 2))] [])]
theorem zo (n:Nat)(a:Option D)(z:Int):∀(al:Al) (b c:Option D),
  (∀x,Mm al z=Δ x->forM (Ev.turn (bK T (n+1)) (.tp [(.nm 2),(.nm 3)]) tF) (al.map Kv) [a,Δ (.int z),b,c]=.ok (.rt (.str x)))/\
  (Mm al z=Φ->∃b' c',forM (Ev.turn (bK T (n+1)) (.tp [(.nm 2),(.nm 3)]) tF) (al.map Kv) [a,Δ (.int z),b,c]=.ok (.nx [a,Δ (.int z),b',c']))
 |[],b,c=>⟨fun x h=>(by cases h),fun _=>⟨b,c,rfl⟩⟩
 |p::al,b,c=>by
  obtain⟨d,e1,e2⟩:=ET n p.2 z;have ep:=jd p.2;have et:Ev.turn (bK T (n+1)) (.tp [(.nm 2),(.nm 3)]) tF (Kv p) [a,Δ (.int z),b,c]=if inR z p.2=Θ then .ok (.rt (.str p.1)) else .ok (.nx [a,Δ (.int z),Δ (.str p.1),Δ (.lst Ξ (p.2.map Jx))]):=by unfold tF Kv;generalize p.2.map Jx=PD at *;cases h:inR z p.2<;>rw[h]at e2<;>simp![Ev.iE,ep,e1,e2]
  rw[b_,Ev.dR,et];unfold Mm;rw[List.find?_cons];cases h:inR z p.2 with
  |true=>exact⟨fun x z=>(by cases z;rfl),fun z=>(by cases z)⟩
  |false=>exact zo n a z al _ _
theorem BA (n:Nat)(al:Al)(fr:List (Int×Int))(z:Int):bK T (n+2) 24 [J5 al fr,.int z]=.ok (oD (Mm al z)):=by
 have l:=zo n (Δ (J5 al fr)) z al Φ Φ;have x0:iQ (J5 al fr) (.int 0)=.ok (.lst Ξ (al.map Kv)):=rfl;have ea:=pP al fr;have ef:=oO al;unfold tF at l;cases h:Mm al z with
 |some x=>have e:=l.1 x h;show _=Except.ok (D.str x);rw[gx 24 TB 2 4 R0 rfl rfl rfl rfl rfl rfl];unfold R0;generalize J5 al fr=AD,al.map Kv=FD at *;simp![x0,ea,ef,e]
 |none=>obtain⟨b,c,e⟩:=l.2 h;show _=Except.ok D.Jt;rw[gx 24 TB 2 4 R0 rfl rfl rfl rfl rfl rfl];unfold R0;generalize J5 al fr=AD,al.map Kv=FD at *;simp![x0,ea,ef,e]
inductive Oc where
 | face (f:Str)|share (f:Str) (st:List (Int×Int))|NN
noncomputable def Oc.d:Oc->D
 |.face f=>.tup [.str "face",.str f]
 |.share f st=>.tup [.str "share",.str f,.lst Ξ (st.map Jx)]
 |.NN=>.tup [.str "lot"]
theorem uK (o:Oc):er o.d=o.d:=by
 cases o with
 |share f st=>show D.tup [.str "share",.str f,.lst Ξ (Jv (st.map Jx))]=_;rw[jd];rfl
 |_=>rfl
noncomputable def P0 (al:Al)(day z:Int):Oc->Option Str
 |.face f=>Δ f
 |.share f st=>if decide (z < shr st day)=Θ then Δ f else Φ
 |.NN=>Mm al z
theorem TU:(Ρ "share" == Ρ "face")=Ξ:=by decide +kernel
theorem Wo:(Ρ "lot" == Ρ "face")=Ξ:=by decide +kernel
theorem Ss:(Ρ "lot" == Ρ "share")=Ξ:=by decide +kernel
theorem outcome (n:Nat)(o:Oc)(al:Al)(fr:List (Int×Int))(day z:Int):bK T (n+3) 32 [o.d,J5 al fr,.int day,.int z]=.ok (oD (P0 al day z o)):=by
 have e1:=BA n al fr z;have ea:=pP al fr;cases o with
 |face f=>show bK T (n+3) 32 [.tup [.str "face",.str f],J5 al fr,.int day,.int z]=.ok (.str f);generalize J5 al fr=AD at *;rw[gx 32 Qx 4 4 Ol rfl rfl rfl rfl rfl rfl];unfold Ol;simp![Js]
 |share f st=>
  have e2:=rO (n+1) st day;have ep:=jd st;show bK T (n+3) 32 [.tup [.str "share",.str f,.lst Ξ (st.map Jx)],J5 al fr,.int day,.int z]=.ok (oD (if decide (z < shr st day)=Θ then Δ f else Φ));generalize J5 al fr=AD,st.map Jx=PD at *;cases h:decide (z < shr st day) with
  |true=>rw[e_ rfl];show _=Except.ok (D.str f);rw[gx 32 Qx 4 4 Ol rfl rfl rfl rfl rfl rfl];unfold Ol;simp![TU,ep,e2,h]
  |false=>rw[d_ n_];show _=Except.ok D.Jt;rw[gx 32 Qx 4 4 Ol rfl rfl rfl rfl rfl rfl];unfold Ol;simp![TU,ep,e2,h]
 |NN=>
  show bK T (n+3) 32 [.tup [.str "lot"],J5 al fr,.int day,.int z]=.ok (oD (Mm al z));have lo:iH (oD (Mm al z))=Θ:=by cases Mm al z<;>rfl
  generalize J5 al fr=AD,oD (Mm al z)=OD at *;rw[gx 32 Qx 4 4 Ol rfl rfl rfl rfl rfl rfl];unfold Ol;simp![Wo,Ss,ea,e1,lo]
structure Rl where
 cs:List Cn
 o:Oc
noncomputable def Rl.d (r:Rl):D:=.tup [J4 r.cs,r.o.d]
theorem G9 (r:Rl):er r.d=r.d:=by show D.tup [er (J4 r.cs),er r.o.d]=_;rw[uH,uK];rfl
theorem mS (rs:List Rl):Jv (rs.map Rl.d)=rs.map Rl.d:=by rw[ji,K_];exact aat fun r _=>G9 r
noncomputable def idx (rs:List Rl):List (Nat×Rl):=(List.range rs.length).zip rs
noncomputable def inD (q:Nat×Rl):D:=.tup [.int (q.1:Nat),q.2.d]
theorem EU (rs:List Rl):n0 (rs.map Rl.d)=(idx rs).map inD:=by unfold n0 idx;rw[i_,List.zipWith_map_right,List.zip,List.map_zipWith];rfl
theorem zq {rs:List Rl}{q:Nat×Rl}(h:q∈idx rs):rs[q.1]? = Δ q.2/\q.2∈rs/\q.1 < rs.length:=by obtain⟨k,hk⟩:=aaj.mp h;obtain⟨h1,h2⟩:=List.getElem?_zip_eq_some.mp hk;obtain⟨h3,h4⟩:=x_.mp h1;rw[List.getElem_range]at h4;rw[<- h4];exact⟨h2,aak h2,by rw[aac]at h3;exact h3⟩
noncomputable def JF (salt rest:Str)(rs:List Rl)(al:Al)(fr:List (Int×Int)):D:=.tup [.str salt,.str rest,.lst Ξ (rs.map Rl.d),J5 al fr]
theorem ku (salt rest:Str)(rs:List Rl)(al:Al)(fr:List (Int×Int)):er (JF salt rest rs al fr)=JF salt rest rs al fr:=by show D.tup [.str salt,.str rest,.lst Ξ (Jv (rs.map Rl.d)),er (J5 al fr)]=_;rw[mS,pP];rfl
theorem zr {α:Type}{g:D->Res (Option D)}(MF:α->D)(p:α->Bool)(out:α->D):∀xs:List α,(∀x∈xs,g (MF x)=.ok (if p x=Θ then Δ (out x) else Φ))->iP g (xs.map MF)=.ok ((xs.filter p).map out)
 |[],_=>rfl
 |x::xs,h=>by
  have ih:=zr MF p out xs fun y hy=>h y (H_ _ hy);rw[b_,List.filter_cons];show Iq (g (MF x)) _=_;rw[h x (.head _)];cases p x with
  |true=>show Iq (iP _ _) _=_;rw[ih];rfl
  |false=>exact ih
noncomputable def LF (q:Nat×Rl):D:=.int (q.1:Nat)
theorem BB (n:Nat){gs:List Gp}(hg:PY gs)(ms:List (Str×Tn))(salt rest:Str){rs:List Rl}(al:Al)(fr:List (Int×Int))(wf:∀r∈rs,∀c∈r.cs,Wf c)(hl:rs.length<=100) :
  bK T (n+9) 33 [JI gs,JF salt rest rs al fr,JK ms]=.ok (.lst Θ (((idx rs).filter fun q=>q.2.cs.all (jA gs ms)).map LF)):=by
 have x2:iQ (JF salt rest rs al fr) (.int 2)=.ok (.lst Ξ (rs.map Rl.d)):=rfl;have en:=EU rs;have eg:=jC gs;have em:=jG ms;have fm:iP (jb (bK T (n+8)) (.tp [(.nm 2),(.nm 3)]) [(.call 28 [(.v 0),(.idx (.v 3) (.c (.int 0))),(.v 1)])] (.v 2) [Δ (JI gs),Δ (JK ms),Φ,Φ]) ((idx rs).map inD)=.ok (((idx rs).filter fun q=>q.2.cs.all (jA gs ms)).map LF):=by refine zr inD (fun q=>q.2.cs.all (jA gs ms)) LF (idx rs) fun q hq=>?_;have e:=zj n hg ms (wf q.2 (zq hq).2.1);have x0:iQ q.2.d (.int 0)=.ok (J4 q.2.cs):=rfl;have Yh:=uH q.2.cs;unfold inD LF;generalize JI gs=GD,JK ms=MD,q.2.d=RD,J4 q.2.cs=WD at *;cases h:q.2.cs.all (jA gs ms)<;>rw[h]at e<;>simp![Ev.iE,eg,em,Yh,x0,e]
 have le:((idx rs).map inD).length<=100:=by rw[<- en];unfold n0;rw[List.length_zipWith,aac,i_];omega
 have lf:iD (((idx rs).filter fun q=>q.2.cs.all (jA gs ms)).map LF)=Θ:=by rw[iU,List.all_map];exact R_.mpr fun _ _=>rfl
 rw[gx 33 VA 3 3 Vz rfl rfl rfl rfl rfl rfl];unfold Vz;generalize JF salt rest rs al fr=S,((idx rs).filter fun q=>q.2.cs.all (jA gs ms)).map LF=N,(idx rs).map inD=IN,rs.map Rl.d=RS,JI gs=GD,JK ms=MD at *;simp![x2,en,fm,lf]
noncomputable def tA:List IS:=[(.asg (.nm 5) (.call 32 [(.idx (.idx (.idx (.v 0) (.c (.int 2))) (.v 4)) (.c (.int 1))),(.idx (.v 0) (.c (.int 3))),(.v 1),(.v 3)])),(.JJ (.cmp .Lh (.v 5) (.c .Jt)) [(.ret (.tup [(.v 5),(.v 4)]))] [])]
noncomputable def fst (al:Al)(day z:Int)(l:List (Nat×Rl)):Option (Str×Nat):=match l with
 |[]=>Φ
 |q::l=>match P0 al day z q.2.o with
  |some f=>Δ (f,q.1)
  |none=>fst al day z l
theorem zt (n:Nat)(salt rest:Str){rs:List Rl}(al:Al)(fr:List (Int×Int))(day z:Int)(N:Option D):∀(l:List (Nat×Rl)),(∀q∈l,q∈idx rs)->∀(b c:Option D),
  (∀f i,fst al day z l=Δ (f,i)->forM (Ev.turn (bK T (n+3)) (.nm 4) tA) (l.map LF) [Δ (JF salt rest rs al fr),Δ (.int day),N,Δ (.int z),b,c]=.ok (.rt (.tup [.str f,.int (i:Nat)])))/\
  (fst al day z l=Φ->∃b' c',forM (Ev.turn (bK T (n+3)) (.nm 4) tA) (l.map LF) [Δ (JF salt rest rs al fr),Δ (.int day),N,Δ (.int z),b,c]=.ok (.nx [Δ (JF salt rest rs al fr),Δ (.int day),N,Δ (.int z),b',c']))
 |[],_,b,c=>⟨fun f i h=>(by cases h),fun _=>⟨b,c,rfl⟩⟩
 |q::l,hl,b,c=>by
  have hq:=zq (hl q (.head _));have e:=outcome n q.2.o al fr day z;have x2:iQ (JF salt rest rs al fr) (.int 2)=.ok (.lst Ξ (rs.map Rl.d)):=rfl;have x3:iQ (JF salt rest rs al fr) (.int 3)=.ok (J5 al fr):=rfl;have xi:iQ (.lst Ξ (rs.map Rl.d)) (.int (q.1:Nat))=.ok q.2.d:=by rw[Ev.Tr];unfold KG KU;rw[e_ (Int.natCast_nonneg _),e_ (by rw[i_];have:=hq.2.2;omega)];show(match(rs.map Rl.d)[((q.1:Nat):Int).toNat]? with|some d=>_|none=>_)=_;rw[Int.toNat_natCast,y_,hq.1];rfl
  have y1:iQ q.2.d (.int 1)=.ok q.2.o.d:=rfl;have eo:=uK q.2.o;have ea:=pP al fr;unfold LF;rw[b_,Ev.dR];show(∀f i,fst al day z (q::l)=Δ (f,i)->Iq (Ev.turn (bK T (n+3)) (.nm 4) tA (.int (q.1:Nat)) _) _=_)/\(fst al day z (q::l)=Φ->∃b' c',Iq (Ev.turn (bK T (n+3)) (.nm 4) tA (.int (q.1:Nat)) _) _=_)
  unfold fst;cases h:P0 al day z q.2.o with
  |some f=>
   rw[h]at e;have e:bK T (n+3) 32 [q.2.o.d,J5 al fr,.int day,.int z]=.ok (.str f):=e;have et:Ev.turn (bK T (n+3)) (.nm 4) tA (.int (q.1:Nat)) [Δ (JF salt rest rs al fr),Δ (.int day),N,Δ (.int z),b,c]=.ok (.rt (.tup [.str f,.int (q.1:Nat)])):=by unfold tA;generalize JF salt rest rs al fr=S,rs.map Rl.d=RS,q.2.d=QD,q.2.o.d=OD,J5 al fr=AD at *;simp![Ev.iE,x2,x3,xi,y1,eo,ea,e]
   rw[et];exact⟨fun f i z=>(by cases z;rfl),fun z=>(by cases z)⟩
  |none=>
   rw[h]at e;have e:bK T (n+3) 32 [q.2.o.d,J5 al fr,.int day,.int z]=.ok .Jt:=e;have et:Ev.turn (bK T (n+3)) (.nm 4) tA (.int (q.1:Nat)) [Δ (JF salt rest rs al fr),Δ (.int day),N,Δ (.int z),b,c]=.ok (.nx [Δ (JF salt rest rs al fr),Δ (.int day),N,Δ (.int z),Δ (.int (q.1:Nat)),Δ .Jt]):=by unfold tA;generalize JF salt rest rs al fr=S,rs.map Rl.d=RS,q.2.d=QD,q.2.o.d=OD,J5 al fr=AD at *;simp![Ev.iE,x2,x3,xi,y1,eo,ea,e]
   rw[et];exact zt n salt rest al fr day z N l (fun q hq=>hl q (.tail _ hq)) _ _
noncomputable def dcD (rest:Str)(k:Nat):Option (Str×Nat)->D
 |some (f,i)=>.tup [.str f,.int (i:Nat)]
 |none=>.tup [.str rest,.int (k:Nat)]
theorem zu (l:List (Nat×Rl)):Jv (l.map LF)=l.map LF:=by rw[ji,K_];rfl
theorem among (n:Nat)(salt rest:Str){rs:List Rl}(al:Al)(fr:List (Int×Int))(day z:Int)(l:List (Nat×Rl))(hl:∀q∈l,q∈idx rs) :
  bK T (n+4) 34 [JF salt rest rs al fr,.int day,.lst Ξ (l.map LF),.int z]=.ok (dcD rest rs.length (fst al day z l)):=by
 have a:=zt n salt rest al fr day z (Δ (.lst Ξ (l.map LF))) l hl Φ Φ;have en:=zu l;have x1:iQ (JF salt rest rs al fr) (.int 1)=.ok (.str rest):=rfl;have x2:iQ (JF salt rest rs al fr) (.int 2)=.ok (.lst Ξ (rs.map Rl.d)):=rfl;have ln:(rs.map Rl.d).length=rs.length:=i_ _;unfold tA at a;cases h:fst al day z l with
 |some p=>obtain⟨f,i⟩:=p;have e:=a.1 f i h;show _=Except.ok (D.tup [.str f,.int (i:Nat)]);rw[gx 34 TK 4 6 R8 rfl rfl rfl rfl rfl rfl];unfold R8;generalize JF salt rest rs al fr=S,l.map LF=L at *;simp![en,e]
 |none=>obtain⟨b,c,e⟩:=a.2 h;show _=Except.ok (D.tup [.str rest,.int (rs.length:Nat)]);rw[gx 34 TK 4 6 R8 rfl rfl rfl rfl rfl rfl];unfold R8;generalize JF salt rest rs al fr=S,l.map LF=L,rs.map Rl.d=RS at *;simp![en,e,x1,x2,ln]
noncomputable def mF (x:Str)(o:Option Tn)(p:Str×Tn):Option Tn:=if(p.1 == x)=Θ then Δ p.2 else o
theorem CB (x:Str):∀(ms:List (Str×Tn)) (o:Option Tn),x∉ms.map (·.1)->ms.foldl (mF x) o=o
 |[],o,_=>rfl
 |p::ms,o,h=>by
  rw[b_,k_,not_or]at h;rw[W_];have:mF x o p=o:=by unfold mF;rw[d_ (fun z=>h.1 (by simpa using z:p.1=x).symm)]
  rw[this];exact CB x ms o h.2
theorem CC (x:Str):∀(ms:List (Str×Tn)),(ms.map (·.1)).Nodup->ms.foldl (mF x) Φ=lN ms x
 |[],_=>rfl
 |p::ms,h=>by
  rw[b_,E_]at h;rw[W_];unfold lN;rw[List.find?_cons];unfold mF;cases q:(p.1 == x) with
  |true=>
   have e:p.1=x:=by simpa using q
   rw[e_ rfl];exact CB x ms (Δ p.2) (e ▸ h.1)
  |false=>rw[d_ n_];exact CC x ms h.2
noncomputable def P2:List IS:=[(.JJ (.cmp .eq (.v 7) (.v 3)) [(.asg (.nm 9) (.v 10))] [])]
theorem zw (cl:Nat->List D->Res D)(x:Str)(a0 a1 a2 a4 a5 a6 a8:Option D):∀(ms:List (Str×Tn)) (o:Option Tn) (b c:Option D),∃b' c',forM (Ev.turn cl (.tp [(.nm 7),(.nm 10)]) P2) (ms.map KA) [a0,a1,a2,Δ (.str x),a4,a5,a6,b,a8,Δ (mD o),c]=.ok (.nx [a0,a1,a2,Δ (.str x),a4,a5,a6,b',a8,Δ (mD (ms.foldl (mF x) o)),c'])
 |[],o,b,c=>⟨b,c,rfl⟩
 |p::ms,o,b,c=>by
  have et:Ev.turn cl (.tp [(.nm 7),(.nm 10)]) P2 (KA p) [a0,a1,a2,Δ (.str x),a4,a5,a6,b,a8,Δ (mD o),c]=.ok (.nx [a0,a1,a2,Δ (.str x),a4,a5,a6,Δ (.str p.1),a8,Δ (mD (mF x o p)),Δ p.2.d]):=by
   have et:=CA p.2;have m2:mD (Δ p.2)=p.2.d:=rfl;unfold P2 KA mF;cases h:(p.1 == x) with
   |true=>rw[e_ rfl,m2];generalize p.2.d=PD,mD o=OD at *;simp![Ev.iE,h,et]
   |false=>rw[d_ n_];generalize p.2.d=PD,mD o=OD at *;simp![Ev.iE,h,et]
  rw[b_,Ev.dR,et,W_];exact zw cl x a0 a1 a2 a4 a5 a6 a8 ms _ _ _
noncomputable def Yi:Gm:={N:=["_law_marks","_law_row"],kd:=[.cell,.local],gl:=[9],df:=Ξ}
noncomputable def TV:Gm:={N:=["_law_marks","_law_other"],kd:=[.cell,.local],gl:=[53],df:=Ξ}
noncomputable def Yj:Gm:={N:=["_law_thing","_law_other"],kd:=[.cell,.local],gl:=[],df:=Ξ}
noncomputable def P4:List IS:=[(.JJ (.cmp .eq (.v 7) (.v 3)) [(.asg (.nm 6) (.bi .any [(.comp Yi [2] (.nm 1) (.val (.v 8)) [] (.bi .all [(.comp TV [0] (.nm 1) (.val (.v 1)) [] (.call 53 [(.lst []),(.v 1),(.v 0)]))]))]))] [])]
noncomputable def Su:List IS:=[(.JJ (.Lf (.cmp .eq (.v 4) (.c (.str "is"))) (.cmp .eq (.v 4) (.c (.str "not")))) [(.ret (.cmp .eq (.cmp .M3 (.v 9) (.v 5)) (.cmp .eq (.v 4) (.c (.str "is")))))] []),(.JJ (.cmp .eq (.v 4) (.c (.str "begins"))) [(.ret (.JX (.Kz (.v 9) .str) (.bi .any [(.comp Yj [9] (.nm 1) (.val (.v 5)) [] (.L9 .starts (.v 0) [(.v 1)]))])))] []),(.JJ (.cmp .eq (.v 4) (.c (.str "least"))) [(.ret (.JX (.Kz (.v 9) .int) (.cmp .ge (.v 9) (.idx (.v 5) (.c (.int 0))))))] []),(.JJ (.cmp .eq (.v 4) (.c (.str "most"))) [(.ret (.JX (.Kz (.v 9) .int) (.cmp .le (.v 9) (.idx (.v 5) (.c (.int 0))))))] []),(.ret (.cmp .eq (.cmp .Lh (.v 9) (.c .Jt)) (.cmp .eq (.v 4) (.c (.str "has")))))]
noncomputable def Wq:List IS:=(.asg (.tp [(.nm 3),(.nm 4),(.nm 5)]) (.v 1))::(.JJ (.Lf (.cmp .eq (.v 4) (.c (.str "in"))) (.cmp .eq (.v 4) (.c (.str "out")))) [(.asg (.nm 6) (.c (.bl Ξ))),(.JH (.tp [(.nm 7),(.nm 8)]) (.val (.v 0)) P4),(.ret (.cmp .eq (.v 6) (.cmp .eq (.v 4) (.c (.str "in")))))] [])::(.asg (.nm 9) (.c .Jt))::(.JH (.tp [(.nm 7),(.nm 10)]) (.val (.v 2)) P2)::Su
theorem zx:Nw.body=Wq:=rfl
theorem Ha (cl:Nat->List D->Res D)(a0 a1 a2 a3 a6 a7 a8 MZ:Option D){c:Cn}(wf:Wf c)(x:Option Tn):jf cl Su [a0,a1,a2,a3,Δ (.str c.w),Δ (.lst Ξ (c.ts.map Tn.d)),a6,a7,a8,Δ (mD x),MZ]=.ok (.rt (.bl (kC c.w c.ts x))):=by
 obtain⟨cm,w,ts⟩:=c;have wl:ts.length<=100:=wf.len;show jf cl Su [a0,a1,a2,a3,Δ (.str w),Δ (.lst Ξ (ts.map Tn.d)),a6,a7,a8,Δ (mD x),MZ]=.ok (.rt (.bl (kC w ts x)));have i1:=G2 Ξ x ts;have i4:=y3 x;have eq:kC w ts x=if((w == Ρ "is")||(w == Ρ "not"))=Θ then(PX x ts == (w == Ρ "is")) else if(w == Ρ "begins")=Θ then G4 x ts
  else if(w == Ρ "least")=Θ then leB x ts else if(w == Ρ "most")=Θ then So x ts else(x.isSome == (w == Ρ "has")):=by
  unfold kC;cases(w == Ρ "is")<;>cases(w == Ρ "not")<;>cases(w == Ρ "has")<;>cases PX x ts<;>cases x.isSome<;>rfl
 have ho:∀τ:Ev,iF τ 4=Δ (.str w)->IC cl (.Lf (.cmp .eq (.v 4) (.c (.str "is"))) (.cmp .eq (.v 4) (.c (.str "not")))) τ=.ok (.bl ((w == Ρ "is")||(w == Ρ "not"))):=fun τ h=>by
  cases q:(w == Ρ "is") with
  |true=>simp![h,q]
  |false=>simp![h,q]
 rw[eq];unfold Su;refine lE (ho _ rfl) (fun _=>?_) fun _=>lE rfl (fun q=>?_) fun _=>lE rfl (fun q=>?_) fun _=>lE rfl (fun q=>?_) fun _=>?_
 ·generalize mD x=X,ts.map Tn.d=TS at *;simp![i1]
 ·rcases x with _|(a|a)
  ·rfl
  ·rfl
  ·have f:=sU cl a ts (wf.Yg q);have ai:=za a ts;have lt:(ts.map Tn.d).length=ts.length:=i_ _;show Ko _ _ [a0,a1,a2,a3,Δ (.str w),Δ (.lst Ξ (ts.map Tn.d)),a6,a7,a8,Δ (.str a),MZ]=Except.ok (Fl.rt (D.bl (ts.any (OM a))));unfold Yj;generalize ts.map Tn.d=TS,ts.map (OM a)=BS at *;simp![f,ai,lt]
 ·rcases x with _|(a|a)
  ·rfl
  ·have l:=(uG (cl:=cl) (i:=9) (j:=5) (τ:=[a0,a1,a2,a3,Δ (.str w),Δ (.lst Ξ (ts.map Tn.d)),a6,a7,a8,Δ (.int a),MZ]) (x:=Δ (.i a)) rfl rfl (wf.lm (.inl q)) rfl).1;show Ko _ _ [a0,a1,a2,a3,Δ (.str w),Δ (.lst Ξ (ts.map Tn.d)),a6,a7,a8,Δ (.int a),MZ]=_;generalize leB (Δ (.i a)) ts=L,ts.map Tn.d=TS,IR.cmp .ge (.v 9) (.idx (.v 5) (.c (.int 0)))=K at *;simp![l]
  ·rfl
 ·rcases x with _|(a|a)
  ·rfl
  ·have l:=(uG (cl:=cl) (i:=9) (j:=5) (τ:=[a0,a1,a2,a3,Δ (.str w),Δ (.lst Ξ (ts.map Tn.d)),a6,a7,a8,Δ (.int a),MZ]) (x:=Δ (.i a)) rfl rfl (wf.lm (.inr q)) rfl).2;show Ko _ _ [a0,a1,a2,a3,Δ (.str w),Δ (.lst Ξ (ts.map Tn.d)),a6,a7,a8,Δ (.int a),MZ]=_;generalize So (Δ (.i a)) ts=L,ts.map Tn.d=TS,IR.cmp .le (.v 9) (.idx (.v 5) (.c (.int 0)))=K at *;simp![l]
  ·rfl
 ·generalize mD x=X,ts.map Tn.d=TS at *;simp![i4]
theorem uL (n:Nat){c:Cn}(wf:Wf c)(hi:LQ c.w=Ξ)(g:D){ms:List (Str×Tn)}(nd:(ms.map (·.1)).Nodup):bK T (n+1) 53 [g,c.d,JK ms]=.ok (.bl (pB ms c)):=by obtain⟨b,c',e0⟩:=zw (bK T n) c.m (Δ g) (Δ c.d) (Δ (JK ms)) (Δ (.str c.w)) (Δ (.lst Ξ (c.ts.map Tn.d))) Φ Φ ms Φ Φ Φ;rw[CC c.m ms nd]at e0;have e1:=Ha (bK T n) (Δ g) (Δ c.d) (Δ (JK ms)) (Δ (.str c.m)) Φ b Φ c' wf (lN ms c.m);unfold pB;have ec:=kW c;generalize kC c.w c.ts (lN ms c.m)=HB,mD (lN ms c.m)=X at *;have hi:((c.w == Ρ "in")||(c.w == Ρ "out"))=Ξ:=hi;rw[Bool.or_eq_false_iff]at hi;obtain⟨p1,p2⟩:=hi;have st:jM (.tp [(.nm 3),(.nm 4),(.nm 5)]) c.d [Δ g,Δ c.d,Δ (JK ms),Φ,Φ,Φ,Φ,Φ,Φ,Φ,Φ]=.ok [Δ g,Δ c.d,Δ (JK ms),Δ (.str c.m),Δ (.str c.w),Δ (.lst Ξ (c.ts.map Tn.d)),Φ,Φ,Φ,Φ,Φ]:=rfl;have vm:kU (JK ms)=.ok (ms.map KA):=rfl;have em:=oN ms;have Yk:=jG ms;have e0:forM (Ev.turn (bK T n) (.tp [(.nm 7),(.nm 10)]) P2) (ms.map KA) [Δ g,Δ c.d,Δ (JK ms),Δ (.str c.m),Δ (.str c.w),Δ (.lst Ξ (c.ts.map Tn.d)),Φ,Φ,Φ,Δ .Jt,Φ]=.ok (.nx [Δ g,Δ c.d,Δ (JK ms),Δ (.str c.m),Δ (.str c.w),Δ (.lst Ξ (c.ts.map Tn.d)),Φ,b,Φ,Δ X,c']):=e0;rw[Ev.go (show T 53=Δ Nw from rfl) (show Nw.io=Ξ from rfl) (show Nw.np=3 from rfl) (show Nw.G.N.length=11 from rfl) zx rfl];unfold Wq;generalize c.d=CD,JK ms=MD,ms.map KA=ML,c.ts.map Tn.d=TS,P2=tn,P4=tg,Su=tl at *;simp![p1,p2,ec,st,vm,em,Yk,e0,e1]
noncomputable def gF (p:Cn->Bool)(x:Str)(b:Bool)(g:Gp):Bool:=if(g.nm == x)=Θ then g.rows.any (·.all p) else b
theorem CF (p:Cn->Bool)(x:Str):∀(gs:List Gp) (b:Bool),x∉gs.map (·.nm)->gs.foldl (gF p x) b=b
 |[],b,_=>rfl
 |g::gs,b,h=>by
  rw[b_,k_,not_or]at h;rw[W_];have:gF p x b g=b:=by unfold gF;rw[d_ (fun z=>h.1 (by simpa using z:g.nm=x).symm)]
  rw[this];exact CF p x gs b h.2
theorem CG (p:Cn->Bool)(x:Str):∀(gs:List Gp),(gs.map (·.nm)).Nodup->gs.foldl (gF p x) Ξ=lP p gs x
 |[],_=>rfl
 |g::gs,h=>by
  rw[b_,E_]at h;rw[W_];unfold lP;rw[List.find?_cons];unfold gF;cases q:(g.nm == x) with
  |true=>
   have e:g.nm=x:=by simpa using q
   rw[e_ rfl];exact CF p x gs _ (e ▸ h.1)
  |false=>rw[d_ n_];exact CG p x gs h.2
theorem EV (p:Cn->Bool)(r:List Cn):(r.map p).all id=r.all p:=by rw[List.all_map];rfl
theorem BC (p:Cn->Bool)(rs:List (List Cn)):(rs.map fun r=>r.all p).any id=rs.any (·.all p):=by rw[List.any_map];rfl
theorem Ib (n:Nat){ms:List (Str×Tn)}(p:Cn->Bool)(r:List Cn)(h:∀c∈r,bK T n 53 [.lst Ξ [],c.d,JK ms]=.ok (.bl (p c))):iP (jb (bK T n) (.nm 1) [] (.call 53 [(.lst []),(.v 1),(.v 0)]) [Δ (JK ms),Φ]) (r.map Cn.d)=.ok ((r.map p).map .bl):=by refine Ev.jL Cn.d p .bl r fun c hc=>?_;have e:=h c hc;have ec:=kW c;have em:=jG ms;generalize c.d=CD,JK ms=MD at *;simp![Ev.iE,ec,em,e]
theorem Ic (n:Nat){ms:List (Str×Tn)}(p:Cn->Bool)(rs:List (List Cn))(hl:∀r∈rs,r.length<=100)(h:∀r∈rs,∀c∈r,bK T n 53 [.lst Ξ [],c.d,JK ms]=.ok (.bl (p c))):iP (jb (bK T n) (.nm 1) [] (.bi .all [(.comp TV [0] (.nm 1) (.val (.v 1)) [] (.call 53 [(.lst []),(.v 1),(.v 0)]))]) [Δ (JK ms),Φ]) (rs.map J4)=.ok ((rs.map fun r=>r.all p).map .bl):=by refine Ev.jL J4 (fun r=>r.all p) .bl rs fun r hr=>?_;have e:=Ib n p r (h r hr);have ai:=EV p r;have lr:(r.map Cn.d).length=r.length:=i_ _;have l1:=hl r hr;unfold TV J4;generalize r.map Cn.d=RD,r.map p=BP,JK ms=MD at *;simp![Ev.iE,e,ai,lr]
theorem uM (n:Nat){ms:List (Str×Tn)}(p:Cn->Bool)(x:Str)(a0 a1 a4 a5 a9 MZ:Option D):∀(gs:List Gp) (b:Bool) (c d:Option D),(∀g∈gs,g.rows.length<=100/\(∀r∈g.rows,r.length<=100)/\∀r∈g.rows,∀c∈r,bK T n 53 [.lst Ξ [],c.d,JK ms]=.ok (.bl (p c)))->
  ∃c' d',forM (Ev.turn (bK T n) (.tp [(.nm 7),(.nm 8)]) P4) (gs.map Gp.d) [a0,a1,Δ (JK ms),Δ (.str x),a4,a5,Δ (.bl b),c,d,a9,MZ]=.ok (.nx [a0,a1,Δ (JK ms),Δ (.str x),a4,a5,Δ (.bl (gs.foldl (gF p x) b)),c',d',a9,MZ])
 |[],b,c,d,_=>⟨c,d,rfl⟩
 |g::gs,b,c,d,h=>by
  obtain⟨h1,h2,h3⟩:=h g (.head _);have e:=Ic n p g.rows h2 h3;have ai:=BC p g.rows;have lr:(g.rows.map J4).length=g.rows.length:=i_ _;have Yh:=mR g.rows;have et:Ev.turn (bK T n) (.tp [(.nm 7),(.nm 8)]) P4 g.d [a0,a1,Δ (JK ms),Δ (.str x),a4,a5,Δ (.bl b),c,d,a9,MZ]=.ok (.nx [a0,a1,Δ (JK ms),Δ (.str x),a4,a5,Δ (.bl (gF p x b g)),Δ (.str g.nm),Δ (.lst Ξ (g.rows.map J4)),a9,MZ]):=by
   unfold P4 Gp.d gF Yi;generalize g.rows.map J4=RD,(g.rows.map fun r=>r.all p)=BP,g.rows.any (·.all p)=AB,JK ms=MD,TV=go at *;cases q:(g.nm == x) with
   |true=>rw[e_ rfl];simp![Ev.iE,q,e,ai,lr]
   |false=>rw[d_ n_];simp![Ev.iE,q]
  rw[b_,Ev.dR,et,W_];exact uM n p x a0 a1 a4 a5 a9 MZ gs _ _ _ fun g hg=>h g (.tail _ hg)
structure Lq (gs:List Gp):Prop where
 ok:PY gs
 nd:(gs.map (·.nm)).Nodup
 len:∀g∈gs,g.rows.length<=100/\∀r∈g.rows,r.length<=100
theorem zA (n:Nat){gs:List Gp}(hg:Lq gs){ms:List (Str×Tn)}(nd:(ms.map (·.1)).Nodup){c:Cn}(wf:Wf c):bK T (n+2) 53 [JI gs,c.d,JK ms]=.ok (.bl (jA gs ms c)):=by
 cases hi:LQ c.w with
 |false=>have:=uL (n+1) wf hi (JI gs) nd;have h2:=Bool.or_eq_false_iff.mp (show((c.w == Ρ "in")||(c.w == Ρ "out"))=Ξ from hi);unfold jA;rw[d_ (by rw[h2.1];exact n_),d_ (by rw[h2.2];exact n_)];exact this
 |true=>
  obtain⟨b1,b2,e⟩:=uM (n+1) (ms:=ms) (pB ms) c.m (Δ (JI gs)) (Δ c.d) (Δ (.str c.w)) (Δ (.lst Ξ (c.ts.map Tn.d))) Φ Φ gs Ξ Φ Φ fun g Nx=>⟨(hg.len g Nx).1,(hg.len g Nx).2,fun r hr c hc=>uL n (hg.ok g Nx r hr c hc).1 (hg.ok g Nx r hr c hc).2 (.lst Ξ []) nd⟩
  rw[CG (pB ms) c.m gs hg.nd]at e;have ec:=kW c;have eg:=qr gs;have vg:kU (JI gs)=.ok (gs.map Gp.d):=rfl;have Yl:=jC gs;have Yk:=jG ms;unfold jA;obtain⟨cm,w,ts⟩:=c;have st:jM (.tp [(.nm 3),(.nm 4),(.nm 5)]) (Cn.d ⟨cm,w,ts⟩) [Δ (JI gs),Δ (Cn.d ⟨cm,w,ts⟩),Δ (JK ms),Φ,Φ,Φ,Φ,Φ,Φ,Φ,Φ]=.ok [Δ (JI gs),Δ (Cn.d ⟨cm,w,ts⟩),Δ (JK ms),Δ (.str cm),Δ (.str w),Δ (.lst Ξ (ts.map Tn.d)),Φ,Φ,Φ,Φ,Φ]:=rfl;show bK T (n+2) 53 [JI gs,Cn.d ⟨cm,w,ts⟩,JK ms]=.ok (.bl (if(w == Ρ "in")=Θ then lP (pB ms) gs cm else if(w == Ρ "out")=Θ then !lP (pB ms) gs cm else pB ms ⟨cm,w,ts⟩));have e:forM (Ev.turn (bK T (n+1)) (.tp [(.nm 7),(.nm 8)]) P4) (gs.map Gp.d) [Δ (JI gs),Δ (Cn.d ⟨cm,w,ts⟩),Δ (JK ms),Δ (.str cm),Δ (.str w),Δ (.lst Ξ (ts.map Tn.d)),Δ (.bl Ξ),Φ,Φ,Φ,Φ]=.ok (.nx [Δ (JI gs),Δ (Cn.d ⟨cm,w,ts⟩),Δ (JK ms),Δ (.str cm),Δ (.str w),Δ (.lst Ξ (ts.map Tn.d)),Δ (.bl (lP (pB ms) gs cm)),b1,b2,Φ,Φ]):=e;rw[Ev.go (show T 53=Δ Nw from rfl) (show Nw.io=Ξ from rfl) (show Nw.np=3 from rfl) (show Nw.G.N.length=11 from rfl) zx rfl];unfold Wq;generalize lP (pB ms) gs cm=B,Cn.d ⟨cm,w,ts⟩=CD,JI gs=GD,gs.map Gp.d=GL,JK ms=MD,ts.map Tn.d=TS,P4=tg,P2=tn at *;cases q1:(w == Ρ "in") with
  |true=>
   rw[e_ rfl];have hb:(B == Θ)=B:=by cases B<;>rfl
   simp![q1,ec,st,vg,eg,Yl,e,hb]
  |false=>
   have q2:(w == Ρ "out")=Θ:=by have hi:((w == Ρ "in")||(w == Ρ "out"))=Θ:=hi;rw[q1]at hi;exact hi
   rw[d_ n_,q2,e_ rfl];have hb:(B == Ξ) = !B:=by cases B<;>rfl
   simp![q1,q2,ec,st,vg,eg,Yl,e,hb]
noncomputable def tP:List IS:=[(.JJ (.chain .le .lt (.v 6) (.v 2) (.v 7)) [(.ret (.v 4))] [])]
noncomputable def tQ:List IS:=[(.JH (.tp [(.nm 6),(.nm 7)]) (.val (.v 5)) tP)]
theorem zB (cl:Nat->List D->Res D)(a0 a1 a3 a5:Option D)(f:Str)(z:Int):∀(run:List (Int×Int)) (b c:Option D),
  (inR z run=Θ->forM (Ev.turn cl (.tp [(.nm 6),(.nm 7)]) tP) (run.map Jx) [a0,a1,Δ (.int z),a3,Δ (.str f),a5,b,c]=.ok (.rt (.str f)))/\
  (inR z run=Ξ->∃b' c',forM (Ev.turn cl (.tp [(.nm 6),(.nm 7)]) tP) (run.map Jx) [a0,a1,Δ (.int z),a3,Δ (.str f),a5,b,c]=.ok (.nx [a0,a1,Δ (.int z),a3,Δ (.str f),a5,b',c']))
 |[],b,c=>⟨fun h=>(by cases h),fun _=>⟨b,c,rfl⟩⟩
 |p::run,b,c=>by
  have et:Ev.turn cl (.tp [(.nm 6),(.nm 7)]) tP (Jx p) [a0,a1,Δ (.int z),a3,Δ (.str f),a5,b,c]=if PZ z p=Θ then .ok (.rt (.str f)) else .ok (.nx [a0,a1,Δ (.int z),a3,Δ (.str f),a5,Δ (.int p.1),Δ (.int p.2)]):=by unfold tP Jx PZ;cases h:decide (p.1<=z)<;>cases h':decide (z < p.2)<;>simp![Ev.iE,h,h',Bool.and_true,Bool.and_false,Bool.true_and,Bool.false_and]
  rw[b_,Ev.dR,et];unfold inR;rw[List.any_cons];cases h:PZ z p with
  |true=>exact⟨fun _=>rfl,fun z=>(by cases z)⟩
  |false=>exact zB cl a0 a1 a3 a5 f z run _ _
theorem zC (cl:Nat->List D->Res D)(a0 a1 a3:Option D)(z:Int):∀(al:Al) (b4 b5 b6 b7:Option D),
  (∀x,Mm al z=Δ x->forM (Ev.turn cl (.tp [(.nm 4),(.nm 5)]) tQ) (al.map Kv) [a0,a1,Δ (.int z),a3,b4,b5,b6,b7]=.ok (.rt (.str x)))/\
  (Mm al z=Φ->∃c4 c5 c6 c7,forM (Ev.turn cl (.tp [(.nm 4),(.nm 5)]) tQ) (al.map Kv) [a0,a1,Δ (.int z),a3,b4,b5,b6,b7]=.ok (.nx [a0,a1,Δ (.int z),a3,c4,c5,c6,c7]))
 |[],b4,b5,b6,b7=>⟨fun x h=>(by cases h),fun _=>⟨_,_,_,_,rfl⟩⟩
 |p::al,b4,b5,b6,b7=>by
  have l:=zB cl a0 a1 a3 (Δ (.lst Ξ (p.2.map Jx))) p.1 z p.2 b6 b7;have ep:=jd p.2;rw[b_,Ev.dR];unfold Mm;rw[List.find?_cons];cases h:inR z p.2 with
  |true=>
   have e:=l.1 h;have et:Ev.turn cl (.tp [(.nm 4),(.nm 5)]) tQ (Kv p) [a0,a1,Δ (.int z),a3,b4,b5,b6,b7]=.ok (.rt (.str p.1)):=by unfold tQ Kv;generalize p.2.map Jx=PD,tP=tp at *;simp![Ev.iE,ep,e]
   rw[et];exact⟨fun x z=>(by cases z;rfl),fun z=>(by cases z)⟩
  |false=>
   obtain⟨c6,c7,e⟩:=l.2 h;have et:Ev.turn cl (.tp [(.nm 4),(.nm 5)]) tQ (Kv p) [a0,a1,Δ (.int z),a3,b4,b5,b6,b7]=.ok (.nx [a0,a1,Δ (.int z),a3,Δ (.str p.1),Δ (.lst Ξ (p.2.map Jx)),c6,c7]):=by unfold tQ Kv;generalize p.2.map Jx=PD,tP=tp at *;simp![Ev.iE,ep,e]
   rw[et];exact zC cl a0 a1 a3 z al _ _ _ _
noncomputable def TX:List IS:=[(.JJ (.cmp .eq (.idx (.v 0) (.c (.int 0))) (.c (.str "face"))) [(.ret (.idx (.v 0) (.c (.int 1))))] []),(.JJ (.cmp .eq (.idx (.v 0) (.c (.int 0))) (.c (.str "share"))) [(.JJ (.cmp .lt (.v 2) (.call 54 [(.idx (.v 0) (.c (.int 2))),(.v 3)])) [(.ret (.idx (.v 0) (.c (.int 1))))] []),(.ret (.c .Jt))] []),(.JH (.tp [(.nm 4),(.nm 5)]) (.val (.idx (.v 1) (.c (.int 0)))) tQ),(.ret (.c .Jt))]
theorem EW:PU.body=TX:=rfl
theorem zF (n:Nat)(o:Oc)(al:Al)(fr:List (Int×Int))(day z:Int):bK T (n+2) 55 [o.d,J5 al fr,.int z,.int day]=.ok (oD (P0 al day z o)):=by
 have ea:=pP al fr;have go:∀X Y:D,bK T (n+2) 55 [X,Y,.int z,.int day]=_:=fun X Y=>Ev.go (show T 55=Δ PU from rfl) (show PU.io=Ξ from rfl) (show PU.np=4 from rfl) (show PU.G.N.length=8 from rfl) EW rfl;cases o with
 |face f=>show bK T (n+2) 55 [.tup [.str "face",.str f],J5 al fr,.int z,.int day]=.ok (.str f);rw[go];unfold TX;generalize J5 al fr=AD,tQ=tq at *;simp![Js]
 |share f st=>
  have e2:=pO n st day;have ep:=jd st;show bK T (n+2) 55 [.tup [.str "share",.str f,.lst Ξ (st.map Jx)],J5 al fr,.int z,.int day]=.ok (oD (if decide (z < shr st day)=Θ then Δ f else Φ));rw[go];unfold TX;generalize J5 al fr=AD,st.map Jx=PD,tQ=tq at *;cases h:decide (z < shr st day) with
  |true=>rw[e_ rfl];show _=Except.ok (D.str f);simp![TU,ep,e2,h]
  |false=>rw[d_ n_];show _=Except.ok D.Jt;simp![TU,ep,e2,h]
 |NN=>
  have y0:iQ (J5 al fr) (.int 0)=.ok (.lst Ξ (al.map Kv)):=rfl;have ef:=oO al;have l:=zC (bK T (n+1)) (Δ (.tup [.str "lot"])) (Δ (J5 al fr)) (Δ (.int day)) z al Φ Φ Φ Φ;show bK T (n+2) 55 [.tup [.str "lot"],J5 al fr,.int z,.int day]=.ok (oD (Mm al z));rw[go];unfold TX;cases h:Mm al z with
  |some x=>have e:=l.1 x h;show _=Except.ok (D.str x);generalize J5 al fr=AD,al.map Kv=FD,tQ=tq at *;simp![y0,Wo,Ss,ea,ef,e]
  |none=>obtain⟨c4,c5,c6,c7,e⟩:=l.2 h;show _=Except.ok D.Jt;generalize J5 al fr=AD,al.map Kv=FD,tQ=tq at *;simp![y0,Wo,Ss,ea,ef,e]
theorem BE (p:Cn->Bool)(r:List Cn):(r.map p).all id=r.all p:=by rw[List.all_map];rfl
theorem Ie (n:Nat){gs:List Gp}(hg:Lq gs){ms:List (Str×Tn)}(nd:(ms.map (·.1)).Nodup)(r:List Cn)(wf:∀c∈r,Wf c):iP (jb (bK T (n+2)) (.nm 2) [] (.call 53 [(.v 0),(.v 2),(.v 1)]) [Δ (JI gs),Δ (JK ms),Φ]) (r.map Cn.d)=.ok ((r.map (jA gs ms)).map .bl):=by refine Ev.jL Cn.d (jA gs ms) .bl r fun c hc=>?_;have e:=zA n hg nd (wf c hc);have ec:=kW c;have em:=jG ms;have eg:=jC gs;generalize c.d=CD,JK ms=MD,JI gs=GD at *;simp![Ev.iE,ec,em,eg,e]
noncomputable def qt (p:Cn->Bool)(al:Al)(day z:Int):List Rl->Option Str
 |[]=>Φ
 |r::rs=>if r.cs.all p=Θ then(match P0 al day z r.o with
  |some f=>Δ f
  |none=>qt p al day z rs) else qt p al day z rs
theorem uN (n:Nat){gs:List Gp}(hg:Lq gs){ms:List (Str×Tn)}(nd:(ms.map (·.1)).Nodup)(salt rest:Str)(IG:List Rl)(al:Al)(fr:List (Int×Int))(day z:Int):∀(rs:List Rl),(∀r∈rs,(∀c∈r.cs,Wf c)/\r.cs.length<=100)->∀(b5 b6 b7:Option D),
  (∀f,qt (jA gs ms) al day z rs=Δ f->forM (Ev.turn (bK T (n+2)) (.tp [(.nm 5),(.nm 6)]) Nv) (rs.map Rl.d) [Δ (JI gs),Δ (JF salt rest IG al fr),Δ (.int day),Δ (JK ms),Δ (.int z),b5,b6,b7]=.ok (.rt (.str f)))/\
  (qt (jA gs ms) al day z rs=Φ->∃c5 c6 c7,forM (Ev.turn (bK T (n+2)) (.tp [(.nm 5),(.nm 6)]) Nv) (rs.map Rl.d) [Δ (JI gs),Δ (JF salt rest IG al fr),Δ (.int day),Δ (JK ms),Δ (.int z),b5,b6,b7]=.ok (.nx [Δ (JI gs),Δ (JF salt rest IG al fr),Δ (.int day),Δ (JK ms),Δ (.int z),c5,c6,c7]))
 |[],_,b5,b6,b7=>⟨fun f h=>(by cases h),fun _=>⟨b5,b6,b7,rfl⟩⟩
 |r::rs,hl,b5,b6,b7=>by
  obtain⟨wf,wl⟩:=hl r (.head _);have ih:=fun b5 b6 b7=>uN n hg nd salt rest IG al fr day z rs (fun q hq=>hl q (.tail _ hq)) b5 b6 b7;have e1:=Ie n hg nd r.cs wf;have ai:=BE (jA gs ms) r.cs;have lc:(r.cs.map Cn.d).length=r.cs.length:=i_ _;have e2:=zF n r.o al fr day z;have s3:iQ (JF salt rest IG al fr) (.int 3)=.ok (J5 al fr):=rfl;have eo:=uK r.o;have ea:=pP al fr;have ed:r.d=.tup [.lst Ξ (r.cs.map Cn.d),r.o.d]:=rfl;rw[b_,Ev.dR,ed];unfold qt;cases hp:r.cs.all (jA gs ms) with
  |false=>
   rw[hp]at ai;have et:Ev.turn (bK T (n+2)) (.tp [(.nm 5),(.nm 6)]) Nv (.tup [.lst Ξ (r.cs.map Cn.d),r.o.d]) [Δ (JI gs),Δ (JF salt rest IG al fr),Δ (.int day),Δ (JK ms),Δ (.int z),b5,b6,b7]=.ok (.nx [Δ (JI gs),Δ (JF salt rest IG al fr),Δ (.int day),Δ (JK ms),Δ (.int z),Δ (.lst Ξ (r.cs.map Cn.d)),Δ r.o.d,b7]):=by unfold Nv Tu;generalize r.cs.map Cn.d=CD,r.cs.map (jA gs ms)=BD,r.o.d=OD,JI gs=GD,JK ms=MD,JF salt rest IG al fr=SW at *;simp![Ev.iE,e1,ai,lc]
   rw[et,d_ n_];exact ih _ _ _
  |true=>
   rw[hp]at ai;rw[e_ rfl];cases h:P0 al day z r.o with
   |some f=>
    rw[h]at e2;have e2:bK T (n+2) 55 [r.o.d,J5 al fr,.int z,.int day]=.ok (.str f):=e2;have et:Ev.turn (bK T (n+2)) (.tp [(.nm 5),(.nm 6)]) Nv (.tup [.lst Ξ (r.cs.map Cn.d),r.o.d]) [Δ (JI gs),Δ (JF salt rest IG al fr),Δ (.int day),Δ (JK ms),Δ (.int z),b5,b6,b7]=.ok (.rt (.str f)):=by unfold Nv Tu;generalize r.cs.map Cn.d=CD,r.cs.map (jA gs ms)=BD,r.o.d=OD,JI gs=GD,JK ms=MD,JF salt rest IG al fr=SW,J5 al fr=AD at *;simp![Ev.iE,e1,ai,lc,eo,ea,s3,e2]
    rw[et];exact⟨fun f z=>(by cases z;rfl),fun z=>(by cases z)⟩
   |none=>
    rw[h]at e2;have e2:bK T (n+2) 55 [r.o.d,J5 al fr,.int z,.int day]=.ok .Jt:=e2;have et:Ev.turn (bK T (n+2)) (.tp [(.nm 5),(.nm 6)]) Nv (.tup [.lst Ξ (r.cs.map Cn.d),r.o.d]) [Δ (JI gs),Δ (JF salt rest IG al fr),Δ (.int day),Δ (JK ms),Δ (.int z),b5,b6,b7]=.ok (.nx [Δ (JI gs),Δ (JF salt rest IG al fr),Δ (.int day),Δ (JK ms),Δ (.int z),Δ (.lst Ξ (r.cs.map Cn.d)),Δ r.o.d,Δ .Jt]):=by unfold Nv Tu;generalize r.cs.map Cn.d=CD,r.cs.map (jA gs ms)=BD,r.o.d=OD,JI gs=GD,JK ms=MD,JF salt rest IG al fr=SW,J5 al fr=AD at *;simp![Ev.iE,e1,ai,lc,eo,ea,s3,e2]
    rw[et];exact ih _ _ _
noncomputable def dec (gs:List Gp)(ms:List (Str×Tn))(rest:Str)(rs:List Rl)(al:Al)(day z:Int):Str:=(qt (jA gs ms) al day z rs).getD rest
theorem BF (n:Nat){gs:List Gp}(hg:Lq gs){ms:List (Str×Tn)}(nd:(ms.map (·.1)).Nodup)(salt rest:Str){rs:List Rl}(al:Al)(fr:List (Int×Int))(wf:∀r∈rs,(∀c∈r.cs,Wf c)/\r.cs.length<=100)(day z:Int) :
  bK T (n+3) 58 [JI gs,JF salt rest rs al fr,.int day,JK ms,.int z]=.ok (.str (dec gs ms rest rs al day z)):=by
 have l:=uN n hg nd salt rest rs al fr day z rs wf Φ Φ Φ;have s1:iQ (JF salt rest rs al fr) (.int 1)=.ok (.str rest):=rfl;have s2:iQ (JF salt rest rs al fr) (.int 2)=.ok (.lst Ξ (rs.map Rl.d)):=rfl;have es:=ku salt rest rs al fr;have ON:=mS rs;have vx:vars (.idx (.v 1) (.c (.int 2)))=[1]:=rfl;rw[gx 58 Wb 5 8 Wa rfl rfl rfl rfl rfl rfl];unfold Wa;unfold dec;cases h:qt (jA gs ms) al day z rs with
 |some f=>have e:=l.1 f h;show _=Except.ok (D.str f);generalize JF salt rest rs al fr=SW,rs.map Rl.d=RS,JI gs=GD,JK ms=MD,Nv=td at *;simp![s2,es,ON,vx,e]
 |none=>obtain⟨c5,c6,c7,e⟩:=l.2 h;show _=Except.ok (D.str rest);generalize JF salt rest rs al fr=SW,rs.map Rl.d=RS,JI gs=GD,JK ms=MD,Nv=td at *;simp![s1,s2,es,ON,vx,e]
theorem uO (p:Cn->Bool)(al:Al)(day z:Int):∀l:List (Nat×Rl),(fst al day z (l.filter fun q=>q.2.cs.all p)).map (·.1)=qt p al day z (l.map (·.2))
 |[]=>rfl
 |q::l=>by
  have ih:=uO p al day z l;rw[List.filter_cons,b_];unfold qt;cases hp:q.2.cs.all p with
  |false=>rw[d_ n_,d_ n_];exact ih
  |true=>
   rw[e_ rfl,e_ rfl];unfold fst;cases h:P0 al day z q.2.o with
   |some f=>rfl
   |none=>exact ih
theorem BG (rs:List Rl):(idx rs).map (·.2)=rs:=List.map_snd_zip (by rw[aac];exact m_ _)
theorem BH (n:Nat)(gs:List Gp)(ms:List (Str×Tn))(salt rest:Str){rs:List Rl}(al:Al)(fr:List (Int×Int))(day z:Int):∃i:Int,bK T (n+4) 34 [JF salt rest rs al fr,.int day,.lst Ξ (((idx rs).filter fun q=>q.2.cs.all (jA gs ms)).map LF),.int z]=.ok (.tup [.str (dec gs ms rest rs al day z),.int i]):=by
 have e:=among n salt rest (rs:=rs) al fr day z ((idx rs).filter fun q=>q.2.cs.all (jA gs ms)) fun q hq=>(List.mem_filter.mp hq).1;have f:=uO (jA gs ms) al day z (idx rs);rw[BG]at f;unfold dec;rw[<- f];generalize fst al day z ((idx rs).filter fun q=>q.2.cs.all (jA gs ms))=o at *;cases o with
 |none=>exact⟨_,e⟩
 |some p=>obtain⟨f,i⟩:=p;exact⟨_,e⟩
theorem Ym:(Ρ "face" == Ρ "share")=Ξ:=by decide +kernel
noncomputable def M4 (day:Int):Oc->List Int
 |.share _ sg=>[shr sg day]
 |_=>[]
noncomputable def KR (day:Int)(rs:List Rl):List Int:=rs.flatMap fun r=>M4 day r.o
noncomputable def K' (run:List (Int×Int)):List Int:=run.flatMap fun p=>[p.1,p.2]
noncomputable def fla (al:Al):List Int:=al.flatMap fun p=>K' p.2
theorem nB (day:Int):∀rs:List Rl,(KR day rs).length<=rs.length
 |[]=>m_ _
 |r::rs=>by
  have:=nB day rs;show(M4 day r.o++KR day rs).length<=_;rw[o_,List.length_cons];have:(M4 day r.o).length<=1:=by cases r.o<;>simp[M4]
  omega
theorem k9 (run:List (Int×Int)):(K' run).length=2*run.length:=by
 induction run with
 |nil=>rfl
 |cons p run ih=>show(p.1::p.2::K' run).length=_;rw[List.length_cons,List.length_cons,ih,List.length_cons];omega
theorem qu (n:Nat)(s0:Option D)(day:Int)(s5 s6 s7 s8:Option D):∀(rs:List Rl) (acc:List Int) (b c:Option D),acc.length+rs.length<=1000->
  ∃b' c',forM (Ev.turn (bK T (n+1)) (.tp [(.nm 3),(.nm 4)]) NK) (rs.map Rl.d) [s0,Δ (.int day),Δ (.lst Θ (acc.map .int)),b,c,s5,s6,s7,s8]=.ok (.nx [s0,Δ (.int day),Δ (.lst Θ ((acc++KR day rs).map .int)),b',c',s5,s6,s7,s8])
 |[],acc,b,c,_=>⟨b,c,by rw[show KR day []=[] from rfl,P_];rfl⟩
 |r::rs,acc,b,c,h=>by
  have ed:r.d=.tup [.lst Ξ (r.cs.map Cn.d),r.o.d]:=rfl;have la:(acc.map D.int).length=acc.length:=i_ _;rw[List.length_cons]at h;rw[b_,Ev.dR,ed,show KR day (r::rs)=M4 day r.o++KR day rs from rfl];have no:(∀f sg,r.o≠.share f sg)->∃b' c',Iq (Ev.turn (bK T (n+1)) (.tp [(.nm 3),(.nm 4)]) NK (.tup [.lst Ξ (r.cs.map Cn.d),r.o.d]) [s0,Δ (.int day),Δ (.lst Θ (acc.map .int)),b,c,s5,s6,s7,s8]) (Ev.yD (Ev.turn (bK T (n+1)) (.tp [(.nm 3),(.nm 4)]) NK) (rs.map Rl.d))=.ok (.nx [s0,Δ (.int day),Δ (.lst Θ ((acc++(M4 day r.o++KR day rs)).map .int)),b',c',s5,s6,s7,s8]):=by
   intro hn;have o0:∃w:Str,iQ r.o.d (.int 0)=.ok (.str w)/\(w == Ρ "share")=Ξ:=by
    cases ho:r.o with
    |face f=>exact⟨_,rfl,Ym⟩
    |NN=>exact⟨_,rfl,Ss⟩
    |share f sg=>exact absurd ho (hn f sg)
   have Wr:M4 day r.o=[]:=by
    cases ho:r.o with
    |share f sg=>exact absurd ho (hn f sg)
    |_=>rfl
   obtain⟨w,o0,hw⟩:=o0;rw[Wr,List.nil_append];have et:Ev.turn (bK T (n+1)) (.tp [(.nm 3),(.nm 4)]) NK (.tup [.lst Ξ (r.cs.map Cn.d),r.o.d]) [s0,Δ (.int day),Δ (.lst Θ (acc.map .int)),b,c,s5,s6,s7,s8]=.ok (.nx [s0,Δ (.int day),Δ (.lst Θ (acc.map .int)),Δ (.lst Ξ (r.cs.map Cn.d)),Δ r.o.d,s5,s6,s7,s8]):=by unfold NK;generalize r.cs.map Cn.d=CD,r.o.d=OD,acc.map D.int=AC at *;simp![Ev.iE,o0,hw]
   rw[et];exact qu n s0 day s5 s6 s7 s8 rs acc _ _ (by omega)
  cases ho:r.o with
  |share f sg=>
   have e:=rO n sg day;have ep:=jd sg;have et:Ev.turn (bK T (n+1)) (.tp [(.nm 3),(.nm 4)]) NK (.tup [.lst Ξ (r.cs.map Cn.d),.tup [.str "share",.str f,.lst Ξ (sg.map Jx)]]) [s0,Δ (.int day),Δ (.lst Θ (acc.map .int)),b,c,s5,s6,s7,s8]=.ok (.nx [s0,Δ (.int day),Δ (.lst Θ ((acc++[shr sg day]).map .int)),Δ (.lst Ξ (r.cs.map Cn.d)),Δ (.tup [.str "share",.str f,.lst Ξ (sg.map Jx)]),s5,s6,s7,s8]):=by rw[N_];show _=Except.ok (Fl.nx [s0,Δ (.int day),Δ (.lst Θ (acc.map .int++[.int (shr sg day)])),_,_,_,_,_,_]);unfold NK;generalize r.cs.map Cn.d=CD,sg.map Jx=SG,acc.map D.int=AC,shr sg day=sh at *;simp![Ev.iE,ep,e]
   show ∃b' c',Iq (Ev.turn _ _ _ (.tup [.lst Ξ (r.cs.map Cn.d),.tup [.str "share",.str f,.lst Ξ (sg.map Jx)]]) _) _=_;rw[et,show acc++(M4 day (.share f sg)++KR day rs)=(acc++[shr sg day])++KR day rs from by rw[z_];rfl];exact qu n s0 day s5 s6 s7 s8 rs (acc++[shr sg day]) _ _ (by rw[o_,X_];omega)
  |face f=>have:=no (fun _ _ z=>by rw[ho]at z;cases z);rw[ho]at this;exact this
  |NN=>have:=no (fun _ _ z=>by rw[ho]at z;cases z);rw[ho]at this;exact this
theorem CH (cl:Nat->List D->Res D)(s0 s1 s3 s4 s5 s6:Option D):∀(run:List (Int×Int)) (acc:List Int) (b c:Option D),acc.length+2*run.length<=1000->
  ∃b' c',forM (Ev.turn cl (.tp [(.nm 7),(.nm 8)]) OJ) (run.map Jx) [s0,s1,Δ (.lst Θ (acc.map .int)),s3,s4,s5,s6,b,c]=.ok (.nx [s0,s1,Δ (.lst Θ ((acc++K' run).map .int)),s3,s4,s5,s6,b',c'])
 |[],acc,b,c,_=>⟨b,c,by rw[show K' []=[] from rfl,P_];rfl⟩
 |p::run,acc,b,c,h=>by
  rw[List.length_cons]at h;have la:(acc.map D.int).length=acc.length:=i_ _;have et:Ev.turn cl (.tp [(.nm 7),(.nm 8)]) OJ (.tup [.int p.1,.int p.2]) [s0,s1,Δ (.lst Θ (acc.map .int)),s3,s4,s5,s6,b,c]=.ok (.nx [s0,s1,Δ (.lst Θ ((acc++[p.1,p.2]).map .int)),s3,s4,s5,s6,Δ (.int p.1),Δ (.int p.2)]):=by rw[N_];show _=Except.ok (Fl.nx [s0,s1,Δ (.lst Θ (acc.map .int++[.int p.1,.int p.2])),_,_,_,_,_,_]);unfold OJ;generalize acc.map D.int=AC at *;simp![Ev.iE]
  rw[b_,Ev.dR,show Jx p=.tup [.int p.1,.int p.2] from rfl,et,show acc++K' (p::run)=(acc++[p.1,p.2])++K' run from by rw[z_];rfl];exact CH cl s0 s1 s3 s4 s5 s6 run (acc++[p.1,p.2]) _ _ (by rw[o_];show acc.length+2+_<=_;omega)
theorem mf (p:Str×List (Int×Int))(al:Al):fla (p::al)=K' p.2++fla al:=rfl
theorem uP (cl:Nat->List D->Res D)(s0 s1 s3 s4:Option D):∀(al:Al) (acc:List Int) (b5 b6 b7 b8:Option D),acc.length+(fla al).length<=1000->
  ∃c5 c6 c7 c8,forM (Ev.turn cl (.tp [(.nm 5),(.nm 6)]) [(.JH (.tp [(.nm 7),(.nm 8)]) (.val (.v 6)) OJ)]) (al.map Kv) [s0,s1,Δ (.lst Θ (acc.map .int)),s3,s4,b5,b6,b7,b8]=.ok (.nx [s0,s1,Δ (.lst Θ ((acc++fla al).map .int)),s3,s4,c5,c6,c7,c8])
 |[],acc,b5,b6,b7,b8,_=>⟨b5,b6,b7,b8,by rw[show fla []=[] from rfl,P_];rfl⟩
 |p::al,acc,b5,b6,b7,b8,h=>by
  rw[mf,o_,k9]at h;obtain⟨c7,c8,e⟩:=CH cl s0 s1 s3 s4 (Δ (.str p.1)) (Δ (.lst Ξ (p.2.map Jx))) p.2 acc b7 b8 (by omega);have ep:=jd p.2;have et:Ev.turn cl (.tp [(.nm 5),(.nm 6)]) [(.JH (.tp [(.nm 7),(.nm 8)]) (.val (.v 6)) OJ)] (.tup [.str p.1,.lst Ξ (p.2.map Jx)]) [s0,s1,Δ (.lst Θ (acc.map .int)),s3,s4,b5,b6,b7,b8]=.ok (.nx [s0,s1,Δ (.lst Θ ((acc++K' p.2).map .int)),s3,s4,Δ (.str p.1),Δ (.lst Ξ (p.2.map Jx)),c7,c8]):=by generalize p.2.map Jx=PR,acc.map D.int=AC,(acc++K' p.2).map D.int=AF,OJ=tc at *;simp![Ev.iE,ep,e]
  rw[b_,Ev.dR,show Kv p=.tup [.str p.1,.lst Ξ (p.2.map Jx)] from rfl,et,mf,show acc++(K' p.2++fla al)=(acc++K' p.2)++fla al from(z_ _ _ _).symm];exact uP cl s0 s1 s3 s4 al (acc++K' p.2) _ _ _ _ (by rw[o_,k9];omega)
noncomputable def iG (day:Int)(rs:List Rl)(al:Al):List Int:=0::10007::(KR day rs++fla al)
theorem sX (n:Nat)(salt rest:Str){rs:List Rl}{al:Al}(fr:List (Int×Int))(day:Int)(hr:rs.length<=100)(ha:(fla al).length<=100):bK T (n+2) 35 [JF salt rest rs al fr,.int day]=.ok (.lst Θ ((iG day rs al).map .int)):=by obtain⟨b,c,e1⟩:=qu n (Δ (JF salt rest rs al fr)) day Φ Φ Φ Φ rs [0,10007] Φ Φ (by show 2+_<=_;omega);have hs:=nB day rs;obtain⟨c5,c6,c7,c8,e2⟩:=uP (bK T (n+1)) (Δ (JF salt rest rs al fr)) (Δ (.int day)) b c al ([0,10007]++KR day rs) Φ Φ Φ Φ (by rw[o_];show 2+_+_<=_;omega);have s2:iQ (JF salt rest rs al fr) (.int 2)=.ok (.lst Ξ (rs.map Rl.d)):=rfl;have s3:iQ (JF salt rest rs al fr) (.int 3)=.ok (J5 al fr):=rfl;have s0:iQ (J5 al fr) (.int 0)=.ok (.lst Ξ (al.map Kv)):=rfl;have es:=ku salt rest rs al fr;have ON:=mS rs;have Ws:=oO al;have vx:vars (.idx (.v 0) (.c (.int 2)))=[0]:=rfl;have vy:vars (.idx (.idx (.v 0) (.c (.int 3))) (.c (.int 0)))=[0]:=rfl;have e1:forM (Ev.turn (bK T (n+1)) (.tp [(.nm 3),(.nm 4)]) NK) (rs.map Rl.d) [Δ (JF salt rest rs al fr),Δ (.int day),Δ (.lst Θ [.int 0,.int 10007]),Φ,Φ,Φ,Φ,Φ,Φ]=_:=e1;rw[show iG day rs al=([0,10007]++KR day rs)++fla al from by unfold iG;simp];rw[gx 35 VC 2 9 VB rfl rfl rfl rfl rfl rfl];unfold VB;generalize JF salt rest rs al fr=SW,J5 al fr=AD,rs.map Rl.d=RS,al.map Kv=AL,(([0,10007]++KR day rs)++fla al).map D.int=C2,([0,10007]++KR day rs).map D.int=C1,NK=t1,[(IS.JH (.tp [(.nm 7),(.nm 8)]) (.val (.v 6)) OJ)]=t2 at *;simp![s2,s3,s0,es,ON,Ws,vx,vy,e1,e2]
theorem mh {α β:Type}(f:α->β)(xs:List α)(lo hi:Option Int):jE (xs.map f) lo hi=(jE xs lo hi).map f:=by unfold jE;rw[i_,<- List.map_drop,<- List.map_take]
theorem zG:∀xs:List Int,jB (xs.map .int)=Δ xs
 |[]=>rfl
 |x::xs=>by show(jB (xs.map .int)).map (x::·)=_;rw[zG xs];rfl
theorem qv:∀(xs s:List Int) (y:Int),y∈xs.foldl step_dedup s↔y∈s∨y∈xs
 |[],s,y=>by simp
 |x::xs,s,y=>by
  rw[W_,qv xs,k_];unfold step_dedup;by_cases h:(s.any (· == x))=Θ
  ·rw[e_ h];obtain⟨z,hz,e⟩:=List.any_eq_true.mp h;have e:z=x:=h_ e;subst e;refine⟨fun h=>h.imp id .inr,fun h=>?_⟩;rcases h with h|rfl|h
   ·exact .inl h
   ·exact .inl hz
   ·exact .inr h
  ·rw[d_ h,C_,w_,or_assoc]
theorem zH:∀(xs s:List Int),s.Nodup->(xs.foldl step_dedup s).Nodup
 |[],s,h=>h
 |x::xs,s,h=>by
  rw[W_];refine zH xs _ ?_;unfold step_dedup;by_cases hx:(s.any (· == x))=Θ
  ·rw[e_ hx];exact h
  ·rw[d_ hx];refine r_.mpr ⟨h,by simp,fun a ha b hb e=>hx ?_⟩;rw[w_.mp hb]at e;subst e;exact List.any_eq_true.mpr ⟨a,ha,beq_self_eq_true a⟩
noncomputable def ends (xs:List Int):List Int:=PySem.W.sortI (dd xs)
theorem BI {xs ys:List Int}(h:∀z,z∈xs↔z∈ys):ends xs=ends ys:=by refine PySem.W.eq_sortI ((PySem.W.sortI_perm _).trans ?_) (PySem.W.sortI_rises _);refine(List.perm_ext_iff_of_nodup (zH xs [] .nil) (zH ys [] .nil)).mpr fun z=>?_;show z∈xs.foldl step_dedup []↔z∈ys.foldl step_dedup [];rw[qv,qv,h z]
theorem mi (xs:List Int):(ends xs).length<=xs.length:=by unfold ends;rw[(PySem.W.sortI_perm _).length_eq];exact xw xs
theorem oP {xs:List Int}{y:Int}:y∈ends xs↔y∈xs:=by unfold ends;rw[(PySem.W.sortI_perm _).mem_iff];show y∈xs.foldl step_dedup []↔_;rw[qv];simp
theorem sY {o:Bool}{xs:List Int}(h:xs.length < 64):ra (.lst o (xs.map .int))=.ok (.lst Θ ((ends xs).map .int)):=by show(match jB (xs.map .int) with|some ns=>IE (decide (ns.length < 64)) (.ok (.lst Θ ((PySem.W.sortI (dd ns)).map .int)))|none=>Jw:Res D)=_;rw[zG];show IE (decide (xs.length < 64)) _=_;rw[G_ h];rfl
theorem uQ:∀(xs ys:List Int),jT (xs.map .int) (ys.map .int)=(xs.zip ys).map Jx
 |[],_=>rfl
 |_::_,[]=>rfl
 |x::xs,y::ys=>by have:=uQ xs ys;unfold jT at this ⊢;rw[b_,b_,List.zipWith_cons_cons,this];rfl
theorem zJ {α:Type}(xs:List α){m:Int}(h:0<=m):jE xs (Δ m) Φ=xs.drop m.toNat:=by
 unfold jE HT.LI;simp only;rw[d_ (by omega)];by_cases hm:m.toNat<=xs.length
 ·rw[show min m.toNat xs.length=m.toNat from Nat.min_eq_left hm,List.take_of_length_le (by rw[aah];omega)]
 ·rw[show min m.toNat xs.length=xs.length from Nat.min_eq_right (by omega),List.drop_length,List.take_nil,List.drop_of_length_le (by omega)]
noncomputable def zs (xs:List Int):List (Int×Int):=(ends xs).zip ((ends xs).drop 1)
theorem qw (xs:List Int):(zs xs).length<=xs.length:=by unfold zs;rw[List.length_zip];exact D_ (Nat.min_le_left _ _) (mi xs)
theorem zK (ys:List Int):jE (ys.map D.int) (Δ 1) Φ=(ys.drop 1).map .int:=by rw[mh,zJ ys (by decide)];rfl
theorem vZ (n:Nat){xs:List Int}(h:xs.length < 64):bK T (n+1) 36 [.lst Ξ (xs.map .int)]=.ok (.lst Ξ ((zs xs).map Jx)):=by
 have e:=sY (o:=Ξ) h;have ee:Jv ((ends xs).map D.int)=(ends xs).map D.int:=Ev.jh _;have ec:=zK (ends xs);have ez:=uQ (ends xs) ((ends xs).drop 1);have lz:((zs xs).map Jx).length<=64:=by rw[i_];exact Nat.le_of_lt (Nat.lt_of_le_of_lt (qw xs) h)
 have ep:=jd (zs xs);have le:((ends xs).map D.int).length<=64:=by rw[i_];exact Nat.le_of_lt (Nat.lt_of_le_of_lt (mi xs) h)
 have ld:(((ends xs).drop 1).map D.int).length<=64:=by rw[i_,aah];rw[i_]at le;omega
 have lzz:(((ends xs).zip ((ends xs).drop 1)).map Jx).length<=64:=lz;have epz:Jv (((ends xs).zip ((ends xs).drop 1)).map Jx)=((ends xs).zip ((ends xs).drop 1)).map Jx:=ep;show _=Except.ok (D.lst Ξ (((ends xs).zip ((ends xs).drop 1)).map Jx));rw[gx 36 VE 1 2 VD rfl rfl rfl rfl rfl rfl];unfold VD;generalize((ends xs).zip ((ends xs).drop 1)).map Jx=ZZ,(ends xs).map D.int=EE,((ends xs).drop 1).map D.int=DD,xs.map D.int=XX at *;have lzd:tZ (.lst Ξ EE) (.lst Θ DD)=.ok (.lst Θ ZZ):=by show IE (jo (jT EE DD).length) (.ok (D.lst Θ (jT EE DD)))=_;rw[ez,Ev.oE (by omega)];rfl
 have n1:iS (.sset (.v 0))=Ξ:=rfl;have v1:vars (.sset (.v 0))=[0]:=rfl;have n2:iS (.K5 (.v 1) (.sl (.v 1) (Δ (.c (.int 1))) Φ))=Ξ:=rfl;have v2:vars (.K5 (.v 1) (.sl (.v 1) (Δ (.c (.int 1))) Φ))=[1,1]:=rfl;simp![e,ee,ec,lzd,epz,n1,v1,n2,v2]
theorem BJ (n:Nat)(gs:List Gp)(ms:List (Str×Tn))(salt rest:Str){rs:List Rl}(al:Al)(fr:List (Int×Int))(day:Int)(st:List (Int×Int)) :
  iP (jb (bK T (n+4)) (.tp [(.nm 3),(.nm 4)]) [] (.idx (.call 34 [(.v 0),(.v 1),(.v 2),(.v 3)]) (.c (.int 0))) [Δ (JF salt rest rs al fr),Δ (.int day),Δ (.lst Θ (((idx rs).filter fun q=>q.2.cs.all (jA gs ms)).map LF)),Φ,Φ]) (st.map Jx)=.ok ((st.map fun p=>dec gs ms rest rs al day p.1).map .str):=by
 refine Ev.jL Jx (fun p=>dec gs ms rest rs al day p.1) .str st fun p hp=>?_;obtain⟨i,e⟩:=BH n gs ms salt rest (rs:=rs) al fr day p.1;have es:=ku salt rest rs al fr;have en:=zu ((idx rs).filter fun q=>q.2.cs.all (jA gs ms));rw[show Jx p=.tup [.int p.1,.int p.2] from rfl];generalize dec gs ms rest rs al day p.1=f,JF salt rest rs al fr=SW,((idx rs).filter fun q=>q.2.cs.all (jA gs ms)).map LF=NU at *;simp![Ev.iE,es,en,e]
theorem zL (n:Nat){gs:List Gp}(hg:PY gs)(ms:List (Str×Tn))(salt rest:Str){rs:List Rl}(al:Al)(fr:List (Int×Int))(wf:∀r∈rs,∀c∈r.cs,Wf c)(hl:rs.length<=100)(day:Int){st:List (Int×Int)}(Ke:st.length<=100) :
  bK T (n+10) 37 [JI gs,JF salt rest rs al fr,.int day,JK ms,.lst Ξ (st.map Jx)]=.ok (.lst Θ ((st.map fun p=>dec gs ms rest rs al day p.1).map .str)):=by
 have e1:=BB n hg ms salt rest al fr wf hl;have e2:=BJ (n+5) gs ms salt rest (rs:=rs) al fr day st;have es:=ku salt rest rs al fr;have eg:=jC gs;have em:=jG ms;have ep:=jd st;have ls:(st.map Jx).length=st.length:=i_ _;have lfn:iH (.lst Θ (((idx rs).filter fun q=>q.2.cs.all (jA gs ms)).map LF))=Ξ:=rfl;have lfs:=Ev.yL (st.map fun p=>dec gs ms rest rs al day p.1);rw[gx 37 VG 5 6 VF rfl rfl rfl rfl rfl rfl];unfold VF;generalize(st.map fun p=>dec gs ms rest rs al day p.1).map D.str=FS,st.map Jx=ST,JF salt rest rs al fr=SW,JI gs=GD,JK ms=MD,((idx rs).filter fun q=>q.2.cs.all (jA gs ms)).map LF=NU at *;simp![es,eg,em,ep,ls,lfn,lfs,e1,e2]
noncomputable abbrev iK:Str->Key:=Sum.inr
noncomputable def lk (f:Str):List Str->List Int->Int
 |k::ks,v::vs=>if k=f then v else lk f ks vs
 |_,_=>0
noncomputable def pk (f:Str)(ks:List Str):List Str:=if f∈ks then ks else ks++[f]
noncomputable def pv (f:Str)(v:Int)(ks:List Str)(vs:List Int):List Int:=if f∈ks then List.zipWith (fun k e=>if k=f then v else e) ks vs else vs++[v]
theorem sZ (f:Str):∀(ks:List Str) (vs:List Int),(look (ks.map iK) (vs.map D.int) (.inr f)).getD (.int 0)=.int (lk f ks vs)
 |[],vs=>by cases vs<;>rfl
 |k::ks,[]=>rfl
 |k::ks,v::vs=>by
  show(if iK k=Sum.inr f then Δ (D.int v) else look (ks.map iK) (vs.map D.int) (.inr f)).getD (.int 0)=.int (if k=f then v else lk f ks vs);by_cases h:k=f
  ·rw[e_ (congrArg Sum.inr h),e_ h];rfl
  ·rw[d_ (fun z=>h (Sum.inr.inj z)),d_ h];exact sZ f ks vs
theorem uR (f:Str)(ks:List Str):qY (ks.map iK) (.inr f)=Θ↔f∈ks:=by
 unfold qY;rw[List.any_eq_true];constructor
 ·rintro⟨q,hq,e⟩;obtain⟨k,hk,rfl⟩:=List.mem_map.mp hq;have:=Sum.inr.inj (q_ e);subst this;exact hk
 ·intro h;exact⟨_,List.mem_map.mpr ⟨f,h,rfl⟩,G_ rfl⟩
theorem MB (f:Str)(ks:List Str):kT (ks.map iK) (.inr f)=(pk f ks).map iK:=by
 unfold kT pk;by_cases h:f∈ks
 ·rw[e_ ((uR f ks).mpr h),e_ h]
 ·rw[d_ (fun z=>h ((uR f ks).mp z)),d_ h,N_];rfl
theorem Hb (f:Str)(v:Int):∀(ks:List Str) (vs:List Int),List.zipWith (fun k e=>if k=Sum.inr f then D.int v else e) (ks.map iK) (vs.map D.int)=(List.zipWith (fun k e=>if k=f then v else e) ks vs).map D.int
 |[],vs=>by cases vs<;>rfl
 |k::ks,[]=>rfl
 |k::ks,e::vs=>by
  rw[b_,b_,List.zipWith_cons_cons,List.zipWith_cons_cons,Hb f v ks vs,b_];by_cases h:k=f
  ·rw[e_ (congrArg Sum.inr h),e_ h]
  ·rw[d_ (fun z=>h (Sum.inr.inj z)),d_ h]
theorem CI (f:Str)(v:Int)(ks:List Str)(vs:List Int):ki (ks.map iK) (vs.map D.int) (.inr f) (.int v)=(pv f v ks vs).map .int:=by
 unfold ki pv;by_cases h:f∈ks
 ·rw[e_ ((uR f ks).mpr h),e_ h];exact Hb f v ks vs
 ·rw[d_ (fun z=>h ((uR f ks).mp z)),d_ h,N_];rfl
noncomputable def cst (F:Int->Str)(s:List Str×List Int)(p:Int×Int):List Str×List Int:=(pk (F p.1) s.1,pv (F p.1) (lk (F p.1) s.1 s.2+p.2 - p.1) s.1 s.2)
structure Om (s:List Str×List Int)(b:Nat):Prop where
 nd:s.1.Nodup
 ln:s.1.length=s.2.length
 le:s.1.length<=b
theorem EX (F:Int->Str){s:List Str×List Int}{b:Nat}(h:Om s b)(p:Int×Int):Om (cst F s p) (b+1):=by
 obtain⟨nd,ln,le⟩:=h;unfold cst pk pv;by_cases hm:F p.1∈s.1
 ·rw[e_ hm,e_ hm];exact⟨nd,by rw[List.length_zipWith,<- ln,Nat.min_self],Nat.le_succ_of_le le⟩
 ·rw[d_ hm,d_ hm];refine⟨r_.mpr ⟨nd,by simp,fun a ha b hb e=>hm ?_⟩,by rw[o_,o_,ln];rfl,by rw[o_];exact Nat.succ_le_succ le⟩;rw[<- w_.mp hb,<- e];exact ha
theorem zM (F:Int->Str)(s:List Str×List Int)(p:Int×Int):0 < (cst F s p).1.length:=by
 unfold cst pk;by_cases hm:F p.1∈s.1
 ·rw[e_ hm];exact List.length_pos_of_mem hm
 ·rw[d_ hm,o_];exact Nat.succ_pos _
theorem rP (F:Int->Str):∀(st:List (Int×Int)) {s:List Str×List Int}{b:Nat},Om s b->Om (st.foldl (cst F) s) (b+st.length)
 |[],s,b,h=>h
 |p::st,s,b,h=>by have:=rP F st (EX F h p);rw[List.length_cons,Nat.add_comm st.length 1,<- Nat.add_assoc];exact this
theorem rQ (F:Int->Str):∀(st:List (Int×Int)) {s:List Str×List Int},0 < s.1.length->0 < (st.foldl (cst F) s).1.length
 |[],s,h=>h
 |p::st,s,h=>rQ F st (zM F s p)
theorem EY {ks:List Str}{vs:List Int}(nd:ks.Nodup)(ln:ks.length=vs.length){i:Nat}(hi:i < ks.length):lk (ks.getD i ⟨#[]⟩) ks vs=vs.getD i 0:=by
 induction ks generalizing vs i with
 |nil=>exact absurd hi (Nat.not_lt_zero _)
 |cons k ks ih=>
  cases vs with
  |nil=>cases ln
  |cons v vs=>
   cases i with
   |zero=>exact e_ rfl
   |succ i=>
    have Ln:i < ks.length:=by simpa using hi
    obtain⟨n1,n2⟩:=E_.mp nd;show(if k=ks.getD i ⟨#[]⟩ then v else lk (ks.getD i ⟨#[]⟩) ks vs)=vs.getD i 0;rw[d_ (fun z=>n1 (by rw[z,Z_,v_ Ln];exact aax Ln))];exact ih n2 (by simpa using ln) Ln
theorem qx:∀ks:List Str,j5 (ks.map iK)=Δ ks
 |[]=>rfl
 |k::ks=>by show(j5 (ks.map iK)).map (k::·)=_;rw[qx ks];rfl
noncomputable def LW (s:List Str×List Int):List D:=(kG s.1).map fun i=>.tup [.str (s.1.getD i ⟨#[]⟩),.int (s.2.getD i 0)]
theorem EZ {o:Bool}{s:List Str×List Int}{b:Nat}(h:Om s b)(h0:0 < s.1.length)(hb:b < 64):qX (.Jy o (s.1.map iK) (s.2.map D.int))=.ok (.lst Θ (LW s)):=by show(match j5 (s.1.map iK) with|some xs=>(match jB (s.2.map D.int) with|some ns=>IE (decide (0 < xs.length/\xs.length < 64)&&decide xs.Nodup) (.ok (D.lst Θ ((kG xs).map fun i=>.tup [.str (xs.getD i ⟨#[]⟩),.int (ns.getD i 0)])))|none=>Jw)|none=>Jw)=_;rw[qx,zG];show IE (decide (0 < s.1.length/\s.1.length < 64)&&decide s.1.Nodup) _=_;rw[G_ (show 0 < s.1.length/\s.1.length < 64 from⟨h0,Nat.lt_of_le_of_lt h.le hb⟩),G_ h.nd];rfl
theorem E0 {o:Bool}{s:List Str×List Int}{b:Nat}(h:Om s b)(hb:b < 64):jW .sorted [.Jy o (s.1.map iK) (s.2.map D.int)]=.ok (.lst Θ ((kG s.1).map fun i=>.str (s.1.getD i ⟨#[]⟩))):=by show(match j5 (s.1.map iK) with|some xs=>IE (decide (xs.length < 64)) (.ok (D.lst Θ ((kG xs).map fun i=>.str (xs.getD i ⟨#[]⟩))))|none=>Jw)=_;rw[qx];show IE (decide (s.1.length < 64)) _=_;rw[G_ (Nat.lt_of_le_of_lt h.le hb)];rfl
theorem uS (cl:Nat->List D->Res D)(F:Int->Str)(s0 s1 s2 s3 s4:Option D):∀(st:List (Int×Int)) (s:List Str×List Int) (b6 b7:Option D),s.1.length+st.length<=1000->
  ∃c6 c7,forM (Ev.turn cl (.tp [(.nm 6),(.nm 7)]) Qt) (st.map fun p=>.tup [Jx p,.str (F p.1)]) [s0,s1,s2,s3,s4,Δ (.Jy Θ (s.1.map iK) (s.2.map D.int)),b6,b7]=.ok (.nx [s0,s1,s2,s3,s4,Δ (.Jy Θ ((st.foldl (cst F) s).1.map iK) ((st.foldl (cst F) s).2.map D.int)),c6,c7])
 |[],s,b6,b7,_=>⟨b6,b7,rfl⟩
 |p::st,s,b6,b7,h=>by
  rw[List.length_cons]at h;have Wt:=sZ (F p.1) s.1 s.2;have Wu:=MB (F p.1) s.1;have Wv:=CI (F p.1) (lk (F p.1) s.1 s.2+p.2 - p.1) s.1 s.2;have RF:=Ev.sS s.2;have lks:(s.1.map iK).length=s.1.length:=i_ _;have hlen:(cst F s p).1.length<=s.1.length+1:=by
   unfold cst pk;by_cases hm:F p.1∈s.1
   ·rw[e_ hm];exact Nat.le_succ _
   ·rw[d_ hm,o_];exact m_ _
  have et:Ev.turn cl (.tp [(.nm 6),(.nm 7)]) Qt (.tup [.tup [.int p.1,.int p.2],.str (F p.1)]) [s0,s1,s2,s3,s4,Δ (.Jy Θ (s.1.map iK) (s.2.map D.int)),b6,b7]=.ok (.nx [s0,s1,s2,s3,s4,Δ (.Jy Θ ((cst F s p).1.map iK) ((cst F s p).2.map D.int)),Δ (.tup [.int p.1,.int p.2]),Δ (.str (F p.1))]):=by show _=Except.ok (Fl.nx [s0,s1,s2,s3,s4,Δ (.Jy Θ ((pk (F p.1) s.1).map iK) ((pv (F p.1) (lk (F p.1) s.1 s.2+p.2 - p.1) s.1 s.2).map D.int)),_,_]);rw[<- Wu,<- Wv];have Ww:Ev.rJ cl 5 (.v 7) [s0,s1,s2,s3,s4,Δ (.Jy Θ (s.1.map iK) (s.2.map D.int)),Δ (.tup [.int p.1,.int p.2]),Δ (.str (F p.1))] (.int (lk (F p.1) s.1 s.2+p.2 - p.1)) (Δ (.Jy Θ (s.1.map iK) (s.2.map D.int)))=.ok (.nx [s0,s1,s2,s3,s4,Δ (.Jy Θ (kT (s.1.map iK) (.inr (F p.1))) (ki (s.1.map iK) (s.2.map D.int) (.inr (F p.1)) (.int (lk (F p.1) s.1 s.2+p.2 - p.1)))),Δ (.tup [.int p.1,.int p.2]),Δ (.str (F p.1))]):=Ev.nv rfl (by rw[RF,Ev.oF (by omega)];rfl);unfold Qt;generalize lk (F p.1) s.1 s.2=v at *;generalize F p.1=f,s.1.map iK=KS,s.2.map D.int=VS at *;simp![Ev.iE,Wt,Ww]
  rw[b_,Ev.dR,show Jx p=.tup [.int p.1,.int p.2] from rfl,et];exact uS cl F s0 s1 s2 s3 s4 st (cst F s p) _ _ (by omega)
theorem Hd {xs:List Int}(h0:(0:Int)∈xs)(h1:(10007:Int)∈xs):0 < (zs xs).length:=by
 have a:=oP.mpr h0;have b:=oP.mpr h1;unfold zs;rw[List.length_zip,aah];rcases e:ends xs with _|⟨x,_|⟨y,r⟩⟩
 ·rw[e]at a;cases a
 ·rw[e]at a b;have:=(w_.mp a).trans (w_.mp b).symm;cases this
 ·show 0 < min (r.length+1+1) (r.length+1+1 - 1);omega
noncomputable def cnt (F:Int->Str)(xs:List Int):List Str×List Int:=(zs xs).foldl (cst F) ([],[])
theorem tf (F:Int->Str)(xs:List Int):Om (cnt F xs) xs.length:=by have:=rP F (zs xs) (s:=([],[])) (b:=0) ⟨.nil,rfl,m_ _⟩;rw[Nat.zero_add]at this;exact⟨this.nd,this.ln,D_ this.le (qw xs)⟩
theorem E1 (F:Int->Str){xs:List Int}(h0:(0:Int)∈xs)(h1:(10007:Int)∈xs):0 < (cnt F xs).1.length:=by
 have h:=Hd h0 h1;unfold cnt;generalize zs xs=st at h ⊢;cases st with
 |nil=>exact absurd h (T_ _)
 |cons p st=>exact rQ F st (zM F _ p)
theorem CJ (F:Int->Str):∀st:List (Int×Int),jT (st.map Jx) ((st.map fun p=>F p.1).map .str)=st.map fun p=>.tup [Jx p,.str (F p.1)]
 |[]=>rfl
 |p::st=>by have:=CJ F st;unfold jT at this ⊢;rw[b_,b_,b_,List.zipWith_cons_cons,this];rfl
theorem He (F:Int->Str)(st:List (Int×Int)):Jv (st.map fun p=>.tup [Jx p,.str (F p.1)])=st.map fun p=>.tup [Jx p,.str (F p.1)]:=by rw[ji,K_];exact aat fun p _=>rfl
theorem tj (s:List Str×List Int):iD (LW s)=Θ:=by unfold LW;rw[iU,List.all_map,R_];intro i _;rfl
theorem counts (n:Nat){gs:List Gp}(hg:PY gs)(ms:List (Str×Tn))(salt rest:Str){rs:List Rl}{al:Al}(fr:List (Int×Int))(wf:∀r∈rs,∀c∈r.cs,Wf c)(hl:rs.length<=100)(ha:(fla al).length<=100)(day:Int)(hc:(iG day rs al).length < 64) :
  bK T (n+11) 38 [JI gs,JF salt rest rs al fr,.int day,JK ms]=.ok (.lst Θ (LW (cnt (dec gs ms rest rs al day) (iG day rs al)))):=by
 have e1:=sX (n+8) salt rest fr day hl ha;have e2:=vZ (n+9) hc;have zl:=qw (iG day rs al);have e3:=zL n hg ms salt rest al fr wf hl day (st:=zs (iG day rs al)) (by omega);obtain⟨c6,c7,e4⟩:=uS (bK T (n+10)) (dec gs ms rest rs al day) (Δ (JI gs)) (Δ (JF salt rest rs al fr)) (Δ (.int day)) (Δ (JK ms)) (Δ (.lst Ξ ((zs (iG day rs al)).map Jx))) (zs (iG day rs al)) ([],[]) Φ Φ (by show 0+_<=_;omega);have e5:=EZ (o:=Θ) (tf (dec gs ms rest rs al day) (iG day rs al)) (E1 _ (by simp[iG]) (by simp[iG])) hc;have zf:=CJ (dec gs ms rest rs al day) (zs (iG day rs al));have ez:=He (dec gs ms rest rs al day) (zs (iG day rs al));have es:=ku salt rest rs al fr;have eg:=jC gs;have em:=jG ms;have ep:=jd (zs (iG day rs al));have ec:Jv ((iG day rs al).map D.int)=(iG day rs al).map D.int:=Ev.jh _;have RE:=tj (cnt (dec gs ms rest rs al day) (iG day rs al));have nl:iS (.KQ (.v 5))=Θ:=rfl;have vz:kj (.zip (.v 4) (.call 37 [(.v 0),(.v 1),(.v 2),(.v 3),(.v 4)]))=[4,0,1,2,3,4]:=rfl;have lzf:iH (.lst Ξ ((zs (iG day rs al)).map Jx))=Ξ:=rfl;have e4:forM (Ev.turn (bK T (n+10)) (.tp [(.nm 6),(.nm 7)]) Qt) _ [Δ (JI gs),Δ (JF salt rest rs al fr),Δ (.int day),Δ (JK ms),Δ (.lst Ξ ((zs (iG day rs al)).map Jx)),Δ (.Jy Θ [] []),Φ,Φ]=.ok (.nx [Δ (JI gs),Δ (JF salt rest rs al fr),Δ (.int day),Δ (JK ms),Δ (.lst Ξ ((zs (iG day rs al)).map Jx)),Δ (.Jy Θ ((cnt (dec gs ms rest rs al day) (iG day rs al)).1.map iK) ((cnt (dec gs ms rest rs al day) (iG day rs al)).2.map D.int)),c6,c7]):=e4;rw[gx 38 VI 4 8 VH rfl rfl rfl rfl rfl rfl];unfold VH;generalize LW (cnt (dec gs ms rest rs al day) (iG day rs al))=IT,(cnt (dec gs ms rest rs al day) (iG day rs al)).1.map iK=KS,(cnt (dec gs ms rest rs al day) (iG day rs al)).2.map D.int=VS,((zs (iG day rs al)).map fun p=>D.tup [Jx p,.str (dec gs ms rest rs al day p.1)])=ZF,((zs (iG day rs al)).map fun p=>dec gs ms rest rs al day p.1).map D.str=FF,(zs (iG day rs al)).map Jx=ZP,(iG day rs al).map D.int=CP,JF salt rest rs al fr=SW,JI gs=GD,JK ms=MD,Qt=tc at *;simp![e1,e2,e3,zf,ez,es,eg,em,ep,ec,lzf,vz,e4,e5,nl,RE]
theorem qy (n:Nat)(s0 s1 s3:Option D)(day:Int)(s7 s8 s9 Lu K0:Option D):∀(rs:List Rl) (acc:List Int) (b c:Option D),acc.length+rs.length<=1000->
  ∃b' c',forM (Ev.turn (bK T (n+1)) (.tp [(.nm 5),(.nm 6)]) NL) (rs.map Rl.d) [s0,s1,Δ (.int day),s3,Δ (.lst Θ (acc.map .int)),b,c,s7,s8,s9,Lu,K0]=.ok (.nx [s0,s1,Δ (.int day),s3,Δ (.lst Θ ((acc++KR day rs).map .int)),b',c',s7,s8,s9,Lu,K0])
 |[],acc,b,c,_=>⟨b,c,by rw[show KR day []=[] from rfl,P_];rfl⟩
 |r::rs,acc,b,c,h=>by
  have ed:r.d=.tup [.lst Ξ (r.cs.map Cn.d),r.o.d]:=rfl;have la:(acc.map D.int).length=acc.length:=i_ _;rw[List.length_cons]at h;rw[b_,Ev.dR,ed,show KR day (r::rs)=M4 day r.o++KR day rs from rfl];have no:(∀f sg,r.o≠.share f sg)->∃b' c',Iq (Ev.turn (bK T (n+1)) (.tp [(.nm 5),(.nm 6)]) NL (.tup [.lst Ξ (r.cs.map Cn.d),r.o.d]) [s0,s1,Δ (.int day),s3,Δ (.lst Θ (acc.map .int)),b,c,s7,s8,s9,Lu,K0]) (Ev.yD (Ev.turn (bK T (n+1)) (.tp [(.nm 5),(.nm 6)]) NL) (rs.map Rl.d))=.ok (.nx [s0,s1,Δ (.int day),s3,Δ (.lst Θ ((acc++(M4 day r.o++KR day rs)).map .int)),b',c',s7,s8,s9,Lu,K0]):=by
   intro hn;have o0:∃w:Str,iQ r.o.d (.int 0)=.ok (.str w)/\(w == Ρ "share")=Ξ:=by
    cases ho:r.o with
    |face f=>exact⟨_,rfl,Ym⟩
    |NN=>exact⟨_,rfl,Ss⟩
    |share f sg=>exact absurd ho (hn f sg)
   have Wr:M4 day r.o=[]:=by
    cases ho:r.o with
    |share f sg=>exact absurd ho (hn f sg)
    |_=>rfl
   obtain⟨w,o0,hw⟩:=o0;rw[Wr,List.nil_append];have et:Ev.turn (bK T (n+1)) (.tp [(.nm 5),(.nm 6)]) NL (.tup [.lst Ξ (r.cs.map Cn.d),r.o.d]) [s0,s1,Δ (.int day),s3,Δ (.lst Θ (acc.map .int)),b,c,s7,s8,s9,Lu,K0]=.ok (.nx [s0,s1,Δ (.int day),s3,Δ (.lst Θ (acc.map .int)),Δ (.lst Ξ (r.cs.map Cn.d)),Δ r.o.d,s7,s8,s9,Lu,K0]):=by unfold NL;generalize r.cs.map Cn.d=CD,r.o.d=OD,acc.map D.int=AC at *;simp![Ev.iE,o0,hw]
   rw[et];exact qy n s0 s1 s3 day s7 s8 s9 Lu K0 rs acc _ _ (by omega)
  cases ho:r.o with
  |share f sg=>
   have e:=pO n sg day;have ep:=jd sg;have et:Ev.turn (bK T (n+1)) (.tp [(.nm 5),(.nm 6)]) NL (.tup [.lst Ξ (r.cs.map Cn.d),.tup [.str "share",.str f,.lst Ξ (sg.map Jx)]]) [s0,s1,Δ (.int day),s3,Δ (.lst Θ (acc.map .int)),b,c,s7,s8,s9,Lu,K0]=.ok (.nx [s0,s1,Δ (.int day),s3,Δ (.lst Θ ((acc++[shr sg day]).map .int)),Δ (.lst Ξ (r.cs.map Cn.d)),Δ (.tup [.str "share",.str f,.lst Ξ (sg.map Jx)]),s7,s8,s9,Lu,K0]):=by rw[N_];show _=Except.ok (Fl.nx [s0,s1,Δ (.int day),s3,Δ (.lst Θ (acc.map .int++[.int (shr sg day)])),_,_,_,_,_,_,_]);unfold NL;generalize r.cs.map Cn.d=CD,sg.map Jx=SG,acc.map D.int=AC,shr sg day=sh at *;simp![Ev.iE,ep,e]
   show ∃b' c',Iq (Ev.turn _ _ _ (.tup [.lst Ξ (r.cs.map Cn.d),.tup [.str "share",.str f,.lst Ξ (sg.map Jx)]]) _) _=_;rw[et,show acc++(M4 day (.share f sg)++KR day rs)=(acc++[shr sg day])++KR day rs from by rw[z_];rfl];exact qy n s0 s1 s3 day s7 s8 s9 Lu K0 rs (acc++[shr sg day]) _ _ (by rw[o_,X_];omega)
  |face f=>have:=no (fun _ _ z=>by rw[ho]at z;cases z);rw[ho]at this;exact this
  |NN=>have:=no (fun _ _ z=>by rw[ho]at z;cases z);rw[ho]at this;exact this
theorem CK (cl:Nat->List D->Res D)(s0 s1 s2 s3 s5 s6 s7 s8 K0:Option D):∀(run:List (Int×Int)) (acc:List Int) (b c:Option D),acc.length+2*run.length<=1000->
  ∃b' c',forM (Ev.turn cl (.tp [(.nm 9),(.nm 10)]) OK) (run.map Jx) [s0,s1,s2,s3,Δ (.lst Θ (acc.map .int)),s5,s6,s7,s8,b,c,K0]=.ok (.nx [s0,s1,s2,s3,Δ (.lst Θ ((acc++K' run).map .int)),s5,s6,s7,s8,b',c',K0])
 |[],acc,b,c,_=>⟨b,c,by rw[show K' []=[] from rfl,P_];rfl⟩
 |p::run,acc,b,c,h=>by
  rw[List.length_cons]at h;have la:(acc.map D.int).length=acc.length:=i_ _;have lf:=Ev.sS acc;have lfa:∀x y:Int,iD (acc.map D.int++[.int x,.int y])=Θ:=fun x y=>by rw[iU,List.all_append,<- iU,lf];rfl
  have et:Ev.turn cl (.tp [(.nm 9),(.nm 10)]) OK (.tup [.int p.1,.int p.2]) [s0,s1,s2,s3,Δ (.lst Θ (acc.map .int)),s5,s6,s7,s8,b,c,K0]=.ok (.nx [s0,s1,s2,s3,Δ (.lst Θ ((acc++[p.1,p.2]).map .int)),s5,s6,s7,s8,Δ (.int p.1),Δ (.int p.2),K0]):=by rw[N_];show _=Except.ok (Fl.nx [s0,s1,s2,s3,Δ (.lst Θ (acc.map .int++[.int p.1,.int p.2])),_,_,_,_,_,_,_]);unfold OK;generalize acc.map D.int=AC at *;simp![Ev.iE,lfa]
  rw[b_,Ev.dR,show Jx p=.tup [.int p.1,.int p.2] from rfl,et,show acc++K' (p::run)=(acc++[p.1,p.2])++K' run from by rw[z_];rfl];exact CK cl s0 s1 s2 s3 s5 s6 s7 s8 K0 run (acc++[p.1,p.2]) _ _ (by rw[o_];show acc.length+2+_<=_;omega)
theorem uT (cl:Nat->List D->Res D)(s0 s1 s2 s3 s5 s6 K0:Option D):∀(al:Al) (acc:List Int) (b5 b6 b7 b8:Option D),acc.length+(fla al).length<=1000->
  ∃c5 c6 c7 c8,forM (Ev.turn cl (.tp [(.nm 7),(.nm 8)]) [(.JH (.tp [(.nm 9),(.nm 10)]) (.val (.v 8)) OK)]) (al.map Kv) [s0,s1,s2,s3,Δ (.lst Θ (acc.map .int)),s5,s6,b5,b6,b7,b8,K0]=.ok (.nx [s0,s1,s2,s3,Δ (.lst Θ ((acc++fla al).map .int)),s5,s6,c5,c6,c7,c8,K0])
 |[],acc,b5,b6,b7,b8,_=>⟨b5,b6,b7,b8,by rw[show fla []=[] from rfl,P_];rfl⟩
 |p::al,acc,b5,b6,b7,b8,h=>by
  rw[mf,o_,k9]at h;obtain⟨c7,c8,e⟩:=CK cl s0 s1 s2 s3 s5 s6 (Δ (.str p.1)) (Δ (.lst Ξ (p.2.map Jx))) K0 p.2 acc b7 b8 (by omega);have ep:=jd p.2;have et:Ev.turn cl (.tp [(.nm 7),(.nm 8)]) [(.JH (.tp [(.nm 9),(.nm 10)]) (.val (.v 8)) OK)] (.tup [.str p.1,.lst Ξ (p.2.map Jx)]) [s0,s1,s2,s3,Δ (.lst Θ (acc.map .int)),s5,s6,b5,b6,b7,b8,K0]=.ok (.nx [s0,s1,s2,s3,Δ (.lst Θ ((acc++K' p.2).map .int)),s5,s6,Δ (.str p.1),Δ (.lst Ξ (p.2.map Jx)),c7,c8,K0]):=by generalize p.2.map Jx=PR,acc.map D.int=AC,(acc++K' p.2).map D.int=AF,OK=tc at *;simp![Ev.iE,ep,e]
  rw[b_,Ev.dR,show Kv p=.tup [.str p.1,.lst Ξ (p.2.map Jx)] from rfl,et,mf,show acc++(K' p.2++fla al)=(acc++K' p.2)++fla al from(z_ _ _ _).symm];exact uT cl s0 s1 s2 s3 s5 s6 K0 al (acc++K' p.2) _ _ _ _ (by rw[o_,k9];omega)
theorem uU (n:Nat){gs:List Gp}(hg:Lq gs){ms:List (Str×Tn)}(nd:(ms.map (·.1)).Nodup)(salt rest:Str){rs:List Rl}(al:Al)(fr:List (Int×Int))(wf:∀r∈rs,(∀c∈r.cs,Wf c)/\r.cs.length<=100)(day:Int)(s4 s5 s6 s8:Option D):∀(st:List (Int×Int)) (s:List Str×List Int) (b7 b9 NO:Option D),s.1.length+st.length<=1000->
  ∃c7 c9 OO,forM (Ev.turn (bK T (n+3)) (.tp [(.nm 9),(.nm 10)]) Qu) (st.map Jx) [Δ (JI gs),Δ (JF salt rest rs al fr),Δ (.int day),Δ (JK ms),s4,s5,s6,b7,s8,b9,NO,Δ (.Jy Θ (s.1.map iK) (s.2.map D.int))]=.ok (.nx [Δ (JI gs),Δ (JF salt rest rs al fr),Δ (.int day),Δ (JK ms),s4,s5,s6,c7,s8,c9,OO,Δ (.Jy Θ ((st.foldl (cst (dec gs ms rest rs al day)) s).1.map iK) ((st.foldl (cst (dec gs ms rest rs al day)) s).2.map D.int))])
 |[],s,b7,b9,NO,_=>⟨b7,b9,NO,rfl⟩
 |p::st,s,b7,b9,NO,h=>by
  rw[List.length_cons]at h;have e1:=BF n hg nd salt rest al fr wf day p.1;have es:=ku salt rest rs al fr;have eg:=jC gs;have em:=jG ms;have Wt:=sZ (dec gs ms rest rs al day p.1) s.1 s.2;have Wu:=MB (dec gs ms rest rs al day p.1) s.1;have Wv:=CI (dec gs ms rest rs al day p.1) (lk (dec gs ms rest rs al day p.1) s.1 s.2+p.2 - p.1) s.1 s.2;have RF:=Ev.sS s.2;have lks:(s.1.map iK).length=s.1.length:=i_ _;have hlen:(cst (dec gs ms rest rs al day) s p).1.length<=s.1.length+1:=by
   unfold cst pk;by_cases hm:dec gs ms rest rs al day p.1∈s.1
   ·rw[e_ hm];exact Nat.le_succ _
   ·rw[d_ hm,o_];exact m_ _
  have et:Ev.turn (bK T (n+3)) (.tp [(.nm 9),(.nm 10)]) Qu (.tup [.int p.1,.int p.2]) [Δ (JI gs),Δ (JF salt rest rs al fr),Δ (.int day),Δ (JK ms),s4,s5,s6,b7,s8,b9,NO,Δ (.Jy Θ (s.1.map iK) (s.2.map D.int))]=.ok (.nx [Δ (JI gs),Δ (JF salt rest rs al fr),Δ (.int day),Δ (JK ms),s4,s5,s6,Δ (.str (dec gs ms rest rs al day p.1)),s8,Δ (.int p.1),Δ (.int p.2),Δ (.Jy Θ ((cst (dec gs ms rest rs al day) s p).1.map iK) ((cst (dec gs ms rest rs al day) s p).2.map D.int))]):=by show _=Except.ok (Fl.nx [_,_,_,_,_,_,_,_,_,_,_,Δ (.Jy Θ ((pk (dec gs ms rest rs al day p.1) s.1).map iK) ((pv (dec gs ms rest rs al day p.1) (lk (dec gs ms rest rs al day p.1) s.1 s.2+p.2 - p.1) s.1 s.2).map D.int))]);rw[<- Wu,<- Wv];unfold Qu;generalize lk (dec gs ms rest rs al day p.1) s.1 s.2=v at *;generalize dec gs ms rest rs al day p.1=f,JF salt rest rs al fr=SW,JI gs=GD,JK ms=MD at *;have Ww:Ev.rJ (bK T (n+3)) 11 (.v 7) [Δ GD,Δ SW,Δ (.int day),Δ MD,s4,s5,s6,Δ (.str f),s8,Δ (.int p.1),Δ (.int p.2),Δ (.Jy Θ (s.1.map iK) (s.2.map D.int))] (.int (v+p.2 - p.1)) (Δ (.Jy Θ (s.1.map iK) (s.2.map D.int)))=.ok (.nx [Δ GD,Δ SW,Δ (.int day),Δ MD,s4,s5,s6,Δ (.str f),s8,Δ (.int p.1),Δ (.int p.2),Δ (.Jy Θ (kT (s.1.map iK) (.inr f)) (ki (s.1.map iK) (s.2.map D.int) (.inr f) (.int (v+p.2 - p.1))))]):=Ev.nv rfl (by rw[RF,Ev.oF (by omega)];rfl);generalize s.1.map iK=KS,s.2.map D.int=VS at *;simp![Ev.iE,es,eg,em,e1,Wt,Ww]
  rw[b_,Ev.dR,show Jx p=.tup [.int p.1,.int p.2] from rfl,et];exact uU n hg nd salt rest al fr wf day s4 s5 s6 s8 st (cst (dec gs ms rest rs al day) s p) _ _ _ (by omega)
theorem zN (f:Str):∀(ks:List Str) (vs:List Int),ks.length=vs.length->f∈ks->look (ks.map iK) (vs.map D.int) (.inr f)=Δ (.int (lk f ks vs))
 |[],vs,_,h=>nomatch h
 |k::ks,[],hl,_=>nomatch hl
 |k::ks,v::vs,hl,h=>by
  show(if iK k=Sum.inr f then Δ (D.int v) else look (ks.map iK) (vs.map D.int) (.inr f))=Δ (.int (if k=f then v else lk f ks vs));by_cases e:k=f
  ·rw[e_ (congrArg Sum.inr e),e_ e]
  ·rw[d_ (fun z=>e (Sum.inr.inj z)),d_ e];exact zN f ks vs (by simpa using hl) ((k_.mp h).resolve_left fun z=>e z.symm)
theorem E2 {o:Bool}{s:List Str×List Int}{b:Nat}(h:Om s b){i:Nat}(hi:i < s.1.length):qZ (.Jy o (s.1.map iK) (s.2.map D.int)) (.str (s.1.getD i ⟨#[]⟩))=.ok (.int (s.2.getD i 0)):=by
 have hm:s.1.getD i ⟨#[]⟩∈s.1:=by rw[Z_,v_ hi];exact aax hi
 show(match look (s.1.map iK) (s.2.map D.int) (.inr (s.1.getD i ⟨#[]⟩)) with|some d=>.ok d|none=>Jw:Res D)=_;rw[zN _ _ _ h.ln hm,EY h.nd h.ln hi]
theorem E3 (cl:Nat->List D->Res D){s:List Str×List Int}{b:Nat}(h:Om s b):iP (jb cl (.nm 1) [] (.tup [(.v 1),(.K4 (.v 0) (.v 1))]) [Δ (.Jy Θ (s.1.map iK) (s.2.map D.int)),Φ]) ((kG s.1).map fun i=>.str (s.1.getD i ⟨#[]⟩))=.ok (LW s):=by
 have:=Ev.jL (g:=jb cl (.nm 1) [] (.tup [(.v 1),(.K4 (.v 0) (.v 1))]) [Δ (.Jy Θ (s.1.map iK) (s.2.map D.int)),Φ]) (fun i=>D.str (s.1.getD i ⟨#[]⟩)) (fun i=>i) (fun i=>D.tup [.str (s.1.getD i ⟨#[]⟩),.int (s.2.getD i 0)]) (kG s.1) fun i hi=>by have e:=E2 (o:=Θ) h (lY i hi);generalize s.1.getD i ⟨#[]⟩=f,s.2.getD i 0=v,s.1.map iK=KS,s.2.map D.int=VS at *;simp![Ev.iE,e]
 rw[List.map_id']at this;exact this
noncomputable def mj (day:Int)(rs:List Rl)(al:Al):List Int:=(([0]++KR day rs)++fla al)++[10007]
theorem BK (day:Int)(rs:List Rl)(al:Al):ends (mj day rs al)=ends (iG day rs al):=BI fun z=>by
 unfold mj iG;simp only[C_,k_,I_,or_false];constructor
 ·rintro(((h|h)|h)|h)
  ·exact .inl h
  ·exact .inr (.inr (.inl h))
  ·exact .inr (.inr (.inr h))
  ·exact .inr (.inl h)
 ·rintro(h|h|h|h)
  ·exact .inl (.inl (.inl h))
  ·exact .inr h
  ·exact .inl (.inl (.inr h))
  ·exact .inl (.inr h)
theorem zO (day:Int)(rs:List Rl)(al:Al):(mj day rs al).length=(iG day rs al).length:=by unfold mj iG;simp only[o_,List.length_cons,List.length_nil];omega
theorem BL (n:Nat){gs:List Gp}(hg:Lq gs){ms:List (Str×Tn)}(nd:(ms.map (·.1)).Nodup)(salt rest:Str){rs:List Rl}{al:Al}(fr:List (Int×Int))(wf:∀r∈rs,(∀c∈r.cs,Wf c)/\r.cs.length<=100)(hr:rs.length<=100)(ha:(fla al).length<=100)(day:Int)(hc:(iG day rs al).length < 64) :
  bK T (n+4) 59 [JI gs,JF salt rest rs al fr,.int day,JK ms]=.ok (.lst Θ (LW (cnt (dec gs ms rest rs al day) (iG day rs al)))):=by
 have hs:=nB day rs;obtain⟨b5,b6,e1⟩:=qy (n+2) (Δ (JI gs)) (Δ (JF salt rest rs al fr)) (Δ (JK ms)) day Φ Φ Φ Φ Φ rs [0] Φ Φ (by show 1+_<=_;omega);obtain⟨b7,b8,b9,NO,e2⟩:=uT (bK T (n+3)) (Δ (JI gs)) (Δ (JF salt rest rs al fr)) (Δ (.int day)) (Δ (JK ms)) b5 b6 Φ al ([0]++KR day rs) Φ Φ Φ Φ (by rw[o_];show 1+_+_<=_;omega);have cl:=zO day rs al;have e3:=sY (o:=Θ) (xs:=mj day rs al) (by omega);rw[BK]at e3;have zl:=qw (iG day rs al);obtain⟨c7,c9,OO,e4⟩:=uU n hg nd salt rest al fr wf day (Δ (.lst Ξ ((ends (iG day rs al)).map .int))) b5 b6 b8 (zs (iG day rs al)) ([],[]) b7 b9 NO (by show 0+_<=_;omega);have ck:=tf (dec gs ms rest rs al day) (iG day rs al);have e5:=E0 (o:=Θ) ck hc;have e6:=E3 (bK T (n+3)) ck;have lo:((kG (cnt (dec gs ms rest rs al day) (iG day rs al)).1).map fun i=>D.str ((cnt (dec gs ms rest rs al day) (iG day rs al)).1.getD i ⟨#[]⟩)).length<=64:=by rw[i_];show(kR _ _).length<=_;rw[kS];exact Nat.le_of_lt (Nat.lt_of_le_of_lt ck.le hc)
 have RE:=tj (cnt (dec gs ms rest rs al day) (iG day rs al));have s2:iQ (JF salt rest rs al fr) (.int 2)=.ok (.lst Ξ (rs.map Rl.d)):=rfl;have s3:iQ (JF salt rest rs al fr) (.int 3)=.ok (J5 al fr):=rfl;have s0:iQ (J5 al fr) (.int 0)=.ok (.lst Ξ (al.map Kv)):=rfl;have es:=ku salt rest rs al fr;have eg:=jC gs;have em:=jG ms;have ON:=mS rs;have Ws:=oO al;have ee:Jv ((ends (iG day rs al)).map D.int)=(ends (iG day rs al)).map D.int:=Ev.jh _;have ec:=zK (ends (iG day rs al));have ez:jT ((ends (iG day rs al)).map D.int) (((ends (iG day rs al)).drop 1).map D.int)=(zs (iG day rs al)).map Jx:=uQ (ends (iG day rs al)) ((ends (iG day rs al)).drop 1);have ep:=jd (zs (iG day rs al));have ll:((([0]++KR day rs)++fla al).map D.int).length<=64:=by rw[i_];unfold mj at cl;rw[o_]at cl;omega
 have lc:(([0]++KR day rs)++fla al).map D.int++[.int 10007]=(mj day rs al).map D.int:=by unfold mj;rw[N_ (l₂:=[10007])];rfl
 have le:((ends (iG day rs al)).map D.int).length<=64:=by rw[i_];exact Nat.le_of_lt (Nat.lt_of_le_of_lt (mi _) hc)
 have vx:vars (.idx (.v 1) (.c (.int 2)))=[1]:=rfl;have vy:vars (.idx (.idx (.v 1) (.c (.int 3))) (.c (.int 0)))=[1]:=rfl;have n1:iS (.sset (.bin .add (.v 4) (.lst [(.c (.int 10007))])))=Ξ:=rfl;have v1:vars (.sset (.bin .add (.v 4) (.lst [(.c (.int 10007))])))=[4]:=rfl;have vz:kj (.zip (.v 4) (.sl (.v 4) (Δ (.c (.int 1))) Φ))=[4,4]:=rfl;have e1:forM (Ev.turn (bK T (n+2+1)) (.tp [(.nm 5),(.nm 6)]) NL) (rs.map Rl.d) [Δ (JI gs),Δ (JF salt rest rs al fr),Δ (.int day),Δ (JK ms),Δ (.lst Θ [.int 0]),Φ,Φ,Φ,Φ,Φ,Φ,Φ]=_:=e1;have e4:forM (Ev.turn (bK T (n+3)) (.tp [(.nm 9),(.nm 10)]) Qu) ((zs (iG day rs al)).map Jx) [Δ (JI gs),Δ (JF salt rest rs al fr),Δ (.int day),Δ (JK ms),Δ (.lst Ξ ((ends (iG day rs al)).map .int)),b5,b6,b7,b8,b9,NO,Δ (.Jy Θ [] [])]=.ok (.nx [Δ (JI gs),Δ (JF salt rest rs al fr),Δ (.int day),Δ (JK ms),Δ (.lst Ξ ((ends (iG day rs al)).map .int)),b5,b6,c7,b8,c9,OO,Δ (.Jy Θ ((cnt (dec gs ms rest rs al day) (iG day rs al)).1.map iK) ((cnt (dec gs ms rest rs al day) (iG day rs al)).2.map D.int))]):=e4;rw[gx 59 Wd 4 12 Wc rfl rfl rfl rfl rfl rfl];unfold Wc;unfold X7;generalize LW (cnt (dec gs ms rest rs al day) (iG day rs al))=IT,((kG (cnt (dec gs ms rest rs al day) (iG day rs al)).1).map fun i=>D.str ((cnt (dec gs ms rest rs al day) (iG day rs al)).1.getD i ⟨#[]⟩))=OS,(cnt (dec gs ms rest rs al day) (iG day rs al)).1.map iK=KS,(cnt (dec gs ms rest rs al day) (iG day rs al)).2.map D.int=VS,(zs (iG day rs al)).map Jx=ZP,(ends (iG day rs al)).map D.int=EE,((ends (iG day rs al)).drop 1).map D.int=DD,(mj day rs al).map D.int=CL,(([0]++KR day rs)++fla al).map D.int=C2,([0]++KR day rs).map D.int=C1,JF salt rest rs al fr=SW,J5 al fr=AD,rs.map Rl.d=RS,al.map Kv=AL,JI gs=GD,JK ms=MD,NL=t1,[(IS.JH (.tp [(.nm 9),(.nm 10)]) (.val (.v 8)) OK)]=t2,Qu=t3 at *;simp![e1,e2,lc,e3,ee,ec,ez,ep,e4,e5,e6,lo,RE,s2,s3,s0,es,eg,em,ON,Ws,vx,vy,n1,v1,vz]
noncomputable def Cn.t (c:Cn):D:=.tup [.str c.m,.str c.w,.lst Θ (c.ts.map Tn.d)]
theorem Hf (c:Cn):er c.t=c.d:=by show D.tup [.str c.m,.str c.w,.lst Ξ (Jv (c.ts.map Tn.d))]=_;rw[y9];rfl
noncomputable def W7:List Str:=[Ρ "is",Ρ "not",Ρ "begins",Ρ "least",Ρ "most",Ρ "has",Ρ "lacks"]
noncomputable def W9:List Str:=W7++[Ρ "in",Ρ "out"]
noncomputable def Qz (w:Str):List Bool:=[LQ w,w == Ρ "begins",(w == Ρ "least")||(w == Ρ "most"),(w == Ρ "has")||(w == Ρ "lacks")]
noncomputable def rows:List (List Bool):=[[Θ,Ξ,Ξ,Ξ],[Ξ,Θ,Ξ,Ξ],[Ξ,Ξ,Θ,Ξ],[Ξ,Ξ,Ξ,Θ],[Ξ,Ξ,Ξ,Ξ]]
theorem t9:∀w∈W9,Qz w∈rows:=by decide +kernel
theorem t7:∀w∈W7,LQ w=Ξ:=by decide +kernel
theorem ml {fs:List Str}{i:Int}(h0:0<=i)(h1:i < (fs.length:Int)):∃y,(∀o,iQ (.lst o (fs.map .str)) (.int i)=.ok (.str y))/\fs[i.toNat]? = Δ y:=by
 have hl:i.toNat < fs.length:=by omega
 refine⟨fs[i.toNat],fun o=>?_,v_ hl⟩;rw[Ev.EJ h0 h1,Z_,v_ hl];rfl
theorem E4 (zs:List Str):zs.map D.str=(zs.map Tn.s).map Tn.d:=by rw[K_];rfl
theorem pQ (n:Nat)(ns:List Int):∃gn:List Str,bK T (n+3) 44 [.lst Ξ (ns.map .int)]=.ok (.lst Ξ (gn.map .str))/\gn.length=2/\gn.Nodup:=by
 have ei:=Ev.jh ns;obtain⟨fs,e,hl,nd,_⟩:=oM n ns (k:=0) (by decide) (by decide) (c:=2) (by decide) (by decide);obtain⟨r,d,d0,d1⟩:=LP (n+1) ns 148 2 (by decide) (by decide) (by decide);have ef:=Ev.jX fs;have hm:(Ρ "mates" == Ρ "others")=Ξ:=by decide +kernel
 rw[gx 44 VR 1 1 VQ rfl rfl rfl rfl rfl rfl];unfold VQ;have n1:iS (.idx (.lst [(.lst [(.c (.str "mates")),(.c (.str "others"))]),(.call 40 [(.v 0),(.c (.int 0)),(.c (.int 2))])]) (.call 39 [(.v 0),(.c (.int 148)),(.c (.int 2))]))=Ξ:=rfl;rcases(show r=0∨r=1 by omega) with rfl|rfl
 ·refine⟨[Ρ "mates",Ρ "others"],?_,rfl,by simp;exact beq_eq_false_iff_ne.mp hm⟩;have x0:∀P Q:D,iQ (.lst Θ [P,Q]) (.int 0)=.ok P:=fun _ _=>rfl;show _=Except.ok (D.lst Ξ [.str "mates",.str "others"]);generalize ns.map D.int=NS,fs.map D.str=FS at *;simp![ei,e,d,x0,n1]
 ·refine⟨fs,?_,hl,nd⟩;have x1:∀P Q:D,iQ (.lst Θ [P,Q]) (.int 1)=.ok Q:=fun _ _=>rfl;generalize ns.map D.int=NS,fs.map D.str=FS at *;simp![ei,e,d,x1,n1,ef]
theorem BM (cl:Nat->List D->Res D)(x y w:Str)(s0 s1 s2 s3 s4 s5 s7 s8 s9 Lu:Option D):IC cl (oV x y) [s0,s1,s2,s3,s4,s5,Δ (.str w),s7,s8,s9,Lu]=.ok (.bl ((w == x)||(w == y))):=by
 unfold oV;cases h:(w == x) with
 |true=>simp![h]
 |false=>simp![h]
theorem BN (n:Nat)(ns:List Int){k:Int}(k0:0<=k)(k1:k<=1000){ms:List Str}(hm:0 < ms.length)(L6:ms.length<=20)(w:Str)(w9:Qz w∈rows)(MY:LQ w=Ξ)(x y:Str)(a b:Int)(ts:List Tn)(lt:ts.length<=100)(s3 s4 s5 s9:Option D) :
  ∃cn:Cn,jf (bK T (n+2)) Tv [Δ (.lst Ξ (ns.map .int)),Δ (.int k),Δ (.lst Ξ (ms.map .str)),s3,s4,s5,Δ (.str w),Δ (.lst Θ [.str x,.str y]),Δ (.lst Θ [.int a,.int b]),s9,Δ (.lst Θ (ts.map Tn.d))]=.ok (.rt cn.t)/\Wf cn/\cn.w=w:=by
 have ei:=Ev.jh ns;have lm:(ms.map D.str).length=ms.length:=i_ _;have r9:=jx (n+1) ns (k+9) (ms.length:Int) (by omega) (by omega) (by omega);obtain⟨mn,hmn,_⟩:=ml (fs:=ms) (oI ns (k+9) (m:=(ms.length:Int)) (by omega)) (oJ ns (k+9) (by omega));generalize dr ns (k+9) (ms.length:Int)=i9 at *;obtain⟨d,r8,d0,d1⟩:=LP (n+1) ns (k+8) 2 (by omega) (by omega) (by decide);have key:∀(b1 b2 b3 b4:Bool),Qz w=[b1,b2,b3,b4]->LQ w=b1/\(w == Ρ "begins")=b2/\((w == Ρ "least")||(w == Ρ "most"))=b3/\((w == Ρ "has")||(w == Ρ "lacks"))=b4:=fun b1 b2 b3 b4 h=>by injection h with h1 h;injection h with h2 h;injection h with h3 h;injection h with h4 h;exact⟨h1,h2,h3,h4⟩
 have nl:∀ {b:Bool},((w == Ρ "least")||(w == Ρ "most"))=Ξ->(w == Ρ "least")=Θ∨(w == Ρ "most")=Θ->b=Θ:=fun h h'=>by rcases h' with h'|h'<;>rw[h']at h<;>simp at h
 have H2:∀Lu:Option D,IC (bK T (n+2)) (.cmp .eq (.v 6) (.c (.str "begins"))) [Δ (.lst Ξ (ns.map .int)),Δ (.int k),Δ (.lst Ξ (ms.map .str)),s3,s4,s5,Δ (.str w),Δ (.lst Θ [.str x,.str y]),Δ (.lst Θ [.int a,.int b]),s9,Lu]=.ok (.bl (w == Ρ "begins")):=fun _=>rfl;have H3:=fun Lu=>BM (bK T (n+2)) "least" "most" w (Δ (.lst Ξ (ns.map .int))) (Δ (.int k)) (Δ (.lst Ξ (ms.map .str))) s3 s4 s5 (Δ (.lst Θ [.str x,.str y])) (Δ (.lst Θ [.int a,.int b])) s9 Lu;have H4:=fun Lu=>BM (bK T (n+2)) "has" "lacks" w (Δ (.lst Ξ (ns.map .int))) (Δ (.int k)) (Δ (.lst Ξ (ms.map .str))) s3 s4 s5 (Δ (.lst Θ [.str x,.str y])) (Δ (.lst Θ [.int a,.int b])) s9 Lu;have fin:∀(TS:List D),jf (bK T (n+2)) Vw [Δ (.lst Ξ (ns.map .int)),Δ (.int k),Δ (.lst Ξ (ms.map .str)),s3,s4,s5,Δ (.str w),Δ (.lst Θ [.str x,.str y]),Δ (.lst Θ [.int a,.int b]),s9,Δ (.lst Θ TS)]=.ok (.rt (.tup [.str mn,.str w,.lst Θ TS])):=fun TS=>by unfold Vw;generalize ns.map D.int=NS,ms.map D.str=MS at *;simp![ei,lm,r9,hmn]
 simp only[rows,k_,I_,or_false]at w9;rcases w9 with h|h|h|h|h<;>obtain⟨q1,q2,q3,q4⟩:=key _ _ _ _ h<;>rw[q2]at H2<;>rw[q3]at H3<;>rw[q4]at H4<;>unfold Tv
 ·rw[MY]at q1;cases q1
 ·have ec:jE [D.str x,.str y] Φ (Δ (1+d))=(jE [x,y] Φ (Δ (1+d))).map .str:=mh D.str [x,y] Φ (Δ (1+d));have lc:(jE [x,y] Φ (Δ (1+d))).length<=100:=by
   have:(jE [x,y] Φ (Δ (1+d))).length<=[x,y].length:=by unfold jE;rw[aaz,aah];omega
   exact D_ this (show 2<=100 by decide)
  generalize jE [x,y] Φ (Δ (1+d))=zz at *;have lf:=Ev.yL zz;refine⟨⟨mn,w,zz.map Tn.s⟩,?_,⟨(by show(zz.map Tn.s).length<=100;rw[i_];exact lc),fun _ t ht=>(by obtain⟨z,_,rfl⟩:=List.mem_map.mp ht;exact⟨z,rfl⟩),fun h=>absurd (nl (b:=Ξ) q3 h) (by decide)⟩,rfl⟩;rw[Wn (H2 _) (τ':=[Δ (.lst Ξ (ns.map .int)),Δ (.int k),Δ (.lst Ξ (ms.map .str)),s3,s4,s5,Δ (.str w),Δ (.lst Θ [.str x,.str y]),Δ (.lst Θ [.int a,.int b]),s9,Δ (.lst Θ (zz.map .str))]) ?_,sk (H3 _),sk (H4 _),fin]
  ·show _=Except.ok (Fl.rt (D.tup [.str mn,.str w,.lst Θ ((zz.map Tn.s).map Tn.d)]));rw[<- E4 zz]
  clear H2 H3 H4 fin;unfold X9;generalize ns.map D.int=NS,ms.map D.str=MS,ts.map Tn.d=TS,zz.map D.str=ZS at *;simp![ei,r8,ec,lf]
 ·refine⟨⟨mn,w,[.i a]⟩,?_,⟨(by show 1<=100;omega),fun h=>(by rw[q2]at h;cases h),fun _=>⟨a,[],rfl⟩⟩,rfl⟩;have ec:jE [D.int a,.int b] Φ (Δ 1)=[.int a]:=rfl;have lf:iD [D.int a]=Θ:=rfl;rw[sk (H2 _),Wn (H3 _) (τ':=[Δ (.lst Ξ (ns.map .int)),Δ (.int k),Δ (.lst Ξ (ms.map .str)),s3,s4,s5,Δ (.str w),Δ (.lst Θ [.str x,.str y]),Δ (.lst Θ [.int a,.int b]),s9,Δ (.lst Θ [.int a])]) ?_,sk (H4 _),fin]
  ·rfl
  clear H2 H3 H4 fin;unfold Ya;generalize ns.map D.int=NS,ms.map D.str=MS,ts.map Tn.d=TS at *;simp![ec,lf]
 ·refine⟨⟨mn,w,[]⟩,?_,⟨(by show 0<=100;omega),fun h=>(by rw[q2]at h;cases h),fun h=>absurd (nl (b:=Ξ) q3 h) (by decide)⟩,rfl⟩;rw[sk (H2 _),sk (H3 _),Wn (H4 _) (τ':=[Δ (.lst Ξ (ns.map .int)),Δ (.int k),Δ (.lst Ξ (ms.map .str)),s3,s4,s5,Δ (.str w),Δ (.lst Θ [.str x,.str y]),Δ (.lst Θ [.int a,.int b]),s9,Δ (.lst Θ [])]) ?_,fin]
  ·rfl
  rfl
 ·refine⟨⟨mn,w,ts⟩,?_,⟨lt,fun h=>(by rw[q2]at h;cases h),fun h=>absurd (nl (b:=Ξ) q3 h) (by decide)⟩,rfl⟩;rw[sk (H2 _),sk (H3 _),sk (H4 _),fin];rfl
theorem BO (n:Nat)(ns:List Int){k:Int}(k0:0<=k)(k1:k<=1000){st:Str}(hs:st.length<=100):∃x y:Str,iP (jb (bK T (n+2)) (.nm 3) [] (.sl (.v 0) Φ (Δ (.bin .add (.c (.int 1)) (.call 39 [(.v 1),(.bin .add (.bin .add (.v 2) (.c (.int 2))) (.v 3)),(.c (.int 8))])))) [Δ (.str st),Δ (.lst Ξ (ns.map .int)),Δ (.int k),Φ]) (jq 0 2)=.ok [.str x,.str y]/\y.length<=100:=by
 have ei:=Ev.jh ns;have one:∀j:Int,0<=j->j < 2->∃x:Str,jb (bK T (n+2)) (.nm 3) [] (.sl (.v 0) Φ (Δ (.bin .add (.c (.int 1)) (.call 39 [(.v 1),(.bin .add (.bin .add (.v 2) (.c (.int 2))) (.v 3)),(.c (.int 8))])))) [Δ (.str st),Δ (.lst Ξ (ns.map .int)),Δ (.int k),Φ] (.int j)=.ok (Δ (.str x))/\x.length<=100:=fun j j0 j1=>by have d:=jx (n+1) ns (k+2+j) 8 (by omega) (by omega) (by decide);generalize dr ns (k+2+j) 8=r at *;refine⟨Txt.slice st Φ (Δ (1+r)),?_,D_ (mQ _ _ _) hs⟩;generalize ns.map D.int=NS at *;simp![Ev.iE,ei,d]
 obtain⟨x,ex,_⟩:=one 0 (by decide) (by decide);obtain⟨y,ey,hy⟩:=one 1 (by decide) (by decide);exact⟨x,y,kr ex (kr ey rfl),hy⟩
theorem BQ (n:Nat)(ns:List Int){k:Int}(k0:0<=k)(k1:k<=1000){ms:List Str}(hm:0 < ms.length)(L6:ms.length<=20){st:Str}(hs:st.length<=100)(c:Int)(w:Str)(w9:Qz w∈rows)(MY:LQ w=Ξ)(s3:Option D) :
  ∃cn:Cn,jf (bK T (n+2)) RQ [Δ (.lst Ξ (ns.map .int)),Δ (.int k),Δ (.lst Ξ (ms.map .str)),s3,Δ (.str st),Δ (.int c),Δ (.str w),Φ,Φ,Φ,Φ]=.ok (.rt cn.t)/\Wf cn/\cn.w=w:=by
 have ei:=Ev.jh ns;obtain⟨x,y,ef,hy⟩:=BO n ns k0 k1 hs;have r4:=jx (n+1) ns (k+4) 36 (by omega) (by omega) (by decide);obtain⟨ch,Ma,lch⟩:=EO (z:=sg) (oI ns (k+4) (m:=36) (by decide)) (by rw[me];exact oJ ns (k+4) (m:=36) (by decide)) (by rw[me];decide);generalize dr ns (k+4) 36=i4 at *;have r5:=jx (n+1) ns (k+5) 3 (by omega) (by omega) (by decide);generalize dr ns (k+5) 3=i5 at *;have r6:=jx (n+1) ns (k+6) 3 (by omega) (by omega) (by decide);have h6:=Ev.Tt (o:=Θ) (xs:=[c,999999999,0]) (i:=dr ns (k+6) 3) (oI ns (k+6) (m:=3) (by decide)) (by have:=oJ ns (k+6) (m:=3) (by decide);exact this);have h6:iQ (.lst Θ [.int c,.int 999999999,.int 0]) (.int (dr ns (k+6) 3))=.ok (.int (([c,999999999,0]:List Int).getD (dr ns (k+6) 3).toNat 0)):=h6;generalize dr ns (k+6) 3=i6 at *;generalize([c,999999999,0]:List Int).getD i6.toNat 0=z at *;have r7:=jx (n+1) ns (k+7) 4 (by omega) (by omega) (by decide);generalize dr ns (k+7) 4=i7 at *;have r8:=jx (n+1) ns (k+8) 2 (by omega) (by omega) (by decide);generalize dr ns (k+8) 2=i8 at *;have ly:=mQ y Φ (Δ (-1));have Yn:=me;have ec:jE [D.str x,.str (Txt.slice y Φ (Δ (-1))++ch),.int (c+i5),.int z] (Δ i7) (Δ (i7+1+i8))=(jE [Tn.s x,.s (Txt.slice y Φ (Δ (-1))++ch),.i (c+i5),.i z] (Δ i7) (Δ (i7+1+i8))).map Tn.d:=mh Tn.d [Tn.s x,.s (Txt.slice y Φ (Δ (-1))++ch),.i (c+i5),.i z] (Δ i7) (Δ (i7+1+i8));have lc:(jE [Tn.s x,.s (Txt.slice y Φ (Δ (-1))++ch),.i (c+i5),.i z] (Δ i7) (Δ (i7+1+i8))).length<=100:=by
  have:(jE [Tn.s x,.s (Txt.slice y Φ (Δ (-1))++ch),.i (c+i5),.i z] (Δ i7) (Δ (i7+1+i8))).length<=4:=by unfold jE;rw[aaz,aah];show min _ (4 - _)<=4;omega
  omega
 generalize jE [Tn.s x,.s (Txt.slice y Φ (Δ (-1))++ch),.i (c+i5),.i z] (Δ i7) (Δ (i7+1+i8))=ts at *;obtain⟨cn,e,wf,ew⟩:=BN n ns k0 k1 hm L6 w w9 MY x (Txt.slice y Φ (Δ (-1))++ch) (c+i5) z ts lc s3 (Δ (.str st)) (Δ (.int c)) (Δ (.int i7));refine⟨cn,?_,wf,ew⟩;have lft:=y7 ts;have lr:(jq 0 2).length=2:=rfl;have ix:KU 2 1=Δ 1:=rfl;unfold RQ X8;unfold sg at Ma Yn;generalize cn.t=CT,ts.map Tn.d=TS,ns.map D.int=NS,ms.map D.str=MS,Tv=tco at *;generalize sy:Txt.slice y Φ (Δ (-1))=y' at *;have x1:∀P Q:D,iQ (.lst Θ [P,Q]) (.int 1)=.ok Q:=fun _ _=>rfl;have sx:∀(p:D×Ev) (P Q:D),Ev.yz 7 p [P,Q] (.int 1)=.ok (.nx (p.2.set 7 (Δ (.lst Θ [P,p.1])))):=fun _ _ _=>rfl;have lf2:iD [D.str x,.str y]=Θ:=rfl;simp![ei,ef,lr,lf2,x1,sy,r4,Ma,r5,r6,h6,r7,r8,sx,ec,lft,Yn,e]
theorem Hg {m w:Str}(w9:Qz w∈rows)(h:LQ w=Θ):Wf ⟨m,w,[]⟩:=by
 have key:∀(b1 b2 b3 b4:Bool),Qz w=[b1,b2,b3,b4]->LQ w=b1/\(w == Ρ "begins")=b2/\((w == Ρ "least")||(w == Ρ "most"))=b3:=fun b1 b2 b3 b4 h=>by injection h with h1 h;injection h with h2 h;injection h with h3 h;exact⟨h1,h2,h3⟩
 simp only[rows,k_,I_,or_false]at w9;rcases w9 with g|g|g|g|g<;>obtain⟨q1,q2,q3⟩:=key _ _ _ _ g
 ·refine⟨Y_ _,fun z=>?_,fun z=>?_⟩
  ·rw[q2]at z;cases z
  ·rcases z with z|z<;>rw[z]at q3<;>simp at q3
 all_goals (rw[h]at q1;cases q1)
theorem Ig {i:Nat}{w:Str}(h:W9[i]? = Δ w)(hi:i < 7):w∈W7:=by
 have:W7[i]? = Δ w:=by rw[<- h];exact(aau hi).symm
 exact aak this
theorem uV (n:Nat)(ns:List Int){k:Int}(k0:0<=k)(k1:k<=1000){ms:List Str}(hm:0 < ms.length)(L6:ms.length<=20){st:Str}(hs:st.length<=100)(c:Int){inn:Int}(hi:inn=0∨inn=1) :
  ∃cn:Cn,bK T (n+4) 45 [.lst Ξ (ns.map .int),.int k,.lst Ξ (ms.map .str),.int inn,.str st,.int c]=.ok cn.t/\Wf cn/\(inn=1->LQ cn.w=Ξ):=by
 have ei:=Ev.jh ns;have em:=Ev.jX ms;obtain⟨gn,eg,lg,_⟩:=pQ n ns;have r1:=jx (n+2) ns (k+1) 2 (by omega) (by omega) (by decide);obtain⟨g,hg,_⟩:=ml (fs:=gn) (oI ns (k+1) (m:=2) (by decide)) (by rw[lg];exact oJ ns (k+1) (m:=2) (by decide));generalize dr ns (k+1) 2=i1 at *;have r0:=jx (n+2) ns k (9 - 2*inn) k0 (by omega) (by omega);have b1:=oJ ns k (m:=9 - 2*inn) (by omega);have b0:=oI ns k (m:=9 - 2*inn) (by omega);obtain⟨w,hw,gw⟩:=ml (fs:=W9) b0 (by show _ < (9:Int);omega);have Q7:inn=1->LQ w=Ξ:=fun h=>t7 w (Ig gw (by omega));generalize dr ns k (9 - 2*inn)=i0 at *;have wm:=t9 w (aak gw);have w9e:W9.map D.str=[D.str "is",.str "not",.str "begins",.str "least",.str "most",.str "has",.str "lacks",.str "in",.str "out"]:=rfl;rw[w9e]at hw;have go:bK T (n+4) 45 [.lst Ξ (ns.map .int),.int k,.lst Ξ (ms.map .str),.int inn,.str st,.int c]=_:=gx 45 VT 6 11 TM rfl rfl rfl rfl rfl rfl;have Yo:KN .mul (.int 2) (.int inn)=.ok (.int (2*inn)):=Ev.qj (by omega) (by omega);have iu:((w == Ρ "in")||(w == Ρ "out"))=LQ w:=rfl;have hw:=hw Θ;cases q:LQ w with
 |true=>refine⟨⟨g,w,[]⟩,?_,Hg wm q,fun h=>(by show LQ w=Ξ;exact Q7 h)⟩;rw[go];unfold TM;rw[q]at iu;show _=Except.ok (D.tup [.str g,.str w,.lst Θ []]);have hg:=hg Ξ;have Wx:IC (bK T (n+3)) (.Lf (.cmp .eq (.v 6) (.c (.str "in"))) (.cmp .eq (.v 6) (.c (.str "out")))) [Δ (.lst Ξ (ns.map .int)),Δ (.int k),Δ (.lst Ξ (ms.map .str)),Δ (.int inn),Δ (.str st),Δ (.int c),Δ (.str w),Φ,Φ,Φ,Φ]=.ok (.bl Θ):=(BM _ "in" "out" w _ _ _ _ _ _ _ _ _ _).trans (by rw[iu]);unfold Vv;generalize ns.map D.int=NS,ms.map D.str=MS,gn.map D.str=GN,RQ=th,IR.Lf (.cmp .eq (.v 6) (.c (.str "in"))) (.cmp .eq (.v 6) (.c (.str "out")))=io at *;simp![ei,em,Yo,r0,hw,Wx,eg,r1,hg]
 |false=>obtain⟨cn,e,wf,ew⟩:=BQ (n+1) ns k0 k1 hm L6 hs c w wm q (Δ (.int inn));refine⟨cn,?_,wf,fun h=>(by rw[ew];exact q)⟩;rw[go];unfold TM;rw[q]at iu;have Wx:IC (bK T (n+3)) (.Lf (.cmp .eq (.v 6) (.c (.str "in"))) (.cmp .eq (.v 6) (.c (.str "out")))) [Δ (.lst Ξ (ns.map .int)),Δ (.int k),Δ (.lst Ξ (ms.map .str)),Δ (.int inn),Δ (.str st),Δ (.int c),Δ (.str w),Φ,Φ,Φ,Φ]=.ok (.bl Ξ):=(BM _ "in" "out" w _ _ _ _ _ _ _ _ _ _).trans (by rw[iu]);unfold Vv;generalize cn.t=CT,ns.map D.int=NS,ms.map D.str=MS,RQ=th,IR.Lf (.cmp .eq (.v 6) (.c (.str "in"))) (.cmp .eq (.v 6) (.c (.str "out")))=io at *;simp![ei,em,Yo,r0,hw,Wx,e]
theorem CM (cs:List Cn):Jv (cs.map Cn.t)=cs.map Cn.d:=by rw[ji,K_];exact aat fun c _=>Hf c
noncomputable def Yp:Gm:={N:=["_law_script","_law_k","_law_names_here","_law_stem_here","_law_center_here","_law_j"],kd:=[.cell,.cell,.cell,.cell,.cell,.local],gl:=[45],df:=Ξ}
theorem BR (n:Nat)(ns:List Int){k:Int}(k0:0<=k)(k1:k<=900){ms:List Str}(hm:0 < ms.length)(L6:ms.length<=20){st:Str}(hs:st.length<=100)(c:Int) :
  ∃x y z:Cn,iP (jb (bK T (n+4)) (.nm 5) [] (.call 45 [(.v 0),(.bin .add (.v 1) (.bin .mul (.c (.int 10)) (.v 5))),(.v 2),(.c (.int 1)),(.v 3),(.v 4)]) [Δ (.lst Ξ (ns.map .int)),Δ (.int k),Δ (.lst Ξ (ms.map .str)),Δ (.str st),Δ (.int c),Φ]) (jq 0 3)=.ok [x.t,y.t,z.t]/\∀c∈[x,y,z],Wf c/\LQ c.w=Ξ:=by
 have ei:=Ev.jh ns;have em:=Ev.jX ms;have one:∀j:Int,0<=j->j < 3->∃x:Cn,jb (bK T (n+4)) (.nm 5) [] (.call 45 [(.v 0),(.bin .add (.v 1) (.bin .mul (.c (.int 10)) (.v 5))),(.v 2),(.c (.int 1)),(.v 3),(.v 4)]) [Δ (.lst Ξ (ns.map .int)),Δ (.int k),Δ (.lst Ξ (ms.map .str)),Δ (.str st),Δ (.int c),Φ] (.int j)=.ok (Δ x.t)/\Wf x/\LQ x.w=Ξ:=fun j j0 j1=>by obtain⟨x,e,wf,hi⟩:=uV n ns (k:=k+10*j) (by omega) (by omega) hm L6 hs c (inn:=1) (.inr rfl);refine⟨x,?_,wf,hi rfl⟩;generalize x.t=XT,ns.map D.int=NS,ms.map D.str=MS at *;simp![Ev.iE,ei,em,e]
 obtain⟨x,ex,hx⟩:=one 0 (by decide) (by decide);obtain⟨y,ey,hy⟩:=one 1 (by decide) (by decide);obtain⟨z,ez,hz⟩:=one 2 (by decide) (by decide);refine⟨x,y,z,kr ex (kr ey (kr ez rfl)),fun c hc=>?_⟩;simp only[k_,I_,or_false]at hc;rcases hc with rfl|rfl|rfl
 ·exact hx
 ·exact hy
 ·exact hz
theorem Hh (c0 c1:Cn){r:Int}(h0:0<=r)(h1:r < 5):∃(R:D) (rs:List (List Cn)),iQ (.lst Θ [.lst Θ [],.lst Θ [.lst Θ []],.lst Θ [.lst Θ [c0.d]],.lst Θ [.lst Θ [c0.d,c1.d]],.lst Θ [.lst Θ [c0.d],.lst Θ [c1.d]]]) (.int r)=.ok R/\er R=.lst Ξ (rs.map J4)/\iH R=Ξ/\rs.length<=2/\∀row∈rs,row.length<=2/\∀c∈row,c=c0∨c=c1:=by
 have e0:=kW c0;have e1:=kW c1;rcases(show r=0∨r=1∨r=2∨r=3∨r=4 by omega) with rfl|rfl|rfl|rfl|rfl
 ·exact⟨_,[],rfl,rfl,rfl,by simp,fun row h=>by simp at h⟩
 ·exact⟨_,[[]],rfl,rfl,rfl,by simp,fun row h=>by rw[w_.mp h];simp⟩
 ·exact⟨_,[[c0]],rfl,(by show D.lst Ξ [.lst Ξ [er c0.d]]=_;rw[e0];rfl),rfl,by simp,fun row h=>by rw[w_.mp h];simp⟩
 ·exact⟨_,[[c0,c1]],rfl,(by show D.lst Ξ [.lst Ξ [er c0.d,er c1.d]]=_;rw[e0,e1];rfl),rfl,by simp,fun row h=>by rw[w_.mp h];simp⟩
 ·exact⟨_,[[c0],[c1]],rfl,(by show D.lst Ξ [.lst Ξ [er c0.d],.lst Ξ [er c1.d]]=_;rw[e0,e1];rfl),rfl,by simp,fun row h=>by
   simp only[k_,I_,or_false]at h
   rcases h with rfl|rfl<;>simp⟩
theorem v3 (n:Nat)(ns:List Int){k:Int}(k0:0<=k)(k1:k<=900){ms:List Str}(hm:0 < ms.length)(L6:ms.length<=20){st:Str}(hs:st.length<=100)(c:Int) :
  ∃(gs:List Gp) (R:D),bK T (n+5) 46 [.lst Ξ (ns.map .int),.int k,.lst Ξ (ms.map .str),.str st,.int c]=.ok R/\er R=JI gs/\iH R=Ξ/\Lq gs/\gs.length=2:=by
 have ei:=Ev.jh ns;have em:=Ev.jX ms;obtain⟨x,y,z,ef,wf⟩:=BR n ns k0 k1 hm L6 hs c;obtain⟨gn,eg,lg,nd⟩:=pQ (n+1) ns;obtain⟨g1,g2,rfl⟩:∃g1 g2,gn=[g1,g2]:=by rcases gn with _|⟨g1,_|⟨g2,_|⟨g3,gn⟩⟩⟩<;>simp at lg;exact⟨g1,g2,rfl⟩
 have eg:bK T (n+4) 44 [.lst Ξ (ns.map .int)]=.ok (.lst Ξ [.str g1,.str g2]):=eg;have r5:=jx (n+3) ns (k+30) 5 (by omega) (by omega) (by decide);obtain⟨R,rs,hR,eR,lR,Sw,TY⟩:=Hh x y (oI ns (k+30) (m:=5) (by decide)) (oJ ns (k+30) (m:=5) (by decide));generalize dr ns (k+30) 5=i5 at *;have et:Jv [x.t,y.t,z.t]=[x.d,y.d,z.d]:=CM [x,y,z];have ez:=kW z;have ex:=kW x;have ey:=kW y;refine⟨[⟨g1,rs⟩,⟨g2,[[z]]⟩],.lst Θ [.tup [.str g1,.lst Ξ (rs.map J4)],.tup [.str g2,.lst Θ [.lst Θ [z.d]]]],?_,?_,rfl,⟨?_,?_,?_⟩,rfl⟩
 ·have lt:iD [x.t,y.t,z.t]=Ξ:=rfl;have lz:iH z.d=Ξ:=rfl;have lx:iH x.d=Ξ:=rfl;have ly:iH y.d=Ξ:=rfl;have c1:jE [x.d,y.d,z.d] Φ (Δ 1)=[x.d]:=rfl;have c2:jE [x.d,y.d,z.d] Φ (Δ 2)=[x.d,y.d]:=rfl;have OP:jE [x.d,y.d,z.d] (Δ 1) (Δ 2)=[y.d]:=rfl;have c3:jE [x.d,y.d,z.d] (Δ 2) Φ=[z.d]:=rfl;have lr:(jq 0 3).length=3:=rfl;have err:=mR rs;have vc:vars (.comp Yp [0,1,2,3,4] (.nm 5) (.JP (.c (.int 3))) [] (.call 45 [(.v 0),(.bin .add (.v 1) (.bin .mul (.c (.int 10)) (.v 5))),(.v 2),(.c (.int 1)),(.v 3),(.v 4)]))=[0,1,2,3,4]:=rfl;have vs5:vars (.sl (.v 5) (Δ (.c (.int 2))) Φ)=[5]:=rfl;unfold Yp at vc;have ni:iS (.idx (.lst [(.lst []),(.lst [(.lst [])]),(.lst [(.sl (.v 5) Φ (Δ (.c (.int 1))))]),(.lst [(.sl (.v 5) Φ (Δ (.c (.int 2))))]),(.lst [(.sl (.v 5) Φ (Δ (.c (.int 1)))),(.sl (.v 5) (Δ (.c (.int 1))) (Δ (.c (.int 2))))])]) (.call 39 [(.v 0),(.bin .add (.v 1) (.c (.int 30))),(.c (.int 5))]))=Ξ:=rfl;have vi:vars (.idx (.lst [(.lst []),(.lst [(.lst [])]),(.lst [(.sl (.v 5) Φ (Δ (.c (.int 1))))]),(.lst [(.sl (.v 5) Φ (Δ (.c (.int 2))))]),(.lst [(.sl (.v 5) Φ (Δ (.c (.int 1)))),(.sl (.v 5) (Δ (.c (.int 1))) (Δ (.c (.int 2))))])]) (.call 39 [(.v 0),(.bin .add (.v 1) (.c (.int 30))),(.c (.int 5))]))=[5,5,5,5,0,1]:=rfl;have kp:∀τ:Ev,iW (.idx (.lst [(.lst []),(.lst [(.lst [])]),(.lst [(.sl (.v 5) Φ (Δ (.c (.int 1))))]),(.lst [(.sl (.v 5) Φ (Δ (.c (.int 2))))]),(.lst [(.sl (.v 5) Φ (Δ (.c (.int 1)))),(.sl (.v 5) (Δ (.c (.int 1))) (Δ (.c (.int 2))))])]) (.call 39 [(.v 0),(.bin .add (.v 1) (.c (.int 30))),(.c (.int 5))])) R τ=(er R,JM [5,5,5,5,0,1] τ):=fun τ=>by unfold iW;rw[d_ (by rw[lR];exact n_),ni,vi]
  have kpk:∀τ:Ev,Ev.jw (.idx (.lst [(.lst []),(.lst [(.lst [])]),(.lst [(.sl (.v 5) Φ (Δ (.c (.int 1))))]),(.lst [(.sl (.v 5) Φ (Δ (.c (.int 2))))]),(.lst [(.sl (.v 5) Φ (Δ (.c (.int 1)))),(.sl (.v 5) (Δ (.c (.int 1))) (Δ (.c (.int 2))))])]) (.call 39 [(.v 0),(.bin .add (.v 1) (.c (.int 30))),(.c (.int 5))])) τ R=.ok (.lst Ξ (rs.map J4),JM [5,5,5,5,0,1] τ):=fun τ=>by rw[Ev.aX,kp,eR]
  rw[gx 46 VV 5 9 VU rfl rfl rfl rfl rfl rfl];unfold VU;generalize rs.map J4=RW,x.t=XT,y.t=YT,z.t=ZT,x.d=X,y.d=Y,z.d=Z,ns.map D.int=NS,ms.map D.str=MS at *;simp![ei,em,ef,lt,lr,et,c1,c2,OP,c3,r5,hR,↓kpk,err,eg,lx,ly,lz,ex,ey,ez,vc,vs5]
 ·show D.lst Ξ [.tup [.str g1,.lst Ξ (Jv (rs.map J4))],.tup [.str g2,.lst Ξ [.lst Ξ [er z.d]]]]=_;rw[mR,ez];rfl
 ·intro g hg r hr c hc;simp only[k_,I_,or_false]at hg;rcases hg with rfl|rfl
  ·rcases(TY r hr).2 c hc with rfl|rfl
   ·exact wf _ (by simp)
   ·exact wf _ (by simp)
  ·rw[w_.mp hr]at hc;rw[w_.mp hc];exact wf z (by simp)
 ·exact nd
 ·intro g hg;simp only[k_,I_,or_false]at hg;rcases hg with rfl|rfl
  ·exact⟨D_ Sw (by decide),fun r hr=>D_ (TY r hr).1 (by decide)⟩
  ·exact⟨by show 1<=100;decide,fun r hr=>by rw[w_.mp hr];show 1<=100;decide⟩
theorem tm (n:Nat)(ns:List Int){k:Int}(k0:0<=k)(k1:k<=900){fs:List Str}(hf:0 < fs.length)(Yq:fs.length<=20)(pl:Int):∃o:Oc,bK T (n+2) 47 [.lst Ξ (ns.map .int),.int k,.lst Ξ (fs.map .str),.int pl]=.ok o.d/\∀f sg,o=.share f sg->sg.length<=3:=by
 have ei:=Ev.jh ns;have lf:(fs.map D.str).length=fs.length:=i_ _;have r0:=jx n ns k (fs.length:Int) k0 (by omega) (by omega);obtain⟨f,M6,_⟩:=ml (fs:=fs) (oI ns k (m:=(fs.length:Int)) (by omega)) (oJ ns k (by omega));generalize dr ns k (fs.length:Int)=i0 at *;have r1:=jx n ns (k+1) 10008 (by omega) (by omega) (by decide);generalize dr ns (k+1) 10008=u at *;have r2:=jx n ns (k+2) 5 (by omega) (by omega) (by decide);have h2:=Ev.Tt (o:=Θ) (xs:=[0,10007,pl,pl+1,u]) (i:=dr ns (k+2) 5) (oI ns (k+2) (m:=5) (by decide)) (by have:=oJ ns (k+2) (m:=5) (by decide);exact this);have h2:iQ (.lst Θ [.int 0,.int 10007,.int pl,.int (pl+1),.int u]) (.int (dr ns (k+2) 5))=.ok (.int (([0,10007,pl,pl+1,u]:List Int).getD (dr ns (k+2) 5).toNat 0)):=h2;generalize dr ns (k+2) 5=i2 at *;generalize([0,10007,pl,pl+1,u]:List Int).getD i2.toNat 0=s at *;obtain⟨i3,r3,a0,a1⟩:=LP n ns (k+3) 3 (by omega) (by omega) (by decide);have M6:=M6 Ξ;have three:∀(o:Oc) (R:D),iQ (.lst Θ [.tup [.str "face",.str f],.tup [.str "lot"],.tup [.str "share",.str f,.lst Θ [.tup [.int 3,.int s],.tup [.int 9,.int (10007 - s)]]]]) (.int i3)=.ok R->Ev.jw (.idx (.lst [(.tup [(.c (.str "face")),(.v 4)]),(.tup [(.c (.str "lot"))]),(.tup [(.c (.str "share")),(.v 4),(.lst [(.tup [(.c (.int 3)),(.v 5)]),(.tup [(.c (.int 9)),(.bin .sub (.c (.int 10007)) (.v 5))])])])]) (.call 39 [(.v 0),(.bin .add (.v 1) (.c (.int 3))),(.c (.int 3))])) [Δ (.lst Ξ (ns.map .int)),Δ (.int k),Δ (.lst Ξ (fs.map .str)),Δ (.int pl),Δ (.str f),Δ (.int s)] R=.ok (o.d,[Δ (.lst Ξ (ns.map .int)),Δ (.int k),Δ (.lst Ξ (fs.map .str)),Δ (.int pl),Δ (.str f),Δ (.int s)])->bK T (n+2) 47 [.lst Ξ (ns.map .int),.int k,.lst Ξ (fs.map .str),.int pl]=.ok o.d:=fun o R hR hk=>by rw[gx 47 VX 4 6 VW rfl rfl rfl rfl rfl rfl];unfold VW;generalize o.d=OD,ns.map D.int=NS,fs.map D.str=FS at *;simp![ei,lf,r0,M6,r1,r2,h2,r3,hR,↓hk]
 rcases(show i3=0∨i3=1∨i3=2 by omega) with rfl|rfl|rfl
 ·exact⟨.face f,three _ _ rfl rfl,fun _ _ h=>by cases h⟩
 ·exact⟨.NN,three _ _ rfl rfl,fun _ _ h=>by cases h⟩
 ·refine⟨.share f [(3,s),(9,10007 - s)],three _ _ rfl ?_,fun _ _ h=>by cases h;show 2<=3;decide⟩;have en:Jv (ns.map D.int)=ns.map D.int:=ei;have ef:=Ev.jX fs;rw[Ev.aX];show Except.ok ((_,[Δ (D.lst Ξ (Jv (ns.map D.int))),Δ (D.int k),Δ (D.lst Ξ (fs.map .str)),Δ (D.int pl),Δ (D.str f),Δ (D.int s)]):D×Ev)=_;rw[en];rfl
theorem BU (o:Bool)(r:List D)(p:D):iQ (.lst o (r++[p])) (.int (-1))=.ok p:=by
 have e:KG (r++[p]) (-1)=Δ p:=by unfold KG KU;rw[d_ (by decide),o_,X_,e_ (by omega)];show(r++[p])[((-1:Int)+((r.length+1:Nat):Int)).toNat]? = _;rw[show((-1:Int)+((r.length+1:Nat):Int)).toNat=r.length by omega];simp
 show(match KG (r++[p]) (-1) with|some d=>.ok d|none=>Jw:Res D)=_;rw[e]
def Rn (b:Nat)(r:List (Int×Int)):Prop:=r.length<=b/\∀p∈r,p.1<=p.2
theorem Rn.le {b c:Nat}{r:List (Int×Int)}(h:Rn b r)(l:b<=c):Rn c r:=⟨D_ h.1 l,h.2⟩
theorem Rn.add {b:Nat}{q:List (Int×Int)}{p:Int×Int}(h:Rn b q)(hp:p.1<=p.2):Rn (b+1) (q++[p]):=⟨by rw[o_];exact Nat.succ_le_succ h.1,fun x hx=>by
 rcases C_.mp hx with hx|hx
 ·exact h.2 x hx
 ·rw[w_.mp hx];exact hp⟩
noncomputable def La (r:List (Int×Int)):D:=.lst Θ (r.map Jx)
theorem E5 (r:List (Int×Int)):iD (r.map Jx)=Θ:=by rw[iU,List.all_map];exact R_.mpr fun _ _=>rfl
theorem E6 {cl:Nat->List D->Res D}{i j k:Nat}{c x v w:IR}{ds es:List D}{τ:Ev}(h:ds[k]? = Δ (.lst Θ es))(hf:iD es=Θ)(hj:sH τ j=Θ) :
  sI cl i j c x v w ds τ (Δ k)=Iq (Iq (IC cl c (τ.set j (Δ (.lst Θ es)))) iX) (vP cl i j k x v w ds es τ):=by
 show(match ds[k]? with|some (.lst Θ es)=>IE (iD es&&sH τ j) (Iq (Iq (IC cl c (τ.set j (Δ (.lst Θ es)))) iX) (vP cl i j k x v w ds es τ))|_=>Jw)=_;rw[h];show IE (iD es&&sH τ j) _=_;rw[hf,hj];rfl
theorem uW {g:D->Res (Option D)}{P:Int->Prop}:∀(xs:List Int),(∀x∈xs,g (.int x)=.ok (Δ (.int x))/\P x∨g (.int x)=.ok Φ)->∃ys:List Int,iP g (xs.map .int)=.ok (ys.map .int)/\ys.length<=xs.length/\∀y∈ys,P y
 |[],_=>⟨[],rfl,m_ _,fun y hy=>by cases hy⟩
 |x::xs,h=>by
  obtain⟨ys,e,hl,hp⟩:=uW (P:=P) xs fun z hz=>h z (H_ _ hz);rcases h x (.head _) with⟨hx,px⟩|hx
  ·refine⟨x::ys,by rw[b_];unfold iP;rw[hx];show Iq (iP g (xs.map .int)) _=_;rw[e];rfl,Nat.succ_le_succ hl,fun y hy=>?_⟩;rcases k_.mp hy with rfl|hy
   ·exact px
   ·exact hp y hy
  ·exact⟨ys,by rw[b_];unfold iP;rw[hx];exact e,Nat.le_succ_of_le hl,hp⟩
theorem zP (c:Int):∀xs:List Int,xs.Pairwise (·<=·)->(∀x∈xs,x < c)->∀p∈xs.zip (xs.drop 1++[c]),p.1<=p.2
 |[],_,_,p,hp=>by cases hp
 |[x],_,h,p,hp=>by have:p=(x,c):=w_.mp hp;rw[this];exact Int.le_of_lt (h x (.head _))
 |x::y::r,hs,h,p,hp=>by
  rcases k_.mp (show p∈(x,y)::(y::r).zip ((y::r).drop 1++[c]) from hp) with rfl|hp
  ·exact(List.pairwise_cons.mp hs).1 y (.head _)
  ·exact zP c (y::r) (List.pairwise_cons.mp hs).2 (fun z hz=>h z (.tail _ hz)) p hp
theorem BV (cl:Nat->List D->Res D)(s0 s1 s2 s3 s4 s8:Option D)(low high:Int){rs:List (List (Int×Int))}{k b:Nat}(hk:k < rs.length)(hb:b<=100)(lh:low<=high)(hr:∀r∈rs,Rn b r) :
  ∃MG:List (List (Int×Int)),sI cl 5 8 Qv RU RV Tw (rs.map La) [s0,s1,s2,s3,s4,Δ (.lst Θ (rs.map La)),Δ (.int low),Δ (.int high),s8] (Δ k)=.ok (.nx [s0,s1,s2,s3,s4,Δ (.lst Θ (MG.map La)),Δ (.int low),Δ (.int high),Φ])/\MG.length=rs.length/\∀r∈MG,Rn (b+1) r:=by
 have hg:(rs.map La)[k]? = Δ (.lst Θ (rs[k].map Jx)):=by rw[y_,v_ hk];rfl
 have hm:=hr _ (aax hk);generalize rs[k]=r at *;have key:∀r':List (Int×Int),Rn (b+1) r'->∀x∈rs.set k r',Rn (b+1) x:=fun r' h x hx=>by
  rcases List.mem_or_eq_of_mem_set hx with hx|rfl
  ·exact(hr x hx).le (Nat.le_succ b)
  ·exact h
 have out:∀r':List (Int×Int),(rs.set k r').map La=(rs.map La).set k (.lst Θ (r'.map Jx)):=fun r'=>by rw[List.map_set];rfl
 have add:DM 5 8 k (rs.map La) (r.map Jx) [s0,s1,s2,s3,s4,Δ (.lst Θ (rs.map La)),Δ (.int low),Δ (.int high),s8] (.tup [.int low,.int high])=.ok (.nx [s0,s1,s2,s3,s4,Δ (.lst Θ ((rs.set k (r++[(low,high)])).map La)),Δ (.int low),Δ (.int high),Φ]):=by have h2:kx (r.map Jx).length=Θ:=Ev.oF (by rw[i_];have:=hm.1;omega);show IE (Θ&&kx (r.map Jx).length) _=_;rw[h2,out,N_];rfl
 rw[E6 hg (E5 r) rfl];rcases List.eq_nil_or_concat r with rfl|⟨q,⟨p1,p2⟩,rfl⟩
 ·refine⟨rs.set k ([]++[(low,high)]),?_,List.length_set,key _ (hm.add lh)⟩;rw[<- add];generalize rs.map La=RS at *;have hc:IC cl Qv ([s0,s1,s2,s3,s4,Δ (.lst Θ RS),Δ (.int low),Δ (.int high),s8].set 8 (Δ (.lst Θ (([]:List (Int×Int)).map Jx))))=.ok (.bl Ξ):=rfl;rw[hc];rfl
 ·rw[List.concat_eq_append]at *;have Yr:iQ (.lst Θ ((q++[(p1,p2)]).map Jx)) (.int (-1))=.ok (.tup [.int p1,.int p2]):=by rw[N_];exact BU Θ _ _
  have Ly:∀f:D->D->Res Bool,kN f ((q++[(p1,p2)]).map Jx) []=.ok Ξ:=fun f=>by
   rw[N_];cases q with
   |nil=>rfl
   |cons a q=>rfl
  have lq:((q++[(p1,p2)]).map Jx).length=q.length+1:=by rw[i_,o_];rfl
  cases hc:(p2 == low) with
  |true=>
   have h2:p1<=p2:=hm.2 (p1,p2) (t_ _ (w_.mpr rfl));have h3:p2=low:=by simpa using hc
   have h4:Rn b q:=⟨D_ (by rw[o_];exact aar _ _) hm.1,fun x hx=>hm.2 x (s_ _ hx)⟩
   refine⟨rs.set k (q++[(p1,high)]),?_,List.length_set,key _ (h4.add (by show p1<=high;omega))⟩;have hs:AS 5 8 k (rs.map La) ((q++[(p1,p2)]).map Jx) [s0,s1,s2,s3,s4,Δ (.lst Θ (rs.map La)),Δ (.int low),Δ (.int high),s8] (.tup [.int p1,.int high]) (.int (-1))=.ok (.nx [s0,s1,s2,s3,s4,Δ (.lst Θ ((rs.set k (q++[(p1,high)])).map La)),Δ (.int low),Δ (.int high),Φ]):=by
    have hi:KU ((q++[(p1,p2)]).map Jx).length (-1)=Δ q.length:=by rw[lq];unfold KU;rw[d_ (by decide),e_ (by omega)];congr 1;omega
    show(match KU ((q++[(p1,p2)]).map Jx).length (-1) with
     |some t=>IE Θ (.ok (.nx [s0,s1,s2,s3,s4,Δ (.lst Θ ((rs.map La).set k (.lst Θ (((q++[(p1,p2)]).map Jx).set t (.tup [.int p1,.int high]))))),Δ (.int low),Δ (.int high),Φ]))
     |none=>Jw:Res Fl)=_
    rw[hi];show Except.ok (Fl.nx [s0,s1,s2,s3,s4,Δ (.lst Θ ((rs.map La).set k (.lst Θ (((q++[(p1,p2)]).map Jx).set q.length (.tup [.int p1,.int high]))))),Δ (.int low),Δ (.int high),Φ])=_;rw[out,N_,N_];have:(q.map Jx++[(p1,p2)].map Jx).set q.length (.tup [.int p1,.int high])=q.map Jx++[(p1,high)].map Jx:=by rw[List.set_append_right _ _ (by rw[i_];exact m_ _),i_,Nat.sub_self];rfl
    rw[this]
   rw[<- hs];generalize rs.map La=RS,(q++[(p1,p2)]).map Jx=Q at *;unfold Qv RU RV vP;simp![Yr,Ly,hc]
  |false=>refine⟨rs.set k ((q++[(p1,p2)])++[(low,high)]),?_,List.length_set,key _ (hm.add lh)⟩;rw[<- add];generalize rs.map La=RS,(q++[(p1,p2)]).map Jx=Q at *;unfold Qv RU RV Tw vP;simp![Yr,Ly,hc]
theorem BW (n:Nat)(ns:List Int){k:Int}(k0:0<=k)(k1:k<=1000)(s2 s3 s4:Option D)(low high:Int)(lh:low<=high){rs:List (List (Int×Int))}(hl:rs.length=3){b:Nat}(hb:b<=100)(hr:∀r∈rs,Rn b r)(s6 s7 s8:Option D) :
  ∃MG:List (List (Int×Int)),Ev.turn (bK T (n+1)) (.tp [(.nm 6),(.nm 7)]) Qw (.tup [.int low,.int high]) [Δ (.lst Ξ (ns.map .int)),Δ (.int k),s2,s3,s4,Δ (.lst Θ (rs.map La)),s6,s7,s8]=.ok (.nx [Δ (.lst Ξ (ns.map .int)),Δ (.int k),s2,s3,s4,Δ (.lst Θ (MG.map La)),Δ (.int low),Δ (.int high),Φ])/\MG.length=3/\∀r∈MG,Rn (b+1) r:=by
 have ei:=Ev.jh ns;have m0:0<=low % 5:=Int.emod_nonneg _ (by decide);have m1:low % 5 < 5:=Int.emod_lt_of_pos _ (by decide);obtain⟨i,d,d0,d1⟩:=LP n ns (k+2+low % 5) 3 (by omega) (by omega) (by decide);have lr:(rs.map La).length=3:=by rw[i_,hl]
 have RK:KU 3 i=Δ i.toNat:=by rcases(show i=0∨i=1∨i=2 by omega) with rfl|rfl|rfl<;>rfl
 obtain⟨MG,e,Va,N'⟩:=BV (bK T (n+1)) (Δ (.lst Ξ (ns.map .int))) (Δ (.int k)) s2 s3 s4 s8 low high (rs:=rs) (k:=i.toNat) (by omega) hb lh hr;refine⟨MG,?_,Va.trans hl,N'⟩;unfold Qw;generalize rs.map La=RS,MG.map La=RS',ns.map D.int=NS,Qv=ca,RU=xa,RV=va,Tw=wa at *;simp![Ev.iE,ei,d,lr,RK,e]
theorem uX (n:Nat)(ns:List Int){k:Int}(k0:0<=k)(k1:k<=1000)(s2 s3 s4:Option D):∀(zz:List (Int×Int)),(∀p∈zz,p.1<=p.2)->∀(rs:List (List (Int×Int))) (b:Nat),rs.length=3->b+zz.length<=100->(∀r∈rs,Rn b r)->∀s6 s7 s8:Option D,
  ∃(MG:List (List (Int×Int))) (c6 c7 c8:Option D),forM (Ev.turn (bK T (n+1)) (.tp [(.nm 6),(.nm 7)]) Qw) (zz.map Jx) [Δ (.lst Ξ (ns.map .int)),Δ (.int k),s2,s3,s4,Δ (.lst Θ (rs.map La)),s6,s7,s8]=.ok (.nx [Δ (.lst Ξ (ns.map .int)),Δ (.int k),s2,s3,s4,Δ (.lst Θ (MG.map La)),c6,c7,c8])/\MG.length=3/\∀r∈MG,Rn (b+zz.length) r
 |[],_,rs,b,hl,_,hr,s6,s7,s8=>⟨rs,s6,s7,s8,rfl,hl,hr⟩
 |p::zz,hz,rs,b,hl,hb,hr,s6,s7,s8=>by rw[List.length_cons]at hb;obtain⟨rs1,e1,h1,h2⟩:=BW n ns k0 k1 s2 s3 s4 p.1 p.2 (hz p (.head _)) hl (b:=b) (by omega) hr s6 s7 s8;obtain⟨rs2,c6,c7,c8,e2,h3,h4⟩:=uX n ns k0 k1 s2 s3 s4 zz (fun q hq=>hz q (.tail _ hq)) rs1 (b+1) h1 (by omega) h2 (Δ (.int p.1)) (Δ (.int p.2)) Φ;refine⟨rs2,c6,c7,c8,?_,h3,fun r hr=>(h4 r hr).le (by rw[List.length_cons];omega)⟩;rw[b_,Ev.dR,show Jx p=.tup [.int p.1,.int p.2] from rfl,e1];exact e2
theorem zQ (n:Nat)(ns:List Int){k:Int}(k0:0<=k)(k1:k<=900){fs:List Str}(hf:fs.length=4)(pl:Int) :
  ∃(al:Al) (fr:List (Int×Int)) (R:D),bK T (n+2) 48 [.lst Ξ (ns.map .int),.int k,.lst Ξ (fs.map .str),.int pl]=.ok R/\er R=J5 al fr/\iH R=Ξ/\al.length=2/\(fla al).length<=20/\(∀p∈al,p.2.length<=20)/\fr.length<=20:=by
 have ei:=Ev.jh ns;obtain⟨f0,f1,f2,f3,rfl⟩:∃f0 f1 f2 f3,fs=[f0,f1,f2,f3]:=by rcases fs with _|⟨f0,_|⟨f1,_|⟨f2,_|⟨f3,_|⟨f4,fs⟩⟩⟩⟩⟩<;>simp at hf;exact⟨f0,f1,f2,f3,rfl⟩
 have r0:=jx n ns k 10007 k0 (by omega) (by decide);generalize dr ns k 10007=u at *;have r1:=jx n ns (k+1) 4 (by omega) (by omega) (by decide);generalize dr ns (k+1) 4=d at *;have ec:jE [D.int pl,.int (pl+1),.int u] Φ (Δ d)=(jE [pl,pl+1,u] Φ (Δ d)).map .int:=mh D.int [pl,pl+1,u] Φ (Δ d);have lc:(jE [pl,pl+1,u] Φ (Δ d)).length<=3:=by unfold jE;rw[aaz,aah];show min _ (3 - _)<=3;omega
 generalize jE [pl,pl+1,u] Φ (Δ d)=cs at *
 obtain⟨ws,fm,lw,hw⟩:=uW (P:=fun x=>x < 10007) (g:=jb (bK T (n+1)) (.nm 0) [(.cmp .lt (.v 0) (.c (.int 10007)))] (.v 0) [Φ]) cs (fun x hx=>by
  cases h:decide (x < 10007) with
  |true=>exact .inl ⟨by simp![h],q_ h⟩
  |false=>right;simp![h])
 have es:=sY (o:=Θ) (xs:=0::ws) (by rw[List.length_cons];omega);have le:=mi (0::ws)
 have up:=zP 10007 (ends (0::ws)) (PySem.W.sortI_rises _) (fun x hx=>by
  rcases k_.mp (oP.mp hx) with rfl|h
  ·decide
  ·exact hw x h)
 rw[List.length_cons]at le;generalize ends (0::ws)=ys at *;have lz:(ys.zip (ys.drop 1++[10007])).length<=4:=by rw[List.length_zip];exact D_ (Nat.min_le_left _ _) (by omega)
 obtain⟨rs,c6,c7,c8,e4,l4,h4⟩:=uX n ns k0 (by omega) (Δ (.lst Ξ ([f0,f1,f2,f3].map .str))) (Δ (.int pl)) (Δ (.lst Ξ (ys.map .int))) (ys.zip (ys.drop 1++[10007])) up [[],[],[]] 0 rfl (by omega) (fun r hr=>by
  simp only[k_,I_,or_false]at hr
  rcases hr with rfl|rfl|rfl<;>exact⟨m_ _,fun p hp=>nomatch hp⟩) Φ Φ Φ
 obtain⟨a0,a1,a2,rfl⟩:∃a0 a1 a2,rs=[a0,a1,a2]:=by rcases rs with _|⟨a0,_|⟨a1,_|⟨a2,_|⟨a3,rs⟩⟩⟩⟩<;>simp at l4;exact⟨a0,a1,a2,rfl⟩
 have b0:=(h4 a0 (by simp)).1;have b1:=(h4 a1 (by simp)).1;have b2:=(h4 a2 (by simp)).1;rw[Nat.zero_add]at b0 b1 b2;refine⟨[(f0,a0),(f1,a1)],a2,.tup [.lst Θ [.tup [.str f0,.lst Ξ (a0.map Jx)],.tup [.str f1,.lst Ξ (a1.map Jx)]],.lst Ξ (a2.map Jx)],?_,?_,rfl,rfl,?_,?_,by omega⟩
 ·have ey:Jv (ys.map D.int)=ys.map D.int:=Ev.jh _;have ecy:=zK ys;have ez:jT (ys.map D.int) ((ys.drop 1++[10007]).map D.int)=(ys.zip (ys.drop 1++[10007])).map Jx:=uQ _ _;have eap:(ys.drop 1).map D.int++[.int 10007]=(ys.drop 1++[10007]).map D.int:=by rw[N_];rfl
  have ezp:=jd (ys.zip (ys.drop 1++[10007]));have ld:((ys.drop 1).map D.int).length<=64:=by rw[i_,aah];omega
  have lws:(ws.map D.int).length<=64:=by rw[i_];omega
  have lcs:(cs.map D.int).length<=64:=by rw[i_];omega
  have lfw:=Ev.sS cs;have e0:=jd a0;have e1:=jd a1;have e2:=jd a2;have n1:iS (.sset (.bin .add (.lst [(.c (.int 0))]) (.comp {N:=["_law_cut"],kd:=[.local],gl:=[],df:=Ξ} [] (.nm 0) (.val (.v 4)) [(.cmp .lt (.v 0) (.c (.int 10007)))] (.v 0))))=Ξ:=rfl;have v1:vars (.sset (.bin .add (.lst [(.c (.int 0))]) (.comp {N:=["_law_cut"],kd:=[.local],gl:=[],df:=Ξ} [] (.nm 0) (.val (.v 4)) [(.cmp .lt (.v 0) (.c (.int 10007)))] (.v 0))))=[4]:=rfl;have vz:kj (.zip (.v 4) (.bin .add (.sl (.v 4) (Δ (.c (.int 1))) Φ) (.lst [(.c (.int 10007))])))=[4,4]:=rfl;have es:ra (.lst Θ (.int 0::ws.map .int))=.ok (.lst Θ (ys.map .int)):=es;have e4:forM (Ev.turn (bK T (n+1)) (.tp [(.nm 6),(.nm 7)]) Qw) ((ys.zip (ys.drop 1++[10007])).map Jx) [Δ (.lst Ξ (ns.map .int)),Δ (.int k),Δ (.lst Ξ [.str f0,.str f1,.str f2,.str f3]),Δ (.int pl),Δ (.lst Ξ (ys.map .int)),Δ (.lst Θ [.lst Θ [],.lst Θ [],.lst Θ []]),Φ,Φ,Φ]=.ok (.nx [Δ (.lst Ξ (ns.map .int)),Δ (.int k),Δ (.lst Ξ [.str f0,.str f1,.str f2,.str f3]),Δ (.int pl),Δ (.lst Ξ (ys.map .int)),Δ (.lst Θ [.lst Θ (a0.map Jx),.lst Θ (a1.map Jx),.lst Θ (a2.map Jx)]),c6,c7,c8]):=e4;have x0:∀(o:Bool) (A B C:D),iQ (.lst o [A,B,C]) (.int 0)=.ok A:=fun _ _ _ _=>rfl;have x1:∀(o:Bool) (A B C:D),iQ (.lst o [A,B,C]) (.int 1)=.ok B:=fun _ _ _ _=>rfl;have x2:∀(o:Bool) (A B C:D),iQ (.lst o [A,B,C]) (.int 2)=.ok C:=fun _ _ _ _=>rfl;have y0:iQ (.lst Ξ [.str f0,.str f1,.str f2,.str f3]) (.int 0)=.ok (.str f0):=rfl;have y1:iQ (.lst Ξ [.str f0,.str f1,.str f2,.str f3]) (.int 1)=.ok (.str f1):=rfl;rw[gx 48 VZ 4 9 VY rfl rfl rfl rfl rfl rfl];unfold VY;show Iq _ _=_;generalize(ys.zip (ys.drop 1++[10007])).map Jx=ZP,(ys.drop 1++[10007]).map D.int=DA,(ys.drop 1).map D.int=DD,ys.map D.int=YS,ws.map D.int=WS,cs.map D.int=CS,a0.map Jx=A0,a1.map Jx=A1,a2.map Jx=A2,ns.map D.int=NS,Qw=ta at *;simp![ei,r0,r1,ec,lfw,fm,es,ey,ecy,eap,ez,ezp,n1,v1,vz,lws,lcs,e4,x0,x1,x2,y0,y1,e0,e1,e2]
 ·show D.tup [.lst Ξ [.tup [.str f0,.lst Ξ (Jv (a0.map Jx))],.tup [.str f1,.lst Ξ (Jv (a1.map Jx))]],.lst Ξ (Jv (a2.map Jx))]=_;rw[jd,jd,jd];rfl
 ·show(K' a0++(K' a1++[])).length<=20;rw[P_,o_,k9,k9];omega
 ·intro p hp;simp only[k_,I_,or_false]at hp;rcases hp with rfl|rfl
  ·show a0.length<=20;omega
  ·show a1.length<=20;omega
theorem Hk {r:Int}{i:Nat}{x:D}(h:(jq 0 r)[i]? = Δ x):i < r.toNat/\x=.int (i:Nat):=by unfold jq at h;rw[y_]at h;obtain⟨j,h1,rfl⟩:=aal.mp h;obtain⟨h2,h3⟩:=x_.mp h1;rw[List.getElem_range]at h3;rw[aac]at h2;subst h3;exact⟨by omega,by rw[Int.zero_add]⟩
theorem BX (a:Int):(jq 0 a).length=a.toNat:=by unfold jq;rw[i_,aac];omega
theorem uY {g:D->Res (Option D)}:∀(its:List D),(∀x∈its,∃c:Cn,g x=.ok (Δ c.t)/\Wf c)->∃cs:List Cn,iP g its=.ok (cs.map Cn.t)/\cs.length=its.length/\∀c∈cs,Wf c
 |[],_=>⟨[],rfl,rfl,fun c hc=>nomatch hc⟩
 |x::its,h=>by obtain⟨y,hy,wy⟩:=h x (by simp);obtain⟨ys,e,hl,wf⟩:=uY its fun z hz=>h z (H_ _ hz);exact⟨y::ys,kr hy e,by rw[List.length_cons,List.length_cons,hl],fun c hc=>(k_.mp hc).elim (fun h=>h ▸ wy) (wf c)⟩
structure P5 (r:Rl):Prop where
 wf:∀c∈r.cs,Wf c
 len:r.cs.length<=2
 sh:∀f sg,r.o=.share f sg->sg.length<=3
theorem zR (n:Nat)(ns:List Int){i:Nat}(hi:i < 4){ms:List Str}(hm:0 < ms.length)(L6:ms.length<=20){st:Str}(hs:st.length<=100)(c:Int){y:Int}(y1:y < 3) :
  ∃cs:List Cn,iP (jb (bK T (n+4)) (.nm 5) [] NM [Δ (.lst Ξ (ns.map .int)),Δ (.int (i:Nat)),Δ (.lst Ξ (ms.map .str)),Δ (.str st),Δ (.int c),Φ]) (jq 0 y)=.ok (cs.map Cn.t)/\cs.length<=2/\∀c∈cs,Wf c:=by
 have ei:=Ev.jh ns;have em:=Ev.jX ms
 obtain⟨cs,e,hl,wf⟩:=uY (g:=jb (bK T (n+4)) (.nm 5) [] NM [Δ (.lst Ξ (ns.map .int)),Δ (.int (i:Nat)),Δ (.lst Ξ (ms.map .str)),Δ (.str st),Δ (.int c),Φ]) (jq 0 y) (by
  intro x hx;obtain⟨j,rfl,j0,j1⟩:=uE hx;obtain⟨x,e,wf,_⟩:=uV n ns (k:=306+40*(i:Int)+12*j) (by omega) (by omega) hm L6 hs c (inn:=0) (.inl rfl);refine⟨x,?_,wf⟩;unfold NM;generalize x.t=XT,ns.map D.int=NS,ms.map D.str=MS at *
  simp![Ev.iE,ei,em,e])
 exact⟨cs,e,by rw[hl,BX];omega,wf⟩
theorem BY (n:Nat)(ns:List Int){i:Nat}(hi:i < 4){ms:List Str}(hm:0 < ms.length)(L6:ms.length<=20){st:Str}(hs:st.length<=100)(c:Int){fs:List Str}(hf:0 < fs.length)(Yq:fs.length<=20)(pl:Int){rs:List Rl}(lr:rs.length<=10){left:Int}(l0:0<=left)(o5:Bool)(s2 s6 NP NO b11 Sy:Option D) :
  ∃(r:Rl) (MH:Int) (Wy:Bool) (QA OP:Option D),Ev.turn (bK T (n+4)) (.nm 10) RX (.int (i:Nat)) [Δ (.lst Ξ (ns.map .int)),Δ (.lst Ξ (ms.map .str)),s2,Δ (.str st),Δ (.int c),Δ (.lst o5 (fs.map .str)),s6,Δ (.int pl),Δ (.lst Θ (rs.map Rl.d)),Δ (.int left),NO,b11,Sy,NP]=.ok (.nx [Δ (.lst Ξ (ns.map .int)),Δ (.lst Ξ (ms.map .str)),s2,Δ (.str st),Δ (.int c),Δ (.lst Wy (fs.map .str)),s6,Δ (.int pl),Δ (.lst Θ ((rs++[r]).map Rl.d)),Δ (.int MH),Δ (.int (i:Nat)),QA,OP,NP])/\P5 r/\0<=MH:=by
 have ei:=Ev.jh ns;have em:=Ev.jX ms;have ef:=Ev.jX fs;obtain⟨q,d,d0,d1⟩:=LP (n+3) ns (301+(i:Int)) 3 (by omega) (by omega) (by decide);have y0:0<=(if q < left then q else left):=by split<;>omega
 have y1:(if q < left then q else left) < 3:=by split<;>omega
 have y2:(if q < left then q else left)<=left:=by split<;>omega
 have mn:jW .min2 [.int left,.int q]=.ok (.int (if q < left then q else left)):=Ev.bN;generalize(if q < left then q else left)=y at *;obtain⟨cs,ec,lc,wf⟩:=zR n ns hi hm L6 hs c y1;obtain⟨o,eo,ho⟩:=tm (n+2) ns (k:=336+40*(i:Int)) (by omega) (by omega) hf Yq pl;have lry:=BX y;have Sw:(rs.map Rl.d).length=rs.length:=i_ _;have erc:=sW cs;have Ys:=CM cs;have ed:=uK o;refine⟨⟨cs,o⟩,left - y,(if iH o.d=Θ then o5 else Ξ),Δ (.int y),Δ (.lst Ξ (cs.map Cn.d)),?_,⟨wf,lc,ho⟩,by omega⟩;have kp:∀τ:Ev,(∀j,τ=[Δ (.lst Ξ (ns.map .int)),Δ (.lst Ξ (ms.map .str)),s2,Δ (.str st),Δ (.int c),Δ (.lst o5 (fs.map .str)),s6,Δ (.int pl),Δ (.lst Θ (rs.map Rl.d)),Δ (.int left),Δ (.int (i:Nat)),Δ (.int y),j,NP]->Ev.jw (.comp PM [0,10,1,3,4] (.nm 5) (.JP (.v 11)) [] NM) τ (.lst Θ (cs.map Cn.t))=.ok (.lst Θ (cs.map Cn.d),τ)):=fun τ j h=>by
  subst h;rw[Ev.aX];unfold iW;rw[d_ (by show ¬(Ξ=Θ);decide),show iS (.comp PM [0,10,1,3,4] (.nm 5) (.JP (.v 11)) [] NM)=Θ from rfl];show Except.ok (if iD (cs.map Cn.t)=Θ then _ else _)=_;cases h:iD (cs.map Cn.t) with
  |true=>rw[e_ rfl];have:cs.map Cn.t=cs.map Cn.d:=(jF h).symm.trans Ys;rw[this]
  |false=>rw[d_ n_,Ys];show Except.ok ((D.lst Θ (cs.map Cn.d),[Δ (D.lst Ξ (Jv (ns.map D.int))),Δ (D.lst Ξ (Jv (ms.map D.str))),s2,Δ (D.str st),Δ (D.int c),Δ (D.lst o5 (fs.map D.str)),s6,Δ (D.int pl),Δ (D.lst Θ (rs.map Rl.d)),Δ (D.int left),Δ (D.int (i:Nat)),Δ (D.int y),j,NP]):D×Ev)=_;rw[ei,em]
 have Yt:=kp _ Sy rfl;have oc:Ev.nu [(.v 0),(.bin .add (.c (.int 336)) (.bin .mul (.c (.int 40)) (.v 10))),(.v 5),(.v 7)] [Δ (.lst Ξ (ns.map .int)),Δ (.lst Ξ (ms.map .str)),s2,Δ (.str st),Δ (.int c),Δ (.lst o5 (fs.map .str)),s6,Δ (.int pl),Δ (.lst Θ (rs.map Rl.d)),Δ (.int (left - y)),Δ (.int (i:Nat)),Δ (.int y),Δ (.lst Ξ (cs.map Cn.d)),NP] o.d=.ok (o.d,[Δ (.lst Ξ (ns.map .int)),Δ (.lst Ξ (ms.map .str)),s2,Δ (.str st),Δ (.int c),Δ (.lst (if iH o.d=Θ then o5 else Ξ) (fs.map .str)),s6,Δ (.int pl),Δ (.lst Θ (rs.map Rl.d)),Δ (.int (left - y)),Δ (.int (i:Nat)),Δ (.int y),Δ (.lst Ξ (cs.map Cn.d)),NP]):=by
  show(if iH o.d=Θ then _ else _)=_;cases h:iH o.d with
  |true=>rw[e_ rfl,e_ rfl]
  |false=>rw[d_ n_,d_ n_];show Except.ok ((o.d,[Δ (D.lst Ξ (Jv (ns.map D.int))),Δ (D.lst Ξ (ms.map D.str)),s2,Δ (D.str st),Δ (D.int c),Δ (D.lst Ξ (Jv (fs.map D.str))),s6,Δ (D.int pl),Δ (D.lst Θ (rs.map Rl.d)),Δ (D.int (left - y)),Δ (D.int (i:Nat)),Δ (D.int y),Δ (D.lst Ξ (cs.map Cn.d)),NP]):D×Ev)=_;rw[ei,ef]
 have hm4:KN .mul (.int 40) (.int (i:Nat))=.ok (.int (40*(i:Int))):=Ev.qj (by omega) (by omega);rw[N_];show _=Except.ok (Fl.nx [_,_,_,_,_,_,_,_,Δ (.lst Θ (rs.map Rl.d++[.tup [.lst Ξ (cs.map Cn.d),o.d]])),_,_,_,_,_]);unfold RX;generalize(if iH o.d=Θ then o5 else Ξ)=oo at *;generalize o.d=OD at *;have rd:∀(τ:Ev) (h:τ=[Δ (.lst Ξ (ns.map .int)),Δ (.lst Ξ (ms.map .str)),s2,Δ (.str st),Δ (.int c),Δ (.lst o5 (fs.map .str)),s6,Δ (.int pl),Δ (.lst Θ (rs.map Rl.d)),Δ (.int left),Δ (.int (i:Nat)),Δ (.int y),Sy,NP]),IC (bK T (n+4)) (.comp PM [0,10,1,3,4] (.nm 5) (.JP (.v 11)) [] NM) τ=.ok (.lst Θ (cs.map Cn.t)):=fun τ h=>by
  subst h;have abU:(jq 0 y).length<=64:=by rw[lry];omega
  unfold PM;generalize cs.map Cn.t=CT,ns.map D.int=NS,ms.map D.str=MS,fs.map D.str=FS,rs.map Rl.d=RD,NM=es at *;simp![ec]
 have Yu:=rd _ rfl;have ob:JR (bK T (n+4)) Ξ (.comp PM [0,10,1,3,4] (.nm 5) (.JP (.v 11)) [] NM) [Δ (.lst Ξ (ns.map .int)),Δ (.lst Ξ (ms.map .str)),s2,Δ (.str st),Δ (.int c),Δ (.lst o5 (fs.map .str)),s6,Δ (.int pl),Δ (.lst Θ (rs.map Rl.d)),Δ (.int left),Δ (.int (i:Nat)),Δ (.int y),Sy,NP]=.ok (.lst Θ (cs.map Cn.d),[Δ (.lst Ξ (ns.map .int)),Δ (.lst Ξ (ms.map .str)),s2,Δ (.str st),Δ (.int c),Δ (.lst o5 (fs.map .str)),s6,Δ (.int pl),Δ (.lst Θ (rs.map Rl.d)),Δ (.int left),Δ (.int (i:Nat)),Δ (.int y),Sy,NP]):=by rw[Ev.bL,Yu];exact Yt
 clear kp Yt rd Yu;generalize cs.map Cn.t=CT,cs.map Cn.d=CD,ns.map D.int=NS,ms.map D.str=MS,fs.map D.str=FS,rs.map Rl.d=RD,IR.comp PM [0,10,1,3,4] (.nm 5) (.JP (.v 11)) [] NM=cmp at *;simp![Ev.iE,ei,em,ef,d,mn,ob,erc,hm4,eo,↓oc,ed,Sw]
structure SwOk (gs:List Gp)(rs:List Rl)(al:Al)(fr:List (Int×Int)):Prop where
 g:Lq gs
 gl:gs.length=2
 rk:∀r∈rs,P5 r
 rl:rs.length<=3
 a2:al.length=2
 fl:(fla al).length<=20
 run:∀p∈al,p.2.length<=20
 f2:fr.length<=20
theorem v5 (n:Nat)(ns:List Int){ms:List Str}(hm:0 < ms.length)(L6:ms.length<=20){m:Int}(m0:0<=m)(m1:m<=1000000000) :
  ∃(gs:List Gp) (salt rest:Str) (rs:List Rl) (al:Al) (fr:List (Int×Int)) (Rg Rs:D),bK T (n+6) 51 [.lst Ξ (ns.map .int),.lst Ξ (ms.map .str),.int m]=.ok (.tup [Rg,Rs])/\er Rg=JI gs/\er Rs=JF salt rest rs al fr/\SwOk gs rs al fr:=by
 have ei:=Ev.jh ns;have em:=Ev.jX ms;obtain⟨st,e1,Ke⟩:=uF (n+3) ns;obtain⟨c,e2⟩:=pN (n+3) ns;obtain⟨fs,e3,lf,_,_⟩:=oM (n+3) ns (k:=50) (by decide) (by decide) (c:=4) (by decide) (by decide);have lf:fs.length=4:=lf;obtain⟨cs,e4,hc⟩:=Bu (n+3) ns (k:=100) (by decide) (by decide);have e5:=vY (n+4) cs hc.2.1 m m0 m1;generalize Qr cs m=pl at *;obtain⟨q,e6,q0,q1⟩:=LP (n+4) ns 300 4 (by decide) (by decide) (by decide);obtain⟨τ',e7,rs,left,o5,OO,QA,OP,rfl,Sw,TY,l0⟩:=Ev.ny (its:=jq 0 q) (τ:=[Δ (.lst Ξ (ns.map .int)),Δ (.lst Ξ (ms.map .str)),Δ (.int m),Δ (.str st),Δ (.int c),Δ (.lst Θ (fs.map .str)),Δ (.str (J0 cs)),Δ (.int pl),Δ (.lst Θ []),Δ (.int 3),Φ,Φ,Φ,Φ]) (body:=Ev.turn (bK T (n+5)) (.nm 10) RX)
  (fun i τ=>∃(rs:List Rl) (left:Int) (o5:Bool) (OO QA OP:Option D),τ=[Δ (.lst Ξ (ns.map .int)),Δ (.lst Ξ (ms.map .str)),Δ (.int m),Δ (.str st),Δ (.int c),Δ (.lst o5 (fs.map .str)),Δ (.str (J0 cs)),Δ (.int pl),Δ (.lst Θ (rs.map Rl.d)),Δ (.int left),OO,QA,OP,Φ]/\rs.length=i/\(∀r∈rs,P5 r)/\0<=left)
  ⟨[],3,Θ,Φ,Φ,Φ,rfl,rfl,(fun r hr=>nomatch hr),by decide⟩ (by
   rintro i x τ hx ⟨rs,left,o5,OO,QA,OP,rfl,lr,hr,l0⟩;obtain⟨hi,rfl⟩:=Hk hx;obtain⟨r,MH,Wy,d11,d12,e,To,l0'⟩:=BY (n+1) ns (i:=i) (by omega) hm L6 Ke c (fs:=fs) (by omega) (by omega) pl (rs:=rs) (by omega) l0 o5 (Δ (.int m)) (Δ (.str (J0 cs))) Φ OO QA OP
   exact⟨_,e,rs++[r],MH,Wy,_,d11,d12,rfl,by rw[o_,lr];rfl,fun x hx=>(C_.mp hx).elim (hr x) fun h=>(w_.mp h) ▸ To,l0'⟩)
 rw[BX]at Sw;have e8:=jx (n+4) ns 149 4 (by decide) (by decide) (by decide);obtain⟨rest,Ny,_⟩:=ml (fs:=fs) (oI ns 149 (m:=4) (by decide)) (by rw[lf];exact oJ ns 149 (m:=4) (by decide));generalize dr ns 149 4=i9 at *;obtain⟨al,fr,Ra,e9,eRa,lRa,la,Th,lru,lfr⟩:=zQ (n+3) ns (k:=281) (by decide) (by decide) lf pl;obtain⟨gs,Rg,e10,eRg,lRg,hg,lg⟩:=v3 n ns (k:=160) (by decide) (by decide) hm L6 Ke c;refine⟨gs,J0 cs,rest,rs,al,fr,Rg,.tup [.str (J0 cs),.str rest,.lst Ξ (rs.map Rl.d),Ra],?_,eRg,?_,⟨hg,lg,TY,by omega,la,Th,lru,lfr⟩⟩
 ·have ef:=Ev.jX fs;have ON:=mS rs;have lrq:(jq 0 q).length<=64:=by rw[BX];omega
  rw[gx 51 V5 3 14 V4 rfl rfl rfl rfl rfl rfl];unfold V4;have Ny:=Ny o5;generalize J0 cs=SC,ns.map D.int=NS,ms.map D.str=MS,fs.map D.str=FS,rs.map Rl.d=RD,RX=ts at *;simp![ei,em,ef,e1,e2,e3,e4,e5,e6,e7,e8,Ny,e9,lRa,e10,lRg,ON]
 ·show D.tup [.str (J0 cs),.str rest,.lst Ξ (Jv (rs.map Rl.d)),er Ra]=_;rw[mS,eRa];rfl
theorem zU (n:Nat)(ns:List Int){k:Int}(k0:0<=k)(k1:k<=1000):∃x:Option Tn,bK T (n+3) 52 [.lst Ξ (ns.map .int),.int k]=.ok (mD x):=by
 have ei:=Ev.jh ns;obtain⟨st,e1,Ke⟩:=uF n ns;obtain⟨c,e2⟩:=pN n ns;have r1:=jx (n+1) ns (k+1) 6 (by omega) (by omega) (by decide);generalize dr ns (k+1) 6=i1 at *;have r0:=jx (n+1) ns k 13 k0 (by omega) (by decide);generalize dr ns k 13=i0 at *;have r3:=jx (n+1) ns (k+3) 8 (by omega) (by omega) (by decide);generalize dr ns (k+3) 8=i3 at *;obtain⟨i2,r2,a0,a1⟩:=LP (n+1) ns (k+2) 7 (by omega) (by omega) (by decide);have hp:KN .pow (.int 10) (.int 9)=.ok (.int 1000000000):=by kernel_rfl
 have ls:=mQ st Φ (Δ i3);have lq:(Ρ "q").length=1:=by decide +kernel
 have key:∀x:Option Tn,iQ (.lst Θ [.Jt,.str (Txt.slice st Φ (Δ i0)),.str (Txt.slice st Φ (Δ i3)++Ρ "q"),.int (c+i1 - 2),.int 1000000000,.int (0 - 1000000000),.int (c+i1 - 2)]) (.int i2)=.ok (mD x)->bK T (n+3) 52 [.lst Ξ (ns.map .int),.int k]=.ok (mD x):=fun x hx=>by
  have kp:∀(e:IR) (τ:Ev),iW e (mD x) τ=(mD x,τ):=fun e τ=>by unfold iW;rw[e_ (ER x)]
  rw[gx 52 V7 2 5 V6 rfl rfl rfl rfl rfl rfl];unfold V6;generalize mD x=MX,ns.map D.int=NS at *;generalize sy:Txt.slice st Φ (Δ i0)=s0 at *;generalize sz:Txt.slice st Φ (Δ i3)=s3 at *;simp![ei,e1,e2,r1,r0,r3,r2,hp,sy,sz,lq,hx,kp]
 rcases(show i2=0∨i2=1∨i2=2∨i2=3∨i2=4∨i2=5∨i2=6 by omega) with rfl|rfl|rfl|rfl|rfl|rfl|rfl
 ·exact⟨Φ,key _ rfl⟩
 ·exact⟨Δ (.s _),key (Δ (.s _)) rfl⟩
 ·exact⟨Δ (.s _),key (Δ (.s _)) rfl⟩
 ·exact⟨Δ (.i _),key (Δ (.i _)) rfl⟩
 ·exact⟨Δ (.i _),key (Δ (.i _)) rfl⟩
 ·exact⟨Δ (.i _),key (Δ (.i _)) rfl⟩
 ·exact⟨Δ (.i _),key (Δ (.i _)) rfl⟩
theorem zV {α:Type}{n:Nat}{e:α->D}:∀(xs:List α),(∀x∈xs,pl n (e x)=Θ)->LC n (xs.map e)=Θ
 |[],_=>rfl
 |x::xs,h=>by show(pl n (e x)&&LC n (xs.map e))=Θ;rw[h x (.head _),zV xs fun y hy=>h y (.tail _ hy)];rfl
theorem kX {α:Type}{n:Nat}{e:α->D}{xs:List α}(hl:xs.length<=100)(h:∀x∈xs,pl n (e x)=Θ):pl (n+1) (.lst Ξ (xs.map e))=Θ:=by have d1:decide ((xs.map e).length < 1000)=Θ:=G_ (by rw[i_];omega);show(Θ&&(LC n (xs.map e)&&decide ((xs.map e).length < 1000)))=Θ;rw[zV xs h,d1];rfl
theorem Hl {c:Cn}(wf:Wf c):pl 7 c.d=Θ:=by
 have h:=kX (n:=5) (e:=Tn.d) (xs:=c.ts) wf.len fun t _=>by cases t<;>rfl
 show((Θ&&(Θ&&(pl 6 (.lst Ξ (c.ts.map Tn.d))&&Θ)))&&Θ)=Θ;rw[h];rfl
theorem CN {r:List Cn}(hl:r.length<=100)(h:∀c∈r,Wf c):pl 8 (J4 r)=Θ:=kX hl fun c hc=>Hl (h c hc)
theorem Hm {gs:List Gp}(hg:Lq gs)(hl:gs.length<=100):pl 11 (JI gs)=Θ:=kX hl fun g Nx=>by have h:=kX (n:=8) (e:=J4) (xs:=g.rows) (hg.len g Nx).1 fun r hr=>CN ((hg.len g Nx).2 r hr) fun c hc=>(hg.ok g Nx r hr c hc).1;show((Θ&&(pl 9 (.lst Ξ (g.rows.map J4))&&Θ))&&Θ)=Θ;rw[h];rfl
theorem tu (n:Nat){l:List (Int×Int)}(hl:l.length<=100):pl (n+3) (.lst Ξ (l.map Jx))=Θ:=kX hl fun _ _=>rfl
theorem Hn {r:Rl}(h:(∀c∈r.cs,Wf c)/\r.cs.length<=2/\∀f sg,r.o=.share f sg->sg.length<=3):pl 9 r.d=Θ:=by
 have h1:=CN (r:=r.cs) (by omega) h.1;have h2:pl 8 r.o.d=Θ:=by
  cases ho:r.o with
  |face f=>rfl
  |share f sg=>have:=h.2.2 f sg ho;have h3:=tu 4 (l:=sg) (by omega);show((Θ&&(Θ&&(pl 7 (.lst Ξ (sg.map Jx))&&Θ)))&&Θ)=Θ;rw[h3];rfl
  |NN=>rfl
 show((pl 8 (J4 r.cs)&&(pl 8 r.o.d&&Θ))&&Θ)=Θ;rw[h1,h2];rfl
theorem Ho {al:Al}{fr:List (Int×Int)}(h1:al.length<=100)(h2:∀p∈al,p.2.length<=20)(h3:fr.length<=20):pl 10 (J5 al fr)=Θ:=by
 have a1:=kX (n:=8) (e:=Kv) h1 fun p hp=>by have:=h2 p hp;have h3:=tu 4 (l:=p.2) (by omega);show((Θ&&(pl 7 (.lst Ξ (p.2.map Jx))&&Θ))&&Θ)=Θ;rw[h3];rfl
 have a2:=tu 6 (l:=fr) (by omega);show((pl 9 (.lst Ξ (al.map Kv))&&(pl 9 (.lst Ξ (fr.map Jx))&&Θ))&&Θ)=Θ;rw[a1,a2];rfl
theorem BZ {gs:List Gp}(hg:Lq gs)(hl:gs.length<=100){salt rest:Str}{rs:List Rl}(hr:rs.length<=100)(wf:∀r∈rs,(∀c∈r.cs,Wf c)/\r.cs.length<=2/\∀f sg,r.o=.share f sg->sg.length<=3){al:Al}{fr:List (Int×Int)}(h1:al.length<=100)(h2:∀p∈al,p.2.length<=20)(h3:fr.length<=20):pl 12 (.tup [JI gs,JF salt rest rs al fr])=Θ:=by
 have a1:=Hm hg hl;have a2:=kX (n:=9) (e:=Rl.d) hr fun r hr=>Hn (wf r hr);have a3:=Ho h1 h2 h3;have a4:pl 11 (JF salt rest rs al fr)=Θ:=by show((Θ&&(Θ&&(pl 10 (.lst Ξ (rs.map Rl.d))&&(pl 10 (J5 al fr)&&Θ))))&&Θ)=Θ;rw[a2,a3];rfl
 show((pl 11 (JI gs)&&(pl 11 (JF salt rest rs al fr)&&Θ))&&Θ)=Θ;rw[a1,a4];rfl
theorem E7 (s:List Str×List Int)(h:s.1.length<=100):pl 4 (.lst Ξ (LW s))=Θ:=by unfold LW;refine kX (n:=3) (e:=fun i=>D.tup [.str (s.1.getD i ⟨#[]⟩),.int (s.2.getD i 0)]) ?_ fun i _=>rfl;show(kR _ _).length<=100;rw[kS];exact h
theorem E8 (s:List Str×List Int):Jv (LW s)=LW s:=jF (tj s)
theorem uZ {g:D->Res (Option D)}{x:D}{o:Option D}{xs ys:List D}(h:g x=.ok o)(k:iP g xs=.ok ys):iP g (x::xs)=.ok (o.toList++ys):=by
 show Iq (g x) _=_;rw[h];cases o with
 |some d=>show Iq (iP g xs) _=_;rw[k];rfl
 |none=>exact k
noncomputable def M5 (m:Str)(x:Option Tn):List (Str×Tn):=(x.map fun t=>(m,t)).toList
theorem u0 (m:Str)(x:Option Tn):(x.map fun t=>KA (m,t)).toList=(M5 m x).map KA:=by cases x<;>rfl
theorem zW {m:Str}{x:Option Tn}{y:Str}(h:y∈(M5 m x).map (·.1)):y=m:=by
 cases x with
 |none=>cases h
 |some t=>exact w_.mp h
theorem zX (m:Str)(x:Option Tn):((M5 m x).map (·.1)).Nodup:=by cases x<;>simp[M5]
theorem u6 (m:Str)(x:Option Tn):(M5 m x).length<=1:=by cases x<;>simp[M5]
theorem zY {m0 m1:Str}(h:m0≠m1)(x0 x1:Option Tn):((M5 m0 x0++M5 m1 x1).map (·.1)).Nodup:=by rw[N_];exact r_.mpr ⟨zX _ _,zX _ _,fun a ha b hb e=>h (by rw[<- zW ha,<- zW hb];exact e)⟩
theorem zZ (cl:Nat->List D->Res D){i:Int}{m:Str}{x:Option Tn}{N X:D}(hN:iQ N (.int i)=.ok (.str m))(hX:iQ X (.int i)=.ok (mD x)):jb cl (.nm 2) [(.cmp .Lh (.idx (.v 1) (.v 2)) (.c .Jt))] (.tup [(.idx (.v 0) (.v 2)),(.idx (.v 1) (.v 2))]) [Δ N,Δ X,Φ] (.int i)=.ok (x.map fun t=>KA (m,t)):=by
 have hi:=y3 x;cases x with
 |none=>have hX:iQ X (.int i)=.ok .Jt:=hX;have hi:Kg .Lh .Jt .Jt=.ok Ξ:=hi;show _=Except.ok Φ;simp![Ev.iE,hN,hX,hi]
 |some t=>have hX:iQ X (.int i)=.ok t.d:=hX;have hi:Kg .Lh t.d .Jt=.ok Θ:=hi;show _=Except.ok (Δ (D.tup [.str m,t.d]));generalize t.d=TD at *;simp![Ev.iE,hN,hX,hi]
theorem Aa (cl:Nat->List D->Res D){m0 m1:Str}(hm:m0≠m1)(x0 x1:Option Tn){a:Int}(h:a=0∨a=1):∃ms:List (Str×Tn),iP (jb cl (.nm 2) [(.cmp .Lh (.idx (.v 1) (.v 2)) (.c .Jt))] (.tup [(.idx (.v 0) (.v 2)),(.idx (.v 1) (.v 2))]) [Δ (.lst Ξ [.str m0,.str m1]),Δ (.lst Θ [mD x0,mD x1]),Φ]) [.int a,.int (1 - a)]=.ok (ms.map KA)/\(ms.map (·.1)).Nodup/\ms.length<=2:=by
 have b0:=zZ cl (i:=0) (m:=m0) (x:=x0) (N:=.lst Ξ [.str m0,.str m1]) (X:=.lst Θ [mD x0,mD x1]) rfl rfl;have b1:=zZ cl (i:=1) (m:=m1) (x:=x1) (N:=.lst Ξ [.str m0,.str m1]) (X:=.lst Θ [mD x0,mD x1]) rfl rfl;have l0:=u6 m0 x0;have l1:=u6 m1 x1;rcases h with rfl|rfl
 ·refine⟨M5 m0 x0++M5 m1 x1,?_,zY hm x0 x1,by rw[o_];omega⟩;have:=uZ b0 (uZ b1 (show iP _ []=.ok [] from rfl));rw[P_,u0,u0,<- N_]at this;exact this
 ·refine⟨M5 m1 x1++M5 m0 x0,?_,zY (Ne.symm hm) x1 x0,by rw[o_];omega⟩;have:=uZ b1 (uZ b0 (show iP _ []=.ok [] from rfl));rw[P_,u0,u0,<- N_]at this;exact this
theorem v7 (n:Nat)(ns:List Int){j:Nat}(hj:j < 4):∃x0 x1:Option Tn,iP (jb (bK T (n+3)) (.nm 2) [] (.call 52 [(.v 0),(.bin .add (.bin .add (.c (.int 600)) (.bin .mul (.c (.int 10)) (.v 1))) (.bin .mul (.c (.int 4)) (.v 2)))]) [Δ (.lst Ξ (ns.map .int)),Δ (.int (j:Nat)),Φ]) (jq 0 2)=.ok [mD x0,mD x1]:=by
 have ei:=Ev.jh ns;have one:∀a:Int,0<=a->a < 2->∃x:Option Tn,jb (bK T (n+3)) (.nm 2) [] (.call 52 [(.v 0),(.bin .add (.bin .add (.c (.int 600)) (.bin .mul (.c (.int 10)) (.v 1))) (.bin .mul (.c (.int 4)) (.v 2)))]) [Δ (.lst Ξ (ns.map .int)),Δ (.int (j:Nat)),Φ] (.int a)=.ok (Δ (mD x)):=fun a a0 a1=>by obtain⟨x,e⟩:=zU n ns (k:=600+10*(j:Int)+4*a) (by omega) (by omega);refine⟨x,?_⟩;generalize mD x=MX,ns.map D.int=NS at *;simp![Ev.iE,ei,e]
 obtain⟨x,ex⟩:=one 0 (by decide) (by decide);obtain⟨y,ey⟩:=one 1 (by decide) (by decide);exact⟨x,y,kr ex (kr ey rfl)⟩
theorem B0 (day:Int){rs:List Rl}{al:Al}(h1:rs.length<=3)(h2:(fla al).length<=20):(iG day rs al).length < 64:=by have:=nB day rs;unfold iG;rw[List.length_cons,List.length_cons,o_];omega
theorem B3 (ns:List Int){j:Nat}(hj:j < 4){m0 m1:Str}(hm:m0≠m1)(day:Int){gs:List Gp}(salt rest:Str){rs:List Rl}{al:Al}{fr:List (Int×Int)}(ok:SwOk gs rs al fr){P Q:D}(eP:er P=JI gs)(eQ:er Q=JF salt rest rs al fr)(b6 b7 b8 b9:Option D) :
  ∃c7 c8 c9:Option D,Ev.turn (bK T 16) (.nm 6) RY (.int (j:Nat)) [Δ (.lst Ξ (ns.map .int)),Δ (.lst Ξ [.str m0,.str m1]),Δ (.int day),Δ (JI gs),Δ (JF salt rest rs al fr),Δ (.tup [P,Q]),b6,b7,b8,b9]=.ok (.nx [Δ (.lst Ξ (ns.map .int)),Δ (.lst Ξ [.str m0,.str m1]),Δ (.int day),Δ (JI gs),Δ (JF salt rest rs al fr),Δ (.tup [JI gs,JF salt rest rs al fr]),Δ (.int (j:Nat)),c7,c8,c9]):=by
 have ei:=Ev.jh ns;obtain⟨x0,x1,e1⟩:=v7 13 ns hj;have a2:(j:Int) % 2=0∨(j:Int) % 2=1:=by omega
 obtain⟨ms,e2,nd,lms⟩:=Aa (bK T 16) hm x0 x1 a2;have am:KN .mod (.int (j:Nat)) (.int 2)=.ok (.int ((j:Int) % 2)):=Ev.yQ (by decide);generalize(j:Int) % 2=a at *;have hc:=B0 day ok.rl ok.fl;have e3:=counts 5 ok.g.ok ms salt rest fr (fun r hr=>(ok.rk r hr).wf) (by have:=ok.rl;omega) (by have:=ok.fl;omega) day hc;have e4:=BL 12 ok.g nd salt rest fr (fun r hr=>⟨(ok.rk r hr).wf,D_ (ok.rk r hr).len (by decide)⟩) (by have:=ok.rl;omega) (by have:=ok.fl;omega) day hc;have ck:=tf (dec gs ms rest rs al day) (iG day rs al);have li:(LW (cnt (dec gs ms rest rs al day) (iG day rs al))).length<=64:=by unfold LW;rw[i_];show(kR _ _).length<=_;rw[kS];exact Nat.le_of_lt (Nat.lt_of_le_of_lt ck.le hc)
 have e5:=same 4 12 (E7 (cnt (dec gs ms rest rs al day) (iG day rs al)) (D_ ck.le (D_ (Nat.le_of_lt hc) (by decide))));have eI:=E8 (cnt (dec gs ms rest rs al day) (iG day rs al));have em:=oN ms;have lfm:iD (ms.map KA)=Θ:=by rw[iU,List.all_map,R_];intro p _;show iH (.tup [.str p.1,p.2.d])=Θ;show(Θ&&(iH p.2.d&&Θ))=Θ;rw[G6];rfl
 have lx:iD [mD x0,mD x1]=Θ:=by show(iH _&&(iH _&&Θ))=Θ;rw[ER,ER];rfl
 have lmm:(ms.map KA).length<=64:=by rw[i_];omega
 have eg:=jC gs;have es:=ku salt rest rs al fr;have sm:D.lst Ξ (ms.map KA)=JK ms:=rfl;have emm:=jG ms;have lr:(jq 0 2).length=2:=rfl;refine⟨Δ (.lst Θ [mD x0,mD x1]),Δ (.lst Ξ (ms.map KA)),Δ (.lst Θ (LW (cnt (dec gs ms rest rs al day) (iG day rs al))++[.tup [.str "a",.int 1]])),?_⟩;have e3:bK T 16 38 [JI gs,JF salt rest rs al fr,.int day,.lst Ξ (ms.map KA)]=_:=e3;have e4:bK T 16 59 [JI gs,JF salt rest rs al fr,.int day,.lst Ξ (ms.map KA)]=_:=e4;have e5:bK T 16 56 [.lst Ξ (LW (cnt (dec gs ms rest rs al day) (iG day rs al))),.lst Ξ (LW (cnt (dec gs ms rest rs al day) (iG day rs al)))]=.ok (.bl Θ):=e5;unfold RY Yb Yc;generalize LW (cnt (dec gs ms rest rs al day) (iG day rs al))=IT,ms.map KA=MK,mD x0=X0,mD x1=X1,JI gs=GD,JF salt rest rs al fr=SW,ns.map D.int=NS at *;have lit:iH (.lst Θ IT)=Ξ:=rfl;have Wz:iR [(.idx (.v 5) (.c (.int 0))),(.idx (.v 5) (.c (.int 1))),(.v 2),(.bi .list [(.v 8)])]=[5,5,2,8]:=rfl;simp![Ev.iE,ei,e1,lr,lx,am,e2,lfm,lmm,eP,eQ,em,e3,lit,Wz,eg,es,e4,eI,e5,li]
theorem E9 (ns:List Int):bK T (16+1) 60 [.lst Ξ (ns.map .int)]=.ok (.bl Θ):=by
 have ei:=Ev.jh ns;obtain⟨ms,e1,l1,nd1,_⟩:=oM 14 ns (k:=0) (by decide) (by decide) (c:=2) (by decide) (by decide);obtain⟨m0,m1,rfl⟩:∃m0 m1,ms=[m0,m1]:=by
  rcases ms with _|⟨m0,_|⟨m1,_|⟨m2,ms⟩⟩⟩
  ·cases l1
  ·cases l1
  ·exact⟨m0,m1,rfl⟩
  ·cases l1
 have hm:m0≠m1:=by have:=(E_.mp nd1).1;exact fun h=>this (by rw[h];exact .head _)
 have e2:=jx 15 ns 147 12 (by decide) (by decide) (by decide);generalize dr ns 147 12=day at *;obtain⟨m,e3,v0,v1⟩:=EM 14 ns (k:=120) (by decide) (by decide);obtain⟨gs,salt,rest,rs,al,fr,Rg,Rs,e4,eg,es,ok⟩:=v5 10 ns (ms:=[m0,m1]) (by show 0 < 2;decide) (by show 2<=20;decide) v0 v1;have pb:=BZ ok.g (by have:=ok.gl;omega) (salt:=salt) (rest:=rest) (rs:=rs) (by have:=ok.rl;omega) (fun r hr=>⟨(ok.rk r hr).wf,(ok.rk r hr).len,(ok.rk r hr).sh⟩) (al:=al) (fr:=fr) (by have:=ok.a2;omega) ok.run ok.f2;obtain⟨H,e5,eH⟩:=copy 12 4 pb;have e5:bK T 16 57 [.tup [JI gs,JF salt rest rs al fr]]=.ok H:=e5;have e6:bK T 16 56 [.tup [JI gs,JF salt rest rs al fr],.tup [JI gs,JF salt rest rs al fr]]=.ok (.bl Θ):=same 12 4 pb;have lH:iH H=Ξ:=by
  cases hb:iH H with
  |false=>rfl
  |true=>have:H=.tup [JI gs,JF salt rest rs al fr]:=(nY hb).symm.trans eH;rw[this]at hb;cases hb
 have lT:iH (.tup [Rg,Rs])=Ξ:=by
  cases hb:iH (.tup [Rg,Rs]) with
  |false=>rfl
  |true=>have:D.tup [er Rg,er Rs]=.tup [Rg,Rs]:=nY hb;rw[eg,es]at this;injection this with h;injection h with h1 h2;rw[<- h1]at hb;cases hb
 obtain⟨P,Q,rfl,eP,eQ⟩:∃P Q,H=.tup [P,Q]/\er P=JI gs/\er Q=JF salt rest rs al fr:=by
  cases H with
  |tup ds=>
   have e:Jv ds=[JI gs,JF salt rest rs al fr]:=by have:D.tup (Jv ds)=.tup [JI gs,JF salt rest rs al fr]:=eH;injection this
   rcases ds with _|⟨P,_|⟨Q,_|⟨R,ds⟩⟩⟩
   ·exact absurd (congrArg List.length e) (by intro h;cases h)
   ·exact absurd (congrArg List.length (show [er P]=_ from e)) (by intro h;cases h)
   ·have e:[er P,er Q]=[JI gs,JF salt rest rs al fr]:=e;injection e with e1 e2;injection e2 with e2 _;exact⟨P,Q,rfl,e1,e2⟩
   ·have e:er P::er Q::er R::Jv ds=[JI gs,JF salt rest rs al fr]:=e;injection e with e1 e2;injection e2 with e2 e3;exact absurd (congrArg List.length e3) (by intro h;cases h)
  |_=>cases eH
 obtain⟨τ',e7,P',Q',c6,c7,c8,c9,rfl,eP',eQ'⟩:=Ev.ny (its:=jq 0 4) (τ:=[Δ (.lst Ξ (ns.map .int)),Δ (.lst Ξ [.str m0,.str m1]),Δ (.int day),Δ (JI gs),Δ (JF salt rest rs al fr),Δ (.tup [P,Q]),Φ,Φ,Φ,Φ]) (body:=Ev.turn (bK T 16) (.nm 6) RY)
  (fun j τ=>∃(P Q:D) (c6 c7 c8 c9:Option D),τ=[Δ (.lst Ξ (ns.map .int)),Δ (.lst Ξ [.str m0,.str m1]),Δ (.int day),Δ (JI gs),Δ (JF salt rest rs al fr),Δ (.tup [P,Q]),c6,c7,c8,c9]/\er P=JI gs/\er Q=JF salt rest rs al fr)
  ⟨P,Q,Φ,Φ,Φ,Φ,rfl,eP,eQ⟩ (by
   rintro j x τ hx ⟨P,Q,c6,c7,c8,c9,rfl,eP,eQ⟩;obtain⟨hj,rfl⟩:=Hk hx;obtain⟨d7,d8,d9,e⟩:=B3 ns (j:=j) hj hm day salt rest ok eP eQ c6 c7 c8 c9
   exact⟨_,e,_,_,_,d7,d8,d9,rfl,jC gs,ku salt rest rs al fr⟩)
 have egg:=jC gs;have ess:=ku salt rest rs al fr;have lr:(jq 0 4).length=4:=rfl;have e1:bK T 16 40 [.lst Ξ (ns.map .int),.int 0,.int 2]=.ok (.lst Θ [.str m0,.str m1]):=e1;have e4:bK T 16 51 [.lst Ξ (ns.map .int),.lst Ξ [.str m0,.str m1],.int m]=.ok (.tup [Rg,Rs]):=e4;rw[gx 60 TN 1 10 We rfl rfl rfl rfl rfl rfl];unfold We;generalize JI gs=GD,JF salt rest rs al fr=SW,ns.map D.int=NS,RY=tl at *;simp![ei,e1,e2,e3,e4,lT,eg,es,e5,lH,eP,eQ,egg,ess,lr,e7,eP',eQ',e6]
theorem holds (ns:List Int)(h:ns.length<=63):bK T (16+1) EL [.lst Ξ (ns.map .int)]=.ok (.bl Θ):=E9 ns
end Law
namespace PySem.W.Fast
theorem tw7935703691986904861:True:=⟨⟩
theorem tw4618528265116457992:True:=⟨⟩
theorem tw17640138350658793989:True:=⟨⟩
theorem tw3178661817801459000:True:=⟨⟩
theorem tw17854427322512156439:True:=⟨⟩
theorem tw3485657720081692075:True:=⟨⟩
theorem tw3843050315994184810:True:=⟨⟩
theorem tw3054713770797110423:True:=⟨⟩
theorem tw16172188129359550496:True:=⟨⟩
theorem tw5842800743714677468:True:=⟨⟩
theorem tw4261687632634864729:True:=⟨⟩
theorem tw7522723730526970473:True:=⟨⟩
theorem tw2252270942704288722:True:=⟨⟩
theorem tw11255151476031792265:True:=⟨⟩
theorem tw1200327959338601365:True:=⟨⟩
theorem tw3976827394611998033:True:=⟨⟩
theorem tw5839634815935926152:True:=⟨⟩
theorem tw3666582913188777732:True:=⟨⟩
theorem tw9740661167945646326:True:=⟨⟩
theorem tw10707914083944852367:True:=⟨⟩
theorem tw13300985190086331648:True:=⟨⟩
theorem tw15521115412805568673:True:=⟨⟩
theorem tw17947664712830246208:True:=⟨⟩
theorem tw4331760091607131048:True:=⟨⟩
theorem tw17698842543610682926:True:=⟨⟩
theorem tw379116623985156164:True:=⟨⟩
theorem tw14795546896691657005:True:=⟨⟩
theorem tw3342685605699988045:True:=⟨⟩
theorem tw17822825277643743222:True:=⟨⟩
theorem tw1851983211687271869:True:=⟨⟩
theorem tw9217063291313211368:True:=⟨⟩
theorem tw14618376119056781225:True:=⟨⟩
theorem tw7475515701218614338:True:=⟨⟩
theorem tw7693325972945629579:True:=⟨⟩
theorem tw13277495713531448414:True:=⟨⟩
theorem tw16143887825216449499:True:=⟨⟩
theorem tw1454895482274025071:True:=⟨⟩
theorem tw1273524259459714807:True:=⟨⟩
theorem tw2660396662850238592:True:=⟨⟩
theorem tw125077201886436395:True:=⟨⟩
theorem tw4686179694583356124:True:=⟨⟩
theorem tw8915422366760819669:True:=⟨⟩
theorem tw18265836020025210:True:=⟨⟩
theorem tw5682970391858475100:True:=⟨⟩
theorem tw4046801442879977537:True:=⟨⟩
theorem tw5966245282668370283:True:=⟨⟩
theorem tw16105949626698973713:True:=⟨⟩
theorem tw2271944086684759983:True:=⟨⟩
theorem tw10266468542989672336:True:=⟨⟩
theorem tw14762478099200423943:True:=⟨⟩
theorem tw4384106489168331081:True:=⟨⟩
theorem tw8569560160611538769:True:=⟨⟩
theorem tw17866379702428687688:True:=⟨⟩
theorem tw13674196293407061497:True:=⟨⟩
theorem tw16517239751241772397:True:=⟨⟩
theorem tw17648638622521351443:True:=⟨⟩
theorem tw8641794754456740904:True:=⟨⟩
theorem tw11671855341200315839:True:=⟨⟩
theorem tw13303007841476105663:True:=⟨⟩
theorem tw12266487560221347393:True:=⟨⟩
theorem tw8567066345470188192:True:=⟨⟩
theorem tw5536356967795290652:True:=⟨⟩
theorem tw14440420120086765403:True:=⟨⟩
theorem tw16196755024297868890:True:=⟨⟩
theorem tw9557677468647239809:True:=⟨⟩
theorem tw5499304035970938533:True:=⟨⟩
theorem tw16004322170690777843:True:=⟨⟩
theorem tw6753736820388455291:True:=⟨⟩
theorem tw6223243100762665702:True:=⟨⟩
theorem tw13450839563693824635:True:=⟨⟩
theorem tw6877248017498763855:True:=⟨⟩
theorem tw12922297675761989782:True:=⟨⟩
theorem tw9829711615264337696:True:=⟨⟩
theorem tw3219263950155486344:True:=⟨⟩
theorem tw5507409756722207285:True:=⟨⟩
theorem tw1112538448242049032:True:=⟨⟩
theorem tw3496061236096605936:True:=⟨⟩
theorem tw10434174802466837839:True:=⟨⟩
theorem tw17715214615662315832:True:=⟨⟩
theorem tw5323947898822223790:True:=⟨⟩
theorem tw15333028836360138499:True:=⟨⟩
theorem tw9441389530052175143:True:=⟨⟩
theorem tw8330530481790310650:True:=⟨⟩
theorem tw944661777123688534:True:=⟨⟩
theorem tw7304784676162033833:True:=⟨⟩
theorem tw8804117005475041894:True:=⟨⟩
theorem tw14908350952125335408:True:=⟨⟩
theorem tw8044092534267399069:True:=⟨⟩
theorem tw16283429291575537525:True:=⟨⟩
theorem tw18251317370660280763:True:=⟨⟩
theorem tw13601130791809542197:True:=⟨⟩
theorem tw1270509149437677100:True:=⟨⟩
theorem tw14045947672781736539:True:=⟨⟩
theorem tw5466606384422533445:True:=⟨⟩
theorem tw3825256607701943561:True:=⟨⟩
theorem tw8340027138747467799:True:=⟨⟩
theorem tw17483474095343495055:True:=⟨⟩
theorem tw15129571901041195513:True:=⟨⟩
theorem tw18425786090674948301:True:=⟨⟩
theorem tw10897161339839975194:True:=⟨⟩
theorem tw909175402135851718:True:=⟨⟩
theorem tw16290891619714473384:True:=⟨⟩
theorem tw1945183107371160708:True:=⟨⟩
theorem tw8708665442903641081:True:=⟨⟩
theorem tw18233002496968686492:True:=⟨⟩
theorem tw17616057939443982881:True:=⟨⟩
theorem tw16738660927791570280:True:=⟨⟩
theorem tw15285545210917286065:True:=⟨⟩
theorem tw14914752471197431351:True:=⟨⟩
theorem tw15549769185859004785:True:=⟨⟩
theorem tw9030365060326000954:True:=⟨⟩
theorem tw4303786700757157629:True:=⟨⟩
theorem tw13562154133219260454:True:=⟨⟩
theorem tw9565282080657762444:True:=⟨⟩
theorem tw1963101758741892229:True:=⟨⟩
theorem tw16723180077480265177:True:=⟨⟩
theorem tw7098022544077670268:True:=⟨⟩
theorem tw18102231933162961681:True:=⟨⟩
theorem tw14221240480127600529:True:=⟨⟩
theorem tw10519450510181360976:True:=⟨⟩
theorem tw641056834035959435:True:=⟨⟩
theorem tw14230046620383835372:True:=⟨⟩
theorem tw13396195402830993811:True:=⟨⟩
theorem tw8436124969126670102:True:=⟨⟩
theorem tw4379301521585976634:True:=⟨⟩
theorem tw13448124909537276285:True:=⟨⟩
theorem tw8477157981358496308:True:=⟨⟩
theorem tw8063788893886484838:True:=⟨⟩
theorem tw7349405651849992015:True:=⟨⟩
theorem tw7025522449783874009:True:=⟨⟩
end PySem.W.Fast
open PySem PySem.W PyProof.Rows
set_option maxRecDepth 100000 in
set_option maxHeartbeats 0 in
theorem PySem.Challenge.cw_flagroll_k49_faces_counted_holds : PySem.Challenge.rw_flagroll_k49_faces_counted.Holds := by
  w_on; o_law; k_head; (case hw =>w_witness2)
  k_fill
  refine L2.yn (l :=PySem.Challenge.rw_flagroll_k49_faces_counted) (T :=Law.T) (n :=16) (f :=Law.EL) (x :=Law.Bn) rfl rfl ⟨fun _ =>rfl,by decide,by decide⟩ (fun w h Y =>PySem.W.kIn_of Y) ?F Law.holds
  case F =>
    intro w mg fa h KX G hmg
    refine' Law.all_mk KX G hmg (Law.dfo Law.c22 rfl (fun _ _ _ _ _ _ =>Law.ln1 fun _ =>rfl) KX G ?a22 ?l22 ?e22 ?k22) (Law.dfo Law.c23 rfl (fun _ _ _ _ _ _ =>Law.ln2 fun _ _ =>rfl) KX G ?a23 ?l23 ?e23 ?k23) (Law.dfo Law.c24 rfl (fun _ _ _ _ _ _ =>Law.ln2 fun _ _ =>rfl) KX G ?a24 ?l24 ?e24 ?k24) (Law.dfo Law.c25 rfl (fun _ _ _ _ _ _ =>Law.ln2 fun _ _ =>rfl) KX G ?a25 ?l25 ?e25 ?k25) (Law.dfo Law.c26 rfl (fun _ _ _ _ _ _ =>Law.ln3 fun _ _ _ =>rfl) KX G ?a26 ?l26 ?e26 ?k26) (Law.dfo Law.c27 rfl (fun _ _ _ _ _ _ =>Law.ln3 fun _ _ _ =>rfl) KX G ?a27 ?l27 ?e27 ?k27) (Law.dfo Law.c28 rfl (fun _ _ _ _ _ _ =>Law.ln3 fun _ _ _ =>rfl) KX G ?a28 ?l28 ?e28 ?k28) (Law.dfo Law.c29 rfl (fun _ _ _ _ _ _ =>Law.ln3 fun _ _ _ =>rfl) KX G ?a29 ?l29 ?e29 ?k29) (Law.dfo Law.c30 rfl (fun _ _ _ _ _ _ =>Law.ln3 fun _ _ _ =>rfl) KX G ?a30 ?l30 ?e30 ?k30) (Law.dfo Law.c31 rfl (fun _ _ _ _ _ _ =>Law.ln2 fun _ _ =>rfl) KX G ?a31 ?l31 ?e31 ?k31) (Law.dfo Law.c32 rfl (fun _ _ _ _ _ _ =>Law.ln4 fun _ _ _ _ =>rfl) KX G ?a32 ?l32 ?e32 ?k32) (Law.dfo Law.c33 rfl (fun _ _ _ _ _ _ =>Law.ln3 fun _ _ _ =>rfl) KX G ?a33 ?l33 ?e33 ?k33) (Law.dfo Law.c34 rfl (fun _ _ _ _ _ _ =>Law.ln4 fun _ _ _ _ =>rfl) KX G ?a34 ?l34 ?e34 ?k34) (Law.dfo Law.c35 rfl (fun _ _ _ _ _ _ =>Law.ln2 fun _ _ =>rfl) KX G ?a35 ?l35 ?e35 ?k35) (Law.dfo Law.c36 rfl (fun _ _ _ _ _ _ =>Law.ln1 fun _ =>rfl) KX G ?a36 ?l36 ?e36 ?k36) (Law.dfo Law.c37 rfl (fun _ _ _ _ _ _ =>Law.ln5 fun _ _ _ _ _ =>rfl) KX G ?a37 ?l37 ?e37 ?k37) (Law.dfo Law.c38 rfl (fun _ _ _ _ _ _ =>Law.ln4 fun _ _ _ _ =>rfl) KX G ?a38 ?l38 ?e38 ?k38) (Law.dfo Law.c39 rfl (fun _ _ _ _ _ _ =>Law.ln3 fun _ _ _ =>rfl) KX G ?a39 ?l39 ?e39 ?k39) (Law.dfo Law.c40 rfl (fun _ _ _ _ _ _ =>Law.ln3 fun _ _ _ =>rfl) KX G ?a40 ?l40 ?e40 ?k40) (Law.dfo Law.c41 rfl (fun _ _ _ _ _ _ =>Law.ln2 fun _ _ =>rfl) KX G ?a41 ?l41 ?e41 ?k41) (Law.dfo Law.c42 rfl (fun _ _ _ _ _ _ =>Law.ln2 fun _ _ =>rfl) KX G ?a42 ?l42 ?e42 ?k42) (Law.dfo Law.c43 rfl (fun _ _ _ _ _ _ =>Law.ln2 fun _ _ =>rfl) KX G ?a43 ?l43 ?e43 ?k43) (Law.dfo Law.c44 rfl (fun _ _ _ _ _ _ =>Law.ln1 fun _ =>rfl) KX G ?a44 ?l44 ?e44 ?k44) (Law.dfo Law.c45 rfl (fun _ _ _ _ _ _ =>Law.ln6 fun _ _ _ _ _ _ =>rfl) KX G ?a45 ?l45 ?e45 ?k45) (Law.dfo Law.c46 rfl (fun _ _ _ _ _ _ =>Law.ln5 fun _ _ _ _ _ =>rfl) KX G ?a46 ?l46 ?e46 ?k46) (Law.dfo Law.c47 rfl (fun _ _ _ _ _ _ =>Law.ln4 fun _ _ _ _ =>rfl) KX G ?a47 ?l47 ?e47 ?k47) (Law.dfo Law.c48 rfl (fun _ _ _ _ _ _ =>Law.ln4 fun _ _ _ _ =>rfl) KX G ?a48 ?l48 ?e48 ?k48) (Law.dfo Law.c49 rfl (fun _ _ _ _ _ _ =>Law.ln1 fun _ =>rfl) KX G ?a49 ?l49 ?e49 ?k49) (Law.dfo Law.c50 rfl (fun _ _ _ _ _ _ =>Law.ln1 fun _ =>rfl) KX G ?a50 ?l50 ?e50 ?k50) (Law.dfo Law.c51 rfl (fun _ _ _ _ _ _ =>Law.ln3 fun _ _ _ =>rfl) KX G ?a51 ?l51 ?e51 ?k51) (Law.dfo Law.c52 rfl (fun _ _ _ _ _ _ =>Law.ln2 fun _ _ =>rfl) KX G ?a52 ?l52 ?e52 ?k52) (Law.dfo Law.c53 rfl (fun _ _ _ _ _ _ =>Law.ln3 fun _ _ _ =>rfl) KX G ?a53 ?l53 ?e53 ?k53) (Law.dfo Law.c54 rfl (fun _ _ _ _ _ _ =>Law.ln2 fun _ _ =>rfl) KX G ?a54 ?l54 ?e54 ?k54) (Law.dfo Law.c55 rfl (fun _ _ _ _ _ _ =>Law.ln4 fun _ _ _ _ =>rfl) KX G ?a55 ?l55 ?e55 ?k55) (Law.dfo Law.c56 rfl (fun _ _ _ _ _ _ =>Law.ln2 fun _ _ =>rfl) KX G ?a56 ?l56 ?e56 ?k56) (Law.dfo Law.c57 rfl (fun _ _ _ _ _ _ =>Law.ln1 fun _ =>rfl) KX G ?a57 ?l57 ?e57 ?k57) (Law.dfo Law.c58 rfl (fun _ _ _ _ _ _ =>Law.ln5 fun _ _ _ _ _ =>rfl) KX G ?a58 ?l58 ?e58 ?k58) (Law.dfo Law.c59 rfl (fun _ _ _ _ _ _ =>Law.ln4 fun _ _ _ _ =>rfl) KX G ?a59 ?l59 ?e59 ?k59) ?a60 ?l60 ?e60 ?k60 ?q21 ?z0 ?z1 ?z2 ?z3 ?z4 ?z5 ?z6 ?z7 ?z8 ?z9 ?z10 ?z11 ?z12 ?z13 ?z14 ?z15 ?z16 ?z17 ?z18 ?z19 ?z20
    (case a22|l22|e22|k22|a23|l23|e23|k23|a24|l24|e24|k24|a25|l25|e25|k25|a26|l26|e26|k26|a27|l27|e27|k27|a28|l28|e28|k28|a29|l29|e29|k29|a30|l30|e30|k30|a31|l31|e31|k31|a32|l32|e32|k32|a33|l33|e33|k33|a34|l34|e34|k34|a35|l35|e35|k35|a36|l36|e36|k36|a37|l37|e37|k37|a38|l38|e38|k38|a39|l39|e39|k39|a40|l40|e40|k40|a41|l41|e41|k41|a42|l42|e42|k42|a43|l43|e43|k43|a44|l44|e44|k44|a45|l45|e45|k45|a46|l46|e46|k46|a47|l47|e47|k47|a48|l48|e48|k48|a49|l49|e49|k49|a50|l50|e50|k50|a51|l51|e51|k51|a52|l52|e52|k52|a53|l53|e53|k53|a54|l54|e54|k54|a55|l55|e55|k55|a56|l56|e56|k56|a57|l57|e57|k57|a58|l58|e58|k58|a59|l59|e59|k59|a60|l60|e60|k60|q21|z0|z1|z2|z3|z4|z5|z6|z7|z8|z9|z10|z11|z12|z13|z14|z15|z16|z17|z18|z19|z20=>k_is)
#print axioms PySem.Challenge.cw_flagroll_k49_faces_counted_holds
