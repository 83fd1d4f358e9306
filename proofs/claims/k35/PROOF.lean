import PyProof.Rows.All
import Wide.All
import OpenK.AllK
import Wide.FinOn
import Lean
import PyProof.EqAt
import PyProof.EqKinds
import PyProof.TupleCall
import PyProof.NeKinds
import KE.KRevIter
import KE.KSortTup
import Wide.Txt2
import PyProof.FString4
import KE.KIntText
import PyProof.ZipIter
import PyProof.TupleIter
import PyProof.WalksMore
import PyProof.Rows.SortShell
import KE.KDictSum
import PyProof.Rows.SortStr
import PyProof.Rows.SetFrom
import PyProof.FactsAll.subtypes_4
import PyProof.DictUpdate
import KE.KDictOf
import PyProof.AttrMissSeq
import KE.KDictList
import KE.KDictIter
import PyProof.Rows.SortWalk
import PyProof.EnumMake
import PyProof.EnumFor
import PyProof.Rows.EnumRows
import PyProof.MeetsSeq
import PyProof.ListRange
import KE.KIsAll
import PyProof.ExcArgsOwn
import PyProof.ExcAttrAll.ValueError
import OpenK.KDescr
import PyProof.ExcInit
import PyProof.ExcClass2
import PyProof.InstStoreFacts
import PyProof.StationsW
import OpenK.KMake
import OpenK.KOwn
import KE.KTryMore
import OpenK.KRaise
import PyProof.RulesDel
import PyProof.RulesAs
import PyProof.Rows.Catch
import PySem.Challenge.RW_flagroll_k35_houses_let_by
open PySem.W (Frag)
theorem a_:type_of% @PySem.wpAny_bind:=@PySem.wpAny_bind
theorem b_:type_of% @List.map_cons:=@List.map_cons
theorem c_:type_of% @List.cons_append:=@List.cons_append
theorem d_:type_of% @if_neg:=@if_neg
theorem e_:type_of% @PySem.wpAny_pure:=@PySem.wpAny_pure
theorem f_:type_of% @if_pos:=@if_pos
theorem g_:type_of% @List.length_map:=@List.length_map
theorem h_:type_of% @Bool.and_eq_true:=@Bool.and_eq_true
theorem i_:type_of% @LawfulBEq.eq_of_beq:=@LawfulBEq.eq_of_beq
theorem j_:type_of% @PySem.Heap.lt_size:=@PySem.Heap.lt_size
theorem k_:type_of% @List.mem_cons:=@List.mem_cons
theorem l_:type_of% @PySem.Heap.get?_push_of_some:=@PySem.Heap.get?_push_of_some
theorem m_:type_of% @Nat.ne_of_lt:=@Nat.ne_of_lt
theorem n_:type_of% @Nat.le_refl:=@Nat.le_refl
theorem o_:type_of% @List.mem_singleton:=@List.mem_singleton
theorem p_:type_of% @List.getElem?_eq_some_iff:=@List.getElem?_eq_some_iff
theorem q_:type_of% @of_decide_eq_true:=@of_decide_eq_true
theorem r_:type_of% @List.nodup_append:=@List.nodup_append
theorem s_:type_of% @List.mem_append:=@List.mem_append
theorem t_:type_of% @List.mem_append_left:=@List.mem_append_left
theorem u_:type_of% @decide_eq_true:=@decide_eq_true
theorem v_:type_of% @List.mem_append_right:=@List.mem_append_right
theorem w_:type_of% @List.length_append:=@List.length_append
theorem x_:type_of% @List.getElem?_eq_getElem:=@List.getElem?_eq_getElem
theorem y_:type_of% @List.map_map:=@List.map_map
theorem z_:type_of% @PySem.Heap.get?_push_size:=@PySem.Heap.get?_push_size
theorem A_:type_of% @List.getElem?_map:=@List.getElem?_map
theorem B_:type_of% @Bool.false_ne_true:=@Bool.false_ne_true
theorem C_:type_of% @List.map_append:=@List.map_append
theorem D_:type_of% @Bool.and_eq_true_iff:=@Bool.and_eq_true_iff
theorem E_:type_of% @List.size_toArray:=@List.size_toArray
theorem F_:type_of% @Nat.lt_of_lt_of_le:=@Nat.lt_of_lt_of_le
theorem G_:type_of% @decide_eq_false:=@decide_eq_false
theorem H_:type_of% @List.append_assoc:=@List.append_assoc
theorem I_:type_of% @Option.some.inj:=@Option.some.inj
theorem J_:type_of% @List.mem_of_getElem?:=@List.mem_of_getElem?
theorem K_:type_of% @List.mem_cons_of_mem:=@List.mem_cons_of_mem
theorem L_:type_of% @List.nodup_cons:=@List.nodup_cons
theorem M_:type_of% @PySem.W.mg_none_of:=@PySem.W.mg_none_of
theorem N_:type_of% @PySem.wpAny_holding:=@PySem.wpAny_holding
theorem O_:type_of% @List.length_take:=@List.length_take
theorem P_:type_of% @PySem.wpAny_field:=@PySem.wpAny_field
theorem Q_:type_of% @Nat.le_trans:=@Nat.le_trans
theorem R_:type_of% @List.length_singleton:=@List.length_singleton
theorem S_:type_of% @List.not_mem_nil:=@List.not_mem_nil
theorem T_:type_of% @Array.length_toList:=@Array.length_toList
theorem U_:type_of% @Nat.ne_of_gt:=@Nat.ne_of_gt
theorem V_:type_of% @PySem.Heap.size_push:=@PySem.Heap.size_push
theorem W_:type_of% @List.all_eq_true:=@List.all_eq_true
theorem X_:type_of% @List.map_congr_left:=@List.map_congr_left
theorem Y_:type_of% @List.mem_range:=@List.mem_range
theorem Z_:type_of% @Nat.zero_le:=@Nat.zero_le
theorem aaa:type_of% @List.getD_eq_getElem?_getD:=@List.getD_eq_getElem?_getD
theorem aab:type_of% @Nat.lt_irrefl:=@Nat.lt_irrefl
theorem aad:type_of% @PySem.wpAny_seqItems:=@PySem.wpAny_seqItems
theorem aae:type_of% @List.length_range:=@List.length_range
theorem aaf:type_of% @Bool.or_eq_true:=@Bool.or_eq_true
theorem aag:type_of% @Option.map_eq_some_iff:=@Option.map_eq_some_iff
theorem aah:type_of% @PySem.wpAny_call_entry:=@PySem.wpAny_call_entry
theorem aai:type_of% @PySem.wpAny_setField_rec:=@PySem.wpAny_setField_rec
theorem aaj:type_of% @List.getElem_mem:=@List.getElem_mem
theorem aak:type_of% @Int.toNat_natCast:=@Int.toNat_natCast
theorem aal:type_of% @List.append_nil:=@List.append_nil
theorem aam:type_of% @List.length_drop:=@List.length_drop
theorem aan:type_of% @PySem.Heap.get?_update_other:=@PySem.Heap.get?_update_other
theorem aao:type_of% @PyProof.Rows.callWith_type1:=@PyProof.Rows.callWith_type1
theorem aap:type_of% @Array.getElem?_toList:=@Array.getElem?_toList
theorem aaq:type_of% @Nat.le_add_right:=@Nat.le_add_right
theorem aar:type_of% @List.mem_iff_getElem?:=@List.mem_iff_getElem?
theorem aas:type_of% @List.getElem?_set_ne:=@List.getElem?_set_ne
theorem aat:type_of% @List.getElem?_append_left:=@List.getElem?_append_left
theorem aau:type_of% @PySem.wpAny_Call_Name_kw:=@PySem.wpAny_Call_Name_kw
theorem aav:type_of% @PySem.Heap.get?_update_self:=@PySem.Heap.get?_update_self
theorem aaw:type_of% @PySem.wpAny_newObj_type:=@PySem.wpAny_newObj_type
theorem aax:type_of% @Bool.false_eq_true:=@Bool.false_eq_true
theorem aaz:type_of% @PySem.wpAny_pyIter_list:=@PySem.wpAny_pyIter_list
theorem aaA:type_of% @List.Perm.append_left:=@List.Perm.append_left
theorem aaB:type_of% @List.perm_append_comm:=@List.perm_append_comm
theorem aaC:type_of% @List.singleton_append:=@List.singleton_append
theorem aaD:type_of% @PySem.Heap.SameBut.update:=@PySem.Heap.SameBut.update
theorem aaE:type_of% @List.lookup_cons:=@List.lookup_cons
theorem aaF:type_of% @List.mem_cons_self:=@List.mem_cons_self
theorem aaG:type_of% @PySem.Around.under_plainId:=@PySem.Around.under_plainId
theorem aaH:type_of% @List.getElem?_append_right:=@List.getElem?_append_right
theorem aaI:type_of% @List.getElem?_cons_succ:=@List.getElem?_cons_succ
open Option renaming some → Δ
open Bool renaming true → Θ
open Bool renaming false → Ξ
open Option renaming none → Φ
open PySem renaming Value → Ψ
open PySem renaming Addr → Ω
open PySem renaming Shared → Α
open PySem renaming World → Β
open PySem renaming Program → Ε
open PySem renaming sizeLine → Ζ
open PySem renaming mainGlobals → Η
open PySem renaming Around → Ι
open PySem renaming wpAny → Κ
open PySem renaming model → Μ
open PySem renaming starEach → Ν
open PySem renaming FuncData → Ο
open PySem.Str renaming ofString → Ρ
open List renaming replicate → Τ
open PySem.NameKind renaming free → Υ
open PySem.Builtin.List renaming listExtendWith → Χ
open PySem.Builtin.SmallTypes renaming nextOf → ζ
open PySem.Builtin.SmallTypes renaming ownedTupleIsFree → η
open PySem.Value renaming ref → θ
open PySem.Obj renaming mapSeq → ι
namespace L2
theorem zE:type_of% @PySem.Expr.casesOn.{0}:=@PySem.Expr.casesOn.{0}
theorem zS:type_of% @PySem.Stmt.casesOn.{0}:=@PySem.Stmt.casesOn.{0}
theorem zL:type_of% @List.casesOn.{0,0}:=@List.casesOn.{0,0}
theorem zO:type_of% @Option.casesOn.{0,0}:=@Option.casesOn.{0,0}
theorem zB:type_of% @Bool.casesOn.{0}:=@Bool.casesOn.{0}
end L2
set_option maxHeartbeats 8000000
set_option Elab.async false
set_option linter.all false
set_option maxRecDepth 100000
namespace L2
open PySem PySem.Spec PyProof.Rows
abbrev Key:=Sum Int Str
noncomputable def nO:Key->Ψ->Bool
 |.inl k,v=>Value.isInt k v
 |.inr x,v=>Value.isStrOf x v
noncomputable def Gw (w:Β):Key->Int
 |.inl k=>hashInt k
 |.inr x=>hashStr w x
theorem iC:∀ {k:Key}{v:Ψ},nO k v=Θ->(∃i t,k=Sum.inl i/\v=Value.int i t)∨(∃x t,k=Sum.inr x/\v=Value.str x t)
 |.inl i,v,h=>by obtain⟨t,e⟩:=Value.isInt_shape (k:=i) (v:=v) h;exact .inl ⟨i,t,rfl,e⟩
 |.inr x,v,h=>by obtain⟨t,e⟩:=Value.isStrOf_shape (x:=x) (v:=v) h;exact .inr ⟨x,t,rfl,e⟩
theorem ui (i:Int)(t:Tok):nO (.inl i) (.int i t)=Θ:=by simp[nO,Value.isInt]
theorem uj (x:Str)(t:Tok):nO (.inr x) (.str x t)=Θ:=by simp[nO,Value.isStrOf]
theorem BK (a b:Int):decide ((Sum.inl a:Key)=Sum.inl b)=(a == b):=by
 by_cases e:a=b
 ·subst e;simp
 ·have h:¬(Sum.inl a:Key)=Sum.inl b:=fun q=>e (Sum.inl.inj q);rw[G_ h];exact(beq_eq_false_iff_ne.mpr e).symm
theorem BL (a b:Str):decide ((Sum.inr a:Key)=Sum.inr b)=decide (a=b):=by
 by_cases e:a=b
 ·subst e;simp
 ·have h:¬(Sum.inr a:Key)=Sum.inr b:=fun q=>e (Sum.inr.inj q);rw[G_ h,G_ e]
theorem BM (a:Int)(b:Str):decide ((Sum.inl a:Key)=Sum.inr b)=Ξ:=G_ (fun q=>nomatch q)
theorem BN (a:Str)(b:Int):decide ((Sum.inr a:Key)=Sum.inl b)=Ξ:=G_ (fun q=>nomatch q)
noncomputable def iJ (prog:Ε)(w:Β):PySem.KeyKind prog w Key where
 is:=nO
 hash:=Gw w
 inj:=fun v a b ha hb=>by
  rcases iC ha with⟨i,t,rfl,rfl⟩|⟨x,t,rfl,rfl⟩
  ·rcases iC hb with⟨j,u,rfl,e⟩|⟨y,u,rfl,e⟩
   ·injection e with e1 _;rw[e1]
   ·exact nomatch e
  ·rcases iC hb with⟨j,u,rfl,e⟩|⟨y,u,rfl,e⟩
   ·exact nomatch e
   ·injection e with e1 _;rw[e1]
 byValue:=fun k v h=>by rcases iC h with⟨i,t,rfl,rfl⟩|⟨x,t,rfl,rfl⟩<;>rfl
 pyHash:=fun hv h=>by
  rcases iC hv with⟨i,t,rfl,rfl⟩|⟨x,t,rfl,rfl⟩
  ·exact wpAny_pyHash_int h
  ·exact wpAny_pyHash_str h
 eqBool:=fun hu hv h=>by
  rcases iC hu with⟨i,t,rfl,rfl⟩|⟨x,t,rfl,rfl⟩
  ·rcases iC hv with⟨j,u,rfl,rfl⟩|⟨y,u,rfl,rfl⟩
   ·rw[BK]at h;exact wpAny_eqBool_int h
   ·rw[BM]at h;exact SeqAt.EqAt.int_str i t y u _ _ _ _ h
  ·rcases iC hv with⟨j,u,rfl,rfl⟩|⟨y,u,rfl,rfl⟩
   ·rw[BN]at h;exact SeqAt.EqAt.str_int x t j u _ _ _ _ h
   ·rw[BL]at h;exact wpAny_eqBool_str h
 «strs»:=fun k x t v h=>by
  rcases iC h with⟨i,u,rfl,e⟩|⟨y,u,rfl,e⟩
  ·exact nomatch e
  ·injection e with e1 _;subst e1;cases v<;>rfl
theorem pL (prog:Ε)(w:Β)(i:Int)(t:Tok):(iJ prog w).is (.inl i) (.int i t)=Θ:=ui i t
theorem pM (prog:Ε)(w:Β)(x:Str)(t:Tok):(iJ prog w).is (.inr x) (.str x t)=Θ:=uj x t
inductive V where
 | IB|bl (b:Bool)|int (i:Int)|str (x:Str)|Qv (b:Array UInt8)|Us (b:UInt64)|ref (a:Ω)|ty (n:String)
 deriving DecidableEq
def RelV:V->Ψ->Prop
 |.IB,u=>u=Value.none
 |.bl b,u=>u=Value.bool b
 |.int i,u=>∃t,u=Value.int i t
 |.str x,u=>∃t,u=Value.str x t
 |.Qv b,u=>∃t,u=Value.bytes b t
 |.Us b,u=>∃t,u=Value.float b t
 |.ref a,u=>u=θ a
 |.ty n,u=>u=Value.type n
abbrev Vals:List V->List Ψ->Prop:=Paired RelV
theorem Vals.length (r:Vals xs us):xs.length=us.length:=Paired.length r
theorem Vals.get:∀ {xs:List V}{us:List Ψ}{i:Nat}{x:V},Vals xs us->xs[i]? = Δ x->∃u,us[i]? = Δ u/\RelV x u
 |_,_,_,_,.nil,e=>by simp at e
 |_,_,0,_,.cons r _,e=>by simp at e;subst e;exact⟨_,rfl,r⟩
 |_,_,i+1,x,.cons _ t,e=>by obtain⟨u,h1,h2⟩:=Vals.get (i:=i) (x:=x) t (by simpa using e);exact⟨u,by simpa using h1,h2⟩
theorem Vals.set (r:RelV x u):∀ {xs:List V}{us:List Ψ} (i:Nat),Vals xs us->Vals (xs.set i x) (us.set i u)
 |_,_,_,.nil=>.nil
 |_,_,0,.cons _ t=>.cons r t
 |_,_,i+1,.cons q t=>.cons q (Vals.set r i t)
theorem Vals.append:∀ {xs ys:List V}{us ws:List Ψ},Vals xs us->Vals ys ws->Vals (xs++ys) (us++ws)
 |_,_,_,_,.nil,s=>s
 |_,_,_,_,.cons r t,s=>.cons r (Vals.append t s)
theorem Vals.take:∀ {xs:List V}{us:List Ψ} (n:Nat),Vals xs us->Vals (xs.take n) (us.take n)
 |_,_,0,_=>.nil
 |_,_,_+1,.nil=>.nil
 |_,_,n+1,.cons r t=>.cons r (Vals.take n t)
theorem Vals.drop:∀ {xs:List V}{us:List Ψ} (n:Nat),Vals xs us->Vals (xs.drop n) (us.drop n)
 |_,_,0,r=>r
 |_,_,_+1,.nil=>.nil
 |_,_,n+1,.cons _ t=>Vals.drop n t
def nv:Option V->Option Ψ->Prop
 |some v,Δ u=>RelV v u
 |none,Φ=>True
 |_,_=>False
def KV {κ:Type}:List (κ×V)->List (κ×Ψ)->Prop:=Paired fun(p:κ×V) (q:κ×Ψ)=>p.1=q.1/\RelV p.2 q.2
noncomputable def kV:Key->V
 |.inl i=>.int i
 |.inr x=>.str x
inductive HO where
 | lst (xs:List V)
 | tup (xs:List V)
 | dK (kvs:List (Key×V))|dT (kvs:List (List Key×V))
 | set (S:Int->Bool) (n:Nat)
 | ins (C dx:Ω) (fs:List (Str×V))
 | own (x:Ω)
 | xd (fs:List (Str×V))
 | met (f x:Ω)
 | Mg (lo hi:Int)
 | IH (o:Obj) (u:HO)
 | NO (ps:Array Ψ)
 | ext (φ:Heap->Prop)
abbrev Hp:=Ω->Option HO
noncomputable def upd (H:Hp)(a:Ω)(o:HO):Hp:=fun b=>if b=a then Δ o else H b
theorem gZ:upd H a o a=Δ o:=by unfold upd;rw[f_ rfl]
theorem gX (h:b≠a):upd H a o b=H b:=by unfold upd;rw[d_ h]
theorem Ef {H:Hp}{a b:Ω}{o u:HO}(h:H a=Δ o)(h':H b=Δ u)(d:o≠u):a≠b:=by intro e;subst e;rw[h]at h';exact d (I_ h')
theorem iD {H:Hp}{a b:Ω}{o:HO}(h:H a=Δ o)(h':H b=Φ):a≠b:=by intro e;subst e;rw[h]at h';cases h'
section
variable (P:Ε)(w:Β)
def iz (H:Hp)(h:Heap)(a:Ω):HO->Prop
 |.lst xs=>xs.length<=Ζ/\∃(its:List Ψ) (n:Nat),Vals xs its/\h.get? a=Δ {cls:=.type "list",data:=.seq its.toArray n}
 |.tup xs=>xs.length<=Ζ/\∃its:List Ψ,Vals xs its/\IsTup h a its.toArray
 |.dK kvs=>kvs.length<=Ζ/\(a == sysModules)=Ξ/\∃vs,KV kvs vs/\h.DictOf (iJ P w) a vs
 |.dT kvs=>kvs.length<=Ζ/\(a == sysModules)=Ξ/\∃xs:List (List Key×Ω×Ψ),
   Paired (fun(p:List Key×V) (q:List Key×Ω×Ψ)=>p.1=q.1/\H q.2.1=Δ (.tup (p.1.map kV))/\RelV p.2 q.2.2) kvs xs/\
   ∃o es ep,h.get? a=Δ o/\o.ExactDict/\o.data=.dict es ep/\es.toList=xs.map (entryOfKey (tupleKind (iJ P w)))/\(xs.map (·.1)).Nodup
 |.set S n=>h.SetOf (intKind P w) a S n
 |.ins C dx fs=>H dx=Δ (.own a)/\fs.length<=1000/\dx≠a/\h.get? a=Δ (PySem.W.instObj C dx)/\
   ∃mA,h.Ns1 dx mA/\(∀f,nv (fs.lookup f) (mA f))/\PySem.Within mA (fs.map (·.1))
 |.own _=>∃o,h.get? a=Δ o
 |.xd fs=>∃mA,h.Ns1 a mA/\∀f,nv (fs.lookup f) (mA f)
 |.Mg lo hi=>∃t u v,h.get? a=Δ {cls:=.type "range",data:=.fields #[.int lo t,.int hi u,.int 1 v]}
 |.IH o u=>h.get? a=Δ o/\iz H h a u
 |.NO ps=>h.get? a=Δ {cls:=.none,data:=.fields ps}
 |.met f x=>h.get? a=Δ (PySem.W.methodObj (.ref f) (.ref x))
 |.ext φ=>φ h/\(∃o,h.get? a=Δ o)/\∀h1 h2:Heap,φ h1->(∀o,h1.get? a=Δ o->h2.get? a=Δ o)->φ h2
def Ji (H:Hp)(h:Heap):Prop:=∀a o,H a=Δ o->iz P w H h a o
end
section
variable {P:Ε}{w:Β}{H H':Hp}{h h':Heap}{a:Ω}{o:HO}
theorem iz.lt (x:iz P w H h a o):a < h.objs.size:=by
 cases o with
 |lst xs=>obtain⟨_,_,_,_,e⟩:=x;exact j_ e
 |tup xs=>obtain⟨_,_,_,p⟩:=x;exact p.lt
 |dK kvs=>obtain⟨_,_,_,_,o,_,_,e,_⟩:=x;exact j_ e
 |dT kvs=>obtain⟨_,_,_,_,o,_,_,e,_⟩:=x;exact j_ e
 |set S n=>obtain⟨o,_,_,_,e,_⟩:=x;exact j_ e
 |ins C dx fs=>obtain⟨_,_,_,e,_⟩:=x;exact j_ e
 |own y=>obtain⟨_,e⟩:=x;exact j_ e
 |xd fs=>obtain⟨_,⟨_,_,_,e,_⟩,_⟩:=x;exact j_ e
 |Mg lo hi=>obtain⟨_,_,_,e⟩:=x;exact j_ e
 |IH ob u=>obtain⟨e,_⟩:=x;exact j_ e
 |NO ps=>exact j_ (show h.get? a=Δ _ from x)
 |met f y=>exact j_ (show h.get? a=Δ _ from x)
 |ext φ=>obtain⟨_,⟨_,e⟩,_⟩:=x;exact j_ e
theorem Paired.Oi:∀ {l₁:List α}{l₂:List β},Paired F l₁ l₂->(∀a b,F a b->G a b)->Paired G l₁ l₂
 |_,_,.nil,_=>.nil
 |_,_,.cons r t,f=>.cons (f _ _ r) (Paired.Oi t f)
theorem iz.Kf (x:iz P w H h a o)(k:∀b u,(b=a∨H b=Δ (.own a))->h.get? b=Δ u->h'.get? b=Δ u)
  (ho:∀b,H b=Δ (.own a)->H' b=Δ (.own a)) (ht:∀b xs,H b=Δ (.tup xs)->H' b=Δ (.tup xs)):iz P w H' h' a o:=by
 induction o with
 |lst xs=>obtain⟨z,its,n,r,e⟩:=x;exact⟨z,its,n,r,k _ _ (.inl rfl) e⟩
 |tup xs=>obtain⟨z,its,r,ob,e,c⟩:=x;exact⟨z,its,r,ob,k _ _ (.inl rfl) e,c⟩
 |dK kvs=>obtain⟨z,y,vs,r,ob,es,ep,e,c⟩:=x;exact⟨z,y,vs,r,ob,es,ep,k _ _ (.inl rfl) e,c⟩
 |dT kvs=>obtain⟨z,y,xs,r,ob,es,ep,e,c⟩:=x;exact⟨z,y,xs,Paired.Oi r fun p q z=>⟨z.1,ht _ _ z.2.1,z.2.2⟩,ob,es,ep,k _ _ (.inl rfl) e,c⟩
 |set S n=>obtain⟨ob,es,ep,t,e,c⟩:=x;exact⟨ob,es,ep,t,k _ _ (.inl rfl) e,c⟩
 |ins C dx fs=>obtain⟨d,z,ne,e,mA,⟨od,es,ep,e2,c⟩,r⟩:=x;exact⟨ho _ d,z,ne,k _ _ (.inl rfl) e,mA,⟨od,es,ep,k _ _ (.inr d) e2,c⟩,r⟩
 |own y=>obtain⟨ob,e⟩:=x;exact⟨ob,k _ _ (.inl rfl) e⟩
 |xd fs=>obtain⟨mA,⟨od,es,ep,e,c⟩,r⟩:=x;exact⟨mA,⟨od,es,ep,k _ _ (.inl rfl) e,c⟩,r⟩
 |Mg lo hi=>obtain⟨t,u,v,e⟩:=x;exact⟨t,u,v,k _ _ (.inl rfl) e⟩
 |IH ob u ih=>obtain⟨e,q⟩:=x;exact⟨k _ _ (.inl rfl) e,ih q⟩
 |NO ps=>have e:h.get? a=Δ {cls:=.none,data:=.fields ps}:=x;show h'.get? a=Δ {cls:=.none,data:=.fields ps};exact k a _ (.inl rfl) e
 |met f y=>have e:h.get? a=Δ (PySem.W.methodObj (.ref f) (.ref y)):=x;show h'.get? a=Δ (PySem.W.methodObj (.ref f) (.ref y));exact k a _ (.inl rfl) e
 |ext φ=>obtain⟨p,⟨o,e⟩,st⟩:=x;exact⟨st _ _ p fun o q=>k _ _ (.inl rfl) q,⟨o,k _ _ (.inl rfl) e⟩,st⟩
theorem Ji.lt (x:Ji P w H h)(e:H a=Δ o):a < h.objs.size:=(x a o e).lt
theorem Ji.fresh (x:Ji P w H h)(e:h.objs.size<=a):H a=Φ:=by
 cases q:H a with
 |none=>rfl
 |some u=>exact absurd (F_ (x.lt q) e) (aab _)
theorem Ji.kept (x:Ji P w H h)(k:∀b u,h.get? b=Δ u->h'.get? b=Δ u):Ji P w H h':=fun a o e=>
 (x a o e).Kf (fun b u _ q=>k b u q) (fun _ q=>q) fun _ _ q=>q
theorem Ji.laid (x:Ji P w H h)(k:∀b u,h.get? b=Δ u->h'.get? b=Δ u)(hp:h.objs.size<=a)(new:iz P w (upd H a o) h' a o):Ji P w (upd H a o) h':=fun b u e=>by
 have hn:=x.fresh hp;by_cases hb:b=a
 ·subst hb;rw[gZ]at e;cases e;exact new
 ·rw[gX hb]at e;exact(x b u e).Kf (fun c v _ q=>k c v q) (fun c q=>by rw[gX (iD q hn)];exact q) fun c xs q=>by rw[gX (iD q hn)];exact q
end
def Rd (H:Hp)(a:Ω)(u:HO):Prop:=H a=Δ u∨∃o,H a=Δ (.IH o u)
theorem Rd.ok (r:Rd H a u)(x:Ji P w H h):iz P w H h a u:=by
 rcases r with r|⟨o,r⟩
 ·exact x a u r
 ·obtain⟨_,q⟩:=x a _ r;exact q
def Qw:Option HO->Prop
 |some (.lst _)=>True
 |some (.dK _)=>True
 |some (.dT _)=>True
 |some (.set _ _)=>True
 |some (.ins _ _ _)=>True
 |some (.ext _)=>True
 |_=>False
section
variable {P:Ε}{w:Β}{H:Hp}{h h':Heap}{x e:Ω}{o':HO}
theorem Ji.write (ok:Ji P w H h)(mu:Qw (H x))(he:e=x∨H e=Δ (.own x))(k:∀b u,b≠e->h.get? b=Δ u->h'.get? b=Δ u)(PL:∃u,h'.get? e=Δ u)
  (new:iz P w (upd H x o') h' x o'):Ji P w (upd H x o') h':=fun b u q=>by
 have uM:∀c y,H c=Δ (.own y)->c≠x:=fun c y r z=>by subst z;rw[r]at mu;exact mu
 have Ut:∀c xs,H c=Δ (.tup xs)->c≠x:=fun c xs r z=>by subst z;rw[r]at mu;exact mu
 by_cases hb:b=x
 ·subst hb;rw[gZ]at q;cases q;exact new
 ·rw[gX hb]at q;by_cases Oj:b=e
  ·have q':H b=Δ (.own x):=by
    rcases he with z|z
    ·exact absurd (Oj.trans z) hb
    ·rw[Oj];exact z
   rw[q]at q';cases q';obtain⟨v,hv⟩:=PL;exact⟨v,by rw[Oj];exact hv⟩
  ·refine(ok b u q).Kf (fun c v hc r=>k c v ?_ r) (fun c r=>by rw[gX (uM c b r)];exact r) fun c xs r=>by rw[gX (Ut c xs r)];exact r
   rcases hc with rfl|hc
   ·exact Oj
   ·rintro rfl;rcases he with z|z
    ·exact uM c b hc z
    ·rw[hc]at z;cases z;exact hb rfl
end
structure Un (fs ex:List Ω)(H H':Hp)(h h':Heap):Prop where
 keep:∀b o,h.get? b=Δ o->H b=Φ->b∉fs->b∉ex->h'.get? b=Δ o
 slot:∀b o,h.get? b=Δ o->H b=Φ->b∈fs->b∉ex->∃sl,h'.get? b=Δ {o with slots:=sl}
 free:∀b o,h.get? b=Δ o->H b=Φ->b∉ex->H' b=Φ
 there:∀b o,h.get? b=Δ o->b∉ex->∃o',h'.get? b=Δ o'
 JY:∀b xs,H b=Δ (.tup xs)->H' b=Δ (.tup xs)
 JA:∀b o u,H b=Δ (.IH o u)->H' b=Δ (.IH o u)
 KH:∀b ps,H b=Δ (.NO ps)->∃more,H' b=Δ (.NO (ps++more))
section
variable {fs fs' ex XM:List Ω}{H H1 H2:Hp}{h h1 h2 h':Heap}{a x e:Ω}{o:HO}
theorem Un.any (u:Un fs ex H H1 h h1)  (q:h.get? b=Δ ob)(n:H b=Φ)(hx:b∉ex):∃sl,h1.get? b=Δ {ob with slots:=sl}:=by
 by_cases hb:b∈fs
 ·exact u.slot b ob q n hb hx
 ·exact⟨ob.slots,u.keep b ob q n hb hx⟩
theorem Un.kept (k:∀b u,h.get? b=Δ u->h'.get? b=Δ u):Un fs ex H H h h':=
 ⟨fun b ob q _ _ _=>k b ob q,fun b ob q _ _ _=>⟨ob.slots,k b ob q⟩,fun _ _ _ n _=>n,fun b ob q _=>⟨ob,k b ob q⟩,fun _ _ q=>q,fun _ _ _ q=>q,fun _ ps q=>⟨#[],by rw[q];simp⟩⟩
theorem Un.refl:Un fs ex H H h h:=Un.kept fun _ _ q=>q
theorem Un.laid (k:∀b u,h.get? b=Δ u->h'.get? b=Δ u)(hp:h.objs.size<=a)(hn:H a=Φ):Un fs ex H (upd H a o) h h' where
 keep:=fun b u q _ _ _=>k b u q
 slot:=fun b u q _ _ _=>⟨u.slots,k b u q⟩
 free:=fun b u q n _=>by rw[gX (m_ (F_ (j_ q) hp))];exact n
 there:=fun b u q _=>⟨u,k b u q⟩
 JY:=fun b xs q=>by rw[gX (iD q hn)];exact q
 JA:=fun b u xs q=>by rw[gX (iD q hn)];exact q
 KH:=fun b ps q=>⟨#[],by rw[gX (iD q hn),q];simp⟩
theorem Un.write (mu:Qw (H x))(he:e=x∨H e=Δ (.own x))(k:∀b u,b≠e->h.get? b=Δ u->h'.get? b=Δ u)(PL:∃u,h'.get? e=Δ u):Un fs ex H (upd H x o) h h':=by
 have hx:∀b,H b=Φ->b≠x:=fun b n z=>by subst z;rw[n]at mu;exact mu
 have hb:∀b,H b=Φ->b≠e:=fun b n z=>by
  subst z;rcases he with r|r
  ·exact hx b n r
  ·rw[n]at r;cases r
 have hm:∀b u,H b=Δ u->¬Qw (Δ u)->b≠x:=fun b u q nm z=>by subst z;rw[q]at mu;exact nm mu
 refine⟨fun b u q n _ _=>k b u (hb b n) q,fun b u q n _ _=>⟨u.slots,k b u (hb b n) q⟩,fun b u q n _=>by rw[gX (hx b n)];exact n,fun b u q _=>?_,
  fun b xs q=>by rw[gX (hm b _ q fun z=>z)];exact q,fun b u xs q=>by rw[gX (hm b _ q fun z=>z)];exact q,fun b ps q=>⟨#[],by rw[gX (hm b _ q fun z=>z),q];simp⟩⟩
 by_cases Oj:b=e
 ·subst Oj;exact PL
 ·exact⟨u,k b u Oj q⟩
end
noncomputable def S5 (h:Heap)(H:Hp):List Ω:=(List.range h.objs.size).filter fun a=>(H a).isSome
noncomputable def oG (h:Heap)(H:Hp):Heap:=PySem.W.hideAll h (S5 h H)
theorem uk (h:Heap)(H:Hp):(oG h H).objs.size=h.objs.size:=PySem.W.hideAll_size _ _
theorem uZ (e:h.get? b=Δ o)(n:H b=Φ):(oG h H).get? b=Δ o:=
 PySem.W.hideAll_get _ e fun hm=>by have q:(H b).isSome=Θ:=(List.mem_filter.mp hm).2;rw[n]at q;simp at q
theorem yL (e:(oG h H).get? b=Δ o):h.get? b=Δ o/\H b=Φ:=by
 have e':h.get? b=Δ o:=PySem.W.of_hideAll (S5 h H) e;refine⟨e',?_⟩;cases q:H b with
 |none=>rfl
 |some x=>have hm:b∈S5 h H:=List.mem_filter.mpr ⟨Y_.mpr (j_ e'),by simp[q]⟩;have z:(oG h H).get? b=Φ:=PySem.W.hideAll_none (S5 h H) hm;rw[z]at e;cases e
structure Mod (K:Frag)(mg:Str->Option Ψ)(base:Heap):Prop where
 S6:K.In base
 glob:base.Ns Η mg
 blt:∃mb,base.Ns builtinsNs mb/\∀x:Str,x≠"__name__"->mb x=bootBuiltins x
 nolimit:base.NoLimit
structure Cx where
 prog:Ε
 w:Β
 K:Frag
 mg:Str->Option Ψ
 base:Heap
 A:Ι
 N:List Str
 IY:Α
 LZ:Hp
 env:Env
 outer:List Env
 stack:List Env
 ex:List Ω
 fn:Str->Bool
 calm:Bool
 pn:List (Ω×Obj)
 xe:Ψ->Α->Prop
noncomputable def Kg (l:List Env):List Ω:=l.filterMap (·.frame)
noncomputable abbrev Cx.fs (X:Cx):List Ω:=Kg X.outer
def Qx (sc:Scope)(x:Str):Prop:=sc.names.lookup x=Δ .local∨sc.names.lookup x=Δ .cell∨sc.names.lookup x=Δ .free
def Loc (sc:Scope)(x:Str):Prop:=sc.names.lookup x=Δ .local∨sc.names.lookup x=Δ .cell
def Look (env:Env)(h:Heap)(m:Str->Option Ψ)(x:Str)(u:Ψ):Prop:=
 (env.kindOf x=Δ .local/\m x=Δ u)∨((env.kindOf x=Δ .cell∨env.kindOf x=Δ .free)/\∃c,env.cells.lookup x=Δ c/\h.IsCell c (Δ u))
structure Cx.Ok (X:Cx):Prop where
 mod:Mod X.K X.mg X.base
 kind:X.env.scope.kind=.function
 glob:X.env.globals=Η
 blt:X.env.builtins=builtinsNs
 above:X.IY.heap.objs.size<=X.env.locals
 inj:∀x y c,X.env.cells.lookup x=Δ c->X.env.cells.lookup y=Δ c->x=y
 has:∀x,(X.env.kindOf x=Δ .cell∨X.env.kindOf x=Δ .free)->∃c,X.env.cells.lookup x=Δ c
 S7:∀x c,X.fn x=Θ->X.env.cells.lookup x=Δ c->X.IY.heap.objs.size<=c
 hd:X.calm=Θ->X.A.handled=Φ
 frames:X.A.frames=Δ X.stack
 Ir:X.stack=X.outer∨(X.stack=X.env::X.outer/\X.env.frame=Δ X.env.locals)
 Uu:∀b∈X.ex,b≠X.env.locals/\∀x c,X.env.cells.lookup x=Δ c->c≠b
 bs:∀b o,X.base.get? b=Δ o->X.IY.heap.get? b=Δ o/\X.LZ b=Φ
 Na:X.base.objs.size<=X.IY.heap.objs.size
 Nc:∀b o,X.base.get? b=Δ o->b∉X.ex
 Nd:∀b∈X.ex,b∉X.fs
 JZ:X.IY.heap.FunFrames X.base X.outer
 MQ:∀b∈X.fs,X.LZ b=Φ
structure Inv (X:Cx)(pins:List (Ω×Obj))(σ:List (Option V))(H:Hp)(s:Α):Prop where
 ok:X.Ok
 os:s.os=X.IY.os
 bare:AllBare s.gens
 base:Un X.fs X.ex X.LZ H X.IY.heap s.heap
 loc:∃m,s.heap.Ns X.env.locals m/\∀(i:Nat) (x:Str) (v:V),X.N[i]? = Δ x->σ[i]? = Δ (Δ v)->Qx X.env.scope x->∃u,RelV v u/\Look X.env s.heap m x u
 cell:∀x c,X.env.cells.lookup x=Δ c->∃v,s.heap.IsCell c v
 free:H X.env.locals=Φ
 Jz:∀x c,X.env.cells.lookup x=Δ c->H c=Φ
 pin:∀p∈X.pn++pins,s.heap.get? p.1=Δ p.2/\H p.1=Φ/\p.1≠X.env.locals/\p.1∉X.fs/\∀v,p.2.data≠.cell v
 IF:Ji X.prog X.w H s.heap
 len:σ.length=X.N.length
section
variable {X:Cx}{pins:List (Ω×Obj)}{σ:List (Option V)}{H H':Hp}{s:Α}{h':Heap}
theorem Cx.Ok.Uv (ok:X.Ok)  (e:X.base.get? b=Δ o):b∉X.fs:=fun hb=>by have:=(ok.JZ.mem hb).1;rw[e]at this;cases this
theorem Inv.bs (I:Inv X pins σ H s):∀b o,X.base.get? b=Δ o->s.heap.get? b=Δ o/\H b=Φ:=fun b o e=>
 ⟨I.base.keep b o (I.ok.bs b o e).1 (I.ok.bs b o e).2 (I.ok.Uv e) (I.ok.Nc b o e),I.base.free b o (I.ok.bs b o e).1 (I.ok.bs b o e).2 (I.ok.Nc b o e)⟩
theorem Inv.bk (I:Inv X pins σ H s):∀b o,X.base.get? b=Δ o->s.heap.get? b=Δ o:=fun b o e=>(I.bs b o e).1
theorem Inv.mod (I:Inv X pins σ H s):Mod X.K X.mg X.base:=I.ok.mod
theorem Inv.Lg (I:Inv X pins σ H s):X.K.In s.heap:=I.ok.mod.S6.keeps I.bk
theorem Inv.lt (I:Inv X pins σ H s):X.env.locals < s.heap.objs.size:=let ⟨_,hn,_⟩:=I.loc;hn.lt
theorem Inv.sz (I:Inv X pins σ H s):X.IY.heap.objs.size<=s.heap.objs.size:=Q_ I.ok.above (Nat.le_of_lt I.lt)
theorem Inv.Uw (I:Inv X pins σ H s)  (h:s.heap.objs.size<=a):a∉X.fs:=fun hb=>by obtain⟨_,o,ho,_⟩:=I.ok.JZ.mem hb;exact absurd (F_ (j_ ho) (Q_ I.sz h)) (aab _)
theorem Inv.Ol (I:Inv X pins σ H s):∀x c,X.env.cells.lookup x=Δ c->c≠X.env.locals:=fun x c e z=>by obtain⟨v,o,ho,hd⟩:=I.cell x c e;obtain⟨m,⟨o',es,ep,L0,Zx,_⟩,_⟩:=I.loc;rw[z,L0]at ho;cases ho;rw[Zx]at hd;cases hd
theorem Inv.JZ (I:Inv X pins σ H s):s.heap.FunFrames X.base X.outer:=by
 have all:∀(l:List Env),(∀b∈Kg l,b∈X.fs)->X.IY.heap.FunFrames X.base l->s.heap.FunFrames X.base l:=by
  intro l
  induction l with
  |nil=>intro _ _;trivial
  |cons env r ih=>intro hs hl;obtain⟨hk,⟨L,o,hf,hn,ho,hd⟩,hr⟩:=hl;have hL:L∈X.fs:=hs L (by unfold Kg;rw[List.filterMap_cons,hf];exact aaF);obtain⟨sl,e⟩:=I.base.slot L o ho (I.ok.MQ L hL) hL fun z=>I.ok.Nd L z hL;exact⟨hk,⟨L,_,hf,hn,e,hd⟩,ih (fun b hb=>hs b (by unfold Kg;rw[List.filterMap_cons,hf];exact K_ _ hb)) hr⟩
 exact all X.outer (fun _ hb=>hb) I.ok.JZ
theorem Inv.stack (I:Inv X pins σ H s):s.heap.FunFrames X.base X.stack:=by
 rcases I.ok.Ir with e|⟨e,hf⟩
 ·rw[e];exact I.JZ
 ·rw[e];obtain⟨m,hn,_⟩:=I.loc;refine .cons (by rw[I.ok.kind];decide) hf hn ?_ I.JZ;exact Heap.get?_none_of_le (Q_ I.ok.Na I.ok.above)
theorem Inv.Lk (I:Inv X pins σ H s):∀b∈Kg X.stack,b∈X.env.locals::X.fs:=fun b hb=>by
 rcases I.ok.Ir with e|⟨e,hf⟩
 ·rw[e]at hb;exact K_ _ hb
 ·rw[e]at hb;unfold Kg at hb;rw[List.filterMap_cons,hf]at hb;exact hb
theorem Inv.LF (I:Inv X pins σ H s):∀b∈Kg X.stack,H b=Φ:=fun b hb=>by
 rcases k_.mp (I.Lk b hb) with e|hb
 ·rw[e];exact I.free
 ·obtain⟨_,o,ho,_⟩:=I.ok.JZ.mem hb;exact I.base.free b o ho (I.ok.MQ b hb) fun z=>I.ok.Nd b z hb
theorem Inv.step {g':Array GenState}{t':Nat}{d':Drawn}{ch:List Ω}(I:Inv X pins σ H s)
  (Mh:∀b∈ch,(b∈X.ex∨X.IY.heap.objs.size<=b)/\b≠X.env.locals/\(∀x c,X.env.cells.lookup x=Δ c->c≠b)/\∀p∈X.pn++pins,p.1≠b)
  (keep:∀b o,b≠X.env.locals->b∉X.fs->b∉ch->s.heap.get? b=Δ o->H b=Φ->h'.get? b=Δ o)
  (slot:∀b o,b≠X.env.locals->b∈X.fs->b∉ch->s.heap.get? b=Δ o->H b=Φ->∃sl,h'.get? b=Δ {o with slots:=sl}) (free:∀b o,b∉ch->s.heap.get? b=Δ o->H b=Φ->H' b=Φ)
  (there:∀b o,b∉ch->s.heap.get? b=Δ o->∃o',h'.get? b=Δ o')
  (JY:∀b xs,H b=Δ (.tup xs)->H' b=Δ (.tup xs)) (JA:∀b o u,H b=Δ (.IH o u)->H' b=Δ (.IH o u)) (KH:∀b ps,H b=Δ (.NO ps)->∃more,H' b=Δ (.NO (ps++more)))
  (ns:∀m,s.heap.Ns X.env.locals m->h'.Ns X.env.locals m) (IF:Ji X.prog X.w H' h') (hg:AllBare g') :
  Inv X pins σ H' {s with heap:=h',gens:=g',drawn:=d',toks:=t'}:=by
 have XN:∀b o,X.IY.heap.get? b=Δ o->b≠X.env.locals:=fun b o e=>m_ (F_ (j_ e) I.ok.above);have S8:∀b o,X.IY.heap.get? b=Δ o->b∉X.ex->b∉ch:=fun b o e hx hb=>by
  rcases(Mh b hb).1 with z|z
  ·exact hx z
  ·exact absurd (F_ (j_ e) z) (aab _)
 have cellK:∀x c,X.env.cells.lookup x=Δ c->∀v,s.heap.IsCell c v->h'.IsCell c v:=fun x c e v ⟨o,ho,hd⟩=>by
  have Qy:c∉ch:=fun z=>(Mh c z).2.2.1 x c e rfl;by_cases hc:c∈X.fs
  ·obtain⟨sl,q⟩:=slot c o (I.Ol x c e) hc Qy ho (I.Jz x c e);exact⟨_,q,hd⟩
  ·exact⟨o,keep c o (I.Ol x c e) hc Qy ho (I.Jz x c e),hd⟩
 refine⟨I.ok,I.os,hg,⟨fun b o e n hb hx=>?_,fun b o e n hb hx=>?_,fun b o e n hx=>?_,fun b o e hx=>?_,fun b xs e=>JY b xs (I.base.JY b xs e),fun b o xs e=>JA b o xs (I.base.JA b o xs e),fun b ps e=>?_⟩,?_,fun x c e=>?_,?_,fun x c e=>?_,fun p hp=>?_,IF,I.len⟩
 ·exact keep b o (XN b o e) hb (S8 b o e hx) (I.base.keep b o e n hb hx) (I.base.free b o e n hx)
 ·obtain⟨sl,e1⟩:=I.base.slot b o e n hb hx;obtain⟨Zy,e2⟩:=slot b _ (XN b o e) hb (S8 b o e hx) e1 (I.base.free b o e n hx);exact⟨Zy,e2⟩
 ·obtain⟨o',e1⟩:=I.base.there b o e hx;exact free b o' (S8 b o e hx) e1 (I.base.free b o e n hx)
 ·obtain⟨o',e1⟩:=I.base.there b o e hx;exact there b o' (S8 b o e hx) e1
 ·obtain⟨m1,e1⟩:=I.base.KH b ps e;obtain⟨m2,e2⟩:=KH b _ e1;exact⟨m1++m2,by rw[e2,Array.append_assoc]⟩
 ·obtain⟨m,hn,hl⟩:=I.loc;refine⟨m,ns m hn,fun i x v e1 e2 e3=>?_⟩;obtain⟨u,r,l⟩:=hl i x v e1 e2 e3;refine⟨u,r,?_⟩;rcases l with l|⟨k,c,e,z⟩
  ·exact .inl l
  ·exact .inr ⟨k,c,e,cellK x c e _ z⟩
 ·obtain⟨v,z⟩:=I.cell x c e;exact⟨v,cellK x c e v z⟩
 ·obtain⟨m,⟨o,_,_,ho,_⟩,_⟩:=I.loc;exact free _ o (fun z=>(Mh _ z).2.1 rfl) ho I.free
 ·obtain⟨v,o,ho,hd⟩:=I.cell x c e;exact free c o (fun z=>(Mh c z).2.2.1 x c e rfl) ho (I.Jz x c e)
 ·obtain⟨e,n,ne,nf,d⟩:=I.pin p hp;have Qy:p.1∉ch:=fun z=>(Mh p.1 z).2.2.2 p hp rfl;exact⟨keep p.1 p.2 ne nf Qy e n,free p.1 p.2 Qy e n,ne,nf,d⟩
theorem Inv.un (I:Inv X pins σ H s)(u:Un X.fs [] H H' s.heap h')(IF:Ji X.prog X.w H' h'):Inv X pins σ H' {s with heap:=h',toks:=t'}:=by
 obtain⟨m,⟨o,es,ep,ho,r⟩,_⟩:=id I.loc;obtain⟨sl,hL⟩:=u.any ho I.free (by simp)
 exact I.step (g':=s.gens) (d':=s.drawn) (ch:=[]) (fun _ z=>nomatch z) (fun b o _ hb _ e n=>u.keep b o e n hb (by simp)) (fun b o _ hb _ e n=>u.slot b o e n hb (by simp)) (fun b o _ e n=>u.free b o e n (by simp)) (fun b o _ e=>u.there b o e (by simp)) u.JY u.JA u.KH (fun m' hm=>by
  obtain⟨o',es',Ux,L0,r'⟩:=hm;rw[ho]at L0;cases L0
  exact⟨_,es',Ux,hL,r'⟩) IF I.bare
theorem Inv.call (I:Inv X pins σ H s)(u:Un (Kg X.stack) ch H H' s.heap h')(IF:Ji X.prog X.w H' h')(hg:AllBare g')
  (Mh:∀b∈ch,(b∈X.ex∨X.IY.heap.objs.size<=b)/\b≠X.env.locals/\(∀x c,X.env.cells.lookup x=Δ c->c≠b)/\∀p∈X.pn++pins,p.1≠b) :
  Inv X pins σ H' {s with heap:=h',gens:=g',drawn:=d',toks:=t'}:=by
 obtain⟨m,⟨o,es,ep,ho,r⟩,_⟩:=id I.loc;obtain⟨sl,hL⟩:=u.any ho I.free fun z=>(Mh _ z).2.1 rfl
 exact I.step (ch:=ch) Mh (fun b o hL hb hc e n=>u.keep b o e n (fun z=>(k_.mp (I.Lk b z)).elim hL hb) hc) (fun b o _ _ hc e n=>u.any e n hc) (fun b o hc e n=>u.free b o e n hc) (fun b o hc e=>u.there b o e hc) u.JY u.JA u.KH (fun m' hm=>by
  obtain⟨o',es',Ux,L0,r'⟩:=hm;rw[ho]at L0;cases L0
  exact⟨_,es',Ux,hL,r'⟩) IF hg
theorem Inv.turned (I:Inv X pins σ H s)(k:∀b o,b≠it->s.heap.get? b=Δ o->h'.get? b=Δ o)(hn:H it=Φ)(hL:it≠X.env.locals)
  (h1:it∈X.ex∨X.IY.heap.objs.size<=it) (h2:∀x c,X.env.cells.lookup x=Δ c->c≠it) (h3:∀p∈X.pn++pins,p.1≠it):Inv X pins σ H {s with heap:=h',toks:=t'}:=by
 have NP:∀b u,H b=Δ u->b≠it:=fun b u e z=>by rw[z,hn]at e;cases e
 refine I.step (g':=s.gens) (d':=s.drawn) (ch:=[it]) (fun b hb=>?_) (fun b o _ _ hc e _=>k b o (fun z=>hc (by simp[z])) e) (fun b o _ _ hc e _=>⟨o.slots,k b o (fun z=>hc (by simp[z])) e⟩) (fun _ _ _ _ n=>n)
  (fun b o hc e=>⟨o,k b o (fun z=>hc (by simp[z])) e⟩) (fun _ _ e=>e) (fun _ _ _ e=>e) (fun b ps e=>⟨#[],by rw[e];simp⟩) (fun m hm=>?_) (fun b u e=>?_) I.bare
 ·have e:b=it:=by simpa using hb
  subst e;exact⟨h1,hL,h2,h3⟩
 ·obtain⟨o,es,ep,ho,r⟩:=hm;exact⟨o,es,ep,k _ o (Ne.symm hL) ho,r⟩
 ·refine(I.IF b u e).Kf (fun c v hc q=>k c v ?_ q) (fun _ q=>q) fun _ _ q=>q;rcases hc with z|z
  ·rw[z];exact NP b u e
  ·exact NP c _ z
theorem Inv.tok (I:Inv X pins σ H s)(t:Nat):Inv X pins σ H {s with toks:=t}:=I.un (h':=s.heap) (t':=t) Un.refl I.IF
theorem Inv.kept (I:Inv X pins σ H s)(k:∀b u,s.heap.get? b=Δ u->h'.get? b=Δ u):Inv X pins σ H {s with heap:=h',toks:=t'}:=I.un (Un.kept k) (I.IF.kept k)
theorem Inv.laid (I:Inv X pins σ H s)(k:∀b u,s.heap.get? b=Δ u->h'.get? b=Δ u)(hp:s.heap.objs.size<=a)(new:iz X.prog X.w (upd H a o) h' a o) :
  Inv X pins σ (upd H a o) {s with heap:=h',toks:=t'}:=I.un (Un.laid k hp (I.IF.fresh hp)) (I.IF.laid k hp new)
theorem Inv.write (I:Inv X pins σ H s)(mu:Qw (H x))(he:e=x∨H e=Δ (.own x))(k:∀b u,b≠e->s.heap.get? b=Δ u->h'.get? b=Δ u)(PL:∃u,h'.get? e=Δ u)
  (new:iz X.prog X.w (upd H x o) h' x o):Inv X pins σ (upd H x o) {s with heap:=h',toks:=t'}:=I.un (Un.write mu he k PL) (I.IF.write mu he k PL new)
theorem Inv.LG (I:Inv X pins σ H s)(h:∀p∈Qz,s.heap.get? p.1=Δ p.2/\H p.1=Φ/\p.1≠X.env.locals/\p.1∉X.fs/\∀v,p.2.data≠.cell v):Inv X Qz σ H s:=
 ⟨I.ok,I.os,I.bare,I.base,I.loc,I.cell,I.free,I.Jz,fun p hp=>(s_.mp hp).elim (fun z=>I.pin p (t_ _ z)) (h p),I.IF,I.len⟩
theorem pN {N:List Str}(hN:N.Nodup){i j:Nat}{x:Str}(a:N[i]? = Δ x)(b:N[j]? = Δ x):i=j:=by obtain⟨h1,e1⟩:=p_.mp a;obtain⟨h2,e2⟩:=p_.mp b;exact(List.getElem_inj hN).mp (e1.trans e2.symm)
theorem nP (I:Inv X pins σ H s)(hN:X.N.Nodup)(hi:X.N[i]? = Δ x)(hx:Loc X.env.scope x)(r:RelV v u)
  (h:∀s',Inv X pins (σ.set i (Δ v)) H s'->(∃a,Heap.SameBut a s.heap s'.heap/\(a=X.env.locals∨X.env.cells.lookup x=Δ a))->Q () s') (hf:X.fn x=Θ∨X.env.scope.names.lookup x=Δ .local:=by first|exact .inl rfl|exact .inr rfl|assumption):Κ M A (storeName X.env x u) Q E s:=by
 obtain⟨m,hn,hl⟩:=id I.loc;have Uy:(X.env.scope.kind == .class||(X.env.scope.kind == .module&&X.env.locals != X.env.globals))=Ξ:=by rw[I.ok.kind];rfl
 have QA:i < σ.length:=by rw[I.len];exact(p_.mp hi).1
 have Ol:=I.Ol;have tracked:∀ {a:Ω}{h':Heap},(∃o,s.heap.get? a=Δ o/\H a=Φ)->Heap.SameBut a s.heap h'->Ji X.prog X.w H h':=fun {a h'} ha hs b ob e=>by
  obtain⟨_,_,LH⟩:=ha;refine(I.IF b ob e).Kf (fun c w' hc q=>(hs.2 c ?_).trans q) (fun _ q=>q) fun _ _ q=>q;rintro rfl;rcases hc with rfl|hc
  ·rw[LH]at e;cases e
  ·rw[LH]at hc;cases hc
 rcases hx with hk|hk
 ·refine wpAny_storeName_local hk hn (fun h' J8 hs=>?_) Uy;obtain⟨oL,_,_,Zz,_⟩:=id hn;refine h _ ⟨I.ok,I.os,I.bare,⟨fun b o e n hb hx=>?_,fun b o e n hb hx=>?_,I.base.free,fun b o e hx=>?_,I.base.JY,I.base.JA,I.base.KH⟩,⟨_,J8,fun j y v' e1 e2 e3=>?_⟩,fun y c e=>?_,I.free,I.Jz,fun p hp=>?_,tracked ⟨oL,Zz,I.free⟩ hs,by simpa using I.len⟩ ⟨_,hs,.inl rfl⟩
  ·exact(hs.2 b (m_ (F_ (j_ e) I.ok.above))).trans (I.base.keep b o e n hb hx)
  ·obtain⟨sl,e1⟩:=I.base.slot b o e n hb hx;exact⟨sl,(hs.2 b (m_ (F_ (j_ e) I.ok.above))).trans e1⟩
  ·obtain⟨o',e1⟩:=I.base.there b o e hx;exact⟨o',(hs.2 b (m_ (F_ (j_ e) I.ok.above))).trans e1⟩
  ·by_cases hj:j=i
   ·subst hj;rw[hi]at e1;cases e1;rw[List.getElem?_set_self QA]at e2;cases e2;exact⟨u,r,.inl ⟨hk,by simp⟩⟩
   ·rw[aas (Ne.symm hj)]at e2;obtain⟨u',r',q⟩:=hl j y v' e1 e2 e3;refine⟨u',r',?_⟩;rcases q with⟨k,e⟩|⟨k,c,e,z⟩
    ·refine .inl ⟨k,?_⟩;have:y≠x:=fun e=>hj (pN hN e1 (e ▸ hi));simp[this,e]
    ·exact .inr ⟨k,c,e,z.sameBut hs (Ol y c e)⟩
  ·obtain⟨w',z⟩:=I.cell y c e;exact⟨w',z.sameBut hs (Ol y c e)⟩
  ·obtain⟨e,n,ne,nf,d⟩:=I.pin p hp;exact⟨(hs.2 p.1 ne).trans e,n,ne,nf,d⟩
 ·have Nf:X.fn x=Θ:=by
   rcases hf with z|z
   ·exact z
   ·rw[z]at hk;cases hk
  obtain⟨c,hc⟩:=I.ok.has x (.inl hk);obtain⟨w',z⟩:=I.cell x c hc;refine wpAny_storeName_cell I.ok.kind hk hc z (fun h' PM hs=>?_);obtain⟨oc,XO,Uz⟩:=id z;refine h {s with heap:=h'} ⟨I.ok,I.os,I.bare,⟨fun b o e n hb hx=>?_,fun b o e n hb hx=>?_,I.base.free,fun b o e hx=>?_,I.base.JY,I.base.JA,I.base.KH⟩,⟨m,hn.sameBut hs (Ne.symm (Ol x c hc)),fun j y v' e1 e2 e3=>?_⟩,fun y c' e=>?_,I.free,I.Jz,fun p hp=>?_,tracked ⟨oc,XO,I.Jz x c hc⟩ hs,by simpa using I.len⟩ ⟨c,hs,.inr hc⟩
  ·exact(hs.2 b (m_ (F_ (j_ e) (I.ok.S7 x c Nf hc)))).trans (I.base.keep b o e n hb hx)
  ·obtain⟨sl,e1⟩:=I.base.slot b o e n hb hx;exact⟨sl,(hs.2 b (m_ (F_ (j_ e) (I.ok.S7 x c Nf hc)))).trans e1⟩
  ·obtain⟨o',e1⟩:=I.base.there b o e hx;exact⟨o',(hs.2 b (m_ (F_ (j_ e) (I.ok.S7 x c Nf hc)))).trans e1⟩
  ·by_cases hj:j=i
   ·subst hj;rw[hi]at e1;cases e1;rw[List.getElem?_set_self QA]at e2;cases e2;exact⟨u,r,.inr ⟨.inl hk,c,hc,PM⟩⟩
   ·rw[aas (Ne.symm hj)]at e2;obtain⟨u',r',q⟩:=hl j y v' e1 e2 e3;refine⟨u',r',?_⟩;rcases q with q|⟨k,c',e,z'⟩
    ·exact .inl q
    ·refine .inr ⟨k,c',e,z'.sameBut hs ?_⟩;rintro rfl;exact hj (pN hN e1 (I.ok.inj _ _ _ e hc ▸ hi))
  ·by_cases XQ:c'=c
   ·subst XQ;exact⟨_,PM⟩
   ·obtain⟨w2,z2⟩:=I.cell y c' e;exact⟨w2,z2.sameBut hs XQ⟩
  ·obtain⟨e,n,ne,nf,d⟩:=I.pin p hp;refine⟨(hs.2 p.1 ?_).trans e,n,ne,nf,d⟩;intro q;rw[q,XO]at e;have q':oc=p.2:=I_ e;exact d w' (by rw[<- q'];exact Uz)
theorem pO (I:Inv X pins σ H s)(hN:X.N.Nodup)(hi:X.N[i]? = Δ x)(hx:Loc X.env.scope x)(r:RelV v u)
  (h:∀s',Inv X pins (σ.set i (Δ v)) H s'->Q () s') (hf:X.fn x=Θ∨X.env.scope.names.lookup x=Δ .local:=by first|exact .inl rfl|exact .inr rfl|assumption):Κ M A (storeName X.env x u) Q E s:=
 nP I hN hi hx r (fun s' I' _=>h s' I') hf
theorem Inv.QB (I:Inv X pins σ H s)(ho:s'.os=s.os)(u:Un (Kg X.stack) ch H H' s.heap s'.heap)(IF:Ji X.prog X.w H' s'.heap)(hg:AllBare s'.gens)
  (Mh:∀b∈ch,(b∈X.ex∨X.IY.heap.objs.size<=b)/\b≠X.env.locals/\(∀x c,X.env.cells.lookup x=Δ c->c≠b)/\∀p∈X.pn++pins,p.1≠b):Inv X pins σ H' s':=by
 obtain⟨h',g',d',t',o'⟩:=s';have e:o'=s.os:=ho;subst e;exact I.call (g':=g') (t':=t') (d':=d') u IF hg Mh
end
abbrev XK:=Ψ->Option Ω->Hp->Prop
abbrev St:=List (Option V)
abbrev VK:=V->Hp->Prop
abbrev TE:=St->Hp->VK->Prop
abbrev TT:=St->Hp->(Bool->Hp->Prop)->Prop
abbrev TA:=St->Hp->(List V->Hp->Prop)->Prop
structure Ends where
 nx:St->Hp->Prop
 rt:VK
 bk:St->Hp->Prop:=fun _ _=>False
 ct:St->Hp->Prop:=fun _ _=>False
abbrev TS:=Ends->St->Hp->Prop
def EP (X:Cx)(pins:List (Ω×Obj))(σ:St)(Q:VK)(u:Ψ)(s':Α):Prop:=∃v H',Inv X pins σ H' s'/\RelV v u/\Q v H'
def TP (X:Cx)(pins:List (Ω×Obj))(σ:St)(Q:Bool->Hp->Prop)(b:Bool)(s':Α):Prop:=∃H',Inv X pins σ H' s'/\Q b H'
def AP (X:Cx)(pins:List (Ω×Obj))(σ:St)(Q:List V->Hp->Prop)(us:List Ψ)(s':Α):Prop:=∃vs H',Inv X pins σ H' s'/\Vals vs us/\Q vs H'
def SP (X:Cx)(pins:List (Ω×Obj))(D:Ends)(f:Flow)(s':Α):Prop:=
 match f with
 |.next=>∃Iw H',Inv X pins Iw H' s'/\D.nx Iw H'
 |.brk=>∃Iw H',Inv X pins Iw H' s'/\D.bk Iw H'
 |.cont=>∃Iw H',Inv X pins Iw H' s'/\D.ct Iw H'
 |.ret u=>∃v Iw H',Inv X pins Iw H' s'/\RelV v u/\D.rt v H'
def PE (X:Cx)(e:Expr)(t:TE):Prop:=
 ∀(pins:List (Ω×Obj)) (s:Α) (σ:St) (H:Hp) (Q:VK),Inv X pins σ H s->t σ H Q->Κ (Μ X.prog X.w) X.A (eval e X.env) (EP X pins σ Q) X.xe s
def PT (X:Cx)(e:Expr)(t:TT):Prop:=
 ∀(pins:List (Ω×Obj)) (s:Α) (σ:St) (H:Hp) (Q:Bool->Hp->Prop),Inv X pins σ H s->t σ H Q->Κ (Μ X.prog X.w) X.A (isTrue e X.env (eval e X.env)) (TP X pins σ Q) X.xe s
def PW (X:Cx)(e:Expr)(t:TT):Prop:=
 ∀(whole:Sem Ψ) (pins:List (Ω×Obj)) (s:Α) (σ:St) (H:Hp) (Q:Bool->Hp->Prop),Inv X pins σ H s->t σ H Q->Κ (Μ X.prog X.w) X.A (isTrue e X.env whole) (TP X pins σ Q) X.xe s
theorem PW.pt (h:PW X e t):PT X e t:=h _
def PA (X:Cx)(es:List Expr)(t:TA):Prop:=
 ∀(pos:Pos) (pins:List (Ω×Obj)) (s:Α) (σ:St) (H:Hp) (Q:List V->Hp->Prop),Inv X pins σ H s->t σ H Q->Κ (Μ X.prog X.w) X.A (spliced (backTo pos (Ν es X.env))) (AP X pins σ Q) X.xe s
def PS (X:Cx)(st:Stmt)(t:TS):Prop:=
 ∀(pins:List (Ω×Obj)) (s:Α) (σ:St) (H:Hp) (D:Ends),Inv X pins σ H s->t D σ H->Κ (Μ X.prog X.w) X.A (exec st X.env) (SP X pins D) X.xe s
def Ks (X:Cx)(st:List Stmt)(t:TS):Prop:=
 ∀(pins:List (Ω×Obj)) (s:Α) (σ:St) (H:Hp) (D:Ends),Inv X pins σ H s->t D σ H->Κ (Μ X.prog X.w) X.A (execs st X.env) (SP X pins D) X.xe s
theorem IG (h:Κ M A t Q E s)(hQ:∀a s,Q a s->Q' a s):Κ M A t Q' E s:=wpAny_mono h hQ fun _ _ x=>x
section
variable {X:Cx}
def BO (i:Nat):TE:=fun σ H Q=>∃v,σ[i]? = Δ (Δ v)/\Q v H
def tC (v:V):TE:=fun _ H Q=>Q v H
theorem u6 (hN:X.N[i]? = Δ x)(hv:Qx X.env.scope x)(hd:(x == ("__debug__" : Str))=Ξ:=by decide) (Ng:(x == ("__classdict__" : Str))=Ξ:=by decide):PE X (.Name x pos) (BO i):=by
 intro pins s σ H Q I h;obtain⟨v,e,h⟩:=h;obtain⟨m,hn,hl⟩:=I.loc;obtain⟨u,r,l⟩:=hl i x v hN e hv;have fin:EP X pins σ Q u s:=⟨v,H,I,r,h⟩
 rcases l with⟨hk,hm⟩|⟨hk,c,hc,NQ⟩
 ·exact wpAny_Name (wpAny_loadName_local I.ok.kind hk hn hm fin) hd
 ·rcases hk with hk|hk
  ·exact wpAny_Name (wpAny_loadName_cell I.ok.kind hk hc NQ fin) hd
  ·exact wpAny_Name (wpAny_loadName_free I.ok.kind hk hc NQ fin Ng) hd
theorem BP {i j pos}:PE X (.Constant (.int i) j pos) (tC (.int i)):=fun _ _ _ H _ I h=>wpAny_Constant_int ⟨.int i,H,I.tok _,⟨_,rfl⟩,h⟩
theorem Eg {b j pos}:PE X (.Constant (.bool b) j pos) (tC (.bl b)):=fun _ _ _ H _ I h=>Constant_bool ⟨.bl b,H,I,rfl,h⟩
theorem BQ {j pos}:PE X (.Constant .none j pos) (tC .IB):=fun _ _ _ H _ I h=>Constant_none ⟨.IB,H,I,rfl,h⟩
theorem BR {x j pos}:PE X (.Constant (.str x) j pos) (tC (.str x)):=fun _ _ _ H _ I h=>Calls.Constant_str ⟨.str x,H,I.tok _,⟨_,rfl⟩,h⟩
def Gl (X:Cx)(x:Str):Prop:=X.env.kindOf x=Δ .globalImplicit
theorem oH (I:Inv X pins σ H s)(hg:Gl X x)(hm:X.mg x=Δ u)(h:Q u s)
  (hd:(x == ("__debug__" : Str))=Ξ:=by decide):Κ (Μ X.prog X.w) X.A (eval (.Name x pos) X.env) Q E s:=
 Calls.Name_function_global I.ok.kind hg (Calls.loadGlobal_global (by rw[I.ok.glob];exact I.mod.glob.keeps I.bk) hm h) hd
theorem jn (I:Inv X pins σ H s)(hg:Gl X x)(hm:X.mg x=Φ)(hv:bootBuiltins x=Δ u)(h:Q u s)
  (hn:x≠"__name__":=by decide) (hd:(x == ("__debug__" : Str))=Ξ:=by decide):Κ (Μ X.prog X.w) X.A (eval (.Name x pos) X.env) Q E s:=by
 obtain⟨mb,h1,h2⟩:=I.mod.blt;exact Calls.Name_function_global I.ok.kind hg (Calls.loadGlobal_builtin (by rw[I.ok.glob];exact I.mod.glob.keeps I.bk) hm (by rw[I.ok.blt];exact h1.keeps I.bk) ((h2 x hn).trans hv) h) hd
theorem yM (hg:Gl X x)(hm:X.mg x=Δ u)(r:RelV v u)(hd:(x == ("__debug__" : Str))=Ξ:=by decide):PE X (.Name x pos) (tC v):=
 fun _ _ _ H _ I h=>oH I hg hm ⟨v,H,I,r,h⟩ hd
theorem yN (hg:Gl X x)(hm:X.mg x=Φ)(hv:bootBuiltins x=Δ u)(r:RelV v u)(hn:x≠"__name__":=by decide) (hd:(x == ("__debug__" : Str))=Ξ:=by decide):PE X (.Name x pos) (tC v):=
 fun _ _ _ H _ I h=>jn I hg hm hv ⟨v,H,I,r,h⟩ hn hd
variable {a b:Expr}{ta tb:TE}{pos:Pos}
variable {tA S9:TT}{rest:List Expr}
def Eh (t u:TT):TT:=fun σ H Q=>t σ H fun c H1=>if c=Θ then u σ H1 Q else Q Ξ H1
def ZA (t u:TT):TT:=fun σ H Q=>t σ H fun c H1=>if c=Θ then Q Θ H1 else u σ H1 Q
def Gx (t:TT):TT:=fun σ H Q=>t σ H fun c H1=>Q (!c) H1
theorem yO (ha:PT X a tA):PW X (.BoolOp .And [a] pos) tA:=by
 intro wh pins s σ H Q I h;refine isTrue_and (IG (ha pins s σ H Q I h) fun c s1 e=>?_);cases c with
 |true=>exact isTrue_and_nil e
 |false=>exact e
theorem BS (ha:PT X a tA):PW X (.BoolOp .Or [a] pos) tA:=by
 intro wh pins s σ H Q I h;refine isTrue_or (IG (ha pins s σ H Q I h) fun c s1 e=>?_);cases c with
 |false=>exact isTrue_or_nil e
 |true=>exact e
theorem BU (ha:PT X a tA)(hb:PW X (.BoolOp .And (b::rest) pos) S9):PW X (.BoolOp .And (a::b::rest) pos) (Eh tA S9):=by
 intro wh pins s σ H Q I h;refine isTrue_and (IG (ha pins s σ H _ I h) fun c s1 ⟨H1,I1,q1⟩=>?_);cases c with
 |true=>exact hb wh pins s1 σ H1 Q I1 q1
 |false=>exact⟨H1,I1,q1⟩
theorem Ei (ha:PT X a tA)(hb:PW X (.BoolOp .Or (b::rest) pos) S9):PW X (.BoolOp .Or (a::b::rest) pos) (ZA tA S9):=by
 intro wh pins s σ H Q I h;refine isTrue_or (IG (ha pins s σ H _ I h) fun c s1 ⟨H1,I1,q1⟩=>?_);cases c with
 |true=>exact⟨H1,I1,q1⟩
 |false=>exact hb wh pins s1 σ H1 Q I1 q1
theorem BV (ha:PT X a tA):PT X (.UnaryOp .Not a pos) (Gx tA):=by intro pins s σ H Q I h;exact isTrue_not (ha pins s σ H (fun c H1=>Q (!c) H1) I h)
theorem u7 {op}  (h:PE X a t):PE X (.BoolOp op [a] pos) t:=fun pins s σ H Q I hw=>BoolOp_one (h pins s σ H Q I hw)
def ZC (t:TT)(ta tb:TE):TE:=fun σ H Q=>t σ H fun c H1=>if c=Θ then ta σ H1 Q else tb σ H1 Q
theorem pP (hc:PT X c tA)(ha:PE X a ta)(hb:PE X b tb):PE X (.IfExp c a b pos) (ZC tA ta tb):=by
 intro pins s σ H Q I h;refine wpAny_IfExp (IG (hc pins s σ H _ I h) fun d s1 ⟨H1,I1,q1⟩=>?_);cases d with
 |true=>exact ha pins s1 σ H1 Q I1 q1
 |false=>exact hb pins s1 σ H1 Q I1 q1
end
def Jo (K:Frag)(H:Hp)(a:Ω)(xs:List V):Prop:=
 Rd H a (.lst xs)∨
  ∃(o:Obj) (its:Array Ψ) (n:Nat),K.lookup a=Δ o/\o.cls=.type "list"/\o.dict=Φ/\o.data=.seq its n/\its.size<=Ζ/\Vals xs its.toList
def IP (K:Frag)(H:Hp)(a:Ω)(xs:List V):Prop:=
 Rd H a (.tup xs)∨
  ∃(o:Obj) (its:Array Ψ) (n:Nat),K.lookup a=Δ o/\o.cls=.type "tuple"/\o.data=.seq its n/\its.size<=Ζ/\Vals xs its.toList
noncomputable def Gy:Ψ->Option V
 |.none=>Δ .IB
 |.bool b=>Δ (.bl b)
 |.int i _=>Δ (.int i)
 |.str x _=>Δ (.str x)
 |.bytes b _=>Δ (.Qv b)
 |.float b _=>Δ (.Us b)
 |.ref a=>Δ (.ref a)
 |.type n=>Δ (.ty n)
 |_=>Φ
theorem RelV.abs (r:RelV x u):Gy u=Δ x:=by
 cases x with
 |IB=>cases r;rfl
 |bl _=>cases r;rfl
 |int _=>obtain⟨t,rfl⟩:=r;rfl
 |str _=>obtain⟨t,rfl⟩:=r;rfl
 |Qv _=>obtain⟨t,rfl⟩:=r;rfl
 |Us _=>obtain⟨t,rfl⟩:=r;rfl
 |ref _=>cases r;rfl
 |ty _=>cases r;rfl
theorem RelV.inj (r:RelV x u)(q:RelV y u):x=y:=I_ (r.abs.symm.trans q.abs)
theorem Vals.inj:∀ {xs ys:List V}{us:List Ψ},Vals xs us->Vals ys us->xs=ys
 |_,_,_,.nil,.nil=>rfl
 |_,_,_,.cons r t,.cons r' t'=>by rw[r.inj r',Vals.inj t t']
section
variable {X:Cx}{pins:List (Ω×Obj)}{σ:St}{H:Hp}{s:Α}{a:Ω}{xs ys:List V}
theorem IP.of {K:Frag}(h:H a=Δ (.tup xs)):IP K H a xs:=.inl (.inl h)
theorem Inv.list (I:Inv X pins σ H s)(h:Jo X.K H a xs):∃its:List Ψ,Vals xs its/\PlainL s.heap a its.toArray/\xs.length<=Ζ:=by
 rcases h with h|⟨o,its,n,hk,hc,hd,hs,hz,r⟩
 ·obtain⟨z,its,n,r,e⟩:=h.ok I.IF;exact⟨its,r,⟨_,n,e,rfl,rfl,rfl⟩,z⟩
 ·refine⟨its.toList,r,⟨o,n,I.Lg a o hk,hc,hd,by simpa using hs⟩,?_⟩;have e:=r.length;simp only[T_]at e;omega
theorem Inv.tuple (I:Inv X pins σ H s)(h:IP X.K H a xs):∃its:List Ψ,Vals xs its/\IsTup s.heap a its.toArray/\xs.length<=Ζ:=by
 rcases h with h|⟨o,its,n,hk,hc,hs,hz,r⟩
 ·obtain⟨z,its,r,p⟩:=h.ok I.IF;exact⟨its,r,p,z⟩
 ·refine⟨its.toList,r,⟨o,I.Lg a o hk,hc,n,by simpa using hs⟩,?_⟩;have e:=r.length;simp only[T_]at e;omega
theorem Inv.Jf (I:Inv X pins σ H s)(h:Jo X.K H a xs)(h':Jo X.K H a ys):xs=ys:=by
 obtain⟨its,r,⟨o,n,e,_,_,d⟩,_⟩:=I.list h;obtain⟨its',r',⟨o',n',e',_,_,d'⟩,_⟩:=I.list h';rw[e]at e';cases e';rw[d]at d';injection d' with d1 _;have:its=its':=by simpa using congrArg Array.toList d1
 subst this;exact r.inj r'
theorem Inv.JQ (I:Inv X pins σ H s)(h:IP X.K H a xs)(h':IP X.K H a ys):xs=ys:=by
 obtain⟨its,r,⟨o,e,_,n,d⟩,_⟩:=I.tuple h;obtain⟨its',r',⟨o',e',_,n',d'⟩,_⟩:=I.tuple h';rw[e]at e';cases e';rw[d]at d';injection d' with d1 _;have:its=its':=by simpa using congrArg Array.toList d1
 subst this;exact r.inj r'
end
section
variable {X:Cx}{st:Stmt}{rest:List Stmt}{t u:TS}{e:Expr}{te:TE}{pos:Pos}
def Ej:TS:=fun D σ H=>D.nx σ H
def Gz (t u:TS):TS:=fun D σ H=>t {D with nx:=u D} σ H
theorem oI:Ks X [] Ej:=fun _ _ σ H _ I h=>wpAny_execs_nil ⟨σ,H,I,h⟩
theorem jY (h1:PS X st t)(h2:Ks X rest u):Ks X (st::rest) (Gz t u):=by
 intro pins s σ H D I h;refine wpAny_execs_cons (IG (h1 pins s σ H {D with nx:=u D} I h) fun f s1 q=>?_);cases f with
 |next=>obtain⟨Iw,H',I',q⟩:=q;exact h2 pins s1 Iw H' D I' q
 |ret v=>exact q
 |brk=>exact q
 |cont=>exact q
theorem Inv.quiet (I:Inv X pins σ H s):interactive X.env=Ξ:=by simp[interactive,I.ok.kind]
def Ek (te:TE):TS:=fun D σ H=>te σ H fun _ H1=>D.nx σ H1
theorem kx (he:PE X e te)(hs:swapsWith e Φ pos.line X.env=pure Ξ:=by rfl):PS X (.Expr e pos) (Ek te):=by intro pins s σ H D I h;exact wpAny_Expr_any (IG (he pins s σ H _ I h) fun v s1 ⟨x,H1,I1,r1,q1⟩=>⟨σ,H1,I1,q1⟩) I.quiet hs
def GA (te:TE):TS:=fun D σ H=>te σ H D.rt
theorem BW (he:PE X e te):PS X (.Return (Δ e) pos) (GA te):=by intro pins s σ H D I h;exact wpAny_Return_some (IG (he pins s σ H _ I h) fun v s1 ⟨x,H1,I1,r1,q1⟩=>⟨x,σ,H1,I1,r1,q1⟩)
def GB (c:TT)(t u:TS):TS:=fun D σ H=>c σ H fun b H1=>if b=Θ then t D σ H1 else u D σ H1
theorem A5 (hc:PT X c tc)(ha:Ks X a t)(hb:Ks X b u):PS X (.If c a b pos) (GB tc t u):=by
 intro pins s σ H D I h;refine wpAny_If (IG (hc pins s σ H _ I h) fun d s1 ⟨H1,I1,q1⟩=>?_);cases d with
 |true=>exact ha pins s1 σ H1 D I1 q1
 |false=>exact hb pins s1 σ H1 D I1 q1
def BX:TS:=fun _ _ _=>False
theorem u9:PS X st BX:=fun _ _ _ _ _ _ h=>h.elim
end
abbrev TG:=V->St->Hp->(St->Hp->Prop)->Prop
abbrev PN:=List V->St->Hp->(St->Hp->Prop)->Prop
def PG (X:Cx)(target:Expr)(t:TG):Prop:=
 ∀(pins:List (Ω×Obj)) (s:Α) (σ:St) (H:Hp) (v:V) (u:Ψ) (Q:St->Hp->Prop),Inv X pins σ H s->RelV v u->t v σ H Q->
  Κ (Μ X.prog X.w) X.A (assign target X.env u) (fun _ s'=>∃Iw H',Inv X pins Iw H' s'/\Q Iw H') X.xe s
def QC (X:Cx)(ts:List Expr)(t:PN):Prop:=
 ∀(pins:List (Ω×Obj)) (s:Α) (σ:St) (H:Hp) (vs:List V) (us:List Ψ) (Q:St->Hp->Prop),Inv X pins σ H s->Vals vs us->t vs σ H Q->
  Κ (Μ X.prog X.w) X.A (assignInOrder ((assignEach ts X.env).map (·.2)) us) (fun _ s'=>∃Iw H',Inv X pins Iw H' s'/\Q Iw H') X.xe s
abbrev El:=V->V->V->Hp->(Hp->Prop)->Prop
def Em (X:Cx)(t:El):Prop:=
 ∀(pins:List (Ω×Obj)) (s:Α) (σ:St) (H:Hp) (o i v:V) (ov iv u:Ψ) (Q:Hp->Prop),Inv X pins σ H s->RelV o ov->RelV i iv->RelV v u->t o i v H Q->
  Κ (Μ X.prog X.w) X.A (setItem ov iv u) (fun _ s'=>∃H',Inv X pins σ H' s'/\Q H') X.xe s
section
variable {X:Cx}{pos:Pos}
def vd (i:Nat):TG:=fun v σ H Q=>Q (σ.set i (Δ v)) H
theorem yQ (hN:X.N.Nodup)(hi:X.N[i]? = Δ x)(hx:Loc X.env.scope x)(hf:X.fn x=Θ∨X.env.scope.names.lookup x=Δ .local:=by first|exact .inl rfl|exact .inr rfl|assumption):PG X (.Name x pos) (vd i):=by intro pins s σ H v u Q I r h;exact wpAny_assign_Name (pO I hN hi hx r (fun s' I'=>⟨_,H,I',h⟩) hf)
def En:PN:=fun vs σ H Q=>vs=[]/\Q σ H
def A6 (t:TG)(u:PN):PN:=fun vs σ H Q=>∃v r,vs=v::r/\t v σ H fun Iw H'=>u r Iw H' Q
theorem yR:QC X [] En:=by intro pins s σ H vs us Q I r h;obtain⟨e,h⟩:=h;subst e;cases r;exact assignInOrder_nil ⟨σ,H,I,h⟩
theorem vf (h1:PG X e t)(h2:QC X es u)
  (hs:(assignEach (e::es) X.env).map (·.2)=assign e X.env::(assignEach es X.env).map (·.2):=by rfl):QC X (e::es) (A6 t u):=by
 intro pins s σ H vs us Q I r h;obtain⟨v,vr,e1,h⟩:=h;subst e1;cases r with
 |cons r rr=>rw[hs];refine assignInOrder_cons (IG (h1 pins s σ H _ _ _ I r h) fun _ s1 ⟨Om,H1,I1,q1⟩=>?_);exact h2 pins s1 Om H1 _ _ Q I1 rr q1
def GC (to ti:TE)(t:El):TG:=fun v σ H Q=>to σ H fun o H1=>ti σ H1 fun i H2=>t o i v H2 fun H3=>Q σ H3
theorem BY (ho:PE X o to)(hi:PE X i ti)(hs:Em X t)
  (ha:∀v,assign (.Subscript o i pos) X.env v=(do
   let ov <- holding [v] (eval o X.env);let iv <- holding [v,ov] (eval i X.env)
   standAt pos
   holding [v,ov,iv] (setItem ov iv v)
   release [v,ov,iv] []):=by intro _;rfl):PG X (.Subscript o i pos) (GC to ti t):=by
 intro pins s σ H v u Q I r h;rw[ha];refine a_ (N_ (IG (ho pins s σ H _ I h) fun ov s1 ⟨x,H1,I1,r1,q1⟩=>?_));refine a_ (N_ (IG (hi pins s1 σ H1 _ I1 q1) fun iv s2 ⟨y,H2,I2,r2,q2⟩=>?_));refine a_ (wpAny_standAt (a_ (N_ (IG (hs pins s2 σ H2 x y v ov iv u _ I2 r1 r2 r q2) fun _ s3 ⟨H3,I3,q3⟩=>?_))));exact wpAny_release ⟨σ,H3,I3,q3⟩
def BZ (te:TE)(g:TG):TS:=fun D σ H=>te σ H fun x H1=>g x σ H1 D.nx
theorem vi (he:PE X e te)(hg:PG X tg g)(hs:swapsWithSole [tg] e pos.line X.env=pure Ξ:=by rfl)(hw:swappedStores [tg] e X.env=pure Φ:=by rfl)
  (h1:(assignEach [tg] X.env).map (·.2)=[assign tg X.env]:=by rfl):PS X (.Assign [tg] e pos) (BZ te g):=by
 intro pins s σ H D I h;refine wpAny_Assign_stores (IG (he pins s σ H _ I h) fun v s1 ⟨x,H1,I1,r1,q1⟩=>?_) hs hw;rw[h1];exact IG (hg pins s1 σ H1 x v _ I1 r1 q1) fun _ s2 q=>q
theorem qP (hN:X.N.Nodup)(hi:X.N[i]? = Δ x)(hx:Loc X.env.scope x)(he:PE X e te)(hs:swapsWith e (Δ (.Name x pos')) pos.line X.env=pure Ξ:=by rfl)(hf:X.fn x=Θ∨X.env.scope.names.lookup x=Δ .local:=by first|exact .inl rfl|exact .inr rfl|assumption) :
  PS X (.Assign [.Name x pos'] e pos) (BZ te (vd i)):=by
 intro pins s σ H D I h;refine wpAny_Assign_Name (IG (he pins s σ H _ I h) fun v s1 ⟨y,H1,I1,r1,q1⟩=>?_) hs;exact pO I1 hN hi hx r1 (fun s2 I2=>⟨_,H1,I2,q1⟩) hf
end
section
variable {X:Cx}{pos:Pos}
def B0 (c:TT)(tb:TS):TS:=fun D σ H=>∃W:Nat->St->Hp->Prop,(∃m,W m σ H)/\∀m σ H,W m σ H->
 c σ H fun b H1=>if b=Θ then ∃N:St->Hp->Prop,(∀Iw H',N Iw H'->∃m',m' < m/\W m' Iw H')/\tb {D with nx:=N,ct:=N,bk:=D.nx} σ H1 else D.nx σ H1
theorem vj (hp:PassesOwn (Μ X.prog X.w) X.A X.env X.xe)(hc:PT X c tc)(hb:Ks X body tb):PS X (.While c body [] pos) (B0 tc tb):=by
 intro pins s σ H D I h;obtain⟨W,⟨m0,w0⟩,turn⟩:=h;refine wpAny_While (codeAny_whileLoop (fun n s'=>∃Iw H',Inv X pins Iw H' s'/\W n Iw H') ?_ m0 ⟨σ,H,I,w0⟩);rintro n s1 ⟨Om,H1,I1,w1⟩;refine wpAny_passesOwn hp (IG (hc pins s1 Om H1 _ I1 (turn n Om H1 w1)) fun b s2 ⟨H2,I2,q2⟩=>?_);cases b with
 |true=>
  obtain⟨N,hN,q2⟩:=q2;rw[f_ rfl];refine wpAny_passesOwn hp (IG (hb pins s2 Om H2 _ I2 q2) fun f s3 q3=>?_);cases f with
  |next=>obtain⟨Mn,H3,I3,n3⟩:=q3;obtain⟨m',hm,w3⟩:=hN Mn H3 n3;exact⟨m',hm,Mn,H3,I3,w3⟩
  |cont=>obtain⟨Mn,H3,I3,n3⟩:=q3;obtain⟨m',hm,w3⟩:=hN Mn H3 n3;exact⟨m',hm,Mn,H3,I3,w3⟩
  |brk=>exact q3
  |ret v=>exact q3
 |false=>rw[d_ B_];exact wpAny_execs_nil ⟨Om,H2,I2,q2⟩
end
structure It where
 go:Nat->Hp->Prop
 MR:Nat->Hp->V->Hp->Prop
 stop:Nat->Hp->Prop
def kh (X:Cx)(pins:List (Ω×Obj))(H:Hp)(b:Ω):Prop:=
 H b=Φ/\b≠X.env.locals/\b∉X.fs/\(b∈X.ex∨X.IY.heap.objs.size<=b)/\(∀x c,X.env.cells.lookup x=Δ c->c≠b)/\∀p∈X.pn++pins,p.1≠b
theorem Inv.Ll (I:Inv X pins σ H s)(hb:s.heap.objs.size<=b)(hn:H' b=Φ):kh X pins H' b:=by
 refine⟨hn,U_ (F_ I.lt hb),I.Uw hb,.inr (Q_ I.sz hb),fun x c e z=>?_,fun p hp z=>?_⟩
 ·obtain⟨v,q⟩:=I.cell x c e;exact absurd (F_ q.lt (by rw[z];exact hb)) (aab _)
 ·exact absurd (F_ (j_ (I.pin p hp).1) (by rw[z];exact hb)) (aab _)
structure Turn (P:Ε)(w:Β)(K:Frag)(tg:Expr)(J:It)(fp:List Ω)(it:Ω)(tn:Nat->Heap->Prop):Prop where
 mem:it∈fp
 obj:∀i h,tn i h->∀b∈fp,∃o,h.get? b=Δ o/\∀v,o.data≠.cell v
 keep:∀i h h',tn i h->(∀b∈fp,∀o,h.get? b=Δ o->h'.get? b=Δ o)->tn i h'
 item:∀(X:Cx),X.prog=P->X.w=w->X.K=K->X.calm=Θ->∀(i:Nat) (pins:List (Ω×Obj)) (s:Α) (σ:St) (H:Hp) (E:Ψ->Α->Prop),Inv X pins σ H s->(∀b∈fp,kh X pins H b)->tn i s.heap->J.go i H->
  Κ (Μ P w) X.A (pyNext (.ref it)) (fun r s1=>∃u,r=Δ u/\
   Κ (Μ P w) X.A (letOwnedTupleGo tg (.ref it) u) (fun _ s2=>∃x H',Inv X pins σ H' s2/\RelV x u/\J.MR i H x H'/\tn (i+1) s2.heap/\∀b∈fp,H' b=Φ) E s1) E s
 done:∀(X:Cx),X.prog=P->X.w=w->X.K=K->X.calm=Θ->∀(i:Nat) (pins:List (Ω×Obj)) (s:Α) (σ:St) (H:Hp) (E:Ψ->Α->Prop),Inv X pins σ H s->(∀b∈fp,kh X pins H b)->tn i s.heap->J.stop i H->
  Κ (Μ P w) X.A (pyNext (.ref it)) (fun r s1=>r=Φ/\Inv X pins σ H s1) E s
 self:∀(A:Ι) (i:Nat) (s:Α) (Q:Ψ->Α->Prop) (E:Ψ->Α->Prop),tn i s.heap->Q (.ref it) s->Κ (Μ P w) A (pyIter (.ref it)) Q E s
abbrev TI:=St->Hp->(It->Hp->Prop)->Prop
def PQ (X:Cx)(pins:List (Ω×Obj))(σ:St)(tg:Expr)(R:It->Hp->Prop)(Ta:Ψ)(s2:Α):Prop:=
 ∃(it:Ω) (fp:List Ω) (tn:Nat->Heap->Prop) (J:It) (H':Hp),Ta=.ref it/\Inv X pins σ H' s2/\Turn X.prog X.w X.K tg J fp it tn/\tn 0 s2.heap/\(∀b∈fp,kh X pins H' b)/\R J H'
def PI (X:Cx)(tg iter:Expr)(wi:TI):Prop:=
 ∀(pins:List (Ω×Obj)) (s:Α) (σ:St) (H:Hp) (R:It->Hp->Prop),Inv X pins σ H s->wi σ H R->
  Κ (Μ X.prog X.w) X.A (eval iter X.env) (fun v s1=>Κ (Μ X.prog X.w) X.A (pyIter v) (PQ X pins σ tg R) X.xe s1) X.xe s
theorem r9 (ho : s.heap.get? it = Δ o)(hc : o.cls = .type n)(hd : o.data = .fields vs)
    (hn : ["enumerate", "zip", "dict_itemiterator", "dict_reverseitemiterator", "odict_iterator", "itertools.zip_longest", "itertools.pairwise"].contains n = Ξ) (hQ : Q () s) : Κ M A (letOwnedTupleGo tg (.ref it) u) Q E s :=by
  unfold letOwnedTupleGo;cases tg <;> first
    | exact e_ hQ
    | (cases u <;> first
        | exact e_ hQ
        | (refine a_ (wpAny_load ho ?_)
           rw [hc,hd];show Κ M A (if(["enumerate", "zip", "dict_itemiterator", "dict_reverseitemiterator", "odict_iterator", "itertools.zip_longest", "itertools.pairwise"].contains n&&vs[0]? == Δ (rawInt _)) = Θ then _ else _) Q E s;rw [d_ (by intro h; rw [hn,Bool.false_and]at h; cases h)]
           exact e_ hQ))
noncomputable def Tc (K:Frag)(a:Ω):It:=
 ⟨fun i H=>∃xs x,Jo K H a xs/\xs[i]? = Δ x,fun i H x H'=>H'=H/\∀xs,Jo K H a xs->xs[i]? = Δ x,fun i H=>∃xs,Jo K H a xs/\xs.length<=i⟩
noncomputable def UA (K:Frag)(a:Ω):It:=
 ⟨fun i H=>∃xs x,IP K H a xs/\xs[i]? = Δ x,fun i H x H'=>H'=H/\∀xs,IP K H a xs->xs[i]? = Δ x,fun i H=>∃xs,IP K H a xs/\xs.length<=i⟩
noncomputable def QD (lo:Int)(n:Nat):It:=⟨fun i _=>i < n,fun i H x H'=>H'=H/\x=.int (lo+i),fun i _=>n<=i⟩
theorem um {P:Ε}{w:Β}{K:Frag}{tg:Expr}(a it:Ω):Turn P w K tg (Tc K a) [it] it (fun i h=>h.IsListIter it a i) where
 mem:=by simp
 obj:=fun i h st b hb=>by
  have e:b=it:=by simpa using hb
  subst e;obtain⟨o,e,c,d⟩:=st;exact⟨o,e,fun v z=>by rw[d]at z;cases z⟩
 keep:=fun i h h' st k=>st.at fun o e=>k it (by simp) o e
 item:=by intro X hP hw hK hc i pins s σ H E I hf st hg;subst hP hw hK;obtain⟨xs,x,hq,hx⟩:=hg;obtain⟨its,rv,p,hz⟩:=I.list hq;obtain⟨u,hu,ru⟩:=rv.get hx;obtain⟨f0,f1,f2,f3,f4,f5⟩:=hf it (by simp);refine wpAny_pyNext_list_item st p.isList (x:=u) (by simpa using hu) fun h' Mo sb=>?_;have I1:Inv X pins σ H {s with heap:=h'}:=I.turned (t':=s.toks) (fun b o hb e=>(sb.2 b hb).trans e) f0 f1 f3 f4 f5;obtain⟨o,e,c,d⟩:=id Mo;exact⟨u,rfl,r9 (s:={s with heap:=h'}) e c d (by decide) ⟨x,H,I1,ru,⟨rfl,fun ys hy=>by rw[I.Jf hy hq];exact hx⟩,Mo,fun b hb=>(hf b hb).1⟩⟩
 done:=by intro X hP hw hK hc i pins s σ H E I hf st hg;subst hP hw hK;obtain⟨xs,hq,hx⟩:=hg;obtain⟨its,rv,p,hz⟩:=I.list hq;obtain⟨f0,f1,f2,f3,f4,f5⟩:=hf it (by simp);have hl:=rv.length;exact wpAny_pyNext_list_end (I.ok.hd hc) st p.isList (by simp;omega) fun h' eb=>⟨rfl,I.turned (t':=s.toks) (fun b o hb e=>eb b o hb e) f0 f1 f3 f4 f5⟩
 self:=fun _ _ _ _ _ st h=>wpAny_pyIter_listiter st h
theorem qQ {P:Ε}{w:Β}{K:Frag}{tg:Expr}(a it:Ω):Turn P w K tg (UA K a) [it] it (fun i h=>h.IsTupleIter it a i) where
 mem:=by simp
 obj:=fun i h st b hb=>by
  have e:b=it:=by simpa using hb
  subst e;obtain⟨o,e,c,d⟩:=st;exact⟨o,e,fun v z=>by rw[d]at z;cases z⟩
 keep:=fun i h h' st k=>st.at fun o e=>k it (by simp) o e
 item:=by intro X hP hw hK hc i pins s σ H E I hf st hg;subst hP hw hK;obtain⟨xs,x,hq,hx⟩:=hg;obtain⟨its,rv,p,hz⟩:=I.tuple hq;obtain⟨u,hu,ru⟩:=rv.get hx;obtain⟨f0,f1,f2,f3,f4,f5⟩:=hf it (by simp);refine wpAny_pyNext_tuple_item st (show s.heap.IsTuple a its.toArray from p) (x:=u) (by simpa using hu) fun h' Mo sb=>?_;have I1:Inv X pins σ H {s with heap:=h'}:=I.turned (t':=s.toks) (fun b o hb e=>(sb.2 b hb).trans e) f0 f1 f3 f4 f5;obtain⟨o,e,c,d⟩:=id Mo;exact⟨u,rfl,r9 (s:={s with heap:=h'}) e c d (by decide) ⟨x,H,I1,ru,⟨rfl,fun ys hy=>by rw[I.JQ hy hq];exact hx⟩,Mo,fun b hb=>(hf b hb).1⟩⟩
 done:=by intro X hP hw hK hc i pins s σ H E I hf st hg;subst hP hw hK;obtain⟨xs,hq,hx⟩:=hg;obtain⟨its,rv,p,hz⟩:=I.tuple hq;obtain⟨f0,f1,f2,f3,f4,f5⟩:=hf it (by simp);have hl:=rv.length;exact wpAny_pyNext_tuple_end (I.ok.hd hc) st (show s.heap.IsTuple a its.toArray from p) (by simp;omega) fun h' eb=>⟨rfl,I.turned (t':=s.toks) (fun b o hb e=>eb b o hb e) f0 f1 f3 f4 f5⟩
 self:=fun _ _ _ _ _ st h=>wpAny_pyIter_tupleiter st h
theorem qR {P:Ε}{w:Β}{K:Frag}{tg:Expr}(it:Ω)(lo:Int)(n:Nat):Turn P w K tg (QD lo n) [it] it (fun i h=>IsRangeIter h it (lo+(i:Nat)*1) ((n:Int) - (i:Nat)) 1) where
 mem:=by simp
 obj:=fun i h st b hb=>by
  have e:b=it:=by simpa using hb
  subst e
  exact⟨_,st,fun v z=>by
   have z':Data.fields _=Data.cell v:=z
   cases z'⟩
 keep:=fun i h h' st k=>k it (by simp) _ st
 item:=by intro X hP hw hK hc i pins s σ H E I hf st hg;subst hP hw hK;obtain⟨f0,f1,f2,f3,f4,f5⟩:=hf it (by simp);have W:=Walks.range (prog:=X.prog) (w:=X.w) (I.ok.hd hc) it lo 1 n;refine W.item i s _ _ hg st fun v h' tk hv Mo kk=>?_;obtain⟨t,rfl⟩:=hv;have I1:Inv X pins σ H {s with heap:=h',toks:=tk}:=I.turned (fun b o hb e=>kk b o (by simpa using hb) e) f0 f1 f3 f4 f5;refine⟨_,rfl,r9 (s:={s with heap:=h',toks:=tk}) (n:="range_iterator") Mo rfl rfl (by decide) ⟨.int (lo+i),H,I1,⟨t,?_⟩,⟨rfl,rfl⟩,Mo,fun b hb=>(hf b hb).1⟩⟩;rw[Int.mul_one]
 done:=by intro X hP hw hK hc i pins s σ H E I hf st hg;subst hP hw hK;obtain⟨f0,f1,f2,f3,f4,f5⟩:=hf it (by simp);exact wpAny_pyNext_range_end (I.ok.hd hc) st (by have:n<=i:=hg;omega) fun h' eb=>⟨rfl,I.turned (t':=s.toks) (fun b o hb e=>eb b o hb e) f0 f1 f3 f4 f5⟩
 self:=fun _ _ _ _ _ st h=>wpAny_pyIter_rangeiter st h
section
variable {X:Cx}{tg:Expr}
theorem vk {pins:List (Ω×Obj)}{σ:St}{H:Hp}{s:Α}{R:It->Hp->Prop}{E:Ψ->Α->Prop}{lo hi:Int}{t u v:Tok}{tk:Nat}(I:Inv X pins σ H s)(h1 : -(2 ^ 62)<=lo)(h2:lo < 2 ^ 62)(h3 : -(2 ^ 62)<=hi)(h4:hi < 2 ^ 62)
  (q:R (QD lo (hi - lo).toNat) H):Κ (Μ X.prog X.w) X.A (pyIter (.ref s.heap.objs.size)) (PQ X pins σ tg R) E {s with heap:=s.heap.push {cls:=.type "range",data:=.fields #[.int lo t,.int hi u,.int 1 v]},toks:=tk}:=by
 refine wpAny_pyIter_range (IsRange.new ..) (small_one h1 h2 h3 h4) ?_;have I1:Inv X pins σ H {s with heap:=s.heap.push {cls:=.type "range",data:=.fields #[.int lo t,.int hi u,.int 1 v]},toks:=tk}:=I.kept fun b o e=>l_ _ e
 refine⟨(s.heap.push {cls:=.type "range",data:=.fields #[.int lo t,.int hi u,.int 1 v]}).objs.size,[(s.heap.push {cls:=.type "range",data:=.fields #[.int lo t,.int hi u,.int 1 v]}).objs.size],_,_,H,rfl,
  I1.kept (t':=tk) fun b o e=>l_ _ e,qR _ lo (hi - lo).toNat,?_,fun b hb=>?_,q⟩
 ·have e1:lo+((0:Nat):Int)*1=lo:=by simp
  have e2:(((hi - lo).toNat:Nat):Int) - ((0:Nat):Int)=Builtin.Range.rangeSize lo hi 1:=by rw[rangeSize_one];split<;>omega
  show IsRangeIter _ _ (lo+((0:Nat):Int)*1) ((((hi - lo).toNat:Nat):Int) - ((0:Nat):Int)) 1;rw[e1,e2];exact z_ _ rfl
 ·have e:b=(s.heap.push {cls:=.type "range",data:=.fields #[.int lo t,.int hi u,.int 1 v]}).objs.size:=by simpa using hb
  subst e;exact I1.Ll (n_ _) (I1.IF.fresh (n_ _))
def Eo (ta:TA):TI:=fun σ H R=>ta σ H fun vs H1=>∃j:Int,vs=[.int j]/\-(2 ^ 62)<=j/\j < 2 ^ 62/\R (QD 0 j.toNat) H1
theorem nQ (hg:Gl X "range") (hm:X.mg "range" = Φ) (ha:PA X [a] ta) (hs:Ν [a] X.env=[(Ξ,eval a X.env)]:=by rfl):PI X tg (.Call (.Name "range" p) [a] [] pos) (Eo ta):=by
 intro pins s σ H R I h;refine Call_ (jn I hg hm boot_range (aao (IG (ha pos pins s σ H _ I h) fun us s1 ⟨vs,H1,I1,r1,q1⟩=>?_) hs rfl));obtain⟨j,e,q1,q2,q⟩:=q1;subst e;cases r1 with
 |cons r rr=>cases rr;obtain⟨t,rfl⟩:=r;exact call_range_1 (vk I1 (by omega) (by omega) q1 q2 (by simpa using q))
def GF (wi:TI)(g:TG)(tb:TS):TS:=fun D σ H=>wi σ H fun J H1=>∃W:Nat->Nat->St->Hp->Prop,(∃m,W 0 m σ H1)/\∀i m σ H,W i m σ H->
 (J.stop i H/\D.nx σ H)∨(J.go i H/\∃N:St->Hp->Prop,(∀Iw H',N Iw H'->∃m',m' < m/\W (i+1) m' Iw H')/\∀x H',J.MR i H x H'->g x σ H' fun K1 H2=>tb {D with nx:=N,ct:=N,bk:=D.nx} K1 H2)
noncomputable def kX (fp:List Ω)(h:Heap):List (Ω×Obj):=fp.filterMap fun b=>(h.get? b).map fun o=>(b,o)
theorem jP (hb:b∈fp)(e:h.get? b=Δ o):(b,o)∈kX fp h:=List.mem_filterMap.mpr ⟨b,hb,by rw[e];rfl⟩
theorem uo (hp:p∈kX fp h):p.1∈fp/\h.get? p.1=Δ p.2:=by
 obtain⟨b,hb,e⟩:=List.mem_filterMap.mp hp;cases q:h.get? b with
 |none=>rw[q]at e;cases e
 |some o=>rw[q]at e;have e':(b,o)=p:=I_ e;subst e';exact⟨hb,q⟩
theorem Inv.pinned (I:Inv X pins σ H s)(hf:∀b∈fp,kh X pins H b)(ho:∀b∈fp,∃o,s.heap.get? b=Δ o/\∀v,o.data≠.cell v):Inv X (pins++kX fp s.heap) σ H s:=
 I.LG fun p hp=>(s_.mp hp).elim (fun z=>I.pin p (v_ _ z)) fun z=>by obtain⟨hb,e⟩:=uo z;obtain⟨f0,f1,f2,_⟩:=hf p.1 hb;obtain⟨o,e',d⟩:=ho p.1 hb;rw[e]at e';cases e';exact⟨e,f0,f1,f2,d⟩
theorem Inv.JJ (I:Inv X (pins++pl) σ H s):Inv X pins σ H s:=I.LG fun p hp=>I.pin p (v_ _ (t_ _ hp))
theorem vm (hp:PassesOwn (Μ X.prog X.w) X.A X.env X.xe)(hc:X.calm=Θ)(hi:PI X tg iter wi)(hg:PG X tg g)(hb:Ks X body tb)
  (hs:∀x,foldedSetIterable iter X.env x=pure x:=by intro _;rfl):PS X (.For tg iter body [] pos) (GF wi g tb):=by
 intro pins s σ H D I h;refine wpAny_For (IG (hi pins s σ H _ I h) fun v s1 h1=>IG h1 fun Ta s2 h2=>?_) hs;obtain⟨it,fp,tn,J,H2,e,I2,T,NT,f2,W,⟨m0,w0⟩,turn⟩:=h2;subst e
 -- UB stays Θ of Oo Oq objects through Oo loop
 have Lm:∀ {H':Hp},(∀b∈fp,H' b=Φ)->∀b∈fp,kh X pins H' b:=fun hn b hb=>⟨hn b hb,(f2 b hb).2⟩
 refine codeAny_forLoop_any (fun n s'=>∃i Iw H',Inv X pins Iw H' s'/\tn i s'.heap/\(∀b∈fp,H' b=Φ)/\W i n Iw H') ?_ m0 ⟨0,σ,H2,I2,NT,fun b hb=>(f2 b hb).1,w0⟩;rintro n s3 ⟨i,Mn,H3,I3,XR,XT,w3⟩;rcases turn i n Mn H3 w3 with⟨stop,qn⟩|⟨go,N,hN,step⟩
 ·refine wpAny_passesOwn hp (IG (T.done X rfl rfl rfl hc i pins s3 Mn H3 X.xe I3 (Lm XT) XR stop) fun r s4 ⟨hr,I4⟩=>?_);subst hr;exact wpAny_execs_nil ⟨Mn,H3,I4,qn⟩
 ·refine wpAny_passesOwn hp (IG (T.item X rfl rfl rfl hc i pins s3 Mn H3 X.xe I3 (Lm XT) XR go) fun r s4 ⟨u,hr,h4⟩=>?_);subst hr;refine wpAny_passesOwn hp (IG h4 fun _ s5 ⟨x,H5,I5,r5,y5,QE,UC⟩=>?_);have ZD:=I5.pinned (Lm UC) (T.obj _ _ QE);refine wpAny_passesOwn hp (IG (hg _ s5 Mn H5 x u _ ZD r5 (step x H5 y5)) fun _ s6 ⟨Ot,H6,I6,q6⟩=>?_);refine wpAny_passesOwn hp (IG (hb _ s6 Ot H6 _ I6 q6) fun f s7 q7=>?_);have again:∀ {Mp:St}{H7:Hp},Inv X (pins++kX fp s5.heap) Mp H7 s7->N Mp H7->∃m,m < n/\∃i Iw H',Inv X pins Iw H' s7/\tn i s7.heap/\(∀b∈fp,H' b=Φ)/\W i m Iw H':=fun {Mp H7} I7 n7=>by obtain⟨m',hm,w7⟩:=hN Mp H7 n7;refine⟨m',hm,i+1,Mp,H7,I7.JJ,T.keep _ _ _ QE fun b hb o e=>(I7.pin (b,o) (v_ _ (v_ _ (jP hb e)))).1,fun b hb=>?_,w7⟩;obtain⟨o,e,d⟩:=T.obj _ _ QE b hb;exact(I7.pin (b,o) (v_ _ (v_ _ (jP hb e)))).2.1
  cases f with
  |next=>obtain⟨Mp,H7,I7,n7⟩:=q7;exact again I7 n7
  |cont=>obtain⟨Mp,H7,I7,n7⟩:=q7;exact again I7 n7
  |brk=>obtain⟨Mp,H7,I7,q7⟩:=q7;exact⟨Mp,H7,I7.JJ,q7⟩
  |ret v=>obtain⟨x7,Mp,H7,I7,r7,q7⟩:=q7;exact⟨x7,Mp,H7,I7.JJ,r7,q7⟩
end
abbrev R2:=V->V->Hp->VK->Prop
def Kh (X:Cx)(f:Ψ->Ψ->Sem Ψ)(r:R2):Prop:=
 ∀(pins:List (Ω×Obj)) (s:Α) (σ:St) (H:Hp) (x y:V) (v u:Ψ) (Q:VK),Inv X pins σ H s->RelV x v->RelV y u->r x y H Q->
  Κ (Μ X.prog X.w) X.A (f v u) (EP X pins σ Q) X.xe s
def UD (X:Cx)(f:Ψ->Sem Ψ)(r:V->Hp->VK->Prop):Prop:=
 ∀(pins:List (Ω×Obj)) (s:Α) (σ:St) (H:Hp) (x:V) (v:Ψ) (Q:VK),Inv X pins σ H s->RelV x v->r x H Q->
  Κ (Μ X.prog X.w) X.A (f v) (EP X pins σ Q) X.xe s
def ji (X:Cx)(f:Ψ)(r:List V->Hp->VK->Prop):Prop:=
 ∀(pins:List (Ω×Obj)) (s:Α) (σ:St) (H:Hp) (xs:List V) (us:List Ψ) (Q:VK),Inv X pins σ H s->Vals xs us->r xs H Q->
  Κ (Μ X.prog X.w) X.A (call f us) (EP X pins σ Q) X.xe s
def Td (r:R2)(ta tb:TE):TE:=fun σ H Q=>ta σ H fun x H1=>tb σ H1 fun y H2=>r x y H2 Q
def ZE (r:V->Hp->VK->Prop)(ta:TE):TE:=fun σ H Q=>ta σ H fun x H1=>r x H1 Q
def rI (C:Int->Int->Prop)(g:Int->Int->V):R2:=fun x y H Q=>∃i j,x=.int i/\y=.int j/\C i j/\Q (g i j) H
def UE (g:Int->Int->V):R2:=fun x y H Q=>∃i j,x=.int i/\y=.int j/\Q (g i j) H
def rU (g:Int->V):V->Hp->VK->Prop:=fun x H Q=>∃i,x=.int i/\Q (g i) H
section
variable {X:Cx}{a b c:Expr}{ta tb tc:TE}{pos:Pos}
theorem B1 (ha:PE X a ta)(hb:PE X b tb){pins:List (Ω×Obj)}{s:Α}{σ:St}{H:Hp}{R:V->V->Hp->Prop}(I:Inv X pins σ H s)
  (h:ta σ H fun x H1=>tb σ H1 fun y H2=>R x y H2) {Q:Ψ->Α->Prop}{f:Ψ->Ψ->Sem Ψ}
  (hf:∀v u s2 x y H2,Inv X pins σ H2 s2->RelV x v->RelV y u->R x y H2->Κ (Μ X.prog X.w) X.A (f v u) Q X.xe s2) :
  Κ (Μ X.prog X.w) X.A (eval a X.env) (fun v Iy=>Κ (Μ X.prog X.w) X.A (eval b X.env) (fun u L3=>Κ (Μ X.prog X.w) X.A (f v u) Q X.xe L3) X.xe Iy) X.xe s:=by
 refine IG (ha pins s σ H _ I h) fun v s1 ⟨x,H1,I1,r1,q1⟩=>?_;refine IG (hb pins s1 σ H1 _ I1 q1) fun u s2 ⟨y,H2,I2,r2,q2⟩=>?_;exact hf v u s2 x y H2 I2 r1 r2 q2
theorem sd (ho:Kh X (binaryOp op) r)(ha:PE X a ta)(hb:PE X b tb):PE X (.BinOp a op b pos) (Td r ta tb):=by intro pins s σ H Q I h;exact wpAny_BinOp (B1 ha hb I h fun v u s2 x y H2 I2 rx ry q=>ho pins s2 σ H2 x y v u Q I2 rx ry q)
theorem Ep (ho:UD X (unaryOp op) r)(ha:PE X a ta):PE X (.UnaryOp op a pos) (ZE r ta):=by intro pins s σ H Q I h;exact UnaryOp_ (IG (ha pins s σ H _ I h) fun v s1 ⟨x,H1,I1,r1,q1⟩=>ho pins s1 σ H1 x v Q I1 r1 q1)
theorem Te {f:Ψ->Ψ->Sem Ψ}{C:Int->Int->Prop}{g:Int->Int->Int}
  (rule:∀(i j:Int) (t u:Tok) (s:Α) (Q:Ψ->Α->Prop) (E:Ψ->Α->Prop),C i j->Q (.int (g i j) s.toks) {s with toks:=s.toks+1}->Κ (Μ X.prog X.w) X.A (f (.int i t) (.int j u)) Q E s) :
  Kh X f (rI C fun i j=>.int (g i j)):=by
 intro pins s σ H x y v u Q I rx ry h;obtain⟨i,j,rfl,rfl,hc,q⟩:=h;obtain⟨t,rfl⟩:=rx;obtain⟨t',rfl⟩:=ry;exact rule i j t t' s _ _ hc ⟨.int (g i j),H,I.tok _,⟨_,rfl⟩,q⟩
theorem Er {f:Ψ->Ψ->Sem Ψ}{g:Int->Int->Int}
  (rule:∀(i j:Int) (t u:Tok) (s:Α) (Q:Ψ->Α->Prop) (E:Ψ->Α->Prop),Q (.int (g i j) s.toks) {s with toks:=s.toks+1}->Κ (Μ X.prog X.w) X.A (f (.int i t) (.int j u)) Q E s) :
  Kh X f (UE fun i j=>.int (g i j)):=by
 intro pins s σ H x y v u Q I rx ry h;obtain⟨i,j,rfl,rfl,q⟩:=h;obtain⟨t,rfl⟩:=rx;obtain⟨t',rfl⟩:=ry;exact rule i j t t' s _ _ ⟨.int (g i j),H,I.tok _,⟨_,rfl⟩,q⟩
def GG (i j:Int):Prop:=0 < j/\j < 1073741824
def GH (i j:Int):Prop:=0<=j/\j<=1000000/\i.natAbs < 2 ^ 64
def B2 (i j:Int):Prop:=(-(2 ^ 64) < i/\i < 2 ^ 64)∨(-(2 ^ 64) < j/\j < 2 ^ 64)
theorem B2.ok (h:B2 i j):IntMulOk i j:=by
 rcases h with⟨h1,h2⟩|⟨h1,h2⟩
 ·exact .of_left (intBits_le_64 h1 h2)
 ·exact .of_right (intBits_le_64 h1 h2)
theorem B3:Kh X (binaryOp .Add) (UE fun i j=>.int (i+j)):=Er fun _ _ _ _ _ _ _ q=>add_int q
theorem B4:Kh X (binaryOp .Sub) (UE fun i j=>.int (i - j)):=Er fun _ _ _ _ _ _ _ q=>sub_int q
theorem B5:Kh X (binaryOp .Mult) (rI B2 fun i j=>.int (i*j)):=Te fun _ _ _ _ _ _ _ hc q=>mul_int q hc.ok
theorem yS:Kh X (binaryOp .FloorDiv) (rI GG fun i j=>.int (i / j)):=Te fun i j _ _ _ _ _ hc q=>by have h1:(0:Int) < j:=hc.1;have h2:j < 1073741824:=hc.2;exact floordiv_int (by omega) (by rw[Int.fdiv_eq_ediv_of_nonneg i (by omega)];exact q) (.inl (PyProof.noPylong_small (by omega)))
theorem B6:Kh X (binaryOp .Mod) (rI (fun _ j=>0 < j) fun i j=>.int (i % j)):=Te fun i j _ _ _ _ _ hc q=>by have h1:(0:Int) < j:=hc;exact mod_int' (by omega) (by rw[Int.fmod_eq_emod_of_nonneg i (by omega)];exact q)
theorem B7:Kh X (binaryOp .Pow) (rI GH fun i j=>.int (i ^ j.toNat)):=Te fun _ _ _ _ _ _ _ hc q=>pow_int_small hc.1 hc.2.1 hc.2.2 q
theorem ZF {f:Ψ->Sem Ψ}{g:Int->Int}
  (rule:∀(i:Int) (t:Tok) (s:Α) (Q:Ψ->Α->Prop) (E:Ψ->Α->Prop),Q (.int (g i) s.toks) {s with toks:=s.toks+1}->Κ (Μ X.prog X.w) X.A (f (.int i t)) Q E s) :
  UD X f (rU fun i=>.int (g i)):=by
 intro pins s σ H x v Q I rx h;obtain⟨i,rfl,q⟩:=h;obtain⟨t,rfl⟩:=rx;exact rule i t s _ _ ⟨.int (g i),H,I.tok _,⟨_,rfl⟩,q⟩
theorem B8:UD X (unaryOp .USub) (rU fun i=>.int (-i)):=ZF fun _ _ _ _ _ q=>neg_int q
end
section
variable {X:Cx}{a b c:Expr}{ta tb tc:TE}{pos:Pos}
theorem yT (ho:Kh X (compareOp op) r)(ha:PE X a ta)(hb:PE X b tb)(hm:behindInMarks op b=Ξ):PE X (.Compare a [op] [b] pos) (Td r ta tb):=by intro pins s σ H Q I h;exact wpAny_Compare1 (B1 ha hb I h fun v u s2 x y H2 I2 rx ry q=>ho pins s2 σ H2 x y v u Q I2 rx ry q) hm
def A7 (t:TE):TT:=fun σ H Q=>t σ H fun x H'=>∃k,x=.bl k/\Q k H'
theorem yU (ho:Kh X (compareOp op) r)(ha:PE X a ta)(hb:PE X b tb)(hm:behindInMarks op b=Ξ):PT X (.Compare a [op] [b] pos) (A7 (Td r ta tb)):=by
 intro pins s σ H Q I h
 refine wpAny_isTrue_Compare1 (IG (ha pins s σ H _ I h) fun v s1 ⟨x,H1,I1,r1,q1⟩=>IG (hb pins s1 σ H1 _ I1 q1) fun u s2 ⟨y,H2,I2,r2,q2⟩=>
  IG (ho pins s2 σ H2 x y v u _ I2 r1 r2 q2) fun c s3 ⟨z,H3,I3,r3,k,e,q3⟩=>?_) hm
 subst e;cases r3;exact wpAny_truthy_bool ⟨H3,I3,q3⟩
def vn (r r':R2)(ta tb tc:TE):TE:=fun σ H Q=>ta σ H fun x H1=>tb σ H1 fun y H2=>r x y H2 fun z H3=>∃k,z=.bl k/\
 (if k=Θ then tc σ H3 fun w' H4=>r' y w' H4 Q else Q (.bl Ξ) H3)
theorem vq (ho:Kh X (compareOp op) r)(L0:Kh X (compareOp Jr) r')(ha:PE X a ta)(hb:PE X b tb)(hc:PE X c tc)
  (hm:lastMarks [op,Jr] [b,c]=Ξ:=by with_unfolding_all rfl):PE X (.Compare a [op,Jr] [b,c] pos) (vn r r' ta tb tc):=by
 intro pins s σ H Q I h
 refine Compare_chain (IG (ha pins s σ H _ I h) fun v s1 ⟨x,H1,I1,r1,q1⟩=>chain_link (IG (hb pins s1 σ H1 _ I1 q1) fun u s2 ⟨y,H2,I2,r2,q2⟩=>
  IG (ho pins s2 σ H2 x y v u _ I2 r1 r2 q2) fun d s3 ⟨z,H3,I3,r3,k,e,q3⟩=>?_)) hm
 subst e;cases r3;refine wpAny_truthy_bool ?_;cases k with
 |false=>exact ite_ff ⟨.bl Ξ,H3,I3,rfl,q3⟩
 |true=>exact ite_tt (chain_last (IG (hc pins s3 σ H3 _ I3 q3) fun w' s4 ⟨z',H4,I4,r4,q4⟩=>L0 pins s4 σ H4 y z' u w' Q I4 r2 r4 q4))
theorem vt (ho:Kh X (compareOp op) r)(L0:Kh X (compareOp Jr) r')(ha:PE X a ta)(hb:PE X b tb)(hc:PE X c tc)
  (hm:lastMarks [op,Jr] [b,c]=Ξ:=by with_unfolding_all rfl):PT X (.Compare a [op,Jr] [b,c] pos) (A7 (vn r r' ta tb tc)):=by
 intro pins s σ H Q I h
 refine isTrue_chain (IG (ha pins s σ H _ I h) fun v s1 ⟨x,H1,I1,r1,q1⟩=>test_link (IG (hb pins s1 σ H1 _ I1 q1) fun u s2 ⟨y,H2,I2,r2,q2⟩=>
  IG (ho pins s2 σ H2 x y v u _ I2 r1 r2 q2) fun d s3 ⟨z,H3,I3,r3,k,e,q3⟩=>?_)) hm
 subst e;cases r3;refine wpAny_truthy_bool ?_;cases k with
 |false=>obtain⟨k',e',q'⟩:=q3;cases e';exact ite_ff ⟨H3,I3,q'⟩
 |true=>refine ite_tt (test_last (IG (hc pins s3 σ H3 _ I3 q3) fun w' s4 ⟨z',H4,I4,r4,q4⟩=>IG (L0 pins s4 σ H4 y z' u w' _ I4 r2 r4 q4) fun d' s5 ⟨z2,H5,I5,r5,k2,e2,q5⟩=>?_));subst e2;cases r5;exact wpAny_truthy_bool ⟨H5,I5,q5⟩
theorem mr:(Ζ:Nat) < 2 ^ 63:=by rw[sizeLine_eq];decide
theorem qS:Kh X (binaryOp .Add) (fun x y H Q=>∃i j,x=.str i/\y=.str j/\i.length+j.length<=Ζ/\Q (.str (i++j)) H):=by intro pins s σ H x y v u Q I rx ry h;obtain⟨i,j,rfl,rfl,hz,q⟩:=h;obtain⟨t,rfl⟩:=rx;obtain⟨t',rfl⟩:=ry;exact add_str (fun t' tk=>⟨.str (i++j),H,I.tok _,⟨_,rfl⟩,q⟩) hz
theorem vals1 (r:Vals [x] us):∃u,us=[u]/\RelV x u:=by
 cases r with
 |cons r1 r2=>cases r2;exact⟨_,rfl,r1⟩
theorem vals2 (r:Vals [x,y] us):∃u w',us=[u,w']/\RelV x u/\RelV y w':=by
 cases r with
 |cons r1 r2=>
  cases r2 with
  |cons r3 r4=>cases r4;exact⟨_,_,rfl,r1,r3⟩
theorem vw:ji X (.builtin "abs") (fun xs H Q=>∃i,xs=[.int i]/\Q (.int (if i < 0 then -i else i)) H):=by intro pins s σ H xs us Q I r h;obtain⟨i,rfl,q⟩:=h;obtain⟨u,rfl,t,rfl⟩:=vals1 r;exact call_abs_int fun u tk=>⟨.int (if i < 0 then -i else i),H,I.tok _,⟨_,rfl⟩,q⟩
theorem uq (hc:X.calm=Θ):ji X (.builtin "max") (fun xs H Q=>∃i j,xs=[.int i,.int j]/\Q (.int (if j > i then j else i)) H):=by
 intro pins s σ H xs us Q I r h;obtain⟨i,j,rfl,q⟩:=h;obtain⟨u,w',rfl,⟨t,rfl⟩,⟨t',rfl⟩⟩:=vals2 r;refine max_two_ints (I.ok.hd hc) fun h' tk k=>⟨_,H,I.kept k,?_,q⟩
 by_cases hj:j > i
 ·rw[f_ hj,f_ hj];exact⟨_,rfl⟩
 ·rw[d_ hj,d_ hj];exact⟨_,rfl⟩
theorem ur (hc:X.calm=Θ):ji X (.builtin "min") (fun xs H Q=>∃i j,xs=[.int i,.int j]/\Q (.int (if j < i then j else i)) H):=by
 intro pins s σ H xs us Q I r h;obtain⟨i,j,rfl,q⟩:=h;obtain⟨u,w',rfl,⟨t,rfl⟩,⟨t',rfl⟩⟩:=vals2 r;refine min_two_ints (I.ok.hd hc) fun h' tk k=>⟨_,H,I.kept k,?_,q⟩
 by_cases hj:j < i
 ·rw[f_ hj,f_ hj];exact⟨_,rfl⟩
 ·rw[d_ hj,d_ hj];exact⟨_,rfl⟩
theorem vx:ji X (.builtin "ord") (fun xs H Q=>∃x,xs=[.str x]/\x.length=1/\Q (.int (x.cps.getD 0 0:Nat)) H):=by intro pins s σ H xs us Q I r h;obtain⟨x,rfl,hz,q⟩:=h;obtain⟨u,rfl,t,rfl⟩:=vals1 r;exact ord_of_one hz ⟨.int _,H,I.tok _,⟨_,rfl⟩,q⟩
def GI (K:Frag)(x:V)(H:Hp)(n:Nat):Prop:=
 match x with
 |.str y=>y.length<=Ζ/\n=y.length
 |.Qv y=>y.size<=Ζ/\n=y.size
 |.ref p=>(∃xs,Jo K H p xs/\n=xs.length)∨∃xs,IP K H p xs/\n=xs.length
 |_=>False
theorem mB:ji X (.builtin "len") (fun xs H Q=>∃x n,xs=[x]/\GI X.K x H n/\Q (.int n) H):=by
 intro pins s σ H xs us Q I r h;obtain⟨x,n,rfl,e,q⟩:=h;obtain⟨u,rfl,rx⟩:=vals1 r;have hl:=mr;have hs:Ζ=16777216:=sizeLine_eq;cases x with
 |str y=>obtain⟨t,rfl⟩:=rx;obtain⟨hy,e'⟩:y.length<=Ζ/\n=y.length:=e;subst e';exact len_str (by omega) ⟨.int _,H,I.tok _,⟨_,rfl⟩,q⟩
 |Qv y=>obtain⟨t,rfl⟩:=rx;obtain⟨hy,e'⟩:y.size<=Ζ/\n=y.size:=e;subst e';exact PySem.W.len_bytes (by omega) ⟨.int _,H,I.tok _,⟨_,rfl⟩,q⟩
 |ref p=>
  cases rx;have e':(∃xs,Jo X.K H p xs/\n=xs.length)∨∃xs,IP X.K H p xs/\n=xs.length:=e;rcases e' with⟨xs,hx,e'⟩|⟨xs,hx,e'⟩
  ·subst e';obtain⟨its,r',pl,hz⟩:=I.list hx;have hlen:=r'.length;exact Calls.call_len_list pl.isList (by simp only[E_];omega) ⟨.int xs.length,H,I.tok _,⟨_,by simp only[E_];rw[hlen]⟩,q⟩
  ·subst e';obtain⟨its,r',pl,hz⟩:=I.tuple hx;have hlen:=r'.length;exact len_tuple pl (by simp only[E_];omega) ⟨.int xs.length,H,I.tok _,⟨_,by simp only[E_];rw[hlen]⟩,q⟩
 |_=>exact(show False from e).elim
end
theorem nv.some_of (r:nv (Δ v) o):∃u,o=Δ u/\RelV v u:=by
 cases o with
 |none=>exact(show False from r).elim
 |some u=>exact⟨u,rfl,r⟩
structure JB (k:Nat)(A:Ι):Prop where
 hd:k < 1000->A.handled=Φ
 dp:A.depth+3*(k % 1000)+5 < recursionLimit
 un:A.units+16*(k % 1000)+200 < cLine
theorem JB.deeper (r:JB (k+1) A)(env:Env)(hk:k % 1000≠999):JB k (A.deeper env):=
 ⟨fun z=>r.hd (by omega),by have:=r.dp;show A.depth+1+3*(k % 1000)+5 < _;omega,by have:=r.un;show A.units+3+16*(k % 1000)+200 < _;omega⟩
theorem JB.depth (r:JB k A):A.depth < recursionLimit:=by have:=r.dp;omega
def pQ:TA:=fun _ H Q=>Q [] H
def kz (ta:TE)(tr:TA):TA:=fun σ H Q=>ta σ H fun x H1=>tr σ H1 fun xs H2=>Q (x::xs) H2
section
variable {X:Cx}{e:Expr}{es:List Expr}{te:TE}{t:TA}{pos:Pos}
theorem iK:PA X [] pQ:=fun _ _ _ _ H Q I h=>Calls.spliced_nil ⟨[],H,I,.nil,h⟩
theorem ip (ha:PE X e te)(hr:PA X es t)(hs:Ν (e::es) X.env=(Ξ,eval e X.env)::Ν es X.env:=by rfl):PA X (e::es) (kz te t):=by intro pos pins s σ H Q I h;rw[hs];show Κ _ _ (spliced ((Ξ,eval e X.env)::backTo pos (Ν es X.env))) _ _ s;refine Calls.spliced_cons (IG (ha pins s σ H _ I h) fun u s1 ⟨x,H1,I1,r1,q1⟩=>?_);exact IG (hr pos pins s1 σ H1 _ I1 q1) fun us s2 ⟨xs,H2,I2,r2,q2⟩=>⟨x::xs,H2,I2,.cons r1 r2,q2⟩
def GJ (t:TA):TE:=fun σ H Q=>t σ H fun xs H1=>xs.length<=Ζ/\∀p,H1 p=Φ->Q (.ref p) (upd H1 p (.tup xs))
def Es (t:TA):TE:=fun σ H Q=>t σ H fun xs H1=>xs.length<=Ζ/\∀p,H1 p=Φ->Q (.ref p) (upd H1 p (.lst xs))
theorem vy {x1}(h:PA X es t):PE X (.Tuple es x1 pos) (GJ t):=by intro pins s σ H Q I hq;refine wpAny_Tuple_spliced (IG (h pos pins s σ H _ I hq) fun us s1 ⟨xs,H1,I1,r,z,q⟩=>⟨by rw[<- r.length];exact z,?_⟩);have hf:H1 s1.heap.objs.size=Φ:=I1.IF.fresh (n_ _);refine⟨.ref s1.heap.objs.size,upd H1 s1.heap.objs.size (.tup xs),I1.laid (t':=s1.toks) (fun b u e=>l_ _ e) (n_ _) ?_,rfl,q _ hf⟩;exact⟨z,us,r,⟨_,z_ _ rfl,rfl,_,rfl⟩⟩
theorem mC (h:PA X es t):PE X (.List es pos) (Es t):=by intro pins s σ H Q I hq;refine wpAny_List_spliced (IG (h pos pins s σ H _ I hq) fun us s1 ⟨xs,H1,I1,r,z,q⟩=>⟨by rw[<- r.length];exact z,?_⟩);have hf:H1 s1.heap.objs.size=Φ:=I1.IF.fresh (n_ _);refine⟨.ref s1.heap.objs.size,upd H1 s1.heap.objs.size (.lst xs),I1.laid (t':=s1.toks) (fun b u e=>l_ _ e) (n_ _) ?_,rfl,q _ hf⟩;exact⟨z,us,0,r,z_ _ rfl⟩
end
abbrev Sp:=List V->Hp->VK->XK->Prop
abbrev JD:=List Env->Hp->Α->XK->Ψ->Α->Prop
structure L4 (P:Ε)(w:Β)(K:Frag)(mg:Str->Option Ψ)(base:Heap)(A:Ι)(outer:List Env)(s:Α)(H:Hp):Prop where
 frames:A.frames=Δ outer
 mod:Mod K mg base
 bs:∀b o,base.get? b=Δ o->s.heap.get? b=Δ o/\H b=Φ
 Na:base.objs.size<=s.heap.objs.size
 JZ:s.heap.FunFrames base outer
 MQ:∀b∈Kg outer,H b=Φ
 IF:Ji P w H s.heap
 bare:AllBare s.gens
def CE (outer:List Env)(P:Ε)(w:Β)(H:Hp)(s:Α)(Q:VK)(u:Ψ)(s':Α):Prop:=
 ∃v H',s'.os=s.os/\AllBare s'.gens/\Un (Kg outer) [] H H' s.heap s'.heap/\Ji P w H' s'.heap/\RelV v u/\Q v H'
def CR (CX:JD)(outer:List Env)(P:Ε)(w:Β)(H:Hp)(s:Α)(Q:VK)(E:XK)(r:Result)(s':Α):Prop:=
 match r with
 |.ok (.ret u)=>CE outer P w H s Q u s'
 |.ok _=>False
 |.error e=>CX outer H s E e s'
structure J9 (P:Ε)(w:Β)(K:Frag)(mg:Str->Option Ψ)(base:Heap)(CX:JD)(k:Nat)(f:Ω)(fd:Ο)(ps:List Str)(sp:Sp):Prop where
 len:∀vs H Q E,sp vs H Q E->vs.length=ps.length
 run:∀(A:Ι) (outer:List Env) (s:Α) (H:Hp) (args:Args) (us:List Ψ) (vs:List V) (Q:VK) (E:XK),JB k A->L4 P w K mg base A outer s H->BindsTo s fd args (ps.zip us)->Vals vs us->sp vs H Q E->
  codeAny (Μ P w) A (.call (.ref f) args) (CR CX outer P w H s Q E) s
section
variable {X:Cx}{pins:List (Ω×Obj)}{σ:St}{H:Hp}{s s':Α}
theorem Inv.Ki (I:Inv X pins σ H s):L4 X.prog X.w X.K X.mg X.base X.A X.stack s H:=
 ⟨I.ok.frames,I.ok.mod,I.bs,Q_ I.ok.Na I.sz,I.stack,I.LF,I.IF,I.bare⟩
theorem Inv.after (I:Inv X pins σ H s)(h:CE X.stack X.prog X.w H s Q u s'):EP X pins σ Q u s':=by obtain⟨v,H',os,bare,un,IF,r,q⟩:=h;obtain⟨hh,g,d,t,UG⟩:=s';obtain rfl:UG=s.os:=os;exact⟨v,H',I.call (h':=hh) (g':=g) (d':=d) (t':=t) (ch:=[]) un IF bare (fun b z=>absurd z (by simp)),r,q⟩
end
def Binds (K:Frag)(fd:Ο)(ps:List Str)(ds:List Ψ):Prop:=
 ∀(s:Α) (us:List Ψ),K.In s.heap->(us++ds).length=ps.length->BindsTo s fd ⟨us,[]⟩ (ps.zip (us++ds))
theorem Binds.all {K:Frag}{fd:Ο}{ps:List Str}(h:∀us:List Ψ,us.length=ps.length->bindArgs fd ⟨us,[]⟩=pure (ps.zip us)):Binds K fd ps []:=fun s us _ hl=>by rw[aal]at hl ⊢;exact .of_eq (h us hl)
def Passes (CX:JD)(X:Cx)(E:XK):Prop:=∀(pins:List (Ω×Obj)) (σ:St) (H:Hp) (s:Α) (e:Ψ) (s':Α),Inv X pins σ H s->CX X.stack H s E e s'->X.xe e s'
structure KI (N P:List Str)(sc:Scope):Prop where
 kind:sc.kind=.function
 co:sc.isCoroutine=Ξ
 gen:sc.isGenerator=Ξ
 nd:N.Nodup
 pre:N.take P.length=P
 par:∀x∈P,sc.names.lookup x=Δ .local∨sc.names.lookup x=Δ .cell
 Ou:∀y∈sc.names,y.2≠.free
theorem nR {kindOf:Str->Option NameKind}{x:Str}:∀ {binds:List (Str×Ψ)}{m:Str->Option Ψ},(∀v,(x,v)∉binds)->bindL kindOf binds m x=m x
 |[],_,_=>rfl
 | (n,v)::r,m,h=>by
  unfold bindL;rw[nR fun w hw=>h w (K_ _ hw)];split
  ·have:x≠n:=by rintro rfl;exact h v aaF
   simp[this]
  ·rfl
theorem nT {kindOf:Str->Option NameKind}{x:Str}:∀ {binds:List (Str×Ψ)}{m:Str->Option Ψ},(∀v,(x,v)∉binds)->bindC kindOf binds m x=m x
 |[],_,_=>rfl
 | (n,v)::r,m,h=>by
  unfold bindC;rw[nT fun w hw=>h w (K_ _ hw)];split
  ·rfl
  ·have:x≠n:=by rintro rfl;exact h v aaF
   simp[this]
theorem nU {kindOf:Str->Option NameKind}{x:Str}{v:Ψ}:∀ {P:List Str}{vs:List Ψ}{i:Nat}{m:Str->Option Ψ},P.Nodup->P[i]? = Δ x->vs[i]? = Δ v->kindOf x=Δ .local->
  bindL kindOf (P.zip vs) m x=Δ v
 |[],_,_,_,_,h,_,_=>by simp at h
 |_::_,[],_,_,_,_,h,_=>by simp at h
 |p::P,w::vs,0,m,nd,h1,h2,hk=>by simp at h1 h2;subst h1;subst h2;show bindL kindOf ((p,w)::P.zip vs) m p=_;unfold bindL;rw[nR fun v hv=>(L_.mp nd).1 (List.of_mem_zip hv).1,f_ hk];simp
 |p::P,w::vs,i+1,m,nd,h1,h2,hk=>by show bindL kindOf ((p,w)::P.zip vs) m x=_;unfold bindL;exact nU (i:=i) (L_.mp nd).2 (by simpa using h1) (by simpa using h2) hk
theorem nV {kindOf:Str->Option NameKind}{x:Str}{v:Ψ}:∀ {P:List Str}{vs:List Ψ}{i:Nat}{m:Str->Option Ψ},P.Nodup->P[i]? = Δ x->vs[i]? = Δ v->kindOf x≠Δ .local->
  bindC kindOf (P.zip vs) m x=Δ v
 |[],_,_,_,_,h,_,_=>by simp at h
 |_::_,[],_,_,_,_,h,_=>by simp at h
 |p::P,w::vs,0,m,nd,h1,h2,hk=>by simp at h1 h2;subst h1;subst h2;show bindC kindOf ((p,w)::P.zip vs) m p=_;unfold bindC;rw[nT fun v hv=>(L_.mp nd).1 (List.of_mem_zip hv).1,d_ hk];simp
 |p::P,w::vs,i+1,m,nd,h1,h2,hk=>by show bindC kindOf ((p,w)::P.zip vs) m x=_;unfold bindC;exact nV (i:=i) (L_.mp nd).2 (by simpa using h1) (by simpa using h2) hk
noncomputable def start (N:List Str)(vs:List V):St:=vs.map Δ++Τ (N.length - vs.length) Φ
noncomputable def vz (CX:JD)(P:Ε)(w:Β)(K:Frag)(mg:Str->Option Ψ)(base:Heap)(N:List Str)(qual:Str)(scope:Scope)(f:Ω)(cd:Ψ)(A:Ι)(outer:List Env)(s:Α)(H:Hp)(E:XK):Cx where
 prog:=P
 w:=w
 K:=K
 mg:=mg
 base:=base
 A:=A.deeper (envOfC qual scope s.heap.objs.size f cd)
 N:=N
 IY:=s
 LZ:=H
 env:=envOfC qual scope s.heap.objs.size f cd
 outer:=outer
 stack:=envOfC qual scope s.heap.objs.size f cd::outer
 ex:=[]
 calm:=A.handled.isNone
 fn:=fun _=>Θ
 pn:=[]
 xe:=fun e s'=>Κ (Μ P w) (A.deeper (envOfC qual scope s.heap.objs.size f cd)) (leaving (envOfC qual scope s.heap.objs.size f cd) e) (fun _ Mq=>CX outer H s E e Mq) (fun e' Mq=>CX outer H s E e' Mq) s'
theorem pR {sc:Scope}{n:Nat}{x:Str}(h:sc.names.lookup x=Δ .cell):∃c,(cellsFrom n sc.names []).lookup x=Δ c:=by have q:=PySem.W.cellsFrom_some sc.names n [] (.inl h);exact Option.isSome_iff_exists.mp q
theorem uu {CX:JD}{P:Ε}{w:Β}{K:Frag}{mg:Str->Option Ψ}{base:Heap}{N ps:List Str}{qual:Str}{scope:Scope}{f:Ω}{cd:Ψ}{A:Ι}{outer:List Env}{s s1:Α}{H:Hp}{E:XK}{us:List Ψ}{vs:List V}
  (S:KI N ps scope) (e0:L4 P w K mg base A outer s H) (hl:vs.length=ps.length) (r:Vals vs us)
  (x:InCallC s s.heap.objs.size (bindL (envOfC qual scope s.heap.objs.size f cd).kindOf (ps.zip us) fun _=>Φ) (cellsFrom (s.heap.objs.size+1) scope.names []) (bindC (envOfC qual scope s.heap.objs.size f cd).kindOf (ps.zip us) fun _=>Φ) s1) :
  Inv (vz CX P w K mg base N qual scope f cd A outer s H E) [] (start N vs) H s1:=by
 have Ov:ps.length<=N.length:=by have:=congrArg List.length S.pre;rw[O_]at this;omega
 obtain⟨h1,tk,rfl,hk⟩:=x.done;have QF:∀b:Ω,b∉(vz CX P w K mg base N qual scope f cd A outer s H E).ex:=fun b z=>absurd (show b∈([]:List Ω) from z) (by simp)
 refine⟨⟨e0.mod,S.kind,rfl,rfl,n_ _,fun y z c h1 h2=>?_,fun y hy=>?_,fun y c _ h=>?_,fun h=>Option.isNone_iff_eq_none.mp h,Around.frames_deeper e0.frames,.inr ⟨rfl,rfl⟩,fun b z=>absurd z (QF b),e0.bs,e0.Na,fun b _ _=>QF b,fun b z=>absurd z (QF b),e0.JZ,e0.MQ⟩,
  rfl,e0.bare,Un.kept hk,⟨_,x.toInCall.ns,fun i y v h1 h2 h3=>?_⟩,fun y c h=>⟨_,x.cell y c h⟩,e0.IF.fresh (n_ _),fun y c h=>?_,fun p hp=>absurd (show p∈([]:List (Ω×Obj)) from hp) (by simp),e0.IF.kept hk,?_⟩
 ·exact name_of_addr x.apart (PySem.mem_of_lookup h1) (PySem.mem_of_lookup h2)
 ·have hy:scope.names.lookup y=Δ .cell∨scope.names.lookup y=Δ .free:=hy;rcases hy with hy|hy
  ·exact pR hy
  ·exact absurd rfl (S.Ou _ (PySem.mem_of_lookup hy))
 ·exact Nat.le_of_lt (x.above y c (PySem.mem_of_lookup h))
 ·have hi:i < vs.length:=by
   unfold start at h2;by_cases hi:i < vs.length
   ·exact hi
   ·rw[aaH (by simpa using hi)]at h2;rw[List.getElem?_replicate]at h2;split at h2<;>cases h2
  have ha:vs[i]? = Δ v:=by
   unfold start at h2;rw[aat (by simpa using hi),A_]at h2;cases e:vs[i]? with
   |none=>rw[e]at h2;cases h2
   |some a=>rw[e]at h2;cases h2;rfl
  obtain⟨u,hu,rv⟩:=r.get ha;have hp:ps[i]? = Δ y:=by rw[<- S.pre,List.getElem?_take_of_lt (by omega)];exact h1
  have XU:ps.Nodup:=by rw[<- S.pre];exact S.nd.sublist (List.take_sublist _ _)
  refine⟨u,rv,?_⟩;rcases S.par y (J_ hp) with k|k
  ·exact .inl ⟨k,nU XU hp hu k⟩
  ·obtain⟨c,e⟩:=pR (n:=s.heap.objs.size+1) k;refine .inr ⟨.inl k,c,e,?_⟩;have q:=x.cell y c e;rw[nV XU hp hu (by show scope.names.lookup y≠_;rw[k];decide)]at q;exact q
 ·exact e0.IF.fresh (Nat.le_of_lt (x.above y c (PySem.mem_of_lookup h)))
 ·unfold start;show _=N.length;rw[w_,g_,List.length_replicate];omega
theorem Et {CX:JD}{P:Ε}{w:Β}{K:Frag}{mg:Str->Option Ψ}{base:Heap}{k:Nat}{f:Ω}{name qual:Str}{params:Arguments}{body:List Stmt}{scope:Scope}{dV kV doc pm Ku ct oc:Ψ}{an od:Option Ω}
  {MT:Array (Option Ψ)}{N ps:List Str}{sp:Sp} (lk:K.lookup f=Δ ⟨oc,od,.func (PySem.W.fnOf name qual params body scope dV kV doc pm an Ku ct),MT⟩) (Ng:PySem.W.codeIn K Ku qual=Θ) (S:KI N ps scope)
  (ZG:k % 1000≠999) (len:∀vs H Q E,sp vs H Q E->vs.length=ps.length)
  (QG:∀(A:Ι) (outer:List Env) (s:Α) (H:Hp) (vs:List V) (Q:VK) (E:XK),JB k (A.deeper (envOfC qual scope s.heap.objs.size f Ku))->sp vs H Q E->
   ∃t,Ks (vz CX P w K mg base N qual scope f Ku A outer s H E) body t/\t {nx:=fun _ H'=>Q .IB H',rt:=Q} (start N vs) H) :
  J9 P w K mg base CX (k+1) f (PySem.W.fnOf name qual params body scope dV kV doc pm an Ku ct) ps sp:=by
 refine⟨len,fun A outer s H args us vs Q E hr e0 hb r Lh=>?_⟩;have hl:=len _ _ _ _ Lh;have KX:K.In s.heap:=e0.mod.S6.keeps fun b o e=>(e0.bs b o e).1;have lim:s.heap.NoLimit:=e0.mod.nolimit.keeps fun b o e=>(e0.bs b o e).1;have QH:∀y∈ps.zip us,scope.names.lookup y.1=Δ .local∨(scope.names.lookup y.1=Δ .cell/\((cellsFrom (s.heap.objs.size+1) scope.names []).lookup y.1).isSome=Θ):=fun⟨n,v⟩ hy=>by
  rcases S.par n (List.of_mem_zip hy).1 with q|q
  ·exact .inl q
  ·exact .inr ⟨q,PySem.W.cellsFrom_some _ _ _ (.inl q)⟩
 refine codeAny_call_function hr.depth (KX _ _ lk) rfl S.co S.gen rfl (PySem.W.codeRec_of KX Ng) (hb _ _ _ _ ?_);refine wpAny_newFunctionEnv_cells S.kind QH fun env he s1 x=>?_;subst he;refine⟨lim.keeps x.toInCall.keep,codeAny_func ?_⟩;obtain⟨t,ht,hq⟩:=QG A outer s H vs Q E (hr.deeper _ ZG) Lh;have I:Inv (vz CX P w K mg base N qual scope f Ku A outer s H E) [] (start N vs) H s1:=uu S e0 hl r x;refine wpAny_mono (ht [] s1 (start N vs) H _ I hq) (fun fl s' hs=>?_) fun e s' hs=>hs;have fin:∀ {Iw:St}{H':Hp}{v:V}{u:Ψ},Inv (vz CX P w K mg base N qual scope f Ku A outer s H E) [] Iw H' s'->RelV v u->Q v H'->CE outer P w H s Q u s':=
  fun {Iw H' v u} J rv q=>⟨v,H',J.os,J.bare,J.base,J.IF,rv,q⟩
 cases fl with
 |ret u=>obtain⟨v,Iw,H',J,rv,q⟩:=hs;exact fin J rv q
 |next=>obtain⟨Iw,H',J,q⟩:=hs;exact fin (v:=V.IB) (u:=Value.none) J rfl q
 |brk=>obtain⟨_,_,_,q⟩:=hs;exact False.elim q
 |cont=>obtain⟨_,_,_,q⟩:=hs;exact False.elim q
section
variable {X:Cx}{x:Str}{p pos:Pos}{e:Expr}{es:List Expr}{t:TA}{id T:String}{r:List V->Hp->VK->Prop}
def UH (r:List V->Hp->VK->Prop)(t:TA):TE:=fun σ H Q=>t σ H fun vs H1=>r vs H1 Q
theorem mD (hc:ji X (.builtin id) r)(hg:Gl X x)(hm:X.mg x=Φ)(hv:bootBuiltins x=Δ (.builtin id))(ha:PA X (e::es) t)(hn:x≠"__name__":=by decide) (UI:(x == ("__debug__" : Str))=Ξ:=by decide)
  (he:Ν (e::es) X.env=(Ξ,eval e X.env)::Ν es X.env:=by rfl) (Ov:(backTo pos (Ν es X.env)).any (·.1)=Ξ:=by rfl):PE X (.Call (.Name x p) (e::es) [] pos) (UH r t):=by
 intro pins s σ H Q I h;refine aau (jn I hg hm hv ?_ hn UI);exact PyProof.Rows.callWith_builtin1 (IG (ha pos pins s σ H _ I h) fun us s1 ⟨vs,H1,I1,r1,q1⟩=>hc pins s1 σ H1 vs us Q I1 r1 q1) he Ov
theorem kY (hc:ji X (.type T) r)(hg:Gl X x)(hm:X.mg x=Φ)(hv:bootBuiltins x=Δ (.type T))(ha:PA X (e::es) t)(hn:x≠"__name__":=by decide) (UI:(x == ("__debug__" : Str))=Ξ:=by decide)
  (he:Ν (e::es) X.env=(Ξ,eval e X.env)::Ν es X.env:=by rfl) (Ov:(backTo pos (Ν es X.env)).any (·.1)=Ξ:=by rfl):PE X (.Call (.Name x p) (e::es) [] pos) (UH r t):=by
 intro pins s σ H Q I h;refine aau (jn I hg hm hv ?_ hn UI);exact aao (IG (ha pos pins s σ H _ I h) fun us s1 ⟨vs,H1,I1,r1,q1⟩=>hc pins s1 σ H1 vs us Q I1 r1 q1) he Ov
end
end L2
namespace HT
open PySem PyProof.Rows
section
variable {prog:Ε}{w:Β}{A:Ι}{E:Ψ->Α->Prop}{s:Α}
noncomputable def Kj (n d:Nat):Option Int->Nat
 |none=>d
 |some v=>if v < 0 then(v+(n:Int)).toNat else min v.toNat n
theorem Mr (n d:Nat):Kj n d Φ=d:=rfl
theorem Nh (n d k:Nat):Kj n d (Δ (k:Int))=min k n:=by show(if(k:Int) < 0 then((k:Int)+(n:Int)).toNat else min (k:Int).toNat n)=min k n;rw[d_ (by omega),aak]
end
end HT
namespace L2
open PySem PySem.Spec PyProof.Rows
abbrev TO:=St->Hp->(Option Int->Hp->Prop)->Prop
def PO (X:Cx)(e:Option Expr)(t:TO):Prop:=
 ∀(pins:List (Ω×Obj)) (s:Α) (σ:St) (H:Hp) (Q:Option Int->Hp->Prop),Inv X pins σ H s->t σ H Q->
  Κ (Μ X.prog X.w) X.A (evalPart e X.env) (fun u s'=>∃o H',Inv X pins σ H' s'/\IsPart u o/\Q o H') X.xe s
def yV:TO:=fun _ H Q=>Q Φ H
def Eu (t:TE):TO:=fun σ H Q=>t σ H fun x H1=>∃i,x=.int i/\Q (Δ i) H1
theorem intsAre_of:∀ {us:List Ψ},Vals (ns.map V.int) us->IntsAre us ns:=by
 induction ns with
 |nil=>intro us r;rw[List.map_nil]at r;cases r;exact .nil
 |cons n ns ih=>
  intro us r;rw[b_]at r;cases r with
  |cons r1 r2=>obtain⟨t,e⟩:=r1;subst e;exact .cons n t (ih r2)
section
variable {X:Cx}{e:Expr}{te:TE}{lo hi:Option Expr}{tl th:TO}{pos p2:Pos}
theorem yW:PO X Φ yV:=by intro pins s σ H Q I h;rw[evalPart_none];exact e_ ⟨Φ,H,I,.none,h⟩
theorem yX (h:PE X e te):PO X (Δ e) (Eu te):=by intro pins s σ H Q I hw;rw[evalPart_some];refine IG (h pins s σ H _ I hw) fun u s1 ⟨x,H1,I1,r1,q1⟩=>?_;obtain⟨i,rfl,q⟩:=q1;obtain⟨t,rfl⟩:=r1;exact⟨Δ i,H1,I1,.int i t,q⟩
def Tf (X:Cx)(r:V->Option Int->Option Int->Hp->VK->Prop):Prop:=
 ∀(pins:List (Ω×Obj)) (s:Α) (σ:St) (H:Hp) (x:V) (v vl vu:Ψ) (lo hi:Option Int) (sl:Ω) (Q:VK),Inv X pins σ H s->RelV x v->s.heap.IsSliceOf sl vl vu .none->IsPart vl lo->IsPart vu hi->r x lo hi H Q->
  ∃T id,typeLookup (.type T) "__getitem__" = pure (Δ (.builtin id))/\s.TypeIs v T/\Κ (Μ X.prog X.w) X.A (getItem v (.ref sl)) (EP X pins σ Q) X.xe s
def ZH (r:V->Option Int->Option Int->Hp->VK->Prop)(te:TE)(tl th:TO):TE:=fun σ H Q=>te σ H fun x H1=>tl σ H1 fun l H2=>th σ H2 fun u H3=>r x l u H3 Q
theorem pS (hr:Tf X r)(he:PE X e te)(hl:PO X lo tl)(hu:PO X hi th):PE X (.Subscript e (.Slice lo hi Φ p2) pos) (ZH r te tl th):=by intro pins s σ H Q I h;refine Subscript_ (IG (he pins s σ H _ I h) fun v s1 ⟨x,H1,I1,r1,q1⟩=>?_);refine wpAny_Slice (IG (hl pins s1 σ H1 _ I1 q1) fun vl s2 ⟨l,H2,I2,pl,q2⟩=>IG (hu pins s2 σ H2 _ I2 q2) fun vu s3 ⟨u,H3,I3,pu,q3⟩=>?_);rw[evalPart_none];refine e_ ?_;have I4:Inv X pins σ H3 {s3 with heap:=s3.heap.push {cls:=.type "slice",data:=.fields #[vl,vu,.none]}}:=I3.kept (t':=s3.toks) fun b ob q=>l_ _ q;obtain⟨T,id,hT,ht,hg⟩:=hr pins {s3 with heap:=s3.heap.push {cls:=.type "slice",data:=.fields #[vl,vu,.none]}} σ H3 x v vl vu l u s3.heap.objs.size Q I4 r1 (Heap.IsSliceOf.new ..) pl pu q3;show Κ (Μ X.prog X.w) X.A (subscriptTail e (.Slice lo hi Φ p2) v (.ref s3.heap.objs.size)) (EP X pins σ Q) X.xe {s3 with heap:=s3.heap.push {cls:=.type "slice",data:=.fields #[vl,vu,.none]}};exact tail_any (ops:=[.ref s3.heap.objs.size,v]) ht hT hg (by with_unfolding_all rfl)
noncomputable def uv (xs:List V)(lo hi:Option Int):List V:=(xs.drop (HT.Kj xs.length 0 lo)).take (HT.Kj xs.length xs.length hi - HT.Kj xs.length 0 lo)
theorem pT (xs:List V)(lo hi:Option Int):(uv xs lo hi).length<=xs.length:=by unfold uv;rw[O_,aam];omega
end
noncomputable def Kc (n:Nat)(i:Int):Option Nat:=if 0<=i then(if i < n then Δ i.toNat else Φ) else if -(n:Int)<=i then Δ (i+n).toNat else Φ
noncomputable def JG {α:Type}(xs:List α)(i:Int):Option α:=(Kc xs.length i).bind fun j=>xs[j]?
theorem oJ (h:Kc n i=Δ j):seqIndex? i n=Δ j/\j < n/\-(n:Int)<=i/\i < n:=by
 unfold Kc at h;by_cases h0:0<=i
 ·rw[f_ h0]at h;by_cases h1:i < n
  ·rw[f_ h1]at h;have e:i.toNat=j:=I_ h;exact⟨by rw[seqIndex_of h0 h1,e],by omega,by omega,h1⟩
  ·rw[d_ h1]at h;cases h
 ·rw[d_ h0]at h;by_cases h1 : -(n:Int)<=i
  ·rw[f_ h1]at h;have e:(i+n).toNat=j:=I_ h;exact⟨by rw[seqIndex_neg (by omega) h1,e],by omega,h1,by omega⟩
  ·rw[d_ h1]at h;cases h
theorem oK (h:JG xs i=Δ v):∃j,seqIndex? i xs.length=Δ j/\xs[j]? = Δ v/\j < xs.length/\-(xs.length:Int)<=i/\i < xs.length:=by
 unfold JG at h;cases e:Kc xs.length i with
 |none=>rw[e]at h;cases h
 |some j=>rw[e]at h;obtain⟨h1,h2,h3,h4⟩:=oJ e;exact⟨j,h1,h,h2,h3,h4⟩
def yY (b:Expr):Prop:=∀o i,subscripted b Ξ o i=operate [o,i] (getItem o i)
def MU (X:Cx)(r:R2):Prop:=
 ∀(value slice:Expr) (pins:List (Ω×Obj)) (s:Α) (σ:St) (H:Hp) (x y:V) (v u:Ψ) (Q:VK),Inv X pins σ H s->RelV x v->RelV y u->r x y H Q->
  subscripted slice Ξ v u=operate [v,u] (getItem v u)->Κ (Μ X.prog X.w) X.A (subscriptTail value slice v u) (EP X pins σ Q) X.xe s
def UJ (X:Cx)(id:String)(r:V->List V->Hp->VK->Prop):Prop:=
 ∀(pins:List (Ω×Obj)) (s:Α) (σ:St) (H:Hp) (x:V) (xs:List V) (v:Ψ) (us:List Ψ) (Q:VK),Inv X pins σ H s->RelV x v->Vals xs us->r x xs H Q->
  Κ (Μ X.prog X.w) X.A (call (.builtin id) (v::us)) (EP X pins σ Q) X.xe s
section
variable {X:Cx}{a b:Expr}{ta tb:TE}{pos:Pos}
theorem MU.or (h:MU X r)(h':MU X r'):MU X (fun x y H Q=>r x y H Q∨r' x y H Q):=by
 intro value slice pins s σ H x y v u Q I rx ry q hs;rcases q with q|q
 ·exact h value slice pins s σ H x y v u Q I rx ry q hs
 ·exact h' value slice pins s σ H x y v u Q I rx ry q hs
theorem A8 (hr:MU X r)(ha:PE X a ta)(hb:PE X b tb)(hs:yY b):PE X (.Subscript a b pos) (Td r ta tb):=by intro pins s σ H Q I h;exact Subscript_ (B1 ha hb I h fun v u s2 x y H2 I2 rx ry q=>hr a b pins s2 σ H2 x y v u Q I2 rx ry q (hs _ _))
def Ew (K:Frag):R2:=fun x y H Q=>∃p xs i v,x=.ref p/\y=.int i/\Jo K H p xs/\JG xs i=Δ v/\Q v H
def Ex (K:Frag):R2:=fun x y H Q=>∃p xs i v,x=.ref p/\y=.int i/\IP K H p xs/\JG xs i=Δ v/\Q v H
def Ey:R2:=fun x y H Q=>∃z i c,x=.str z/\y=.int i/\z.length<=Ζ/\JG z.cps.toList i=Δ c/\Q (.str ⟨#[c]⟩) H
theorem sh:MU X (Ew X.K):=by
 intro value slice pins s σ H x y v u Q I rx ry h hs;obtain⟨p,xs,i,z,rfl,rfl,hq,he,q⟩:=h;cases rx;obtain⟨t,rfl⟩:=ry;obtain⟨its,r,pl,hz⟩:=I.list hq;obtain⟨j,h1,h2,h3,h4,h5⟩:=oK he;obtain⟨w,ew,Ms⟩:=r.get h2;have hl:=r.length;have hn:=mr;have fin:EP X pins σ Q w s:=⟨z,H,I,Ms,q⟩
 by_cases h0:0<=i
 ·have hj:i.toNat=j:=by rw[seqIndex_of h0 h5]at h1;exact I_ h1
  exact item_listR pl.isList h0 (by omega) (by rw[hj];simpa using ew) fin hs
 ·have hj:(i+(its.toArray.size:Int)).toNat=j:=by rw[seqIndex_neg (by omega) h4]at h1;rw[E_,<- hl];exact I_ h1
  exact subscriptTail_builtinR (x:=w) pl.isList.typeIs slot_list_getitem.lookup
   (wpAny_getItem_list_neg (Q:=fun r s'=>r=w/\EP X pins σ Q r s') pl.isList (by omega) (by rw[E_]<;>omega) (by omega) (by rw[hj];simpa using ew) ⟨rfl,fin⟩) hs
theorem B9:MU X (Ex X.K):=by
 intro value slice pins s σ H x y v u Q I rx ry h hs;obtain⟨p,xs,i,z,rfl,rfl,hq,he,q⟩:=h;cases rx;obtain⟨t,rfl⟩:=ry;obtain⟨its,r,pl,hz⟩:=I.tuple hq;obtain⟨j,h1,h2,h3,h4,h5⟩:=oK he;obtain⟨w,ew,Ms⟩:=r.get h2;have hl:=r.length;have hn:=mr;have fin:EP X pins σ Q w s:=⟨z,H,I,Ms,q⟩
 exact subscriptTail_builtinR (x:=w) pl.typeIs slot_tuple_getitem.lookup
  (getItem_tuple (j:=j) (Q:=fun r s'=>r=w/\EP X pins σ Q r s') pl (by omega) (by omega) (by rw[E_,<- hl];exact h1) (by simpa using ew) ⟨rfl,fin⟩) hs
theorem Ca:MU X Ey:=by
 intro value slice pins s σ H x y v u Q I rx ry h hs;obtain⟨z,i,c,rfl,rfl,hz,he,q⟩:=h;obtain⟨t,rfl⟩:=rx;obtain⟨t',rfl⟩:=ry;obtain⟨j,h1,h2,h3,h4,h5⟩:=oK he;have hl:z.cps.toList.length=z.length:=by simp[Str.length]
 rw[hl]at h1 h4 h5;have hn:=mr
 exact tail_any (typeIs_str s z t) slot_str_getitem.lookup (getItem_str (c:=c) (by
  have e1:decide (i < -(2 ^ 63:Int))=Ξ:=G_ (by omega);have e2:decide (i >= 2 ^ 63)=Ξ:=G_ (by omega)
  rw[e1,e2,Bool.or_false]) (by rw[h1];simpa using h2) ⟨.str ⟨#[c]⟩,H,I.tok _,⟨_,rfl⟩,q⟩) hs
def ZI (K:Frag):R2:=fun x y H Q=>Ew K x y H Q∨Ex K x y H Q∨Ey x y H Q
theorem Cb:MU X (ZI X.K):=sh.or (B9.or Ca)
theorem qT (its:List Ψ)(n j:Nat)(u:Ψ):ι (·.setIfInBounds j u) {cls:=.type "list",data:=.seq its.toArray n} = {cls:=.type "list",data:=.seq (its.set j u).toArray n}:=by simp[ι]
theorem Inv.lst (I:Inv X pins σ H s)(h:H p=Δ (.lst xs)) :
  ∃(its:List Ψ) (n:Nat),Vals xs its/\s.heap.get? p=Δ {cls:=.type "list",data:=.seq its.toArray n}/\xs.length<=Ζ:=by
 obtain⟨z,its,n,r,e⟩:=I.IF p _ h;exact⟨its,n,r,e,z⟩
theorem Inv.Ox {pins:List (Ω×Obj)}{σ:St}{H:Hp}{s:Α}{p:Ω}{xs ys:List V}{its its':List Ψ}{n n':Nat}{f:Obj->Obj}(I:Inv X pins σ H s)(h:H p=Δ (.lst xs))
  (ho:s.heap.get? p=Δ {cls:=.type "list",data:=.seq its.toArray n}) (hf:f {cls:=.type "list",data:=.seq its.toArray n} = {cls:=.type "list",data:=.seq its'.toArray n'}) (r:Vals ys its') (hz:ys.length<=Ζ) (t:Nat) :
  Inv X pins σ (upd H p (.lst ys)) {s with heap:=s.heap.update p f,toks:=t}:=by
 have e:(s.heap.update p f).get? p=Δ {cls:=.type "list",data:=.seq its'.toArray n'}:=by rw[aav f ho (by rw[hf]<;>rfl),hf]
 refine I.write (x:=p) (e:=p) (by rw[h];trivial) (.inl rfl) (fun b u hb q=>(aan _ _ (Ne.symm hb)).trans q) ⟨_,e⟩ ?_;exact⟨hz,its',n',r,e⟩
def Ez:V->V->V->Hp->(Hp->Prop)->Prop:=fun o i v H Q=>∃p xs k j,o=.ref p/\i=.int k/\H p=Δ (.lst xs)/\Kc xs.length k=Δ j/\Q (upd H p (.lst (xs.set j v)))
theorem set_list:Em X Ez:=by
 intro pins s σ H o i v ov iv u Q I ro ri rv h;obtain⟨p,xs,k,j,rfl,rfl,hp,hj,q⟩:=h;cases ro;obtain⟨t,rfl⟩:=ri;obtain⟨its,n,r,ho,hz⟩:=I.lst hp;obtain⟨h1,h2,h3,h4⟩:=oJ hj;have hl:=r.length;have hn:=mr;have I':Inv X pins σ (upd H p (.lst (xs.set j v))) {s with heap:=s.heap.update p (ι (·.setIfInBounds j u))}:=
  I.Ox hp ho (qT its n j u) (r.set rv j) (by rw[List.length_set];exact hz) s.toks
 by_cases h0:0<=k
 ·have hk:k.toNat=j:=by rw[seqIndex_of h0 h4]at h1;exact I_ h1
  exact PySem.W.ki_setAt ho h0 (by omega) (by rw[E_,<- hl];exact h4) (by rw[hk];exact⟨_,I',q⟩)
 ·have hk:(k+(its.toArray.size:Int)).toNat=j:=by rw[seqIndex_neg (by omega) h3]at h1;rw[E_,<- hl];exact I_ h1
  exact PySem.W.ki_setBack ho (by omega) (by rw[E_,<- hl];exact h3) (by omega) (by rw[hk];exact⟨_,I',q⟩)
theorem oM (lo hi:Option Int)(n:Nat):(sliceBounds lo hi Φ n).1=((HT.Kj n 0 lo:Nat):Int)/\(sliceBounds lo hi Φ n).2.1=((HT.Kj n n hi:Nat):Int)/\(sliceBounds lo hi Φ n).2.2=1:=by
 refine⟨?_,?_,rfl⟩
 ·cases lo with
  |none=>simp[sliceBounds,HT.Kj]
  |some i=>
   simp only[sliceBounds,HT.Kj,Option.getD_none,show(1:Int) > 0 by decide,if_true];by_cases h:i < 0
   ·simp only[h,if_true]<;>omega
   ·simp only[h,if_false]<;>omega
 ·cases hi with
  |none=>simp[sliceBounds,HT.Kj]
  |some i=>
   simp only[sliceBounds,HT.Kj,Option.getD_none,show(1:Int) > 0 by decide,if_true];by_cases h:i < 0
   ·simp only[h,if_true]<;>omega
   ·simp only[h,if_false]<;>omega
theorem nB (its:List Ψ)(lo hi:Option Int):slicePick its.toArray lo hi Φ=((its.drop (HT.Kj its.length 0 lo)).take (HT.Kj its.length its.length hi - HT.Kj its.length 0 lo)).toArray:=by obtain⟨h1,h2,h3⟩:=oM lo hi its.toArray.size;unfold slicePick;rw[h1,h2,h3];simp only[sliceRange_one,pick_run,E_]<;>rfl
def GK (K:Frag):V->Option Int->Option Int->Hp->VK->Prop:=fun x lo hi H Q=>∃a xs,x=.ref a/\Jo K H a xs/\∀p,H p=Φ->Q (.ref p) (upd H p (.lst (uv xs lo hi)))
theorem si:Tf X (GK X.K):=by intro pins s σ H x v vl vu lo hi sl Q I rx hs pl pu h;obtain⟨a,xs,rfl,hx,q⟩:=h;cases rx;obtain⟨its,r,ht,hz⟩:=I.list hx;have hlen:=r.length;refine⟨"list",_,slot_list_getitem.lookup,ht.isList.typeIs,?_⟩;refine wpAny_getItem_list_slice ht.isList hs pl pu .none (by simp) ?_ (by rw[E_]<;>omega);rw[nB,<- hlen];refine⟨.ref s.heap.objs.size,_,I.laid (t':=s.toks) (o:=.lst (uv xs lo hi)) (fun b ob q=>l_ _ q) (n_ _) ?_,rfl,q _ (I.IF.fresh (n_ _))⟩;exact⟨Q_ (pT xs lo hi) hz,_,0,(r.drop (HT.Kj xs.length 0 lo)).take (HT.Kj xs.length xs.length hi - HT.Kj xs.length 0 lo),z_ _ rfl⟩
theorem kA:ji X (.type "list") (fun xs H Q=>∃p ys,xs=[.ref p]/\(Jo X.K H p ys∨IP X.K H p ys)/\∀l,H l=Φ->Q (.ref l) (upd H l (.lst ys))):=by
 intro pins s σ H xs us Q I r h;obtain⟨p,ys,rfl,hq,q⟩:=h;obtain⟨u,rfl,rx⟩:=vals1 r;cases rx;have fin:∀(its:List Ψ),Vals ys its->ys.length<=Ζ->∀(h':Heap) (c':Nat),(∀b o',s.heap.get? b=Δ o'->h'.get? b=Δ o')->
   h'.get? s.heap.objs.size=Δ {cls:=.type "list",dict:=Φ,data:=.seq its.toArray c',slots:=#[]}->EP X pins σ Q (.ref s.heap.objs.size) {s with heap:=h'}:=fun its r' hz h' c' kp e=>
  ⟨.ref s.heap.objs.size,_,I.laid (t':=s.toks) kp (n_ _) (show iz X.prog X.w _ h' _ (.lst ys) from⟨hz,its,c',r',e⟩),rfl,q _ (I.IF.fresh (n_ _))⟩
 rcases hq with hq|hq
 ·obtain⟨its,r',pl,hz⟩:=I.list hq;have hlen:=r'.length;obtain⟨o,ho,hc,n,hd⟩:=pl.isList;exact call_list_seq p (.inl rfl) ho hc hd (fun h' c' kp e=>fin its r' hz h' c' kp e) (by simp only[E_]<;>omega)
 ·obtain⟨its,r',pl,hz⟩:=I.tuple hq;have hlen:=r'.length;obtain⟨o,ho,hc,n,hd⟩:=pl;exact call_list_seq p (.inr rfl) ho hc hd (fun h' c' kp e=>fin its r' hz h' c' kp e) (by simp only[E_]<;>omega)
theorem nC:ji X (.type "tuple") (fun xs H Q=>∃p ys,xs=[.ref p]/\((Jo X.K H p ys/\∀l,H l=Φ->Q (.ref l) (upd H l (.tup ys)))∨(IP X.K H p ys/\Q (.ref p) H))):=by
 intro pins s σ H xs us Q I r h;obtain⟨p,ys,rfl,h⟩:=h;obtain⟨u,rfl,rx⟩:=vals1 r;cases rx;rcases h with⟨hq,q⟩|⟨hq,q⟩
 ·obtain⟨its,r',pl,hz⟩:=I.list hq;have hlen:=r'.length;refine call_tuple_list pl.isList (fun h' kp=>?_) (by simp only[E_]<;>omega);have I1:Inv X pins σ H {s with heap:=h'}:=I.kept (t':=s.toks) kp;have I2:Inv X pins σ (upd H h'.objs.size (.tup ys)) {s with heap:=h'.push {cls:=.type "tuple",data:=.seq its.toArray}}:=
   I1.laid (t':=s.toks) (fun b o e=>l_ _ e) (n_ _) (show iz X.prog X.w _ _ _ (.tup ys) from⟨hz,its,r',IsTup.new _ _⟩)
  exact⟨.ref h'.objs.size,_,I2,rfl,q _ (I1.IF.fresh (n_ _))⟩
 ·obtain⟨its,r',pl,hz⟩:=I.tuple hq;exact call_tuple_same pl ⟨.ref p,H,I,rfl,q⟩
def XW (K:Frag)(T:String)(x:V)(H:Hp):Prop:=match x with
 |.str _=>T = "str"
 |.int _=>T = "int"
 |.ref p=>(T = "list"/\∃xs,Jo K H p xs)∨(T = "tuple"/\∃o,K.lookup p=Δ o/\o.cls=.type "tuple"/\o.dict=Φ)∨
   (T = "dict"/\((∃kvs,H p=Δ (.dK kvs))∨∃kvs,H p=Δ (.dT kvs)))∨(T = "set"/\∃S n,H p=Δ (.set S n))
 |_=>False
theorem Cc (I:Inv X pins σ H s)(r:RelV x v)(ty:XW X.K T x H) :
  s.TypeIs v T/\∀a,v=.ref a->∃ob,s.heap.get? a=Δ ob/\ob.dict=Φ:=by
 cases x with
 |str z=>obtain⟨t,rfl⟩:=r;cases(show T = "str" from ty);exact⟨typeIs_str s z t,fun _ e=>nomatch e⟩
 |int i=>obtain⟨t,rfl⟩:=r;cases(show T = "int" from ty);exact⟨typeIs_int s i t,fun _ e=>nomatch e⟩
 |ref p=>
  cases r;rcases ty with⟨rfl,xs,hq⟩|⟨rfl,o,hk,hc,hd⟩|⟨rfl,hk⟩|⟨rfl,S,n,hk⟩
  ·obtain⟨its,_,pl,_⟩:=I.list hq;refine⟨pl.isList.typeIs,fun a e=>?_⟩;cases e;obtain⟨o,n,e,c,hd,_⟩:=pl;exact⟨o,e,hd⟩
  ·refine⟨⟨o,I.Lg p o hk,hc⟩,fun a e=>?_⟩;cases e;exact⟨o,I.Lg _ o hk,hd⟩
  ·have z:∃o,s.heap.get? p=Δ o/\o.ExactDict:=by
    rcases hk with⟨kvs,hk⟩|⟨kvs,hk⟩
    ·obtain⟨_,_,_,_,o,_,_,e,ex,_⟩:=I.IF p _ hk;exact⟨o,e,ex⟩
    ·obtain⟨_,_,_,_,o,_,_,e,ex,_⟩:=I.IF p _ hk;exact⟨o,e,ex⟩
   obtain⟨o,e,ex⟩:=z;refine⟨⟨o,e,ex.1⟩,fun a e2=>?_⟩;cases e2;exact⟨o,e,ex.2.1⟩
  ·obtain⟨o,_,_,_,e,ex,_⟩:=I.IF p _ hk;refine⟨⟨o,e,ex.1⟩,fun a e2=>?_⟩;cases e2;exact⟨o,e,ex.2.1⟩
 |_=>exact False.elim ty
def XX (K:Frag)(T:String)(r:V->List V->Hp->VK->Prop)(to:TE)(t:TA):TE:=fun σ H Q=>to σ H fun x H1=>XW K T x H1/\t σ H1 fun xs H2=>r x xs H2 Q
variable {o e:Expr}{es:List Expr}{to:TE}{t:TA}{name:Str}{apos Iz:Pos}{T id:String}{r:V->List V->Hp->VK->Prop}
theorem mE (pa:PlainAttrs T)(slot:Slot T name id)(PR:typeOf (.builtin id)=pure (.type "method_descriptor")) (hm:UJ X id r) (ho:PE X o to) (ha:PA X (e::es) t)
  (Mu:attributeBase o name X.env (eval o X.env)=eval o X.env:=by rfl)
  (J':((backTo Iz (Ν (e::es) X.env)).all (fun x=>!x.1)&&(backToKw Iz (keywordEach [] X.env)).all (fun x=>x.1.isSome)
  &&decide ((e::es).length+([]:List Keyword).length+(if([]:List Keyword).isEmpty then 0 else 1) < 30))=Θ:=by rfl)
  (QI:(apos.endLine == Iz.line)=Θ:=by rfl) (hs:Ν (e::es) X.env=(Ξ,eval e X.env)::Ν es X.env:=by rfl) (Oy:(backTo Iz (Ν es X.env)).any (·.1)=Ξ:=by rfl) :
  PE X (.Call (.Attribute o name apos) (e::es) [] Iz) (XX X.K T r to t):=by
 intro pins s σ H Q I h;refine wpAny_Call_method_late Mu J' QI rfl (IG (ho pins s σ H _ I h) fun v s1 ⟨x,H1,I1,r1,ty,q1⟩=>?_);obtain⟨h1,h2⟩:=Cc I1 r1 ty;refine⟨T,id,pa,slot,PR,h1,h2,?_⟩;have hA:=ha Iz pins s1 σ H1 _ I1 q1;rw[hs]at hA ⊢;refine Calls.callWith_builtin (by show(Ξ||(backTo Iz (Ν es X.env)).any (·.1))=Ξ;rw[Oy]<;>rfl) (Calls.evalArgs_plain ?_);exact IG hA fun us s2 ⟨vs,H2,I2,r2,q2⟩=>hm pins s2 σ H2 x vs v us Q I2 r1 r2 q2
end
def UK (X:Cx)(id:String)(r:V->List V->Hp->VK->Prop):Prop:=
 ∀(pins:List (Ω×Obj)) (s:Α) (σ:St) (H:Hp) (x:V) (xs:List V) (v:Ψ) (us:List Ψ) (Q:VK),Inv X pins σ H s->RelV x v->Vals xs us->r x xs H Q->
  Κ (Μ X.prog X.w) X.A (call (.builtin id) (v::us)) (EP X pins σ Q) X.xe s
theorem Vals.one:∀ {x:V}{us:List Ψ},Vals [x] us->∃u,us=[u]/\RelV x u
 |_,_,.cons r .nil=>⟨_,rfl,r⟩
theorem Vals.eraseIdx:∀ {xs:List V}{us:List Ψ} (i:Nat),Vals xs us->Vals (xs.eraseIdx i) (us.eraseIdx i)
 |_,_,_,.nil=>.nil
 |_,_,0,.cons _ t=>t
 |_,_,i+1,.cons r t=>.cons r (Vals.eraseIdx i t)
theorem Vals.rep (h:Vals xs us):∀k:Nat,Vals (Τ k xs).flatten (Τ k us).flatten
 |0=>.nil
 |k+1=>by rw[List.replicate_succ,List.replicate_succ,List.flatten_cons,List.flatten_cons];exact Vals.append h (Vals.rep h k)
theorem nW:∀(l:List α) (i:Nat),(l.eraseIdx i).length<=l.length
 |[],_=>n_ _
 |_::_,0=>Nat.le_succ _
 |_::r,i+1=>Nat.succ_le_succ (nW r i)
theorem foldl_rep (its:List Ψ):∀(k:Nat) (acc:List Ψ),
  List.foldl (fun x1 x2=>x1++x2) acc.toArray (Τ k its.toArray)=(acc++(Τ k its).flatten).toArray
 |0,acc=>by simp
 |k+1,acc=>by
  have e:acc.toArray++its.toArray=(acc++its).toArray:=by simp
  have e2:(acc++its)++(Τ k its).flatten=acc++(Τ (k+1) its).flatten:=by rw[List.replicate_succ,List.flatten_cons,H_]
  rw[<- e2,<- foldl_rep its k (acc++its),<- e,List.replicate_succ,List.foldl_cons]
section
variable {X:Cx}{pins:List (Ω×Obj)}{σ:St}{H:Hp}{s:Α}{l b:Ω}{xs ys zs:List V}
theorem Inv.Oz {its its':List Ψ}{n:Nat}{f:Array Ψ->Array Ψ}{t':Nat}(I:Inv X pins σ H s)(hH:H l=Δ (.lst xs))
  (e:s.heap.get? l=Δ {cls:=.type "list",data:=.seq its.toArray n}) (hf:f its.toArray=its'.toArray) (hv:Vals ys its') (hz:ys.length<=Ζ) :
  Inv X pins σ (upd H l (.lst ys)) {s with heap:=s.heap.update l (ι f),toks:=t'}:=by
 have q:=PySem.IsL.update e f;rw[hf]at q;refine I.write (x:=l) (e:=l) (by rw[hH];exact trivial) (.inl rfl) (fun b' u hb hu=>(aan s.heap (ι f) (Ne.symm hb)).trans hu) ⟨_,q⟩ ?_;exact⟨hz,its',_,hv,q⟩
theorem Inv.OA {its:List Ψ}  (I:Inv X pins σ H s)(hv:Vals ys its)(hz:ys.length<=Ζ) :
  Inv X pins σ (upd H s.heap.objs.size (.lst ys)) {s with heap:=s.heap.push {cls:=.type "list",data:=.seq its.toArray},toks:=t'}:=
 I.laid (fun _ _ q=>l_ _ q) (n_ _) ⟨hz,its,0,hv,z_ _ rfl⟩
theorem Inv.fresh (I:Inv X pins σ H s):H s.heap.objs.size=Φ:=I.IF.fresh (n_ _)
theorem Inv.OB (I:Inv X pins σ H s)(hH:H l=Δ (.lst xs)):xs.length<=Ζ/\∃(its:List Ψ) (n:Nat),Vals xs its/\xs.length=its.length/\s.heap.get? l=Δ {cls:=.type "list",data:=.seq its.toArray n}:=by obtain⟨z,its,n,r,e⟩:=I.IF l _ hH;exact⟨z,its,n,r,r.length,e⟩
theorem vA (h:n<=Ζ):Builtin.List.listTooLong n=Ξ:=by unfold Builtin.List.listTooLong;exact G_ (by omega)
end
section
variable {X:Cx}
def yZ:V->List V->Hp->VK->Prop:=fun x vs H Q=>∃l xs y,x=.ref l/\vs=[y]/\H l=Δ (.lst xs)/\xs.length < Ζ/\Q .IB (upd H l (.lst (xs++[y])))
theorem j7:UK X "list.append" yZ:=by intro pins s σ H x vs v us Q I rx rv h;obtain⟨l,xs,y,rfl,rfl,hH,hz,q⟩:=h;cases rx;obtain⟨u,rfl,ru⟩:=rv.one;obtain⟨z,its,n,r,hl,e⟩:=I.OB hH;refine call_meets F.slot_list_append ⟨_,e,rfl⟩ F.entry_list_append (F.args_list_append_2 _ _) (PySem.list_append l its.toArray n u (by rw[E_];omega)) ⟨e,?_⟩;refine⟨.IB,_,I.Oz (its':=its++[u]) hH e (by simp) (r.append (.cons ru .nil)) ?_,rfl,q⟩;rw[w_,R_];omega
def Cd:V->List V->Hp->VK->Prop:=fun x vs H Q=>∃l xs i k y,x=.ref l/\vs=[.int i]/\H l=Δ (.lst xs)/\-(2 ^ 63)<=i/\i < 2 ^ 63/\seqIndex? i xs.length=Δ k/\xs[k]? = Δ y/\Q y (upd H l (.lst (xs.eraseIdx k)))
theorem vB:UK X "list.pop" Cd:=by
 intro pins s σ H x vs v us Q I rx rv h;obtain⟨l,xs,i,k,y,rfl,rfl,hH,h1,h2,hk,hy,q⟩:=h;cases rx;obtain⟨u,rfl,ru⟩:=rv.one;obtain⟨t,rfl⟩:=ru;obtain⟨z,its,n,r,hl,e⟩:=I.OB hH;obtain⟨w,hw,Ms⟩:=r.get hy;refine call_meets F.slot_list_pop ⟨_,e,rfl⟩ F.entry_list_pop (F.args_list_pop_2 _ _)
  (MeetsSeq.list_pop_at l its.toArray n i t k w (fitsIndex_both h1 h2) (by rw[E_,<- hl];exact hk) (by rw[<- aap];exact hw) (by rw[E_];omega)) ⟨e,?_⟩
 refine⟨y,_,I.Oz (its':=its.eraseIdx k) hH e ?_ (r.eraseIdx k) ?_,Ms,q⟩
 ·show its.toArray.eraseIdxIfInBounds k=(its.eraseIdx k).toArray;rw[List.eraseIdxIfInBounds_toArray]
 ·have:=nW xs k;omega
theorem len_rep (xs:List α)(k:Nat):(Τ k xs).flatten.length=k*xs.length:=by
 induction k with
 |zero=>simp
 |succ k ih=>rw[List.replicate_succ,List.flatten_cons,w_,ih,Nat.succ_mul,Nat.add_comm]
end
end L2
namespace Att
open PySem PySem.W PySem.Calls PyProof.Rows
theorem l6:∀(ns:List Int) (vs:List Ψ),WellAll P h vs (ns.map WData.int)->IntsAre vs ns:=by
 intro ns
 induction ns with
 |nil=>intro vs w;rw[List.map_nil]at w;cases w;exact .nil
 |cons n ns ih=>
  intro vs w;rw[b_]at w;cases w with
  |cons a b=>cases a;exact .cons _ _ (ih _ b)
theorem uw {l:OpenLaw}{n:Nat}(hn:l.most=Δ n){P:Params}{h:Heap}{args:List WData}{vals:List Ψ}
  (Ni:l.row.toRowW.claim.pre args=Θ) (UL:WellAll P h vals args) :
  ∃a vs ns,vals=[θ a]/\args=[WData.list (ns.map WData.int)]/\h.get? a=Δ {cls:=.type "list",data:=.seq vs.toArray}/\IntsAre vs ns/\ns.length<=n:=by
 have ZJ:WShape.hasAll [] args [.list .int]=Θ:=(pre_splitW Ni).1;have hc:l.pre.holds [] {args:=args} = Θ:=(pre_splitW Ni).2;obtain⟨d,r,rfl,h1,h2⟩:=hasAllW_cons ZJ;obtain rfl:=hasAllW_nil h2;obtain⟨xs,rfl,h3⟩:=hasW_list h1;obtain⟨ns,rfl⟩:=items_int h3;have hlen:ns.length<=n:=by
  unfold OpenLaw.pre at hc;have h4:(WTm.not (.lt (.lit (.int (n:Int))) (.len (.arg 0)))).holds [] {args:=[.list (ns.map .int)]} = Θ:=by have h4:=(holds_andW hc).1;rw[hn]at h4;exact h4
  have h5:=condW_of h4 (w_not (w_lt w_lit (w_len_list (w_arg rfl))));rw[g_]at h5;refine Nat.le_of_not_lt fun q=>?_;have q':(n:Int) < ((ns.length:Nat):Int):=by omega
  first
   | (rw[u_ q']at h5;exact absurd h5 (by decide))
   | (simp at h5;omega)
 cases UL with
 |cons w1 w2=>
  cases w2;cases w1 with
  |list ho Ln=>exact⟨_,_,ns,rfl,rfl,ho,l6 ns _ Ln,hlen⟩
theorem ux (l:OpenLaw)(args:List WData):l.row.toRowW.claim.post args (.bool Θ) args=Θ:=
 postW_of (r:=l.row.toRowW) (X:=(Θ == Θ))
  (show WShape.has [] (.bool Θ) .bool=Θ by first|rfl|decide|simp[WShape.has,WShape.arms,WShape.armsAll])
  (show(WTm.eq .res (.lit (.bool Θ))).value [] {args:=args,res:=Δ (.bool Θ),after:=args} = Δ (.bool (Θ == Θ)) from w_eq_bool (w_res rfl) w_lit) rfl
theorem K2 {l:OpenLaw}{n:Nat}{q:Ε}{loose:List Str}{XP:(Str->Option Ψ)->Heap->Prop}{YP:Β->Heap->Prop}{d:DefRec}
  (hn:l.most=Δ n) (QJ:d.params.defaults=[])
  (call:∀(w:Β) (IY Iy:Α) (mg mb:Str->Option Ψ) (fa:Ω) (o:Obj) (pm cd doc:Ψ) (a:Ω) (vs:List Ψ) (ns:List Int),
   Ground q loose [] XP w IY mg mb Iy.heap->YP w Iy.heap->
   Iy.heap.get? fa=Δ o->o.data=.func (docDef d.name d.params d.body d.scope pm cd doc)->Iy.heap.CodeRec cd d.name->mg d.name=Δ (.ref fa)->
   Iy.heap.get? a=Δ {cls:=.type "list",data:=.seq vs.toArray}->IntsAre vs ns->ns.length<=n->Iy.gens = #[]->
   codeAny (Μ l.prog w) callerA (.call (.ref fa) ⟨[.ref a],[]⟩) (fun r s'=>r=.ok (.ret (.bool Θ))/\OldK Iy.heap s'.heap/\s'.os=Iy.os/\AllBare s'.gens) Iy) :
  WalkO q loose XP YP l.row.toRowW d [] (fun f vs=>PySem.call f vs):=by
 intro w IY Iy mg mb G Y fa o pm cd doc dV kV ho hd Ng hD hmg hg args vals as Ni ZK hrd UL NU;obtain rfl:dV=.none:=Dflts.none hD QJ;obtain rfl:kV=.none:=Dflts.noKw hD;obtain⟨a,vs,ns,rfl,rfl,OC,hints,hlen⟩:=uw hn Ni UL;refine enter_call (codeAny_mono (call w IY Iy mg mb fa o pm cd doc a vs ns G Y ho (fd_plain hd) Ng hmg OC hints hlen hg) fun r s' hq=>?_);obtain⟨rfl,h2,h3,h4⟩:=hq;exact⟨.inl ⟨.bool Θ,.bool Θ,[],rfl,fun _=>rfl,.bool Θ,ux l _,fun _=>⟨List.Pairwise.nil,fun _ hm=>(nomatch hm)⟩⟩,h2,h3,h4⟩
end Att
namespace L2
open PySem PySem.Spec PyProof.Rows
def KL (K:Frag)(a:Ω)(xs:List V):Prop:=
 ∃(its:List Ψ) (n:Nat),K.lookup a=Δ {cls:=.type "list",data:=.seq its.toArray n}/\its.length<=Ζ/\Vals xs its
def Ls (K:Frag)(H:Hp)(a:Ω)(xs:List V):Prop:=Rd H a (.lst xs)∨KL K a xs
theorem nY:∀ {vs:List Ψ}{ns:List Int},IntsAre vs ns->Vals (ns.map V.int) vs
 |_,_,.nil=>.nil
 |_,_,.cons n t h=>.cons ⟨t,rfl⟩ (nY h)
def Cf (H:Hp):Prop:=∀b,H b=Φ∨∃o xs,H b=Δ (.IH o (.lst xs))
theorem vC {P:Ε}{w:Β}{K:Frag}{mg mb:Str->Option Ψ}{CX:JD}{k:Nat}{fa a:Ω}{fd:Ο}{x:Str}{sp:Sp}{Iy:Α}{vs:List Ψ}{ns:List Int}
  (KX:K.In Iy.heap) (OE:Iy.heap.Ns Η mg) (hb:Iy.heap.Ns builtinsNs mb) (ZL:∀x:Str,x≠"__name__"->mb x=bootBuiltins x) (UM:Iy.heap.NoLimit) (hg:Iy.gens = #[])
  (ha:Iy.heap.get? a=Δ {cls:=.type "list",data:=.seq vs.toArray}) (hi:IntsAre vs ns) (hl:ns.length<=Ζ) (hr:JB k callerA)
  (F:∀base:Heap,K.In base->base.Ns Η mg->J9 P w K mg base CX k fa fd [x] sp) (QK:∀(s:Α) (u:Ψ),BindsTo s fd ⟨[u],[]⟩ [(x,u)])
  (Lh:∀H:Hp,Cf H->Ls K H a (ns.map V.int)->sp [.ref a] H (fun v _=>v=.bl Θ) fun _ _ _=>False)
  (UN:∀H e s',CX [] H Iy (fun _ _ _=>False) e s'->False) :
  codeAny (Μ P w) callerA (.call (.ref fa) ⟨[.ref a],[]⟩) (fun r s'=>r=.ok (.ret (.bool Θ))/\OldK Iy.heap s'.heap/\s'.os=Iy.os/\AllBare s'.gens) Iy:=by
 have rv:=nY hi;have UO:=hi.length
 -- from an abstract heap in XY nothing but Oo OF may be tracked
 have core:∀H:Hp,Cf H->Ls K H a (ns.map V.int)->Ji P w H Iy.heap->(∀b,H b≠Φ->b=a)->(H a≠Φ->K.lookup a=Φ)->
   codeAny (Μ P w) callerA (.call (.ref fa) ⟨[.ref a],[]⟩) (fun r s'=>r=.ok (.ret (.bool Θ))/\OldK Iy.heap s'.heap/\s'.os=Iy.os/\AllBare s'.gens) Iy:=by
  intro H hO hS IF hA hK;have LI:∀ {b:Ω}{o:Obj},Iy.heap.get? b=Δ o->H b=Φ->(oG Iy.heap H).get? b=Δ o:=fun e n=>uZ e n;have QF:∀ {b:Ω}{o:Obj}{es:Array DictEntry}{ep:Nat},Iy.heap.get? b=Δ o->o.data=.dict es ep->H b=Φ:=fun {b o es ep} e d=>by
   cases q:H b with
   |none=>rfl
   |some u=>have e':b=a:=hA b (by rw[q];simp);subst e';rw[ha]at e;cases e;have d':Data.seq vs.toArray _=Data.dict es ep:=d;cases d'
  have Th:∀ {b:Ω}{m:Str->Option Ψ},Iy.heap.Ns b m->(oG Iy.heap H).Ns b m:=fun {b m} ⟨o,es,ep,e,d,r⟩=>⟨o,es,ep,LI e (QF e d),d,r⟩
  have XZ:K.In (oG Iy.heap H):=fun b o e=>LI (KX b o e) (by
   cases q:H b with
   |none=>rfl
   |some u=>
    have e':b=a:=hA b (by rw[q];simp);subst e'
    rw[hK (by rw[q];simp)]at e;cases e)
  have hM:Mod K mg (oG Iy.heap H):=⟨XZ,Th OE,⟨mb,Th hb,ZL⟩,let ⟨mc,h1,h2⟩:=UM;⟨mc,Th h1,h2⟩⟩
  have e0:L4 P w K mg (oG Iy.heap H) callerA [] Iy H:=⟨rfl,hM,fun b o e=>yL e,Nat.le_of_eq (uk _ _),trivial,fun b hb=>absurd (show b∈([]:List Ω) from hb) (by simp),IF,.of_eq hg⟩
  refine codeAny_mono ((F _ XZ (Th OE)).run callerA [] Iy H ⟨[.ref a],[]⟩ [.ref a] [.ref a] _ _ hr e0 (QK Iy (.ref a)) (.cons rfl .nil) (Lh H hO hS)) fun r s' h=>?_;cases r with
  |error e=>exact(UN H e s' h).elim
  |ok fl=>
   cases fl with
   |next=>exact False.elim h
   |brk=>exact False.elim h
   |cont=>exact False.elim h
   |ret u=>
    obtain⟨v,H',os,bare,un,UP,r',q⟩:=h;have q':v=.bl Θ:=q;subst q';obtain rfl:u=Value.bool Θ:=r';refine⟨rfl,OldK.of_keep fun b o e=>?_,os,bare⟩;cases q:H b with
    |none=>exact un.keep b o e q (by intro z;exact absurd (show b∈([]:List Ω) from z) (by simp)) (by simp)
    |some u=>
     rcases hO b with z|⟨ob,xs,z⟩
     ·rw[q]at z;cases z
     ·have z2:=un.JA b ob _ z;obtain⟨e1,_⟩:=IF b _ z;obtain⟨e2,_⟩:=UP b _ z2;rw[e]at e1;cases e1;exact e2
 cases hk:K.lookup a with
 |some o=>
  -- Oo OF is one of Oo QL own objects
  have e:=KX a o hk;rw[ha]at e;cases e;refine core (fun _=>Φ) (fun _=>.inl rfl) (.inr ⟨vs,_,hk,by rw[UO];exact hl,rv⟩) (fun b u z=>by have z':(Φ:Option HO)=Δ u:=z;cases z') (fun b z=>absurd rfl z) fun z=>absurd rfl z
 |none=>
  refine core (fun b=>if b=a then Δ (.IH {cls:=.type "list",data:=.seq vs.toArray} (.lst (ns.map V.int))) else Φ) (fun b=>?_) (.inl (.inr ⟨{cls:=.type "list",data:=.seq vs.toArray},f_ rfl⟩)) (fun b u z=>?_) (fun b z=>?_) fun _=>hk
  ·by_cases hb:b=a
   ·exact .inr ⟨_,_,f_ hb⟩
   ·exact .inl (d_ hb)
  ·by_cases hb:b=a
   ·have z':=(f_ hb).symm.trans z;cases z';subst hb;exact⟨ha,by rw[g_];exact hl,vs,_,rv,ha⟩
   ·have z':=(d_ hb).symm.trans z;cases z'
  ·by_cases hb:b=a
   ·exact hb
   ·exact absurd (d_ hb) z
theorem y3 {l:PySem.W.OpenLaw}{n k:Nat}{q:Ε}{loose:List Str}{XP:(Str->Option Ψ)->Heap->Prop}{YP:Β->Heap->Prop}{d:DefRec}{K:Params->Frag}{CX:Β->JD}{sp:Β->Sp}{x:Str}
  (hn:l.most=Δ n) (Ti:n<=Ζ) (QJ:d.params.defaults=[]) (hr:JB k callerA)
  (hY:∀(w:Β) (h:Heap),YP w h->(K w.params).In h)
  (F:∀(w:Β) (mg:Str->Option Ψ) (fa:Ω) (h:Heap),(K w.params).In h->h.Ns Η mg->mg d.name=Δ (.ref fa)->
   ∃fd:Ο,(∀(s:Α) (u:Ψ),BindsTo s fd ⟨[u],[]⟩ [(x,u)])/\
    ∀base:Heap,(K w.params).In base->base.Ns Η mg->J9 l.prog w (K w.params) mg base (CX w) k fa fd [x] (sp w))
  (Lh:∀(w:Β) (H:Hp) (a:Ω) (ns:List Int),ns.length<=n->Cf H->Ls (K w.params) H a (ns.map V.int)->sp w [.ref a] H (fun v _=>v=.bl Θ) fun _ _ _=>False)
  (UN:∀(w:Β) (H:Hp) (s:Α) (e:Ψ) (s':Α),CX w [] H s (fun _ _ _=>False) e s'->False) :
  PySem.W.WalkO q loose XP YP l.row.toRowW d [] (fun f vs=>PySem.call f vs):=by
 refine Att.K2 hn QJ fun w IY Iy mg mb fa o pm cd doc a vs ns G Y ho hd Ng hmg OC hints hlen hg=>?_;have KX:=hY w _ Y;obtain⟨fd,hb,hF⟩:=F w mg fa _ KX G.T.g hmg;exact vC KX G.T.g G.T.b G.T.builtins G.T.nolimit hg OC hints (Q_ hlen Ti) hr hF hb (fun H hO hS=>Lh w H a ns hlen hO hS) fun H e s'=>UN w H Iy e s'
noncomputable def jB (s:Stmt):Arguments:=match s with
 |.FunctionDef _ a _ _ _ _ _ _ _ _=>a
 |_=>{posonlyargs:=[],args:=[],vararg:=Φ,kwonlyargs:=[],kw_defaults:=[],kwarg:=Φ,defaults:=[]}
noncomputable def jg (s:Stmt):List Stmt:=match s with
 |.FunctionDef _ _ b _ _ _ _ _ _ _=>b
 |_=>[]
noncomputable def ic (s:Stmt):Scope:=match s with
 |.FunctionDef _ _ _ _ _ _ sc _ _ _=>sc
 |_=>{kind:=.function,names:=[],isGenerator:=Ξ,isCoroutine:=Ξ}
structure PU (K:Frag)(x qual:Str)(st:Stmt)(f:Ω)(fd:Ο):Prop where
 ex:∃(oc:Ψ) (od:Option Ω) (kV doc pm:Ψ) (an:Option Ω) (Ku ct:Ψ) (MT:Array (Option Ψ)),
  fd=PySem.W.fnOf x qual (jB st) (jg st) (ic st) .none kV doc pm an Ku ct/\K.lookup f=Δ ⟨oc,od,.func fd,MT⟩/\PySem.W.codeIn K Ku qual=Θ
 kp:PySem.W.keepIn K (.ref f)=Θ
section
variable {P:Ε}{w:Β}{K:Frag}{mg:Str->Option Ψ}{base:Heap}
theorem PU.binds {x qual:Str}{st:Stmt}{f:Ω}{fd:Ο}{ps:List Str}(F:PU K x qual st f fd)
  (h:∀(kV doc pm:Ψ) (an:Option Ω) (Ku ct:Ψ) (us:List Ψ),us.length=ps.length->bindArgs (PySem.W.fnOf x qual (jB st) (jg st) (ic st) .none kV doc pm an Ku ct) ⟨us,[]⟩=pure (ps.zip us)):Binds K fd ps []:=by
 obtain⟨oc,od,kV,doc,pm,an,Ku,ct,MT,rfl,lk,Ng⟩:=F.ex;exact .all (h kV doc pm an Ku ct)
theorem qU {x qual:Str}{st:Stmt}{f:Ω}{oc:Ψ}{od an:Option Ω}{MT:Array (Option Ψ)}{kV doc pm Ku ct:Ψ}(l:K.lookup f=Δ ⟨oc,od,.func (PySem.W.fnOf x qual (jB st) (jg st) (ic st) .none kV doc pm an Ku ct),MT⟩)
  (c:PySem.W.codeIn K Ku qual=Θ) (k:PySem.W.keepIn K (.ref f)=Θ):PU K x qual st f (PySem.W.fnOf x qual (jB st) (jg st) (ic st) .none kV doc pm an Ku ct):=⟨⟨oc,od,kV,doc,pm,an,Ku,ct,MT,rfl,l,c⟩,k⟩
end
def g7 (H H':Hp):Prop:=∀b o,H b=Δ o->H' b=Δ o
theorem g7.refl (H:Hp):g7 H H:=fun _ _ h=>h
theorem g7.trans (a:g7 H H1)(b:g7 H1 H2):g7 H H2:=fun c o h=>b c o (a c o h)
theorem g7.free (e:g7 H H')  (h:H' l=Option.none):H l=Option.none:=by
 cases q:H l with
 |none=>rfl
 |some o=>rw[e l o q]at h;cases h
theorem g7.seq {K:Frag}{H H':Hp}{a:Ω}{xs:List V}(e:g7 H H')(h:Jo K H a xs):Jo K H' a xs:=by
 rcases h with(h|⟨o,h⟩)|h
 ·exact .inl (.inl (e _ _ h))
 ·exact .inl (.inr ⟨o,e _ _ h⟩)
 ·exact .inr h
theorem hG (h:PE X e t)(m:∀σ H Q,t' σ H Q->t σ H Q):PE X e t':=fun pins s σ H Q I q=>h pins s σ H Q I (m σ H Q q)
theorem mF (h:PT X e t)(m:∀σ H Q,t' σ H Q->t σ H Q):PT X e t':=fun pins s σ H Q I q=>h pins s σ H Q I (m σ H Q q)
theorem oN (h:PA X e t)(m:∀σ H Q,t' σ H Q->t σ H Q):PA X e t':=fun pos pins s σ H Q I q=>h pos pins s σ H Q I (m σ H Q q)
theorem i3 (h:PS X e t)(m:∀D σ H,t' D σ H->t D σ H):PS X e t':=fun pins s σ H D I q=>h pins s σ H D I (m D σ H q)
theorem ma (h:Ks X e t)(m:∀D σ H,t' D σ H->t D σ H):Ks X e t':=fun pins s σ H D I q=>h pins s σ H D I (m D σ H q)
theorem oO (h:PI X tg e t)(m:∀σ H Q,t' σ H Q->t σ H Q):PI X tg e t':=fun pins s σ H Q I q=>h pins s σ H Q I (m σ H Q q)
def LJ (X:Cx)(scope:Scope)(cl:List (Str×Ω))(N:List Str)(C:Ω)(s3:Α)(H3:Hp)(fp:List Ω)(xe:Ψ->Α->Prop:=fun _ _=>False):Cx:=
 {X with N:=N,IY:=s3,LZ:=H3,env:=compEnvC scope cl C X.env,outer:=X.stack,ex:=fp,fn:=fun _=>Ξ,pn:=[],xe:=xe}
structure JR (X:Cx)(scope:Scope)(cl:List (Str×Ω))(Fr:List (Str×Nat))(Tg:List Str):Prop where
 QM:closureFor scope X.env=pure cl
 kind:scope.kind=.function
 KJ:∀y∈scope.names,y.2≠.cell
 loc:∀y∈scope.names,y.2=.local->scope.names.lookup y.1=Δ .local
 sub:∀x c,cl.lookup x=Δ c->X.env.cells.lookup x=Δ c
 has:∀x,((relabel scope X.env).names.lookup x=Δ .cell∨(relabel scope X.env).names.lookup x=Δ .free)->∃c,cl.lookup x=Δ c
 out:∀p∈Fr,X.N[p.2]? = Δ p.1/\(X.env.kindOf p.1=Δ .cell∨X.env.kindOf p.1=Δ .free)/\((relabel scope X.env).names.lookup p.1=Δ .cell∨(relabel scope X.env).names.lookup p.1=Δ .free)
noncomputable def stC (Fr:List (Str×Nat))(Tg:List Str)(σ:St):St:=Fr.map (fun p=>(σ[p.2]?).join)++Τ Tg.length Φ
section
variable {X:Cx}{scope:Scope}{cl:List (Str×Ω)}{Fr:List (Str×Nat)}{Tg:List Str}{pins:List (Ω×Obj)}{σ:St}{H3:Hp}{s3:Α}{fp:List Ω}
theorem Cg (S:JR X scope cl Fr Tg)(I:Inv X pins σ H3 s3)(hf:∀b∈fp,kh X pins H3 b)(UQ:∀b∈fp,b < s3.heap.objs.size)(N:List Str)(xe:Ψ->Α->Prop):(LJ X scope cl N s3.heap.objs.size s3 H3 fp xe).Ok where
 mod:=I.ok.mod
 kind:=S.kind
 glob:=I.ok.glob
 blt:=I.ok.blt
 above:=n_ _
 inj:=fun x y c h1 h2=>I.ok.inj x y c (S.sub x c h1) (S.sub y c h2)
 has:=fun x h=>S.has x h
 S7:=fun x c h _=>absurd (show Ξ=Θ from h) (by decide)
 hd:=I.ok.hd
 frames:=I.ok.frames
 Ir:=.inl rfl
 Uu:=fun b hb=>⟨m_ (UQ b hb),fun x c e z=>(hf b hb).2.2.2.2.1 x c (S.sub x c e) z⟩
 bs:=I.bs
 Na:=Q_ I.ok.Na I.sz
 Nc:=fun b o e hb=>by
  rcases(hf b hb).2.2.2.1 with z|z
  ·exact I.ok.Nc b o e z
  ·exact absurd (F_ (j_ e) (Q_ I.ok.Na z)) (aab _)
 Nd:=fun b hb z=>by
  rcases k_.mp (I.Lk b z) with z|z
  ·exact(hf b hb).2.1 z
  ·exact(hf b hb).2.2.1 z
 JZ:=I.stack
 MQ:=I.LF
theorem uy (S:JR X scope cl Fr Tg)(I:Inv X pins σ H3 s3)(hf:∀b∈fp,kh X pins H3 b)(UQ:∀b∈fp,b < s3.heap.objs.size){h':Heap}{tk:Nat}
  (OE:h'.Ns s3.heap.objs.size (fun _=>Φ)) (hk:∀b o,s3.heap.get? b=Δ o->h'.get? b=Δ o) (xe:Ψ->Α->Prop) :
  Inv (LJ X scope cl (Fr.map (·.1)++Tg) s3.heap.objs.size s3 H3 fp xe) [] (stC Fr Tg σ) H3 {s3 with heap:=h',toks:=tk} where
 ok:=Cg S I hf UQ _ _
 os:=rfl
 bare:=I.bare
 base:=Un.kept hk
 loc:=by
  refine⟨_,OE,fun i x v e1 e2 e3=>?_⟩;have hi:i < Fr.length:=by
   by_cases hi:i < Fr.length
   ·exact hi
   ·unfold stC at e2;rw[aaH (by simpa using hi),List.getElem?_replicate]at e2;split at e2<;>cases e2
  have X0:(Fr.map (·.1))[i]? = Δ x:=by rw[<- e1];exact(aat (by simpa using hi)).symm
  have Js:(Fr.map (fun p=>(σ[p.2]?).join))[i]? = Δ (Δ v):=by rw[<- e2];exact(aat (by simpa using hi)).symm
  rw[A_]at X0 Js;obtain⟨p,hp,rfl⟩:=aag.mp X0;rw[hp]at Js;have Nj:(σ[p.2]?).join=Δ v:=I_ Js;have e4:σ[p.2]? = Δ (Δ v):=by
   cases q:σ[p.2]? with
   |none=>rw[q]at Nj;cases Nj
   |some y=>rw[q]at Nj;rw[show y=Δ v from Nj]
  obtain⟨o1,o2,o3⟩:=S.out p (J_ hp);obtain⟨m,hn,hl⟩:=I.loc;have hv:Qx X.env.scope p.1:=by
   rcases o2 with o2|o2
   ·exact .inr (.inl o2)
   ·exact .inr (.inr o2)
  obtain⟨u,r,l⟩:=hl p.2 p.1 v o1 e4 hv;refine⟨u,r,.inr ⟨o3,?_⟩⟩;obtain⟨c,hc⟩:=S.has p.1 o3;refine⟨c,hc,?_⟩;have PM:=S.sub _ _ hc;rcases l with⟨k,_⟩|⟨_,c2,h2,z⟩
  ·rcases o2 with o2|o2<;>(rw[k]at o2;cases o2)
  ·rw[PM]at h2;cases h2;obtain⟨o,ho,hd⟩:=z;exact⟨o,hk _ _ ho,hd⟩
 cell:=fun x c e=>by obtain⟨v,o,ho,hd⟩:=I.cell x c (S.sub x c e);exact⟨v,o,hk _ _ ho,hd⟩
 free:=I.IF.fresh (n_ _)
 Jz:=fun x c e=>I.Jz x c (S.sub x c e)
 pin:=fun p hp=>absurd (show p∈([]:List (Ω×Obj)) from hp) (by simp)
 IF:=I.IF.kept hk
 len:=by unfold stC;show _=(Fr.map (·.1)++Tg).length;simp
end
def Nk (X:Cx)(ifs:List Expr)(t:TT):Prop:=
 ∀(pins:List (Ω×Obj)) (s:Α) (σ:St) (H:Hp) (Q:Bool->Hp->Prop),Inv X pins σ H s->t σ H Q->
  Κ (Μ X.prog X.w) X.A (forIn ifs Θ fun c r=>if r=Θ then do let ok <- isTrue c X.env (eval c X.env);pure (ForInStep.yield ok) else pure (ForInStep.yield r)) (TP X pins σ Q) X.xe s
theorem lW (h:Q Ξ s):∀ifs:List Expr,
  Κ M A (forIn ifs Ξ fun c r=>if r=Θ then do let ok <- isTrue c env (eval c env);pure (ForInStep.yield ok) else pure (ForInStep.yield r)) Q E s
 |[]=>by rw[List.forIn_nil];exact e_ h
 |c::cs=>by rw[List.forIn_cons];rw[d_ B_];exact a_ (e_ (lW h cs))
theorem y9:Nk X [] (fun _ H Q=>Q Θ H):=fun pins s σ H Q I q=>by rw[List.forIn_nil];exact e_ ⟨H,I,q⟩
theorem vD (hc:PT X c t)(hr:Nk X cs u):Nk X (c::cs) (Eh t u):=fun pins s σ H Q I q=>by
 rw[List.forIn_cons,f_ rfl];refine a_ (a_ (IG (hc pins s σ H _ I q) fun b s1 ⟨H1,I1,q1⟩=>e_ ?_))
 induction b using zB with
 |true=>exact hr pins s1 σ H1 Q I1 q1
 |false=>exact lW ⟨H1,I1,q1⟩ cs
def vE (wi:TI)(start:St->St)(g:TG)(tt:TT)(te:TE):TE:=fun σ H Q=>wi σ H fun J H1=>∀D,H1 D=Φ->∃W:Nat->Nat->St->Hp->Prop,(∃m,W 0 m (start σ) (upd H1 D (.lst [])))/\
 ∀i m Iw H',W i m Iw H'->(J.stop i H'/\Q (.ref D) H')∨(J.go i H'/\∀x H2,J.MR i H' x H2->g x Iw H2 fun K1 H3=>tt K1 H3 fun b H4=>
  if b=Θ then te K1 H4 fun v H5=>∃ys,H5 D=Δ (.lst ys)/\ys.length < Ζ/\∃m',m' < m/\W (i+1) m' K1 (upd H5 D (.lst (ys++[v])))
  else ∃m',m' < m/\W (i+1) m' K1 H4)
section
variable {X:Cx}{scope:Scope}{cl:List (Str×Ω)}{Fr:List (Str×Nat)}{Tg:List Str}{elt tg iter:Expr}{ifs:List Expr}{wi:TI}{g:TG}{tt:TT}{te:TE}{pos:Pos}
theorem oP (scope:Scope)(pos:Pos)(it acc:Ψ)(env:Env) :
  compTurn (.ListComp elt [⟨tg,iter,ifs,0⟩] scope pos) 0 it acc env=(do
   standAt iter.pos
   match <- pyNext it with
   |none=>pure (.done .next)
   |some v=>
    letOwnedTupleGo tg it v
    assign tg env v
    let ok <- forIn ifs Θ fun c r=>if r=Θ then do let ok <- isTrue c env (eval c env);pure (ForInStep.yield ok) else pure (ForInStep.yield r)
    if ok=Θ then
     (do let _ <- call (.builtin "list.append") [acc,<- eval elt env])
    again (.compLoop (.ListComp elt [⟨tg,iter,ifs,0⟩] scope pos) 0 it acc env)):=by rfl
theorem mG {XE:Ω->Α->Hp->List Ω->Ψ->Α->Prop}(hc:X.calm=Θ)(S:JR X scope cl Fr Tg)
  (hg:∀C s H fp,PG (LJ X scope cl (Fr.map (·.1)++Tg) C s H fp (XE C s H fp)) tg g) (ht:∀C s H fp,Nk (LJ X scope cl (Fr.map (·.1)++Tg) C s H fp (XE C s H fp)) ifs tt)
  (he:∀C s H fp,PE (LJ X scope cl (Fr.map (·.1)++Tg) C s H fp (XE C s H fp)) elt te)
  {pins:List (Ω×Obj)}{σ:St}{H2:Hp}{s2:Α}{it:Ω}{fp:List Ω}{tn:Nat->Heap->Prop}{J:It}{Q:VK} (I2:Inv X pins σ H2 s2) (T:Turn X.prog X.w X.K tg J fp it tn) (NT:tn 0 s2.heap)
  (f2:∀b∈fp,kh X pins H2 b)
  (q:∀D,H2 D=Φ->∃W:Nat->Nat->St->Hp->Prop,(∃m,W 0 m (stC Fr Tg σ) (upd H2 D (.lst [])))/\
   ∀i m Iw H',W i m Iw H'->(J.stop i H'/\Q (.ref D) H')∨(J.go i H'/\∀x H2,J.MR i H' x H2->g x Iw H2 fun K1 H3=>tt K1 H3 fun b H4=>
    if b=Θ then te K1 H4 fun v H5=>∃ys,H5 D=Δ (.lst ys)/\ys.length < Ζ/\∃m',m' < m/\W (i+1) m' K1 (upd H5 D (.lst (ys++[v])))
    else ∃m',m' < m/\W (i+1) m' K1 H4))
  {E:Ψ->Α->Prop}{RR:Ψ->Env->Result->Α->Prop}
  (hR:∀D C s' H',(∃m,s'.heap.Ns C m)->Inv X pins σ H' s'->kh X pins H' C->Q (.ref D) H'->∀V:Env,V.locals=C->V.frame=X.env.frame->RR (.ref D) V (.ok .next) s')
  (hX:∀D C s3 H3,(∀s5 Nl H5,Inv (LJ X scope cl (Fr.map (·.1)++Tg) C s3 H3 fp (XE C s3 H3 fp)) [] Nl H5 s5->(∃m,s5.heap.Ns C m)/\Inv X pins σ H5 s5/\kh X pins H5 C)->∀e s',XE C s3 H3 fp e s'->
   notedBy (Μ X.prog X.w) X.A (compEnvC scope cl C X.env) (fun x Mq=>∀V:Env,V.locals=C->V.frame=X.env.frame->RR (.ref D) V (.error x) Mq) e s') :
  Κ (Μ X.prog X.w) X.A (newList []) (fun acc Nm=>Κ (Μ X.prog X.w) X.A (newFunctionEnv scope X.env.globals cl [] X.env.qual Φ .none (Δ X.env)) (fun QN UR=>
   codeAny (Μ X.prog X.w) X.A (.compStart (.ListComp elt [⟨tg,iter,ifs,0⟩] scope pos) 0 (.ref it) acc {QN with scope:=relabel scope X.env}) (RR acc QN) UR) E Nm) E s2:=by
 have ZM:∀b∈fp,b < s2.heap.objs.size:=fun b hb=>by obtain⟨o,e,_⟩:=T.obj _ _ NT b hb;exact j_ e
 -- Oo NV
 refine aaw ?_;have I3:Inv X pins σ (upd H2 s2.heap.objs.size (.lst [])) {s2 with heap:=s2.heap.push {cls:=.type "list",data:=.seq ([]:List Ψ).toArray},toks:=s2.toks}:=I2.OA (ys:=[]) (its:=[]) .nil (Z_ _);generalize hD:s2.heap.objs.size=D at I3 ⊢;have ZN:H2 D=Φ:=by rw[<- hD];exact I2.fresh
 generalize Tj:({s2 with heap:=s2.heap.push {cls:=.type "list",data:=.seq ([]:List Ψ).toArray},toks:=s2.toks}:Α)=s3 at I3;have k3:∀b o,s2.heap.get? b=Δ o->s3.heap.get? b=Δ o:=fun b o e=>by rw[<- Tj];exact l_ _ e
 have ZO:s3.heap.objs.size=D+1:=by rw[<- Tj,<- hD];exact V_ ..
 have QO:∀b∈fp,b < D:=fun b hb=>by rw[<- hD];exact ZM b hb
 have UT:∀b∈fp,b < s3.heap.objs.size:=fun b hb=>by rw[ZO];exact Nat.lt_succ_of_lt (QO b hb)
 have f3:∀b∈fp,kh X pins (upd H2 D (.lst [])) b:=fun b hb=>by obtain⟨a1,a2⟩:=f2 b hb;refine⟨?_,a2⟩;rw[gX (m_ (QO b hb))];exact a1
 obtain⟨W,⟨m0,w0⟩,turn⟩:=q D ZN;refine wpAny_newFunctionEnv S.KJ (by intro y hy;simp at hy) (fun h4 OE QP=>codeAny_mono (R:=fun r s'=>∀V:Env,V.locals=s3.heap.objs.size->V.frame=X.env.frame->RR (.ref D) V r s') ?_ fun r s' z=>z _ rfl rfl) S.kind;have k4:∀b o,s3.heap.get? b=Δ o->h4.get? b=Δ o:=fun b o e=>
  QP.extBut b o (m_ (j_ e)) (l_ _ e)
 have X1:tn 0 h4:=T.keep _ _ _ NT fun b hb o e=>k4 b o (k3 b o e);have I4:=uy (fp:=fp) (h':=h4) (tk:=s3.toks+([]:List (Str×Ψ)).length) S I3 f3 UT (by simpa using OE) k4 (XE s3.heap.objs.size s3 (upd H2 D (.lst [])) fp);generalize hC:s3.heap.objs.size=C at I4 OE QP ⊢;have UU:=hX D C s3 (upd H2 D (.lst []));generalize hZ:XE C s3 (upd H2 D (.lst [])) fp=Z at I4 UU;generalize hY:LJ X scope cl (Fr.map (·.1)++Tg) C s3 (upd H2 D (.lst [])) fp Z=Y at I4 UU;have yP:Y.prog=X.prog:=by rw[<- hY];rfl
 have yw:Y.w=X.w:=by rw[<- hY];rfl
 have yK:Y.K=X.K:=by rw[<- hY];rfl
 have yA:Y.A=X.A:=by rw[<- hY];rfl
 have yc:Y.calm=Θ:=by rw[<- hY];exact hc
 have yx:Y.xe=Z:=by rw[<- hY];rfl
 have ye:Y.env=compEnvC scope cl C X.env:=by rw[<- hY];rfl
 have QQ:Y.ex=fp:=by rw[<- hY];rfl
 have ZP:Y.pn=[]:=by rw[<- hY];rfl
 have ZQ:Y.fs=Kg X.stack:=by rw[<- hY];rfl
 have yH:Y.LZ=upd H2 D (.lst []):=by rw[<- hY];rfl
 have NW:Y.IY=s3:=by rw[<- hY];rfl
 have ZT:PG Y tg g:=by rw[<- hY,<- hZ];exact hg _ _ _ _
 have Li:Nk Y ifs tt:=by rw[<- hY,<- hZ];exact ht _ _ _ _
 have ZU:PE Y elt te:=by rw[<- hY,<- hZ];exact he _ _ _ _
 have Lm:∀ {H':Hp},(∀b∈fp,H' b=Φ)->∀b∈fp,kh Y [] H' b:=fun hn b hb=>by have UW:=I4.ok;refine⟨hn b hb,(UW.Uu b (by rw[QQ];exact hb)).1,UW.Nd b (by rw[QQ];exact hb),.inl (by rw[QQ];exact hb),(UW.Uu b (by rw[QQ];exact hb)).2,fun p hp=>absurd hp (by rw[ZP];simp)⟩
 have ZV:∀b∈fp,(upd H2 D (.lst [])) b=Φ:=fun b hb=>(f3 b hb).1
 -- back to Oo frame
 have back:∀(s5:Α) (Nl:St) (H5:Hp),Inv Y [] Nl H5 s5->(∃m,s5.heap.Ns C m)/\Inv X pins σ H5 s5/\kh X pins H5 C:=by
  intro s5 Nl H5 I5;have UX:∃m,s5.heap.Ns C m:=by obtain⟨m,hn,_⟩:=I5.loc;rw[ye]at hn;exact⟨m,hn⟩
  have ZW:Un (Kg X.stack) fp (upd H2 D (.lst [])) H5 s3.heap s5.heap:=by have u:=I5.base;rw[ZQ,QQ,yH,NW]at u;exact u
  have ZX:s5.os=s3.os:=by have:=I5.os;rw[NW]at this;exact this
  have UY:Ji X.prog X.w H5 s5.heap:=by have:=I5.IF;rw[yP,yw]at this;exact this
  have Mh:∀b∈fp,(b∈X.ex∨X.IY.heap.objs.size<=b)/\b≠X.env.locals/\(∀x c,X.env.cells.lookup x=Δ c->c≠b)/\∀p∈X.pn++pins,p.1≠b:=fun b hb=>by obtain⟨_,a1,_,a3,a4,a5⟩:=f3 b hb;exact⟨a3,a1,a4,a5⟩
  have QR:H5 C=Φ:=by have:=I5.free;rw[ye]at this;exact this
  exact⟨UX,I3.QB ZX ZW UY I5.bare Mh,I3.Ll (Nat.le_of_eq hC) QR⟩
 have nz:∀ {α:Type}{t:Sem α}{Q:α->Α->Prop}{s:Α},Κ (Μ X.prog X.w) X.A t Q Z s->Κ (Μ X.prog X.w) X.A t Q (notedBy (Μ X.prog X.w) X.A (compEnvC scope cl C X.env) fun x Mq=>∀V:Env,V.locals=C->V.frame=X.env.frame->RR (.ref D) V (.error x) Mq) s:=fun h=>wpAny_mono h (fun _ _ z=>z) fun e s' z=>UU back e s' z;have loop:∀(s5:Α) (Nl:St) (H5:Hp) (i m:Nat),Inv Y [] Nl H5 s5->tn i s5.heap->(∀b∈fp,H5 b=Φ)->W i m Nl H5->
   codeAny (Μ X.prog X.w) X.A (.compLoop (.ListComp elt [⟨tg,iter,ifs,0⟩] scope pos) 0 (.ref it) (.ref D) (compEnvC scope cl C X.env)) (fun r s'=>∀V:Env,V.locals=C->V.frame=X.env.frame->RR (.ref D) V r s') s5:=by
  intro s5 Nl H5 i m I5 QE UC w5;refine codeAny_loop rfl (fun n s'=>∃i Iw H',Inv Y [] Iw H' s'/\tn i s'.heap/\(∀b∈fp,H' b=Φ)/\W i n Iw H') ?_ m ⟨i,Nl,H5,I5,QE,UC,w5⟩;rintro n s6 ⟨i,Ot,H6,I6,X2,X3,w6⟩;show Κ _ X.A ((compTurn (.ListComp elt [⟨tg,iter,ifs,0⟩] scope pos) 0 (.ref it) (.ref D) (compEnvC scope cl C X.env)).onRaise (fun x=>do noteFrame x (compEnvC scope cl C X.env);theTreesLotGoes x)) _ _ s6;refine wpAny_noted ?_;rw[oP];refine a_ (wpAny_standAt (a_ ?_));have nx:∀ {α:Type}{t:Sem α}{Q:α->Α->Prop}{E':Ψ->Α->Prop}{s:Α},Κ (Μ X.prog X.w) X.A t Q (fun _ _=>False) s->Κ (Μ X.prog X.w) X.A t Q E' s:=fun h=>wpAny_mono h (fun _ _ z=>z) fun _ _ z=>z.elim;rcases turn i n Ot H6 w6 with⟨stop,qn⟩|⟨go,step⟩
  ·have h:=T.done Y yP yw yK yc i [] s6 Ot H6 (fun _ _=>False) I6 (Lm X3) X2 stop;rw[yA]at h;refine nx (IG h fun r s7 ⟨hr,I7⟩=>?_);subst hr;refine e_ ?_;obtain⟨b1,b2,b3⟩:=back s7 Ot H6 I7;exact hR D C s7 H6 b1 b2 b3 qn
  ·have h:=T.item Y yP yw yK yc i [] s6 Ot H6 (fun _ _=>False) I6 (Lm X3) X2 go;rw[yA]at h;refine nx (IG h fun r s7 ⟨u,hr,h7⟩=>?_);subst hr;refine a_ (nx (IG h7 fun _ s8 ⟨x,H8,I8,r8,y8,UZ,ZY⟩=>?_));have ZZ:=I8.pinned (Lm ZY) (T.obj _ _ UZ);have h9:=ZT _ s8 Ot H8 x u _ ZZ r8 (step x H8 y8);rw[yP,yw,yA,yx,ye]at h9;refine a_ (nz (IG h9 fun _ s9 ⟨U0,H9,I9,q9⟩=>?_));have LK:=Li _ s9 U0 H9 _ I9 q9;rw[yP,yw,yA,yx,ye]at LK;refine a_ (nz (IG LK fun ok Nn ⟨Z0,X4,PV⟩=>?_));have again:∀ {Iw:St}{H':Hp}{s':Α},Inv Y ([]++kX fp s8.heap) Iw H' s'->(∃m',m' < n/\W (i+1) m' Iw H')->∃m,m < n/\∃i Iw H',Inv Y [] Iw H' s'/\tn i s'.heap/\(∀b∈fp,H' b=Φ)/\W i m Iw H':=fun {Iw H' s'} I' ⟨m',hm,w'⟩=>by refine⟨m',hm,i+1,Iw,H',I'.JJ,T.keep _ _ _ UZ fun b hb o e=>(I'.pin (b,o) (v_ _ (v_ _ (jP hb e)))).1,fun b hb=>?_,w'⟩;obtain⟨o,e,d⟩:=T.obj _ _ UZ b hb;exact(I'.pin (b,o) (v_ _ (v_ _ (jP hb e)))).2.1
   induction ok using zB with
   |false=>rw[d_ B_]at PV;refine a_ (e_ (e_ ⟨rfl,again X4 PV⟩))
   |true=>rw[f_ rfl]at PV;have NX:=ZU _ Nn U0 Z0 _ X4 PV;rw[yP,yw,yA,yx,ye]at NX;refine a_ (a_ (nz (IG NX fun y Z1 ⟨v,X5,Z2,Z3,ys,ey,zy,Z4⟩=>?_)));have OG:=j7 (X:=Y) ([]++kX fp s8.heap) Z1 U0 X5 (.ref D) [v] (.ref D) [y] (fun v' H'=>v'=.IB/\H'=upd X5 D (.lst (ys++[v]))) Z2 rfl (.cons Z3 .nil) ⟨D,ys,v,rfl,rfl,ey,zy,rfl,rfl⟩;rw[yP,yw,yA,yx]at OG;refine a_ (nz (IG OG fun z s12 ⟨v12,H12,Z5,r12,X6,U1⟩=>?_));subst U1;exact e_ (e_ ⟨rfl,again Z5 Z4⟩)
 have start:=loop {s3 with heap:=h4,toks:=s3.toks+([]:List (Str×Ψ)).length} (stC Fr Tg σ) (upd H2 D (.lst [])) 0 m0 I4 X1 ZV w0;have e5:∀(s':Α),s' = {s3 with heap:=h4,toks:=s3.toks+([]:List (Str×Ψ)).length}->codeAny (Μ X.prog X.w) X.A (.compLoop (.ListComp elt [⟨tg,iter,ifs,0⟩] scope pos) 0 (.ref it) (.ref D) (compEnvC scope cl C X.env)) (fun r s'=>∀V:Env,V.locals=C->V.frame=X.env.frame->RR (.ref D) V r s') s':=by rintro _ rfl;exact start
 exact codeAny_compStart_list (e5 _ rfl) (T.self _ _ _ _ _ X1 (e5 _ rfl))
theorem oQ (hc:X.calm=Θ)(S:JR X scope cl Fr Tg)(hi:PI X tg iter wi)
  (hg:∀C s H fp,PG (LJ X scope cl (Fr.map (·.1)++Tg) C s H fp) tg g) (ht:∀C s H fp,Nk (LJ X scope cl (Fr.map (·.1)++Tg) C s H fp) ifs tt)
  (he:∀C s H fp,PE (LJ X scope cl (Fr.map (·.1)++Tg) C s H fp) elt te) (hs:∀x,foldedSetIterable iter X.env x=pure x:=by intro _;rfl) :
  PE X (.ListComp elt [⟨tg,iter,ifs,0⟩] scope pos) (vE wi (stC Fr Tg) g tt te):=by
 intro pins s σ H Q I h;rw[eval_ListComp];refine wpAny_comprehension_free (use:=Φ) rfl hs S.QM S.kind S.loc (IG (hi pins s σ H _ I h) fun xv s1 h1=>IG h1 fun Ta s2 h2=>?_);obtain⟨it,fp,tn,J,H2,rfl,I2,T,NT,f2,q⟩:=h2;refine mG (XE:=fun _ _ _ _ _ _=>False) (RR:=fun acc V=>compPost (Μ X.prog X.w) X.A X.xe Φ (EP X pins σ Q) acc V.locals) hc S hg ht he I2 T NT f2 q ?_ fun _ _ _ _ _ _ _ z=>z.elim;intro D C s' H' ⟨m,hn⟩ I' F' q' V hV _;subst hV;obtain⟨f0,f1,f2,f3,f4,f5⟩:=F';exact⟨m,hn,fun h' sb=>⟨.ref D,H',I'.turned (t':=s'.toks) (fun b o hb e=>(sb.2 b hb).trans e) f0 f1 f3 f4 f5,rfl,q'⟩⟩
theorem zb (hc:X.calm=Θ)(hN:X.N.Nodup)(Z6:X.N[i]? = Δ y)(hy:X.env.kindOf y=Δ .local)(S:JR X scope cl Fr Tg)(hi:PI X tg iter wi)
  (hg:∀C s H fp,PG (LJ X scope cl (Fr.map (·.1)++Tg) C s H fp) tg g) (ht:∀C s H fp,Nk (LJ X scope cl (Fr.map (·.1)++Tg) C s H fp) ifs tt)
  (he:∀C s H fp,PE (LJ X scope cl (Fr.map (·.1)++Tg) C s H fp) elt te)
  (OH:swapsWith (.ListComp elt [⟨tg,iter,ifs,0⟩] scope pos) (Δ (.Name y py)) spos.line X.env=pure Θ) (hs:∀x,foldedSetIterable iter X.env x=pure x:=by intro _;rfl) :
  PS X (.Assign [.Name y py] (.ListComp elt [⟨tg,iter,ifs,0⟩] scope pos) spos) (fun D σ H=>vE wi (stC Fr Tg) g tt te σ H fun v H'=>D.nx (σ.set i (Δ v)) H'):=by
 intro pins s σ H D I h;rw[exec_Assign_Name_used _ _ _ _ OH];refine a_ (wpAny_standAt (a_ ?_));show Κ _ X.A (do let _ <- comprehension (.ListComp elt [⟨tg,iter,ifs,0⟩] scope pos) scope X.env _ (newList []) Ξ (eval iter X.env) (Δ (assign (.Name y py) X.env))) _ _ s
 refine a_ (IG (wpAny_comprehension_free (use:=Δ (assign (.Name y py) X.env)) (Q:=fun _ s'=>SP X pins D .next s') rfl hs S.QM S.kind S.loc
  (IG (hi pins s σ H _ I h) fun xv s1 h1=>IG h1 fun Ta s2 h2=>?_)) fun _ s' hq=>e_ (e_ hq))
 obtain⟨it,fp,tn,J,H2,rfl,I2,T,NT,f2,q⟩:=h2;refine mG (Q:=fun v H'=>D.nx (σ.set i (Δ v)) H') (XE:=fun _ _ _ _ _ _=>False) (RR:=fun acc V=>compPost (Μ X.prog X.w) X.A X.xe (Δ (assign (.Name y py) X.env)) (fun _ s'=>SP X pins D .next s') acc V.locals) hc S hg ht he I2 T NT f2 q ?_ fun _ _ _ _ _ _ _ z=>z.elim;intro D' C s' H' ⟨m,hn⟩ I' F' q' V hV _;subst hV;obtain⟨f0,f1,f2,f3,f4,f5⟩:=F';show Κ _ X.A (assign (.Name y py) X.env (.ref D')) _ _ _;refine wpAny_assign_Name (nP I' hN Z6 (.inl hy) (show RelV (.ref D') (.ref D') from rfl) (fun Mq Z7 ⟨a,sb,ha⟩=>?_) (.inr hy));have Z8:V.locals≠a:=by
  rcases ha with rfl|ha
  ·exact f1
  ·exact fun z=>f4 y a ha z.symm
 refine⟨m,hn.sameBut sb Z8,fun h' Z9=>⟨_,H',Z7.turned (t':=Mq.toks) (fun b o hb e=>(Z9.2 b hb).trans e) f0 f1 f3 f4 f5,q'⟩⟩
end
open PySem.SeqAt
section
variable {prog:Ε}{w:Β}{A:Ι}{E:Ψ->Α->Prop}{s:Α}
theorem qV:typeLookup (.type "list_reverseiterator") "__len__" = pure Φ:=by rw[typeLookup_type,builtinLookup_eq_fast];kernel_rfl
theorem vF:typeLookup (.type "list_reverseiterator") "__length_hint__" = pure (Δ (.builtin "list_reverseiterator.__length_hint__")):=by rw[typeLookup_type,builtinLookup_eq_fast];kernel_rfl
theorem mH (hit:s.heap.IsRevIter I l i)(h:Q Ξ s):Κ (Μ prog w) A (Builtin.List.listLengthHint (.ref I)) Q E s:=by
 unfold Builtin.List.listLengthHint;refine a_ (wpAny_specialOf hit.typeIs qV ?_);show Κ _ A (specialOf (θ I) (Ρ "__length_hint__") >>= _) _ _ _;refine a_ (wpAny_specialOf hit.typeIs vF ?_);generalize Mi:("list_reverseiterator.__length_hint__" : String)=U2
 wp_delta
 rw[show splitId U2=Δ ("list_reverseiterator","__length_hint__") from by subst Mi;decide +kernel];subst Mi;refine a_ (wpAny_isInstance (T:="list_reverseiterator") (b:=Θ) hit.typeIs (by rw[isSubtype_type];kernel_rfl) ?_);refine wpAny_ite_split (fun L5=>absurd L5 (by decide)) (fun _=>?_);refine wpAny_ite_split (fun _=>?_) (fun L5=>absurd (by decide +kernel) L5);refine wpAny_ite_split (fun L5=>absurd L5 (by decide +kernel)) (fun _=>?_);exact e_ h
theorem kZ {R:Result->Α->Prop}(hh:A.handled=Φ)(I l S:Ω)(items:Array Ψ)(JK:l≠I)(res:Ψ)(c₀:Nat)(hit:s.heap.IsRevIter I l ((items.size:Int) - 1))(hl:s.heap.IsList l items)(X7:S≠I)(Z':S≠l)
  (hS:s.heap.get? S=Δ {cls:=.type "list",data:=.seq #[] c₀})
  (hR:∀h' tk Jt c',(∀b o,b≠S->b≠I->s.heap.get? b=Δ o->h'.get? b=Δ o)->h'.get? S=Δ {cls:=.type "list",dict:=Φ,data:=.seq Jt c',slots:=#[]}->
   ItemsOf (fun i v=>items[items.size - 1 - i]? = Δ v) Jt items.size->R (.ok (.ret res)) {s with heap:=h',toks:=tk}) (hn:items.size<=Ζ) :
  Κ (Μ prog w) A.in1 (Χ (.ref S) (.ref I) res)
   (fun fin s'=>match fin with|.done f=>R (.ok f) s'|.again c'=>c'.quiet=Θ/\codeAny (Μ prog w) A c' R s') (fun e s'=>R (.error e) s') s:=by
 have hSf:S∉[I,l]:=fun hm=>by
  rcases k_.mp hm with e|hm
  ·exact X7 e
  ·exact Z' (o_.mp hm)
 unfold Χ;refine a_ (wpAny_typeOf hit.typeIs ?_);have h1:Builtin.List.listSameRef (.ref S) (.ref I)=Ξ:=by simp[Builtin.List.listSameRef,X7]
 have h2:(Value.type "list_reverseiterator" == Value.type "list")=Ξ:=by decide
 have h3:(Value.type "list_reverseiterator" == Value.type "tuple")=Ξ:=by decide
 simp only[h1,h2,h3,Bool.or_false,aax,if_false];refine a_ (wpAny_pyIter_revIter hit ?_);refine a_ (N_ (mH hit ?_));refine wpAny_ite_split (fun L5=>absurd L5 (by decide)) (fun _=>?_);have W:=(Walks.listRev (prog:=prog) (w:=w) (A:=A.in1) hh I l JK items).toS;refine e_ ⟨plainId_quiet F.plain_extend_loop _,codeAny_extend_loopS W hn S hSf res items.size 0 _ #[] c₀ rfl (Z_ _) ⟨Z_ _,by simpa using hit,hl⟩ hS (ItemsOf.nil _) fun s' Jt c' hm JW I0=>?_⟩;rw[Moved.eq_with hm];refine hR s'.heap s'.toks Jt c' (fun b o hb KY e=>hm.heap b o (fun OI=>?_) e) JW I0;rcases k_.mp OI with e'|OI
 ·exact hb e'
 ·exact KY (o_.mp OI)
theorem nE (hh:A.handled=Φ)(I l:Ω)(items:Array Ψ)(JK:l≠I)(hit:s.heap.IsRevIter I l ((items.size:Int) - 1))(hl:s.heap.IsList l items)
  (hQ:∀h' tk Jt c',(∀b o,b≠I->s.heap.get? b=Δ o->h'.get? b=Δ o)->
   h'.get? s.heap.objs.size=Δ {cls:=.type "list",dict:=Φ,data:=.seq Jt c',slots:=#[]}->ItemsOf (fun i v=>items[items.size - 1 - i]? = Δ v) Jt items.size->Q (.ref s.heap.objs.size) {s with heap:=h',toks:=tk}) (hn:items.size<=Ζ) :
  Κ (Μ prog w) A (call (.type "list") [.ref I]) Q E s:=by
 have ltI:I < s.heap.objs.size:=by obtain⟨o,e,_⟩:=hit;exact j_ e
 have To:l < s.heap.objs.size:=by obtain⟨o,e,_⟩:=hl;exact j_ e
 refine callType_codes (Q₁:=fun obj Iy=>obj=.ref s.heap.objs.size/\Iy = {s with heap:=s.heap.push {cls:=.type "list",data:=.seq #[]}}) F.called_list (F.typeCall_list_1 _) F.entry_list_init
  (code_list_new _ ⟨rfl,rfl⟩) fun obj Iy K3=>?_
 obtain⟨rfl,rfl⟩:=K3;have hS:(s.heap.push {cls:=.type "list",data:=.seq #[]}).get? s.heap.objs.size=Δ {cls:=.type "list",data:=.seq #[]}:=z_ _ rfl;refine⟨⟨_,hS,rfl⟩,F.args_list_init_2 _ _,?_⟩;show Κ _ _ (do let old <- Builtin.List.listItems (.ref s.heap.objs.size);Builtin.List.listUpdate (.ref s.heap.objs.size) (fun _=>#[]);letGo old.toList.reverse;Χ (.ref s.heap.objs.size) (.ref I) .none) _ _ _;refine a_ ?_;unfold Builtin.List.listItems;refine a_ (aad hS rfl (e_ ?_));show Κ _ _ (updateSeq s.heap.objs.size (fun _=>#[]) >>= fun _=>letGo (#[]:Array Ψ).toList.reverse >>= fun _=>Χ (.ref s.heap.objs.size) (.ref I) .none) _ _ _;refine a_ (wpAny_updateSeq hS rfl ?_);have Kv:=aav (ι (fun _=>(#[]:Array Ψ))) hS rfl;have JL:∀b o,b≠s.heap.objs.size->s.heap.get? b=Δ o->((s.heap.push {cls:=.type "list",data:=.seq #[]}).update s.heap.objs.size (ι (fun _=>(#[]:Array Ψ)))).get? b=Δ o:=
  fun b o hb e=>(aan _ _ (Ne.symm hb)).trans (l_ _ e)
 refine a_ (wpAny_letGo ?_);refine kZ (A:=A.in1) hh I l _ items JK .none _ (hit.at fun o e=>JL I o (m_ ltI) e) (hl.at fun o e=>JL l o (m_ To) e) (U_ ltI) (U_ To) Kv (fun h' tk Jt c' hk JW I0=>?_) hn;exact⟨rfl,hQ h' tk Jt c' (fun b o hb e=>hk b o (m_ (j_ e)) hb (JL b o (m_ (j_ e)) e)) JW I0⟩
end
section
variable {X:Cx}{e:Expr}{t:TE}{p p' pos pos':Pos}
theorem Vals.rev:∀ {xs:List V}{us:List Ψ},Vals xs us->Vals xs.reverse us.reverse
 |[],[],_=>.nil
 |x::xs,u::us,.cons r rs=>by rw[List.reverse_cons,List.reverse_cons];exact(Vals.rev rs).append (.cons r .nil)
theorem zd (hc:X.calm=Θ)(g1:Gl X "list") (m1:X.mg "list" = Φ) (g2:Gl X "reversed") (m2:X.mg "reversed" = Φ) (he:PE X e t) (Jj:∀es,Ν (e::es) X.env=(Ξ,eval e X.env)::Ν es X.env) :
  PE X (.Call (.Name "list" p) [.Call (.Name "reversed" p') [e] [] pos'] [] pos) (fun σ H Q=>t σ H fun v H1=>∃l ys,v=.ref l/\Jo X.K H1 l ys/\∀q,H1 q=Φ->Q (.ref q) (upd H1 q (.lst ys.reverse))):=by
 intro pins s σ H Q I h;refine aau (jn (u:=.type "list") I g1 m1 (by decide +kernel) ?_ (by decide) (by decide));refine aao ?_ rfl rfl;show Κ _ _ (spliced ((Ξ,eval (.Call (.Name "reversed" p') [e] [] pos') X.env)::backTo pos (Ν [] X.env))) _ _ s;have key:Κ (Μ X.prog X.w) X.A (eval (.Call (.Name "reversed" p') [e] [] pos') X.env) (fun u s1=>∃s0 l ys its H1,Inv X pins σ H1 s0/\Vals ys its/\s0.heap.IsList l its.toArray/\ys.length<=Ζ/\u=.ref s0.heap.objs.size/\s1 = {s0 with heap:=s0.heap.push (revObj l ((its.toArray.size:Int) - 1))}/\∀q,H1 q=Φ->Q (.ref q) (upd H1 q (.lst ys.reverse))) X.xe s:=by refine aau (jn (u:=.type "reversed") I g2 m2 (by decide +kernel) ?_ (by decide) (by decide));refine aao ?_ (Jj []) rfl;rw[Jj []];show Κ _ _ (spliced ((Ξ,eval e X.env)::backTo pos' (Ν [] X.env))) _ _ s;refine Calls.spliced_cons (IG (he pins s σ H _ I h) fun u s1 ⟨x,H1,I1,r1,l,ys,ex,hq,q1⟩=>?_);subst ex;cases r1;refine Calls.spliced_nil ?_;obtain⟨its,r',pl,hz⟩:=I1.list hq;exact call_reversed_list pl.isList ⟨s1,l,ys,its,H1,I1,r',pl.isList,hz,rfl,rfl,q1⟩
 refine Calls.spliced_cons (IG key fun u s1 ⟨s0,l,ys,its,H1,I1,rv,hl,hz,eu,es,q1⟩=>?_);subst eu es;refine Calls.spliced_nil ?_;have hlen:=rv.length;have To:l < s0.heap.objs.size:=by obtain⟨o,e,_⟩:=hl;exact j_ e
 have hit:(s0.heap.push (revObj l ((its.toArray.size:Int) - 1))).IsRevIter s0.heap.objs.size l ((its.toArray.size:Int) - 1):=⟨_,z_ _ rfl,rfl,rfl⟩
 have QS:(s0.heap.push (revObj l ((its.toArray.size:Int) - 1))).IsList l its.toArray:=hl.at fun o e=>l_ _ e;have hsz:(s0.heap.push (revObj l ((its.toArray.size:Int) - 1))).objs.size=s0.heap.objs.size+1:=V_ ..;refine nE (s:={s0 with heap:=s0.heap.push (revObj l ((its.toArray.size:Int) - 1))}) (show X.A.handled=Φ from I.ok.hd hc) s0.heap.objs.size l its.toArray (m_ To) hit QS (fun h' tk Jt c' kp e I0=>?_) (by simp only[E_]<;>omega);have ha:Jt=(its.reverse).toArray:=by
  apply Array.ext
  ·rw[I0.1];simp
  ·intro i h1 h2;have:=I0.2 i Jt[i] (Array.getElem?_eq_getElem h1);rw[I0.1]at h1;have h3:i < its.length:=by simpa using h1
   simp only[E_,List.getElem?_toArray]at this;rw[x_ (by omega)]at this;have:=I_ this;rw[<- this];simp[List.getElem_reverse]
 subst ha;exact⟨.ref _,_,I1.laid (t':=tk) (fun b o e=>kp b o (m_ (j_ e)) (l_ _ e)) (by show s0.heap.objs.size<=(s0.heap.push _).objs.size;rw[hsz];exact Nat.le_succ _) (show iz X.prog X.w _ h' _ (.lst ys.reverse) from⟨by simpa using hz,its.reverse,c',rv.rev,e⟩),rfl,q1 _ (I1.IF.fresh (by show s0.heap.objs.size<=(s0.heap.push _).objs.size;rw[hsz];exact Nat.le_succ _))⟩
end
section
variable {X:Cx}
theorem pU (h0 : -16000<=n)(h1:n<=16000)(hx:x.length<=1000):MulOk x n:=by
 refine⟨?_,fun hn _=>?_,fun hn _=>?_⟩
 ·rw[Bool.or_eq_false_iff];exact⟨G_ (by omega),G_ (by omega)⟩
 ·have:(1000:Int)<=(2 ^ 63 - 1) / n:=Int.le_ediv_of_mul_le (by omega) (by omega);omega
 ·have:x.length*n.toNat<=1000*16000:=Nat.mul_le_mul hx (by omega);unfold Builtin.Str.tooLong;exact G_ (by rw[sizeLine_eq];omega)
theorem qW:Kh X (binaryOp .Mult) (fun x y H Q=>∃i j,x=.str i/\y=.int j/\-16000<=j/\j<=16000/\i.length<=1000/\Q (.str (Txt.mul i j)) H):=by intro pins s σ H x y v u Q I rx ry h;obtain⟨i,j,rfl,rfl,h0,h1,hz,q⟩:=h;obtain⟨t,rfl⟩:=rx;obtain⟨t',rfl⟩:=ry;exact SB.mul (pU h0 h1 hz) fun t' tk=>⟨.str (Txt.mul i j),H,I.tok _,⟨_,rfl⟩,q⟩
end
open PySem.W
section
variable {κ:Type} [DecidableEq κ]
noncomputable def k8 (kvs:List (κ×V))(k:κ):Option V:=(kvs.find? fun kv=>decide (kv.1=k)).map (·.2)
noncomputable def putK (kvs:List (κ×V))(k:κ)(v:V):List (κ×V):=
 if(kvs.any fun kv=>decide (kv.1=k))=Θ then kvs.map (fun kv=>if kv.1=k then(kv.1,v) else kv) else kvs++[(k,v)]
theorem mI {p:κ×V}{r:List (κ×V)}{k:κ}(e:p.1=k):k8 (p::r) k=Δ p.2:=by simp[k8,List.find?_cons,e]
theorem mJ {p:κ×V}{r:List (κ×V)}{k:κ}(e:¬p.1=k):k8 (p::r) k=k8 r k:=by simp[k8,List.find?_cons,e]
theorem pV (k:κ):∀kvs:List (κ×V),(kvs.any fun kv=>decide (kv.1=k))=(k8 kvs k).isSome
 |[]=>rfl
 |p::r=>by
  rw[List.any_cons];by_cases e:p.1=k
  ·simp only[mI e,u_ e,Bool.true_or,Option.isSome_some]
  ·rw[mJ e,G_ e,Bool.false_or];exact pV k r
theorem lX (kvs:List (κ×V))(k:κ)(v:V):(putK kvs k v).length<=kvs.length+1:=by
 unfold putK;split
 ·rw[g_];omega
 ·rw[w_,List.length_cons,List.length_nil];omega
theorem nv.L6 (r:nv o u):o.isSome=u.isSome:=by
 cases o with
 |none=>cases u with
  |none=>rfl
  |some _=>exact(show False from r).elim
 |some _=>cases u with
  |none=>exact(show False from r).elim
  |some _=>rfl
theorem KV.val (r:KV kvs vs)(k:κ):nv (k8 kvs k) (valueAt vs k):=by
 unfold KV at r
 induction r with
 |nil=>exact True.intro
 | @cons p q ps qs h t ih=>
  obtain⟨h1,h2⟩:=h;by_cases e:p.1=k
  ·have e':q.1=k:=h1.symm.trans e;have b:valueAt (q::qs) k=Δ q.2:=by simp[valueAt,List.find?_cons,e']
   rw[mI e,b];exact h2
  ·have e':¬q.1=k:=fun z=>e (h1.trans z);have b:valueAt (q::qs) k=valueAt qs k:=by simp[valueAt,List.find?_cons,e']
   rw[mJ e,b];exact ih
theorem KV.any (r:KV kvs vs)(k:κ):(kvs.any fun kv=>decide (kv.1=k))=vs.any fun kv=>decide (kv.1=k):=by
 unfold KV at r
 induction r with
 |nil=>rfl
 |cons h t ih=>rw[List.any_cons,List.any_cons,ih,h.1]
theorem KV.OJ (r:KV kvs vs)(k:κ)  (ry:RelV y u) :
  KV (kvs.map fun kv=>if kv.1=k then(kv.1,y) else kv) (vs.map fun kv=>if kv.1=k then(kv.1,u) else kv):=by
 unfold KV at r ⊢
 induction r with
 |nil=>exact .nil
 | @cons p q ps qs h t ih=>
  rw[b_,b_];refine .cons ?_ ih;obtain⟨h1,h2⟩:=h;by_cases e:p.1=k
  ·rw[f_ e,f_ (h1.symm.trans e)];exact⟨h1,ry⟩
  ·rw[d_ e,d_ (fun z=>e (h1.trans z))];exact⟨h1,h2⟩
theorem KV.put (r:KV kvs vs)(k:κ)  (ry:RelV y u):KV (putK kvs k y) (stored vs k u):=by
 unfold putK stored;rw[r.any k];by_cases e:(vs.any fun kv=>decide (kv.1=k))=Θ
 ·rw[f_ e,f_ e];exact r.OJ k ry
 ·rw[d_ e,d_ e];exact Paired.snoc r ⟨rfl,ry⟩
theorem KV.length {kvs:List (κ×V)}{vs:List (κ×Ψ)}(r:KV kvs vs):kvs.length=vs.length:=Paired.length r
end
theorem vG (r:RelV (kV k) u):(iJ P w).is k u=Θ:=by
 cases k with
 |inl i=>obtain⟨t,e⟩:=(show ∃t,u=Value.int i t from r);subst e;exact pL P w i t
 |inr x=>obtain⟨t,e⟩:=(show ∃t,u=Value.str x t from r);subst e;exact pM P w x t
theorem nZ:∀ {ks:List Key}{us:List Ψ},Vals (ks.map kV) us->ItemsAre (iJ P w) ks us
 |[],_,r=>by rw[List.map_nil]at r;cases r;exact .nil
 |k::ks,_,r=>by
  rw[b_]at r;cases r with
  |cons h t=>exact .cons (vG h) (nZ t)
abbrev KT (H:Hp):List (List Key×V)->List (List Key×Ω×Ψ)->Prop:=Paired fun p q=>p.1=q.1/\H q.2.1=Δ (.tup (p.1.map kV))/\RelV p.2 q.2.2
theorem KT.val (r:KT H kvs xs)(k:List Key):nv (k8 kvs k) ((atKey xs k).map (·.2)):=by
 induction r with
 |nil=>exact True.intro
 | @cons p q ps qs h t ih=>
  obtain⟨h1,_,h2⟩:=h;by_cases e:p.1=k
  ·have e':q.1=k:=h1.symm.trans e;have b:atKey (q::qs) k=Δ q.2:=by simp[atKey,List.find?_cons,e']
   rw[mI e,b];exact h2
  ·have e':¬q.1=k:=fun z=>e (h1.trans z);have b:atKey (q::qs) k=atKey qs k:=by simp[atKey,List.find?_cons,e']
   rw[mJ e,b];exact ih
theorem KT.OJ (r:KT H kvs xs)(k:List Key)  (ry:RelV y u) :
  KT H (kvs.map fun kv=>if kv.1=k then(kv.1,y) else kv) (xs.map (putAt k u)):=by
 induction r with
 |nil=>exact .nil
 | @cons p q ps qs h t ih=>
  rw[b_,b_];refine .cons ?_ ih;obtain⟨h1,h2,h3⟩:=h;unfold putAt;by_cases e:p.1=k
  ·rw[f_ e,f_ (h1.symm.trans e)];exact⟨h1,h2,ry⟩
  ·rw[d_ e,d_ (fun z=>e (h1.trans z))];exact⟨h1,h2,h3⟩
theorem KT.put (r:KT H kvs xs)(k:List Key)  (hb:H b=Δ (.tup (k.map kV)))(ry:RelV y u) :
  KT H (putK kvs k y) (storedH xs k b u):=by
 have e:(kvs.any fun kv=>decide (kv.1=k))=(atKey xs k).isSome:=by rw[pV,(r.val k).L6,Option.isSome_map]
 unfold putK storedH;rw[e];by_cases q:(atKey xs k).isSome=Θ
 ·rw[f_ q,f_ q];exact r.OJ k ry
 ·rw[d_ q,d_ q];exact Paired.snoc r ⟨rfl,hb,ry⟩
theorem KT.keeps (r:KT H kvs xs)(ht:∀b ys,H b=Δ (.tup ys)->H' b=Δ (.tup ys)):KT H' kvs xs:=
 Paired.Oi r fun _ _ z=>⟨z.1,ht _ _ z.2.1,z.2.2⟩
section
variable {P:Ε}{w:Β}{H:Hp}{h:Heap}{a:Ω}
theorem A9 (ok:Ji P w H h)(e:Rd H a u):iz P w H h a u:=e.ok ok
theorem vH (ok:Ji P w H h)(e:Rd H a (.dK kvs)):kvs.length<=Ζ/\(a == sysModules)=Ξ/\∃vs,KV kvs vs/\h.DictOf (iJ P w) a vs:=
 show iz P w H h a (.dK kvs) from A9 ok e
theorem EA (ok:Ji P w H h)(e:H a=Δ (.dK kvs)):kvs.length<=Ζ/\(a == sysModules)=Ξ/\∃vs,KV kvs vs/\h.DictOf (iJ P w) a vs:=vH ok (.inl e)
theorem qX (ok:Ji P w H h)(e:H a=Δ (.tup (ks.map kV))):(tupleKind (iJ P w)).is h ks a:=by
 obtain⟨_,its,r,o,h1,h2,n,h3⟩:=(show iz P w H h a (.tup (ks.map kV)) from ok a _ e)
 exact⟨o,its.toArray,n,h1,h2,h3,by simpa using nZ r⟩
theorem vI (ok:Ji P w H h)(e:Rd H a (.dT kvs)):kvs.length<=Ζ/\(a == sysModules)=Ξ/\
  ∃xs,KT H kvs xs/\h.DictOfH (tupleKind (iJ P w)) a xs:=by
 obtain⟨z,y,xs,r,o,es,ep,h1,h2,h3,h4,h5⟩:=(show iz P w H h a (.dT kvs) from A9 ok e)
 refine⟨z,y,xs,r,o,es,ep,h1,h2,h3,h4,fun x hx=>?_,h5⟩;have all:∀ {l:List (List Key×V)}{m:List (List Key×Ω×Ψ)},KT H l m->∀x∈m,(tupleKind (iJ P w)).is h x.1 x.2.1:=by
  intro l m q
  induction q with
  |nil=>intro x hx;exact nomatch hx
  | @cons p q ps qs hq t ih=>
   intro x hx;rcases k_.mp hx with e|hx
   ·subst e;exact qX ok (by rw[<- hq.1];exact hq.2.1)
   ·exact ih x hx
 exact all r x hx
theorem EB (ok:Ji P w H h)(e:H a=Δ (.dT kvs)):kvs.length<=Ζ/\(a == sysModules)=Ξ/\
  ∃xs,KT H kvs xs/\h.DictOfH (tupleKind (iJ P w)) a xs:=vI ok (.inl e)
end
def Ci (H:Hp)(a:Ω)(y:V)(r:Option V):Prop:=
 (∃kvs k,Rd H a (.dK kvs)/\y=kV k/\r=k8 kvs k)∨∃kvs k b,Rd H a (.dT kvs)/\y=.ref b/\H b=Δ (.tup (k.map kV))/\r=k8 kvs k
def EC (H:Hp)(a:Ω)(y v:V)(H':Hp):Prop:=
 (∃kvs k,H a=Δ (.dK kvs)/\y=kV k/\kvs.length < Ζ/\H'=upd H a (.dK (putK kvs k v)))∨
 ∃kvs k b,H a=Δ (.dT kvs)/\y=.ref b/\H b=Δ (.tup (k.map kV))/\kvs.length < Ζ/\H'=upd H a (.dT (putK kvs k v))
section
variable {X:Cx}{pins:List (Ω×Obj)}{σ:St}{H:Hp}{s:Α}{a:Ω}{y v:V}{u r:Ψ}{o:Option V}{A:Ι}{E:Ψ->Α->Prop}
theorem Inv.big (I:Inv X pins σ H s):sysModules < s.heap.objs.size:=by have h:Η < s.heap.objs.size:=(I.mod.glob.keeps I.bk).lt;exact Nat.lt_trans (by decide) h
theorem uz (hu:A.units+1 < cLine)(I:Inv X pins σ H s)(g:Ci H a y (Δ v))(ry:RelV y u)(h:∀w' s',Inv X pins σ H s'->RelV v w'->Q w' s') :
  Κ (Μ X.prog X.w) A (getItem (.ref a) u) Q E s:=by
 rcases g with⟨kvs,k,e,ey,l⟩|⟨kvs,k,b,e,ey,eb,l⟩
 ·subst ey;obtain⟨z,hd,vs,rel,dd⟩:=vH I.IF e;obtain⟨w',hw,Ms⟩:=nv.some_of (v:=v) (o:=valueAt vs k) (by rw[l];exact rel.val k);exact wpAny_getItem_of (vG ry) dd.mapOf hw (h w' _ (I.tok _) Ms)
 ·subst ey;cases(show u=θ b from ry);obtain⟨z,hd,xs,rel,dd⟩:=vI I.IF e;obtain⟨w',hw,Ms⟩:=nv.some_of (v:=v) (o:=(atKey xs k).map (·.2)) (by rw[l];exact rel.val k);obtain⟨p,hp,hp2⟩:=aag.mp hw;refine wpAny_getItem_heap (tupleKind_room_in1 hu) (qX I.IF eb) dd hp ?_;rw[hp2];exact h w' _ (I.tok _) Ms
theorem sj (I:Inv X pins σ H s)(mu:Qw (H a))(hs:Heap.SameBut a s.heap h')(he:∃q,h'.get? a=Δ q)(new:iz X.prog X.w (upd H a ob) h' a ob) :
  Inv X pins σ (upd H a ob) {s with heap:=h',toks:=t'}:=
 I.write (x:=a) (e:=a) mu (.inl rfl) (fun b q hb z=>(hs.2 b hb).trans z) he new
theorem Cj (z:kvs.length<=Ζ)(hd:(a == sysModules)=Ξ)(rel:KV kvs vs)(dd:h'.DictOf (iJ P w) a vs) :
  iz P w H' h' a (.dK kvs):=⟨z,hd,vs,rel,dd⟩
theorem uA (hu:A.units+1 < cLine)(I:Inv X pins σ H s)(g:EC H a y v H')(ry:RelV y u)(rv:RelV v r)(h:∀s',Inv X pins σ H' s'->Q () s') :
  Κ (Μ X.prog X.w) A (setItem (.ref a) u r) Q E s:=by
 rcases g with⟨kvs,k,e,ey,l,eH⟩|⟨kvs,k,b,e,ey,eb,l,eH⟩
 ·subst ey eH;obtain⟨z,hd,vs,rel,dd⟩:=EA I.IF e;have hz:vs.length<=Ζ:=by rw[<- rel.length];exact z
  have hl:(putK kvs k v).length<=Ζ:=by have:=lX kvs k v;omega
  refine wpAny_setItem_pairs (hsz:=hz) (vG ry) dd fun h' Tp hs=>h _ ?_;have he:∃q,h'.get? a=Δ q:=let ⟨q,_,_,hq,_⟩:=Tp;⟨q,hq⟩;exact sj I (by rw[e];exact True.intro) hs he (Cj hl hd (rel.put k rv) Tp)
 ·subst ey eH;cases(show u=θ b from ry);obtain⟨z,hd,xs,rel,dd⟩:=EB I.IF e;have hz:xs.length<=Ζ:=by rw[<- Paired.length rel];exact z
  have hl:(putK kvs k v).length<=Ζ:=by have:=lX kvs k v;omega
  refine wpAny_setItem_heap (hsz:=hz) (tupleKind_room_in1 hu) (qX I.IF eb) dd fun h' Tp hs=>h _ ?_;obtain⟨q,es,ep,hq,h2,h3,h4,_,h5⟩:=Tp;refine sj I (by rw[e];exact True.intro) hs ⟨q,hq⟩ ⟨hl,hd,_,(rel.put k eb rv).keeps fun c ys ec=>?_,q,es,ep,hq,h2,h3,h4,h5⟩;rw[gX (Ef ec e (fun z=>nomatch z))];exact ec
end
def ED (i:Expr):Prop:=∀ov iv,subscripted i Ξ ov iv=operate [ov,iv] (getItem ov iv)
theorem ze {prog:Ε}{w:Β}{A:Ι}{E:Ψ->Α->Prop}{s:Α}{env:Env}{value slice:Expr}{pos:Pos}{T id:String}{Q:Ψ->Α->Prop}
  (hl:typeLookup (.type T) "__getitem__" = pure (Δ (.builtin id))) (hs:ED slice)
  (h:Κ (Μ prog w) A (eval value env) (fun o Iy=>Κ (Μ prog w) A (eval slice env) (fun i L3=>L3.TypeIs o T/\Κ (Μ prog w) A (getItem o i) Q E L3) E Iy) E s) :
  Κ (Μ prog w) A (eval (.Subscript value slice pos) env) Q E s:=by
 refine Subscript_ (wpAny_mono h (fun o Iy K3=>wpAny_mono K3 (fun i L3 Lo=>?_) fun _ _ x=>x) fun _ _ x=>x);obtain⟨hT,Lo⟩:=Lo;unfold subscriptTail;refine a_ ?_;rw[getitemInPython_of_ne hT.not_modules];refine a_ (wpAny_specialOf hT hl ?_);have fin:Κ (Μ prog w) A (subscripted slice Ξ o i) (fun r Nm=>Κ (Μ prog w) A (letTemporaryGo value o r >>= fun _=>pure r) Q E Nm) E L3:=by rw[hs o i];exact wpAny_operating (wpAny_mono Lo (fun r Nm OK=>a_ (wpAny_letTemporaryGo (e_ OK))) fun _ _ x=>x)
 first
  | exact e_ (a_ fin)
  | exact a_ (e_ (a_ fin))
  | exact a_ fin
theorem pW (I:Inv X pins σ H s)(g:Ci H a y o):s.TypeIs (.ref a) "dict":=by
 rcases g with⟨kvs,k,e,_,_⟩|⟨kvs,k,b,e,_,_,_⟩
 ·obtain⟨_,_,vs,_,dd⟩:=vH I.IF e;exact dd.typeIs
 ·obtain⟨_,_,xs,_,dd⟩:=vI I.IF e;exact dd.typeIs
def EE (td ty:TE):TE:=fun σ H Q=>td σ H fun x H1=>ty σ H1 fun y H2=>∃a v,x=.ref a/\Ci H2 a y (Δ v)/\Q v H2
def EF (td ty tv:TE):TS:=fun D σ H=>tv σ H fun v H1=>td σ H1 fun x H2=>ty σ H2 fun y H3=>∃a H4,x=.ref a/\EC H3 a y v H4/\D.nx σ H4
section
variable {X:Cx}{o i e value:Expr}{pos pos' aac:Pos}{td ty tv:TE}
theorem zg (hu:X.A.units+1 < cLine)(ho:PE X o td)(hi:PE X i ty)(hs:ED i):PE X (.Subscript o i pos) (EE td ty):=by intro pins s σ H Q I h;refine ze PySem.F.slot_dict_getitem.lookup hs (IG (ho pins s σ H _ I h) fun u s1 ⟨x,H1,I1,rx,q1⟩=>IG (hi pins s1 σ H1 _ I1 q1) fun iv s2 ⟨y,H2,I2,ry,a,v,ex,g,q2⟩=>?_);subst ex;obtain rfl:u=θ a:=rx;exact⟨pW I2 g,uz hu I2 g ry fun w' s3 I3 Ms=>⟨v,H2,I3,Ms,q2⟩⟩
theorem zh (hu:X.A.units+1 < cLine)(ho:PE X o td)(hi:PE X i ty)(hv:PE X value tv)(hs:swapsWith value (Δ (.Subscript o i pos')) pos.line X.env=pure Ξ) :
  PS X (.Assign [.Subscript o i pos'] value pos) (EF td ty tv):=by
 intro pins s σ H D I h;refine wpAny_Assign_Subscript (IG (hv pins s σ H _ I h) fun r s1 ⟨v,H1,I1,rv,q1⟩=>IG (ho pins s1 σ H1 _ I1 q1) fun u s2 ⟨x,H2,I2,rx,q2⟩=>IG (hi pins s2 σ H2 _ I2 q2) fun iv s3 ⟨y,H3,I3,ry,a,H4,ex,g,q3⟩=>?_) hs;subst ex;obtain rfl:u=θ a:=rx;exact uA hu I3 g ry rv fun s4 I4=>⟨σ,H4,I4,q3⟩
end
theorem vJ (h:Heap)(hb:sysModules < h.objs.size):iz P w H (h.push {cls:=.type "dict",data:=.dict #[]}) h.objs.size (.dK []):=
 ⟨Z_ _,beq_eq_false_iff_ne.mpr (Ne.symm (m_ hb)),[],.nil,Heap.DictOf.new h⟩
def Ck:TE:=fun _ H Q=>∀p,H p=Φ->Q (.ref p) (upd H p (.dK []))
section
variable {X:Cx}{pos:Pos}
theorem pX:PE X (.Dict [] [] pos) Ck:=fun pins s σ H Q I h=>
 wpAny_Dict_empty ⟨.ref s.heap.objs.size,_,I.laid (a:=s.heap.objs.size) (o:=.dK []) (t':=s.toks) (fun _ _ q=>l_ _ q) (n_ _) (vJ s.heap I.big),rfl,h _ (I.IF.fresh (n_ _))⟩
end
open PySem.Builtin PySem.Builtin.Str
section
variable {X:Cx}
theorem k9:∀l:List (Str×Tok),Vals ((l.map (·.1)).map V.str) (strValues l)
 |[]=>.nil
 |p::r=>.cons ⟨p.2,rfl⟩ (k9 r)
theorem sr {K:Frag}{H:Hp}{a:Ω}{od:Option Ω}{n:Nat}{sl:Array (Option Ψ)}(l:List (Str×Tok))(h:K.lookup a=Δ ⟨.type "tuple",od,.seq (strValues l).toArray n,sl⟩) (hz:l.length<=1000):IP K H a ((l.map (·.1)).map V.str):=by
 have hs:Ζ=16777216:=sizeLine_eq;refine .inr ⟨_,_,_,h,rfl,rfl,?_,k9 l⟩;have e:(strValues l).length=l.length:=by rw[<- (k9 l).length,g_,g_]
 show(strValues l).toArray.size<=Ζ;rw[E_];omega
end
end L2
namespace L2.Zp
open PySem
inductive Kq where
 | l|t
def Sq (k:Kq)(h:Heap)(a:Ω)(xs:Array Ψ):Prop:=match k with
 |.l=>h.IsList a xs
 |.t=>h.IsTuple a xs
def It (k:Kq)(h:Heap)(i a:Ω)(n:Nat):Prop:=match k with
 |.l=>h.IsListIter i a n
 |.t=>h.IsTupleIter i a n
theorem Sq.to (q:Sq k h a xs)(e:∀o,h.get? a=Δ o->h'.get? a=Δ o):Sq k h' a xs:=by
 cases k with
 |l=>obtain⟨o,ho,r⟩:=q;exact⟨o,e o ho,r⟩
 |t=>obtain⟨o,ho,r⟩:=q;exact⟨o,e o ho,r⟩
theorem It.to (q:It k h i a n)(e:∀o,h.get? i=Δ o->h'.get? i=Δ o):It k h' i a n:=by
 cases k with
 |l=>obtain⟨o,ho,r⟩:=q;exact⟨o,e o ho,r⟩
 |t=>obtain⟨o,ho,r⟩:=q;exact⟨o,e o ho,r⟩
theorem It.lt (q:It k h i a n):i < h.objs.size:=by
 cases k with
 |l=>obtain⟨o,ho,_⟩:=q;exact j_ ho
 |t=>obtain⟨o,ho,_⟩:=q;exact j_ ho
section
variable {prog:Ε}{w:Β}{A:Ι}{E:Ψ->Α->Prop}{s:Α}
theorem vK (c:s.heap.IsTupleIter i a n)(q:s.heap.IsTuple a xs)(hx:xs[n]? = Δ x)
  (k:∀h',h'.IsTupleIter i a (n+1)->Heap.SameBut i s.heap h'->Q x {s with heap:=h'}):Κ (Μ prog w) A (ζ (.ref i)) Q E s:=by
 have ty:=c.typeIs;obtain⟨oi,gi,ci,di⟩:=c;obtain⟨oa,ga,_,na,da⟩:=q;unfold ζ;refine a_ (wpAny_callSpecial?_slot (name:=Ρ "__next__") ty F.slot_tuple_iterator_next (aah F.slot_tuple_iterator_next ty F.entry_tuple_iterator_next ?_ (F.args_tuple_iterator_next_1 _)));show Κ _ _ (field (.ref i) 0 >>= _) _ _ s;refine a_ (P_ gi di (x:=.ref a) rfl ?_);show Κ _ _ (if(θ a == Value.none)=Θ then _ else _) _ _ s;rw[d_ (by intro z;cases z)];show Κ _ _ (field (.ref i) 1 >>= _) _ _ s;refine a_ (P_ gi di (x:=.int n 0) rfl ?_);show Κ _ _ (seqItems? (.ref a) >>= _) _ _ s;refine a_ (aad ga da ?_);simp only[aak,hx];refine a_ (wpAny_setField gi di (by simp) (e_ ⟨x,rfl,e_ (k _ ⟨_,aav _ gi (Obj.isFreed_of_fields (Obj.data_mapFields di _)),(Obj.cls_mapFields ..).trans ci,?_⟩ (aaD ..))⟩));rw[Obj.data_mapFields di];simp[rawInt]
theorem zk (hh:A.handled=Φ)(c:s.heap.IsTupleIter i a n)(q:s.heap.IsTuple a xs)(hx:xs[n]? = Φ)
  (k:∀h' e,Heap.ExtBut i s.heap h'->(∃o,h'.get? e=Δ o/\o.cls=.type "StopIteration")->E (.ref e) {s with heap:=h'}):Κ (Μ prog w) A (ζ (.ref i)) Q E s:=by
 have ty:=c.typeIs;obtain⟨oi,gi,ci,di⟩:=c;obtain⟨oa,ga,_,na,da⟩:=q;unfold ζ;refine a_ (wpAny_callSpecial?_slot (name:=Ρ "__next__") ty F.slot_tuple_iterator_next (aah F.slot_tuple_iterator_next ty F.entry_tuple_iterator_next ?_ (F.args_tuple_iterator_next_1 _)));show Κ _ _ (field (.ref i) 0 >>= _) _ _ s;refine a_ (P_ gi di (x:=.ref a) rfl ?_);show Κ _ _ (if(θ a == Value.none)=Θ then _ else _) _ _ s;rw[d_ (by intro z;cases z)];show Κ _ _ (field (.ref i) 1 >>= _) _ _ s;refine a_ (P_ gi di (x:=.int n 0) rfl ?_);show Κ _ _ (seqItems? (.ref a) >>= _) _ _ s;refine a_ (aad ga da ?_);simp only[aak,hx];refine a_ (wpAny_rule (a_ (wpAny_setField gi di (by simp) (a_ ?_))));simp only[newExc,newTuple];refine a_ (aaw (a_ (m:=firstArgMember _ _) (wpAny_of_eq (a:=Value.none) (by first|rfl|(simp only[firstArgMember];rfl)) (aaw ?_ (by size_fits)))) (by size_fits));simp only[raiseNew];refine a_ (wpAny_handled ?_)
 first|rw[show A.in1.handled=Φ from hh]|rw[hh]
 exact a_ (e_ (wpAny_throw (k _ _ (((aaD ..).extBut.push _).push _) ⟨_,z_ _ rfl,rfl⟩)))
theorem j8 (c:It k s.heap i a n)(q:Sq k s.heap a xs)(hx:xs[n]? = Δ x)
  (f:∀h',It k h' i a (n+1)->Heap.SameBut i s.heap h'->Q x {s with heap:=h'}):Κ (Μ prog w) A (ζ (.ref i)) Q E s:=by
 cases k with
 |l=>exact wpAny_nextOf_list_item c q hx f
 |t=>exact vK c q hx f
theorem oR (hh:A.handled=Φ)(c:It k s.heap i a n)(q:Sq k s.heap a xs)(hx:xs[n]? = Φ)
  (f:∀h' e,Heap.ExtBut i s.heap h'->(∃o,h'.get? e=Δ o/\o.cls=.type "StopIteration")->E (.ref e) {s with heap:=h'}):Κ (Μ prog w) A (ζ (.ref i)) Q E s:=by
 cases k with
 |l=>exact wpAny_nextOf_list_end hh c q hx f
 |t=>exact zk hh c q hx f
end
section
variable {prog:Ε}{w:Β}{A:Ι}{E:Ψ->Α->Prop}{s:Α}
def Kept (z TO i j:Ω)(h h':Heap):Prop:=∀c o,c≠z->c≠TO->c≠i->c≠j->h.get? c=Δ o->h'.get? c=Δ o
theorem uB {p q:Kq}{z TI TO i j l m:Ω}{n n':Nat}{xs ys:Array Ψ}{x y a b:Ψ}{Q:Ψ->Α->Prop}(D:ZipApart z TI TO i j l m)(hz:IsZip s.heap z TI TO .none)(hI:IsPair s.heap TI (.ref i) (.ref j))(hO:IsPair s.heap TO a b)
  (ci:It p s.heap i l n) (cj:It q s.heap j m n') (sl:Sq p s.heap l xs) (sm:Sq q s.heap m ys) (hx:xs[n]? = Δ x) (hy:ys[n']? = Δ y)
  (k:∀h',IsZip h' z TI TO (rawInt s.heap.objs.size)->IsPair h' TO x y->It p h' i l (n+1)->It q h' j m (n' + 1)->IsPair h' s.heap.objs.size x y->h'.objs.size=s.heap.objs.size+1->Kept z TO i j s.heap h'->Q (.ref s.heap.objs.size) {s with heap:=h'}) :
  Κ (Μ prog w) A (Builtin.«zip.__next__» ⟨[.ref z],[]⟩) (fun fin s'=>∃v,fin=.done (.ret v)/\Q v s') E s:=by
 show Κ _ _ (field (.ref z) 2 >>= _) _ _ _;refine a_ (P_ hz rfl (x:=.bool Ξ) rfl ?_);show Κ _ _ (field (.ref z) 3 >>= _) _ _ _;refine a_ (P_ hz rfl (x:=.ref TI) rfl (a_ (aad hI rfl ?_)));show Κ _ _ (η (.ref z) >>= _) _ _ _;refine a_ ?_;unfold η;refine a_ (P_ hz rfl (x:=.none) rfl (e_ ?_));simp only[if_true];refine a_ (wpAny_rule (a_ (P_ hz rfl (x:=.ref TO) rfl (a_ (aai hz (by simp) fun h1 z1 e1=>?_)))));have Tq:IsZip h1 z TI TO .ellipsis:=z1;refine a_ ?_;simp only[List.zipIdx_cons,List.zipIdx_nil,List.forIn_cons,List.forIn_nil];refine a_ (a_ (wpAny_onRaise ?_));show Κ _ _ (ζ (.ref i) >>= _) _ _ _;refine a_ (j8 (ci.to fun o e=>e1.extBut _ _ D.i1z e) (sl.to fun o e=>e1.extBut _ _ D.l1z e) hx fun h2 QT e2=>e_ ?_);have O2:IsPair h2 TO a b:=e2.extBut _ _ D.TOi1 (e1.extBut _ _ D.TOz hO);refine a_ (aad O2 rfl (a_ (wpAny_updateSeq_pair O2 fun h3 O3 e3=>?_)));have O3':IsPair h3 TO x b:=O3;refine a_ (wpAny_letGo (e_ (a_ (a_ (wpAny_onRaise ?_)))));show Κ _ _ (ζ (.ref j) >>= _) _ _ _;refine a_ (j8 (cj.to fun o e=>e3.extBut _ _ D.TOi2.symm (e2.extBut _ _ D.i12.symm (e1.extBut _ _ D.i2z e))) (sm.to fun o e=>e3.extBut _ _ D.l2TO (e2.extBut _ _ D.l2i1 (e1.extBut _ _ D.l2z e))) hy fun h4 cj4 e4=>e_ ?_);have O4:IsPair h4 TO x b:=e4.extBut _ _ D.TOi2 O3';refine a_ (aad O4 rfl (a_ (wpAny_updateSeq_pair O4 fun h5 O5 e5=>?_)));have X8:IsPair h5 TO x y:=O5;refine a_ (wpAny_letGo (e_ (e_ (a_ (aad X8 rfl (a_ (wpAny_newTuple ?_)))))));have sz:h5.objs.size=s.heap.objs.size:=by rw[e5.1,e4.1,e3.1,e2.1,e1.1]
 have z5:IsZip h5 z TI TO .ellipsis:=e5.extBut _ _ D.TOz.symm (e4.extBut _ _ D.i2z.symm (e3.extBut _ _ D.TOz.symm (e2.extBut _ _ D.i1z.symm Tq)));have k5:Kept z TO i j s.heap h5:=fun c o c1 c2 c3 c4 e=>e5.extBut _ _ c2 (e4.extBut _ _ c4 (e3.extBut _ _ c2 (e2.extBut _ _ c3 (e1.extBut _ _ c1 e))));have ci5:It p h5 i l (n+1):=QT.to fun o e=>e5.extBut _ _ D.TOi1.symm (e4.extBut _ _ D.i12 (e3.extBut _ _ D.TOi1.symm e));have cj5:It q h5 j m (n' + 1):=cj4.to fun o e=>e5.extBut _ _ D.TOi2.symm e;have lz:z < h5.objs.size:=j_ z5;show Κ _ _ (Builtin.SmallTypes.ownedTupleHandOut (.ref z) (.ref h5.objs.size) >>= _) _ _ _;refine a_ ?_;unfold Builtin.SmallTypes.ownedTupleHandOut;have z6:IsZip (h5.push {cls:=.type "tuple",data:=.seq #[x,y]}) z TI TO .ellipsis:=l_ _ z5;refine a_ (aai z6 (by simp) fun h7 z7 e7=>aai (show IsZip h7 z TI TO (rawInt h5.objs.size) from z7) (by simp) fun h8 z8 e8=>?_);have X9:IsZip h8 z TI TO (rawInt h5.objs.size):=z8;have up:∀c o,c≠z->h5.get? c=Δ o->h8.get? c=Δ o:=fun c o c1 e=>e8.extBut _ _ c1 (e7.extBut _ _ c1 (l_ _ e));have t8:IsPair h8 h5.objs.size x y:=e8.extBut _ _ (U_ lz) (e7.extBut _ _ (U_ lz) (z_ _ rfl));have s8:h8.objs.size=h5.objs.size+1:=by rw[e8.1,e7.1,V_]
 rw[sz]at X9 t8 s8;refine e_ ⟨_,rfl,?_⟩;show Q (.ref h5.objs.size) _;rw[sz];exact k h8 X9 (up _ _ D.TOz X8) (ci5.to fun o e=>up _ o D.i1z e) (cj5.to fun o e=>up _ o D.i2z e) t8 s8 fun c o c1 c2 c3 c4 e=>up c o c1 (k5 c o c1 c2 c3 c4 e)
theorem uC {z TI TO i j l m:Ω}  (hh:A.handled=Φ)(D:ZipApart z TI TO i j l m)(hz:IsZip s.heap z TI TO .none)(hI:IsPair s.heap TI (.ref i) (.ref j))(hO:IsPair s.heap TO a b)
  (ci:It p s.heap i l n) (cj:It q s.heap j m n') (sl:Sq p s.heap l xs) (sm:Sq q s.heap m ys) (Lp:xs[n]? = Φ∨ys[n']? = Φ)
  (k:∀h' e,Kept z TO i j s.heap h'->(∃o,h'.get? e=Δ o/\o.cls=.type "StopIteration")->E (.ref e) {s with heap:=h'}) :
  Κ (Μ prog w) A (Builtin.«zip.__next__» ⟨[.ref z],[]⟩) Q E s:=by
 show Κ _ _ (field (.ref z) 2 >>= _) _ _ _;refine a_ (P_ hz rfl (x:=.bool Ξ) rfl ?_);show Κ _ _ (field (.ref z) 3 >>= _) _ _ _;refine a_ (P_ hz rfl (x:=.ref TI) rfl (a_ (aad hI rfl ?_)));show Κ _ _ (η (.ref z) >>= _) _ _ _;refine a_ ?_;unfold η;refine a_ (P_ hz rfl (x:=.none) rfl (e_ ?_));simp only[if_true];refine a_ (wpAny_rule (a_ (P_ hz rfl (x:=.ref TO) rfl (a_ (aai hz (by simp) fun h1 z1 e1=>?_)))));have Tq:IsZip h1 z TI TO .ellipsis:=z1;refine a_ ?_;simp only[List.zipIdx_cons,List.zipIdx_nil,List.forIn_cons,List.forIn_nil];refine a_ (a_ (wpAny_onRaise ?_));show Κ _ _ (ζ (.ref i) >>= _) _ _ _;cases hx:xs[n]? with
 |none=>
  refine a_ (oR hh (ci.to fun o e=>e1.extBut _ _ D.i1z e) (sl.to fun o e=>e1.extBut _ _ D.l1z e) hx fun h2 e e2 he=>?_);obtain⟨oe,g,c⟩:=he;have z2:IsZip h2 z TI TO .ellipsis:=e2 _ _ D.i1z.symm Tq;have ne:e≠z:=fun v=>by rw[v,z2]at g;cases g;simp at c
  exact aai z2 (by simp) fun h3 _ e3=>k h3 e (fun d o c1 _ c3 _ v=>e3.extBut _ _ c1 (e2 _ _ c3 (e1.extBut _ _ c1 v))) ⟨oe,e3.extBut _ _ ne g,c⟩
 |some x=>
  have hy:ys[n']? = Φ:=by
   rcases Lp with v|v
   ·rw[hx]at v;cases v
   ·exact v
  refine a_ (j8 (ci.to fun o e=>e1.extBut _ _ D.i1z e) (sl.to fun o e=>e1.extBut _ _ D.l1z e) hx fun h2 QT e2=>e_ ?_);have O2:IsPair h2 TO a b:=e2.extBut _ _ D.TOi1 (e1.extBut _ _ D.TOz hO);refine a_ (aad O2 rfl (a_ (wpAny_updateSeq_pair O2 fun h3 O3 e3=>a_ (wpAny_letGo (e_ (a_ (a_ (wpAny_onRaise ?_))))))));show Κ _ _ (ζ (.ref j) >>= _) _ _ _;refine a_ (oR hh (cj.to fun o e=>e3.extBut _ _ D.TOi2.symm (e2.extBut _ _ D.i12.symm (e1.extBut _ _ D.i2z e))) (sm.to fun o e=>e3.extBut _ _ D.l2TO (e2.extBut _ _ D.l2i1 (e1.extBut _ _ D.l2z e))) hy fun h4 e e4 he=>?_);obtain⟨oe,g,c⟩:=he;have z4:IsZip h4 z TI TO .ellipsis:=e4 _ _ D.i2z.symm (e3.extBut _ _ D.TOz.symm (e2.extBut _ _ D.i1z.symm Tq));have ne:e≠z:=fun v=>by rw[v,z4]at g;cases g;simp at c
  exact aai z4 (by simp) fun h5 _ e5=>k h5 e (fun d o c1 c2 c3 c4 v=>e5.extBut _ _ c1 (e4 _ _ c4 (e3.extBut _ _ c2 (e2.extBut _ _ c3 (e1.extBut _ _ c1 v))))) ⟨oe,e5.extBut _ _ ne g,c⟩
end
noncomputable def PX:Kq->Ω->Obj
 |.l,a=>{cls:=.type "list_iterator",data:=.fields #[.ref a,.int 0 0]}
 |.t,a=>{cls:=.type "tuple_iterator",data:=.fields #[.ref a,.int 0 0]}
noncomputable def Hi (p:Kq)(h:Heap)(l:Ω):Heap:=h.push (PX p l)
noncomputable def Hj (p q:Kq)(h:Heap)(l m:Ω):Heap:=(Hi p h l).push (PX q m)
noncomputable def HI (p q:Kq)(h:Heap)(l m:Ω):Heap:=(Hj p q h l m).push {cls:=.type "tuple",data:=.seq #[.ref h.objs.size,.ref (Hi p h l).objs.size]}
noncomputable def HO (p q:Kq)(h:Heap)(l m:Ω):Heap:=(HI p q h l m).push {cls:=.type "tuple",data:=.seq #[.none,.none]}
noncomputable def HZ (p q:Kq)(h:Heap)(l m:Ω):Heap:=(HO p q h l m).push {cls:=.type "zip",data:=.fields #[.none,.bool Ξ,.bool Ξ,.ref (Hj p q h l m).objs.size,.ref (HI p q h l m).objs.size]}
theorem Cm (l m:Ω)(xs ys:Array Ψ):Meets (Builtin.«zip.__new__» ⟨[.type "zip",.ref l,.ref m],[]⟩) (fun _ R s=>Sq .l s.heap l xs/\Sq .l s.heap m ys/\R (.ok (.ret (.ref (HO .l .l s.heap l m).objs.size))) {s with heap:=HZ .l .l s.heap l m}):=
 .of_wp fun prog w A R s h=>by
  obtain⟨hp,g,d,tk,os⟩:=s;obtain⟨q1,q2,h⟩:=h;have sub:=sub_zip;have a1:Heap.IsList (Shared.heap ⟨hp,g,d,tk,os⟩) l xs:=q1;have a2:Heap.IsList (Shared.heap ⟨hp.push {cls:=.type "list_iterator",data:=.fields #[.ref l,.int 0 0]},g,d,tk,os⟩) m ys:=Heap.IsList.push (show hp.IsList m ys from q2) _
  wp_walk using aaz a1,aaz a2
  exact⟨_,rfl,h⟩
theorem Co (l m:Ω)(xs ys:Array Ψ):Meets (Builtin.«zip.__new__» ⟨[.type "zip",.ref l,.ref m],[]⟩) (fun _ R s=>Sq .l s.heap l xs/\Sq .t s.heap m ys/\R (.ok (.ret (.ref (HO .l .t s.heap l m).objs.size))) {s with heap:=HZ .l .t s.heap l m}):=
 .of_wp fun prog w A R s h=>by
  obtain⟨hp,g,d,tk,os⟩:=s;obtain⟨q1,q2,h⟩:=h;have sub:=sub_zip;have a1:Heap.IsList (Shared.heap ⟨hp,g,d,tk,os⟩) l xs:=q1;have a2:Heap.IsTuple (Shared.heap ⟨hp.push {cls:=.type "list_iterator",data:=.fields #[.ref l,.int 0 0]},g,d,tk,os⟩) m ys:=Heap.IsTuple.push (show hp.IsTuple m ys from q2) _
  wp_walk using aaz a1,wpAny_pyIter_tuple a2
  exact⟨_,rfl,h⟩
theorem Cp (l m:Ω)(xs ys:Array Ψ):Meets (Builtin.«zip.__new__» ⟨[.type "zip",.ref l,.ref m],[]⟩) (fun _ R s=>Sq .t s.heap l xs/\Sq .l s.heap m ys/\R (.ok (.ret (.ref (HO .t .l s.heap l m).objs.size))) {s with heap:=HZ .t .l s.heap l m}):=
 .of_wp fun prog w A R s h=>by
  obtain⟨hp,g,d,tk,os⟩:=s;obtain⟨q1,q2,h⟩:=h;have sub:=sub_zip;have a1:Heap.IsTuple (Shared.heap ⟨hp,g,d,tk,os⟩) l xs:=q1;have a2:Heap.IsList (Shared.heap ⟨hp.push {cls:=.type "tuple_iterator",data:=.fields #[.ref l,.int 0 0]},g,d,tk,os⟩) m ys:=Heap.IsList.push (show hp.IsList m ys from q2) _
  wp_walk using wpAny_pyIter_tuple a1,aaz a2
  exact⟨_,rfl,h⟩
theorem Cq (l m:Ω)(xs ys:Array Ψ):Meets (Builtin.«zip.__new__» ⟨[.type "zip",.ref l,.ref m],[]⟩) (fun _ R s=>Sq .t s.heap l xs/\Sq .t s.heap m ys/\R (.ok (.ret (.ref (HO .t .t s.heap l m).objs.size))) {s with heap:=HZ .t .t s.heap l m}):=
 .of_wp fun prog w A R s h=>by
  obtain⟨hp,g,d,tk,os⟩:=s;obtain⟨q1,q2,h⟩:=h;have sub:=sub_zip;have a1:Heap.IsTuple (Shared.heap ⟨hp,g,d,tk,os⟩) l xs:=q1;have a2:Heap.IsTuple (Shared.heap ⟨hp.push {cls:=.type "tuple_iterator",data:=.fields #[.ref l,.int 0 0]},g,d,tk,os⟩) m ys:=Heap.IsTuple.push (show hp.IsTuple m ys from q2) _
  wp_walk using wpAny_pyIter_tuple a1,wpAny_pyIter_tuple a2
  exact⟨_,rfl,h⟩
theorem Cr (p q:Kq)(l m:Ω)(xs ys:Array Ψ):Meets (Builtin.«zip.__new__» ⟨[.type "zip",.ref l,.ref m],[]⟩) (fun _ R s=>Sq p s.heap l xs/\Sq q s.heap m ys/\R (.ok (.ret (.ref (HO p q s.heap l m).objs.size))) {s with heap:=HZ p q s.heap l m}):=by
 cases p<;>cases q
 ·exact Cm l m xs ys
 ·exact Co l m xs ys
 ·exact Cp l m xs ys
 ·exact Cq l m xs ys
theorem vL {h h':Heap}  (e:h'.get? i=Δ (PX k a)):It k h' i a 0:=by
 cases k with
 |l=>exact⟨_,e,rfl,rfl⟩
 |t=>exact⟨_,e,rfl,rfl⟩
theorem pY (k:Kq)(a:Ω):(PX k a).isFreed=Ξ:=by cases k<;>rfl
section
variable {prog:Ε}{w:Β}{A:Ι}{E:Ψ->Α->Prop}{s:Α}
theorem K4 (h1:Sq p s.heap l xs)(h2:Sq q s.heap m ys)
  (k:∀h',IsZip h' (s.heap.objs.size+4) (s.heap.objs.size+2) (s.heap.objs.size+3) .none->IsPair h' (s.heap.objs.size+2) (.ref s.heap.objs.size) (.ref (s.heap.objs.size+1))->IsPair h' (s.heap.objs.size+3) .none .none->
   It p h' s.heap.objs.size l 0->It q h' (s.heap.objs.size+1) m 0->h'.objs.size=s.heap.objs.size+5->(∀c o,s.heap.get? c=Δ o->h'.get? c=Δ o)->Q (.ref (s.heap.objs.size+4)) {s with heap:=h'}) :
  Κ (Μ prog w) A (call (.type "zip") [.ref l,.ref m]) Q E s:=by
 refine callType_new F.called_zip (by decide) (F.typeCall_zip_2 _ _) (F.newCall_zip_2 _ _) (fun obj=>F.args_object_init_3 obj _ _) F.entry_zip_new (Cr p q l m xs ys) ⟨h1,h2,?_⟩;have n1:(Hi p s.heap l).objs.size=s.heap.objs.size+1:=V_ ..;have n2:(Hj p q s.heap l m).objs.size=s.heap.objs.size+2:=(V_ ..).trans (by rw[n1]);have n3:(HI p q s.heap l m).objs.size=s.heap.objs.size+3:=(V_ ..).trans (by rw[n2]);have n4:(HO p q s.heap l m).objs.size=s.heap.objs.size+4:=(V_ ..).trans (by rw[n3]);have n5:(HZ p q s.heap l m).objs.size=s.heap.objs.size+5:=(V_ ..).trans (by rw[n4]);have Ya:∀c o,(HO p q s.heap l m).get? c=Δ o->(HZ p q s.heap l m).get? c=Δ o:=fun c o e=>l_ _ e;have Yb:∀c o,(HI p q s.heap l m).get? c=Δ o->(HZ p q s.heap l m).get? c=Δ o:=fun c o e=>Ya c o (l_ _ e);have Yc:∀c o,(Hj p q s.heap l m).get? c=Δ o->(HZ p q s.heap l m).get? c=Δ o:=fun c o e=>Yb c o (l_ _ e);have Yd:∀c o,(Hi p s.heap l).get? c=Δ o->(HZ p q s.heap l m).get? c=Δ o:=fun c o e=>Yc c o (l_ _ e);have g5:(HZ p q s.heap l m).get? (HO p q s.heap l m).objs.size=Δ _:=z_ _ rfl;have g4:(HZ p q s.heap l m).get? (HI p q s.heap l m).objs.size=Δ {cls:=.type "tuple",data:=.seq #[.none,.none]}:=Ya _ _ (z_ _ rfl);have g3:(HZ p q s.heap l m).get? (Hj p q s.heap l m).objs.size=Δ {cls:=.type "tuple",data:=.seq #[.ref s.heap.objs.size,.ref (Hi p s.heap l).objs.size]}:=Yb _ _ (z_ _ rfl);have g2:(HZ p q s.heap l m).get? (Hi p s.heap l).objs.size=Δ (PX q m):=Yc _ _ (z_ _ (pY q m));have g1:(HZ p q s.heap l m).get? s.heap.objs.size=Δ (PX p l):=Yd _ _ (z_ _ (pY p l));rw[n2,n3,n4]at g5;rw[n3]at g4;rw[n1,n2]at g3;rw[n1]at g2;show _/\_;rw[n4];exact⟨⟨_,g5,rfl⟩,k _ g5 g3 g4 (vL (h:=s.heap) g1) (vL (h:=s.heap) g2) n5 fun c o e=>Yd c o (l_ _ e)⟩
end
section
variable {prog:Ε}{w:Β}{A:Ι}{E:Ψ->Α->Prop}{s:Α}
theorem LM {z TI TO i j l m:Ω}  (D:ZipApart z TI TO i j l m)(hz:IsZip s.heap z TI TO .none)(hI:IsPair s.heap TI (.ref i) (.ref j))(hO:IsPair s.heap TO a b)
  (ci:It p s.heap i l n) (cj:It q s.heap j m n') (sl:Sq p s.heap l xs) (sm:Sq q s.heap m ys) (hx:xs[n]? = Δ x) (hy:ys[n']? = Δ y)
  (k:∀h',IsZip h' z TI TO (rawInt s.heap.objs.size)->IsPair h' TO x y->It p h' i l (n+1)->It q h' j m (n' + 1)->IsPair h' s.heap.objs.size x y->h'.objs.size=s.heap.objs.size+1->Kept z TO i j s.heap h'->Q (Δ (.ref s.heap.objs.size)) {s with heap:=h'}) :
  Κ (Μ prog w) A (pyNext (.ref z)) Q E s:=by
 have ty:s.TypeIs (.ref z) "zip":=⟨_,hz,rfl⟩
 unfold pyNext;refine a_ (wpAny_attempt (wpAny_callSpecial?_slot (name:=Ρ "__next__") ty F.slot_zip_next (aah F.slot_zip_next ty F.entry_zip_next ?_ (F.args_zip_next_1 _))));exact uB D hz hI hO ci cj sl sm hx hy fun h' a1 a2 a3 a4 a5 a6 a7=>e_ (k h' a1 a2 a3 a4 a5 a6 a7)
theorem LN {z TI TO i j l m:Ω}  (hh:A.handled=Φ)(D:ZipApart z TI TO i j l m)(hz:IsZip s.heap z TI TO .none)(hI:IsPair s.heap TI (.ref i) (.ref j))(hO:IsPair s.heap TO a b)
  (ci:It p s.heap i l n) (cj:It q s.heap j m n') (sl:Sq p s.heap l xs) (sm:Sq q s.heap m ys) (Lp:xs[n]? = Φ∨ys[n']? = Φ)
  (k:∀h',Kept z TO i j s.heap h'->Q Φ {s with heap:=h'}):Κ (Μ prog w) A (pyNext (.ref z)) Q E s:=by
 have ty:s.TypeIs (.ref z) "zip":=⟨_,hz,rfl⟩
 unfold pyNext;refine a_ (wpAny_attempt (wpAny_callSpecial?_slot (name:=Ρ "__next__") ty F.slot_zip_next (aah F.slot_zip_next ty F.entry_zip_next (uC hh D hz hI hO ci cj sl sm Lp fun h' e hk he=>?_) (F.args_zip_next_1 _))));obtain⟨o,g,c⟩:=he;exact a_ (wpAny_isInstance (T:="StopIteration") (b:=Θ) ⟨o,g,c⟩ isSubtype_stop (e_ (k _ hk)))
end
end L2.Zp
namespace L2
open PySem PySem.Spec PyProof.Rows
def Lq (K:Frag)(H:Hp)(k:Zp.Kq)(a:Ω)(xs:List V):Prop:=match k with
 |.l=>Jo K H a xs
 |.t=>IP K H a xs
section
variable {X:Cx}{pins:List (Ω×Obj)}{σ:St}{H:Hp}{s:Α}{h':Heap}{k:Zp.Kq}{a:Ω}{xs ys:List V}
theorem Inv.NY (I:Inv X pins σ H s)(h:Lq X.K H k a xs):∃its:List Ψ,Vals xs its/\Zp.Sq k s.heap a its.toArray:=by
 cases k with
 |l=>obtain⟨its,rv,p,hz⟩:=I.list h;exact⟨its,rv,p.isList⟩
 |t=>obtain⟨its,rv,p,hz⟩:=I.tuple h;exact⟨its,rv,p⟩
theorem Inv.LO (I:Inv X pins σ H s)(h:Lq X.K H k a xs)(h':Lq X.K H k a ys):xs=ys:=by
 cases k with
 |l=>exact I.Jf h h'
 |t=>exact I.JQ h h'
theorem Inv.turns {t':Nat}{ch:List Ω}(I:Inv X pins σ H s)(k:∀b o,b∉ch->s.heap.get? b=Δ o->h'.get? b=Δ o)(hf:∀b∈ch,kh X pins H b):Inv X pins σ H {s with heap:=h',toks:=t'}:=by
 have NP:∀b u,H b=Δ u->b∉ch:=fun b u e z=>by rw[(hf b z).1]at e;cases e
 refine I.step (g':=s.gens) (d':=s.drawn) (ch:=ch) (fun b hb=>?_) (fun b o _ _ hc e _=>k b o hc e) (fun b o _ _ hc e _=>⟨o.slots,k b o hc e⟩) (fun _ _ _ _ n=>n)
  (fun b o hc e=>⟨o,k b o hc e⟩) (fun _ _ e=>e) (fun _ _ _ e=>e) (fun b ps e=>⟨#[],by rw[e];simp⟩) (fun m hm=>?_) (fun b u e=>?_) I.bare
 ·obtain⟨f0,f1,f2,f3,f4,f5⟩:=hf b hb;exact⟨f3,f1,f4,f5⟩
 ·obtain⟨o,es,ep,ho,r⟩:=hm;exact⟨o,es,ep,k _ o (fun z=>(hf _ z).2.1 rfl) ho,r⟩
 ·refine(I.IF b u e).Kf (fun c v hc q=>k c v ?_ q) (fun _ q=>q) fun _ _ q=>q;rcases hc with z|z
  ·rw[z];exact NP b u e
  ·exact NP c _ z
theorem Inv.Mv {t':Nat}{ch:List Ω}{T:Ω}{ho:HO}(I:Inv X pins σ H s)(k:∀b o,b∉ch->s.heap.get? b=Δ o->h'.get? b=Δ o)(hf:∀b∈ch,kh X pins H b)(hp:s.heap.objs.size<=T)(new:iz X.prog X.w (upd H T ho) h' T ho):Inv X pins σ (upd H T ho) {s with heap:=h',toks:=t'}:=by
 have NP:∀b u,H b=Δ u->b∉ch:=fun b u e z=>by rw[(hf b z).1]at e;cases e
 have hn:H T=Φ:=I.IF.fresh hp;refine I.step (g':=s.gens) (d':=s.drawn) (ch:=ch) (fun b hb=>?_) (fun b o _ _ hc e _=>k b o hc e) (fun b o _ _ hc e _=>⟨o.slots,k b o hc e⟩) (fun b o _ e n=>by rw[gX (m_ (F_ (j_ e) hp))];exact n)
  (fun b o hc e=>⟨o,k b o hc e⟩) (fun b xs q=>by rw[gX (iD q hn)];exact q) (fun b u xs q=>by rw[gX (iD q hn)];exact q) (fun b ps q=>⟨#[],by rw[gX (iD q hn),q];simp⟩) (fun m hm=>?_) (fun b u e=>?_) I.bare
 ·obtain⟨f0,f1,f2,f3,f4,f5⟩:=hf b hb;exact⟨f3,f1,f4,f5⟩
 ·obtain⟨o,es,ep,ho,r⟩:=hm;exact⟨o,es,ep,k _ o (fun z=>(hf _ z).2.1 rfl) ho,r⟩
 ·by_cases hb:b=T
  ·subst hb;rw[gZ]at e;cases e;exact new
  ·rw[gX hb]at e;refine(I.IF b u e).Kf (fun c v hc q=>k c v ?_ q) (fun c q=>by rw[gX (iD q hn)];exact q) fun c xs q=>by rw[gX (iD q hn)];exact q
   rcases hc with z|z
   ·rw[z];exact NP b u e
   ·exact NP c _ z
end
noncomputable def U3 (K:Frag)(p q:Zp.Kq)(l m:Ω):It:=
 ⟨fun i H=>∃xs ys x y,Lq K H p l xs/\Lq K H q m ys/\xs[i]? = Δ x/\ys[i]? = Δ y,
  fun i H v H'=>∃T a b,v=.ref T/\H T=Φ/\H'=upd H T (.tup [a,b])/\∀xs ys,Lq K H p l xs->Lq K H q m ys->xs[i]? = Δ a/\ys[i]? = Δ b,
  fun i H=>∃xs ys,Lq K H p l xs/\Lq K H q m ys/\(xs.length<=i∨ys.length<=i)⟩
theorem Zp.It.obj (c:Zp.It k h i a n):∃o,h.get? i=Δ o/\∀v,o.data≠.cell v:=by
 cases k with
 |l=>obtain⟨o,e,c,d⟩:=c;exact⟨o,e,fun v z=>by rw[d]at z;cases z⟩
 |t=>obtain⟨o,e,c,d⟩:=c;exact⟨o,e,fun v z=>by rw[d]at z;cases z⟩
theorem vM {P:Ε}{w:Β}{K:Frag}{es:List Expr}{c:Nat}{pos:Pos}(p q:Zp.Kq)(z TI TO i j l m:Ω)(D:ZipApart z TI TO i j l m) :
  Turn P w K (.Tuple es c pos) (U3 K p q l m) [z,TI,TO,i,j] z (fun n h=>IsZip h z TI TO .none/\IsPair h TI (.ref i) (.ref j)/\(∃a b,IsPair h TO a b)/\Zp.It p h i l n/\Zp.It q h j m n) where
 mem:=by simp
 obj:=fun n h st b hb=>by
  obtain⟨hz,hI,⟨a,b',hO⟩,ci,cj⟩:=st;simp only[k_,S_,or_false]at hb;rcases hb with rfl|rfl|rfl|rfl|rfl
  ·exact⟨_,hz,fun v z=>by cases z⟩
  ·exact⟨_,hI,fun v z=>by cases z⟩
  ·exact⟨_,hO,fun v z=>by cases z⟩
  ·exact ci.obj
  ·exact cj.obj
 keep:=fun n h h' st k=>by obtain⟨hz,hI,⟨a,b',hO⟩,ci,cj⟩:=st;exact⟨k z (by simp) _ hz,k TI (by simp) _ hI,⟨a,b',k TO (by simp) _ hO⟩,ci.to fun o e=>k i (by simp) o e,cj.to fun o e=>k j (by simp) o e⟩
 item:=by
  intro X hP hw hK hc n pins s σ H E I hf st hg;subst hP hw hK;obtain⟨hz,hI,⟨a,b',hO⟩,ci,cj⟩:=st;obtain⟨xs,ys,x,y,MV,Np,hx,hy⟩:=hg;obtain⟨K5,L7,p1⟩:=I.NY MV;obtain⟨Jk,Kw,p2⟩:=I.NY Np;obtain⟨u1,U4,U5⟩:=L7.get hx;obtain⟨u2,hu2,ru2⟩:=Kw.get hy;refine Zp.LM D hz hI hO ci cj p1 p2 (x:=u1) (y:=u2) (by simpa using U4) (by simpa using hu2) fun h1 a1 a2 a3 a4 a5 a6 hk=>?_;refine⟨_,rfl,?_⟩;have lz:z < s.heap.objs.size:=j_ hz;have hTz:s.heap.objs.size≠z:=U_ lz;refine wpAny_letOwnedTupleGo_zip (s:={s with heap:=h1}) a1 fun h2 QU Kx=>?_;have kk:∀b o,b∉[z,TI,TO,i,j]->s.heap.get? b=Δ o->h2.get? b=Δ o:=fun b o hb e=>by simp only[k_,S_,or_false,not_or]at hb;exact Kx.extBut _ _ hb.1 (hk b o hb.1 hb.2.2.1 hb.2.2.2.1 hb.2.2.2.2 e)
  have hT:IsPair h2 s.heap.objs.size u1 u2:=Kx.extBut _ _ hTz a5;have I2:Inv X pins σ (upd H s.heap.objs.size (.tup [x,y])) {s with heap:=h2}:=I.Mv (t':=s.toks) kk hf (n_ _) ⟨by show 2<=Ζ;decide,[u1,u2],.cons U5 (.cons ru2 .nil),⟨_,hT,rfl,_,rfl⟩⟩;refine⟨.ref s.heap.objs.size,_,I2,rfl,⟨_,x,y,rfl,I.IF.fresh (n_ _),rfl,fun PY ys' g1 g2=>by rw[I.LO g1 MV,I.LO g2 Np];exact⟨hx,hy⟩⟩,⟨QU,Kx.extBut _ _ D.TIz (hk _ _ D.TIz D.TITO D.TIi1 D.TIi2 hI),⟨_,_,Kx.extBut _ _ D.TOz a2⟩,a3.to fun o e=>Kx.extBut _ _ D.i1z e,a4.to fun o e=>Kx.extBut _ _ D.i2z e⟩,fun b hb=>?_⟩;have KY:b < s.heap.objs.size:=by
   simp only[k_,S_,or_false]at hb;rcases hb with rfl|rfl|rfl|rfl|rfl
   ·exact lz
   ·exact j_ hI
   ·exact j_ hO
   ·exact ci.lt
   ·exact cj.lt
  rw[gX (m_ KY)];exact(hf b hb).1
 done:=by
  intro X hP hw hK hc n pins s σ H E I hf st hg;subst hP hw hK;obtain⟨hz,hI,⟨a,b',hO⟩,ci,cj⟩:=st;obtain⟨xs,ys,MV,Np,hx⟩:=hg;obtain⟨K5,L7,p1⟩:=I.NY MV;obtain⟨Jk,Kw,p2⟩:=I.NY Np;have l1:=L7.length;have l2:=Kw.length
  refine Zp.LN (I.ok.hd hc) D hz hI hO ci cj p1 p2 (by
   rcases hx with hx|hx
   ·exact .inl (Array.getElem?_eq_none (by simp;omega))
   ·exact .inr (Array.getElem?_eq_none (by simp;omega))) fun h1 hk=>⟨rfl,I.turns (t':=s.toks) (ch:=[z,TI,TO,i,j]) (fun b o hb e=>?_) hf⟩
  simp only[k_,S_,or_false,not_or]at hb;exact hk b o hb.1 hb.2.2.1 hb.2.2.2.1 hb.2.2.2.2 e
 self:=fun _ _ _ _ _ st h=>wpAny_pyIter_zip st.1 h
def GL (K:Frag)(ta:TA):TI:=fun σ H R=>ta σ H fun vs H1=>∃p q l m xs ys,vs=[.ref l,.ref m]/\Lq K H1 p l xs/\Lq K H1 q m ys/\R (U3 K p q l m) H1
theorem Zp.Sq.lt (q:Zp.Sq k h a xs):a < h.objs.size:=by
 cases k with
 |l=>obtain⟨o,e,_⟩:=q;exact j_ e
 |t=>obtain⟨o,e,_⟩:=q;exact j_ e
theorem pZ (N l m:Nat)(hl:l < N)(hm:m < N):ZipApart (N+4) (N+2) (N+3) N (N+1) l m:=by constructor<;>(intro e;have e':(_:Nat)=(_:Nat):=e;omega)
theorem Cs (hg:Gl X "zip") (hm:X.mg "zip" = Φ) (ha:PA X [a,b] ta) (hs:Ν [a,b] X.env=[(Ξ,eval a X.env),(Ξ,eval b X.env)]) (Kx:Ν [b] X.env=[(Ξ,eval b X.env)]) :
  PI X (.Tuple es c tp) (.Call (.Name "zip" p) [a,b] [] pos) (GL X.K ta):=by
 intro pins s σ H R I h;refine Call_ (jn I hg hm boot_zip (aao (IG (ha pos pins s σ H _ I h) fun us s1 ⟨vs,H1,I1,r1,q1⟩=>?_) (by rw[hs,Kx]) (by rw[Kx];rfl)));obtain⟨k1,k2,l,m,xs,ys,e,g1,g2,q⟩:=q1;subst e;cases r1 with
 |cons r rr=>
  cases rr with
  |cons r' rr=>
   cases rr;cases r;cases r';obtain⟨K5,L7,p1⟩:=I1.NY g1;obtain⟨Jk,Kw,p2⟩:=I1.NY g2;have l1:=p1.lt;have l2:=p2.lt;refine Zp.K4 p1 p2 fun h2 b1 b2 b3 b4 b5 b6 b7=>?_;refine wpAny_pyIter_zip (s:={s1 with heap:=h2}) b1 ?_;refine⟨s1.heap.objs.size+4,[s1.heap.objs.size+4,s1.heap.objs.size+2,s1.heap.objs.size+3,s1.heap.objs.size,s1.heap.objs.size+1],_,_,H1,rfl,I1.kept (t':=s1.toks) b7,vM k1 k2 _ _ _ _ _ l m (pZ _ l m l1 l2),⟨b1,b2,⟨_,_,b3⟩,b4,b5⟩,fun b hb=>?_,q⟩;have KY:s1.heap.objs.size<=b:=by
    simp only[k_,S_,or_false]at hb;rcases hb with rfl|rfl|rfl|rfl|rfl
    ·exact aaq _ _
    ·exact aaq _ _
    ·exact aaq _ _
    ·exact n_ _
    ·exact aaq _ _
   exact I1.Ll KY (I1.IF.fresh KY)
end L2
namespace L2.Zp
open PySem
abbrev jo (h:Heap)(z TI TO T:Ω)(f:Bool):Prop:=
 h.get? z=Δ {cls:=.type "zip",dict:=Φ,data:=.fields #[rawInt T,.bool f,.bool Ξ,.ref TI,.ref TO],slots:=#[]}
section
variable {prog:Ε}{w:Β}{A:Ι}{E:Ψ->Α->Prop}{s:Α}
theorem alive (ho:s.heap.get? a=Δ o)(h:Q (Δ o) s):Κ (Μ prog w) A (loadIfAlive a) Q E s:=by
 have h':Q (s.heap.get? a) s:=by rw[ho];exact h
 exact fun _ _ _=>h'
theorem n0 {z TI TO T:Ω}{f:Bool}{oT:Obj}{Q:Bool->Α->Prop}(hz:jo s.heap z TI TO T f)(hT:s.heap.get? T=Δ oT)
  (k:∀h',jo h' z TI TO T Θ->Heap.SameBut z s.heap h'->Q Ξ {s with heap:=h'}):Κ (Μ prog w) A (η (.ref z)) Q E s:=by
 unfold η;refine a_ (P_ hz rfl (x:=rawInt T) rfl ?_);show Κ _ _ (loadIfAlive ((T:Int).toNat) >>= _) _ _ _;rw[aak];refine a_ (alive hT ?_);simp only[Option.isNone_some,aax,if_false];refine a_ (P_ hz rfl (x:=.bool f) rfl ?_)
 induction f using zB with
 |true=>rw[d_ (show ¬((Value.bool Θ != Value.bool Θ)=Θ) from B_)];exact e_ (k s.heap hz (Heap.SameBut.refl _ _))
 |false=>rw[f_ (show(Value.bool Ξ != Value.bool Θ)=Θ from rfl)];refine a_ (aai hz (by simp) fun OK QV QW=>?_);exact e_ (k OK QV QW)
theorem qY {p q:Kq}{z TI TO i j l m T:Ω}{f:Bool}{oT:Obj}{n n':Nat}{xs ys:Array Ψ}{x y:Ψ}{Q:Ψ->Α->Prop}(D:ZipApart z TI TO i j l m)(hz:jo s.heap z TI TO T f)(hT:s.heap.get? T=Δ oT)(hI:IsPair s.heap TI (.ref i) (.ref j))
  (ci:It p s.heap i l n) (cj:It q s.heap j m n') (sl:Sq p s.heap l xs) (sm:Sq q s.heap m ys) (hx:xs[n]? = Δ x) (hy:ys[n']? = Δ y)
  (k:∀h',jo h' z TI TO T Θ->It p h' i l (n+1)->It q h' j m (n' + 1)->IsPair h' s.heap.objs.size x y->h'.objs.size=s.heap.objs.size+1->(∀c o,c≠z->c≠i->c≠j->s.heap.get? c=Δ o->h'.get? c=Δ o)->Q (.ref s.heap.objs.size) {s with heap:=h'}) :
  Κ (Μ prog w) A (Builtin.«zip.__next__» ⟨[.ref z],[]⟩) (fun fin s'=>∃v,fin=.done (.ret v)/\Q v s') E s:=by
 show Κ _ _ (field (.ref z) 2 >>= _) _ _ _;refine a_ (P_ hz rfl (x:=.bool Ξ) rfl ?_);show Κ _ _ (field (.ref z) 3 >>= _) _ _ _;refine a_ (P_ hz rfl (x:=.ref TI) rfl (a_ (aad hI rfl ?_)));show Κ _ _ (η (.ref z) >>= _) _ _ _;refine a_ (n0 hz hT fun h1 z1 e1=>?_);simp only[aax,if_false];refine a_ ?_;rw[<- Array.forIn_toList];simp only[List.forIn_cons,List.forIn_nil];refine a_ (a_ (N_ ?_));show Κ _ _ (ζ (.ref i) >>= _) _ _ _;refine a_ (j8 (ci.to fun o e=>e1.extBut _ _ D.i1z e) (sl.to fun o e=>e1.extBut _ _ D.l1z e) hx fun h2 QT e2=>e_ (e_ (a_ (a_ (N_ ?_)))));show Κ _ _ (ζ (.ref j) >>= _) _ _ _;refine a_ (j8 (cj.to fun o e=>e2.extBut _ _ D.i12.symm (e1.extBut _ _ D.i2z e)) (sm.to fun o e=>e2.extBut _ _ D.l2i1 (e1.extBut _ _ D.l2z e)) hy fun h3 cj3 e3=>e_ (e_ (e_ (a_ (wpAny_newTuple ?_ (hsz:=by show 2<=Ζ;decide))))));have sz:h3.objs.size=s.heap.objs.size:=by rw[e3.1,e2.1,e1.1]
 have z3:jo h3 z TI TO T Θ:=e3.extBut _ _ D.i2z.symm (e2.extBut _ _ D.i1z.symm z1);refine e_ ⟨_,rfl,?_⟩;show Q (.ref h3.objs.size) _;rw[sz];have up:∀c o,h3.get? c=Δ o->(h3.push {cls:=.type "tuple",data:=.seq #[x,y]}).get? c=Δ o:=fun c o e=>l_ _ e;refine k _ (up _ _ z3) ((QT.to fun o e=>e3.extBut _ _ D.i12 e).to fun o e=>up _ o e) (cj3.to fun o e=>up _ o e) ?_ (by rw[V_,sz]) fun c o c1 c2 c3 e=>up c o (e3.extBut _ _ c3 (e2.extBut _ _ c2 (e1.extBut _ _ c1 e)));show(h3.push _).get? s.heap.objs.size=_;rw[<- sz];exact z_ _ rfl
theorem qZ {p q:Kq}{z TI TO i j l m T:Ω}{f:Bool}{oT:Obj}{n n':Nat}{xs ys:Array Ψ}{Q:PySem.Fin->Α->Prop}(hh:A.handled=Φ)(D:ZipApart z TI TO i j l m)(hz:jo s.heap z TI TO T f)(hT:s.heap.get? T=Δ oT)(hI:IsPair s.heap TI (.ref i) (.ref j))
  (ci:It p s.heap i l n) (cj:It q s.heap j m n') (sl:Sq p s.heap l xs) (sm:Sq q s.heap m ys) (Lp:xs[n]? = Φ∨ys[n']? = Φ)
  (k:∀h' e,(∀c o,c≠z->c≠i->c≠j->s.heap.get? c=Δ o->h'.get? c=Δ o)->(∃o,h'.get? e=Δ o/\o.cls=.type "StopIteration")->E (.ref e) {s with heap:=h'}) :
  Κ (Μ prog w) A (Builtin.«zip.__next__» ⟨[.ref z],[]⟩) Q E s:=by
 show Κ _ _ (field (.ref z) 2 >>= _) _ _ _;refine a_ (P_ hz rfl (x:=.bool Ξ) rfl ?_);show Κ _ _ (field (.ref z) 3 >>= _) _ _ _;refine a_ (P_ hz rfl (x:=.ref TI) rfl (a_ (aad hI rfl ?_)));show Κ _ _ (η (.ref z) >>= _) _ _ _;refine a_ (n0 hz hT fun h1 z1 e1=>?_);simp only[aax,if_false];refine a_ ?_;rw[<- Array.forIn_toList];simp only[List.forIn_cons,List.forIn_nil];refine a_ (a_ (N_ ?_));show Κ _ _ (ζ (.ref i) >>= _) _ _ _;cases hx:xs[n]? with
 |none=>refine a_ (oR hh (ci.to fun o e=>e1.extBut _ _ D.i1z e) (sl.to fun o e=>e1.extBut _ _ D.l1z e) hx fun h2 e e2 he=>?_);exact k h2 e (fun c o c1 c2 c3 g=>e2 _ _ c2 (e1.extBut _ _ c1 g)) he
 |some x=>have hy:ys[n']? = Φ:=Lp.resolve_left (by rw[hx];simp);refine a_ (j8 (ci.to fun o e=>e1.extBut _ _ D.i1z e) (sl.to fun o e=>e1.extBut _ _ D.l1z e) hx fun h2 QT e2=>e_ (e_ (a_ (a_ (N_ ?_)))));show Κ _ _ (ζ (.ref j) >>= _) _ _ _;refine a_ (oR hh (cj.to fun o e=>e2.extBut _ _ D.i12.symm (e1.extBut _ _ D.i2z e)) (sm.to fun o e=>e2.extBut _ _ D.l2i1 (e1.extBut _ _ D.l2z e)) hy fun h3 e e3 he=>?_);exact k h3 e (fun c o c1 c2 c3 g=>e3 _ _ c3 (e2.extBut _ _ c2 (e1.extBut _ _ c1 g))) he
theorem vN {p q:Kq}{z TI TO i j l m T:Ω}{f:Bool}{oT:Obj}{n n':Nat}{xs ys:Array Ψ}{x y:Ψ}{Q:Option Ψ->Α->Prop}(D:ZipApart z TI TO i j l m)(hz:jo s.heap z TI TO T f)(hT:s.heap.get? T=Δ oT)(hI:IsPair s.heap TI (.ref i) (.ref j))
  (ci:It p s.heap i l n) (cj:It q s.heap j m n') (sl:Sq p s.heap l xs) (sm:Sq q s.heap m ys) (hx:xs[n]? = Δ x) (hy:ys[n']? = Δ y)
  (k:∀h',jo h' z TI TO T Θ->It p h' i l (n+1)->It q h' j m (n' + 1)->IsPair h' s.heap.objs.size x y->h'.objs.size=s.heap.objs.size+1->(∀c o,c≠z->c≠i->c≠j->s.heap.get? c=Δ o->h'.get? c=Δ o)->Q (Δ (.ref s.heap.objs.size)) {s with heap:=h'}) :
  Κ (Μ prog w) A (pyNext (.ref z)) Q E s:=by
 have ty:s.TypeIs (.ref z) "zip":=⟨_,hz,rfl⟩
 unfold pyNext;refine a_ (wpAny_attempt (wpAny_callSpecial?_slot (name:=Ρ "__next__") ty F.slot_zip_next (aah F.slot_zip_next ty F.entry_zip_next ?_ (F.args_zip_next_1 _))));exact qY D hz hT hI ci cj sl sm hx hy fun h' a1 a2 a3 a4 a5 a6=>e_ (k h' a1 a2 a3 a4 a5 a6)
theorem vO {p q:Kq}{z TI TO i j l m T:Ω}{f:Bool}{oT:Obj}{n n':Nat}{xs ys:Array Ψ}{Q:Option Ψ->Α->Prop}(hh:A.handled=Φ)(D:ZipApart z TI TO i j l m)(hz:jo s.heap z TI TO T f)(hT:s.heap.get? T=Δ oT)(hI:IsPair s.heap TI (.ref i) (.ref j))
  (ci:It p s.heap i l n) (cj:It q s.heap j m n') (sl:Sq p s.heap l xs) (sm:Sq q s.heap m ys) (Lp:xs[n]? = Φ∨ys[n']? = Φ)
  (k:∀h',(∀c o,c≠z->c≠i->c≠j->s.heap.get? c=Δ o->h'.get? c=Δ o)->Q Φ {s with heap:=h'}):Κ (Μ prog w) A (pyNext (.ref z)) Q E s:=by
 have ty:s.TypeIs (.ref z) "zip":=⟨_,hz,rfl⟩
 unfold pyNext;refine a_ (wpAny_attempt (wpAny_callSpecial?_slot (name:=Ρ "__next__") ty F.slot_zip_next (aah F.slot_zip_next ty F.entry_zip_next (qZ hh D hz hT hI ci cj sl sm Lp fun h' e hk he=>?_) (F.args_zip_next_1 _))));obtain⟨o,g,c⟩:=he;exact a_ (wpAny_isInstance (T:="StopIteration") (b:=Θ) ⟨o,g,c⟩ isSubtype_stop (e_ (k _ hk)))
structure St (z TI TO i j l m:Ω)(p q:Kq)(xs ys:Array Ψ)(n:Nat)(b:Nat)(Ts:List Ω)(h:Heap):Prop where
 zp:IsZip h z TI TO .none∨∃T f,jo h z TI TO T f/\T∈Ts
 I:IsPair h TI (.ref i) (.ref j)
 O:∃a b,IsPair h TO a b
 ci:It p h i l n
 cj:It q h j m n
 sl:Sq p h l xs
 sm:Sq q h m ys
 len:Ts.length=n
 nd:Ts.Nodup
 at_:∀(k:Nat) (T:Ω),Ts[k]? = Δ T->b<=T/\∃x y,xs[k]? = Δ x/\ys[k]? = Δ y/\IsPair h T x y
theorem loop {p q:Kq}{z TI TO i j l m S:Ω}{xs ys:Array Ψ}{R:Result->Α->Prop}{b:Nat}(hh:A.handled=Φ)(D:ZipApart z TI TO i j l m)(res:Ψ)(hn:min xs.size ys.size<=Ζ)(bz:z < b)(bI:TI < b)(bO:TO < b)(bi:i < b)(bj:j < b)(bl:l < b)(bm:m < b)(bS:S < b)(Sz:S≠z)(SI:S≠TI)(SO:S≠TO)(Si:S≠i)(Sj:S≠j)(Sl:S≠l)(Sm:S≠m) :
  ∀(k n:Nat) (s:Α) (Ts:List Ω) (c:Nat),min xs.size ys.size - n=k->n<=min xs.size ys.size->St z TI TO i j l m p q xs ys n b Ts s.heap->b<=s.heap.objs.size->s.heap.get? S=Δ {cls:=.type "list",dict:=Φ,data:=.seq (Ts.map θ).toArray c,slots:=#[]}->
  (∀(h':Heap) (tk:Nat) (Kz:List Ω) (c':Nat),(∀a o,a≠z->a≠TO->a≠i->a≠j->a≠S->s.heap.get? a=Δ o->h'.get? a=Δ o)->h'.get? S=Δ {cls:=.type "list",dict:=Φ,data:=.seq (Kz.map θ).toArray c',slots:=#[]}->Kz.length=min xs.size ys.size->Kz.Nodup->(∀(k:Nat) (T:Ω),Kz[k]? = Δ T->b<=T/\∃x y,xs[k]? = Δ x/\ys[k]? = Δ y/\IsPair h' T x y)->R (.ok (.ret res)) {s with heap:=h',toks:=tk})->
  codeAny (Μ prog w) A (.builtin "list.extend.loop" ⟨[.ref S,.ref z,res],[]⟩) R s:=by
 intro k
 induction k with
 |zero=>
  intro n s Ts c hk hi st hb hS hR;have Nq:n=min xs.size ys.size:=by omega
  subst Nq;refine codeAny_builtin F.entry_extend_loop ?_;rw[aaG F.plain_extend_loop _];show Κ _ A.in1 (pyNext (.ref z) >>= _) _ _ s;have he:xs[min xs.size ys.size]? = Φ∨ys[min xs.size ys.size]? = Φ:=by
   by_cases h:xs.size<=ys.size
   ·exact .inl (Array.getElem?_eq_none (by omega))
   ·exact .inr (Array.getElem?_eq_none (by omega))
  have fin:∀h',(∀a o,a≠z->a≠TO->a≠i->a≠j->s.heap.get? a=Δ o->h'.get? a=Δ o)->R (.ok (.ret res)) {s with heap:=h'}:=fun h' kp=>by
   refine hR h' s.toks Ts c (fun a o a1 a2 a3 a4 _ e=>kp a o a1 a2 a3 a4 e) (kp S _ Sz SO Si Sj hS) st.len st.nd fun k T e=>?_;obtain⟨t1,x,y,t2,t3,t4⟩:=st.at_ k T e;have ne:∀a,a < b->T≠a:=fun a ha z=>by rw[z]at t1;omega
   exact⟨t1,x,y,t2,t3,kp T _ (ne z bz) (ne TO bO) (ne i bi) (ne j bj) t4⟩
  obtain⟨a,b',hO⟩:=st.O;rcases st.zp with hz|⟨T,f,hz,hT⟩
  ·refine a_ (LN (A:=A.in1) hh D hz st.I hO st.ci st.cj st.sl st.sm he fun h' kp=>?_);exact e_ (fin h' fun a o a1 a2 a3 a4 e=>kp a o a1 a2 a3 a4 e)
  ·obtain⟨k,Nr⟩:=aar.mp hT;obtain⟨_,x,y,_,_,OL⟩:=st.at_ k T Nr;refine a_ (vO (A:=A.in1) hh D hz OL st.I st.ci st.cj st.sl st.sm he fun h' kp=>?_);exact e_ (fin h' fun a o a1 _ a3 a4 e=>kp a o a1 a3 a4 e)
 |succ k ih=>
  intro n s Ts c hk hi st hb hS hR;have IQ:n < min xs.size ys.size:=by omega
  have b1:n < xs.size:=F_ IQ (Nat.min_le_left ..);have b2:n < ys.size:=F_ IQ (Nat.min_le_right ..);have g1:=Array.getElem?_eq_getElem b1;have g2:=Array.getElem?_eq_getElem b2;refine codeAny_builtin F.entry_extend_loop ?_;rw[aaG F.plain_extend_loop _];show Κ _ A.in1 (pyNext (.ref z) >>= _) _ _ s;have U6:s.heap.objs.size∉Ts:=fun hm=>by obtain⟨k,Nr⟩:=aar.mp hm;obtain⟨_,x,y,_,_,OL⟩:=st.at_ k _ Nr;exact absurd (j_ OL) (aab _)
  have fin:∀h',(jo h' z TI TO s.heap.objs.size Ξ∨∃T f,jo h' z TI TO T f/\T∈Ts)->(∃a b,IsPair h' TO a b)->It p h' i l (n+1)->It q h' j m (n+1)->IsPair h' s.heap.objs.size xs[n] ys[n]->h'.objs.size=s.heap.objs.size+1->(∀a o,a≠z->a≠TO->a≠i->a≠j->s.heap.get? a=Δ o->h'.get? a=Δ o)->
    Κ (Μ prog w) A.in1 (updateSeq S (·.push (.ref s.heap.objs.size)) >>= fun _=>again (.builtin "list.extend.loop" ⟨[.ref S,.ref z,res],[]⟩)) (fun fin s'=>match fin with|.done f=>R (.ok f) s'|.again c'=>c'.quiet=Θ/\codeAny (Μ prog w) A c' R s') (fun e s'=>R (.error e) s') {s with heap:=h'}:=by
   intro h' hz hO ci cj hT sz kp;have JW:=kp S _ Sz SO Si Sj hS;have hsz:(Ts.map θ).toArray.size=n:=by simp[st.len]
   refine a_ (wpAny_updateSeq JW rfl (e_ ⟨plainId_quiet F.plain_extend_loop _,?_⟩) (by rw[hsz];omega) (by show((Ts.map θ).toArray.push _).size<=Ζ+1;rw[Array.size_push,hsz];omega));have Tr:(h'.update S (ι fun x=>x.push (θ s.heap.objs.size))).get? S=Δ (ι (fun x=>x.push (θ s.heap.objs.size)) {cls:=.type "list",dict:=Φ,data:=.seq (Ts.map θ).toArray c,slots:=#[]}):=aav _ JW rfl;have ar:(Ts.map θ).toArray.push (θ s.heap.objs.size)=((Ts++[s.heap.objs.size]).map θ).toArray:=by simp
   obtain⟨c2,hS3⟩:∃c2,(h'.update S (ι fun x=>x.push (θ s.heap.objs.size))).get? S=Δ {cls:=.type "list",dict:=Φ,data:=.seq (((Ts++[s.heap.objs.size]).map θ).toArray) c2,slots:=#[]}:=⟨_,by rw[Tr,<- ar];rfl⟩
   have Mw:∀a o,a≠S->h'.get? a=Δ o->(h'.update S (ι fun x=>x.push (θ s.heap.objs.size))).get? a=Δ o:=fun a o ha e=>(aan _ _ (Ne.symm ha)).trans e;have QX:(h'.update S (ι fun x=>x.push (θ s.heap.objs.size))).objs.size=h'.objs.size:=(aaD ..).1;have nS:∀T:Ω,b<=T->T≠S:=fun T OM z=>aab _ (F_ bS (z ▸ OM:b<=S));refine ih (n+1) _ (Ts++[s.heap.objs.size]) c2 (by omega) IQ ⟨?_,Mw _ _ SI.symm (kp _ _ D.TIz D.TITO D.TIi1 D.TIi2 st.I),?_,ci.to fun o e=>Mw _ o Si.symm e,cj.to fun o e=>Mw _ o Sj.symm e,?_,?_,by rw[w_,st.len];rfl,?_,fun k T e=>?_⟩ (by show b<=(h'.update S _).objs.size;rw[QX,sz];omega) hS3 fun QY tk Kz c' U7 a1 a2 a3 a4=>?_
   ·rcases hz with hz|⟨T,f,hz,hT⟩
    ·exact .inr ⟨_,Ξ,Mw _ _ Sz.symm hz,v_ _ (o_.mpr rfl)⟩
    ·exact .inr ⟨T,f,Mw _ _ Sz.symm hz,t_ _ hT⟩
   ·obtain⟨a,b',hO⟩:=hO;exact⟨a,b',Mw _ _ SO.symm hO⟩
   ·exact(st.sl.to fun o e=>kp _ o D.l1z D.l1TO D.l1i1 D.l1i2 e).to fun o e=>Mw _ o Sl.symm e
   ·exact(st.sm.to fun o e=>kp _ o D.l2z D.l2TO D.l2i1 D.l2i2 e).to fun o e=>Mw _ o Sm.symm e
   ·refine r_.mpr ⟨st.nd,by simp,fun a ha b hb e=>?_⟩;rw[o_.mp hb]at e;exact U6 (e ▸ ha)
   ·by_cases PZ:k < Ts.length
    ·rw[aat PZ]at e;obtain⟨t1,x,y,t2,t3,t4⟩:=st.at_ k T e;have ne:∀a,a < b->T≠a:=fun a ha z=>by rw[z]at t1;omega
     exact⟨t1,x,y,t2,t3,Mw _ _ (nS T t1) (kp T _ (ne z bz) (ne TO bO) (ne i bi) (ne j bj) t4)⟩
    ·rw[aaH (by omega)]at e;have hk2:k=n:=by have:=(p_.mp e).1;rw[R_]at this;have:=st.len;omega
     rw[show k - Ts.length=0 by have:=st.len;omega]at e;have e':s.heap.objs.size=T:=I_ e;subst e';rw[hk2];exact⟨hb,_,_,g1,g2,Mw _ _ (nS _ hb) hT⟩
   ·exact hR QY tk Kz c' (fun a o c1 c2 c3 c4 c5 e=>U7 a o c1 c2 c3 c4 c5 (Mw a o c5 (kp a o c1 c2 c3 c4 e))) a1 a2 a3 a4
  obtain⟨a,b',hO⟩:=st.O;rcases st.zp with hz|⟨T,f,hz,hT⟩
  ·refine a_ (LM (A:=A.in1) D hz st.I hO st.ci st.cj st.sl st.sm g1 g2 fun h' a1 a2 a3 a4 a5 a6 kp=>?_);exact fin h' (.inl a1) ⟨_,_,a2⟩ a3 a4 a5 a6 fun a o c1 c2 c3 c4 e=>kp a o c1 c2 c3 c4 e
  ·obtain⟨k',Nr⟩:=aar.mp hT;obtain⟨_,x,y,_,_,OL⟩:=st.at_ k' T Nr;refine a_ (vN (A:=A.in1) D hz OL st.I st.ci st.cj st.sl st.sm g1 g2 fun h' a1 a3 a4 a5 a6 kp=>?_);exact fin h' (.inr ⟨T,Θ,a1,hT⟩) ⟨a,b',kp TO _ D.TOz D.TOi1 D.TOi2 hO⟩ a3 a4 a5 a6 fun a o c1 _ c3 c4 e=>kp a o c1 c3 c4 e
theorem ra:typeLookup (.type "zip") "__len__" = pure Φ:=by rw[typeLookup_type,builtinLookup_eq_fast];kernel_rfl
theorem p5:typeLookup (.type "zip") "__length_hint__" = pure Φ:=by rw[typeLookup_type,builtinLookup_eq_fast];kernel_rfl
theorem rb {p q:Kq}{z TI TO i j l m S:Ω}{xs ys:Array Ψ}{R:Result->Α->Prop}(hh:A.handled=Φ)(D:ZipApart z TI TO i j l m)(res:Ψ)(c₀:Nat)(hz:IsZip s.heap z TI TO .none)(hI:IsPair s.heap TI (.ref i) (.ref j))(hO:∃a b,IsPair s.heap TO a b)(ci:It p s.heap i l 0)(cj:It q s.heap j m 0)(sl:Sq p s.heap l xs)(sm:Sq q s.heap m ys)
  (hS:s.heap.get? S=Δ {cls:=.type "list",data:=.seq #[] c₀}) (hn:min xs.size ys.size<=Ζ) (Sz:S≠z) (SI:S≠TI) (SO:S≠TO) (Si:S≠i) (Sj:S≠j) (Sl:S≠l) (Sm:S≠m)
  (hR:∀(h':Heap) (tk:Nat) (Kz:List Ω) (c':Nat),(∀a o,a≠z->a≠TO->a≠i->a≠j->a≠S->s.heap.get? a=Δ o->h'.get? a=Δ o)->h'.get? S=Δ {cls:=.type "list",dict:=Φ,data:=.seq (Kz.map θ).toArray c',slots:=#[]}->Kz.length=min xs.size ys.size->Kz.Nodup->(∀(k:Nat) (T:Ω),Kz[k]? = Δ T->s.heap.objs.size<=T/\∃x y,xs[k]? = Δ x/\ys[k]? = Δ y/\IsPair h' T x y)->R (.ok (.ret res)) {s with heap:=h',toks:=tk}) :
  Κ (Μ prog w) A.in1 (Χ (.ref S) (.ref z) res)
   (fun fin s'=>match fin with|.done f=>R (.ok f) s'|.again c'=>c'.quiet=Θ/\codeAny (Μ prog w) A c' R s') (fun e s'=>R (.error e) s') s:=by
 have ty:s.TypeIs (.ref z) "zip":=⟨_,hz,rfl⟩
 unfold Χ;refine a_ (wpAny_typeOf ty ?_);have h1:Builtin.List.listSameRef (.ref S) (.ref z)=Ξ:=by simp[Builtin.List.listSameRef,Sz]
 have h2:(Value.type "zip" == Value.type "list")=Ξ:=by decide
 have h3:(Value.type "zip" == Value.type "tuple")=Ξ:=by decide
 simp only[h1,h2,h3,Bool.or_false,aax,if_false];refine a_ (wpAny_pyIter_zip hz ?_);refine a_ (N_ ?_);unfold Builtin.List.listLengthHint;refine a_ (wpAny_specialOf ty ra ?_);show Κ _ A.in1 (specialOf (θ z) (Ρ "__length_hint__") >>= _) _ _ _;refine a_ (wpAny_specialOf ty p5 (e_ ?_))
 show Κ _ A.in1 (rule "list.extend.makes-room" >>= fun _=>Builtin.List.listTouch (.ref S) >>= fun _=>
  again (.builtin "list.extend.loop" ⟨[.ref S,.ref z,res],[]⟩)) _ _ _
 refine a_ (wpAny_rule ?_);refine a_ ?_;show Κ _ A.in1 (updateSeq S (·.push .none) >>= fun _=>updateSeq S (·.pop)) _ _ _;refine a_ (wpAny_updateSeq hS rfl ?_);have Kv:=aav (ι (·.push Value.none)) hS rfl;refine wpAny_updateSeq (hz:=by seq_fits) Kv rfl ?_;have QZ:=aav (ι (·.pop)) Kv rfl;have JL:∀b o,b≠S->s.heap.get? b=Δ o->((s.heap.update S (ι (·.push Value.none))).update S (ι (·.pop))).get? b=Δ o:=
  fun b o hb e=>(aan _ _ (Ne.symm hb)).trans ((aan _ _ (Ne.symm hb)).trans e)
 have QX:((s.heap.update S (ι (·.push Value.none))).update S (ι (·.pop))).objs.size=s.heap.objs.size:=((aaD ..).1).trans (aaD ..).1;obtain⟨a,b',hO⟩:=hO
 refine e_ ⟨plainId_quiet F.plain_extend_loop _,loop (b:=s.heap.objs.size) hh D res hn (j_ hz) (j_ hI) (j_ hO) ci.lt cj.lt sl.lt sm.lt (j_ hS) Sz SI SO Si Sj Sl Sm _ 0 _ [] _ rfl (Z_ _)
  ⟨.inl (JL _ _ Sz.symm hz),JL _ _ SI.symm hI,⟨a,b',JL _ _ SO.symm hO⟩,ci.to fun o e=>JL _ o Si.symm e,cj.to fun o e=>JL _ o Sj.symm e,sl.to fun o e=>JL _ o Sl.symm e,sm.to fun o e=>JL _ o Sm.symm e,rfl,List.nodup_nil,fun k T e=>by simp at e⟩ (by show s.heap.objs.size<=((s.heap.update S _).update S _).objs.size;rw[QX];exact n_ _) QZ fun h' tk Kz c' kp a1 a2 a3 a4=>?_⟩
 exact hR h' tk Kz c' (fun a o c1 c2 c3 c4 c5 e=>kp a o c1 c2 c3 c4 c5 (JL a o c5 e)) a1 a2 a3 a4
theorem Kl {p q:Kq}{z TI TO i j l m:Ω}{xs ys:Array Ψ}{Q:Ψ->Α->Prop}(hh:A.handled=Φ)(D:ZipApart z TI TO i j l m)(hz:IsZip s.heap z TI TO .none)(hI:IsPair s.heap TI (.ref i) (.ref j))(hO:∃a b,IsPair s.heap TO a b)(ci:It p s.heap i l 0)(cj:It q s.heap j m 0)(sl:Sq p s.heap l xs)(sm:Sq q s.heap m ys)(hn:min xs.size ys.size<=Ζ)
  (hQ:∀(h':Heap) (tk:Nat) (Kz:List Ω) (c':Nat),(∀a o,a≠z->a≠TO->a≠i->a≠j->s.heap.get? a=Δ o->h'.get? a=Δ o)->h'.get? s.heap.objs.size=Δ {cls:=.type "list",dict:=Φ,data:=.seq (Kz.map θ).toArray c',slots:=#[]}->Kz.length=min xs.size ys.size->Kz.Nodup->(∀(k:Nat) (T:Ω),Kz[k]? = Δ T->s.heap.objs.size < T/\∃x y,xs[k]? = Δ x/\ys[k]? = Δ y/\IsPair h' T x y)->Q (.ref s.heap.objs.size) {s with heap:=h',toks:=tk}) :
  Κ (Μ prog w) A (call (.type "list") [.ref z]) Q E s:=by
 obtain⟨a0,b0,hO⟩:=hO;have lz:z < s.heap.objs.size:=j_ hz;have lI:TI < s.heap.objs.size:=j_ hI;have lO:TO < s.heap.objs.size:=j_ hO;refine callType_codes (Q₁:=fun obj Iy=>obj=.ref s.heap.objs.size/\Iy = {s with heap:=s.heap.push {cls:=.type "list",data:=.seq #[]}}) F.called_list (F.typeCall_list_1 _) F.entry_list_init
  (code_list_new _ ⟨rfl,rfl⟩) fun obj Iy K3=>?_
 obtain⟨rfl,rfl⟩:=K3;have hS:(s.heap.push {cls:=.type "list",data:=.seq #[]}).get? s.heap.objs.size=Δ {cls:=.type "list",data:=.seq #[]}:=z_ _ rfl;refine⟨⟨_,hS,rfl⟩,F.args_list_init_2 _ _,?_⟩;show Κ _ _ (do let old <- Builtin.List.listItems (.ref s.heap.objs.size);Builtin.List.listUpdate (.ref s.heap.objs.size) (fun _=>#[]);letGo old.toList.reverse;Χ (.ref s.heap.objs.size) (.ref z) .none) _ _ _;refine a_ ?_;unfold Builtin.List.listItems;refine a_ (aad hS rfl (e_ ?_));show Κ _ _ (updateSeq s.heap.objs.size (fun _=>#[]) >>= fun _=>letGo (#[]:Array Ψ).toList.reverse >>= fun _=>Χ (.ref s.heap.objs.size) (.ref z) .none) _ _ _;refine a_ (wpAny_updateSeq hS rfl ?_);have Kv:=aav (ι (fun _=>(#[]:Array Ψ))) hS rfl;have JL:∀b o,b≠s.heap.objs.size->s.heap.get? b=Δ o->((s.heap.push {cls:=.type "list",data:=.seq #[]}).update s.heap.objs.size (ι (fun _=>(#[]:Array Ψ)))).get? b=Δ o:=
  fun b o hb e=>(aan _ _ (Ne.symm hb)).trans (l_ _ e)
 have QX:((s.heap.push {cls:=.type "list",data:=.seq #[]}).update s.heap.objs.size (ι (fun _=>(#[]:Array Ψ)))).objs.size=s.heap.objs.size+1:=((aaD ..).1).trans (V_ ..);refine a_ (wpAny_letGo ?_);refine rb (A:=A.in1) hh D .none _ (JL _ _ (m_ lz) hz) (JL _ _ (m_ lI) hI) ⟨a0,b0,JL _ _ (m_ lO) hO⟩ (ci.to fun o e=>JL _ o (m_ ci.lt) e) (cj.to fun o e=>JL _ o (m_ cj.lt) e) (sl.to fun o e=>JL _ o (m_ sl.lt) e) (sm.to fun o e=>JL _ o (m_ sm.lt) e) Kv hn (U_ lz) (U_ lI) (U_ lO) (U_ ci.lt) (U_ cj.lt) (U_ sl.lt) (U_ sm.lt) fun h' tk Kz c' kp a1 a2 a3 a4=>?_;refine⟨rfl,hQ h' tk Kz c' (fun a o c1 c2 c3 c4 e=>kp a o c1 c2 c3 c4 (m_ (j_ e)) (JL a o (m_ (j_ e)) e)) a1 a2 a3 fun k T e=>?_⟩;obtain⟨t1,t2⟩:=a4 k T e;have t1:((s.heap.push {cls:=.type "list",data:=.seq #[]}).update s.heap.objs.size (ι (fun _=>(#[]:Array Ψ)))).objs.size<=T:=t1;rw[QX]at t1;exact⟨t1,t2⟩
end
end L2.Zp
namespace L2
open PySem PySem.Spec PyProof.Rows
noncomputable def oU (H:Hp):List (Ω×HO)->Hp
 |[]=>H
 |p::L=>upd (oU H L) p.1 p.2
theorem p6:∀ {L:List (Ω×HO)},a∉L.map (·.1)->oU H L a=H a
 |[],_=>rfl
 |p::L,h=>by rw[b_,k_,not_or]at h;show upd (oU H L) p.1 p.2 a=_;rw[gX h.1,p6 h.2]
theorem oV:∀ {L:List (Ω×HO)},(L.map (·.1)).Nodup->(a,o)∈L->oU H L a=Δ o
 |[],_,h=>by simp at h
 |p::L,nd,h=>by
  rw[b_,L_]at nd;show upd (oU H L) p.1 p.2 a=_;rcases k_.mp h with rfl|h
  ·exact gZ
  ·have:a≠p.1:=fun z=>nd.1 (z ▸ List.mem_map.mpr ⟨(a,o),h,rfl⟩);rw[gX this,oV nd.2 h]
theorem uD (h:oU H L a=Δ u)(n:H a=Φ):∃p∈L,p.1=a/\p.2=u:=by
 induction L with
 |nil=>rw[show oU H [] a=H a from rfl,n]at h;cases h
 |cons p L ih=>
  have h:upd (oU H L) p.1 p.2 a=Δ u:=h;by_cases e:a=p.1
  ·rw[e,gZ]at h;exact⟨p,.head _,e.symm,I_ h⟩
  ·rw[gX e]at h;obtain⟨q,hq,h1⟩:=ih h;exact⟨q,.tail _ hq,h1⟩
section
variable {X:Cx}{pins:List (Ω×Obj)}{σ:St}{H H':Hp}{s:Α}{h':Heap}
theorem Inv.ON (I:Inv X pins σ H s)(k:∀b o,s.heap.get? b=Δ o->h'.get? b=Δ o)(NU:∀b,b < s.heap.objs.size->H' b=H b)(new:∀b u,s.heap.objs.size<=b->H' b=Δ u->iz X.prog X.w H' h' b u):Inv X pins σ H' {s with heap:=h',toks:=t'}:=by
 have hs:∀b u,H b=Δ u->H' b=Δ u:=fun b u q=>by rw[NU b (Nat.lt_of_not_le fun z=>by rw[I.IF.fresh z]at q;cases q)];exact q
 refine I.step (g':=s.gens) (d':=s.drawn) (ch:=[]) (fun b hb=>by simp at hb) (fun b o _ _ hc e _=>k b o e) (fun b o _ _ hc e _=>⟨o.slots,k b o e⟩) (fun b o _ e n=>by rw[NU b (j_ e)];exact n)
  (fun b o hc e=>⟨o,k b o e⟩) (fun b xs q=>hs _ _ q) (fun b u xs q=>hs _ _ q) (fun b ps q=>⟨#[],by rw[hs _ _ q];simp⟩) (fun m hm=>?_) (fun b u e=>?_) I.bare
 ·obtain⟨o,es,ep,ho,r⟩:=hm;exact⟨o,es,ep,k _ o ho,r⟩
 ·by_cases hb:s.heap.objs.size<=b
  ·exact new b u hb e
  ·rw[NU b (Nat.lt_of_not_le hb)]at e;exact(I.IF b u e).Kf (fun c v hc q=>k c v q) (fun c q=>hs _ _ q) fun c xs q=>hs _ _ q
theorem p7:∀Ts:List Ω,Vals (Ts.map V.ref) (Ts.map θ)
 |[]=>.nil
 |T::Ts=>.cons rfl (p7 Ts)
end
def EG (K:Frag)(ta:TA):TE:=fun σ H Q=>ta σ H fun vs H1=>∃p q l m xs ys,vs=[.ref l,.ref m]/\Lq K H1 p l xs/\Lq K H1 q m ys/\min xs.length ys.length<=Ζ/\
 ∀(Ts:List Ω) (A:Ω) (H':Hp),g7 H1 H'->H1 A=Φ->H' A=Δ (.lst (Ts.map V.ref))->Ts.length=min xs.length ys.length->(∀(k:Nat) (T:Ω),Ts[k]? = Δ T->∃x y,xs[k]? = Δ x/\ys[k]? = Δ y/\H' T=Δ (.tup [x,y]))->Q (.ref A) H'
theorem zl (hc:X.calm=Θ)(g1:Gl X "list") (m1:X.mg "list" = Φ) (hg:Gl X "zip") (hm:X.mg "zip" = Φ) (ha:PA X [a,b] ta) (hs:Ν [a,b] X.env=[(Ξ,eval a X.env),(Ξ,eval b X.env)]) (Kx:Ν [b] X.env=[(Ξ,eval b X.env)]) :
  PE X (.Call (.Name "list" p) [.Call (.Name "zip" p') [a,b] [] pos'] [] pos) (EG X.K ta):=by
 intro pins s σ H Q I h;refine aau (jn (u:=.type "list") I g1 m1 (by decide +kernel) ?_ (by decide) (by decide));refine aao ?_ rfl rfl;show Κ _ _ (spliced ((Ξ,eval (.Call (.Name "zip" p') [a,b] [] pos') X.env)::backTo pos (Ν [] X.env))) _ _ s;refine Calls.spliced_cons ?_;refine Call_ (jn I hg hm boot_zip (aao (IG (ha pos' pins s σ H _ I h) fun us s1 ⟨vs,H1,I1,r1,q1⟩=>?_) (by rw[hs,Kx]) (by rw[Kx];rfl)));obtain⟨k1,k2,l,m,xs,ys,e,g1,g2,Q0,q⟩:=q1;subst e;cases r1 with
 |cons r rr=>
  cases rr with
  |cons r' rr=>
   cases rr;cases r;cases r';obtain⟨K5,L7,p1⟩:=I1.NY g1;obtain⟨Jk,Kw,p2⟩:=I1.NY g2;have l1:=p1.lt;have l2:=p2.lt;refine Zp.K4 p1 p2 fun h2 b1 b2 b3 b4 b5 b6 b7=>?_;refine Calls.spliced_nil ?_;have lv1:=L7.length;have lv2:=Kw.length;have hsz:min K5.toArray.size Jk.toArray.size=min xs.length ys.length:=by simp[lv1,lv2]
   refine Zp.Kl (s:={s1 with heap:=h2}) (show X.A.handled=Φ from I.ok.hd hc) (pZ _ l m l1 l2) b1 b2 ⟨_,_,b3⟩ b4 b5 (p1.to fun o e=>b7 _ o e) (p2.to fun o e=>b7 _ o e) (by rw[hsz];exact Q0) fun h' tk Ts c' kp a1 a2 a3 a4=>?_;have a1:h'.get? h2.objs.size=Δ {cls:=.type "list",dict:=Φ,data:=.seq (Ts.map θ).toArray c',slots:=#[]}:=a1;have kp':∀b o,s1.heap.get? b=Δ o->h'.get? b=Δ o:=fun b o e=>by have lt:=j_ e;exact kp b o (m_ (F_ lt (aaq _ _))) (m_ (F_ lt (aaq _ _))) (m_ lt) (m_ (F_ lt (aaq _ _))) (b7 b o e)
   have tT:∀T∈Ts,h2.objs.size < T:=fun T hT=>by obtain⟨k,hk⟩:=aar.mp hT;exact(a4 k T hk).1
   have Q2:min K5.toArray.size Jk.toArray.size=Ts.length:=a2.symm;have lM:((xs.zip ys).map fun xy:V×V=>HO.tup [xy.1,xy.2]).length=Ts.length:=by rw[g_,List.length_zip,<- hsz,Q2]
   have keys:((Ts.zip ((xs.zip ys).map fun xy:V×V=>HO.tup [xy.1,xy.2])).map (·.1))=Ts:=List.map_fst_zip (by rw[lM];exact n_ _);have inL:∀(T:Ω) (o:HO),(T,o)∈Ts.zip ((xs.zip ys).map fun xy:V×V=>HO.tup [xy.1,xy.2])->∃(k:Nat) (x y:V),Ts[k]? = Δ T/\xs[k]? = Δ x/\ys[k]? = Δ y/\o=.tup [x,y]:=fun T o hm=>by obtain⟨k,hk⟩:=aar.mp hm;obtain⟨h1,h2⟩:=List.getElem?_zip_eq_some.mp hk;rw[A_]at h2;obtain⟨xy,h3,h4⟩:=aag.mp h2;obtain⟨h5,h6⟩:=List.getElem?_zip_eq_some.mp h3;exact⟨k,xy.1,xy.2,h1,h5,h6,h4.symm⟩
   have nd:(((h2.objs.size,HO.lst (Ts.map V.ref))::Ts.zip ((xs.zip ys).map fun xy:V×V=>HO.tup [xy.1,xy.2])).map (·.1)).Nodup:=by rw[b_,keys,L_];exact⟨fun z=>aab _ (tT _ z),a3⟩
   have fresh:∀b,s1.heap.objs.size<=b->H1 b=Φ:=fun b hb=>I1.IF.fresh hb;have hA:s1.heap.objs.size<=h2.objs.size:=by rw[b6];exact aaq _ _
   have NU:∀b,b < s1.heap.objs.size->oU H1 ((h2.objs.size,HO.lst (Ts.map V.ref))::Ts.zip ((xs.zip ys).map fun xy:V×V=>HO.tup [xy.1,xy.2])) b=H1 b:=fun b hb=>p6 (by
    rw[b_,keys,k_,not_or]
    exact⟨m_ (F_ hb hA),fun z=>aab _ (F_ hb (Q_ hA (Nat.le_of_lt (tT _ z))))⟩)
   have I2:=I1.ON (t':=tk) kp' NU fun b u hb hu=>by
    obtain⟨pr,hp,e1,e2⟩:=uD hu (fresh b hb);subst e1 e2;rcases k_.mp hp with rfl|hp
    ·exact(show iz X.prog X.w _ h' h2.objs.size (.lst (Ts.map V.ref)) from⟨by rw[g_,<- Q2,hsz];exact Q0,Ts.map θ,c',p7 Ts,a1⟩)
    ·obtain⟨T,o⟩:=pr;obtain⟨k,x,y,t1,t2,t3,rfl⟩:=inL T o hp;obtain⟨_,u1,u2,u3,u4,u5⟩:=a4 k T t1;obtain⟨v1,hv1,r1⟩:=L7.get t2;obtain⟨v2,hv2,r2⟩:=Kw.get t3;rw[List.getElem?_toArray,hv1]at u3;rw[List.getElem?_toArray,hv2]at u4;cases u3;cases u4;exact(show iz X.prog X.w _ h' T (.tup [x,y]) from⟨by show 2<=Ζ;decide,[_,_],.cons r1 (.cons r2 .nil),⟨_,u5,rfl,_,rfl⟩⟩)
   refine⟨.ref _,_,I2,rfl,q Ts h2.objs.size _ (fun b u e=>?_) (fresh _ hA) (oV nd (.head _)) (by rw[<- Q2,hsz]) fun k T hk=>?_⟩
   ·rw[NU b (Nat.lt_of_not_le fun z=>by rw[fresh b z]at e;cases e)];exact e
   ·have PZ:k < Ts.length:=(p_.mp hk).1;have hx:k < xs.length:=by rw[<- Q2,hsz]at PZ;exact F_ PZ (Nat.min_le_left ..)
    have hy:k < ys.length:=by rw[<- Q2,hsz]at PZ;exact F_ PZ (Nat.min_le_right ..)
    refine⟨xs[k],ys[k],x_ hx,x_ hy,oV nd (.tail _ ?_)⟩;refine aar.mpr ⟨k,List.getElem?_zip_eq_some.mpr ⟨hk,?_⟩⟩;rw[A_,show(xs.zip ys)[k]? = Δ (xs[k],ys[k]) from List.getElem?_zip_eq_some.mpr ⟨x_ hx,x_ hy⟩];rfl
end L2
namespace L2.Se
open PySem
structure Cut (xs:Array Nat)(j p:Nat):Prop where
 le:p<=xs.size
 lo:∀i x:Nat,i < p->xs[i]? = Δ x->x < j
 hi:∀i x:Nat,p<=i->xs[i]? = Δ x->j<=x
def Up (xs:Array Nat):Prop:=∀i k x y:Nat,i < k->xs[i]? = Δ x->xs[k]? = Δ y->x < y
theorem vP (u:Up xs):∀(fuel lo hi:Nat),hi<=lo+fuel->lo<=hi->hi<=xs.size->(∀i x,i < lo->xs[i]? = Δ x->x < j)->(∀i x,hi<=i->xs[i]? = Δ x->j<=x)->Cut xs j (SetTable.below.go xs j fuel lo hi):=by
 intro fuel
 induction fuel with
 |zero=>
  intro lo hi h1 h2 h3 h4 h5;have e:lo=hi:=by omega
  subst e;exact⟨h3,h4,h5⟩
 |succ f ih=>
  intro lo hi h1 h2 h3 h4 h5;unfold SetTable.below.go;by_cases hl:lo < hi
  ·rw[f_ hl];have hm:(lo+hi) / 2 < xs.size:=by omega
   have e:xs[(lo+hi) / 2]? = Δ xs[(lo+hi) / 2]:=by simp[hm]
   have eg:xs.getD ((lo+hi) / 2) j=xs[(lo+hi) / 2]:=by simp[Array.getD,hm]
   dsimp only;rw[eg];by_cases hx:xs[(lo+hi) / 2] < j
   ·rw[f_ hx];refine ih _ _ (by omega) (by omega) h3 (fun i x K6 OO=>?_) h5;by_cases U8:i=(lo+hi) / 2
    ·subst U8;rw[e]at OO;cases OO;exact hx
    ·exact Nat.lt_trans (u i _ x _ (by omega) OO e) hx
   ·rw[d_ hx];refine ih _ _ (by omega) (by omega) (by omega) h4 (fun i x K6 OO=>?_);by_cases U8:i=(lo+hi) / 2
    ·subst U8;rw[e]at OO;cases OO;omega
    ·have:=u _ i _ x (by omega) e OO;omega
  ·rw[d_ hl];have e:lo=hi:=by omega
   subst e;exact⟨h3,h4,h5⟩
theorem la (u:Up xs)(j:Nat):Cut xs j (SetTable.below xs j):=
 vP u xs.size 0 xs.size (by omega) (Z_ _) (n_ _) (fun i x h=>absurd h (Nat.not_lt_zero i)) (fun i x h hx=>by
  have:=(Array.getElem?_eq_some_iff.mp hx).1
  omega)
theorem zm (hp:p<=xs.size)(i:Nat):(SetTable.insertAt xs p x)[i]? = if i < p then xs[i]? else if i=p then Δ x else xs[i - 1]?:=by
 rw[<- aap,SetTable.toList_insertAt];by_cases h1:i < p
 ·rw[f_ h1,aat (by simp;omega),List.getElem?_take,f_ h1,aap]
 ·rw[d_ h1,aaH (by simp;omega)];have hl:(xs.toList.take p).length=p:=by simp;omega
  rw[hl];by_cases h2:i=p
  ·subst h2;rw[f_ rfl,Nat.sub_self];rfl
  ·rw[d_ h2];obtain⟨k,rfl⟩:∃k,i=p+k+1:=⟨i - p - 1,by omega⟩
   rw[show p+k+1 - p=k+1 by omega,aaI,List.getElem?_drop,aap];rfl
theorem Ct {xs:Array Nat}{j p:Nat}(u:Up xs)(c:Cut xs j p)(hn:xs[p]?≠Δ j):Up (SetTable.insertAt xs p j):=by
 intro i k x y U9 hx hy;rw[zm c.le]at hx hy;have Ye:∀m z,p<=m->xs[m]? = Δ z->j < z:=fun m z hm hz=>by
  have h1:=c.hi m z hm hz;by_cases e:m=p
  ·subst e;have:j≠z:=fun e=>hn (by rw[hz,e]);omega
  ·have IQ:m < xs.size:=(Array.getElem?_eq_some_iff.mp hz).1;have hp:p < xs.size:=by omega
   have ep:xs[p]? = Δ xs[p]:=by simp[hp]
   have h2:=c.hi p _ (n_ _) ep;have:=u p m _ z (by omega) ep hz;omega
 by_cases a1:i < p
 ·rw[f_ a1]at hx;have hxj:=c.lo i x a1 hx;by_cases b1:k < p
  ·rw[f_ b1]at hy;exact u i k x y U9 hx hy
  ·rw[d_ b1]at hy;by_cases b2:k=p
   ·rw[f_ b2]at hy;cases hy;exact hxj
   ·rw[d_ b2]at hy;have:=Ye (k - 1) y (by omega) hy;omega
 ·rw[d_ a1]at hx;by_cases a2:i=p
  ·rw[f_ a2]at hx;cases hx;rw[d_ (by omega),d_ (by omega)]at hy;exact Ye (k - 1) y (by omega) hy
  ·rw[d_ a2]at hx;rw[d_ (by omega),d_ (by omega)]at hy;exact u (i - 1) (k - 1) x y (by omega) hx hy
theorem vQ (n:Nat):Up (Array.range n):=by intro i k x y h hx hy;obtain⟨h1,e1⟩:=Array.getElem?_eq_some_iff.mp hx;obtain⟨h2,e2⟩:=Array.getElem?_eq_some_iff.mp hy;simp at e1 e2;omega
structure Tb (led:Bool)(t:SetTable):Prop where
 up:Up t.place
 dm:t.dummies = #[]
 ld:t.led=led
theorem rf {t:SetTable}{j:Nat}(h:t.slot j=.empty):t.place[SetTable.below t.place j]?≠Δ j:=by intro e;unfold SetTable.slot at h;dsimp only at h;rw[f_ (by rw[e];exact beq_self_eq_true _)]at h;cases h
theorem has_none (j:Nat):SetTable.has #[] j=Ξ:=by unfold SetTable.has;rw[show(#[]:Array Nat)[SetTable.below #[] j]? = Φ by simp];rfl
theorem rh {t:SetTable}(hd:t.dummies = #[])(j:Nat):t.slot j≠.dummy:=by
 intro h;unfold SetTable.slot at h;dsimp only at h;rw[hd,has_none]at h;split at h
 ·cases h
 ·rw[d_ B_]at h;cases h
theorem uE (t:SetTable)(p:SetTable.Probe):(t.advance p).dummy=p.dummy:=by unfold SetTable.advance;split<;>rfl
theorem vR (hd:t.dummies = #[])  (hh:∀i,(f i == h)=Ξ):∀(fuel:Nat) (p:SetTable.Probe) (m:SetTable.Met),p.dummy=Φ->SetTable.probe.go t f h fuel p=Δ m->∃j,m=.empty j Φ/\t.slot j=.empty:=by
 intro fuel
 induction fuel with
 |zero=>intro p m _ e;cases e
 |succ n ih=>
  intro p m hp e;unfold SetTable.probe.go at e;cases hs:t.slot p.j with
  |empty=>rw[hs]at e;dsimp only at e;rw[hp]at e;cases e;exact⟨_,rfl,hs⟩
  |dummy=>exact absurd hs (rh hd _)
  |live i=>rw[hs]at e;dsimp only at e;rw[hh,d_ B_]at e;exact ih _ m (by rw[uE];exact hp) e
theorem uF {t:SetTable}(hd:t.dummies = #[]){h:Int}{j:Nat}{b:Bool}(e:t.freeSlot h=Δ (j,b)):t.slot j=.empty/\b=Ξ:=by
 unfold SetTable.freeSlot at e;cases q:t.probe (fun _=>h+1) h (t.probeStart h) with
 |none=>rw[q]at e;cases e
 |some m=>obtain⟨j',rfl,hs⟩:=vR hd (f:=fun _=>h+1) (h:=h) (fun i=>by rw[beq_eq_false_iff_ne];omega) _ _ m rfl q;rw[q]at e;cases e;exact⟨hs,rfl⟩
theorem kB (T:Tb led t)(n:Nat):Tb led (t.standIn n):=⟨vQ n,rfl,T.ld⟩
theorem EH (T:Tb led t)(n:Nat):Tb led (t.orStandIn n):=by
 unfold SetTable.orStandIn;split
 ·exact T
 ·exact kB T n
theorem Cu (T:Tb led t)  (hs:t.slot j=.empty):Tb led (t.put j).1:=by refine⟨Ct T.up (la T.up j) (rf hs),?_,T.ld⟩;show(if SetTable.has t.dummies j then _ else t.dummies) = #[];rw[T.dm,has_none];rfl
theorem Cv (T:Tb led t)(es:Array (Int×Ψ))(h:Int)(x:Ψ):Tb led (layNew t es h x).2.1:=by
 unfold layNew;cases q:t.freeSlot h with
 |none=>exact kB T _
 |some p=>obtain⟨j,b⟩:=p;exact EH (Cu T (uF T.dm q).1) _
theorem vS (o:Nat->Option Nat)(l:List Nat):((l.filterMap fun j=>(o j).map (j,·)).map (·.1))=l.filter fun j=>(o j).isSome:=by
 induction l with
 |nil=>rfl
 |cons a l ih=>
  rw[List.filterMap_cons,List.filter_cons];cases o a with
  |none=>simpa using ih
  |some b=>simpa using ih
theorem zo {l:List Nat}(h:l.Pairwise (· < ·)):Up l.toArray:=by
 intro i k x y U9 hx hy;have J3:l[i]? = Δ x:=by simpa using hx
 have Nt:l[k]? = Δ y:=by simpa using hy
 obtain⟨h1,e1⟩:=p_.mp J3;obtain⟨h2,e2⟩:=p_.mp Nt;have:=List.pairwise_iff_getElem.mp h i k h1 h2 U9;omega
theorem zq {mask finger moves:Nat}{led plain:Bool}{hs:Array Int}{t:SetTable}{o:Array Nat}(e:SetTable.laid mask finger moves led plain hs=Δ (t,o)):Tb led t:=by
 unfold SetTable.laid at e;cases q:SetTable.layClean mask hs with
 |none=>rw[q]at e;cases e
 |some ow=>rw[q]at e;have e':=I_ e;cases e';refine⟨?_,rfl,rfl⟩;show Up (List.toArray (List.map _ (List.filterMap _ _)));rw[vS];exact zo (List.Pairwise.sublist List.filter_sublist List.pairwise_lt_range)
theorem vU (T:Tb led t)(es:Array (Int×Ψ))(n:Nat):Tb led (relayAll t es n).2.1:=by
 unfold relayAll;cases q:t.relaid (es.map (·.1)) n with
 |none=>exact kB T _
 |some p=>
  obtain⟨t',o⟩:=p;dsimp only;split
  ·have:=zq q;rw[T.ld]at this;exact this
  ·exact kB T _
theorem vV (T:Tb led t)(b:Bool):Tb led {t with plain:=b}:=⟨T.up,T.dm,T.ld⟩
theorem vW (f m:Nat)(led:Bool):Tb led (SetTable.fresh f m led):=⟨fun i k x y _ h=>by simp[SetTable.fresh]at h,rfl,rfl⟩
open PyProof.Rows
structure Ky (prog:Ε)(w:Β)(α:Type) [DecidableEq α] where
 knd:PySem.KeyKind prog w α
 mv:α->Tok->Ψ
 is:∀k t,knd.is k (mv k t)=Θ
 sc:∀k t,(mv k t).scannable=Θ
inductive Ar {α:Type}(mk:α->Tok->Ψ):List Ψ->List α->Prop
 | nil:Ar mk [] []
 | cons (n:α) (t:Tok) {vs:List Ψ}{ns:List α}:Ar mk vs ns->Ar mk (mk n t::vs) (n::ns)
theorem Ar.length (h:Ar mk vs ns):vs.length=ns.length:=by
 induction h with
 |nil=>rfl
 |cons _ _ _ ih=>rw[List.length_cons,List.length_cons,ih]
theorem Ar.at [Inhabited α]  : ∀ {vs:List Ψ}{ns:List α},Ar mk vs ns->∀(i:Nat) (v:Ψ),vs[i]? = Δ v->∃t,v=mk (ns.getD i default) t
 |_,_,.nil,i,v,h=>by simp at h
 |_,_,.cons n t hr,0,v,h=>by simp at h;exact⟨t,by rw[<- h];rfl⟩
 |_,_,.cons n t hr,i+1,v,h=>by simp only[aaI]at h;obtain⟨t',e⟩:=Ar.at hr i v h;exact⟨t',by rw[e];rfl⟩
section
variable {prog:Ε}{w:Β}{α:Type} [DecidableEq α] [Inhabited α]{ky:Ky prog w α}{A:Ι}{E:Ψ->Α->Prop}{s:Α}
noncomputable abbrev vals (es:Array (Int×Ψ)):List Ψ:=es.toList.map (·.2)
structure Jx {prog:Ε}{w:Β}{α:Type} [DecidableEq α](ky:Ky prog w α)(led:Bool)(σ:List α)(o:Obj)(es:Array (Int×Ψ))(ep:Nat)(t:SetTable):Prop where
 ex:o.ExactSet
 da:o.data=.set es ep t
 el:ElemsOf ky.knd es.toList
 sb:es.size < scanBound
 fi:t.fits es.size=Θ
 tb:Tb led t
 pm:∃ks,Ar ky.mv (vals es) ks/\ks.Perm σ
def jZ {prog:Ε}{w:Β}{α:Type} [DecidableEq α](ky:Ky prog w α)(h:Heap)(a:Ω)(led:Bool)(σ:List α):Prop:=∃o es ep t,h.get? a=Δ o/\Jx ky led σ o es ep t
theorem kC (p:U'.Perm vs)(h:Ar ky.mv vs ks):∃KN,Ar ky.mv U' KN/\KN.Perm ks:=by
 induction p generalizing ks with
 |nil=>exact⟨ks,h,.refl _⟩
 |cons x _ ih=>
  cases h with
  |cons n t h=>obtain⟨KN,h1,h2⟩:=ih h;exact⟨n::KN,.cons n t h1,.cons n h2⟩
 |swap x y l=>
  cases h with
  |cons n t h=>
   cases h with
   |cons m u h=>exact⟨m::n::_,.cons m u (.cons n t h),.swap n m _⟩
 |trans _ _ ih1 Va=>obtain⟨k1,a1,b1⟩:=Va h;obtain⟨k2,a2,b2⟩:=ih1 a1;exact⟨k2,a2,b2.trans b1⟩
theorem vX (h:Ar ky.mv vs ks):Ar ky.mv (vs++[ky.mv k t]) (ks++[k]):=by
 induction h with
 |nil=>exact .cons k t .nil
 |cons n u _ ih=>exact .cons n u ih
theorem v7 {es:List (Int×Ψ)}{ks:List α}{k:α}(h:Ar ky.mv (es.map (·.2)) ks):es.any (fun e=>ky.knd.is k e.2)=ks.any (· == k):=by
 induction es generalizing ks with
 |nil=>cases h;rfl
 |cons e es ih=>
  obtain⟨c,v⟩:=e;cases h with
  |cons n t h=>
   rw[List.any_cons,List.any_cons,ih h,KeyKind.is_eq_decide (ky.is n t) k];congr 1;by_cases q:k=n
   ·subst q;simp
   ·simp[q,show ¬n=k from fun z=>q z.symm]
theorem store {h:Heap}{a:Ω}{led:Bool}{σ Iw:List α}{o:Obj}{es es':Array (Int×Ψ)}{ep:Nat}{t t':SetTable}(ho:h.get? a=Δ o)(D:Jx ky led σ o es ep t)
  (el:ElemsOf ky.knd es'.toList) (sb:es'.size < scanBound) (fi:t'.fits es'.size=Θ) (tb:Tb led t') (pm:∃ks,Ar ky.mv (vals es') ks/\ks.Perm Iw) :
  (h.update a (Obj.putSet es' t')).get? a=Δ {o with data:=.set es' (ep+1) t'}/\Jx ky led Iw {o with data:=.set es' (ep+1) t'} es' (ep+1) t':=
 ⟨(SetOf_store (knd:=ky.knd) (S':=fun k=>es'.toList.any fun e=>ky.knd.is k e.2) ho D.ex D.da el (fun k=>by rw[List.any_eq_true]) sb fi).1,D.ex,rfl,el,sb,fi,tb,pm⟩
theorem qa {a:Ω}{led:Bool}{σ Iw:List α}{o:Obj}{es JX:Array (Int×Ψ)}{ep:Nat}{t t2:SetTable}{b:Bool}{g:Bool->Sem Unit}(hg:∀(b:Bool)(Iy:Α)(Q':Unit->Α->Prop),Q' () Iy->Κ (Μ prog w) A (g b) Q' E Iy)
  (ho:s.heap.get? a=Δ o) (D:Jx ky led σ o es ep t) (el:ElemsOf ky.knd JX.toList) (sb:JX.size < scanBound) (fi:t2.fits JX.size=Θ) (tb:Tb led t2) (pm:∃ks,Ar ky.mv (vals JX) ks/\ks.Perm Iw)
  {R:Option Bool->Α->Prop} (h:∀h',Heap.SameBut a s.heap h'->jZ ky h' a led Iw->R (Δ Θ) {s with heap:=h'}) :
  Κ (Μ prog w) A (do
    storeSet a JX t2
    if(!b&&t2.tooFull)=Θ then do
      g (relayAll t2 JX (SetTable.grown JX.size)).2.2
      storeSet a (relayAll t2 JX (SetTable.grown JX.size)).1 (relayAll t2 JX (SetTable.grown JX.size)).2.1
      pure (Δ Θ)
     else pure (Δ Θ)) R E s:=by
 obtain⟨g1,D1⟩:=store ho D el sb fi tb pm;have b1:=aaD s.heap a (Obj.putSet JX t2);refine a_ (wpAny_storeSet_of ho D.da ?_ (fits_of_scanBound sb));split
 ·have p2:=relayAll_perm t2 JX (SetTable.grown JX.size);have f2:=relayAll_fits t2 JX (SetTable.grown JX.size);have u2:=vU tb JX (SetTable.grown JX.size);generalize relayAll t2 JX (SetTable.grown JX.size)=Z at p2 f2 u2 ⊢;obtain⟨Yf,t3,gv⟩:=Z;dsimp only at p2 f2 u2 ⊢;have sz:Yf.size=JX.size:=by rw[<- T_,p2.length_eq,T_]
  have Yg:Yf.size < scanBound:=by rw[sz];exact sb
  obtain⟨ks,k1,k2⟩:=pm;obtain⟨KN,k3,k4⟩:=kC (p2.map (·.2)) k1;obtain⟨g2,D2⟩:=store g1 D1 (el.perm p2) Yg f2 u2 ⟨KN,k3,k4.trans k2⟩;refine a_ (hg _ _ _ (a_ (wpAny_storeSet_of g1 rfl ?_ (fits_of_scanBound Yg))));exact e_ (h _ (b1.trans (aaD _ a _)) ⟨_,_,_,_,g2,D2⟩)
 ·exact e_ (h _ b1 ⟨_,_,_,_,g1,D1⟩)
theorem add_int (hS:jZ ky s.heap a led σ)(hr:σ.length+1 < scanBound)
  (h:∀h',Heap.SameBut a s.heap h'->jZ ky h' a led (step_dedup σ k)->∀b,Q b {s with heap:=h'}) :
  Κ (Μ prog w) A (setAddHashed a (ky.mv k tk) (ky.knd.hash k)) Q E s:=by
 obtain⟨o,es,ep,t,ho,D⟩:=hS;obtain⟨ks,k1,k2⟩:=D.pm;have lk:es.size=ks.length:=by have:=Ar.length k1;rw[g_,T_]at this;exact this
 have Q3:es.toList.any (fun e=>ky.knd.is k e.2)=σ.any (· == k):=(v7 k1).trans (k2.any_eq);unfold setAddHashed setAddHashedIn;refine N_ (a_ (wpAny_setState_of ho D.da D.fi ?_));dsimp only;rw[byScan_of (x:=ky.mv k tk) (ky.sc k tk) D.sb D.el,f_ rfl];unfold setAddByScan;refine a_ (a_ (wpAny_rule (a_ (wpAny_setScan_of (ky.is k tk) ho D.da D.fi D.el ?_))));cases hq:List.findIdx? (fun e=>ky.knd.is k e.2) es.toList with
 |some j=>
  dsimp only;obtain⟨hj,hpj,_⟩:=List.findIdx?_eq_some_iff_getElem.mp hq;have Nq:σ.any (· == k)=Θ:=by rw[<- Q3,List.any_eq_true];exact⟨_,aaj hj,hpj⟩
  have e2:step_dedup σ k=σ:=by unfold step_dedup;rw[f_ Nq]
  refine e_ (e_ ?_);have z:=h s.heap (Heap.SameBut.refl a s.heap) (by rw[e2];exact⟨o,es,ep,t,ho,D⟩) Ξ;cases s;exact z
 |none=>
  dsimp only;have Vb:σ.any (· == k)=Ξ:=by rw[<- Q3,List.any_eq_false];intro e he;have:=List.findIdx?_eq_none_iff.mp hq e he;rw[this];exact B_
  have e2:step_dedup σ k=σ++[k]:=by unfold step_dedup;rw[d_ (by rw[Vb];exact B_)]
  have p1:=layNew_perm t es (ky.knd.hash k) (ky.mv k tk);have f1:=layNew_fits t es (ky.knd.hash k) (ky.mv k tk);have u1:=Cv D.tb es (ky.knd.hash k) (ky.mv k tk);generalize layNew t es (ky.knd.hash k) (ky.mv k tk)=L at p1 f1 u1 ⊢;obtain⟨JX,t1,wd,gv⟩:=L;dsimp only at p1 f1 u1 ⊢;rw[Array.toList_push]at p1;have Yh:ElemsOf ky.knd JX.toList:=(D.el.push (ky.is k tk) (ky.sc k tk)).perm p1;have sz1:JX.size=es.size+1:=by rw[<- T_,p1.length_eq,w_,T_];rfl
  have Yi:JX.size < scanBound:=by rw[sz1,lk,k2.length_eq];exact hr
  have Yj:∃KN,Ar ky.mv (vals JX) KN/\KN.Perm (step_dedup σ k):=by obtain⟨KN,k3,k4⟩:=kC (p1.map (·.2)) (by rw[C_];exact vX (k:=k) (t:=tk) k1);exact⟨KN,k3,k4.trans (by rw[e2];exact k2.append_right _)⟩
  refine a_ ((show ∀(b:Bool) (Iy:Α) (Q':Unit->Α->Prop),Q' () Iy->Κ (Μ prog w) A (match b with|true=>rule "set.scan.the-table-gave-way" |false=>pure ()) Q' E Iy from fun b Iy Q' hq=>by induction b using zB<;>first|exact e_ hq|exact wpAny_rule hq) _ _ _ ?_);have fin:∀h',Heap.SameBut a s.heap h'->jZ ky h' a led (step_dedup σ k)->Κ (Μ prog w) A (pure Θ) Q E {s with heap:=h'}:=fun h' hb JW=>e_ (h h' hb JW Θ);split
  ·rw[hashByValue_scannable 8 (x:=ky.mv k tk) (ky.sc k tk)];refine a_ (e_ (qa ?_ ho D Yh Yi ?_ ?_ Yj fun h' hb JW=>?_))
   ·intro b Iy Q' hq;induction b using zB<;>first|exact e_ hq|exact wpAny_rule hq
   ·split
    ·exact f1
    ·exact SetTable.fits_plain_off f1
   ·split
    ·exact u1
    ·exact vV u1 _
   ·exact fin h' hb JW
  ·refine a_ (e_ ?_);rw[f_ rfl];refine qa ?_ ho D Yh Yi f1 u1 Yj fun h' hb JW=>fin h' hb JW;intro b Iy Q' hq;induction b using zB<;>first|exact e_ hq|exact wpAny_rule hq
end
noncomputable abbrev iL (w:Β):Bool:=w.params.followText "set-order"
section
variable {prog:Ε}{w:Β}{α:Type} [DecidableEq α] [Inhabited α]{ky:Ky prog w α}{A:Ι}{E:Ψ->Α->Prop}{s:Α}{R:Result->Α->Prop}{I:Ω}{fp wr:List Ω}{G:Array GenState->Array GenState->Prop}{n:Nat}{P:Nat->Ψ->Prop}{St:Nat->Α->Prop}
theorem jZ.moved (hS:jZ ky h a led σ)(k:∀o,h.get? a=Δ o->h'.get? a=Δ o):jZ ky h' a led σ:=by obtain⟨o,es,ep,t,ho,D⟩:=hS;exact⟨o,es,ep,t,k o ho,D⟩
theorem Jv (l:List α):∀σ:List α,(l.foldl step_dedup σ).length<=σ.length+l.length:=fun σ=>foldl_step_dedup_length_le σ l
theorem loop (W:WalksS prog w A.in1 I fp wr G n P St)(a:Ω)(ha:a∉fp){led:Bool}{ns:List α}(hv:∀i v,P i v->∃t,v=ky.mv (ns.getD i default) t)(hn:ns.length=n)(hb:n+1 < scanBound) :
  ∀(k i:Nat) (s:Α),n - i=k->i<=n->St i s->jZ ky s.heap a led ((ns.take i).foldl step_dedup [])->
   (∀s',Moved (a::wr) G s s'->jZ ky s'.heap a led (ns.foldl step_dedup [])->R (.ok (.ret .none)) s')->
   codeAny (Μ prog w) A (.builtin "set.update.loop" ⟨[.ref a,.ref I],[]⟩) R s:=by
 have Yk:a∉wr:=fun z=>ha (W.sub _ z);have sub:∀b∈wr,b∈a::wr:=fun b z=>K_ _ z;intro k
 induction k with
 |zero=>
  intro i s hk hi Jj hS hR;have e:i=n:=by omega
  subst e;rw[<- hn,List.take_length]at hS;refine codeAny_builtin F.entry_set_update_loop ?_;rw[aaG F.plain_set_update_loop _];show Κ _ A.in1 (pyNext (.ref I) >>= _) _ _ s;exact a_ (W.done s _ _ Jj fun s' hm=>show Κ _ A.in1 (ret Value.none) _ _ s' from e_ (hR s' (hm.mono sub) (hS.moved fun o e=>hm.heap a o Yk e)))
 |succ k ih=>
  intro i s hk hi Jj hS hR;have IQ:i < n:=by omega
  refine codeAny_builtin F.entry_set_update_loop ?_;rw[aaG F.plain_set_update_loop _];show Κ _ A.in1 (pyNext (.ref I) >>= _) _ _ s;refine a_ (W.item i s _ _ IQ Jj fun v s' hP Ja hm=>?_);obtain⟨t,rfl⟩:=hv i v hP;have Vd:jZ ky s'.heap a led ((ns.take i).foldl step_dedup []):=hS.moved fun o e=>hm.heap a o Yk e;show Κ _ A.in1 (holding [ky.mv (ns.getD i default) t] (setAdd a (ky.mv (ns.getD i default) t)) >>= _) _ _ s';unfold setAdd;refine a_ (N_ (N_ (a_ (ky.knd.pyHash (ky.is _ _) ?_))));have hlen:=Jv (ns.take i) [];rw[O_,List.length_nil]at hlen;refine add_int (s:={s' with toks:=s'.toks+1}) Vd (by omega) fun h' QP Tr b=>?_;have et:(ns.take (i+1)).foldl step_dedup []=step_dedup ((ns.take i).foldl step_dedup []) (ns.getD i default):=by
   have K6:i < ns.length:=by omega
   rw[List.take_succ,List.foldl_append,x_ K6,aaa,x_ K6];rfl
  rw[<- et]at Tr;refine e_ ⟨plainId_quiet F.plain_set_update_loop _,ih (i+1) _ (by omega) IQ (W.frame _ s' _ _ Ja (Nat.le_succ _) fun b hb o e=>?_) Tr fun Mq OP Ve=>?_⟩
  ·rw[QP.2 b fun z=>ha (z ▸ hb)];exact e
  ·refine hR Mq (Moved.trans W.gtrans ((hm.mono sub).then_heap (Nat.le_succ _) fun b o hb e=>?_) OP) Ve;rw[QP.2 b fun z=>hb (z ▸ aaF)];exact e
theorem v8 (x:Ψ)  (h:Q1 (.ref s.heap.objs.size) {s with heap:=s.heap.push {cls:=.type "set",dict:=Φ,data:=.set #[] 0 (.fresh 0 0 (!iL w))}}) :
  codeAny (Μ prog w) A (.call (.builtin "set.__new__") ⟨[.type "set",x],[]⟩) (wants Q1 E) s:=by
 refine codeAny_of_tree (show Κ _ A.in1 (do checkBuiltinCall "set.__new__" ⟨[.type "set",x],[]⟩;again (.builtin "set.__new__" ⟨[.type "set",x],[]⟩)) _ _ s from a_ (wpAny_of_eq (F.newCall_set_1 x) (e_ ⟨plainId_quiet F.plain_set_new _,codeAny_builtin F.entry_set_new ?_⟩)));rw[aaG F.plain_set_new _];unfold Builtin.«set.__new__» Builtin.Frozenset.newClass;have Yl:=sub_set_self;obtain⟨hp,g,d,tk,os⟩:=s;dsimp only
 wp_walk
 refine wpAny_askSetting (e_ ?_);dsimp only;simp only[newObj];exact a_ (wpAny_alloc (e_ (e_ h)))
end
section
variable {prog:Ε}{w:Β}{α:Type} [DecidableEq α] [Inhabited α]{ky:Ky prog w α}{A:Ι}{E:Ψ->Α->Prop}{s:Α}
noncomputable abbrev oS (w:Β):Obj:={cls:=.type "set",dict:=Φ,data:=.set #[] 0 (.fresh 0 0 (!iL w))}
theorem uG (h:Heap):jZ ky (h.push (oS w)) h.objs.size (!iL w) []:=
 ⟨_,#[],0,_,z_ _ rfl,⟨rfl,rfl,rfl⟩,rfl,fun e he=>by simp at he,by decide,rfl,vW _ _ _,[],.nil,.refl _⟩
theorem v9 {l:Ω}{items:Array Ψ}{ns:List α}{Q:Ψ->Α->Prop}(hh:A.handled=Φ)(hl:s.heap.IsList l items)(hi:Ar ky.mv items.toList ns)(hb:items.size+1 < scanBound)
  (h:∀(h':Heap) (tk:Nat),jZ ky h' s.heap.objs.size (!iL w) (ns.foldl step_dedup [])->(∀b o,b < s.heap.objs.size->s.heap.get? b=Δ o->h'.get? b=Δ o)->Q (.ref s.heap.objs.size) {s with heap:=h',toks:=tk}) :
  Κ (Μ prog w) A (call (.type "set") [.ref l]) Q E s:=by
 obtain⟨c,tl,mro⟩:=F.called_set.mro;have made:=F.called_set.made;have sub:=F.called_set.sub;refine wpAny_call (codeAny_of_tree (show Κ _ _ (callAny (.type "set") _) _ _ _ from e_ ⟨Code.quiet_builtin _ (by decide +kernel),codeAny_builtin F.entry_type_call ?_⟩));rw[Around.under_plain (weight_type_call_type "set" [.ref l] []) rfl];have n1:=F.called_set.notType;have n2:=F.called_set.canCreate;have n3:=F.typeCall_set_1 (.ref l)
 repeat (any_goals (first|assumption|wp_step))
 refine codeAny_mono (v8 (.ref l) (E:=E) (Q1:=fun obj s1=>obj=.ref s.heap.objs.size/\s1 = {s with heap:=s.heap.push (oS w)}) ⟨rfl,rfl⟩) fun r s1 hr=>?_;cases r with
 |error e=>exact hr
 |ok fl=>
  cases fl with
  |ret obj=>
   obtain⟨rfl,rfl⟩:=hr;have gS:(s.heap.push (oS w)).get? s.heap.objs.size=Δ (oS w):=z_ _ rfl;have hT:Shared.TypeIs {s with heap:=s.heap.push (oS w)} (.ref s.heap.objs.size) "set":=⟨_,gS,rfl⟩
   have i1:=F.called_set.init.lookup;have i2:=F.called_set.init.bind (.ref s.heap.objs.size)
   repeat (any_goals (first|assumption|wp_step))
   refine codeAny_mono (codeAny_call_builtin (R:=wants (fun r s2=>r=.none/\∃h' tk,s2 = {s with heap:=h',toks:=tk}/\jZ ky h' s.heap.objs.size (!iL w) (ns.foldl step_dedup [])/\
     (∀b o,b < s.heap.objs.size->s.heap.get? b=Δ o->h'.get? b=Δ o)) E) F.called_set.init.plain F.entry_set_init (check_set_init_1 hT ?_)) fun r2 s2 Vf=>?_
   ·obtain⟨ol,Ym,Q4,nl,Yn⟩:=hl;obtain⟨aay,Q5,Yo,OQ⟩:=ol;simp only at Q4 Yn;subst Q4;subst Yn;have Vg:(s.heap.push (oS w)).get? l=Δ {cls:=.type "list",dict:=Q5,data:=.seq items nl,slots:=OQ}:=l_ _ Ym;have w1:=F.sub_list_set;have w2:=F.sub_list_frozenset;have w3:(Value.type "list" == Value.type "dict")=Ξ:=by decide
    have Tt:(s.heap.push (oS w)).IsList l items:=⟨_,Vg,rfl,nl,rfl⟩
    unfold Builtin.«set.__init__» noKeywords Builtin.Frozenset.updateFrom;generalize hPI:pyIter=PI
    wp_walk
    subst hPI;refine aaz Tt (a_ (wpAny_runValue ?_));have lS:l < s.heap.objs.size:=j_ Ym;have nI:l≠(s.heap.push (oS w)).objs.size:=by rw[V_];exact m_ (Nat.lt_succ_of_lt lS)
    have aS:s.heap.objs.size∉[(s.heap.push (oS w)).objs.size,l]:=by
     rw[V_];intro z;rcases k_.mp z with z|z
     ·exact m_ (Nat.lt_succ_self _) z
     ·exact U_ lS (o_.mp z)
    have hlen:ns.length=items.size:=by have:=Ar.length hi;rw[T_]at this;exact this.symm
    refine loop ((Walks.list (show A.in1.in1.in1.handled=Φ by simp[hh]) _ l nI items).toS) s.heap.objs.size aS (ns:=ns) (fun i v hv=>Ar.at hi i v (by rw[aap];exact hv)) hlen hb (items.size - 0) 0 _ (by omega) (Z_ _)
     ⟨⟨_,z_ _ rfl,rfl,rfl⟩,(Tt.push _)⟩ ((uG s.heap).moved fun o e=>l_ _ e) ?_
    intro s' hm JW;obtain⟨h',g',d',Vh,UG⟩:=s';have eg:g'=s.gens:=hm.gens;have ed:d'=s.drawn:=hm.drawn;have eo:UG=s.os:=hm.os;subst eg ed eo;show Κ _ _ _ _ _ _;refine e_ (show Κ _ _ (ret Value.none) _ _ _ from e_ ⟨rfl,h',Vh,rfl,JW,fun b o hb e=>?_⟩);refine hm.heap b o (fun z=>?_) (l_ _ (l_ _ e));rcases k_.mp z with z|z
    ·exact m_ hb z
    ·have:=o_.mp z;rw[V_]at this;exact m_ (Nat.lt_succ_of_lt hb) this
   ·cases r2 with
    |error e=>exact Vf
    |ok fl2=>
     cases fl2 with
     |ret r=>
      obtain⟨rfl,h',tk,rfl,JW,Nr⟩:=Vf
      repeat (any_goals (first|assumption|wp_step))
      exact h _ _ JW Nr
     |_=>exact Vf.elim
  |_=>exact hr.elim
end
theorem hJ:Slot "set_iterator" "__next__" "set_iterator.__next__":=.of (owner:="set_iterator") (n:="__next__")
 (by rw[typeLookup_type,builtinLookup_eq_fast];kernel_rfl) (by decide +kernel) (by decide +kernel) (by decide +kernel) (by first|exact .inl (by decide +kernel)|exact .inr (by decide +kernel)) (by rw[isSubtype_type];kernel_rfl)
theorem kl:Slot "set_iterator" "__iter__" "set_iterator.__iter__":=.of (owner:="set_iterator") (n:="__iter__")
 (by rw[typeLookup_type,builtinLookup_eq_fast];kernel_rfl) (by decide +kernel) (by decide +kernel) (by decide +kernel) (by first|exact .inl (by decide +kernel)|exact .inr (by decide +kernel)) (by rw[isSubtype_type];kernel_rfl)
theorem i4:entryFor table "set_iterator.__next__" = Δ Builtin.«set_iterator.__next__»:=entryFor_of_tree (by kernel_rfl)
theorem jh (a:Ψ):argsOk "set_iterator.__next__" ⟨[a],[]⟩:=by unfold argsOk;kernel_rfl
theorem oX:entryFor table "set.__iter__" = Δ Builtin.«frozenset.__iter__»:=
 entryFor_alias (id':="frozenset.__iter__") (by kernel_rfl) (by first|rfl|decide +kernel|(unfold String.splitOn;simp +decide [String.splitOnAux])) (by decide +kernel) (by kernel_rfl)
section
variable {prog:Ε}{w:Β}{α:Type} [DecidableEq α] [Inhabited α]{ky:Ky prog w α}{A:Ι}{E:Ψ->Α->Prop}{s:Α}
noncomputable abbrev Mx (first:Ψ)(i n:Nat)(a:Ω)(ep:Nat):Obj:={cls:=.type "set_iterator",data:=.fields #[first,rawInt i,.ref a,rawInt n,rawInt ep]}
theorem md (h:Q (iL w) s):Κ (Μ prog w) A setsByText Q E s:=by unfold setsByText;exact a_ (wpAny_askSetting (e_ h))
theorem uH {a:Ω}{σ:List α}{o:Obj}{es:Array (Int×Ψ)}{ep:Nat}{t:SetTable}{led:Bool}{Q:Array (Int×Ψ)->Α->Prop}(hb:iL w=Θ)(ho:s.heap.get? a=Δ o)(D:Jx ky led σ o es ep t)
  (h:Q (pickOrder (w.params.setOrder a ep) es) s):Κ (Μ prog w) A (setWalk a) Q E s:=by
 unfold setWalk;refine a_ (wpAny_setState_of ho D.da D.fi ?_);dsimp only;refine a_ (md ?_);rw[hb,f_ rfl];exact a_ (wpAny_askSetting (e_ h))
theorem n6 {a:Ω}{σ:List α}{o:Obj}{es:Array (Int×Ψ)}{ep slot i:Nat}{t:SetTable}{led:Bool}{Q:Option (Ψ×Nat)->Α->Prop}(hb:iL w=Θ)(ho:s.heap.get? a=Δ o)(D:Jx ky led σ o es ep t)
  (h:Q (((pickOrder (w.params.setOrder a ep) es)[i]?).map fun e=>(e.2,slot)) s):Κ (Μ prog w) A (setNext a slot i ep) Q E s:=by
 unfold setNext;refine a_ (wpAny_setState_of ho D.da D.fi ?_);dsimp only;refine a_ (md ?_);rw[hb,f_ rfl];rw[d_ (by rw[bne_self_eq_false];exact B_)];exact a_ (uH hb ho D (e_ h))
theorem mK {a:Ω}{σ:List α}{o:Obj}{es:Array (Int×Ψ)}{ep slot i:Nat}{t:SetTable}{Q:Option (Ψ×Nat)->Α->Prop}(hb:iL w=Ξ)(ho:s.heap.get? a=Δ o)(D:Jx ky (!iL w) σ o es ep t)
  (hd:(!t.plain&&decide (es.size > 1))=Ξ)
  (h:Q (match es[SetTable.below t.place slot]?,t.place[SetTable.below t.place slot]? with
   |some (_,x),Δ j=>Δ (x,j+1)
   |_,_=>Φ) s):Κ (Μ prog w) A (setNext a slot i ep) Q E s:=by
 unfold setNext;refine a_ (wpAny_setState_of ho D.da D.fi ?_);dsimp only;refine a_ (md ?_);rw[hb,d_ B_];refine a_ (e_ ?_);show Κ _ _ (if(!t.plain&&decide (es.size > 1))=Θ then _ else _) _ _ _;rw[hd,d_ B_];have hl:t.led=Θ:=by rw[D.tb.ld,hb];rfl
 show Κ _ _ ((if(!t.led&&!es.isEmpty)=Θ then _ else _) >>= _) _ _ _;rw[hl];exact a_ (e_ (e_ h))
end
section
variable {prog:Ε}{w:Β}{α:Type} [DecidableEq α] [Inhabited α]{ky:Ky prog w α}{A:Ι}{E:Ψ->Α->Prop}{s:Α}{it a:Ω}{i n ep slot:Nat}{σ:List α}{o:Obj}{es:Array (Int×Ψ)}{t:SetTable}{led:Bool}
theorem stop {M:Model}{A:Ι}{h:Heap}{hh:A.handled=Φ}{R:Fin->Α->Prop}{R':Ψ->Α->Prop}(hQ:∀h' e,(∀b o,s.heap.get? b=Δ o->h'.get? b=Δ o)->(∃o,h'.get? e=Δ o/\o.cls=.type "StopIteration")->R' (.ref e) {s with heap:=h'}) :
  Κ M A (do raiseNew (<- newExc (.type "StopIteration") [])) R R' s:=by
 refine a_ ?_;simp only[newExc,newTuple];refine a_ (aaw ?_ (by size_fits));refine a_ (m:=firstArgMember _ _) (wpAny_of_eq (a:=Value.none) (by first|rfl|(simp only[firstArgMember];rfl)) (aaw ?_ (by size_fits)));simp only[raiseNew];refine a_ (wpAny_handled ?_);rw[hh];exact a_ (e_ (wpAny_throw (hQ _ _ (fun b o e=>l_ _ (l_ _ e)) ⟨_,z_ _ rfl,rfl⟩)))
theorem su {nx:Nat}{x:Ψ}(hit:s.heap.get? it=Δ (Mx (rawInt slot) i n a ep))(ho:s.heap.get? a=Δ o)(D:Jx ky led σ o es ep t)(hn:es.size=n)
  (hs:∀(A':Ι) (E':Ψ->Α->Prop) (Q':Option (Ψ×Nat)->Α->Prop),Q' (Δ (x,nx)) s->Κ (Μ prog w) A' (setNext a slot i ep) Q' E' s) {Q:Option Ψ->Α->Prop}
  (h:∀h',h'.get? it=Δ (Mx (rawInt nx) (i+1) n a ep)->Heap.SameBut it s.heap h'->Q (Δ x) {s with heap:=h'}):Κ (Μ prog w) A (pyNext (.ref it)) Q E s:=by
 have hT:s.TypeIs (.ref it) "set_iterator":=⟨_,hit,rfl⟩
 unfold pyNext;refine a_ (wpAny_attempt (wpAny_callSpecial?_slot (name:=Ρ "__next__") hT hJ (aah hJ hT i4 ?_ (jh _))));show Κ _ _ (fieldsOf (.ref it) >>= _) _ _ s;refine a_ (wpAny_fieldsOf hit rfl ?_);show Κ _ _ (setEntries a >>= _) _ _ s;refine a_ (wpAny_setEntries_of ho D.da D.fi ?_);rw[d_ (by rw[hn];simp)];show Κ _ _ (setNext a slot i ep >>= _) _ _ s;refine a_ (hs _ _ _ ?_);show Κ _ _ (setField (.ref it) 0 (rawInt nx) >>= _) _ _ s;refine a_ (aai hit (by simp) fun h1 g1 b1=>?_);refine a_ (aai g1 (by simp) fun h2 g2 b2=>?_);exact e_ ⟨x,rfl,e_ (h h2 g2 (b1.trans b2))⟩
theorem sv (hh:A.handled=Φ)(hit:s.heap.get? it=Δ (Mx (rawInt slot) i n a ep))(ho:s.heap.get? a=Δ o)(D:Jx ky led σ o es ep t)(hn:es.size=n)
  (hs:∀(A':Ι) (E':Ψ->Α->Prop) (Q':Option (Ψ×Nat)->Α->Prop),Q' Φ s->Κ (Μ prog w) A' (setNext a slot i ep) Q' E' s) {Q:Option Ψ->Α->Prop}
  (h:∀h',(∀b o,b≠it->s.heap.get? b=Δ o->h'.get? b=Δ o)->Q Φ {s with heap:=h'}):Κ (Μ prog w) A (pyNext (.ref it)) Q E s:=by
 have hT:s.TypeIs (.ref it) "set_iterator":=⟨_,hit,rfl⟩
 unfold pyNext;refine a_ (wpAny_attempt (wpAny_callSpecial?_slot (name:=Ρ "__next__") hT hJ (aah hJ hT i4 ?_ (jh _))));show Κ _ _ (fieldsOf (.ref it) >>= _) _ _ s;refine a_ (wpAny_fieldsOf hit rfl ?_);show Κ _ _ (setEntries a >>= _) _ _ s;refine a_ (wpAny_setEntries_of ho D.da D.fi ?_);rw[d_ (by rw[hn];simp)];show Κ _ _ (setNext a slot i ep >>= _) _ _ s;refine a_ (hs _ _ _ ?_);show Κ _ _ (setField (.ref it) 2 .none >>= _) _ _ s;refine a_ (aai hit (by simp) fun h1 g1 b1=>?_);refine stop (h:=h1) (hh:=show A.in1.handled=Φ from hh) (s:={s with heap:=h1}) fun h' e k he=>?_;obtain⟨oe,ge,ce⟩:=he;refine a_ (wpAny_isInstance (T:="StopIteration") (b:=Θ) ⟨_,ge,ce⟩ isSubtype_stop ?_);exact e_ (h h' fun b o hb e=>k b o (b1.extBut b o hb e))
end
section
variable {prog:Ε}{w:Β}{α:Type} [DecidableEq α] [Inhabited α]{ky:Ky prog w α}{A:Ι}{E:Ψ->Α->Prop}{s:Α}{it a T:Ω}{i n ep slot:Nat}{σ:List α}{o:Obj}{es:Array (Int×Ψ)}{t:SetTable}{led:Bool}
noncomputable abbrev OR (ps:List Nat):Obj:={cls:=.type "tuple",data:=.seq (ps.map fun(k:Nat)=>rawInt k).toArray}
theorem rj {pl:Nat}{c:Int}{x:Ψ}{Q:Ψ->Α->Prop}(ho:s.heap.get? a=Δ o)(D:Jx ky led σ o es ep t)(he:es[pl]? = Δ (c,x))(h:Q x s):Κ (Μ prog w) A (setNextDrawn a pl ep) Q E s:=by unfold setNextDrawn;refine a_ (wpAny_setState_of ho D.da D.fi ?_);dsimp only;rw[d_ (by rw[bne_self_eq_false];exact B_)];rw[he];exact e_ h
theorem wb {ps:List Nat}{pl:Nat}{c:Int}{x:Ψ}(hit:s.heap.get? it=Δ (Mx (.ref T) i n a ep))(hT:s.heap.get? T=Δ (OR ps))(ho:s.heap.get? a=Δ o)(D:Jx ky led σ o es ep t)(hn:es.size=n)
  (hp:ps[i]? = Δ pl) (he:es[pl]? = Δ (c,x)) {Q:Option Ψ->Α->Prop}
  (h:∀h',h'.get? it=Δ (Mx (.ref T) (i+1) n a ep)->Heap.SameBut it s.heap h'->Q (Δ x) {s with heap:=h'}):Κ (Μ prog w) A (pyNext (.ref it)) Q E s:=by
 have Q6:s.TypeIs (.ref it) "set_iterator":=⟨_,hit,rfl⟩
 unfold pyNext;refine a_ (wpAny_attempt (wpAny_callSpecial?_slot (name:=Ρ "__next__") Q6 hJ (aah hJ Q6 i4 ?_ (jh _))));show Κ _ _ (fieldsOf (.ref it) >>= _) _ _ s;refine a_ (wpAny_fieldsOf hit rfl ?_);show Κ _ _ (setEntries a >>= _) _ _ s;refine a_ (wpAny_setEntries_of ho D.da D.fi ?_);rw[d_ (by rw[hn];simp)];show Κ _ _ (seqItems? (.ref T) >>= _) _ _ s;refine a_ (aad hT rfl ?_);dsimp only;have e:((ps.map fun(k:Nat)=>rawInt k).toArray)[((i:Nat):Int).toNat]? = Δ (rawInt pl):=by simp[hp]
 rw[e];show Κ _ _ (setNextDrawn a pl ep >>= _) _ _ s;refine a_ (rj ho D he ?_);refine a_ (aai hit (by simp) fun h1 g1 b1=>?_);exact e_ ⟨x,rfl,e_ (h h1 g1 b1)⟩
theorem wc {ps:List Nat}(hh:A.handled=Φ)(hit:s.heap.get? it=Δ (Mx (.ref T) i n a ep))(hT:s.heap.get? T=Δ (OR ps))(ho:s.heap.get? a=Δ o)(D:Jx ky led σ o es ep t)(hn:es.size=n)
  (hp:ps[i]? = Φ) {Q:Option Ψ->Α->Prop}
  (h:∀h',(∀b o,b≠it->s.heap.get? b=Δ o->h'.get? b=Δ o)->Q Φ {s with heap:=h'}):Κ (Μ prog w) A (pyNext (.ref it)) Q E s:=by
 have Q6:s.TypeIs (.ref it) "set_iterator":=⟨_,hit,rfl⟩
 unfold pyNext;refine a_ (wpAny_attempt (wpAny_callSpecial?_slot (name:=Ρ "__next__") Q6 hJ (aah hJ Q6 i4 ?_ (jh _))));show Κ _ _ (fieldsOf (.ref it) >>= _) _ _ s;refine a_ (wpAny_fieldsOf hit rfl ?_);show Κ _ _ (setEntries a >>= _) _ _ s;refine a_ (wpAny_setEntries_of ho D.da D.fi ?_);rw[d_ (by rw[hn];simp)];show Κ _ _ (seqItems? (.ref T) >>= _) _ _ s;refine a_ (aad hT rfl ?_);dsimp only;have e:((ps.map fun(k:Nat)=>rawInt k).toArray)[((i:Nat):Int).toNat]? = Φ:=by have:=hp;simp at this ⊢;exact this
 rw[e];show Κ _ _ (setField (.ref it) 0 (rawInt 0) >>= _) _ _ s;refine a_ (aai hit (by simp) fun h1 g1 b1=>?_);refine a_ (aai g1 (by simp) fun h2 g2 b2=>?_);refine stop (h:=h2) (hh:=show A.in1.handled=Φ from hh) (s:={s with heap:=h2}) fun h' e k he=>?_;obtain⟨oe,ge,ce⟩:=he;refine a_ (wpAny_isInstance (T:="StopIteration") (b:=Θ) ⟨_,ge,ce⟩ isSubtype_stop ?_);exact e_ (h h' fun b o hb e=>k b o (b2.extBut b o hb (b1.extBut b o hb e)))
theorem mL (l:List α):∀(j:Nat) (h:j < l.length),(l[j]::l.eraseIdx j).Perm l:=by
 induction l with
 |nil=>intro j h;cases h
 |cons a l ih=>
  intro j h;cases j with
  |zero=>exact .refl _
  |succ j=>
   have h':j < l.length:=by simpa using h
   exact(List.Perm.swap a l[j] (l.eraseIdx j)).trans (List.Perm.cons a (ih j h'))
theorem uI (f:Nat->Nat):∀(fuel k:Nat) (left:List α) (out:Array α),left.length<=fuel->(pickOrder.go f fuel k left out).toList.Perm (out.toList++left):=by
 intro fuel
 induction fuel with
 |zero=>intro k left out h;have:left=[]:=List.length_eq_zero_iff.mp (by omega);subst this;unfold pickOrder.go;rw[aal]
 |succ n ih=>
  intro k left out h;unfold pickOrder.go
  induction left using zL with
  |nil=>simp
  |cons y l=>have IQ:f k % (y::l).length < (y::l).length:=Nat.mod_lt _ (by simp);generalize f k % (y::l).length=j at IQ;rw[x_ IQ];dsimp only;refine(ih (k+1) _ _ (by rw[List.length_eraseIdx_of_lt IQ];simp at h ⊢;omega)).trans ?_;rw[Array.toList_push,H_];refine aaA _ ?_;exact(mL _ _ IQ)
theorem kD (f:Nat->Nat)(xs:Array α):(pickOrder f xs).toList.Perm xs.toList:=by have:=uI f xs.size 0 xs.toList #[] (by simp);rw[show(#[]:Array α).toList++xs.toList=xs.toList by simp]at this;exact this
theorem uJ (hm:m≠0)(h:∀k d,k < m->Q k {s with drawn:=d}):Κ (Μ prog w) A (choose src m) Q E s:=fun Γ p hΓ=>
 show m≠0/\Q _ _ from⟨hm,h _ _ (Nat.mod_lt _ (Nat.pos_of_ne_zero hm))⟩
theorem zr:∀(m:Nat) (xs:List α) (s:Α),xs.length=m->(∀ys d,ys.Perm xs->Q ys {s with drawn:=d})->Κ (Μ prog w) A (drawOrder m xs) Q E s:=by
 intro m
 induction m generalizing Q with
 |zero=>intro xs s hx h;have:xs=[]:=List.length_eq_zero_iff.mp hx;subst this;exact e_ (by cases s;exact h [] _ (.refl _))
 |succ m ih=>
  intro xs s hx h
  induction xs using zL with
  |nil=>cases hx
  |cons y l=>unfold drawOrder;refine a_ (uJ (by simp) fun k d hk=>?_);rw[x_ hk];dsimp only;refine a_ (ih _ _ (by rw[List.length_eraseIdx_of_lt hk];simp at hx ⊢;omega) fun ys d' hy=>e_ ?_);exact h _ d' ((List.Perm.cons _ hy).trans (mL _ _ hk))
end
theorem mM:entryFor table "set_iterator.__iter__" = Δ Builtin.«dict_keyiterator.__iter__»:=
 entryFor_alias (id':="dict_keyiterator.__iter__") (by kernel_rfl) (by first|rfl|decide +kernel|(unfold String.splitOn;simp +decide [String.splitOnAux])) (by decide +kernel) (by kernel_rfl)
theorem nG (a:Ψ):argsOk "set_iterator.__iter__" ⟨[a],[]⟩:=by unfold argsOk;kernel_rfl
section
variable {prog:Ε}{w:Β}{α:Type} [DecidableEq α] [Inhabited α]{ky:Ky prog w α}{A:Ι}{E:Ψ->Α->Prop}{s:Α}{it a T:Ω}{i n ep slot:Nat}{σ:List α}{o:Obj}{es:Array (Int×Ψ)}{t:SetTable}{led:Bool}
theorem mN (hit:s.heap.get? it=Δ (Mx f i n a ep))(h:Q (.ref it) s):Κ (Μ prog w) A (pyIter (.ref it)) Q E s:=by
 have hT:s.TypeIs (.ref it) "set_iterator":=⟨_,hit,rfl⟩
 refine wpAny_pyIter_slot hT kl (aah kl hT mM ?_ (nG _));exact e_ ⟨_,rfl,"set_iterator",_,hT,hJ.lookup,h⟩
theorem sy (h1:Cut xs j p)(h2:Cut xs j q):p=q:=by
 have key:∀p q:Nat,Cut xs j p->Cut xs j q->¬p < q:=fun p q h1 h2 h=>by
  have hl:p < xs.size:=F_ h h2.le;have e:xs[p]? = Δ xs[p]:=by simp[hl]
  have:=h2.lo p _ h e;have:=h1.hi p _ (n_ _) e;omega
 have:=key p q h1 h2;have:=key q p h2 h1;omega
theorem EI (hh:A.handled=Φ)(hb:iL w=Θ)(D:Jx ky led σ o es ep t)(JK:a≠it) :
  Walks prog w A it [it,a] [it] es.size (fun i v=>((pickOrder (w.params.setOrder a ep) es).toList.map (·.2))[i]? = Δ v) (fun i h=>h.get? it=Δ (Mx (rawInt 0) i es.size a ep)/\h.get? a=Δ o) where
 sub:=fun b hb=>by rw[o_.mp hb];exact aaF
 frame:=fun _ _ _ st k=>⟨k it (by simp) _ st.1,k a (by simp) _ st.2⟩
 item:=fun i s Q E hi st hQ=>by
  have hl:(pickOrder (w.params.setOrder a ep) es).size=es.size:=by rw[<- T_,(kD _ es).length_eq,T_]
  have e:(pickOrder (w.params.setOrder a ep) es)[i]? = Δ (pickOrder (w.params.setOrder a ep) es)[i]:=by simp[hl,hi]
  refine su (x:=(pickOrder (w.params.setOrder a ep) es)[i].2) (nx:=0) st.1 st.2 D rfl (fun A' E' Q' q=>n6 hb st.2 D (by rw[e];exact q)) fun h' g b=>?_;exact hQ _ h' s.toks (by rw[A_,aap,e];rfl) ⟨g,b.extBut a o JK st.2⟩ fun c o hc e=>b.extBut c o (fun z=>hc (by simp[z])) e
 done:=fun s Q E st hQ=>by
  have hl:(pickOrder (w.params.setOrder a ep) es).size=es.size:=by rw[<- T_,(kD _ es).length_eq,T_]
  have e:(pickOrder (w.params.setOrder a ep) es)[es.size]? = Φ:=by simp[hl]
  exact sv hh st.1 st.2 D rfl (fun A' E' Q' q=>n6 hb st.2 D (by rw[e];exact q)) fun h' k=>hQ h' s.toks fun c o hc e=>k c o (fun z=>hc (by simp[z])) e
 self:=fun _ _ _ _ st hQ=>mN st.1 hQ
noncomputable def n8 (t:SetTable):Nat->Nat
 |0=>0
 |i+1=>t.place.getD i 0+1
theorem n9 (u:Up t.place)(hi:i<=t.place.size):Cut t.place (n8 t i) i:=by
 cases i with
 |zero=>exact⟨hi,fun i x h=>absurd h (Nat.not_lt_zero i),fun i x _ _=>Z_ _⟩
 |succ k=>
  have hk:k < t.place.size:=by omega
  have e:t.place[k]? = Δ t.place[k]:=by simp[hk]
  have eg:t.place.getD k 0=t.place[k]:=by simp[Array.getD,hk]
  refine⟨hi,fun j x hj hx=>?_,fun j x hj hx=>?_⟩
  ·show x < t.place.getD k 0+1;rw[eg];by_cases q:j=k
   ·subst q;rw[e]at hx;cases hx;omega
   ·have:=u j k x _ (by omega) hx e;omega
  ·show t.place.getD k 0+1<=x;rw[eg];have:=u k j _ x (by omega) e hx;omega
theorem EJ (hh:A.handled=Φ)(hb:iL w=Ξ)(D:Jx ky (!iL w) σ o es ep t)(hd:(!t.plain&&decide (es.size > 1))=Ξ)(JK:a≠it) :
  Walks prog w A it [it,a] [it] es.size (fun i v=>(vals es)[i]? = Δ v) (fun i h=>h.get? it=Δ (Mx (rawInt (n8 t i)) i es.size a ep)/\h.get? a=Δ o) where
 sub:=fun b hb=>by rw[o_.mp hb];exact aaF
 frame:=fun _ _ _ st k=>⟨k it (by simp) _ st.1,k a (by simp) _ st.2⟩
 item:=fun i s Q E hi st hQ=>by
  have hz:t.place.size=es.size:=by have:=D.fi;unfold SetTable.fits at this;rw[h_]at this;exact i_ this.1
  have hp:i < t.place.size:=by omega
  have eb:SetTable.below t.place (n8 t i)=i:=sy (la D.tb.up _) (n9 D.tb.up (Nat.le_of_lt hp));have e1:es[i]? = Δ (es[i].1,es[i].2):=by simp[hi]
  have e2:t.place[i]? = Δ t.place[i]:=by simp[hp]
  have e3:n8 t (i+1)=t.place[i]+1:=by show t.place.getD i 0+1=_;simp[Array.getD,hp]
  refine su (x:=es[i].2) (nx:=n8 t (i+1)) st.1 st.2 D rfl (fun A' E' Q' q=>mK hb st.2 D hd (by rw[eb,e1,e2];rw[e3]at q;exact q)) fun h' g b=>?_;exact hQ _ h' s.toks (by rw[A_,aap,e1];rfl) ⟨g,b.extBut a o JK st.2⟩ fun c o hc e=>b.extBut c o (fun z=>hc (by simp[z])) e
 done:=fun s Q E st hQ=>by
  have hz:t.place.size=es.size:=by have:=D.fi;unfold SetTable.fits at this;rw[h_]at this;exact i_ this.1
  have eb:SetTable.below t.place (n8 t es.size)=es.size:=sy (la D.tb.up _) (n9 D.tb.up (by omega));have e1:es[es.size]? = Φ:=by simp
  exact sv hh st.1 st.2 D rfl (fun A' E' Q' q=>mK hb st.2 D hd (by rw[eb,e1];exact q)) fun h' k=>hQ h' s.toks fun c o hc e=>k c o (fun z=>hc (by simp[z])) e
 self:=fun _ _ _ _ st hQ=>mN st.1 hQ
theorem EK (hh:A.handled=Φ)(D:Jx ky led σ o es ep t){ps:List Nat}(hp:ps.Perm (List.range es.size))(JK:a≠it)(hnT:T≠it) :
  Walks prog w A it [it,a,T] [it] es.size (fun i v=>(ps.map fun k=>(es.getD k (0,.none)).2)[i]? = Δ v) (fun i h=>h.get? it=Δ (Mx (.ref T) i es.size a ep)/\h.get? a=Δ o/\h.get? T=Δ (OR ps)) where
 sub:=fun b hb=>by rw[o_.mp hb];exact aaF
 frame:=fun _ _ _ st k=>⟨k it (by simp) _ st.1,k a (by simp) _ st.2.1,k T (by simp) _ st.2.2⟩
 item:=fun i s Q E hi st hQ=>by
  have hl:ps.length=es.size:=by rw[hp.length_eq,aae]
  have K6:i < ps.length:=by omega
  have IQ:ps[i] < es.size:=Y_.mp (hp.mem_iff.mp (aaj K6));have e1:ps[i]? = Δ ps[i]:=x_ K6;have e2:es[ps[i]]? = Δ (es[ps[i]].1,es[ps[i]].2):=by simp[IQ]
  refine wb st.1 st.2.2 st.2.1 D rfl e1 e2 fun h' g b=>?_;exact hQ _ h' s.toks (by rw[A_,e1];simp[Array.getD,IQ]) ⟨g,b.extBut a o JK st.2.1,b.extBut T _ hnT st.2.2⟩ fun c o hc e=>b.extBut c o (fun z=>hc (by simp[z])) e
 done:=fun s Q E st hQ=>by
  have hl:ps.length=es.size:=by rw[hp.length_eq,aae]
  exact wc hh st.1 st.2.2 st.2.1 D rfl (by rw[List.getElem?_eq_none];omega) fun h' k=>hQ h' s.toks fun c o hc e=>k c o (fun z=>hc (by simp[z])) e
 self:=fun _ _ _ _ st hQ=>mN st.1 hQ
end
section
variable {prog:Ε}{w:Β}{α:Type} [DecidableEq α] [Inhabited α]{ky:Ky prog w α}{A:Ι}{E:Ψ->Α->Prop}{s:Α}{it a T:Ω}{i n ep slot:Nat}{σ:List α}{o:Obj}{es:Array (Int×Ψ)}{t:SetTable}{led:Bool}
structure Vi {prog:Ε}{w:Β}{α:Type} [DecidableEq α](ky:Ky prog w α)(A:Ι)(a:Ω)(σ:List α)(h h1:Heap)(it:Ω)(seq:List Ψ)(n:Nat)(fp:List Ω)(St:Nat->Heap->Prop):Prop where
 keep:∀b o,h.get? b=Δ o->h1.get? b=Δ o
 new:h.get? it=Φ
 pm:∃ks,Ar ky.mv seq ks/\ks.Perm σ
 ln:seq.length=n
 wk:Walks prog w A it fp [it] n (fun i v=>seq[i]? = Δ v) St
 st:St 0 h1
 fps:∀b∈fp,b=a∨h.get? b=Φ
theorem kE (h:Heap):h.get? h.objs.size=Φ:=by
 cases e:h.get? h.objs.size with
 |none=>rfl
 |some o=>exact absurd (j_ e) (aab _)
theorem qb (h:Heap)(o:Obj):h.get? (h.push o).objs.size=Φ:=by
 cases e:h.get? (h.push o).objs.size with
 |none=>rfl
 |some o'=>have:=j_ e;rw[V_]at this;exact absurd this (Nat.not_lt.mpr (Nat.le_succ _))
theorem map_range (es:Array (Int×Ψ)):(List.range es.size).map (fun k=>(es.getD k (0,.none)).2)=vals es:=by
 apply List.ext_getElem?;intro j;rw[A_,A_];by_cases h:j < es.size
 ·rw[List.getElem?_range h];simp[Array.getD,h]
 ·rw[List.getElem?_eq_none (by simp;omega)];simp[h]
theorem wg (hh:A.handled=Φ)(hS:jZ ky s.heap a (!iL w) σ){Q:Ψ->Α->Prop}(h:∀h1 d it seq n fp St,Vi ky A a σ s.heap h1 it seq n fp St->Q (.ref it) {s with heap:=h1,drawn:=d}) :
  Κ (Μ prog w) A (pyIter (.ref a)) Q E s:=by
 obtain⟨o,es,ep,t,ho,D⟩:=hS;obtain⟨ks,k1,k2⟩:=D.pm;have hT:s.TypeIs (.ref a) "set":=⟨_,ho,D.ex.1⟩
 have alt:a < s.heap.objs.size:=j_ ho;refine wpAny_pyIter_slot hT F.slot_set_iter (aah F.slot_set_iter hT oX ?_ (F.args_set_iter_1 _));show Κ _ _ (Builtin.Frozenset.sizeOf a >>= _) _ _ s;unfold Builtin.Frozenset.sizeOf;refine a_ (a_ (wpAny_setEntries_of ho D.da D.fi (e_ ?_)));have Vj:∀ {f:Ψ}{h1:Heap}{d:Drawn}{x:Ω},h1.get? x=Δ (Mx f 0 es.size a ep)->Shared.TypeIs {s with heap:=h1,drawn:=d} (.ref x) "set_iterator":=fun e=>⟨_,e,rfl⟩
 show Κ _ _ (setDrawn a >>= _) _ _ s;unfold setDrawn;refine a_ (a_ (wpAny_setState_of ho D.da D.fi ?_));dsimp only;refine a_ (md (e_ ?_));cases hb:iL w with
 |true=>
  show Κ _ _ (if(!Θ&&_)=Θ then _ else _) _ _ _;rw[Bool.not_true,Bool.false_and,d_ B_];refine a_ (e_ (a_ (wpAny_setEpoch_of ho D.da D.fi (a_ (aaw ?_ (by size_fits))))));obtain⟨KN,k3,k4⟩:=kC ((kD (w.params.setOrder a ep) es).map (·.2)) k1;have hl:((pickOrder (w.params.setOrder a ep) es).toList.map (·.2)).length=es.size:=by rw[g_,(kD _ es).length_eq,T_]
  have W:=EI (A:=A) (it:=s.heap.objs.size) hh hb D (m_ alt)
  exact e_ ⟨_,rfl,"set_iterator",_,Vj (d:=s.drawn) (z_ _ rfl),hJ.lookup,h _ s.drawn s.heap.objs.size _ _ _ _
   ⟨fun b o e=>l_ _ e,kE _,⟨KN,k3,k4.trans k2⟩,hl,W,⟨z_ _ rfl,l_ _ ho⟩,fun b hb=>by
    rcases k_.mp hb with e|hb
    ·rw[e];exact .inr (kE _)
    ·exact .inl (o_.mp hb)⟩⟩
 |false=>
  cases hd:(!t.plain&&decide (es.size > 1)) with
  |false=>
   show Κ _ _ (if(!Ξ&&(!t.plain&&decide (es.size > 1)))=Θ then _ else _) _ _ _;rw[hd,Bool.and_false,d_ B_];refine a_ (e_ (a_ (wpAny_setEpoch_of ho D.da D.fi (a_ (aaw ?_ (by size_fits))))));have hl:(vals es).length=es.size:=by rw[g_,T_]
   have W:=EJ (A:=A) (it:=s.heap.objs.size) hh hb D hd (m_ alt)
   exact e_ ⟨_,rfl,"set_iterator",_,Vj (d:=s.drawn) (z_ _ rfl),hJ.lookup,h _ s.drawn s.heap.objs.size _ _ _ _
    ⟨fun b o e=>l_ _ e,kE _,⟨ks,k1,k2⟩,hl,W,⟨z_ _ rfl,l_ _ ho⟩,fun b hb=>by
     rcases k_.mp hb with e|hb
     ·rw[e];exact .inr (kE _)
     ·exact .inl (o_.mp hb)⟩⟩
  |true=>
   show Κ _ _ (if(!Ξ&&(!t.plain&&decide (es.size > 1)))=Θ then _ else _) _ _ _;rw[hd,Bool.not_false,Bool.and_self,f_ rfl];have hz:=fits_of_scanBound D.sb;refine a_ (zr _ _ _ aae fun ps d hp=>?_);have Vk:ps.length=es.size:=by rw[hp.length_eq,aae]
   have Yp:(s.heap.push (OR ps)).get? a=Δ o:=l_ _ ho;refine a_ (wpAny_newTuple (a_ (wpAny_setEpoch_of Yp D.da D.fi (a_ (aaw ?_ (by size_fits))))) (by rw[g_,Vk];exact hz));have pv:(ps.map fun k=>(es.getD k (0,.none)).2).Perm (vals es):=by rw[<- map_range];exact hp.map _
   obtain⟨KN,k3,k4⟩:=kC pv k1;have hl:(ps.map fun k=>(es.getD k (0,.none)).2).length=es.size:=by rw[g_,Vk]
   have hsz:(s.heap.push (OR ps)).objs.size=s.heap.objs.size+1:=V_ ..;have W:=EK (A:=A) (T:=s.heap.objs.size) (it:=(s.heap.push (OR ps)).objs.size) hh D hp (by rw[hsz];exact m_ (Nat.lt_succ_of_lt alt)) (by rw[hsz];exact m_ (Nat.lt_succ_self _))
   exact e_ ⟨_,rfl,"set_iterator",_,Vj (d:=d) (z_ _ rfl),hJ.lookup,h _ d (s.heap.push (OR ps)).objs.size _ _ _ _
    ⟨fun b o e=>l_ _ (l_ _ e),qb _ _,⟨KN,k3,k4.trans k2⟩,hl,W,
     ⟨z_ _ rfl,l_ _ Yp,l_ _ (z_ _ rfl)⟩,fun b hb=>by
     rcases k_.mp hb with e|hb
     ·rw[e];exact .inr (qb _ _)
     ·rcases k_.mp hb with e|hb
      ·exact .inl e
      ·rw[o_.mp hb];exact .inr (kE _)⟩⟩
end
section
variable {prog:Ε}{w:Β}{α:Type} [DecidableEq α] [Inhabited α]{ky:Ky prog w α}{A:Ι}{E:Ψ->Α->Prop}{s:Α}{a:Ω}{σ:List α}
theorem wj (hT:s.TypeIs (.ref a) "set") (h:Q Ξ s):Κ (Μ prog w) A (Builtin.List.listLengthHint (.ref a)) Q E s:=by
 unfold Builtin.List.listLengthHint;refine a_ (wpAny_specialOf hT PySem.F.slot_set_len.lookup ?_);generalize Mi:("set.__len__" : String)=U2
 wp_delta
 rw[show splitId U2=Δ ("set","__len__") from by subst Mi;decide +kernel];subst Mi;refine a_ (wpAny_isInstance (T:="set") (b:=Θ) hT (by rw[isSubtype_type];kernel_rfl) (wpAny_ite_split (fun z=>absurd z (by decide)) fun _=>wpAny_ite_split (fun _=>?_) fun z=>absurd (by decide +kernel) z));exact a_ (wpAny_typeOf hT (e_ h))
theorem Cw (h:ItemsOf (fun i v=>seq[i]? = Δ v) acc seq.length):acc.toList=seq:=by
 apply List.ext_getElem?;intro j;rw[aap];by_cases hj:j < acc.size
 ·have e:acc[j]? = Δ acc[j]:=by simp[hj]
  rw[e,h.2 j _ e]
 ·have h1:acc[j]? = Φ:=by simp;omega
  rw[h1,List.getElem?_eq_none (by rw[<- h.1];omega)]
theorem zt {R:Result->Α->Prop}(hh:A.handled=Φ)(hS:jZ ky s.heap a (!iL w) σ)(S:Ω)(Yq:S≠a)(res:Ψ)(c0:Nat)(hg:s.heap.get? S=Δ {cls:=.type "list",data:=.seq #[] c0}) (hn:σ.length<=Ζ)
  (hR:∀h' tk d acc c,(∀b o,b≠S->s.heap.get? b=Δ o->h'.get? b=Δ o)->h'.get? S=Δ {cls:=.type "list",dict:=Φ,data:=.seq acc c,slots:=#[]}->(∃ks,Ar ky.mv acc.toList ks/\ks.Perm σ)->R (.ok (.ret res)) {s with heap:=h',toks:=tk,drawn:=d}) :
  Κ (Μ prog w) A.in1 (Χ (.ref S) (.ref a) res)
   (fun fin s'=>match fin with|.done f=>R (.ok f) s'|.again c'=>c'.quiet=Θ/\codeAny (Μ prog w) A c' R s') (fun e s'=>R (.error e) s') s:=by
 have hT:s.TypeIs (.ref a) "set":=by obtain⟨o,es,ep,t,ho,D⟩:=hS;exact⟨o,ho,D.ex.1⟩
 unfold Χ;refine a_ (wpAny_typeOf (T:="set") hT ?_);have h1:Builtin.List.listSameRef (.ref S) (.ref a)=Ξ:=by simp[Builtin.List.listSameRef,Yq]
 rw[d_ (by rw[h1];decide)];refine a_ (wg (A:=A.in1) hh hS fun h1 d it seq n fp St C=>?_);have Yr:S∉fp:=fun z=>(C.fps S z).elim Yq fun e=>by rw[hg]at e;cases e
 have hSi:S≠it:=fun z=>by rw[z,C.new]at hg;cases hg
 obtain⟨ks,q1,q2⟩:=C.pm;have hln:n<=Ζ:=by rw[<- C.ln,Ar.length q1,q2.length_eq];exact hn
 have key:∀(h:Heap) (c1 tk:Nat),St 0 h->(∀b o,b≠S->s.heap.get? b=Δ o->h.get? b=Δ o)->h.get? S=Δ {cls:=.type "list",data:=.seq #[] c1}->
   codeAny (Μ prog w) A (.builtin "list.extend.loop" ⟨[.ref S,.ref it,res],[]⟩) R {s with heap:=h,toks:=tk,drawn:=d}:=by
  intro h c1 tk Jj hk Vd;refine codeAny_extend_loopS C.wk.toS hln S Yr res n 0 _ #[] c1 rfl (Z_ _) Jj Vd (ItemsOf.nil _) fun s' acc c hm JW I0=>?_;rw[Moved.eq_with hm];rw[<- C.ln]at I0;refine hR s'.heap s'.toks d acc c (fun b o hb e=>hm.heap b o (fun z=>?_) (hk b o hb e)) JW ⟨ks,by rw[Cw I0];exact q1,q2⟩;rcases k_.mp z with z|z
  ·exact hb z
  ·rw[o_.mp z,C.new]at e;cases e
 have hT1:Shared.TypeIs {s with heap:=h1,drawn:=d} (.ref a) "set":=by obtain⟨o,es,ep,t,ho,D⟩:=hS;exact⟨o,C.keep _ _ ho,D.ex.1⟩
 have g1:=C.keep _ _ hg;refine a_ (N_ (wj hT1 (wpAny_ite_split (fun _=>?_) fun _=>e_ ⟨plainId_quiet PySem.F.plain_extend_loop _,key _ c0 _ C.st (fun b o _ e=>C.keep b o e) g1⟩)));refine a_ (wpAny_rule (a_ ?_));show Κ _ _ (updateSeq S (·.push .none) >>= fun _=>updateSeq S (·.pop)) _ _ _;have g2:=aav (ι (·.push Value.none)) g1 rfl;have g3:=aav (ι (·.pop)) g2 rfl;refine a_ (wpAny_updateSeq g1 rfl (wpAny_updateSeq (hz:=by seq_fits) g2 rfl (e_ ⟨plainId_quiet PySem.F.plain_extend_loop _,key _ _ _ ?_ (fun b o hb e=>?_) g3⟩)))
 ·refine C.wk.frame 0 _ _ C.st fun b hb o e=>?_;have Q7:S≠b:=fun z=>Yr (z ▸ hb);exact(aan _ _ Q7).trans ((aan _ _ Q7).trans e)
 ·have Q7:S≠b:=fun z=>hb z.symm;exact(aan _ _ Q7).trans ((aan _ _ Q7).trans (C.keep b o e))
end
section
variable {prog:Ε}{w:Β}{α:Type} [DecidableEq α] [Inhabited α]{ky:Ky prog w α}{A:Ι}{E:Ψ->Α->Prop}{s:Α}{a:Ω}{σ:List α}
theorem qc {Q:List Ψ->Α->Prop}(hh:A.handled=Φ)(hS:jZ ky s.heap a (!iL w) σ)(hn:σ.length<=Ζ)
  (h:∀h' tk d (acc:Array Ψ),s.heap.objs.size < h'.objs.size->(∀b o,s.heap.get? b=Δ o->h'.get? b=Δ o)->(∃ks,Ar ky.mv acc.toList ks/\ks.Perm σ)->Q acc.toList {s with heap:=h',toks:=tk,drawn:=d}):Κ (Μ prog w) A (collect (.ref a)) Q E s:=by
 have IQ:a < s.heap.objs.size:=by obtain⟨o,es,ep,t,ho,D⟩:=hS;exact j_ ho
 unfold collect;refine a_ (wpAny_runValue (codeAny_builtin entry_proto_collect' ?_));rw[aaG PySem.F.plain_proto_collect _];refine(show Κ _ A.in1 (newList [] >>= fun l=>again (.builtin "list.__iadd__" ⟨[l,.ref a],[]⟩)) _ _ s from a_ (aaw (e_ ⟨plainId_quiet PySem.F.plain_list_iadd _,codeAny_builtin entry_list_iadd' ?_⟩)));rw[aaG PySem.F.plain_list_iadd _];have g1:(s.heap.push {cls:=.type "list",data:=.seq ([]:List Ψ).toArray}).get? s.heap.objs.size=Δ {cls:=.type "list",data:=.seq #[]}:=z_ _ rfl;show Κ _ A.in1 (Χ (.ref s.heap.objs.size) (.ref a) (.ref s.heap.objs.size)) _ _ _;have key:=zt (A:=A) (s:={s with heap:=s.heap.push {cls:=.type "list",data:=.seq ([]:List Ψ).toArray}})
  (R:=fun(q:Result) (s':Α)=>∃(h':Heap) (tk:Nat) (d:Drawn) (acc:Array Ψ) (c:Nat),q=.ok (.ret (.ref s.heap.objs.size))/\s' = {s with heap:=h',toks:=tk,drawn:=d}/\
   (∀b o,s.heap.get? b=Δ o->h'.get? b=Δ o)/\h'.get? s.heap.objs.size=Δ {cls:=.type "list",dict:=Φ,data:=.seq acc c,slots:=#[]}/\∃ks,Ar ky.mv acc.toList ks/\ks.Perm σ)
  hh (hS.moved fun o e=>l_ _ e) s.heap.objs.size (U_ IQ) (.ref s.heap.objs.size) 0 g1 hn
  (fun h' tk d acc c hk JW I0=>⟨h',tk,d,acc,c,rfl,rfl,fun b o e=>hk b o (m_ (j_ e)) (l_ _ e),JW,I0⟩)
 refine wpAny_mono key (fun fin s' x=>?_) fun e s' x=>?_
 ·cases fin with
  |done f=>obtain⟨h',tk,d,acc,c,e,rfl,hk,JW,I0⟩:=x;cases e;exact show Κ _ A (load s.heap.objs.size >>= _) _ _ _ from a_ (wpAny_load JW (e_ (h h' tk d acc (j_ JW) hk I0)))
  |again c1=>refine⟨x.1,codeAny_mono x.2 fun q s2 y=>?_⟩;obtain⟨h',tk,d,acc,c,rfl,rfl,hk,JW,I0⟩:=y;exact show Κ _ A (load s.heap.objs.size >>= _) _ _ _ from a_ (wpAny_load JW (e_ (h h' tk d acc (j_ JW) hk I0)))
 ·obtain⟨_,_,_,_,_,e',_⟩:=x;cases e'
theorem rl {Q:Ψ->Α->Prop}(hh:A.handled=Φ)(hS:jZ ky s.heap a (!iL w) σ)(Nu:σ.length < 64){Od:List α->Prop}(srt:∀ {A:Ι}{E:Ψ->Α->Prop}{s:Α}{a:Ω}{vs:List Ψ}{ss:List α}{n:Nat}{P:Fin->Α->Prop},s.heap.get? a=Δ (seqObj "list" vs.toArray n)->Ar ky.mv vs ss->vs.length < 64->
   (∀(out:Array Ψ) (Nv:List α),Ar ky.mv out.toList Nv->Nv.Perm ss->Od Nv->P (.done (.ret .none)) {s with heap:=sortedHeap s.heap a vs out})->Κ (Μ prog w) A (Builtin.«list.sort» ⟨[.ref a],[]⟩) P E s)
  (h:∀h' tk d D (out:Array Ψ) c P0,(∀b o,s.heap.get? b=Δ o->h'.get? b=Δ o)->s.heap.objs.size<=D->h'.get? D=Δ (seqObj "list" out c)->Ar ky.mv out.toList P0->P0.Perm σ->Od P0->Q (.ref D) {s with heap:=h',toks:=tk,drawn:=d}) :
  Κ (Μ prog w) A (call (.builtin "sorted") [.ref a]) Q E s:=by
 have hz:σ.length<=Ζ:=by rw[sizeLine_eq];omega
 refine Calls.call_function_entry kind_sorted plain_sorted entry_sorted (args_sorted1 _) ?_;unfold Builtin.«sorted»;refine a_ (m:=checkCount "sorted" 1 1 _) (e_ (a_ (qc (A:=A.in1) hh hS hz fun h' tk d acc IQ hk I0=>?_)));obtain⟨ks,k1,k2⟩:=I0;have hl:acc.toList.length=σ.length:=by rw[Ar.length k1,k2.length_eq]
 refine a_ (wpAny_newList ?_ (by rw[hl];exact hz));have gL:(h'.push (seqObj "list" acc.toList.toArray 0)).get? h'.objs.size=Δ (seqObj "list" acc.toList.toArray 0):=z_ _ rfl;have nD:s.heap.get? h'.objs.size=Φ:=by
  cases e:s.heap.get? h'.objs.size with
  |none=>rfl
  |some o=>exact absurd (j_ (hk _ _ e)) (aab _)
 refine a_ (N_ (aah (s:={s with heap:=h'.push (seqObj "list" acc.toList.toArray 0),toks:=tk,drawn:=d}) slot_list_sort ⟨_,gL,rfl⟩ entry_list_sort (srt (s:={s with heap:=h'.push (seqObj "list" acc.toList.toArray 0),toks:=tk,drawn:=d}) gL k1 (by rw[hl];exact Nu) fun out P0 a1 a2 a3=>⟨_,rfl,?_⟩) (args_list_sort _)));obtain⟨c,hc⟩:=sortedHeap_at (out:=out) gL;refine e_ ⟨_,rfl,h _ tk d _ out c P0 (fun b o e=>?_) (Nat.le_of_lt IQ) hc a1 (a2.trans k2) a3⟩;have e1:=l_ (seqObj "list" acc.toList.toArray 0) (hk b o e);rw[sortedHeap_old (fun z=>by rw[z,nD]at e;cases e) (j_ e1)];exact e1
end
section
variable {prog:Ε}{w:Β}{A:Ι}{E:Ψ->Α->Prop}{s:Α}
instance:Inhabited Str:=⟨⟨#[]⟩⟩
noncomputable def Q8 (prog:Ε)(w:Β):Ky prog w Int:=⟨intKind prog w,fun n t=>.int n t,fun n t=>intKind_is prog w n t,fun _ _=>rfl⟩
theorem Cy:IntsAre vs ns↔Ar (Q8 prog w).mv vs ns:=by
 constructor
 ·intro h
  induction h with
  |nil=>exact .nil
  |cons n t _ ih=>exact .cons n t ih
 ·intro h
  induction h with
  |nil=>exact .nil
  |cons n t _ ih=>exact .cons n t ih
theorem GO (ho:s.heap.get? a=Δ (seqObj "list" vs.toArray n)) (hS:Ar (Q8 prog w).mv vs ss) (Nu:vs.length < 64)
  (h:∀(out:Array Ψ) (Nv:List Int),Ar (Q8 prog w).mv out.toList Nv->Nv.Perm ss->Nv.Pairwise (·<=·)->P (.done (.ret .none)) {s with heap:=sortedHeap s.heap a vs out}):Κ (Μ prog w) A (Builtin.«list.sort» ⟨[.ref a],[]⟩) P E s:=
 list_sort_tree ho (Cy.mpr hS) Nu fun out Nv a1 a2 a3=>h out Nv (Cy.mp a1) a2 a3
end
end L2.Se
namespace L2.Sv
open PySem PyProof.Rows
noncomputable def Vl (σ:List Str)(v:Str):List Str:=if σ.any (· == v) then σ else σ++[v]
theorem Cz : @step_dedup Str instBEqOfDecidableEq=Vl:=by
 funext σ v;unfold step_dedup Vl;have e:(σ.any fun x=>@BEq.beq Str instBEqOfDecidableEq x v)=σ.any (· == v):=by congr 1
 rw[e]
theorem Jv (l:List Str)(σ:List Str):(l.foldl Vl σ).length<=σ.length+l.length:=by rw[<- Cz];exact Se.Jv l σ
end L2.Sv
namespace L2
open PySem PySem.Spec PyProof.Rows PySem.SeqAt
noncomputable def dd (ns:List Int):List Int:=ns.foldl step_dedup []
theorem wo (ns:List Int):(dd ns).length<=ns.length:=by have:=Se.Jv ns [];simpa[dd] using this
section
variable {X:Cx}
noncomputable def XS:HO:=.ext fun _=>True
def EL (X:Cx)(σ:List Int)(o:Obj):Prop:=∃es ep t,Se.Jx (Se.Q8 X.prog X.w) (!Se.iL X.w) σ o es ep t
theorem uK (hc:X.calm=Θ):ji X (.type "set") (fun xs H Q=>∃(p:Ω) (ns:List Int),xs=[.ref p]/\Jo X.K H p (ns.map V.int)/\ns.length < 64/\∀a o,H a=Φ->EL X (dd ns) o->Q (.ref a) (upd H a (.IH o XS))):=by intro pins s σ H xs us Q I r h;obtain⟨p,ns,rfl,hq,Nu,q⟩:=h;obtain⟨u,rfl,rx⟩:=vals1 r;cases rx;obtain⟨its,rv,pl,hz⟩:=I.list hq;have hi:=intsAre_of rv;have hlen:=rv.length;rw[g_]at hlen;refine Se.v9 (ky:=Se.Q8 X.prog X.w) (I.ok.hd hc) pl.isList (Se.Cy.mp (by simpa using hi)) (by rw[E_];unfold scanBound;omega) fun h' tk hS k=>?_;obtain⟨o,es,ep,t,ho,D⟩:=hS;exact⟨.ref _,_,I.laid (t':=tk) (fun b u e=>k b u (j_ e) e) (n_ _) (show iz X.prog X.w _ _ _ (.IH o XS) from⟨ho,trivial,⟨_,ho⟩,fun _ _ _ _=>trivial⟩),rfl,q _ o (I.IF.fresh (n_ _)) ⟨es,ep,t,D⟩⟩
theorem Inv.Nw (I:Inv X pins σ H s)(d:Drawn):Inv X pins σ H {s with drawn:=d}:=⟨I.ok,I.os,I.bare,I.base,I.loc,I.cell,I.free,I.Jz,I.pin,I.IF,I.len⟩
theorem oY (hc:X.calm=Θ):ji X (.builtin "sorted") (fun xs H Q=>∃(p:Ω) (o:Obj) (ns:List Int),xs=[.ref p]/\H p=Δ (.IH o XS)/\EL X ns o/\ns.length < 64/\∀l,H l=Φ->Q (.ref l) (upd H l (.lst ((PySem.W.sortI ns).map V.int)))):=by
 intro pins s σ H xs us Q I r h;obtain⟨p,o,ns,rfl,hp,⟨es,ep,t,D⟩,Nu,q⟩:=h;obtain⟨u,rfl,rx⟩:=vals1 r;cases rx;have ho:s.heap.get? p=Δ o:=(I.IF p _ hp).1;refine Se.rl (I.ok.hd hc) ⟨o,es,ep,t,ho,D⟩ Nu Se.GO fun h' tk d Dn out c P0 k hD e a1 a2 a3=>?_;rw[PySem.W.eq_sortI a2 a3]at a1;have NZ:Vals ((PySem.W.sortI ns).map V.int) out.toList:=by
  generalize PySem.W.sortI ns=ms at a1;generalize out.toList=vs at a1
  induction a1 with
  |nil=>exact .nil
  |cons n t _ ih=>exact .cons ⟨t,rfl⟩ ih
 have J:=I.laid (t':=tk) (o:=.lst ((PySem.W.sortI ns).map V.int)) k hD (show iz X.prog X.w _ _ _ (.lst _) from⟨by rw[g_,(PySem.W.sortI_perm ns).length_eq,sizeLine_eq];omega,out.toList,c,NZ,by simpa using e⟩);exact⟨.ref _,_,J.Nw d,rfl,q _ (I.IF.fresh hD)⟩
end
section
variable {X:Cx}
def GP:V->List V->Hp->VK->Prop:=fun x vs H Q=>∃l xs i y,x=.ref l/\vs=[.int i,y]/\H l=Δ (.lst xs)/\0<=i/\i.toNat<=xs.length/\xs.length < Ζ/\Q .IB (upd H l (.lst (xs.take i.toNat++y::xs.drop i.toNat)))
theorem CA:UK X "list.insert" GP:=by
 intro pins s σ H x vs v us Q I rx rv h;obtain⟨l,xs,i,y,rfl,rfl,hH,h0,hi,hz,q⟩:=h;cases rx;have hs:Ζ=16777216:=sizeLine_eq;cases rv with
 |cons r1 NZ=>
  obtain⟨t,rfl⟩:=r1;obtain⟨u,rfl,ru⟩:=Vals.one NZ;obtain⟨z,its,n,r,hl,e⟩:=I.OB hH;refine call_meets F.slot_list_insert ⟨_,e,rfl⟩ F.entry_list_insert (F.args_list_insert_3 _ _ _) (AutoSeq1.list_insert_list_int_val_1 l its.toArray n i t u (by rw[fitsIndex_both (by omega) (by omega)];decide) (by rw[E_];omega)) ⟨e,?_⟩;refine⟨.IB,_,I.Oz (its':=its.take i.toNat++u::its.drop i.toNat) hH e ?_ ((r.take i.toNat).append (.cons ru (r.drop i.toNat))) ?_,rfl,q⟩
  ·have h1:¬i < 0:=by omega
   have h2:min i.toNat its.toArray.size=i.toNat:=by rw[E_];omega
   simp only[h1,if_false,h2];apply Array.ext';simp;rw[List.take_of_length_le (by rw[aam];omega)]
  ·rw[w_,List.length_cons,O_,aam];omega
end
end L2
namespace L2.Sx
open PySem PyProof.Rows
end L2.Sx
namespace L2
open PySem PySem.Spec PyProof.Rows
end L2
namespace L2.Dp
open PySem PyProof.Rows
end L2.Dp
namespace L2
open PySem PySem.Spec PyProof.Rows
open PySem.SeqAt
section
variable {X:Cx}
theorem Inv.IE (I:Inv X pins σ H s)(e:Rd H p (.dK kvs)):kvs.length<=Ζ/\(p == sysModules)=Ξ/\∃vs o es ep,KV kvs vs/\s.heap.get? p=Δ o/\o.data=.dict es ep/\s.heap.DictAt (iJ X.prog X.w) p vs ep:=by obtain⟨h1,h2,vs,kv,o,es,ep,ho,c,hd,r⟩:=e.ok I.IF;exact⟨h1,h2,vs,o,es,ep,kv,ho,hd,o,es,ho,c,hd,r⟩
theorem KV.at:∀ {kvs:List (κ×V)}{vs:List (κ×Ψ)} (r:KV kvs vs) {i:Nat}{q:κ×Ψ},vs[i]? = Δ q->∃v,kvs[i]? = Δ (q.1,v)/\RelV v q.2
 |_,_,.nil,_,_,h=>by simp at h
 | (k,v)::_,q'::_,.cons r _,0,q,h=>by cases h;obtain⟨r1,r2⟩:=r;have r1:k=q'.1:=r1;subst r1;exact⟨v,rfl,r2⟩
 |_,_,.cons _ r,i+1,q,h=>KV.at r (i:=i) (by simpa using h)
theorem KV.len (r:KV kvs vs):kvs.length=vs.length:=Paired.length r
theorem CB (h:(iJ P w).is k u=Θ):RelV (kV k) u:=by
 rcases iC h with⟨i,t,rfl,rfl⟩|⟨x,t,rfl,rfl⟩
 ·exact⟨t,rfl⟩
 ·exact⟨t,rfl⟩
end
noncomputable def Vm (K:Frag)(l:Ω):It:=
 ⟨fun i H=>∃xs x,Jo K H l xs/\xs[i]? = Δ x,
  fun i H v H'=>∃T x,v=.ref T/\H T=Φ/\H'=upd H T (.tup [.int i,x])/\∀xs,Jo K H l xs->xs[i]? = Δ x,
  fun i H=>∃xs,Jo K H l xs/\xs.length<=i⟩
theorem uL {P:Ε}{w:Β}{K:Frag}{es:List Expr}{c:Nat}{pos:Pos}(e it l:Ω)(JK:e≠it) :
  Turn P w K (.Tuple es c pos) (Vm K l) [e,it] e (fun n h=>(∃old,IsEnum h e it n old)/\h.IsListIter it l n) where
 mem:=by simp
 obj:=fun n h st b hb=>by
  obtain⟨⟨old,he⟩,ci⟩:=st;simp only[k_,S_,or_false]at hb;rcases hb with rfl|rfl
  ·exact⟨_,he,fun v z=>by cases z⟩
  ·obtain⟨o,e,c,d⟩:=ci;exact⟨o,e,fun v z=>by rw[d]at z;cases z⟩
 keep:=fun n h h' st k=>by obtain⟨⟨old,he⟩,ci⟩:=st;exact⟨⟨old,k e (by simp) _ he⟩,ci.at fun o q=>k it (by simp) o q⟩
 item:=by
  intro X hP hw hK hc n pins s σ H E I hf st hg;subst hP hw hK;obtain⟨⟨old,he⟩,ci⟩:=st;obtain⟨xs,x,hq,hx⟩:=hg;obtain⟨its,rv,p,hz⟩:=I.list hq;obtain⟨u,hu,ru⟩:=rv.get hx;refine wpAny_pyNext_enum_item he ci p.isList (x:=u) (by simpa using hu) JK fun h1 a1 a2 a3 a4 hk=>?_;refine⟨_,rfl,?_⟩;have le:e < s.heap.objs.size:=j_ he;have hTe:s.heap.objs.size≠e:=U_ le;refine wpAny_letOwnedTupleGo_enum (s:={s with heap:=h1,toks:=s.toks+1}) a1 fun h2 he2 Kx=>?_;have kk:∀b o,b∉[e,it]->s.heap.get? b=Δ o->h2.get? b=Δ o:=fun b o hb q=>by simp only[k_,S_,or_false,not_or]at hb;exact Kx.extBut _ _ hb.1 (hk b o hb.1 hb.2 q)
  have hT:=Kx.extBut _ _ hTe a3;have I2:Inv X pins σ (upd H s.heap.objs.size (.tup [.int n,x])) {s with heap:=h2,toks:=s.toks+1}:=I.Mv (t':=s.toks+1) kk hf (n_ _) ⟨by show 2<=Ζ;decide,[.int n s.toks,u],.cons ⟨_,rfl⟩ (.cons ru .nil),⟨_,hT,rfl,_,rfl⟩⟩;refine⟨.ref s.heap.objs.size,_,I2,rfl,⟨_,x,rfl,I.IF.fresh (n_ _),rfl,fun PY g1=>by rw[I.Jf g1 hq];exact hx⟩,⟨⟨_,by rw[Int.natCast_succ];exact he2⟩,a2.at fun o q=>Kx.extBut _ _ JK.symm q⟩,fun b hb=>?_⟩;have KY:b < s.heap.objs.size:=by
   simp only[k_,S_,or_false]at hb;rcases hb with rfl|rfl
   ·exact le
   ·obtain⟨o,q,_⟩:=ci;exact j_ q
  rw[gX (m_ KY)];exact(hf b hb).1
 done:=by
  intro X hP hw hK hc n pins s σ H E I hf st hg;subst hP hw hK;obtain⟨⟨old,he⟩,ci⟩:=st;obtain⟨xs,hq,hx⟩:=hg;obtain⟨its,rv,p,hz⟩:=I.list hq;have l1:=rv.length;refine wpAny_pyNext_enum_end (I.ok.hd hc) he ci p.isList (Array.getElem?_eq_none (by simp;omega)) fun h1 hk=>⟨rfl,I.turns (t':=s.toks) (ch:=[e,it]) (fun b o hb q=>?_) hf⟩
  simp only[k_,S_,or_false,not_or]at hb;exact hk b o hb.2 q
 self:=fun _ _ _ _ _ st h=>by obtain⟨⟨old,he⟩,_⟩:=st;exact wpAny_pyIter_enum he h
def GQ (K:Frag)(ta:TA):TI:=fun σ H R=>ta σ H fun vs H1=>∃l xs,vs=[.ref l]/\Jo K H1 l xs/\R (Vm K l) H1
theorem zu (hg:Gl X "enumerate") (hm:X.mg "enumerate" = Φ) (ha:PA X [a] ta) (hs:Ν [a] X.env=[(Ξ,eval a X.env)]) :
  PI X (.Tuple es c tp) (.Call (.Name "enumerate" p) [a] [] pos) (GQ X.K ta):=by
 intro pins s σ H R I h;refine Call_ (jn I hg hm boot_enumerate (aao (IG (ha pos pins s σ H _ I h) fun us s1 ⟨vs,H1,I1,r1,q1⟩=>?_) hs rfl));obtain⟨l,xs,e,g1,q⟩:=q1;subst e;obtain⟨u,rfl,r⟩:=vals1 r1;cases r;obtain⟨K5,L7,p1,hz⟩:=I1.list g1;refine call_enumerate_list p1.isList fun h2 b1 b2 b3 b4=>?_;refine wpAny_pyIter_enum (s:={s1 with heap:=h2}) b1 ?_;refine⟨s1.heap.objs.size+1,[s1.heap.objs.size+1,s1.heap.objs.size],_,_,H1,rfl,I1.kept (t':=s1.toks) b4,uL _ _ l (Nat.succ_ne_self _),⟨⟨_,b1⟩,b2⟩,fun b hb=>?_,q⟩;have KY:s1.heap.objs.size<=b:=by
  simp only[k_,S_,or_false]at hb;rcases hb with rfl|rfl
  ·exact aaq _ _
  ·exact n_ _
 exact I1.Ll KY (I1.IF.fresh KY)
noncomputable def ki (y:Int):List Int->Option Nat
 |[]=>Φ
 |x::r=>if x=y then Δ 0 else(ki y r).map (· + 1)
theorem me:∀ {ns:List Int}{j:Nat},ki y ns=Δ j->ns[j]? = Δ y/\∀i,i < j->∃z,ns[i]? = Δ z/\z≠y
 |x::r,j,h=>by
  unfold ki at h;by_cases e:x=y
  ·rw[f_ e]at h;cases h;exact⟨congrArg Δ e,fun i hi=>absurd hi (Nat.not_lt_zero _)⟩
  ·rw[d_ e]at h;obtain⟨k,hk,rfl⟩:=aag.mp h;obtain⟨h1,h2⟩:=me hk
   exact⟨h1,fun i hi=>match i,hi with
    |0,_=>⟨x,rfl,e⟩
    |i+1,hi=>h2 i (by omega)⟩
 |[],j,h=>by cases h
noncomputable def Ys (y:Int):Ψ->Bool
 |.int z _=>z == y
 |_=>Ξ
theorem wq {ns:List Int}:∀ {us:List Ψ},Vals (ns.map V.int) us->∀(i:Nat) (v:Ψ),us[i]? = Δ v->∃t,v=Value.int (ns.getD i 0) t:=by
 induction ns with
 |nil=>intro us h i v hv;cases h;cases hv
 |cons n ns ih=>
  intro us h i v hv;cases h with
  |cons r rr=>
   cases i with
   |zero=>cases hv;exact r
   |succ i=>exact ih rr i v hv
section
variable {X:Cx}
theorem sA:∀ {vs:List Ψ}{kvs:List (Key×V)},vs.length=kvs.length->(∀(i:Nat) (v:Ψ),vs[i]? = Δ v->∃k x,kvs[i]? = Δ (k,x)/\RelV (kV k) v)->Vals (kvs.map fun q=>kV q.1) vs
 |[],[],_,_=>.nil
 |v::vs,q::kvs,hl,h=>by obtain⟨k,x,e,r⟩:=h 0 v rfl;cases e;exact .cons r (sA (by simpa using hl) fun i u hu=>h (i+1) u hu)
 |[],_::_,hl,_=>by simp at hl
 |_::_,[],hl,_=>by simp at hl
theorem mO (hc:X.calm=Θ):ji X (.type "list") (fun xs H Q=>∃(p:Ω) (kvs:List (Key×V)),xs=[.ref p]/\Rd H p (.dK kvs)/\∀l,H l=Φ->Q (.ref l) (upd H l (.lst (kvs.map fun q=>kV q.1)))):=by
 intro pins s σ H xs us Q I r h;obtain⟨p,kvs,rfl,hp,q⟩:=h;obtain⟨u,rfl,rx⟩:=vals1 r;cases rx;obtain⟨hz,lo,vs,o,es,ep,kv,ho,hd,hm⟩:=I.IE hp;have hv:=kv.len;refine PySem.W.kdl_call (PySem.W.kdl_dict lo) (I.ok.hd hc) hm (by rw[<- hv];exact hz) fun h' tk acc c k e I0=>?_;have rv:Vals (kvs.map fun q=>kV q.1) acc.toList:=sA (by rw[T_,I0.1];exact hv.symm) fun i v hi=>by obtain⟨k,x,e1,e2⟩:=I0.2 i v (by rw[<- aap];exact hi);obtain⟨y,e3,_⟩:=kv.at e1;exact⟨k,y,e3,CB e2⟩
 have J:=I.laid (t':=tk) (o:=.lst (kvs.map fun q=>kV q.1)) k (n_ _) (show iz X.prog X.w _ _ _ (.lst _) from⟨by rw[g_];exact hz,acc.toList,c,rv,by simpa using e⟩);exact⟨.ref _,_,J,rfl,q _ (I.IF.fresh (n_ _))⟩
theorem zv:UJ X "list.index" (fun x xs H Q=>∃(l:Ω) (ns:List Int) (y:Int) (j:Nat),x=.ref l/\Jo X.K H l (ns.map V.int)/\xs=[.int y]/\ki y ns=Δ j/\Q (.int j) H):=by
 intro pins s σ H x xs v us Q I rx rs h;obtain⟨l,ns,y,j,rfl,hq,rfl,hj,q⟩:=h;obtain⟨u,rfl,ru⟩:=vals1 rs;obtain⟨t,rfl⟩:=ru;cases rx;obtain⟨its,r',pl,hz⟩:=I.list hq;obtain⟨o,n,ho,hc,hd,hs⟩:=pl;have hl:=r'.length;rw[g_]at hl hz;obtain⟨h1,h2⟩:=me hj;have Q9:j < ns.length:=(p_.mp h1).1;have at_:∀(i:Nat) (z:Int),ns[i]? = Δ z->∃t,its[i]? = Δ (Value.int z t):=fun i z Tu=>by
  have hi:i < its.length:=by rw[<- hl];exact(p_.mp Tu).1
  obtain⟨t,e⟩:=wq r' i its[i] (x_ hi);refine⟨t,?_⟩;rw[x_ hi,e,aaa,Tu];rfl
 have Vn:∀y'∈its.toArray,EqAt X.A.in1 s y' (.int y t) (Ys y y'):=fun y' hy=>by obtain⟨i,hi,e⟩:=List.getElem_of_mem (show y'∈its from by simpa using hy);obtain⟨t',e'⟩:=wq r' i its[i] (x_ hi);rw[<- e,e'];exact EqAt.int_int _ t' y t
 have hji:j < its.toArray.size:=by rw[E_,<- hl];exact Q9
 obtain⟨tj,ej⟩:=at_ j y h1;obtain⟨oc,od,oda,MT⟩:=o;dsimp only at hc hd hs;subst hc hd hs;have hs9:Ζ=16777216:=sizeLine_eq;refine call_meets PySem.F.slot_list_index ⟨_,ho,rfl⟩ PySem.F.entry_list_index (PySem.F.args_list_index_2 _ _)
  (list_indexAt l its.toArray n Φ MT (.int y t) (Ys y) j hji (by omega) ?_ fun m hm IQ=>?_) ⟨ho,Vn,⟨.int j,H,I.tok _,⟨_,rfl⟩,q⟩⟩
 ·have:its.toArray[j]=Value.int y tj:=by have:=(p_.mp ej).2;simpa using this
  rw[this];exact beq_self_eq_true y
 ·obtain⟨z,hz1,QU⟩:=h2 m IQ;obtain⟨tm,em⟩:=at_ m z hz1;have:its.toArray[m]=Value.int z tm:=by have:=(p_.mp em).2;simpa using this
  rw[this];exact beq_eq_false_iff_ne.mpr QU
end
section
variable {X:Cx}{e:Expr}{t:TE}{p p' pos pos':Pos}
theorem sC (hc:X.calm=Θ)(g1:Gl X "list") (m1:X.mg "list" = Φ) (g2:Gl X "range") (m2:X.mg "range" = Φ) (he:PE X e t) (Jj:∀es,Ν (e::es) X.env=(Ξ,eval e X.env)::Ν es X.env) :
  PE X (.Call (.Name "list" p) [.Call (.Name "range" p') [e] [] pos'] [] pos) (fun σ H Q=>t σ H fun v H1=>∃n:Nat,v=.int n/\n<=1000/\∀q,H1 q=Φ->Q (.ref q) (upd H1 q (.lst ((List.range n).map fun k=>.int (k:Nat))))):=by
 intro pins s σ H Q I h;refine aau (jn (u:=.type "list") I g1 m1 (by decide +kernel) ?_ (by decide) (by decide));refine aao ?_ rfl rfl;show Κ _ _ (spliced ((Ξ,eval (.Call (.Name "range" p') [e] [] pos') X.env)::backTo pos (Ν [] X.env))) _ _ s;have key:Κ (Μ X.prog X.w) X.A (eval (.Call (.Name "range" p') [e] [] pos') X.env) (fun u s1=>∃s0 n H1 t1 t2 t3 tk,Inv X pins σ H1 s0/\n<=1000/\u=.ref s0.heap.objs.size/\s1 = {s0 with heap:=s0.heap.push {cls:=.type "range",data:=.fields #[.int 0 t1,.int (n:Nat) t2,.int 1 t3]},toks:=tk}/\∀q,H1 q=Φ->Q (.ref q) (upd H1 q (.lst ((List.range n).map fun k=>.int (k:Nat))))) X.xe s:=by refine aau (jn (u:=.type "range") I g2 m2 (by decide +kernel) ?_ (by decide) (by decide));refine aao ?_ (Jj []) rfl;rw[Jj []];show Κ _ _ (spliced ((Ξ,eval e X.env)::backTo pos' (Ν [] X.env))) _ _ s;refine Calls.spliced_cons (IG (he pins s σ H _ I h) fun u s1 ⟨x,H1,I1,r1,n,ex,hn,q1⟩=>?_);subst ex;obtain⟨t2,rfl⟩:=r1;refine Calls.spliced_nil ?_;exact call_range_1 ⟨s1,n,H1,_,_,_,_,I1,hn,rfl,rfl,q1⟩
 refine Calls.spliced_cons (IG key fun u s1 ⟨s0,n,H1,t1,t2,t3,tk,I1,hn,eu,es,q1⟩=>?_);subst eu es;refine Calls.spliced_nil ?_;have hsz:(s0.heap.push {cls:=.type "range",data:=.fields #[.int 0 t1,.int (n:Nat) t2,.int 1 t3]}).objs.size=s0.heap.objs.size+1:=V_ ..;refine call_list_range (s:={s0 with heap:=s0.heap.push {cls:=.type "range",data:=.fields #[.int 0 t1,.int (n:Nat) t2,.int 1 t3]},toks:=tk}) (n:=n) (show X.A.handled=Φ from I1.ok.hd hc) (IsRange.new ..) (small_one (by omega) (by omega) (by omega) (by omega)) (by rw[rangeSize_one];split<;>omega) (by omega) (fun h' Vh Jt c' kp e I0=>?_);have rv:Vals ((List.range n).map fun k=>V.int (k:Nat)) Jt.toList:=by
  have hl:Jt.toList.length=n:=by rw[T_,I0.1]
  have key:∀(m:Nat) (vs:List Ψ),vs.length<=m->∀j:Nat,(∀(i:Nat) (v:Ψ),vs[i]? = Δ v->∃t,v=.int ((j+i:Nat):Int) t)->Vals ((List.range vs.length).map fun k=>V.int ((j+k:Nat):Int)) vs:=by
   intro m
   induction m with
   |zero=>intro vs hv j _;have:vs=[]:=List.length_eq_zero_iff.mp (by omega);subst this;exact .nil
   |succ m ih=>
    intro vs hv j hh;cases vs with
    |nil=>exact .nil
    |cons v vs=>
     have h1:=ih vs (by simpa using hv) (j+1) fun i w hw=>by obtain⟨t,e⟩:=hh (i+1) w hw;exact⟨t,by rw[e];congr 2;omega⟩
     have e2:((List.range (v::vs).length).map fun k=>V.int ((j+k:Nat):Int))=V.int ((j:Nat):Int)::((List.range vs.length).map fun k=>V.int ((j+1+k:Nat):Int)):=by rw[List.length_cons,List.range_succ_eq_map,b_,y_];congr 1;exact X_ fun k _=>by show V.int ((j+(k+1):Nat):Int)=_;congr 2;omega
     rw[e2];obtain⟨t,e⟩:=hh 0 v rfl;exact .cons ⟨t,e⟩ h1
  have:=key n Jt.toList (by omega) 0 fun i v hi=>by obtain⟨t,e⟩:=I0.2 i v (by rw[<- aap];exact hi);exact⟨t,by rw[e];congr 1;omega⟩
  rw[hl]at this;simpa using this
 exact⟨.ref _,_,I1.laid (t':=Vh) (o:=.lst ((List.range n).map fun k=>.int (k:Nat))) (fun b o e=>kp b o (l_ _ e)) (by show s0.heap.objs.size<=(s0.heap.push _).objs.size;rw[hsz];exact Nat.le_succ _) (show iz X.prog X.w _ h' _ (.lst _) from⟨by rw[g_,aae];have:=sizeLine_eq;omega,Jt.toList,c',rv,by simpa using e⟩),rfl,q1 _ (I1.IF.fresh (by show s0.heap.objs.size<=(s0.heap.push _).objs.size;rw[hsz];exact Nat.le_succ _))⟩
end
inductive D where
 | IB|bl (b:Bool)|int (i:Int)|str (x:Str)|tup (ds:List D)|lst (own:Bool) (ds:List D)|IE (own:Bool) (ks:List Key) (ds:List D)
 deriving Inhabited
mutual
noncomputable def er:D->D
 |.tup ds=>.tup (HC ds)
 |.lst _ ds=>.lst Ξ (HC ds)
 |.IE _ ks ds=>.IE Ξ ks (HC ds)
 |.IB=>.IB
 |.bl b=>.bl b
 |.int i=>.int i
 |.str x=>.str x
noncomputable def HC:List D->List D
 |[]=>[]
 |d::ds=>er d::HC ds
end
mutual
noncomputable def hE:D->Bool
 |.tup ds=>gW ds
 |.lst _ _=>Ξ
 |.IE _ _ _=>Ξ
 |.IB=>Θ
 |.bl _=>Θ
 |.int _=>Θ
 |.str _=>Θ
noncomputable def gW:List D->Bool
 |[]=>Θ
 |d::ds=>hE d&&gW ds
end
theorem hW:∀ds:List D,HC ds=ds.map er
 |[]=>rfl
 |d::ds=>by rw[HC,hW ds];rfl
theorem iR:∀ds:List D,gW ds=ds.all hE
 |[]=>rfl
 |d::ds=>by rw[gW,iR ds];rfl
theorem jQ (ds:List D):(HC ds).length=ds.length:=by rw[hW,g_]
mutual
theorem qd:∀ {d:D},hE d=Θ->er d=d
 |.IB,_=>rfl
 |.bl _,_=>rfl
 |.int _,_=>rfl
 |.str _,_=>rfl
 |.tup ds,h=>by rw[er,iE (ds:=ds) h]
 |.lst o ds,h=>by cases(show Ξ=Θ from h)
 |.IE o ks ds,h=>by cases(show Ξ=Θ from h)
theorem iE:∀ {ds:List D},gW ds=Θ->HC ds=ds
 |[],_=>rfl
 |d::ds,h=>by have h':(hE d&&gW ds)=Θ:=h;rw[h_]at h';rw[HC,qd h'.1,iE h'.2]
end
mutual
theorem Ba:∀d:D,er (er d)=er d
 |.IB=>rfl
 |.bl _=>rfl
 |.int _=>rfl
 |.str _=>rfl
 |.tup ds=>by rw[er,er,Jm ds]
 |.lst _ ds=>by rw[er,er,Jm ds]
 |.IE _ ks ds=>by rw[er,er,Jm ds]
theorem Jm:∀ds:List D,HC (HC ds)=HC ds
 |[]=>rfl
 |d::ds=>by rw[HC,HC,Ba d,Jm ds]
end
inductive Exc where
 | stuck
abbrev Res (α:Type):=Except Exc α
noncomputable abbrev Ir {α:Type}:Res α:=.error .stuck
noncomputable def Hn {α β:Type}(x:Res α)(f:α->Res β):Res β:=match x with
 |.ok a=>f a
 |.error e=>.error e
noncomputable def HB {α:Type}(c:Bool)(x:Res α):Res α:=if c=Θ then x else Ir
def Hw {α:Type}(x:Res α)(k:α->Prop):Prop:=match x with
 |.ok a=>k a
 |.error .stuck=>False
theorem Hw.Hn {α β:Type}{x:Res α}{f:α->Res β}{k:β->Prop}(h:Hw (Hn x f) k):Hw x fun a=>Hw (f a) k:=by
 cases x with
 |ok a=>exact h
 |error e=>cases e<;>exact h
theorem Hw.HB {α:Type}{c:Bool}{x:Res α}{k:α->Prop}(h:Hw (HB c x) k):c=Θ/\Hw x k:=by
 unfold L2.HB at h
 induction c using zB with
 |true=>exact⟨rfl,h⟩
 |false=>exact False.elim h
theorem Hw.mono (h:Hw x k)(m:∀a,k a->k' a):Hw x k':=by
 cases x with
 |ok a=>exact m a h
 |error e=>cases e<;>exact h
theorem Hw.mk (h:Hw x fun a=>Hw (f a) k):Hw (L2.Hn x f) k:=by
 cases x with
 |ok a=>exact h
 |error e=>cases e<;>exact h
theorem Hw.eq (h:Hw x k):Hw x fun a=>x=.ok a/\k a:=by
 cases x with
 |ok a=>exact⟨rfl,h⟩
 |error e=>cases e<;>exact h
theorem Hw.ok (h:Hw (.ok a:Res α) k):k a:=h
theorem Hw.no (h:Hw (Ir:Res α) k):False:=h
inductive LD where
 | l (xs:List V)|d (kvs:List (Key×V))
noncomputable abbrev LD.o:LD->HO
 |.l xs=>.lst xs
 |.d kvs=>.dK kvs
theorem KL.sq {K:Frag}{H:Hp}{a:Ω}{xs:List V}(h:KL K a xs):Jo K H a xs:=by obtain⟨its,n,h1,h2,h3⟩:=h;exact .inr ⟨_,its.toArray,n,h1,rfl,rfl,rfl,by simpa using h2,by simpa using h3⟩
theorem Inv.ls (I:Inv X pins σ H s)(h:Ls X.K H a xs) :
  xs.length<=Ζ/\∃(its:List Ψ) (n:Nat),Vals xs its/\s.heap.get? a=Δ {cls:=.type "list",data:=.seq its.toArray n}:=by
 rcases h with h|⟨its,n,h1,h2,h3⟩
 ·obtain⟨z,its,n,r,e⟩:=h.ok I.IF;exact⟨z,its,n,r,e⟩
 ·exact⟨by rw[h3.length];exact h2,its,n,h3,I.Lg _ _ h1⟩
structure Cl (H H':Hp):Prop where
 t:∀b xs,Rd H b (.tup xs)->Rd H' b (.tup xs)
theorem Cl.sq {K:Frag}{H H':Hp}{a:Ω}{xs:List V}(k:Cl H H')(h:IP K H a xs):IP K H' a xs:=h.elim (fun h=>.inl (k.t _ _ h)) .inr
mutual
inductive Hx (K:Frag)(S:Ω->Prop)(H:Hp):V->D->Prop where
 | IB:Hx K S H .IB .IB
 | bl (b:Bool):Hx K S H (.bl b) (.bl b)
 | int (i:Int):Hx K S H (.int i) (.int i)
 | str (x:Str):Hx K S H (.str x) (.str x)
 | tup {a:Ω}{xs:List V}{ds:List D}:IP K H a xs->Hq K S H xs ds->Hx K S H (.ref a) (.tup ds)
 | lst {a:Ω}{xs:List V}{o:Bool}{ds:List D}:S a->Rd H a (.lst xs)->Hq K S H xs ds->Hx K S H (.ref a) (.lst o ds)
 | lstK {a:Ω}{xs:List V}{o:Bool}{ds:List D}:KL K a xs->Hq K S H xs ds->Hx K S H (.ref a) (.lst o ds)
 | IE {a:Ω}{kvs:List (Key×V)}{o:Bool}{ks:List Key}{ds:List D}:S a->Rd H a (.dK kvs)->kvs.map (·.1)=ks->Hq K S H (kvs.map (·.2)) ds->Hx K S H (.ref a) (.IE o ks ds)
inductive Hq (K:Frag)(S:Ω->Prop)(H:Hp):List V->List D->Prop where
 | nil:Hq K S H [] []
 | cons {v:V}{d:D}{vs:List V}{ds:List D}:Hx K S H v d->Hq K S H vs ds->Hq K S H (v::vs) (d::ds)
end
mutual
inductive IA (K:Frag)(F:Ω->Prop)(H:Hp):V->D->List Ω->Prop where
 | IB:IA K F H .IB .IB []
 | bl (b:Bool):IA K F H (.bl b) (.bl b) []
 | int (i:Int):IA K F H (.int i) (.int i) []
 | str (x:Str):IA K F H (.str x) (.str x) []
 | tup {a:Ω}{xs:List V}{ds:List D}{f:List Ω}:IP K H a xs->Hy K F H xs ds f->IA K F H (.ref a) (.tup ds) f
 | Lr {a:Ω}{xs:List V}{ds:List D}:F a->Rd H a (.lst xs)->Hy K F H xs ds []->IA K F H (.ref a) (.lst Ξ ds) []
 | lstK {a:Ω}{xs:List V}{ds:List D}:KL K a xs->Hy K F H xs ds []->IA K F H (.ref a) (.lst Ξ ds) []
 | Jl {a:Ω}{xs:List V}{ds:List D}{f:List Ω}:¬F a->H a=Δ (.lst xs)->Hy K F H xs ds f->IA K F H (.ref a) (.lst Θ ds) (a::f)
 | Nx {a:Ω}{kvs:List (Key×V)}{ks:List Key}{ds:List D}:F a->Rd H a (.dK kvs)->kvs.map (·.1)=ks->Hy K F H (kvs.map (·.2)) ds []->IA K F H (.ref a) (.IE Ξ ks ds) []
 | My {a:Ω}{kvs:List (Key×V)}{ks:List Key}{ds:List D}{f:List Ω}:¬F a->H a=Δ (.dK kvs)->kvs.map (·.1)=ks->Hy K F H (kvs.map (·.2)) ds f->IA K F H (.ref a) (.IE Θ ks ds) (a::f)
inductive Hy (K:Frag)(F:Ω->Prop)(H:Hp):List V->List D->List Ω->Prop where
 | nil:Hy K F H [] [] []
 | cons {v:V}{d:D}{f:List Ω}{vs:List V}{ds:List D}{g:List Ω}:IA K F H v d f->Hy K F H vs ds g->Hy K F H (v::vs) (d::ds) (f++g)
end
theorem g7.rd (e:g7 H H')(h:Rd H a u):Rd H' a u:=by
 rcases h with h|⟨o,h⟩
 ·exact .inl (e _ _ h)
 ·exact .inr ⟨o,e _ _ h⟩
theorem g7.cl (e:g7 H H'):Cl H H':=⟨fun _ _ h=>e.rd h⟩
theorem wt (h2:∀xs,¬Rd H l (.tup xs)):Cl H (upd H l o'):=by
 refine⟨fun b xs h=>?_⟩;have:b≠l:=by rintro rfl;exact h2 xs h
 unfold Rd;rw[gX this];exact h
theorem IP.cl {K:Frag}{H H':Hp}{a:Ω}{xs:List V}(k:Cl H H')(h:IP K H a xs):IP K H' a xs:=k.sq h
theorem g7.Km {K:Frag}{H H':Hp}{a:Ω}{xs:List V}(e:g7 H H')(h:IP K H a xs):IP K H' a xs:=h.cl e.cl
theorem CC (hl:H l=Δ (.lst ys)):Cl H (upd H l o'):=
 wt fun xs z=>by rcases z with z|⟨o,z⟩<;>(rw[hl]at z;cases z)
theorem IP.upd {K:Frag}{H:Hp}{a l:Ω}{xs:List V}{ys zs:List V}(hl:H l=Δ (.lst ys))(h:IP K H a xs):IP K (upd H l (.lst zs)) a xs:=h.cl (CC hl)
theorem Rd.some (h:Rd H a u):H a≠Φ:=by rcases h with h|⟨o,h⟩<;>(rw[h];simp)
section
variable {K:Frag}{S S' F F':Ω->Prop}{H H':Hp}
theorem Hx.step (hl:∀a (u:LD),S a->Rd H a u.o->S' a/\Rd H' a u.o)(ht:∀a xs,IP K H a xs->IP K H' a xs)  (h:Hx K S H v d):Hx K S' H' v d:=
 Hx.rec (motive_1:=fun v d _=>Hx K S' H' v d) (motive_2:=fun v d _=>Hq K S' H' v d) .IB .bl .int .str (fun h1 _ i=>.tup (ht _ _ h1) i)
  (fun h0 h1 _ i=>.lst (hl _ (.l _) h0 h1).1 (hl _ (.l _) h0 h1).2 i) (fun h1 _ i=>.lstK h1 i) (fun h0 h1 h2 _ i=>.IE (hl _ (.d _) h0 h1).1 (hl _ (.d _) h0 h1).2 h2 i) .nil (fun _ _ i j=>.cons i j) h
theorem Hq.step (hl:∀a (u:LD),S a->Rd H a u.o->S' a/\Rd H' a u.o)(ht:∀a xs,IP K H a xs->IP K H' a xs)  (h:Hq K S H v d):Hq K S' H' v d:=
 Hq.rec (motive_1:=fun v d _=>Hx K S' H' v d) (motive_2:=fun v d _=>Hq K S' H' v d) .IB .bl .int .str (fun h1 _ i=>.tup (ht _ _ h1) i)
  (fun h0 h1 _ i=>.lst (hl _ (.l _) h0 h1).1 (hl _ (.l _) h0 h1).2 i) (fun h1 _ i=>.lstK h1 i) (fun h0 h1 h2 _ i=>.IE (hl _ (.d _) h0 h1).1 (hl _ (.d _) h0 h1).2 h2 i) .nil (fun _ _ i j=>.cons i j) h
theorem Hx.mono (h:Hx K S H v d)(hS:∀a,S a->S' a)(e:g7 H H'):Hx K S' H' v d:=h.step (fun a xs s r=>⟨hS a s,e.rd r⟩) fun a xs s=>e.Km s
theorem Hq.mono (h:Hq K S H v d)(hS:∀a,S a->S' a)(e:g7 H H'):Hq K S' H' v d:=h.step (fun a xs s r=>⟨hS a s,e.rd r⟩) fun a xs s=>e.Km s
theorem Hq.K7 (h:Hq K S H v d):Hq K (fun a=>S a/\H a≠Φ) H v d:=h.step (fun a xs s r=>⟨⟨s,r.some⟩,r⟩) fun a xs s=>s
theorem Hx.frozen (h:Hx K F H v d):IA K F H v (L2.er d) []:=
 Hx.rec (motive_1:=fun v d _=>IA K F H v (L2.er d) []) (motive_2:=fun v d _=>Hy K F H v (L2.HC d) []) .IB .bl .int .str (fun h1 _ i=>.tup h1 i) (fun h0 h1 _ i=>.Lr h0 h1 i) (fun h1 _ i=>.lstK h1 i) (fun h0 h1 h2 _ i=>.Nx h0 h1 h2 i) .nil (fun _ _ i j=>.cons (f:=[]) (g:=[]) i j) h
theorem Hq.frozen (h:Hq K F H v d):Hy K F H v (L2.HC d) []:=
 Hq.rec (motive_1:=fun v d _=>IA K F H v (L2.er d) []) (motive_2:=fun v d _=>Hy K F H v (L2.HC d) []) .IB .bl .int .str (fun h1 _ i=>.tup h1 i) (fun h0 h1 _ i=>.Lr h0 h1 i) (fun h1 _ i=>.lstK h1 i) (fun h0 h1 h2 _ i=>.Nx h0 h1 h2 i) .nil (fun _ _ i j=>.cons (f:=[]) (g:=[]) i j) h
theorem zw (h:(a&&b)=Θ):a=Θ/\b=Θ:=by rwa [h_]at h
theorem Hx.free (n:hE d=Θ)(h:Hx K S H v d):IA K F H v d []:=
 Hx.rec (motive_1:=fun v d _=>hE d=Θ->IA K F H v d []) (motive_2:=fun v d _=>gW d=Θ->Hy K F H v d []) (fun _=>.IB) (fun b _=>.bl b) (fun b _=>.int b) (fun b _=>.str b) (fun h1 _ i n=>.tup h1 (i n)) (fun _ _ _ _ n=>nomatch n) (fun _ _ _ n=>nomatch n) (fun _ _ _ _ _ n=>nomatch n) (fun _=>.nil) (fun _ _ i j n=>.cons (f:=[]) (g:=[]) (i (zw n).1) (j (zw n).2)) h n
theorem Hq.free (n:gW d=Θ)(h:Hq K S H v d):Hy K F H v d []:=
 Hq.rec (motive_1:=fun v d _=>hE d=Θ->IA K F H v d []) (motive_2:=fun v d _=>gW d=Θ->Hy K F H v d []) (fun _=>.IB) (fun b _=>.bl b) (fun b _=>.int b) (fun b _=>.str b) (fun h1 _ i n=>.tup h1 (i n)) (fun _ _ _ _ n=>nomatch n) (fun _ _ _ n=>nomatch n) (fun _ _ _ _ _ n=>nomatch n) (fun _=>.nil) (fun _ _ i j n=>.cons (f:=[]) (g:=[]) (i (zw n).1) (j (zw n).2)) h n
theorem iZ {p:Ω->Prop}:∀a∈([]:List Ω),p a:=fun _ h=>nomatch h
theorem IA.read {v:V}{d:D}{f:List Ω}(hF:∀a,F a->S a)(hf:∀a∈f,S a)(h:IA K F H v d f):Hx K S H v d:=
 IA.rec (motive_1:=fun v d f _=>(∀a∈f,S a)->Hx K S H v d) (motive_2:=fun v d f _=>(∀a∈f,S a)->Hq K S H v d) (fun _=>.IB) (fun b _=>.bl b) (fun b _=>.int b) (fun b _=>.str b) (fun h1 _ i hf=>.tup h1 (i hf))
  (fun h0 h1 _ i _=>.lst (hF _ h0) h1 (i iZ)) (fun h1 _ i _=>.lstK h1 (i iZ)) (fun _ h1 _ i hf=>.lst (hf _ (.head _)) (.inl h1) (i fun b hb=>hf b (.tail _ hb))) (fun h0 h1 h2 _ i _=>.IE (hF _ h0) h1 h2 (i iZ)) (fun _ h1 h2 _ i hf=>.IE (hf _ (.head _)) (.inl h1) h2 (i fun b hb=>hf b (.tail _ hb))) (fun _=>.nil)
  (fun _ _ i j hf=>.cons (i fun a ha=>hf a (t_ _ ha)) (j fun a ha=>hf a (v_ _ ha))) h hf
theorem Hy.read {v:List V}{d:List D}{f:List Ω}(hF:∀a,F a->S a)(hf:∀a∈f,S a)(h:Hy K F H v d f):Hq K S H v d:=
 Hy.rec (motive_1:=fun v d f _=>(∀a∈f,S a)->Hx K S H v d) (motive_2:=fun v d f _=>(∀a∈f,S a)->Hq K S H v d) (fun _=>.IB) (fun b _=>.bl b) (fun b _=>.int b) (fun b _=>.str b) (fun h1 _ i hf=>.tup h1 (i hf))
  (fun h0 h1 _ i _=>.lst (hF _ h0) h1 (i iZ)) (fun h1 _ i _=>.lstK h1 (i iZ)) (fun _ h1 _ i hf=>.lst (hf _ (.head _)) (.inl h1) (i fun b hb=>hf b (.tail _ hb))) (fun h0 h1 h2 _ i _=>.IE (hF _ h0) h1 h2 (i iZ)) (fun _ h1 h2 _ i hf=>.IE (hf _ (.head _)) (.inl h1) h2 (i fun b hb=>hf b (.tail _ hb))) (fun _=>.nil)
  (fun _ _ i j hf=>.cons (i fun a ha=>hf a (t_ _ ha)) (j fun a ha=>hf a (v_ _ ha))) h hf
theorem jC {α:Type}{x:Option α}{y:α}(h:x=Δ y):x≠Φ:=fun e=>nomatch h.symm.trans e
theorem IA.step (hl:∀a (u:LD),F a->Rd H a u.o->F' a/\Rd H' a u.o)(ht:∀a xs,IP K H a xs->IP K H' a xs)  (k:∀a∈f,¬F a->H a≠Φ->¬F' a/\H' a=H a)
  (h:IA K F H v d f):IA K F' H' v d f:=
 IA.rec (motive_1:=fun v d f _=>(∀a∈f,¬F a->H a≠Φ->¬F' a/\H' a=H a)->IA K F' H' v d f) (motive_2:=fun v d f _=>(∀a∈f,¬F a->H a≠Φ->¬F' a/\H' a=H a)->Hy K F' H' v d f) (fun _=>.IB) (fun b _=>.bl b) (fun b _=>.int b) (fun b _=>.str b)
  (fun h1 _ i k=>.tup (ht _ _ h1) (i k)) (fun h0 h1 _ i _=>.Lr (hl _ (.l _) h0 h1).1 (hl _ (.l _) h0 h1).2 (i iZ)) (fun h1 _ i _=>.lstK h1 (i iZ))
  (fun h0 h1 _ i k=>.Jl (k _ (.head _) h0 (jC h1)).1 ((k _ (.head _) h0 (jC h1)).2.trans h1) (i fun b hb=>k b (.tail _ hb))) (fun h0 h1 h2 _ i _=>.Nx (hl _ (.d _) h0 h1).1 (hl _ (.d _) h0 h1).2 h2 (i iZ)) (fun h0 h1 h2 _ i k=>.My (k _ (.head _) h0 (jC h1)).1 ((k _ (.head _) h0 (jC h1)).2.trans h1) h2 (i fun b hb=>k b (.tail _ hb))) (fun _=>.nil)
  (fun _ _ i j k=>.cons (i fun a ha=>k a (t_ _ ha)) (j fun a ha=>k a (v_ _ ha))) h k
theorem Hy.step (hl:∀a (u:LD),F a->Rd H a u.o->F' a/\Rd H' a u.o)(ht:∀a xs,IP K H a xs->IP K H' a xs)  (k:∀a∈f,¬F a->H a≠Φ->¬F' a/\H' a=H a)
  (h:Hy K F H v d f):Hy K F' H' v d f:=
 Hy.rec (motive_1:=fun v d f _=>(∀a∈f,¬F a->H a≠Φ->¬F' a/\H' a=H a)->IA K F' H' v d f) (motive_2:=fun v d f _=>(∀a∈f,¬F a->H a≠Φ->¬F' a/\H' a=H a)->Hy K F' H' v d f) (fun _=>.IB) (fun b _=>.bl b) (fun b _=>.int b) (fun b _=>.str b)
  (fun h1 _ i k=>.tup (ht _ _ h1) (i k)) (fun h0 h1 _ i _=>.Lr (hl _ (.l _) h0 h1).1 (hl _ (.l _) h0 h1).2 (i iZ)) (fun h1 _ i _=>.lstK h1 (i iZ))
  (fun h0 h1 _ i k=>.Jl (k _ (.head _) h0 (jC h1)).1 ((k _ (.head _) h0 (jC h1)).2.trans h1) (i fun b hb=>k b (.tail _ hb))) (fun h0 h1 h2 _ i _=>.Nx (hl _ (.d _) h0 h1).1 (hl _ (.d _) h0 h1).2 h2 (i iZ)) (fun h0 h1 h2 _ i k=>.My (k _ (.head _) h0 (jC h1)).1 ((k _ (.head _) h0 (jC h1)).2.trans h1) h2 (i fun b hb=>k b (.tail _ hb))) (fun _=>.nil)
  (fun _ _ i j k=>.cons (i fun a ha=>k a (t_ _ ha)) (j fun a ha=>k a (v_ _ ha))) h k
theorem zx {p:Ω->Prop}{x:Ω}{f:List Ω}(h:p x)(i:∀a∈f,p a):∀a∈x::f,p a:=by
 intro b hb;rcases k_.mp hb with rfl|hb
 ·exact h
 ·exact i b hb
theorem EM {p:Ω->Prop}{f g:List Ω}(h:∀a∈f,p a)(i:∀a∈g,p a):∀a∈f++g,p a:=fun b hb=>(s_.mp hb).elim (h b) (i b)
theorem IA.own (h:IA K F H v d f):∀a∈f,¬F a/\∃u,H a=Δ u:=
 IA.rec (motive_1:=fun _ _ f _=>∀a∈f,¬F a/\∃u,H a=Δ u) (motive_2:=fun _ _ f _=>∀a∈f,¬F a/\∃u,H a=Δ u) iZ (fun _=>iZ) (fun _=>iZ) (fun _=>iZ) (fun _ _ i=>i) (fun _ _ _ _=>iZ) (fun _ _ _=>iZ)
  (fun h0 h1 _ i=>zx ⟨h0,_,h1⟩ i) (fun _ _ _ _ _=>iZ) (fun h0 h1 _ _ i=>zx ⟨h0,_,h1⟩ i) iZ (fun _ _ i j=>EM i j) h
theorem Hy.own (h:Hy K F H v d f):∀a∈f,¬F a/\∃u,H a=Δ u:=
 Hy.rec (motive_1:=fun _ _ f _=>∀a∈f,¬F a/\∃u,H a=Δ u) (motive_2:=fun _ _ f _=>∀a∈f,¬F a/\∃u,H a=Δ u) iZ (fun _=>iZ) (fun _=>iZ) (fun _=>iZ) (fun _ _ i=>i) (fun _ _ _ _=>iZ) (fun _ _ _=>iZ)
  (fun h0 h1 _ i=>zx ⟨h0,_,h1⟩ i) (fun _ _ _ _ _=>iZ) (fun h0 h1 _ _ i=>zx ⟨h0,_,h1⟩ i) iZ (fun _ _ i j=>EM i j) h
theorem Hq.ind {P:List V->List D->Prop}(n:P [] [])(c:∀v d vs ds,Hx K S H v d->Hq K S H vs ds->P vs ds->P (v::vs) (d::ds)){vs:List V}{ds:List D}(h:Hq K S H vs ds):P vs ds:=
 Hq.rec (motive_1:=fun _ _ _=>True) (motive_2:=fun v d _=>P v d) trivial (fun _=>trivial) (fun _=>trivial) (fun _=>trivial) (fun _ _ _=>trivial) (fun _ _ _ _=>trivial) (fun _ _ _=>trivial) (fun _ _ _ _ _=>trivial) n (fun a b _ j=>c _ _ _ _ a b j) h
theorem Hy.ind {P:List V->List D->List Ω->Prop}(n:P [] [] [])(c:∀v d f vs ds g,IA K F H v d f->Hy K F H vs ds g->P vs ds g->P (v::vs) (d::ds) (f++g)){vs:List V}{ds:List D}{f:List Ω}(h:Hy K F H vs ds f):P vs ds f:=
 Hy.rec (motive_1:=fun _ _ _ _=>True) (motive_2:=fun v d f _=>P v d f) trivial (fun _=>trivial) (fun _=>trivial) (fun _=>trivial) (fun _ _ _=>trivial) (fun _ _ _ _=>trivial) (fun _ _ _=>trivial) (fun _ _ _ _=>trivial) (fun _ _ _ _ _=>trivial) (fun _ _ _ _ _=>trivial) n (fun a b _ j=>c _ _ _ _ _ _ a b j) h
theorem Hq.length (h:Hq K S H vs ds):vs.length=ds.length:=
 Hq.ind (P:=fun v d=>v.length=d.length) rfl (fun _ _ _ _ _ _ j=>congrArg (· + 1) j) h
theorem Hq.get {i:Nat}{vs:List V}{ds:List D}{d:D}(h:Hq K S H vs ds)(e:ds[i]? = Δ d):∃v,vs[i]? = Δ v/\Hx K S H v d:=
 Hq.ind (P:=fun vs ds=>∀i d,ds[i]? = Δ d->∃v,vs[i]? = Δ v/\Hx K S H v d) (fun i d e=>nomatch (show Φ=Δ d from e)) (fun v d _ _ a _ j i d e=>by
  cases i with
  |zero=>exact⟨_,rfl,I_ e ▸ a⟩
  |succ i=>exact j i d e) h i d e
theorem Hq.L8 {i:Nat}{vs:List V}{ds:List D}{v:V}(h:Hq K S H vs ds)(e:vs[i]? = Δ v):∃d,ds[i]? = Δ d/\Hx K S H v d:=
 Hq.ind (P:=fun vs ds=>∀i v,vs[i]? = Δ v->∃d,ds[i]? = Δ d/\Hx K S H v d) (fun i d e=>nomatch (show Φ=Δ d from e)) (fun v d _ _ a _ j i d e=>by
  cases i with
  |zero=>exact⟨_,rfl,I_ e ▸ a⟩
  |succ i=>exact j i d e) h i v e
theorem Hq.append (h:Hq K S H vs ds)(h':Hq K S H ws es):Hq K S H (vs++ws) (ds++es):=
 Hq.ind (P:=fun v d=>Hq K S H (v++ws) (d++es)) h' (fun _ _ _ _ a _ j=>.cons a j) h
theorem Hq.take (n:Nat)(h:Hq K S H vs ds):Hq K S H (vs.take n) (ds.take n):=
 Hq.ind (P:=fun v d=>∀n,Hq K S H (v.take n) (d.take n)) (fun n=>by cases n<;>exact .nil) (fun _ _ _ _ a _ j n=>by
  cases n with
  |zero=>exact .nil
  |succ n=>exact .cons a (j n)) h n
theorem Hq.drop (n:Nat)(h:Hq K S H vs ds):Hq K S H (vs.drop n) (ds.drop n):=
 Hq.ind (P:=fun v d=>∀n,Hq K S H (v.drop n) (d.drop n)) (fun n=>by cases n<;>exact .nil) (fun _ _ _ _ a b j n=>by
  cases n with
  |zero=>exact .cons a b
  |succ n=>exact j n) h n
theorem Hy.length (h:Hy K F H vs ds f):vs.length=ds.length:=
 Hy.ind (P:=fun v d _=>v.length=d.length) rfl (fun _ _ _ _ _ _ _ _ j=>congrArg (· + 1) j) h
theorem Hy.append (h:Hy K F H vs ds f)(h':Hy K F H ws es g):Hy K F H (vs++ws) (ds++es) (f++g):=
 Hy.ind (P:=fun v d f=>Hy K F H (v++ws) (d++es) (f++g)) h' (fun _ _ _ _ _ _ a _ j=>by
  rw[H_]
  exact .cons a j) h
theorem Hx.IZ (h:Hx K S H v (.lst o ds)):∃a xs,v=.ref a/\Jo K H a xs/\Hq K S H xs ds:=by
 cases h with
 |lst h0 h1 h2=>exact⟨_,_,rfl,.inl h1,h2⟩
 |lstK h1 h2=>exact⟨_,_,rfl,h1.sq,h2⟩
theorem Hx.Ny (h:Hx K S H v (.lst o ds)):∃a xs,v=.ref a/\Ls K H a xs/\Hq K S H xs ds:=by
 cases h with
 |lst h0 h1 h2=>exact⟨_,_,rfl,.inl h1,h2⟩
 |lstK h1 h2=>exact⟨_,_,rfl,.inr h1,h2⟩
theorem Hx.Jy (h:Hx K S H v (.tup ds)):∃a xs,v=.ref a/\IP K H a xs/\Hq K S H xs ds:=by
 cases h with
 |tup h1 h2=>exact⟨_,_,rfl,h1,h2⟩
theorem Hx.ID (h:Hx K S H v (.int i)):v=.int i:=by cases h;rfl
theorem Hx.MW (h:Hx K S H v (.bl i)):v=.bl i:=by cases h;rfl
theorem Hx.Jh (h:Hx K S H v (.str i)):v=.str i:=by cases h;rfl
theorem Hx.KO (h:Hx K S H v .IB):v=.IB:=by cases h;rfl
theorem Hq.ints {vs:List V}{ns:List Int}(h:Hq K S H vs (ns.map .int)):vs=ns.map .int:=
 Hq.ind (P:=fun v d=>∀ns:List Int,d=ns.map .int->v=ns.map .int) (fun ns e=>by
  induction ns using zL with
  |nil=>rfl
  |cons n ns=>exact nomatch e) (fun _ _ _ _ a _ j ns e=>by
  induction ns using zL with
  |nil=>exact nomatch e
  |cons n ns=>
   obtain⟨h1,h2⟩:=List.cons.inj e;subst h1;rw[j ns h2,a.ID]
   rfl) h ns rfl
theorem Hq.strs {vs:List V}{ns:List Str}(h:Hq K S H vs (ns.map .str)):vs=ns.map .str:=
 Hq.ind (P:=fun v d=>∀ns:List Str,d=ns.map .str->v=ns.map .str) (fun ns e=>by
  induction ns using zL with
  |nil=>rfl
  |cons n ns=>exact nomatch e) (fun _ _ _ _ a _ j ns e=>by
  induction ns using zL with
  |nil=>exact nomatch e
  |cons n ns=>
   obtain⟨h1,h2⟩:=List.cons.inj e;subst h1;rw[j ns h2,a.Jh]
   rfl) h ns rfl
theorem Hq.Yt {vs:List V}{ns:List Bool}(h:Hq K S H vs (ns.map .bl)):vs=ns.map .bl:=
 Hq.ind (P:=fun v d=>∀ns:List Bool,d=ns.map .bl->v=ns.map .bl) (fun ns e=>by
  induction ns using zL with
  |nil=>rfl
  |cons n ns=>exact nomatch e) (fun _ _ _ _ a _ j ns e=>by
  induction ns using zL with
  |nil=>exact nomatch e
  |cons n ns=>
   obtain⟨h1,h2⟩:=List.cons.inj e;subst h1;rw[j ns h2,a.MW]
   rfl) h ns rfl
theorem Hq.ofInts:∀(ns:List Int),Hq K S H (ns.map .int) (ns.map .int)
 |[]=>.nil
 |n::ns=>.cons (.int n) (Hq.ofInts ns)
end
theorem g7.upd {H:Hp}{a:Ω}{o:HO}(h:H a=Φ):g7 H (upd H a o):=fun b u e=>by rw[gX (iD e h)];exact e
theorem zD:type_of% @D.casesOn.{0}:=@D.casesOn.{0}
inductive P2 where
 | add|sub|mul|fdiv|mod|pow
 deriving DecidableEq
inductive Mz where
 | eq|ne|lt|le|gt|K8|Ko|N0
 deriving DecidableEq
inductive Kd where
 | str|int|bool|list|tuple
 deriving DecidableEq
inductive Bi where
 | len|min2|max2|list|tuple|ord|all|any|abs
 deriving DecidableEq
inductive Mt where
 | join
 deriving DecidableEq
inductive Tg where
 | nm (i:Nat)|tp (ts:List Tg)
structure Gm where
 N:List Str
 kd:List NameKind
 gl:List Nat
 df:Bool
 cm:Bool:=Θ
 rs:Bool:=Θ
 tr:Bool:=Ξ
 io:Option Nat:=Φ
mutual
inductive IR where
 | c (d:D)
 | g (n:Nat) (d:D)
 | v (i:Nat)
 | bin (op:P2) (a b:IR)
 | neg (a:IR)
 | cmp (op:Mz) (a b:IR)
 | chain (op Jr:Mz) (a b c:IR)
 | Jb (a b:IR)
 | KZ (a b:IR)
 | JT (a:IR)
 | ite (t a b:IR)
 | tup (es:List IR)
 | lst (es:List IR)
 | idx (a i:IR)
 | sl (a:IR) (lo hi:Option IR)
 | call (f:Nat) (es:List IR)
 | bi (f:Bi) (es:List IR)
 | Kp
 | K9 (a k:IR)
 | Ke (a:IR) (k:Kd)
 | JE (a:IR)
 | JU (a:IR)
 | J0 (a b:IR)
 | sset (a:IR)
 | Lu (a e:IR)
 | MX (m:Mt) (o:IR) (es:List IR)
 | comp (G:Gm) (fr:List Nat) (tg:Tg) (src:Sr) (ifs:List IR) (elt:IR)
inductive Sr where
 | II (n:IR)|val (e:IR)|zip (a b:IR)|KP (e:IR)
end
inductive IS where
 | asg (tg:Tg) (e:IR)
 | app (i:Nat) (e:IR)
 | Ka (i:Nat) (k e:IR)
 | Nz (i j:Nat) (e c x v w:IR)
 | P4 (j:Nat) (G:Gm) (fr:List Nat) (t:Nat) (s:Sr)
 | ins (i:Nat) (k e:IR)
 | exp (e:IR)
 | ret (e:IR)
 | IT (t:IR) (a b:List IS)
 | IL (tg:Tg) (src:Sr) (body:List IS)
 | JV (t:IR) (body:List IS)
 | brk|cnt|pass
 | never
 | L9 (i j:Nat) (e:IR)
 | L' (a:List IS)
abbrev Ev:=List (Option D)
inductive Fl where
 | nx (τ:Ev)|rt (d:D)|bk (τ:Ev)|ct (τ:Ev)|ri (d:D) (ks:List Key) (vs:List D)
noncomputable def jj {α:Type}(xs:List α)(lo hi:Option Int):List α:=(xs.drop (HT.Kj xs.length 0 lo)).take (HT.Kj xs.length xs.length hi - HT.Kj xs.length 0 lo)
noncomputable def iS (n:Nat):Bool:=decide (n<=Ζ)
noncomputable def iV (n:Nat):Bool:=decide (n < Ζ)
noncomputable def J1:P2->D->D->Res D
 |.add,.int a,.int b=>.ok (.int (a+b))
 |.add,.str a,.str b=>HB (iS (a.length+b.length)) (.ok (.str (a++b)))
 |.add,.lst _ a,.lst _ b=>HB (iS (a.length+b.length)) (.ok (.lst Θ (a++b)))
 |.sub,.int a,.int b=>.ok (.int (a - b))
 |.mul,.int a,.int b=>HB (decide (-(2 ^ 64) < a/\a < 2 ^ 64)||decide (-(2 ^ 64) < b/\b < 2 ^ 64)) (.ok (.int (a*b)))
 |.mul,.str a,.int b=>HB (decide (-16000<=b/\b<=16000/\a.length<=1000)) (.ok (.str (Txt.mul a b)))
 |.fdiv,.int a,.int b=>HB (decide (0 < b/\b < 1073741824)) (.ok (.int (a / b)))
 |.mod,.int a,.int b=>HB (decide (0 < b)) (.ok (.int (a % b)))
 |.pow,.int a,.int b=>HB (decide (0<=b/\b<=1000000/\a.natAbs < 2 ^ 64)) (.ok (.int (a ^ b.toNat)))
 |_,_,_=>Ir
noncomputable def ir:D->D->Res D
 |.lst _ ds,.int i=>match JG ds i with
  |some d=>.ok d
  |none=>Ir
 |.tup ds,.int i=>match JG ds i with
  |some d=>.ok d
  |none=>Ir
 |.str z,.int i=>HB (iS z.length) (match JG z.cps.toList i with
  |some c=>.ok (.str ⟨#[c]⟩)
  |none=>Ir)
 |_,_=>Ir
noncomputable def qe:D->Option Int->Option Int->Res D
 |.lst _ ds,lo,hi=>.ok (.lst Θ (jj ds lo hi))
 |.str z,lo,hi=>HB (iS z.length) (.ok (.str (Txt.slice z lo hi)))
 |_,_,_=>Ir
noncomputable def il:D->Res Bool
 |.bl b=>.ok b
 |_=>Ir
noncomputable def jI (f:D->D->Res Bool):List D->List D->Res Bool
 |[],[]=>.ok Θ
 |a::r,b::t=>Hn (f a b) fun x=>Hn (jI f r t) fun y=>.ok (x&&y)
 |_,_=>.ok Ξ
noncomputable def Jn:Nat->D->D->Res Bool
 |0,_,_=>Ir
 |_+1,.IE _ _ _,_=>Ir
 |_+1,_,.IE _ _ _=>Ir
 |_+1,.IB,.IB=>.ok Θ
 |_+1,.IB,_=>.ok Ξ
 |_+1,.bl a,.bl b=>.ok (a == b)
 |_+1,.bl a,.int b=>.ok ((if a then 1 else 0) == b)
 |_+1,.bl _,_=>.ok Ξ
 |_+1,.int a,.bl b=>.ok (a == (if b then 1 else 0))
 |_+1,.int a,.int b=>.ok (a == b)
 |_+1,.int _,_=>.ok Ξ
 |_+1,.str a,.str b=>.ok (a == b)
 |_+1,.str _,_=>.ok Ξ
 |n+1,.tup a,.tup b=>jI (Jn n) a b
 |_+1,.tup _,_=>.ok Ξ
 |n+1,.lst _ a,.lst _ b=>jI (Jn n) a b
 |_+1,.lst _ _,_=>.ok Ξ
noncomputable def Jc (d:D):List D->Res Bool
 |[]=>.ok Ξ
 |e::r=>Hn (Jn 40 e d) fun x=>Hn (Jc d r) fun y=>.ok (x||y)
noncomputable def mP (x y:Str):Bool:=!(Builtin.Str.occurrences x y 0 x.length 1).isEmpty
noncomputable def mQ:D->Bool
 |.IB=>Θ
 |_=>Ξ
noncomputable def mR:D->Bool
 |.IE _ _ _=>Ξ
 |_=>Θ
noncomputable def Jw:Mz->D->D->Res Bool
 |.eq,a,b=>Jn 40 a b
 |.ne,a,b=>Hn (Jn 40 a b) fun r=>.ok !r
 |.lt,.int a,.int b=>.ok (decide (a < b))
 |.le,.int a,.int b=>.ok (decide (a<=b))
 |.gt,.int a,.int b=>.ok (decide (b < a))
 |.K8,.str y,.str x=>.ok (mP x y)
 |.K8,a,.lst _ ds=>Jc a ds
 |.Ko,a,.lst _ ds=>Hn (Jc a ds) fun r=>.ok !r
 |.K8,a,.tup ds=>Jc a ds
 |.Ko,a,.tup ds=>Hn (Jc a ds) fun r=>.ok !r
 |.N0,a,.IB=>.ok (mQ a)
 |_,_,_=>Ir
noncomputable def iI:List D->Option (List Int)
 |[]=>Δ []
 |.int i::r=>(iI r).map (i::·)
 |_::_=>Φ
noncomputable def jF:List D->Option (List Str)
 |[]=>Δ []
 |.str i::r=>(jF r).map (i::·)
 |_::_=>Φ
noncomputable def jk:List D->Option (List Bool)
 |[]=>Δ []
 |.bl i::r=>(jk r).map (i::·)
 |_::_=>Φ
noncomputable def jA:Kd->D->Bool
 |.str,.str _=>Θ
 |.int,.int _=>Θ
 |.int,.bl _=>Θ
 |.bool,.bl _=>Θ
 |.list,.lst _ _=>Θ
 |.tuple,.tup _=>Θ
 |_,_=>Ξ
noncomputable def jq (x:Str):List D:=x.cps.toList.map fun c=>.str ⟨#[c]⟩
noncomputable def zA:Key->D
 |.inl i=>.int i
 |.inr x=>.str x
noncomputable def jr:Bi->List D->Res D
 |.len,[.str x]=>HB (iS x.length) (.ok (.int x.length))
 |.len,[.tup ds]=>.ok (.int ds.length)
 |.len,[.lst _ ds]=>.ok (.int ds.length)
 |.min2,[.int a,.int b]=>.ok (.int (if b < a then b else a))
 |.max2,[.int a,.int b]=>.ok (.int (if b > a then b else a))
 |.ord,[.str x]=>HB (decide (x.length=1)) (.ok (.int (x.cps.getD 0 0:Nat)))
 |.list,[.lst _ ds]=>.ok (.lst Θ ds)
 |.list,[.IE _ ks _]=>.ok (.lst Θ (ks.map zA))
 |.tuple,[.lst _ ds]=>.ok (.tup ds)
 |.all,[.lst _ ds]=>match jk ds with
  |some bs=>.ok (.bl (bs.all id))
  |none=>Ir
 |.any,[.lst _ ds]=>match jk ds with
  |some bs=>.ok (.bl (bs.any id))
  |none=>Ir
 |.abs,[.int i]=>.ok (.int (if i < 0 then -i else i))
 |_,_=>Ir
noncomputable def nH:D->Option Key
 |.int i=>Δ (.inl i)
 |.str x=>Δ (.inr x)
 |_=>Φ
noncomputable def look:List Key->List D->Key->Option D
 |k::ks,d::ds,q=>if k=q then Δ d else look ks ds q
 |_,_,_=>Φ
noncomputable def qf (ks:List Key)(q:Key):Bool:=ks.any fun k=>decide (k=q)
noncomputable def kF (ks:List Key)(q:Key):List Key:=if qf ks q=Θ then ks else ks++[q]
noncomputable def kG (ks:List Key)(ds:List D)(q:Key)(d:D):List D:=if qf ks q=Θ then List.zipWith (fun k e=>if k=q then d else e) ks ds else ds++[d]
noncomputable def qg:D->D->Res D
 |.IE _ ks ds,y=>match nH y with
  |some q=>(match look ks ds q with
   |some d=>.ok d
   |none=>Ir)
  |none=>Ir
 |_,_=>Ir
noncomputable def kn:D->Bool
 |.str _=>Θ
 |_=>Ξ
noncomputable def nJ:Mt->D->List D->Res D
 |.join,.str x,[.lst _ ds]=>match jF ds with
  |some ys=>HB (decide ((ys.map (·.length)).sum+ys.length*x.length<=16777216)) (.ok (.str (Txt.join x ys)))
  |none=>Ir
 |_,_,_=>Ir
noncomputable def lj:D->Res (List D)
 |.lst _ ds=>.ok ds
 |.tup ds=>.ok ds
 |.str x=>HB (iS x.length) (.ok (jq x))
 |_=>Ir
noncomputable def nK:D->Res (List D)
 |.lst _ ds=>.ok ds
 |.tup ds=>.ok ds
 |_=>Ir
noncomputable def ju (ds es:List D):List D:=List.zipWith (fun a b=>.tup [a,b]) ds es
noncomputable def l7 (ds:List D):List D:=List.zipWith (fun(k:Nat) d=>.tup [.int k,d]) (List.range ds.length) ds
noncomputable def zC:D->Res (List D)
 |.lst _ ds=>.ok (l7 ds)
 |_=>Ir
noncomputable def mS (x y:D):Res (List D):=Hn (nK x) fun ds=>Hn (nK y) fun es=>.ok (ju ds es)
noncomputable def sD (x y:D):Res D:=Hn (mS x y) fun ds=>HB (iS ds.length) (.ok (.lst Θ ds))
noncomputable def ij (a b:Int):List D:=(List.range (b - a).toNat).map fun k=>.int (a+(k:Nat))
noncomputable def zF:D->Res D
 |.lst _ ds=>.ok (.lst Θ ds.reverse)
 |_=>Ir
noncomputable def sE:D->Res D
 |.lst _ ds=>match iI ds with
  |some ns=>HB (decide (ns.length < 64)) (.ok (.lst Θ ((PySem.W.sortI (dd ns)).map .int)))
  |none=>Ir
 |_=>Ir
noncomputable def rm:D->Bool
 |.lst _ _=>Θ
 |_=>Ξ
noncomputable def qh:D->D->Res D
 |.lst _ ds,.int y=>match iI ds with
  |some ns=>(match ki y ns with
   |some j=>.ok (.int j)
   |none=>Ir)
  |none=>Ir
 |_,_=>Ir
noncomputable def qi:D->Res D
 |.int n=>HB (decide (0<=n/\n<=1000)) (.ok (.lst Θ ((List.range n.toNat).map fun k=>.int (k:Nat))))
 |_=>Ir
noncomputable def l5 (i:Int):Bool:=decide (-(2 ^ 62)<=i/\i < 2 ^ 62)
noncomputable def g9 {α β:Type}(f:α->Res (Option β)):List α->Res (List β)
 |[]=>.ok []
 |x::xs=>Hn (f x) fun
  |some d=>Hn (g9 f xs) fun r=>.ok (d::r)
  |none=>g9 f xs
mutual
noncomputable def jt:Tg->D->Ev->Res Ev
 |.nm i,d,τ=>.ok (τ.set i (Δ d))
 |.tp ts,.tup ds,τ=>HB (decide (ds.length=ts.length)) (kH ts ds τ)
 |.tp ts,.lst _ ds,τ=>HB (decide (ds.length=ts.length)) (kH ts ds τ)
 |.tp _,_,_=>Ir
noncomputable def kH:List Tg->List D->Ev->Res Ev
 |t::ts,d::ds,τ=>Hn (jt t d τ) fun τ'=>kH ts ds τ'
 |[],[],τ=>.ok τ
 |_,_,_=>Ir
end
noncomputable def gV (τ:Ev)(i:Nat):Option D:=(τ[i]?).join
mutual
noncomputable def vars:IR->List Nat
 |.c _=>[]
 |.g _ _=>[]
 |.v i=>[i]
 |.bin _ a b=>vars a++vars b
 |.neg a=>vars a
 |.cmp _ a b=>vars a++vars b
 |.chain _ _ a b c=>vars a++vars b++vars c
 |.Jb a b=>vars a++vars b
 |.KZ a b=>vars a++vars b
 |.JT a=>vars a
 |.ite t a b=>vars t++vars a++vars b
 |.tup es=>hU es
 |.lst es=>hU es
 |.idx a i=>vars a++vars i
 |.sl a lo hi=>vars a++wu lo++wu hi
 |.call _ es=>hU es
 |.bi _ es=>hU es
 |.Kp=>[]
 |.K9 a k=>vars a++vars k
 |.Ke a _=>vars a
 |.JE a=>vars a
 |.JU a=>vars a
 |.J0 a b=>vars a++vars b
 |.sset a=>vars a
 |.Lu a e=>vars a++vars e
 |.MX _ o es=>vars o++hU es
 |.comp _ fr _ src _ _=>fr++jD src
noncomputable def hU:List IR->List Nat
 |[]=>[]
 |e::es=>vars e++hU es
noncomputable def wu:Option IR->List Nat
 |none=>[]
 |some e=>vars e
noncomputable def jD:Sr->List Nat
 |.II n=>vars n
 |.val e=>vars e
 |.zip a b=>vars a++vars b
 |.KP a=>vars a
end
mutual
noncomputable def HA (cl:Nat->List D->Res D):IR->Ev->Res D
 |.c d,_=>.ok d
 |.g _ d,_=>.ok d
 |.v i,τ=>match gV τ i with
  |some d=>.ok d
  |none=>Ir
 |.bin op a b,τ=>Hn (HA cl a τ) fun x=>Hn (HA cl b τ) fun y=>J1 op x y
 |.neg a,τ=>Hn (HA cl a τ) fun
  |.int i=>.ok (.int (-i))
  |_=>Ir
 |.cmp op a b,τ=>Hn (HA cl a τ) fun x=>Hn (HA cl b τ) fun y=>Hn (Jw op x y) fun r=>.ok (.bl r)
 |.chain op Jr a b c,τ=>Hn (HA cl a τ) fun x=>Hn (HA cl b τ) fun y=>Hn (Jw op x y) fun r=>
  if r=Θ then Hn (HA cl c τ) fun z=>Hn (Jw Jr y z) fun r'=>.ok (.bl r') else .ok (.bl Ξ)
 |.Jb a b,τ=>Hn (HA cl a τ) fun x=>Hn (il x) fun r=>if r=Θ then HA cl b τ else .ok x
 |.KZ a b,τ=>Hn (HA cl a τ) fun x=>Hn (il x) fun r=>if r=Θ then .ok x else HA cl b τ
 |.JT a,τ=>Hn (HA cl a τ) fun x=>Hn (il x) fun r=>.ok (.bl !r)
 |.ite t a b,τ=>Hn (HA cl t τ) fun x=>Hn (il x) fun r=>if r=Θ then HA cl a τ else HA cl b τ
 |.tup es,τ=>Hn (iQ cl es τ) fun ds=>HB (iS ds.length) (.ok (.tup ds))
 |.lst es,τ=>Hn (iQ cl es τ) fun ds=>HB (iS ds.length) (.ok (.lst Θ ds))
 |.idx a i,τ=>Hn (HA cl a τ) fun x=>Hn (HA cl i τ) fun y=>ir x y
 |.sl a lo hi,τ=>Hn (HA cl a τ) fun x=>Hn (oZ cl lo τ) fun l=>Hn (oZ cl hi τ) fun h=>qe x l h
 |.call f es,τ=>Hn (iQ cl es τ) fun ds=>cl f (HC ds)
 |.bi f es,τ=>Hn (iQ cl es τ) fun ds=>jr f ds
 |.Kp,_=>.ok (.IE Θ [] [])
 |.K9 a k,τ=>Hn (HA cl a τ) fun x=>Hn (HA cl k τ) fun y=>qg x y
 |.Ke a k,τ=>Hn (HA cl a τ) fun x=>HB (mR x) (.ok (.bl (jA k x)))
 |.JE a,τ=>Hn (HA cl a τ) zF
 |.JU a,τ=>Hn (HA cl a τ) qi
 |.J0 a b,τ=>Hn (HA cl a τ) fun x=>Hn (HA cl b τ) fun y=>sD x y
 |.sset a,τ=>Hn (HA cl a τ) sE
 |.Lu a e,τ=>Hn (HA cl a τ) fun x=>HB (rm x) (Hn (HA cl e τ) fun y=>qh x y)
 |.MX m o es,τ=>Hn (HA cl o τ) fun x=>HB (kn x) (Hn (iQ cl es τ) fun ds=>nJ m x ds)
 |.comp G fr tg src ifs elt,τ=>Hn (jG cl src τ) fun its=>HB (iV its.length) (Hn ((g9 (fun x=>Hn (jt tg x (fr.map (gV τ)++Τ (G.N.length - fr.length) Φ)) fun MY=>
   Hn (jX cl ifs MY) fun r=>if r=Θ then Hn (HA cl elt MY) fun d=>.ok (Δ d) else .ok Φ) its)) fun ds=>.ok (.lst Θ ds))
noncomputable def iQ (cl:Nat->List D->Res D):List IR->Ev->Res (List D)
 |[],_=>.ok []
 |e::es,τ=>Hn (HA cl e τ) fun d=>Hn (iQ cl es τ) fun ds=>.ok (d::ds)
noncomputable def oZ (cl:Nat->List D->Res D):Option IR->Ev->Res (Option Int)
 |none,_=>.ok Φ
 |some e,τ=>Hn (HA cl e τ) fun
  |.int i=>.ok (Δ i)
  |_=>Ir
noncomputable def jX (cl:Nat->List D->Res D):List IR->Ev->Res Bool
 |[],_=>.ok Θ
 |e::es,τ=>Hn (Hn (HA cl e τ) il) fun r=>if r=Θ then jX cl es τ else .ok Ξ
noncomputable def jG (cl:Nat->List D->Res D):Sr->Ev->Res (List D)
 |.II n,τ=>Hn (HA cl n τ) fun
  |.int i=>HB (l5 i) (.ok (ij 0 i))
  |_=>Ir
 |.val e,τ=>Hn (HA cl e τ) lj
 |.zip a b,τ=>Hn (HA cl a τ) fun x=>Hn (HA cl b τ) fun y=>mS x y
 |.KP a,τ=>Hn (HA cl a τ) zC
end
noncomputable def MA (cl:Nat->List D->Res D)(t:IR)(τ:Ev):Res Bool:=Hn (HA cl t τ) il
noncomputable def lC (is:List Nat):Nat->Ev->Ev
 |_,[]=>[]
 |k,o::τ=>(if is.contains k then o.map er else o)::lC is (k+1) τ
noncomputable abbrev IH (is:List Nat)(τ:Ev):Ev:=lC is 0 τ
noncomputable def ik : IR->Bool
 |.bin .add _ _=>Θ
 |.bin .mul _ _=>Θ
 |.sl _ _ _=>Θ
 |.bi .list _=>Θ
 |.comp _ _ _ _ _ _=>Θ
 |.JU _=>Θ
 |_=>Ξ
noncomputable def iw (e:IR)(d:D)(τ:Ev):D×Ev:=
 if hE d=Θ then(d,τ)
 else match ik e,d with
  |true,.lst _ ds=>if gW ds=Θ then(.lst Θ ds,τ) else(.lst Θ (HC ds),IH (vars e) τ)
  |_,_=>(er d,IH (vars e) τ)
mutual
noncomputable def Jd (cl:Nat->List D->Res D)(mv:Bool):IR->Ev->Res (D×Ev)
 |.v i,τ=>match gV τ i with
  |some d=>if mv=Θ then .ok (d,τ.set i Φ) else .ok (er d,τ.set i (Δ (er d)))
  |none=>Ir
 |.tup es,τ=>Hn (nL cl mv es τ) fun p=>HB (iS p.1.length) (.ok (.tup p.1,p.2))
 |.lst es,τ=>Hn (nL cl mv es τ) fun p=>HB (iS p.1.length) (.ok (.lst Θ p.1,p.2))
 |.Kp,τ=>.ok (.IE Θ [] [],τ)
 |.ite t a b,τ=>Hn (MA cl t τ) fun r=>if r=Θ then Jd cl mv a τ else Jd cl mv b τ
 |.call f es,τ=>Hn (iQ cl es τ) fun ds=>Hn (cl f (HC ds)) fun d=>if hE d=Θ then .ok (d,τ) else .ok (d,IH (hU es) τ)
 |e,τ=>Hn (HA cl e τ) fun d=>.ok (iw e d τ)
noncomputable def nL (cl:Nat->List D->Res D)(mv:Bool):List IR->Ev->Res (List D×Ev)
 |[],τ=>.ok ([],τ)
 |e::es,τ=>Hn (Jd cl mv e τ) fun p=>Hn (nL cl mv es p.2) fun q=>.ok (p.1::q.1,q.2)
end
noncomputable def forM (body:D->Ev->Res Fl):List D->Ev->Res Fl
 |[],τ=>.ok (.nx τ)
 |x::xs,τ=>Hn (body x τ) fun
  |.nx τ'=>forM body xs τ'
  |.ct τ'=>forM body xs τ'
  |.bk τ'=>.ok (.nx τ')
  |.rt d=>.ok (.rt d)
  |.ri d ks vs=>.ok (.ri d ks vs)
noncomputable def i5 (test:Ev->Res Bool)(body:Ev->Res Fl):Nat->Ev->Res Fl
 |0,_=>Ir
 |n+1,τ=>Hn (test τ) fun r=>if r=Θ then Hn (body τ) fun
  |.nx τ'=>i5 test body n τ'
  |.ct τ'=>i5 test body n τ'
  |.bk τ'=>.ok (.nx τ')
  |.rt d=>.ok (.rt d)
  |.ri d ks vs=>.ok (.ri d ks vs)
  else .ok (.nx τ)
noncomputable def rp (cl:Nat->List D->Res D)(s:Sr)(τ:Ev):Res (List D×Ev):=Hn (jG cl s τ) fun its=>match s with
 |.II _=>.ok (its,τ)
 |s=>.ok (HC its,IH (jD s) τ)
mutual
noncomputable def uM:D->Bool
 |.lst o ds=>!o&&jl ds
 |.tup ds=>jl ds
 |.IE o _ ds=>!o&&jl ds
 |_=>Θ
noncomputable def jl:List D->Bool
 |[]=>Θ
 |d::ds=>uM d&&jl ds
end
noncomputable def sF:Nat:=1000000
noncomputable def zG (j:Nat)(τ:Ev)(its:List D):Res Fl:=HB (iV its.length) (.ok (.nx (τ.set j (Δ (.lst Θ (Τ (its.length+1) (.lst Θ [])))))))
noncomputable def rq:Ev->Nat->Bool
 |[],_=>Ξ
 |_::_,0=>Θ
 |_::τ,j+1=>rq τ j
noncomputable def zH (i j k:Nat)(ds es:List D)(τ:Ev)(d:D):D->Res Fl
 |.int z=>(match Kc es.length z with
  |some t=>HB (hE d) (.ok (.nx ((τ.set i (Δ (.lst Θ (ds.set k (.lst Θ (es.set t d)))))).set j Φ)))
  |none=>Ir)
 |_=>Ir
noncomputable def CF (i j k:Nat)(ds es:List D)(τ:Ev)(d:D):Res Fl:=HB (hE d&&iV es.length) (.ok (.nx ((τ.set i (Δ (.lst Θ (ds.set k (.lst Θ (es++[d])))))).set j Φ)))
noncomputable def uN (cl:Nat->List D->Res D)(i j k:Nat)(x v w:IR)(ds es:List D)(τ:Ev)(r:Bool):Res Fl:=
 if r=Θ then Hn (HA cl v (τ.set j (Δ (.lst Θ es)))) fun d=>Hn (HA cl x (τ.set j (Δ (.lst Θ es)))) (zH i j k ds es τ d)
 else Hn (HA cl w (τ.set j (Δ (.lst Θ es)))) (CF i j k ds es τ)
noncomputable def rz (cl:Nat->List D->Res D)(i j:Nat)(c x v w:IR)(ds:List D)(τ:Ev):Option Nat->Res Fl
 |some k=>(match ds[k]? with
  |some (.lst Θ es)=>HB (gW es&&rq τ j) (Hn (Hn (HA cl c (τ.set j (Δ (.lst Θ es)))) il) (uN cl i j k x v w ds es τ))
  |_=>Ir)
 |none=>Ir
noncomputable def zJ (cl:Nat->List D->Res D)(i j:Nat)(c x v w:IR)(ds:List D)(τ:Ev):D->Res Fl
 |.int z=>rz cl i j c x v w ds τ (Kc ds.length z)
 |_=>Ir
noncomputable def wx (cl:Nat->List D->Res D)(i j:Nat)(e c x v w:IR)(τ:Ev):Option D->Res Fl
 |some (.lst Θ ds)=>Hn (HA cl e τ) (zJ cl i j c x v w ds τ)
 |_=>Ir
noncomputable def wy (i j:Nat)(es:List D)(τ:Ev)(z:Int):Option (List Int)->Res Fl
 |some ns=>HB (decide (0<=z/\z.toNat < ns.length/\ns.length<=1000)&&iV es.length&&(i != j)) (.ok (.nx ((τ.set j (Δ (.lst Θ ((ns.eraseIdx z.toNat).map .int)))).set i (Δ (.lst Θ (es++[.int (ns.getD z.toNat 0)]))))))
 |none=>Ir
noncomputable def sG (i j:Nat)(es ds:List D)(τ:Ev):D->Res Fl
 |.int z=>wy i j es τ z (iI ds)
 |_=>Ir
noncomputable def sI (cl:Nat->List D->Res D)(i j:Nat)(e:IR)(τ:Ev):Option D->Option D->Res Fl
 |some (.lst Θ es),Δ (.lst Θ ds)=>Hn (HA cl e τ) (sG i j es ds τ)
 |_,_=>Ir
mutual
noncomputable def JM (cl:Nat->List D->Res D):IS->Ev->Res Fl
 |.asg tg e,τ=>Hn (Jd cl Ξ e τ) fun p=>Hn (jt tg p.1 p.2) fun τ'=>.ok (.nx τ')
 |.app i e,τ=>match gV τ i with
  |some (.lst _ _)=>Hn (Jd cl Ξ e τ) fun p=>(match gV p.2 i with
   |some (.lst Θ ds)=>HB (iV ds.length) (.ok (.nx (p.2.set i (Δ (.lst Θ (ds++[p.1]))))))
   |_=>Ir)
  |_=>Ir
 |.Ka i k e,τ=>Hn (HA cl e τ) fun d=>match gV τ i with
  |some (.IE Θ ks ds)=>Hn (HA cl k (IH (vars e) τ)) fun y=>(match nH y with
   |some q=>HB (jl ds&&iV ks.length) (.ok (.nx ((IH (vars e) τ).set i (Δ (.IE Θ (kF ks q) (HC (kG ks ds q d)))))))
   |none=>Ir)
  |_=>Ir
 |.P4 j _ _ _ s,τ=>Hn (jG cl s τ) (zG j τ)
 |.Nz i j e c x v w,τ=>wx cl i j e c x v w τ (gV τ i)
 |.ins i k e,τ=>match gV τ i with
  |some (.lst _ _)=>Hn (HA cl k τ) fun y=>Hn (Jd cl Ξ e τ) fun p=>(match y,gV p.2 i with
   |.int z,Δ (.lst Θ ds)=>HB (decide (0<=z/\z.toNat<=ds.length)&&iV ds.length) (.ok (.nx (p.2.set i (Δ (.lst Θ (ds.take z.toNat++p.1::ds.drop z.toNat))))))
   |_,_=>Ir)
  |_=>Ir
 |.exp e,τ=>Hn (HA cl e τ) fun _=>.ok (.nx τ)
 |.ret e,τ=>Hn (Jd cl Θ e τ) fun p=>.ok (.rt p.1)
 |.IT t a b,τ=>Hn (MA cl t τ) fun r=>if r=Θ then ia cl a τ else ia cl b τ
 |.IL tg s body,τ=>Hn (rp cl s τ) fun p=>forM (fun x τ=>Hn (jt tg x τ) fun τ'=>ia cl body τ') p.1 p.2
 |.JV t body,τ=>i5 (MA cl t) (ia cl body) sF τ
 |.brk,τ=>.ok (.bk τ)
 |.cnt,τ=>.ok (.ct τ)
 |.pass,τ=>.ok (.nx τ)
 |.never,_=>Ir
 |.L9 i j e,τ=>sI cl i j e τ (gV τ i) (gV τ j)
 |.L' a,τ=>(ia cl a τ)
noncomputable def ia (cl:Nat->List D->Res D):List IS->Ev->Res Fl
 |[],τ=>.ok (.nx τ)
 |s::r,τ=>Hn (JM cl s τ) fun
  |.nx τ'=>ia cl r τ'
  |.ct τ'=>.ok (.ct τ')
  |.bk τ'=>.ok (.bk τ')
  |.rt d=>.ok (.rt d)
  |.ri d ks vs=>.ok (.ri d ks vs)
end
structure Fn where
 np:Nat
 G:Gm
 body:List IS
 io:Bool:=Ξ
noncomputable def l8 (cl:Nat->List D->Res D)(fn:Fn)(ds:List D):Res D:=
 HB (decide (ds.length=fn.np)) (Hn (ia cl fn.body (ds.map Δ++Τ (fn.G.N.length - fn.np) Φ)) fun
  |.nx _=>.ok .IB
  |.rt d=>.ok d
  |_=>Ir)
noncomputable def GR:D->D
 |.IE _ ks vs=>.IE Θ ks vs
 |d=>d
noncomputable def EN:List D->List D
 |[]=>[]
 |[d]=>[GR d]
 |d::ds=>d::EN ds
noncomputable def rA (cl:Nat->List D->Res D)(fn:Fn)(ds:List D):Res D:=
 HB (decide (ds.length=fn.np)) (Hn (ia cl fn.body ((EN ds).map Δ++Τ (fn.G.N.length - fn.np) Φ)) fun
  |.ri d ks vs=>.ok (.tup [d,.IE Ξ ks vs])
  |_=>Ir)
abbrev Tb:=Nat->Option Fn
noncomputable def aY (T:Tb):Nat->Nat->List D->Res D
 |0,_,_=>Ir
 |n+1,f,ds=>match T f with
  |some fn=>(match fn.io with
   |false=>l8 (aY T n) fn ds
   |true=>rA (aY T n) fn ds)
  |none=>Ir
theorem EO:HA cl (.v i) τ=(match gV τ i with|some d=>.ok d|none=>Ir):=rfl
theorem ER:Jd cl mv (.v i) τ=(match gV τ i with|some d=>if mv=Θ then .ok (d,τ.set i Φ) else .ok (er d,τ.set i (Δ (er d)))|none=>Ir):=rfl
theorem zI:type_of% @IR.casesOn.{0}:=@IR.casesOn.{0}
theorem zT:type_of% @IS.casesOn.{0}:=@IS.casesOn.{0}
section
variable {X:Cx}{pins:List (Ω×Obj)}{σ:St}{H:Hp}{S:Ω->Prop}{s:Α}
theorem Inv.JN (I:Inv X pins σ H s)  (h1:Jo X.K H a xs)(h2:IP X.K H a ys):False:=by obtain⟨its,_,⟨o,n,e,c,_⟩,_⟩:=I.list h1;obtain⟨its',_,⟨o',e',c',_⟩,_⟩:=I.tuple h2;rw[e]at e';cases e';rw[c]at c';injection c' with c';exact absurd c' (by decide)
theorem Inv.MB (I:Inv X pins σ H s)  (h:Rd H a (.dK kvs)):∃o es ep,s.heap.get? a=Δ o/\o.data=.dict es ep:=by obtain⟨_,_,vs,_,o,es,ep,e,c,d,_⟩:=h.ok I.IF;exact⟨o,es,ep,e,d⟩
theorem Inv.LP (I:Inv X pins σ H s)  (h:Rd H a (.dK kvs))(k:IP X.K H a xs):False:=by obtain⟨o,es,ep,e,d⟩:=I.MB h;obtain⟨its',_,⟨o',e',c',n,d'⟩,_⟩:=I.tuple k;rw[e]at e';cases e';rw[d]at d';cases d'
theorem Inv.J4 (I:Inv X pins σ H s)  (h:Rd H a (.dK kvs))(k:Jo X.K H a xs):False:=by obtain⟨o,es,ep,e,d⟩:=I.MB h;obtain⟨its',_,⟨o',n,e',c',n',d'⟩,_⟩:=I.list k;rw[e]at e';cases e';rw[d]at d';cases d'
theorem Rd.dk (h:Rd H a (.dK u))(k:Rd H a (.dK v)):u=v:=by rcases h with h|⟨o,h⟩<;>rcases k with k|⟨o',k⟩<;>(rw[h]at k;cases k;try rfl)
mutual
theorem Hx.one (I:Inv X pins σ H s):∀ {v:V}{d e:D},Hx X.K S H v d->Hx X.K S H v e->er d=er e
 |_,_,_,.IB,h=>by cases h;rfl
 |_,_,_,.bl b,h=>by cases h;rfl
 |_,_,_,.int i,h=>by cases h;rfl
 |_,_,_,.str x,h=>by cases h;rfl
 |_,_,_,.tup h1 h2,h=>by
  cases h with
  |tup k1 k2=>have e:=I.JQ h1 k1;subst e;rw[er,er,Hq.one I h2 k2]
  |lst k0 k1 k2=>exact(I.JN (.inl k1) h1).elim
  |lstK k1 k2=>exact(I.JN k1.sq h1).elim
  |IE k0 k1 k2 k3=>exact(I.LP k1 h1).elim
 |_,_,_,.lst h0 h1 h2,h=>by
  cases h with
  |tup k1 k2=>exact(I.JN (.inl h1) k1).elim
  |lst k0 k1 k2=>have e:=I.Jf (.inl h1) (.inl k1);subst e;rw[er,er,Hq.one I h2 k2]
  |lstK k1 k2=>have e:=I.Jf (.inl h1) k1.sq;subst e;rw[er,er,Hq.one I h2 k2]
  |IE k0 k1 k2 k3=>exact(I.J4 k1 (.inl h1)).elim
 |_,_,_,.lstK h1 h2,h=>by
  cases h with
  |tup k1 k2=>exact(I.JN h1.sq k1).elim
  |lst k0 k1 k2=>have e:=I.Jf h1.sq (.inl k1);subst e;rw[er,er,Hq.one I h2 k2]
  |lstK k1 k2=>have e:=I.Jf h1.sq k1.sq;subst e;rw[er,er,Hq.one I h2 k2]
  |IE k0 k1 k2 k3=>exact(I.J4 k1 h1.sq).elim
 |_,_,_,.IE h0 h1 h2 h3,h=>by
  cases h with
  |tup k1 k2=>exact(I.LP h1 k1).elim
  |lst k0 k1 k2=>exact(I.J4 h1 (.inl k1)).elim
  |lstK k1 k2=>exact(I.J4 h1 k1.sq).elim
  |IE k0 k1 k2 k3=>have e:=Rd.dk h1 k1;subst e;rw[er,er,Hq.one I h3 k3,<- h2,<- k2]
theorem Hq.one (I:Inv X pins σ H s):∀ {vs:List V}{ds es:List D},Hq X.K S H vs ds->Hq X.K S H vs es->HC ds=HC es
 |_,_,_,.nil,h=>by cases h;rfl
 |_,_,_,.cons h1 h2,h=>by
  cases h with
  |cons k1 k2=>rw[HC,HC,Hx.one I h1 k1,Hq.one I h2 k2]
end
end
theorem jH (h:Hn x f=.ok b):∃a,x=.ok a/\f a=.ok b:=by
 cases x with
 |error e=>cases h
 |ok a=>exact⟨a,rfl,h⟩
theorem CG (h:HB c x=.ok b):c=Θ/\x=.ok b:=by
 unfold HB at h
 induction c using zB with
 |true=>exact⟨rfl,h⟩
 |false=>cases h
theorem jJ (hf:∀d e r,f d e=.ok r->er d=er e->r=Θ):∀ {ds es:List D}{r:Bool},jI f ds es=.ok r->HC ds=HC es->r=Θ
 |[],[],r,h,_=>by cases h;rfl
 |[],_::_,_,_,h=>by rw[HC,HC]at h;cases h
 |_::_,[],_,_,h=>by rw[HC,HC]at h;cases h
 |a::ds,b::es,r,h,h'=>by rw[HC,HC]at h';injection h' with e1 e2;obtain⟨x,hx,h⟩:=jH (show Hn (f a b) (fun x=>Hn (jI f ds es) fun y=>.ok (x&&y))=.ok r from h);obtain⟨y,hy,h⟩:=jH h;cases h;rw[hf a b x hx e1,jJ hf hy e2];rfl
theorem kI:∀(n:Nat) (d e:D) (r:Bool),Jn n d e=.ok r->er d=er e->r=Θ
 |0,_,_,_,h,_=>by cases h
 |n+1,d,e,r,h,h'=>by
  induction d using zD with
  |tup ds=>
   induction e using zD with
   |tup es=>rw[er,er]at h';injection h' with e1;exact jJ (kI n) h e1
   |IB=>rw[er,er]at h';cases h'
   |bl _=>rw[er,er]at h';cases h'
   |int _=>rw[er,er]at h';cases h'
   |str _=>rw[er,er]at h';cases h'
   |lst _ _=>rw[er,er]at h';cases h'
   |IE _ _ _=>cases h
  |lst o ds=>
   induction e using zD with
   |lst o' es=>rw[er,er]at h';injection h' with _ e1;exact jJ (kI n) h e1
   |IB=>rw[er,er]at h';cases h'
   |bl _=>rw[er,er]at h';cases h'
   |int _=>rw[er,er]at h';cases h'
   |str _=>rw[er,er]at h';cases h'
   |tup _=>rw[er,er]at h';cases h'
   |IE _ _ _=>cases h
  |IE _ _ _=>induction e using zD<;>cases h
  |IB=>induction e using zD<;>first|(cases h;done)|(cases h;rfl)|(exfalso;simp[er]at h')
  |bl b=>induction e using zD<;>first|(simp only[er,D.bl.injEq]at h';subst h';cases h;simp)|(exfalso;simp[er]at h')
  |int b=>induction e using zD<;>first|(simp only[er,D.int.injEq]at h';subst h';cases h;simp)|(exfalso;simp[er]at h')
  |str b=>induction e using zD<;>first|(simp only[er,D.str.injEq]at h';subst h';cases h;simp)|(exfalso;simp[er]at h')
theorem qj:∀ {ds es:List D}{r:Bool},jI f ds es=.ok r->ds.length≠es.length->r=Ξ
 |[],[],_,_,h=>absurd rfl h
 |[],_::_,_,h,_=>by cases h;rfl
 |_::_,[],_,h,_=>by cases h;rfl
 |a::ds,b::es,r,h,n=>by obtain⟨x,hx,h⟩:=jH (show Hn (f a b) (fun x=>Hn (jI f ds es) fun y=>.ok (x&&y))=.ok r from h);obtain⟨y,hy,h⟩:=jH h;cases h;rw[qj hy (fun z=>n (by rw[List.length_cons,List.length_cons,z]))];simp
theorem sJ:∀ {ds es:List D}{r:Bool},jI f ds es=.ok r->ds.length=es.length->
  ∃e:Nat->Bool,(∀j a b,ds[j]? = Δ a->es[j]? = Δ b->f a b=.ok (e j))/\r=(List.range ds.length).all e
 |[],[],r,h,_=>by cases h;exact⟨fun _=>Θ,fun j a b h=>by simp at h,rfl⟩
 |[],_::_,_,_,h=>by cases h
 |_::_,[],_,_,h=>by cases h
 |a::ds,b::es,r,h,n=>by
  obtain⟨x,hx,h⟩:=jH (show Hn (f a b) (fun x=>Hn (jI f ds es) fun y=>.ok (x&&y))=.ok r from h);obtain⟨y,hy,h⟩:=jH h;cases h;obtain⟨e,h1,h2⟩:=sJ hy (by simpa using n);refine⟨fun j=>match j with|0=>x|k+1=>e k,fun j a' b' e1 e2=>?_,?_⟩
  ·cases j with
   |zero=>simp at e1 e2;subst e1 e2;exact hx
   |succ k=>exact h1 k a' b' (by simpa using e1) (by simpa using e2)
  ·rw[h2,List.length_cons,List.range_succ_eq_map,List.all_cons,List.all_map];rfl
section
variable {X:Cx}{pins:List (Ω×Obj)}{σ:St}{H:Hp}{S:Ω->Prop}{s:Α}
structure N1 (A:Ι)(s:Α)(v u:Ψ)(r:Bool):Prop where
 eq:EqAt A s v u r
 rc:RcAt A s v u r
 ne:RcNeAt A s v u (!r)
theorem ql (n:Nat)(A:Ι)(ih:∀(x y:V)(v u:Ψ)(d e:D)(r:Bool),Hx X.K S H x d->Hx X.K S H y e->RelV x v->RelV y u->Jn n d e=.ok r->EqAt A.in1 s v u r)
   {its its':List Ψ}  (rv:Vals xs its) (NZ:Vals ys its') (h2:Hq X.K S H xs ds) (k2:Hq X.K S H ys es) (hr:jI (Jn n) ds es=.ok r) :
  ∃e:Nat->Bool,(∀j (q1:j < its.toArray.size) (q2:j < its'.toArray.size),EqAt A.in1 s its.toArray[j] its'.toArray[j] (e j))/\r=((List.range (min its.toArray.size its'.toArray.size)).all e&&its.toArray.size == its'.toArray.size):=by
 have l1:=h2.length;have l2:=k2.length;have l3:=rv.length;have l4:=NZ.length;have pair:∀j (j1:j < its.toArray.size) (j2:j < its'.toArray.size) (b:Bool) (d1:j < ds.length) (d2:j < es.length),Jn n ds[j] es[j]=.ok b->EqAt A.in1 s its.toArray[j] its'.toArray[j] b:=by
  intro j j1 j2 b d1 d2 hb;obtain⟨x',e1,m1⟩:=h2.get (i:=j) (d:=ds[j]) (by simp);obtain⟨y',e2,m2⟩:=k2.get (i:=j) (d:=es[j]) (by simp);obtain⟨v',ev,L7⟩:=rv.get e1;obtain⟨u',eu,U5⟩:=NZ.get e2;have hv:its.toArray[j]=v':=by have:=(p_.mp ev).2;simpa using this
  have Tw:its'.toArray[j]=u':=by have:=(p_.mp eu).2;simpa using this
  rw[hv,Tw];exact ih x' y' v' u' _ _ _ m1 m2 L7 U5 hb
 have z1:its.toArray.size=ds.length:=by simp;omega
 have z2:its'.toArray.size=es.length:=by simp;omega
 by_cases hl:ds.length=es.length
 ·obtain⟨e,q1,q2⟩:=sJ hr hl;refine⟨e,fun j j1 j2=>pair j j1 j2 _ (by omega) (by omega) (q1 j _ _ (by simp) (by simp)),?_⟩;rw[q2,z1,z2,hl];simp
 ·have NA:=qj hr hl;have each:∀(ds es:List D) (r:Bool),jI (Jn n) ds es=.ok r->∀j (q1:j < ds.length) (q2:j < es.length),∃b,Jn n ds[j] es[j]=.ok b:=by
   intro ds
   induction ds with
   |nil=>intro es r _ j q1;simp at q1
   |cons a ds ih=>
    intro es r h j q1 q2
    induction es using zL with
    |nil=>simp at q2
    |cons b es=>
     obtain⟨x,hx,h⟩:=jH (show Hn (Jn n a b) (fun x=>Hn (jI (Jn n) ds es) fun y=>.ok (x&&y))=.ok r from h);obtain⟨y,hy,h⟩:=jH h;cases j with
     |zero=>exact⟨x,hx⟩
     |succ k=>exact ih es y hy k (by simpa using q1) (by simpa using q2)
  refine⟨fun j=>if q:j < ds.length/\j < es.length then((match Jn n (ds[j]'q.1) (es[j]'q.2) with|.ok b=>b|.error _=>Ξ)) else Ξ,fun j j1 j2=>?_,?_⟩
  ·have d1:j < ds.length:=by omega
   have d2:j < es.length:=by omega
   obtain⟨b,hb⟩:=each ds es r hr j d1 d2;have q:=pair j j1 j2 b d1 d2 hb;show EqAt A.in1 s its.toArray[j] its'.toArray[j] (dite _ _ _);rw[dif_pos (show j < ds.length/\j < es.length from⟨d1,d2⟩),hb];exact q
  ·rw[NA];have:(its.toArray.size == its'.toArray.size)=Ξ:=by rw[beq_eq_false_iff_ne,z1,z2];exact hl
   rw[this,Bool.and_false]
theorem wz (I:Inv X pins σ H s)(n:Nat)(A:Ι)(ih:∀(x y:V)(v u:Ψ)(d e:D)(r:Bool),Hx X.K S H x d->Hx X.K S H y e->RelV x v->RelV y u->Jn n d e=.ok r->EqAt A.in1 s v u r)
   (ha:Jo X.K H a xs) (hb:Jo X.K H b ys) (h2:Hq X.K S H xs ds) (k2:Hq X.K S H ys es)
  (m1:Hx X.K S H (.ref a) (.lst o ds)) (m2:Hx X.K S H (.ref b) (.lst o' es)) (hr:jI (Jn n) ds es=.ok r) (IU:A.units < cLine):N1 A s (.ref a) (.ref b) r:=by
 obtain⟨its,rv,p,_⟩:=I.list ha;obtain⟨its',NZ,p',_⟩:=I.list hb;obtain⟨e,he,P5⟩:=ql n A ih rv NZ h2 k2 hr;have both:RcAt A s (.ref a) (.ref b) r/\RcNeAt A s (.ref a) (.ref b) (!r):=by
  by_cases hl:its.toArray.size=its'.toArray.size
  ·have OS:r=(List.range its.toArray.size).all e:=by rw[P5,<- hl,Nat.min_self];simp
   rw[OS];exact⟨.lists p.isList p'.isList hl IU he,.lists p.isList p'.isList hl IU he⟩
  ·have JK:(its.toArray.size != its'.toArray.size)=Θ:=by simpa using hl
   have OS:r=Ξ:=by
    rw[P5];have:(its.toArray.size == its'.toArray.size)=Ξ:=by rw[beq_eq_false_iff_ne];exact hl
    rw[this,Bool.and_false]
   rw[OS];exact⟨.lists_lengths p.isList p'.isList JK IU,.lists_lengths p.isList p'.isList JK IU⟩
 refine⟨?_,both.1,both.2⟩;by_cases L5:a=b
 ·subst L5;have hd:=Hx.one I m1 m2;rw[er,er]at hd;injection hd with _ hd;rw[jJ (kI n) hr hd];exact .same _
 ·exact .of_refs L5 both.1
set_option maxHeartbeats 4000000 in
theorem pf (I:Inv X pins σ H s):∀(n:Nat) (A:Ι) (x y:V) (v u:Ψ) (d e:D) (r:Bool),Hx X.K S H x d->Hx X.K S H y e->RelV x v->RelV y u->Jn n d e=.ok r->
  A.units+n < cLine->N1 A s v u r
 |0,_,_,_,_,_,_,_,_,_,_,_,_,h,_=>by cases h
 |n+1,A,x,y,v,u,d,e,r,hx,hy,rx,ry,h,hu=>by
  have IU:A.units < cLine:=by omega
  have U4:A.in1.units+n < cLine:=by show A.units+1+n < cLine;omega
  have ih:∀(x y:V) (v u:Ψ) (d e:D) (r:Bool),Hx X.K S H x d->Hx X.K S H y e->RelV x v->RelV y u->Jn n d e=.ok r->EqAt A.in1 s v u r:=
   fun x y v u d e r a1 a2 a3 a4 a5=>(pf I n A.in1 x y v u d e r a1 a2 a3 a4 a5 U4).eq
  induction d using zD with
  |IB=>
   cases hx.KO;cases rx
   induction e using zD with
   |IB=>cases hy.KO;cases ry;cases h;exact⟨.same _,.none_none,.none_none⟩
   |bl b'=>cases hy.MW;cases ry;cases h;exact⟨.none_bool _,.none_bool _,.none_bool _⟩
   |int i'=>cases hy.ID;obtain⟨t2,rfl⟩:=ry;cases h;exact⟨.none_int _ _,.none_int _ _,.none_int _ _⟩
   |str z'=>cases hy.Jh;obtain⟨t2,rfl⟩:=ry;cases h;exact⟨.none_str _ _,.none_str _ _,.none_str _ _⟩
   |tup es=>obtain⟨a2,Ma,rfl,q2,m2⟩:=hy.Jy;cases ry;obtain⟨Jk,Kw,p2,_⟩:=I.tuple q2;cases h;exact⟨.none_tuple p2 IU,.none_tuple p2 IU,.none_tuple p2 IU⟩
   |lst o' es=>obtain⟨a2,Ma,rfl,q2,m2⟩:=hy.IZ;cases ry;obtain⟨Jk,Kw,p2,_⟩:=I.list q2;cases h;exact⟨.none_list p2.isList IU,.none_list p2.isList IU,.none_list p2.isList IU⟩
   |IE _ _ _=>cases h
  |bl b=>
   cases hx.MW;cases rx
   induction e using zD with
   |IB=>cases hy.KO;cases ry;cases h;exact⟨.bool_none _,.bool_none _,.bool_none _⟩
   |bl b'=>cases hy.MW;cases ry;cases h;exact⟨.bool_bool _ _,.bool_bool _ _,.bool_bool _ _⟩
   |int i'=>cases hy.ID;obtain⟨t2,rfl⟩:=ry;cases h;exact⟨.bool_int _ _ _,.bool_int _ _ _,.bool_int _ _ _⟩
   |str z'=>cases hy.Jh;obtain⟨t2,rfl⟩:=ry;cases h;exact⟨.bool_str _ _ _,.bool_str _ _ _,.bool_str _ _ _⟩
   |tup es=>obtain⟨a2,Ma,rfl,q2,m2⟩:=hy.Jy;cases ry;obtain⟨Jk,Kw,p2,_⟩:=I.tuple q2;cases h;exact⟨.bool_tuple _ p2 IU,.bool_tuple _ p2 IU,.bool_tuple _ p2 IU⟩
   |lst o' es=>obtain⟨a2,Ma,rfl,q2,m2⟩:=hy.IZ;cases ry;obtain⟨Jk,Kw,p2,_⟩:=I.list q2;cases h;exact⟨.bool_list _ p2.isList IU,.bool_list _ p2.isList IU,.bool_list _ p2.isList IU⟩
   |IE _ _ _=>cases h
  |int i=>
   cases hx.ID;obtain⟨t1,rfl⟩:=rx
   induction e using zD with
   |IB=>cases hy.KO;cases ry;cases h;exact⟨.int_none _ _,.int_none _ _,.int_none _ _⟩
   |bl b'=>cases hy.MW;cases ry;cases h;exact⟨.int_bool _ _ _,.int_bool _ _ _,.int_bool _ _ _⟩
   |int i'=>cases hy.ID;obtain⟨t2,rfl⟩:=ry;cases h;exact⟨.int_int _ _ _ _,.int_int _ _ _ _,.int_int _ _ _ _⟩
   |str z'=>cases hy.Jh;obtain⟨t2,rfl⟩:=ry;cases h;exact⟨.int_str _ _ _ _,.int_str _ _ _ _,.int_str _ _ _ _⟩
   |tup es=>obtain⟨a2,Ma,rfl,q2,m2⟩:=hy.Jy;cases ry;obtain⟨Jk,Kw,p2,_⟩:=I.tuple q2;cases h;exact⟨.int_tuple _ _ p2 IU,.int_tuple _ _ p2 IU,.int_tuple _ _ p2 IU⟩
   |lst o' es=>obtain⟨a2,Ma,rfl,q2,m2⟩:=hy.IZ;cases ry;obtain⟨Jk,Kw,p2,_⟩:=I.list q2;cases h;exact⟨.int_list _ _ p2.isList IU,.int_list _ _ p2.isList IU,.int_list _ _ p2.isList IU⟩
   |IE _ _ _=>cases h
  |str z=>
   cases hx.Jh;obtain⟨t1,rfl⟩:=rx
   induction e using zD with
   |IB=>cases hy.KO;cases ry;cases h;exact⟨.str_none _ _,.str_none _ _,.str_none _ _⟩
   |bl b'=>cases hy.MW;cases ry;cases h;exact⟨.str_bool _ _ _,.str_bool _ _ _,.str_bool _ _ _⟩
   |int i'=>cases hy.ID;obtain⟨t2,rfl⟩:=ry;cases h;exact⟨.str_int _ _ _ _,.str_int _ _ _ _,.str_int _ _ _ _⟩
   |str z'=>cases hy.Jh;obtain⟨t2,rfl⟩:=ry;cases h;exact⟨.str_str _ _ _ _,.str_str _ _ _ _,.str_str _ _ _ _⟩
   |tup es=>obtain⟨a2,Ma,rfl,q2,m2⟩:=hy.Jy;cases ry;obtain⟨Jk,Kw,p2,_⟩:=I.tuple q2;cases h;exact⟨.str_tuple _ _ p2 IU,.str_tuple _ _ p2 IU,.str_tuple _ _ p2 IU⟩
   |lst o' es=>obtain⟨a2,Ma,rfl,q2,m2⟩:=hy.IZ;cases ry;obtain⟨Jk,Kw,p2,_⟩:=I.list q2;cases h;exact⟨.str_list _ _ p2.isList IU,.str_list _ _ p2.isList IU,.str_list _ _ p2.isList IU⟩
   |IE _ _ _=>cases h
  |tup ds=>
   obtain⟨a1,xs1,rfl,q1,m1⟩:=hx.Jy;cases rx;obtain⟨K5,L7,p1,_⟩:=I.tuple q1
   induction e using zD with
   |IB=>cases hy.KO;cases ry;cases h;exact⟨.tuple_none p1 IU,.tuple_none p1 IU,.tuple_none p1 IU⟩
   |bl b'=>cases hy.MW;cases ry;cases h;exact⟨.tuple_bool _ p1 IU,.tuple_bool _ p1 IU,.tuple_bool _ p1 IU⟩
   |int i'=>cases hy.ID;obtain⟨t2,rfl⟩:=ry;cases h;exact⟨.tuple_int _ _ p1 IU,.tuple_int _ _ p1 IU,.tuple_int _ _ p1 IU⟩
   |str z'=>cases hy.Jh;obtain⟨t2,rfl⟩:=ry;cases h;exact⟨.tuple_str _ _ p1 IU,.tuple_str _ _ p1 IU,.tuple_str _ _ p1 IU⟩
   |tup es=>
    have J3:=hx;have Nt:=hy;obtain⟨a2,Ma,rfl,q2,m2⟩:=hy.Jy;cases ry;obtain⟨Jk,Kw,p2,_⟩:=I.tuple q2;have hr:jI (Jn n) ds es=.ok r:=h;obtain⟨e,he,P5⟩:=ql n A ih L7 Kw m1 m2 hr;refine⟨?_,?_,?_⟩
    ·by_cases L5:a1=a2
     ·subst L5;have hd:=Hx.one I J3 Nt;rw[er,er]at hd;injection hd with hd;rw[jJ (kI n) hr hd];exact .same _
     ·rw[P5];exact .of_refs L5 (.tuples p1 p2 IU he)
    ·rw[P5];exact .tuples p1 p2 IU he
    ·rw[P5];exact .tuples p1 p2 IU he
   |lst o' es=>obtain⟨a2,Ma,rfl,q2,m2⟩:=hy.IZ;cases ry;obtain⟨Jk,Kw,p2,_⟩:=I.list q2;cases h;exact⟨.tuple_list p1 p2.isList IU,.tuple_list p1 p2.isList IU,.tuple_list p1 p2.isList IU⟩
   |IE _ _ _=>cases h
  |lst o ds=>
   obtain⟨a1,xs1,rfl,q1,m1⟩:=hx.IZ;cases rx;obtain⟨K5,L7,p1,_⟩:=I.list q1
   induction e using zD with
   |IB=>cases hy.KO;cases ry;cases h;exact⟨.list_none p1.isList IU,.list_none p1.isList IU,.list_none p1.isList IU⟩
   |bl b'=>cases hy.MW;cases ry;cases h;exact⟨.list_bool _ p1.isList IU,.list_bool _ p1.isList IU,.list_bool _ p1.isList IU⟩
   |int i'=>cases hy.ID;obtain⟨t2,rfl⟩:=ry;cases h;exact⟨.list_int _ _ p1.isList IU,.list_int _ _ p1.isList IU,.list_int _ _ p1.isList IU⟩
   |str z'=>cases hy.Jh;obtain⟨t2,rfl⟩:=ry;cases h;exact⟨.list_str _ _ p1.isList IU,.list_str _ _ p1.isList IU,.list_str _ _ p1.isList IU⟩
   |tup es=>obtain⟨a2,Ma,rfl,q2,m2⟩:=hy.Jy;cases ry;obtain⟨Jk,Kw,p2,_⟩:=I.tuple q2;cases h;exact⟨.list_tuple p1.isList p2 IU,.list_tuple p1.isList p2 IU,.list_tuple p1.isList p2 IU⟩
   |lst o' es=>have J3:=hx;have Nt:=hy;obtain⟨a2,Ma,rfl,q2,m2⟩:=hy.IZ;cases ry;obtain⟨Jk,Kw,p2,_⟩:=I.list q2;exact wz I n A ih q1 q2 m1 m2 J3 Nt h IU
   |IE _ _ _=>cases h
  |IE _ _ _=>induction e using zD<;>cases h
end
abbrev nw (S:Ω->Prop)(H:Hp):Ω->Prop:=fun a=>S a∨H a=Φ
abbrev Kk (K:Frag)(S:Ω->Prop)(H:Hp)(Q:VK):D->Prop:=fun d=>∀w H',g7 H H'->Hx K (nw S H) H' w d->Q w H'
theorem Hx.nw {K:Frag}{S:Ω->Prop}{H:Hp}{v:V}{d:D}(h:Hx K S H v d):Hx K (nw S H) H v d:=h.mono (fun _=>.inl) (.refl _)
theorem ES {K:Frag}{S:Ω->Prop}{H:Hp}{p:Ω}{vs:List V}{ds:List D}(hp:H p=Φ)(h:Hq K S H vs ds):Hx K (nw S H) (upd H p (.tup vs)) (.ref p) (.tup ds):=
 .tup (.inl (.inl gZ)) (h.mono (fun _=>.inl) (.upd hp))
theorem rB {K:Frag}{S:Ω->Prop}{H:Hp}{p:Ω}{vs:List V}{ds:List D}{o:Bool}(hp:H p=Φ)(h:Hq K S H vs ds):Hx K (nw S H) (upd H p (.lst vs)) (.ref p) (.lst o ds):=
 .lst (.inr hp) (.inl gZ) (h.mono (fun _=>.inl) (.upd hp))
noncomputable def NB:P2->Operator
 |.add=>.Add|.sub=>.Sub|.mul=>.Mult|.fdiv=>.FloorDiv|.mod=>.Mod|.pow=>.Pow
noncomputable def KQ:Mz->CmpOp
 |.eq=>.Eq|.ne=>.NotEq|.lt=>.Lt|.le=>.LtE|.gt=>.Gt|.K8=>.In|.Ko=>.NotIn|.N0=>.Is
def GU (K:Frag)(op:P2):R2:=fun x y H Q=>∃S d e,Hx K S H x d/\Hx K S H y e/\Hw (J1 op d e) (Kk K S H Q)
def GV (K:Frag)(op:Mz):R2:=fun x y H Q=>∃S d e,Hx K S H x d/\Hx K S H y e/\Hw (Jw op d e) fun r=>Q (.bl r) H
section
variable {X:Cx}
theorem i6 (h:iS n=Θ):n<=Ζ:=q_ h
theorem jR (h:iV n=Θ):n < Ζ:=q_ h
theorem ph:Kh X (binaryOp .Add) (fun x y H Q=>∃l b xs zs,x=.ref l/\y=.ref b/\Ls X.K H l xs/\Ls X.K H b zs/\xs.length+zs.length<=Ζ/\∀p,H p=Φ->Q (.ref p) (upd H p (.lst (xs++zs)))):=by
 intro pins s σ H x y v u Q I rx ry h;obtain⟨l,b,xs,zs,rfl,rfl,hH,hB,hz,q⟩:=h;cases rx;cases ry;obtain⟨hl,its,n,r,e⟩:=I.ls hH;obtain⟨MZ,Jk,n2,r2,e'⟩:=I.ls hB;have e1:=r.length;have e2:=r2.length;refine PySem.P.add_list e e' ?_ (by rw[E_,E_];omega);have ea:its.toArray++Jk.toArray=(its++Jk).toArray:=by simp
 rw[ea];exact⟨.ref _,_,I.OA (t':=s.toks) (r.append r2) (by rw[w_];omega),rfl,q _ I.fresh⟩
theorem wA {its:List Ψ}(r:Vals vs its):∀k:Nat,Vals (Τ k vs).flatten (Τ k its).flatten:=r.rep
theorem zK:Kh X (binaryOp .Mult) (fun x y H Q=>∃l k xs,x=.ref l/\y=.int k/\Ls X.K H l xs/\0<=k/\k<=16000/\xs.length<=1000/\∀p,H p=Φ->Q (.ref p) (upd H p (.lst (Τ k.toNat xs).flatten))):=by
 intro pins s σ H x y v u Q I rx ry h;obtain⟨l,k,xs,rfl,rfl,hH,h1,h2,hx,q⟩:=h;cases rx;obtain⟨t,rfl⟩:=ry;obtain⟨hl,its,n,r,e⟩:=I.ls hH;have el:=r.length;have hz:xs.length*k.toNat<=1000*16000:=Nat.mul_le_mul hx (by omega);have big:1000*16000<=Ζ:=by decide
 have hsz:its.toArray.size*k.toNat<=Ζ:=by rw[E_,<- el];omega
 have c1:¬its.toArray.size*k.toNat > (2 ^ 63 - 1) / 8:=by
  have:(Ζ:Nat)<=(2 ^ 63 - 1) / 8:=by decide
  omega
 have c2:¬(!Builtin.List.listFitsIndex k)=Θ:=by rw[fitsIndex_both (by omega) (by omega)];exact B_
 have c3:¬Builtin.List.listTooLong (its.toArray.size*k.toNat)=Θ:=by rw[vA hsz];exact B_
 have f0:∀m:Nat,List.foldl (fun a b=>a++b) #[] (Τ m its.toArray)=(Τ m its).flatten.toArray:=fun m=>by have z:=foldl_rep its m [];rw[List.nil_append]at z;exact z
 have f1:List.foldl (fun a b=>a++b) #[] (Τ (if its.toArray.isEmpty=Θ then 0 else k.toNat) its.toArray)=(Τ k.toNat its).flatten.toArray:=by
  rw[f0]
  induction its using zL with
  |nil=>simp
  |cons _ _=>rw[d_ (by simp)]
 refine wpAny_binaryOp_repeat_ref (T:="list") (U:="int") (by decide) ⟨_,e,rfl⟩ (fun s'=>typeIs_int s' k t) noFill_list_mul F.fills_int_mul F.slot_int_rmul repeat_list F.slot_int_index.lookup (call_meets F.slot_int_rmul (typeIs_int s k t) F.entry_int_rmul (F.args_int_rmul_2 _ _) (int___rmul___int_list k t l its.toArray n) ⟨e,rfl,⟨_,e,rfl⟩,call_meets F.slot_list_mul ⟨_,e,rfl⟩ F.entry_list_mul (F.args_list_mul_2 _ _) (AutoListH.list___mul___list_int_3 l its.toArray n k t c2 c1 c3) ⟨e,?_⟩⟩);rw[f1];exact⟨.ref _,_,I.OA (t':=s.toks) (wA r k.toNat) (by rw[len_rep,Nat.mul_comm];omega),rfl,q _ I.fresh⟩
theorem CH (op:P2):Kh X (binaryOp (NB op)) (GU X.K op):=by
 intro pins s σ H x y v u Q I rx ry h;obtain⟨S,d,e,hx,hy,h⟩:=h;have stuck:∀ {P:Prop},J1 op d e=Ir->P:=fun z=>by rw[z]at h;exact h.no.elim
 cases op with
 |add=>
  induction d using zD with
  |int a=>
   induction e using zD with
   |int b=>cases hx.ID;cases hy.ID;exact B3 pins s σ H _ _ v u Q I rx ry ⟨a,b,rfl,rfl,h.ok _ _ (.refl _) (.int _)⟩
   |_=>exact stuck rfl
  |str a=>
   induction e using zD with
   |str b=>cases hx.Jh;cases hy.Jh;obtain⟨g,h⟩:=Hw.HB h;exact qS pins s σ H _ _ v u Q I rx ry ⟨a,b,rfl,rfl,i6 g,h.ok _ _ (.refl _) (.str _)⟩
   |_=>exact stuck rfl
  |lst o a=>
   induction e using zD with
   |lst o' b=>obtain⟨p,xs,rfl,q1,m1⟩:=hx.Ny;obtain⟨p',ys,rfl,q2,m2⟩:=hy.Ny;obtain⟨g,h⟩:=Hw.HB h;have g':=i6 g;have l1:=m1.length;have l2:=m2.length;exact ph pins s σ H _ _ v u Q I rx ry ⟨p,p',xs,ys,rfl,rfl,q1,q2,by omega,fun z hz=>h.ok _ _ (.upd hz) (rB hz (m1.append m2))⟩
   |_=>exact stuck rfl
  |_=>exact stuck rfl
 |sub=>
  induction d using zD with
  |int a=>
   induction e using zD with
   |int b=>cases hx.ID;cases hy.ID;exact B4 pins s σ H _ _ v u Q I rx ry ⟨a,b,rfl,rfl,h.ok _ _ (.refl _) (.int _)⟩
   |_=>exact stuck rfl
  |_=>exact stuck rfl
 |mul=>
  induction d using zD with
  |int a=>
   induction e using zD with
   |int b=>cases hx.ID;cases hy.ID;obtain⟨g,h⟩:=Hw.HB h;rw[aaf]at g;exact B5 pins s σ H _ _ v u Q I rx ry ⟨a,b,rfl,rfl,g.elim (fun z=>.inl (q_ z)) (fun z=>.inr (q_ z)),h.ok _ _ (.refl _) (.int _)⟩
   |_=>exact stuck rfl
  |str a=>
   induction e using zD with
   |int b=>cases hx.Jh;cases hy.ID;obtain⟨g,h⟩:=Hw.HB h;have g':=q_ g;exact qW pins s σ H _ _ v u Q I rx ry ⟨a,b,rfl,rfl,g'.1,g'.2.1,g'.2.2,h.ok _ _ (.refl _) (.str _)⟩
   |_=>exact stuck rfl
  |lst _ _=>cases e<;>exact stuck rfl
  |_=>exact stuck rfl
 |fdiv=>
  induction d using zD with
  |int a=>
   induction e using zD with
   |int b=>cases hx.ID;cases hy.ID;obtain⟨g,h⟩:=Hw.HB h;exact yS pins s σ H _ _ v u Q I rx ry ⟨a,b,rfl,rfl,show 0 < b/\b < 1073741824 from q_ g,h.ok _ _ (.refl _) (.int _)⟩
   |_=>exact stuck rfl
  |_=>exact stuck rfl
 |mod=>
  induction d using zD with
  |int a=>
   induction e using zD with
   |int b=>cases hx.ID;cases hy.ID;obtain⟨g,h⟩:=Hw.HB h;exact B6 pins s σ H _ _ v u Q I rx ry ⟨a,b,rfl,rfl,q_ g,h.ok _ _ (.refl _) (.int _)⟩
   |_=>exact stuck rfl
  |_=>exact stuck rfl
 |pow=>
  induction d using zD with
  |int a=>
   induction e using zD with
   |int b=>cases hx.ID;cases hy.ID;obtain⟨g,h⟩:=Hw.HB h;exact B7 pins s σ H _ _ v u Q I rx ry ⟨a,b,rfl,rfl,show 0<=b/\b<=1000000/\a.natAbs < 2 ^ 64 from q_ g,h.ok _ _ (.refl _) (.int _)⟩
   |_=>exact stuck rfl
  |_=>exact stuck rfl
theorem Hw.Jn (h:Hw (L2.Jn n d e) k):∃r,L2.Jn n d e=.ok r/\k r:=by
 cases q:L2.Jn n d e with
 |ok r=>rw[q]at h;exact⟨r,rfl,h⟩
 |error z=>rw[q]at h;cases z;exact h.no.elim
theorem Hw.Jc:∀ {ds:List D}{k:Bool->Prop},Hw (L2.Jc d ds) k->∃f:Nat->Bool,(∀i e,ds[i]? = Δ e->L2.Jn 40 e d=.ok (f i))/\k ((List.range ds.length).any f)
 |[],k,h=>⟨fun _=>Ξ,fun i e z=>by simp at z,h⟩
 |e::r,k,h=>by
  obtain⟨x,XM,h1⟩:=Hw.Jn (Hw.Hn h);obtain⟨f,h2,h3⟩:=Hw.Jc (Hw.Hn h1);refine⟨fun i=>match i with|0=>x|j+1=>f j,fun i e' z=>?_,?_⟩
  ·cases i with
   |zero=>simp at z;subst z;exact XM
   |succ j=>exact h2 j e' (by simpa using z)
  ·rw[List.length_cons,List.range_succ_eq_map,List.any_cons,List.any_map];exact h3
theorem rC (its:List Ψ)(f:Nat->Bool)(h:∀i u,its[i]? = Δ u->EqAt A s u v (f i)) :
  ∃e:Ψ->Bool,(∀y,y∈its.toArray->EqAt A s y v (e y))/\its.toArray.any e=(List.range its.length).any f:=by
 classical
 refine⟨fun y=>decide (∃i,its[i]? = Δ y/\f i=Θ),fun y hy=>?_,?_⟩
 ·have Nt:y∈its:=by simpa using hy
  obtain⟨j,hj⟩:=List.getElem?_of_mem Nt;show EqAt A s y v (decide (∃i,its[i]? = Δ y/\f i=Θ));by_cases q:∃i,its[i]? = Δ y/\f i=Θ
  ·rw[u_ q];obtain⟨i,hi,fi⟩:=q;have:=h i y hi;rw[fi]at this;exact this
  ·rw[G_ q];have:=h j y hj;have fj:f j=Ξ:=by
    cases z:f j with
    |false=>rfl
    |true=>exact absurd ⟨j,hj,z⟩ q
   rw[fj]at this;exact this
 ·rw[Bool.eq_iff_iff];simp only[List.any_toArray,List.any_eq_true,Y_,decide_eq_true_eq];constructor
  ·rintro⟨y,hy,i,hi,fi⟩;exact⟨i,(p_.mp hi).1,fi⟩
  ·rintro⟨i,hi,fi⟩;exact⟨its[i],aaj hi,i,by simp[hi],fi⟩
theorem j9 (hu:X.A.units+42 < cLine)  (I:Inv X pins σ H s)(rx:RelV x v)(hx:Hx X.K S H x d)
   {its:List Ψ}  (rv:Vals xs its) (m:Hq X.K S H xs ds) (h:Hw (Jc d ds) k) :
  ∃e:Ψ->Bool,(∀y,y∈its.toArray->EqAt X.A.in1 s y v (e y))/\k (its.toArray.any e):=by
 obtain⟨f,h1,h2⟩:=Hw.Jc h;have l1:=rv.length;have l2:=m.length;obtain⟨e,h3,h4⟩:=rC (A:=X.A.in1) (s:=s) (v:=v) its f fun i u hi=>by have IQ:i < its.length:=(p_.mp hi).1;obtain⟨y,hy,my⟩:=m.get (i:=i) (d:=ds[i]'(by omega)) (by simp);obtain⟨u',Tw,ru⟩:=rv.get hy;rw[hi]at Tw;cases Tw;exact(pf I 40 X.A.in1 y x u v _ d _ my hx ru rx (h1 i _ (by simp)) (by show X.A.units+1+40 < cLine;omega)).eq
 refine⟨e,h3,?_⟩;rw[h4,show its.length=ds.length by omega];exact h2
theorem lD (hu:X.A.units+42 < cLine)(op:Mz):Kh X (compareOp (KQ op)) (GV X.K op):=by
 intro pins s σ H x y v u Q I rx ry h;obtain⟨S,d,e,hx,hy,h⟩:=h;have stuck:∀ {P:Prop},Jw op d e=Ir->P:=fun z=>by rw[z]at h;exact h.no.elim
 have fin:∀ {b:Bool},Q (.bl b) H->EP X pins σ Q (.bool b) s:=fun q=>⟨.bl _,H,I,rfl,q⟩
 cases op with
 |eq=>obtain⟨r,h1,h2⟩:=Hw.Jn h;exact(pf I 40 X.A x y v u d e r hx hy rx ry h1 (by omega)).rc _ _ _ _ (fin h2)
 |ne=>obtain⟨r,h1,h2⟩:=Hw.Jn (Hw.Hn h);exact(pf I 40 X.A x y v u d e r hx hy rx ry h1 (by omega)).ne _ _ _ _ (fin h2.ok)
 |lt=>
  induction d using zD with
  |int a=>
   induction e using zD with
   |int b=>cases hx.ID;cases hy.ID;obtain⟨t,rfl⟩:=rx;obtain⟨t',rfl⟩:=ry;exact lt_int (fin h.ok)
   |_=>exact stuck rfl
  |_=>exact stuck rfl
 |le=>
  induction d using zD with
  |int a=>
   induction e using zD with
   |int b=>cases hx.ID;cases hy.ID;obtain⟨t,rfl⟩:=rx;obtain⟨t',rfl⟩:=ry;exact le_int (fin h.ok)
   |_=>exact stuck rfl
  |_=>exact stuck rfl
 |gt=>
  induction d using zD with
  |int a=>
   induction e using zD with
   |int b=>cases hx.ID;cases hy.ID;obtain⟨t,rfl⟩:=rx;obtain⟨t',rfl⟩:=ry;exact gt_int (fin h.ok)
   |_=>exact stuck rfl
  |_=>exact stuck rfl
 |K8=>
  induction e using zD with
  |str b=>
   induction d using zD with
   |str a=>cases hx.Jh;cases hy.Jh;obtain⟨t,rfl⟩:=rx;obtain⟨t',rfl⟩:=ry;exact in_str (fin h.ok)
   |_=>exact stuck rfl
  |lst o ds=>obtain⟨a,xs,rfl,q1,m1⟩:=hy.IZ;cases ry;obtain⟨its,rv,pl,_⟩:=I.list q1;obtain⟨e,h1,h2⟩:=j9 hu I rx hx rv m1 (by induction d using zD<;>exact h);exact in_listAt e pl.isList h1 (fin h2)
  |tup ds=>obtain⟨a,xs,rfl,q1,m1⟩:=hy.Jy;cases ry;obtain⟨its,rv,pl,_⟩:=I.tuple q1;obtain⟨e,h1,h2⟩:=j9 hu I rx hx rv m1 (by induction d using zD<;>exact h);exact in_tupleAt e pl h1 (fin h2)
  |IB=>induction d using zD<;>exact stuck rfl
  |bl _=>induction d using zD<;>exact stuck rfl
  |int _=>induction d using zD<;>exact stuck rfl
  |IE _ _ _=>induction d using zD<;>exact stuck rfl
 |Ko=>
  induction e using zD with
  |str _=>induction d using zD<;>exact stuck rfl
  |lst o ds=>obtain⟨a,xs,rfl,q1,m1⟩:=hy.IZ;cases ry;obtain⟨its,rv,pl,_⟩:=I.list q1;obtain⟨e,h1,h2⟩:=j9 (k:=fun r=>Q (.bl !r) H) hu I rx hx rv m1 ((Hw.Hn (show Hw (Hn (Jc d ds) fun r=>.ok !r) (fun r=>Q (.bl r) H) by induction d using zD<;>exact h)).mono fun _ z=>z);exact notIn_listAt e pl.isList h1 (fin h2)
  |tup ds=>obtain⟨a,xs,rfl,q1,m1⟩:=hy.Jy;cases ry;obtain⟨its,rv,pl,_⟩:=I.tuple q1;obtain⟨e,h1,h2⟩:=j9 (k:=fun r=>Q (.bl !r) H) hu I rx hx rv m1 ((Hw.Hn (show Hw (Hn (Jc d ds) fun r=>.ok !r) (fun r=>Q (.bl r) H) by induction d using zD<;>exact h)).mono fun _ z=>z);exact notIn_tupleAt e pl h1 (fin h2)
  |IB=>induction d using zD<;>exact stuck rfl
  |bl _=>induction d using zD<;>exact stuck rfl
  |int _=>induction d using zD<;>exact stuck rfl
  |IE _ _ _=>induction d using zD<;>exact stuck rfl
 |N0=>
  induction e using zD with
  |IB=>
   cases hy.KO;cases ry;have ev:mQ d=(v == Value.none):=by
    cases hx with
    |IB=>cases rx;rfl
    |bl b=>cases rx;rfl
    |int i=>obtain⟨t,rfl⟩:=rx;rfl
    |str z=>obtain⟨t,rfl⟩:=rx;rfl
    |tup _ _=>cases rx;rfl
    |lst _ _ _=>cases rx;rfl
    |lstK _ _=>cases rx;rfl
    |IE _ _ _ _=>cases rx;rfl
   have h':Q (.bl (mQ d)) H:=by induction d using zD<;>exact h
   rw[ev]at h';exact is_none_gen (fin h')
  |_=>induction d using zD<;>exact stuck rfl
theorem mf (I:Inv X pins σ H s)(rx:RelV x v)(hx:Hx X.K S H x d)(h:Hw (il d) fun b=>Q b H) :
  Κ (Μ X.prog X.w) X.A (truthy v) (TP X pins σ Q) X.xe s:=by
 induction d using zD with
 |bl b=>cases hx.MW;cases rx;exact wpAny_truthy_bool ⟨H,I,h⟩
 |_=>exact h.no.elim
theorem sL {K:Frag}{S:Ω->Prop}{H:Hp}{vs:List V}{ds:List D}{i:Int}{d:D}(m:Hq K S H vs ds)(h:JG ds i=Δ d):∃v,JG vs i=Δ v/\Hx K S H v d:=by
 unfold JG at h ⊢;rw[m.length];cases q:Kc ds.length i with
 |none=>rw[q]at h;cases h
 |some j=>rw[q]at h;exact m.get h
def GW (K:Frag):R2:=fun x y H Q=>∃S d e,Hx K S H x d/\Hx K S H y e/\Hw (ir d e) (Kk K S H Q)
theorem zM:MU X (GW X.K):=by
 intro value slice pins s σ H x y v u Q I rx ry h hs;obtain⟨S,d,e,hx,hy,h⟩:=h;refine Cb value slice pins s σ H x y v u Q I rx ry ?_ hs;have stuck:∀ {P:Prop},ir d e=Ir->P:=fun z=>by rw[z]at h;exact h.no.elim
 induction e using zD with
 |int i=>
  cases hy.ID
  induction d using zD with
  |lst o ds=>
   obtain⟨a,xs,rfl,q,m⟩:=hx.IZ;have h':Hw (match JG ds i with|some d=>.ok d|none=>Ir) (Kk X.K S H Q):=h;cases z:JG ds i with
   |none=>rw[z]at h';exact h'.no.elim
   |some d=>rw[z]at h';obtain⟨w,ew,mw⟩:=sL m z;exact .inl ⟨a,xs,i,w,rfl,rfl,q,ew,h'.ok _ _ (.refl _) mw.nw⟩
  |tup ds=>
   obtain⟨a,xs,rfl,q,m⟩:=hx.Jy;have h':Hw (match JG ds i with|some d=>.ok d|none=>Ir) (Kk X.K S H Q):=h;cases z:JG ds i with
   |none=>rw[z]at h';exact h'.no.elim
   |some d=>rw[z]at h';obtain⟨w,ew,mw⟩:=sL m z;exact .inr (.inl ⟨a,xs,i,w,rfl,rfl,q,ew,h'.ok _ _ (.refl _) mw.nw⟩)
  |str z=>
   cases hx.Jh;obtain⟨g,h⟩:=Hw.HB h;cases q:JG z.cps.toList i with
   |none=>rw[q]at h;exact h.no.elim
   |some c=>rw[q]at h;exact .inr (.inr ⟨z,i,c,rfl,rfl,i6 g,q,h.ok _ _ (.refl _) (.str _)⟩)
  |_=>exact stuck rfl
 |_=>induction d using zD<;>exact stuck rfl
def GX (K:Frag):V->Option Int->Option Int->Hp->VK->Prop:=fun x lo hi H Q=>∃S d,Hx K S H x d/\Hw (qe d lo hi) (Kk K S H Q)
theorem CI:Tf X (fun x lo hi H Q=>∃z,x=.str z/\z.length<=Ζ/\Q (.str (Txt.slice z lo hi)) H):=by
 intro pins s σ H x v vl vu lo hi sl Q I rx hs pl pu h;obtain⟨z,rfl,hz,q⟩:=h;obtain⟨t,rfl⟩:=rx;refine⟨"str",_,F.slot_str_getitem.lookup,typeIs_str s z t,?_⟩;have fin:∀(l u:Option (Int×Tok)),vl=partValue l->vu=partValue u->l.map (·.1)=lo->u.map (·.1)=hi->Κ (Μ X.prog X.w) X.A (getItem (.str z t) (.ref sl)) (EP X pins σ Q) X.xe s:=by intro l u e1 e2 e3 e4;subst e1 e2 e3 e4;refine wpAny_getItem_str_slice (l:=l) (u:=u) (st:=Φ) hs rfl ?_;exact post_val_or_str ⟨Q_ (Txt.slice_le z _ _) hz,fun t' k=>⟨.str _,H,I.tok _,⟨_,rfl⟩,q⟩⟩
 cases pl with
 |none=>
  cases pu with
  |none=>exact fin Φ Φ rfl rfl rfl rfl
  |int j t'=>exact fin Φ (Δ (j,t')) rfl rfl rfl rfl
 |int i t'=>
  cases pu with
  |none=>exact fin (Δ (i,t')) Φ rfl rfl rfl rfl
  |int j t''=>exact fin (Δ (i,t')) (Δ (j,t'')) rfl rfl rfl rfl
end
open PySem.W
section
variable {prog:Ε}{w:Β}{A:Ι}{E:Ψ->Α->Prop}{K:Frag}{x C:Ω}{hh:Heap}{g:Array GenState}{d:Drawn}{t:Nat}{os:OsState}
open Builtin Builtin.ObjectAttr Builtin.Getset_descriptor in
end
section
variable {X:Cx}
theorem sM {K:Frag}{S:Ω->Prop}{H:Hp}{vs:List V}{ds:List D}(lo hi:Option Int)(m:Hq K S H vs ds):Hq K S H (uv vs lo hi) (jj ds lo hi):=by unfold uv jj;rw[m.length];exact(m.drop _).take _
theorem zN:Tf X (GX X.K):=by
 intro pins s σ H x v vl vu lo hi sl Q I rx hs pl pu h;obtain⟨S,d,hx,h⟩:=h
 induction d using zD with
 |lst o ds=>obtain⟨a,xs,rfl,q,m⟩:=hx.IZ;exact si pins s σ H _ v vl vu lo hi sl Q I rx hs pl pu ⟨a,xs,rfl,q,fun p hp=>h.ok _ _ (.upd hp) (rB hp (sM lo hi m))⟩
 |str z=>cases hx.Jh;obtain⟨g,h⟩:=Hw.HB h;exact CI pins s σ H _ v vl vu lo hi sl Q I rx hs pl pu ⟨z,rfl,i6 g,h.ok _ _ (.refl _) (.str _)⟩
 |_=>exact h.no.elim
theorem qm:∀ {us:List Ψ},Vals (ns.map V.str) us->StrsAre us ns:=by
 induction ns with
 |nil=>intro us r;rw[List.map_nil]at r;cases r;exact .nil
 |cons n ns ih=>
  intro us r;rw[b_]at r;cases r with
  |cons r1 r2=>obtain⟨t,e⟩:=r1;subst e;exact .cons n t (ih r2)
theorem jS:∀ {ds:List D}{ns:List Int},iI ds=Δ ns->ds=ns.map .int
 |[],ns,h=>by cases h;rfl
 |.int i::r,ns,h=>by
  have h':(iI r).map (i::·)=Δ ns:=h;cases q:iI r with
  |none=>rw[q]at h';cases h'
  |some ms=>rw[q]at h';cases h';rw[jS q];rfl
 |.IB::_,_,h=>by cases h
 |.bl _::_,_,h=>by cases h
 |.str _::_,_,h=>by cases h
 |.tup _::_,_,h=>by cases h
 |.lst _ _::_,_,h=>by cases h
theorem mT:∀ {ds:List D}{ns:List Str},jF ds=Δ ns->ds=ns.map .str
 |[],ns,h=>by cases h;rfl
 |.str i::r,ns,h=>by
  have h':(jF r).map (i::·)=Δ ns:=h;cases q:jF r with
  |none=>rw[q]at h';cases h'
  |some ms=>rw[q]at h';cases h';rw[mT q];rfl
 |.IB::_,_,h=>by cases h
 |.bl _::_,_,h=>by cases h
 |.int _::_,_,h=>by cases h
 |.tup _::_,_,h=>by cases h
 |.lst _ _::_,_,h=>by cases h
theorem lE:∀ {ds:List D}{ns:List Bool},jk ds=Δ ns->ds=ns.map .bl
 |[],ns,h=>by cases h;rfl
 |.bl i::r,ns,h=>by
  have h':(jk r).map (i::·)=Δ ns:=h;cases q:jk r with
  |none=>rw[q]at h';cases h'
  |some ms=>rw[q]at h';cases h';rw[lE q];rfl
 |.IB::_,_,h=>by cases h
 |.str _::_,_,h=>by cases h
 |.int _::_,_,h=>by cases h
 |.tup _::_,_,h=>by cases h
 |.lst _ _::_,_,h=>by cases h
theorem uO (hc:X.calm=Θ):ji X (.builtin "all") (fun xs H Q=>∃(p:Ω) (bs:List Bool),xs=[.ref p]/\Jo X.K H p (bs.map V.bl)/\Q (.bl (bs.all id)) H):=by
 intro pins s σ H xs us Q I r h;obtain⟨p,bs,rfl,hq,q⟩:=h;obtain⟨u,rfl,rx⟩:=vals1 r;cases rx;obtain⟨its,rv,pl,hz⟩:=I.list hq;have hl:=rv.length;rw[g_]at hl;have IQ:p < s.heap.objs.size:=by obtain⟨o,e,_⟩:=pl.isList;exact j_ e
 refine call_all_walk (aaz pl.isList ?_);refine⟨s.heap.objs.size,_,_,_,_,_,fun i=>bs.getD i Θ,rfl,Walks.list (A:=X.A.in1) (show X.A.in1.handled=Φ from I.ok.hd hc) s.heap.objs.size p (m_ IQ) its.toArray,⟨⟨_,z_ _ rfl,rfl,rfl⟩,?_⟩,?_,?_⟩
 ·obtain⟨o,e,c,n,d⟩:=pl.isList;exact⟨o,l_ _ e,c,n,d⟩
 ·intro i v s' Q' E' hv OU;have N2:its[i]? = Δ v:=by simpa using hv
  have MC:i < bs.length:=by have:=(p_.mp N2).1;omega
  obtain⟨u,hu,ru⟩:=rv.get (i:=i) (x:=.bl bs[i]) (by rw[A_,x_ MC];rfl);rw[N2]at hu;cases hu;cases ru;refine wpAny_truthy_bool ?_;have e:bs.getD i Θ=bs[i]:=by simp[List.getD,MC]
  rw[<- e];exact OU
 ·intro h' tk kp;have Ln:(List.range its.toArray.size).all (fun i=>bs.getD i Θ)=bs.all id:=by
   rw[show its.toArray.size=bs.length by simp[hl]];rw[Bool.eq_iff_iff,W_,W_];constructor
   ·intro z b hb;obtain⟨i,hi,rfl⟩:=List.getElem_of_mem hb;have:=z i (Y_.mpr hi);simpa[List.getD,hi] using this
   ·intro z i hi;have K6:=Y_.mp hi;have:=z bs[i] (aaj K6);simpa[List.getD,K6] using this
  rw[Ln];refine⟨.bl (bs.all id),H,I.kept (t':=tk) fun b o e=>kp b o ?_ (l_ _ e),rfl,q⟩;intro hm;have hb:b=s.heap.objs.size:=by simpa using hm
  subst hb;exact absurd (j_ e) (aab _)
theorem uP (hc:X.calm=Θ):ji X (.builtin "any") (fun xs H Q=>∃(p:Ω) (bs:List Bool),xs=[.ref p]/\Jo X.K H p (bs.map V.bl)/\Q (.bl (bs.any id)) H):=by
 intro pins s σ H xs us Q I r h;obtain⟨p,bs,rfl,hq,q⟩:=h;obtain⟨u,rfl,rx⟩:=vals1 r;cases rx;obtain⟨its,rv,pl,hz⟩:=I.list hq;have hl:=rv.length;rw[g_]at hl;have IQ:p < s.heap.objs.size:=by obtain⟨o,e,_⟩:=pl.isList;exact j_ e
 refine call_any_walk (aaz pl.isList ?_);refine⟨s.heap.objs.size,_,_,_,_,_,fun i=>bs.getD i Ξ,rfl,Walks.list (A:=X.A.in1) (show X.A.in1.handled=Φ from I.ok.hd hc) s.heap.objs.size p (m_ IQ) its.toArray,⟨⟨_,z_ _ rfl,rfl,rfl⟩,?_⟩,?_,?_⟩
 ·obtain⟨o,e,c,n,d⟩:=pl.isList;exact⟨o,l_ _ e,c,n,d⟩
 ·intro i v s' Q' E' hv OU;have N2:its[i]? = Δ v:=by simpa using hv
  have MC:i < bs.length:=by have:=(p_.mp N2).1;omega
  obtain⟨u,hu,ru⟩:=rv.get (i:=i) (x:=.bl bs[i]) (by rw[A_,x_ MC];rfl);rw[N2]at hu;cases hu;cases ru;refine wpAny_truthy_bool ?_;have e:bs.getD i Ξ=bs[i]:=by simp[List.getD,MC]
  rw[<- e];exact OU
 ·intro h' tk kp;have Ln:(List.range its.toArray.size).any (fun i=>bs.getD i Ξ)=bs.any id:=by
   rw[show its.toArray.size=bs.length by simp[hl]];rw[Bool.eq_iff_iff,List.any_eq_true,List.any_eq_true];constructor
   ·rintro⟨i,hi,z⟩;have K6:=Y_.mp hi;exact⟨bs[i],aaj K6,by simpa[List.getD,K6] using z⟩
   ·rintro⟨b,hb,z⟩;obtain⟨i,hi,rfl⟩:=List.getElem_of_mem hb;exact⟨i,Y_.mpr hi,by simpa[List.getD,hi] using z⟩
  rw[Ln];refine⟨.bl (bs.any id),H,I.kept (t':=tk) fun b o e=>kp b o ?_ (l_ _ e),rfl,q⟩;intro hm;have hb:b=s.heap.objs.size:=by simpa using hm
  subst hb;exact absurd (j_ e) (aab _)
noncomputable def jT:Bi->Str
 |.len=>"len" |.min2=>"min" |.max2=>"max" |.list=>"list" |.tuple=>"tuple" |.ord=>"ord" |.all=>"all" |.any=>"any" |.abs=>"abs"
noncomputable def ET:Bi->Bool
 |.list=>Θ|.tuple=>Θ
 |_=>Ξ
noncomputable def EU:Bi->String
 |.len=>"len" |.min2=>"min" |.max2=>"max" |.list=>"list" |.tuple=>"tuple" |.ord=>"ord" |.all=>"all" |.any=>"any" |.abs=>"abs"
noncomputable def wB (f:Bi):Ψ:=if ET f=Θ then .type (EU f) else .builtin (EU f)
theorem sN (f:Bi):bootBuiltins (jT f)=Δ (wB f):=by cases f<;>decide +kernel
def Yu (K:Frag)(f:Bi):List V->Hp->VK->Prop:=fun xs H Q=>∃S ds,Hq K S H xs ds/\Hw (jr f ds) (Kk K S H Q)
theorem Hq.OV {K:Frag}{S:Ω->Prop}{H:Hp}{xs:List V}{d:D}(h:Hq K S H xs [d]):∃x,xs=[x]/\Hx K S H x d:=by
 cases h with
 |cons h1 h2=>cases h2;exact⟨_,rfl,h1⟩
theorem Hq.Vo {K:Frag}{S:Ω->Prop}{H:Hp}{xs:List V}{d e:D}(h:Hq K S H xs [d,e]):∃x y,xs=[x,y]/\Hx K S H x d/\Hx K S H y e:=by
 cases h with
 |cons h1 h2=>
  cases h2 with
  |cons h3 h4=>cases h4;exact⟨_,_,rfl,h1,h3⟩
theorem kJ {K:Frag}{S:Ω->Prop}{H:Hp}:∀kvs:List (Key×V),Hq K S H (kvs.map fun q=>kV q.1) ((kvs.map (·.1)).map zA)
 |[]=>.nil
 | (.inl i,_)::r=>.cons (.int i) (kJ r)
 | (.inr x,_)::r=>.cons (.str x) (kJ r)
theorem zP (hc:X.calm=Θ)(f:Bi):ji X (wB f) (Yu X.K f):=by
 intro pins s σ H xs us Q I r h;obtain⟨S,ds,hx,h⟩:=h;have stuck:∀ {P:Prop},jr f ds=Ir->P:=fun z=>by rw[z]at h;exact h.no.elim
 have one:∀ {d e:D}{r':List D},ds=d::e::r'->¬(f=.min2∨f=.max2)->jr f ds=Ir:=by intro d e r' z nf;subst z;cases f<;>first|rfl|(exfalso;exact nf (.inl rfl))|(exfalso;exact nf (.inr rfl))|(induction d using zD<;>rfl)
 have two:∀ {d e g:D}{r':List D},ds=d::e::g::r'->jr f ds=Ir:=by intro d e g r' z;subst z;cases f<;>first|rfl|(induction d using zD<;>rfl)|(induction d using zD<;>induction e using zD<;>rfl)
 have nil:ds=[]->jr f ds=Ir:=by intro z;subst z;cases f<;>rfl
 match ds,hx with
 |[],hx=>exact stuck (nil rfl)
 |d::e::g::r',hx=>exact stuck (two rfl)
 |[d,e],hx=>
  by_cases nf:f=.min2∨f=.max2
  ·obtain⟨x,y,rfl,hd,he⟩:=hx.Vo;rcases nf with rfl|rfl
   ·induction d using zD with
    |int a=>
     induction e using zD with
     |int b=>cases hd.ID;cases he.ID;exact ur hc pins s σ H _ us Q I r ⟨a,b,rfl,h.ok _ _ (.refl _) (.int _)⟩
     |_=>exact stuck rfl
    |_=>exact stuck rfl
   ·induction d using zD with
    |int a=>
     induction e using zD with
     |int b=>cases hd.ID;cases he.ID;exact uq hc pins s σ H _ us Q I r ⟨a,b,rfl,h.ok _ _ (.refl _) (.int _)⟩
     |_=>exact stuck rfl
    |_=>exact stuck rfl
  ·exact stuck (one rfl nf)
 |[d],hx=>
  obtain⟨x,rfl,hd⟩:=hx.OV;cases f with
  |len=>
   induction d using zD with
   |str z=>cases hd.Jh;obtain⟨g,h⟩:=Hw.HB h;exact mB pins s σ H _ us Q I r ⟨_,_,rfl,⟨i6 g,rfl⟩,h.ok _ _ (.refl _) (.int _)⟩
   |tup ds=>obtain⟨a,ys,rfl,q,m⟩:=hd.Jy;exact mB pins s σ H _ us Q I r ⟨_,ds.length,rfl,.inr ⟨ys,q,m.length.symm⟩,h.ok _ _ (.refl _) (.int _)⟩
   |lst o ds=>obtain⟨a,ys,rfl,q,m⟩:=hd.IZ;exact mB pins s σ H _ us Q I r ⟨_,ds.length,rfl,.inl ⟨ys,q,m.length.symm⟩,h.ok _ _ (.refl _) (.int _)⟩
   |_=>exact stuck rfl
  |all=>
   induction d using zD with
   |lst o ds=>
    obtain⟨a,ys,rfl,q,m⟩:=hd.IZ;have h':Hw (match jk ds with|some bs=>.ok (.bl (bs.all id))|none=>Ir) (Kk X.K S H Q):=h;cases z:jk ds with
    |none=>rw[z]at h';exact h'.no.elim
    |some ns=>rw[z]at h';rw[lE z]at m;rw[m.Yt]at q;exact uO hc pins s σ H _ us Q I r ⟨a,ns,rfl,q,h'.ok _ _ (.refl _) (.bl _)⟩
   |_=>exact stuck rfl
  |any=>
   induction d using zD with
   |lst o ds=>
    obtain⟨a,ys,rfl,q,m⟩:=hd.IZ;have h':Hw (match jk ds with|some bs=>.ok (.bl (bs.any id))|none=>Ir) (Kk X.K S H Q):=h;cases z:jk ds with
    |none=>rw[z]at h';exact h'.no.elim
    |some ns=>rw[z]at h';rw[lE z]at m;rw[m.Yt]at q;exact uP hc pins s σ H _ us Q I r ⟨a,ns,rfl,q,h'.ok _ _ (.refl _) (.bl _)⟩
   |_=>exact stuck rfl
  |ord=>
   induction d using zD with
   |str z=>cases hd.Jh;obtain⟨g,h⟩:=Hw.HB h;exact vx pins s σ H _ us Q I r ⟨z,rfl,q_ g,h.ok _ _ (.refl _) (.int _)⟩
   |_=>exact stuck rfl
  |list=>
   induction d using zD with
   |lst o ds=>obtain⟨a,ys,rfl,q,m⟩:=hd.IZ;exact kA pins s σ H _ us Q I r ⟨a,ys,rfl,.inl q,fun p hp=>h.ok _ _ (.upd hp) (rB hp m)⟩
   |IE o ks ds=>
    cases hd with
    |IE h0 h1 h2 h3=>subst h2;exact mO hc pins s σ H _ us Q I r ⟨_,_,rfl,h1,fun p hp=>h.ok _ _ (.upd hp) (rB hp (kJ _))⟩
   |_=>exact stuck rfl
  |abs=>
   induction d using zD with
   |int i=>cases hd.ID;exact vw pins s σ H _ us Q I r ⟨i,rfl,h.ok _ _ (.refl _) (.int _)⟩
   |_=>exact stuck rfl
  |min2=>induction d using zD<;>exact stuck rfl
  |max2=>induction d using zD<;>exact stuck rfl
  |tuple=>
   induction d using zD with
   |lst o ds=>obtain⟨a,ys,rfl,q,m⟩:=hd.IZ;exact nC pins s σ H _ us Q I r ⟨a,ys,rfl,.inl ⟨q,fun p hp=>h.ok _ _ (.upd hp) (ES hp m)⟩⟩
   |_=>exact stuck rfl
noncomputable def ko:Kd->Str
 |.str=>"str" |.int=>"int" |.bool=>"bool" |.list=>"list" |.tuple=>"tuple"
noncomputable def wC:Kd->Ψ
 |.str=>.type "str" |.int=>.type "int" |.bool=>.type "bool" |.list=>.type "list" |.tuple=>.type "tuple"
theorem zQ (k:Kd):bootBuiltins (ko k)=Δ (wC k):=by cases k<;>decide +kernel
noncomputable def dTy:D->Ψ
 |.IB=>.type "NoneType" |.bl _=>.type "bool" |.int _=>.type "int" |.str _=>.type "str" |.tup _=>.type "tuple" |.lst _ _=>.type "list" |.IE _ _ _=>.none
theorem zR (K:Frag)(k:Kd)(d:D)(hn:mR d=Θ):PySem.W.kitOne K (dTy d) (wC k)=Δ (jA k d):=by cases k<;>induction d using zD<;>first|rfl|cases hn
theorem zU (I:Inv X pins σ H s)(rx:RelV x v)(hx:Hx X.K S H x d)(k:Kd)(hn:mR d=Θ)(h:Q (.bl (jA k d)) H) :
  Κ (Μ X.prog X.w) X.A (call (.builtin "isinstance") [v,wC k]) (EP X pins σ Q) X.xe s:=by
 have e:=zR X.K k d hn;have fin:∀tk,EP X pins σ Q (.bool (jA k d)) {s with toks:=tk}:=fun tk=>⟨.bl _,H,I.tok _,rfl,h⟩
 induction d using zD with
 |IB=>cases hx.KO;cases rx;exact PySem.W.kia_one PySem.W.kitx_none I.Lg True.intro e (fun z=>nomatch z) fin
 |bl b=>cases hx.MW;cases rx;exact PySem.W.kia_one PySem.W.kitx_bool I.Lg True.intro e (fun z=>nomatch z) fin
 |int b=>cases hx.ID;obtain⟨t,rfl⟩:=rx;exact PySem.W.kia_one PySem.W.kitx_int I.Lg True.intro e (fun z=>nomatch z) fin
 |str b=>cases hx.Jh;obtain⟨t,rfl⟩:=rx;exact PySem.W.kia_one PySem.W.kitx_str I.Lg True.intro e (fun z=>nomatch z) fin
 |tup ds=>obtain⟨a,ys,rfl,q,m⟩:=hx.Jy;cases rx;obtain⟨its,_,⟨o,h1,h2,_⟩,_⟩:=I.tuple q;exact PySem.W.kia_one PySem.W.kitx_tuple I.Lg ⟨o,h1,h2⟩ e (fun z=>nomatch z) fin
 |lst o ds=>obtain⟨a,ys,rfl,q,m⟩:=hx.IZ;cases rx;obtain⟨its,_,pl,_⟩:=I.list q;obtain⟨o,h1,h2,_⟩:=pl.isList;exact PySem.W.kia_one PySem.W.kitx_list I.Lg ⟨o,h1,h2⟩ e (fun z=>nomatch z) fin
 |IE o ks ds=>cases hn
noncomputable def mU:Mt->Str
 |.join=>"join"
noncomputable def GY:Mt->String
 |.join=>"str.join"
def Yv (K:Frag)(m:Mt):V->List V->Hp->VK->Prop:=fun x xs H Q=>∃S d ds,Hx K S H x d/\Hq K S H xs ds/\Hw (nJ m d ds) (Kk K S H Q)
theorem wF (h:Hw (nJ m d ds) k):∃x,d=.str x:=by cases m<;>induction d using zD<;>first|exact⟨_,rfl⟩|exact h.no.elim
theorem zV (m:Mt):UJ X (GY m) (Yv X.K m):=by
 intro pins s σ H x xs v us Q I rx rs h;obtain⟨S,d,ds,hx,hs,h⟩:=h;obtain⟨z,rfl⟩:=wF h;cases hx.Jh;obtain⟨t,rfl⟩:=rx;have stuck:∀ {P:Prop},nJ m (.str z) ds=Ir->P:=fun z=>by rw[z]at h;exact h.no.elim
 match ds,hs with
 |[],_=>cases m<;>exact stuck rfl
 |d::e::r,_=>cases m<;>induction d using zD<;>exact stuck rfl
 |[d],hs=>
  obtain⟨y,rfl,hd⟩:=hs.OV;obtain⟨u,rfl,ru⟩:=vals1 rs;cases m with
  |join=>
   induction d using zD with
   |lst o ds=>
    obtain⟨a,ys,rfl,q,m⟩:=hd.IZ;cases ru;have h':Hw (match jF ds with|some ys=>HB (decide ((ys.map (·.length)).sum+ys.length*z.length<=16777216)) (.ok (.str (Txt.join z ys)))|none=>Ir) (Kk X.K S H Q):=h;cases w:jF ds with
    |none=>rw[w]at h';exact h'.no.elim
    |some ns=>rw[w]at h';obtain⟨g,h'⟩:=Hw.HB h';rw[mT w]at m;rw[m.strs]at q;obtain⟨its,rv,pl,_⟩:=I.list q;exact join_list pl.isList (by simpa using qm rv) (q_ g) fun t' k=>⟨.str _,H,I.tok _,⟨_,rfl⟩,h'.ok _ _ (.refl _) (.str _)⟩
   |_=>exact stuck rfl
noncomputable def Vp (x:Str):It:=⟨fun i _=>i < x.cps.size,fun i H v H'=>H'=H/\∃c,x.cps[i]? = Δ c/\v=.str ⟨#[c]⟩,fun i _=>x.cps.size<=i⟩
theorem wG {P:Ε}{w:Β}{K:Frag}{tg:Expr}{it:Ω}{x:Str}{t:Tok}{ty:String}(PR:ty = "str_ascii_iterator"∨ty = "str_iterator")
  (W:∀A':Ι,A'.handled=Φ->Walks P w A' it [it] [it] x.cps.size (SignAt x) (fun i h=>h.IsStrIter it ty x t i)):Turn P w K tg (Vp x) [it] it (fun i h=>i<=x.cps.size/\h.IsStrIter it ty x t i) where
 mem:=by simp
 obj:=fun i h st b hb=>by
  have e:b=it:=by simpa using hb
  subst e;obtain⟨_,o,e,c,d⟩:=st;exact⟨o,e,fun v z=>by rw[d]at z;cases z⟩
 keep:=fun i h h' st k=>by obtain⟨l,o,e,c,d⟩:=st;exact⟨l,o,k it (by simp) o e,c,d⟩
 item:=by intro X hP hw hK hc i pins s σ H E I hf st hg;subst hP hw hK;obtain⟨f0,f1,f2,f3,f4,f5⟩:=hf it (by simp);refine(W X.A (I.ok.hd hc)).item i s _ _ hg st.2 fun v h' tk hv Mo kk=>?_;obtain⟨c,u,hcx,rfl⟩:=hv;have I1:Inv X pins σ H {s with heap:=h',toks:=tk}:=I.turned (fun b o hb e=>kk b o (by simpa using hb) e) f0 f1 f3 f4 f5;obtain⟨o,e,cc,d⟩:=id Mo;refine⟨_,rfl,r9 (s:={s with heap:=h',toks:=tk}) (n:=ty) e cc d (by rcases PR with rfl|rfl<;>decide) ⟨.str ⟨#[c]⟩,H,I1,⟨u,rfl⟩,⟨rfl,c,hcx,rfl⟩,⟨hg,Mo⟩,fun b hb=>(hf b hb).1⟩⟩
 done:=by intro X hP hw hK hc i pins s σ H E I hf st hg;subst hP hw hK;obtain⟨f0,f1,f2,f3,f4,f5⟩:=hf it (by simp);have e:i=x.cps.size:=Nat.le_antisymm st.1 hg;refine(W X.A (I.ok.hd hc)).done s _ _ (by rw[<- e];exact st.2) fun h' tk kk=>⟨rfl,I.turned (fun b o hb e=>kk b o (by simpa using hb) e) f0 f1 f3 f4 f5⟩
 self:=fun A i s Q E st h=>by
  obtain⟨_,st⟩:=st;rcases PR with rfl|rfl
  ·exact wpAny_pyIter_striter_ascii st h
  ·exact wpAny_pyIter_striter_wide st h
theorem CJ (I:Inv X pins σ H s)(q:R (Vp x) H):Κ (Μ X.prog X.w) X.A (pyIter (.str x t)) (PQ X pins σ tg R) X.xe s:=by
 have fin:∀ty,(ty = "str_ascii_iterator"∨ty = "str_iterator")->(∀A':Ι,A'.handled=Φ->Walks X.prog X.w A' s.heap.objs.size [s.heap.objs.size] [s.heap.objs.size] x.cps.size (SignAt x) (fun i h=>h.IsStrIter s.heap.objs.size ty x t i))->
   PQ X pins σ tg R (.ref s.heap.objs.size) {s with heap:=s.heap.push {cls:=.type ty,data:=.fields #[.str x t,.int 0 0]}}:=fun ty PR W=>by
  refine⟨s.heap.objs.size,[s.heap.objs.size],_,_,H,rfl,I.kept (t':=s.toks) fun b o e=>l_ _ e,wG PR W,⟨Z_ _,_,z_ _ rfl,rfl,rfl⟩,fun b hb=>?_,q⟩;have e:b=s.heap.objs.size:=by simpa using hb
  subst e;exact I.Ll (n_ _) (I.IF.fresh (n_ _))
 cases ha:x.cps.all (· < 128)
 ·exact wpAny_pyIter_wide ha (fin _ (.inr rfl) fun A' hA=>Walks.strWide hA _ x t)
 ·exact wpAny_pyIter_ascii ha (fin _ (.inl rfl) fun A' hA=>Walks.strAscii hA _ x t)
end
end L2
namespace PySem
open Sem (wp)
namespace Heap
end Heap
end PySem
namespace L2
open PySem PySem.Spec PyProof.Rows PySem.SeqAt
theorem iz.at (x:iz P w H h a o):∃ob,h.get? a=Δ ob:=by
 cases o with
 |lst xs=>obtain⟨_,_,_,_,e⟩:=x;exact⟨_,e⟩
 |tup xs=>obtain⟨_,_,_,ob,e,_⟩:=x;exact⟨_,e⟩
 |dK kvs=>obtain⟨_,_,_,_,o,_,_,e,_⟩:=x;exact⟨_,e⟩
 |dT kvs=>obtain⟨_,_,_,_,o,_,_,e,_⟩:=x;exact⟨_,e⟩
 |set S n=>obtain⟨o,_,_,_,e,_⟩:=x;exact⟨_,e⟩
 |ins C dx fs=>obtain⟨_,_,_,e,_⟩:=x;exact⟨_,e⟩
 |own y=>exact x
 |xd fs=>obtain⟨_,⟨_,_,_,e,_⟩,_⟩:=x;exact⟨_,e⟩
 |Mg lo hi=>obtain⟨_,_,_,e⟩:=x;exact⟨_,e⟩
 |IH ob u=>exact⟨_,x.1⟩
 |NO ps=>exact⟨_,x⟩
 |met f y=>exact⟨_,x⟩
 |ext φ=>exact x.2.1
noncomputable def indep:HO->Bool
 |.lst _=>Θ
 |.tup _=>Θ
 |.ext _=>Θ
 |.dK _=>Θ
 |_=>Ξ
theorem mV (i:indep u=Θ)(x:iz P w H h a u):iz P w H' h a u:=by
 cases u with
 |lst _=>exact x
 |tup _=>exact x
 |ext _=>exact x
 |dK _=>exact x
 |_=>cases i
noncomputable def iF (h:Heap)(H:Hp):Hp:=fun b=>match H b with
 |some (.lst xs)=>(h.get? b).map fun o=>.IH o (.lst xs)
 |some (.dK kvs)=>(h.get? b).map fun o=>.IH o (.dK kvs)
 |some (.tup xs)=>Δ (.tup xs)
 |some (.IH o u)=>if indep u=Θ then Δ (.IH o u) else Φ
 |_=>Φ
noncomputable def kK (H H':Hp):Hp:=fun b=>match H b with
 |some o=>Δ o
 |none=>H' b
def Yw (H:Hp):Prop:=∀b o,H b=Δ o->(∃ob u,o=.IH ob u)∨∃xs,o=.tup xs
theorem wH (h:Heap)(H:Hp):Yw (iF h H):=fun b o e=>by
 unfold iF at e;split at e
 ·obtain⟨ob,_,rfl⟩:=aag.mp e;exact .inl ⟨_,_,rfl⟩
 ·obtain⟨ob,_,rfl⟩:=aag.mp e;exact .inl ⟨_,_,rfl⟩
 ·cases e;exact .inr ⟨_,rfl⟩
 ·split at e
  ·cases e;exact .inl ⟨_,_,rfl⟩
  ·cases e
 ·cases e
structure K' (h:Heap)(Hc H':Hp):Prop where
 JA:∀b o u,Hc b=Δ (.IH o u)->H' b=Δ (.IH o u)
 JY:∀b xs,Hc b=Δ (.tup xs)->H' b=Δ (.tup xs)
 free:∀b o,h.get? b=Δ o->Hc b=Φ->H' b=Φ
inductive Bk (h:Heap)(H H':Hp)(b:Ω):HO->Prop where
 | lst {xs:List V}{ob:Obj}:h.get? b=Δ ob->H' b=Δ (.IH ob (.lst xs))->Bk h H H' b (.lst xs)
 | dK {xs:List (Key×V)}{ob:Obj}:h.get? b=Δ ob->H' b=Δ (.IH ob (.dK xs))->Bk h H H' b (.dK xs)
 | tup {xs:List V}:H' b=Δ (.tup xs)->Bk h H H' b (.tup xs)
 | IH {o:Obj}{u:HO}:indep u=Θ->H' b=Δ (.IH o u)->Bk h H H' b (.IH o u)
 | JL {o:HO}{ob:Obj}:h.get? b=Δ ob->iF h H b=Φ->H' b=Φ->(∀xs,o≠.lst xs)->(∀xs,o≠.tup xs)->(∀xs,o≠.dK xs)->Bk h H H' b o
section
variable {P:Ε}{w:Β}{H H':Hp}{h g:Heap}
theorem qo (x:Ji P w H h)(p:K' h (iF h H) H')  (e:H b=Δ o):Bk h H H' b o:=by
 obtain⟨ob,he⟩:=(x b o e).at
 have hc:iF h H b=(match(Δ o:Option HO) with
  |some (.lst xs)=>(h.get? b).map fun o=>.IH o (.lst xs)
  |some (.dK kvs)=>(h.get? b).map fun o=>.IH o (.dK kvs)
  |some (.tup xs)=>Δ (.tup xs)
  |some (.IH o u)=>if indep u=Θ then Δ (.IH o u) else Φ
  |_=>Φ):=by unfold iF;rw[e]
 cases o with
 |lst xs=>have hc:iF h H b=(h.get? b).map fun o=>.IH o (.lst xs):=hc;rw[he]at hc;exact .lst he (p.JA _ _ _ hc)
 |dK xs=>have hc:iF h H b=(h.get? b).map fun o=>.IH o (.dK xs):=hc;rw[he]at hc;exact .dK he (p.JA _ _ _ hc)
 |tup xs=>exact .tup (p.JY _ _ hc)
 |IH o' u=>
  have hc:iF h H b=if indep u=Θ then Δ (.IH o' u) else Φ:=hc
  by_cases i:indep u=Θ
  ·rw[f_ i]at hc;exact .IH i (p.JA _ _ _ hc)
  ·rw[d_ i]at hc;exact .JL he hc (p.free _ _ he hc) (fun _ z=>by cases z) (fun _ z=>by cases z) (fun _ z=>by cases z)
 |_=>exact .JL he hc (p.free _ _ he hc) (fun _ z=>by cases z) (fun _ z=>by cases z) (fun _ z=>by cases z)
theorem wI (x:Ji P w H h):Ji P w (iF h H) h:=fun b o e=>by
 cases q:H b with
 |none=>unfold iF at e;rw[q]at e;cases e
 |some u=>
  have y:=x b u q;unfold iF at e;rw[q]at e;cases u with
  |lst xs=>
   obtain⟨ob,he⟩:=y.at
   have e:(h.get? b).map (fun o=>HO.IH o (.lst xs))=Δ o:=e;rw[he]at e;cases e;exact⟨he,y⟩
  |dK xs=>
   obtain⟨ob,he⟩:=y.at
   have e:(h.get? b).map (fun o=>HO.IH o (.dK xs))=Δ o:=e;rw[he]at e;cases e;exact⟨he,y⟩
  |tup xs=>cases e;exact y
  |IH o' u=>
   have e:(if indep u=Θ then Δ (HO.IH o' u) else Φ)=Δ o:=e;by_cases i:indep u=Θ
   ·rw[f_ i]at e;cases e;exact⟨y.1,mV i y.2⟩
   ·rw[d_ i]at e;cases e
  |_=>cases e
theorem jv (e:H a=Φ):iF h H a=Φ:=by unfold iF;rw[e]
theorem res_some (e:H b=Δ o):kK H H' b=Δ o:=by unfold kK;rw[e]
theorem res_none (e:H b=Φ):kK H H' b=H' b:=by unfold kK;rw[e]
theorem wJ:g7 H (kK H H'):=fun b o e=>res_some e
theorem wL (x:Ji P w H h)(y:Ji P w H' g)(p:K' h (iF h H) H'){fs:List Ω}(keep:∀b o,H b≠Φ->h.get? b=Δ o->iF h H b=Φ->b∉fs->g.get? b=Δ o)(fr:∀b∈fs,H b=Φ):Ji P w (kK H H') g:=by
 have tp:∀c xs,H' c=Δ (.tup xs)->kK H H' c=Δ (.tup xs):=fun c xs e=>by
  cases q:H c with
  |none=>rw[res_none q];exact e
  |some o=>
   rw[res_some q];cases qo x p q with
   |lst _ z=>rw[z]at e;cases e
   |dK _ z=>rw[z]at e;cases e
   |tup z=>rw[z]at e;exact e
   |IH _ z=>rw[z]at e;cases e
   |JL _ _ z _ _ _=>rw[z]at e;cases e
 intro b o e;cases q:H b with
 |some o'=>
  rw[res_some q]at e;cases e;cases qo x p q with
  |lst h1 z=>have h2:=(y b _ z).1;obtain⟨a1,its,n,a2,a3⟩:=x b _ q;rw[h1]at a3;exact⟨a1,its,n,a2,by rw[h2,<- a3]⟩
  |dK h1 z=>exact mV rfl (y b _ z).2
  |tup z=>exact y b _ z
  |IH i z=>exact⟨(y b _ z).1,mV i (y b _ z).2⟩
  |JL h1 h2 z n1 n2 n3=>
   refine(x b _ q).Kf (fun c u hc hu=>?_) (fun c hc=>res_some hc) fun c xs hc=>res_some hc;rcases hc with rfl|hc
   ·exact keep _ _ (by rw[q];simp) hu h2 fun z=>by rw[fr _ z]at q;cases q
   ·refine keep _ _ (by rw[hc];simp) hu ?_ fun z=>by rw[fr _ z]at hc;cases hc
    unfold iF;rw[hc]
 |none=>
  rw[res_none q]at e;refine(y b o e).Kf (fun _ _ _ z=>z) (fun c hc=>?_) tp;cases q':H c with
  |none=>rw[res_none q'];exact hc
  |some o'=>
   exfalso;cases qo x p q' with
   |lst _ z=>rw[z]at hc;cases hc
   |dK _ z=>rw[z]at hc;cases hc
   |tup z=>rw[z]at hc;cases hc
   |IH _ z=>rw[z]at hc;cases hc
   |JL _ _ z _ _ _=>rw[z]at hc;cases hc
theorem mh (u:Un fs [] (iF h H) H' h g):K' h (iF h H) H':=⟨u.JA,u.JY,fun b o e n=>u.free b o e n (by simp)⟩
theorem wM {fs:List Ω}(x:Ji P w H h)(u:Un fs [] (iF h H) H' h g):Un fs [] H (kK H H') h g where
 keep:=fun b o e n f i=>u.keep b o e (jv n) f i
 slot:=fun b o e n f i=>u.slot b o e (jv n) f i
 free:=fun b o e n i=>by rw[res_none n];exact u.free b o e (jv n) i
 there:=u.there
 JY:=fun b xs e=>res_some e
 JA:=fun b o v e=>res_some e
 KH:=fun b ps e=>⟨#[],by rw[res_some e];simp⟩
end
theorem CK:Cl H (iF h H):=by
 refine⟨fun b xs e=>?_⟩
 ·rcases e with e|⟨o,e⟩
  ·exact .inl (by unfold iF;rw[e])
  ·exact .inr ⟨o,by unfold iF;rw[e];rfl⟩
theorem CL (x:Ji P w H h)(p:K' h (iF h H) H'):Cl H' (kK H H'):=by
 refine⟨fun b xs e=>?_⟩
 ·cases q:H b with
  |none=>unfold Rd;rw[res_none q];exact e
  |some u=>
   unfold Rd;rw[res_some q];have k:=qo x p q;cases k with
   |lst h1 h2=>rcases e with e|⟨o,e⟩<;>(rw[e]at h2;cases h2)
   |dK h1 h2=>rcases e with e|⟨o,e⟩<;>(rw[e]at h2;cases h2)
   |tup h2=>rcases e with e|⟨o,e⟩<;>(rw[e]at h2;cases h2);exact .inl rfl
   |IH h1 h2=>rcases e with e|⟨o,e⟩<;>(rw[e]at h2;cases h2);exact .inr ⟨_,rfl⟩
   |JL h1 h2 h3=>rcases e with e|⟨o,e⟩<;>(rw[e]at h3;cases h3)
noncomputable def iA:List Str:=["len","sum","min","max","sorted","list","tuple","ord","int","all","any","str","set","abs","isinstance","range","bool","zip","reversed","dict","enumerate"]
noncomputable def og:Bi->Nat
 |.len=>0|.min2=>2|.max2=>3|.list=>5|.tuple=>6|.ord=>7|.all=>9|.any=>10|.abs=>13
noncomputable def sO:Kd->Nat
 |.str=>11|.int=>8|.bool=>16|.list=>5|.tuple=>6
theorem wN (f:Bi):iA[og f]? = Δ (jT f):=by cases f<;>rfl
theorem CM (f:Kd):iA[sO f]? = Δ (ko f):=by cases f<;>rfl
mutual
noncomputable def uQ:D->D->Bool
 |.IB,.IB=>Θ
 |.bl a,.bl b=>a == b
 |.int a,.int b=>a == b
 |.str a,.str b=>a == b
 |.tup a,.tup b=>mW a b
 |.lst o a,.lst o' b=>o == o'&&mW a b
 |_,_=>Ξ
noncomputable def mW:List D->List D->Bool
 |[],[]=>Θ
 |a::r,b::s=>uQ a b&&mW r s
 |_,_=>Ξ
end
mutual
theorem sP:∀ {a b:D},uQ a b=Θ->a=b
 |.IB,b,h=>by cases b<;>first|rfl|cases h
 |.bl a,b,h=>by cases b<;>first|(rw[i_ (show(a == _)=Θ from h)])|cases h
 |.int a,b,h=>by cases b<;>first|(rw[i_ (show(a == _)=Θ from h)])|cases h
 |.str a,b,h=>by cases b<;>first|(rw[i_ (show(a == _)=Θ from h)])|cases h
 |.tup a,b,h=>by
  induction b using zD with
  |tup b=>rw[mX (show mW a b=Θ from h)]
  |_=>cases h
 |.lst o a,b,h=>by
  induction b using zD with
  |lst o' b=>have h':(o == o'&&mW a b)=Θ:=h;rw[h_]at h';rw[i_ h'.1,mX h'.2]
  |_=>cases h
theorem mX:∀ {a b:List D},mW a b=Θ->a=b
 |[],b,h=>by cases b<;>first|rfl|cases h
 |a::r,b,h=>by
  induction b using zL with
  |nil=>cases h
  |cons b s=>have h':(uQ a b&&mW r s)=Θ:=h;rw[h_]at h';rw[sP h'.1,mX h'.2]
end
structure Sg where
 nm:List Str
 P6:List (Nat×D)
 fns:List Nat
 cls:List Nat:=[]
 xt:List (Str×Nat×Bool):=[]
 pl:List Nat:=[]
 rc:List (Nat×Str×Str):=[]
 xm:List (Str×Nat):=[]
 fio:List Nat:=[]
noncomputable def Sg.name (Z:Sg)(n:Nat):Option Str:=(iA++Z.nm)[n]?
noncomputable def Gm.Kb (G:Gm)(n:Nat):Bool:=G.cm&&G.gl.contains n
theorem lF {G:Gm}{n:Nat}(h:G.Kb n=Θ):G.gl.contains n=Θ:=by unfold Gm.Kb at h;rw[h_]at h;exact h.2
theorem lG {G:Gm}{n:Nat}(h:G.Kb n=Θ):G.cm=Θ:=by unfold Gm.Kb at h;rw[h_]at h;exact h.1
noncomputable def Sg.N3 (Z:Sg)(G:Gm)(f:Nat):Bool:=Z.fns.contains f&&(G.cm||Z.pl.contains f)
theorem pj {Z:Sg}{G:Gm}{f:Nat}(h:Z.N3 G f=Θ):f∈Z.fns/\(G.cm=Θ∨f∈Z.pl):=by unfold Sg.N3 at h;rw[h_,aaf]at h;exact⟨by simpa using h.1,h.2.elim .inl fun z=>.inr (by simpa using z)⟩
noncomputable def notStar:Expr->Bool
 |.Starred ..=>Ξ
 |_=>Θ
noncomputable def iT:Expr->Bool
 |.Slice ..=>Ξ
 |_=>Θ
noncomputable def mY:Expr->Bool
 |.Call _ [] [] _=>Ξ
 |_=>Θ
noncomputable def jw (G:Gm)(i:Nat)(x:Str):Bool:=G.N[i]? == Δ x&&(G.kd[i]? == Δ .local||G.kd[i]? == Δ .cell||G.kd[i]? == Δ .free)
noncomputable def mZ (Z:Sg)(G:Gm)(n:Nat)(x:Str):Bool:=Z.name n == Δ x&&G.gl.contains n
noncomputable def EV:D->Const->Bool
 |.int i,.int j=>i == j
 |.str x,.str y=>x == y
 |.bl a,.bool b=>a == b
 |.IB,.none=>Θ
 |_,_=>Ξ
mutual
noncomputable def i8 (G:Gm):Tg->Expr->Bool
 |.nm i,.Name x _=>(G.N[i]? == Δ x&&(G.kd[i]? == Δ .local||(G.df&&G.kd[i]? == Δ .cell)))&&G.io != Δ i
 |.tp ts,.Tuple es _ _=>G.cm&&km G ts es
 |_,_=>Ξ
noncomputable def km (G:Gm):List Tg->List Expr->Bool
 |[],[]=>Θ
 |t::ts,e::es=>notStar e&&i8 G t e&&km G ts es
 |_,_=>Ξ
end
mutual
noncomputable def J5:Tg->List Nat
 |.nm i=>[i]
 |.tp ts=>qp ts
noncomputable def qp:List Tg->List Nat
 |[]=>[]
 |t::ts=>J5 t++qp ts
end
noncomputable def iW (Z : Sg)(G : Gm)(scope : Scope)(G' : Gm)(fr : List Nat) : Bool :=
  (G.cm&&scope.kind == .function)&&!G'.tr&&!G'.df&&G'.kd.length == G'.N.length
 &&scope.names.all (fun y =>y.2 != .cell)&&scope.names.all (fun y =>y.2 != .local||scope.names.lookup y.1 == Δ .local)
 &&scope.names.all (fun y =>y.2 != .free||(List.range G.N.length).any fun i =>G.N[i]? == Δ y.1&&(G.kd[i]? == Δ .cell||G.kd[i]? == Δ .free))
 &&(List.range fr.length).all (fun j =>G'.N[j]? == (fr[j]?).bind (G.N[·]?)&&((G'.N[j]?).bind (scope.names.lookup ·) == Δ .free)&&((fr[j]?).bind (G.kd[·]?) == Δ .cell||(fr[j]?).bind (G.kd[·]?) == Δ .free)
     &&(G'.kd[j]? == Δ (if((fr[j]?).bind (G.kd[·]?) == Δ .cell) then .cell else .free)))
 &&decide (fr.length <= G'.N.length)
 &&((List.range G'.N.length).drop fr.length).all (fun j =>(G'.N[j]?).bind (scope.names.lookup ·) == Δ .local&&G'.kd[j]? == Δ .local)
 &&G'.N.all (fun x =>!(x == "__debug__")&&!(x == "__classdict__"))
 &&decide (G'.N.Nodup)
 &&G'.gl.all (fun n =>match Z.name n with|some x =>scope.names.lookup x == Δ .globalImplicit|none =>Ξ)
theorem dn {P:Prop}(h:Ξ=Θ):P:=by cases h
noncomputable def rD:List Comprehension->(Expr->Expr->List Expr->Bool)->Bool
 |[⟨t,it,fs,0⟩],k=>k t it fs
 |_,_=>Ξ
local macro_rules | `(tactic| exists $h) =>`(tactic| first | exact L2.dn $h | cases($h))
theorem mi (h:rD gens k=Θ):∃t it fs,gens=[⟨t,it,fs,0⟩]/\k t it fs=Θ:=by
 unfold rD at h;split at h
 ·exact⟨_,_,_,rfl,h⟩
 ·cases h
noncomputable def Mj (k:Str->Bool):Expr->Bool
 |.Name z _=>k z
 |_=>Ξ
theorem jU (h:Mj k e=Θ):∃z p,e=.Name z p/\k z=Θ:=by
 induction e using zE with
 |Name z p=>exact⟨z,p,rfl,h⟩
 |_=>exact dn h
noncomputable def La {α:Type}:List α->(α->Bool)->Bool
 |a::r,k=>r.isEmpty&&k a
 |[],_=>Ξ
theorem ja (h:La l k=Θ):∃a,l=[a]/\k a=Θ:=by
 induction l using zL with
 |nil=>exact dn h
 |cons a r=>
  induction r using zL with
  |nil=>exact⟨a,rfl,h⟩
  |cons b r=>exact dn h
noncomputable def M0:Expr->(Expr->List Expr->Pos->Bool)->Bool
 |.Call f as ks p,k=>ks.isEmpty&&k f as p
 |_,_=>Ξ
theorem kq (h:M0 e k=Θ):∃f as p,e=.Call f as [] p/\k f as p=Θ:=by
 induction e using zE with
 |Call f as ks p=>
  induction ks using zL with
  |nil=>exact⟨f,as,p,rfl,h⟩
  |cons b r=>exact dn h
 |_=>exact dn h
noncomputable def wO:Expr->Bool
 |.Tuple _ _ _=>Θ
 |_=>Ξ
noncomputable def lH:Sr->Expr->Bool
 |.zip _ _,t=>wO t
 |.KP _,t=>wO t
 |_,_=>Θ
noncomputable def Tz:Expr->Bool
 |.Dict ks vs _=>ks.isEmpty&&vs.isEmpty
 |_=>Ξ
theorem wQ (h:Tz e=Θ):∃p,e=.Dict [] [] p:=by
 induction e using zE with
 |Dict ks vs p=>
  have h':=D_.mp (show(ks.isEmpty&&vs.isEmpty)=Θ from h)
  induction ks using zL with
  |cons _ _=>exact dn h'.1
  |nil=>
   induction vs using zL with
   |cons _ _=>exact dn h'.2
   |nil=>exact⟨p,rfl⟩
 |_=>exact dn h
noncomputable def TB:Expr->(Expr->Expr->Bool)->Bool
 |.Subscript o s _,k=>k o s
 |_,_=>Ξ
theorem CN (h:TB e k=Θ):∃o s p,e=.Subscript o s p/\k o s=Θ:=by
 unfold TB at h;split at h
 ·exact⟨_,_,_,rfl,h⟩
 ·cases h
noncomputable def N4 (e:Expr)(k:Str->Str->Expr->Bool):Bool:=M0 e fun f as _=>Mj (fun x=>La as fun a=>M0 a fun g bs _=>Mj (fun y=>La bs fun b=>k x y b) g) f
theorem pq (h:N4 e k=Θ):∃x p y p' e' q' q,e=.Call (.Name x p) [.Call (.Name y p') [e'] [] q'] [] q/\k x y e'=Θ:=by obtain⟨f,as,q,rfl,h1⟩:=kq h;obtain⟨x,p,rfl,h2⟩:=jU h1;obtain⟨a,rfl,h3⟩:=ja h2;obtain⟨g,bs,q',rfl,h4⟩:=kq h3;obtain⟨y,p',rfl,h5⟩:=jU h4;obtain⟨b,rfl,h6⟩:=ja h5;exact⟨_,_,_,_,_,_,_,rfl,h6⟩
noncomputable def Yx:List Expr->(Expr->Expr->Bool)->Bool
 |a::r,k=>La r (k a)
 |[],_=>Ξ
theorem CO (h:Yx l k=Θ):∃a b,l=[a,b]/\k a b=Θ:=by
 induction l using zL with
 |nil=>exact dn h
 |cons a r=>obtain⟨b,rfl,h⟩:=ja (show La r (k a)=Θ from h);exact⟨a,b,rfl,h⟩
noncomputable def Vq (e:Expr)(k:Str->Str->Expr->Expr->Bool):Bool:=M0 e fun f as _=>Mj (fun x=>La as fun a=>M0 a fun g bs _=>Mj (fun y=>Yx bs fun b c=>k x y b c) g) f
theorem CP (h:Vq e k=Θ):∃x p y p' a b q' q,e=.Call (.Name x p) [.Call (.Name y p') [a,b] [] q'] [] q/\k x y a b=Θ:=by obtain⟨f,as,q,rfl,h1⟩:=kq h;obtain⟨x,p,rfl,h2⟩:=jU h1;obtain⟨a,rfl,h3⟩:=ja h2;obtain⟨g,bs,q',rfl,h4⟩:=kq h3;obtain⟨y,p',rfl,h5⟩:=jU h4;obtain⟨b,c,rfl,h6⟩:=CO h5;exact⟨_,_,_,_,_,_,_,_,rfl,h6⟩
noncomputable def isNm:Expr->Bool
 |.Name ..=>Θ
 |_=>Ξ
noncomputable def TC:Expr->(Expr->Str->Bool->Expr->Bool)->Bool
 |.Call (.Attribute o name apos) [a] [] Iz,k=>k o name (apos.endLine == Iz.line) a
 |_,_=>Ξ
theorem CQ (h:TC e k=Θ):∃o name apos a Iz,e=.Call (.Attribute o name apos) [a] [] Iz/\k o name (apos.endLine == Iz.line) a=Θ:=by
 unfold TC at h;split at h
 ·exact⟨_,_,_,_,_,rfl,h⟩
 ·cases h
mutual
noncomputable def HE (Z:Sg)(G:Gm):IR->Expr->Bool
 |.c d,.Constant k _ _=>EV d k
 |.g n d,.Name x _=>mZ Z G n x&&Z.P6.any fun p=>p.1 == n&&uQ p.2 d
 |.v i,.Name x _=>jw G i x
 |.bin op a b,.BinOp l o r _=>o == NB op&&HE Z G a l&&HE Z G b r
 |.neg a,.UnaryOp .USub e _=>HE Z G a e
 |.cmp op a b,.Compare l [o] [r] _=>o == KQ op&&HE Z G a l&&HE Z G b r&&!behindInMarks o r
 |.chain op Jr a b c,.Compare l [o,o'] [m,r] _=>o == KQ op&&o' == KQ Jr&&HE Z G a l&&HE Z G b m&&HE Z G c r&&!lastMarks [o,o'] [m,r]
 |.Jb a b,.BoolOp .And [e,e'] _=>HE Z G a e&&HE Z G b e'
 |.Jb a b,.BoolOp .And (e::e'::Vs::rest) p=>HE Z G a e&&HE Z G b (.BoolOp .And (e'::Vs::rest) p)
 |.KZ a b,.BoolOp .Or [e,e'] _=>HE Z G a e&&HE Z G b e'
 |.KZ a b,.BoolOp .Or (e::e'::Vs::rest) p=>HE Z G a e&&HE Z G b (.BoolOp .Or (e'::Vs::rest) p)
 |.JT a,.UnaryOp .Not e _=>HE Z G a e
 |.ite t a b,.IfExp c x y _=>HE Z G t c&&HE Z G a x&&HE Z G b y
 |.tup es,.Tuple l _ _=>iM Z G es l
 |.lst es,.List l _=>iM Z G es l
 |.sl a lo hi,.Subscript e (.Slice l h Φ _) _=>HE Z G a e&&rE Z G lo l&&rE Z G hi h
 |.idx a i,.Subscript e s _=>iT s&&HE Z G a e&&HE Z G i s
 |.call f es,.Call (.Name x _) args [] _=>mZ Z G f x&&Z.N3 G f&&iM Z G es args
 |.bi f es,.Call (.Name x _) (a::args) [] _=>x == jT f&&G.Kb (og f)&&iM Z G es (a::args)
 |.Ke a k,.Call (.Name x _) [e,.Name y _] [] _=>x == "isinstance"&&G.gl.contains 14&&y == ko k&&G.gl.contains (sO k)&&notStar e&&HE Z G a e
 |.Kp,e=>Tz e
 |.K9 a k,e=>TB e fun o s=>iT s&&HE Z G a o&&HE Z G k s
 |.JU a,e=>N4 e fun x y e=>x == "list"&&G.Kb 5&&y == "range"&&G.gl.contains 15&&notStar e&&HE Z G a e
 |.JE a,e=>N4 e fun x y e=>x == "list"&&G.Kb 5&&y == "reversed"&&G.gl.contains 18&&notStar e&&HE Z G a e
 |.J0 a b,e=>Vq e fun x y e e'=>x == "list"&&G.Kb 5&&y == "zip"&&G.gl.contains 17&&(notStar e&&notStar e')&&HE Z G a e&&HE Z G b e'
 |.sset a,e=>N4 e fun x y e=>x == "sorted"&&G.gl.contains 4&&y == "set"&&G.gl.contains 12&&(notStar e&&G.cm)&&HE Z G a e
 |.Lu a b,e=>TC e fun o y l s=>y == "index"&&isNm o&&l&&notStar s&&HE Z G a o&&HE Z G b s
 |.MX m o es,.Call (.Attribute oe name apos) (a::args) [] Iz=>name == mU m&&mY oe&&apos.endLine == Iz.line&&decide ((a::args).length < 29)&&HE Z G o oe&&iM Z G es (a::args)
 |.comp G' fr tg src ifs elt,.ListComp e gens scope _=>rD gens fun t it fs=>iW Z G scope G' fr&&i8 G' tg t&&(J5 tg).all (fun i=>decide (fr.length<=i))&&(jx Z G src it&&lH src t)&&iM Z G' ifs fs&&HE Z G' elt e
 |_,_=>Ξ
noncomputable def iM (Z:Sg)(G:Gm):List IR->List Expr->Bool
 |[],[]=>Θ
 |a::es,e::l=>notStar e&&HE Z G a e&&iM Z G es l
 |_,_=>Ξ
noncomputable def rE (Z:Sg)(G:Gm):Option IR->Option Expr->Bool
 |none,Φ=>Θ
 |some a,Δ e=>HE Z G a e
 |_,_=>Ξ
noncomputable def jx (Z:Sg)(G:Gm):Sr->Expr->Bool
 |.II n,.Call (.Name x _) [e] [] _=>x == "range"&&G.gl.contains 15&&notStar e&&HE Z G n e
 |.zip a b,.Call (.Name x _) [e,e'] [] _=>x == "zip"&&G.gl.contains 17&&notStar e&&notStar e'&&HE Z G a e&&HE Z G b e'
 |.KP a,.Call (.Name x _) [e] [] _=>x == "enumerate"&&G.gl.contains 20&&notStar e&&HE Z G a e
 |.val a,e=>HE Z G a e
 |_,_=>Ξ
end
def K0 (F:Ω->Prop)(H:Hp):Prop:=∀a,F a->H a≠Φ
structure Out (K:Frag)(F:Ω->Prop)(H:Hp)(F':Ω->Prop)(H':Hp)(v:V)(d:D)(fv:List Ω):Prop where
 IK:K0 F' H'
 same:g7 H H'
 rep:IA K F' H' v d fv
 Je:fv.Nodup
 new:∀a∈fv,H a=Φ
 J6:∀a,F a->F' a
 out:∀a,F' a->F a∨H a=Φ
def OX (K:Frag)(cl:Nat->List D->Res D)(f:Nat)(ps:List Str):Sp:=fun vs H Q E=>vs.length=ps.length/\Yw H/\∃F ds,K0 F H/\Hq K F H vs ds/\
 Hw (cl f (HC ds)) fun d=>∀v H' F' fv,Out K F H F' H' v d fv->Q v H'
structure Vt (P:Ε)(w:Β)(K:Frag)(mg:Str->Option Ψ)(base:Heap)(CX:JD)(A:Ι)(cl:Nat->List D->Res D)(f:Nat)(x:Str):Prop where
 ex:∃(k:Nat) (fa:Ω) (fd:Ο) (ps:List Str),mg x=Δ (.ref fa)/\PySem.W.keepIn K (.ref fa)=Θ/\Binds K fd ps []/\J9 P w K mg base CX k fa fd ps (OX K cl f ps)/\JB k A/\
  ∀ds (k:D->Prop),Hw (cl f ds) k->ds.length=ps.length
structure IV (Z:Sg)(CX:JD)(cl:Nat->List D->Res D)(X:Cx)(G:Gm):Prop where
 N:X.N=G.N
 Je:G.N.Nodup
 calm:G.cm=Θ->X.calm=Θ
 fk:X.env.scope.kind=.function
 un:X.A.units+42 < cLine
 own:G.rs=Θ->PassesOwn (Μ X.prog X.w) X.A X.env X.xe
 kd:∀(i:Nat) (x:Str),G.N[i]? = Δ x->X.env.kindOf x=G.kd[i]?
 MD:∀(i:Nat) (x:Str),G.N[i]? = Δ x->(x == ("__debug__" : Str))=Ξ/\(x == ("__classdict__" : Str))=Ξ
 gl:∀n∈G.gl,∀x,Z.name n=Δ x->Gl X x
 NC:∀n x,Z.name n=Δ x->x≠"__name__"/\(x == ("__debug__" : Str))=Ξ
 df:G.df=Θ->∀x,X.fn x=Θ
 blt:∀(n:Nat) (x:Str),iA[n]? = Δ x->X.mg x=Φ
 cst:∀n d x,(n,d)∈Z.P6->Z.name n=Δ x->∃u v,X.mg x=Δ u/\RelV v u/\∀S H,Hx X.K S H v d
 fns:∀f∈Z.fns,(G.cm=Θ∨f∈Z.pl)->∀x,Z.name f=Δ x->Vt X.prog X.w X.K X.mg X.base CX X.A cl f x
 P7:∃E:XK,Passes CX X E
 Mi:∀(outer:List Env) (H:Hp) (s:Α) (E:XK) (e:Ψ) (s':Α),Ji X.prog X.w H s.heap->(∀b∈Kg outer,H b=Φ)->CX outer (iF s.heap H) s E e s'->CX outer H s E e s'
 P8:∀(H:Hp) (outer:List Env) (s:Α) (e:Ψ) (s':Α),¬CX outer H s (fun _ _ _=>False) e s'
section
variable {P:Ε}{w:Β}{H H':Hp}{h:Heap}{K:Frag}{Fc F':Ω->Prop}
theorem sQ (x:Ji P w H h)(m:Hq K Fc H vs ds):Hq K (fun a=>Fc a/\iF h H a≠Φ) (iF h H) vs ds:=by
 refine(m.step (S':=Fc) (H':=iF h H) (fun a xs f r=>⟨f,?_⟩) fun a xs r=>?_).K7
 ·rcases r with r|⟨o,r⟩
  ·obtain⟨ob,he⟩:=(x a _ r).at
   refine .inr ⟨ob,?_⟩;unfold iF;rw[r];cases xs with
   |l ys=>show(h.get? a).map _=_;rw[he];rfl
   |d ys=>show(h.get? a).map _=_;rw[he];rfl
  ·refine .inr ⟨o,?_⟩;unfold iF;rw[r];cases xs<;>rfl
 ·exact r.cl CK
theorem qr (x:Ji P w H h)(p:K' h (iF h H) H')  (n:iF h H a=Φ)(e:H' a≠Φ):H a=Φ:=by
 cases q:H a with
 |none=>rfl
 |some o=>
  obtain⟨ob,he⟩:=(x a o q).at
  exact absurd (p.free a ob he n) e
theorem sR (x:Ji P w H h)(IK:K0 Fc H)(p:K' h (iF h H) H')(o:Out K (fun a=>Fc a/\iF h H a≠Φ) (iF h H) F' H' v d fv):Out K Fc H (fun a=>Fc a∨F' a) (kK H H') v d fv:=by
 have new:∀a∈fv,H a=Φ:=fun a ha=>qr x p (o.new a ha) (by obtain⟨_,xs,e⟩:=o.rep.own a ha;rw[e];simp);refine⟨fun a ha=>?_,wJ,o.rep.step (fun a xs f r=>⟨.inr f,?_⟩) (fun a xs r=>?_) fun a ha nf hn=>⟨fun z=>?_,res_none (new a ha)⟩,o.Je,new,fun a ha=>.inl ha,fun a ha=>?_⟩
 ·cases q:H a with
  |some u=>rw[res_some q];simp
  |none=>
   rw[res_none q];rcases ha with ha|ha
   ·exact absurd q (IK a ha)
   ·exact o.IK a ha
 ·cases q:H a with
  |none=>unfold Rd;rw[res_none q];exact r
  |some u=>
   unfold Rd;rw[res_some q];cases qo x p q with
   |lst _ z=>
    cases xs with
    |l ys=>
     rcases r with r|⟨o',r⟩
     ·rw[z]at r;cases r
     ·rw[z]at r;cases r;exact .inl rfl
    |d ys=>rcases r with r|⟨o',r⟩<;>(rw[z]at r;cases r)
   |dK _ z=>
    cases xs with
    |d ys=>
     rcases r with r|⟨o',r⟩
     ·rw[z]at r;cases r
     ·rw[z]at r;cases r;exact .inl rfl
    |l ys=>rcases r with r|⟨o',r⟩<;>(rw[z]at r;cases r)
   |tup z=>cases xs<;>rcases r with r|⟨o',r⟩<;>(rw[z]at r;cases r)
   |IH _ z=>
    cases xs with
    |l ys=>
     rcases r with r|⟨o',r⟩
     ·rw[z]at r;cases r
     ·rw[z]at r;cases r;exact .inr ⟨_,rfl⟩
    |d ys=>
     rcases r with r|⟨o',r⟩
     ·rw[z]at r;cases r
     ·rw[z]at r;cases r;exact .inr ⟨_,rfl⟩
   |JL _ _ z _ _ _=>exact absurd z r.some
 ·exact r.cl (CL x p)
 ·rcases z with z|z
  ·exact IK a z (new a ha)
  ·exact nf z
 ·rcases ha with ha|ha
  ·exact .inl ha
  ·rcases o.out a ha with z|z
   ·exact .inl z.1
   ·exact .inr (qr x p z (o.IK a ha))
end
section
variable {X:Cx}{CX:JD}{cl:Nat->List D->Res D}
theorem Inv.Ra (I:Inv X pins σ H s):L4 X.prog X.w X.K X.mg X.base X.A X.stack s (iF s.heap H):=
 ⟨I.Ki.frames,I.Ki.mod,fun b o e=>⟨(I.Ki.bs b o e).1,jv (I.Ki.bs b o e).2⟩,I.Ki.Na,I.Ki.JZ,fun b hb=>jv (I.Ki.MQ b hb),wI I.IF,I.Ki.bare⟩
theorem sS
  (F:J9 X.prog X.w X.K X.mg X.base CX k fa fd ps (OX X.K cl f ps)) (hr:JB k X.A) (hb:Binds X.K fd ps []) (hx:Passes CX X E)
  (hh:∀(outer:List Env) (H:Hp) (s:Α) (E:XK) (e:Ψ) (s':Α),Ji X.prog X.w H s.heap->(∀b∈Kg outer,H b=Φ)->CX outer (iF s.heap H) s E e s'->CX outer H s E e s')
  (I:Inv X pins σ H s) (r:Vals vs us) (hl:vs.length=ps.length) (IK:K0 Fc H) (m:Hq X.K Fc H vs ds)
  (q:Hw (cl f (HC ds)) fun d=>∀v H' F' fv,Out X.K Fc H F' H' v d fv->Q v H'):Κ (Μ X.prog X.w) X.A (call (.ref fa) us) (EP X pins σ Q) X.xe s:=by
 have Lh:OX X.K cl f ps vs (iF s.heap H) (fun v H'=>K' s.heap (iF s.heap H) H'->Q v (kK H H')) E:=
  ⟨hl,wH _ _,_,ds,fun a h=>h.2,sQ I.IF m,q.mono fun d hd v H' F' fv o p=>hd v _ _ fv (sR I.IF IK p o)⟩
 have MZ:(us++([]:List Ψ)).length=ps.length:=by rw[aal,<- r.length];exact hl
 have bd:=hb s us I.Lg MZ;rw[aal]at bd;refine wpAny_call (codeAny_mono (F.run X.A X.stack s (iF s.heap H) ⟨us,[]⟩ us vs _ E hr I.Ra bd r Lh) fun r' s' hq=>?_);cases r' with
 |error e=>exact hx pins σ H s e s' I (hh X.stack H s E e s' I.IF I.Ki.MQ hq)
 |ok fl=>
  cases fl with
  |ret u=>obtain⟨v,H',a1,a2,a3,a4,a5,a6⟩:=hq;exact I.after (Q:=Q) ⟨v,kK H H',a1,a2,wM I.IF a3,wL I.IF a4 (mh a3) (fs:=Kg X.stack) (fun b o _ e n f=>a3.keep b o e n f (by simp)) I.Ki.MQ,a5,a6 (mh a3)⟩
  |next=>exact False.elim hq
  |brk=>exact False.elim hq
  |cont=>exact False.elim hq
end
def Slots (K:Frag)(S:Ω->Prop)(H:Hp)(σ:St)(τ:Ev)(is:List Nat):Prop:=∀i∈is,∀d,gV τ i=Δ d->∃v,σ[i]? = Δ (Δ v)/\Hx K S H v d
theorem Slots.sub {K:Frag}{S:Ω->Prop}{H:Hp}{σ:St}{τ:Ev}{is js:List Nat}(h:Slots K S H σ τ is)(s:∀i∈js,i∈is):Slots K S H σ τ js:=fun i hi d e=>h i (s i hi) d e
theorem Slots.left {K:Frag}{S:Ω->Prop}{H:Hp}{σ:St}{τ:Ev}{is js:List Nat}(h:Slots K S H σ τ (is++js)):Slots K S H σ τ is:=h.sub fun _ hi=>t_ _ hi
theorem Slots.right {K:Frag}{S:Ω->Prop}{H:Hp}{σ:St}{τ:Ev}{is js:List Nat}(h:Slots K S H σ τ (is++js)):Slots K S H σ τ js:=h.sub fun _ hi=>v_ _ hi
theorem Slots.go {K:Frag}{S:Ω->Prop}{H H':Hp}{σ:St}{τ:Ev}{is:List Nat}(h:Slots K S H σ τ is)(e:g7 H H'):Slots K (nw S H) H' σ τ is:=fun i hi d z=>by obtain⟨v,h1,h2⟩:=h i hi d z;exact⟨v,h1,h2.mono (fun _=>.inl) e⟩
def RD (K:Frag)(is:List Nat)(f:Ev->Res D):TE:=fun σ H Q=>∃S τ,Slots K S H σ τ is/\Hw (f τ) (Kk K S H Q)
def RT (K:Frag)(is:List Nat)(f:Ev->Res Bool):TT:=fun σ H Q=>∃S τ,Slots K S H σ τ is/\Hw (f τ) fun b=>∀H',g7 H H'->Q b H'
def RA (K:Frag)(is:List Nat)(f:Ev->Res (List D)):TA:=fun σ H Q=>∃S τ,Slots K S H σ τ is/\Hw (f τ) fun ds=>∀vs H',g7 H H'->Hq K (nw S H) H' vs ds->Q vs H'
def P9 (K:Frag)(is:List Nat)(f:Ev->Res (Option Int)):TO:=fun σ H Q=>∃S τ,Slots K S H σ τ is/\Hw (f τ) fun o=>∀H',g7 H H'->Q o H'
def WS (K:Frag)(S:Ω->Prop)(H:Hp)(k:Zp.Kq)(a:Ω)(xs:List V):Prop:=match k with
 |.l=>(S a/\Rd H a (.lst xs))∨KL K a xs
 |.t=>IP K H a xs
theorem WS.sq {K:Frag}{S:Ω->Prop}{H:Hp}{k:Zp.Kq}{a:Ω}{xs:List V}(h:WS K S H k a xs):Lq K H k a xs:=by
 cases k with
 |l=>exact h.elim (fun z=>.inl z.2) fun z=>z.sq
 |t=>exact h
inductive J7 (K:Frag)(S:Ω->Prop)(H:Hp):It->List D->Prop where
 | lst {a:Ω}{xs:List V}{ds:List D}:S a->Rd H a (.lst xs)->Hq K S H xs ds->J7 K S H (Tc K a) ds
 | lstK {a:Ω}{xs:List V}{ds:List D}:KL K a xs->Hq K S H xs ds->J7 K S H (Tc K a) ds
 | tup {a:Ω}{xs:List V}{ds:List D}:IP K H a xs->Hq K S H xs ds->J7 K S H (UA K a) ds
 | Mg (lo hi:Int):J7 K S H (QD lo (hi - lo).toNat) (ij lo hi)
 | str (x:Str):J7 K S H (Vp x) (jq x)
 | zip {p q:Zp.Kq}{l m:Ω}{xs ys:List V}{ds es:List D}:WS K S H p l xs->WS K S H q m ys->Hq K S H xs ds->Hq K S H ys es->J7 K S H (U3 K p q l m) (ju ds es)
 | KP {l:Ω}{xs:List V}{ds:List D}:WS K S H .l l xs->Hq K S H xs ds->J7 K S H (Vm K l) (l7 ds)
def RI (K:Frag)(is:List Nat)(f:Ev->Res (List D)):TI:=fun σ H R=>∃S τ,Slots K S H σ τ is/\Hw (f τ) fun ds=>∀J H',g7 H H'->J7 K (nw S H) H' J ds->R J H'
theorem oh (e:g7 H H1):∀a,nw (nw S H) H1 a->nw S H a:=fun a h=>by
 rcases h with h|h
 ·exact h
 ·exact .inr (e.free h)
section
variable {Z:Sg}{CX:JD}{cl:Nat->List D->Res D}{X:Cx}{G:Gm}
theorem Kk.fit {K:Frag}{S:Ω->Prop}{H H1:Hp}{Q:VK}{d:D}(e:g7 H H1)(h:Kk K S H Q d):Kk K (nw S H) H1 Q d:=fun w H' e' m=>h w H' (e.trans e') (m.mono (oh e) (.refl _))
theorem wR (g:IV Z CX cl X G)  (h:mZ Z G n x=Θ):Gl X x/\Z.name n=Δ x/\x≠"__name__"/\(x == ("__debug__" : Str))=Ξ:=by unfold mZ at h;rw[h_]at h;have e:Z.name n=Δ x:=i_ h.1;exact⟨g.gl n (by simpa using h.2) x e,e,g.NC n x e⟩
theorem Bb (Z:Sg)  (h:iA[n]? = Δ x):Z.name n=Δ x:=by unfold Sg.name;rw[aat (p_.mp h).1];exact h
theorem i9 (g:IV Z CX cl X G)  (h:iA[n]? = Δ x)(hc:G.gl.contains n=Θ):Gl X x/\X.mg x=Φ/\x≠"__name__"/\(x == ("__debug__" : Str))=Ξ:=
 ⟨g.gl n (by simpa using hc) x (Bb Z h),g.blt n x h,g.NC n x (Bb Z h)⟩
theorem fD (h:notStar e=Θ)(es:List Expr)(env:Env):Ν (e::es) env=(Ξ,eval e env)::Ν es env:=by
 induction e using zE<;>first|rfl|cases h
theorem jb (Z:Sg)(G:Gm):∀ {es:List IR}{l:List Expr} (p:Pos) (env:Env),iM Z G es l=Θ->(backTo p (Ν l env)).any (·.1)=Ξ
 |[],[],_,_,_=>rfl
 |a::es,e::l,p,env,h=>by have h':(notStar e&&HE Z G a e&&iM Z G es l)=Θ:=h;simp only[h_]at h';rw[fD h'.1.1];have ih:=jb Z G (es:=es) (l:=l) p env h'.2;show(Ξ||(backTo p (Ν l env)).any (·.1))=Ξ;rw[ih];rfl
 |[],_::_,_,_,h=>by cases h
 |_::_,[],_,_,h=>by cases h
theorem wU (h:∀S H,Hx X.K S H v d)  (q:RD X.K is (fun _=>.ok d) σ H Q):Q v H:=by obtain⟨S,τ,_,q⟩:=q;exact q.ok _ _ (.refl _) (h _ _)
theorem EW (h:PE X e (RD X.K is f))(he:∀whole,isTrue e X.env whole=(do let v <- whole;standAt e.pos;holding [v] (truthy v))):PT X e (RT X.K is fun τ=>Hn (f τ) il):=by intro pins s σ H Q I hw;obtain⟨S,τ,hs,hw⟩:=hw;refine isTrue_plain (IG (h pins s σ H (fun v H'=>∃d,g7 H H'/\Hx X.K (nw S H) H' v d/\Hw (il d) fun b=>∀H',g7 H H'->Q b H') I ⟨S,τ,hs,(Hw.Hn hw).mono fun d hd v H' e m=>⟨d,e,m,hd⟩⟩) fun v s1 ⟨x,H1,I1,r1,d,e,m,hd⟩=>?_) (he _);exact mf I1 r1 m (hd.mono fun b z=>z H1 e)
end
section
variable {Z:Sg}{CX:JD}{cl:Nat->List D->Res D}{X:Cx}{G:Gm}{K:Frag}{S:Ω->Prop}{H H1:Hp}{σ:St}{τ:Ev}
theorem iq (e:g7 H H1)(hs:Slots K S H σ τ is)(h:Hw (f τ) Kt)(k:∀x v H2,g7 H H2->g7 H1 H2->Hx K (nw S H) H2 v x->Kt x->Q v H2):RD K is f σ H1 Q:=
 ⟨nw S H,τ,hs.go e,h.mono fun x hx v H2 e2 m=>k x v H2 (e.trans e2) e2 (m.mono (oh e) (.refl _)) hx⟩
theorem kj (e:g7 H H1)(hs:Slots K S H σ τ is)(h:Hw (f τ) Kt)(k:∀x H2,g7 H H2->g7 H1 H2->Kt x->Q x H2):RT K is f σ H1 Q:=
 ⟨nw S H,τ,hs.go e,h.mono fun x hx H2 e2=>k x H2 (e.trans e2) e2 hx⟩
theorem qt (e:g7 H H1)(hs:Slots K S H σ τ is)(h:Hw (f τ) Kt)(k:∀x v H2,g7 H H2->g7 H1 H2->Hq K (nw S H) H2 v x->Kt x->Q v H2):RA K is f σ H1 Q:=
 ⟨nw S H,τ,hs.go e,h.mono fun x hx v H2 e2 m=>k x v H2 (e.trans e2) e2 (m.mono (oh e) (.refl _)) hx⟩
theorem zW (e:g7 H H1)(hs:Slots K S H σ τ is)(h:Hw (f τ) Kt)(k:∀x H2,g7 H H2->g7 H1 H2->Kt x->Q x H2):P9 K is f σ H1 Q:=
 ⟨nw S H,τ,hs.go e,h.mono fun x hx H2 e2=>k x H2 (e.trans e2) e2 hx⟩
theorem Hx.later (h:Hx K (L2.nw S H) H1 v d)(e:g7 H1 H2):Hx K (L2.nw S H) H2 v d:=h.mono (fun _ z=>z) e
theorem Hq.later (h:Hq K (L2.nw S H) H1 v d)(e:g7 H1 H2):Hq K (L2.nw S H) H2 v d:=h.mono (fun _ z=>z) e
theorem s_v (g:IV Z CX cl X G)  (h:jw G i x=Θ):PE X (.Name x pos) (RD X.K [i] (HA cl (.v i))):=by
 unfold jw at h;rw[h_]at h;have hx:G.N[i]? = Δ x:=i_ h.1;have hk:=g.kd i x hx;have hv:Qx X.env.scope x:=by
  have h2:=h.2;rw[aaf,aaf]at h2;rcases h2 with(h2|h2)|h2
  ·exact .inl (hk.trans (i_ h2))
  ·exact .inr (.inl (hk.trans (i_ h2)))
  ·exact .inr (.inr (hk.trans (i_ h2)))
 refine hG (u6 (i:=i) (by rw[g.N];exact hx) hv (g.MD i x hx).1 (g.MD i x hx).2) fun σ H Q q=>?_;obtain⟨S,τ,hs,q⟩:=q;rw[EO]at q;cases z:gV τ i with
 |none=>rw[z]at q;exact q.no.elim
 |some d=>rw[z]at q;obtain⟨v,h1,h2⟩:=hs i (by simp) d z;exact⟨v,h1,q.ok _ _ (.refl _) h2.nw⟩
theorem s_c (h:EV d k=Θ):PE X (.Constant k j pos) (RD X.K [] (HA cl (.c d))):=by
 induction d using zD with
 |IB=>
  cases k with
  |none=>exact hG BQ fun σ H Q q=>wU (fun _ _=>.IB) q
  |_=>cases h
 |bl b=>
  cases k with
  |bool b'=>have e:b=b':=i_ h;subst e;exact hG Eg fun σ H Q q=>wU (fun _ _=>.bl _) q
  |_=>cases h
 |int b=>
  cases k with
  |int b'=>have e:b=b':=i_ h;subst e;exact hG BP fun σ H Q q=>wU (fun _ _=>.int _) q
  |_=>cases h
 |str b=>
  cases k with
  |str b'=>have e:b=b':=i_ h;subst e;exact hG BR fun σ H Q q=>wU (fun _ _=>.str _) q
  |_=>cases h
 |tup _=>cases k<;>cases h
 |lst _ _=>cases k<;>cases h
 |IE o ks ds=>cases k<;>cases h
theorem s_g (g:IV Z CX cl X G)  (h:mZ Z G n x=Θ)(hk:Z.P6.any (fun p=>p.1 == n&&uQ p.2 d)=Θ):PE X (.Name x pos) (RD X.K [] (HA cl (.g n d))):=by obtain⟨h1,h2,h3,h4⟩:=wR g h;rw[List.any_eq_true]at hk;obtain⟨⟨m,d'⟩,hm,hk⟩:=hk;rw[h_]at hk;have e1:m=n:=i_ hk.1;have e2:d'=d:=sP hk.2;subst e1 e2;obtain⟨u,v,hu,r,hr⟩:=g.cst m d' x hm h2;exact hG (yM h1 hu r h4) fun σ H Q q=>wU hr q
theorem EX (ha:PE X a (RD X.K va fa))(hb:PE X b (RD X.K vb fb)) :
  PE X (.BinOp a (NB op) b pos) (RD X.K (va++vb) fun τ=>Hn (fa τ) fun x=>Hn (fb τ) fun y=>J1 op x y):=by
 refine hG (sd (CH op) ha hb) fun σ H Q ⟨S,τ,hs,q⟩=>?_;refine iq (.refl _) hs.left (Hw.Hn q) fun x v H1 e1 _ m1 q1=>?_;refine iq e1 hs.right (Hw.Hn q1) fun y w H2 e2 Js m2 q2=>?_;exact⟨nw S H,x,y,m1.later Js,m2,q2.mono fun d hd=>hd.fit e2⟩
theorem EY (ha:PE X a (RD X.K va fa)) :
  PE X (.UnaryOp .USub a pos) (RD X.K va fun τ=>Hn (fa τ) fun|.int i=>.ok (.int (-i))|_=>Ir):=by
 refine hG (Ep B8 ha) fun σ H Q ⟨S,τ,hs,q⟩=>?_;refine iq (.refl _) hs (Hw.Hn q) fun x v H1 e1 _ m1 q1=>?_
 induction x using zD with
 |int i=>cases m1.ID;exact⟨i,rfl,q1.ok _ _ e1 (.int _)⟩
 |_=>exact q1.no.elim
theorem EZ (g:IV Z CX cl X G)  (ha:PE X a (RD X.K va fa))(hb:PE X b (RD X.K vb fb))(hm:behindInMarks (KQ op) b=Ξ) :
  PE X (.Compare a [KQ op] [b] pos) (RD X.K (va++vb) fun τ=>Hn (fa τ) fun x=>Hn (fb τ) fun y=>Hn (Jw op x y) fun r=>.ok (.bl r))/\
  PT X (.Compare a [KQ op] [b] pos) (RT X.K (va++vb) fun τ=>Hn (Hn (fa τ) fun x=>Hn (fb τ) fun y=>Hn (Jw op x y) fun r=>.ok (.bl r)) il):=by
 refine⟨hG (yT (lD g.un op) ha hb hm) fun σ H Q ⟨S,τ,hs,q⟩=>?_,mF (yU (lD g.un op) ha hb hm) fun σ H Q ⟨S,τ,hs,q⟩=>?_⟩
 ·refine iq (.refl _) hs.left (Hw.Hn q) fun x v H1 e1 _ m1 q1=>?_;refine iq e1 hs.right (Hw.Hn q1) fun y w H2 e2 Js m2 q2=>?_;exact⟨nw S H,x,y,m1.later Js,m2,(Hw.Hn q2).mono fun d hd=>hd.ok _ _ e2 (.bl _)⟩
 ·refine iq (.refl _) hs.left (Hw.Hn (Hw.Hn q)) fun x v H1 e1 _ m1 q1=>?_;refine iq e1 hs.right (Hw.Hn q1) fun y w H2 e2 Js m2 q2=>?_;exact⟨nw S H,x,y,m1.later Js,m2,(Hw.Hn q2).mono fun d hd=>⟨d,rfl,hd.ok.ok H2 e2⟩⟩
theorem zX (g:IV Z CX cl X G)  (ha:PE X a (RD X.K va fa))(hb:PE X b (RD X.K vb fb))(hc:PE X c (RD X.K vc fc))
  (hm:lastMarks [KQ op,KQ Jr] [b,c]=Ξ) :
  PE X (.Compare a [KQ op,KQ Jr] [b,c] pos) (RD X.K (va++vb++vc) fun τ=>Hn (fa τ) fun x=>Hn (fb τ) fun y=>Hn (Jw op x y) fun r=>if r=Θ then Hn (fc τ) fun z=>Hn (Jw Jr y z) fun r'=>.ok (.bl r') else .ok (.bl Ξ))/\
  PT X (.Compare a [KQ op,KQ Jr] [b,c] pos) (RT X.K (va++vb++vc) fun τ=>Hn (Hn (fa τ) fun x=>Hn (fb τ) fun y=>Hn (Jw op x y) fun r=>if r=Θ then Hn (fc τ) fun z=>Hn (Jw Jr y z) fun r'=>.ok (.bl r') else .ok (.bl Ξ)) il):=by
 refine⟨hG (vq (lD g.un op) (lD g.un Jr) ha hb hc hm) fun σ H Q ⟨S,τ,hs,q⟩=>?_,mF (vt (lD g.un op) (lD g.un Jr) ha hb hc hm) fun σ H Q ⟨S,τ,hs,q⟩=>?_⟩
 ·refine iq (.refl _) hs.left.left (Hw.Hn q) fun x v H1 e1 _ m1 q1=>?_;refine iq e1 hs.left.right (Hw.Hn q1) fun y w H2 e2 Js m2 q2=>?_;refine⟨nw S H,x,y,m1.later Js,m2,(Hw.Hn q2).mono fun d hd=>⟨d,rfl,?_⟩⟩
  induction d using zB with
  |false=>rw[d_ B_]at hd ⊢;exact hd.ok _ _ e2 (.bl _)
  |true=>rw[f_ rfl]at hd ⊢;refine iq e2 hs.right (Hw.Hn hd) fun z w' H3 e3 N5 m3 q3=>?_;exact⟨nw S H,y,z,m2.later N5,m3,(Hw.Hn q3).mono fun d hd=>hd.ok _ _ e3 (.bl _)⟩
 ·refine iq (.refl _) hs.left.left (Hw.Hn (Hw.Hn q)) fun x v H1 e1 _ m1 q1=>?_;refine iq e1 hs.left.right (Hw.Hn q1) fun y w H2 e2 Js m2 q2=>?_;refine⟨nw S H,x,y,m1.later Js,m2,(Hw.Hn q2).mono fun d hd=>⟨d,rfl,?_⟩⟩
  induction d using zB with
  |false=>rw[d_ B_]at hd ⊢;exact⟨Ξ,rfl,hd.ok.ok _ e2⟩
  |true=>rw[f_ rfl]at hd ⊢;refine iq e2 hs.right (Hw.Hn hd) fun z w' H3 e3 N5 m3 q3=>?_;exact⟨nw S H,y,z,m2.later N5,m3,(Hw.Hn q3).mono fun d hd=>⟨d,rfl,hd.ok.ok _ e3⟩⟩
theorem Bc {a b:Expr}{rest:List Expr}{pos:Pos}{va vb:List Nat}{fa fb:Ev->Res D}(ha:PE X a (RD X.K va fa))(hb:PE X (.BoolOp .And (b::rest) pos) (RD X.K vb fb)) :
  PE X (.BoolOp .And (a::b::rest) pos) (RD X.K (va++vb) fun τ=>Hn (fa τ) fun x=>Hn (il x) fun r=>if r=Θ then fb τ else .ok x):=by
 intro pins s σ H Q I h;obtain⟨S,τ,hs,q⟩:=h;refine BoolOp_and (IG (ha pins s σ H (fun v H'=>∃d,g7 H H'/\Hx X.K (nw S H) H' v d/\_) I (iq (.refl _) hs.left (Hw.Hn q) fun x v H1 e1 _ m1 q1=>⟨x,e1,m1,q1⟩)) fun v s1 ⟨x,H1,I1,r1,d,e1,m1,q1⟩=>?_);refine IG (mf (Q:=fun b H'=>H'=H1/\Hw (if b=Θ then fb τ else .ok d) (Kk X.K S H Q)) I1 r1 m1 ((Hw.Hn q1).mono fun b z=>⟨rfl,z⟩)) fun c s2 ⟨H2,I2,e2,q2⟩=>?_;subst e2
 induction c using zB with
 |true=>rw[f_ rfl]at q2 ⊢;exact hb pins s2 σ _ Q I2 (iq e1 hs.right q2 fun y w H3 e3 _ m3 q3=>q3 _ _ e3 m3)
 |false=>rw[d_ B_]at q2 ⊢;exact⟨x,_,I2,r1,q2.ok _ _ e1 m1⟩
theorem E0 {a b:Expr}{rest:List Expr}{pos:Pos}{va vb:List Nat}{fa fb:Ev->Res D}(ha:PE X a (RD X.K va fa))(hb:PE X (.BoolOp .Or (b::rest) pos) (RD X.K vb fb)) :
  PE X (.BoolOp .Or (a::b::rest) pos) (RD X.K (va++vb) fun τ=>Hn (fa τ) fun x=>Hn (il x) fun r=>if r=Θ then .ok x else fb τ):=by
 intro pins s σ H Q I h;obtain⟨S,τ,hs,q⟩:=h;refine BoolOp_or (IG (ha pins s σ H (fun v H'=>∃d,g7 H H'/\Hx X.K (nw S H) H' v d/\_) I (iq (.refl _) hs.left (Hw.Hn q) fun x v H1 e1 _ m1 q1=>⟨x,e1,m1,q1⟩)) fun v s1 ⟨x,H1,I1,r1,d,e1,m1,q1⟩=>?_);refine IG (mf (Q:=fun b H'=>H'=H1/\Hw (if b=Θ then .ok d else fb τ) (Kk X.K S H Q)) I1 r1 m1 ((Hw.Hn q1).mono fun b z=>⟨rfl,z⟩)) fun c s2 ⟨H2,I2,e2,q2⟩=>?_;subst e2
 induction c using zB with
 |false=>rw[d_ B_]at q2 ⊢;exact hb pins s2 σ _ Q I2 (iq e1 hs.right q2 fun y w H3 e3 _ m3 q3=>q3 _ _ e3 m3)
 |true=>rw[f_ rfl]at q2 ⊢;exact⟨x,_,I2,r1,q2.ok _ _ e1 m1⟩
theorem E1 (ha:PE X a (RD X.K va fa))(ht:PT X a (RT X.K va fun τ=>Hn (fa τ) il)) :
  PE X (.UnaryOp .Not a pos) (RD X.K va fun τ=>Hn (fa τ) fun x=>Hn (il x) fun r=>.ok (.bl !r))/\PT X (.UnaryOp .Not a pos) (RT X.K va fun τ=>Hn (Hn (fa τ) fun x=>Hn (il x) fun r=>.ok (.bl !r)) il):=by
 constructor
 ·intro pins s σ H Q I h;obtain⟨S,τ,hs,q⟩:=h;refine UnaryOp_ (IG (ha pins s σ H (fun v H'=>∃d,g7 H H'/\Hx X.K (nw S H) H' v d/\_) I (iq (.refl _) hs (Hw.Hn q) fun x v H1 e1 _ m1 q1=>⟨x,e1,m1,q1⟩)) fun v s1 ⟨x,H1,I1,r1,d,e1,m1,q1⟩=>?_);refine not_of (IG (mf (Q:=fun b H'=>Q (.bl !b) H') I1 r1 m1 ((Hw.Hn q1).mono fun b z=>z.ok _ _ e1 (.bl _))) fun c s2 ⟨H2,I2,q2⟩=>⟨.bl !c,H2,I2,rfl,q2⟩)
 ·refine mF (BV ht) fun σ H Q ⟨S,τ,hs,q⟩=>?_;exact kj (.refl _) hs (Hw.mk ((Hw.Hn (Hw.Hn q)).mono fun x hx=>(Hw.Hn hx).mono fun r hr=>hr.ok.ok)) fun x H2 e2 _ k=>k H2 e2
theorem wV {e:Expr}{pos:Pos}{op:BoolOp}{es:List Expr}{t:TT}(h:PT X (.BoolOp op es pos) t):PW X (.BoolOp op es pos) t:=fun _ pins s σ H Q I q=>h pins s σ H Q I q
theorem Bd {a b:Expr}{rest:List Expr}{pos:Pos}{va vb:List Nat}{fa fb:Ev->Res D}(ha:PT X a (RT X.K va fun τ=>Hn (fa τ) il))(hb:PW X (.BoolOp .And (b::rest) pos) (RT X.K vb fun τ=>Hn (fb τ) il)) :
  PT X (.BoolOp .And (a::b::rest) pos) (RT X.K (va++vb) fun τ=>Hn (Hn (fa τ) fun x=>Hn (il x) fun r=>if r=Θ then fb τ else .ok x) il):=by
 refine mF (BU ha hb).pt fun σ H Q ⟨S,τ,hs,q⟩=>?_;refine kj (.refl _) hs.left (Kt:=fun r=>Hw (if r=Θ then Hn (fb τ) il else .ok Ξ) fun b=>∀H',g7 H H'->Q b H') (Hw.mk ((Hw.Hn (Hw.Hn q)).mono fun x hx=>(Hw.Hn hx).eq.mono fun r hr=>?_)) fun r H2 e2 _ k=>?_
 ·obtain⟨er,hr⟩:=hr
  induction r using zB with
  |true=>rw[f_ rfl]at hr ⊢;exact Hw.mk hr
  |false=>rw[d_ B_]at hr ⊢;have NA:Hw (il x) _:=hr;rw[er]at NA;exact NA
 ·induction r using zB with
  |true=>rw[f_ rfl]at k ⊢;exact kj e2 hs.right k fun b H3 e3 _ z=>z H3 e3
  |false=>rw[d_ B_]at k ⊢;exact k.ok H2 e2
theorem E2 {a b:Expr}{rest:List Expr}{pos:Pos}{va vb:List Nat}{fa fb:Ev->Res D}(ha:PT X a (RT X.K va fun τ=>Hn (fa τ) il))(hb:PW X (.BoolOp .Or (b::rest) pos) (RT X.K vb fun τ=>Hn (fb τ) il)) :
  PT X (.BoolOp .Or (a::b::rest) pos) (RT X.K (va++vb) fun τ=>Hn (Hn (fa τ) fun x=>Hn (il x) fun r=>if r=Θ then .ok x else fb τ) il):=by
 refine mF (Ei ha hb).pt fun σ H Q ⟨S,τ,hs,q⟩=>?_;refine kj (.refl _) hs.left (Kt:=fun r=>Hw (if r=Θ then .ok Θ else Hn (fb τ) il) fun b=>∀H',g7 H H'->Q b H') (Hw.mk ((Hw.Hn (Hw.Hn q)).mono fun x hx=>(Hw.Hn hx).eq.mono fun r hr=>?_)) fun r H2 e2 _ k=>?_
 ·obtain⟨er,hr⟩:=hr
  induction r using zB with
  |false=>rw[d_ B_]at hr ⊢;exact Hw.mk hr
  |true=>rw[f_ rfl]at hr ⊢;have NA:Hw (il x) _:=hr;rw[er]at NA;exact NA
 ·induction r using zB with
  |false=>rw[d_ B_]at k ⊢;exact kj e2 hs.right k fun b H3 e3 _ z=>z H3 e3
  |true=>rw[f_ rfl]at k ⊢;exact k.ok H2 e2
theorem E3 {c a b:Expr}{pos:Pos}{vc va vb:List Nat}{fc fa fb:Ev->Res D}(hc:PT X c (RT X.K vc fun τ=>Hn (fc τ) il))(ha:PE X a (RD X.K va fa))(hb:PE X b (RD X.K vb fb))
  (ta:PT X a (RT X.K va fun τ=>Hn (fa τ) il)) (tb:PT X b (RT X.K vb fun τ=>Hn (fb τ) il)) :
  PE X (.IfExp c a b pos) (RD X.K (vc++va++vb) fun τ=>Hn (fc τ) fun x=>Hn (il x) fun r=>if r=Θ then fa τ else fb τ)/\
  PT X (.IfExp c a b pos) (RT X.K (vc++va++vb) fun τ=>Hn (Hn (fc τ) fun x=>Hn (il x) fun r=>if r=Θ then fa τ else fb τ) il):=by
 constructor
 ·refine hG (pP hc ha hb) fun σ H Q ⟨S,τ,hs,q⟩=>?_;refine kj (.refl _) hs.left.left (Hw.mk ((Hw.Hn q).mono fun x hx=>Hw.Hn hx)) fun r H2 e2 _ k=>?_
  induction r using zB with
  |true=>rw[f_ rfl]at k ⊢;exact iq e2 hs.left.right k fun y w H3 e3 _ m3 q3=>q3 _ _ e3 m3
  |false=>rw[d_ B_]at k ⊢;exact iq e2 hs.right k fun y w H3 e3 _ m3 q3=>q3 _ _ e3 m3
 ·intro pins s σ H Q I h;obtain⟨S,τ,hs,q⟩:=h
  refine isTrue_IfExp (IG (hc pins s σ H (fun r H2=>g7 H H2/\Hw (if r=Θ then fa τ else fb τ) fun d=>Hw (il d) fun b=>∀H',g7 H H'->Q b H') I
   (kj (.refl _) hs.left.left (Hw.mk ((Hw.Hn (Hw.Hn q)).mono fun x hx=>Hw.Hn hx)) fun r H2 e2 _ k=>⟨e2,k⟩)) fun d s1 ⟨H1,I1,e1,q1⟩=>?_)
  induction d using zB with
  |true=>rw[f_ rfl]at q1;exact ta pins s1 σ H1 Q I1 (kj e1 hs.left.right (Hw.mk q1) fun b H3 e3 _ z=>z H3 e3)
  |false=>rw[d_ B_]at q1;exact tb pins s1 σ H1 Q I1 (kj e1 hs.right (Hw.mk q1) fun b H3 e3 _ z=>z H3 e3)
theorem E4 (h:PA X es (RA X.K va fa)):PE X (.Tuple es n pos) (RD X.K va fun τ=>Hn (fa τ) fun ds=>HB (iS ds.length) (.ok (.tup ds))):=by refine hG (vy h) fun σ H Q ⟨S,τ,hs,q⟩=>?_;refine qt (.refl _) hs (Hw.Hn q) fun ds vs H1 e1 _ m1 q1=>?_;obtain⟨g,q1⟩:=Hw.HB q1;exact⟨by rw[m1.length];exact i6 g,fun p hp=>q1.ok _ _ (e1.trans (.upd hp)) ((ES hp m1).mono (oh e1) (.refl _))⟩
theorem E5 (h:PA X es (RA X.K va fa)):PE X (.List es pos) (RD X.K va fun τ=>Hn (fa τ) fun ds=>HB (iS ds.length) (.ok (.lst Θ ds))):=by refine hG (mC h) fun σ H Q ⟨S,τ,hs,q⟩=>?_;refine qt (.refl _) hs (Hw.Hn q) fun ds vs H1 e1 _ m1 q1=>?_;obtain⟨g,q1⟩:=Hw.HB q1;exact⟨by rw[m1.length];exact i6 g,fun p hp=>q1.ok _ _ (e1.trans (.upd hp)) ((rB hp m1).mono (oh e1) (.refl _))⟩
theorem E6 (ha:PE X a (RD X.K va fa))(hb:PE X b (RD X.K vb fb))(hp:iT b=Θ) :
  PE X (.Subscript a b pos) (RD X.K (va++vb) fun τ=>Hn (fa τ) fun x=>Hn (fb τ) fun y=>ir x y):=by
 refine hG (A8 (zM) ha hb fun o i=>by cases b<;>first|rfl|cases hp) fun σ H Q ⟨S,τ,hs,q⟩=>?_;refine iq (.refl _) hs.left (Hw.Hn q) fun x v H1 e1 _ m1 q1=>?_;refine iq e1 hs.right (Hw.Hn q1) fun y w H2 e2 Js m2 q2=>?_;exact⟨nw S H,x,y,m1.later Js,m2,q2.mono fun d hd=>hd.fit e2⟩
theorem GZ {a:Expr}{lo hi:Option Expr}{pos p2:Pos}{va vl vh:List Nat}{fa:Ev->Res D}{fl fh:Ev->Res (Option Int)}(ha:PE X a (RD X.K va fa))(hl:PO X lo (P9 X.K vl fl))(hh:PO X hi (P9 X.K vh fh)) :
  PE X (.Subscript a (.Slice lo hi Φ p2) pos) (RD X.K (va++vl++vh) fun τ=>Hn (fa τ) fun x=>Hn (fl τ) fun l=>Hn (fh τ) fun h=>qe x l h):=by
 refine hG (pS (zN) ha hl hh) fun σ H Q ⟨S,τ,hs,q⟩=>?_;refine iq (.refl _) hs.left.left (Hw.Hn q) fun x v H1 e1 _ m1 q1=>?_;refine zW e1 hs.left.right (Hw.Hn q1) fun l H2 e2 Js q2=>?_;refine zW e2 hs.right (Hw.Hn q2) fun h H3 e3 N5 q3=>?_;exact⟨nw S H,x,m1.later (Js.trans N5),q3.mono fun d hd=>hd.fit e3⟩
theorem s_call (g:IV Z CX cl X G)  (h1:mZ Z G f x=Θ)(h2:Z.N3 G f=Θ)(Jj:iM Z G es args=Θ)(h:PA X args (RA X.K (hU es) (iQ cl es))) :
  PE X (.Call (.Name x p) args [] pos) (RD X.K (hU es) fun τ=>Hn (iQ cl es τ) fun ds=>cl f (HC ds)):=by
 obtain⟨k1,k2,k3,k4⟩:=wR g h1;obtain⟨k,Vu,fd,ps,hm,ND,hb,F,hr,hlen⟩:=(g.fns f (pj h2).1 (pj h2).2 x k2).ex;obtain⟨E,hP⟩:=g.P7;intro pins s σ H Q I q;obtain⟨S,τ,hs,q⟩:=q;have fin:∀(us:List Ψ) (s1:Α) (vs:List V) (H1:Hp) (ds:List D),Inv X pins σ H1 s1->Vals vs us->g7 H H1->Hq X.K (nw S H) H1 vs ds->Hw (cl f (HC ds)) (Kk X.K S H Q)->Κ (Μ X.prog X.w) X.A (call (.ref Vu) us) (EP X pins σ Q) X.xe s1:=by
  intro us s1 vs H1 ds I1 r e m q1;have hl:=hlen _ _ q1;rw[jQ]at hl;refine sS F hr hb hP g.Mi I1 r (by rw[m.length];exact hl) (Fc:=fun a=>nw S H a/\H1 a≠Φ) (fun a z=>z.2) m.K7 ?_;cases z:cl f (HC ds) with
  |error er=>rw[z]at q1;cases er;exact q1.no.elim
  |ok d=>
   rw[z]at q1;intro v H' F' fv o;refine q1.ok _ _ (e.trans o.same) (o.rep.read (fun a ha=>?_) fun a ha=>?_)
   ·rcases o.out a ha with z|z
    ·exact z.1
    ·exact .inr (e.free z)
   ·exact .inr (e.free (o.new a ha))
 refine aau (oH I k1 hm ?_ k4)
 induction args using zL with
 |nil=>
  induction es using zL with
  |cons _ _=>cases Jj
  |nil=>exact PySem.W.callWith_K0 I.Lg ND (fin [] s [] H [] I .nil (.refl _) .nil q)
 |cons e l=>
  induction es using zL with
  |nil=>cases Jj
  |cons a es=>have Ja:(notStar e&&HE Z G a e&&iM Z G es l)=Θ:=Jj;simp only[h_]at Ja;refine PySem.W.callWith_K (h₀:=X.base) I.ok.mod.S6 ND (IG (h pos pins s σ H (fun vs H1=>∃ds,g7 H H1/\Hq X.K (nw S H) H1 vs ds/\Hw (cl f (HC ds)) (Kk X.K S H Q)) I ⟨S,τ,hs,(Hw.Hn q).mono fun ds hd vs H1 e m=>⟨ds,e,m,hd⟩⟩) fun us s1 ⟨vs,H1,I1,r,ds,e,m,q1⟩=>⟨I1.Lg,?_⟩) (fD Ja.1.1 l X.env) (jb Z G (es:=es) pos X.env Ja.2);exact fin us s1 vs H1 ds I1 r e m q1
theorem G0 (g:IV Z CX cl X G)  (hg:G.Kb (og f)=Θ)(Jj:iM Z G es (a::args)=Θ)(h:PA X (a::args) (RA X.K (hU es) (iQ cl es))) :
  PE X (.Call (.Name (jT f) p) (a::args) [] pos) (RD X.K (hU es) fun τ=>Hn (iQ cl es τ) fun ds=>jr f ds):=by
 obtain⟨k1,k2,k3,k4⟩:=i9 g (wN f) (lF hg)
 induction es using zL with
 |nil=>cases Jj
 |cons b es=>
  have Ja:(notStar a&&HE Z G b a&&iM Z G es args)=Θ:=Jj;simp only[h_]at Ja;have mono:∀σ H Q,RD X.K (hU (b::es)) (fun τ=>Hn (iQ cl (b::es) τ) fun ds=>jr f ds) σ H Q->UH (Yu X.K f) (RA X.K (hU (b::es)) (iQ cl (b::es))) σ H Q:=by rintro σ H Q ⟨S,τ,hs,q⟩;refine qt (.refl _) hs (Hw.Hn q) fun ds vs H1 e1 _ m1 q1=>?_;exact⟨nw S H,ds,m1,q1.mono fun d hd=>hd.fit e1⟩
  refine hG ?_ mono;have hv:=sN f;have hc:=zP (X:=X) (g.calm (lG hg)) f;unfold wB at hv hc;cases z:ET f with
  |true=>rw[z,f_ rfl]at hv hc;exact kY hc k1 k2 hv h k3 k4 (fD Ja.1.1 args X.env) (jb Z G (es:=es) pos X.env Ja.2)
  |false=>rw[z,d_ B_]at hv hc;exact mD hc k1 k2 hv h k3 k4 (fD Ja.1.1 args X.env) (jb Z G (es:=es) pos X.env Ja.2)
noncomputable def Vv:Kd->V
 |.str=>.ty "str" |.int=>.ty "int" |.bool=>.ty "bool" |.list=>.ty "list" |.tuple=>.ty "tuple"
theorem sT (k:Kd):RelV (Vv k) (wC k):=by cases k<;>rfl
theorem wW (k:Kd):ji X (.builtin "isinstance") (fun xs H Q=>∃S x d,xs=[x,Vv k]/\Hx X.K S H x d/\mR d=Θ/\Q (.bl (jA k d)) H):=by
 intro pins s σ H xs us Q I r h;obtain⟨S,x,d,rfl,m,hn,q⟩:=h;obtain⟨u,w',rfl,r1,r2⟩:=vals2 r;have e:w'=wC k:=by have:=r2.abs;have h2:=(sT k).abs;cases k<;>(revert r2;intro r2;exact r2)
 subst e;exact zU I r1 m k hn q
theorem E7 (g:IV Z CX cl X G)  (hg:G.gl.contains 14=Θ)(hk:G.gl.contains (sO k)=Θ)(hn:notStar e=Θ)(ha:PE X e (RD X.K va fa)) :
  PE X (.Call (.Name "isinstance" p) [e,.Name (ko k) p'] [] pos) (RD X.K va fun τ=>Hn (fa τ) fun x=>HB (mR x) (.ok (.bl (jA k x)))):=by
 obtain⟨k1,k2,k3,k4⟩:=i9 g (show iA[14]? = Δ ("isinstance" : Str) from rfl) hg;obtain⟨j1,j2,j3,j4⟩:=i9 g (CM k) hk;have pa:PA X [e,.Name (ko k) p'] (kz (RD X.K va fa) (kz (tC (Vv k)) pQ)):=ip ha (ip (yN j1 j2 (zQ k) (sT k) j3 j4) iK rfl) (fD hn _ _);refine hG (mD (wW k) k1 k2 PyProof.Rows.boot_isinstance pa k3 k4 (fD hn _ _) rfl) fun σ H Q ⟨S,τ,hs,q⟩=>?_;refine iq (.refl _) hs (Hw.Hn q) fun x v H1 e1 _ m1 q1=>?_;obtain⟨gd,q1⟩:=Hw.HB q1;exact⟨nw S H,v,x,rfl,m1,gd,q1.ok _ _ e1 (.bl _)⟩
theorem Hq.rev:∀ {vs:List V}{ds:List D},Hq K S H vs ds->Hq K S H vs.reverse ds.reverse
 |[],[],_=>.nil
 |v::vs,d::ds,.cons h t=>by rw[List.reverse_cons,List.reverse_cons];exact(Hq.rev t).append (.cons h .nil)
theorem CU (g:IV Z CX cl X G)  (h1:G.gl.contains 4=Θ)(h2:G.gl.contains 12=Θ)(hn:notStar e=Θ)(Rb:G.cm=Θ)(ha:PE X e (RD X.K va fa)) :
  PE X (.Call (.Name "sorted" p) [.Call (.Name "set" p') [e] [] pos'] [] pos) (RD X.K va fun τ=>Hn (fa τ) sE):=by
 obtain⟨k1,k2,k3,k4⟩:=i9 g (show iA[4]? = Δ ("sorted" : Str) from rfl) h1;obtain⟨j1,j2,j3,j4⟩:=i9 g (show iA[12]? = Δ ("set" : Str) from rfl) h2;have cc:=uK (g.calm Rb);have cs:=oY (g.calm Rb);have i1:=kY (p:=p') (pos:=pos') cc j1 j2 (by decide +kernel) (ip ha iK (fD hn _ _)) (by decide) (by decide) (fD hn _ _) rfl;have i2:=mD (p:=p) (pos:=pos) cs k1 k2 (by decide +kernel) (ip i1 iK rfl) (by decide) (by decide) rfl rfl;refine hG i2 fun σ H Q ⟨S,τ,hs,q⟩=>?_;refine iq (.refl _) hs (Hw.Hn q) fun d v H1 e1 _ m1 q1=>?_
 induction d using zD with
 |lst o ds=>
  obtain⟨a,ys,rfl,qq,m⟩:=m1.IZ;have q2:Hw (match iI ds with|some ns=>HB (decide (ns.length < 64)) (.ok (.lst Θ ((PySem.W.sortI (dd ns)).map .int)))|none=>Ir) (Kk X.K S H Q):=q1;cases z:iI ds with
  |none=>rw[z]at q2;exact q2.no.elim
  |some ns=>rw[z]at q2;obtain⟨gd,q3⟩:=Hw.HB q2;have Nu:ns.length < 64:=q_ gd;rw[jS z]at m;rw[m.ints]at qq;refine⟨a,ns,rfl,qq,Nu,fun a' o' Rc L0=>⟨a',o',dd ns,rfl,gZ,L0,Nat.lt_of_le_of_lt (wo ns) Nu,fun l hl=>?_⟩⟩;have Tt:H1 l=Φ:=(g7.upd Rc).free hl;exact q3.ok _ _ ((e1.trans (.upd Rc)).trans (.upd hl)) (.lst (.inr (e1.free Tt)) (.inl gZ) (Hq.ofInts _))
 |_=>exact q1.no.elim
theorem CV (g:IV Z CX cl X G)  (h1:G.Kb 5=Θ)(h2:G.gl.contains 18=Θ)(hn:notStar e=Θ)(ha:PE X e (RD X.K va fa)) :
  PE X (.Call (.Name "list" p) [.Call (.Name "reversed" p') [e] [] pos'] [] pos) (RD X.K va fun τ=>Hn (fa τ) zF):=by
 obtain⟨k1,k2,k3,k4⟩:=i9 g (show iA[5]? = Δ ("list" : Str) from rfl) (lF h1);obtain⟨j1,j2,j3,j4⟩:=i9 g (show iA[18]? = Δ ("reversed" : Str) from rfl) h2;refine hG (zd (g.calm (lG h1)) k1 k2 j1 j2 ha fun es=>fD hn es X.env) fun σ H Q ⟨S,τ,hs,q⟩=>?_;refine iq (.refl _) hs (Hw.Hn q) fun x v H1 e1 _ m1 q1=>?_
 induction x using zD with
 |lst o ds=>obtain⟨a,ys,rfl,qq,m⟩:=m1.IZ;exact⟨a,ys,rfl,qq,fun l hl=>Kk.fit e1 q1 _ _ (.upd hl) (rB hl m.rev)⟩
 |_=>exact q1.no.elim
theorem rF (h:kn d=Θ):∃x,d=.str x:=by
 induction d using zD<;>first|exact⟨_,rfl⟩|cases h
theorem E8 (g:IV Z CX cl X G)  (hn:mY o=Θ)(hl:(apos.endLine == Iz.line)=Θ)(hlen:(a::args).length < 29)
  (Jj:iM Z G es (a::args)=Θ) (ho:PE X o (RD X.K vo fo)) (h:PA X (a::args) (RA X.K (hU es) (iQ cl es))) :
  PE X (.Call (.Attribute o (mU m) apos) (a::args) [] Iz) (RD X.K (vo++hU es) fun τ=>Hn (fo τ) fun x=>HB (kn x) (Hn (iQ cl es τ) fun ds=>nJ m x ds)):=by
 induction es using zL with
 |nil=>cases Jj
 |cons b es=>
  have Ja:(notStar a&&HE Z G b a&&iM Z G es args)=Θ:=Jj;simp only[h_]at Ja;have star:=jb Z G (es:=es) Iz X.env Ja.2;have mono:∀σ H Q,RD X.K (vo++hU (b::es)) (fun τ=>Hn (fo τ) fun x=>HB (kn x) (Hn (iQ cl (b::es) τ) fun ds=>nJ m x ds)) σ H Q->XX X.K "str" (Yv X.K m) (RD X.K vo fo) (RA X.K (hU (b::es)) (iQ cl (b::es))) σ H Q:=by rintro σ H Q ⟨S,τ,hs,q⟩;refine iq (.refl _) hs.left (Hw.Hn q) fun x v H1 e1 _ m1 q1=>?_;obtain⟨gd,q1⟩:=Hw.HB q1;obtain⟨z,rfl⟩:=rF gd;cases m1.Jh;refine⟨rfl,qt e1 hs.right (Hw.Hn q1) fun ds vs H2 e2 Js m2 q2=>?_⟩;exact⟨nw S H,.str z,ds,.str z,m2,q2.mono fun d hd=>hd.fit e2⟩
  have Mu:attributeBase o (mU m) X.env (eval o X.env)=eval o X.env:=by
   induction o using zE with
   |Call f args J2 pos=>
    induction args using zL with
    |nil=>
     induction J2 using zL with
     |nil=>cases hn
     |cons _ _=>cases f<;>rfl
    |cons _ _=>cases f<;>rfl
   |_=>rfl
  have Vw:(backTo Iz (Ν (a::args) X.env)).all (fun x=>!x.1)=Θ:=by rw[fD Ja.1.1];show(Θ&&(backTo Iz (Ν args X.env)).all (fun x=>!x.1))=Θ;rw[Bool.true_and,W_];intro y hy;have:=List.any_eq_false.mp star y hy;simpa using this
  have J':((backTo Iz (Ν (a::args) X.env)).all (fun x=>!x.1)&&(backToKw Iz (keywordEach [] X.env)).all (fun x=>x.1.isSome)&&decide ((a::args).length+([]:List Keyword).length+(if([]:List Keyword).isEmpty then 0 else 1) < 30))=Θ:=by rw[Vw];have:decide ((a::args).length+([]:List Keyword).length+(if([]:List Keyword).isEmpty then 0 else 1) < 30)=Θ:=u_ (by simp at hlen ⊢;omega);rw[this];rfl
  refine hG ?_ mono;cases m with
  |join=>exact mE PySem.F.plainAttrs_str PySem.F.slot_str_join PySem.F.type_str_join (zV .join) ho h Mu J' hl (fD Ja.1.1 args X.env) star
end
section
variable {Z:Sg}{CX:JD}{cl:Nat->List D->Res D}{X:Cx}{G:Gm}
theorem sU {K:Frag}{S:Ω->Prop}{H:Hp}{w:V}{y:D}{q:Key}(m:Hx K S H w y)(h:nH y=Δ q):w=kV q:=by
 induction y using zD with
 |int i=>cases h;cases m.ID;rfl
 |str x=>cases h;cases m.Jh;rfl
 |_=>cases h
theorem wX {K:Frag}{S:Ω->Prop}{H:Hp}(q:Key):∀(kvs:List (Key×V)) (ds:List D),Hq K S H (kvs.map (·.2)) ds->
  (∀d,look (kvs.map (·.1)) ds q=Δ d->∃v,k8 kvs q=Δ v/\Hx K S H v d)/\(look (kvs.map (·.1)) ds q).isSome=(k8 kvs q).isSome:=by
 intro kvs
 induction kvs with
 |nil=>intro ds _;exact⟨fun d h=>(by cases h),rfl⟩
 |cons p kvs ih=>
  intro ds m;rw[b_]at m
  induction ds using zL with
  |nil=>exact absurd m.length (by simp)
  |cons d ds=>
   cases m with
   |cons m1 m2=>
    obtain⟨i1,i2⟩:=ih ds m2;have e1:look ((p::kvs).map (·.1)) (d::ds) q=if p.1=q then Δ d else look (kvs.map (·.1)) ds q:=rfl
    rw[e1];unfold k8 at i1 i2 ⊢;rw[List.find?_cons];by_cases h:p.1=q
    ·rw[f_ h,u_ h];exact⟨fun d' z=>⟨p.2,rfl,by cases z;exact m1⟩,rfl⟩
    ·rw[d_ h,G_ h];exact⟨i1,i2⟩
theorem Hx.Vx {K:Frag}{S:Ω->Prop}{H:Hp}{v:V}{o:Bool}{ks:List Key}{ds:List D}(h:Hx K S H v (.IE o ks ds)):∃a kvs,v=.ref a/\Rd H a (.dK kvs)/\kvs.map (·.1)=ks/\Hq K S H (kvs.map (·.2)) ds:=by
 cases h with
 |IE h0 h1 h2 h3=>exact⟨_,_,rfl,h1,h2,h3⟩
theorem CW:PE X (.Dict [] [] pos) (RD X.K [] (HA cl .Kp)):=by refine hG pX fun σ H Q ⟨S,τ,hs,q⟩=>fun p hp=>?_;exact q.ok _ _ (.upd hp) (.IE (kvs:=[]) (.inr hp) (.inl gZ) rfl .nil)
theorem CY (g:IV Z CX cl X G)  (ha:PE X a (RD X.K va fa))(hb:PE X b (RD X.K vb fb))(hp:iT b=Θ) :
  PE X (.Subscript a b pos) (RD X.K (va++vb) fun τ=>Hn (fa τ) fun x=>Hn (fb τ) fun y=>qg x y):=by
 have hu:=g.un;refine hG (zg (by omega) ha hb fun o i=>by cases b<;>first|rfl|cases hp) fun σ H Q ⟨S,τ,hs,q⟩=>?_;refine iq (.refl _) hs.left (Hw.Hn q) fun x v H1 e1 _ m1 q1=>?_;refine iq e1 hs.right (Hw.Hn q1) fun y w H2 e2 Js m2 q2=>?_
 induction x using zD with
 |IE o ks ds=>
  have q3:Hw (match nH y with|some q=>(match look ks ds q with|some d=>.ok d|none=>Ir)|none=>Ir) (Kk X.K S H Q):=q2;cases hk:nH y with
  |none=>rw[hk]at q3;exact q3.no.elim
  |some k=>
   simp only[hk]at q3;obtain⟨p,kvs,rfl,h1,rfl,h3⟩:=(m1.later Js).Vx;cases hl:look (kvs.map (·.1)) ds k with
   |none=>rw[hl]at q3;exact q3.no.elim
   |some d=>rw[hl]at q3;obtain⟨v,hv,mv⟩:=(wX k kvs ds h3).1 d hl;exact⟨p,v,rfl,.inl ⟨kvs,k,h1,sU m2 hk,hv.symm⟩,q3.ok _ _ e2 mv⟩
 |_=>exact q2.no.elim
end
section
variable {Z:Sg}{CX:JD}{cl:Nat->List D->Res D}{X:Cx}{G:Gm}
theorem CZ (g:IV Z CX cl X G)  (hn:isNm o=Θ)(hl:(apos.endLine == Iz.line)=Θ)(h1:notStar s=Θ)(ha:PE X o (RD X.K va fa))(hb:PE X s (RD X.K vb fb)) :
  PE X (.Call (.Attribute o "index" apos) [s] [] Iz) (RD X.K (va++vb) fun τ=>Hn (fa τ) fun x=>HB (rm x) (Hn (fb τ) fun y=>qh x y)):=by
 have htr:backTo Iz (Ν [s] X.env)=[(Ξ,eval s X.env)]:=by rw[fD h1];rfl
 have pa:PA X [s] (kz (RD X.K vb fb) pQ):=ip hb iK (fD h1 _ _);refine hG (mE PySem.F.plainAttrs_list PySem.F.slot_list_index PySem.F.type_list_index zv ha pa (by cases o<;>first|rfl|cases hn) (by rw[htr];rfl) hl (fD h1 [] X.env) rfl) fun σ H Q ⟨S,τ,hs,q⟩=>?_;refine iq (.refl _) hs.left (Hw.Hn q) fun x v H1 e1 _ m1 q1=>?_;obtain⟨gd,q1⟩:=Hw.HB q1
 induction x using zD with
 |lst o ds=>
  obtain⟨a,ys,rfl,qq,m⟩:=m1.IZ;refine⟨.inl ⟨rfl,_,qq⟩,iq e1 hs.right (Hw.Hn q1) fun y w H2 e2 Js m2 q2=>?_⟩
  induction y using zD with
  |int y=>
   cases m2.ID;have q3:Hw (match iI ds with|some ns=>(match ki y ns with|some j=>.ok (.int j)|none=>Ir)|none=>Ir) (Kk X.K S H Q):=q2;cases z:iI ds with
   |none=>rw[z]at q3;exact q3.no.elim
   |some ns=>
    rw[z]at q3;have q3:Hw (match ki y ns with|some j=>.ok (.int j)|none=>Ir) (Kk X.K S H Q):=q3;cases z':ki y ns with
    |none=>rw[z']at q3;exact q3.no.elim
    |some j=>
     rw[z']at q3;rw[jS z]at m;rw[m.ints]at qq;refine⟨a,ns,y,j,rfl,?_,rfl,z',q3.ok _ _ e2 (.int _)⟩;rcases qq with qq|qq
     ·exact .inl (Js.rd qq)
     ·exact .inr qq
  |_=>exact q2.no.elim
 |_=>cases gd
theorem kL (n:Nat):((List.range n).map fun k=>V.int (k:Nat))=(((List.range n).map fun k:Nat=>(k:Int)).map V.int)/\((List.range n).map fun k=>D.int (k:Nat))=(((List.range n).map fun k:Nat=>(k:Int)).map D.int):=by rw[y_,y_];exact⟨rfl,rfl⟩
theorem C0 (g:IV Z CX cl X G)  (h1:G.Kb 5=Θ)(h2:G.gl.contains 15=Θ)(hn:notStar e=Θ)(ha:PE X e (RD X.K va fa)) :
  PE X (.Call (.Name "list" p) [.Call (.Name "range" p') [e] [] pos'] [] pos) (RD X.K va fun τ=>Hn (fa τ) qi):=by
 obtain⟨k1,k2,k3,k4⟩:=i9 g (show iA[5]? = Δ ("list" : Str) from rfl) (lF h1);obtain⟨j1,j2,j3,j4⟩:=i9 g (show iA[15]? = Δ ("range" : Str) from rfl) h2;refine hG (sC (g.calm (lG h1)) k1 k2 j1 j2 ha fun es=>fD hn es X.env) fun σ H Q ⟨S,τ,hs,q⟩=>?_;refine iq (.refl _) hs (Hw.Hn q) fun x v H1 e1 _ m1 q1=>?_
 induction x using zD with
 |int n=>cases m1.ID;obtain⟨gd,q1⟩:=Hw.HB q1;have ME:0<=n/\n<=1000:=q_ gd;refine⟨n.toNat,by rw[Int.toNat_of_nonneg ME.1],by omega,fun l hl=>Kk.fit e1 q1 _ _ (.upd hl) (rB hl ?_)⟩;rw[(kL _).1,(kL _).2];exact Hq.ofInts _
 |_=>exact q1.no.elim
end
theorem oq {K:Frag}{S:Ω->Prop}{H:Hp}:∀(vs:List V) (ds:List D),vs.length=ds.length->(∀(k:Nat) v d,vs[k]? = Δ v->ds[k]? = Δ d->Hx K S H v d)->Hq K S H vs ds
 |[],[],_,_=>.nil
 |v::vs,d::ds,hl,h=>.cons (h 0 v d rfl rfl) (oq vs ds (by simpa using hl) fun k v d h1 h2=>h (k+1) v d (by rw[aaI];exact h1) (by rw[aaI];exact h2))
 |[],_::_,hl,_=>by cases hl
 |_::_,[],hl,_=>by cases hl
section
variable {Z:Sg}{CX:JD}{cl:Nat->List D->Res D}{X:Cx}{G:Gm}
theorem sV {K:Frag}{S:Ω->Prop}{H:Hp}{v:V}{x:D}{ds:List D}(h:Hx K S H v x)(e:nK x=.ok ds):∃k a xs,v=.ref a/\Lq K H k a xs/\Hq K S H xs ds:=by
 induction x using zD with
 |lst o es=>cases e;obtain⟨a,xs,rfl,q,m⟩:=h.IZ;exact⟨.l,a,xs,rfl,q,m⟩
 |tup es=>cases e;obtain⟨a,xs,rfl,q,m⟩:=h.Jy;exact⟨.t,a,xs,rfl,q,m⟩
 |_=>cases e
theorem C1 (g:IV Z CX cl X G)  (h1:G.Kb 5=Θ)(h2:G.gl.contains 17=Θ)(hn:notStar a=Θ)(J8:notStar b=Θ)(ha:PE X a (RD X.K va fa))(hb:PE X b (RD X.K vb fb)) :
  PE X (.Call (.Name "list" p) [.Call (.Name "zip" p') [a,b] [] pos'] [] pos) (RD X.K (va++vb) fun τ=>Hn (fa τ) fun x=>Hn (fb τ) fun y=>sD x y):=by
 obtain⟨k1,k2,k3,k4⟩:=i9 g (show iA[5]? = Δ ("list" : Str) from rfl) (lF h1);obtain⟨j1,j2,j3,j4⟩:=i9 g (show iA[17]? = Δ ("zip" : Str) from rfl) h2;have s2:Ν [b] X.env=[(Ξ,eval b X.env)]:=fD J8 [] X.env;refine hG (zl (g.calm (lG h1)) k1 k2 j1 j2 (ip ha (ip hb iK (fD J8 _ _)) (fD hn _ _)) (by rw[fD hn,s2]) s2) fun σ H Q ⟨S,τ,hs,q⟩=>?_;refine iq (.refl _) hs.left (Hw.Hn q) fun x v H1 e1 _ m1 q1=>?_;refine iq e1 hs.right (Hw.Hn q1) fun y w H2 e2 Js m2 q2=>?_;have q3:=Hw.Hn (show Hw (Hn (mS x y) fun ds=>HB (iS ds.length) (.ok (D.lst Θ ds))) (Kk X.K S H Q) from q2);cases hx:nK x with
 |error er=>
  induction x using zD<;>first|(cases hx;done)|(rw[show mS _ y=Ir from rfl]at q3;exact q3.no.elim)
 |ok ds=>
  cases hy:nK y with
  |error er=>
   have:mS x y=Ir:=by
    unfold mS;rw[hx,hy]
    induction y using zD<;>first|(cases hy;done)|(cases hy;rfl)
   rw[this]at q3;exact q3.no.elim
  |ok es=>
   have hz:mS x y=.ok (ju ds es):=by unfold mS;rw[hx,hy];rfl
   rw[hz]at q3;obtain⟨gd,q4⟩:=Hw.HB q3.ok;obtain⟨ka,l,xs,rfl,g1,n1⟩:=sV (m1.later Js) hx;obtain⟨kb,m,ys,rfl,g2,n2⟩:=sV m2 hy;have lz:(ju ds es).length=min ds.length es.length:=by unfold ju;rw[List.length_zipWith]
   refine⟨ka,kb,l,m,xs,ys,rfl,g1,g2,by rw[n1.length,n2.length,<- lz];exact i6 gd,fun Ts A H' e hA NF hlen hT=>?_⟩;refine q4.ok (.ref A) H' (e2.trans e) (.lst (.inr (e2.free hA)) (.inl NF) (oq _ _ (by rw[g_,hlen,lz,n1.length,n2.length]) fun k v d hv hd=>?_));rw[A_]at hv;obtain⟨T,ht,rfl⟩:=aag.mp hv;obtain⟨x',y',J3,Nt,OL⟩:=hT k T ht;obtain⟨d1,hd1,r1⟩:=n1.L8 J3;obtain⟨d2,hd2,r2⟩:=n2.L8 Nt;have:(ju ds es)[k]? = Δ (.tup [d1,d2]):=by unfold ju;rw[List.getElem?_zipWith,hd1,hd2]
   rw[this]at hd;cases hd;exact .tup (.inl (.inl OL)) (.cons (r1.mono (fun _ z=>z) e) (.cons (r2.mono (fun _ z=>z) e) .nil))
end
section
variable {prog:Ε}{w:Β}{A:Ι}{E:Ψ->Α->Prop}{s:Α}
theorem m7 (JK:t≠it):∀(n i:Nat) (s:Α) (Q:List Ψ->Α->Prop),s.heap.IsListIter it t i->s.heap.IsList t items->i+n<=items.size->
  (∀h',h'.IsListIter it t (i+n)->Heap.SameBut it s.heap h'->Q ((items.toList.drop i).take n) {s with heap:=h'})->Κ (Μ prog w) A (draw (.ref it) n) Q E s
 |0,i,s,Q,hit,_,_,hQ=>by show Κ _ _ (pure []) Q E s;exact e_ (by simpa using hQ s.heap hit (Heap.SameBut.refl ..))
 |n+1,i,s,Q,hit,ht,hle,hQ=>by
  have IQ:i < items.size:=by omega
  show Κ _ _ (pyNext (.ref it) >>= _) Q E s;refine a_ (wpAny_pyNext_list_item hit ht (x:=items[i]) (by simp[IQ]) fun K3 Lv Lb=>?_);refine a_ (N_ (m7 JK n (i+1) _ _ Lv (ht.extBut Lb.extBut JK) (by omega) fun Lo OY Rf=>e_ ?_));have hd:items.toList.drop i=items[i]::items.toList.drop (i+1):=by simp[List.drop_eq_getElem_cons,IQ]
  have:=hQ Lo (by rw[show i+(n+1)=i+1+n by omega];exact OY) (Lb.trans Rf);rw[hd,List.take_succ_cons]at this;exact this
theorem lJ (hh:A.handled=Φ)(ht:s.heap.IsList t items)
  (hQ:∀h',Heap.ExtBut s.heap.objs.size s.heap h'->Q items.toList {s with heap:=h'}):Κ (Μ prog w) A (unpackItems (.ref t) items.size Φ) Q E s:=by
 have IQ:t≠s.heap.objs.size:=by obtain⟨o,ho,_⟩:=ht;exact m_ (j_ ho)
 have push:∀o,(s.heap.push o).IsList t items:=fun o=>by obtain⟨ob,e,c,n,d⟩:=ht;exact⟨ob,l_ _ e,c,n,d⟩
 unfold unpackItems;refine a_ ?_
 ·unfold notIterableAtAll;refine a_ (wpAny_specialOf ht.typeIs slot_list_iter.lookup ?_);refine e_ ?_;simp only[aax,if_false];refine a_ (N_ (aaz ht ?_));refine a_ (N_ (m7 IQ items.size 0 _ _ ⟨_,z_ _ rfl,rfl,rfl⟩ (push _) (by omega) fun K3 Lv Lb=>?_));have Ln:List.take items.size (List.drop 0 items.toList)=items.toList:=by rw[List.drop_zero];exact List.take_of_length_le (by simp)
  rw[Ln];rw[d_ (by simp)];have Rg:K3.IsList t items:=(push _).extBut Lb.extBut IQ;refine a_ (N_ (wpAny_pyNext_list_end hh Lv Rg (by simp) fun Lo Rh=>?_));simp only[Option.isSome_none,aax,if_false];refine e_ (hQ Lo fun b o hb e=>Rh b o hb (Lb.extBut b o hb (l_ _ e)))
end
def E9 (K:Frag)(n:Nat)(t:PN):TG:=fun v σ H Q=>∃a xs,v=.ref a/\(IP K H a xs∨Jo K H a xs)/\xs.length=n/\t xs σ H Q
theorem C2 (hc:X.calm=Θ)(h:QC X es t)(hn:(assignEach es X.env).length=n)(Jj:(assignEach es X.env).findIdx? (·.1)=Φ):PG X (.Tuple es k pos) (E9 X.K n t):=by
 intro pins s σ H v u Q I r hw;obtain⟨a,xs,e1,hq,hl,hw⟩:=hw;subst e1;cases r;rcases hq with hq|hq
 ·obtain⟨its,rv,ht,hz⟩:=I.tuple hq;refine assign_Tuple_tuple (I.ok.hd hc) ht (by simp[hn,<- hl,rv.length]) Jj fun h' hx=>?_;have I1:Inv X pins σ H {s with heap:=h'}:=I.kept (t':=s.toks) fun b o e=>hx b o (m_ (j_ e)) e;exact h pins _ σ H xs _ Q I1 (by simpa using rv) hw
 ·obtain⟨its,rv,pl,hz⟩:=I.list hq;rw[assign_Tuple];refine a_ (wpAny_standAt ?_);unfold unpack;have hlen:(assignEach es X.env).length=its.toArray.size:=by simp[hn,<- hl,rv.length]
  rw[hlen,Jj];refine a_ (N_ (lJ (I.ok.hd hc) pl.isList fun h' hx=>?_));have I1:Inv X pins σ H {s with heap:=h'}:=I.kept (t':=s.toks) fun b o e=>hx b o (m_ (j_ e)) e;exact h pins _ σ H xs _ Q I1 (by simpa using rv) hw
mutual
def gT (K:Frag):Tg->TG
 |.nm i=>vd i
 |.tp ts=>E9 K ts.length (Ri K ts)
def Ri (K:Frag):List Tg->PN
 |[]=>En
 |t::ts=>A6 (gT K t) (Ri K ts)
end
theorem kM (h:notStar e=Θ)(es:List Expr)(env:Env):assignEach (e::es) env=(Ξ,assign e env)::assignEach es env:=by
 induction e using zE<;>first|rfl|cases h
section
variable {Z:Sg}{CX:JD}{cl:Nat->List D->Res D}{X:Cx}{G:Gm}
theorem m8 (G:Gm):∀ {ts:List Tg}{es:List Expr} (env:Env),km G ts es=Θ->(assignEach es env).length=ts.length/\(assignEach es env).findIdx? (·.1)=Φ
 |[],[],_,_=>⟨rfl,rfl⟩
 |t::ts,e::es,env,h=>by have h':(notStar e&&i8 G t e&&km G ts es)=Θ:=h;simp only[h_]at h';obtain⟨h1,h2⟩:=m8 G (ts:=ts) (es:=es) env h'.2;rw[kM h'.1.1];refine⟨by rw[List.length_cons,h1,List.length_cons],?_⟩;rw[List.findIdx?_cons,d_ (by simp),h2];rfl
 |[],_::_,_,h=>by cases h
 |_::_,[],_,h=>by cases h
mutual
theorem N6 (g:IV Z CX cl X G):∀(t:Tg) (e:Expr),i8 G t e=Θ->PG X e (gT X.K t)
 |.nm i,e,h=>by
  induction e using zE with
  |Name x pos=>
   have h':(G.N[i]? == Δ x&&(G.kd[i]? == Δ .local||(G.df&&G.kd[i]? == Δ .cell)))=Θ:=(D_.mp h).1;rw[h_,aaf,h_]at h';obtain⟨h1,h2⟩:=h';have hx:G.N[i]? = Δ x:=i_ h1;have hk:=g.kd i x hx;refine yQ (by rw[g.N];exact g.Je) (by rw[g.N];exact hx) ?_ ?_
   ·rcases h2 with h2|h2
    ·exact .inl (hk.trans (i_ h2))
    ·exact .inr (hk.trans (i_ h2.2))
   ·rcases h2 with h2|h2
    ·exact .inr (hk.trans (i_ h2))
    ·exact .inl (g.df h2.1 x)
  |_=>cases h
 |.tp ts,e,h=>by
  induction e using zE with
  |Tuple es k pos=>have h0:(G.cm&&km G ts es)=Θ:=h;rw[h_]at h0;have h':=h0.2;obtain⟨h1,h2⟩:=m8 G X.env h';exact C2 (g.calm h0.1) (Fb g ts es h') h1 h2
  |_=>cases h
theorem Fb (g:IV Z CX cl X G):∀(ts:List Tg) (es:List Expr),km G ts es=Θ->QC X es (Ri X.K ts)
 |[],[],_=>yR
 |t::ts,e::es,h=>by have h':(notStar e&&i8 G t e&&km G ts es)=Θ:=h;simp only[h_]at h';exact vf (N6 g t e h'.1.2) (Fb g ts es h'.2) (by rw[kM h'.1.1];rfl)
 |[],_::_,h=>by cases h
 |_::_,[],h=>by cases h
end
end
mutual
theorem kN {G:Gm}:∀(t:Tg) (e:Expr),i8 G t e=Θ->∀j∈J5 t,G.io≠Δ j
 |.nm i,e,h,j,hj=>by
  induction e using zE with
  |Name x pos=>
   have h':=(D_.mp (show((G.N[i]? == Δ x&&(G.kd[i]? == Δ .local||(G.df&&G.kd[i]? == Δ .cell)))&&G.io != Δ i)=Θ from h)).2;have e:j=i:=by simpa[J5] using hj
   subst e;simpa using h'
  |_=>cases h
 |.tp ts,e,h,j,hj=>by
  induction e using zE with
  |Tuple es k pos=>have h0:(G.cm&&km G ts es)=Θ:=h;exact qu ts es (D_.mp h0).2 j hj
  |_=>cases h
theorem qu {G:Gm}:∀(ts:List Tg) (es:List Expr),km G ts es=Θ->∀j∈qp ts,G.io≠Δ j
 |[],_,_,j,hj=>by cases hj
 |t::ts,[],h,_,_=>by cases h
 |t::ts,e::es,h,j,hj=>by
  have h':(notStar e&&i8 G t e&&km G ts es)=Θ:=h;simp only[h_]at h';rcases s_.mp (show j∈J5 t++qp ts from hj) with hj|hj
  ·exact kN t e h'.1.2 j hj
  ·exact qu ts es h'.2 j hj
end
def P' (K:Frag)(S:Ω->Prop)(H:Hp)(σ:St)(τ:Ev):Prop:=τ.length=σ.length/\∀i d,gV τ i=Δ d->∃v,σ[i]? = Δ (Δ v)/\Hx K S H v d
theorem lK:gV (τ.set i o) j=if i=j/\i < τ.length then o else gV τ j:=by
 unfold gV;rw[List.getElem?_set];by_cases h:i=j
 ·subst h;by_cases h2:i < τ.length
  ·simp[h2]
  ·rw[f_ rfl,d_ h2,d_ (by omega)];rw[List.getElem?_eq_none (by omega)]
 ·rw[d_ h,d_ (by omega)]
section
variable {K:Frag}{S:Ω->Prop}{H:Hp}
mutual
theorem sW:∀(t:Tg) {σ:St}{τ:Ev}{v:V}{d:D}{Kt:Ev->Prop}{Q:St->Hp->Prop},P' K S H σ τ->Hx K S H v d->Hw (jt t d τ) Kt->
  (∀τ' Iw,P' K S H Iw τ'->Iw.length=σ.length->(∀j,j∉J5 t->Iw[j]? = σ[j]?)->Kt τ'->Q Iw H)->gT K t v σ H Q
 |.nm i,σ,τ,v,d,Kt,Q,hs,m,h,k=>by
  refine k (τ.set i (Δ d)) (σ.set i (Δ v)) ⟨by rw[List.length_set,List.length_set,hs.1],fun j e z=>?_⟩ (by rw[List.length_set]) (fun j hj=>?_) h.ok
  ·rw[lK]at z;by_cases q:i=j/\i < τ.length
   ·rw[f_ q]at z;obtain⟨rfl,q⟩:=q;cases z;exact⟨v,by rw[List.getElem?_set_self (by rw[<- hs.1];exact q)],m⟩
   ·rw[d_ q]at z;obtain⟨w,h1,h2⟩:=hs.2 j e z;refine⟨w,?_,h2⟩;by_cases q2:i=j
    ·subst q2;exfalso;have:i < σ.length:=by have:=(p_.mp h1).1;exact this
     exact q ⟨rfl,by rw[hs.1];exact this⟩
    ·rw[aas q2];exact h1
  ·have:i≠j:=fun z=>hj (by subst z;simp[J5]);rw[aas this]
 |.tp ts,σ,τ,v,d,Kt,Q,hs,m,h,k=>by
  induction d using zD with
  |tup ds=>obtain⟨a,xs,rfl,q,ms⟩:=m.Jy;obtain⟨g,h⟩:=Hw.HB h;have g':ds.length=ts.length:=q_ g;exact⟨a,xs,rfl,.inl q,by rw[ms.length,g'],m9 ts hs ms h k⟩
  |lst o ds=>obtain⟨a,xs,rfl,q,ms⟩:=m.IZ;obtain⟨g,h⟩:=Hw.HB h;have g':ds.length=ts.length:=q_ g;exact⟨a,xs,rfl,.inr q,by rw[ms.length,g'],m9 ts hs ms h k⟩
  |_=>exact h.no.elim
theorem m9:∀(ts:List Tg) {σ:St}{τ:Ev}{vs:List V}{ds:List D}{Kt:Ev->Prop}{Q:St->Hp->Prop},P' K S H σ τ->Hq K S H vs ds->Hw (kH ts ds τ) Kt->
  (∀τ' Iw,P' K S H Iw τ'->Iw.length=σ.length->(∀j,j∉qp ts->Iw[j]? = σ[j]?)->Kt τ'->Q Iw H)->Ri K ts vs σ H Q
 |[],σ,τ,vs,ds,Kt,Q,hs,m,h,k=>by
  cases m with
  |nil=>exact⟨rfl,k τ σ hs rfl (fun _ _=>rfl) h.ok⟩
  |cons _ _=>exact h.no.elim
 |t::ts,σ,τ,vs,ds,Kt,Q,hs,m,h,k=>by
  cases m with
  |nil=>exact h.no.elim
  |cons m1 m2=>
   refine⟨_,_,rfl,sW t hs m1 (Hw.Hn h) fun τ' Iw Qa hn hk h'=>?_⟩;refine m9 ts Qa m2 h' fun OZ O0 Vy J8 Nr QY=>k OZ O0 Vy (J8.trans hn) (fun j hj=>?_) QY;have TF:j∉J5 t/\j∉qp ts:=by constructor<;>(intro z;apply hj;simp[qp,z])
   rw[Nr j TF.2,hk j TF.1]
end
end
section
variable {K:Frag}{S S':Ω->Prop}{H H':Hp}{J:It}{ds:List D}
theorem WS.step (hl:∀a (u:LD),S a->Rd H a u.o->S' a/\Rd H' a u.o)(ht:∀a xs,IP K H a xs->IP K H' a xs)  (h:WS K S H k a xs):WS K S' H' k a xs:=by
 cases k with
 |l=>exact h.elim (fun z=>.inl (hl _ (.l _) z.1 z.2)) fun z=>.inr z
 |t=>exact ht _ _ h
theorem qv (ds:List D):(l7 ds).length=ds.length:=by unfold l7;rw[List.length_zipWith,aae,Nat.min_self]
theorem qw (ds es:List D):(ju ds es).length=min ds.length es.length:=by unfold ju;rw[List.length_zipWith]
theorem J7.step (hl:∀a (u:LD),S a->Rd H a u.o->S' a/\Rd H' a u.o)(ht:∀a xs,IP K H a xs->IP K H' a xs)(h:J7 K S H J ds):J7 K S' H' J ds:=by
 cases h with
 |lst h0 h1 h2=>exact .lst (hl _ (.l _) h0 h1).1 (hl _ (.l _) h0 h1).2 (h2.step hl ht)
 |lstK h1 h2=>exact .lstK h1 (h2.step hl ht)
 |tup h1 h2=>exact .tup (ht _ _ h1) (h2.step hl ht)
 |Mg lo hi=>exact .Mg lo hi
 |str x=>exact .str x
 |zip h1 h2 h3 h4=>exact .zip (h1.step hl ht) (h2.step hl ht) (h3.step hl ht) (h4.step hl ht)
 |KP h1 h2=>exact .KP (h1.step hl ht) (h2.step hl ht)
theorem J7.mono (h:J7 K S H J ds)(hS:∀a,S a->S' a)(e:g7 H H'):J7 K S' H' J ds:=h.step (fun a xs s r=>⟨hS a s,e.rd r⟩) fun a xs s=>e.Km s
theorem nc (x:Str):(jq x).length=x.cps.size:=by unfold jq;simp
theorem jm (a b:Int):(ij a b).length=(b - a).toNat:=by unfold ij;simp
theorem J7.stop (h:J7 K S H J ds)  (hi:ds.length=i):J.stop i H:=by
 cases h with
 |lst h0 h1 h2=>exact⟨_,.inl h1,by rw[h2.length];omega⟩
 |lstK h1 h2=>exact⟨_,h1.sq,by rw[h2.length];omega⟩
 |tup h1 h2=>exact⟨_,h1,by rw[h2.length];omega⟩
 |Mg lo K6=>rw[jm]at hi;exact Nat.le_of_eq hi
 |str x=>rw[nc]at hi;exact Nat.le_of_eq hi
 |zip h1 h2 h3 h4=>exact⟨_,_,h1.sq,h2.sq,by rw[qw]at hi;rw[h3.length,h4.length];omega⟩
 |KP h1 h2=>exact⟨_,h1.sq,by rw[qv]at hi;rw[h2.length];omega⟩
theorem J7.go (h:J7 K S H J ds)  (hi:i < ds.length):J.go i H:=by
 cases h with
 |lst h0 h1 h2=>obtain⟨v,hv,_⟩:=h2.get (i:=i) (d:=ds[i]) (by simp[hi]);exact⟨_,v,.inl h1,hv⟩
 |lstK h1 h2=>obtain⟨v,hv,_⟩:=h2.get (i:=i) (d:=ds[i]) (by simp[hi]);exact⟨_,v,h1.sq,hv⟩
 |tup h1 h2=>obtain⟨v,hv,_⟩:=h2.get (i:=i) (d:=ds[i]) (by simp[hi]);exact⟨_,v,h1,hv⟩
 |Mg lo K6=>rw[jm]at hi;exact hi
 |str x=>rw[nc]at hi;exact hi
 |zip h1 h2 h3 h4=>
  rename_i ds' es'
  rw[qw]at hi;obtain⟨v,hv,_⟩:=h3.get (i:=i) (d:=ds'[i]) (by rw[x_]);obtain⟨u,hu,_⟩:=h4.get (i:=i) (d:=es'[i]) (by rw[x_]);exact⟨_,_,v,u,h1.sq,h2.sq,hv,hu⟩
 |KP h1 h2=>
  rename_i ds'
  rw[qv]at hi;obtain⟨v,hv,_⟩:=h2.get (i:=i) (d:=ds'[i]) (by rw[x_]);exact⟨_,v,h1.sq,hv⟩
theorem J7.MR (h:J7 K S H J ds)  (y:J.MR i H x H2)  (hd:ds[i]? = Δ d):g7 H H2/\Hx K S H2 x d:=by
 have fin:∀ {xs:List V},Hq K S H xs ds->xs[i]? = Δ x->Hx K S H x d:=fun m e=>by obtain⟨d',e',m'⟩:=m.L8 e;rw[hd]at e';cases e';exact m'
 cases h with
 |lst h0 h1 h2=>obtain⟨e,y⟩:=y;subst e;exact⟨.refl _,fin h2 (y _ (.inl h1))⟩
 |lstK h1 h2=>obtain⟨e,y⟩:=y;subst e;exact⟨.refl _,fin h2 (y _ h1.sq)⟩
 |tup h1 h2=>obtain⟨e,y⟩:=y;subst e;exact⟨.refl _,fin h2 (y _ h1)⟩
 |zip h1 h2 h3 h4=>obtain⟨T,a,b,e1,hT,e2,hy⟩:=y;subst e1 e2;obtain⟨y1,y2⟩:=hy _ _ h1.sq h2.sq;obtain⟨d1,g1,m1⟩:=h3.L8 y1;obtain⟨d2,g2,m2⟩:=h4.L8 y2;unfold ju at hd;rw[List.getElem?_zipWith,g1,g2]at hd;cases hd;have e:g7 H (upd H T (.tup [a,b])):=.upd hT;exact⟨e,.tup (IP.of gZ) (.cons (m1.mono (fun _ z=>z) e) (.cons (m2.mono (fun _ z=>z) e) .nil))⟩
 |KP h1 h2=>obtain⟨T,a,e1,hT,e2,hy⟩:=y;subst e1 e2;have y1:=hy _ h1.sq;obtain⟨d1,g1,m1⟩:=h2.L8 y1;unfold l7 at hd;have IQ:=(p_.mp g1).1;rw[List.getElem?_zipWith,g1,List.getElem?_range IQ]at hd;cases hd;have e:g7 H (upd H T (.tup [.int i,a])):=.upd hT;exact⟨e,.tup (IP.of gZ) (.cons (.int _) (.cons (m1.mono (fun _ z=>z) e) .nil))⟩
 |Mg lo K6=>
  obtain⟨e1,e2⟩:=y;subst e1;refine⟨.refl _,?_⟩;subst e2;unfold ij at hd;rw[A_]at hd;have hi:i < (K6 - lo).toNat:=by
   have:=(aag.mp hd)
   obtain⟨z,h1,_⟩:=this;have:=(p_.mp h1).1;simpa using this
  rw[List.getElem?_range hi]at hd;cases hd;exact .int _
 |str x=>
  obtain⟨e1,c,h1,e2⟩:=y;subst e1;refine⟨.refl _,?_⟩;subst e2;unfold jq at hd;rw[A_]at hd;have h2:x.cps.toList[i]? = Δ c:=by simpa using h1
  rw[h2]at hd;cases hd;exact .str _
end
section
variable {Z:Sg}{CX:JD}{cl:Nat->List D->Res D}{X:Cx}{G:Gm}{K:Frag}{S:Ω->Prop}{H H1:Hp}{σ:St}{τ:Ev}
theorem C3 (e:g7 H H1)(hs:Slots K S H σ τ is)(h:Hw (f τ) Kt)(k:∀ds J H2,g7 H H2->g7 H1 H2->J7 K (nw S H) H2 J ds->Kt ds->R J H2):RI K is f σ H1 R:=
 ⟨nw S H,τ,hs.go e,h.mono fun x hx J H2 e2 m=>k x J H2 (e.trans e2) e2 (m.mono (oh e) (.refl _)) hx⟩
theorem sX (I:Inv X pins σ H s)(hq:Jo X.K H a xs)(q:R (Tc X.K a) H):Κ (Μ X.prog X.w) X.A (pyIter (.ref a)) (PQ X pins σ tg R) X.xe s:=by
 obtain⟨its,rv,p,hz⟩:=I.list hq;refine aaz p.isList ?_;refine⟨s.heap.objs.size,[s.heap.objs.size],_,_,H,rfl,I.kept (t':=s.toks) fun b o e=>l_ _ e,um a _,⟨_,z_ _ rfl,rfl,rfl⟩,fun b hb=>?_,q⟩;have e:b=s.heap.objs.size:=by simpa using hb
 subst e;exact I.Ll (n_ _) (I.IF.fresh (n_ _))
theorem wY (I:Inv X pins σ H s)(hq:IP X.K H a xs)(q:R (UA X.K a) H):Κ (Μ X.prog X.w) X.A (pyIter (.ref a)) (PQ X pins σ tg R) X.xe s:=by
 obtain⟨its,rv,p,hz⟩:=I.tuple hq;refine wpAny_pyIter_tuple (show s.heap.IsTuple a its.toArray from p) ?_;refine⟨s.heap.objs.size,[s.heap.objs.size],_,_,H,rfl,I.kept (t':=s.toks) fun b o e=>l_ _ e,qQ a _,⟨_,z_ _ rfl,rfl,rfl⟩,fun b hb=>?_,q⟩;have e:b=s.heap.objs.size:=by simpa using hb
 subst e;exact I.Ll (n_ _) (I.IF.fresh (n_ _))
theorem Fd (ha:PE X e (RD X.K va fa)):PI X tg e (RI X.K va fun τ=>Hn (fa τ) lj):=by
 intro pins s σ H R I h;obtain⟨S,τ,hs,q⟩:=h;refine IG (ha pins s σ H (fun v H'=>∃d,g7 H H'/\Hx X.K (nw S H) H' v d/\_) I (iq (.refl _) hs (Hw.Hn q) fun x v H1 e1 _ m1 q1=>⟨x,e1,m1,q1⟩)) fun v s1 ⟨x,H1,I1,r1,d,e1,m1,q1⟩=>?_
 induction d using zD with
 |lst o ds=>
  cases m1 with
  |lst h0 h1 h2=>cases r1;exact sX I1 (.inl h1) (q1.ok _ _ e1 (.lst h0 h1 h2))
  |lstK h1 h2=>cases r1;exact sX I1 h1.sq (q1.ok _ _ e1 (.lstK h1 h2))
 |tup ds=>obtain⟨a,xs,rfl,h1,h2⟩:=m1.Jy;cases r1;exact wY I1 h1 (q1.ok _ _ e1 (.tup h1 h2))
 |str z=>cases m1.Jh;obtain⟨t,rfl⟩:=r1;obtain⟨_,q1⟩:=Hw.HB q1;exact CJ I1 (q1.ok _ _ e1 (.str z))
 |_=>exact q1.no.elim
theorem C4 (g:IV Z CX cl X G)  (hg:G.gl.contains 15=Θ)(hn:notStar e=Θ)(ha:PE X e (RD X.K va fa)) :
  PI X tg (.Call (.Name "range" p) [e] [] pos) (RI X.K va fun τ=>Hn (fa τ) fun|.int i=>HB (l5 i) (.ok (ij 0 i))|_=>Ir):=by
 obtain⟨k1,k2,_,_⟩:=i9 g (show iA[15]? = Δ ("range" : Str) from rfl) hg;refine oO (nQ k1 k2 (ip ha iK (fD hn _ _)) (fD hn _ _)) fun σ H Q ⟨S,τ,hs,q⟩=>?_;refine iq (.refl _) hs (Hw.Hn q) fun x v H1 e1 _ m1 q1=>?_
 induction x using zD with
 |int i=>cases m1.ID;obtain⟨gd,q1⟩:=Hw.HB q1;have ME : -(2 ^ 62)<=i/\i < 2 ^ 62:=q_ gd;refine⟨i,rfl,ME.1,ME.2,?_⟩;have:=q1.ok _ _ e1 (.Mg 0 i);rw[Int.sub_zero]at this;exact this
 |_=>exact q1.no.elim
theorem Fe {a:Ω}{v:V}{d:D}{ds:List D}(m:Hx K S H v d)(h:nK d=.ok ds):∃k a xs,v=.ref a/\WS K S H k a xs/\Hq K S H xs ds:=by
 induction d using zD with
 |lst o es=>
  cases h;cases m with
  |lst h0 h1 h2=>exact⟨.l,_,_,rfl,.inl ⟨h0,h1⟩,h2⟩
  |lstK h1 h2=>exact⟨.l,_,_,rfl,.inr h1,h2⟩
 |tup es=>cases h;obtain⟨a,xs,rfl,h1,h2⟩:=m.Jy;exact⟨.t,a,xs,rfl,h1,h2⟩
 |_=>cases h
theorem Ff (g:IV Z CX cl X G)  (hg:G.gl.contains 17=Θ)(hn:notStar e=Θ)(J8:notStar e'=Θ)(ha:PE X e (RD X.K va fa))(hb:PE X e' (RD X.K vb fb)) :
  PI X (.Tuple es c tp) (.Call (.Name "zip" p) [e,e'] [] pos) (RI X.K (va++vb) fun τ=>Hn (fa τ) fun x=>Hn (fb τ) fun y=>mS x y):=by
 obtain⟨k1,k2,_,_⟩:=i9 g (show iA[17]? = Δ ("zip" : Str) from rfl) hg;refine oO (Cs k1 k2 (ip ha (ip hb iK (fD J8 _ _)) (fD hn _ _)) (by rw[fD hn,fD J8];rfl) (fD J8 _ _)) fun σ H Q ⟨S,τ,hs,q⟩=>?_;refine iq (.refl _) hs.left (Hw.Hn q) fun x v H1 e1 _ m1 q1=>?_;refine iq e1 hs.right (Hw.Hn q1) fun y w H2 e2 Js m2 q2=>?_;have q3:=Hw.Hn (show Hw (Hn (nK x) fun ds=>Hn (nK y) fun es=>.ok (ju ds es)) _ from q2);have m1':=m1.mono (fun _ z=>z) Js;cases hx:nK x with
 |error z=>
  rw[hx]at q3
  induction x using zD<;>first|(cases hx;exact q3.no.elim)|cases hx
 |ok ds=>
  rw[hx]at q3;have q4:=Hw.Hn q3.ok;cases hy:nK y with
  |error z=>
   rw[hy]at q4
   induction y using zD<;>first|(cases hy;exact q4.no.elim)|cases hy
  |ok es'=>rw[hy]at q4;obtain⟨k1,a1,xs,rfl,w1,r1⟩:=Fe (a:=0) m1' hx;obtain⟨k2,a2,ys,rfl,w2,r2⟩:=Fe (a:=0) m2 hy;exact⟨k1,k2,a1,a2,xs,ys,rfl,w1.sq,w2.sq,q4.ok.ok _ _ e2 (.zip w1 w2 r1 r2)⟩
theorem Fg (g:IV Z CX cl X G)  (hg:G.gl.contains 20=Θ)(hn:notStar e=Θ)(ha:PE X e (RD X.K va fa)) :
  PI X (.Tuple es c tp) (.Call (.Name "enumerate" p) [e] [] pos) (RI X.K va fun τ=>Hn (fa τ) zC):=by
 obtain⟨k1,k2,_,_⟩:=i9 g (show iA[20]? = Δ ("enumerate" : Str) from rfl) hg;refine oO (zu k1 k2 (ip ha iK (fD hn _ _)) (fD hn _ _)) fun σ H Q ⟨S,τ,hs,q⟩=>?_;refine iq (.refl _) hs (Hw.Hn q) fun x v H1 e1 _ m1 q1=>?_
 induction x using zD with
 |lst o ds=>
  cases m1 with
  |lst h0 h1 h2=>exact⟨_,_,rfl,.inl h1,(show Hw (.ok (l7 ds)) _ from q1).ok _ _ e1 (.KP (.inl ⟨h0,h1⟩) h2)⟩
  |lstK h1 h2=>exact⟨_,_,rfl,h1.sq,(show Hw (.ok (l7 ds)) _ from q1).ok _ _ e1 (.KP (.inr h1) h2)⟩
 |_=>exact q1.no.elim
theorem jK {env:Env}{x:Str}:∀(names:List (Str×NameKind)),
  (names.map fun(n,k)=>if(k == Υ&&env.scope.kind == .function&&env.kindOf n == Δ .cell) then(n,NameKind.cell) else(n,k)).lookup x =
   (names.lookup x).map fun k=>if(k == Υ&&env.scope.kind == .function&&env.kindOf x == Δ .cell) then NameKind.cell else k
 |[]=>rfl
 | (n,k)::r=>by
  have ih:=jK (env:=env) (x:=x) r;rw[b_];show List.lookup x ((if(k == Υ&&env.scope.kind == .function&&env.kindOf n == Δ .cell)=Θ then(n,NameKind.cell) else(n,k))::_)=_;by_cases hc:(k == Υ&&env.scope.kind == .function&&env.kindOf n == Δ .cell)=Θ
  ·rw[f_ hc,aaE,aaE];cases hx:x == n with
   |true=>have e:x=n:=i_ hx;subst e;show Δ NameKind.cell=Δ (if _ then _ else _);rw[f_ hc]
   |false=>exact ih
  ·rw[d_ hc,aaE,aaE];cases hx:x == n with
   |true=>have e:x=n:=i_ hx;subst e;show Δ k=Δ (if _ then _ else _);rw[d_ hc]
   |false=>exact ih
theorem rG (h:∀y∈scope.names,y.2=.free->∃c,env.cells.lookup y.1=Δ c) :
  ∃Ju,closureFor scope env=pure Ju/\(∀x c,Ju.lookup x=Δ c->env.cells.lookup x=Δ c)/\∀y∈scope.names,y.2=.free->∃c,Ju.lookup y.1=Δ c:=by
 have key:∀(names:List (Str×NameKind)) (acc:List (Str×Ω)),(∀y∈names,y.2=.free->∃c,env.cells.lookup y.1=Δ c)->(∀x c,acc.lookup x=Δ c->env.cells.lookup x=Δ c)->
   ∃Ju,(forIn names acc fun(p:Str×NameKind) (r:List (Str×Ω))=>(if(p.2 == Υ)=Θ then do let a <- cellOf env p.1;pure (ForInStep.yield ((p.1,a)::r)) else pure (ForInStep.yield r):Sem (ForInStep (List (Str×Ω)))))=pure Ju/\(∀x c,Ju.lookup x=Δ c->env.cells.lookup x=Δ c)/\
    (∀y∈names,y.2=.free->∃c,Ju.lookup y.1=Δ c)/\∀x c,acc.lookup x=Δ c->∃c',Ju.lookup x=Δ c':=by
  intro names
  induction names with
  |nil=>intro acc _ h2;exact⟨acc,rfl,h2,fun y hy=>absurd hy (by simp),fun x c e=>⟨c,e⟩⟩
  |cons p names ih=>
   intro acc h1 h2;rw[List.forIn_cons];by_cases hp:p.2=.free
   ·obtain⟨c,hc⟩:=h1 p (by simp) hp;have hb:(p.2 == Υ)=Θ:=by rw[hp];rfl
    have Vz:∀x c',((p.1,c)::acc).lookup x=Δ c'->env.cells.lookup x=Δ c':=by
     intro x c' e;rw[aaE]at e;cases hx:x == p.1 with
     |true=>rw[hx]at e;cases e;rw[i_ hx];exact hc
     |false=>rw[hx]at e;exact h2 x c' e
    obtain⟨Ju,e1,e2,e3,e4⟩:=ih ((p.1,c)::acc) (fun y hy=>h1 y (K_ _ hy)) Vz;refine⟨Ju,?_,e2,fun y hy hf=>?_,fun x c' e=>?_⟩
    ·rw[f_ hb];have:cellOf env p.1=pure c:=by unfold cellOf;rw[hc]
     rw[this];exact e1
    ·rcases k_.mp hy with rfl|hy
     ·exact e4 y.1 c (by rw[aaE];simp)
     ·exact e3 y hy hf
    ·rcases hx:x == p.1 with _|_
     ·exact e4 x c' (by rw[aaE,hx];exact e)
     ·exact e4 x c (by rw[aaE,hx])
   ·have hb:¬(p.2 == Υ)=Θ:=fun z=>hp (i_ z);obtain⟨Ju,e1,e2,e3,e4⟩:=ih acc (fun y hy=>h1 y (K_ _ hy)) h2;refine⟨Ju,?_,e2,fun y hy hf=>?_,e4⟩
    ·rw[d_ hb];exact e1
    ·rcases k_.mp hy with rfl|hy
     ·exact absurd hf hp
     ·exact e3 y hy hf
 obtain⟨Ju,e1,e2,e3,_⟩:=key scope.names [] h (fun x c e=>by cases e);refine⟨Ju,?_,e2,e3⟩;unfold closureFor;exact congrArg (fun(m:Sem (List (Str×Ω)))=>m >>= fun r=>pure r) e1
structure Lw (Z:Sg)(G:Gm)(scope:Scope)(G':Gm)(fr:List Nat):Prop where
 cm:G.cm=Θ
 kind:scope.kind=.function
 tr:G'.tr=Ξ
 df:G'.df=Ξ
 kdl:G'.kd.length=G'.N.length
 KJ:∀y∈scope.names,y.2≠.cell
 loc:∀y∈scope.names,y.2=.local->scope.names.lookup y.1=Δ .local
 fre:∀y∈scope.names,y.2=.free->∃i:Nat,G.N[i]? = Δ y.1/\(G.kd[i]? = Δ .cell∨G.kd[i]? = Δ .free)
 Kg:∀(j:Nat) (i:Nat),fr[j]? = Δ i->∃x,G.N[i]? = Δ x/\G'.N[j]? = Δ x/\scope.names.lookup x=Δ .free/\(G.kd[i]? = Δ .cell∨G.kd[i]? = Δ .free)/\G'.kd[j]? = Δ (if(G.kd[i]? == Δ .cell)=Θ then .cell else .free)
 TH:fr.length<=G'.N.length
 J5:∀(j:Nat) (x:Str),fr.length<=j->G'.N[j]? = Δ x->scope.names.lookup x=Δ .local/\G'.kd[j]? = Δ .local
 MD:∀x∈G'.N,(x == ("__debug__" : Str))=Ξ/\(x == ("__classdict__" : Str))=Ξ
 Je:G'.N.Nodup
 gl:∀n∈G'.gl,∃x,Z.name n=Δ x/\scope.names.lookup x=Δ .globalImplicit
theorem mj (h:iW Z G scope G' fr=Θ):Lw Z G scope G' fr:=by
 unfold iW at h;simp only[h_]at h;obtain⟨⟨⟨⟨⟨⟨⟨⟨⟨⟨⟨⟨⟨h0,h1⟩,O6⟩,h2⟩,h3⟩,h4⟩,h5⟩,h6⟩,h7⟩,h8⟩,h9⟩,LK⟩,NX⟩,OG⟩:=h;rw[W_]at h4 h5 h6 h7 h9 LK OG;refine⟨h0,i_ h1,by simpa using O6,by simpa using h2,i_ h3,fun y hy=>by simpa using h4 y hy,fun y hy e=>?_,fun y hy e=>?_,fun j i e=>?_,q_ h8,fun j x hj e=>?_,fun x hx=>by simpa using LK x hx,q_ NX,fun n hn=>?_⟩
 ·have:=h5 y hy;rw[e]at this;simpa using this
 ·have:=h6 y hy;rw[e]at this;simp only[bne_self_eq_false,Bool.false_or,List.any_eq_true,h_,aaf]at this;obtain⟨i,_,hi,hk⟩:=this;exact⟨i,i_ hi,hk.elim (fun z=>.inl (i_ z)) fun z=>.inr (i_ z)⟩
 ·have hj:j < fr.length:=(p_.mp e).1;have:=h7 j (Y_.mpr hj);simp only[e,Option.bind_some,h_,aaf]at this;obtain⟨⟨⟨a1,a2⟩,a3⟩,a4⟩:=this;have Yy:=i_ a1;have TJ:=i_ a2;cases q:G'.N[j]? with
  |none=>rw[q]at TJ;cases TJ
  |some x=>rw[q]at TJ Yy;exact⟨x,Yy.symm,rfl,TJ,a3.elim (fun z=>.inl (i_ z)) fun z=>.inr (i_ z),i_ a4⟩
 ·have IQ:j < G'.N.length:=(p_.mp e).1;have hm:j∈(List.range G'.N.length).drop fr.length:=by rw[List.mem_drop_iff_getElem];exact⟨j - fr.length,by simp;omega,by simp;omega⟩
  have:=h9 j hm;rw[e]at this;simp only[Option.bind_some,h_]at this;exact⟨i_ this.1,i_ this.2⟩
 ·have:=OG n hn;cases q:Z.name n with
  |none=>rw[q]at this;cases this
  |some x=>rw[q]at this;exact⟨x,rfl,i_ this⟩
noncomputable def Mb (G:Gm)(fr:List Nat):List (Str×Nat):=fr.map fun i=>(G.N.getD i "",i)
theorem Fh (s:Lw Z G scope G' fr):(Mb G fr).map (·.1)++G'.N.drop fr.length=G'.N:=by
 have e:(Mb G fr).map (·.1)=G'.N.take fr.length:=by
  apply List.ext_getElem?;intro j;unfold Mb;rw[y_,A_,List.getElem?_take];cases q:fr[j]? with
  |none=>
   have:¬j < fr.length:=by intro z;rw[x_ z]at q;cases q
   rw[d_ this];rfl
  |some i=>have:j < fr.length:=(p_.mp q).1;rw[f_ this];obtain⟨x,h1,h2,_⟩:=s.Kg j i q;rw[h2];show Δ (G.N.getD i "")=Δ x;rw[aaa,h1];rfl
 rw[e,List.take_append_drop]
theorem kc (g:IV Z CX cl X G)(ok:X.Ok)  (s:Lw Z G scope G' fr):∃Ju,JR X scope Ju (Mb G fr) (G'.N.drop fr.length):=by
 have LH:∀y∈scope.names,y.2=.free->∃c,X.env.cells.lookup y.1=Δ c:=fun y hy hf=>by obtain⟨i,h1,h2⟩:=s.fre y hy hf;have hk:=g.kd i y.1 h1;exact ok.has y.1 (h2.elim (fun z=>.inl (hk.trans z)) fun z=>.inr (hk.trans z))
 obtain⟨Ju,e1,e2,e3⟩:=rG LH;refine⟨Ju,e1,s.kind,s.KJ,s.loc,e2,fun x hx=>?_,fun p hp=>?_⟩
 ·have hl:=jK (env:=X.env) (x:=x) scope.names;have J3:((scope.names.lookup x).map fun k=>if(k == Υ&&X.env.scope.kind == .function&&X.env.kindOf x == Δ .cell)=Θ then NameKind.cell else k)=Δ .cell∨
    ((scope.names.lookup x).map fun k=>if(k == Υ&&X.env.scope.kind == .function&&X.env.kindOf x == Δ .cell)=Θ then NameKind.cell else k)=Δ .free:=by
   rcases hx with hx|hx
   ·exact .inl (hl.symm.trans hx)
   ·exact .inr (hl.symm.trans hx)
  cases q:scope.names.lookup x with
  |none=>rw[q]at J3;rcases J3 with z|z<;>cases z
  |some k=>
   have hm:(x,k)∈scope.names:=PySem.mem_of_lookup q;have hk:k=.free:=by
    rw[q]at J3;rcases J3 with z|z
    ·have z':(if(k == Υ&&X.env.scope.kind == .function&&X.env.kindOf x == Δ .cell)=Θ then NameKind.cell else k)=.cell:=I_ z;split at z'
     ·rename_i hc
      simp only[h_]at hc;exact i_ hc.1.1
     ·exact absurd z' (s.KJ _ hm)
    ·have z':(if(k == Υ&&X.env.scope.kind == .function&&X.env.kindOf x == Δ .cell)=Θ then NameKind.cell else k)=.free:=I_ z;split at z'
     ·cases z'
     ·exact z'
   exact e3 (x,k) hm hk
 ·unfold Mb at hp;rw[List.mem_map]at hp;obtain⟨i,hi,rfl⟩:=hp;obtain⟨j,hj⟩:=List.getElem?_of_mem hi;obtain⟨x,h1,h2,h3,h4,h5⟩:=s.Kg j i hj;have hn:G.N.getD i "" = x:=by rw[aaa,h1];rfl
  show X.N[i]? = Δ (G.N.getD i "")/\_;rw[hn];have hk:=g.kd i x h1;refine⟨by rw[g.N];exact h1,h4.elim (fun z=>.inl (hk.trans z)) fun z=>.inr (hk.trans z),?_⟩;have hl:=jK (env:=X.env) (x:=x) scope.names;rw[h3]at hl;have QS:(relabel scope X.env).names.lookup x=Δ (if(Υ == Υ&&X.env.scope.kind == .function&&X.env.kindOf x == Δ .cell)=Θ then NameKind.cell else Υ):=hl;rw[QS];split
  ·exact .inl rfl
  ·exact .inr rfl
theorem iU (g:IV Z CX cl X G){scope:Scope}{G':Gm}{fr:List Nat}(s:Lw Z G scope G' fr)(Ju:List (Str×Ω))(C:Ω)(s3:Α)(H3:Hp)(fp:List Ω) :
  IV Z CX cl (LJ X scope Ju ((Mb G fr).map (·.1)++G'.N.drop fr.length) C s3 H3 fp) G' where
 N:=Fh s
 Je:=s.Je
 calm:=fun _=>g.calm s.cm
 fk:=s.kind
 un:=g.un
 own:=fun _=>PassesOwn.never
 kd:=fun j x hx=>by
  show(relabel scope X.env).names.lookup x=_;have hl:=jK (env:=X.env) (x:=x) scope.names;by_cases hj:j < fr.length
  ·obtain⟨y,h1,h2,h3,h4,h5⟩:=s.Kg j fr[j] (by simp[hj]);rw[hx]at h2;cases h2;rw[h3]at hl;rw[h5];refine hl.trans ?_;have hk:=g.kd fr[j] x h1;show Δ (if(Υ == Υ&&X.env.scope.kind == .function&&X.env.kindOf x == Δ .cell)=Θ then NameKind.cell else Υ)=_;rw[hk,g.fk];rfl
  ·obtain⟨h1,h2⟩:=s.J5 j x (by omega) hx;rw[h1]at hl;rw[h2];exact hl
 MD:=fun j x hx=>s.MD x (J_ hx)
 gl:=fun n hn x e=>by obtain⟨y,h1,h2⟩:=s.gl n hn;rw[e]at h1;cases h1;show(relabel scope X.env).names.lookup x=_;have hl:=jK (env:=X.env) (x:=x) scope.names;rw[h2]at hl;exact hl
 NC:=g.NC
 df:=fun z=>by rw[s.df]at z;cases z
 blt:=g.blt
 cst:=g.cst
 fns:=fun f hf _ x hx=>g.fns f hf (.inl s.cm) x hx
 P7:=⟨fun _ _ _=>False,fun pins σ H s e s' _ h=>(g.P8 _ _ _ _ _ h).elim⟩
 Mi:=g.Mi
 P8:=g.P8
end
section
variable {K:Frag}{S:Ω->Prop}{H:Hp}{σ:St}{τ:Ev}{cl:Nat->List D->Res D}{G G':Gm}{fr:List Nat}
noncomputable def Lx (G':Gm)(fr:List Nat)(τ:Ev):Ev:=fr.map (gV τ)++Τ (G'.N.length - fr.length) Φ
theorem zY (hl:fr.length<=G'.N.length):(Lx G' fr τ).length=G'.N.length:=by unfold Lx;rw[w_,g_,List.length_replicate];omega
theorem zZ (Tg:List Str)(σ:St):(stC (Mb G fr) Tg σ).length=fr.length+Tg.length:=by unfold stC Mb;rw[w_,g_,g_,List.length_replicate]
theorem wZ (h:gV (Lx G' fr τ) j=Δ d):∃i,fr[j]? = Δ i/\gV τ i=Δ d:=by
 unfold gV Lx at h;by_cases hj:j < fr.length
 ·rw[aat (by simpa using hj),A_,x_ hj]at h;exact⟨fr[j],by simp[hj],h⟩
 ·rw[aaH (by simpa using hj),List.getElem?_replicate]at h;split at h<;>cases h
theorem Aa (hl:fr.length<=G'.N.length)(hs:Slots K S H σ τ (fr++vs))(hn:Iw.length=G'.N.length)(Jp:∀j,j < fr.length->Iw[j]? = (stC (Mb G fr) (G'.N.drop fr.length) σ)[j]?):P' K S H Iw (Lx G' fr τ):=by refine⟨by rw[zY hl,hn],fun j d h=>?_⟩;obtain⟨i,hi,hd⟩:=wZ h;have hj:j < fr.length:=(p_.mp hi).1;obtain⟨v,h1,h2⟩:=hs i (t_ _ (J_ hi)) d hd;refine⟨v,?_,h2⟩;rw[Jp j hj];unfold stC Mb;rw[aat (by simpa using hj),A_,A_,hi];show Δ ((σ[i]?).join)=Δ (Δ v);rw[h1];rfl
noncomputable def ie (cl:Nat->List D->Res D)(T:Tg)(I:List IR)(E:IR)(τ0:Ev)(x:D):Res (Option D):=Hn (jt T x τ0) fun MY=>Hn (jX cl I MY) fun r=>if r=Θ then Hn (HA cl E MY) fun d=>.ok (Δ d) else .ok Φ
theorem ke {vs:List Nat}{fs:Ev->Res (List D)}{T:Tg}{I:List IR}{E:IR}{Kt:D->Prop}{Q:VK}(hl:fr.length<=G'.N.length)(ha:∀i∈J5 T,fr.length<=i)(hs:Slots K S H σ τ (fr++vs))
  (q:Hw (Hn (fs τ) fun its=>HB (iV its.length) (Hn ((g9 (ie cl T I E (Lx G' fr τ)) its)) fun ds=>.ok (.lst Θ ds))) Kt)
  (fin:∀A ys ds H',g7 H H'->H A=Φ->H' A=Δ (.lst ys)->Hq K (fun a=>nw S H a/\a≠A) H' ys ds->Kt (.lst Θ ds)->Q (.ref A) H') :
  vE (RI K vs fs) (stC (Mb G fr) (G'.N.drop fr.length)) (gT K T) (RT K (hU I) (jX cl I)) (RD K (vars E) (HA cl E)) σ H Q:=by
 refine C3 (.refl _) hs.right (Hw.Hn q) fun its J H1 e1 _ w1 q1 A hA=>?_;obtain⟨gd,q1⟩:=Hw.HB q1;have q2:=Hw.Hn q1;have hsz:=jR gd;have VA:H A=Φ:=e1.free hA
 -- UB is read VB apart from Oo new list
 have K7:∀a,nw S H a->H1 a≠Φ->nw S H a/\a≠A:=fun a h1 h2=>⟨h1,fun z=>h2 (by rw[z];exact hA)⟩
 have w2:J7 K (fun a=>nw S H a/\a≠A) H1 J its:=w1.step (fun a xs h r=>⟨K7 a h r.some,r⟩) fun a xs h=>h;have Kx:Slots K (fun a=>nw S H a/\a≠A) H1 σ τ (fr++vs):=fun i hi d z=>by obtain⟨v,h1,h2⟩:=(hs.go e1) i hi d z;exact⟨v,h1,h2.step (fun a xs h r=>⟨K7 a h r.some,r⟩) fun a xs h=>h⟩
 refine⟨fun i m Iw H'=>m=its.length - i/\i<=its.length/\∃ys acc,H' A=Δ (.lst ys)/\Hq K (fun a=>nw S H a/\a≠A) H' ys acc/\ys.length<=i/\g7 H1 H'/\Iw.length=G'.N.length/\
   (∀j,j < fr.length->Iw[j]? = (stC (Mb G fr) (G'.N.drop fr.length) σ)[j]?)/\Hw (g9 (ie cl T I E (Lx G' fr τ)) (its.drop i)) fun ds=>Kt (.lst Θ (acc++ds)),⟨its.length,by simp,Z_ _,[],[],gZ,.nil,n_ _,.upd hA,?_,fun _ _=>rfl,?_⟩,?_⟩
 ·rw[zZ,aam];omega
 ·rw[List.drop_zero];exact q2.mono fun ds z=>z.ok
 ·rintro i m Iw H' ⟨rfl,hi,ys,acc,hy,my,ly,e2,hn,Jp,q3⟩;by_cases IQ:i < its.length
  ·refine .inr ⟨(w2.mono (fun _ z=>z) e2).go IQ,fun x H2 Rj=>?_⟩;obtain⟨eH,mx⟩:=(w2.mono (fun _ z=>z) e2).MR Rj (d:=its[i]) (by simp[IQ]);have hy:=eH _ _ hy;have my:=my.mono (fun _ z=>z) eH;have e2:=e2.trans eH;have hd:its.drop i=its[i]::its.drop (i+1):=List.drop_eq_getElem_cons IQ;rw[hd]at q3;have q4:=Hw.Hn q3;have q5:Hw (jt T its[i] (Lx G' fr τ)) _:=Hw.Hn q4
   have sl:P' K (fun a=>nw S H a/\a≠A) H2 Iw (Lx G' fr τ):=Aa (G:=G) (vs:=vs) (σ:=σ) hl (fun i hi d z=>by
    obtain⟨v,h1,h2⟩:=Kx i hi d z
    exact⟨v,h1,h2.mono (fun _ z=>z) e2⟩) hn Jp
   refine sW T sl mx q5 fun τ' K1 sl2 J8 hk q6=>?_;have Ti:K1.length=G'.N.length:=J8.trans hn;have MF:∀j,j < fr.length->K1[j]? = (stC (Mb G fr) (G'.N.drop fr.length) σ)[j]?:=fun j hj=>by rw[hk j (fun z=>by have:=ha j z;omega)];exact Jp j hj
   have Yz:∀is,Slots K (fun a=>nw S H a/\a≠A) H2 K1 τ' is:=fun is i _ d z=>sl2.2 i d z;refine kj (.refl _) (Yz _) (Hw.Hn q6) fun r H4 e4 _ q7=>?_
   induction r using zB with
   |false=>rw[d_ B_]at q7 ⊢;have q8:Hw (g9 (ie cl T I E (Lx G' fr τ)) (its.drop (i+1))) fun ds=>Kt (.lst Θ (acc++ds)):=q7;refine⟨its.length - (i+1),by omega,rfl,IQ,ys,acc,e4 _ _ hy,my.mono (fun _ z=>z) e4,by omega,e2.trans e4,Ti,MF,q8⟩
   |true=>
    rw[f_ rfl]at q7 ⊢;refine iq e4 (Yz _) (Hw.Hn q7) fun d v H5 e5 e5' m5 q8=>?_;have q9:Hw (Hn (g9 (ie cl T I E (Lx G' fr τ)) (its.drop (i+1))) fun r=>.ok (d::r)) fun ds=>Kt (.lst Θ (acc++ds)):=q8;have PV:=Hw.Hn q9;have YA:H5 A=Δ (.lst ys):=e5 _ _ hy;refine⟨ys,YA,by omega,its.length - (i+1),by omega,rfl,IQ,ys++[v],acc++[d],gZ,?_,by rw[w_,R_];omega,?_,Ti,MF,?_⟩
    ·have YB:∀a (xs:LD),(nw S H a/\a≠A)->Rd H5 a xs.o->(nw S H a/\a≠A)/\Rd (upd H5 A (.lst (ys++[v]))) a xs.o:=fun a xs h r=>by refine⟨h,?_⟩;unfold Rd;rw[gX h.2];exact r
     have YC:∀a xs,IP K H5 a xs->IP K (upd H5 A (.lst (ys++[v]))) a xs:=fun a xs h=>h.upd YA
     have m6:Hx K (fun a=>nw S H a/\a≠A) H5 v d:=m5.step (fun a xs h r=>⟨by
      rcases h with h|h
      ·exact h
      ·have:H a=Φ:=e1.free (e2.free h)
       exact⟨.inr this,fun z=>by rw[z,hy]at h;cases h⟩,r⟩) fun a xs h=>h
     exact(((my.mono (fun _ z=>z) e5).step YB YC)).append (.cons (m6.step YB YC) .nil)
    ·exact fun b o hb=>by
      have:b≠A:=by rintro rfl;rw[hA]at hb;cases hb
      rw[gX this];exact e5 _ _ (e2 _ _ hb)
    ·refine PV.mono fun ds z=>?_;have z':=z.ok;rw[H_];exact z'
  ·have e:i=its.length:=by omega
   subst e;refine .inl ⟨(w2.mono (fun _ z=>z) e2).stop rfl,?_⟩;rw[List.drop_length]at q3;have q4:=q3.ok;rw[aal]at q4;exact fin A ys acc H' (e1.trans e2) VA hy my q4
end
section
variable {Z:Sg}{CX:JD}{cl:Nat->List D->Res D}{X:Cx}{G G':Gm}{fr:List Nat}
theorem ng:HA cl (.comp G' fr T s I E)=fun τ=>Hn (jG cl s τ) fun its=>HB (iV its.length) (Hn ((g9 (ie cl T I E (Lx G' fr τ)) its)) fun ds=>.ok (.lst Θ ds)):=rfl
theorem C5 (g:IV Z CX cl X G)  (hs:Lw Z G scope G' fr)(hT:i8 G' T tg=Θ)(ha:∀i∈J5 T,fr.length<=i)
  (hi:PI X tg iter (RI X.K (jD s) (jG cl s))) (ht:∀X',IV Z CX cl X' G'->Nk X' ifs (RT X'.K (hU I) (jX cl I))) (he:∀X',IV Z CX cl X' G'->PE X' elt (RD X'.K (vars E) (HA cl E)))
  (hf:∀x,foldedSetIterable iter X.env x=pure x):PE X (.ListComp elt [⟨tg,iter,ifs,0⟩] scope pos) (RD X.K (fr++jD s) (HA cl (.comp G' fr T s I E))):=by
 intro pins s' σ H Q Iv h;obtain⟨Ju,S⟩:=kc g Iv.ok hs;have p:=oQ (pos:=pos) (elt:=elt) (ifs:=ifs) (tg:=tg) (g:=gT X.K T) (tt:=RT X.K (hU I) (jX cl I)) (te:=RD X.K (vars E) (HA cl E)) (g.calm hs.cm) S hi (fun C s H fp=>N6 (iU g hs Ju C s H fp) T tg hT) (fun C s H fp=>ht _ (iU g hs Ju C s H fp)) (fun C s H fp=>he _ (iU g hs Ju C s H fp)) hf;refine p pins s' σ H Q Iv ?_;obtain⟨S0,τ,KR,q⟩:=h;rw[ng]at q;exact ke hs.TH ha KR q fun A ys ds H' e hA NF m k=>k _ _ e (.lst (.inr hA) (.inl NF) (m.mono (fun _ z=>z.1) (.refl _)))
end
section
variable {Z:Sg}{CX:JD}{cl:Nat->List D->Res D}
theorem uR (h:HE Z G a e=Θ)(env:Env)(x:Ψ):foldedSetIterable e env x=pure x:=by
 induction e using zE<;>first|rfl|(induction a using zI<;>cases h)
theorem jd (h:jx Z G a e=Θ)(env:Env)(x:Ψ):foldedSetIterable e env x=pure x:=by
 cases a with
 |val a=>exact uR (show HE Z G a e=Θ from h) env x
 |_=>induction e using zE<;>first|rfl|cases h
theorem both (h:PE X e (RD X.K is f))(he:∀whole,isTrue e X.env whole=(do let v <- whole;standAt e.pos;holding [v] (truthy v)):=by intro _;rfl) :
  PE X e (RD X.K is f)/\PT X e (RT X.K is fun τ=>Hn (f τ) il):=⟨h,EW h he⟩
mutual
theorem snd:∀(a:IR) (X:Cx) (G:Gm) (e:Expr),IV Z CX cl X G->HE Z G a e=Θ->PE X e (RD X.K (vars a) (HA cl a))/\PT X e (RT X.K (vars a) fun τ=>Hn (HA cl a τ) il)
 |.c d,X,G,e,g,h=>by
  induction e using zE with
  |Constant k j pos=>exact both (s_c h)
  |_=>exists h
 |.g n d,X,G,e,g,h=>by
  induction e using zE with
  |Name x pos=>have h':(mZ Z G n x&&Z.P6.any fun p=>p.1 == n&&uQ p.2 d)=Θ:=h;rw[h_]at h';exact both (s_g g h'.1 h'.2)
  |_=>exists h
 |.v i,X,G,e,g,h=>by
  induction e using zE with
  |Name x pos=>exact both (s_v g h)
  |_=>exists h
 |.bin op a b,X,G,e,g,h=>by
  induction e using zE with
  |BinOp l o r pos=>have h':(o == NB op&&HE Z G a l&&HE Z G b r)=Θ:=h;simp only[h_]at h';have e1:o=NB op:=i_ h'.1.1;subst e1;exact both (EX (snd a X G l g h'.1.2).1 (snd b X G r g h'.2).1)
  |_=>exists h
 |.neg a,X,G,e,g,h=>by
  induction e using zE with
  |UnaryOp o l pos=>
   cases o with
   |USub=>exact both (EY (snd a X G l g h).1)
   |_=>exists h
  |_=>exists h
 |.cmp op a b,X,G,e,g,h=>by
  induction e using zE with
  |Compare l os rs pos=>
   match os,rs,h with
   |[o],[r],h=>have h':(o == KQ op&&HE Z G a l&&HE Z G b r&&!behindInMarks o r)=Θ:=h;simp only[h_]at h';have e1:o=KQ op:=i_ h'.1.1.1;subst e1;exact EZ g (snd a X G l g h'.1.1.2).1 (snd b X G r g h'.1.2).1 (by simpa using h'.2)
   |[],_,h=>exists h
   |[_],[],h=>exists h
   |[_],_::_::_,h=>exists h
   |_::_::_,_,h=>exists h
  |_=>exists h
 |.chain op Jr a b c,X,G,e,g,h=>by
  induction e using zE with
  |Compare l os rs pos=>
   match os,rs,h with
   |[o,o'],[m,r],h=>have h':(o == KQ op&&o' == KQ Jr&&HE Z G a l&&HE Z G b m&&HE Z G c r&&!lastMarks [o,o'] [m,r])=Θ:=h;simp only[h_]at h';have e1:o=KQ op:=i_ h'.1.1.1.1.1;have e2:o'=KQ Jr:=i_ h'.1.1.1.1.2;subst e1 e2;exact zX g (snd a X G l g h'.1.1.1.2).1 (snd b X G m g h'.1.1.2).1 (snd c X G r g h'.1.2).1 (by simpa using h'.2)
   |[],_,h=>exists h
   |[_],_,h=>exists h
   |[_,_],[],h=>exists h
   |[_,_],[_],h=>exists h
   |[_,_],_::_::_::_,h=>exists h
   |_::_::_::_,_,h=>exists h
  |_=>exists h
 |.Jb a b,X,G,e,g,h=>by
  induction e using zE with
  |BoolOp o es pos=>
   match o,es,h with
   |.And,[l,r],h=>have h':(HE Z G a l&&HE Z G b r)=Θ:=h;rw[h_]at h';obtain⟨pa,ta⟩:=snd a X G l g h'.1;obtain⟨pb,tb⟩:=snd b X G r g h'.2;exact⟨Bc pa (u7 pb),Bd ta (yO tb)⟩
   |.And,l::r::r'::rest,h=>have h':(HE Z G a l&&HE Z G b (.BoolOp .And (r::r'::rest) pos))=Θ:=h;rw[h_]at h';obtain⟨pa,ta⟩:=snd a X G l g h'.1;obtain⟨pb,tb⟩:=snd b X G _ g h'.2;exact⟨Bc pa pb,Bd ta (wV (e:=l) tb)⟩
   |.And,[],h=>exists h
   |.And,[_],h=>exists h
   |.Or,_,h=>exists h
  |_=>exists h
 |.KZ a b,X,G,e,g,h=>by
  induction e using zE with
  |BoolOp o es pos=>
   match o,es,h with
   |.Or,[l,r],h=>have h':(HE Z G a l&&HE Z G b r)=Θ:=h;rw[h_]at h';obtain⟨pa,ta⟩:=snd a X G l g h'.1;obtain⟨pb,tb⟩:=snd b X G r g h'.2;exact⟨E0 pa (u7 pb),E2 ta (BS tb)⟩
   |.Or,l::r::r'::rest,h=>have h':(HE Z G a l&&HE Z G b (.BoolOp .Or (r::r'::rest) pos))=Θ:=h;rw[h_]at h';obtain⟨pa,ta⟩:=snd a X G l g h'.1;obtain⟨pb,tb⟩:=snd b X G _ g h'.2;exact⟨E0 pa pb,E2 ta (wV (e:=l) tb)⟩
   |.Or,[],h=>exists h
   |.Or,[_],h=>exists h
   |.And,_,h=>exists h
  |_=>exists h
 |.JT a,X,G,e,g,h=>by
  induction e using zE with
  |UnaryOp o l pos=>
   cases o with
   |Not=>obtain⟨pa,ta⟩:=snd a X G l g h;exact E1 pa ta
   |_=>exists h
  |_=>exists h
 |.ite t a b,X,G,e,g,h=>by
  induction e using zE with
  |IfExp c x y pos=>have h':(HE Z G t c&&HE Z G a x&&HE Z G b y)=Θ:=h;simp only[h_]at h';obtain⟨pa,ta⟩:=snd a X G x g h'.1.2;obtain⟨pb,tb⟩:=snd b X G y g h'.2;exact E3 (snd t X G c g h'.1.1).2 pa pb ta tb
  |_=>exists h
 |.tup es,X,G,e,g,h=>by
  induction e using zE with
  |Tuple l n pos=>exact both (E4 (qx es X G l g h))
  |_=>exists h
 |.lst es,X,G,e,g,h=>by
  induction e using zE with
  |List l pos=>exact both (E5 (qx es X G l g h))
  |_=>exists h
 |.idx a i,X,G,e,g,h=>by
  induction e using zE with
  |Subscript o s pos=>
   have h':(iT s&&HE Z G a o&&HE Z G i s)=Θ:=by cases s<;>first|exact h|(rename_i l u st p;cases st<;>exact h)
   simp only[h_]at h';exact both (E6 (snd a X G o g h'.1.2).1 (snd i X G s g h'.2).1 h'.1.1)
  |_=>exists h
 |.sl a lo hi,X,G,e,g,h=>by
  induction e using zE with
  |Subscript o s pos=>
   match s,h with
   |.Slice l u Φ p,h=>have h':(HE Z G a o&&rE Z G lo l&&rE Z G hi u)=Θ:=h;simp only[h_]at h';exact both (GZ (snd a X G o g h'.1.1).1 (Ab lo X G l g h'.1.2) (Ab hi X G u g h'.2))
   |.Slice _ _ (Δ _) _,h=>exists h
   |.BoolOp ..,h=>exists h
   |.NamedExpr ..,h=>exists h
   |.BinOp ..,h=>exists h
   |.UnaryOp ..,h=>exists h
   |.Lambda ..,h=>exists h
   |.IfExp ..,h=>exists h
   |.Dict ..,h=>exists h
   |.Set ..,h=>exists h
   |.ListComp ..,h=>exists h
   |.SetComp ..,h=>exists h
   |.DictComp ..,h=>exists h
   |.GeneratorExp ..,h=>exists h
   |.Await ..,h=>exists h
   |.Yield ..,h=>exists h
   |.YieldFrom ..,h=>exists h
   |.Compare ..,h=>exists h
   |.Call ..,h=>exists h
   |.FormattedValue ..,h=>exists h
   |.JoinedStr ..,h=>exists h
   |.Constant ..,h=>exists h
   |.Attribute ..,h=>exists h
   |.Subscript ..,h=>exists h
   |.Starred ..,h=>exists h
   |.Name ..,h=>exists h
   |.List ..,h=>exists h
   |.Tuple ..,h=>exists h
  |_=>exists h
 |.call f es,X,G,e,g,h=>by
  induction e using zE with
  |Call fn args J2 pos=>
   induction fn using zE with
   |Name x p=>
    induction J2 using zL with
    |nil=>have h':(mZ Z G f x&&Z.N3 G f&&iM Z G es args)=Θ:=h;simp only[h_]at h';exact both (s_call g h'.1.1 h'.1.2 h'.2 (qx es X G args g h'.2))
    |cons _ _=>exists h
   |_=>exists h
  |_=>exists h
 |.bi f es,X,G,e,g,h=>by
  induction e using zE with
  |Call fn args J2 pos=>
   induction fn using zE with
   |Name x p=>
    induction J2 using zL with
    |nil=>
     induction args using zL with
     |nil=>exists h
     |cons a args=>have h':(x == jT f&&G.Kb (og f)&&iM Z G es (a::args))=Θ:=h;simp only[h_]at h';have e1:x=jT f:=i_ h'.1.1;subst e1;exact both (G0 g h'.1.2 h'.2 (qx es X G _ g h'.2))
    |cons _ _=>cases args<;>exists h
   |_=>exists h
  |_=>exists h
 |.JU a,X,G,e,g,h=>by
  have h:N4 e (fun x y e=>x == "list"&&G.Kb 5&&y == "range"&&G.gl.contains 15&&notStar e&&HE Z G a e)=Θ:=by induction e using zE<;>exact h
  obtain⟨x,p,y,p',e',pos',pos,rfl,h⟩:=pq h;have h:(x == "list"&&G.Kb 5&&y == "range"&&G.gl.contains 15&&notStar e'&&HE Z G a e')=Θ:=h;simp only[h_]at h;have e1:x = "list":=i_ h.1.1.1.1.1;have e2:y = "range":=i_ h.1.1.1.2;subst e1 e2;exact both (C0 g h.1.1.1.1.2 h.1.1.2 h.1.2 (snd a X G e' g h.2).1)
 |.JE a,X,G,e,g,h=>by
  have h:N4 e (fun x y e=>x == "list"&&G.Kb 5&&y == "reversed"&&G.gl.contains 18&&notStar e&&HE Z G a e)=Θ:=by induction e using zE<;>exact h
  obtain⟨x,p,y,p',e',pos',pos,rfl,h⟩:=pq h;have h:(x == "list"&&G.Kb 5&&y == "reversed"&&G.gl.contains 18&&notStar e'&&HE Z G a e')=Θ:=h;simp only[h_]at h;have e1:x = "list":=i_ h.1.1.1.1.1;have e2:y = "reversed":=i_ h.1.1.1.2;subst e1 e2;exact both (CV g h.1.1.1.1.2 h.1.1.2 h.1.2 (snd a X G e' g h.2).1)
 |.J0 a b,X,G,e,g,h=>by
  have h:Vq e (fun x y e e'=>x == "list"&&G.Kb 5&&y == "zip"&&G.gl.contains 17&&(notStar e&&notStar e')&&HE Z G a e&&HE Z G b e')=Θ:=by induction e using zE<;>exact h
  obtain⟨x,p,y,p',ea,eb,pos',pos,rfl,h'⟩:=CP h;simp only[h_]at h';obtain⟨⟨⟨⟨⟨⟨hx,h5⟩,hy⟩,h17⟩,hn,J8⟩,ha⟩,hb⟩:=h';have e1:x = "list":=i_ hx;have e2:y = "zip":=i_ hy;subst e1 e2;exact both (C1 g h5 h17 hn J8 (snd a X G ea g ha).1 (snd b X G eb g hb).1)
 |.Kp,X,G,e,g,h=>by
  have h:Tz e=Θ:=by induction e using zE<;>exact h
  obtain⟨pos,rfl⟩:=wQ h;exact both CW
 |.K9 a k,X,G,e,g,h=>by
  have h:TB e (fun o s=>iT s&&HE Z G a o&&HE Z G k s)=Θ:=by induction e using zE<;>exact h
  obtain⟨o,s,pos,rfl,q1⟩:=CN h;simp only[h_]at q1;exact both (CY g (snd a X G o g q1.1.2).1 (snd k X G s g q1.2).1 q1.1.1)
 |.sset a,X,G,e,g,h=>by
  have h:N4 e (fun x y e=>x == "sorted"&&G.gl.contains 4&&y == "set"&&G.gl.contains 12&&(notStar e&&G.cm)&&HE Z G a e)=Θ:=by induction e using zE<;>exact h
  obtain⟨x,p,y,p',e',q',q,rfl,h⟩:=pq h;have h:(x == "sorted"&&G.gl.contains 4&&y == "set"&&G.gl.contains 12&&(notStar e'&&G.cm)&&HE Z G a e')=Θ:=h;simp only[h_]at h;have e1:x = "sorted":=i_ h.1.1.1.1.1;have e2:y = "set":=i_ h.1.1.1.2;subst e1 e2;exact both (CU g h.1.1.1.1.2 h.1.1.2 h.1.2.1 h.1.2.2 (snd a X G e' g h.2).1)
 |.Lu a b,X,G,e,g,h=>by
  have h:TC e (fun o y l s=>y == "index"&&isNm o&&l&&notStar s&&HE Z G a o&&HE Z G b s)=Θ:=by induction e using zE<;>exact h
  obtain⟨o,y,apos,s,Iz,rfl,q1⟩:=CQ h;simp only[h_]at q1;have e1:y = "index":=i_ q1.1.1.1.1.1;subst e1;exact both (CZ g q1.1.1.1.1.2 q1.1.1.1.2 q1.1.1.2 (snd a X G o g q1.1.2).1 (snd b X G s g q1.2).1)
 |.Ke a k,X,G,e,g,h=>by
  induction e using zE with
  |Call fn args J2 pos=>
   induction fn using zE with
   |Name x p=>
    match args,J2,h with
    |[o,.Name y p'],[],h=>have h':(x == "isinstance"&&G.gl.contains 14&&y == ko k&&G.gl.contains (sO k)&&notStar o&&HE Z G a o)=Θ:=h;simp only[h_]at h';have e1:x = "isinstance":=i_ h'.1.1.1.1.1;have e2:y=ko k:=i_ h'.1.1.1.2;subst e1 e2;exact both (E7 g h'.1.1.1.1.2 h'.1.1.2 h'.1.2 (snd a X G o g h'.2).1)
    |[],_,h=>exists h
    |[_],_,h=>exists h
    |_::b::_::_,k,h=>cases b<;>cases k<;>exists h
    |[_,.Name _ _],_::_,h=>exists h
    |[_,.BoolOp ..],_,h=>exists h
    |[_,.NamedExpr ..],_,h=>exists h
    |[_,.BinOp ..],_,h=>exists h
    |[_,.UnaryOp ..],_,h=>exists h
    |[_,.Lambda ..],_,h=>exists h
    |[_,.IfExp ..],_,h=>exists h
    |[_,.Dict ..],_,h=>exists h
    |[_,.Set ..],_,h=>exists h
    |[_,.ListComp ..],_,h=>exists h
    |[_,.SetComp ..],_,h=>exists h
    |[_,.DictComp ..],_,h=>exists h
    |[_,.GeneratorExp ..],_,h=>exists h
    |[_,.Await ..],_,h=>exists h
    |[_,.Yield ..],_,h=>exists h
    |[_,.YieldFrom ..],_,h=>exists h
    |[_,.Compare ..],_,h=>exists h
    |[_,.Call ..],_,h=>exists h
    |[_,.FormattedValue ..],_,h=>exists h
    |[_,.JoinedStr ..],_,h=>exists h
    |[_,.Constant ..],_,h=>exists h
    |[_,.Attribute ..],_,h=>exists h
    |[_,.Subscript ..],_,h=>exists h
    |[_,.Starred ..],_,h=>exists h
    |[_,.Slice ..],_,h=>exists h
    |[_,.List ..],_,h=>exists h
    |[_,.Tuple ..],_,h=>exists h
   |_=>exists h
  |_=>exists h
 |.MX m o es,X,G,e,g,h=>by
  induction e using zE with
  |Call fn args J2 pos=>
   induction fn using zE with
   |Attribute oe name apos=>
    match args,J2,h with
    |a::args,[],h=>have h':(name == mU m&&mY oe&&apos.endLine == pos.line&&decide ((a::args).length < 29)&&HE Z G o oe&&iM Z G es (a::args))=Θ:=h;simp only[h_]at h';have e1:name=mU m:=i_ h'.1.1.1.1.1;subst e1;exact both (E8 g h'.1.1.1.1.2 h'.1.1.1.2 (q_ h'.1.1.2) h'.2 (snd o X G oe g h'.1.2).1 (qx es X G _ g h'.2))
    |[],_,h=>exists h
    |_::_,_::_,h=>exists h
   |_=>exists h
  |_=>exists h
 |.comp G' fr tg src ifs elt,X,G,e,g,h=>by
  induction e using zE with
  |ListComp el gens scope pos=>
   have h:rD gens (fun t it fs=>iW Z G scope G' fr&&i8 G' tg t&&(J5 tg).all (fun i=>decide (fr.length<=i))&&(jx Z G src it&&lH src t)&&iM Z G' ifs fs&&HE Z G' elt el)=Θ:=h;obtain⟨t,it,fs,rfl,h⟩:=mi h;have h':(iW Z G scope G' fr&&i8 G' tg t&&(J5 tg).all (fun i=>decide (fr.length<=i))&&(jx Z G src it&&lH src t)&&iM Z G' ifs fs&&HE Z G' elt el)=Θ:=h;simp only[h_]at h'
   exact both (C5 g (mj h'.1.1.1.1.1) h'.1.1.1.1.2 (fun i hi=>q_ (W_.mp h'.1.1.1.2 i hi)) (xb src X G it t g h'.1.1.2.1 h'.1.1.2.2)
    (fun X' g'=>w8 ifs X' G' fs g' h'.1.2) (fun X' g'=>(snd elt X' G' el g' h'.2).1) (fun x=>jd h'.1.1.2.1 X.env x))
  |_=>exists h
theorem qx:∀(as:List IR) (X:Cx) (G:Gm) (l:List Expr),IV Z CX cl X G->iM Z G as l=Θ->PA X l (RA X.K (hU as) (iQ cl as))
 |[],X,G,l,g,h=>by
  induction l using zL with
  |nil=>exact oN iK fun σ H Q ⟨S,τ,hs,q⟩=>q.ok _ _ (.refl _) .nil
  |cons _ _=>exists h
 |a::as,X,G,l,g,h=>by
  induction l using zL with
  |nil=>exists h
  |cons e l=>have h':(notStar e&&HE Z G a e&&iM Z G as l)=Θ:=h;simp only[h_]at h';refine oN (ip (snd a X G e g h'.1.2).1 (qx as X G l g h'.2) (fD h'.1.1 _ _)) fun σ H Q ⟨S,τ,hs,q⟩=>?_;refine iq (.refl _) hs.left (Hw.Hn q) fun x v H1 e1 _ m1 q1=>?_;refine qt e1 hs.right (Hw.Hn q1) fun ds vs H2 e2 Js m2 q2=>?_;exact q2.ok _ _ e2 (.cons (m1.later Js) m2)
theorem Ab:∀(o:Option IR) (X:Cx) (G:Gm) (e:Option Expr),IV Z CX cl X G->rE Z G o e=Θ->PO X e (P9 X.K (wu o) (oZ cl o))
 |none,X,G,e,g,h=>by
  induction e using zO with
  |none=>intro pins s σ H Q I ⟨S,τ,hs,q⟩;exact yW pins s σ H Q I (q.ok H (.refl _))
  |some _=>exists h
 |some a,X,G,e,g,h=>by
  induction e using zO with
  |none=>exists h
  |some e=>
   intro pins s σ H Q I ⟨S,τ,hs,q⟩;refine yX (snd a X G e g h).1 pins s σ H Q I ?_;refine iq (.refl _) hs (Hw.Hn q) fun x v H1 e1 _ m1 q1=>?_
   induction x using zD with
   |int i=>cases m1.ID;exact⟨i,rfl,q1.ok _ e1⟩
   |_=>exact q1.no.elim
theorem w8:∀(as:List IR) (X:Cx) (G:Gm) (l:List Expr),IV Z CX cl X G->iM Z G as l=Θ->Nk X l (RT X.K (hU as) (jX cl as))
 |[],X,G,l,g,h=>by
  induction l using zL with
  |nil=>intro pins s σ H Q I ⟨S,τ,hs,q⟩;exact y9 pins s σ H Q I (q.ok H (.refl _))
  |cons _ _=>exists h
 |a::as,X,G,l,g,h=>by
  induction l using zL with
  |nil=>exists h
  |cons e l=>
   have h':(notStar e&&HE Z G a e&&iM Z G as l)=Θ:=h;simp only[h_]at h';intro pins s σ H Q I ⟨S,τ,hs,q⟩;refine vD (snd a X G e g h'.1.2).2 (w8 as X G l g h'.2) pins s σ H Q I ?_;refine kj (.refl _) hs.left (Hw.Hn q) fun r H2 e2 _ k=>?_
   induction r using zB with
   |true=>rw[f_ rfl]at k ⊢;exact kj e2 hs.right k fun b H3 e3 _ z=>z H3 e3
   |false=>rw[d_ B_]at k ⊢;exact k.ok H2 e2
theorem xb:∀(s:Sr) (X:Cx) (G:Gm) (e tg:Expr),IV Z CX cl X G->jx Z G s e=Θ->lH s tg=Θ->PI X tg e (RI X.K (jD s) (jG cl s))
 |.II n,X,G,e,tg,g,h,ht=>by
  induction e using zE with
  |Call fn args J2 pos=>
   induction fn using zE with
   |Name x p=>
    match args,J2,h with
    |[a],[],h=>have h':(x == "range"&&G.gl.contains 15&&notStar a&&HE Z G n a)=Θ:=h;simp only[h_]at h';have e1:x = "range":=i_ h'.1.1.1;subst e1;exact C4 g h'.1.1.2 h'.1.2 (snd n X G a g h'.2).1
    |[],_,h=>exists h
    |[_],_::_,h=>exists h
    |_::_::_,_,h=>exists h
   |_=>exists h
  |_=>exists h
 |.val a,X,G,e,tg,g,h,ht=>Fd (snd a X G e g h).1
 |.KP a,X,G,e,tg,g,h,ht=>by
  induction tg using zE with
  |Tuple tes tc tp=>
   induction e using zE with
   |Call fn args J2 pos=>
    induction fn using zE with
    |Name x p=>
     match args,J2,h with
     |[l],[],h=>have h':(x == "enumerate"&&G.gl.contains 20&&notStar l&&HE Z G a l)=Θ:=h;simp only[h_]at h';have e1:x = "enumerate":=i_ h'.1.1.1;subst e1;exact Fg g h'.1.1.2 h'.1.2 (snd a X G l g h'.2).1
     |[],_,h=>exists h
     |[_],_::_,h=>exists h
     |_::_::_,_,h=>exists h
    |_=>exists h
   |_=>exists h
  |_=>exact dn ht
 |.zip a b,X,G,e,tg,g,h,ht=>by
  induction tg using zE with
  |Tuple tes tc tp=>
   induction e using zE with
   |Call fn args J2 pos=>
    induction fn using zE with
    |Name x p=>
     match args,J2,h with
     |[l,r],[],h=>have h':(x == "zip"&&G.gl.contains 17&&notStar l&&notStar r&&HE Z G a l&&HE Z G b r)=Θ:=h;simp only[h_]at h';have e1:x = "zip":=i_ h'.1.1.1.1.1;subst e1;exact Ff g h'.1.1.1.1.2 h'.1.1.1.2 h'.1.1.2 (snd a X G l g h'.1.2).1 (snd b X G r g h'.2).1
     |[],_,h=>exists h
     |[_],_,h=>exists h
     |[_,_],_::_,h=>exists h
     |_::_::_::_,_,h=>exists h
    |_=>exists h
   |_=>exists h
  |_=>exact dn ht
end
end
inductive IM (K:Frag)(F:Ω->Prop)(H:Hp):St->Ev->List Ω->Prop where
 | nil:IM K F H [] [] []
 | none {o:Option V}{σ:St}{τ:Ev}{f:List Ω}:IM K F H σ τ f->IM K F H (o::σ) (.none::τ) f
 | some {v:V}{d:D}{f:List Ω}{σ:St}{τ:Ev}{g:List Ω}:IA K F H v d f->IM K F H σ τ g->IM K F H (.some v::σ) (.some d::τ) (f++g)
section
variable {K:Frag}{F F':Ω->Prop}{H H':Hp}{σ:St}{τ:Ev}{f:List Ω}
theorem IM.len:∀ {σ:St}{τ:Ev}{f:List Ω},IM K F H σ τ f->σ.length=τ.length
 |_,_,_,.nil=>rfl
 |_,_,_,.none h=>by rw[List.length_cons,List.length_cons,IM.len h]
 |_,_,_,.some _ h=>by rw[List.length_cons,List.length_cons,IM.len h]
theorem IM.step (hl:∀a (u:LD),F a->Rd H a u.o->F' a/\Rd H' a u.o)(ht:∀a xs,IP K H a xs->IP K H' a xs):∀ {σ:St}{τ:Ev}{f:List Ω},(∀a∈f,¬F a->H a≠Option.none->¬F' a/\H' a=H a)->IM K F H σ τ f->IM K F' H' σ τ f
 |_,_,_,_,.nil=>.nil
 |_,_,_,k,.none h=>.none (IM.step hl ht k h)
 |_,_,_,k,.some m h=>.some (m.step hl ht fun a ha=>k a (t_ _ ha)) (IM.step hl ht (fun a ha=>k a (v_ _ ha)) h)
theorem IM.own:∀ {σ:St}{τ:Ev}{f:List Ω},IM K F H σ τ f->∀a∈f,¬F a/\∃u,H a=.some u
 |_,_,_,.nil=>fun _ h=>absurd h (by simp)
 |_,_,_,.none h=>IM.own h
 |_,_,_,.some m h=>fun a ha=>by
  rcases s_.mp ha with ha|ha
  ·exact m.own a ha
  ·exact IM.own h a ha
theorem iY:gV (o::τ) (i+1)=gV τ i:=by unfold gV;simp
theorem jf:gV (o::τ) 0=o:=by unfold gV;simp
theorem IM.at:∀ {σ:St}{τ:Ev}{f:List Ω}{i:Nat}{d:D},IM K F H σ τ f->gV τ i=.some d->∃v fv g,σ[i]? = .some (.some v)/\IA K F H v d fv/\IM K F H σ (τ.set i .none) g/\f.Perm (fv++g)
 |_,_,_,i,d,.nil,h=>by simp[gV]at h
 |_,_,_,0,d,.none _,h=>by rw[jf]at h;cases h
 |_,_,_,0,d,.some m h',h=>by rw[jf]at h;cases h;exact⟨_,_,_,rfl,m,.none h',.refl _⟩
 |_,_,_,i+1,d,.none h',h=>by rw[iY]at h;obtain⟨v,fv,g,h1,h2,h3,h4⟩:=IM.at h' h;exact⟨v,fv,g,by simpa using h1,h2,.none h3,h4⟩
 |_,_,_,i+1,d,.some (f:=f0) m h',h=>by rw[iY]at h;obtain⟨v,fv,g,h1,h2,h3,h4⟩:=IM.at h' h;refine⟨v,fv,f0++g,by simpa using h1,h2,.some m h3,?_⟩;refine(aaA f0 h4).trans ?_;rw[<- H_,<- H_];exact List.Perm.append_right g aaB
theorem IM.put:∀ {σ:St}{τ:Ev}{f:List Ω} (i:Nat) {v:V}{d:D}{fv:List Ω},IM K F H σ τ f->IA K F H v d fv->∃g h,IM K F H (σ.set i (.some v)) (τ.set i (.some d)) g/\(g++h).Perm (fv++f)
 |_,_,_,i,v,d,fv,.nil,m=>⟨[],_,.nil,.refl _⟩
 |_,_,_,0,v,d,fv,.none h,m=>⟨_,[],.some m h,by rw[aal]⟩
 |_,_,_,0,v,d,fv,.some (f:=f0) (g:=g0) m' h,m=>⟨_,f0,.some m h,by rw[H_];exact aaA _ aaB⟩
 |_,_,_,i+1,v,d,fv,.none h,m=>by obtain⟨g,h',h1,h2⟩:=IM.put i h m;exact⟨g,h',.none h1,h2⟩
 |_,_,_,i+1,v,d,fv,.some (f:=f0) (g:=g0) m' h,m=>by obtain⟨g,h',h1,h2⟩:=IM.put i h m;refine⟨f0++g,h',.some m' h1,?_⟩;rw[H_];refine(aaA f0 h2).trans ?_;rw[<- H_,<- H_];exact List.Perm.append_right g0 aaB
theorem IM.slots (h:IM K F H σ τ f)(hF:∀a,F a->S a)(hf:∀a∈f,S a):Slots K S H σ τ is:=fun i hi d z=>by obtain⟨v,fv,g,h1,h2,h3,h4⟩:=h.at z;exact⟨v,h1,h2.read hF fun a ha=>hf a (h4.mem_iff.mpr (t_ _ ha))⟩
theorem IM.freeze (is:List Nat):∀ {σ:St}{τ:Ev}{f:List Ω} (k:Nat),IM K F H σ τ f->∃fi g,f.Perm (fi++g)/\(∀F':Ω->Prop,(∀a,F a->F' a)->(∀a∈fi,F' a)->(∀a∈g,¬F a->¬F' a)->IM K F' H σ (lC is k τ) g)/\
  ∀F':Ω->Prop,(∀a,F a->F' a)->(∀a∈fi,F' a)->∀i,is.contains (k+i)=Θ->∀d,gV τ i=.some d->∃v,σ[i]? = .some (.some v)/\Hx K F' H v d
 |_,_,_,k,.nil=>⟨[],[],.refl _,fun _ _ _ _=>.nil,fun _ _ _ i _ d z=>by simp[gV]at z⟩
 |_,_,_,k,.none h=>by
  obtain⟨fi,g,h1,h2,h3⟩:=IM.freeze is (k+1) h;refine⟨fi,g,h1,fun F' a b c=>?_,fun F' a b i hi d z=>?_⟩
  ·unfold lC;have e:(if is.contains k=Θ then Option.map er (Option.none:Option D) else Option.none)=Option.none:=by split<;>rfl
   rw[e];exact .none (h2 F' a b c)
  ·cases i with
   |zero=>rw[jf]at z;cases z
   |succ i=>rw[iY]at z;obtain⟨v,q1,q2⟩:=h3 F' a b i (by rw[show k+1+i=k+(i+1) by omega];exact hi) d z;exact⟨v,by simpa using q1,q2⟩
 |_,_,_,k,.some (v:=v) (d:=d0) (f:=f0) (g:=g0) m h=>by
  obtain⟨fi,g,h1,h2,h3⟩:=IM.freeze is (k+1) h;by_cases hc:is.contains k=Θ
  ·refine⟨f0++fi,g,by rw[H_];exact aaA _ h1,fun F' a b c=>?_,fun F' a b i hi d z=>?_⟩
   ·unfold lC;rw[f_ hc];exact .some (f:=[]) ((m.read a fun x hx=>b x (t_ _ hx)).frozen) (h2 F' a (fun x hx=>b x (v_ _ hx)) c)
   ·cases i with
    |zero=>rw[jf]at z;cases z;exact⟨v,rfl,m.read a fun x hx=>b x (t_ _ hx)⟩
    |succ i=>rw[iY]at z;obtain⟨v,q1,q2⟩:=h3 F' a (fun x hx=>b x (v_ _ hx)) i (by rw[show k+1+i=k+(i+1) by omega];exact hi) d z;exact⟨v,by simpa using q1,q2⟩
  ·refine⟨fi,f0++g,?_,fun F' a b c=>?_,fun F' a b i hi d z=>?_⟩
   ·refine(aaA f0 h1).trans ?_;rw[<- H_,<- H_];exact List.Perm.append_right g aaB
   ·unfold lC;rw[d_ hc];exact .some (m.step (fun x xs q r=>⟨a x q,r⟩) (fun x xs q=>q) fun x hx n _=>⟨c x (t_ _ hx) n,rfl⟩) (h2 F' a b fun x hx=>c x (v_ _ hx))
   ·cases i with
    |zero=>exact absurd hi hc
    |succ i=>rw[iY]at z;obtain⟨v,q1,q2⟩:=h3 F' a b i (by rw[show k+1+i=k+(i+1) by omega];exact hi) d z;exact⟨v,by simpa using q1,q2⟩
end
structure Ly (F:Ω->Prop)(H:Hp)(f:List Ω)(F':Ω->Prop)(H':Hp):Prop where
 same:g7 H H'
 J6:∀a,F a->F' a
 out:∀a,F' a->F a∨a∈f∨H a=Φ
structure Ow (K:Frag)(F:Ω->Prop)(H:Hp)(f:List Ω)(F':Ω->Prop)(H':Hp)(σ:St)(v:V)(d:D)(fv:List Ω)(τ':Ev)(f':List Ω):Prop where
 KA:Ly F H f F' H'
 IK:K0 F' H'
 rep:IA K F' H' v d fv
 Jg:IM K F' H' σ τ' f'
 Je:(fv++f').Nodup
 mem:∀a∈fv++f',a∈f∨H a=Φ
structure Ows (K:Frag)(F:Ω->Prop)(H:Hp)(f:List Ω)(F':Ω->Prop)(H':Hp)(σ:St)(v:List V)(d:List D)(fv:List Ω)(τ':Ev)(f':List Ω):Prop where
 KA:Ly F H f F' H'
 IK:K0 F' H'
 rep:Hy K F' H' v d fv
 Jg:IM K F' H' σ τ' f'
 Je:(fv++f').Nodup
 mem:∀a∈fv++f',a∈f∨H a=Φ
section
variable {K:Frag}{F F' YD:Ω->Prop}{H H' YE:Hp}{f f':List Ω}
theorem Ly.refl:Ly F H f F H:=⟨.refl _,fun _ h=>h,fun _ h=>.inl h⟩
theorem Ly.trans (a:Ly F H f F' H')(b:Ly F' H' f' YD YE)(hf:∀x∈f',x∈f∨H x=Φ):Ly F H f YD YE:=⟨a.same.trans b.same,fun x h=>b.J6 x (a.J6 x h),fun x h=>by
 rcases b.out x h with h|h|h
 ·exact a.out x h
 ·rcases hf x h with h|h
  ·exact .inr (.inl h)
  ·exact .inr (.inr h)
 ·exact .inr (.inr (a.same.free h))⟩
theorem IA.KA (m:IA K F H v d fv)(s:Ly F H f F' H')(h:∀a∈fv,a∉f):IA K F' H' v d fv:=
 m.step (fun a xs q r=>⟨s.J6 a q,s.same.rd r⟩) (fun a xs q=>s.same.Km q) fun a ha n hn=>by
  obtain⟨_,xs,e⟩:=m.own a ha;refine⟨fun z=>?_,(s.same _ _ e).trans e.symm⟩;rcases s.out a z with z|z|z
  ·exact n z
  ·exact h a ha z
  ·exact hn z
theorem Hy.KA (m:Hy K F H v d fv)(s:Ly F H f F' H')(h:∀a∈fv,a∉f):Hy K F' H' v d fv:=
 m.step (fun a xs q r=>⟨s.J6 a q,s.same.rd r⟩) (fun a xs q=>s.same.Km q) fun a ha n hn=>by
  obtain⟨_,xs,e⟩:=m.own a ha;refine⟨fun z=>?_,(s.same _ _ e).trans e.symm⟩;rcases s.out a z with z|z|z
  ·exact n z
  ·exact h a ha z
  ·exact hn z
end
def RO (K:Frag)(g:Ev->Res (D×Ev)):TE:=fun σ H Q=>∃F τ f,K0 F H/\IM K F H σ τ f/\f.Nodup/\Hw (g τ) fun p=>∀v H' F' fv f',Ow K F H f F' H' σ v p.1 fv p.2 f'->Q v H'
def Qb (K:Frag)(g:Ev->Res (List D×Ev)):TA:=fun σ H Q=>∃F τ f,K0 F H/\IM K F H σ τ f/\f.Nodup/\Hw (g τ) fun p=>∀v H' F' fv f',Ows K F H f F' H' σ v p.1 fv p.2 f'->Q v H'
abbrev Kn (K:Frag)(S:Ω->Prop)(H:Hp)(Q:VK):List D->Prop:=fun ds=>∀p ys H',g7 H H'->H p=Φ->H' p=Δ (.lst ys)->Hq K (fun a=>nw S H a/\a≠p) H' ys ds->Q (.ref p) H'
def RN (K:Frag)(is:List Nat)(f:Ev->Res (List D)):TE:=fun σ H Q=>∃S τ,Slots K S H σ τ is/\Hw (f τ) (Kn K S H Q)
noncomputable def j5:D->Res (List D)
 |.lst _ ds=>.ok ds
 |_=>Ir
section
variable {K:Frag}{F F':Ω->Prop}{H H':Hp}{σ:St}{τ:Ev}{f:List Ω}{S:Ω->Prop}
theorem Ac (m:Hq K (nw S H) H2 vs ds)(hp:H2 p=Φ):Hq K (fun a=>nw S H a/\a≠p) (upd H2 p (.lst ws)) vs ds:=
 m.step (fun a xs h r=>by
  have JK:a≠p:=fun z=>r.some (by rw[z];exact hp);refine⟨⟨h,JK⟩,?_⟩;unfold Rd;rw[gX JK]
  exact r) fun a xs h=>(g7.upd hp).Km h
theorem grow (P:Ω->Prop)(IK:K0 F H)(r:IM K F H σ τ f)(e:g7 H H') :
  K0 (fun a=>F a∨(P a/\H a=Φ/\H' a≠Φ)) H'/\IM K (fun a=>F a∨(P a/\H a=Φ/\H' a≠Φ)) H' σ τ f/\Ly F H f (fun a=>F a∨(P a/\H a=Φ/\H' a≠Φ)) H':=by
 refine⟨fun a h=>?_,r.step (fun a xs q rd=>⟨.inl q,e.rd rd⟩) (fun a xs q=>e.Km q) fun a ha n hn=>⟨fun z=>?_,?_⟩,⟨e,fun a h=>.inl h,fun a h=>?_⟩⟩
 ·rcases h with h|h
  ·intro z;exact IK a h (e.free z)
  ·exact h.2.2
 ·rcases z with z|z
  ·exact n z
  ·exact hn z.2.1
 ·obtain⟨_,xs,q⟩:=r.own a ha;exact(e _ _ q).trans q.symm
 ·rcases h with h|h
  ·exact .inl h
  ·exact .inr (.inr h.2.1)
theorem kO (IK:K0 F H)(r:IM K F H σ τ f)(e:g7 H H'):K0 F H'/\IM K F H' σ τ f/\Ly F H f F H':=by refine⟨fun a h z=>IK a h (e.free z),r.step (fun a xs q rd=>⟨q,e.rd rd⟩) (fun a xs q=>e.Km q) fun a ha n hn=>⟨n,?_⟩,⟨e,fun a h=>h,fun a h=>.inl h⟩⟩;obtain⟨_,xs,q⟩:=r.own a ha;exact(e _ _ q).trans q.symm
theorem kg (is:List Nat)(IK:K0 F H)(r:IM K F H σ τ f)(nd:f.Nodup):∃F1 g,K0 F1 H/\IM K F1 H σ (IH is τ) g/\g.Nodup/\Ly F H f F1 H/\(∀a∈g,a∈f)/\Slots K F1 H σ τ is:=by
 obtain⟨fi,g,h1,h2,h3⟩:=r.freeze is 0;have M1:(fi++g).Nodup:=h1.nodup_iff.mp nd;have Qc:∀a∈g,a∉fi:=fun a ha hb=>(r_.mp M1).2.2 a hb a ha rfl;have YF:∀a∈fi,a∈f:=fun a ha=>h1.mem_iff.mpr (t_ _ ha);have inG:∀a∈g,a∈f:=fun a ha=>h1.mem_iff.mpr (v_ _ ha);refine⟨fun a=>F a∨a∈fi,g,fun a h=>?_,h2 _ (fun a h=>.inl h) (fun a h=>.inr h) (fun a ha n z=>?_),(r_.mp M1).2.1,⟨.refl _,fun a h=>.inl h,fun a h=>?_⟩,inG,fun i hi d z=>?_⟩
 ·rcases h with h|h
  ·exact IK a h
  ·obtain⟨_,xs,q⟩:=r.own a (YF a h);rw[q];simp
 ·rcases z with z|z
  ·exact n z
  ·exact Qc a ha z
 ·rcases h with h|h
  ·exact .inl h
  ·exact .inr (.inl (YF a h))
 ·exact h3 _ (fun a h=>.inl h) (fun a h=>.inr h) i (by simpa using hi) d z
theorem iN (r:IM K F H σ τ f):Slots K (fun _=>True) H σ τ is:=r.slots (fun _ _=>trivial) fun _ _=>trivial
theorem Hx.fix (m:Hx K (L2.nw F H) H' v d):Hx K (fun a=>F a∨(True/\H a=Φ/\H' a≠Φ)) H' v d:=m.step (fun a xs h r=>⟨h.elim (fun z=>.inl z) fun z=>.inr ⟨trivial,z,r.some⟩,r⟩) fun a xs h=>h
end
section
variable {X:Cx}{cl:Nat->List D->Res D}
theorem HF (he:PE X e (BO i))(mv:Bool):PE X e (RO X.K (Jd cl mv (.v i))):=by
 refine hG he fun σ H Q ⟨F,τ,f,IK,r,nd,q⟩=>?_;rw[ER]at q;cases z:gV τ i with
 |none=>rw[z]at q;exact q.no.elim
 |some d=>
  rw[z]at q;obtain⟨v,fv,g,h1,h2,h3,h4⟩:=r.at z;have M1:(fv++g).Nodup:=h4.nodup_iff.mp nd
  induction mv using zB with
  |true=>have q':=(show Hw (.ok (d,τ.set i Φ):Res (D×Ev)) _ from q).ok;exact⟨v,h1,q' v H F fv g ⟨.refl,IK,h2,h3,M1,fun a ha=>.inl (h4.mem_iff.mpr ha)⟩⟩
  |false=>
   have q':=(show Hw (.ok (er d,τ.set i (Δ (er d))):Res (D×Ev)) _ from q).ok;have Qc:∀a∈g,a∉fv:=fun a ha hb=>(r_.mp M1).2.2 a hb a ha rfl;have m1:IA X.K (fun a=>F a∨a∈fv) H v (er d) []:=(h2.read (fun a h=>.inl h) (fun a h=>.inr h)).frozen;have r1:IM X.K (fun a=>F a∨a∈fv) H σ (τ.set i Φ) g:=h3.step (fun a xs h r=>⟨.inl h,r⟩) (fun a xs h=>h) fun a ha n _=>⟨fun z=>z.elim n (Qc a ha),rfl⟩
   obtain⟨g',h',r2,p2⟩:=r1.put i m1;have Jp:σ.set i (Δ v)=σ:=by
    apply List.ext_getElem?;intro j;rw[List.getElem?_set];by_cases hj:i=j
    ·subst hj;have IQ:i < σ.length:=(p_.mp h1).1;rw[f_ rfl,f_ IQ,h1]
    ·rw[d_ hj]
   rw[Jp,List.set_set]at r2;rw[List.nil_append]at p2;have M3:(g'++h').Nodup:=p2.nodup_iff.mpr (r_.mp M1).2.1;refine⟨v,h1,q' v H _ [] g' ⟨⟨.refl _,fun a h=>.inl h,fun a h=>?_⟩,fun a h=>?_,m1,r2,(r_.mp M3).1,fun a ha=>?_⟩⟩
   ·exact h.elim (fun z=>.inl z) fun z=>.inr (.inl (h4.mem_iff.mpr (t_ _ z)))
   ·rcases h with h|h
    ·exact IK a h
    ·obtain⟨_,xs,e⟩:=h2.own a h;rw[e];simp
   ·have:a∈g:=p2.mem_iff.mp (t_ _ (by simpa using ha));exact .inl (h4.mem_iff.mpr (v_ _ this))
theorem Hr (h:PA X l (Qb X.K g)):PE X (.Tuple l n pos) (RO X.K fun τ=>Hn (g τ) fun p=>HB (iS p.1.length) (.ok (.tup p.1,p.2))):=by
 refine hG (vy h) fun σ H Q ⟨F,τ,f,IK,r,nd,q⟩=>⟨F,τ,f,IK,r,nd,(Hw.Hn q).mono fun p hp vs H1 F1 fv f1 o=>?_⟩
 obtain⟨gd,hp⟩:=Hw.HB hp;refine⟨by rw[o.rep.length];exact i6 gd,fun p' NG=>hp.ok _ _ F1 fv f1 ?_⟩;have e:g7 H1 (upd H1 p' (.tup vs)):=.upd NG;obtain⟨k1,k2,k3⟩:=kO o.IK o.Jg e;refine⟨o.KA.trans k3 (fun x hx=>o.mem x (v_ _ hx)),k1,.tup (.inl (.inl gZ)) (o.rep.KA k3 fun a ha hb=>(r_.mp o.Je).2.2 a ha a hb rfl),k2,o.Je,o.mem⟩
theorem Ht (h:PA X l (Qb X.K g)):PE X (.List l pos) (RO X.K fun τ=>Hn (g τ) fun p=>HB (iS p.1.length) (.ok (.lst Θ p.1,p.2))):=by
 refine hG (mC h) fun σ H Q ⟨F,τ,f,IK,r,nd,q⟩=>⟨F,τ,f,IK,r,nd,(Hw.Hn q).mono fun p hp vs H1 F1 fv f1 o=>?_⟩
 obtain⟨gd,hp⟩:=Hw.HB hp;refine⟨by rw[o.rep.length];exact i6 gd,fun p' NG=>hp.ok _ _ F1 (p'::fv) f1 ?_⟩;have e:g7 H1 (upd H1 p' (.lst vs)):=.upd NG;obtain⟨k1,k2,k3⟩:=kO o.IK o.Jg e;refine⟨o.KA.trans k3 (fun x hx=>o.mem x (v_ _ hx)),k1,.Jl (fun z=>o.IK _ z NG) gZ (o.rep.KA k3 fun a ha hb=>(r_.mp o.Je).2.2 a ha a hb rfl),k2,?_,fun a ha=>?_⟩
 ·rw[c_,L_];refine⟨fun z=>?_,o.Je⟩;rcases s_.mp z with z|z
  ·obtain⟨_,xs,e⟩:=o.rep.own _ z;rw[NG]at e;cases e
  ·obtain⟨_,xs,e⟩:=o.Jg.own _ z;rw[NG]at e;cases e
 ·rw[c_]at ha;rcases k_.mp ha with rfl|ha
  ·exact .inr (o.KA.same.free NG)
  ·exact o.mem a ha
theorem Hu (hc:PT X c (RT X.K vc fc))(ha:PE X a (RO X.K fa))(hb:PE X b (RO X.K fb)) :
  PE X (.IfExp c a b pos) (RO X.K fun τ=>Hn (fc τ) fun r=>if r=Θ then fa τ else fb τ):=by
 refine hG (pP hc ha hb) fun σ H Q ⟨F,τ,f,IK,r,nd,q⟩=>?_;refine kj (.refl _) (iN r) (Hw.Hn q) fun x H2 e2 _ k=>?_;obtain⟨k1,k2,k3⟩:=kO IK r e2;have go:∀ {g:Ev->Res (D×Ev)},Hw (g τ) (fun p=>∀v H' F' fv f',Ow X.K F H f F' H' σ v p.1 fv p.2 f'->Q v H')->RO X.K g σ H2 Q:=fun hg=>
  ⟨F,τ,f,k1,k2,nd,hg.mono fun p hp v H' F' fv f' o=>hp v H' F' fv f' ⟨k3.trans o.KA (fun x hx=>.inl hx),o.IK,o.rep,o.Jg,o.Je,fun a ha=>(o.mem a ha).elim (fun z=>.inl z) fun z=>.inr (e2.free z)⟩⟩
 induction x using zB with
 |true=>rw[f_ rfl]at k ⊢;exact go k
 |false=>rw[d_ B_]at k ⊢;exact go k
theorem C6:PA X [] (Qb X.K fun τ=>.ok ([],τ)):=oN iK fun σ H Q ⟨F,τ,f,IK,r,nd,q⟩=>q.ok [] H F [] f ⟨.refl,IK,.nil,r,nd,fun a ha=>.inl ha⟩
theorem Ad (hn:notStar e=Θ)(ha:PE X e (RO X.K ga))(hr:PA X l (Qb X.K gs)) :
  PA X (e::l) (Qb X.K fun τ=>Hn (ga τ) fun p=>Hn (gs p.2) fun q=>.ok (p.1::q.1,q.2)):=by
 refine oN (ip ha hr (fD hn _ _)) fun σ H Q ⟨F,τ,f,IK,r,nd,q⟩=>⟨F,τ,f,IK,r,nd,(Hw.Hn q).mono fun p hp v H1 F1 fv f1 o=>?_⟩
 refine⟨F1,p.2,f1,o.IK,o.Jg,(r_.mp o.Je).2.1,(Hw.Hn hp).mono fun p' NG vs H2 F2 fvs f2 o2=>?_⟩;have Qc:∀a∈fv,a∉f1:=fun a h1 h2=>(r_.mp o.Je).2.2 a h1 a h2 rfl;have m2:=o.rep.KA o2.KA Qc;refine NG.ok (v::vs) H2 F2 (fv++fvs) f2 ⟨o.KA.trans o2.KA (fun x hx=>o.mem x (v_ _ hx)),o2.IK,.cons m2 o2.rep,o2.Jg,?_,fun a ha=>?_⟩
 ·rw[H_];refine r_.mpr ⟨(r_.mp o.Je).1,o2.Je,fun a h1 b h2 e=>?_⟩;subst e;rcases o2.mem a h2 with z|z
  ·exact Qc a h1 z
  ·obtain⟨_,xs,e⟩:=o.rep.own a h1;rw[z]at e;cases e
 ·rw[H_]at ha;rcases s_.mp ha with ha|ha
  ·exact o.mem a (t_ _ ha)
  ·rcases o2.mem a ha with z|z
   ·exact o.mem a (v_ _ z)
   ·exact .inr (o.KA.same.free z)
end
section
variable {Z:Sg}{CX:JD}{cl:Nat->List D->Res D}{X:Cx}{G:Gm}
def VC (K:Frag)(cl:Nat->List D->Res D)(f:Nat)(vs:List V)(H:Hp)(Q:VK):Prop:=∃F ds,K0 F H/\Hq K F H vs ds/\Hw (cl f (HC ds)) fun d=>∀v H' F' fv,Out K F H F' H' v d fv->Q v H'
theorem xc (g:IV Z CX cl X G)  (h1:mZ Z G f x=Θ)(h2:Z.N3 G f=Θ)(Jj:iM Z G es args=Θ)(h:PA X args t)
  (h0:args=[]->∀σ H (Q:List V->Hp->Prop),t σ H Q->Q [] H):PE X (.Call (.Name x p) args [] pos) (fun σ H Q=>t σ H fun vs H1=>VC X.K cl f vs H1 Q):=by
 obtain⟨k1,k2,k3,k4⟩:=wR g h1;obtain⟨k,Vu,fd,ps,hm,ND,hb,F,hr,hlen⟩:=(g.fns f (pj h2).1 (pj h2).2 x k2).ex;obtain⟨E,hP⟩:=g.P7;intro pins s σ H Q I q;have fin:∀(us:List Ψ) (s1:Α) (vs:List V) (H1:Hp),Inv X pins σ H1 s1->Vals vs us->VC X.K cl f vs H1 Q->Κ (Μ X.prog X.w) X.A (call (.ref Vu) us) (EP X pins σ Q) X.xe s1:=by
  intro us s1 vs H1 I1 r ⟨Fc,ds,IK,m,q1⟩;have hl:=hlen _ _ q1;rw[jQ]at hl;refine sS F hr hb hP g.Mi I1 r (by rw[m.length];exact hl) IK m ?_;cases z:cl f (HC ds) with
  |error er=>rw[z]at q1;cases er;exact q1.no.elim
  |ok d=>rw[z]at q1;exact q1.ok
 refine aau (oH I k1 hm ?_ k4)
 induction args using zL with
 |nil=>
  induction es using zL with
  |cons _ _=>cases Jj
  |nil=>exact PySem.W.callWith_K0 I.Lg ND (fin [] s [] H I .nil (h0 rfl σ H _ q))
 |cons e l=>
  induction es using zL with
  |nil=>cases Jj
  |cons a es=>have Ja:(notStar e&&HE Z G a e&&iM Z G es l)=Θ:=Jj;simp only[h_]at Ja;refine PySem.W.callWith_K (h₀:=X.base) I.ok.mod.S6 ND (IG (h pos pins s σ H _ I q) fun us s1 ⟨vs,H1,I1,r,q1⟩=>⟨I1.Lg,?_⟩) (fD Ja.1.1 l X.env) (jb Z G (es:=es) pos X.env Ja.2);exact fin us s1 vs H1 I1 r q1
theorem IA.Mc {K:Frag}{F F':Ω->Prop}{H:Hp}{v:V}{d:D}{fv:List Ω}(m:IA K F H v d fv)(n:hE d=Θ):IA K F' H v d []:=(m.read (S:=fun _=>True) (fun _ _=>trivial) fun _ _=>trivial).free n
theorem Hd (g:IV Z CX cl X G)  (h1:mZ Z G f x=Θ)(h2:Z.N3 G f=Θ)(Jj:iM Z G es args=Θ)(mv:Bool) :
  PE X (.Call (.Name x p) args [] pos) (RO X.K (Jd cl mv (.call f es))):=by
 have pa:=qx es X G args g Jj
 have pe:=xc (p:=p) (pos:=pos) g h1 h2 Jj pa (fun e σ H Q ⟨S,τ,hs,q⟩=>by
  subst e
  induction es using zL with
  |nil=>exact q.ok [] H (.refl _) .nil
  |cons _ _=>cases Jj)
 refine hG pe fun σ H Q ⟨F,τ,fo,IK,r,nd,q⟩=>?_;have q':Hw (Hn (iQ cl es τ) fun ds=>Hn (cl f (HC ds)) fun d=>if hE d=Θ then .ok (d,τ) else .ok (d,IH (hU es) τ)) (fun p=>∀v H' F' fv f',Ow X.K F H fo F' H' σ v p.1 fv p.2 f'->Q v H'):=q
 -- read without VD up
 have borrow:(∀ds,iQ cl es τ=.ok ds->Hw (cl f (HC ds)) fun d=>hE d=Θ/\∀v H' F' fv f',Ow X.K F H fo F' H' σ v d fv τ f'->Q v H')->Hw (iQ cl es τ) (fun _=>True)->RA X.K (hU es) (iQ cl es) σ H (fun vs H1=>VC X.K cl f vs H1 Q):=by intro hk IF;refine qt (.refl _) (iN r) IF.eq fun ds vs H1 e1 _ m1 q1=>?_;refine⟨fun a=>H1 a≠Φ,ds,fun a h=>h,m1.step (fun a xs h rd=>⟨rd.some,rd⟩) fun a xs h=>h,(hk ds q1.1).mono fun d hd v H' F' fv o=>?_⟩;obtain⟨k1,k2,k3⟩:=kO IK r (e1.trans o.same);exact hd.2 v H' F [] fo ⟨k3,k1,o.rep.Mc hd.1,k2,by simpa using nd,fun a ha=>.inl (by simpa using ha)⟩
 cases z:iQ cl es τ with
 |error er=>rw[z]at q';cases er;exact q'.no.elim
 |ok ds=>
  rw[z]at q';have q1:Hw (Hn (cl f (HC ds)) fun d=>if hE d=Θ then .ok (d,τ) else .ok (d,IH (hU es) τ)) (fun p=>∀v H' F' fv f',Ow X.K F H fo F' H' σ v p.1 fv p.2 f'->Q v H'):=q';cases zc:cl f (HC ds) with
  |error er=>rw[zc]at q1;cases er;exact q1.no.elim
  |ok d=>
   rw[zc]at q1;have q2:Hw (if hE d=Θ then .ok (d,τ) else .ok (d,IH (hU es) τ)) (fun p=>∀v H' F' fv f',Ow X.K F H fo F' H' σ v p.1 fv p.2 f'->Q v H'):=q1;by_cases hl:hE d=Θ
   ·rw[f_ hl]at q2;exact borrow (fun ds' h=>by rw[z]at h;cases h;rw[zc];exact⟨hl,q2.ok⟩) (by rw[z];trivial)
   ·rw[d_ hl]at q2;obtain⟨F1,gg,b1,b2,b3,b4,b5,b6⟩:=kg (hU es) IK r nd;refine qt (Kt:=fun ds'=>ds'=ds) (.refl _) b6 (by rw[z];rfl) fun ds' vs H1 e1 _ m1 e=>?_;subst e;have hm:Hq X.K (fun a=>F1 a∨(True/\H a=Φ/\H1 a≠Φ)) H1 vs ds':=m1.step (fun a xs h r=>⟨h.elim (fun z=>.inl z) fun z=>.inr ⟨trivial,z,r.some⟩,r⟩) fun a xs h=>h;obtain⟨c1,c2,c3⟩:=grow (fun _=>True) b1 b2 e1;refine⟨_,ds',c1,hm,?_⟩;rw[zc];intro v H' F' fv o;have s1:Ly (fun a=>F1 a∨(True/\H a=Φ/\H1 a≠Φ)) H1 gg F' H':=⟨o.same,o.J6,fun a h=>(o.out a h).elim (fun z=>.inl z) fun z=>.inr (.inr z)⟩
    have r2:IM X.K F' H' σ (IH (hU es) τ) gg:=c2.step (fun a xs q rd=>⟨o.J6 a q,o.same.rd rd⟩) (fun a xs q=>o.same.Km q) fun a ha n hn=>by
     obtain⟨_,xs,e⟩:=c2.own a ha;refine⟨fun z=>?_,(o.same _ _ e).trans e.symm⟩;rcases o.out a z with z|z
     ·exact n z
     ·exact hn z
    refine q2.ok v H' F' fv gg ⟨(b4.trans c3 (fun x hx=>.inl (b5 x hx))).trans s1 (fun x hx=>.inl (b5 x hx)),o.IK,o.rep,r2,?_,fun a ha=>?_⟩
    ·refine r_.mpr ⟨o.Je,b3,fun a h1 b h2 e=>?_⟩;subst e;obtain⟨_,xs,e⟩:=c2.own a h2;rw[o.new a h1]at e;cases e
    ·rcases s_.mp ha with ha|ha
     ·exact .inr (e1.free (o.new a ha))
     ·exact .inl (b5 a ha)
theorem iH (he:PE X e (RD X.K (vars a) (HA cl a)))(hN:ik a=Θ->PE X e (RN X.K (vars a) fun τ=>Hn (HA cl a τ) j5)):PE X e (RO X.K fun τ=>Hn (HA cl a τ) fun d=>.ok (iw a d τ)):=by
 intro pins s σ H Q I h;obtain⟨F,τ,fo,IK,r,nd,q⟩:=h
 replace q:Hw (Hn (HA cl a τ) fun d=>.ok (iw a d τ)) (fun p=>∀v H' F' fv f',Ow X.K F H fo F' H' σ v p.1 fv p.2 f'->Q v H'):=q
 have rd:RD X.K (vars a) (HA cl a) σ H Q->Κ (Μ X.prog X.w) X.A (eval e X.env) (EP X pins σ Q) X.xe s:=fun h=>he pins s σ H Q I h;cases z:HA cl a τ with
 |error er=>rw[z]at q;cases er;exact q.no.elim
 |ok d=>
  rw[z]at q;have q1:∀v H' F' fv f',Ow X.K F H fo F' H' σ v (iw a d τ).1 fv (iw a d τ).2 f'->Q v H':=q;by_cases hl:hE d=Θ
  ·unfold iw at q1;rw[f_ hl]at q1;refine rd ⟨fun _=>True,τ,iN r,?_⟩;rw[z];intro v H' e m;obtain⟨k1,k2,k3⟩:=kO IK r e;exact q1 v H' F [] fo ⟨k3,k1,m.free hl,k2,by simpa using nd,fun a ha=>.inl (by simpa using ha)⟩
  ·have other:iw a d τ=(er d,IH (vars a) τ)->Κ (Μ X.prog X.w) X.A (eval e X.env) (EP X pins σ Q) X.xe s:=fun hk=>by rw[hk]at q1;obtain⟨F1,gg,b1,b2,b3,b4,b5,b6⟩:=kg (vars a) IK r nd;refine rd ⟨F1,τ,b6,?_⟩;rw[z];intro v H' e m;obtain⟨c1,c2,c3⟩:=grow (fun _=>True) b1 b2 e;exact q1 v H' _ [] gg ⟨b4.trans c3 (fun x hx=>.inl (b5 x hx)),c1,m.fix.frozen,c2,by simpa using b3,fun a ha=>.inl (b5 a (by simpa using ha))⟩
   by_cases hn:ik a=Θ
   ·induction d using zD with
    |lst o ds=>
     by_cases hi:gW ds=Θ
     ·have hk:iw a (.lst o ds) τ=(.lst Θ ds,τ):=by unfold iw;rw[d_ hl,hn];show(if gW ds=Θ then _ else _)=_;rw[f_ hi]
      rw[hk]at q1;refine hN hn pins s σ H Q I ⟨fun _=>True,τ,iN r,?_⟩;show Hw (Hn (HA cl a τ) j5) _;rw[z];intro p ys H' e hp hy m;obtain⟨k1,k2,k3⟩:=kO IK r e;refine q1 (.ref p) H' F [p] fo ⟨k3,k1,.Jl (fun zz=>IK p zz hp) hy (m.free hi),k2,?_,fun a ha=>?_⟩
      ·rw[aaC,L_];refine⟨fun zz=>?_,nd⟩;obtain⟨_,xs,e⟩:=r.own p zz;rw[hp]at e;cases e
      ·rw[aaC]at ha;rcases k_.mp ha with rfl|ha
       ·exact .inr hp
       ·exact .inl ha
     ·have hk:iw a (.lst o ds) τ=(.lst Θ (HC ds),IH (vars a) τ):=by unfold iw;rw[d_ hl,hn];show(if gW ds=Θ then _ else _)=_;rw[d_ hi]
      rw[hk]at q1;obtain⟨F1,gg,b1,b2,b3,b4,b5,b6⟩:=kg (vars a) IK r nd;refine hN hn pins s σ H Q I ⟨F1,τ,b6,?_⟩;show Hw (Hn (HA cl a τ) j5) _;rw[z];intro p ys H' e hp hy m;obtain⟨c1,c2,c3⟩:=grow (fun a=>a≠p) b1 b2 e;have m2:Hq X.K (fun a=>F1 a∨(a≠p/\H a=Φ/\H' a≠Φ)) H' ys ds:=m.step (fun a xs h r=>⟨h.1.elim (fun z=>.inl z) fun z=>.inr ⟨h.2,z,r.some⟩,r⟩) fun a xs h=>h;refine q1 (.ref p) H' _ [p] gg ⟨b4.trans c3 (fun x hx=>.inl (b5 x hx)),c1,.Jl (fun zz=>?_) hy m2.frozen,c2,?_,fun a ha=>?_⟩
      ·rcases zz with zz|zz
       ·exact b1 p zz hp
       ·exact zz.1 rfl
      ·rw[aaC,L_];refine⟨fun zz=>?_,b3⟩;obtain⟨_,xs,e⟩:=b2.own p zz;rw[hp]at e;cases e
      ·rw[aaC]at ha;rcases k_.mp ha with rfl|ha
       ·exact .inr hp
       ·exact .inl (b5 a ha)
    |_=>refine other ?_;unfold iw;rw[d_ hl,hn]
   ·have J8:ik a=Ξ:=by simpa using hn
    refine other ?_;unfold iw;rw[d_ hl,J8]
theorem Fi (ha:PE X a (RD X.K va fa))(hb:PE X b (RD X.K vb fb)) :
  PE X (.BinOp a .Add b pos) (RN X.K (va++vb) fun τ=>Hn (Hn (fa τ) fun x=>Hn (fb τ) fun y=>J1 .add x y) j5):=by
 refine hG (sd ph ha hb) fun σ H Q ⟨S,τ,hs,q⟩=>?_;refine iq (.refl _) hs.left (Hw.Hn (Hw.Hn q)) fun x v H1 e1 _ m1 q1=>?_;refine iq e1 hs.right (Hw.Hn q1) fun y w H2 e2 Js m2 q2=>?_;have stuck:∀ {P:Prop},J1 .add x y=Ir->P:=fun z=>by rw[z]at q2;exact q2.no.elim
 induction x using zD with
 |int a=>induction y using zD with
  |int b=>exact q2.ok.no.elim
  |_=>exact stuck rfl
 |str a=>induction y using zD with
  |str b=>exact(Hw.HB q2).2.ok.no.elim
  |_=>exact stuck rfl
 |lst o a=>induction y using zD with
  |lst o' b=>obtain⟨p,xs,rfl,h1,n1⟩:=m1.Ny;obtain⟨p',ys,rfl,h2,n2⟩:=m2.Ny;obtain⟨gd,q3⟩:=Hw.HB q2;have g':=i6 gd;have l1:=n1.length;have l2:=n2.length;have O6:Ls X.K H2 p xs:=h1.elim (fun z=>.inl (Js.rd z)) .inr;exact⟨p,p',xs,ys,rfl,rfl,O6,h2,by omega,fun z hz=>q3.ok.ok z _ _ (e2.trans (.upd hz)) (e2.free hz) gZ (Ac ((n1.later Js).append n2) hz)⟩
  |_=>exact stuck rfl
 |_=>exact stuck rfl
theorem Fj (ha:PE X a (RD X.K va fa))(hb:PE X b (RD X.K vb fb)) :
  PE X (.BinOp a .Mult b pos) (RN X.K (va++vb) fun τ=>Hn (Hn (fa τ) fun x=>Hn (fb τ) fun y=>J1 .mul x y) j5):=by
 refine hG (sd zK ha hb) fun σ H Q ⟨S,τ,hs,q⟩=>?_;refine iq (.refl _) hs.left (Hw.Hn (Hw.Hn q)) fun x v H1 e1 _ m1 q1=>?_;refine iq e1 hs.right (Hw.Hn q1) fun y w H2 e2 Js m2 q2=>?_;have stuck:∀ {P:Prop},J1 .mul x y=Ir->P:=fun z=>by rw[z]at q2;exact q2.no.elim
 induction y using zD with
 |int b=>
  cases m2
  induction x using zD with
  |int a=>exact(Hw.HB q2).2.ok.no.elim
  |str a=>exact(Hw.HB q2).2.ok.no.elim
  |_=>exact stuck rfl
 |_=>induction x using zD<;>exact stuck rfl
theorem G3 {a:Expr}{lo hi:Option Expr}{pos p2:Pos}{va vl vh:List Nat}{fa:Ev->Res D}{fl fh:Ev->Res (Option Int)}(ha:PE X a (RD X.K va fa))(hl:PO X lo (P9 X.K vl fl))(hh:PO X hi (P9 X.K vh fh)) :
  PE X (.Subscript a (.Slice lo hi Φ p2) pos) (RN X.K (va++vl++vh) fun τ=>Hn (Hn (fa τ) fun x=>Hn (fl τ) fun l=>Hn (fh τ) fun h=>qe x l h) j5):=by
 refine hG (pS si ha hl hh) fun σ H Q ⟨S,τ,hs,q⟩=>?_;refine iq (.refl _) hs.left.left (Hw.Hn (Hw.Hn q)) fun x v H1 e1 _ m1 q1=>?_;refine zW e1 hs.left.right (Hw.Hn q1) fun l H2 e2 Js q2=>?_;refine zW e2 hs.right (Hw.Hn q2) fun h H3 e3 N5 q3=>?_
 induction x using zD with
 |lst o ds=>obtain⟨p,xs,rfl,h1,n1⟩:=m1.IZ;exact⟨p,xs,rfl,(Js.trans N5).seq h1,fun z hz=>q3.ok.ok z _ _ (e3.trans (.upd hz)) (e3.free hz) gZ (Ac (sM l h (n1.later (Js.trans N5))) hz)⟩
 |str _=>exact(Hw.HB q3).2.ok.no.elim
 |_=>exact q3.no.elim
theorem nM (hc:X.calm=Θ):ji X (.type "list") (fun xs H Q=>(∃p ys,xs=[.ref p]/\(Jo X.K H p ys∨IP X.K H p ys)/\∀l,H l=Φ->Q (.ref l) (upd H l (.lst ys)))∨∃(p:Ω) (kvs:List (Key×V)),xs=[.ref p]/\Rd H p (.dK kvs)/\∀l,H l=Φ->Q (.ref l) (upd H l (.lst (kvs.map fun q=>kV q.1)))):=by
 intro pins s σ H xs us Q I r h;rcases h with h|h
 ·exact kA pins s σ H xs us Q I r h
 ·exact mO hc pins s σ H xs us Q I r h
theorem C7 (g:IV Z CX cl X G)  (h1:G.Kb 5=Θ)(h2:G.gl.contains 15=Θ)(hn:notStar e=Θ)(ha:PE X e (RD X.K va fa)) :
  PE X (.Call (.Name "list" p) [.Call (.Name "range" p') [e] [] pos'] [] pos) (RN X.K va fun τ=>Hn (Hn (fa τ) qi) j5):=by
 obtain⟨k1,k2,k3,k4⟩:=i9 g (show iA[5]? = Δ ("list" : Str) from rfl) (lF h1);obtain⟨j1,j2,j3,j4⟩:=i9 g (show iA[15]? = Δ ("range" : Str) from rfl) h2;refine hG (sC (g.calm (lG h1)) k1 k2 j1 j2 ha fun es=>fD hn es X.env) fun σ H Q ⟨S,τ,hs,q⟩=>?_;refine iq (.refl _) hs (Hw.Hn (Hw.Hn q)) fun x v H1 e1 _ m1 q1=>?_
 induction x using zD with
 |int n=>cases m1.ID;obtain⟨gd,q1⟩:=Hw.HB q1;have ME:0<=n/\n<=1000:=q_ gd;refine⟨n.toNat,by rw[Int.toNat_of_nonneg ME.1],by omega,fun l hl=>?_⟩;have q2:Kn X.K S H Q ((List.range n.toNat).map fun k=>D.int (k:Nat)):=q1.ok;refine q2 l _ _ (e1.trans (.upd hl)) (by cases z:H l with|none=>rfl|some o=>rw[e1 l o z]at hl;cases hl) gZ ?_;rw[(kL _).1,(kL _).2];exact Hq.ofInts _
 |_=>exact q1.no.elim
theorem C8 (g:IV Z CX cl X G)  (hg:G.Kb (og .list)=Θ)(Jj:iM Z G es (a::args)=Θ)(h:PA X (a::args) (RA X.K (hU es) (iQ cl es))) :
  PE X (.Call (.Name (jT .list) p) (a::args) [] pos) (RN X.K (hU es) fun τ=>Hn (Hn (iQ cl es τ) fun ds=>jr .list ds) j5):=by
 obtain⟨k1,k2,k3,k4⟩:=i9 g (wN .list) (lF hg)
 induction es using zL with
 |nil=>cases Jj
 |cons b es=>
  have Ja:(notStar a&&HE Z G b a&&iM Z G es args)=Θ:=Jj;simp only[h_]at Ja;refine hG (kY (nM (g.calm (lG hg))) k1 k2 (sN .list) h k3 k4 (fD Ja.1.1 args X.env) (jb Z G (es:=es) pos X.env Ja.2)) fun σ H Q ⟨S,τ,hs,q⟩=>?_;refine qt (.refl _) hs (Hw.Hn (Hw.Hn q)) fun ds vs H1 e1 _ m1 q1=>?_;have stuck:∀ {P:Prop},jr .list ds=Ir->P:=fun z=>by rw[z]at q1;exact q1.no.elim
  match ds,m1 with
  |[],_=>exact stuck rfl
  |d::_::_,_=>exact stuck (by induction d using zD<;>rfl)
  |[d],m1=>
   obtain⟨x,rfl,hd⟩:=m1.OV
   induction d using zD with
   |lst o ds=>obtain⟨a,ys,rfl,q',m⟩:=hd.IZ;exact .inl ⟨a,ys,rfl,.inl q',fun z hz=>q1.ok.ok z _ _ (e1.trans (.upd hz)) (e1.free hz) gZ (Ac m hz)⟩
   |IE o ks ds=>
    cases hd with
    |IE h0 h1 h2 h3=>subst h2;exact .inr ⟨_,_,rfl,h1,fun l hl=>q1.ok.ok l _ _ (e1.trans (.upd hl)) (e1.free hl) gZ (Ac (kJ _) hl)⟩
   |_=>exact stuck rfl
end
section
variable {Z:Sg}{CX:JD}{cl:Nat->List D->Res D}
theorem kP (g:IV Z CX cl X G)  (h:jw G i x=Θ):PE X (.Name x pos) (BO i):=by
 unfold jw at h;rw[h_]at h;have hx:G.N[i]? = Δ x:=i_ h.1;have hk:=g.kd i x hx;have hv:Qx X.env.scope x:=by
  have h2:=h.2;rw[aaf,aaf]at h2;rcases h2 with(h2|h2)|h2
  ·exact .inl (hk.trans (i_ h2))
  ·exact .inr (.inl (hk.trans (i_ h2)))
  ·exact .inr (.inr (hk.trans (i_ h2)))
 exact u6 (i:=i) (by rw[g.N];exact hx) hv (g.MD i x hx).1 (g.MD i x hx).2
theorem C9 (g:IV Z CX cl X G)  (hs:Lw Z G scope G' fr)(hT:i8 G' T tg=Θ)(ha:∀i∈J5 T,fr.length<=i)
  (hi:jx Z G s iter=Θ/\lH s tg=Θ) (ht:iM Z G' I ifs=Θ) (he:HE Z G' E elt=Θ) :
  PE X (.ListComp elt [⟨tg,iter,ifs,0⟩] scope pos) (RN X.K (vars (.comp G' fr T s I E)) fun τ=>Hn (HA cl (.comp G' fr T s I E) τ) j5):=by
 intro pins s' σ H Q Iv h;obtain⟨Ju,S⟩:=kc g Iv.ok hs;have p:=oQ (pos:=pos) (elt:=elt) (ifs:=ifs) (tg:=tg) (g:=gT X.K T) (tt:=RT X.K (hU I) (jX cl I)) (te:=RD X.K (vars E) (HA cl E)) (g.calm hs.cm) S (xb s X G iter tg g hi.1 hi.2) (fun C s H fp=>N6 (iU g hs Ju C s H fp) T tg hT)
  (fun C s H fp=>w8 I _ G' ifs (iU g hs Ju C s H fp) ht) (fun C s H fp=>(snd E _ G' elt (iU g hs Ju C s H fp) he).1) (fun x=>jd hi.1 X.env x)
 refine p pins s' σ H Q Iv ?_;obtain⟨S0,τ,KR,q⟩:=h;have q':=Hw.Hn (show Hw (Hn (HA cl (.comp G' fr T s I E) τ) j5) _ from q);rw[ng]at q';exact ke hs.TH ha KR q' fun A ys ds H' e hA NF m k=>k.ok A ys H' e hA NF m
theorem Kr:∀(a:IR) (X:Cx) (G:Gm) (e:Expr),IV Z CX cl X G->HE Z G a e=Θ->ik a=Θ->PE X e (RN X.K (vars a) fun τ=>Hn (HA cl a τ) j5):=by
 intro a X G e g h n;cases a with
 |bin op a b=>
  cases op with
  |add=>
   induction e using zE with
   |BinOp l o r pos=>have h':(o == NB .add&&HE Z G a l&&HE Z G b r)=Θ:=h;simp only[h_]at h';have e1:o=NB .add:=i_ h'.1.1;subst e1;exact Fi (snd a X G l g h'.1.2).1 (snd b X G r g h'.2).1
   |_=>exists h
  |mul=>
   induction e using zE with
   |BinOp l o r pos=>have h':(o == NB .mul&&HE Z G a l&&HE Z G b r)=Θ:=h;simp only[h_]at h';have e1:o=NB .mul:=i_ h'.1.1;subst e1;exact Fj (snd a X G l g h'.1.2).1 (snd b X G r g h'.2).1
   |_=>exists h
  |_=>cases n
 |sl a lo hi=>
  induction e using zE with
  |Subscript o s pos=>
   induction s using zE with
   |Slice l u st p=>
    induction st using zO with
    |none=>have h':(HE Z G a o&&rE Z G lo l&&rE Z G hi u)=Θ:=h;simp only[h_]at h';exact G3 (snd a X G o g h'.1.1).1 (Ab lo X G l g h'.1.2) (Ab hi X G u g h'.2)
    |some _=>exists h
   |_=>exists h
  |_=>exists h
 |bi f es=>
  cases f with
  |list=>
   induction e using zE with
   |Call fn args J2 pos=>
    induction fn using zE with
    |Name x p=>
     induction J2 using zL with
     |nil=>
      induction args using zL with
      |nil=>exists h
      |cons a args=>have h':(x == jT .list&&G.Kb (og .list)&&iM Z G es (a::args))=Θ:=h;simp only[h_]at h';have e1:x=jT .list:=i_ h'.1.1;subst e1;exact C8 g h'.1.2 h'.2 (qx es X G _ g h'.2)
     |cons _ _=>cases args<;>exists h
    |_=>exists h
   |_=>exists h
  |_=>cases n
 |JU a=>
  have h:N4 e (fun x y e=>x == "list"&&G.Kb 5&&y == "range"&&G.gl.contains 15&&notStar e&&HE Z G a e)=Θ:=by induction e using zE<;>exact h
  obtain⟨x,p,y,p',e',pos',pos,rfl,h⟩:=pq h;have h:(x == "list"&&G.Kb 5&&y == "range"&&G.gl.contains 15&&notStar e'&&HE Z G a e')=Θ:=h;simp only[h_]at h;have e1:x = "list":=i_ h.1.1.1.1.1;have e2:y = "range":=i_ h.1.1.1.2;subst e1 e2;exact C7 g h.1.1.1.1.2 h.1.1.2 h.1.2 (snd a X G e' g h.2).1
 |comp G' fr tg src ifs elt=>
  induction e using zE with
  |ListComp el gens scope pos=>have h:rD gens (fun t it fs=>iW Z G scope G' fr&&i8 G' tg t&&(J5 tg).all (fun i=>decide (fr.length<=i))&&(jx Z G src it&&lH src t)&&iM Z G' ifs fs&&HE Z G' elt el)=Θ:=h;obtain⟨t,it,fs,rfl,h⟩:=mi h;have h':(iW Z G scope G' fr&&i8 G' tg t&&(J5 tg).all (fun i=>decide (fr.length<=i))&&(jx Z G src it&&lH src t)&&iM Z G' ifs fs&&HE Z G' elt el)=Θ:=h;simp only[h_]at h';exact C9 g (mj h'.1.1.1.1.1) h'.1.1.1.1.2 (fun i hi=>q_ (W_.mp h'.1.1.1.2 i hi)) h'.1.1.2 h'.1.2 h'.2
  |_=>exists h
 |_=>cases n
theorem He (mv:Bool):PE X (.Dict [] [] pos) (RO X.K (Jd cl mv .Kp)):=by
 refine hG pX fun σ H Q ⟨F,τ,fo,IK,r,nd,q⟩=>fun p hp=>?_;have q':∀v H' F' fv f',Ow X.K F H fo F' H' σ v (.IE Θ [] []) fv τ f'->Q v H':=q;have e:g7 H (upd H p (.dK [])):=.upd hp;obtain⟨k1,k2,k3⟩:=kO IK r e;have nF:¬F p:=fun z=>IK p z hp;have nfo:p∉fo:=fun z=>by obtain⟨_,u,eu⟩:=r.own p z;rw[hp]at eu;cases eu
 exact q' _ _ F [p] fo ⟨k3,k1,.My (kvs:=[]) nF gZ rfl .nil,k2,by rw[aaC,L_];exact⟨nfo,nd⟩,fun a ha=>by
  rcases s_.mp ha with ha|ha
  ·rw[o_.mp ha];exact .inr hp
  ·exact .inl ha⟩
mutual
theorem O7:∀(a:IR) (mv:Bool) (X:Cx) (G:Gm) (e:Expr),IV Z CX cl X G->HE Z G a e=Θ->PE X e (RO X.K (Jd cl mv a))
 |.v i,mv,X,G,e,g,h=>by
  induction e using zE with
  |Name x pos=>exact HF (kP g h) mv
  |_=>exists h
 |.tup es,mv,X,G,e,g,h=>by
  induction e using zE with
  |Tuple l n pos=>exact Hr (Dc es mv X G l g h)
  |_=>exists h
 |.lst es,mv,X,G,e,g,h=>by
  induction e using zE with
  |List l pos=>exact Ht (Dc es mv X G l g h)
  |_=>exists h
 |.ite t a b,mv,X,G,e,g,h=>by
  induction e using zE with
  |IfExp c x y pos=>have h':(HE Z G t c&&HE Z G a x&&HE Z G b y)=Θ:=h;simp only[h_]at h';exact Hu (snd t X G c g h'.1.1).2 (O7 a mv X G x g h'.1.2) (O7 b mv X G y g h'.2)
  |_=>exists h
 |.call f es,mv,X,G,e,g,h=>by
  induction e using zE with
  |Call fn args J2 pos=>
   induction fn using zE with
   |Name x p=>
    induction J2 using zL with
    |nil=>have h':(mZ Z G f x&&Z.N3 G f&&iM Z G es args)=Θ:=h;simp only[h_]at h';exact Hd g h'.1.1 h'.1.2 h'.2 mv
    |cons _ _=>exists h
   |_=>exists h
  |_=>exists h
 |.c d,mv,X,G,e,g,h=>iH (snd _ X G e g h).1 (Kr _ X G e g h)
 |.g n d,mv,X,G,e,g,h=>iH (snd _ X G e g h).1 (Kr _ X G e g h)
 |.bin op a b,mv,X,G,e,g,h=>iH (snd _ X G e g h).1 (Kr _ X G e g h)
 |.neg a,mv,X,G,e,g,h=>iH (snd _ X G e g h).1 (Kr _ X G e g h)
 |.cmp op a b,mv,X,G,e,g,h=>iH (snd _ X G e g h).1 (Kr _ X G e g h)
 |.chain op Jr a b c,mv,X,G,e,g,h=>iH (snd _ X G e g h).1 (Kr _ X G e g h)
 |.Jb a b,mv,X,G,e,g,h=>iH (snd _ X G e g h).1 (Kr _ X G e g h)
 |.KZ a b,mv,X,G,e,g,h=>iH (snd _ X G e g h).1 (Kr _ X G e g h)
 |.JT a,mv,X,G,e,g,h=>iH (snd _ X G e g h).1 (Kr _ X G e g h)
 |.idx a i,mv,X,G,e,g,h=>iH (snd _ X G e g h).1 (Kr _ X G e g h)
 |.sl a lo hi,mv,X,G,e,g,h=>iH (snd _ X G e g h).1 (Kr _ X G e g h)
 |.bi f es,mv,X,G,e,g,h=>iH (snd _ X G e g h).1 (Kr _ X G e g h)
 |.Ke a k,mv,X,G,e,g,h=>iH (snd _ X G e g h).1 (Kr _ X G e g h)
 |.Lu a b,mv,X,G,e,g,h=>iH (snd _ X G e g h).1 (Kr _ X G e g h)
 |.K9 a k,mv,X,G,e,g,h=>iH (snd _ X G e g h).1 (Kr _ X G e g h)
 |.sset a,mv,X,G,e,g,h=>iH (snd _ X G e g h).1 (Kr _ X G e g h)
 |.Kp,mv,X,G,e,g,h=>by
  have h:Tz e=Θ:=by induction e using zE<;>exact h
  obtain⟨pos,rfl⟩:=wQ h;exact He mv
 |.JE a,mv,X,G,e,g,h=>iH (snd _ X G e g h).1 (Kr _ X G e g h)
 |.JU a,mv,X,G,e,g,h=>iH (snd _ X G e g h).1 (Kr _ X G e g h)
 |.J0 a b,mv,X,G,e,g,h=>iH (snd _ X G e g h).1 (Kr _ X G e g h)
 |.MX m o es,mv,X,G,e,g,h=>iH (snd _ X G e g h).1 (Kr _ X G e g h)
 |.comp G' fr tg src ifs elt,mv,X,G,e,g,h=>iH (snd _ X G e g h).1 (Kr _ X G e g h)
theorem Dc:∀(as:List IR) (mv:Bool) (X:Cx) (G:Gm) (l:List Expr),IV Z CX cl X G->iM Z G as l=Θ->PA X l (Qb X.K (nL cl mv as))
 |[],mv,X,G,l,g,h=>by
  induction l using zL with
  |nil=>exact C6
  |cons _ _=>exists h
 |a::as,mv,X,G,l,g,h=>by
  induction l using zL with
  |nil=>exists h
  |cons e l=>have h':(notStar e&&HE Z G a e&&iM Z G as l)=Θ:=h;simp only[h_]at h';exact Ad h'.1.1 (O7 a mv X G e g h'.1.2) (Dc as mv X G l g h'.2)
end
end
structure Bs (io:Option Nat) where
 F:Ω->Prop
 H:Hp
 L:Ω->LD->Prop
 T:Ω->List V->Prop
 N:Option Ω:=Φ
structure IX (K:Frag){io:Option Nat}(B:Bs io)(F:Ω->Prop)(H:Hp)(σ:St)(τ:Ev)(f:List Ω):Prop where
 IK:K0 F H
 Jg:IM K F H σ τ f
 Je:f.Nodup
 same:g7 B.H H
 own:∀a∈f,B.H a=Φ
 J6:∀a,B.F a->F a
 out:∀a,F a->B.F a∨B.H a=Φ
 pin:∀a xs,B.L a xs->F a/\Rd H a xs.o
 MG:∀a xs,B.T a xs->IP K H a xs
 nm:∀j a,io=Δ j->B.N=Δ a->σ[j]? = Δ (Δ (.ref a))
def Fk (K:Frag){io:Option Nat}(B:Bs io)(Dn:Ends):Fl->Prop
 |.nx τ=>∀σ H F f,IX K B F H σ τ f->Dn.nx σ H
 |.bk τ=>∀σ H F f,IX K B F H σ τ f->Dn.bk σ H
 |.ct τ=>∀σ H F f,IX K B F H σ τ f->Dn.ct σ H
 |.rt d=>∀v H F fv,Out K B.F B.H F H v d fv->Dn.rt v H
 |.ri d ks es=>∀v H F fv kvs a,(∀a',B.N=Δ a'->a'=a)->Out K B.F B.H F H v d fv->¬F a->a∉fv->H a=Δ (.dK kvs)->kvs.map (·.1)=ks->Hq K F H (kvs.map (·.2)) es->Dn.rt v H
def RS (K:Frag)(io:Option Nat)(g:Ev->Res Fl):TS:=fun Dn σ H=>∃(B:Bs io),∃F τ f,IX K B F H σ τ f/\Hw (g τ) (Fk K B Dn)
section
variable {K:Frag}{io:Option Nat}{B:Bs io}{F F':Ω->Prop}{H H':Hp}{σ:St}{τ τ':Ev}{f f':List Ω}
theorem IX.KA (m:IX K B F H σ τ f)(s:Ly F H f F' H')(IK:K0 F' H')(r:IM K F' H' σ τ' f')(nd:f'.Nodup)(hm:∀a∈f',a∈f∨H a=Φ):IX K B F' H' σ τ' f' where
 IK:=IK
 Jg:=r
 Je:=nd
 same:=m.same.trans s.same
 own:=fun a ha=>(hm a ha).elim (m.own a) fun z=>m.same.free z
 J6:=fun a h=>s.J6 a (m.J6 a h)
 out:=fun a h=>by
  rcases s.out a h with h|h|h
  ·exact m.out a h
  ·exact .inr (m.own a h)
  ·exact .inr (m.same.free h)
 pin:=fun a xs h=>⟨s.J6 a (m.pin a xs h).1,s.same.rd (m.pin a xs h).2⟩
 MG:=fun a xs h=>s.same.Km (m.MG a xs h)
 nm:=m.nm
theorem IX.ow (m:IX K B F H σ τ f)(o:Ow K F H f F' H' σ v d fv τ' f'):IX K B F' H' σ τ' f'/\∀a∈fv,B.H a=Φ:=
 ⟨m.KA o.KA o.IK o.Jg (r_.mp o.Je).2.1 fun a ha=>o.mem a (v_ _ ha),fun a ha=>(o.mem a (t_ _ ha)).elim (m.own a) fun z=>m.same.free z⟩
theorem IX.grow (m:IX K B F H σ τ f)(e:g7 H H'):IX K B F H' σ τ f:=by obtain⟨k1,k2,k3⟩:=kO m.IK m.Jg e;exact m.KA k3 k1 k2 m.Je fun a ha=>.inl ha
theorem IX.ro (m:IX K B F H σ τ f)(h:Hw (g τ) Kt)(k:∀p v H' F' fv f',Ow K F H f F' H' σ v p.1 fv p.2 f'->Kt p->Q v H'):RO K g σ H Q:=
 ⟨F,τ,f,m.IK,m.Jg,m.Je,h.mono fun p hp v H' F' fv f' o=>k p v H' F' fv f' o hp⟩
theorem IX.rt (m:IX K B F H σ τ f)(h:Hw (g τ) Kt)(k:∀b H',IX K B F H' σ τ f->g7 H H'->Kt b->Q b H'):RT K is g σ H Q:=
 kj (.refl _) (iN m.Jg) h fun b H2 e2 _ hb=>k b H2 (m.grow e2) e2 hb
theorem IX.rd (m:IX K B F H σ τ f)(h:Hw (g τ) Kt)(k:∀d v H',IX K B F H' σ τ f->g7 H H'->Hx K (nw (fun _=>True) H) H' v d->Kt d->Q v H'):RD K is g σ H Q:=
 iq (.refl _) (iN m.Jg) h fun b v H2 e2 _ mv hb=>k b v H2 (m.grow e2) e2 mv hb
mutual
theorem xf:∀(t:Tg) {σ:St}{τ:Ev}{f:List Ω}{v:V}{d:D}{fv:List Ω}{Kt:Ev->Prop}{Q:St->Hp->Prop},IM K F H σ τ f->IA K F H v d fv->(fv++f).Nodup->Hw (jt t d τ) Kt->
  (∀τ' Iw f',IM K F H Iw τ' f'->f'.Nodup->(∀a∈f',a∈fv++f)->(∀j,j∉J5 t->Iw[j]? = σ[j]?)->Kt τ'->Q Iw H)->gT K t v σ H Q
 |.nm i,σ,τ,f,v,d,fv,Kt,Q,r,m,nd,h,k=>by obtain⟨g,h',r2,p2⟩:=r.put i m;have M3:(g++h').Nodup:=p2.nodup_iff.mpr nd;exact k (τ.set i (Δ d)) (σ.set i (Δ v)) g r2 (r_.mp M3).1 (fun a ha=>p2.mem_iff.mp (t_ _ ha)) (fun j hj=>aas (fun z=>hj (by rw[<- z];exact o_.mpr rfl))) h.ok
 |.tp ts,σ,τ,f,v,d,fv,Kt,Q,r,m,nd,h,k=>by
  cases m with
  |tup h1 h2=>obtain⟨gd,h⟩:=Hw.HB h;have g':=q_ gd;exact⟨_,_,rfl,.inl h1,by rw[h2.length];exact g',kQ ts r h2 nd h k⟩
  |Lr h0 h1 h2=>obtain⟨gd,h⟩:=Hw.HB h;have g':=q_ gd;exact⟨_,_,rfl,.inr (.inl h1),by rw[h2.length];exact g',kQ ts r h2 nd h k⟩
  |lstK h1 h2=>obtain⟨gd,h⟩:=Hw.HB h;have g':=q_ gd;exact⟨_,_,rfl,.inr h1.sq,by rw[h2.length];exact g',kQ ts r h2 nd h k⟩
  |Jl h0 h1 h2=>obtain⟨gd,h⟩:=Hw.HB h;have g':=q_ gd;rw[c_,L_]at nd;exact⟨_,_,rfl,.inr (.inl (.inl h1)),by rw[h2.length];exact g',kQ ts r h2 nd.2 h fun τ' Iw f' a1 a2 a3 a5 a4=>k τ' Iw f' a1 a2 (fun x hx=>by rw[c_];exact K_ _ (a3 x hx)) a5 a4⟩
  |_=>exact h.no.elim
theorem kQ:∀(ts:List Tg) {σ:St}{τ:Ev}{f:List Ω}{vs:List V}{ds:List D}{fv:List Ω}{Kt:Ev->Prop}{Q:St->Hp->Prop},IM K F H σ τ f->Hy K F H vs ds fv->(fv++f).Nodup->Hw (kH ts ds τ) Kt->
  (∀τ' Iw f',IM K F H Iw τ' f'->f'.Nodup->(∀a∈f',a∈fv++f)->(∀j,j∉qp ts->Iw[j]? = σ[j]?)->Kt τ'->Q Iw H)->Ri K ts vs σ H Q
 |[],σ,τ,f,vs,ds,fv,Kt,Q,r,m,nd,h,k=>by
  cases m with
  |nil=>exact⟨rfl,k τ σ f r (by simpa using nd) (fun a ha=>by simpa using ha) (fun _ _=>rfl) h.ok⟩
  |cons _ _=>exact h.no.elim
 |t::ts,σ,τ,f,vs,ds,fv,Kt,Q,r,m,nd,h,k=>by
  cases m with
  |nil=>exact h.no.elim
  |cons m1 m2=>
   rename_i v d f1 vs ds f2
   have M1:(f2++(f1++f)).Nodup:=by refine(List.Perm.nodup_iff ?_).mp nd;rw[<- H_];exact List.Perm.append_right f aaB
   refine⟨_,_,rfl,xf t r m1 (r_.mp M1).2.1 (Hw.Hn h) fun τ' Iw f' r' VE O8 TF h'=>?_⟩;refine kQ ts r' m2 (r_.mpr ⟨(r_.mp M1).1,VE,fun a h1 b h2 e=>(r_.mp M1).2.2 a h1 b (O8 b h2) e⟩) h' fun OZ O0 Rk r'' VF OP VG QY=>k OZ O0 Rk r'' VF (fun a ha=>?_) (fun j hj=>(VG j fun z=>hj (v_ _ z)).trans (TF j fun z=>hj (t_ _ z))) QY;rcases s_.mp (OP a ha) with z|z
   ·exact t_ _ (v_ _ z)
   ·rcases s_.mp (O8 a z) with z|z
    ·exact t_ _ (t_ _ z)
    ·exact v_ _ z
end
theorem IX.gT (m:IX K B F H σ τ f)(mv:IA K F H v d fv)(nd:(fv++f).Nodup)(hb:∀a∈fv,B.H a=Φ)(MH:∀j∈J5 t,io≠Δ j)(h:Hw (jt t d τ) Kt)
  (k:∀τ' Iw f',IX K B F H Iw τ' f'->Kt τ'->Q Iw H):L2.gT K t v σ H Q:=
 xf t m.Jg mv nd h fun τ' Iw f' r' VE hm hj h'=>k τ' Iw f' ⟨m.IK,r',VE,m.same,fun a ha=>(s_.mp (hm a ha)).elim (hb a) (m.own a),m.J6,m.out,m.pin,m.MG,fun j a e1 e2=>(hj j fun z=>MH j z e1).trans (m.nm j a e1 e2)⟩ h'
theorem IX.write (m:IX K B F H σ τ f)(hs:gV τ i=Δ (.lst Θ ds))(Jp:σ[i]? = Δ (Δ (.ref l)))(hl:H l=Δ (.lst xs))(mw:IA K F H w d fv)(nd:(fv++f).Nodup)(hb:∀a∈fv,B.H a=Φ)
  (hy:∀fi,Hy K F H xs ds fi->∃fl h,Hy K F H ys ds' fl/\(fl++h).Perm (fv++fi)):∃f',IX K B F (upd H l (.lst ys)) σ (τ.set i (Δ (.lst Θ ds'))) f':=by
 obtain⟨v,fs,g,h1,h2,h3,h4⟩:=m.Jg.at hs;rw[Jp]at h1;cases h1;cases h2 with
 | @Jl a PY VH fi hF hH hm=>
  rw[hl]at hH;cases hH;obtain⟨fl,h,O8,hp⟩:=hy fi hm;have NH:((l::fi)++g).Nodup:=h4.nodup_iff.mp m.Je;have TK:(fv++((l::fi)++g)).Nodup:=(aaA fv h4).nodup_iff.mp nd;have lg:l∉g:=by rw[c_,L_]at NH;exact fun z=>NH.1 (v_ _ z)
  have lfi:l∉fi:=by rw[c_,L_]at NH;exact fun z=>NH.1 (t_ _ z)
  have lfv:l∉fv:=fun z=>(r_.mp TK).2.2 l z l (by simp) rfl;have O9:∀a∈fl,a∈fv++fi:=fun a ha=>hp.mem_iff.mp (t_ _ ha);have TL:l∉fl:=fun z=>(s_.mp (O9 l z)).elim lfv lfi;have sl:∀a (u:LD),F a->Rd H a u.o->F a/\Rd (upd H l (.lst ys)) a u.o:=fun a xs h r=>by refine⟨h,?_⟩;have:a≠l:=fun z=>hF (by rw[<- z];exact h);unfold Rd;rw[gX this];exact r
  have st:∀a xs,IP K H a xs->IP K (upd H l (.lst ys)) a xs:=fun a xs h=>h.upd hl;have r1:IM K F (upd H l (.lst ys)) σ (τ.set i Φ) g:=h3.step sl st fun a ha n _=>⟨n,gX fun z=>lg (by rw[<- z];exact ha)⟩
  have m1:IA K F (upd H l (.lst ys)) (.ref l) (.lst Θ ds') (l::fl):=.Jl hF gZ (O8.step sl st fun a ha n _=>⟨n,gX fun z=>TL (by rw[<- z];exact ha)⟩);obtain⟨g',h',r2,p2⟩:=r1.put i m1;have Lc:σ.set i (Δ (.ref l))=σ:=by
   apply List.ext_getElem?;intro j;rw[List.getElem?_set];by_cases hj:i=j
   ·subst hj;have IQ:i < σ.length:=(p_.mp Jp).1;rw[f_ rfl,f_ IQ,Jp]
   ·rw[d_ hj]
  rw[Lc,List.set_set]at r2;have ndl:((l::fl)++g).Nodup:=by
   rw[c_,L_];refine⟨fun z=>(s_.mp z).elim TL lg,r_.mpr ⟨?_,(r_.mp NH).2.1,fun a h1 b h2 e=>?_⟩⟩
   ·have:(fl++h).Nodup:=hp.nodup_iff.mpr (r_.mpr ⟨(r_.mp TK).1,(L_.mp (r_.mp NH).1).2,fun a h1 b h2 e=>(r_.mp TK).2.2 a h1 b (t_ _ (K_ _ h2)) e⟩);exact(r_.mp this).1
   ·subst e;rcases s_.mp (O9 a h1) with z|z
    ·exact(r_.mp TK).2.2 a z a (v_ _ h2) rfl
    ·exact(r_.mp NH).2.2 a (K_ _ z) a h2 rfl
  have M3:(g'++h').Nodup:=p2.nodup_iff.mpr ndl;have lB:B.H l=Φ:=m.own l (h4.mem_iff.mpr (by simp));refine⟨g',fun a h=>?_,r2,(r_.mp M3).1,fun b o MI=>?_,fun a ha=>?_,m.J6,m.out,fun a xs h=>⟨(m.pin a xs h).1,(sl a xs (m.pin a xs h).1 (m.pin a xs h).2).2⟩,fun a xs h=>st a xs (m.MG a xs h),m.nm⟩
  ·have:a≠l:=fun z=>hF (by rw[<- z];exact h);rw[gX this];exact m.IK a h
  ·have:b≠l:=fun z=>by rw[z,lB]at MI;cases MI
   rw[gX this];exact m.same _ _ MI
  ·have:a∈(l::fl)++g:=p2.mem_iff.mp (t_ _ ha);rcases s_.mp this with z|z
   ·rcases k_.mp z with rfl|z
    ·exact lB
    ·rcases s_.mp (O9 a z) with z|z
     ·exact hb a z
     ·exact m.own a (h4.mem_iff.mpr (t_ _ (K_ _ z)))
   ·exact m.own a (h4.mem_iff.mpr (v_ _ z))
theorem Hy.snoc (mw:IA K F H w d fv)  (m:Hy K F H xs ds fi):∃fl h,Hy K F H (xs++[w]) (ds++[d]) fl/\(fl++h).Perm (fv++fi):=
 ⟨fi++(fv++[]),[],m.append (.cons mw .nil),by rw[aal,aal];exact aaB⟩
end
noncomputable def notTuple:Expr->Bool
 |.Tuple ..=>Ξ
 |_=>Θ
noncomputable def pw:Expr->Bool
 |.ListComp ..=>Ξ
 |.SetComp ..=>Ξ
 |.DictComp ..=>Ξ
 |_=>Θ
noncomputable def isName:Expr->Bool
 |.Name ..=>Θ
 |_=>Ξ
noncomputable def isTup:Expr->Bool
 |.Tuple ..=>Θ
 |_=>Ξ
noncomputable def TM:Stmt->(List Expr->Expr->Bool)->Bool
 |.Assign ts v _,k=>k ts v
 |_,_=>Ξ
theorem rH (h:TM s k=Θ):∃ts v p,s=.Assign ts v p/\k ts v=Θ:=by
 induction s using zS with
 |Assign ts v p=>exact⟨ts,v,p,rfl,h⟩
 |_=>exact dn h
noncomputable def VI:Expr->(List Expr->Bool)->Bool
 |.List es _,k=>k es
 |_,_=>Ξ
theorem xg (h:VI e k=Θ):∃es p,e=.List es p/\k es=Θ:=by
 induction e using zE with
 |List es p=>exact⟨es,p,rfl,h⟩
 |_=>exact dn h
noncomputable def isAdd:Operator->Bool
 |.Add=>Θ
 |_=>Ξ
noncomputable def YG:Expr->(Expr->Expr->Bool)->Bool
 |.BinOp a o b _,k=>isAdd o&&k a b
 |_,_=>Ξ
theorem Dd (h:YG e k=Θ):∃a b p,e=.BinOp a .Add b p/\k a b=Θ:=by
 induction e using zE with
 |BinOp a o b p=>
  cases o with
  |Add=>exact⟨a,b,p,rfl,h⟩
  |_=>exact dn h
 |_=>exact dn h
noncomputable def VJ:Expr->(Expr->Expr->Bool)->Bool
 |.Subscript a b _,k=>k a b
 |_,_=>Ξ
theorem xh (h:VJ e k=Θ):∃a b p,e=.Subscript a b p/\k a b=Θ:=by
 induction e using zE with
 |Subscript a b p=>exact⟨a,b,p,rfl,h⟩
 |_=>exact dn h
noncomputable def TN (s:Stmt)(k:Expr->Expr->Bool):Bool:=TM s fun ts v=>La ts fun t=>YG v fun e r=>VI r fun es=>La es fun z=>VI z fun zs=>zs.isEmpty&&k t e
theorem De (h:TN s k=Θ):∃t e lp lq bp pos,s=.Assign [t] (.BinOp e .Add (.List [.List [] lp] lq) bp) pos/\k t e=Θ:=by
 obtain⟨ts,v,p,rfl,h1⟩:=rH h;obtain⟨t,rfl,h2⟩:=ja h1;obtain⟨e,r,bp,rfl,h3⟩:=Dd h2;obtain⟨es,lq,rfl,h4⟩:=xg h3;obtain⟨z,rfl,h5⟩:=ja h4;obtain⟨zs,lp,rfl,h6⟩:=xg h5
 induction zs using zL with
 |nil=>exact⟨_,_,_,_,_,_,rfl,h6⟩
 |cons _ _=>exact dn h6
noncomputable def YH (s:Stmt)(k:Expr->Str->Expr->Bool):Bool:=TM s fun ts v=>La ts fun t=>VJ v fun o e=>Mj (fun x=>k t x e) o
theorem Df (h:YH s k=Θ):∃t x p e sp pos,s=.Assign [t] (.Subscript (.Name x p) e sp) pos/\k t x e=Θ:=by obtain⟨ts,v,p,rfl,h1⟩:=rH h;obtain⟨t,rfl,h2⟩:=ja h1;obtain⟨o,e,sp,rfl,h3⟩:=xh h2;obtain⟨x,p',rfl,h4⟩:=jU h3;exact⟨_,_,_,_,_,_,rfl,h4⟩
noncomputable def YI:Stmt->(Expr->List Stmt->List Stmt->Bool)->Bool
 |.If c a b _,k=>k c a b
 |_,_=>Ξ
theorem Dg (h:YI s k=Θ):∃c a b p,s=.If c a b p/\k c a b=Θ:=by
 induction s using zS with
 |If c a b p=>exact⟨c,a,b,p,rfl,h⟩
 |_=>exact dn h
noncomputable def TQ:Stmt->(Expr->Bool)->Bool
 |.Expr e _,k=>k e
 |_,_=>Ξ
theorem xj (h:TQ s k=Θ):∃e p,s=.Expr e p/\k e=Θ:=by
 induction s using zS with
 |Expr e p=>exact⟨e,p,rfl,h⟩
 |_=>exact dn h
noncomputable def Qd:Expr->(Expr->Str->Pos->Bool)->Bool
 |.Attribute o n p,k=>k o n p
 |_,_=>Ξ
theorem rJ (h:Qd e k=Θ):∃o n p,e=.Attribute o n p/\k o n p=Θ:=by
 induction e using zE with
 |Attribute o n p=>exact⟨o,n,p,rfl,h⟩
 |_=>exact dn h
noncomputable def alt (s:Stmt)(k:Str->Expr->Expr->Bool):Bool:=TM s fun ts v=>La ts fun t=>VJ t fun o e=>Mj (fun x=>k x e v) o
theorem Dh (h:alt s k=Θ):∃y p e sp v vp,s=.Assign [.Subscript (.Name y p) e sp] v vp/\k y e v=Θ:=by obtain⟨ts,v,vp,rfl,h3⟩:=rH h;obtain⟨t,rfl,h4⟩:=ja h3;obtain⟨o,e,sp,rfl,h5⟩:=xh h4;obtain⟨y,p,rfl,h6⟩:=jU h5;exact⟨_,_,_,_,_,_,rfl,h6⟩
noncomputable def YJ (s:Stmt)(k:Str->Str->Bool->Expr->Bool):Bool:=TQ s fun b=>M0 b fun f ws Iz=>Qd f fun o name apos=>Mj (fun y'=>La ws fun w=>k y' name (apos.endLine == Iz.line) w) o
theorem Di (h:YJ s k=Θ):∃y' p' name apos w Iz ep,s=.Expr (.Call (.Attribute (.Name y' p') name apos) [w] [] Iz) ep/\k y' name (apos.endLine == Iz.line) w=Θ:=by obtain⟨b,ep,rfl,h8⟩:=xj h;obtain⟨f,ws,Iz,rfl,h9⟩:=kq h8;obtain⟨o,name,apos,rfl,LK⟩:=rJ h9;obtain⟨y',p',rfl,NX⟩:=jU LK;obtain⟨w,rfl,OG⟩:=ja NX;exact⟨_,_,_,_,_,_,_,rfl,OG⟩
noncomputable def YK (s:Stmt)(k:Expr->Str->Expr->Expr->Str->Str->Bool->Expr->Bool):Bool:=YI s fun c a b=>La a fun a=>alt a fun y e v=>La b fun b=>YJ b fun y' name l w=>k c y e v y' name l w
theorem Dj (h:YK s k=Θ):∃c y p e sp v vp y' p' name apos w Iz ep pos,s=.If c [.Assign [.Subscript (.Name y p) e sp] v vp] [.Expr (.Call (.Attribute (.Name y' p') name apos) [w] [] Iz) ep] pos/\k c y e v y' name (apos.endLine == Iz.line) w=Θ:=by obtain⟨c,a,b,pos,rfl,h1⟩:=Dg h;obtain⟨a,rfl,h2⟩:=ja h1;obtain⟨y,p,e,sp,v,vp,rfl,h3⟩:=Dh h2;obtain⟨b,rfl,h4⟩:=ja h3;obtain⟨y',p',name,apos,w,Iz,ep,rfl,h5⟩:=Di h4;exact⟨_,_,_,_,_,_,_,_,_,_,_,_,_,_,_,rfl,h5⟩
noncomputable def sY (Z:Sg)(G:Gm)(i j:Nat)(e c x v w:IR)(s s':Stmt):Bool:=
 (YH s fun t xi se=>isName t&&i8 G (.nm j) t&&jw G i xi&&iT se&&HE Z G e se&&decide (i≠j)) &&
 YK s' fun ce y se ve y' name l we=>HE Z G c ce&&jw G j y&&iT se&&HE Z G x se&&HE Z G v ve&&jw G j y'&&name == "append"&&l&&notStar we&&HE Z G w we
noncomputable def VL:Stmt->(List Stmt->Bool)->Bool
 |.Try b hs o f _,k=>!hs.isEmpty&&o.isEmpty&&f.isEmpty&&k b
 |_,_=>Ξ
theorem Dk (h:VL s k=Θ):∃b h0 hs p,s=.Try b (h0::hs) [] [] p/\k b=Θ:=by
 induction s using zS with
 |Try b hs o f p=>
  have h:(!hs.isEmpty&&o.isEmpty&&f.isEmpty&&k b)=Θ:=h;simp only[h_]at h;obtain⟨⟨⟨h1,h2⟩,h3⟩,h4⟩:=h
  induction hs using zL with
  |nil=>cases h1
  |cons h0 hs=>
   induction o using zL with
   |cons _ _=>cases h2
   |nil=>
    induction f using zL with
    |cons _ _=>cases h3
    |nil=>exact⟨b,h0,hs,p,rfl,h4⟩
 |_=>exact dn h
mutual
noncomputable def xk (Z:Sg)(G:Gm):IS->Stmt->Bool
 |.asg tg e,.Assign [t] v _=>i8 G tg t&&HE Z G e v&&(isName t||(isTup t&&notTuple v))
 |.Ka i k e,.Assign [.Subscript (.Name x _) s _] v _=>jw G i x&&iT s&&HE Z G k s&&HE Z G e v&&!(vars e).contains i
 |.P4 j G' fr t src,s=>TN s fun tg e=>isName tg&&i8 G (.nm j) tg&&HE Z G (.comp G' fr (.nm t) src [] (.lst [])) e
 |.ins i k e,.Expr (.Call (.Attribute (.Name x _) name apos) [s,v] [] Iz) _=>jw G i x&&name == "insert"&&apos.endLine == Iz.line&&(notStar s&&notStar v)&&HE Z G k s&&HE Z G e v
 |.app i e,.Expr (.Call (.Attribute (.Name x _) name apos) [v] [] Iz) _=>jw G i x&&name == "append"&&apos.endLine == Iz.line&&notStar v&&HE Z G e v
 |.exp e,.Expr v _=>pw v&&HE Z G e v
 |.ret e,.Return (Δ v) _=>HE Z G e v
 |.IT t a b,.If c x y _=>HE Z G t c&&iX Z G a x&&iX Z G b y
 |.IL tg s body,.For t it b [] _=>((G.cm&&G.rs)&&i8 G tg t)&&(jx Z G s it&&lH s t)&&iX Z G body b
 |.JV t body,.While c b [] _=>(G.rs&&HE Z G t c)&&iX Z G body b
 |.never,_=>Θ
 |.L9 i j e,s=>TQ s fun v=>M0 v fun fe as cp=>Qd fe fun o n ap=>n == "append"&&ap.endLine == cp.line&&Mj (fun x=>jw G i x) o&&La as fun w=>M0 w fun TR TU TV=>Qd TR fun o' n' TX=>n' == "pop"&&TX.endLine == TV.line&&Mj (fun y=>jw G j y) o'&&La TU fun z=>notStar z&&HE Z G e z
 |.L' a,s=>VL s fun b=>iX Z {G with rs:=Ξ,tr:=Ξ} a b
 |_,_=>Ξ
noncomputable def iX (Z:Sg)(G:Gm):List IS->List Stmt->Bool
 |[],[]=>Θ
 |.Nz i j e c x v w::as,s::s'::ss=>sY Z G i j e c x v w s s'&&iX Z G as ss
 |a::as,s::ss=>xk Z G a s&&iX Z G as ss
 |_,_=>Ξ
end
noncomputable def Be:IS->Bool
 |.Nz _ _ _ _ _ _ _=>Θ
 |_=>Ξ
theorem rK (h:Be a=Ξ):iX Z G (a::as) (s::ss)=(xk Z G a s&&iX Z G as ss):=by
 induction a using zT<;>first|rfl|cases h
section
variable {Z:Sg}{CX:JD}{cl:Nat->List D->Res D}{X:Cx}{G:Gm}
theorem Bf (ht:i8 G tg t=Θ)  (h:RS X.K G.io (fun τ=>Hn (ga τ) fun p=>Hn (jt tg p.1 p.2) fun τ'=>.ok (.nx τ')) Dn σ H):BZ (RO X.K ga) (gT X.K tg) Dn σ H:=by obtain⟨B,F,τ,f,m,q⟩:=h;refine m.ro (Hw.Hn q) fun p v H' F' fv f' o hp=>?_;obtain⟨m',hb⟩:=m.ow o;exact m'.gT o.rep o.Je hb (kN tg t ht) (Hw.Hn hp) fun τ' Iw Rk Lz h'=>h'.ok _ _ _ _ Lz
theorem Hf (g:IV Z CX cl X G)  (ht:i8 G tg t=Θ)(hv:HE Z G e v=Θ)(hc:(isName t||(isTup t&&notTuple v))=Θ):PS X (.Assign [t] v pos) (RS X.K G.io (JM cl (.asg tg e))):=by
 have pe:=O7 e Ξ X G v g hv;have pg:=N6 g tg t ht
 induction t using zE with
 |Name x px=>
  cases tg with
  |tp _=>cases ht
  |nm i=>
   have Li:(G.N[i]? == Δ x&&(G.kd[i]? == Δ .local||(G.df&&G.kd[i]? == Δ .cell)))=Θ:=(D_.mp ht).1;rw[h_,aaf,h_]at Li;have hx:G.N[i]? = Δ x:=i_ Li.1;have hk:=g.kd i x hx;have MJ:Loc X.env.scope x:=Li.2.elim (fun z=>.inl (hk.trans (i_ z))) fun z=>.inr (hk.trans (i_ z.2));have Nf:X.fn x=Θ∨X.env.scope.names.lookup x=Δ .local:=Li.2.elim (fun z=>.inr (hk.trans (i_ z))) fun z=>.inl (g.df z.1 x);have plain:swapsWith v (Δ (.Name x px)) pos.line X.env=pure Ξ->PS X (.Assign [.Name x px] v pos) (RS X.K G.io (JM cl (.asg (.nm i) e))):=fun hs=>
    i3 (qP (i:=i) (by rw[g.N];exact g.Je) (by rw[g.N];exact hx) MJ pe hs Nf) fun Dn σ H h=>Bf ht h
   induction v using zE with
   |ListComp el gens scope Md=>
    have OH:swapsWith (.ListComp el gens scope Md) (Δ (.Name x px)) pos.line X.env=pure (X.env.blockKind == .function&&X.env.kindOf x == Δ .local&&px.line == Md.line&&!(scope.names.any fun(n,k)=>n == x&&(k == .local||k == .cell))):=rfl;cases hb:(X.env.blockKind == .function&&X.env.kindOf x == Δ .local&&px.line == Md.line&&!(scope.names.any fun(n,k)=>n == x&&(k == .local||k == .cell))) with
    |false=>exact plain (by rw[OH,hb])
    |true=>
     rw[hb]at OH;have hlx:X.env.kindOf x=Δ .local:=by simp only[h_]at hb;exact i_ hb.1.1.2
     cases e with
     |comp G' fr T src ifs elt=>
      have hv:rD gens (fun t it fs=>iW Z G scope G' fr&&i8 G' T t&&(J5 T).all (fun i=>decide (fr.length<=i))&&(jx Z G src it&&lH src t)&&iM Z G' ifs fs&&HE Z G' elt el)=Θ:=hv;obtain⟨t,it,fs,rfl,hv⟩:=mi hv;have h':(iW Z G scope G' fr&&i8 G' T t&&(J5 T).all (fun i=>decide (fr.length<=i))&&(jx Z G src it&&lH src t)&&iM Z G' ifs fs&&HE Z G' elt el)=Θ:=hv;simp only[h_]at h';have hs:=mj h'.1.1.1.1.1;have hT:=h'.1.1.1.1.2;have ha:∀i∈J5 T,fr.length<=i:=fun i hi=>q_ (W_.mp h'.1.1.1.2 i hi);intro pins s' σ H Dn Iv h;obtain⟨Ju,S⟩:=kc g Iv.ok hs;have p:=zb (py:=px) (spos:=pos) (i:=i) (pos:=Md) (elt:=el) (ifs:=fs) (tg:=t) (g:=gT X.K T) (tt:=RT X.K (hU ifs) (jX cl ifs)) (te:=RD X.K (vars elt) (HA cl elt)) (g.calm hs.cm) (by rw[g.N];exact g.Je) (by rw[g.N];exact hx) hlx S (xb src X G it t g h'.1.1.2.1 h'.1.1.2.2) (fun C s H fp=>N6 (iU g hs Ju C s H fp) T t hT)
       (fun C s H fp=>w8 ifs _ G' fs (iU g hs Ju C s H fp) h'.1.2) (fun C s H fp=>(snd elt _ G' el (iU g hs Ju C s H fp) h'.2).1) OH (fun x=>jd h'.1.1.2.1 X.env x)
      refine p pins s' σ H Dn Iv ?_;obtain⟨B,F,τ,f,m,q⟩:=h
      -- as one aa9 is kept
      have q0:Hw (Hn (Hn (HA cl (.comp G' fr T src ifs elt) τ) fun d=>.ok (iw (.comp G' fr T src ifs elt) d τ)) fun p=>Hn (jt (.nm i) p.1 p.2) fun τ'=>.ok (.nx τ')) (Fk X.K B Dn):=q;have q1:=Hw.Hn (Hw.Hn q0);have fin:∀(d:D) (v:V) (H':Hp) (F':Ω->Prop) (fv f':List Ω),Ow X.K F H f F' H' σ v (iw (.comp G' fr T src ifs elt) d τ).1 fv (iw (.comp G' fr T src ifs elt) d τ).2 f'->(∀(p:D×Ev),p=iw (.comp G' fr T src ifs elt) d τ->Hw (Hn (jt (.nm i) p.1 p.2) fun τ'=>.ok (.nx τ')) (Fk X.K B Dn))->Dn.nx (σ.set i (Δ v)) H':=by intro d v H' F' fv f' o hp;obtain⟨m',KY⟩:=m.ow o;have:=m'.gT (t:=.nm i) (Q:=Dn.nx) o.rep o.Je KY (kN _ _ ht) (Hw.Hn (hp _ rfl)) fun τ' Iw Rk Lz h'=>h'.ok _ _ _ _ Lz;exact this
      cases z:HA cl (.comp G' fr T src ifs elt) τ with
      |error er=>rw[z]at q1;cases er;exact q1.no.elim
      |ok d=>
       rw[z]at q1;have q2:=q1.ok.ok;obtain⟨o',ds,rfl⟩:∃o ds,d=.lst o ds:=by have zz:=z;rw[ng]at zz;obtain⟨its,_,zz⟩:=jH zz;obtain⟨_,zz⟩:=CG zz;obtain⟨ds,_,zz⟩:=jH zz;cases zz;exact⟨Θ,ds,rfl⟩
       by_cases hi:gW ds=Θ
       ·have ND:iw (.comp G' fr T src ifs elt) (.lst o' ds) τ=(.lst Θ ds,τ):=by unfold iw;rw[d_ (show ¬hE (.lst o' ds)=Θ by intro z;cases z)];show(if gW ds=Θ then _ else _)=_;rw[f_ hi]
        refine ke (S:=fun _=>True) (τ:=τ) (Kt:=fun d'=>∃Ro,d'=.lst Ro ds) hs.TH ha (iN m.Jg) ?_ fun A ys ds' H' e hA NF mm k=>?_
        ·show Hw (HA cl (.comp G' fr T src ifs elt) τ) _;rw[z];exact⟨o',rfl⟩
        ·obtain⟨Ro,k⟩:=k;cases k;obtain⟨k1,k2,k3⟩:=kO m.IK m.Jg e;refine fin (.lst o' ds) (.ref A) H' F [A] f ?_ (fun p hp=>by subst hp;exact q2);rw[ND];refine⟨k3,k1,.Jl (fun zz=>m.IK A zz hA) NF (mm.free hi),k2,?_,fun a ha=>?_⟩
         ·rw[aaC,L_];refine⟨fun zz=>?_,m.Je⟩;obtain⟨_,xs,e⟩:=m.Jg.own A zz;rw[hA]at e;cases e
         ·rw[aaC]at ha;rcases k_.mp ha with rfl|ha
          ·exact .inr hA
          ·exact .inl ha
       ·have ND:iw (.comp G' fr T src ifs elt) (.lst o' ds) τ=(.lst Θ (HC ds),IH (vars (.comp G' fr T src ifs elt)) τ):=by unfold iw;rw[d_ (show ¬hE (.lst o' ds)=Θ by intro z;cases z)];show(if gW ds=Θ then _ else _)=_;rw[d_ hi]
        obtain⟨F1,gg,b1,b2,b3,b4,b5,b6⟩:=kg (vars (.comp G' fr T src ifs elt)) m.IK m.Jg m.Je;refine ke (S:=F1) (τ:=τ) (Kt:=fun d'=>∃Ro,d'=.lst Ro ds) hs.TH ha b6 ?_ fun A ys ds' H' e hA NF mm k=>?_
        ·show Hw (HA cl (.comp G' fr T src ifs elt) τ) _;rw[z];exact⟨o',rfl⟩
        ·obtain⟨Ro,k⟩:=k;cases k;obtain⟨c1,c2,c3⟩:=grow (fun a=>a≠A) b1 b2 e;have m2:Hq X.K (fun a=>F1 a∨(a≠A/\H a=Φ/\H' a≠Φ)) H' ys ds:=mm.step (fun a xs h r=>⟨h.1.elim (fun z=>.inl z) fun z=>.inr ⟨h.2,z,r.some⟩,r⟩) fun a xs h=>h;refine fin (.lst o' ds) (.ref A) H' (fun a=>F1 a∨(a≠A/\H a=Φ/\H' a≠Φ)) [A] gg ?_ (fun p hp=>by subst hp;exact q2);rw[ND];refine⟨b4.trans c3 (fun x hx=>.inl (b5 x hx)),c1,.Jl (fun zz=>?_) NF m2.frozen,c2,?_,fun a ha=>?_⟩
         ·rcases zz with zz|zz
          ·exact b1 A zz hA
          ·exact zz.1 rfl
         ·rw[aaC,L_];refine⟨fun zz=>?_,b3⟩;obtain⟨_,xs,e⟩:=b2.own A zz;rw[hA]at e;cases e
         ·rw[aaC]at ha;rcases k_.mp ha with rfl|ha
          ·exact .inr hA
          ·exact .inl (b5 a ha)
     |_=>first|exact dn hv|cases hv
   |SetComp _ _ _ _=>cases e<;>first|exact dn hv|cases hv
   |DictComp _ _ _ _ _=>cases e<;>first|exact dn hv|cases hv
   |_=>exact plain rfl
 |Tuple ts k px=>
  have PM:notTuple v=Θ:=hc;refine i3 (vi pe pg ?_ ?_ rfl) fun Dn σ H h=>Bf ht h
  ·induction v using zE<;>rfl
  ·induction v using zE<;>first|rfl|cases PM
 |_=>cases hc
end
theorem IP.VM {K:Frag}{H:Hp}{a l:Ω}{xs:List V}{ys zs:List (Key×V)}(hl:H l=Δ (.dK ys))(h:IP K H a xs):IP K (L2.upd H l (.dK zs)) a xs:=by exact h.cl (wt fun xs z=>by rcases z with z|⟨o',z⟩<;>(rw[hl]at z;cases z))
theorem Hy.noF {K:Frag}{F:Ω->Prop}{H:Hp}{vs:List V}{ds:List D}{f:List Ω}(h:Hy K F H vs ds f)(n:gW ds=Θ):f=[]:=by refine Hy.rec (motive_1:=fun _ d f _=>hE d=Θ->f=[]) (motive_2:=fun _ d f _=>gW d=Θ->f=[]) (fun _=>rfl) (fun _ _=>rfl) (fun _ _=>rfl) (fun _ _=>rfl) (fun _ _ i z=>i z) (fun _ _ _ _ _=>rfl) (fun _ _ _ _=>rfl) (fun _ _ _ _ z=>dn z) (fun _ _ _ _ _ _=>rfl) (fun _ _ _ _ _ z=>dn z) (fun _=>rfl) (fun {v d f vs ds g} _ _ i j z=>?_) h n;have z':=D_.mp (show(hE d&&gW ds)=Θ from z);rw[i z'.1,j z'.2];rfl
theorem Hy.noO {K:Frag}{F:Ω->Prop}{H:Hp}{vs:List V}{ds:List D}{f:List Ω}(h:Hy K F H vs ds f)(n:jl ds=Θ):f=[]:=by refine Hy.rec (motive_1:=fun _ d f _=>uM d=Θ->f=[]) (motive_2:=fun _ d f _=>jl d=Θ->f=[]) (fun _=>rfl) (fun _ _=>rfl) (fun _ _=>rfl) (fun _ _=>rfl) (fun _ _ i z=>i z) (fun _ _ _ _ _=>rfl) (fun _ _ _ _=>rfl) (fun _ _ _ _ z=>dn z) (fun _ _ _ _ _ _=>rfl) (fun _ _ _ _ _ z=>dn z) (fun _=>rfl) (fun {v d f vs ds g} _ _ i j z=>?_) h n;have z':=D_.mp (show(uM d&&jl ds)=Θ from z);rw[i z'.1,j z'.2];rfl
theorem xn {K:Frag}{F:Ω->Prop}{H:Hp}{σ:St}{τ:Ev}{f:List Ω}{i:Nat}{ks:List Key}{ds:List D}(r:IM K F H σ τ f)(hs:gV τ i=Δ (.IE Θ ks ds))(n:jl ds=Θ) :
  ∃l kvs g,σ[i]? = Δ (Δ (.ref l))/\¬F l/\H l=Δ (.dK kvs)/\kvs.map (·.1)=ks/\Hy K F H (kvs.map (·.2)) ds []/\IM K F H σ (τ.set i Φ) g/\f.Perm (l::g):=by
 obtain⟨v,fs,g,h1,h2,h3,h4⟩:=r.at hs;cases h2 with
 | @My a kvs _ _ fi hF hH hk hm=>have e:=hm.noO n;subst e;exact⟨a,kvs,g,h1,hF,hH,hk,hm,h3,h4⟩
theorem IX.O' {K:Frag}{io:Option Nat}{B:Bs io}{F:Ω->Prop}{H:Hp}{σ:St}{τ:Ev}{f g:List Ω}{i:Nat}{l:Ω}{kvs LA:List (Key×V)}{KN:List Key}{ds':List D}(m:IX K B F H σ τ f)(Jp:σ[i]? = Δ (Δ (.ref l)))(hF:¬F l)(hl:H l=Δ (.dK kvs))(hr:IM K F H σ (τ.set i Φ) g)(h4:f.Perm (l::g))
  (hk:LA.map (·.1)=KN) (hm:Hy K F H (LA.map (·.2)) ds' []):∃f',IX K B F (upd H l (.dK LA)) σ (τ.set i (Δ (.IE Θ KN ds'))) f':=by
 have Pc:(l::g).Nodup:=h4.nodup_iff.mp m.Je;have lg:l∉g:=(L_.mp Pc).1;have sl:∀a (u:LD),F a->Rd H a u.o->F a/\Rd (upd H l (.dK LA)) a u.o:=fun a xs h r=>by refine⟨h,?_⟩;have:a≠l:=fun z=>hF (by rw[<- z];exact h);unfold Rd;rw[gX this];exact r
 have st:∀a xs,IP K H a xs->IP K (upd H l (.dK LA)) a xs:=fun a xs h=>h.VM hl;have r1:IM K F (upd H l (.dK LA)) σ (τ.set i Φ) g:=hr.step sl st fun a ha n _=>⟨n,gX fun z=>lg (by rw[<- z];exact ha)⟩
 have m1:IA K F (upd H l (.dK LA)) (.ref l) (.IE Θ KN ds') [l]:=.My hF gZ hk (hm.step sl st iZ);obtain⟨g',h',r2,p2⟩:=r1.put i m1;have Lc:σ.set i (Δ (.ref l))=σ:=by
  apply List.ext_getElem?;intro j;rw[List.getElem?_set];by_cases hj:i=j
  ·subst hj;rw[f_ rfl,f_ (p_.mp Jp).1,Jp]
  ·rw[d_ hj]
 rw[Lc,List.set_set]at r2;have M3:(g'++h').Nodup:=p2.nodup_iff.mpr Pc;have lB:B.H l=Φ:=m.own l (h4.mem_iff.mpr (by simp));refine⟨g',fun a h=>?_,r2,(r_.mp M3).1,fun b o MI=>?_,fun a ha=>m.own a (h4.mem_iff.mpr (p2.mem_iff.mp (t_ _ ha))),m.J6,m.out,fun a xs h=>⟨(m.pin a xs h).1,(sl a xs (m.pin a xs h).1 (m.pin a xs h).2).2⟩,fun a xs h=>st a xs (m.MG a xs h),m.nm⟩
 ·have:a≠l:=fun z=>hF (by rw[<- z];exact h);rw[gX this];exact m.IK a h
 ·have:b≠l:=fun z=>by rw[z,lB]at MI;cases MI
  rw[gX this];exact m.same _ _ MI
section
variable {K:Frag}{S:Ω->Prop}{H:Hp}
theorem has_any (kvs:List (Key×V))(q:Key):(kvs.any fun kv=>decide (kv.1=q))=qf (kvs.map (·.1)) q:=by unfold qf;rw[List.any_map];rfl
theorem MK (kvs:List (Key×V))(q:Key)(v:V):(putK kvs q v).map (·.1)=kF (kvs.map (·.1)) q:=by
 unfold putK kF;rw[has_any];by_cases h:qf (kvs.map (·.1)) q=Θ
 ·rw[f_ h,f_ h,y_];refine X_ fun kv _=>?_;show(if kv.1=q then(kv.1,v) else kv).1=kv.1;split<;>rfl
 ·rw[d_ h,d_ h,C_];rfl
theorem Fm (q:Key)  (mv:Hx K S H v d)  (m:Hq K S H (kvs.map (·.2)) ds):Hq K S H ((putK kvs q v).map (·.2)) (kG (kvs.map (·.1)) ds q d):=by
 unfold putK kG;rw[has_any];by_cases h:qf (kvs.map (·.1)) q=Θ
 ·rw[f_ h,f_ h,y_];clear h
  induction kvs generalizing ds with
  |nil=>cases m;exact .nil
  |cons p kvs ih=>
   rw[b_]at m
   induction ds using zL with
   |nil=>exact absurd m.length (by simp)
   |cons e ds=>
    cases m with
    |cons m1 m2=>
     rw[b_,b_,List.zipWith_cons_cons];refine .cons ?_ (ih m2);show Hx K S H (if p.1=q then(p.1,v) else p).2 (if p.1=q then d else e);split
     ·exact mv
     ·exact m1
 ·rw[d_ h,d_ h,C_];exact m.append (.cons mv .nil)
end
section
variable {Z:Sg}{CX:JD}{cl:Nat->List D->Res D}{X:Cx}{G:Gm}
theorem nh (is:List Nat):∀(τ:Ev) (k i:Nat),is.contains (k+i)=Ξ->gV (lC is k τ) i=gV τ i
 |[],k,i,h=>rfl
 |o::τ,k,0,h=>by unfold lC;rw[jf,jf,d_ (by rw[show k=k+0 from rfl,h];simp)]
 |o::τ,k,i+1,h=>by unfold lC;rw[iY,iY];exact nh is τ (k+1) i (by rw[<- h];congr 1;omega)
theorem JO (g:IV Z CX cl X G)  (h1:jw G i x=Θ)(h2:iT s=Θ)(h3:HE Z G k s=Θ)(h4:HE Z G e v=Θ)(h5:(vars e).contains i=Ξ) :
  PS X (.Assign [.Subscript (.Name x p) s sp] v pos) (RS X.K G.io (JM cl (.Ka i k e))):=by
 have hu:=g.un;refine i3 (zh (by omega) (kP g h1) (snd k X G s g h3).1 (snd e X G v g h4).1 (by induction v using zE<;>rfl)) fun Dn σ H h=>?_;obtain⟨B,F,τ,f,m,q⟩:=h;have q0:Hw (Hn (HA cl e τ) fun d=>match gV τ i with|some (.IE Θ ks ds)=>Hn (HA cl k (IH (vars e) τ)) fun y=>(match nH y with|some q=>HB (jl ds&&iV ks.length) (.ok (.nx ((IH (vars e) τ).set i (Δ (.IE Θ (kF ks q) (HC (kG ks ds q d)))))))|none=>Ir)|_=>Ir) (Fk X.K B Dn):=q;obtain⟨F1,gg,b1,b2,b3,b4,b5,b6⟩:=kg (vars e) m.IK m.Jg m.Je;refine iq (.refl _) b6 (Hw.Hn q0) fun d w H1 e1 _ mw q1=>?_;obtain⟨c1,c2,c3⟩:=grow (fun _=>True) b1 b2 e1;have m1:IX X.K B (fun b=>F1 b∨(True/\H b=Φ/\H1 b≠Φ)) H1 σ (IH (vars e) τ) gg:=m.KA (b4.trans c3 (fun x hx=>.inl (b5 x hx))) c1 c2 b3 fun b hb=>.inl (b5 b hb);have mw:=mw.fix;cases z0:gV τ i with
 |none=>rw[z0]at q1;exact q1.no.elim
 |some d0=>
  rw[z0]at q1
  induction d0 using zD with
  |IE ow ks ds=>
   induction ow using zB with
   |false=>exact q1.no.elim
   |true=>
    have zf:gV (IH (vars e) τ) i=Δ (.IE Θ ks ds):=(nh (vars e) τ 0 i (by rw[Nat.zero_add];exact h5)).trans z0;obtain⟨v0,VN,_⟩:∃v0,σ[i]? = Δ (Δ v0)/\True:=by obtain⟨v0,_,_,h,_⟩:=m1.Jg.at zf;exact⟨v0,h,trivial⟩
    refine⟨v0,VN,m1.rd (Hw.Hn q1) fun y w2 H2 m2 e2 mw2 q2=>?_⟩;cases hk:nH y with
    |none=>simp only[hk]at q2;exact q2.no.elim
    |some qk=>
     simp only[hk]at q2;obtain⟨gd,q2⟩:=Hw.HB q2;rw[h_]at gd;obtain⟨l,kvs,g0,Jp,hF,hl,hks,hm,hr,hp⟩:=xn m2.Jg zf gd.1;rw[VN]at Jp;cases Jp;subst hks;have Ld:=(Fm qk (mw.mono (fun _ h=>h) e2) (hm.read (fun _ h=>h) fun _ h=>absurd h (by simp))).frozen;obtain⟨f',m3⟩:=m2.O' VN hF hl hr hp (MK kvs qk w) Ld;have hlen:kvs.length < Ζ:=by
      have:=jR gd.2
      rwa [g_]at this
     exact⟨l,_,rfl,.inl ⟨kvs,qk,hl,sU mw2 hk,hlen,rfl⟩,q2.ok _ _ _ _ m3⟩
  |_=>exact q1.no.elim
end
section
variable {K:Frag}{F:Ω->Prop}{H:Hp}
theorem IA.parts (h:IA K F H v (.lst o es) fv):∃b zs fe h',v=.ref b/\Jo K H b zs/\Hy K F H zs es fe/\(fe++h').Perm fv:=by
 cases h with
 |Lr h0 h1 h2=>exact⟨_,_,[],[],rfl,.inl h1,h2,.refl _⟩
 |lstK h1 h2=>exact⟨_,_,[],[],rfl,h1.sq,h2,.refl _⟩
 | @Jl a xs ds f h0 h1 h2=>exact⟨a,_,f,[a],rfl,.inl (.inl h1),h2,aaB (l₁:=f) (l₂:=[a])⟩
theorem Hy.split (n:Nat)  (h:Hy K F H vs ds f):∃f1 f2,Hy K F H (vs.take n) (ds.take n) f1/\Hy K F H (vs.drop n) (ds.drop n) f2/\f1++f2=f:=by
 revert n;refine Hy.ind (P:=fun vs ds f=>∀n,∃f1 f2,Hy K F H (vs.take n) (ds.take n) f1/\Hy K F H (vs.drop n) (ds.drop n) f2/\f1++f2=f) (fun n=>⟨[],[],by rw[List.take_nil,List.take_nil];exact .nil,by rw[List.drop_nil,List.drop_nil];exact .nil,rfl⟩) (fun v d f vs ds g a b j n=>?_) h;cases n with
 |zero=>exact⟨[],f++g,.nil,.cons a b,rfl⟩
 |succ n=>obtain⟨f1,f2,h1,h2,h3⟩:=j n;exact⟨f++f1,f2,.cons a h1,h2,by rw[H_,h3]⟩
end
section
variable {Z:Sg}{CX:JD}{cl:Nat->List D->Res D}{X:Cx}{G:Gm}
theorem kr {K:Frag}{F:Ω->Prop}{H:Hp}{σ:St}{τ:Ev}{f:List Ω}{i:Nat}{ds:List D}(r:IM K F H σ τ f)(hs:gV τ i=Δ (.lst Θ ds)):∃l xs,σ[i]? = Δ (Δ (.ref l))/\H l=Δ (.lst xs)/\xs.length=ds.length:=by
 obtain⟨v,fs,g,h1,h2,h3,h4⟩:=r.at hs;cases h2 with
 |Jl hF hH hm=>exact⟨_,_,h1,hH,hm.length⟩
theorem KS (g:IV Z CX cl X G)  (h1:jw G i x=Θ)(h2:(apos.endLine == Iz.line)=Θ)(h3:notStar s=Θ)(VO:notStar v=Θ)(h4:HE Z G k s=Θ)(h5:HE Z G e v=Θ) :
  PS X (.Expr (.Call (.Attribute (.Name x p) "insert" apos) [s,v] [] Iz) pos) (RS X.K G.io (JM cl (.ins i k e))):=by
 have pa:PA X [s,v] (kz (RD X.K (vars k) (HA cl k)) (kz (RO X.K (Jd cl Ξ e)) pQ)):=ip (snd k X G s g h4).1 (ip (O7 e Ξ X G v g h5) iK (fD VO _ _)) (fD h3 _ _);have J':((backTo Iz (Ν [s,v] X.env)).all (fun x=>!x.1)&&(backToKw Iz (keywordEach [] X.env)).all (fun x=>x.1.isSome)&&decide ([s,v].length+([]:List Keyword).length+(if([]:List Keyword).isEmpty then 0 else 1) < 30))=Θ:=by rw[fD h3,fD VO];rfl
 refine i3 (kx (mE PySem.F.plainAttrs_list PySem.F.slot_list_insert PySem.F.type_list_insert CA (kP g h1) pa rfl J' h2 (fD h3 _ _) (by rw[fD VO];rfl))) fun Dn σ H h=>?_;obtain⟨B,F,τ,f,m,q⟩:=h;have q0:Hw (match gV τ i with|some (.lst _ _)=>(Hn (HA cl k τ) fun y=>Hn (Jd cl Ξ e τ) fun p=>(match y,gV p.2 i with|.int z,Δ (.lst Θ ds)=>HB (decide (0<=z/\z.toNat<=ds.length)&&iV ds.length) (.ok (.nx (p.2.set i (Δ (.lst Θ (ds.take z.toNat++p.1::ds.drop z.toNat))))))|_,_=>Ir))|_=>Ir) (Fk X.K B Dn):=q;cases z0:gV τ i with
 |none=>rw[z0]at q0;exact q0.no.elim
 |some d0=>
  rw[z0]at q0
  induction d0 using zD with
  |lst o0 VH=>
   obtain⟨v0,YL,g0,a1,a2,a3,a4⟩:=m.Jg.at z0;obtain⟨l,TY,_,_,rfl,hq,_⟩:=a2.parts;refine⟨.ref l,a1,.inl ⟨rfl,TY,hq⟩,m.rd (Hw.Hn q0) fun y w H1 m1 e1 mw q1=>?_⟩;refine m1.ro (Hw.Hn q1) fun p v H' F' fv f' o hp=>?_;obtain⟨m',hb⟩:=m1.ow o
   induction y using zD with
   |int z=>
    cases mw.ID;cases zs:gV p.2 i with
    |none=>simp only[zs]at hp;exact hp.no.elim
    |some d=>
     simp only[zs]at hp
     induction d using zD with
     |lst ow ds=>
      induction ow using zB with
      |false=>exact hp.no.elim
      |true=>
       obtain⟨gd,hp⟩:=Hw.HB hp;rw[h_]at gd;have gz:0<=z/\z.toNat<=ds.length:=q_ gd.1;obtain⟨l',xs,Jp,hl,hlen⟩:=kr m'.Jg zs;rw[a1]at Jp;cases Jp;obtain⟨Rk,m3⟩:=m'.write (ys:=xs.take z.toNat++v::xs.drop z.toNat) (ds':=ds.take z.toNat++p.1::ds.drop z.toNat) zs a1 hl o.rep o.Je hb fun fi hm=>by obtain⟨f1,f2,s1,s2,s3⟩:=hm.split z.toNat;refine⟨f1++(fv++f2),[],s1.append (.cons o.rep s2),?_⟩;rw[aal,<- s3,<- H_,<- H_];exact List.Perm.append_right _ aaB
       exact⟨l,xs,z,v,rfl,rfl,hl,gz.1,by rw[hlen];exact gz.2,by rw[hlen];exact jR gd.2,hp.ok _ _ _ _ m3⟩
     |_=>exact hp.no.elim
   |_=>exact hp.no.elim
  |_=>exact q0.no.elim
end
section
variable {Z:Sg}{CX:JD}{cl:Nat->List D->Res D}{X:Cx}{G:Gm}
theorem rL {K:Frag}{F:Ω->Prop}{H:Hp}:∀ {ns:List Int}{xs:List V}{fi:List Ω},Hy K F H xs (ns.map .int) fi->xs=ns.map .int/\fi=[]
 |[],_,_,h=>by cases h;exact⟨rfl,rfl⟩
 |n::ns,_,_,h=>by
  cases h with
  |cons h1 h2=>cases h1;obtain⟨rfl,rfl⟩:=rL h2;exact⟨rfl,rfl⟩
theorem xp {K:Frag}{F:Ω->Prop}{H:Hp}:∀ns:List Int,Hy K F H (ns.map .int) (ns.map .int) []
 |[]=>.nil
 |n::ns=>.cons (.int n) (xp ns)
theorem ot {α β:Type}(f:α->β):∀(l:List α) (k:Nat),(l.map f).eraseIdx k=(l.eraseIdx k).map f
 |[],_=>rfl
 |_::_,0=>rfl
 |a::l,k+1=>congrArg (f a::·) (ot f l k)
theorem Ha (g:IV Z CX cl X G)  (h1:jw G i x=Θ)(O6:jw G j y=Θ)(h2:(apos.endLine == Iz.line)=Θ)(Vz:(LQ.endLine == KC.line)=Θ)(h3:notStar v=Θ)(h4:HE Z G e v=Θ) :
  PS X (.Expr (.Call (.Attribute (.Name x p) "append" apos) [.Call (.Attribute (.Name y p') "pop" LQ) [v] [] KC] [] Iz) pos) (RS X.K G.io (JM cl (.L9 i j e))):=by
 have pa:PA X [v] (kz (RD X.K (vars e) (HA cl e)) pQ):=ip (snd e X G v g h4).1 iK (fD h3 _ _);have J':((backTo KC (Ν [v] X.env)).all (fun x=>!x.1)&&(backToKw KC (keywordEach [] X.env)).all (fun x=>x.1.isSome)&&decide ([v].length+([]:List Keyword).length+(if([]:List Keyword).isEmpty then 0 else 1) < 30))=Θ:=by rw[fD h3];rfl
 have inner:=mE PySem.F.plainAttrs_list PySem.F.slot_list_pop PySem.F.type_list_pop vB (kP (pos:=p') g O6) pa rfl J' Vz (fD h3 _ _) rfl;have h5:notStar (.Call (.Attribute (.Name y p') "pop" LQ) [v] [] KC)=Θ:=rfl;have pa':=ip inner iK (fD h5 [] X.env);have Rp:((backTo Iz (Ν [.Call (.Attribute (.Name y p') "pop" LQ) [v] [] KC] X.env)).all (fun x=>!x.1)&&(backToKw Iz (keywordEach [] X.env)).all (fun x=>x.1.isSome)&&decide ([Expr.Call (.Attribute (.Name y p') "pop" LQ) [v] [] KC].length+([]:List Keyword).length+(if([]:List Keyword).isEmpty then 0 else 1) < 30))=Θ:=by rw[fD h5];rfl
 refine i3 (kx (mE PySem.F.plainAttrs_list PySem.F.slot_list_append PySem.F.type_list_append j7 (kP g h1) pa' rfl Rp h2 (fD h5 _ _) rfl)) fun Dn σ H h=>?_;obtain⟨B,F,τ,f,m,q⟩:=h;have q0:Hw (sI cl i j e τ (gV τ i) (gV τ j)) (Fk X.K B Dn):=q;cases zi:gV τ i with
 |none=>rw[zi]at q0;exact q0.no.elim
 |some di=>
  rw[zi]at q0
  induction di using zD with
  |lst oi es=>
   induction oi using zB with
   |false=>exact q0.no.elim
   |true=>
    cases zj:gV τ j with
    |none=>rw[zj]at q0;exact q0.no.elim
    |some dj=>
     rw[zj]at q0
     induction dj using zD with
     |lst oj ds=>
      induction oj using zB with
      |false=>exact q0.no.elim
      |true=>
       have q1:Hw (Hn (HA cl e τ) (sG i j es ds τ)) (Fk X.K B Dn):=q0;obtain⟨l,xs,Jp,hl,hlen⟩:=kr m.Jg zi;obtain⟨l',PY,Lc,QS,YM⟩:=kr m.Jg zj;refine⟨.ref l,Jp,.inl ⟨rfl,xs,.inl (.inl hl)⟩,.ref l',Lc,.inl ⟨rfl,PY,.inl (.inl QS)⟩,m.rd (Hw.Hn q1) fun d w H1 m1 e1 mw q2=>?_⟩
       induction d using zD with
       |int z=>
        cases mw.ID;have q3:Hw (wy i j es τ z (iI ds)) (Fk X.K B Dn):=q2;cases za:iI ds with
        |none=>rw[za]at q3;exact q3.no.elim
        |some ns=>
         rw[za]at q3;obtain⟨gd,q4⟩:=Hw.HB q3;simp only[h_]at gd;obtain⟨⟨TZ,gd2⟩,gd3⟩:=gd;have TZ:0<=z/\z.toNat < ns.length/\ns.length<=1000:=q_ TZ;have T2:i≠j:=by simpa using gd3
         rw[jS za]at zj;obtain⟨l2,Ma,MF,MZ,YN⟩:=kr m1.Jg zj;rw[Lc]at MF;cases MF;have Rq:Ma=ns.map .int:=by
          obtain⟨v0,YL,g0,c1,c2,c3,c4⟩:=m1.Jg.at zj;rw[Lc]at c1;cases c1;cases c2 with
          |Jl hF hH hm=>rw[MZ]at hH;cases hH;exact(rL hm).1
         subst Rq;obtain⟨f2,m2⟩:=m1.write (w:=.IB) (d:=.IB) (fv:=[]) (ys:=(ns.eraseIdx z.toNat).map .int) (ds':=(ns.eraseIdx z.toNat).map .int) zj Lc MZ .IB (by simpa using m1.Je) (fun a ha=>by cases ha) fun fi hm=>by obtain⟨_,rfl⟩:=rL hm;exact⟨[],[],xp _,.refl _⟩
         have YO:gV (τ.set j (Δ (.lst Θ ((ns.eraseIdx z.toNat).map .int)))) i=Δ (.lst Θ es):=by rw[<- zi];unfold gV;rw[aas (fun h=>T2 h.symm)]
         obtain⟨l3,YQ,Rr,YR,Rt⟩:=kr m2.Jg YO;rw[Jp]at Rr;cases Rr;obtain⟨f3,m3⟩:=m2.write (w:=.int (ns.getD z.toNat 0)) (d:=.int (ns.getD z.toNat 0)) (fv:=[]) (ys:=YQ++[.int (ns.getD z.toNat 0)]) (ds':=es++[.int (ns.getD z.toNat 0)]) YO Jp YR (.int _) (by simpa using m2.Je) (fun a ha=>by cases ha) fun fi hm=>hm.snoc (.int _);refine⟨l',_,z,z.toNat,.int (ns.getD z.toNat 0),rfl,rfl,MZ,by omega,by omega,?_,?_,?_⟩
         ·rw[g_];refine(oJ ?_).1;unfold Kc;rw[f_ TZ.1,f_ (by omega)]
         ·rw[A_,aaa,x_ TZ.2.1];rfl
         ·rw[ot];exact⟨l,YQ,_,rfl,rfl,YR,by rw[Rt];exact jR gd2,q4.ok _ _ _ _ m3⟩
       |_=>exact q2.no.elim
     |_=>exact q0.no.elim
  |_=>cases gV τ j<;>exact q0.no.elim
noncomputable abbrev Cx.nx (X:Cx):Cx:={X with xe:=fun _ _=>False}
theorem Inv.Ru (I:Inv X pins σ H s):Inv X.nx pins σ H s:=by obtain⟨o,h1,h2,h3,h4,h5,h6,h7,h8,h9,LK⟩:=I;obtain⟨o1,o2,o3,o4,o5,o6,o7,o8,o9,VP,LR,VQ,LS,VR,VS,VT,VU,VW⟩:=o;exact⟨⟨o1,o2,o3,o4,o5,o6,o7,o8,o9,VP,LR,VQ,LS,VR,VS,VT,VU,VW⟩,h1,h2,h3,h4,h5,h6,h7,h8,h9,LK⟩
theorem Inv.LU (I:Inv X.nx pins σ H s):Inv X pins σ H s:=by obtain⟨o,h1,h2,h3,h4,h5,h6,h7,h8,h9,LK⟩:=I;obtain⟨o1,o2,o3,o4,o5,o6,o7,o8,o9,VP,LR,VQ,LS,VR,VS,VT,VU,VW⟩:=o;exact⟨⟨o1,o2,o3,o4,o5,o6,o7,o8,o9,VP,LR,VQ,LS,VR,VS,VT,VU,VW⟩,h1,h2,h3,h4,h5,h6,h7,h8,h9,LK⟩
theorem xq (g:IV Z CX cl X G):IV Z CX cl X.nx {G with rs:=Ξ,tr:=Ξ} where
 N:=g.N
 Je:=g.Je
 calm:=g.calm
 fk:=g.fk
 un:=g.un
 own:=fun z=>by cases z
 kd:=g.kd
 MD:=g.MD
 gl:=g.gl
 NC:=g.NC
 df:=g.df
 blt:=g.blt
 cst:=g.cst
 fns:=g.fns
 P7:=⟨fun _ _ _=>False,fun pins σ H s e s' _ h=>g.P8 _ _ _ _ _ h⟩
 Mi:=g.Mi
 P8:=g.P8
theorem Hb (g:IV Z CX cl X G)  (ha:Ks X.nx b (RS X.K G.io (ia cl a))):PS X (.Try b (h0::hs) [] [] pos) (RS X.K G.io (JM cl (.L' a))):=by
 intro pins s σ H Dn I ⟨B,F,τ,f,m,q⟩;have q':Hw (ia cl a τ) (Fk X.K B Dn):=by
  have q0:Hw ((ia cl a τ)) (Fk X.K B Dn):=q;cases z:ia cl a τ with
  |ok r=>rw[z]at q0;exact q0
  |error r=>rw[z]at q0;exact q0.no.elim
 refine wpAny_Try_except (wpAny_mono (ha pins s σ H Dn I.Ru ⟨B,F,τ,f,m,q'⟩) (fun fl s1 h=>?_) fun e s1 z=>z.elim);cases fl with
 |next=>obtain⟨Iw,H',J,k⟩:=h;exact wpAny_execs_nil ⟨Iw,H',J.LU,k⟩
 |brk=>obtain⟨Iw,H',J,k⟩:=h;exact⟨Iw,H',J.LU,k⟩
 |cont=>obtain⟨Iw,H',J,k⟩:=h;exact⟨Iw,H',J.LU,k⟩
 |ret u=>obtain⟨v,Iw,H',J,r,k⟩:=h;exact⟨v,Iw,H',J.LU,r,k⟩
end
section
variable {Z:Sg}{CX:JD}{cl:Nat->List D->Res D}{X:Cx}{G:Gm}{pins:List (Ω×Obj)}
theorem IX.put {io:Option Nat}{B:Bs io}{F:Ω->Prop}{H:Hp}{σ:St}{τ:Ev}{f fv:List Ω}{v:V}{d:D}(i:Nat)(m:IX X.K B F H σ τ f)(mv:IA X.K F H v d fv)(nd:(fv++f).Nodup)(hb:∀a∈fv,B.H a=Φ)(MH:io≠Δ i):∃f',IX X.K B F H (σ.set i (Δ v)) (τ.set i (Δ d)) f':=by obtain⟨g',h',r0,p0⟩:=m.Jg.put i mv;have Pc:(g'++h').Nodup:=p0.nodup_iff.mpr nd;exact⟨g',m.IK,r0,(r_.mp Pc).1,m.same,fun b KY=>(s_.mp (p0.subset (t_ _ KY))).elim (hb b) (m.own b),m.J6,m.out,m.pin,m.MG,fun j a e1 e2=>(aas (fun z=>MH (by rw[z];exact e1))).trans (m.nm j a e1 e2)⟩
end
theorem Dl {σ:St}{i:Nat}{v:V}(Jp:σ[i]? = Δ (Δ v)):σ.set i (Δ v)=σ:=by
 apply List.ext_getElem?;intro j;rw[List.getElem?_set];by_cases hj:i=j
 ·subst hj;rw[f_ rfl,f_ (p_.mp Jp).1,Jp]
 ·rw[d_ hj]
theorem Hy.part {K:Frag}{F:Ω->Prop}{H:Hp}{es:List D}:∀(ds:List D) (k:Nat) (vs:List V) (f:List Ω),Hy K F H vs ds f->ds[k]? = Δ (.lst Θ es)->∃l xs fi p q,vs[k]? = Δ (.ref l)/\¬F l/\H l=Δ (.lst xs)/\Hy K F H xs es fi/\f=p++((l::fi)++q)/\
  ∀(H':Hp) (es':List D),(∀a (u:LD),F a->Rd H a u.o->F a/\Rd H' a u.o)->(∀a xs,IP K H a xs->IP K H' a xs)->(∀a∈p++q,H' a=H a)->IA K F H' (.ref l) (.lst Θ es') (l::fi)->Hy K F H' vs (ds.set k (.lst Θ es')) f:=by
 intro ds
 induction ds with
 |nil=>intro k vs f h hk;simp at hk
 |cons d ds ih=>
  intro k vs f h hk;cases h with
  | @cons v _ f0 U' _ g0 h1 h2=>
   cases k with
   |zero=>
    rw[List.getElem?_cons_zero]at hk;cases hk;cases h1 with
    | @Jl a xs _ fi hF hH hm=>refine⟨a,xs,fi,[],g0,rfl,hF,hH,hm,rfl,fun H' es' sl st k m=>?_⟩;exact .cons m (h2.step sl st fun b hb n _=>⟨n,k b (by simpa using hb)⟩)
   |succ k=>rw[aaI]at hk;obtain⟨l,xs,fi,p,q,a1,a2,a3,a4,a5,a6⟩:=ih k U' g0 h2 hk;refine⟨l,xs,fi,f0++p,q,by rw[aaI];exact a1,a2,a3,a4,by rw[a5,H_],fun H' es' sl st k m=>?_⟩;exact .cons (h1.step sl st fun b hb n _=>⟨n,k b (t_ _ (t_ _ hb))⟩) (a6 H' es' sl st (fun b hb=>k b ((s_.mp hb).elim (fun z=>t_ _ (v_ _ z)) fun z=>v_ _ z)) m)
theorem IX.ML {K:Frag}{io:Option Nat}{B:Bs io}{F:Ω->Prop}{H:Hp}{σ:St}{τ:Ev}{f:List Ω}{i k:Nat}{ds es es':List D}(m:IX K B F H σ τ f)(zs:gV τ i=Δ (.lst Θ ds))(hk:ds[k]? = Δ (.lst Θ es))(lf:gW es=Θ)(VX:gW es'=Θ) :
  ∃a l xs ys,σ[i]? = Δ (Δ (.ref a))/\H a=Δ (.lst xs)/\xs[k]? = Δ (.ref l)/\xs.length=ds.length/\H l=Δ (.lst ys)/\ys.length=es.length/\Hq K (fun _=>True) H ys es/\
   ∀zs,Hq K (fun _=>True) H zs es'->∃f',IX K B F (upd H l (.lst zs)) σ (τ.set i (Δ (.lst Θ (ds.set k (.lst Θ es'))))) f':=by
 obtain⟨v,fs,g,Jp,h2,hr,h4⟩:=m.Jg.at zs;cases h2 with
 | @Jl a xs VH fi hF hH hm=>
  obtain⟨l,ys,fj,p,q,b1,b2,b3,b4,b5,put⟩:=Hy.part ds k xs fi hm hk;have ej:=b4.noF lf;subst ej;refine⟨a,l,xs,ys,Jp,hH,b1,hm.length,b3,b4.length,b4.read (fun _ _=>trivial) fun _ _=>trivial,fun zs hz=>?_⟩;subst b5;have Pc:((a::(p++([l]++q)))++g).Nodup:=h4.nodup_iff.mp m.Je;have pm:((a::(p++([l]++q)))++g).Perm (l::(a::(p++q++g))):=by simp only[c_,H_,List.nil_append];refine(List.Perm.cons a List.perm_middle).trans ?_;exact List.Perm.swap _ _ _
  have nl:l∉a::(p++q++g):=(L_.mp (pm.nodup_iff.mp Pc)).1;have al:a≠l:=fun z=>nl (by rw[z];exact k_.mpr (.inl rfl));have sl:∀b (u:LD),F b->Rd H b u.o->F b/\Rd (upd H l (.lst zs)) b u.o:=fun b xs h r=>by refine⟨h,?_⟩;have:b≠l:=fun z=>b2 (by rw[<- z];exact h);unfold Rd;rw[gX this];exact r
  have st:∀b xs,IP K H b xs->IP K (upd H l (.lst zs)) b xs:=fun b xs h=>h.upd b3;have r1:IM K F (upd H l (.lst zs)) σ (τ.set i Φ) g:=hr.step sl st fun b ha n _=>⟨n,gX fun z=>nl (by rw[<- z];exact K_ _ (v_ _ ha))⟩
  have mz:Hy K F (upd H l (.lst zs)) zs es' []:=(Hq.free VX hz).step sl st iZ;have m0:IA K F (upd H l (.lst zs)) (.ref l) (.lst Θ es') [l]:=.Jl b2 gZ mz;have m1:IA K F (upd H l (.lst zs)) (.ref a) (.lst Θ (ds.set k (.lst Θ es'))) (a::(p++([l]++q))):=.Jl hF (by rw[gX al];exact hH) (put _ _ sl st (fun b hb=>gX fun z=>nl (by rw[<- z];exact K_ _ (t_ _ hb))) m0);obtain⟨g',h',r2,p2⟩:=r1.put i m1;rw[Dl Jp,List.set_set]at r2;have M3:(g'++h').Nodup:=p2.nodup_iff.mpr Pc;have lB:B.H l=Φ:=m.own l (h4.mem_iff.mpr (by simp));refine⟨g',fun b h=>?_,r2,(r_.mp M3).1,fun b o MI=>?_,fun b ha=>?_,m.J6,m.out,fun b xs h=>⟨(m.pin b xs h).1,(sl b xs (m.pin b xs h).1 (m.pin b xs h).2).2⟩,fun b xs h=>st b xs (m.MG b xs h),m.nm⟩
  ·have:b≠l:=fun z=>b2 (by rw[<- z];exact h);rw[gX this];exact m.IK b h
  ·have:b≠l:=fun z=>by rw[z,lB]at MI;cases MI
   rw[gX this];exact m.same _ _ MI
  ·exact m.own b (h4.mem_iff.mpr (p2.mem_iff.mp (t_ _ ha)))
section
variable {K:Frag}{io:Option Nat}{B:Bs io}{F:Ω->Prop}{H:Hp}{σ:St}{τ:Ev}{f:List Ω}
theorem kR (r:IM K F H σ τ f)  (hv:Hx K (fun _=>True) H v d)(j:Nat):Slots K (fun _=>True) H (σ.set j (Δ v)) (τ.set j (Δ d)) is:=fun a ha d' z=>by
 by_cases hj:j=a
 ·subst hj;rw[lK]at z;by_cases hl:j < τ.length
  ·rw[f_ ⟨rfl,hl⟩]at z;cases z;exact⟨v,List.getElem?_set_self (by rw[r.len];exact hl),hv⟩
  ·rw[d_ (fun z=>hl z.2)]at z;obtain⟨_,_,_,h,_⟩:=r.at z;have:=(p_.mp h).1;rw[r.len]at this;exact absurd this hl
 ·rw[lK,d_ (fun z=>hj z.1)]at z;obtain⟨v',h1,h2⟩:=iN (is:=[a]) r a (o_.mpr rfl) d' z;exact⟨v',by rw[aas hj];exact h1,h2⟩
theorem IM.forget:∀ {σ:St}{τ:Ev}{f:List Ω} (j:Nat) (o:Option V),IM K F H σ τ f->∃g h,IM K F H (σ.set j o) (τ.set j Option.none) g/\(g++h).Perm f
 |_,_,_,_,_,.nil=>⟨[],[],.nil,.refl _⟩
 |_,_,_,0,_,.none h=>⟨_,[],.none h,by rw[aal]⟩
 |_,_,_,0,_,.some (f:=f0) (g:=g0) m h=>⟨g0,f0,.none h,aaB⟩
 |_,_,_,j+1,o,.none h=>by obtain⟨g,h',h1,h2⟩:=IM.forget j o h;exact⟨g,h',.none h1,h2⟩
 |_,_,_,j+1,o,.some (f:=f0) (g:=g0) m h=>by obtain⟨g,h',h1,h2⟩:=IM.forget j o h;exact⟨f0++g,h',.some m h1,by rw[H_];exact aaA f0 h2⟩
theorem IX.forget (m:IX K B F H σ τ f)(j:Nat)(o:Option V)(hj:io≠Δ j):∃f',IX K B F H (σ.set j o) (τ.set j Φ) f':=by
 obtain⟨g,h,r,p⟩:=m.Jg.forget j o;have nd:(g++h).Nodup:=p.nodup_iff.mpr m.Je
 exact⟨g,m.IK,r,(r_.mp nd).1,m.same,fun a ha=>m.own a (p.mem_iff.mp (t_ _ ha)),m.J6,m.out,m.pin,m.MG,fun j' a e1 e2=>by
  rw[aas (fun z=>hj (by rw[z];exact e1))]
  exact m.nm j' a e1 e2⟩
end
section
variable {Z:Sg}{CX:JD}{cl:Nat->List D->Res D}{X:Cx}{G:Gm}
theorem sZ:∀ {τ:Ev}{j:Nat},rq τ j=Θ->j < τ.length
 |[],_,h=>by cases h
 |_::_,0,_=>Nat.succ_pos _
 |_::τ,j+1,h=>Nat.succ_lt_succ (sZ (τ:=τ) h)
theorem Hq.Rv {K:Frag}{S:Ω->Prop}{H:Hp}{v:V}{d:D}(hv:Hx K S H v d):∀ {vs:List V}{ds:List D} (t:Nat),Hq K S H vs ds->Hq K S H (vs.set t v) (ds.set t d)
 |_,_,_,.nil=>.nil
 |_,_,0,.cons h1 h2=>.cons hv h2
 |_,_,t+1,.cons h1 h2=>.cons h1 (Hq.Rv hv t h2)
theorem tf (hd:hE d=Θ):∀ {ds:List D} (t:Nat),gW ds=Θ->gW (ds.set t d)=Θ
 |[],_,h=>h
 |e::ds,0,h=>by have h':=D_.mp (show(hE e&&gW ds)=Θ from h);show(hE d&&gW ds)=Θ;rw[hd,h'.2];rfl
 |e::ds,t+1,h=>by have h':=D_.mp (show(hE e&&gW ds)=Θ from h);show(hE e&&gW (ds.set t d))=Θ;rw[h'.1,tf hd t h'.2];rfl
theorem xr (hd:hE d=Θ)  (h:gW ds=Θ):gW (ds++[d])=Θ:=by rw[iR]at h ⊢;rw[List.all_append,h];show(hE d&&Θ)=Θ;rw[hd];rfl
theorem Ae (g:IV Z CX cl X G)  (h:sY Z G i j e c x v w s s'=Θ)(hr:Ks X ss (RS X.K G.io (ia cl as))):Ks X (s::s'::ss) (RS X.K G.io (ia cl (.Nz i j e c x v w::as))):=by
 unfold sY at h;rw[h_]at h;obtain⟨ha,hb⟩:=h;obtain⟨t,xi,p1,se,sp,VY,rfl,Rc⟩:=Df ha;obtain⟨ce,y,p2,sx,sp2,ve,vp,y',p3,name,apos,we,Iz,ep,abi,rfl,KY⟩:=Dj hb;simp only[h_]at Rc KY;obtain⟨⟨⟨⟨⟨hn,hT⟩,hi⟩,hse⟩,he⟩,T2⟩:=Rc;obtain⟨⟨⟨⟨⟨⟨⟨⟨⟨hc,hj1⟩,hsx⟩,hx⟩,hv⟩,N7⟩,NI⟩,hli⟩,Jj⟩,hw⟩:=KY;have T2:i≠j:=q_ T2;have en:=i_ NI;subst en
 induction t using zE with
 |Name yt py=>
  have Li:(G.N[j]? == Δ yt&&(G.kd[j]? == Δ .local||(G.df&&G.kd[j]? == Δ .cell)))=Θ:=(D_.mp hT).1;have VZ:G.io≠Δ j:=by simpa using(D_.mp hT).2
  rw[h_,aaf,h_]at Li;have YT:G.N[j]? = Δ yt:=i_ Li.1;have hk:=g.kd j yt YT;have MJ:Loc X.env.scope yt:=Li.2.elim (fun z=>.inl (hk.trans (i_ z))) fun z=>.inr (hk.trans (i_ z.2));have Nf:X.fn yt=Θ∨X.env.scope.names.lookup yt=Δ .local:=Li.2.elim (fun z=>.inr (hk.trans (i_ z))) fun z=>.inl (g.df z.1 yt);have P1:PS X (.Assign [.Name yt py] (.Subscript (.Name xi p1) se sp) VY) _:=qP (i:=j) (by rw[g.N];exact g.Je) (by rw[g.N];exact YT) MJ (A8 sh (kP g hi) (snd e X G se g he).1 (fun o i=>by cases se<;>first|rfl|cases hse)) rfl Nf;have Pa:PS X (.Assign [.Subscript (.Name y p2) sx sp2] ve vp) _:=vi (snd v X G ve g hv).1 (BY (kP g hj1) (snd x X G sx g hx).1 set_list (by intro _;cases sx<;>first|rfl|cases hsx)) (by cases ve<;>rfl) (by cases ve<;>rfl) rfl;have pa:PA X [we] (kz (RD X.K (vars w) (HA cl w)) pQ):=ip (snd w X G we g hw).1 iK (fD Jj _ _);have J':((backTo Iz (Ν [we] X.env)).all (fun x=>!x.1)&&(backToKw Iz (keywordEach [] X.env)).all (fun x=>x.1.isSome)&&decide ([we].length+([]:List Keyword).length+(if([]:List Keyword).isEmpty then 0 else 1) < 30))=Θ:=by rw[fD Jj];rfl
  have Pb:PS X (.Expr (.Call (.Attribute (.Name y' p3) "append" apos) [we] [] Iz) ep) _:=kx (mE PySem.F.plainAttrs_list PySem.F.slot_list_append PySem.F.type_list_append j7 (kP g N7) pa rfl J' hli (fD Jj _ _) rfl);refine ma (jY P1 (jY (A5 (snd c X G ce g hc).2 (jY Pa oI) (jY Pb oI)) hr)) fun Dn σ H ⟨B,F,τ,f,m,q⟩=>?_;have q00:=Hw.Hn (show Hw (Hn (wx cl i j e c x v w τ (gV τ i)) fun fl=>match fl with|.nx τ'=>ia cl as τ'|.ct τ'=>.ok (.ct τ')|.bk τ'=>.ok (.bk τ')|.rt d=>.ok (.rt d)|.ri d ks vs=>.ok (.ri d ks vs)) (Fk X.K B Dn) from q);obtain⟨KK,YU,q0⟩:∃KK:Fl->Prop,(∀τ',KK (.nx τ')->Hw (ia cl as τ') (Fk X.K B Dn))/\Hw (wx cl i j e c x v w τ (gV τ i)) KK:=⟨_,fun τ' z=>z,q00⟩
  cases zs:gV τ i with
  |none=>rw[zs]at q0;exact q0.no.elim
  |some dd=>
   rw[zs]at q0
   induction dd using zD with
   |lst ow ds=>
    induction ow using zB with
    |false=>exact q0.no.elim
    |true=>
     have q1:=Hw.Hn (show Hw (Hn (HA cl e τ) (zJ cl i j c x v w ds τ)) KK from q0);obtain⟨l0,TY,Jp,Vk,hlen⟩:=kr m.Jg zs;refine⟨.ref l0,Jp,m.rd q1 fun yv wv H1 m1 e1 mw q2=>?_⟩
     induction yv using zD with
     |int z=>
      cases mw.ID;have q2:Hw (rz cl i j c x v w ds τ (Kc ds.length z)) KK:=q2;cases V0:Kc ds.length z with
      |none=>rw[V0]at q2;exact q2.no.elim
      |some k=>
       rw[V0]at q2;cases T3:ds[k]? with
       |none=>unfold rz at q2;simp only[T3]at q2;exact q2.no.elim
       |some dk=>
        have q3:Hw (match(Δ dk:Option D) with|some (.lst Θ es)=>HB (gW es&&rq τ j) (Hn (Hn (HA cl c (τ.set j (Δ (.lst Θ es)))) il) (uN cl i j k x v w ds es τ))|_=>Ir) KK:=by unfold rz at q2;simp only[T3]at q2;exact q2
        induction dk using zD with
        |lst ow es=>
         induction ow using zB with
         |false=>exact q3.no.elim
         |true=>
          obtain⟨V1,q4⟩:=Hw.HB q3;rw[h_]at V1;have Rw:=V1.1;have Q9:j < σ.length:=by rw[m.Jg.len];exact sZ V1.2
          obtain⟨a,l,xs,ys,b1,b2,b3,b4,b5,b6,b7,_⟩:=m1.ML (es':=es) zs T3 Rw Rw;rw[Jp]at b1;cases b1;have V2:Hx X.K (fun _=>True) H1 (.ref l) (.lst Θ es):=.lst trivial (.inl b5) b7;refine⟨l0,xs,z,.ref l,rfl,rfl,.inl (.inl b2),?_,?_⟩
          ·unfold JG;rw[b4,V0];exact b3
          ·have q5:=Hw.Hn q4;refine kj (.refl _) (kR m1.Jg V2 j) q5 fun r H2 e2 _ q6=>?_;have m2:=m1.grow e2;have Pd:Hx X.K (fun _=>True) H2 (.ref l) (.lst Θ es):=V2.mono (fun _ z=>z) e2;have MZ:H2 l=Δ (.lst ys):=e2 _ _ b5;have fin:∀(H3:Hp) (e3:g7 H2 H3) (es':List D) (T4:List V),gW es'=Θ->Hq X.K (fun _=>True) H3 T4 es'->Hw (ia cl as ((τ.set i (Δ (.lst Θ (ds.set k (.lst Θ es'))))).set j Φ)) (Fk X.K B Dn)->RS X.K G.io (ia cl as) Dn (σ.set j (Δ (.ref l))) (upd H3 l (.lst T4)):=by intro H3 e3 es' T4 VX hz hq;have m3:=m2.grow e3;obtain⟨a',l',PY,ys',c1,c2,c3,c4,c5,c6,c7,wr⟩:=m3.ML (es':=es') zs T3 Rw VX;rw[Jp]at c1;cases c1;rw[e3 _ _ (e2 _ _ b2)]at c2;cases c2;rw[b3]at c3;cases c3;obtain⟨f4,m4⟩:=wr T4 hz;obtain⟨f5,m5⟩:=m4.forget j (Δ (.ref l)) VZ;exact⟨B,F,_,f5,m5,hq⟩
           have YV:(σ.set j (Δ (.ref l)))[j]? = Δ (Δ (V.ref l)):=List.getElem?_set_self Q9
           induction r using zB with
           |true=>
            have q6:Hw (Hn (HA cl v (τ.set j (Δ (.lst Θ es)))) fun d=>Hn (HA cl x (τ.set j (Δ (.lst Θ es)))) (zH i j k ds es τ d)) KK:=q6;refine iq (.refl _) (kR m2.Jg Pd j) (Hw.Hn q6) fun d vv H3 e3 _ mv q7=>?_;have m3:=m2.grow e3;refine⟨.ref l,YV,iq (.refl _) (kR m3.Jg (Pd.mono (fun _ z=>z) e3) j) (Hw.Hn q7) fun y4 w4 H4 e4 _ mw4 q8=>?_⟩
            induction y4 using zD with
            |int z4=>
             cases mw4.ID;unfold zH at q8;cases Pe:Kc es.length z4 with
             |none=>simp only[Pe]at q8;exact q8.no.elim
             |some t=>simp only[Pe]at q8;obtain⟨lfd,q9⟩:=Hw.HB q8;refine⟨l,ys,z4,t,rfl,rfl,e4 _ _ (e3 _ _ MZ),by rw[b6];exact Pe,?_⟩;exact fin H4 (e3.trans e4) (es.set t d) (ys.set t vv) (tf lfd t Rw) (Hq.Rv (mv.mono (fun _ _=>trivial) e4) t (b7.mono (fun _ z=>z) (e2.trans (e3.trans e4)))) (YU _ q9.ok)
            |_=>exact q8.no.elim
           |false=>have q6:Hw (Hn (HA cl w (τ.set j (Δ (.lst Θ es)))) (CF i j k ds es τ)) KK:=q6;refine⟨.ref l,YV,.inl ⟨rfl,ys,.inl (.inl MZ)⟩,iq (.refl _) (kR m2.Jg Pd j) (Hw.Hn q6) fun d vv H3 e3 _ mv q7=>?_⟩;obtain⟨gd,q9⟩:=Hw.HB (show Hw (HB (hE d&&iV es.length) (.ok (.nx ((τ.set i (Δ (.lst Θ (ds.set k (.lst Θ (es++[d])))))).set j Φ)))) KK from q7);rw[h_]at gd;refine⟨l,ys,vv,rfl,rfl,e3 _ _ MZ,by rw[b6];exact jR gd.2,?_⟩;exact fin H3 e3 (es++[d]) (ys++[vv]) (xr gd.1 Rw) ((b7.mono (fun _ z=>z) (e2.trans e3)).append (.cons (mv.mono (fun _ _=>trivial) (.refl _)) .nil)) (YU _ q9.ok)
        |_=>exact q3.no.elim
     |_=>exact q2.no.elim
   |_=>exact q0.no.elim
 |_=>cases hn
end
theorem ou {K:Frag}{F:Ω->Prop}{H:Hp}:∀(ps:List Ω),(∀p∈ps,¬F p/\H p=Δ (.lst []))->Hy K F H (ps.map V.ref) (Τ ps.length (.lst Θ [])) ps
 |[],_=>.nil
 |p::ps,h=>by have h1:=h p (.head _);exact .cons (f:=[p]) (.Jl h1.1 h1.2 .nil) (ou ps fun q hq=>h q (.tail _ hq))
section
variable {Z:Sg}{CX:JD}{cl:Nat->List D->Res D}{X:Cx}{G G':Gm}{fr:List Nat}
def tLs (K:Frag)(cl:Nat->List D->Res D)(s:Sr):TE:=fun σ H Q=>∃S τ,Slots K S H σ τ (jD s)/\Hw (jG cl s τ) fun its=>its.length < Ζ/\
 ∀(A:Ω) (ps:List Ω) (H':Hp),g7 H H'->H A=Φ->H' A=Δ (.lst (ps.map V.ref))->ps.Nodup->A∉ps->(∀p∈ps,H p=Φ/\H' p=Δ (.lst []))->ps.length=its.length->Q (.ref A) H'
theorem xu (g:IV Z CX cl X G)  (hs:Lw Z G scope G' fr)(hT:i8 G' (.nm t) tg=Θ)
  (hi:PI X tg iter (RI X.K (jD s) (jG cl s))) (hf:∀x,foldedSetIterable iter X.env x=pure x):PE X (.ListComp (.List [] lp) [⟨tg,iter,[],0⟩] scope pos) (tLs X.K cl s):=by
 intro pins s' σ H Q Iv h;obtain⟨Ju,S⟩:=kc g Iv.ok hs;have p:=oQ (pos:=pos) (elt:=.List [] lp) (ifs:=[]) (tg:=tg) (g:=gT X.K (.nm t)) (tt:=RT X.K (hU []) (jX cl [])) (te:=Es pQ) (g.calm hs.cm) S hi (fun C s H fp=>N6 (iU g hs Ju C s H fp) (.nm t) tg hT) (fun C s H fp=>w8 [] _ G' [] (iU g hs Ju C s H fp) rfl) (fun C s H fp=>mC iK) hf;refine p pins s' σ H Q Iv ?_;obtain⟨S0,τ,KR,q⟩:=h;refine C3 (.refl _) KR q fun its J H1 e1 _ w1 q1 A hA=>?_;obtain⟨hsz,q1⟩:=q1;have VA:H A=Φ:=e1.free hA;refine⟨fun i m Iw H'=>m=its.length - i/\i<=its.length/\∃ps:List Ω,H' A=Δ (.lst (ps.map V.ref))/\ps.length=i/\ps.Nodup/\A∉ps/\(∀p∈ps,H1 p=Φ/\H' p=Δ (.lst []))/\g7 H1 H',⟨its.length,by simp,Z_ _,[],gZ,rfl,List.nodup_nil,by simp,fun p hp=>by simp at hp,.upd hA⟩,?_⟩;rintro i m Iw H' ⟨rfl,hi,ps,a1,a2,a3,a4,a5,a6⟩;by_cases IQ:i < its.length
 ·refine .inr ⟨(w1.mono (fun _ z=>z) a6).go IQ,fun x H2 Rj=>?_⟩;obtain⟨eH,mx⟩:=(w1.mono (fun _ z=>z) a6).MR Rj (d:=its[i]) (by simp[IQ]);show RT X.K (hU []) (jX cl []) (Iw.set t (Δ x)) H2 _;refine kj (S:=fun _=>True) (τ:=[]) (.refl _) (fun k hk=>by simp[hU]at hk) (show Hw (jX cl [] []) (fun b=>b=Θ) from rfl) fun b H4 e4 _ hb=>?_;subst hb;rw[f_ rfl];have eA:=e4 _ _ (eH _ _ a1);refine⟨by simp,fun q hq=>?_⟩;have qA:q≠A:=fun z=>by rw[z,eA]at hq;cases hq
  have YW:q∉ps:=fun z=>by rw[e4 _ _ (eH _ _ (a5 q z).2)]at hq;cases hq
  refine⟨ps.map V.ref,by rw[gX (Ne.symm qA)];exact eA,by rw[g_,a2];omega,its.length - (i+1),by omega,rfl,IQ,ps++[q],?_,by rw[w_,a2];rfl,?_,?_,fun p hp=>?_,?_⟩
  ·rw[gZ,C_];rfl
  ·refine r_.mpr ⟨a3,by simp,fun a ha b hb e=>?_⟩;rw[o_.mp hb]at e;exact YW (e ▸ ha)
  ·intro z;rcases s_.mp z with z|z
   ·exact a4 z
   ·exact qA (o_.mp z).symm
  ·have hpA:p≠A:=by
    rcases s_.mp hp with z|z
    ·exact fun y=>a4 (y ▸ z)
    ·rw[o_.mp z];exact qA
   rw[gX hpA];rcases s_.mp hp with z|z
   ·rw[gX (fun(y:p=q)=>YW (y ▸ z))];exact⟨(a5 p z).1,e4 _ _ (eH _ _ (a5 p z).2)⟩
   ·rw[o_.mp z,gZ];exact⟨a6.free (eH.free (e4.free hq)),rfl⟩
  ·intro b o hb;have hbA:b≠A:=by rintro rfl;rw[hA]at hb;cases hb
   have hbq:b≠q:=by rintro rfl;rw[e4 _ _ (eH _ _ (a6 _ _ hb))]at hq;cases hq
   rw[gX hbA,gX hbq];exact e4 _ _ (eH _ _ (a6 _ _ hb))
 ·have e:i=its.length:=by omega
  subst e;exact .inl ⟨(w1.mono (fun _ z=>z) a6).stop rfl,q1 A ps H' (e1.trans a6) VA a1 a3 a4 (fun p hp=>⟨e1.free (a5 p hp).1,(a5 p hp).2⟩) a2⟩
theorem Hg (g:IV Z CX cl X G){j t:Nat}{src:Sr}{st:Stmt}(h:TN st (fun tg e=>isName tg&&i8 G (.nm j) tg&&HE Z G (.comp G' fr (.nm t) src [] (.lst [])) e)=Θ) :
  PS X st (RS X.K G.io (JM cl (.P4 j G' fr t src))):=by
 obtain⟨tgt,e,lp,lq,bp,pos,rfl,h0⟩:=De h;simp only[h_]at h0;obtain⟨⟨hn,hT⟩,hc⟩:=h0
 induction e using zE with
 |ListComp el gens scope Md=>
  have hv:rD gens (fun t' it fs=>iW Z G scope G' fr&&i8 G' (.nm t) t'&&(J5 (.nm t)).all (fun i=>decide (fr.length<=i))&&(jx Z G src it&&lH src t')&&iM Z G' [] fs&&HE Z G' (.lst []) el)=Θ:=hc;obtain⟨t',it,fs,rfl,N2⟩:=mi hv;simp only[h_]at N2;obtain⟨⟨⟨⟨⟨k1,k2⟩,k3⟩,k4,k5⟩,k6⟩,k7⟩:=N2
  induction fs using zL with
  |cons _ _=>exact dn k6
  |nil=>
  induction el using zE with
  |List l V3=>
   induction l using zL with
   |cons _ _=>exact dn k7
   |nil=>
   induction tgt using zE with
   |Name y py=>
    have Li:(G.N[j]? == Δ y&&(G.kd[j]? == Δ .local||(G.df&&G.kd[j]? == Δ .cell)))=Θ:=(D_.mp hT).1;have VZ:G.io≠Δ j:=by simpa using(D_.mp hT).2
    rw[h_,aaf,h_]at Li;have hx:G.N[j]? = Δ y:=i_ Li.1;have hk:=g.kd j y hx;have MJ:Loc X.env.scope y:=Li.2.elim (fun z=>.inl (hk.trans (i_ z))) fun z=>.inr (hk.trans (i_ z.2));have Nf:X.fn y=Θ∨X.env.scope.names.lookup y=Δ .local:=Li.2.elim (fun z=>.inr (hk.trans (i_ z))) fun z=>.inl (g.df z.1 y);have pe:=xu (lp:=V3) (pos:=Md) g (mj k1) k2 (xb src X G it t' g k4 k5) (fun x=>jd k4 X.env x);refine i3 (qP (i:=j) (by rw[g.N];exact g.Je) (by rw[g.N];exact hx) MJ (sd (pos:=bp) ph pe (mC (pos:=lq) (ip (mC (pos:=lp) iK) iK (fD (e:=.List [] lp) rfl _ _)))) rfl Nf) fun Dn σ H hh=>?_;obtain⟨B,F,τ,f,m,q⟩:=hh;have q0:Hw (Hn (jG cl src τ) (zG j τ)) (Fk X.K B Dn):=q;refine⟨fun _=>True,τ,iN m.Jg,(Hw.Hn q0).mono fun its q1=>?_⟩;obtain⟨gd,q1⟩:=Hw.HB (show Hw (HB (iV its.length) (.ok (.nx (τ.set j (Δ (.lst Θ (Τ (its.length+1) (.lst Θ [])))))))) (Fk X.K B Dn) from q1);have hsz:=jR gd;refine⟨hsz,fun A ps H1 e1 hA hA1 nd nA Rx hlen=>?_⟩;refine⟨Z_ _,fun r hr=>⟨(by show 1<=Ζ;decide),fun A2 hA2=>?_⟩⟩;have e2:g7 H1 (upd H1 r (.lst [])):=.upd hr;have e3:g7 (upd H1 r (.lst [])) (upd (upd H1 r (.lst [])) A2 (.lst [.ref r])):=.upd hA2;refine⟨A,A2,ps.map V.ref,[.ref r],rfl,rfl,.inl (.inl (e3 _ _ (e2 _ _ hA1))),.inl (.inl gZ),by rw[g_,hlen];show its.length+1<=_;omega,fun A3 Qe=>?_⟩;have e4:g7 (upd (upd H1 r (.lst [])) A2 (.lst [.ref r])) (upd (upd (upd H1 r (.lst [])) A2 (.lst [.ref r])) A3 (.lst (ps.map V.ref++[.ref r]))):=.upd Qe;have V4:=e1.trans (e2.trans (e3.trans e4));have m1:=m.grow V4;have YX:H r=Φ:=e1.free hr;have YY:H A3=Φ:=(e1.trans (e2.trans e3)).free Qe;have nF:∀b,H b=Φ->¬F b:=fun b hb z=>m.IK b z hb;have rH1:r∉ps:=fun z=>by rw[(Rx r z).2]at hr;cases hr
    have V5:A3∉ps:=fun z=>by rw[e3 _ _ (e2 _ _ (Rx A3 z).2)]at Qe;cases Qe
    have a3r:A3≠r:=fun z=>by rw[z,e3 _ _ gZ]at Qe;cases Qe
    have mv:IA X.K F (upd (upd (upd H1 r (.lst [])) A2 (.lst [.ref r])) A3 (.lst (ps.map V.ref++[.ref r]))) (.ref A3) (.lst Θ (Τ (its.length+1) (.lst Θ []))) (A3::(ps++[r])):=by
     refine .Jl (nF A3 YY) gZ ?_;have:=ou (K:=X.K) (F:=F) (H:=upd (upd (upd H1 r (.lst [])) A2 (.lst [.ref r])) A3 (.lst (ps.map V.ref++[.ref r]))) (ps++[r]) fun p hp=>by
      rcases s_.mp hp with z|z
      ·exact⟨nF p (Rx p z).1,e4 _ _ (e3 _ _ (e2 _ _ (Rx p z).2))⟩
      ·rw[o_.mp z];exact⟨nF r YX,e4 _ _ (e3 _ _ gZ)⟩
     rw[C_,w_,hlen]at this;exact this
    have N8:∀b∈A3::(ps++[r]),H b=Φ:=fun b hb=>by
     rcases k_.mp hb with rfl|hb
     ·exact YY
     ·rcases s_.mp hb with z|z
      ·exact(Rx b z).1
      ·rw[o_.mp z];exact YX
    have V6:(A3::(ps++[r])).Nodup:=by rw[L_];refine⟨fun z=>(s_.mp z).elim V5 fun z=>a3r (o_.mp z),r_.mpr ⟨nd,by simp,fun a ha b hb e=>?_⟩⟩;rw[o_.mp hb]at e;exact rH1 (e ▸ ha)
    obtain⟨f5,m5⟩:=m1.put j mv (r_.mpr ⟨V6,m.Je,fun a ha b hb e=>by
     subst e;obtain⟨_,u,hu⟩:=m.Jg.own a hb;rw[N8 a ha]at hu
     cases hu⟩) (fun b hb=>m.same.free (N8 b hb)) VZ
    exact q1.ok _ _ _ _ m5
   |_=>cases hn
  |_=>exact dn k7
 |_=>exact dn hc
end
section
variable {Z:Sg}{CX:JD}{cl:Nat->List D->Res D}{X:Cx}{G:Gm}
theorem Hh (g:IV Z CX cl X G)  (h1:jw G i x=Θ)(h2:(apos.endLine == Iz.line)=Θ)(h3:notStar v=Θ)(h4:HE Z G e v=Θ) :
  PS X (.Expr (.Call (.Attribute (.Name x p) "append" apos) [v] [] Iz) pos) (RS X.K G.io (JM cl (.app i e))):=by
 have pa:PA X [v] (kz (RO X.K (Jd cl Ξ e)) pQ):=ip (O7 e Ξ X G v g h4) iK (fD h3 _ _);have J':((backTo Iz (Ν [v] X.env)).all (fun x=>!x.1)&&(backToKw Iz (keywordEach [] X.env)).all (fun x=>x.1.isSome)&&decide ([v].length+([]:List Keyword).length+(if([]:List Keyword).isEmpty then 0 else 1) < 30))=Θ:=by rw[fD h3];rfl
 refine i3 (kx (mE PySem.F.plainAttrs_list PySem.F.slot_list_append PySem.F.type_list_append j7 (kP g h1) pa rfl J' h2 (fD h3 _ _) rfl)) fun Dn σ H h=>?_;obtain⟨B,F,τ,f,m,q⟩:=h;have q0:Hw (match gV τ i with|some (.lst _ _)=>(Hn (Jd cl Ξ e τ) fun p=>(match gV p.2 i with|some (.lst Θ ds)=>HB (iV ds.length) (.ok (.nx (p.2.set i (Δ (.lst Θ (ds++[p.1]))))))|_=>Ir))|_=>Ir) (Fk X.K B Dn):=q;cases z0:gV τ i with
 |none=>rw[z0]at q0;exact q0.no.elim
 |some d0=>
  rw[z0]at q0
  induction d0 using zD with
  |lst o0 VH=>
   obtain⟨v0,YL,g0,a1,a2,a3,a4⟩:=m.Jg.at z0;have hq:∃l xs,v0=.ref l/\Jo X.K H l xs:=by
    cases a2 with
    |Lr _ b1 _=>exact⟨_,_,rfl,.inl b1⟩
    |lstK b1 _=>exact⟨_,_,rfl,b1.sq⟩
    |Jl _ b1 _=>exact⟨_,_,rfl,.inl (.inl b1)⟩
   obtain⟨l,TY,rfl,hq⟩:=hq;refine⟨.ref l,a1,.inl ⟨rfl,TY,hq⟩,m.ro (Hw.Hn q0) fun p v H' F' fv f' o hp=>?_⟩;obtain⟨m',hb⟩:=m.ow o;cases zs:gV p.2 i with
   |none=>rw[zs]at hp;exact hp.no.elim
   |some d=>
    rw[zs]at hp
    induction d using zD with
    |lst ow ds=>
     induction ow using zB with
     |false=>exact hp.no.elim
     |true=>obtain⟨gd,hp⟩:=Hw.HB hp;obtain⟨l',xs,Jp,hl,hlen⟩:=kr m'.Jg zs;rw[a1]at Jp;cases Jp;obtain⟨Rk,m3⟩:=m'.write (ys:=xs++[v]) (ds':=ds++[p.1]) zs a1 hl o.rep o.Je hb fun fi hm=>hm.snoc o.rep;exact⟨l,xs,v,rfl,rfl,hl,by rw[hlen];exact jR gd,hp.ok _ _ _ _ m3⟩
    |_=>exact hp.no.elim
  |_=>exact q0.no.elim
theorem Fk.Ry {K:Frag}{io:Option Nat}{B:Bs io}{F F':Ω->Prop}{H H':Hp}{σ:St}{τ τ':Ev}{f f':List Ω}{v:V}{d:D}{fv:List Ω}(m:IX K B F H σ τ f)(o:Ow K F H f F' H' σ v d fv τ' f'):Out K B.F B.H F' H' v d fv:=by obtain⟨m',hb⟩:=m.ow o;exact⟨m'.IK,m'.same,o.rep,(r_.mp o.Je).1,hb,m'.J6,m'.out⟩
theorem Hk (g:IV Z CX cl X G)  (h:HE Z G e v=Θ):PS X (.Return (Δ v) pos) (RS X.K G.io (JM cl (.ret e))):=by refine i3 (BW (O7 e Θ X G v g h)) fun Dn σ H ⟨B,F,τ,f,m,q⟩=>?_;exact m.ro (Hw.Hn q) fun p v H' F' fv f' o hp=>hp.ok _ _ _ _ (Fk.Ry m o)
theorem Hl (g:IV Z CX cl X G)  (hc:pw v=Θ)(h:HE Z G e v=Θ):PS X (.Expr v pos) (RS X.K G.io (JM cl (.exp e))):=by refine i3 (kx (snd e X G v g h).1 (by induction v using zE<;>first|rfl|cases hc)) fun Dn σ H ⟨B,F,τ,f,m,q⟩=>?_;exact m.rd (Hw.Hn q) fun d v H' m' _ _ hd=>hd.ok _ _ _ _ m'
theorem Hv (hc:PT X c (RT X.K (vars t) fun τ=>Hn (HA cl t τ) il))(ha:Ks X x (RS X.K G.io (ia cl a)))(hb:Ks X y (RS X.K G.io (ia cl b))):PS X (.If c x y pos) (RS X.K G.io (JM cl (.IT t a b))):=by
 refine i3 (A5 hc ha hb) fun Dn σ H ⟨B,F,τ,f,m,q⟩=>?_;refine m.rt (Hw.Hn q) fun r H' m' _ hr=>?_
 induction r using zB with
 |true=>rw[f_ rfl]at hr ⊢;exact⟨B,F,τ,f,m',hr⟩
 |false=>rw[d_ B_]at hr ⊢;exact⟨B,F,τ,f,m',hr⟩
theorem C' (g:IV Z CX cl X G)(T5:G.rs=Θ)  (hc:PT X c (RT X.K (vars t) fun τ=>Hn (HA cl t τ) il))(ha:Ks X x (RS X.K G.io (ia cl a))):PS X (.While c x [] pos) (RS X.K G.io (JM cl (.JV t a))):=by
 refine i3 (vj (g.own T5) hc ha) fun Dn σ H ⟨B,F,τ,f,m,q⟩=>?_;refine⟨fun n σ H=>∃F τ f,IX X.K B F H σ τ f/\Hw (i5 (MA cl t) (ia cl a) n τ) (Fk X.K B Dn),⟨sF,F,τ,f,m,q⟩,?_⟩;rintro n σ H ⟨F,τ,f,m,q⟩;cases n with
 |zero=>exact q.no.elim
 |succ n=>
  refine m.rt (Hw.Hn q) fun r H' m' _ hr=>?_
  induction r using zB with
  |false=>rw[d_ B_]at hr ⊢;exact hr.ok _ _ _ _ m'
  |true=>
   rw[f_ rfl]at hr ⊢;refine⟨fun σ H=>∃F τ f,IX X.K B F H σ τ f/\Hw (i5 (MA cl t) (ia cl a) n τ) (Fk X.K B Dn),fun Iw H' h=>⟨n,Nat.lt_succ_self n,h⟩,B,F,τ,f,m',(Hw.Hn hr).mono fun r hr=>?_⟩;cases r with
   |nx τ'=>exact fun Iw H' F' f' Lz=>⟨F',τ',f',Lz,hr⟩
   |ct τ'=>exact fun Iw H' F' f' Lz=>⟨F',τ',f',Lz,hr⟩
   |bk τ'=>exact fun Iw H' F' f' Lz=>hr.ok _ _ _ _ Lz
   |rt d=>exact fun v H' F' fv o=>hr.ok _ _ _ _ o
   |ri d ks es=>exact hr.ok
theorem IX.less {K:Frag}{io:Option Nat}{B:Bs io}{L:Ω->LD->Prop}{T:Ω->List V->Prop}{F:Ω->Prop}{H:Hp}{σ:St}{τ:Ev}{f:List Ω}(m:IX K (⟨B.F,B.H,fun a xs=>B.L a xs∨L a xs,fun a xs=>B.T a xs∨T a xs,B.N⟩:Bs io) F H σ τ f):IX K B F H σ τ f:=
 ⟨m.IK,m.Jg,m.Je,m.same,m.own,m.J6,m.out,fun a xs h=>m.pin a xs (.inl h),fun a xs h=>m.MG a xs (.inl h),m.nm⟩
theorem qy:∀(ds:List D) (i:Nat),(HC ds).drop i=HC (ds.drop i):=by intro ds i;rw[hW,hW,List.map_drop]
theorem qz {J:It}{K:Frag}{io:Option Nat}{B:Bs io}{F:Ω->Prop}{H:Hp}{σ:St}{τ:Ev}{f:List Ω}{T:Tg}{body:List IS}{its:List D}{Dn:Ends}(MH:∀j∈J5 T,io≠Δ j)(m:IX K B F H σ τ f)(w:J7 K F H J its)
  (q:Hw (forM (fun x τ=>Hn (jt T x τ) fun τ'=>ia cl body τ') (HC its) τ) (Fk K B Dn)) :
  ∃W:Nat->Nat->St->Hp->Prop,(∃m,W 0 m σ H)/\∀i m σ H,W i m σ H->(J.stop i H/\Dn.nx σ H)∨(J.go i H/\∃N:St->Hp->Prop,(∀Iw H',N Iw H'->∃m',m' < m/\W (i+1) m' Iw H')/\
   ∀x H',J.MR i H x H'->gT K T x σ H' fun K1 H2=>RS K io (ia cl body) {Dn with nx:=N,ct:=N,bk:=Dn.nx} K1 H2):=by
 let B':Bs io:=⟨B.F,B.H,fun a xs=>B.L a xs∨(F a/\Rd H a xs.o),fun a xs=>B.T a xs∨IP K H a xs,B.N⟩
 have m0:IX K B' F H σ τ f:=⟨m.IK,m.Jg,m.Je,m.same,m.own,m.J6,m.out,fun a xs h=>h.elim (m.pin a xs) id,fun a xs h=>h.elim (m.MG a xs) id,m.nm⟩
 let bd:D->Ev->Res Fl:=fun x τ=>Hn (jt T x τ) fun τ'=>ia cl body τ';refine⟨fun i n σ H=>n=its.length - i/\i<=its.length/\∃F τ f,IX K B' F H σ τ f/\Hw (forM bd ((HC its).drop i) τ) (Fk K B Dn),⟨its.length,by simp,Z_ _,F,τ,f,m0,by rw[List.drop_zero];exact q⟩,?_⟩;rintro i n Om H1 ⟨rfl,hi,F1,MY,f1,m1,q1⟩;have w1:J7 K F1 H1 J its:=w.step (fun a xs h r=>m1.pin a xs (.inr ⟨h,r⟩)) fun a xs h=>m1.MG a xs (.inr h);by_cases IQ:i < its.length
 ·refine .inr ⟨w1.go IQ,fun σ H=>∃F τ f,IX K B' F H σ τ f/\Hw (forM bd ((HC its).drop (i+1)) τ) (Fk K B Dn),fun Iw H' h=>⟨its.length - (i+1),by omega,rfl,IQ,h⟩,fun x H' y=>?_⟩;obtain⟨eH,mx⟩:=w1.MR y (d:=its[i]) (by simp[IQ]);have m1:=m1.grow eH;have hd:(HC its).drop i=er its[i]::(HC its).drop (i+1):=by rw[qy,List.drop_eq_getElem_cons IQ,HC,qy]
  rw[hd]at q1;have q2:=Hw.Hn q1;refine m1.gT mx.frozen (by simpa using m1.Je) (fun a ha=>absurd ha (by simp)) MH (Hw.Hn q2) fun τ' Iw f' m' h'=>?_;refine⟨B',F1,τ',f',m',h'.mono fun r hr=>?_⟩;cases r with
  |nx τ'=>exact fun Iw H' F' f' Lz=>⟨F',τ',f',Lz,hr⟩
  |ct τ'=>exact fun Iw H' F' f' Lz=>⟨F',τ',f',Lz,hr⟩
  |bk τ'=>exact fun Iw H' F' f' Lz=>hr.ok _ _ _ _ Lz.less
  |rt d=>exact fun v H' F' fv o=>hr.ok _ _ _ _ o
  |ri d ks es=>exact hr.ok
 ·have e:i=its.length:=by omega
  subst e;refine .inl ⟨w1.stop rfl,?_⟩;have:(HC its).drop its.length=[]:=by rw[<- jQ its,List.drop_length]
  rw[this]at q1;exact q1.ok _ _ _ _ m1.less
theorem Af (a b:Int):HC (ij a b)=ij a b:=by unfold ij;rw[hW,y_];rfl
noncomputable def Bg (cl:Nat->List D->Res D):Sr->Ev->Res (Int×Int)
 |.II n,τ=>Hn (HA cl n τ) fun|.int i=>HB (l5 i) (.ok (0,i))|_=>Ir
 |_,_=>Ir
def RIr (K:Frag)(is:List Nat)(f:Ev->Res (Int×Int)):TI:=fun σ H R=>∃S τ,Slots K S H σ τ is/\Hw (f τ) fun p=>∀H',g7 H H'->R (QD p.1 (p.2 - p.1).toNat) H'
noncomputable def xw:Sr->Bool
 |.II _=>Θ
 |_=>Ξ
theorem xx (h:xw s=Θ)  (q:Hw (jG cl s τ) k):Hw (Bg cl s τ) fun p=>k (ij p.1 p.2):=by
 cases s with
 |II n=>
  refine Hw.mk ((Hw.Hn (show Hw (Hn (HA cl n τ) fun|.int i=>HB (l5 i) (.ok (ij 0 i))|_=>Ir) k from q)).mono fun d hd=>?_)
  induction d using zD with
  |int i=>obtain⟨gd,hd⟩:=Hw.HB hd;show Hw (HB (l5 i) (.ok (0,i))) _;unfold HB;rw[f_ gd];exact hd.ok
  |_=>exact hd.no.elim
 |_=>exists h
theorem G4:∀(s:Sr) (X:Cx) (G:Gm) (e tg:Expr),IV Z CX cl X G->jx Z G s e=Θ->xw s=Θ->PI X tg e (RIr X.K (jD s) (Bg cl s)):=by
 intro s X G e tg g h hr;cases s with
 |II n=>
  induction e using zE with
  |Call fn args J2 pos=>
   induction fn using zE with
   |Name x p=>
    match args,J2,h with
    |[a],[],h=>
     have h':(x == "range"&&G.gl.contains 15&&notStar a&&HE Z G n a)=Θ:=h;simp only[h_]at h';have e1:x = "range":=i_ h'.1.1.1;subst e1;obtain⟨k1,k2,_,_⟩:=i9 g (show iA[15]? = Δ ("range" : Str) from rfl) h'.1.1.2;refine oO (nQ k1 k2 (ip (snd n X G a g h'.2).1 iK (fD h'.1.2 _ _)) (fD h'.1.2 _ _)) fun σ H Q ⟨S,τ,hs,q⟩=>?_;refine iq (.refl _) hs (Hw.Hn q) fun x v H1 e1 _ m1 q1=>?_
     induction x using zD with
     |int i=>cases m1.ID;obtain⟨gd,q1⟩:=Hw.HB q1;have ME : -(2 ^ 62)<=i/\i < 2 ^ 62:=q_ gd;refine⟨i,rfl,ME.1,ME.2,?_⟩;have:=q1.ok _ e1;rw[show(0,i).2 - (0,i).1=i from Int.sub_zero i]at this;exact this
     |_=>exact q1.no.elim
    |[],_,h=>exists h
    |[_],_::_,h=>exists h
    |_::_::_,_,h=>exists h
   |_=>exists h
  |_=>exists h
 |_=>cases hr
theorem Hm (g:IV Z CX cl X G)  (OM:(G.cm=Θ/\G.rs=Θ)/\i8 G T t=Θ)(Qa:jx Z G s it=Θ/\lH s t=Θ)(ha:Ks X x (RS X.K G.io (ia cl a))):PS X (.For t it x [] pos) (RS X.K G.io (JM cl (.IL T s a))):=by
 have hT:=OM.2;have hs:=Qa.1;by_cases hr:xw s=Θ
 ·refine i3 (vm (g.own OM.1.2) (g.calm OM.1.1) (G4 s X G it t g hs hr) (N6 g T t hT) ha (fun x=>jd hs X.env x)) fun Dn σ H ⟨B,F,τ,f,m,q⟩=>?_;have q0:Hw (Hn (rp cl s τ) fun p=>forM (fun x τ=>Hn (jt T x τ) fun τ'=>ia cl a τ') p.1 p.2) (Fk X.K B Dn):=q;have base:Hw (jG cl s τ) fun its=>Hw (forM (fun x τ=>Hn (jt T x τ) fun τ'=>ia cl a τ') its τ) (Fk X.K B Dn):=by
   cases s with
   |II u=>exact(Hw.Hn (show Hw (Hn (jG cl (.II u) τ) fun its=>.ok (its,τ)) _ from Hw.Hn q0)).mono fun its h=>h.ok
   |_=>cases hr
  exact⟨fun _=>True,τ,iN m.Jg,(xx hr base).mono fun p hp H1 e1=>qz (kN T t hT) (m.grow e1) (.Mg p.1 p.2) (by rw[Af];exact hp)⟩
 ·refine i3 (vm (g.own OM.1.2) (g.calm OM.1.1) (xb s X G it t g hs Qa.2) (N6 g T t hT) ha (fun x=>jd hs X.env x)) fun Dn σ H ⟨B,F,τ,f,m,q⟩=>?_;have q0:Hw (Hn (rp cl s τ) fun p=>forM (fun x τ=>Hn (jt T x τ) fun τ'=>ia cl a τ') p.1 p.2) (Fk X.K B Dn):=q;have q1:=Hw.Hn q0;have V7:rp cl s τ=(Hn (jG cl s τ) fun its=>.ok (HC its,IH (jD s) τ)):=by
   cases s with
   |val u=>rfl
   |zip u v=>rfl
   |KP u=>rfl
   |_=>exact absurd rfl hr
  rw[V7]at q1;obtain⟨F1,gg,b1,b2,b3,b4,b5,b6⟩:=kg (jD s) m.IK m.Jg m.Je;refine C3 (.refl _) b6 (Hw.Hn q1) fun its J H1 e1 _ w1 hk=>?_;obtain⟨c1,c2,c3⟩:=grow (fun _=>True) b1 b2 e1;have m2:IX X.K B (fun a=>F1 a∨(True/\H a=Φ/\H1 a≠Φ)) H1 σ (IH (jD s) τ) gg:=m.KA (b4.trans c3 (fun x hx=>.inl (b5 x hx))) c1 c2 b3 fun a ha=>.inl (b5 a ha);exact qz (kN T t hT) m2 (w1.step (fun a xs h r=>⟨h.elim (fun z=>.inl z) fun z=>.inr ⟨trivial,z,r.some⟩,r⟩) fun a xs h=>h) hk.ok
mutual
theorem snS:∀(a:IS) (X:Cx) (G:Gm) (s:Stmt),IV Z CX cl X G->xk Z G a s=Θ->PS X s (RS X.K G.io (JM cl a))
 |.asg tg e,X,G,s,g,h=>by
  induction s using zS with
  |Assign ts v pos=>
   match ts,h with
   |[t],h=>have h':(i8 G tg t&&HE Z G e v&&(isName t||(isTup t&&notTuple v)))=Θ:=h;simp only[h_]at h';exact Hf g h'.1.1 h'.1.2 h'.2
   |[],h=>exists h
   |_::_::_,h=>exists h
  |_=>exists h
 |.Ka i k e,X,G,s,g,h=>by
  induction s using zS with
  |Assign ts v pos=>
   induction ts using zL with
   |nil=>exists h
   |cons t ts=>
    induction ts using zL with
    |cons _ _=>cases t<;>first|exact dn h|cases h|(rename_i o _ _;cases o<;>cases h)
    |nil=>
     induction t using zE with
     |Subscript o s sp=>
      induction o using zE with
      |Name x p=>have h':(jw G i x&&iT s&&HE Z G k s&&HE Z G e v&&!(vars e).contains i)=Θ:=h;simp only[h_]at h';exact JO g h'.1.1.1.1 h'.1.1.1.2 h'.1.1.2 h'.1.2 (by simpa using h'.2)
      |_=>exists h
     |_=>exists h
  |_=>exists h
 |.P4 j G' fr t src,X,G,s,g,h=>by
  have h1:TN s (fun tg e=>isName tg&&i8 G (.nm j) tg&&HE Z G (.comp G' fr (.nm t) src [] (.lst [])) e)=Θ:=by induction s using zS<;>exact h
  exact Hg g h1
 |.Nz i j e c x v w,X,G,s,g,h=>by induction s using zS<;>exists h
 |.ins i k e,X,G,s,g,h=>by
  induction s using zS with
  |Expr v pos=>
   induction v using zE with
   |Call fn args J2 Iz=>
    induction fn using zE with
    |Attribute o name apos=>
     induction o using zE with
     |Name x p=>
      match args,J2,h with
      |[s,v],[],h=>have h':(jw G i x&&name == "insert"&&apos.endLine == Iz.line&&(notStar s&&notStar v)&&HE Z G k s&&HE Z G e v)=Θ:=h;simp only[h_]at h';have e1:name = "insert":=i_ h'.1.1.1.1.2;subst e1;exact KS g h'.1.1.1.1.1 h'.1.1.1.2 h'.1.1.2.1 h'.1.1.2.2 h'.1.2 h'.2
      |[],_,h=>exists h
      |[_],_,h=>exists h
      |[_,_],_::_,h=>exists h
      |_::_::_::_,_,h=>exists h
     |_=>exists h
    |_=>exists h
   |_=>exists h
  |_=>exists h
 |.app i e,X,G,s,g,h=>by
  induction s using zS with
  |Expr v pos=>
   induction v using zE with
   |Call fn args J2 Iz=>
    induction fn using zE with
    |Attribute o name apos=>
     induction o using zE with
     |Name x p=>
      match args,J2,h with
      |[v],[],h=>have h':(jw G i x&&name == "append"&&apos.endLine == Iz.line&&notStar v&&HE Z G e v)=Θ:=h;simp only[h_]at h';have e1:name = "append":=i_ h'.1.1.1.2;subst e1;exact Hh g h'.1.1.1.1 h'.1.1.2 h'.1.2 h'.2
      |[],_,h=>exists h
      |[_],_::_,h=>exists h
      |_::_::_,_,h=>exists h
     |_=>exists h
    |_=>exists h
   |_=>exists h
  |_=>exists h
 |.exp e,X,G,s,g,h=>by
  induction s using zS with
  |Expr v pos=>
   have h':(pw v&&HE Z G e v)=Θ:=by induction v using zE<;>first|exact h|(rename_i c _ _;cases c<;>exact h)
   simp only[h_]at h';exact Hl g h'.1 h'.2
  |_=>exists h
 |.ret e,X,G,s,g,h=>by
  induction s using zS with
  |Return v pos=>
   induction v using zO with
   |none=>exists h
   |some v=>exact Hk g h
  |_=>exists h
 |.IT t a b,X,G,s,g,h=>by
  induction s using zS with
  |If c x y pos=>have h':(HE Z G t c&&iX Z G a x&&iX Z G b y)=Θ:=h;simp only[h_]at h';exact Hv (snd t X G c g h'.1.1).2 (qB a X G x g h'.1.2) (qB b X G y g h'.2)
  |_=>exists h
 |.IL tg s body,X,G,st,g,h=>by
  induction st using zS with
  |For t it b V8 pos=>
   induction V8 using zL with
   |cons _ _=>exists h
   |nil=>have h':(((G.cm&&G.rs)&&i8 G tg t)&&(jx Z G s it&&lH s t)&&iX Z G body b)=Θ:=h;simp only[h_]at h';exact Hm g h'.1.1 h'.1.2 (qB body X G b g h'.2)
  |_=>exists h
 |.JV t body,X,G,s,g,h=>by
  induction s using zS with
  |While c b V8 pos=>
   induction V8 using zL with
   |cons _ _=>exists h
   |nil=>have h':((G.rs&&HE Z G t c)&&iX Z G body b)=Θ:=h;simp only[h_]at h';exact C' g h'.1.1 (snd t X G c g h'.1.2).2 (qB body X G b g h'.2)
  |_=>exists h
 |.brk,X,G,s,g,h=>by cases s<;>exists h
 |.cnt,X,G,s,g,h=>by cases s<;>exists h
 |.pass,X,G,s,g,h=>by cases s<;>exists h
 |.never,X,G,s,g,h=>i3 u9 fun Dn σ H ⟨B,F,τ,f,m,q⟩=>q.no.elim
 |.L9 i j e,X,G,s,g,h=>by
  have h:TQ s (fun v=>M0 v fun fe as cp=>Qd fe fun o n ap=>n == "append"&&ap.endLine == cp.line&&Mj (fun x=>jw G i x) o&&La as fun w=>M0 w fun TR TU TV=>Qd TR fun o' n' TX=>n' == "pop"&&TX.endLine == TV.line&&Mj (fun y=>jw G j y) o'&&La TU fun z=>notStar z&&HE Z G e z)=Θ:=by induction s using zS<;>exact h
  obtain⟨v,pos,rfl,h⟩:=xj h;obtain⟨fe,as,cp,rfl,h⟩:=kq h;obtain⟨o,n,ap,rfl,h⟩:=rJ h;have h:=D_.mp h;obtain⟨Rz,a4⟩:=h;simp only[h_]at Rz;obtain⟨⟨a1,a2⟩,a3⟩:=Rz;obtain⟨x,p,rfl,b1⟩:=jU a3;obtain⟨w,rfl,a4⟩:=ja a4;obtain⟨TR,TU,TV,rfl,a4⟩:=kq a4;obtain⟨o',n',TX,rfl,a4⟩:=rJ a4;obtain⟨RB,c4⟩:=D_.mp a4;simp only[h_]at RB;obtain⟨⟨c1,c2⟩,c3⟩:=RB;obtain⟨y,p',rfl,b2⟩:=jU c3;obtain⟨z,rfl,c4⟩:=ja c4;have c4:=D_.mp c4;have e1:n = "append":=i_ a1;have e2:n' = "pop":=i_ c1;subst e1 e2;exact Ha g b1 b2 a2 c2 c4.1 c4.2
 |.L' a,X,G,s,g,h=>by
  have h:VL s (fun b=>iX Z {G with rs:=Ξ,tr:=Ξ} a b)=Θ:=by induction s using zS<;>exact h
  obtain⟨b,h0,hs,pos,rfl,h⟩:=Dk h;exact Hb g (show Ks X.nx b (RS X.K G.io (ia cl a)) from qB a X.nx {G with rs:=Ξ,tr:=Ξ} b (xq g) h)
theorem qB:∀(as:List IS) (X:Cx) (G:Gm) (ss:List Stmt),IV Z CX cl X G->iX Z G as ss=Θ->Ks X ss (RS X.K G.io (ia cl as))
 |[],X,G,ss,g,h=>by
  induction ss using zL with
  |nil=>exact ma oI fun Dn σ H ⟨B,F,τ,f,m,q⟩=>q.ok _ _ _ _ m
  |cons _ _=>exists h
 |a::as,X,G,ss,g,h=>by
  induction ss using zL with
  |nil=>induction a using zT<;>exists h
  |cons s ss=>
   cases YZ:Be a with
   |true=>
    cases a with
    |Nz i j e c x v w=>
     induction ss using zL with
     |nil=>
      have h':(xk Z G (.Nz i j e c x v w) s&&iX Z G as [])=Θ:=h;have h1:=(D_.mp h').1
      induction s using zS<;>first|exact dn h1|cases h1
     |cons s' ss=>have h':=D_.mp (show(sY Z G i j e c x v w s s'&&iX Z G as ss)=Θ from h);exact Ae g h'.1 (qB as X G ss g h'.2)
    |_=>cases YZ
   |false=>
    have h':(xk Z G a s&&iX Z G as ss)=Θ:=by rw[<- rK YZ];exact h
    simp only[h_]at h';refine ma (jY (snS a X G s g h'.1) (qB as X G ss g h'.2)) fun Dn σ H ⟨B,F,τ,f,m,q⟩=>?_;refine⟨B,F,τ,f,m,(Hw.Hn q).mono fun r hr=>?_⟩;cases r with
    |nx τ'=>exact fun Iw H' F' f' m'=>⟨B,F',τ',f',m',hr⟩
    |ct τ'=>exact hr.ok
    |bk τ'=>exact hr.ok
    |rt d=>exact hr.ok
    |ri d ks es=>exact hr.ok
end
end
def RSB (K:Frag){io:Option Nat}(B:Bs io)(g:Ev->Res Fl):TS:=fun Dn σ H=>∃F τ f,IX K B F H σ τ f/\Hw (g τ) (Fk K B Dn)
def M4 (P:Ε)(w:Β):JD:=fun _ _ _ _ _ _=>False
noncomputable def xA (Z:Sg)(fn:Fn)(ps:List Str)(st:Stmt):Bool:=
 (ic st).kind == .function&&!(ic st).isCoroutine&&!(ic st).isGenerator&&decide (fn.G.N.Nodup)&&fn.G.N.take ps.length == ps
&&ps.all (fun x=>(ic st).names.lookup x == Δ .local||(ic st).names.lookup x == Δ .cell)&&(ic st).names.all (fun y=>y.2 != .free)
&&(List.range fn.G.N.length).all (fun i=>(fn.G.N[i]?).bind ((ic st).names.lookup ·) == fn.G.kd[i]?)
&&fn.G.N.all (fun x=>!(x == "__debug__")&&!(x == "__classdict__"))
&&fn.G.gl.all (fun n=>match Z.name n with|some x=>(ic st).names.lookup x == Δ .globalImplicit|none=>Ξ)
&&decide (ps.length=fn.np)
noncomputable def g6 (Z:Sg)(fn:Fn)(ps:List Str)(st:Stmt):Bool:=xA Z fn ps st&&(!fn.io&&iX Z fn.G fn.body (jg st))
structure N9 (Z:Sg)(fn:Fn)(ps:List Str)(st:Stmt):Prop where
 sc:KI fn.G.N ps (ic st)
 kd:∀(i:Nat) (x:Str),fn.G.N[i]? = Δ x->(ic st).names.lookup x=fn.G.kd[i]?
 MD:∀x∈fn.G.N,(x == ("__debug__" : Str))=Ξ/\(x == ("__classdict__" : Str))=Ξ
 gl:∀n∈fn.G.gl,∀x,Z.name n=Δ x->(ic st).names.lookup x=Δ .globalImplicit
 np:ps.length=fn.np
structure LV (Z:Sg)(fn:Fn)(ps:List Str)(st:Stmt):Prop extends N9 Z fn ps st where
 pl:fn.io=Ξ
 body:iX Z fn.G fn.body (jg st)=Θ
theorem xB {Z:Sg}{fn:Fn}{ps:List Str}{st:Stmt}(h:xA Z fn ps st=Θ):N9 Z fn ps st:=by
 unfold xA at h;simp only[h_]at h;obtain⟨⟨⟨⟨⟨⟨⟨⟨⟨⟨h1,h2⟩,h3⟩,h4⟩,h5⟩,h6⟩,h7⟩,h8⟩,h9⟩,LK⟩,NX⟩:=h;rw[W_]at h6 h7 h8 h9 LK;refine⟨⟨i_ h1,by simpa using h2,by simpa using h3,q_ h4,i_ h5,fun x hx=>?_,fun y hy=>by simpa using h7 y hy⟩,fun i x hx=>?_,fun x hx=>by simpa using h9 x hx,fun n hn x hx=>?_,q_ NX⟩
 ·have:=h6 x hx;rw[aaf]at this;exact this.elim (fun z=>.inl (i_ z)) fun z=>.inr (i_ z)
 ·have IQ:i < fn.G.N.length:=(p_.mp hx).1;have:=i_ (h8 i (Y_.mpr IQ));rw[hx]at this;exact this
 ·have:=LK n hn;rw[hx]at this;exact i_ this
theorem qC {Z:Sg}{fn:Fn}{ps:List Str}{st:Stmt}(h:g6 Z fn ps st=Θ):LV Z fn ps st:=by unfold g6 at h;rw[h_,h_]at h;exact⟨xB h.1,by simpa using h.2.1,h.2.2⟩
structure Iu (K:Frag)(mg:Str->Option Ψ)(Z:Sg)(T:Tb)(f:Nat)(x:Str):Prop where
 ex:∃(fn:Fn) (st:Stmt) (fa:Ω) (fd:Ο) (ps:List Str),T f=Δ fn/\PU K x x st fa fd/\mg x=Δ (.ref fa)/\Binds K fd ps []/\LV Z fn ps st
section
variable {P:Ε}{w:Β}{K:Frag}{mg:Str->Option Ψ}{base:Heap}{Z:Sg}{T:Tb}
structure LW (K:Frag)(mg:Str->Option Ψ)(Z:Sg)(T:Tb):Prop where
 NC:∀n x,Z.name n=Δ x->x≠"__name__"/\(x == ("__debug__" : Str))=Ξ
 blt:∀(n:Nat) (x:Str),iA[n]? = Δ x->mg x=Φ
 cst:∀n d x,(n,d)∈Z.P6->Z.name n=Δ x->∃u v,mg x=Δ u/\RelV v u/\∀S H,Hx K S H v d
 fns:∀f∈Z.fns,∀x,Z.name f=Δ x->Iu K mg Z T f x
 NJ:∀f∈Z.pl,∀fn,T f=Δ fn->fn.G.cm=Ξ
theorem ox:∀ {vs:List V}{ds:List D} (n:Nat),Hq K F H vs ds->IM K F H (vs.map Δ++Τ n Φ) ((HC ds).map Δ++Τ n Φ) []
 |[],[],n,.nil=>by
  induction n with
  |zero=>exact .nil
  |succ n ih=>exact .none ih
 |v::vs,d::ds,n,.cons h1 h2=>.some (f:=[]) h1.frozen (ox n h2)
structure Rm (n:Nat)(A:Ι):Prop where
 dp:A.depth+3*(n+2)+5 < recursionLimit
 un:A.units+16*(n+2)+200 < cLine
theorem Rm.room (r:Rm n A)(hn:n < 900)(h:A.handled=Φ):JB (n+2) A:=⟨fun _=>h,by have:=r.dp;rw[Nat.mod_eq_of_lt (by omega)];exact this,by have:=r.un;rw[Nat.mod_eq_of_lt (by omega)];exact this⟩
theorem Rm.N' (r:Rm n A)(hn:n < 900):JB (1002+n) A:=⟨fun z=>by omega,by have:=r.dp;rw[show(1002+n) % 1000=n+2 by omega];exact this,by have:=r.un;rw[show(1002+n) % 1000=n+2 by omega];exact this⟩
theorem Rm.of (r:JB k A)(h:k % 1000=n+2):Rm n A:=⟨by have:=r.dp;rw[h]at this;exact this,by have:=r.un;rw[h]at this;exact this⟩
theorem snI (g:IV Z CX cl X G)(B:Bs G.io)  (h:iX Z G as ss=Θ):Ks X ss (RSB X.K B (ia cl as)):=
 ma (qB as X G ss g h) fun Dn σ H ⟨F,τ,f,m,q⟩=>⟨B,F,τ,f,m,q⟩
theorem pz (t:LW K mg Z T){n k:Nat}{f:Nat}{fn:Fn}{x:Str}{st:Stmt}{fa:Ω}{fd:Ο}{ps:List Str}(hk:k % 1000=n+2)(hn:n < 900)(h1:T f=Δ fn)(h2:PU K x x st fa fd)(h5:LV Z fn ps st)(hp:k < 1000∨fn.G.cm=Ξ)
  (ih:∀(A:Ι),Rm n A->∀f∈Z.fns,(A.handled=Φ∨f∈Z.pl)->∀x,Z.name f=Δ x->Vt P w K mg base (M4 P w) A (aY T n) f x) :
  J9 P w K mg base (M4 P w) (k+1) fa fd ps (OX K (aY T (n+1)) f ps):=by
 have MM:∀ds,aY T (n+1) f ds=l8 (aY T n) fn ds:=fun ds=>by show(match T f with|some fn=>(match fn.io with|false=>l8 (aY T n) fn ds|true=>rA (aY T n) fn ds)|none=>Ir)=_;rw[h1];show(match fn.io with|false=>l8 (aY T n) fn ds|true=>rA (aY T n) fn ds)=_;rw[h5.pl]
 obtain⟨oc,od,kV,doc,pm,an,Ku,ct,MT,rfl,lk,Ng⟩:=h2.ex;refine Et lk Ng h5.sc (by omega) (fun vs H Q E h=>h.1) fun A outer s H vs Q E hr Lh=>?_;obtain⟨hl,lt,F,ds,IK,m,q⟩:=Lh;have Rb:fn.G.cm=Θ->A.handled=Φ:=fun z=>hp.elim (fun h=>hr.hd h) fun h=>by rw[h]at z;cases z
 refine⟨_,snI (Z:=Z) (CX:=M4 P w) (cl:=aY T n) (G:=fn.G) ?_ ⟨F,H,fun _ _=>False,fun _ _=>False,Φ⟩ h5.body,?_⟩
 ·refine⟨rfl,h5.sc.nd,fun z=>by show A.handled.isNone=Θ;rw[Rb z];rfl,h5.sc.kind,?_,fun _=>PassesOwn.leaving,fun i y hy=>h5.kd i y hy,fun i y hy=>h5.MD y (J_ hy),fun m hm y hy=>h5.gl m hm y hy,t.NC,fun _ _=>rfl,t.blt,t.cst,?_,⟨fun _ _ _=>False,fun pins σ H s e s' _ h=>h.elim⟩,fun outer H s E e s' x fr h=>h,fun H outer s e s' h=>h⟩
  ·have:=hr.un;show(A.deeper _).units+42 < cLine;omega
  ·exact fun f' Qf hc x' J3=>ih _ (Rm.of hr hk) f' Qf (hc.elim (fun z=>.inl (Rb z)) .inr) x' J3
 ·rw[MM]at q;obtain⟨gd,q⟩:=Hw.HB q;have ME:(HC ds).length=fn.np:=q_ gd;have J8:fn.G.N.length - vs.length=fn.G.N.length - fn.np:=by rw[m.length,<- jQ ds,ME]
  refine⟨F,(HC ds).map Δ++Τ (fn.G.N.length - fn.np) Φ,[],⟨IK,?_,List.nodup_nil,.refl _,fun a ha=>absurd ha (by simp),fun a h=>h,fun a h=>.inl h,fun a xs h=>h.elim,fun a xs h=>h.elim,fun _ _ _ z=>by cases z⟩,(Hw.Hn q).mono fun r hr=>?_⟩
  ·show IM K F H (start fn.G.N vs) _ [];unfold start;rw[J8];exact ox _ m
  ·cases r with
   |nx τ'=>exact fun Iw H' F' f' m'=>hr.ok .IB H' F' [] ⟨m'.IK,m'.same,.IB,List.nodup_nil,fun a ha=>absurd ha (by simp),m'.J6,m'.out⟩
   |rt d=>exact fun v H' F' fv o=>hr.ok v H' F' fv o
   |bk τ'=>exact hr.no.elim
   |ct τ'=>exact hr.no.elim
   |ri d ks es=>exact hr.no.elim
theorem tq (t:LW K mg Z T):∀(n:Nat),n < 900->∀(A:Ι),Rm n A->∀f∈Z.fns,(A.handled=Φ∨f∈Z.pl)->∀x,Z.name f=Δ x->Vt P w K mg base (M4 P w) A (aY T n) f x
 |0,h9,A,hr,f,hf,hc,x,hx=>by obtain⟨fn,st,fa,fd,ps,h1,h2,h3,h4,h5⟩:=(t.fns f hf x hx).ex;have no:∀vs H Q E,¬OX K (aY T 0) f ps vs H Q E:=fun vs H Q E ⟨_,_,F,ds,_,_,h⟩=>h;exact⟨1002+0,fa,fd,ps,h3,h2.kp,h4,⟨fun vs H Q E h=>h.1,fun A outer s H args us vs Q E _ _ _ _ h=>(no _ _ _ _ h).elim⟩,hr.N' h9,fun ds k h=>h.elim⟩
 |n+1,h9,A,hr,f,hf,hc,x,hx=>by
  have ih:=fun A=>tq t n (by omega) A;obtain⟨fn,st,fa,fd,ps,h1,h2,h3,h4,h5⟩:=(t.fns f hf x hx).ex;have hlen:∀ds (k:D->Prop),Hw (aY T (n+1) f ds) k->ds.length=ps.length:=fun ds k h=>by
   have MM:aY T (n+1) f ds=l8 (aY T n) fn ds:=by show(match T f with|some fn=>(match fn.io with|false=>l8 (aY T n) fn ds|true=>rA (aY T n) fn ds)|none=>Ir)=_;rw[h1];show(match fn.io with|false=>l8 (aY T n) fn ds|true=>rA (aY T n) fn ds)=_;rw[h5.pl]
   rw[MM]at h;obtain⟨gd,_⟩:=Hw.HB h;rw[q_ gd,h5.np]
  by_cases Ov:f∈Z.pl
  ·exact⟨1002+n+1,fa,fd,ps,h3,h2.kp,h4,pz t (k:=1002+n) (n:=n) (by omega) (by omega) h1 h2 h5 (.inr (t.NJ f Ov fn h1)) ih,hr.N' h9,hlen⟩
  ·exact⟨n+2+1,fa,fd,ps,h3,h2.kp,h4,pz t (k:=n+2) (n:=n) (by omega) (by omega) h1 h2 h5 (.inl (by omega)) ih,hr.room h9 (hc.elim id fun z=>absurd z Ov),hlen⟩
end
section
variable {P:Ε}{w:Β}{K:Frag}{mg:Str->Option Ψ}{base:Heap}{Z:Sg}{T:Tb}
def Qg (K:Frag)(cl:Nat->List D->Res D)(f:Nat)(ps:List Str):Sp:=fun vs H Q E=>vs.length=ps.length/\∃F ds,K0 F H/\Hq K F H vs ds/\
 Hw (cl f (HC ds)) fun d=>∀v H' F' fv,Out K F H F' H' v d fv->Q v H'
theorem xC (F:J9 P w K mg base (M4 P w) k fa fd ps (OX K cl f ps)):J9 P w K mg base (M4 P w) k fa fd ps (Qg K cl f ps):=by
 refine⟨fun vs H Q E h=>h.1,fun A outer s H args us vs Q E hr e0 bd r Lh=>?_⟩;obtain⟨hl,Fc,ds,IK,m,q⟩:=Lh;have e1:L4 P w K mg base A outer s (iF s.heap H):=⟨e0.frames,e0.mod,fun b o e=>⟨(e0.bs b o e).1,jv (e0.bs b o e).2⟩,e0.Na,e0.JZ,fun b hb=>jv (e0.MQ b hb),wI e0.IF,e0.bare⟩
 have hq:Hw (cl f (HC ds)) fun d=>∀v H' F' fv,Out K Fc H F' H' v d fv->Q v H':=by
  cases z:cl f (HC ds) with
  |ok d=>rw[z]at q;exact q
  |error er=>rw[z]at q;cases er;exact q.no.elim
 have hs:OX K cl f ps vs (iF s.heap H) (fun v H'=>K' s.heap (iF s.heap H) H'->Q v (kK H H')) E:=
  ⟨hl,wH _ _,_,ds,fun a h=>h.2,sQ e0.IF m,hq.mono fun d hd v H' F' fv o p=>hd v _ _ fv (sR e0.IF IK p o)⟩
 refine codeAny_mono (F.run A outer s (iF s.heap H) args us vs _ E hr e1 bd r hs) fun r' s' hq=>?_;cases r' with
 |error e=>exact hq
 |ok fl=>
  cases fl with
  |ret u=>obtain⟨v,H',a1,a2,a3,a4,a5,a6⟩:=hq;exact⟨v,kK H H',a1,a2,wM e0.IF a3,wL e0.IF a4 (mh a3) (fs:=Kg outer) (fun b o _ e n f=>a3.keep b o e n f (by simp)) e0.MQ,a5,a6 (mh a3)⟩
  |next=>exact hq
  |brk=>exact hq
  |cont=>exact hq
theorem Dm (t:LW K mg Z T)(n:Nat)(hn:n < 900){f:Nat}{fn:Fn}{x:Str}{st:Stmt}{fa:Ω}{fd:Ο}{ps:List Str}(h1:T f=Δ fn)(h2:PU K x x st fa fd)(h5:LV Z fn ps st):J9 P w K mg base (M4 P w) (n+2+1) fa fd ps (Qg K (aY T (n+1)) f ps):=
 xC (pz t (k:=n+2) (n:=n) (by omega) hn h1 h2 h5 (.inl (by omega)) (tq t n hn))
theorem Dq {f n:Nat}{x:Str}{a:Ω}{H:Hp}{ns:List Int}(hS:Ls K H a (ns.map V.int))(hl:aY T n f [.lst Ξ (ns.map .int)]=.ok (.bl Θ)) :
  Qg K (aY T n) f [x] [.ref a] H (fun v _=>v=.bl Θ) fun _ _ _=>False:=by
 have m:Hq K (fun a=>H a≠Φ) H [.ref a] [.lst Ξ (ns.map .int)]:=by
  refine .cons ?_ .nil;rcases hS with hS|hS
  ·exact .lst hS.some hS (Hq.ofInts ns)
  ·exact .lstK hS (Hq.ofInts ns)
 refine⟨rfl,fun a=>H a≠Φ,[.lst Ξ (ns.map .int)],fun a h=>h,m,?_⟩;have he:HC [.lst Ξ (ns.map .int)]=[D.lst Ξ (ns.map .int)]:=by rw[HC,HC,er,hW,y_];rfl
 rw[he,hl];intro v H' F' fv o;cases o.rep;rfl
theorem xD {l:PySem.W.OpenLaw}{q:Ε}{loose:List Str}{XP:(Str->Option Ψ)->Heap->Prop}{YP:Β->Heap->Prop}{d:DefRec}{K:Params->Frag}{T:Tb}{n f:Nat}{x:Str}(hn:l.most=Δ 63)(QJ:d.params.defaults=[])(hr:JB (n+2+1) callerA)
  (hY:∀(w:Β) (h:Heap),YP w h->(K w.params).In h)
  (F:∀(w:Β) (mg:Str->Option Ψ) (fa:Ω) (h:Heap),(K w.params).In h->h.Ns Η mg->mg d.name=Δ (.ref fa)->
   ∃fd:Ο,(∀(s:Α) (u:Ψ),BindsTo s fd ⟨[u],[]⟩ [(x,u)])/\∀base:Heap,(K w.params).In base->base.Ns Η mg->J9 l.prog w (K w.params) mg base (M4 l.prog w) (n+2+1) fa fd [x] (Qg (K w.params) (aY T (n+1)) f [x]))
  (hl:∀ns:List Int,ns.length<=63->aY T (n+1) f [.lst Ξ (ns.map .int)]=.ok (.bl Θ)) :
  PySem.W.WalkO q loose XP YP l.row.toRowW d [] (fun f vs=>PySem.call f vs):=
 L2.y3 (n:=63) (k:=n+2+1) (x:=x) (CX:=fun w=>M4 l.prog w) (sp:=fun w=>Qg (K w.params) (aY T (n+1)) f [x]) hn (by decide) QJ hr hY F (fun w H a ns h1 _ hS=>Dq hS (hl ns h1)) fun _ _ _ _ _ z=>z
end
namespace Ev
section
variable {α β:Type}{cl:Nat->List D->Res D}{τ:Ev}{mv:Bool}
theorem dg:Hn (.ok a) f=f a:=rfl
theorem dt:HB Θ x=x:=rfl
theorem HG:HA cl (.c d) τ=.ok d:=rfl
theorem HJ:HA cl (.g n d) τ=.ok d:=rfl
theorem HK:HA cl (.v i) τ=(match gV τ i with|some d=>.ok d|none=>Ir):=rfl
noncomputable def Fo (cl:Nat->List D->Res D)(op:P2)(b:IR)(τ:Ev)(x:D):Res D:=Hn (HA cl b τ) (J1 op x)
theorem ba:Fo cl op b τ x=Hn (HA cl b τ) (J1 op x):=rfl
theorem du:HA cl (.bin op a b) τ=Hn (HA cl a τ) (Fo cl op b τ):=rfl
noncomputable def Fp:D->Res D
 |.int i=>.ok (.int (-i))
 |_=>Ir
theorem dv:HA cl (.neg a) τ=Hn (HA cl a τ) Fp:=rfl
theorem bb:Fp (.int i)=.ok (.int (-i)):=rfl
noncomputable def V9 (r:Bool):Res D:=.ok (.bl r)
theorem dw:V9 r=.ok (.bl r):=rfl
noncomputable def qD (op:Mz)(x y:D):Res D:=Hn (Jw op x y) V9
theorem aA:qD op x y=Hn (Jw op x y) V9:=rfl
noncomputable def Fq (cl:Nat->List D->Res D)(op:Mz)(b:IR)(τ:Ev)(x:D):Res D:=Hn (HA cl b τ) (qD op x)
theorem bc:Fq cl op b τ x=Hn (HA cl b τ) (qD op x):=rfl
theorem dy:HA cl (.cmp op a b) τ=Hn (HA cl a τ) (Fq cl op b τ):=rfl
noncomputable def Dr (cl:Nat->List D->Res D)(Jr:Mz)(c:IR)(τ:Ev)(y:D)(r:Bool):Res D:=if r=Θ then Hn (HA cl c τ) (qD Jr y) else .ok (.bl Ξ)
theorem bf:Dr cl Jr c τ y r=if r=Θ then Hn (HA cl c τ) (qD Jr y) else .ok (.bl Ξ):=rfl
noncomputable def Ds (cl:Nat->List D->Res D)(op Jr:Mz)(c:IR)(τ:Ev)(x y:D):Res D:=Hn (Jw op x y) (Dr cl Jr c τ y)
theorem bg:Ds cl op Jr c τ x y=Hn (Jw op x y) (Dr cl Jr c τ y):=rfl
noncomputable def Y0 (cl:Nat->List D->Res D)(op Jr:Mz)(b c:IR)(τ:Ev)(x:D):Res D:=Hn (HA cl b τ) (Ds cl op Jr c τ x)
theorem dz:Y0 cl op Jr b c τ x=Hn (HA cl b τ) (Ds cl op Jr c τ x):=rfl
theorem aB:HA cl (.chain op Jr a b c) τ=Hn (HA cl a τ) (Y0 cl op Jr b c τ):=rfl
noncomputable def xE (cl:Nat->List D->Res D)(b:IR)(τ:Ev)(x:D)(r:Bool):Res D:=if r=Θ then HA cl b τ else .ok x
theorem aC:xE cl b τ x r=if r=Θ then HA cl b τ else .ok x:=rfl
noncomputable def Fs (cl:Nat->List D->Res D)(b:IR)(τ:Ev)(x:D):Res D:=Hn (il x) (xE cl b τ x)
theorem bo:Fs cl b τ x=Hn (il x) (xE cl b τ x):=rfl
theorem dA:HA cl (.Jb a b) τ=Hn (HA cl a τ) (Fs cl b τ):=rfl
noncomputable def Dt (cl:Nat->List D->Res D)(b:IR)(τ:Ev)(x:D)(r:Bool):Res D:=if r=Θ then .ok x else HA cl b τ
theorem bq:Dt cl b τ x r=if r=Θ then .ok x else HA cl b τ:=rfl
noncomputable def Y1 (cl:Nat->List D->Res D)(b:IR)(τ:Ev)(x:D):Res D:=Hn (il x) (Dt cl b τ x)
theorem dB:Y1 cl b τ x=Hn (il x) (Dt cl b τ x):=rfl
theorem fE:HA cl (.KZ a b) τ=Hn (HA cl a τ) (Y1 cl b τ):=rfl
noncomputable def xF (r:Bool):Res D:=.ok (.bl !r)
theorem aD:xF r=.ok (.bl !r):=rfl
noncomputable def Ft (x:D):Res D:=Hn (il x) xF
theorem br:Ft x=Hn (il x) xF:=rfl
theorem dC:HA cl (.JT a) τ=Hn (HA cl a τ) Ft:=rfl
noncomputable def xG (cl:Nat->List D->Res D)(a b:IR)(τ:Ev)(r:Bool):Res D:=if r=Θ then HA cl a τ else HA cl b τ
theorem aE:xG cl a b τ r=if r=Θ then HA cl a τ else HA cl b τ:=rfl
noncomputable def Fu (cl:Nat->List D->Res D)(a b:IR)(τ:Ev)(x:D):Res D:=Hn (il x) (xG cl a b τ)
theorem bt:Fu cl a b τ x=Hn (il x) (xG cl a b τ):=rfl
theorem dD:HA cl (.ite t a b) τ=Hn (HA cl t τ) (Fu cl a b τ):=rfl
noncomputable def tupK (ds:List D):Res D:=HB (iS ds.length) (.ok (.tup ds))
theorem bu:tupK ds=HB (iS ds.length) (.ok (.tup ds)):=rfl
theorem dE:HA cl (.tup es) τ=Hn (iQ cl es τ) tupK:=rfl
noncomputable def lstK (ds:List D):Res D:=HB (iS ds.length) (.ok (.lst Θ ds))
theorem bw:lstK ds=HB (iS ds.length) (.ok (.lst Θ ds)):=rfl
theorem dF:HA cl (.lst es) τ=Hn (iQ cl es τ) lstK:=rfl
noncomputable def Fv (cl:Nat->List D->Res D)(i:IR)(τ:Ev)(x:D):Res D:=Hn (HA cl i τ) (ir x)
theorem bx:Fv cl i τ x=Hn (HA cl i τ) (ir x):=rfl
theorem dG:HA cl (.idx a i) τ=Hn (HA cl a τ) (Fv cl i τ):=rfl
noncomputable def Du (cl:Nat->List D->Res D)(hi:Option IR)(τ:Ev)(x:D)(l:Option Int):Res D:=Hn (oZ cl hi τ) (qe x l)
theorem bA:Du cl hi τ x l=Hn (oZ cl hi τ) (qe x l):=rfl
noncomputable def Y2 (cl:Nat->List D->Res D)(lo hi:Option IR)(τ:Ev)(x:D):Res D:=Hn (oZ cl lo τ) (Du cl hi τ x)
theorem dH {lo hi:Option IR}{x:D}:Y2 cl lo hi τ x=Hn (oZ cl lo τ) (Du cl hi τ x):=rfl
theorem fF {a:IR}{lo hi:Option IR}:HA cl (.sl a lo hi) τ=Hn (HA cl a τ) (Y2 cl lo hi τ):=rfl
noncomputable def Bh (cl:Nat->List D->Res D)(f:Nat)(ds:List D):Res D:=cl f (HC ds)
theorem aF:Bh cl f ds=cl f (HC ds):=rfl
theorem bB:HA cl (.call f es) τ=Hn (iQ cl es τ) (Bh cl f):=rfl
theorem fG:HA cl (.bi f es) τ=Hn (iQ cl es τ) (jr f):=rfl
noncomputable def Fw (k:Kd)(x:D):Res D:=HB (mR x) (.ok (.bl (jA k x)))
theorem bC:Fw k x=HB (mR x) (.ok (.bl (jA k x))):=rfl
theorem fH:mR (.int i)=Θ:=rfl
theorem fI:mR (.str x)=Θ:=rfl
theorem fJ:mR (.tup ds)=Θ:=rfl
theorem fK:mR (.lst o ds)=Θ:=rfl
theorem bD:HA cl (.J0 a b) τ=Hn (HA cl a τ) fun x=>Hn (HA cl b τ) fun y=>sD x y:=rfl
theorem bE:HA cl (.JU a) τ=Hn (HA cl a τ) qi:=rfl
theorem aG:qi (.int n)=HB (decide (0<=n/\n<=1000)) (.ok (.lst Θ ((List.range n.toNat).map fun k=>.int (k:Nat)))):=rfl
theorem bF:HA cl (.JE a) τ=Hn (HA cl a τ) zF:=rfl
theorem fL:zF (.lst o ds)=.ok (.lst Θ ds.reverse):=rfl
noncomputable def Bj (cl:Nat->List D->Res D)(k:IR)(τ:Ev)(x:D):Res D:=Hn (HA cl k τ) (qg x)
theorem aH:Bj cl k τ x=Hn (HA cl k τ) (qg x):=rfl
theorem bG:HA cl (.K9 a k) τ=Hn (HA cl a τ) (Bj cl k τ):=rfl
noncomputable def Bl (cl:Nat->List D->Res D)(e:IR)(τ:Ev)(x:D):Res D:=HB (rm x) (Hn (HA cl e τ) (qh x))
theorem aI:Bl cl e τ (.lst o ds)=Hn (HA cl e τ) (qh (.lst o ds)):=rfl
theorem bH:HA cl (.Lu a e) τ=Hn (HA cl a τ) (Bl cl e τ):=rfl
theorem bJ:HA cl (.sset a) τ=Hn (HA cl a τ) sE:=rfl
theorem dI:HA cl (.Ke a k) τ=Hn (HA cl a τ) (Fw k):=rfl
noncomputable def Fx (cl:Nat->List D->Res D)(m:Mt)(es:List IR)(τ:Ev)(x:D):Res D:=HB (kn x) (Hn (iQ cl es τ) (nJ m x))
theorem bK:Fx cl m es τ x=HB (kn x) (Hn (iQ cl es τ) (nJ m x)):=rfl
theorem dJ:HA cl (.MX m o es) τ=Hn (HA cl o τ) (Fx cl m es τ):=rfl
noncomputable def Dv (ds:List D):Res D:=.ok (.lst Θ ds)
theorem bL:Dv ds=.ok (.lst Θ ds):=rfl
noncomputable def Bm (cl:Nat->List D->Res D)(G:Gm)(fr:List Nat)(T:Tg)(I:List IR)(E:IR)(τ:Ev)(its:List D):Res D:=HB (iV its.length) (Hn ((g9 (ie cl T I E (Lx G fr τ)) its)) Dv)
theorem aJ {its:List D}:Bm cl G fr T I E τ its=HB (iV its.length) (Hn ((g9 (ie cl T I E (Lx G fr τ)) its)) Dv):=rfl
theorem bM:HA cl (.comp G fr T s I E) τ=Hn (jG cl s τ) (Bm cl G fr T I E τ):=rfl
theorem fM:iQ cl [] τ=.ok []:=rfl
noncomputable def xH (d:D)(ds:List D):Res (List D):=.ok (d::ds)
theorem aK:xH d ds=.ok (d::ds):=rfl
noncomputable def Y3 (cl:Nat->List D->Res D)(es:List IR)(τ:Ev)(d:D):Res (List D):=Hn (iQ cl es τ) (xH d)
theorem dM:Y3 cl es τ d=Hn (iQ cl es τ) (xH d):=rfl
theorem fN:iQ cl (e::es) τ=Hn (HA cl e τ) (Y3 cl es τ):=rfl
noncomputable def Fy:D->Res (Option Int)
 |.int i=>.ok (Δ i)
 |_=>Ir
theorem bN:Fy (.int i)=.ok (Δ i):=rfl
theorem fO:oZ cl Φ τ=.ok Φ:=rfl
theorem fP:oZ cl (Δ e) τ=Hn (HA cl e τ) Fy:=rfl
theorem fQ:jX cl [] τ=.ok Θ:=rfl
noncomputable def Y4 (cl:Nat->List D->Res D)(es:List IR)(τ:Ev)(r:Bool):Res Bool:=if r=Θ then jX cl es τ else .ok Ξ
theorem dN:Y4 cl es τ r=if r=Θ then jX cl es τ else .ok Ξ:=rfl
theorem fR:jX cl (e::es) τ=Hn (Hn (HA cl e τ) il) (Y4 cl es τ):=rfl
noncomputable def Bn:D->Res (List D)
 |.int i=>HB (l5 i) (.ok (ij 0 i))
 |_=>Ir
theorem aL:Bn (.int i)=HB (l5 i) (.ok (ij 0 i)):=rfl
theorem fS:jG cl (.II n) τ=Hn (HA cl n τ) Bn:=rfl
noncomputable def Fz (cl:Nat->List D->Res D)(τ:Ev)(b:IR)(x:D):Res (List D):=Hn (HA cl b τ) fun y=>mS x y
noncomputable def xI (x y:D):Res (List D):=mS x y
theorem bP:Fz cl τ b x=Hn (HA cl b τ) (xI x):=rfl
theorem aj:xI (.lst o ds) (.lst o' es)=.ok (ju ds es):=rfl
theorem ak:xI (.tup ds) (.tup es)=.ok (ju ds es):=rfl
theorem bQ:zC (.lst o ds)=.ok (l7 ds):=rfl
theorem dO:jG cl (.KP a) τ=Hn (HA cl a τ) zC:=rfl
theorem dP:jG cl (.zip a b) τ=Hn (HA cl a τ) (Fz cl τ b):=rfl
theorem dQ:jG cl (.val e) τ=Hn (HA cl e τ) lj:=rfl
theorem fT:lj (.lst o ds)=.ok ds:=rfl
theorem fU:lj (.tup ds)=.ok ds:=rfl
theorem fV:lj (.str x)=HB (iS x.length) (.ok (jq x)):=rfl
theorem HL:MA cl t τ=Hn (HA cl t τ) il:=rfl
theorem HF:Jd cl mv (.v i) τ=(match gV τ i with|some d=>if mv=Θ then .ok (d,τ.set i Φ) else .ok (er d,τ.set i (Δ (er d)))|none=>Ir):=rfl
noncomputable def Bo (p:List D×Ev):Res (D×Ev):=HB (iS p.1.length) (.ok (.tup p.1,p.2))
theorem aM:Bo p=HB (iS p.1.length) (.ok (.tup p.1,p.2)):=rfl
theorem Hr:Jd cl mv (.tup es) τ=Hn (nL cl mv es τ) Bo:=rfl
noncomputable def Bp (p:List D×Ev):Res (D×Ev):=HB (iS p.1.length) (.ok (.lst Θ p.1,p.2))
theorem aN:Bp p=HB (iS p.1.length) (.ok (.lst Θ p.1,p.2)):=rfl
theorem Ht:Jd cl mv (.lst es) τ=Hn (nL cl mv es τ) Bp:=rfl
noncomputable def Bq (cl:Nat->List D->Res D)(mv:Bool)(a b:IR)(τ:Ev)(r:Bool):Res (D×Ev):=if r=Θ then Jd cl mv a τ else Jd cl mv b τ
theorem aO:Bq cl mv a b τ r=if r=Θ then Jd cl mv a τ else Jd cl mv b τ:=rfl
theorem Hu:Jd cl mv (.ite t a b) τ=Hn (MA cl t τ) (Bq cl mv a b τ):=rfl
noncomputable def pA (es:List IR)(τ:Ev)(d:D):Res (D×Ev):=if hE d=Θ then .ok (d,τ) else .ok (d,IH (hU es) τ)
theorem ae:pA es τ d=if hE d=Θ then .ok (d,τ) else .ok (d,IH (hU es) τ):=rfl
noncomputable def xJ (cl:Nat->List D->Res D)(f:Nat)(es:List IR)(τ:Ev)(ds:List D):Res (D×Ev):=Hn (cl f (HC ds)) (pA es τ)
theorem ao:xJ cl f es τ ds=Hn (cl f (HC ds)) (pA es τ):=rfl
theorem Hd:Jd cl mv (.call f es) τ=Hn (iQ cl es τ) (xJ cl f es τ):=rfl
noncomputable def jy (e:IR)(τ:Ev)(d:D):Res (D×Ev):=.ok (iw e d τ)
theorem aP:jy e τ d=.ok (iw e d τ):=rfl
theorem HM:Jd cl mv (.c d) τ=Hn (HA cl (.c d) τ) (jy (.c d) τ):=rfl
theorem dR:Jd cl mv (.bin op a b) τ=Hn (HA cl (.bin op a b) τ) (jy (.bin op a b) τ):=rfl
theorem dS:Jd cl mv (.neg a) τ=Hn (HA cl (.neg a) τ) (jy (.neg a) τ):=rfl
theorem dU:Jd cl mv (.cmp op a b) τ=Hn (HA cl (.cmp op a b) τ) (jy (.cmp op a b) τ):=rfl
theorem dW:Jd cl mv (.Jb a b) τ=Hn (HA cl (.Jb a b) τ) (jy (.Jb a b) τ):=rfl
theorem dX:Jd cl mv (.idx a i) τ=Hn (HA cl (.idx a i) τ) (jy (.idx a i) τ):=rfl
theorem fW {a:IR}{lo hi:Option IR}:Jd cl mv (.sl a lo hi) τ=Hn (HA cl (.sl a lo hi) τ) (jy (.sl a lo hi) τ):=rfl
theorem fX:Jd cl mv (.bi f es) τ=Hn (HA cl (.bi f es) τ) (jy (.bi f es) τ):=rfl
theorem bR:Jd cl mv (.J0 a b) τ=Hn (HA cl (.J0 a b) τ) (jy (.J0 a b) τ):=rfl
theorem bT:Jd cl mv (.JU a) τ=Hn (HA cl (.JU a) τ) (jy (.JU a) τ):=rfl
theorem bU:Jd cl mv (.JE a) τ=Hn (HA cl (.JE a) τ) (jy (.JE a) τ):=rfl
theorem He:Jd cl mv .Kp τ=.ok (.IE Θ [] [],τ):=rfl
theorem bV:Jd cl mv (.sset a) τ=Hn (HA cl (.sset a) τ) (jy (.sset a) τ):=rfl
theorem dY:Jd cl mv (.MX m o es) τ=Hn (HA cl (.MX m o es) τ) (jy (.MX m o es) τ):=rfl
theorem bW:Jd cl mv (.comp G fr T s I E) τ=Hn (HA cl (.comp G fr T s I E) τ) (jy (.comp G fr T s I E) τ):=rfl
theorem fY:nL cl mv [] τ=.ok ([],τ):=rfl
noncomputable def Dw (d:D)(q:List D×Ev):Res (List D×Ev):=.ok (d::q.1,q.2)
theorem bX:Dw d q=.ok (d::q.1,q.2):=rfl
noncomputable def Y5 (cl:Nat->List D->Res D)(mv:Bool)(es:List IR)(p:D×Ev):Res (List D×Ev):=Hn (nL cl mv es p.2) (Dw p.1)
theorem dZ:Y5 cl mv es p=Hn (nL cl mv es p.2) (Dw p.1):=rfl
theorem fZ:nL cl mv (e::es) τ=Hn (Jd cl mv e τ) (Y5 cl mv es):=rfl
noncomputable def V' (d:D):Res (Option D):=.ok (Δ d)
theorem d6:V' d=.ok (Δ d):=rfl
noncomputable def Dx (cl:Nat->List D->Res D)(E:IR)(τ:Ev)(r:Bool):Res (Option D):=if r=Θ then Hn (HA cl E τ) V' else .ok Φ
theorem bY:Dx cl E τ r=if r=Θ then Hn (HA cl E τ) V' else .ok Φ:=rfl
noncomputable def Y6 (cl:Nat->List D->Res D)(I:List IR)(E:IR)(τ:Ev):Res (Option D):=Hn (jX cl I τ) (Dx cl E τ)
theorem eh:Y6 cl I E τ=Hn (jX cl I τ) (Dx cl E τ):=rfl
theorem aQ:ie cl T I E τ x=Hn (jt T x τ) (Y6 cl I E):=rfl
theorem bZ:Lx G fr τ=fr.map (gV τ)++Τ (G.N.length - fr.length) Φ:=rfl
theorem HN:iw e (.int i) τ=(.int i,τ):=rfl
theorem HP:iw e (.str x) τ=(.str x,τ):=rfl
theorem HQ:iw e (.bl b) τ=(.bl b,τ):=rfl
theorem HR:iw e .IB τ=(.IB,τ):=rfl
noncomputable def Wa (τ':Ev):Res Fl:=.ok (.nx τ')
theorem ek:Wa τ=.ok (.nx τ):=rfl
noncomputable def FA (tg:Tg)(p:D×Ev):Res Fl:=Hn (jt tg p.1 p.2) Wa
theorem cb:FA tg p=Hn (jt tg p.1 p.2) Wa:=rfl
theorem Hf:JM cl (.asg tg e) τ=Hn (Jd cl Ξ e τ) (FA tg):=rfl
noncomputable def Dy (i:Nat)(p:D×Ev):Option D->Res Fl
 |some (.lst Θ ds)=>HB (iV ds.length) (.ok (.nx (p.2.set i (Δ (.lst Θ (ds++[p.1]))))))
 |_=>Ir
noncomputable def Dz (i:Nat)(p:D×Ev):Res Fl:=Dy i p (gV p.2 i)
theorem cf:Dz i p=Dy i p (gV p.2 i):=rfl
noncomputable def FC (cl:Nat->List D->Res D)(i:Nat)(e:IR)(τ:Ev):Option D->Res Fl
 |some (.lst _ _)=>Hn (Jd cl Ξ e τ) (Dz i)
 |_=>Ir
theorem cg:FC cl i e τ (Δ (.lst o ds))=Hn (Jd cl Ξ e τ) (Dz i):=rfl
theorem ck:Dy i p (Δ (.lst Θ ds))=HB (iV ds.length) (.ok (.nx (p.2.set i (Δ (.lst Θ (ds++[p.1])))))):=rfl
noncomputable def Ag (i:Nat)(p:D×Ev)(z:Int):Option D->Res Fl
 |some (.lst Θ ds)=>HB (decide (0<=z/\z.toNat<=ds.length)&&iV ds.length) (.ok (.nx (p.2.set i (Δ (.lst Θ (ds.take z.toNat++p.1::ds.drop z.toNat))))))
 |_=>Ir
theorem cq:Ag i p z (Δ (.lst Θ ds))=HB (decide (0<=z/\z.toNat<=ds.length)&&iV ds.length) (.ok (.nx (p.2.set i (Δ (.lst Θ (ds.take z.toNat++p.1::ds.drop z.toNat)))))):=rfl
noncomputable def DA (i:Nat):D->D×Ev->Res Fl
 |.int z,p=>Ag i p z (gV p.2 i)
 |_,_=>Ir
theorem cu:DA i (.int z) p=Ag i p z (gV p.2 i):=rfl
noncomputable def DB (cl:Nat->List D->Res D)(i:Nat)(e:IR)(τ:Ev)(y:D):Res Fl:=Hn (Jd cl Ξ e τ) (DA i y)
theorem cv:DB cl i e τ y=Hn (Jd cl Ξ e τ) (DA i y):=rfl
noncomputable def FD (cl:Nat->List D->Res D)(i:Nat)(k e:IR)(τ:Ev):Option D->Res Fl
 |some (.lst _ _)=>Hn (HA cl k τ) (DB cl i e τ)
 |_=>Ir
theorem cw:FD cl i k e τ (Δ (.lst o ds))=Hn (HA cl k τ) (DB cl i e τ):=rfl
theorem KS:JM cl (.ins i k e) τ=FD cl i k e τ (gV τ i):=by
 show(match gV τ i with|some (.lst _ _)=>(Hn (HA cl k τ) fun y=>Hn (Jd cl Ξ e τ) fun p=>(match y,gV p.2 i with|.int z,Δ (.lst Θ ds)=>HB (decide (0<=z/\z.toNat<=ds.length)&&iV ds.length) (.ok (Fl.nx (p.2.set i (Δ (.lst Θ (ds.take z.toNat++p.1::ds.drop z.toNat))))))|_,_=>Ir))|_=>Ir)=_;cases gV τ i with
 |none=>rfl
 |some d=>
  induction d using zD with
  |lst o ds=>
   refine congrArg (Hn (HA cl k τ)) (funext fun y=>congrArg (Hn (Jd cl Ξ e τ)) (funext fun p=>?_))
   induction y using zD with
   |int z=>
    show(match D.int z,gV p.2 i with|.int z,Δ (.lst Θ ds)=>HB (decide (0<=z/\z.toNat<=ds.length)&&iV ds.length) (.ok (.nx (p.2.set i (Δ (.lst Θ (ds.take z.toNat++p.1::ds.drop z.toNat))))))|_,_=>Ir)=Ag i p z (gV p.2 i);cases gV p.2 i with
    |none=>rfl
    |some d2=>induction d2 using zD<;>first|rfl|(rename_i b _;induction b using zB<;>rfl)
   |_=>rfl
  |_=>rfl
noncomputable def Ah (i:Nat)(e:IR)(τ:Ev)(d:D)(ks:List Key)(ds:List D):Option Key->Res Fl
 |some q=>HB (jl ds&&iV ks.length) (.ok (.nx ((IH (vars e) τ).set i (Δ (.IE Θ (kF ks q) (HC (kG ks ds q d)))))))
 |none=>Ir
noncomputable def G5 (cl:Nat->List D->Res D)(i:Nat)(k e:IR)(τ:Ev)(d:D):Option D->Res Fl
 |some (.IE Θ ks ds)=>Hn (HA cl k (IH (vars e) τ)) fun y=>Ah i e τ d ks ds (nH y)
 |_=>Ir
noncomputable def FE (cl:Nat->List D->Res D)(i:Nat)(k e:IR)(τ:Ev)(d:D):Res Fl:=G5 cl i k e τ d (gV τ i)
theorem JO:JM cl (.Ka i k e) τ=Hn (HA cl e τ) (FE cl i k e τ):=by show Hn (HA cl e τ) (fun d=>match gV τ i with|some (.IE Θ ks ds)=>Hn (HA cl k (IH (vars e) τ)) fun y=>(match nH y with|some q=>HB (jl ds&&iV ks.length) (.ok (Fl.nx ((IH (vars e) τ).set i (Δ (.IE Θ (kF ks q) (HC (kG ks ds q d)))))))|none=>Ir)|_=>Ir)=_;congr 1
theorem cx {its:List D}:zG j τ its=HB (iV its.length) (.ok (.nx (τ.set j (Δ (.lst Θ (Τ (its.length+1) (.lst Θ []))))))):=rfl
theorem Hg {j t:Nat}{G:Gm}{fr:List Nat}{s:Sr}:JM cl (.P4 j G fr t s) τ=Hn (jG cl s τ) (zG j τ):=rfl
theorem cy:JM cl (.Nz i j e c x v w) τ=wx cl i j e c x v w τ (gV τ i):=rfl
theorem cz:wx cl i j e c x v w τ (Δ (.lst Θ ds))=Hn (HA cl e τ) (zJ cl i j c x v w ds τ):=rfl
theorem cA:zJ cl i j c x v w ds τ (.int z)=rz cl i j c x v w ds τ (Kc ds.length z):=rfl
theorem Hh:JM cl (.app i e) τ=FC cl i e τ (gV τ i):=rfl
noncomputable def FF (τ:Ev)(d:D):Res Fl:=.ok (.nx τ)
theorem cB:FF τ d=.ok (.nx τ):=rfl
theorem Hl:JM cl (.exp e) τ=Hn (HA cl e τ) (FF τ):=rfl
noncomputable def Y7 (p:D×Ev):Res Fl:=.ok (.rt p.1)
theorem eB:Y7 p=.ok (.rt p.1):=rfl
theorem Hk:JM cl (.ret e) τ=Hn (Jd cl Θ e τ) Y7:=rfl
noncomputable def Y8 (cl:Nat->List D->Res D)(a b:List IS)(τ:Ev)(r:Bool):Res Fl:=if r=Θ then ia cl a τ else ia cl b τ
theorem eC:Y8 cl a b τ r=if r=Θ then ia cl a τ else ia cl b τ:=rfl
theorem Hv:JM cl (.IT t a b) τ=Hn (MA cl t τ) (Y8 cl a b τ):=rfl
noncomputable def turn (cl:Nat->List D->Res D)(tg:Tg)(body:List IS)(x:D)(τ:Ev):Res Fl:=Hn (jt tg x τ) (ia cl body)
theorem gY:turn cl tg body x τ=Hn (jt tg x τ) (ia cl body):=rfl
noncomputable def FG (cl:Nat->List D->Res D)(tg:Tg)(body:List IS)(p:List D×Ev):Res Fl:=forM (turn cl tg body) p.1 p.2
theorem cC:FG cl tg body p=forM (turn cl tg body) p.1 p.2:=rfl
theorem Hm:JM cl (.IL tg s body) τ=Hn (rp cl s τ) (FG cl tg body):=rfl
theorem Ha:JM cl (.L9 i j e) τ=sI cl i j e τ (gV τ i) (gV τ j):=rfl
theorem aR:sI cl i j e τ (Δ (.lst Θ es)) (Δ (.lst Θ ds))=Hn (HA cl e τ) (sG i j es ds τ):=rfl
theorem Hb:JM cl (.L' a) τ=(ia cl a τ):=rfl
theorem C':JM cl (.JV t body) τ=i5 (MA cl t) (ia cl body) sF τ:=rfl
noncomputable def DC (f:Ev->Res Fl):Fl->Res Fl
 |.nx τ'=>f τ'
 |.ct τ'=>.ok (.ct τ')
 |.bk τ'=>.ok (.bk τ')
 |.rt d=>.ok (.rt d)
 |.ri d ks vs=>.ok (.ri d ks vs)
theorem f6:ia cl [] τ=.ok (.nx τ):=rfl
theorem f7:ia cl (s::r) τ=Hn (JM cl s τ) (DC (ia cl r)):=rfl
theorem eE:DC f (.nx τ)=f τ:=rfl
theorem eF:DC f (.rt d)=.ok (.rt d):=rfl
noncomputable def FH (τ:Ev)(its:List D):Res (List D×Ev):=.ok (its,τ)
theorem cD {its:List D}:FH τ its=.ok (its,τ):=rfl
noncomputable def Br (e:IR)(τ:Ev)(its:List D):Res (List D×Ev):=.ok (HC its,IH (vars e) τ)
theorem aT {its:List D}:Br e τ its=.ok (HC its,IH (vars e) τ):=rfl
theorem eG:rp cl (.II n) τ=Hn (jG cl (.II n) τ) (FH τ):=rfl
theorem eI:rp cl (.val e) τ=Hn (jG cl (.val e) τ) (Br e τ):=rfl
noncomputable def FI (body:D->Ev->Res Fl)(xs:List D):Fl->Res Fl
 |.nx τ'=>forM body xs τ'
 |.ct τ'=>forM body xs τ'
 |.bk τ'=>.ok (.nx τ')
 |.rt d=>.ok (.rt d)
 |.ri d ks vs=>.ok (.ri d ks vs)
theorem dq:forM body [] τ=.ok (.nx τ):=rfl
theorem de:forM body (x::xs) τ=Hn (body x τ) (FI body xs):=rfl
theorem dh:FI body xs (.nx τ)=forM body xs τ:=rfl
theorem f9:jt (.nm i) d τ=.ok (τ.set i (Δ d)):=rfl
theorem gb:jt (.tp ts) (.tup ds) τ=HB (decide (ds.length=ts.length)) (kH ts ds τ):=rfl
theorem eJ:kH [] [] τ=.ok τ:=rfl
theorem eK:kH (t::ts) (d::ds) τ=Hn (jt t d τ) (kH ts ds):=rfl
theorem eL:(o::τ).set 0 p=p::τ:=rfl
theorem eM:(o::τ).set (i+1) p=o::τ.set i p:=rfl
theorem eN:J1 .add (.int a) (.int b)=.ok (.int (a+b)):=rfl
theorem aZ:J1 .add (.str a) (.str b)=HB (iS (a.length+b.length)) (.ok (.str (a++b))):=rfl
theorem cE:J1 .add (.lst o a) (.lst o' b)=HB (iS (a.length+b.length)) (.ok (.lst Θ (a++b))):=rfl
theorem eO:J1 .sub (.int a) (.int b)=.ok (.int (a - b)):=rfl
theorem Bt:J1 .mul (.int a) (.int b)=HB (decide (-(2 ^ 64) < a/\a < 2 ^ 64)||decide (-(2 ^ 64) < b/\b < 2 ^ 64)) (.ok (.int (a*b))):=rfl
theorem cF:J1 .mul (.str a) (.int b)=HB (decide (-16000<=b/\b<=16000/\a.length<=1000)) (.ok (.str (Txt.mul a b))):=rfl
theorem DD:J1 .fdiv (.int a) (.int b)=HB (decide (0 < b/\b < 1073741824)) (.ok (.int (a / b))):=rfl
theorem FJ:J1 .mod (.int a) (.int b)=HB (decide (0 < b)) (.ok (.int (a % b))):=rfl
theorem eP:J1 .pow (.int a) (.int b)=HB (decide (0<=b/\b<=1000000/\a.natAbs < 2 ^ 64)) (.ok (.int (a ^ b.toNat))):=rfl
theorem Y9:ir (.lst o ds) (.int i)=(match JG ds i with|some d=>.ok d|none=>Ir):=rfl
theorem x_s:ir (.str z) (.int i)=HB (iS z.length) (match JG z.cps.toList i with|some c=>.ok (.str ⟨#[c]⟩)|none=>Ir):=rfl
theorem gc {o:Bool}{ds:List D}{lo hi:Option Int}:qe (.lst o ds) lo hi=.ok (.lst Θ (jj ds lo hi)):=rfl
theorem gf {z:Str}{lo hi:Option Int}:qe (.str z) lo hi=HB (iS z.length) (.ok (.str (Txt.slice z lo hi))):=rfl
theorem gh:il (.bl b)=.ok b:=rfl
theorem FK:Jw .eq a b=Jn 40 a b:=by cases a<;>cases b<;>rfl
noncomputable def Ai (r:Bool):Res Bool:=.ok !r
theorem cG:Ai r=.ok !r:=rfl
theorem FL:Jw .ne a b=Hn (Jn 40 a b) Ai:=by cases a<;>cases b<;>rfl
theorem gk:Jn (n+1) (.int a) (.int b)=.ok (a == b):=rfl
theorem gm:Jn (n+1) (.str a) (.str b)=.ok (a == b):=rfl
theorem gq:Jn (n+1) (.tup a) (.tup b)=jI (Jn n) a b:=rfl
theorem gu:Jn (n+1) (.lst o a) (.lst o' b)=jI (Jn n) a b:=rfl
theorem gA:jI f [] []=.ok Θ:=rfl
theorem gB:Jw .lt (.int a) (.int b)=.ok (decide (a < b)):=rfl
theorem gC:Jw .le (.int a) (.int b)=.ok (decide (a<=b)):=rfl
theorem gD:Jw .gt (.int a) (.int b)=.ok (decide (b < a)):=rfl
theorem eQ:Jw .K8 (.str y) (.str x)=.ok (mP x y):=rfl
theorem xK:Jw .Ko a (.lst o ds)=Hn (Jc a ds) Ai:=by cases a<;>rfl
theorem FN:Jw .N0 a .IB=.ok (mQ a):=by cases a<;>rfl
theorem HU:mQ .IB=Θ:=rfl
theorem HV:mQ (.tup ds)=Ξ:=rfl
theorem HW:mQ (.lst o ds)=Ξ:=rfl
theorem Bu:Jw .K8 a (.tup ds)=Jc a ds:=by cases a<;>rfl
theorem xM:Jw .Ko a (.tup ds)=Hn (Jc a ds) Ai:=by cases a<;>rfl
theorem cH:jr .ord [.str x]=HB (decide (x.length=1)) (.ok (.int (x.cps.getD 0 0:Nat))):=rfl
theorem cJ:jr .abs [.int i]=.ok (.int (if i < 0 then -i else i)):=rfl
theorem eS:jr .len [.str x]=HB (iS x.length) (.ok (.int x.length)):=rfl
theorem eU:jr .len [.tup ds]=.ok (.int ds.length):=rfl
theorem eV:jr .len [.lst o ds]=.ok (.int ds.length):=rfl
theorem cK:jr .min2 [.int a,.int b]=.ok (.int (if b < a then b else a)):=rfl
theorem cL:jr .max2 [.int a,.int b]=.ok (.int (if b > a then b else a)):=rfl
theorem aU:jr .tuple [.lst o ds]=.ok (.tup ds):=rfl
theorem aq:jr .list [.lst o ds]=.ok (.lst Θ ds):=rfl
theorem au:jr .list [.IE o ks ds]=.ok (.lst Θ (ks.map zA)):=rfl
theorem qE (ns:List Int):iI (ns.map .int)=Δ ns:=by
 induction ns with
 |nil=>rfl
 |cons n ns ih=>show(iI (ns.map .int)).map (n::·)=_;rw[ih];rfl
theorem xN (ns:List Str):jF (ns.map .str)=Δ ns:=by
 induction ns with
 |nil=>rfl
 |cons n ns ih=>show(jF (ns.map .str)).map (n::·)=_;rw[ih];rfl
theorem tu (ns:List Bool):jk (ns.map .bl)=Δ ns:=by
 induction ns with
 |nil=>rfl
 |cons n ns ih=>show(jk (ns.map .bl)).map (n::·)=_;rw[ih];rfl
theorem xO {o:Bool}{bs:List Bool}:jr .any [.lst o (bs.map .bl)]=.ok (.bl (bs.any id)):=by
 show(match jk (bs.map .bl) with|some bs=>.ok (.bl (bs.any id))|none=>Ir)=(_:Res D)
 rw[tu]
theorem xP {o:Bool}{bs:List Bool}:jr .all [.lst o (bs.map .bl)]=.ok (.bl (bs.all id)):=by
 show(match jk (bs.map .bl) with|some bs=>.ok (.bl (bs.all id))|none=>Ir)=(_:Res D)
 rw[tu]
theorem Aj (h:(ys.map (·.length)).sum+ys.length*x.length<=16777216):nJ .join (.str x) [.lst o (ys.map .str)]=.ok (.str (Txt.join x ys)):=by
 show(match jF (ys.map .str) with|some ys=>HB (decide ((ys.map (fun y:Str=>y.length)).sum+ys.length*x.length<=16777216)) (.ok (.str (Txt.join x ys)))|none=>Ir)=(_:Res D)
 rw[xN];show HB (decide _) _=_;rw[u_ h];rfl
theorem eW:kn (.str x)=Θ:=rfl
theorem cM:jA .str (.str x)=Θ:=rfl
theorem cN:jA .int (.int x)=Θ:=rfl
theorem cO:jA .bool (.int x)=Ξ:=rfl
theorem cP:jA .tuple (.tup x)=Θ:=rfl
theorem av:jA .str (.int i)=Ξ:=rfl
theorem aw:jA .str (.tup ds)=Ξ:=rfl
theorem ax:jA .str (.lst o ds)=Ξ:=rfl
theorem ay:jA .int (.tup ds)=Ξ:=rfl
theorem az:jA .int (.lst o ds)=Ξ:=rfl
theorem af:jA .bool (.tup ds)=Ξ:=rfl
theorem ag:jA .bool (.lst o ds)=Ξ:=rfl
theorem ah:jA .list (.tup ds)=Ξ:=rfl
theorem ai:jA .list (.lst o ds)=Θ:=rfl
theorem aa:jA .tuple (.lst o ds)=Ξ:=rfl
theorem rM (ns:List Int):gW (ns.map .int)=Θ:=by rw[iR,List.all_map,W_];intro x _;rfl
theorem jL (ns:List Str):gW (ns.map .str)=Θ:=by rw[iR,List.all_map,W_];intro x _;rfl
theorem gE:er (.int i)=.int i:=by rw[er]
theorem gF:er (.str i)=.str i:=by rw[er]
theorem gG:er (.bl i)=.bl i:=by rw[er]
theorem gH:er .IB=.IB:=by rw[er]
theorem gJ:er (.tup ds)=.tup (HC ds):=by rw[er]
theorem gK:er (.lst o ds)=.lst Ξ (HC ds):=by rw[er]
theorem ff:HC []=[]:=by rw[HC]
theorem fg:HC (d::ds)=er d::HC ds:=by rw[HC]
theorem ib (ns:List Int):HC (ns.map .int)=ns.map .int:=iE (rM ns)
theorem g8 (ns:List Str):HC (ns.map .str)=ns.map .str:=iE (jL ns)
theorem fq:hE (.int i)=Θ:=rfl
theorem ft:hE (.str i)=Θ:=rfl
theorem fu:hE (.bl i)=Θ:=rfl
theorem fw:hE (.tup ds)=gW ds:=rfl
theorem fx:hE (.lst o ds)=Ξ:=rfl
theorem cQ:gW []=Θ:=rfl
theorem cR:gW (d::ds)=(hE d&&gW ds):=rfl
noncomputable def xQ:Fl->Res D
 |.nx _=>.ok .IB
 |.rt d=>.ok d
 |_=>Ir
theorem run (h:ds.length=fn.np):l8 cl fn ds=Hn (ia cl fn.body (ds.map Δ++Τ (fn.G.N.length - fn.np) Φ)) xQ:=by unfold l8;rw[u_ h];rfl
theorem cS:xQ (.nx τ)=.ok .IB:=rfl
theorem cT:xQ (.rt d)=.ok d:=rfl
theorem call (h:T f=Δ fn)(h0:fn.io=Ξ):aY T (n+1) f ds=l8 (aY T n) fn ds:=by show(match T f with|some fn=>(match fn.io with|false=>l8 (aY T n) fn ds|true=>rA (aY T n) fn ds)|none=>Ir)=_;rw[h];show(match fn.io with|false=>l8 (aY T n) fn ds|true=>rA (aY T n) fn ds)=_;rw[h0]
theorem go (h:T f=Δ fn)(h0:fn.io=Ξ)(h1:fn.np=m)(h2:fn.G.N.length=k)(h3:fn.body=body)(hl:ds.length=m) :
  aY T (n+1) f ds=Hn (ia (aY T n) body (ds.map Δ++Τ (k - m) Φ)) xQ:=by
 rw[call h h0,run (by rw[hl,h1]),h1,h2,h3]
end
end Ev
namespace Ev
section
variable {cl:Nat->List D->Res D}{τ:Ev}
theorem line:Ζ=16777216:=sizeLine_eq
theorem xR (h1 : -18446744073709551616 < a)(h2:a < 18446744073709551616):J1 .mul (.int a) (.int b)=.ok (.int (a*b)):=by rw[Bt,u_ (show -(2 ^ 64) < a/\a < 2 ^ 64 from⟨by omega,by omega⟩)];rfl
theorem xS (h1 : -18446744073709551616 < b)(h2:b < 18446744073709551616):J1 .mul (.int a) (.int b)=.ok (.int (a*b)):=by rw[Bt,u_ (show -(2 ^ 64) < b/\b < 2 ^ 64 from⟨by omega,by omega⟩),Bool.or_true];rfl
theorem xT (h1:0 < b)(h2:b < 1073741824):J1 .fdiv (.int a) (.int b)=.ok (.int (a / b)):=by rw[DD,u_ ⟨h1,h2⟩];rfl
theorem Bv (h1:0 < b):J1 .mod (.int a) (.int b)=.ok (.int (a % b)):=by rw[FJ,u_ h1];rfl
theorem lN (h:n<=16777216):iS n=Θ:=u_ (by rw[line];exact h)
theorem lP (h:n < 16777216):iV n=Θ:=u_ (by rw[line];exact h)
theorem tw (h1 : -4611686018427387904<=i)(h2:i < 4611686018427387904):l5 i=Θ:=u_ ⟨by omega,by omega⟩
theorem tB (f:α->β)(xs:List α)(i:Int):JG (xs.map f) i=(JG xs i).map f:=by
 unfold JG;rw[g_];cases Kc xs.length i with
 |none=>rfl
 |some j=>exact A_ ..
theorem rN (d:α)(h0:0<=i)(h1:i < xs.length):JG xs i=Δ (xs.getD i.toNat d):=by
 unfold JG Kc;rw[f_ h0,f_ h1];show xs[i.toNat]? = _;have:i.toNat < xs.length:=by omega
 rw[aaa,x_ this];rfl
theorem Qh {o:Bool}{xs:List Int}{i:Int}(h0:0<=i)(h1:i < xs.length):ir (.lst o (xs.map .int)) (.int i)=.ok (.int (xs.getD i.toNat 0)):=by rw[Y9,tB,rN 0 h0 h1];rfl
theorem DE {o:Bool}{xs:List Str}{i:Int}(h0:0<=i)(h1:i < xs.length):ir (.lst o (xs.map .str)) (.int i)=.ok (.str (xs.getD i.toNat ⟨#[]⟩)):=by rw[Y9,tB,rN ⟨#[]⟩ h0 h1];rfl
theorem RC (h0:0<=i)(h1:i < z.length)(hz:z.length<=16777216):ir (.str z) (.int i)=.ok (.str ⟨#[z.cps.toList.getD i.toNat 0]⟩):=by
 rw[x_s,lN hz];have hl:z.cps.toList.length=z.length:=by simp[Str.length]
 rw[rN 0 h0 (by rw[hl];exact h1)];rfl
noncomputable def fz:Bool->Option D->Option D
 |true,Δ d=>Δ (er d)
 |true,Φ=>Φ
 |false,o=>o
theorem gM:fz Θ (Δ d)=Δ (er d):=rfl
theorem gP:fz Ξ o=o:=rfl
theorem Bw:lC is k (o::τ)=fz (is.contains k) o::lC is (k+1) τ:=by show(if is.contains k then o.map er else o)::lC is (k+1) τ=_;cases is.contains k<;>induction o using zO<;>rfl
theorem gQ:vars (.c d)=[]:=rfl
theorem gR:vars (.g n d)=[]:=rfl
theorem gU:vars (.v i)=[i]:=rfl
theorem cU:vars (.bin o a b)=vars a++vars b:=rfl
theorem cV:vars (.tup es)=hU es:=rfl
theorem cW:vars (.lst es)=hU es:=rfl
theorem aV:vars (.call f es)=hU es:=rfl
theorem fy:vars (.bi f es)=hU es:=rfl
theorem cX:vars (.idx a i)=vars a++vars i:=rfl
theorem fA:hU []=[]:=rfl
theorem fB:hU (e::es)=vars e++hU es:=rfl
theorem aW:ik (.comp G fr t s i e)=Θ:=rfl
theorem cY:ik (.bin .add a b)=Θ:=rfl
theorem fC:ik (.sl a b c)=Θ:=rfl
theorem aX:ik (.bi .list es)=Θ:=rfl
theorem Ak {i j:Nat}{es:List D}{ns:List Int}{z:Int}{τ:Ev}(h0:0<=z)(h1:z.toNat < ns.length)(O6:ns.length<=1000)(h2:es.length < 16777216)(h3:(i != j)=Θ):sG i j es (ns.map .int) τ (.int z)=.ok (.nx ((τ.set j (Δ (.lst Θ ((ns.eraseIdx z.toNat).map .int)))).set i (Δ (.lst Θ (es++[.int (ns.getD z.toNat 0)]))))):=by show wy i j es τ z (iI (ns.map .int))=_;rw[qE];show HB (decide (0<=z/\z.toNat < ns.length/\ns.length<=1000)&&iV es.length&&(i != j)) _=_;rw[u_ ⟨h0,h1,O6⟩,show iV es.length=Θ from u_ (by rw[sizeLine_eq];exact h2),h3];rfl
theorem cZ:ik (.idx a i)=Ξ:=rfl
theorem FO:iw e (.lst o ds) τ=cond (ik e) (cond (gW ds) (.lst Θ ds,τ) (.lst Θ (HC ds),IH (vars e) τ)) (.lst Ξ (HC ds),IH (vars e) τ):=by
 unfold iw;rw[d_ (show ¬hE (.lst o ds)=Θ by intro z;cases z)];cases ik e
 ·exact Prod.ext (by show er (.lst o ds)=_;rw[er];rfl) rfl
 ·show(if gW ds=Θ then _ else _)=_;cases gW ds<;>rfl
theorem FP:iw e (.tup ds) τ=cond (gW ds) (.tup ds,τ) (.tup (HC ds),IH (vars e) τ):=by
 unfold iw;cases h:gW ds with
 |true=>rw[f_ (show hE (.tup ds)=Θ from h)];rfl
 |false=>rw[d_ (show ¬hE (.tup ds)=Θ by intro z;rw[show hE (.tup ds)=gW ds from rfl,h]at z;cases z)];cases ik e<;>exact Prod.ext (by show er (.tup ds)=_;rw[er];rfl) rfl
theorem tD (P:Nat->Ev->Prop):∀(its:List D) (k:Nat) (τ:Ev),P k τ->(∀(i:Nat) (x:D) (τ:Ev),its[i]? = Δ x->P (k+i) τ->∃τ',body x τ=.ok (.nx τ')/\P (k+i+1) τ')->∃τ',forM body its τ=.ok (.nx τ')/\P (k+its.length) τ'
 |[],k,τ,h,_=>⟨τ,rfl,h⟩
 |x::xs,k,τ,h,hb=>by
  obtain⟨MY,e1,h1⟩:=hb 0 x τ rfl h;obtain⟨Wb,e2,h2⟩:=tD P xs (k+1) MY h1 fun i y σ hy hp=>by obtain⟨τ',e',h'⟩:=hb (i+1) y σ (by simpa using hy) (by rw[show k+(i+1)=k+1+i by omega];exact hp);exact⟨τ',e',by rw[show k+1+i+1=k+(i+1)+1 by omega];exact h'⟩
  refine⟨Wb,?_,by rw[List.length_cons,show k+(xs.length+1)=k+1+xs.length by omega];exact h2⟩;rw[de,e1,dg,dh,e2]
theorem iG (P:Nat->Ev->Prop){its:List D}  (h:P 0 τ)(hb:∀(i:Nat)(x:D)(τ:Ev),its[i]? = Δ x->P i τ->∃τ',body x τ=.ok (.nx τ')/\P (i+1) τ'):∃τ',forM body its τ=.ok (.nx τ')/\P its.length τ':=by
 obtain⟨τ',h1,h2⟩:=tD P its 0 τ h fun i x τ hx hp=>by rw[Nat.zero_add]at hp ⊢;exact hb i x τ hx hp
 exact⟨τ',h1,by rw[Nat.zero_add]at h2;exact h2⟩
theorem qF {α β:Type}{body:D->Ev->Res Fl}(f:β->α->β)(LX:α->D)(st:β->Ev->Prop):∀(xs:List α) (b:β) (τ:Ev),st b τ->(∀(x:α) (b:β) (τ:Ev),x∈xs->st b τ->∃τ',body (LX x) τ=.ok (.nx τ')/\st (f b x) τ')->
  ∃τ',forM body (xs.map LX) τ=.ok (.nx τ')/\st (xs.foldl f b) τ'
 |[],b,τ,h,_=>⟨τ,rfl,h⟩
 |x::xs,b,τ,h,hb=>by obtain⟨MY,e1,h1⟩:=hb x b τ (by simp) h;obtain⟨Wb,e2,h2⟩:=qF f LX st xs (f b x) MY h1 fun y b σ hy hp=>hb y b σ (K_ _ hy) hp;refine⟨Wb,?_,h2⟩;rw[b_,de,e1,dg,dh,e2]
theorem iB {α β:Type}{g:D->Res (Option D)}(LX:α->D)(out:α->β)(Pf:β->D):∀(xs:List α),(∀x∈xs,g (LX x)=.ok (Δ (Pf (out x))))->g9 g (xs.map LX)=.ok ((xs.map out).map Pf)
 |[],_=>rfl
 |x::xs,h=>by show Hn (g (LX x)) _=_;rw[h x (by simp)];show Hn (g9 g (xs.map LX)) _=_;rw[iB LX out Pf xs fun y hy=>h y (K_ _ hy)];rfl
theorem kS (a b:Int):ij a b=((List.range (b - a).toNat).map fun k=>a+(k:Nat)).map .int:=by unfold ij;rw[y_];rfl
end
end Ev
end L2
namespace L2.Ev
theorem HX:gV (o::τ) 0=o:=rfl
theorem HY:gV (o::τ) (i+1)=gV τ i:=rfl
theorem H0:lC is k []=[]:=rfl
theorem Ia {a k:Nat}{l:List Nat}:List.contains (a::l) k=((k == a)||l.contains k):=rfl
theorem Ib {k:Nat}:List.contains [] k=Ξ:=rfl
theorem Ic:fz b (Δ (.int i))=Δ (.int i):=by cases b<;>rfl
theorem Ie:fz b (Δ (.str i))=Δ (.str i):=by cases b<;>rfl
theorem Ig:fz b Φ=Φ:=by cases b<;>rfl
end L2.Ev
namespace L2
open PySem
namespace Ev
theorem Ii {P:D}:ir (.tup [P]) (.int 0)=.ok P:=rfl
theorem Ij {P Q:D}:ir (.tup [P,Q]) (.int 0)=.ok P:=rfl
theorem Ik {P Q:D}:ir (.tup [P,Q]) (.int 1)=.ok Q:=rfl
theorem Il {P Q R:D}:ir (.tup [P,Q,R]) (.int 0)=.ok P:=rfl
theorem Im {P Q R:D}:ir (.tup [P,Q,R]) (.int 1)=.ok Q:=rfl
theorem Io {P Q R:D}:ir (.tup [P,Q,R]) (.int 2)=.ok R:=rfl
theorem Ip {o:Bool}{P Q:D}:ir (.lst o [P,Q]) (.int 0)=.ok P:=rfl
theorem Iq {o:Bool}{P Q:D}:ir (.lst o [P,Q]) (.int 1)=.ok Q:=rfl
end Ev
theorem Zaa {a b:Prop}(x:a)(y:b):a/\b:=⟨x,y⟩
noncomputable def Ih:=(Zaa (Zaa (Zaa (Zaa (Zaa @Ev.KS @Ev.JO) (Zaa @Ev.FK (Zaa @Ev.FL @Ev.xK))) (Zaa (Zaa @Ev.FN @Ev.Bu) (Zaa @Ev.xM (Zaa @Ev.xO @Ev.xP)))) (Zaa (Zaa (Zaa @Ev.ib @Ev.g8) (Zaa @Ev.xR (Zaa @Ev.xS @Ev.xT))) (Zaa (Zaa @Ev.Bv (Zaa @Ev.lN @Ev.lP)) (Zaa @Ev.tw (Zaa @Ev.Qh @Ev.DE))))) (Zaa (Zaa (Zaa (Zaa @Ev.RC @Ev.Bw) (Zaa @Ev.FO (Zaa @Ev.FP @Ev.rM))) (Zaa (Zaa @Ev.jL (Zaa @Bool.or_false @Bool.or_true)) (Zaa @List.replicate_succ.{0} (Zaa @List.replicate_zero.{0} @List.length_cons.{0})))) (Zaa (Zaa (Zaa @List.length_nil.{0} @Nat.zero_add) (Zaa @decide_true (Zaa @Bool.and_self @Bool.not_true))) (Zaa (Zaa @Bool.not_false (Zaa @Bool.and_true @beq_self_eq_true.{0})) (Zaa @if_true.{1} (Zaa @if_false.{1} @aax))))))
namespace Fr
end Fr
namespace Fr
open PySem
noncomputable def xU (f:Nat):Gm:={N:=["_law_own","_law_part"],kd:=[.local,.local],gl:=[f],df:=Ξ}
noncomputable def MN (f:Nat):List IS:=
 [(.IT (.cmp .N0 (.v 1) (.c .IB)) [(.ret (.cmp .N0 (.v 0) (.c .IB)))] []),(.IT (.KZ (.Ke (.v 1) .bool) (.Ke (.v 0) .bool)) [(.ret (.Jb (.Ke (.v 1) .bool) (.Jb (.Ke (.v 0) .bool) (.cmp .eq (.v 0) (.v 1)))))] []),(.IT (.Ke (.v 1) .str) [(.ret (.Jb (.Ke (.v 0) .str) (.cmp .eq (.v 0) (.v 1))))] []),(.IT (.Ke (.v 1) .int) [(.ret (.Jb (.Ke (.v 0) .int) (.cmp .eq (.v 0) (.v 1))))] []),(.IT (.Ke (.v 1) .tuple) [(.IT (.JT (.Ke (.v 0) .tuple)) [(.ret (.c (.bl Ξ)))] [])] [(.IT (.JT (.Ke (.v 0) .list)) [(.ret (.c (.bl Ξ)))] [])]),(.IT (.cmp .ne (.bi .len [(.v 0)]) (.bi .len [(.v 1)])) [(.ret (.c (.bl Ξ)))] []),(.ret (.bi .all [(.comp (xU f) [] (.tp [(.nm 0),(.nm 1)]) (.zip (.v 0) (.v 1)) [] (.call f [(.v 0),(.v 1)]))]))]
noncomputable def tE (f:Nat)(x:Str):Gm:={N:=[x],kd:=[.local],gl:=[f],df:=Ξ}
noncomputable def MO (f:Nat)(x:Str):List IS:=
 [(.IT (.Ke (.v 0) .list) [(.ret (.comp (tE f x) [] (.nm 0) (.val (.v 0)) [] (.call f [(.v 0)])))] []),(.IT (.Ke (.v 0) .tuple) [(.ret (.bi .tuple [(.comp (tE f x) [] (.nm 0) (.val (.v 0)) [] (.call f [(.v 0)]))]))] []),(.ret (.v 0))]
end Fr
end L2
local macro_rules | `(tactic| simp! [$xs,*]) =>do
 let a ← ("Nat.reduceBEq Nat.reduceSub Nat.reduceAdd reduceIte Ev.HX Ev.HY Ev.eL Ev.eM Ev.H0 Ev.Ia Ev.Ib cond_true cond_false List.map_cons List.map_nil List.cons_append List.nil_append Bool.true_or Bool.false_or Ev.gE Ev.gF Ev.gG Ev.gH Ev.gJ Ev.gK Ev.ff Ev.fg Ev.gQ Ev.gU Ev.cU Ev.aV Ev.fA Ev.fB Ev.cV Ev.cW Ev.fy Ev.cX Ev.ba Ev.dw Ev.aA Ev.bc Ev.bf Ev.bg Ev.dz Ev.aC Ev.bo Ev.bq Ev.dB Ev.aD Ev.br Ev.aE Ev.bt Ev.bu Ev.bw Ev.bx Ev.bA Ev.dH Ev.aF Ev.bC Ev.aG Ev.aH Ev.aI Ev.bK Ev.bL Ev.aJ Ev.aK Ev.dM Ev.dN Ev.bP Ev.aM Ev.aN Ev.aO Ev.ae Ev.ao Ev.aP Ev.bX Ev.dZ Ev.d6 Ev.bY Ev.eh Ev.ek Ev.cb Ev.cf Ev.cv Ev.cx Ev.cz Ev.cA Ev.cB Ev.eB Ev.eC Ev.cC Ev.aR Ev.cD Ev.aT Ev.cG Ev.dg Ev.dt Ev.HG Ev.HJ Ev.HK Ev.du Ev.dv Ev.bb Ev.dy Ev.aB Ev.dA Ev.fE Ev.dC Ev.dD Ev.dE Ev.dF Ev.dG Ev.fF Ev.bB Ev.fG Ev.fH Ev.fI Ev.fJ Ev.fK Ev.bD Ev.bE Ev.bF Ev.fL Ev.bG Ev.bH Ev.bJ Ev.dI Ev.dJ Ev.bM Ev.fM Ev.fN Ev.bN Ev.fO Ev.fP Ev.fQ Ev.fR Ev.aL Ev.fS Ev.aj Ev.ak Ev.bQ Ev.dO Ev.dP Ev.dQ Ev.fT Ev.fU Ev.fV Ev.HL Ev.HF Ev.Hr Ev.Ht Ev.Hu Ev.Hd Ev.HM Ev.dR Ev.dS Ev.dU Ev.dW Ev.dX Ev.fW Ev.fX Ev.bR Ev.bT Ev.bU Ev.He Ev.bV Ev.dY Ev.bW Ev.fY Ev.fZ Ev.aQ Ev.bZ Ev.HN Ev.HP Ev.HQ Ev.HR Ev.Hf Ev.cg Ev.ck Ev.cq Ev.cu Ev.cw Ev.Hg Ev.cy Ev.Hh Ev.Hl Ev.Hk Ev.Hv Ev.Hm Ev.Ha Ev.Hb Ev.C' Ev.f6 Ev.f7 Ev.eE Ev.eF Ev.eG Ev.eI Ev.dq Ev.de Ev.dh Ev.f9 Ev.gb Ev.eJ Ev.eK Ev.eN Ev.aZ Ev.cE Ev.eO Ev.cF Ev.eP Ev.gc Ev.gf Ev.gh Ev.gk Ev.gm Ev.gq Ev.gu Ev.gA Ev.gB Ev.gC Ev.gD Ev.eQ Ev.HU Ev.HV Ev.HW Ev.cH Ev.cJ Ev.eS Ev.eU Ev.eV Ev.cK Ev.cL Ev.aU Ev.aq Ev.au Ev.eW Ev.cM Ev.cN Ev.cO Ev.cP Ev.av Ev.aw Ev.ax Ev.ay Ev.az Ev.af Ev.ag Ev.ah Ev.ai Ev.aa Ev.fq Ev.ft Ev.fu Ev.fw Ev.fx Ev.cQ Ev.cR Ev.cS Ev.cT Ev.gM Ev.gP Ev.gR Ev.aW Ev.cY Ev.fC Ev.aX Ev.cZ".splitOn " ").toArray.mapM fun s =>`(Lean.Parser.Tactic.simpLemma| $(Lean.mkIdent s.toName):ident)
 `(tactic| simp (disch :=omega) only [L2.Ih,$a,*,↓L2.Ev.Ic,↓L2.Ev.Ie,↓L2.Ev.Ig,↓L2.Ev.Ii,↓L2.Ev.Ij,↓L2.Ev.Ik,↓L2.Ev.Il,↓L2.Ev.Im,↓L2.Ev.Io,↓L2.Ev.Ip,↓L2.Ev.Iq,$xs,*])
namespace Law
open PySem L2
noncomputable def top (i:Nat):Stmt:=PySem.Challenge.pw_flagroll_k35_houses_let_by.main.body.getD i (.Pass ⟨0,0,0,0⟩)
noncomputable def Z:Sg:={nm:=(["LETTERS","SIGNS","PLACES","SALT_LENGTH","is_text_of","check_salt","WORDS","MOST_THINGS","GREATEST_TOLD","LONGEST_TOLD","OUTCOMES","is_whole","is_told_text","is_told_number","things_go","cond_checked","stages_checked","outcome_checked","switch_checked","check_new","check_switch_there","check_group_cond","_law_draw","_law_names","_law_salt"]:List Str)++(["_law_place","_law_visitor_number","_law_allot","_law_stem","_law_text","_law_center","_law_number","_law_thing","_law_cond","_law_groups","_law_stages","_law_outcome","_law_rules","check_groups","check_holdouts","check_switches","tied_names","check_rings","_law_same","_law_copy","house_checked","_law_needs","_law_holdouts","_law_house","_law_chain"]:List Str)++(["law"]:List Str),P6:=[(21,(.str "abcdefghijklmnopqrstuvwxyz")),(22,(.str "abcdefghijklmnopqrstuvwxyz0123456789")),(27,(.tup [(.str "is"),(.str "not"),(.str "begins"),(.str "least"),(.str "most"),(.str "has"),(.str "lacks"),(.str "in"),(.str "out")])),(28,(.int 10)),(29,(.int 999999999)),(30,(.int 8)),(23,(.int 10007)),(24,(.int 12)),(31,(.tup [(.str "face"),(.str "share"),(.str "lot")]))],fns:=[32,25,33,34,35,36,26,37,38,39,40,41,42,59,60,61,62,63,66,43,44,45,46,47,48,49,50,51,52,53,54,55,56,57,58,67,68,69,64,65,70,71],cls:=[],xt:=[],pl:=[],rc:=[],xm:=[],fio:=[]}
noncomputable def oW (x y:Str):IR:=(.KZ (.cmp .eq (.v 7) (.c (.str x))) (.cmp .eq (.v 7) (.c (.str y))))
noncomputable def Y':List IS:=[(.asg (.nm 9) (.comp {N:=["_law_script","_law_k","_law_stem_here","_law_center_here","_law_j"],kd:=[.cell,.cell,.cell,.cell,.local],gl:=[53],df:=Ξ} [0,1,4,5] (.nm 4) (.II (.bin .add (.c (.int 1)) (.call 43 [(.v 0),(.bin .add (.v 1) (.c (.int 2))),(.c (.int 2))]))) [] (.call 53 [(.v 0),(.bin .add (.bin .add (.v 1) (.c (.int 3))) (.bin .mul (.c (.int 5)) (.v 4))),(.v 2),(.v 3)])))]
noncomputable def Za:List IS:=[(.asg (.nm 9) (.comp {N:=["_law_script","_law_k","_law_stem_here","_law_j"],kd:=[.cell,.cell,.cell,.local],gl:=[50],df:=Ξ} [0,1,4] (.nm 3) (.II (.bin .add (.c (.int 1)) (.call 43 [(.v 0),(.bin .add (.v 1) (.c (.int 2))),(.c (.int 2))]))) [] (.call 50 [(.v 0),(.bin .add (.bin .add (.v 1) (.c (.int 3))) (.bin .mul (.c (.int 5)) (.v 3))),(.v 2)]))),(.asg (.nm 9) (.comp {N:=["_law_stem_here","_law_thing_here"],kd:=[.cell,.local],gl:=[],df:=Ξ} [4] (.nm 1) (.val (.v 9)) [] (.ite (.cmp .ne (.v 1) (.c (.str ""))) (.v 1) (.sl (.v 0) Φ (Δ (.c (.int 1)))))))]
noncomputable def Zb:List IS:=[(.asg (.nm 9) (.lst [(.call 52 [(.v 0),(.bin .add (.v 1) (.c (.int 3))),(.v 5)])]))]
noncomputable def Zc:List IS:=[(.asg (.nm 8) (.idx (.v 3) (.call 43 [(.v 0),(.bin .add (.v 1) (.c (.int 2))),(.bi .len [(.v 3)])])))]
noncomputable def RE:List IS:=[(.IT (oW "is" "not") Y' []),(.IT (.cmp .eq (.v 7) (.c (.str "begins"))) Za []),(.IT (oW "least" "most") Zb []),(.IT (oW "in" "out") Zc []),(.ret (.tup [(.v 8),(.v 7),(.v 9)]))]
noncomputable def Wc:Gm:={N:=["_law_script","_law_k","_law_g","_law_marks","_law_stem_here","_law_center_here","_law_j"],kd:=[.cell,.cell,.cell,.cell,.cell,.cell,.local],gl:=[54],df:=Ξ}
noncomputable def RF:List IS:=[(.asg (.nm 8) (.comp Wc [0,1,7,2,3,4] (.nm 6) (.II (.c (.int 2))) [] (.call 54 [(.v 0),(.bin .add (.bin .add (.bin .add (.v 1) (.c (.int 70))) (.bin .mul (.c (.int 30)) (.v 2))) (.bin .mul (.c (.int 14)) (.v 6))),(.v 3),(.lst []),(.v 4),(.v 5)]))),(.asg (.nm 9) (.idx (.lst [(.lst []),(.lst [(.lst [])]),(.lst [(.sl (.v 8) Φ (Δ (.c (.int 1))))]),(.lst [(.v 8)]),(.lst [(.sl (.v 8) Φ (Δ (.c (.int 1)))),(.sl (.v 8) (Δ (.c (.int 1))) Φ)]),(.lst [(.lst []),(.sl (.v 8) Φ (Δ (.c (.int 1))))])]) (.call 43 [(.v 0),(.bin .add (.bin .add (.v 1) (.c (.int 6))) (.v 7)),(.c (.int 6))]))),(.app 5 (.tup [(.idx (.v 6) (.v 7)),(.v 9)]))]
noncomputable def T6:List IS:=[(.asg (.nm 7) (.lst [(.c (.int 0)),(.c (.int 10007)),(.v 2),(.bin .add (.v 2) (.c (.int 1))),(.v 2),(.call 43 [(.v 0),(.bin .add (.bin .add (.v 1) (.c (.int 2))) (.v 6)),(.c (.int 10008))])])),(.app 4 (.tup [(.v 5),(.idx (.v 7) (.call 43 [(.v 0),(.bin .add (.bin .add (.v 1) (.c (.int 5))) (.v 6)),(.c (.int 6))]))])),(.asg (.nm 5) (.bin .add (.bin .add (.v 5) (.c (.int 1))) (.call 43 [(.v 0),(.bin .add (.bin .add (.v 1) (.c (.int 8))) (.v 6)),(.c (.int 3))])))]
noncomputable def RH:List IS:=[(.app 11 (.call 54 [(.v 0),(.bin .add (.bin .add (.bin .add (.v 1) (.c (.int 6))) (.bin .mul (.c (.int 60)) (.v 10))) (.bin .mul (.c (.int 14)) (.v 12))),(.v 2),(.v 3),(.v 5),(.v 6)]))]
noncomputable def RK:List IS:=[(.asg (.nm 11) (.lst [])),(.IL (.nm 12) (.II (.call 43 [(.v 0),(.bin .add (.bin .add (.v 1) (.c (.int 1))) (.v 10)),(.c (.int 3))])) RH),(.app 9 (.tup [(.v 11),(.call 57 [(.v 0),(.bin .add (.bin .add (.v 1) (.c (.int 40))) (.bin .mul (.c (.int 60)) (.v 10))),(.v 4),(.v 7),(.v 8)])]))]
noncomputable def Wd:IR:=(.cmp .eq (.call 43 [(.v 0),(.bin .add (.v 1) (.c (.int 7))),(.c (.int 2))]) (.c (.int 0)))
noncomputable def Qi:IR:=(.Jb (.cmp .ne (.v 10) (.lst [])) (.cmp .eq (.idx (.idx (.v 10) (.neg (.c (.int 1)))) (.c (.int 1))) (.v 8)))
noncomputable def RL:IR:=(.neg (.c (.int 1)))
noncomputable def RM:IR:=(.tup [(.idx (.idx (.v 10) (.neg (.c (.int 1)))) (.c (.int 0))),(.v 9)])
noncomputable def T7:IR:=(.tup [(.v 8),(.v 9)])
noncomputable def Qj:List IS:=[(.asg (.tp [(.nm 8),(.nm 9)]) (.idx (.v 5) (.v 7))),(.Nz 6 10 (.call 43 [(.v 0),(.bin .add (.bin .add (.v 1) (.c (.int 8))) (.v 7)),(.bi .len [(.v 6)])]) Qi RL RM T7)]
noncomputable def We:List IS:=[(.P4 6 {N:=["_law_face"],kd:=[.local],gl:=[],df:=Ξ} [] 0 (.val (.v 2))),(.IL (.nm 7) (.II (.bi .len [(.v 5)])) Qj),(.ret (.tup [(.comp {N:=["_law_faces","_law_runs","_law_j"],kd:=[.cell,.cell,.local],gl:=[],df:=Ξ} [2,6] (.nm 2) (.II (.bi .len [(.v 2)])) [] (.tup [(.idx (.v 0) (.v 2)),(.idx (.v 1) (.v 2))])),(.idx (.v 6) (.bi .len [(.v 2)]))]))]
noncomputable def RP:List IS:=(.IT Wd [(.asg (.nm 5) (.JE (.v 5)))] [])::We
noncomputable def RQ:List IS:=[(.L9 13 12 (.call 43 [(.v 0),(.bin .add (.c (.int 410)) (.v 14)),(.bi .len [(.v 12)])]))]
noncomputable def Qk:List IS:=[(.asg (.nm 17) (.bin .add (.c (.int 1000)) (.bin .mul (.c (.int 330)) (.v 16)))),(.asg (.nm 18) (.idx (.v 9) (.call 43 [(.v 0),(.v 17),(.c (.int 2))]))),(.asg (.nm 19) (.call 46 [(.v 18),(.v 1)])),(.asg (.nm 20) (.call 58 [(.v 0),(.bin .add (.v 17) (.c (.int 20))),(.v 3),(.v 8),(.v 4),(.v 5),(.v 6),(.v 19),(.v 2)])),(.asg (.nm 21) (.tup [(.v 18),(.idx (.v 4) (.call 43 [(.v 0),(.bin .add (.v 17) (.c (.int 1))),(.c (.int 4))])),(.v 20),(.call 48 [(.v 0),(.bin .add (.v 17) (.c (.int 2))),(.sl (.v 4) Φ (Δ (.c (.int 3)))),(.v 19)])])),(.asg (.nm 22) (.call 67 [(.v 0),(.bin .add (.v 17) (.c (.int 322))),(.v 13),(.v 16),(.v 11),(.v 4)])),(.app 15 (.tup [(.idx (.v 11) (.v 16)),(.tup [(.v 21),(.v 22),(.cmp .eq (.call 43 [(.v 0),(.bin .add (.v 17) (.c (.int 328))),(.c (.int 6))]) (.c (.int 0)))])]))]
noncomputable def Pg:List IS:=[(.asg (.nm 8) (.idx (.v 5) (.v 7))),(.asg (.nm 9) (.lst [])),(.IT (.cmp .lt (.v 7) (.c (.int 19))) [(.asg (.nm 9) (.lst [(.tup [(.idx (.v 5) (.bin .add (.v 7) (.c (.int 1)))),(.c (.str "on"))])]))] []),(.asg (.nm 10) (.tup [(.tup [(.call 45 [(.v 0),(.bin .add (.c (.int 600)) (.bin .mul (.c (.int 15)) (.v 7)))]),(.c (.str "off")),(.lst []),(.tup [(.lst [(.tup [(.c (.str "on")),(.lst [(.tup [(.c (.int 0)),(.c (.int 10007))])])])]),(.lst [])])]),(.v 9),(.c (.bl Ξ))])),(.ins 6 (.call 43 [(.v 0),(.bin .add (.c (.int 405)) (.v 7)),(.bin .add (.bi .len [(.v 6)]) (.c (.int 1)))]) (.tup [(.v 8),(.v 10)]))]
noncomputable def T8:List IS:=[(.asg (.nm 6) (.c .IB)),(.L' [(.asg (.nm 6) (.call 66 [(.v 3)]))]),(.app 4 (.v 6))]
noncomputable def RU:List IS:=[(.asg (.nm 3) (.call 65 [(.v 1)])),(.asg (.nm 4) (.lst [])),(.IL (.nm 5) (.II (.c (.int 2))) T8),(.ret (.Jb (.call 64 [(.v 4),(.lst [(.c (.bl Θ)),(.c (.bl Θ))])]) (.call 64 [(.v 3),(.v 1)])))]
noncomputable def Wf:List IS:=
 [(.ret (.Jb (.Ke (.v 0) .int) (.JT (.Ke (.v 0) .bool))))]
noncomputable def Wg:Fn:={np:=1,G:={N:=["thing"],kd:=[.local],gl:=[14,8,16],df:=Θ},body:=Wf}
noncomputable def Ph:List IS:=
 [(.IT (.JT (.Ke (.v 0) .str)) [(.ret (.c (.bl Ξ)))] []),(.IT (.JT (.chain .le .le (.v 2) (.bi .len [(.v 0)]) (.v 3))) [(.ret (.c (.bl Ξ)))] []),(.ret (.bi .all [(.comp {N:=["signs","sign"],kd:=[.cell,.local],gl:=[],df:=Ξ} [1] (.nm 1) (.val (.v 0)) [] (.cmp .K8 (.v 1) (.v 0)))]))]
noncomputable def RV:Fn:={np:=4,G:={N:=["thing","signs","least","most"],kd:=[.local,.cell,.local,.local],gl:=[14,11,0,9],df:=Θ},body:=Ph}
noncomputable def RX:List IS:=
 [(.ret (.call 25 [(.v 0),(.g 22 (.str "abcdefghijklmnopqrstuvwxyz0123456789")),(.v 1),(.g 30 (.int 8))]))]
noncomputable def T9:Fn:={np:=2,G:={N:=["thing","least"],kd:=[.local,.local],gl:=[25,22,30],df:=Θ},body:=RX}
noncomputable def Wh:List IS:=
 [(.ret (.Jb (.call 32 [(.v 0)]) (.cmp .le (.bi .abs [(.v 0)]) (.g 29 (.int 999999999)))))]
noncomputable def Wi:Fn:={np:=1,G:={N:=["thing"],kd:=[.local],gl:=[32,13,29],df:=Θ},body:=Wh}
noncomputable def NK:List IS:=
 [(.IT (.KZ (.cmp .eq (.v 0) (.c (.str "is"))) (.cmp .eq (.v 0) (.c (.str "not")))) [(.asg (.nm 2) (.comp {N:=["thing"],kd:=[.local],gl:=[33,34],df:=Ξ} [] (.nm 0) (.val (.v 1)) [] (.KZ (.call 33 [(.v 0),(.c (.int 0))]) (.call 34 [(.v 0)])))),(.ret (.Jb (.chain .le .le (.c (.int 1)) (.bi .len [(.v 1)]) (.g 28 (.int 10))) (.bi .all [(.v 2)])))] []),(.IT (.cmp .eq (.v 0) (.c (.str "begins"))) [(.ret (.Jb (.chain .le .le (.c (.int 1)) (.bi .len [(.v 1)]) (.g 28 (.int 10))) (.bi .all [(.comp {N:=["thing"],kd:=[.local],gl:=[33],df:=Ξ} [] (.nm 0) (.val (.v 1)) [] (.call 33 [(.v 0),(.c (.int 1))]))])))] []),(.IT (.KZ (.cmp .eq (.v 0) (.c (.str "least"))) (.cmp .eq (.v 0) (.c (.str "most")))) [(.ret (.Jb (.cmp .eq (.bi .len [(.v 1)]) (.c (.int 1))) (.call 34 [(.idx (.v 1) (.c (.int 0)))])))] []),(.ret (.cmp .eq (.v 1) (.lst [])))]
noncomputable def Ql:Fn:={np:=2,G:={N:=["word","things","fits"],kd:=Τ 3 .local,gl:=[0,28,9,34],df:=Θ},body:=NK}
noncomputable def Pj:List IS:=
 [(.asg (.nm 2) (.idx (.v 0) (.c (.int 0)))),(.asg (.nm 3) (.idx (.v 0) (.c (.int 1)))),(.IT (.cmp .Ko (.v 3) (.g 27 (.tup [(.str "is"),(.str "not"),(.str "begins"),(.str "least"),(.str "most"),(.str "has"),(.str "lacks"),(.str "in"),(.str "out")]))) [.never] []),(.IT (.Jb (.KZ (.cmp .eq (.v 3) (.c (.str "in"))) (.cmp .eq (.v 3) (.c (.str "out")))) (.cmp .Ko (.v 2) (.v 1))) [.never] []),(.IT (.JT (.call 35 [(.v 3),(.idx (.v 0) (.c (.int 2)))])) [.never] []),(.ret (.c (.bl Θ)))]
noncomputable def RY:Fn:={np:=2,G:={N:=["cond","names","name","word"],kd:=Τ 4 .local,gl:=[27,35],df:=Θ},body:=Pj}
noncomputable def Wj:List IS:=
 [(.IT (.JT (.call 25 [(.v 0),(.g 21 (.str "abcdefghijklmnopqrstuvwxyz")),(.c (.int 1)),(.g 24 (.int 12))])) [.never] [])]
noncomputable def Wk:Fn:={np:=1,G:={N:=["salt"],kd:=[.local],gl:=[25,21,24],df:=Θ},body:=Wj}
noncomputable def Wl:List IS:=
 [(.asg (.nm 1) (.neg (.c (.int 1)))),(.IL (.tp [(.nm 2),(.nm 3)]) (.val (.v 0)) [(.IT (.cmp .le (.v 2) (.v 1)) [.never] []),(.IT (.KZ (.cmp .lt (.v 3) (.c (.int 0))) (.cmp .gt (.v 3) (.g 23 (.int 10007)))) [.never] []),(.asg (.nm 1) (.v 2))]),(.ret (.c (.bl Θ)))]
noncomputable def Wm:Fn:={np:=1,G:={N:=["stages","day_ahead","day","places"],kd:=Τ 4 .local,gl:=[23],df:=Θ},body:=Wl}
noncomputable def Pk:List IS:=
 [(.IT (.cmp .Ko (.idx (.v 0) (.c (.int 0))) (.g 31 (.tup [(.str "face"),(.str "share"),(.str "lot")]))) [.never] []),(.IT (.cmp .eq (.idx (.v 0) (.c (.int 0))) (.c (.str "share"))) [(.exp (.call 37 [(.idx (.v 0) (.c (.int 2)))]))] [])]
noncomputable def RZ:Fn:={np:=1,G:={N:=["outcome"],kd:=[.local],gl:=[31,37],df:=Θ},body:=Pk}
noncomputable def Wn:List IS:=
 [(.exp (.call 26 [(.idx (.v 1) (.c (.int 0)))])),(.IL (.tp [(.nm 2),(.nm 3)]) (.val (.idx (.v 1) (.c (.int 2)))) [(.IL (.nm 4) (.val (.v 2)) [(.exp (.call 36 [(.v 4),(.v 0)]))]),(.exp (.call 38 [(.v 3)]))]),(.ret (.c (.bl Θ)))]
noncomputable def Wo:Fn:={np:=2,G:={N:=["names","switch","conds","outcome","cond"],kd:=Τ 5 .local,gl:=[26,36,38],df:=Θ},body:=Wn}
noncomputable def Wq:List IS:=
 [(.IT (.cmp .K8 (.v 0) (.v 1)) [.never] [])]
noncomputable def Wr:Fn:={np:=2,G:={N:=["name","names_ahead"],kd:=[.local,.local],gl:=[],df:=Θ},body:=Wq}
noncomputable def Ws:List IS:=
 [(.IT (.cmp .Ko (.v 0) (.v 1)) [.never] [])]
noncomputable def Wt:Fn:={np:=2,G:={N:=["name","names"],kd:=[.local,.local],gl:=[],df:=Θ},body:=Ws}
noncomputable def Wu:List IS:=
 [(.IT (.cmp .K8 (.idx (.v 0) (.c (.int 1))) (.tup [(.c (.str "in")),(.c (.str "out"))])) [.never] []),(.exp (.call 36 [(.v 0),(.lst [])]))]
noncomputable def Wv:Fn:={np:=1,G:={N:=["cond"],kd:=[.local],gl:=[36],df:=Θ},body:=Wu}
noncomputable def Ww:List IS:=
 [(.asg (.nm 1) (.lst [])),(.IL (.tp [(.nm 2),(.nm 3)]) (.val (.v 0)) [(.exp (.call 40 [(.v 2),(.v 1)])),(.app 1 (.v 2)),(.IL (.nm 4) (.val (.v 3)) [(.IL (.nm 5) (.val (.v 4)) [(.exp (.call 42 [(.v 5)]))])])])]
noncomputable def Wx:Fn:={np:=1,G:={N:=["groups","names_ahead","name","rows","row","cond"],kd:=Τ 6 .local,gl:=[40,42],df:=Θ},body:=Ww}
noncomputable def Wy:List IS:=
 [(.asg (.nm 2) (.lst [])),(.IL (.tp [(.nm 3),(.nm 4),(.nm 5),(.nm 6)]) (.val (.v 0)) [(.exp (.call 40 [(.v 3),(.v 2)])),(.app 2 (.v 3)),(.exp (.call 26 [(.v 4)])),(.IT (.KZ (.cmp .lt (.v 5) (.c (.int 0))) (.cmp .gt (.v 5) (.g 23 (.int 10007)))) [.never] []),(.asg (.nm 7) (.ite (.cmp .N0 (.v 6) (.c .IB)) (.lst []) (.v 6))),(.IL (.nm 8) (.val (.v 7)) [(.exp (.call 41 [(.v 8),(.v 1)]))])])]
noncomputable def Wz:Fn:={np:=2,G:={N:=["holdouts","switch_names","names_ahead","name","salt","places","names","told_names","told_name"],kd:=Τ 9 .local,gl:=[40,26,23,41],df:=Θ},body:=Wy}
noncomputable def WA:List IS:=
 [(.asg (.nm 3) (.lst [])),(.IL (.tp [(.nm 4),(.nm 5)]) (.val (.v 0)) [(.exp (.call 40 [(.v 4),(.v 3)])),(.app 3 (.v 4)),(.exp (.call 39 [(.v 1),(.idx (.v 5) (.c (.int 0)))])),(.IL (.tp [(.nm 6),(.nm 7)]) (.val (.idx (.v 5) (.c (.int 1)))) [(.exp (.call 41 [(.v 6),(.v 2)]))])])]
noncomputable def WB:Fn:={np:=3,G:={N:=["switches","group_names","switch_names","names_ahead","name","entry","needed","face"],kd:=Τ 8 .local,gl:=[40,39,41],df:=Θ},body:=WA}
noncomputable def WC:List IS:=
 [(.asg (.nm 1) (.bi .list [(.v 0)])),(.JV (.c (.bl Θ)) [(.asg (.nm 2) (.comp {N:=["needs","tied","name"],kd:=[.cell,.cell,.local],gl:=[10],df:=Ξ} [0,1] (.nm 2) (.val (.v 1)) [(.bi .any [(.comp {N:=["tied","needed"],kd:=[.cell,.local],gl:=[],df:=Ξ} [1] (.nm 1) (.val (.K9 (.v 0) (.v 2))) [] (.cmp .K8 (.v 1) (.v 0)))])] (.v 2))),(.IT (.cmp .eq (.v 2) (.v 1)) [(.ret (.v 1))] []),(.asg (.nm 1) (.v 2))])]
noncomputable def WE:Fn:={np:=1,G:={N:=["needs","tied","left"],kd:=[.cell,.cell,.local],gl:=[5],df:=Θ},body:=WC}
noncomputable def WG:List IS:=
 [(.asg (.nm 1) .Kp),(.IL (.tp [(.nm 2),(.nm 3)]) (.val (.v 0)) [(.Ka 1 (.v 2) (.comp {N:=["needed","face"],kd:=[.local,.local],gl:=[],df:=Ξ} [] (.tp [(.nm 0),(.nm 1)]) (.val (.idx (.v 3) (.c (.int 1)))) [] (.v 0)))]),(.asg (.nm 4) (.call 62 [(.v 1)])),(.IT (.cmp .ne (.v 4) (.lst [])) [.never] [])]
noncomputable def WH:Fn:={np:=1,G:={N:=["switches","needs","name","entry","tied"],kd:=Τ 5 .local,gl:=[62],df:=Θ},body:=WG}
noncomputable def WI:List IS:=
 [(.asg (.nm 1) (.comp {N:=["name","entry"],kd:=[.local,.local],gl:=[],df:=Ξ} [] (.tp [(.nm 0),(.nm 1)]) (.val (.idx (.v 0) (.c (.int 2)))) [] (.v 0))),(.exp (.call 59 [(.idx (.v 0) (.c (.int 0)))])),(.exp (.call 60 [(.idx (.v 0) (.c (.int 1))),(.v 1)])),(.exp (.call 61 [(.idx (.v 0) (.c (.int 2))),(.comp {N:=["name","rows"],kd:=[.local,.local],gl:=[],df:=Ξ} [] (.tp [(.nm 0),(.nm 1)]) (.val (.idx (.v 0) (.c (.int 0)))) [] (.v 0)),(.v 1)])),(.exp (.call 63 [(.idx (.v 0) (.c (.int 2)))])),(.ret (.c (.bl Θ)))]
noncomputable def WJ:Fn:={np:=1,G:={N:=["house","switch_names"],kd:=[.local,.local],gl:=[59,60,61,63],df:=Θ},body:=WI}
noncomputable def WK:List IS:=
 [(.asg (.nm 3) (.c (.int 0))),(.IT (.cmp .gt (.bi .len [(.v 0)]) (.c (.int 0))) [(.asg (.nm 3) (.bin .mod (.idx (.v 0) (.bin .mod (.v 1) (.bi .len [(.v 0)]))) (.c (.int 2147483647))))] []),(.asg (.nm 4) (.bin .add (.bin .mul (.v 3) (.bin .add (.c (.int 742938285)) (.bin .mul (.bin .mul (.c (.int 9973)) (.v 1)) (.v 1)))) (.bin .mul (.v 1) (.c (.int 630360016))))),(.ret (.bin .mod (.bin .fdiv (.bin .mod (.v 4) (.c (.int 2147483647))) (.c (.int 97))) (.v 2)))]
noncomputable def WL:Fn:={np:=3,G:={N:=["_law_script","_law_k","_law_many","_law_cell","_law_mixed"],kd:=Τ 5 .local,gl:=[0],df:=Θ},body:=WK}
noncomputable def R0:List IS:=
 [(.asg (.nm 3) (.c (.str "abcdefghijklmnopqrstuvwxyz"))),(.asg (.nm 4) (.call 43 [(.v 0),(.v 1),(.c (.int 26))])),(.IT (.cmp .eq (.call 43 [(.v 0),(.bin .add (.v 1) (.c (.int 1))),(.c (.int 5))]) (.c (.int 0))) [(.ret (.comp {N:=["_law_letters","_law_start","_law_j"],kd:=[.cell,.cell,.local],gl:=[],df:=Ξ} [3,4] (.nm 2) (.II (.v 2)) [] (.bin .mul (.idx (.v 0) (.v 1)) (.bin .add (.c (.int 1)) (.v 2)))))] []),(.asg (.nm 5) (.c (.str ""))),(.IL (.nm 6) (.II (.call 43 [(.v 0),(.bin .add (.v 1) (.c (.int 2))),(.c (.int 8))])) [(.asg (.nm 5) (.bin .add (.v 5) (.idx (.v 3) (.call 43 [(.v 0),(.bin .add (.bin .add (.v 1) (.c (.int 40))) (.v 6)),(.c (.int 26))]))))]),(.asg (.nm 7) (.call 43 [(.v 0),(.bin .add (.v 1) (.c (.int 3))),(.bin .add (.bi .len [(.v 5)]) (.c (.int 1)))])),(.asg (.nm 8) (.idx (.lst [(.c (.int 1)),(.c (.int 7)),(.c (.int 25)),(.c (.int 11))]) (.call 43 [(.v 0),(.bin .add (.v 1) (.c (.int 1))),(.c (.int 4))]))),(.ret (.comp {N:=["_law_body","_law_at","_law_letters","_law_start","_law_step","_law_j"],kd:=[.cell,.cell,.cell,.cell,.cell,.local],gl:=[],df:=Ξ} [5,7,3,4,8] (.nm 5) (.II (.v 2)) [] (.bin .add (.bin .add (.sl (.v 0) Φ (Δ (.v 1))) (.idx (.v 2) (.bin .mod (.bin .add (.v 3) (.bin .mul (.v 4) (.v 5))) (.c (.int 26))))) (.sl (.v 0) (Δ (.v 1)) Φ))))]
noncomputable def T':Fn:={np:=3,G:={N:=["_law_script","_law_k","_law_many","_law_letters","_law_start","_law_body","_law_j","_law_at","_law_step"],kd:=[.local,.local,.local,.cell,.cell,.cell,.local,.cell,.cell],gl:=[43,15,0],df:=Θ},body:=R0}
noncomputable def WM:List IS:=
 [(.asg (.nm 2) (.c (.str "abcdefghijklmnopqrstuvwxyz"))),(.asg (.nm 3) (.c (.str ""))),(.IL (.nm 4) (.II (.call 43 [(.v 0),(.v 1),(.c (.int 12))])) [(.asg (.nm 3) (.bin .add (.v 3) (.idx (.v 2) (.call 43 [(.v 0),(.bin .add (.bin .add (.v 1) (.c (.int 2))) (.v 4)),(.c (.int 26))]))))]),(.asg (.nm 5) (.call 43 [(.v 0),(.bin .add (.v 1) (.c (.int 1))),(.bin .add (.bi .len [(.v 3)]) (.c (.int 1)))])),(.ret (.bin .add (.bin .add (.sl (.v 3) Φ (Δ (.v 5))) (.idx (.v 2) (.call 43 [(.v 0),(.bin .add (.v 1) (.c (.int 14))),(.c (.int 26))]))) (.sl (.v 3) (Δ (.v 5)) Φ)))]
noncomputable def WN:Fn:={np:=2,G:={N:=["_law_script","_law_k","_law_letters","_law_body","_law_j","_law_at"],kd:=Τ 6 .local,gl:=[15,43,0],df:=Θ},body:=WM}
noncomputable def WO:List IS:=
 [(.asg (.nm 2) (.c (.int 0))),(.asg (.nm 3) (.c (.int 0))),(.IL (.nm 4) (.val (.v 0)) [(.asg (.nm 2) (.bin .mod (.bin .add (.bin .mul (.v 2) (.c (.int 31))) (.bi .ord [(.v 4)])) (.c (.int 10006)))),(.asg (.nm 3) (.bin .mod (.bin .add (.bin .mul (.v 3) (.c (.int 37))) (.bi .ord [(.v 4)])) (.c (.int 10007))))]),(.ret (.bin .mod (.bin .add (.bin .mul (.bin .add (.c (.int 1)) (.v 2)) (.v 1)) (.v 3)) (.c (.int 10007))))]
noncomputable def WQ:Fn:={np:=2,G:={N:=["_law_salt_here","_law_number_here","_law_first","_law_second","_law_sign"],kd:=Τ 5 .local,gl:=[7],df:=Θ},body:=WO}
noncomputable def Pl:List IS:=
 [(.asg (.nm 2) (.call 43 [(.v 0),(.v 1),(.c (.int 6))])),(.IT (.cmp .lt (.v 2) (.c (.int 2))) [(.ret (.idx (.lst [(.c (.int 0)),(.bin .pow (.c (.int 10)) (.c (.int 9)))]) (.v 2)))] []),(.ret (.bin .add (.bin .mul (.call 43 [(.v 0),(.bin .add (.v 1) (.c (.int 1))),(.c (.int 31600))]) (.c (.int 31600))) (.call 43 [(.v 0),(.bin .add (.v 1) (.c (.int 2))),(.c (.int 31600))])))]
noncomputable def R1:Fn:={np:=2,G:={N:=["_law_script","_law_k","_law_way"],kd:=Τ 3 .local,gl:=[43],df:=Θ},body:=Pl}
noncomputable def R3:List IS:=
 (.asg (.nm 4) (.bin .add (.lst [(.c (.int 0)),(.v 3),(.bin .add (.v 3) (.c (.int 1)))]) (.comp {N:=["_law_script","_law_k","_law_j"],kd:=[.cell,.cell,.local],gl:=[43],df:=Ξ} [0,1] (.nm 2) (.II (.call 43 [(.v 0),(.bin .add (.v 1) (.c (.int 6))),(.c (.int 5))])) [] (.call 43 [(.v 0),(.bin .add (.v 1) (.v 2)),(.c (.int 10007))]))))::(.asg (.nm 4) (.sset (.comp {N:=["_law_cut"],kd:=[.local],gl:=[],df:=Ξ} [] (.nm 0) (.val (.v 4)) [(.cmp .lt (.v 0) (.c (.int 10007)))] (.v 0))))::(.asg (.nm 5) (.J0 (.v 4) (.bin .add (.sl (.v 4) (Δ (.c (.int 1))) Φ) (.lst [(.c (.int 10007))]))))::RP
noncomputable def WR:Fn:={np:=4,G:={N:=["_law_script","_law_k","_law_faces","_law_place_here","_law_cuts","_law_ranges","_law_runs","_law_j","_law_low","_law_high","_law_run"],kd:=[.cell,.cell,.cell,.local,.local,.local,.cell,.local,.local,.local,.local],gl:=[15,43,4,12,5,17,18,0],df:=Θ},body:=R3}
noncomputable def R4:List IS:=
 [(.asg (.nm 2) (.c (.str "abcdefghijklmnopqrstuvwxyz0123456789"))),(.asg (.nm 3) (.v 2)),(.IT (.cmp .eq (.call 43 [(.v 0),(.v 1),(.c (.int 2))]) (.c (.int 0))) [(.asg (.nm 3) (.sl (.sl (.v 2) (Δ (.call 43 [(.v 0),(.bin .add (.v 1) (.c (.int 1))),(.c (.int 34))])) Φ) Φ (Δ (.c (.int 2)))))] []),(.ret (.MX .join (.c (.str "")) [(.comp {N:=["_law_some","_law_script","_law_k","_law_j"],kd:=[.cell,.cell,.cell,.local],gl:=[43,0],df:=Ξ} [3,0,1] (.nm 3) (.II (.c (.int 12))) [] (.idx (.v 0) (.call 43 [(.v 1),(.bin .add (.bin .add (.v 2) (.c (.int 2))) (.v 3)),(.bi .len [(.v 0)])])))]))]
noncomputable def Ua:Fn:={np:=2,G:={N:=["_law_script","_law_k","_law_signs","_law_some"],kd:=[.cell,.cell,.local,.cell],gl:=[43,15],df:=Θ},body:=R4}
noncomputable def Pm:List IS:=
 [(.asg (.nm 3) (.sl (.v 2) Φ (Δ (.call 43 [(.v 0),(.v 1),(.c (.int 9))])))),(.IT (.Jb (.cmp .ne (.v 3) (.c (.str ""))) (.cmp .eq (.call 43 [(.v 0),(.bin .add (.v 1) (.c (.int 1))),(.c (.int 3))]) (.c (.int 0)))) [(.asg (.nm 3) (.bin .add (.sl (.v 3) Φ (Δ (.neg (.c (.int 1))))) (.idx (.c (.str "abcdefghijklmnopqrstuvwxyz0123456789")) (.call 43 [(.v 0),(.bin .add (.v 1) (.c (.int 2))),(.c (.int 36))]))))] []),(.ret (.v 3))]
noncomputable def R5:Fn:={np:=3,G:={N:=["_law_script","_law_k","_law_stem_here","_law_text_here"],kd:=Τ 4 .local,gl:=[43],df:=Θ},body:=Pm}
noncomputable def WT:List IS:=
 [(.asg (.nm 2) (.bin .sub (.bin .add (.bin .mul (.call 43 [(.v 0),(.v 1),(.c (.int 20000))]) (.c (.int 100000))) (.call 43 [(.v 0),(.bin .add (.v 1) (.c (.int 1))),(.c (.int 100000))])) (.bin .pow (.c (.int 10)) (.c (.int 9))))),(.ret (.bi .min2 [(.bi .max2 [(.v 2),(.bin .sub (.c (.int 0)) (.c (.int 999999990)))]),(.c (.int 999999990))]))]
noncomputable def WU:Fn:={np:=2,G:={N:=["_law_script","_law_k","_law_number_here"],kd:=Τ 3 .local,gl:=[43,2,3],df:=Θ},body:=WT}
noncomputable def R6:List IS:=
 [(.asg (.nm 3) (.call 43 [(.v 0),(.v 1),(.c (.int 8))])),(.IT (.cmp .lt (.v 3) (.c (.int 5))) [(.ret (.bin .sub (.bin .add (.v 2) (.v 3)) (.c (.int 2))))] []),(.ret (.idx (.lst [(.c (.int 999999999)),(.bin .sub (.c (.int 0)) (.c (.int 999999999))),(.c (.int 0))]) (.bin .sub (.v 3) (.c (.int 5)))))]
noncomputable def Ub:Fn:={np:=3,G:={N:=["_law_script","_law_k","_law_center_here","_law_way"],kd:=Τ 4 .local,gl:=[43],df:=Θ},body:=R6}
noncomputable def R7:List IS:=
 [(.IT (.cmp .eq (.call 43 [(.v 0),(.v 1),(.c (.int 2))]) (.c (.int 0))) [(.ret (.call 52 [(.v 0),(.bin .add (.v 1) (.c (.int 1))),(.v 3)]))] []),(.ret (.call 50 [(.v 0),(.bin .add (.v 1) (.c (.int 2))),(.v 2)]))]
noncomputable def Uc:Fn:={np:=4,G:={N:=["_law_script","_law_k","_law_stem_here","_law_center_here"],kd:=Τ 4 .local,gl:=[43,52,50],df:=Θ},body:=R7}
noncomputable def Ud:List IS:=
 (.asg (.nm 6) (.lst [(.c (.str "is")),(.c (.str "not")),(.c (.str "begins")),(.c (.str "least")),(.c (.str "most")),(.c (.str "has")),(.c (.str "lacks"))]))::(.IT (.cmp .ne (.v 3) (.lst [])) [(.asg (.nm 6) (.bin .add (.v 6) (.lst [(.c (.str "in")),(.c (.str "out"))])))] [])::(.asg (.nm 7) (.idx (.v 6) (.call 43 [(.v 0),(.v 1),(.bi .len [(.v 6)])])))::(.asg (.nm 8) (.idx (.v 2) (.call 43 [(.v 0),(.bin .add (.v 1) (.c (.int 1))),(.bi .len [(.v 2)])])))::(.asg (.nm 9) (.lst []))::RE
noncomputable def WV:Fn:={np:=6,G:={N:=["_law_script","_law_k","_law_marks","_law_groups_here","_law_stem_here","_law_center_here","_law_words","_law_word","_law_name","_law_things"],kd:=[.cell,.cell,.local,.local,.cell,.cell,.local,.local,.local,.local],gl:=[43,0,15,52],df:=Θ},body:=Ud}
noncomputable def WX:List IS:=
 [(.asg (.nm 5) (.lst [])),(.asg (.nm 6) (.idx (.lst [(.call 44 [(.v 0),(.v 1),(.c (.int 2))]),(.bi .list [(.v 2)])]) (.call 43 [(.v 0),(.bin .add (.v 1) (.c (.int 4))),(.c (.int 2))]))),(.IL (.nm 7) (.II (.call 43 [(.v 0),(.bin .add (.v 1) (.c (.int 5))),(.c (.int 3))])) RF),(.ret (.v 5))]
noncomputable def WY:Fn:={np:=5,G:={N:=["_law_script","_law_k","_law_marks","_law_stem_here","_law_center_here","_law_groups_here","_law_names_here","_law_g","_law_ones","_law_rows"],kd:=[.cell,.cell,.cell,.cell,.cell,.local,.local,.cell,.local,.local],gl:=[44,5,43,15],df:=Θ},body:=WX}
noncomputable def WZ:List IS:=
 [(.asg (.nm 4) (.lst [])),(.asg (.nm 5) (.bi .max2 [(.c (.int 0)),(.bin .sub (.v 3) (.call 43 [(.v 0),(.v 1),(.c (.int 4))]))])),(.IL (.nm 6) (.II (.call 43 [(.v 0),(.bin .add (.v 1) (.c (.int 1))),(.c (.int 4))])) T6),(.ret (.v 4))]
noncomputable def W0:Fn:={np:=4,G:={N:=["_law_script","_law_k","_law_place_here","_law_day","_law_stages_here","_law_first","_law_j","_law_some"],kd:=Τ 8 .local,gl:=[3,43,15],df:=Θ},body:=WZ}
noncomputable def Pn:List IS:=
 [(.asg (.nm 5) (.idx (.v 2) (.call 43 [(.v 0),(.bin .add (.v 1) (.c (.int 1))),(.bi .len [(.v 2)])]))),(.asg (.nm 6) (.call 43 [(.v 0),(.v 1),(.c (.int 3))])),(.IT (.cmp .eq (.v 6) (.c (.int 0))) [(.ret (.tup [(.c (.str "face")),(.v 5)]))] []),(.IT (.cmp .eq (.v 6) (.c (.int 1))) [(.ret (.tup [(.c (.str "share")),(.v 5),(.call 56 [(.v 0),(.bin .add (.v 1) (.c (.int 2))),(.v 3),(.v 4)])]))] []),(.ret (.tup [(.c (.str "lot"))]))]
noncomputable def R8:Fn:={np:=5,G:={N:=["_law_script","_law_k","_law_faces","_law_place_here","_law_day","_law_face","_law_way"],kd:=Τ 7 .local,gl:=[43,0,56],df:=Θ},body:=Pn}
noncomputable def W2:List IS:=
 [(.asg (.nm 9) (.lst [])),(.IL (.nm 10) (.II (.call 43 [(.v 0),(.v 1),(.c (.int 5))])) RK),(.ret (.v 9))]
noncomputable def W3:Fn:={np:=9,G:={N:=["_law_script","_law_k","_law_marks","_law_groups_here","_law_faces","_law_stem_here","_law_center_here","_law_place_here","_law_day","_law_rules_here","_law_i","_law_conds","_law_j"],kd:=Τ 13 .local,gl:=[15,43,54,57],df:=Θ},body:=W2}
noncomputable def W4:List IS:=
 [(.asg (.nm 6) (.sl (.v 2) (Δ (.bin .add (.Lu (.v 2) (.v 3)) (.c (.int 1)))) Φ)),(.asg (.nm 7) (.lst [])),(.IL (.nm 8) (.II (.call 43 [(.v 0),(.v 1),(.c (.int 3))])) [(.IT (.cmp .ne (.v 6) (.lst [])) [(.asg (.nm 9) (.idx (.v 6) (.call 43 [(.v 0),(.bin .add (.bin .add (.v 1) (.c (.int 1))) (.v 8)),(.bi .len [(.v 6)])]))),(.app 7 (.tup [(.idx (.v 4) (.v 9)),(.idx (.v 5) (.call 43 [(.v 0),(.bin .add (.bin .add (.v 1) (.c (.int 3))) (.v 8)),(.bi .len [(.v 5)])]))]))] [])]),(.ret (.v 7))]
noncomputable def W5:Fn:={np:=6,G:={N:=["_law_script","_law_k","_law_order","_law_s","_law_names_here","_law_faces","_law_behind","_law_needs_here","_law_j","_law_other"],kd:=Τ 10 .local,gl:=[15,43,0],df:=Θ},body:=W4}
noncomputable def Po:List IS:=
 [(.asg (.nm 5) (.call 44 [(.v 0),(.v 1),(.c (.int 3))])),(.IT (.Jb (.cmp .gt (.bi .len [(.v 3)]) (.c (.int 2))) (.cmp .eq (.call 43 [(.v 0),(.bin .add (.v 1) (.c (.int 4))),(.c (.int 2))]) (.c (.int 0)))) [(.asg (.nm 5) (.JE (.v 3)))] []),(.asg (.nm 6) (.lst [])),(.IL (.nm 7) (.II (.call 43 [(.v 0),(.bin .add (.v 1) (.c (.int 5))),(.c (.int 4))])) [(.asg (.nm 8) (.idx (.v 2) (.call 43 [(.v 0),(.bin .add (.bin .add (.v 1) (.c (.int 6))) (.v 7)),(.c (.int 3))]))),(.asg (.nm 9) (.call 46 [(.v 8),(.v 4)])),(.asg (.nm 10) (.comp {N:=["_law_script","_law_k","_law_h","_law_j","_law_name"],kd:=[.cell,.cell,.cell,.local,.local],gl:=[43],df:=Ξ} [0,1,7] (.tp [(.nm 3),(.nm 4)]) (.KP (.v 3)) [(.cmp .eq (.call 43 [(.v 0),(.bin .add (.bin .add (.bin .add (.v 1) (.c (.int 50))) (.bin .mul (.c (.int 20)) (.v 2))) (.v 3)),(.c (.int 2))]) (.c (.int 0)))] (.v 4))),(.IT (.cmp .eq (.call 43 [(.v 0),(.bin .add (.bin .add (.v 1) (.c (.int 10))) (.v 7)),(.c (.int 3))]) (.c (.int 0))) [(.asg (.nm 10) (.c .IB))] []),(.app 6 (.tup [(.idx (.v 5) (.v 7)),(.v 8),(.idx (.lst [(.c (.int 0)),(.v 9),(.bin .add (.v 9) (.c (.int 1))),(.c (.int 10007))]) (.call 43 [(.v 0),(.bin .add (.bin .add (.v 1) (.c (.int 14))) (.v 7)),(.c (.int 4))])),(.v 10)]))]),(.ret (.v 6))]
noncomputable def R9:Fn:={np:=5,G:={N:=["_law_script","_law_k","_law_salts","_law_names_here","_law_number_here","_law_own","_law_found","_law_h","_law_salt_here","_law_place_here","_law_some"],kd:=[.cell,.cell,.local,.local,.local,.local,.local,.cell,.local,.local,.local],gl:=[44,0,43,5,18,15,46,20],df:=Θ},body:=Po}
noncomputable def W6:List IS:=
 [(.asg (.nm 3) (.call 44 [(.v 0),(.c (.int 0)),(.c (.int 3))])),(.asg (.nm 4) (.call 44 [(.v 0),(.c (.int 50)),(.c (.int 4))])),(.asg (.nm 5) (.call 49 [(.v 0),(.c (.int 130))])),(.asg (.nm 6) (.call 51 [(.v 0),(.c (.int 145))])),(.asg (.nm 7) (.call 55 [(.v 0),(.c (.int 150)),(.v 3),(.v 5),(.v 6)])),(.asg (.nm 8) (.comp {N:=["_law_group"],kd:=[.local],gl:=[],df:=Ξ} [] (.nm 0) (.val (.v 7)) [] (.idx (.v 0) (.c (.int 0))))),(.asg (.nm 9) (.lst [(.call 45 [(.v 0),(.c (.int 100))]),(.call 45 [(.v 0),(.c (.int 115))]),(.call 45 [(.v 0),(.c (.int 285))])])),(.asg (.nm 10) (.bin .add (.c (.int 1)) (.call 43 [(.v 0),(.c (.int 148)),(.c (.int 5))]))),(.asg (.nm 11) (.call 44 [(.v 0),(.c (.int 400)),(.v 10)])),(.asg (.nm 12) (.JU (.v 10))),(.asg (.nm 13) (.lst [])),(.IL (.nm 14) (.II (.v 10)) RQ),(.asg (.nm 15) (.lst [])),(.IL (.nm 16) (.II (.v 10)) Qk),(.ret (.tup [(.v 7),(.call 68 [(.v 0),(.c (.int 500)),(.v 9),(.v 11),(.v 1)]),(.v 15)]))]
noncomputable def W8:Fn:={np:=3,G:={N:=["_law_script","_law_number_here","_law_day","_law_marks","_law_faces","_law_stem_here","_law_center_here","_law_groups_here","_law_told","_law_salts","_law_many","_law_names_here","_law_left","_law_order","_law_j","_law_switches","_law_s","_law_k","_law_salt_here","_law_place_here","_law_rules_here","_law_switch","_law_needs_here"],kd:=Τ 23 .local,gl:=[44,49,51,55,45,43,5,15,0,46,58,48,67,68],df:=Θ},body:=W6}
noncomputable def b64:List IS:=
 L2.Fr.MN 64
noncomputable def W':Fn:={np:=2,G:={N:=["_law_found","_law_due"],kd:=[.local,.local],gl:=[14,16,11,8,6,5,0,9,17],df:=Θ},body:=b64}
noncomputable def b65:List IS:=
 L2.Fr.MO 65 "_law_part"
noncomputable def Xa:Fn:={np:=1,G:={N:=["_law_thing_here"],kd:=[.local],gl:=[14,5,6],df:=Θ},body:=b65}
noncomputable def Xb:List IS:=
 [(.asg (.nm 1) (.c (.str "abcdefghijklmnopqrstuvwxyz"))),(.asg (.nm 2) (.call 43 [(.v 0),(.c (.int 403)),(.c (.int 26))])),(.asg (.nm 3) (.idx (.lst [(.c (.int 1)),(.c (.int 7)),(.c (.int 25)),(.c (.int 11))]) (.call 43 [(.v 0),(.c (.int 404)),(.c (.int 4))]))),(.asg (.nm 4) (.comp {N:=["_law_letters","_law_start","_law_step","_law_j"],kd:=[.cell,.cell,.cell,.local],gl:=[],df:=Ξ} [1,2,3] (.nm 3) (.II (.c (.int 20))) [] (.bin .add (.idx (.v 0) (.bin .mod (.bin .add (.v 1) (.bin .mul (.v 2) (.v 3))) (.c (.int 26)))) (.sl (.c (.str "x")) Φ (Δ (.bin .mod (.v 1) (.c (.int 2)))))))),(.asg (.nm 5) (.bi .list [(.v 4)])),(.asg (.nm 6) (.lst [])),(.IL (.nm 7) (.II (.c (.int 20))) Pg),(.ret (.tup [(.lst []),(.lst []),(.v 6)]))]
noncomputable def Xc:Fn:={np:=1,G:={N:=["_law_script","_law_letters","_law_start","_law_step","_law_names_here","_law_order","_law_found","_law_j","_law_name","_law_needs_here","_law_entry"],kd:=[.local,.cell,.cell,.cell,.local,.local,.local,.local,.local,.local,.local],gl:=[43,15,5,45,0],df:=Θ},body:=Xb}
noncomputable def Xd:List IS:=
 (.asg (.nm 1) (.call 69 [(.v 0),(.call 47 [(.v 0),(.c (.int 120))]),(.call 43 [(.v 0),(.c (.int 147)),(.c (.int 1000))])]))::(.asg (.nm 2) (.call 43 [(.v 0),(.c (.int 399)),(.c (.int 24))]))::(.IT (.cmp .lt (.v 2) (.c (.int 4))) [(.asg (.nm 1) (.call 70 [(.v 0)]))] [])::(.IT (.cmp .gt (.v 2) (.c (.int 20))) [(.asg (.nm 1) (.tup [(.lst []),(.lst []),(.lst [])]))] [])::RU
noncomputable def Ue:Fn:={np:=1,G:={N:=["_law_script","_law_house_here","_law_way","_law_handed","_law_found","_law_turn","_law_told"],kd:=Τ 7 .local,gl:=[69,47,43,70,65,15,66,64],df:=Θ},body:=Xd}
noncomputable def T:Tb:=fun n=>match n with
 |32=>Δ Wg
 |25=>Δ RV
 |33=>Δ T9
 |34=>Δ Wi
 |35=>Δ Ql
 |36=>Δ RY
 |26=>Δ Wk
 |37=>Δ Wm
 |38=>Δ RZ
 |39=>Δ Wo
 |40=>Δ Wr
 |41=>Δ Wt
 |42=>Δ Wv
 |59=>Δ Wx
 |60=>Δ Wz
 |61=>Δ WB
 |62=>Δ WE
 |63=>Δ WH
 |66=>Δ WJ
 |43=>Δ WL
 |44=>Δ T'
 |45=>Δ WN
 |46=>Δ WQ
 |47=>Δ R1
 |48=>Δ WR
 |49=>Δ Ua
 |50=>Δ R5
 |51=>Δ WU
 |52=>Δ Ub
 |53=>Δ Uc
 |54=>Δ WV
 |55=>Δ WY
 |56=>Δ W0
 |57=>Δ R8
 |58=>Δ W3
 |67=>Δ W5
 |68=>Δ R9
 |69=>Δ W8
 |64=>Δ W'
 |65=>Δ Xa
 |70=>Δ Xc
 |71=>Δ Ue
 |_=>Φ
theorem c32:g6 Z Wg ["thing"] (top 15)=Θ:=by decide +kernel
theorem c25:g6 Z RV ["thing","signs","least","most"] (top 16)=Θ:=by decide +kernel
theorem c33:g6 Z T9 ["thing","least"] (top 22)=Θ:=by decide +kernel
theorem c34:g6 Z Wi ["thing"] (top 23)=Θ:=by decide +kernel
theorem c35:g6 Z Ql ["word","things"] (top 24)=Θ:=by decide +kernel
theorem c36:g6 Z RY ["cond","names"] (top 25)=Θ:=by decide +kernel
theorem c26:g6 Z Wk ["salt"] (top 29)=Θ:=by decide +kernel
theorem c37:g6 Z Wm ["stages"] (top 32)=Θ:=by decide +kernel
theorem c38:g6 Z RZ ["outcome"] (top 33)=Θ:=by decide +kernel
theorem c39:g6 Z Wo ["names","switch"] (top 34)=Θ:=by decide +kernel
theorem c40:g6 Z Wr ["name","names_ahead"] (top 36)=Θ:=by decide +kernel
theorem c41:g6 Z Wt ["name","names"] (top 37)=Θ:=by decide +kernel
theorem c42:g6 Z Wv ["cond"] (top 38)=Θ:=by decide +kernel
theorem c59:g6 Z Wx ["groups"] (top 39)=Θ:=by decide +kernel
theorem c60:g6 Z Wz ["holdouts","switch_names"] (top 40)=Θ:=by decide +kernel
theorem c61:g6 Z WB ["switches","group_names","switch_names"] (top 41)=Θ:=by decide +kernel
theorem c62:g6 Z WE ["needs"] (top 42)=Θ:=by decide +kernel
theorem c63:g6 Z WH ["switches"] (top 44)=Θ:=by decide +kernel
theorem c66:g6 Z WJ ["house"] (top 45)=Θ:=by decide +kernel
theorem c43:g6 Z WL ["_law_script","_law_k","_law_many"] (top 47)=Θ:=by decide +kernel
theorem c44:g6 Z T' ["_law_script","_law_k","_law_many"] (top 48)=Θ:=by decide +kernel
theorem c45:g6 Z WN ["_law_script","_law_k"] (top 49)=Θ:=by decide +kernel
theorem c46:g6 Z WQ ["_law_salt_here","_law_number_here"] (top 50)=Θ:=by decide +kernel
theorem c47:g6 Z R1 ["_law_script","_law_k"] (top 51)=Θ:=by decide +kernel
theorem c48:g6 Z WR ["_law_script","_law_k","_law_faces","_law_place_here"] (top 52)=Θ:=by decide +kernel
theorem c49:g6 Z Ua ["_law_script","_law_k"] (top 53)=Θ:=by decide +kernel
theorem c50:g6 Z R5 ["_law_script","_law_k","_law_stem_here"] (top 54)=Θ:=by decide +kernel
theorem c51:g6 Z WU ["_law_script","_law_k"] (top 55)=Θ:=by decide +kernel
theorem c52:g6 Z Ub ["_law_script","_law_k","_law_center_here"] (top 56)=Θ:=by decide +kernel
theorem c53:g6 Z Uc ["_law_script","_law_k","_law_stem_here","_law_center_here"] (top 57)=Θ:=by decide +kernel
theorem c54:g6 Z WV ["_law_script","_law_k","_law_marks","_law_groups_here","_law_stem_here","_law_center_here"] (top 58)=Θ:=by decide +kernel
theorem c55:g6 Z WY ["_law_script","_law_k","_law_marks","_law_stem_here","_law_center_here"] (top 59)=Θ:=by decide +kernel
theorem c56:g6 Z W0 ["_law_script","_law_k","_law_place_here","_law_day"] (top 60)=Θ:=by decide +kernel
theorem c57:g6 Z R8 ["_law_script","_law_k","_law_faces","_law_place_here","_law_day"] (top 61)=Θ:=by decide +kernel
theorem c58:g6 Z W3 ["_law_script","_law_k","_law_marks","_law_groups_here","_law_faces","_law_stem_here","_law_center_here","_law_place_here","_law_day"] (top 62)=Θ:=by decide +kernel
theorem c67:g6 Z W5 ["_law_script","_law_k","_law_order","_law_s","_law_names_here","_law_faces"] (top 63)=Θ:=by decide +kernel
theorem c68:g6 Z R9 ["_law_script","_law_k","_law_salts","_law_names_here","_law_number_here"] (top 64)=Θ:=by decide +kernel
theorem c69:g6 Z W8 ["_law_script","_law_number_here","_law_day"] (top 65)=Θ:=by decide +kernel
theorem c64:g6 Z W' ["_law_found","_law_due"] (top 66)=Θ:=by decide +kernel
theorem c65:g6 Z Xa ["_law_thing_here"] (top 67)=Θ:=by decide +kernel
theorem c70:g6 Z Xc ["_law_script"] (top 68)=Θ:=by decide +kernel
theorem Zd:g6 Z Ue ["_law_script"] (top 69)=Θ:=by decide +kernel
theorem DF:∀n x,Z.name n=Δ x->x≠"__name__"/\(x == ("__debug__" : Str))=Ξ:=by
 have h:(iA++Z.nm).all (fun x=>!(x == "__name__")&&!(x == "__debug__"))=Θ:=by decide +kernel
 intro n x hx;have:=W_.mp h x (J_ hx);simpa using this
@[elab_as_elim] theorem JH {P:List Ψ->Prop}{n:Nat} (us:List Ψ) (e:us.length=n+1) (h:∀(x:Ψ) (us:List Ψ),us.length=n->P (x::us)):P us:=by
 cases us with
 |nil=>cases e
 |cons x us=>exact h x us (Nat.succ.inj e)
@[elab_as_elim] theorem Pp {P:List Ψ->Prop} (us:List Ψ) (e:us.length=0) (h:P []):P us:=by
 cases us with
 |nil=>exact h
 |cons x us=>cases e
theorem ln1 {fd:Ο}{ps:List Str}(h:∀x0:Ψ,bindArgs fd ⟨[x0],[]⟩=pure (ps.zip [x0]))(us:List Ψ)(e:us.length=1):bindArgs fd ⟨us,[]⟩=pure (ps.zip us):=JH us e fun x0 us e=>Pp us e (h x0)
theorem ln2 {fd:Ο}{ps:List Str}(h:∀x0 x1:Ψ,bindArgs fd ⟨[x0,x1],[]⟩=pure (ps.zip [x0,x1]))(us:List Ψ)(e:us.length=2):bindArgs fd ⟨us,[]⟩=pure (ps.zip us):=JH us e fun x0 us e=>JH us e fun x1 us e=>Pp us e (h x0 x1)
theorem ln3 {fd:Ο}{ps:List Str}(h:∀x0 x1 x2:Ψ,bindArgs fd ⟨[x0,x1,x2],[]⟩=pure (ps.zip [x0,x1,x2]))(us:List Ψ)(e:us.length=3):bindArgs fd ⟨us,[]⟩=pure (ps.zip us):=JH us e fun x0 us e=>JH us e fun x1 us e=>JH us e fun x2 us e=>Pp us e (h x0 x1 x2)
theorem ln4 {fd:Ο}{ps:List Str}(h:∀x0 x1 x2 x3:Ψ,bindArgs fd ⟨[x0,x1,x2,x3],[]⟩=pure (ps.zip [x0,x1,x2,x3]))(us:List Ψ)(e:us.length=4):bindArgs fd ⟨us,[]⟩=pure (ps.zip us):=JH us e fun x0 us e=>JH us e fun x1 us e=>JH us e fun x2 us e=>JH us e fun x3 us e=>Pp us e (h x0 x1 x2 x3)
theorem ln5 {fd:Ο}{ps:List Str}(h:∀x0 x1 x2 x3 x4:Ψ,bindArgs fd ⟨[x0,x1,x2,x3,x4],[]⟩=pure (ps.zip [x0,x1,x2,x3,x4]))(us:List Ψ)(e:us.length=5):bindArgs fd ⟨us,[]⟩=pure (ps.zip us):=JH us e fun x0 us e=>JH us e fun x1 us e=>JH us e fun x2 us e=>JH us e fun x3 us e=>JH us e fun x4 us e=>Pp us e (h x0 x1 x2 x3 x4)
theorem ln6 {fd:Ο}{ps:List Str}(h:∀x0 x1 x2 x3 x4 x5:Ψ,bindArgs fd ⟨[x0,x1,x2,x3,x4,x5],[]⟩=pure (ps.zip [x0,x1,x2,x3,x4,x5]))(us:List Ψ)(e:us.length=6):bindArgs fd ⟨us,[]⟩=pure (ps.zip us):=JH us e fun x0 us e=>JH us e fun x1 us e=>JH us e fun x2 us e=>JH us e fun x3 us e=>JH us e fun x4 us e=>JH us e fun x5 us e=>Pp us e (h x0 x1 x2 x3 x4 x5)
theorem ln9 {fd:Ο}{ps:List Str}(h:∀x0 x1 x2 x3 x4 x5 x6 x7 x8:Ψ,bindArgs fd ⟨[x0,x1,x2,x3,x4,x5,x6,x7,x8],[]⟩=pure (ps.zip [x0,x1,x2,x3,x4,x5,x6,x7,x8]))(us:List Ψ)(e:us.length=9):bindArgs fd ⟨us,[]⟩=pure (ps.zip us):=JH us e fun x0 us e=>JH us e fun x1 us e=>JH us e fun x2 us e=>JH us e fun x3 us e=>JH us e fun x4 us e=>JH us e fun x5 us e=>JH us e fun x6 us e=>JH us e fun x7 us e=>JH us e fun x8 us e=>Pp us e (h x0 x1 x2 x3 x4 x5 x6 x7 x8)
theorem dfo {f:Nat}{x:Str}{fn:Fn}{st:Stmt}{fa:Ω}{ps:List Str}{K:W.Frag}{h:Heap}{mg:Str->Option Ψ}{oc:Ψ}{od an:Option Ω}{sl:Array (Option Ψ)}{kV dc pm cd ct:Ψ}(c:g6 Z fn ps st=Θ)(hT:T f=Δ fn)(b:∀(kV dc pm:Ψ)(an:Option Ω)(cd ct:Ψ)(us:List Ψ),us.length=ps.length->bindArgs (W.fnOf x x (jB st) (jg st) (ic st) .none kV dc pm an cd ct) ⟨us,[]⟩=pure (ps.zip us))(X:K.In h)(G:h.Ns Η mg)
  (a:W.nsIn K Η x=Δ (Δ (.ref fa))) (l:K.lookup fa=Δ ⟨oc,od,.func (W.fnOf x x (jB st) (jg st) (ic st) .none kV dc pm an cd ct),sl⟩) (e:W.codeIn K cd x=Θ) (k:W.keepIn K (.ref fa)=Θ):Iu K mg Z T f x:=⟨fn,st,fa,_,ps,hT,qU l e k,W.mg_of X G a,(qU l e k).binds b,qC c⟩
noncomputable def DG:Nat:=71
noncomputable def Am:Str:="_law_script"
theorem all_mk {l:PySem.W.OpenLaw}{w:Β}{fa:Ω}{K:W.Frag}{h:Heap}{mg:Str->Option Ψ}{Xe:Ω}{Xf Sa:Option Ω}{Xg:Array (Option Ψ)}{Xh Sb Sd Sf Pq Sh:Ψ}{t21:Tok}{t22:Tok}{t28:Tok}{t29:Tok}{t30:Tok}{t23:Tok}{t24:Tok}{Ze:Ω}{Xi:Option Ω}{Xj:Nat}{Xk:Array (Option Ψ)}{Sk Sn So Ss Su Sy SA SD SE:Tok}{Zf:Ω}{Xl:Option Ω}{Xm:Nat}{Xn:Array (Option Ψ)}{SF SH SJ:Tok}(X:K.In h)(G:h.Ns Η mg)(hfa:mg "law" = Δ (.ref fa))
  (t32:Iu K mg Z T 32 "is_whole")
  (t25:Iu K mg Z T 25 "is_text_of")
  (t33:Iu K mg Z T 33 "is_told_text")
  (t34:Iu K mg Z T 34 "is_told_number")
  (t35:Iu K mg Z T 35 "things_go")
  (t36:Iu K mg Z T 36 "cond_checked")
  (t26:Iu K mg Z T 26 "check_salt")
  (t37:Iu K mg Z T 37 "stages_checked")
  (t38:Iu K mg Z T 38 "outcome_checked")
  (t39:Iu K mg Z T 39 "switch_checked")
  (t40:Iu K mg Z T 40 "check_new")
  (t41:Iu K mg Z T 41 "check_switch_there")
  (t42:Iu K mg Z T 42 "check_group_cond")
  (t59:Iu K mg Z T 59 "check_groups")
  (t60:Iu K mg Z T 60 "check_holdouts")
  (t61:Iu K mg Z T 61 "check_switches")
  (t62:Iu K mg Z T 62 "tied_names")
  (t63:Iu K mg Z T 63 "check_rings")
  (t66:Iu K mg Z T 66 "house_checked")
  (t43:Iu K mg Z T 43 "_law_draw")
  (t44:Iu K mg Z T 44 "_law_names")
  (t45:Iu K mg Z T 45 "_law_salt")
  (t46:Iu K mg Z T 46 "_law_place")
  (t47:Iu K mg Z T 47 "_law_visitor_number")
  (t48:Iu K mg Z T 48 "_law_allot")
  (t49:Iu K mg Z T 49 "_law_stem")
  (t50:Iu K mg Z T 50 "_law_text")
  (t51:Iu K mg Z T 51 "_law_center")
  (t52:Iu K mg Z T 52 "_law_number")
  (t53:Iu K mg Z T 53 "_law_thing")
  (t54:Iu K mg Z T 54 "_law_cond")
  (t55:Iu K mg Z T 55 "_law_groups")
  (t56:Iu K mg Z T 56 "_law_stages")
  (t57:Iu K mg Z T 57 "_law_outcome")
  (t58:Iu K mg Z T 58 "_law_rules")
  (t67:Iu K mg Z T 67 "_law_needs")
  (t68:Iu K mg Z T 68 "_law_holdouts")
  (t69:Iu K mg Z T 69 "_law_house")
  (t64:Iu K mg Z T 64 "_law_same")
  (t65:Iu K mg Z T 65 "_law_copy")
  (t70:Iu K mg Z T 70 "_law_chain")
  (a71:W.nsIn K Η "law" = Δ (Δ (.ref Xe))) (l71:K.lookup Xe=Δ ⟨Xh,Xf,.func (W.fnOf "law" "law" (jB (top 69)) (jg (top 69)) (ic (top 69)) .none Sb Sd Sf Sa Pq Sh),Xg⟩) (e71:W.codeIn K Pq "law" = Θ) (k71:W.keepIn K (.ref Xe)=Θ)
  (q21:W.nsIn K Η "LETTERS" = Δ (Δ (.str "abcdefghijklmnopqrstuvwxyz" t21)))
  (q22:W.nsIn K Η "SIGNS" = Δ (Δ (.str "abcdefghijklmnopqrstuvwxyz0123456789" t22)))
  (q27:W.nsIn K Η "WORDS" = Δ (Δ (.ref Ze))) (r27:K.lookup Ze=Δ ⟨.type "tuple",Xi,.seq #[.str "is" Sk,.str "not" Sn,.str "begins" So,.str "least" Ss,.str "most" Su,.str "has" Sy,.str "lacks" SA,.str "in" SD,.str "out" SE] Xj,Xk⟩)
  (q28:W.nsIn K Η "MOST_THINGS" = Δ (Δ (.int 10 t28)))
  (q29:W.nsIn K Η "GREATEST_TOLD" = Δ (Δ (.int 999999999 t29)))
  (q30:W.nsIn K Η "LONGEST_TOLD" = Δ (Δ (.int 8 t30)))
  (q23:W.nsIn K Η "PLACES" = Δ (Δ (.int 10007 t23)))
  (q24:W.nsIn K Η "SALT_LENGTH" = Δ (Δ (.int 12 t24)))
  (q31:W.nsIn K Η "OUTCOMES" = Δ (Δ (.ref Zf))) (r31:K.lookup Zf=Δ ⟨.type "tuple",Xl,.seq #[.str "face" SF,.str "share" SH,.str "lot" SJ] Xm,Xn⟩)
  (z0:W.nsIn K Η "len" = Δ Φ)
  (z1:W.nsIn K Η "sum" = Δ Φ)
  (z2:W.nsIn K Η "min" = Δ Φ)
  (z3:W.nsIn K Η "max" = Δ Φ)
  (z4:W.nsIn K Η "sorted" = Δ Φ)
  (z5:W.nsIn K Η "list" = Δ Φ)
  (z6:W.nsIn K Η "tuple" = Δ Φ)
  (z7:W.nsIn K Η "ord" = Δ Φ)
  (z8:W.nsIn K Η "int" = Δ Φ)
  (z9:W.nsIn K Η "all" = Δ Φ)
  (z10:W.nsIn K Η "any" = Δ Φ)
  (z11:W.nsIn K Η "str" = Δ Φ)
  (z12:W.nsIn K Η "set" = Δ Φ)
  (z13:W.nsIn K Η "abs" = Δ Φ)
  (z14:W.nsIn K Η "isinstance" = Δ Φ)
  (z15:W.nsIn K Η "range" = Δ Φ)
  (z16:W.nsIn K Η "bool" = Δ Φ)
  (z17:W.nsIn K Η "zip" = Δ Φ)
  (z18:W.nsIn K Η "reversed" = Δ Φ)
  (z19:W.nsIn K Η "dict" = Δ Φ)
  (z20:W.nsIn K Η "enumerate" = Δ Φ) :
  ∃fd:Ο,(∀(s:Α) (v:Ψ),BindsTo s fd ⟨[v],[]⟩ [(Am,v)])/\∀base:Heap,K.In base->base.Ns Η mg->J9 l.prog w K mg base (M4 l.prog w) (16+2+1) fa fd [Am] (Qg K (aY T (16+1)) DG [Am]):=by
 have e:=hfa.symm.trans (PySem.W.mg_of X G a71);cases e;have t:LW K mg Z T:=by
  constructor
  case NC=>
   exact DF
  case blt=>
   exact fun n x hx=>by
    have key:∀y∈iA,mg y=Φ:=by
     intro y hy;simp only[iA,k_,S_,or_false]at hy;rcases hy with rfl|rfl|rfl|rfl|rfl|rfl|rfl|rfl|rfl|rfl|rfl|rfl|rfl|rfl|rfl|rfl|rfl|rfl|rfl|rfl|rfl
     ·exact M_ X G z0
     ·exact M_ X G z1
     ·exact M_ X G z2
     ·exact M_ X G z3
     ·exact M_ X G z4
     ·exact M_ X G z5
     ·exact M_ X G z6
     ·exact M_ X G z7
     ·exact M_ X G z8
     ·exact M_ X G z9
     ·exact M_ X G z10
     ·exact M_ X G z11
     ·exact M_ X G z12
     ·exact M_ X G z13
     ·exact M_ X G z14
     ·exact M_ X G z15
     ·exact M_ X G z16
     ·exact M_ X G z17
     ·exact M_ X G z18
     ·exact M_ X G z19
     ·exact M_ X G z20
    exact key x (J_ hx)
  case cst=>
   exact fun n d x hm hx=>by
    have O8:(n,d)∈([(21,(.str "abcdefghijklmnopqrstuvwxyz")),(22,(.str "abcdefghijklmnopqrstuvwxyz0123456789")),(27,(.tup [(.str "is"),(.str "not"),(.str "begins"),(.str "least"),(.str "most"),(.str "has"),(.str "lacks"),(.str "in"),(.str "out")])),(28,(.int 10)),(29,(.int 999999999)),(30,(.int 8)),(23,(.int 10007)),(24,(.int 12)),(31,(.tup [(.str "face"),(.str "share"),(.str "lot")]))]:List (Nat×D)):=hm;simp only[k_,S_,or_false,Prod.mk.injEq]at O8;rcases O8 with⟨rfl,rfl⟩|⟨rfl,rfl⟩|⟨rfl,rfl⟩|⟨rfl,rfl⟩|⟨rfl,rfl⟩|⟨rfl,rfl⟩|⟨rfl,rfl⟩|⟨rfl,rfl⟩|⟨rfl,rfl⟩
    ·cases hx;exact⟨_,.str _,PySem.W.mg_of X G q21,⟨_,rfl⟩,fun _ _=>.str _⟩
    ·cases hx;exact⟨_,.str _,PySem.W.mg_of X G q22,⟨_,rfl⟩,fun _ _=>.str _⟩
    ·cases hx;exact⟨_,.ref _,PySem.W.mg_of X G q27,rfl,fun _ _=>.tup (sr [("is",_),("not",_),("begins",_),("least",_),("most",_),("has",_),("lacks",_),("in",_),("out",_)] r27 (Nat.le_of_ble_eq_true rfl)) (.cons (.str _) (.cons (.str _) (.cons (.str _) (.cons (.str _) (.cons (.str _) (.cons (.str _) (.cons (.str _) (.cons (.str _) (.cons (.str _) .nil)))))))))⟩
    ·cases hx;exact⟨_,.int _,PySem.W.mg_of X G q28,⟨_,rfl⟩,fun _ _=>.int _⟩
    ·cases hx;exact⟨_,.int _,PySem.W.mg_of X G q29,⟨_,rfl⟩,fun _ _=>.int _⟩
    ·cases hx;exact⟨_,.int _,PySem.W.mg_of X G q30,⟨_,rfl⟩,fun _ _=>.int _⟩
    ·cases hx;exact⟨_,.int _,PySem.W.mg_of X G q23,⟨_,rfl⟩,fun _ _=>.int _⟩
    ·cases hx;exact⟨_,.int _,PySem.W.mg_of X G q24,⟨_,rfl⟩,fun _ _=>.int _⟩
    ·cases hx;exact⟨_,.ref _,PySem.W.mg_of X G q31,rfl,fun _ _=>.tup (sr [("face",_),("share",_),("lot",_)] r31 (Nat.le_of_ble_eq_true rfl)) (.cons (.str _) (.cons (.str _) (.cons (.str _) .nil)))⟩
  case fns=>
   exact fun f hf x hx=>by
    have Qf:f∈([32,25,33,34,35,36,26,37,38,39,40,41,42,59,60,61,62,63,66,43,44,45,46,47,48,49,50,51,52,53,54,55,56,57,58,67,68,69,64,65,70,71]:List Nat):=hf;simp only[k_,S_,or_false]at Qf;rcases Qf with rfl|rfl|rfl|rfl|rfl|rfl|rfl|rfl|rfl|rfl|rfl|rfl|rfl|rfl|rfl|rfl|rfl|rfl|rfl|rfl|rfl|rfl|rfl|rfl|rfl|rfl|rfl|rfl|rfl|rfl|rfl|rfl|rfl|rfl|rfl|rfl|rfl|rfl|rfl|rfl|rfl|rfl
    ·cases hx;exact t32
    ·cases hx;exact t25
    ·cases hx;exact t33
    ·cases hx;exact t34
    ·cases hx;exact t35
    ·cases hx;exact t36
    ·cases hx;exact t26
    ·cases hx;exact t37
    ·cases hx;exact t38
    ·cases hx;exact t39
    ·cases hx;exact t40
    ·cases hx;exact t41
    ·cases hx;exact t42
    ·cases hx;exact t59
    ·cases hx;exact t60
    ·cases hx;exact t61
    ·cases hx;exact t62
    ·cases hx;exact t63
    ·cases hx;exact t66
    ·cases hx;exact t43
    ·cases hx;exact t44
    ·cases hx;exact t45
    ·cases hx;exact t46
    ·cases hx;exact t47
    ·cases hx;exact t48
    ·cases hx;exact t49
    ·cases hx;exact t50
    ·cases hx;exact t51
    ·cases hx;exact t52
    ·cases hx;exact t53
    ·cases hx;exact t54
    ·cases hx;exact t55
    ·cases hx;exact t56
    ·cases hx;exact t57
    ·cases hx;exact t58
    ·cases hx;exact t67
    ·cases hx;exact t68
    ·cases hx;exact t69
    ·cases hx;exact t64
    ·cases hx;exact t65
    ·cases hx;exact t70
    ·cases hx;exact dfo Zd rfl (fun _ _ _ _ _ _=>ln1 fun _=>rfl) X G a71 l71 e71 k71
  case NJ=>
   exact fun f hf=>absurd (show f∈([]:List Nat) from hf) (by simp)
 exact⟨PySem.W.fnOf "law" "law" (jB (top 69)) (jg (top 69)) (ic (top 69)) .none Sb Sd Sf Sa Pq Sh,fun s v=>.of_eq rfl,fun base _ _=>Dm t 16 (by decide) (f:=71) (fn:=Ue) rfl (qU (st:=top 69) l71 e71 k71) (qC Zd)⟩
end Law
namespace L2
open PySem PySem.Spec PyProof.Rows PySem.SeqAt
namespace Fr
noncomputable def one (c:Nat):Str:=⟨#[c]⟩
noncomputable def Hz (cs:List Nat):Str:=⟨cs.toArray⟩
def low (c:Nat):Prop:=97<=c/\c<=122
theorem xV:(Ρ "abcdefghijklmnopqrstuvwxyz").cps.toList=List.range' 97 26:=by decide +kernel
theorem tF:(Ρ "abcdefghijklmnopqrstuvwxyz").length=26:=by decide +kernel
theorem lQ (h0:0<=i)(h1:i < 26):ir (.str "abcdefghijklmnopqrstuvwxyz") (.int i)=.ok (.str (one (97+i.toNat))):=by
 rw[Ev.RC h0 (by rw[tF];exact h1) (by rw[tF];decide),xV];have:(List.range' 97 26).getD i.toNat 0=97+i.toNat:=by rw[aaa,List.getElem?_range' (by omega)];show 97+1*i.toNat=_;omega
 rw[this];rfl
theorem iO (cs:List Nat):(Hz cs).length=cs.length:=by unfold Hz Str.length;simp
theorem pB (c:Nat):(one c).length=1:=rfl
theorem jM (h0:0<=j)(h1:j<=cs.length):Txt.slice (Hz cs) Φ (Δ j)=Hz (cs.take j.toNat):=by
 have:=StrLaws.sliceText_to (x:=Hz cs) (j:=j) ⟨h0,by show j<=(cs.toArray.toList.length:Nat);simpa using h1⟩;refine this.trans ?_;show(⟨((cs.toArray.toList.drop 0).take (j - 0).toNat).toArray⟩:Str)=⟨(cs.take j.toNat).toArray⟩
 rw[List.toList_toArray,List.drop_zero,Int.sub_zero]
theorem ni (h0:0<=i)(h1:i<=cs.length):Txt.slice (Hz cs) (Δ i) Φ=Hz (cs.drop i.toNat):=by
 have:=StrLaws.sliceText_from (x:=Hz cs) (i:=i) ⟨h0,by show i<=(cs.toArray.toList.length:Nat);simpa using h1⟩;refine this.trans ?_;show(⟨((cs.toArray.toList.drop i.toNat).take ((cs.toArray.toList.length:Int) - i).toNat).toArray⟩:Str)=⟨(cs.drop i.toNat).toArray⟩
 rw[List.toList_toArray,List.take_of_length_le (by rw[aam];omega)]
theorem An (a b:List Nat):Hz a++Hz b=Hz (a++b):=by
 show(⟨a.toArray++b.toArray⟩:Str)=⟨(a++b).toArray⟩
 rw[List.append_toArray]
theorem kT (c:Nat):one c=Hz [c]:=rfl
theorem jE (h:a.length+b.length<=1000):J1 .add (.str (Hz a)) (.str (Hz b))=.ok (.str (Hz (a++b))):=by rw[Ev.aZ,Ev.lN (by rw[iO,iO];omega),An];rfl
theorem jN (cs:List Nat):jq (Hz cs)=(cs.map one).map .str:=by unfold jq Hz one;rw[y_];rfl
theorem G6 {β:Type}{body:D->Ev->Res Fl}(f:β->Nat->β)(st:β->Ev->Prop)(cs:List Nat)(b:β)(τ:Ev)(h:st b τ)(hb:∀(c:Nat)(b:β)(τ:Ev),c∈cs->st b τ->∃τ',body (.str (one c)) τ=.ok (.nx τ')/\st (f b c) τ') :
  ∃τ',forM body ((cs.map one).map .str) τ=.ok (.nx τ')/\st (cs.foldl f b) τ':=by
 have:=Ev.qF (body:=body) f (fun c:Nat=>D.str (one c)) st cs b τ h hb;rw[show(cs.map one).map D.str=cs.map fun c=>D.str (one c) by rw[y_];rfl];exact this
theorem DH (h:low c):mP "abcdefghijklmnopqrstuvwxyz" (one c)=Θ:=by
 have:∀k,k < 26->mP "abcdefghijklmnopqrstuvwxyz" (one (97+k))=Θ:=by decide +kernel
 obtain⟨h1,h2⟩:=h;rw[show c=97+(c - 97) by omega];exact this _ (by omega)
noncomputable def kf (a m:Int)(k:Int)(c:Nat):Int:=(k*a+(c:Nat)) % m
theorem Ao (c:Nat):decide ((one c).length=1)=Θ:=rfl
theorem Ap (c:Nat):(one c).cps.getD 0 0=c:=rfl
end Fr
end L2
namespace Law
open PySem PySem.Spec L2 L2.Fr PyProof.Rows
theorem gx {n:Nat}{ds:List D}(f:Nat)(fn:Fn)(m k:Nat)(body:List IS)(h:T f=Δ fn)(h0:fn.io=Ξ)(h1:fn.np=m)(h2:fn.G.N.length=k)(h3:fn.body=body)(hl:ds.length=m):aY T (n+1) f ds=Hn (ia (aY T n) body (ds.map Δ++Τ (k - m) Φ)) Ev.xQ:=Ev.go h h0 h1 h2 h3 hl
noncomputable def Oa (ns:List Int)(k:Int):Int:=if 0 < ns.length then ns.getD (k % (ns.length:Int)).toNat 0 % 2147483647 else 0
noncomputable def dr (ns:List Int)(k m:Int):Int:=(Oa ns k*(742938285+9973*k*k)+k*630360016) % 2147483647 / 97 % m
theorem FQ (ns:List Int)(k:Int):0<=Oa ns k/\Oa ns k < 2147483647:=by
 unfold Oa;split
 ·exact⟨Int.emod_nonneg _ (by decide),Int.emod_lt_of_pos _ (by decide)⟩
 ·decide
theorem jO (ns:List Int)(k:Int)  (h:0 < m):0<=dr ns k m:=Int.emod_nonneg _ (by omega)
theorem jV (ns:List Int)(k:Int)  (h:0 < m):dr ns k m < m:=Int.emod_lt_of_pos _ h
theorem iy (n:Nat)(ns:List Int)(k m:Int)(h0:0<=k)(h1:k<=5000)(hm:0 < m):aY T (n+1) 43 [.lst Ξ (ns.map .int),.int k,.int m]=.ok (.int (dr ns k m)):=by
 rw[gx 43 WL 3 5 WK rfl rfl rfl rfl rfl rfl];unfold WK;obtain⟨b0,b1⟩:=FQ ns k;unfold dr;have lm:(ns.map D.int).length=ns.length:=g_ _;by_cases h:0 < ns.length
 ·have hd:decide ((0:Int) < (ns.length:Int))=Θ:=u_ (by omega);have c0:=Int.emod_nonneg k (show(ns.length:Int)≠0 by omega);have c1:=Int.emod_lt_of_pos k (show(0:Int) < (ns.length:Int) by omega);have ec:ns.getD (k % (ns.length:Int)).toNat 0 % 2147483647=Oa ns k:=by unfold Oa;rw[f_ h]
  simp![lm,hd,ec]
 ·have hd:decide ((0:Int) < (ns.length:Int))=Ξ:=G_ (by omega);have ec:Oa ns k=0:=by unfold Oa;rw[d_ h]
  rw[ec];simp![lm,hd]
theorem JP (n:Nat)(ns:List Int)(k m:Int)(h0:0<=k)(h1:k<=5000)(hm:0 < m):∃r:Int,aY T (n+1) 43 [.lst Ξ (ns.map .int),.int k,.int m]=.ok (.int r)/\0<=r/\r < m:=⟨_,iy n ns k m h0 h1 hm,jO ns k hm,jV ns k hm⟩
def Sl (cs:List Nat):Prop:=1<=cs.length/\cs.length<=12/\∀c∈cs,low c
noncomputable def NJ (cs:List Nat)(m:Int):Int:=((1+cs.foldl (kf 31 10006) 0)*m+cs.foldl (kf 37 10007) 0) % 10007
theorem Aq (n:Nat)  (h:Sl cs):aY T (n+1) 25 [.str (Hz cs),.str "abcdefghijklmnopqrstuvwxyz",.int 1,.int 12]=.ok (.bl Θ):=by
 rw[gx 25 RV 4 4 Ph rfl rfl rfl rfl rfl rfl];unfold Ph;obtain⟨h1,h2,h3⟩:=h;have e1:g9 (ie (aY T n) (.nm 1) [] (.cmp .K8 (.v 1) (.v 0)) [Δ (.str "abcdefghijklmnopqrstuvwxyz"),Φ]) (jq (Hz cs))=.ok ((cs.map fun c=>Θ).map .bl):=by rw[jN,y_];refine Ev.iB (fun c:Nat=>D.str (one c)) (fun c=>Θ) .bl _ fun c hc=>?_;have:=DH (h3 c hc);simp![this]
 have ea:(cs.map fun _=>Θ).all id=Θ:=by rw[List.all_map];simp
 have lc:(jq (Hz cs)).length=cs.length:=by rw[jN,g_,g_]
 have d1:decide ((1:Int)<=(cs.length:Int))=Θ:=u_ (by omega);have d2:decide ((cs.length:Int)<=12)=Θ:=u_ (by omega);have sl:=iO cs;simp![d1,d2,e1,ea,lc,sl]
theorem nj (n:Nat)  (h:Sl cs):aY T (n+2) 26 [.str (Hz cs)]=.ok .IB:=by have e:=Aq n h;rw[gx 26 Wk 1 1 Wj rfl rfl rfl rfl rfl rfl];unfold Wj;simp![e]
noncomputable def SK (p:Int×Int)(c:Nat):Int×Int:=(kf 31 10006 p.1 c,kf 37 10007 p.2 c)
theorem xW:∀(cs:List Nat) (a b:Int),cs.foldl SK (a,b)=(cs.foldl (kf 31 10006) a,cs.foldl (kf 37 10007) b)
 |[],a,b=>rfl
 |c::cs,a,b=>by rw[List.foldl_cons,List.foldl_cons,List.foldl_cons];exact xW cs _ _
noncomputable def Xo:List IS:=[(.asg (.nm 2) (.bin .mod (.bin .add (.bin .mul (.v 2) (.c (.int 31))) (.bi .ord [(.v 4)])) (.c (.int 10006)))),(.asg (.nm 3) (.bin .mod (.bin .add (.bin .mul (.v 3) (.c (.int 37))) (.bi .ord [(.v 4)])) (.c (.int 10007))))]
theorem oz (n:Nat)(cs:List Nat)(hm:cs.length<=12)(m:Int)(m0:0<=m)(m1:m<=1000000000):aY T (n+1) 46 [.str (Hz cs),.int m]=.ok (.int (NJ cs m)):=by
 obtain⟨τ',e,s4,rfl⟩:=G6 (body:=Ev.turn (aY T n) (.nm 4) Xo) SK (fun p τ=>∃s4,τ=[Δ (.str (Hz cs)),Δ (.int m),Δ (.int p.1),Δ (.int p.2),s4]) cs (0,0) [Δ (.str (Hz cs)),Δ (.int m),Δ (.int 0),Δ (.int 0),Φ] ⟨Φ,rfl⟩ (by
  rintro c ⟨a,b⟩ τ hc ⟨s4,rfl⟩;refine⟨[Δ (.str (Hz cs)),Δ (.int m),Δ (.int (SK (a,b) c).1),Δ (.int (SK (a,b) c).2),Δ (.str (one c))],?_,_,rfl⟩;unfold Xo SK kf
  simp![Ev.gY,Ao,Ap])
 rw[xW]at e;unfold Xo at e;unfold NJ;rw[gx 46 WQ 2 5 WO rfl rfl rfl rfl rfl rfl];unfold WO;simp![jN,iO,e]
end Law
namespace L2
open PySem PySem.Spec PyProof.Rows PySem.SeqAt
namespace Fr
variable {T:Tb}
mutual
noncomputable def pl:Nat->D->Bool
 |n+1,.tup ds=>KD n ds&&decide (ds.length < 1000)
 |n+1,.lst o ds=>!o&&(KD n ds&&decide (ds.length < 1000))
 |_+1,.IE _ _ _=>Ξ
 |0,_=>Ξ
 |_+1,_=>Θ
noncomputable def KD:Nat->List D->Bool
 |_,[]=>Θ
 |n,d::ds=>pl n d&&KD n ds
end
theorem pC:∀ {ds:List D},KD n ds=Θ->∀d∈ds,pl n d=Θ
 |[],_,d,hd=>by simp at hd
 |e::ds,h,d,hd=>by
  have h':=D_.mp (show(pl n e&&KD n ds)=Θ from h);rcases k_.mp hd with rfl|hd
  ·exact h'.1
  ·exact pC h'.2 d hd
theorem tG:∀(n:Nat) (d:D),pl n d=Θ->er d=d:=by
 intro n
 induction n with
 |zero=>intro d h;cases d<;>cases h
 |succ n ih=>
  have all:∀ds:List D,KD n ds=Θ->HC ds=ds:=by
   intro ds
   induction ds with
   |nil=>intro _;rfl
   |cons e ds Va=>intro h;have h':=D_.mp (show(pl n e&&KD n ds)=Θ from h);show er e::HC ds=_;rw[ih e h'.1,Va h'.2]
  intro d h;cases d with
  |tup ds=>have h':=D_.mp (show(KD n ds&&decide (ds.length < 1000))=Θ from h);rw[er,all ds h'.1]
  |lst o ds=>
   have h':=D_.mp (show(!o&&(KD n ds&&decide (ds.length < 1000)))=Θ from h);have h2:=D_.mp h'.2;have ho:o=Ξ:=by simpa using h'.1
   subst ho;rw[er,all ds h2.1]
  |IE _ _ _=>cases h
  |_=>rfl
theorem xX:∀ {ds:List D},KD n ds=Θ->HC ds=ds
 |[],_=>rfl
 |e::ds,h=>by have h':=D_.mp (show(pl n e&&KD n ds)=Θ from h);show er e::HC ds=_;rw[tG n e h'.1,xX h'.2]
theorem nk (ds:List D):ju ds ds=ds.map fun a=>.tup [a,a]:=by
 unfold ju
 induction ds with
 |nil=>rfl
 |cons d ds ih=>rw[List.zipWith_cons_cons,ih];rfl
theorem qG:∀n:Nat,jk (Τ n (D.bl Θ))=Δ (Τ n Θ)
 |0=>rfl
 |n+1=>by rw[List.replicate_succ,List.replicate_succ];show(jk _).map _=_;rw[qG n];rfl
theorem all_true (o:Bool)(n:Nat):jr .all [.lst o (Τ n (D.bl Θ))]=.ok (.bl Θ):=by show(match jk (Τ n (D.bl Θ)) with|some bs=>.ok (.bl (bs.all id))|none=>Ir:Res D)=_;rw[qG];simp
theorem As (hT:T f=Δ fn)(MH:fn.io=Ξ)(h1:fn.np=2)(h2:fn.G.N.length=2)(h3:fn.body=MN f):∀(n k:Nat) (d:D),pl n d=Θ->aY T (n+k) f [d,d]=.ok (.bl Θ):=by
 intro n
 induction n with
 |zero=>intro k d h;cases d<;>cases h
 |succ n ih=>
  intro k d h;have fm:∀ds:List D,KD n ds=Θ->g9 (ie (aY T (n+k)) (.tp [(.nm 0),(.nm 1)]) [] (.call f [(.v 0),(.v 1)]) [Φ,Φ]) (ju ds ds)=.ok (Τ ds.length (D.bl Θ)):=by
   intro ds hp;rw[nk];refine(Ev.iB (fun a:D=>D.tup [a,a]) (fun _=>D.bl Θ) id ds fun x hx=>?_).trans (by rw[List.map_id,List.map_const']);have J3:=pC hp x hx;have hc:=ih k x J3;have he:=tG n x J3;have e2:HC [x,x]=[x,x]:=by show [er x,er x]=_;rw[he]
   simp![Ev.gY,hc,e2,he,id]
  rw[show n+1+k=(n+k)+1 by omega,Ev.go hT MH h1 h2 h3 rfl];unfold MN;cases d with
  |IB=>rfl
  |bl b=>exact congrArg (fun z:Bool=>(Except.ok (D.bl z):Res D)) (beq_self_eq_true b)
  |int i=>exact congrArg (fun z:Bool=>(Except.ok (D.bl z):Res D)) (beq_self_eq_true i)
  |str x=>exact congrArg (fun z:Bool=>(Except.ok (D.bl z):Res D)) (beq_self_eq_true x)
  |tup ds=>
   have h':=D_.mp (show(KD n ds&&decide (ds.length < 1000))=Θ from h);have hl:ds.length < 1000:=q_ h'.2;have hz:(ju ds ds).length=ds.length:=by rw[nk,g_]
   have e:=fm ds h'.1;have ea:=all_true Θ ds.length;unfold xU;simp![e,ea,hz]
  |lst o ds=>
   have h0:=D_.mp (show(!o&&(KD n ds&&decide (ds.length < 1000)))=Θ from h);have h':=D_.mp h0.2;have hl:ds.length < 1000:=q_ h'.2;have hz:(ju ds ds).length=ds.length:=by rw[nk,g_]
   have e:=fm ds h'.1;have ea:=all_true Θ ds.length;unfold xU;simp![e,ea,hz]
  |IE _ _ _=>cases h
theorem Jm:∀ds:List D,HC (HC ds)=HC ds:=by intro ds;rw[hW,hW,y_];exact X_ fun d _=>Ba d
theorem tH:∀(xs:List D),(∀x∈xs,∃y,g x=.ok (Δ y)/\er y=er x)->∃ys,g9 g xs=.ok ys/\HC ys=HC xs/\ys.length=xs.length
 |[],_=>⟨[],rfl,rfl,rfl⟩
 |x::xs,h=>by obtain⟨y,h1,h2⟩:=h x (by simp);obtain⟨ys,h3,h4,h5⟩:=tH xs fun z hz=>h z (K_ _ hz);refine⟨y::ys,?_,by show er y::HC ys=er x::HC xs;rw[h2,h4],by rw[List.length_cons,List.length_cons,h5]⟩;show Hn (g x) _=_;rw[h1];show Hn (g9 g xs) _=_;rw[h3];rfl
theorem Au (hT:T f=Δ fn)(MH:fn.io=Ξ)(h1:fn.np=1)(h2:fn.G.N.length=1)(h3:fn.body=MO f x):∀(n k:Nat) (d:D),pl n d=Θ->∃d',aY T (n+k) f [d]=.ok d'/\er d'=d:=by
 intro n
 induction n with
 |zero=>intro k d h;cases d<;>cases h
 |succ n ih=>
  intro k d h;have fm:∀ds:List D,KD n ds=Θ->∃ys,g9 (ie (aY T (n+k)) (.nm 0) [] (.call f [(.v 0)]) [Φ]) ds=.ok ys/\HC ys=ds/\ys.length=ds.length:=by
   intro ds hp;obtain⟨ys,h1,h2,h3⟩:=tH (g:=ie (aY T (n+k)) (.nm 0) [] (.call f [(.v 0)]) [Φ]) ds fun x hx=>by
    have J3:=pC hp x hx;obtain⟨y,hc,hy⟩:=ih k x J3;have he:=tG n x J3;have e2:HC [x]=[x]:=by show [er x]=_;rw[he]
    refine⟨y,?_,hy.trans he.symm⟩;simp![Ev.gY,hc,e2,he]
   exact⟨ys,h1,h2.trans (xX hp),h3⟩
  rw[show n+1+k=(n+k)+1 by omega,Ev.go hT MH h1 h2 h3 rfl];unfold MO;cases d with
  |IB=>exact⟨.IB,rfl,rfl⟩
  |bl b=>exact⟨.bl b,rfl,rfl⟩
  |int i=>exact⟨.int i,rfl,rfl⟩
  |str z=>exact⟨.str z,rfl,rfl⟩
  |tup ds=>
   have h':=D_.mp (show(KD n ds&&decide (ds.length < 1000))=Θ from h);have hl:ds.length < 1000:=q_ h'.2;obtain⟨ys,e,hy,hyl⟩:=fm ds h'.1;unfold tE;cases lf:gW ys with
   |true=>refine⟨.tup ys,?_,by rw[er,hy]⟩;simp![e,lf]
   |false=>refine⟨.tup (HC ys),?_,by rw[er,Jm,hy]⟩;simp![e,lf]
  |lst o ds=>
   have h0:=D_.mp (show(!o&&(KD n ds&&decide (ds.length < 1000)))=Θ from h);have h':=D_.mp h0.2;have ho:o=Ξ:=by simpa using h0.1
   subst ho;have hl:ds.length < 1000:=q_ h'.2;obtain⟨ys,e,hy,hyl⟩:=fm ds h'.1;unfold tE;cases lf:gW ys with
   |true=>refine⟨.lst Θ ys,?_,by rw[er,hy]⟩;simp![e,lf]
   |false=>refine⟨.lst Θ (HC ys),?_,by rw[er,Jm,hy]⟩;simp![e,lf]
  |IE _ _ _=>cases h
end Fr
end L2
namespace Law
open PySem PySem.Spec L2 L2.Fr
theorem same (n k:Nat)  (h:pl n d=Θ):aY T (n+k) 64 [d,d]=.ok (.bl Θ):=As (fn:=W') rfl rfl rfl rfl rfl n k d h
theorem copy (n k:Nat)  (h:pl n d=Θ):∃d',aY T (n+k) 65 [d]=.ok d'/\er d'=d:=Au (fn:=Xa) (x:="_law_part") rfl rfl rfl rfl rfl n k d h
open PyProof.Rows
theorem xY:Ρ "" = Hz []:=by decide +kernel
noncomputable def tS:List IS:=[(.asg (.nm 3) (.bin .add (.v 3) (.idx (.v 2) (.call 43 [(.v 0),(.bin .add (.bin .add (.v 1) (.c (.int 2))) (.v 4)),(.c (.int 26))]))))]
theorem ml (n:Nat)(ns:List Int)  (h0:0<=k)(h1:k<=4900):∃cs:List Nat,aY T (n+2) 45 [.lst Ξ (ns.map .int),.int k]=.ok (.str (Hz cs))/\Sl cs:=by
 obtain⟨r,d0,a0,a1⟩:=JP n ns k 12 h0 (by omega) (by decide);obtain⟨τ',e,cs,y4,rfl,hl,hx⟩:=Ev.iG (its:=ij 0 r) (τ:=[Δ (.lst Ξ (ns.map .int)),Δ (.int k),Δ (.str "abcdefghijklmnopqrstuvwxyz"),Δ (.str (Hz [])),Φ,Φ]) (body:=Ev.turn (aY T (n+1)) (.nm 4) tS)
  (fun i τ=>∃(cs:List Nat) (x4:Option D),τ=[Δ (.lst Ξ (ns.map .int)),Δ (.int k),Δ (.str "abcdefghijklmnopqrstuvwxyz"),Δ (.str (Hz cs)),x4,Φ]/\cs.length=i/\∀c∈cs,low c)
  ⟨[],Φ,rfl,rfl,fun c hc=>by simp at hc⟩ (by
   rintro i x τ hx ⟨cs,x4,rfl,hl,Rq⟩;have hi:i < r.toNat:=by have:=(p_.mp hx).1;rw[jm]at this;omega
   unfold ij at hx;rw[A_,List.getElem?_range (by omega)]at hx;have J3:D.int (0+(i:Nat))=x:=I_ hx;subst J3;obtain⟨q,d1,b0,b1⟩:=JP n ns (k+2+(0+(i:Int))) 26 (by omega) (by omega) (by decide);refine⟨[Δ (.lst Ξ (ns.map .int)),Δ (.int k),Δ (.str "abcdefghijklmnopqrstuvwxyz"),Δ (.str (Hz (cs++[97+q.toNat]))),Δ (.int (0+(i:Nat))),Φ],?_,_,_,rfl,by rw[w_,hl];rfl,fun c hc=>?_⟩
   ·have sa:=jE (a:=cs) (b:=[97+q.toNat]) (by rw[hl,R_];omega);have ab:=lQ b0 b1;rw[kT]at ab;unfold tS;simp![Ev.gY,d1,ab,sa]
   ·rcases s_.mp hc with hc|hc
    ·exact Rq c hc
    ·rw[o_.mp hc];constructor<;>omega)
 rw[jm]at hl;obtain⟨t,d1,b0,b1⟩:=JP n ns (k+1) ((cs.length:Int)+1) (by omega) (by omega) (by omega);obtain⟨q,d2,c0,c1⟩:=JP n ns (k+14) 26 (by omega) (by omega) (by decide);have ab:=lQ c0 c1;rw[kT]at ab;have s1:=jM (cs:=cs) (j:=t) b0 (by omega);have s2:=ni (cs:=cs) (i:=t) b0 (by omega);have l1:(cs.take t.toNat).length<=12:=by rw[O_];omega
 have l2:(cs.drop t.toNat).length<=12:=by rw[aam];omega
 have p1:=jE (a:=cs.take t.toNat) (b:=[97+q.toNat]) (by rw[R_];omega);have p2:=jE (a:=cs.take t.toNat++[97+q.toNat]) (b:=cs.drop t.toNat) (by rw[w_,R_];omega);refine⟨cs.take t.toNat++[97+q.toNat]++cs.drop t.toNat,?_,?_,?_,fun c hc=>?_⟩
 ·unfold tS at e;have sl:=iO cs;rw[gx 45 WN 2 6 WM rfl rfl rfl rfl rfl rfl];unfold WM;simp![xY,d0,e,sl,d1,d2,ab,s1,s2,p1,p2]
 ·rw[w_,w_,R_];omega
 ·have:(cs.take t.toNat).length+(cs.drop t.toNat).length=cs.length:=by rw[<- w_,List.take_append_drop]
  rw[w_,w_,R_];omega
 ·rcases s_.mp hc with hc|hc
  ·rcases s_.mp hc with hc|hc
   ·exact hx c (List.mem_of_mem_take hc)
   ·rw[o_.mp hc];constructor<;>omega
  ·exact hx c (List.mem_of_mem_drop hc)
theorem DI (n:Nat)(ns:List Int)  (h0:0<=k)(h1:k<=4900):∃m:Int,aY T (n+2) 47 [.lst Ξ (ns.map .int),.int k]=.ok (.int m)/\0<=m/\m<=1000000000:=by
 obtain⟨r,d0,a0,a1⟩:=JP n ns k 6 h0 (by omega) (by decide);obtain⟨s,d1,b0,b1⟩:=JP n ns (k+1) 31600 (by omega) (by omega) (by decide);obtain⟨t,d2,c0,c1⟩:=JP n ns (k+2) 31600 (by omega) (by omega) (by decide);have pg:∀x:Res D,HB (decide ((0:Int)<=9/\(9:Int)<=1000000/\Int.natAbs 10 < 2 ^ 64)) x=x:=fun _=>rfl;by_cases h:r < 2
 ·have hd:decide (r < 2)=Θ:=u_ h;rcases(show r=0∨r=1 by omega) with rfl|rfl
  ·refine⟨0,?_,by decide,by decide⟩;rw[gx 47 R1 2 3 Pl rfl rfl rfl rfl rfl rfl];unfold Pl;simp![d0,hd,pg]
  ·refine⟨10 ^ Int.toNat 9,?_,by decide,by decide⟩;rw[gx 47 R1 2 3 Pl rfl rfl rfl rfl rfl rfl];unfold Pl;simp![d0,hd,pg]
 ·have hd:decide (r < 2)=Ξ:=G_ h;refine⟨s*31600+t,?_,by omega,by omega⟩;rw[gx 47 R1 2 3 Pl rfl rfl rfl rfl rfl rfl];unfold Pl;simp![d0,hd,d1,d2]
theorem mq (h:Hz a=Hz b):a=b:=by have:=congrArg (fun s:Str=>s.cps.toList) h;simpa[Hz] using this
theorem tI (c:Nat):∀(k:Nat) (acc:Array Nat),(Τ k (one c).cps).foldl (fun x1 x2=>x1++x2) acc=acc++(Τ k c).toArray
 |0,acc=>by simp
 |k+1,acc=>by rw[List.replicate_succ,List.foldl_cons,tI c k,List.replicate_succ];show acc++#[c]++(Τ k c).toArray=acc++(c::Τ k c).toArray;rw[Array.append_assoc];exact congrArg (acc++·) (List.append_toArray [c] (Τ k c))
theorem pE (c:Nat)  (h:1<=j):Txt.mul (one c) j=Hz (Τ j.toNat c):=by
 unfold Txt.mul;split
 ·omega
 ·split
  ·rename_i h1 h2
   rw[pB]at h2;have:j=1:=by simpa using h2
   rw[this];rfl
  ·unfold Hz;rw[tI];simp
noncomputable def tN:List IS:=[(.asg (.nm 5) (.bin .add (.v 5) (.idx (.v 3) (.call 43 [(.v 0),(.bin .add (.bin .add (.v 1) (.c (.int 40))) (.v 6)),(.c (.int 26))]))))]
noncomputable def jc (c:Int):List Int:=(List.range (c - 0).toNat).map fun k=>(0:Int)+((k:Nat):Int)
theorem nq (h:x∈jc c):0<=x/\x < c:=by obtain⟨k,hk,rfl⟩:=List.mem_map.mp h;have:=Y_.mp hk;omega
theorem xZ {c:Int}{f:Int->Str}(hf:∀x y,0<=x->x < c->0<=y->y < c->f x=f y->x=y):((jc c).map f).Nodup:=by unfold jc;rw[y_];refine List.pairwise_map.mpr (List.Pairwise.imp_of_mem (fun {a b} ha hb hn he=>hn ?_) List.nodup_range);have a1:=Y_.mp ha;have b1:=Y_.mp hb;have:=hf (0+(a:Int)) (0+(b:Int)) (by omega) (by omega) (by omega) (by omega) he;omega
theorem ku (c:Int):(jc c).length=c.toNat:=by unfold jc;rw[g_,aae];omega
theorem FT:∀(d:Fin 39),∀s∈([1,7,25,11]:List Int),(s*((d.val:Int) - 19)) % 26=0->d.val=19:=by decide +kernel
theorem FU {sp st x y:Int}(SM:sp∈([1,7,25,11]:List Int))(x0:0<=x)(x1:x < 20)(y0:0<=y)(y1:y < 20)(h:(st+sp*x) % 26=(st+sp*y) % 26):x=y:=by have h1:=Int.emod_eq_emod_iff_emod_sub_eq_zero.mp h;rw[show st+sp*x - (st+sp*y)=sp*(x - y) by rw[Int.mul_sub];omega]at h1;have h2:=FT ⟨(x - y+19).toNat,by omega⟩ sp SM (by rw[show(((⟨(x - y+19).toNat,by omega⟩:Fin 39).val:Nat):Int) - 19=x - y by show(((x - y+19).toNat:Nat):Int) - 19=x - y;omega];exact h1);have h3:(x - y+19).toNat=19:=h2;omega
theorem j6 (n:Nat)(ns:List Int)  (k0:0<=k)(k1:k<=4000)  (c0':0<=c)(c1':c<=20):∃fs:List Str,aY T (n+2) 44 [.lst Ξ (ns.map .int),.int k,.int c]=.ok (.lst Θ (fs.map .str))/\fs.length=c.toNat/\fs.Nodup/\∀f∈fs,f.length<=100:=by
 obtain⟨st,d0,a0,a1⟩:=JP n ns k 26 k0 (by omega) (by decide);have d1:=iy n ns (k+1) 5 (by omega) (by omega) (by decide);generalize dr ns (k+1) 5=q at *;have ab:=lQ a0 a1;have rn:ij 0 c=(jc c).map .int:=Ev.kS 0 c;have ln:((jc c).map D.int).length=c.toNat:=by rw[g_,ku]
 cases hq:(q == 0) with
 |true=>
  have fm:g9 (ie (aY T (n+1)) (.nm 2) [] (.bin .mul (.idx (.v 0) (.v 1)) (.bin .add (.c (.int 1)) (.v 2))) [Δ (.str "abcdefghijklmnopqrstuvwxyz"),Δ (.int st),Φ]) ((jc c).map .int)=.ok (((jc c).map fun j=>Txt.mul (one (97+st.toNat)) (1+j)).map .str):=by refine Ev.iB .int (fun j=>Txt.mul (one (97+st.toNat)) (1+j)) .str _ fun j hj=>?_;have:=nq hj;have ol:=pB (97+st.toNat);have gd:decide (-16000<=1+j/\1+j<=16000/\(one (97+st.toNat)).length<=1000)=Θ:=u_ (by rw[ol];omega);simp![ab,gd]
  refine⟨(jc c).map fun j=>Txt.mul (one (97+st.toNat)) (1+j),?_,by rw[g_,ku],xZ fun x y x0 x1 y0 y1 e=>?_,fun f hf=>?_⟩
  ·rw[gx 44 T' 3 9 R0 rfl rfl rfl rfl rfl rfl];unfold R0;generalize(jc c).map (fun j=>Txt.mul (one (97+st.toNat)) (1+j))=L at *;simp![d0,d1,hq,rn,ln,fm]
  ·rw[pE _ (by omega),pE _ (by omega)]at e;have:=congrArg List.length (mq e);rw[List.length_replicate,List.length_replicate]at this;omega
  ·obtain⟨j,hj,rfl⟩:=List.mem_map.mp hf;have:=nq hj;rw[pE _ (by omega)];rw[iO,List.length_replicate];omega
 |false=>
  obtain⟨r,d2,b0,b1⟩:=JP n ns (k+2) 8 (by omega) (by omega) (by decide);obtain⟨τ',e,cs,y4,rfl,hl,NU⟩:=Ev.iG (its:=ij 0 r) (τ:=[Δ (.lst Ξ (ns.map .int)),Δ (.int k),Δ (.int c),Δ (.str "abcdefghijklmnopqrstuvwxyz"),Δ (.int st),Δ (.str (Hz [])),Φ,Φ,Φ]) (body:=Ev.turn (aY T (n+1)) (.nm 6) tN)
   (fun i τ=>∃(cs:List Nat) (x4:Option D),τ=[Δ (.lst Ξ (ns.map .int)),Δ (.int k),Δ (.int c),Δ (.str "abcdefghijklmnopqrstuvwxyz"),Δ (.int st),Δ (.str (Hz cs)),x4,Φ,Φ]/\cs.length=i/\∀c∈cs,low c)
   ⟨[],Φ,rfl,rfl,fun c hc=>by simp at hc⟩ (by
    rintro i x τ hx ⟨cs,x4,rfl,hl,Rq⟩;have hi:i < r.toNat:=by have:=(p_.mp hx).1;rw[jm]at this;omega
    unfold ij at hx;rw[A_,List.getElem?_range (by omega)]at hx;have J3:D.int (0+(i:Nat))=x:=I_ hx;subst J3;obtain⟨q,d1,b0,b1⟩:=JP n ns (k+40+(0+(i:Int))) 26 (by omega) (by omega) (by decide)
    refine⟨[Δ (.lst Ξ (ns.map .int)),Δ (.int k),Δ (.int c),Δ (.str "abcdefghijklmnopqrstuvwxyz"),Δ (.int st),Δ (.str (Hz (cs++[97+q.toNat]))),Δ (.int (0+(i:Nat))),Φ,Φ],?_,_,_,rfl,by rw[w_,hl];rfl,fun c hc=>by
     rcases s_.mp hc with hc|hc
     ·exact Rq c hc
     ·rw[o_.mp hc];constructor<;>omega⟩
    have sa:=jE (a:=cs) (b:=[97+q.toNat]) (by rw[hl,R_];omega);have ab:=lQ b0 b1;rw[kT]at ab;unfold tN
    simp![Ev.gY,d1,ab,sa])
  rw[jm]at hl;unfold tN at e;obtain⟨t,d3,g0,g1⟩:=JP n ns (k+3) ((cs.length:Int)+1) (by omega) (by omega) (by omega);obtain⟨u,d4,f0,f1⟩:=JP n ns (k+1) 4 (by omega) (by omega) (by decide);obtain⟨sp,Lh,SM⟩:∃sp:Int,(∀o,ir (.lst o [.int 1,.int 7,.int 25,.int 11]) (.int u)=.ok (.int sp))/\sp∈([1,7,25,11]:List Int):=by
   rcases(show u=0∨u=1∨u=2∨u=3 by omega) with rfl|rfl|rfl|rfl
   ·exact⟨1,fun _=>rfl,by decide⟩
   ·exact⟨7,fun _=>rfl,by decide⟩
   ·exact⟨25,fun _=>rfl,by decide⟩
   ·exact⟨11,fun _=>rfl,by decide⟩
  have s1:=jM (cs:=cs) (j:=t) g0 (by omega);have s2:=ni (cs:=cs) (i:=t) g0 (by omega);have l1:(cs.take t.toNat).length<=12:=by rw[O_];omega
  have l2:(cs.drop t.toNat).length<=12:=by rw[aam];omega
  have sl:=iO cs;have fm:g9 (ie (aY T (n+1)) (.nm 5) [] (.bin .add (.bin .add (.sl (.v 0) Φ (Δ (.v 1))) (.idx (.v 2) (.bin .mod (.bin .add (.v 3) (.bin .mul (.v 4) (.v 5))) (.c (.int 26))))) (.sl (.v 0) (Δ (.v 1)) Φ)) [Δ (.str (Hz cs)),Δ (.int t),Δ (.str "abcdefghijklmnopqrstuvwxyz"),Δ (.int st),Δ (.int sp),Φ]) ((jc c).map .int)=.ok (((jc c).map fun j=>Hz (cs.take t.toNat++[97+((st+sp*j) % 26).toNat]++cs.drop t.toNat)).map .str):=by refine Ev.iB .int (fun j=>Hz (cs.take t.toNat++[97+((st+sp*j) % 26).toNat]++cs.drop t.toNat)) .str _ fun j hj=>?_;have:=nq hj;have c0:=Int.emod_nonneg (st+sp*j) (show(26:Int)≠0 by decide);have c1:=Int.emod_lt_of_pos (st+sp*j) (show(0:Int) < 26 by decide);have ab:=lQ c0 c1;rw[kT]at ab;have p1:=jE (a:=cs.take t.toNat) (b:=[97+((st+sp*j) % 26).toNat]) (by rw[R_];omega);have p2:=jE (a:=cs.take t.toNat++[97+((st+sp*j) % 26).toNat]) (b:=cs.drop t.toNat) (by rw[w_,R_];omega);simp![s1,s2,sl,ab,p1,p2]
  refine⟨(jc c).map fun j=>Hz (cs.take t.toNat++[97+((st+sp*j) % 26).toNat]++cs.drop t.toNat),?_,by rw[g_,ku],xZ fun x y x0 x1 y0 y1 e=>?_,fun f hf=>?_⟩
  ·rw[gx 44 T' 3 9 R0 rfl rfl rfl rfl rfl rfl];unfold R0;generalize(jc c).map (fun j=>Hz (cs.take t.toNat++[97+((st+sp*j) % 26).toNat]++cs.drop t.toNat))=L at *;simp![xY,d0,d1,hq,d2,e,sl,d3,d4,Lh,rn,ln,fm]
  ·have h1:=List.append_cancel_right (mq e);have h2:=List.append_cancel_left h1;have h3:97+((st+sp*x) % 26).toNat=97+((st+sp*y) % 26).toNat:=List.head_eq_of_cons_eq h2;have n1:=Int.emod_nonneg (st+sp*x) (show(26:Int)≠0 by decide);have n2:=Int.emod_nonneg (st+sp*y) (show(26:Int)≠0 by decide);exact FU (st:=st) SM x0 (by omega) y0 (by omega) (by omega)
  ·obtain⟨j,hj,rfl⟩:=List.mem_map.mp hf;have c0:=Int.emod_nonneg (st+sp*j) (show(26:Int)≠0 by decide);have c1:=Int.emod_lt_of_pos (st+sp*j) (show(0:Int) < 26 by decide);rw[iO,w_,w_,R_];omega
theorem nr {g:D->Res (Option D)}{x y:D}{xs ys:List D}(h:g x=.ok (Δ y))(k:g9 g xs=.ok ys):g9 g (x::xs)=.ok (y::ys):=by show Hn (g x) _=_;rw[h];show Hn (g9 g xs) _=_;rw[k];rfl
inductive Tn where
 | i (n:Int)|s (x:Str)
noncomputable def Tn.d:Tn->D
 |.i n=>.int n
 |.s x=>.str x
theorem DJ:(Ρ "abcdefghijklmnopqrstuvwxyz0123456789").length=36:=by decide +kernel
theorem oA:∀(cs:List Nat) (acc:Array Nat),(cs.map one).foldl (fun acc p=>acc++(Ρ "").cps++p.cps) acc=acc++cs.toArray
 |[],acc=>by simp
 |c::cs,acc=>by
  have e:(Ρ "").cps = #[]:=by decide +kernel
  rw[b_,List.foldl_cons,oA cs,e];show acc++#[]++#[c]++cs.toArray=_;simp
theorem join_one (cs:List Nat):Txt.join "" (cs.map one)=Hz cs:=by
 show(⟨((cs.map one).drop 1).foldl (fun acc p=>acc++(Ρ "").cps++p.cps) ((cs.map one).headD Str.empty).cps⟩:Str)=_;cases cs with
 |nil=>rfl
 |cons c cs=>rw[b_,List.drop_succ_cons,List.drop_zero,List.headD_cons,oA];unfold Hz one;simp
theorem Av (cs:List Nat):((cs.map one).map (fun y:Str=>y.length)).sum=cs.length:=by
 induction cs with
 |nil=>rfl
 |cons c cs ih=>rw[b_,b_,List.sum_cons,ih,List.length_cons,pB];omega
theorem tJ (h:cs.length<=1000):nJ .join (.str "") [.lst o ((cs.map one).map .str)]=.ok (.str (Hz cs)):=by
 have e:(Ρ "").length=0:=by decide +kernel
 rw[Ev.Aj (by rw[Av,g_,e];omega),join_one]
noncomputable def sg:Str:=Ρ "abcdefghijklmnopqrstuvwxyz0123456789"
theorem jW:sg.length=36:=DJ
def ok (c:Nat):Prop:=mP sg (one c)=Θ
theorem x9:∀c∈sg.cps.toList,ok c:=by
 have h:sg.cps.toList.all (fun c=>mP sg (one c))=Θ:=by decide +kernel
 exact fun c hc=>W_.mp h c hc
theorem oB (x:Str)(lo hi:Option Int)  (h:c∈(Txt.slice x lo hi).cps.toList):c∈x.cps.toList:=by
 unfold Txt.slice at h;split at h
 ·exact h
 ·have h:c∈(List.filterMap _ _).toArray.toList:=h;rw[List.toList_toArray]at h;obtain⟨a,_,ha⟩:=List.mem_filterMap.mp h;have:=Array.mem_of_getElem? ha;simpa using this
theorem ya (h:0 < xs.length):Txt.slice (Hz xs) Φ (Δ (-1))=Hz (xs.take (xs.length - 1)):=by have e:=StrLaws.sliceText_neg_hi (Hz xs) Φ (j:=-1) (by decide) (by rw[iO];omega);refine(show Txt.slice (Hz xs) Φ (Δ (-1))=Txt.slice (Hz xs) Φ (Δ (-1+((Hz xs).length:Int))) from e).trans ?_;rw[iO,jM (by omega) (by omega)];congr 2;omega
theorem tK:Ρ "" = Hz []:=by decide +kernel
theorem tL (xs:List Nat):(Hz xs == Ρ "")=xs.isEmpty:=by
 cases xs with
 |nil=>rw[tK];exact beq_self_eq_true _
 |cons c xs=>rw[tK];refine beq_eq_false_iff_ne.mpr fun h=>?_;have:=mq h;cases this
structure Sm (ys:List Nat):Prop where
 len:ys.length=12
 ok:∀c∈ys,ok c
def Tx (xs:List Nat):Prop:=xs.length<=8/\∀c∈xs,ok c
theorem tM (n:Nat)(ns:List Int)  (h0:0<=k)(h1:k<=4900)  (hs:Sm ys):∃xs:List Nat,aY T (n+2) 50 [.lst Ξ (ns.map .int),.int k,.str (Hz ys)]=.ok (.str (Hz xs))/\Tx xs:=by
 obtain⟨r,d1,a0,a1⟩:=JP n ns k 9 h0 (by omega) (by decide);have d2:=iy n ns (k+1) 3 (by omega) (by omega) (by decide);generalize dr ns (k+1) 3=q at *;obtain⟨i,d3,b3,c3⟩:=JP n ns (k+2) 36 (by omega) (by omega) (by decide);have hl:=hs.len;have s1:=jM (cs:=ys) (j:=r) a0 (by omega);have sl:=iO ys;have l1:(ys.take r.toNat).length<=8:=by rw[O_];omega
 have o1:∀c∈ys.take r.toNat,ok c:=fun c hc=>hs.ok c (List.mem_of_mem_take hc);generalize ys.take r.toNat=xs at *;have sn:=tL xs;have slx:=iO xs;cases q1:xs.isEmpty with
 |true=>rw[q1]at sn;refine⟨xs,?_,l1,o1⟩;rw[gx 50 R5 3 4 Pm rfl rfl rfl rfl rfl rfl];unfold Pm;simp![d1,sn,s1,sl]
 |false=>
  rw[q1]at sn;have h0':0 < xs.length:=by
   cases xs with
   |nil=>cases q1
   |cons=>simp
  cases q2:(q == 0) with
  |true=>
   have hy:=Ev.RC (z:=sg) b3 (by rw[jW];exact c3) (by rw[jW];decide);have s2:=ya h0'
   have oy:ok (sg.cps.toList.getD i.toNat 0):=x9 _ (by
    have IQ:i.toNat < sg.cps.toList.length:=by have:sg.cps.toList.length=36:=jW;omega
    rw[aaa,x_ IQ]
    exact aaj IQ)
   generalize sg.cps.toList.getD i.toNat 0=y at *;have hy:ir (.str sg) (.int i)=.ok (.str (Hz [y])):=hy;have sa:=jE (a:=xs.take (xs.length - 1)) (b:=[y]) (by rw[O_,R_];omega);refine⟨xs.take (xs.length - 1)++[y],?_,by rw[w_,O_,R_];omega,fun c hc=>?_⟩
   ·unfold sg at hy;rw[gx 50 R5 3 4 Pm rfl rfl rfl rfl rfl rfl];unfold Pm;simp![d1,d2,d3,sn,q2,hy,s1,s2,sl,slx,sa]
   ·rcases s_.mp hc with hc|hc
    ·exact o1 c (List.mem_of_mem_take hc)
    ·rw[o_.mp hc];exact oy
  |false=>refine⟨xs,?_,l1,o1⟩;rw[gx 50 R5 3 4 Pm rfl rfl rfl rfl rfl rfl];unfold Pm;simp![d1,d2,sn,q2,s1,sl]
def Nb (x:Int):Prop:=-999999999<=x/\x<=999999999
def Ce (c:Int):Prop:=-999999990<=c/\c<=999999990
theorem oC (n:Nat)(ns:List Int)  (h0:0<=k)(h1:k<=4900)  (hc:Ce c):∃x:Int,aY T (n+2) 52 [.lst Ξ (ns.map .int),.int k,.int c]=.ok (.int x)/\Nb x:=by
 obtain⟨r,d1,b1,c1⟩:=JP n ns k 8 h0 (by omega) (by decide);obtain⟨hc0,hc1⟩:=hc;by_cases h:r < 5
 ·have hd:decide (r < 5)=Θ:=u_ h;refine⟨c+r - 2,?_,by omega,by omega⟩;rw[gx 52 Ub 3 4 R6 rfl rfl rfl rfl rfl rfl];unfold R6;simp![d1,hd]
 ·have hd:decide (r < 5)=Ξ:=G_ h;have hx:ir (.lst Θ [.int 999999999,.int (0 - 999999999),.int 0]) (.int (r - 5))=.ok (.int ([999999999,0 - 999999999,0].getD (r - 5).toNat 0)):=Ev.Qh (o:=Θ) (xs:=[999999999,0 - 999999999,0]) (by omega) (by show r - 5 < 3;omega);refine⟨([999999999,0 - 999999999,0]:List Int).getD (r - 5).toNat 0,?_,?_⟩
  ·rw[gx 52 Ub 3 4 R6 rfl rfl rfl rfl rfl rfl];unfold R6;simp![d1,hd,hx]
  ·rcases(show r=5∨r=6∨r=7 by omega) with rfl|rfl|rfl<;>(unfold Nb;decide)
def Tv:Tn->Prop
 |.i n=>Nb n
 |.s x=>∃xs,x=Hz xs/\Tx xs
theorem yb (n:Nat)(ns:List Int)  (h0:0<=k)(h1:k<=4800)  (hs:Sm ys)  (hc:Ce c):∃t:Tn,aY T (n+3) 53 [.lst Ξ (ns.map .int),.int k,.str (Hz ys),.int c]=.ok t.d/\Tv t:=by
 have d1:=iy (n+1) ns k 2 h0 (by omega) (by decide);obtain⟨x,ex,nx⟩:=oC n ns (k:=k+1) (by omega) (by omega) hc;obtain⟨y,ey,ty⟩:=tM n ns (k:=k+2) (by omega) (by omega) hs;cases q:(dr ns k 2 == 0) with
 |true=>refine⟨.i x,?_,nx⟩;unfold Tn.d;rw[gx 53 Uc 4 4 R7 rfl rfl rfl rfl rfl rfl];unfold R7;simp![d1,q,ex]
 |false=>refine⟨.s (Hz y),?_,y,rfl,ty⟩;unfold Tn.d;rw[gx 53 Uc 4 4 R7 rfl rfl rfl rfl rfl rfl];unfold R7;simp![d1,q,ey]
theorem uS (n:Nat)(ns:List Int)  (h0:0<=k)(h1:k<=4900):∃c:Int,aY T (n+2) 51 [.lst Ξ (ns.map .int),.int k]=.ok (.int c)/\Ce c:=by
 have d1:=iy n ns k 20000 h0 (by omega) (by decide);have d2:=iy n ns (k+1) 100000 (by omega) (by omega) (by decide);have b1:=jO ns k (m:=20000) (by decide);have c1:=jV ns k (m:=20000) (by decide);have hp:J1 .pow (.int 10) (.int 9)=.ok (.int 1000000000):=by kernel_rfl
 generalize dr ns k 20000=a,dr ns (k+1) 100000=b at *;refine⟨if 999999990 < (if 0 - 999999990 > a*100000+b - 1000000000 then 0 - 999999990 else a*100000+b - 1000000000) then 999999990 else(if 0 - 999999990 > a*100000+b - 1000000000 then 0 - 999999990 else a*100000+b - 1000000000),?_,?_⟩
 ·rw[gx 51 WU 2 3 WT rfl rfl rfl rfl rfl rfl];unfold WT;simp![d1,d2,hp]
 ·unfold Ce;split<;>split at *<;>omega
theorem pF (h:x∈ij 0 a):∃j:Int,x=.int j/\0<=j/\j < a:=by unfold ij at h;obtain⟨k,hk,rfl⟩:=List.mem_map.mp h;rw[Y_]at hk;exact⟨0+(k:Int),rfl,by omega,by omega⟩
theorem qH {P:Nat->Prop}{g:D->Res (Option D)}:∀(its:List D),(∀x∈its,∃y:Nat,g x=.ok (Δ (.str (one y)))/\P y)->∃ys:List Nat,g9 g its=.ok ((ys.map one).map .str)/\ys.length=its.length/\∀y∈ys,P y
 |[],_=>⟨[],rfl,rfl,fun y hy=>by cases hy⟩
 |x::its,h=>by obtain⟨y,hy,py⟩:=h x (by simp);obtain⟨ys,e,hl,hp⟩:=qH its fun z hz=>h z (K_ _ hz);exact⟨y::ys,nr hy e,by rw[List.length_cons,List.length_cons,hl],fun z hz=>by rcases k_.mp hz with rfl|hz;exact py;exact hp z hz⟩
theorem lU {P:Str->Prop}{g:D->Res (Option D)}:∀(its:List D),(∀x∈its,∃y:Str,g x=.ok (Δ (.str y))/\P y)->∃ys:List Str,g9 g its=.ok (ys.map .str)/\ys.length=its.length/\∀y∈ys,P y
 |[],_=>⟨[],rfl,rfl,fun y hy=>by cases hy⟩
 |x::its,h=>by obtain⟨y,hy,py⟩:=h x (by simp);obtain⟨ys,e,hl,hp⟩:=lU its fun z hz=>h z (K_ _ hz);exact⟨y::ys,nr hy e,by rw[List.length_cons,List.length_cons,hl],fun z hz=>by rcases k_.mp hz with rfl|hz;exact py;exact hp z hz⟩
theorem tO (n:Nat)(ns:List Int)  (h0:0<=k)(h1:k<=4900)  (z0:0 < z.length)(z1:z.length<=100)(hz:∀c∈z.cps.toList,ok c) :
  ∃ys:List Nat,g9 (ie (aY T (n+1)) (.nm 3) [] (.idx (.v 0) (.call 43 [(.v 1),(.bin .add (.bin .add (.v 2) (.c (.int 2))) (.v 3)),(.bi .len [(.v 0)])])) [Δ (.str z),Δ (.lst Ξ (ns.map .int)),Δ (.int k),Φ]) (ij 0 12)=.ok ((ys.map one).map .str)/\Sm ys:=by
 obtain⟨ys,e,hl,hp⟩:=qH (P:=ok) (g:=ie (aY T (n+1)) (.nm 3) [] (.idx (.v 0) (.call 43 [(.v 1),(.bin .add (.bin .add (.v 2) (.c (.int 2))) (.v 3)),(.bi .len [(.v 0)])])) [Δ (.str z),Δ (.lst Ξ (ns.map .int)),Δ (.int k),Φ]) (ij 0 12) (by
  intro x hx;obtain⟨j,rfl,j0,j1⟩:=pF hx;have d:=iy n ns (k+2+j) (z.length:Int) (by omega) (by omega) (by omega);have b:=jO ns (k+2+j) (m:=(z.length:Int)) (by omega);have c:=jV ns (k+2+j) (m:=(z.length:Int)) (by omega);have hy:=Ev.RC (z:=z) b c (by omega);refine⟨z.cps.toList.getD (dr ns (k+2+j) (z.length:Int)).toNat 0,?_,hz _ ?_⟩
  ·unfold one;simp![Ev.gY,d,hy]
  ·have IQ:(dr ns (k+2+j) (z.length:Int)).toNat < z.cps.toList.length:=by have:z.cps.toList.length=z.length:=rfl;omega
   rw[aaa,x_ IQ]
   exact aaj IQ)
 exact⟨ys,e,hl.trans (by rw[jm];rfl),hp⟩
theorem DK:∀d:Fin 34,0 < (Txt.slice (Txt.slice sg (Δ ((d:Nat):Int)) Φ) Φ (Δ 2)).length:=by decide +kernel
theorem oD (x:Str)(lo hi:Option Int):(Txt.slice x lo hi).length<=x.length:=by
 have:=indices_len_le lo hi x.length;unfold Txt.slice;split
 ·exact n_ _
 ·refine Q_ ?_ this;show(List.filterMap _ _).toArray.size<=_;rw[E_];exact List.length_filterMap_le ..
theorem Aw (n:Nat)(ns:List Int)  (h0:0<=k)(h1:k<=4800):∃ys:List Nat,aY T (n+2) 49 [.lst Ξ (ns.map .int),.int k]=.ok (.str (Hz ys))/\Sm ys:=by
 have d1:=iy n ns k 2 h0 (by omega) (by decide);have d2:=iy n ns (k+1) 34 (by omega) (by omega) (by decide);have b2:=jO ns (k+1) (m:=34) (by decide);have c2:=jV ns (k+1) (m:=34) (by decide);have lr:(ij 0 12).length=12:=by rw[jm];rfl
 cases q:(dr ns k 2 == 0) with
 |false=>obtain⟨ys,e,hs⟩:=tO n ns h0 (by omega) (z:=sg) (by rw[jW];decide) (by rw[jW];decide) x9;have hl:=hs.len;have je:=tJ (o:=Θ) (cs:=ys) (by omega);refine⟨ys,?_,hs⟩;unfold sg at e;rw[gx 49 Ua 2 4 R4 rfl rfl rfl rfl rfl rfl];unfold R4;simp![d1,q,e,je,lr]
 |true=>obtain⟨j,hj⟩:=Int.eq_ofNat_of_zero_le b2;have hz:=DK ⟨j,by omega⟩;have l1:=oD sg (Δ ((j:Nat):Int)) Φ;have l2:=oD (Txt.slice sg (Δ ((j:Nat):Int)) Φ) Φ (Δ 2);rw[jW]at l1;have Tu:0 < (Txt.slice (Txt.slice sg (Δ ((j:Nat):Int)) Φ) Φ (Δ 2)).length:=hz;obtain⟨ys,e,hs⟩:=tO n ns h0 (by omega) (z:=Txt.slice (Txt.slice sg (Δ ((j:Nat):Int)) Φ) Φ (Δ 2)) Tu (by omega) fun c hc=>x9 c (oB _ _ _ (oB _ _ _ hc));have hl:=hs.len;have je:=tJ (o:=Θ) (cs:=ys) (by omega);refine⟨ys,?_,hs⟩;rw[hj]at d2;have sl:=jW;unfold sg at e l1 l2 sl;rw[gx 49 Ua 2 4 R4 rfl rfl rfl rfl rfl rfl];unfold R4;simp![d1,d2,q,e,je,sl,lr]
structure Cn where
 m:Str
 w:Str
 ts:List Tn
noncomputable def Cn.d (c:Cn):D:=.tup [.str c.m,.str c.w,.lst Ξ (c.ts.map Tn.d)]
theorem yd (ts:List Tn):gW (ts.map Tn.d)=Θ:=by rw[iR,List.all_map];exact W_.mpr fun t _=>by cases t<;>rfl
theorem Bx (ts:List Tn):HC (ts.map Tn.d)=ts.map Tn.d:=iE (yd ts)
theorem sk (h:HA cl c τ=.ok (.bl Ξ)):ia cl (.IT c a []::r) τ=ia cl r τ:=by simp![h]
theorem SN (h:HA cl c τ=.ok (.bl Θ))(e:ia cl a τ=.ok (.nx τ')):ia cl (.IT c a []::r) τ=ia cl r τ':=by simp![h,e]
theorem FV (t:Tn):er t.d=t.d:=by cases t<;>rfl
theorem kU (c:Cn):er c.d=c.d:=by show D.tup [.str c.m,.str c.w,.lst Ξ (HC (c.ts.map Tn.d))]=_;rw[Bx];rfl
noncomputable def JI (r:List Cn):D:=.lst Ξ (r.map Cn.d)
theorem DL (r:List Cn):HC (r.map Cn.d)=r.map Cn.d:=by rw[hW,y_];exact X_ fun c _=>kU c
theorem qI (r:List Cn):er (JI r)=JI r:=by show D.lst Ξ (HC (r.map Cn.d))=_;rw[DL];rfl
theorem rO (rs:List (List Cn)):HC (rs.map JI)=rs.map JI:=by rw[hW,y_];exact X_ fun c _=>qI c
structure Gp where
 nm:Str
 rows:List (List Cn)
noncomputable def Gp.d (g:Gp):D:=.tup [.str g.nm,.lst Ξ (g.rows.map JI)]
theorem FW (g:Gp):er g.d=g.d:=by show D.tup [.str g.nm,.lst Ξ (HC (g.rows.map JI))]=_;rw[rO];rfl
theorem pG (gs:List Gp):HC (gs.map Gp.d)=gs.map Gp.d:=by rw[hW,y_];exact X_ fun c _=>FW c
noncomputable def Le (w:Str):Bool:=(w == Ρ "in")||(w == Ρ "out")
noncomputable def IC (p:Int×Int):D:=.tup [.int p.1,.int p.2]
theorem i7 (l:List (Int×Int)):HC (l.map IC)=l.map IC:=by rw[hW,y_];rfl
abbrev Al:=List (Str×List (Int×Int))
noncomputable def LB (p:Str×List (Int×Int)):D:=.tup [.str p.1,.lst Ξ (p.2.map IC)]
noncomputable def Qm (al:Al)(fr:List (Int×Int)):D:=.tup [.lst Ξ (al.map LB),.lst Ξ (fr.map IC)]
theorem FX (p:Str×List (Int×Int)):er (LB p)=LB p:=by show D.tup [.str p.1,.lst Ξ (HC (p.2.map IC))]=_;rw[i7];rfl
theorem yf (al:Al):HC (al.map LB)=al.map LB:=by rw[hW,y_];exact X_ fun p _=>FX p
theorem FY (al:Al)(fr:List (Int×Int)):er (Qm al fr)=Qm al fr:=by show D.tup [.lst Ξ (HC (al.map LB)),.lst Ξ (HC (fr.map IC))]=_;rw[yf,i7];rfl
inductive Oc where
 | face (f:Str)|share (f:Str) (st:List (Int×Int))|Pr
noncomputable def Oc.d:Oc->D
 |.face f=>.tup [.str "face",.str f]
 |.share f st=>.tup [.str "share",.str f,.lst Ξ (st.map IC)]
 |.Pr=>.tup [.str "lot"]
theorem yg (o:Oc):er o.d=o.d:=by
 cases o with
 |share f st=>show D.tup [.str "share",.str f,.lst Ξ (HC (st.map IC))]=_;rw[i7];rfl
 |_=>rfl
theorem l_s:(Ρ "lot" == Ρ "share")=Ξ:=by decide +kernel
structure Rl where
 cs:List Cn
 o:Oc
noncomputable def Rl.d (r:Rl):D:=.tup [JI r.cs,r.o.d]
theorem FZ (r:Rl):er r.d=r.d:=by show D.tup [er (JI r.cs),er r.o.d]=_;rw[qI,yg];rfl
theorem rP (rs:List Rl):HC (rs.map Rl.d)=rs.map Rl.d:=by rw[hW,y_];exact X_ fun r _=>FZ r
noncomputable def Cn.t (c:Cn):D:=.tup [.str c.m,.str c.w,.lst Θ (c.ts.map Tn.d)]
theorem yh (c:Cn):er c.t=c.d:=by show D.tup [.str c.m,.str c.w,.lst Ξ (HC (c.ts.map Tn.d))]=_;rw[Bx];rfl
noncomputable def W7:List Str:=[Ρ "is",Ρ "not",Ρ "begins",Ρ "least",Ρ "most",Ρ "has",Ρ "lacks"]
noncomputable def W9:List Str:=W7++[Ρ "in",Ρ "out"]
noncomputable def Zg (w:Str):List Bool:=[(w == Ρ "is")||(w == Ρ "not"),w == Ρ "begins",(w == Ρ "least")||(w == Ρ "most"),(w == Ρ "in")||(w == Ρ "out")]
noncomputable def rows:List (List Bool):=[[Θ,Ξ,Ξ,Ξ],[Ξ,Θ,Ξ,Ξ],[Ξ,Ξ,Θ,Ξ],[Ξ,Ξ,Ξ,Θ],[Ξ,Ξ,Ξ,Ξ]]
theorem t9:∀w∈W9,Zg w∈rows:=by decide +kernel
theorem t7:∀w∈W7,Le w=Ξ:=by decide +kernel
theorem tP {P:Tn->Prop}{g:D->Res (Option D)}:∀(its:List D),(∀x∈its,∃t:Tn,g x=.ok (Δ t.d)/\P t)->∃ts:List Tn,g9 g its=.ok (ts.map Tn.d)/\ts.length=its.length/\∀t∈ts,P t
 |[],_=>⟨[],rfl,rfl,fun t ht=>by cases ht⟩
 |x::its,h=>by obtain⟨y,hy,py⟩:=h x (by simp);obtain⟨ys,e,hl,hp⟩:=tP its fun z hz=>h z (K_ _ hz);exact⟨y::ys,nr hy e,by rw[List.length_cons,List.length_cons,hl],fun z hz=>by rcases k_.mp hz with rfl|hz;exact py;exact hp z hz⟩
structure Vc (gn:List Str)(c:Cn):Prop where
 w:c.w∈W9
 a:((c.w == Ρ "is")||(c.w == Ρ "not"))=Θ->1<=c.ts.length/\∀t∈c.ts,Tv t
 b:(c.w == Ρ "begins")=Θ->1<=c.ts.length/\∀t∈c.ts,∃xs,t=.s (Hz xs)/\1<=xs.length/\Tx xs
 l:((c.w == Ρ "least")||(c.w == Ρ "most"))=Θ->∃z,c.ts=[.i z]/\Nb z
 o:((c.w == Ρ "is")||(c.w == Ρ "not"))=Ξ->(c.w == Ρ "begins")=Ξ->((c.w == Ρ "least")||(c.w == Ρ "most"))=Ξ->c.ts=[]
 g:Le c.w=Θ->c.m∈gn
 len:c.ts.length<=2
theorem kW (a:Int):(ij 0 a).length=a.toNat:=by unfold ij;rw[g_,aae];omega
section
variable (n:Nat)(ns:List Int){k:Int}(k0:0<=k)(k1:k<=4000){IJ:List Nat}(hs:Sm IJ){c:Int}(hc:Ce c)
include k0 k1 hs hc in
theorem Ax (d:Int)(d0:0<=d)(d1:d < 2):∃ts:List Tn,g9 (ie (aY T (n+3)) (.nm 4) [] (.call 53 [(.v 0),(.bin .add (.bin .add (.v 1) (.c (.int 3))) (.bin .mul (.c (.int 5)) (.v 4))),(.v 2),(.v 3)]) [Δ (.lst Ξ (ns.map .int)),Δ (.int k),Δ (.str (Hz IJ)),Δ (.int c),Φ]) (ij 0 (1+d))=.ok (ts.map Tn.d)/\(1<=ts.length/\ts.length<=2)/\∀t∈ts,Tv t:=by
 obtain⟨ts,e,hl,hp⟩:=tP (P:=Tv) (g:=ie (aY T (n+3)) (.nm 4) [] (.call 53 [(.v 0),(.bin .add (.bin .add (.v 1) (.c (.int 3))) (.bin .mul (.c (.int 5)) (.v 4))),(.v 2),(.v 3)]) [Δ (.lst Ξ (ns.map .int)),Δ (.int k),Δ (.str (Hz IJ)),Δ (.int c),Φ]) (ij 0 (1+d)) fun x hx=>by obtain⟨j,rfl,j0,j1⟩:=pF hx;obtain⟨t,e,tv⟩:=yb n ns (k:=k+3+5*j) (by omega) (by omega) hs hc;have ei:=Ev.ib ns;refine⟨t,?_,tv⟩;generalize ns.map D.int=NS,t.d=TD at *;simp![Ev.gY,ei,e]
 exact⟨ts,e,by rw[hl,kW];omega,hp⟩
include k0 k1 hs in
theorem DM (d:Int)(d0:0<=d)(d1:d < 2):∃ys:List Str,g9 (ie (aY T (n+3)) (.nm 3) [] (.call 50 [(.v 0),(.bin .add (.bin .add (.v 1) (.c (.int 3))) (.bin .mul (.c (.int 5)) (.v 3))),(.v 2)]) [Δ (.lst Ξ (ns.map .int)),Δ (.int k),Δ (.str (Hz IJ)),Φ]) (ij 0 (1+d))=.ok (ys.map .str)/\(1<=ys.length/\ys.length<=2)/\∀y∈ys,∃xs,y=Hz xs/\Tx xs:=by
 obtain⟨ts,e,hl,hp⟩:=lU (P:=fun y=>∃xs,y=Hz xs/\Tx xs) (g:=ie (aY T (n+3)) (.nm 3) [] (.call 50 [(.v 0),(.bin .add (.bin .add (.v 1) (.c (.int 3))) (.bin .mul (.c (.int 5)) (.v 3))),(.v 2)]) [Δ (.lst Ξ (ns.map .int)),Δ (.int k),Δ (.str (Hz IJ)),Φ]) (ij 0 (1+d)) fun x hx=>by obtain⟨j,rfl,j0,j1⟩:=pF hx;obtain⟨t,e,tx⟩:=tM (n+1) ns (k:=k+3+5*j) (by omega) (by omega) hs;have ei:=Ev.ib ns;refine⟨Hz t,?_,t,rfl,tx⟩;generalize ns.map D.int=NS at *;simp![Ev.gY,ei,e]
 exact⟨ts,e,by rw[hl,kW];omega,hp⟩
include hs in
theorem DN (cl:Nat->List D->Res D){ys:List Str}(hy:∀y∈ys,∃xs,y=Hz xs/\Tx xs):∃zs:List Str,g9 (ie cl (.nm 1) [] (.ite (.cmp .ne (.v 1) (.c (.str ""))) (.v 1) (.sl (.v 0) Φ (Δ (.c (.int 1))))) [Δ (.str (Hz IJ)),Φ]) (ys.map .str)=.ok (zs.map .str)/\zs.length=ys.length/\∀z∈zs,∃xs,z=Hz xs/\1<=xs.length/\Tx xs:=by
 have sl:=iO IJ;have hl:=hs.len;have s1:=jM (cs:=IJ) (j:=1) (by decide) (by omega);obtain⟨zs,e,hl,hp⟩:=lU (P:=fun z=>∃xs,z=Hz xs/\1<=xs.length/\Tx xs) (g:=ie cl (.nm 1) [] (.ite (.cmp .ne (.v 1) (.c (.str ""))) (.v 1) (.sl (.v 0) Φ (Δ (.c (.int 1))))) [Δ (.str (Hz IJ)),Φ]) (ys.map .str) fun x hx=>by
  obtain⟨y,hym,rfl⟩:=List.mem_map.mp hx;obtain⟨xs,rfl,tx⟩:=hy y hym;have q:=tL xs;cases xs with
  |nil=>have q:(Hz [] == Ρ "")=Θ:=q;exact⟨Hz (IJ.take (1:Int).toNat),by simp![Ev.gY,q,s1,sl],_,rfl,by rw[O_];show 1<=min 1 _;omega,by rw[O_];show min 1 _<=8;omega,fun c hc=>hs.ok c (List.mem_of_mem_take hc)⟩
  |cons c xs=>have q:(Hz (c::xs) == Ρ "")=Ξ:=q;exact⟨_,by simp![Ev.gY,q],c::xs,rfl,by simp,tx⟩
 exact⟨zs,e,by rw[hl,g_],hp⟩
end
theorem ne_nil (o:Bool)(ls:List D):Jw .ne (.lst o ls) (.lst Θ [])=.ok (!ls.isEmpty):=by cases ls<;>rfl
theorem iP {fs:List Str}{i:Int}(h0:0<=i)(h1:i < (fs.length:Int)):∃y,(∀o,ir (.lst o (fs.map .str)) (.int i)=.ok (.str y))/\fs[i.toNat]? = Δ y:=by
 have hl:i.toNat < fs.length:=by omega
 refine⟨fs[i.toNat],fun o=>?_,x_ hl⟩;rw[Ev.DE h0 h1,aaa,x_ hl];rfl
theorem DO (zs:List Str):zs.map D.str=(zs.map Tn.s).map Tn.d:=by rw[y_];rfl
theorem DP (cl:Nat->List D->Res D)(x y w:Str)(s0 s1 s2 s3 s4 s5 s6 s8 s9:Option D):HA cl (oW x y) [s0,s1,s2,s3,s4,s5,s6,Δ (.str w),s8,s9]=.ok (.bl ((w == x)||(w == y))):=by
 unfold oW;cases h:(w == x) with
 |true=>simp![h]
 |false=>simp![h]
theorem tQ (n:Nat)(ns:List Int){k:Int}(k0:0<=k)(k1:k<=4000){gs:List Str}(NL:gs.length<=20){IJ:List Nat}(hs:Sm IJ){c:Int}(hc:Ce c)(mn w:Str)(ww:w∈W9)(MH:gs=[]->Le w=Ξ)(s2 s6:Option D) :
  ∃cn:Cn,ia (aY T (n+3)) RE [Δ (.lst Ξ (ns.map .int)),Δ (.int k),s2,Δ (.lst Ξ (gs.map .str)),Δ (.str (Hz IJ)),Δ (.int c),s6,Δ (.str w),Δ (.str mn),Δ (.lst Θ [])]=.ok (.rt cn.t)/\Vc gs cn/\cn.w=w:=by
 have w9:=t9 w ww;have ei:=Ev.ib ns;have eg:=Ev.g8 gs;have lg:(gs.map D.str).length=gs.length:=g_ _;obtain⟨d,r2,d0,d1⟩:=JP (n+2) ns (k+2) 2 (by omega) (by omega) (by decide);have lr:=kW (1+d);have key:∀(b1 b2 b3 b4:Bool),Zg w=[b1,b2,b3,b4]->((w == Ρ "is")||(w == Ρ "not"))=b1/\(w == Ρ "begins")=b2/\((w == Ρ "least")||(w == Ρ "most"))=b3/\Le w=b4:=fun b1 b2 b3 b4 h=>by injection h with h1 h;injection h with h2 h;injection h with h3 h;injection h with h4 h;exact⟨h1,h2,h3,h4⟩
 have H1:=fun s8 s9=>DP (aY T (n+3)) "is" "not" w (Δ (.lst Ξ (ns.map .int))) (Δ (.int k)) s2 (Δ (.lst Ξ (gs.map .str))) (Δ (.str (Hz IJ))) (Δ (.int c)) s6 s8 s9;have H2:∀s8 s9:Option D,HA (aY T (n+3)) (.cmp .eq (.v 7) (.c (.str "begins"))) [Δ (.lst Ξ (ns.map .int)),Δ (.int k),s2,Δ (.lst Ξ (gs.map .str)),Δ (.str (Hz IJ)),Δ (.int c),s6,Δ (.str w),s8,s9]=.ok (.bl (w == Ρ "begins")):=fun _ _=>rfl;have H3:=fun s8 s9=>DP (aY T (n+3)) "least" "most" w (Δ (.lst Ξ (ns.map .int))) (Δ (.int k)) s2 (Δ (.lst Ξ (gs.map .str))) (Δ (.str (Hz IJ))) (Δ (.int c)) s6 s8 s9;have H4:=fun s8 s9=>DP (aY T (n+3)) "in" "out" w (Δ (.lst Ξ (ns.map .int))) (Δ (.int k)) s2 (Δ (.lst Ξ (gs.map .str))) (Δ (.str (Hz IJ))) (Δ (.int c)) s6 s8 s9;have fin:∀(x:Str) (TS:List D),ia (aY T (n+3)) [(.ret (.tup [(.v 8),(.v 7),(.v 9)]))] [Δ (.lst Ξ (ns.map .int)),Δ (.int k),s2,Δ (.lst Ξ (gs.map .str)),Δ (.str (Hz IJ)),Δ (.int c),s6,Δ (.str w),Δ (.str x),Δ (.lst Θ TS)]=.ok (.rt (.tup [.str x,.str w,.lst Θ TS])):=fun _ _=>rfl;have iu:((w == Ρ "in")||(w == Ρ "out"))=Le w:=rfl;simp only[rows,k_,S_,or_false]at w9;rcases w9 with h|h|h|h|h<;>obtain⟨q1,q2,q3,q4⟩:=key _ _ _ _ h<;>rw[q1]at H1<;>rw[q2]at H2<;>rw[q3]at H3<;>rw[iu,q4]at H4<;>unfold RE
 ·obtain⟨ts,eT,lT,vT⟩:=Ax n ns k0 k1 hs hc d d0 d1;have lfT:=yd ts;refine⟨⟨mn,w,ts⟩,?_,⟨ww,fun _=>⟨lT.1,vT⟩,fun h=>(by rw[q2]at h;cases h),fun h=>(by rw[q3]at h;cases h),fun h=>(by rw[q1]at h;cases h),fun h=>(by rw[q4]at h;cases h),lT.2⟩,rfl⟩;rw[SN (H1 _ _) (τ':=[Δ (.lst Ξ (ns.map .int)),Δ (.int k),s2,Δ (.lst Ξ (gs.map .str)),Δ (.str (Hz IJ)),Δ (.int c),s6,Δ (.str w),Δ (.str mn),Δ (.lst Θ (ts.map Tn.d))]) ?_,sk (H2 _ _),sk (H3 _ _),sk (H4 _ _),fin]
  ·rfl
  clear H1 H2 H3 H4 fin;unfold Y';generalize ns.map D.int=NS,gs.map D.str=GS,ts.map Tn.d=TS at *;simp![ei,r2,lr,eT,lfT]
 ·obtain⟨ys,eY,lY,vY⟩:=DM n ns k0 k1 hs d d0 d1;obtain⟨zs,eZ,lZ,vZ⟩:=DN hs (aY T (n+3)) vY;have lfZ:gW (zs.map D.str)=Θ:=Ev.jL zs;have lfY:gW (ys.map D.str)=Θ:=Ev.jL ys;have lys:(ys.map D.str).length<=2:=by rw[g_];exact lY.2
  have ny:=Ev.g8 ys;refine⟨⟨mn,w,zs.map Tn.s⟩,?_,⟨ww,fun h=>(by rw[q1]at h;cases h),fun _=>⟨(by show 1<=(zs.map Tn.s).length;rw[g_,lZ];exact lY.1),fun t ht=>(by obtain⟨z,hz,rfl⟩:=List.mem_map.mp ht;obtain⟨xs,rfl,x1,x2⟩:=vZ z hz;exact⟨xs,rfl,x1,x2⟩)⟩,fun h=>(by rw[q3]at h;cases h),fun _ h=>(by rw[q2]at h;cases h),fun h=>(by rw[q4]at h;cases h),(by show(zs.map Tn.s).length<=2;rw[g_,lZ];exact lY.2)⟩,rfl⟩;rw[sk (H1 _ _),SN (H2 _ _) (τ':=[Δ (.lst Ξ (ns.map .int)),Δ (.int k),s2,Δ (.lst Ξ (gs.map .str)),Δ (.str (Hz IJ)),Δ (.int c),s6,Δ (.str w),Δ (.str mn),Δ (.lst Θ (zs.map .str))]) ?_,sk (H3 _ _),sk (H4 _ _),fin]
  ·show _=Except.ok (Fl.rt (D.tup [.str mn,.str w,.lst Θ ((zs.map Tn.s).map Tn.d)]));rw[<- DO zs]
  clear H1 H2 H3 H4 fin;unfold Za;generalize ns.map D.int=NS,gs.map D.str=GS,ys.map D.str=YS,zs.map D.str=ZS at *;simp![ei,r2,lr,eY,eZ,lfY,lfZ,ny]
 ·obtain⟨x,eX,nX⟩:=oC (n+1) ns (k:=k+3) (by omega) (by omega) hc;refine⟨⟨mn,w,[.i x]⟩,?_,⟨ww,fun h=>(by rw[q1]at h;cases h),fun h=>(by rw[q2]at h;cases h),fun _=>⟨x,rfl,nX⟩,fun _ _ h=>(by rw[q3]at h;cases h),fun h=>(by rw[q4]at h;cases h),(by show 1<=2;omega)⟩,rfl⟩;rw[sk (H1 _ _),sk (H2 _ _),SN (H3 _ _) (τ':=[Δ (.lst Ξ (ns.map .int)),Δ (.int k),s2,Δ (.lst Ξ (gs.map .str)),Δ (.str (Hz IJ)),Δ (.int c),s6,Δ (.str w),Δ (.str mn),Δ (.lst Θ [.int x])]) ?_,sk (H4 _ _),fin]
  ·rfl
  clear H1 H2 H3 H4 fin;unfold Zb;generalize ns.map D.int=NS,gs.map D.str=GS at *;simp![ei,eX]
 ·have g0:0 < gs.length:=by
   cases gs with
   |nil=>rw[MH rfl]at q4;cases q4
   |cons=>simp
  have rg:=iy (n+2) ns (k+2) (gs.length:Int) (by omega) (by omega) (by omega);obtain⟨gn,hgn,ggn⟩:=iP (fs:=gs) (jO ns (k+2) (m:=(gs.length:Int)) (by omega)) (jV ns (k+2) (by omega));generalize dr ns (k+2) (gs.length:Int)=ig at *;refine⟨⟨gn,w,[]⟩,?_,⟨ww,fun h=>(by rw[q1]at h;cases h),fun h=>(by rw[q2]at h;cases h),fun h=>(by rw[q3]at h;cases h),fun _ _ _=>rfl,fun _=>J_ ggn,(by show 0<=2;omega)⟩,rfl⟩;rw[sk (H1 _ _),sk (H2 _ _),sk (H3 _ _),SN (H4 _ _) (τ':=[Δ (.lst Ξ (ns.map .int)),Δ (.int k),s2,Δ (.lst Ξ (gs.map .str)),Δ (.str (Hz IJ)),Δ (.int c),s6,Δ (.str w),Δ (.str gn),Δ (.lst Θ [])]) ?_,fin]
  ·rfl
  clear H1 H2 H3 H4 fin;unfold Zc;generalize ns.map D.int=NS,gs.map D.str=GS at *;simp![ei,eg,lg,rg,hgn]
 ·refine⟨⟨mn,w,[]⟩,?_,⟨ww,fun h=>(by rw[q1]at h;cases h),fun h=>(by rw[q2]at h;cases h),fun h=>(by rw[q3]at h;cases h),fun _ _ _=>rfl,fun h=>(by rw[q4]at h;cases h),(by show 0<=2;omega)⟩,rfl⟩;rw[sk (H1 _ _),sk (H2 _ _),sk (H3 _ _),sk (H4 _ _),fin];rfl
theorem tR (n:Nat)(ns:List Int){k:Int}(k0:0<=k)(k1:k<=4000){ms gs:List Str}(hm:0 < ms.length)(Mk:ms.length<=20)(NL:gs.length<=20){IJ:List Nat}(hs:Sm IJ){c:Int}(hc:Ce c) :
  ∃cn:Cn,aY T (n+4) 54 [.lst Ξ (ns.map .int),.int k,.lst Ξ (ms.map .str),.lst Ξ (gs.map .str),.str (Hz IJ),.int c]=.ok cn.t/\Vc gs cn/\(gs=[]->Le cn.w=Ξ):=by
 have ei:=Ev.ib ns;have em:=Ev.g8 ms;have eg:=Ev.g8 gs;have lm:(ms.map D.str).length=ms.length:=g_ _;have r1:=iy (n+2) ns (k+1) (ms.length:Int) (by omega) (by omega) (by omega);obtain⟨mn,Zh,_⟩:=iP (fs:=ms) (jO ns (k+1) (m:=(ms.length:Int)) (by omega)) (jV ns (k+1) (by omega));generalize dr ns (k+1) (ms.length:Int)=i1 at *;have go:aY T (n+4) 54 [.lst Ξ (ns.map .int),.int k,.lst Ξ (ms.map .str),.lst Ξ (gs.map .str),.str (Hz IJ),.int c]=_:=gx 54 WV 6 10 Ud rfl rfl rfl rfl rfl rfl;have c7:((7:Nat):Int)=7:=rfl;have c9:((9:Nat):Int)=9:=rfl;have Zi:([D.str "is",.str "not",.str "begins",.str "least",.str "most",.str "has",.str "lacks"]).length=7:=rfl;cases hq:gs.isEmpty with
 |true=>
  have r0:=iy (n+2) ns k 7 k0 (by omega) (by decide);obtain⟨w,hw,gw⟩:=iP (fs:=W7) (jO ns k (m:=7) (by decide)) (by have:=jV ns k (m:=7) (by decide);exact this);generalize dr ns k 7=i0 at *;have wm:=J_ gw;obtain⟨cn,e,wf,ew⟩:=tQ n ns k0 k1 NL hs hc mn w (t_ _ wm) (fun _=>t7 w wm) (Δ (.lst Ξ (ms.map .str))) (Δ (.lst Θ (W7.map .str)));refine⟨cn,?_,wf,fun _=>by rw[ew];exact t7 w wm⟩;have w7:W7.map D.str=[D.str "is",.str "not",.str "begins",.str "least",.str "most",.str "has",.str "lacks"]:=rfl;rw[w7]at hw e;rw[go];unfold Ud;have nn:∀o,Jw .ne (.lst o (gs.map .str)) (.lst Θ [])=.ok Ξ:=fun o=>by rw[ne_nil,List.isEmpty_map,hq];rfl
  generalize cn.t=CT,ns.map D.int=NS,ms.map D.str=MS,gs.map D.str=GS,RE=tco at *;simp![ei,em,eg,lm,r0,r1,Zh,hw,nn,c7,Zi,e]
 |false=>
  have r0:=iy (n+2) ns k 9 k0 (by omega) (by decide);obtain⟨w,hw,gw⟩:=iP (fs:=W9) (jO ns k (m:=9) (by decide)) (by have:=jV ns k (m:=9) (by decide);exact this);generalize dr ns k 9=i0 at *;have wm:=J_ gw;have JK:gs=[]->False:=fun h=>by rw[h]at hq;cases hq
  obtain⟨cn,e,wf,ew⟩:=tQ n ns k0 k1 NL hs hc mn w wm (fun h=>(JK h).elim) (Δ (.lst Ξ (ms.map .str))) (Δ (.lst Θ (W9.map .str)));refine⟨cn,?_,wf,fun h=>(JK h).elim⟩;have w9e:[D.str "is",.str "not",.str "begins",.str "least",.str "most",.str "has",.str "lacks"]++[D.str "in",.str "out"]=W9.map D.str:=rfl;have l9:(W9.map D.str).length=9:=rfl;have lfw:gW (W9.map D.str)=Θ:=Ev.jL W9;rw[go];unfold Ud;have nn:∀o,Jw .ne (.lst o (gs.map .str)) (.lst Θ [])=.ok Θ:=fun o=>by rw[ne_nil,List.isEmpty_map,hq];rfl
  generalize W9.map D.str=WW,cn.t=CT,ns.map D.int=NS,ms.map D.str=MS,gs.map D.str=GS,RE=tco at *;simp![ei,em,eg,lm,r0,r1,Zh,hw,nn,c7,c9,w9e,l9,Zi,lfw,e]
structure MP (gs:List Gp):Prop where
 ok:∀g∈gs,∀r∈g.rows,∀c∈r,Vc [] c/\Le c.w=Ξ
 nd:(gs.map (·.nm)).Nodup
 len:∀g∈gs,g.rows.length<=100/\∀r∈g.rows,r.length<=100
theorem F0 (c0 c1:Cn){r:Int}(h0:0<=r)(h1:r < 6):∃(R:D) (rs:List (List Cn)),ir (.lst Θ [.lst Θ [],.lst Θ [.lst Θ []],.lst Θ [.lst Θ [c0.d]],.lst Θ [.lst Θ [c0.d,c1.d]],.lst Θ [.lst Θ [c0.d],.lst Θ [c1.d]],.lst Θ [.lst Θ [],.lst Θ [c0.d]]]) (.int r)=.ok R/\er R=.lst Ξ (rs.map JI)/\hE R=Ξ/\rs.length<=2/\∀row∈rs,row.length<=2/\∀c∈row,c=c0∨c=c1:=by
 have e0:=kU c0;have e1:=kU c1;rcases(show r=0∨r=1∨r=2∨r=3∨r=4∨r=5 by omega) with rfl|rfl|rfl|rfl|rfl|rfl
 ·exact⟨_,[],rfl,rfl,rfl,by simp,fun row h=>by simp at h⟩
 ·exact⟨_,[[]],rfl,rfl,rfl,by simp,fun row h=>by rw[o_.mp h];simp⟩
 ·exact⟨_,[[c0]],rfl,(by show D.lst Ξ [.lst Ξ [er c0.d]]=_;rw[e0];rfl),rfl,by simp,fun row h=>by rw[o_.mp h];simp⟩
 ·exact⟨_,[[c0,c1]],rfl,(by show D.lst Ξ [.lst Ξ [er c0.d,er c1.d]]=_;rw[e0,e1];rfl),rfl,by simp,fun row h=>by rw[o_.mp h];simp⟩
 ·exact⟨_,[[c0],[c1]],rfl,(by show D.lst Ξ [.lst Ξ [er c0.d],.lst Ξ [er c1.d]]=_;rw[e0,e1];rfl),rfl,by simp,fun row h=>by
   simp only[k_,S_,or_false]at h
   rcases h with rfl|rfl<;>simp⟩
 ·exact⟨_,[[],[c0]],rfl,(by show D.lst Ξ [.lst Ξ [],.lst Ξ [er c0.d]]=_;rw[e0];rfl),rfl,by simp,fun row h=>by
   simp only[k_,S_,or_false]at h
   rcases h with rfl|rfl<;>simp⟩
theorem Ay (n:Nat)(ns:List Int){k:Int}(k0:0<=k)(k1:k<=3600){ms:List Str}(hm:0 < ms.length)(Mk:ms.length<=20){IJ:List Nat}(hs:Sm IJ){c:Int}(hc:Ce c){g:Int}(g0:0<=g)(g1:g < 2) :
  ∃c0 c1:Cn,g9 (ie (aY T (n+4)) (.nm 6) [] (.call 54 [(.v 0),(.bin .add (.bin .add (.bin .add (.v 1) (.c (.int 70))) (.bin .mul (.c (.int 30)) (.v 2))) (.bin .mul (.c (.int 14)) (.v 6))),(.v 3),(.lst []),(.v 4),(.v 5)]) [Δ (.lst Ξ (ns.map .int)),Δ (.int k),Δ (.int g),Δ (.lst Ξ (ms.map .str)),Δ (.str (Hz IJ)),Δ (.int c),Φ]) (ij 0 2)=.ok [c0.t,c1.t]/\(Vc [] c0/\Le c0.w=Ξ)/\(Vc [] c1/\Le c1.w=Ξ):=by
 have ei:=Ev.ib ns;have em:=Ev.g8 ms;have one:∀j:Int,0<=j->j < 2->∃cn:Cn,ie (aY T (n+4)) (.nm 6) [] (.call 54 [(.v 0),(.bin .add (.bin .add (.bin .add (.v 1) (.c (.int 70))) (.bin .mul (.c (.int 30)) (.v 2))) (.bin .mul (.c (.int 14)) (.v 6))),(.v 3),(.lst []),(.v 4),(.v 5)]) [Δ (.lst Ξ (ns.map .int)),Δ (.int k),Δ (.int g),Δ (.lst Ξ (ms.map .str)),Δ (.str (Hz IJ)),Δ (.int c),Φ] (.int j)=.ok (Δ cn.t)/\Vc [] cn/\Le cn.w=Ξ:=by intro j j0 j1;obtain⟨cn,e,wf,io⟩:=tR n ns (k:=k+70+30*g+14*j) (by omega) (by omega) hm Mk (gs:=[]) (by simp) hs hc;have e:aY T (n+4) 54 [.lst Ξ (ns.map .int),.int (k+70+30*g+14*j),.lst Ξ (ms.map .str),.lst Ξ [],.str (Hz IJ),.int c]=.ok cn.t:=e;refine⟨cn,?_,wf,io rfl⟩;generalize ns.map D.int=NS,ms.map D.str=MS,cn.t=CT at *;simp![Ev.gY,ei,em,e]
 obtain⟨c0,e0,w0⟩:=one 0 (by decide) (by decide);obtain⟨c1,e1,w1⟩:=one 1 (by decide) (by decide);exact⟨c0,c1,nr e0 (nr e1 rfl),w0,w1⟩
theorem Az (n:Nat)(ns:List Int){k:Int}(k0:0<=k)(k1:k<=3600){ms:List Str}(hm:0 < ms.length)(Mk:ms.length<=20){IJ:List Nat}(hs:Sm IJ){c:Int}(hc:Ce c){g:Int}(g0:0<=g)(g1:g < 2){fs:List Str}(hf:2<=fs.length){gs:List Gp}(hgl:gs.length<=10)(b7 b8 b9:Option D) :
  ∃(gp:Gp) (c8 c9:Option D),Ev.turn (aY T (n+4)) (.nm 7) RF (.int g) [Δ (.lst Ξ (ns.map .int)),Δ (.int k),Δ (.lst Ξ (ms.map .str)),Δ (.str (Hz IJ)),Δ (.int c),Δ (.lst Θ (gs.map Gp.d)),Δ (.lst Ξ (fs.map .str)),b7,b8,b9]=.ok (.nx [Δ (.lst Ξ (ns.map .int)),Δ (.int k),Δ (.lst Ξ (ms.map .str)),Δ (.str (Hz IJ)),Δ (.int c),Δ (.lst Θ ((gs++[gp]).map Gp.d)),Δ (.lst Ξ (fs.map .str)),Δ (.int g),c8,c9])/\fs[g.toNat]? = Δ gp.nm/\gp.rows.length<=2/\∀row∈gp.rows,row.length<=2/\∀c∈row,Vc [] c/\Le c.w=Ξ:=by
 obtain⟨c0,c1,e0,w0,w1⟩:=Ay n ns k0 k1 hm Mk hs hc g0 g1;have d1:=iy (n+3) ns (k+6+g) 6 (by omega) (by omega) (by decide);obtain⟨R,rs,e1,eR,lR,lrs,T5⟩:=F0 c0 c1 (jO ns (k+6+g) (m:=6) (by decide)) (jV ns (k+6+g) (by decide));generalize dr ns (k+6+g) 6=r at *;obtain⟨y,hy,gy⟩:=iP (fs:=fs) g0 (by omega);have ei:=Ev.ib ns;have em:=Ev.g8 ms;have ef:=Ev.g8 fs;have t0:=yh c0;have t1:=yh c1;have Xp:HC [c0.t,c1.t]=[c0.d,c1.d]:=by show [er c0.t,er c1.t]=_;rw[t0,t1]
 have lf2:gW [c0.t,c1.t]=Ξ:=rfl;have s1:jj [c0.d,c1.d] Φ (Δ 1)=[c0.d]:=rfl;have s2:jj [c0.d,c1.d] (Δ 1) Φ=[c1.d]:=rfl;have l2:(ij 0 2).length=2:=rfl;have Zj:=kU c0;have Zk:=kU c1;have lg:(gs.map Gp.d).length=gs.length:=g_ _;have kp:iw (.comp Wc [0,1,7,2,3,4] (.nm 6) (.II (.c (.int 2))) [] (.call 54 [(.v 0),(.bin .add (.bin .add (.bin .add (.v 1) (.c (.int 70))) (.bin .mul (.c (.int 30)) (.v 2))) (.bin .mul (.c (.int 14)) (.v 6))),(.v 3),(.lst []),(.v 4),(.v 5)])) (.lst Θ [c0.t,c1.t]) [Δ (.lst Ξ (ns.map .int)),Δ (.int k),Δ (.lst Ξ (ms.map .str)),Δ (.str (Hz IJ)),Δ (.int c),Δ (.lst Θ (gs.map Gp.d)),Δ (.lst Ξ (fs.map .str)),Δ (.int g),b8,b9]=(.lst Θ [c0.d,c1.d],[Δ (.lst Ξ (ns.map .int)),Δ (.int k),Δ (.lst Ξ (ms.map .str)),Δ (.str (Hz IJ)),Δ (.int c),Δ (.lst Θ (gs.map Gp.d)),Δ (.lst Ξ (fs.map .str)),Δ (.int g),b8,b9]):=by show(D.lst Θ (HC [c0.t,c1.t]),[Δ (.lst Ξ (HC (ns.map .int))),Δ (.int k),Δ (.lst Ξ (HC (ms.map .str))),Δ (.str (Hz IJ)),Δ (.int c),Δ (.lst Θ (gs.map Gp.d)),Δ (.lst Ξ (fs.map .str)),Δ (.int g),b8,b9])=_;rw[Xp,ei,em]
 have U7:iw (.idx (.lst [(.lst []),(.lst [(.lst [])]),(.lst [(.sl (.v 8) Φ (Δ (.c (.int 1))))]),(.lst [(.v 8)]),(.lst [(.sl (.v 8) Φ (Δ (.c (.int 1)))),(.sl (.v 8) (Δ (.c (.int 1))) Φ)]),(.lst [(.lst []),(.sl (.v 8) Φ (Δ (.c (.int 1))))])]) (.call 43 [(.v 0),(.bin .add (.bin .add (.v 1) (.c (.int 6))) (.v 7)),(.c (.int 6))])) R [Δ (.lst Ξ (ns.map .int)),Δ (.int k),Δ (.lst Ξ (ms.map .str)),Δ (.str (Hz IJ)),Δ (.int c),Δ (.lst Θ (gs.map Gp.d)),Δ (.lst Ξ (fs.map .str)),Δ (.int g),Δ (.lst Θ [c0.d,c1.d]),b9]=(.lst Ξ (rs.map JI),[Δ (.lst Ξ (ns.map .int)),Δ (.int k),Δ (.lst Ξ (ms.map .str)),Δ (.str (Hz IJ)),Δ (.int c),Δ (.lst Θ (gs.map Gp.d)),Δ (.lst Ξ (fs.map .str)),Δ (.int g),Δ (.lst Ξ [c0.d,c1.d]),b9]):=by unfold iw;rw[d_ (by rw[lR];simp)];show(er R,[Δ (.lst Ξ (HC (ns.map .int))),Δ (.int k),Δ (.lst Ξ (ms.map .str)),Δ (.str (Hz IJ)),Δ (.int c),Δ (.lst Θ (gs.map Gp.d)),Δ (.lst Ξ (fs.map .str)),Δ (.int g),Δ (.lst Ξ [er c0.d,er c1.d]),b9])=_;rw[eR,ei,Zj,Zk]
 refine⟨⟨y,rs⟩,Δ (.lst Ξ [c0.d,c1.d]),Δ (.lst Ξ (rs.map JI)),?_,gy,lrs,fun row hr=>⟨(T5 row hr).1,fun c hc=>?_⟩⟩
 ·have Ld:(gs++[(⟨y,rs⟩:Gp)]).map Gp.d=gs.map Gp.d++[.tup [.str y,.lst Ξ (rs.map JI)]]:=by rw[C_];rfl
  rw[Ld];unfold RF;unfold Wc at *;have err:=rO rs;generalize ns.map D.int=NS,ms.map D.str=MS,fs.map D.str=FS,gs.map Gp.d=GS,rs.map JI=RS,c0.t=T0,c1.t=T1,c0.d=D0,c1.d=D1 at *;simp![Ev.gY,ei,em,ef,l2,e0,kp,U7,s1,s2,d1,e1,eR,lR,hy,Zj,Zk,lg,err]
 ·rcases(T5 row hr).2 c hc with rfl|rfl
  ·exact w0
  ·exact w1
theorem nN {r:Int}{i:Nat}{x:D}(h:(ij 0 r)[i]? = Δ x):i < r.toNat/\x=.int (i:Nat):=by have hi:=(p_.mp h).1;rw[kW]at hi;unfold ij at h;rw[A_,List.getElem?_range (by omega)]at h;have h':D.int (0+(i:Nat))=x:=I_ h;exact⟨hi,by rw[<- h',Int.zero_add]⟩
theorem uT (n:Nat)(ns:List Int){k:Int}(k0:0<=k)(k1:k<=3600){ms:List Str}(hm:2<=ms.length)(Mk:ms.length<=20)(hnd:ms.Nodup){IJ:List Nat}(hs:Sm IJ){c:Int}(hc:Ce c) :
  ∃gs:List Gp,aY T (n+5) 55 [.lst Ξ (ns.map .int),.int k,.lst Ξ (ms.map .str),.str (Hz IJ),.int c]=.ok (.lst Θ (gs.map Gp.d))/\MP gs/\gs.length<=2/\∀g∈gs,g.rows.length<=2/\∀row∈g.rows,row.length<=2:=by
 obtain⟨A,eA,lA,Xq,_⟩:=j6 (n+2) ns (k:=k) k0 (by omega) (c:=2) (by decide) (by decide);obtain⟨r,d1,a0,a1⟩:=JP (n+3) ns (k+4) 2 (by omega) (by omega) (by decide);obtain⟨fs,hf,lf,NH⟩:∃fs:List Str,(∀o,ir (.lst o [.lst Θ (A.map .str),.lst Θ (ms.map .str)]) (.int r)=.ok (.lst Θ (fs.map .str)))/\2<=fs.length/\fs.Nodup:=by
  rcases(show r=0∨r=1 by omega) with rfl|rfl
  ·exact⟨A,fun _=>rfl,by rw[lA];decide,Xq⟩
  ·exact⟨ms,fun _=>rfl,hm,hnd⟩
 obtain⟨q,d2,b0,b1⟩:=JP (n+3) ns (k+5) 3 (by omega) (by omega) (by decide);obtain⟨τ',e,gs,c7,c8,c9,rfl,gl,Zl⟩:=Ev.iG (its:=ij 0 q) (τ:=[Δ (.lst Ξ (ns.map .int)),Δ (.int k),Δ (.lst Ξ (ms.map .str)),Δ (.str (Hz IJ)),Δ (.int c),Δ (.lst Θ []),Δ (.lst Ξ (fs.map .str)),Φ,Φ,Φ]) (body:=Ev.turn (aY T (n+4)) (.nm 7) RF)
  (fun i τ=>∃(gs:List Gp) (c7 c8 c9:Option D),τ=[Δ (.lst Ξ (ns.map .int)),Δ (.int k),Δ (.lst Ξ (ms.map .str)),Δ (.str (Hz IJ)),Δ (.int c),Δ (.lst Θ (gs.map Gp.d)),Δ (.lst Ξ (fs.map .str)),c7,c8,c9]/\gs.length=i/\∀(j:Nat) (g:Gp),gs[j]? = Δ g->fs[j]? = Δ g.nm/\g.rows.length<=2/\∀row∈g.rows,row.length<=2/\∀c∈row,Vc [] c/\Le c.w=Ξ)
  ⟨[],Φ,Φ,Φ,rfl,rfl,fun j g h=>by simp at h⟩ (by
   rintro i x τ hx ⟨gs,b7,b8,b9,rfl,hl,hat⟩;obtain⟨hi,rfl⟩:=nN hx;obtain⟨gp,c8,c9,e,g1,g2,g3⟩:=Az n ns k0 k1 (by omega) Mk hs hc (g:=(i:Int)) (by omega) (by omega) lf (gs:=gs) (by omega) b7 b8 b9;refine⟨_,e,gs++[gp],_,c8,c9,rfl,by rw[w_,hl];rfl,fun j g hj=>?_⟩;by_cases Q9:j < gs.length
   ·rw[aat Q9]at hj;exact hat j g hj
   ·rw[aaH (by omega)]at hj;have N7:j=i:=by have:=(p_.mp hj).1;rw[R_]at this;omega
    rw[show j - gs.length=0 by omega]at hj;have h':gp=g:=I_ hj;subst h';rw[N7]
    exact⟨by rw[<- g1];congr 1,g2,g3⟩)
 rw[kW]at gl;have ei:=Ev.ib ns;have em:=Ev.g8 ms;have ef:=Ev.g8 fs;have Nq:∀g∈gs,g.rows.length<=2/\∀row∈g.rows,row.length<=2/\∀c∈row,Vc [] c/\Le c.w=Ξ:=fun g hg=>by obtain⟨j,hj⟩:=aar.mp hg;exact(Zl j g hj).2
 refine⟨gs,?_,⟨fun g hg row hr c hc=>((Nq g hg).2 row hr).2 c hc,?_,fun g hg=>⟨Q_ (Nq g hg).1 (by decide),fun row hr=>Q_ ((Nq g hg).2 row hr).1 (by decide)⟩⟩,by omega,fun g hg=>⟨(Nq g hg).1,fun row hr=>((Nq g hg).2 row hr).1⟩⟩
 ·have go:aY T (n+5) 55 [.lst Ξ (ns.map .int),.int k,.lst Ξ (ms.map .str),.str (Hz IJ),.int c]=_:=gx 55 WY 5 10 WX rfl rfl rfl rfl rfl rfl;rw[go];unfold WX;have kp:∀b7 b8 b9:Option D,iw (.idx (.lst [(.call 44 [(.v 0),(.v 1),(.c (.int 2))]),(.bi .list [(.v 2)])]) (.call 43 [(.v 0),(.bin .add (.v 1) (.c (.int 4))),(.c (.int 2))])) (.lst Θ (fs.map .str)) [Δ (.lst Ξ (ns.map .int)),Δ (.int k),Δ (.lst Ξ (ms.map .str)),Δ (.str (Hz IJ)),Δ (.int c),Δ (.lst Θ []),Φ,b7,b8,b9]=(.lst Ξ (fs.map .str),[Δ (.lst Ξ (ns.map .int)),Δ (.int k),Δ (.lst Ξ (ms.map .str)),Δ (.str (Hz IJ)),Δ (.int c),Δ (.lst Θ []),Φ,b7,b8,b9]):=fun b7 b8 b9=>by show(D.lst Ξ (HC (fs.map .str)),[Δ (.lst Ξ (HC (ns.map .int))),Δ (.int k),Δ (.lst Ξ (HC (ms.map .str))),Δ (.str (Hz IJ)),Δ (.int c),Δ (.lst Θ []),Φ,b7,b8,b9])=_;rw[ei,em,ef]
  generalize ns.map D.int=NS,ms.map D.str=MS,fs.map D.str=FS,A.map D.str=AS,gs.map Gp.d=GS,RF=tgr at *;simp![ei,em,ef,eA,d1,d2,hf,kp,e]
 ·have:gs.map (·.nm)=fs.take gs.length:=by
   apply List.ext_getElem?;intro j;rw[A_];by_cases hj:j < gs.length
   ·rw[List.getElem?_take_of_lt hj,x_ hj];exact(Zl j gs[j] (x_ hj)).1.symm
   ·rw[List.getElem?_eq_none (by omega),List.getElem?_eq_none (by rw[O_];omega)];rfl
  rw[this];exact List.Nodup.sublist (List.take_sublist _ _) NH
def Sg (a:Int):List (Int×Int)->Prop
 |[]=>True
 |p::sg=>a < p.1/\0<=p.2/\p.2<=10007/\Sg p.1 sg
theorem yi {f y:Int}:∀(sg:List (Int×Int)) (a:Int),Sg a sg->(∀p∈sg,p.1 < f)->a < f->0<=y/\y<=10007->Sg a (sg++[(f,y)])
 |[],a,_,_,h,hy=>⟨h,hy.1,hy.2,trivial⟩
 |p::sg,a,h,hf,_,hy=>⟨h.1,h.2.1,h.2.2.1,yi sg p.1 h.2.2.2 (fun q hq=>hf q (.tail _ hq)) (hf p (.head _)) hy⟩
theorem uU (n:Nat)(ns:List Int){k:Int}(k0:0<=k)(k1:k<=4000){pl:Int}(p0:0<=pl)(p1:pl < 10007)(day:Int):∃sg:List (Int×Int),aY T (n+2) 56 [.lst Ξ (ns.map .int),.int k,.int pl,.int day]=.ok (.lst Θ (sg.map IC))/\sg.length<=3/\Sg (-1) sg:=by
 have d1:=iy n ns k 4 k0 (by omega) (by decide);have d2:=iy n ns (k+1) 4 (by omega) (by omega) (by decide);have b0:=jO ns (k+1) (m:=4) (by decide);have b1:=jV ns (k+1) (m:=4) (by decide);generalize dr ns k 4=a,dr ns (k+1) 4=q at *;have ei:=Ev.ib ns;obtain⟨mx,Zm,m0⟩:∃mx:Int,jr .max2 [.int 0,.int (day - a)]=.ok (.int mx)/\0<=mx:=⟨_,rfl,by show(0:Int)<=if day - a > 0 then day - a else 0;split<;>omega⟩
 obtain⟨τ',e,sg,f,c6,c7,rfl,gl,hv⟩:=Ev.iG (its:=ij 0 q) (τ:=[Δ (.lst Ξ (ns.map .int)),Δ (.int k),Δ (.int pl),Δ (.int day),Δ (.lst Θ []),Δ (.int mx),Φ,Φ]) (body:=Ev.turn (aY T (n+1)) (.nm 6) T6)
  (fun i τ=>∃(sg:List (Int×Int)) (f:Int) (c6 c7:Option D),τ=[Δ (.lst Ξ (ns.map .int)),Δ (.int k),Δ (.int pl),Δ (.int day),Δ (.lst Θ (sg.map IC)),Δ (.int f),c6,c7]/\sg.length=i/\(∀p∈sg,0<=p.2/\p.2<=10007)/\0<=f/\Sg (-1) sg/\∀p∈sg,p.1 < f)
  ⟨[],mx,Φ,Φ,rfl,rfl,fun p h=>by simp at h,m0,trivial,fun p h=>by simp at h⟩ (by
   rintro i x τ hx ⟨sg,f,b6,b7,rfl,hl,hv,f0,hs,hf⟩;obtain⟨hi,rfl⟩:=nN hx;have e1:=iy n ns (k+2+(i:Int)) 10008 (by omega) (by omega) (by decide);have e2:=iy n ns (k+5+(i:Int)) 6 (by omega) (by omega) (by decide);have c0:=jO ns (k+5+(i:Int)) (m:=6) (by decide);have c1:=jV ns (k+5+(i:Int)) (m:=6) (by decide);have e3:=iy n ns (k+8+(i:Int)) 3 (by omega) (by omega) (by decide);have u0:=jO ns (k+2+(i:Int)) (m:=10008) (by decide);have u1:=jV ns (k+2+(i:Int)) (m:=10008) (by decide);have w0:=jO ns (k+8+(i:Int)) (m:=3) (by decide);generalize dr ns (k+2+(i:Int)) 10008=u,dr ns (k+5+(i:Int)) 6=v,dr ns (k+8+(i:Int)) 3=w at *;have Xr:=Ev.Qh (o:=Θ) (xs:=[0,10007,pl,pl+1,pl,u]) (i:=v) c0 (by show v < 6;exact c1);have Xr:ir (.lst Θ [.int 0,.int 10007,.int pl,.int (pl+1),.int pl,.int u]) (.int v)=.ok (.int ([0,10007,pl,pl+1,pl,u].getD v.toNat 0)):=Xr;have hy:0<=([0,10007,pl,pl+1,pl,u]:List Int).getD v.toNat 0/\([0,10007,pl,pl+1,pl,u]:List Int).getD v.toNat 0<=10007:=by
    rcases(show v=0∨v=1∨v=2∨v=3∨v=4∨v=5 by omega) with rfl|rfl|rfl|rfl|rfl|rfl
    ·exact⟨(by decide:(0:Int)<=0),(by decide:(0:Int)<=10007)⟩
    ·exact⟨(by decide:(0:Int)<=10007),(by decide:(10007:Int)<=10007)⟩
    ·exact(show 0<=pl/\pl<=10007 by omega)
    ·exact(show 0<=pl+1/\pl+1<=10007 by omega)
    ·exact(show 0<=pl/\pl<=10007 by omega)
    ·exact(show 0<=u/\u<=10007 by omega)
   generalize([0,10007,pl,pl+1,pl,u]:List Int).getD v.toNat 0=y at *;have lg:(sg.map IC).length=sg.length:=g_ _;refine⟨[Δ (.lst Ξ (ns.map .int)),Δ (.int k),Δ (.int pl),Δ (.int day),Δ (.lst Θ ((sg++[(f,y)]).map IC)),Δ (.int (f+1+w)),Δ (.int (i:Nat)),Δ (.lst Θ [.int 0,.int 10007,.int pl,.int (pl+1),.int pl,.int u])],?_,sg++[(f,y)],_,_,_,rfl,by rw[w_,hl];rfl,fun p hp=>(s_.mp hp).elim (hv p) fun hp=>by rw[o_.mp hp];exact hy,by omega,yi sg (-1) hs hf (by omega) hy,fun p hp=>(s_.mp hp).elim (fun hp=>by have:=hf p hp;omega) fun hp=>by rw[o_.mp hp];show f < _;omega⟩;have hm:(sg++[(f,y)]).map IC=sg.map IC++[.tup [.int f,.int y]]:=by rw[C_];rfl
   rw[hm];unfold T6;generalize ns.map D.int=NS,sg.map IC=SG at *
   simp![Ev.gY,ei,e1,e2,e3,Xr,lg])
 rw[kW]at gl;refine⟨sg,?_,by omega,hv.2.2.1⟩;have go:aY T (n+2) 56 [.lst Ξ (ns.map .int),.int k,.int pl,.int day]=_:=gx 56 W0 4 8 WZ rfl rfl rfl rfl rfl rfl;rw[go];unfold WZ;have Xs:(if day - a > 0 then day - a else 0)=mx:=by have:(.ok (.int (if day - a > 0 then day - a else 0)):Res D)=.ok (.int mx):=Zm;injection this with h1;injection h1
 generalize ns.map D.int=NS,sg.map IC=SG,T6=tsg at *;simp![ei,d1,d2,Zm,Xs,e]
noncomputable def Oc.t:Oc->D
 |.face f=>.tup [.str "face",.str f]
 |.share f st=>.tup [.str "share",.str f,.lst Θ (st.map IC)]
 |.Pr=>.tup [.str "lot"]
theorem F4 (o:Oc):er o.t=o.d:=by
 cases o with
 |share f st=>show D.tup [.str "share",.str f,.lst Ξ (HC (st.map IC))]=_;rw[i7];rfl
 |_=>rfl
theorem rQ (n:Nat)(ns:List Int){k:Int}(k0:0<=k)(k1:k<=3990){fs:List Str}(hf:0 < fs.length)(Pt:fs.length<=20){pl:Int}(p0:0<=pl)(p1:pl < 10007)(day:Int):∃o:Oc,aY T (n+3) 57 [.lst Ξ (ns.map .int),.int k,.lst Ξ (fs.map .str),.int pl,.int day]=.ok o.t/\∀f sg,o=.share f sg->sg.length<=3/\Sg (-1) sg:=by
 have ei:=Ev.ib ns;have ef:=Ev.g8 fs;have lf:(fs.map D.str).length=fs.length:=g_ _;have d1:=iy (n+1) ns (k+1) (fs.length:Int) (by omega) (by omega) (by omega);obtain⟨f,Xt,_⟩:=iP (fs:=fs) (jO ns (k+1) (m:=(fs.length:Int)) (by omega)) (jV ns (k+1) (by omega));generalize dr ns (k+1) (fs.length:Int)=i1 at *;have d2:=iy (n+1) ns k 3 k0 (by omega) (by decide);generalize dr ns k 3=q at *;obtain⟨sg,e,lsg⟩:=uU n ns (k:=k+2) (by omega) (by omega) p0 p1 day;cases q0:(q == 0) with
 |true=>refine⟨.face f,?_,fun f sg h=>by cases h⟩;show _=Except.ok (D.tup [.str "face",.str f]);rw[gx 57 R8 5 7 Pn rfl rfl rfl rfl rfl rfl];unfold Pn;generalize ns.map D.int=NS,fs.map D.str=FS at *;simp![ei,ef,lf,d1,Xt,d2,q0]
 |false=>
  cases q1:(q == 1) with
  |true=>refine⟨.share f sg,?_,fun f' sg' h=>by cases h;exact lsg⟩;show _=Except.ok (D.tup [.str "share",.str f,.lst Θ (sg.map IC)]);rw[gx 57 R8 5 7 Pn rfl rfl rfl rfl rfl rfl];unfold Pn;generalize ns.map D.int=NS,fs.map D.str=FS,sg.map IC=SG at *;simp![ei,ef,lf,d1,Xt,d2,q0,q1,e]
  |false=>refine⟨.Pr,?_,fun f sg h=>by cases h⟩;show _=Except.ok (D.tup [.str "lot"]);rw[gx 57 R8 5 7 Pn rfl rfl rfl rfl rfl rfl];unfold Pn;generalize ns.map D.int=NS,fs.map D.str=FS at *;simp![ei,ef,lf,d1,Xt,d2,q0,q1]
theorem DQ (cs:List Cn):HC (cs.map Cn.t)=cs.map Cn.d:=by rw[hW,y_];exact X_ fun c _=>yh c
noncomputable def Rl.t (r:Rl):D:=.tup [JI r.cs,r.o.t]
theorem F5 (r:Rl):er r.t=r.d:=by show D.tup [er (JI r.cs),er r.o.t]=_;rw[qI,F4];rfl
theorem DR (rs:List Rl):HC (rs.map Rl.t)=rs.map Rl.d:=by rw[hW,y_];exact X_ fun c _=>F5 c
theorem AB (n:Nat)(ns:List Int){k:Int}(k0:0<=k)(k1:k<=3400){ms gn fs:List Str}(hm:0 < ms.length)(Mk:ms.length<=20)(NL:gn.length<=20)(hf:0 < fs.length)(Pt:fs.length<=20){IJ:List Nat}(hs:Sm IJ){c:Int}(hc:Ce c){pl:Int}(p0:0<=pl)(p1:pl < 10007)(day:Int)(a9:Option D)(i:Nat)(hi:i < 5){q:Int}(q0:0<=q)(q1:q < 3)(Qn:Option D) :
  ∃(cs:List Cn) (LC:Option D),forM (Ev.turn (aY T (n+4)) (.nm 12) RH) (ij 0 q) [Δ (.lst Ξ (ns.map .int)),Δ (.int k),Δ (.lst Ξ (ms.map .str)),Δ (.lst Ξ (gn.map .str)),Δ (.lst Ξ (fs.map .str)),Δ (.str (Hz IJ)),Δ (.int c),Δ (.int pl),Δ (.int day),a9,Δ (.int (i:Nat)),Δ (.lst Θ []),Qn]=.ok (.nx [Δ (.lst Ξ (ns.map .int)),Δ (.int k),Δ (.lst Ξ (ms.map .str)),Δ (.lst Ξ (gn.map .str)),Δ (.lst Ξ (fs.map .str)),Δ (.str (Hz IJ)),Δ (.int c),Δ (.int pl),Δ (.int day),a9,Δ (.int (i:Nat)),Δ (.lst Θ (cs.map Cn.t)),LC])/\cs.length<=2/\∀c∈cs,Vc gn c:=by
 have ei:=Ev.ib ns;have em:=Ev.g8 ms;have eg:=Ev.g8 gn;obtain⟨τ',e,cs,LC,rfl,hl,hw⟩:=Ev.iG (its:=ij 0 q) (τ:=[Δ (.lst Ξ (ns.map .int)),Δ (.int k),Δ (.lst Ξ (ms.map .str)),Δ (.lst Ξ (gn.map .str)),Δ (.lst Ξ (fs.map .str)),Δ (.str (Hz IJ)),Δ (.int c),Δ (.int pl),Δ (.int day),a9,Δ (.int (i:Nat)),Δ (.lst Θ []),Qn]) (body:=Ev.turn (aY T (n+4)) (.nm 12) RH)
  (fun j τ=>∃(cs:List Cn) (LC:Option D),τ=[Δ (.lst Ξ (ns.map .int)),Δ (.int k),Δ (.lst Ξ (ms.map .str)),Δ (.lst Ξ (gn.map .str)),Δ (.lst Ξ (fs.map .str)),Δ (.str (Hz IJ)),Δ (.int c),Δ (.int pl),Δ (.int day),a9,Δ (.int (i:Nat)),Δ (.lst Θ (cs.map Cn.t)),LC]/\cs.length=j/\∀c∈cs,Vc gn c)
  ⟨[],Qn,rfl,rfl,fun c h=>by simp at h⟩ (by
   rintro j x τ hx ⟨cs,LC,rfl,hl,hw⟩;obtain⟨hj,rfl⟩:=nN hx;obtain⟨cn,e,wf,_⟩:=tR n ns (k:=k+6+60*(i:Int)+14*(j:Int)) (by omega) (by omega) hm Mk (gs:=gn) NL hs hc;have lc:hE cn.t=Ξ:=rfl;have ll:(cs.map Cn.t).length=cs.length:=g_ _;refine⟨[Δ (.lst Ξ (ns.map .int)),Δ (.int k),Δ (.lst Ξ (ms.map .str)),Δ (.lst Ξ (gn.map .str)),Δ (.lst Ξ (fs.map .str)),Δ (.str (Hz IJ)),Δ (.int c),Δ (.int pl),Δ (.int day),a9,Δ (.int (i:Nat)),Δ (.lst Θ ((cs++[cn]).map Cn.t)),Δ (.int (j:Nat))],?_,cs++[cn],_,rfl,by rw[w_,hl];rfl,fun c hc=>?_⟩
   ·have Ld:(cs++[cn]).map Cn.t=cs.map Cn.t++[cn.t]:=by rw[C_];rfl
    rw[Ld];unfold RH;generalize ns.map D.int=NS,ms.map D.str=MS,gn.map D.str=GN,fs.map D.str=FS,cs.map Cn.t=CS,cn.t=CT at *;simp![Ev.gY,ei,em,eg,e,lc,ll]
   ·rcases s_.mp hc with hc|hc
    ·exact hw c hc
    ·rw[o_.mp hc];exact wf)
 rw[kW]at hl;exact⟨cs,LC,e,by omega,hw⟩
theorem AE (n:Nat)(ns:List Int){k:Int}(k0:0<=k)(k1:k<=3400){ms gn fs:List Str}(hm:0 < ms.length)(Mk:ms.length<=20)(NL:gn.length<=20)(hf:0 < fs.length)(Pt:fs.length<=20){IJ:List Nat}(hs:Sm IJ){c:Int}(hc:Ce c){pl:Int}(p0:0<=pl)(p1:pl < 10007)(day:Int)(i:Nat)(hi:i < 5){rs:List Rl}(V2:rs.length<=10)(Pu b11 Qn:Option D) :
  ∃(r:Rl) (Qo LC:Option D),Ev.turn (aY T (n+4)) (.nm 10) RK (.int (i:Nat)) [Δ (.lst Ξ (ns.map .int)),Δ (.int k),Δ (.lst Ξ (ms.map .str)),Δ (.lst Ξ (gn.map .str)),Δ (.lst Ξ (fs.map .str)),Δ (.str (Hz IJ)),Δ (.int c),Δ (.int pl),Δ (.int day),Δ (.lst Θ (rs.map Rl.t)),Pu,b11,Qn]=.ok (.nx [Δ (.lst Ξ (ns.map .int)),Δ (.int k),Δ (.lst Ξ (ms.map .str)),Δ (.lst Ξ (gn.map .str)),Δ (.lst Ξ (fs.map .str)),Δ (.str (Hz IJ)),Δ (.int c),Δ (.int pl),Δ (.int day),Δ (.lst Θ ((rs++[r]).map Rl.t)),Δ (.int (i:Nat)),Qo,LC])/\(∀c∈r.cs,Vc gn c)/\r.cs.length<=2/\∀f sg,r.o=.share f sg->sg.length<=3/\Sg (-1) sg:=by
 obtain⟨q,d1,q0,q1⟩:=JP (n+3) ns (k+1+(i:Int)) 3 (by omega) (by omega) (by decide);obtain⟨cs,LC,e,lcs,wf⟩:=AB n ns k0 k1 hm Mk NL hf Pt hs hc p0 p1 day (Δ (.lst Θ (rs.map Rl.t))) i hi q0 q1 Qn;obtain⟨o,e2,ho⟩:=rQ (n+1) ns (k:=k+40+60*(i:Int)) (by omega) (by omega) hf Pt p0 p1 day;have ei:=Ev.ib ns;have ef:=Ev.g8 fs;have ec:=DQ cs;have ll:(rs.map Rl.t).length=rs.length:=g_ _;refine⟨⟨cs,o⟩,Δ (.lst Ξ (cs.map Cn.d)),LC,?_,wf,lcs,ho⟩;have Ld:(rs++[(⟨cs,o⟩:Rl)]).map Rl.t=rs.map Rl.t++[.tup [.lst Ξ (cs.map Cn.d),o.t]]:=by rw[C_];rfl
 rw[Ld];unfold RK;generalize ns.map D.int=NS,ms.map D.str=MS,gn.map D.str=GN,fs.map D.str=FS,cs.map Cn.t=CT,cs.map Cn.d=CD,rs.map Rl.t=RT,o.t=OT,RH=tin at *;cases lo:hE OT<;>simp![Ev.gY,ei,ef,d1,e,ec,e2,lo,ll]
theorem yj (n:Nat)(ns:List Int){k:Int}(k0:0<=k)(k1:k<=3400){ms gn fs:List Str}(hm:0 < ms.length)(Mk:ms.length<=20)(NL:gn.length<=20)(hf:0 < fs.length)(Pt:fs.length<=20){IJ:List Nat}(hs:Sm IJ){c:Int}(hc:Ce c){pl:Int}(p0:0<=pl)(p1:pl < 10007)(day:Int):∃rs:List Rl,aY T (n+5) 58 [(.lst Ξ (ns.map .int)),(.int k),(.lst Ξ (ms.map .str)),(.lst Ξ (gn.map .str)),(.lst Ξ (fs.map .str)),(.str (Hz IJ)),(.int c),(.int pl),(.int day)]=.ok (.lst Θ (rs.map Rl.t))/\rs.length<=4/\∀r∈rs,(∀c∈r.cs,Vc gn c)/\r.cs.length<=2/\∀f sg,r.o=.share f sg->sg.length<=3/\Sg (-1) sg:=by
 obtain⟨q,d1,q0,q1⟩:=JP (n+3) ns k 5 k0 (by omega) (by decide);have ei:=Ev.ib ns;obtain⟨τ',e,rs,Jq,Qo,LC,rfl,hl,hw⟩:=Ev.iG (its:=ij 0 q) (τ:=[Δ (.lst Ξ (ns.map .int)),Δ (.int k),Δ (.lst Ξ (ms.map .str)),Δ (.lst Ξ (gn.map .str)),Δ (.lst Ξ (fs.map .str)),Δ (.str (Hz IJ)),Δ (.int c),Δ (.int pl),Δ (.int day),Δ (.lst Θ []),Φ,Φ,Φ]) (body:=Ev.turn (aY T (n+4)) (.nm 10) RK)
  (fun j τ=>∃(rs:List Rl) (Jq Qo LC:Option D),τ=[Δ (.lst Ξ (ns.map .int)),Δ (.int k),Δ (.lst Ξ (ms.map .str)),Δ (.lst Ξ (gn.map .str)),Δ (.lst Ξ (fs.map .str)),Δ (.str (Hz IJ)),Δ (.int c),Δ (.int pl),Δ (.int day),Δ (.lst Θ (rs.map Rl.t)),Jq,Qo,LC]/\rs.length=j/\∀r∈rs,(∀c∈r.cs,Vc gn c)/\r.cs.length<=2/\∀f sg,r.o=.share f sg->sg.length<=3/\Sg (-1) sg)
  ⟨[],Φ,Φ,Φ,rfl,rfl,fun c h=>by simp at h⟩ (by
   rintro j x τ hx ⟨rs,Jq,Qo,LC,rfl,hl,hw⟩;obtain⟨hj,rfl⟩:=nN hx;obtain⟨r,d11,d12,e,h1⟩:=AE n ns k0 k1 hm Mk NL hf Pt hs hc p0 p1 day j (by omega) (rs:=rs) (by omega) Jq Qo LC;refine⟨_,e,rs++[r],_,d11,d12,rfl,by rw[w_,hl];rfl,fun r' hr=>?_⟩;rcases s_.mp hr with hr|hr
   ·exact hw r' hr
   ·rw[o_.mp hr];exact h1)
 rw[kW]at hl;refine⟨rs,?_,by omega,hw⟩;have go:aY T (n+5) 58 [(.lst Ξ (ns.map .int)),(.int k),(.lst Ξ (ms.map .str)),(.lst Ξ (gn.map .str)),(.lst Ξ (fs.map .str)),(.str (Hz IJ)),(.int c),(.int pl),(.int day)]=_:=gx 58 W3 9 13 W2 rfl rfl rfl rfl rfl rfl;rw[go];unfold W2;generalize ns.map D.int=NS,ms.map D.str=MS,gn.map D.str=GN,fs.map D.str=FS,rs.map Rl.t=RT,RK=tou at *;simp![ei,d1,e]
theorem pH {α:Type}(f:α->D)(o:Bool){xs:List α}{i:Int}{a:α}(h0:0<=i)(h:xs[i.toNat]? = Δ a):ir (.lst o (xs.map f)) (.int i)=.ok (f a):=by
 have hl:i.toNat < xs.length:=(p_.mp h).1;have e:JG (xs.map f) i=Δ (f a):=by unfold JG Kc;rw[f_ h0,f_ (show i < ((xs.map f).length:Nat) by rw[g_];omega)];show(xs.map f)[i.toNat]? = _;rw[A_,h];rfl
 show(match JG (xs.map f) i with|some d=>.ok d|none=>Ir:Res D)=_;rw[e]
theorem AF (o:Bool)(r:List D)(p:D):ir (.lst o (r++[p])) (.int (-1))=.ok p:=by
 have e:JG (r++[p]) (-1)=Δ p:=by unfold JG Kc;rw[d_ (by decide),w_,R_,f_ (by omega)];show(r++[p])[((-1:Int)+((r.length+1:Nat):Int)).toNat]? = _;rw[show((-1:Int)+((r.length+1:Nat):Int)).toNat=r.length by omega];simp
 show(match JG (r++[p]) (-1) with|some d=>.ok d|none=>Ir:Res D)=_;rw[e]
def Rn (b:Nat)(r:List (Int×Int)):Prop:=r.length<=b/\∀p∈r,p.1<=p.2
theorem Rn.le (h:Rn b r)(l:b<=c):Rn c r:=⟨Q_ h.1 l,h.2⟩
theorem Rn.add (h:Rn b q)(hp:p.1<=p.2):Rn (b+1) (q++[p]):=⟨by rw[w_];exact Nat.succ_le_succ h.1,fun x hx=>by
 rcases s_.mp hx with hx|hx
 ·exact h.2 x hx
 ·rw[o_.mp hx];exact hp⟩
noncomputable def JF (r:List (Int×Int)):D:=.lst Θ (r.map IC)
noncomputable def Zn (r:List (Int×Int)):D:=.lst Ξ (r.map IC)
theorem DS (rs:List (List (Int×Int))):HC (rs.map JF)=rs.map Zn:=by rw[hW,y_];refine X_ fun p _=>?_;show D.lst Ξ (HC (p.map IC))=_;rw[i7];rfl
theorem DT (r:List (Int×Int)):gW (r.map IC)=Θ:=by rw[iR,List.all_map];exact W_.mpr fun _ _=>rfl
theorem DU (h:ds[k]? = Δ (.lst Θ es))(hf:gW es=Θ)(hj:rq τ j=Θ) :
  rz cl i j c x v w ds τ (Δ k)=Hn (Hn (HA cl c (τ.set j (Δ (.lst Θ es)))) il) (uN cl i j k x v w ds es τ):=by
 show(match ds[k]? with|some (.lst Θ es)=>HB (gW es&&rq τ j) (Hn (Hn (HA cl c (τ.set j (Δ (.lst Θ es)))) il) (uN cl i j k x v w ds es τ))|_=>Ir)=_;rw[h];show HB (gW es&&rq τ j) _=_;rw[hf,hj];rfl
theorem AG (cl:Nat->List D->Res D)(s0 s1 s2 s3 s4 s5 s7 Nn:Option D)(low high:Int){rs:List (List (Int×Int))}{k b:Nat}(hk:k < rs.length)(hb:b<=100)(lh:low<=high)(hr:∀r∈rs,Rn b r) :
  ∃Ml:List (List (Int×Int)),rz cl 6 10 Qi RL RM T7 (rs.map JF) [s0,s1,s2,s3,s4,s5,Δ (.lst Θ (rs.map JF)),s7,Δ (.int low),Δ (.int high),Nn] (Δ k)=.ok (.nx [s0,s1,s2,s3,s4,s5,Δ (.lst Θ (Ml.map JF)),s7,Δ (.int low),Δ (.int high),Φ])/\Ml.length=rs.length/\∀r∈Ml,Rn (b+1) r:=by
 have hg:(rs.map JF)[k]? = Δ (.lst Θ (rs[k].map IC)):=by rw[A_,x_ hk];rfl
 have hm:=hr _ (aaj hk);generalize rs[k]=r at *;have key:∀r':List (Int×Int),Rn (b+1) r'->∀x∈rs.set k r',Rn (b+1) x:=fun r' h x hx=>by
  rcases List.mem_or_eq_of_mem_set hx with hx|rfl
  ·exact(hr x hx).le (Nat.le_succ b)
  ·exact h
 have out:∀r':List (Int×Int),(rs.set k r').map JF=(rs.map JF).set k (.lst Θ (r'.map IC)):=fun r'=>by rw[List.map_set];rfl
 have add:CF 6 10 k (rs.map JF) (r.map IC) [s0,s1,s2,s3,s4,s5,Δ (.lst Θ (rs.map JF)),s7,Δ (.int low),Δ (.int high),Nn] (.tup [.int low,.int high])=.ok (.nx [s0,s1,s2,s3,s4,s5,Δ (.lst Θ ((rs.set k (r++[(low,high)])).map JF)),s7,Δ (.int low),Δ (.int high),Φ]):=by have h2:iV (r.map IC).length=Θ:=Ev.lP (by rw[g_];have:=hm.1;omega);show HB (Θ&&iV (r.map IC).length) _=_;rw[h2,out,C_];rfl
 rw[DU hg (DT r) rfl];rcases List.eq_nil_or_concat r with rfl|⟨q,⟨p1,p2⟩,rfl⟩
 ·refine⟨rs.set k ([]++[(low,high)]),?_,List.length_set,key _ (hm.add lh)⟩;rw[<- add];generalize rs.map JF=RS at *;have hc:HA cl Qi ([s0,s1,s2,s3,s4,s5,Δ (.lst Θ RS),s7,Δ (.int low),Δ (.int high),Nn].set 10 (Δ (.lst Θ (([]:List (Int×Int)).map IC))))=.ok (.bl Ξ):=rfl;rw[hc];rfl
 ·rw[List.concat_eq_append]at *;have Zo:ir (.lst Θ ((q++[(p1,p2)]).map IC)) (.int (-1))=.ok (.tup [.int p1,.int p2]):=by rw[C_];exact AF Θ _ _
  have JK:∀f:D->D->Res Bool,jI f ((q++[(p1,p2)]).map IC) []=.ok Ξ:=fun f=>by
   rw[C_];cases q with
   |nil=>rfl
   |cons a q=>rfl
  have lq:((q++[(p1,p2)]).map IC).length=q.length+1:=by rw[g_,w_];rfl
  cases hc:(p2 == low) with
  |true=>
   have h2:p1<=p2:=hm.2 (p1,p2) (v_ _ (o_.mpr rfl));have h3:p2=low:=by simpa using hc
   have h4:Rn b q:=⟨Q_ (by rw[w_];exact aaq _ _) hm.1,fun x hx=>hm.2 x (t_ _ hx)⟩
   refine⟨rs.set k (q++[(p1,high)]),?_,List.length_set,key _ (h4.add (by show p1<=high;omega))⟩;have hs:zH 6 10 k (rs.map JF) ((q++[(p1,p2)]).map IC) [s0,s1,s2,s3,s4,s5,Δ (.lst Θ (rs.map JF)),s7,Δ (.int low),Δ (.int high),Nn] (.tup [.int p1,.int high]) (.int (-1))=.ok (.nx [s0,s1,s2,s3,s4,s5,Δ (.lst Θ ((rs.set k (q++[(p1,high)])).map JF)),s7,Δ (.int low),Δ (.int high),Φ]):=by
    have hi:Kc ((q++[(p1,p2)]).map IC).length (-1)=Δ q.length:=by rw[lq];unfold Kc;rw[d_ (by decide),f_ (by omega)];congr 1;omega
    show(match Kc ((q++[(p1,p2)]).map IC).length (-1) with
     |some t=>HB Θ (.ok (.nx [s0,s1,s2,s3,s4,s5,Δ (.lst Θ ((rs.map JF).set k (.lst Θ (((q++[(p1,p2)]).map IC).set t (.tup [.int p1,.int high]))))),s7,Δ (.int low),Δ (.int high),Φ]))
     |none=>Ir:Res Fl)=_
    rw[hi];show Except.ok (Fl.nx [s0,s1,s2,s3,s4,s5,Δ (.lst Θ ((rs.map JF).set k (.lst Θ (((q++[(p1,p2)]).map IC).set q.length (.tup [.int p1,.int high]))))),s7,Δ (.int low),Δ (.int high),Φ])=_;rw[out,C_,C_];have:(q.map IC++[(p1,p2)].map IC).set q.length (.tup [.int p1,.int high])=q.map IC++[(p1,high)].map IC:=by rw[List.set_append_right _ _ (by rw[g_];exact n_ _),g_,Nat.sub_self];rfl
    rw[this]
   rw[<- hs];generalize rs.map JF=RS,(q++[(p1,p2)]).map IC=Q at *;unfold Qi RL RM uN;simp![Zo,JK,hc]
  |false=>refine⟨rs.set k ((q++[(p1,p2)])++[(low,high)]),?_,List.length_set,key _ (hm.add lh)⟩;rw[<- add];generalize rs.map JF=RS,(q++[(p1,p2)]).map IC=Q at *;unfold Qi RL RM T7 uN;simp![Zo,JK,hc]
theorem AH (n:Nat)(ns:List Int){k:Int}(k0:0<=k)(k1:k<=4000)(s2 s3 s4 s8 s9 Nn:Option D){zs:List (Int×Int)}{j:Nat}(hj:j < zs.length)(hz:zs.length<=100)(QU:∀p∈zs,p.1<=p.2)(s7:Option D){rs:List (List (Int×Int))}(h0:0 < rs.length)(hr:∀r∈rs,Rn j r) :
  ∃(Ml:List (List (Int×Int))) (c8 c9:Option D),Ev.turn (aY T (n+1)) (.nm 7) Qj (.int (j:Nat)) [Δ (.lst Ξ (ns.map .int)),Δ (.int k),s2,s3,s4,Δ (.lst Ξ (zs.map IC)),Δ (.lst Θ (rs.map JF)),s7,s8,s9,Nn]=.ok (.nx [Δ (.lst Ξ (ns.map .int)),Δ (.int k),s2,s3,s4,Δ (.lst Ξ (zs.map IC)),Δ (.lst Θ (Ml.map JF)),Δ (.int (j:Nat)),c8,c9,Φ])/\Ml.length=rs.length/\∀r∈Ml,Rn (j+1) r:=by
 have ei:=Ev.ib ns;have lr:(rs.map JF).length=rs.length:=g_ _;obtain⟨q,d1,q0,q1⟩:=JP n ns (k+8+(j:Int)) (rs.length:Int) (by omega) (by omega) (by omega);have hx:ir (.lst Ξ (zs.map IC)) (.int (j:Int))=.ok (.tup [.int (zs[j]).1,.int (zs[j]).2]):=pH IC Ξ (a:=zs[j]) (by omega) (by rw[aak,x_ hj]);have lh:=QU _ (aaj hj);generalize(zs[j]).1=lo,(zs[j]).2=hi at *;have hq:Kc rs.length q=Δ q.toNat:=by unfold Kc;rw[f_ q0,f_ q1]
 obtain⟨Ml,e,h1,h2⟩:=AG (aY T (n+1)) (Δ (.lst Ξ (ns.map .int))) (Δ (.int k)) s2 s3 s4 (Δ (.lst Ξ (zs.map IC))) (Δ (.int (j:Nat))) Nn lo hi (rs:=rs) (k:=q.toNat) (b:=j) (by omega) (by omega) lh hr;refine⟨Ml,Δ (.int lo),Δ (.int hi),?_,h1,h2⟩;unfold Qj;generalize Qi=ca,RL=xa,RM=va,T7=wa,ns.map D.int=NS,zs.map IC=ZS,rs.map JF=RS,Ml.map JF=RS' at *;simp![Ev.gY,ei,lr,hx,d1,hq,e]
theorem tU {g:D->Res (Option D)}{P:Int->Prop}:∀(xs:List Int),(∀x∈xs,g (.int x)=.ok (Δ (.int x))/\P x∨g (.int x)=.ok Φ)->∃ys:List Int,g9 g (xs.map .int)=.ok (ys.map .int)/\ys.length<=xs.length/\∀y∈ys,P y
 |[],_=>⟨[],rfl,n_ _,fun y hy=>by cases hy⟩
 |x::xs,h=>by
  obtain⟨ys,e,hl,hp⟩:=tU (P:=P) xs fun z hz=>h z (K_ _ hz);rcases h x (.head _) with⟨hx,px⟩|hx
  ·refine⟨x::ys,by rw[b_];unfold g9;rw[hx];show Hn (g9 g (xs.map .int)) _=_;rw[e];rfl,Nat.succ_le_succ hl,fun y hy=>?_⟩;rcases k_.mp hy with rfl|hy
   ·exact px
   ·exact hp y hy
  ·exact⟨ys,by rw[b_];unfold g9;rw[hx];exact e,Nat.le_succ_of_le hl,hp⟩
noncomputable def SQ (p:Str×List (Int×Int)):D:=.tup [.str p.1,.lst Θ (p.2.map IC)]
theorem DV (al:Al):HC (al.map SQ)=al.map LB:=by rw[hW,y_];refine X_ fun p _=>?_;show D.tup [.str p.1,.lst Ξ (HC (p.2.map IC))]=_;rw[i7];rfl
theorem qJ (f:α->β)(xs:List α)(lo hi:Option Int):jj (xs.map f) lo hi=(jj xs lo hi).map f:=by unfold jj;rw[g_,<- List.map_drop,<- List.map_take]
theorem AI (xs:List α)(lo hi:Option Int):(jj xs lo hi).length<=xs.length:=by unfold jj;rw[O_,aam];omega
theorem By:∀xs:List Int,iI (xs.map .int)=Δ xs
 |[]=>rfl
 |x::xs=>by show(iI (xs.map .int)).map (x::·)=_;rw[By xs];rfl
theorem tV:∀(xs s:List Int) {y:Int},y∈xs.foldl step_dedup s->y∈s∨y∈xs
 |[],s,y,h=>.inl h
 |x::xs,s,y,h=>by
  rcases tV xs _ h with h|h
  ·unfold step_dedup at h;split at h
   ·exact .inl h
   ·rcases s_.mp h with h|h
    ·exact .inl h
    ·rw[o_.mp h];exact .inr (.head _)
  ·exact .inr (.tail _ h)
theorem DW (h:y∈dd xs):y∈xs:=(tV xs [] h).resolve_left (by simp)
theorem DX {o:Bool}{xs:List Int}(h:xs.length < 64):∃ys:List Int,sE (.lst o (xs.map .int))=.ok (.lst Θ (ys.map .int))/\ys.length<=xs.length/\ys.Pairwise (·<=·)/\∀y∈ys,y∈xs:=by refine⟨PySem.W.sortI (dd xs),?_,by rw[(PySem.W.sortI_perm _).length_eq];exact wo xs,PySem.W.sortI_rises _,fun y hy=>DW ((PySem.W.sortI_perm _).mem_iff.mp hy)⟩;show(match iI (xs.map .int) with|some ns=>HB (decide (ns.length < 64)) (.ok (.lst Θ ((PySem.W.sortI (dd ns)).map .int)))|none=>Ir:Res D)=_;rw[By];show HB (decide (xs.length < 64)) _=_;rw[u_ h];rfl
theorem Bz:∀(xs ys:List Int),ju (xs.map .int) (ys.map .int)=(xs.zip ys).map IC
 |[],_=>rfl
 |_::_,[]=>rfl
 |x::xs,y::ys=>by have:=Bz xs ys;unfold ju at this ⊢;rw[b_,b_,List.zipWith_cons_cons,this];rfl
theorem yk (xs:List α)  (h:0<=m):jj xs (Δ m) Φ=xs.drop m.toNat:=by
 unfold jj HT.Kj;simp only;rw[d_ (by omega)];by_cases hm:m.toNat<=xs.length
 ·rw[show min m.toNat xs.length=m.toNat from Nat.min_eq_left hm,List.take_of_length_le (by rw[aam];omega)]
 ·rw[show min m.toNat xs.length=xs.length from Nat.min_eq_right (by omega),List.drop_length,List.take_nil,List.drop_of_length_le (by omega)]
theorem yl (c:Int):∀xs:List Int,xs.Pairwise (·<=·)->(∀x∈xs,x < c)->∀p∈xs.zip (xs.drop 1++[c]),p.1<=p.2
 |[],_,_,p,hp=>by cases hp
 |[x],_,h,p,hp=>by have:p=(x,c):=o_.mp hp;rw[this];exact Int.le_of_lt (h x (.head _))
 |x::y::r,hs,h,p,hp=>by
  rcases k_.mp (show p∈(x,y)::(y::r).zip ((y::r).drop 1++[c]) from hp) with rfl|hp
  ·exact(List.pairwise_cons.mp hs).1 y (.head _)
  ·exact yl c (y::r) (List.pairwise_cons.mp hs).2 (fun z hz=>h z (.tail _ hz)) p hp
theorem AJ (fs:List Str)(rs:List (List (Int×Int))):((jc (fs.length:Int)).map fun j=>(fs.getD j.toNat (Ρ ""),rs.getD j.toNat [])).map (·.1)=fs:=by
 unfold jc;rw[y_,y_];apply List.ext_getElem?;intro i;rw[A_];by_cases h:i < fs.length
 ·rw[List.getElem?_range (by omega),x_ h];show Δ (fs.getD ((0:Int)+(i:Nat)).toNat _)=_;rw[show((0:Int)+(i:Nat)).toNat=i by omega,aaa,x_ h];rfl
 ·rw[List.getElem?_eq_none (by rw[aae];omega),List.getElem?_eq_none (by omega)];rfl
theorem ym (n:Nat)(ns:List Int)  (k0:0<=k)(k1:k<=4000)  (Zq:0 < fs.length)(hf:fs.length<=20)(pl:Int) :
  ∃(al:Al) (fr:List (Int×Int)),aY T (n+2) 48 [.lst Ξ (ns.map .int),.int k,.lst Ξ (fs.map .str),.int pl]=.ok (.tup [.lst Θ (al.map LB),.lst Ξ (fr.map IC)])/\al.map (·.1)=fs/\(∀p∈al,p.2.length<=20)/\Rn 20 fr:=by
 have ei:=Ev.ib ns;have ef:=Ev.g8 fs;have Qp:(fs.map D.str).length=fs.length:=g_ _;obtain⟨m,d1,a0,a1⟩:=JP n ns (k+6) 5 (by omega) (by omega) (by decide);have rn:ij 0 m=(jc m).map .int:=Ev.kS 0 m;have ln:((jc m).map D.int).length=m.toNat:=by rw[g_,ku]
 have Zr:g9 (ie (aY T (n+1)) (.nm 2) [] (.call 43 [(.v 0),(.bin .add (.v 1) (.v 2)),(.c (.int 10007))]) [Δ (.lst Ξ (ns.map .int)),Δ (.int k),Φ]) ((jc m).map .int)=.ok (((jc m).map fun j=>dr ns (k+j) 10007).map .int):=by refine Ev.iB .int (fun j=>dr ns (k+j) 10007) .int _ fun j hj=>?_;have:=nq hj;have d2:=iy n ns (k+j) 10007 (by omega) (by omega) (by decide);generalize ns.map D.int=NS at *;simp![ei,d2]
 have lu:((jc m).map fun j=>dr ns (k+j) 10007).length=m.toNat:=by rw[g_,ku]
 generalize((jc m).map fun j=>dr ns (k+j) 10007)=us at *;have lus:(us.map D.int).length=m.toNat:=by rw[g_,lu]
 obtain⟨ws,Ug,lw,Xu⟩:=tU (P:=fun x=>x < 10007) (g:=ie (aY T (n+1)) (.nm 0) [(.cmp .lt (.v 0) (.c (.int 10007)))] (.v 0) [Φ]) (0::pl::(pl+1)::us) (fun x hx=>by
  cases h:decide (x < 10007) with
  |true=>exact .inl ⟨by simp![h],q_ h⟩
  |false=>right;simp![h])
 have Ug:g9 (ie (aY T (n+1)) (.nm 0) [(.cmp .lt (.v 0) (.c (.int 10007)))] (.v 0) [Φ]) (.int 0::.int pl::.int (pl+1)::us.map .int)=.ok (ws.map .int):=Ug;rw[List.length_cons,List.length_cons,List.length_cons]at lw;obtain⟨xs,Qq,lx,sx,mx⟩:=DX (o:=Θ) (xs:=ws) (by omega);have P7:HC (xs.map D.int)=xs.map D.int:=Ev.ib xs;have ews:gW (ws.map D.int)=Θ:=Ev.rM ws;have hz:ju (xs.map .int) (jj (xs.map .int) (Δ 1) Φ++[.int 10007])=(xs.zip (jj xs (Δ 1) Φ++[10007])).map IC:=by rw[qJ,<- Bz,C_];rfl
 have Xv:(jj (xs.map D.int) (Δ 1) Φ).length<=20:=by have:=AI (xs.map D.int) (Δ 1) Φ;rw[g_]at this;omega
 have lz:(xs.zip (jj xs (Δ 1) Φ++[10007])).length<=10:=by rw[List.length_zip];omega
 have Qr:∀p∈xs.zip (jj xs (Δ 1) Φ++[10007]),p.1<=p.2:=by rw[yk xs (by decide)];exact yl 10007 xs sx fun x hx=>Xu x (mx x hx)
 generalize(xs.zip (jj xs (Δ 1) Φ++[10007]))=zs at *;have lzs:iS (zs.map IC).length=Θ:=Ev.lN (by rw[g_];omega);have ez:=i7 zs;have ezr:HC (zs.map IC).reverse=zs.reverse.map IC:=by rw[<- List.map_reverse];exact i7 _
 have d3:=iy n ns (k+7) 2 (by omega) (by omega) (by decide);generalize dr ns (k+7) 2=w at *;have main:∀ys:List (Int×Int),ys.length<=10->(∀p∈ys,p.1<=p.2)->∀s4:Option D,∃(rs:List (List (Int×Int))) (c7 c8 c9 Jq:Option D),forM (Ev.turn (aY T (n+1)) (.nm 7) Qj) (ij 0 (ys.length:Int)) [Δ (.lst Ξ (ns.map .int)),Δ (.int k),Δ (.lst Ξ (fs.map .str)),Δ (.int pl),s4,Δ (.lst Ξ (ys.map IC)),Δ (.lst Θ (.lst Θ []::Τ fs.length (.lst Θ []))),Φ,Φ,Φ,Φ]=.ok (.nx [Δ (.lst Ξ (ns.map .int)),Δ (.int k),Δ (.lst Ξ (fs.map .str)),Δ (.int pl),s4,Δ (.lst Ξ (ys.map IC)),Δ (.lst Θ (rs.map JF)),c7,c8,c9,Jq])/\rs.length=fs.length+1/\(∀r∈rs,Rn 20 r):=by
  intro ys hy Qr s4;obtain⟨τ',e,rs,c7,c8,c9,Jq,rfl,hl,hr⟩:=Ev.iG (its:=ij 0 (ys.length:Int)) (τ:=[Δ (.lst Ξ (ns.map .int)),Δ (.int k),Δ (.lst Ξ (fs.map .str)),Δ (.int pl),s4,Δ (.lst Ξ (ys.map IC)),Δ (.lst Θ (.lst Θ []::Τ fs.length (.lst Θ []))),Φ,Φ,Φ,Φ]) (body:=Ev.turn (aY T (n+1)) (.nm 7) Qj)
   (fun j τ=>∃(rs:List (List (Int×Int))) (c7 c8 c9 Jq:Option D),τ=[Δ (.lst Ξ (ns.map .int)),Δ (.int k),Δ (.lst Ξ (fs.map .str)),Δ (.int pl),s4,Δ (.lst Ξ (ys.map IC)),Δ (.lst Θ (rs.map JF)),c7,c8,c9,Jq]/\rs.length=fs.length+1/\∀r∈rs,Rn j r)
   ⟨[]::Τ fs.length [],Φ,Φ,Φ,Φ,by rw[b_,List.map_replicate];rfl,by simp,fun r hr=>by
    have e:r=[]:=by
     rcases k_.mp hr with rfl|hr
     ·rfl
     ·exact List.eq_of_mem_replicate hr
    rw[e]
    exact⟨n_ _,fun p hp=>by cases hp⟩⟩ (by
    rintro j x τ hx ⟨rs,c7,c8,c9,Jq,rfl,hl,hr⟩;obtain⟨hj,rfl⟩:=nN hx;obtain⟨Ml,d8,d9,e,h1,h2⟩:=AH n ns k0 k1 (Δ (.lst Ξ (fs.map .str))) (Δ (.int pl)) s4 c8 c9 Jq (zs:=ys) (j:=j) (by omega) (by omega) Qr c7 (rs:=rs) (by omega) hr
    exact⟨_,e,Ml,_,d8,d9,Φ,rfl,by omega,h2⟩)
  refine⟨rs,c7,c8,c9,Jq,e,hl,fun r h=>?_⟩;have:=hr r h;rw[kW]at this;exact this.le (by omega)
 have fin:∀rs:List (List (Int×Int)),rs.length=fs.length+1->(∀r∈rs,Rn 20 r)->∃(al:Al) (fr:List (Int×Int)),(∀o o',g9 (ie (aY T (n+1)) (.nm 2) [] (.tup [(.idx (.v 0) (.v 2)),(.idx (.v 1) (.v 2))]) [Δ (.lst o (fs.map .str)),Δ (.lst o' (rs.map JF)),Φ]) (ij 0 (fs.length:Int))=.ok (al.map SQ))/\(∀o,ir (.lst o (HC (rs.map JF))) (.int (fs.length:Int))=.ok (.lst Ξ (fr.map IC)))/\al.map (·.1)=fs/\(∀p∈al,p.2.length<=20)/\Rn 20 fr:=by
  intro rs hl hr;have Zs:fs.length < rs.length:=by omega
  have gj:∀ {j:Int},j∈jc (fs.length:Int)->rs.getD j.toNat []∈rs/\rs[j.toNat]? = Δ (rs.getD j.toNat []):=fun {j} hj=>by
   have N7:=nq hj;have Zt:j.toNat < rs.length:=by omega
   rw[aaa,x_ Zt];exact⟨aaj Zt,rfl⟩
  refine⟨(jc (fs.length:Int)).map fun j=>(fs.getD j.toNat (Ρ ""),rs.getD j.toNat []),rs[fs.length],fun o o'=>?_,fun o=>by
   rw[DS]
   exact pH Zn o (a:=rs[fs.length]) (by omega) (by rw[aak,x_ Zs]),AJ fs rs,fun p hp=>?_,hr _ (aaj Zs)⟩
  ·rw[Ev.kS 0 (fs.length:Int)];refine Ev.iB .int (fun j=>(fs.getD j.toNat (Ρ ""),rs.getD j.toNat [])) SQ (jc (fs.length:Int)) fun j hj=>?_;have N7:=nq hj;obtain⟨nm,NI,gnm⟩:=iP (fs:=fs) (i:=j) N7.1 N7.2;have hx2:∀o,ir (.lst o (rs.map JF)) (.int j)=.ok (.lst Θ ((rs.getD j.toNat []).map IC)):=fun o=>pH JF o N7.1 (gj hj).2;have en:fs.getD j.toNat (Ρ "")=nm:=by rw[aaa,gnm];rfl
   show _=Except.ok (Δ (D.tup [.str (fs.getD j.toNat (Ρ "")),.lst Θ ((rs.getD j.toNat []).map IC)]));rw[en];generalize(rs.getD j.toNat []).map IC=RJ,rs.map JF=RS,fs.map D.str=FS at *;simp![NI,hx2]
  ·obtain⟨j,hj,rfl⟩:=List.mem_map.mp hp;exact(hr _ (gj hj).1).1
 have nl1:∀a b,ik (.J0 a b)=Ξ:=fun _ _=>rfl;have nl2:∀a,ik (.sset a)=Ξ:=fun _=>rfl;have nl3:∀a,ik (.JE a)=Ξ:=fun _=>rfl;have v1:vars (.J0 (.v 4) (.bin .add (.sl (.v 4) (Δ (.c (.int 1))) Φ) (.lst [(.c (.int 10007))])))=[4,4]:=rfl;have v2:∀a,vars (.sset a)=vars a:=fun _=>rfl;have v3:∀a,vars (.JE a)=vars a:=fun _=>rfl;have v4:∀G fr t s i e,vars (.comp G fr t s i e)=fr++jD s:=fun _ _ _ _ _ _=>rfl;have v5:jD (.val (.v 4))=[4]:=rfl;have v6:jD (.II (.bi .len [(.v 2)]))=[2]:=rfl;have eus:gW (us.map D.int)=Θ:=Ev.rM us;have gz:∀x y:List D,sD (.lst Ξ x) (.lst Θ y)=HB (iS (ju x y).length) (.ok (.lst Θ (ju x y))):=fun _ _=>rfl;have lap:iS ((jj (xs.map D.int) (Δ 1) Φ).length+1)=Θ:=Ev.lN (by omega);have lfs:iV fs.length=Θ:=Ev.lP (by omega);have lrn:(ij 0 (fs.length:Int)).length=fs.length:=by rw[kW];omega
 have lfr:∀al:Al,al.map (·.1)=fs->gW (al.map SQ)=Ξ:=fun al h=>by
  cases al with
  |nil=>rw[<- h]at Zq;exact absurd Zq (by decide)
  |cons=>rfl
 have tl:∀ys:List (Int×Int),ys.length<=10->(∀p∈ys,p.1<=p.2)->∃(al:Al) (fr:List (Int×Int)),ia (aY T (n+1)) We [Δ (.lst Ξ (ns.map .int)),Δ (.int k),Δ (.lst Ξ (fs.map .str)),Δ (.int pl),Δ (.lst Ξ (xs.map .int)),Δ (.lst Ξ (ys.map IC)),Φ,Φ,Φ,Φ,Φ]=.ok (.rt (.tup [.lst Θ (al.map LB),.lst Ξ (fr.map IC)]))/\al.map (·.1)=fs/\(∀p∈al,p.2.length<=20)/\Rn 20 fr:=fun ys hy Qr=>by obtain⟨rs,c7,c8,c9,Jq,e,hl,hr⟩:=main ys hy Qr (Δ (.lst Ξ (xs.map .int)));obtain⟨al,fr,fm3,hi,h1,h2,h3⟩:=fin rs hl hr;refine⟨al,fr,?_,h1,h2,h3⟩;have ea:=DV al;have lfa:=lfr al h1;have Xw:=i7 fr;have lzl:(ys.map IC).length=ys.length:=g_ _;have ez:=i7 ys;clear main fin Zr Ug;unfold We;generalize ns.map D.int=NS,fs.map D.str=FS,xs.map D.int=XS,ys.map IC=ZS,rs.map JF=RS,al.map SQ=AT,al.map LB=AD,fr.map IC=FR,Qj=tal at *;simp -implicitDefEqProofs (disch:=omega) only[Ih,Nat.reduceBEq,Nat.reduceSub,Nat.reduceAdd,reduceIte,Ev.HX,Ev.HY,Ev.eL,Ev.eM,↓Ev.Ic,↓Ev.Ie,↓Ev.Ig,Ev.H0,Ev.Ia,Ev.Ib,cond_true,cond_false,b_,List.map_nil,c_,List.nil_append,Bool.true_or,Bool.false_or,Ev.gE,Ev.gF,Ev.gG,Ev.gH,Ev.gJ,Ev.gK,Ev.ff,Ev.fg,Ev.gQ,Ev.gU,Ev.cU,Ev.aV,Ev.fA,Ev.fB,Ev.cV,Ev.cW,Ev.fy,Ev.cX,Ev.ba,Ev.dw,Ev.aA,Ev.bc,Ev.bf,Ev.bg,Ev.dz,Ev.aC,Ev.bo,Ev.bq,Ev.dB,Ev.aD,Ev.br,Ev.aE,Ev.bt,Ev.bu,Ev.bw,Ev.bx,Ev.bA,Ev.dH,Ev.aF,Ev.bC,Ev.aG,Ev.aH,Ev.aI,Ev.bK,Ev.bL,Ev.aJ,Ev.aK,Ev.dM,Ev.dN,Ev.bP,Ev.aM,Ev.aN,Ev.aO,Ev.ae,Ev.ao,Ev.aP,Ev.bX,Ev.dZ,Ev.d6,Ev.bY,Ev.eh,Ev.ek,Ev.cb,Ev.cf,Ev.cv,Ev.cx,Ev.cz,Ev.cA,Ev.cB,Ev.eB,Ev.eC,Ev.cC,Ev.aR,Ev.cD,Ev.aT,Ev.cG,Ev.dg,Ev.dt,Ev.HG,Ev.HJ,Ev.HK,Ev.du,Ev.dv,Ev.bb,Ev.dy,Ev.aB,Ev.dA,Ev.fE,Ev.dC,Ev.dD,Ev.dE,Ev.dF,Ev.dG,Ev.fF,Ev.bB,Ev.fG,Ev.fH,Ev.fI,Ev.fJ,Ev.fK,Ev.bD,Ev.bE,Ev.bF,Ev.fL,Ev.bG,Ev.bH,Ev.bJ,Ev.dI,Ev.dJ,Ev.bM,Ev.fM,Ev.fN,Ev.bN,Ev.fO,Ev.fP,Ev.fQ,Ev.fR,Ev.aL,Ev.fS,Ev.aj,Ev.ak,Ev.bQ,Ev.dO,Ev.dP,Ev.dQ,Ev.fT,Ev.fU,Ev.fV,Ev.HL,Ev.HF,Ev.Hr,Ev.Ht,Ev.Hu,Ev.Hd,Ev.HM,Ev.dR,Ev.dS,Ev.dU,Ev.dW,Ev.dX,Ev.fW,Ev.fX,Ev.bR,Ev.bT,Ev.bU,Ev.He,Ev.bV,Ev.dY,Ev.bW,Ev.fY,Ev.fZ,Ev.aQ,Ev.bZ,Ev.HN,Ev.HP,Ev.HQ,Ev.HR,Ev.Hf,Ev.cg,Ev.ck,Ev.cq,Ev.cu,Ev.cw,Ev.Hg,Ev.cy,Ev.Hh,Ev.Hl,Ev.Hk,Ev.Hv,Ev.Hm,Ev.Ha,Ev.Hb,Ev.C',Ev.f6,Ev.f7,Ev.eE,Ev.eF,Ev.eG,Ev.eI,Ev.dq,Ev.de,Ev.dh,Ev.f9,Ev.gb,Ev.eJ,Ev.eK,Ev.eN,Ev.aZ,Ev.cE,Ev.eO,Ev.cF,Ev.eP,Ev.gc,Ev.gf,Ev.gh,Ev.gk,Ev.gm,Ev.gq,Ev.gu,Ev.gA,Ev.gB,Ev.gC,Ev.gD,Ev.eQ,Ev.HU,Ev.HV,Ev.HW,Ev.cH,Ev.cJ,Ev.eS,Ev.eU,Ev.eV,Ev.cK,Ev.cL,Ev.aU,Ev.aq,Ev.au,Ev.eW,Ev.cM,Ev.cN,Ev.cO,Ev.cP,Ev.av,Ev.aw,Ev.ax,Ev.ay,Ev.az,Ev.af,Ev.ag,Ev.ah,Ev.ai,Ev.aa,Ev.fq,Ev.ft,Ev.fu,Ev.fw,Ev.fx,Ev.cQ,Ev.cR,Ev.cS,Ev.cT,Ev.gM,Ev.gP,Ev.gR,Ev.aW,Ev.cY,Ev.fC,Ev.aX,Ev.cZ,ei,ef,Qp,ez,v4,v6,lfs,lrn,e,fm3,hi,ea,lfa,Xw,lzl]
 have hd:ia (aY T (n+1)) R3 [Δ (.lst Ξ (ns.map .int)),Δ (.int k),Δ (.lst Ξ (fs.map .str)),Δ (.int pl),Φ,Φ,Φ,Φ,Φ,Φ,Φ]=ia (aY T (n+1)) RP [Δ (.lst Ξ (ns.map .int)),Δ (.int k),Δ (.lst Ξ (fs.map .str)),Δ (.int pl),Δ (.lst Ξ (xs.map .int)),Δ (.lst Ξ (zs.map IC)),Φ,Φ,Φ,Φ,Φ]:=by unfold R3;clear main fin tl;have lw2:iV (m.toNat+1+1+1)=Θ:=Ev.lP (by omega);generalize ns.map D.int=NS,fs.map D.str=FS,us.map D.int=US,ws.map D.int=WS,xs.map D.int=XS,(jc m).map D.int=JS,zs.map IC=ZS,RP=ta at *;simp![ei,ef,Qp,d1,rn,ln,Zr,lus,Ug,Qq,P7,ews,hz,lzs,ez,nl1,nl2,v1,v2,v4,v5,eus,gz,lap]
 have hc:HA (aY T (n+1)) Wd [Δ (.lst Ξ (ns.map .int)),Δ (.int k),Δ (.lst Ξ (fs.map .str)),Δ (.int pl),Δ (.lst Ξ (xs.map .int)),Δ (.lst Ξ (zs.map IC)),Φ,Φ,Φ,Φ,Φ]=.ok (.bl (w == 0)):=by clear main fin tl hd;unfold Wd;generalize ns.map D.int=NS,fs.map D.str=FS,xs.map D.int=XS,zs.map IC=ZS at *;simp![ei,d3]
 have Xx:∃(al:Al) (fr:List (Int×Int)),ia (aY T (n+1)) RP [Δ (.lst Ξ (ns.map .int)),Δ (.int k),Δ (.lst Ξ (fs.map .str)),Δ (.int pl),Δ (.lst Ξ (xs.map .int)),Δ (.lst Ξ (zs.map IC)),Φ,Φ,Φ,Φ,Φ]=.ok (.rt (.tup [.lst Θ (al.map LB),.lst Ξ (fr.map IC)]))/\al.map (·.1)=fs/\(∀p∈al,p.2.length<=20)/\Rn 20 fr:=by
  unfold RP;cases hw:(w == 0) with
  |false=>rw[hw]at hc;rw[sk hc];exact tl zs (by omega) Qr
  |true=>
   rw[hw]at hc;rw[SN hc (τ':=[Δ (.lst Ξ (ns.map .int)),Δ (.int k),Δ (.lst Ξ (fs.map .str)),Δ (.int pl),Δ (.lst Ξ (xs.map .int)),Δ (.lst Ξ (zs.reverse.map IC)),Φ,Φ,Φ,Φ,Φ]) ?_]
   ·exact tl zs.reverse (by rw[List.length_reverse];omega) (fun p hp=>Qr p (List.mem_reverse.mp hp))
   have ezz:=i7 zs.reverse;rw[<- List.map_reverse]at ezr;have erv:(zs.map IC).reverse=zs.reverse.map IC:=(List.map_reverse).symm;clear main fin tl hd hc;generalize ns.map D.int=NS,fs.map D.str=FS,xs.map D.int=XS,zs.reverse.map IC=ZR,zs.map IC=ZS at *;simp![ez,nl3,v3,ezz,erv]
 obtain⟨al,fr,e,h1⟩:=Xx;refine⟨al,fr,?_,h1⟩;rw[gx 48 WR 4 11 R3 rfl rfl rfl rfl rfl rfl];unfold R3;exact congrArg (fun r=>Hn r _) (hd.trans e)
theorem rR (n:Nat){xs:List Nat}(h:Tx xs){l:Int}(hl:l<=xs.length):aY T (n+1) 25 [.str (Hz xs),.str "abcdefghijklmnopqrstuvwxyz0123456789",.int l,.int 8]=.ok (.bl Θ):=by
 rw[gx 25 RV 4 4 Ph rfl rfl rfl rfl rfl rfl];unfold Ph;obtain⟨h2,h3⟩:=h;have e1:g9 (ie (aY T n) (.nm 1) [] (.cmp .K8 (.v 1) (.v 0)) [Δ (.str "abcdefghijklmnopqrstuvwxyz0123456789"),Φ]) (jq (Hz xs))=.ok ((xs.map fun c=>Θ).map .bl):=by rw[jN,y_];refine Ev.iB (fun c:Nat=>D.str (one c)) (fun c=>Θ) .bl _ fun c hc=>?_;have:mP "abcdefghijklmnopqrstuvwxyz0123456789" (one c)=Θ:=h3 c hc;simp![this]
 have ea:(xs.map fun _=>Θ).all id=Θ:=by rw[List.all_map];simp
 have lc:(jq (Hz xs)).length=xs.length:=by rw[jN,g_,g_]
 have d1:decide (l<=(xs.length:Int))=Θ:=u_ hl;have d2:decide ((xs.length:Int)<=8)=Θ:=u_ (by omega);have sl:=iO xs;simp![d1,d2,e1,ea,lc,sl]
theorem oE (n:Nat){xs:List Nat}(h:Tx xs){l:Int}(hl:l<=xs.length):aY T (n+2) 33 [.str (Hz xs),.int l]=.ok (.bl Θ):=by have e:=rR n h hl;rw[gx 33 T9 2 2 RX rfl rfl rfl rfl rfl rfl];unfold RX;simp![e]
theorem AK (n:Nat)(z:Int):aY T (n+2) 33 [.int z,.int 0]=.ok (.bl Ξ):=by
 have e:aY T (n+1) 25 [.int z,.str "abcdefghijklmnopqrstuvwxyz0123456789",.int 0,.int 8]=.ok (.bl Ξ):=by rw[gx 25 RV 4 4 Ph rfl rfl rfl rfl rfl rfl];unfold Ph;simp![Ih]
 rw[gx 33 T9 2 2 RX rfl rfl rfl rfl rfl rfl];unfold RX;simp![e]
theorem qK (n:Nat)  (h:Nb z):aY T (n+2) 34 [.int z]=.ok (.bl Θ):=by
 have e:aY T (n+1) 32 [.int z]=.ok (.bl Θ):=by rw[gx 32 Wg 1 1 Wf rfl rfl rfl rfl rfl rfl];unfold Wf;simp![Ih]
 have d:decide ((if z < 0 then -z else z)<=999999999)=Θ:=u_ (by have:=h.1;have:=h.2;split<;>omega);rw[gx 34 Wi 1 1 Wh rfl rfl rfl rfl rfl rfl];unfold Wh;simp![e,d]
theorem AM (n:Nat){ts:List Tn}(h:∀t∈ts,Tv t):g9 (ie (aY T (n+2)) (.nm 0) [] (.KZ (.call 33 [(.v 0),(.c (.int 0))]) (.call 34 [(.v 0)])) [Φ]) (ts.map Tn.d)=.ok ((ts.map fun _=>Θ).map .bl):=by
 refine Ev.iB Tn.d (fun _=>Θ) .bl ts fun t ht=>?_;have tv:=h t ht;cases t with
 |i z=>have e1:=AK n z;have e2:=qK n tv;unfold Tn.d;simp![e1,e2]
 |s x=>obtain⟨xs,rfl,tx⟩:=tv;have e1:=oE n tx (l:=0) (by omega);unfold Tn.d;simp![e1]
theorem DY (n:Nat){ts:List Tn}(h:∀t∈ts,∃xs,t=.s (Hz xs)/\1<=xs.length/\Tx xs):g9 (ie (aY T (n+2)) (.nm 0) [] (.call 33 [(.v 0),(.c (.int 1))]) [Φ]) (ts.map Tn.d)=.ok ((ts.map fun _=>Θ).map .bl):=by refine Ev.iB Tn.d (fun _=>Θ) .bl ts fun t ht=>?_;obtain⟨xs,rfl,h1,tx⟩:=h t ht;have e1:=oE n tx (l:=1) (by omega);unfold Tn.d;simp![e1]
theorem yn (ts:List Tn):HC (ts.map Tn.d)=ts.map Tn.d:=by rw[hW,y_];exact X_ fun t _=>FV t
theorem uV (n:Nat)  (v:Vc gn c):aY T (n+3) 35 [.str c.w,.lst Ξ (c.ts.map Tn.d)]=.ok (.bl Θ):=by
 obtain⟨m,w,ts⟩:=c;have len:ts.length<=2:=v.len;have va:=v.a;have vb:=v.b;have vl:=v.l;have vo:=v.o;have ll:(ts.map Tn.d).length=ts.length:=g_ _;have ea:(ts.map fun _=>Θ).all id=Θ:=by rw[List.all_map];simp
 have et:=yn ts;have lb:gW ((ts.map fun _=>Θ).map D.bl)=Θ:=by rw[iR,List.all_map];exact W_.mpr fun _ _=>rfl
 have d2:decide ((ts.length:Int)<=10)=Θ:=u_ (by omega);show aY T (n+3) 35 [.str w,.lst Ξ (ts.map Tn.d)]=_;simp only at va vb vl vo;generalize MV:((w == Ρ "is")||(w == Ρ "not"))=q1 at *;generalize Np:(w == Ρ "begins")=q2 at *;generalize SR:((w == Ρ "least")||(w == Ρ "most"))=q3 at *;cases q1 with
 |true=>
  obtain⟨h1,h2⟩:=va rfl;have fm:=AM n h2;have d1:decide ((1:Int)<=(ts.length:Int))=Θ:=u_ (by omega);rw[gx 35 Ql 2 3 NK rfl rfl rfl rfl rfl rfl];unfold NK;cases q0:(w == Ρ "is") with
  |true=>simp![q0,et,fm,ll,d1,d2,ea,lb]
  |false=>rw[q0]at MV;have MV:(w == Ρ "not")=Θ:=MV;simp![q0,MV,et,fm,ll,d1,d2,ea,lb]
 |false=>
  obtain⟨a1,a2⟩:=Bool.or_eq_false_iff.mp MV;cases q2 with
  |true=>obtain⟨h1,h2⟩:=vb rfl;have fm:=DY n h2;have d1:decide ((1:Int)<=(ts.length:Int))=Θ:=u_ (by omega);rw[gx 35 Ql 2 3 NK rfl rfl rfl rfl rfl rfl];unfold NK;simp![a1,a2,Np,et,fm,ll,d1,d2,ea]
  |false=>
   cases q3 with
   |true=>
    obtain⟨z,rfl,nz⟩:=vl rfl;have e:=qK n nz;have x0:ir (.lst Ξ [.int z]) (.int 0)=.ok (.int z):=rfl;have u1:(((1:Nat):Int) == 1)=Θ:=rfl;show aY T (n+3) 35 [.str w,.lst Ξ [.int z]]=_;rw[gx 35 Ql 2 3 NK rfl rfl rfl rfl rfl rfl];unfold NK;cases q0:(w == Ρ "least") with
    |true=>simp![a1,a2,Np,q0,x0,u1,e]
    |false=>rw[q0]at SR;have SR:(w == Ρ "most")=Θ:=SR;simp![a1,a2,Np,q0,SR,x0,u1,e]
   |false=>obtain⟨b1,b2⟩:=Bool.or_eq_false_iff.mp SR;have:=vo rfl rfl rfl;subst this;show aY T (n+3) 35 [.str w,.lst Ξ []]=_;rw[gx 35 Ql 2 3 NK rfl rfl rfl rfl rfl rfl];unfold NK;simp![a1,a2,Np,b1,b2]
theorem oF (w:Str):∀ws:List Str,Jc (.str w) (ws.map .str)=.ok (decide (w∈ws))
 |[]=>rfl
 |x::ws=>by show Hn (.ok (x == w)) (fun a=>Hn (Jc (.str w) (ws.map .str)) fun b=>.ok (a||b))=_;rw[oF w ws];show(Except.ok (x == w||decide (w∈ws)):Res Bool)=_;congr 1;rw[Bool.eq_iff_iff];simp only[aaf,beq_iff_eq,decide_eq_true_eq,k_];exact⟨fun h=>h.imp Eq.symm id,fun h=>h.imp Eq.symm id⟩
theorem F6 (o:Bool)(w:Str)(ws:List Str):Jw .K8 (.str w) (.lst o (ws.map .str))=.ok (decide (w∈ws)):=oF w ws
theorem BA (o:Bool)(w:Str)(ws:List Str):Jw .Ko (.str w) (.lst o (ws.map .str))=.ok (!decide (w∈ws)):=by show Hn (Jc (.str w) (ws.map .str)) _=_;rw[oF w ws];rfl
theorem qL (n:Nat)  (v:Vc gn c)(o:Bool):aY T (n+4) 36 [c.d,.lst o (gn.map .str)]=.ok (.bl Θ):=by
 have e:=uV n v;have Lj:=yn c.ts;have x0:ir c.d (.int 0)=.ok (.str c.m):=rfl;have x1:ir c.d (.int 1)=.ok (.str c.w):=rfl;have x2:ir c.d (.int 2)=.ok (.lst Ξ (c.ts.map Tn.d)):=rfl;have n1:Jc (.str c.w) [.str "is",.str "not",.str "begins",.str "least",.str "most",.str "has",.str "lacks",.str "in",.str "out"]=.ok Θ:=by show Jc (.str c.w) (W9.map .str)=_;rw[oF,u_ v.w]
 have n2:=BA o c.m gn;have vg:=v.g;unfold Le at vg;have ec:=kU c;generalize c.d=C,c.ts.map Tn.d=TS,c.w=w at *;cases q1:(w == Ρ "in") with
 |true=>rw[q1]at vg;rw[u_ (vg rfl)]at n2;rw[gx 36 RY 2 4 Pj rfl rfl rfl rfl rfl rfl];unfold Pj;simp![x0,x1,x2,n1,n2,q1,Lj,e]
 |false=>
  rw[q1]at vg;cases q2:(w == Ρ "out") with
  |true=>rw[q2]at vg;rw[u_ (vg rfl)]at n2;rw[gx 36 RY 2 4 Pj rfl rfl rfl rfl rfl rfl];unfold Pj;simp![x0,x1,x2,n1,n2,q1,q2,Lj,e]
  |false=>rw[gx 36 RY 2 4 Pj rfl rfl rfl rfl rfl rfl];unfold Pj;simp![x0,x1,x2,n1,q1,q2,Lj,e]
noncomputable def Uh:List IS:=[(.IT (.cmp .le (.v 2) (.v 1)) [.never] []),(.IT (.KZ (.cmp .lt (.v 3) (.c (.int 0))) (.cmp .gt (.v 3) (.g 23 (.int 10007)))) [.never] []),(.asg (.nm 1) (.v 2))]
theorem tW (cl:Nat->List D->Res D)(a:Option D):∀(sg:List (Int×Int)) (d:Int) (b c:Option D),Sg d sg->∃x y z,forM (Ev.turn cl (.tp [(.nm 2),(.nm 3)]) Uh) (sg.map IC) [a,Δ (.int d),b,c]=.ok (.nx [a,x,y,z])
 |[],d,b,c,_=>⟨_,b,c,rfl⟩
 |p::sg,d,b,c,h=>by
  obtain⟨h1,h2,h3,h4⟩:=h;have e1:decide (p.1<=d)=Ξ:=G_ (by omega);have e2:decide (p.2 < 0)=Ξ:=G_ (by omega);have e3:decide ((10007:Int) < p.2)=Ξ:=G_ (by omega);have et:Ev.turn cl (.tp [(.nm 2),(.nm 3)]) Uh (IC p) [a,Δ (.int d),b,c]=.ok (.nx [a,Δ (.int p.1),Δ (.int p.1),Δ (.int p.2)]):=by unfold Uh IC;simp![Ev.gY,e1,e2,e3]
  rw[b_,Ev.de,et];exact tW cl a sg p.1 _ _ h4
theorem rS (n:Nat){sg:List (Int×Int)}(h:Sg (-1) sg):aY T (n+1) 37 [.lst Ξ (sg.map IC)]=.ok (.bl Θ):=by obtain⟨x,y,z,e⟩:=tW (aY T n) (Δ (.lst Ξ (sg.map IC))) sg (-1) Φ Φ h;have ep:=i7 sg;unfold Uh at e;rw[gx 37 Wm 1 4 Wl rfl rfl rfl rfl rfl rfl];unfold Wl;generalize sg.map IC=SG at *;simp![ep,e]
theorem qM (n:Nat){o:Oc}(h:∀f sg,o=.share f sg->sg.length<=3/\Sg (-1) sg):aY T (n+2) 38 [o.d]=.ok .IB:=by
 have n1:∀w:Str,w∈[Ρ "face",Ρ "share",Ρ "lot"]->Jc (.str w) [.str "face",.str "share",.str "lot"]=.ok Θ:=fun w hw=>by show Jc (.str w) ([Ρ "face",Ρ "share",Ρ "lot"].map .str)=_;rw[oF,u_ hw]
 cases o with
 |face f=>
  have n1:=n1 (Ρ "face") (by simp);have x0:ir (Oc.d (.face f)) (.int 0)=.ok (.str "face"):=rfl;have eo:=yg (.face f);have q:(Ρ "face" == Ρ "share")=Ξ:=by decide +kernel
  generalize Oc.d (.face f)=O at *;rw[gx 38 RZ 1 1 Pk rfl rfl rfl rfl rfl rfl];unfold Pk;simp![x0,n1,q]
 |share f sg=>have n1:=n1 (Ρ "share") (by simp);have x0:ir (Oc.d (.share f sg)) (.int 0)=.ok (.str "share"):=rfl;have x2:ir (Oc.d (.share f sg)) (.int 2)=.ok (.lst Ξ (sg.map IC)):=rfl;have e:=rS n (h f sg rfl).2;have ep:=i7 sg;generalize Oc.d (.share f sg)=O,sg.map IC=SG at *;rw[gx 38 RZ 1 1 Pk rfl rfl rfl rfl rfl rfl];unfold Pk;simp![x0,x2,n1,ep,e]
 |Pr=>have n1:=n1 (Ρ "lot") (by simp);have x0:ir (Oc.d .Pr) (.int 0)=.ok (.str "lot"):=rfl;generalize Oc.d .Pr=O at *;rw[gx 38 RZ 1 1 Pk rfl rfl rfl rfl rfl rfl];unfold Pk;simp![x0,n1,l_s]
noncomputable def KG (salt rest:Str)(rs:List Rl)(al:Al)(fr:List (Int×Int)):D:=.tup [.str salt,.str rest,.lst Ξ (rs.map Rl.d),Qm al fr]
theorem rT (salt rest:Str)(rs:List Rl)(al:Al)(fr:List (Int×Int)):er (KG salt rest rs al fr)=KG salt rest rs al fr:=by show D.tup [.str salt,.str rest,.lst Ξ (HC (rs.map Rl.d)),er (Qm al fr)]=_;rw[rP,FY];rfl
noncomputable def Qs:List IS:=[(.exp (.call 36 [(.v 4),(.v 0)]))]
noncomputable def SU:List IS:=[(.IL (.nm 4) (.val (.v 2)) Qs),(.exp (.call 38 [(.v 3)]))]
theorem tX (n:Nat)  (a1 a2 a3:Option D):∀(cs:List Cn) (b:Option D),(∀c∈cs,Vc gn c)->∃x,forM (Ev.turn (aY T (n+4)) (.nm 4) Qs) (cs.map Cn.d) [Δ (.lst Ξ (gn.map .str)),a1,a2,a3,b]=.ok (.nx [Δ (.lst Ξ (gn.map .str)),a1,a2,a3,x])
 |[],b,_=>⟨b,rfl⟩
 |c::cs,b,h=>by
  have e:=qL n (h c (.head _)) Ξ;have ec:=kU c;have eg:=Ev.g8 gn;have et:Ev.turn (aY T (n+4)) (.nm 4) Qs c.d [Δ (.lst Ξ (gn.map .str)),a1,a2,a3,b]=.ok (.nx [Δ (.lst Ξ (gn.map .str)),a1,a2,a3,Δ c.d]):=by unfold Qs;generalize c.d=C,gn.map D.str=GN at *;simp![Ev.gY,ec,eg,e]
  rw[b_,Ev.de,et];exact tX n a1 a2 a3 cs _ fun x hx=>h x (.tail _ hx)
def Vr (gn:List Str)(rs:List Rl):Prop:=∀r∈rs,(∀c∈r.cs,Vc gn c)/\r.cs.length<=2/\∀f sg,r.o=.share f sg->sg.length<=3/\Sg (-1) sg
theorem tY (n:Nat)  (a1:Option D):∀(rs:List Rl) (a b c:Option D),Vr gn rs->∃x y z,forM (Ev.turn (aY T (n+4)) (.tp [(.nm 2),(.nm 3)]) SU) (rs.map Rl.d) [Δ (.lst Ξ (gn.map .str)),a1,a,b,c]=.ok (.nx [Δ (.lst Ξ (gn.map .str)),a1,x,y,z])
 |[],a,b,c,_=>⟨a,b,c,rfl⟩
 |r::rs,a,b,c,h=>by
  obtain⟨h1,h2,h3⟩:=h r (.head _);have e:=qM (n+2) h3;obtain⟨x,e2⟩:=tX n (gn:=gn) a1 (Δ (JI r.cs)) (Δ r.o.d) r.cs c h1;have eo:=yg r.o;have ew:=qI r.cs;have ew2:HC (r.cs.map Cn.d)=r.cs.map Cn.d:=by have:D.lst Ξ (HC (r.cs.map Cn.d))=.lst Ξ (r.cs.map Cn.d):=ew;injection this
  have et:Ev.turn (aY T (n+4)) (.tp [(.nm 2),(.nm 3)]) SU r.d [Δ (.lst Ξ (gn.map .str)),a1,a,b,c]=.ok (.nx [Δ (.lst Ξ (gn.map .str)),a1,Δ (JI r.cs),Δ r.o.d,x]):=by show Ev.turn (aY T (n+4)) (.tp [(.nm 2),(.nm 3)]) SU (.tup [JI r.cs,r.o.d]) [Δ (.lst Ξ (gn.map .str)),a1,a,b,c]=_;unfold SU;unfold JI at *;generalize r.o.d=O,r.cs.map Cn.d=CS,gn.map D.str=GN,Qs=tsi at *;simp![Ev.gY,eo,ew,ew2,e,e2]
  rw[b_,Ev.de,et];exact tY n a1 rs _ _ _ fun x hx=>h x (.tail _ hx)
theorem nt (n:Nat)  (hc:Sl cs)(rest:Str)  (al:Al)(fr:List (Int×Int))(v:Vr gn rs):aY T (n+5) 39 [.lst Ξ (gn.map .str),KG (Hz cs) rest rs al fr]=.ok (.bl Θ):=by have e1:=nj (n+2) hc;obtain⟨x,y,z,e2⟩:=tY n (gn:=gn) (Δ (KG (Hz cs) rest rs al fr)) rs Φ Φ Φ v;have x0:ir (KG (Hz cs) rest rs al fr) (.int 0)=.ok (.str (Hz cs)):=rfl;have x2:ir (KG (Hz cs) rest rs al fr) (.int 2)=.ok (.lst Ξ (rs.map Rl.d)):=rfl;have Lj:=rP rs;have Xp:=rT (Hz cs) rest rs al fr;unfold SU Qs at e2;rw[gx 39 Wo 2 5 Wn rfl rfl rfl rfl rfl rfl];unfold Wn;generalize KG (Hz cs) rest rs al fr=SW,rs.map Rl.d=RS,gn.map D.str=GN,Hz cs=SC at *;simp![x0,x2,Lj,Xp,e1,e2]
theorem rV (n:Nat){o:Bool}{x:Str}{xs:List Str}(h:x∉xs):aY T (n+1) 40 [.str x,.lst o (xs.map .str)]=.ok .IB:=by
 have e:Jw .K8 (.str x) (.lst o (xs.map .str))=.ok Ξ:=by rw[F6,G_ h]
 rw[gx 40 Wr 2 2 Wq rfl rfl rfl rfl rfl rfl];unfold Wq;simp![e]
theorem qN (n:Nat){o:Bool}{x:Str}{xs:List Str}(h:x∈xs):aY T (n+1) 41 [.str x,.lst o (xs.map .str)]=.ok .IB:=by
 have e:Jw .Ko (.str x) (.lst o (xs.map .str))=.ok Ξ:=by rw[BA,u_ h];rfl
 rw[gx 41 Wt 2 2 Ws rfl rfl rfl rfl rfl rfl];unfold Ws;simp![e]
theorem uW (n:Nat)  (v:Vc [] c)(h:Le c.w=Ξ):aY T (n+5) 42 [c.d]=.ok .IB:=by
 have e:aY T (n+4) 36 [c.d,.lst Ξ []]=.ok (.bl Θ):=qL n v Ξ;have x1:ir c.d (.int 1)=.ok (.str c.w):=rfl;have ec:=kU c;have h2:=Bool.or_eq_false_iff.mp (show((c.w == Ρ "in")||(c.w == Ρ "out"))=Ξ from h);have n1:Jc (.str c.w) [.str "in",.str "out"]=.ok Ξ:=by
  show Jc (.str c.w) ([Ρ "in",Ρ "out"].map .str)=_;rw[oF,G_];intro hm;rcases k_.mp hm with hm|hm
  ·rw[hm]at h2;exact absurd h2.1 (by decide +kernel)
  ·rw[o_.mp hm]at h2;exact absurd h2.2 (by decide +kernel)
 generalize c.d=C,c.w=w at *;rw[gx 42 Wv 1 1 Wu rfl rfl rfl rfl rfl rfl];unfold Wu;simp![x1,n1,ec,e]
theorem rW {α:Type}{g:D->Res (Option D)}(LX:α->D)(p:α->Bool)(out:α->D):∀xs:List α,(∀x∈xs,g (LX x)=.ok (if p x=Θ then Δ (out x) else Φ))->g9 g (xs.map LX)=.ok ((xs.filter p).map out)
 |[],_=>rfl
 |x::xs,h=>by
  have ih:=rW LX p out xs fun y hy=>h y (K_ _ hy);rw[b_,List.filter_cons];show Hn (g (LX x)) _=_;rw[h x (.head _)];cases p x with
  |true=>show Hn (g9 _ _) _=_;rw[ih];rfl
  |false=>exact ih
abbrev Ps:=List (Str×Str)
noncomputable def pD (p:Str×Str):D:=.tup [.str p.1,.str p.2]
structure Sw where
 nm:Str
 sw:D
 nd:Ps
 st:Bool
noncomputable def eD (q:Sw):D:=.tup [q.sw,.lst Ξ (q.nd.map pD),.bl q.st]
noncomputable def wD (q:Sw):D:=.tup [.str q.nm,eD q]
noncomputable def IW (L:List Sw):List Str:=L.map (·.nm)
structure Good (L:List Sw):Prop where
 nd:(IW L).Nodup
 J6:∀q∈L,∀p∈q.nd,p.1∈IW L
 len:L.length<=20
 Ui:∀q∈L,q.nd.length<=3
 es:∀q∈L,er q.sw=q.sw
theorem DZ (ps:Ps):gW (ps.map pD)=Θ:=by rw[iR,List.all_map,W_];intro p _;rfl
theorem yo (ps:Ps):HC (ps.map pD)=ps.map pD:=iE (DZ ps)
theorem D3 (h:er q.sw=q.sw):er (eD q)=eD q:=by show D.tup [er q.sw,.lst Ξ (HC (q.nd.map pD)),.bl q.st]=_;rw[yo,h];rfl
theorem G7 (h:er q.sw=q.sw):er (wD q)=wD q:=by show D.tup [.str q.nm,er (eD q)]=_;rw[D3 h];rfl
theorem tZ (h:Good L):HC (L.map wD)=L.map wD:=by rw[hW,y_];exact X_ fun q hq=>G7 (h.es q hq)
theorem pI (L:List Sw):(IW L).length=L.length:=g_ _
theorem F7 (q:Sw):ir (eD q) (.int 0)=.ok q.sw:=rfl
theorem BB (q:Sw):ir (eD q) (.int 1)=.ok (.lst Ξ (q.nd.map pD)):=rfl
noncomputable def SV:List IS:=[(.exp (.call 41 [(.v 6),(.v 2)]))]
noncomputable def Xy:List IS:=[(.exp (.call 40 [(.v 4),(.v 3)])),(.app 3 (.v 4)),(.exp (.call 39 [(.v 1),(.idx (.v 5) (.c (.int 0)))])),(.IL (.tp [(.nm 6),(.nm 7)]) (.val (.idx (.v 5) (.c (.int 1)))) SV)]
theorem AN (n:Nat){xs:List Str}{ps:Ps}(h:∀p∈ps,p.1∈xs)(a b c d e x6 x7:Option D):∃y6 y7,forM (Ev.turn (aY T (n+5)) (.tp [(.nm 6),(.nm 7)]) SV) (ps.map pD) [a,b,Δ (.lst Ξ (xs.map .str)),c,d,e,x6,x7]=.ok (.nx [a,b,Δ (.lst Ξ (xs.map .str)),c,d,e,y6,y7]):=by
 obtain⟨τ',e1,y6,y7,rfl⟩:=Ev.iG (body:=Ev.turn (aY T (n+5)) (.tp [(.nm 6),(.nm 7)]) SV) (its:=ps.map pD) (τ:=[a,b,Δ (.lst Ξ (xs.map .str)),c,d,e,x6,x7])
  (fun _ τ=>∃y6 y7,τ=[a,b,Δ (.lst Ξ (xs.map .str)),c,d,e,y6,y7]) ⟨x6,x7,rfl⟩ (by
   rintro i x τ hx ⟨z6,z7,rfl⟩;rw[A_]at hx;obtain⟨p,hp,rfl⟩:=aag.mp hx;have t:=qN (n+4) (o:=Ξ) (h p (J_ hp));refine⟨_,?_,Δ (.str p.1),Δ (.str p.2),rfl⟩;have Lj:=iE (ds:=xs.map D.str) (Ev.jL _);unfold SV pD
   simp![Ev.gY,t,Lj])
 exact⟨y6,y7,e1⟩
theorem D4 (n:Nat)  (h:Good L)  (hg:er gn=gn)(OH:∀q∈L,aY T (n+5) 39 [gn,q.sw]=.ok (.bl Θ)):aY T (n+6) 61 [.lst Ξ (L.map wD),gn,.lst Ξ ((IW L).map .str)]=.ok .IB:=by
 obtain⟨τ',e,x4,x5,x6,x7,rfl⟩:=Ev.iG (body:=Ev.turn (aY T (n+5)) (.tp [(.nm 4),(.nm 5)]) Xy) (its:=L.map wD) (τ:=[Δ (.lst Ξ (L.map wD)),Δ gn,Δ (.lst Ξ ((IW L).map .str)),Δ (.lst Θ []),Φ,Φ,Φ,Φ])
  (fun i τ=>∃x4 x5 x6 x7,τ=[Δ (.lst Ξ (L.map wD)),Δ gn,Δ (.lst Ξ ((IW L).map .str)),Δ (.lst Θ (((IW L).take i).map .str)),x4,x5,x6,x7]) ⟨Φ,Φ,Φ,Φ,rfl⟩ (by
   rintro i x τ hx ⟨z4,z5,z6,z7,rfl⟩;rw[A_]at hx;obtain⟨q,hq,rfl⟩:=aag.mp hx;have hi:i < L.length:=(p_.mp hq).1;have hn:(IW L)[i]? = Δ q.nm:=by unfold IW;rw[A_,hq];rfl
   have Me:(IW L).take (i+1)=(IW L).take i++[q.nm]:=by rw[List.take_succ,hn];rfl
   have Ko:q.nm∉(IW L).take i:=fun z=>by have nd:=h.nd;rw[<- List.take_append_drop (i+1) (IW L),Me,H_]at nd;exact(r_.mp nd).2.2 q.nm z q.nm (by simp) rfl
   have t1:=rV (n+4) (o:=Ξ) Ko;have t2:=OH q (J_ hq);obtain⟨y6,y7,e3⟩:=AN n (xs:=IW L) (h.J6 q (J_ hq)) (Δ (.lst Ξ (L.map wD))) (Δ gn) (Δ (.lst Θ (((IW L).take i++[q.nm]).map .str))) (Δ (.str q.nm)) (Δ (eD q)) z6 z7;refine⟨_,?_,Δ (.str q.nm),Δ (eD q),y6,y7,by rw[Me]⟩;have Lj:=iE (ds:=((IW L).take i).map D.str) (Ev.jL _);have i0:=F7 q;have i1:=BB q;have ee:=D3 (h.es q (J_ hq));have ep:=yo q.nd;have hlen:(((IW L).take i).map D.str).length < 16777216:=by rw[g_,O_];have:=h.len;omega
   have Mf:((IW L).take i).map D.str++[D.str q.nm]=((IW L).take i++[q.nm]).map .str:=by rw[C_];rfl
   have es:=h.es q (J_ hq);have hw:wD q=.tup [.str q.nm,eD q]:=rfl;unfold Xy
   simp![Ev.gY,hw,t1,t2,Lj,i0,i1,ee,ep,hlen,Mf,hg,es,e3])
 have lw:=tZ h;unfold Xy SV at e;rw[gx 61 WB 3 8 WA rfl rfl rfl rfl rfl rfl];unfold WA;simp![lw,e]
noncomputable def lV:List Sw->Str->List Str
 |[],_=>[]
 |q::L,x=>if q.nm=x then q.nd.map (·.1) else lV L x
noncomputable def Uj (L:List Sw)(S:List Str)(x:Str):Bool:=(lV L x).any fun y=>decide (y∈S)
noncomputable def sf (L:List Sw)(S:List Str):List Str:=S.filter (Uj L S)
noncomputable def rX (L:List Sw):Nat->List Str->List Str
 |0,S=>S
 |k+1,S=>if sf L S=S then S else rX L k (sf L S)
theorem D5 (h:x∈sf L S):x∈S:=(List.mem_filter.mp h).1
theorem yp (h:sf L S≠S):(sf L S).length < S.length:=by refine Nat.lt_of_le_of_ne (List.length_filter_le _ _) fun z=>h ?_;exact List.filter_eq_self.mpr (List.length_filter_eq_length_iff.mp z)
theorem qO:∀ {k:Nat}{S:List Str},S.length<=k->sf L (rX L k S)=rX L k S
 |0,S,h=>by have:S=[]:=List.length_eq_zero_iff.mp (by omega);subst this;rfl
 |k+1,S,h=>by
  unfold rX;by_cases e:sf L S=S
  ·rw[f_ e];exact e
  ·rw[d_ e];have:=yp e;exact qO (by omega)
noncomputable def dK (L:List Sw):List Key:=(IW L).map Sum.inr
noncomputable def dV (L:List Sw):List D:=L.map fun q=>.lst Ξ ((q.nd.map (·.1)).map .str)
theorem t5:∀ {L:List Sw}{x:Str},x∈IW L->look (dK L) (dV L) (.inr x)=Δ (.lst Ξ ((lV L x).map .str))
 |q::L,x,h=>by
  show(if(Sum.inr q.nm:Key)=.inr x then Δ _ else look (dK L) (dV L) (.inr x))=_;unfold lV;by_cases e:q.nm=x
  ·rw[f_ e,f_ (congrArg _ e)]
  ·rw[d_ e,d_ (fun z=>e (Sum.inr.inj z))];exact t5 ((k_.mp h).resolve_left fun z=>e z.symm)
 |[],x,h=>by simp[IW]at h
theorem yq (xs:List Str):HC (xs.map .str)=xs.map .str:=iE (Ev.jL _)
theorem F8:∀xs ys:List Str,jI (Jn 39) (xs.map .str) (ys.map .str)=.ok (decide (xs=ys))
 |[],[]=>rfl
 |[],y::ys=>rfl
 |x::xs,[]=>rfl
 |x::xs,y::ys=>by show Hn (.ok (x == y)) (fun a=>Hn (jI (Jn 39) (xs.map .str) (ys.map .str)) fun b=>.ok (a&&b))=_;rw[F8 xs ys];show(Except.ok (x == y&&decide (xs=ys)):Res Bool)=_;congr 1;rw[Bool.eq_iff_iff];simp
theorem G8 (xs ys:List Str):Jw .eq (.lst o (xs.map .str)) (.lst o' (ys.map .str))=.ok (decide (xs=ys)):=F8 xs ys
noncomputable def Ob (L:List Sw):D:=.IE Ξ (dK L) (dV L)
theorem D6 (h:∀q∈L,q.nd.length<=3)(x:Str):(lV L x).length<=3:=by
 induction L with
 |nil=>exact Z_ _
 |cons q L ih=>
  unfold lV;by_cases e:q.nm=x
  ·rw[f_ e,g_];exact h q (.head _)
  ·rw[d_ e];exact ih fun p hp=>h p (.tail _ hp)
theorem AO (h:x∈IW L):qg (Ob L) (.str x)=.ok (.lst Ξ ((lV L x).map .str)):=by show(match look (dK L) (dV L) (.inr x) with|some d=>.ok d|none=>Ir:Res D)=_;rw[t5 h]
noncomputable def gI:Gm:={N:=["tied","needed"],kd:=[.cell,.local],gl:=[],df:=Ξ}
noncomputable def cI (f:IR):IR:=.comp gI [1] (.nm 1) (.val (.K9 (.v 0) f)) [] (.cmp .K8 (.v 1) (.v 0))
theorem inner (n:Nat)(o:Bool)(S ys:List Str):g9 (ie (aY T n) (.nm 1) [] (.cmp .K8 (.v 1) (.v 0)) [Δ (.lst o (S.map .str)),Φ]) (ys.map .str)=.ok ((ys.map fun y=>decide (y∈S)).map .bl):=by refine Ev.iB (fun y:Str=>D.str y) (fun y=>decide (y∈S)) .bl _ fun y hy=>?_;have e:=F6 o y S;simp![e]
theorem D7 (p:Str->Bool)(xs:List Str):(xs.map p).any id=xs.any p:=by rw[List.any_map];rfl
theorem outer (n:Nat)  (h:Good L)(o:Bool)  (hS:∀x∈S,x∈IW L):g9 (ie (aY T n) (.nm 2) [(.bi .any [cI (.v 2)])] (.v 2) [Δ (Ob L),Δ (.lst o (S.map .str)),Φ]) (S.map .str)=.ok ((sf L S).map .str):=by
 refine rW (fun x:Str=>D.str x) (Uj L S) D.str S fun x hx=>?_;have e1:=AO (hS x hx);have e2:=inner n o S (lV L x);have hl:=D6 h.Ui x;have hlen:((lV L x).map D.str).length < 16777216:=by rw[g_];omega
 have ea:=D7 (fun y=>decide (y∈S)) (lV L x);have es:(lV L x).any (fun y=>decide (y∈S))=Uj L S x:=rfl;rw[es]at ea;unfold cI gI;cases hp:Uj L S x<;>rw[hp]at ea<;>simp![e1,e2,hlen,ea]
noncomputable def wK (t:Ev->Res Bool)(b:Ev->Res Fl)(n:Nat):Fl->Res Fl
 |.nx τ'=>i5 t b n τ'
 |.ct τ'=>i5 t b n τ'
 |.bk τ'=>.ok (.nx τ')
 |.rt d=>.ok (.rt d)
 |.ri d ks vs=>.ok (.ri d ks vs)
theorem D8 (h:t τ=.ok Θ):i5 t b (n+1) τ=Hn (b τ) (wK t b n):=by
 unfold i5;rw[h];have e:(fun x=>match x with|Fl.nx τ'=>i5 t b n τ'|Fl.ct τ'=>i5 t b n τ'|Fl.bk τ'=>Except.ok (Fl.nx τ')|Fl.rt d=>Except.ok (Fl.rt d)|Fl.ri d ks vs=>Except.ok (Fl.ri d ks vs))=wK t b n:=by funext fl;cases fl<;>rfl
 rw[<- e];rfl
noncomputable def gO:Gm:={N:=["needs","tied","name"],kd:=[.cell,.cell,.local],gl:=[10],df:=Ξ}
noncomputable def SX:List IS:=[(.asg (.nm 2) (.comp gO [0,1] (.nm 2) (.val (.v 1)) [(.bi .any [cI (.v 2)])] (.v 2))),(.IT (.cmp .eq (.v 2) (.v 1)) [(.ret (.v 1))] []),(.asg (.nm 1) (.v 2))]
theorem t6 (n:Nat)  (h:Good L)(o:Bool)  (hS:∀x∈S,x∈IW L)(hl:S.length<=20)(x2:Option D) :
  ia (aY T n) SX [Δ (Ob L),Δ (.lst o (S.map .str)),x2]=.ok (if sf L S=S then .rt (.lst o (S.map .str)) else .nx [Δ (Ob L),Δ (.lst Ξ ((sf L S).map .str)),Δ (.lst Ξ ((sf L S).map .str))]):=by
 have e1:=outer n h o hS;have hlen:(S.map D.str).length < 16777216:=by rw[g_];omega
 have e2:=G8 (o:=Θ) (o':=o) (sf L S) S;have es:=yq (sf L S);unfold SX gO;by_cases z:sf L S=S
 ·rw[f_ z];rw[u_ z]at e2;simp![e1,hlen,e2]
 ·rw[d_ z];rw[G_ z]at e2;simp![e1,hlen,e2,es]
theorem yr (n:Nat)  (h:Good L):∀(k:Nat) (S:List Str) (o:Bool) (x2:Option D) (m:Nat),S.length<=k->S.length<=20->(∀x∈S,x∈IW L)->
  ∃o',i5 (MA (aY T n) (.c (.bl Θ))) (ia (aY T n) SX) (k+1+m) [Δ (Ob L),Δ (.lst o (S.map .str)),x2]=.ok (.rt (.lst o' ((rX L k S).map .str))):=by
 intro k
 induction k with
 |zero=>intro S o x2 m hk hl hS;have e:=t6 n h o hS hl x2;have:S=[]:=List.length_eq_zero_iff.mp (by omega);subst this;rw[f_ (show sf L []=[] from rfl)]at e;refine⟨o,?_⟩;rw[show 0+1+m=m+1 by omega];rw[D8 rfl,e];rfl
 |succ k ih=>
  intro S o x2 m hk hl hS;have e:=t6 n h o hS hl x2;rw[show k+1+1+m=(k+1+m)+1 by omega];unfold rX;by_cases z:sf L S=S
  ·rw[f_ z]at e ⊢;refine⟨o,?_⟩;rw[D8 rfl,e];rfl
  ·rw[d_ z]at e ⊢;have IQ:=yp z;obtain⟨o',h'⟩:=ih (sf L S) Ξ (Δ (.lst Ξ ((sf L S).map .str))) m (by omega) (by omega) fun x hx=>hS x (D5 hx);refine⟨o',?_⟩;rw[D8 rfl,e];exact h'
noncomputable def D9 (L:List Sw):List Str:=rX L 20 (IW L)
theorem Ea (L:List Sw):(dK L).map zA=(IW L).map .str:=by unfold dK;rw[y_];rfl
theorem AQ (n:Nat)  (h:Good L):∃o,aY T (n+1) 62 [Ob L]=.ok (.lst o ((D9 L).map .str)):=by have hl:=h.len;have hn:=pI L;obtain⟨o,e⟩:=yr n h 20 (IW L) Θ Φ 999979 (by omega) (by omega) fun x hx=>hx;refine⟨o,?_⟩;have hk:=Ea L;have e':i5 (MA (aY T n) (.c (.bl Θ))) (ia (aY T n) SX) sF [Δ (Ob L),Δ (.lst Θ ((IW L).map .str)),Φ]=.ok (.rt (.lst o ((D9 L).map .str))):=e;unfold SX gO cI gI at e';unfold Ob at e' ⊢;rw[gx 62 WE 1 3 WC rfl rfl rfl rfl rfl rfl];unfold WC;simp![hk,e']
theorem yu (h:x∉IW M):qf (dK M) (.inr x)=Ξ:=by unfold qf dK;rw[List.any_map,List.any_eq_false];intro y hy;have:y≠x:=fun z=>h (z ▸ hy);simpa using this
theorem MK (h:q.nm∉IW M):kF (dK M) (.inr q.nm)=dK (M++[q]):=by unfold kF;rw[d_ (by rw[yu h];exact B_)];unfold dK IW;rw[C_,C_];rfl
theorem yy (M:List Sw):HC (dV M)=dV M:=by unfold dV;rw[hW,y_];refine X_ fun q _=>?_;show D.lst Ξ (HC _)=_;rw[yq]
theorem F9 (h:q.nm∉IW M):HC (kG (dK M) (dV M) (.inr q.nm) (.lst Θ ((q.nd.map (·.1)).map .str)))=dV (M++[q]):=by unfold kG;rw[d_ (by rw[yu h];exact B_),hW,C_,<- hW,yy];unfold dV;rw[C_];show _++[D.lst Ξ (HC _)]=_;rw[yq];rfl
theorem BC:∀xs:List Str,jl (xs.map .str)=Θ
 |[]=>rfl
 |x::xs=>BC xs
theorem BD:∀M:List Sw,jl (dV M)=Θ
 |[]=>rfl
 |q::M=>by show((!Ξ&&jl ((q.nd.map (·.1)).map .str))&&jl (dV M))=Θ;rw[BC,BD M];rfl
noncomputable def gN:Gm:={N:=["needed","face"],kd:=[.local,.local],gl:=[],df:=Ξ}
noncomputable def Uk:List IS:=[(.Ka 1 (.v 2) (.comp gN [] (.tp [(.nm 0),(.nm 1)]) (.val (.idx (.v 3) (.c (.int 1)))) [] (.v 0)))]
theorem Ga (n:Nat)(ps:Ps):g9 (ie (aY T n) (.tp [(.nm 0),(.nm 1)]) [] (.v 0) [Φ,Φ]) (ps.map pD)=.ok ((ps.map (·.1)).map .str):=by refine Ev.iB pD (fun p=>p.1) .str ps fun p _=>?_;unfold pD;simp![Ih]
theorem Eb (hv:vars e=[3])  (hw:jl ds=Θ)(hl:ks.length < 16777216) :
  Ev.FE cl 1 (.v 2) e [A,Δ (.IE Θ ks ds),Δ (.str x),Δ ent,z] d=.ok (.nx [A,Δ (.IE Θ (kF ks (.inr x)) (HC (kG ks ds (.inr x) d))),Δ (.str x),Δ (er ent),z]):=by
 show Hn (HA cl (.v 2) (IH (vars e) [A,Δ (.IE Θ ks ds),Δ (.str x),Δ ent,z])) (fun y=>Ev.Ah 1 e [A,Δ (.IE Θ ks ds),Δ (.str x),Δ ent,z] d ks ds (nH y))=_;rw[hv];show Ev.Ah 1 e [A,Δ (.IE Θ ks ds),Δ (.str x),Δ ent,z] d ks ds (Δ (.inr x))=_;unfold Ev.Ah;rw[hv,hw,Ev.lP hl];rfl
theorem uX (n:Nat)  (h:Good L):∃x2 x3,forM (Ev.turn (aY T n) (.tp [(.nm 2),(.nm 3)]) Uk) (L.map wD) [Δ (.lst Ξ (L.map wD)),Δ (.IE Θ [] []),Φ,Φ,Φ]=.ok (.nx [Δ (.lst Ξ (L.map wD)),Δ (.IE Θ (dK L) (dV L)),x2,x3,Φ]):=by
 obtain⟨τ',e,x2,x3,rfl⟩:=Ev.iG (body:=Ev.turn (aY T n) (.tp [(.nm 2),(.nm 3)]) Uk) (its:=L.map wD) (τ:=[Δ (.lst Ξ (L.map wD)),Δ (.IE Θ [] []),Φ,Φ,Φ])
  (fun i τ=>∃x2 x3,τ=[Δ (.lst Ξ (L.map wD)),Δ (.IE Θ (dK (L.take i)) (dV (L.take i))),x2,x3,Φ]) ⟨Φ,Φ,rfl⟩ (by
   rintro i x τ hx ⟨z2,z3,rfl⟩;rw[A_]at hx;obtain⟨q,hq,rfl⟩:=aag.mp hx;have hi:i < L.length:=(p_.mp hq).1;have Me:L.take (i+1)=L.take i++[q]:=by rw[List.take_succ,hq];rfl
   have Ko:q.nm∉IW (L.take i):=fun z=>by have nd:=h.nd;rw[<- List.take_append_drop (i+1) L,Me]at nd;unfold IW at nd z;rw[H_,C_]at nd;exact(r_.mp nd).2.2 q.nm z q.nm (by simp) rfl
   refine⟨_,?_,Δ (.str q.nm),Δ (eD q),by rw[Me]⟩;have i1:=BB q;have ee:=D3 (h.es q (J_ hq));have e1:=Ga n q.nd;have hw:wD q=.tup [.str q.nm,eD q]:=rfl;have pk:=MK Ko;have pd:=F9 Ko;have nw:=BD (L.take i);have Ui:=h.Ui q (J_ hq);have l1:(q.nd.map pD).length < 16777216:=by rw[g_];omega
   have l2:(dK (L.take i)).length < 16777216:=by unfold dK IW;rw[g_,g_,O_];have:=h.len;omega
   have vr:vars (.comp gN [] (.tp [(.nm 0),(.nm 1)]) (.val (.idx (.v 3) (.c (.int 1)))) [] (.v 0))=[3]:=rfl;have dx:=Eb (cl:=aY T n) vr (A:=Δ (.lst Ξ (L.map wD))) (z:=Φ) (x:=q.nm) (ent:=eD q) (d:=.lst Θ ((q.nd.map (·.1)).map .str)) nw l2;rw[pk,pd,ee]at dx;unfold Uk;unfold gN at dx ⊢
   simp![Ev.gY,hw,i1,e1,l1,dx])
 refine⟨x2,x3,?_⟩;rw[e];have:L.take (L.map wD).length=L:=by rw[g_];exact List.take_length
 rw[this]
theorem BE (h:y∈lV L x):∃q∈L,q.nm=x/\∃p∈q.nd,p.1=y:=by
 induction L with
 |nil=>cases h
 |cons q L ih=>
  unfold lV at h;by_cases e:q.nm=x
  ·rw[f_ e]at h;obtain⟨p,hp,rfl⟩:=List.mem_map.mp h;exact⟨q,.head _,e,p,hp,rfl⟩
  ·rw[d_ e]at h;obtain⟨q',h1,h2⟩:=ih h;exact⟨q',.tail _ h1,h2⟩
theorem Ec {L:List Sw}{rk:Str->Nat}(hr:∀q∈L,∀p∈q.nd,rk p.1 < rk q.nm){S:List Str}(h:sf L S=S):∀(n:Nat) (x:Str),rk x<=n->x∉S:=by
 intro n
 induction n with
 |zero=>intro x hx hm;rw[<- h]at hm;obtain⟨y,hy,_⟩:=List.any_eq_true.mp (List.mem_filter.mp hm).2;obtain⟨q,hq,rfl,p,hp,rfl⟩:=BE hy;have:=hr q hq p hp;omega
 |succ n ih=>intro x hx hm;rw[<- h]at hm;obtain⟨y,hy,hs⟩:=List.any_eq_true.mp (List.mem_filter.mp hm).2;obtain⟨q,hq,rfl,p,hp,rfl⟩:=BE hy;have:=hr q hq p hp;exact ih p.1 (by omega) (q_ hs)
theorem yz {L:List Sw}(h:Good L){rk:Str->Nat}(hr:∀q∈L,∀p∈q.nd,rk p.1 < rk q.nm):D9 L=[]:=by have hl:=h.len;have hf:=qO (L:=L) (k:=20) (S:=IW L) (by rw[pI];exact hl);exact List.eq_nil_iff_forall_not_mem.mpr fun x=>Ec hr hf (rk x) x (n_ _)
theorem yB (n:Nat){L:List Sw}(h:Good L){rk:Str->Nat}(hr:∀q∈L,∀p∈q.nd,rk p.1 < rk q.nm):aY T (n+2) 63 [.lst Ξ (L.map wD)]=.ok .IB:=by
 obtain⟨x2,x3,e⟩:=uX (n+1) h;obtain⟨o,e2⟩:=AQ n h;rw[yz h hr]at e2;have e2:aY T (n+1) 62 [.IE Ξ (dK L) (dV L)]=.ok (.lst o []):=e2;have lw:=tZ h;have ed:er (.IE Θ (dK L) (dV L))=.IE Ξ (dK L) (dV L):=by show D.IE Ξ (dK L) (HC (dV L))=_;rw[yy]
 unfold Uk gN at e;rw[gx 63 WH 1 5 WG rfl rfl rfl rfl rfl rfl];unfold WG;generalize L.map wD=W,dK L=KK,dV L=VV at *;simp![lw,e,ed,e2]
noncomputable def Qt:List IS:=[(.exp (.call 42 [(.v 5)]))]
noncomputable def Pw:List IS:=[(.IL (.nm 5) (.val (.v 4)) Qt)]
noncomputable def Xz:List IS:=[(.exp (.call 40 [(.v 2),(.v 1)])),(.app 1 (.v 2)),(.IL (.nm 4) (.val (.v 3)) Pw)]
theorem AR (cs:List Cn):HC (cs.map Cn.d)=cs.map Cn.d:=by have:D.lst Ξ (HC (cs.map Cn.d))=.lst Ξ (cs.map Cn.d):=qI cs;injection this
theorem ua (n:Nat)(a0 a1 a2 a3 a4:Option D):∀(cs:List Cn) (b:Option D),(∀c∈cs,Vc [] c/\Le c.w=Ξ)->∃x,forM (Ev.turn (aY T (n+5)) (.nm 5) Qt) (cs.map Cn.d) [a0,a1,a2,a3,a4,b]=.ok (.nx [a0,a1,a2,a3,a4,x])
 |[],b,_=>⟨b,rfl⟩
 |c::cs,b,h=>by
  have e:=uW n (h c (.head _)).1 (h c (.head _)).2;have ec:=kU c;have et:Ev.turn (aY T (n+5)) (.nm 5) Qt c.d [a0,a1,a2,a3,a4,b]=.ok (.nx [a0,a1,a2,a3,a4,Δ c.d]):=by unfold Qt;generalize c.d=C at *;simp![Ev.gY,ec,e]
  rw[b_,Ev.de,et];exact ua n a0 a1 a2 a3 a4 cs _ fun x hx=>h x (.tail _ hx)
theorem ub (n:Nat)(a0 a1 a2 a3:Option D):∀(rs:List (List Cn)) (a b:Option D),(∀r∈rs,∀c∈r,Vc [] c/\Le c.w=Ξ)->∃x y,forM (Ev.turn (aY T (n+5)) (.nm 4) Pw) (rs.map JI) [a0,a1,a2,a3,a,b]=.ok (.nx [a0,a1,a2,a3,x,y])
 |[],a,b,_=>⟨a,b,rfl⟩
 |r::rs,a,b,h=>by
  obtain⟨x,e⟩:=ua n a0 a1 a2 a3 (Δ (.lst Ξ (r.map Cn.d))) r b (h r (.head _));have ec:=AR r;have et:Ev.turn (aY T (n+5)) (.nm 4) Pw (.lst Ξ (r.map Cn.d)) [a0,a1,a2,a3,a,b]=.ok (.nx [a0,a1,a2,a3,Δ (.lst Ξ (r.map Cn.d)),x]):=by unfold Pw;generalize r.map Cn.d=R,Qt=tgc at *;simp![Ev.gY,ec,e]
  rw[b_,Ev.de];have et:Ev.turn (aY T (n+5)) (.nm 4) Pw (JI r) [a0,a1,a2,a3,a,b]=_:=et;rw[et];exact ub n a0 a1 a2 a3 rs _ _ fun x hx=>h x (.tail _ hx)
theorem uc {α:Type}{L:List α}(g:α->Str)(nd:(L.map g).Nodup){i:Nat}{q:α}(hq:L[i]? = Δ q):(L.map g).take (i+1)=(L.map g).take i++[g q]/\g q∉(L.map g).take i:=by
 have hn:(L.map g)[i]? = Δ (g q):=by rw[A_,hq];rfl
 have Me:(L.map g).take (i+1)=(L.map g).take i++[g q]:=by rw[List.take_succ,hn];rfl
 refine⟨Me,fun z=>?_⟩;rw[<- List.take_append_drop (i+1) (L.map g),Me,H_]at nd;exact(r_.mp nd).2.2 (g q) z (g q) (by simp) rfl
theorem rY (n:Nat)  (h:MP gs)(hl:gs.length<=20):aY T (n+6) 59 [.lst Ξ (gs.map Gp.d)]=.ok .IB:=by
 obtain⟨τ',e,x2,x3,x4,x5,rfl⟩:=Ev.iG (body:=Ev.turn (aY T (n+5)) (.tp [(.nm 2),(.nm 3)]) Xz) (its:=gs.map Gp.d) (τ:=[Δ (.lst Ξ (gs.map Gp.d)),Δ (.lst Θ []),Φ,Φ,Φ,Φ])
  (fun i τ=>∃x2 x3 x4 x5,τ=[Δ (.lst Ξ (gs.map Gp.d)),Δ (.lst Θ (((gs.map (·.nm)).take i).map .str)),x2,x3,x4,x5]) ⟨Φ,Φ,Φ,Φ,rfl⟩ (by
   rintro i x τ hx ⟨z2,z3,z4,z5,rfl⟩;rw[A_]at hx;obtain⟨q,hq,rfl⟩:=aag.mp hx;obtain⟨Me,Ko⟩:=uc (·.nm) h.nd hq;have t1:=rV (n+4) (o:=Ξ) Ko;obtain⟨y4,y5,e3⟩:=ub n (Δ (.lst Ξ (gs.map Gp.d))) (Δ (.lst Θ (((gs.map (·.nm)).take i++[q.nm]).map .str))) (Δ (.str q.nm)) (Δ (.lst Ξ (q.rows.map JI))) q.rows z4 z5 (h.ok q (J_ hq));refine⟨_,?_,Δ (.str q.nm),Δ (.lst Ξ (q.rows.map JI)),y4,y5,by rw[Me]⟩;have Lj:=iE (ds:=((gs.map (·.nm)).take i).map D.str) (Ev.jL _);have err:=rO q.rows;have hlen:(((gs.map (·.nm)).take i).map D.str).length < 16777216:=by rw[g_,O_,g_];omega
   have Mf:((gs.map (·.nm)).take i).map D.str++[D.str q.nm]=((gs.map (·.nm)).take i++[q.nm]).map .str:=by rw[C_];rfl
   have hw:q.d=.tup [.str q.nm,.lst Ξ (q.rows.map JI)]:=rfl;rw[hw];unfold Xz;generalize Pw=tgw,q.rows.map JI=RW at *
   simp![Ev.gY,t1,Lj,hlen,Mf,err,e3])
 have lw:=pG gs;unfold Xz Pw Qt at e;rw[gx 59 Wx 1 6 Ww rfl rfl rfl rfl rfl rfl];unfold Ww;generalize gs.map Gp.d=GD at *;simp![lw,e]
structure Ho where
 nm:Str
 sl:List Nat
 pl:Int
 sm:Option (List Str)
noncomputable def NN:Option (List Str)->D
 |none=>.IB
 |some xs=>.lst Ξ (xs.map .str)
noncomputable def Ho.d (q:Ho):D:=.tup [.str q.nm,.str (Hz q.sl),.int q.pl,NN q.sm]
theorem Gb (s:Option (List Str)):er (NN s)=NN s:=by
 cases s with
 |none=>rfl
 |some xs=>show D.lst Ξ (HC _)=_;rw[Ev.g8];rfl
theorem Gd (q:Ho):er q.d=q.d:=by show D.tup [.str q.nm,.str (Hz q.sl),.int q.pl,er (NN q.sm)]=_;rw[Gb];rfl
theorem rZ (hs:List Ho):HC (hs.map Ho.d)=hs.map Ho.d:=by rw[hW,y_];exact X_ fun q _=>Gd q
structure SY (ns:List Str)(hs:List Ho):Prop where
 nd:(hs.map (·.nm)).Nodup
 sl:∀q∈hs,Sl q.sl
 pl:∀q∈hs,0<=q.pl/\q.pl<=10007
 sm:∀q∈hs,∀xs,q.sm=Δ xs->xs.length<=20/\∀x∈xs,x∈ns
 len:hs.length<=20
noncomputable def Px:List IS:=[(.exp (.call 41 [(.v 8),(.v 1)]))]
noncomputable def Ul:List IS:=[(.exp (.call 40 [(.v 3),(.v 2)])),(.app 2 (.v 3)),(.exp (.call 26 [(.v 4)])),(.IT (.KZ (.cmp .lt (.v 5) (.c (.int 0))) (.cmp .gt (.v 5) (.g 23 (.int 10007)))) [.never] []),(.asg (.nm 7) (.ite (.cmp .N0 (.v 6) (.c .IB)) (.lst []) (.v 6))),(.IL (.nm 8) (.val (.v 7)) Px)]
theorem ud (n:Nat){ns:List Str}(a0 a2 a3 a4 a5 a6 a7:Option D):∀(xs:List Str) (b:Option D),(∀x∈xs,x∈ns)->∃y,forM (Ev.turn (aY T (n+2)) (.nm 8) Px) (xs.map .str) [a0,Δ (.lst Ξ (ns.map .str)),a2,a3,a4,a5,a6,a7,b]=.ok (.nx [a0,Δ (.lst Ξ (ns.map .str)),a2,a3,a4,a5,a6,a7,y])
 |[],b,_=>⟨b,rfl⟩
 |x::xs,b,h=>by
  have e:=qN (n+1) (o:=Ξ) (h x (.head _));have es:=Ev.g8 ns;have et:Ev.turn (aY T (n+2)) (.nm 8) Px (.str x) [a0,Δ (.lst Ξ (ns.map .str)),a2,a3,a4,a5,a6,a7,b]=.ok (.nx [a0,Δ (.lst Ξ (ns.map .str)),a2,a3,a4,a5,a6,a7,Δ (.str x)]):=by unfold Px;simp![Ev.gY,es,e]
  rw[b_,Ev.de,et];exact ud n a0 a2 a3 a4 a5 a6 a7 xs _ fun x hx=>h x (.tail _ hx)
theorem yC (n:Nat)  (h:SY ns hs):aY T (n+3) 60 [.lst Ξ (hs.map Ho.d),.lst Ξ (ns.map .str)]=.ok .IB:=by
 have es:=Ev.g8 ns;obtain⟨τ',e,x3,x4,x5,x6,x7,x8,rfl⟩:=Ev.iG (body:=Ev.turn (aY T (n+2)) (.tp [(.nm 3),(.nm 4),(.nm 5),(.nm 6)]) Ul) (its:=hs.map Ho.d) (τ:=[Δ (.lst Ξ (hs.map Ho.d)),Δ (.lst Ξ (ns.map .str)),Δ (.lst Θ []),Φ,Φ,Φ,Φ,Φ,Φ])
  (fun i τ=>∃x3 x4 x5 x6 x7 x8,τ=[Δ (.lst Ξ (hs.map Ho.d)),Δ (.lst Ξ (ns.map .str)),Δ (.lst Θ (((hs.map (·.nm)).take i).map .str)),x3,x4,x5,x6,x7,x8]) ⟨Φ,Φ,Φ,Φ,Φ,Φ,rfl⟩ (by
   rintro i x τ hx ⟨z3,z4,z5,z6,z7,z8,rfl⟩;rw[A_]at hx;obtain⟨q,hq,rfl⟩:=aag.mp hx;have hm:=J_ hq;obtain⟨Me,Ko⟩:=uc (·.nm) h.nd hq;have t1:=rV (n+1) (o:=Ξ) Ko;have t2:=nj n (h.sl q hm);obtain⟨p0,p1⟩:=h.pl q hm;have d1:decide (q.pl < 0)=Ξ:=G_ (by omega);have d2:decide ((10007:Int) < q.pl)=Ξ:=G_ (by omega);have Lj:=iE (ds:=((hs.map (·.nm)).take i).map D.str) (Ev.jL _);have hlen:(((hs.map (·.nm)).take i).map D.str).length < 16777216:=by rw[g_,O_,g_];have:=h.len;omega
   have Mf:((hs.map (·.nm)).take i).map D.str++[D.str q.nm]=((hs.map (·.nm)).take i++[q.nm]).map .str:=by rw[C_];rfl
   have hw:q.d=.tup [.str q.nm,.str (Hz q.sl),.int q.pl,NN q.sm]:=rfl;rw[hw];cases Qa:q.sm with
   |none=>refine⟨_,?_,Δ (.str q.nm),Δ (.str (Hz q.sl)),Δ (.int q.pl),Δ .IB,Δ (.lst Ξ []),z8,by rw[Me]⟩;unfold Ul NN;generalize Px=thi,Hz q.sl=SL at *;simp![Ev.gY,t1,t2,Lj,hlen,Mf,d1,d2]
   |some xs=>
    obtain⟨lx,hx⟩:=h.sm q hm xs Qa;obtain⟨y8,e3⟩:=ud n (ns:=ns) (Δ (.lst Ξ (hs.map Ho.d))) (Δ (.lst Θ (((hs.map (·.nm)).take i++[q.nm]).map .str))) (Δ (.str q.nm)) (Δ (.str (Hz q.sl))) (Δ (.int q.pl)) (Δ (.lst Ξ (xs.map .str))) (Δ (.lst Ξ (xs.map .str))) xs z8 hx;refine⟨_,?_,Δ (.str q.nm),Δ (.str (Hz q.sl)),Δ (.int q.pl),Δ (.lst Ξ (xs.map .str)),Δ (.lst Ξ (xs.map .str)),y8,by rw[Me]⟩;have ex:=Ev.g8 xs;unfold Ul NN;generalize Px=thi,Hz q.sl=SL at *
    simp![Ev.gY,t1,t2,Lj,hlen,Mf,d1,d2,ex,e3])
 have lw:=rZ hs;unfold Ul Px at e;rw[gx 60 Wz 2 9 Wy rfl rfl rfl rfl rfl rfl];unfold Wy;generalize hs.map Ho.d=HD at *;simp![lw,e]
theorem Ge (n:Nat)(L:List Sw):g9 (ie (aY T n) (.tp [(.nm 0),(.nm 1)]) [] (.v 0) [Φ,Φ]) (L.map wD)=.ok ((IW L).map .str):=by refine Ev.iB wD (fun q=>q.nm) .str L fun q _=>?_;unfold wD;generalize eD q=E;simp![Ev.gY]
theorem Gf (n:Nat)(gs:List Gp):g9 (ie (aY T n) (.tp [(.nm 0),(.nm 1)]) [] (.v 0) [Φ,Φ]) (gs.map Gp.d)=.ok ((gs.map (·.nm)).map .str):=by refine Ev.iB Gp.d (fun q=>q.nm) .str gs fun q _=>?_;unfold Gp.d;generalize q.rows.map JI=E;simp![Ev.gY]
structure Hs where
 gs:List Gp
 hs:List Ho
 L:List Sw
noncomputable def Hs.d (H:Hs):D:=.tup [.lst Ξ (H.gs.map Gp.d),.lst Ξ (H.hs.map Ho.d),.lst Ξ (H.L.map wD)]
structure KW (H:Hs):Prop where
 g:MP H.gs
 gl:H.gs.length<=20
 h:SY (IW H.L) H.hs
 l:Good H.L
 sw:∀n,∀q∈H.L,aY T (n+5) 39 [.lst Ξ ((H.gs.map (·.nm)).map .str),q.sw]=.ok (.bl Θ)
 rk:∃rk:Str->Nat,∀q∈H.L,∀p∈q.nd,rk p.1 < rk q.nm
theorem uY (n:Nat)  (h:KW H):aY T (n+7) 66 [H.d]=.ok (.bl Θ):=by
 obtain⟨rk,hr⟩:=h.rk;have e1:=rY n h.g h.gl;have e2:=yC (n+3) h.h;have e3:=D4 n h.l (gn:=.lst Ξ ((H.gs.map (·.nm)).map .str)) (by show D.lst Ξ (HC _)=_;rw[Ev.g8]) (h.sw n);have e4:=yB (n+4) h.l hr;have f1:=Ge (n+6) H.L;have f2:=Gf (n+6) H.gs;have x0:ir H.d (.int 0)=.ok (.lst Ξ (H.gs.map Gp.d)):=rfl;have x1:ir H.d (.int 1)=.ok (.lst Ξ (H.hs.map Ho.d)):=rfl;have x2:ir H.d (.int 2)=.ok (.lst Ξ (H.L.map wD)):=rfl;have lg:=pG H.gs;have lh:=rZ H.hs;have lw:=tZ h.l;have l1:(H.L.map wD).length < 16777216:=by rw[g_];have:=h.l.len;omega
 have l2:(H.gs.map Gp.d).length < 16777216:=by rw[g_];have:=h.gl;omega
 have s1:=Ev.g8 (IW H.L);have s2:=Ev.g8 (H.gs.map (·.nm));have n1:=Ev.jL (IW H.L);have n2:=Ev.jL (H.gs.map (·.nm));generalize H.d=HD,H.gs.map Gp.d=GD,H.hs.map Ho.d=OD,H.L.map wD=WD,(IW H.L).map D.str=NM,(H.gs.map (·.nm)).map D.str=GN at *;rw[gx 66 WJ 1 2 WI rfl rfl rfl rfl rfl rfl];unfold WI;simp![x0,x1,x2,f1,f2,lg,lh,lw,l1,l2,s1,s2,n1,n2,e1,e2,e3,e4]
theorem pJ:∀ {xs:List Int}{j:Nat}{o:Int},xs.Nodup->xs[j]? = Δ o->ki o xs=Δ j
 |x::xs,0,o,_,h=>by have h:x=o:=I_ h;unfold ki;rw[f_ h]
 |x::xs,j+1,o,nd,h=>by have h:xs[j]? = Δ o:=h;have nd:=L_.mp nd;unfold ki;have JK:x≠o:=fun z=>nd.1 (by rw[z];exact J_ h);rw[d_ JK,pJ nd.2 h];rfl
theorem Ed {xs:List Int}{i:Nat}(h:i < xs.length):jj (xs.map D.int) (Δ ((i:Int)+1)) Φ=(xs.drop (i+1)).map .int:=by unfold jj;rw[show((i:Int)+1)=((i+1:Nat):Int) by omega,HT.Nh,HT.Mr,g_,Nat.min_eq_left (by omega),<- List.map_drop];rw[List.take_of_length_le (by rw[g_,aam];omega)]
theorem ne_ni {o o':Bool}(xs:List Int):Jw .ne (.lst o (xs.map .int)) (.lst o' [])=.ok (!xs.isEmpty):=by cases xs<;>rfl
noncomputable def Um:List IS:=[(.IT (.cmp .ne (.v 6) (.lst [])) [(.asg (.nm 9) (.idx (.v 6) (.call 43 [(.v 0),(.bin .add (.bin .add (.v 1) (.c (.int 1))) (.v 8)),(.bi .len [(.v 6)])]))),(.app 7 (.tup [(.idx (.v 4) (.v 9)),(.idx (.v 5) (.call 43 [(.v 0),(.bin .add (.bin .add (.v 1) (.c (.int 3))) (.v 8)),(.bi .len [(.v 5)])]))]))] [])]
theorem yD (n:Nat)(ns:List Int){k:Int}(k0:0<=k)(k1:k<=4900){od:List Int}(lo:od.length<=20){s:Int}{i:Nat}(hi:ki s od=Δ i){nm fs:List Str}(hn:∀o∈od,0<=o/\o < nm.length)(hf:0 < fs.length)(Pt:fs.length<=20) :
  ∃ps:Ps,aY T (n+2) 67 [.lst Ξ (ns.map .int),.int k,.lst Ξ (od.map .int),.int s,.lst Ξ (nm.map .str),.lst Ξ (fs.map .str)]=.ok (.lst Θ (ps.map pD))/\ps.length<=2/\∀p∈ps,∃o∈od.drop (i+1),nm[o.toNat]? = Δ p.1:=by
 have ei:=Ev.ib ns;have eo:HC (od.map D.int)=od.map D.int:=Ev.ib od;have en:=Ev.g8 nm;have ef:=Ev.g8 fs;have hil:i < od.length:=(p_.mp (me hi).1).1;have ct:=Ed hil;have ix:qh (.lst Ξ (od.map .int)) (.int s)=.ok (.int (i:Nat)):=by show(match iI (od.map .int) with|some ns=>_|none=>_)=_;rw[Ev.qE];show(match ki s od with|some j=>_|none=>_)=_;rw[hi]
 have hd:∀o∈od.drop (i+1),0<=o/\o < nm.length:=fun o h=>hn o (List.mem_of_mem_drop h);have hbl:(od.drop (i+1)).length<=20:=by rw[aam];omega
 generalize od.drop (i+1)=bh at *;have eb:HC (bh.map D.int)=bh.map D.int:=Ev.ib bh;have lb:gW (bh.map D.int)=Θ:=Ev.rM bh;have lbl:(bh.map D.int).length=bh.length:=g_ _;have TL:(fs.map D.str).length=fs.length:=g_ _;have ne:=ne_ni (o:=Θ) (o':=Θ) bh;obtain⟨q,d1,q0,q1⟩:=JP n ns k 3 k0 (by omega) (by decide);obtain⟨τ',e,ps,c8,c9,rfl,hl,hv⟩:=Ev.iG (its:=ij 0 q) (τ:=[Δ (.lst Ξ (ns.map .int)),Δ (.int k),Δ (.lst Ξ (od.map .int)),Δ (.int s),Δ (.lst Ξ (nm.map .str)),Δ (.lst Ξ (fs.map .str)),Δ (.lst Θ (bh.map .int)),Δ (.lst Θ []),Φ,Φ]) (body:=Ev.turn (aY T (n+1)) (.nm 8) Um)
  (fun j τ=>∃(ps:Ps) (c8 c9:Option D),τ=[Δ (.lst Ξ (ns.map .int)),Δ (.int k),Δ (.lst Ξ (od.map .int)),Δ (.int s),Δ (.lst Ξ (nm.map .str)),Δ (.lst Ξ (fs.map .str)),Δ (.lst Θ (bh.map .int)),Δ (.lst Θ (ps.map pD)),c8,c9]/\ps.length<=j/\∀p∈ps,∃o∈bh,nm[o.toNat]? = Δ p.1)
  ⟨[],Φ,Φ,rfl,n_ _,fun p h=>by simp at h⟩ (by
   rintro j x τ hx ⟨ps,b8,b9,rfl,hl,hv⟩;obtain⟨hj,rfl⟩:=nN hx;cases hb:bh.isEmpty with
   |true=>rw[hb]at ne;refine⟨_,?_,ps,Δ (.int (j:Nat)),b9,rfl,by omega,hv⟩;unfold Um;generalize ns.map D.int=NS,od.map D.int=OD,nm.map D.str=NM,fs.map D.str=FS,bh.map D.int=BH,ps.map pD=PS at *;simp![Ev.gY,ne]
   |false=>
    rw[hb]at ne;have hb0:0 < bh.length:=by cases bh with|nil=>cases hb|cons=>simp
    obtain⟨u,e1,a0,a1⟩:=JP n ns (k+1+(j:Int)) (bh.length:Int) (by omega) (by omega) (by omega);have xo:=Ev.Qh (o:=Θ) (xs:=bh) a0 a1;have om:bh.getD u.toNat 0∈bh:=by
     have:u.toNat < bh.length:=by omega
     rw[aaa,x_ this];exact aaj this
    generalize bh.getD u.toNat 0=o at *;obtain⟨o0,o1⟩:=hd o om;obtain⟨y,hy,gy⟩:=iP (fs:=nm) o0 o1;have e2:=iy n ns (k+3+(j:Int)) (fs.length:Int) (by omega) (by omega) (by omega);obtain⟨f,Qf,_⟩:=iP (fs:=fs) (jO ns (k+3+(j:Int)) (m:=(fs.length:Int)) (by omega)) (jV ns (k+3+(j:Int)) (by omega));generalize dr ns (k+3+(j:Int)) (fs.length:Int)=v at *;have lp:(ps.map pD).length=ps.length:=g_ _;refine⟨[Δ (.lst Ξ (ns.map .int)),Δ (.int k),Δ (.lst Ξ (od.map .int)),Δ (.int s),Δ (.lst Ξ (nm.map .str)),Δ (.lst Ξ (fs.map .str)),Δ (.lst Θ (bh.map .int)),Δ (.lst Θ ((ps++[(y,f)]).map pD)),Δ (.int (j:Nat)),Δ (.int o)],?_,ps++[(y,f)],_,_,rfl,by rw[w_];show ps.length+1<=_;omega,fun p hp=>?_⟩
    ·have Ld:(ps++[(y,f)]).map pD=ps.map pD++[.tup [.str y,.str f]]:=by rw[C_];rfl
     rw[Ld];unfold Um;generalize ns.map D.int=NS,od.map D.int=OD,nm.map D.str=NM,fs.map D.str=FS,bh.map D.int=BH,ps.map pD=PS at *;simp![Ev.gY,ne,ei,en,ef,lbl,TL,e1,e2,xo,hy,Qf,lp]
    ·rcases s_.mp hp with hp|hp
     ·exact hv p hp
     ·rw[o_.mp hp];exact⟨o,om,gy⟩)
 rw[kW]at hl;refine⟨ps,?_,by omega,hv⟩;have lp:=DZ ps;unfold Um at e;rw[gx 67 W5 6 10 W4 rfl rfl rfl rfl rfl rfl];unfold W4;generalize ns.map D.int=NS,od.map D.int=OD,nm.map D.str=NM,fs.map D.str=FS,bh.map D.int=BH,ps.map pD=PS at *;simp![ei,eo,ix,ct,eb,lb,d1,e,lp]
noncomputable def ids (xs:List Str):List (Nat×Str):=(List.range xs.length).zip xs
noncomputable def XA (q:Nat×Str):D:=.tup [.int (q.1:Nat),.str q.2]
theorem BF (xs:List Str):l7 (xs.map .str)=(ids xs).map XA:=by unfold l7 ids;rw[g_,List.zipWith_map_right,List.zip,List.map_zipWith];rfl
theorem yE (h:q∈ids xs):q.2∈xs/\q.1 < xs.length:=by obtain⟨k,hk⟩:=aar.mp h;obtain⟨h1,h2⟩:=List.getElem?_zip_eq_some.mp hk;obtain⟨h3,h4⟩:=p_.mp h1;rw[List.getElem_range]at h4;rw[<- h4];exact⟨J_ h2,by rw[aae]at h3;exact h3⟩
theorem AU (n:Nat)(ns:List Int){k:Int}(k0:0<=k)(k1:k<=4000){h:Int}(h0:0<=h)(h1:h < 3){nm:List Str}(hl:nm.length<=20) :
  ∃xs:List Str,g9 (ie (aY T (n+1)) (.tp [(.nm 3),(.nm 4)]) [(.cmp .eq (.call 43 [(.v 0),(.bin .add (.bin .add (.bin .add (.v 1) (.c (.int 50))) (.bin .mul (.c (.int 20)) (.v 2))) (.v 3)),(.c (.int 2))]) (.c (.int 0)))] (.v 4) [Δ (.lst Ξ (ns.map .int)),Δ (.int k),Δ (.int h),Φ,Φ]) (l7 (nm.map .str))=.ok (xs.map .str)/\xs.length<=20/\∀x∈xs,x∈nm:=by
 have ei:=Ev.ib ns;rw[BF];refine⟨((ids nm).filter fun q=>dr ns (k+50+20*h+(q.1:Nat)) 2 == 0).map (·.2),?_,?_,fun x hx=>?_⟩
 ·rw[y_];refine rW XA (fun q=>dr ns (k+50+20*h+(q.1:Nat)) 2 == 0) (fun q=>D.str q.2) (ids nm) fun q hq=>?_;have:=(yE hq).2;have e:=iy n ns (k+50+20*h+(q.1:Nat)) 2 (by omega) (by omega) (by decide);unfold XA;generalize ns.map D.int=NS at *;cases hz:(dr ns (k+50+20*h+(q.1:Nat)) 2 == 0)<;>simp![Ev.gY,ei,e,hz]
 ·rw[g_];refine Q_ (List.length_filter_le _ _) ?_;unfold ids;rw[List.length_zip,aae];omega
 ·obtain⟨q,hq,rfl⟩:=List.mem_map.mp hx;exact(yE (List.mem_filter.mp hq).1).1
theorem BG (cs:List Nat)(m:Int):0<=NJ cs m/\NJ cs m < 10007:=⟨Int.emod_nonneg _ (by decide),Int.emod_lt_of_pos _ (by decide)⟩
theorem ue {ss:List (List Nat)}{i:Int}(h0:0<=i)(h1:i < (ss.length:Int)):∃y,(∀o,ir (.lst o (ss.map fun y=>.str (Hz y))) (.int i)=.ok (.str (Hz y)))/\y∈ss:=by
 have hl:i.toNat < ss.length:=by omega
 exact⟨ss[i.toNat],fun o=>pH (fun y=>D.str (Hz y)) o h0 (x_ hl),aaj hl⟩
noncomputable def S1:Gm:={N:=["_law_script","_law_k","_law_h","_law_j","_law_name"],kd:=[.cell,.cell,.cell,.local,.local],gl:=[43],df:=Ξ}
noncomputable def Py:List IS:=[(.asg (.nm 8) (.idx (.v 2) (.call 43 [(.v 0),(.bin .add (.bin .add (.v 1) (.c (.int 6))) (.v 7)),(.c (.int 3))]))),(.asg (.nm 9) (.call 46 [(.v 8),(.v 4)])),(.asg (.nm 10) (.comp S1 [0,1,7] (.tp [(.nm 3),(.nm 4)]) (.KP (.v 3)) [(.cmp .eq (.call 43 [(.v 0),(.bin .add (.bin .add (.bin .add (.v 1) (.c (.int 50))) (.bin .mul (.c (.int 20)) (.v 2))) (.v 3)),(.c (.int 2))]) (.c (.int 0)))] (.v 4))),(.IT (.cmp .eq (.call 43 [(.v 0),(.bin .add (.bin .add (.v 1) (.c (.int 10))) (.v 7)),(.c (.int 3))]) (.c (.int 0))) [(.asg (.nm 10) (.c .IB))] []),(.app 6 (.tup [(.idx (.v 5) (.v 7)),(.v 8),(.idx (.lst [(.c (.int 0)),(.v 9),(.bin .add (.v 9) (.c (.int 1))),(.c (.int 10007))]) (.call 43 [(.v 0),(.bin .add (.bin .add (.v 1) (.c (.int 14))) (.v 7)),(.c (.int 4))])),(.v 10)]))]
section
variable (n:Nat)(ns:List Int){k:Int}(k0:0<=k)(k1:k<=3000){ss:List (List Nat)}(sl:ss.length=3)(KR:∀c∈ss,Sl c){nm:List Str}(hn:nm.length<=20){m:Int}(m0:0<=m)(m1:m<=1000000000){ow:List Str}(ol:3<=ow.length)
include k0 k1 sl KR hn m0 m1 ol in
theorem AV (oo:Bool){j:Nat}(hj:j < 3){hs:List Ho}(hl:hs.length<=20)(b7 b8 b9 Pu:Option D) :
  ∃(q:Ho) (c8 c9 Jq:Option D),Ev.turn (aY T (n+1)) (.nm 7) Py (.int (j:Nat)) [Δ (.lst Ξ (ns.map .int)),Δ (.int k),Δ (.lst Ξ (ss.map fun y=>.str (Hz y))),Δ (.lst Ξ (nm.map .str)),Δ (.int m),Δ (.lst oo (ow.map .str)),Δ (.lst Θ (hs.map Ho.d)),b7,b8,b9,Pu]=.ok (.nx [Δ (.lst Ξ (ns.map .int)),Δ (.int k),Δ (.lst Ξ (ss.map fun y=>.str (Hz y))),Δ (.lst Ξ (nm.map .str)),Δ (.int m),Δ (.lst oo (ow.map .str)),Δ (.lst Θ ((hs++[q]).map Ho.d)),Δ (.int (j:Nat)),c8,c9,Jq])/\ow[j]? = Δ q.nm/\Sl q.sl/\(0<=q.pl/\q.pl<=10007)/\∀xs,q.sm=Δ xs->xs.length<=20/\∀x∈xs,x∈nm:=by
 have ei:=Ev.ib ns;have d1:=iy n ns (k+6+(j:Int)) 3 (by omega) (by omega) (by decide);obtain⟨cs,Qu,cm⟩:=ue (ss:=ss) (jO ns (k+6+(j:Int)) (m:=3) (by decide)) (by rw[sl];exact jV ns (k+6+(j:Int)) (m:=3) (by decide));generalize dr ns (k+6+(j:Int)) 3=u1 at *;have hc:=KR cs cm;have e1:=oz n cs hc.2.1 m m0 m1;obtain⟨p0,p1⟩:=BG cs m;generalize NJ cs m=z at *;obtain⟨xs,e2,xl,xm⟩:=AU n ns k0 (by omega) (h:=(j:Int)) (by omega) (by omega) hn;have d2:=iy n ns (k+10+(j:Int)) 3 (by omega) (by omega) (by decide);have d3:=iy n ns (k+14+(j:Int)) 4 (by omega) (by omega) (by decide);have c0:=jO ns (k+14+(j:Int)) (m:=4) (by decide);have c1:=jV ns (k+14+(j:Int)) (m:=4) (by decide);generalize dr ns (k+10+(j:Int)) 3=u2,dr ns (k+14+(j:Int)) 4=u3 at *;have Zu:ir (.lst Θ [.int 0,.int z,.int (z+1),.int 10007]) (.int u3)=.ok (.int ([0,z,z+1,10007].getD u3.toNat 0)):=Ev.Qh (o:=Θ) (xs:=[0,z,z+1,10007]) (i:=u3) c0 (by show u3 < 4;exact c1);have hy:0<=([0,z,z+1,10007]:List Int).getD u3.toNat 0/\([0,z,z+1,10007]:List Int).getD u3.toNat 0<=10007:=by
  rcases(show u3=0∨u3=1∨u3=2∨u3=3 by omega) with rfl|rfl|rfl|rfl
  ·exact⟨(by decide:(0:Int)<=0),(by decide:(0:Int)<=10007)⟩
  ·exact(show 0<=z/\z<=10007 by omega)
  ·exact(show 0<=z+1/\z+1<=10007 by omega)
  ·exact⟨(by decide:(0:Int)<=10007),(by decide:(10007:Int)<=10007)⟩
 generalize([0,z,z+1,10007]:List Int).getD u3.toNat 0=y at *;obtain⟨w,hw,gw⟩:=iP (fs:=ow) (i:=(j:Int)) (by omega) (by omega);have lh:(hs.map Ho.d).length=hs.length:=g_ _;have ex:=Ev.g8 xs;have en:=Ev.g8 nm;have eo:=Ev.g8 ow;have lx:=Ev.jL xs;have Zv:(l7 (nm.map D.str)).length<=20:=by rw[BF,g_];unfold ids;rw[List.length_zip,aae];omega
 have Qq:HC (ss.map fun y=>D.str (Hz y))=ss.map fun y=>D.str (Hz y):=by rw[hW,y_];rfl
 cases q2:(u2 == 0) with
 |true=>
  refine⟨⟨w,cs,y,Φ⟩,Δ (.str (Hz cs)),Δ (.int z),Δ .IB,?_,by rw[<- gw];rfl,hc,hy,fun xs h=>by cases h⟩;have Ld:(hs++[(⟨w,cs,y,Φ⟩:Ho)]).map Ho.d=hs.map Ho.d++[.tup [.str w,.str (Hz cs),.int y,.IB]]:=by rw[C_];rfl
  rw[Ld];unfold Py S1;generalize ns.map D.int=NS,(ss.map fun y=>D.str (Hz y))=SS,nm.map D.str=NM,ow.map D.str=OW,hs.map Ho.d=HS,xs.map D.str=XS,Hz cs=SC at *;simp![Ev.gY,ei,en,eo,Qq,d1,Qu,e1,e2,Zv,lx,d2,q2,hw,Zu,d3,lh]
 |false=>
  refine⟨⟨w,cs,y,Δ xs⟩,Δ (.str (Hz cs)),Δ (.int z),Δ (.lst Ξ (xs.map .str)),?_,by rw[<- gw];rfl,hc,hy,fun PY h=>by cases h;exact⟨xl,xm⟩⟩;have Ld:(hs++[(⟨w,cs,y,Δ xs⟩:Ho)]).map Ho.d=hs.map Ho.d++[.tup [.str w,.str (Hz cs),.int y,.lst Ξ (xs.map .str)]]:=by rw[C_];rfl
  rw[Ld];unfold Py S1;generalize ns.map D.int=NS,(ss.map fun y=>D.str (Hz y))=SS,nm.map D.str=NM,ow.map D.str=OW,hs.map Ho.d=HS,xs.map D.str=XS,Hz cs=SC at *;simp![Ev.gY,ei,en,eo,Qq,d1,Qu,e1,e2,Zv,lx,d2,q2,hw,Zu,d3,lh,ex]
include k0 k1 sl KR hn m0 m1 in
theorem AW (oo:Bool){ow:List Str}(ol:3<=ow.length)(S2:ow.Nodup){q:Int}(q0:0<=q)(q1:q < 4):∃(hs:List Ho) (c7 c8 c9 Jq:Option D),forM (Ev.turn (aY T (n+1)) (.nm 7) Py) (ij 0 q) [Δ (.lst Ξ (ns.map .int)),Δ (.int k),Δ (.lst Ξ (ss.map fun y=>.str (Hz y))),Δ (.lst Ξ (nm.map .str)),Δ (.int m),Δ (.lst oo (ow.map .str)),Δ (.lst Θ []),Φ,Φ,Φ,Φ]=.ok (.nx [Δ (.lst Ξ (ns.map .int)),Δ (.int k),Δ (.lst Ξ (ss.map fun y=>.str (Hz y))),Δ (.lst Ξ (nm.map .str)),Δ (.int m),Δ (.lst oo (ow.map .str)),Δ (.lst Θ (hs.map Ho.d)),c7,c8,c9,Jq])/\hs.length<=3/\SY nm hs:=by
 obtain⟨τ',e,hs,c7,c8,c9,Jq,rfl,hl,hv⟩:=Ev.iG (its:=ij 0 q) (τ:=[Δ (.lst Ξ (ns.map .int)),Δ (.int k),Δ (.lst Ξ (ss.map fun y=>.str (Hz y))),Δ (.lst Ξ (nm.map .str)),Δ (.int m),Δ (.lst oo (ow.map .str)),Δ (.lst Θ []),Φ,Φ,Φ,Φ]) (body:=Ev.turn (aY T (n+1)) (.nm 7) Py)
  (fun j τ=>∃(hs:List Ho) (c7 c8 c9 Jq:Option D),τ=[Δ (.lst Ξ (ns.map .int)),Δ (.int k),Δ (.lst Ξ (ss.map fun y=>.str (Hz y))),Δ (.lst Ξ (nm.map .str)),Δ (.int m),Δ (.lst oo (ow.map .str)),Δ (.lst Θ (hs.map Ho.d)),c7,c8,c9,Jq]/\hs.length=j/\hs.map (·.nm)=ow.take j/\∀q∈hs,Sl q.sl/\(0<=q.pl/\q.pl<=10007)/\∀xs,q.sm=Δ xs->xs.length<=20/\∀x∈xs,x∈nm)
  ⟨[],Φ,Φ,Φ,Φ,rfl,rfl,rfl,fun p h=>by simp at h⟩ (by
   rintro j x τ hx ⟨hs,b7,b8,b9,Pu,rfl,hl,NI,hv⟩;obtain⟨hj,rfl⟩:=nN hx;obtain⟨y,c8,c9,Jq,e,g1,g2⟩:=AV n ns k0 k1 sl KR hn m0 m1 ol oo (j:=j) (by omega) (hs:=hs) (by omega) b7 b8 b9 Pu;refine⟨_,e,hs++[y],_,c8,c9,Jq,rfl,by rw[w_,hl];rfl,?_,fun z hz=>?_⟩
   ·rw[C_,NI,List.take_succ,g1];rfl
   ·rcases s_.mp hz with hz|hz
    ·exact hv z hz
    ·rw[o_.mp hz];exact g2)
 rw[kW]at hl;refine⟨hs,c7,c8,c9,Jq,e,by omega,?_,fun z hz=>(hv.2 z hz).1,fun z hz=>(hv.2 z hz).2.1,fun z hz=>(hv.2 z hz).2.2,by omega⟩;rw[hv.1];exact List.Nodup.sublist (List.take_sublist _ _) S2
include k0 k1 sl KR hn m0 m1 in
theorem AX (nnd:nm.Nodup):∃hs:List Ho,aY T (n+3) 68 [.lst Ξ (ns.map .int),.int k,.lst Ξ (ss.map fun y=>.str (Hz y)),.lst Ξ (nm.map .str),.int m]=.ok (.lst Θ (hs.map Ho.d))/\hs.length<=3/\SY nm hs:=by
 have ei:=Ev.ib ns;obtain⟨A,eA,lA,Xq,_⟩:=j6 n ns (k:=k) k0 (by omega) (c:=3) (by decide) (by decide);have lA:A.length=3:=lA;have d4:=iy (n+1) ns (k+4) 2 (by omega) (by omega) (by decide);have d5:=iy (n+1) ns (k+5) 4 (by omega) (by omega) (by decide);have q0:=jO ns (k+5) (m:=4) (by decide);have q1:=jV ns (k+5) (m:=4) (by decide);generalize dr ns (k+4) 2=u,dr ns (k+5) 4=q at *;have en:=Ev.g8 nm;have XB:=Ev.jL A;have lm:(nm.map D.str).length=nm.length:=g_ _;have key:=fun(oo:Bool) (ow:List Str) (h1:3<=ow.length) (h2:ow.Nodup)=>AW (n+1) ns k0 k1 sl KR hn m0 m1 oo h1 h2 q0 q1;by_cases hb:2 < nm.length/\u=0
 ·have b1:decide ((2:Int) < (nm.length:Int))=Θ:=u_ (by omega);have b2:(u == 0)=Θ:=by rw[hb.2];rfl
  obtain⟨hs,c7,c8,c9,Jq,e,h1,h2⟩:=key Ξ nm.reverse (by rw[List.length_reverse];omega) ((List.reverse_perm nm).nodup_iff.mpr nnd);refine⟨hs,?_,h1,h2⟩;have rv:(nm.map D.str).reverse=nm.reverse.map .str:=by rw[List.map_reverse]
  have lr:=Ev.jL nm.reverse;have nl:ik (.JE (.v 3))=Ξ:=rfl;have vs:vars (.JE (.v 3))=[3]:=rfl;have Lj:=Ev.g8 nm.reverse;unfold Py S1 at e;rw[gx 68 R9 5 11 Po rfl rfl rfl rfl rfl rfl];unfold Po;generalize ns.map D.int=NS,(ss.map fun y=>D.str (Hz y))=SS,nm.reverse.map D.str=NR,nm.map D.str=NM,A.map D.str=AA,hs.map Ho.d=HH at *;simp![ei,en,eA,XB,lm,b1,d4,b2,rv,lr,nl,vs,Lj,d5,e]
 ·obtain⟨hs,c7,c8,c9,Jq,e,h1,h2⟩:=key Θ A (by omega) Xq;refine⟨hs,?_,h1,h2⟩;unfold Py S1 at e;cases b1:decide ((2:Int) < (nm.length:Int)) with
  |false=>rw[gx 68 R9 5 11 Po rfl rfl rfl rfl rfl rfl];unfold Po;generalize ns.map D.int=NS,(ss.map fun y=>D.str (Hz y))=SS,nm.map D.str=NM,A.map D.str=AA,hs.map Ho.d=HH at *;simp![ei,en,eA,XB,lm,b1,d4,d5,e]
  |true=>have b2:(u == 0)=Ξ:=beq_eq_false_iff_ne.mpr fun z=>hb ⟨by have:=q_ b1;omega,z⟩;rw[gx 68 R9 5 11 Po rfl rfl rfl rfl rfl rfl];unfold Po;generalize ns.map D.int=NS,(ss.map fun y=>D.str (Hz y))=SS,nm.map D.str=NM,A.map D.str=AA,hs.map Ho.d=HH at *;simp![ei,en,eA,XB,lm,b1,d4,b2,d5,e]
end
noncomputable def Lf (m:Nat):List Int:=(List.range m).map fun(k:Nat)=>(k:Int)
theorem uf:∀(l:List Int) (i:Nat) (h:i < l.length),(l[i]::l.eraseIdx i).Perm l
 |x::l,0,h=>.refl _
 |x::l,i+1,h=>by have:=uf l i (Nat.lt_of_succ_lt_succ h);show(l[i]'(Nat.lt_of_succ_lt_succ h)::x::l.eraseIdx i).Perm (x::l);exact(List.Perm.swap x _ _).trans (this.cons x)
theorem AY (n:Nat)(ns:List Int){m:Nat}(hm:m<=20)(a1 a2 a3 a4 a5 a6 a7 a8 a9 LY S3 XC S4 Pz PB PC PD PF PH PJ:Option D) :
  ∃(od:List Int) (Oe:Option D),forM (Ev.turn (aY T (n+1)) (.nm 14) RQ) (ij 0 (m:Int)) [Δ (.lst Ξ (ns.map .int)),a1,a2,a3,a4,a5,a6,a7,a8,a9,LY,S3,Δ (.lst Θ ((Lf m).map .int)),Δ (.lst Θ []),XC,S4,Pz,PB,PC,PD,PF,PH,PJ]=.ok (.nx [Δ (.lst Ξ (ns.map .int)),a1,a2,a3,a4,a5,a6,a7,a8,a9,LY,S3,Δ (.lst Θ []),Δ (.lst Θ (od.map .int)),Oe,S4,Pz,PB,PC,PD,PF,PH,PJ])/\od.Perm (Lf m):=by
 have ei:=Ev.ib ns;obtain⟨τ',e,l,od,Oe,rfl,h1,h2,h3⟩:=Ev.iG (its:=ij 0 (m:Int)) (τ:=[Δ (.lst Ξ (ns.map .int)),a1,a2,a3,a4,a5,a6,a7,a8,a9,LY,S3,Δ (.lst Θ ((Lf m).map .int)),Δ (.lst Θ []),XC,S4,Pz,PB,PC,PD,PF,PH,PJ]) (body:=Ev.turn (aY T (n+1)) (.nm 14) RQ)
  (fun j τ=>∃(l od:List Int) (Oe:Option D),τ=[Δ (.lst Ξ (ns.map .int)),a1,a2,a3,a4,a5,a6,a7,a8,a9,LY,S3,Δ (.lst Θ (l.map .int)),Δ (.lst Θ (od.map .int)),Oe,S4,Pz,PB,PC,PD,PF,PH,PJ]/\l.length+j=m/\od.length=j/\(od++l).Perm (Lf m))
  ⟨Lf m,[],XC,rfl,by unfold Lf;rw[g_,aae];rfl,rfl,.refl _⟩ (by
   rintro j x τ hx ⟨l,od,Oe,rfl,h1,h2,h3⟩;obtain⟨hj,rfl⟩:=nN hx;rw[aak]at hj;obtain⟨z,e1,q0,q1⟩:=JP n ns (410+(j:Int)) (l.length:Int) (by omega) (by omega) (by omega);have ll:(l.map D.int).length=l.length:=g_ _;have hz:z.toNat < l.length:=by omega
   have ap:=fun τ=>Ev.Ak (i:=13) (j:=12) (es:=od.map .int) (ns:=l) (z:=z) (τ:=τ) q0 hz (by omega) (by rw[g_];omega) rfl;refine⟨[Δ (.lst Ξ (ns.map .int)),a1,a2,a3,a4,a5,a6,a7,a8,a9,LY,S3,Δ (.lst Θ ((l.eraseIdx z.toNat).map .int)),Δ (.lst Θ ((od++[l.getD z.toNat 0]).map .int)),Δ (.int (j:Nat)),S4,Pz,PB,PC,PD,PF,PH,PJ],?_,l.eraseIdx z.toNat,od++[l.getD z.toNat 0],_,rfl,by rw[List.length_eraseIdx_of_lt hz];omega,by rw[w_,h2];rfl,?_⟩
   ·have Ld:(od++[l.getD z.toNat 0]).map D.int=od.map .int++[.int (l.getD z.toNat 0)]:=by rw[C_];rfl
    rw[Ld];unfold RQ;generalize ns.map D.int=NS,l.map D.int=LL,od.map D.int=OD at *;simp![Ev.gY,ei,ll,e1,ap]
   ·refine .trans ?_ h3;rw[H_];refine aaA od ?_;rw[aaa,x_ hz]
    exact uf l _ hz)
 rw[kW,aak]at h1 h2;have:l=[]:=List.length_eq_zero_iff.mp (by omega);subst this;rw[aal]at h3;exact⟨od,Oe,e,h3⟩
def SwOk (gn:List Str)(d:D):Prop:=∃(cs:List Nat) (rest:Str) (rs:List Rl) (al:Al) (fr:List (Int×Int)),d=KG (Hz cs) rest rs al fr/\Sl cs/\Vr gn rs/\rs.length<=4/\al.length<=20/\(∀p∈al,p.2.length<=20)/\fr.length<=20
theorem G9 {fs:List Str}(h:fs.length=4):(jj fs Φ (Δ 3)).length=3:=by rcases fs with _|⟨f0,_|⟨f1,_|⟨f2,_|⟨f3,fs⟩⟩⟩⟩<;>simp at h;subst h;rfl
theorem AZ (n:Nat)(ns:List Int){m:Int}(m0:0<=m)(m1:m<=1000000000)(day:Int){ms fs:List Str}(lm:ms.length=3)(lf:fs.length=4){IJ:List Nat}(hs:Sm IJ){c:Int}(hc:Ce c){gn:List Str}(lg:gn.length<=20){ss:List (List Nat)}(sl:ss.length=3)(KR:∀c∈ss,Sl c){nm:List Str}(hn:nm.length<=5){od:List Int}(Mm:∀o∈od,0<=o/\o < nm.length)(lo:od.length<=20){s i:Nat}(hsn:s < nm.length)(hi:ki (s:Int) od=Δ i){L:List Sw}(hL:L.length<=20)(o3 o4 o8 o9 LR LS:Bool)(a7 LY Of Og Pz PB PC PD PF PH PJ:Option D) :
  ∃(q:Sw) (M5 M6 M7 M8 M9 M':Option D),Ev.turn (aY T (n+5)) (.nm 16) Qk (.int (s:Nat)) [Δ (.lst Ξ (ns.map .int)),Δ (.int m),Δ (.int day),Δ (.lst o3 (ms.map .str)),Δ (.lst o4 (fs.map .str)),Δ (.str (Hz IJ)),Δ (.int c),a7,Δ (.lst o8 (gn.map .str)),Δ (.lst o9 (ss.map fun y=>.str (Hz y))),LY,Δ (.lst LR (nm.map .str)),Of,Δ (.lst LS (od.map .int)),Og,Δ (.lst Θ (L.map wD)),Pz,PB,PC,PD,PF,PH,PJ]=.ok (.nx [Δ (.lst Ξ (ns.map .int)),Δ (.int m),Δ (.int day),Δ (.lst Ξ (ms.map .str)),Δ (.lst Ξ (fs.map .str)),Δ (.str (Hz IJ)),Δ (.int c),a7,Δ (.lst Ξ (gn.map .str)),Δ (.lst o9 (ss.map fun y=>.str (Hz y))),LY,Δ (.lst Ξ (nm.map .str)),Of,Δ (.lst Ξ (od.map .int)),Og,Δ (.lst Θ ((L++[q]).map wD)),Δ (.int (s:Nat)),M5,M6,M7,M8,M9,M'])/\nm[s]? = Δ q.nm/\(∀p∈q.nd,∃o∈od.drop (i+1),nm[o.toNat]? = Δ p.1)/\q.nd.length<=2/\SwOk gn q.sw:=by
 have ei:=Ev.ib ns;have eo:HC (od.map D.int)=od.map D.int:=Ev.ib od;have em:=Ev.g8 ms;have ef:=Ev.g8 fs;have eg:=Ev.g8 gn;have en:=Ev.g8 nm;have d1:=iy (n+4) ns (1000+330*(s:Int)) 2 (by omega) (by omega) (by decide);obtain⟨cs,Qu,cm⟩:=ue (ss:=ss) (jO ns (1000+330*(s:Int)) (m:=2) (by decide)) (by rw[sl];have:=jV ns (1000+330*(s:Int)) (m:=2) (by decide);omega);generalize dr ns (1000+330*(s:Int)) 2=u1 at *;have Q4:=KR cs cm;have e1:=oz (n+4) cs Q4.2.1 m m0 m1;obtain⟨p0,p1⟩:=BG cs m;generalize NJ cs m=z at *;obtain⟨rs,e2,lr,vr⟩:=yj n ns (k:=1000+330*(s:Int)+20) (by omega) (by omega) (ms:=ms) (gn:=gn) (fs:=fs) (by omega) (by omega) lg (by omega) (by omega) hs hc p0 p1 day;have d2:=iy (n+4) ns (1000+330*(s:Int)+1) 4 (by omega) (by omega) (by decide);obtain⟨rest,hr,_⟩:=iP (fs:=fs) (jO ns (1000+330*(s:Int)+1) (m:=4) (by decide)) (by rw[lf];exact jV ns (1000+330*(s:Int)+1) (m:=4) (by decide));generalize dr ns (1000+330*(s:Int)+1) 4=u2 at *;have XD:jj (fs.map D.str) Φ (Δ 3)=(jj fs Φ (Δ 3)).map .str:=qJ _ _ _ _;have Xv:=G9 lf;generalize jj fs Φ (Δ 3)=f3 at *;have e3f:=Ev.g8 f3;have lf3:=Ev.jL f3;obtain⟨al,fr,e3,h1n,h2,h3r⟩:=ym (n+3) ns (k:=1000+330*(s:Int)+2) (by omega) (by omega) (fs:=f3) (by omega) (by omega) z;have h1:al.length=f3.length:=by rw[<- h1n,g_]
 obtain⟨ps,e4,lp,hp⟩:=yD (n+3) ns (k:=1000+330*(s:Int)+322) (by omega) (by omega) lo hi (nm:=nm) (fs:=fs) Mm (by omega) (by omega);obtain⟨y,hy,gy⟩:=iP (fs:=nm) (i:=(s:Int)) (by omega) (by omega);have d3:=iy (n+4) ns (1000+330*(s:Int)+328) 6 (by omega) (by omega) (by decide);generalize dr ns (1000+330*(s:Int)+328) 6=u3 at *;have lL:(L.map wD).length=L.length:=g_ _;have err:=DR rs;have erd:=rP rs;have Xw:=yf al;have epr:=i7 fr;have epp:=yo ps;have lpp:=DZ ps;refine⟨⟨y,KG (Hz cs) rest rs al fr,ps,u3 == 0⟩,Δ (.int (1000+330*(s:Int))),Δ (.str (Hz cs)),Δ (.int z),Δ (.lst Ξ (rs.map Rl.d)),Δ (KG (Hz cs) rest rs al fr),Δ (.lst Ξ (ps.map pD)),?_,by rw[<- gy];rfl,hp,lp,cs,rest,rs,al,fr,rfl,Q4,vr,lr,by omega,h2,h3r.1⟩;have Ld:(L++[(⟨y,KG (Hz cs) rest rs al fr,ps,u3 == 0⟩:Sw)]).map wD=L.map wD++[.tup [.str y,.tup [KG (Hz cs) rest rs al fr,.lst Ξ (ps.map pD),.bl (u3 == 0)]]]:=by rw[C_];rfl
 rw[Ld];have ssw:D.tup [.str (Hz cs),.str rest,.lst Ξ (rs.map Rl.d),.tup [.lst Ξ (al.map LB),.lst Ξ (fr.map IC)]]=KG (Hz cs) rest rs al fr:=rfl;have esw:=rT (Hz cs) rest rs al fr;have lsw:hE (KG (Hz cs) rest rs al fr)=Ξ:=rfl;have vsl:vars (.sl (.v 4) Φ (Δ (.c (.int 3))))=[4]:=rfl;generalize KG (Hz cs) rest rs al fr=SW at *;unfold Qk;generalize ns.map D.int=NS,od.map D.int=OD,ms.map D.str=MS,fs.map D.str=FS,gn.map D.str=GN,nm.map D.str=NM,f3.map D.str=F3,(ss.map fun y=>D.str (Hz y))=SS,rs.map Rl.t=RT,rs.map Rl.d=RD,al.map LB=AL,fr.map IC=FR,ps.map pD=PS,L.map wD=WW,Hz cs=SC at *;simp![Ev.gY,ei,eo,em,ef,eg,en,d1,Qu,e1,e2,d2,hr,XD,e3f,lf3,e3,e4,hy,d3,lL,err,erd,Xw,epr,epp,lpp,ssw,esw,lsw,vsl]
theorem pK:o∈Lf m↔0<=o/\o < m:=by
 unfold Lf;rw[List.mem_map];constructor
 ·rintro⟨k,hk,rfl⟩;rw[Y_]at hk;omega
 ·rintro⟨h0,h1⟩;exact⟨o.toNat,Y_.mpr (by omega),by omega⟩
theorem yF (m:Nat):(Lf m).Nodup:=by unfold Lf;refine List.pairwise_map.mpr (List.Pairwise.imp (fun h e=>h (by omega)) (List.nodup_range (n:=m)))
def Uo (gn nm:List Str)(od:List Int)(q:Sw):Prop:=∃s i:Nat,nm[s]? = Δ q.nm/\ki (s:Int) od=Δ i/\(∀p∈q.nd,∃o∈od.drop (i+1),nm[o.toNat]? = Δ p.1)/\q.nd.length<=2/\SwOk gn q.sw
theorem A0 (n:Nat)(ns:List Int){m:Int}(m0:0<=m)(m1:m<=1000000000)(day:Int){ms fs:List Str}(lm:ms.length=3)(lf:fs.length=4){IJ:List Nat}(hs:Sm IJ){c:Int}(hc:Ce c){gn:List Str}(lg:gn.length<=20){ss:List (List Nat)}(sl:ss.length=3)(KR:∀c∈ss,Sl c){nm:List Str}{mm:Nat}(NI:nm.length=mm)(hn:mm<=5){od:List Int}(Mm:od.Perm (Lf mm))(p3 p4 p8 p9 XF XG:Bool)(a7 LY Of Og:Option D) :
  ∃(L:List Sw) (o3 o4 o8 o9 LR LS:Bool) (Oh M5 M6 M7 M8 M9 M':Option D),forM (Ev.turn (aY T (n+5)) (.nm 16) Qk) (ij 0 (mm:Int)) [Δ (.lst Ξ (ns.map .int)),Δ (.int m),Δ (.int day),Δ (.lst p3 (ms.map .str)),Δ (.lst p4 (fs.map .str)),Δ (.str (Hz IJ)),Δ (.int c),a7,Δ (.lst p8 (gn.map .str)),Δ (.lst p9 (ss.map fun y=>.str (Hz y))),LY,Δ (.lst XF (nm.map .str)),Of,Δ (.lst XG (od.map .int)),Og,Δ (.lst Θ []),Φ,Φ,Φ,Φ,Φ,Φ,Φ]=.ok (.nx [Δ (.lst Ξ (ns.map .int)),Δ (.int m),Δ (.int day),Δ (.lst o3 (ms.map .str)),Δ (.lst o4 (fs.map .str)),Δ (.str (Hz IJ)),Δ (.int c),a7,Δ (.lst o8 (gn.map .str)),Δ (.lst o9 (ss.map fun y=>.str (Hz y))),LY,Δ (.lst LR (nm.map .str)),Of,Δ (.lst LS (od.map .int)),Og,Δ (.lst Θ (L.map wD)),Oh,M5,M6,M7,M8,M9,M'])/\IW L=nm/\∀q∈L,Uo gn nm od q:=by
 have hm:∀o∈od,0<=o/\o < nm.length:=fun o h=>by rw[NI];exact pK.mp (Mm.mem_iff.mp h)
 have lo:od.length<=20:=by rw[Mm.length_eq];unfold Lf;rw[g_,aae];omega
 have S2:od.Nodup:=Mm.nodup_iff.mpr (yF mm);obtain⟨τ',e,L,o3,o4,o8,o9,LR,LS,Oh,M5,M6,M7,M8,M9,M',rfl,hl,J8,hv⟩:=Ev.iG (its:=ij 0 (mm:Int)) (τ:=[Δ (.lst Ξ (ns.map .int)),Δ (.int m),Δ (.int day),Δ (.lst p3 (ms.map .str)),Δ (.lst p4 (fs.map .str)),Δ (.str (Hz IJ)),Δ (.int c),a7,Δ (.lst p8 (gn.map .str)),Δ (.lst p9 (ss.map fun y=>.str (Hz y))),LY,Δ (.lst XF (nm.map .str)),Of,Δ (.lst XG (od.map .int)),Og,Δ (.lst Θ []),Φ,Φ,Φ,Φ,Φ,Φ,Φ]) (body:=Ev.turn (aY T (n+5)) (.nm 16) Qk)
  (fun j τ=>∃(L:List Sw) (o3 o4 o8 o9 LR LS:Bool) (Oh M5 M6 M7 M8 M9 M':Option D),τ=[Δ (.lst Ξ (ns.map .int)),Δ (.int m),Δ (.int day),Δ (.lst o3 (ms.map .str)),Δ (.lst o4 (fs.map .str)),Δ (.str (Hz IJ)),Δ (.int c),a7,Δ (.lst o8 (gn.map .str)),Δ (.lst o9 (ss.map fun y=>.str (Hz y))),LY,Δ (.lst LR (nm.map .str)),Of,Δ (.lst LS (od.map .int)),Og,Δ (.lst Θ (L.map wD)),Oh,M5,M6,M7,M8,M9,M']/\L.length=j/\IW L=nm.take j/\∀q∈L,Uo gn nm od q)
  ⟨[],p3,p4,p8,p9,XF,XG,Φ,Φ,Φ,Φ,Φ,Φ,Φ,rfl,rfl,rfl,fun p h=>by simp at h⟩ (by
   rintro j x τ hx ⟨L,o3,o4,o8,o9,LR,LS,Oh,M5,M6,M7,M8,M9,M',rfl,hl,J8,hv⟩;obtain⟨hj,rfl⟩:=nN hx;rw[aak]at hj;obtain⟨i,hi⟩:=aar.mp (Mm.mem_iff.mpr (pK.mpr ⟨by omega,by omega⟩):(j:Int)∈od);have hi:=pJ S2 hi;obtain⟨q,d17,d18,d19,d20,d21,d22,e,g1,g2,g3,g4⟩:=AZ n ns m0 m1 day lm lf hs hc lg sl KR (nm:=nm) (by omega) hm lo (s:=j) (i:=i) (by omega) hi (L:=L) (by omega) o3 o4 o8 o9 LR LS a7 LY Of Og Oh M5 M6 M7 M8 M9 M';refine⟨_,e,L++[q],Ξ,Ξ,Ξ,o9,Ξ,Ξ,_,d17,d18,d19,d20,d21,d22,rfl,by rw[w_,hl];rfl,?_,fun z hz=>?_⟩
   ·unfold IW at J8 ⊢;rw[C_,J8,List.take_succ,g1];rfl
   ·rcases s_.mp hz with hz|hz
    ·exact hv z hz
    ·rw[o_.mp hz];exact⟨j,i,g1,hi,g2,g3,g4⟩)
 refine⟨L,o3,o4,o8,o9,LR,LS,Oh,M5,M6,M7,M8,M9,M',e,?_,hv⟩;rw[J8,kW,aak,<- NI,List.take_length]
noncomputable def at_ (ns:List Str)(x:Str):Nat:=open Classical in if h:∃i,ns[i]? = Δ x then Classical.choose h else 0
theorem ug (nd:ns.Nodup)  (h:ns[i]? = Δ x):at_ ns x=i:=by
 unfold at_;have ex:∃i,ns[i]? = Δ x:=⟨i,h⟩
 rw[dif_pos ex];have hc:=Classical.choose_spec ex;exact List.getElem?_inj (p_.mp hc).1 nd |>.mp (hc.trans h.symm)
noncomputable def Uq (nm:List Str)(od:List Int)(x:Str):Nat:=od.length - (ki (at_ nm x:Int) od).getD 0
theorem Gg (nd:nm.Nodup)  (S2:od.Nodup)(h0:∀o∈od,0<=o)  (h:Uo gn nm od q):∀p∈q.nd,Uq nm od p.1 < Uq nm od q.nm:=by intro p hp;obtain⟨s,i,h1,h2,h3,_⟩:=h;obtain⟨o,ho,g⟩:=h3 p hp;obtain⟨j,hj⟩:=aar.mp ho;rw[List.getElem?_drop]at hj;have z:=h0 o (List.mem_of_mem_drop ho);have e1:=pJ S2 hj;have hl:=(p_.mp (me h2).1).1;unfold Uq;rw[ug nd h1,ug nd g,h2,show((o.toNat:Nat):Int)=o by omega,e1];show od.length - (i+1+j) < od.length - i;omega
theorem BI (h:SwOk gn d):er d=d:=by obtain⟨cs,rest,rs,al,fr,rfl,_⟩:=h;exact rT _ _ _ _ _
theorem Gh (hg:MP gs)(gl:gs.length<=2)(hh:SY nm hs)(hn:IW L=nm)(NI:nm.length=mm)(hm:mm<=5)(nd:nm.Nodup)(Mm:od.Perm (Lf mm))(hv:∀q∈L,Uo (gs.map (·.nm)) nm od q):KW ⟨gs,hs,L⟩:=by
 refine⟨hg,by show gs.length<=20;omega,by rw[hn];exact hh,⟨by show(IW L).Nodup;rw[hn];exact nd,fun q hq p hp=>?_,?_,fun q hq=>?_,fun q hq=>?_⟩,fun n q hq=>?_,Uq nm od,fun q hq=>?_⟩
 ·obtain⟨s,i,h1,h2,h3,_⟩:=hv q hq;obtain⟨o,_,g⟩:=h3 p hp;show p.1∈IW L;rw[hn];exact J_ g
 ·have:=pI L;rw[hn]at this;show L.length<=20;omega
 ·obtain⟨s,i,_,_,_,h4,_⟩:=hv q hq;show q.nd.length<=3;omega
 ·obtain⟨s,i,_,_,_,_,h5⟩:=hv q hq;exact BI h5
 ·obtain⟨s,i,_,_,_,_,h5⟩:=hv q hq;obtain⟨cs,rest,rs,al,fr,e,h6,h7,_⟩:=h5;rw[e];exact nt n h6 rest al fr h7
 ·exact Gg nd (Mm.nodup_iff.mpr (yF mm)) (fun o ho=>(pK.mp (Mm.mem_iff.mp ho)).1) (hv q hq)
theorem yG (n:Nat)(ns:List Int)  (m0:0<=m)(m1:m<=1000000000)(day:Int) :
  ∃(H:Hs) (o1 o2 o3:Bool),aY T (n+6) 69 [.lst Ξ (ns.map .int),.int m,.int day]=.ok (.tup [.lst o1 (H.gs.map Gp.d),.lst o2 (H.hs.map Ho.d),.lst o3 (H.L.map wD)])/\KW H/\∀q∈H.L,∃gn,SwOk gn q.sw:=by
 have ei:=Ev.ib ns;obtain⟨ms,e1,l1,V6,_⟩:=j6 (n+3) ns (k:=0) (by decide) (by decide) (c:=3) (by decide) (by decide);obtain⟨fs,e2,l2,M3,_⟩:=j6 (n+3) ns (k:=50) (by decide) (by decide) (c:=4) (by decide) (by decide);have l1:ms.length=3:=l1;have l2:fs.length=4:=l2;obtain⟨st,e3,Jj⟩:=Aw (n+3) ns (k:=130) (by decide) (by decide);obtain⟨c,e4,hc⟩:=uS (n+3) ns (k:=145) (by decide) (by decide);obtain⟨gs,e5,hg,lg,_⟩:=uT n ns (k:=150) (by decide) (by decide) (ms:=ms) (by omega) (by omega) V6 Jj hc;have fm:g9 (ie (aY T (n+5)) (.nm 0) [] (.idx (.v 0) (.c (.int 0))) [Φ]) (gs.map Gp.d)=.ok ((gs.map (·.nm)).map .str):=Ev.iB Gp.d (·.nm) .str gs fun g _=>by have x0:ir g.d (.int 0)=.ok (.str g.nm):=rfl;generalize g.d=G at *;simp![x0]
 have lgd:(gs.map Gp.d).length=gs.length:=g_ _;obtain⟨s1,e6,Yl⟩:=ml (n+3) ns (k:=100) (by decide) (by decide);obtain⟨s2,e7,Kx⟩:=ml (n+3) ns (k:=115) (by decide) (by decide);obtain⟨s3,e8,Tj⟩:=ml (n+3) ns (k:=285) (by decide) (by decide);have KR:∀c∈[s1,s2,s3],Sl c:=fun c h=>by
  simp only[k_,S_,or_false]at h;rcases h with rfl|rfl|rfl
  ·exact Yl
  ·exact Kx
  ·exact Tj
 obtain⟨u,d1,q0,q1⟩:=JP (n+4) ns 148 5 (by decide) (by decide) (by decide);obtain⟨mm,hmm⟩:∃mm:Nat,1+u=(mm:Int):=⟨(1+u).toNat,by omega⟩
 obtain⟨nm,e9,l9,Zw,_⟩:=j6 (n+3) ns (k:=400) (by decide) (by decide) (c:=(mm:Int)) (by omega) (by omega);rw[aak]at l9;have Qp:=Ev.jL nm;obtain⟨od,Oe,e10,Mm⟩:=AY (n+4) ns (m:=mm) (by omega) (Δ (.int m)) (Δ (.int day)) (Δ (.lst Ξ (ms.map .str))) (Δ (.lst Θ (fs.map .str))) (Δ (.str (Hz st))) (Δ (.int c)) (Δ (.lst Θ (gs.map Gp.d))) (Δ (.lst Θ ((gs.map (·.nm)).map .str))) (Δ (.lst Θ ([s1,s2,s3].map fun y=>.str (Hz y)))) (Δ (.int (mm:Nat))) (Δ (.lst Θ (nm.map .str))) Φ Φ Φ Φ Φ Φ Φ Φ Φ;obtain⟨L,o3,o4,o8,o9,LR,LS,Oh,M5,M6,M7,M8,M9,M',e11,hL,hv⟩:=A0 n ns m0 m1 day l1 l2 Jj hc (gn:=gs.map (·.nm)) (by rw[g_];omega) (ss:=[s1,s2,s3]) rfl KR (nm:=nm) l9 (by omega) Mm Ξ Θ Θ Θ Θ Θ (Δ (.lst Θ (gs.map Gp.d))) (Δ (.int (mm:Nat))) (Δ (.lst Θ [])) Oe;obtain⟨hs,X6,lh,hh⟩:=AX (n+2) ns (k:=500) (by decide) (by decide) (ss:=[s1,s2,s3]) rfl KR (nm:=nm) (by omega) m0 m1 Zw;refine⟨⟨gs,hs,L⟩,Θ,Θ,Θ,?_,Gh hg lg hh hL l9 (by omega) Zw Mm hv,fun q hq=>by obtain⟨s,i,_,_,_,_,h5⟩:=hv q hq;exact⟨_,h5⟩⟩;have em:=Ev.g8 ms;have ef:=Ev.g8 fs;have en:=Ev.g8 nm;have eg:=pG gs;have lgn:=Ev.jL (gs.map (·.nm));have egn:=Ev.g8 (gs.map (·.nm));have gr:decide (0<=(mm:Int)/\(mm:Int)<=1000)=Θ:=u_ (by omega);have rg:(List.range (mm:Int).toNat).map (fun k=>D.int (k:Nat))=(Lf mm).map .int:=by unfold Lf;rw[y_,aak];rfl
 have lrg:=Ev.rM (Lf mm);have Qq:HC ([s1,s2,s3].map fun y=>D.str (Hz y))=[s1,s2,s3].map fun y=>D.str (Hz y):=rfl;have nlr:ik (.JU (.v 10))=Θ:=rfl;have l33:([s1,s2,s3].map fun y=>D.str (Hz y)).length=3:=rfl;have s33:[D.str (Hz s1),.str (Hz s2),.str (Hz s3)]=[s1,s2,s3].map fun y=>D.str (Hz y):=rfl;have go:aY T (n+6) 69 [.lst Ξ (ns.map .int),.int m,.int day]=_:=gx 69 W8 3 23 W6 rfl rfl rfl rfl rfl rfl;rw[go];unfold W6;show _=Except.ok (D.tup [.lst Θ (gs.map Gp.d),.lst Θ (hs.map Ho.d),.lst Θ (L.map wD)]);generalize ns.map D.int=NS,ms.map D.str=MS,fs.map D.str=FS,(gs.map (·.nm)).map D.str=GN,gs.map Gp.d=GD,nm.map D.str=NM,([s1,s2,s3].map fun y=>D.str (Hz y))=SS,od.map D.int=OD,(Lf mm).map D.int=RG,hs.map Ho.d=HH,L.map wD=LL,RQ=tod,Qk=ths at *;simp -implicitDefEqProofs (disch:=omega) only[Ih,Nat.reduceBEq,Nat.reduceSub,Nat.reduceAdd,reduceIte,Ev.HX,Ev.HY,Ev.eL,Ev.eM,↓Ev.Ic,↓Ev.Ie,↓Ev.Ig,Ev.H0,Ev.Ia,Ev.Ib,cond_true,cond_false,b_,List.map_nil,c_,List.nil_append,Bool.true_or,Bool.false_or,Ev.gE,Ev.gF,Ev.gG,Ev.gH,Ev.gJ,Ev.gK,Ev.ff,Ev.fg,Ev.gQ,Ev.gU,Ev.cU,Ev.aV,Ev.fA,Ev.fB,Ev.cV,Ev.cW,Ev.fy,Ev.cX,Ev.ba,Ev.dw,Ev.aA,Ev.bc,Ev.bf,Ev.bg,Ev.dz,Ev.aC,Ev.bo,Ev.bq,Ev.dB,Ev.aD,Ev.br,Ev.aE,Ev.bt,Ev.bu,Ev.bw,Ev.bx,Ev.bA,Ev.dH,Ev.aF,Ev.bC,Ev.aG,Ev.aH,Ev.aI,Ev.bK,Ev.bL,Ev.aJ,Ev.aK,Ev.dM,Ev.dN,Ev.bP,Ev.aM,Ev.aN,Ev.aO,Ev.ae,Ev.ao,Ev.aP,Ev.bX,Ev.dZ,Ev.d6,Ev.bY,Ev.eh,Ev.ek,Ev.cb,Ev.cf,Ev.cv,Ev.cx,Ev.cz,Ev.cA,Ev.cB,Ev.eB,Ev.eC,Ev.cC,Ev.aR,Ev.cD,Ev.aT,Ev.cG,Ev.dg,Ev.dt,Ev.HG,Ev.HJ,Ev.HK,Ev.du,Ev.dv,Ev.bb,Ev.dy,Ev.aB,Ev.dA,Ev.fE,Ev.dC,Ev.dD,Ev.dE,Ev.dF,Ev.dG,Ev.fF,Ev.bB,Ev.fG,Ev.fH,Ev.fI,Ev.fJ,Ev.fK,Ev.bD,Ev.bE,Ev.bF,Ev.fL,Ev.bG,Ev.bH,Ev.bJ,Ev.dI,Ev.dJ,Ev.bM,Ev.fM,Ev.fN,Ev.bN,Ev.fO,Ev.fP,Ev.fQ,Ev.fR,Ev.aL,Ev.fS,Ev.aj,Ev.ak,Ev.bQ,Ev.dO,Ev.dP,Ev.dQ,Ev.fT,Ev.fU,Ev.fV,Ev.HL,Ev.HF,Ev.Hr,Ev.Ht,Ev.Hu,Ev.Hd,Ev.HM,Ev.dR,Ev.dS,Ev.dU,Ev.dW,Ev.dX,Ev.fW,Ev.fX,Ev.bR,Ev.bT,Ev.bU,Ev.He,Ev.bV,Ev.dY,Ev.bW,Ev.fY,Ev.fZ,Ev.aQ,Ev.bZ,Ev.HN,Ev.HP,Ev.HQ,Ev.HR,Ev.Hf,Ev.cg,Ev.ck,Ev.cq,Ev.cu,Ev.cw,Ev.Hg,Ev.cy,Ev.Hh,Ev.Hl,Ev.Hk,Ev.Hv,Ev.Hm,Ev.Ha,Ev.Hb,Ev.C',Ev.f6,Ev.f7,Ev.eE,Ev.eF,Ev.eG,Ev.eI,Ev.dq,Ev.de,Ev.dh,Ev.f9,Ev.gb,Ev.eJ,Ev.eK,Ev.eN,Ev.aZ,Ev.cE,Ev.eO,Ev.cF,Ev.eP,Ev.gc,Ev.gf,Ev.gh,Ev.gk,Ev.gm,Ev.gq,Ev.gu,Ev.gA,Ev.gB,Ev.gC,Ev.gD,Ev.eQ,Ev.HU,Ev.HV,Ev.HW,Ev.cH,Ev.cJ,Ev.eS,Ev.eU,Ev.eV,Ev.cK,Ev.cL,Ev.aU,Ev.aq,Ev.au,Ev.eW,Ev.cM,Ev.cN,Ev.cO,Ev.cP,Ev.av,Ev.aw,Ev.ax,Ev.ay,Ev.az,Ev.af,Ev.ag,Ev.ah,Ev.ai,Ev.aa,Ev.fq,Ev.ft,Ev.fu,Ev.fw,Ev.fx,Ev.cQ,Ev.cR,Ev.cS,Ev.cT,Ev.gM,Ev.gP,Ev.gR,Ev.aW,Ev.cY,Ev.fC,Ev.aX,Ev.cZ,ei,em,ef,en,eg,lgn,egn,e1,e2,e3,e4,e5,fm,lgd,e6,e7,e8,d1,hmm,e9,Qp,gr,rg,lrg,s33,l33,Qq,nlr,e10,e11,X6]
def Ur (nm:List Str)(q:Sw):Prop:=∃s:Nat,nm[s]? = Δ q.nm/\(∀p∈q.nd,nm[s+1]? = Δ p.1)/\q.nd.length<=1/\SwOk [] q.sw
theorem A1 (n:Nat)(ns:List Int)  (ln:nm.length=20)  (hj:j < 20)  (hl:L.length=j)(o5:Bool)(a1 a2 a3 a4 b7 b8 b9 Pu:Option D) :
  ∃(q:Sw) (L1 L2:List Sw) (c7 c8 c9 Jq:Option D),L=L1++L2/\Ev.turn (aY T (n+2)) (.nm 7) Pg (.int (j:Nat)) [Δ (.lst Ξ (ns.map .int)),a1,a2,a3,a4,Δ (.lst o5 (nm.map .str)),Δ (.lst Θ (L.map wD)),b7,b8,b9,Pu]=.ok (.nx [Δ (.lst Ξ (ns.map .int)),a1,a2,a3,a4,Δ (.lst o5 (nm.map .str)),Δ (.lst Θ ((L1++q::L2).map wD)),c7,c8,c9,Jq])/\nm[j]? = Δ q.nm/\Ur nm q:=by
 have ei:=Ev.ib ns;obtain⟨y,hy,gy⟩:=iP (fs:=nm) (i:=(j:Int)) (by omega) (by omega);have gy:nm[j]? = Δ y:=gy;obtain⟨cs,e1,Qu⟩:=ml n ns (k:=600+15*(j:Int)) (by omega) (by omega);obtain⟨z,e2,q0,q1⟩:=JP (n+1) ns (405+(j:Int)) ((L.length:Int)+1) (by omega) (by omega) (by omega);have lL:(L.map wD).length=L.length:=g_ _;have gd:decide (0<=z/\z.toNat<=L.length)=Θ:=u_ (by omega);have so:SwOk [] (KG (Hz cs) (Ρ "off") [] [(Ρ "on",[(0,10007)])] []):=⟨cs,_,[],_,[],rfl,Qu,fun r h=>by simp at h,by simp,by simp,fun p h=>by rw[o_.mp h];simp,by simp⟩
 cases hb:decide ((j:Int) < 19) with
 |true=>
  have:=q_ hb;obtain⟨y2,Rj,XH⟩:=iP (fs:=nm) (i:=(j:Int)+1) (by omega) (by omega);have XH:nm[j+1]? = Δ y2:=XH;refine⟨⟨y,KG (Hz cs) (Ρ "off") [] [(Ρ "on",[(0,10007)])] [],[(y2,Ρ "on")],Ξ⟩,L.take z.toNat,L.drop z.toNat,Δ (.int (j:Nat)),Δ (.str y),Δ (.lst Ξ [.tup [.str y2,.str "on"]]),Δ (.tup [.tup [.str (Hz cs),.str "off",.lst Ξ [],.tup [.lst Ξ [.tup [.str "on",.lst Ξ [.tup [.int 0,.int 10007]]]],.lst Ξ []]],.lst Ξ [.tup [.str y2,.str "on"]],.bl Ξ]),(List.take_append_drop _ _).symm,?_,gy,j,gy,fun p hp=>by rw[o_.mp hp];exact XH,by simp,so⟩;have PK:(L.take z.toNat++(⟨y,KG (Hz cs) (Ρ "off") [] [(Ρ "on",[(0,10007)])] [],[(y2,Ρ "on")],Ξ⟩:Sw)::L.drop z.toNat).map wD=(L.map wD).take z.toNat++.tup [.str y,.tup [.tup [.str (Hz cs),.str "off",.lst Ξ [],.tup [.lst Ξ [.tup [.str "on",.lst Ξ [.tup [.int 0,.int 10007]]]],.lst Ξ []]],.lst Ξ [.tup [.str y2,.str "on"]],.bl Ξ]]::(L.map wD).drop z.toNat:=by rw[C_,b_,List.map_take,List.map_drop];rfl
  rw[PK];unfold Pg;generalize ns.map D.int=NS,nm.map D.str=NM,L.map wD=LL,Hz cs=SC at *;simp![Ev.gY,ei,hy,hb,Rj,e1,e2,lL,gd]
 |false=>
  refine⟨⟨y,KG (Hz cs) (Ρ "off") [] [(Ρ "on",[(0,10007)])] [],[],Ξ⟩,L.take z.toNat,L.drop z.toNat,Δ (.int (j:Nat)),Δ (.str y),Δ (.lst Ξ []),Δ (.tup [.tup [.str (Hz cs),.str "off",.lst Ξ [],.tup [.lst Ξ [.tup [.str "on",.lst Ξ [.tup [.int 0,.int 10007]]]],.lst Ξ []]],.lst Ξ [],.bl Ξ]),(List.take_append_drop _ _).symm,?_,gy,j,gy,fun p hp=>by simp at hp,by simp,so⟩;have PK:(L.take z.toNat++(⟨y,KG (Hz cs) (Ρ "off") [] [(Ρ "on",[(0,10007)])] [],[],Ξ⟩:Sw)::L.drop z.toNat).map wD=(L.map wD).take z.toNat++.tup [.str y,.tup [.tup [.str (Hz cs),.str "off",.lst Ξ [],.tup [.lst Ξ [.tup [.str "on",.lst Ξ [.tup [.int 0,.int 10007]]]],.lst Ξ []]],.lst Ξ [],.bl Ξ]]::(L.map wD).drop z.toNat:=by rw[C_,b_,List.map_take,List.map_drop];rfl
  rw[PK];unfold Pg;generalize ns.map D.int=NS,nm.map D.str=NM,L.map wD=LL,Hz cs=SC at *;simp![Ev.gY,ei,hy,hb,e1,e2,lL,gd]
theorem A4 (n:Nat)(ns:List Int)  (ln:nm.length=20)(o5:Bool)(a1 a2 a3 a4:Option D) :
  ∃(L:List Sw) (c7 c8 c9 Jq:Option D),forM (Ev.turn (aY T (n+2)) (.nm 7) Pg) (ij 0 20) [Δ (.lst Ξ (ns.map .int)),a1,a2,a3,a4,Δ (.lst o5 (nm.map .str)),Δ (.lst Θ []),Φ,Φ,Φ,Φ]=.ok (.nx [Δ (.lst Ξ (ns.map .int)),a1,a2,a3,a4,Δ (.lst o5 (nm.map .str)),Δ (.lst Θ (L.map wD)),c7,c8,c9,Jq])/\L.length=20/\(IW L).Perm nm/\∀q∈L,Ur nm q:=by
 obtain⟨τ',e,L,c7,c8,c9,Jq,rfl,hl,hp,hv⟩:=Ev.iG (its:=ij 0 20) (τ:=[Δ (.lst Ξ (ns.map .int)),a1,a2,a3,a4,Δ (.lst o5 (nm.map .str)),Δ (.lst Θ []),Φ,Φ,Φ,Φ]) (body:=Ev.turn (aY T (n+2)) (.nm 7) Pg)
  (fun j τ=>∃(L:List Sw) (c7 c8 c9 Jq:Option D),τ=[Δ (.lst Ξ (ns.map .int)),a1,a2,a3,a4,Δ (.lst o5 (nm.map .str)),Δ (.lst Θ (L.map wD)),c7,c8,c9,Jq]/\L.length=j/\(IW L).Perm (nm.take j)/\∀q∈L,Ur nm q)
  ⟨[],Φ,Φ,Φ,Φ,rfl,rfl,.refl _,fun p h=>by simp at h⟩ (by
   rintro j x τ hx ⟨L,c7,c8,c9,Jq,rfl,hl,hp,hv⟩;obtain⟨hj,rfl⟩:=nN hx;have hj:j < 20:=hj;obtain⟨q,L1,L2,d7,d8,d9,d10,rfl,e,g1,g2⟩:=A1 n ns ln hj hl o5 a1 a2 a3 a4 c7 c8 c9 Jq;refine⟨_,e,L1++q::L2,d7,d8,d9,d10,rfl,?_,?_,fun z hz=>?_⟩
   ·rw[w_]at hl ⊢;rw[List.length_cons];omega
   ·unfold IW at hp ⊢;rw[List.take_succ,g1];refine((List.perm_middle (l₁:=L1) (l₂:=L2) (a:=q)).map (·.nm)).trans ?_;show(q.nm::(L1++L2).map (·.nm)).Perm (nm.take j++[q.nm]);exact(hp.cons q.nm).trans (List.perm_append_singleton _ _).symm
   ·rcases s_.mp hz with hz|hz
    ·exact hv z (t_ _ hz)
    ·rcases k_.mp hz with rfl|hz
     ·exact g2
     ·exact hv z (v_ _ hz))
 have l20:(ij 0 20).length=20:=rfl;rw[l20]at hl hp;rw[List.take_of_length_le (by omega)]at hp;exact⟨L,c7,c8,c9,Jq,e,hl,hp,hv⟩
theorem Gi (ln:nm.length=20)(nd:nm.Nodup)  (hl:L.length=20)(hp:(IW L).Perm nm)(hv:∀q∈L,Ur nm q):KW ⟨[],[],L⟩:=by
 refine⟨⟨fun g h=>by simp at h,by simp,fun g h=>by simp at h⟩,by simp,⟨by simp,fun g h=>by simp at h,fun g h=>by simp at h,fun g h=>by simp at h,by simp⟩,⟨hp.nodup_iff.mpr nd,fun q hq p XI=>?_,by show L.length<=20;omega,fun q hq=>?_,fun q hq=>?_⟩,fun n q hq=>?_,fun x=>20 - at_ nm x,fun q hq p XI=>?_⟩
 ·obtain⟨s,_,h2,_⟩:=hv q hq;exact hp.mem_iff.mpr (J_ (h2 p XI))
 ·obtain⟨s,_,_,h3,_⟩:=hv q hq;show q.nd.length<=3;omega
 ·obtain⟨s,_,_,_,h4⟩:=hv q hq;exact BI h4
 ·obtain⟨s,_,_,_,h4⟩:=hv q hq;obtain⟨cs,rest,rs,al,fr,e,h6,h7,_⟩:=h4;rw[e];exact nt n (gn:=[]) h6 rest al fr h7
 ·obtain⟨s,h1,h2,_⟩:=hv q hq;have h2:=h2 p XI;have:=(p_.mp h2).1;show 20 - at_ nm p.1 < 20 - at_ nm q.nm;rw[ug nd h1,ug nd h2];omega
theorem Gj:Ρ "x" = Hz [120]:=by decide +kernel
theorem yI (n:Nat)(ns:List Int):∃(H:Hs) (o1 o2 o3:Bool),aY T (n+3) 70 [.lst Ξ (ns.map .int)]=.ok (.tup [.lst o1 (H.gs.map Gp.d),.lst o2 (H.hs.map Ho.d),.lst o3 (H.L.map wD)])/\KW H/\∀q∈H.L,∃gn,SwOk gn q.sw:=by
 have ei:=Ev.ib ns;obtain⟨st,d0,a0,a1⟩:=JP (n+1) ns 403 26 (by decide) (by decide) (by decide);obtain⟨u,d1,f0,f1⟩:=JP (n+1) ns 404 4 (by decide) (by decide) (by decide);obtain⟨sp,Lh,SM⟩:∃sp:Int,(∀o,ir (.lst o [.int 1,.int 7,.int 25,.int 11]) (.int u)=.ok (.int sp))/\sp∈([1,7,25,11]:List Int):=by
  rcases(show u=0∨u=1∨u=2∨u=3 by omega) with rfl|rfl|rfl|rfl
  ·exact⟨1,fun _=>rfl,by decide⟩
  ·exact⟨7,fun _=>rfl,by decide⟩
  ·exact⟨25,fun _=>rfl,by decide⟩
  ·exact⟨11,fun _=>rfl,by decide⟩
 have rn:ij 0 20=(jc 20).map .int:=Ev.kS 0 20;have ln:((jc 20).map D.int).length=20:=by rw[g_,ku];rfl
 have r0:=Int.emod_nonneg st (show(2:Int)≠0 by decide);have r1:=Int.emod_lt_of_pos st (show(0:Int) < 2 by decide);have sx:Txt.slice (Ρ "x") Φ (Δ (st % 2))=Hz ([120].take (st % 2).toNat):=by rw[Gj];exact jM (cs:=[120]) r0 (by show st % 2<=1;omega)
 have lx:(Ρ "x").length=1:=by decide +kernel
 have tl:([120].take (st % 2).toNat).length<=1:=by rw[O_];exact Nat.min_le_right _ _
 generalize [120].take (st % 2).toNat=tx at *;have fm:g9 (ie (aY T (n+2)) (.nm 3) [] (.bin .add (.idx (.v 0) (.bin .mod (.bin .add (.v 1) (.bin .mul (.v 2) (.v 3))) (.c (.int 26)))) (.sl (.c (.str "x")) Φ (Δ (.bin .mod (.v 1) (.c (.int 2)))))) [Δ (.str "abcdefghijklmnopqrstuvwxyz"),Δ (.int st),Δ (.int sp),Φ]) ((jc 20).map .int)=.ok (((jc 20).map fun j=>Hz ([97+((st+sp*j) % 26).toNat]++tx)).map .str):=by refine Ev.iB .int (fun j=>Hz ([97+((st+sp*j) % 26).toNat]++tx)) .str _ fun j hj=>?_;have:=nq hj;have c0:=Int.emod_nonneg (st+sp*j) (show(26:Int)≠0 by decide);have c1:=Int.emod_lt_of_pos (st+sp*j) (show(0:Int) < 26 by decide);have ab:=lQ c0 c1;rw[kT]at ab;have p1:=jE (a:=[97+((st+sp*j) % 26).toNat]) (b:=tx) (by rw[R_];omega);simp![sx,lx,ab,p1]
 have nd:((jc 20).map fun j=>Hz ([97+((st+sp*j) % 26).toNat]++tx)).Nodup:=xZ fun x y x0 x1 y0 y1 e=>by have h2:=List.append_cancel_right (mq e);have h3:97+((st+sp*x) % 26).toNat=97+((st+sp*y) % 26).toNat:=List.head_eq_of_cons_eq h2;have n1:=Int.emod_nonneg (st+sp*x) (show(26:Int)≠0 by decide);have n2:=Int.emod_nonneg (st+sp*y) (show(26:Int)≠0 by decide);exact FU (st:=st) SM x0 x1 y0 y1 (by omega)
 have ln2:((jc 20).map fun j=>Hz ([97+((st+sp*j) % 26).toNat]++tx)).length=20:=by rw[g_,ku];rfl
 generalize(jc 20).map (fun j=>Hz ([97+((st+sp*j) % 26).toNat]++tx))=nm at *;have Qp:=Ev.jL nm;have KP:=Ev.g8 nm;obtain⟨L,c7,c8,c9,Jq,e,hl,hp,hv⟩:=A4 n ns ln2 Θ (Δ (.str "abcdefghijklmnopqrstuvwxyz")) (Δ (.int st)) (Δ (.int sp)) (Δ (.lst Θ (nm.map .str)));refine⟨⟨[],[],L⟩,Θ,Θ,Θ,?_,Gi ln2 nd hl hp hv,fun q hq=>by obtain⟨s,_,_,_,h4⟩:=hv q hq;exact⟨_,h4⟩⟩;show _=Except.ok (D.tup [.lst Θ [],.lst Θ [],.lst Θ (L.map wD)]);rw[rn]at e;have go:aY T (n+3) 70 [.lst Ξ (ns.map .int)]=_:=gx 70 Xc 1 11 Xb rfl rfl rfl rfl rfl rfl;rw[go];unfold Xb;generalize ns.map D.int=NS,nm.map D.str=NM,L.map wD=LL,Pg=tch,(jc 20).map D.int=JC at *;simp![ei,d0,d1,Lh,rn,ln,fm,Qp,KP,e]
theorem yJ {α:Type}{n:Nat}{e:α->D}:∀(xs:List α),(∀x∈xs,pl n (e x)=Θ)->KD n (xs.map e)=Θ
 |[],_=>rfl
 |x::xs,h=>by show(pl n (e x)&&KD n (xs.map e))=Θ;rw[h x (.head _),yJ xs fun y hy=>h y (.tail _ hy)];rfl
theorem jz {α:Type}{n:Nat}{e:α->D}{xs:List α}(hl:xs.length<=100)(h:∀x∈xs,pl n (e x)=Θ):pl (n+1) (.lst Ξ (xs.map e))=Θ:=by have d1:decide ((xs.map e).length < 1000)=Θ:=u_ (by rw[g_];omega);show(Θ&&(KD n (xs.map e)&&decide ((xs.map e).length < 1000)))=Θ;rw[yJ xs h,d1];rfl
theorem Gk (n:Nat){c:Cn}(h:c.ts.length<=2):pl (n+7) c.d=Θ:=by
 have h:=jz (n:=n+5) (e:=Tn.d) (xs:=c.ts) (by omega) fun t _=>by cases t<;>rfl
 show((Θ&&(Θ&&(pl (n+6) (.lst Ξ (c.ts.map Tn.d))&&Θ)))&&Θ)=Θ;rw[h];rfl
theorem BJ (n:Nat){r:List Cn}(hl:r.length<=100)(h:∀c∈r,c.ts.length<=2):pl (n+8) (JI r)=Θ:=jz hl fun c hc=>Gk n (h c hc)
theorem Gn (n:Nat){gs:List Gp}(hg:MP gs)(hl:gs.length<=20):pl (n+11) (.lst Ξ (gs.map Gp.d))=Θ:=jz (by omega) fun g XJ=>by have h:=jz (n:=n+8) (e:=JI) (xs:=g.rows) (hg.len g XJ).1 fun r hr=>BJ n ((hg.len g XJ).2 r hr) fun c hc=>(hg.ok g XJ r hr c hc).1.len;show((Θ&&(pl (n+9) (.lst Ξ (g.rows.map JI))&&Θ))&&Θ)=Θ;rw[h];rfl
theorem r6 (n:Nat){l:List (Int×Int)}(hl:l.length<=100):pl (n+3) (.lst Ξ (l.map IC))=Θ:=jz hl fun _ _=>rfl
theorem Gq {gn:List Str}{r:Rl}(h:(∀c∈r.cs,Vc gn c)/\r.cs.length<=2/\∀f sg,r.o=.share f sg->sg.length<=3/\Sg (-1) sg):pl 9 r.d=Θ:=by
 have h1:=BJ 0 (r:=r.cs) (by omega) fun c hc=>(h.1 c hc).len;have h2:pl 8 r.o.d=Θ:=by
  cases ho:r.o with
  |face f=>rfl
  |share f sg=>have:=(h.2.2 f sg ho).1;have h3:=r6 4 (l:=sg) (by omega);show((Θ&&(Θ&&(pl 7 (.lst Ξ (sg.map IC))&&Θ)))&&Θ)=Θ;rw[h3];rfl
  |Pr=>rfl
 show((pl 8 (JI r.cs)&&(pl 8 r.o.d&&Θ))&&Θ)=Θ;rw[h1,h2];rfl
theorem Gr {al:Al}{fr:List (Int×Int)}(h1:al.length<=20)(h2:∀p∈al,p.2.length<=20)(h3:fr.length<=20):pl 10 (Qm al fr)=Θ:=by
 have a1:=jz (n:=8) (e:=LB) (xs:=al) (by omega) fun p hp=>by have:=h2 p hp;have h3:=r6 4 (l:=p.2) (by omega);show((Θ&&(pl 7 (.lst Ξ (p.2.map IC))&&Θ))&&Θ)=Θ;rw[h3];rfl
 have a2:=r6 6 (l:=fr) (by omega);show((pl 9 (.lst Ξ (al.map LB))&&(pl 9 (.lst Ξ (fr.map IC))&&Θ))&&Θ)=Θ;rw[a1,a2];rfl
theorem Gs {gn:List Str}{d:D}(h:SwOk gn d):pl 11 d=Θ:=by obtain⟨cs,rest,rs,al,fr,rfl,_,hr,lr,h1,h2,h3⟩:=h;have a2:=jz (n:=9) (e:=Rl.d) (xs:=rs) (by omega) fun r NA=>Gq (hr r NA);have a3:=Gr h1 h2 h3;show((Θ&&(Θ&&(pl 10 (.lst Ξ (rs.map Rl.d))&&(pl 10 (Qm al fr)&&Θ))))&&Θ)=Θ;rw[a2,a3];rfl
theorem Gu {H:Hs}(h:KW H)(hs:∀q∈H.L,∃gn,SwOk gn q.sw):pl 15 H.d=Θ:=by
 have a1:=Gn 3 h.g h.gl;have a2:=jz (n:=13) (e:=Ho.d) (xs:=H.hs) (by have:=h.h.len;omega) fun q hq=>by
  have s:pl 12 (NN q.sm)=Θ:=by
   cases OU:q.sm with
   |none=>rfl
   |some xs=>exact jz (n:=11) (by have:=(h.h.sm q hq xs OU).1;omega) fun _ _=>rfl
  show((Θ&&(Θ&&(Θ&&(pl 12 (NN q.sm)&&Θ))))&&Θ)=Θ;rw[s];rfl
 have a3:=jz (n:=13) (e:=wD) (xs:=H.L) (by have:=h.l.len;omega) fun q hq=>by
  obtain⟨gn,OU⟩:=hs q hq;have s1:=Gs OU;have s2:=jz (n:=10) (e:=pD) (xs:=q.nd) (by have:=h.l.Ui q hq;omega) fun _ _=>rfl;have s3:pl 12 (eD q)=Θ:=by show((pl 11 q.sw&&(pl 11 (.lst Ξ (q.nd.map pD))&&(Θ&&Θ)))&&Θ)=Θ;rw[s1,s2];rfl
  show((Θ&&(pl 12 (eD q)&&Θ))&&Θ)=Θ;rw[s3];rfl
 show((pl 14 (.lst Ξ (H.gs.map Gp.d))&&(pl 14 (.lst Ξ (H.hs.map Ho.d))&&(pl 14 (.lst Ξ (H.L.map wD))&&Θ)))&&Θ)=Θ;rw[a1,a2,a3];rfl
theorem uh {H:Hs}(h:KW H){d':D}(ed:er d'=H.d)(ld:hE d'=Ξ)(a0 a1 a2 b6:Option D)(x:Int){bs:List D}(hb:bs.length<=20)(b5:Option D) :
  Ev.turn (aY T 16) (.nm 5) T8 (.int x) [a0,a1,a2,Δ d',Δ (.lst Θ bs),b5,b6]=.ok (.nx [a0,a1,a2,Δ d',Δ (.lst Θ (bs++[.bl Θ])),Δ (.int x),Δ (.bl Θ)]):=by
 have e:=uY 9 h;unfold T8;generalize H.d=HD at *;simp![Ev.gY,ed,ld,e]
theorem nu (ns:List Int){H:Hs}(h:KW H)(hs:∀q∈H.L,∃gn,SwOk gn q.sw)(o1 o2 o3:Bool)(a2:Option D) :
  ia (aY T 16) RU [Δ (.lst Ξ (ns.map .int)),Δ (.tup [.lst o1 (H.gs.map Gp.d),.lst o2 (H.hs.map Ho.d),.lst o3 (H.L.map wD)]),a2,Φ,Φ,Φ,Φ]=.ok (.rt (.bl Θ)):=by
 have hp:=Gu h hs;obtain⟨d',e1,ed⟩:=copy 15 1 hp;have e2:aY T 16 64 [H.d,H.d]=.ok (.bl Θ):=same 15 1 hp;have e3:aY T 16 64 [.lst Ξ [.bl Θ,.bl Θ],.lst Ξ [.bl Θ,.bl Θ]]=.ok (.bl Θ):=same 3 13 rfl;have ld:hE d'=Ξ:=by
  cases hb:hE d' with
  |false=>rfl
  |true=>have:d'=H.d:=(qd hb).symm.trans ed;rw[this]at hb;cases hb
 have lg:=pG H.gs;have lh:=rZ H.hs;have lw:=tZ h.l;have sH:D.tup [.lst Ξ (H.gs.map Gp.d),.lst Ξ (H.hs.map Ho.d),.lst Ξ (H.L.map wD)]=H.d:=rfl;have rn:ij 0 2=[.int 0,.int 1]:=rfl;have eH:=tG 15 _ hp;have t1:=fun a0 a1 a2 b6 x b5=>uh h ed ld a0 a1 a2 b6 x (bs:=[]) (by simp) b5;have t2:=fun a0 a1 a2 b6 x b5=>uh h ed ld a0 a1 a2 b6 x (bs:=[.bl Θ]) (by simp) b5;unfold RU;generalize H.gs.map Gp.d=GD,H.hs.map Ho.d=HH,H.L.map wD=LL,ns.map D.int=NS,H.d=HD,T8=tty at *;simp![lg,lh,lw,sH,e1,ld,rn,Ev.de,Ev.dq,t1,t2,ed,eH,e2,e3]
theorem Gv:KW ⟨[],[],[]⟩:=⟨⟨fun g h=>by simp at h,by simp,fun g h=>by simp at h⟩,by simp,⟨by simp,fun g h=>by simp at h,fun g h=>by simp at h,fun g h=>by simp at h,by simp⟩,⟨by simp[IW],fun q h=>by simp at h,by simp,fun q h=>by simp at h,fun q h=>by simp at h⟩,fun n q h=>by simp at h,fun _=>0,fun q h=>by simp at h⟩
theorem Ee (ns:List Int):aY T (16+1) 71 [.lst Ξ (ns.map .int)]=.ok (.bl Θ):=by
 have ei:=Ev.ib ns;obtain⟨m,e1,m0,m1⟩:=DI 14 ns (k:=120) (by decide) (by decide);have d1:=iy 15 ns 147 1000 (by decide) (by decide) (by decide);generalize dr ns 147 1000=day at *;obtain⟨H1,p1,p2,p3,e2,h1,k1⟩:=yG 10 ns m0 m1 day;obtain⟨H2,q1,q2,q3,e3,h2,k2⟩:=yI 13 ns;have d2:=iy 15 ns 399 24 (by decide) (by decide) (by decide);generalize dr ns 399 24=w at *;have t1:=fun a2=>nu ns h1 k1 p1 p2 p3 a2;have t2:=fun a2=>nu ns h2 k2 q1 q2 q3 a2;have t3:∀a2,ia (aY T 16) RU [Δ (.lst Ξ (ns.map .int)),Δ (.tup [.lst Θ [],.lst Θ [],.lst Θ []]),a2,Φ,Φ,Φ,Φ]=.ok (.rt (.bl Θ)):=fun a2=>nu ns Gv (fun q h=>by simp at h) Θ Θ Θ a2;rw[gx 71 Ue 1 7 Xd rfl rfl rfl rfl rfl rfl];unfold Xd;generalize ns.map D.int=NS,H1.gs.map Gp.d=G1,H1.hs.map Ho.d=O1,H1.L.map wD=L1,H2.gs.map Gp.d=G2,H2.hs.map Ho.d=O2,H2.L.map wD=L2,RU=tlw at *;cases b1:decide (w < 4) with
 |true=>have b2:decide ((20:Int) < w)=Ξ:=G_ (by have:=q_ b1;omega);simp![ei,e1,d1,e2,d2,b1,e3,b2,t2]
 |false=>
  cases b2:decide ((20:Int) < w) with
  |true=>simp![ei,e1,d1,e2,d2,b1,b2,t3]
  |false=>simp![ei,e1,d1,e2,d2,b1,b2,t1]
theorem holds (ns:List Int)(h:ns.length<=63):aY T (16+1) DG [.lst Ξ (ns.map .int)]=.ok (.bl Θ):=Ee ns
end Law
namespace PySem.W.Fast
theorem tw10998298316357550693:True:=⟨⟩
theorem tw14164895385100030390:True:=⟨⟩
theorem tw13762532245171628776:True:=⟨⟩
theorem tw7289457279237070235:True:=⟨⟩
theorem tw2153045414180013344:True:=⟨⟩
theorem tw12567095763013321450:True:=⟨⟩
theorem tw11771197722980022210:True:=⟨⟩
theorem tw898757965634543301:True:=⟨⟩
theorem tw10525603449553798725:True:=⟨⟩
theorem tw14217332094084998684:True:=⟨⟩
theorem tw9417025979569369103:True:=⟨⟩
theorem tw2602643921991982209:True:=⟨⟩
theorem tw14332080324402393160:True:=⟨⟩
theorem tw6842407703403679292:True:=⟨⟩
theorem tw14472538652101963077:True:=⟨⟩
theorem tw14620704619814760240:True:=⟨⟩
theorem tw11115700509959877837:True:=⟨⟩
theorem tw16595017217416291852:True:=⟨⟩
theorem tw2200001783356936907:True:=⟨⟩
theorem tw2098588645137127690:True:=⟨⟩
theorem tw3462256600503409560:True:=⟨⟩
theorem tw7125714377900593301:True:=⟨⟩
theorem tw16060945136935056712:True:=⟨⟩
theorem tw3191033844406445252:True:=⟨⟩
theorem tw7589988852498579766:True:=⟨⟩
theorem tw43025338937614832:True:=⟨⟩
theorem tw12981603286586162031:True:=⟨⟩
theorem tw11248956292758289913:True:=⟨⟩
theorem tw6010589470980472714:True:=⟨⟩
theorem tw174310698249470786:True:=⟨⟩
theorem tw10311394832572650238:True:=⟨⟩
theorem tw8719052467127184998:True:=⟨⟩
theorem tw6881824400678762777:True:=⟨⟩
theorem tw5368575603473016406:True:=⟨⟩
theorem tw9117379806347104754:True:=⟨⟩
theorem tw721276343838150718:True:=⟨⟩
theorem tw7710145841134018938:True:=⟨⟩
theorem tw8236495294010395195:True:=⟨⟩
theorem tw5686953631588838311:True:=⟨⟩
theorem tw6449461297875803261:True:=⟨⟩
theorem tw10063018277135156685:True:=⟨⟩
theorem tw3923685551822299118:True:=⟨⟩
theorem tw17769601694072484718:True:=⟨⟩
theorem tw16336093929800597308:True:=⟨⟩
theorem tw17284534155334028591:True:=⟨⟩
theorem tw7923848756543533469:True:=⟨⟩
theorem tw17617209806547304877:True:=⟨⟩
theorem tw1833733839539679662:True:=⟨⟩
theorem tw12205654615980148006:True:=⟨⟩
theorem tw950859270038739771:True:=⟨⟩
theorem tw13400021756303042612:True:=⟨⟩
theorem tw7584165244235733568:True:=⟨⟩
theorem tw12229270495392887446:True:=⟨⟩
theorem tw5886794799455307329:True:=⟨⟩
theorem tw2280044558360772192:True:=⟨⟩
theorem tw2337570656604220402:True:=⟨⟩
theorem tw13675239257544417079:True:=⟨⟩
theorem tw4569410481213315908:True:=⟨⟩
theorem tw1228856790805327979:True:=⟨⟩
theorem tw4175395898073948029:True:=⟨⟩
theorem tw6148524010170358346:True:=⟨⟩
theorem tw2576858696753926777:True:=⟨⟩
theorem tw15339397396552240397:True:=⟨⟩
theorem tw2579102101011404996:True:=⟨⟩
theorem tw521250425749541635:True:=⟨⟩
theorem tw3712514649275686738:True:=⟨⟩
theorem tw13403866861194751032:True:=⟨⟩
theorem tw7187371499168698743:True:=⟨⟩
theorem tw4884492786500427385:True:=⟨⟩
theorem tw15615681619758429623:True:=⟨⟩
theorem tw16578760442191375017:True:=⟨⟩
theorem tw791492370973518717:True:=⟨⟩
theorem tw5187517145411828895:True:=⟨⟩
theorem tw3156446208774547858:True:=⟨⟩
theorem tw5997908974450514827:True:=⟨⟩
theorem tw13999059922281822384:True:=⟨⟩
theorem tw4435899240320664996:True:=⟨⟩
theorem tw14702572104128098358:True:=⟨⟩
theorem tw7439211265461837190:True:=⟨⟩
theorem tw7079924431369591049:True:=⟨⟩
theorem tw7583826648444878660:True:=⟨⟩
theorem tw9255118750855950722:True:=⟨⟩
theorem tw12414143087676819027:True:=⟨⟩
theorem tw1092632670307031900:True:=⟨⟩
theorem tw12743531340090453976:True:=⟨⟩
theorem tw12350610179972013992:True:=⟨⟩
theorem tw18082714084783950633:True:=⟨⟩
theorem tw7583331067742733911:True:=⟨⟩
theorem tw12853492024884602841:True:=⟨⟩
theorem tw16149422117808282888:True:=⟨⟩
theorem tw14770436280827135293:True:=⟨⟩
theorem tw6466464229505929251:True:=⟨⟩
theorem tw18019526727501885395:True:=⟨⟩
theorem tw10940302506441659115:True:=⟨⟩
theorem tw15115346278786267241:True:=⟨⟩
theorem tw6213086963702837090:True:=⟨⟩
theorem tw18329928535533694132:True:=⟨⟩
theorem tw12499196274605244967:True:=⟨⟩
theorem tw9619482893177439256:True:=⟨⟩
theorem tw14479650070399406592:True:=⟨⟩
theorem tw2994655878970114237:True:=⟨⟩
theorem tw16158936281310514500:True:=⟨⟩
theorem tw17652338869281714449:True:=⟨⟩
theorem tw13493153646829181585:True:=⟨⟩
theorem tw6072227243432692626:True:=⟨⟩
theorem tw2346127533715049825:True:=⟨⟩
theorem tw11970358844755816120:True:=⟨⟩
theorem tw6386621949878209917:True:=⟨⟩
theorem tw6608440770743409084:True:=⟨⟩
theorem tw17214369872798594126:True:=⟨⟩
theorem tw6378739476831720052:True:=⟨⟩
theorem tw5347930767467467039:True:=⟨⟩
theorem tw16211681851062233424:True:=⟨⟩
theorem tw16142137879407671014:True:=⟨⟩
theorem tw1527629909182065513:True:=⟨⟩
theorem tw15320309832266097739:True:=⟨⟩
theorem tw5501607419956016918:True:=⟨⟩
theorem tw4443774280455436955:True:=⟨⟩
theorem tw14314286530087345970:True:=⟨⟩
theorem tw2105511697905108385:True:=⟨⟩
theorem tw17491424579554049588:True:=⟨⟩
theorem tw9205460257164209436:True:=⟨⟩
theorem tw11456156174357569045:True:=⟨⟩
theorem tw12420869374116118342:True:=⟨⟩
theorem tw2718741071190988575:True:=⟨⟩
theorem tw3593421593979840428:True:=⟨⟩
theorem tw6330964707297608073:True:=⟨⟩
theorem tw8931780566889616560:True:=⟨⟩
theorem tw4151544340434778897:True:=⟨⟩
theorem tw15132043756238665844:True:=⟨⟩
end PySem.W.Fast
open PySem PySem.W PyProof.Rows
set_option maxRecDepth 100000 in
set_option maxHeartbeats 0 in
theorem PySem.Challenge.cw_flagroll_k35_houses_let_by_holds : PySem.Challenge.rw_flagroll_k35_houses_let_by.Holds := by
  w_on; o_law; k_head; (case hw =>w_witness2)
  k_fill
  refine L2.xD (l :=PySem.Challenge.rw_flagroll_k35_houses_let_by) (T :=Law.T) (n :=16) (f :=Law.DG) (x :=Law.Am) rfl rfl ⟨fun _ =>rfl,by decide,by decide⟩ (fun w h Y =>PySem.W.kIn_of Y) ?F Law.holds
  case F =>
    intro w mg fa h KX G hmg
    refine' Law.all_mk KX G hmg (Law.dfo Law.c32 rfl (fun _ _ _ _ _ _ =>Law.ln1 fun _ =>rfl) KX G ?a32 ?l32 ?e32 ?k32) (Law.dfo Law.c25 rfl (fun _ _ _ _ _ _ =>Law.ln4 fun _ _ _ _ =>rfl) KX G ?a25 ?l25 ?e25 ?k25) (Law.dfo Law.c33 rfl (fun _ _ _ _ _ _ =>Law.ln2 fun _ _ =>rfl) KX G ?a33 ?l33 ?e33 ?k33) (Law.dfo Law.c34 rfl (fun _ _ _ _ _ _ =>Law.ln1 fun _ =>rfl) KX G ?a34 ?l34 ?e34 ?k34) (Law.dfo Law.c35 rfl (fun _ _ _ _ _ _ =>Law.ln2 fun _ _ =>rfl) KX G ?a35 ?l35 ?e35 ?k35) (Law.dfo Law.c36 rfl (fun _ _ _ _ _ _ =>Law.ln2 fun _ _ =>rfl) KX G ?a36 ?l36 ?e36 ?k36) (Law.dfo Law.c26 rfl (fun _ _ _ _ _ _ =>Law.ln1 fun _ =>rfl) KX G ?a26 ?l26 ?e26 ?k26) (Law.dfo Law.c37 rfl (fun _ _ _ _ _ _ =>Law.ln1 fun _ =>rfl) KX G ?a37 ?l37 ?e37 ?k37) (Law.dfo Law.c38 rfl (fun _ _ _ _ _ _ =>Law.ln1 fun _ =>rfl) KX G ?a38 ?l38 ?e38 ?k38) (Law.dfo Law.c39 rfl (fun _ _ _ _ _ _ =>Law.ln2 fun _ _ =>rfl) KX G ?a39 ?l39 ?e39 ?k39) (Law.dfo Law.c40 rfl (fun _ _ _ _ _ _ =>Law.ln2 fun _ _ =>rfl) KX G ?a40 ?l40 ?e40 ?k40) (Law.dfo Law.c41 rfl (fun _ _ _ _ _ _ =>Law.ln2 fun _ _ =>rfl) KX G ?a41 ?l41 ?e41 ?k41) (Law.dfo Law.c42 rfl (fun _ _ _ _ _ _ =>Law.ln1 fun _ =>rfl) KX G ?a42 ?l42 ?e42 ?k42) (Law.dfo Law.c59 rfl (fun _ _ _ _ _ _ =>Law.ln1 fun _ =>rfl) KX G ?a59 ?l59 ?e59 ?k59) (Law.dfo Law.c60 rfl (fun _ _ _ _ _ _ =>Law.ln2 fun _ _ =>rfl) KX G ?a60 ?l60 ?e60 ?k60) (Law.dfo Law.c61 rfl (fun _ _ _ _ _ _ =>Law.ln3 fun _ _ _ =>rfl) KX G ?a61 ?l61 ?e61 ?k61) (Law.dfo Law.c62 rfl (fun _ _ _ _ _ _ =>Law.ln1 fun _ =>rfl) KX G ?a62 ?l62 ?e62 ?k62) (Law.dfo Law.c63 rfl (fun _ _ _ _ _ _ =>Law.ln1 fun _ =>rfl) KX G ?a63 ?l63 ?e63 ?k63) (Law.dfo Law.c66 rfl (fun _ _ _ _ _ _ =>Law.ln1 fun _ =>rfl) KX G ?a66 ?l66 ?e66 ?k66) (Law.dfo Law.c43 rfl (fun _ _ _ _ _ _ =>Law.ln3 fun _ _ _ =>rfl) KX G ?a43 ?l43 ?e43 ?k43) (Law.dfo Law.c44 rfl (fun _ _ _ _ _ _ =>Law.ln3 fun _ _ _ =>rfl) KX G ?a44 ?l44 ?e44 ?k44) (Law.dfo Law.c45 rfl (fun _ _ _ _ _ _ =>Law.ln2 fun _ _ =>rfl) KX G ?a45 ?l45 ?e45 ?k45) (Law.dfo Law.c46 rfl (fun _ _ _ _ _ _ =>Law.ln2 fun _ _ =>rfl) KX G ?a46 ?l46 ?e46 ?k46) (Law.dfo Law.c47 rfl (fun _ _ _ _ _ _ =>Law.ln2 fun _ _ =>rfl) KX G ?a47 ?l47 ?e47 ?k47) (Law.dfo Law.c48 rfl (fun _ _ _ _ _ _ =>Law.ln4 fun _ _ _ _ =>rfl) KX G ?a48 ?l48 ?e48 ?k48) (Law.dfo Law.c49 rfl (fun _ _ _ _ _ _ =>Law.ln2 fun _ _ =>rfl) KX G ?a49 ?l49 ?e49 ?k49) (Law.dfo Law.c50 rfl (fun _ _ _ _ _ _ =>Law.ln3 fun _ _ _ =>rfl) KX G ?a50 ?l50 ?e50 ?k50) (Law.dfo Law.c51 rfl (fun _ _ _ _ _ _ =>Law.ln2 fun _ _ =>rfl) KX G ?a51 ?l51 ?e51 ?k51) (Law.dfo Law.c52 rfl (fun _ _ _ _ _ _ =>Law.ln3 fun _ _ _ =>rfl) KX G ?a52 ?l52 ?e52 ?k52) (Law.dfo Law.c53 rfl (fun _ _ _ _ _ _ =>Law.ln4 fun _ _ _ _ =>rfl) KX G ?a53 ?l53 ?e53 ?k53) (Law.dfo Law.c54 rfl (fun _ _ _ _ _ _ =>Law.ln6 fun _ _ _ _ _ _ =>rfl) KX G ?a54 ?l54 ?e54 ?k54) (Law.dfo Law.c55 rfl (fun _ _ _ _ _ _ =>Law.ln5 fun _ _ _ _ _ =>rfl) KX G ?a55 ?l55 ?e55 ?k55) (Law.dfo Law.c56 rfl (fun _ _ _ _ _ _ =>Law.ln4 fun _ _ _ _ =>rfl) KX G ?a56 ?l56 ?e56 ?k56) (Law.dfo Law.c57 rfl (fun _ _ _ _ _ _ =>Law.ln5 fun _ _ _ _ _ =>rfl) KX G ?a57 ?l57 ?e57 ?k57) (Law.dfo Law.c58 rfl (fun _ _ _ _ _ _ =>Law.ln9 fun _ _ _ _ _ _ _ _ _ =>rfl) KX G ?a58 ?l58 ?e58 ?k58) (Law.dfo Law.c67 rfl (fun _ _ _ _ _ _ =>Law.ln6 fun _ _ _ _ _ _ =>rfl) KX G ?a67 ?l67 ?e67 ?k67) (Law.dfo Law.c68 rfl (fun _ _ _ _ _ _ =>Law.ln5 fun _ _ _ _ _ =>rfl) KX G ?a68 ?l68 ?e68 ?k68) (Law.dfo Law.c69 rfl (fun _ _ _ _ _ _ =>Law.ln3 fun _ _ _ =>rfl) KX G ?a69 ?l69 ?e69 ?k69) (Law.dfo Law.c64 rfl (fun _ _ _ _ _ _ =>Law.ln2 fun _ _ =>rfl) KX G ?a64 ?l64 ?e64 ?k64) (Law.dfo Law.c65 rfl (fun _ _ _ _ _ _ =>Law.ln1 fun _ =>rfl) KX G ?a65 ?l65 ?e65 ?k65) (Law.dfo Law.c70 rfl (fun _ _ _ _ _ _ =>Law.ln1 fun _ =>rfl) KX G ?a70 ?l70 ?e70 ?k70) ?a71 ?l71 ?e71 ?k71 ?q21 ?q22 ?q27 ?r27 ?q28 ?q29 ?q30 ?q23 ?q24 ?q31 ?r31 ?z0 ?z1 ?z2 ?z3 ?z4 ?z5 ?z6 ?z7 ?z8 ?z9 ?z10 ?z11 ?z12 ?z13 ?z14 ?z15 ?z16 ?z17 ?z18 ?z19 ?z20
    (case a32|l32|e32|k32|a25|l25|e25|k25|a33|l33|e33|k33|a34|l34|e34|k34|a35|l35|e35|k35|a36|l36|e36|k36|a26|l26|e26|k26|a37|l37|e37|k37|a38|l38|e38|k38|a39|l39|e39|k39|a40|l40|e40|k40|a41|l41|e41|k41|a42|l42|e42|k42|a59|l59|e59|k59|a60|l60|e60|k60|a61|l61|e61|k61|a62|l62|e62|k62|a63|l63|e63|k63|a66|l66|e66|k66|a43|l43|e43|k43|a44|l44|e44|k44|a45|l45|e45|k45|a46|l46|e46|k46|a47|l47|e47|k47|a48|l48|e48|k48|a49|l49|e49|k49|a50|l50|e50|k50|a51|l51|e51|k51|a52|l52|e52|k52|a53|l53|e53|k53|a54|l54|e54|k54|a55|l55|e55|k55|a56|l56|e56|k56|a57|l57|e57|k57|a58|l58|e58|k58|a67|l67|e67|k67|a68|l68|e68|k68|a69|l69|e69|k69|a64|l64|e64|k64|a65|l65|e65|k65|a70|l70|e70|k70|a71|l71|e71|k71|q21|q22|q27|r27|q28|q29|q30|q23|q24|q31|r31|z0|z1|z2|z3|z4|z5|z6|z7|z8|z9|z10|z11|z12|z13|z14|z15|z16|z17|z18|z19|z20=>k_is)
#print axioms PySem.Challenge.cw_flagroll_k35_houses_let_by_holds
