import PyProof.Rows.All
import Wide.All
import OpenK.AllK
import Wide.FinOn
import Lean
import PyProof.EqAt
import PyProof.EqKinds
import PyProof.TupleCall
import PyProof.NeKinds
import KE.KRevIter
import KE.KSortTup
import Wide.Txt2
import PyProof.FString4
import KE.KIntText
import PyProof.ZipIter
import PyProof.TupleIter
import PyProof.WalksMore
import PyProof.Rows.SortShell
import KE.KDictSum
import PyProof.Rows.SortStr
import PyProof.Rows.SetFrom
import PyProof.DictUpdate
import KE.KDictOf
import PyProof.AttrMissSeq
import KE.KDictList
import KE.KDictIter
import PyProof.Rows.SortWalk
import PyProof.EnumMake
import PyProof.EnumFor
import PyProof.Rows.EnumRows
import KE.KIsAll
import PyProof.ExcArgsOwn
import PyProof.ExcAttrAll.ValueError
import OpenK.KDescr
import PyProof.StationsW
import OpenK.KOwn
import KE.KTryMore
import OpenK.KRaise
import PyProof.RulesDel
import PyProof.RulesAs
import PyProof.Rows.Catch
import PySem.Challenge.RW_flagroll_k31_decided
open PySem.W (Frag)
theorem a_:type_of% @PySem.wpAny_bind:=@PySem.wpAny_bind
theorem b_:type_of% @List.map_cons:=@List.map_cons
theorem c_:type_of% @List.cons_append:=@List.cons_append
theorem d_:type_of% @if_neg:=@if_neg
theorem e_:type_of% @PySem.wpAny_pure:=@PySem.wpAny_pure
theorem f_:type_of% @if_pos:=@if_pos
theorem g_:type_of% @Bool.and_eq_true:=@Bool.and_eq_true
theorem h_:type_of% @LawfulBEq.eq_of_beq:=@LawfulBEq.eq_of_beq
theorem i_:type_of% @PySem.Heap.lt_size:=@PySem.Heap.lt_size
theorem j_:type_of% @List.length_map:=@List.length_map
theorem k_:type_of% @List.mem_cons:=@List.mem_cons
theorem l_:type_of% @PySem.Heap.get?_push_of_some:=@PySem.Heap.get?_push_of_some
theorem m_:type_of% @Nat.ne_of_lt:=@Nat.ne_of_lt
theorem n_:type_of% @Nat.le_refl:=@Nat.le_refl
theorem o_:type_of% @Bool.false_ne_true:=@Bool.false_ne_true
theorem p_:type_of% @of_decide_eq_true:=@of_decide_eq_true
theorem q_:type_of% @List.mem_append_left:=@List.mem_append_left
theorem r_:type_of% @List.mem_append_right:=@List.mem_append_right
theorem s_:type_of% @List.nodup_append:=@List.nodup_append
theorem t_:type_of% @List.mem_singleton:=@List.mem_singleton
theorem u_:type_of% @PySem.Heap.get?_push_size:=@PySem.Heap.get?_push_size
theorem v_:type_of% @List.getElem?_eq_some_iff:=@List.getElem?_eq_some_iff
theorem w_:type_of% @List.length_append:=@List.length_append
theorem x_:type_of% @List.mem_append:=@List.mem_append
theorem y_:type_of% @List.getElem?_eq_getElem:=@List.getElem?_eq_getElem
theorem z_:type_of% @Nat.lt_of_lt_of_le:=@Nat.lt_of_lt_of_le
theorem A_:type_of% @List.size_toArray:=@List.size_toArray
theorem B_:type_of% @List.getElem?_map:=@List.getElem?_map
theorem C_:type_of% @List.append_assoc:=@List.append_assoc
theorem D_:type_of% @Bool.and_eq_true_iff:=@Bool.and_eq_true_iff
theorem E_:type_of% @List.map_map:=@List.map_map
theorem F_:type_of% @Option.some.inj:=@Option.some.inj
theorem G_:type_of% @List.mem_cons_of_mem:=@List.mem_cons_of_mem
theorem H_:type_of% @List.nodup_cons:=@List.nodup_cons
theorem I_:type_of% @decide_eq_true:=@decide_eq_true
theorem J_:type_of% @PySem.W.mg_none_of:=@PySem.W.mg_none_of
theorem K_:type_of% @PySem.wpAny_holding:=@PySem.wpAny_holding
theorem L_:type_of% @PySem.wpAny_field:=@PySem.wpAny_field
theorem M_:type_of% @Nat.le_trans:=@Nat.le_trans
theorem N_:type_of% @Array.length_toList:=@Array.length_toList
theorem O_:type_of% @Nat.ne_of_gt:=@Nat.ne_of_gt
theorem P_:type_of% @List.not_mem_nil:=@List.not_mem_nil
theorem Q_:type_of% @decide_eq_false:=@decide_eq_false
theorem R_:type_of% @Nat.lt_irrefl:=@Nat.lt_irrefl
theorem S_:type_of% @PySem.Heap.size_push:=@PySem.Heap.size_push
theorem T_:type_of% @List.map_append:=@List.map_append
theorem U_:type_of% @List.all_eq_true:=@List.all_eq_true
theorem V_:type_of% @List.length_singleton:=@List.length_singleton
theorem W_:type_of% @PySem.wpAny_seqItems:=@PySem.wpAny_seqItems
theorem X_:type_of% @Bool.or_eq_true:=@Bool.or_eq_true
theorem Y_:type_of% @List.mem_range:=@List.mem_range
theorem Z_:type_of% @List.foldl_cons:=@List.foldl_cons
theorem aaa:type_of% @Nat.zero_le:=@Nat.zero_le
theorem aab:type_of% @PySem.wpAny_call_entry:=@PySem.wpAny_call_entry
theorem aac:type_of% @PySem.wpAny_setField_rec:=@PySem.wpAny_setField_rec
theorem aad:type_of% @List.map_congr_left:=@List.map_congr_left
theorem aag:type_of% @List.mem_of_getElem?:=@List.mem_of_getElem?
theorem aah:type_of% @PySem.Heap.get?_update_other:=@PySem.Heap.get?_update_other
theorem aai:type_of% @List.perm_append_comm:=@List.perm_append_comm
theorem aaj:type_of% @List.append_nil:=@List.append_nil
theorem aak:type_of% @Nat.le_add_right:=@Nat.le_add_right
theorem aal:type_of% @List.Perm.append_left:=@List.Perm.append_left
theorem aam:type_of% @List.length_range:=@List.length_range
theorem aan:type_of% @List.length_take:=@List.length_take
theorem aao:type_of% @List.getElem?_append_left:=@List.getElem?_append_left
theorem aap:type_of% @List.length_drop:=@List.length_drop
theorem aaq:type_of% @PySem.Heap.get?_update_self:=@PySem.Heap.get?_update_self
theorem aar:type_of% @PySem.wpAny_newObj_type:=@PySem.wpAny_newObj_type
theorem aas:type_of% @Bool.false_eq_true:=@Bool.false_eq_true
theorem aat:type_of% @Array.getElem?_toList:=@Array.getElem?_toList
theorem aau:type_of% @PySem.wpAny_pyIter_list:=@PySem.wpAny_pyIter_list
theorem aav:type_of% @List.getElem_mem:=@List.getElem_mem
theorem aaw:type_of% @List.getD_eq_getElem?_getD:=@List.getD_eq_getElem?_getD
theorem aax:type_of% @List.getElem?_set_ne:=@List.getElem?_set_ne
theorem aay:type_of% @PyProof.Rows.callWith_type1:=@PyProof.Rows.callWith_type1
theorem aaz:type_of% @PySem.Heap.SameBut.update:=@PySem.Heap.SameBut.update
theorem aaA:type_of% @List.mem_iff_getElem?:=@List.mem_iff_getElem?
theorem aaB:type_of% @List.lookup_cons:=@List.lookup_cons
theorem aaC:type_of% @List.singleton_append:=@List.singleton_append
theorem aaD:type_of% @List.mem_cons_self:=@List.mem_cons_self
theorem aaE:type_of% @List.getElem?_append_right:=@List.getElem?_append_right
theorem aaF:type_of% @PySem.wpAny_Call_Name_kw:=@PySem.wpAny_Call_Name_kw
theorem aaG:type_of% @Int.toNat_natCast:=@Int.toNat_natCast
theorem aaH:type_of% @PySem.Around.under_plainId:=@PySem.Around.under_plainId
theorem aaI:type_of% @Option.map_eq_some_iff:=@Option.map_eq_some_iff
theorem aaJ:type_of% @List.getElem?_cons_succ:=@List.getElem?_cons_succ
open Option renaming some → Δ
open Bool renaming true → Θ
open Bool renaming false → Ξ
open Option renaming none → Φ
open PySem renaming Value → Ψ
open PySem renaming Addr → Ω
open PySem renaming Shared → Α
open PySem renaming World → Β
open PySem renaming Program → Ε
open PySem renaming sizeLine → Ζ
open PySem renaming mainGlobals → Η
open PySem renaming Around → Ι
open PySem renaming wpAny → Κ
open PySem renaming model → Μ
open PySem renaming starEach → Ν
open PySem renaming FuncData → Ο
open PySem.Str renaming ofString → Ρ
open List renaming replicate → Τ
open PySem.NameKind renaming free → Υ
open PySem.Builtin.List renaming listExtendWith → Χ
open PySem.Builtin.SmallTypes renaming nextOf → ζ
open PySem.Builtin.SmallTypes renaming ownedTupleIsFree → η
open PySem.Value renaming ref → θ
open PySem.Obj renaming mapSeq → ι
namespace L2
theorem zE:type_of% @PySem.Expr.casesOn.{0}:=@PySem.Expr.casesOn.{0}
theorem zS:type_of% @PySem.Stmt.casesOn.{0}:=@PySem.Stmt.casesOn.{0}
end L2
set_option maxHeartbeats 8000000
set_option Elab.async false
set_option linter.all false
set_option maxRecDepth 100000
namespace L2
open PySem PySem.Spec PyProof.Rows
abbrev Key:=Sum Int Str
noncomputable def xB:Key->Ψ->Bool
 | .inl k,v=>Value.isInt k v
 | .inr x,v=>Value.isStrOf x v
noncomputable def Eo (w:Β):Key->Int
 | .inl k=>hashInt k
 | .inr x=>hashStr w x
theorem cV:∀ {k:Key}{v:Ψ},xB k v=Θ->(∃ i t,k=Sum.inl i/\v=Value.int i t)∨(∃ x t,k=Sum.inr x/\v=Value.str x t)
 | .inl i,v,h=>by obtain⟨t,e⟩:=Value.isInt_shape (k:=i) (v:=v) h;exact .inl ⟨i,t,rfl,e⟩
 | .inr x,v,h=>by obtain⟨t,e⟩:=Value.isStrOf_shape (x:=x) (v:=v) h;exact .inr ⟨x,t,rfl,e⟩
theorem zk (a b:Int):decide ((Sum.inl a:Key)=Sum.inl b)=(a == b):=by
 by_cases e:a=b
 ·subst e;simp
 ·have h:¬ (Sum.inl a:Key)=Sum.inl b:=fun q=>e (Sum.inl.inj q);rw[Q_ h];exact(beq_eq_false_iff_ne.mpr e).symm
theorem zl (a b:Str):decide ((Sum.inr a:Key)=Sum.inr b)=decide (a=b):=by
 by_cases e:a=b
 ·subst e;simp
 ·have h:¬ (Sum.inr a:Key)=Sum.inr b:=fun q=>e (Sum.inr.inj q);rw[Q_ h,Q_ e]
theorem zm (a:Int)(b:Str):decide ((Sum.inl a:Key)=Sum.inr b)=Ξ:=Q_ (fun q=>nomatch q)
theorem zo (a:Str)(b:Int):decide ((Sum.inr a:Key)=Sum.inl b)=Ξ:=Q_ (fun q=>nomatch q)
noncomputable def ib (prog:Ε)(w:Β):PySem.KeyKind prog w Key where
 is:=xB
 hash:=Eo w
 inj:=fun v a b ha hb=>by
  rcases cV ha with ⟨i,t,rfl,rfl⟩|⟨x,t,rfl,rfl⟩
  ·rcases cV hb with ⟨j,u,rfl,e⟩|⟨y,u,rfl,e⟩
   ·injection e with e1 _;rw[e1]
   ·exact nomatch e
  ·rcases cV hb with ⟨j,u,rfl,e⟩|⟨y,u,rfl,e⟩
   ·exact nomatch e
   ·injection e with e1 _;rw[e1]
 byValue:=fun k v h=>by rcases cV h with ⟨i,t,rfl,rfl⟩|⟨x,t,rfl,rfl⟩<;>rfl
 pyHash:=fun hv h=>by
  rcases cV hv with ⟨i,t,rfl,rfl⟩|⟨x,t,rfl,rfl⟩
  ·exact wpAny_pyHash_int h
  ·exact wpAny_pyHash_str h
 eqBool:=fun hu hv h=>by
  rcases cV hu with ⟨i,t,rfl,rfl⟩|⟨x,t,rfl,rfl⟩
  ·rcases cV hv with ⟨j,u,rfl,rfl⟩|⟨y,u,rfl,rfl⟩
   ·rw[zk] at h;exact wpAny_eqBool_int h
   ·rw[zm] at h;exact SeqAt.EqAt.int_str i t y u _ _ _ _ h
  ·rcases cV hv with ⟨j,u,rfl,rfl⟩|⟨y,u,rfl,rfl⟩
   ·rw[zo] at h;exact SeqAt.EqAt.str_int x t j u _ _ _ _ h
   ·rw[zl] at h;exact wpAny_eqBool_str h
 «strs»:=fun k x t v h=>by
  rcases cV h with ⟨i,u,rfl,e⟩|⟨y,u,rfl,e⟩
  ·exact nomatch e
  ·injection e with e1 _;subst e1;cases v<;>rfl
inductive V where
 | Fy|bl (b:Bool)|int (i:Int)|str (x:Str)|LY (b:Array UInt8)|QG (b:UInt64)|ref (a:Ω)|ty (n:String)
 deriving DecidableEq
def RelV:V->Ψ->Prop
 | .Fy,u=>u=Value.none
 | .bl b,u=>u=Value.bool b
 | .int i,u=>∃ t,u=Value.int i t
 | .str x,u=>∃ t,u=Value.str x t
 | .LY b,u=>∃ t,u=Value.bytes b t
 | .QG b,u=>∃ t,u=Value.float b t
 | .ref a,u=>u=θ a
 | .ty n,u=>u=Value.type n
abbrev Vals:List V->List Ψ->Prop:=Paired RelV
theorem Vals.length {xs:List V}{us:List Ψ}(r:Vals xs us):xs.length=us.length:=Paired.length r
theorem Vals.get:∀ {xs:List V}{us:List Ψ}{i:Nat}{x:V},Vals xs us->xs[i]? = Δ x->∃ u,us[i]? = Δ u/\RelV x u
 | _,_,_,_,.nil,e=>by simp at e
 | _,_,0,_,.cons r _,e=>by simp at e;subst e;exact⟨_,rfl,r⟩
 | _,_,i+1,x,.cons _ t,e=>by obtain⟨u,h1,h2⟩:=Vals.get (i:=i) (x:=x) t (by simpa using e);exact⟨u,by simpa using h1,h2⟩
theorem Vals.set {x:V}{u:Ψ}(r:RelV x u):∀ {xs:List V}{us:List Ψ} (i:Nat),Vals xs us->Vals (xs.set i x) (us.set i u)
 | _,_,_,.nil=>.nil
 | _,_,0,.cons _ t=>.cons r t
 | _,_,i+1,.cons q t=>.cons q (Vals.set r i t)
theorem Vals.append:∀ {xs ys:List V}{us ws:List Ψ},Vals xs us->Vals ys ws->Vals (xs++ys) (us++ws)
 | _,_,_,_,.nil,s=>s
 | _,_,_,_,.cons r t,s=>.cons r (Vals.append t s)
theorem Vals.take:∀ {xs:List V}{us:List Ψ} (n:Nat),Vals xs us->Vals (xs.take n) (us.take n)
 | _,_,0,_=>.nil
 | _,_,_+1,.nil=>.nil
 | _,_,n+1,.cons r t=>.cons r (Vals.take n t)
theorem Vals.drop:∀ {xs:List V}{us:List Ψ} (n:Nat),Vals xs us->Vals (xs.drop n) (us.drop n)
 | _,_,0,r=>r
 | _,_,_+1,.nil=>.nil
 | _,_,n+1,.cons _ t=>Vals.drop n t
def BH:Option V->Option Ψ->Prop
 | some v,Δ u=>RelV v u
 | none,Φ=>True
 | _,_=>False
def KV {κ:Type}:List (κ×V)->List (κ×Ψ)->Prop:=Paired fun (p:κ×V) (q:κ×Ψ)=>p.1=q.1/\RelV p.2 q.2
noncomputable def kV:Key->V
 | .inl i=>.int i
 | .inr x=>.str x
inductive HO where
 | lst (xs:List V)
 | tup (xs:List V)
 | dK (FL:List (Key×V))|dT (FL:List (List Key×V))
 | set (S:Int->Bool) (n:Nat)
 | ins (C dx:Ω) (fs:List (Str×V))
 | own (x:Ω)
 | xd (fs:List (Str×V))
 | met (f x:Ω)
 | JY (lo hi:Int)
 | FT (o:Obj) (u:HO)
 | Lm (ps:Array Ψ)
 | ext (φ:Heap->Prop)
abbrev Hp:=Ω->Option HO
noncomputable def upd (H:Hp)(a:Ω)(o:HO):Hp:=fun b=>if b=a then Δ o else H b
theorem cy {H:Hp}{a:Ω}{o:HO}:upd H a o a=Δ o:=by unfold upd;rw[f_ rfl]
theorem cv {H:Hp}{a b:Ω}{o:HO}(h:b≠a):upd H a o b=H b:=by unfold upd;rw[d_ h]
theorem cN {H:Hp}{a b:Ω}{o:HO}(h:H a=Δ o)(h':H b=Φ):a≠b:=by intro e;subst e;rw[h] at h';cases h'
section
variable (P:Ε)(w:Β)
def cX (H:Hp)(h:Heap)(a:Ω):HO->Prop
 | .lst xs=>xs.length<=Ζ/\∃ (its:List Ψ) (n:Nat),Vals xs its/\h.get? a=Δ {cls:=.type "list",data:=.seq its.toArray n}
 | .tup xs=>xs.length<=Ζ/\∃ its:List Ψ,Vals xs its/\IsTup h a its.toArray
 | .dK FL=>FL.length<=Ζ/\(a == sysModules)=Ξ/\∃ vs,KV FL vs/\h.DictOf (ib P w) a vs
 | .dT FL=>FL.length<=Ζ/\(a == sysModules)=Ξ/\∃ xs:List (List Key×Ω×Ψ),
   Paired (fun (p:List Key×V) (q:List Key×Ω×Ψ)=>p.1=q.1/\H q.2.1=Δ (.tup (p.1.map kV))/\RelV p.2 q.2.2) FL xs/\
   ∃ o es ep,h.get? a=Δ o/\o.ExactDict/\o.data=.dict es ep/\es.toList=xs.map (entryOfKey (tupleKind (ib P w)))/\(xs.map (·.1)).Nodup
 | .set S n=>h.SetOf (intKind P w) a S n
 | .ins C dx fs=>H dx=Δ (.own a)/\fs.length<=1000/\dx≠a/\h.get? a=Δ (PySem.W.instObj C dx)/\
   ∃ mA,h.Ns1 dx mA/\(∀ f,BH (fs.lookup f) (mA f))/\PySem.Within mA (fs.map (·.1))
 | .own _=>∃ o,h.get? a=Δ o
 | .xd fs=>∃ mA,h.Ns1 a mA/\∀ f,BH (fs.lookup f) (mA f)
 | .JY lo hi=>∃ t u v,h.get? a=Δ {cls:=.type "range",data:=.fields #[.int lo t,.int hi u,.int 1 v]}
 | .FT o u=>h.get? a=Δ o/\cX H h a u
 | .Lm ps=>h.get? a=Δ {cls:=.none,data:=.fields ps}
 | .met f x=>h.get? a=Δ (PySem.W.methodObj (.ref f) (.ref x))
 | .ext φ=>φ h/\(∃ o,h.get? a=Δ o)/\∀ h1 h2:Heap,φ h1->(∀ o,h1.get? a=Δ o->h2.get? a=Δ o)->φ h2
def Gw (H:Hp)(h:Heap):Prop:=∀ a o,H a=Δ o->cX P w H h a o
end
section
variable {P:Ε}{w:Β}{H H':Hp}{h h':Heap}{a:Ω}{o:HO}
theorem cX.lt (x:cX P w H h a o):a < h.objs.size:=by
 cases o with
 | lst xs=>obtain⟨_,_,_,_,e⟩:=x;exact i_ e
 | tup xs=>obtain⟨_,_,_,p⟩:=x;exact p.lt
 | dK FL=>obtain⟨_,_,_,_,o,_,_,e,_⟩:=x;exact i_ e
 | dT FL=>obtain⟨_,_,_,_,o,_,_,e,_⟩:=x;exact i_ e
 | set S n=>obtain⟨o,_,_,_,e,_⟩:=x;exact i_ e
 | ins C dx fs=>obtain⟨_,_,_,e,_⟩:=x;exact i_ e
 | own y=>obtain⟨_,e⟩:=x;exact i_ e
 | xd fs=>obtain⟨_,⟨_,_,_,e,_⟩,_⟩:=x;exact i_ e
 | JY lo hi=>obtain⟨_,_,_,e⟩:=x;exact i_ e
 | FT ob u=>obtain⟨e,_⟩:=x;exact i_ e
 | Lm ps=>exact i_ (show h.get? a=Δ _ from x)
 | met f y=>exact i_ (show h.get? a=Δ _ from x)
 | ext φ=>obtain⟨_,⟨_,e⟩,_⟩:=x;exact i_ e
theorem Paired.Nx {α β:Type}{F G:α->β->Prop}:∀ {l₁:List α}{l₂:List β},Paired F l₁ l₂->(∀ a b,F a b->G a b)->Paired G l₁ l₂
 | _,_,.nil,_=>.nil
 | _,_,.cons r t,f=>.cons (f _ _ r) (Paired.Nx t f)
theorem cX.Hy (x:cX P w H h a o)(k:∀ b u,(b=a∨H b=Δ (.own a))->h.get? b=Δ u->h'.get? b=Δ u)
  (ho:∀ b,H b=Δ (.own a)->H' b=Δ (.own a)) (ht:∀ b xs,H b=Δ (.tup xs)->H' b=Δ (.tup xs)):cX P w H' h' a o:=by
 induction o with
 | lst xs=>obtain⟨z,its,n,r,e⟩:=x;exact⟨z,its,n,r,k _ _ (.inl rfl) e⟩
 | tup xs=>obtain⟨z,its,r,ob,e,c⟩:=x;exact⟨z,its,r,ob,k _ _ (.inl rfl) e,c⟩
 | dK FL=>obtain⟨z,y,vs,r,ob,es,ep,e,c⟩:=x;exact⟨z,y,vs,r,ob,es,ep,k _ _ (.inl rfl) e,c⟩
 | dT FL=>obtain⟨z,y,xs,r,ob,es,ep,e,c⟩:=x;exact⟨z,y,xs,Paired.Nx r fun p q z=>⟨z.1,ht _ _ z.2.1,z.2.2⟩,ob,es,ep,k _ _ (.inl rfl) e,c⟩
 | set S n=>obtain⟨ob,es,ep,t,e,c⟩:=x;exact⟨ob,es,ep,t,k _ _ (.inl rfl) e,c⟩
 | ins C dx fs=>obtain⟨d,z,ne,e,mA,⟨od,es,ep,e2,c⟩,r⟩:=x;exact⟨ho _ d,z,ne,k _ _ (.inl rfl) e,mA,⟨od,es,ep,k _ _ (.inr d) e2,c⟩,r⟩
 | own y=>obtain⟨ob,e⟩:=x;exact⟨ob,k _ _ (.inl rfl) e⟩
 | xd fs=>obtain⟨mA,⟨od,es,ep,e,c⟩,r⟩:=x;exact⟨mA,⟨od,es,ep,k _ _ (.inl rfl) e,c⟩,r⟩
 | JY lo hi=>obtain⟨t,u,v,e⟩:=x;exact⟨t,u,v,k _ _ (.inl rfl) e⟩
 | FT ob u ih=>obtain⟨e,q⟩:=x;exact⟨k _ _ (.inl rfl) e,ih q⟩
 | Lm ps=>have e:h.get? a=Δ {cls:=.none,data:=.fields ps}:=x;show h'.get? a=Δ {cls:=.none,data:=.fields ps};exact k a _ (.inl rfl) e
 | met f y=>have e:h.get? a=Δ (PySem.W.methodObj (.ref f) (.ref y)):=x;show h'.get? a=Δ (PySem.W.methodObj (.ref f) (.ref y));exact k a _ (.inl rfl) e
 | ext φ=>obtain⟨p,⟨o,e⟩,st⟩:=x;exact⟨st _ _ p fun o q=>k _ _ (.inl rfl) q,⟨o,k _ _ (.inl rfl) e⟩,st⟩
theorem Gw.lt (x:Gw P w H h)(e:H a=Δ o):a < h.objs.size:=(x a o e).lt
theorem Gw.fresh (x:Gw P w H h)(e:h.objs.size<=a):H a=Φ:=by
 cases q:H a with
 | none=>rfl
 | some u=>exact absurd (z_ (x.lt q) e) (R_ _)
theorem Gw.kept (x:Gw P w H h)(k:∀ b u,h.get? b=Δ u->h'.get? b=Δ u):Gw P w H h':=fun a o e=>
 (x a o e).Hy (fun b u _ q=>k b u q) (fun _ q=>q) fun _ _ q=>q
theorem Gw.laid (x:Gw P w H h)(k:∀ b u,h.get? b=Δ u->h'.get? b=Δ u)(hp:h.objs.size<=a)(new:cX P w (upd H a o) h' a o):Gw P w (upd H a o) h':=fun b u e=>by
 have hn:=x.fresh hp;by_cases hb:b=a
 ·subst hb;rw[cy] at e;cases e;exact new
 ·rw[cv hb] at e;exact(x b u e).Hy (fun c v _ q=>k c v q) (fun c q=>by rw[cv (cN q hn)];exact q) fun c xs q=>by rw[cv (cN q hn)];exact q
end
def Rd (H:Hp)(a:Ω)(u:HO):Prop:=H a=Δ u∨∃ o,H a=Δ (.FT o u)
theorem Rd.ok {P:Ε}{w:Β}{H:Hp}{h:Heap}{a:Ω}{u:HO}(r:Rd H a u)(x:Gw P w H h):cX P w H h a u:=by
 rcases r with r|⟨o,r⟩
 ·exact x a u r
 ·obtain⟨_,q⟩:=x a _ r;exact q
def Pq:Option HO->Prop
 | some (.lst _)=>True
 | some (.dK _)=>True
 | some (.dT _)=>True
 | some (.set _ _)=>True
 | some (.ins _ _ _)=>True
 | some (.ext _)=>True
 | _=>False
section
variable {P:Ε}{w:Β}{H:Hp}{h h':Heap}{x e:Ω}{o':HO}
theorem Gw.write (ok:Gw P w H h)(mu:Pq (H x))(he:e=x∨H e=Δ (.own x))(k:∀ b u,b≠e->h.get? b=Δ u->h'.get? b=Δ u)(MW:∃ u,h'.get? e=Δ u)
  (new:cX P w (upd H x o') h' x o'):Gw P w (upd H x o') h':=fun b u q=>by
 have Ny:∀ c y,H c=Δ (.own y)->c≠x:=fun c y r z=>by subst z;rw[r] at mu;exact mu
 have QH:∀ c xs,H c=Δ (.tup xs)->c≠x:=fun c xs r z=>by subst z;rw[r] at mu;exact mu
 by_cases hb:b=x
 ·subst hb;rw[cy] at q;cases q;exact new
 ·rw[cv hb] at q;by_cases LZ:b=e
  ·have q':H b=Δ (.own x):=by
    rcases he with z|z
    ·exact absurd (LZ.trans z) hb
    ·rw[LZ];exact z
   rw[q] at q';cases q';obtain⟨v,hv⟩:=MW;exact⟨v,by rw[LZ];exact hv⟩
  ·refine(ok b u q).Hy (fun c v hc r=>k c v ?_ r) (fun c r=>by rw[cv (Ny c b r)];exact r) fun c xs r=>by rw[cv (QH c xs r)];exact r
   rcases hc with rfl|hc
   ·exact LZ
   ·rintro rfl;rcases he with z|z
    ·exact Ny c b hc z
    ·rw[hc] at z;cases z;exact hb rfl
end
structure Un (fs ex:List Ω)(H H':Hp)(h h':Heap):Prop where
 keep:∀ b o,h.get? b=Δ o->H b=Φ->b∉fs->b∉ex->h'.get? b=Δ o
 slot:∀ b o,h.get? b=Δ o->H b=Φ->b∈fs->b∉ex->∃ sl,h'.get? b=Δ {o with slots:=sl}
 free:∀ b o,h.get? b=Δ o->H b=Φ->b∉ex->H' b=Φ
 there:∀ b o,h.get? b=Δ o->b∉ex->∃ o',h'.get? b=Δ o'
 G4:∀ b xs,H b=Δ (.tup xs)->H' b=Δ (.tup xs)
 GG:∀ b o u,H b=Δ (.FT o u)->H' b=Δ (.FT o u)
 Ia:∀ b ps,H b=Δ (.Lm ps)->∃ more,H' b=Δ (.Lm (ps++more))
section
variable {fs fs' ex Ur:List Ω}{H H1 H2:Hp}{h h1 h2 h':Heap}{a x e:Ω}{o:HO}
theorem Un.any (u:Un fs ex H H1 h h1){b:Ω}{ob:Obj}(q:h.get? b=Δ ob)(n:H b=Φ)(hx:b∉ex):∃ sl,h1.get? b=Δ {ob with slots:=sl}:=by
 by_cases hb:b∈fs
 ·exact u.slot b ob q n hb hx
 ·exact⟨ob.slots,u.keep b ob q n hb hx⟩
theorem Un.kept (k:∀ b u,h.get? b=Δ u->h'.get? b=Δ u):Un fs ex H H h h':=
 ⟨fun b ob q _ _ _=>k b ob q,fun b ob q _ _ _=>⟨ob.slots,k b ob q⟩,fun _ _ _ n _=>n,fun b ob q _=>⟨ob,k b ob q⟩,fun _ _ q=>q,fun _ _ _ q=>q,fun _ ps q=>⟨#[],by rw[q];simp⟩⟩
theorem Un.refl:Un fs ex H H h h:=Un.kept fun _ _ q=>q
theorem Un.laid (k:∀ b u,h.get? b=Δ u->h'.get? b=Δ u)(hp:h.objs.size<=a)(hn:H a=Φ):Un fs ex H (upd H a o) h h' where
 keep:=fun b u q _ _ _=>k b u q
 slot:=fun b u q _ _ _=>⟨u.slots,k b u q⟩
 free:=fun b u q n _=>by rw[cv (m_ (z_ (i_ q) hp))];exact n
 there:=fun b u q _=>⟨u,k b u q⟩
 G4:=fun b xs q=>by rw[cv (cN q hn)];exact q
 GG:=fun b u xs q=>by rw[cv (cN q hn)];exact q
 Ia:=fun b ps q=>⟨#[],by rw[cv (cN q hn),q];simp⟩
theorem Un.write (mu:Pq (H x))(he:e=x∨H e=Δ (.own x))(k:∀ b u,b≠e->h.get? b=Δ u->h'.get? b=Δ u)(MW:∃ u,h'.get? e=Δ u):Un fs ex H (upd H x o) h h':=by
 have hx:∀ b,H b=Φ->b≠x:=fun b n z=>by subst z;rw[n] at mu;exact mu
 have hb:∀ b,H b=Φ->b≠e:=fun b n z=>by
  subst z;rcases he with r|r
  ·exact hx b n r
  ·rw[n] at r;cases r
 have hm:∀ b u,H b=Δ u->¬ Pq (Δ u)->b≠x:=fun b u q nm z=>by subst z;rw[q] at mu;exact nm mu
 refine⟨fun b u q n _ _=>k b u (hb b n) q,fun b u q n _ _=>⟨u.slots,k b u (hb b n) q⟩,fun b u q n _=>by rw[cv (hx b n)];exact n,fun b u q _=>?_,
  fun b xs q=>by rw[cv (hm b _ q fun z=>z)];exact q,fun b u xs q=>by rw[cv (hm b _ q fun z=>z)];exact q,fun b ps q=>⟨#[],by rw[cv (hm b _ q fun z=>z),q];simp⟩⟩
 by_cases LZ:b=e
 ·subst LZ;exact MW
 ·exact⟨u,k b u LZ q⟩
end
noncomputable def L0 (h:Heap)(H:Hp):List Ω:=(List.range h.objs.size).filter fun a=>(H a).isSome
noncomputable def kj (h:Heap)(H:Hp):Heap:=PySem.W.hideAll h (L0 h H)
theorem pU (h:Heap)(H:Hp):(kj h H).objs.size=h.objs.size:=PySem.W.hideAll_size _ _
theorem qz {h:Heap}{H:Hp}{b:Ω}{o:Obj}(e:h.get? b=Δ o)(n:H b=Φ):(kj h H).get? b=Δ o:=
 PySem.W.hideAll_get _ e fun hm=>by have q:(H b).isSome=Θ:=(List.mem_filter.mp hm).2;rw[n] at q;simp at q
theorem vw {h:Heap}{H:Hp}{b:Ω}{o:Obj}(e:(kj h H).get? b=Δ o):h.get? b=Δ o/\H b=Φ:=by
 have e':h.get? b=Δ o:=PySem.W.of_hideAll (L0 h H) e;refine⟨e',?_⟩;cases q:H b with
 | none=>rfl
 | some x=>have hm:b∈L0 h H:=List.mem_filter.mpr ⟨Y_.mpr (i_ e'),by simp[q]⟩;have z:(kj h H).get? b=Φ:=PySem.W.hideAll_none (L0 h H) hm;rw[z] at e;cases e
structure Mod (K:Frag)(mg:Str->Option Ψ)(base:Heap):Prop where
 Pr:K.In base
 glob:base.Ns Η mg
 blt:∃ mb,base.Ns builtinsNs mb/\∀ x:Str,x≠"__name__"->mb x=bootBuiltins x
 nolimit:base.NoLimit
structure Cx where
 prog:Ε
 w:Β
 K:Frag
 mg:Str->Option Ψ
 base:Heap
 A:Ι
 N:List Str
 F8:Α
 Ib:Hp
 env:Env
 outer:List Env
 stack:List Env
 ex:List Ω
 fn:Str->Bool
 calm:Bool
 pn:List (Ω×Obj)
 xe:Ψ->Α->Prop
noncomputable def GJ (l:List Env):List Ω:=l.filterMap (·.frame)
noncomputable abbrev Cx.fs (X:Cx):List Ω:=GJ X.outer
def Nz (sc:Scope)(x:Str):Prop:=sc.names.lookup x=Δ .local∨sc.names.lookup x=Δ .cell∨sc.names.lookup x=Δ .free
def Loc (sc:Scope)(x:Str):Prop:=sc.names.lookup x=Δ .local∨sc.names.lookup x=Δ .cell
def Look (env:Env)(h:Heap)(m:Str->Option Ψ)(x:Str)(u:Ψ):Prop:=
 (env.kindOf x=Δ .local/\m x=Δ u)∨((env.kindOf x=Δ .cell∨env.kindOf x=Δ .free)/\∃ c,env.cells.lookup x=Δ c/\h.IsCell c (Δ u))
structure Cx.Ok (X:Cx):Prop where
 mod:Mod X.K X.mg X.base
 kind:X.env.scope.kind=.function
 glob:X.env.globals=Η
 blt:X.env.builtins=builtinsNs
 above:X.F8.heap.objs.size<=X.env.locals
 inj:∀ x y c,X.env.cells.lookup x=Δ c->X.env.cells.lookup y=Δ c->x=y
 has:∀ x,(X.env.kindOf x=Δ .cell∨X.env.kindOf x=Δ .free)->∃ c,X.env.cells.lookup x=Δ c
 Pt:∀ x c,X.fn x=Θ->X.env.cells.lookup x=Δ c->X.F8.heap.objs.size<=c
 hd:X.calm=Θ->X.A.handled=Φ
 frames:X.A.frames=Δ X.stack
 FC:X.stack=X.outer∨(X.stack=X.env::X.outer/\X.env.frame=Δ X.env.locals)
 QI:∀ b∈X.ex,b≠X.env.locals/\∀ x c,X.env.cells.lookup x=Δ c->c≠b
 bs:∀ b o,X.base.get? b=Δ o->X.F8.heap.get? b=Δ o/\X.Ib b=Φ
 KP:X.base.objs.size<=X.F8.heap.objs.size
 KQ:∀ b o,X.base.get? b=Δ o->b∉X.ex
 KR:∀ b∈X.ex,b∉X.fs
 G5:X.F8.heap.FunFrames X.base X.outer
 J7:∀ b∈X.fs,X.Ib b=Φ
structure Inv (X:Cx)(pins:List (Ω×Obj))(σ:List (Option V))(H:Hp)(s:Α):Prop where
 ok:X.Ok
 os:s.os=X.F8.os
 bare:AllBare s.gens
 base:Un X.fs X.ex X.Ib H X.F8.heap s.heap
 loc:∃ m,s.heap.Ns X.env.locals m/\∀ (i:Nat) (x:Str) (v:V),X.N[i]? = Δ x->σ[i]? = Δ (Δ v)->Nz X.env.scope x->∃ u,RelV v u/\Look X.env s.heap m x u
 cell:∀ x c,X.env.cells.lookup x=Δ c->∃ v,s.heap.IsCell c v
 free:H X.env.locals=Φ
 GR:∀ x c,X.env.cells.lookup x=Δ c->H c=Φ
 pin:∀ p∈X.pn++pins,s.heap.get? p.1=Δ p.2/\H p.1=Φ/\p.1≠X.env.locals/\p.1∉X.fs/\∀ v,p.2.data≠.cell v
 FN:Gw X.prog X.w H s.heap
 len:σ.length=X.N.length
section
variable {X:Cx}{pins:List (Ω×Obj)}{σ:List (Option V)}{H H':Hp}{s:Α}{h':Heap}
theorem Cx.Ok.QJ (ok:X.Ok){b:Ω}{o:Obj}(e:X.base.get? b=Δ o):b∉X.fs:=fun hb=>by have:=(ok.G5.mem hb).1;rw[e] at this;cases this
theorem Inv.bs (I:Inv X pins σ H s):∀ b o,X.base.get? b=Δ o->s.heap.get? b=Δ o/\H b=Φ:=fun b o e=>
 ⟨I.base.keep b o (I.ok.bs b o e).1 (I.ok.bs b o e).2 (I.ok.QJ e) (I.ok.KQ b o e),I.base.free b o (I.ok.bs b o e).1 (I.ok.bs b o e).2 (I.ok.KQ b o e)⟩
theorem Inv.bk (I:Inv X pins σ H s):∀ b o,X.base.get? b=Δ o->s.heap.get? b=Δ o:=fun b o e=>(I.bs b o e).1
theorem Inv.mod (I:Inv X pins σ H s):Mod X.K X.mg X.base:=I.ok.mod
theorem Inv.IP (I:Inv X pins σ H s):X.K.In s.heap:=I.ok.mod.Pr.keeps I.bk
theorem Inv.lt (I:Inv X pins σ H s):X.env.locals < s.heap.objs.size:=let ⟨_,hn,_⟩:=I.loc;hn.lt
theorem Inv.sz (I:Inv X pins σ H s):X.F8.heap.objs.size<=s.heap.objs.size:=M_ I.ok.above (Nat.le_of_lt I.lt)
theorem Inv.QK (I:Inv X pins σ H s){a:Ω}(h:s.heap.objs.size<=a):a∉X.fs:=fun hb=>by obtain⟨_,o,ho,_⟩:=I.ok.G5.mem hb;exact absurd (z_ (i_ ho) (M_ I.sz h)) (R_ _)
theorem Inv.L1 (I:Inv X pins σ H s):∀ x c,X.env.cells.lookup x=Δ c->c≠X.env.locals:=fun x c e z=>by obtain⟨v,o,ho,hd⟩:=I.cell x c e;obtain⟨m,⟨o',es,ep,Hz,WC,_⟩,_⟩:=I.loc;rw[z,Hz] at ho;cases ho;rw[WC] at hd;cases hd
theorem Inv.G5 (I:Inv X pins σ H s):s.heap.FunFrames X.base X.outer:=by
 have all:∀ (l:List Env),(∀ b∈GJ l,b∈X.fs)->X.F8.heap.FunFrames X.base l->s.heap.FunFrames X.base l:=by
  intro l
  induction l with
  | nil=>intro _ _;trivial
  | cons env r ih=>intro hs hl;obtain⟨hk,⟨L,o,hf,hn,ho,hd⟩,hr⟩:=hl;have hL:L∈X.fs:=hs L (by unfold GJ;rw[List.filterMap_cons,hf];exact aaD);obtain⟨sl,e⟩:=I.base.slot L o ho (I.ok.J7 L hL) hL fun z=>I.ok.KR L z hL;exact⟨hk,⟨L,_,hf,hn,e,hd⟩,ih (fun b hb=>hs b (by unfold GJ;rw[List.filterMap_cons,hf];exact G_ _ hb)) hr⟩
 exact all X.outer (fun _ hb=>hb) I.ok.G5
theorem Inv.stack (I:Inv X pins σ H s):s.heap.FunFrames X.base X.stack:=by
 rcases I.ok.FC with e|⟨e,hf⟩
 ·rw[e];exact I.G5
 ·rw[e];obtain⟨m,hn,_⟩:=I.loc;refine .cons (by rw[I.ok.kind];decide) hf hn ?_ I.G5;exact Heap.get?_none_of_le (M_ I.ok.KP I.ok.above)
theorem Inv.I0 (I:Inv X pins σ H s):∀ b∈GJ X.stack,b∈X.env.locals::X.fs:=fun b hb=>by
 rcases I.ok.FC with e|⟨e,hf⟩
 ·rw[e] at hb;exact G_ _ hb
 ·rw[e] at hb;unfold GJ at hb;rw[List.filterMap_cons,hf] at hb;exact hb
theorem Inv.Ic (I:Inv X pins σ H s):∀ b∈GJ X.stack,H b=Φ:=fun b hb=>by
 rcases k_.mp (I.I0 b hb) with e|hb
 ·rw[e];exact I.free
 ·obtain⟨_,o,ho,_⟩:=I.ok.G5.mem hb;exact I.base.free b o ho (I.ok.J7 b hb) fun z=>I.ok.KR b z hb
theorem Inv.step {g':Array GenState}{t':Nat}{d':Drawn}{ch:List Ω}(I:Inv X pins σ H s)
  (JZ:∀ b∈ch,(b∈X.ex∨X.F8.heap.objs.size<=b)/\b≠X.env.locals/\(∀ x c,X.env.cells.lookup x=Δ c->c≠b)/\∀ p∈X.pn++pins,p.1≠b)
  (keep:∀ b o,b≠X.env.locals->b∉X.fs->b∉ch->s.heap.get? b=Δ o->H b=Φ->h'.get? b=Δ o)
  (slot:∀ b o,b≠X.env.locals->b∈X.fs->b∉ch->s.heap.get? b=Δ o->H b=Φ->∃ sl,h'.get? b=Δ {o with slots:=sl}) (free:∀ b o,b∉ch->s.heap.get? b=Δ o->H b=Φ->H' b=Φ)
  (there:∀ b o,b∉ch->s.heap.get? b=Δ o->∃ o',h'.get? b=Δ o')
  (G4:∀ b xs,H b=Δ (.tup xs)->H' b=Δ (.tup xs)) (GG:∀ b o u,H b=Δ (.FT o u)->H' b=Δ (.FT o u)) (Ia:∀ b ps,H b=Δ (.Lm ps)->∃ more,H' b=Δ (.Lm (ps++more)))
  (ns:∀ m,s.heap.Ns X.env.locals m->h'.Ns X.env.locals m) (FN:Gw X.prog X.w H' h') (hg:AllBare g') :
  Inv X pins σ H' {s with heap:=h',gens:=g',drawn:=d',toks:=t'}:=by
 have Us:∀ b o,X.F8.heap.get? b=Δ o->b≠X.env.locals:=fun b o e=>m_ (z_ (i_ e) I.ok.above);have Pu:∀ b o,X.F8.heap.get? b=Δ o->b∉X.ex->b∉ch:=fun b o e hx hb=>by
  rcases (JZ b hb).1 with z|z
  ·exact hx z
  ·exact absurd (z_ (i_ e) z) (R_ _)
 have cellK:∀ x c,X.env.cells.lookup x=Δ c->∀ v,s.heap.IsCell c v->h'.IsCell c v:=fun x c e v ⟨o,ho,hd⟩=>by
  have NA:c∉ch:=fun z=>(JZ c z).2.2.1 x c e rfl;by_cases hc:c∈X.fs
  ·obtain⟨sl,q⟩:=slot c o (I.L1 x c e) hc NA ho (I.GR x c e);exact⟨_,q,hd⟩
  ·exact⟨o,keep c o (I.L1 x c e) hc NA ho (I.GR x c e),hd⟩
 refine⟨I.ok,I.os,hg,⟨fun b o e n hb hx=>?_,fun b o e n hb hx=>?_,fun b o e n hx=>?_,fun b o e hx=>?_,fun b xs e=>G4 b xs (I.base.G4 b xs e),fun b o xs e=>GG b o xs (I.base.GG b o xs e),fun b ps e=>?_⟩,?_,fun x c e=>?_,?_,fun x c e=>?_,fun p hp=>?_,FN,I.len⟩
 ·exact keep b o (Us b o e) hb (Pu b o e hx) (I.base.keep b o e n hb hx) (I.base.free b o e n hx)
 ·obtain⟨sl,e1⟩:=I.base.slot b o e n hb hx;obtain⟨NB,e2⟩:=slot b _ (Us b o e) hb (Pu b o e hx) e1 (I.base.free b o e n hx);exact⟨NB,e2⟩
 ·obtain⟨o',e1⟩:=I.base.there b o e hx;exact free b o' (Pu b o e hx) e1 (I.base.free b o e n hx)
 ·obtain⟨o',e1⟩:=I.base.there b o e hx;exact there b o' (Pu b o e hx) e1
 ·obtain⟨m1,e1⟩:=I.base.Ia b ps e;obtain⟨m2,e2⟩:=Ia b _ e1;exact⟨m1++m2,by rw[e2,Array.append_assoc]⟩
 ·obtain⟨m,hn,hl⟩:=I.loc;refine⟨m,ns m hn,fun i x v e1 e2 e3=>?_⟩;obtain⟨u,r,l⟩:=hl i x v e1 e2 e3;refine⟨u,r,?_⟩;rcases l with l|⟨k,c,e,z⟩
  ·exact .inl l
  ·exact .inr ⟨k,c,e,cellK x c e _ z⟩
 ·obtain⟨v,z⟩:=I.cell x c e;exact⟨v,cellK x c e v z⟩
 ·obtain⟨m,⟨o,_,_,ho,_⟩,_⟩:=I.loc;exact free _ o (fun z=>(JZ _ z).2.1 rfl) ho I.free
 ·obtain⟨v,o,ho,hd⟩:=I.cell x c e;exact free c o (fun z=>(JZ c z).2.2.1 x c e rfl) ho (I.GR x c e)
 ·obtain⟨e,n,ne,nf,d⟩:=I.pin p hp;have NA:p.1∉ch:=fun z=>(JZ p.1 z).2.2.2 p hp rfl;exact⟨keep p.1 p.2 ne nf NA e n,free p.1 p.2 NA e n,ne,nf,d⟩
theorem Inv.un {t':Nat}(I:Inv X pins σ H s)(u:Un X.fs [] H H' s.heap h')(FN:Gw X.prog X.w H' h'):Inv X pins σ H' {s with heap:=h',toks:=t'}:=by
 obtain⟨m,⟨o,es,ep,ho,r⟩,_⟩:=id I.loc;obtain⟨sl,hL⟩:=u.any ho I.free (by simp)
 exact I.step (g':=s.gens) (d':=s.drawn) (ch:=[]) (fun _ z=>nomatch z) (fun b o _ hb _ e n=>u.keep b o e n hb (by simp)) (fun b o _ hb _ e n=>u.slot b o e n hb (by simp)) (fun b o _ e n=>u.free b o e n (by simp)) (fun b o _ e=>u.there b o e (by simp)) u.G4 u.GG u.Ia (fun m' hm=>by
  obtain⟨o',es',QL,Hz,r'⟩:=hm;rw[ho] at Hz;cases Hz
  exact⟨_,es',QL,hL,r'⟩) FN I.bare
theorem Inv.call {g':Array GenState}{t':Nat}{d':Drawn}{ch:List Ω}(I:Inv X pins σ H s)(u:Un (GJ X.stack) ch H H' s.heap h')(FN:Gw X.prog X.w H' h')(hg:AllBare g')
  (JZ:∀ b∈ch,(b∈X.ex∨X.F8.heap.objs.size<=b)/\b≠X.env.locals/\(∀ x c,X.env.cells.lookup x=Δ c->c≠b)/\∀ p∈X.pn++pins,p.1≠b) :
  Inv X pins σ H' {s with heap:=h',gens:=g',drawn:=d',toks:=t'}:=by
 obtain⟨m,⟨o,es,ep,ho,r⟩,_⟩:=id I.loc;obtain⟨sl,hL⟩:=u.any ho I.free fun z=>(JZ _ z).2.1 rfl
 exact I.step (ch:=ch) JZ (fun b o hL hb hc e n=>u.keep b o e n (fun z=>(k_.mp (I.I0 b z)).elim hL hb) hc) (fun b o _ _ hc e n=>u.any e n hc) (fun b o hc e n=>u.free b o e n hc) (fun b o hc e=>u.there b o e hc) u.G4 u.GG u.Ia (fun m' hm=>by
  obtain⟨o',es',QL,Hz,r'⟩:=hm;rw[ho] at Hz;cases Hz
  exact⟨_,es',QL,hL,r'⟩) FN hg
theorem Inv.turned {t':Nat}{it:Ω}(I:Inv X pins σ H s)(k:∀ b o,b≠it->s.heap.get? b=Δ o->h'.get? b=Δ o)(hn:H it=Φ)(hL:it≠X.env.locals)
  (h1:it∈X.ex∨X.F8.heap.objs.size<=it) (h2:∀ x c,X.env.cells.lookup x=Δ c->c≠it) (h3:∀ p∈X.pn++pins,p.1≠it):Inv X pins σ H {s with heap:=h',toks:=t'}:=by
 have Ln:∀ b u,H b=Δ u->b≠it:=fun b u e z=>by rw[z,hn] at e;cases e
 refine I.step (g':=s.gens) (d':=s.drawn) (ch:=[it]) (fun b hb=>?_) (fun b o _ _ hc e _=>k b o (fun z=>hc (by simp[z])) e) (fun b o _ _ hc e _=>⟨o.slots,k b o (fun z=>hc (by simp[z])) e⟩) (fun _ _ _ _ n=>n)
  (fun b o hc e=>⟨o,k b o (fun z=>hc (by simp[z])) e⟩) (fun _ _ e=>e) (fun _ _ _ e=>e) (fun b ps e=>⟨#[],by rw[e];simp⟩) (fun m hm=>?_) (fun b u e=>?_) I.bare
 ·have e:b=it:=by simpa using hb
  subst e;exact⟨h1,hL,h2,h3⟩
 ·obtain⟨o,es,ep,ho,r⟩:=hm;exact⟨o,es,ep,k _ o (Ne.symm hL) ho,r⟩
 ·refine(I.FN b u e).Hy (fun c v hc q=>k c v ?_ q) (fun _ q=>q) fun _ _ q=>q;rcases hc with z|z
  ·rw[z];exact Ln b u e
  ·exact Ln c _ z
theorem Inv.tok (I:Inv X pins σ H s)(t:Nat):Inv X pins σ H {s with toks:=t}:=I.un (h':=s.heap) (t':=t) Un.refl I.FN
theorem Inv.kept {t':Nat}(I:Inv X pins σ H s)(k:∀ b u,s.heap.get? b=Δ u->h'.get? b=Δ u):Inv X pins σ H {s with heap:=h',toks:=t'}:=I.un (Un.kept k) (I.FN.kept k)
theorem Inv.laid {a:Ω}{o:HO}{t':Nat}(I:Inv X pins σ H s)(k:∀ b u,s.heap.get? b=Δ u->h'.get? b=Δ u)(hp:s.heap.objs.size<=a)(new:cX X.prog X.w (upd H a o) h' a o) :
  Inv X pins σ (upd H a o) {s with heap:=h',toks:=t'}:=I.un (Un.laid k hp (I.FN.fresh hp)) (I.FN.laid k hp new)
theorem Inv.write {x e:Ω}{o:HO}{t':Nat}(I:Inv X pins σ H s)(mu:Pq (H x))(he:e=x∨H e=Δ (.own x))(k:∀ b u,b≠e->s.heap.get? b=Δ u->h'.get? b=Δ u)(MW:∃ u,h'.get? e=Δ u)
  (new:cX X.prog X.w (upd H x o) h' x o):Inv X pins σ (upd H x o) {s with heap:=h',toks:=t'}:=I.un (Un.write mu he k MW) (I.FN.write mu he k MW new)
theorem Inv.Jp {Lo:List (Ω×Obj)}(I:Inv X pins σ H s)(h:∀ p∈Lo,s.heap.get? p.1=Δ p.2/\H p.1=Φ/\p.1≠X.env.locals/\p.1∉X.fs/\∀ v,p.2.data≠.cell v):Inv X Lo σ H s:=
 ⟨I.ok,I.os,I.bare,I.base,I.loc,I.cell,I.free,I.GR,fun p hp=>(x_.mp hp).elim (fun z=>I.pin p (q_ _ z)) (h p),I.FN,I.len⟩
theorem kZ {N:List Str}(hN:N.Nodup){i j:Nat}{x:Str}(a:N[i]? = Δ x)(b:N[j]? = Δ x):i=j:=by obtain⟨h1,e1⟩:=v_.mp a;obtain⟨h2,e2⟩:=v_.mp b;exact(List.getElem_inj hN).mp (e1.trans e2.symm)
theorem jA {M:Model}{A:Ι}{E:Ψ->Α->Prop}{i:Nat}{x:Str}{v:V}{u:Ψ}{Q:Unit->Α->Prop}(I:Inv X pins σ H s)(hN:X.N.Nodup)(hi:X.N[i]? = Δ x)(hx:Loc X.env.scope x)(r:RelV v u)
  (h:∀ s',Inv X pins (σ.set i (Δ v)) H s'->(∃ a,Heap.SameBut a s.heap s'.heap/\(a=X.env.locals∨X.env.cells.lookup x=Δ a))->Q () s') (hf:X.fn x=Θ∨X.env.scope.names.lookup x=Δ .local:=by first|exact .inl rfl|exact .inr rfl|assumption):Κ M A (storeName X.env x u) Q E s:=by
 obtain⟨m,hn,hl⟩:=id I.loc;have L3:(X.env.scope.kind == .class||(X.env.scope.kind == .module&&X.env.locals != X.env.globals))=Ξ:=by rw[I.ok.kind];rfl
 have NC:i < σ.length:=by rw[I.len];exact(v_.mp hi).1
 have L1:=I.L1;have tracked:∀ {a:Ω}{h':Heap},(∃ o,s.heap.get? a=Δ o/\H a=Φ)->Heap.SameBut a s.heap h'->Gw X.prog X.w H h':=fun {a h'} ha hs b ob e=>by
  obtain⟨_,_,Jq⟩:=ha;refine(I.FN b ob e).Hy (fun c w' hc q=>(hs.2 c ?_).trans q) (fun _ q=>q) fun _ _ q=>q;rintro rfl;rcases hc with rfl|hc
  ·rw[Jq] at e;cases e
  ·rw[Jq] at hc;cases hc
 rcases hx with hk|hk
 ·refine wpAny_storeName_local hk hn (fun h' HQ hs=>?_) L3;obtain⟨oL,_,_,WE,_⟩:=id hn;refine h _ ⟨I.ok,I.os,I.bare,⟨fun b o e n hb hx=>?_,fun b o e n hb hx=>?_,I.base.free,fun b o e hx=>?_,I.base.G4,I.base.GG,I.base.Ia⟩,⟨_,HQ,fun j y v' e1 e2 e3=>?_⟩,fun y c e=>?_,I.free,I.GR,fun p hp=>?_,tracked ⟨oL,WE,I.free⟩ hs,by simpa using I.len⟩ ⟨_,hs,.inl rfl⟩
  ·exact(hs.2 b (m_ (z_ (i_ e) I.ok.above))).trans (I.base.keep b o e n hb hx)
  ·obtain⟨sl,e1⟩:=I.base.slot b o e n hb hx;exact⟨sl,(hs.2 b (m_ (z_ (i_ e) I.ok.above))).trans e1⟩
  ·obtain⟨o',e1⟩:=I.base.there b o e hx;exact⟨o',(hs.2 b (m_ (z_ (i_ e) I.ok.above))).trans e1⟩
  ·by_cases hj:j=i
   ·subst hj;rw[hi] at e1;cases e1;rw[List.getElem?_set_self NC] at e2;cases e2;exact⟨u,r,.inl ⟨hk,by simp⟩⟩
   ·rw[aax (Ne.symm hj)] at e2;obtain⟨u',r',q⟩:=hl j y v' e1 e2 e3;refine⟨u',r',?_⟩;rcases q with ⟨k,e⟩|⟨k,c,e,z⟩
    ·refine .inl ⟨k,?_⟩;have:y≠x:=fun e=>hj (kZ hN e1 (e ▸ hi));simp[this,e]
    ·exact .inr ⟨k,c,e,z.sameBut hs (L1 y c e)⟩
  ·obtain⟨w',z⟩:=I.cell y c e;exact⟨w',z.sameBut hs (L1 y c e)⟩
  ·obtain⟨e,n,ne,nf,d⟩:=I.pin p hp;exact⟨(hs.2 p.1 ne).trans e,n,ne,nf,d⟩
 ·have KS:X.fn x=Θ:=by
   rcases hf with z|z
   ·exact z
   ·rw[z] at hk;cases hk
  obtain⟨c,hc⟩:=I.ok.has x (.inl hk);obtain⟨w',z⟩:=I.cell x c hc;refine wpAny_storeName_cell I.ok.kind hk hc z (fun h' MX hs=>?_);obtain⟨oc,Ut,QM⟩:=id z;refine h {s with heap:=h'} ⟨I.ok,I.os,I.bare,⟨fun b o e n hb hx=>?_,fun b o e n hb hx=>?_,I.base.free,fun b o e hx=>?_,I.base.G4,I.base.GG,I.base.Ia⟩,⟨m,hn.sameBut hs (Ne.symm (L1 x c hc)),fun j y v' e1 e2 e3=>?_⟩,fun y c' e=>?_,I.free,I.GR,fun p hp=>?_,tracked ⟨oc,Ut,I.GR x c hc⟩ hs,by simpa using I.len⟩ ⟨c,hs,.inr hc⟩
  ·exact(hs.2 b (m_ (z_ (i_ e) (I.ok.Pt x c KS hc)))).trans (I.base.keep b o e n hb hx)
  ·obtain⟨sl,e1⟩:=I.base.slot b o e n hb hx;exact⟨sl,(hs.2 b (m_ (z_ (i_ e) (I.ok.Pt x c KS hc)))).trans e1⟩
  ·obtain⟨o',e1⟩:=I.base.there b o e hx;exact⟨o',(hs.2 b (m_ (z_ (i_ e) (I.ok.Pt x c KS hc)))).trans e1⟩
  ·by_cases hj:j=i
   ·subst hj;rw[hi] at e1;cases e1;rw[List.getElem?_set_self NC] at e2;cases e2;exact⟨u,r,.inr ⟨.inl hk,c,hc,MX⟩⟩
   ·rw[aax (Ne.symm hj)] at e2;obtain⟨u',r',q⟩:=hl j y v' e1 e2 e3;refine⟨u',r',?_⟩;rcases q with q|⟨k,c',e,z'⟩
    ·exact .inl q
    ·refine .inr ⟨k,c',e,z'.sameBut hs ?_⟩;rintro rfl;exact hj (kZ hN e1 (I.ok.inj _ _ _ e hc ▸ hi))
  ·by_cases Uu:c'=c
   ·subst Uu;exact⟨_,MX⟩
   ·obtain⟨w2,z2⟩:=I.cell y c' e;exact⟨w2,z2.sameBut hs Uu⟩
  ·obtain⟨e,n,ne,nf,d⟩:=I.pin p hp;refine⟨(hs.2 p.1 ?_).trans e,n,ne,nf,d⟩;intro q;rw[q,Ut] at e;have q':oc=p.2:=F_ e;exact d w' (by rw[<- q'];exact QM)
theorem k8 {M:Model}{A:Ι}{E:Ψ->Α->Prop}{i:Nat}{x:Str}{v:V}{u:Ψ}{Q:Unit->Α->Prop}(I:Inv X pins σ H s)(hN:X.N.Nodup)(hi:X.N[i]? = Δ x)(hx:Loc X.env.scope x)(r:RelV v u)
  (h:∀ s',Inv X pins (σ.set i (Δ v)) H s'->Q () s') (hf:X.fn x=Θ∨X.env.scope.names.lookup x=Δ .local:=by first|exact .inl rfl|exact .inr rfl|assumption):Κ M A (storeName X.env x u) Q E s:=
 jA I hN hi hx r (fun s' I' _=>h s' I') hf
theorem Inv.Lp {s':Α}{ch:List Ω}(I:Inv X pins σ H s)(ho:s'.os=s.os)(u:Un (GJ X.stack) ch H H' s.heap s'.heap)(FN:Gw X.prog X.w H' s'.heap)(hg:AllBare s'.gens)
  (JZ:∀ b∈ch,(b∈X.ex∨X.F8.heap.objs.size<=b)/\b≠X.env.locals/\(∀ x c,X.env.cells.lookup x=Δ c->c≠b)/\∀ p∈X.pn++pins,p.1≠b):Inv X pins σ H' s':=by
 obtain⟨h',g',d',t',o'⟩:=s';have e:o'=s.os:=ho;subst e;exact I.call (g':=g') (t':=t') (d':=d') u FN hg JZ
end
abbrev XK:=Ψ->Option Ω->Hp->Prop
abbrev St:=List (Option V)
abbrev VK:=V->Hp->Prop
abbrev TE:=St->Hp->VK->Prop
abbrev TT:=St->Hp->(Bool->Hp->Prop)->Prop
abbrev TA:=St->Hp->(List V->Hp->Prop)->Prop
structure Ends where
 nx:St->Hp->Prop
 rt:VK
 bk:St->Hp->Prop:=fun _ _=>False
 ct:St->Hp->Prop:=fun _ _=>False
abbrev TS:=Ends->St->Hp->Prop
def EP (X:Cx)(pins:List (Ω×Obj))(σ:St)(Q:VK)(u:Ψ)(s':Α):Prop:=∃ v H',Inv X pins σ H' s'/\RelV v u/\Q v H'
def TP (X:Cx)(pins:List (Ω×Obj))(σ:St)(Q:Bool->Hp->Prop)(b:Bool)(s':Α):Prop:=∃ H',Inv X pins σ H' s'/\Q b H'
def AP (X:Cx)(pins:List (Ω×Obj))(σ:St)(Q:List V->Hp->Prop)(us:List Ψ)(s':Α):Prop:=∃ vs H',Inv X pins σ H' s'/\Vals vs us/\Q vs H'
def SP (X:Cx)(pins:List (Ω×Obj))(D:Ends)(f:Flow)(s':Α):Prop:=
 match f with
 | .next=>∃ FI H',Inv X pins FI H' s'/\D.nx FI H'
 | .brk=>∃ FI H',Inv X pins FI H' s'/\D.bk FI H'
 | .cont=>∃ FI H',Inv X pins FI H' s'/\D.ct FI H'
 | .ret u=>∃ v FI H',Inv X pins FI H' s'/\RelV v u/\D.rt v H'
def PE (X:Cx)(e:Expr)(t:TE):Prop:=
 ∀ (pins:List (Ω×Obj)) (s:Α) (σ:St) (H:Hp) (Q:VK),Inv X pins σ H s->t σ H Q->Κ (Μ X.prog X.w) X.A (eval e X.env) (EP X pins σ Q) X.xe s
def PT (X:Cx)(e:Expr)(t:TT):Prop:=
 ∀ (pins:List (Ω×Obj)) (s:Α) (σ:St) (H:Hp) (Q:Bool->Hp->Prop),Inv X pins σ H s->t σ H Q->Κ (Μ X.prog X.w) X.A (isTrue e X.env (eval e X.env)) (TP X pins σ Q) X.xe s
def PW (X:Cx)(e:Expr)(t:TT):Prop:=
 ∀ (whole:Sem Ψ) (pins:List (Ω×Obj)) (s:Α) (σ:St) (H:Hp) (Q:Bool->Hp->Prop),Inv X pins σ H s->t σ H Q->Κ (Μ X.prog X.w) X.A (isTrue e X.env whole) (TP X pins σ Q) X.xe s
theorem PW.pt {X:Cx}{e:Expr}{t:TT}(h:PW X e t):PT X e t:=h _
def PA (X:Cx)(es:List Expr)(t:TA):Prop:=
 ∀ (pos:Pos) (pins:List (Ω×Obj)) (s:Α) (σ:St) (H:Hp) (Q:List V->Hp->Prop),Inv X pins σ H s->t σ H Q->Κ (Μ X.prog X.w) X.A (spliced (backTo pos (Ν es X.env))) (AP X pins σ Q) X.xe s
def PS (X:Cx)(st:Stmt)(t:TS):Prop:=
 ∀ (pins:List (Ω×Obj)) (s:Α) (σ:St) (H:Hp) (D:Ends),Inv X pins σ H s->t D σ H->Κ (Μ X.prog X.w) X.A (exec st X.env) (SP X pins D) X.xe s
def IA (X:Cx)(st:List Stmt)(t:TS):Prop:=
 ∀ (pins:List (Ω×Obj)) (s:Α) (σ:St) (H:Hp) (D:Ends),Inv X pins σ H s->t D σ H->Κ (Μ X.prog X.w) X.A (execs st X.env) (SP X pins D) X.xe s
theorem FP {α:Type}{t:Sem α}{Q Q':α->Α->Prop}{M:Model}{A:Ι}{E:Ψ->Α->Prop}{s:Α}(h:Κ M A t Q E s)(hQ:∀ a s,Q a s->Q' a s):Κ M A t Q' E s:=wpAny_mono h hQ fun _ _ x=>x
section
variable {X:Cx}
def zq (i:Nat):TE:=fun σ H Q=>∃ v,σ[i]? = Δ (Δ v)/\Q v H
def tC (v:V):TE:=fun _ H Q=>Q v H
theorem qB {i:Nat}{x:Str}{pos:Pos}(hN:X.N[i]? = Δ x)(hv:Nz X.env.scope x)(hd:(x == ("__debug__" : Str))=Ξ:=by decide) (J8:(x == ("__classdict__" : Str))=Ξ:=by decide):PE X (.Name x pos) (zq i):=by
 intro pins s σ H Q I h;obtain⟨v,e,h⟩:=h;obtain⟨m,hn,hl⟩:=I.loc;obtain⟨u,r,l⟩:=hl i x v hN e hv;have fin:EP X pins σ Q u s:=⟨v,H,I,r,h⟩
 rcases l with ⟨hk,hm⟩|⟨hk,c,hc,Lq⟩
 ·exact wpAny_Name (wpAny_loadName_local I.ok.kind hk hn hm fin) hd
 ·rcases hk with hk|hk
  ·exact wpAny_Name (wpAny_loadName_cell I.ok.kind hk hc Lq fin) hd
  ·exact wpAny_Name (wpAny_loadName_free I.ok.kind hk hc Lq fin J8) hd
theorem zr {i j pos}:PE X (.Constant (.int i) j pos) (tC (.int i)):=fun _ _ _ H _ I h=>wpAny_Constant_int ⟨.int i,H,I.tok _,⟨_,rfl⟩,h⟩
theorem BI {b j pos}:PE X (.Constant (.bool b) j pos) (tC (.bl b)):=fun _ _ _ H _ I h=>Constant_bool ⟨.bl b,H,I,rfl,h⟩
theorem zt {j pos}:PE X (.Constant .none j pos) (tC .Fy):=fun _ _ _ H _ I h=>Constant_none ⟨.Fy,H,I,rfl,h⟩
theorem zu {x j pos}:PE X (.Constant (.str x) j pos) (tC (.str x)):=fun _ _ _ H _ I h=>Calls.Constant_str ⟨.str x,H,I.tok _,⟨_,rfl⟩,h⟩
def Gl (X:Cx)(x:Str):Prop:=X.env.kindOf x=Δ .globalImplicit
theorem kl {E:Ψ->Α->Prop}{pins:List (Ω×Obj)}{s:Α}{σ:St}{H:Hp}{x:Str}{u:Ψ}{pos:Pos}{Q:Ψ->Α->Prop}(I:Inv X pins σ H s)(hg:Gl X x)(hm:X.mg x=Δ u)(h:Q u s)
  (hd:(x == ("__debug__" : Str))=Ξ:=by decide):Κ (Μ X.prog X.w) X.A (eval (.Name x pos) X.env) Q E s:=
 Calls.Name_function_global I.ok.kind hg (Calls.loadGlobal_global (by rw[I.ok.glob];exact I.mod.glob.keeps I.bk) hm h) hd
theorem eV {E:Ψ->Α->Prop}{pins:List (Ω×Obj)}{s:Α}{σ:St}{H:Hp}{x:Str}{u:Ψ}{pos:Pos}{Q:Ψ->Α->Prop}(I:Inv X pins σ H s)(hg:Gl X x)(hm:X.mg x=Φ)(hv:bootBuiltins x=Δ u)(h:Q u s)
  (hn:x≠"__name__":=by decide) (hd:(x == ("__debug__" : Str))=Ξ:=by decide):Κ (Μ X.prog X.w) X.A (eval (.Name x pos) X.env) Q E s:=by
 obtain⟨mb,h1,h2⟩:=I.mod.blt;exact Calls.Name_function_global I.ok.kind hg (Calls.loadGlobal_builtin (by rw[I.ok.glob];exact I.mod.glob.keeps I.bk) hm (by rw[I.ok.blt];exact h1.keeps I.bk) ((h2 x hn).trans hv) h) hd
theorem vx {x:Str}{v:V}{u:Ψ}{pos:Pos}(hg:Gl X x)(hm:X.mg x=Δ u)(r:RelV v u)(hd:(x == ("__debug__" : Str))=Ξ:=by decide):PE X (.Name x pos) (tC v):=
 fun _ _ _ H _ I h=>kl I hg hm ⟨v,H,I,r,h⟩ hd
theorem vy {x:Str}{v:V}{u:Ψ}{pos:Pos}(hg:Gl X x)(hm:X.mg x=Φ)(hv:bootBuiltins x=Δ u)(r:RelV v u)(hn:x≠"__name__":=by decide) (hd:(x == ("__debug__" : Str))=Ξ:=by decide):PE X (.Name x pos) (tC v):=
 fun _ _ _ H _ I h=>eV I hg hm hv ⟨v,H,I,r,h⟩ hn hd
variable {a b:Expr}{ta tb:TE}{pos:Pos}
variable {tA Pw:TT}{rest:List Expr}
def BJ (t u:TT):TT:=fun σ H Q=>t σ H fun c H1=>if c=Θ then u σ H1 Q else Q Ξ H1
def WG (t u:TT):TT:=fun σ H Q=>t σ H fun c H1=>if c=Θ then Q Θ H1 else u σ H1 Q
def Ep (t:TT):TT:=fun σ H Q=>t σ H fun c H1=>Q (!c) H1
theorem vz (ha:PT X a tA):PW X (.BoolOp .And [a] pos) tA:=by
 intro wh pins s σ H Q I h;refine isTrue_and (FP (ha pins s σ H Q I h) fun c s1 e=>?_);cases c with
 | true=>exact isTrue_and_nil e
 | false=>exact e
theorem zv (ha:PT X a tA):PW X (.BoolOp .Or [a] pos) tA:=by
 intro wh pins s σ H Q I h;refine isTrue_or (FP (ha pins s σ H Q I h) fun c s1 e=>?_);cases c with
 | false=>exact isTrue_or_nil e
 | true=>exact e
theorem zw (ha:PT X a tA)(hb:PW X (.BoolOp .And (b::rest) pos) Pw):PW X (.BoolOp .And (a::b::rest) pos) (BJ tA Pw):=by
 intro wh pins s σ H Q I h;refine isTrue_and (FP (ha pins s σ H _ I h) fun c s1 ⟨H1,I1,q1⟩=>?_);cases c with
 | true=>exact hb wh pins s1 σ H1 Q I1 q1
 | false=>exact⟨H1,I1,q1⟩
theorem BK (ha:PT X a tA)(hb:PW X (.BoolOp .Or (b::rest) pos) Pw):PW X (.BoolOp .Or (a::b::rest) pos) (WG tA Pw):=by
 intro wh pins s σ H Q I h;refine isTrue_or (FP (ha pins s σ H _ I h) fun c s1 ⟨H1,I1,q1⟩=>?_);cases c with
 | true=>exact⟨H1,I1,q1⟩
 | false=>exact hb wh pins s1 σ H1 Q I1 q1
theorem zx (ha:PT X a tA):PT X (.UnaryOp .Not a pos) (Ep tA):=by intro pins s σ H Q I h;exact isTrue_not (ha pins s σ H (fun c H1=>Q (!c) H1) I h)
theorem qC {op}{t:TE}(h:PE X a t):PE X (.BoolOp op [a] pos) t:=fun pins s σ H Q I hw=>BoolOp_one (h pins s σ H Q I hw)
def WH (t:TT)(ta tb:TE):TE:=fun σ H Q=>t σ H fun c H1=>if c=Θ then ta σ H1 Q else tb σ H1 Q
theorem k9 {c:Expr}(hc:PT X c tA)(ha:PE X a ta)(hb:PE X b tb):PE X (.IfExp c a b pos) (WH tA ta tb):=by
 intro pins s σ H Q I h;refine wpAny_IfExp (FP (hc pins s σ H _ I h) fun d s1 ⟨H1,I1,q1⟩=>?_);cases d with
 | true=>exact ha pins s1 σ H1 Q I1 q1
 | false=>exact hb pins s1 σ H1 Q I1 q1
end
def Gu (K:Frag)(H:Hp)(a:Ω)(xs:List V):Prop:=
 Rd H a (.lst xs)∨
  ∃ (o:Obj) (its:Array Ψ) (n:Nat),K.lookup a=Δ o/\o.cls=.type "list"/\o.dict=Φ/\o.data=.seq its n/\its.size<=Ζ/\Vals xs its.toList
def G0 (K:Frag)(H:Hp)(a:Ω)(xs:List V):Prop:=
 Rd H a (.tup xs)∨
  ∃ (o:Obj) (its:Array Ψ) (n:Nat),K.lookup a=Δ o/\o.cls=.type "tuple"/\o.data=.seq its n/\its.size<=Ζ/\Vals xs its.toList
noncomputable def Er:Ψ->Option V
 | .none=>Δ .Fy
 | .bool b=>Δ (.bl b)
 | .int i _=>Δ (.int i)
 | .str x _=>Δ (.str x)
 | .bytes b _=>Δ (.LY b)
 | .float b _=>Δ (.QG b)
 | .ref a=>Δ (.ref a)
 | .type n=>Δ (.ty n)
 | _=>Φ
theorem RelV.abs {x:V}{u:Ψ}(r:RelV x u):Er u=Δ x:=by
 cases x with
 | Fy=>cases r;rfl
 | bl _=>cases r;rfl
 | int _=>obtain⟨t,rfl⟩:=r;rfl
 | str _=>obtain⟨t,rfl⟩:=r;rfl
 | LY _=>obtain⟨t,rfl⟩:=r;rfl
 | QG _=>obtain⟨t,rfl⟩:=r;rfl
 | ref _=>cases r;rfl
 | ty _=>cases r;rfl
theorem RelV.inj {x y:V}{u:Ψ}(r:RelV x u)(q:RelV y u):x=y:=F_ (r.abs.symm.trans q.abs)
theorem Vals.inj:∀ {xs ys:List V}{us:List Ψ},Vals xs us->Vals ys us->xs=ys
 | _,_,_,.nil,.nil=>rfl
 | _,_,_,.cons r t,.cons r' t'=>by rw[r.inj r',Vals.inj t t']
section
variable {X:Cx}{pins:List (Ω×Obj)}{σ:St}{H:Hp}{s:Α}{a:Ω}{xs ys:List V}
theorem G0.of {K:Frag}(h:H a=Δ (.tup xs)):G0 K H a xs:=.inl (.inl h)
theorem Inv.list (I:Inv X pins σ H s)(h:Gu X.K H a xs):∃ its:List Ψ,Vals xs its/\PlainL s.heap a its.toArray/\xs.length<=Ζ:=by
 rcases h with h|⟨o,its,n,hk,hc,hd,hs,hz,r⟩
 ·obtain⟨z,its,n,r,e⟩:=h.ok I.FN;exact⟨its,r,⟨_,n,e,rfl,rfl,rfl⟩,z⟩
 ·refine⟨its.toList,r,⟨o,n,I.IP a o hk,hc,hd,by simpa using hs⟩,?_⟩;have e:=r.length;simp only[N_] at e;omega
theorem Inv.tuple (I:Inv X pins σ H s)(h:G0 X.K H a xs):∃ its:List Ψ,Vals xs its/\IsTup s.heap a its.toArray/\xs.length<=Ζ:=by
 rcases h with h|⟨o,its,n,hk,hc,hs,hz,r⟩
 ·obtain⟨z,its,r,p⟩:=h.ok I.FN;exact⟨its,r,p,z⟩
 ·refine⟨its.toList,r,⟨o,I.IP a o hk,hc,n,by simpa using hs⟩,?_⟩;have e:=r.length;simp only[N_] at e;omega
theorem Inv.Gf (I:Inv X pins σ H s)(h:Gu X.K H a xs)(h':Gu X.K H a ys):xs=ys:=by
 obtain⟨its,r,⟨o,n,e,_,_,d⟩,_⟩:=I.list h;obtain⟨its',r',⟨o',n',e',_,_,d'⟩,_⟩:=I.list h';rw[e] at e';cases e';rw[d] at d';injection d' with d1 _;have:its=its':=by simpa using congrArg Array.toList d1
 subst this;exact r.inj r'
theorem Inv.Hd (I:Inv X pins σ H s)(h:G0 X.K H a xs)(h':G0 X.K H a ys):xs=ys:=by
 obtain⟨its,r,⟨o,e,_,n,d⟩,_⟩:=I.tuple h;obtain⟨its',r',⟨o',e',_,n',d'⟩,_⟩:=I.tuple h';rw[e] at e';cases e';rw[d] at d';injection d' with d1 _;have:its=its':=by simpa using congrArg Array.toList d1
 subst this;exact r.inj r'
end
section
variable {X:Cx}{st:Stmt}{rest:List Stmt}{t u:TS}{e:Expr}{te:TE}{pos:Pos}
def BL:TS:=fun D σ H=>D.nx σ H
def Es (t u:TS):TS:=fun D σ H=>t {D with nx:=u D} σ H
theorem ic:IA X [] BL:=fun _ _ σ H _ I h=>wpAny_execs_nil ⟨σ,H,I,h⟩
theorem ft (h1:PS X st t)(h2:IA X rest u):IA X (st::rest) (Es t u):=by
 intro pins s σ H D I h;refine wpAny_execs_cons (FP (h1 pins s σ H {D with nx:=u D} I h) fun f s1 q=>?_);cases f with
 | next=>obtain⟨FI,H',I',q⟩:=q;exact h2 pins s1 FI H' D I' q
 | ret v=>exact q
 | brk=>exact q
 | cont=>exact q
theorem Inv.quiet {pins:List (Ω×Obj)}{σ:St}{H:Hp}{s:Α}(I:Inv X pins σ H s):interactive X.env=Ξ:=by simp[interactive,I.ok.kind]
def BM (te:TE):TS:=fun D σ H=>te σ H fun _ H1=>D.nx σ H1
theorem ie (he:PE X e te)(hs:swapsWith e Φ pos.line X.env=pure Ξ:=by rfl):PS X (.Expr e pos) (BM te):=by intro pins s σ H D I h;exact wpAny_Expr_any (FP (he pins s σ H _ I h) fun v s1 ⟨x,H1,I1,r1,q1⟩=>⟨σ,H1,I1,q1⟩) I.quiet hs
def Et (te:TE):TS:=fun D σ H=>te σ H D.rt
theorem qD (he:PE X e te):PS X (.Return (Δ e) pos) (Et te):=by intro pins s σ H D I h;exact wpAny_Return_some (FP (he pins s σ H _ I h) fun v s1 ⟨x,H1,I1,r1,q1⟩=>⟨x,σ,H1,I1,r1,q1⟩)
def Eu (c:TT)(t u:TS):TS:=fun D σ H=>c σ H fun b H1=>if b=Θ then t D σ H1 else u D σ H1
theorem xC {c:Expr}{a b:List Stmt}{tc:TT}(hc:PT X c tc)(ha:IA X a t)(hb:IA X b u):PS X (.If c a b pos) (Eu tc t u):=by
 intro pins s σ H D I h;refine wpAny_If (FP (hc pins s σ H _ I h) fun d s1 ⟨H1,I1,q1⟩=>?_);cases d with
 | true=>exact ha pins s1 σ H1 D I1 q1
 | false=>exact hb pins s1 σ H1 D I1 q1
def zA:TS:=fun _ _ _=>False
theorem qE:PS X st zA:=fun _ _ _ _ _ _ h=>h.elim
end
abbrev TG:=V->St->Hp->(St->Hp->Prop)->Prop
abbrev Lr:=List V->St->Hp->(St->Hp->Prop)->Prop
def PG (X:Cx)(target:Expr)(t:TG):Prop:=
 ∀ (pins:List (Ω×Obj)) (s:Α) (σ:St) (H:Hp) (v:V) (u:Ψ) (Q:St->Hp->Prop),Inv X pins σ H s->RelV v u->t v σ H Q->
  Κ (Μ X.prog X.w) X.A (assign target X.env u) (fun _ s'=>∃ FI H',Inv X pins FI H' s'/\Q FI H') X.xe s
def ND (X:Cx)(ts:List Expr)(t:Lr):Prop:=
 ∀ (pins:List (Ω×Obj)) (s:Α) (σ:St) (H:Hp) (vs:List V) (us:List Ψ) (Q:St->Hp->Prop),Inv X pins σ H s->Vals vs us->t vs σ H Q->
  Κ (Μ X.prog X.w) X.A (assignInOrder ((assignEach ts X.env).map (·.2)) us) (fun _ s'=>∃ FI H',Inv X pins FI H' s'/\Q FI H') X.xe s
abbrev zB:=V->V->V->Hp->(Hp->Prop)->Prop
def BN (X:Cx)(t:zB):Prop:=
 ∀ (pins:List (Ω×Obj)) (s:Α) (σ:St) (H:Hp) (o i v:V) (ov iv u:Ψ) (Q:Hp->Prop),Inv X pins σ H s->RelV o ov->RelV i iv->RelV v u->t o i v H Q->
  Κ (Μ X.prog X.w) X.A (setItem ov iv u) (fun _ s'=>∃ H',Inv X pins σ H' s'/\Q H') X.xe s
section
variable {X:Cx}{pos:Pos}
def qF (i:Nat):TG:=fun v σ H Q=>Q (σ.set i (Δ v)) H
theorem vA {i:Nat}{x:Str}(hN:X.N.Nodup)(hi:X.N[i]? = Δ x)(hx:Loc X.env.scope x)(hf:X.fn x=Θ∨X.env.scope.names.lookup x=Δ .local:=by first|exact .inl rfl|exact .inr rfl|assumption):PG X (.Name x pos) (qF i):=by intro pins s σ H v u Q I r h;exact wpAny_assign_Name (k8 I hN hi hx r (fun s' I'=>⟨_,H,I',h⟩) hf)
def BO:Lr:=fun vs σ H Q=>vs=[]/\Q σ H
def xD (t:TG)(u:Lr):Lr:=fun vs σ H Q=>∃ v r,vs=v::r/\t v σ H fun FI H'=>u r FI H' Q
theorem vB:ND X [] BO:=by intro pins s σ H vs us Q I r h;obtain⟨e,h⟩:=h;subst e;cases r;exact assignInOrder_nil ⟨σ,H,I,h⟩
theorem qG {e:Expr}{es:List Expr}{t:TG}{u:Lr}(h1:PG X e t)(h2:ND X es u)
  (hs:(assignEach (e::es) X.env).map (·.2)=assign e X.env::(assignEach es X.env).map (·.2):=by rfl):ND X (e::es) (xD t u):=by
 intro pins s σ H vs us Q I r h;obtain⟨v,vr,e1,h⟩:=h;subst e1;cases r with
 | cons r rr=>rw[hs];refine assignInOrder_cons (FP (h1 pins s σ H _ _ _ I r h) fun _ s1 ⟨Uv,H1,I1,q1⟩=>?_);exact h2 pins s1 Uv H1 _ _ Q I1 rr q1
def Ew (to ti:TE)(t:zB):TG:=fun v σ H Q=>to σ H fun o H1=>ti σ H1 fun i H2=>t o i v H2 fun H3=>Q σ H3
theorem qH {o i:Expr}{to ti:TE}{t:zB}(ho:PE X o to)(hi:PE X i ti)(hs:BN X t)
  (ha:∀ v,assign (.Subscript o i pos) X.env v=(do
   let ov <- holding [v] (eval o X.env);let iv <- holding [v,ov] (eval i X.env)
   standAt pos
   holding [v,ov,iv] (setItem ov iv v)
   release [v,ov,iv] []):=by intro _;rfl):PG X (.Subscript o i pos) (Ew to ti t):=by
 intro pins s σ H v u Q I r h;rw[ha];refine a_ (K_ (FP (ho pins s σ H _ I h) fun ov s1 ⟨x,H1,I1,r1,q1⟩=>?_));refine a_ (K_ (FP (hi pins s1 σ H1 _ I1 q1) fun iv s2 ⟨y,H2,I2,r2,q2⟩=>?_));refine a_ (wpAny_standAt (a_ (K_ (FP (hs pins s2 σ H2 x y v ov iv u _ I2 r1 r2 r q2) fun _ s3 ⟨H3,I3,q3⟩=>?_))));exact wpAny_release ⟨σ,H3,I3,q3⟩
def zC (te:TE)(g:TG):TS:=fun D σ H=>te σ H fun x H1=>g x σ H1 D.nx
theorem mW {tg e:Expr}{te:TE}{g:TG}(he:PE X e te)(hg:PG X tg g)(hs:swapsWithSole [tg] e pos.line X.env=pure Ξ:=by rfl)(hw:swappedStores [tg] e X.env=pure Φ:=by rfl)
  (h1:(assignEach [tg] X.env).map (·.2)=[assign tg X.env]:=by rfl):PS X (.Assign [tg] e pos) (zC te g):=by
 intro pins s σ H D I h;refine wpAny_Assign_stores (FP (he pins s σ H _ I h) fun v s1 ⟨x,H1,I1,r1,q1⟩=>?_) hs hw;rw[h1];exact FP (hg pins s1 σ H1 x v _ I1 r1 q1) fun _ s2 q=>q
theorem mX {i:Nat}{x:Str}{e:Expr}{te:TE}{pos':Pos}(hN:X.N.Nodup)(hi:X.N[i]? = Δ x)(hx:Loc X.env.scope x)(he:PE X e te)(hs:swapsWith e (Δ (.Name x pos')) pos.line X.env=pure Ξ:=by rfl)(hf:X.fn x=Θ∨X.env.scope.names.lookup x=Δ .local:=by first|exact .inl rfl|exact .inr rfl|assumption) :
  PS X (.Assign [.Name x pos'] e pos) (zC te (qF i)):=by
 intro pins s σ H D I h;refine wpAny_Assign_Name (FP (he pins s σ H _ I h) fun v s1 ⟨y,H1,I1,r1,q1⟩=>?_) hs;exact k8 I1 hN hi hx r1 (fun s2 I2=>⟨_,H1,I2,q1⟩) hf
end
structure It where
 go:Nat->Hp->Prop
 Kz:Nat->Hp->V->Hp->Prop
 stop:Nat->Hp->Prop
def fR (X:Cx)(pins:List (Ω×Obj))(H:Hp)(b:Ω):Prop:=
 H b=Φ/\b≠X.env.locals/\b∉X.fs/\(b∈X.ex∨X.F8.heap.objs.size<=b)/\(∀ x c,X.env.cells.lookup x=Δ c->c≠b)/\∀ p∈X.pn++pins,p.1≠b
theorem Inv.Ja {X:Cx}{pins:List (Ω×Obj)}{σ:St}{H H':Hp}{s:Α}{b:Ω}(I:Inv X pins σ H s)(hb:s.heap.objs.size<=b)(hn:H' b=Φ):fR X pins H' b:=by
 refine⟨hn,O_ (z_ I.lt hb),I.QK hb,.inr (M_ I.sz hb),fun x c e z=>?_,fun p hp z=>?_⟩
 ·obtain⟨v,q⟩:=I.cell x c e;exact absurd (z_ q.lt (by rw[z];exact hb)) (R_ _)
 ·exact absurd (z_ (i_ (I.pin p hp).1) (by rw[z];exact hb)) (R_ _)
structure Turn (P:Ε)(w:Β)(K:Frag)(tg:Expr)(J:It)(fp:List Ω)(it:Ω)(tn:Nat->Heap->Prop):Prop where
 mem:it∈fp
 obj:∀ i h,tn i h->∀ b∈fp,∃ o,h.get? b=Δ o/\∀ v,o.data≠.cell v
 keep:∀ i h h',tn i h->(∀ b∈fp,∀ o,h.get? b=Δ o->h'.get? b=Δ o)->tn i h'
 item:∀ (X:Cx),X.prog=P->X.w=w->X.K=K->X.calm=Θ->∀ (i:Nat) (pins:List (Ω×Obj)) (s:Α) (σ:St) (H:Hp) (E:Ψ->Α->Prop),Inv X pins σ H s->(∀ b∈fp,fR X pins H b)->tn i s.heap->J.go i H->
  Κ (Μ P w) X.A (pyNext (.ref it)) (fun r s1=>∃ u,r=Δ u/\
   Κ (Μ P w) X.A (letOwnedTupleGo tg (.ref it) u) (fun _ s2=>∃ x H',Inv X pins σ H' s2/\RelV x u/\J.Kz i H x H'/\tn (i+1) s2.heap/\∀ b∈fp,H' b=Φ) E s1) E s
 done:∀ (X:Cx),X.prog=P->X.w=w->X.K=K->X.calm=Θ->∀ (i:Nat) (pins:List (Ω×Obj)) (s:Α) (σ:St) (H:Hp) (E:Ψ->Α->Prop),Inv X pins σ H s->(∀ b∈fp,fR X pins H b)->tn i s.heap->J.stop i H->
  Κ (Μ P w) X.A (pyNext (.ref it)) (fun r s1=>r=Φ/\Inv X pins σ H s1) E s
 self:∀ (A:Ι) (i:Nat) (s:Α) (Q:Ψ->Α->Prop) (E:Ψ->Α->Prop),tn i s.heap->Q (.ref it) s->Κ (Μ P w) A (pyIter (.ref it)) Q E s
abbrev TI:=St->Hp->(It->Hp->Prop)->Prop
def MY (X:Cx)(pins:List (Ω×Obj))(σ:St)(tg:Expr)(R:It->Hp->Prop)(Px:Ψ)(s2:Α):Prop:=
 ∃ (it:Ω) (fp:List Ω) (tn:Nat->Heap->Prop) (J:It) (H':Hp),Px=.ref it/\Inv X pins σ H' s2/\Turn X.prog X.w X.K tg J fp it tn/\tn 0 s2.heap/\(∀ b∈fp,fR X pins H' b)/\R J H'
def PI (X:Cx)(tg iter:Expr)(wi:TI):Prop:=
 ∀ (pins:List (Ω×Obj)) (s:Α) (σ:St) (H:Hp) (R:It->Hp->Prop),Inv X pins σ H s->wi σ H R->
  Κ (Μ X.prog X.w) X.A (eval iter X.env) (fun v s1=>Κ (Μ X.prog X.w) X.A (pyIter v) (MY X pins σ tg R) X.xe s1) X.xe s
theorem oj {M : Model}{A : Ι}{E : Ψ -> Α -> Prop}{s : Α}{tg : Expr}{it : Ω}{u : Ψ}{o : Obj}{n : String}{vs : Array Ψ}{Q : Unit -> Α -> Prop}(ho : s.heap.get? it = Δ o)(hc : o.cls = .type n)(hd : o.data = .fields vs)
    (hn : ["enumerate", "zip", "dict_itemiterator", "dict_reverseitemiterator", "odict_iterator", "itertools.zip_longest", "itertools.pairwise"].contains n = Ξ) (hQ : Q () s) : Κ M A (letOwnedTupleGo tg (.ref it) u) Q E s := by
  unfold letOwnedTupleGo;cases tg <;> first
    | exact e_ hQ
    | (cases u <;> first
        | exact e_ hQ
        | (refine a_ (wpAny_load ho ?_)
           rw [hc, hd];show Κ M A (if (["enumerate", "zip", "dict_itemiterator", "dict_reverseitemiterator", "odict_iterator", "itertools.zip_longest", "itertools.pairwise"].contains n&&vs[0]? == Δ (rawInt _)) = Θ then _ else _) Q E s;rw [d_ (by intro h; rw [hn, Bool.false_and] at h; cases h)]
           exact e_ hQ))
noncomputable def Py (K:Frag)(a:Ω):It:=
 ⟨fun i H=>∃ xs x,Gu K H a xs/\xs[i]? = Δ x,fun i H x H'=>H'=H/\∀ xs,Gu K H a xs->xs[i]? = Δ x,fun i H=>∃ xs,Gu K H a xs/\xs.length<=i⟩
noncomputable def QN (K:Frag)(a:Ω):It:=
 ⟨fun i H=>∃ xs x,G0 K H a xs/\xs[i]? = Δ x,fun i H x H'=>H'=H/\∀ xs,G0 K H a xs->xs[i]? = Δ x,fun i H=>∃ xs,G0 K H a xs/\xs.length<=i⟩
noncomputable def NF (lo:Int)(n:Nat):It:=⟨fun i _=>i < n,fun i H x H'=>H'=H/\x=.int (lo+i),fun i _=>n<=i⟩
theorem pV {P:Ε}{w:Β}{K:Frag}{tg:Expr}(a it:Ω):Turn P w K tg (Py K a) [it] it (fun i h=>h.IsListIter it a i) where
 mem:=by simp
 obj:=fun i h st b hb=>by
  have e:b=it:=by simpa using hb
  subst e;obtain⟨o,e,c,d⟩:=st;exact⟨o,e,fun v z=>by rw[d] at z;cases z⟩
 keep:=fun i h h' st k=>st.at fun o e=>k it (by simp) o e
 item:=by intro X hP hw hK hc i pins s σ H E I hf st hg;subst hP hw hK;obtain⟨xs,x,hq,hx⟩:=hg;obtain⟨its,rv,p,hz⟩:=I.list hq;obtain⟨u,hu,ru⟩:=rv.get hx;obtain⟨f0,f1,f2,f3,f4,f5⟩:=hf it (by simp);refine wpAny_pyNext_list_item st p.isList (x:=u) (by simpa using hu) fun h' J9 sb=>?_;have I1:Inv X pins σ H {s with heap:=h'}:=I.turned (t':=s.toks) (fun b o hb e=>(sb.2 b hb).trans e) f0 f1 f3 f4 f5;obtain⟨o,e,c,d⟩:=id J9;exact⟨u,rfl,oj (s:={s with heap:=h'}) e c d (by decide) ⟨x,H,I1,ru,⟨rfl,fun ys hy=>by rw[I.Gf hy hq];exact hx⟩,J9,fun b hb=>(hf b hb).1⟩⟩
 done:=by intro X hP hw hK hc i pins s σ H E I hf st hg;subst hP hw hK;obtain⟨xs,hq,hx⟩:=hg;obtain⟨its,rv,p,hz⟩:=I.list hq;obtain⟨f0,f1,f2,f3,f4,f5⟩:=hf it (by simp);have hl:=rv.length;exact wpAny_pyNext_list_end (I.ok.hd hc) st p.isList (by simp;omega) fun h' eb=>⟨rfl,I.turned (t':=s.toks) (fun b o hb e=>eb b o hb e) f0 f1 f3 f4 f5⟩
 self:=fun _ _ _ _ _ st h=>wpAny_pyIter_listiter st h
theorem mY {P:Ε}{w:Β}{K:Frag}{tg:Expr}(a it:Ω):Turn P w K tg (QN K a) [it] it (fun i h=>h.IsTupleIter it a i) where
 mem:=by simp
 obj:=fun i h st b hb=>by
  have e:b=it:=by simpa using hb
  subst e;obtain⟨o,e,c,d⟩:=st;exact⟨o,e,fun v z=>by rw[d] at z;cases z⟩
 keep:=fun i h h' st k=>st.at fun o e=>k it (by simp) o e
 item:=by intro X hP hw hK hc i pins s σ H E I hf st hg;subst hP hw hK;obtain⟨xs,x,hq,hx⟩:=hg;obtain⟨its,rv,p,hz⟩:=I.tuple hq;obtain⟨u,hu,ru⟩:=rv.get hx;obtain⟨f0,f1,f2,f3,f4,f5⟩:=hf it (by simp);refine wpAny_pyNext_tuple_item st (show s.heap.IsTuple a its.toArray from p) (x:=u) (by simpa using hu) fun h' J9 sb=>?_;have I1:Inv X pins σ H {s with heap:=h'}:=I.turned (t':=s.toks) (fun b o hb e=>(sb.2 b hb).trans e) f0 f1 f3 f4 f5;obtain⟨o,e,c,d⟩:=id J9;exact⟨u,rfl,oj (s:={s with heap:=h'}) e c d (by decide) ⟨x,H,I1,ru,⟨rfl,fun ys hy=>by rw[I.Hd hy hq];exact hx⟩,J9,fun b hb=>(hf b hb).1⟩⟩
 done:=by intro X hP hw hK hc i pins s σ H E I hf st hg;subst hP hw hK;obtain⟨xs,hq,hx⟩:=hg;obtain⟨its,rv,p,hz⟩:=I.tuple hq;obtain⟨f0,f1,f2,f3,f4,f5⟩:=hf it (by simp);have hl:=rv.length;exact wpAny_pyNext_tuple_end (I.ok.hd hc) st (show s.heap.IsTuple a its.toArray from p) (by simp;omega) fun h' eb=>⟨rfl,I.turned (t':=s.toks) (fun b o hb e=>eb b o hb e) f0 f1 f3 f4 f5⟩
 self:=fun _ _ _ _ _ st h=>wpAny_pyIter_tupleiter st h
theorem mZ {P:Ε}{w:Β}{K:Frag}{tg:Expr}(it:Ω)(lo:Int)(n:Nat):Turn P w K tg (NF lo n) [it] it (fun i h=>IsRangeIter h it (lo+(i:Nat)*1) ((n:Int) - (i:Nat)) 1) where
 mem:=by simp
 obj:=fun i h st b hb=>by
  have e:b=it:=by simpa using hb
  subst e
  exact⟨_,st,fun v z=>by
   have z':Data.fields _=Data.cell v:=z
   cases z'⟩
 keep:=fun i h h' st k=>k it (by simp) _ st
 item:=by intro X hP hw hK hc i pins s σ H E I hf st hg;subst hP hw hK;obtain⟨f0,f1,f2,f3,f4,f5⟩:=hf it (by simp);have W:=Walks.range (prog:=X.prog) (w:=X.w) (I.ok.hd hc) it lo 1 n;refine W.item i s _ _ hg st fun v h' tk hv J9 kk=>?_;obtain⟨t,rfl⟩:=hv;have I1:Inv X pins σ H {s with heap:=h',toks:=tk}:=I.turned (fun b o hb e=>kk b o (by simpa using hb) e) f0 f1 f3 f4 f5;refine⟨_,rfl,oj (s:={s with heap:=h',toks:=tk}) (n:="range_iterator") J9 rfl rfl (by decide) ⟨.int (lo+i),H,I1,⟨t,?_⟩,⟨rfl,rfl⟩,J9,fun b hb=>(hf b hb).1⟩⟩;rw[Int.mul_one]
 done:=by intro X hP hw hK hc i pins s σ H E I hf st hg;subst hP hw hK;obtain⟨f0,f1,f2,f3,f4,f5⟩:=hf it (by simp);exact wpAny_pyNext_range_end (I.ok.hd hc) st (by have:n<=i:=hg;omega) fun h' eb=>⟨rfl,I.turned (t':=s.toks) (fun b o hb e=>eb b o hb e) f0 f1 f3 f4 f5⟩
 self:=fun _ _ _ _ _ st h=>wpAny_pyIter_rangeiter st h
section
variable {X:Cx}{tg:Expr}
theorem qI {pins:List (Ω×Obj)}{σ:St}{H:Hp}{s:Α}{R:It->Hp->Prop}{E:Ψ->Α->Prop}{lo hi:Int}{t u v:Tok}{tk:Nat}(I:Inv X pins σ H s)(h1 : -(2 ^ 62)<=lo)(h2:lo < 2 ^ 62)(h3 : -(2 ^ 62)<=hi)(h4:hi < 2 ^ 62)
  (q:R (NF lo (hi - lo).toNat) H):Κ (Μ X.prog X.w) X.A (pyIter (.ref s.heap.objs.size)) (MY X pins σ tg R) E {s with heap:=s.heap.push {cls:=.type "range",data:=.fields #[.int lo t,.int hi u,.int 1 v]},toks:=tk}:=by
 refine wpAny_pyIter_range (IsRange.new ..) (small_one h1 h2 h3 h4) ?_;have I1:Inv X pins σ H {s with heap:=s.heap.push {cls:=.type "range",data:=.fields #[.int lo t,.int hi u,.int 1 v]},toks:=tk}:=I.kept fun b o e=>l_ _ e
 refine⟨(s.heap.push {cls:=.type "range",data:=.fields #[.int lo t,.int hi u,.int 1 v]}).objs.size,[(s.heap.push {cls:=.type "range",data:=.fields #[.int lo t,.int hi u,.int 1 v]}).objs.size],_,_,H,rfl,
  I1.kept (t':=tk) fun b o e=>l_ _ e,mZ _ lo (hi - lo).toNat,?_,fun b hb=>?_,q⟩
 ·have e1:lo+((0:Nat):Int)*1=lo:=by simp
  have e2:(((hi - lo).toNat:Nat):Int) - ((0:Nat):Int)=Builtin.Range.rangeSize lo hi 1:=by rw[rangeSize_one];split<;>omega
  show IsRangeIter _ _ (lo+((0:Nat):Int)*1) ((((hi - lo).toNat:Nat):Int) - ((0:Nat):Int)) 1;rw[e1,e2];exact u_ _ rfl
 ·have e:b=(s.heap.push {cls:=.type "range",data:=.fields #[.int lo t,.int hi u,.int 1 v]}).objs.size:=by simpa using hb
  subst e;exact I1.Ja (n_ _) (I1.FN.fresh (n_ _))
def BQ (ta:TA):TI:=fun σ H R=>ta σ H fun vs H1=>∃ j:Int,vs=[.int j]/\-(2 ^ 62)<=j/\j < 2 ^ 62/\R (NF 0 j.toNat) H1
theorem jB {a:Expr}{ta:TA}{p pos:Pos}(hg:Gl X "range") (hm:X.mg "range" = Φ) (ha:PA X [a] ta) (hs:Ν [a] X.env=[(Ξ,eval a X.env)]:=by rfl):PI X tg (.Call (.Name "range" p) [a] [] pos) (BQ ta):=by
 intro pins s σ H R I h;refine Call_ (eV I hg hm boot_range (aay (FP (ha pos pins s σ H _ I h) fun us s1 ⟨vs,H1,I1,r1,q1⟩=>?_) hs rfl));obtain⟨j,e,q1,q2,q⟩:=q1;subst e;cases r1 with
 | cons r rr=>cases rr;obtain⟨t,rfl⟩:=r;exact call_range_1 (qI I1 (by omega) (by omega) q1 q2 (by simpa using q))
def Ex (wi:TI)(g:TG)(tb:TS):TS:=fun D σ H=>wi σ H fun J H1=>∃ W:Nat->Nat->St->Hp->Prop,(∃ m,W 0 m σ H1)/\∀ i m σ H,W i m σ H->
 (J.stop i H/\D.nx σ H)∨(J.go i H/\∃ N:St->Hp->Prop,(∀ FI H',N FI H'->∃ m',m' < m/\W (i+1) m' FI H')/\∀ x H',J.Kz i H x H'->g x σ H' fun IB H2=>tb {D with nx:=N,ct:=N,bk:=D.nx} IB H2)
noncomputable def gN (fp:List Ω)(h:Heap):List (Ω×Obj):=fp.filterMap fun b=>(h.get? b).map fun o=>(b,o)
theorem fA {fp:List Ω}{h:Heap}{b:Ω}{o:Obj}(hb:b∈fp)(e:h.get? b=Δ o):(b,o)∈gN fp h:=List.mem_filterMap.mpr ⟨b,hb,by rw[e];rfl⟩
theorem pW {fp:List Ω}{h:Heap}{p:Ω×Obj}(hp:p∈gN fp h):p.1∈fp/\h.get? p.1=Δ p.2:=by
 obtain⟨b,hb,e⟩:=List.mem_filterMap.mp hp;cases q:h.get? b with
 | none=>rw[q] at e;cases e
 | some o=>rw[q] at e;have e':(b,o)=p:=F_ e;subst e';exact⟨hb,q⟩
theorem Inv.pinned {pins:List (Ω×Obj)}{σ:St}{H:Hp}{s:Α}{fp:List Ω}(I:Inv X pins σ H s)(hf:∀ b∈fp,fR X pins H b)(ho:∀ b∈fp,∃ o,s.heap.get? b=Δ o/\∀ v,o.data≠.cell v):Inv X (pins++gN fp s.heap) σ H s:=
 I.Jp fun p hp=>(x_.mp hp).elim (fun z=>I.pin p (r_ _ z)) fun z=>by obtain⟨hb,e⟩:=pW z;obtain⟨f0,f1,f2,_⟩:=hf p.1 hb;obtain⟨o,e',d⟩:=ho p.1 hb;rw[e] at e';cases e';exact⟨e,f0,f1,f2,d⟩
theorem Inv.G6 {pins pl:List (Ω×Obj)}{σ:St}{H:Hp}{s:Α}(I:Inv X (pins++pl) σ H s):Inv X pins σ H s:=I.Jp fun p hp=>I.pin p (r_ _ (q_ _ hp))
theorem qJ {iter:Expr}{body:List Stmt}{wi:TI}{g:TG}{tb:TS}{pos:Pos}(hp:PassesOwn (Μ X.prog X.w) X.A X.env X.xe)(hc:X.calm=Θ)(hi:PI X tg iter wi)(hg:PG X tg g)(hb:IA X body tb)
  (hs:∀ x,foldedSetIterable iter X.env x=pure x:=by intro _;rfl):PS X (.For tg iter body [] pos) (Ex wi g tb):=by
 intro pins s σ H D I h;refine wpAny_For (FP (hi pins s σ H _ I h) fun v s1 h1=>FP h1 fun Px s2 h2=>?_) hs;obtain⟨it,fp,tn,J,H2,e,I2,T,Lu,f2,W,⟨m0,w0⟩,turn⟩:=h2;subst e
 -- QO stays Θ of L4 L5 objects through L4 loop
 have Jb:∀ {H':Hp},(∀ b∈fp,H' b=Φ)->∀ b∈fp,fR X pins H' b:=fun hn b hb=>⟨hn b hb,(f2 b hb).2⟩
 refine codeAny_forLoop_any (fun n s'=>∃ i FI H',Inv X pins FI H' s'/\tn i s'.heap/\(∀ b∈fp,H' b=Φ)/\W i n FI H') ?_ m0 ⟨0,σ,H2,I2,Lu,fun b hb=>(f2 b hb).1,w0⟩;rintro n s3 ⟨i,NG,H3,I3,Uw,Ux,w3⟩;rcases turn i n NG H3 w3 with ⟨stop,qn⟩|⟨go,N,hN,step⟩
 ·refine wpAny_passesOwn hp (FP (T.done X rfl rfl rfl hc i pins s3 NG H3 X.xe I3 (Jb Ux) Uw stop) fun r s4 ⟨hr,I4⟩=>?_);subst hr;exact wpAny_execs_nil ⟨NG,H3,I4,qn⟩
 ·refine wpAny_passesOwn hp (FP (T.item X rfl rfl rfl hc i pins s3 NG H3 X.xe I3 (Jb Ux) Uw go) fun r s4 ⟨u,hr,h4⟩=>?_);subst hr;refine wpAny_passesOwn hp (FP h4 fun _ s5 ⟨x,H5,I5,r5,y5,NH,QP⟩=>?_);have WI:=I5.pinned (Jb QP) (T.obj _ _ NH);refine wpAny_passesOwn hp (FP (hg _ s5 NG H5 x u _ WI r5 (step x H5 y5)) fun _ s6 ⟨L6,H6,I6,q6⟩=>?_);refine wpAny_passesOwn hp (FP (hb _ s6 L6 H6 _ I6 q6) fun f s7 q7=>?_);have again:∀ {J':St}{H7:Hp},Inv X (pins++gN fp s5.heap) J' H7 s7->N J' H7->∃ m,m < n/\∃ i FI H',Inv X pins FI H' s7/\tn i s7.heap/\(∀ b∈fp,H' b=Φ)/\W i m FI H':=fun {J' H7} I7 n7=>by obtain⟨m',hm,w7⟩:=hN J' H7 n7;refine⟨m',hm,i+1,J',H7,I7.G6,T.keep _ _ _ NH fun b hb o e=>(I7.pin (b,o) (r_ _ (r_ _ (fA hb e)))).1,fun b hb=>?_,w7⟩;obtain⟨o,e,d⟩:=T.obj _ _ NH b hb;exact(I7.pin (b,o) (r_ _ (r_ _ (fA hb e)))).2.1
  cases f with
  | next=>obtain⟨J',H7,I7,n7⟩:=q7;exact again I7 n7
  | cont=>obtain⟨J',H7,I7,n7⟩:=q7;exact again I7 n7
  | brk=>obtain⟨J',H7,I7,q7⟩:=q7;exact⟨J',H7,I7.G6,q7⟩
  | ret v=>obtain⟨x7,J',H7,I7,r7,q7⟩:=q7;exact⟨x7,J',H7,I7.G6,r7,q7⟩
end
abbrev R2:=V->V->Hp->VK->Prop
def HH (X:Cx)(f:Ψ->Ψ->Sem Ψ)(r:R2):Prop:=
 ∀ (pins:List (Ω×Obj)) (s:Α) (σ:St) (H:Hp) (x y:V) (v u:Ψ) (Q:VK),Inv X pins σ H s->RelV x v->RelV y u->r x y H Q->
  Κ (Μ X.prog X.w) X.A (f v u) (EP X pins σ Q) X.xe s
def QQ (X:Cx)(f:Ψ->Sem Ψ)(r:V->Hp->VK->Prop):Prop:=
 ∀ (pins:List (Ω×Obj)) (s:Α) (σ:St) (H:Hp) (x:V) (v:Ψ) (Q:VK),Inv X pins σ H s->RelV x v->r x H Q->
  Κ (Μ X.prog X.w) X.A (f v) (EP X pins σ Q) X.xe s
def dJ (X:Cx)(f:Ψ)(r:List V->Hp->VK->Prop):Prop:=
 ∀ (pins:List (Ω×Obj)) (s:Α) (σ:St) (H:Hp) (xs:List V) (us:List Ψ) (Q:VK),Inv X pins σ H s->Vals xs us->r xs H Q->
  Κ (Μ X.prog X.w) X.A (call f us) (EP X pins σ Q) X.xe s
def Ey (X:Cx)(r:V->Hp->(Bool->Hp->Prop)->Prop):Prop:=
 ∀ (pins:List (Ω×Obj)) (s:Α) (σ:St) (H:Hp) (x:V) (v:Ψ) (Q:Bool->Hp->Prop),Inv X pins σ H s->RelV x v->r x H Q->
  Κ (Μ X.prog X.w) X.A (truthy v) (TP X pins σ Q) X.xe s
def Pz (r:R2)(ta tb:TE):TE:=fun σ H Q=>ta σ H fun x H1=>tb σ H1 fun y H2=>r x y H2 Q
def WJ (r:V->Hp->VK->Prop)(ta:TE):TE:=fun σ H Q=>ta σ H fun x H1=>r x H1 Q
def rI (C:Int->Int->Prop)(g:Int->Int->V):R2:=fun x y H Q=>∃ i j,x=.int i/\y=.int j/\C i j/\Q (g i j) H
def QR (g:Int->Int->V):R2:=fun x y H Q=>∃ i j,x=.int i/\y=.int j/\Q (g i j) H
def rU (g:Int->V):V->Hp->VK->Prop:=fun x H Q=>∃ i,x=.int i/\Q (g i) H
section
variable {X:Cx}{a b c:Expr}{ta tb tc:TE}{pos:Pos}
theorem zF (ha:PE X a ta)(hb:PE X b tb){pins:List (Ω×Obj)}{s:Α}{σ:St}{H:Hp}{R:V->V->Hp->Prop}(I:Inv X pins σ H s)
  (h:ta σ H fun x H1=>tb σ H1 fun y H2=>R x y H2) {Q:Ψ->Α->Prop}{f:Ψ->Ψ->Sem Ψ}
  (hf:∀ v u s2 x y H2,Inv X pins σ H2 s2->RelV x v->RelV y u->R x y H2->Κ (Μ X.prog X.w) X.A (f v u) Q X.xe s2) :
  Κ (Μ X.prog X.w) X.A (eval a X.env) (fun v FG=>Κ (Μ X.prog X.w) X.A (eval b X.env) (fun u QS=>Κ (Μ X.prog X.w) X.A (f v u) Q X.xe QS) X.xe FG) X.xe s:=by
 refine FP (ha pins s σ H _ I h) fun v s1 ⟨x,H1,I1,r1,q1⟩=>?_;refine FP (hb pins s1 σ H1 _ I1 q1) fun u s2 ⟨y,H2,I2,r2,q2⟩=>?_;exact hf v u s2 x y H2 I2 r1 r2 q2
theorem om {op:Operator}{r:R2}(ho:HH X (binaryOp op) r)(ha:PE X a ta)(hb:PE X b tb):PE X (.BinOp a op b pos) (Pz r ta tb):=by intro pins s σ H Q I h;exact wpAny_BinOp (zF ha hb I h fun v u s2 x y H2 I2 rx ry q=>ho pins s2 σ H2 x y v u Q I2 rx ry q)
theorem BR {op:UnaryOp}{r:V->Hp->VK->Prop}(ho:QQ X (unaryOp op) r)(ha:PE X a ta):PE X (.UnaryOp op a pos) (WJ r ta):=by intro pins s σ H Q I h;exact UnaryOp_ (FP (ha pins s σ H _ I h) fun v s1 ⟨x,H1,I1,r1,q1⟩=>ho pins s1 σ H1 x v Q I1 r1 q1)
theorem PB {f:Ψ->Ψ->Sem Ψ}{C:Int->Int->Prop}{g:Int->Int->Int}
  (rule:∀ (i j:Int) (t u:Tok) (s:Α) (Q:Ψ->Α->Prop) (E:Ψ->Α->Prop),C i j->Q (.int (g i j) s.toks) {s with toks:=s.toks+1}->Κ (Μ X.prog X.w) X.A (f (.int i t) (.int j u)) Q E s) :
  HH X f (rI C fun i j=>.int (g i j)):=by
 intro pins s σ H x y v u Q I rx ry h;obtain⟨i,j,rfl,rfl,hc,q⟩:=h;obtain⟨t,rfl⟩:=rx;obtain⟨t',rfl⟩:=ry;exact rule i j t t' s _ _ hc ⟨.int (g i j),H,I.tok _,⟨_,rfl⟩,q⟩
theorem BU {f:Ψ->Ψ->Sem Ψ}{g:Int->Int->Int}
  (rule:∀ (i j:Int) (t u:Tok) (s:Α) (Q:Ψ->Α->Prop) (E:Ψ->Α->Prop),Q (.int (g i j) s.toks) {s with toks:=s.toks+1}->Κ (Μ X.prog X.w) X.A (f (.int i t) (.int j u)) Q E s) :
  HH X f (QR fun i j=>.int (g i j)):=by
 intro pins s σ H x y v u Q I rx ry h;obtain⟨i,j,rfl,rfl,q⟩:=h;obtain⟨t,rfl⟩:=rx;obtain⟨t',rfl⟩:=ry;exact rule i j t t' s _ _ ⟨.int (g i j),H,I.tok _,⟨_,rfl⟩,q⟩
def Ez (i j:Int):Prop:=0 < j/\j < 1073741824
def EA (i j:Int):Prop:=0<=j/\j<=1000000/\i.natAbs < 2 ^ 64
def zG (i j:Int):Prop:=(-(2 ^ 64) < i/\i < 2 ^ 64)∨(-(2 ^ 64) < j/\j < 2 ^ 64)
theorem zG.ok {i j:Int}(h:zG i j):IntMulOk i j:=by
 rcases h with ⟨h1,h2⟩|⟨h1,h2⟩
 ·exact .of_left (intBits_le_64 h1 h2)
 ·exact .of_right (intBits_le_64 h1 h2)
theorem zH:HH X (binaryOp .Add) (QR fun i j=>.int (i+j)):=BU fun _ _ _ _ _ _ _ q=>add_int q
theorem zJ:HH X (binaryOp .Sub) (QR fun i j=>.int (i - j)):=BU fun _ _ _ _ _ _ _ q=>sub_int q
theorem zK:HH X (binaryOp .Mult) (rI zG fun i j=>.int (i*j)):=PB fun _ _ _ _ _ _ _ hc q=>mul_int q hc.ok
theorem vC:HH X (binaryOp .FloorDiv) (rI Ez fun i j=>.int (i / j)):=PB fun i j _ _ _ _ _ hc q=>by have h1:(0:Int) < j:=hc.1;have h2:j < 1073741824:=hc.2;exact floordiv_int (by omega) (by rw[Int.fdiv_eq_ediv_of_nonneg i (by omega)];exact q) (.inl (PyProof.noPylong_small (by omega)))
theorem zL:HH X (binaryOp .Mod) (rI (fun _ j=>0 < j) fun i j=>.int (i % j)):=PB fun i j _ _ _ _ _ hc q=>by have h1:(0:Int) < j:=hc;exact mod_int' (by omega) (by rw[Int.fmod_eq_emod_of_nonneg i (by omega)];exact q)
theorem zM:HH X (binaryOp .Pow) (rI EA fun i j=>.int (i ^ j.toNat)):=PB fun _ _ _ _ _ _ _ hc q=>pow_int_small hc.1 hc.2.1 hc.2.2 q
theorem WK {f:Ψ->Sem Ψ}{g:Int->Int}
  (rule:∀ (i:Int) (t:Tok) (s:Α) (Q:Ψ->Α->Prop) (E:Ψ->Α->Prop),Q (.int (g i) s.toks) {s with toks:=s.toks+1}->Κ (Μ X.prog X.w) X.A (f (.int i t)) Q E s) :
  QQ X f (rU fun i=>.int (g i)):=by
 intro pins s σ H x v Q I rx h;obtain⟨i,rfl,q⟩:=h;obtain⟨t,rfl⟩:=rx;exact rule i t s _ _ ⟨.int (g i),H,I.tok _,⟨_,rfl⟩,q⟩
theorem zN:QQ X (unaryOp .USub) (rU fun i=>.int (-i)):=WK fun _ _ _ _ _ q=>neg_int q
end
section
variable {X:Cx}{a b c:Expr}{ta tb tc:TE}{pos:Pos}
theorem vD {op:CmpOp}{r:R2}(ho:HH X (compareOp op) r)(ha:PE X a ta)(hb:PE X b tb)(hm:behindInMarks op b=Ξ):PE X (.Compare a [op] [b] pos) (Pz r ta tb):=by intro pins s σ H Q I h;exact wpAny_Compare1 (zF ha hb I h fun v u s2 x y H2 I2 rx ry q=>ho pins s2 σ H2 x y v u Q I2 rx ry q) hm
def xE (t:TE):TT:=fun σ H Q=>t σ H fun x H'=>∃ k,x=.bl k/\Q k H'
theorem vE {op:CmpOp}{r:R2}(ho:HH X (compareOp op) r)(ha:PE X a ta)(hb:PE X b tb)(hm:behindInMarks op b=Ξ):PT X (.Compare a [op] [b] pos) (xE (Pz r ta tb)):=by
 intro pins s σ H Q I h
 refine wpAny_isTrue_Compare1 (FP (ha pins s σ H _ I h) fun v s1 ⟨x,H1,I1,r1,q1⟩=>FP (hb pins s1 σ H1 _ I1 q1) fun u s2 ⟨y,H2,I2,r2,q2⟩=>
  FP (ho pins s2 σ H2 x y v u _ I2 r1 r2 q2) fun c s3 ⟨z,H3,I3,r3,k,e,q3⟩=>?_) hm
 subst e;cases r3;exact wpAny_truthy_bool ⟨H3,I3,q3⟩
def qK (r r':R2)(ta tb tc:TE):TE:=fun σ H Q=>ta σ H fun x H1=>tb σ H1 fun y H2=>r x y H2 fun z H3=>∃ k,z=.bl k/\
 (if k=Θ then tc σ H3 fun w' H4=>r' y w' H4 Q else Q (.bl Ξ) H3)
theorem qL {op Gk:CmpOp}{r r':R2}(ho:HH X (compareOp op) r)(Hz:HH X (compareOp Gk) r')(ha:PE X a ta)(hb:PE X b tb)(hc:PE X c tc)
  (hm:lastMarks [op,Gk] [b,c]=Ξ:=by with_unfolding_all rfl):PE X (.Compare a [op,Gk] [b,c] pos) (qK r r' ta tb tc):=by
 intro pins s σ H Q I h
 refine Compare_chain (FP (ha pins s σ H _ I h) fun v s1 ⟨x,H1,I1,r1,q1⟩=>chain_link (FP (hb pins s1 σ H1 _ I1 q1) fun u s2 ⟨y,H2,I2,r2,q2⟩=>
  FP (ho pins s2 σ H2 x y v u _ I2 r1 r2 q2) fun d s3 ⟨z,H3,I3,r3,k,e,q3⟩=>?_)) hm
 subst e;cases r3;refine wpAny_truthy_bool ?_;cases k with
 | false=>exact ite_ff ⟨.bl Ξ,H3,I3,rfl,q3⟩
 | true=>exact ite_tt (chain_last (FP (hc pins s3 σ H3 _ I3 q3) fun w' s4 ⟨z',H4,I4,r4,q4⟩=>Hz pins s4 σ H4 y z' u w' Q I4 r2 r4 q4))
theorem qM {op Gk:CmpOp}{r r':R2}(ho:HH X (compareOp op) r)(Hz:HH X (compareOp Gk) r')(ha:PE X a ta)(hb:PE X b tb)(hc:PE X c tc)
  (hm:lastMarks [op,Gk] [b,c]=Ξ:=by with_unfolding_all rfl):PT X (.Compare a [op,Gk] [b,c] pos) (xE (qK r r' ta tb tc)):=by
 intro pins s σ H Q I h
 refine isTrue_chain (FP (ha pins s σ H _ I h) fun v s1 ⟨x,H1,I1,r1,q1⟩=>test_link (FP (hb pins s1 σ H1 _ I1 q1) fun u s2 ⟨y,H2,I2,r2,q2⟩=>
  FP (ho pins s2 σ H2 x y v u _ I2 r1 r2 q2) fun d s3 ⟨z,H3,I3,r3,k,e,q3⟩=>?_)) hm
 subst e;cases r3;refine wpAny_truthy_bool ?_;cases k with
 | false=>obtain⟨k',e',q'⟩:=q3;cases e';exact ite_ff ⟨H3,I3,q'⟩
 | true=>refine ite_tt (test_last (FP (hc pins s3 σ H3 _ I3 q3) fun w' s4 ⟨z',H4,I4,r4,q4⟩=>FP (Hz pins s4 σ H4 y z' u w' _ I4 r2 r4 q4) fun d' s5 ⟨z2,H5,I5,r5,k2,e2,q5⟩=>?_));subst e2;cases r5;exact wpAny_truthy_bool ⟨H5,I5,q5⟩
def EB (K:Frag)(x:V)(H:Hp)(k:Bool):Prop:=
 match x with
 | .Fy=>k=Ξ
 | .bl b=>k=b
 | .int i=>k=(i != 0)
 | .str y=>y.length<=Ζ/\k=((y.length:Int) != 0)
 | .LY y=>y.size<=Ζ/\k=((y.size:Int) != 0)
 | .ref p=>(∃ xs,Gu K H p xs/\k = !xs.isEmpty)∨(∃ xs,G0 K H p xs/\k = !xs.isEmpty)∨∃ FL,H p=Δ (.dK FL)/\k = !FL.isEmpty
 | _=>False
theorem m7 {κ:Type}{FL:List (κ×V)}{vs:List (κ×Ψ)}(r:KV FL vs):(!vs.isEmpty) = !FL.isEmpty:=by cases r<;>rfl
theorem ix {xs:List V}{its:List Ψ}(r:Vals xs its):(!its.toArray.isEmpty) = !xs.isEmpty:=by cases r<;>simp
theorem gO:(Ζ:Nat) < 2 ^ 63:=by rw[sizeLine_eq];decide
theorem zO:Ey X (fun x H Q=>∃ k,EB X.K x H k/\Q k H):=by
 intro pins s σ H x v Q I rx h;obtain⟨k,e,q⟩:=h;have hl:=gO;have hs:Ζ=16777216:=sizeLine_eq;cases x with
 | Fy=>cases rx;have e':k=Ξ:=e;subst e';exact truthy_none ⟨H,I,q⟩
 | bl b=>cases rx;have e':k=b:=e;subst e';exact wpAny_truthy_bool ⟨H,I,q⟩
 | int i=>obtain⟨t,rfl⟩:=rx;have e':k=(i != 0):=e;subst e';exact PySem.P.truthy_int ⟨H,I,q⟩
 | str y=>obtain⟨t,rfl⟩:=rx;obtain⟨hy,e'⟩:y.length<=Ζ/\k=((y.length:Int) != 0):=e;subst e';exact PySem.P.truthy_str (by omega) ⟨H,I.tok _,q⟩
 | LY y=>obtain⟨t,rfl⟩:=rx;obtain⟨hy,e'⟩:y.size<=Ζ/\k=((y.size:Int) != 0):=e;subst e';exact PySem.W.truthy_bytes (by omega) ⟨H,I.tok _,q⟩
 | ref p=>
  cases rx;have e':(∃ xs,Gu X.K H p xs/\k = !xs.isEmpty)∨(∃ xs,G0 X.K H p xs/\k = !xs.isEmpty)∨∃ FL,H p=Δ (.dK FL)/\k = !FL.isEmpty:=e;rcases e' with ⟨xs,hx,e'⟩|⟨xs,hx,e'⟩|⟨FL,hx,e'⟩
  ·subst e';obtain⟨its,r,pl,hz⟩:=I.list hx;have hlen:=r.length;exact wpAny_truthy_list pl.isList (by simp only[A_];omega) ⟨H,I.tok _,by rw[ix r];exact q⟩
  ·subst e';obtain⟨its,r,pl,hz⟩:=I.tuple hx;have hlen:=r.length;exact truthy_tuple pl (by simp only[A_];omega) ⟨H,I.tok _,by rw[ix r];exact q⟩
  ·subst e';obtain⟨hz,hS,vs,r,m⟩:FL.length<=Ζ/\(p == sysModules)=Ξ/\∃ vs,KV FL vs/\s.heap.DictOf (ib X.prog X.w) p vs:=I.FN p _ hx;have hlen:FL.length=vs.length:=Paired.length r;exact wpAny_truthy_dict hS m (by omega) ⟨H,I.tok _,by rw[m7 r];exact q⟩
 | _=>exact(show False from e).elim
theorem m8:HH X (binaryOp .Add) (fun x y H Q=>∃ i j,x=.str i/\y=.str j/\i.length+j.length<=Ζ/\Q (.str (i++j)) H):=by intro pins s σ H x y v u Q I rx ry h;obtain⟨i,j,rfl,rfl,hz,q⟩:=h;obtain⟨t,rfl⟩:=rx;obtain⟨t',rfl⟩:=ry;exact add_str (fun t' tk=>⟨.str (i++j),H,I.tok _,⟨_,rfl⟩,q⟩) hz
theorem vals1 {x:V}{us:List Ψ}(r:Vals [x] us):∃ u,us=[u]/\RelV x u:=by
 cases r with
 | cons r1 r2=>cases r2;exact⟨_,rfl,r1⟩
theorem vals2 {x y:V}{us:List Ψ}(r:Vals [x,y] us):∃ u w',us=[u,w']/\RelV x u/\RelV y w':=by
 cases r with
 | cons r1 r2=>
  cases r2 with
  | cons r3 r4=>cases r4;exact⟨_,_,rfl,r1,r3⟩
theorem pX (hc:X.calm=Θ):dJ X (.builtin "max") (fun xs H Q=>∃ i j,xs=[.int i,.int j]/\Q (.int (if j > i then j else i)) H):=by
 intro pins s σ H xs us Q I r h;obtain⟨i,j,rfl,q⟩:=h;obtain⟨u,w',rfl,⟨t,rfl⟩,⟨t',rfl⟩⟩:=vals2 r;refine max_two_ints (I.ok.hd hc) fun h' tk k=>⟨_,H,I.kept k,?_,q⟩
 by_cases hj:j > i
 ·rw[f_ hj,f_ hj];exact⟨_,rfl⟩
 ·rw[d_ hj,d_ hj];exact⟨_,rfl⟩
theorem pY (hc:X.calm=Θ):dJ X (.builtin "min") (fun xs H Q=>∃ i j,xs=[.int i,.int j]/\Q (.int (if j < i then j else i)) H):=by
 intro pins s σ H xs us Q I r h;obtain⟨i,j,rfl,q⟩:=h;obtain⟨u,w',rfl,⟨t,rfl⟩,⟨t',rfl⟩⟩:=vals2 r;refine min_two_ints (I.ok.hd hc) fun h' tk k=>⟨_,H,I.kept k,?_,q⟩
 by_cases hj:j < i
 ·rw[f_ hj,f_ hj];exact⟨_,rfl⟩
 ·rw[d_ hj,d_ hj];exact⟨_,rfl⟩
theorem qN:dJ X (.builtin "ord") (fun xs H Q=>∃ x,xs=[.str x]/\x.length=1/\Q (.int (x.cps.getD 0 0:Nat)) H):=by intro pins s σ H xs us Q I r h;obtain⟨x,rfl,hz,q⟩:=h;obtain⟨u,rfl,t,rfl⟩:=vals1 r;exact ord_of_one hz ⟨.int _,H,I.tok _,⟨_,rfl⟩,q⟩
def EC (K:Frag)(x:V)(H:Hp)(n:Nat):Prop:=
 match x with
 | .str y=>y.length<=Ζ/\n=y.length
 | .LY y=>y.size<=Ζ/\n=y.size
 | .ref p=>(∃ xs,Gu K H p xs/\n=xs.length)∨∃ xs,G0 K H p xs/\n=xs.length
 | _=>False
theorem iy:dJ X (.builtin "len") (fun xs H Q=>∃ x n,xs=[x]/\EC X.K x H n/\Q (.int n) H):=by
 intro pins s σ H xs us Q I r h;obtain⟨x,n,rfl,e,q⟩:=h;obtain⟨u,rfl,rx⟩:=vals1 r;have hl:=gO;have hs:Ζ=16777216:=sizeLine_eq;cases x with
 | str y=>obtain⟨t,rfl⟩:=rx;obtain⟨hy,e'⟩:y.length<=Ζ/\n=y.length:=e;subst e';exact len_str (by omega) ⟨.int _,H,I.tok _,⟨_,rfl⟩,q⟩
 | LY y=>obtain⟨t,rfl⟩:=rx;obtain⟨hy,e'⟩:y.size<=Ζ/\n=y.size:=e;subst e';exact PySem.W.len_bytes (by omega) ⟨.int _,H,I.tok _,⟨_,rfl⟩,q⟩
 | ref p=>
  cases rx;have e':(∃ xs,Gu X.K H p xs/\n=xs.length)∨∃ xs,G0 X.K H p xs/\n=xs.length:=e;rcases e' with ⟨xs,hx,e'⟩|⟨xs,hx,e'⟩
  ·subst e';obtain⟨its,r',pl,hz⟩:=I.list hx;have hlen:=r'.length;exact Calls.call_len_list pl.isList (by simp only[A_];omega) ⟨.int xs.length,H,I.tok _,⟨_,by simp only[A_];rw[hlen]⟩,q⟩
  ·subst e';obtain⟨its,r',pl,hz⟩:=I.tuple hx;have hlen:=r'.length;exact len_tuple pl (by simp only[A_];omega) ⟨.int xs.length,H,I.tok _,⟨_,by simp only[A_];rw[hlen]⟩,q⟩
 | _=>exact(show False from e).elim
end
structure GK (k:Nat)(A:Ι):Prop where
 hd:k < 1000->A.handled=Φ
 dp:A.depth+3*(k % 1000)+5 < recursionLimit
 un:A.units+16*(k % 1000)+200 < cLine
theorem GK.deeper {k:Nat}{A:Ι}(r:GK (k+1) A)(env:Env)(hk:k % 1000≠999):GK k (A.deeper env):=
 ⟨fun z=>r.hd (by omega),by have:=r.dp;show A.depth+1+3*(k % 1000)+5 < _;omega,by have:=r.un;show A.units+3+16*(k % 1000)+200 < _;omega⟩
theorem GK.depth {k:Nat}{A:Ι}(r:GK k A):A.depth < recursionLimit:=by have:=r.dp;omega
def pZ:TA:=fun _ H Q=>Q [] H
def iz (ta:TE)(tr:TA):TA:=fun σ H Q=>ta σ H fun x H1=>tr σ H1 fun xs H2=>Q (x::xs) H2
section
variable {X:Cx}{e:Expr}{es:List Expr}{te:TE}{t:TA}{pos:Pos}
theorem dy:PA X [] pZ:=fun _ _ _ _ H Q I h=>Calls.spliced_nil ⟨[],H,I,.nil,h⟩
theorem cS (ha:PE X e te)(hr:PA X es t)(hs:Ν (e::es) X.env=(Ξ,eval e X.env)::Ν es X.env:=by rfl):PA X (e::es) (iz te t):=by intro pos pins s σ H Q I h;rw[hs];show Κ _ _ (spliced ((Ξ,eval e X.env)::backTo pos (Ν es X.env))) _ _ s;refine Calls.spliced_cons (FP (ha pins s σ H _ I h) fun u s1 ⟨x,H1,I1,r1,q1⟩=>?_);exact FP (hr pos pins s1 σ H1 _ I1 q1) fun us s2 ⟨xs,H2,I2,r2,q2⟩=>⟨x::xs,H2,I2,.cons r1 r2,q2⟩
def ED (t:TA):TE:=fun σ H Q=>t σ H fun xs H1=>xs.length<=Ζ/\∀ p,H1 p=Φ->Q (.ref p) (upd H1 p (.tup xs))
def BV (t:TA):TE:=fun σ H Q=>t σ H fun xs H1=>xs.length<=Ζ/\∀ p,H1 p=Φ->Q (.ref p) (upd H1 p (.lst xs))
theorem qO {x1}(h:PA X es t):PE X (.Tuple es x1 pos) (ED t):=by intro pins s σ H Q I hq;refine wpAny_Tuple_spliced (FP (h pos pins s σ H _ I hq) fun us s1 ⟨xs,H1,I1,r,z,q⟩=>⟨by rw[<- r.length];exact z,?_⟩);have hf:H1 s1.heap.objs.size=Φ:=I1.FN.fresh (n_ _);refine⟨.ref s1.heap.objs.size,upd H1 s1.heap.objs.size (.tup xs),I1.laid (t':=s1.toks) (fun b u e=>l_ _ e) (n_ _) ?_,rfl,q _ hf⟩;exact⟨z,us,r,⟨_,u_ _ rfl,rfl,_,rfl⟩⟩
theorem iA (h:PA X es t):PE X (.List es pos) (BV t):=by intro pins s σ H Q I hq;refine wpAny_List_spliced (FP (h pos pins s σ H _ I hq) fun us s1 ⟨xs,H1,I1,r,z,q⟩=>⟨by rw[<- r.length];exact z,?_⟩);have hf:H1 s1.heap.objs.size=Φ:=I1.FN.fresh (n_ _);refine⟨.ref s1.heap.objs.size,upd H1 s1.heap.objs.size (.lst xs),I1.laid (t':=s1.toks) (fun b u e=>l_ _ e) (n_ _) ?_,rfl,q _ hf⟩;exact⟨z,us,0,r,u_ _ rfl⟩
end
abbrev Sp:=List V->Hp->VK->XK->Prop
abbrev G1:=List Env->Hp->Α->XK->Ψ->Α->Prop
structure JJ (P:Ε)(w:Β)(K:Frag)(mg:Str->Option Ψ)(base:Heap)(A:Ι)(outer:List Env)(s:Α)(H:Hp):Prop where
 frames:A.frames=Δ outer
 mod:Mod K mg base
 bs:∀ b o,base.get? b=Δ o->s.heap.get? b=Δ o/\H b=Φ
 KP:base.objs.size<=s.heap.objs.size
 G5:s.heap.FunFrames base outer
 J7:∀ b∈GJ outer,H b=Φ
 FN:Gw P w H s.heap
 bare:AllBare s.gens
def CE (outer:List Env)(P:Ε)(w:Β)(H:Hp)(s:Α)(Q:VK)(u:Ψ)(s':Α):Prop:=
 ∃ v H',s'.os=s.os/\AllBare s'.gens/\Un (GJ outer) [] H H' s.heap s'.heap/\Gw P w H' s'.heap/\RelV v u/\Q v H'
def CR (CX:G1)(outer:List Env)(P:Ε)(w:Β)(H:Hp)(s:Α)(Q:VK)(E:XK)(r:Result)(s':Α):Prop:=
 match r with
 | .ok (.ret u)=>CE outer P w H s Q u s'
 | .ok _=>False
 | .error e=>CX outer H s E e s'
structure He (P:Ε)(w:Β)(K:Frag)(mg:Str->Option Ψ)(base:Heap)(CX:G1)(k:Nat)(f:Ω)(fd:Ο)(ps:List Str)(sp:Sp):Prop where
 len:∀ vs H Q E,sp vs H Q E->vs.length=ps.length
 run:∀ (A:Ι) (outer:List Env) (s:Α) (H:Hp) (args:Args) (us:List Ψ) (vs:List V) (Q:VK) (E:XK),GK k A->JJ P w K mg base A outer s H->BindsTo s fd args (ps.zip us)->Vals vs us->sp vs H Q E->
  codeAny (Μ P w) A (.call (.ref f) args) (CR CX outer P w H s Q E) s
section
variable {X:Cx}{pins:List (Ω×Obj)}{σ:St}{H:Hp}{s s':Α}
theorem Inv.HJ (I:Inv X pins σ H s):JJ X.prog X.w X.K X.mg X.base X.A X.stack s H:=
 ⟨I.ok.frames,I.ok.mod,I.bs,M_ I.ok.KP I.sz,I.stack,I.Ic,I.FN,I.bare⟩
theorem Inv.after {Q:VK}{u:Ψ}(I:Inv X pins σ H s)(h:CE X.stack X.prog X.w H s Q u s'):EP X pins σ Q u s':=by obtain⟨v,H',os,bare,un,FN,r,q⟩:=h;obtain⟨hh,g,d,t,QT⟩:=s';obtain rfl:QT=s.os:=os;exact⟨v,H',I.call (h':=hh) (g':=g) (d':=d) (t':=t) (ch:=[]) un FN bare (fun b z=>absurd z (by simp)),r,q⟩
end
def Binds (K:Frag)(fd:Ο)(ps:List Str)(ds:List Ψ):Prop:=
 ∀ (s:Α) (us:List Ψ),K.In s.heap->(us++ds).length=ps.length->BindsTo s fd ⟨us,[]⟩ (ps.zip (us++ds))
theorem Binds.all {K:Frag}{fd:Ο}{ps:List Str}(h:∀ us:List Ψ,us.length=ps.length->bindArgs fd ⟨us,[]⟩=pure (ps.zip us)):Binds K fd ps []:=fun s us _ hl=>by rw[aaj] at hl ⊢;exact .of_eq (h us hl)
def Passes (CX:G1)(X:Cx)(E:XK):Prop:=∀ (pins:List (Ω×Obj)) (σ:St) (H:Hp) (s:Α) (e:Ψ) (s':Α),Inv X pins σ H s->CX X.stack H s E e s'->X.xe e s'
structure Ie (N P:List Str)(sc:Scope):Prop where
 kind:sc.kind=.function
 co:sc.isCoroutine=Ξ
 gen:sc.isGenerator=Ξ
 nd:N.Nodup
 pre:N.take P.length=P
 par:∀ x∈P,sc.names.lookup x=Δ .local∨sc.names.lookup x=Δ .cell
 L7:∀ y∈sc.names,y.2≠.free
theorem jC {kindOf:Str->Option NameKind}{x:Str}:∀ {binds:List (Str×Ψ)}{m:Str->Option Ψ},(∀ v,(x,v)∉binds)->bindL kindOf binds m x=m x
 | [],_,_=>rfl
 | (n,v)::r,m,h=>by
  unfold bindL;rw[jC fun w hw=>h w (G_ _ hw)];split
  ·have:x≠n:=by rintro rfl;exact h v aaD
   simp[this]
  ·rfl
theorem jD {kindOf:Str->Option NameKind}{x:Str}:∀ {binds:List (Str×Ψ)}{m:Str->Option Ψ},(∀ v,(x,v)∉binds)->bindC kindOf binds m x=m x
 | [],_,_=>rfl
 | (n,v)::r,m,h=>by
  unfold bindC;rw[jD fun w hw=>h w (G_ _ hw)];split
  ·rfl
  ·have:x≠n:=by rintro rfl;exact h v aaD
   simp[this]
theorem jE {kindOf:Str->Option NameKind}{x:Str}{v:Ψ}:∀ {P:List Str}{vs:List Ψ}{i:Nat}{m:Str->Option Ψ},P.Nodup->P[i]? = Δ x->vs[i]? = Δ v->kindOf x=Δ .local->
  bindL kindOf (P.zip vs) m x=Δ v
 | [],_,_,_,_,h,_,_=>by simp at h
 | _::_,[],_,_,_,_,h,_=>by simp at h
 | p::P,w::vs,0,m,nd,h1,h2,hk=>by simp at h1 h2;subst h1;subst h2;show bindL kindOf ((p,w)::P.zip vs) m p=_;unfold bindL;rw[jC fun v hv=>(H_.mp nd).1 (List.of_mem_zip hv).1,f_ hk];simp
 | p::P,w::vs,i+1,m,nd,h1,h2,hk=>by show bindL kindOf ((p,w)::P.zip vs) m x=_;unfold bindL;exact jE (i:=i) (H_.mp nd).2 (by simpa using h1) (by simpa using h2) hk
theorem jF {kindOf:Str->Option NameKind}{x:Str}{v:Ψ}:∀ {P:List Str}{vs:List Ψ}{i:Nat}{m:Str->Option Ψ},P.Nodup->P[i]? = Δ x->vs[i]? = Δ v->kindOf x≠Δ .local->
  bindC kindOf (P.zip vs) m x=Δ v
 | [],_,_,_,_,h,_,_=>by simp at h
 | _::_,[],_,_,_,_,h,_=>by simp at h
 | p::P,w::vs,0,m,nd,h1,h2,hk=>by simp at h1 h2;subst h1;subst h2;show bindC kindOf ((p,w)::P.zip vs) m p=_;unfold bindC;rw[jD fun v hv=>(H_.mp nd).1 (List.of_mem_zip hv).1,d_ hk];simp
 | p::P,w::vs,i+1,m,nd,h1,h2,hk=>by show bindC kindOf ((p,w)::P.zip vs) m x=_;unfold bindC;exact jF (i:=i) (H_.mp nd).2 (by simpa using h1) (by simpa using h2) hk
noncomputable def start (N:List Str)(vs:List V):St:=vs.map Δ++Τ (N.length - vs.length) Φ
noncomputable def fB (CX:G1)(P:Ε)(w:Β)(K:Frag)(mg:Str->Option Ψ)(base:Heap)(N:List Str)(qual:Str)(scope:Scope)(f:Ω)(cd:Ψ)(A:Ι)(outer:List Env)(s:Α)(H:Hp)(E:XK):Cx where
 prog:=P
 w:=w
 K:=K
 mg:=mg
 base:=base
 A:=A.deeper (envOfC qual scope s.heap.objs.size f cd)
 N:=N
 F8:=s
 Ib:=H
 env:=envOfC qual scope s.heap.objs.size f cd
 outer:=outer
 stack:=envOfC qual scope s.heap.objs.size f cd::outer
 ex:=[]
 calm:=A.handled.isNone
 fn:=fun _=>Θ
 pn:=[]
 xe:=fun e s'=>Κ (Μ P w) (A.deeper (envOfC qual scope s.heap.objs.size f cd)) (leaving (envOfC qual scope s.heap.objs.size f cd) e) (fun _ Ka=>CX outer H s E e Ka) (fun e' Ka=>CX outer H s E e' Ka) s'
theorem la {sc:Scope}{n:Nat}{x:Str}(h:sc.names.lookup x=Δ .cell):∃ c,(cellsFrom n sc.names []).lookup x=Δ c:=by have q:=PySem.W.cellsFrom_some sc.names n [] (.inl h);exact Option.isSome_iff_exists.mp q
theorem p4 {CX:G1}{P:Ε}{w:Β}{K:Frag}{mg:Str->Option Ψ}{base:Heap}{N ps:List Str}{qual:Str}{scope:Scope}{f:Ω}{cd:Ψ}{A:Ι}{outer:List Env}{s s1:Α}{H:Hp}{E:XK}{us:List Ψ}{vs:List V}
  (S:Ie N ps scope) (e0:JJ P w K mg base A outer s H) (hl:vs.length=ps.length) (r:Vals vs us)
  (x:InCallC s s.heap.objs.size (bindL (envOfC qual scope s.heap.objs.size f cd).kindOf (ps.zip us) fun _=>Φ) (cellsFrom (s.heap.objs.size+1) scope.names []) (bindC (envOfC qual scope s.heap.objs.size f cd).kindOf (ps.zip us) fun _=>Φ) s1) :
  Inv (fB CX P w K mg base N qual scope f cd A outer s H E) [] (start N vs) H s1:=by
 have KU:ps.length<=N.length:=by have:=congrArg List.length S.pre;rw[aan] at this;omega
 obtain⟨h1,tk,rfl,hk⟩:=x.done;have NI:∀ b:Ω,b∉(fB CX P w K mg base N qual scope f cd A outer s H E).ex:=fun b z=>absurd (show b∈([]:List Ω) from z) (by simp)
 refine⟨⟨e0.mod,S.kind,rfl,rfl,n_ _,fun y z c h1 h2=>?_,fun y hy=>?_,fun y c _ h=>?_,fun h=>Option.isNone_iff_eq_none.mp h,Around.frames_deeper e0.frames,.inr ⟨rfl,rfl⟩,fun b z=>absurd z (NI b),e0.bs,e0.KP,fun b _ _=>NI b,fun b z=>absurd z (NI b),e0.G5,e0.J7⟩,
  rfl,e0.bare,Un.kept hk,⟨_,x.toInCall.ns,fun i y v h1 h2 h3=>?_⟩,fun y c h=>⟨_,x.cell y c h⟩,e0.FN.fresh (n_ _),fun y c h=>?_,fun p hp=>absurd (show p∈([]:List (Ω×Obj)) from hp) (by simp),e0.FN.kept hk,?_⟩
 ·exact name_of_addr x.apart (PySem.mem_of_lookup h1) (PySem.mem_of_lookup h2)
 ·have hy:scope.names.lookup y=Δ .cell∨scope.names.lookup y=Δ .free:=hy;rcases hy with hy|hy
  ·exact la hy
  ·exact absurd rfl (S.L7 _ (PySem.mem_of_lookup hy))
 ·exact Nat.le_of_lt (x.above y c (PySem.mem_of_lookup h))
 ·have hi:i < vs.length:=by
   unfold start at h2;by_cases hi:i < vs.length
   ·exact hi
   ·rw[aaE (by simpa using hi)] at h2;rw[List.getElem?_replicate] at h2;split at h2<;>cases h2
  have ha:vs[i]? = Δ v:=by
   unfold start at h2;rw[aao (by simpa using hi),B_] at h2;cases e:vs[i]? with
   | none=>rw[e] at h2;cases h2
   | some a=>rw[e] at h2;cases h2;rfl
  obtain⟨u,hu,rv⟩:=r.get ha;have hp:ps[i]? = Δ y:=by rw[<- S.pre,List.getElem?_take_of_lt (by omega)];exact h1
  have Uy:ps.Nodup:=by rw[<- S.pre];exact S.nd.sublist (List.take_sublist _ _)
  refine⟨u,rv,?_⟩;rcases S.par y (aag hp) with k|k
  ·exact .inl ⟨k,jE Uy hp hu k⟩
  ·obtain⟨c,e⟩:=la (n:=s.heap.objs.size+1) k;refine .inr ⟨.inl k,c,e,?_⟩;have q:=x.cell y c e;rw[jF Uy hp hu (by show scope.names.lookup y≠_;rw[k];decide)] at q;exact q
 ·exact e0.FN.fresh (Nat.le_of_lt (x.above y c (PySem.mem_of_lookup h)))
 ·unfold start;show _=N.length;rw[w_,j_,List.length_replicate];omega
theorem xF {CX:G1}{P:Ε}{w:Β}{K:Frag}{mg:Str->Option Ψ}{base:Heap}{k:Nat}{f:Ω}{name qual:Str}{params:Arguments}{body:List Stmt}{scope:Scope}{dV kV doc pm HA ct oc:Ψ}{an od:Option Ω}
  {KW:Array (Option Ψ)}{N ps:List Str}{sp:Sp} (lk:K.lookup f=Δ ⟨oc,od,.func (PySem.W.fnOf name qual params body scope dV kV doc pm an HA ct),KW⟩) (J8:PySem.W.codeIn K HA qual=Θ) (S:Ie N ps scope)
  (WL:k % 1000≠999) (len:∀ vs H Q E,sp vs H Q E->vs.length=ps.length)
  (NJ:∀ (A:Ι) (outer:List Env) (s:Α) (H:Hp) (vs:List V) (Q:VK) (E:XK),GK k (A.deeper (envOfC qual scope s.heap.objs.size f HA))->sp vs H Q E->
   ∃ t,IA (fB CX P w K mg base N qual scope f HA A outer s H E) body t/\t {nx:=fun _ H'=>Q .Fy H',rt:=Q} (start N vs) H) :
  He P w K mg base CX (k+1) f (PySem.W.fnOf name qual params body scope dV kV doc pm an HA ct) ps sp:=by
 refine⟨len,fun A outer s H args us vs Q E hr e0 hb r IQ=>?_⟩;have hl:=len _ _ _ _ IQ;have KX:K.In s.heap:=e0.mod.Pr.keeps fun b o e=>(e0.bs b o e).1;have lim:s.heap.NoLimit:=e0.mod.nolimit.keeps fun b o e=>(e0.bs b o e).1;have NK:∀ y∈ps.zip us,scope.names.lookup y.1=Δ .local∨(scope.names.lookup y.1=Δ .cell/\((cellsFrom (s.heap.objs.size+1) scope.names []).lookup y.1).isSome=Θ):=fun ⟨n,v⟩ hy=>by
  rcases S.par n (List.of_mem_zip hy).1 with q|q
  ·exact .inl q
  ·exact .inr ⟨q,PySem.W.cellsFrom_some _ _ _ (.inl q)⟩
 refine codeAny_call_function hr.depth (KX _ _ lk) rfl S.co S.gen rfl (PySem.W.codeRec_of KX J8) (hb _ _ _ _ ?_);refine wpAny_newFunctionEnv_cells S.kind NK fun env he s1 x=>?_;subst he;refine⟨lim.keeps x.toInCall.keep,codeAny_func ?_⟩;obtain⟨t,ht,hq⟩:=NJ A outer s H vs Q E (hr.deeper _ WL) IQ;have I:Inv (fB CX P w K mg base N qual scope f HA A outer s H E) [] (start N vs) H s1:=p4 S e0 hl r x;refine wpAny_mono (ht [] s1 (start N vs) H _ I hq) (fun fl s' hs=>?_) fun e s' hs=>hs;have fin:∀ {FI:St}{H':Hp}{v:V}{u:Ψ},Inv (fB CX P w K mg base N qual scope f HA A outer s H E) [] FI H' s'->RelV v u->Q v H'->CE outer P w H s Q u s':=
  fun {FI H' v u} J rv q=>⟨v,H',J.os,J.bare,J.base,J.FN,rv,q⟩
 cases fl with
 | ret u=>obtain⟨v,FI,H',J,rv,q⟩:=hs;exact fin J rv q
 | next=>obtain⟨FI,H',J,q⟩:=hs;exact fin (v:=V.Fy) (u:=Value.none) J rfl q
 | brk=>obtain⟨_,_,_,q⟩:=hs;exact False.elim q
 | cont=>obtain⟨_,_,_,q⟩:=hs;exact False.elim q
section
variable {X:Cx}{x:Str}{p pos:Pos}{e:Expr}{es:List Expr}{t:TA}{id T:String}{r:List V->Hp->VK->Prop}
def QU (r:List V->Hp->VK->Prop)(t:TA):TE:=fun σ H Q=>t σ H fun vs H1=>r vs H1 Q
theorem iB (hc:dJ X (.builtin id) r)(hg:Gl X x)(hm:X.mg x=Φ)(hv:bootBuiltins x=Δ (.builtin id))(ha:PA X (e::es) t)(hn:x≠"__name__":=by decide) (QV:(x == ("__debug__" : Str))=Ξ:=by decide)
  (he:Ν (e::es) X.env=(Ξ,eval e X.env)::Ν es X.env:=by rfl) (KU:(backTo pos (Ν es X.env)).any (·.1)=Ξ:=by rfl):PE X (.Call (.Name x p) (e::es) [] pos) (QU r t):=by
 intro pins s σ H Q I h;refine aaF (eV I hg hm hv ?_ hn QV);exact PyProof.Rows.callWith_builtin1 (FP (ha pos pins s σ H _ I h) fun us s1 ⟨vs,H1,I1,r1,q1⟩=>hc pins s1 σ H1 vs us Q I1 r1 q1) he KU
theorem gP (hc:dJ X (.type T) r)(hg:Gl X x)(hm:X.mg x=Φ)(hv:bootBuiltins x=Δ (.type T))(ha:PA X (e::es) t)(hn:x≠"__name__":=by decide) (QV:(x == ("__debug__" : Str))=Ξ:=by decide)
  (he:Ν (e::es) X.env=(Ξ,eval e X.env)::Ν es X.env:=by rfl) (KU:(backTo pos (Ν es X.env)).any (·.1)=Ξ:=by rfl):PE X (.Call (.Name x p) (e::es) [] pos) (QU r t):=by
 intro pins s σ H Q I h;refine aaF (eV I hg hm hv ?_ hn QV);exact aay (FP (ha pos pins s σ H _ I h) fun us s1 ⟨vs,H1,I1,r1,q1⟩=>hc pins s1 σ H1 vs us Q I1 r1 q1) he KU
end
end L2
namespace HT
open PySem PyProof.Rows
section
variable {prog:Ε}{w:Β}{A:Ι}{E:Ψ->Α->Prop}{s:Α}
noncomputable def Ig (n d:Nat):Option Int->Nat
 | none=>d
 | some v=>if v < 0 then (v+(n:Int)).toNat else min v.toNat n
end
end HT
namespace L2
open PySem PySem.Spec PyProof.Rows
abbrev TO:=St->Hp->(Option Int->Hp->Prop)->Prop
def PO (X:Cx)(e:Option Expr)(t:TO):Prop:=
 ∀ (pins:List (Ω×Obj)) (s:Α) (σ:St) (H:Hp) (Q:Option Int->Hp->Prop),Inv X pins σ H s->t σ H Q->
  Κ (Μ X.prog X.w) X.A (evalPart e X.env) (fun u s'=>∃ o H',Inv X pins σ H' s'/\IsPart u o/\Q o H') X.xe s
def vF:TO:=fun _ H Q=>Q Φ H
def BW (t:TE):TO:=fun σ H Q=>t σ H fun x H1=>∃ i,x=.int i/\Q (Δ i) H1
theorem intsAre_of {ns:List Int}:∀ {us:List Ψ},Vals (ns.map V.int) us->IntsAre us ns:=by
 induction ns with
 | nil=>intro us r;rw[List.map_nil] at r;cases r;exact .nil
 | cons n ns ih=>
  intro us r;rw[b_] at r;cases r with
  | cons r1 r2=>obtain⟨t,e⟩:=r1;subst e;exact .cons n t (ih r2)
section
variable {X:Cx}{e:Expr}{te:TE}{lo hi:Option Expr}{tl th:TO}{pos p2:Pos}
theorem vG:PO X Φ vF:=by intro pins s σ H Q I h;rw[evalPart_none];exact e_ ⟨Φ,H,I,.none,h⟩
theorem vH (h:PE X e te):PO X (Δ e) (BW te):=by intro pins s σ H Q I hw;rw[evalPart_some];refine FP (h pins s σ H _ I hw) fun u s1 ⟨x,H1,I1,r1,q1⟩=>?_;obtain⟨i,rfl,q⟩:=q1;obtain⟨t,rfl⟩:=r1;exact⟨Δ i,H1,I1,.int i t,q⟩
def PC (X:Cx)(r:V->Option Int->Option Int->Hp->VK->Prop):Prop:=
 ∀ (pins:List (Ω×Obj)) (s:Α) (σ:St) (H:Hp) (x:V) (v vl vu:Ψ) (lo hi:Option Int) (sl:Ω) (Q:VK),Inv X pins σ H s->RelV x v->s.heap.IsSliceOf sl vl vu .none->IsPart vl lo->IsPart vu hi->r x lo hi H Q->
  ∃ T id,typeLookup (.type T) "__getitem__" = pure (Δ (.builtin id))/\s.TypeIs v T/\Κ (Μ X.prog X.w) X.A (getItem v (.ref sl)) (EP X pins σ Q) X.xe s
def WM (r:V->Option Int->Option Int->Hp->VK->Prop)(te:TE)(tl th:TO):TE:=fun σ H Q=>te σ H fun x H1=>tl σ H1 fun l H2=>th σ H2 fun u H3=>r x l u H3 Q
theorem lb {r:V->Option Int->Option Int->Hp->VK->Prop}(hr:PC X r)(he:PE X e te)(hl:PO X lo tl)(hu:PO X hi th):PE X (.Subscript e (.Slice lo hi Φ p2) pos) (WM r te tl th):=by intro pins s σ H Q I h;refine Subscript_ (FP (he pins s σ H _ I h) fun v s1 ⟨x,H1,I1,r1,q1⟩=>?_);refine wpAny_Slice (FP (hl pins s1 σ H1 _ I1 q1) fun vl s2 ⟨l,H2,I2,pl,q2⟩=>FP (hu pins s2 σ H2 _ I2 q2) fun vu s3 ⟨u,H3,I3,pu,q3⟩=>?_);rw[evalPart_none];refine e_ ?_;have I4:Inv X pins σ H3 {s3 with heap:=s3.heap.push {cls:=.type "slice",data:=.fields #[vl,vu,.none]}}:=I3.kept (t':=s3.toks) fun b ob q=>l_ _ q;obtain⟨T,id,hT,ht,hg⟩:=hr pins {s3 with heap:=s3.heap.push {cls:=.type "slice",data:=.fields #[vl,vu,.none]}} σ H3 x v vl vu l u s3.heap.objs.size Q I4 r1 (Heap.IsSliceOf.new ..) pl pu q3;show Κ (Μ X.prog X.w) X.A (subscriptTail e (.Slice lo hi Φ p2) v (.ref s3.heap.objs.size)) (EP X pins σ Q) X.xe {s3 with heap:=s3.heap.push {cls:=.type "slice",data:=.fields #[vl,vu,.none]}};exact tail_any (ops:=[.ref s3.heap.objs.size,v]) ht hT hg (by with_unfolding_all rfl)
noncomputable def p5 (xs:List V)(lo hi:Option Int):List V:=(xs.drop (HT.Ig xs.length 0 lo)).take (HT.Ig xs.length xs.length hi - HT.Ig xs.length 0 lo)
theorem lj (xs:List V)(lo hi:Option Int):(p5 xs lo hi).length<=xs.length:=by unfold p5;rw[aan,aap];omega
end
noncomputable def Hb (n:Nat)(i:Int):Option Nat:=if 0<=i then (if i < n then Δ i.toNat else Φ) else if -(n:Int)<=i then Δ (i+n).toNat else Φ
noncomputable def GU {α:Type}(xs:List α)(i:Int):Option α:=(Hb xs.length i).bind fun j=>xs[j]?
theorem oo {n:Nat}{i:Int}{j:Nat}(h:Hb n i=Δ j):seqIndex? i n=Δ j/\j < n/\-(n:Int)<=i/\i < n:=by
 unfold Hb at h;by_cases h0:0<=i
 ·rw[f_ h0] at h;by_cases h1:i < n
  ·rw[f_ h1] at h;have e:i.toNat=j:=F_ h;exact⟨by rw[seqIndex_of h0 h1,e],by omega,by omega,h1⟩
  ·rw[d_ h1] at h;cases h
 ·rw[d_ h0] at h;by_cases h1 : -(n:Int)<=i
  ·rw[f_ h1] at h;have e:(i+n).toNat=j:=F_ h;exact⟨by rw[seqIndex_neg (by omega) h1,e],by omega,h1,by omega⟩
  ·rw[d_ h1] at h;cases h
theorem km {α:Type}{xs:List α}{i:Int}{v:α}(h:GU xs i=Δ v):∃ j,seqIndex? i xs.length=Δ j/\xs[j]? = Δ v/\j < xs.length/\-(xs.length:Int)<=i/\i < xs.length:=by
 unfold GU at h;cases e:Hb xs.length i with
 | none=>rw[e] at h;cases h
 | some j=>rw[e] at h;obtain⟨h1,h2,h3,h4⟩:=oo e;exact⟨j,h1,h,h2,h3,h4⟩
def vI (b:Expr):Prop:=∀ o i,subscripted b Ξ o i=operate [o,i] (getItem o i)
def KA (X:Cx)(r:R2):Prop:=
 ∀ (value slice:Expr) (pins:List (Ω×Obj)) (s:Α) (σ:St) (H:Hp) (x y:V) (v u:Ψ) (Q:VK),Inv X pins σ H s->RelV x v->RelV y u->r x y H Q->
  subscripted slice Ξ v u=operate [v,u] (getItem v u)->Κ (Μ X.prog X.w) X.A (subscriptTail value slice v u) (EP X pins σ Q) X.xe s
def Uz (X:Cx)(id:String)(r:V->List V->Hp->VK->Prop):Prop:=
 ∀ (pins:List (Ω×Obj)) (s:Α) (σ:St) (H:Hp) (x:V) (xs:List V) (v:Ψ) (us:List Ψ) (Q:VK),Inv X pins σ H s->RelV x v->Vals xs us->r x xs H Q->
  Κ (Μ X.prog X.w) X.A (call (.builtin id) (v::us)) (EP X pins σ Q) X.xe s
section
variable {X:Cx}{a b:Expr}{ta tb:TE}{pos:Pos}
theorem KA.or {r r':R2}(h:KA X r)(h':KA X r'):KA X (fun x y H Q=>r x y H Q∨r' x y H Q):=by
 intro value slice pins s σ H x y v u Q I rx ry q hs;rcases q with q|q
 ·exact h value slice pins s σ H x y v u Q I rx ry q hs
 ·exact h' value slice pins s σ H x y v u Q I rx ry q hs
theorem xG {r:R2}(hr:KA X r)(ha:PE X a ta)(hb:PE X b tb)(hs:vI b):PE X (.Subscript a b pos) (Pz r ta tb):=by intro pins s σ H Q I h;exact Subscript_ (zF ha hb I h fun v u s2 x y H2 I2 rx ry q=>hr a b pins s2 σ H2 x y v u Q I2 rx ry q (hs _ _))
def BX (K:Frag):R2:=fun x y H Q=>∃ p xs i v,x=.ref p/\y=.int i/\Gu K H p xs/\GU xs i=Δ v/\Q v H
def BY (K:Frag):R2:=fun x y H Q=>∃ p xs i v,x=.ref p/\y=.int i/\G0 K H p xs/\GU xs i=Δ v/\Q v H
def BZ:R2:=fun x y H Q=>∃ z i c,x=.str z/\y=.int i/\z.length<=Ζ/\GU z.cps.toList i=Δ c/\Q (.str ⟨#[c]⟩) H
theorem oq:KA X (BX X.K):=by
 intro value slice pins s σ H x y v u Q I rx ry h hs;obtain⟨p,xs,i,z,rfl,rfl,hq,he,q⟩:=h;cases rx;obtain⟨t,rfl⟩:=ry;obtain⟨its,r,pl,hz⟩:=I.list hq;obtain⟨j,h1,h2,h3,h4,h5⟩:=km he;obtain⟨w,ew,QW⟩:=r.get h2;have hl:=r.length;have hn:=gO;have fin:EP X pins σ Q w s:=⟨z,H,I,QW,q⟩
 by_cases h0:0<=i
 ·have hj:i.toNat=j:=by rw[seqIndex_of h0 h5] at h1;exact F_ h1
  exact item_listR pl.isList h0 (by omega) (by rw[hj];simpa using ew) fin hs
 ·have hj:(i+(its.toArray.size:Int)).toNat=j:=by rw[seqIndex_neg (by omega) h4] at h1;rw[A_,<- hl];exact F_ h1
  exact subscriptTail_builtinR (x:=w) pl.isList.typeIs slot_list_getitem.lookup
   (wpAny_getItem_list_neg (Q:=fun r s'=>r=w/\EP X pins σ Q r s') pl.isList (by omega) (by rw[A_]<;>omega) (by omega) (by rw[hj];simpa using ew) ⟨rfl,fin⟩) hs
theorem zP:KA X (BY X.K):=by
 intro value slice pins s σ H x y v u Q I rx ry h hs;obtain⟨p,xs,i,z,rfl,rfl,hq,he,q⟩:=h;cases rx;obtain⟨t,rfl⟩:=ry;obtain⟨its,r,pl,hz⟩:=I.tuple hq;obtain⟨j,h1,h2,h3,h4,h5⟩:=km he;obtain⟨w,ew,QW⟩:=r.get h2;have hl:=r.length;have hn:=gO;have fin:EP X pins σ Q w s:=⟨z,H,I,QW,q⟩
 exact subscriptTail_builtinR (x:=w) pl.typeIs slot_tuple_getitem.lookup
  (getItem_tuple (j:=j) (Q:=fun r s'=>r=w/\EP X pins σ Q r s') pl (by omega) (by omega) (by rw[A_,<- hl];exact h1) (by simpa using ew) ⟨rfl,fin⟩) hs
theorem zQ:KA X BZ:=by
 intro value slice pins s σ H x y v u Q I rx ry h hs;obtain⟨z,i,c,rfl,rfl,hz,he,q⟩:=h;obtain⟨t,rfl⟩:=rx;obtain⟨t',rfl⟩:=ry;obtain⟨j,h1,h2,h3,h4,h5⟩:=km he;have hl:z.cps.toList.length=z.length:=by simp[Str.length]
 rw[hl] at h1 h4 h5;have hn:=gO
 exact tail_any (typeIs_str s z t) slot_str_getitem.lookup (getItem_str (c:=c) (by
  have e1:decide (i < -(2 ^ 63:Int))=Ξ:=Q_ (by omega);have e2:decide (i >= 2 ^ 63)=Ξ:=Q_ (by omega)
  rw[e1,e2,Bool.or_false]) (by rw[h1];simpa using h2) ⟨.str ⟨#[c]⟩,H,I.tok _,⟨_,rfl⟩,q⟩) hs
def WN (K:Frag):R2:=fun x y H Q=>BX K x y H Q∨BY K x y H Q∨BZ x y H Q
theorem zR:KA X (WN X.K):=oq.or (zP.or zQ)
theorem m9 (its:List Ψ)(n j:Nat)(u:Ψ):ι (·.setIfInBounds j u) {cls:=.type "list",data:=.seq its.toArray n} = {cls:=.type "list",data:=.seq (its.set j u).toArray n}:=by simp[ι]
theorem Inv.lst {pins:List (Ω×Obj)}{σ:St}{H:Hp}{s:Α}{p:Ω}{xs:List V}(I:Inv X pins σ H s)(h:H p=Δ (.lst xs)) :
  ∃ (its:List Ψ) (n:Nat),Vals xs its/\s.heap.get? p=Δ {cls:=.type "list",data:=.seq its.toArray n}/\xs.length<=Ζ:=by
 obtain⟨z,its,n,r,e⟩:=I.FN p _ h;exact⟨its,n,r,e,z⟩
theorem Inv.L8 {pins:List (Ω×Obj)}{σ:St}{H:Hp}{s:Α}{p:Ω}{xs ys:List V}{its its':List Ψ}{n n':Nat}{f:Obj->Obj}(I:Inv X pins σ H s)(h:H p=Δ (.lst xs))
  (ho:s.heap.get? p=Δ {cls:=.type "list",data:=.seq its.toArray n}) (hf:f {cls:=.type "list",data:=.seq its.toArray n} = {cls:=.type "list",data:=.seq its'.toArray n'}) (r:Vals ys its') (hz:ys.length<=Ζ) (t:Nat) :
  Inv X pins σ (upd H p (.lst ys)) {s with heap:=s.heap.update p f,toks:=t}:=by
 have e:(s.heap.update p f).get? p=Δ {cls:=.type "list",data:=.seq its'.toArray n'}:=by rw[aaq f ho (by rw[hf]<;>rfl),hf]
 refine I.write (x:=p) (e:=p) (by rw[h];trivial) (.inl rfl) (fun b u hb q=>(aah _ _ (Ne.symm hb)).trans q) ⟨_,e⟩ ?_;exact⟨hz,its',n',r,e⟩
def B3:V->V->V->Hp->(Hp->Prop)->Prop:=fun o i v H Q=>∃ p xs k j,o=.ref p/\i=.int k/\H p=Δ (.lst xs)/\Hb xs.length k=Δ j/\Q (upd H p (.lst (xs.set j v)))
theorem set_list:BN X B3:=by
 intro pins s σ H o i v ov iv u Q I ro ri rv h;obtain⟨p,xs,k,j,rfl,rfl,hp,hj,q⟩:=h;cases ro;obtain⟨t,rfl⟩:=ri;obtain⟨its,n,r,ho,hz⟩:=I.lst hp;obtain⟨h1,h2,h3,h4⟩:=oo hj;have hl:=r.length;have hn:=gO;have I':Inv X pins σ (upd H p (.lst (xs.set j v))) {s with heap:=s.heap.update p (ι (·.setIfInBounds j u))}:=
  I.L8 hp ho (m9 its n j u) (r.set rv j) (by rw[List.length_set];exact hz) s.toks
 by_cases h0:0<=k
 ·have hk:k.toNat=j:=by rw[seqIndex_of h0 h4] at h1;exact F_ h1
  exact PySem.W.ki_setAt ho h0 (by omega) (by rw[A_,<- hl];exact h4) (by rw[hk];exact⟨_,I',q⟩)
 ·have hk:(k+(its.toArray.size:Int)).toNat=j:=by rw[seqIndex_neg (by omega) h3] at h1;rw[A_,<- hl];exact F_ h1
  exact PySem.W.ki_setBack ho (by omega) (by rw[A_,<- hl];exact h3) (by omega) (by rw[hk];exact⟨_,I',q⟩)
theorem kn (lo hi:Option Int)(n:Nat):(sliceBounds lo hi Φ n).1=((HT.Ig n 0 lo:Nat):Int)/\(sliceBounds lo hi Φ n).2.1=((HT.Ig n n hi:Nat):Int)/\(sliceBounds lo hi Φ n).2.2=1:=by
 refine⟨?_,?_,rfl⟩
 ·cases lo with
  | none=>simp[sliceBounds,HT.Ig]
  | some i=>
   simp only[sliceBounds,HT.Ig,Option.getD_none,show (1:Int) > 0 by decide,if_true];by_cases h:i < 0
   ·simp only[h,if_true]<;>omega
   ·simp only[h,if_false]<;>omega
 ·cases hi with
  | none=>simp[sliceBounds,HT.Ig]
  | some i=>
   simp only[sliceBounds,HT.Ig,Option.getD_none,show (1:Int) > 0 by decide,if_true];by_cases h:i < 0
   ·simp only[h,if_true]<;>omega
   ·simp only[h,if_false]<;>omega
theorem jr (its:List Ψ)(lo hi:Option Int):slicePick its.toArray lo hi Φ=((its.drop (HT.Ig its.length 0 lo)).take (HT.Ig its.length its.length hi - HT.Ig its.length 0 lo)).toArray:=by obtain⟨h1,h2,h3⟩:=kn lo hi its.toArray.size;unfold slicePick;rw[h1,h2,h3];simp only[sliceRange_one,pick_run,A_]<;>rfl
def EE (K:Frag):V->Option Int->Option Int->Hp->VK->Prop:=fun x lo hi H Q=>∃ a xs,x=.ref a/\Gu K H a xs/\∀ p,H p=Φ->Q (.ref p) (upd H p (.lst (p5 xs lo hi)))
theorem ou:PC X (EE X.K):=by intro pins s σ H x v vl vu lo hi sl Q I rx hs pl pu h;obtain⟨a,xs,rfl,hx,q⟩:=h;cases rx;obtain⟨its,r,ht,hz⟩:=I.list hx;have hlen:=r.length;refine⟨"list",_,slot_list_getitem.lookup,ht.isList.typeIs,?_⟩;refine wpAny_getItem_list_slice ht.isList hs pl pu .none (by simp) ?_ (by rw[A_]<;>omega);rw[jr,<- hlen];refine⟨.ref s.heap.objs.size,_,I.laid (t':=s.toks) (o:=.lst (p5 xs lo hi)) (fun b ob q=>l_ _ q) (n_ _) ?_,rfl,q _ (I.FN.fresh (n_ _))⟩;exact⟨M_ (lj xs lo hi) hz,_,0,(r.drop (HT.Ig xs.length 0 lo)).take (HT.Ig xs.length xs.length hi - HT.Ig xs.length 0 lo),u_ _ rfl⟩
theorem fC:dJ X (.type "list") (fun xs H Q=>∃ p ys,xs=[.ref p]/\(Gu X.K H p ys∨G0 X.K H p ys)/\∀ l,H l=Φ->Q (.ref l) (upd H l (.lst ys))):=by
 intro pins s σ H xs us Q I r h;obtain⟨p,ys,rfl,hq,q⟩:=h;obtain⟨u,rfl,rx⟩:=vals1 r;cases rx;have fin:∀ (its:List Ψ),Vals ys its->ys.length<=Ζ->∀ (h':Heap) (c':Nat),(∀ b o',s.heap.get? b=Δ o'->h'.get? b=Δ o')->
   h'.get? s.heap.objs.size=Δ {cls:=.type "list",dict:=Φ,data:=.seq its.toArray c',slots:=#[]}->EP X pins σ Q (.ref s.heap.objs.size) {s with heap:=h'}:=fun its r' hz h' c' kp e=>
  ⟨.ref s.heap.objs.size,_,I.laid (t':=s.toks) kp (n_ _) (show cX X.prog X.w _ h' _ (.lst ys) from ⟨hz,its,c',r',e⟩),rfl,q _ (I.FN.fresh (n_ _))⟩
 rcases hq with hq|hq
 ·obtain⟨its,r',pl,hz⟩:=I.list hq;have hlen:=r'.length;obtain⟨o,ho,hc,n,hd⟩:=pl.isList;exact call_list_seq p (.inl rfl) ho hc hd (fun h' c' kp e=>fin its r' hz h' c' kp e) (by simp only[A_]<;>omega)
 ·obtain⟨its,r',pl,hz⟩:=I.tuple hq;have hlen:=r'.length;obtain⟨o,ho,hc,n,hd⟩:=pl;exact call_list_seq p (.inr rfl) ho hc hd (fun h' c' kp e=>fin its r' hz h' c' kp e) (by simp only[A_]<;>omega)
theorem jt:dJ X (.type "tuple") (fun xs H Q=>∃ p ys,xs=[.ref p]/\((Gu X.K H p ys/\∀ l,H l=Φ->Q (.ref l) (upd H l (.tup ys)))∨(G0 X.K H p ys/\Q (.ref p) H))):=by
 intro pins s σ H xs us Q I r h;obtain⟨p,ys,rfl,h⟩:=h;obtain⟨u,rfl,rx⟩:=vals1 r;cases rx;rcases h with ⟨hq,q⟩|⟨hq,q⟩
 ·obtain⟨its,r',pl,hz⟩:=I.list hq;have hlen:=r'.length;refine call_tuple_list pl.isList (fun h' kp=>?_) (by simp only[A_]<;>omega);have I1:Inv X pins σ H {s with heap:=h'}:=I.kept (t':=s.toks) kp;have I2:Inv X pins σ (upd H h'.objs.size (.tup ys)) {s with heap:=h'.push {cls:=.type "tuple",data:=.seq its.toArray}}:=
   I1.laid (t':=s.toks) (fun b o e=>l_ _ e) (n_ _) (show cX X.prog X.w _ _ _ (.tup ys) from ⟨hz,its,r',IsTup.new _ _⟩)
  exact⟨.ref h'.objs.size,_,I2,rfl,q _ (I1.FN.fresh (n_ _))⟩
 ·obtain⟨its,r',pl,hz⟩:=I.tuple hq;exact call_tuple_same pl ⟨.ref p,H,I,rfl,q⟩
def UA (K:Frag)(T:String)(x:V)(H:Hp):Prop:=match x with
 | .str _=>T = "str"
 | .int _=>T = "int"
 | .ref p=>(T = "list"/\∃ xs,Gu K H p xs)∨(T = "tuple"/\∃ o,K.lookup p=Δ o/\o.cls=.type "tuple"/\o.dict=Φ)∨
   (T = "dict"/\((∃ FL,H p=Δ (.dK FL))∨∃ FL,H p=Δ (.dT FL)))∨(T = "set"/\∃ S n,H p=Δ (.set S n))
 | _=>False
theorem zU {pins:List (Ω×Obj)}{σ:St}{H:Hp}{s:Α}{T:String}{x:V}{v:Ψ}(I:Inv X pins σ H s)(r:RelV x v)(ty:UA X.K T x H) :
  s.TypeIs v T/\∀ a,v=.ref a->∃ ob,s.heap.get? a=Δ ob/\ob.dict=Φ:=by
 cases x with
 | str z=>obtain⟨t,rfl⟩:=r;cases (show T = "str" from ty);exact⟨typeIs_str s z t,fun _ e=>nomatch e⟩
 | int i=>obtain⟨t,rfl⟩:=r;cases (show T = "int" from ty);exact⟨typeIs_int s i t,fun _ e=>nomatch e⟩
 | ref p=>
  cases r;rcases ty with ⟨rfl,xs,hq⟩|⟨rfl,o,hk,hc,hd⟩|⟨rfl,hk⟩|⟨rfl,S,n,hk⟩
  ·obtain⟨its,_,pl,_⟩:=I.list hq;refine⟨pl.isList.typeIs,fun a e=>?_⟩;cases e;obtain⟨o,n,e,c,hd,_⟩:=pl;exact⟨o,e,hd⟩
  ·refine⟨⟨o,I.IP p o hk,hc⟩,fun a e=>?_⟩;cases e;exact⟨o,I.IP _ o hk,hd⟩
  ·have z:∃ o,s.heap.get? p=Δ o/\o.ExactDict:=by
    rcases hk with ⟨FL,hk⟩|⟨FL,hk⟩
    ·obtain⟨_,_,_,_,o,_,_,e,ex,_⟩:=I.FN p _ hk;exact⟨o,e,ex⟩
    ·obtain⟨_,_,_,_,o,_,_,e,ex,_⟩:=I.FN p _ hk;exact⟨o,e,ex⟩
   obtain⟨o,e,ex⟩:=z;refine⟨⟨o,e,ex.1⟩,fun a e2=>?_⟩;cases e2;exact⟨o,e,ex.2.1⟩
  ·obtain⟨o,_,_,_,e,ex,_⟩:=I.FN p _ hk;refine⟨⟨o,e,ex.1⟩,fun a e2=>?_⟩;cases e2;exact⟨o,e,ex.2.1⟩
 | _=>exact False.elim ty
def UB (K:Frag)(T:String)(r:V->List V->Hp->VK->Prop)(to:TE)(t:TA):TE:=fun σ H Q=>to σ H fun x H1=>UA K T x H1/\t σ H1 fun xs H2=>r x xs H2 Q
variable {o e:Expr}{es:List Expr}{to:TE}{t:TA}{name:Str}{apos FJ:Pos}{T id:String}{r:V->List V->Hp->VK->Prop}
theorem jG (pa:PlainAttrs T)(slot:Slot T name id)(MZ:typeOf (.builtin id)=pure (.type "method_descriptor")) (hm:Uz X id r) (ho:PE X o to) (ha:PA X (e::es) t)
  (IC:attributeBase o name X.env (eval o X.env)=eval o X.env:=by rfl)
  (HC:((backTo FJ (Ν (e::es) X.env)).all (fun x=>!x.1)&&(backToKw FJ (keywordEach [] X.env)).all (fun x=>x.1.isSome)
  &&decide ((e::es).length+([]:List Keyword).length+(if ([]:List Keyword).isEmpty then 0 else 1) < 30))=Θ:=by rfl)
  (NL:(apos.endLine == FJ.line)=Θ:=by rfl) (hs:Ν (e::es) X.env=(Ξ,eval e X.env)::Ν es X.env:=by rfl) (L9:(backTo FJ (Ν es X.env)).any (·.1)=Ξ:=by rfl) :
  PE X (.Call (.Attribute o name apos) (e::es) [] FJ) (UB X.K T r to t):=by
 intro pins s σ H Q I h;refine wpAny_Call_method_late IC HC NL rfl (FP (ho pins s σ H _ I h) fun v s1 ⟨x,H1,I1,r1,ty,q1⟩=>?_);obtain⟨h1,h2⟩:=zU I1 r1 ty;refine⟨T,id,pa,slot,MZ,h1,h2,?_⟩;have hA:=ha FJ pins s1 σ H1 _ I1 q1;rw[hs] at hA ⊢;refine Calls.callWith_builtin (by show (Ξ||(backTo FJ (Ν es X.env)).any (·.1))=Ξ;rw[L9]<;>rfl) (Calls.evalArgs_plain ?_);exact FP hA fun us s2 ⟨vs,H2,I2,r2,q2⟩=>hm pins s2 σ H2 x vs v us Q I2 r1 r2 q2
end
def UC (X:Cx)(id:String)(r:V->List V->Hp->VK->Prop):Prop:=
 ∀ (pins:List (Ω×Obj)) (s:Α) (σ:St) (H:Hp) (x:V) (xs:List V) (v:Ψ) (us:List Ψ) (Q:VK),Inv X pins σ H s->RelV x v->Vals xs us->r x xs H Q->
  Κ (Μ X.prog X.w) X.A (call (.builtin id) (v::us)) (EP X pins σ Q) X.xe s
theorem Vals.one:∀ {x:V}{us:List Ψ},Vals [x] us->∃ u,us=[u]/\RelV x u
 | _,_,.cons r .nil=>⟨_,rfl,r⟩
theorem Vals.rep {xs:List V}{us:List Ψ}(h:Vals xs us):∀ k:Nat,Vals (Τ k xs).flatten (Τ k us).flatten
 | 0=>.nil
 | k+1=>by rw[List.replicate_succ,List.replicate_succ,List.flatten_cons,List.flatten_cons];exact Vals.append h (Vals.rep h k)
theorem foldl_rep (its:List Ψ):∀ (k:Nat) (acc:List Ψ),
  List.foldl (fun x1 x2=>x1++x2) acc.toArray (Τ k its.toArray)=(acc++(Τ k its).flatten).toArray
 | 0,acc=>by simp
 | k+1,acc=>by
  have e:acc.toArray++its.toArray=(acc++its).toArray:=by simp
  have e2:(acc++its)++(Τ k its).flatten=acc++(Τ (k+1) its).flatten:=by rw[List.replicate_succ,List.flatten_cons,C_]
  rw[<- e2,<- foldl_rep its k (acc++its),<- e,List.replicate_succ,Z_]
section
variable {X:Cx}{pins:List (Ω×Obj)}{σ:St}{H:Hp}{s:Α}{l b:Ω}{xs ys zs:List V}
theorem Inv.NN {its its':List Ψ}{n:Nat}{f:Array Ψ->Array Ψ}{t':Nat}(I:Inv X pins σ H s)(hH:H l=Δ (.lst xs))
  (e:s.heap.get? l=Δ {cls:=.type "list",data:=.seq its.toArray n}) (hf:f its.toArray=its'.toArray) (hv:Vals ys its') (hz:ys.length<=Ζ) :
  Inv X pins σ (upd H l (.lst ys)) {s with heap:=s.heap.update l (ι f),toks:=t'}:=by
 have q:=PySem.IsL.update e f;rw[hf] at q;refine I.write (x:=l) (e:=l) (by rw[hH];exact trivial) (.inl rfl) (fun b' u hb hu=>(aah s.heap (ι f) (Ne.symm hb)).trans hu) ⟨_,q⟩ ?_;exact⟨hz,its',_,hv,q⟩
theorem Inv.L' {its:List Ψ}{t':Nat}(I:Inv X pins σ H s)(hv:Vals ys its)(hz:ys.length<=Ζ) :
  Inv X pins σ (upd H s.heap.objs.size (.lst ys)) {s with heap:=s.heap.push {cls:=.type "list",data:=.seq its.toArray},toks:=t'}:=
 I.laid (fun _ _ q=>l_ _ q) (n_ _) ⟨hz,its,0,hv,u_ _ rfl⟩
theorem Inv.fresh (I:Inv X pins σ H s):H s.heap.objs.size=Φ:=I.FN.fresh (n_ _)
theorem Inv.NO (I:Inv X pins σ H s)(hH:H l=Δ (.lst xs)):xs.length<=Ζ/\∃ (its:List Ψ) (n:Nat),Vals xs its/\xs.length=its.length/\s.heap.get? l=Δ {cls:=.type "list",data:=.seq its.toArray n}:=by obtain⟨z,its,n,r,e⟩:=I.FN l _ hH;exact⟨z,its,n,r,r.length,e⟩
theorem qP {n:Nat}(h:n<=Ζ):Builtin.List.listTooLong n=Ξ:=by unfold Builtin.List.listTooLong;exact Q_ (by omega)
end
section
variable {X:Cx}
def vJ:V->List V->Hp->VK->Prop:=fun x vs H Q=>∃ l xs y,x=.ref l/\vs=[y]/\H l=Δ (.lst xs)/\xs.length < Ζ/\Q .Fy (upd H l (.lst (xs++[y])))
theorem gQ:UC X "list.append" vJ:=by intro pins s σ H x vs v us Q I rx rv h;obtain⟨l,xs,y,rfl,rfl,hH,hz,q⟩:=h;cases rx;obtain⟨u,rfl,ru⟩:=rv.one;obtain⟨z,its,n,r,hl,e⟩:=I.NO hH;refine call_meets F.slot_list_append ⟨_,e,rfl⟩ F.entry_list_append (F.args_list_append_2 _ _) (PySem.list_append l its.toArray n u (by rw[A_];omega)) ⟨e,?_⟩;refine⟨.Fy,_,I.NN (its':=its++[u]) hH e (by simp) (r.append (.cons ru .nil)) ?_,rfl,q⟩;rw[w_,V_];omega
theorem len_rep {α:Type}(xs:List α)(k:Nat):(Τ k xs).flatten.length=k*xs.length:=by
 induction k with
 | zero=>simp
 | succ k ih=>rw[List.replicate_succ,List.flatten_cons,w_,ih,Nat.succ_mul,Nat.add_comm]
end
end L2
namespace Att
open PySem PySem.W PySem.Calls PyProof.Rows
theorem ia {P:Params}{h:Heap}:∀ (ns:List Int) (vs:List Ψ),WellAll P h vs (ns.map WData.int)->IntsAre vs ns:=by
 intro ns
 induction ns with
 | nil=>intro vs w;rw[List.map_nil] at w;cases w;exact .nil
 | cons n ns ih=>
  intro vs w;rw[b_] at w;cases w with
  | cons a b=>cases a;exact .cons _ _ (ih _ b)
theorem p6 {l:OpenLaw}{n:Nat}(hn:l.most=Δ n){P:Params}{h:Heap}{args:List WData}{vals:List Ψ}
  (KY:l.row.toRowW.claim.pre args=Θ) (QX:WellAll P h vals args) :
  ∃ a vs ns,vals=[θ a]/\args=[WData.list (ns.map WData.int)]/\h.get? a=Δ {cls:=.type "list",data:=.seq vs.toArray}/\IntsAre vs ns/\ns.length<=n:=by
 have WO:WShape.hasAll [] args [.list .int]=Θ:=(pre_splitW KY).1;have hc:l.pre.holds [] {args:=args} = Θ:=(pre_splitW KY).2;obtain⟨d,r,rfl,h1,h2⟩:=hasAllW_cons WO;obtain rfl:=hasAllW_nil h2;obtain⟨xs,rfl,h3⟩:=hasW_list h1;obtain⟨ns,rfl⟩:=items_int h3;have hlen:ns.length<=n:=by
  unfold OpenLaw.pre at hc;have h4:(WTm.not (.lt (.lit (.int (n:Int))) (.len (.arg 0)))).holds [] {args:=[.list (ns.map .int)]} = Θ:=by have h4:=(holds_andW hc).1;rw[hn] at h4;exact h4
  have h5:=condW_of h4 (w_not (w_lt w_lit (w_len_list (w_arg rfl))));rw[j_] at h5;refine Nat.le_of_not_lt fun q=>?_;have q':(n:Int) < ((ns.length:Nat):Int):=by omega
  first
   | (rw[I_ q'] at h5;exact absurd h5 (by decide))
   | (simp at h5;omega)
 cases QX with
 | cons w1 w2=>
  cases w2;cases w1 with
  | list ho Jc=>exact⟨_,_,ns,rfl,rfl,ho,ia ns _ Jc,hlen⟩
theorem p7 (l:OpenLaw)(args:List WData):l.row.toRowW.claim.post args (.bool Θ) args=Θ:=
 postW_of (r:=l.row.toRowW) (X:=(Θ == Θ))
  (show WShape.has [] (.bool Θ) .bool=Θ by first|rfl|decide|simp[WShape.has,WShape.arms,WShape.armsAll])
  (show (WTm.eq .res (.lit (.bool Θ))).value [] {args:=args,res:=Δ (.bool Θ),after:=args} = Δ (.bool (Θ == Θ)) from w_eq_bool (w_res rfl) w_lit) rfl
theorem ID {l:OpenLaw}{n:Nat}{q:Ε}{loose:List Str}{XP:(Str->Option Ψ)->Heap->Prop}{YP:Β->Heap->Prop}{d:DefRec}
  (hn:l.most=Δ n) (NP:d.params.defaults=[])
  (call:∀ (w:Β) (F8 FG:Α) (mg mb:Str->Option Ψ) (fa:Ω) (o:Obj) (pm cd doc:Ψ) (a:Ω) (vs:List Ψ) (ns:List Int),
   Ground q loose [] XP w F8 mg mb FG.heap->YP w FG.heap->
   FG.heap.get? fa=Δ o->o.data=.func (docDef d.name d.params d.body d.scope pm cd doc)->FG.heap.CodeRec cd d.name->mg d.name=Δ (.ref fa)->
   FG.heap.get? a=Δ {cls:=.type "list",data:=.seq vs.toArray}->IntsAre vs ns->ns.length<=n->FG.gens = #[]->
   codeAny (Μ l.prog w) callerA (.call (.ref fa) ⟨[.ref a],[]⟩) (fun r s'=>r=.ok (.ret (.bool Θ))/\OldK FG.heap s'.heap/\s'.os=FG.os/\AllBare s'.gens) FG) :
  WalkO q loose XP YP l.row.toRowW d [] (fun f vs=>PySem.call f vs):=by
 intro w F8 FG mg mb G Y fa o pm cd doc dV kV ho hd J8 hD hmg hg args vals as KY WQ hrd QX Lv;obtain rfl:dV=.none:=Dflts.none hD NP;obtain rfl:kV=.none:=Dflts.noKw hD;obtain⟨a,vs,ns,rfl,rfl,Ma,hints,hlen⟩:=p6 hn KY QX;refine enter_call (codeAny_mono (call w F8 FG mg mb fa o pm cd doc a vs ns G Y ho (fd_plain hd) J8 hmg Ma hints hlen hg) fun r s' hq=>?_);obtain⟨rfl,h2,h3,h4⟩:=hq;exact⟨.inl ⟨.bool Θ,.bool Θ,[],rfl,fun _=>rfl,.bool Θ,p7 l _,fun _=>⟨List.Pairwise.nil,fun _ hm=>(nomatch hm)⟩⟩,h2,h3,h4⟩
end Att
namespace L2
open PySem PySem.Spec PyProof.Rows
def KL (K:Frag)(a:Ω)(xs:List V):Prop:=
 ∃ (its:List Ψ) (n:Nat),K.lookup a=Δ {cls:=.type "list",data:=.seq its.toArray n}/\its.length<=Ζ/\Vals xs its
def Ls (K:Frag)(H:Hp)(a:Ω)(xs:List V):Prop:=Rd H a (.lst xs)∨KL K a xs
theorem jH:∀ {vs:List Ψ}{ns:List Int},IntsAre vs ns->Vals (ns.map V.int) vs
 | _,_,.nil=>.nil
 | _,_,.cons n t h=>.cons ⟨t,rfl⟩ (jH h)
def zV (H:Hp):Prop:=∀ b,H b=Φ∨∃ o xs,H b=Δ (.FT o (.lst xs))
theorem qQ {P:Ε}{w:Β}{K:Frag}{mg mb:Str->Option Ψ}{CX:G1}{k:Nat}{fa a:Ω}{fd:Ο}{x:Str}{sp:Sp}{FG:Α}{vs:List Ψ}{ns:List Int}
  (KX:K.In FG.heap) (Mb:FG.heap.Ns Η mg) (hb:FG.heap.Ns builtinsNs mb) (WR:∀ x:Str,x≠"__name__"->mb x=bootBuiltins x) (QY:FG.heap.NoLimit) (hg:FG.gens = #[])
  (ha:FG.heap.get? a=Δ {cls:=.type "list",data:=.seq vs.toArray}) (hi:IntsAre vs ns) (hl:ns.length<=Ζ) (hr:GK k callerA)
  (F:∀ base:Heap,K.In base->base.Ns Η mg->He P w K mg base CX k fa fd [x] sp) (NQ:∀ (s:Α) (u:Ψ),BindsTo s fd ⟨[u],[]⟩ [(x,u)])
  (IQ:∀ H:Hp,zV H->Ls K H a (ns.map V.int)->sp [.ref a] H (fun v _=>v=.bl Θ) fun _ _ _=>False)
  (QZ:∀ H e s',CX [] H FG (fun _ _ _=>False) e s'->False) :
  codeAny (Μ P w) callerA (.call (.ref fa) ⟨[.ref a],[]⟩) (fun r s'=>r=.ok (.ret (.bool Θ))/\OldK FG.heap s'.heap/\s'.os=FG.os/\AllBare s'.gens) FG:=by
 have rv:=jH hi;have Q0:=hi.length
 -- from an abstract heap in UD nothing but L4 Mc may be tracked
 have core:∀ H:Hp,zV H->Ls K H a (ns.map V.int)->Gw P w H FG.heap->(∀ b,H b≠Φ->b=a)->(H a≠Φ->K.lookup a=Φ)->
   codeAny (Μ P w) callerA (.call (.ref fa) ⟨[.ref a],[]⟩) (fun r s'=>r=.ok (.ret (.bool Θ))/\OldK FG.heap s'.heap/\s'.os=FG.os/\AllBare s'.gens) FG:=by
  intro H hO hS FN hA hK;have Jr:∀ {b:Ω}{o:Obj},FG.heap.get? b=Δ o->H b=Φ->(kj FG.heap H).get? b=Δ o:=fun e n=>qz e n;have NI:∀ {b:Ω}{o:Obj}{es:Array DictEntry}{ep:Nat},FG.heap.get? b=Δ o->o.data=.dict es ep->H b=Φ:=fun {b o es ep} e d=>by
   cases q:H b with
   | none=>rfl
   | some u=>have e':b=a:=hA b (by rw[q];simp);subst e';rw[ha] at e;cases e;have d':Data.seq vs.toArray _=Data.dict es ep:=d;cases d'
  have PF:∀ {b:Ω}{m:Str->Option Ψ},FG.heap.Ns b m->(kj FG.heap H).Ns b m:=fun {b m} ⟨o,es,ep,e,d,r⟩=>⟨o,es,ep,Jr e (NI e d),d,r⟩
  have UE:K.In (kj FG.heap H):=fun b o e=>Jr (KX b o e) (by
   cases q:H b with
   | none=>rfl
   | some u=>
    have e':b=a:=hA b (by rw[q];simp);subst e'
    rw[hK (by rw[q];simp)] at e;cases e)
  have hM:Mod K mg (kj FG.heap H):=⟨UE,PF Mb,⟨mb,PF hb,WR⟩,let ⟨mc,h1,h2⟩:=QY;⟨mc,PF h1,h2⟩⟩
  have e0:JJ P w K mg (kj FG.heap H) callerA [] FG H:=⟨rfl,hM,fun b o e=>vw e,Nat.le_of_eq (pU _ _),trivial,fun b hb=>absurd (show b∈([]:List Ω) from hb) (by simp),FN,.of_eq hg⟩
  refine codeAny_mono ((F _ UE (PF Mb)).run callerA [] FG H ⟨[.ref a],[]⟩ [.ref a] [.ref a] _ _ hr e0 (NQ FG (.ref a)) (.cons rfl .nil) (IQ H hO hS)) fun r s' h=>?_;cases r with
  | error e=>exact(QZ H e s' h).elim
  | ok fl=>
   cases fl with
   | next=>exact False.elim h
   | brk=>exact False.elim h
   | cont=>exact False.elim h
   | ret u=>
    obtain⟨v,H',os,bare,un,Q2,r',q⟩:=h;have q':v=.bl Θ:=q;subst q';obtain rfl:u=Value.bool Θ:=r';refine⟨rfl,OldK.of_keep fun b o e=>?_,os,bare⟩;cases q:H b with
    | none=>exact un.keep b o e q (by intro z;exact absurd (show b∈([]:List Ω) from z) (by simp)) (by simp)
    | some u=>
     rcases hO b with z|⟨ob,xs,z⟩
     ·rw[q] at z;cases z
     ·have z2:=un.GG b ob _ z;obtain⟨e1,_⟩:=FN b _ z;obtain⟨e2,_⟩:=Q2 b _ z2;rw[e] at e1;cases e1;exact e2
 cases hk:K.lookup a with
 | some o=>
  -- L4 Mc is one of L4 NR own objects
  have e:=KX a o hk;rw[ha] at e;cases e;refine core (fun _=>Φ) (fun _=>.inl rfl) (.inr ⟨vs,_,hk,by rw[Q0];exact hl,rv⟩) (fun b u z=>by have z':(Φ:Option HO)=Δ u:=z;cases z') (fun b z=>absurd rfl z) fun z=>absurd rfl z
 | none=>
  refine core (fun b=>if b=a then Δ (.FT {cls:=.type "list",data:=.seq vs.toArray} (.lst (ns.map V.int))) else Φ) (fun b=>?_) (.inl (.inr ⟨{cls:=.type "list",data:=.seq vs.toArray},f_ rfl⟩)) (fun b u z=>?_) (fun b z=>?_) fun _=>hk
  ·by_cases hb:b=a
   ·exact .inr ⟨_,_,f_ hb⟩
   ·exact .inl (d_ hb)
  ·by_cases hb:b=a
   ·have z':=(f_ hb).symm.trans z;cases z';subst hb;exact⟨ha,by rw[j_];exact hl,vs,_,rv,ha⟩
   ·have z':=(d_ hb).symm.trans z;cases z'
  ·by_cases hb:b=a
   ·exact hb
   ·exact absurd (d_ hb) z
theorem vK {l:PySem.W.OpenLaw}{n k:Nat}{q:Ε}{loose:List Str}{XP:(Str->Option Ψ)->Heap->Prop}{YP:Β->Heap->Prop}{d:DefRec}{K:Params->Frag}{CX:Β->G1}{sp:Β->Sp}{x:Str}
  (hn:l.most=Δ n) (PH:n<=Ζ) (NP:d.params.defaults=[]) (hr:GK k callerA)
  (hY:∀ (w:Β) (h:Heap),YP w h->(K w.params).In h)
  (F:∀ (w:Β) (mg:Str->Option Ψ) (fa:Ω) (h:Heap),(K w.params).In h->h.Ns Η mg->mg d.name=Δ (.ref fa)->
   ∃ fd:Ο,(∀ (s:Α) (u:Ψ),BindsTo s fd ⟨[u],[]⟩ [(x,u)])/\
    ∀ base:Heap,(K w.params).In base->base.Ns Η mg->He l.prog w (K w.params) mg base (CX w) k fa fd [x] (sp w))
  (IQ:∀ (w:Β) (H:Hp) (a:Ω) (ns:List Int),ns.length<=n->zV H->Ls (K w.params) H a (ns.map V.int)->sp w [.ref a] H (fun v _=>v=.bl Θ) fun _ _ _=>False)
  (QZ:∀ (w:Β) (H:Hp) (s:Α) (e:Ψ) (s':Α),CX w [] H s (fun _ _ _=>False) e s'->False) :
  PySem.W.WalkO q loose XP YP l.row.toRowW d [] (fun f vs=>PySem.call f vs):=by
 refine Att.ID hn NP fun w F8 FG mg mb fa o pm cd doc a vs ns G Y ho hd J8 hmg Ma hints hlen hg=>?_;have KX:=hY w _ Y;obtain⟨fd,hb,hF⟩:=F w mg fa _ KX G.T.g hmg;exact qQ KX G.T.g G.T.b G.T.builtins G.T.nolimit hg Ma hints (M_ hlen PH) hr hF hb (fun H hO hS=>IQ w H a ns hlen hO hS) fun H e s'=>QZ w H FG e s'
noncomputable def eM (s:Stmt):Arguments:=match s with
 | .FunctionDef _ a _ _ _ _ _ _ _ _=>a
 | _=>{posonlyargs:=[],args:=[],vararg:=Φ,kwonlyargs:=[],kw_defaults:=[],kwarg:=Φ,defaults:=[]}
noncomputable def dB (s:Stmt):List Stmt:=match s with
 | .FunctionDef _ _ b _ _ _ _ _ _ _=>b
 | _=>[]
noncomputable def cE (s:Stmt):Scope:=match s with
 | .FunctionDef _ _ _ _ _ _ sc _ _ _=>sc
 | _=>{kind:=.function,names:=[],isGenerator:=Ξ,isCoroutine:=Ξ}
structure Lw (K:Frag)(x qual:Str)(st:Stmt)(f:Ω)(fd:Ο):Prop where
 ex:∃ (oc:Ψ) (od:Option Ω) (kV doc pm:Ψ) (an:Option Ω) (HA ct:Ψ) (KW:Array (Option Ψ)),
  fd=PySem.W.fnOf x qual (eM st) (dB st) (cE st) .none kV doc pm an HA ct/\K.lookup f=Δ ⟨oc,od,.func fd,KW⟩/\PySem.W.codeIn K HA qual=Θ
 kp:PySem.W.keepIn K (.ref f)=Θ
section
variable {P:Ε}{w:Β}{K:Frag}{mg:Str->Option Ψ}{base:Heap}
theorem Lw.binds {x qual:Str}{st:Stmt}{f:Ω}{fd:Ο}{ps:List Str}(F:Lw K x qual st f fd)
  (h:∀ (kV doc pm:Ψ) (an:Option Ω) (HA ct:Ψ) (us:List Ψ),us.length=ps.length->bindArgs (PySem.W.fnOf x qual (eM st) (dB st) (cE st) .none kV doc pm an HA ct) ⟨us,[]⟩=pure (ps.zip us)):Binds K fd ps []:=by
 obtain⟨oc,od,kV,doc,pm,an,HA,ct,KW,rfl,lk,J8⟩:=F.ex;exact .all (h kV doc pm an HA ct)
theorem nc {x qual:Str}{st:Stmt}{f:Ω}{oc:Ψ}{od an:Option Ω}{KW:Array (Option Ψ)}{kV doc pm HA ct:Ψ}(l:K.lookup f=Δ ⟨oc,od,.func (PySem.W.fnOf x qual (eM st) (dB st) (cE st) .none kV doc pm an HA ct),KW⟩)
  (c:PySem.W.codeIn K HA qual=Θ) (k:PySem.W.keepIn K (.ref f)=Θ):Lw K x qual st f (PySem.W.fnOf x qual (eM st) (dB st) (cE st) .none kV doc pm an HA ct):=⟨⟨oc,od,kV,doc,pm,an,HA,ct,KW,rfl,l,c⟩,k⟩
end
def cz (H H':Hp):Prop:=∀ b o,H b=Δ o->H' b=Δ o
theorem cz.refl (H:Hp):cz H H:=fun _ _ h=>h
theorem cz.trans {H H1 H2:Hp}(a:cz H H1)(b:cz H1 H2):cz H H2:=fun c o h=>b c o (a c o h)
theorem cz.free {H H':Hp}(e:cz H H'){l:Ω}(h:H' l=Option.none):H l=Option.none:=by
 cases q:H l with
 | none=>rfl
 | some o=>rw[e l o q] at h;cases h
theorem cz.seq {K:Frag}{H H':Hp}{a:Ω}{xs:List V}(e:cz H H')(h:Gu K H a xs):Gu K H' a xs:=by
 rcases h with (h|⟨o,h⟩)|h
 ·exact .inl (.inl (e _ _ h))
 ·exact .inl (.inr ⟨o,e _ _ h⟩)
 ·exact .inr h
theorem cF {X:Cx}{e:Expr}{t t':TE}(h:PE X e t)(m:∀ σ H Q,t' σ H Q->t σ H Q):PE X e t':=fun pins s σ H Q I q=>h pins s σ H Q I (m σ H Q q)
theorem iC {X:Cx}{e:Expr}{t t':TT}(h:PT X e t)(m:∀ σ H Q,t' σ H Q->t σ H Q):PT X e t':=fun pins s σ H Q I q=>h pins s σ H Q I (m σ H Q q)
theorem ko {X:Cx}{e:List Expr}{t t':TA}(h:PA X e t)(m:∀ σ H Q,t' σ H Q->t σ H Q):PA X e t':=fun pos pins s σ H Q I q=>h pos pins s σ H Q I (m σ H Q q)
theorem dD {X:Cx}{e:Stmt}{t t':TS}(h:PS X e t)(m:∀ D σ H,t' D σ H->t D σ H):PS X e t':=fun pins s σ H D I q=>h pins s σ H D I (m D σ H q)
theorem fK {X:Cx}{e:List Stmt}{t t':TS}(h:IA X e t)(m:∀ D σ H,t' D σ H->t D σ H):IA X e t':=fun pins s σ H D I q=>h pins s σ H D I (m D σ H q)
theorem kq {X:Cx}{tg e:Expr}{t t':TI}(h:PI X tg e t)(m:∀ σ H Q,t' σ H Q->t σ H Q):PI X tg e t':=fun pins s σ H Q I q=>h pins s σ H Q I (m σ H Q q)
def Js (X:Cx)(scope:Scope)(cl:List (Str×Ω))(N:List Str)(C:Ω)(s3:Α)(H3:Hp)(fp:List Ω)(xe:Ψ->Α->Prop:=fun _ _=>False):Cx:=
 {X with N:=N,F8:=s3,Ib:=H3,env:=compEnvC scope cl C X.env,outer:=X.stack,ex:=fp,fn:=fun _=>Ξ,pn:=[],xe:=xe}
structure Hf (X:Cx)(scope:Scope)(cl:List (Str×Ω))(Fr:List (Str×Nat))(Tg:List Str):Prop where
 NT:closureFor scope X.env=pure cl
 kind:scope.kind=.function
 Ih:∀ y∈scope.names,y.2≠.cell
 loc:∀ y∈scope.names,y.2=.local->scope.names.lookup y.1=Δ .local
 sub:∀ x c,cl.lookup x=Δ c->X.env.cells.lookup x=Δ c
 has:∀ x,((relabel scope X.env).names.lookup x=Δ .cell∨(relabel scope X.env).names.lookup x=Δ .free)->∃ c,cl.lookup x=Δ c
 out:∀ p∈Fr,X.N[p.2]? = Δ p.1/\(X.env.kindOf p.1=Δ .cell∨X.env.kindOf p.1=Δ .free)/\((relabel scope X.env).names.lookup p.1=Δ .cell∨(relabel scope X.env).names.lookup p.1=Δ .free)
noncomputable def stC (Fr:List (Str×Nat))(Tg:List Str)(σ:St):St:=Fr.map (fun p=>(σ[p.2]?).join)++Τ Tg.length Φ
section
variable {X:Cx}{scope:Scope}{cl:List (Str×Ω)}{Fr:List (Str×Nat)}{Tg:List Str}{pins:List (Ω×Obj)}{σ:St}{H3:Hp}{s3:Α}{fp:List Ω}
theorem zW (S:Hf X scope cl Fr Tg)(I:Inv X pins σ H3 s3)(hf:∀ b∈fp,fR X pins H3 b)(Q3:∀ b∈fp,b < s3.heap.objs.size)(N:List Str)(xe:Ψ->Α->Prop):(Js X scope cl N s3.heap.objs.size s3 H3 fp xe).Ok where
 mod:=I.ok.mod
 kind:=S.kind
 glob:=I.ok.glob
 blt:=I.ok.blt
 above:=n_ _
 inj:=fun x y c h1 h2=>I.ok.inj x y c (S.sub x c h1) (S.sub y c h2)
 has:=fun x h=>S.has x h
 Pt:=fun x c h _=>absurd (show Ξ=Θ from h) (by decide)
 hd:=I.ok.hd
 frames:=I.ok.frames
 FC:=.inl rfl
 QI:=fun b hb=>⟨m_ (Q3 b hb),fun x c e z=>(hf b hb).2.2.2.2.1 x c (S.sub x c e) z⟩
 bs:=I.bs
 KP:=M_ I.ok.KP I.sz
 KQ:=fun b o e hb=>by
  rcases (hf b hb).2.2.2.1 with z|z
  ·exact I.ok.KQ b o e z
  ·exact absurd (z_ (i_ e) (M_ I.ok.KP z)) (R_ _)
 KR:=fun b hb z=>by
  rcases k_.mp (I.I0 b z) with z|z
  ·exact(hf b hb).2.1 z
  ·exact(hf b hb).2.2.1 z
 G5:=I.stack
 J7:=I.Ic
theorem p8 (S:Hf X scope cl Fr Tg)(I:Inv X pins σ H3 s3)(hf:∀ b∈fp,fR X pins H3 b)(Q3:∀ b∈fp,b < s3.heap.objs.size){h':Heap}{tk:Nat}
  (Mb:h'.Ns s3.heap.objs.size (fun _=>Φ)) (hk:∀ b o,s3.heap.get? b=Δ o->h'.get? b=Δ o) (xe:Ψ->Α->Prop) :
  Inv (Js X scope cl (Fr.map (·.1)++Tg) s3.heap.objs.size s3 H3 fp xe) [] (stC Fr Tg σ) H3 {s3 with heap:=h',toks:=tk} where
 ok:=zW S I hf Q3 _ _
 os:=rfl
 bare:=I.bare
 base:=Un.kept hk
 loc:=by
  refine⟨_,Mb,fun i x v e1 e2 e3=>?_⟩;have hi:i < Fr.length:=by
   by_cases hi:i < Fr.length
   ·exact hi
   ·unfold stC at e2;rw[aaE (by simpa using hi),List.getElem?_replicate] at e2;split at e2<;>cases e2
  have PJ:(Fr.map (·.1))[i]? = Δ x:=by rw[<- e1];exact(aao (by simpa using hi)).symm
  have GO:(Fr.map (fun p=>(σ[p.2]?).join))[i]? = Δ (Δ v):=by rw[<- e2];exact(aao (by simpa using hi)).symm
  rw[B_] at PJ GO;obtain⟨p,hp,rfl⟩:=aaI.mp PJ;rw[hp] at GO;have KZ:(σ[p.2]?).join=Δ v:=F_ GO;have e4:σ[p.2]? = Δ (Δ v):=by
   cases q:σ[p.2]? with
   | none=>rw[q] at KZ;cases KZ
   | some y=>rw[q] at KZ;rw[show y=Δ v from KZ]
  obtain⟨o1,o2,o3⟩:=S.out p (aag hp);obtain⟨m,hn,hl⟩:=I.loc;have hv:Nz X.env.scope p.1:=by
   rcases o2 with o2|o2
   ·exact .inr (.inl o2)
   ·exact .inr (.inr o2)
  obtain⟨u,r,l⟩:=hl p.2 p.1 v o1 e4 hv;refine⟨u,r,.inr ⟨o3,?_⟩⟩;obtain⟨c,hc⟩:=S.has p.1 o3;refine⟨c,hc,?_⟩;have MX:=S.sub _ _ hc;rcases l with ⟨k,_⟩|⟨_,c2,h2,z⟩
  ·rcases o2 with o2|o2<;>(rw[k] at o2;cases o2)
  ·rw[MX] at h2;cases h2;obtain⟨o,ho,hd⟩:=z;exact⟨o,hk _ _ ho,hd⟩
 cell:=fun x c e=>by obtain⟨v,o,ho,hd⟩:=I.cell x c (S.sub x c e);exact⟨v,o,hk _ _ ho,hd⟩
 free:=I.FN.fresh (n_ _)
 GR:=fun x c e=>I.GR x c (S.sub x c e)
 pin:=fun p hp=>absurd (show p∈([]:List (Ω×Obj)) from hp) (by simp)
 FN:=I.FN.kept hk
 len:=by unfold stC;show _=(Fr.map (·.1)++Tg).length;simp
end
def K0 (X:Cx)(ifs:List Expr)(t:TT):Prop:=
 ∀ (pins:List (Ω×Obj)) (s:Α) (σ:St) (H:Hp) (Q:Bool->Hp->Prop),Inv X pins σ H s->t σ H Q->
  Κ (Μ X.prog X.w) X.A (forIn ifs Θ fun c r=>if r=Θ then do let ok <- isTrue c X.env (eval c X.env);pure (ForInStep.yield ok) else pure (ForInStep.yield r)) (TP X pins σ Q) X.xe s
theorem hU {M:Model}{A:Ι}{E:Ψ->Α->Prop}{s:Α}{env:Env}{Q:Bool->Α->Prop}(h:Q Ξ s):∀ ifs:List Expr,
  Κ M A (forIn ifs Ξ fun c r=>if r=Θ then do let ok <- isTrue c env (eval c env);pure (ForInStep.yield ok) else pure (ForInStep.yield r)) Q E s
 | []=>by rw[List.forIn_nil];exact e_ h
 | c::cs=>by rw[List.forIn_cons];rw[d_ o_];exact a_ (e_ (hU h cs))
theorem vL {X:Cx}:K0 X [] (fun _ H Q=>Q Θ H):=fun pins s σ H Q I q=>by rw[List.forIn_nil];exact e_ ⟨H,I,q⟩
theorem qR {X:Cx}{c:Expr}{cs:List Expr}{t u:TT}(hc:PT X c t)(hr:K0 X cs u):K0 X (c::cs) (BJ t u):=fun pins s σ H Q I q=>by
 rw[List.forIn_cons,f_ rfl];refine a_ (a_ (FP (hc pins s σ H _ I q) fun b s1 ⟨H1,I1,q1⟩=>e_ ?_));cases b with
 | true=>exact hr pins s1 σ H1 Q I1 q1
 | false=>exact hU ⟨H1,I1,q1⟩ cs
def qS (wi:TI)(start:St->St)(g:TG)(tt:TT)(te:TE):TE:=fun σ H Q=>wi σ H fun J H1=>∀ D,H1 D=Φ->∃ W:Nat->Nat->St->Hp->Prop,(∃ m,W 0 m (start σ) (upd H1 D (.lst [])))/\
 ∀ i m FI H',W i m FI H'->(J.stop i H'/\Q (.ref D) H')∨(J.go i H'/\∀ x H2,J.Kz i H' x H2->g x FI H2 fun IB H3=>tt IB H3 fun b H4=>
  if b=Θ then te IB H4 fun v H5=>∃ ys,H5 D=Δ (.lst ys)/\ys.length < Ζ/\∃ m',m' < m/\W (i+1) m' IB (upd H5 D (.lst (ys++[v])))
  else ∃ m',m' < m/\W (i+1) m' IB H4)
section
variable {X:Cx}{scope:Scope}{cl:List (Str×Ω)}{Fr:List (Str×Nat)}{Tg:List Str}{elt tg iter:Expr}{ifs:List Expr}{wi:TI}{g:TG}{tt:TT}{te:TE}{pos:Pos}
theorem kr (scope:Scope)(pos:Pos)(it acc:Ψ)(env:Env) :
  compTurn (.ListComp elt [⟨tg,iter,ifs,0⟩] scope pos) 0 it acc env=(do
   standAt iter.pos
   match <- pyNext it with
   | none=>pure (.done .next)
   | some v=>
    letOwnedTupleGo tg it v
    assign tg env v
    let ok <- forIn ifs Θ fun c r=>if r=Θ then do let ok <- isTrue c env (eval c env);pure (ForInStep.yield ok) else pure (ForInStep.yield r)
    if ok=Θ then
     (do let _ <- call (.builtin "list.append") [acc,<- eval elt env])
    again (.compLoop (.ListComp elt [⟨tg,iter,ifs,0⟩] scope pos) 0 it acc env)):=by rfl
theorem iD {XE:Ω->Α->Hp->List Ω->Ψ->Α->Prop}(hc:X.calm=Θ)(S:Hf X scope cl Fr Tg)
  (hg:∀ C s H fp,PG (Js X scope cl (Fr.map (·.1)++Tg) C s H fp (XE C s H fp)) tg g) (ht:∀ C s H fp,K0 (Js X scope cl (Fr.map (·.1)++Tg) C s H fp (XE C s H fp)) ifs tt)
  (he:∀ C s H fp,PE (Js X scope cl (Fr.map (·.1)++Tg) C s H fp (XE C s H fp)) elt te)
  {pins:List (Ω×Obj)}{σ:St}{H2:Hp}{s2:Α}{it:Ω}{fp:List Ω}{tn:Nat->Heap->Prop}{J:It}{Q:VK} (I2:Inv X pins σ H2 s2) (T:Turn X.prog X.w X.K tg J fp it tn) (Lu:tn 0 s2.heap)
  (f2:∀ b∈fp,fR X pins H2 b)
  (q:∀ D,H2 D=Φ->∃ W:Nat->Nat->St->Hp->Prop,(∃ m,W 0 m (stC Fr Tg σ) (upd H2 D (.lst [])))/\
   ∀ i m FI H',W i m FI H'->(J.stop i H'/\Q (.ref D) H')∨(J.go i H'/\∀ x H2,J.Kz i H' x H2->g x FI H2 fun IB H3=>tt IB H3 fun b H4=>
    if b=Θ then te IB H4 fun v H5=>∃ ys,H5 D=Δ (.lst ys)/\ys.length < Ζ/\∃ m',m' < m/\W (i+1) m' IB (upd H5 D (.lst (ys++[v])))
    else ∃ m',m' < m/\W (i+1) m' IB H4))
  {E:Ψ->Α->Prop}{RR:Ψ->Env->Result->Α->Prop}
  (hR:∀ D C s' H',(∃ m,s'.heap.Ns C m)->Inv X pins σ H' s'->fR X pins H' C->Q (.ref D) H'->∀ V:Env,V.locals=C->V.frame=X.env.frame->RR (.ref D) V (.ok .next) s')
  (hX:∀ D C s3 H3,(∀ s5 K1 H5,Inv (Js X scope cl (Fr.map (·.1)++Tg) C s3 H3 fp (XE C s3 H3 fp)) [] K1 H5 s5->(∃ m,s5.heap.Ns C m)/\Inv X pins σ H5 s5/\fR X pins H5 C)->∀ e s',XE C s3 H3 fp e s'->
   notedBy (Μ X.prog X.w) X.A (compEnvC scope cl C X.env) (fun x Ka=>∀ V:Env,V.locals=C->V.frame=X.env.frame->RR (.ref D) V (.error x) Ka) e s') :
  Κ (Μ X.prog X.w) X.A (newList []) (fun acc Q4=>Κ (Μ X.prog X.w) X.A (newFunctionEnv scope X.env.globals cl [] X.env.qual Φ .none (Δ X.env)) (fun NU Q5=>
   codeAny (Μ X.prog X.w) X.A (.compStart (.ListComp elt [⟨tg,iter,ifs,0⟩] scope pos) 0 (.ref it) acc {NU with scope:=relabel scope X.env}) (RR acc NU) Q5) E Q4) E s2:=by
 have WT:∀ b∈fp,b < s2.heap.objs.size:=fun b hb=>by obtain⟨o,e,_⟩:=T.obj _ _ Lu b hb;exact i_ e
 -- L4 Lx
 refine aar ?_;have I3:Inv X pins σ (upd H2 s2.heap.objs.size (.lst [])) {s2 with heap:=s2.heap.push {cls:=.type "list",data:=.seq ([]:List Ψ).toArray},toks:=s2.toks}:=I2.L' (ys:=[]) (its:=[]) .nil (aaa _);generalize hD:s2.heap.objs.size=D at I3 ⊢;have WU:H2 D=Φ:=by rw[<- hD];exact I2.fresh
 generalize UG:({s2 with heap:=s2.heap.push {cls:=.type "list",data:=.seq ([]:List Ψ).toArray},toks:=s2.toks}:Α)=s3 at I3;have k3:∀ b o,s2.heap.get? b=Δ o->s3.heap.get? b=Δ o:=fun b o e=>by rw[<- UG];exact l_ _ e
 have WV:s3.heap.objs.size=D+1:=by rw[<- UG,<- hD];exact S_ ..
 have NV:∀ b∈fp,b < D:=fun b hb=>by rw[<- hD];exact WT b hb
 have Q6:∀ b∈fp,b < s3.heap.objs.size:=fun b hb=>by rw[WV];exact Nat.lt_succ_of_lt (NV b hb)
 have f3:∀ b∈fp,fR X pins (upd H2 D (.lst [])) b:=fun b hb=>by obtain⟨a1,a2⟩:=f2 b hb;refine⟨?_,a2⟩;rw[cv (m_ (NV b hb))];exact a1
 obtain⟨W,⟨m0,w0⟩,turn⟩:=q D WU;refine wpAny_newFunctionEnv S.Ih (by intro y hy;simp at hy) (fun h4 Mb NW=>codeAny_mono (R:=fun r s'=>∀ V:Env,V.locals=s3.heap.objs.size->V.frame=X.env.frame->RR (.ref D) V r s') ?_ fun r s' z=>z _ rfl rfl) S.kind;have k4:∀ b o,s3.heap.get? b=Δ o->h4.get? b=Δ o:=fun b o e=>
  NW.extBut b o (m_ (i_ e)) (l_ _ e)
 have UH:tn 0 h4:=T.keep _ _ _ Lu fun b hb o e=>k4 b o (k3 b o e);have I4:=p8 (fp:=fp) (h':=h4) (tk:=s3.toks+([]:List (Str×Ψ)).length) S I3 f3 Q6 (by simpa using Mb) k4 (XE s3.heap.objs.size s3 (upd H2 D (.lst [])) fp);generalize hC:s3.heap.objs.size=C at I4 Mb NW ⊢;have Q7:=hX D C s3 (upd H2 D (.lst []));generalize hZ:XE C s3 (upd H2 D (.lst [])) fp=Z at I4 Q7;generalize hY:Js X scope cl (Fr.map (·.1)++Tg) C s3 (upd H2 D (.lst [])) fp Z=Y at I4 Q7;have yP:Y.prog=X.prog:=by rw[<- hY];rfl
 have yw:Y.w=X.w:=by rw[<- hY];rfl
 have yK:Y.K=X.K:=by rw[<- hY];rfl
 have yA:Y.A=X.A:=by rw[<- hY];rfl
 have yc:Y.calm=Θ:=by rw[<- hY];exact hc
 have yx:Y.xe=Z:=by rw[<- hY];rfl
 have ye:Y.env=compEnvC scope cl C X.env:=by rw[<- hY];rfl
 have NX:Y.ex=fp:=by rw[<- hY];rfl
 have WX:Y.pn=[]:=by rw[<- hY];rfl
 have WY:Y.fs=GJ X.stack:=by rw[<- hY];rfl
 have yH:Y.Ib=upd H2 D (.lst []):=by rw[<- hY];rfl
 have Ly:Y.F8=s3:=by rw[<- hY];rfl
 have WZ:PG Y tg g:=by rw[<- hY,<- hZ];exact hg _ _ _ _
 have IT:K0 Y ifs tt:=by rw[<- hY,<- hZ];exact ht _ _ _ _
 have W0:PE Y elt te:=by rw[<- hY,<- hZ];exact he _ _ _ _
 have Jb:∀ {H':Hp},(∀ b∈fp,H' b=Φ)->∀ b∈fp,fR Y [] H' b:=fun hn b hb=>by have Q8:=I4.ok;refine⟨hn b hb,(Q8.QI b (by rw[NX];exact hb)).1,Q8.KR b (by rw[NX];exact hb),.inl (by rw[NX];exact hb),(Q8.QI b (by rw[NX];exact hb)).2,fun p hp=>absurd hp (by rw[WX];simp)⟩
 have W2:∀ b∈fp,(upd H2 D (.lst [])) b=Φ:=fun b hb=>(f3 b hb).1
 -- back to L4 frame
 have back:∀ (s5:Α) (K1:St) (H5:Hp),Inv Y [] K1 H5 s5->(∃ m,s5.heap.Ns C m)/\Inv X pins σ H5 s5/\fR X pins H5 C:=by
  intro s5 K1 H5 I5;have Q9:∃ m,s5.heap.Ns C m:=by obtain⟨m,hn,_⟩:=I5.loc;rw[ye] at hn;exact⟨m,hn⟩
  have W3:Un (GJ X.stack) fp (upd H2 D (.lst [])) H5 s3.heap s5.heap:=by have u:=I5.base;rw[WY,NX,yH,Ly] at u;exact u
  have W4:s5.os=s3.os:=by have:=I5.os;rw[Ly] at this;exact this
  have Ra:Gw X.prog X.w H5 s5.heap:=by have:=I5.FN;rw[yP,yw] at this;exact this
  have JZ:∀ b∈fp,(b∈X.ex∨X.F8.heap.objs.size<=b)/\b≠X.env.locals/\(∀ x c,X.env.cells.lookup x=Δ c->c≠b)/\∀ p∈X.pn++pins,p.1≠b:=fun b hb=>by obtain⟨_,a1,_,a3,a4,a5⟩:=f3 b hb;exact⟨a3,a1,a4,a5⟩
  have NY:H5 C=Φ:=by have:=I5.free;rw[ye] at this;exact this
  exact⟨Q9,I3.Lp W4 W3 Ra I5.bare JZ,I3.Ja (Nat.le_of_eq hC) NY⟩
 have nz:∀ {α:Type}{t:Sem α}{Q:α->Α->Prop}{s:Α},Κ (Μ X.prog X.w) X.A t Q Z s->Κ (Μ X.prog X.w) X.A t Q (notedBy (Μ X.prog X.w) X.A (compEnvC scope cl C X.env) fun x Ka=>∀ V:Env,V.locals=C->V.frame=X.env.frame->RR (.ref D) V (.error x) Ka) s:=fun h=>wpAny_mono h (fun _ _ z=>z) fun e s' z=>Q7 back e s' z;have loop:∀ (s5:Α) (K1:St) (H5:Hp) (i m:Nat),Inv Y [] K1 H5 s5->tn i s5.heap->(∀ b∈fp,H5 b=Φ)->W i m K1 H5->
   codeAny (Μ X.prog X.w) X.A (.compLoop (.ListComp elt [⟨tg,iter,ifs,0⟩] scope pos) 0 (.ref it) (.ref D) (compEnvC scope cl C X.env)) (fun r s'=>∀ V:Env,V.locals=C->V.frame=X.env.frame->RR (.ref D) V r s') s5:=by
  intro s5 K1 H5 i m I5 NH QP w5;refine codeAny_loop rfl (fun n s'=>∃ i FI H',Inv Y [] FI H' s'/\tn i s'.heap/\(∀ b∈fp,H' b=Φ)/\W i n FI H') ?_ m ⟨i,K1,H5,I5,NH,QP,w5⟩;rintro n s6 ⟨i,L6,H6,I6,UI,UJ,w6⟩;show Κ _ X.A ((compTurn (.ListComp elt [⟨tg,iter,ifs,0⟩] scope pos) 0 (.ref it) (.ref D) (compEnvC scope cl C X.env)).onRaise (fun x=>do noteFrame x (compEnvC scope cl C X.env);theTreesLotGoes x)) _ _ s6;refine wpAny_noted ?_;rw[kr];refine a_ (wpAny_standAt (a_ ?_));have nx:∀ {α:Type}{t:Sem α}{Q:α->Α->Prop}{E':Ψ->Α->Prop}{s:Α},Κ (Μ X.prog X.w) X.A t Q (fun _ _=>False) s->Κ (Μ X.prog X.w) X.A t Q E' s:=fun h=>wpAny_mono h (fun _ _ z=>z) fun _ _ z=>z.elim;rcases turn i n L6 H6 w6 with ⟨stop,qn⟩|⟨go,step⟩
  ·have h:=T.done Y yP yw yK yc i [] s6 L6 H6 (fun _ _=>False) I6 (Jb UJ) UI stop;rw[yA] at h;refine nx (FP h fun r s7 ⟨hr,I7⟩=>?_);subst hr;refine e_ ?_;obtain⟨b1,b2,b3⟩:=back s7 L6 H6 I7;exact hR D C s7 H6 b1 b2 b3 qn
  ·have h:=T.item Y yP yw yK yc i [] s6 L6 H6 (fun _ _=>False) I6 (Jb UJ) UI go;rw[yA] at h;refine nx (FP h fun r s7 ⟨u,hr,h7⟩=>?_);subst hr;refine a_ (nx (FP h7 fun _ s8 ⟨x,H8,I8,r8,y8,Rb,W5⟩=>?_));have W6:=I8.pinned (Jb W5) (T.obj _ _ Rb);have h9:=WZ _ s8 L6 H8 x u _ W6 r8 (step x H8 y8);rw[yP,yw,yA,yx,ye] at h9;refine a_ (nz (FP h9 fun _ s9 ⟨Rc,H9,I9,q9⟩=>?_));have KC:=IT _ s9 Rc H9 _ I9 q9;rw[yP,yw,yA,yx,ye] at KC;refine a_ (nz (FP KC fun ok IU ⟨W8,UK,M0⟩=>?_));have again:∀ {FI:St}{H':Hp}{s':Α},Inv Y ([]++gN fp s8.heap) FI H' s'->(∃ m',m' < n/\W (i+1) m' FI H')->∃ m,m < n/\∃ i FI H',Inv Y [] FI H' s'/\tn i s'.heap/\(∀ b∈fp,H' b=Φ)/\W i m FI H':=fun {FI H' s'} I' ⟨m',hm,w'⟩=>by refine⟨m',hm,i+1,FI,H',I'.G6,T.keep _ _ _ Rb fun b hb o e=>(I'.pin (b,o) (r_ _ (r_ _ (fA hb e)))).1,fun b hb=>?_,w'⟩;obtain⟨o,e,d⟩:=T.obj _ _ Rb b hb;exact(I'.pin (b,o) (r_ _ (r_ _ (fA hb e)))).2.1
   cases ok with
   | false=>rw[d_ o_] at M0;refine a_ (e_ (e_ ⟨rfl,again UK M0⟩))
   | true=>rw[f_ rfl] at M0;have Lz:=W0 _ IU Rc W8 _ UK M0;rw[yP,yw,yA,yx,ye] at Lz;refine a_ (a_ (nz (FP Lz fun y LA ⟨v,UL,W',Xa,ys,ey,zy,Xb⟩=>?_)));have Md:=gQ (X:=Y) ([]++gN fp s8.heap) LA Rc UL (.ref D) [v] (.ref D) [y] (fun v' H'=>v'=.Fy/\H'=upd UL D (.lst (ys++[v]))) W' rfl (.cons Xa .nil) ⟨D,ys,v,rfl,rfl,ey,zy,rfl,rfl⟩;rw[yP,yw,yA,yx] at Md;refine a_ (nz (FP Md fun z s12 ⟨v12,H12,Xc,r12,UM,Rf⟩=>?_));subst Rf;exact e_ (e_ ⟨rfl,again Xc Xb⟩)
 have start:=loop {s3 with heap:=h4,toks:=s3.toks+([]:List (Str×Ψ)).length} (stC Fr Tg σ) (upd H2 D (.lst [])) 0 m0 I4 UH W2 w0;have e5:∀ (s':Α),s' = {s3 with heap:=h4,toks:=s3.toks+([]:List (Str×Ψ)).length}->codeAny (Μ X.prog X.w) X.A (.compLoop (.ListComp elt [⟨tg,iter,ifs,0⟩] scope pos) 0 (.ref it) (.ref D) (compEnvC scope cl C X.env)) (fun r s'=>∀ V:Env,V.locals=C->V.frame=X.env.frame->RR (.ref D) V r s') s':=by rintro _ rfl;exact start
 exact codeAny_compStart_list (e5 _ rfl) (T.self _ _ _ _ _ UH (e5 _ rfl))
theorem ku (hc:X.calm=Θ)(S:Hf X scope cl Fr Tg)(hi:PI X tg iter wi)
  (hg:∀ C s H fp,PG (Js X scope cl (Fr.map (·.1)++Tg) C s H fp) tg g) (ht:∀ C s H fp,K0 (Js X scope cl (Fr.map (·.1)++Tg) C s H fp) ifs tt)
  (he:∀ C s H fp,PE (Js X scope cl (Fr.map (·.1)++Tg) C s H fp) elt te) (hs:∀ x,foldedSetIterable iter X.env x=pure x:=by intro _;rfl) :
  PE X (.ListComp elt [⟨tg,iter,ifs,0⟩] scope pos) (qS wi (stC Fr Tg) g tt te):=by
 intro pins s σ H Q I h;rw[eval_ListComp];refine wpAny_comprehension_free (use:=Φ) rfl hs S.NT S.kind S.loc (FP (hi pins s σ H _ I h) fun xv s1 h1=>FP h1 fun Px s2 h2=>?_);obtain⟨it,fp,tn,J,H2,rfl,I2,T,Lu,f2,q⟩:=h2;refine iD (XE:=fun _ _ _ _ _ _=>False) (RR:=fun acc V=>compPost (Μ X.prog X.w) X.A X.xe Φ (EP X pins σ Q) acc V.locals) hc S hg ht he I2 T Lu f2 q ?_ fun _ _ _ _ _ _ _ z=>z.elim;intro D C s' H' ⟨m,hn⟩ I' F' q' V hV _;subst hV;obtain⟨f0,f1,f2,f3,f4,f5⟩:=F';exact⟨m,hn,fun h' sb=>⟨.ref D,H',I'.turned (t':=s'.toks) (fun b o hb e=>(sb.2 b hb).trans e) f0 f1 f3 f4 f5,rfl,q'⟩⟩
theorem vM {y:Str}{py spos:Pos}{i:Nat}(hc:X.calm=Θ)(hN:X.N.Nodup)(Xd:X.N[i]? = Δ y)(hy:X.env.kindOf y=Δ .local)(S:Hf X scope cl Fr Tg)(hi:PI X tg iter wi)
  (hg:∀ C s H fp,PG (Js X scope cl (Fr.map (·.1)++Tg) C s H fp) tg g) (ht:∀ C s H fp,K0 (Js X scope cl (Fr.map (·.1)++Tg) C s H fp) ifs tt)
  (he:∀ C s H fp,PE (Js X scope cl (Fr.map (·.1)++Tg) C s H fp) elt te)
  (NZ:swapsWith (.ListComp elt [⟨tg,iter,ifs,0⟩] scope pos) (Δ (.Name y py)) spos.line X.env=pure Θ) (hs:∀ x,foldedSetIterable iter X.env x=pure x:=by intro _;rfl) :
  PS X (.Assign [.Name y py] (.ListComp elt [⟨tg,iter,ifs,0⟩] scope pos) spos) (fun D σ H=>qS wi (stC Fr Tg) g tt te σ H fun v H'=>D.nx (σ.set i (Δ v)) H'):=by
 intro pins s σ H D I h;rw[exec_Assign_Name_used _ _ _ _ NZ];refine a_ (wpAny_standAt (a_ ?_));show Κ _ X.A (do let _ <- comprehension (.ListComp elt [⟨tg,iter,ifs,0⟩] scope pos) scope X.env _ (newList []) Ξ (eval iter X.env) (Δ (assign (.Name y py) X.env))) _ _ s
 refine a_ (FP (wpAny_comprehension_free (use:=Δ (assign (.Name y py) X.env)) (Q:=fun _ s'=>SP X pins D .next s') rfl hs S.NT S.kind S.loc
  (FP (hi pins s σ H _ I h) fun xv s1 h1=>FP h1 fun Px s2 h2=>?_)) fun _ s' hq=>e_ (e_ hq))
 obtain⟨it,fp,tn,J,H2,rfl,I2,T,Lu,f2,q⟩:=h2;refine iD (Q:=fun v H'=>D.nx (σ.set i (Δ v)) H') (XE:=fun _ _ _ _ _ _=>False) (RR:=fun acc V=>compPost (Μ X.prog X.w) X.A X.xe (Δ (assign (.Name y py) X.env)) (fun _ s'=>SP X pins D .next s') acc V.locals) hc S hg ht he I2 T Lu f2 q ?_ fun _ _ _ _ _ _ _ z=>z.elim;intro D' C s' H' ⟨m,hn⟩ I' F' q' V hV _;subst hV;obtain⟨f0,f1,f2,f3,f4,f5⟩:=F';show Κ _ X.A (assign (.Name y py) X.env (.ref D')) _ _ _;refine wpAny_assign_Name (jA I' hN Xd (.inl hy) (show RelV (.ref D') (.ref D') from rfl) (fun Ka Xe ⟨a,sb,ha⟩=>?_) (.inr hy));have Xf:V.locals≠a:=by
  rcases ha with rfl|ha
  ·exact f1
  ·exact fun z=>f4 y a ha z.symm
 refine⟨m,hn.sameBut sb Xf,fun h' Xg=>⟨_,H',Xe.turned (t':=Ka.toks) (fun b o hb e=>(Xg.2 b hb).trans e) f0 f1 f3 f4 f5,q'⟩⟩
end
open PySem.SeqAt
section
variable {prog:Ε}{w:Β}{A:Ι}{E:Ψ->Α->Prop}{s:Α}
theorem ng:typeLookup (.type "list_reverseiterator") "__len__" = pure Φ:=by rw[typeLookup_type,builtinLookup_eq_fast];kernel_rfl
theorem qT:typeLookup (.type "list_reverseiterator") "__length_hint__" = pure (Δ (.builtin "list_reverseiterator.__length_hint__")):=by rw[typeLookup_type,builtinLookup_eq_fast];kernel_rfl
theorem iE {I l:Ω}{i:Int}{Q:Bool->Α->Prop}(hit:s.heap.IsRevIter I l i)(h:Q Ξ s):Κ (Μ prog w) A (Builtin.List.listLengthHint (.ref I)) Q E s:=by
 unfold Builtin.List.listLengthHint;refine a_ (wpAny_specialOf hit.typeIs ng ?_);show Κ _ A (specialOf (θ I) (Ρ "__length_hint__") >>= _) _ _ _;refine a_ (wpAny_specialOf hit.typeIs qT ?_);generalize KD:("list_reverseiterator.__length_hint__" : String)=Rg
 wp_delta
 rw[show splitId Rg=Δ ("list_reverseiterator","__length_hint__") from by subst KD;decide +kernel];subst KD;refine a_ (wpAny_isInstance (T:="list_reverseiterator") (b:=Θ) hit.typeIs (by rw[isSubtype_type];kernel_rfl) ?_);refine wpAny_ite_split (fun JK=>absurd JK (by decide)) (fun _=>?_);refine wpAny_ite_split (fun _=>?_) (fun JK=>absurd (by decide +kernel) JK);refine wpAny_ite_split (fun JK=>absurd JK (by decide +kernel)) (fun _=>?_);exact e_ h
theorem gR {R:Result->Α->Prop}(hh:A.handled=Φ)(I l S:Ω)(items:Array Ψ)(Hg:l≠I)(res:Ψ)(c₀:Nat)(hit:s.heap.IsRevIter I l ((items.size:Int) - 1))(hl:s.heap.IsList l items)(UN:S≠I)(Xh:S≠l)
  (hS:s.heap.get? S=Δ {cls:=.type "list",data:=.seq #[] c₀})
  (hR:∀ h' tk GC c',(∀ b o,b≠S->b≠I->s.heap.get? b=Δ o->h'.get? b=Δ o)->h'.get? S=Δ {cls:=.type "list",dict:=Φ,data:=.seq GC c',slots:=#[]}->
   ItemsOf (fun i v=>items[items.size - 1 - i]? = Δ v) GC items.size->R (.ok (.ret res)) {s with heap:=h',toks:=tk}) (hn:items.size<=Ζ) :
  Κ (Μ prog w) A.in1 (Χ (.ref S) (.ref I) res)
   (fun fin s'=>match fin with|.done f=>R (.ok f) s'|.again c'=>c'.quiet=Θ/\codeAny (Μ prog w) A c' R s') (fun e s'=>R (.error e) s') s:=by
 have Xi:S∉[I,l]:=fun hm=>by
  rcases k_.mp hm with e|hm
  ·exact UN e
  ·exact Xh (t_.mp hm)
 unfold Χ;refine a_ (wpAny_typeOf hit.typeIs ?_);have h1:Builtin.List.listSameRef (.ref S) (.ref I)=Ξ:=by simp[Builtin.List.listSameRef,UN]
 have h2:(Value.type "list_reverseiterator" == Value.type "list")=Ξ:=by decide
 have h3:(Value.type "list_reverseiterator" == Value.type "tuple")=Ξ:=by decide
 simp only[h1,h2,h3,Bool.or_false,aas,if_false];refine a_ (wpAny_pyIter_revIter hit ?_);refine a_ (K_ (iE hit ?_));refine wpAny_ite_split (fun JK=>absurd JK (by decide)) (fun _=>?_);have W:=(Walks.listRev (prog:=prog) (w:=w) (A:=A.in1) hh I l Hg items).toS;refine e_ ⟨plainId_quiet F.plain_extend_loop _,codeAny_extend_loopS W hn S Xi res items.size 0 _ #[] c₀ rfl (aaa _) ⟨aaa _,by simpa using hit,hl⟩ hS (ItemsOf.nil _) fun s' GC c' hm Hk F9=>?_⟩;rw[Moved.eq_with hm];refine hR s'.heap s'.toks GC c' (fun b o hb Iw e=>hm.heap b o (fun Me=>?_) e) Hk F9;rcases k_.mp Me with e'|Me
 ·exact hb e'
 ·exact Iw (t_.mp Me)
theorem ju {Q:Ψ->Α->Prop}(hh:A.handled=Φ)(I l:Ω)(items:Array Ψ)(Hg:l≠I)(hit:s.heap.IsRevIter I l ((items.size:Int) - 1))(hl:s.heap.IsList l items)
  (hQ:∀ h' tk GC c',(∀ b o,b≠I->s.heap.get? b=Δ o->h'.get? b=Δ o)->
   h'.get? s.heap.objs.size=Δ {cls:=.type "list",dict:=Φ,data:=.seq GC c',slots:=#[]}->ItemsOf (fun i v=>items[items.size - 1 - i]? = Δ v) GC items.size->Q (.ref s.heap.objs.size) {s with heap:=h',toks:=tk}) (hn:items.size<=Ζ) :
  Κ (Μ prog w) A (call (.type "list") [.ref I]) Q E s:=by
 have ltI:I < s.heap.objs.size:=by obtain⟨o,e,_⟩:=hit;exact i_ e
 have PK:l < s.heap.objs.size:=by obtain⟨o,e,_⟩:=hl;exact i_ e
 refine callType_codes (Q₁:=fun obj FG=>obj=.ref s.heap.objs.size/\FG = {s with heap:=s.heap.push {cls:=.type "list",data:=.seq #[]}}) F.called_list (F.typeCall_list_1 _) F.entry_list_init
  (code_list_new _ ⟨rfl,rfl⟩) fun obj FG JL=>?_
 obtain⟨rfl,rfl⟩:=JL;have hS:(s.heap.push {cls:=.type "list",data:=.seq #[]}).get? s.heap.objs.size=Δ {cls:=.type "list",data:=.seq #[]}:=u_ _ rfl;refine⟨⟨_,hS,rfl⟩,F.args_list_init_2 _ _,?_⟩;show Κ _ _ (do let old <- Builtin.List.listItems (.ref s.heap.objs.size);Builtin.List.listUpdate (.ref s.heap.objs.size) (fun _=>#[]);letGo old.toList.reverse;Χ (.ref s.heap.objs.size) (.ref I) .none) _ _ _;refine a_ ?_;unfold Builtin.List.listItems;refine a_ (W_ hS rfl (e_ ?_));show Κ _ _ (updateSeq s.heap.objs.size (fun _=>#[]) >>= fun _=>letGo (#[]:Array Ψ).toList.reverse >>= fun _=>Χ (.ref s.heap.objs.size) (.ref I) .none) _ _ _;refine a_ (wpAny_updateSeq hS rfl ?_);have HR:=aaq (ι (fun _=>(#[]:Array Ψ))) hS rfl;have G2:∀ b o,b≠s.heap.objs.size->s.heap.get? b=Δ o->((s.heap.push {cls:=.type "list",data:=.seq #[]}).update s.heap.objs.size (ι (fun _=>(#[]:Array Ψ)))).get? b=Δ o:=
  fun b o hb e=>(aah _ _ (Ne.symm hb)).trans (l_ _ e)
 refine a_ (wpAny_letGo ?_);refine gR (A:=A.in1) hh I l _ items Hg .none _ (hit.at fun o e=>G2 I o (m_ ltI) e) (hl.at fun o e=>G2 l o (m_ PK) e) (O_ ltI) (O_ PK) HR (fun h' tk GC c' hk Hk F9=>?_) hn;exact⟨rfl,hQ h' tk GC c' (fun b o hb e=>hk b o (m_ (i_ e)) hb (G2 b o (m_ (i_ e)) e)) Hk F9⟩
end
section
variable {X:Cx}{e:Expr}{t:TE}{p p' pos pos':Pos}
theorem Vals.rev:∀ {xs:List V}{us:List Ψ},Vals xs us->Vals xs.reverse us.reverse
 | [],[],_=>.nil
 | x::xs,u::us,.cons r rs=>by rw[List.reverse_cons,List.reverse_cons];exact(Vals.rev rs).append (.cons r .nil)
theorem vN (hc:X.calm=Θ)(g1:Gl X "list") (m1:X.mg "list" = Φ) (g2:Gl X "reversed") (m2:X.mg "reversed" = Φ) (he:PE X e t) (Gn:∀ es,Ν (e::es) X.env=(Ξ,eval e X.env)::Ν es X.env) :
  PE X (.Call (.Name "list" p) [.Call (.Name "reversed" p') [e] [] pos'] [] pos) (fun σ H Q=>t σ H fun v H1=>∃ l ys,v=.ref l/\Gu X.K H1 l ys/\∀ q,H1 q=Φ->Q (.ref q) (upd H1 q (.lst ys.reverse))):=by
 intro pins s σ H Q I h;refine aaF (eV (u:=.type "list") I g1 m1 (by decide +kernel) ?_ (by decide) (by decide));refine aay ?_ rfl rfl;show Κ _ _ (spliced ((Ξ,eval (.Call (.Name "reversed" p') [e] [] pos') X.env)::backTo pos (Ν [] X.env))) _ _ s;have key:Κ (Μ X.prog X.w) X.A (eval (.Call (.Name "reversed" p') [e] [] pos') X.env) (fun u s1=>∃ s0 l ys its H1,Inv X pins σ H1 s0/\Vals ys its/\s0.heap.IsList l its.toArray/\ys.length<=Ζ/\u=.ref s0.heap.objs.size/\s1 = {s0 with heap:=s0.heap.push (revObj l ((its.toArray.size:Int) - 1))}/\∀ q,H1 q=Φ->Q (.ref q) (upd H1 q (.lst ys.reverse))) X.xe s:=by refine aaF (eV (u:=.type "reversed") I g2 m2 (by decide +kernel) ?_ (by decide) (by decide));refine aay ?_ (Gn []) rfl;rw[Gn []];show Κ _ _ (spliced ((Ξ,eval e X.env)::backTo pos' (Ν [] X.env))) _ _ s;refine Calls.spliced_cons (FP (he pins s σ H _ I h) fun u s1 ⟨x,H1,I1,r1,l,ys,ex,hq,q1⟩=>?_);subst ex;cases r1;refine Calls.spliced_nil ?_;obtain⟨its,r',pl,hz⟩:=I1.list hq;exact call_reversed_list pl.isList ⟨s1,l,ys,its,H1,I1,r',pl.isList,hz,rfl,rfl,q1⟩
 refine Calls.spliced_cons (FP key fun u s1 ⟨s0,l,ys,its,H1,I1,rv,hl,hz,eu,es,q1⟩=>?_);subst eu es;refine Calls.spliced_nil ?_;have hlen:=rv.length;have PK:l < s0.heap.objs.size:=by obtain⟨o,e,_⟩:=hl;exact i_ e
 have hit:(s0.heap.push (revObj l ((its.toArray.size:Int) - 1))).IsRevIter s0.heap.objs.size l ((its.toArray.size:Int) - 1):=⟨_,u_ _ rfl,rfl,rfl⟩
 have Rh:(s0.heap.push (revObj l ((its.toArray.size:Int) - 1))).IsList l its.toArray:=hl.at fun o e=>l_ _ e;have hsz:(s0.heap.push (revObj l ((its.toArray.size:Int) - 1))).objs.size=s0.heap.objs.size+1:=S_ ..;refine ju (s:={s0 with heap:=s0.heap.push (revObj l ((its.toArray.size:Int) - 1))}) (show X.A.handled=Φ from I.ok.hd hc) s0.heap.objs.size l its.toArray (m_ PK) hit Rh (fun h' tk GC c' kp e F9=>?_) (by simp only[A_]<;>omega);have ha:GC=(its.reverse).toArray:=by
  apply Array.ext
  ·rw[F9.1];simp
  ·intro i h1 h2;have:=F9.2 i GC[i] (Array.getElem?_eq_getElem h1);rw[F9.1] at h1;have h3:i < its.length:=by simpa using h1
   simp only[A_,List.getElem?_toArray] at this;rw[y_ (by omega)] at this;have:=F_ this;rw[<- this];simp[List.getElem_reverse]
 subst ha;exact⟨.ref _,_,I1.laid (t':=tk) (fun b o e=>kp b o (m_ (i_ e)) (l_ _ e)) (by show s0.heap.objs.size<=(s0.heap.push _).objs.size;rw[hsz];exact Nat.le_succ _) (show cX X.prog X.w _ h' _ (.lst ys.reverse) from ⟨by simpa using hz,its.reverse,c',rv.rev,e⟩),rfl,q1 _ (I1.FN.fresh (by show s0.heap.objs.size<=(s0.heap.push _).objs.size;rw[hsz];exact Nat.le_succ _))⟩
end
section
variable {X:Cx}
theorem lC {x:Str}{n:Int}(h0 : -16000<=n)(h1:n<=16000)(hx:x.length<=1000):MulOk x n:=by
 refine⟨?_,fun hn _=>?_,fun hn _=>?_⟩
 ·rw[Bool.or_eq_false_iff];exact⟨Q_ (by omega),Q_ (by omega)⟩
 ·have:(1000:Int)<=(2 ^ 63 - 1) / n:=Int.le_ediv_of_mul_le (by omega) (by omega);omega
 ·have:x.length*n.toNat<=1000*16000:=Nat.mul_le_mul hx (by omega);unfold Builtin.Str.tooLong;exact Q_ (by rw[sizeLine_eq];omega)
theorem nh:HH X (binaryOp .Mult) (fun x y H Q=>∃ i j,x=.str i/\y=.int j/\-16000<=j/\j<=16000/\i.length<=1000/\Q (.str (Txt.mul i j)) H):=by intro pins s σ H x y v u Q I rx ry h;obtain⟨i,j,rfl,rfl,h0,h1,hz,q⟩:=h;obtain⟨t,rfl⟩:=rx;obtain⟨t',rfl⟩:=ry;exact SB.mul (lC h0 h1 hz) fun t' tk=>⟨.str (Txt.mul i j),H,I.tok _,⟨_,rfl⟩,q⟩
noncomputable def eW (z:Str):List V:=z.cps.toList.map fun c=>.str ⟨#[c]⟩
theorem iF {z:Str}{GC:Array Ψ}(F9:ItemsOf (SignAt z) GC z.cps.size):Vals (eW z) GC.toList:=by
 have hl:GC.toList.length=z.cps.toList.length:=by rw[N_,N_,F9.1]
 have key:∀ (cs:List Nat) (vs:List Ψ),vs.length=cs.length->(∀ (i:Nat) (v:Ψ),vs[i]? = Δ v->∃ c u,cs[i]? = Δ c/\v=Value.str ⟨#[c]⟩ u)->Vals (cs.map fun c=>V.str ⟨#[c]⟩) vs:=by
  intro cs
  induction cs with
  | nil=>
   intro vs hl _;cases vs with
   | nil=>exact .nil
   | cons _ _=>cases hl
  | cons c cs ih=>
   intro vs hl hv;cases vs with
   | nil=>cases hl
   | cons v vs=>
    obtain⟨c',u,e1,e2⟩:=hv 0 v rfl;have PJ:c=c':=by simpa using e1
    subst PJ e2;exact .cons ⟨u,rfl⟩ (ih vs (by simpa using hl) fun i w hw=>by simpa using hv (i+1) w (by simpa using hw))
 refine key _ _ hl fun i v hv=>?_;obtain⟨c,u,e1,e2⟩:=F9.2 i v (by rw[<- aat];exact hv);exact⟨c,u,by rw[aat];exact e1,e2⟩
theorem fU (hc:X.calm=Θ):dJ X (.type "list") (fun xs H Q=>∃ z:Str,xs=[.str z]/\z.length<=Ζ/\∀ l,H l=Φ->Q (.ref l) (upd H l (.lst (eW z)))):=by intro pins s σ H xs us Q I r h;obtain⟨z,rfl,hz,q⟩:=h;obtain⟨u,rfl,t,rfl⟩:=vals1 r;refine call_list_str (show X.A.handled=Φ from I.ok.hd hc) z t (fun h' tk GC c' kp e F9=>?_) hz;have rv:=iF F9;exact⟨.ref _,_,I.laid (t':=tk) kp (n_ _) (show cX X.prog X.w _ h' _ (.lst (eW z)) from ⟨by unfold eW;simpa[Str.length] using hz,GC.toList,c',rv,by simpa using e⟩),rfl,q _ (I.FN.fresh (n_ _))⟩
theorem iG (hc:X.calm=Θ):dJ X (.type "tuple") (fun xs H Q=>∃ z:Str,xs=[.str z]/\z.length<=Ζ/\∀ l,H l=Φ->Q (.ref l) (upd H l (.tup (eW z)))):=by intro pins s σ H xs us Q I r h;obtain⟨z,rfl,hz,q⟩:=h;obtain⟨u,rfl,t,rfl⟩:=vals1 r;refine call_tuple_str (hsz:=hz) (show X.A.handled=Φ from I.ok.hd hc) z t (fun h' tk acc kp F9=>?_);have rv:=iF F9;have I1:Inv X pins σ H {s with heap:=h',toks:=tk}:=I.kept (t':=tk) kp;exact⟨.ref _,_,I1.laid (t':=tk) (fun b o e=>l_ _ e) (n_ _) (show cX X.prog X.w _ _ _ (.tup (eW z)) from ⟨by unfold eW;simpa[Str.length] using hz,acc.toList,rv,by simpa using IsTup.new h' acc⟩),rfl,q _ (I1.FN.fresh (n_ _))⟩
end
open PySem.W
open PySem.Builtin PySem.Builtin.Str
end L2
namespace L2.Zp
open PySem
inductive Kq where
 | l|t
def Sq (k:Kq)(h:Heap)(a:Ω)(xs:Array Ψ):Prop:=match k with
 | .l=>h.IsList a xs
 | .t=>h.IsTuple a xs
def It (k:Kq)(h:Heap)(i a:Ω)(n:Nat):Prop:=match k with
 | .l=>h.IsListIter i a n
 | .t=>h.IsTupleIter i a n
theorem Sq.to {k:Kq}{h h':Heap}{a:Ω}{xs:Array Ψ}(q:Sq k h a xs)(e:∀ o,h.get? a=Δ o->h'.get? a=Δ o):Sq k h' a xs:=by
 cases k with
 | l=>obtain⟨o,ho,r⟩:=q;exact⟨o,e o ho,r⟩
 | t=>obtain⟨o,ho,r⟩:=q;exact⟨o,e o ho,r⟩
theorem It.to {k:Kq}{h h':Heap}{i a:Ω}{n:Nat}(q:It k h i a n)(e:∀ o,h.get? i=Δ o->h'.get? i=Δ o):It k h' i a n:=by
 cases k with
 | l=>obtain⟨o,ho,r⟩:=q;exact⟨o,e o ho,r⟩
 | t=>obtain⟨o,ho,r⟩:=q;exact⟨o,e o ho,r⟩
theorem It.lt {k:Kq}{h:Heap}{i a:Ω}{n:Nat}(q:It k h i a n):i < h.objs.size:=by
 cases k with
 | l=>obtain⟨o,ho,_⟩:=q;exact i_ ho
 | t=>obtain⟨o,ho,_⟩:=q;exact i_ ho
section
variable {prog:Ε}{w:Β}{A:Ι}{E:Ψ->Α->Prop}{s:Α}
theorem qU {i a:Ω}{n:Nat}{xs:Array Ψ}{x:Ψ}{Q:Ψ->Α->Prop}(c:s.heap.IsTupleIter i a n)(q:s.heap.IsTuple a xs)(hx:xs[n]? = Δ x)
  (k:∀ h',h'.IsTupleIter i a (n+1)->Heap.SameBut i s.heap h'->Q x {s with heap:=h'}):Κ (Μ prog w) A (ζ (.ref i)) Q E s:=by
 have ty:=c.typeIs;obtain⟨oi,gi,ci,di⟩:=c;obtain⟨oa,ga,_,na,da⟩:=q;unfold ζ;refine a_ (wpAny_callSpecial?_slot (name:=Ρ "__next__") ty F.slot_tuple_iterator_next (aab F.slot_tuple_iterator_next ty F.entry_tuple_iterator_next ?_ (F.args_tuple_iterator_next_1 _)));show Κ _ _ (field (.ref i) 0 >>= _) _ _ s;refine a_ (L_ gi di (x:=.ref a) rfl ?_);show Κ _ _ (if (θ a == Value.none)=Θ then _ else _) _ _ s;rw[d_ (by intro z;cases z)];show Κ _ _ (field (.ref i) 1 >>= _) _ _ s;refine a_ (L_ gi di (x:=.int n 0) rfl ?_);show Κ _ _ (seqItems? (.ref a) >>= _) _ _ s;refine a_ (W_ ga da ?_);simp only[aaG,hx];refine a_ (wpAny_setField gi di (by simp) (e_ ⟨x,rfl,e_ (k _ ⟨_,aaq _ gi (Obj.isFreed_of_fields (Obj.data_mapFields di _)),(Obj.cls_mapFields ..).trans ci,?_⟩ (aaz ..))⟩));rw[Obj.data_mapFields di];simp[rawInt]
theorem vO {i a:Ω}{n:Nat}{xs:Array Ψ}{Q:Ψ->Α->Prop}(hh:A.handled=Φ)(c:s.heap.IsTupleIter i a n)(q:s.heap.IsTuple a xs)(hx:xs[n]? = Φ)
  (k:∀ h' e,Heap.ExtBut i s.heap h'->(∃ o,h'.get? e=Δ o/\o.cls=.type "StopIteration")->E (.ref e) {s with heap:=h'}):Κ (Μ prog w) A (ζ (.ref i)) Q E s:=by
 have ty:=c.typeIs;obtain⟨oi,gi,ci,di⟩:=c;obtain⟨oa,ga,_,na,da⟩:=q;unfold ζ;refine a_ (wpAny_callSpecial?_slot (name:=Ρ "__next__") ty F.slot_tuple_iterator_next (aab F.slot_tuple_iterator_next ty F.entry_tuple_iterator_next ?_ (F.args_tuple_iterator_next_1 _)));show Κ _ _ (field (.ref i) 0 >>= _) _ _ s;refine a_ (L_ gi di (x:=.ref a) rfl ?_);show Κ _ _ (if (θ a == Value.none)=Θ then _ else _) _ _ s;rw[d_ (by intro z;cases z)];show Κ _ _ (field (.ref i) 1 >>= _) _ _ s;refine a_ (L_ gi di (x:=.int n 0) rfl ?_);show Κ _ _ (seqItems? (.ref a) >>= _) _ _ s;refine a_ (W_ ga da ?_);simp only[aaG,hx];refine a_ (wpAny_rule (a_ (wpAny_setField gi di (by simp) (a_ ?_))));simp only[newExc,newTuple];refine a_ (aar (a_ (m:=firstArgMember _ _) (wpAny_of_eq (a:=Value.none) (by first|rfl|(simp only[firstArgMember];rfl)) (aar ?_ (by size_fits)))) (by size_fits));simp only[raiseNew];refine a_ (wpAny_handled ?_)
 first|rw[show A.in1.handled=Φ from hh]|rw[hh]
 exact a_ (e_ (wpAny_throw (k _ _ (((aaz ..).extBut.push _).push _) ⟨_,u_ _ rfl,rfl⟩)))
theorem fL {k:Kq}{i a:Ω}{n:Nat}{xs:Array Ψ}{x:Ψ}{Q:Ψ->Α->Prop}(c:It k s.heap i a n)(q:Sq k s.heap a xs)(hx:xs[n]? = Δ x)
  (f:∀ h',It k h' i a (n+1)->Heap.SameBut i s.heap h'->Q x {s with heap:=h'}):Κ (Μ prog w) A (ζ (.ref i)) Q E s:=by
 cases k with
 | l=>exact wpAny_nextOf_list_item c q hx f
 | t=>exact qU c q hx f
theorem kx {k:Kq}{i a:Ω}{n:Nat}{xs:Array Ψ}{Q:Ψ->Α->Prop}(hh:A.handled=Φ)(c:It k s.heap i a n)(q:Sq k s.heap a xs)(hx:xs[n]? = Φ)
  (f:∀ h' e,Heap.ExtBut i s.heap h'->(∃ o,h'.get? e=Δ o/\o.cls=.type "StopIteration")->E (.ref e) {s with heap:=h'}):Κ (Μ prog w) A (ζ (.ref i)) Q E s:=by
 cases k with
 | l=>exact wpAny_nextOf_list_end hh c q hx f
 | t=>exact vO hh c q hx f
end
section
variable {prog:Ε}{w:Β}{A:Ι}{E:Ψ->Α->Prop}{s:Α}
def Kept (z TO i j:Ω)(h h':Heap):Prop:=∀ c o,c≠z->c≠TO->c≠i->c≠j->h.get? c=Δ o->h'.get? c=Δ o
theorem p9 {p q:Kq}{z TI TO i j l m:Ω}{n n':Nat}{xs ys:Array Ψ}{x y a b:Ψ}{Q:Ψ->Α->Prop}(D:ZipApart z TI TO i j l m)(hz:IsZip s.heap z TI TO .none)(hI:IsPair s.heap TI (.ref i) (.ref j))(hO:IsPair s.heap TO a b)
  (ci:It p s.heap i l n) (cj:It q s.heap j m n') (sl:Sq p s.heap l xs) (sm:Sq q s.heap m ys) (hx:xs[n]? = Δ x) (hy:ys[n']? = Δ y)
  (k:∀ h',IsZip h' z TI TO (rawInt s.heap.objs.size)->IsPair h' TO x y->It p h' i l (n+1)->It q h' j m (n' + 1)->IsPair h' s.heap.objs.size x y->h'.objs.size=s.heap.objs.size+1->Kept z TO i j s.heap h'->Q (.ref s.heap.objs.size) {s with heap:=h'}) :
  Κ (Μ prog w) A (Builtin.«zip.__next__» ⟨[.ref z],[]⟩) (fun fin s'=>∃ v,fin=.done (.ret v)/\Q v s') E s:=by
 show Κ _ _ (field (.ref z) 2 >>= _) _ _ _;refine a_ (L_ hz rfl (x:=.bool Ξ) rfl ?_);show Κ _ _ (field (.ref z) 3 >>= _) _ _ _;refine a_ (L_ hz rfl (x:=.ref TI) rfl (a_ (W_ hI rfl ?_)));show Κ _ _ (η (.ref z) >>= _) _ _ _;refine a_ ?_;unfold η;refine a_ (L_ hz rfl (x:=.none) rfl (e_ ?_));simp only[if_true];refine a_ (wpAny_rule (a_ (L_ hz rfl (x:=.ref TO) rfl (a_ (aac hz (by simp) fun h1 z1 e1=>?_)))));have PL:IsZip h1 z TI TO .ellipsis:=z1;refine a_ ?_;simp only[List.zipIdx_cons,List.zipIdx_nil,List.forIn_cons,List.forIn_nil];refine a_ (a_ (wpAny_onRaise ?_));show Κ _ _ (ζ (.ref i) >>= _) _ _ _;refine a_ (fL (ci.to fun o e=>e1.extBut _ _ D.i1z e) (sl.to fun o e=>e1.extBut _ _ D.l1z e) hx fun h2 N0 e2=>e_ ?_);have O2:IsPair h2 TO a b:=e2.extBut _ _ D.TOi1 (e1.extBut _ _ D.TOz hO);refine a_ (W_ O2 rfl (a_ (wpAny_updateSeq_pair O2 fun h3 O3 e3=>?_)));have Xj:IsPair h3 TO x b:=O3;refine a_ (wpAny_letGo (e_ (a_ (a_ (wpAny_onRaise ?_)))));show Κ _ _ (ζ (.ref j) >>= _) _ _ _;refine a_ (fL (cj.to fun o e=>e3.extBut _ _ D.TOi2.symm (e2.extBut _ _ D.i12.symm (e1.extBut _ _ D.i2z e))) (sm.to fun o e=>e3.extBut _ _ D.l2TO (e2.extBut _ _ D.l2i1 (e1.extBut _ _ D.l2z e))) hy fun h4 Xk e4=>e_ ?_);have O4:IsPair h4 TO x b:=e4.extBut _ _ D.TOi2 Xj;refine a_ (W_ O4 rfl (a_ (wpAny_updateSeq_pair O4 fun h5 O5 e5=>?_)));have UO:IsPair h5 TO x y:=O5;refine a_ (wpAny_letGo (e_ (e_ (a_ (W_ UO rfl (a_ (wpAny_newTuple ?_)))))));have sz:h5.objs.size=s.heap.objs.size:=by rw[e5.1,e4.1,e3.1,e2.1,e1.1]
 have z5:IsZip h5 z TI TO .ellipsis:=e5.extBut _ _ D.TOz.symm (e4.extBut _ _ D.i2z.symm (e3.extBut _ _ D.TOz.symm (e2.extBut _ _ D.i1z.symm PL)));have k5:Kept z TO i j s.heap h5:=fun c o c1 c2 c3 c4 e=>e5.extBut _ _ c2 (e4.extBut _ _ c4 (e3.extBut _ _ c2 (e2.extBut _ _ c3 (e1.extBut _ _ c1 e))));have Xl:It p h5 i l (n+1):=N0.to fun o e=>e5.extBut _ _ D.TOi1.symm (e4.extBut _ _ D.i12 (e3.extBut _ _ D.TOi1.symm e));have Xm:It q h5 j m (n' + 1):=Xk.to fun o e=>e5.extBut _ _ D.TOi2.symm e;have lz:z < h5.objs.size:=i_ z5;show Κ _ _ (Builtin.SmallTypes.ownedTupleHandOut (.ref z) (.ref h5.objs.size) >>= _) _ _ _;refine a_ ?_;unfold Builtin.SmallTypes.ownedTupleHandOut;have z6:IsZip (h5.push {cls:=.type "tuple",data:=.seq #[x,y]}) z TI TO .ellipsis:=l_ _ z5;refine a_ (aac z6 (by simp) fun h7 z7 e7=>aac (show IsZip h7 z TI TO (rawInt h5.objs.size) from z7) (by simp) fun h8 z8 e8=>?_);have UP:IsZip h8 z TI TO (rawInt h5.objs.size):=z8;have up:∀ c o,c≠z->h5.get? c=Δ o->h8.get? c=Δ o:=fun c o c1 e=>e8.extBut _ _ c1 (e7.extBut _ _ c1 (l_ _ e));have t8:IsPair h8 h5.objs.size x y:=e8.extBut _ _ (O_ lz) (e7.extBut _ _ (O_ lz) (u_ _ rfl));have s8:h8.objs.size=h5.objs.size+1:=by rw[e8.1,e7.1,S_]
 rw[sz] at UP t8 s8;refine e_ ⟨_,rfl,?_⟩;show Q (.ref h5.objs.size) _;rw[sz];exact k h8 UP (up _ _ D.TOz UO) (Xl.to fun o e=>up _ o D.i1z e) (Xm.to fun o e=>up _ o D.i2z e) t8 s8 fun c o c1 c2 c3 c4 e=>up c o c1 (k5 c o c1 c2 c3 c4 e)
theorem qa {p q:Kq}{z TI TO i j l m:Ω}{n n':Nat}{xs ys:Array Ψ}{a b:Ψ}{Q:PySem.Fin->Α->Prop}(hh:A.handled=Φ)(D:ZipApart z TI TO i j l m)(hz:IsZip s.heap z TI TO .none)(hI:IsPair s.heap TI (.ref i) (.ref j))(hO:IsPair s.heap TO a b)
  (ci:It p s.heap i l n) (cj:It q s.heap j m n') (sl:Sq p s.heap l xs) (sm:Sq q s.heap m ys) (Jd:xs[n]? = Φ∨ys[n']? = Φ)
  (k:∀ h' e,Kept z TO i j s.heap h'->(∃ o,h'.get? e=Δ o/\o.cls=.type "StopIteration")->E (.ref e) {s with heap:=h'}) :
  Κ (Μ prog w) A (Builtin.«zip.__next__» ⟨[.ref z],[]⟩) Q E s:=by
 show Κ _ _ (field (.ref z) 2 >>= _) _ _ _;refine a_ (L_ hz rfl (x:=.bool Ξ) rfl ?_);show Κ _ _ (field (.ref z) 3 >>= _) _ _ _;refine a_ (L_ hz rfl (x:=.ref TI) rfl (a_ (W_ hI rfl ?_)));show Κ _ _ (η (.ref z) >>= _) _ _ _;refine a_ ?_;unfold η;refine a_ (L_ hz rfl (x:=.none) rfl (e_ ?_));simp only[if_true];refine a_ (wpAny_rule (a_ (L_ hz rfl (x:=.ref TO) rfl (a_ (aac hz (by simp) fun h1 z1 e1=>?_)))));have PL:IsZip h1 z TI TO .ellipsis:=z1;refine a_ ?_;simp only[List.zipIdx_cons,List.zipIdx_nil,List.forIn_cons,List.forIn_nil];refine a_ (a_ (wpAny_onRaise ?_));show Κ _ _ (ζ (.ref i) >>= _) _ _ _;cases hx:xs[n]? with
 | none=>
  refine a_ (kx hh (ci.to fun o e=>e1.extBut _ _ D.i1z e) (sl.to fun o e=>e1.extBut _ _ D.l1z e) hx fun h2 e e2 he=>?_);obtain⟨oe,g,c⟩:=he;have z2:IsZip h2 z TI TO .ellipsis:=e2 _ _ D.i1z.symm PL;have ne:e≠z:=fun v=>by rw[v,z2] at g;cases g;simp at c
  exact aac z2 (by simp) fun h3 _ e3=>k h3 e (fun d o c1 _ c3 _ v=>e3.extBut _ _ c1 (e2 _ _ c3 (e1.extBut _ _ c1 v))) ⟨oe,e3.extBut _ _ ne g,c⟩
 | some x=>
  have hy:ys[n']? = Φ:=by
   rcases Jd with v|v
   ·rw[hx] at v;cases v
   ·exact v
  refine a_ (fL (ci.to fun o e=>e1.extBut _ _ D.i1z e) (sl.to fun o e=>e1.extBut _ _ D.l1z e) hx fun h2 N0 e2=>e_ ?_);have O2:IsPair h2 TO a b:=e2.extBut _ _ D.TOi1 (e1.extBut _ _ D.TOz hO);refine a_ (W_ O2 rfl (a_ (wpAny_updateSeq_pair O2 fun h3 O3 e3=>a_ (wpAny_letGo (e_ (a_ (a_ (wpAny_onRaise ?_))))))));show Κ _ _ (ζ (.ref j) >>= _) _ _ _;refine a_ (kx hh (cj.to fun o e=>e3.extBut _ _ D.TOi2.symm (e2.extBut _ _ D.i12.symm (e1.extBut _ _ D.i2z e))) (sm.to fun o e=>e3.extBut _ _ D.l2TO (e2.extBut _ _ D.l2i1 (e1.extBut _ _ D.l2z e))) hy fun h4 e e4 he=>?_);obtain⟨oe,g,c⟩:=he;have z4:IsZip h4 z TI TO .ellipsis:=e4 _ _ D.i2z.symm (e3.extBut _ _ D.TOz.symm (e2.extBut _ _ D.i1z.symm PL));have ne:e≠z:=fun v=>by rw[v,z4] at g;cases g;simp at c
  exact aac z4 (by simp) fun h5 _ e5=>k h5 e (fun d o c1 c2 c3 c4 v=>e5.extBut _ _ c1 (e4 _ _ c4 (e3.extBut _ _ c2 (e2.extBut _ _ c3 (e1.extBut _ _ c1 v))))) ⟨oe,e5.extBut _ _ ne g,c⟩
end
noncomputable def M1:Kq->Ω->Obj
 | .l,a=>{cls:=.type "list_iterator",data:=.fields #[.ref a,.int 0 0]}
 | .t,a=>{cls:=.type "tuple_iterator",data:=.fields #[.ref a,.int 0 0]}
noncomputable def Hi (p:Kq)(h:Heap)(l:Ω):Heap:=h.push (M1 p l)
noncomputable def Hj (p q:Kq)(h:Heap)(l m:Ω):Heap:=(Hi p h l).push (M1 q m)
noncomputable def HI (p q:Kq)(h:Heap)(l m:Ω):Heap:=(Hj p q h l m).push {cls:=.type "tuple",data:=.seq #[.ref h.objs.size,.ref (Hi p h l).objs.size]}
noncomputable def HO (p q:Kq)(h:Heap)(l m:Ω):Heap:=(HI p q h l m).push {cls:=.type "tuple",data:=.seq #[.none,.none]}
noncomputable def HZ (p q:Kq)(h:Heap)(l m:Ω):Heap:=(HO p q h l m).push {cls:=.type "zip",data:=.fields #[.none,.bool Ξ,.bool Ξ,.ref (Hj p q h l m).objs.size,.ref (HI p q h l m).objs.size]}
theorem zX (l m:Ω)(xs ys:Array Ψ):Meets (Builtin.«zip.__new__» ⟨[.type "zip",.ref l,.ref m],[]⟩) (fun _ R s=>Sq .l s.heap l xs/\Sq .l s.heap m ys/\R (.ok (.ret (.ref (HO .l .l s.heap l m).objs.size))) {s with heap:=HZ .l .l s.heap l m}):=
 .of_wp fun prog w A R s h=>by
  obtain⟨hp,g,d,tk,os⟩:=s;obtain⟨q1,q2,h⟩:=h;have sub:=sub_zip;have a1:Heap.IsList (Shared.heap ⟨hp,g,d,tk,os⟩) l xs:=q1;have a2:Heap.IsList (Shared.heap ⟨hp.push {cls:=.type "list_iterator",data:=.fields #[.ref l,.int 0 0]},g,d,tk,os⟩) m ys:=Heap.IsList.push (show hp.IsList m ys from q2) _
  wp_walk using aau a1,aau a2
  exact⟨_,rfl,h⟩
theorem zY (l m:Ω)(xs ys:Array Ψ):Meets (Builtin.«zip.__new__» ⟨[.type "zip",.ref l,.ref m],[]⟩) (fun _ R s=>Sq .l s.heap l xs/\Sq .t s.heap m ys/\R (.ok (.ret (.ref (HO .l .t s.heap l m).objs.size))) {s with heap:=HZ .l .t s.heap l m}):=
 .of_wp fun prog w A R s h=>by
  obtain⟨hp,g,d,tk,os⟩:=s;obtain⟨q1,q2,h⟩:=h;have sub:=sub_zip;have a1:Heap.IsList (Shared.heap ⟨hp,g,d,tk,os⟩) l xs:=q1;have a2:Heap.IsTuple (Shared.heap ⟨hp.push {cls:=.type "list_iterator",data:=.fields #[.ref l,.int 0 0]},g,d,tk,os⟩) m ys:=Heap.IsTuple.push (show hp.IsTuple m ys from q2) _
  wp_walk using aau a1,wpAny_pyIter_tuple a2
  exact⟨_,rfl,h⟩
theorem zZ (l m:Ω)(xs ys:Array Ψ):Meets (Builtin.«zip.__new__» ⟨[.type "zip",.ref l,.ref m],[]⟩) (fun _ R s=>Sq .t s.heap l xs/\Sq .l s.heap m ys/\R (.ok (.ret (.ref (HO .t .l s.heap l m).objs.size))) {s with heap:=HZ .t .l s.heap l m}):=
 .of_wp fun prog w A R s h=>by
  obtain⟨hp,g,d,tk,os⟩:=s;obtain⟨q1,q2,h⟩:=h;have sub:=sub_zip;have a1:Heap.IsTuple (Shared.heap ⟨hp,g,d,tk,os⟩) l xs:=q1;have a2:Heap.IsList (Shared.heap ⟨hp.push {cls:=.type "tuple_iterator",data:=.fields #[.ref l,.int 0 0]},g,d,tk,os⟩) m ys:=Heap.IsList.push (show hp.IsList m ys from q2) _
  wp_walk using wpAny_pyIter_tuple a1,aau a2
  exact⟨_,rfl,h⟩
theorem Aa (l m:Ω)(xs ys:Array Ψ):Meets (Builtin.«zip.__new__» ⟨[.type "zip",.ref l,.ref m],[]⟩) (fun _ R s=>Sq .t s.heap l xs/\Sq .t s.heap m ys/\R (.ok (.ret (.ref (HO .t .t s.heap l m).objs.size))) {s with heap:=HZ .t .t s.heap l m}):=
 .of_wp fun prog w A R s h=>by
  obtain⟨hp,g,d,tk,os⟩:=s;obtain⟨q1,q2,h⟩:=h;have sub:=sub_zip;have a1:Heap.IsTuple (Shared.heap ⟨hp,g,d,tk,os⟩) l xs:=q1;have a2:Heap.IsTuple (Shared.heap ⟨hp.push {cls:=.type "tuple_iterator",data:=.fields #[.ref l,.int 0 0]},g,d,tk,os⟩) m ys:=Heap.IsTuple.push (show hp.IsTuple m ys from q2) _
  wp_walk using wpAny_pyIter_tuple a1,wpAny_pyIter_tuple a2
  exact⟨_,rfl,h⟩
theorem Ab (p q:Kq)(l m:Ω)(xs ys:Array Ψ):Meets (Builtin.«zip.__new__» ⟨[.type "zip",.ref l,.ref m],[]⟩) (fun _ R s=>Sq p s.heap l xs/\Sq q s.heap m ys/\R (.ok (.ret (.ref (HO p q s.heap l m).objs.size))) {s with heap:=HZ p q s.heap l m}):=by
 cases p<;>cases q
 ·exact zX l m xs ys
 ·exact zY l m xs ys
 ·exact zZ l m xs ys
 ·exact Aa l m xs ys
theorem qV {k:Kq}{h h':Heap}{i a:Ω}(e:h'.get? i=Δ (M1 k a)):It k h' i a 0:=by
 cases k with
 | l=>exact⟨_,e,rfl,rfl⟩
 | t=>exact⟨_,e,rfl,rfl⟩
theorem lD (k:Kq)(a:Ω):(M1 k a).isFreed=Ξ:=by cases k<;>rfl
section
variable {prog:Ε}{w:Β}{A:Ι}{E:Ψ->Α->Prop}{s:Α}
theorem IE {p q:Kq}{l m:Ω}{xs ys:Array Ψ}{Q:Ψ->Α->Prop}(h1:Sq p s.heap l xs)(h2:Sq q s.heap m ys)
  (k:∀ h',IsZip h' (s.heap.objs.size+4) (s.heap.objs.size+2) (s.heap.objs.size+3) .none->IsPair h' (s.heap.objs.size+2) (.ref s.heap.objs.size) (.ref (s.heap.objs.size+1))->IsPair h' (s.heap.objs.size+3) .none .none->
   It p h' s.heap.objs.size l 0->It q h' (s.heap.objs.size+1) m 0->h'.objs.size=s.heap.objs.size+5->(∀ c o,s.heap.get? c=Δ o->h'.get? c=Δ o)->Q (.ref (s.heap.objs.size+4)) {s with heap:=h'}) :
  Κ (Μ prog w) A (call (.type "zip") [.ref l,.ref m]) Q E s:=by
 refine callType_new F.called_zip (by decide) (F.typeCall_zip_2 _ _) (F.newCall_zip_2 _ _) (fun obj=>F.args_object_init_3 obj _ _) F.entry_zip_new (Ab p q l m xs ys) ⟨h1,h2,?_⟩;have n1:(Hi p s.heap l).objs.size=s.heap.objs.size+1:=S_ ..;have n2:(Hj p q s.heap l m).objs.size=s.heap.objs.size+2:=(S_ ..).trans (by rw[n1]);have n3:(HI p q s.heap l m).objs.size=s.heap.objs.size+3:=(S_ ..).trans (by rw[n2]);have n4:(HO p q s.heap l m).objs.size=s.heap.objs.size+4:=(S_ ..).trans (by rw[n3]);have n5:(HZ p q s.heap l m).objs.size=s.heap.objs.size+5:=(S_ ..).trans (by rw[n4]);have UQ:∀ c o,(HO p q s.heap l m).get? c=Δ o->(HZ p q s.heap l m).get? c=Δ o:=fun c o e=>l_ _ e;have UR:∀ c o,(HI p q s.heap l m).get? c=Δ o->(HZ p q s.heap l m).get? c=Δ o:=fun c o e=>UQ c o (l_ _ e);have UT:∀ c o,(Hj p q s.heap l m).get? c=Δ o->(HZ p q s.heap l m).get? c=Δ o:=fun c o e=>UR c o (l_ _ e);have UU:∀ c o,(Hi p s.heap l).get? c=Δ o->(HZ p q s.heap l m).get? c=Δ o:=fun c o e=>UT c o (l_ _ e);have g5:(HZ p q s.heap l m).get? (HO p q s.heap l m).objs.size=Δ _:=u_ _ rfl;have g4:(HZ p q s.heap l m).get? (HI p q s.heap l m).objs.size=Δ {cls:=.type "tuple",data:=.seq #[.none,.none]}:=UQ _ _ (u_ _ rfl);have g3:(HZ p q s.heap l m).get? (Hj p q s.heap l m).objs.size=Δ {cls:=.type "tuple",data:=.seq #[.ref s.heap.objs.size,.ref (Hi p s.heap l).objs.size]}:=UR _ _ (u_ _ rfl);have g2:(HZ p q s.heap l m).get? (Hi p s.heap l).objs.size=Δ (M1 q m):=UT _ _ (u_ _ (lD q m));have g1:(HZ p q s.heap l m).get? s.heap.objs.size=Δ (M1 p l):=UU _ _ (u_ _ (lD p l));rw[n2,n3,n4] at g5;rw[n3] at g4;rw[n1,n2] at g3;rw[n1] at g2;show _/\_;rw[n4];exact⟨⟨_,g5,rfl⟩,k _ g5 g3 g4 (qV (h:=s.heap) g1) (qV (h:=s.heap) g2) n5 fun c o e=>UU c o (l_ _ e)⟩
end
section
variable {prog:Ε}{w:Β}{A:Ι}{E:Ψ->Α->Prop}{s:Α}
theorem Jt {p q:Kq}{z TI TO i j l m:Ω}{n n':Nat}{xs ys:Array Ψ}{x y a b:Ψ}{Q:Option Ψ->Α->Prop}(D:ZipApart z TI TO i j l m)(hz:IsZip s.heap z TI TO .none)(hI:IsPair s.heap TI (.ref i) (.ref j))(hO:IsPair s.heap TO a b)
  (ci:It p s.heap i l n) (cj:It q s.heap j m n') (sl:Sq p s.heap l xs) (sm:Sq q s.heap m ys) (hx:xs[n]? = Δ x) (hy:ys[n']? = Δ y)
  (k:∀ h',IsZip h' z TI TO (rawInt s.heap.objs.size)->IsPair h' TO x y->It p h' i l (n+1)->It q h' j m (n' + 1)->IsPair h' s.heap.objs.size x y->h'.objs.size=s.heap.objs.size+1->Kept z TO i j s.heap h'->Q (Δ (.ref s.heap.objs.size)) {s with heap:=h'}) :
  Κ (Μ prog w) A (pyNext (.ref z)) Q E s:=by
 have ty:s.TypeIs (.ref z) "zip":=⟨_,hz,rfl⟩
 unfold pyNext;refine a_ (wpAny_attempt (wpAny_callSpecial?_slot (name:=Ρ "__next__") ty F.slot_zip_next (aab F.slot_zip_next ty F.entry_zip_next ?_ (F.args_zip_next_1 _))));exact p9 D hz hI hO ci cj sl sm hx hy fun h' a1 a2 a3 a4 a5 a6 a7=>e_ (k h' a1 a2 a3 a4 a5 a6 a7)
theorem Ju {p q:Kq}{z TI TO i j l m:Ω}{n n':Nat}{xs ys:Array Ψ}{a b:Ψ}{Q:Option Ψ->Α->Prop}(hh:A.handled=Φ)(D:ZipApart z TI TO i j l m)(hz:IsZip s.heap z TI TO .none)(hI:IsPair s.heap TI (.ref i) (.ref j))(hO:IsPair s.heap TO a b)
  (ci:It p s.heap i l n) (cj:It q s.heap j m n') (sl:Sq p s.heap l xs) (sm:Sq q s.heap m ys) (Jd:xs[n]? = Φ∨ys[n']? = Φ)
  (k:∀ h',Kept z TO i j s.heap h'->Q Φ {s with heap:=h'}):Κ (Μ prog w) A (pyNext (.ref z)) Q E s:=by
 have ty:s.TypeIs (.ref z) "zip":=⟨_,hz,rfl⟩
 unfold pyNext;refine a_ (wpAny_attempt (wpAny_callSpecial?_slot (name:=Ρ "__next__") ty F.slot_zip_next (aab F.slot_zip_next ty F.entry_zip_next (qa hh D hz hI hO ci cj sl sm Jd fun h' e hk he=>?_) (F.args_zip_next_1 _))));obtain⟨o,g,c⟩:=he;exact a_ (wpAny_isInstance (T:="StopIteration") (b:=Θ) ⟨o,g,c⟩ isSubtype_stop (e_ (k _ hk)))
end
end L2.Zp
namespace L2
open PySem PySem.Spec PyProof.Rows
def Je (K:Frag)(H:Hp)(k:Zp.Kq)(a:Ω)(xs:List V):Prop:=match k with
 | .l=>Gu K H a xs
 | .t=>G0 K H a xs
section
variable {X:Cx}{pins:List (Ω×Obj)}{σ:St}{H:Hp}{s:Α}{h':Heap}{k:Zp.Kq}{a:Ω}{xs ys:List V}
theorem Inv.LB (I:Inv X pins σ H s)(h:Je X.K H k a xs):∃ its:List Ψ,Vals xs its/\Zp.Sq k s.heap a its.toArray:=by
 cases k with
 | l=>obtain⟨its,rv,p,hz⟩:=I.list h;exact⟨its,rv,p.isList⟩
 | t=>obtain⟨its,rv,p,hz⟩:=I.tuple h;exact⟨its,rv,p⟩
theorem Inv.Jv (I:Inv X pins σ H s)(h:Je X.K H k a xs)(h':Je X.K H k a ys):xs=ys:=by
 cases k with
 | l=>exact I.Gf h h'
 | t=>exact I.Hd h h'
theorem Inv.turns {t':Nat}{ch:List Ω}(I:Inv X pins σ H s)(k:∀ b o,b∉ch->s.heap.get? b=Δ o->h'.get? b=Δ o)(hf:∀ b∈ch,fR X pins H b):Inv X pins σ H {s with heap:=h',toks:=t'}:=by
 have Ln:∀ b u,H b=Δ u->b∉ch:=fun b u e z=>by rw[(hf b z).1] at e;cases e
 refine I.step (g':=s.gens) (d':=s.drawn) (ch:=ch) (fun b hb=>?_) (fun b o _ _ hc e _=>k b o hc e) (fun b o _ _ hc e _=>⟨o.slots,k b o hc e⟩) (fun _ _ _ _ n=>n)
  (fun b o hc e=>⟨o,k b o hc e⟩) (fun _ _ e=>e) (fun _ _ _ e=>e) (fun b ps e=>⟨#[],by rw[e];simp⟩) (fun m hm=>?_) (fun b u e=>?_) I.bare
 ·obtain⟨f0,f1,f2,f3,f4,f5⟩:=hf b hb;exact⟨f3,f1,f4,f5⟩
 ·obtain⟨o,es,ep,ho,r⟩:=hm;exact⟨o,es,ep,k _ o (fun z=>(hf _ z).2.1 rfl) ho,r⟩
 ·refine(I.FN b u e).Hy (fun c v hc q=>k c v ?_ q) (fun _ q=>q) fun _ _ q=>q;rcases hc with z|z
  ·rw[z];exact Ln b u e
  ·exact Ln c _ z
theorem Inv.Kb {t':Nat}{ch:List Ω}{T:Ω}{ho:HO}(I:Inv X pins σ H s)(k:∀ b o,b∉ch->s.heap.get? b=Δ o->h'.get? b=Δ o)(hf:∀ b∈ch,fR X pins H b)(hp:s.heap.objs.size<=T)(new:cX X.prog X.w (upd H T ho) h' T ho):Inv X pins σ (upd H T ho) {s with heap:=h',toks:=t'}:=by
 have Ln:∀ b u,H b=Δ u->b∉ch:=fun b u e z=>by rw[(hf b z).1] at e;cases e
 have hn:H T=Φ:=I.FN.fresh hp;refine I.step (g':=s.gens) (d':=s.drawn) (ch:=ch) (fun b hb=>?_) (fun b o _ _ hc e _=>k b o hc e) (fun b o _ _ hc e _=>⟨o.slots,k b o hc e⟩) (fun b o _ e n=>by rw[cv (m_ (z_ (i_ e) hp))];exact n)
  (fun b o hc e=>⟨o,k b o hc e⟩) (fun b xs q=>by rw[cv (cN q hn)];exact q) (fun b u xs q=>by rw[cv (cN q hn)];exact q) (fun b ps q=>⟨#[],by rw[cv (cN q hn),q];simp⟩) (fun m hm=>?_) (fun b u e=>?_) I.bare
 ·obtain⟨f0,f1,f2,f3,f4,f5⟩:=hf b hb;exact⟨f3,f1,f4,f5⟩
 ·obtain⟨o,es,ep,ho,r⟩:=hm;exact⟨o,es,ep,k _ o (fun z=>(hf _ z).2.1 rfl) ho,r⟩
 ·by_cases hb:b=T
  ·subst hb;rw[cy] at e;cases e;exact new
  ·rw[cv hb] at e;refine(I.FN b u e).Hy (fun c v hc q=>k c v ?_ q) (fun c q=>by rw[cv (cN q hn)];exact q) fun c xs q=>by rw[cv (cN q hn)];exact q
   rcases hc with z|z
   ·rw[z];exact Ln b u e
   ·exact Ln c _ z
end
noncomputable def Ri (K:Frag)(p q:Zp.Kq)(l m:Ω):It:=
 ⟨fun i H=>∃ xs ys x y,Je K H p l xs/\Je K H q m ys/\xs[i]? = Δ x/\ys[i]? = Δ y,
  fun i H v H'=>∃ T a b,v=.ref T/\H T=Φ/\H'=upd H T (.tup [a,b])/\∀ xs ys,Je K H p l xs->Je K H q m ys->xs[i]? = Δ a/\ys[i]? = Δ b,
  fun i H=>∃ xs ys,Je K H p l xs/\Je K H q m ys/\(xs.length<=i∨ys.length<=i)⟩
theorem Zp.It.obj {k:Zp.Kq}{h:Heap}{i a:Ω}{n:Nat}(c:Zp.It k h i a n):∃ o,h.get? i=Δ o/\∀ v,o.data≠.cell v:=by
 cases k with
 | l=>obtain⟨o,e,c,d⟩:=c;exact⟨o,e,fun v z=>by rw[d] at z;cases z⟩
 | t=>obtain⟨o,e,c,d⟩:=c;exact⟨o,e,fun v z=>by rw[d] at z;cases z⟩
theorem qW {P:Ε}{w:Β}{K:Frag}{es:List Expr}{c:Nat}{pos:Pos}(p q:Zp.Kq)(z TI TO i j l m:Ω)(D:ZipApart z TI TO i j l m) :
  Turn P w K (.Tuple es c pos) (Ri K p q l m) [z,TI,TO,i,j] z (fun n h=>IsZip h z TI TO .none/\IsPair h TI (.ref i) (.ref j)/\(∃ a b,IsPair h TO a b)/\Zp.It p h i l n/\Zp.It q h j m n) where
 mem:=by simp
 obj:=fun n h st b hb=>by
  obtain⟨hz,hI,⟨a,b',hO⟩,ci,cj⟩:=st;simp only[k_,P_,or_false] at hb;rcases hb with rfl|rfl|rfl|rfl|rfl
  ·exact⟨_,hz,fun v z=>by cases z⟩
  ·exact⟨_,hI,fun v z=>by cases z⟩
  ·exact⟨_,hO,fun v z=>by cases z⟩
  ·exact ci.obj
  ·exact cj.obj
 keep:=fun n h h' st k=>by obtain⟨hz,hI,⟨a,b',hO⟩,ci,cj⟩:=st;exact⟨k z (by simp) _ hz,k TI (by simp) _ hI,⟨a,b',k TO (by simp) _ hO⟩,ci.to fun o e=>k i (by simp) o e,cj.to fun o e=>k j (by simp) o e⟩
 item:=by
  intro X hP hw hK hc n pins s σ H E I hf st hg;subst hP hw hK;obtain⟨hz,hI,⟨a,b',hO⟩,ci,cj⟩:=st;obtain⟨xs,ys,x,y,PM,PN,hx,hy⟩:=hg;obtain⟨IF,JM,p1⟩:=I.LB PM;obtain⟨Gr,HS,p2⟩:=I.LB PN;obtain⟨u1,Rj,Rk⟩:=JM.get hx;obtain⟨u2,Xn,Xo⟩:=HS.get hy;refine Zp.Jt D hz hI hO ci cj p1 p2 (x:=u1) (y:=u2) (by simpa using Rj) (by simpa using Xn) fun h1 a1 a2 a3 a4 a5 a6 hk=>?_;refine⟨_,rfl,?_⟩;have lz:z < s.heap.objs.size:=i_ hz;have Xp:s.heap.objs.size≠z:=O_ lz;refine wpAny_letOwnedTupleGo_zip (s:={s with heap:=h1}) a1 fun h2 Ro Iy=>?_;have kk:∀ b o,b∉[z,TI,TO,i,j]->s.heap.get? b=Δ o->h2.get? b=Δ o:=fun b o hb e=>by simp only[k_,P_,or_false,not_or] at hb;exact Iy.extBut _ _ hb.1 (hk b o hb.1 hb.2.2.1 hb.2.2.2.1 hb.2.2.2.2 e)
  have hT:IsPair h2 s.heap.objs.size u1 u2:=Iy.extBut _ _ Xp a5;have I2:Inv X pins σ (upd H s.heap.objs.size (.tup [x,y])) {s with heap:=h2}:=I.Kb (t':=s.toks) kk hf (n_ _) ⟨by show 2<=Ζ;decide,[u1,u2],.cons Rk (.cons Xo .nil),⟨_,hT,rfl,_,rfl⟩⟩;refine⟨.ref s.heap.objs.size,_,I2,rfl,⟨_,x,y,rfl,I.FN.fresh (n_ _),rfl,fun Rp Xq g1 g2=>by rw[I.Jv g1 PM,I.Jv g2 PN];exact⟨hx,hy⟩⟩,⟨Ro,Iy.extBut _ _ D.TIz (hk _ _ D.TIz D.TITO D.TIi1 D.TIi2 hI),⟨_,_,Iy.extBut _ _ D.TOz a2⟩,a3.to fun o e=>Iy.extBut _ _ D.i1z e,a4.to fun o e=>Iy.extBut _ _ D.i2z e⟩,fun b hb=>?_⟩;have Iw:b < s.heap.objs.size:=by
   simp only[k_,P_,or_false] at hb;rcases hb with rfl|rfl|rfl|rfl|rfl
   ·exact lz
   ·exact i_ hI
   ·exact i_ hO
   ·exact ci.lt
   ·exact cj.lt
  rw[cv (m_ Iw)];exact(hf b hb).1
 done:=by
  intro X hP hw hK hc n pins s σ H E I hf st hg;subst hP hw hK;obtain⟨hz,hI,⟨a,b',hO⟩,ci,cj⟩:=st;obtain⟨xs,ys,PM,PN,hx⟩:=hg;obtain⟨IF,JM,p1⟩:=I.LB PM;obtain⟨Gr,HS,p2⟩:=I.LB PN;have l1:=JM.length;have l2:=HS.length
  refine Zp.Ju (I.ok.hd hc) D hz hI hO ci cj p1 p2 (by
   rcases hx with hx|hx
   ·exact .inl (Array.getElem?_eq_none (by simp;omega))
   ·exact .inr (Array.getElem?_eq_none (by simp;omega))) fun h1 hk=>⟨rfl,I.turns (t':=s.toks) (ch:=[z,TI,TO,i,j]) (fun b o hb e=>?_) hf⟩
  simp only[k_,P_,or_false,not_or] at hb;exact hk b o hb.1 hb.2.2.1 hb.2.2.2.1 hb.2.2.2.2 e
 self:=fun _ _ _ _ _ st h=>wpAny_pyIter_zip st.1 h
def EF (K:Frag)(ta:TA):TI:=fun σ H R=>ta σ H fun vs H1=>∃ p q l m xs ys,vs=[.ref l,.ref m]/\Je K H1 p l xs/\Je K H1 q m ys/\R (Ri K p q l m) H1
theorem Zp.Sq.lt {k:Zp.Kq}{h:Heap}{a:Ω}{xs:Array Ψ}(q:Zp.Sq k h a xs):a < h.objs.size:=by
 cases k with
 | l=>obtain⟨o,e,_⟩:=q;exact i_ e
 | t=>obtain⟨o,e,_⟩:=q;exact i_ e
theorem lE (N l m:Nat)(hl:l < N)(hm:m < N):ZipApart (N+4) (N+2) (N+3) N (N+1) l m:=by constructor<;>(intro e;have e':(_:Nat)=(_:Nat):=e;omega)
theorem Ac {X:Cx}{a b:Expr}{ta:TA}{es:List Expr}{c:Nat}{p tp pos:Pos}(hg:Gl X "zip") (hm:X.mg "zip" = Φ) (ha:PA X [a,b] ta) (hs:Ν [a,b] X.env=[(Ξ,eval a X.env),(Ξ,eval b X.env)]) (Iy:Ν [b] X.env=[(Ξ,eval b X.env)]) :
  PI X (.Tuple es c tp) (.Call (.Name "zip" p) [a,b] [] pos) (EF X.K ta):=by
 intro pins s σ H R I h;refine Call_ (eV I hg hm boot_zip (aay (FP (ha pos pins s σ H _ I h) fun us s1 ⟨vs,H1,I1,r1,q1⟩=>?_) (by rw[hs,Iy]) (by rw[Iy];rfl)));obtain⟨k1,k2,l,m,xs,ys,e,g1,g2,q⟩:=q1;subst e;cases r1 with
 | cons r rr=>
  cases rr with
  | cons r' rr=>
   cases rr;cases r;cases r';obtain⟨IF,JM,p1⟩:=I1.LB g1;obtain⟨Gr,HS,p2⟩:=I1.LB g2;have l1:=p1.lt;have l2:=p2.lt;refine Zp.IE p1 p2 fun h2 b1 b2 b3 b4 b5 b6 b7=>?_;refine wpAny_pyIter_zip (s:={s1 with heap:=h2}) b1 ?_;refine⟨s1.heap.objs.size+4,[s1.heap.objs.size+4,s1.heap.objs.size+2,s1.heap.objs.size+3,s1.heap.objs.size,s1.heap.objs.size+1],_,_,H1,rfl,I1.kept (t':=s1.toks) b7,qW k1 k2 _ _ _ _ _ l m (lE _ l m l1 l2),⟨b1,b2,⟨_,_,b3⟩,b4,b5⟩,fun b hb=>?_,q⟩;have Iw:s1.heap.objs.size<=b:=by
    simp only[k_,P_,or_false] at hb;rcases hb with rfl|rfl|rfl|rfl|rfl
    ·exact aak _ _
    ·exact aak _ _
    ·exact aak _ _
    ·exact n_ _
    ·exact aak _ _
   exact I1.Ja Iw (I1.FN.fresh Iw)
end L2
namespace L2.Zp
open PySem
abbrev dX (h:Heap)(z TI TO T:Ω)(f:Bool):Prop:=
 h.get? z=Δ {cls:=.type "zip",dict:=Φ,data:=.fields #[rawInt T,.bool f,.bool Ξ,.ref TI,.ref TO],slots:=#[]}
section
variable {prog:Ε}{w:Β}{A:Ι}{E:Ψ->Α->Prop}{s:Α}
theorem alive {a:Ω}{o:Obj}{Q:Option Obj->Α->Prop}(ho:s.heap.get? a=Δ o)(h:Q (Δ o) s):Κ (Μ prog w) A (loadIfAlive a) Q E s:=by
 have h':Q (s.heap.get? a) s:=by rw[ho];exact h
 exact fun _ _ _=>h'
theorem jI {z TI TO T:Ω}{f:Bool}{oT:Obj}{Q:Bool->Α->Prop}(hz:dX s.heap z TI TO T f)(hT:s.heap.get? T=Δ oT)
  (k:∀ h',dX h' z TI TO T Θ->Heap.SameBut z s.heap h'->Q Ξ {s with heap:=h'}):Κ (Μ prog w) A (η (.ref z)) Q E s:=by
 unfold η;refine a_ (L_ hz rfl (x:=rawInt T) rfl ?_);show Κ _ _ (loadIfAlive ((T:Int).toNat) >>= _) _ _ _;rw[aaG];refine a_ (alive hT ?_);simp only[Option.isNone_some,aas,if_false];refine a_ (L_ hz rfl (x:=.bool f) rfl ?_);cases f with
 | true=>rw[d_ (show ¬ ((Value.bool Θ != Value.bool Θ)=Θ) from o_)];exact e_ (k s.heap hz (Heap.SameBut.refl _ _))
 | false=>rw[f_ (show (Value.bool Ξ != Value.bool Θ)=Θ from rfl)];refine a_ (aac hz (by simp) fun Rq N1 N2=>?_);exact e_ (k Rq N1 N2)
theorem ni {p q:Kq}{z TI TO i j l m T:Ω}{f:Bool}{oT:Obj}{n n':Nat}{xs ys:Array Ψ}{x y:Ψ}{Q:Ψ->Α->Prop}(D:ZipApart z TI TO i j l m)(hz:dX s.heap z TI TO T f)(hT:s.heap.get? T=Δ oT)(hI:IsPair s.heap TI (.ref i) (.ref j))
  (ci:It p s.heap i l n) (cj:It q s.heap j m n') (sl:Sq p s.heap l xs) (sm:Sq q s.heap m ys) (hx:xs[n]? = Δ x) (hy:ys[n']? = Δ y)
  (k:∀ h',dX h' z TI TO T Θ->It p h' i l (n+1)->It q h' j m (n' + 1)->IsPair h' s.heap.objs.size x y->h'.objs.size=s.heap.objs.size+1->(∀ c o,c≠z->c≠i->c≠j->s.heap.get? c=Δ o->h'.get? c=Δ o)->Q (.ref s.heap.objs.size) {s with heap:=h'}) :
  Κ (Μ prog w) A (Builtin.«zip.__next__» ⟨[.ref z],[]⟩) (fun fin s'=>∃ v,fin=.done (.ret v)/\Q v s') E s:=by
 show Κ _ _ (field (.ref z) 2 >>= _) _ _ _;refine a_ (L_ hz rfl (x:=.bool Ξ) rfl ?_);show Κ _ _ (field (.ref z) 3 >>= _) _ _ _;refine a_ (L_ hz rfl (x:=.ref TI) rfl (a_ (W_ hI rfl ?_)));show Κ _ _ (η (.ref z) >>= _) _ _ _;refine a_ (jI hz hT fun h1 z1 e1=>?_);simp only[aas,if_false];refine a_ ?_;rw[<- Array.forIn_toList];simp only[List.forIn_cons,List.forIn_nil];refine a_ (a_ (K_ ?_));show Κ _ _ (ζ (.ref i) >>= _) _ _ _;refine a_ (fL (ci.to fun o e=>e1.extBut _ _ D.i1z e) (sl.to fun o e=>e1.extBut _ _ D.l1z e) hx fun h2 N0 e2=>e_ (e_ (a_ (a_ (K_ ?_)))));show Κ _ _ (ζ (.ref j) >>= _) _ _ _;refine a_ (fL (cj.to fun o e=>e2.extBut _ _ D.i12.symm (e1.extBut _ _ D.i2z e)) (sm.to fun o e=>e2.extBut _ _ D.l2i1 (e1.extBut _ _ D.l2z e)) hy fun h3 Xr e3=>e_ (e_ (e_ (a_ (wpAny_newTuple ?_ (hsz:=by show 2<=Ζ;decide))))));have sz:h3.objs.size=s.heap.objs.size:=by rw[e3.1,e2.1,e1.1]
 have z3:dX h3 z TI TO T Θ:=e3.extBut _ _ D.i2z.symm (e2.extBut _ _ D.i1z.symm z1);refine e_ ⟨_,rfl,?_⟩;show Q (.ref h3.objs.size) _;rw[sz];have up:∀ c o,h3.get? c=Δ o->(h3.push {cls:=.type "tuple",data:=.seq #[x,y]}).get? c=Δ o:=fun c o e=>l_ _ e;refine k _ (up _ _ z3) ((N0.to fun o e=>e3.extBut _ _ D.i12 e).to fun o e=>up _ o e) (Xr.to fun o e=>up _ o e) ?_ (by rw[S_,sz]) fun c o c1 c2 c3 e=>up c o (e3.extBut _ _ c3 (e2.extBut _ _ c2 (e1.extBut _ _ c1 e)));show (h3.push _).get? s.heap.objs.size=_;rw[<- sz];exact u_ _ rfl
theorem nj {p q:Kq}{z TI TO i j l m T:Ω}{f:Bool}{oT:Obj}{n n':Nat}{xs ys:Array Ψ}{Q:PySem.Fin->Α->Prop}(hh:A.handled=Φ)(D:ZipApart z TI TO i j l m)(hz:dX s.heap z TI TO T f)(hT:s.heap.get? T=Δ oT)(hI:IsPair s.heap TI (.ref i) (.ref j))
  (ci:It p s.heap i l n) (cj:It q s.heap j m n') (sl:Sq p s.heap l xs) (sm:Sq q s.heap m ys) (Jd:xs[n]? = Φ∨ys[n']? = Φ)
  (k:∀ h' e,(∀ c o,c≠z->c≠i->c≠j->s.heap.get? c=Δ o->h'.get? c=Δ o)->(∃ o,h'.get? e=Δ o/\o.cls=.type "StopIteration")->E (.ref e) {s with heap:=h'}) :
  Κ (Μ prog w) A (Builtin.«zip.__next__» ⟨[.ref z],[]⟩) Q E s:=by
 show Κ _ _ (field (.ref z) 2 >>= _) _ _ _;refine a_ (L_ hz rfl (x:=.bool Ξ) rfl ?_);show Κ _ _ (field (.ref z) 3 >>= _) _ _ _;refine a_ (L_ hz rfl (x:=.ref TI) rfl (a_ (W_ hI rfl ?_)));show Κ _ _ (η (.ref z) >>= _) _ _ _;refine a_ (jI hz hT fun h1 z1 e1=>?_);simp only[aas,if_false];refine a_ ?_;rw[<- Array.forIn_toList];simp only[List.forIn_cons,List.forIn_nil];refine a_ (a_ (K_ ?_));show Κ _ _ (ζ (.ref i) >>= _) _ _ _;cases hx:xs[n]? with
 | none=>refine a_ (kx hh (ci.to fun o e=>e1.extBut _ _ D.i1z e) (sl.to fun o e=>e1.extBut _ _ D.l1z e) hx fun h2 e e2 he=>?_);exact k h2 e (fun c o c1 c2 c3 g=>e2 _ _ c2 (e1.extBut _ _ c1 g)) he
 | some x=>have hy:ys[n']? = Φ:=Jd.resolve_left (by rw[hx];simp);refine a_ (fL (ci.to fun o e=>e1.extBut _ _ D.i1z e) (sl.to fun o e=>e1.extBut _ _ D.l1z e) hx fun h2 N0 e2=>e_ (e_ (a_ (a_ (K_ ?_)))));show Κ _ _ (ζ (.ref j) >>= _) _ _ _;refine a_ (kx hh (cj.to fun o e=>e2.extBut _ _ D.i12.symm (e1.extBut _ _ D.i2z e)) (sm.to fun o e=>e2.extBut _ _ D.l2i1 (e1.extBut _ _ D.l2z e)) hy fun h3 e e3 he=>?_);exact k h3 e (fun c o c1 c2 c3 g=>e3 _ _ c3 (e2.extBut _ _ c2 (e1.extBut _ _ c1 g))) he
theorem qX {p q:Kq}{z TI TO i j l m T:Ω}{f:Bool}{oT:Obj}{n n':Nat}{xs ys:Array Ψ}{x y:Ψ}{Q:Option Ψ->Α->Prop}(D:ZipApart z TI TO i j l m)(hz:dX s.heap z TI TO T f)(hT:s.heap.get? T=Δ oT)(hI:IsPair s.heap TI (.ref i) (.ref j))
  (ci:It p s.heap i l n) (cj:It q s.heap j m n') (sl:Sq p s.heap l xs) (sm:Sq q s.heap m ys) (hx:xs[n]? = Δ x) (hy:ys[n']? = Δ y)
  (k:∀ h',dX h' z TI TO T Θ->It p h' i l (n+1)->It q h' j m (n' + 1)->IsPair h' s.heap.objs.size x y->h'.objs.size=s.heap.objs.size+1->(∀ c o,c≠z->c≠i->c≠j->s.heap.get? c=Δ o->h'.get? c=Δ o)->Q (Δ (.ref s.heap.objs.size)) {s with heap:=h'}) :
  Κ (Μ prog w) A (pyNext (.ref z)) Q E s:=by
 have ty:s.TypeIs (.ref z) "zip":=⟨_,hz,rfl⟩
 unfold pyNext;refine a_ (wpAny_attempt (wpAny_callSpecial?_slot (name:=Ρ "__next__") ty F.slot_zip_next (aab F.slot_zip_next ty F.entry_zip_next ?_ (F.args_zip_next_1 _))));exact ni D hz hT hI ci cj sl sm hx hy fun h' a1 a2 a3 a4 a5 a6=>e_ (k h' a1 a2 a3 a4 a5 a6)
theorem qY {p q:Kq}{z TI TO i j l m T:Ω}{f:Bool}{oT:Obj}{n n':Nat}{xs ys:Array Ψ}{Q:Option Ψ->Α->Prop}(hh:A.handled=Φ)(D:ZipApart z TI TO i j l m)(hz:dX s.heap z TI TO T f)(hT:s.heap.get? T=Δ oT)(hI:IsPair s.heap TI (.ref i) (.ref j))
  (ci:It p s.heap i l n) (cj:It q s.heap j m n') (sl:Sq p s.heap l xs) (sm:Sq q s.heap m ys) (Jd:xs[n]? = Φ∨ys[n']? = Φ)
  (k:∀ h',(∀ c o,c≠z->c≠i->c≠j->s.heap.get? c=Δ o->h'.get? c=Δ o)->Q Φ {s with heap:=h'}):Κ (Μ prog w) A (pyNext (.ref z)) Q E s:=by
 have ty:s.TypeIs (.ref z) "zip":=⟨_,hz,rfl⟩
 unfold pyNext;refine a_ (wpAny_attempt (wpAny_callSpecial?_slot (name:=Ρ "__next__") ty F.slot_zip_next (aab F.slot_zip_next ty F.entry_zip_next (nj hh D hz hT hI ci cj sl sm Jd fun h' e hk he=>?_) (F.args_zip_next_1 _))));obtain⟨o,g,c⟩:=he;exact a_ (wpAny_isInstance (T:="StopIteration") (b:=Θ) ⟨o,g,c⟩ isSubtype_stop (e_ (k _ hk)))
structure St (z TI TO i j l m:Ω)(p q:Kq)(xs ys:Array Ψ)(n:Nat)(b:Nat)(Ts:List Ω)(h:Heap):Prop where
 zp:IsZip h z TI TO .none∨∃ T f,dX h z TI TO T f/\T∈Ts
 I:IsPair h TI (.ref i) (.ref j)
 O:∃ a b,IsPair h TO a b
 ci:It p h i l n
 cj:It q h j m n
 sl:Sq p h l xs
 sm:Sq q h m ys
 len:Ts.length=n
 nd:Ts.Nodup
 at_:∀ (k:Nat) (T:Ω),Ts[k]? = Δ T->b<=T/\∃ x y,xs[k]? = Δ x/\ys[k]? = Δ y/\IsPair h T x y
theorem loop {p q:Kq}{z TI TO i j l m S:Ω}{xs ys:Array Ψ}{R:Result->Α->Prop}{b:Nat}(hh:A.handled=Φ)(D:ZipApart z TI TO i j l m)(res:Ψ)(hn:min xs.size ys.size<=Ζ)(bz:z < b)(bI:TI < b)(bO:TO < b)(bi:i < b)(bj:j < b)(bl:l < b)(bm:m < b)(bS:S < b)(Sz:S≠z)(SI:S≠TI)(SO:S≠TO)(Si:S≠i)(Sj:S≠j)(Sl:S≠l)(Sm:S≠m) :
  ∀ (k n:Nat) (s:Α) (Ts:List Ω) (c:Nat),min xs.size ys.size - n=k->n<=min xs.size ys.size->St z TI TO i j l m p q xs ys n b Ts s.heap->b<=s.heap.objs.size->s.heap.get? S=Δ {cls:=.type "list",dict:=Φ,data:=.seq (Ts.map θ).toArray c,slots:=#[]}->
  (∀ (h':Heap) (tk:Nat) (HU:List Ω) (c':Nat),(∀ a o,a≠z->a≠TO->a≠i->a≠j->a≠S->s.heap.get? a=Δ o->h'.get? a=Δ o)->h'.get? S=Δ {cls:=.type "list",dict:=Φ,data:=.seq (HU.map θ).toArray c',slots:=#[]}->HU.length=min xs.size ys.size->HU.Nodup->(∀ (k:Nat) (T:Ω),HU[k]? = Δ T->b<=T/\∃ x y,xs[k]? = Δ x/\ys[k]? = Δ y/\IsPair h' T x y)->R (.ok (.ret res)) {s with heap:=h',toks:=tk})->
  codeAny (Μ prog w) A (.builtin "list.extend.loop" ⟨[.ref S,.ref z,res],[]⟩) R s:=by
 intro k
 induction k with
 | zero=>
  intro n s Ts c hk hi st hb hS hR;have IV:n=min xs.size ys.size:=by omega
  subst IV;refine codeAny_builtin F.entry_extend_loop ?_;rw[aaH F.plain_extend_loop _];show Κ _ A.in1 (pyNext (.ref z) >>= _) _ _ s;have he:xs[min xs.size ys.size]? = Φ∨ys[min xs.size ys.size]? = Φ:=by
   by_cases h:xs.size<=ys.size
   ·exact .inl (Array.getElem?_eq_none (by omega))
   ·exact .inr (Array.getElem?_eq_none (by omega))
  have fin:∀ h',(∀ a o,a≠z->a≠TO->a≠i->a≠j->s.heap.get? a=Δ o->h'.get? a=Δ o)->R (.ok (.ret res)) {s with heap:=h'}:=fun h' kp=>by
   refine hR h' s.toks Ts c (fun a o a1 a2 a3 a4 _ e=>kp a o a1 a2 a3 a4 e) (kp S _ Sz SO Si Sj hS) st.len st.nd fun k T e=>?_;obtain⟨t1,x,y,t2,t3,t4⟩:=st.at_ k T e;have ne:∀ a,a < b->T≠a:=fun a ha z=>by rw[z] at t1;omega
   exact⟨t1,x,y,t2,t3,kp T _ (ne z bz) (ne TO bO) (ne i bi) (ne j bj) t4⟩
  obtain⟨a,b',hO⟩:=st.O;rcases st.zp with hz|⟨T,f,hz,hT⟩
  ·refine a_ (Ju (A:=A.in1) hh D hz st.I hO st.ci st.cj st.sl st.sm he fun h' kp=>?_);exact e_ (fin h' fun a o a1 a2 a3 a4 e=>kp a o a1 a2 a3 a4 e)
  ·obtain⟨k,K2⟩:=aaA.mp hT;obtain⟨_,x,y,_,_,Mf⟩:=st.at_ k T K2;refine a_ (qY (A:=A.in1) hh D hz Mf st.I st.ci st.cj st.sl st.sm he fun h' kp=>?_);exact e_ (fin h' fun a o a1 _ a3 a4 e=>kp a o a1 a3 a4 e)
 | succ k ih=>
  intro n s Ts c hk hi st hb hS hR;have F0:n < min xs.size ys.size:=by omega
  have b1:n < xs.size:=z_ F0 (Nat.min_le_left ..);have b2:n < ys.size:=z_ F0 (Nat.min_le_right ..);have g1:=Array.getElem?_eq_getElem b1;have g2:=Array.getElem?_eq_getElem b2;refine codeAny_builtin F.entry_extend_loop ?_;rw[aaH F.plain_extend_loop _];show Κ _ A.in1 (pyNext (.ref z) >>= _) _ _ s;have Rr:s.heap.objs.size∉Ts:=fun hm=>by obtain⟨k,K2⟩:=aaA.mp hm;obtain⟨_,x,y,_,_,Mf⟩:=st.at_ k _ K2;exact absurd (i_ Mf) (R_ _)
  have fin:∀ h',(dX h' z TI TO s.heap.objs.size Ξ∨∃ T f,dX h' z TI TO T f/\T∈Ts)->(∃ a b,IsPair h' TO a b)->It p h' i l (n+1)->It q h' j m (n+1)->IsPair h' s.heap.objs.size xs[n] ys[n]->h'.objs.size=s.heap.objs.size+1->(∀ a o,a≠z->a≠TO->a≠i->a≠j->s.heap.get? a=Δ o->h'.get? a=Δ o)->
    Κ (Μ prog w) A.in1 (updateSeq S (·.push (.ref s.heap.objs.size)) >>= fun _=>again (.builtin "list.extend.loop" ⟨[.ref S,.ref z,res],[]⟩)) (fun fin s'=>match fin with|.done f=>R (.ok f) s'|.again c'=>c'.quiet=Θ/\codeAny (Μ prog w) A c' R s') (fun e s'=>R (.error e) s') {s with heap:=h'}:=by
   intro h' hz hO ci cj hT sz kp;have Hk:=kp S _ Sz SO Si Sj hS;have hsz:(Ts.map θ).toArray.size=n:=by simp[st.len]
   refine a_ (wpAny_updateSeq Hk rfl (e_ ⟨plainId_quiet F.plain_extend_loop _,?_⟩) (by rw[hsz];omega) (by show ((Ts.map θ).toArray.push _).size<=Ζ+1;rw[Array.size_push,hsz];omega));have PQ:(h'.update S (ι fun x=>x.push (θ s.heap.objs.size))).get? S=Δ (ι (fun x=>x.push (θ s.heap.objs.size)) {cls:=.type "list",dict:=Φ,data:=.seq (Ts.map θ).toArray c,slots:=#[]}):=aaq _ Hk rfl;have ar:(Ts.map θ).toArray.push (θ s.heap.objs.size)=((Ts++[s.heap.objs.size]).map θ).toArray:=by simp
   obtain⟨c2,Xs⟩:∃ c2,(h'.update S (ι fun x=>x.push (θ s.heap.objs.size))).get? S=Δ {cls:=.type "list",dict:=Φ,data:=.seq (((Ts++[s.heap.objs.size]).map θ).toArray) c2,slots:=#[]}:=⟨_,by rw[PQ,<- ar];rfl⟩
   have Kc:∀ a o,a≠S->h'.get? a=Δ o->(h'.update S (ι fun x=>x.push (θ s.heap.objs.size))).get? a=Δ o:=fun a o ha e=>(aah _ _ (Ne.symm ha)).trans e;have N3:(h'.update S (ι fun x=>x.push (θ s.heap.objs.size))).objs.size=h'.objs.size:=(aaz ..).1;have nS:∀ T:Ω,b<=T->T≠S:=fun T Mg z=>R_ _ (z_ bS (z ▸ Mg:b<=S));refine ih (n+1) _ (Ts++[s.heap.objs.size]) c2 (by omega) F0 ⟨?_,Kc _ _ SI.symm (kp _ _ D.TIz D.TITO D.TIi1 D.TIi2 st.I),?_,ci.to fun o e=>Kc _ o Si.symm e,cj.to fun o e=>Kc _ o Sj.symm e,?_,?_,by rw[w_,st.len];rfl,?_,fun k T e=>?_⟩ (by show b<=(h'.update S _).objs.size;rw[N3,sz];omega) Xs fun N4 tk HU c' Rt a1 a2 a3 a4=>?_
   ·rcases hz with hz|⟨T,f,hz,hT⟩
    ·exact .inr ⟨_,Ξ,Kc _ _ Sz.symm hz,r_ _ (t_.mpr rfl)⟩
    ·exact .inr ⟨T,f,Kc _ _ Sz.symm hz,q_ _ hT⟩
   ·obtain⟨a,b',hO⟩:=hO;exact⟨a,b',Kc _ _ SO.symm hO⟩
   ·exact(st.sl.to fun o e=>kp _ o D.l1z D.l1TO D.l1i1 D.l1i2 e).to fun o e=>Kc _ o Sl.symm e
   ·exact(st.sm.to fun o e=>kp _ o D.l2z D.l2TO D.l2i1 D.l2i2 e).to fun o e=>Kc _ o Sm.symm e
   ·refine s_.mpr ⟨st.nd,by simp,fun a ha b hb e=>?_⟩;rw[t_.mp hb] at e;exact Rr (e ▸ ha)
   ·by_cases M3:k < Ts.length
    ·rw[aao M3] at e;obtain⟨t1,x,y,t2,t3,t4⟩:=st.at_ k T e;have ne:∀ a,a < b->T≠a:=fun a ha z=>by rw[z] at t1;omega
     exact⟨t1,x,y,t2,t3,Kc _ _ (nS T t1) (kp T _ (ne z bz) (ne TO bO) (ne i bi) (ne j bj) t4)⟩
    ·rw[aaE (by omega)] at e;have Xt:k=n:=by have:=(v_.mp e).1;rw[V_] at this;have:=st.len;omega
     rw[show k - Ts.length=0 by have:=st.len;omega] at e;have e':s.heap.objs.size=T:=F_ e;subst e';rw[Xt];exact⟨hb,_,_,g1,g2,Kc _ _ (nS _ hb) hT⟩
   ·exact hR N4 tk HU c' (fun a o c1 c2 c3 c4 c5 e=>Rt a o c1 c2 c3 c4 c5 (Kc a o c5 (kp a o c1 c2 c3 c4 e))) a1 a2 a3 a4
  obtain⟨a,b',hO⟩:=st.O;rcases st.zp with hz|⟨T,f,hz,hT⟩
  ·refine a_ (Jt (A:=A.in1) D hz st.I hO st.ci st.cj st.sl st.sm g1 g2 fun h' a1 a2 a3 a4 a5 a6 kp=>?_);exact fin h' (.inl a1) ⟨_,_,a2⟩ a3 a4 a5 a6 fun a o c1 c2 c3 c4 e=>kp a o c1 c2 c3 c4 e
  ·obtain⟨k',K2⟩:=aaA.mp hT;obtain⟨_,x,y,_,_,Mf⟩:=st.at_ k' T K2;refine a_ (qX (A:=A.in1) D hz Mf st.I st.ci st.cj st.sl st.sm g1 g2 fun h' a1 a3 a4 a5 a6 kp=>?_);exact fin h' (.inr ⟨T,Θ,a1,hT⟩) ⟨a,b',kp TO _ D.TOz D.TOi1 D.TOi2 hO⟩ a3 a4 a5 a6 fun a o c1 _ c3 c4 e=>kp a o c1 c3 c4 e
theorem nk:typeLookup (.type "zip") "__len__" = pure Φ:=by rw[typeLookup_type,builtinLookup_eq_fast];kernel_rfl
theorem lF:typeLookup (.type "zip") "__length_hint__" = pure Φ:=by rw[typeLookup_type,builtinLookup_eq_fast];kernel_rfl
theorem nq {p q:Kq}{z TI TO i j l m S:Ω}{xs ys:Array Ψ}{R:Result->Α->Prop}(hh:A.handled=Φ)(D:ZipApart z TI TO i j l m)(res:Ψ)(c₀:Nat)(hz:IsZip s.heap z TI TO .none)(hI:IsPair s.heap TI (.ref i) (.ref j))(hO:∃ a b,IsPair s.heap TO a b)(ci:It p s.heap i l 0)(cj:It q s.heap j m 0)(sl:Sq p s.heap l xs)(sm:Sq q s.heap m ys)
  (hS:s.heap.get? S=Δ {cls:=.type "list",data:=.seq #[] c₀}) (hn:min xs.size ys.size<=Ζ) (Sz:S≠z) (SI:S≠TI) (SO:S≠TO) (Si:S≠i) (Sj:S≠j) (Sl:S≠l) (Sm:S≠m)
  (hR:∀ (h':Heap) (tk:Nat) (HU:List Ω) (c':Nat),(∀ a o,a≠z->a≠TO->a≠i->a≠j->a≠S->s.heap.get? a=Δ o->h'.get? a=Δ o)->h'.get? S=Δ {cls:=.type "list",dict:=Φ,data:=.seq (HU.map θ).toArray c',slots:=#[]}->HU.length=min xs.size ys.size->HU.Nodup->(∀ (k:Nat) (T:Ω),HU[k]? = Δ T->s.heap.objs.size<=T/\∃ x y,xs[k]? = Δ x/\ys[k]? = Δ y/\IsPair h' T x y)->R (.ok (.ret res)) {s with heap:=h',toks:=tk}) :
  Κ (Μ prog w) A.in1 (Χ (.ref S) (.ref z) res)
   (fun fin s'=>match fin with|.done f=>R (.ok f) s'|.again c'=>c'.quiet=Θ/\codeAny (Μ prog w) A c' R s') (fun e s'=>R (.error e) s') s:=by
 have ty:s.TypeIs (.ref z) "zip":=⟨_,hz,rfl⟩
 unfold Χ;refine a_ (wpAny_typeOf ty ?_);have h1:Builtin.List.listSameRef (.ref S) (.ref z)=Ξ:=by simp[Builtin.List.listSameRef,Sz]
 have h2:(Value.type "zip" == Value.type "list")=Ξ:=by decide
 have h3:(Value.type "zip" == Value.type "tuple")=Ξ:=by decide
 simp only[h1,h2,h3,Bool.or_false,aas,if_false];refine a_ (wpAny_pyIter_zip hz ?_);refine a_ (K_ ?_);unfold Builtin.List.listLengthHint;refine a_ (wpAny_specialOf ty nk ?_);show Κ _ A.in1 (specialOf (θ z) (Ρ "__length_hint__") >>= _) _ _ _;refine a_ (wpAny_specialOf ty lF (e_ ?_))
 show Κ _ A.in1 (rule "list.extend.makes-room" >>= fun _=>Builtin.List.listTouch (.ref S) >>= fun _=>
  again (.builtin "list.extend.loop" ⟨[.ref S,.ref z,res],[]⟩)) _ _ _
 refine a_ (wpAny_rule ?_);refine a_ ?_;show Κ _ A.in1 (updateSeq S (·.push .none) >>= fun _=>updateSeq S (·.pop)) _ _ _;refine a_ (wpAny_updateSeq hS rfl ?_);have HR:=aaq (ι (·.push Value.none)) hS rfl;refine wpAny_updateSeq (hz:=by seq_fits) HR rfl ?_;have N5:=aaq (ι (·.pop)) HR rfl;have G2:∀ b o,b≠S->s.heap.get? b=Δ o->((s.heap.update S (ι (·.push Value.none))).update S (ι (·.pop))).get? b=Δ o:=
  fun b o hb e=>(aah _ _ (Ne.symm hb)).trans ((aah _ _ (Ne.symm hb)).trans e)
 have N3:((s.heap.update S (ι (·.push Value.none))).update S (ι (·.pop))).objs.size=s.heap.objs.size:=((aaz ..).1).trans (aaz ..).1;obtain⟨a,b',hO⟩:=hO
 refine e_ ⟨plainId_quiet F.plain_extend_loop _,loop (b:=s.heap.objs.size) hh D res hn (i_ hz) (i_ hI) (i_ hO) ci.lt cj.lt sl.lt sm.lt (i_ hS) Sz SI SO Si Sj Sl Sm _ 0 _ [] _ rfl (aaa _)
  ⟨.inl (G2 _ _ Sz.symm hz),G2 _ _ SI.symm hI,⟨a,b',G2 _ _ SO.symm hO⟩,ci.to fun o e=>G2 _ o Si.symm e,cj.to fun o e=>G2 _ o Sj.symm e,sl.to fun o e=>G2 _ o Sl.symm e,sm.to fun o e=>G2 _ o Sm.symm e,rfl,List.nodup_nil,fun k T e=>by simp at e⟩ (by show s.heap.objs.size<=((s.heap.update S _).update S _).objs.size;rw[N3];exact n_ _) N5 fun h' tk HU c' kp a1 a2 a3 a4=>?_⟩
 exact hR h' tk HU c' (fun a o c1 c2 c3 c4 c5 e=>kp a o c1 c2 c3 c4 c5 (G2 a o c5 e)) a1 a2 a3 a4
theorem HK {p q:Kq}{z TI TO i j l m:Ω}{xs ys:Array Ψ}{Q:Ψ->Α->Prop}(hh:A.handled=Φ)(D:ZipApart z TI TO i j l m)(hz:IsZip s.heap z TI TO .none)(hI:IsPair s.heap TI (.ref i) (.ref j))(hO:∃ a b,IsPair s.heap TO a b)(ci:It p s.heap i l 0)(cj:It q s.heap j m 0)(sl:Sq p s.heap l xs)(sm:Sq q s.heap m ys)(hn:min xs.size ys.size<=Ζ)
  (hQ:∀ (h':Heap) (tk:Nat) (HU:List Ω) (c':Nat),(∀ a o,a≠z->a≠TO->a≠i->a≠j->s.heap.get? a=Δ o->h'.get? a=Δ o)->h'.get? s.heap.objs.size=Δ {cls:=.type "list",dict:=Φ,data:=.seq (HU.map θ).toArray c',slots:=#[]}->HU.length=min xs.size ys.size->HU.Nodup->(∀ (k:Nat) (T:Ω),HU[k]? = Δ T->s.heap.objs.size < T/\∃ x y,xs[k]? = Δ x/\ys[k]? = Δ y/\IsPair h' T x y)->Q (.ref s.heap.objs.size) {s with heap:=h',toks:=tk}) :
  Κ (Μ prog w) A (call (.type "list") [.ref z]) Q E s:=by
 obtain⟨a0,b0,hO⟩:=hO;have lz:z < s.heap.objs.size:=i_ hz;have lI:TI < s.heap.objs.size:=i_ hI;have lO:TO < s.heap.objs.size:=i_ hO;refine callType_codes (Q₁:=fun obj FG=>obj=.ref s.heap.objs.size/\FG = {s with heap:=s.heap.push {cls:=.type "list",data:=.seq #[]}}) F.called_list (F.typeCall_list_1 _) F.entry_list_init
  (code_list_new _ ⟨rfl,rfl⟩) fun obj FG JL=>?_
 obtain⟨rfl,rfl⟩:=JL;have hS:(s.heap.push {cls:=.type "list",data:=.seq #[]}).get? s.heap.objs.size=Δ {cls:=.type "list",data:=.seq #[]}:=u_ _ rfl;refine⟨⟨_,hS,rfl⟩,F.args_list_init_2 _ _,?_⟩;show Κ _ _ (do let old <- Builtin.List.listItems (.ref s.heap.objs.size);Builtin.List.listUpdate (.ref s.heap.objs.size) (fun _=>#[]);letGo old.toList.reverse;Χ (.ref s.heap.objs.size) (.ref z) .none) _ _ _;refine a_ ?_;unfold Builtin.List.listItems;refine a_ (W_ hS rfl (e_ ?_));show Κ _ _ (updateSeq s.heap.objs.size (fun _=>#[]) >>= fun _=>letGo (#[]:Array Ψ).toList.reverse >>= fun _=>Χ (.ref s.heap.objs.size) (.ref z) .none) _ _ _;refine a_ (wpAny_updateSeq hS rfl ?_);have HR:=aaq (ι (fun _=>(#[]:Array Ψ))) hS rfl;have G2:∀ b o,b≠s.heap.objs.size->s.heap.get? b=Δ o->((s.heap.push {cls:=.type "list",data:=.seq #[]}).update s.heap.objs.size (ι (fun _=>(#[]:Array Ψ)))).get? b=Δ o:=
  fun b o hb e=>(aah _ _ (Ne.symm hb)).trans (l_ _ e)
 have N3:((s.heap.push {cls:=.type "list",data:=.seq #[]}).update s.heap.objs.size (ι (fun _=>(#[]:Array Ψ)))).objs.size=s.heap.objs.size+1:=((aaz ..).1).trans (S_ ..);refine a_ (wpAny_letGo ?_);refine nq (A:=A.in1) hh D .none _ (G2 _ _ (m_ lz) hz) (G2 _ _ (m_ lI) hI) ⟨a0,b0,G2 _ _ (m_ lO) hO⟩ (ci.to fun o e=>G2 _ o (m_ ci.lt) e) (cj.to fun o e=>G2 _ o (m_ cj.lt) e) (sl.to fun o e=>G2 _ o (m_ sl.lt) e) (sm.to fun o e=>G2 _ o (m_ sm.lt) e) HR hn (O_ lz) (O_ lI) (O_ lO) (O_ ci.lt) (O_ cj.lt) (O_ sl.lt) (O_ sm.lt) fun h' tk HU c' kp a1 a2 a3 a4=>?_;refine⟨rfl,hQ h' tk HU c' (fun a o c1 c2 c3 c4 e=>kp a o c1 c2 c3 c4 (m_ (i_ e)) (G2 a o (m_ (i_ e)) e)) a1 a2 a3 fun k T e=>?_⟩;obtain⟨t1,t2⟩:=a4 k T e;have t1:((s.heap.push {cls:=.type "list",data:=.seq #[]}).update s.heap.objs.size (ι (fun _=>(#[]:Array Ψ)))).objs.size<=T:=t1;rw[N3] at t1;exact⟨t1,t2⟩
end
end L2.Zp
namespace L2
open PySem PySem.Spec PyProof.Rows
noncomputable def kz (H:Hp):List (Ω×HO)->Hp
 | []=>H
 | p::L=>upd (kz H L) p.1 p.2
theorem lG {H:Hp}{a:Ω}:∀ {L:List (Ω×HO)},a∉L.map (·.1)->kz H L a=H a
 | [],_=>rfl
 | p::L,h=>by rw[b_,k_,not_or] at h;show upd (kz H L) p.1 p.2 a=_;rw[cv h.1,lG h.2]
theorem kA {H:Hp}{a:Ω}{o:HO}:∀ {L:List (Ω×HO)},(L.map (·.1)).Nodup->(a,o)∈L->kz H L a=Δ o
 | [],_,h=>by simp at h
 | p::L,nd,h=>by
  rw[b_,H_] at nd;show upd (kz H L) p.1 p.2 a=_;rcases k_.mp h with rfl|h
  ·exact cy
  ·have:a≠p.1:=fun z=>nd.1 (z ▸ List.mem_map.mpr ⟨(a,o),h,rfl⟩);rw[cv this,kA nd.2 h]
theorem qb {H:Hp}{a:Ω}{u:HO}{L:List (Ω×HO)}(h:kz H L a=Δ u)(n:H a=Φ):∃ p∈L,p.1=a/\p.2=u:=by
 induction L with
 | nil=>rw[show kz H [] a=H a from rfl,n] at h;cases h
 | cons p L ih=>
  have h:upd (kz H L) p.1 p.2 a=Δ u:=h;by_cases e:a=p.1
  ·rw[e,cy] at h;exact⟨p,.head _,e.symm,F_ h⟩
  ·rw[cv e] at h;obtain⟨q,hq,h1⟩:=ih h;exact⟨q,.tail _ hq,h1⟩
section
variable {X:Cx}{pins:List (Ω×Obj)}{σ:St}{H H':Hp}{s:Α}{h':Heap}
theorem Inv.Mh {t':Nat}(I:Inv X pins σ H s)(k:∀ b o,s.heap.get? b=Δ o->h'.get? b=Δ o)(Lv:∀ b,b < s.heap.objs.size->H' b=H b)(new:∀ b u,s.heap.objs.size<=b->H' b=Δ u->cX X.prog X.w H' h' b u):Inv X pins σ H' {s with heap:=h',toks:=t'}:=by
 have hs:∀ b u,H b=Δ u->H' b=Δ u:=fun b u q=>by rw[Lv b (Nat.lt_of_not_le fun z=>by rw[I.FN.fresh z] at q;cases q)];exact q
 refine I.step (g':=s.gens) (d':=s.drawn) (ch:=[]) (fun b hb=>by simp at hb) (fun b o _ _ hc e _=>k b o e) (fun b o _ _ hc e _=>⟨o.slots,k b o e⟩) (fun b o _ e n=>by rw[Lv b (i_ e)];exact n)
  (fun b o hc e=>⟨o,k b o e⟩) (fun b xs q=>hs _ _ q) (fun b u xs q=>hs _ _ q) (fun b ps q=>⟨#[],by rw[hs _ _ q];simp⟩) (fun m hm=>?_) (fun b u e=>?_) I.bare
 ·obtain⟨o,es,ep,ho,r⟩:=hm;exact⟨o,es,ep,k _ o ho,r⟩
 ·by_cases hb:s.heap.objs.size<=b
  ·exact new b u hb e
  ·rw[Lv b (Nat.lt_of_not_le hb)] at e;exact(I.FN b u e).Hy (fun c v hc q=>k c v q) (fun c q=>hs _ _ q) fun c xs q=>hs _ _ q
theorem lJ:∀ Ts:List Ω,Vals (Ts.map V.ref) (Ts.map θ)
 | []=>.nil
 | T::Ts=>.cons rfl (lJ Ts)
end
def B4 (K:Frag)(ta:TA):TE:=fun σ H Q=>ta σ H fun vs H1=>∃ p q l m xs ys,vs=[.ref l,.ref m]/\Je K H1 p l xs/\Je K H1 q m ys/\min xs.length ys.length<=Ζ/\
 ∀ (Ts:List Ω) (A:Ω) (H':Hp),cz H1 H'->H1 A=Φ->H' A=Δ (.lst (Ts.map V.ref))->Ts.length=min xs.length ys.length->(∀ (k:Nat) (T:Ω),Ts[k]? = Δ T->∃ x y,xs[k]? = Δ x/\ys[k]? = Δ y/\H' T=Δ (.tup [x,y]))->Q (.ref A) H'
theorem vP {X:Cx}{a b:Expr}{ta:TA}{p p' pos pos':Pos}(hc:X.calm=Θ)(g1:Gl X "list") (m1:X.mg "list" = Φ) (hg:Gl X "zip") (hm:X.mg "zip" = Φ) (ha:PA X [a,b] ta) (hs:Ν [a,b] X.env=[(Ξ,eval a X.env),(Ξ,eval b X.env)]) (Iy:Ν [b] X.env=[(Ξ,eval b X.env)]) :
  PE X (.Call (.Name "list" p) [.Call (.Name "zip" p') [a,b] [] pos'] [] pos) (B4 X.K ta):=by
 intro pins s σ H Q I h;refine aaF (eV (u:=.type "list") I g1 m1 (by decide +kernel) ?_ (by decide) (by decide));refine aay ?_ rfl rfl;show Κ _ _ (spliced ((Ξ,eval (.Call (.Name "zip" p') [a,b] [] pos') X.env)::backTo pos (Ν [] X.env))) _ _ s;refine Calls.spliced_cons ?_;refine Call_ (eV I hg hm boot_zip (aay (FP (ha pos' pins s σ H _ I h) fun us s1 ⟨vs,H1,I1,r1,q1⟩=>?_) (by rw[hs,Iy]) (by rw[Iy];rfl)));obtain⟨k1,k2,l,m,xs,ys,e,g1,g2,N6,q⟩:=q1;subst e;cases r1 with
 | cons r rr=>
  cases rr with
  | cons r' rr=>
   cases rr;cases r;cases r';obtain⟨IF,JM,p1⟩:=I1.LB g1;obtain⟨Gr,HS,p2⟩:=I1.LB g2;have l1:=p1.lt;have l2:=p2.lt;refine Zp.IE p1 p2 fun h2 b1 b2 b3 b4 b5 b6 b7=>?_;refine Calls.spliced_nil ?_;have Xu:=JM.length;have Xv:=HS.length;have hsz:min IF.toArray.size Gr.toArray.size=min xs.length ys.length:=by simp[Xu,Xv]
   refine Zp.HK (s:={s1 with heap:=h2}) (show X.A.handled=Φ from I.ok.hd hc) (lE _ l m l1 l2) b1 b2 ⟨_,_,b3⟩ b4 b5 (p1.to fun o e=>b7 _ o e) (p2.to fun o e=>b7 _ o e) (by rw[hsz];exact N6) fun h' tk Ts c' kp a1 a2 a3 a4=>?_;have a1:h'.get? h2.objs.size=Δ {cls:=.type "list",dict:=Φ,data:=.seq (Ts.map θ).toArray c',slots:=#[]}:=a1;have Xw:∀ b o,s1.heap.get? b=Δ o->h'.get? b=Δ o:=fun b o e=>by have lt:=i_ e;exact kp b o (m_ (z_ lt (aak _ _))) (m_ (z_ lt (aak _ _))) (m_ lt) (m_ (z_ lt (aak _ _))) (b7 b o e)
   have tT:∀ T∈Ts,h2.objs.size < T:=fun T hT=>by obtain⟨k,hk⟩:=aaA.mp hT;exact(a4 k T hk).1
   have N7:min IF.toArray.size Gr.toArray.size=Ts.length:=a2.symm;have lM:((xs.zip ys).map fun xy:V×V=>HO.tup [xy.1,xy.2]).length=Ts.length:=by rw[j_,List.length_zip,<- hsz,N7]
   have keys:((Ts.zip ((xs.zip ys).map fun xy:V×V=>HO.tup [xy.1,xy.2])).map (·.1))=Ts:=List.map_fst_zip (by rw[lM];exact n_ _);have Xx:∀ (T:Ω) (o:HO),(T,o)∈Ts.zip ((xs.zip ys).map fun xy:V×V=>HO.tup [xy.1,xy.2])->∃ (k:Nat) (x y:V),Ts[k]? = Δ T/\xs[k]? = Δ x/\ys[k]? = Δ y/\o=.tup [x,y]:=fun T o hm=>by obtain⟨k,hk⟩:=aaA.mp hm;obtain⟨h1,h2⟩:=List.getElem?_zip_eq_some.mp hk;rw[B_] at h2;obtain⟨xy,h3,h4⟩:=aaI.mp h2;obtain⟨h5,h6⟩:=List.getElem?_zip_eq_some.mp h3;exact⟨k,xy.1,xy.2,h1,h5,h6,h4.symm⟩
   have nd:(((h2.objs.size,HO.lst (Ts.map V.ref))::Ts.zip ((xs.zip ys).map fun xy:V×V=>HO.tup [xy.1,xy.2])).map (·.1)).Nodup:=by rw[b_,keys,H_];exact⟨fun z=>R_ _ (tT _ z),a3⟩
   have fresh:∀ b,s1.heap.objs.size<=b->H1 b=Φ:=fun b hb=>I1.FN.fresh hb;have hA:s1.heap.objs.size<=h2.objs.size:=by rw[b6];exact aak _ _
   have Lv:∀ b,b < s1.heap.objs.size->kz H1 ((h2.objs.size,HO.lst (Ts.map V.ref))::Ts.zip ((xs.zip ys).map fun xy:V×V=>HO.tup [xy.1,xy.2])) b=H1 b:=fun b hb=>lG (by
    rw[b_,keys,k_,not_or]
    exact⟨m_ (z_ hb hA),fun z=>R_ _ (z_ hb (M_ hA (Nat.le_of_lt (tT _ z))))⟩)
   have I2:=I1.Mh (t':=tk) Xw Lv fun b u hb hu=>by
    obtain⟨pr,hp,e1,e2⟩:=qb hu (fresh b hb);subst e1 e2;rcases k_.mp hp with rfl|hp
    ·exact(show cX X.prog X.w _ h' h2.objs.size (.lst (Ts.map V.ref)) from ⟨by rw[j_,<- N7,hsz];exact N6,Ts.map θ,c',lJ Ts,a1⟩)
    ·obtain⟨T,o⟩:=pr;obtain⟨k,x,y,t1,t2,t3,rfl⟩:=Xx T o hp;obtain⟨_,u1,u2,u3,u4,u5⟩:=a4 k T t1;obtain⟨v1,Xy,r1⟩:=JM.get t2;obtain⟨v2,Xz,r2⟩:=HS.get t3;rw[List.getElem?_toArray,Xy] at u3;rw[List.getElem?_toArray,Xz] at u4;cases u3;cases u4;exact(show cX X.prog X.w _ h' T (.tup [x,y]) from ⟨by show 2<=Ζ;decide,[_,_],.cons r1 (.cons r2 .nil),⟨_,u5,rfl,_,rfl⟩⟩)
   refine⟨.ref _,_,I2,rfl,q Ts h2.objs.size _ (fun b u e=>?_) (fresh _ hA) (kA nd (.head _)) (by rw[<- N7,hsz]) fun k T hk=>?_⟩
   ·rw[Lv b (Nat.lt_of_not_le fun z=>by rw[fresh b z] at e;cases e)];exact e
   ·have M3:k < Ts.length:=(v_.mp hk).1;have hx:k < xs.length:=by rw[<- N7,hsz] at M3;exact z_ M3 (Nat.min_le_left ..)
    have hy:k < ys.length:=by rw[<- N7,hsz] at M3;exact z_ M3 (Nat.min_le_right ..)
    refine⟨xs[k],ys[k],y_ hx,y_ hy,kA nd (.tail _ ?_)⟩;refine aaA.mpr ⟨k,List.getElem?_zip_eq_some.mpr ⟨hk,?_⟩⟩;rw[B_,show (xs.zip ys)[k]? = Δ (xs[k],ys[k]) from List.getElem?_zip_eq_some.mpr ⟨y_ hx,y_ hy⟩];rfl
end L2
namespace L2.Se
open PySem
structure Cut (xs:Array Nat)(j p:Nat):Prop where
 le:p<=xs.size
 lo:∀ i x:Nat,i < p->xs[i]? = Δ x->x < j
 hi:∀ i x:Nat,p<=i->xs[i]? = Δ x->j<=x
def Up (xs:Array Nat):Prop:=∀ i k x y:Nat,i < k->xs[i]? = Δ x->xs[k]? = Δ y->x < y
theorem qZ {xs:Array Nat}{j:Nat}(u:Up xs):∀ (fuel lo hi:Nat),hi<=lo+fuel->lo<=hi->hi<=xs.size->(∀ i x,i < lo->xs[i]? = Δ x->x < j)->(∀ i x,hi<=i->xs[i]? = Δ x->j<=x)->Cut xs j (SetTable.below.go xs j fuel lo hi):=by
 intro fuel
 induction fuel with
 | zero=>
  intro lo hi h1 h2 h3 h4 h5;have e:lo=hi:=by omega
  subst e;exact⟨h3,h4,h5⟩
 | succ f ih=>
  intro lo hi h1 h2 h3 h4 h5;unfold SetTable.below.go;by_cases hl:lo < hi
  ·rw[f_ hl];have hm:(lo+hi) / 2 < xs.size:=by omega
   have e:xs[(lo+hi) / 2]? = Δ xs[(lo+hi) / 2]:=by simp[hm]
   have eg:xs.getD ((lo+hi) / 2) j=xs[(lo+hi) / 2]:=by simp[Array.getD,hm]
   dsimp only;rw[eg];by_cases hx:xs[(lo+hi) / 2] < j
   ·rw[f_ hx];refine ih _ _ (by omega) (by omega) h3 (fun i x IG Mi=>?_) h5;by_cases Ru:i=(lo+hi) / 2
    ·subst Ru;rw[e] at Mi;cases Mi;exact hx
    ·exact Nat.lt_trans (u i _ x _ (by omega) Mi e) hx
   ·rw[d_ hx];refine ih _ _ (by omega) (by omega) (by omega) h4 (fun i x IG Mi=>?_);by_cases Ru:i=(lo+hi) / 2
    ·subst Ru;rw[e] at Mi;cases Mi;omega
    ·have:=u _ i _ x (by omega) e Mi;omega
  ·rw[d_ hl];have e:lo=hi:=by omega
   subst e;exact⟨h3,h4,h5⟩
theorem gU {xs:Array Nat}(u:Up xs)(j:Nat):Cut xs j (SetTable.below xs j):=
 qZ u xs.size 0 xs.size (by omega) (aaa _) (n_ _) (fun i x h=>absurd h (Nat.not_lt_zero i)) (fun i x h hx=>by
  have:=(Array.getElem?_eq_some_iff.mp hx).1
  omega)
theorem vQ {α:Type}{xs:Array α}{p:Nat}{x:α}(hp:p<=xs.size)(i:Nat):(SetTable.insertAt xs p x)[i]? = if i < p then xs[i]? else if i=p then Δ x else xs[i - 1]?:=by
 rw[<- aat,SetTable.toList_insertAt];by_cases h1:i < p
 ·rw[f_ h1,aao (by simp;omega),List.getElem?_take,f_ h1,aat]
 ·rw[d_ h1,aaE (by simp;omega)];have hl:(xs.toList.take p).length=p:=by simp;omega
  rw[hl];by_cases h2:i=p
  ·subst h2;rw[f_ rfl,Nat.sub_self];rfl
  ·rw[d_ h2];obtain⟨k,rfl⟩:∃ k,i=p+k+1:=⟨i - p - 1,by omega⟩
   rw[show p+k+1 - p=k+1 by omega,aaJ,List.getElem?_drop,aat];rfl
theorem Ad {xs:Array Nat}{j p:Nat}(u:Up xs)(c:Cut xs j p)(hn:xs[p]?≠Δ j):Up (SetTable.insertAt xs p j):=by
 intro i k x y Rv hx hy;rw[vQ c.le] at hx hy;have UW:∀ m z,p<=m->xs[m]? = Δ z->j < z:=fun m z hm hz=>by
  have h1:=c.hi m z hm hz;by_cases e:m=p
  ·subst e;have:j≠z:=fun e=>hn (by rw[hz,e]);omega
  ·have F0:m < xs.size:=(Array.getElem?_eq_some_iff.mp hz).1;have hp:p < xs.size:=by omega
   have ep:xs[p]? = Δ xs[p]:=by simp[hp]
   have h2:=c.hi p _ (n_ _) ep;have:=u p m _ z (by omega) ep hz;omega
 by_cases a1:i < p
 ·rw[f_ a1] at hx;have XA:=c.lo i x a1 hx;by_cases b1:k < p
  ·rw[f_ b1] at hy;exact u i k x y Rv hx hy
  ·rw[d_ b1] at hy;by_cases b2:k=p
   ·rw[f_ b2] at hy;cases hy;exact XA
   ·rw[d_ b2] at hy;have:=UW (k - 1) y (by omega) hy;omega
 ·rw[d_ a1] at hx;by_cases a2:i=p
  ·rw[f_ a2] at hx;cases hx;rw[d_ (by omega),d_ (by omega)] at hy;exact UW (k - 1) y (by omega) hy
  ·rw[d_ a2] at hx;rw[d_ (by omega),d_ (by omega)] at hy;exact u (i - 1) (k - 1) x y (by omega) hx hy
theorem ra (n:Nat):Up (Array.range n):=by intro i k x y h hx hy;obtain⟨h1,e1⟩:=Array.getElem?_eq_some_iff.mp hx;obtain⟨h2,e2⟩:=Array.getElem?_eq_some_iff.mp hy;simp at e1 e2;omega
structure Tb (led:Bool)(t:SetTable):Prop where
 up:Up t.place
 dm:t.dummies = #[]
 ld:t.led=led
theorem nr {t:SetTable}{j:Nat}(h:t.slot j=.empty):t.place[SetTable.below t.place j]?≠Δ j:=by intro e;unfold SetTable.slot at h;dsimp only at h;rw[f_ (by rw[e];exact beq_self_eq_true _)] at h;cases h
theorem has_none (j:Nat):SetTable.has #[] j=Ξ:=by unfold SetTable.has;rw[show (#[]:Array Nat)[SetTable.below #[] j]? = Φ by simp];rfl
theorem nt {t:SetTable}(hd:t.dummies = #[])(j:Nat):t.slot j≠.dummy:=by
 intro h;unfold SetTable.slot at h;dsimp only at h;rw[hd,has_none] at h;split at h
 ·cases h
 ·rw[d_ o_] at h;cases h
theorem qc (t:SetTable)(p:SetTable.Probe):(t.advance p).dummy=p.dummy:=by unfold SetTable.advance;split<;>rfl
theorem rb {t:SetTable}(hd:t.dummies = #[]){h:Int}{f:Nat->Int}(hh:∀ i,(f i == h)=Ξ):∀ (fuel:Nat) (p:SetTable.Probe) (m:SetTable.Met),p.dummy=Φ->SetTable.probe.go t f h fuel p=Δ m->∃ j,m=.empty j Φ/\t.slot j=.empty:=by
 intro fuel
 induction fuel with
 | zero=>intro p m _ e;cases e
 | succ n ih=>
  intro p m hp e;unfold SetTable.probe.go at e;cases hs:t.slot p.j with
  | empty=>rw[hs] at e;dsimp only at e;rw[hp] at e;cases e;exact⟨_,rfl,hs⟩
  | dummy=>exact absurd hs (nt hd _)
  | live i=>rw[hs] at e;dsimp only at e;rw[hh,d_ o_] at e;exact ih _ m (by rw[qc];exact hp) e
theorem qd {t:SetTable}(hd:t.dummies = #[]){h:Int}{j:Nat}{b:Bool}(e:t.freeSlot h=Δ (j,b)):t.slot j=.empty/\b=Ξ:=by
 unfold SetTable.freeSlot at e;cases q:t.probe (fun _=>h+1) h (t.probeStart h) with
 | none=>rw[q] at e;cases e
 | some m=>obtain⟨j',rfl,hs⟩:=rb hd (f:=fun _=>h+1) (h:=h) (fun i=>by rw[beq_eq_false_iff_ne];omega) _ _ m rfl q;rw[q] at e;cases e;exact⟨hs,rfl⟩
theorem gf {led:Bool}{t:SetTable}(T:Tb led t)(n:Nat):Tb led (t.standIn n):=⟨ra n,rfl,T.ld⟩
theorem B5 {led:Bool}{t:SetTable}(T:Tb led t)(n:Nat):Tb led (t.orStandIn n):=by
 unfold SetTable.orStandIn;split
 ·exact T
 ·exact gf T n
theorem Ae {led:Bool}{t:SetTable}(T:Tb led t){j:Nat}(hs:t.slot j=.empty):Tb led (t.put j).1:=by refine⟨Ad T.up (gU T.up j) (nr hs),?_,T.ld⟩;show (if SetTable.has t.dummies j then _ else t.dummies) = #[];rw[T.dm,has_none];rfl
theorem Af {led:Bool}{t:SetTable}(T:Tb led t)(es:Array (Int×Ψ))(h:Int)(x:Ψ):Tb led (layNew t es h x).2.1:=by
 unfold layNew;cases q:t.freeSlot h with
 | none=>exact gf T _
 | some p=>obtain⟨j,b⟩:=p;exact B5 (Ae T (qd T.dm q).1) _
theorem rf (o:Nat->Option Nat)(l:List Nat):((l.filterMap fun j=>(o j).map (j,·)).map (·.1))=l.filter fun j=>(o j).isSome:=by
 induction l with
 | nil=>rfl
 | cons a l ih=>
  rw[List.filterMap_cons,List.filter_cons];cases o a with
  | none=>simpa using ih
  | some b=>simpa using ih
theorem vR {l:List Nat}(h:l.Pairwise (· < ·)):Up l.toArray:=by
 intro i k x y Rv hx hy;have GI:l[i]? = Δ x:=by simpa using hx
 have Jw:l[k]? = Δ y:=by simpa using hy
 obtain⟨h1,e1⟩:=v_.mp GI;obtain⟨h2,e2⟩:=v_.mp Jw;have:=List.pairwise_iff_getElem.mp h i k h1 h2 Rv;omega
theorem vS {mask finger moves:Nat}{led plain:Bool}{hs:Array Int}{t:SetTable}{o:Array Nat}(e:SetTable.laid mask finger moves led plain hs=Δ (t,o)):Tb led t:=by
 unfold SetTable.laid at e;cases q:SetTable.layClean mask hs with
 | none=>rw[q] at e;cases e
 | some ow=>rw[q] at e;have e':=F_ e;cases e';refine⟨?_,rfl,rfl⟩;show Up (List.toArray (List.map _ (List.filterMap _ _)));rw[rf];exact vR (List.Pairwise.sublist List.filter_sublist List.pairwise_lt_range)
theorem rh {led:Bool}{t:SetTable}(T:Tb led t)(es:Array (Int×Ψ))(n:Nat):Tb led (relayAll t es n).2.1:=by
 unfold relayAll;cases q:t.relaid (es.map (·.1)) n with
 | none=>exact gf T _
 | some p=>
  obtain⟨t',o⟩:=p;dsimp only;split
  ·have:=vS q;rw[T.ld] at this;exact this
  ·exact gf T _
theorem rj {led:Bool}{t:SetTable}(T:Tb led t)(b:Bool):Tb led {t with plain:=b}:=⟨T.up,T.dm,T.ld⟩
theorem rk (f m:Nat)(led:Bool):Tb led (SetTable.fresh f m led):=⟨fun i k x y _ h=>by simp[SetTable.fresh] at h,rfl,rfl⟩
open PyProof.Rows
structure Ky (prog:Ε)(w:Β)(α:Type) [DecidableEq α] where
 knd:PySem.KeyKind prog w α
 mv:α->Tok->Ψ
 is:∀ k t,knd.is k (mv k t)=Θ
 sc:∀ k t,(mv k t).scannable=Θ
inductive Ar {α:Type}(mk:α->Tok->Ψ):List Ψ->List α->Prop
 | nil:Ar mk [] []
 | cons (n:α) (t:Tok) {vs:List Ψ}{ns:List α}:Ar mk vs ns->Ar mk (mk n t::vs) (n::ns)
theorem Ar.length {α:Type}{mk:α->Tok->Ψ}{vs:List Ψ}{ns:List α}(h:Ar mk vs ns):vs.length=ns.length:=by
 induction h with
 | nil=>rfl
 | cons _ _ _ ih=>rw[List.length_cons,List.length_cons,ih]
theorem Ar.at {α:Type} [Inhabited α]{mk:α->Tok->Ψ}:∀ {vs:List Ψ}{ns:List α},Ar mk vs ns->∀ (i:Nat) (v:Ψ),vs[i]? = Δ v->∃ t,v=mk (ns.getD i default) t
 | _,_,.nil,i,v,h=>by simp at h
 | _,_,.cons n t hr,0,v,h=>by simp at h;exact⟨t,by rw[<- h];rfl⟩
 | _,_,.cons n t hr,i+1,v,h=>by simp only[aaJ] at h;obtain⟨t',e⟩:=Ar.at hr i v h;exact⟨t',by rw[e];rfl⟩
section
variable {prog:Ε}{w:Β}{α:Type} [DecidableEq α] [Inhabited α]{ky:Ky prog w α}{A:Ι}{E:Ψ->Α->Prop}{s:Α}
noncomputable abbrev vals (es:Array (Int×Ψ)):List Ψ:=es.toList.map (·.2)
structure GP {prog:Ε}{w:Β}{α:Type} [DecidableEq α](ky:Ky prog w α)(led:Bool)(σ:List α)(o:Obj)(es:Array (Int×Ψ))(ep:Nat)(t:SetTable):Prop where
 ex:o.ExactSet
 da:o.data=.set es ep t
 el:ElemsOf ky.knd es.toList
 sb:es.size < scanBound
 fi:t.fits es.size=Θ
 tb:Tb led t
 pm:∃ ks,Ar ky.mv (vals es) ks/\ks.Perm σ
def fG {prog:Ε}{w:Β}{α:Type} [DecidableEq α](ky:Ky prog w α)(h:Heap)(a:Ω)(led:Bool)(σ:List α):Prop:=∃ o es ep t,h.get? a=Δ o/\GP ky led σ o es ep t
theorem gh {vs N8:List Ψ}{ks:List α}(p:N8.Perm vs)(h:Ar ky.mv vs ks):∃ HF,Ar ky.mv N8 HF/\HF.Perm ks:=by
 induction p generalizing ks with
 | nil=>exact⟨ks,h,.refl _⟩
 | cons x _ ih=>
  cases h with
  | cons n t h=>obtain⟨HF,h1,h2⟩:=ih h;exact⟨n::HF,.cons n t h1,.cons n h2⟩
 | swap x y l=>
  cases h with
  | cons n t h=>
   cases h with
   | cons m u h=>exact⟨m::n::_,.cons m u (.cons n t h),.swap n m _⟩
 | trans _ _ XB Ke=>obtain⟨k1,a1,b1⟩:=Ke h;obtain⟨k2,a2,b2⟩:=XB a1;exact⟨k2,a2,b2.trans b1⟩
theorem rl {vs:List Ψ}{ks:List α}{k:α}{t:Tok}(h:Ar ky.mv vs ks):Ar ky.mv (vs++[ky.mv k t]) (ks++[k]):=by
 induction h with
 | nil=>exact .cons k t .nil
 | cons n u _ ih=>exact .cons n u ih
theorem rp {es:List (Int×Ψ)}{ks:List α}{k:α}(h:Ar ky.mv (es.map (·.2)) ks):es.any (fun e=>ky.knd.is k e.2)=ks.any (· == k):=by
 induction es generalizing ks with
 | nil=>cases h;rfl
 | cons e es ih=>
  obtain⟨c,v⟩:=e;cases h with
  | cons n t h=>
   rw[List.any_cons,List.any_cons,ih h,KeyKind.is_eq_decide (ky.is n t) k];congr 1;by_cases q:k=n
   ·subst q;simp
   ·simp[q,show ¬ n=k from fun z=>q z.symm]
theorem store {h:Heap}{a:Ω}{led:Bool}{σ FI:List α}{o:Obj}{es es':Array (Int×Ψ)}{ep:Nat}{t t':SetTable}(ho:h.get? a=Δ o)(D:GP ky led σ o es ep t)
  (el:ElemsOf ky.knd es'.toList) (sb:es'.size < scanBound) (fi:t'.fits es'.size=Θ) (tb:Tb led t') (pm:∃ ks,Ar ky.mv (vals es') ks/\ks.Perm FI) :
  (h.update a (Obj.putSet es' t')).get? a=Δ {o with data:=.set es' (ep+1) t'}/\GP ky led FI {o with data:=.set es' (ep+1) t'} es' (ep+1) t':=
 ⟨(SetOf_store (knd:=ky.knd) (S':=fun k=>es'.toList.any fun e=>ky.knd.is k e.2) ho D.ex D.da el (fun k=>by rw[List.any_eq_true]) sb fi).1,D.ex,rfl,el,sb,fi,tb,pm⟩
theorem lK {a:Ω}{led:Bool}{σ FI:List α}{o:Obj}{es Hh:Array (Int×Ψ)}{ep:Nat}{t t2:SetTable}{b:Bool}{g:Bool->Sem Unit}(hg:∀ (b:Bool)(FG:Α)(Q':Unit->Α->Prop),Q' () FG->Κ (Μ prog w) A (g b) Q' E FG)
  (ho:s.heap.get? a=Δ o) (D:GP ky led σ o es ep t) (el:ElemsOf ky.knd Hh.toList) (sb:Hh.size < scanBound) (fi:t2.fits Hh.size=Θ) (tb:Tb led t2) (pm:∃ ks,Ar ky.mv (vals Hh) ks/\ks.Perm FI)
  {R:Option Bool->Α->Prop} (h:∀ h',Heap.SameBut a s.heap h'->fG ky h' a led FI->R (Δ Θ) {s with heap:=h'}) :
  Κ (Μ prog w) A (do
    storeSet a Hh t2
    if (!b&&t2.tooFull)=Θ then do
      g (relayAll t2 Hh (SetTable.grown Hh.size)).2.2
      storeSet a (relayAll t2 Hh (SetTable.grown Hh.size)).1 (relayAll t2 Hh (SetTable.grown Hh.size)).2.1
      pure (Δ Θ)
     else pure (Δ Θ)) R E s:=by
 obtain⟨g1,D1⟩:=store ho D el sb fi tb pm;have b1:=aaz s.heap a (Obj.putSet Hh t2);refine a_ (wpAny_storeSet_of ho D.da ?_ (fits_of_scanBound sb));split
 ·have p2:=relayAll_perm t2 Hh (SetTable.grown Hh.size);have f2:=relayAll_fits t2 Hh (SetTable.grown Hh.size);have u2:=rh tb Hh (SetTable.grown Hh.size);generalize relayAll t2 Hh (SetTable.grown Hh.size)=Z at p2 f2 u2 ⊢;obtain⟨UX,t3,gv⟩:=Z;dsimp only at p2 f2 u2 ⊢;have sz:UX.size=Hh.size:=by rw[<- N_,p2.length_eq,N_]
  have UY:UX.size < scanBound:=by rw[sz];exact sb
  obtain⟨ks,k1,k2⟩:=pm;obtain⟨HF,k3,k4⟩:=gh (p2.map (·.2)) k1;obtain⟨g2,D2⟩:=store g1 D1 (el.perm p2) UY f2 u2 ⟨HF,k3,k4.trans k2⟩;refine a_ (hg _ _ _ (a_ (wpAny_storeSet_of g1 rfl ?_ (fits_of_scanBound UY))));exact e_ (h _ (b1.trans (aaz _ a _)) ⟨_,_,_,_,g2,D2⟩)
 ·exact e_ (h _ b1 ⟨_,_,_,_,g1,D1⟩)
theorem add_int {a:Ω}{led:Bool}{σ:List α}{k:α}{tk:Tok}{Q:Bool->Α->Prop}(hS:fG ky s.heap a led σ)(hr:σ.length+1 < scanBound)
  (h:∀ h',Heap.SameBut a s.heap h'->fG ky h' a led (step_dedup σ k)->∀ b,Q b {s with heap:=h'}) :
  Κ (Μ prog w) A (setAddHashed a (ky.mv k tk) (ky.knd.hash k)) Q E s:=by
 obtain⟨o,es,ep,t,ho,D⟩:=hS;obtain⟨ks,k1,k2⟩:=D.pm;have lk:es.size=ks.length:=by have:=Ar.length k1;rw[j_,N_] at this;exact this
 have N9:es.toList.any (fun e=>ky.knd.is k e.2)=σ.any (· == k):=(rp k1).trans (k2.any_eq);unfold setAddHashed setAddHashedIn;refine K_ (a_ (wpAny_setState_of ho D.da D.fi ?_));dsimp only;rw[byScan_of (x:=ky.mv k tk) (ky.sc k tk) D.sb D.el,f_ rfl];unfold setAddByScan;refine a_ (a_ (wpAny_rule (a_ (wpAny_setScan_of (ky.is k tk) ho D.da D.fi D.el ?_))));cases hq:List.findIdx? (fun e=>ky.knd.is k e.2) es.toList with
 | some j=>
  dsimp only;obtain⟨hj,XC,_⟩:=List.findIdx?_eq_some_iff_getElem.mp hq;have IV:σ.any (· == k)=Θ:=by rw[<- N9,List.any_eq_true];exact⟨_,aav hj,XC⟩
  have e2:step_dedup σ k=σ:=by unfold step_dedup;rw[f_ IV]
  refine e_ (e_ ?_);have z:=h s.heap (Heap.SameBut.refl a s.heap) (by rw[e2];exact⟨o,es,ep,t,ho,D⟩) Ξ;cases s;exact z
 | none=>
  dsimp only;have Rw:σ.any (· == k)=Ξ:=by rw[<- N9,List.any_eq_false];intro e he;have:=List.findIdx?_eq_none_iff.mp hq e he;rw[this];exact o_
  have e2:step_dedup σ k=σ++[k]:=by unfold step_dedup;rw[d_ (by rw[Rw];exact o_)]
  have p1:=layNew_perm t es (ky.knd.hash k) (ky.mv k tk);have f1:=layNew_fits t es (ky.knd.hash k) (ky.mv k tk);have u1:=Af D.tb es (ky.knd.hash k) (ky.mv k tk);generalize layNew t es (ky.knd.hash k) (ky.mv k tk)=L at p1 f1 u1 ⊢;obtain⟨Hh,t1,wd,gv⟩:=L;dsimp only at p1 f1 u1 ⊢;rw[Array.toList_push] at p1;have UZ:ElemsOf ky.knd Hh.toList:=(D.el.push (ky.is k tk) (ky.sc k tk)).perm p1;have XD:Hh.size=es.size+1:=by rw[<- N_,p1.length_eq,w_,N_];rfl
  have U0:Hh.size < scanBound:=by rw[XD,lk,k2.length_eq];exact hr
  have U1:∃ HF,Ar ky.mv (vals Hh) HF/\HF.Perm (step_dedup σ k):=by obtain⟨HF,k3,k4⟩:=gh (p1.map (·.2)) (by rw[T_];exact rl (k:=k) (t:=tk) k1);exact⟨HF,k3,k4.trans (by rw[e2];exact k2.append_right _)⟩
  refine a_ ((show ∀ (b:Bool) (FG:Α) (Q':Unit->Α->Prop),Q' () FG->Κ (Μ prog w) A (match b with|true=>rule "set.scan.the-table-gave-way" | false=>pure ()) Q' E FG from fun b FG Q' hq=>by cases b<;>first|exact e_ hq|exact wpAny_rule hq) _ _ _ ?_);have fin:∀ h',Heap.SameBut a s.heap h'->fG ky h' a led (step_dedup σ k)->Κ (Μ prog w) A (pure Θ) Q E {s with heap:=h'}:=fun h' hb Hk=>e_ (h h' hb Hk Θ);split
  ·rw[hashByValue_scannable 8 (x:=ky.mv k tk) (ky.sc k tk)];refine a_ (e_ (lK ?_ ho D UZ U0 ?_ ?_ U1 fun h' hb Hk=>?_))
   ·intro b FG Q' hq;cases b<;>first|exact e_ hq|exact wpAny_rule hq
   ·split
    ·exact f1
    ·exact SetTable.fits_plain_off f1
   ·split
    ·exact u1
    ·exact rj u1 _
   ·exact fin h' hb Hk
  ·refine a_ (e_ ?_);rw[f_ rfl];refine lK ?_ ho D UZ U0 f1 u1 U1 fun h' hb Hk=>fin h' hb Hk;intro b FG Q' hq;cases b<;>first|exact e_ hq|exact wpAny_rule hq
end
noncomputable abbrev cZ (w:Β):Bool:=w.params.followText "set-order"
section
variable {prog:Ε}{w:Β}{α:Type} [DecidableEq α] [Inhabited α]{ky:Ky prog w α}{A:Ι}{E:Ψ->Α->Prop}{s:Α}{R:Result->Α->Prop}{I:Ω}{fp wr:List Ω}{G:Array GenState->Array GenState->Prop}{n:Nat}{P:Nat->Ψ->Prop}{St:Nat->Α->Prop}
theorem fG.moved {h h':Heap}{a:Ω}{led:Bool}{σ:List α}(hS:fG ky h a led σ)(k:∀ o,h.get? a=Δ o->h'.get? a=Δ o):fG ky h' a led σ:=by obtain⟨o,es,ep,t,ho,D⟩:=hS;exact⟨o,es,ep,t,k o ho,D⟩
theorem jJ (l:List α):∀ σ:List α,(l.foldl step_dedup σ).length<=σ.length+l.length:=fun σ=>foldl_step_dedup_length_le σ l
theorem loop (W:WalksS prog w A.in1 I fp wr G n P St)(a:Ω)(ha:a∉fp){led:Bool}{ns:List α}(hv:∀ i v,P i v->∃ t,v=ky.mv (ns.getD i default) t)(hn:ns.length=n)(hb:n+1 < scanBound) :
  ∀ (k i:Nat) (s:Α),n - i=k->i<=n->St i s->fG ky s.heap a led ((ns.take i).foldl step_dedup [])->
   (∀ s',Moved (a::wr) G s s'->fG ky s'.heap a led (ns.foldl step_dedup [])->R (.ok (.ret .none)) s')->
   codeAny (Μ prog w) A (.builtin "set.update.loop" ⟨[.ref a,.ref I],[]⟩) R s:=by
 have U2:a∉wr:=fun z=>ha (W.sub _ z);have sub:∀ b∈wr,b∈a::wr:=fun b z=>G_ _ z;intro k
 induction k with
 | zero=>
  intro i s hk hi Gn hS hR;have e:i=n:=by omega
  subst e;rw[<- hn,List.take_length] at hS;refine codeAny_builtin F.entry_set_update_loop ?_;rw[aaH F.plain_set_update_loop _];show Κ _ A.in1 (pyNext (.ref I) >>= _) _ _ s;exact a_ (W.done s _ _ Gn fun s' hm=>show Κ _ A.in1 (ret Value.none) _ _ s' from e_ (hR s' (hm.mono sub) (hS.moved fun o e=>hm.heap a o U2 e)))
 | succ k ih=>
  intro i s hk hi Gn hS hR;have F0:i < n:=by omega
  refine codeAny_builtin F.entry_set_update_loop ?_;rw[aaH F.plain_set_update_loop _];show Κ _ A.in1 (pyNext (.ref I) >>= _) _ _ s;refine a_ (W.item i s _ _ F0 Gn fun v s' hP F6 hm=>?_);obtain⟨t,rfl⟩:=hv i v hP;have Rx:fG ky s'.heap a led ((ns.take i).foldl step_dedup []):=hS.moved fun o e=>hm.heap a o U2 e;show Κ _ A.in1 (holding [ky.mv (ns.getD i default) t] (setAdd a (ky.mv (ns.getD i default) t)) >>= _) _ _ s';unfold setAdd;refine a_ (K_ (K_ (a_ (ky.knd.pyHash (ky.is _ _) ?_))));have hlen:=jJ (ns.take i) [];rw[aan,List.length_nil] at hlen;refine add_int (s:={s' with toks:=s'.toks+1}) Rx (by omega) fun h' NW PQ b=>?_;have et:(ns.take (i+1)).foldl step_dedup []=step_dedup ((ns.take i).foldl step_dedup []) (ns.getD i default):=by
   have IG:i < ns.length:=by omega
   rw[List.take_succ,List.foldl_append,y_ IG,aaw,y_ IG];rfl
  rw[<- et] at PQ;refine e_ ⟨plainId_quiet F.plain_set_update_loop _,ih (i+1) _ (by omega) F0 (W.frame _ s' _ _ F6 (Nat.le_succ _) fun b hb o e=>?_) PQ fun Ka Mj Ry=>?_⟩
  ·rw[NW.2 b fun z=>ha (z ▸ hb)];exact e
  ·refine hR Ka (Moved.trans W.gtrans ((hm.mono sub).then_heap (Nat.le_succ _) fun b o hb e=>?_) Mj) Ry;rw[NW.2 b fun z=>hb (z ▸ aaD)];exact e
theorem rq (x:Ψ){Q1:Ψ->Α->Prop}(h:Q1 (.ref s.heap.objs.size) {s with heap:=s.heap.push {cls:=.type "set",dict:=Φ,data:=.set #[] 0 (.fresh 0 0 (!cZ w))}}) :
  codeAny (Μ prog w) A (.call (.builtin "set.__new__") ⟨[.type "set",x],[]⟩) (wants Q1 E) s:=by
 refine codeAny_of_tree (show Κ _ A.in1 (do checkBuiltinCall "set.__new__" ⟨[.type "set",x],[]⟩;again (.builtin "set.__new__" ⟨[.type "set",x],[]⟩)) _ _ s from a_ (wpAny_of_eq (F.newCall_set_1 x) (e_ ⟨plainId_quiet F.plain_set_new _,codeAny_builtin F.entry_set_new ?_⟩)));rw[aaH F.plain_set_new _];unfold Builtin.«set.__new__» Builtin.Frozenset.newClass;have hs1:=sub_set_self;obtain⟨hp,g,d,tk,os⟩:=s;dsimp only
 wp_walk
 refine wpAny_askSetting (e_ ?_);dsimp only;simp only[newObj];exact a_ (wpAny_alloc (e_ (e_ h)))
end
section
variable {prog:Ε}{w:Β}{α:Type} [DecidableEq α] [Inhabited α]{ky:Ky prog w α}{A:Ι}{E:Ψ->Α->Prop}{s:Α}
noncomputable abbrev oS (w:Β):Obj:={cls:=.type "set",dict:=Φ,data:=.set #[] 0 (.fresh 0 0 (!cZ w))}
theorem qe (h:Heap):fG ky (h.push (oS w)) h.objs.size (!cZ w) []:=
 ⟨_,#[],0,_,u_ _ rfl,⟨rfl,rfl,rfl⟩,rfl,fun e he=>by simp at he,by decide,rfl,rk _ _ _,[],.nil,.refl _⟩
theorem rz {l:Ω}{items:Array Ψ}{ns:List α}{Q:Ψ->Α->Prop}(hh:A.handled=Φ)(hl:s.heap.IsList l items)(hi:Ar ky.mv items.toList ns)(hb:items.size+1 < scanBound)
  (h:∀ (h':Heap) (tk:Nat),fG ky h' s.heap.objs.size (!cZ w) (ns.foldl step_dedup [])->(∀ b o,b < s.heap.objs.size->s.heap.get? b=Δ o->h'.get? b=Δ o)->Q (.ref s.heap.objs.size) {s with heap:=h',toks:=tk}) :
  Κ (Μ prog w) A (call (.type "set") [.ref l]) Q E s:=by
 obtain⟨c,tl,mro⟩:=F.called_set.mro;have made:=F.called_set.made;have sub:=F.called_set.sub;refine wpAny_call (codeAny_of_tree (show Κ _ _ (callAny (.type "set") _) _ _ _ from e_ ⟨Code.quiet_builtin _ (by decide +kernel),codeAny_builtin F.entry_type_call ?_⟩));rw[Around.under_plain (weight_type_call_type "set" [.ref l] []) rfl];have n1:=F.called_set.notType;have n2:=F.called_set.canCreate;have n3:=F.typeCall_set_1 (.ref l)
 repeat (any_goals (first|assumption|wp_step))
 refine codeAny_mono (rq (.ref l) (E:=E) (Q1:=fun obj s1=>obj=.ref s.heap.objs.size/\s1 = {s with heap:=s.heap.push (oS w)}) ⟨rfl,rfl⟩) fun r s1 hr=>?_;cases r with
 | error e=>exact hr
 | ok fl=>
  cases fl with
  | ret obj=>
   obtain⟨rfl,rfl⟩:=hr;have gS:(s.heap.push (oS w)).get? s.heap.objs.size=Δ (oS w):=u_ _ rfl;have hT:Shared.TypeIs {s with heap:=s.heap.push (oS w)} (.ref s.heap.objs.size) "set":=⟨_,gS,rfl⟩
   have i1:=F.called_set.init.lookup;have i2:=F.called_set.init.bind (.ref s.heap.objs.size)
   repeat (any_goals (first|assumption|wp_step))
   refine codeAny_mono (codeAny_call_builtin (R:=wants (fun r s2=>r=.none/\∃ h' tk,s2 = {s with heap:=h',toks:=tk}/\fG ky h' s.heap.objs.size (!cZ w) (ns.foldl step_dedup [])/\
     (∀ b o,b < s.heap.objs.size->s.heap.get? b=Δ o->h'.get? b=Δ o)) E) F.called_set.init.plain F.entry_set_init (check_set_init_1 hT ?_)) fun r2 s2 Rz=>?_
   ·obtain⟨ol,U3,U4,nl,U5⟩:=hl;obtain⟨XF,N',U6,Mk⟩:=ol;simp only at U4 U5;subst U4;subst U5;have RB:(s.heap.push (oS w)).get? l=Δ {cls:=.type "list",dict:=N',data:=.seq items nl,slots:=Mk}:=l_ _ U3;have w1:=F.sub_list_set;have w2:=F.sub_list_frozenset;have w3:(Value.type "list" == Value.type "dict")=Ξ:=by decide
    have PR:(s.heap.push (oS w)).IsList l items:=⟨_,RB,rfl,nl,rfl⟩
    unfold Builtin.«set.__init__» noKeywords Builtin.Frozenset.updateFrom;generalize XG:pyIter=PI
    wp_walk
    subst XG;refine aau PR (a_ (wpAny_runValue ?_));have lS:l < s.heap.objs.size:=i_ U3;have nI:l≠(s.heap.push (oS w)).objs.size:=by rw[S_];exact m_ (Nat.lt_succ_of_lt lS)
    have aS:s.heap.objs.size∉[(s.heap.push (oS w)).objs.size,l]:=by
     rw[S_];intro z;rcases k_.mp z with z|z
     ·exact m_ (Nat.lt_succ_self _) z
     ·exact O_ lS (t_.mp z)
    have hlen:ns.length=items.size:=by have:=Ar.length hi;rw[N_] at this;exact this.symm
    refine loop ((Walks.list (show A.in1.in1.in1.handled=Φ by simp[hh]) _ l nI items).toS) s.heap.objs.size aS (ns:=ns) (fun i v hv=>Ar.at hi i v (by rw[aat];exact hv)) hlen hb (items.size - 0) 0 _ (by omega) (aaa _)
     ⟨⟨_,u_ _ rfl,rfl,rfl⟩,(PR.push _)⟩ ((qe s.heap).moved fun o e=>l_ _ e) ?_
    intro s' hm Hk;obtain⟨h',g',d',XH,QT⟩:=s';have eg:g'=s.gens:=hm.gens;have ed:d'=s.drawn:=hm.drawn;have eo:QT=s.os:=hm.os;subst eg ed eo;show Κ _ _ _ _ _ _;refine e_ (show Κ _ _ (ret Value.none) _ _ _ from e_ ⟨rfl,h',XH,rfl,Hk,fun b o hb e=>?_⟩);refine hm.heap b o (fun z=>?_) (l_ _ (l_ _ e));rcases k_.mp z with z|z
    ·exact m_ hb z
    ·have:=t_.mp z;rw[S_] at this;exact m_ (Nat.lt_succ_of_lt hb) this
   ·cases r2 with
    | error e=>exact Rz
    | ok XI=>
     cases XI with
     | ret r=>
      obtain⟨rfl,h',tk,rfl,Hk,K2⟩:=Rz
      repeat (any_goals (first|assumption|wp_step))
      exact h _ _ Hk K2
     | _=>exact Rz.elim
  | _=>exact hr.elim
end
theorem cB:Slot "set_iterator" "__next__" "set_iterator.__next__":=.of (owner:="set_iterator") (n:="__next__")
 (by rw[typeLookup_type,builtinLookup_eq_fast];kernel_rfl) (by decide +kernel) (by decide +kernel) (by decide +kernel) (by first|exact .inl (by decide +kernel)|exact .inr (by decide +kernel)) (by rw[isSubtype_type];kernel_rfl)
theorem fV:Slot "set_iterator" "__iter__" "set_iterator.__iter__":=.of (owner:="set_iterator") (n:="__iter__")
 (by rw[typeLookup_type,builtinLookup_eq_fast];kernel_rfl) (by decide +kernel) (by decide +kernel) (by decide +kernel) (by first|exact .inl (by decide +kernel)|exact .inr (by decide +kernel)) (by rw[isSubtype_type];kernel_rfl)
theorem dE:entryFor table "set_iterator.__next__" = Δ Builtin.«set_iterator.__next__»:=entryFor_of_tree (by kernel_rfl)
theorem dO (a:Ψ):argsOk "set_iterator.__next__" ⟨[a],[]⟩:=by unfold argsOk;kernel_rfl
theorem kC:entryFor table "set.__iter__" = Δ Builtin.«frozenset.__iter__»:=
 entryFor_alias (id':="frozenset.__iter__") (by kernel_rfl) (by first|rfl|decide +kernel|(unfold String.splitOn;simp +decide [String.splitOnAux])) (by decide +kernel) (by kernel_rfl)
section
variable {prog:Ε}{w:Β}{α:Type} [DecidableEq α] [Inhabited α]{ky:Ky prog w α}{A:Ι}{E:Ψ->Α->Prop}{s:Α}
noncomputable abbrev Kf (first:Ψ)(i n:Nat)(a:Ω)(ep:Nat):Obj:={cls:=.type "set_iterator",data:=.fields #[first,rawInt i,.ref a,rawInt n,rawInt ep]}
theorem ij {Q:Bool->Α->Prop}(h:Q (cZ w) s):Κ (Μ prog w) A setsByText Q E s:=by unfold setsByText;exact a_ (wpAny_askSetting (e_ h))
theorem qf {a:Ω}{σ:List α}{o:Obj}{es:Array (Int×Ψ)}{ep:Nat}{t:SetTable}{led:Bool}{Q:Array (Int×Ψ)->Α->Prop}(hb:cZ w=Θ)(ho:s.heap.get? a=Δ o)(D:GP ky led σ o es ep t)
  (h:Q (pickOrder (w.params.setOrder a ep) es) s):Κ (Μ prog w) A (setWalk a) Q E s:=by
 unfold setWalk;refine a_ (wpAny_setState_of ho D.da D.fi ?_);dsimp only;refine a_ (ij ?_);rw[hb,f_ rfl];exact a_ (wpAny_askSetting (e_ h))
theorem jK {a:Ω}{σ:List α}{o:Obj}{es:Array (Int×Ψ)}{ep slot i:Nat}{t:SetTable}{led:Bool}{Q:Option (Ψ×Nat)->Α->Prop}(hb:cZ w=Θ)(ho:s.heap.get? a=Δ o)(D:GP ky led σ o es ep t)
  (h:Q (((pickOrder (w.params.setOrder a ep) es)[i]?).map fun e=>(e.2,slot)) s):Κ (Μ prog w) A (setNext a slot i ep) Q E s:=by
 unfold setNext;refine a_ (wpAny_setState_of ho D.da D.fi ?_);dsimp only;refine a_ (ij ?_);rw[hb,f_ rfl];rw[d_ (by rw[bne_self_eq_false];exact o_)];exact a_ (qf hb ho D (e_ h))
theorem iH {a:Ω}{σ:List α}{o:Obj}{es:Array (Int×Ψ)}{ep slot i:Nat}{t:SetTable}{Q:Option (Ψ×Nat)->Α->Prop}(hb:cZ w=Ξ)(ho:s.heap.get? a=Δ o)(D:GP ky (!cZ w) σ o es ep t)
  (hd:(!t.plain&&decide (es.size > 1))=Ξ)
  (h:Q (match es[SetTable.below t.place slot]?,t.place[SetTable.below t.place slot]? with
   | some (_,x),Δ j=>Δ (x,j+1)
   | _,_=>Φ) s):Κ (Μ prog w) A (setNext a slot i ep) Q E s:=by
 unfold setNext;refine a_ (wpAny_setState_of ho D.da D.fi ?_);dsimp only;refine a_ (ij ?_);rw[hb,d_ o_];refine a_ (e_ ?_);show Κ _ _ (if (!t.plain&&decide (es.size > 1))=Θ then _ else _) _ _ _;rw[hd,d_ o_];have hl:t.led=Θ:=by rw[D.tb.ld,hb];rfl
 show Κ _ _ ((if (!t.led&&!es.isEmpty)=Θ then _ else _) >>= _) _ _ _;rw[hl];exact a_ (e_ (e_ h))
end
section
variable {prog:Ε}{w:Β}{α:Type} [DecidableEq α] [Inhabited α]{ky:Ky prog w α}{A:Ι}{E:Ψ->Α->Prop}{s:Α}{it a:Ω}{i n ep slot:Nat}{σ:List α}{o:Obj}{es:Array (Int×Ψ)}{t:SetTable}{led:Bool}
theorem stop {M:Model}{A:Ι}{h:Heap}{hh:A.handled=Φ}{R:Fin->Α->Prop}{R':Ψ->Α->Prop}(hQ:∀ h' e,(∀ b o,s.heap.get? b=Δ o->h'.get? b=Δ o)->(∃ o,h'.get? e=Δ o/\o.cls=.type "StopIteration")->R' (.ref e) {s with heap:=h'}) :
  Κ M A (do raiseNew (<- newExc (.type "StopIteration") [])) R R' s:=by
 refine a_ ?_;simp only[newExc,newTuple];refine a_ (aar ?_ (by size_fits));refine a_ (m:=firstArgMember _ _) (wpAny_of_eq (a:=Value.none) (by first|rfl|(simp only[firstArgMember];rfl)) (aar ?_ (by size_fits)));simp only[raiseNew];refine a_ (wpAny_handled ?_);rw[hh];exact a_ (e_ (wpAny_throw (hQ _ _ (fun b o e=>l_ _ (l_ _ e)) ⟨_,u_ _ rfl,rfl⟩)))
theorem ox {nx:Nat}{x:Ψ}(hit:s.heap.get? it=Δ (Kf (rawInt slot) i n a ep))(ho:s.heap.get? a=Δ o)(D:GP ky led σ o es ep t)(hn:es.size=n)
  (hs:∀ (A':Ι) (E':Ψ->Α->Prop) (Q':Option (Ψ×Nat)->Α->Prop),Q' (Δ (x,nx)) s->Κ (Μ prog w) A' (setNext a slot i ep) Q' E' s) {Q:Option Ψ->Α->Prop}
  (h:∀ h',h'.get? it=Δ (Kf (rawInt nx) (i+1) n a ep)->Heap.SameBut it s.heap h'->Q (Δ x) {s with heap:=h'}):Κ (Μ prog w) A (pyNext (.ref it)) Q E s:=by
 have hT:s.TypeIs (.ref it) "set_iterator":=⟨_,hit,rfl⟩
 unfold pyNext;refine a_ (wpAny_attempt (wpAny_callSpecial?_slot (name:=Ρ "__next__") hT cB (aab cB hT dE ?_ (dO _))));show Κ _ _ (fieldsOf (.ref it) >>= _) _ _ s;refine a_ (wpAny_fieldsOf hit rfl ?_);show Κ _ _ (setEntries a >>= _) _ _ s;refine a_ (wpAny_setEntries_of ho D.da D.fi ?_);rw[d_ (by rw[hn];simp)];show Κ _ _ (setNext a slot i ep >>= _) _ _ s;refine a_ (hs _ _ _ ?_);show Κ _ _ (setField (.ref it) 0 (rawInt nx) >>= _) _ _ s;refine a_ (aac hit (by simp) fun h1 g1 b1=>?_);refine a_ (aac g1 (by simp) fun h2 g2 b2=>?_);exact e_ ⟨x,rfl,e_ (h h2 g2 (b1.trans b2))⟩
theorem oy (hh:A.handled=Φ)(hit:s.heap.get? it=Δ (Kf (rawInt slot) i n a ep))(ho:s.heap.get? a=Δ o)(D:GP ky led σ o es ep t)(hn:es.size=n)
  (hs:∀ (A':Ι) (E':Ψ->Α->Prop) (Q':Option (Ψ×Nat)->Α->Prop),Q' Φ s->Κ (Μ prog w) A' (setNext a slot i ep) Q' E' s) {Q:Option Ψ->Α->Prop}
  (h:∀ h',(∀ b o,b≠it->s.heap.get? b=Δ o->h'.get? b=Δ o)->Q Φ {s with heap:=h'}):Κ (Μ prog w) A (pyNext (.ref it)) Q E s:=by
 have hT:s.TypeIs (.ref it) "set_iterator":=⟨_,hit,rfl⟩
 unfold pyNext;refine a_ (wpAny_attempt (wpAny_callSpecial?_slot (name:=Ρ "__next__") hT cB (aab cB hT dE ?_ (dO _))));show Κ _ _ (fieldsOf (.ref it) >>= _) _ _ s;refine a_ (wpAny_fieldsOf hit rfl ?_);show Κ _ _ (setEntries a >>= _) _ _ s;refine a_ (wpAny_setEntries_of ho D.da D.fi ?_);rw[d_ (by rw[hn];simp)];show Κ _ _ (setNext a slot i ep >>= _) _ _ s;refine a_ (hs _ _ _ ?_);show Κ _ _ (setField (.ref it) 2 .none >>= _) _ _ s;refine a_ (aac hit (by simp) fun h1 g1 b1=>?_);refine stop (h:=h1) (hh:=show A.in1.handled=Φ from hh) (s:={s with heap:=h1}) fun h' e k he=>?_;obtain⟨oe,ge,ce⟩:=he;refine a_ (wpAny_isInstance (T:="StopIteration") (b:=Θ) ⟨_,ge,ce⟩ isSubtype_stop ?_);exact e_ (h h' fun b o hb e=>k b o (b1.extBut b o hb e))
end
section
variable {prog:Ε}{w:Β}{α:Type} [DecidableEq α] [Inhabited α]{ky:Ky prog w α}{A:Ι}{E:Ψ->Α->Prop}{s:Α}{it a T:Ω}{i n ep slot:Nat}{σ:List α}{o:Obj}{es:Array (Int×Ψ)}{t:SetTable}{led:Bool}
noncomputable abbrev Ml (ps:List Nat):Obj:={cls:=.type "tuple",data:=.seq (ps.map fun (k:Nat)=>rawInt k).toArray}
theorem nu {pl:Nat}{c:Int}{x:Ψ}{Q:Ψ->Α->Prop}(ho:s.heap.get? a=Δ o)(D:GP ky led σ o es ep t)(he:es[pl]? = Δ (c,x))(h:Q x s):Κ (Μ prog w) A (setNextDrawn a pl ep) Q E s:=by unfold setNextDrawn;refine a_ (wpAny_setState_of ho D.da D.fi ?_);dsimp only;rw[d_ (by rw[bne_self_eq_false];exact o_)];rw[he];exact e_ h
theorem rA {ps:List Nat}{pl:Nat}{c:Int}{x:Ψ}(hit:s.heap.get? it=Δ (Kf (.ref T) i n a ep))(hT:s.heap.get? T=Δ (Ml ps))(ho:s.heap.get? a=Δ o)(D:GP ky led σ o es ep t)(hn:es.size=n)
  (hp:ps[i]? = Δ pl) (he:es[pl]? = Δ (c,x)) {Q:Option Ψ->Α->Prop}
  (h:∀ h',h'.get? it=Δ (Kf (.ref T) (i+1) n a ep)->Heap.SameBut it s.heap h'->Q (Δ x) {s with heap:=h'}):Κ (Μ prog w) A (pyNext (.ref it)) Q E s:=by
 have Oa:s.TypeIs (.ref it) "set_iterator":=⟨_,hit,rfl⟩
 unfold pyNext;refine a_ (wpAny_attempt (wpAny_callSpecial?_slot (name:=Ρ "__next__") Oa cB (aab cB Oa dE ?_ (dO _))));show Κ _ _ (fieldsOf (.ref it) >>= _) _ _ s;refine a_ (wpAny_fieldsOf hit rfl ?_);show Κ _ _ (setEntries a >>= _) _ _ s;refine a_ (wpAny_setEntries_of ho D.da D.fi ?_);rw[d_ (by rw[hn];simp)];show Κ _ _ (seqItems? (.ref T) >>= _) _ _ s;refine a_ (W_ hT rfl ?_);dsimp only;have e:((ps.map fun (k:Nat)=>rawInt k).toArray)[((i:Nat):Int).toNat]? = Δ (rawInt pl):=by simp[hp]
 rw[e];show Κ _ _ (setNextDrawn a pl ep >>= _) _ _ s;refine a_ (nu ho D he ?_);refine a_ (aac hit (by simp) fun h1 g1 b1=>?_);exact e_ ⟨x,rfl,e_ (h h1 g1 b1)⟩
theorem rB {ps:List Nat}(hh:A.handled=Φ)(hit:s.heap.get? it=Δ (Kf (.ref T) i n a ep))(hT:s.heap.get? T=Δ (Ml ps))(ho:s.heap.get? a=Δ o)(D:GP ky led σ o es ep t)(hn:es.size=n)
  (hp:ps[i]? = Φ) {Q:Option Ψ->Α->Prop}
  (h:∀ h',(∀ b o,b≠it->s.heap.get? b=Δ o->h'.get? b=Δ o)->Q Φ {s with heap:=h'}):Κ (Μ prog w) A (pyNext (.ref it)) Q E s:=by
 have Oa:s.TypeIs (.ref it) "set_iterator":=⟨_,hit,rfl⟩
 unfold pyNext;refine a_ (wpAny_attempt (wpAny_callSpecial?_slot (name:=Ρ "__next__") Oa cB (aab cB Oa dE ?_ (dO _))));show Κ _ _ (fieldsOf (.ref it) >>= _) _ _ s;refine a_ (wpAny_fieldsOf hit rfl ?_);show Κ _ _ (setEntries a >>= _) _ _ s;refine a_ (wpAny_setEntries_of ho D.da D.fi ?_);rw[d_ (by rw[hn];simp)];show Κ _ _ (seqItems? (.ref T) >>= _) _ _ s;refine a_ (W_ hT rfl ?_);dsimp only;have e:((ps.map fun (k:Nat)=>rawInt k).toArray)[((i:Nat):Int).toNat]? = Φ:=by have:=hp;simp at this ⊢;exact this
 rw[e];show Κ _ _ (setField (.ref it) 0 (rawInt 0) >>= _) _ _ s;refine a_ (aac hit (by simp) fun h1 g1 b1=>?_);refine a_ (aac g1 (by simp) fun h2 g2 b2=>?_);refine stop (h:=h2) (hh:=show A.in1.handled=Φ from hh) (s:={s with heap:=h2}) fun h' e k he=>?_;obtain⟨oe,ge,ce⟩:=he;refine a_ (wpAny_isInstance (T:="StopIteration") (b:=Θ) ⟨_,ge,ce⟩ isSubtype_stop ?_);exact e_ (h h' fun b o hb e=>k b o (b2.extBut b o hb (b1.extBut b o hb e)))
theorem iI {α:Type}(l:List α):∀ (j:Nat) (h:j < l.length),(l[j]::l.eraseIdx j).Perm l:=by
 induction l with
 | nil=>intro j h;cases h
 | cons a l ih=>
  intro j h;cases j with
  | zero=>exact .refl _
  | succ j=>
   have h':j < l.length:=by simpa using h
   exact(List.Perm.swap a l[j] (l.eraseIdx j)).trans (List.Perm.cons a (ih j h'))
theorem qg {α:Type}(f:Nat->Nat):∀ (fuel k:Nat) (left:List α) (out:Array α),left.length<=fuel->(pickOrder.go f fuel k left out).toList.Perm (out.toList++left):=by
 intro fuel
 induction fuel with
 | zero=>intro k left out h;have:left=[]:=List.length_eq_zero_iff.mp (by omega);subst this;unfold pickOrder.go;rw[aaj]
 | succ n ih=>
  intro k left out h;unfold pickOrder.go;cases left with
  | nil=>simp
  | cons y l=>have F0:f k % (y::l).length < (y::l).length:=Nat.mod_lt _ (by simp);generalize f k % (y::l).length=j at F0;rw[y_ F0];dsimp only;refine(ih (k+1) _ _ (by rw[List.length_eraseIdx_of_lt F0];simp at h ⊢;omega)).trans ?_;rw[Array.toList_push,C_];refine aal _ ?_;exact(iI _ _ F0)
theorem gk {α:Type}(f:Nat->Nat)(xs:Array α):(pickOrder f xs).toList.Perm xs.toList:=by have:=qg f xs.size 0 xs.toList #[] (by simp);rw[show (#[]:Array α).toList++xs.toList=xs.toList by simp] at this;exact this
theorem qh {src:Source}{m:Nat}{Q:Nat->Α->Prop}(hm:m≠0)(h:∀ k d,k < m->Q k {s with drawn:=d}):Κ (Μ prog w) A (choose src m) Q E s:=fun Γ p hΓ=>
 show m≠0/\Q _ _ from ⟨hm,h _ _ (Nat.mod_lt _ (Nat.pos_of_ne_zero hm))⟩
theorem vT {α:Type}{Q:List α->Α->Prop}:∀ (m:Nat) (xs:List α) (s:Α),xs.length=m->(∀ ys d,ys.Perm xs->Q ys {s with drawn:=d})->Κ (Μ prog w) A (drawOrder m xs) Q E s:=by
 intro m
 induction m generalizing Q with
 | zero=>intro xs s hx h;have:xs=[]:=List.length_eq_zero_iff.mp hx;subst this;exact e_ (by cases s;exact h [] _ (.refl _))
 | succ m ih=>
  intro xs s hx h;cases xs with
  | nil=>cases hx
  | cons y l=>unfold drawOrder;refine a_ (qh (by simp) fun k d hk=>?_);rw[y_ hk];dsimp only;refine a_ (ih _ _ (by rw[List.length_eraseIdx_of_lt hk];simp at hx ⊢;omega) fun ys d' hy=>e_ ?_);exact h _ d' ((List.Perm.cons _ hy).trans (iI _ _ hk))
end
theorem iJ:entryFor table "set_iterator.__iter__" = Δ Builtin.«dict_keyiterator.__iter__»:=
 entryFor_alias (id':="dict_keyiterator.__iter__") (by kernel_rfl) (by first|rfl|decide +kernel|(unfold String.splitOn;simp +decide [String.splitOnAux])) (by decide +kernel) (by kernel_rfl)
theorem jv (a:Ψ):argsOk "set_iterator.__iter__" ⟨[a],[]⟩:=by unfold argsOk;kernel_rfl
section
variable {prog:Ε}{w:Β}{α:Type} [DecidableEq α] [Inhabited α]{ky:Ky prog w α}{A:Ι}{E:Ψ->Α->Prop}{s:Α}{it a T:Ω}{i n ep slot:Nat}{σ:List α}{o:Obj}{es:Array (Int×Ψ)}{t:SetTable}{led:Bool}
theorem iK {f:Ψ}{Q:Ψ->Α->Prop}(hit:s.heap.get? it=Δ (Kf f i n a ep))(h:Q (.ref it) s):Κ (Μ prog w) A (pyIter (.ref it)) Q E s:=by
 have hT:s.TypeIs (.ref it) "set_iterator":=⟨_,hit,rfl⟩
 refine wpAny_pyIter_slot hT fV (aab fV hT iJ ?_ (jv _));exact e_ ⟨_,rfl,"set_iterator",_,hT,cB.lookup,h⟩
theorem oz {xs:Array Nat}{j p q:Nat}(h1:Cut xs j p)(h2:Cut xs j q):p=q:=by
 have key:∀ p q:Nat,Cut xs j p->Cut xs j q->¬ p < q:=fun p q h1 h2 h=>by
  have hl:p < xs.size:=z_ h h2.le;have e:xs[p]? = Δ xs[p]:=by simp[hl]
  have:=h2.lo p _ h e;have:=h1.hi p _ (n_ _) e;omega
 have:=key p q h1 h2;have:=key q p h2 h1;omega
theorem B6 (hh:A.handled=Φ)(hb:cZ w=Θ)(D:GP ky led σ o es ep t)(Hg:a≠it) :
  Walks prog w A it [it,a] [it] es.size (fun i v=>((pickOrder (w.params.setOrder a ep) es).toList.map (·.2))[i]? = Δ v) (fun i h=>h.get? it=Δ (Kf (rawInt 0) i es.size a ep)/\h.get? a=Δ o) where
 sub:=fun b hb=>by rw[t_.mp hb];exact aaD
 frame:=fun _ _ _ st k=>⟨k it (by simp) _ st.1,k a (by simp) _ st.2⟩
 item:=fun i s Q E hi st hQ=>by
  have hl:(pickOrder (w.params.setOrder a ep) es).size=es.size:=by rw[<- N_,(gk _ es).length_eq,N_]
  have e:(pickOrder (w.params.setOrder a ep) es)[i]? = Δ (pickOrder (w.params.setOrder a ep) es)[i]:=by simp[hl,hi]
  refine ox (x:=(pickOrder (w.params.setOrder a ep) es)[i].2) (nx:=0) st.1 st.2 D rfl (fun A' E' Q' q=>jK hb st.2 D (by rw[e];exact q)) fun h' g b=>?_;exact hQ _ h' s.toks (by rw[B_,aat,e];rfl) ⟨g,b.extBut a o Hg st.2⟩ fun c o hc e=>b.extBut c o (fun z=>hc (by simp[z])) e
 done:=fun s Q E st hQ=>by
  have hl:(pickOrder (w.params.setOrder a ep) es).size=es.size:=by rw[<- N_,(gk _ es).length_eq,N_]
  have e:(pickOrder (w.params.setOrder a ep) es)[es.size]? = Φ:=by simp[hl]
  exact oy hh st.1 st.2 D rfl (fun A' E' Q' q=>jK hb st.2 D (by rw[e];exact q)) fun h' k=>hQ h' s.toks fun c o hc e=>k c o (fun z=>hc (by simp[z])) e
 self:=fun _ _ _ _ st hQ=>iK st.1 hQ
noncomputable def jL (t:SetTable):Nat->Nat
 | 0=>0
 | i+1=>t.place.getD i 0+1
theorem jM (u:Up t.place)(hi:i<=t.place.size):Cut t.place (jL t i) i:=by
 cases i with
 | zero=>exact⟨hi,fun i x h=>absurd h (Nat.not_lt_zero i),fun i x _ _=>aaa _⟩
 | succ k=>
  have hk:k < t.place.size:=by omega
  have e:t.place[k]? = Δ t.place[k]:=by simp[hk]
  have eg:t.place.getD k 0=t.place[k]:=by simp[Array.getD,hk]
  refine⟨hi,fun j x hj hx=>?_,fun j x hj hx=>?_⟩
  ·show x < t.place.getD k 0+1;rw[eg];by_cases q:j=k
   ·subst q;rw[e] at hx;cases hx;omega
   ·have:=u j k x _ (by omega) hx e;omega
  ·show t.place.getD k 0+1<=x;rw[eg];have:=u k j _ x (by omega) e hx;omega
theorem B7 (hh:A.handled=Φ)(hb:cZ w=Ξ)(D:GP ky (!cZ w) σ o es ep t)(hd:(!t.plain&&decide (es.size > 1))=Ξ)(Hg:a≠it) :
  Walks prog w A it [it,a] [it] es.size (fun i v=>(vals es)[i]? = Δ v) (fun i h=>h.get? it=Δ (Kf (rawInt (jL t i)) i es.size a ep)/\h.get? a=Δ o) where
 sub:=fun b hb=>by rw[t_.mp hb];exact aaD
 frame:=fun _ _ _ st k=>⟨k it (by simp) _ st.1,k a (by simp) _ st.2⟩
 item:=fun i s Q E hi st hQ=>by
  have hz:t.place.size=es.size:=by have:=D.fi;unfold SetTable.fits at this;rw[g_] at this;exact h_ this.1
  have hp:i < t.place.size:=by omega
  have eb:SetTable.below t.place (jL t i)=i:=oz (gU D.tb.up _) (jM D.tb.up (Nat.le_of_lt hp));have e1:es[i]? = Δ (es[i].1,es[i].2):=by simp[hi]
  have e2:t.place[i]? = Δ t.place[i]:=by simp[hp]
  have e3:jL t (i+1)=t.place[i]+1:=by show t.place.getD i 0+1=_;simp[Array.getD,hp]
  refine ox (x:=es[i].2) (nx:=jL t (i+1)) st.1 st.2 D rfl (fun A' E' Q' q=>iH hb st.2 D hd (by rw[eb,e1,e2];rw[e3] at q;exact q)) fun h' g b=>?_;exact hQ _ h' s.toks (by rw[B_,aat,e1];rfl) ⟨g,b.extBut a o Hg st.2⟩ fun c o hc e=>b.extBut c o (fun z=>hc (by simp[z])) e
 done:=fun s Q E st hQ=>by
  have hz:t.place.size=es.size:=by have:=D.fi;unfold SetTable.fits at this;rw[g_] at this;exact h_ this.1
  have eb:SetTable.below t.place (jL t es.size)=es.size:=oz (gU D.tb.up _) (jM D.tb.up (by omega));have e1:es[es.size]? = Φ:=by simp
  exact oy hh st.1 st.2 D rfl (fun A' E' Q' q=>iH hb st.2 D hd (by rw[eb,e1];exact q)) fun h' k=>hQ h' s.toks fun c o hc e=>k c o (fun z=>hc (by simp[z])) e
 self:=fun _ _ _ _ st hQ=>iK st.1 hQ
theorem B8 (hh:A.handled=Φ)(D:GP ky led σ o es ep t){ps:List Nat}(hp:ps.Perm (List.range es.size))(Hg:a≠it)(XJ:T≠it) :
  Walks prog w A it [it,a,T] [it] es.size (fun i v=>(ps.map fun k=>(es.getD k (0,.none)).2)[i]? = Δ v) (fun i h=>h.get? it=Δ (Kf (.ref T) i es.size a ep)/\h.get? a=Δ o/\h.get? T=Δ (Ml ps)) where
 sub:=fun b hb=>by rw[t_.mp hb];exact aaD
 frame:=fun _ _ _ st k=>⟨k it (by simp) _ st.1,k a (by simp) _ st.2.1,k T (by simp) _ st.2.2⟩
 item:=fun i s Q E hi st hQ=>by
  have hl:ps.length=es.size:=by rw[hp.length_eq,aam]
  have IG:i < ps.length:=by omega
  have F0:ps[i] < es.size:=Y_.mp (hp.mem_iff.mp (aav IG));have e1:ps[i]? = Δ ps[i]:=y_ IG;have e2:es[ps[i]]? = Δ (es[ps[i]].1,es[ps[i]].2):=by simp[F0]
  refine rA st.1 st.2.2 st.2.1 D rfl e1 e2 fun h' g b=>?_;exact hQ _ h' s.toks (by rw[B_,e1];simp[Array.getD,F0]) ⟨g,b.extBut a o Hg st.2.1,b.extBut T _ XJ st.2.2⟩ fun c o hc e=>b.extBut c o (fun z=>hc (by simp[z])) e
 done:=fun s Q E st hQ=>by
  have hl:ps.length=es.size:=by rw[hp.length_eq,aam]
  exact rB hh st.1 st.2.2 st.2.1 D rfl (by rw[List.getElem?_eq_none];omega) fun h' k=>hQ h' s.toks fun c o hc e=>k c o (fun z=>hc (by simp[z])) e
 self:=fun _ _ _ _ st hQ=>iK st.1 hQ
end
section
variable {prog:Ε}{w:Β}{α:Type} [DecidableEq α] [Inhabited α]{ky:Ky prog w α}{A:Ι}{E:Ψ->Α->Prop}{s:Α}{it a T:Ω}{i n ep slot:Nat}{σ:List α}{o:Obj}{es:Array (Int×Ψ)}{t:SetTable}{led:Bool}
structure RC {prog:Ε}{w:Β}{α:Type} [DecidableEq α](ky:Ky prog w α)(A:Ι)(a:Ω)(σ:List α)(h h1:Heap)(it:Ω)(seq:List Ψ)(n:Nat)(fp:List Ω)(St:Nat->Heap->Prop):Prop where
 keep:∀ b o,h.get? b=Δ o->h1.get? b=Δ o
 new:h.get? it=Φ
 pm:∃ ks,Ar ky.mv seq ks/\ks.Perm σ
 ln:seq.length=n
 wk:Walks prog w A it fp [it] n (fun i v=>seq[i]? = Δ v) St
 st:St 0 h1
 XM:∀ b∈fp,b=a∨h.get? b=Φ
theorem gm (h:Heap):h.get? h.objs.size=Φ:=by
 cases e:h.get? h.objs.size with
 | none=>rfl
 | some o=>exact absurd (i_ e) (R_ _)
theorem lL (h:Heap)(o:Obj):h.get? (h.push o).objs.size=Φ:=by
 cases e:h.get? (h.push o).objs.size with
 | none=>rfl
 | some o'=>have:=i_ e;rw[S_] at this;exact absurd this (Nat.not_lt.mpr (Nat.le_succ _))
theorem map_range (es:Array (Int×Ψ)):(List.range es.size).map (fun k=>(es.getD k (0,.none)).2)=vals es:=by
 apply List.ext_getElem?;intro j;rw[B_,B_];by_cases h:j < es.size
 ·rw[List.getElem?_range h];simp[Array.getD,h]
 ·rw[List.getElem?_eq_none (by simp;omega)];simp[h]
theorem rC (hh:A.handled=Φ)(hS:fG ky s.heap a (!cZ w) σ){Q:Ψ->Α->Prop}(h:∀ h1 d it seq n fp St,RC ky A a σ s.heap h1 it seq n fp St->Q (.ref it) {s with heap:=h1,drawn:=d}) :
  Κ (Μ prog w) A (pyIter (.ref a)) Q E s:=by
 obtain⟨o,es,ep,t,ho,D⟩:=hS;obtain⟨ks,k1,k2⟩:=D.pm;have hT:s.TypeIs (.ref a) "set":=⟨_,ho,D.ex.1⟩
 have alt:a < s.heap.objs.size:=i_ ho;refine wpAny_pyIter_slot hT F.slot_set_iter (aab F.slot_set_iter hT kC ?_ (F.args_set_iter_1 _));show Κ _ _ (Builtin.Frozenset.sizeOf a >>= _) _ _ s;unfold Builtin.Frozenset.sizeOf;refine a_ (a_ (wpAny_setEntries_of ho D.da D.fi (e_ ?_)));have RE:∀ {f:Ψ}{h1:Heap}{d:Drawn}{x:Ω},h1.get? x=Δ (Kf f 0 es.size a ep)->Shared.TypeIs {s with heap:=h1,drawn:=d} (.ref x) "set_iterator":=fun e=>⟨_,e,rfl⟩
 show Κ _ _ (setDrawn a >>= _) _ _ s;unfold setDrawn;refine a_ (a_ (wpAny_setState_of ho D.da D.fi ?_));dsimp only;refine a_ (ij (e_ ?_));cases hb:cZ w with
 | true=>
  show Κ _ _ (if (!Θ&&_)=Θ then _ else _) _ _ _;rw[Bool.not_true,Bool.false_and,d_ o_];refine a_ (e_ (a_ (wpAny_setEpoch_of ho D.da D.fi (a_ (aar ?_ (by size_fits))))));obtain⟨HF,k3,k4⟩:=gh ((gk (w.params.setOrder a ep) es).map (·.2)) k1;have hl:((pickOrder (w.params.setOrder a ep) es).toList.map (·.2)).length=es.size:=by rw[j_,(gk _ es).length_eq,N_]
  have W:=B6 (A:=A) (it:=s.heap.objs.size) hh hb D (m_ alt)
  exact e_ ⟨_,rfl,"set_iterator",_,RE (d:=s.drawn) (u_ _ rfl),cB.lookup,h _ s.drawn s.heap.objs.size _ _ _ _
   ⟨fun b o e=>l_ _ e,gm _,⟨HF,k3,k4.trans k2⟩,hl,W,⟨u_ _ rfl,l_ _ ho⟩,fun b hb=>by
    rcases k_.mp hb with e|hb
    ·rw[e];exact .inr (gm _)
    ·exact .inl (t_.mp hb)⟩⟩
 | false=>
  cases hd:(!t.plain&&decide (es.size > 1)) with
  | false=>
   show Κ _ _ (if (!Ξ&&(!t.plain&&decide (es.size > 1)))=Θ then _ else _) _ _ _;rw[hd,Bool.and_false,d_ o_];refine a_ (e_ (a_ (wpAny_setEpoch_of ho D.da D.fi (a_ (aar ?_ (by size_fits))))));have hl:(vals es).length=es.size:=by rw[j_,N_]
   have W:=B7 (A:=A) (it:=s.heap.objs.size) hh hb D hd (m_ alt)
   exact e_ ⟨_,rfl,"set_iterator",_,RE (d:=s.drawn) (u_ _ rfl),cB.lookup,h _ s.drawn s.heap.objs.size _ _ _ _
    ⟨fun b o e=>l_ _ e,gm _,⟨ks,k1,k2⟩,hl,W,⟨u_ _ rfl,l_ _ ho⟩,fun b hb=>by
     rcases k_.mp hb with e|hb
     ·rw[e];exact .inr (gm _)
     ·exact .inl (t_.mp hb)⟩⟩
  | true=>
   show Κ _ _ (if (!Ξ&&(!t.plain&&decide (es.size > 1)))=Θ then _ else _) _ _ _;rw[hd,Bool.not_false,Bool.and_self,f_ rfl];have hz:=fits_of_scanBound D.sb;refine a_ (vT _ _ _ aam fun ps d hp=>?_);have RF:ps.length=es.size:=by rw[hp.length_eq,aam]
   have U7:(s.heap.push (Ml ps)).get? a=Δ o:=l_ _ ho;refine a_ (wpAny_newTuple (a_ (wpAny_setEpoch_of U7 D.da D.fi (a_ (aar ?_ (by size_fits))))) (by rw[j_,RF];exact hz));have pv:(ps.map fun k=>(es.getD k (0,.none)).2).Perm (vals es):=by rw[<- map_range];exact hp.map _
   obtain⟨HF,k3,k4⟩:=gh pv k1;have hl:(ps.map fun k=>(es.getD k (0,.none)).2).length=es.size:=by rw[j_,RF]
   have hsz:(s.heap.push (Ml ps)).objs.size=s.heap.objs.size+1:=S_ ..;have W:=B8 (A:=A) (T:=s.heap.objs.size) (it:=(s.heap.push (Ml ps)).objs.size) hh D hp (by rw[hsz];exact m_ (Nat.lt_succ_of_lt alt)) (by rw[hsz];exact m_ (Nat.lt_succ_self _))
   exact e_ ⟨_,rfl,"set_iterator",_,RE (d:=d) (u_ _ rfl),cB.lookup,h _ d (s.heap.push (Ml ps)).objs.size _ _ _ _
    ⟨fun b o e=>l_ _ (l_ _ e),lL _ _,⟨HF,k3,k4.trans k2⟩,hl,W,
     ⟨u_ _ rfl,l_ _ U7,l_ _ (u_ _ rfl)⟩,fun b hb=>by
     rcases k_.mp hb with e|hb
     ·rw[e];exact .inr (lL _ _)
     ·rcases k_.mp hb with e|hb
      ·exact .inl e
      ·rw[t_.mp hb];exact .inr (gm _)⟩⟩
end
section
variable {prog:Ε}{w:Β}{α:Type} [DecidableEq α] [Inhabited α]{ky:Ky prog w α}{A:Ι}{E:Ψ->Α->Prop}{s:Α}{a:Ω}{σ:List α}
theorem rD {Q:Bool->Α->Prop}(hT:s.TypeIs (.ref a) "set") (h:Q Ξ s):Κ (Μ prog w) A (Builtin.List.listLengthHint (.ref a)) Q E s:=by
 unfold Builtin.List.listLengthHint;refine a_ (wpAny_specialOf hT PySem.F.slot_set_len.lookup ?_);generalize KD:("set.__len__" : String)=Rg
 wp_delta
 rw[show splitId Rg=Δ ("set","__len__") from by subst KD;decide +kernel];subst KD;refine a_ (wpAny_isInstance (T:="set") (b:=Θ) hT (by rw[isSubtype_type];kernel_rfl) (wpAny_ite_split (fun z=>absurd z (by decide)) fun _=>wpAny_ite_split (fun _=>?_) fun z=>absurd (by decide +kernel) z));exact a_ (wpAny_typeOf hT (e_ h))
theorem Ag {seq:List Ψ}{acc:Array Ψ}(h:ItemsOf (fun i v=>seq[i]? = Δ v) acc seq.length):acc.toList=seq:=by
 apply List.ext_getElem?;intro j;rw[aat];by_cases hj:j < acc.size
 ·have e:acc[j]? = Δ acc[j]:=by simp[hj]
  rw[e,h.2 j _ e]
 ·have h1:acc[j]? = Φ:=by simp;omega
  rw[h1,List.getElem?_eq_none (by rw[<- h.1];omega)]
theorem vU {R:Result->Α->Prop}(hh:A.handled=Φ)(hS:fG ky s.heap a (!cZ w) σ)(S:Ω)(U8:S≠a)(res:Ψ)(c0:Nat)(hg:s.heap.get? S=Δ {cls:=.type "list",data:=.seq #[] c0}) (hn:σ.length<=Ζ)
  (hR:∀ h' tk d acc c,(∀ b o,b≠S->s.heap.get? b=Δ o->h'.get? b=Δ o)->h'.get? S=Δ {cls:=.type "list",dict:=Φ,data:=.seq acc c,slots:=#[]}->(∃ ks,Ar ky.mv acc.toList ks/\ks.Perm σ)->R (.ok (.ret res)) {s with heap:=h',toks:=tk,drawn:=d}) :
  Κ (Μ prog w) A.in1 (Χ (.ref S) (.ref a) res)
   (fun fin s'=>match fin with|.done f=>R (.ok f) s'|.again c'=>c'.quiet=Θ/\codeAny (Μ prog w) A c' R s') (fun e s'=>R (.error e) s') s:=by
 have hT:s.TypeIs (.ref a) "set":=by obtain⟨o,es,ep,t,ho,D⟩:=hS;exact⟨o,ho,D.ex.1⟩
 unfold Χ;refine a_ (wpAny_typeOf (T:="set") hT ?_);have h1:Builtin.List.listSameRef (.ref S) (.ref a)=Ξ:=by simp[Builtin.List.listSameRef,U8]
 rw[d_ (by rw[h1];decide)];refine a_ (rC (A:=A.in1) hh hS fun h1 d it seq n fp St C=>?_);have U9:S∉fp:=fun z=>(C.XM S z).elim U8 fun e=>by rw[hg] at e;cases e
 have hSi:S≠it:=fun z=>by rw[z,C.new] at hg;cases hg
 obtain⟨ks,q1,q2⟩:=C.pm;have XN:n<=Ζ:=by rw[<- C.ln,Ar.length q1,q2.length_eq];exact hn
 have key:∀ (h:Heap) (c1 tk:Nat),St 0 h->(∀ b o,b≠S->s.heap.get? b=Δ o->h.get? b=Δ o)->h.get? S=Δ {cls:=.type "list",data:=.seq #[] c1}->
   codeAny (Μ prog w) A (.builtin "list.extend.loop" ⟨[.ref S,.ref it,res],[]⟩) R {s with heap:=h,toks:=tk,drawn:=d}:=by
  intro h c1 tk Gn hk Rx;refine codeAny_extend_loopS C.wk.toS XN S U9 res n 0 _ #[] c1 rfl (aaa _) Gn Rx (ItemsOf.nil _) fun s' acc c hm Hk F9=>?_;rw[Moved.eq_with hm];rw[<- C.ln] at F9;refine hR s'.heap s'.toks d acc c (fun b o hb e=>hm.heap b o (fun z=>?_) (hk b o hb e)) Hk ⟨ks,by rw[Ag F9];exact q1,q2⟩;rcases k_.mp z with z|z
  ·exact hb z
  ·rw[t_.mp z,C.new] at e;cases e
 have XQ:Shared.TypeIs {s with heap:=h1,drawn:=d} (.ref a) "set":=by obtain⟨o,es,ep,t,ho,D⟩:=hS;exact⟨o,C.keep _ _ ho,D.ex.1⟩
 have g1:=C.keep _ _ hg;refine a_ (K_ (rD XQ (wpAny_ite_split (fun _=>?_) fun _=>e_ ⟨plainId_quiet PySem.F.plain_extend_loop _,key _ c0 _ C.st (fun b o _ e=>C.keep b o e) g1⟩)));refine a_ (wpAny_rule (a_ ?_));show Κ _ _ (updateSeq S (·.push .none) >>= fun _=>updateSeq S (·.pop)) _ _ _;have g2:=aaq (ι (·.push Value.none)) g1 rfl;have g3:=aaq (ι (·.pop)) g2 rfl;refine a_ (wpAny_updateSeq g1 rfl (wpAny_updateSeq (hz:=by seq_fits) g2 rfl (e_ ⟨plainId_quiet PySem.F.plain_extend_loop _,key _ _ _ ?_ (fun b o hb e=>?_) g3⟩)))
 ·refine C.wk.frame 0 _ _ C.st fun b hb o e=>?_;have Ob:S≠b:=fun z=>U9 (z ▸ hb);exact(aah _ _ Ob).trans ((aah _ _ Ob).trans e)
 ·have Ob:S≠b:=fun z=>hb z.symm;exact(aah _ _ Ob).trans ((aah _ _ Ob).trans (C.keep b o e))
end
section
variable {prog:Ε}{w:Β}{α:Type} [DecidableEq α] [Inhabited α]{ky:Ky prog w α}{A:Ι}{E:Ψ->Α->Prop}{s:Α}{a:Ω}{σ:List α}
theorem lN {Q:List Ψ->Α->Prop}(hh:A.handled=Φ)(hS:fG ky s.heap a (!cZ w) σ)(hn:σ.length<=Ζ)
  (h:∀ h' tk d (acc:Array Ψ),s.heap.objs.size < h'.objs.size->(∀ b o,s.heap.get? b=Δ o->h'.get? b=Δ o)->(∃ ks,Ar ky.mv acc.toList ks/\ks.Perm σ)->Q acc.toList {s with heap:=h',toks:=tk,drawn:=d}):Κ (Μ prog w) A (collect (.ref a)) Q E s:=by
 have F0:a < s.heap.objs.size:=by obtain⟨o,es,ep,t,ho,D⟩:=hS;exact i_ ho
 unfold collect;refine a_ (wpAny_runValue (codeAny_builtin entry_proto_collect' ?_));rw[aaH PySem.F.plain_proto_collect _];refine(show Κ _ A.in1 (newList [] >>= fun l=>again (.builtin "list.__iadd__" ⟨[l,.ref a],[]⟩)) _ _ s from a_ (aar (e_ ⟨plainId_quiet PySem.F.plain_list_iadd _,codeAny_builtin entry_list_iadd' ?_⟩)));rw[aaH PySem.F.plain_list_iadd _];have g1:(s.heap.push {cls:=.type "list",data:=.seq ([]:List Ψ).toArray}).get? s.heap.objs.size=Δ {cls:=.type "list",data:=.seq #[]}:=u_ _ rfl;show Κ _ A.in1 (Χ (.ref s.heap.objs.size) (.ref a) (.ref s.heap.objs.size)) _ _ _;have key:=vU (A:=A) (s:={s with heap:=s.heap.push {cls:=.type "list",data:=.seq ([]:List Ψ).toArray}})
  (R:=fun (q:Result) (s':Α)=>∃ (h':Heap) (tk:Nat) (d:Drawn) (acc:Array Ψ) (c:Nat),q=.ok (.ret (.ref s.heap.objs.size))/\s' = {s with heap:=h',toks:=tk,drawn:=d}/\
   (∀ b o,s.heap.get? b=Δ o->h'.get? b=Δ o)/\h'.get? s.heap.objs.size=Δ {cls:=.type "list",dict:=Φ,data:=.seq acc c,slots:=#[]}/\∃ ks,Ar ky.mv acc.toList ks/\ks.Perm σ)
  hh (hS.moved fun o e=>l_ _ e) s.heap.objs.size (O_ F0) (.ref s.heap.objs.size) 0 g1 hn
  (fun h' tk d acc c hk Hk F9=>⟨h',tk,d,acc,c,rfl,rfl,fun b o e=>hk b o (m_ (i_ e)) (l_ _ e),Hk,F9⟩)
 refine wpAny_mono key (fun fin s' x=>?_) fun e s' x=>?_
 ·cases fin with
  | done f=>obtain⟨h',tk,d,acc,c,e,rfl,hk,Hk,F9⟩:=x;cases e;exact show Κ _ A (load s.heap.objs.size >>= _) _ _ _ from a_ (wpAny_load Hk (e_ (h h' tk d acc (i_ Hk) hk F9)))
  | again c1=>refine⟨x.1,codeAny_mono x.2 fun q s2 y=>?_⟩;obtain⟨h',tk,d,acc,c,rfl,rfl,hk,Hk,F9⟩:=y;exact show Κ _ A (load s.heap.objs.size >>= _) _ _ _ from a_ (wpAny_load Hk (e_ (h h' tk d acc (i_ Hk) hk F9)))
 ·obtain⟨_,_,_,_,_,e',_⟩:=x;cases e'
theorem nv {Q:Ψ->Α->Prop}(hh:A.handled=Φ)(hS:fG ky s.heap a (!cZ w) σ)(K3:σ.length < 64){Od:List α->Prop}(XR:∀ {A:Ι}{E:Ψ->Α->Prop}{s:Α}{a:Ω}{vs:List Ψ}{ss:List α}{n:Nat}{P:Fin->Α->Prop},s.heap.get? a=Δ (seqObj "list" vs.toArray n)->Ar ky.mv vs ss->vs.length < 64->
   (∀ (out:Array Ψ) (K4:List α),Ar ky.mv out.toList K4->K4.Perm ss->Od K4->P (.done (.ret .none)) {s with heap:=sortedHeap s.heap a vs out})->Κ (Μ prog w) A (Builtin.«list.sort» ⟨[.ref a],[]⟩) P E s)
  (h:∀ h' tk d D (out:Array Ψ) c M4,(∀ b o,s.heap.get? b=Δ o->h'.get? b=Δ o)->s.heap.objs.size<=D->h'.get? D=Δ (seqObj "list" out c)->Ar ky.mv out.toList M4->M4.Perm σ->Od M4->Q (.ref D) {s with heap:=h',toks:=tk,drawn:=d}) :
  Κ (Μ prog w) A (call (.builtin "sorted") [.ref a]) Q E s:=by
 have hz:σ.length<=Ζ:=by rw[sizeLine_eq];omega
 refine Calls.call_function_entry kind_sorted plain_sorted entry_sorted (args_sorted1 _) ?_;unfold Builtin.«sorted»;refine a_ (m:=checkCount "sorted" 1 1 _) (e_ (a_ (lN (A:=A.in1) hh hS hz fun h' tk d acc F0 hk F9=>?_)));obtain⟨ks,k1,k2⟩:=F9;have hl:acc.toList.length=σ.length:=by rw[Ar.length k1,k2.length_eq]
 refine a_ (wpAny_newList ?_ (by rw[hl];exact hz));have gL:(h'.push (seqObj "list" acc.toList.toArray 0)).get? h'.objs.size=Δ (seqObj "list" acc.toList.toArray 0):=u_ _ rfl;have nD:s.heap.get? h'.objs.size=Φ:=by
  cases e:s.heap.get? h'.objs.size with
  | none=>rfl
  | some o=>exact absurd (i_ (hk _ _ e)) (R_ _)
 refine a_ (K_ (aab (s:={s with heap:=h'.push (seqObj "list" acc.toList.toArray 0),toks:=tk,drawn:=d}) slot_list_sort ⟨_,gL,rfl⟩ entry_list_sort (XR (s:={s with heap:=h'.push (seqObj "list" acc.toList.toArray 0),toks:=tk,drawn:=d}) gL k1 (by rw[hl];exact K3) fun out M4 a1 a2 a3=>⟨_,rfl,?_⟩) (args_list_sort _)));obtain⟨c,hc⟩:=sortedHeap_at (out:=out) gL;refine e_ ⟨_,rfl,h _ tk d _ out c M4 (fun b o e=>?_) (Nat.le_of_lt F0) hc a1 (a2.trans k2) a3⟩;have e1:=l_ (seqObj "list" acc.toList.toArray 0) (hk b o e);rw[sortedHeap_old (fun z=>by rw[z,nD] at e;cases e) (i_ e1)];exact e1
end
section
variable {prog:Ε}{w:Β}{A:Ι}{E:Ψ->Α->Prop}{s:Α}
instance:Inhabited Str:=⟨⟨#[]⟩⟩
noncomputable def Oe (prog:Ε)(w:Β):Ky prog w Int:=⟨intKind prog w,fun n t=>.int n t,fun n t=>intKind_is prog w n t,fun _ _=>rfl⟩
theorem Ah {vs:List Ψ}{ns:List Int}:IntsAre vs ns↔Ar (Oe prog w).mv vs ns:=by
 constructor
 ·intro h
  induction h with
  | nil=>exact .nil
  | cons n t _ ih=>exact .cons n t ih
 ·intro h
  induction h with
  | nil=>exact .nil
  | cons n t _ ih=>exact .cons n t ih
theorem EG {A:Ι}{E:Ψ->Α->Prop}{s:Α}{a:Ω}{vs:List Ψ}{ss:List Int}{n:Nat}{P:Fin->Α->Prop}(ho:s.heap.get? a=Δ (seqObj "list" vs.toArray n)) (hS:Ar (Oe prog w).mv vs ss) (K3:vs.length < 64)
  (h:∀ (out:Array Ψ) (K4:List Int),Ar (Oe prog w).mv out.toList K4->K4.Perm ss->K4.Pairwise (·<=·)->P (.done (.ret .none)) {s with heap:=sortedHeap s.heap a vs out}):Κ (Μ prog w) A (Builtin.«list.sort» ⟨[.ref a],[]⟩) P E s:=
 list_sort_tree ho (Ah.mpr hS) K3 fun out K4 a1 a2 a3=>h out K4 (Ah.mp a1) a2 a3
end
end L2.Se
namespace L2.Sv
open PySem PyProof.Rows
end L2.Sv
namespace L2
open PySem PySem.Spec PyProof.Rows PySem.SeqAt
noncomputable def dd (ns:List Int):List Int:=ns.foldl step_dedup []
theorem rE (ns:List Int):(dd ns).length<=ns.length:=by have:=Se.jJ ns [];simpa[dd] using this
section
variable {X:Cx}
noncomputable def XS:HO:=.ext fun _=>True
def B9 (X:Cx)(σ:List Int)(o:Obj):Prop:=∃ es ep t,Se.GP (Se.Oe X.prog X.w) (!Se.cZ X.w) σ o es ep t
theorem qi (hc:X.calm=Θ):dJ X (.type "set") (fun xs H Q=>∃ (p:Ω) (ns:List Int),xs=[.ref p]/\Gu X.K H p (ns.map V.int)/\ns.length < 64/\∀ a o,H a=Φ->B9 X (dd ns) o->Q (.ref a) (upd H a (.FT o XS))):=by intro pins s σ H xs us Q I r h;obtain⟨p,ns,rfl,hq,K3,q⟩:=h;obtain⟨u,rfl,rx⟩:=vals1 r;cases rx;obtain⟨its,rv,pl,hz⟩:=I.list hq;have hi:=intsAre_of rv;have hlen:=rv.length;rw[j_] at hlen;refine Se.rz (ky:=Se.Oe X.prog X.w) (I.ok.hd hc) pl.isList (Se.Ah.mp (by simpa using hi)) (by rw[A_];unfold scanBound;omega) fun h' tk hS k=>?_;obtain⟨o,es,ep,t,ho,D⟩:=hS;exact⟨.ref _,_,I.laid (t':=tk) (fun b u e=>k b u (i_ e) e) (n_ _) (show cX X.prog X.w _ _ _ (.FT o XS) from ⟨ho,trivial,⟨_,ho⟩,fun _ _ _ _=>trivial⟩),rfl,q _ o (I.FN.fresh (n_ _)) ⟨es,ep,t,D⟩⟩
theorem Inv.K5 {pins:List (Ω×Obj)}{σ:St}{H:Hp}{s:Α}(I:Inv X pins σ H s)(d:Drawn):Inv X pins σ H {s with drawn:=d}:=⟨I.ok,I.os,I.bare,I.base,I.loc,I.cell,I.free,I.GR,I.pin,I.FN,I.len⟩
theorem kD (hc:X.calm=Θ):dJ X (.builtin "sorted") (fun xs H Q=>∃ (p:Ω) (o:Obj) (ns:List Int),xs=[.ref p]/\H p=Δ (.FT o XS)/\B9 X ns o/\ns.length < 64/\∀ l,H l=Φ->Q (.ref l) (upd H l (.lst ((PySem.W.sortI ns).map V.int)))):=by
 intro pins s σ H xs us Q I r h;obtain⟨p,o,ns,rfl,hp,⟨es,ep,t,D⟩,K3,q⟩:=h;obtain⟨u,rfl,rx⟩:=vals1 r;cases rx;have ho:s.heap.get? p=Δ o:=(I.FN p _ hp).1;refine Se.nv (I.ok.hd hc) ⟨o,es,ep,t,ho,D⟩ K3 Se.EG fun h' tk d Dn out c M4 k hD e a1 a2 a3=>?_;rw[PySem.W.eq_sortI a2 a3] at a1;have LC:Vals ((PySem.W.sortI ns).map V.int) out.toList:=by
  generalize PySem.W.sortI ns=ms at a1;generalize out.toList=vs at a1
  induction a1 with
  | nil=>exact .nil
  | cons n t _ ih=>exact .cons ⟨t,rfl⟩ ih
 have J:=I.laid (t':=tk) (o:=.lst ((PySem.W.sortI ns).map V.int)) k hD (show cX X.prog X.w _ _ _ (.lst _) from ⟨by rw[j_,(PySem.W.sortI_perm ns).length_eq,sizeLine_eq];omega,out.toList,c,LC,by simpa using e⟩);exact⟨.ref _,_,J.K5 d,rfl,q _ (I.FN.fresh hD)⟩
end
section
variable {X:Cx}
def EH:V->List V->Hp->VK->Prop:=fun x vs H Q=>∃ l xs i y,x=.ref l/\vs=[.int i,y]/\H l=Δ (.lst xs)/\0<=i/\i.toNat<=xs.length/\xs.length < Ζ/\Q .Fy (upd H l (.lst (xs.take i.toNat++y::xs.drop i.toNat)))
theorem Ai:UC X "list.insert" EH:=by
 intro pins s σ H x vs v us Q I rx rv h;obtain⟨l,xs,i,y,rfl,rfl,hH,h0,hi,hz,q⟩:=h;cases rx;have hs:Ζ=16777216:=sizeLine_eq;cases rv with
 | cons r1 LC=>
  obtain⟨t,rfl⟩:=r1;obtain⟨u,rfl,ru⟩:=Vals.one LC;obtain⟨z,its,n,r,hl,e⟩:=I.NO hH;refine call_meets F.slot_list_insert ⟨_,e,rfl⟩ F.entry_list_insert (F.args_list_insert_3 _ _ _) (AutoSeq1.list_insert_list_int_val_1 l its.toArray n i t u (by rw[fitsIndex_both (by omega) (by omega)];decide) (by rw[A_];omega)) ⟨e,?_⟩;refine⟨.Fy,_,I.NN (its':=its.take i.toNat++u::its.drop i.toNat) hH e ?_ ((r.take i.toNat).append (.cons ru (r.drop i.toNat))) ?_,rfl,q⟩
  ·have h1:¬ i < 0:=by omega
   have h2:min i.toNat its.toArray.size=i.toNat:=by rw[A_];omega
   simp only[h1,if_false,h2];apply Array.ext';simp;rw[List.take_of_length_le (by rw[aap];omega)]
  ·rw[w_,List.length_cons,aan,aap];omega
end
end L2
namespace L2.Sx
open PySem PyProof.Rows
end L2.Sx
namespace L2
open PySem PySem.Spec PyProof.Rows
end L2
namespace L2.Dp
open PySem PyProof.Rows
end L2.Dp
namespace L2
open PySem PySem.Spec PyProof.Rows
open PySem.SeqAt
section
variable {X:Cx}
theorem Inv.FX {pins:List (Ω×Obj)}{σ:St}{H:Hp}{s:Α}{p:Ω}{FL:List (Key×V)}(I:Inv X pins σ H s)(e:Rd H p (.dK FL)):FL.length<=Ζ/\(p == sysModules)=Ξ/\∃ vs o es ep,KV FL vs/\s.heap.get? p=Δ o/\o.data=.dict es ep/\s.heap.DictAt (ib X.prog X.w) p vs ep:=by obtain⟨h1,h2,vs,kv,o,es,ep,ho,c,hd,r⟩:=e.ok I.FN;exact⟨h1,h2,vs,o,es,ep,kv,ho,hd,o,es,ho,c,hd,r⟩
theorem KV.len {κ:Type}{FL:List (κ×V)}{vs:List (κ×Ψ)}(r:KV FL vs):FL.length=vs.length:=Paired.length r
theorem qj:dJ X (.builtin "len") (fun xs H Q=>∃ (p:Ω) (FL:List (Key×V)),xs=[.ref p]/\Rd H p (.dK FL)/\Q (.int FL.length) H):=by intro pins s σ H xs us Q I r h;obtain⟨p,FL,rfl,hp,q⟩:=h;obtain⟨u,rfl,rx⟩:=vals1 r;cases rx;obtain⟨hz,lo,vs,o,es,ep,kv,ho,hd,hm⟩:=I.FX hp;have hs:Ζ=16777216:=sizeLine_eq;have hl:=kv.len;exact call_len_dict lo hm.dictOf (by omega) ⟨.int FL.length,H,I.tok _,⟨_,by rw[hl]⟩,q⟩
end
noncomputable def RG (K:Frag)(l:Ω):It:=
 ⟨fun i H=>∃ xs x,Gu K H l xs/\xs[i]? = Δ x,
  fun i H v H'=>∃ T x,v=.ref T/\H T=Φ/\H'=upd H T (.tup [.int i,x])/\∀ xs,Gu K H l xs->xs[i]? = Δ x,
  fun i H=>∃ xs,Gu K H l xs/\xs.length<=i⟩
theorem qk {P:Ε}{w:Β}{K:Frag}{es:List Expr}{c:Nat}{pos:Pos}(e it l:Ω)(Hg:e≠it) :
  Turn P w K (.Tuple es c pos) (RG K l) [e,it] e (fun n h=>(∃ old,IsEnum h e it n old)/\h.IsListIter it l n) where
 mem:=by simp
 obj:=fun n h st b hb=>by
  obtain⟨⟨old,he⟩,ci⟩:=st;simp only[k_,P_,or_false] at hb;rcases hb with rfl|rfl
  ·exact⟨_,he,fun v z=>by cases z⟩
  ·obtain⟨o,e,c,d⟩:=ci;exact⟨o,e,fun v z=>by rw[d] at z;cases z⟩
 keep:=fun n h h' st k=>by obtain⟨⟨old,he⟩,ci⟩:=st;exact⟨⟨old,k e (by simp) _ he⟩,ci.at fun o q=>k it (by simp) o q⟩
 item:=by
  intro X hP hw hK hc n pins s σ H E I hf st hg;subst hP hw hK;obtain⟨⟨old,he⟩,ci⟩:=st;obtain⟨xs,x,hq,hx⟩:=hg;obtain⟨its,rv,p,hz⟩:=I.list hq;obtain⟨u,hu,ru⟩:=rv.get hx;refine wpAny_pyNext_enum_item he ci p.isList (x:=u) (by simpa using hu) Hg fun h1 a1 a2 a3 a4 hk=>?_;refine⟨_,rfl,?_⟩;have le:e < s.heap.objs.size:=i_ he;have XT:s.heap.objs.size≠e:=O_ le;refine wpAny_letOwnedTupleGo_enum (s:={s with heap:=h1,toks:=s.toks+1}) a1 fun h2 XW Iy=>?_;have kk:∀ b o,b∉[e,it]->s.heap.get? b=Δ o->h2.get? b=Δ o:=fun b o hb q=>by simp only[k_,P_,or_false,not_or] at hb;exact Iy.extBut _ _ hb.1 (hk b o hb.1 hb.2 q)
  have hT:=Iy.extBut _ _ XT a3;have I2:Inv X pins σ (upd H s.heap.objs.size (.tup [.int n,x])) {s with heap:=h2,toks:=s.toks+1}:=I.Kb (t':=s.toks+1) kk hf (n_ _) ⟨by show 2<=Ζ;decide,[.int n s.toks,u],.cons ⟨_,rfl⟩ (.cons ru .nil),⟨_,hT,rfl,_,rfl⟩⟩;refine⟨.ref s.heap.objs.size,_,I2,rfl,⟨_,x,rfl,I.FN.fresh (n_ _),rfl,fun Rp g1=>by rw[I.Gf g1 hq];exact hx⟩,⟨⟨_,by rw[Int.natCast_succ];exact XW⟩,a2.at fun o q=>Iy.extBut _ _ Hg.symm q⟩,fun b hb=>?_⟩;have Iw:b < s.heap.objs.size:=by
   simp only[k_,P_,or_false] at hb;rcases hb with rfl|rfl
   ·exact le
   ·obtain⟨o,q,_⟩:=ci;exact i_ q
  rw[cv (m_ Iw)];exact(hf b hb).1
 done:=by
  intro X hP hw hK hc n pins s σ H E I hf st hg;subst hP hw hK;obtain⟨⟨old,he⟩,ci⟩:=st;obtain⟨xs,hq,hx⟩:=hg;obtain⟨its,rv,p,hz⟩:=I.list hq;have l1:=rv.length;refine wpAny_pyNext_enum_end (I.ok.hd hc) he ci p.isList (Array.getElem?_eq_none (by simp;omega)) fun h1 hk=>⟨rfl,I.turns (t':=s.toks) (ch:=[e,it]) (fun b o hb q=>?_) hf⟩
  simp only[k_,P_,or_false,not_or] at hb;exact hk b o hb.2 q
 self:=fun _ _ _ _ _ st h=>by obtain⟨⟨old,he⟩,_⟩:=st;exact wpAny_pyIter_enum he h
def EI (K:Frag)(ta:TA):TI:=fun σ H R=>ta σ H fun vs H1=>∃ l xs,vs=[.ref l]/\Gu K H1 l xs/\R (RG K l) H1
theorem vV {X:Cx}{a:Expr}{ta:TA}{es:List Expr}{c:Nat}{p tp pos:Pos}(hg:Gl X "enumerate") (hm:X.mg "enumerate" = Φ) (ha:PA X [a] ta) (hs:Ν [a] X.env=[(Ξ,eval a X.env)]) :
  PI X (.Tuple es c tp) (.Call (.Name "enumerate" p) [a] [] pos) (EI X.K ta):=by
 intro pins s σ H R I h;refine Call_ (eV I hg hm boot_enumerate (aay (FP (ha pos pins s σ H _ I h) fun us s1 ⟨vs,H1,I1,r1,q1⟩=>?_) hs rfl));obtain⟨l,xs,e,g1,q⟩:=q1;subst e;obtain⟨u,rfl,r⟩:=vals1 r1;cases r;obtain⟨IF,JM,p1,hz⟩:=I1.list g1;refine call_enumerate_list p1.isList fun h2 b1 b2 b3 b4=>?_;refine wpAny_pyIter_enum (s:={s1 with heap:=h2}) b1 ?_;refine⟨s1.heap.objs.size+1,[s1.heap.objs.size+1,s1.heap.objs.size],_,_,H1,rfl,I1.kept (t':=s1.toks) b4,qk _ _ l (Nat.succ_ne_self _),⟨⟨_,b1⟩,b2⟩,fun b hb=>?_,q⟩;have Iw:s1.heap.objs.size<=b:=by
  simp only[k_,P_,or_false] at hb;rcases hb with rfl|rfl
  ·exact aak _ _
  ·exact n_ _
 exact I1.Ja Iw (I1.FN.fresh Iw)
noncomputable def XX (K:Frag)(l:Ω)(n:Nat):It:=
 ⟨fun i H=>∃ xs,Gu K H l xs/\xs.length=n/\i < n,fun i H x H'=>H'=H/\∀ xs,Gu K H l xs->xs.length=n->xs[n - 1 - i]? = Δ x,fun i H=>i=n⟩
inductive D where
 | Fy|bl (b:Bool)|int (i:Int)|str (x:Str)|tup (ds:List D)|lst (own:Bool) (ds:List D)|exc (c:Str)|FX (own:Bool) (ks:List Key) (ds:List D)
 deriving Inhabited
mutual
noncomputable def er:D->D
 | .tup ds=>.tup (Fx ds)
 | .lst _ ds=>.lst Ξ (Fx ds)
 | .FX _ ks ds=>.FX Ξ ks (Fx ds)
 | .Fy=>.Fy
 | .bl b=>.bl b
 | .int i=>.int i
 | .str x=>.str x
 | .exc c=>.exc c
noncomputable def Fx:List D->List D
 | []=>[]
 | d::ds=>er d::Fx ds
end
mutual
noncomputable def cA:D->Bool
 | .tup ds=>cp ds
 | .lst _ _=>Ξ
 | .FX _ _ _=>Ξ
 | .Fy=>Θ
 | .bl _=>Θ
 | .int _=>Θ
 | .str _=>Θ
 | .exc _=>Θ
noncomputable def cp:List D->Bool
 | []=>Θ
 | d::ds=>cA d&&cp ds
end
theorem cJ:∀ ds:List D,Fx ds=ds.map er
 | []=>rfl
 | d::ds=>by rw[Fx,cJ ds];rfl
theorem dt:∀ ds:List D,cp ds=ds.all cA
 | []=>rfl
 | d::ds=>by rw[cp,dt ds];rfl
theorem eB (ds:List D):(Fx ds).length=ds.length:=by rw[cJ,j_]
mutual
theorem lP:∀ {d:D},cA d=Θ->er d=d
 | .Fy,_=>rfl
 | .bl _,_=>rfl
 | .int _,_=>rfl
 | .str _,_=>rfl
 | .exc _,_=>rfl
 | .tup ds,h=>by rw[er,eC (ds:=ds) h]
 | .lst o ds,h=>by cases (show Ξ=Θ from h)
 | .FX o ks ds,h=>by cases (show Ξ=Θ from h)
theorem eC:∀ {ds:List D},cp ds=Θ->Fx ds=ds
 | [],_=>rfl
 | d::ds,h=>by have h':(cA d&&cp ds)=Θ:=h;rw[g_] at h';rw[Fx,lP h'.1,eC h'.2]
end
mutual
theorem xH:∀ d:D,er (er d)=er d
 | .Fy=>rfl
 | .bl _=>rfl
 | .int _=>rfl
 | .str _=>rfl
 | .exc _=>rfl
 | .tup ds=>by rw[er,er,Gx ds]
 | .lst _ ds=>by rw[er,er,Gx ds]
 | .FX _ ks ds=>by rw[er,er,Gx ds]
theorem Gx:∀ ds:List D,Fx (Fx ds)=Fx ds
 | []=>rfl
 | d::ds=>by rw[Fx,Fx,xH d,Gx ds]
end
inductive Exc where
 | stuck|exc (c:Str)
abbrev Res (α:Type):=Except Exc α
noncomputable abbrev FC {α:Type}:Res α:=.error .stuck
noncomputable def E3 {α β:Type}(x:Res α)(f:α->Res β):Res β:=match x with
 | .ok a=>f a
 | .error e=>.error e
noncomputable def Fw {α:Type}(c:Bool)(x:Res α):Res α:=if c=Θ then x else FC
def E5 {α:Type}(ex:Str->Prop)(x:Res α)(k:α->Prop):Prop:=match x with
 | .ok a=>k a
 | .error (.exc c)=>ex c
 | .error .stuck=>False
theorem E5.E3 {α β:Type}{ex:Str->Prop}{x:Res α}{f:α->Res β}{k:β->Prop}(h:E5 ex (E3 x f) k):E5 ex x fun a=>E5 ex (f a) k:=by
 cases x with
 | ok a=>exact h
 | error e=>cases e<;>exact h
theorem E5.Fw {α:Type}{ex:Str->Prop}{c:Bool}{x:Res α}{k:α->Prop}(h:E5 ex (Fw c x) k):c=Θ/\E5 ex x k:=by
 unfold L2.Fw at h;cases c with
 | true=>exact⟨rfl,h⟩
 | false=>exact False.elim h
theorem E5.mono {α:Type}{ex:Str->Prop}{x:Res α}{k k':α->Prop}(h:E5 ex x k)(m:∀ a,k a->k' a):E5 ex x k':=by
 cases x with
 | ok a=>exact m a h
 | error e=>cases e<;>exact h
theorem E5.mk {α β:Type}{ex:Str->Prop}{x:Res α}{f:α->Res β}{k:β->Prop}(h:E5 ex x fun a=>E5 ex (f a) k):E5 ex (L2.E3 x f) k:=by
 cases x with
 | ok a=>exact h
 | error e=>cases e<;>exact h
theorem E5.eq {α:Type}{ex:Str->Prop}{x:Res α}{k:α->Prop}(h:E5 ex x k):E5 ex x fun a=>x=.ok a/\k a:=by
 cases x with
 | ok a=>exact⟨rfl,h⟩
 | error e=>cases e<;>exact h
theorem E5.ok {α:Type}{ex:Str->Prop}{a:α}{k:α->Prop}(h:E5 ex (.ok a:Res α) k):k a:=h
theorem E5.no {α:Type}{ex:Str->Prop}{k:α->Prop}(h:E5 ex (FC:Res α) k):False:=h
inductive LD where
 | l (xs:List V)|d (FL:List (Key×V))
noncomputable abbrev LD.o:LD->HO
 | .l xs=>.lst xs
 | .d FL=>.dK FL
theorem KL.sq {K:Frag}{H:Hp}{a:Ω}{xs:List V}(h:KL K a xs):Gu K H a xs:=by obtain⟨its,n,h1,h2,h3⟩:=h;exact .inr ⟨_,its.toArray,n,h1,rfl,rfl,rfl,by simpa using h2,by simpa using h3⟩
theorem Inv.ls {X:Cx}{pins:List (Ω×Obj)}{σ:St}{H:Hp}{s:Α}{a:Ω}{xs:List V}(I:Inv X pins σ H s)(h:Ls X.K H a xs) :
  xs.length<=Ζ/\∃ (its:List Ψ) (n:Nat),Vals xs its/\s.heap.get? a=Δ {cls:=.type "list",data:=.seq its.toArray n}:=by
 rcases h with h|⟨its,n,h1,h2,h3⟩
 ·obtain⟨z,its,n,r,e⟩:=h.ok I.FN;exact⟨z,its,n,r,e⟩
 ·exact⟨by rw[h3.length];exact h2,its,n,h3,I.IP _ _ h1⟩
noncomputable def nameIn (K:Frag)(C:Ω):Option Str:=match K.lookup C with
 | some ⟨_,_,.cls cd,_⟩=>Δ cd.name
 | _=>Φ
noncomputable def XU:HO:=.ext fun _=>True
def XO (K:Frag)(H:Hp)(a:Ω)(c:Str):Prop:=∃ (C:Ω) (o:Obj) (vs:Array Ψ),PySem.W.nsIn K Η c=Δ (Δ (.ref C))/\nameIn K C=Δ c/\H a=Δ (.FT o XU)/\o.cls=.ref C/\o.data=.fields vs
def GF (K:Frag)(H:Hp)(a:Ω):List V ⊕ Str->Prop
 | .inl xs=>G0 K H a xs
 | .inr c=>XO K H a c
mutual
inductive E6 (K:Frag)(S:Ω->Prop)(H:Hp):V->D->Prop where
 | Fy:E6 K S H .Fy .Fy
 | bl (b:Bool):E6 K S H (.bl b) (.bl b)
 | int (i:Int):E6 K S H (.int i) (.int i)
 | str (x:Str):E6 K S H (.str x) (.str x)
 | exc {a:Ω}{c:Str}:GF K H a (.inr c)->E6 K S H (.ref a) (.exc c)
 | tup {a:Ω}{xs:List V}{ds:List D}:G0 K H a xs->E4 K S H xs ds->E6 K S H (.ref a) (.tup ds)
 | lst {a:Ω}{xs:List V}{o:Bool}{ds:List D}:S a->Rd H a (.lst xs)->E4 K S H xs ds->E6 K S H (.ref a) (.lst o ds)
 | lstK {a:Ω}{xs:List V}{o:Bool}{ds:List D}:KL K a xs->E4 K S H xs ds->E6 K S H (.ref a) (.lst o ds)
 | FX {a:Ω}{FL:List (Key×V)}{o:Bool}{ks:List Key}{ds:List D}:S a->Rd H a (.dK FL)->FL.map (·.1)=ks->E4 K S H (FL.map (·.2)) ds->E6 K S H (.ref a) (.FX o ks ds)
inductive E4 (K:Frag)(S:Ω->Prop)(H:Hp):List V->List D->Prop where
 | nil:E4 K S H [] []
 | cons {v:V}{d:D}{vs:List V}{ds:List D}:E6 K S H v d->E4 K S H vs ds->E4 K S H (v::vs) (d::ds)
end
mutual
inductive FE (K:Frag)(F:Ω->Prop)(H:Hp):V->D->List Ω->Prop where
 | Fy:FE K F H .Fy .Fy []
 | bl (b:Bool):FE K F H (.bl b) (.bl b) []
 | int (i:Int):FE K F H (.int i) (.int i) []
 | str (x:Str):FE K F H (.str x) (.str x) []
 | exc {a:Ω}{c:Str}:GF K H a (.inr c)->FE K F H (.ref a) (.exc c) []
 | tup {a:Ω}{xs:List V}{ds:List D}{f:List Ω}:G0 K H a xs->E7 K F H xs ds f->FE K F H (.ref a) (.tup ds) f
 | Jf {a:Ω}{xs:List V}{ds:List D}:F a->Rd H a (.lst xs)->E7 K F H xs ds []->FE K F H (.ref a) (.lst Ξ ds) []
 | lstK {a:Ω}{xs:List V}{ds:List D}:KL K a xs->E7 K F H xs ds []->FE K F H (.ref a) (.lst Ξ ds) []
 | Gy {a:Ω}{xs:List V}{ds:List D}{f:List Ω}:¬ F a->H a=Δ (.lst xs)->E7 K F H xs ds f->FE K F H (.ref a) (.lst Θ ds) (a::f)
 | K6 {a:Ω}{FL:List (Key×V)}{ks:List Key}{ds:List D}:F a->Rd H a (.dK FL)->FL.map (·.1)=ks->E7 K F H (FL.map (·.2)) ds []->FE K F H (.ref a) (.FX Ξ ks ds) []
 | Mm {a:Ω}{FL:List (Key×V)}{ks:List Key}{ds:List D}{f:List Ω}:¬ F a->H a=Δ (.dK FL)->FL.map (·.1)=ks->E7 K F H (FL.map (·.2)) ds f->FE K F H (.ref a) (.FX Θ ks ds) (a::f)
inductive E7 (K:Frag)(F:Ω->Prop)(H:Hp):List V->List D->List Ω->Prop where
 | nil:E7 K F H [] [] []
 | cons {v:V}{d:D}{f:List Ω}{vs:List V}{ds:List D}{g:List Ω}:FE K F H v d f->E7 K F H vs ds g->E7 K F H (v::vs) (d::ds) (f++g)
end
theorem cz.rd {H H':Hp}{a:Ω}{u:HO}(e:cz H H')(h:Rd H a u):Rd H' a u:=by
 rcases h with h|⟨o,h⟩
 ·exact .inl (e _ _ h)
 ·exact .inr ⟨o,e _ _ h⟩
theorem cz.HL {K:Frag}{H H':Hp}{a:Ω}{xs:List V ⊕ Str}(e:cz H H')(h:GF K H a xs):GF K H' a xs:=by
 cases xs with
 | inl xs=>
  rcases h with h|h
  ·exact .inl (e.rd h)
  ·exact .inr h
 | inr c=>obtain⟨C,o,vs,h0,h1,h2,h3⟩:=h;exact⟨C,o,vs,h0,h1,e _ _ h2,h3⟩
theorem GF.upd {K:Frag}{H:Hp}{a l:Ω}{xs:List V ⊕ Str}{ys zs:List V}(hl:H l=Δ (.lst ys))(h:GF K H a xs):GF K (upd H l (.lst zs)) a xs:=by
 cases xs with
 | inl xs=>
  rcases h with h|h
  ·have:a≠l:=by rintro rfl;rcases h with h|⟨o,h⟩<;>(rw[hl] at h;cases h)
   refine .inl ?_;unfold Rd;rw[cv this];exact h
  ·exact .inr h
 | inr c=>
  obtain⟨C,o,vs,h0,h1,h2,h3⟩:=h;have:a≠l:=by rintro rfl;rw[hl] at h2;cases h2
  exact⟨C,o,vs,h0,h1,by rw[cv this];exact h2,h3⟩
theorem Rd.some {H:Hp}{a:Ω}{u:HO}(h:Rd H a u):H a≠Φ:=by rcases h with h|⟨o,h⟩<;>(rw[h];simp)
section
variable {K:Frag}{S S' F F':Ω->Prop}{H H':Hp}
theorem E6.step (hl:∀ a (u:LD),S a->Rd H a u.o->S' a/\Rd H' a u.o)(ht:∀ a xs,GF K H a xs->GF K H' a xs){v:V}{d:D}(h:E6 K S H v d):E6 K S' H' v d:=
 E6.rec (motive_1:=fun v d _=>E6 K S' H' v d) (motive_2:=fun v d _=>E4 K S' H' v d) .Fy .bl .int .str (fun h=>.exc (ht _ (.inr _) h)) (fun h1 _ i=>.tup (ht _ (.inl _) h1) i)
  (fun h0 h1 _ i=>.lst (hl _ (.l _) h0 h1).1 (hl _ (.l _) h0 h1).2 i) (fun h1 _ i=>.lstK h1 i) (fun h0 h1 h2 _ i=>.FX (hl _ (.d _) h0 h1).1 (hl _ (.d _) h0 h1).2 h2 i) .nil (fun _ _ i j=>.cons i j) h
theorem E4.step (hl:∀ a (u:LD),S a->Rd H a u.o->S' a/\Rd H' a u.o)(ht:∀ a xs,GF K H a xs->GF K H' a xs){v:List V}{d:List D}(h:E4 K S H v d):E4 K S' H' v d:=
 E4.rec (motive_1:=fun v d _=>E6 K S' H' v d) (motive_2:=fun v d _=>E4 K S' H' v d) .Fy .bl .int .str (fun h=>.exc (ht _ (.inr _) h)) (fun h1 _ i=>.tup (ht _ (.inl _) h1) i)
  (fun h0 h1 _ i=>.lst (hl _ (.l _) h0 h1).1 (hl _ (.l _) h0 h1).2 i) (fun h1 _ i=>.lstK h1 i) (fun h0 h1 h2 _ i=>.FX (hl _ (.d _) h0 h1).1 (hl _ (.d _) h0 h1).2 h2 i) .nil (fun _ _ i j=>.cons i j) h
theorem E6.mono {v:V}{d:D}(h:E6 K S H v d)(hS:∀ a,S a->S' a)(e:cz H H'):E6 K S' H' v d:=h.step (fun a xs s r=>⟨hS a s,e.rd r⟩) fun a xs s=>e.HL s
theorem E4.mono {v:List V}{d:List D}(h:E4 K S H v d)(hS:∀ a,S a->S' a)(e:cz H H'):E4 K S' H' v d:=h.step (fun a xs s r=>⟨hS a s,e.rd r⟩) fun a xs s=>e.HL s
theorem E4.IH {v:List V}{d:List D}(h:E4 K S H v d):E4 K (fun a=>S a/\H a≠Φ) H v d:=h.step (fun a xs s r=>⟨⟨s,r.some⟩,r⟩) fun a xs s=>s
theorem E6.frozen {v:V}{d:D}(h:E6 K F H v d):FE K F H v (L2.er d) []:=
 E6.rec (motive_1:=fun v d _=>FE K F H v (L2.er d) []) (motive_2:=fun v d _=>E7 K F H v (L2.Fx d) []) .Fy .bl .int .str (fun h=>.exc h) (fun h1 _ i=>.tup h1 i) (fun h0 h1 _ i=>.Jf h0 h1 i) (fun h1 _ i=>.lstK h1 i) (fun h0 h1 h2 _ i=>.K6 h0 h1 h2 i) .nil (fun _ _ i j=>.cons (f:=[]) (g:=[]) i j) h
theorem E4.frozen {v:List V}{d:List D}(h:E4 K F H v d):E7 K F H v (L2.Fx d) []:=
 E4.rec (motive_1:=fun v d _=>FE K F H v (L2.er d) []) (motive_2:=fun v d _=>E7 K F H v (L2.Fx d) []) .Fy .bl .int .str (fun h=>.exc h) (fun h1 _ i=>.tup h1 i) (fun h0 h1 _ i=>.Jf h0 h1 i) (fun h1 _ i=>.lstK h1 i) (fun h0 h1 h2 _ i=>.K6 h0 h1 h2 i) .nil (fun _ _ i j=>.cons (f:=[]) (g:=[]) i j) h
theorem vW {a b:Bool}(h:(a&&b)=Θ):a=Θ/\b=Θ:=by rwa [g_] at h
theorem E6.free {v:V}{d:D}(n:cA d=Θ)(h:E6 K S H v d):FE K F H v d []:=
 E6.rec (motive_1:=fun v d _=>cA d=Θ->FE K F H v d []) (motive_2:=fun v d _=>cp d=Θ->E7 K F H v d []) (fun _=>.Fy) (fun b _=>.bl b) (fun b _=>.int b) (fun b _=>.str b) (fun h _=>.exc h) (fun h1 _ i n=>.tup h1 (i n)) (fun _ _ _ _ n=>nomatch n) (fun _ _ _ n=>nomatch n) (fun _ _ _ _ _ n=>nomatch n) (fun _=>.nil) (fun _ _ i j n=>.cons (f:=[]) (g:=[]) (i (vW n).1) (j (vW n).2)) h n
theorem E4.free {v:List V}{d:List D}(n:cp d=Θ)(h:E4 K S H v d):E7 K F H v d []:=
 E4.rec (motive_1:=fun v d _=>cA d=Θ->FE K F H v d []) (motive_2:=fun v d _=>cp d=Θ->E7 K F H v d []) (fun _=>.Fy) (fun b _=>.bl b) (fun b _=>.int b) (fun b _=>.str b) (fun h _=>.exc h) (fun h1 _ i n=>.tup h1 (i n)) (fun _ _ _ _ n=>nomatch n) (fun _ _ _ n=>nomatch n) (fun _ _ _ _ _ n=>nomatch n) (fun _=>.nil) (fun _ _ i j n=>.cons (f:=[]) (g:=[]) (i (vW n).1) (j (vW n).2)) h n
theorem dC {p:Ω->Prop}:∀ a∈([]:List Ω),p a:=fun _ h=>nomatch h
theorem FE.read {v:V}{d:D}{f:List Ω}(hF:∀ a,F a->S a)(hf:∀ a∈f,S a)(h:FE K F H v d f):E6 K S H v d:=
 FE.rec (motive_1:=fun v d f _=>(∀ a∈f,S a)->E6 K S H v d) (motive_2:=fun v d f _=>(∀ a∈f,S a)->E4 K S H v d) (fun _=>.Fy) (fun b _=>.bl b) (fun b _=>.int b) (fun b _=>.str b) (fun h _=>.exc h) (fun h1 _ i hf=>.tup h1 (i hf))
  (fun h0 h1 _ i _=>.lst (hF _ h0) h1 (i dC)) (fun h1 _ i _=>.lstK h1 (i dC)) (fun _ h1 _ i hf=>.lst (hf _ (.head _)) (.inl h1) (i fun b hb=>hf b (.tail _ hb))) (fun h0 h1 h2 _ i _=>.FX (hF _ h0) h1 h2 (i dC)) (fun _ h1 h2 _ i hf=>.FX (hf _ (.head _)) (.inl h1) h2 (i fun b hb=>hf b (.tail _ hb))) (fun _=>.nil)
  (fun _ _ i j hf=>.cons (i fun a ha=>hf a (q_ _ ha)) (j fun a ha=>hf a (r_ _ ha))) h hf
theorem E7.read {v:List V}{d:List D}{f:List Ω}(hF:∀ a,F a->S a)(hf:∀ a∈f,S a)(h:E7 K F H v d f):E4 K S H v d:=
 E7.rec (motive_1:=fun v d f _=>(∀ a∈f,S a)->E6 K S H v d) (motive_2:=fun v d f _=>(∀ a∈f,S a)->E4 K S H v d) (fun _=>.Fy) (fun b _=>.bl b) (fun b _=>.int b) (fun b _=>.str b) (fun h _=>.exc h) (fun h1 _ i hf=>.tup h1 (i hf))
  (fun h0 h1 _ i _=>.lst (hF _ h0) h1 (i dC)) (fun h1 _ i _=>.lstK h1 (i dC)) (fun _ h1 _ i hf=>.lst (hf _ (.head _)) (.inl h1) (i fun b hb=>hf b (.tail _ hb))) (fun h0 h1 h2 _ i _=>.FX (hF _ h0) h1 h2 (i dC)) (fun _ h1 h2 _ i hf=>.FX (hf _ (.head _)) (.inl h1) h2 (i fun b hb=>hf b (.tail _ hb))) (fun _=>.nil)
  (fun _ _ i j hf=>.cons (i fun a ha=>hf a (q_ _ ha)) (j fun a ha=>hf a (r_ _ ha))) h hf
theorem eN {α:Type}{x:Option α}{y:α}(h:x=Δ y):x≠Φ:=fun e=>nomatch h.symm.trans e
theorem FE.step (hl:∀ a (u:LD),F a->Rd H a u.o->F' a/\Rd H' a u.o)(ht:∀ a xs,GF K H a xs->GF K H' a xs){v:V}{d:D}{f:List Ω}(k:∀ a∈f,¬ F a->H a≠Φ->¬ F' a/\H' a=H a)
  (h:FE K F H v d f):FE K F' H' v d f:=
 FE.rec (motive_1:=fun v d f _=>(∀ a∈f,¬ F a->H a≠Φ->¬ F' a/\H' a=H a)->FE K F' H' v d f) (motive_2:=fun v d f _=>(∀ a∈f,¬ F a->H a≠Φ->¬ F' a/\H' a=H a)->E7 K F' H' v d f) (fun _=>.Fy) (fun b _=>.bl b) (fun b _=>.int b) (fun b _=>.str b)
  (fun h _=>.exc (ht _ (.inr _) h)) (fun h1 _ i k=>.tup (ht _ (.inl _) h1) (i k)) (fun h0 h1 _ i _=>.Jf (hl _ (.l _) h0 h1).1 (hl _ (.l _) h0 h1).2 (i dC)) (fun h1 _ i _=>.lstK h1 (i dC))
  (fun h0 h1 _ i k=>.Gy (k _ (.head _) h0 (eN h1)).1 ((k _ (.head _) h0 (eN h1)).2.trans h1) (i fun b hb=>k b (.tail _ hb))) (fun h0 h1 h2 _ i _=>.K6 (hl _ (.d _) h0 h1).1 (hl _ (.d _) h0 h1).2 h2 (i dC)) (fun h0 h1 h2 _ i k=>.Mm (k _ (.head _) h0 (eN h1)).1 ((k _ (.head _) h0 (eN h1)).2.trans h1) h2 (i fun b hb=>k b (.tail _ hb))) (fun _=>.nil)
  (fun _ _ i j k=>.cons (i fun a ha=>k a (q_ _ ha)) (j fun a ha=>k a (r_ _ ha))) h k
theorem E7.step (hl:∀ a (u:LD),F a->Rd H a u.o->F' a/\Rd H' a u.o)(ht:∀ a xs,GF K H a xs->GF K H' a xs){v:List V}{d:List D}{f:List Ω}(k:∀ a∈f,¬ F a->H a≠Φ->¬ F' a/\H' a=H a)
  (h:E7 K F H v d f):E7 K F' H' v d f:=
 E7.rec (motive_1:=fun v d f _=>(∀ a∈f,¬ F a->H a≠Φ->¬ F' a/\H' a=H a)->FE K F' H' v d f) (motive_2:=fun v d f _=>(∀ a∈f,¬ F a->H a≠Φ->¬ F' a/\H' a=H a)->E7 K F' H' v d f) (fun _=>.Fy) (fun b _=>.bl b) (fun b _=>.int b) (fun b _=>.str b)
  (fun h _=>.exc (ht _ (.inr _) h)) (fun h1 _ i k=>.tup (ht _ (.inl _) h1) (i k)) (fun h0 h1 _ i _=>.Jf (hl _ (.l _) h0 h1).1 (hl _ (.l _) h0 h1).2 (i dC)) (fun h1 _ i _=>.lstK h1 (i dC))
  (fun h0 h1 _ i k=>.Gy (k _ (.head _) h0 (eN h1)).1 ((k _ (.head _) h0 (eN h1)).2.trans h1) (i fun b hb=>k b (.tail _ hb))) (fun h0 h1 h2 _ i _=>.K6 (hl _ (.d _) h0 h1).1 (hl _ (.d _) h0 h1).2 h2 (i dC)) (fun h0 h1 h2 _ i k=>.Mm (k _ (.head _) h0 (eN h1)).1 ((k _ (.head _) h0 (eN h1)).2.trans h1) h2 (i fun b hb=>k b (.tail _ hb))) (fun _=>.nil)
  (fun _ _ i j k=>.cons (i fun a ha=>k a (q_ _ ha)) (j fun a ha=>k a (r_ _ ha))) h k
theorem vX {p:Ω->Prop}{x:Ω}{f:List Ω}(h:p x)(i:∀ a∈f,p a):∀ a∈x::f,p a:=by
 intro b hb;rcases k_.mp hb with rfl|hb
 ·exact h
 ·exact i b hb
theorem Ca {p:Ω->Prop}{f g:List Ω}(h:∀ a∈f,p a)(i:∀ a∈g,p a):∀ a∈f++g,p a:=fun b hb=>(x_.mp hb).elim (h b) (i b)
theorem FE.own {v:V}{d:D}{f:List Ω}(h:FE K F H v d f):∀ a∈f,¬ F a/\∃ u,H a=Δ u:=
 FE.rec (motive_1:=fun _ _ f _=>∀ a∈f,¬ F a/\∃ u,H a=Δ u) (motive_2:=fun _ _ f _=>∀ a∈f,¬ F a/\∃ u,H a=Δ u) dC (fun _=>dC) (fun _=>dC) (fun _=>dC) (fun _=>dC) (fun _ _ i=>i) (fun _ _ _ _=>dC) (fun _ _ _=>dC)
  (fun h0 h1 _ i=>vX ⟨h0,_,h1⟩ i) (fun _ _ _ _ _=>dC) (fun h0 h1 _ _ i=>vX ⟨h0,_,h1⟩ i) dC (fun _ _ i j=>Ca i j) h
theorem E7.own {v:List V}{d:List D}{f:List Ω}(h:E7 K F H v d f):∀ a∈f,¬ F a/\∃ u,H a=Δ u:=
 E7.rec (motive_1:=fun _ _ f _=>∀ a∈f,¬ F a/\∃ u,H a=Δ u) (motive_2:=fun _ _ f _=>∀ a∈f,¬ F a/\∃ u,H a=Δ u) dC (fun _=>dC) (fun _=>dC) (fun _=>dC) (fun _=>dC) (fun _ _ i=>i) (fun _ _ _ _=>dC) (fun _ _ _=>dC)
  (fun h0 h1 _ i=>vX ⟨h0,_,h1⟩ i) (fun _ _ _ _ _=>dC) (fun h0 h1 _ _ i=>vX ⟨h0,_,h1⟩ i) dC (fun _ _ i j=>Ca i j) h
theorem E4.ind {P:List V->List D->Prop}(n:P [] [])(c:∀ v d vs ds,E6 K S H v d->E4 K S H vs ds->P vs ds->P (v::vs) (d::ds)){vs:List V}{ds:List D}(h:E4 K S H vs ds):P vs ds:=
 E4.rec (motive_1:=fun _ _ _=>True) (motive_2:=fun v d _=>P v d) trivial (fun _=>trivial) (fun _=>trivial) (fun _=>trivial) (fun _=>trivial) (fun _ _ _=>trivial) (fun _ _ _ _=>trivial) (fun _ _ _=>trivial) (fun _ _ _ _ _=>trivial) n (fun a b _ j=>c _ _ _ _ a b j) h
theorem E7.ind {P:List V->List D->List Ω->Prop}(n:P [] [] [])(c:∀ v d f vs ds g,FE K F H v d f->E7 K F H vs ds g->P vs ds g->P (v::vs) (d::ds) (f++g)){vs:List V}{ds:List D}{f:List Ω}(h:E7 K F H vs ds f):P vs ds f:=
 E7.rec (motive_1:=fun _ _ _ _=>True) (motive_2:=fun v d f _=>P v d f) trivial (fun _=>trivial) (fun _=>trivial) (fun _=>trivial) (fun _=>trivial) (fun _ _ _=>trivial) (fun _ _ _ _=>trivial) (fun _ _ _=>trivial) (fun _ _ _ _=>trivial) (fun _ _ _ _ _=>trivial) (fun _ _ _ _ _=>trivial) n (fun a b _ j=>c _ _ _ _ _ _ a b j) h
theorem E4.length {vs:List V}{ds:List D}(h:E4 K S H vs ds):vs.length=ds.length:=
 E4.ind (P:=fun v d=>v.length=d.length) rfl (fun _ _ _ _ _ _ j=>congrArg (· + 1) j) h
theorem E4.get {i:Nat}{vs:List V}{ds:List D}{d:D}(h:E4 K S H vs ds)(e:ds[i]? = Δ d):∃ v,vs[i]? = Δ v/\E6 K S H v d:=
 E4.ind (P:=fun vs ds=>∀ i d,ds[i]? = Δ d->∃ v,vs[i]? = Δ v/\E6 K S H v d) (fun i d e=>nomatch (show Φ=Δ d from e)) (fun v d _ _ a _ j i d e=>by
  cases i with
  | zero=>exact⟨_,rfl,F_ e ▸ a⟩
  | succ i=>exact j i d e) h i d e
theorem E4.Jg {i:Nat}{vs:List V}{ds:List D}{v:V}(h:E4 K S H vs ds)(e:vs[i]? = Δ v):∃ d,ds[i]? = Δ d/\E6 K S H v d:=
 E4.ind (P:=fun vs ds=>∀ i v,vs[i]? = Δ v->∃ d,ds[i]? = Δ d/\E6 K S H v d) (fun i d e=>nomatch (show Φ=Δ d from e)) (fun v d _ _ a _ j i d e=>by
  cases i with
  | zero=>exact⟨_,rfl,F_ e ▸ a⟩
  | succ i=>exact j i d e) h i v e
theorem E4.append {vs ws:List V}{ds es:List D}(h:E4 K S H vs ds)(h':E4 K S H ws es):E4 K S H (vs++ws) (ds++es):=
 E4.ind (P:=fun v d=>E4 K S H (v++ws) (d++es)) h' (fun _ _ _ _ a _ j=>.cons a j) h
theorem E4.take {vs:List V}{ds:List D}(n:Nat)(h:E4 K S H vs ds):E4 K S H (vs.take n) (ds.take n):=
 E4.ind (P:=fun v d=>∀ n,E4 K S H (v.take n) (d.take n)) (fun n=>by cases n<;>exact .nil) (fun _ _ _ _ a _ j n=>by
  cases n with
  | zero=>exact .nil
  | succ n=>exact .cons a (j n)) h n
theorem E4.drop {vs:List V}{ds:List D}(n:Nat)(h:E4 K S H vs ds):E4 K S H (vs.drop n) (ds.drop n):=
 E4.ind (P:=fun v d=>∀ n,E4 K S H (v.drop n) (d.drop n)) (fun n=>by cases n<;>exact .nil) (fun _ _ _ _ a b j n=>by
  cases n with
  | zero=>exact .cons a b
  | succ n=>exact j n) h n
theorem E7.length {vs:List V}{ds:List D}{f:List Ω}(h:E7 K F H vs ds f):vs.length=ds.length:=
 E7.ind (P:=fun v d _=>v.length=d.length) rfl (fun _ _ _ _ _ _ _ _ j=>congrArg (· + 1) j) h
theorem E7.append {vs ws:List V}{ds es:List D}{f g:List Ω}(h:E7 K F H vs ds f)(h':E7 K F H ws es g):E7 K F H (vs++ws) (ds++es) (f++g):=
 E7.ind (P:=fun v d f=>E7 K F H (v++ws) (d++es) (f++g)) h' (fun _ _ _ _ _ _ a _ j=>by
  rw[C_]
  exact .cons a j) h
theorem E6.Ga {v:V}{o:Bool}{ds:List D}(h:E6 K S H v (.lst o ds)):∃ a xs,v=.ref a/\Gu K H a xs/\E4 K S H xs ds:=by
 cases h with
 | lst h0 h1 h2=>exact⟨_,_,rfl,.inl h1,h2⟩
 | lstK h1 h2=>exact⟨_,_,rfl,h1.sq,h2⟩
theorem E6.JN {v:V}{o:Bool}{ds:List D}(h:E6 K S H v (.lst o ds)):∃ a xs,v=.ref a/\Ls K H a xs/\E4 K S H xs ds:=by
 cases h with
 | lst h0 h1 h2=>exact⟨_,_,rfl,.inl h1,h2⟩
 | lstK h1 h2=>exact⟨_,_,rfl,.inr h1,h2⟩
theorem E6.Gz {v:V}{ds:List D}(h:E6 K S H v (.tup ds)):∃ a xs,v=.ref a/\G0 K H a xs/\E4 K S H xs ds:=by
 cases h with
 | tup h1 h2=>exact⟨_,_,rfl,h1,h2⟩
theorem E6.FK {v:V}{i:Int}(h:E6 K S H v (.int i)):v=.int i:=by cases h;rfl
theorem E6.J0 {v:V}{i:Bool}(h:E6 K S H v (.bl i)):v=.bl i:=by cases h;rfl
theorem E6.F4 {v:V}{i:Str}(h:E6 K S H v (.str i)):v=.str i:=by cases h;rfl
theorem E6.Hn {v:V}(h:E6 K S H v .Fy):v=.Fy:=by cases h;rfl
theorem E4.ints {vs:List V}{ns:List Int}(h:E4 K S H vs (ns.map .int)):vs=ns.map .int:=
 E4.ind (P:=fun v d=>∀ ns:List Int,d=ns.map .int->v=ns.map .int) (fun ns e=>by
  cases ns with
  | nil=>rfl
  | cons n ns=>exact nomatch e) (fun _ _ _ _ a _ j ns e=>by
  cases ns with
  | nil=>exact nomatch e
  | cons n ns=>
   obtain⟨h1,h2⟩:=List.cons.inj e;subst h1;rw[j ns h2,a.FK]
   rfl) h ns rfl
theorem E4.strs {vs:List V}{ns:List Str}(h:E4 K S H vs (ns.map .str)):vs=ns.map .str:=
 E4.ind (P:=fun v d=>∀ ns:List Str,d=ns.map .str->v=ns.map .str) (fun ns e=>by
  cases ns with
  | nil=>rfl
  | cons n ns=>exact nomatch e) (fun _ _ _ _ a _ j ns e=>by
  cases ns with
  | nil=>exact nomatch e
  | cons n ns=>
   obtain⟨h1,h2⟩:=List.cons.inj e;subst h1;rw[j ns h2,a.F4]
   rfl) h ns rfl
theorem E4.U' {vs:List V}{ns:List Bool}(h:E4 K S H vs (ns.map .bl)):vs=ns.map .bl:=
 E4.ind (P:=fun v d=>∀ ns:List Bool,d=ns.map .bl->v=ns.map .bl) (fun ns e=>by
  cases ns with
  | nil=>rfl
  | cons n ns=>exact nomatch e) (fun _ _ _ _ a _ j ns e=>by
  cases ns with
  | nil=>exact nomatch e
  | cons n ns=>
   obtain⟨h1,h2⟩:=List.cons.inj e;subst h1;rw[j ns h2,a.J0]
   rfl) h ns rfl
theorem E4.ofInts:∀ (ns:List Int),E4 K S H (ns.map .int) (ns.map .int)
 | []=>.nil
 | n::ns=>.cons (.int n) (E4.ofInts ns)
end
theorem cz.upd {H:Hp}{a:Ω}{o:HO}(h:H a=Φ):cz H (upd H a o):=fun b u e=>by rw[cv (cN e h)];exact e
theorem zD:type_of% @D.casesOn.{0}:=@D.casesOn.{0}
inductive Kg where
 | add|sub|mul|fdiv|mod|pow
 deriving DecidableEq
inductive HM where
 | eq|ne|lt|le|gt|ge|Kh|LF|K7|IW
 deriving DecidableEq
inductive Kd where
 | str|int|bool|list|tuple
 deriving DecidableEq
inductive Bi where
 | len|sum|min2|max2|K8|sorted|list|tuple|ord|int|all|any|str|set|abs
 deriving DecidableEq
inductive Mt where
 | join|index|starts
 deriving DecidableEq
inductive Tg where
 | nm (i:Nat)|tp (ts:List Tg)
structure Gm where
 N:List Str
 kd:List NameKind
 gl:List Nat
 df:Bool
 cm:Bool:=Θ
 rs:Bool:=Θ
 tr:Bool:=Ξ
 io:Option Nat:=Φ
mutual
inductive IR where
 | c (d:D)
 | g (n:Nat) (d:D)
 | v (i:Nat)
 | bin (op:Kg) (a b:IR)
 | neg (a:IR)
 | cmp (op:HM) (a b:IR)
 | chain (op Gk:HM) (a b c:IR)
 | Gd (a b:IR)
 | II (a b:IR)
 | GA (a:IR)
 | ite (t a b:IR)
 | tup (es:List IR)
 | lst (es:List IR)
 | idx (a i:IR)
 | sl (a:IR) (lo hi:Option IR)
 | call (f:Nat) (es:List IR)
 | bi (f:Bi) (es:List IR)
 | Hl (a:IR) (k:Kd)
 | Ho (a:IR)
 | Hq (a b:IR)
 | sset (a:IR)
 | Jx (m:Mt) (o:IR) (es:List IR)
 | comp (G:Gm) (fr:List Nat) (tg:Tg) (src:Sr) (ifs:List IR) (elt:IR)
inductive Sr where
 | FV (n:IR)|val (e:IR)|zip (a b:IR)|HN (e:IR)
end
inductive IS where
 | asg (tg:Tg) (e:IR)
 | IJ (i:Nat) (k e:IR)
 | app (i:Nat) (e:IR)
 | K9 (i j:Nat) (e c x v w:IR)
 | M5 (j:Nat) (G:Gm) (fr:List Nat) (t:Nat) (s:Sr)
 | ins (i:Nat) (k e:IR)
 | exp (e:IR)
 | ret (e:IR)
 | Ki (e:IR)
 | FO (t:IR) (a b:List IS)
 | FZ (tg:Tg) (src:Sr) (body:List IS)
 | brk|cnt|pass
 | never
abbrev Ev:=List (Option D)
inductive Fl where
 | nx (τ:Ev)|rt (d:D)|bk (τ:Ev)|ct (τ:Ev)|ri (d:D) (ks:List Key) (vs:List D)
noncomputable def d6 {α:Type}(xs:List α)(lo hi:Option Int):List α:=(xs.drop (HT.Ig xs.length 0 lo)).take (HT.Ig xs.length xs.length hi - HT.Ig xs.length 0 lo)
noncomputable def dh (n:Nat):Bool:=decide (n<=Ζ)
noncomputable def dP (n:Nat):Bool:=decide (n < Ζ)
noncomputable def Hm:Kg->D->D->Res D
 | .add,.int a,.int b=>.ok (.int (a+b))
 | .add,.str a,.str b=>Fw (dh (a.length+b.length)) (.ok (.str (a++b)))
 | .add,.lst _ a,.lst _ b=>Fw (dh (a.length+b.length)) (.ok (.lst Θ (a++b)))
 | .sub,.int a,.int b=>.ok (.int (a - b))
 | .mul,.int a,.int b=>Fw (decide (-(2 ^ 64) < a/\a < 2 ^ 64)||decide (-(2 ^ 64) < b/\b < 2 ^ 64)) (.ok (.int (a*b)))
 | .mul,.str a,.int b=>Fw (decide (-16000<=b/\b<=16000/\a.length<=1000)) (.ok (.str (Txt.mul a b)))
 | .mul,.lst _ a,.int b=>Fw (decide (0<=b/\b<=16000/\a.length<=1000)) (.ok (.lst Θ (List.flatten (Τ b.toNat a))))
 | .fdiv,.int a,.int b=>Fw (decide (0 < b/\b < 1073741824)) (.ok (.int (a / b)))
 | .mod,.int a,.int b=>Fw (decide (0 < b)) (.ok (.int (a % b)))
 | .pow,.int a,.int b=>Fw (decide (0<=b/\b<=1000000/\a.natAbs < 2 ^ 64)) (.ok (.int (a ^ b.toNat)))
 | _,_,_=>FC
noncomputable def cH:D->D->Res D
 | .lst _ ds,.int i=>match GU ds i with
  | some d=>.ok d
  | none=>FC
 | .tup ds,.int i=>match GU ds i with
  | some d=>.ok d
  | none=>FC
 | .str z,.int i=>Fw (dh z.length) (match GU z.cps.toList i with
  | some c=>.ok (.str ⟨#[c]⟩)
  | none=>FC)
 | _,_=>FC
noncomputable def lQ:D->Option Int->Option Int->Res D
 | .lst _ ds,lo,hi=>.ok (.lst Θ (d6 ds lo hi))
 | .str z,lo,hi=>Fw (dh z.length) (.ok (.str (Txt.slice z lo hi)))
 | _,_,_=>FC
noncomputable def cK:D->Res Bool
 | .Fy=>.ok Ξ
 | .bl b=>.ok b
 | .int i=>.ok (i != 0)
 | .str x=>Fw (dh x.length) (.ok ((x.length:Int) != 0))
 | .tup ds=>.ok (!ds.isEmpty)
 | .lst _ ds=>.ok (!ds.isEmpty)
 | .exc _=>FC
 | .FX _ _ _=>FC
noncomputable def ff (f:D->D->Res Bool):List D->List D->Res Bool
 | [],[]=>.ok Θ
 | a::r,b::t=>E3 (f a b) fun x=>E3 (ff f r t) fun y=>.ok (x&&y)
 | _,_=>.ok Ξ
noncomputable def GB:Nat->D->D->Res Bool
 | 0,_,_=>FC
 | _+1,.exc _,_=>FC
 | _+1,_,.exc _=>FC
 | _+1,.FX _ _ _,_=>FC
 | _+1,_,.FX _ _ _=>FC
 | _+1,.Fy,.Fy=>.ok Θ
 | _+1,.Fy,_=>.ok Ξ
 | _+1,.bl a,.bl b=>.ok (a == b)
 | _+1,.bl a,.int b=>.ok ((if a then 1 else 0) == b)
 | _+1,.bl _,_=>.ok Ξ
 | _+1,.int a,.bl b=>.ok (a == (if b then 1 else 0))
 | _+1,.int a,.int b=>.ok (a == b)
 | _+1,.int _,_=>.ok Ξ
 | _+1,.str a,.str b=>.ok (a == b)
 | _+1,.str _,_=>.ok Ξ
 | n+1,.tup a,.tup b=>ff (GB n) a b
 | _+1,.tup _,_=>.ok Ξ
 | n+1,.lst _ a,.lst _ b=>ff (GB n) a b
 | _+1,.lst _ _,_=>.ok Ξ
noncomputable def GV (d:D):List D->Res Bool
 | []=>.ok Ξ
 | e::r=>E3 (GB 40 e d) fun x=>E3 (GV d r) fun y=>.ok (x||y)
noncomputable def lU (x y:Str):Bool:=!(Builtin.Str.occurrences x y 0 x.length 1).isEmpty
noncomputable def eO:D->Bool
 | .Fy=>Θ
 | _=>Ξ
noncomputable def gV:D->Bool
 | .exc _=>Ξ
 | .FX _ _ _=>Ξ
 | _=>Θ
noncomputable def GQ:HM->D->D->Res Bool
 | .eq,a,b=>GB 40 a b
 | .ne,a,b=>E3 (GB 40 a b) fun r=>.ok !r
 | .lt,.int a,.int b=>.ok (decide (a < b))
 | .le,.int a,.int b=>.ok (decide (a<=b))
 | .gt,.int a,.int b=>.ok (decide (b < a))
 | .ge,.int a,.int b=>.ok (decide (b<=a))
 | .Kh,.str y,.str x=>.ok (lU x y)
 | .LF,.str y,.str x=>.ok (!lU x y)
 | .Kh,a,.lst _ ds=>GV a ds
 | .LF,a,.lst _ ds=>E3 (GV a ds) fun r=>.ok !r
 | .Kh,a,.tup ds=>GV a ds
 | .LF,a,.tup ds=>E3 (GV a ds) fun r=>.ok !r
 | .K7,a,.Fy=>.ok (eO a)
 | .IW,a,.Fy=>.ok (!eO a)
 | .IW,.bl a,.bl b=>.ok (a != b)
 | .IW,.Fy,.bl _=>.ok Θ
 | _,_,_=>FC
noncomputable def fg:List D->Option (List Int)
 | []=>Δ []
 | .int i::r=>(fg r).map (i::·)
 | _::_=>Φ
noncomputable def fq:List D->Option (List Str)
 | []=>Δ []
 | .str i::r=>(fq r).map (i::·)
 | _::_=>Φ
noncomputable def dQ:List D->Option (List Bool)
 | []=>Δ []
 | .bl i::r=>(dQ r).map (i::·)
 | _::_=>Φ
noncomputable def du:Kd->D->Bool
 | .str,.str _=>Θ
 | .int,.int _=>Θ
 | .int,.bl _=>Θ
 | .bool,.bl _=>Θ
 | .list,.lst _ _=>Θ
 | .tuple,.tup _=>Θ
 | _,_=>Ξ
noncomputable def dF (x:Str):List D:=x.cps.toList.map fun c=>.str ⟨#[c]⟩
noncomputable def eD:Bi->List D->Res D
 | .len,[.str x]=>Fw (dh x.length) (.ok (.int x.length))
 | .len,[.tup ds]=>.ok (.int ds.length)
 | .len,[.lst _ ds]=>.ok (.int ds.length)
 | .len,[.FX _ ks _]=>.ok (.int ks.length)
 | .min2,[.int a,.int b]=>.ok (.int (if b < a then b else a))
 | .max2,[.int a,.int b]=>.ok (.int (if b > a then b else a))
 | .ord,[.str x]=>Fw (decide (x.length=1)) (.ok (.int (x.cps.getD 0 0:Nat)))
 | .list,[.lst _ ds]=>.ok (.lst Θ ds)
 | .list,[.tup ds]=>.ok (.lst Θ ds)
 | .list,[.str x]=>Fw (dh x.length) (.ok (.lst Θ (dF x)))
 | .tuple,[.lst _ ds]=>.ok (.tup ds)
 | .tuple,[.str x]=>Fw (dh x.length) (.ok (.tup (dF x)))
 | .all,[.lst _ ds]=>match dQ ds with
  | some bs=>.ok (.bl (bs.all id))
  | none=>FC
 | .any,[.lst _ ds]=>match dQ ds with
  | some bs=>.ok (.bl (bs.any id))
  | none=>FC
 | _,_=>FC
noncomputable def f6:D->Bool
 | .str _=>Θ
 | _=>Ξ
noncomputable def iL:Mt->D->List D->Res D
 | .join,.str x,[.lst _ ds]=>match fq ds with
  | some ys=>Fw (decide ((ys.map (·.length)).sum+ys.length*x.length<=16777216)) (.ok (.str (Txt.join x ys)))
  | none=>FC
 | .starts,.str x,[.str y]=>.ok (.bl (Txt.startswith x y))
 | _,_,_=>FC
noncomputable def fH:D->Res (List D)
 | .lst _ ds=>.ok ds
 | .tup ds=>.ok ds
 | .str x=>Fw (dh x.length) (.ok (dF x))
 | _=>FC
noncomputable def jw:D->Res (List D)
 | .lst _ ds=>.ok ds
 | .tup ds=>.ok ds
 | _=>FC
noncomputable def eE (ds es:List D):List D:=List.zipWith (fun a b=>.tup [a,b]) ds es
noncomputable def iM (ds:List D):List D:=List.zipWith (fun (k:Nat) d=>.tup [.int k,d]) (List.range ds.length) ds
noncomputable def vY:D->Res (List D)
 | .lst _ ds=>.ok (iM ds)
 | _=>FC
noncomputable def iN (x y:D):Res (List D):=E3 (jw x) fun ds=>E3 (jw y) fun es=>.ok (eE ds es)
noncomputable def oA (x y:D):Res D:=E3 (iN x y) fun ds=>Fw (dh ds.length) (.ok (.lst Θ ds))
noncomputable def cO (a b:Int):List D:=(List.range (b - a).toNat).map fun k=>.int (a+(k:Nat))
noncomputable def vZ:D->Res D
 | .lst _ ds=>.ok (.lst Θ ds.reverse)
 | _=>FC
noncomputable def oB:D->Res D
 | .lst _ ds=>match fg ds with
  | some ns=>Fw (decide (ns.length < 64)) (.ok (.lst Θ ((PySem.W.sortI (dd ns)).map .int)))
  | none=>FC
 | _=>FC
noncomputable def hW (i:Int):Bool:=decide (-(2 ^ 62)<=i/\i < 2 ^ 62)
noncomputable def cC {α β:Type}(f:α->Res (Option β)):List α->Res (List β)
 | []=>.ok []
 | x::xs=>E3 (f x) fun
  | some d=>E3 (cC f xs) fun r=>.ok (d::r)
  | none=>cC f xs
noncomputable def K' {α:Type}:Res α->Res α
 | .error _=>FC
 | .ok a=>.ok a
mutual
noncomputable def dH:Tg->D->Ev->Res Ev
 | .nm i,d,τ=>.ok (τ.set i (Δ d))
 | .tp ts,.tup ds,τ=>Fw (decide (ds.length=ts.length)) (gq ts ds τ)
 | .tp ts,.lst _ ds,τ=>Fw (decide (ds.length=ts.length)) (gq ts ds τ)
 | .tp _,_,_=>FC
noncomputable def gq:List Tg->List D->Ev->Res Ev
 | t::ts,d::ds,τ=>E3 (dH t d τ) fun τ'=>gq ts ds τ'
 | [],[],τ=>.ok τ
 | _,_,_=>FC
end
noncomputable def cu (τ:Ev)(i:Nat):Option D:=(τ[i]?).join
mutual
noncomputable def vars:IR->List Nat
 | .c _=>[]
 | .g _ _=>[]
 | .v i=>[i]
 | .bin _ a b=>vars a++vars b
 | .neg a=>vars a
 | .cmp _ a b=>vars a++vars b
 | .chain _ _ a b c=>vars a++vars b++vars c
 | .Gd a b=>vars a++vars b
 | .II a b=>vars a++vars b
 | .GA a=>vars a
 | .ite t a b=>vars t++vars a++vars b
 | .tup es=>cD es
 | .lst es=>cD es
 | .idx a i=>vars a++vars i
 | .sl a lo hi=>vars a++rF lo++rF hi
 | .call _ es=>cD es
 | .bi _ es=>cD es
 | .Hl a _=>vars a
 | .Ho a=>vars a
 | .Hq a b=>vars a++vars b
 | .sset a=>vars a
 | .Jx _ o es=>vars o++cD es
 | .comp _ fr _ src _ _=>fr++eS src
noncomputable def cD:List IR->List Nat
 | []=>[]
 | e::es=>vars e++cD es
noncomputable def rF:Option IR->List Nat
 | none=>[]
 | some e=>vars e
noncomputable def eS:Sr->List Nat
 | .FV n=>vars n
 | .val e=>vars e
 | .zip a b=>vars a++vars b
 | .HN a=>vars a
end
mutual
noncomputable def E8 (cl:Nat->List D->Res D):IR->Ev->Res D
 | .c d,_=>.ok d
 | .g _ d,_=>.ok d
 | .v i,τ=>match cu τ i with
  | some d=>.ok d
  | none=>FC
 | .bin op a b,τ=>E3 (E8 cl a τ) fun x=>E3 (E8 cl b τ) fun y=>Hm op x y
 | .neg a,τ=>E3 (E8 cl a τ) fun
  | .int i=>.ok (.int (-i))
  | _=>FC
 | .cmp op a b,τ=>E3 (E8 cl a τ) fun x=>E3 (E8 cl b τ) fun y=>E3 (GQ op x y) fun r=>.ok (.bl r)
 | .chain op Gk a b c,τ=>E3 (E8 cl a τ) fun x=>E3 (E8 cl b τ) fun y=>E3 (GQ op x y) fun r=>
  if r=Θ then E3 (E8 cl c τ) fun z=>E3 (GQ Gk y z) fun r'=>.ok (.bl r') else .ok (.bl Ξ)
 | .Gd a b,τ=>E3 (E8 cl a τ) fun x=>E3 (cK x) fun r=>if r=Θ then E8 cl b τ else .ok x
 | .II a b,τ=>E3 (E8 cl a τ) fun x=>E3 (cK x) fun r=>if r=Θ then .ok x else E8 cl b τ
 | .GA a,τ=>E3 (E8 cl a τ) fun x=>E3 (cK x) fun r=>.ok (.bl !r)
 | .ite t a b,τ=>E3 (E8 cl t τ) fun x=>E3 (cK x) fun r=>if r=Θ then E8 cl a τ else E8 cl b τ
 | .tup es,τ=>E3 (dq cl es τ) fun ds=>Fw (dh ds.length) (.ok (.tup ds))
 | .lst es,τ=>E3 (dq cl es τ) fun ds=>Fw (dh ds.length) (.ok (.lst Θ ds))
 | .idx a i,τ=>E3 (E8 cl a τ) fun x=>E3 (E8 cl i τ) fun y=>cH x y
 | .sl a lo hi,τ=>E3 (E8 cl a τ) fun x=>E3 (kE cl lo τ) fun l=>E3 (kE cl hi τ) fun h=>lQ x l h
 | .call f es,τ=>E3 (dq cl es τ) fun ds=>cl f (Fx ds)
 | .bi f es,τ=>E3 (dq cl es τ) fun ds=>eD f ds
 | .Hl a k,τ=>E3 (E8 cl a τ) fun x=>Fw (gV x) (.ok (.bl (du k x)))
 | .Ho a,τ=>E3 (E8 cl a τ) vZ
 | .Hq a b,τ=>E3 (E8 cl a τ) fun x=>E3 (E8 cl b τ) fun y=>oA x y
 | .sset a,τ=>E3 (E8 cl a τ) oB
 | .Jx m o es,τ=>E3 (E8 cl o τ) fun x=>Fw (f6 x) (E3 (dq cl es τ) fun ds=>iL m x ds)
 | .comp G fr tg src ifs elt,τ=>E3 (eL cl src τ) fun its=>Fw (dP its.length) (E3 (K' (cC (fun x=>E3 (dH tg x (fr.map (cu τ)++Τ (G.N.length - fr.length) Φ)) fun KG=>
   E3 (fF cl ifs KG) fun r=>if r=Θ then E3 (E8 cl elt KG) fun d=>.ok (Δ d) else .ok Φ) its)) fun ds=>.ok (.lst Θ ds))
noncomputable def dq (cl:Nat->List D->Res D):List IR->Ev->Res (List D)
 | [],_=>.ok []
 | e::es,τ=>E3 (E8 cl e τ) fun d=>E3 (dq cl es τ) fun ds=>.ok (d::ds)
noncomputable def kE (cl:Nat->List D->Res D):Option IR->Ev->Res (Option Int)
 | none,_=>.ok Φ
 | some e,τ=>E3 (E8 cl e τ) fun
  | .int i=>.ok (Δ i)
  | _=>FC
noncomputable def fF (cl:Nat->List D->Res D):List IR->Ev->Res Bool
 | [],_=>.ok Θ
 | e::es,τ=>E3 (E3 (E8 cl e τ) cK) fun r=>if r=Θ then fF cl es τ else .ok Ξ
noncomputable def eL (cl:Nat->List D->Res D):Sr->Ev->Res (List D)
 | .FV n,τ=>E3 (E8 cl n τ) fun
  | .int i=>Fw (hW i) (.ok (cO 0 i))
  | _=>FC
 | .val e,τ=>E3 (E8 cl e τ) fH
 | .zip a b,τ=>E3 (E8 cl a τ) fun x=>E3 (E8 cl b τ) fun y=>iN x y
 | .HN a,τ=>E3 (E8 cl a τ) vY
end
noncomputable def Of (cl:Nat->List D->Res D)(t:IR)(τ:Ev):Res Bool:=E3 (E8 cl t τ) cK
noncomputable def jx (is:List Nat):Nat->Ev->Ev
 | _,[]=>[]
 | k,o::τ=>(if is.contains k then o.map er else o)::jx is (k+1) τ
noncomputable abbrev FT (is:List Nat)(τ:Ev):Ev:=jx is 0 τ
noncomputable def cP : IR->Bool
 | .bin .add _ _=>Θ
 | .bin .mul _ _=>Θ
 | .sl _ _ _=>Θ
 | .bi .list _=>Θ
 | .comp _ _ _ _ _ _=>Θ
 | _=>Ξ
noncomputable def cG (e:IR)(d:D)(τ:Ev):D×Ev:=
 if cA d=Θ then (d,τ)
 else match cP e,d with
  | true,.lst _ ds=>if cp ds=Θ then (.lst Θ ds,τ) else (.lst Θ (Fx ds),FT (vars e) τ)
  | _,_=>(er d,FT (vars e) τ)
mutual
noncomputable def Gb (cl:Nat->List D->Res D)(mv:Bool):IR->Ev->Res (D×Ev)
 | .v i,τ=>match cu τ i with
  | some d=>if mv=Θ then .ok (d,τ.set i Φ) else .ok (er d,τ.set i (Δ (er d)))
  | none=>FC
 | .tup es,τ=>E3 (jy cl mv es τ) fun p=>Fw (dh p.1.length) (.ok (.tup p.1,p.2))
 | .lst es,τ=>E3 (jy cl mv es τ) fun p=>Fw (dh p.1.length) (.ok (.lst Θ p.1,p.2))
 | .ite t a b,τ=>E3 (Of cl t τ) fun r=>if r=Θ then Gb cl mv a τ else Gb cl mv b τ
 | .call f es,τ=>E3 (dq cl es τ) fun ds=>E3 (cl f (Fx ds)) fun d=>if cA d=Θ then .ok (d,τ) else .ok (d,FT (cD es) τ)
 | e,τ=>E3 (E8 cl e τ) fun d=>.ok (cG e d τ)
noncomputable def jy (cl:Nat->List D->Res D)(mv:Bool):List IR->Ev->Res (List D×Ev)
 | [],τ=>.ok ([],τ)
 | e::es,τ=>E3 (Gb cl mv e τ) fun p=>E3 (jy cl mv es p.2) fun q=>.ok (p.1::q.1,q.2)
end
noncomputable def forM (body:D->Ev->Res Fl):List D->Ev->Res Fl
 | [],τ=>.ok (.nx τ)
 | x::xs,τ=>E3 (body x τ) fun
  | .nx τ'=>forM body xs τ'
  | .ct τ'=>forM body xs τ'
  | .bk τ'=>.ok (.nx τ')
  | .rt d=>.ok (.rt d)
  | .ri d ks vs=>.ok (.ri d ks vs)
noncomputable def lV (cl:Nat->List D->Res D)(s:Sr)(τ:Ev):Res (List D×Ev):=E3 (eL cl s τ) fun its=>match s with
 | .FV _=>.ok (its,τ)
 | s=>.ok (Fx its,FT (eS s) τ)
noncomputable def v7 (j:Nat)(τ:Ev)(its:List D):Res Fl:=Fw (dP its.length) (.ok (.nx (τ.set j (Δ (.lst Θ (Τ (its.length+1) (.lst Θ [])))))))
noncomputable def nB:Ev->Nat->Bool
 | [],_=>Ξ
 | _::_,0=>Θ
 | _::τ,j+1=>nB τ j
noncomputable def v8 (i j k:Nat)(ds es:List D)(τ:Ev)(d:D):D->Res Fl
 | .int z=>(match Hb es.length z with
  | some t=>Fw (cA d) (.ok (.nx ((τ.set i (Δ (.lst Θ (ds.set k (.lst Θ (es.set t d)))))).set j Φ)))
  | none=>FC)
 | _=>FC
noncomputable def Aj (i j k:Nat)(ds es:List D)(τ:Ev)(d:D):Res Fl:=Fw (cA d&&dP es.length) (.ok (.nx ((τ.set i (Δ (.lst Θ (ds.set k (.lst Θ (es++[d])))))).set j Φ)))
noncomputable def ql (cl:Nat->List D->Res D)(i j k:Nat)(x v w:IR)(ds es:List D)(τ:Ev)(r:Bool):Res Fl:=
 if r=Θ then E3 (E8 cl v (τ.set j (Δ (.lst Θ es)))) fun d=>E3 (E8 cl x (τ.set j (Δ (.lst Θ es)))) (v8 i j k ds es τ d)
 else E3 (E8 cl w (τ.set j (Δ (.lst Θ es)))) (Aj i j k ds es τ)
noncomputable def nC (cl:Nat->List D->Res D)(i j:Nat)(c x v w:IR)(ds:List D)(τ:Ev):Option Nat->Res Fl
 | some k=>(match ds[k]? with
  | some (.lst Θ es)=>Fw (cp es&&nB τ j) (E3 (E3 (E8 cl c (τ.set j (Δ (.lst Θ es)))) cK) (ql cl i j k x v w ds es τ))
  | _=>FC)
 | none=>FC
noncomputable def v9 (cl:Nat->List D->Res D)(i j:Nat)(c x v w:IR)(ds:List D)(τ:Ev):D->Res Fl
 | .int z=>nC cl i j c x v w ds τ (Hb ds.length z)
 | _=>FC
noncomputable def rG (cl:Nat->List D->Res D)(i j:Nat)(e c x v w:IR)(τ:Ev):Option D->Res Fl
 | some (.lst Θ ds)=>E3 (E8 cl e τ) (v9 cl i j c x v w ds τ)
 | _=>FC
mutual
noncomputable def Gv (cl:Nat->List D->Res D):IS->Ev->Res Fl
 | .asg tg e,τ=>E3 (Gb cl Ξ e τ) fun p=>E3 (dH tg p.1 p.2) fun τ'=>.ok (.nx τ')
 | .IJ i k e,τ=>E3 (Gb cl Ξ e τ) fun p=>match cu p.2 i with
  | some (.lst Θ ds)=>E3 (E8 cl k p.2) fun
   | .int z=>(match Hb ds.length z with
    | some j=>.ok (.nx (p.2.set i (Δ (.lst Θ (ds.set j p.1)))))
    | none=>FC)
   | _=>FC
  | _=>FC
 | .app i e,τ=>match cu τ i with
  | some (.lst _ _)=>E3 (Gb cl Ξ e τ) fun p=>(match cu p.2 i with
   | some (.lst Θ ds)=>Fw (dP ds.length) (.ok (.nx (p.2.set i (Δ (.lst Θ (ds++[p.1]))))))
   | _=>FC)
  | _=>FC
 | .M5 j _ _ _ s,τ=>E3 (eL cl s τ) (v7 j τ)
 | .K9 i j e c x v w,τ=>rG cl i j e c x v w τ (cu τ i)
 | .ins i k e,τ=>match cu τ i with
  | some (.lst _ _)=>E3 (E8 cl k τ) fun y=>E3 (Gb cl Ξ e τ) fun p=>(match y,cu p.2 i with
   | .int z,Δ (.lst Θ ds)=>Fw (decide (0<=z/\z.toNat<=ds.length)&&dP ds.length) (.ok (.nx (p.2.set i (Δ (.lst Θ (ds.take z.toNat++p.1::ds.drop z.toNat))))))
   | _,_=>FC)
  | _=>FC
 | .exp e,τ=>E3 (E8 cl e τ) fun _=>.ok (.nx τ)
 | .ret e,τ=>E3 (Gb cl Θ e τ) fun p=>.ok (.rt p.1)
 | .Ki e,τ=>E3 (Gb cl Ξ e τ) fun p=>.ok (.rt p.1)
 | .FO t a b,τ=>E3 (Of cl t τ) fun r=>if r=Θ then cI cl a τ else cI cl b τ
 | .FZ tg s body,τ=>E3 (lV cl s τ) fun p=>forM (fun x τ=>E3 (dH tg x τ) fun τ'=>cI cl body τ') p.1 p.2
 | .brk,τ=>.ok (.bk τ)
 | .cnt,τ=>.ok (.ct τ)
 | .pass,τ=>.ok (.nx τ)
 | .never,_=>FC
noncomputable def cI (cl:Nat->List D->Res D):List IS->Ev->Res Fl
 | [],τ=>.ok (.nx τ)
 | s::r,τ=>E3 (Gv cl s τ) fun
  | .nx τ'=>cI cl r τ'
  | .ct τ'=>.ok (.ct τ')
  | .bk τ'=>.ok (.bk τ')
  | .rt d=>.ok (.rt d)
  | .ri d ks vs=>.ok (.ri d ks vs)
end
structure Fn where
 np:Nat
 G:Gm
 body:List IS
 io:Bool:=Ξ
noncomputable def fS (cl:Nat->List D->Res D)(fn:Fn)(ds:List D):Res D:=
 Fw (decide (ds.length=fn.np)) (E3 (cI cl fn.body (ds.map Δ++Τ (fn.G.N.length - fn.np) Φ)) fun
  | .nx _=>.ok .Fy
  | .rt d=>.ok d
  | _=>FC)
noncomputable def EJ:D->D
 | .FX _ ks vs=>.FX Θ ks vs
 | d=>d
noncomputable def wb:List D->List D
 | []=>[]
 | [d]=>[EJ d]
 | d::ds=>d::wb ds
noncomputable def gr (cl:Nat->List D->Res D)(fn:Fn)(ds:List D):Res D:=
 Fw (decide (ds.length=fn.np)) (E3 (cI cl fn.body ((wb ds).map Δ++Τ (fn.G.N.length - fn.np) Φ)) fun
  | .ri d ks vs=>.ok (.tup [d,.FX Ξ ks vs])
  | _=>FC)
abbrev Tb:=Nat->Option Fn
noncomputable def aB (T:Tb):Nat->Nat->List D->Res D
 | 0,_,_=>FC
 | n+1,f,ds=>match T f with
  | some fn=>(match fn.io with
   | false=>fS (aB T n) fn ds
   | true=>gr (aB T n) fn ds)
  | none=>FC
theorem Cb {cl:Nat->List D->Res D}{i:Nat}{τ:Ev}:E8 cl (.v i) τ=(match cu τ i with|some d=>.ok d|none=>FC):=rfl
theorem Cc {cl:Nat->List D->Res D}{i:Nat}{τ:Ev}{mv:Bool}:Gb cl mv (.v i) τ=(match cu τ i with|some d=>if mv=Θ then .ok (d,τ.set i Φ) else .ok (er d,τ.set i (Δ (er d)))|none=>FC):=rfl
theorem zI:type_of% @IR.casesOn.{0}:=@IR.casesOn.{0}
theorem zT:type_of% @IS.casesOn.{0}:=@IS.casesOn.{0}
section
variable {X:Cx}{pins:List (Ω×Obj)}{σ:St}{H:Hp}{S:Ω->Prop}{s:Α}
theorem Inv.G7 (I:Inv X pins σ H s){a:Ω}{xs ys:List V}(h1:Gu X.K H a xs)(h2:G0 X.K H a ys):False:=by obtain⟨its,_,⟨o,n,e,c,_⟩,_⟩:=I.list h1;obtain⟨its',_,⟨o',e',c',_⟩,_⟩:=I.tuple h2;rw[e] at e';cases e';rw[c] at c';injection c' with c';exact absurd c' (by decide)
theorem Inv.HD (I:Inv X pins σ H s){a:Ω}{c:Str}(h:GF X.K H a (.inr c)):∃ C o vs,PySem.W.nsIn X.K Η c=Δ (Δ (.ref C))/\nameIn X.K C=Δ c/\s.heap.get? a=Δ o/\o.cls=.ref C/\o.data=.fields vs:=by obtain⟨C,o,vs,h0,h1,h2,h3,h4⟩:=h;exact⟨C,o,vs,h0,h1,(I.FN a _ h2).1,h3,h4⟩
theorem Inv.La (I:Inv X pins σ H s){a:Ω}{c c':Str}(h:GF X.K H a (.inr c))(k:GF X.K H a (.inr c')):c=c':=by obtain⟨C,o,vs,_,n1,e,c1,_⟩:=I.HD h;obtain⟨C',o',N8,_,n2,e',c2,_⟩:=I.HD k;rw[e] at e';cases e';rw[c1] at c2;cases c2;rw[n1] at n2;cases n2;rfl
theorem Inv.Jy (I:Inv X pins σ H s){a:Ω}{c:Str}{xs:List V}(h:GF X.K H a (.inr c))(k:G0 X.K H a xs):False:=by obtain⟨C,o,vs,_,_,e,c1,_⟩:=I.HD h;obtain⟨its',_,⟨o',e',c',_⟩,_⟩:=I.tuple k;rw[e] at e';cases e';rw[c1] at c';cases c'
theorem Inv.Hu (I:Inv X pins σ H s){a:Ω}{c:Str}{xs:List V}(h:GF X.K H a (.inr c))(k:Gu X.K H a xs):False:=by obtain⟨C,o,vs,_,_,e,c1,_⟩:=I.HD h;obtain⟨its',_,⟨o',n,e',c',_⟩,_⟩:=I.list k;rw[e] at e';cases e';rw[c1] at c';cases c'
theorem Inv.Jh (I:Inv X pins σ H s){a:Ω}{FL:List (Key×V)}(h:Rd H a (.dK FL)):∃ o es ep,s.heap.get? a=Δ o/\o.data=.dict es ep:=by obtain⟨_,_,vs,_,o,es,ep,e,c,d,_⟩:=h.ok I.FN;exact⟨o,es,ep,e,d⟩
theorem Inv.Jz (I:Inv X pins σ H s){a:Ω}{FL:List (Key×V)}{xs:List V}(h:Rd H a (.dK FL))(k:G0 X.K H a xs):False:=by obtain⟨o,es,ep,e,d⟩:=I.Jh h;obtain⟨its',_,⟨o',e',c',n,d'⟩,_⟩:=I.tuple k;rw[e] at e';cases e';rw[d] at d';cases d'
theorem Inv.Hv (I:Inv X pins σ H s){a:Ω}{FL:List (Key×V)}{xs:List V}(h:Rd H a (.dK FL))(k:Gu X.K H a xs):False:=by obtain⟨o,es,ep,e,d⟩:=I.Jh h;obtain⟨its',_,⟨o',n,e',c',n',d'⟩,_⟩:=I.list k;rw[e] at e';cases e';rw[d] at d';cases d'
theorem Inv.JA (I:Inv X pins σ H s){a:Ω}{c:Str}{FL:List (Key×V)}(h:GF X.K H a (.inr c))(k:Rd H a (.dK FL)):False:=by obtain⟨C,o,vs,_,_,e,c1,d1⟩:=I.HD h;obtain⟨o',es,ep,e',d⟩:=I.Jh k;rw[e] at e';cases e';rw[d] at d1;cases d1
theorem Rd.dk {H:Hp}{a:Ω}{u v:List (Key×V)}(h:Rd H a (.dK u))(k:Rd H a (.dK v)):u=v:=by rcases h with h|⟨o,h⟩<;>rcases k with k|⟨o',k⟩<;>(rw[h] at k;cases k;try rfl)
mutual
theorem E6.one (I:Inv X pins σ H s):∀ {v:V}{d e:D},E6 X.K S H v d->E6 X.K S H v e->er d=er e
 | _,_,_,.Fy,h=>by cases h;rfl
 | _,_,_,.bl b,h=>by cases h;rfl
 | _,_,_,.int i,h=>by cases h;rfl
 | _,_,_,.str x,h=>by cases h;rfl
 | _,_,_,.exc h0,h=>by
  cases h with
  | exc k1=>exact congrArg D.exc (I.La h0 k1)
  | tup k1 k2=>exact(I.Jy h0 k1).elim
  | lst k0 k1 k2=>exact(I.Hu h0 (.inl k1)).elim
  | lstK k1 k2=>exact(I.Hu h0 k1.sq).elim
  | FX k0 k1 k2 k3=>exact(I.JA h0 k1).elim
 | _,_,_,.tup h1 h2,h=>by
  cases h with
  | exc k1=>exact(I.Jy k1 h1).elim
  | tup k1 k2=>have e:=I.Hd h1 k1;subst e;rw[er,er,E4.one I h2 k2]
  | lst k0 k1 k2=>exact(I.G7 (.inl k1) h1).elim
  | lstK k1 k2=>exact(I.G7 k1.sq h1).elim
  | FX k0 k1 k2 k3=>exact(I.Jz k1 h1).elim
 | _,_,_,.lst h0 h1 h2,h=>by
  cases h with
  | exc k1=>exact(I.Hu k1 (.inl h1)).elim
  | tup k1 k2=>exact(I.G7 (.inl h1) k1).elim
  | lst k0 k1 k2=>have e:=I.Gf (.inl h1) (.inl k1);subst e;rw[er,er,E4.one I h2 k2]
  | lstK k1 k2=>have e:=I.Gf (.inl h1) k1.sq;subst e;rw[er,er,E4.one I h2 k2]
  | FX k0 k1 k2 k3=>exact(I.Hv k1 (.inl h1)).elim
 | _,_,_,.lstK h1 h2,h=>by
  cases h with
  | exc k1=>exact(I.Hu k1 h1.sq).elim
  | tup k1 k2=>exact(I.G7 h1.sq k1).elim
  | lst k0 k1 k2=>have e:=I.Gf h1.sq (.inl k1);subst e;rw[er,er,E4.one I h2 k2]
  | lstK k1 k2=>have e:=I.Gf h1.sq k1.sq;subst e;rw[er,er,E4.one I h2 k2]
  | FX k0 k1 k2 k3=>exact(I.Hv k1 h1.sq).elim
 | _,_,_,.FX h0 h1 h2 h3,h=>by
  cases h with
  | exc k1=>exact(I.JA k1 h1).elim
  | tup k1 k2=>exact(I.Jz h1 k1).elim
  | lst k0 k1 k2=>exact(I.Hv h1 (.inl k1)).elim
  | lstK k1 k2=>exact(I.Hv h1 k1.sq).elim
  | FX k0 k1 k2 k3=>have e:=Rd.dk h1 k1;subst e;rw[er,er,E4.one I h3 k3,<- h2,<- k2]
theorem E4.one (I:Inv X pins σ H s):∀ {vs:List V}{ds es:List D},E4 X.K S H vs ds->E4 X.K S H vs es->Fx ds=Fx es
 | _,_,_,.nil,h=>by cases h;rfl
 | _,_,_,.cons h1 h2,h=>by
  cases h with
  | cons k1 k2=>rw[Fx,Fx,E6.one I h1 k1,E4.one I h2 k2]
end
end
theorem eF {α β:Type}{x:Res α}{f:α->Res β}{b:β}(h:E3 x f=.ok b):∃ a,x=.ok a/\f a=.ok b:=by
 cases x with
 | error e=>cases h
 | ok a=>exact⟨a,rfl,h⟩
theorem nE {α:Type}{c:Bool}{x:Res α}{b:α}(h:Fw c x=.ok b):c=Θ/\x=.ok b:=by
 unfold Fw at h;cases c with
 | true=>exact⟨rfl,h⟩
 | false=>cases h
theorem fu {f:D->D->Res Bool}(hf:∀ d e r,f d e=.ok r->er d=er e->r=Θ):∀ {ds es:List D}{r:Bool},ff f ds es=.ok r->Fx ds=Fx es->r=Θ
 | [],[],r,h,_=>by cases h;rfl
 | [],_::_,_,_,h=>by rw[Fx,Fx] at h;cases h
 | _::_,[],_,_,h=>by rw[Fx,Fx] at h;cases h
 | a::ds,b::es,r,h,h'=>by rw[Fx,Fx] at h';injection h' with e1 e2;obtain⟨x,hx,h⟩:=eF (show E3 (f a b) (fun x=>E3 (ff f ds es) fun y=>.ok (x&&y))=.ok r from h);obtain⟨y,hy,h⟩:=eF h;cases h;rw[hf a b x hx e1,fu hf hy e2];rfl
theorem gu:∀ (n:Nat) (d e:D) (r:Bool),GB n d e=.ok r->er d=er e->r=Θ
 | 0,_,_,_,h,_=>by cases h
 | n+1,d,e,r,h,h'=>by
  induction d using zD with
  | tup ds=>
   induction e using zD with
   | tup es=>rw[er,er] at h';injection h' with e1;exact fu (gu n) h e1
   | Fy=>rw[er,er] at h';cases h'
   | bl _=>rw[er,er] at h';cases h'
   | int _=>rw[er,er] at h';cases h'
   | str _=>rw[er,er] at h';cases h'
   | lst _ _=>rw[er,er] at h';cases h'
   | exc _=>cases h
   | FX _ _ _=>cases h
  | lst o ds=>
   induction e using zD with
   | lst o' es=>rw[er,er] at h';injection h' with _ e1;exact fu (gu n) h e1
   | Fy=>rw[er,er] at h';cases h'
   | bl _=>rw[er,er] at h';cases h'
   | int _=>rw[er,er] at h';cases h'
   | str _=>rw[er,er] at h';cases h'
   | tup _=>rw[er,er] at h';cases h'
   | exc _=>cases h
   | FX _ _ _=>cases h
  | exc _=>cases h
  | FX _ _ _=>induction e using zD<;>cases h
  | Fy=>induction e using zD<;>first|(cases h;done)|(cases h;rfl)|(exfalso;simp[er] at h')
  | bl b=>induction e using zD<;>first|(simp only[er,D.bl.injEq] at h';subst h';cases h;simp)|(exfalso;simp[er] at h')
  | int b=>induction e using zD<;>first|(simp only[er,D.int.injEq] at h';subst h';cases h;simp)|(exfalso;simp[er] at h')
  | str b=>induction e using zD<;>first|(simp only[er,D.str.injEq] at h';subst h';cases h;simp)|(exfalso;simp[er] at h')
theorem lW {f:D->D->Res Bool}:∀ {ds es:List D}{r:Bool},ff f ds es=.ok r->ds.length≠es.length->r=Ξ
 | [],[],_,_,h=>absurd rfl h
 | [],_::_,_,h,_=>by cases h;rfl
 | _::_,[],_,h,_=>by cases h;rfl
 | a::ds,b::es,r,h,n=>by obtain⟨x,hx,h⟩:=eF (show E3 (f a b) (fun x=>E3 (ff f ds es) fun y=>.ok (x&&y))=.ok r from h);obtain⟨y,hy,h⟩:=eF h;cases h;rw[lW hy (fun z=>n (by rw[List.length_cons,List.length_cons,z]))];simp
theorem oC {f:D->D->Res Bool}:∀ {ds es:List D}{r:Bool},ff f ds es=.ok r->ds.length=es.length->
  ∃ e:Nat->Bool,(∀ j a b,ds[j]? = Δ a->es[j]? = Δ b->f a b=.ok (e j))/\r=(List.range ds.length).all e
 | [],[],r,h,_=>by cases h;exact⟨fun _=>Θ,fun j a b h=>by simp at h,rfl⟩
 | [],_::_,_,_,h=>by cases h
 | _::_,[],_,_,h=>by cases h
 | a::ds,b::es,r,h,n=>by
  obtain⟨x,hx,h⟩:=eF (show E3 (f a b) (fun x=>E3 (ff f ds es) fun y=>.ok (x&&y))=.ok r from h);obtain⟨y,hy,h⟩:=eF h;cases h;obtain⟨e,h1,h2⟩:=oC hy (by simpa using n);refine⟨fun j=>match j with|0=>x|k+1=>e k,fun j a' b' e1 e2=>?_,?_⟩
  ·cases j with
   | zero=>simp at e1 e2;subst e1 e2;exact hx
   | succ k=>exact h1 k a' b' (by simpa using e1) (by simpa using e2)
  ·rw[h2,List.length_cons,List.range_succ_eq_map,List.all_cons,List.all_map];rfl
section
variable {X:Cx}{pins:List (Ω×Obj)}{σ:St}{H:Hp}{S:Ω->Prop}{s:Α}
structure LG (A:Ι)(s:Α)(v u:Ψ)(r:Bool):Prop where
 eq:EqAt A s v u r
 rc:RcAt A s v u r
 ne:RcNeAt A s v u (!r)
theorem lX (n:Nat)(A:Ι)(ih:∀ (x y:V)(v u:Ψ)(d e:D)(r:Bool),E6 X.K S H x d->E6 X.K S H y e->RelV x v->RelV y u->GB n d e=.ok r->EqAt A.in1 s v u r)
  {xs ys:List V}{ds es:List D}{its its':List Ψ}{r:Bool} (rv:Vals xs its) (LC:Vals ys its') (h2:E4 X.K S H xs ds) (k2:E4 X.K S H ys es) (hr:ff (GB n) ds es=.ok r) :
  ∃ e:Nat->Bool,(∀ j (q1:j < its.toArray.size) (q2:j < its'.toArray.size),EqAt A.in1 s its.toArray[j] its'.toArray[j] (e j))/\r=((List.range (min its.toArray.size its'.toArray.size)).all e&&its.toArray.size == its'.toArray.size):=by
 have l1:=h2.length;have l2:=k2.length;have l3:=rv.length;have l4:=LC.length;have pair:∀ j (j1:j < its.toArray.size) (j2:j < its'.toArray.size) (b:Bool) (d1:j < ds.length) (d2:j < es.length),GB n ds[j] es[j]=.ok b->EqAt A.in1 s its.toArray[j] its'.toArray[j] b:=by
  intro j j1 j2 b d1 d2 hb;obtain⟨x',e1,m1⟩:=h2.get (i:=j) (d:=ds[j]) (by simp);obtain⟨y',e2,m2⟩:=k2.get (i:=j) (d:=es[j]) (by simp);obtain⟨v',ev,JM⟩:=rv.get e1;obtain⟨u',eu,Rk⟩:=LC.get e2;have hv:its.toArray[j]=v':=by have:=(v_.mp ev).2;simpa using this
  have PU:its'.toArray[j]=u':=by have:=(v_.mp eu).2;simpa using this
  rw[hv,PU];exact ih x' y' v' u' _ _ _ m1 m2 JM Rk hb
 have z1:its.toArray.size=ds.length:=by simp;omega
 have z2:its'.toArray.size=es.length:=by simp;omega
 by_cases hl:ds.length=es.length
 ·obtain⟨e,q1,q2⟩:=oC hr hl;refine⟨e,fun j j1 j2=>pair j j1 j2 _ (by omega) (by omega) (q1 j _ _ (by simp) (by simp)),?_⟩;rw[q2,z1,z2,hl];simp
 ·have Mn:=lW hr hl;have each:∀ (ds es:List D) (r:Bool),ff (GB n) ds es=.ok r->∀ j (q1:j < ds.length) (q2:j < es.length),∃ b,GB n ds[j] es[j]=.ok b:=by
   intro ds
   induction ds with
   | nil=>intro es r _ j q1;simp at q1
   | cons a ds ih=>
    intro es r h j q1 q2;cases es with
    | nil=>simp at q2
    | cons b es=>
     obtain⟨x,hx,h⟩:=eF (show E3 (GB n a b) (fun x=>E3 (ff (GB n) ds es) fun y=>.ok (x&&y))=.ok r from h);obtain⟨y,hy,h⟩:=eF h;cases j with
     | zero=>exact⟨x,hx⟩
     | succ k=>exact ih es y hy k (by simpa using q1) (by simpa using q2)
  refine⟨fun j=>if q:j < ds.length/\j < es.length then ((match GB n (ds[j]'q.1) (es[j]'q.2) with|.ok b=>b|.error _=>Ξ)) else Ξ,fun j j1 j2=>?_,?_⟩
  ·have d1:j < ds.length:=by omega
   have d2:j < es.length:=by omega
   obtain⟨b,hb⟩:=each ds es r hr j d1 d2;have q:=pair j j1 j2 b d1 d2 hb;show EqAt A.in1 s its.toArray[j] its'.toArray[j] (dite _ _ _);rw[dif_pos (show j < ds.length/\j < es.length from ⟨d1,d2⟩),hb];exact q
  ·rw[Mn];have:(its.toArray.size == its'.toArray.size)=Ξ:=by rw[beq_eq_false_iff_ne,z1,z2];exact hl
   rw[this,Bool.and_false]
theorem rH (I:Inv X pins σ H s)(n:Nat)(A:Ι)(ih:∀ (x y:V)(v u:Ψ)(d e:D)(r:Bool),E6 X.K S H x d->E6 X.K S H y e->RelV x v->RelV y u->GB n d e=.ok r->EqAt A.in1 s v u r)
  {a b:Ω}{o o':Bool}{xs ys:List V}{ds es:List D}{r:Bool} (ha:Gu X.K H a xs) (hb:Gu X.K H b ys) (h2:E4 X.K S H xs ds) (k2:E4 X.K S H ys es)
  (m1:E6 X.K S H (.ref a) (.lst o ds)) (m2:E6 X.K S H (.ref b) (.lst o' es)) (hr:ff (GB n) ds es=.ok r) (FY:A.units < cLine):LG A s (.ref a) (.ref b) r:=by
 obtain⟨its,rv,p,_⟩:=I.list ha;obtain⟨its',LC,p',_⟩:=I.list hb;obtain⟨e,he,M6⟩:=lX n A ih rv LC h2 k2 hr;have both:RcAt A s (.ref a) (.ref b) r/\RcNeAt A s (.ref a) (.ref b) (!r):=by
  by_cases hl:its.toArray.size=its'.toArray.size
  ·have Mo:r=(List.range its.toArray.size).all e:=by rw[M6,<- hl,Nat.min_self];simp
   rw[Mo];exact⟨.lists p.isList p'.isList hl FY he,.lists p.isList p'.isList hl FY he⟩
  ·have Hg:(its.toArray.size != its'.toArray.size)=Θ:=by simpa using hl
   have Mo:r=Ξ:=by
    rw[M6];have:(its.toArray.size == its'.toArray.size)=Ξ:=by rw[beq_eq_false_iff_ne];exact hl
    rw[this,Bool.and_false]
   rw[Mo];exact⟨.lists_lengths p.isList p'.isList Hg FY,.lists_lengths p.isList p'.isList Hg FY⟩
 refine⟨?_,both.1,both.2⟩;by_cases JK:a=b
 ·subst JK;have hd:=E6.one I m1 m2;rw[er,er] at hd;injection hd with _ hd;rw[fu (gu n) hr hd];exact .same _
 ·exact .of_refs JK both.1
set_option maxHeartbeats 4000000 in
theorem kF (I:Inv X pins σ H s):∀ (n:Nat) (A:Ι) (x y:V) (v u:Ψ) (d e:D) (r:Bool),E6 X.K S H x d->E6 X.K S H y e->RelV x v->RelV y u->GB n d e=.ok r->
  A.units+n < cLine->LG A s v u r
 | 0,_,_,_,_,_,_,_,_,_,_,_,_,h,_=>by cases h
 | n+1,A,x,y,v,u,d,e,r,hx,hy,rx,ry,h,hu=>by
  have FY:A.units < cLine:=by omega
  have Rj:A.in1.units+n < cLine:=by show A.units+1+n < cLine;omega
  have ih:∀ (x y:V) (v u:Ψ) (d e:D) (r:Bool),E6 X.K S H x d->E6 X.K S H y e->RelV x v->RelV y u->GB n d e=.ok r->EqAt A.in1 s v u r:=
   fun x y v u d e r a1 a2 a3 a4 a5=>(kF I n A.in1 x y v u d e r a1 a2 a3 a4 a5 Rj).eq
  induction d using zD with
  | Fy=>
   cases hx.Hn;cases rx
   induction e using zD with
   | Fy=>cases hy.Hn;cases ry;cases h;exact⟨.same _,.none_none,.none_none⟩
   | bl b'=>cases hy.J0;cases ry;cases h;exact⟨.none_bool _,.none_bool _,.none_bool _⟩
   | int i'=>cases hy.FK;obtain⟨t2,rfl⟩:=ry;cases h;exact⟨.none_int _ _,.none_int _ _,.none_int _ _⟩
   | str z'=>cases hy.F4;obtain⟨t2,rfl⟩:=ry;cases h;exact⟨.none_str _ _,.none_str _ _,.none_str _ _⟩
   | tup es=>obtain⟨a2,Kj,rfl,q2,m2⟩:=hy.Gz;cases ry;obtain⟨Gr,HS,p2,_⟩:=I.tuple q2;cases h;exact⟨.none_tuple p2 FY,.none_tuple p2 FY,.none_tuple p2 FY⟩
   | lst o' es=>obtain⟨a2,Kj,rfl,q2,m2⟩:=hy.Ga;cases ry;obtain⟨Gr,HS,p2,_⟩:=I.list q2;cases h;exact⟨.none_list p2.isList FY,.none_list p2.isList FY,.none_list p2.isList FY⟩
   | exc _=>cases h
   | FX _ _ _=>cases h
  | bl b=>
   cases hx.J0;cases rx
   induction e using zD with
   | Fy=>cases hy.Hn;cases ry;cases h;exact⟨.bool_none _,.bool_none _,.bool_none _⟩
   | bl b'=>cases hy.J0;cases ry;cases h;exact⟨.bool_bool _ _,.bool_bool _ _,.bool_bool _ _⟩
   | int i'=>cases hy.FK;obtain⟨t2,rfl⟩:=ry;cases h;exact⟨.bool_int _ _ _,.bool_int _ _ _,.bool_int _ _ _⟩
   | str z'=>cases hy.F4;obtain⟨t2,rfl⟩:=ry;cases h;exact⟨.bool_str _ _ _,.bool_str _ _ _,.bool_str _ _ _⟩
   | tup es=>obtain⟨a2,Kj,rfl,q2,m2⟩:=hy.Gz;cases ry;obtain⟨Gr,HS,p2,_⟩:=I.tuple q2;cases h;exact⟨.bool_tuple _ p2 FY,.bool_tuple _ p2 FY,.bool_tuple _ p2 FY⟩
   | lst o' es=>obtain⟨a2,Kj,rfl,q2,m2⟩:=hy.Ga;cases ry;obtain⟨Gr,HS,p2,_⟩:=I.list q2;cases h;exact⟨.bool_list _ p2.isList FY,.bool_list _ p2.isList FY,.bool_list _ p2.isList FY⟩
   | exc _=>cases h
   | FX _ _ _=>cases h
  | int i=>
   cases hx.FK;obtain⟨t1,rfl⟩:=rx
   induction e using zD with
   | Fy=>cases hy.Hn;cases ry;cases h;exact⟨.int_none _ _,.int_none _ _,.int_none _ _⟩
   | bl b'=>cases hy.J0;cases ry;cases h;exact⟨.int_bool _ _ _,.int_bool _ _ _,.int_bool _ _ _⟩
   | int i'=>cases hy.FK;obtain⟨t2,rfl⟩:=ry;cases h;exact⟨.int_int _ _ _ _,.int_int _ _ _ _,.int_int _ _ _ _⟩
   | str z'=>cases hy.F4;obtain⟨t2,rfl⟩:=ry;cases h;exact⟨.int_str _ _ _ _,.int_str _ _ _ _,.int_str _ _ _ _⟩
   | tup es=>obtain⟨a2,Kj,rfl,q2,m2⟩:=hy.Gz;cases ry;obtain⟨Gr,HS,p2,_⟩:=I.tuple q2;cases h;exact⟨.int_tuple _ _ p2 FY,.int_tuple _ _ p2 FY,.int_tuple _ _ p2 FY⟩
   | lst o' es=>obtain⟨a2,Kj,rfl,q2,m2⟩:=hy.Ga;cases ry;obtain⟨Gr,HS,p2,_⟩:=I.list q2;cases h;exact⟨.int_list _ _ p2.isList FY,.int_list _ _ p2.isList FY,.int_list _ _ p2.isList FY⟩
   | exc _=>cases h
   | FX _ _ _=>cases h
  | str z=>
   cases hx.F4;obtain⟨t1,rfl⟩:=rx
   induction e using zD with
   | Fy=>cases hy.Hn;cases ry;cases h;exact⟨.str_none _ _,.str_none _ _,.str_none _ _⟩
   | bl b'=>cases hy.J0;cases ry;cases h;exact⟨.str_bool _ _ _,.str_bool _ _ _,.str_bool _ _ _⟩
   | int i'=>cases hy.FK;obtain⟨t2,rfl⟩:=ry;cases h;exact⟨.str_int _ _ _ _,.str_int _ _ _ _,.str_int _ _ _ _⟩
   | str z'=>cases hy.F4;obtain⟨t2,rfl⟩:=ry;cases h;exact⟨.str_str _ _ _ _,.str_str _ _ _ _,.str_str _ _ _ _⟩
   | tup es=>obtain⟨a2,Kj,rfl,q2,m2⟩:=hy.Gz;cases ry;obtain⟨Gr,HS,p2,_⟩:=I.tuple q2;cases h;exact⟨.str_tuple _ _ p2 FY,.str_tuple _ _ p2 FY,.str_tuple _ _ p2 FY⟩
   | lst o' es=>obtain⟨a2,Kj,rfl,q2,m2⟩:=hy.Ga;cases ry;obtain⟨Gr,HS,p2,_⟩:=I.list q2;cases h;exact⟨.str_list _ _ p2.isList FY,.str_list _ _ p2.isList FY,.str_list _ _ p2.isList FY⟩
   | exc _=>cases h
   | FX _ _ _=>cases h
  | tup ds=>
   obtain⟨a1,XY,rfl,q1,m1⟩:=hx.Gz;cases rx;obtain⟨IF,JM,p1,_⟩:=I.tuple q1
   induction e using zD with
   | Fy=>cases hy.Hn;cases ry;cases h;exact⟨.tuple_none p1 FY,.tuple_none p1 FY,.tuple_none p1 FY⟩
   | bl b'=>cases hy.J0;cases ry;cases h;exact⟨.tuple_bool _ p1 FY,.tuple_bool _ p1 FY,.tuple_bool _ p1 FY⟩
   | int i'=>cases hy.FK;obtain⟨t2,rfl⟩:=ry;cases h;exact⟨.tuple_int _ _ p1 FY,.tuple_int _ _ p1 FY,.tuple_int _ _ p1 FY⟩
   | str z'=>cases hy.F4;obtain⟨t2,rfl⟩:=ry;cases h;exact⟨.tuple_str _ _ p1 FY,.tuple_str _ _ p1 FY,.tuple_str _ _ p1 FY⟩
   | tup es=>
    have GI:=hx;have Jw:=hy;obtain⟨a2,Kj,rfl,q2,m2⟩:=hy.Gz;cases ry;obtain⟨Gr,HS,p2,_⟩:=I.tuple q2;have hr:ff (GB n) ds es=.ok r:=h;obtain⟨e,he,M6⟩:=lX n A ih JM HS m1 m2 hr;refine⟨?_,?_,?_⟩
    ·by_cases JK:a1=a2
     ·subst JK;have hd:=E6.one I GI Jw;rw[er,er] at hd;injection hd with hd;rw[fu (gu n) hr hd];exact .same _
     ·rw[M6];exact .of_refs JK (.tuples p1 p2 FY he)
    ·rw[M6];exact .tuples p1 p2 FY he
    ·rw[M6];exact .tuples p1 p2 FY he
   | lst o' es=>obtain⟨a2,Kj,rfl,q2,m2⟩:=hy.Ga;cases ry;obtain⟨Gr,HS,p2,_⟩:=I.list q2;cases h;exact⟨.tuple_list p1 p2.isList FY,.tuple_list p1 p2.isList FY,.tuple_list p1 p2.isList FY⟩
   | exc _=>cases h
   | FX _ _ _=>cases h
  | lst o ds=>
   obtain⟨a1,XY,rfl,q1,m1⟩:=hx.Ga;cases rx;obtain⟨IF,JM,p1,_⟩:=I.list q1
   induction e using zD with
   | Fy=>cases hy.Hn;cases ry;cases h;exact⟨.list_none p1.isList FY,.list_none p1.isList FY,.list_none p1.isList FY⟩
   | bl b'=>cases hy.J0;cases ry;cases h;exact⟨.list_bool _ p1.isList FY,.list_bool _ p1.isList FY,.list_bool _ p1.isList FY⟩
   | int i'=>cases hy.FK;obtain⟨t2,rfl⟩:=ry;cases h;exact⟨.list_int _ _ p1.isList FY,.list_int _ _ p1.isList FY,.list_int _ _ p1.isList FY⟩
   | str z'=>cases hy.F4;obtain⟨t2,rfl⟩:=ry;cases h;exact⟨.list_str _ _ p1.isList FY,.list_str _ _ p1.isList FY,.list_str _ _ p1.isList FY⟩
   | tup es=>obtain⟨a2,Kj,rfl,q2,m2⟩:=hy.Gz;cases ry;obtain⟨Gr,HS,p2,_⟩:=I.tuple q2;cases h;exact⟨.list_tuple p1.isList p2 FY,.list_tuple p1.isList p2 FY,.list_tuple p1.isList p2 FY⟩
   | lst o' es=>have GI:=hx;have Jw:=hy;obtain⟨a2,Kj,rfl,q2,m2⟩:=hy.Ga;cases ry;obtain⟨Gr,HS,p2,_⟩:=I.list q2;exact rH I n A ih q1 q2 m1 m2 GI Jw h FY
   | exc _=>cases h
   | FX _ _ _=>cases h
  | exc _=>cases h
  | FX _ _ _=>induction e using zD<;>cases h
end
abbrev nw (S:Ω->Prop)(H:Hp):Ω->Prop:=fun a=>S a∨H a=Φ
abbrev Kk (K:Frag)(S:Ω->Prop)(H:Hp)(Q:VK):D->Prop:=fun d=>∀ w H',cz H H'->E6 K (nw S H) H' w d->Q w H'
theorem E6.nw {K:Frag}{S:Ω->Prop}{H:Hp}{v:V}{d:D}(h:E6 K S H v d):E6 K (nw S H) H v d:=h.mono (fun _=>.inl) (.refl _)
theorem Ak {K:Frag}{S:Ω->Prop}{H:Hp}{p:Ω}{vs:List V}{ds:List D}(hp:H p=Φ)(h:E4 K S H vs ds):E6 K (nw S H) (upd H p (.tup vs)) (.ref p) (.tup ds):=
 .tup (.inl (.inl cy)) (h.mono (fun _=>.inl) (.upd hp))
theorem l5 {K:Frag}{S:Ω->Prop}{H:Hp}{p:Ω}{vs:List V}{ds:List D}{o:Bool}(hp:H p=Φ)(h:E4 K S H vs ds):E6 K (nw S H) (upd H p (.lst vs)) (.ref p) (.lst o ds):=
 .lst (.inr hp) (.inl cy) (h.mono (fun _=>.inl) (.upd hp))
noncomputable def Lb:Kg->Operator
 | .add=>.Add|.sub=>.Sub|.mul=>.Mult|.fdiv=>.FloorDiv|.mod=>.Mod|.pow=>.Pow
noncomputable def Ii:HM->CmpOp
 | .eq=>.Eq|.ne=>.NotEq|.lt=>.Lt|.le=>.LtE|.gt=>.Gt|.ge=>.GtE|.Kh=>.In|.LF=>.NotIn|.K7=>.Is|.IW=>.IsNot
def EK (K:Frag)(ex:Str->Prop)(op:Kg):R2:=fun x y H Q=>∃ S d e,E6 K S H x d/\E6 K S H y e/\E5 ex (Hm op d e) (Kk K S H Q)
def EL (K:Frag)(ex:Str->Prop)(op:HM):R2:=fun x y H Q=>∃ S d e,E6 K S H x d/\E6 K S H y e/\E5 ex (GQ op d e) fun r=>Q (.bl r) H
section
variable {X:Cx}{ex:Str->Prop}
theorem de {n:Nat}(h:dh n=Θ):n<=Ζ:=p_ h
theorem gA {n:Nat}(h:dP n=Θ):n < Ζ:=p_ h
theorem kG:HH X (binaryOp .Add) (fun x y H Q=>∃ l b xs zs,x=.ref l/\y=.ref b/\Ls X.K H l xs/\Ls X.K H b zs/\xs.length+zs.length<=Ζ/\∀ p,H p=Φ->Q (.ref p) (upd H p (.lst (xs++zs)))):=by
 intro pins s σ H x y v u Q I rx ry h;obtain⟨l,b,xs,zs,rfl,rfl,hH,hB,hz,q⟩:=h;cases rx;cases ry;obtain⟨hl,its,n,r,e⟩:=I.ls hH;obtain⟨Lc,Gr,n2,r2,e'⟩:=I.ls hB;have e1:=r.length;have e2:=r2.length;refine PySem.P.add_list e e' ?_ (by rw[A_,A_];omega);have ea:its.toArray++Gr.toArray=(its++Gr).toArray:=by simp
 rw[ea];exact⟨.ref _,_,I.L' (t':=s.toks) (r.append r2) (by rw[w_];omega),rfl,q _ I.fresh⟩
theorem rJ {vs:List V}{its:List Ψ}(r:Vals vs its):∀ k:Nat,Vals (Τ k vs).flatten (Τ k its).flatten:=r.rep
theorem oE:HH X (binaryOp .Mult) (fun x y H Q=>∃ l k xs,x=.ref l/\y=.int k/\Ls X.K H l xs/\0<=k/\k<=16000/\xs.length<=1000/\∀ p,H p=Φ->Q (.ref p) (upd H p (.lst (Τ k.toNat xs).flatten))):=by
 intro pins s σ H x y v u Q I rx ry h;obtain⟨l,k,xs,rfl,rfl,hH,h1,h2,hx,q⟩:=h;cases rx;obtain⟨t,rfl⟩:=ry;obtain⟨hl,its,n,r,e⟩:=I.ls hH;have el:=r.length;have hz:xs.length*k.toNat<=1000*16000:=Nat.mul_le_mul hx (by omega);have big:1000*16000<=Ζ:=by decide
 have hsz:its.toArray.size*k.toNat<=Ζ:=by rw[A_,<- el];omega
 have c1:¬ its.toArray.size*k.toNat > (2 ^ 63 - 1) / 8:=by
  have:(Ζ:Nat)<=(2 ^ 63 - 1) / 8:=by decide
  omega
 have c2:¬ (!Builtin.List.listFitsIndex k)=Θ:=by rw[fitsIndex_both (by omega) (by omega)];exact o_
 have c3:¬ Builtin.List.listTooLong (its.toArray.size*k.toNat)=Θ:=by rw[qP hsz];exact o_
 have f0:∀ m:Nat,List.foldl (fun a b=>a++b) #[] (Τ m its.toArray)=(Τ m its).flatten.toArray:=fun m=>by have z:=foldl_rep its m [];rw[List.nil_append] at z;exact z
 have f1:List.foldl (fun a b=>a++b) #[] (Τ (if its.toArray.isEmpty=Θ then 0 else k.toNat) its.toArray)=(Τ k.toNat its).flatten.toArray:=by
  rw[f0];cases its with
  | nil=>simp
  | cons _ _=>rw[d_ (by simp)]
 refine wpAny_binaryOp_repeat_ref (T:="list") (U:="int") (by decide) ⟨_,e,rfl⟩ (fun s'=>typeIs_int s' k t) noFill_list_mul F.fills_int_mul F.slot_int_rmul repeat_list F.slot_int_index.lookup (call_meets F.slot_int_rmul (typeIs_int s k t) F.entry_int_rmul (F.args_int_rmul_2 _ _) (int___rmul___int_list k t l its.toArray n) ⟨e,rfl,⟨_,e,rfl⟩,call_meets F.slot_list_mul ⟨_,e,rfl⟩ F.entry_list_mul (F.args_list_mul_2 _ _) (AutoListH.list___mul___list_int_3 l its.toArray n k t c2 c1 c3) ⟨e,?_⟩⟩);rw[f1];exact⟨.ref _,_,I.L' (t':=s.toks) (rJ r k.toNat) (by rw[len_rep,Nat.mul_comm];omega),rfl,q _ I.fresh⟩
theorem E4.rep {K:Frag}{S:Ω->Prop}{H:Hp}{vs:List V}{ds:List D}(m:E4 K S H vs ds):∀ k:Nat,E4 K S H (Τ k vs).flatten (Τ k ds).flatten
 | 0=>.nil
 | k+1=>by rw[List.replicate_succ,List.replicate_succ,List.flatten_cons,List.flatten_cons];exact m.append (E4.rep m k)
theorem Am (op:Kg):HH X (binaryOp (Lb op)) (EK X.K ex op):=by
 intro pins s σ H x y v u Q I rx ry h;obtain⟨S,d,e,hx,hy,h⟩:=h;have stuck:∀ {P:Prop},Hm op d e=FC->P:=fun z=>by rw[z] at h;exact h.no.elim
 cases op with
 | add=>
  induction d using zD with
  | int a=>
   induction e using zD with
   | int b=>cases hx.FK;cases hy.FK;exact zH pins s σ H _ _ v u Q I rx ry ⟨a,b,rfl,rfl,h.ok _ _ (.refl _) (.int _)⟩
   | _=>exact stuck rfl
  | str a=>
   induction e using zD with
   | str b=>cases hx.F4;cases hy.F4;obtain⟨g,h⟩:=E5.Fw h;exact m8 pins s σ H _ _ v u Q I rx ry ⟨a,b,rfl,rfl,de g,h.ok _ _ (.refl _) (.str _)⟩
   | _=>exact stuck rfl
  | lst o a=>
   induction e using zD with
   | lst o' b=>obtain⟨p,xs,rfl,q1,m1⟩:=hx.JN;obtain⟨p',ys,rfl,q2,m2⟩:=hy.JN;obtain⟨g,h⟩:=E5.Fw h;have g':=de g;have l1:=m1.length;have l2:=m2.length;exact kG pins s σ H _ _ v u Q I rx ry ⟨p,p',xs,ys,rfl,rfl,q1,q2,by omega,fun z hz=>h.ok _ _ (.upd hz) (l5 hz (m1.append m2))⟩
   | _=>exact stuck rfl
  | _=>exact stuck rfl
 | sub=>
  induction d using zD with
  | int a=>
   induction e using zD with
   | int b=>cases hx.FK;cases hy.FK;exact zJ pins s σ H _ _ v u Q I rx ry ⟨a,b,rfl,rfl,h.ok _ _ (.refl _) (.int _)⟩
   | _=>exact stuck rfl
  | _=>exact stuck rfl
 | mul=>
  induction d using zD with
  | int a=>
   induction e using zD with
   | int b=>cases hx.FK;cases hy.FK;obtain⟨g,h⟩:=E5.Fw h;rw[X_] at g;exact zK pins s σ H _ _ v u Q I rx ry ⟨a,b,rfl,rfl,g.elim (fun z=>.inl (p_ z)) (fun z=>.inr (p_ z)),h.ok _ _ (.refl _) (.int _)⟩
   | _=>exact stuck rfl
  | str a=>
   induction e using zD with
   | int b=>cases hx.F4;cases hy.FK;obtain⟨g,h⟩:=E5.Fw h;have g':=p_ g;exact nh pins s σ H _ _ v u Q I rx ry ⟨a,b,rfl,rfl,g'.1,g'.2.1,g'.2.2,h.ok _ _ (.refl _) (.str _)⟩
   | _=>exact stuck rfl
  | lst o a=>
   induction e using zD with
   | int b=>obtain⟨p,xs,rfl,q1,m1⟩:=hx.JN;cases hy.FK;obtain⟨g,h⟩:=E5.Fw h;have g':=p_ g;have l1:=m1.length;exact oE pins s σ H _ _ v u Q I rx ry ⟨p,b,xs,rfl,rfl,q1,g'.1,g'.2.1,by rw[l1];exact g'.2.2,fun z hz=>h.ok _ _ (.upd hz) (l5 hz (m1.rep _))⟩
   | _=>exact stuck rfl
  | _=>exact stuck rfl
 | fdiv=>
  induction d using zD with
  | int a=>
   induction e using zD with
   | int b=>cases hx.FK;cases hy.FK;obtain⟨g,h⟩:=E5.Fw h;exact vC pins s σ H _ _ v u Q I rx ry ⟨a,b,rfl,rfl,show 0 < b/\b < 1073741824 from p_ g,h.ok _ _ (.refl _) (.int _)⟩
   | _=>exact stuck rfl
  | _=>exact stuck rfl
 | mod=>
  induction d using zD with
  | int a=>
   induction e using zD with
   | int b=>cases hx.FK;cases hy.FK;obtain⟨g,h⟩:=E5.Fw h;exact zL pins s σ H _ _ v u Q I rx ry ⟨a,b,rfl,rfl,p_ g,h.ok _ _ (.refl _) (.int _)⟩
   | _=>exact stuck rfl
  | _=>exact stuck rfl
 | pow=>
  induction d using zD with
  | int a=>
   induction e using zD with
   | int b=>cases hx.FK;cases hy.FK;obtain⟨g,h⟩:=E5.Fw h;exact zM pins s σ H _ _ v u Q I rx ry ⟨a,b,rfl,rfl,show 0<=b/\b<=1000000/\a.natAbs < 2 ^ 64 from p_ g,h.ok _ _ (.refl _) (.int _)⟩
   | _=>exact stuck rfl
  | _=>exact stuck rfl
theorem E5.GB {ex:Str->Prop}:∀ {n:Nat}{d e:D}{k:Bool->Prop},E5 ex (L2.GB n d e) k->∃ r,L2.GB n d e=.ok r/\k r:=by
 have no:∀ (n:Nat) (d e:D) (c:Str),L2.GB n d e≠.error (.exc c):=by
  intro n;have RH:∀ (f:D->D->Res Bool),(∀ d e c,f d e≠.error (.exc c))->∀ (ds es:List D) (c:Str),ff f ds es≠.error (.exc c):=by
   intro f hf ds
   induction ds with
   | nil=>intro es c h;cases es<;>cases h
   | cons a ds ih=>
    intro es c h;cases es with
    | nil=>cases h
    | cons b es=>
     have h':L2.E3 (f a b) (fun x=>L2.E3 (ff f ds es) fun y=>.ok (x&&y))=.error (.exc c):=h;cases q:f a b with
     | error z=>rw[q] at h';exact hf a b c (by rw[q];exact h')
     | ok x=>
      rw[q] at h';have h2:L2.E3 (ff f ds es) (fun y=>.ok (x&&y))=.error (.exc c):=h';cases q2:ff f ds es with
      | error z=>rw[q2] at h2;exact ih es c (by rw[q2];exact h2)
      | ok y=>rw[q2] at h2;cases h2
  induction n with
  | zero=>intro d e c h;cases h
  | succ n ih=>
   intro d e c h
   induction d using zD<;>induction e using zD<;>first|cases h|exact RH _ ih _ _ _ h
 intro n d e k h;cases q:L2.GB n d e with
 | ok r=>rw[q] at h;exact⟨r,rfl,h⟩
 | error z=>
  rw[q] at h;cases z with
  | stuck=>exact h.no.elim
  | exc c=>exact absurd q (no n d e c)
theorem E5.GV {ex:Str->Prop}{d:D}:∀ {ds:List D}{k:Bool->Prop},E5 ex (L2.GV d ds) k->∃ f:Nat->Bool,(∀ i e,ds[i]? = Δ e->L2.GB 40 e d=.ok (f i))/\k ((List.range ds.length).any f)
 | [],k,h=>⟨fun _=>Ξ,fun i e z=>by simp at z,h⟩
 | e::r,k,h=>by
  obtain⟨x,Ur,h1⟩:=E5.GB (E5.E3 h);obtain⟨f,h2,h3⟩:=E5.GV (E5.E3 h1);refine⟨fun i=>match i with|0=>x|j+1=>f j,fun i e' z=>?_,?_⟩
  ·cases i with
   | zero=>simp at z;subst z;exact Ur
   | succ j=>exact h2 j e' (by simpa using z)
  ·rw[List.length_cons,List.range_succ_eq_map,List.any_cons,List.any_map];exact h3
theorem nG {A:Ι}{s:Α}{v:Ψ}(its:List Ψ)(f:Nat->Bool)(h:∀ i u,its[i]? = Δ u->EqAt A s u v (f i)) :
  ∃ e:Ψ->Bool,(∀ y,y∈its.toArray->EqAt A s y v (e y))/\its.toArray.any e=(List.range its.length).any f:=by
 classical
 refine⟨fun y=>decide (∃ i,its[i]? = Δ y/\f i=Θ),fun y hy=>?_,?_⟩
 ·have Jw:y∈its:=by simpa using hy
  obtain⟨j,hj⟩:=List.getElem?_of_mem Jw;show EqAt A s y v (decide (∃ i,its[i]? = Δ y/\f i=Θ));by_cases q:∃ i,its[i]? = Δ y/\f i=Θ
  ·rw[I_ q];obtain⟨i,hi,fi⟩:=q;have:=h i y hi;rw[fi] at this;exact this
  ·rw[Q_ q];have:=h j y hj;have fj:f j=Ξ:=by
    cases z:f j with
    | false=>rfl
    | true=>exact absurd ⟨j,hj,z⟩ q
   rw[fj] at this;exact this
 ·rw[Bool.eq_iff_iff];simp only[List.any_toArray,List.any_eq_true,Y_,decide_eq_true_eq];constructor
  ·rintro ⟨y,hy,i,hi,fi⟩;exact⟨i,(v_.mp hi).1,fi⟩
  ·rintro ⟨i,hi,fi⟩;exact⟨its[i],aav hi,i,by simp[hi],fi⟩
theorem fM (hu:X.A.units+42 < cLine){pins:List (Ω×Obj)}{s:Α}{σ:St}{H:Hp}{S:Ω->Prop}{x:V}{v:Ψ}{d:D}{k:Bool->Prop}(I:Inv X pins σ H s)(rx:RelV x v)(hx:E6 X.K S H x d)
  {xs:List V}{its:List Ψ}{ds:List D} (rv:Vals xs its) (m:E4 X.K S H xs ds) (h:E5 ex (GV d ds) k) :
  ∃ e:Ψ->Bool,(∀ y,y∈its.toArray->EqAt X.A.in1 s y v (e y))/\k (its.toArray.any e):=by
 obtain⟨f,h1,h2⟩:=E5.GV h;have l1:=rv.length;have l2:=m.length;obtain⟨e,h3,h4⟩:=nG (A:=X.A.in1) (s:=s) (v:=v) its f fun i u hi=>by have F0:i < its.length:=(v_.mp hi).1;obtain⟨y,hy,my⟩:=m.get (i:=i) (d:=ds[i]'(by omega)) (by simp);obtain⟨u',PU,ru⟩:=rv.get hy;rw[hi] at PU;cases PU;exact(kF I 40 X.A.in1 y x u v _ d _ my hx ru rx (h1 i _ (by simp)) (by show X.A.units+1+40 < cLine;omega)).eq
 refine⟨e,h3,?_⟩;rw[h4,show its.length=ds.length by omega];exact h2
theorem gW (hu:X.A.units+42 < cLine)(op:HM):HH X (compareOp (Ii op)) (EL X.K ex op):=by
 intro pins s σ H x y v u Q I rx ry h;obtain⟨S,d,e,hx,hy,h⟩:=h;have stuck:∀ {P:Prop},GQ op d e=FC->P:=fun z=>by rw[z] at h;exact h.no.elim
 have fin:∀ {b:Bool},Q (.bl b) H->EP X pins σ Q (.bool b) s:=fun q=>⟨.bl _,H,I,rfl,q⟩
 cases op with
 | eq=>obtain⟨r,h1,h2⟩:=E5.GB h;exact(kF I 40 X.A x y v u d e r hx hy rx ry h1 (by omega)).rc _ _ _ _ (fin h2)
 | ne=>obtain⟨r,h1,h2⟩:=E5.GB (E5.E3 h);exact(kF I 40 X.A x y v u d e r hx hy rx ry h1 (by omega)).ne _ _ _ _ (fin h2.ok)
 | lt=>
  induction d using zD with
  | int a=>
   induction e using zD with
   | int b=>cases hx.FK;cases hy.FK;obtain⟨t,rfl⟩:=rx;obtain⟨t',rfl⟩:=ry;exact lt_int (fin h.ok)
   | _=>exact stuck rfl
  | _=>exact stuck rfl
 | le=>
  induction d using zD with
  | int a=>
   induction e using zD with
   | int b=>cases hx.FK;cases hy.FK;obtain⟨t,rfl⟩:=rx;obtain⟨t',rfl⟩:=ry;exact le_int (fin h.ok)
   | _=>exact stuck rfl
  | _=>exact stuck rfl
 | gt=>
  induction d using zD with
  | int a=>
   induction e using zD with
   | int b=>cases hx.FK;cases hy.FK;obtain⟨t,rfl⟩:=rx;obtain⟨t',rfl⟩:=ry;exact gt_int (fin h.ok)
   | _=>exact stuck rfl
  | _=>exact stuck rfl
 | ge=>
  induction d using zD with
  | int a=>
   induction e using zD with
   | int b=>cases hx.FK;cases hy.FK;obtain⟨t,rfl⟩:=rx;obtain⟨t',rfl⟩:=ry;exact ge_int (fin h.ok)
   | _=>exact stuck rfl
  | _=>exact stuck rfl
 | Kh=>
  induction e using zD with
  | str b=>
   induction d using zD with
   | str a=>cases hx.F4;cases hy.F4;obtain⟨t,rfl⟩:=rx;obtain⟨t',rfl⟩:=ry;exact in_str (fin h.ok)
   | _=>exact stuck rfl
  | lst o ds=>obtain⟨a,xs,rfl,q1,m1⟩:=hy.Ga;cases ry;obtain⟨its,rv,pl,_⟩:=I.list q1;obtain⟨e,h1,h2⟩:=fM (ex:=ex) hu I rx hx rv m1 (by induction d using zD<;>exact h);exact in_listAt e pl.isList h1 (fin h2)
  | tup ds=>obtain⟨a,xs,rfl,q1,m1⟩:=hy.Gz;cases ry;obtain⟨its,rv,pl,_⟩:=I.tuple q1;obtain⟨e,h1,h2⟩:=fM (ex:=ex) hu I rx hx rv m1 (by induction d using zD<;>exact h);exact in_tupleAt e pl h1 (fin h2)
  | Fy=>induction d using zD<;>exact stuck rfl
  | bl _=>induction d using zD<;>exact stuck rfl
  | int _=>induction d using zD<;>exact stuck rfl
  | exc _=>induction d using zD<;>exact stuck rfl
  | FX _ _ _=>induction d using zD<;>exact stuck rfl
 | LF=>
  induction e using zD with
  | str b=>
   induction d using zD with
   | str a=>cases hx.F4;cases hy.F4;obtain⟨t,rfl⟩:=rx;obtain⟨t',rfl⟩:=ry;exact notIn_str (fin h.ok)
   | _=>exact stuck rfl
  | lst o ds=>obtain⟨a,xs,rfl,q1,m1⟩:=hy.Ga;cases ry;obtain⟨its,rv,pl,_⟩:=I.list q1;obtain⟨e,h1,h2⟩:=fM (ex:=ex) (k:=fun r=>Q (.bl !r) H) hu I rx hx rv m1 ((E5.E3 (show E5 ex (E3 (GV d ds) fun r=>.ok !r) (fun r=>Q (.bl r) H) by induction d using zD<;>exact h)).mono fun _ z=>z);exact notIn_listAt e pl.isList h1 (fin h2)
  | tup ds=>obtain⟨a,xs,rfl,q1,m1⟩:=hy.Gz;cases ry;obtain⟨its,rv,pl,_⟩:=I.tuple q1;obtain⟨e,h1,h2⟩:=fM (ex:=ex) (k:=fun r=>Q (.bl !r) H) hu I rx hx rv m1 ((E5.E3 (show E5 ex (E3 (GV d ds) fun r=>.ok !r) (fun r=>Q (.bl r) H) by induction d using zD<;>exact h)).mono fun _ z=>z);exact notIn_tupleAt e pl h1 (fin h2)
  | Fy=>induction d using zD<;>exact stuck rfl
  | bl _=>induction d using zD<;>exact stuck rfl
  | int _=>induction d using zD<;>exact stuck rfl
  | exc _=>induction d using zD<;>exact stuck rfl
  | FX _ _ _=>induction d using zD<;>exact stuck rfl
 | K7=>
  induction e using zD with
  | Fy=>
   cases hy.Hn;cases ry;have ev:eO d=(v == Value.none):=by
    cases hx with
    | Fy=>cases rx;rfl
    | bl b=>cases rx;rfl
    | int i=>obtain⟨t,rfl⟩:=rx;rfl
    | str z=>obtain⟨t,rfl⟩:=rx;rfl
    | tup _ _=>cases rx;rfl
    | lst _ _ _=>cases rx;rfl
    | lstK _ _=>cases rx;rfl
    | exc _=>cases rx;rfl
    | FX _ _ _ _=>cases rx;rfl
   have h':Q (.bl (eO d)) H:=by induction d using zD<;>exact h
   rw[ev] at h';exact is_none_gen (fin h')
  | _=>induction d using zD<;>exact stuck rfl
 | IW=>
  induction e using zD with
  | Fy=>
   cases hy.Hn;cases ry;have ev:eO d=(v == Value.none):=by
    cases hx with
    | Fy=>cases rx;rfl
    | bl b=>cases rx;rfl
    | int i=>obtain⟨t,rfl⟩:=rx;rfl
    | str z=>obtain⟨t,rfl⟩:=rx;rfl
    | tup _ _=>cases rx;rfl
    | lst _ _ _=>cases rx;rfl
    | lstK _ _=>cases rx;rfl
    | exc _=>cases rx;rfl
    | FX _ _ _ _=>cases rx;rfl
   have h':Q (.bl (!eO d)) H:=by induction d using zD<;>exact h
   rw[ev] at h';exact isnot_none_gen (fin h')
  | bl b'=>
   cases hy.J0;cases ry
   induction d using zD with
   | bl b=>
    cases hx.J0;cases rx;have ee:(!(Value.bool b == Value.bool b'))=(b != b'):=by cases b<;>cases b'<;>rfl
    exact wpAny_isNot_plain rfl (by rw[ee];exact fin h)
   | Fy=>cases hx.Hn;cases rx;exact wpAny_isNot_plain rfl (fin h)
   | _=>exact stuck rfl
  | _=>induction d using zD<;>exact stuck rfl
theorem ik {pins:List (Ω×Obj)}{s:Α}{σ:St}{H:Hp}{S:Ω->Prop}{x:V}{v:Ψ}{d:D}{Q:Bool->Hp->Prop}(I:Inv X pins σ H s)(rx:RelV x v)(hx:E6 X.K S H x d)(h:E5 ex (cK d) fun b=>Q b H) :
  Κ (Μ X.prog X.w) X.A (truthy v) (TP X pins σ Q) X.xe s:=by
 refine zO pins s σ H x v Q I rx ?_
 induction d using zD with
 | exc c=>exact h.no.elim
 | FX _ _ _=>exact h.no.elim
 | Fy=>cases hx.Hn;exact⟨Ξ,rfl,h⟩
 | bl b=>cases hx.J0;exact⟨b,rfl,h⟩
 | int i=>cases hx.FK;exact⟨_,rfl,h⟩
 | str z=>cases hx.F4;obtain⟨g,h⟩:=E5.Fw h;exact⟨_,⟨de g,rfl⟩,h⟩
 | tup ds=>obtain⟨a,xs,rfl,q,m⟩:=hx.Gz;refine⟨!ds.isEmpty,.inr (.inl ⟨xs,q,?_⟩),h⟩;have:=m.length;cases xs<;>cases ds<;>simp_all
 | lst o ds=>obtain⟨a,xs,rfl,q,m⟩:=hx.Ga;refine⟨!ds.isEmpty,.inl ⟨xs,q,?_⟩,h⟩;have:=m.length;cases xs<;>cases ds<;>simp_all
theorem oF {K:Frag}{S:Ω->Prop}{H:Hp}{vs:List V}{ds:List D}{i:Int}{d:D}(m:E4 K S H vs ds)(h:GU ds i=Δ d):∃ v,GU vs i=Δ v/\E6 K S H v d:=by
 unfold GU at h ⊢;rw[m.length];cases q:Hb ds.length i with
 | none=>rw[q] at h;cases h
 | some j=>rw[q] at h;exact m.get h
def EM (K:Frag)(ex:Str->Prop):R2:=fun x y H Q=>∃ S d e,E6 K S H x d/\E6 K S H y e/\E5 ex (cH d e) (Kk K S H Q)
theorem wc:KA X (EM X.K ex):=by
 intro value slice pins s σ H x y v u Q I rx ry h hs;obtain⟨S,d,e,hx,hy,h⟩:=h;refine zR value slice pins s σ H x y v u Q I rx ry ?_ hs;have stuck:∀ {P:Prop},cH d e=FC->P:=fun z=>by rw[z] at h;exact h.no.elim
 induction e using zD with
 | int i=>
  cases hy.FK
  induction d using zD with
  | lst o ds=>
   obtain⟨a,xs,rfl,q,m⟩:=hx.Ga;have h':E5 ex (match GU ds i with|some d=>.ok d|none=>FC) (Kk X.K S H Q):=h;cases z:GU ds i with
   | none=>rw[z] at h';exact h'.no.elim
   | some d=>rw[z] at h';obtain⟨w,ew,mw⟩:=oF m z;exact .inl ⟨a,xs,i,w,rfl,rfl,q,ew,h'.ok _ _ (.refl _) mw.nw⟩
  | tup ds=>
   obtain⟨a,xs,rfl,q,m⟩:=hx.Gz;have h':E5 ex (match GU ds i with|some d=>.ok d|none=>FC) (Kk X.K S H Q):=h;cases z:GU ds i with
   | none=>rw[z] at h';exact h'.no.elim
   | some d=>rw[z] at h';obtain⟨w,ew,mw⟩:=oF m z;exact .inr (.inl ⟨a,xs,i,w,rfl,rfl,q,ew,h'.ok _ _ (.refl _) mw.nw⟩)
  | str z=>
   cases hx.F4;obtain⟨g,h⟩:=E5.Fw h;cases q:GU z.cps.toList i with
   | none=>rw[q] at h;exact h.no.elim
   | some c=>rw[q] at h;exact .inr (.inr ⟨z,i,c,rfl,rfl,de g,q,h.ok _ _ (.refl _) (.str _)⟩)
  | _=>exact stuck rfl
 | _=>induction d using zD<;>exact stuck rfl
def EN (K:Frag)(ex:Str->Prop):V->Option Int->Option Int->Hp->VK->Prop:=fun x lo hi H Q=>∃ S d,E6 K S H x d/\E5 ex (lQ d lo hi) (Kk K S H Q)
theorem An:PC X (fun x lo hi H Q=>∃ z,x=.str z/\z.length<=Ζ/\Q (.str (Txt.slice z lo hi)) H):=by
 intro pins s σ H x v vl vu lo hi sl Q I rx hs pl pu h;obtain⟨z,rfl,hz,q⟩:=h;obtain⟨t,rfl⟩:=rx;refine⟨"str",_,F.slot_str_getitem.lookup,typeIs_str s z t,?_⟩;have fin:∀ (l u:Option (Int×Tok)),vl=partValue l->vu=partValue u->l.map (·.1)=lo->u.map (·.1)=hi->Κ (Μ X.prog X.w) X.A (getItem (.str z t) (.ref sl)) (EP X pins σ Q) X.xe s:=by intro l u e1 e2 e3 e4;subst e1 e2 e3 e4;refine wpAny_getItem_str_slice (l:=l) (u:=u) (st:=Φ) hs rfl ?_;exact post_val_or_str ⟨M_ (Txt.slice_le z _ _) hz,fun t' k=>⟨.str _,H,I.tok _,⟨_,rfl⟩,q⟩⟩
 cases pl with
 | none=>
  cases pu with
  | none=>exact fin Φ Φ rfl rfl rfl rfl
  | int j t'=>exact fin Φ (Δ (j,t')) rfl rfl rfl rfl
 | int i t'=>
  cases pu with
  | none=>exact fin (Δ (i,t')) Φ rfl rfl rfl rfl
  | int j XZ=>exact fin (Δ (i,t')) (Δ (j,XZ)) rfl rfl rfl rfl
end
open PySem.W
section
variable {prog:Ε}{w:Β}{A:Ι}{E:Ψ->Α->Prop}{K:Frag}{x C:Ω}{hh:Heap}{g:Array GenState}{d:Drawn}{t:Nat}{os:OsState}
structure ExcAt (K:Frag)(C:Ω):Prop where
 ga:findIn K (.ref C) "__getattribute__" = Δ (Δ (.builtin "BaseException.__getattribute__"))
 no:findIn K (.ref C) "__getattr__" = Δ Φ
 cl:findIn K (.ref C) "__class__" = Δ (Δ (.builtin "object.__class__"))
 be:mroIn K C (.type "BaseException")=Δ Θ
 ob:mroIn K C (.type "object")=Δ Θ
 is:(clsIn K C).isSome=Θ
open Builtin Builtin.ObjectAttr Builtin.Getset_descriptor in
end
section
variable {X:Cx}{ex:Str->Prop}
theorem oG {K:Frag}{S:Ω->Prop}{H:Hp}{vs:List V}{ds:List D}(lo hi:Option Int)(m:E4 K S H vs ds):E4 K S H (p5 vs lo hi) (d6 ds lo hi):=by unfold p5 d6;rw[m.length];exact(m.drop _).take _
theorem wg:PC X (EN X.K ex):=by
 intro pins s σ H x v vl vu lo hi sl Q I rx hs pl pu h;obtain⟨S,d,hx,h⟩:=h
 induction d using zD with
 | lst o ds=>obtain⟨a,xs,rfl,q,m⟩:=hx.Ga;exact ou pins s σ H _ v vl vu lo hi sl Q I rx hs pl pu ⟨a,xs,rfl,q,fun p hp=>h.ok _ _ (.upd hp) (l5 hp (oG lo hi m))⟩
 | str z=>cases hx.F4;obtain⟨g,h⟩:=E5.Fw h;exact An pins s σ H _ v vl vu lo hi sl Q I rx hs pl pu ⟨z,rfl,de g,h.ok _ _ (.refl _) (.str _)⟩
 | _=>exact h.no.elim
theorem l6 {ns:List Str}:∀ {us:List Ψ},Vals (ns.map V.str) us->StrsAre us ns:=by
 induction ns with
 | nil=>intro us r;rw[List.map_nil] at r;cases r;exact .nil
 | cons n ns ih=>
  intro us r;rw[b_] at r;cases r with
  | cons r1 r2=>obtain⟨t,e⟩:=r1;subst e;exact .cons n t (ih r2)
theorem iO:∀ {ds:List D}{ns:List Int},fg ds=Δ ns->ds=ns.map .int
 | [],ns,h=>by cases h;rfl
 | .int i::r,ns,h=>by
  have h':(fg r).map (i::·)=Δ ns:=h;cases q:fg r with
  | none=>rw[q] at h';cases h'
  | some ms=>rw[q] at h';cases h';rw[iO q];rfl
 | .Fy::_,_,h=>by cases h
 | .bl _::_,_,h=>by cases h
 | .str _::_,_,h=>by cases h
 | .tup _::_,_,h=>by cases h
 | .lst _ _::_,_,h=>by cases h
theorem iP:∀ {ds:List D}{ns:List Str},fq ds=Δ ns->ds=ns.map .str
 | [],ns,h=>by cases h;rfl
 | .str i::r,ns,h=>by
  have h':(fq r).map (i::·)=Δ ns:=h;cases q:fq r with
  | none=>rw[q] at h';cases h'
  | some ms=>rw[q] at h';cases h';rw[iP q];rfl
 | .Fy::_,_,h=>by cases h
 | .bl _::_,_,h=>by cases h
 | .int _::_,_,h=>by cases h
 | .tup _::_,_,h=>by cases h
 | .lst _ _::_,_,h=>by cases h
theorem gX:∀ {ds:List D}{ns:List Bool},dQ ds=Δ ns->ds=ns.map .bl
 | [],ns,h=>by cases h;rfl
 | .bl i::r,ns,h=>by
  have h':(dQ r).map (i::·)=Δ ns:=h;cases q:dQ r with
  | none=>rw[q] at h';cases h'
  | some ms=>rw[q] at h';cases h';rw[gX q];rfl
 | .Fy::_,_,h=>by cases h
 | .str _::_,_,h=>by cases h
 | .int _::_,_,h=>by cases h
 | .tup _::_,_,h=>by cases h
 | .lst _ _::_,_,h=>by cases h
theorem qm (hc:X.calm=Θ):dJ X (.builtin "all") (fun xs H Q=>∃ (p:Ω) (bs:List Bool),xs=[.ref p]/\Gu X.K H p (bs.map V.bl)/\Q (.bl (bs.all id)) H):=by
 intro pins s σ H xs us Q I r h;obtain⟨p,bs,rfl,hq,q⟩:=h;obtain⟨u,rfl,rx⟩:=vals1 r;cases rx;obtain⟨its,rv,pl,hz⟩:=I.list hq;have hl:=rv.length;rw[j_] at hl;have F0:p < s.heap.objs.size:=by obtain⟨o,e,_⟩:=pl.isList;exact i_ e
 refine call_all_walk (aau pl.isList ?_);refine⟨s.heap.objs.size,_,_,_,_,_,fun i=>bs.getD i Θ,rfl,Walks.list (A:=X.A.in1) (show X.A.in1.handled=Φ from I.ok.hd hc) s.heap.objs.size p (m_ F0) its.toArray,⟨⟨_,u_ _ rfl,rfl,rfl⟩,?_⟩,?_,?_⟩
 ·obtain⟨o,e,c,n,d⟩:=pl.isList;exact⟨o,l_ _ e,c,n,d⟩
 ·intro i v s' Q' E' hv RK;have LH:its[i]? = Δ v:=by simpa using hv
  have Kl:i < bs.length:=by have:=(v_.mp LH).1;omega
  obtain⟨u,hu,ru⟩:=rv.get (i:=i) (x:=.bl bs[i]) (by rw[B_,y_ Kl];rfl);rw[LH] at hu;cases hu;cases ru;refine wpAny_truthy_bool ?_;have e:bs.getD i Θ=bs[i]:=by simp[List.getD,Kl]
  rw[<- e];exact RK
 ·intro h' tk kp;have Jc:(List.range its.toArray.size).all (fun i=>bs.getD i Θ)=bs.all id:=by
   rw[show its.toArray.size=bs.length by simp[hl]];rw[Bool.eq_iff_iff,U_,U_];constructor
   ·intro z b hb;obtain⟨i,hi,rfl⟩:=List.getElem_of_mem hb;have:=z i (Y_.mpr hi);simpa[List.getD,hi] using this
   ·intro z i hi;have IG:=Y_.mp hi;have:=z bs[i] (aav IG);simpa[List.getD,IG] using this
  rw[Jc];refine⟨.bl (bs.all id),H,I.kept (t':=tk) fun b o e=>kp b o ?_ (l_ _ e),rfl,q⟩;intro hm;have hb:b=s.heap.objs.size:=by simpa using hm
  subst hb;exact absurd (i_ e) (R_ _)
theorem qo (hc:X.calm=Θ):dJ X (.builtin "any") (fun xs H Q=>∃ (p:Ω) (bs:List Bool),xs=[.ref p]/\Gu X.K H p (bs.map V.bl)/\Q (.bl (bs.any id)) H):=by
 intro pins s σ H xs us Q I r h;obtain⟨p,bs,rfl,hq,q⟩:=h;obtain⟨u,rfl,rx⟩:=vals1 r;cases rx;obtain⟨its,rv,pl,hz⟩:=I.list hq;have hl:=rv.length;rw[j_] at hl;have F0:p < s.heap.objs.size:=by obtain⟨o,e,_⟩:=pl.isList;exact i_ e
 refine call_any_walk (aau pl.isList ?_);refine⟨s.heap.objs.size,_,_,_,_,_,fun i=>bs.getD i Ξ,rfl,Walks.list (A:=X.A.in1) (show X.A.in1.handled=Φ from I.ok.hd hc) s.heap.objs.size p (m_ F0) its.toArray,⟨⟨_,u_ _ rfl,rfl,rfl⟩,?_⟩,?_,?_⟩
 ·obtain⟨o,e,c,n,d⟩:=pl.isList;exact⟨o,l_ _ e,c,n,d⟩
 ·intro i v s' Q' E' hv RK;have LH:its[i]? = Δ v:=by simpa using hv
  have Kl:i < bs.length:=by have:=(v_.mp LH).1;omega
  obtain⟨u,hu,ru⟩:=rv.get (i:=i) (x:=.bl bs[i]) (by rw[B_,y_ Kl];rfl);rw[LH] at hu;cases hu;cases ru;refine wpAny_truthy_bool ?_;have e:bs.getD i Ξ=bs[i]:=by simp[List.getD,Kl]
  rw[<- e];exact RK
 ·intro h' tk kp;have Jc:(List.range its.toArray.size).any (fun i=>bs.getD i Ξ)=bs.any id:=by
   rw[show its.toArray.size=bs.length by simp[hl]];rw[Bool.eq_iff_iff,List.any_eq_true,List.any_eq_true];constructor
   ·rintro ⟨i,hi,z⟩;have IG:=Y_.mp hi;exact⟨bs[i],aav IG,by simpa[List.getD,IG] using z⟩
   ·rintro ⟨b,hb,z⟩;obtain⟨i,hi,rfl⟩:=List.getElem_of_mem hb;exact⟨i,Y_.mpr hi,by simpa[List.getD,hi] using z⟩
  rw[Jc];refine⟨.bl (bs.any id),H,I.kept (t':=tk) fun b o e=>kp b o ?_ (l_ _ e),rfl,q⟩;intro hm;have hb:b=s.heap.objs.size:=by simpa using hm
  subst hb;exact absurd (i_ e) (R_ _)
noncomputable def fD:Bi->Str
 | .len=>"len" | .sum=>"sum" | .min2=>"min" | .max2=>"max" | .K8=>"max" | .sorted=>"sorted" | .list=>"list" | .tuple=>"tuple" | .ord=>"ord" | .int=>"int" | .all=>"all" | .any=>"any" | .str=>"str" | .set=>"set" | .abs=>"abs"
noncomputable def Cd:Bi->Bool
 | .list=>Θ|.tuple=>Θ|.int=>Θ|.str=>Θ|.set=>Θ
 | _=>Ξ
noncomputable def Ce:Bi->String
 | .len=>"len" | .sum=>"sum" | .min2=>"min" | .max2=>"max" | .K8=>"max" | .sorted=>"sorted" | .list=>"list" | .tuple=>"tuple" | .ord=>"ord" | .int=>"int" | .all=>"all" | .any=>"any" | .str=>"str" | .set=>"set" | .abs=>"abs"
noncomputable def rK (f:Bi):Ψ:=if Cd f=Θ then .type (Ce f) else .builtin (Ce f)
theorem oH (f:Bi):bootBuiltins (fD f)=Δ (rK f):=by cases f<;>decide +kernel
def Va (K:Frag)(ex:Str->Prop)(f:Bi):List V->Hp->VK->Prop:=fun xs H Q=>∃ S ds,E4 K S H xs ds/\E5 ex (eD f ds) (Kk K S H Q)
theorem E4.Mp {K:Frag}{S:Ω->Prop}{H:Hp}{xs:List V}{d:D}(h:E4 K S H xs [d]):∃ x,xs=[x]/\E6 K S H x d:=by
 cases h with
 | cons h1 h2=>cases h2;exact⟨_,rfl,h1⟩
theorem E4.RL {K:Frag}{S:Ω->Prop}{H:Hp}{xs:List V}{d e:D}(h:E4 K S H xs [d,e]):∃ x y,xs=[x,y]/\E6 K S H x d/\E6 K S H y e:=by
 cases h with
 | cons h1 h2=>
  cases h2 with
  | cons h3 h4=>cases h4;exact⟨_,_,rfl,h1,h3⟩
theorem gY {K:Frag}{S:Ω->Prop}{H:Hp}(z:Str):E4 K S H (eW z) (dF z):=by
 unfold eW dF
 induction z.cps.toList with
 | nil=>exact .nil
 | cons c cs ih=>exact .cons (.str _) ih
theorem wj (hc:X.calm=Θ)(f:Bi):dJ X (rK f) (Va X.K ex f):=by
 intro pins s σ H xs us Q I r h;obtain⟨S,ds,hx,h⟩:=h;have stuck:∀ {P:Prop},eD f ds=FC->P:=fun z=>by rw[z] at h;exact h.no.elim
 have one:∀ {d e:D}{r':List D},ds=d::e::r'->¬ (f=.min2∨f=.max2)->eD f ds=FC:=by intro d e r' z nf;subst z;cases f<;>first|rfl|(exfalso;exact nf (.inl rfl))|(exfalso;exact nf (.inr rfl))|(induction d using zD<;>rfl)
 have two:∀ {d e g:D}{r':List D},ds=d::e::g::r'->eD f ds=FC:=by intro d e g r' z;subst z;cases f<;>first|rfl|(induction d using zD<;>rfl)|(induction d using zD<;>induction e using zD<;>rfl)
 have nil:ds=[]->eD f ds=FC:=by intro z;subst z;cases f<;>rfl
 match ds,hx with
 | [],hx=>exact stuck (nil rfl)
 | d::e::g::r',hx=>exact stuck (two rfl)
 | [d,e],hx=>
  by_cases nf:f=.min2∨f=.max2
  ·obtain⟨x,y,rfl,hd,he⟩:=hx.RL;rcases nf with rfl|rfl
   ·induction d using zD with
    | int a=>
     induction e using zD with
     | int b=>cases hd.FK;cases he.FK;exact pY hc pins s σ H _ us Q I r ⟨a,b,rfl,h.ok _ _ (.refl _) (.int _)⟩
     | _=>exact stuck rfl
    | _=>exact stuck rfl
   ·induction d using zD with
    | int a=>
     induction e using zD with
     | int b=>cases hd.FK;cases he.FK;exact pX hc pins s σ H _ us Q I r ⟨a,b,rfl,h.ok _ _ (.refl _) (.int _)⟩
     | _=>exact stuck rfl
    | _=>exact stuck rfl
  ·exact stuck (one rfl nf)
 | [d],hx=>
  obtain⟨x,rfl,hd⟩:=hx.Mp;cases f with
  | len=>
   induction d using zD with
   | str z=>cases hd.F4;obtain⟨g,h⟩:=E5.Fw h;exact iy pins s σ H _ us Q I r ⟨_,_,rfl,⟨de g,rfl⟩,h.ok _ _ (.refl _) (.int _)⟩
   | tup ds=>obtain⟨a,ys,rfl,q,m⟩:=hd.Gz;exact iy pins s σ H _ us Q I r ⟨_,ds.length,rfl,.inr ⟨ys,q,m.length.symm⟩,h.ok _ _ (.refl _) (.int _)⟩
   | lst o ds=>obtain⟨a,ys,rfl,q,m⟩:=hd.Ga;exact iy pins s σ H _ us Q I r ⟨_,ds.length,rfl,.inl ⟨ys,q,m.length.symm⟩,h.ok _ _ (.refl _) (.int _)⟩
   | FX o ks es=>
    cases hd with
    | FX h0 h1 h2 h3=>exact qj pins s σ H _ us Q I r ⟨_,_,rfl,h1,by rw[<- j_ (f:=(·.1)),h2];exact h.ok _ _ (.refl _) (.int _)⟩
   | _=>exact stuck rfl
  | sum=>cases d<;>exact stuck rfl
  | all=>
   induction d using zD with
   | lst o ds=>
    obtain⟨a,ys,rfl,q,m⟩:=hd.Ga;have h':E5 ex (match dQ ds with|some bs=>.ok (.bl (bs.all id))|none=>FC) (Kk X.K S H Q):=h;cases z:dQ ds with
    | none=>rw[z] at h';exact h'.no.elim
    | some ns=>rw[z] at h';rw[gX z] at m;rw[m.U'] at q;exact qm hc pins s σ H _ us Q I r ⟨a,ns,rfl,q,h'.ok _ _ (.refl _) (.bl _)⟩
   | _=>exact stuck rfl
  | any=>
   induction d using zD with
   | lst o ds=>
    obtain⟨a,ys,rfl,q,m⟩:=hd.Ga;have h':E5 ex (match dQ ds with|some bs=>.ok (.bl (bs.any id))|none=>FC) (Kk X.K S H Q):=h;cases z:dQ ds with
    | none=>rw[z] at h';exact h'.no.elim
    | some ns=>rw[z] at h';rw[gX z] at m;rw[m.U'] at q;exact qo hc pins s σ H _ us Q I r ⟨a,ns,rfl,q,h'.ok _ _ (.refl _) (.bl _)⟩
   | _=>exact stuck rfl
  | ord=>
   induction d using zD with
   | str z=>cases hd.F4;obtain⟨g,h⟩:=E5.Fw h;exact qN pins s σ H _ us Q I r ⟨z,rfl,p_ g,h.ok _ _ (.refl _) (.int _)⟩
   | _=>exact stuck rfl
  | int=>cases d<;>exact stuck rfl
  | list=>
   induction d using zD with
   | tup ds=>obtain⟨a,ys,rfl,q,m⟩:=hd.Gz;exact fC pins s σ H _ us Q I r ⟨a,ys,rfl,.inr q,fun p hp=>h.ok _ _ (.upd hp) (l5 hp m)⟩
   | lst o ds=>obtain⟨a,ys,rfl,q,m⟩:=hd.Ga;exact fC pins s σ H _ us Q I r ⟨a,ys,rfl,.inl q,fun p hp=>h.ok _ _ (.upd hp) (l5 hp m)⟩
   | str z=>cases hd.F4;obtain⟨g,h⟩:=E5.Fw h;exact fU hc pins s σ H _ us Q I r ⟨z,rfl,de g,fun p hp=>h.ok _ _ (.upd hp) (l5 hp (gY z))⟩
   | _=>exact stuck rfl
  | abs=>cases d<;>exact stuck rfl
  | min2=>induction d using zD<;>exact stuck rfl
  | max2=>induction d using zD<;>exact stuck rfl
  | K8=>cases d<;>exact stuck rfl
  | sorted=>cases d<;>exact stuck rfl
  | tuple=>
   induction d using zD with
   | str z=>cases hd.F4;obtain⟨g,h⟩:=E5.Fw h;exact iG hc pins s σ H _ us Q I r ⟨z,rfl,de g,fun p hp=>h.ok _ _ (.upd hp) (Ak hp (gY z))⟩
   | lst o ds=>obtain⟨a,ys,rfl,q,m⟩:=hd.Ga;exact jt pins s σ H _ us Q I r ⟨a,ys,rfl,.inl ⟨q,fun p hp=>h.ok _ _ (.upd hp) (Ak hp m)⟩⟩
   | _=>exact stuck rfl
  | str=>exact stuck rfl
  | set=>exact stuck rfl
noncomputable def f7:Kd->Str
 | .str=>"str" | .int=>"int" | .bool=>"bool" | .list=>"list" | .tuple=>"tuple"
noncomputable def rL:Kd->Ψ
 | .str=>.type "str" | .int=>.type "int" | .bool=>.type "bool" | .list=>.type "list" | .tuple=>.type "tuple"
theorem wo (k:Kd):bootBuiltins (f7 k)=Δ (rL k):=by cases k<;>decide +kernel
noncomputable def X0:D->Ψ
 | .Fy=>.type "NoneType" | .bl _=>.type "bool" | .int _=>.type "int" | .str _=>.type "str" | .tup _=>.type "tuple" | .lst _ _=>.type "list" | .exc _=>.none|.FX _ _ _=>.none
theorem wq (K:Frag)(k:Kd)(d:D)(hn:gV d=Θ):PySem.W.kitOne K (X0 d) (rL k)=Δ (du k d):=by cases k<;>induction d using zD<;>first|rfl|cases hn
theorem wt {pins:List (Ω×Obj)}{s:Α}{σ:St}{H:Hp}{S:Ω->Prop}{x:V}{v:Ψ}{d:D}{Q:VK}(I:Inv X pins σ H s)(rx:RelV x v)(hx:E6 X.K S H x d)(k:Kd)(hn:gV d=Θ)(h:Q (.bl (du k d)) H) :
  Κ (Μ X.prog X.w) X.A (call (.builtin "isinstance") [v,rL k]) (EP X pins σ Q) X.xe s:=by
 have e:=wq X.K k d hn;have fin:∀ tk,EP X pins σ Q (.bool (du k d)) {s with toks:=tk}:=fun tk=>⟨.bl _,H,I.tok _,rfl,h⟩
 induction d using zD with
 | Fy=>cases hx.Hn;cases rx;exact PySem.W.kia_one PySem.W.kitx_none I.IP True.intro e (fun z=>nomatch z) fin
 | bl b=>cases hx.J0;cases rx;exact PySem.W.kia_one PySem.W.kitx_bool I.IP True.intro e (fun z=>nomatch z) fin
 | int b=>cases hx.FK;obtain⟨t,rfl⟩:=rx;exact PySem.W.kia_one PySem.W.kitx_int I.IP True.intro e (fun z=>nomatch z) fin
 | str b=>cases hx.F4;obtain⟨t,rfl⟩:=rx;exact PySem.W.kia_one PySem.W.kitx_str I.IP True.intro e (fun z=>nomatch z) fin
 | tup ds=>obtain⟨a,ys,rfl,q,m⟩:=hx.Gz;cases rx;obtain⟨its,_,⟨o,h1,h2,_⟩,_⟩:=I.tuple q;exact PySem.W.kia_one PySem.W.kitx_tuple I.IP ⟨o,h1,h2⟩ e (fun z=>nomatch z) fin
 | lst o ds=>obtain⟨a,ys,rfl,q,m⟩:=hx.Ga;cases rx;obtain⟨its,_,pl,_⟩:=I.list q;obtain⟨o,h1,h2,_⟩:=pl.isList;exact PySem.W.kia_one PySem.W.kitx_list I.IP ⟨o,h1,h2⟩ e (fun z=>nomatch z) fin
 | exc c=>cases hn
 | FX o ks ds=>cases hn
def CV (X:Cx)(x:Str)(v:V):Prop:=(∃ C,v=.ref C/\X.mg x=Δ (.ref C))∨(∃ T,v=.ty T/\X.mg x=Φ/\bootBuiltins x=Δ (.type T))
noncomputable def vv:V->Ψ
 | .ref C=>.ref C
 | .ty T=>.type T
 | _=>.none
noncomputable def iQ:Mt->Str
 | .join=>"join" | .index=>"index" | .starts=>"startswith"
noncomputable def EO:Mt->String
 | .join=>"str.join" | .index=>"str.index" | .starts=>"str.startswith"
def Vb (K:Frag)(ex:Str->Prop)(m:Mt):V->List V->Hp->VK->Prop:=fun x xs H Q=>∃ S d ds,E6 K S H x d/\E4 K S H xs ds/\E5 ex (iL m d ds) (Kk K S H Q)
theorem rM {m:Mt}{d:D}{ds:List D}{k:D->Prop}(h:E5 ex (iL m d ds) k):∃ x,d=.str x:=by cases m<;>induction d using zD<;>first|exact⟨_,rfl⟩|exact h.no.elim
theorem kH (m:Mt)(hc:m=.index->X.calm=Θ):Uz X (EO m) (Vb X.K ex m):=by
 intro pins s σ H x xs v us Q I rx rs h;obtain⟨S,d,ds,hx,hs,h⟩:=h;obtain⟨z,rfl⟩:=rM h;cases hx.F4;obtain⟨t,rfl⟩:=rx;have stuck:∀ {P:Prop},iL m (.str z) ds=FC->P:=fun z=>by rw[z] at h;exact h.no.elim
 match ds,hs with
 | [],_=>cases m<;>exact stuck rfl
 | d::e::r,_=>cases m<;>induction d using zD<;>exact stuck rfl
 | [d],hs=>
  obtain⟨y,rfl,hd⟩:=hs.Mp;obtain⟨u,rfl,ru⟩:=vals1 rs;cases m with
  | join=>
   induction d using zD with
   | lst o ds=>
    obtain⟨a,ys,rfl,q,m⟩:=hd.Ga;cases ru;have h':E5 ex (match fq ds with|some ys=>Fw (decide ((ys.map (·.length)).sum+ys.length*z.length<=16777216)) (.ok (.str (Txt.join z ys)))|none=>FC) (Kk X.K S H Q):=h;cases w:fq ds with
    | none=>rw[w] at h';exact h'.no.elim
    | some ns=>rw[w] at h';obtain⟨g,h'⟩:=E5.Fw h';rw[iP w] at m;rw[m.strs] at q;obtain⟨its,rv,pl,_⟩:=I.list q;exact join_list pl.isList (by simpa using l6 rv) (p_ g) fun t' k=>⟨.str _,H,I.tok _,⟨_,rfl⟩,h'.ok _ _ (.refl _) (.str _)⟩
   | _=>exact stuck rfl
  | index=>cases d<;>exact stuck rfl
  | starts=>
   induction d using zD with
   | str y=>cases hd.F4;obtain⟨t',rfl⟩:=ru;exact SC.startswith ⟨.bl _,H,I,rfl,E5.ok h _ _ (.refl _) (.bl _)⟩
   | _=>exact stuck rfl
noncomputable def RM (x:Str):It:=⟨fun i _=>i < x.cps.size,fun i H v H'=>H'=H/\∃ c,x.cps[i]? = Δ c/\v=.str ⟨#[c]⟩,fun i _=>x.cps.size<=i⟩
theorem rN {P:Ε}{w:Β}{K:Frag}{tg:Expr}{it:Ω}{x:Str}{t:Tok}{ty:String}(MZ:ty = "str_ascii_iterator"∨ty = "str_iterator")
  (W:∀ A':Ι,A'.handled=Φ->Walks P w A' it [it] [it] x.cps.size (SignAt x) (fun i h=>h.IsStrIter it ty x t i)):Turn P w K tg (RM x) [it] it (fun i h=>i<=x.cps.size/\h.IsStrIter it ty x t i) where
 mem:=by simp
 obj:=fun i h st b hb=>by
  have e:b=it:=by simpa using hb
  subst e;obtain⟨_,o,e,c,d⟩:=st;exact⟨o,e,fun v z=>by rw[d] at z;cases z⟩
 keep:=fun i h h' st k=>by obtain⟨l,o,e,c,d⟩:=st;exact⟨l,o,k it (by simp) o e,c,d⟩
 item:=by intro X hP hw hK hc i pins s σ H E I hf st hg;subst hP hw hK;obtain⟨f0,f1,f2,f3,f4,f5⟩:=hf it (by simp);refine(W X.A (I.ok.hd hc)).item i s _ _ hg st.2 fun v h' tk hv J9 kk=>?_;obtain⟨c,u,X1,rfl⟩:=hv;have I1:Inv X pins σ H {s with heap:=h',toks:=tk}:=I.turned (fun b o hb e=>kk b o (by simpa using hb) e) f0 f1 f3 f4 f5;obtain⟨o,e,cc,d⟩:=id J9;refine⟨_,rfl,oj (s:={s with heap:=h',toks:=tk}) (n:=ty) e cc d (by rcases MZ with rfl|rfl<;>decide) ⟨.str ⟨#[c]⟩,H,I1,⟨u,rfl⟩,⟨rfl,c,X1,rfl⟩,⟨hg,J9⟩,fun b hb=>(hf b hb).1⟩⟩
 done:=by intro X hP hw hK hc i pins s σ H E I hf st hg;subst hP hw hK;obtain⟨f0,f1,f2,f3,f4,f5⟩:=hf it (by simp);have e:i=x.cps.size:=Nat.le_antisymm st.1 hg;refine(W X.A (I.ok.hd hc)).done s _ _ (by rw[<- e];exact st.2) fun h' tk kk=>⟨rfl,I.turned (fun b o hb e=>kk b o (by simpa using hb) e) f0 f1 f3 f4 f5⟩
 self:=fun A i s Q E st h=>by
  obtain⟨_,st⟩:=st;rcases MZ with rfl|rfl
  ·exact wpAny_pyIter_striter_ascii st h
  ·exact wpAny_pyIter_striter_wide st h
theorem Ao {tg:Expr}{pins:List (Ω×Obj)}{s:Α}{σ:St}{H:Hp}{x:Str}{t:Tok}{R:It->Hp->Prop}(I:Inv X pins σ H s)(q:R (RM x) H):Κ (Μ X.prog X.w) X.A (pyIter (.str x t)) (MY X pins σ tg R) X.xe s:=by
 have fin:∀ ty,(ty = "str_ascii_iterator"∨ty = "str_iterator")->(∀ A':Ι,A'.handled=Φ->Walks X.prog X.w A' s.heap.objs.size [s.heap.objs.size] [s.heap.objs.size] x.cps.size (SignAt x) (fun i h=>h.IsStrIter s.heap.objs.size ty x t i))->
   MY X pins σ tg R (.ref s.heap.objs.size) {s with heap:=s.heap.push {cls:=.type ty,data:=.fields #[.str x t,.int 0 0]}}:=fun ty MZ W=>by
  refine⟨s.heap.objs.size,[s.heap.objs.size],_,_,H,rfl,I.kept (t':=s.toks) fun b o e=>l_ _ e,rN MZ W,⟨aaa _,_,u_ _ rfl,rfl,rfl⟩,fun b hb=>?_,q⟩;have e:b=s.heap.objs.size:=by simpa using hb
  subst e;exact I.Ja (n_ _) (I.FN.fresh (n_ _))
 cases ha:x.cps.all (· < 128)
 ·exact wpAny_pyIter_wide ha (fin _ (.inr rfl) fun A' hA=>Walks.strWide hA _ x t)
 ·exact wpAny_pyIter_ascii ha (fin _ (.inl rfl) fun A' hA=>Walks.strAscii hA _ x t)
end
theorem cX.at {P:Ε}{w:Β}{H:Hp}{h:Heap}{a:Ω}{o:HO}(x:cX P w H h a o):∃ ob,h.get? a=Δ ob:=by
 cases o with
 | lst xs=>obtain⟨_,_,_,_,e⟩:=x;exact⟨_,e⟩
 | tup xs=>obtain⟨_,_,_,ob,e,_⟩:=x;exact⟨_,e⟩
 | dK FL=>obtain⟨_,_,_,_,o,_,_,e,_⟩:=x;exact⟨_,e⟩
 | dT FL=>obtain⟨_,_,_,_,o,_,_,e,_⟩:=x;exact⟨_,e⟩
 | set S n=>obtain⟨o,_,_,_,e,_⟩:=x;exact⟨_,e⟩
 | ins C dx fs=>obtain⟨_,_,_,e,_⟩:=x;exact⟨_,e⟩
 | own y=>exact x
 | xd fs=>obtain⟨_,⟨_,_,_,e,_⟩,_⟩:=x;exact⟨_,e⟩
 | JY lo hi=>obtain⟨_,_,_,e⟩:=x;exact⟨_,e⟩
 | FT ob u=>exact⟨_,x.1⟩
 | Lm ps=>exact⟨_,x⟩
 | met f y=>exact⟨_,x⟩
 | ext φ=>exact x.2.1
noncomputable def indep:HO->Bool
 | .lst _=>Θ
 | .tup _=>Θ
 | .ext _=>Θ
 | .dK _=>Θ
 | _=>Ξ
theorem iR {P:Ε}{w:Β}{H H':Hp}{h:Heap}{a:Ω}{u:HO}(i:indep u=Θ)(x:cX P w H h a u):cX P w H' h a u:=by
 cases u with
 | lst _=>exact x
 | tup _=>exact x
 | ext _=>exact x
 | dK _=>exact x
 | _=>cases i
noncomputable def cT (h:Heap)(H:Hp):Hp:=fun b=>match H b with
 | some (.lst xs)=>(h.get? b).map fun o=>.FT o (.lst xs)
 | some (.dK FL)=>(h.get? b).map fun o=>.FT o (.dK FL)
 | some (.tup xs)=>Δ (.tup xs)
 | some (.FT o u)=>if indep u=Θ then Δ (.FT o u) else Φ
 | _=>Φ
noncomputable def gB (H H':Hp):Hp:=fun b=>match H b with
 | some o=>Δ o
 | none=>H' b
def Mq (H:Hp):Prop:=∀ b o,H b=Δ o->(∃ ob u,o=.FT ob u)∨∃ xs,o=.tup xs
theorem rO (h:Heap)(H:Hp):Mq (cT h H):=fun b o e=>by
 unfold cT at e;split at e
 ·obtain⟨ob,_,rfl⟩:=aaI.mp e;exact .inl ⟨_,_,rfl⟩
 ·obtain⟨ob,_,rfl⟩:=aaI.mp e;exact .inl ⟨_,_,rfl⟩
 ·cases e;exact .inr ⟨_,rfl⟩
 ·split at e
  ·cases e;exact .inl ⟨_,_,rfl⟩
  ·cases e
 ·cases e
structure Ji (h:Heap)(Hc H':Hp):Prop where
 GG:∀ b o u,Hc b=Δ (.FT o u)->H' b=Δ (.FT o u)
 G4:∀ b xs,Hc b=Δ (.tup xs)->H' b=Δ (.tup xs)
 free:∀ b o,h.get? b=Δ o->Hc b=Φ->H' b=Φ
inductive Bk (h:Heap)(H H':Hp)(b:Ω):HO->Prop where
 | lst {xs:List V}{ob:Obj}:h.get? b=Δ ob->H' b=Δ (.FT ob (.lst xs))->Bk h H H' b (.lst xs)
 | dK {xs:List (Key×V)}{ob:Obj}:h.get? b=Δ ob->H' b=Δ (.FT ob (.dK xs))->Bk h H H' b (.dK xs)
 | tup {xs:List V}:H' b=Δ (.tup xs)->Bk h H H' b (.tup xs)
 | FT {o:Obj}{u:HO}:indep u=Θ->H' b=Δ (.FT o u)->Bk h H H' b (.FT o u)
 | G2 {o:HO}{ob:Obj}:h.get? b=Δ ob->cT h H b=Φ->H' b=Φ->(∀ xs,o≠.lst xs)->(∀ xs,o≠.tup xs)->(∀ xs,o≠.dK xs)->Bk h H H' b o
section
variable {P:Ε}{w:Β}{H H':Hp}{h g:Heap}
theorem jN (x:Gw P w H h)(p:Ji h (cT h H) H'){b:Ω}{o:HO}(e:H b=Δ o):Bk h H H' b o:=by
 obtain⟨ob,he⟩:=(x b o e).at
 have hc:cT h H b=(match (Δ o:Option HO) with
  | some (.lst xs)=>(h.get? b).map fun o=>.FT o (.lst xs)
  | some (.dK FL)=>(h.get? b).map fun o=>.FT o (.dK FL)
  | some (.tup xs)=>Δ (.tup xs)
  | some (.FT o u)=>if indep u=Θ then Δ (.FT o u) else Φ
  | _=>Φ):=by unfold cT;rw[e]
 cases o with
 | lst xs=>have hc:cT h H b=(h.get? b).map fun o=>.FT o (.lst xs):=hc;rw[he] at hc;exact .lst he (p.GG _ _ _ hc)
 | dK xs=>have hc:cT h H b=(h.get? b).map fun o=>.FT o (.dK xs):=hc;rw[he] at hc;exact .dK he (p.GG _ _ _ hc)
 | tup xs=>exact .tup (p.G4 _ _ hc)
 | FT o' u=>
  have hc:cT h H b=if indep u=Θ then Δ (.FT o' u) else Φ:=hc
  by_cases i:indep u=Θ
  ·rw[f_ i] at hc;exact .FT i (p.GG _ _ _ hc)
  ·rw[d_ i] at hc;exact .G2 he hc (p.free _ _ he hc) (fun _ z=>by cases z) (fun _ z=>by cases z) (fun _ z=>by cases z)
 | _=>exact .G2 he hc (p.free _ _ he hc) (fun _ z=>by cases z) (fun _ z=>by cases z) (fun _ z=>by cases z)
theorem rP (x:Gw P w H h):Gw P w (cT h H) h:=fun b o e=>by
 cases q:H b with
 | none=>unfold cT at e;rw[q] at e;cases e
 | some u=>
  have y:=x b u q;unfold cT at e;rw[q] at e;cases u with
  | lst xs=>
   obtain⟨ob,he⟩:=y.at
   have e:(h.get? b).map (fun o=>HO.FT o (.lst xs))=Δ o:=e;rw[he] at e;cases e;exact⟨he,y⟩
  | dK xs=>
   obtain⟨ob,he⟩:=y.at
   have e:(h.get? b).map (fun o=>HO.FT o (.dK xs))=Δ o:=e;rw[he] at e;cases e;exact⟨he,y⟩
  | tup xs=>cases e;exact y
  | FT o' u=>
   have e:(if indep u=Θ then Δ (HO.FT o' u) else Φ)=Δ o:=e;by_cases i:indep u=Θ
   ·rw[f_ i] at e;cases e;exact⟨y.1,iR i y.2⟩
   ·rw[d_ i] at e;cases e
  | _=>cases e
theorem dR (e:H a=Φ):cT h H a=Φ:=by unfold cT;rw[e]
theorem res_some {b:Ω}{o:HO}(e:H b=Δ o):gB H H' b=Δ o:=by unfold gB;rw[e]
theorem res_none {b:Ω}(e:H b=Φ):gB H H' b=H' b:=by unfold gB;rw[e]
theorem l7:cz H (gB H H'):=fun b o e=>res_some e
theorem nH (x:Gw P w H h)(y:Gw P w H' g)(p:Ji h (cT h H) H'){fs:List Ω}(keep:∀ b o,H b≠Φ->h.get? b=Δ o->cT h H b=Φ->b∉fs->g.get? b=Δ o)(fr:∀ b∈fs,H b=Φ):Gw P w (gB H H') g:=by
 have tp:∀ c xs,H' c=Δ (.tup xs)->gB H H' c=Δ (.tup xs):=fun c xs e=>by
  cases q:H c with
  | none=>rw[res_none q];exact e
  | some o=>
   rw[res_some q];cases jN x p q with
   | lst _ z=>rw[z] at e;cases e
   | dK _ z=>rw[z] at e;cases e
   | tup z=>rw[z] at e;exact e
   | FT _ z=>rw[z] at e;cases e
   | G2 _ _ z _ _ _=>rw[z] at e;cases e
 intro b o e;cases q:H b with
 | some o'=>
  rw[res_some q] at e;cases e;cases jN x p q with
  | lst h1 z=>have h2:=(y b _ z).1;obtain⟨a1,its,n,a2,a3⟩:=x b _ q;rw[h1] at a3;exact⟨a1,its,n,a2,by rw[h2,<- a3]⟩
  | dK h1 z=>exact iR rfl (y b _ z).2
  | tup z=>exact y b _ z
  | FT i z=>exact⟨(y b _ z).1,iR i (y b _ z).2⟩
  | G2 h1 h2 z n1 n2 n3=>
   refine(x b _ q).Hy (fun c u hc hu=>?_) (fun c hc=>res_some hc) fun c xs hc=>res_some hc;rcases hc with rfl|hc
   ·exact keep _ _ (by rw[q];simp) hu h2 fun z=>by rw[fr _ z] at q;cases q
   ·refine keep _ _ (by rw[hc];simp) hu ?_ fun z=>by rw[fr _ z] at hc;cases hc
    unfold cT;rw[hc]
 | none=>
  rw[res_none q] at e;refine(y b o e).Hy (fun _ _ _ z=>z) (fun c hc=>?_) tp;cases q':H c with
  | none=>rw[res_none q'];exact hc
  | some o'=>
   exfalso;cases jN x p q' with
   | lst _ z=>rw[z] at hc;cases hc
   | dK _ z=>rw[z] at hc;cases hc
   | tup z=>rw[z] at hc;cases hc
   | FT _ z=>rw[z] at hc;cases hc
   | G2 _ _ z _ _ _=>rw[z] at hc;cases hc
theorem gC {fs:List Ω}(u:Un fs [] (cT h H) H' h g):Ji h (cT h H) H':=⟨u.GG,u.G4,fun b o e n=>u.free b o e n (by simp)⟩
theorem nJ {fs:List Ω}(x:Gw P w H h)(u:Un fs [] (cT h H) H' h g):Un fs [] H (gB H H') h g where
 keep:=fun b o e n f i=>u.keep b o e (dR n) f i
 slot:=fun b o e n f i=>u.slot b o e (dR n) f i
 free:=fun b o e n i=>by rw[res_none n];exact u.free b o e (dR n) i
 there:=u.there
 G4:=fun b xs e=>res_some e
 GG:=fun b o v e=>res_some e
 Ia:=fun b ps e=>⟨#[],by rw[res_some e];simp⟩
end
noncomputable def H0:Hp:=fun _=>Φ
def GW (P:Ε)(w:Β):G1:=fun outer H s E e s'=>∃ (a:Ω) (cls a0:Ψ) (H':Hp) (B:Heap),e=.ref a/\s'.os=s.os/\AllBare s'.gens/\Un (GJ outer) [] H H' s.heap s'.heap/\Gw P w H' B/\cz H H'/\
 (∀ b o,s.heap.get? b=Δ o->H b=Φ->b∉GJ outer->B.get? b=Δ o)/\Heap.FlyingW B outer a cls a0 s'.heap/\E cls Φ H0
def JB (K:Frag):XK->Hp->Str->Prop:=fun E _ c=>∀ C,PySem.W.nsIn K Η c=Δ (Δ (.ref C))->E (.ref C) Φ H0
noncomputable def cW:List Str:=["len","sum","min","max","sorted","list","tuple","ord","int","all","any","str","set","abs","isinstance","range","bool","zip","reversed","dict","enumerate"]
noncomputable def jO:Bi->Nat
 | .len=>0|.sum=>1|.min2=>2|.max2=>3|.K8=>3|.sorted=>4|.list=>5|.tuple=>6|.ord=>7|.int=>8|.all=>9|.any=>10|.str=>11|.set=>12|.abs=>13
noncomputable def oI:Kd->Nat
 | .str=>11|.int=>8|.bool=>16|.list=>5|.tuple=>6
theorem rQ (f:Bi):cW[jO f]? = Δ (fD f):=by cases f<;>rfl
theorem Ap (f:Kd):cW[oI f]? = Δ (f7 f):=by cases f<;>rfl
mutual
noncomputable def qp:D->D->Bool
 | .Fy,.Fy=>Θ
 | .bl a,.bl b=>a == b
 | .int a,.int b=>a == b
 | .str a,.str b=>a == b
 | .tup a,.tup b=>iS a b
 | .lst o a,.lst o' b=>o == o'&&iS a b
 | _,_=>Ξ
noncomputable def iS:List D->List D->Bool
 | [],[]=>Θ
 | a::r,b::s=>qp a b&&iS r s
 | _,_=>Ξ
end
mutual
theorem oJ:∀ {a b:D},qp a b=Θ->a=b
 | .Fy,b,h=>by cases b<;>first|rfl|cases h
 | .bl a,b,h=>by cases b<;>first|(rw[h_ (show (a == _)=Θ from h)])|cases h
 | .int a,b,h=>by cases b<;>first|(rw[h_ (show (a == _)=Θ from h)])|cases h
 | .str a,b,h=>by cases b<;>first|(rw[h_ (show (a == _)=Θ from h)])|cases h
 | .tup a,b,h=>by
  induction b using zD with
  | tup b=>rw[iT (show iS a b=Θ from h)]
  | _=>cases h
 | .lst o a,b,h=>by
  induction b using zD with
  | lst o' b=>have h':(o == o'&&iS a b)=Θ:=h;rw[g_] at h';rw[h_ h'.1,iT h'.2]
  | _=>cases h
theorem iT:∀ {a b:List D},iS a b=Θ->a=b
 | [],b,h=>by cases b<;>first|rfl|cases h
 | a::r,b,h=>by
  cases b with
  | nil=>cases h
  | cons b s=>have h':(qp a b&&iS r s)=Θ:=h;rw[g_] at h';rw[oJ h'.1,iT h'.2]
end
structure Sg where
 nm:List Str
 M7:List (Nat×D)
 fns:List Nat
 cls:List Nat:=[]
 xt:List (Str×Nat×Bool):=[]
 pl:List Nat:=[]
 rc:List (Nat×Str):=[]
 xm:List (Str×Nat):=[]
 JO:List Nat:=[]
noncomputable def Sg.name (Z:Sg)(n:Nat):Option Str:=(cW++Z.nm)[n]?
noncomputable def Gm.IX (G:Gm)(n:Nat):Bool:=G.cm&&G.gl.contains n
theorem kI {G:Gm}{n:Nat}(h:G.IX n=Θ):G.gl.contains n=Θ:=by unfold Gm.IX at h;rw[g_] at h;exact h.2
theorem kJ {G:Gm}{n:Nat}(h:G.IX n=Θ):G.cm=Θ:=by unfold Gm.IX at h;rw[g_] at h;exact h.1
noncomputable def Sg.LI (Z:Sg)(G:Gm)(f:Nat):Bool:=Z.fns.contains f&&(G.cm||Z.pl.contains f)
theorem kK {Z:Sg}{G:Gm}{f:Nat}(h:Z.LI G f=Θ):f∈Z.fns/\(G.cm=Θ∨f∈Z.pl):=by unfold Sg.LI at h;rw[g_,X_] at h;exact⟨by simpa using h.1,h.2.elim .inl fun z=>.inr (by simpa using z)⟩
noncomputable def nK:Mt->Bool
 | .join=>Θ
 | _=>Ξ
noncomputable def notStar:Expr->Bool
 | .Starred ..=>Ξ
 | _=>Θ
noncomputable def dS:Expr->Bool
 | .Slice ..=>Ξ
 | _=>Θ
noncomputable def iU:Expr->Bool
 | .Call _ [] [] _=>Ξ
 | _=>Θ
noncomputable def fI (G:Gm)(i:Nat)(x:Str):Bool:=G.N[i]? == Δ x&&(G.kd[i]? == Δ .local||G.kd[i]? == Δ .cell||G.kd[i]? == Δ .free)
noncomputable def iV (Z:Sg)(G:Gm)(n:Nat)(x:Str):Bool:=Z.name n == Δ x&&G.gl.contains n
noncomputable def Cf:D->Const->Bool
 | .int i,.int j=>i == j
 | .str x,.str y=>x == y
 | .bl a,.bool b=>a == b
 | .Fy,.none=>Θ
 | _,_=>Ξ
mutual
noncomputable def dI (G:Gm):Tg->Expr->Bool
 | .nm i,.Name x _=>(G.N[i]? == Δ x&&(G.kd[i]? == Δ .local||(G.df&&G.kd[i]? == Δ .cell)))&&G.io != Δ i
 | .tp ts,.Tuple es _ _=>G.cm&&fW G ts es
 | _,_=>Ξ
noncomputable def fW (G:Gm):List Tg->List Expr->Bool
 | [],[]=>Θ
 | t::ts,e::es=>notStar e&&dI G t e&&fW G ts es
 | _,_=>Ξ
end
mutual
noncomputable def Hw:Tg->List Nat
 | .nm i=>[i]
 | .tp ts=>l8 ts
noncomputable def l8:List Tg->List Nat
 | []=>[]
 | t::ts=>Hw t++l8 ts
end
noncomputable def dz (Z : Sg)(G : Gm)(scope : Scope)(G' : Gm)(fr : List Nat) : Bool :=
  (G.cm&&scope.kind == .function)&&!G'.tr&&!G'.df&&G'.kd.length == G'.N.length
 &&scope.names.all (fun y => y.2 != .cell)&&scope.names.all (fun y => y.2 != .local||scope.names.lookup y.1 == Δ .local)
 &&scope.names.all (fun y => y.2 != .free||(List.range G.N.length).any fun i => G.N[i]? == Δ y.1&&(G.kd[i]? == Δ .cell||G.kd[i]? == Δ .free))
 &&(List.range fr.length).all (fun j => G'.N[j]? == (fr[j]?).bind (G.N[·]?)&&((G'.N[j]?).bind (scope.names.lookup ·) == Δ .free)&&((fr[j]?).bind (G.kd[·]?) == Δ .cell||(fr[j]?).bind (G.kd[·]?) == Δ .free)
     &&(G'.kd[j]? == Δ (if ((fr[j]?).bind (G.kd[·]?) == Δ .cell) then .cell else .free)))
 &&decide (fr.length <= G'.N.length)
 &&((List.range G'.N.length).drop fr.length).all (fun j => (G'.N[j]?).bind (scope.names.lookup ·) == Δ .local&&G'.kd[j]? == Δ .local)
 &&G'.N.all (fun x => !(x == "__debug__")&&!(x == "__classdict__"))
 &&decide (G'.N.Nodup)
 &&G'.gl.all (fun n => match Z.name n with|some x => scope.names.lookup x == Δ .globalImplicit|none => Ξ)
theorem bU {P:Prop}(h:Ξ=Θ):P:=by cases h
noncomputable def nL:List Comprehension->(Expr->Expr->List Expr->Bool)->Bool
 | [⟨t,it,fs,0⟩],k=>k t it fs
 | _,_=>Ξ
local macro_rules | `(tactic| exists $h) => `(tactic| first | exact L2.bU $h | cases ($h))
theorem il {gens:List Comprehension}{k:Expr->Expr->List Expr->Bool}(h:nL gens k=Θ):∃ t it fs,gens=[⟨t,it,fs,0⟩]/\k t it fs=Θ:=by
 unfold nL at h;split at h
 ·exact⟨_,_,_,rfl,h⟩
 ·cases h
noncomputable def LJ (k:Str->Bool):Expr->Bool
 | .Name z _=>k z
 | _=>Ξ
theorem f9 {k:Str->Bool}{e:Expr}(h:LJ k e=Θ):∃ z p,e=.Name z p/\k z=Θ:=by
 induction e using zE with
 | Name z p=>exact⟨z,p,rfl,h⟩
 | _=>exact bU h
noncomputable def JP {α:Type}:List α->(α->Bool)->Bool
 | a::r,k=>r.isEmpty&&k a
 | [],_=>Ξ
theorem eG {α:Type}{l:List α}{k:α->Bool}(h:JP l k=Θ):∃ a,l=[a]/\k a=Θ:=by
 cases l with
 | nil=>exact bU h
 | cons a r=>
  cases r with
  | nil=>exact⟨a,rfl,h⟩
  | cons b r=>exact bU h
noncomputable def M8:Expr->(Expr->List Expr->Pos->Bool)->Bool
 | .Call f as ks p,k=>ks.isEmpty&&k f as p
 | _,_=>Ξ
theorem iW {e:Expr}{k:Expr->List Expr->Pos->Bool}(h:M8 e k=Θ):∃ f as p,e=.Call f as [] p/\k f as p=Θ:=by
 induction e using zE with
 | Call f as ks p=>
  cases ks with
  | nil=>exact⟨f,as,p,rfl,h⟩
  | cons b r=>exact bU h
 | _=>exact bU h
noncomputable def rR:Expr->Bool
 | .Tuple _ _ _=>Θ
 | _=>Ξ
noncomputable def gZ:Sr->Expr->Bool
 | .zip _ _,t=>rR t
 | .HN _,t=>rR t
 | _,_=>Θ
noncomputable def Og (e:Expr)(k:Str->Str->Expr->Bool):Bool:=M8 e fun f as _=>LJ (fun x=>JP as fun a=>M8 a fun g bs _=>LJ (fun y=>JP bs fun b=>k x y b) g) f
theorem rS {e:Expr}{k:Str->Str->Expr->Bool}(h:Og e k=Θ):∃ x p y p' e' q' q,e=.Call (.Name x p) [.Call (.Name y p') [e'] [] q'] [] q/\k x y e'=Θ:=by obtain⟨f,as,q,rfl,h1⟩:=iW h;obtain⟨x,p,rfl,h2⟩:=f9 h1;obtain⟨a,rfl,h3⟩:=eG h2;obtain⟨g,bs,q',rfl,h4⟩:=iW h3;obtain⟨y,p',rfl,h5⟩:=f9 h4;obtain⟨b,rfl,h6⟩:=eG h5;exact⟨_,_,_,_,_,_,_,rfl,h6⟩
noncomputable def Vc:List Expr->(Expr->Expr->Bool)->Bool
 | a::r,k=>JP r (k a)
 | [],_=>Ξ
theorem Aq {l:List Expr}{k:Expr->Expr->Bool}(h:Vc l k=Θ):∃ a b,l=[a,b]/\k a b=Θ:=by
 cases l with
 | nil=>exact bU h
 | cons a r=>obtain⟨b,rfl,h⟩:=eG (show JP r (k a)=Θ from h);exact⟨a,b,rfl,h⟩
noncomputable def RP (e:Expr)(k:Str->Str->Expr->Expr->Bool):Bool:=M8 e fun f as _=>LJ (fun x=>JP as fun a=>M8 a fun g bs _=>LJ (fun y=>Vc bs fun b c=>k x y b c) g) f
theorem As {e:Expr}{k:Str->Str->Expr->Expr->Bool}(h:RP e k=Θ):∃ x p y p' a b q' q,e=.Call (.Name x p) [.Call (.Name y p') [a,b] [] q'] [] q/\k x y a b=Θ:=by obtain⟨f,as,q,rfl,h1⟩:=iW h;obtain⟨x,p,rfl,h2⟩:=f9 h1;obtain⟨a,rfl,h3⟩:=eG h2;obtain⟨g,bs,q',rfl,h4⟩:=iW h3;obtain⟨y,p',rfl,h5⟩:=f9 h4;obtain⟨b,c,rfl,h6⟩:=Aq h5;exact⟨_,_,_,_,_,_,_,_,rfl,h6⟩
mutual
noncomputable def Fz (Z:Sg)(G:Gm):IR->Expr->Bool
 | .c d,.Constant k _ _=>Cf d k
 | .g n d,.Name x _=>iV Z G n x&&Z.M7.any fun p=>p.1 == n&&qp p.2 d
 | .v i,.Name x _=>fI G i x
 | .bin op a b,.BinOp l o r _=>o == Lb op&&Fz Z G a l&&Fz Z G b r
 | .neg a,.UnaryOp .USub e _=>Fz Z G a e
 | .cmp op a b,.Compare l [o] [r] _=>o == Ii op&&Fz Z G a l&&Fz Z G b r&&!behindInMarks o r
 | .chain op Gk a b c,.Compare l [o,o'] [m,r] _=>o == Ii op&&o' == Ii Gk&&Fz Z G a l&&Fz Z G b m&&Fz Z G c r&&!lastMarks [o,o'] [m,r]
 | .Gd a b,.BoolOp .And [e,e'] _=>Fz Z G a e&&Fz Z G b e'
 | .Gd a b,.BoolOp .And (e::e'::RQ::rest) p=>Fz Z G a e&&Fz Z G b (.BoolOp .And (e'::RQ::rest) p)
 | .II a b,.BoolOp .Or [e,e'] _=>Fz Z G a e&&Fz Z G b e'
 | .II a b,.BoolOp .Or (e::e'::RQ::rest) p=>Fz Z G a e&&Fz Z G b (.BoolOp .Or (e'::RQ::rest) p)
 | .GA a,.UnaryOp .Not e _=>Fz Z G a e
 | .ite t a b,.IfExp c x y _=>Fz Z G t c&&Fz Z G a x&&Fz Z G b y
 | .tup es,.Tuple l _ _=>dg Z G es l
 | .lst es,.List l _=>dg Z G es l
 | .sl a lo hi,.Subscript e (.Slice l h Φ _) _=>Fz Z G a e&&nM Z G lo l&&nM Z G hi h
 | .idx a i,.Subscript e s _=>dS s&&Fz Z G a e&&Fz Z G i s
 | .call f es,.Call (.Name x _) args [] _=>iV Z G f x&&Z.LI G f&&dg Z G es args
 | .bi f es,.Call (.Name x _) (a::args) [] _=>x == fD f&&G.IX (jO f)&&dg Z G es (a::args)
 | .Hl a k,.Call (.Name x _) [e,.Name y _] [] _=>x == "isinstance"&&G.gl.contains 14&&y == f7 k&&G.gl.contains (oI k)&&notStar e&&Fz Z G a e
 | .Ho a,e=>Og e fun x y e=>x == "list"&&G.IX 5&&y == "reversed"&&G.gl.contains 18&&notStar e&&Fz Z G a e
 | .Hq a b,e=>RP e fun x y e e'=>x == "list"&&G.IX 5&&y == "zip"&&G.gl.contains 17&&(notStar e&&notStar e')&&Fz Z G a e&&Fz Z G b e'
 | .sset a,e=>Og e fun x y e=>x == "sorted"&&G.gl.contains 4&&y == "set"&&G.gl.contains 12&&(notStar e&&G.cm)&&Fz Z G a e
 | .Jx m o es,.Call (.Attribute oe name apos) (a::args) [] FJ=>name == iQ m&&iU oe&&apos.endLine == FJ.line&&(decide ((a::args).length < 29)&&(G.cm||nK m))&&Fz Z G o oe&&dg Z G es (a::args)
 | .comp G' fr tg src ifs elt,.ListComp e gens scope _=>nL gens fun t it fs=>dz Z G scope G' fr&&dI G' tg t&&(Hw tg).all (fun i=>decide (fr.length<=i))&&(eI Z G src it&&gZ src t)&&dg Z G' ifs fs&&Fz Z G' elt e
 | _,_=>Ξ
noncomputable def dg (Z:Sg)(G:Gm):List IR->List Expr->Bool
 | [],[]=>Θ
 | a::es,e::l=>notStar e&&Fz Z G a e&&dg Z G es l
 | _,_=>Ξ
noncomputable def nM (Z:Sg)(G:Gm):Option IR->Option Expr->Bool
 | none,Φ=>Θ
 | some a,Δ e=>Fz Z G a e
 | _,_=>Ξ
noncomputable def eI (Z:Sg)(G:Gm):Sr->Expr->Bool
 | .FV n,.Call (.Name x _) [e] [] _=>x == "range"&&G.gl.contains 15&&notStar e&&Fz Z G n e
 | .zip a b,.Call (.Name x _) [e,e'] [] _=>x == "zip"&&G.gl.contains 17&&notStar e&&notStar e'&&Fz Z G a e&&Fz Z G b e'
 | .HN a,.Call (.Name x _) [e] [] _=>x == "enumerate"&&G.gl.contains 20&&notStar e&&Fz Z G a e
 | .val a,e=>Fz Z G a e
 | _,_=>Ξ
end
noncomputable def Vd:List Ψ:=[.type "ValueError",.type "Exception",.type "BaseException",.type "object"]
def HV (F:Ω->Prop)(H:Hp):Prop:=∀ a,F a->H a≠Φ
structure Out (K:Frag)(F:Ω->Prop)(H:Hp)(F':Ω->Prop)(H':Hp)(v:V)(d:D)(fv:List Ω):Prop where
 FQ:HV F' H'
 same:cz H H'
 rep:FE K F' H' v d fv
 Gj:fv.Nodup
 new:∀ a∈fv,H a=Φ
 HP:∀ a,F a->F' a
 out:∀ a,F' a->F a∨H a=Φ
def Mr (K:Frag)(cl:Nat->List D->Res D)(xp:XK->Hp->Str->Prop)(f:Nat)(ps:List Str):Sp:=fun vs H Q E=>vs.length=ps.length/\Mq H/\∃ F ds,HV F H/\E4 K F H vs ds/\
 E5 (xp E H) (cl f (Fx ds)) fun d=>∀ v H' F' fv,Out K F H F' H' v d fv->Q v H'
structure Ms (P:Ε)(w:Β)(K:Frag)(mg:Str->Option Ψ)(base:Heap)(CX:G1)(A:Ι)(cl:Nat->List D->Res D)(xp:XK->Hp->Str->Prop)(f:Nat)(x:Str):Prop where
 ex:∃ (k:Nat) (fa:Ω) (fd:Ο) (ps:List Str),mg x=Δ (.ref fa)/\PySem.W.keepIn K (.ref fa)=Θ/\Binds K fd ps []/\He P w K mg base CX k fa fd ps (Mr K cl xp f ps)/\GK k A/\
  ∀ (ex:Str->Prop) ds (k:D->Prop),E5 ex (cl f ds) k->ds.length=ps.length
noncomputable def rm (a:Ω)(H:Hp):Hp:=fun b=>if b=a then Φ else H b
structure RU (K:Frag)(a:Ω)(F:Ω->Prop)(H:Hp)(F':Ω->Prop)(H':Hp)(v:V)(d:D)(fv:List Ω)(Km:List (Key×V))(HF:List Key)(es':List D):Prop where
 out:Out K F (rm a H) F' H' v d fv
 nF:¬ F' a
 nf:a∉fv
 at_:H' a=Δ (.dK Km)
 ks:Km.map (·.1)=HF
 vs:E4 K F' H' (Km.map (·.2)) es'
structure RV (K:Frag)(a:Ω)(F:Ω->Prop)(H:Hp)(ws:List V)(ds:List D)(FL:List (Key×V))(es:List D):Prop where
 FQ:HV F H
 nF:¬ F a
 at_:H a=Δ (.dK FL)
 ws:E4 K F H ws ds
 vs:E4 K F H (FL.map (·.2)) es
 lf:cp es=Θ
def RW (K:Frag)(cl:Nat->List D->Res D)(f:Nat)(ps:List Str):Sp:=fun vs H Q _=>vs.length=ps.length/\∃ a F ws ds FL es,vs=ws++[.ref a]/\RV K a F H ws ds FL es/\
 ∃ d HF es',cl f (Fx ds++[.FX Ξ (FL.map (·.1)) es])=.ok (.tup [d,.FX Ξ HF es'])/\cp es'=Θ/\∀ v H' F' fv Km,RU K a F H F' H' v d fv Km HF es'->Q v H'
structure PV (P:Ε)(w:Β)(K:Frag)(mg:Str->Option Ψ)(base:Heap)(CX:G1)(A:Ι)(cl:Nat->List D->Res D)(f:Nat)(x:Str):Prop where
 ex:∃ (k:Nat) (fa:Ω) (fd:Ο) (ps:List Str),mg x=Δ (.ref fa)/\PySem.W.keepIn K (.ref fa)=Θ/\Binds K fd ps []/\He P w K mg base CX k fa fd ps (RW K cl f ps)/\GK k A/\
  ∀ ds r,cl f ds=.ok r->ds.length=ps.length
structure RX (Z:Sg)(CX:G1)(cl:Nat->List D->Res D)(xp:XK->Hp->Str->Prop)(X:Cx):Prop where
 st:X.stack=X.env::X.outer
 fr:X.env.frame=Δ X.env.locals
 lt:Mq X.Ib
 pl:∀ a:Ω,∀ f∈Z.fns,f∈Z.pl->∀ x,Z.name f=Δ x->Ms X.prog X.w X.K X.mg X.base CX (X.A.mark (Δ (.ref a))) cl xp f x
 cx:∀ (outer:List Env) (H:Hp) (s:Α) (E:XK) (e:Ψ) (s':Α),CX outer H s E e s'->GW X.prog X.w outer H s E e s'
 xp:∀ (c:Str) (C:Ω) (H:Hp),PySem.W.nsIn X.K Η c=Δ (Δ (.ref C))->xp (fun cls _ _=>cls=.ref C) H c
structure F7 (Z:Sg)(CX:G1)(cl:Nat->List D->Res D)(xp:XK->Hp->Str->Prop)(X:Cx)(ex:Str->Prop)(G:Gm):Prop where
 N:X.N=G.N
 Gj:G.N.Nodup
 calm:G.cm=Θ->X.calm=Θ
 fk:X.env.scope.kind=.function
 un:X.A.units+42 < cLine
 own:G.rs=Θ->PassesOwn (Μ X.prog X.w) X.A X.env X.xe
 kd:∀ (i:Nat) (x:Str),G.N[i]? = Δ x->X.env.kindOf x=G.kd[i]?
 KH:∀ (i:Nat) (x:Str),G.N[i]? = Δ x->(x == ("__debug__" : Str))=Ξ/\(x == ("__classdict__" : Str))=Ξ
 gl:∀ n∈G.gl,∀ x,Z.name n=Δ x->Gl X x
 LK:∀ n x,Z.name n=Δ x->x≠"__name__"/\(x == ("__debug__" : Str))=Ξ
 df:G.df=Θ->∀ x,X.fn x=Θ
 blt:∀ (n:Nat) (x:Str),cW[n]? = Δ x->X.mg x=Φ
 cst:∀ n d x,(n,d)∈Z.M7->Z.name n=Δ x->∃ u v,X.mg x=Δ u/\RelV v u/\∀ S H,E6 X.K S H v d
 fns:∀ f∈Z.fns,(G.cm=Θ∨f∈Z.pl)->∀ x,Z.name f=Δ x->Ms X.prog X.w X.K X.mg X.base CX X.A cl xp f x
 JO:∀ f∈Z.JO,G.cm=Θ->∀ x,Z.name f=Δ x->PV X.prog X.w X.K X.mg X.base CX X.A cl f x
 M9:∀ n∈Z.cls,∀ x,Z.name n=Δ x->∃ v,CV X x v
 M':∀ c n b x,(c,n,b)∈Z.xt->Z.name n=Δ x->∃ C,PySem.W.nsIn X.K Η c=Δ (Δ (.ref C))/\ExcAt X.K C/\∀ v,CV X x v->PySem.W.kitOne X.K (.ref C) (vv v)=Δ b
 Na:∀ c n x,(c,n)∈Z.xm->Z.name n=Δ x->∃ C C',PySem.W.nsIn X.K Η c=Δ (Δ (.ref C))/\PySem.W.nsIn X.K Η x=Δ (Δ (.ref C'))/\nameIn X.K C=Δ c/\X.mg x=Δ (.ref C')/\PySem.W.exmOne X.K (.ref C) (.ref C')=Δ Θ
 Nb:∀ n c,(n,c)∈Z.rc->Z.name n=Δ c/\∃ C,X.mg c=Δ (.ref C)/\PySem.W.nsIn X.K Η c=Δ (Δ (.ref C))/\PySem.W.excIn X.K C Vd "ValueError.__new__" = Θ
 X2:G.rs=Θ->∀ (pins:List (Ω×Obj)) (σ:St) (H:Hp) (s:Α) (c:Str) (C:Ω) (h':Heap) (e:Ω) (vs:List Ψ),Inv X pins σ H s->ex c->PySem.W.nsIn X.K Η c=Δ (Δ (.ref C))->Heap.MadeExcOf s.heap h' e (.ref C) vs->X.xe (.ref e) {s with heap:=h'}
 tr:G.tr=Θ->RX Z CX cl xp X
 Oh:∃ E:XK,Passes CX X E/\∀ c H,ex c->xp E H c
 KD:∀ (outer:List Env) (H:Hp) (s:Α) (E:XK) (e:Ψ) (s':Α),Gw X.prog X.w H s.heap->(∀ b∈GJ outer,H b=Φ)->CX outer (cT s.heap H) s E e s'->CX outer H s E e s'
 RY:∀ (H:Hp) (outer:List Env) (s:Α) (e:Ψ) (s':Α),¬ CX outer H s (fun _ _ _=>False) e s'
section
variable {P:Ε}{w:Β}{H H':Hp}{h:Heap}{K:Frag}{Fc F':Ω->Prop}
theorem oK {vs:List V}{ds:List D}(x:Gw P w H h)(m:E4 K Fc H vs ds):E4 K (fun a=>Fc a/\cT h H a≠Φ) (cT h H) vs ds:=by
 refine(m.step (S':=Fc) (H':=cT h H) (fun a xs f r=>⟨f,?_⟩) fun a xs r=>?_).IH
 ·rcases r with r|⟨o,r⟩
  ·obtain⟨ob,he⟩:=(x a _ r).at
   refine .inr ⟨ob,?_⟩;unfold cT;rw[r];cases xs with
   | l ys=>show (h.get? a).map _=_;rw[he];rfl
   | d ys=>show (h.get? a).map _=_;rw[he];rfl
  ·refine .inr ⟨o,?_⟩;unfold cT;rw[r];cases xs<;>rfl
 ·cases xs with
  | inl xs=>
   rcases r with (r|⟨o,r⟩)|r
   ·refine .inl (.inl ?_);unfold cT;rw[r]
   ·refine .inl (.inr ⟨o,?_⟩);unfold cT;rw[r];rfl
   ·exact .inr r
  | inr c=>obtain⟨C,o,vs,h0,h1,h2,h3⟩:=r;refine⟨C,o,vs,h0,h1,?_,h3⟩;unfold cT;rw[h2];rfl
theorem ma (x:Gw P w H h)(p:Ji h (cT h H) H'){a:Ω}(n:cT h H a=Φ)(e:H' a≠Φ):H a=Φ:=by
 cases q:H a with
 | none=>rfl
 | some o=>
  obtain⟨ob,he⟩:=(x a o q).at
  exact absurd (p.free a ob he n) e
theorem oM {v:V}{d:D}{fv:List Ω}(x:Gw P w H h)(FQ:HV Fc H)(p:Ji h (cT h H) H')(o:Out K (fun a=>Fc a/\cT h H a≠Φ) (cT h H) F' H' v d fv):Out K Fc H (fun a=>Fc a∨F' a) (gB H H') v d fv:=by
 have new:∀ a∈fv,H a=Φ:=fun a ha=>ma x p (o.new a ha) (by obtain⟨_,xs,e⟩:=o.rep.own a ha;rw[e];simp);refine⟨fun a ha=>?_,l7,o.rep.step (fun a xs f r=>⟨.inr f,?_⟩) (fun a xs r=>?_) fun a ha nf hn=>⟨fun z=>?_,res_none (new a ha)⟩,o.Gj,new,fun a ha=>.inl ha,fun a ha=>?_⟩
 ·cases q:H a with
  | some u=>rw[res_some q];simp
  | none=>
   rw[res_none q];rcases ha with ha|ha
   ·exact absurd q (FQ a ha)
   ·exact o.FQ a ha
 ·cases q:H a with
  | none=>unfold Rd;rw[res_none q];exact r
  | some u=>
   unfold Rd;rw[res_some q];cases jN x p q with
   | lst _ z=>
    cases xs with
    | l ys=>
     rcases r with r|⟨o',r⟩
     ·rw[z] at r;cases r
     ·rw[z] at r;cases r;exact .inl rfl
    | d ys=>rcases r with r|⟨o',r⟩<;>(rw[z] at r;cases r)
   | dK _ z=>
    cases xs with
    | d ys=>
     rcases r with r|⟨o',r⟩
     ·rw[z] at r;cases r
     ·rw[z] at r;cases r;exact .inl rfl
    | l ys=>rcases r with r|⟨o',r⟩<;>(rw[z] at r;cases r)
   | tup z=>cases xs<;>rcases r with r|⟨o',r⟩<;>(rw[z] at r;cases r)
   | FT _ z=>
    cases xs with
    | l ys=>
     rcases r with r|⟨o',r⟩
     ·rw[z] at r;cases r
     ·rw[z] at r;cases r;exact .inr ⟨_,rfl⟩
    | d ys=>
     rcases r with r|⟨o',r⟩
     ·rw[z] at r;cases r
     ·rw[z] at r;cases r;exact .inr ⟨_,rfl⟩
   | G2 _ _ z _ _ _=>exact absurd z r.some
 ·cases xs with
  | inl xs=>
   rcases r with r|r
   ·refine .inl ?_;cases q:H a with
    | none=>unfold Rd;rw[res_none q];exact r
    | some u=>
     unfold Rd;rw[res_some q];cases jN x p q with
     | lst _ z=>rcases r with r|⟨o',r⟩<;>(rw[z] at r;cases r)
     | dK _ z=>rcases r with r|⟨o',r⟩<;>(rw[z] at r;cases r)
     | tup z=>
      rcases r with r|⟨o',r⟩
      ·rw[z] at r;cases r;exact .inl rfl
      ·rw[z] at r;cases r
     | FT _ z=>
      rcases r with r|⟨o',r⟩
      ·rw[z] at r;cases r
      ·rw[z] at r;cases r;exact .inr ⟨_,rfl⟩
     | G2 _ _ z _ _ _=>exact absurd z r.some
   ·exact .inr r
  | inr c=>
   obtain⟨C,ob,vs,h0,h1,h2,h3⟩:=r;refine⟨C,ob,vs,h0,h1,?_,h3⟩;cases q:H a with
   | none=>rw[res_none q];exact h2
   | some u=>
    rw[res_some q];cases jN x p q with
    | lst _ z=>rw[z] at h2;cases h2
    | dK _ z=>rw[z] at h2;cases h2
    | tup z=>rw[z] at h2;cases h2
    | FT _ z=>rw[z] at h2;cases h2;rfl
    | G2 _ _ z _ _ _=>rw[z] at h2;cases h2
 ·rcases z with z|z
  ·exact FQ a z (new a ha)
  ·exact nf z
 ·rcases ha with ha|ha
  ·exact .inl ha
  ·rcases o.out a ha with z|z
   ·exact .inl z.1
   ·exact .inr (ma x p z (o.FQ a ha))
end
section
variable {X:Cx}{CX:G1}{cl:Nat->List D->Res D}{xp:XK->Hp->Str->Prop}
theorem Inv.Oi {pins:List (Ω×Obj)}{σ:St}{H:Hp}{s:Α}(I:Inv X pins σ H s):JJ X.prog X.w X.K X.mg X.base X.A X.stack s (cT s.heap H):=
 ⟨I.HJ.frames,I.HJ.mod,fun b o e=>⟨(I.HJ.bs b o e).1,dR (I.HJ.bs b o e).2⟩,I.HJ.KP,I.HJ.G5,fun b hb=>dR (I.HJ.J7 b hb),rP I.FN,I.HJ.bare⟩
theorem oN {k:Nat}{f:Nat}{fa:Ω}{fd:Ο}{ps:List Str}{E:XK}{pins:List (Ω×Obj)}{σ:St}{H:Hp}{s:Α}{Q:VK}{us:List Ψ}{vs:List V}{ds:List D}{Fc:Ω->Prop}
  (F:He X.prog X.w X.K X.mg X.base CX k fa fd ps (Mr X.K cl xp f ps)) (hr:GK k X.A) (hb:Binds X.K fd ps []) (hx:Passes CX X E)
  (hh:∀ (outer:List Env) (H:Hp) (s:Α) (E:XK) (e:Ψ) (s':Α),Gw X.prog X.w H s.heap->(∀ b∈GJ outer,H b=Φ)->CX outer (cT s.heap H) s E e s'->CX outer H s E e s')
  (I:Inv X pins σ H s) (r:Vals vs us) (hl:vs.length=ps.length) (FQ:HV Fc H) (m:E4 X.K Fc H vs ds)
  (q:E5 (xp E (cT s.heap H)) (cl f (Fx ds)) fun d=>∀ v H' F' fv,Out X.K Fc H F' H' v d fv->Q v H'):Κ (Μ X.prog X.w) X.A (call (.ref fa) us) (EP X pins σ Q) X.xe s:=by
 have IQ:Mr X.K cl xp f ps vs (cT s.heap H) (fun v H'=>Ji s.heap (cT s.heap H) H'->Q v (gB H H')) E:=
  ⟨hl,rO _ _,_,ds,fun a h=>h.2,oK I.FN m,q.mono fun d hd v H' F' fv o p=>hd v _ _ fv (oM I.FN FQ p o)⟩
 have Lc:(us++([]:List Ψ)).length=ps.length:=by rw[aaj,<- r.length];exact hl
 have bd:=hb s us I.IP Lc;rw[aaj] at bd;refine wpAny_call (codeAny_mono (F.run X.A X.stack s (cT s.heap H) ⟨us,[]⟩ us vs _ E hr I.Oi bd r IQ) fun r' s' hq=>?_);cases r' with
 | error e=>exact hx pins σ H s e s' I (hh X.stack H s E e s' I.FN I.HJ.J7 hq)
 | ok fl=>
  cases fl with
  | ret u=>obtain⟨v,H',a1,a2,a3,a4,a5,a6⟩:=hq;exact I.after (Q:=Q) ⟨v,gB H H',a1,a2,nJ I.FN a3,nH I.FN a4 (gC a3) (fs:=GJ X.stack) (fun b o _ e n f=>a3.keep b o e n f (by simp)) I.HJ.J7,a5,a6 (gC a3)⟩
  | next=>exact False.elim hq
  | brk=>exact False.elim hq
  | cont=>exact False.elim hq
end
def Slots (K:Frag)(S:Ω->Prop)(H:Hp)(σ:St)(τ:Ev)(is:List Nat):Prop:=∀ i∈is,∀ d,cu τ i=Δ d->∃ v,σ[i]? = Δ (Δ v)/\E6 K S H v d
theorem Slots.sub {K:Frag}{S:Ω->Prop}{H:Hp}{σ:St}{τ:Ev}{is js:List Nat}(h:Slots K S H σ τ is)(s:∀ i∈js,i∈is):Slots K S H σ τ js:=fun i hi d e=>h i (s i hi) d e
theorem Slots.left {K:Frag}{S:Ω->Prop}{H:Hp}{σ:St}{τ:Ev}{is js:List Nat}(h:Slots K S H σ τ (is++js)):Slots K S H σ τ is:=h.sub fun _ hi=>q_ _ hi
theorem Slots.right {K:Frag}{S:Ω->Prop}{H:Hp}{σ:St}{τ:Ev}{is js:List Nat}(h:Slots K S H σ τ (is++js)):Slots K S H σ τ js:=h.sub fun _ hi=>r_ _ hi
theorem Slots.go {K:Frag}{S:Ω->Prop}{H H':Hp}{σ:St}{τ:Ev}{is:List Nat}(h:Slots K S H σ τ is)(e:cz H H'):Slots K (nw S H) H' σ τ is:=fun i hi d z=>by obtain⟨v,h1,h2⟩:=h i hi d z;exact⟨v,h1,h2.mono (fun _=>.inl) e⟩
def RD (K:Frag)(ex:Str->Prop)(is:List Nat)(f:Ev->Res D):TE:=fun σ H Q=>∃ S τ,Slots K S H σ τ is/\E5 ex (f τ) (Kk K S H Q)
def RT (K:Frag)(ex:Str->Prop)(is:List Nat)(f:Ev->Res Bool):TT:=fun σ H Q=>∃ S τ,Slots K S H σ τ is/\E5 ex (f τ) fun b=>∀ H',cz H H'->Q b H'
def RA (K:Frag)(ex:Str->Prop)(is:List Nat)(f:Ev->Res (List D)):TA:=fun σ H Q=>∃ S τ,Slots K S H σ τ is/\E5 ex (f τ) fun ds=>∀ vs H',cz H H'->E4 K (nw S H) H' vs ds->Q vs H'
def Nc (K:Frag)(ex:Str->Prop)(is:List Nat)(f:Ev->Res (Option Int)):TO:=fun σ H Q=>∃ S τ,Slots K S H σ τ is/\E5 ex (f τ) fun o=>∀ H',cz H H'->Q o H'
def WS (K:Frag)(S:Ω->Prop)(H:Hp)(k:Zp.Kq)(a:Ω)(xs:List V):Prop:=match k with
 | .l=>(S a/\Rd H a (.lst xs))∨KL K a xs
 | .t=>G0 K H a xs
theorem WS.sq {K:Frag}{S:Ω->Prop}{H:Hp}{k:Zp.Kq}{a:Ω}{xs:List V}(h:WS K S H k a xs):Je K H k a xs:=by
 cases k with
 | l=>exact h.elim (fun z=>.inl z.2) fun z=>z.sq
 | t=>exact h
inductive Hr (K:Frag)(S:Ω->Prop)(H:Hp):It->List D->Prop where
 | lst {a:Ω}{xs:List V}{ds:List D}:S a->Rd H a (.lst xs)->E4 K S H xs ds->Hr K S H (Py K a) ds
 | lstK {a:Ω}{xs:List V}{ds:List D}:KL K a xs->E4 K S H xs ds->Hr K S H (Py K a) ds
 | tup {a:Ω}{xs:List V}{ds:List D}:G0 K H a xs->E4 K S H xs ds->Hr K S H (QN K a) ds
 | JY (lo hi:Int):Hr K S H (NF lo (hi - lo).toNat) (cO lo hi)
 | str (x:Str):Hr K S H (RM x) (dF x)
 | zip {p q:Zp.Kq}{l m:Ω}{xs ys:List V}{ds es:List D}:WS K S H p l xs->WS K S H q m ys->E4 K S H xs ds->E4 K S H ys es->Hr K S H (Ri K p q l m) (eE ds es)
 | HN {l:Ω}{xs:List V}{ds:List D}:WS K S H .l l xs->E4 K S H xs ds->Hr K S H (RG K l) (iM ds)
 | rev {l:Ω}{xs:List V}{ds:List D}:WS K S H .l l xs->E4 K S H xs ds->Hr K S H (XX K l xs.length) ds.reverse
def RI (K:Frag)(ex:Str->Prop)(is:List Nat)(f:Ev->Res (List D)):TI:=fun σ H R=>∃ S τ,Slots K S H σ τ is/\E5 ex (f τ) fun ds=>∀ J H',cz H H'->Hr K (nw S H) H' J ds->R J H'
theorem jP {S:Ω->Prop}{H H1:Hp}(e:cz H H1):∀ a,nw (nw S H) H1 a->nw S H a:=fun a h=>by
 rcases h with h|h
 ·exact h
 ·exact .inr (e.free h)
section
variable {Z:Sg}{CX:G1}{cl:Nat->List D->Res D}{xp:XK->Hp->Str->Prop}{X:Cx}{ex:Str->Prop}{G:Gm}
theorem Kk.fit {K:Frag}{S:Ω->Prop}{H H1:Hp}{Q:VK}{d:D}(e:cz H H1)(h:Kk K S H Q d):Kk K (nw S H) H1 Q d:=fun w H' e' m=>h w H' (e.trans e') (m.mono (jP e) (.refl _))
theorem rT (g:F7 Z CX cl xp X ex G){n:Nat}{x:Str}(h:iV Z G n x=Θ):Gl X x/\Z.name n=Δ x/\x≠"__name__"/\(x == ("__debug__" : Str))=Ξ:=by unfold iV at h;rw[g_] at h;have e:Z.name n=Δ x:=h_ h.1;exact⟨g.gl n (by simpa using h.2) x e,e,g.LK n x e⟩
theorem xI (Z:Sg){n:Nat}{x:Str}(h:cW[n]? = Δ x):Z.name n=Δ x:=by unfold Sg.name;rw[aao (v_.mp h).1];exact h
theorem eU (g:F7 Z CX cl xp X ex G){n:Nat}{x:Str}(h:cW[n]? = Δ x)(hc:G.gl.contains n=Θ):Gl X x/\X.mg x=Φ/\x≠"__name__"/\(x == ("__debug__" : Str))=Ξ:=
 ⟨g.gl n (by simpa using hc) x (xI Z h),g.blt n x h,g.LK n x (xI Z h)⟩
theorem ck {e:Expr}(h:notStar e=Θ)(es:List Expr)(env:Env):Ν (e::es) env=(Ξ,eval e env)::Ν es env:=by
 induction e using zE<;>first|rfl|cases h
theorem dM (Z:Sg)(G:Gm):∀ {es:List IR}{l:List Expr} (p:Pos) (env:Env),dg Z G es l=Θ->(backTo p (Ν l env)).any (·.1)=Ξ
 | [],[],_,_,_=>rfl
 | a::es,e::l,p,env,h=>by have h':(notStar e&&Fz Z G a e&&dg Z G es l)=Θ:=h;simp only[g_] at h';rw[ck h'.1.1];have ih:=dM Z G (es:=es) (l:=l) p env h'.2;show (Ξ||(backTo p (Ν l env)).any (·.1))=Ξ;rw[ih];rfl
 | [],_::_,_,_,h=>by cases h
 | _::_,[],_,_,h=>by cases h
theorem rV {d:D}{v:V}(h:∀ S H,E6 X.K S H v d){σ:St}{H:Hp}{Q:VK}{is:List Nat}(q:RD X.K ex is (fun _=>.ok d) σ H Q):Q v H:=by obtain⟨S,τ,_,q⟩:=q;exact q.ok _ _ (.refl _) (h _ _)
theorem Cg {e:Expr}{is:List Nat}{f:Ev->Res D}(h:PE X e (RD X.K ex is f))(he:∀ whole,isTrue e X.env whole=(do let v <- whole;standAt e.pos;holding [v] (truthy v))):PT X e (RT X.K ex is fun τ=>E3 (f τ) cK):=by intro pins s σ H Q I hw;obtain⟨S,τ,hs,hw⟩:=hw;refine isTrue_plain (FP (h pins s σ H (fun v H'=>∃ d,cz H H'/\E6 X.K (nw S H) H' v d/\E5 ex (cK d) fun b=>∀ H',cz H H'->Q b H') I ⟨S,τ,hs,(E5.E3 hw).mono fun d hd v H' e m=>⟨d,e,m,hd⟩⟩) fun v s1 ⟨x,H1,I1,r1,d,e,m,hd⟩=>?_) (he _);exact ik I1 r1 m (hd.mono fun b z=>z H1 e)
end
section
variable {Z:Sg}{CX:G1}{cl:Nat->List D->Res D}{xp:XK->Hp->Str->Prop}{X:Cx}{ex:Str->Prop}{G:Gm}{K:Frag}{S:Ω->Prop}{H H1:Hp}{σ:St}{τ:Ev}
theorem cQ {is:List Nat}{f:Ev->Res D}{Kt:D->Prop}{Q:VK}(e:cz H H1)(hs:Slots K S H σ τ is)(h:E5 ex (f τ) Kt)(k:∀ x v H2,cz H H2->cz H1 H2->E6 K (nw S H) H2 v x->Kt x->Q v H2):RD K ex is f σ H1 Q:=
 ⟨nw S H,τ,hs.go e,h.mono fun x hx v H2 e2 m=>k x v H2 (e.trans e2) e2 (m.mono (jP e) (.refl _)) hx⟩
theorem fT {is:List Nat}{f:Ev->Res Bool}{Kt:Bool->Prop}{Q:Bool->Hp->Prop}(e:cz H H1)(hs:Slots K S H σ τ is)(h:E5 ex (f τ) Kt)(k:∀ x H2,cz H H2->cz H1 H2->Kt x->Q x H2):RT K ex is f σ H1 Q:=
 ⟨nw S H,τ,hs.go e,h.mono fun x hx H2 e2=>k x H2 (e.trans e2) e2 hx⟩
theorem md {is:List Nat}{f:Ev->Res (List D)}{Kt:List D->Prop}{Q:List V->Hp->Prop}(e:cz H H1)(hs:Slots K S H σ τ is)(h:E5 ex (f τ) Kt)(k:∀ x v H2,cz H H2->cz H1 H2->E4 K (nw S H) H2 v x->Kt x->Q v H2):RA K ex is f σ H1 Q:=
 ⟨nw S H,τ,hs.go e,h.mono fun x hx v H2 e2 m=>k x v H2 (e.trans e2) e2 (m.mono (jP e) (.refl _)) hx⟩
theorem wu {is:List Nat}{f:Ev->Res (Option Int)}{Kt:Option Int->Prop}{Q:Option Int->Hp->Prop}(e:cz H H1)(hs:Slots K S H σ τ is)(h:E5 ex (f τ) Kt)(k:∀ x H2,cz H H2->cz H1 H2->Kt x->Q x H2):Nc K ex is f σ H1 Q:=
 ⟨nw S H,τ,hs.go e,h.mono fun x hx H2 e2=>k x H2 (e.trans e2) e2 hx⟩
theorem E6.later {v:V}{d:D}{H2:Hp}(h:E6 K (L2.nw S H) H1 v d)(e:cz H1 H2):E6 K (L2.nw S H) H2 v d:=h.mono (fun _ z=>z) e
theorem E4.later {v:List V}{d:List D}{H2:Hp}(h:E4 K (L2.nw S H) H1 v d)(e:cz H1 H2):E4 K (L2.nw S H) H2 v d:=h.mono (fun _ z=>z) e
theorem X3 (g:F7 Z CX cl xp X ex G){i:Nat}{x:Str}{pos:Pos}(h:fI G i x=Θ):PE X (.Name x pos) (RD X.K ex [i] (E8 cl (.v i))):=by
 unfold fI at h;rw[g_] at h;have hx:G.N[i]? = Δ x:=h_ h.1;have hk:=g.kd i x hx;have hv:Nz X.env.scope x:=by
  have h2:=h.2;rw[X_,X_] at h2;rcases h2 with (h2|h2)|h2
  ·exact .inl (hk.trans (h_ h2))
  ·exact .inr (.inl (hk.trans (h_ h2)))
  ·exact .inr (.inr (hk.trans (h_ h2)))
 refine cF (qB (i:=i) (by rw[g.N];exact hx) hv (g.KH i x hx).1 (g.KH i x hx).2) fun σ H Q q=>?_;obtain⟨S,τ,hs,q⟩:=q;rw[Cb] at q;cases z:cu τ i with
 | none=>rw[z] at q;exact q.no.elim
 | some d=>rw[z] at q;obtain⟨v,h1,h2⟩:=hs i (by simp) d z;exact⟨v,h1,q.ok _ _ (.refl _) h2.nw⟩
theorem X4 {d:D}{k:Const}{j:Nat}{pos:Pos}(h:Cf d k=Θ):PE X (.Constant k j pos) (RD X.K ex [] (E8 cl (.c d))):=by
 induction d using zD with
 | Fy=>
  cases k with
  | none=>exact cF zt fun σ H Q q=>rV (fun _ _=>.Fy) q
  | _=>cases h
 | bl b=>
  cases k with
  | bool b'=>have e:b=b':=h_ h;subst e;exact cF BI fun σ H Q q=>rV (fun _ _=>.bl _) q
  | _=>cases h
 | int b=>
  cases k with
  | int b'=>have e:b=b':=h_ h;subst e;exact cF zr fun σ H Q q=>rV (fun _ _=>.int _) q
  | _=>cases h
 | str b=>
  cases k with
  | str b'=>have e:b=b':=h_ h;subst e;exact cF zu fun σ H Q q=>rV (fun _ _=>.str _) q
  | _=>cases h
 | tup _=>cases k<;>cases h
 | lst _ _=>cases k<;>cases h
 | exc _=>cases k<;>cases h
 | FX o ks ds=>cases k<;>cases h
theorem X5 (g:F7 Z CX cl xp X ex G){n:Nat}{d:D}{x:Str}{pos:Pos}(h:iV Z G n x=Θ)(hk:Z.M7.any (fun p=>p.1 == n&&qp p.2 d)=Θ):PE X (.Name x pos) (RD X.K ex [] (E8 cl (.g n d))):=by obtain⟨h1,h2,h3,h4⟩:=rT g h;rw[List.any_eq_true] at hk;obtain⟨⟨m,d'⟩,hm,hk⟩:=hk;rw[g_] at hk;have e1:m=n:=h_ hk.1;have e2:d'=d:=oJ hk.2;subst e1 e2;obtain⟨u,v,hu,r,hr⟩:=g.cst m d' x hm h2;exact cF (vx h1 hu r h4) fun σ H Q q=>rV hr q
theorem Ci {op:Kg}{a b:Expr}{pos:Pos}{va vb:List Nat}{fa fb:Ev->Res D}(ha:PE X a (RD X.K ex va fa))(hb:PE X b (RD X.K ex vb fb)) :
  PE X (.BinOp a (Lb op) b pos) (RD X.K ex (va++vb) fun τ=>E3 (fa τ) fun x=>E3 (fb τ) fun y=>Hm op x y):=by
 refine cF (om (Am (ex:=ex) op) ha hb) fun σ H Q ⟨S,τ,hs,q⟩=>?_;refine cQ (.refl _) hs.left (E5.E3 q) fun x v H1 e1 _ m1 q1=>?_;refine cQ e1 hs.right (E5.E3 q1) fun y w H2 e2 GO m2 q2=>?_;exact⟨nw S H,x,y,m1.later GO,m2,q2.mono fun d hd=>hd.fit e2⟩
theorem Cj {a:Expr}{pos:Pos}{va:List Nat}{fa:Ev->Res D}(ha:PE X a (RD X.K ex va fa)) :
  PE X (.UnaryOp .USub a pos) (RD X.K ex va fun τ=>E3 (fa τ) fun|.int i=>.ok (.int (-i))|_=>FC):=by
 refine cF (BR zN ha) fun σ H Q ⟨S,τ,hs,q⟩=>?_;refine cQ (.refl _) hs (E5.E3 q) fun x v H1 e1 _ m1 q1=>?_
 induction x using zD with
 | int i=>cases m1.FK;exact⟨i,rfl,q1.ok _ _ e1 (.int _)⟩
 | _=>exact q1.no.elim
theorem Ck (g:F7 Z CX cl xp X ex G){op:HM}{a b:Expr}{pos:Pos}{va vb:List Nat}{fa fb:Ev->Res D}(ha:PE X a (RD X.K ex va fa))(hb:PE X b (RD X.K ex vb fb))(hm:behindInMarks (Ii op) b=Ξ) :
  PE X (.Compare a [Ii op] [b] pos) (RD X.K ex (va++vb) fun τ=>E3 (fa τ) fun x=>E3 (fb τ) fun y=>E3 (GQ op x y) fun r=>.ok (.bl r))/\
  PT X (.Compare a [Ii op] [b] pos) (RT X.K ex (va++vb) fun τ=>E3 (E3 (fa τ) fun x=>E3 (fb τ) fun y=>E3 (GQ op x y) fun r=>.ok (.bl r)) cK):=by
 refine⟨cF (vD (gW (ex:=ex) g.un op) ha hb hm) fun σ H Q ⟨S,τ,hs,q⟩=>?_,iC (vE (gW (ex:=ex) g.un op) ha hb hm) fun σ H Q ⟨S,τ,hs,q⟩=>?_⟩
 ·refine cQ (.refl _) hs.left (E5.E3 q) fun x v H1 e1 _ m1 q1=>?_;refine cQ e1 hs.right (E5.E3 q1) fun y w H2 e2 GO m2 q2=>?_;exact⟨nw S H,x,y,m1.later GO,m2,(E5.E3 q2).mono fun d hd=>hd.ok _ _ e2 (.bl _)⟩
 ·refine cQ (.refl _) hs.left (E5.E3 (E5.E3 q)) fun x v H1 e1 _ m1 q1=>?_;refine cQ e1 hs.right (E5.E3 q1) fun y w H2 e2 GO m2 q2=>?_;exact⟨nw S H,x,y,m1.later GO,m2,(E5.E3 q2).mono fun d hd=>⟨d,rfl,hd.ok.ok H2 e2⟩⟩
theorem wx (g:F7 Z CX cl xp X ex G){op Gk:HM}{a b c:Expr}{pos:Pos}{va vb vc:List Nat}{fa fb fc:Ev->Res D}(ha:PE X a (RD X.K ex va fa))(hb:PE X b (RD X.K ex vb fb))(hc:PE X c (RD X.K ex vc fc))
  (hm:lastMarks [Ii op,Ii Gk] [b,c]=Ξ) :
  PE X (.Compare a [Ii op,Ii Gk] [b,c] pos) (RD X.K ex (va++vb++vc) fun τ=>E3 (fa τ) fun x=>E3 (fb τ) fun y=>E3 (GQ op x y) fun r=>if r=Θ then E3 (fc τ) fun z=>E3 (GQ Gk y z) fun r'=>.ok (.bl r') else .ok (.bl Ξ))/\
  PT X (.Compare a [Ii op,Ii Gk] [b,c] pos) (RT X.K ex (va++vb++vc) fun τ=>E3 (E3 (fa τ) fun x=>E3 (fb τ) fun y=>E3 (GQ op x y) fun r=>if r=Θ then E3 (fc τ) fun z=>E3 (GQ Gk y z) fun r'=>.ok (.bl r') else .ok (.bl Ξ)) cK):=by
 refine⟨cF (qL (gW (ex:=ex) g.un op) (gW (ex:=ex) g.un Gk) ha hb hc hm) fun σ H Q ⟨S,τ,hs,q⟩=>?_,iC (qM (gW (ex:=ex) g.un op) (gW (ex:=ex) g.un Gk) ha hb hc hm) fun σ H Q ⟨S,τ,hs,q⟩=>?_⟩
 ·refine cQ (.refl _) hs.left.left (E5.E3 q) fun x v H1 e1 _ m1 q1=>?_;refine cQ e1 hs.left.right (E5.E3 q1) fun y w H2 e2 GO m2 q2=>?_;refine⟨nw S H,x,y,m1.later GO,m2,(E5.E3 q2).mono fun d hd=>⟨d,rfl,?_⟩⟩;cases d with
  | false=>rw[d_ o_] at hd ⊢;exact hd.ok _ _ e2 (.bl _)
  | true=>rw[f_ rfl] at hd ⊢;refine cQ e2 hs.right (E5.E3 hd) fun z w' H3 e3 LL m3 q3=>?_;exact⟨nw S H,y,z,m2.later LL,m3,(E5.E3 q3).mono fun d hd=>hd.ok _ _ e3 (.bl _)⟩
 ·refine cQ (.refl _) hs.left.left (E5.E3 (E5.E3 q)) fun x v H1 e1 _ m1 q1=>?_;refine cQ e1 hs.left.right (E5.E3 q1) fun y w H2 e2 GO m2 q2=>?_;refine⟨nw S H,x,y,m1.later GO,m2,(E5.E3 q2).mono fun d hd=>⟨d,rfl,?_⟩⟩;cases d with
  | false=>rw[d_ o_] at hd ⊢;exact⟨Ξ,rfl,hd.ok.ok _ e2⟩
  | true=>rw[f_ rfl] at hd ⊢;refine cQ e2 hs.right (E5.E3 hd) fun z w' H3 e3 LL m3 q3=>?_;exact⟨nw S H,y,z,m2.later LL,m3,(E5.E3 q3).mono fun d hd=>⟨d,rfl,hd.ok.ok _ e3⟩⟩
theorem xJ {a b:Expr}{rest:List Expr}{pos:Pos}{va vb:List Nat}{fa fb:Ev->Res D}(ha:PE X a (RD X.K ex va fa))(hb:PE X (.BoolOp .And (b::rest) pos) (RD X.K ex vb fb)) :
  PE X (.BoolOp .And (a::b::rest) pos) (RD X.K ex (va++vb) fun τ=>E3 (fa τ) fun x=>E3 (cK x) fun r=>if r=Θ then fb τ else .ok x):=by
 intro pins s σ H Q I h;obtain⟨S,τ,hs,q⟩:=h;refine BoolOp_and (FP (ha pins s σ H (fun v H'=>∃ d,cz H H'/\E6 X.K (nw S H) H' v d/\_) I (cQ (.refl _) hs.left (E5.E3 q) fun x v H1 e1 _ m1 q1=>⟨x,e1,m1,q1⟩)) fun v s1 ⟨x,H1,I1,r1,d,e1,m1,q1⟩=>?_);refine FP (ik (Q:=fun b H'=>H'=H1/\E5 ex (if b=Θ then fb τ else .ok d) (Kk X.K S H Q)) I1 r1 m1 ((E5.E3 q1).mono fun b z=>⟨rfl,z⟩)) fun c s2 ⟨H2,I2,e2,q2⟩=>?_;subst e2;cases c with
 | true=>rw[f_ rfl] at q2 ⊢;exact hb pins s2 σ _ Q I2 (cQ e1 hs.right q2 fun y w H3 e3 _ m3 q3=>q3 _ _ e3 m3)
 | false=>rw[d_ o_] at q2 ⊢;exact⟨x,_,I2,r1,q2.ok _ _ e1 m1⟩
theorem Cm {a b:Expr}{rest:List Expr}{pos:Pos}{va vb:List Nat}{fa fb:Ev->Res D}(ha:PE X a (RD X.K ex va fa))(hb:PE X (.BoolOp .Or (b::rest) pos) (RD X.K ex vb fb)) :
  PE X (.BoolOp .Or (a::b::rest) pos) (RD X.K ex (va++vb) fun τ=>E3 (fa τ) fun x=>E3 (cK x) fun r=>if r=Θ then .ok x else fb τ):=by
 intro pins s σ H Q I h;obtain⟨S,τ,hs,q⟩:=h;refine BoolOp_or (FP (ha pins s σ H (fun v H'=>∃ d,cz H H'/\E6 X.K (nw S H) H' v d/\_) I (cQ (.refl _) hs.left (E5.E3 q) fun x v H1 e1 _ m1 q1=>⟨x,e1,m1,q1⟩)) fun v s1 ⟨x,H1,I1,r1,d,e1,m1,q1⟩=>?_);refine FP (ik (Q:=fun b H'=>H'=H1/\E5 ex (if b=Θ then .ok d else fb τ) (Kk X.K S H Q)) I1 r1 m1 ((E5.E3 q1).mono fun b z=>⟨rfl,z⟩)) fun c s2 ⟨H2,I2,e2,q2⟩=>?_;subst e2;cases c with
 | false=>rw[d_ o_] at q2 ⊢;exact hb pins s2 σ _ Q I2 (cQ e1 hs.right q2 fun y w H3 e3 _ m3 q3=>q3 _ _ e3 m3)
 | true=>rw[f_ rfl] at q2 ⊢;exact⟨x,_,I2,r1,q2.ok _ _ e1 m1⟩
theorem Co {a:Expr}{pos:Pos}{va:List Nat}{fa:Ev->Res D}(ha:PE X a (RD X.K ex va fa))(ht:PT X a (RT X.K ex va fun τ=>E3 (fa τ) cK)) :
  PE X (.UnaryOp .Not a pos) (RD X.K ex va fun τ=>E3 (fa τ) fun x=>E3 (cK x) fun r=>.ok (.bl !r))/\PT X (.UnaryOp .Not a pos) (RT X.K ex va fun τ=>E3 (E3 (fa τ) fun x=>E3 (cK x) fun r=>.ok (.bl !r)) cK):=by
 constructor
 ·intro pins s σ H Q I h;obtain⟨S,τ,hs,q⟩:=h;refine UnaryOp_ (FP (ha pins s σ H (fun v H'=>∃ d,cz H H'/\E6 X.K (nw S H) H' v d/\_) I (cQ (.refl _) hs (E5.E3 q) fun x v H1 e1 _ m1 q1=>⟨x,e1,m1,q1⟩)) fun v s1 ⟨x,H1,I1,r1,d,e1,m1,q1⟩=>?_);refine not_of (FP (ik (Q:=fun b H'=>Q (.bl !b) H') I1 r1 m1 ((E5.E3 q1).mono fun b z=>z.ok _ _ e1 (.bl _))) fun c s2 ⟨H2,I2,q2⟩=>⟨.bl !c,H2,I2,rfl,q2⟩)
 ·refine iC (zx ht) fun σ H Q ⟨S,τ,hs,q⟩=>?_;exact fT (.refl _) hs (E5.mk ((E5.E3 (E5.E3 q)).mono fun x hx=>(E5.E3 hx).mono fun r hr=>hr.ok.ok)) fun x H2 e2 _ k=>k H2 e2
theorem rW {e:Expr}{pos:Pos}{op:BoolOp}{es:List Expr}{t:TT}(h:PT X (.BoolOp op es pos) t):PW X (.BoolOp op es pos) t:=fun _ pins s σ H Q I q=>h pins s σ H Q I q
theorem xK {a b:Expr}{rest:List Expr}{pos:Pos}{va vb:List Nat}{fa fb:Ev->Res D}(ha:PT X a (RT X.K ex va fun τ=>E3 (fa τ) cK))(hb:PW X (.BoolOp .And (b::rest) pos) (RT X.K ex vb fun τ=>E3 (fb τ) cK)) :
  PT X (.BoolOp .And (a::b::rest) pos) (RT X.K ex (va++vb) fun τ=>E3 (E3 (fa τ) fun x=>E3 (cK x) fun r=>if r=Θ then fb τ else .ok x) cK):=by
 refine iC (zw ha hb).pt fun σ H Q ⟨S,τ,hs,q⟩=>?_;refine fT (.refl _) hs.left (Kt:=fun r=>E5 ex (if r=Θ then E3 (fb τ) cK else .ok Ξ) fun b=>∀ H',cz H H'->Q b H') (E5.mk ((E5.E3 (E5.E3 q)).mono fun x hx=>(E5.E3 hx).eq.mono fun r hr=>?_)) fun r H2 e2 _ k=>?_
 ·obtain⟨er,hr⟩:=hr;cases r with
  | true=>rw[f_ rfl] at hr ⊢;exact E5.mk hr
  | false=>rw[d_ o_] at hr ⊢;have Mn:E5 ex (cK x) _:=hr;rw[er] at Mn;exact Mn
 ·cases r with
  | true=>rw[f_ rfl] at k ⊢;exact fT e2 hs.right k fun b H3 e3 _ z=>z H3 e3
  | false=>rw[d_ o_] at k ⊢;exact k.ok H2 e2
theorem Cp {a b:Expr}{rest:List Expr}{pos:Pos}{va vb:List Nat}{fa fb:Ev->Res D}(ha:PT X a (RT X.K ex va fun τ=>E3 (fa τ) cK))(hb:PW X (.BoolOp .Or (b::rest) pos) (RT X.K ex vb fun τ=>E3 (fb τ) cK)) :
  PT X (.BoolOp .Or (a::b::rest) pos) (RT X.K ex (va++vb) fun τ=>E3 (E3 (fa τ) fun x=>E3 (cK x) fun r=>if r=Θ then .ok x else fb τ) cK):=by
 refine iC (BK ha hb).pt fun σ H Q ⟨S,τ,hs,q⟩=>?_;refine fT (.refl _) hs.left (Kt:=fun r=>E5 ex (if r=Θ then .ok Θ else E3 (fb τ) cK) fun b=>∀ H',cz H H'->Q b H') (E5.mk ((E5.E3 (E5.E3 q)).mono fun x hx=>(E5.E3 hx).eq.mono fun r hr=>?_)) fun r H2 e2 _ k=>?_
 ·obtain⟨er,hr⟩:=hr;cases r with
  | false=>rw[d_ o_] at hr ⊢;exact E5.mk hr
  | true=>rw[f_ rfl] at hr ⊢;have Mn:E5 ex (cK x) _:=hr;rw[er] at Mn;exact Mn
 ·cases r with
  | false=>rw[d_ o_] at k ⊢;exact fT e2 hs.right k fun b H3 e3 _ z=>z H3 e3
  | true=>rw[f_ rfl] at k ⊢;exact k.ok H2 e2
theorem Cq {c a b:Expr}{pos:Pos}{vc va vb:List Nat}{fc fa fb:Ev->Res D}(hc:PT X c (RT X.K ex vc fun τ=>E3 (fc τ) cK))(ha:PE X a (RD X.K ex va fa))(hb:PE X b (RD X.K ex vb fb))
  (ta:PT X a (RT X.K ex va fun τ=>E3 (fa τ) cK)) (tb:PT X b (RT X.K ex vb fun τ=>E3 (fb τ) cK)) :
  PE X (.IfExp c a b pos) (RD X.K ex (vc++va++vb) fun τ=>E3 (fc τ) fun x=>E3 (cK x) fun r=>if r=Θ then fa τ else fb τ)/\
  PT X (.IfExp c a b pos) (RT X.K ex (vc++va++vb) fun τ=>E3 (E3 (fc τ) fun x=>E3 (cK x) fun r=>if r=Θ then fa τ else fb τ) cK):=by
 constructor
 ·refine cF (k9 hc ha hb) fun σ H Q ⟨S,τ,hs,q⟩=>?_;refine fT (.refl _) hs.left.left (E5.mk ((E5.E3 q).mono fun x hx=>E5.E3 hx)) fun r H2 e2 _ k=>?_;cases r with
  | true=>rw[f_ rfl] at k ⊢;exact cQ e2 hs.left.right k fun y w H3 e3 _ m3 q3=>q3 _ _ e3 m3
  | false=>rw[d_ o_] at k ⊢;exact cQ e2 hs.right k fun y w H3 e3 _ m3 q3=>q3 _ _ e3 m3
 ·intro pins s σ H Q I h;obtain⟨S,τ,hs,q⟩:=h
  refine isTrue_IfExp (FP (hc pins s σ H (fun r H2=>cz H H2/\E5 ex (if r=Θ then fa τ else fb τ) fun d=>E5 ex (cK d) fun b=>∀ H',cz H H'->Q b H') I
   (fT (.refl _) hs.left.left (E5.mk ((E5.E3 (E5.E3 q)).mono fun x hx=>E5.E3 hx)) fun r H2 e2 _ k=>⟨e2,k⟩)) fun d s1 ⟨H1,I1,e1,q1⟩=>?_)
  cases d with
  | true=>rw[f_ rfl] at q1;exact ta pins s1 σ H1 Q I1 (fT e1 hs.left.right (E5.mk q1) fun b H3 e3 _ z=>z H3 e3)
  | false=>rw[d_ o_] at q1;exact tb pins s1 σ H1 Q I1 (fT e1 hs.right (E5.mk q1) fun b H3 e3 _ z=>z H3 e3)
theorem Cr {es:List Expr}{n:Nat}{pos:Pos}{va:List Nat}{fa:Ev->Res (List D)}(h:PA X es (RA X.K ex va fa)):PE X (.Tuple es n pos) (RD X.K ex va fun τ=>E3 (fa τ) fun ds=>Fw (dh ds.length) (.ok (.tup ds))):=by refine cF (qO h) fun σ H Q ⟨S,τ,hs,q⟩=>?_;refine md (.refl _) hs (E5.E3 q) fun ds vs H1 e1 _ m1 q1=>?_;obtain⟨g,q1⟩:=E5.Fw q1;exact⟨by rw[m1.length];exact de g,fun p hp=>q1.ok _ _ (e1.trans (.upd hp)) ((Ak hp m1).mono (jP e1) (.refl _))⟩
theorem Cs {es:List Expr}{pos:Pos}{va:List Nat}{fa:Ev->Res (List D)}(h:PA X es (RA X.K ex va fa)):PE X (.List es pos) (RD X.K ex va fun τ=>E3 (fa τ) fun ds=>Fw (dh ds.length) (.ok (.lst Θ ds))):=by refine cF (iA h) fun σ H Q ⟨S,τ,hs,q⟩=>?_;refine md (.refl _) hs (E5.E3 q) fun ds vs H1 e1 _ m1 q1=>?_;obtain⟨g,q1⟩:=E5.Fw q1;exact⟨by rw[m1.length];exact de g,fun p hp=>q1.ok _ _ (e1.trans (.upd hp)) ((l5 hp m1).mono (jP e1) (.refl _))⟩
theorem Ct {a b:Expr}{pos:Pos}{va vb:List Nat}{fa fb:Ev->Res D}(ha:PE X a (RD X.K ex va fa))(hb:PE X b (RD X.K ex vb fb))(hp:dS b=Θ) :
  PE X (.Subscript a b pos) (RD X.K ex (va++vb) fun τ=>E3 (fa τ) fun x=>E3 (fb τ) fun y=>cH x y):=by
 refine cF (xG (wc (ex:=ex)) ha hb fun o i=>by cases b<;>first|rfl|cases hp) fun σ H Q ⟨S,τ,hs,q⟩=>?_;refine cQ (.refl _) hs.left (E5.E3 q) fun x v H1 e1 _ m1 q1=>?_;refine cQ e1 hs.right (E5.E3 q1) fun y w H2 e2 GO m2 q2=>?_;exact⟨nw S H,x,y,m1.later GO,m2,q2.mono fun d hd=>hd.fit e2⟩
theorem ER {a:Expr}{lo hi:Option Expr}{pos p2:Pos}{va vl vh:List Nat}{fa:Ev->Res D}{fl fh:Ev->Res (Option Int)}(ha:PE X a (RD X.K ex va fa))(hl:PO X lo (Nc X.K ex vl fl))(hh:PO X hi (Nc X.K ex vh fh)) :
  PE X (.Subscript a (.Slice lo hi Φ p2) pos) (RD X.K ex (va++vl++vh) fun τ=>E3 (fa τ) fun x=>E3 (fl τ) fun l=>E3 (fh τ) fun h=>lQ x l h):=by
 refine cF (lb (wg (ex:=ex)) ha hl hh) fun σ H Q ⟨S,τ,hs,q⟩=>?_;refine cQ (.refl _) hs.left.left (E5.E3 q) fun x v H1 e1 _ m1 q1=>?_;refine wu e1 hs.left.right (E5.E3 q1) fun l H2 e2 GO q2=>?_;refine wu e2 hs.right (E5.E3 q2) fun h H3 e3 LL q3=>?_;exact⟨nw S H,x,m1.later (GO.trans LL),q3.mono fun d hd=>hd.fit e3⟩
theorem s_call (g:F7 Z CX cl xp X ex G){f:Nat}{x:Str}{p pos:Pos}{es:List IR}{args:List Expr}(h1:iV Z G f x=Θ)(h2:Z.LI G f=Θ)(Gn:dg Z G es args=Θ)(h:PA X args (RA X.K ex (cD es) (dq cl es))) :
  PE X (.Call (.Name x p) args [] pos) (RD X.K ex (cD es) fun τ=>E3 (dq cl es τ) fun ds=>cl f (Fx ds)):=by
 obtain⟨k1,k2,k3,k4⟩:=rT g h1;obtain⟨k,RZ,fd,ps,hm,Ld,hb,F,hr,hlen⟩:=(g.fns f (kK h2).1 (kK h2).2 x k2).ex;obtain⟨E,hP,hE⟩:=g.Oh;intro pins s σ H Q I q;obtain⟨S,τ,hs,q⟩:=q;have fin:∀ (us:List Ψ) (s1:Α) (vs:List V) (H1:Hp) (ds:List D),Inv X pins σ H1 s1->Vals vs us->cz H H1->E4 X.K (nw S H) H1 vs ds->E5 ex (cl f (Fx ds)) (Kk X.K S H Q)->Κ (Μ X.prog X.w) X.A (call (.ref RZ) us) (EP X pins σ Q) X.xe s1:=by
  intro us s1 vs H1 ds I1 r e m q1;have hl:=hlen ex _ _ q1;rw[eB] at hl;refine oN F hr hb hP g.KD I1 r (by rw[m.length];exact hl) (Fc:=fun a=>nw S H a/\H1 a≠Φ) (fun a z=>z.2) m.IH ?_;cases z:cl f (Fx ds) with
  | error er=>
   rw[z] at q1;cases er with
   | stuck=>exact q1.no.elim
   | exc c=>exact hE c _ q1
  | ok d=>
   rw[z] at q1;intro v H' F' fv o;refine q1.ok _ _ (e.trans o.same) (o.rep.read (fun a ha=>?_) fun a ha=>?_)
   ·rcases o.out a ha with z|z
    ·exact z.1
    ·exact .inr (e.free z)
   ·exact .inr (e.free (o.new a ha))
 refine aaF (kl I k1 hm ?_ k4);cases args with
 | nil=>
  cases es with
  | cons _ _=>cases Gn
  | nil=>exact PySem.W.callWith_K0 I.IP Ld (fin [] s [] H [] I .nil (.refl _) .nil q)
 | cons e l=>
  cases es with
  | nil=>cases Gn
  | cons a es=>have F6:(notStar e&&Fz Z G a e&&dg Z G es l)=Θ:=Gn;simp only[g_] at F6;refine PySem.W.callWith_K (h₀:=X.base) I.ok.mod.Pr Ld (FP (h pos pins s σ H (fun vs H1=>∃ ds,cz H H1/\E4 X.K (nw S H) H1 vs ds/\E5 ex (cl f (Fx ds)) (Kk X.K S H Q)) I ⟨S,τ,hs,(E5.E3 q).mono fun ds hd vs H1 e m=>⟨ds,e,m,hd⟩⟩) fun us s1 ⟨vs,H1,I1,r,ds,e,m,q1⟩=>⟨I1.IP,?_⟩) (ck F6.1.1 l X.env) (dM Z G (es:=es) pos X.env F6.2);exact fin us s1 vs H1 ds I1 r e m q1
theorem ES (g:F7 Z CX cl xp X ex G){f:Bi}{p pos:Pos}{es:List IR}{a:Expr}{args:List Expr}(hg:G.IX (jO f)=Θ)(Gn:dg Z G es (a::args)=Θ)(h:PA X (a::args) (RA X.K ex (cD es) (dq cl es))) :
  PE X (.Call (.Name (fD f) p) (a::args) [] pos) (RD X.K ex (cD es) fun τ=>E3 (dq cl es τ) fun ds=>eD f ds):=by
 obtain⟨k1,k2,k3,k4⟩:=eU g (rQ f) (kI hg);cases es with
 | nil=>cases Gn
 | cons b es=>
  have F6:(notStar a&&Fz Z G b a&&dg Z G es args)=Θ:=Gn;simp only[g_] at F6;have mono:∀ σ H Q,RD X.K ex (cD (b::es)) (fun τ=>E3 (dq cl (b::es) τ) fun ds=>eD f ds) σ H Q->QU (Va X.K ex f) (RA X.K ex (cD (b::es)) (dq cl (b::es))) σ H Q:=by rintro σ H Q ⟨S,τ,hs,q⟩;refine md (.refl _) hs (E5.E3 q) fun ds vs H1 e1 _ m1 q1=>?_;exact⟨nw S H,ds,m1,q1.mono fun d hd=>hd.fit e1⟩
  refine cF ?_ mono;have hv:=oH f;have hc:=wj (X:=X) (ex:=ex) (g.calm (kJ hg)) f;unfold rK at hv hc;cases z:Cd f with
  | true=>rw[z,f_ rfl] at hv hc;exact gP hc k1 k2 hv h k3 k4 (ck F6.1.1 args X.env) (dM Z G (es:=es) pos X.env F6.2)
  | false=>rw[z,d_ o_] at hv hc;exact iB hc k1 k2 hv h k3 k4 (ck F6.1.1 args X.env) (dM Z G (es:=es) pos X.env F6.2)
noncomputable def R0:Kd->V
 | .str=>.ty "str" | .int=>.ty "int" | .bool=>.ty "bool" | .list=>.ty "list" | .tuple=>.ty "tuple"
theorem oO (k:Kd):RelV (R0 k) (rL k):=by cases k<;>rfl
theorem rX (k:Kd):dJ X (.builtin "isinstance") (fun xs H Q=>∃ S x d,xs=[x,R0 k]/\E6 X.K S H x d/\gV d=Θ/\Q (.bl (du k d)) H):=by
 intro pins s σ H xs us Q I r h;obtain⟨S,x,d,rfl,m,hn,q⟩:=h;obtain⟨u,w',rfl,r1,r2⟩:=vals2 r;have e:w'=rL k:=by have:=r2.abs;have h2:=(oO k).abs;cases k<;>(revert r2;intro r2;exact r2)
 subst e;exact wt I r1 m k hn q
theorem Cu (g:F7 Z CX cl xp X ex G){k:Kd}{e:Expr}{p p' pos:Pos}{va:List Nat}{fa:Ev->Res D}(hg:G.gl.contains 14=Θ)(hk:G.gl.contains (oI k)=Θ)(hn:notStar e=Θ)(ha:PE X e (RD X.K ex va fa)) :
  PE X (.Call (.Name "isinstance" p) [e,.Name (f7 k) p'] [] pos) (RD X.K ex va fun τ=>E3 (fa τ) fun x=>Fw (gV x) (.ok (.bl (du k x)))):=by
 obtain⟨k1,k2,k3,k4⟩:=eU g (show cW[14]? = Δ ("isinstance" : Str) from rfl) hg;obtain⟨j1,j2,j3,j4⟩:=eU g (Ap k) hk;have pa:PA X [e,.Name (f7 k) p'] (iz (RD X.K ex va fa) (iz (tC (R0 k)) pZ)):=cS ha (cS (vy j1 j2 (wo k) (oO k) j3 j4) dy rfl) (ck hn _ _);refine cF (iB (rX k) k1 k2 PyProof.Rows.boot_isinstance pa k3 k4 (ck hn _ _) rfl) fun σ H Q ⟨S,τ,hs,q⟩=>?_;refine cQ (.refl _) hs (E5.E3 q) fun x v H1 e1 _ m1 q1=>?_;obtain⟨gd,q1⟩:=E5.Fw q1;exact⟨nw S H,v,x,rfl,m1,gd,q1.ok _ _ e1 (.bl _)⟩
theorem E4.rev {K:Frag}{S:Ω->Prop}{H:Hp}:∀ {vs:List V}{ds:List D},E4 K S H vs ds->E4 K S H vs.reverse ds.reverse
 | [],[],_=>.nil
 | v::vs,d::ds,.cons h t=>by rw[List.reverse_cons,List.reverse_cons];exact(E4.rev t).append (.cons h .nil)
theorem Au (g:F7 Z CX cl xp X ex G){e:Expr}{p p' pos pos':Pos}{va:List Nat}{fa:Ev->Res D}(h1:G.gl.contains 4=Θ)(h2:G.gl.contains 12=Θ)(hn:notStar e=Θ)(JQ:G.cm=Θ)(ha:PE X e (RD X.K ex va fa)) :
  PE X (.Call (.Name "sorted" p) [.Call (.Name "set" p') [e] [] pos'] [] pos) (RD X.K ex va fun τ=>E3 (fa τ) oB):=by
 obtain⟨k1,k2,k3,k4⟩:=eU g (show cW[4]? = Δ ("sorted" : Str) from rfl) h1;obtain⟨j1,j2,j3,j4⟩:=eU g (show cW[12]? = Δ ("set" : Str) from rfl) h2;have cc:=qi (g.calm JQ);have cs:=kD (g.calm JQ);have i1:=gP (p:=p') (pos:=pos') cc j1 j2 (by decide +kernel) (cS ha dy (ck hn _ _)) (by decide) (by decide) (ck hn _ _) rfl;have i2:=iB (p:=p) (pos:=pos) cs k1 k2 (by decide +kernel) (cS i1 dy rfl) (by decide) (by decide) rfl rfl;refine cF i2 fun σ H Q ⟨S,τ,hs,q⟩=>?_;refine cQ (.refl _) hs (E5.E3 q) fun d v H1 e1 _ m1 q1=>?_
 induction d using zD with
 | lst o ds=>
  obtain⟨a,ys,rfl,qq,m⟩:=m1.Ga;have q2:E5 ex (match fg ds with|some ns=>Fw (decide (ns.length < 64)) (.ok (.lst Θ ((PySem.W.sortI (dd ns)).map .int)))|none=>FC) (Kk X.K S H Q):=q1;cases z:fg ds with
  | none=>rw[z] at q2;exact q2.no.elim
  | some ns=>rw[z] at q2;obtain⟨gd,q3⟩:=E5.Fw q2;have K3:ns.length < 64:=p_ gd;rw[iO z] at m;rw[m.ints] at qq;refine⟨a,ns,rfl,qq,K3,fun a' o' Nd Hz=>⟨a',o',dd ns,rfl,cy,Hz,Nat.lt_of_le_of_lt (rE ns) K3,fun l hl=>?_⟩⟩;have PR:H1 l=Φ:=(cz.upd Nd).free hl;exact q3.ok _ _ ((e1.trans (.upd Nd)).trans (.upd hl)) (.lst (.inr (e1.free PR)) (.inl cy) (E4.ofInts _))
 | _=>exact q1.no.elim
theorem Av (g:F7 Z CX cl xp X ex G){e:Expr}{p p' pos pos':Pos}{va:List Nat}{fa:Ev->Res D}(h1:G.IX 5=Θ)(h2:G.gl.contains 18=Θ)(hn:notStar e=Θ)(ha:PE X e (RD X.K ex va fa)) :
  PE X (.Call (.Name "list" p) [.Call (.Name "reversed" p') [e] [] pos'] [] pos) (RD X.K ex va fun τ=>E3 (fa τ) vZ):=by
 obtain⟨k1,k2,k3,k4⟩:=eU g (show cW[5]? = Δ ("list" : Str) from rfl) (kI h1);obtain⟨j1,j2,j3,j4⟩:=eU g (show cW[18]? = Δ ("reversed" : Str) from rfl) h2;refine cF (vN (g.calm (kJ h1)) k1 k2 j1 j2 ha fun es=>ck hn es X.env) fun σ H Q ⟨S,τ,hs,q⟩=>?_;refine cQ (.refl _) hs (E5.E3 q) fun x v H1 e1 _ m1 q1=>?_
 induction x using zD with
 | lst o ds=>obtain⟨a,ys,rfl,qq,m⟩:=m1.Ga;exact⟨a,ys,rfl,qq,fun l hl=>Kk.fit e1 q1 _ _ (.upd hl) (l5 hl m.rev)⟩
 | _=>exact q1.no.elim
theorem nN {d:D}(h:f6 d=Θ):∃ x,d=.str x:=by
 induction d using zD<;>first|exact⟨_,rfl⟩|cases h
theorem Cv (g:F7 Z CX cl xp X ex G){m:Mt}{o:Expr}{apos FJ:Pos}{vo:List Nat}{fo:Ev->Res D}{es:List IR}{a:Expr}{args:List Expr}(hn:iU o=Θ)(hl:(apos.endLine == FJ.line)=Θ)(hlen:(a::args).length < 29)(JQ:(G.cm||nK m)=Θ)
  (Gn:dg Z G es (a::args)=Θ) (ho:PE X o (RD X.K ex vo fo)) (h:PA X (a::args) (RA X.K ex (cD es) (dq cl es))) :
  PE X (.Call (.Attribute o (iQ m) apos) (a::args) [] FJ) (RD X.K ex (vo++cD es) fun τ=>E3 (fo τ) fun x=>Fw (f6 x) (E3 (dq cl es τ) fun ds=>iL m x ds)):=by
 cases es with
 | nil=>cases Gn
 | cons b es=>
  have F6:(notStar a&&Fz Z G b a&&dg Z G es args)=Θ:=Gn;simp only[g_] at F6;have star:=dM Z G (es:=es) FJ X.env F6.2;have mono:∀ σ H Q,RD X.K ex (vo++cD (b::es)) (fun τ=>E3 (fo τ) fun x=>Fw (f6 x) (E3 (dq cl (b::es) τ) fun ds=>iL m x ds)) σ H Q->UB X.K "str" (Vb X.K ex m) (RD X.K ex vo fo) (RA X.K ex (cD (b::es)) (dq cl (b::es))) σ H Q:=by rintro σ H Q ⟨S,τ,hs,q⟩;refine cQ (.refl _) hs.left (E5.E3 q) fun x v H1 e1 _ m1 q1=>?_;obtain⟨gd,q1⟩:=E5.Fw q1;obtain⟨z,rfl⟩:=nN gd;cases m1.F4;refine⟨rfl,md e1 hs.right (E5.E3 q1) fun ds vs H2 e2 GO m2 q2=>?_⟩;exact⟨nw S H,.str z,ds,.str z,m2,q2.mono fun d hd=>hd.fit e2⟩
  have IC:attributeBase o (iQ m) X.env (eval o X.env)=eval o X.env:=by
   induction o using zE with
   | Call f args Hs pos=>
    cases args with
    | nil=>
     cases Hs with
     | nil=>cases hn
     | cons _ _=>cases f<;>rfl
    | cons _ _=>cases f<;>rfl
   | _=>rfl
  have R1:(backTo FJ (Ν (a::args) X.env)).all (fun x=>!x.1)=Θ:=by rw[ck F6.1.1];show (Θ&&(backTo FJ (Ν args X.env)).all (fun x=>!x.1))=Θ;rw[Bool.true_and,U_];intro y hy;have:=List.any_eq_false.mp star y hy;simpa using this
  have HC:((backTo FJ (Ν (a::args) X.env)).all (fun x=>!x.1)&&(backToKw FJ (keywordEach [] X.env)).all (fun x=>x.1.isSome)&&decide ((a::args).length+([]:List Keyword).length+(if ([]:List Keyword).isEmpty then 0 else 1) < 30))=Θ:=by rw[R1];have:decide ((a::args).length+([]:List Keyword).length+(if ([]:List Keyword).isEmpty then 0 else 1) < 30)=Θ:=I_ (by simp at hlen ⊢;omega);rw[this];rfl
  refine cF ?_ mono;cases m with
  | join=>exact jG PySem.F.plainAttrs_str PySem.F.slot_str_join PySem.F.type_str_join (kH (ex:=ex) .join fun z=>by cases z) ho h IC HC hl (ck F6.1.1 args X.env) star
  | index=>exact jG PySem.F.plainAttrs_str PySem.F.slot_str_index PySem.F.type_str_index (kH (ex:=ex) .index fun _=>g.calm (by rw[X_] at JQ;exact JQ.elim id fun z=>by cases z)) ho h IC HC hl (ck F6.1.1 args X.env) star
  | starts=>exact jG PySem.F.plainAttrs_str PySem.F.slot_str_startswith PySem.F.type_str_startswith (kH (ex:=ex) .starts fun z=>by cases z) ho h IC HC hl (ck F6.1.1 args X.env) star
end
theorem jQ {K:Frag}{S:Ω->Prop}{H:Hp}:∀ (vs:List V) (ds:List D),vs.length=ds.length->(∀ (k:Nat) v d,vs[k]? = Δ v->ds[k]? = Δ d->E6 K S H v d)->E4 K S H vs ds
 | [],[],_,_=>.nil
 | v::vs,d::ds,hl,h=>.cons (h 0 v d rfl rfl) (jQ vs ds (by simpa using hl) fun k v d h1 h2=>h (k+1) v d (by rw[aaJ];exact h1) (by rw[aaJ];exact h2))
 | [],_::_,hl,_=>by cases hl
 | _::_,[],hl,_=>by cases hl
section
variable {Z:Sg}{CX:G1}{cl:Nat->List D->Res D}{xp:XK->Hp->Str->Prop}{X:Cx}{ex:Str->Prop}{G:Gm}
theorem oP {K:Frag}{S:Ω->Prop}{H:Hp}{v:V}{x:D}{ds:List D}(h:E6 K S H v x)(e:jw x=.ok ds):∃ k a xs,v=.ref a/\Je K H k a xs/\E4 K S H xs ds:=by
 induction x using zD with
 | lst o es=>cases e;obtain⟨a,xs,rfl,q,m⟩:=h.Ga;exact⟨.l,a,xs,rfl,q,m⟩
 | tup es=>cases e;obtain⟨a,xs,rfl,q,m⟩:=h.Gz;exact⟨.t,a,xs,rfl,q,m⟩
 | _=>cases e
theorem Aw (g:F7 Z CX cl xp X ex G){a b:Expr}{p p' pos pos':Pos}{va vb:List Nat}{fa fb:Ev->Res D}(h1:G.IX 5=Θ)(h2:G.gl.contains 17=Θ)(hn:notStar a=Θ)(HQ:notStar b=Θ)(ha:PE X a (RD X.K ex va fa))(hb:PE X b (RD X.K ex vb fb)) :
  PE X (.Call (.Name "list" p) [.Call (.Name "zip" p') [a,b] [] pos'] [] pos) (RD X.K ex (va++vb) fun τ=>E3 (fa τ) fun x=>E3 (fb τ) fun y=>oA x y):=by
 obtain⟨k1,k2,k3,k4⟩:=eU g (show cW[5]? = Δ ("list" : Str) from rfl) (kI h1);obtain⟨j1,j2,j3,j4⟩:=eU g (show cW[17]? = Δ ("zip" : Str) from rfl) h2;have s2:Ν [b] X.env=[(Ξ,eval b X.env)]:=ck HQ [] X.env;refine cF (vP (g.calm (kJ h1)) k1 k2 j1 j2 (cS ha (cS hb dy (ck HQ _ _)) (ck hn _ _)) (by rw[ck hn,s2]) s2) fun σ H Q ⟨S,τ,hs,q⟩=>?_;refine cQ (.refl _) hs.left (E5.E3 q) fun x v H1 e1 _ m1 q1=>?_;refine cQ e1 hs.right (E5.E3 q1) fun y w H2 e2 GO m2 q2=>?_;have q3:=E5.E3 (show E5 ex (E3 (iN x y) fun ds=>Fw (dh ds.length) (.ok (D.lst Θ ds))) (Kk X.K S H Q) from q2);cases hx:jw x with
 | error er=>
  induction x using zD<;>first|(cases hx;done)|(rw[show iN _ y=FC from rfl] at q3;exact q3.no.elim)
 | ok ds=>
  cases hy:jw y with
  | error er=>
   have:iN x y=FC:=by
    unfold iN;rw[hx,hy]
    induction y using zD<;>first|(cases hy;done)|(cases hy;rfl)
   rw[this] at q3;exact q3.no.elim
  | ok es=>
   have hz:iN x y=.ok (eE ds es):=by unfold iN;rw[hx,hy];rfl
   rw[hz] at q3;obtain⟨gd,q4⟩:=E5.Fw q3.ok;obtain⟨ka,l,xs,rfl,g1,n1⟩:=oP (m1.later GO) hx;obtain⟨kb,m,ys,rfl,g2,n2⟩:=oP m2 hy;have lz:(eE ds es).length=min ds.length es.length:=by unfold eE;rw[List.length_zipWith]
   refine⟨ka,kb,l,m,xs,ys,rfl,g1,g2,by rw[n1.length,n2.length,<- lz];exact de gd,fun Ts A H' e hA KI hlen hT=>?_⟩;refine q4.ok (.ref A) H' (e2.trans e) (.lst (.inr (e2.free hA)) (.inl KI) (jQ _ _ (by rw[j_,hlen,lz,n1.length,n2.length]) fun k v d hv hd=>?_));rw[B_] at hv;obtain⟨T,ht,rfl⟩:=aaI.mp hv;obtain⟨x',y',GI,Jw,Mf⟩:=hT k T ht;obtain⟨d1,X6,r1⟩:=n1.Jg GI;obtain⟨d2,hd2,r2⟩:=n2.Jg Jw;have:(eE ds es)[k]? = Δ (.tup [d1,d2]):=by unfold eE;rw[List.getElem?_zipWith,X6,hd2]
   rw[this] at hd;cases hd;exact .tup (.inl (.inl Mf)) (.cons (r1.mono (fun _ z=>z) e) (.cons (r2.mono (fun _ z=>z) e) .nil))
end
section
variable {prog:Ε}{w:Β}{A:Ι}{E:Ψ->Α->Prop}{s:Α}
theorem iX {it t:Ω}{items:Array Ψ}(Hg:t≠it):∀ (n i:Nat) (s:Α) (Q:List Ψ->Α->Prop),s.heap.IsListIter it t i->s.heap.IsList t items->i+n<=items.size->
  (∀ h',h'.IsListIter it t (i+n)->Heap.SameBut it s.heap h'->Q ((items.toList.drop i).take n) {s with heap:=h'})->Κ (Μ prog w) A (draw (.ref it) n) Q E s
 | 0,i,s,Q,hit,_,_,hQ=>by show Κ _ _ (pure []) Q E s;exact e_ (by simpa using hQ s.heap hit (Heap.SameBut.refl ..))
 | n+1,i,s,Q,hit,ht,hle,hQ=>by
  have F0:i < items.size:=by omega
  show Κ _ _ (pyNext (.ref it) >>= _) Q E s;refine a_ (wpAny_pyNext_list_item hit ht (x:=items[i]) (by simp[F0]) fun JL Jj IK=>?_);refine a_ (K_ (iX Hg n (i+1) _ _ Jj (ht.extBut IK.extBut Hg) (by omega) fun Mu Mv Oj=>e_ ?_));have hd:items.toList.drop i=items[i]::items.toList.drop (i+1):=by simp[List.drop_eq_getElem_cons,F0]
  have:=hQ Mu (by rw[show i+(n+1)=i+1+n by omega];exact Mv) (IK.trans Oj);rw[hd,List.take_succ_cons] at this;exact this
theorem g6 {t:Ω}{items:Array Ψ}{Q:List Ψ->Α->Prop}(hh:A.handled=Φ)(ht:s.heap.IsList t items)
  (hQ:∀ h',Heap.ExtBut s.heap.objs.size s.heap h'->Q items.toList {s with heap:=h'}):Κ (Μ prog w) A (unpackItems (.ref t) items.size Φ) Q E s:=by
 have F0:t≠s.heap.objs.size:=by obtain⟨o,ho,_⟩:=ht;exact m_ (i_ ho)
 have push:∀ o,(s.heap.push o).IsList t items:=fun o=>by obtain⟨ob,e,c,n,d⟩:=ht;exact⟨ob,l_ _ e,c,n,d⟩
 unfold unpackItems;refine a_ ?_
 ·unfold notIterableAtAll;refine a_ (wpAny_specialOf ht.typeIs slot_list_iter.lookup ?_);refine e_ ?_;simp only[aas,if_false];refine a_ (K_ (aau ht ?_));refine a_ (K_ (iX F0 items.size 0 _ _ ⟨_,u_ _ rfl,rfl,rfl⟩ (push _) (by omega) fun JL Jj IK=>?_));have Jc:List.take items.size (List.drop 0 items.toList)=items.toList:=by rw[List.drop_zero];exact List.take_of_length_le (by simp)
  rw[Jc];rw[d_ (by simp)];have Ol:JL.IsList t items:=(push _).extBut IK.extBut F0;refine a_ (K_ (wpAny_pyNext_list_end hh Jj Ol (by simp) fun Mu Om=>?_));simp only[Option.isSome_none,aas,if_false];refine e_ (hQ Mu fun b o hb e=>Om b o hb (IK.extBut b o hb (l_ _ e)))
end
def Cw (K:Frag)(n:Nat)(t:Lr):TG:=fun v σ H Q=>∃ a xs,v=.ref a/\(G0 K H a xs∨Gu K H a xs)/\xs.length=n/\t xs σ H Q
theorem Ax {X:Cx}{pos:Pos}{es:List Expr}{k:Nat}{t:Lr}{n:Nat}(hc:X.calm=Θ)(h:ND X es t)(hn:(assignEach es X.env).length=n)(Gn:(assignEach es X.env).findIdx? (·.1)=Φ):PG X (.Tuple es k pos) (Cw X.K n t):=by
 intro pins s σ H v u Q I r hw;obtain⟨a,xs,e1,hq,hl,hw⟩:=hw;subst e1;cases r;rcases hq with hq|hq
 ·obtain⟨its,rv,ht,hz⟩:=I.tuple hq;refine assign_Tuple_tuple (I.ok.hd hc) ht (by simp[hn,<- hl,rv.length]) Gn fun h' hx=>?_;have I1:Inv X pins σ H {s with heap:=h'}:=I.kept (t':=s.toks) fun b o e=>hx b o (m_ (i_ e)) e;exact h pins _ σ H xs _ Q I1 (by simpa using rv) hw
 ·obtain⟨its,rv,pl,hz⟩:=I.list hq;rw[assign_Tuple];refine a_ (wpAny_standAt ?_);unfold unpack;have hlen:(assignEach es X.env).length=its.toArray.size:=by simp[hn,<- hl,rv.length]
  rw[hlen,Gn];refine a_ (K_ (g6 (I.ok.hd hc) pl.isList fun h' hx=>?_));have I1:Inv X pins σ H {s with heap:=h'}:=I.kept (t':=s.toks) fun b o e=>hx b o (m_ (i_ e)) e;exact h pins _ σ H xs _ Q I1 (by simpa using rv) hw
mutual
def gT (K:Frag):Tg->TG
 | .nm i=>qF i
 | .tp ts=>Cw K ts.length (Oo K ts)
def Oo (K:Frag):List Tg->Lr
 | []=>BO
 | t::ts=>xD (gT K t) (Oo K ts)
end
theorem gD {e:Expr}(h:notStar e=Θ)(es:List Expr)(env:Env):assignEach (e::es) env=(Ξ,assign e env)::assignEach es env:=by
 induction e using zE<;>first|rfl|cases h
section
variable {Z:Sg}{CX:G1}{cl:Nat->List D->Res D}{xp:XK->Hp->Str->Prop}{X:Cx}{ex:Str->Prop}{G:Gm}
theorem iY (G:Gm):∀ {ts:List Tg}{es:List Expr} (env:Env),fW G ts es=Θ->(assignEach es env).length=ts.length/\(assignEach es env).findIdx? (·.1)=Φ
 | [],[],_,_=>⟨rfl,rfl⟩
 | t::ts,e::es,env,h=>by have h':(notStar e&&dI G t e&&fW G ts es)=Θ:=h;simp only[g_] at h';obtain⟨h1,h2⟩:=iY G (ts:=ts) (es:=es) env h'.2;rw[gD h'.1.1];refine⟨by rw[List.length_cons,h1,List.length_cons],?_⟩;rw[List.findIdx?_cons,d_ (by simp),h2];rfl
 | [],_::_,_,h=>by cases h
 | _::_,[],_,h=>by cases h
mutual
theorem LM (g:F7 Z CX cl xp X ex G):∀ (t:Tg) (e:Expr),dI G t e=Θ->PG X e (gT X.K t)
 | .nm i,e,h=>by
  induction e using zE with
  | Name x pos=>
   have h':(G.N[i]? == Δ x&&(G.kd[i]? == Δ .local||(G.df&&G.kd[i]? == Δ .cell)))=Θ:=(D_.mp h).1;rw[g_,X_,g_] at h';obtain⟨h1,h2⟩:=h';have hx:G.N[i]? = Δ x:=h_ h1;have hk:=g.kd i x hx;refine vA (by rw[g.N];exact g.Gj) (by rw[g.N];exact hx) ?_ ?_
   ·rcases h2 with h2|h2
    ·exact .inl (hk.trans (h_ h2))
    ·exact .inr (hk.trans (h_ h2.2))
   ·rcases h2 with h2|h2
    ·exact .inr (hk.trans (h_ h2))
    ·exact .inl (g.df h2.1 x)
  | _=>cases h
 | .tp ts,e,h=>by
  induction e using zE with
  | Tuple es k pos=>have h0:(G.cm&&fW G ts es)=Θ:=h;rw[g_] at h0;have h':=h0.2;obtain⟨h1,h2⟩:=iY G X.env h';exact Ax (g.calm h0.1) (Cy g ts es h') h1 h2
  | _=>cases h
theorem Cy (g:F7 Z CX cl xp X ex G):∀ (ts:List Tg) (es:List Expr),fW G ts es=Θ->ND X es (Oo X.K ts)
 | [],[],_=>vB
 | t::ts,e::es,h=>by have h':(notStar e&&dI G t e&&fW G ts es)=Θ:=h;simp only[g_] at h';exact qG (LM g t e h'.1.2) (Cy g ts es h'.2) (by rw[gD h'.1.1];rfl)
 | [],_::_,h=>by cases h
 | _::_,[],h=>by cases h
end
end
mutual
theorem gE {G:Gm}:∀ (t:Tg) (e:Expr),dI G t e=Θ->∀ j∈Hw t,G.io≠Δ j
 | .nm i,e,h,j,hj=>by
  induction e using zE with
  | Name x pos=>
   have h':=(D_.mp (show ((G.N[i]? == Δ x&&(G.kd[i]? == Δ .local||(G.df&&G.kd[i]? == Δ .cell)))&&G.io != Δ i)=Θ from h)).2;have e:j=i:=by simpa[Hw] using hj
   subst e;simpa using h'
  | _=>cases h
 | .tp ts,e,h,j,hj=>by
  induction e using zE with
  | Tuple es k pos=>have h0:(G.cm&&fW G ts es)=Θ:=h;exact me ts es (D_.mp h0).2 j hj
  | _=>cases h
theorem me {G:Gm}:∀ (ts:List Tg) (es:List Expr),fW G ts es=Θ->∀ j∈l8 ts,G.io≠Δ j
 | [],_,_,j,hj=>by cases hj
 | t::ts,[],h,_,_=>by cases h
 | t::ts,e::es,h,j,hj=>by
  have h':(notStar e&&dI G t e&&fW G ts es)=Θ:=h;simp only[g_] at h';rcases x_.mp (show j∈Hw t++l8 ts from hj) with hj|hj
  ·exact gE t e h'.1.2 j hj
  ·exact me ts es h'.2 j hj
end
def Nf (K:Frag)(S:Ω->Prop)(H:Hp)(σ:St)(τ:Ev):Prop:=τ.length=σ.length/\∀ i d,cu τ i=Δ d->∃ v,σ[i]? = Δ (Δ v)/\E6 K S H v d
theorem g7 {τ:Ev}{i j:Nat}{o:Option D}:cu (τ.set i o) j=if i=j/\i < τ.length then o else cu τ j:=by
 unfold cu;rw[List.getElem?_set];by_cases h:i=j
 ·subst h;by_cases h2:i < τ.length
  ·simp[h2]
  ·rw[f_ rfl,d_ h2,d_ (by omega)];rw[List.getElem?_eq_none (by omega)]
 ·rw[d_ h,d_ (by omega)]
section
variable {K:Frag}{S:Ω->Prop}{H:Hp}{ex:Str->Prop}
mutual
theorem oQ:∀ (t:Tg) {σ:St}{τ:Ev}{v:V}{d:D}{Kt:Ev->Prop}{Q:St->Hp->Prop},Nf K S H σ τ->E6 K S H v d->E5 ex (dH t d τ) Kt->
  (∀ τ' FI,Nf K S H FI τ'->FI.length=σ.length->(∀ j,j∉Hw t->FI[j]? = σ[j]?)->Kt τ'->Q FI H)->gT K t v σ H Q
 | .nm i,σ,τ,v,d,Kt,Q,hs,m,h,k=>by
  refine k (τ.set i (Δ d)) (σ.set i (Δ v)) ⟨by rw[List.length_set,List.length_set,hs.1],fun j e z=>?_⟩ (by rw[List.length_set]) (fun j hj=>?_) h.ok
  ·rw[g7] at z;by_cases q:i=j/\i < τ.length
   ·rw[f_ q] at z;obtain⟨rfl,q⟩:=q;cases z;exact⟨v,by rw[List.getElem?_set_self (by rw[<- hs.1];exact q)],m⟩
   ·rw[d_ q] at z;obtain⟨w,h1,h2⟩:=hs.2 j e z;refine⟨w,?_,h2⟩;by_cases q2:i=j
    ·subst q2;exfalso;have:i < σ.length:=by have:=(v_.mp h1).1;exact this
     exact q ⟨rfl,by rw[hs.1];exact this⟩
    ·rw[aax q2];exact h1
  ·have:i≠j:=fun z=>hj (by subst z;simp[Hw]);rw[aax this]
 | .tp ts,σ,τ,v,d,Kt,Q,hs,m,h,k=>by
  induction d using zD with
  | tup ds=>obtain⟨a,xs,rfl,q,ms⟩:=m.Gz;obtain⟨g,h⟩:=E5.Fw h;have g':ds.length=ts.length:=p_ g;exact⟨a,xs,rfl,.inl q,by rw[ms.length,g'],iZ ts hs ms h k⟩
  | lst o ds=>obtain⟨a,xs,rfl,q,ms⟩:=m.Ga;obtain⟨g,h⟩:=E5.Fw h;have g':ds.length=ts.length:=p_ g;exact⟨a,xs,rfl,.inr q,by rw[ms.length,g'],iZ ts hs ms h k⟩
  | _=>exact h.no.elim
theorem iZ:∀ (ts:List Tg) {σ:St}{τ:Ev}{vs:List V}{ds:List D}{Kt:Ev->Prop}{Q:St->Hp->Prop},Nf K S H σ τ->E4 K S H vs ds->E5 ex (gq ts ds τ) Kt->
  (∀ τ' FI,Nf K S H FI τ'->FI.length=σ.length->(∀ j,j∉l8 ts->FI[j]? = σ[j]?)->Kt τ'->Q FI H)->Oo K ts vs σ H Q
 | [],σ,τ,vs,ds,Kt,Q,hs,m,h,k=>by
  cases m with
  | nil=>exact⟨rfl,k τ σ hs rfl (fun _ _=>rfl) h.ok⟩
  | cons _ _=>exact h.no.elim
 | t::ts,σ,τ,vs,ds,Kt,Q,hs,m,h,k=>by
  cases m with
  | nil=>exact h.no.elim
  | cons m1 m2=>
   refine⟨_,_,rfl,oQ t hs m1 (E5.E3 h) fun τ' FI PX hn hk h'=>?_⟩;refine iZ ts PX m2 h' fun Mw Mx R3 HQ K2 N4=>k Mw Mx R3 (HQ.trans hn) (fun j hj=>?_) N4;have PY:j∉Hw t/\j∉l8 ts:=by constructor<;>(intro z;apply hj;simp[l8,z])
   rw[K2 j PY.2,hk j PY.1]
end
end
section
variable {K:Frag}{S S':Ω->Prop}{H H':Hp}{J:It}{ds:List D}
theorem WS.step (hl:∀ a (u:LD),S a->Rd H a u.o->S' a/\Rd H' a u.o)(ht:∀ a xs,GF K H a xs->GF K H' a xs){k:Zp.Kq}{a:Ω}{xs:List V}(h:WS K S H k a xs):WS K S' H' k a xs:=by
 cases k with
 | l=>exact h.elim (fun z=>.inl (hl _ (.l _) z.1 z.2)) fun z=>.inr z
 | t=>exact ht _ (.inl _) h
theorem mf (ds:List D):(iM ds).length=ds.length:=by unfold iM;rw[List.length_zipWith,aam,Nat.min_self]
theorem mh (ds es:List D):(eE ds es).length=min ds.length es.length:=by unfold eE;rw[List.length_zipWith]
theorem Hr.step (hl:∀ a (u:LD),S a->Rd H a u.o->S' a/\Rd H' a u.o)(ht:∀ a xs,GF K H a xs->GF K H' a xs)(h:Hr K S H J ds):Hr K S' H' J ds:=by
 cases h with
 | lst h0 h1 h2=>exact .lst (hl _ (.l _) h0 h1).1 (hl _ (.l _) h0 h1).2 (h2.step hl ht)
 | lstK h1 h2=>exact .lstK h1 (h2.step hl ht)
 | tup h1 h2=>exact .tup (ht _ (.inl _) h1) (h2.step hl ht)
 | JY lo hi=>exact .JY lo hi
 | str x=>exact .str x
 | zip h1 h2 h3 h4=>exact .zip (h1.step hl ht) (h2.step hl ht) (h3.step hl ht) (h4.step hl ht)
 | HN h1 h2=>exact .HN (h1.step hl ht) (h2.step hl ht)
 | rev h1 h2=>exact .rev (h1.step hl ht) (h2.step hl ht)
theorem Hr.mono (h:Hr K S H J ds)(hS:∀ a,S a->S' a)(e:cz H H'):Hr K S' H' J ds:=h.step (fun a xs s r=>⟨hS a s,e.rd r⟩) fun a xs s=>e.HL s
theorem i3 (x:Str):(dF x).length=x.cps.size:=by unfold dF;simp
theorem dU (a b:Int):(cO a b).length=(b - a).toNat:=by unfold cO;simp
theorem Hr.stop (h:Hr K S H J ds){i:Nat}(hi:ds.length=i):J.stop i H:=by
 cases h with
 | lst h0 h1 h2=>exact⟨_,.inl h1,by rw[h2.length];omega⟩
 | lstK h1 h2=>exact⟨_,h1.sq,by rw[h2.length];omega⟩
 | tup h1 h2=>exact⟨_,h1,by rw[h2.length];omega⟩
 | JY lo IG=>rw[dU] at hi;exact Nat.le_of_eq hi
 | str x=>rw[i3] at hi;exact Nat.le_of_eq hi
 | zip h1 h2 h3 h4=>exact⟨_,_,h1.sq,h2.sq,by rw[mh] at hi;rw[h3.length,h4.length];omega⟩
 | HN h1 h2=>exact⟨_,h1.sq,by rw[mf] at hi;rw[h2.length];omega⟩
 | rev h1 h2=>show i=_;rw[h2.length,<- hi,List.length_reverse]
theorem Hr.go (h:Hr K S H J ds){i:Nat}(hi:i < ds.length):J.go i H:=by
 cases h with
 | lst h0 h1 h2=>obtain⟨v,hv,_⟩:=h2.get (i:=i) (d:=ds[i]) (by simp[hi]);exact⟨_,v,.inl h1,hv⟩
 | lstK h1 h2=>obtain⟨v,hv,_⟩:=h2.get (i:=i) (d:=ds[i]) (by simp[hi]);exact⟨_,v,h1.sq,hv⟩
 | tup h1 h2=>obtain⟨v,hv,_⟩:=h2.get (i:=i) (d:=ds[i]) (by simp[hi]);exact⟨_,v,h1,hv⟩
 | JY lo IG=>rw[dU] at hi;exact hi
 | str x=>rw[i3] at hi;exact hi
 | zip h1 h2 h3 h4=>
  rename_i ds' es'
  rw[mh] at hi;obtain⟨v,hv,_⟩:=h3.get (i:=i) (d:=ds'[i]) (by rw[y_]);obtain⟨u,hu,_⟩:=h4.get (i:=i) (d:=es'[i]) (by rw[y_]);exact⟨_,_,v,u,h1.sq,h2.sq,hv,hu⟩
 | HN h1 h2=>
  rename_i ds'
  rw[mf] at hi;obtain⟨v,hv,_⟩:=h2.get (i:=i) (d:=ds'[i]) (by rw[y_]);exact⟨_,v,h1.sq,hv⟩
 | rev h1 h2=>exact⟨_,h1.sq,rfl,by rw[List.length_reverse] at hi;rw[h2.length];exact hi⟩
theorem Hr.Kz (h:Hr K S H J ds){i:Nat}{x:V}{H2:Hp}(y:J.Kz i H x H2){d:D}(hd:ds[i]? = Δ d):cz H H2/\E6 K S H2 x d:=by
 have fin:∀ {xs:List V},E4 K S H xs ds->xs[i]? = Δ x->E6 K S H x d:=fun m e=>by obtain⟨d',e',m'⟩:=m.Jg e;rw[hd] at e';cases e';exact m'
 cases h with
 | lst h0 h1 h2=>obtain⟨e,y⟩:=y;subst e;exact⟨.refl _,fin h2 (y _ (.inl h1))⟩
 | lstK h1 h2=>obtain⟨e,y⟩:=y;subst e;exact⟨.refl _,fin h2 (y _ h1.sq)⟩
 | tup h1 h2=>obtain⟨e,y⟩:=y;subst e;exact⟨.refl _,fin h2 (y _ h1)⟩
 | zip h1 h2 h3 h4=>obtain⟨T,a,b,e1,hT,e2,hy⟩:=y;subst e1 e2;obtain⟨y1,y2⟩:=hy _ _ h1.sq h2.sq;obtain⟨d1,g1,m1⟩:=h3.Jg y1;obtain⟨d2,g2,m2⟩:=h4.Jg y2;unfold eE at hd;rw[List.getElem?_zipWith,g1,g2] at hd;cases hd;have e:cz H (upd H T (.tup [a,b])):=.upd hT;exact⟨e,.tup (G0.of cy) (.cons (m1.mono (fun _ z=>z) e) (.cons (m2.mono (fun _ z=>z) e) .nil))⟩
 | rev h1 h2=>
  rename_i l xs ds'
  obtain⟨e,y⟩:=y;subst e;have y1:=y _ h1.sq rfl;obtain⟨d1,g1,m1⟩:=h2.Jg y1;have F0:=(v_.mp hd).1;rw[List.length_reverse] at F0;rw[List.getElem?_reverse F0,<- h2.length,g1] at hd;cases hd;exact⟨.refl _,m1⟩
 | HN h1 h2=>obtain⟨T,a,e1,hT,e2,hy⟩:=y;subst e1 e2;have y1:=hy _ h1.sq;obtain⟨d1,g1,m1⟩:=h2.Jg y1;unfold iM at hd;have F0:=(v_.mp g1).1;rw[List.getElem?_zipWith,g1,List.getElem?_range F0] at hd;cases hd;have e:cz H (upd H T (.tup [.int i,a])):=.upd hT;exact⟨e,.tup (G0.of cy) (.cons (.int _) (.cons (m1.mono (fun _ z=>z) e) .nil))⟩
 | JY lo IG=>
  obtain⟨e1,e2⟩:=y;subst e1;refine⟨.refl _,?_⟩;subst e2;unfold cO at hd;rw[B_] at hd;have hi:i < (IG - lo).toNat:=by
   have:=(aaI.mp hd)
   obtain⟨z,h1,_⟩:=this;have:=(v_.mp h1).1;simpa using this
  rw[List.getElem?_range hi] at hd;cases hd;exact .int _
 | str x=>
  obtain⟨e1,c,h1,e2⟩:=y;subst e1;refine⟨.refl _,?_⟩;subst e2;unfold dF at hd;rw[B_] at hd;have h2:x.cps.toList[i]? = Δ c:=by simpa using h1
  rw[h2] at hd;cases hd;exact .str _
end
section
variable {Z:Sg}{CX:G1}{cl:Nat->List D->Res D}{xp:XK->Hp->Str->Prop}{X:Cx}{ex:Str->Prop}{G:Gm}{K:Frag}{S:Ω->Prop}{H H1:Hp}{σ:St}{τ:Ev}
theorem Ay {is:List Nat}{f:Ev->Res (List D)}{Kt:List D->Prop}{R:It->Hp->Prop}(e:cz H H1)(hs:Slots K S H σ τ is)(h:E5 ex (f τ) Kt)(k:∀ ds J H2,cz H H2->cz H1 H2->Hr K (nw S H) H2 J ds->Kt ds->R J H2):RI K ex is f σ H1 R:=
 ⟨nw S H,τ,hs.go e,h.mono fun x hx J H2 e2 m=>k x J H2 (e.trans e2) e2 (m.mono (jP e) (.refl _)) hx⟩
theorem oR {tg:Expr}{pins:List (Ω×Obj)}{s:Α}{a:Ω}{xs:List V}{R:It->Hp->Prop}(I:Inv X pins σ H s)(hq:Gu X.K H a xs)(q:R (Py X.K a) H):Κ (Μ X.prog X.w) X.A (pyIter (.ref a)) (MY X pins σ tg R) X.xe s:=by
 obtain⟨its,rv,p,hz⟩:=I.list hq;refine aau p.isList ?_;refine⟨s.heap.objs.size,[s.heap.objs.size],_,_,H,rfl,I.kept (t':=s.toks) fun b o e=>l_ _ e,pV a _,⟨_,u_ _ rfl,rfl,rfl⟩,fun b hb=>?_,q⟩;have e:b=s.heap.objs.size:=by simpa using hb
 subst e;exact I.Ja (n_ _) (I.FN.fresh (n_ _))
theorem rY {tg:Expr}{pins:List (Ω×Obj)}{s:Α}{a:Ω}{xs:List V}{R:It->Hp->Prop}(I:Inv X pins σ H s)(hq:G0 X.K H a xs)(q:R (QN X.K a) H):Κ (Μ X.prog X.w) X.A (pyIter (.ref a)) (MY X pins σ tg R) X.xe s:=by
 obtain⟨its,rv,p,hz⟩:=I.tuple hq;refine wpAny_pyIter_tuple (show s.heap.IsTuple a its.toArray from p) ?_;refine⟨s.heap.objs.size,[s.heap.objs.size],_,_,H,rfl,I.kept (t':=s.toks) fun b o e=>l_ _ e,mY a _,⟨_,u_ _ rfl,rfl,rfl⟩,fun b hb=>?_,q⟩;have e:b=s.heap.objs.size:=by simpa using hb
 subst e;exact I.Ja (n_ _) (I.FN.fresh (n_ _))
theorem Cz {tg e:Expr}{va:List Nat}{fa:Ev->Res D}(ha:PE X e (RD X.K ex va fa)):PI X tg e (RI X.K ex va fun τ=>E3 (fa τ) fH):=by
 intro pins s σ H R I h;obtain⟨S,τ,hs,q⟩:=h;refine FP (ha pins s σ H (fun v H'=>∃ d,cz H H'/\E6 X.K (nw S H) H' v d/\_) I (cQ (.refl _) hs (E5.E3 q) fun x v H1 e1 _ m1 q1=>⟨x,e1,m1,q1⟩)) fun v s1 ⟨x,H1,I1,r1,d,e1,m1,q1⟩=>?_
 induction d using zD with
 | lst o ds=>
  cases m1 with
  | lst h0 h1 h2=>cases r1;exact oR I1 (.inl h1) (q1.ok _ _ e1 (.lst h0 h1 h2))
  | lstK h1 h2=>cases r1;exact oR I1 h1.sq (q1.ok _ _ e1 (.lstK h1 h2))
 | tup ds=>obtain⟨a,xs,rfl,h1,h2⟩:=m1.Gz;cases r1;exact rY I1 h1 (q1.ok _ _ e1 (.tup h1 h2))
 | str z=>cases m1.F4;obtain⟨t,rfl⟩:=r1;obtain⟨_,q1⟩:=E5.Fw q1;exact Ao I1 (q1.ok _ _ e1 (.str z))
 | _=>exact q1.no.elim
theorem Az (g:F7 Z CX cl xp X ex G){tg e:Expr}{p pos:Pos}{va:List Nat}{fa:Ev->Res D}(hg:G.gl.contains 15=Θ)(hn:notStar e=Θ)(ha:PE X e (RD X.K ex va fa)) :
  PI X tg (.Call (.Name "range" p) [e] [] pos) (RI X.K ex va fun τ=>E3 (fa τ) fun|.int i=>Fw (hW i) (.ok (cO 0 i))|_=>FC):=by
 obtain⟨k1,k2,_,_⟩:=eU g (show cW[15]? = Δ ("range" : Str) from rfl) hg;refine kq (jB k1 k2 (cS ha dy (ck hn _ _)) (ck hn _ _)) fun σ H Q ⟨S,τ,hs,q⟩=>?_;refine cQ (.refl _) hs (E5.E3 q) fun x v H1 e1 _ m1 q1=>?_
 induction x using zD with
 | int i=>cases m1.FK;obtain⟨gd,q1⟩:=E5.Fw q1;have KJ : -(2 ^ 62)<=i/\i < 2 ^ 62:=p_ gd;refine⟨i,rfl,KJ.1,KJ.2,?_⟩;have:=q1.ok _ _ e1 (.JY 0 i);rw[Int.sub_zero] at this;exact this
 | _=>exact q1.no.elim
theorem CA {a:Ω}{v:V}{d:D}{ds:List D}(m:E6 K S H v d)(h:jw d=.ok ds):∃ k a xs,v=.ref a/\WS K S H k a xs/\E4 K S H xs ds:=by
 induction d using zD with
 | lst o es=>
  cases h;cases m with
  | lst h0 h1 h2=>exact⟨.l,_,_,rfl,.inl ⟨h0,h1⟩,h2⟩
  | lstK h1 h2=>exact⟨.l,_,_,rfl,.inr h1,h2⟩
 | tup es=>cases h;obtain⟨a,xs,rfl,h1,h2⟩:=m.Gz;exact⟨.t,a,xs,rfl,h1,h2⟩
 | _=>cases h
theorem CB (g:F7 Z CX cl xp X ex G){es:List Expr}{c:Nat}{tp:Pos}{e e':Expr}{p pos:Pos}{va vb:List Nat}{fa fb:Ev->Res D}(hg:G.gl.contains 17=Θ)(hn:notStar e=Θ)(HQ:notStar e'=Θ)(ha:PE X e (RD X.K ex va fa))(hb:PE X e' (RD X.K ex vb fb)) :
  PI X (.Tuple es c tp) (.Call (.Name "zip" p) [e,e'] [] pos) (RI X.K ex (va++vb) fun τ=>E3 (fa τ) fun x=>E3 (fb τ) fun y=>iN x y):=by
 obtain⟨k1,k2,_,_⟩:=eU g (show cW[17]? = Δ ("zip" : Str) from rfl) hg;refine kq (Ac k1 k2 (cS ha (cS hb dy (ck HQ _ _)) (ck hn _ _)) (by rw[ck hn,ck HQ];rfl) (ck HQ _ _)) fun σ H Q ⟨S,τ,hs,q⟩=>?_;refine cQ (.refl _) hs.left (E5.E3 q) fun x v H1 e1 _ m1 q1=>?_;refine cQ e1 hs.right (E5.E3 q1) fun y w H2 e2 GO m2 q2=>?_;have q3:=E5.E3 (show E5 ex (E3 (jw x) fun ds=>E3 (jw y) fun es=>.ok (eE ds es)) _ from q2);have X7:=m1.mono (fun _ z=>z) GO;cases hx:jw x with
 | error z=>
  rw[hx] at q3
  induction x using zD<;>first|(cases hx;exact q3.no.elim)|cases hx
 | ok ds=>
  rw[hx] at q3;have q4:=E5.E3 q3.ok;cases hy:jw y with
  | error z=>
   rw[hy] at q4
   induction y using zD<;>first|(cases hy;exact q4.no.elim)|cases hy
  | ok es'=>rw[hy] at q4;obtain⟨k1,a1,xs,rfl,w1,r1⟩:=CA (a:=0) X7 hx;obtain⟨k2,a2,ys,rfl,w2,r2⟩:=CA (a:=0) m2 hy;exact⟨k1,k2,a1,a2,xs,ys,rfl,w1.sq,w2.sq,q4.ok.ok _ _ e2 (.zip w1 w2 r1 r2)⟩
theorem CC (g:F7 Z CX cl xp X ex G){es:List Expr}{c:Nat}{tp:Pos}{e:Expr}{p pos:Pos}{va:List Nat}{fa:Ev->Res D}(hg:G.gl.contains 20=Θ)(hn:notStar e=Θ)(ha:PE X e (RD X.K ex va fa)) :
  PI X (.Tuple es c tp) (.Call (.Name "enumerate" p) [e] [] pos) (RI X.K ex va fun τ=>E3 (fa τ) vY):=by
 obtain⟨k1,k2,_,_⟩:=eU g (show cW[20]? = Δ ("enumerate" : Str) from rfl) hg;refine kq (vV k1 k2 (cS ha dy (ck hn _ _)) (ck hn _ _)) fun σ H Q ⟨S,τ,hs,q⟩=>?_;refine cQ (.refl _) hs (E5.E3 q) fun x v H1 e1 _ m1 q1=>?_
 induction x using zD with
 | lst o ds=>
  cases m1 with
  | lst h0 h1 h2=>exact⟨_,_,rfl,.inl h1,(show E5 ex (.ok (iM ds)) _ from q1).ok _ _ e1 (.HN (.inl ⟨h0,h1⟩) h2)⟩
  | lstK h1 h2=>exact⟨_,_,rfl,h1.sq,(show E5 ex (.ok (iM ds)) _ from q1).ok _ _ e1 (.HN (.inr h1) h2)⟩
 | _=>exact q1.no.elim
theorem fw {env:Env}{x:Str}:∀ (names:List (Str×NameKind)),
  (names.map fun (n,k)=>if (k == Υ&&env.scope.kind == .function&&env.kindOf n == Δ .cell) then (n,NameKind.cell) else (n,k)).lookup x =
   (names.lookup x).map fun k=>if (k == Υ&&env.scope.kind == .function&&env.kindOf x == Δ .cell) then NameKind.cell else k
 | []=>rfl
 | (n,k)::r=>by
  have ih:=fw (env:=env) (x:=x) r;rw[b_];show List.lookup x ((if (k == Υ&&env.scope.kind == .function&&env.kindOf n == Δ .cell)=Θ then (n,NameKind.cell) else (n,k))::_)=_;by_cases hc:(k == Υ&&env.scope.kind == .function&&env.kindOf n == Δ .cell)=Θ
  ·rw[f_ hc,aaB,aaB];cases hx:x == n with
   | true=>have e:x=n:=h_ hx;subst e;show Δ NameKind.cell=Δ (if _ then _ else _);rw[f_ hc]
   | false=>exact ih
  ·rw[d_ hc,aaB,aaB];cases hx:x == n with
   | true=>have e:x=n:=h_ hx;subst e;show Δ k=Δ (if _ then _ else _);rw[d_ hc]
   | false=>exact ih
theorem nO {scope:Scope}{env:Env}(h:∀ y∈scope.names,y.2=.free->∃ c,env.cells.lookup y.1=Δ c) :
  ∃ GH,closureFor scope env=pure GH/\(∀ x c,GH.lookup x=Δ c->env.cells.lookup x=Δ c)/\∀ y∈scope.names,y.2=.free->∃ c,GH.lookup y.1=Δ c:=by
 have key:∀ (names:List (Str×NameKind)) (acc:List (Str×Ω)),(∀ y∈names,y.2=.free->∃ c,env.cells.lookup y.1=Δ c)->(∀ x c,acc.lookup x=Δ c->env.cells.lookup x=Δ c)->
   ∃ GH,(forIn names acc fun (p:Str×NameKind) (r:List (Str×Ω))=>(if (p.2 == Υ)=Θ then do let a <- cellOf env p.1;pure (ForInStep.yield ((p.1,a)::r)) else pure (ForInStep.yield r):Sem (ForInStep (List (Str×Ω)))))=pure GH/\(∀ x c,GH.lookup x=Δ c->env.cells.lookup x=Δ c)/\
    (∀ y∈names,y.2=.free->∃ c,GH.lookup y.1=Δ c)/\∀ x c,acc.lookup x=Δ c->∃ c',GH.lookup x=Δ c':=by
  intro names
  induction names with
  | nil=>intro acc _ h2;exact⟨acc,rfl,h2,fun y hy=>absurd hy (by simp),fun x c e=>⟨c,e⟩⟩
  | cons p names ih=>
   intro acc h1 h2;rw[List.forIn_cons];by_cases hp:p.2=.free
   ·obtain⟨c,hc⟩:=h1 p (by simp) hp;have hb:(p.2 == Υ)=Θ:=by rw[hp];rfl
    have X8:∀ x c',((p.1,c)::acc).lookup x=Δ c'->env.cells.lookup x=Δ c':=by
     intro x c' e;rw[aaB] at e;cases hx:x == p.1 with
     | true=>rw[hx] at e;cases e;rw[h_ hx];exact hc
     | false=>rw[hx] at e;exact h2 x c' e
    obtain⟨GH,e1,e2,e3,e4⟩:=ih ((p.1,c)::acc) (fun y hy=>h1 y (G_ _ hy)) X8;refine⟨GH,?_,e2,fun y hy hf=>?_,fun x c' e=>?_⟩
    ·rw[f_ hb];have:cellOf env p.1=pure c:=by unfold cellOf;rw[hc]
     rw[this];exact e1
    ·rcases k_.mp hy with rfl|hy
     ·exact e4 y.1 c (by rw[aaB];simp)
     ·exact e3 y hy hf
    ·rcases hx:x == p.1 with _|_
     ·exact e4 x c' (by rw[aaB,hx];exact e)
     ·exact e4 x c (by rw[aaB,hx])
   ·have hb:¬ (p.2 == Υ)=Θ:=fun z=>hp (h_ z);obtain⟨GH,e1,e2,e3,e4⟩:=ih acc (fun y hy=>h1 y (G_ _ hy)) h2;refine⟨GH,?_,e2,fun y hy hf=>?_,e4⟩
    ·rw[d_ hb];exact e1
    ·rcases k_.mp hy with rfl|hy
     ·exact absurd hf hp
     ·exact e3 y hy hf
 obtain⟨GH,e1,e2,e3,_⟩:=key scope.names [] h (fun x c e=>by cases e);refine⟨GH,?_,e2,e3⟩;unfold closureFor;exact congrArg (fun (m:Sem (List (Str×Ω)))=>m >>= fun r=>pure r) e1
structure Jk (Z:Sg)(G:Gm)(scope:Scope)(G':Gm)(fr:List Nat):Prop where
 cm:G.cm=Θ
 kind:scope.kind=.function
 tr:G'.tr=Ξ
 df:G'.df=Ξ
 kdl:G'.kd.length=G'.N.length
 Ih:∀ y∈scope.names,y.2≠.cell
 loc:∀ y∈scope.names,y.2=.local->scope.names.lookup y.1=Δ .local
 X9:∀ y∈scope.names,y.2=.free->∃ i:Nat,G.N[i]? = Δ y.1/\(G.kd[i]? = Δ .cell∨G.kd[i]? = Δ .free)
 GJ:∀ (j:Nat) (i:Nat),fr[j]? = Δ i->∃ x,G.N[i]? = Δ x/\G'.N[j]? = Δ x/\scope.names.lookup x=Δ .free/\(G.kd[i]? = Δ .cell∨G.kd[i]? = Δ .free)/\G'.kd[j]? = Δ (if (G.kd[i]? == Δ .cell)=Θ then .cell else .free)
 Oq:fr.length<=G'.N.length
 Hw:∀ (j:Nat) (x:Str),fr.length<=j->G'.N[j]? = Δ x->scope.names.lookup x=Δ .local/\G'.kd[j]? = Δ .local
 KH:∀ x∈G'.N,(x == ("__debug__" : Str))=Ξ/\(x == ("__classdict__" : Str))=Ξ
 Gj:G'.N.Nodup
 gl:∀ n∈G'.gl,∃ x,Z.name n=Δ x/\scope.names.lookup x=Δ .globalImplicit
theorem ip {Z:Sg}{G:Gm}{scope:Scope}{G':Gm}{fr:List Nat}(h:dz Z G scope G' fr=Θ):Jk Z G scope G' fr:=by
 unfold dz at h;simp only[g_] at h;obtain⟨⟨⟨⟨⟨⟨⟨⟨⟨⟨⟨⟨⟨h0,h1⟩,Ot⟩,h2⟩,h3⟩,h4⟩,h5⟩,h6⟩,h7⟩,h8⟩,h9⟩,KC⟩,Lz⟩,Md⟩:=h;rw[U_] at h4 h5 h6 h7 h9 KC Md;refine⟨h0,h_ h1,by simpa using Ot,by simpa using h2,h_ h3,fun y hy=>by simpa using h4 y hy,fun y hy e=>?_,fun y hy e=>?_,fun j i e=>?_,p_ h8,fun j x hj e=>?_,fun x hx=>by simpa using KC x hx,p_ Lz,fun n hn=>?_⟩
 ·have:=h5 y hy;rw[e] at this;simpa using this
 ·have:=h6 y hy;rw[e] at this;simp only[bne_self_eq_false,Bool.false_or,List.any_eq_true,g_,X_] at this;obtain⟨i,_,hi,hk⟩:=this;exact⟨i,h_ hi,hk.elim (fun z=>.inl (h_ z)) fun z=>.inr (h_ z)⟩
 ·have hj:j < fr.length:=(v_.mp e).1;have:=h7 j (Y_.mpr hj);simp only[e,Option.bind_some,g_,X_] at this;obtain⟨⟨⟨a1,a2⟩,a3⟩,a4⟩:=this;have Ve:=h_ a1;have PZ:=h_ a2;cases q:G'.N[j]? with
  | none=>rw[q] at PZ;cases PZ
  | some x=>rw[q] at PZ Ve;exact⟨x,Ve.symm,rfl,PZ,a3.elim (fun z=>.inl (h_ z)) fun z=>.inr (h_ z),h_ a4⟩
 ·have F0:j < G'.N.length:=(v_.mp e).1;have hm:j∈(List.range G'.N.length).drop fr.length:=by rw[List.mem_drop_iff_getElem];exact⟨j - fr.length,by simp;omega,by simp;omega⟩
  have:=h9 j hm;rw[e] at this;simp only[Option.bind_some,g_] at this;exact⟨h_ this.1,h_ this.2⟩
 ·have:=Md n hn;cases q:Z.name n with
  | none=>rw[q] at this;cases this
  | some x=>rw[q] at this;exact⟨x,rfl,h_ this⟩
noncomputable def JR (G:Gm)(fr:List Nat):List (Str×Nat):=fr.map fun i=>(G.N.getD i "",i)
theorem CF {scope:Scope}{G':Gm}{fr:List Nat}(s:Jk Z G scope G' fr):(JR G fr).map (·.1)++G'.N.drop fr.length=G'.N:=by
 have e:(JR G fr).map (·.1)=G'.N.take fr.length:=by
  apply List.ext_getElem?;intro j;unfold JR;rw[E_,B_,List.getElem?_take];cases q:fr[j]? with
  | none=>
   have:¬ j < fr.length:=by intro z;rw[y_ z] at q;cases q
   rw[d_ this];rfl
  | some i=>have:j < fr.length:=(v_.mp q).1;rw[f_ this];obtain⟨x,h1,h2,_⟩:=s.GJ j i q;rw[h2];show Δ (G.N.getD i "")=Δ x;rw[aaw,h1];rfl
 rw[e,List.take_append_drop]
theorem fN (g:F7 Z CX cl xp X ex G)(ok:X.Ok){scope:Scope}{G':Gm}{fr:List Nat}(s:Jk Z G scope G' fr):∃ GH,Hf X scope GH (JR G fr) (G'.N.drop fr.length):=by
 have Jq:∀ y∈scope.names,y.2=.free->∃ c,X.env.cells.lookup y.1=Δ c:=fun y hy hf=>by obtain⟨i,h1,h2⟩:=s.X9 y hy hf;have hk:=g.kd i y.1 h1;exact ok.has y.1 (h2.elim (fun z=>.inl (hk.trans z)) fun z=>.inr (hk.trans z))
 obtain⟨GH,e1,e2,e3⟩:=nO Jq;refine⟨GH,e1,s.kind,s.Ih,s.loc,e2,fun x hx=>?_,fun p hp=>?_⟩
 ·have hl:=fw (env:=X.env) (x:=x) scope.names;have GI:((scope.names.lookup x).map fun k=>if (k == Υ&&X.env.scope.kind == .function&&X.env.kindOf x == Δ .cell)=Θ then NameKind.cell else k)=Δ .cell∨
    ((scope.names.lookup x).map fun k=>if (k == Υ&&X.env.scope.kind == .function&&X.env.kindOf x == Δ .cell)=Θ then NameKind.cell else k)=Δ .free:=by
   rcases hx with hx|hx
   ·exact .inl (hl.symm.trans hx)
   ·exact .inr (hl.symm.trans hx)
  cases q:scope.names.lookup x with
  | none=>rw[q] at GI;rcases GI with z|z<;>cases z
  | some k=>
   have hm:(x,k)∈scope.names:=PySem.mem_of_lookup q;have hk:k=.free:=by
    rw[q] at GI;rcases GI with z|z
    ·have z':(if (k == Υ&&X.env.scope.kind == .function&&X.env.kindOf x == Δ .cell)=Θ then NameKind.cell else k)=.cell:=F_ z;split at z'
     ·rename_i hc
      simp only[g_] at hc;exact h_ hc.1.1
     ·exact absurd z' (s.Ih _ hm)
    ·have z':(if (k == Υ&&X.env.scope.kind == .function&&X.env.kindOf x == Δ .cell)=Θ then NameKind.cell else k)=.free:=F_ z;split at z'
     ·cases z'
     ·exact z'
   exact e3 (x,k) hm hk
 ·unfold JR at hp;rw[List.mem_map] at hp;obtain⟨i,hi,rfl⟩:=hp;obtain⟨j,hj⟩:=List.getElem?_of_mem hi;obtain⟨x,h1,h2,h3,h4,h5⟩:=s.GJ j i hj;have hn:G.N.getD i "" = x:=by rw[aaw,h1];rfl
  show X.N[i]? = Δ (G.N.getD i "")/\_;rw[hn];have hk:=g.kd i x h1;refine⟨by rw[g.N];exact h1,h4.elim (fun z=>.inl (hk.trans z)) fun z=>.inr (hk.trans z),?_⟩;have hl:=fw (env:=X.env) (x:=x) scope.names;rw[h3] at hl;have Rh:(relabel scope X.env).names.lookup x=Δ (if (Υ == Υ&&X.env.scope.kind == .function&&X.env.kindOf x == Δ .cell)=Θ then NameKind.cell else Υ):=hl;rw[Rh];split
  ·exact .inl rfl
  ·exact .inr rfl
theorem dv (g:F7 Z CX cl xp X ex G){scope:Scope}{G':Gm}{fr:List Nat}(s:Jk Z G scope G' fr)(GH:List (Str×Ω))(C:Ω)(s3:Α)(H3:Hp)(fp:List Ω) :
  F7 Z CX cl xp (Js X scope GH ((JR G fr).map (·.1)++G'.N.drop fr.length) C s3 H3 fp) (fun _=>False) G' where
 N:=CF s
 Gj:=s.Gj
 calm:=fun _=>g.calm s.cm
 fk:=s.kind
 un:=g.un
 own:=fun _=>PassesOwn.never
 kd:=fun j x hx=>by
  show (relabel scope X.env).names.lookup x=_;have hl:=fw (env:=X.env) (x:=x) scope.names;by_cases hj:j < fr.length
  ·obtain⟨y,h1,h2,h3,h4,h5⟩:=s.GJ j fr[j] (by simp[hj]);rw[hx] at h2;cases h2;rw[h3] at hl;rw[h5];refine hl.trans ?_;have hk:=g.kd fr[j] x h1;show Δ (if (Υ == Υ&&X.env.scope.kind == .function&&X.env.kindOf x == Δ .cell)=Θ then NameKind.cell else Υ)=_;rw[hk,g.fk];rfl
  ·obtain⟨h1,h2⟩:=s.Hw j x (by omega) hx;rw[h1] at hl;rw[h2];exact hl
 KH:=fun j x hx=>s.KH x (aag hx)
 gl:=fun n hn x e=>by obtain⟨y,h1,h2⟩:=s.gl n hn;rw[e] at h1;cases h1;show (relabel scope X.env).names.lookup x=_;have hl:=fw (env:=X.env) (x:=x) scope.names;rw[h2] at hl;exact hl
 LK:=g.LK
 df:=fun z=>by rw[s.df] at z;cases z
 blt:=g.blt
 cst:=g.cst
 fns:=fun f hf _ x hx=>g.fns f hf (.inl s.cm) x hx
 JO:=fun f hf _ x hx=>g.JO f hf s.cm x hx
 M9:=g.M9
 M':=g.M'
 Na:=g.Na
 Nb:=g.Nb
 X2:=fun _ pins σ H s c C h' e vs _ z=>z.elim
 tr:=fun z=>by rw[s.tr] at z;cases z
 Oh:=⟨fun _ _ _=>False,fun pins σ H s e s' _ h=>(g.RY _ _ _ _ _ h).elim,fun c _ z=>z.elim⟩
 KD:=g.KD
 RY:=g.RY
end
abbrev G8:Str->Prop:=fun _=>False
theorem E5.K' {α:Type}{ex:Str->Prop}{x:Res α}{k:α->Prop}(h:E5 ex (L2.K' x) k):E5 G8 x k:=by
 cases x with
 | ok a=>exact h
 | error e=>exact False.elim h
section
variable {K:Frag}{S:Ω->Prop}{H:Hp}{σ:St}{τ:Ev}{ex:Str->Prop}{cl:Nat->List D->Res D}{G G':Gm}{fr:List Nat}
noncomputable def Jl (G':Gm)(fr:List Nat)(τ:Ev):Ev:=fr.map (cu τ)++Τ (G'.N.length - fr.length) Φ
theorem wy (hl:fr.length<=G'.N.length):(Jl G' fr τ).length=G'.N.length:=by unfold Jl;rw[w_,j_,List.length_replicate];omega
theorem wz (Tg:List Str)(σ:St):(stC (JR G fr) Tg σ).length=fr.length+Tg.length:=by unfold stC JR;rw[w_,j_,j_,List.length_replicate]
theorem rZ {j:Nat}{d:D}(h:cu (Jl G' fr τ) j=Δ d):∃ i,fr[j]? = Δ i/\cu τ i=Δ d:=by
 unfold cu Jl at h;by_cases hj:j < fr.length
 ·rw[aao (by simpa using hj),B_,y_ hj] at h;exact⟨fr[j],by simp[hj],h⟩
 ·rw[aaE (by simpa using hj),List.getElem?_replicate] at h;split at h<;>cases h
theorem wA {vs:List Nat}{FI:St}(hl:fr.length<=G'.N.length)(hs:Slots K S H σ τ (fr++vs))(hn:FI.length=G'.N.length)(G9:∀ j,j < fr.length->FI[j]? = (stC (JR G fr) (G'.N.drop fr.length) σ)[j]?):Nf K S H FI (Jl G' fr τ):=by refine⟨by rw[wy hl,hn],fun j d h=>?_⟩;obtain⟨i,hi,hd⟩:=rZ h;have hj:j < fr.length:=(v_.mp hi).1;obtain⟨v,h1,h2⟩:=hs i (q_ _ (aag hi)) d hd;refine⟨v,?_,h2⟩;rw[G9 j hj];unfold stC JR;rw[aao (by simpa using hj),B_,B_,hi];show Δ ((σ[i]?).join)=Δ (Δ v);rw[h1];rfl
noncomputable def cL (cl:Nat->List D->Res D)(T:Tg)(I:List IR)(E:IR)(Ya:Ev)(x:D):Res (Option D):=E3 (dH T x Ya) fun KG=>E3 (fF cl I KG) fun r=>if r=Θ then E3 (E8 cl E KG) fun d=>.ok (Δ d) else .ok Φ
theorem fx {vs:List Nat}{fs:Ev->Res (List D)}{T:Tg}{I:List IR}{E:IR}{Kt:D->Prop}{Q:VK}(hl:fr.length<=G'.N.length)(ha:∀ i∈Hw T,fr.length<=i)(hs:Slots K S H σ τ (fr++vs))
  (q:E5 ex (E3 (fs τ) fun its=>Fw (dP its.length) (E3 (K' (cC (cL cl T I E (Jl G' fr τ)) its)) fun ds=>.ok (.lst Θ ds))) Kt)
  (fin:∀ A ys ds H',cz H H'->H A=Φ->H' A=Δ (.lst ys)->E4 K (fun a=>nw S H a/\a≠A) H' ys ds->Kt (.lst Θ ds)->Q (.ref A) H') :
  qS (RI K ex vs fs) (stC (JR G fr) (G'.N.drop fr.length)) (gT K T) (RT K G8 (cD I) (fF cl I)) (RD K G8 (vars E) (E8 cl E)) σ H Q:=by
 refine Ay (.refl _) hs.right (E5.E3 q) fun its J H1 e1 _ w1 q1 A hA=>?_;obtain⟨gd,q1⟩:=E5.Fw q1;have q2:=E5.K' (E5.E3 q1);have hsz:=gA gd;have R4:H A=Φ:=e1.free hA
 -- QO is read R5 apart from L4 new list
 have IH:∀ a,nw S H a->H1 a≠Φ->nw S H a/\a≠A:=fun a h1 h2=>⟨h1,fun z=>h2 (by rw[z];exact hA)⟩
 have w2:Hr K (fun a=>nw S H a/\a≠A) H1 J its:=w1.step (fun a xs h r=>⟨IH a h r.some,r⟩) fun a xs h=>h;have Iy:Slots K (fun a=>nw S H a/\a≠A) H1 σ τ (fr++vs):=fun i hi d z=>by obtain⟨v,h1,h2⟩:=(hs.go e1) i hi d z;exact⟨v,h1,h2.step (fun a xs h r=>⟨IH a h r.some,r⟩) fun a xs h=>h⟩
 refine⟨fun i m FI H'=>m=its.length - i/\i<=its.length/\∃ ys acc,H' A=Δ (.lst ys)/\E4 K (fun a=>nw S H a/\a≠A) H' ys acc/\ys.length<=i/\cz H1 H'/\FI.length=G'.N.length/\
   (∀ j,j < fr.length->FI[j]? = (stC (JR G fr) (G'.N.drop fr.length) σ)[j]?)/\E5 G8 (cC (cL cl T I E (Jl G' fr τ)) (its.drop i)) fun ds=>Kt (.lst Θ (acc++ds)),⟨its.length,by simp,aaa _,[],[],cy,.nil,n_ _,.upd hA,?_,fun _ _=>rfl,?_⟩,?_⟩
 ·rw[wz,aap];omega
 ·rw[List.drop_zero];exact q2.mono fun ds z=>z.ok
 ·rintro i m FI H' ⟨rfl,hi,ys,acc,hy,my,ly,e2,hn,G9,q3⟩;by_cases F0:i < its.length
  ·refine .inr ⟨(w2.mono (fun _ z=>z) e2).go F0,fun x H2 R6=>?_⟩;obtain⟨eH,mx⟩:=(w2.mono (fun _ z=>z) e2).Kz R6 (d:=its[i]) (by simp[F0]);have hy:=eH _ _ hy;have my:=my.mono (fun _ z=>z) eH;have e2:=e2.trans eH;have hd:its.drop i=its[i]::its.drop (i+1):=List.drop_eq_getElem_cons F0;rw[hd] at q3;have q4:=E5.E3 q3;have q5:E5 G8 (dH T its[i] (Jl G' fr τ)) _:=E5.E3 q4
   have sl:Nf K (fun a=>nw S H a/\a≠A) H2 FI (Jl G' fr τ):=wA (G:=G) (vs:=vs) (σ:=σ) hl (fun i hi d z=>by
    obtain⟨v,h1,h2⟩:=Iy i hi d z
    exact⟨v,h1,h2.mono (fun _ z=>z) e2⟩) hn G9
   refine oQ T sl mx q5 fun τ' IB Yb HQ hk q6=>?_;have PH:IB.length=G'.N.length:=HQ.trans hn;have Ou:∀ j,j < fr.length->IB[j]? = (stC (JR G fr) (G'.N.drop fr.length) σ)[j]?:=fun j hj=>by rw[hk j (fun z=>by have:=ha j z;omega)];exact G9 j hj
   have Vf:∀ is,Slots K (fun a=>nw S H a/\a≠A) H2 IB τ' is:=fun is i _ d z=>Yb.2 i d z;refine fT (.refl _) (Vf _) (E5.E3 q6) fun r H4 e4 _ q7=>?_;cases r with
   | false=>rw[d_ o_] at q7 ⊢;have q8:E5 G8 (cC (cL cl T I E (Jl G' fr τ)) (its.drop (i+1))) fun ds=>Kt (.lst Θ (acc++ds)):=q7;refine⟨its.length - (i+1),by omega,rfl,F0,ys,acc,e4 _ _ hy,my.mono (fun _ z=>z) e4,by omega,e2.trans e4,PH,Ou,q8⟩
   | true=>
    rw[f_ rfl] at q7 ⊢;refine cQ e4 (Vf _) (E5.E3 q7) fun d v H5 e5 e5' m5 q8=>?_;have q9:E5 G8 (E3 (cC (cL cl T I E (Jl G' fr τ)) (its.drop (i+1))) fun r=>.ok (d::r)) fun ds=>Kt (.lst Θ (acc++ds)):=q8;have M0:=E5.E3 q9;have Vg:H5 A=Δ (.lst ys):=e5 _ _ hy;refine⟨ys,Vg,by omega,its.length - (i+1),by omega,rfl,F0,ys++[v],acc++[d],cy,?_,by rw[w_,V_];omega,?_,PH,Ou,?_⟩
    ·have Vh:∀ a (xs:LD),(nw S H a/\a≠A)->Rd H5 a xs.o->(nw S H a/\a≠A)/\Rd (upd H5 A (.lst (ys++[v]))) a xs.o:=fun a xs h r=>by refine⟨h,?_⟩;unfold Rd;rw[cv h.2];exact r
     have Vi:∀ a xs,GF K H5 a xs->GF K (upd H5 A (.lst (ys++[v]))) a xs:=fun a xs h=>h.upd Vg
     have m6:E6 K (fun a=>nw S H a/\a≠A) H5 v d:=m5.step (fun a xs h r=>⟨by
      rcases h with h|h
      ·exact h
      ·have:H a=Φ:=e1.free (e2.free h)
       exact⟨.inr this,fun z=>by rw[z,hy] at h;cases h⟩,r⟩) fun a xs h=>h
     exact(((my.mono (fun _ z=>z) e5).step Vh Vi)).append (.cons (m6.step Vh Vi) .nil)
    ·exact fun b o hb=>by
      have:b≠A:=by rintro rfl;rw[hA] at hb;cases hb
      rw[cv this];exact e5 _ _ (e2 _ _ hb)
    ·refine M0.mono fun ds z=>?_;have z':=z.ok;rw[C_];exact z'
  ·have e:i=its.length:=by omega
   subst e;refine .inl ⟨(w2.mono (fun _ z=>z) e2).stop rfl,?_⟩;rw[List.drop_length] at q3;have q4:=q3.ok;rw[aaj] at q4;exact fin A ys acc H' (e1.trans e2) R4 hy my q4
end
section
variable {Z:Sg}{CX:G1}{cl:Nat->List D->Res D}{xp:XK->Hp->Str->Prop}{X:Cx}{ex:Str->Prop}{G G':Gm}{fr:List Nat}
theorem i5 {T:Tg}{s:Sr}{I:List IR}{E:IR}:E8 cl (.comp G' fr T s I E)=fun τ=>E3 (eL cl s τ) fun its=>Fw (dP its.length) (E3 (K' (cC (cL cl T I E (Jl G' fr τ)) its)) fun ds=>.ok (.lst Θ ds)):=rfl
theorem AA (g:F7 Z CX cl xp X ex G){scope:Scope}{tg iter elt:Expr}{ifs:List Expr}{pos:Pos}{T:Tg}{s:Sr}{I:List IR}{E:IR}(hs:Jk Z G scope G' fr)(hT:dI G' T tg=Θ)(ha:∀ i∈Hw T,fr.length<=i)
  (hi:PI X tg iter (RI X.K ex (eS s) (eL cl s))) (ht:∀ X',F7 Z CX cl xp X' G8 G'->K0 X' ifs (RT X'.K G8 (cD I) (fF cl I))) (he:∀ X',F7 Z CX cl xp X' G8 G'->PE X' elt (RD X'.K G8 (vars E) (E8 cl E)))
  (hf:∀ x,foldedSetIterable iter X.env x=pure x):PE X (.ListComp elt [⟨tg,iter,ifs,0⟩] scope pos) (RD X.K ex (fr++eS s) (E8 cl (.comp G' fr T s I E))):=by
 intro pins s' σ H Q Iv h;obtain⟨GH,S⟩:=fN g Iv.ok hs;have p:=ku (pos:=pos) (elt:=elt) (ifs:=ifs) (tg:=tg) (g:=gT X.K T) (tt:=RT X.K G8 (cD I) (fF cl I)) (te:=RD X.K G8 (vars E) (E8 cl E)) (g.calm hs.cm) S hi (fun C s H fp=>LM (dv g hs GH C s H fp) T tg hT) (fun C s H fp=>ht _ (dv g hs GH C s H fp)) (fun C s H fp=>he _ (dv g hs GH C s H fp)) hf;refine p pins s' σ H Q Iv ?_;obtain⟨S0,τ,Ov,q⟩:=h;rw[i5] at q;exact fx hs.Oq ha Ov q fun A ys ds H' e hA KI m k=>k _ _ e (.lst (.inr hA) (.inl KI) (m.mono (fun _ z=>z.1) (.refl _)))
end
section
variable {Z:Sg}{CX:G1}{cl:Nat->List D->Res D}{xp:XK->Hp->Str->Prop}
theorem qr {e:Expr}{a:IR}{G:Gm}(h:Fz Z G a e=Θ)(env:Env)(x:Ψ):foldedSetIterable e env x=pure x:=by
 induction e using zE<;>first|rfl|(induction a using zI<;>cases h)
theorem dN {e:Expr}{a:Sr}{G:Gm}(h:eI Z G a e=Θ)(env:Env)(x:Ψ):foldedSetIterable e env x=pure x:=by
 cases a with
 | val a=>exact qr (show Fz Z G a e=Θ from h) env x
 | _=>induction e using zE<;>first|rfl|cases h
theorem both {X:Cx}{ex:Str->Prop}{e:Expr}{is:List Nat}{f:Ev->Res D}(h:PE X e (RD X.K ex is f))(he:∀ whole,isTrue e X.env whole=(do let v <- whole;standAt e.pos;holding [v] (truthy v)):=by intro _;rfl) :
  PE X e (RD X.K ex is f)/\PT X e (RT X.K ex is fun τ=>E3 (f τ) cK):=⟨h,Cg h he⟩
mutual
theorem snd:∀ (a:IR) (X:Cx) (ex:Str->Prop) (G:Gm) (e:Expr),F7 Z CX cl xp X ex G->Fz Z G a e=Θ->PE X e (RD X.K ex (vars a) (E8 cl a))/\PT X e (RT X.K ex (vars a) fun τ=>E3 (E8 cl a τ) cK)
 | .c d,X,ex,G,e,g,h=>by
  induction e using zE with
  | Constant k j pos=>exact both (X4 h)
  | _=>exists h
 | .g n d,X,ex,G,e,g,h=>by
  induction e using zE with
  | Name x pos=>have h':(iV Z G n x&&Z.M7.any fun p=>p.1 == n&&qp p.2 d)=Θ:=h;rw[g_] at h';exact both (X5 g h'.1 h'.2)
  | _=>exists h
 | .v i,X,ex,G,e,g,h=>by
  induction e using zE with
  | Name x pos=>exact both (X3 g h)
  | _=>exists h
 | .bin op a b,X,ex,G,e,g,h=>by
  induction e using zE with
  | BinOp l o r pos=>have h':(o == Lb op&&Fz Z G a l&&Fz Z G b r)=Θ:=h;simp only[g_] at h';have e1:o=Lb op:=h_ h'.1.1;subst e1;exact both (Ci (snd a X ex G l g h'.1.2).1 (snd b X ex G r g h'.2).1)
  | _=>exists h
 | .neg a,X,ex,G,e,g,h=>by
  induction e using zE with
  | UnaryOp o l pos=>
   cases o with
   | USub=>exact both (Cj (snd a X ex G l g h).1)
   | _=>exists h
  | _=>exists h
 | .cmp op a b,X,ex,G,e,g,h=>by
  induction e using zE with
  | Compare l os rs pos=>
   match os,rs,h with
   | [o],[r],h=>have h':(o == Ii op&&Fz Z G a l&&Fz Z G b r&&!behindInMarks o r)=Θ:=h;simp only[g_] at h';have e1:o=Ii op:=h_ h'.1.1.1;subst e1;exact Ck g (snd a X ex G l g h'.1.1.2).1 (snd b X ex G r g h'.1.2).1 (by simpa using h'.2)
   | [],_,h=>exists h
   | [_],[],h=>exists h
   | [_],_::_::_,h=>exists h
   | _::_::_,_,h=>exists h
  | _=>exists h
 | .chain op Gk a b c,X,ex,G,e,g,h=>by
  induction e using zE with
  | Compare l os rs pos=>
   match os,rs,h with
   | [o,o'],[m,r],h=>have h':(o == Ii op&&o' == Ii Gk&&Fz Z G a l&&Fz Z G b m&&Fz Z G c r&&!lastMarks [o,o'] [m,r])=Θ:=h;simp only[g_] at h';have e1:o=Ii op:=h_ h'.1.1.1.1.1;have e2:o'=Ii Gk:=h_ h'.1.1.1.1.2;subst e1 e2;exact wx g (snd a X ex G l g h'.1.1.1.2).1 (snd b X ex G m g h'.1.1.2).1 (snd c X ex G r g h'.1.2).1 (by simpa using h'.2)
   | [],_,h=>exists h
   | [_],_,h=>exists h
   | [_,_],[],h=>exists h
   | [_,_],[_],h=>exists h
   | [_,_],_::_::_::_,h=>exists h
   | _::_::_::_,_,h=>exists h
  | _=>exists h
 | .Gd a b,X,ex,G,e,g,h=>by
  induction e using zE with
  | BoolOp o es pos=>
   match o,es,h with
   | .And,[l,r],h=>have h':(Fz Z G a l&&Fz Z G b r)=Θ:=h;rw[g_] at h';obtain⟨pa,ta⟩:=snd a X ex G l g h'.1;obtain⟨pb,tb⟩:=snd b X ex G r g h'.2;exact⟨xJ pa (qC pb),xK ta (vz tb)⟩
   | .And,l::r::r'::rest,h=>have h':(Fz Z G a l&&Fz Z G b (.BoolOp .And (r::r'::rest) pos))=Θ:=h;rw[g_] at h';obtain⟨pa,ta⟩:=snd a X ex G l g h'.1;obtain⟨pb,tb⟩:=snd b X ex G _ g h'.2;exact⟨xJ pa pb,xK ta (rW (e:=l) tb)⟩
   | .And,[],h=>exists h
   | .And,[_],h=>exists h
   | .Or,_,h=>exists h
  | _=>exists h
 | .II a b,X,ex,G,e,g,h=>by
  induction e using zE with
  | BoolOp o es pos=>
   match o,es,h with
   | .Or,[l,r],h=>have h':(Fz Z G a l&&Fz Z G b r)=Θ:=h;rw[g_] at h';obtain⟨pa,ta⟩:=snd a X ex G l g h'.1;obtain⟨pb,tb⟩:=snd b X ex G r g h'.2;exact⟨Cm pa (qC pb),Cp ta (zv tb)⟩
   | .Or,l::r::r'::rest,h=>have h':(Fz Z G a l&&Fz Z G b (.BoolOp .Or (r::r'::rest) pos))=Θ:=h;rw[g_] at h';obtain⟨pa,ta⟩:=snd a X ex G l g h'.1;obtain⟨pb,tb⟩:=snd b X ex G _ g h'.2;exact⟨Cm pa pb,Cp ta (rW (e:=l) tb)⟩
   | .Or,[],h=>exists h
   | .Or,[_],h=>exists h
   | .And,_,h=>exists h
  | _=>exists h
 | .GA a,X,ex,G,e,g,h=>by
  induction e using zE with
  | UnaryOp o l pos=>
   cases o with
   | Not=>obtain⟨pa,ta⟩:=snd a X ex G l g h;exact Co pa ta
   | _=>exists h
  | _=>exists h
 | .ite t a b,X,ex,G,e,g,h=>by
  induction e using zE with
  | IfExp c x y pos=>have h':(Fz Z G t c&&Fz Z G a x&&Fz Z G b y)=Θ:=h;simp only[g_] at h';obtain⟨pa,ta⟩:=snd a X ex G x g h'.1.2;obtain⟨pb,tb⟩:=snd b X ex G y g h'.2;exact Cq (snd t X ex G c g h'.1.1).2 pa pb ta tb
  | _=>exists h
 | .tup es,X,ex,G,e,g,h=>by
  induction e using zE with
  | Tuple l n pos=>exact both (Cr (mi es X ex G l g h))
  | _=>exists h
 | .lst es,X,ex,G,e,g,h=>by
  induction e using zE with
  | List l pos=>exact both (Cs (mi es X ex G l g h))
  | _=>exists h
 | .idx a i,X,ex,G,e,g,h=>by
  induction e using zE with
  | Subscript o s pos=>
   have h':(dS s&&Fz Z G a o&&Fz Z G i s)=Θ:=by cases s<;>first|exact h|(rename_i l u st p;cases st<;>exact h)
   simp only[g_] at h';exact both (Ct (snd a X ex G o g h'.1.2).1 (snd i X ex G s g h'.2).1 h'.1.1)
  | _=>exists h
 | .sl a lo hi,X,ex,G,e,g,h=>by
  induction e using zE with
  | Subscript o s pos=>
   match s,h with
   | .Slice l u Φ p,h=>have h':(Fz Z G a o&&nM Z G lo l&&nM Z G hi u)=Θ:=h;simp only[g_] at h';exact both (ER (snd a X ex G o g h'.1.1).1 (wB lo X ex G l g h'.1.2) (wB hi X ex G u g h'.2))
   | .Slice _ _ (Δ _) _,h=>exists h
   | .BoolOp ..,h=>exists h
   | .NamedExpr ..,h=>exists h
   | .BinOp ..,h=>exists h
   | .UnaryOp ..,h=>exists h
   | .Lambda ..,h=>exists h
   | .IfExp ..,h=>exists h
   | .Dict ..,h=>exists h
   | .Set ..,h=>exists h
   | .ListComp ..,h=>exists h
   | .SetComp ..,h=>exists h
   | .DictComp ..,h=>exists h
   | .GeneratorExp ..,h=>exists h
   | .Await ..,h=>exists h
   | .Yield ..,h=>exists h
   | .YieldFrom ..,h=>exists h
   | .Compare ..,h=>exists h
   | .Call ..,h=>exists h
   | .FormattedValue ..,h=>exists h
   | .JoinedStr ..,h=>exists h
   | .Constant ..,h=>exists h
   | .Attribute ..,h=>exists h
   | .Subscript ..,h=>exists h
   | .Starred ..,h=>exists h
   | .Name ..,h=>exists h
   | .List ..,h=>exists h
   | .Tuple ..,h=>exists h
  | _=>exists h
 | .call f es,X,ex,G,e,g,h=>by
  induction e using zE with
  | Call fn args Hs pos=>
   induction fn using zE with
   | Name x p=>
    cases Hs with
    | nil=>have h':(iV Z G f x&&Z.LI G f&&dg Z G es args)=Θ:=h;simp only[g_] at h';exact both (s_call g h'.1.1 h'.1.2 h'.2 (mi es X ex G args g h'.2))
    | cons _ _=>exists h
   | _=>exists h
  | _=>exists h
 | .bi f es,X,ex,G,e,g,h=>by
  induction e using zE with
  | Call fn args Hs pos=>
   induction fn using zE with
   | Name x p=>
    cases Hs with
    | nil=>
     cases args with
     | nil=>exists h
     | cons a args=>have h':(x == fD f&&G.IX (jO f)&&dg Z G es (a::args))=Θ:=h;simp only[g_] at h';have e1:x=fD f:=h_ h'.1.1;subst e1;exact both (ES g h'.1.2 h'.2 (mi es X ex G _ g h'.2))
    | cons _ _=>cases args<;>exists h
   | _=>exists h
  | _=>exists h
 | .Ho a,X,ex,G,e,g,h=>by
  have h:Og e (fun x y e=>x == "list"&&G.IX 5&&y == "reversed"&&G.gl.contains 18&&notStar e&&Fz Z G a e)=Θ:=by induction e using zE<;>exact h
  obtain⟨x,p,y,p',e',pos',pos,rfl,h⟩:=rS h;have h:(x == "list"&&G.IX 5&&y == "reversed"&&G.gl.contains 18&&notStar e'&&Fz Z G a e')=Θ:=h;simp only[g_] at h;have e1:x = "list":=h_ h.1.1.1.1.1;have e2:y = "reversed":=h_ h.1.1.1.2;subst e1 e2;exact both (Av g h.1.1.1.1.2 h.1.1.2 h.1.2 (snd a X ex G e' g h.2).1)
 | .Hq a b,X,ex,G,e,g,h=>by
  have h:RP e (fun x y e e'=>x == "list"&&G.IX 5&&y == "zip"&&G.gl.contains 17&&(notStar e&&notStar e')&&Fz Z G a e&&Fz Z G b e')=Θ:=by induction e using zE<;>exact h
  obtain⟨x,p,y,p',ea,eb,pos',pos,rfl,h'⟩:=As h;simp only[g_] at h';obtain⟨⟨⟨⟨⟨⟨hx,h5⟩,hy⟩,Yc⟩,hn,HQ⟩,ha⟩,hb⟩:=h';have e1:x = "list":=h_ hx;have e2:y = "zip":=h_ hy;subst e1 e2;exact both (Aw g h5 Yc hn HQ (snd a X ex G ea g ha).1 (snd b X ex G eb g hb).1)
 | .sset a,X,ex,G,e,g,h=>by
  have h:Og e (fun x y e=>x == "sorted"&&G.gl.contains 4&&y == "set"&&G.gl.contains 12&&(notStar e&&G.cm)&&Fz Z G a e)=Θ:=by induction e using zE<;>exact h
  obtain⟨x,p,y,p',e',q',q,rfl,h⟩:=rS h;have h:(x == "sorted"&&G.gl.contains 4&&y == "set"&&G.gl.contains 12&&(notStar e'&&G.cm)&&Fz Z G a e')=Θ:=h;simp only[g_] at h;have e1:x = "sorted":=h_ h.1.1.1.1.1;have e2:y = "set":=h_ h.1.1.1.2;subst e1 e2;exact both (Au g h.1.1.1.1.2 h.1.1.2 h.1.2.1 h.1.2.2 (snd a X ex G e' g h.2).1)
 | .Hl a k,X,ex,G,e,g,h=>by
  induction e using zE with
  | Call fn args Hs pos=>
   induction fn using zE with
   | Name x p=>
    match args,Hs,h with
    | [o,.Name y p'],[],h=>have h':(x == "isinstance"&&G.gl.contains 14&&y == f7 k&&G.gl.contains (oI k)&&notStar o&&Fz Z G a o)=Θ:=h;simp only[g_] at h';have e1:x = "isinstance":=h_ h'.1.1.1.1.1;have e2:y=f7 k:=h_ h'.1.1.1.2;subst e1 e2;exact both (Cu g h'.1.1.1.1.2 h'.1.1.2 h'.1.2 (snd a X ex G o g h'.2).1)
    | [],_,h=>exists h
    | [_],_,h=>exists h
    | _::b::_::_,k,h=>cases b<;>cases k<;>exists h
    | [_,.Name _ _],_::_,h=>exists h
    | [_,.BoolOp ..],_,h=>exists h
    | [_,.NamedExpr ..],_,h=>exists h
    | [_,.BinOp ..],_,h=>exists h
    | [_,.UnaryOp ..],_,h=>exists h
    | [_,.Lambda ..],_,h=>exists h
    | [_,.IfExp ..],_,h=>exists h
    | [_,.Dict ..],_,h=>exists h
    | [_,.Set ..],_,h=>exists h
    | [_,.ListComp ..],_,h=>exists h
    | [_,.SetComp ..],_,h=>exists h
    | [_,.DictComp ..],_,h=>exists h
    | [_,.GeneratorExp ..],_,h=>exists h
    | [_,.Await ..],_,h=>exists h
    | [_,.Yield ..],_,h=>exists h
    | [_,.YieldFrom ..],_,h=>exists h
    | [_,.Compare ..],_,h=>exists h
    | [_,.Call ..],_,h=>exists h
    | [_,.FormattedValue ..],_,h=>exists h
    | [_,.JoinedStr ..],_,h=>exists h
    | [_,.Constant ..],_,h=>exists h
    | [_,.Attribute ..],_,h=>exists h
    | [_,.Subscript ..],_,h=>exists h
    | [_,.Starred ..],_,h=>exists h
    | [_,.Slice ..],_,h=>exists h
    | [_,.List ..],_,h=>exists h
    | [_,.Tuple ..],_,h=>exists h
   | _=>exists h
  | _=>exists h
 | .Jx m o es,X,ex,G,e,g,h=>by
  induction e using zE with
  | Call fn args Hs pos=>
   induction fn using zE with
   | Attribute oe name apos=>
    match args,Hs,h with
    | a::args,[],h=>have h':(name == iQ m&&iU oe&&apos.endLine == pos.line&&(decide ((a::args).length < 29)&&(G.cm||nK m))&&Fz Z G o oe&&dg Z G es (a::args))=Θ:=h;simp only[g_] at h';have e1:name=iQ m:=h_ h'.1.1.1.1.1;subst e1;exact both (Cv g h'.1.1.1.1.2 h'.1.1.1.2 (p_ h'.1.1.2.1) h'.1.1.2.2 h'.2 (snd o X ex G oe g h'.1.2).1 (mi es X ex G _ g h'.2))
    | [],_,h=>exists h
    | _::_,_::_,h=>exists h
   | _=>exists h
  | _=>exists h
 | .comp G' fr tg src ifs elt,X,ex,G,e,g,h=>by
  induction e using zE with
  | ListComp el gens scope pos=>
   have h:nL gens (fun t it fs=>dz Z G scope G' fr&&dI G' tg t&&(Hw tg).all (fun i=>decide (fr.length<=i))&&(eI Z G src it&&gZ src t)&&dg Z G' ifs fs&&Fz Z G' elt el)=Θ:=h;obtain⟨t,it,fs,rfl,h⟩:=il h;have h':(dz Z G scope G' fr&&dI G' tg t&&(Hw tg).all (fun i=>decide (fr.length<=i))&&(eI Z G src it&&gZ src t)&&dg Z G' ifs fs&&Fz Z G' elt el)=Θ:=h;simp only[g_] at h'
   exact both (AA g (ip h'.1.1.1.1.1) h'.1.1.1.1.2 (fun i hi=>p_ (U_.mp h'.1.1.1.2 i hi)) (r9 src X ex G it t g h'.1.1.2.1 h'.1.1.2.2)
    (fun X' g'=>r6 ifs X' G8 G' fs g' h'.1.2) (fun X' g'=>(snd elt X' G8 G' el g' h'.2).1) (fun x=>dN h'.1.1.2.1 X.env x))
  | _=>exists h
theorem mi:∀ (as:List IR) (X:Cx) (ex:Str->Prop) (G:Gm) (l:List Expr),F7 Z CX cl xp X ex G->dg Z G as l=Θ->PA X l (RA X.K ex (cD as) (dq cl as))
 | [],X,ex,G,l,g,h=>by
  cases l with
  | nil=>exact ko dy fun σ H Q ⟨S,τ,hs,q⟩=>q.ok _ _ (.refl _) .nil
  | cons _ _=>exists h
 | a::as,X,ex,G,l,g,h=>by
  cases l with
  | nil=>exists h
  | cons e l=>have h':(notStar e&&Fz Z G a e&&dg Z G as l)=Θ:=h;simp only[g_] at h';refine ko (cS (snd a X ex G e g h'.1.2).1 (mi as X ex G l g h'.2) (ck h'.1.1 _ _)) fun σ H Q ⟨S,τ,hs,q⟩=>?_;refine cQ (.refl _) hs.left (E5.E3 q) fun x v H1 e1 _ m1 q1=>?_;refine md e1 hs.right (E5.E3 q1) fun ds vs H2 e2 GO m2 q2=>?_;exact q2.ok _ _ e2 (.cons (m1.later GO) m2)
theorem wB:∀ (o:Option IR) (X:Cx) (ex:Str->Prop) (G:Gm) (e:Option Expr),F7 Z CX cl xp X ex G->nM Z G o e=Θ->PO X e (Nc X.K ex (rF o) (kE cl o))
 | none,X,ex,G,e,g,h=>by
  cases e with
  | none=>intro pins s σ H Q I ⟨S,τ,hs,q⟩;exact vG pins s σ H Q I (q.ok H (.refl _))
  | some _=>exists h
 | some a,X,ex,G,e,g,h=>by
  cases e with
  | none=>exists h
  | some e=>
   intro pins s σ H Q I ⟨S,τ,hs,q⟩;refine vH (snd a X ex G e g h).1 pins s σ H Q I ?_;refine cQ (.refl _) hs (E5.E3 q) fun x v H1 e1 _ m1 q1=>?_
   induction x using zD with
   | int i=>cases m1.FK;exact⟨i,rfl,q1.ok _ e1⟩
   | _=>exact q1.no.elim
theorem r6:∀ (as:List IR) (X:Cx) (ex:Str->Prop) (G:Gm) (l:List Expr),F7 Z CX cl xp X ex G->dg Z G as l=Θ->K0 X l (RT X.K ex (cD as) (fF cl as))
 | [],X,ex,G,l,g,h=>by
  cases l with
  | nil=>intro pins s σ H Q I ⟨S,τ,hs,q⟩;exact vL pins s σ H Q I (q.ok H (.refl _))
  | cons _ _=>exists h
 | a::as,X,ex,G,l,g,h=>by
  cases l with
  | nil=>exists h
  | cons e l=>
   have h':(notStar e&&Fz Z G a e&&dg Z G as l)=Θ:=h;simp only[g_] at h';intro pins s σ H Q I ⟨S,τ,hs,q⟩;refine qR (snd a X ex G e g h'.1.2).2 (r6 as X ex G l g h'.2) pins s σ H Q I ?_;refine fT (.refl _) hs.left (E5.E3 q) fun r H2 e2 _ k=>?_;cases r with
   | true=>rw[f_ rfl] at k ⊢;exact fT e2 hs.right k fun b H3 e3 _ z=>z H3 e3
   | false=>rw[d_ o_] at k ⊢;exact k.ok H2 e2
theorem r9:∀ (s:Sr) (X:Cx) (ex:Str->Prop) (G:Gm) (e tg:Expr),F7 Z CX cl xp X ex G->eI Z G s e=Θ->gZ s tg=Θ->PI X tg e (RI X.K ex (eS s) (eL cl s))
 | .FV n,X,ex,G,e,tg,g,h,ht=>by
  induction e using zE with
  | Call fn args Hs pos=>
   induction fn using zE with
   | Name x p=>
    match args,Hs,h with
    | [a],[],h=>have h':(x == "range"&&G.gl.contains 15&&notStar a&&Fz Z G n a)=Θ:=h;simp only[g_] at h';have e1:x = "range":=h_ h'.1.1.1;subst e1;exact Az g h'.1.1.2 h'.1.2 (snd n X ex G a g h'.2).1
    | [],_,h=>exists h
    | [_],_::_,h=>exists h
    | _::_::_,_,h=>exists h
   | _=>exists h
  | _=>exists h
 | .val a,X,ex,G,e,tg,g,h,ht=>Cz (snd a X ex G e g h).1
 | .HN a,X,ex,G,e,tg,g,h,ht=>by
  induction tg using zE with
  | Tuple Yd tc tp=>
   induction e using zE with
   | Call fn args Hs pos=>
    induction fn using zE with
    | Name x p=>
     match args,Hs,h with
     | [l],[],h=>have h':(x == "enumerate"&&G.gl.contains 20&&notStar l&&Fz Z G a l)=Θ:=h;simp only[g_] at h';have e1:x = "enumerate":=h_ h'.1.1.1;subst e1;exact CC g h'.1.1.2 h'.1.2 (snd a X ex G l g h'.2).1
     | [],_,h=>exists h
     | [_],_::_,h=>exists h
     | _::_::_,_,h=>exists h
    | _=>exists h
   | _=>exists h
  | _=>exact bU ht
 | .zip a b,X,ex,G,e,tg,g,h,ht=>by
  induction tg using zE with
  | Tuple Yd tc tp=>
   induction e using zE with
   | Call fn args Hs pos=>
    induction fn using zE with
    | Name x p=>
     match args,Hs,h with
     | [l,r],[],h=>have h':(x == "zip"&&G.gl.contains 17&&notStar l&&notStar r&&Fz Z G a l&&Fz Z G b r)=Θ:=h;simp only[g_] at h';have e1:x = "zip":=h_ h'.1.1.1.1.1;subst e1;exact CB g h'.1.1.1.1.2 h'.1.1.1.2 h'.1.1.2 (snd a X ex G l g h'.1.2).1 (snd b X ex G r g h'.2).1
     | [],_,h=>exists h
     | [_],_,h=>exists h
     | [_,_],_::_,h=>exists h
     | _::_::_::_,_,h=>exists h
    | _=>exists h
   | _=>exists h
  | _=>exact bU ht
end
end
inductive FU (K:Frag)(F:Ω->Prop)(H:Hp):St->Ev->List Ω->Prop where
 | nil:FU K F H [] [] []
 | none {o:Option V}{σ:St}{τ:Ev}{f:List Ω}:FU K F H σ τ f->FU K F H (o::σ) (.none::τ) f
 | some {v:V}{d:D}{f:List Ω}{σ:St}{τ:Ev}{g:List Ω}:FE K F H v d f->FU K F H σ τ g->FU K F H (.some v::σ) (.some d::τ) (f++g)
section
variable {K:Frag}{F F':Ω->Prop}{H H':Hp}{σ:St}{τ:Ev}{f:List Ω}
theorem FU.len:∀ {σ:St}{τ:Ev}{f:List Ω},FU K F H σ τ f->σ.length=τ.length
 | _,_,_,.nil=>rfl
 | _,_,_,.none h=>by rw[List.length_cons,List.length_cons,FU.len h]
 | _,_,_,.some _ h=>by rw[List.length_cons,List.length_cons,FU.len h]
theorem FU.step (hl:∀ a (u:LD),F a->Rd H a u.o->F' a/\Rd H' a u.o)(ht:∀ a xs,GF K H a xs->GF K H' a xs):∀ {σ:St}{τ:Ev}{f:List Ω},(∀ a∈f,¬ F a->H a≠Option.none->¬ F' a/\H' a=H a)->FU K F H σ τ f->FU K F' H' σ τ f
 | _,_,_,_,.nil=>.nil
 | _,_,_,k,.none h=>.none (FU.step hl ht k h)
 | _,_,_,k,.some m h=>.some (m.step hl ht fun a ha=>k a (q_ _ ha)) (FU.step hl ht (fun a ha=>k a (r_ _ ha)) h)
theorem FU.own:∀ {σ:St}{τ:Ev}{f:List Ω},FU K F H σ τ f->∀ a∈f,¬ F a/\∃ u,H a=.some u
 | _,_,_,.nil=>fun _ h=>absurd h (by simp)
 | _,_,_,.none h=>FU.own h
 | _,_,_,.some m h=>fun a ha=>by
  rcases x_.mp ha with ha|ha
  ·exact m.own a ha
  ·exact FU.own h a ha
theorem eJ {o:Option D}{τ:Ev}{i:Nat}:cu (o::τ) (i+1)=cu τ i:=by unfold cu;simp
theorem fE {o:Option D}{τ:Ev}:cu (o::τ) 0=o:=by unfold cu;simp
theorem FU.at:∀ {σ:St}{τ:Ev}{f:List Ω}{i:Nat}{d:D},FU K F H σ τ f->cu τ i=.some d->∃ v fv g,σ[i]? = .some (.some v)/\FE K F H v d fv/\FU K F H σ (τ.set i .none) g/\f.Perm (fv++g)
 | _,_,_,i,d,.nil,h=>by simp[cu] at h
 | _,_,_,0,d,.none _,h=>by rw[fE] at h;cases h
 | _,_,_,0,d,.some m h',h=>by rw[fE] at h;cases h;exact⟨_,_,_,rfl,m,.none h',.refl _⟩
 | _,_,_,i+1,d,.none h',h=>by rw[eJ] at h;obtain⟨v,fv,g,h1,h2,h3,h4⟩:=FU.at h' h;exact⟨v,fv,g,by simpa using h1,h2,.none h3,h4⟩
 | _,_,_,i+1,d,.some (f:=f0) m h',h=>by rw[eJ] at h;obtain⟨v,fv,g,h1,h2,h3,h4⟩:=FU.at h' h;refine⟨v,fv,f0++g,by simpa using h1,h2,.some m h3,?_⟩;refine(aal f0 h4).trans ?_;rw[<- C_,<- C_];exact List.Perm.append_right g aai
theorem FU.put:∀ {σ:St}{τ:Ev}{f:List Ω} (i:Nat) {v:V}{d:D}{fv:List Ω},FU K F H σ τ f->FE K F H v d fv->∃ g h,FU K F H (σ.set i (.some v)) (τ.set i (.some d)) g/\(g++h).Perm (fv++f)
 | _,_,_,i,v,d,fv,.nil,m=>⟨[],_,.nil,.refl _⟩
 | _,_,_,0,v,d,fv,.none h,m=>⟨_,[],.some m h,by rw[aaj]⟩
 | _,_,_,0,v,d,fv,.some (f:=f0) (g:=g0) m' h,m=>⟨_,f0,.some m h,by rw[C_];exact aal _ aai⟩
 | _,_,_,i+1,v,d,fv,.none h,m=>by obtain⟨g,h',h1,h2⟩:=FU.put i h m;exact⟨g,h',.none h1,h2⟩
 | _,_,_,i+1,v,d,fv,.some (f:=f0) (g:=g0) m' h,m=>by obtain⟨g,h',h1,h2⟩:=FU.put i h m;refine⟨f0++g,h',.some m' h1,?_⟩;rw[C_];refine(aal f0 h2).trans ?_;rw[<- C_,<- C_];exact List.Perm.append_right g0 aai
theorem FU.slots {S:Ω->Prop}{is:List Nat}(h:FU K F H σ τ f)(hF:∀ a,F a->S a)(hf:∀ a∈f,S a):Slots K S H σ τ is:=fun i hi d z=>by obtain⟨v,fv,g,h1,h2,h3,h4⟩:=h.at z;exact⟨v,h1,h2.read hF fun a ha=>hf a (h4.mem_iff.mpr (q_ _ ha))⟩
theorem FU.freeze (is:List Nat):∀ {σ:St}{τ:Ev}{f:List Ω} (k:Nat),FU K F H σ τ f->∃ fi g,f.Perm (fi++g)/\(∀ F':Ω->Prop,(∀ a,F a->F' a)->(∀ a∈fi,F' a)->(∀ a∈g,¬ F a->¬ F' a)->FU K F' H σ (jx is k τ) g)/\
  ∀ F':Ω->Prop,(∀ a,F a->F' a)->(∀ a∈fi,F' a)->∀ i,is.contains (k+i)=Θ->∀ d,cu τ i=.some d->∃ v,σ[i]? = .some (.some v)/\E6 K F' H v d
 | _,_,_,k,.nil=>⟨[],[],.refl _,fun _ _ _ _=>.nil,fun _ _ _ i _ d z=>by simp[cu] at z⟩
 | _,_,_,k,.none h=>by
  obtain⟨fi,g,h1,h2,h3⟩:=FU.freeze is (k+1) h;refine⟨fi,g,h1,fun F' a b c=>?_,fun F' a b i hi d z=>?_⟩
  ·unfold jx;have e:(if is.contains k=Θ then Option.map er (Option.none:Option D) else Option.none)=Option.none:=by split<;>rfl
   rw[e];exact .none (h2 F' a b c)
  ·cases i with
   | zero=>rw[fE] at z;cases z
   | succ i=>rw[eJ] at z;obtain⟨v,q1,q2⟩:=h3 F' a b i (by rw[show k+1+i=k+(i+1) by omega];exact hi) d z;exact⟨v,by simpa using q1,q2⟩
 | _,_,_,k,.some (v:=v) (d:=d0) (f:=f0) (g:=g0) m h=>by
  obtain⟨fi,g,h1,h2,h3⟩:=FU.freeze is (k+1) h;by_cases hc:is.contains k=Θ
  ·refine⟨f0++fi,g,by rw[C_];exact aal _ h1,fun F' a b c=>?_,fun F' a b i hi d z=>?_⟩
   ·unfold jx;rw[f_ hc];exact .some (f:=[]) ((m.read a fun x hx=>b x (q_ _ hx)).frozen) (h2 F' a (fun x hx=>b x (r_ _ hx)) c)
   ·cases i with
    | zero=>rw[fE] at z;cases z;exact⟨v,rfl,m.read a fun x hx=>b x (q_ _ hx)⟩
    | succ i=>rw[eJ] at z;obtain⟨v,q1,q2⟩:=h3 F' a (fun x hx=>b x (r_ _ hx)) i (by rw[show k+1+i=k+(i+1) by omega];exact hi) d z;exact⟨v,by simpa using q1,q2⟩
  ·refine⟨fi,f0++g,?_,fun F' a b c=>?_,fun F' a b i hi d z=>?_⟩
   ·refine(aal f0 h1).trans ?_;rw[<- C_,<- C_];exact List.Perm.append_right g aai
   ·unfold jx;rw[d_ hc];exact .some (m.step (fun x xs q r=>⟨a x q,r⟩) (fun x xs q=>q) fun x hx n _=>⟨c x (q_ _ hx) n,rfl⟩) (h2 F' a b fun x hx=>c x (r_ _ hx))
   ·cases i with
    | zero=>exact absurd hi hc
    | succ i=>rw[eJ] at z;obtain⟨v,q1,q2⟩:=h3 F' a b i (by rw[show k+1+i=k+(i+1) by omega];exact hi) d z;exact⟨v,by simpa using q1,q2⟩
end
structure Jm (F:Ω->Prop)(H:Hp)(f:List Ω)(F':Ω->Prop)(H':Hp):Prop where
 same:cz H H'
 HP:∀ a,F a->F' a
 out:∀ a,F' a->F a∨a∈f∨H a=Φ
structure Ow (K:Frag)(F:Ω->Prop)(H:Hp)(f:List Ω)(F':Ω->Prop)(H':Hp)(σ:St)(v:V)(d:D)(fv:List Ω)(τ':Ev)(f':List Ω):Prop where
 HW:Jm F H f F' H'
 FQ:HV F' H'
 rep:FE K F' H' v d fv
 Gq:FU K F' H' σ τ' f'
 Gj:(fv++f').Nodup
 mem:∀ a∈fv++f',a∈f∨H a=Φ
structure Ye (K:Frag)(F:Ω->Prop)(H:Hp)(f:List Ω)(F':Ω->Prop)(H':Hp)(σ:St)(v:List V)(d:List D)(fv:List Ω)(τ':Ev)(f':List Ω):Prop where
 HW:Jm F H f F' H'
 FQ:HV F' H'
 rep:E7 K F' H' v d fv
 Gq:FU K F' H' σ τ' f'
 Gj:(fv++f').Nodup
 mem:∀ a∈fv++f',a∈f∨H a=Φ
section
variable {K:Frag}{F F' P0:Ω->Prop}{H H' P2:Hp}{f f':List Ω}
theorem Jm.refl:Jm F H f F H:=⟨.refl _,fun _ h=>h,fun _ h=>.inl h⟩
theorem Jm.trans (a:Jm F H f F' H')(b:Jm F' H' f' P0 P2)(hf:∀ x∈f',x∈f∨H x=Φ):Jm F H f P0 P2:=⟨a.same.trans b.same,fun x h=>b.HP x (a.HP x h),fun x h=>by
 rcases b.out x h with h|h|h
 ·exact a.out x h
 ·rcases hf x h with h|h
  ·exact .inr (.inl h)
  ·exact .inr (.inr h)
 ·exact .inr (.inr (a.same.free h))⟩
theorem FE.HW {v:V}{d:D}{fv:List Ω}(m:FE K F H v d fv)(s:Jm F H f F' H')(h:∀ a∈fv,a∉f):FE K F' H' v d fv:=
 m.step (fun a xs q r=>⟨s.HP a q,s.same.rd r⟩) (fun a xs q=>s.same.HL q) fun a ha n hn=>by
  obtain⟨_,xs,e⟩:=m.own a ha;refine⟨fun z=>?_,(s.same _ _ e).trans e.symm⟩;rcases s.out a z with z|z|z
  ·exact n z
  ·exact h a ha z
  ·exact hn z
theorem E7.HW {v:List V}{d:List D}{fv:List Ω}(m:E7 K F H v d fv)(s:Jm F H f F' H')(h:∀ a∈fv,a∉f):E7 K F' H' v d fv:=
 m.step (fun a xs q r=>⟨s.HP a q,s.same.rd r⟩) (fun a xs q=>s.same.HL q) fun a ha n hn=>by
  obtain⟨_,xs,e⟩:=m.own a ha;refine⟨fun z=>?_,(s.same _ _ e).trans e.symm⟩;rcases s.out a z with z|z|z
  ·exact n z
  ·exact h a ha z
  ·exact hn z
end
def RO (K:Frag)(ex:Str->Prop)(g:Ev->Res (D×Ev)):TE:=fun σ H Q=>∃ F τ f,HV F H/\FU K F H σ τ f/\f.Nodup/\E5 ex (g τ) fun p=>∀ v H' F' fv f',Ow K F H f F' H' σ v p.1 fv p.2 f'->Q v H'
def Ng (K:Frag)(ex:Str->Prop)(g:Ev->Res (List D×Ev)):TA:=fun σ H Q=>∃ F τ f,HV F H/\FU K F H σ τ f/\f.Nodup/\E5 ex (g τ) fun p=>∀ v H' F' fv f',Ye K F H f F' H' σ v p.1 fv p.2 f'->Q v H'
abbrev Kn (K:Frag)(S:Ω->Prop)(H:Hp)(Q:VK):List D->Prop:=fun ds=>∀ p ys H',cz H H'->H p=Φ->H' p=Δ (.lst ys)->E4 K (fun a=>nw S H a/\a≠p) H' ys ds->Q (.ref p) H'
def RN (K:Frag)(ex:Str->Prop)(is:List Nat)(f:Ev->Res (List D)):TE:=fun σ H Q=>∃ S τ,Slots K S H σ τ is/\E5 ex (f τ) (Kn K S H Q)
noncomputable def fX:D->Res (List D)
 | .lst _ ds=>.ok ds
 | _=>FC
section
variable {K:Frag}{F F':Ω->Prop}{H H':Hp}{σ:St}{τ:Ev}{f:List Ω}{ex:Str->Prop}{S:Ω->Prop}
theorem qs {vs ws:List V}{ds:List D}{p:Ω}{H2:Hp}(m:E4 K (nw S H) H2 vs ds)(hp:H2 p=Φ):E4 K (fun a=>nw S H a/\a≠p) (upd H2 p (.lst ws)) vs ds:=
 m.step (fun a xs h r=>by
  have Hg:a≠p:=fun z=>r.some (by rw[z];exact hp);refine⟨⟨h,Hg⟩,?_⟩;unfold Rd;rw[cv Hg]
  exact r) fun a xs h=>(cz.upd hp).HL h
theorem grow (P:Ω->Prop)(FQ:HV F H)(r:FU K F H σ τ f)(e:cz H H') :
  HV (fun a=>F a∨(P a/\H a=Φ/\H' a≠Φ)) H'/\FU K (fun a=>F a∨(P a/\H a=Φ/\H' a≠Φ)) H' σ τ f/\Jm F H f (fun a=>F a∨(P a/\H a=Φ/\H' a≠Φ)) H':=by
 refine⟨fun a h=>?_,r.step (fun a xs q rd=>⟨.inl q,e.rd rd⟩) (fun a xs q=>e.HL q) fun a ha n hn=>⟨fun z=>?_,?_⟩,⟨e,fun a h=>.inl h,fun a h=>?_⟩⟩
 ·rcases h with h|h
  ·intro z;exact FQ a h (e.free z)
  ·exact h.2.2
 ·rcases z with z|z
  ·exact n z
  ·exact hn z.2.1
 ·obtain⟨_,xs,q⟩:=r.own a ha;exact(e _ _ q).trans q.symm
 ·rcases h with h|h
  ·exact .inl h
  ·exact .inr (.inr h.2.1)
theorem gG (FQ:HV F H)(r:FU K F H σ τ f)(e:cz H H'):HV F H'/\FU K F H' σ τ f/\Jm F H f F H':=by refine⟨fun a h z=>FQ a h (e.free z),r.step (fun a xs q rd=>⟨q,e.rd rd⟩) (fun a xs q=>e.HL q) fun a ha n hn=>⟨n,?_⟩,⟨e,fun a h=>h,fun a h=>.inl h⟩⟩;obtain⟨_,xs,q⟩:=r.own a ha;exact(e _ _ q).trans q.symm
theorem gH (is:List Nat)(FQ:HV F H)(r:FU K F H σ τ f)(nd:f.Nodup):∃ F1 g,HV F1 H/\FU K F1 H σ (FT is τ) g/\g.Nodup/\Jm F H f F1 H/\(∀ a∈g,a∈f)/\Slots K F1 H σ τ is:=by
 obtain⟨fi,g,h1,h2,h3⟩:=r.freeze is 0;have KN:(fi++g).Nodup:=h1.nodup_iff.mp nd;have Nh:∀ a∈g,a∉fi:=fun a ha hb=>(s_.mp KN).2.2 a hb a ha rfl;have Vj:∀ a∈fi,a∈f:=fun a ha=>h1.mem_iff.mpr (q_ _ ha);have Yf:∀ a∈g,a∈f:=fun a ha=>h1.mem_iff.mpr (r_ _ ha);refine⟨fun a=>F a∨a∈fi,g,fun a h=>?_,h2 _ (fun a h=>.inl h) (fun a h=>.inr h) (fun a ha n z=>?_),(s_.mp KN).2.1,⟨.refl _,fun a h=>.inl h,fun a h=>?_⟩,Yf,fun i hi d z=>?_⟩
 ·rcases h with h|h
  ·exact FQ a h
  ·obtain⟨_,xs,q⟩:=r.own a (Vj a h);rw[q];simp
 ·rcases z with z|z
  ·exact n z
  ·exact Nh a ha z
 ·rcases h with h|h
  ·exact .inl h
  ·exact .inr (.inl (Vj a h))
 ·exact h3 _ (fun a h=>.inl h) (fun a h=>.inr h) i (by simpa using hi) d z
theorem cU {is:List Nat}(r:FU K F H σ τ f):Slots K (fun _=>True) H σ τ is:=r.slots (fun _ _=>trivial) fun _ _=>trivial
theorem E6.fix {v:V}{d:D}(m:E6 K (L2.nw F H) H' v d):E6 K (fun a=>F a∨(True/\H a=Φ/\H' a≠Φ)) H' v d:=m.step (fun a xs h r=>⟨h.elim (fun z=>.inl z) fun z=>.inr ⟨trivial,z,r.some⟩,r⟩) fun a xs h=>h
end
section
variable {X:Cx}{ex:Str->Prop}{cl:Nat->List D->Res D}
theorem P4 {i:Nat}{e:Expr}(he:PE X e (zq i))(mv:Bool):PE X e (RO X.K ex (Gb cl mv (.v i))):=by
 refine cF he fun σ H Q ⟨F,τ,f,FQ,r,nd,q⟩=>?_;rw[Cc] at q;cases z:cu τ i with
 | none=>rw[z] at q;exact q.no.elim
 | some d=>
  rw[z] at q;obtain⟨v,fv,g,h1,h2,h3,h4⟩:=r.at z;have KN:(fv++g).Nodup:=h4.nodup_iff.mp nd;cases mv with
  | true=>have q':=(show E5 ex (.ok (d,τ.set i Φ):Res (D×Ev)) _ from q).ok;exact⟨v,h1,q' v H F fv g ⟨.refl,FQ,h2,h3,KN,fun a ha=>.inl (h4.mem_iff.mpr ha)⟩⟩
  | false=>
   have q':=(show E5 ex (.ok (er d,τ.set i (Δ (er d))):Res (D×Ev)) _ from q).ok;have Nh:∀ a∈g,a∉fv:=fun a ha hb=>(s_.mp KN).2.2 a hb a ha rfl;have m1:FE X.K (fun a=>F a∨a∈fv) H v (er d) []:=(h2.read (fun a h=>.inl h) (fun a h=>.inr h)).frozen;have r1:FU X.K (fun a=>F a∨a∈fv) H σ (τ.set i Φ) g:=h3.step (fun a xs h r=>⟨.inl h,r⟩) (fun a xs h=>h) fun a ha n _=>⟨fun z=>z.elim n (Nh a ha),rfl⟩
   obtain⟨g',h',r2,p2⟩:=r1.put i m1;have G9:σ.set i (Δ v)=σ:=by
    apply List.ext_getElem?;intro j;rw[List.getElem?_set];by_cases hj:i=j
    ·subst hj;have F0:i < σ.length:=(v_.mp h1).1;rw[f_ rfl,f_ F0,h1]
    ·rw[d_ hj]
   rw[G9,List.set_set] at r2;rw[List.nil_append] at p2;have LN:(g'++h').Nodup:=p2.nodup_iff.mpr (s_.mp KN).2.1;refine⟨v,h1,q' v H _ [] g' ⟨⟨.refl _,fun a h=>.inl h,fun a h=>?_⟩,fun a h=>?_,m1,r2,(s_.mp LN).1,fun a ha=>?_⟩⟩
   ·exact h.elim (fun z=>.inl z) fun z=>.inr (.inl (h4.mem_iff.mpr (q_ _ z)))
   ·rcases h with h|h
    ·exact FQ a h
    ·obtain⟨_,xs,e⟩:=h2.own a h;rw[e];simp
   ·have:a∈g:=p2.mem_iff.mp (q_ _ (by simpa using ha));exact .inl (h4.mem_iff.mpr (r_ _ this))
theorem JC {l:List Expr}{n:Nat}{pos:Pos}{g:Ev->Res (List D×Ev)}(h:PA X l (Ng X.K ex g)):PE X (.Tuple l n pos) (RO X.K ex fun τ=>E3 (g τ) fun p=>Fw (dh p.1.length) (.ok (.tup p.1,p.2))):=by
 refine cF (qO h) fun σ H Q ⟨F,τ,f,FQ,r,nd,q⟩=>⟨F,τ,f,FQ,r,nd,(E5.E3 q).mono fun p hp vs H1 F1 fv f1 o=>?_⟩
 obtain⟨gd,hp⟩:=E5.Fw hp;refine⟨by rw[o.rep.length];exact de gd,fun p' Le=>hp.ok _ _ F1 fv f1 ?_⟩;have e:cz H1 (upd H1 p' (.tup vs)):=.upd Le;obtain⟨k1,k2,k3⟩:=gG o.FQ o.Gq e;refine⟨o.HW.trans k3 (fun x hx=>o.mem x (r_ _ hx)),k1,.tup (.inl (.inl cy)) (o.rep.HW k3 fun a ha hb=>(s_.mp o.Gj).2.2 a ha a hb rfl),k2,o.Gj,o.mem⟩
theorem JD {l:List Expr}{pos:Pos}{g:Ev->Res (List D×Ev)}(h:PA X l (Ng X.K ex g)):PE X (.List l pos) (RO X.K ex fun τ=>E3 (g τ) fun p=>Fw (dh p.1.length) (.ok (.lst Θ p.1,p.2))):=by
 refine cF (iA h) fun σ H Q ⟨F,τ,f,FQ,r,nd,q⟩=>⟨F,τ,f,FQ,r,nd,(E5.E3 q).mono fun p hp vs H1 F1 fv f1 o=>?_⟩
 obtain⟨gd,hp⟩:=E5.Fw hp;refine⟨by rw[o.rep.length];exact de gd,fun p' Le=>hp.ok _ _ F1 (p'::fv) f1 ?_⟩;have e:cz H1 (upd H1 p' (.lst vs)):=.upd Le;obtain⟨k1,k2,k3⟩:=gG o.FQ o.Gq e;refine⟨o.HW.trans k3 (fun x hx=>o.mem x (r_ _ hx)),k1,.Gy (fun z=>o.FQ _ z Le) cy (o.rep.HW k3 fun a ha hb=>(s_.mp o.Gj).2.2 a ha a hb rfl),k2,?_,fun a ha=>?_⟩
 ·rw[c_,H_];refine⟨fun z=>?_,o.Gj⟩;rcases x_.mp z with z|z
  ·obtain⟨_,xs,e⟩:=o.rep.own _ z;rw[Le] at e;cases e
  ·obtain⟨_,xs,e⟩:=o.Gq.own _ z;rw[Le] at e;cases e
 ·rw[c_] at ha;rcases k_.mp ha with rfl|ha
  ·exact .inr (o.HW.same.free Le)
  ·exact o.mem a ha
theorem JE {c a b:Expr}{pos:Pos}{vc:List Nat}{fc:Ev->Res Bool}{fa fb:Ev->Res (D×Ev)}(hc:PT X c (RT X.K ex vc fc))(ha:PE X a (RO X.K ex fa))(hb:PE X b (RO X.K ex fb)) :
  PE X (.IfExp c a b pos) (RO X.K ex fun τ=>E3 (fc τ) fun r=>if r=Θ then fa τ else fb τ):=by
 refine cF (k9 hc ha hb) fun σ H Q ⟨F,τ,f,FQ,r,nd,q⟩=>?_;refine fT (.refl _) (cU r) (E5.E3 q) fun x H2 e2 _ k=>?_;obtain⟨k1,k2,k3⟩:=gG FQ r e2;have go:∀ {g:Ev->Res (D×Ev)},E5 ex (g τ) (fun p=>∀ v H' F' fv f',Ow X.K F H f F' H' σ v p.1 fv p.2 f'->Q v H')->RO X.K ex g σ H2 Q:=fun hg=>
  ⟨F,τ,f,k1,k2,nd,hg.mono fun p hp v H' F' fv f' o=>hp v H' F' fv f' ⟨k3.trans o.HW (fun x hx=>.inl hx),o.FQ,o.rep,o.Gq,o.Gj,fun a ha=>(o.mem a ha).elim (fun z=>.inl z) fun z=>.inr (e2.free z)⟩⟩
 cases x with
 | true=>rw[f_ rfl] at k ⊢;exact go k
 | false=>rw[d_ o_] at k ⊢;exact go k
theorem AE:PA X [] (Ng X.K ex fun τ=>.ok ([],τ)):=ko dy fun σ H Q ⟨F,τ,f,FQ,r,nd,q⟩=>q.ok [] H F [] f ⟨.refl,FQ,.nil,r,nd,fun a ha=>.inl ha⟩
theorem wC {e:Expr}{l:List Expr}{ga:Ev->Res (D×Ev)}{gs:Ev->Res (List D×Ev)}(hn:notStar e=Θ)(ha:PE X e (RO X.K ex ga))(hr:PA X l (Ng X.K ex gs)) :
  PA X (e::l) (Ng X.K ex fun τ=>E3 (ga τ) fun p=>E3 (gs p.2) fun q=>.ok (p.1::q.1,q.2)):=by
 refine ko (cS ha hr (ck hn _ _)) fun σ H Q ⟨F,τ,f,FQ,r,nd,q⟩=>⟨F,τ,f,FQ,r,nd,(E5.E3 q).mono fun p hp v H1 F1 fv f1 o=>?_⟩
 refine⟨F1,p.2,f1,o.FQ,o.Gq,(s_.mp o.Gj).2.1,(E5.E3 hp).mono fun p' Le vs H2 F2 Yg f2 o2=>?_⟩;have Nh:∀ a∈fv,a∉f1:=fun a h1 h2=>(s_.mp o.Gj).2.2 a h1 a h2 rfl;have m2:=o.rep.HW o2.HW Nh;refine Le.ok (v::vs) H2 F2 (fv++Yg) f2 ⟨o.HW.trans o2.HW (fun x hx=>o.mem x (r_ _ hx)),o2.FQ,.cons m2 o2.rep,o2.Gq,?_,fun a ha=>?_⟩
 ·rw[C_];refine s_.mpr ⟨(s_.mp o.Gj).1,o2.Gj,fun a h1 b h2 e=>?_⟩;subst e;rcases o2.mem a h2 with z|z
  ·exact Nh a h1 z
  ·obtain⟨_,xs,e⟩:=o.rep.own a h1;rw[z] at e;cases e
 ·rw[C_] at ha;rcases x_.mp ha with ha|ha
  ·exact o.mem a (q_ _ ha)
  ·rcases o2.mem a ha with z|z
   ·exact o.mem a (r_ _ z)
   ·exact .inr (o.HW.same.free z)
end
section
variable {Z:Sg}{CX:G1}{cl:Nat->List D->Res D}{xp:XK->Hp->Str->Prop}{X:Cx}{ex:Str->Prop}{G:Gm}
def R7 (K:Frag)(ex:Str->Prop)(cl:Nat->List D->Res D)(f:Nat)(vs:List V)(H:Hp)(Q:VK):Prop:=∃ F ds,HV F H/\E4 K F H vs ds/\E5 ex (cl f (Fx ds)) fun d=>∀ v H' F' fv,Out K F H F' H' v d fv->Q v H'
theorem sd (g:F7 Z CX cl xp X ex G){f:Nat}{x:Str}{p pos:Pos}{es:List IR}{args:List Expr}{t:TA}(h1:iV Z G f x=Θ)(h2:Z.LI G f=Θ)(Gn:dg Z G es args=Θ)(h:PA X args t)
  (h0:args=[]->∀ σ H (Q:List V->Hp->Prop),t σ H Q->Q [] H):PE X (.Call (.Name x p) args [] pos) (fun σ H Q=>t σ H fun vs H1=>R7 X.K ex cl f vs H1 Q):=by
 obtain⟨k1,k2,k3,k4⟩:=rT g h1;obtain⟨k,RZ,fd,ps,hm,Ld,hb,F,hr,hlen⟩:=(g.fns f (kK h2).1 (kK h2).2 x k2).ex;obtain⟨E,hP,hE⟩:=g.Oh;intro pins s σ H Q I q;have fin:∀ (us:List Ψ) (s1:Α) (vs:List V) (H1:Hp),Inv X pins σ H1 s1->Vals vs us->R7 X.K ex cl f vs H1 Q->Κ (Μ X.prog X.w) X.A (call (.ref RZ) us) (EP X pins σ Q) X.xe s1:=by
  intro us s1 vs H1 I1 r ⟨Fc,ds,FQ,m,q1⟩;have hl:=hlen ex _ _ q1;rw[eB] at hl;refine oN F hr hb hP g.KD I1 r (by rw[m.length];exact hl) FQ m ?_;cases z:cl f (Fx ds) with
  | error er=>
   rw[z] at q1;cases er with
   | stuck=>exact q1.no.elim
   | exc c=>exact hE c _ q1
  | ok d=>rw[z] at q1;exact q1.ok
 refine aaF (kl I k1 hm ?_ k4);cases args with
 | nil=>
  cases es with
  | cons _ _=>cases Gn
  | nil=>exact PySem.W.callWith_K0 I.IP Ld (fin [] s [] H I .nil (h0 rfl σ H _ q))
 | cons e l=>
  cases es with
  | nil=>cases Gn
  | cons a es=>have F6:(notStar e&&Fz Z G a e&&dg Z G es l)=Θ:=Gn;simp only[g_] at F6;refine PySem.W.callWith_K (h₀:=X.base) I.ok.mod.Pr Ld (FP (h pos pins s σ H _ I q) fun us s1 ⟨vs,H1,I1,r,q1⟩=>⟨I1.IP,?_⟩) (ck F6.1.1 l X.env) (dM Z G (es:=es) pos X.env F6.2);exact fin us s1 vs H1 I1 r q1
theorem FE.JT {K:Frag}{F F':Ω->Prop}{H:Hp}{v:V}{d:D}{fv:List Ω}(m:FE K F H v d fv)(n:cA d=Θ):FE K F' H v d []:=(m.read (S:=fun _=>True) (fun _ _=>trivial) fun _ _=>trivial).free n
theorem Ij (g:F7 Z CX cl xp X ex G){f:Nat}{x:Str}{p pos:Pos}{es:List IR}{args:List Expr}(h1:iV Z G f x=Θ)(h2:Z.LI G f=Θ)(Gn:dg Z G es args=Θ)(mv:Bool) :
  PE X (.Call (.Name x p) args [] pos) (RO X.K ex (Gb cl mv (.call f es))):=by
 have pa:=mi es X ex G args g Gn
 have pe:=sd (p:=p) (pos:=pos) g h1 h2 Gn pa (fun e σ H Q ⟨S,τ,hs,q⟩=>by
  subst e;cases es with
  | nil=>exact q.ok [] H (.refl _) .nil
  | cons _ _=>cases Gn)
 refine cF pe fun σ H Q ⟨F,τ,fo,FQ,r,nd,q⟩=>?_;have q':E5 ex (E3 (dq cl es τ) fun ds=>E3 (cl f (Fx ds)) fun d=>if cA d=Θ then .ok (d,τ) else .ok (d,FT (cD es) τ)) (fun p=>∀ v H' F' fv f',Ow X.K F H fo F' H' σ v p.1 fv p.2 f'->Q v H'):=q
 -- read without R8 up
 have borrow:(∀ ds,dq cl es τ=.ok ds->E5 ex (cl f (Fx ds)) fun d=>cA d=Θ/\∀ v H' F' fv f',Ow X.K F H fo F' H' σ v d fv τ f'->Q v H')->E5 ex (dq cl es τ) (fun _=>True)->RA X.K ex (cD es) (dq cl es) σ H (fun vs H1=>R7 X.K ex cl f vs H1 Q):=by intro hk FN;refine md (.refl _) (cU r) FN.eq fun ds vs H1 e1 _ m1 q1=>?_;refine⟨fun a=>H1 a≠Φ,ds,fun a h=>h,m1.step (fun a xs h rd=>⟨rd.some,rd⟩) fun a xs h=>h,(hk ds q1.1).mono fun d hd v H' F' fv o=>?_⟩;obtain⟨k1,k2,k3⟩:=gG FQ r (e1.trans o.same);exact hd.2 v H' F [] fo ⟨k3,k1,o.rep.JT hd.1,k2,by simpa using nd,fun a ha=>.inl (by simpa using ha)⟩
 cases z:dq cl es τ with
 | error er=>
  rw[z] at q';cases er with
  | stuck=>exact q'.no.elim
  | exc c=>exact borrow (fun ds h=>by rw[z] at h;cases h) (by rw[z];exact q')
 | ok ds=>
  rw[z] at q';have q1:E5 ex (E3 (cl f (Fx ds)) fun d=>if cA d=Θ then .ok (d,τ) else .ok (d,FT (cD es) τ)) (fun p=>∀ v H' F' fv f',Ow X.K F H fo F' H' σ v p.1 fv p.2 f'->Q v H'):=q';cases zc:cl f (Fx ds) with
  | error er=>
   rw[zc] at q1;cases er with
   | stuck=>exact q1.no.elim
   | exc c=>exact borrow (fun ds' h=>by rw[z] at h;cases h;rw[zc];exact q1) (by rw[z];trivial)
  | ok d=>
   rw[zc] at q1;have q2:E5 ex (if cA d=Θ then .ok (d,τ) else .ok (d,FT (cD es) τ)) (fun p=>∀ v H' F' fv f',Ow X.K F H fo F' H' σ v p.1 fv p.2 f'->Q v H'):=q1;by_cases hl:cA d=Θ
   ·rw[f_ hl] at q2;exact borrow (fun ds' h=>by rw[z] at h;cases h;rw[zc];exact⟨hl,q2.ok⟩) (by rw[z];trivial)
   ·rw[d_ hl] at q2;obtain⟨F1,gg,b1,b2,b3,b4,b5,b6⟩:=gH (cD es) FQ r nd;refine md (Kt:=fun ds'=>ds'=ds) (.refl _) b6 (by rw[z];rfl) fun ds' vs H1 e1 _ m1 e=>?_;subst e;have hm:E4 X.K (fun a=>F1 a∨(True/\H a=Φ/\H1 a≠Φ)) H1 vs ds':=m1.step (fun a xs h r=>⟨h.elim (fun z=>.inl z) fun z=>.inr ⟨trivial,z,r.some⟩,r⟩) fun a xs h=>h;obtain⟨c1,c2,c3⟩:=grow (fun _=>True) b1 b2 e1;refine⟨_,ds',c1,hm,?_⟩;rw[zc];intro v H' F' fv o;have s1:Jm (fun a=>F1 a∨(True/\H a=Φ/\H1 a≠Φ)) H1 gg F' H':=⟨o.same,o.HP,fun a h=>(o.out a h).elim (fun z=>.inl z) fun z=>.inr (.inr z)⟩
    have r2:FU X.K F' H' σ (FT (cD es) τ) gg:=c2.step (fun a xs q rd=>⟨o.HP a q,o.same.rd rd⟩) (fun a xs q=>o.same.HL q) fun a ha n hn=>by
     obtain⟨_,xs,e⟩:=c2.own a ha;refine⟨fun z=>?_,(o.same _ _ e).trans e.symm⟩;rcases o.out a z with z|z
     ·exact n z
     ·exact hn z
    refine q2.ok v H' F' fv gg ⟨(b4.trans c3 (fun x hx=>.inl (b5 x hx))).trans s1 (fun x hx=>.inl (b5 x hx)),o.FQ,o.rep,r2,?_,fun a ha=>?_⟩
    ·refine s_.mpr ⟨o.Gj,b3,fun a h1 b h2 e=>?_⟩;subst e;obtain⟨_,xs,e⟩:=c2.own a h2;rw[o.new a h1] at e;cases e
    ·rcases x_.mp ha with ha|ha
     ·exact .inr (e1.free (o.new a ha))
     ·exact .inl (b5 a ha)
theorem dj {a:IR}{e:Expr}(he:PE X e (RD X.K ex (vars a) (E8 cl a)))(hN:cP a=Θ->PE X e (RN X.K ex (vars a) fun τ=>E3 (E8 cl a τ) fX)):PE X e (RO X.K ex fun τ=>E3 (E8 cl a τ) fun d=>.ok (cG a d τ)):=by
 intro pins s σ H Q I h;obtain⟨F,τ,fo,FQ,r,nd,q⟩:=h
 replace q:E5 ex (E3 (E8 cl a τ) fun d=>.ok (cG a d τ)) (fun p=>∀ v H' F' fv f',Ow X.K F H fo F' H' σ v p.1 fv p.2 f'->Q v H'):=q
 have rd:RD X.K ex (vars a) (E8 cl a) σ H Q->Κ (Μ X.prog X.w) X.A (eval e X.env) (EP X pins σ Q) X.xe s:=fun h=>he pins s σ H Q I h;cases z:E8 cl a τ with
 | error er=>
  rw[z] at q;cases er with
  | stuck=>exact q.no.elim
  | exc c=>exact rd ⟨fun _=>True,τ,cU r,by rw[z];exact q⟩
 | ok d=>
  rw[z] at q;have q1:∀ v H' F' fv f',Ow X.K F H fo F' H' σ v (cG a d τ).1 fv (cG a d τ).2 f'->Q v H':=q;by_cases hl:cA d=Θ
  ·unfold cG at q1;rw[f_ hl] at q1;refine rd ⟨fun _=>True,τ,cU r,?_⟩;rw[z];intro v H' e m;obtain⟨k1,k2,k3⟩:=gG FQ r e;exact q1 v H' F [] fo ⟨k3,k1,m.free hl,k2,by simpa using nd,fun a ha=>.inl (by simpa using ha)⟩
  ·have other:cG a d τ=(er d,FT (vars a) τ)->Κ (Μ X.prog X.w) X.A (eval e X.env) (EP X pins σ Q) X.xe s:=fun hk=>by rw[hk] at q1;obtain⟨F1,gg,b1,b2,b3,b4,b5,b6⟩:=gH (vars a) FQ r nd;refine rd ⟨F1,τ,b6,?_⟩;rw[z];intro v H' e m;obtain⟨c1,c2,c3⟩:=grow (fun _=>True) b1 b2 e;exact q1 v H' _ [] gg ⟨b4.trans c3 (fun x hx=>.inl (b5 x hx)),c1,m.fix.frozen,c2,by simpa using b3,fun a ha=>.inl (b5 a (by simpa using ha))⟩
   by_cases hn:cP a=Θ
   ·induction d using zD with
    | lst o ds=>
     by_cases hi:cp ds=Θ
     ·have hk:cG a (.lst o ds) τ=(.lst Θ ds,τ):=by unfold cG;rw[d_ hl,hn];show (if cp ds=Θ then _ else _)=_;rw[f_ hi]
      rw[hk] at q1;refine hN hn pins s σ H Q I ⟨fun _=>True,τ,cU r,?_⟩;show E5 ex (E3 (E8 cl a τ) fX) _;rw[z];intro p ys H' e hp hy m;obtain⟨k1,k2,k3⟩:=gG FQ r e;refine q1 (.ref p) H' F [p] fo ⟨k3,k1,.Gy (fun zz=>FQ p zz hp) hy (m.free hi),k2,?_,fun a ha=>?_⟩
      ·rw[aaC,H_];refine⟨fun zz=>?_,nd⟩;obtain⟨_,xs,e⟩:=r.own p zz;rw[hp] at e;cases e
      ·rw[aaC] at ha;rcases k_.mp ha with rfl|ha
       ·exact .inr hp
       ·exact .inl ha
     ·have hk:cG a (.lst o ds) τ=(.lst Θ (Fx ds),FT (vars a) τ):=by unfold cG;rw[d_ hl,hn];show (if cp ds=Θ then _ else _)=_;rw[d_ hi]
      rw[hk] at q1;obtain⟨F1,gg,b1,b2,b3,b4,b5,b6⟩:=gH (vars a) FQ r nd;refine hN hn pins s σ H Q I ⟨F1,τ,b6,?_⟩;show E5 ex (E3 (E8 cl a τ) fX) _;rw[z];intro p ys H' e hp hy m;obtain⟨c1,c2,c3⟩:=grow (fun a=>a≠p) b1 b2 e;have m2:E4 X.K (fun a=>F1 a∨(a≠p/\H a=Φ/\H' a≠Φ)) H' ys ds:=m.step (fun a xs h r=>⟨h.1.elim (fun z=>.inl z) fun z=>.inr ⟨h.2,z,r.some⟩,r⟩) fun a xs h=>h;refine q1 (.ref p) H' _ [p] gg ⟨b4.trans c3 (fun x hx=>.inl (b5 x hx)),c1,.Gy (fun zz=>?_) hy m2.frozen,c2,?_,fun a ha=>?_⟩
      ·rcases zz with zz|zz
       ·exact b1 p zz hp
       ·exact zz.1 rfl
      ·rw[aaC,H_];refine⟨fun zz=>?_,b3⟩;obtain⟨_,xs,e⟩:=b2.own p zz;rw[hp] at e;cases e
      ·rw[aaC] at ha;rcases k_.mp ha with rfl|ha
       ·exact .inr hp
       ·exact .inl (b5 a ha)
    | _=>refine other ?_;unfold cG;rw[d_ hl,hn]
   ·have HQ:cP a=Ξ:=by simpa using hn
    refine other ?_;unfold cG;rw[d_ hl,HQ]
theorem CG {a b:Expr}{pos:Pos}{va vb:List Nat}{fa fb:Ev->Res D}(ha:PE X a (RD X.K ex va fa))(hb:PE X b (RD X.K ex vb fb)) :
  PE X (.BinOp a .Add b pos) (RN X.K ex (va++vb) fun τ=>E3 (E3 (fa τ) fun x=>E3 (fb τ) fun y=>Hm .add x y) fX):=by
 refine cF (om kG ha hb) fun σ H Q ⟨S,τ,hs,q⟩=>?_;refine cQ (.refl _) hs.left (E5.E3 (E5.E3 q)) fun x v H1 e1 _ m1 q1=>?_;refine cQ e1 hs.right (E5.E3 q1) fun y w H2 e2 GO m2 q2=>?_;have stuck:∀ {P:Prop},Hm .add x y=FC->P:=fun z=>by rw[z] at q2;exact q2.no.elim
 induction x using zD with
 | int a=>induction y using zD with
  | int b=>exact q2.ok.no.elim
  | _=>exact stuck rfl
 | str a=>induction y using zD with
  | str b=>exact(E5.Fw q2).2.ok.no.elim
  | _=>exact stuck rfl
 | lst o a=>induction y using zD with
  | lst o' b=>obtain⟨p,xs,rfl,h1,n1⟩:=m1.JN;obtain⟨p',ys,rfl,h2,n2⟩:=m2.JN;obtain⟨gd,q3⟩:=E5.Fw q2;have g':=de gd;have l1:=n1.length;have l2:=n2.length;have Ot:Ls X.K H2 p xs:=h1.elim (fun z=>.inl (GO.rd z)) .inr;exact⟨p,p',xs,ys,rfl,rfl,Ot,h2,by omega,fun z hz=>q3.ok.ok z _ _ (e2.trans (.upd hz)) (e2.free hz) cy (qs ((n1.later GO).append n2) hz)⟩
  | _=>exact stuck rfl
 | _=>exact stuck rfl
theorem CH {a b:Expr}{pos:Pos}{va vb:List Nat}{fa fb:Ev->Res D}(ha:PE X a (RD X.K ex va fa))(hb:PE X b (RD X.K ex vb fb)) :
  PE X (.BinOp a .Mult b pos) (RN X.K ex (va++vb) fun τ=>E3 (E3 (fa τ) fun x=>E3 (fb τ) fun y=>Hm .mul x y) fX):=by
 refine cF (om oE ha hb) fun σ H Q ⟨S,τ,hs,q⟩=>?_;refine cQ (.refl _) hs.left (E5.E3 (E5.E3 q)) fun x v H1 e1 _ m1 q1=>?_;refine cQ e1 hs.right (E5.E3 q1) fun y w H2 e2 GO m2 q2=>?_;have stuck:∀ {P:Prop},Hm .mul x y=FC->P:=fun z=>by rw[z] at q2;exact q2.no.elim
 induction y using zD with
 | int b=>
  cases m2
  induction x using zD with
  | int a=>exact(E5.Fw q2).2.ok.no.elim
  | str a=>exact(E5.Fw q2).2.ok.no.elim
  | lst o a=>obtain⟨p,xs,rfl,h1,n1⟩:=m1.JN;obtain⟨gd,q3⟩:=E5.Fw q2;have gd:=p_ gd;have Ot:Ls X.K H2 p xs:=h1.elim (fun z=>.inl (GO.rd z)) .inr;exact⟨p,b,xs,rfl,rfl,Ot,gd.1,gd.2.1,by rw[n1.length];exact gd.2.2,fun z hz=>q3.ok.ok z _ _ (e2.trans (.upd hz)) (e2.free hz) cy (qs ((n1.later GO).rep b.toNat) hz)⟩
  | _=>exact stuck rfl
 | _=>induction x using zD<;>exact stuck rfl
theorem ET {a:Expr}{lo hi:Option Expr}{pos p2:Pos}{va vl vh:List Nat}{fa:Ev->Res D}{fl fh:Ev->Res (Option Int)}(ha:PE X a (RD X.K ex va fa))(hl:PO X lo (Nc X.K ex vl fl))(hh:PO X hi (Nc X.K ex vh fh)) :
  PE X (.Subscript a (.Slice lo hi Φ p2) pos) (RN X.K ex (va++vl++vh) fun τ=>E3 (E3 (fa τ) fun x=>E3 (fl τ) fun l=>E3 (fh τ) fun h=>lQ x l h) fX):=by
 refine cF (lb ou ha hl hh) fun σ H Q ⟨S,τ,hs,q⟩=>?_;refine cQ (.refl _) hs.left.left (E5.E3 (E5.E3 q)) fun x v H1 e1 _ m1 q1=>?_;refine wu e1 hs.left.right (E5.E3 q1) fun l H2 e2 GO q2=>?_;refine wu e2 hs.right (E5.E3 q2) fun h H3 e3 LL q3=>?_
 induction x using zD with
 | lst o ds=>obtain⟨p,xs,rfl,h1,n1⟩:=m1.Ga;exact⟨p,xs,rfl,(GO.trans LL).seq h1,fun z hz=>q3.ok.ok z _ _ (e3.trans (.upd hz)) (e3.free hz) cy (qs (oG l h (n1.later (GO.trans LL))) hz)⟩
 | str _=>exact(E5.Fw q3).2.ok.no.elim
 | _=>exact q3.no.elim
theorem jz (hc:X.calm=Θ):dJ X (.type "list") (fun xs H Q=>(∃ p ys,xs=[.ref p]/\(Gu X.K H p ys∨G0 X.K H p ys)/\∀ l,H l=Φ->Q (.ref l) (upd H l (.lst ys)))∨∃ z:Str,xs=[.str z]/\z.length<=Ζ/\∀ l,H l=Φ->Q (.ref l) (upd H l (.lst (eW z)))):=by
 intro pins s σ H xs us Q I r h;rcases h with h|h
 ·exact fC pins s σ H xs us Q I r h
 ·exact fU hc pins s σ H xs us Q I r h
theorem AF (g:F7 Z CX cl xp X ex G){p pos:Pos}{es:List IR}{a:Expr}{args:List Expr}(hg:G.IX (jO .list)=Θ)(Gn:dg Z G es (a::args)=Θ)(h:PA X (a::args) (RA X.K ex (cD es) (dq cl es))) :
  PE X (.Call (.Name (fD .list) p) (a::args) [] pos) (RN X.K ex (cD es) fun τ=>E3 (E3 (dq cl es τ) fun ds=>eD .list ds) fX):=by
 obtain⟨k1,k2,k3,k4⟩:=eU g (rQ .list) (kI hg);cases es with
 | nil=>cases Gn
 | cons b es=>
  have F6:(notStar a&&Fz Z G b a&&dg Z G es args)=Θ:=Gn;simp only[g_] at F6;refine cF (gP (jz (g.calm (kJ hg))) k1 k2 (oH .list) h k3 k4 (ck F6.1.1 args X.env) (dM Z G (es:=es) pos X.env F6.2)) fun σ H Q ⟨S,τ,hs,q⟩=>?_;refine md (.refl _) hs (E5.E3 (E5.E3 q)) fun ds vs H1 e1 _ m1 q1=>?_;have stuck:∀ {P:Prop},eD .list ds=FC->P:=fun z=>by rw[z] at q1;exact q1.no.elim
  match ds,m1 with
  | [],_=>exact stuck rfl
  | d::_::_,_=>exact stuck (by induction d using zD<;>rfl)
  | [d],m1=>
   obtain⟨x,rfl,hd⟩:=m1.Mp
   induction d using zD with
   | tup ds=>obtain⟨a,ys,rfl,q',m⟩:=hd.Gz;exact .inl ⟨a,ys,rfl,.inr q',fun z hz=>q1.ok.ok z _ _ (e1.trans (.upd hz)) (e1.free hz) cy (qs m hz)⟩
   | lst o ds=>obtain⟨a,ys,rfl,q',m⟩:=hd.Ga;exact .inl ⟨a,ys,rfl,.inl q',fun z hz=>q1.ok.ok z _ _ (e1.trans (.upd hz)) (e1.free hz) cy (qs m hz)⟩
   | str z=>cases hd.F4;obtain⟨gz,q1⟩:=E5.Fw q1;exact .inr ⟨z,rfl,de gz,fun l hl=>q1.ok.ok l _ _ (e1.trans (.upd hl)) (e1.free hl) cy (qs (gY z) hl)⟩
   | _=>exact stuck rfl
end
section
variable {Z:Sg}{CX:G1}{cl:Nat->List D->Res D}{xp:XK->Hp->Str->Prop}
theorem i6 {X:Cx}{ex:Str->Prop}{G:Gm}(g:F7 Z CX cl xp X ex G){i:Nat}{x:Str}{pos:Pos}(h:fI G i x=Θ):PE X (.Name x pos) (zq i):=by
 unfold fI at h;rw[g_] at h;have hx:G.N[i]? = Δ x:=h_ h.1;have hk:=g.kd i x hx;have hv:Nz X.env.scope x:=by
  have h2:=h.2;rw[X_,X_] at h2;rcases h2 with (h2|h2)|h2
  ·exact .inl (hk.trans (h_ h2))
  ·exact .inr (.inl (hk.trans (h_ h2)))
  ·exact .inr (.inr (hk.trans (h_ h2)))
 exact qB (i:=i) (by rw[g.N];exact hx) hv (g.KH i x hx).1 (g.KH i x hx).2
theorem AG {X:Cx}{ex:Str->Prop}{G G':Gm}{fr:List Nat}(g:F7 Z CX cl xp X ex G){scope:Scope}{tg iter elt:Expr}{ifs:List Expr}{pos:Pos}{T:Tg}{s:Sr}{I:List IR}{E:IR}(hs:Jk Z G scope G' fr)(hT:dI G' T tg=Θ)(ha:∀ i∈Hw T,fr.length<=i)
  (hi:eI Z G s iter=Θ/\gZ s tg=Θ) (ht:dg Z G' I ifs=Θ) (he:Fz Z G' E elt=Θ) :
  PE X (.ListComp elt [⟨tg,iter,ifs,0⟩] scope pos) (RN X.K ex (vars (.comp G' fr T s I E)) fun τ=>E3 (E8 cl (.comp G' fr T s I E) τ) fX):=by
 intro pins s' σ H Q Iv h;obtain⟨GH,S⟩:=fN g Iv.ok hs;have p:=ku (pos:=pos) (elt:=elt) (ifs:=ifs) (tg:=tg) (g:=gT X.K T) (tt:=RT X.K G8 (cD I) (fF cl I)) (te:=RD X.K G8 (vars E) (E8 cl E)) (g.calm hs.cm) S (r9 s X ex G iter tg g hi.1 hi.2) (fun C s H fp=>LM (dv g hs GH C s H fp) T tg hT)
  (fun C s H fp=>r6 I _ G8 G' ifs (dv g hs GH C s H fp) ht) (fun C s H fp=>(snd E _ G8 G' elt (dv g hs GH C s H fp) he).1) (fun x=>dN hi.1 X.env x)
 refine p pins s' σ H Q Iv ?_;obtain⟨S0,τ,Ov,q⟩:=h;have q':=E5.E3 (show E5 ex (E3 (E8 cl (.comp G' fr T s I E) τ) fX) _ from q);rw[i5] at q';exact fx hs.Oq ha Ov q' fun A ys ds H' e hA KI m k=>k.ok A ys H' e hA KI m
theorem Iz:∀ (a:IR) (X:Cx) (ex:Str->Prop) (G:Gm) (e:Expr),F7 Z CX cl xp X ex G->Fz Z G a e=Θ->cP a=Θ->PE X e (RN X.K ex (vars a) fun τ=>E3 (E8 cl a τ) fX):=by
 intro a X ex G e g h n;cases a with
 | bin op a b=>
  cases op with
  | add=>
   induction e using zE with
   | BinOp l o r pos=>have h':(o == Lb .add&&Fz Z G a l&&Fz Z G b r)=Θ:=h;simp only[g_] at h';have e1:o=Lb .add:=h_ h'.1.1;subst e1;exact CG (snd a X ex G l g h'.1.2).1 (snd b X ex G r g h'.2).1
   | _=>exists h
  | mul=>
   induction e using zE with
   | BinOp l o r pos=>have h':(o == Lb .mul&&Fz Z G a l&&Fz Z G b r)=Θ:=h;simp only[g_] at h';have e1:o=Lb .mul:=h_ h'.1.1;subst e1;exact CH (snd a X ex G l g h'.1.2).1 (snd b X ex G r g h'.2).1
   | _=>exists h
  | _=>cases n
 | sl a lo hi=>
  induction e using zE with
  | Subscript o s pos=>
   induction s using zE with
   | Slice l u st p=>
    cases st with
    | none=>have h':(Fz Z G a o&&nM Z G lo l&&nM Z G hi u)=Θ:=h;simp only[g_] at h';exact ET (snd a X ex G o g h'.1.1).1 (wB lo X ex G l g h'.1.2) (wB hi X ex G u g h'.2)
    | some _=>exists h
   | _=>exists h
  | _=>exists h
 | bi f es=>
  cases f with
  | list=>
   induction e using zE with
   | Call fn args Hs pos=>
    induction fn using zE with
    | Name x p=>
     cases Hs with
     | nil=>
      cases args with
      | nil=>exists h
      | cons a args=>have h':(x == fD .list&&G.IX (jO .list)&&dg Z G es (a::args))=Θ:=h;simp only[g_] at h';have e1:x=fD .list:=h_ h'.1.1;subst e1;exact AF g h'.1.2 h'.2 (mi es X ex G _ g h'.2)
     | cons _ _=>cases args<;>exists h
    | _=>exists h
   | _=>exists h
  | _=>cases n
 | comp G' fr tg src ifs elt=>
  induction e using zE with
  | ListComp el gens scope pos=>have h:nL gens (fun t it fs=>dz Z G scope G' fr&&dI G' tg t&&(Hw tg).all (fun i=>decide (fr.length<=i))&&(eI Z G src it&&gZ src t)&&dg Z G' ifs fs&&Fz Z G' elt el)=Θ:=h;obtain⟨t,it,fs,rfl,h⟩:=il h;have h':(dz Z G scope G' fr&&dI G' tg t&&(Hw tg).all (fun i=>decide (fr.length<=i))&&(eI Z G src it&&gZ src t)&&dg Z G' ifs fs&&Fz Z G' elt el)=Θ:=h;simp only[g_] at h';exact AG g (ip h'.1.1.1.1.1) h'.1.1.1.1.2 (fun i hi=>p_ (U_.mp h'.1.1.1.2 i hi)) h'.1.1.2 h'.1.2 h'.2
  | _=>exists h
 | _=>cases n
mutual
theorem Lf:∀ (a:IR) (mv:Bool) (X:Cx) (ex:Str->Prop) (G:Gm) (e:Expr),F7 Z CX cl xp X ex G->Fz Z G a e=Θ->PE X e (RO X.K ex (Gb cl mv a))
 | .v i,mv,X,ex,G,e,g,h=>by
  induction e using zE with
  | Name x pos=>exact P4 (i6 g h) mv
  | _=>exists h
 | .tup es,mv,X,ex,G,e,g,h=>by
  induction e using zE with
  | Tuple l n pos=>exact JC (AH es mv X ex G l g h)
  | _=>exists h
 | .lst es,mv,X,ex,G,e,g,h=>by
  induction e using zE with
  | List l pos=>exact JD (AH es mv X ex G l g h)
  | _=>exists h
 | .ite t a b,mv,X,ex,G,e,g,h=>by
  induction e using zE with
  | IfExp c x y pos=>have h':(Fz Z G t c&&Fz Z G a x&&Fz Z G b y)=Θ:=h;simp only[g_] at h';exact JE (snd t X ex G c g h'.1.1).2 (Lf a mv X ex G x g h'.1.2) (Lf b mv X ex G y g h'.2)
  | _=>exists h
 | .call f es,mv,X,ex,G,e,g,h=>by
  induction e using zE with
  | Call fn args Hs pos=>
   induction fn using zE with
   | Name x p=>
    cases Hs with
    | nil=>have h':(iV Z G f x&&Z.LI G f&&dg Z G es args)=Θ:=h;simp only[g_] at h';exact Ij g h'.1.1 h'.1.2 h'.2 mv
    | cons _ _=>exists h
   | _=>exists h
  | _=>exists h
 | .c d,mv,X,ex,G,e,g,h=>dj (snd _ X ex G e g h).1 (Iz _ X ex G e g h)
 | .g n d,mv,X,ex,G,e,g,h=>dj (snd _ X ex G e g h).1 (Iz _ X ex G e g h)
 | .bin op a b,mv,X,ex,G,e,g,h=>dj (snd _ X ex G e g h).1 (Iz _ X ex G e g h)
 | .neg a,mv,X,ex,G,e,g,h=>dj (snd _ X ex G e g h).1 (Iz _ X ex G e g h)
 | .cmp op a b,mv,X,ex,G,e,g,h=>dj (snd _ X ex G e g h).1 (Iz _ X ex G e g h)
 | .chain op Gk a b c,mv,X,ex,G,e,g,h=>dj (snd _ X ex G e g h).1 (Iz _ X ex G e g h)
 | .Gd a b,mv,X,ex,G,e,g,h=>dj (snd _ X ex G e g h).1 (Iz _ X ex G e g h)
 | .II a b,mv,X,ex,G,e,g,h=>dj (snd _ X ex G e g h).1 (Iz _ X ex G e g h)
 | .GA a,mv,X,ex,G,e,g,h=>dj (snd _ X ex G e g h).1 (Iz _ X ex G e g h)
 | .idx a i,mv,X,ex,G,e,g,h=>dj (snd _ X ex G e g h).1 (Iz _ X ex G e g h)
 | .sl a lo hi,mv,X,ex,G,e,g,h=>dj (snd _ X ex G e g h).1 (Iz _ X ex G e g h)
 | .bi f es,mv,X,ex,G,e,g,h=>dj (snd _ X ex G e g h).1 (Iz _ X ex G e g h)
 | .Hl a k,mv,X,ex,G,e,g,h=>dj (snd _ X ex G e g h).1 (Iz _ X ex G e g h)
 | .sset a,mv,X,ex,G,e,g,h=>dj (snd _ X ex G e g h).1 (Iz _ X ex G e g h)
 | .Ho a,mv,X,ex,G,e,g,h=>dj (snd _ X ex G e g h).1 (Iz _ X ex G e g h)
 | .Hq a b,mv,X,ex,G,e,g,h=>dj (snd _ X ex G e g h).1 (Iz _ X ex G e g h)
 | .Jx m o es,mv,X,ex,G,e,g,h=>dj (snd _ X ex G e g h).1 (Iz _ X ex G e g h)
 | .comp G' fr tg src ifs elt,mv,X,ex,G,e,g,h=>dj (snd _ X ex G e g h).1 (Iz _ X ex G e g h)
theorem AH:∀ (as:List IR) (mv:Bool) (X:Cx) (ex:Str->Prop) (G:Gm) (l:List Expr),F7 Z CX cl xp X ex G->dg Z G as l=Θ->PA X l (Ng X.K ex (jy cl mv as))
 | [],mv,X,ex,G,l,g,h=>by
  cases l with
  | nil=>exact AE
  | cons _ _=>exists h
 | a::as,mv,X,ex,G,l,g,h=>by
  cases l with
  | nil=>exists h
  | cons e l=>have h':(notStar e&&Fz Z G a e&&dg Z G as l)=Θ:=h;simp only[g_] at h';exact wC h'.1.1 (Lf a mv X ex G e g h'.1.2) (AH as mv X ex G l g h'.2)
end
end
structure Bs (io:Option Nat) where
 F:Ω->Prop
 H:Hp
 L:Ω->LD->Prop
 T:Ω->List V ⊕ Str->Prop
 N:Option Ω:=Φ
structure Gh (K:Frag){io:Option Nat}(B:Bs io)(F:Ω->Prop)(H:Hp)(σ:St)(τ:Ev)(f:List Ω):Prop where
 FQ:HV F H
 Gq:FU K F H σ τ f
 Gj:f.Nodup
 same:cz B.H H
 own:∀ a∈f,B.H a=Φ
 HP:∀ a,B.F a->F a
 out:∀ a,F a->B.F a∨B.H a=Φ
 pin:∀ a xs,B.L a xs->F a/\Rd H a xs.o
 KO:∀ a xs,B.T a xs->GF K H a xs
 nm:∀ j a,io=Δ j->B.N=Δ a->σ[j]? = Δ (Δ (.ref a))
def Fk (K:Frag){io:Option Nat}(B:Bs io)(Dn:Ends):Fl->Prop
 | .nx τ=>∀ σ H F f,Gh K B F H σ τ f->Dn.nx σ H
 | .bk τ=>∀ σ H F f,Gh K B F H σ τ f->Dn.bk σ H
 | .ct τ=>∀ σ H F f,Gh K B F H σ τ f->Dn.ct σ H
 | .rt d=>∀ v H F fv,Out K B.F B.H F H v d fv->Dn.rt v H
 | .ri d ks es=>∀ v H F fv FL a,(∀ a',B.N=Δ a'->a'=a)->Out K B.F B.H F H v d fv->¬ F a->a∉fv->H a=Δ (.dK FL)->FL.map (·.1)=ks->E4 K F H (FL.map (·.2)) es->Dn.rt v H
def RS (K:Frag)(io:Option Nat)(ex:Str->Prop)(g:Ev->Res Fl):TS:=fun Dn σ H=>∃ (B:Bs io),∃ F τ f,Gh K B F H σ τ f/\E5 ex (g τ) (Fk K B Dn)
section
variable {K:Frag}{io:Option Nat}{B:Bs io}{F F':Ω->Prop}{H H':Hp}{σ:St}{τ τ':Ev}{f f':List Ω}{ex:Str->Prop}
theorem Gh.HW (m:Gh K B F H σ τ f)(s:Jm F H f F' H')(FQ:HV F' H')(r:FU K F' H' σ τ' f')(nd:f'.Nodup)(hm:∀ a∈f',a∈f∨H a=Φ):Gh K B F' H' σ τ' f' where
 FQ:=FQ
 Gq:=r
 Gj:=nd
 same:=m.same.trans s.same
 own:=fun a ha=>(hm a ha).elim (m.own a) fun z=>m.same.free z
 HP:=fun a h=>s.HP a (m.HP a h)
 out:=fun a h=>by
  rcases s.out a h with h|h|h
  ·exact m.out a h
  ·exact .inr (m.own a h)
  ·exact .inr (m.same.free h)
 pin:=fun a xs h=>⟨s.HP a (m.pin a xs h).1,s.same.rd (m.pin a xs h).2⟩
 KO:=fun a xs h=>s.same.HL (m.KO a xs h)
 nm:=m.nm
theorem Gh.ow {v:V}{d:D}{fv:List Ω}(m:Gh K B F H σ τ f)(o:Ow K F H f F' H' σ v d fv τ' f'):Gh K B F' H' σ τ' f'/\∀ a∈fv,B.H a=Φ:=
 ⟨m.HW o.HW o.FQ o.Gq (s_.mp o.Gj).2.1 fun a ha=>o.mem a (r_ _ ha),fun a ha=>(o.mem a (q_ _ ha)).elim (m.own a) fun z=>m.same.free z⟩
theorem Gh.grow (m:Gh K B F H σ τ f)(e:cz H H'):Gh K B F H' σ τ f:=by obtain⟨k1,k2,k3⟩:=gG m.FQ m.Gq e;exact m.HW k3 k1 k2 m.Gj fun a ha=>.inl ha
theorem Gh.ro {g:Ev->Res (D×Ev)}{Kt:D×Ev->Prop}{Q:VK}(m:Gh K B F H σ τ f)(h:E5 ex (g τ) Kt)(k:∀ p v H' F' fv f',Ow K F H f F' H' σ v p.1 fv p.2 f'->Kt p->Q v H'):RO K ex g σ H Q:=
 ⟨F,τ,f,m.FQ,m.Gq,m.Gj,h.mono fun p hp v H' F' fv f' o=>k p v H' F' fv f' o hp⟩
theorem Gh.rt {is:List Nat}{g:Ev->Res Bool}{Kt:Bool->Prop}{Q:Bool->Hp->Prop}(m:Gh K B F H σ τ f)(h:E5 ex (g τ) Kt)(k:∀ b H',Gh K B F H' σ τ f->cz H H'->Kt b->Q b H'):RT K ex is g σ H Q:=
 fT (.refl _) (cU m.Gq) h fun b H2 e2 _ hb=>k b H2 (m.grow e2) e2 hb
theorem Gh.rd {is:List Nat}{g:Ev->Res D}{Kt:D->Prop}{Q:VK}(m:Gh K B F H σ τ f)(h:E5 ex (g τ) Kt)(k:∀ d v H',Gh K B F H' σ τ f->cz H H'->E6 K (nw (fun _=>True) H) H' v d->Kt d->Q v H'):RD K ex is g σ H Q:=
 cQ (.refl _) (cU m.Gq) h fun b v H2 e2 _ mv hb=>k b v H2 (m.grow e2) e2 mv hb
mutual
theorem sf:∀ (t:Tg) {σ:St}{τ:Ev}{f:List Ω}{v:V}{d:D}{fv:List Ω}{Kt:Ev->Prop}{Q:St->Hp->Prop},FU K F H σ τ f->FE K F H v d fv->(fv++f).Nodup->E5 ex (dH t d τ) Kt->
  (∀ τ' FI f',FU K F H FI τ' f'->f'.Nodup->(∀ a∈f',a∈fv++f)->(∀ j,j∉Hw t->FI[j]? = σ[j]?)->Kt τ'->Q FI H)->gT K t v σ H Q
 | .nm i,σ,τ,f,v,d,fv,Kt,Q,r,m,nd,h,k=>by obtain⟨g,h',r2,p2⟩:=r.put i m;have LN:(g++h').Nodup:=p2.nodup_iff.mpr nd;exact k (τ.set i (Δ d)) (σ.set i (Δ v)) g r2 (s_.mp LN).1 (fun a ha=>p2.mem_iff.mp (q_ _ ha)) (fun j hj=>aax (fun z=>hj (by rw[<- z];exact t_.mpr rfl))) h.ok
 | .tp ts,σ,τ,f,v,d,fv,Kt,Q,r,m,nd,h,k=>by
  cases m with
  | tup h1 h2=>obtain⟨gd,h⟩:=E5.Fw h;have g':=p_ gd;exact⟨_,_,rfl,.inl h1,by rw[h2.length];exact g',gI ts r h2 nd h k⟩
  | Jf h0 h1 h2=>obtain⟨gd,h⟩:=E5.Fw h;have g':=p_ gd;exact⟨_,_,rfl,.inr (.inl h1),by rw[h2.length];exact g',gI ts r h2 nd h k⟩
  | lstK h1 h2=>obtain⟨gd,h⟩:=E5.Fw h;have g':=p_ gd;exact⟨_,_,rfl,.inr h1.sq,by rw[h2.length];exact g',gI ts r h2 nd h k⟩
  | Gy h0 h1 h2=>obtain⟨gd,h⟩:=E5.Fw h;have g':=p_ gd;rw[c_,H_] at nd;exact⟨_,_,rfl,.inr (.inl (.inl h1)),by rw[h2.length];exact g',gI ts r h2 nd.2 h fun τ' FI f' a1 a2 a3 a5 a4=>k τ' FI f' a1 a2 (fun x hx=>by rw[c_];exact G_ _ (a3 x hx)) a5 a4⟩
  | _=>exact h.no.elim
theorem gI:∀ (ts:List Tg) {σ:St}{τ:Ev}{f:List Ω}{vs:List V}{ds:List D}{fv:List Ω}{Kt:Ev->Prop}{Q:St->Hp->Prop},FU K F H σ τ f->E7 K F H vs ds fv->(fv++f).Nodup->E5 ex (gq ts ds τ) Kt->
  (∀ τ' FI f',FU K F H FI τ' f'->f'.Nodup->(∀ a∈f',a∈fv++f)->(∀ j,j∉l8 ts->FI[j]? = σ[j]?)->Kt τ'->Q FI H)->Oo K ts vs σ H Q
 | [],σ,τ,f,vs,ds,fv,Kt,Q,r,m,nd,h,k=>by
  cases m with
  | nil=>exact⟨rfl,k τ σ f r (by simpa using nd) (fun a ha=>by simpa using ha) (fun _ _=>rfl) h.ok⟩
  | cons _ _=>exact h.no.elim
 | t::ts,σ,τ,f,vs,ds,fv,Kt,Q,r,m,nd,h,k=>by
  cases m with
  | nil=>exact h.no.elim
  | cons m1 m2=>
   rename_i v d f1 vs ds f2
   have KN:(f2++(f1++f)).Nodup:=by refine(List.Perm.nodup_iff ?_).mp nd;rw[<- C_];exact List.Perm.append_right f aai
   refine⟨_,_,rfl,sf t r m1 (s_.mp KN).2.1 (E5.E3 h) fun τ' FI f' r' R9 My PY h'=>?_⟩;refine gI ts r' m2 (s_.mpr ⟨(s_.mp KN).1,R9,fun a h1 b h2 e=>(s_.mp KN).2.2 a h1 b (My b h2) e⟩) h' fun Mw Mx Ni Yh Sa Mj Sb N4=>k Mw Mx Ni Yh Sa (fun a ha=>?_) (fun j hj=>(Sb j fun z=>hj (r_ _ z)).trans (PY j fun z=>hj (q_ _ z))) N4;rcases x_.mp (Mj a ha) with z|z
   ·exact q_ _ (r_ _ z)
   ·rcases x_.mp (My a z) with z|z
    ·exact q_ _ (q_ _ z)
    ·exact r_ _ z
end
theorem Gh.gT {t:Tg}{v:V}{d:D}{fv:List Ω}{Kt:Ev->Prop}{Q:St->Hp->Prop}(m:Gh K B F H σ τ f)(mv:FE K F H v d fv)(nd:(fv++f).Nodup)(hb:∀ a∈fv,B.H a=Φ)(JU:∀ j∈Hw t,io≠Δ j)(h:E5 ex (dH t d τ) Kt)
  (k:∀ τ' FI f',Gh K B F H FI τ' f'->Kt τ'->Q FI H):L2.gT K t v σ H Q:=
 sf t m.Gq mv nd h fun τ' FI f' r' R9 hm hj h'=>k τ' FI f' ⟨m.FQ,r',R9,m.same,fun a ha=>(x_.mp (hm a ha)).elim (hb a) (m.own a),m.HP,m.out,m.pin,m.KO,fun j a e1 e2=>(hj j fun z=>JU j z e1).trans (m.nm j a e1 e2)⟩ h'
theorem Gh.write {i:Nat}{ds ds':List D}{w:V}{d:D}{fv:List Ω}{l:Ω}{xs ys:List V}(m:Gh K B F H σ τ f)(hs:cu τ i=Δ (.lst Θ ds))(G9:σ[i]? = Δ (Δ (.ref l)))(hl:H l=Δ (.lst xs))(mw:FE K F H w d fv)(nd:(fv++f).Nodup)(hb:∀ a∈fv,B.H a=Φ)
  (hy:∀ fi,E7 K F H xs ds fi->∃ fl h,E7 K F H ys ds' fl/\(fl++h).Perm (fv++fi)):∃ f',Gh K B F (upd H l (.lst ys)) σ (τ.set i (Δ (.lst Θ ds'))) f':=by
 obtain⟨v,fs,g,h1,h2,h3,h4⟩:=m.Gq.at hs;rw[G9] at h1;cases h1;cases h2 with
 | @Gy a Rp Sd fi hF hH hm=>
  rw[hl] at hH;cases hH;obtain⟨fl,h,My,hp⟩:=hy fi hm;have Lg:((l::fi)++g).Nodup:=h4.nodup_iff.mp m.Gj;have P5:(fv++((l::fi)++g)).Nodup:=(aal fv h4).nodup_iff.mp nd;have lg:l∉g:=by rw[c_,H_] at Lg;exact fun z=>Lg.1 (r_ _ z)
  have Yi:l∉fi:=by rw[c_,H_] at Lg;exact fun z=>Lg.1 (q_ _ z)
  have Yj:l∉fv:=fun z=>(s_.mp P5).2.2 l z l (by simp) rfl;have Mz:∀ a∈fl,a∈fv++fi:=fun a ha=>hp.mem_iff.mp (q_ _ ha);have Vk:l∉fl:=fun z=>(x_.mp (Mz l z)).elim Yj Yi;have sl:∀ a (u:LD),F a->Rd H a u.o->F a/\Rd (upd H l (.lst ys)) a u.o:=fun a xs h r=>by refine⟨h,?_⟩;have:a≠l:=fun z=>hF (by rw[<- z];exact h);unfold Rd;rw[cv this];exact r
  have st:∀ a xs,GF K H a xs->GF K (upd H l (.lst ys)) a xs:=fun a xs h=>h.upd hl;have r1:FU K F (upd H l (.lst ys)) σ (τ.set i Φ) g:=h3.step sl st fun a ha n _=>⟨n,cv fun z=>lg (by rw[<- z];exact ha)⟩
  have m1:FE K F (upd H l (.lst ys)) (.ref l) (.lst Θ ds') (l::fl):=.Gy hF cy (My.step sl st fun a ha n _=>⟨n,cv fun z=>Vk (by rw[<- z];exact ha)⟩);obtain⟨g',h',r2,p2⟩:=r1.put i m1;have Sf:σ.set i (Δ (.ref l))=σ:=by
   apply List.ext_getElem?;intro j;rw[List.getElem?_set];by_cases hj:i=j
   ·subst hj;have F0:i < σ.length:=(v_.mp G9).1;rw[f_ rfl,f_ F0,G9]
   ·rw[d_ hj]
  rw[Sf,List.set_set] at r2;have Yk:((l::fl)++g).Nodup:=by
   rw[c_,H_];refine⟨fun z=>(x_.mp z).elim Vk lg,s_.mpr ⟨?_,(s_.mp Lg).2.1,fun a h1 b h2 e=>?_⟩⟩
   ·have:(fl++h).Nodup:=hp.nodup_iff.mpr (s_.mpr ⟨(s_.mp P5).1,(H_.mp (s_.mp Lg).1).2,fun a h1 b h2 e=>(s_.mp P5).2.2 a h1 b (q_ _ (G_ _ h2)) e⟩);exact(s_.mp this).1
   ·subst e;rcases x_.mp (Mz a h1) with z|z
    ·exact(s_.mp P5).2.2 a z a (r_ _ h2) rfl
    ·exact(s_.mp Lg).2.2 a (G_ _ z) a h2 rfl
  have LN:(g'++h').Nodup:=p2.nodup_iff.mpr Yk;have lB:B.H l=Φ:=m.own l (h4.mem_iff.mpr (by simp));refine⟨g',fun a h=>?_,r2,(s_.mp LN).1,fun b o MA=>?_,fun a ha=>?_,m.HP,m.out,fun a xs h=>⟨(m.pin a xs h).1,(sl a xs (m.pin a xs h).1 (m.pin a xs h).2).2⟩,fun a xs h=>st a xs (m.KO a xs h),m.nm⟩
  ·have:a≠l:=fun z=>hF (by rw[<- z];exact h);rw[cv this];exact m.FQ a h
  ·have:b≠l:=fun z=>by rw[z,lB] at MA;cases MA
   rw[cv this];exact m.same _ _ MA
  ·have:a∈(l::fl)++g:=p2.mem_iff.mp (q_ _ ha);rcases x_.mp this with z|z
   ·rcases k_.mp z with rfl|z
    ·exact lB
    ·rcases x_.mp (Mz a z) with z|z
     ·exact hb a z
     ·exact m.own a (h4.mem_iff.mpr (q_ _ (G_ _ z)))
   ·exact m.own a (h4.mem_iff.mpr (r_ _ z))
theorem E7.set {w:V}{d:D}{fv:List Ω}(mw:FE K F H w d fv):∀ {xs:List V}{ds:List D}{fi:List Ω} (j:Nat),E7 K F H xs ds fi->∃ fl h,E7 K F H (xs.set j w) (ds.set j d) fl/\(fl++h).Perm (fv++fi)
 | _,_,_,_,.nil=>⟨[],_,.nil,.refl _⟩
 | _,_,_,0,.cons (f:=f0) (g:=g0) m1 m2=>⟨_,f0,.cons mw m2,by rw[C_];exact aal _ aai⟩
 | _,_,_,j+1,.cons (f:=f0) (g:=g0) m1 m2=>by obtain⟨fl,h,h1,h2⟩:=E7.set mw j m2;refine⟨f0++fl,h,.cons m1 h1,?_⟩;rw[C_];refine(aal f0 h2).trans ?_;rw[<- C_,<- C_];exact List.Perm.append_right g0 aai
theorem E7.snoc {w:V}{d:D}{fv:List Ω}(mw:FE K F H w d fv){xs:List V}{ds:List D}{fi:List Ω}(m:E7 K F H xs ds fi):∃ fl h,E7 K F H (xs++[w]) (ds++[d]) fl/\(fl++h).Perm (fv++fi):=
 ⟨fi++(fv++[]),[],m.append (.cons mw .nil),by rw[aaj,aaj];exact aai⟩
end
noncomputable def notTuple:Expr->Bool
 | .Tuple ..=>Ξ
 | _=>Θ
noncomputable def kL:Expr->Bool
 | .ListComp ..=>Ξ
 | .SetComp ..=>Ξ
 | .DictComp ..=>Ξ
 | _=>Θ
noncomputable def isName:Expr->Bool
 | .Name ..=>Θ
 | _=>Ξ
noncomputable def isTup:Expr->Bool
 | .Tuple ..=>Θ
 | _=>Ξ
noncomputable def P6:Stmt->(List Expr->Expr->Bool)->Bool
 | .Assign ts v _,k=>k ts v
 | _,_=>Ξ
theorem nP {s:Stmt}{k:List Expr->Expr->Bool}(h:P6 s k=Θ):∃ ts v p,s=.Assign ts v p/\k ts v=Θ:=by
 induction s using zS with
 | Assign ts v p=>exact⟨ts,v,p,rfl,h⟩
 | _=>exact bU h
noncomputable def Sh:Expr->(List Expr->Bool)->Bool
 | .List es _,k=>k es
 | _,_=>Ξ
theorem sh {e:Expr}{k:List Expr->Bool}(h:Sh e k=Θ):∃ es p,e=.List es p/\k es=Θ:=by
 induction e using zE with
 | List es p=>exact⟨es,p,rfl,h⟩
 | _=>exact bU h
noncomputable def isAdd:Operator->Bool
 | .Add=>Θ
 | _=>Ξ
noncomputable def Vl:Expr->(Expr->Expr->Bool)->Bool
 | .BinOp a o b _,k=>isAdd o&&k a b
 | _,_=>Ξ
theorem AJ {e:Expr}{k:Expr->Expr->Bool}(h:Vl e k=Θ):∃ a b p,e=.BinOp a .Add b p/\k a b=Θ:=by
 induction e using zE with
 | BinOp a o b p=>
  cases o with
  | Add=>exact⟨a,b,p,rfl,h⟩
  | _=>exact bU h
 | _=>exact bU h
noncomputable def Sk:Expr->(Expr->Expr->Bool)->Bool
 | .Subscript a b _,k=>k a b
 | _,_=>Ξ
theorem si {e:Expr}{k:Expr->Expr->Bool}(h:Sk e k=Θ):∃ a b p,e=.Subscript a b p/\k a b=Θ:=by
 induction e using zE with
 | Subscript a b p=>exact⟨a,b,p,rfl,h⟩
 | _=>exact bU h
noncomputable def P7 (s:Stmt)(k:Expr->Expr->Bool):Bool:=P6 s fun ts v=>JP ts fun t=>Vl v fun e r=>Sh r fun es=>JP es fun z=>Sh z fun zs=>zs.isEmpty&&k t e
theorem AK {s:Stmt}{k:Expr->Expr->Bool}(h:P7 s k=Θ):∃ t e lp lq bp pos,s=.Assign [t] (.BinOp e .Add (.List [.List [] lp] lq) bp) pos/\k t e=Θ:=by
 obtain⟨ts,v,p,rfl,h1⟩:=nP h;obtain⟨t,rfl,h2⟩:=eG h1;obtain⟨e,r,bp,rfl,h3⟩:=AJ h2;obtain⟨es,lq,rfl,h4⟩:=sh h3;obtain⟨z,rfl,h5⟩:=eG h4;obtain⟨zs,lp,rfl,h6⟩:=sh h5;cases zs with
 | nil=>exact⟨_,_,_,_,_,_,rfl,h6⟩
 | cons _ _=>exact bU h6
noncomputable def Vm (s:Stmt)(k:Expr->Str->Expr->Bool):Bool:=P6 s fun ts v=>JP ts fun t=>Sk v fun o e=>LJ (fun x=>k t x e) o
theorem AM {s:Stmt}{k:Expr->Str->Expr->Bool}(h:Vm s k=Θ):∃ t x p e sp pos,s=.Assign [t] (.Subscript (.Name x p) e sp) pos/\k t x e=Θ:=by obtain⟨ts,v,p,rfl,h1⟩:=nP h;obtain⟨t,rfl,h2⟩:=eG h1;obtain⟨o,e,sp,rfl,h3⟩:=si h2;obtain⟨x,p',rfl,h4⟩:=f9 h3;exact⟨_,_,_,_,_,_,rfl,h4⟩
noncomputable def Vn:Stmt->(Expr->List Stmt->List Stmt->Bool)->Bool
 | .If c a b _,k=>k c a b
 | _,_=>Ξ
theorem AN {s:Stmt}{k:Expr->List Stmt->List Stmt->Bool}(h:Vn s k=Θ):∃ c a b p,s=.If c a b p/\k c a b=Θ:=by
 induction s using zS with
 | If c a b p=>exact⟨c,a,b,p,rfl,h⟩
 | _=>exact bU h
noncomputable def Vo:Stmt->(Expr->Bool)->Bool
 | .Expr e _,k=>k e
 | _,_=>Ξ
theorem AO {s:Stmt}{k:Expr->Bool}(h:Vo s k=Θ):∃ e p,s=.Expr e p/\k e=Θ:=by
 induction s using zS with
 | Expr e p=>exact⟨e,p,rfl,h⟩
 | _=>exact bU h
noncomputable def Vp:Expr->(Expr->Str->Pos->Bool)->Bool
 | .Attribute o n p,k=>k o n p
 | _,_=>Ξ
theorem AQ {e:Expr}{k:Expr->Str->Pos->Bool}(h:Vp e k=Θ):∃ o n p,e=.Attribute o n p/\k o n p=Θ:=by
 induction e using zE with
 | Attribute o n p=>exact⟨o,n,p,rfl,h⟩
 | _=>exact bU h
noncomputable def alt (s:Stmt)(k:Str->Expr->Expr->Bool):Bool:=P6 s fun ts v=>JP ts fun t=>Sk t fun o e=>LJ (fun x=>k x e v) o
theorem AR {s:Stmt}{k:Str->Expr->Expr->Bool}(h:alt s k=Θ):∃ y p e sp v vp,s=.Assign [.Subscript (.Name y p) e sp] v vp/\k y e v=Θ:=by obtain⟨ts,v,vp,rfl,h3⟩:=nP h;obtain⟨t,rfl,h4⟩:=eG h3;obtain⟨o,e,sp,rfl,h5⟩:=si h4;obtain⟨y,p,rfl,h6⟩:=f9 h5;exact⟨_,_,_,_,_,_,rfl,h6⟩
noncomputable def Vq (s:Stmt)(k:Str->Str->Bool->Expr->Bool):Bool:=Vo s fun b=>M8 b fun f ws FJ=>Vp f fun o name apos=>LJ (fun y'=>JP ws fun w=>k y' name (apos.endLine == FJ.line) w) o
theorem AU {s:Stmt}{k:Str->Str->Bool->Expr->Bool}(h:Vq s k=Θ):∃ y' p' name apos w FJ ep,s=.Expr (.Call (.Attribute (.Name y' p') name apos) [w] [] FJ) ep/\k y' name (apos.endLine == FJ.line) w=Θ:=by obtain⟨b,ep,rfl,h8⟩:=AO h;obtain⟨f,ws,FJ,rfl,h9⟩:=iW h8;obtain⟨o,name,apos,rfl,KC⟩:=AQ h9;obtain⟨y',p',rfl,Lz⟩:=f9 KC;obtain⟨w,rfl,Md⟩:=eG Lz;exact⟨_,_,_,_,_,_,_,rfl,Md⟩
noncomputable def Vr (s:Stmt)(k:Expr->Str->Expr->Expr->Str->Str->Bool->Expr->Bool):Bool:=Vn s fun c a b=>JP a fun a=>alt a fun y e v=>JP b fun b=>Vq b fun y' name l w=>k c y e v y' name l w
theorem AV {s:Stmt}{k:Expr->Str->Expr->Expr->Str->Str->Bool->Expr->Bool}(h:Vr s k=Θ):∃ c y p e sp v vp y' p' name apos w FJ ep pos,s=.If c [.Assign [.Subscript (.Name y p) e sp] v vp] [.Expr (.Call (.Attribute (.Name y' p') name apos) [w] [] FJ) ep] pos/\k c y e v y' name (apos.endLine == FJ.line) w=Θ:=by obtain⟨c,a,b,pos,rfl,h1⟩:=AN h;obtain⟨a,rfl,h2⟩:=eG h1;obtain⟨y,p,e,sp,v,vp,rfl,h3⟩:=AR h2;obtain⟨b,rfl,h4⟩:=eG h3;obtain⟨y',p',name,apos,w,FJ,ep,rfl,h5⟩:=AU h4;exact⟨_,_,_,_,_,_,_,_,_,_,_,_,_,_,_,rfl,h5⟩
noncomputable def oU (Z:Sg)(G:Gm)(i j:Nat)(e c x v w:IR)(s s':Stmt):Bool:=
 (Vm s fun t xi se=>isName t&&dI G (.nm j) t&&fI G i xi&&dS se&&Fz Z G e se&&decide (i≠j)) &&
 Vr s' fun ce y se ve y' name l we=>Fz Z G c ce&&fI G j y&&dS se&&Fz Z G x se&&Fz Z G v ve&&fI G j y'&&name == "append"&&l&&notStar we&&Fz Z G w we
mutual
noncomputable def nQ (Z:Sg)(G:Gm):IS->Stmt->Bool
 | .asg tg e,.Assign [t] v _=>dI G tg t&&Fz Z G e v&&(isName t||(isTup t&&notTuple v))
 | .IJ i k e,.Assign [.Subscript (.Name x _) s _] v _=>fI G i x&&dS s&&Fz Z G k s&&Fz Z G e v
 | .M5 j G' fr t src,s=>P7 s fun tg e=>isName tg&&dI G (.nm j) tg&&Fz Z G (.comp G' fr (.nm t) src [] (.lst [])) e
 | .ins i k e,.Expr (.Call (.Attribute (.Name x _) name apos) [s,v] [] FJ) _=>fI G i x&&name == "insert"&&apos.endLine == FJ.line&&(notStar s&&notStar v)&&Fz Z G k s&&Fz Z G e v
 | .app i e,.Expr (.Call (.Attribute (.Name x _) name apos) [v] [] FJ) _=>fI G i x&&name == "append"&&apos.endLine == FJ.line&&notStar v&&Fz Z G e v
 | .exp e,.Expr v _=>kL v&&Fz Z G e v
 | .ret e,.Return (Δ v) _=>Fz Z G e v
 | .Ki e,.Return (Δ v) _=>Fz Z G e v
 | .FO t a b,.If c x y _=>Fz Z G t c&&d5 Z G a x&&d5 Z G b y
 | .FZ tg s body,.For t it b [] _=>((G.cm&&G.rs)&&dI G tg t)&&(eI Z G s it&&gZ s t)&&d5 Z G body b
 | .never,_=>Θ
 | _,_=>Ξ
noncomputable def d5 (Z:Sg)(G:Gm):List IS->List Stmt->Bool
 | [],[]=>Θ
 | .K9 i j e c x v w::as,s::s'::ss=>oU Z G i j e c x v w s s'&&d5 Z G as ss
 | a::as,s::ss=>nQ Z G a s&&d5 Z G as ss
 | _,_=>Ξ
end
noncomputable def xM:IS->Bool
 | .K9 _ _ _ _ _ _ _=>Θ
 | _=>Ξ
theorem nR {Z:Sg}{G:Gm}{a:IS}{as:List IS}{s:Stmt}{ss:List Stmt}(h:xM a=Ξ):d5 Z G (a::as) (s::ss)=(nQ Z G a s&&d5 Z G as ss):=by
 induction a using zT<;>first|rfl|cases h
section
variable {Z:Sg}{CX:G1}{cl:Nat->List D->Res D}{xp:XK->Hp->Str->Prop}{X:Cx}{ex:Str->Prop}{G:Gm}
theorem xN {tg:Tg}{t:Expr}(ht:dI G tg t=Θ){ga:Ev->Res (D×Ev)}{Dn:Ends}{σ:St}{H:Hp}(h:RS X.K G.io ex (fun τ=>E3 (ga τ) fun p=>E3 (dH tg p.1 p.2) fun τ'=>.ok (.nx τ')) Dn σ H):zC (RO X.K ex ga) (gT X.K tg) Dn σ H:=by obtain⟨B,F,τ,f,m,q⟩:=h;refine m.ro (E5.E3 q) fun p v H' F' fv f' o hp=>?_;obtain⟨m',hb⟩:=m.ow o;exact m'.gT o.rep o.Gj hb (gE tg t ht) (E5.E3 hp) fun τ' FI Ni Lh h'=>h'.ok _ _ _ _ Lh
theorem Ik (g:F7 Z CX cl xp X ex G){tg:Tg}{e:IR}{t v:Expr}{pos:Pos}(ht:dI G tg t=Θ)(hv:Fz Z G e v=Θ)(hc:(isName t||(isTup t&&notTuple v))=Θ):PS X (.Assign [t] v pos) (RS X.K G.io ex (Gv cl (.asg tg e))):=by
 have pe:=Lf e Ξ X ex G v g hv;have pg:=LM g tg t ht
 induction t using zE with
 | Name x px=>
  cases tg with
  | tp _=>cases ht
  | nm i=>
   have IT:(G.N[i]? == Δ x&&(G.kd[i]? == Δ .local||(G.df&&G.kd[i]? == Δ .cell)))=Θ:=(D_.mp ht).1;rw[g_,X_,g_] at IT;have hx:G.N[i]? = Δ x:=h_ IT.1;have hk:=g.kd i x hx;have Ko:Loc X.env.scope x:=IT.2.elim (fun z=>.inl (hk.trans (h_ z))) fun z=>.inr (hk.trans (h_ z.2));have KS:X.fn x=Θ∨X.env.scope.names.lookup x=Δ .local:=IT.2.elim (fun z=>.inr (hk.trans (h_ z))) fun z=>.inl (g.df z.1 x);have plain:swapsWith v (Δ (.Name x px)) pos.line X.env=pure Ξ->PS X (.Assign [.Name x px] v pos) (RS X.K G.io ex (Gv cl (.asg (.nm i) e))):=fun hs=>
    dD (mX (i:=i) (by rw[g.N];exact g.Gj) (by rw[g.N];exact hx) Ko pe hs KS) fun Dn σ H h=>xN ht h
   induction v using zE with
   | ListComp el gens scope JV=>
    have NZ:swapsWith (.ListComp el gens scope JV) (Δ (.Name x px)) pos.line X.env=pure (X.env.blockKind == .function&&X.env.kindOf x == Δ .local&&px.line == JV.line&&!(scope.names.any fun (n,k)=>n == x&&(k == .local||k == .cell))):=rfl;cases hb:(X.env.blockKind == .function&&X.env.kindOf x == Δ .local&&px.line == JV.line&&!(scope.names.any fun (n,k)=>n == x&&(k == .local||k == .cell))) with
    | false=>exact plain (by rw[NZ,hb])
    | true=>
     rw[hb] at NZ;have Yl:X.env.kindOf x=Δ .local:=by simp only[g_] at hb;exact h_ hb.1.1.2
     cases e with
     | comp G' fr T src ifs elt=>
      have hv:nL gens (fun t it fs=>dz Z G scope G' fr&&dI G' T t&&(Hw T).all (fun i=>decide (fr.length<=i))&&(eI Z G src it&&gZ src t)&&dg Z G' ifs fs&&Fz Z G' elt el)=Θ:=hv;obtain⟨t,it,fs,rfl,hv⟩:=il hv;have h':(dz Z G scope G' fr&&dI G' T t&&(Hw T).all (fun i=>decide (fr.length<=i))&&(eI Z G src it&&gZ src t)&&dg Z G' ifs fs&&Fz Z G' elt el)=Θ:=hv;simp only[g_] at h';have hs:=ip h'.1.1.1.1.1;have hT:=h'.1.1.1.1.2;have ha:∀ i∈Hw T,fr.length<=i:=fun i hi=>p_ (U_.mp h'.1.1.1.2 i hi);intro pins s' σ H Dn Iv h;obtain⟨GH,S⟩:=fN g Iv.ok hs;have p:=vM (py:=px) (spos:=pos) (i:=i) (pos:=JV) (elt:=el) (ifs:=fs) (tg:=t) (g:=gT X.K T) (tt:=RT X.K G8 (cD ifs) (fF cl ifs)) (te:=RD X.K G8 (vars elt) (E8 cl elt)) (g.calm hs.cm) (by rw[g.N];exact g.Gj) (by rw[g.N];exact hx) Yl S (r9 src X ex G it t g h'.1.1.2.1 h'.1.1.2.2) (fun C s H fp=>LM (dv g hs GH C s H fp) T t hT)
       (fun C s H fp=>r6 ifs _ G8 G' fs (dv g hs GH C s H fp) h'.1.2) (fun C s H fp=>(snd elt _ G8 G' el (dv g hs GH C s H fp) h'.2).1) NZ (fun x=>dN h'.1.1.2.1 X.env x)
      refine p pins s' σ H Dn Iv ?_;obtain⟨B,F,τ,f,m,q⟩:=h
      -- as one Ym is kept
      have q0:E5 ex (E3 (E3 (E8 cl (.comp G' fr T src ifs elt) τ) fun d=>.ok (cG (.comp G' fr T src ifs elt) d τ)) fun p=>E3 (dH (.nm i) p.1 p.2) fun τ'=>.ok (.nx τ')) (Fk X.K B Dn):=q;have q1:=E5.E3 (E5.E3 q0);have fin:∀ (d:D) (v:V) (H':Hp) (F':Ω->Prop) (fv f':List Ω),Ow X.K F H f F' H' σ v (cG (.comp G' fr T src ifs elt) d τ).1 fv (cG (.comp G' fr T src ifs elt) d τ).2 f'->(∀ (p:D×Ev),p=cG (.comp G' fr T src ifs elt) d τ->E5 ex (E3 (dH (.nm i) p.1 p.2) fun τ'=>.ok (.nx τ')) (Fk X.K B Dn))->Dn.nx (σ.set i (Δ v)) H':=by intro d v H' F' fv f' o hp;obtain⟨m',Iw⟩:=m.ow o;have:=m'.gT (t:=.nm i) (Q:=Dn.nx) o.rep o.Gj Iw (gE _ _ ht) (E5.E3 (hp _ rfl)) fun τ' FI Ni Lh h'=>h'.ok _ _ _ _ Lh;exact this
      cases z:E8 cl (.comp G' fr T src ifs elt) τ with
      | error er=>
       rw[z] at q1;cases er with
       | stuck=>exact q1.no.elim
       | exc c=>refine fx (S:=fun _=>True) (τ:=τ) (ex:=ex) (Kt:=fun _=>False) hs.Oq ha (cU m.Gq) ?_ fun A ys ds H' e hA KI mm k=>k.elim;show E5 ex (E8 cl (.comp G' fr T src ifs elt) τ) _;rw[z];exact q1
      | ok d=>
       rw[z] at q1;have q2:=q1.ok.ok;obtain⟨o',ds,rfl⟩:∃ o ds,d=.lst o ds:=by have zz:=z;rw[i5] at zz;obtain⟨its,_,zz⟩:=eF zz;obtain⟨_,zz⟩:=nE zz;obtain⟨ds,_,zz⟩:=eF zz;cases zz;exact⟨Θ,ds,rfl⟩
       by_cases hi:cp ds=Θ
       ·have Ld:cG (.comp G' fr T src ifs elt) (.lst o' ds) τ=(.lst Θ ds,τ):=by unfold cG;rw[d_ (show ¬ cA (.lst o' ds)=Θ by intro z;cases z)];show (if cp ds=Θ then _ else _)=_;rw[f_ hi]
        refine fx (S:=fun _=>True) (τ:=τ) (ex:=ex) (Kt:=fun d'=>∃ Ox,d'=.lst Ox ds) hs.Oq ha (cU m.Gq) ?_ fun A ys ds' H' e hA KI mm k=>?_
        ·show E5 ex (E8 cl (.comp G' fr T src ifs elt) τ) _;rw[z];exact⟨o',rfl⟩
        ·obtain⟨Ox,k⟩:=k;cases k;obtain⟨k1,k2,k3⟩:=gG m.FQ m.Gq e;refine fin (.lst o' ds) (.ref A) H' F [A] f ?_ (fun p hp=>by subst hp;exact q2);rw[Ld];refine⟨k3,k1,.Gy (fun zz=>m.FQ A zz hA) KI (mm.free hi),k2,?_,fun a ha=>?_⟩
         ·rw[aaC,H_];refine⟨fun zz=>?_,m.Gj⟩;obtain⟨_,xs,e⟩:=m.Gq.own A zz;rw[hA] at e;cases e
         ·rw[aaC] at ha;rcases k_.mp ha with rfl|ha
          ·exact .inr hA
          ·exact .inl ha
       ·have Ld:cG (.comp G' fr T src ifs elt) (.lst o' ds) τ=(.lst Θ (Fx ds),FT (vars (.comp G' fr T src ifs elt)) τ):=by unfold cG;rw[d_ (show ¬ cA (.lst o' ds)=Θ by intro z;cases z)];show (if cp ds=Θ then _ else _)=_;rw[d_ hi]
        obtain⟨F1,gg,b1,b2,b3,b4,b5,b6⟩:=gH (vars (.comp G' fr T src ifs elt)) m.FQ m.Gq m.Gj;refine fx (S:=F1) (τ:=τ) (ex:=ex) (Kt:=fun d'=>∃ Ox,d'=.lst Ox ds) hs.Oq ha b6 ?_ fun A ys ds' H' e hA KI mm k=>?_
        ·show E5 ex (E8 cl (.comp G' fr T src ifs elt) τ) _;rw[z];exact⟨o',rfl⟩
        ·obtain⟨Ox,k⟩:=k;cases k;obtain⟨c1,c2,c3⟩:=grow (fun a=>a≠A) b1 b2 e;have m2:E4 X.K (fun a=>F1 a∨(a≠A/\H a=Φ/\H' a≠Φ)) H' ys ds:=mm.step (fun a xs h r=>⟨h.1.elim (fun z=>.inl z) fun z=>.inr ⟨h.2,z,r.some⟩,r⟩) fun a xs h=>h;refine fin (.lst o' ds) (.ref A) H' (fun a=>F1 a∨(a≠A/\H a=Φ/\H' a≠Φ)) [A] gg ?_ (fun p hp=>by subst hp;exact q2);rw[Ld];refine⟨b4.trans c3 (fun x hx=>.inl (b5 x hx)),c1,.Gy (fun zz=>?_) KI m2.frozen,c2,?_,fun a ha=>?_⟩
         ·rcases zz with zz|zz
          ·exact b1 A zz hA
          ·exact zz.1 rfl
         ·rw[aaC,H_];refine⟨fun zz=>?_,b3⟩;obtain⟨_,xs,e⟩:=b2.own A zz;rw[hA] at e;cases e
         ·rw[aaC] at ha;rcases k_.mp ha with rfl|ha
          ·exact .inr hA
          ·exact .inl (b5 a ha)
     | _=>first|exact bU hv|cases hv
   | SetComp _ _ _ _=>cases e<;>first|exact bU hv|cases hv
   | DictComp _ _ _ _ _=>cases e<;>first|exact bU hv|cases hv
   | _=>exact plain rfl
 | Tuple ts k px=>
  have MX:notTuple v=Θ:=hc;refine dD (mW pe pg ?_ ?_ rfl) fun Dn σ H h=>xN ht h
  ·induction v using zE<;>rfl
  ·induction v using zE<;>first|rfl|cases MX
 | _=>cases hc
end
theorem E7.Yn {K:Frag}{F:Ω->Prop}{H:Hp}{vs:List V}{ds:List D}{f:List Ω}(h:E7 K F H vs ds f)(n:cp ds=Θ):f=[]:=by refine E7.rec (motive_1:=fun _ d f _=>cA d=Θ->f=[]) (motive_2:=fun _ d f _=>cp d=Θ->f=[]) (fun _=>rfl) (fun _ _=>rfl) (fun _ _=>rfl) (fun _ _=>rfl) (fun _ _=>rfl) (fun _ _ i z=>i z) (fun _ _ _ _ _=>rfl) (fun _ _ _ _=>rfl) (fun _ _ _ _ z=>bU z) (fun _ _ _ _ _ _=>rfl) (fun _ _ _ _ _ z=>bU z) (fun _=>rfl) (fun {v d f vs ds g} _ _ i j z=>?_) h n;have z':=D_.mp (show (cA d&&cp ds)=Θ from z);rw[i z'.1,j z'.2];rfl
section
variable {K:Frag}{F:Ω->Prop}{H:Hp}
theorem FE.parts {v:V}{o:Bool}{es:List D}{fv:List Ω}(h:FE K F H v (.lst o es) fv):∃ b zs fe h',v=.ref b/\Gu K H b zs/\E7 K F H zs es fe/\(fe++h').Perm fv:=by
 cases h with
 | Jf h0 h1 h2=>exact⟨_,_,[],[],rfl,.inl h1,h2,.refl _⟩
 | lstK h1 h2=>exact⟨_,_,[],[],rfl,h1.sq,h2,.refl _⟩
 | @Gy a xs ds f h0 h1 h2=>exact⟨a,_,f,[a],rfl,.inl (.inl h1),h2,aai (l₁:=f) (l₂:=[a])⟩
theorem E7.split (n:Nat){vs:List V}{ds:List D}{f:List Ω}(h:E7 K F H vs ds f):∃ f1 f2,E7 K F H (vs.take n) (ds.take n) f1/\E7 K F H (vs.drop n) (ds.drop n) f2/\f1++f2=f:=by
 revert n;refine E7.ind (P:=fun vs ds f=>∀ n,∃ f1 f2,E7 K F H (vs.take n) (ds.take n) f1/\E7 K F H (vs.drop n) (ds.drop n) f2/\f1++f2=f) (fun n=>⟨[],[],by rw[List.take_nil,List.take_nil];exact .nil,by rw[List.drop_nil,List.drop_nil];exact .nil,rfl⟩) (fun v d f vs ds g a b j n=>?_) h;cases n with
 | zero=>exact⟨[],f++g,.nil,.cons a b,rfl⟩
 | succ n=>obtain⟨f1,f2,h1,h2,h3⟩:=j n;exact⟨f++f1,f2,.cons a h1,h2,by rw[C_,h3]⟩
end
section
variable {Z:Sg}{CX:G1}{cl:Nat->List D->Res D}{xp:XK->Hp->Str->Prop}{X:Cx}{ex:Str->Prop}{G:Gm}
theorem kM {K:Frag}{F:Ω->Prop}{H:Hp}{σ:St}{τ:Ev}{f:List Ω}{i:Nat}{ds:List D}(r:FU K F H σ τ f)(hs:cu τ i=Δ (.lst Θ ds)):∃ l xs,σ[i]? = Δ (Δ (.ref l))/\H l=Δ (.lst xs)/\xs.length=ds.length:=by
 obtain⟨v,fs,g,h1,h2,h3,h4⟩:=r.at hs;cases h2 with
 | Gy hF hH hm=>exact⟨_,_,h1,hH,hm.length⟩
theorem Il (g:F7 Z CX cl xp X ex G){i:Nat}{k e:IR}{x:Str}{p apos FJ pos:Pos}{s v:Expr}(h1:fI G i x=Θ)(h2:(apos.endLine == FJ.line)=Θ)(h3:notStar s=Θ)(Sn:notStar v=Θ)(h4:Fz Z G k s=Θ)(h5:Fz Z G e v=Θ) :
  PS X (.Expr (.Call (.Attribute (.Name x p) "insert" apos) [s,v] [] FJ) pos) (RS X.K G.io ex (Gv cl (.ins i k e))):=by
 have pa:PA X [s,v] (iz (RD X.K ex (vars k) (E8 cl k)) (iz (RO X.K ex (Gb cl Ξ e)) pZ)):=cS (snd k X ex G s g h4).1 (cS (Lf e Ξ X ex G v g h5) dy (ck Sn _ _)) (ck h3 _ _);have HC:((backTo FJ (Ν [s,v] X.env)).all (fun x=>!x.1)&&(backToKw FJ (keywordEach [] X.env)).all (fun x=>x.1.isSome)&&decide ([s,v].length+([]:List Keyword).length+(if ([]:List Keyword).isEmpty then 0 else 1) < 30))=Θ:=by rw[ck h3,ck Sn];rfl
 refine dD (ie (jG PySem.F.plainAttrs_list PySem.F.slot_list_insert PySem.F.type_list_insert Ai (i6 g h1) pa rfl HC h2 (ck h3 _ _) (by rw[ck Sn];rfl))) fun Dn σ H h=>?_;obtain⟨B,F,τ,f,m,q⟩:=h;have q0:E5 ex (match cu τ i with|some (.lst _ _)=>(E3 (E8 cl k τ) fun y=>E3 (Gb cl Ξ e τ) fun p=>(match y,cu p.2 i with|.int z,Δ (.lst Θ ds)=>Fw (decide (0<=z/\z.toNat<=ds.length)&&dP ds.length) (.ok (.nx (p.2.set i (Δ (.lst Θ (ds.take z.toNat++p.1::ds.drop z.toNat))))))|_,_=>FC))|_=>FC) (Fk X.K B Dn):=q;cases z0:cu τ i with
 | none=>rw[z0] at q0;exact q0.no.elim
 | some d0=>
  rw[z0] at q0
  induction d0 using zD with
  | lst o0 Sd=>
   obtain⟨v0,Yo,g0,a1,a2,a3,a4⟩:=m.Gq.at z0;obtain⟨l,P8,_,_,rfl,hq,_⟩:=a2.parts;refine⟨.ref l,a1,.inl ⟨rfl,P8,hq⟩,m.rd (E5.E3 q0) fun y w H1 m1 e1 mw q1=>?_⟩;refine m1.ro (E5.E3 q1) fun p v H' F' fv f' o hp=>?_;obtain⟨m',hb⟩:=m1.ow o
   induction y using zD with
   | int z=>
    cases mw.FK;cases zs:cu p.2 i with
    | none=>simp only[zs] at hp;exact hp.no.elim
    | some d=>
     simp only[zs] at hp
     induction d using zD with
     | lst ow ds=>
      cases ow with
      | false=>exact hp.no.elim
      | true=>
       obtain⟨gd,hp⟩:=E5.Fw hp;rw[g_] at gd;have gz:0<=z/\z.toNat<=ds.length:=p_ gd.1;obtain⟨l',xs,G9,hl,hlen⟩:=kM m'.Gq zs;rw[a1] at G9;cases G9;obtain⟨Ni,m3⟩:=m'.write (ys:=xs.take z.toNat++v::xs.drop z.toNat) (ds':=ds.take z.toNat++p.1::ds.drop z.toNat) zs a1 hl o.rep o.Gj hb fun fi hm=>by obtain⟨f1,f2,s1,s2,s3⟩:=hm.split z.toNat;refine⟨f1++(fv++f2),[],s1.append (.cons o.rep s2),?_⟩;rw[aaj,<- s3,<- C_,<- C_];exact List.Perm.append_right _ aai
       exact⟨l,xs,z,v,rfl,rfl,hl,gz.1,by rw[hlen];exact gz.2,by rw[hlen];exact gA gd.2,hp.ok _ _ _ _ m3⟩
     | _=>exact hp.no.elim
   | _=>exact hp.no.elim
  | _=>exact q0.no.elim
end
theorem mj {K:Frag}{F:Ω->Prop}{H:Hp}:∀ {σ:St}{n:Nat},σ.length=n->FU K F H σ (Τ n Φ) []
 | [],0,_=>.nil
 | _::σ,n+1,h=>.none (mj (by simpa using h))
section
variable {Z:Sg}{CX:G1}{cl:Nat->List D->Res D}{xp:XK->Hp->Str->Prop}{X:Cx}{ex:Str->Prop}{G:Gm}{pins:List (Ω×Obj)}
theorem Gh.put {io:Option Nat}{B:Bs io}{F:Ω->Prop}{H:Hp}{σ:St}{τ:Ev}{f fv:List Ω}{v:V}{d:D}(i:Nat)(m:Gh X.K B F H σ τ f)(mv:FE X.K F H v d fv)(nd:(fv++f).Nodup)(hb:∀ a∈fv,B.H a=Φ)(JU:io≠Δ i):∃ f',Gh X.K B F H (σ.set i (Δ v)) (τ.set i (Δ d)) f':=by obtain⟨g',h',r0,p0⟩:=m.Gq.put i mv;have P9:(g'++h').Nodup:=p0.nodup_iff.mpr nd;exact⟨g',m.FQ,r0,(s_.mp P9).1,m.same,fun b Iw=>(x_.mp (p0.subset (q_ _ Iw))).elim (hb b) (m.own b),m.HP,m.out,m.pin,m.KO,fun j a e1 e2=>(aax (fun z=>JU (by rw[z];exact e1))).trans (m.nm j a e1 e2)⟩
end
theorem CI {a b:Ω}{H:Hp}(h:b≠a):rm a H b=H b:=d_ h
theorem oV {a:Ω}{H:Hp}:rm a H a=Φ:=f_ rfl
theorem wD {a b:Ω}{H:Hp}{u:HO}(h:rm a H b=Δ u):H b=Δ u/\b≠a:=by
 by_cases e:b=a
 ·rw[e,oV] at h;cases h
 ·rw[CI e] at h;exact⟨h,e⟩
theorem CJ {a:Ω}{H:Hp}:cz (rm a H) H:=fun b u h=>(wD h).1
theorem AW {σ:St}{i:Nat}{v:V}(G9:σ[i]? = Δ (Δ v)):σ.set i (Δ v)=σ:=by
 apply List.ext_getElem?;intro j;rw[List.getElem?_set];by_cases hj:i=j
 ·subst hj;rw[f_ rfl,f_ (v_.mp G9).1,G9]
 ·rw[d_ hj]
theorem E7.part {K:Frag}{F:Ω->Prop}{H:Hp}{es:List D}:∀ (ds:List D) (k:Nat) (vs:List V) (f:List Ω),E7 K F H vs ds f->ds[k]? = Δ (.lst Θ es)->∃ l xs fi p q,vs[k]? = Δ (.ref l)/\¬ F l/\H l=Δ (.lst xs)/\E7 K F H xs es fi/\f=p++((l::fi)++q)/\
  ∀ (H':Hp) (es':List D),(∀ a (u:LD),F a->Rd H a u.o->F a/\Rd H' a u.o)->(∀ a xs,GF K H a xs->GF K H' a xs)->(∀ a∈p++q,H' a=H a)->FE K F H' (.ref l) (.lst Θ es') (l::fi)->E7 K F H' vs (ds.set k (.lst Θ es')) f:=by
 intro ds
 induction ds with
 | nil=>intro k vs f h hk;simp at hk
 | cons d ds ih=>
  intro k vs f h hk;cases h with
  | @cons v _ f0 N8 _ g0 h1 h2=>
   cases k with
   | zero=>
    rw[List.getElem?_cons_zero] at hk;cases hk;cases h1 with
    | @Gy a xs _ fi hF hH hm=>refine⟨a,xs,fi,[],g0,rfl,hF,hH,hm,rfl,fun H' es' sl st k m=>?_⟩;exact .cons m (h2.step sl st fun b hb n _=>⟨n,k b (by simpa using hb)⟩)
   | succ k=>rw[aaJ] at hk;obtain⟨l,xs,fi,p,q,a1,a2,a3,a4,a5,a6⟩:=ih k N8 g0 h2 hk;refine⟨l,xs,fi,f0++p,q,by rw[aaJ];exact a1,a2,a3,a4,by rw[a5,C_],fun H' es' sl st k m=>?_⟩;exact .cons (h1.step sl st fun b hb n _=>⟨n,k b (q_ _ (q_ _ hb))⟩) (a6 H' es' sl st (fun b hb=>k b ((x_.mp hb).elim (fun z=>q_ _ (r_ _ z)) fun z=>r_ _ z)) m)
theorem Gh.Kp {K:Frag}{io:Option Nat}{B:Bs io}{F:Ω->Prop}{H:Hp}{σ:St}{τ:Ev}{f:List Ω}{i k:Nat}{ds es es':List D}(m:Gh K B F H σ τ f)(zs:cu τ i=Δ (.lst Θ ds))(hk:ds[k]? = Δ (.lst Θ es))(lf:cp es=Θ)(So:cp es'=Θ) :
  ∃ a l xs ys,σ[i]? = Δ (Δ (.ref a))/\H a=Δ (.lst xs)/\xs[k]? = Δ (.ref l)/\xs.length=ds.length/\H l=Δ (.lst ys)/\ys.length=es.length/\E4 K (fun _=>True) H ys es/\
   ∀ zs,E4 K (fun _=>True) H zs es'->∃ f',Gh K B F (upd H l (.lst zs)) σ (τ.set i (Δ (.lst Θ (ds.set k (.lst Θ es'))))) f':=by
 obtain⟨v,fs,g,G9,h2,hr,h4⟩:=m.Gq.at zs;cases h2 with
 | @Gy a xs Sd fi hF hH hm=>
  obtain⟨l,ys,fj,p,q,b1,b2,b3,b4,b5,put⟩:=E7.part ds k xs fi hm hk;have ej:=b4.Yn lf;subst ej;refine⟨a,l,xs,ys,G9,hH,b1,hm.length,b3,b4.length,b4.read (fun _ _=>trivial) fun _ _=>trivial,fun zs hz=>?_⟩;subst b5;have P9:((a::(p++([l]++q)))++g).Nodup:=h4.nodup_iff.mp m.Gj;have pm:((a::(p++([l]++q)))++g).Perm (l::(a::(p++q++g))):=by simp only[c_,C_,List.nil_append];refine(List.Perm.cons a List.perm_middle).trans ?_;exact List.Perm.swap _ _ _
  have nl:l∉a::(p++q++g):=(H_.mp (pm.nodup_iff.mp P9)).1;have al:a≠l:=fun z=>nl (by rw[z];exact k_.mpr (.inl rfl));have sl:∀ b (u:LD),F b->Rd H b u.o->F b/\Rd (upd H l (.lst zs)) b u.o:=fun b xs h r=>by refine⟨h,?_⟩;have:b≠l:=fun z=>b2 (by rw[<- z];exact h);unfold Rd;rw[cv this];exact r
  have st:∀ b xs,GF K H b xs->GF K (upd H l (.lst zs)) b xs:=fun b xs h=>h.upd b3;have r1:FU K F (upd H l (.lst zs)) σ (τ.set i Φ) g:=hr.step sl st fun b ha n _=>⟨n,cv fun z=>nl (by rw[<- z];exact G_ _ (r_ _ ha))⟩
  have mz:E7 K F (upd H l (.lst zs)) zs es' []:=(E4.free So hz).step sl st dC;have m0:FE K F (upd H l (.lst zs)) (.ref l) (.lst Θ es') [l]:=.Gy b2 cy mz;have m1:FE K F (upd H l (.lst zs)) (.ref a) (.lst Θ (ds.set k (.lst Θ es'))) (a::(p++([l]++q))):=.Gy hF (by rw[cv al];exact hH) (put _ _ sl st (fun b hb=>cv fun z=>nl (by rw[<- z];exact G_ _ (q_ _ hb))) m0);obtain⟨g',h',r2,p2⟩:=r1.put i m1;rw[AW G9,List.set_set] at r2;have LN:(g'++h').Nodup:=p2.nodup_iff.mpr P9;have lB:B.H l=Φ:=m.own l (h4.mem_iff.mpr (by simp));refine⟨g',fun b h=>?_,r2,(s_.mp LN).1,fun b o MA=>?_,fun b ha=>?_,m.HP,m.out,fun b xs h=>⟨(m.pin b xs h).1,(sl b xs (m.pin b xs h).1 (m.pin b xs h).2).2⟩,fun b xs h=>st b xs (m.KO b xs h),m.nm⟩
  ·have:b≠l:=fun z=>b2 (by rw[<- z];exact h);rw[cv this];exact m.FQ b h
  ·have:b≠l:=fun z=>by rw[z,lB] at MA;cases MA
   rw[cv this];exact m.same _ _ MA
  ·exact m.own b (h4.mem_iff.mpr (p2.mem_iff.mp (q_ _ ha)))
section
variable {K:Frag}{io:Option Nat}{B:Bs io}{F:Ω->Prop}{H:Hp}{σ:St}{τ:Ev}{f:List Ω}
theorem gJ {is:List Nat}(r:FU K F H σ τ f){v:V}{d:D}(hv:E6 K (fun _=>True) H v d)(j:Nat):Slots K (fun _=>True) H (σ.set j (Δ v)) (τ.set j (Δ d)) is:=fun a ha d' z=>by
 by_cases hj:j=a
 ·subst hj;rw[g7] at z;by_cases hl:j < τ.length
  ·rw[f_ ⟨rfl,hl⟩] at z;cases z;exact⟨v,List.getElem?_set_self (by rw[r.len];exact hl),hv⟩
  ·rw[d_ (fun z=>hl z.2)] at z;obtain⟨_,_,_,h,_⟩:=r.at z;have:=(v_.mp h).1;rw[r.len] at this;exact absurd this hl
 ·rw[g7,d_ (fun z=>hj z.1)] at z;obtain⟨v',h1,h2⟩:=cU (is:=[a]) r a (t_.mpr rfl) d' z;exact⟨v',by rw[aax hj];exact h1,h2⟩
theorem FU.forget:∀ {σ:St}{τ:Ev}{f:List Ω} (j:Nat) (o:Option V),FU K F H σ τ f->∃ g h,FU K F H (σ.set j o) (τ.set j Option.none) g/\(g++h).Perm f
 | _,_,_,_,_,.nil=>⟨[],[],.nil,.refl _⟩
 | _,_,_,0,_,.none h=>⟨_,[],.none h,by rw[aaj]⟩
 | _,_,_,0,_,.some (f:=f0) (g:=g0) m h=>⟨g0,f0,.none h,aai⟩
 | _,_,_,j+1,o,.none h=>by obtain⟨g,h',h1,h2⟩:=FU.forget j o h;exact⟨g,h',.none h1,h2⟩
 | _,_,_,j+1,o,.some (f:=f0) (g:=g0) m h=>by obtain⟨g,h',h1,h2⟩:=FU.forget j o h;exact⟨f0++g,h',.some m h1,by rw[C_];exact aal f0 h2⟩
theorem Gh.forget (m:Gh K B F H σ τ f)(j:Nat)(o:Option V)(hj:io≠Δ j):∃ f',Gh K B F H (σ.set j o) (τ.set j Φ) f':=by
 obtain⟨g,h,r,p⟩:=m.Gq.forget j o;have nd:(g++h).Nodup:=p.nodup_iff.mpr m.Gj
 exact⟨g,m.FQ,r,(s_.mp nd).1,m.same,fun a ha=>m.own a (p.mem_iff.mp (q_ _ ha)),m.HP,m.out,m.pin,m.KO,fun j' a e1 e2=>by
  rw[aax (fun z=>hj (by rw[z];exact e1))]
  exact m.nm j' a e1 e2⟩
end
section
variable {Z:Sg}{CX:G1}{cl:Nat->List D->Res D}{xp:XK->Hp->Str->Prop}{X:Cx}{ex:Str->Prop}{G:Gm}
theorem oX:∀ {τ:Ev}{j:Nat},nB τ j=Θ->j < τ.length
 | [],_,h=>by cases h
 | _::_,0,_=>Nat.succ_pos _
 | _::τ,j+1,h=>Nat.succ_lt_succ (oX (τ:=τ) h)
theorem E4.Oy {K:Frag}{S:Ω->Prop}{H:Hp}{v:V}{d:D}(hv:E6 K S H v d):∀ {vs:List V}{ds:List D} (t:Nat),E4 K S H vs ds->E4 K S H (vs.set t v) (ds.set t d)
 | _,_,_,.nil=>.nil
 | _,_,0,.cons h1 h2=>.cons hv h2
 | _,_,t+1,.cons h1 h2=>.cons h1 (E4.Oy hv t h2)
theorem oY {d:D}(hd:cA d=Θ):∀ {ds:List D} (t:Nat),cp ds=Θ->cp (ds.set t d)=Θ
 | [],_,h=>h
 | e::ds,0,h=>by have h':=D_.mp (show (cA e&&cp ds)=Θ from h);show (cA d&&cp ds)=Θ;rw[hd,h'.2];rfl
 | e::ds,t+1,h=>by have h':=D_.mp (show (cA e&&cp ds)=Θ from h);show (cA e&&cp (ds.set t d))=Θ;rw[h'.1,oY hd t h'.2];rfl
theorem sj {d:D}(hd:cA d=Θ){ds:List D}(h:cp ds=Θ):cp (ds++[d])=Θ:=by rw[dt] at h ⊢;rw[List.all_append,h];show (cA d&&Θ)=Θ;rw[hd];rfl
theorem wF (g:F7 Z CX cl xp X ex G){i j:Nat}{e c x v w:IR}{s s':Stmt}{ss:List Stmt}{as:List IS}(h:oU Z G i j e c x v w s s'=Θ)(hr:IA X ss (RS X.K G.io ex (cI cl as))):IA X (s::s'::ss) (RS X.K G.io ex (cI cl (.K9 i j e c x v w::as))):=by
 unfold oU at h;rw[g_] at h;obtain⟨ha,hb⟩:=h;obtain⟨t,xi,p1,se,sp,Ss,rfl,Nd⟩:=AM ha;obtain⟨ce,y,p2,sx,Yp,ve,vp,y',p3,name,apos,we,FJ,ep,Yq,rfl,Iw⟩:=AV hb;simp only[g_] at Nd Iw;obtain⟨⟨⟨⟨⟨hn,hT⟩,hi⟩,Yr⟩,he⟩,Vs⟩:=Nd;obtain⟨⟨⟨⟨⟨⟨⟨⟨⟨hc,Ys⟩,Yt⟩,hx⟩,hv⟩,Li⟩,Oz⟩,Yu⟩,Gn⟩,hw⟩:=Iw;have Vs:i≠j:=p_ Vs;have en:=h_ Oz;subst en
 induction t using zE with
 | Name yt py=>
  have IT:(G.N[j]? == Δ yt&&(G.kd[j]? == Δ .local||(G.df&&G.kd[j]? == Δ .cell)))=Θ:=(D_.mp hT).1;have Su:G.io≠Δ j:=by simpa using(D_.mp hT).2
  rw[g_,X_,g_] at IT;have Vt:G.N[j]? = Δ yt:=h_ IT.1;have hk:=g.kd j yt Vt;have Ko:Loc X.env.scope yt:=IT.2.elim (fun z=>.inl (hk.trans (h_ z))) fun z=>.inr (hk.trans (h_ z.2));have KS:X.fn yt=Θ∨X.env.scope.names.lookup yt=Δ .local:=IT.2.elim (fun z=>.inr (hk.trans (h_ z))) fun z=>.inl (g.df z.1 yt);have P1:PS X (.Assign [.Name yt py] (.Subscript (.Name xi p1) se sp) Ss) _:=mX (i:=j) (by rw[g.N];exact g.Gj) (by rw[g.N];exact Vt) Ko (xG oq (i6 g hi) (snd e X ex G se g he).1 (fun o i=>by cases se<;>first|rfl|cases Yr)) rfl KS;have Pa:PS X (.Assign [.Subscript (.Name y p2) sx Yp] ve vp) _:=mW (snd v X ex G ve g hv).1 (qH (i6 g Ys) (snd x X ex G sx g hx).1 set_list (by intro _;cases sx<;>first|rfl|cases Yt)) (by cases ve<;>rfl) (by cases ve<;>rfl) rfl;have pa:PA X [we] (iz (RD X.K ex (vars w) (E8 cl w)) pZ):=cS (snd w X ex G we g hw).1 dy (ck Gn _ _);have HC:((backTo FJ (Ν [we] X.env)).all (fun x=>!x.1)&&(backToKw FJ (keywordEach [] X.env)).all (fun x=>x.1.isSome)&&decide ([we].length+([]:List Keyword).length+(if ([]:List Keyword).isEmpty then 0 else 1) < 30))=Θ:=by rw[ck Gn];rfl
  have Pb:PS X (.Expr (.Call (.Attribute (.Name y' p3) "append" apos) [we] [] FJ) ep) _:=ie (jG PySem.F.plainAttrs_list PySem.F.slot_list_append PySem.F.type_list_append gQ (i6 g Li) pa rfl HC Yu (ck Gn _ _) rfl);refine fK (ft P1 (ft (xC (snd c X ex G ce g hc).2 (ft Pa ic) (ft Pb ic)) hr)) fun Dn σ H ⟨B,F,τ,f,m,q⟩=>?_;have Yv:=E5.E3 (show E5 ex (E3 (rG cl i j e c x v w τ (cu τ i)) fun fl=>match fl with|.nx τ'=>cI cl as τ'|.ct τ'=>.ok (.ct τ')|.bk τ'=>.ok (.bk τ')|.rt d=>.ok (.rt d)|.ri d ks vs=>.ok (.ri d ks vs)) (Fk X.K B Dn) from q);obtain⟨KK,Vu,q0⟩:∃ KK:Fl->Prop,(∀ τ',KK (.nx τ')->E5 ex (cI cl as τ') (Fk X.K B Dn))/\E5 ex (rG cl i j e c x v w τ (cu τ i)) KK:=⟨_,fun τ' z=>z,Yv⟩
  cases zs:cu τ i with
  | none=>rw[zs] at q0;exact q0.no.elim
  | some dd=>
   rw[zs] at q0
   induction dd using zD with
   | lst ow ds=>
    cases ow with
    | false=>exact q0.no.elim
    | true=>
     have q1:=E5.E3 (show E5 ex (E3 (E8 cl e τ) (v9 cl i j c x v w ds τ)) KK from q0);obtain⟨l0,P8,G9,RF,hlen⟩:=kM m.Gq zs;refine⟨.ref l0,G9,m.rd q1 fun yv wv H1 m1 e1 mw q2=>?_⟩
     induction yv using zD with
     | int z=>
      cases mw.FK;have q2:E5 ex (nC cl i j c x v w ds τ (Hb ds.length z)) KK:=q2;cases Sw:Hb ds.length z with
      | none=>rw[Sw] at q2;exact q2.no.elim
      | some k=>
       rw[Sw] at q2;cases P':ds[k]? with
       | none=>unfold nC at q2;simp only[P'] at q2;exact q2.no.elim
       | some dk=>
        have q3:E5 ex (match (Δ dk:Option D) with|some (.lst Θ es)=>Fw (cp es&&nB τ j) (E3 (E3 (E8 cl c (τ.set j (Δ (.lst Θ es)))) cK) (ql cl i j k x v w ds es τ))|_=>FC) KK:=by unfold nC at q2;simp only[P'] at q2;exact q2
        induction dk using zD with
        | lst ow es=>
         cases ow with
         | false=>exact q3.no.elim
         | true=>
          obtain⟨Sy,q4⟩:=E5.Fw q3;rw[g_] at Sy;have OA:=Sy.1;have SA:j < σ.length:=by rw[m.Gq.len];exact oX Sy.2
          obtain⟨a,l,xs,ys,b1,b2,b3,b4,b5,b6,b7,_⟩:=m1.Kp (es':=es) zs P' OA OA;rw[G9] at b1;cases b1;have SE:E6 X.K (fun _=>True) H1 (.ref l) (.lst Θ es):=.lst trivial (.inl b5) b7;refine⟨l0,xs,z,.ref l,rfl,rfl,.inl (.inl b2),?_,?_⟩
          ·unfold GU;rw[b4,Sw];exact b3
          ·have q5:=E5.E3 q4;refine fT (.refl _) (gJ m1.Gq SE j) q5 fun r H2 e2 _ q6=>?_;have m2:=m1.grow e2;have MB:E6 X.K (fun _=>True) H2 (.ref l) (.lst Θ es):=SE.mono (fun _ z=>z) e2;have Lc:H2 l=Δ (.lst ys):=e2 _ _ b5;have fin:∀ (H3:Hp) (e3:cz H2 H3) (es':List D) (Qa:List V),cp es'=Θ->E4 X.K (fun _=>True) H3 Qa es'->E5 ex (cI cl as ((τ.set i (Δ (.lst Θ (ds.set k (.lst Θ es'))))).set j Φ)) (Fk X.K B Dn)->RS X.K G.io ex (cI cl as) Dn (σ.set j (Δ (.ref l))) (upd H3 l (.lst Qa)):=by intro H3 e3 es' Qa So hz hq;have m3:=m2.grow e3;obtain⟨a',l',Rp,Xq,c1,c2,c3,c4,c5,c6,c7,wr⟩:=m3.Kp (es':=es') zs P' OA So;rw[G9] at c1;cases c1;rw[e3 _ _ (e2 _ _ b2)] at c2;cases c2;rw[b3] at c3;cases c3;obtain⟨f4,m4⟩:=wr Qa hz;obtain⟨f5,m5⟩:=m4.forget j (Δ (.ref l)) Su;exact⟨B,F,_,f5,m5,hq⟩
           have Vv:(σ.set j (Δ (.ref l)))[j]? = Δ (Δ (V.ref l)):=List.getElem?_set_self SA;cases r with
           | true=>
            have q6:E5 ex (E3 (E8 cl v (τ.set j (Δ (.lst Θ es)))) fun d=>E3 (E8 cl x (τ.set j (Δ (.lst Θ es)))) (v8 i j k ds es τ d)) KK:=q6;refine cQ (.refl _) (gJ m2.Gq MB j) (E5.E3 q6) fun d vv H3 e3 _ mv q7=>?_;have m3:=m2.grow e3;refine⟨.ref l,Vv,cQ (.refl _) (gJ m3.Gq (MB.mono (fun _ z=>z) e3) j) (E5.E3 q7) fun y4 w4 H4 e4 _ Yw q8=>?_⟩
            induction y4 using zD with
            | int z4=>
             cases Yw.FK;unfold v8 at q8;cases MC:Hb es.length z4 with
             | none=>simp only[MC] at q8;exact q8.no.elim
             | some t=>simp only[MC] at q8;obtain⟨Yx,q9⟩:=E5.Fw q8;refine⟨l,ys,z4,t,rfl,rfl,e4 _ _ (e3 _ _ Lc),by rw[b6];exact MC,?_⟩;exact fin H4 (e3.trans e4) (es.set t d) (ys.set t vv) (oY Yx t OA) (E4.Oy (mv.mono (fun _ _=>trivial) e4) t (b7.mono (fun _ z=>z) (e2.trans (e3.trans e4)))) (Vu _ q9.ok)
            | _=>exact q8.no.elim
           | false=>have q6:E5 ex (E3 (E8 cl w (τ.set j (Δ (.lst Θ es)))) (Aj i j k ds es τ)) KK:=q6;refine⟨.ref l,Vv,.inl ⟨rfl,ys,.inl (.inl Lc)⟩,cQ (.refl _) (gJ m2.Gq MB j) (E5.E3 q6) fun d vv H3 e3 _ mv q7=>?_⟩;obtain⟨gd,q9⟩:=E5.Fw (show E5 ex (Fw (cA d&&dP es.length) (.ok (.nx ((τ.set i (Δ (.lst Θ (ds.set k (.lst Θ (es++[d])))))).set j Φ)))) KK from q7);rw[g_] at gd;refine⟨l,ys,vv,rfl,rfl,e3 _ _ Lc,by rw[b6];exact gA gd.2,?_⟩;exact fin H3 e3 (es++[d]) (ys++[vv]) (sj gd.1 OA) ((b7.mono (fun _ z=>z) (e2.trans e3)).append (.cons (mv.mono (fun _ _=>trivial) (.refl _)) .nil)) (Vu _ q9.ok)
        | _=>exact q3.no.elim
     | _=>exact q2.no.elim
   | _=>exact q0.no.elim
 | _=>cases hn
end
theorem jR {K:Frag}{F:Ω->Prop}{H:Hp}:∀ (ps:List Ω),(∀ p∈ps,¬ F p/\H p=Δ (.lst []))->E7 K F H (ps.map V.ref) (Τ ps.length (.lst Θ [])) ps
 | [],_=>.nil
 | p::ps,h=>by have h1:=h p (.head _);exact .cons (f:=[p]) (.Gy h1.1 h1.2 .nil) (jR ps fun q hq=>h q (.tail _ hq))
section
variable {Z:Sg}{CX:G1}{cl:Nat->List D->Res D}{xp:XK->Hp->Str->Prop}{X:Cx}{ex:Str->Prop}{G G':Gm}{fr:List Nat}
def Yy (K:Frag)(ex:Str->Prop)(cl:Nat->List D->Res D)(s:Sr):TE:=fun σ H Q=>∃ S τ,Slots K S H σ τ (eS s)/\E5 ex (eL cl s τ) fun its=>its.length < Ζ/\
 ∀ (A:Ω) (ps:List Ω) (H':Hp),cz H H'->H A=Φ->H' A=Δ (.lst (ps.map V.ref))->ps.Nodup->A∉ps->(∀ p∈ps,H p=Φ/\H' p=Δ (.lst []))->ps.length=its.length->Q (.ref A) H'
theorem so (g:F7 Z CX cl xp X ex G){scope:Scope}{tg iter:Expr}{lp pos:Pos}{t:Nat}{s:Sr}(hs:Jk Z G scope G' fr)(hT:dI G' (.nm t) tg=Θ)
  (hi:PI X tg iter (RI X.K ex (eS s) (eL cl s))) (hf:∀ x,foldedSetIterable iter X.env x=pure x):PE X (.ListComp (.List [] lp) [⟨tg,iter,[],0⟩] scope pos) (Yy X.K ex cl s):=by
 intro pins s' σ H Q Iv h;obtain⟨GH,S⟩:=fN g Iv.ok hs;have p:=ku (pos:=pos) (elt:=.List [] lp) (ifs:=[]) (tg:=tg) (g:=gT X.K (.nm t)) (tt:=RT X.K G8 (cD []) (fF cl [])) (te:=BV pZ) (g.calm hs.cm) S hi (fun C s H fp=>LM (dv g hs GH C s H fp) (.nm t) tg hT) (fun C s H fp=>r6 [] _ G8 G' [] (dv g hs GH C s H fp) rfl) (fun C s H fp=>iA dy) hf;refine p pins s' σ H Q Iv ?_;obtain⟨S0,τ,Ov,q⟩:=h;refine Ay (.refl _) Ov q fun its J H1 e1 _ w1 q1 A hA=>?_;obtain⟨hsz,q1⟩:=q1;have R4:H A=Φ:=e1.free hA;refine⟨fun i m FI H'=>m=its.length - i/\i<=its.length/\∃ ps:List Ω,H' A=Δ (.lst (ps.map V.ref))/\ps.length=i/\ps.Nodup/\A∉ps/\(∀ p∈ps,H1 p=Φ/\H' p=Δ (.lst []))/\cz H1 H',⟨its.length,by simp,aaa _,[],cy,rfl,List.nodup_nil,by simp,fun p hp=>by simp at hp,.upd hA⟩,?_⟩;rintro i m FI H' ⟨rfl,hi,ps,a1,a2,a3,a4,a5,a6⟩;by_cases F0:i < its.length
 ·refine .inr ⟨(w1.mono (fun _ z=>z) a6).go F0,fun x H2 R6=>?_⟩;obtain⟨eH,mx⟩:=(w1.mono (fun _ z=>z) a6).Kz R6 (d:=its[i]) (by simp[F0]);show RT X.K G8 (cD []) (fF cl []) (FI.set t (Δ x)) H2 _;refine fT (S:=fun _=>True) (τ:=[]) (.refl _) (fun k hk=>by simp[cD] at hk) (show E5 G8 (fF cl [] []) (fun b=>b=Θ) from rfl) fun b H4 e4 _ hb=>?_;subst hb;rw[f_ rfl];have eA:=e4 _ _ (eH _ _ a1);refine⟨by simp,fun q hq=>?_⟩;have qA:q≠A:=fun z=>by rw[z,eA] at hq;cases hq
  have Vw:q∉ps:=fun z=>by rw[e4 _ _ (eH _ _ (a5 q z).2)] at hq;cases hq
  refine⟨ps.map V.ref,by rw[cv (Ne.symm qA)];exact eA,by rw[j_,a2];omega,its.length - (i+1),by omega,rfl,F0,ps++[q],?_,by rw[w_,a2];rfl,?_,?_,fun p hp=>?_,?_⟩
  ·rw[cy,T_];rfl
  ·refine s_.mpr ⟨a3,by simp,fun a ha b hb e=>?_⟩;rw[t_.mp hb] at e;exact Vw (e ▸ ha)
  ·intro z;rcases x_.mp z with z|z
   ·exact a4 z
   ·exact qA (t_.mp z).symm
  ·have Yz:p≠A:=by
    rcases x_.mp hp with z|z
    ·exact fun y=>a4 (y ▸ z)
    ·rw[t_.mp z];exact qA
   rw[cv Yz];rcases x_.mp hp with z|z
   ·rw[cv (fun (y:p=q)=>Vw (y ▸ z))];exact⟨(a5 p z).1,e4 _ _ (eH _ _ (a5 p z).2)⟩
   ·rw[t_.mp z,cy];exact⟨a6.free (eH.free (e4.free hq)),rfl⟩
  ·intro b o hb;have YA:b≠A:=by rintro rfl;rw[hA] at hb;cases hb
   have YB:b≠q:=by rintro rfl;rw[e4 _ _ (eH _ _ (a6 _ _ hb))] at hq;cases hq
   rw[cv YA,cv YB];exact e4 _ _ (eH _ _ (a6 _ _ hb))
 ·have e:i=its.length:=by omega
  subst e;exact .inl ⟨(w1.mono (fun _ z=>z) a6).stop rfl,q1 A ps H' (e1.trans a6) R4 a1 a3 a4 (fun p hp=>⟨e1.free (a5 p hp).1,(a5 p hp).2⟩) a2⟩
theorem Im (g:F7 Z CX cl xp X ex G){j t:Nat}{src:Sr}{st:Stmt}(h:P7 st (fun tg e=>isName tg&&dI G (.nm j) tg&&Fz Z G (.comp G' fr (.nm t) src [] (.lst [])) e)=Θ) :
  PS X st (RS X.K G.io ex (Gv cl (.M5 j G' fr t src))):=by
 obtain⟨YC,e,lp,lq,bp,pos,rfl,h0⟩:=AK h;simp only[g_] at h0;obtain⟨⟨hn,hT⟩,hc⟩:=h0
 induction e using zE with
 | ListComp el gens scope JV=>
  have hv:nL gens (fun t' it fs=>dz Z G scope G' fr&&dI G' (.nm t) t'&&(Hw (.nm t)).all (fun i=>decide (fr.length<=i))&&(eI Z G src it&&gZ src t')&&dg Z G' [] fs&&Fz Z G' (.lst []) el)=Θ:=hc;obtain⟨t',it,fs,rfl,LH⟩:=il hv;simp only[g_] at LH;obtain⟨⟨⟨⟨⟨k1,k2⟩,k3⟩,k4,k5⟩,k6⟩,k7⟩:=LH;cases fs with
  | cons _ _=>exact bU k6
  | nil=>
  induction el using zE with
  | List l SF=>
   cases l with
   | cons _ _=>exact bU k7
   | nil=>
   induction YC using zE with
   | Name y py=>
    have IT:(G.N[j]? == Δ y&&(G.kd[j]? == Δ .local||(G.df&&G.kd[j]? == Δ .cell)))=Θ:=(D_.mp hT).1;have Su:G.io≠Δ j:=by simpa using(D_.mp hT).2
    rw[g_,X_,g_] at IT;have hx:G.N[j]? = Δ y:=h_ IT.1;have hk:=g.kd j y hx;have Ko:Loc X.env.scope y:=IT.2.elim (fun z=>.inl (hk.trans (h_ z))) fun z=>.inr (hk.trans (h_ z.2));have KS:X.fn y=Θ∨X.env.scope.names.lookup y=Δ .local:=IT.2.elim (fun z=>.inr (hk.trans (h_ z))) fun z=>.inl (g.df z.1 y);have pe:=so (lp:=SF) (pos:=JV) g (ip k1) k2 (r9 src X ex G it t' g k4 k5) (fun x=>dN k4 X.env x);refine dD (mX (i:=j) (by rw[g.N];exact g.Gj) (by rw[g.N];exact hx) Ko (om (pos:=bp) kG pe (iA (pos:=lq) (cS (iA (pos:=lp) dy) dy (ck (e:=.List [] lp) rfl _ _)))) rfl KS) fun Dn σ H hh=>?_;obtain⟨B,F,τ,f,m,q⟩:=hh;have q0:E5 ex (E3 (eL cl src τ) (v7 j τ)) (Fk X.K B Dn):=q;refine⟨fun _=>True,τ,cU m.Gq,(E5.E3 q0).mono fun its q1=>?_⟩;obtain⟨gd,q1⟩:=E5.Fw (show E5 ex (Fw (dP its.length) (.ok (.nx (τ.set j (Δ (.lst Θ (Τ (its.length+1) (.lst Θ [])))))))) (Fk X.K B Dn) from q1);have hsz:=gA gd;refine⟨hsz,fun A ps H1 e1 hA YD nd nA OB hlen=>?_⟩;refine⟨aaa _,fun r hr=>⟨(by show 1<=Ζ;decide),fun A2 YE=>?_⟩⟩;have e2:cz H1 (upd H1 r (.lst [])):=.upd hr;have e3:cz (upd H1 r (.lst [])) (upd (upd H1 r (.lst [])) A2 (.lst [.ref r])):=.upd YE;refine⟨A,A2,ps.map V.ref,[.ref r],rfl,rfl,.inl (.inl (e3 _ _ (e2 _ _ YD))),.inl (.inl cy),by rw[j_,hlen];show its.length+1<=_;omega,fun A3 Nj=>?_⟩;have e4:cz (upd (upd H1 r (.lst [])) A2 (.lst [.ref r])) (upd (upd (upd H1 r (.lst [])) A2 (.lst [.ref r])) A3 (.lst (ps.map V.ref++[.ref r]))):=.upd Nj;have SH:=e1.trans (e2.trans (e3.trans e4));have m1:=m.grow SH;have Vx:H r=Φ:=e1.free hr;have Vy:H A3=Φ:=(e1.trans (e2.trans e3)).free Nj;have nF:∀ b,H b=Φ->¬ F b:=fun b hb z=>m.FQ b z hb;have YF:r∉ps:=fun z=>by rw[(OB r z).2] at hr;cases hr
    have SJ:A3∉ps:=fun z=>by rw[e3 _ _ (e2 _ _ (OB A3 z).2)] at Nj;cases Nj
    have YG:A3≠r:=fun z=>by rw[z,e3 _ _ cy] at Nj;cases Nj
    have mv:FE X.K F (upd (upd (upd H1 r (.lst [])) A2 (.lst [.ref r])) A3 (.lst (ps.map V.ref++[.ref r]))) (.ref A3) (.lst Θ (Τ (its.length+1) (.lst Θ []))) (A3::(ps++[r])):=by
     refine .Gy (nF A3 Vy) cy ?_;have:=jR (K:=X.K) (F:=F) (H:=upd (upd (upd H1 r (.lst [])) A2 (.lst [.ref r])) A3 (.lst (ps.map V.ref++[.ref r]))) (ps++[r]) fun p hp=>by
      rcases x_.mp hp with z|z
      ·exact⟨nF p (OB p z).1,e4 _ _ (e3 _ _ (e2 _ _ (OB p z).2))⟩
      ·rw[t_.mp z];exact⟨nF r Vx,e4 _ _ (e3 _ _ cy)⟩
     rw[T_,w_,hlen] at this;exact this
    have LO:∀ b∈A3::(ps++[r]),H b=Φ:=fun b hb=>by
     rcases k_.mp hb with rfl|hb
     ·exact Vy
     ·rcases x_.mp hb with z|z
      ·exact(OB b z).1
      ·rw[t_.mp z];exact Vx
    have Qb:(A3::(ps++[r])).Nodup:=by rw[H_];refine⟨fun z=>(x_.mp z).elim SJ fun z=>YG (t_.mp z),s_.mpr ⟨nd,by simp,fun a ha b hb e=>?_⟩⟩;rw[t_.mp hb] at e;exact YF (e ▸ ha)
    obtain⟨f5,m5⟩:=m1.put j mv (s_.mpr ⟨Qb,m.Gj,fun a ha b hb e=>by
     subst e;obtain⟨_,u,hu⟩:=m.Gq.own a hb;rw[LO a ha] at hu
     cases hu⟩) (fun b hb=>m.same.free (LO b hb)) Su
    exact q1.ok _ _ _ _ m5
   | _=>cases hn
  | _=>exact bU k7
 | _=>exact bU hc
end
section
variable {Z:Sg}{CX:G1}{cl:Nat->List D->Res D}{xp:XK->Hp->Str->Prop}{X:Cx}{ex:Str->Prop}{G:Gm}
theorem Ha (g:F7 Z CX cl xp X ex G){i:Nat}{k e:IR}{x:Str}{p sp pos:Pos}{s v:Expr}(h1:fI G i x=Θ)(h2:dS s=Θ)(h3:Fz Z G k s=Θ)(h4:Fz Z G e v=Θ) :
  PS X (.Assign [.Subscript (.Name x p) s sp] v pos) (RS X.K G.io ex (Gv cl (.IJ i k e))):=by
 refine dD (mW (Lf e Ξ X ex G v g h4) (qH (i6 g h1) (snd k X ex G s g h3).1 set_list (by intro _;cases s<;>first|rfl|cases h2)) (by cases v<;>rfl) (by cases v<;>rfl) rfl) fun Dn σ H h=>?_;obtain⟨B,F,τ,f,m,q⟩:=h;refine m.ro (E5.E3 q) fun p v H' F' fv f' o hp=>?_;obtain⟨m',hb⟩:=m.ow o;have LP:E5 ex (match cu p.2 i with|some (.lst Θ ds)=>(E3 (E8 cl k p.2) fun|.int z=>(match Hb ds.length z with|some j=>.ok (.nx (p.2.set i (Δ (.lst Θ (ds.set j p.1)))))|none=>FC)|_=>FC)|_=>FC) (Fk X.K B Dn):=hp;cases zs:cu p.2 i with
 | none=>rw[zs] at LP;exact LP.no.elim
 | some d=>
  rw[zs] at LP
  induction d using zD with
  | lst ow ds=>
   cases ow with
   | false=>exact LP.no.elim
   | true=>
    obtain⟨l,xs,G9,hl,hlen⟩:=kM m'.Gq zs;refine⟨.ref l,G9,m'.rd (E5.E3 LP) fun y w H2 m2 e2 mw hy=>?_⟩
    induction y using zD with
    | int z=>
     cases mw.FK;have Jw:E5 ex (match Hb ds.length z with|some j=>.ok (.nx (p.2.set i (Δ (.lst Θ (ds.set j p.1)))))|none=>FC) (Fk X.K B Dn):=hy;cases hj:Hb ds.length z with
     | none=>rw[hj] at Jw;exact Jw.no.elim
     | some j=>rw[hj] at Jw;obtain⟨k1,k2,k3⟩:=gG m'.FQ m'.Gq e2;have Vz:FE X.K F' H2 v p.1 fv:=o.rep.HW k3 fun a ha hb=>(s_.mp o.Gj).2.2 a ha a hb rfl;have Lc:H2 l=Δ (.lst xs):=e2 _ _ hl;obtain⟨Ni,m3⟩:=m2.write (ys:=xs.set j v) (ds':=ds.set j p.1) zs G9 Lc Vz o.Gj hb fun fi hm=>hm.set Vz j;exact⟨l,xs,z,j,rfl,rfl,Lc,by rw[hlen];exact hj,Jw.ok _ _ _ _ m3⟩
    | _=>exact hy.no.elim
  | _=>exact LP.no.elim
theorem Io (g:F7 Z CX cl xp X ex G){i:Nat}{e:IR}{x:Str}{p apos FJ pos:Pos}{v:Expr}(h1:fI G i x=Θ)(h2:(apos.endLine == FJ.line)=Θ)(h3:notStar v=Θ)(h4:Fz Z G e v=Θ) :
  PS X (.Expr (.Call (.Attribute (.Name x p) "append" apos) [v] [] FJ) pos) (RS X.K G.io ex (Gv cl (.app i e))):=by
 have pa:PA X [v] (iz (RO X.K ex (Gb cl Ξ e)) pZ):=cS (Lf e Ξ X ex G v g h4) dy (ck h3 _ _);have HC:((backTo FJ (Ν [v] X.env)).all (fun x=>!x.1)&&(backToKw FJ (keywordEach [] X.env)).all (fun x=>x.1.isSome)&&decide ([v].length+([]:List Keyword).length+(if ([]:List Keyword).isEmpty then 0 else 1) < 30))=Θ:=by rw[ck h3];rfl
 refine dD (ie (jG PySem.F.plainAttrs_list PySem.F.slot_list_append PySem.F.type_list_append gQ (i6 g h1) pa rfl HC h2 (ck h3 _ _) rfl)) fun Dn σ H h=>?_;obtain⟨B,F,τ,f,m,q⟩:=h;have q0:E5 ex (match cu τ i with|some (.lst _ _)=>(E3 (Gb cl Ξ e τ) fun p=>(match cu p.2 i with|some (.lst Θ ds)=>Fw (dP ds.length) (.ok (.nx (p.2.set i (Δ (.lst Θ (ds++[p.1]))))))|_=>FC))|_=>FC) (Fk X.K B Dn):=q;cases z0:cu τ i with
 | none=>rw[z0] at q0;exact q0.no.elim
 | some d0=>
  rw[z0] at q0
  induction d0 using zD with
  | lst o0 Sd=>
   obtain⟨v0,Yo,g0,a1,a2,a3,a4⟩:=m.Gq.at z0;have hq:∃ l xs,v0=.ref l/\Gu X.K H l xs:=by
    cases a2 with
    | Jf _ b1 _=>exact⟨_,_,rfl,.inl b1⟩
    | lstK b1 _=>exact⟨_,_,rfl,b1.sq⟩
    | Gy _ b1 _=>exact⟨_,_,rfl,.inl (.inl b1)⟩
   obtain⟨l,P8,rfl,hq⟩:=hq;refine⟨.ref l,a1,.inl ⟨rfl,P8,hq⟩,m.ro (E5.E3 q0) fun p v H' F' fv f' o hp=>?_⟩;obtain⟨m',hb⟩:=m.ow o;cases zs:cu p.2 i with
   | none=>rw[zs] at hp;exact hp.no.elim
   | some d=>
    rw[zs] at hp
    induction d using zD with
    | lst ow ds=>
     cases ow with
     | false=>exact hp.no.elim
     | true=>obtain⟨gd,hp⟩:=E5.Fw hp;obtain⟨l',xs,G9,hl,hlen⟩:=kM m'.Gq zs;rw[a1] at G9;cases G9;obtain⟨Ni,m3⟩:=m'.write (ys:=xs++[v]) (ds':=ds++[p.1]) zs a1 hl o.rep o.Gj hb fun fi hm=>hm.snoc o.rep;exact⟨l,xs,v,rfl,rfl,hl,by rw[hlen];exact gA gd,hp.ok _ _ _ _ m3⟩
    | _=>exact hp.no.elim
  | _=>exact q0.no.elim
theorem Fk.LQ {K:Frag}{io:Option Nat}{B:Bs io}{F F':Ω->Prop}{H H':Hp}{σ:St}{τ τ':Ev}{f f':List Ω}{v:V}{d:D}{fv:List Ω}(m:Gh K B F H σ τ f)(o:Ow K F H f F' H' σ v d fv τ' f'):Out K B.F B.H F' H' v d fv:=by obtain⟨m',hb⟩:=m.ow o;exact⟨m'.FQ,m'.same,o.rep,(s_.mp o.Gj).1,hb,m'.HP,m'.out⟩
theorem Ip (g:F7 Z CX cl xp X ex G){e:IR}{v:Expr}{pos:Pos}(h:Fz Z G e v=Θ):PS X (.Return (Δ v) pos) (RS X.K G.io ex (Gv cl (.ret e))):=by refine dD (qD (Lf e Θ X ex G v g h)) fun Dn σ H ⟨B,F,τ,f,m,q⟩=>?_;exact m.ro (E5.E3 q) fun p v H' F' fv f' o hp=>hp.ok _ _ _ _ (Fk.LQ m o)
theorem Hx (g:F7 Z CX cl xp X ex G){e:IR}{v:Expr}{pos:Pos}(h:Fz Z G e v=Θ):PS X (.Return (Δ v) pos) (RS X.K G.io ex (Gv cl (.Ki e))):=by refine dD (qD (Lf e Ξ X ex G v g h)) fun Dn σ H ⟨B,F,τ,f,m,q⟩=>?_;exact m.ro (E5.E3 q) fun p v H' F' fv f' o hp=>hp.ok _ _ _ _ (Fk.LQ m o)
theorem Iq (g:F7 Z CX cl xp X ex G){e:IR}{v:Expr}{pos:Pos}(hc:kL v=Θ)(h:Fz Z G e v=Θ):PS X (.Expr v pos) (RS X.K G.io ex (Gv cl (.exp e))):=by refine dD (ie (snd e X ex G v g h).1 (by induction v using zE<;>first|rfl|cases hc)) fun Dn σ H ⟨B,F,τ,f,m,q⟩=>?_;exact m.rd (E5.E3 q) fun d v H' m' _ _ hd=>hd.ok _ _ _ _ m'
theorem JF {c:Expr}{x y:List Stmt}{pos:Pos}{t:IR}{a b:List IS}(hc:PT X c (RT X.K ex (vars t) fun τ=>E3 (E8 cl t τ) cK))(ha:IA X x (RS X.K G.io ex (cI cl a)))(hb:IA X y (RS X.K G.io ex (cI cl b))):PS X (.If c x y pos) (RS X.K G.io ex (Gv cl (.FO t a b))):=by
 refine dD (xC hc ha hb) fun Dn σ H ⟨B,F,τ,f,m,q⟩=>?_;refine m.rt (E5.E3 q) fun r H' m' _ hr=>?_;cases r with
 | true=>rw[f_ rfl] at hr ⊢;exact⟨B,F,τ,f,m',hr⟩
 | false=>rw[d_ o_] at hr ⊢;exact⟨B,F,τ,f,m',hr⟩
theorem Gh.less {K:Frag}{io:Option Nat}{B:Bs io}{L:Ω->LD->Prop}{T:Ω->List V ⊕ Str->Prop}{F:Ω->Prop}{H:Hp}{σ:St}{τ:Ev}{f:List Ω}(m:Gh K (⟨B.F,B.H,fun a xs=>B.L a xs∨L a xs,fun a xs=>B.T a xs∨T a xs,B.N⟩:Bs io) F H σ τ f):Gh K B F H σ τ f:=
 ⟨m.FQ,m.Gq,m.Gj,m.same,m.own,m.HP,m.out,fun a xs h=>m.pin a xs (.inl h),fun a xs h=>m.KO a xs (.inl h),m.nm⟩
theorem ml:∀ (ds:List D) (i:Nat),(Fx ds).drop i=Fx (ds.drop i):=by intro ds i;rw[cJ,cJ,List.map_drop]
theorem mq {J:It}{K:Frag}{io:Option Nat}{B:Bs io}{F:Ω->Prop}{H:Hp}{σ:St}{τ:Ev}{f:List Ω}{T:Tg}{body:List IS}{its:List D}{Dn:Ends}(JU:∀ j∈Hw T,io≠Δ j)(m:Gh K B F H σ τ f)(w:Hr K F H J its)
  (q:E5 ex (forM (fun x τ=>E3 (dH T x τ) fun τ'=>cI cl body τ') (Fx its) τ) (Fk K B Dn)) :
  ∃ W:Nat->Nat->St->Hp->Prop,(∃ m,W 0 m σ H)/\∀ i m σ H,W i m σ H->(J.stop i H/\Dn.nx σ H)∨(J.go i H/\∃ N:St->Hp->Prop,(∀ FI H',N FI H'->∃ m',m' < m/\W (i+1) m' FI H')/\
   ∀ x H',J.Kz i H x H'->gT K T x σ H' fun IB H2=>RS K io ex (cI cl body) {Dn with nx:=N,ct:=N,bk:=Dn.nx} IB H2):=by
 let B':Bs io:=⟨B.F,B.H,fun a xs=>B.L a xs∨(F a/\Rd H a xs.o),fun a xs=>B.T a xs∨GF K H a xs,B.N⟩
 have m0:Gh K B' F H σ τ f:=⟨m.FQ,m.Gq,m.Gj,m.same,m.own,m.HP,m.out,fun a xs h=>h.elim (m.pin a xs) id,fun a xs h=>h.elim (m.KO a xs) id,m.nm⟩
 let bd:D->Ev->Res Fl:=fun x τ=>E3 (dH T x τ) fun τ'=>cI cl body τ';refine⟨fun i n σ H=>n=its.length - i/\i<=its.length/\∃ F τ f,Gh K B' F H σ τ f/\E5 ex (forM bd ((Fx its).drop i) τ) (Fk K B Dn),⟨its.length,by simp,aaa _,F,τ,f,m0,by rw[List.drop_zero];exact q⟩,?_⟩;rintro i n Uv H1 ⟨rfl,hi,F1,KG,f1,m1,q1⟩;have w1:Hr K F1 H1 J its:=w.step (fun a xs h r=>m1.pin a xs (.inr ⟨h,r⟩)) fun a xs h=>m1.KO a xs (.inr h);by_cases F0:i < its.length
 ·refine .inr ⟨w1.go F0,fun σ H=>∃ F τ f,Gh K B' F H σ τ f/\E5 ex (forM bd ((Fx its).drop (i+1)) τ) (Fk K B Dn),fun FI H' h=>⟨its.length - (i+1),by omega,rfl,F0,h⟩,fun x H' y=>?_⟩;obtain⟨eH,mx⟩:=w1.Kz y (d:=its[i]) (by simp[F0]);have m1:=m1.grow eH;have hd:(Fx its).drop i=er its[i]::(Fx its).drop (i+1):=by rw[ml,List.drop_eq_getElem_cons F0,Fx,ml]
  rw[hd] at q1;have q2:=E5.E3 q1;refine m1.gT mx.frozen (by simpa using m1.Gj) (fun a ha=>absurd ha (by simp)) JU (E5.E3 q2) fun τ' FI f' m' h'=>?_;refine⟨B',F1,τ',f',m',h'.mono fun r hr=>?_⟩;cases r with
  | nx τ'=>exact fun FI H' F' f' Lh=>⟨F',τ',f',Lh,hr⟩
  | ct τ'=>exact fun FI H' F' f' Lh=>⟨F',τ',f',Lh,hr⟩
  | bk τ'=>exact fun FI H' F' f' Lh=>hr.ok _ _ _ _ Lh.less
  | rt d=>exact fun v H' F' fv o=>hr.ok _ _ _ _ o
  | ri d ks es=>exact hr.ok
 ·have e:i=its.length:=by omega
  subst e;refine .inl ⟨w1.stop rfl,?_⟩;have:(Fx its).drop its.length=[]:=by rw[<- eB its,List.drop_length]
  rw[this] at q1;exact q1.ok _ _ _ _ m1.less
theorem wG (a b:Int):Fx (cO a b)=cO a b:=by unfold cO;rw[cJ,E_];rfl
noncomputable def xO (cl:Nat->List D->Res D):Sr->Ev->Res (Int×Int)
 | .FV n,τ=>E3 (E8 cl n τ) fun|.int i=>Fw (hW i) (.ok (0,i))|_=>FC
 | _,_=>FC
def YH (K:Frag)(ex:Str->Prop)(is:List Nat)(f:Ev->Res (Int×Int)):TI:=fun σ H R=>∃ S τ,Slots K S H σ τ is/\E5 ex (f τ) fun p=>∀ H',cz H H'->R (NF p.1 (p.2 - p.1).toNat) H'
noncomputable def sr:Sr->Bool
 | .FV _=>Θ
 | _=>Ξ
theorem su {s:Sr}(h:sr s=Θ){τ:Ev}{k:List D->Prop}(q:E5 ex (eL cl s τ) k):E5 ex (xO cl s τ) fun p=>k (cO p.1 p.2):=by
 cases s with
 | FV n=>
  refine E5.mk ((E5.E3 (show E5 ex (E3 (E8 cl n τ) fun|.int i=>Fw (hW i) (.ok (cO 0 i))|_=>FC) k from q)).mono fun d hd=>?_)
  induction d using zD with
  | int i=>obtain⟨gd,hd⟩:=E5.Fw hd;show E5 ex (Fw (hW i) (.ok (0,i))) _;unfold Fw;rw[f_ gd];exact hd.ok
  | _=>exact hd.no.elim
 | _=>exists h
theorem EU:∀ (s:Sr) (X:Cx) (ex:Str->Prop) (G:Gm) (e tg:Expr),F7 Z CX cl xp X ex G->eI Z G s e=Θ->sr s=Θ->PI X tg e (YH X.K ex (eS s) (xO cl s)):=by
 intro s X ex G e tg g h hr;cases s with
 | FV n=>
  induction e using zE with
  | Call fn args Hs pos=>
   induction fn using zE with
   | Name x p=>
    match args,Hs,h with
    | [a],[],h=>
     have h':(x == "range"&&G.gl.contains 15&&notStar a&&Fz Z G n a)=Θ:=h;simp only[g_] at h';have e1:x = "range":=h_ h'.1.1.1;subst e1;obtain⟨k1,k2,_,_⟩:=eU g (show cW[15]? = Δ ("range" : Str) from rfl) h'.1.1.2;refine kq (jB k1 k2 (cS (snd n X ex G a g h'.2).1 dy (ck h'.1.2 _ _)) (ck h'.1.2 _ _)) fun σ H Q ⟨S,τ,hs,q⟩=>?_;refine cQ (.refl _) hs (E5.E3 q) fun x v H1 e1 _ m1 q1=>?_
     induction x using zD with
     | int i=>cases m1.FK;obtain⟨gd,q1⟩:=E5.Fw q1;have KJ : -(2 ^ 62)<=i/\i < 2 ^ 62:=p_ gd;refine⟨i,rfl,KJ.1,KJ.2,?_⟩;have:=q1.ok _ e1;rw[show (0,i).2 - (0,i).1=i from Int.sub_zero i] at this;exact this
     | _=>exact q1.no.elim
    | [],_,h=>exists h
    | [_],_::_,h=>exists h
    | _::_::_,_,h=>exists h
   | _=>exists h
  | _=>exists h
 | _=>cases hr
theorem Ir (g:F7 Z CX cl xp X ex G){t it:Expr}{x:List Stmt}{pos:Pos}{T:Tg}{s:Sr}{a:List IS}(Mg:(G.cm=Θ/\G.rs=Θ)/\dI G T t=Θ)(PX:eI Z G s it=Θ/\gZ s t=Θ)(ha:IA X x (RS X.K G.io ex (cI cl a))):PS X (.For t it x [] pos) (RS X.K G.io ex (Gv cl (.FZ T s a))):=by
 have hT:=Mg.2;have hs:=PX.1;by_cases hr:sr s=Θ
 ·refine dD (qJ (g.own Mg.1.2) (g.calm Mg.1.1) (EU s X ex G it t g hs hr) (LM g T t hT) ha (fun x=>dN hs X.env x)) fun Dn σ H ⟨B,F,τ,f,m,q⟩=>?_;have q0:E5 ex (E3 (lV cl s τ) fun p=>forM (fun x τ=>E3 (dH T x τ) fun τ'=>cI cl a τ') p.1 p.2) (Fk X.K B Dn):=q;have base:E5 ex (eL cl s τ) fun its=>E5 ex (forM (fun x τ=>E3 (dH T x τ) fun τ'=>cI cl a τ') its τ) (Fk X.K B Dn):=by
   cases s with
   | FV u=>exact(E5.E3 (show E5 ex (E3 (eL cl (.FV u) τ) fun its=>.ok (its,τ)) _ from E5.E3 q0)).mono fun its h=>h.ok
   | _=>cases hr
  exact⟨fun _=>True,τ,cU m.Gq,(su hr base).mono fun p hp H1 e1=>mq (gE T t hT) (m.grow e1) (.JY p.1 p.2) (by rw[wG];exact hp)⟩
 ·refine dD (qJ (g.own Mg.1.2) (g.calm Mg.1.1) (r9 s X ex G it t g hs PX.2) (LM g T t hT) ha (fun x=>dN hs X.env x)) fun Dn σ H ⟨B,F,τ,f,m,q⟩=>?_;have q0:E5 ex (E3 (lV cl s τ) fun p=>forM (fun x τ=>E3 (dH T x τ) fun τ'=>cI cl a τ') p.1 p.2) (Fk X.K B Dn):=q;have q1:=E5.E3 q0;have SK:lV cl s τ=(E3 (eL cl s τ) fun its=>.ok (Fx its,FT (eS s) τ)):=by
   cases s with
   | val u=>rfl
   | zip u v=>rfl
   | HN u=>rfl
   | _=>exact absurd rfl hr
  rw[SK] at q1;obtain⟨F1,gg,b1,b2,b3,b4,b5,b6⟩:=gH (eS s) m.FQ m.Gq m.Gj;refine Ay (.refl _) b6 (E5.E3 q1) fun its J H1 e1 _ w1 hk=>?_;obtain⟨c1,c2,c3⟩:=grow (fun _=>True) b1 b2 e1;have m2:Gh X.K B (fun a=>F1 a∨(True/\H a=Φ/\H1 a≠Φ)) H1 σ (FT (eS s) τ) gg:=m.HW (b4.trans c3 (fun x hx=>.inl (b5 x hx))) c1 c2 b3 fun a ha=>.inl (b5 a ha);exact mq (gE T t hT) m2 (w1.step (fun a xs h r=>⟨h.elim (fun z=>.inl z) fun z=>.inr ⟨trivial,z,r.some⟩,r⟩) fun a xs h=>h) hk.ok
mutual
theorem VA:∀ (a:IS) (X:Cx) (ex:Str->Prop) (G:Gm) (s:Stmt),F7 Z CX cl xp X ex G->nQ Z G a s=Θ->PS X s (RS X.K G.io ex (Gv cl a))
 | .asg tg e,X,ex,G,s,g,h=>by
  induction s using zS with
  | Assign ts v pos=>
   match ts,h with
   | [t],h=>have h':(dI G tg t&&Fz Z G e v&&(isName t||(isTup t&&notTuple v)))=Θ:=h;simp only[g_] at h';exact Ik g h'.1.1 h'.1.2 h'.2
   | [],h=>exists h
   | _::_::_,h=>exists h
  | _=>exists h
 | .IJ i k e,X,ex,G,s,g,h=>by
  induction s using zS with
  | Assign ts v pos=>
   cases ts with
   | nil=>exists h
   | cons t ts=>
    cases ts with
    | cons _ _=>cases t<;>first|exact bU h|cases h|(rename_i o _ _;cases o<;>cases h)
    | nil=>
     induction t using zE with
     | Subscript o s sp=>
      induction o using zE with
      | Name x p=>have h':(fI G i x&&dS s&&Fz Z G k s&&Fz Z G e v)=Θ:=h;simp only[g_] at h';exact Ha g h'.1.1.1 h'.1.1.2 h'.1.2 h'.2
      | _=>exists h
     | _=>exists h
  | _=>exists h
 | .M5 j G' fr t src,X,ex,G,s,g,h=>by
  have h1:P7 s (fun tg e=>isName tg&&dI G (.nm j) tg&&Fz Z G (.comp G' fr (.nm t) src [] (.lst [])) e)=Θ:=by induction s using zS<;>exact h
  exact Im g h1
 | .K9 i j e c x v w,X,ex,G,s,g,h=>by induction s using zS<;>exists h
 | .ins i k e,X,ex,G,s,g,h=>by
  induction s using zS with
  | Expr v pos=>
   induction v using zE with
   | Call fn args Hs FJ=>
    induction fn using zE with
    | Attribute o name apos=>
     induction o using zE with
     | Name x p=>
      match args,Hs,h with
      | [s,v],[],h=>have h':(fI G i x&&name == "insert"&&apos.endLine == FJ.line&&(notStar s&&notStar v)&&Fz Z G k s&&Fz Z G e v)=Θ:=h;simp only[g_] at h';have e1:name = "insert":=h_ h'.1.1.1.1.2;subst e1;exact Il g h'.1.1.1.1.1 h'.1.1.1.2 h'.1.1.2.1 h'.1.1.2.2 h'.1.2 h'.2
      | [],_,h=>exists h
      | [_],_,h=>exists h
      | [_,_],_::_,h=>exists h
      | _::_::_::_,_,h=>exists h
     | _=>exists h
    | _=>exists h
   | _=>exists h
  | _=>exists h
 | .app i e,X,ex,G,s,g,h=>by
  induction s using zS with
  | Expr v pos=>
   induction v using zE with
   | Call fn args Hs FJ=>
    induction fn using zE with
    | Attribute o name apos=>
     induction o using zE with
     | Name x p=>
      match args,Hs,h with
      | [v],[],h=>have h':(fI G i x&&name == "append"&&apos.endLine == FJ.line&&notStar v&&Fz Z G e v)=Θ:=h;simp only[g_] at h';have e1:name = "append":=h_ h'.1.1.1.2;subst e1;exact Io g h'.1.1.1.1 h'.1.1.2 h'.1.2 h'.2
      | [],_,h=>exists h
      | [_],_::_,h=>exists h
      | _::_::_,_,h=>exists h
     | _=>exists h
    | _=>exists h
   | _=>exists h
  | _=>exists h
 | .exp e,X,ex,G,s,g,h=>by
  induction s using zS with
  | Expr v pos=>
   have h':(kL v&&Fz Z G e v)=Θ:=by induction v using zE<;>first|exact h|(rename_i c _ _;cases c<;>exact h)
   simp only[g_] at h';exact Iq g h'.1 h'.2
  | _=>exists h
 | .ret e,X,ex,G,s,g,h=>by
  induction s using zS with
  | Return v pos=>
   cases v with
   | none=>exists h
   | some v=>exact Ip g h
  | _=>exists h
 | .Ki e,X,ex,G,s,g,h=>by
  induction s using zS with
  | Return v pos=>
   cases v with
   | none=>exists h
   | some v=>exact Hx g h
  | _=>exists h
 | .FO t a b,X,ex,G,s,g,h=>by
  induction s using zS with
  | If c x y pos=>have h':(Fz Z G t c&&d5 Z G a x&&d5 Z G b y)=Θ:=h;simp only[g_] at h';exact JF (snd t X ex G c g h'.1.1).2 (qt a X ex G x g h'.1.2) (qt b X ex G y g h'.2)
  | _=>exists h
 | .FZ tg s body,X,ex,G,st,g,h=>by
  induction st using zS with
  | For t it b YI pos=>
   cases YI with
   | cons _ _=>exists h
   | nil=>have h':(((G.cm&&G.rs)&&dI G tg t)&&(eI Z G s it&&gZ s t)&&d5 Z G body b)=Θ:=h;simp only[g_] at h';exact Ir g h'.1.1 h'.1.2 (qt body X ex G b g h'.2)
  | _=>exists h
 | .brk,X,ex,G,s,g,h=>by cases s<;>exists h
 | .cnt,X,ex,G,s,g,h=>by cases s<;>exists h
 | .pass,X,ex,G,s,g,h=>by cases s<;>exists h
 | .never,X,ex,G,s,g,h=>dD qE fun Dn σ H ⟨B,F,τ,f,m,q⟩=>q.no.elim
theorem qt:∀ (as:List IS) (X:Cx) (ex:Str->Prop) (G:Gm) (ss:List Stmt),F7 Z CX cl xp X ex G->d5 Z G as ss=Θ->IA X ss (RS X.K G.io ex (cI cl as))
 | [],X,ex,G,ss,g,h=>by
  cases ss with
  | nil=>exact fK ic fun Dn σ H ⟨B,F,τ,f,m,q⟩=>q.ok _ _ _ _ m
  | cons _ _=>exists h
 | a::as,X,ex,G,ss,g,h=>by
  cases ss with
  | nil=>induction a using zT<;>exists h
  | cons s ss=>
   cases VB:xM a with
   | true=>
    cases a with
    | K9 i j e c x v w=>
     cases ss with
     | nil=>
      have h':(nQ Z G (.K9 i j e c x v w) s&&d5 Z G as [])=Θ:=h;have h1:=(D_.mp h').1
      induction s using zS<;>first|exact bU h1|cases h1
     | cons s' ss=>have h':=D_.mp (show (oU Z G i j e c x v w s s'&&d5 Z G as ss)=Θ from h);exact wF g h'.1 (qt as X ex G ss g h'.2)
    | _=>cases VB
   | false=>
    have h':(nQ Z G a s&&d5 Z G as ss)=Θ:=by rw[<- nR VB];exact h
    simp only[g_] at h';refine fK (ft (VA a X ex G s g h'.1) (qt as X ex G ss g h'.2)) fun Dn σ H ⟨B,F,τ,f,m,q⟩=>?_;refine⟨B,F,τ,f,m,(E5.E3 q).mono fun r hr=>?_⟩;cases r with
    | nx τ'=>exact fun FI H' F' f' m'=>⟨B,F',τ',f',m',hr⟩
    | ct τ'=>exact hr.ok
    | bk τ'=>exact hr.ok
    | rt d=>exact hr.ok
    | ri d ks es=>exact hr.ok
end
end
section
variable {P:Ε}{w:Β}
theorem kN {outer:List Env}{H:Hp}{s:Α}{E:XK}{e:Ψ}{s':Α}(x:Gw P w H s.heap)(fr:∀ b∈GJ outer,H b=Φ)(h:GW P w outer (cT s.heap H) s E e s'):GW P w outer H s E e s':=by obtain⟨a,cls,a0,H',B,h1,h2,h3,h4,h5,_,h6,h7,h8⟩:=h;exact⟨a,cls,a0,gB H H',B,h1,h2,h3,nJ x h4,nH x h5 (gC h4) (fun b o _=>h6 b o) fr,l7,fun b o e n f=>h6 b o e (dR n) f,h7,h8⟩
theorem kO {outer:List Env}{H:Hp}{s:Α}{e:Ψ}{s':Α}:¬ GW P w outer H s (fun _ _ _=>False) e s':=fun ⟨_,_,_,_,_,_,_,_,_,_,_,_,_,z⟩=>z
variable {K:Frag}{mg:Str->Option Ψ}{base:Heap}{N:List Str}{qual:Str}{scope:Scope}{f:Ω}{cd:Ψ}{A:Ι}{outer:List Env}{s:Α}{H:Hp}{E:XK}
theorem xP {H':Hp}{B:Heap}{s2:Α}{a:Ω}{cls a0:Ψ}(lt:Mq H)(os:s2.os=s.os)(bare:AllBare s2.gens)(fl:Heap.FlyingW B outer a cls a0 s2.heap)(hB:Gw P w H' B)
  (kB:∀ b o,s.heap.get? b=Δ o->H b=Φ->b∉GJ outer->B.get? b=Δ o) (hs:∀ b o,s.heap.get? b=Δ o->H b=Φ->b∈GJ outer->∃ sl,s2.heap.get? b=Δ {o with slots:=sl})
  (fr:∀ b o,s.heap.get? b=Δ o->H b=Φ->H' b=Φ) (pz:∀ b o u,H b=Δ (.FT o u)->H' b=Δ (.FT o u)) (pt:∀ b xs,H b=Δ (.tup xs)->H' b=Δ (.tup xs)) (hE:E cls Φ H0):GW P w outer H s E (.ref a) s2:=by
 refine⟨a,cls,a0,H',B,rfl,os,bare,⟨fun b o e n nf _=>fl.1 _ _ (kB b o e n nf),fun b o e n hf _=>hs b o e n hf,fun b o e n _=>fr b o e n,fun b o e _=>?_,pt,pz,fun b ps e=>?_⟩,hB,fun b o e=>(lt b o e).elim (fun ⟨ob,u,z⟩=>by subst z;exact pz _ _ _ e) fun ⟨xs,z⟩=>by subst z;exact pt _ _ e,kB,fl,hE⟩
 ·cases q:H b with
  | none=>
   by_cases hf:b∈GJ outer
   ·obtain⟨sl,h⟩:=hs b o e q hf;exact⟨_,h⟩
   ·exact⟨_,fl.1 _ _ (kB b o e q hf)⟩
  | some u=>
   have:∃ u',H' b=Δ u':=by
    rcases lt b u q with ⟨ob,v,rfl⟩|⟨xs,rfl⟩
    ·exact⟨_,pz _ _ _ q⟩
    ·exact⟨_,pt _ _ q⟩
   obtain⟨u',hu⟩:=this;obtain⟨ob,ho⟩:=(hB b u' hu).at
   exact⟨_,fl.1 _ _ ho⟩
 ·rcases lt b _ e with ⟨ob,v,z⟩|⟨xs,z⟩<;>cases z
theorem xQ {b:Ω}{o:Obj}(e:s.heap.get? b=Δ o)(n:b∉GJ outer):b∉GJ (envOfC qual scope s.heap.objs.size f cd::outer):=fun z=>by
 unfold GJ at z n;rcases List.mem_filterMap.mp z with ⟨env,hm,hf⟩
 rcases k_.mp hm with rfl|hm
 ·have h1:s.heap.objs.size=b:=F_ hf;have h2:=i_ e;rw[h1] at h2;exact R_ _ h2
 ·exact n (List.mem_filterMap.mpr ⟨env,hm,hf⟩)
theorem wH (lt:Mq H){ex:Str->Prop}(hE:∀ c C,ex c->PySem.W.nsIn K Η c=Δ (Δ (.ref C))->E (.ref C) Φ H0) :
  Passes (GW P w) (fB (GW P w) P w K mg base N qual scope f cd A outer s H E) (fun cls _ _=>∃ c C,ex c/\PySem.W.nsIn K Η c=Δ (Δ (.ref C))/\cls=.ref C):=by
 intro pins σ H1 s1 e s' I ⟨a,cls,a0,H',B,he,os,bare,un,hB,_,kB,fl,c,C,hc,hn,L3⟩;subst he L3;have I':=I.Lp os un (hB.kept fl.1) bare (fun b z=>absurd z (by simp));show Κ _ _ (leaving _ (.ref a)) _ _ s';refine wpAny_leaves_onW (show (A.deeper (envOfC qual scope s.heap.objs.size f cd)).frames=Δ (envOfC qual scope s.heap.objs.size f cd::outer) from I.ok.frames) rfl fl fun h' YJ up=>?_;refine xP lt I'.os I'.bare YJ hB (fun b o e n nf=>?_) (fun b o e n hf=>?_) (fun b o e n=>I'.base.free b o e n (by simp[fB])) I'.base.GG I'.base.G4 (hE c C hc hn)
 ·exact kB b o (I.base.keep b o e n nf (by simp[fB])) (I.base.free b o e n (by simp[fB])) (xQ e nf)
 ·obtain⟨sl,h1⟩:=I'.base.slot b o e n hf (by simp[fB]);obtain⟨_,o',Hz,nf⟩:=I.ok.G5.mem hf;have Hz:s.heap.get? b=Δ o':=Hz;rw[e] at Hz;cases Hz;obtain⟨NB,h2⟩:=up b _ h1 nf;exact⟨NB,h2⟩
theorem sy (lt:Mq H){pins:List (Ω×Obj)}{σ:St}{H1:Hp}{s1:Α}{C e:Ω}{h':Heap}{vs:List Ψ}(hE:E (.ref C) Φ H0)
  (I:Inv (fB (GW P w) P w K mg base N qual scope f cd A outer s H E) pins σ H1 s1) (hx:Heap.MadeExcOf s1.heap h' e (.ref C) vs) :
  (fB (GW P w) P w K mg base N qual scope f cd A outer s H E).xe (.ref e) {s1 with heap:=h'}:=by
 have IV:∀ env∈(fB (GW P w) P w K mg base N qual scope f cd A outer s H E).stack,∀ b,env.frame=Δ b->b∈GJ (fB (GW P w) P w K mg base N qual scope f cd A outer s H E).stack:=fun env he b hb=>List.mem_filterMap.mpr ⟨env,he,hb⟩;show Κ _ _ (leaving _ (.ref e)) _ _ _;refine wpAny_leaves_madeW (base:=PySem.W.hideAll s1.heap (GJ (fB (GW P w) P w K mg base N qual scope f cd A outer s H E).stack)) (h:=s1.heap) (show (A.deeper (envOfC qual scope s.heap.objs.size f cd)).frames=Δ (envOfC qual scope s.heap.objs.size f cd::outer) from I.ok.frames) rfl (fun b o q=>PySem.W.of_hideAll _ q) (PySem.W.funFrames_hide I.stack IV) hx fun h2 t fl _ _ up=>?_;have L0:∀ b u o,H1 b=Δ u->s1.heap.get? b=Δ o->(PySem.W.hideAll s1.heap (GJ (fB (GW P w) P w K mg base N qual scope f cd A outer s H E).stack)).get? b=Δ o:=fun b u o hu ho=>PySem.W.hideAll_get _ ho fun z=>by rw[I.Ic b z] at hu;cases hu
 refine xP (H':=H1) lt I.os I.bare fl (fun b o hb=>?_) (fun b o he n nf=>?_) (fun b o he n hf=>?_) (fun b o e n=>I.base.free b o e n (by simp[fB])) I.base.GG I.base.G4 hE
 ·refine(I.FN b o hb).Hy (fun c u hc hu=>?_) (fun _ z=>z) fun _ _ z=>z;rcases hc with rfl|hc
  ·exact L0 _ _ _ hb hu
  ·exact L0 _ _ _ hc hu
 ·exact PySem.W.hideAll_get _ (I.base.keep b o he n nf (by simp[fB])) (xQ he nf)
 ·obtain⟨sl,h1⟩:=I.base.slot b o he n hf (by simp[fB]);obtain⟨_,o',Hz,nf⟩:=I.ok.G5.mem hf;have Hz:s.heap.get? b=Δ o':=Hz;rw[he] at Hz;cases Hz;obtain⟨NB,h3⟩:=up b _ (hx.keeps b _ h1) nf;exact⟨NB,h3⟩
end
def SM (K:Frag){io:Option Nat}(B:Bs io)(ex:Str->Prop)(g:Ev->Res Fl):TS:=fun Dn σ H=>∃ F τ f,Gh K B F H σ τ f/\E5 ex (g τ) (Fk K B Dn)
noncomputable def sA (Z:Sg)(G:Gm):List IS->List Stmt->Bool
 | [],[]=>Θ
 | a::as,s::ss=>nQ Z G a s&&sA Z G as ss
 | _,_=>Ξ
section
variable {Z:Sg}{cl:Nat->List D->Res D}{X:Cx}{ex:Str->Prop}{G:Gm}
theorem VC (g:F7 Z (GW X.prog X.w) cl (JB X.K) X ex G)(Gn:X.stack=X.env::X.outer)(YK:X.env.frame=Δ X.env.locals)(lt:Mq X.Ib)(KU:∀ a:Ω,∀ f∈Z.fns,f∈Z.pl->∀ x,Z.name f=Δ x->Ms X.prog X.w X.K X.mg X.base (GW X.prog X.w) (X.A.mark (Δ (.ref a))) cl (JB X.K) f x)
  {B0:Bs G.io} (YL:B0.N=Φ) (YM:B0.H=X.Ib) (YN:HV B0.F B0.H) (YO:∀ a xs,¬ B0.L a xs) (YQ:∀ a xs,¬ B0.T a xs):∀ (as:List IS) (ss:List Stmt),sA Z G as ss=Θ->IA X ss (SM X.K B0 ex (cI cl as))
 | [],ss,h=>by
  cases ss with
  | nil=>exact fK ic fun Dn σ H ⟨F,τ,f,m,q⟩=>q.ok _ _ _ _ m
  | cons _ _=>cases h
 | a::as,ss,h=>by
  cases ss with
  | nil=>cases h
  | cons s ss=>
   have h':(nQ Z G a s&&sA Z G as ss)=Θ:=h;rw[g_] at h';have p1:PS X s (SM X.K B0 ex (Gv cl a)):=by exact dD (VA a X ex G s g h'.1) fun Dn σ H ⟨F,τ,f,m,q⟩=>⟨B0,F,τ,f,m,q⟩
   refine fK (ft p1 (VC g Gn YK lt KU YL YM YN YO YQ as ss h'.2)) fun Dn σ H ⟨F,τ,f,m,q⟩=>?_;refine⟨F,τ,f,m,(E5.E3 q).mono fun r hr=>?_⟩;cases r with
   | nx τ'=>exact fun FI H' F' f' m'=>⟨F',τ',f',m',hr⟩
   | ct τ'=>exact hr.ok
   | bk τ'=>exact hr.ok
   | rt d=>exact hr.ok
   | ri d ks es=>exact hr.ok
end
noncomputable def sC (Z:Sg)(fn:Fn)(ps:List Str)(st:Stmt):Bool:=
 (cE st).kind == .function&&!(cE st).isCoroutine&&!(cE st).isGenerator&&decide (fn.G.N.Nodup)&&fn.G.N.take ps.length == ps
&&ps.all (fun x=>(cE st).names.lookup x == Δ .local||(cE st).names.lookup x == Δ .cell)&&(cE st).names.all (fun y=>y.2 != .free)
&&(List.range fn.G.N.length).all (fun i=>(fn.G.N[i]?).bind ((cE st).names.lookup ·) == fn.G.kd[i]?)
&&fn.G.N.all (fun x=>!(x == "__debug__")&&!(x == "__classdict__"))
&&fn.G.gl.all (fun n=>match Z.name n with|some x=>(cE st).names.lookup x == Δ .globalImplicit|none=>Ξ)
&&decide (ps.length=fn.np)
noncomputable def cw (Z:Sg)(fn:Fn)(ps:List Str)(st:Stmt):Bool:=sC Z fn ps st&&(!fn.io&&sA Z fn.G fn.body (dB st))
structure Kr (Z:Sg)(fn:Fn)(ps:List Str)(st:Stmt):Prop where
 sc:Ie fn.G.N ps (cE st)
 kd:∀ (i:Nat) (x:Str),fn.G.N[i]? = Δ x->(cE st).names.lookup x=fn.G.kd[i]?
 KH:∀ x∈fn.G.N,(x == ("__debug__" : Str))=Ξ/\(x == ("__classdict__" : Str))=Ξ
 gl:∀ n∈fn.G.gl,∀ x,Z.name n=Δ x->(cE st).names.lookup x=Δ .globalImplicit
 np:ps.length=fn.np
structure JG (Z:Sg)(fn:Fn)(ps:List Str)(st:Stmt):Prop extends Kr Z fn ps st where
 pl:fn.io=Ξ
 body:sA Z fn.G fn.body (dB st)=Θ
structure LR (Z:Sg)(fn:Fn)(ps:List Str)(st:Stmt):Prop extends Kr Z fn ps st where
 io:fn.io=Θ
 body:d5 Z fn.G fn.body (dB st)=Θ
 YR:fn.G.io=Δ (fn.np - 1)
 pos:0 < fn.np
 YT:fn.G.tr=Ξ
theorem sD {Z:Sg}{fn:Fn}{ps:List Str}{st:Stmt}(h:sC Z fn ps st=Θ):Kr Z fn ps st:=by
 unfold sC at h;simp only[g_] at h;obtain⟨⟨⟨⟨⟨⟨⟨⟨⟨⟨h1,h2⟩,h3⟩,h4⟩,h5⟩,h6⟩,h7⟩,h8⟩,h9⟩,KC⟩,Lz⟩:=h;rw[U_] at h6 h7 h8 h9 KC;refine⟨⟨h_ h1,by simpa using h2,by simpa using h3,p_ h4,h_ h5,fun x hx=>?_,fun y hy=>by simpa using h7 y hy⟩,fun i x hx=>?_,fun x hx=>by simpa using h9 x hx,fun n hn x hx=>?_,p_ Lz⟩
 ·have:=h6 x hx;rw[X_] at this;exact this.elim (fun z=>.inl (h_ z)) fun z=>.inr (h_ z)
 ·have F0:i < fn.G.N.length:=(v_.mp hx).1;have:=h_ (h8 i (Y_.mpr F0));rw[hx] at this;exact this
 ·have:=KC n hn;rw[hx] at this;exact h_ this
theorem mr {Z:Sg}{fn:Fn}{ps:List Str}{st:Stmt}(h:cw Z fn ps st=Θ):JG Z fn ps st:=by unfold cw at h;rw[g_,g_] at h;exact⟨sD h.1,by simpa using h.2.1,h.2.2⟩
structure OC (K:Frag)(mg:Str->Option Ψ)(Z:Sg)(T:Tb)(f:Nat)(x:Str):Prop where
 ex:∃ (fn:Fn) (st:Stmt) (fa:Ω) (fd:Ο) (ps:List Str),T f=Δ fn/\Lw K x x st fa fd/\mg x=Δ (.ref fa)/\Binds K fd ps []/\LR Z fn ps st
structure FA (K:Frag)(mg:Str->Option Ψ)(Z:Sg)(T:Tb)(f:Nat)(x:Str):Prop where
 ex:∃ (fn:Fn) (st:Stmt) (fa:Ω) (fd:Ο) (ps:List Str),T f=Δ fn/\Lw K x x st fa fd/\mg x=Δ (.ref fa)/\Binds K fd ps []/\JG Z fn ps st
section
variable {P:Ε}{w:Β}{K:Frag}{mg:Str->Option Ψ}{base:Heap}{Z:Sg}{T:Tb}
def VE (mg:Str->Option Ψ)(x:Str)(v:V):Prop:=(∃ C,v=.ref C/\mg x=Δ (.ref C))∨(∃ T,v=.ty T/\mg x=Φ/\bootBuiltins x=Δ (.type T))
structure HX (K:Frag)(mg:Str->Option Ψ)(Z:Sg)(T:Tb):Prop where
 LK:∀ n x,Z.name n=Δ x->x≠"__name__"/\(x == ("__debug__" : Str))=Ξ
 blt:∀ (n:Nat) (x:Str),cW[n]? = Δ x->mg x=Φ
 cst:∀ n d x,(n,d)∈Z.M7->Z.name n=Δ x->∃ u v,mg x=Δ u/\RelV v u/\∀ S H,E6 K S H v d
 fns:∀ f∈Z.fns,∀ x,Z.name f=Δ x->FA K mg Z T f x
 JO:∀ f∈Z.JO,∀ x,Z.name f=Δ x->OC K mg Z T f x
 HG:∀ f∈Z.pl,∀ fn,T f=Δ fn->fn.G.cm=Ξ
 M9:∀ n∈Z.cls,∀ x,Z.name n=Δ x->∃ v,VE mg x v
 M':∀ c n b x,(c,n,b)∈Z.xt->Z.name n=Δ x->∃ C,PySem.W.nsIn K Η c=Δ (Δ (.ref C))/\ExcAt K C/\∀ v,VE mg x v->PySem.W.kitOne K (.ref C) (vv v)=Δ b
 Na:∀ c n x,(c,n)∈Z.xm->Z.name n=Δ x->∃ C C',PySem.W.nsIn K Η c=Δ (Δ (.ref C))/\PySem.W.nsIn K Η x=Δ (Δ (.ref C'))/\nameIn K C=Δ c/\mg x=Δ (.ref C')/\PySem.W.exmOne K (.ref C) (.ref C')=Δ Θ
 Nb:∀ n c,(n,c)∈Z.rc->Z.name n=Δ c/\∃ C,mg c=Δ (.ref C)/\PySem.W.nsIn K Η c=Δ (Δ (.ref C))/\PySem.W.excIn K C Vd "ValueError.__new__" = Θ
theorem jS {F:Ω->Prop}{H:Hp}:∀ {vs:List V}{ds:List D} (n:Nat),E4 K F H vs ds->FU K F H (vs.map Δ++Τ n Φ) ((Fx ds).map Δ++Τ n Φ) []
 | [],[],n,.nil=>by
  induction n with
  | zero=>exact .nil
  | succ n ih=>exact .none ih
 | v::vs,d::ds,n,.cons h1 h2=>.some (f:=[]) h1.frozen (jS n h2)
structure Rm (n:Nat)(A:Ι):Prop where
 dp:A.depth+3*n+5 < recursionLimit
 un:A.units+16*n+200 < cLine
theorem Rm.room {n:Nat}{A:Ι}(r:Rm n A)(hn:n < 900)(h:A.handled=Φ):GK n A:=⟨fun _=>h,by have:=r.dp;rw[Nat.mod_eq_of_lt (by omega)];exact this,by have:=r.un;rw[Nat.mod_eq_of_lt (by omega)];exact this⟩
theorem Rm.LS {n:Nat}{A:Ι}(r:Rm n A)(hn:n < 900):GK (1000+n) A:=⟨fun z=>by omega,by have:=r.dp;rw[show (1000+n) % 1000=n by omega];exact this,by have:=r.un;rw[show (1000+n) % 1000=n by omega];exact this⟩
theorem Rm.of {n k:Nat}{A:Ι}(r:GK k A)(h:k % 1000=n):Rm n A:=⟨by have:=r.dp;rw[h] at this;exact this,by have:=r.un;rw[h] at this;exact this⟩
theorem kP (t:HX K mg Z T){n k:Nat}{f:Nat}{fn:Fn}{x:Str}{st:Stmt}{fa:Ω}{fd:Ο}{ps:List Str}(hk:k % 1000=n)(hn:n < 900)(h1:T f=Δ fn)(h2:Lw K x x st fa fd)(h5:JG Z fn ps st)(hp:k < 1000∨fn.G.cm=Ξ)
  (ih:∀ (A:Ι),Rm n A->∀ f∈Z.fns,(A.handled=Φ∨f∈Z.pl)->∀ x,Z.name f=Δ x->Ms P w K mg base (GW P w) A (aB T n) (JB K) f x)
  (Ke:∀ (A:Ι),Rm n A->∀ f∈Z.JO,A.handled=Φ->∀ x,Z.name f=Δ x->PV P w K mg base (GW P w) A (aB T n) f x) :
  He P w K mg base (GW P w) (k+1) fa fd ps (Mr K (aB T (n+1)) (JB K) f ps):=by
 have HE:∀ ds,aB T (n+1) f ds=fS (aB T n) fn ds:=fun ds=>by show (match T f with|some fn=>(match fn.io with|false=>fS (aB T n) fn ds|true=>gr (aB T n) fn ds)|none=>FC)=_;rw[h1];show (match fn.io with|false=>fS (aB T n) fn ds|true=>gr (aB T n) fn ds)=_;rw[h5.pl]
 obtain⟨oc,od,kV,doc,pm,an,HA,ct,KW,rfl,lk,J8⟩:=h2.ex;refine xF lk J8 h5.sc (by omega) (fun vs H Q E h=>h.1) fun A outer s H vs Q E hr IQ=>?_;obtain⟨hl,lt,F,ds,FQ,m,q⟩:=IQ;have JQ:fn.G.cm=Θ->A.handled=Φ:=fun z=>hp.elim (fun h=>hr.hd h) fun h=>by rw[h] at z;cases z
 refine⟨_,VC (Z:=Z) (cl:=aB T n) (ex:=JB K E H) (G:=fn.G) (B0:=⟨F,H,fun _ _=>False,fun _ _=>False,Φ⟩) ?_ rfl rfl lt (fun a f' JH ME x' GI=>ih ((A.deeper (envOfC x (cE st) s.heap.objs.size fa HA)).mark (Δ (.ref a))) ⟨(Rm.of hr hk).dp,(Rm.of hr hk).un⟩ f' JH (.inr ME) x' GI) rfl rfl FQ (fun _ _ z=>z) (fun _ _ z=>z) fn.body (dB st) h5.body,?_⟩
 ·refine⟨rfl,h5.sc.nd,fun z=>by show A.handled.isNone=Θ;rw[JQ z];rfl,h5.sc.kind,?_,fun _=>PassesOwn.leaving,fun i y hy=>h5.kd i y hy,fun i y hy=>h5.KH y (aag hy),fun m hm y hy=>h5.gl m hm y hy,t.LK,fun _ _=>rfl,t.blt,t.cst,?_,fun f' JH z x' GI=>Ke _ (Rm.of hr hk) f' JH (JQ z) x' GI,t.M9,t.M',t.Na,t.Nb,?_,?_,?_,?_,?_⟩
  ·have:=hr.un;show (A.deeper _).units+42 < cLine;omega
  ·exact fun f' JH hc x' GI=>ih _ (Rm.of hr hk) f' JH (hc.elim (fun z=>.inl (JQ z)) .inr) x' GI
  ·exact fun _ pins σ H1 s1 c C h' e vs I hex hn hx=>sy lt (hex C hn) I hx
  ·exact fun _=>⟨rfl,rfl,lt,fun a f' JH ME x' GI=>ih ((A.deeper (envOfC x (cE st) s.heap.objs.size fa HA)).mark (Δ (.ref a))) ⟨(Rm.of hr hk).dp,(Rm.of hr hk).un⟩ f' JH (.inr ME) x' GI,fun _ _ _ _ _ _ z=>z,fun c C H' hC C'' VF=>by rw[hC] at VF;cases VF;rfl⟩
  ·exact⟨_,wH (ex:=JB K E H) lt fun c C hc hn=>hc C hn,fun c H' hc C hn=>⟨c,C,hc,hn,rfl⟩⟩
  ·exact fun outer H s E e s' x fr h=>kN x fr h
  ·exact fun H outer s e s'=>kO
 ·rw[HE] at q;obtain⟨gd,q⟩:=E5.Fw q;have KJ:(Fx ds).length=fn.np:=p_ gd;have HQ:fn.G.N.length - vs.length=fn.G.N.length - fn.np:=by rw[m.length,<- eB ds,KJ]
  refine⟨F,(Fx ds).map Δ++Τ (fn.G.N.length - fn.np) Φ,[],⟨FQ,?_,List.nodup_nil,.refl _,fun a ha=>absurd ha (by simp),fun a h=>h,fun a h=>.inl h,fun a xs h=>h.elim,fun a xs h=>h.elim,fun _ _ _ z=>by cases z⟩,(E5.E3 q).mono fun r hr=>?_⟩
  ·show FU K F H (start fn.G.N vs) _ [];unfold start;rw[HQ];exact jS _ m
  ·cases r with
   | nx τ'=>exact fun FI H' F' f' m'=>hr.ok .Fy H' F' [] ⟨m'.FQ,m'.same,.Fy,List.nodup_nil,fun a ha=>absurd ha (by simp),m'.HP,m'.out⟩
   | rt d=>exact fun v H' F' fv o=>hr.ok v H' F' fv o
   | bk τ'=>exact hr.no.elim
   | ct τ'=>exact hr.no.elim
   | ri d ks es=>exact hr.no.elim
theorem mB {F:Ω->Prop}{H:Hp}{a:Ω}{d:D}(hd:FE K F H (.ref a) d [a]):∀ {vs:List V}{ds:List D} (n:Nat),E4 K F H vs ds->FU K F H ((vs++[V.ref a]).map Δ++Τ n Φ) ((Fx ds++[d]).map Δ++Τ n Φ) [a]
 | [],[],n,.nil=>by have h0:FU K F H (Τ n Φ) (Τ n Φ) []:=mj (by simp);exact .some (f:=[a]) (g:=[]) hd h0
 | v::vs,d::ds,n,.cons h1 h2=>.some (f:=[]) h1.frozen (mB hd n h2)
theorem jT (o:Bool)(ks:List Key)(es:List D):∀ ds:List D,wb (ds++[.FX o ks es])=ds++[.FX Θ ks es]
 | []=>rfl
 | [d]=>rfl
 | d::d'::ds=>by show d::wb (d'::ds++[.FX o ks es])=_;rw[jT o ks es (d'::ds)];rfl
theorem YU {CX:G1}{cl:Nat->List D->Res D}{xp:XK->Hp->Str->Prop}{X:Cx}{ex:Str->Prop}{G:Gm}(g:F7 Z CX cl xp X ex G)(B:Bs G.io){as:List IS}{ss:List Stmt}(h:d5 Z G as ss=Θ):IA X ss (SM X.K B ex (cI cl as)):=
 fK (qt as X ex G ss g h) fun Dn σ H ⟨F,τ,f,m,q⟩=>⟨B,F,τ,f,m,q⟩
theorem sE (t:HX K mg Z T){n k:Nat}{f:Nat}{fn:Fn}{x:Str}{st:Stmt}{fa:Ω}{fd:Ο}{ps:List Str}(hk:k % 1000=n)(hn:n < 900)(h1:T f=Δ fn)(h2:Lw K x x st fa fd)(h5:LR Z fn ps st)(hp:k < 1000)
  (ih:∀ (A:Ι),Rm n A->∀ f∈Z.fns,(A.handled=Φ∨f∈Z.pl)->∀ x,Z.name f=Δ x->Ms P w K mg base (GW P w) A (aB T n) (JB K) f x)
  (Ke:∀ (A:Ι),Rm n A->∀ f∈Z.JO,A.handled=Φ->∀ x,Z.name f=Δ x->PV P w K mg base (GW P w) A (aB T n) f x) :
  He P w K mg base (GW P w) (k+1) fa fd ps (RW K (aB T (n+1)) f ps):=by
 have YV:=h5.YR;have SN:=h5.pos;have YW:=h5.YT;have HE:∀ ds,aB T (n+1) f ds=gr (aB T n) fn ds:=fun ds=>by show (match T f with|some fn=>(match fn.io with|false=>fS (aB T n) fn ds|true=>gr (aB T n) fn ds)|none=>FC)=_;rw[h1];show (match fn.io with|false=>fS (aB T n) fn ds|true=>gr (aB T n) fn ds)=_;rw[h5.io]
 obtain⟨oc,od,kV,doc,pm,an,HA,ct,KW,rfl,lk,J8⟩:=h2.ex;refine xF lk J8 h5.sc (by omega) (fun vs H Q E h=>h.1) fun A outer s H vs Q E hr IQ=>?_;obtain⟨hl,a,F,ws,ds,FL,es,rfl,AI,d,HF,es',hc,hlf,q⟩:=IQ;have JQ:A.handled=Φ:=hr.hd hp;refine⟨_,YU (Z:=Z) (CX:=GW P w) (cl:=aB T n) (xp:=JB K) (ex:=G8) (G:=fn.G) ?_ ⟨F,rm a H,fun _ _=>False,fun _ _=>False,Δ a⟩ h5.body,?_⟩
 ·refine⟨rfl,h5.sc.nd,fun z=>by show A.handled.isNone=Θ;rw[JQ];rfl,h5.sc.kind,?_,fun _=>PassesOwn.leaving,fun i y hy=>h5.kd i y hy,fun i y hy=>h5.KH y (aag hy),fun m hm y hy=>h5.gl m hm y hy,t.LK,fun _ _=>rfl,t.blt,t.cst,fun f' JH hc x' GI=>ih _ (Rm.of hr hk) f' JH (.inl JQ) x' GI,fun f' JH z x' GI=>Ke _ (Rm.of hr hk) f' JH JQ x' GI,t.M9,t.M',t.Na,t.Nb,fun _ pins σ H1 s1 c C h' e vs I hex hn hx=>hex.elim,(fun z=>by rw[YW] at z;cases z),⟨fun _ _ _=>False,fun pins σ H s e s' _ h=>(kO h).elim,fun c H z=>z.elim⟩,fun outer H s E e s' x fr h=>kN x fr h,fun H outer s e s'=>kO⟩;have:=hr.un;show (A.deeper _).units+42 < cLine;omega
 ·rw[HE] at hc;unfold gr at hc;obtain⟨gd,hc⟩:=nE hc;have KJ:(Fx ds++[D.FX Ξ (FL.map (·.1)) es]).length=fn.np:=p_ gd;rw[jT] at hc;obtain⟨r,YX,hc⟩:=eF hc;have VG:ws.length=fn.np - 1:=by rw[w_,eB] at KJ;rw[AI.ws.length,<- KJ];simp
  have HQ:fn.G.N.length - (ws++[V.ref a]).length=fn.G.N.length - fn.np:=by rw[w_,VG];show fn.G.N.length - (fn.np - 1+1)=_;rw[Nat.sub_add_cancel SN]
  have m0:FE K F H (.ref a) (.FX Θ (FL.map (·.1)) es) [a]:=.Mm AI.nF AI.at_ rfl (E4.free AI.lf AI.vs);refine⟨F,(Fx ds++[D.FX Θ (FL.map (·.1)) es]).map Δ++Τ (fn.G.N.length - fn.np) Φ,[a],⟨AI.FQ,?_,by simp,CJ,fun b hb=>by rw[t_.mp hb];exact oV,fun b h=>h,fun b h=>.inl h,fun b xs h=>h.elim,fun b xs h=>h.elim,fun j b e1 e2=>?_⟩,?_⟩
  ·show FU K F H (start fn.G.N (ws++[.ref a])) _ [a];unfold start;rw[HQ];exact mB m0 _ AI.ws
  ·rw[YV] at e1;cases e1;cases e2;show (start fn.G.N (ws++[.ref a]))[fn.np - 1]? = _;unfold start;rw[<- VG,T_,C_,aaE (by simp)];simp
  ·rw[YX];cases r with
   | ri d1 ks1 Hh=>cases hc;intro v P2 P0 fv SQ l hN ot hF YY hH YZ Y0;have e:=hN a rfl;subst e;exact q v P2 P0 fv SQ ⟨ot,hF,YY,hH,YZ,Y0⟩
   | nx _=>cases hc
   | bk _=>cases hc
   | ct _=>cases hc
   | rt _=>cases hc
theorem i7 (t:HX K mg Z T):∀ (n:Nat),n < 900->(∀ (A:Ι),Rm n A->∀ f∈Z.fns,(A.handled=Φ∨f∈Z.pl)->∀ x,Z.name f=Δ x->Ms P w K mg base (GW P w) A (aB T n) (JB K) f x)/\
  ∀ (A:Ι),Rm n A->∀ f∈Z.JO,A.handled=Φ->∀ x,Z.name f=Δ x->PV P w K mg base (GW P w) A (aB T n) f x
 | 0,h9=>by
  refine⟨fun A hr f hf hc x hx=>?_,fun A hr f hf hc x hx=>?_⟩
  ·obtain⟨fn,st,fa,fd,ps,h1,h2,h3,h4,h5⟩:=(t.fns f hf x hx).ex;have no:∀ vs H Q E,¬ Mr K (aB T 0) (JB K) f ps vs H Q E:=fun vs H Q E ⟨_,_,F,ds,_,_,h⟩=>h;exact⟨1000+0,fa,fd,ps,h3,h2.kp,h4,⟨fun vs H Q E h=>h.1,fun A outer s H args us vs Q E _ _ _ _ h=>(no _ _ _ _ h).elim⟩,hr.LS h9,fun ex ds k h=>h.elim⟩
  ·obtain⟨fn,st,fa,fd,ps,h1,h2,h3,h4,h5⟩:=(t.JO f hf x hx).ex;have no:∀ vs H Q E,¬ RW K (aB T 0) f ps vs H Q E:=fun vs H Q E ⟨_,a,F,ws,ds,FL,es,_,_,d,HF,es',h,_⟩=>by cases h
   exact⟨0,fa,fd,ps,h3,h2.kp,h4,⟨fun vs H Q E h=>h.1,fun A outer s H args us vs Q E _ _ _ _ h=>(no _ _ _ _ h).elim⟩,hr.room h9 hc,fun ds r h=>by cases h⟩
 | n+1,h9=>by
  obtain⟨ih,Ke⟩:=i7 t n (by omega);refine⟨fun A hr f hf hc x hx=>?_,fun A hr f hf hc x hx=>?_⟩
  ·obtain⟨fn,st,fa,fd,ps,h1,h2,h3,h4,h5⟩:=(t.fns f hf x hx).ex;have hlen:∀ (ex:Str->Prop) ds (k:D->Prop),E5 ex (aB T (n+1) f ds) k->ds.length=ps.length:=fun ex ds k h=>by
    have HE:aB T (n+1) f ds=fS (aB T n) fn ds:=by show (match T f with|some fn=>(match fn.io with|false=>fS (aB T n) fn ds|true=>gr (aB T n) fn ds)|none=>FC)=_;rw[h1];show (match fn.io with|false=>fS (aB T n) fn ds|true=>gr (aB T n) fn ds)=_;rw[h5.pl]
    rw[HE] at h;obtain⟨gd,_⟩:=E5.Fw h;rw[p_ gd,h5.np]
   by_cases KU:f∈Z.pl
   ·exact⟨1000+n+1,fa,fd,ps,h3,h2.kp,h4,kP t (k:=1000+n) (n:=n) (by omega) (by omega) h1 h2 h5 (.inr (t.HG f KU fn h1)) ih Ke,hr.LS h9,hlen⟩
   ·exact⟨n+1,fa,fd,ps,h3,h2.kp,h4,kP t (k:=n) (n:=n) (by omega) (by omega) h1 h2 h5 (.inl (by omega)) ih Ke,hr.room h9 (hc.elim id fun z=>absurd z KU),hlen⟩
  ·obtain⟨fn,st,fa,fd,ps,h1,h2,h3,h4,h5⟩:=(t.JO f hf x hx).ex;refine⟨n+1,fa,fd,ps,h3,h2.kp,h4,sE t (k:=n) (n:=n) (by omega) (by omega) h1 h2 h5 (by omega) ih Ke,hr.room h9 hc,fun ds r h=>?_⟩;have HE:aB T (n+1) f ds=gr (aB T n) fn ds:=by show (match T f with|some fn=>(match fn.io with|false=>fS (aB T n) fn ds|true=>gr (aB T n) fn ds)|none=>FC)=_;rw[h1];show (match fn.io with|false=>fS (aB T n) fn ds|true=>gr (aB T n) fn ds)=_;rw[h5.io]
   rw[HE] at h;obtain⟨gd,_⟩:=nE h;rw[p_ gd,h5.np]
theorem wI (t:HX K mg Z T)(n:Nat)(hn:n < 900):∀ (A:Ι),Rm n A->∀ f∈Z.fns,(A.handled=Φ∨f∈Z.pl)->∀ x,Z.name f=Δ x->Ms P w K mg base (GW P w) A (aB T n) (JB K) f x:=(i7 t n hn).1
end
section
variable {P:Ε}{w:Β}{K:Frag}{mg:Str->Option Ψ}{base:Heap}{Z:Sg}{T:Tb}
def Nk (K:Frag)(cl:Nat->List D->Res D)(f:Nat)(ps:List Str):Sp:=fun vs H Q E=>vs.length=ps.length/\∃ F ds,HV F H/\E4 K F H vs ds/\
 E5 G8 (cl f (Fx ds)) fun d=>∀ v H' F' fv,Out K F H F' H' v d fv->Q v H'
theorem sF {cl:Nat->List D->Res D}{k f:Nat}{fa:Ω}{fd:Ο}{ps:List Str}(F:He P w K mg base (GW P w) k fa fd ps (Mr K cl (JB K) f ps)):He P w K mg base (GW P w) k fa fd ps (Nk K cl f ps):=by
 refine⟨fun vs H Q E h=>h.1,fun A outer s H args us vs Q E hr e0 bd r IQ=>?_⟩;obtain⟨hl,Fc,ds,FQ,m,q⟩:=IQ;have e1:JJ P w K mg base A outer s (cT s.heap H):=⟨e0.frames,e0.mod,fun b o e=>⟨(e0.bs b o e).1,dR (e0.bs b o e).2⟩,e0.KP,e0.G5,fun b hb=>dR (e0.J7 b hb),rP e0.FN,e0.bare⟩
 have hq:E5 (JB K E (cT s.heap H)) (cl f (Fx ds)) fun d=>∀ v H' F' fv,Out K Fc H F' H' v d fv->Q v H':=by
  cases z:cl f (Fx ds) with
  | ok d=>rw[z] at q;exact q
  | error er=>
   rw[z] at q;cases er with
   | stuck=>exact q.no.elim
   | exc c=>exact False.elim q
 have hs:Mr K cl (JB K) f ps vs (cT s.heap H) (fun v H'=>Ji s.heap (cT s.heap H) H'->Q v (gB H H')) E:=
  ⟨hl,rO _ _,_,ds,fun a h=>h.2,oK e0.FN m,hq.mono fun d hd v H' F' fv o p=>hd v _ _ fv (oM e0.FN FQ p o)⟩
 refine codeAny_mono (F.run A outer s (cT s.heap H) args us vs _ E hr e1 bd r hs) fun r' s' hq=>?_;cases r' with
 | error e=>exact kN e0.FN e0.J7 hq
 | ok fl=>
  cases fl with
  | ret u=>obtain⟨v,H',a1,a2,a3,a4,a5,a6⟩:=hq;exact⟨v,gB H H',a1,a2,nJ e0.FN a3,nH e0.FN a4 (gC a3) (fs:=GJ outer) (fun b o _ e n f=>a3.keep b o e n f (by simp)) e0.J7,a5,a6 (gC a3)⟩
  | next=>exact hq
  | brk=>exact hq
  | cont=>exact hq
theorem AX (t:HX K mg Z T)(n:Nat)(hn:n < 900){f:Nat}{fn:Fn}{x:Str}{st:Stmt}{fa:Ω}{fd:Ο}{ps:List Str}(h1:T f=Δ fn)(h2:Lw K x x st fa fd)(h5:JG Z fn ps st):He P w K mg base (GW P w) (n+1) fa fd ps (Nk K (aB T (n+1)) f ps):=
 sF (kP t (k:=n) (n:=n) (by omega) hn h1 h2 h5 (.inl (by omega)) (wI t n hn) (i7 t n hn).2)
theorem AY {f n:Nat}{x:Str}{a:Ω}{H:Hp}{ns:List Int}(hS:Ls K H a (ns.map V.int))(hl:aB T n f [.lst Ξ (ns.map .int)]=.ok (.bl Θ)) :
  Nk K (aB T n) f [x] [.ref a] H (fun v _=>v=.bl Θ) fun _ _ _=>False:=by
 have m:E4 K (fun a=>H a≠Φ) H [.ref a] [.lst Ξ (ns.map .int)]:=by
  refine .cons ?_ .nil;rcases hS with hS|hS
  ·exact .lst hS.some hS (E4.ofInts ns)
  ·exact .lstK hS (E4.ofInts ns)
 refine⟨rfl,fun a=>H a≠Φ,[.lst Ξ (ns.map .int)],fun a h=>h,m,?_⟩;have he:Fx [.lst Ξ (ns.map .int)]=[D.lst Ξ (ns.map .int)]:=by rw[Fx,Fx,er,cJ,E_];rfl
 rw[he,hl];intro v H' F' fv o;cases o.rep;rfl
theorem sG {l:PySem.W.OpenLaw}{q:Ε}{loose:List Str}{XP:(Str->Option Ψ)->Heap->Prop}{YP:Β->Heap->Prop}{d:DefRec}{K:Params->Frag}{T:Tb}{n f:Nat}{x:Str}(hn:l.most=Δ 63)(NP:d.params.defaults=[])(hr:GK (n+1) callerA)
  (hY:∀ (w:Β) (h:Heap),YP w h->(K w.params).In h)
  (F:∀ (w:Β) (mg:Str->Option Ψ) (fa:Ω) (h:Heap),(K w.params).In h->h.Ns Η mg->mg d.name=Δ (.ref fa)->
   ∃ fd:Ο,(∀ (s:Α) (u:Ψ),BindsTo s fd ⟨[u],[]⟩ [(x,u)])/\∀ base:Heap,(K w.params).In base->base.Ns Η mg->He l.prog w (K w.params) mg base (GW l.prog w) (n+1) fa fd [x] (Nk (K w.params) (aB T (n+1)) f [x]))
  (hl:∀ ns:List Int,ns.length<=63->aB T (n+1) f [.lst Ξ (ns.map .int)]=.ok (.bl Θ)) :
  PySem.W.WalkO q loose XP YP l.row.toRowW d [] (fun f vs=>PySem.call f vs):=
 L2.vK (n:=63) (k:=n+1) (x:=x) (CX:=fun w=>GW l.prog w) (sp:=fun w=>Nk (K w.params) (aB T (n+1)) f [x]) hn (by decide) NP hr hY F (fun w H a ns h1 _ hS=>AY hS (hl ns h1)) fun _ _ _ _ _ z=>kO z
end
namespace Ev
section
variable {α β:Type}{cl:Nat->List D->Res D}{τ:Ev}{mv:Bool}
theorem oZ {a:α}{f:α->Res β}:E3 (.ok a) f=f a:=rfl
theorem xR {x:Res α}:Fw Θ x=x:=rfl
theorem VH {d:D}:E8 cl (.c d) τ=.ok d:=rfl
theorem VJ {n:Nat}{d:D}:E8 cl (.g n d) τ=.ok d:=rfl
theorem VL {i:Nat}:E8 cl (.v i) τ=(match cu τ i with|some d=>.ok d|none=>FC):=rfl
noncomputable def CK (cl:Nat->List D->Res D)(op:Kg)(b:IR)(τ:Ev)(x:D):Res D:=E3 (E8 cl b τ) (Hm op x)
theorem aC {op:Kg}{b:IR}{x:D}:CK cl op b τ x=E3 (E8 cl b τ) (Hm op x):=rfl
theorem xS {op:Kg}{a b:IR}:E8 cl (.bin op a b) τ=E3 (E8 cl a τ) (CK cl op b τ):=rfl
noncomputable def CL:D->Res D
 | .int i=>.ok (.int (-i))
 | _=>FC
theorem xT {a:IR}:E8 cl (.neg a) τ=E3 (E8 cl a τ) CL:=rfl
theorem sH {i:Int}:CL (.int i)=.ok (.int (-i)):=rfl
noncomputable def SR (r:Bool):Res D:=.ok (.bl r)
theorem bu {r:Bool}:SR r=.ok (.bl r):=rfl
noncomputable def mC (op:HM)(x y:D):Res D:=E3 (GQ op x y) SR
theorem ag {op:HM}{x y:D}:mC op x y=E3 (GQ op x y) SR:=rfl
noncomputable def CM (cl:Nat->List D->Res D)(op:HM)(b:IR)(τ:Ev)(x:D):Res D:=E3 (E8 cl b τ) (mC op x)
theorem aD {op:HM}{b:IR}{x:D}:CM cl op b τ x=E3 (E8 cl b τ) (mC op x):=rfl
theorem xU {op:HM}{a b:IR}:E8 cl (.cmp op a b) τ=E3 (E8 cl a τ) (CM cl op b τ):=rfl
noncomputable def AZ (cl:Nat->List D->Res D)(Gk:HM)(c:IR)(τ:Ev)(y:D)(r:Bool):Res D:=if r=Θ then E3 (E8 cl c τ) (mC Gk y) else .ok (.bl Ξ)
theorem aE {Gk:HM}{c:IR}{y:D}{r:Bool}:AZ cl Gk c τ y r=if r=Θ then E3 (E8 cl c τ) (mC Gk y) else .ok (.bl Ξ):=rfl
noncomputable def A0 (cl:Nat->List D->Res D)(op Gk:HM)(c:IR)(τ:Ev)(x y:D):Res D:=E3 (GQ op x y) (AZ cl Gk c τ y)
theorem aF {op Gk:HM}{c:IR}{x y:D}:A0 cl op Gk c τ x y=E3 (GQ op x y) (AZ cl Gk c τ y):=rfl
noncomputable def VM (cl:Nat->List D->Res D)(op Gk:HM)(b c:IR)(τ:Ev)(x:D):Res D:=E3 (E8 cl b τ) (A0 cl op Gk c τ x)
theorem bw {op Gk:HM}{b c:IR}{x:D}:VM cl op Gk b c τ x=E3 (E8 cl b τ) (A0 cl op Gk c τ x):=rfl
theorem o4 {op Gk:HM}{a b c:IR}:E8 cl (.chain op Gk a b c) τ=E3 (E8 cl a τ) (VM cl op Gk b c τ):=rfl
noncomputable def sI (cl:Nat->List D->Res D)(b:IR)(τ:Ev)(x:D)(r:Bool):Res D:=if r=Θ then E8 cl b τ else .ok x
theorem ah {b:IR}{x:D}{r:Bool}:sI cl b τ x r=if r=Θ then E8 cl b τ else .ok x:=rfl
noncomputable def CN (cl:Nat->List D->Res D)(b:IR)(τ:Ev)(x:D):Res D:=E3 (cK x) (sI cl b τ x)
theorem aG {b:IR}{x:D}:CN cl b τ x=E3 (cK x) (sI cl b τ x):=rfl
theorem xV {a b:IR}:E8 cl (.Gd a b) τ=E3 (E8 cl a τ) (CN cl b τ):=rfl
noncomputable def A1 (cl:Nat->List D->Res D)(b:IR)(τ:Ev)(x:D)(r:Bool):Res D:=if r=Θ then .ok x else E8 cl b τ
theorem aH {b:IR}{x:D}{r:Bool}:A1 cl b τ x r=if r=Θ then .ok x else E8 cl b τ:=rfl
noncomputable def VN (cl:Nat->List D->Res D)(b:IR)(τ:Ev)(x:D):Res D:=E3 (cK x) (A1 cl b τ x)
theorem bx {b:IR}{x:D}:VN cl b τ x=E3 (cK x) (A1 cl b τ x):=rfl
theorem CO {a b:IR}:E8 cl (.II a b) τ=E3 (E8 cl a τ) (VN cl b τ):=rfl
noncomputable def sJ (r:Bool):Res D:=.ok (.bl !r)
theorem aj {r:Bool}:sJ r=.ok (.bl !r):=rfl
noncomputable def CP (x:D):Res D:=E3 (cK x) sJ
theorem aI {x:D}:CP x=E3 (cK x) sJ:=rfl
theorem xW {a:IR}:E8 cl (.GA a) τ=E3 (E8 cl a τ) CP:=rfl
noncomputable def sL (cl:Nat->List D->Res D)(a b:IR)(τ:Ev)(r:Bool):Res D:=if r=Θ then E8 cl a τ else E8 cl b τ
theorem ak {a b:IR}{r:Bool}:sL cl a b τ r=if r=Θ then E8 cl a τ else E8 cl b τ:=rfl
noncomputable def CQ (cl:Nat->List D->Res D)(a b:IR)(τ:Ev)(x:D):Res D:=E3 (cK x) (sL cl a b τ)
theorem aJ {a b:IR}{x:D}:CQ cl a b τ x=E3 (cK x) (sL cl a b τ):=rfl
theorem xX {t a b:IR}:E8 cl (.ite t a b) τ=E3 (E8 cl t τ) (CQ cl a b τ):=rfl
noncomputable def tupK (ds:List D):Res D:=Fw (dh ds.length) (.ok (.tup ds))
theorem aK {ds:List D}:tupK ds=Fw (dh ds.length) (.ok (.tup ds)):=rfl
theorem xY {es:List IR}:E8 cl (.tup es) τ=E3 (dq cl es τ) tupK:=rfl
noncomputable def lstK (ds:List D):Res D:=Fw (dh ds.length) (.ok (.lst Θ ds))
theorem aL {ds:List D}:lstK ds=Fw (dh ds.length) (.ok (.lst Θ ds)):=rfl
theorem xZ {es:List IR}:E8 cl (.lst es) τ=E3 (dq cl es τ) lstK:=rfl
noncomputable def CU (cl:Nat->List D->Res D)(i:IR)(τ:Ev)(x:D):Res D:=E3 (E8 cl i τ) (cH x)
theorem aM {i:IR}{x:D}:CU cl i τ x=E3 (E8 cl i τ) (cH x):=rfl
theorem x9 {a i:IR}:E8 cl (.idx a i) τ=E3 (E8 cl a τ) (CU cl i τ):=rfl
noncomputable def A4 (cl:Nat->List D->Res D)(hi:Option IR)(τ:Ev)(x:D)(l:Option Int):Res D:=E3 (kE cl hi τ) (lQ x l)
theorem aN {hi:Option IR}{x:D}{l:Option Int}:A4 cl hi τ x l=E3 (kE cl hi τ) (lQ x l):=rfl
noncomputable def VO (cl:Nat->List D->Res D)(lo hi:Option IR)(τ:Ev)(x:D):Res D:=E3 (kE cl lo τ) (A4 cl hi τ x)
theorem bA {lo hi:Option IR}{x:D}:VO cl lo hi τ x=E3 (kE cl lo τ) (A4 cl hi τ x):=rfl
theorem CW {a:IR}{lo hi:Option IR}:E8 cl (.sl a lo hi) τ=E3 (E8 cl a τ) (VO cl lo hi τ):=rfl
noncomputable def ya (cl:Nat->List D->Res D)(f:Nat)(ds:List D):Res D:=cl f (Fx ds)
theorem ao {f:Nat}{ds:List D}:ya cl f ds=cl f (Fx ds):=rfl
theorem sM {f:Nat}{es:List IR}:E8 cl (.call f es) τ=E3 (dq cl es τ) (ya cl f):=rfl
theorem CY {f:Bi}{es:List IR}:E8 cl (.bi f es) τ=E3 (dq cl es τ) (eD f):=rfl
noncomputable def CZ (k:Kd)(x:D):Res D:=Fw (gV x) (.ok (.bl (du k x)))
theorem aO {k:Kd}{x:D}:CZ k x=Fw (gV x) (.ok (.bl (du k x))):=rfl
theorem C0:gV .Fy=Θ:=rfl
theorem C1 {b:Bool}:gV (.bl b)=Θ:=rfl
theorem C2 {i:Int}:gV (.int i)=Θ:=rfl
theorem C3 {x:Str}:gV (.str x)=Θ:=rfl
theorem C4 {ds:List D}:gV (.tup ds)=Θ:=rfl
theorem C5 {o:Bool}{ds:List D}:gV (.lst o ds)=Θ:=rfl
theorem sN {a b:IR}:E8 cl (.Hq a b) τ=E3 (E8 cl a τ) fun x=>E3 (E8 cl b τ) fun y=>oA x y:=rfl
theorem sO {a:IR}:E8 cl (.Ho a) τ=E3 (E8 cl a τ) vZ:=rfl
theorem C6 {o:Bool}{ds:List D}:vZ (.lst o ds)=.ok (.lst Θ ds.reverse):=rfl
theorem sP {a:IR}:E8 cl (.sset a) τ=E3 (E8 cl a τ) oB:=rfl
theorem yb {a:IR}{k:Kd}:E8 cl (.Hl a k) τ=E3 (E8 cl a τ) (CZ k):=rfl
noncomputable def C7 (cl:Nat->List D->Res D)(m:Mt)(es:List IR)(τ:Ev)(x:D):Res D:=Fw (f6 x) (E3 (dq cl es τ) (iL m x))
theorem aP {m:Mt}{es:List IR}{x:D}:C7 cl m es τ x=Fw (f6 x) (E3 (dq cl es τ) (iL m x)):=rfl
theorem yd {m:Mt}{o:IR}{es:List IR}:E8 cl (.Jx m o es) τ=E3 (E8 cl o τ) (C7 cl m es τ):=rfl
noncomputable def A5 (ds:List D):Res D:=.ok (.lst Θ ds)
theorem aQ {ds:List D}:A5 ds=.ok (.lst Θ ds):=rfl
noncomputable def yf (cl:Nat->List D->Res D)(G:Gm)(fr:List Nat)(T:Tg)(I:List IR)(E:IR)(τ:Ev)(its:List D):Res D:=Fw (dP its.length) (E3 (K' (cC (cL cl T I E (Jl G fr τ)) its)) A5)
theorem aq {G:Gm}{fr:List Nat}{T:Tg}{I:List IR}{E:IR}{its:List D}:yf cl G fr T I E τ its=Fw (dP its.length) (E3 (K' (cC (cL cl T I E (Jl G fr τ)) its)) A5):=rfl
theorem sQ {G:Gm}{fr:List Nat}{T:Tg}{s:Sr}{I:List IR}{E:IR}:E8 cl (.comp G fr T s I E) τ=E3 (eL cl s τ) (yf cl G fr T I E τ):=rfl
theorem C8:dq cl [] τ=.ok []:=rfl
noncomputable def sR (d:D)(ds:List D):Res (List D):=.ok (d::ds)
theorem au {d:D}{ds:List D}:sR d ds=.ok (d::ds):=rfl
noncomputable def VP (cl:Nat->List D->Res D)(es:List IR)(τ:Ev)(d:D):Res (List D):=E3 (dq cl es τ) (sR d)
theorem bB {es:List IR}{d:D}:VP cl es τ d=E3 (dq cl es τ) (sR d):=rfl
theorem C9 {e:IR}{es:List IR}:dq cl (e::es) τ=E3 (E8 cl e τ) (VP cl es τ):=rfl
noncomputable def Dc:D->Res (Option Int)
 | .int i=>.ok (Δ i)
 | _=>FC
theorem sS {i:Int}:Dc (.int i)=.ok (Δ i):=rfl
theorem Dd:kE cl Φ τ=.ok Φ:=rfl
theorem De {e:IR}:kE cl (Δ e) τ=E3 (E8 cl e τ) Dc:=rfl
theorem Df:fF cl [] τ=.ok Θ:=rfl
noncomputable def VQ (cl:Nat->List D->Res D)(es:List IR)(τ:Ev)(r:Bool):Res Bool:=if r=Θ then fF cl es τ else .ok Ξ
theorem bC {es:List IR}{r:Bool}:VQ cl es τ r=if r=Θ then fF cl es τ else .ok Ξ:=rfl
theorem Dg {e:IR}{es:List IR}:fF cl (e::es) τ=E3 (E3 (E8 cl e τ) cK) (VQ cl es τ):=rfl
noncomputable def yg:D->Res (List D)
 | .int i=>Fw (hW i) (.ok (cO 0 i))
 | _=>FC
theorem o5 {i:Int}:yg (.int i)=Fw (hW i) (.ok (cO 0 i)):=rfl
theorem Dh {n:IR}:eL cl (.FV n) τ=E3 (E8 cl n τ) yg:=rfl
noncomputable def Di (cl:Nat->List D->Res D)(τ:Ev)(b:IR)(x:D):Res (List D):=E3 (E8 cl b τ) fun y=>iN x y
noncomputable def sT (x y:D):Res (List D):=iN x y
theorem aR {b:IR}{x:D}:Di cl τ b x=E3 (E8 cl b τ) (sT x):=rfl
theorem mE {o o':Bool}{ds es:List D}:sT (.lst o ds) (.lst o' es)=.ok (eE ds es):=rfl
theorem mG {ds es:List D}:sT (.tup ds) (.tup es)=.ok (eE ds es):=rfl
theorem sU {o:Bool}{ds:List D}:vY (.lst o ds)=.ok (iM ds):=rfl
theorem yh {a:IR}:eL cl (.HN a) τ=E3 (E8 cl a τ) vY:=rfl
theorem yi {a b:IR}:eL cl (.zip a b) τ=E3 (E8 cl a τ) (Di cl τ b):=rfl
theorem yj {e:IR}:eL cl (.val e) τ=E3 (E8 cl e τ) fH:=rfl
theorem Dj {o:Bool}{ds:List D}:fH (.lst o ds)=.ok ds:=rfl
theorem Dk {ds:List D}:fH (.tup ds)=.ok ds:=rfl
theorem Dl {x:Str}:fH (.str x)=Fw (dh x.length) (.ok (dF x)):=rfl
theorem VR {t:IR}:Of cl t τ=E3 (E8 cl t τ) cK:=rfl
theorem P4 {i:Nat}:Gb cl mv (.v i) τ=(match cu τ i with|some d=>if mv=Θ then .ok (d,τ.set i Φ) else .ok (er d,τ.set i (Δ (er d)))|none=>FC):=rfl
noncomputable def yk (p:List D×Ev):Res (D×Ev):=Fw (dh p.1.length) (.ok (.tup p.1,p.2))
theorem av {p:List D×Ev}:yk p=Fw (dh p.1.length) (.ok (.tup p.1,p.2)):=rfl
theorem JC {es:List IR}:Gb cl mv (.tup es) τ=E3 (jy cl mv es τ) yk:=rfl
noncomputable def yl (p:List D×Ev):Res (D×Ev):=Fw (dh p.1.length) (.ok (.lst Θ p.1,p.2))
theorem aw {p:List D×Ev}:yl p=Fw (dh p.1.length) (.ok (.lst Θ p.1,p.2)):=rfl
theorem JD {es:List IR}:Gb cl mv (.lst es) τ=E3 (jy cl mv es τ) yl:=rfl
noncomputable def ym (cl:Nat->List D->Res D)(mv:Bool)(a b:IR)(τ:Ev)(r:Bool):Res (D×Ev):=if r=Θ then Gb cl mv a τ else Gb cl mv b τ
theorem ax {a b:IR}{r:Bool}:ym cl mv a b τ r=if r=Θ then Gb cl mv a τ else Gb cl mv b τ:=rfl
theorem JE {t a b:IR}:Gb cl mv (.ite t a b) τ=E3 (Of cl t τ) (ym cl mv a b τ):=rfl
noncomputable def kQ (es:List IR)(τ:Ev)(d:D):Res (D×Ev):=if cA d=Θ then .ok (d,τ) else .ok (d,FT (cD es) τ)
theorem aa {es:List IR}{d:D}:kQ es τ d=if cA d=Θ then .ok (d,τ) else .ok (d,FT (cD es) τ):=rfl
noncomputable def sV (cl:Nat->List D->Res D)(f:Nat)(es:List IR)(τ:Ev)(ds:List D):Res (D×Ev):=E3 (cl f (Fx ds)) (kQ es τ)
theorem ae {f:Nat}{es:List IR}{ds:List D}:sV cl f es τ ds=E3 (cl f (Fx ds)) (kQ es τ):=rfl
theorem Ij {f:Nat}{es:List IR}:Gb cl mv (.call f es) τ=E3 (dq cl es τ) (sV cl f es τ):=rfl
noncomputable def eK (e:IR)(τ:Ev)(d:D):Res (D×Ev):=.ok (cG e d τ)
theorem ay {e:IR}{d:D}:eK e τ d=.ok (cG e d τ):=rfl
theorem VS {d:D}:Gb cl mv (.c d) τ=E3 (E8 cl (.c d) τ) (eK (.c d) τ):=rfl
theorem yn {op:Kg}{a b:IR}:Gb cl mv (.bin op a b) τ=E3 (E8 cl (.bin op a b) τ) (eK (.bin op a b) τ):=rfl
theorem yo {op:HM}{a b:IR}:Gb cl mv (.cmp op a b) τ=E3 (E8 cl (.cmp op a b) τ) (eK (.cmp op a b) τ):=rfl
theorem yp {a b:IR}:Gb cl mv (.Gd a b) τ=E3 (E8 cl (.Gd a b) τ) (eK (.Gd a b) τ):=rfl
theorem Dm {a b:IR}:Gb cl mv (.II a b) τ=E3 (E8 cl (.II a b) τ) (eK (.II a b) τ):=rfl
theorem yq {a:IR}:Gb cl mv (.GA a) τ=E3 (E8 cl (.GA a) τ) (eK (.GA a) τ):=rfl
theorem yr {a i:IR}:Gb cl mv (.idx a i) τ=E3 (E8 cl (.idx a i) τ) (eK (.idx a i) τ):=rfl
theorem Dq {a:IR}{lo hi:Option IR}:Gb cl mv (.sl a lo hi) τ=E3 (E8 cl (.sl a lo hi) τ) (eK (.sl a lo hi) τ):=rfl
theorem Dr {f:Bi}{es:List IR}:Gb cl mv (.bi f es) τ=E3 (E8 cl (.bi f es) τ) (eK (.bi f es) τ):=rfl
theorem sW {a b:IR}:Gb cl mv (.Hq a b) τ=E3 (E8 cl (.Hq a b) τ) (eK (.Hq a b) τ):=rfl
theorem sX {a:IR}:Gb cl mv (.Ho a) τ=E3 (E8 cl (.Ho a) τ) (eK (.Ho a) τ):=rfl
theorem sY {a:IR}:Gb cl mv (.sset a) τ=E3 (E8 cl (.sset a) τ) (eK (.sset a) τ):=rfl
theorem yu {m:Mt}{o:IR}{es:List IR}:Gb cl mv (.Jx m o es) τ=E3 (E8 cl (.Jx m o es) τ) (eK (.Jx m o es) τ):=rfl
theorem sZ {G:Gm}{fr:List Nat}{T:Tg}{s:Sr}{I:List IR}{E:IR}:Gb cl mv (.comp G fr T s I E) τ=E3 (E8 cl (.comp G fr T s I E) τ) (eK (.comp G fr T s I E) τ):=rfl
theorem Ds:jy cl mv [] τ=.ok ([],τ):=rfl
noncomputable def A6 (d:D)(q:List D×Ev):Res (List D×Ev):=.ok (d::q.1,q.2)
theorem aT {d:D}{q:List D×Ev}:A6 d q=.ok (d::q.1,q.2):=rfl
noncomputable def VT (cl:Nat->List D->Res D)(mv:Bool)(es:List IR)(p:D×Ev):Res (List D×Ev):=E3 (jy cl mv es p.2) (A6 p.1)
theorem bD {es:List IR}{p:D×Ev}:VT cl mv es p=E3 (jy cl mv es p.2) (A6 p.1):=rfl
theorem Dt {e:IR}{es:List IR}:jy cl mv (e::es) τ=E3 (Gb cl mv e τ) (VT cl mv es):=rfl
noncomputable def SS (d:D):Res (Option D):=.ok (Δ d)
theorem bE {d:D}:SS d=.ok (Δ d):=rfl
noncomputable def A7 (cl:Nat->List D->Res D)(E:IR)(τ:Ev)(r:Bool):Res (Option D):=if r=Θ then E3 (E8 cl E τ) SS else .ok Φ
theorem aU {E:IR}{r:Bool}:A7 cl E τ r=if r=Θ then E3 (E8 cl E τ) SS else .ok Φ:=rfl
noncomputable def VU (cl:Nat->List D->Res D)(I:List IR)(E:IR)(τ:Ev):Res (Option D):=E3 (fF cl I τ) (A7 cl E τ)
theorem bF {I:List IR}{E:IR}:VU cl I E τ=E3 (fF cl I τ) (A7 cl E τ):=rfl
theorem o6 {T:Tg}{I:List IR}{E:IR}{x:D}:cL cl T I E τ x=E3 (dH T x τ) (VU cl I E):=rfl
theorem td {G:Gm}{fr:List Nat}:Jl G fr τ=fr.map (cu τ)++Τ (G.N.length - fr.length) Φ:=rfl
theorem VV {e:IR}{i:Int}:cG e (.int i) τ=(.int i,τ):=rfl
theorem VW {e:IR}{x:Str}:cG e (.str x) τ=(.str x,τ):=rfl
theorem VX {e:IR}{b:Bool}:cG e (.bl b) τ=(.bl b,τ):=rfl
theorem VY {e:IR}:cG e .Fy τ=(.Fy,τ):=rfl
noncomputable def SU (τ':Ev):Res Fl:=.ok (.nx τ')
theorem bG:SU τ=.ok (.nx τ):=rfl
noncomputable def Du (tg:Tg)(p:D×Ev):Res Fl:=E3 (dH tg p.1 p.2) SU
theorem aV {tg:Tg}{p:D×Ev}:Du tg p=E3 (dH tg p.1 p.2) SU:=rfl
theorem Ik {tg:Tg}{e:IR}:Gv cl (.asg tg e) τ=E3 (Gb cl Ξ e τ) (Du tg):=rfl
noncomputable def tf (i:Nat)(p:D×Ev)(ds:List D):D->Res Fl
 | .int z=>(match Hb ds.length z with
  | some j=>.ok (.nx (p.2.set i (Δ (.lst Θ (ds.set j p.1)))))
  | none=>FC)
 | _=>FC
noncomputable def A8 (cl:Nat->List D->Res D)(i:Nat)(k:IR)(p:D×Ev):Option D->Res Fl
 | some (.lst Θ ds)=>E3 (E8 cl k p.2) (tf i p ds)
 | _=>FC
theorem tj {i:Nat}{k:IR}{p:D×Ev}{ds:List D}:A8 cl i k p (Δ (.lst Θ ds))=E3 (E8 cl k p.2) (tf i p ds):=rfl
theorem o7 {i:Nat}{p:D×Ev}{ds:List D}{z:Int}:tf i p ds (.int z)=(match Hb ds.length z with|some j=>.ok (.nx (p.2.set i (Δ (.lst Θ (ds.set j p.1)))))|none=>FC):=rfl
noncomputable def tu (cl:Nat->List D->Res D)(i:Nat)(k:IR)(p:D×Ev):Res Fl:=A8 cl i k p (cu p.2 i)
theorem af {i:Nat}{k:IR}{p:D×Ev}:tu cl i k p=A8 cl i k p (cu p.2 i):=rfl
theorem Ha {i:Nat}{k e:IR}:Gv cl (.IJ i k e) τ=E3 (Gb cl Ξ e τ) (tu cl i k):=rfl
noncomputable def A9 (i:Nat)(p:D×Ev):Option D->Res Fl
 | some (.lst Θ ds)=>Fw (dP ds.length) (.ok (.nx (p.2.set i (Δ (.lst Θ (ds++[p.1]))))))
 | _=>FC
noncomputable def Ba (i:Nat)(p:D×Ev):Res Fl:=A9 i p (cu p.2 i)
theorem aW {i:Nat}{p:D×Ev}:Ba i p=A9 i p (cu p.2 i):=rfl
noncomputable def Dv (cl:Nat->List D->Res D)(i:Nat)(e:IR)(τ:Ev):Option D->Res Fl
 | some (.lst _ _)=>E3 (Gb cl Ξ e τ) (Ba i)
 | _=>FC
theorem tv {i:Nat}{e:IR}{o:Bool}{ds:List D}:Dv cl i e τ (Δ (.lst o ds))=E3 (Gb cl Ξ e τ) (Ba i):=rfl
theorem tw {i:Nat}{p:D×Ev}{ds:List D}:A9 i p (Δ (.lst Θ ds))=Fw (dP ds.length) (.ok (.nx (p.2.set i (Δ (.lst Θ (ds++[p.1])))))):=rfl
noncomputable def wJ (i:Nat)(p:D×Ev)(z:Int):Option D->Res Fl
 | some (.lst Θ ds)=>Fw (decide (0<=z/\z.toNat<=ds.length)&&dP ds.length) (.ok (.nx (p.2.set i (Δ (.lst Θ (ds.take z.toNat++p.1::ds.drop z.toNat))))))
 | _=>FC
theorem tx {i:Nat}{p:D×Ev}{z:Int}{ds:List D}:wJ i p z (Δ (.lst Θ ds))=Fw (decide (0<=z/\z.toNat<=ds.length)&&dP ds.length) (.ok (.nx (p.2.set i (Δ (.lst Θ (ds.take z.toNat++p.1::ds.drop z.toNat)))))):=rfl
noncomputable def Bb (i:Nat):D->D×Ev->Res Fl
 | .int z,p=>wJ i p z (cu p.2 i)
 | _,_=>FC
theorem tB {i:Nat}{z:Int}{p:D×Ev}:Bb i (.int z) p=wJ i p z (cu p.2 i):=rfl
noncomputable def Bc (cl:Nat->List D->Res D)(i:Nat)(e:IR)(τ:Ev)(y:D):Res Fl:=E3 (Gb cl Ξ e τ) (Bb i y)
theorem aX {i:Nat}{e:IR}{y:D}:Bc cl i e τ y=E3 (Gb cl Ξ e τ) (Bb i y):=rfl
noncomputable def Dw (cl:Nat->List D->Res D)(i:Nat)(k e:IR)(τ:Ev):Option D->Res Fl
 | some (.lst _ _)=>E3 (E8 cl k τ) (Bc cl i e τ)
 | _=>FC
theorem tD {i:Nat}{k e:IR}{o:Bool}{ds:List D}:Dw cl i k e τ (Δ (.lst o ds))=E3 (E8 cl k τ) (Bc cl i e τ):=rfl
theorem Il {i:Nat}{k e:IR}:Gv cl (.ins i k e) τ=Dw cl i k e τ (cu τ i):=by
 show (match cu τ i with|some (.lst _ _)=>(E3 (E8 cl k τ) fun y=>E3 (Gb cl Ξ e τ) fun p=>(match y,cu p.2 i with|.int z,Δ (.lst Θ ds)=>Fw (decide (0<=z/\z.toNat<=ds.length)&&dP ds.length) (.ok (Fl.nx (p.2.set i (Δ (.lst Θ (ds.take z.toNat++p.1::ds.drop z.toNat))))))|_,_=>FC))|_=>FC)=_;cases cu τ i with
 | none=>rfl
 | some d=>
  induction d using zD with
  | lst o ds=>
   refine congrArg (E3 (E8 cl k τ)) (funext fun y=>congrArg (E3 (Gb cl Ξ e τ)) (funext fun p=>?_))
   induction y using zD with
   | int z=>
    show (match D.int z,cu p.2 i with|.int z,Δ (.lst Θ ds)=>Fw (decide (0<=z/\z.toNat<=ds.length)&&dP ds.length) (.ok (.nx (p.2.set i (Δ (.lst Θ (ds.take z.toNat++p.1::ds.drop z.toNat))))))|_,_=>FC)=wJ i p z (cu p.2 i);cases cu p.2 i with
    | none=>rfl
    | some d2=>induction d2 using zD<;>first|rfl|(rename_i b _;cases b<;>rfl)
   | _=>rfl
  | _=>rfl
theorem aY {j:Nat}{its:List D}:v7 j τ its=Fw (dP its.length) (.ok (.nx (τ.set j (Δ (.lst Θ (Τ (its.length+1) (.lst Θ []))))))):=rfl
theorem Im {j t:Nat}{G:Gm}{fr:List Nat}{s:Sr}:Gv cl (.M5 j G fr t s) τ=E3 (eL cl s τ) (v7 j τ):=rfl
theorem tE {i j:Nat}{e c x v w:IR}:Gv cl (.K9 i j e c x v w) τ=rG cl i j e c x v w τ (cu τ i):=rfl
theorem aZ {i j:Nat}{e c x v w:IR}{ds:List D}:rG cl i j e c x v w τ (Δ (.lst Θ ds))=E3 (E8 cl e τ) (v9 cl i j c x v w ds τ):=rfl
theorem ba {i j:Nat}{c x v w:IR}{ds:List D}{z:Int}:v9 cl i j c x v w ds τ (.int z)=nC cl i j c x v w ds τ (Hb ds.length z):=rfl
theorem Io {i:Nat}{e:IR}:Gv cl (.app i e) τ=Dv cl i e τ (cu τ i):=rfl
noncomputable def Dx (τ:Ev)(d:D):Res Fl:=.ok (.nx τ)
theorem bc {d:D}:Dx τ d=.ok (.nx τ):=rfl
theorem Iq {e:IR}:Gv cl (.exp e) τ=E3 (E8 cl e τ) (Dx τ):=rfl
noncomputable def SV (p:D×Ev):Res Fl:=.ok (.rt p.1)
theorem bH {p:D×Ev}:SV p=.ok (.rt p.1):=rfl
theorem Ip {e:IR}:Gv cl (.ret e) τ=E3 (Gb cl Θ e τ) SV:=rfl
theorem Hx {e:IR}:Gv cl (.Ki e) τ=E3 (Gb cl Ξ e τ) SV:=rfl
noncomputable def VZ (cl:Nat->List D->Res D)(a b:List IS)(τ:Ev)(r:Bool):Res Fl:=if r=Θ then cI cl a τ else cI cl b τ
theorem bJ {a b:List IS}{r:Bool}:VZ cl a b τ r=if r=Θ then cI cl a τ else cI cl b τ:=rfl
theorem JF {t:IR}{a b:List IS}:Gv cl (.FO t a b) τ=E3 (Of cl t τ) (VZ cl a b τ):=rfl
noncomputable def turn (cl:Nat->List D->Res D)(tg:Tg)(body:List IS)(x:D)(τ:Ev):Res Fl:=E3 (dH tg x τ) (cI cl body)
theorem cq {tg:Tg}{body:List IS}{x:D}:turn cl tg body x τ=E3 (dH tg x τ) (cI cl body):=rfl
noncomputable def Dy (cl:Nat->List D->Res D)(tg:Tg)(body:List IS)(p:List D×Ev):Res Fl:=forM (turn cl tg body) p.1 p.2
theorem bf {tg:Tg}{body:List IS}{p:List D×Ev}:Dy cl tg body p=forM (turn cl tg body) p.1 p.2:=rfl
theorem Ir {tg:Tg}{s:Sr}{body:List IS}:Gv cl (.FZ tg s body) τ=E3 (lV cl s τ) (Dy cl tg body):=rfl
noncomputable def Bd (f:Ev->Res Fl):Fl->Res Fl
 | .nx τ'=>f τ'
 | .ct τ'=>.ok (.ct τ')
 | .bk τ'=>.ok (.bk τ')
 | .rt d=>.ok (.rt d)
 | .ri d ks vs=>.ok (.ri d ks vs)
theorem Dz:cI cl [] τ=.ok (.nx τ):=rfl
theorem DA {s:IS}{r:List IS}:cI cl (s::r) τ=E3 (Gv cl s τ) (Bd (cI cl r)):=rfl
theorem yy {f:Ev->Res Fl}:Bd f (.nx τ)=f τ:=rfl
theorem yz {f:Ev->Res Fl}{d:D}:Bd f (.rt d)=.ok (.rt d):=rfl
noncomputable def DB (τ:Ev)(its:List D):Res (List D×Ev):=.ok (its,τ)
theorem bg {its:List D}:DB τ its=.ok (its,τ):=rfl
noncomputable def tH (e:IR)(τ:Ev)(its:List D):Res (List D×Ev):=.ok (Fx its,FT (vars e) τ)
theorem az {e:IR}{its:List D}:tH e τ its=.ok (Fx its,FT (vars e) τ):=rfl
theorem yB {n:IR}:lV cl (.FV n) τ=E3 (eL cl (.FV n) τ) (DB τ):=rfl
theorem yC {e:IR}:lV cl (.HN e) τ=E3 (eL cl (.HN e) τ) (tH e τ):=rfl
theorem yD {e:IR}:lV cl (.val e) τ=E3 (eL cl (.val e) τ) (tH e τ):=rfl
noncomputable def DC (body:D->Ev->Res Fl)(xs:List D):Fl->Res Fl
 | .nx τ'=>forM body xs τ'
 | .ct τ'=>forM body xs τ'
 | .bk τ'=>.ok (.nx τ')
 | .rt d=>.ok (.rt d)
 | .ri d ks vs=>.ok (.ri d ks vs)
theorem dW {body:D->Ev->Res Fl}{x:D}{xs:List D}:forM body (x::xs) τ=E3 (body x τ) (DC body xs):=rfl
theorem yE {body:D->Ev->Res Fl}{xs:List D}:DC body xs (.nx τ)=forM body xs τ:=rfl
theorem DD {i:Nat}{d:D}:dH (.nm i) d τ=.ok (τ.set i (Δ d)):=rfl
theorem DE {ts:List Tg}{ds:List D}:dH (.tp ts) (.tup ds) τ=Fw (decide (ds.length=ts.length)) (gq ts ds τ):=rfl
theorem yF:gq [] [] τ=.ok τ:=rfl
theorem yG {t:Tg}{ts:List Tg}{d:D}{ds:List D}:gq (t::ts) (d::ds) τ=E3 (dH t d τ) (gq ts ds):=rfl
theorem bK {o p:Option D}:(o::τ).set 0 p=p::τ:=rfl
theorem bL {o p:Option D}{i:Nat}:(o::τ).set (i+1) p=o::τ.set i p:=rfl
theorem yI {a b:Int}:Hm .add (.int a) (.int b)=.ok (.int (a+b)):=rfl
theorem nT {a b:Str}:Hm .add (.str a) (.str b)=Fw (dh (a.length+b.length)) (.ok (.str (a++b))):=rfl
theorem tJ {o o':Bool}{a b:List D}:Hm .add (.lst o a) (.lst o' b)=Fw (dh (a.length+b.length)) (.ok (.lst Θ (a++b))):=rfl
theorem yJ {a b:Int}:Hm .sub (.int a) (.int b)=.ok (.int (a - b)):=rfl
theorem yL {a b:Int}:Hm .mul (.int a) (.int b)=Fw (decide (-(2 ^ 64) < a/\a < 2 ^ 64)||decide (-(2 ^ 64) < b/\b < 2 ^ 64)) (.ok (.int (a*b))):=rfl
theorem tL {a:Str}{b:Int}:Hm .mul (.str a) (.int b)=Fw (decide (-16000<=b/\b<=16000/\a.length<=1000)) (.ok (.str (Txt.mul a b))):=rfl
theorem Be {a b:Int}:Hm .fdiv (.int a) (.int b)=Fw (decide (0 < b/\b < 1073741824)) (.ok (.int (a / b))):=rfl
theorem DF {a b:Int}:Hm .mod (.int a) (.int b)=Fw (decide (0 < b)) (.ok (.int (a % b))):=rfl
theorem yM {a b:Int}:Hm .pow (.int a) (.int b)=Fw (decide (0<=b/\b<=1000000/\a.natAbs < 2 ^ 64)) (.ok (.int (a ^ b.toNat))):=rfl
theorem Qc {o:Bool}{ds:List D}{i:Int}:cH (.lst o ds) (.int i)=(match GU ds i with|some d=>.ok d|none=>FC):=rfl
theorem V0 {ds:List D}{i:Int}:cH (.tup ds) (.int i)=(match GU ds i with|some d=>.ok d|none=>FC):=rfl
theorem Y1 {z:Str}{i:Int}:cH (.str z) (.int i)=Fw (dh z.length) (match GU z.cps.toList i with|some c=>.ok (.str ⟨#[c]⟩)|none=>FC):=rfl
theorem DG {o:Bool}{ds:List D}{lo hi:Option Int}:lQ (.lst o ds) lo hi=.ok (.lst Θ (d6 ds lo hi)):=rfl
theorem DH {z:Str}{lo hi:Option Int}:lQ (.str z) lo hi=Fw (dh z.length) (.ok (.str (Txt.slice z lo hi))):=rfl
theorem DI {b:Bool}:cK (.bl b)=.ok b:=rfl
theorem DJ {a b:D}:GQ .eq a b=GB 40 a b:=by cases a<;>cases b<;>rfl
noncomputable def DK (r:Bool):Res Bool:=.ok !r
theorem bh {r:Bool}:DK r=.ok !r:=rfl
theorem DL {a b:D}:GQ .ne a b=E3 (GB 40 a b) DK:=by cases a<;>cases b<;>rfl
theorem DM {n:Nat}{a b:Int}:GB (n+1) (.int a) (.int b)=.ok (a == b):=rfl
theorem DN {n:Nat}{a b:Str}:GB (n+1) (.str a) (.str b)=.ok (a == b):=rfl
theorem DO {n:Nat}{a b:Bool}:GB (n+1) (.bl a) (.bl b)=.ok (a == b):=rfl
theorem DP {n:Nat}{a b:List D}:GB (n+1) (.tup a) (.tup b)=ff (GB n) a b:=rfl
theorem DQ {n:Nat}{o o':Bool}{a b:List D}:GB (n+1) (.lst o a) (.lst o' b)=ff (GB n) a b:=rfl
theorem DR {a b:Int}:GQ .lt (.int a) (.int b)=.ok (decide (a < b)):=rfl
theorem DS {a b:Int}:GQ .le (.int a) (.int b)=.ok (decide (a<=b)):=rfl
theorem DT {a b:Int}:GQ .gt (.int a) (.int b)=.ok (decide (b < a)):=rfl
theorem DU {a b:Int}:GQ .ge (.int a) (.int b)=.ok (decide (b<=a)):=rfl
theorem yN {y x:Str}:GQ .Kh (.str y) (.str x)=.ok (lU x y):=rfl
theorem DV {a:D}:GQ .K7 a .Fy=.ok (eO a):=by cases a<;>rfl
theorem yO {a:D}:GQ .IW a .Fy=.ok (!eO a):=by cases a<;>rfl
theorem V1:eO .Fy=Θ:=rfl
theorem V2 {i:Int}:eO (.int i)=Ξ:=rfl
theorem V3 {i:Str}:eO (.str i)=Ξ:=rfl
theorem V4 {b:Bool}:eO (.bl b)=Ξ:=rfl
theorem V5 {ds:List D}:eO (.tup ds)=Ξ:=rfl
theorem V6 {o:Bool}{ds:List D}:eO (.lst o ds)=Ξ:=rfl
theorem yQ {x:Str}:eD .len [.str x]=Fw (dh x.length) (.ok (.int x.length)):=rfl
theorem yR {ds:List D}:eD .len [.tup ds]=.ok (.int ds.length):=rfl
theorem yS {o:Bool}{ds:List D}:eD .len [.lst o ds]=.ok (.int ds.length):=rfl
theorem tM {a b:Int}:eD .min2 [.int a,.int b]=.ok (.int (if b < a then b else a)):=rfl
theorem tO {a b:Int}:eD .max2 [.int a,.int b]=.ok (.int (if b > a then b else a)):=rfl
theorem tU {x:Str}:eD .ord [.str x]=Fw (decide (x.length=1)) (.ok (.int (x.cps.getD 0 0:Nat))):=rfl
theorem o8 {o:Bool}{ds:List D}:eD .tuple [.lst o ds]=.ok (.tup ds):=rfl
theorem mH {o:Bool}{ds:List D}:eD .list [.lst o ds]=.ok (.lst Θ ds):=rfl
theorem tV (ns:List Str):fq (ns.map .str)=Δ ns:=by
 induction ns with
 | nil=>rfl
 | cons n ns ih=>show (fq (ns.map .str)).map (n::·)=_;rw[ih];rfl
theorem o9 (ns:List Bool):dQ (ns.map .bl)=Δ ns:=by
 induction ns with
 | nil=>rfl
 | cons n ns ih=>show (dQ (ns.map .bl)).map (n::·)=_;rw[ih];rfl
theorem tW {o:Bool}{bs:List Bool}:eD .any [.lst o (bs.map .bl)]=.ok (.bl (bs.any id)):=by
 show (match dQ (bs.map .bl) with|some bs=>.ok (.bl (bs.any id))|none=>FC)=(_:Res D)
 rw[o9]
theorem tX {o:Bool}{bs:List Bool}:eD .all [.lst o (bs.map .bl)]=.ok (.bl (bs.all id)):=by
 show (match dQ (bs.map .bl) with|some bs=>.ok (.bl (bs.all id))|none=>FC)=(_:Res D)
 rw[o9]
theorem wK {x:Str}{o:Bool}{ys:List Str}(h:(ys.map (·.length)).sum+ys.length*x.length<=16777216):iL .join (.str x) [.lst o (ys.map .str)]=.ok (.str (Txt.join x ys)):=by
 show (match fq (ys.map .str) with|some ys=>Fw (decide ((ys.map (fun y:Str=>y.length)).sum+ys.length*x.length<=16777216)) (.ok (.str (Txt.join x ys)))|none=>FC)=(_:Res D)
 rw[tV];show Fw (decide _) _=_;rw[I_ h];rfl
theorem jU {x y:Str}:iL .starts (.str x) [.str y]=.ok (.bl (Txt.startswith x y)):=rfl
theorem yT {x:Str}:f6 (.str x)=Θ:=rfl
theorem tY {x:Str}:du .str (.str x)=Θ:=rfl
theorem tZ {x:Int}:du .int (.int x)=Θ:=rfl
theorem t5 {x:Int}:du .bool (.int x)=Ξ:=rfl
theorem t6 {x:List D}:du .tuple (.tup x)=Θ:=rfl
theorem mI {i:Int}:du .str (.int i)=Ξ:=rfl
theorem mJ {ds:List D}:du .str (.tup ds)=Ξ:=rfl
theorem mK {o:Bool}{ds:List D}:du .str (.lst o ds)=Ξ:=rfl
theorem mL:du .int (.Fy)=Ξ:=rfl
theorem mM {x:Str}:du .int (.str x)=Ξ:=rfl
theorem mN {ds:List D}:du .int (.tup ds)=Ξ:=rfl
theorem mO {o:Bool}{ds:List D}:du .int (.lst o ds)=Ξ:=rfl
theorem jV:du .bool (.Fy)=Ξ:=rfl
theorem jW {b:Bool}:du .bool (.bl b)=Θ:=rfl
theorem jX {x:Str}:du .bool (.str x)=Ξ:=rfl
theorem jY {ds:List D}:du .bool (.tup ds)=Ξ:=rfl
theorem jZ {o:Bool}{ds:List D}:du .bool (.lst o ds)=Ξ:=rfl
theorem j5:du .list (.Fy)=Ξ:=rfl
theorem j6 {b:Bool}:du .list (.bl b)=Ξ:=rfl
theorem j7 {i:Int}:du .list (.int i)=Ξ:=rfl
theorem j8 {x:Str}:du .list (.str x)=Ξ:=rfl
theorem j9 {ds:List D}:du .list (.tup ds)=Ξ:=rfl
theorem kc {o:Bool}{ds:List D}:du .list (.lst o ds)=Θ:=rfl
theorem i8:du .tuple (.Fy)=Ξ:=rfl
theorem i9 {b:Bool}:du .tuple (.bl b)=Ξ:=rfl
theorem ja {i:Int}:du .tuple (.int i)=Ξ:=rfl
theorem jb {x:Str}:du .tuple (.str x)=Ξ:=rfl
theorem jd {o:Bool}{ds:List D}:du .tuple (.lst o ds)=Ξ:=rfl
theorem ua (ns:List Int):cp (ns.map .int)=Θ:=by rw[dt,List.all_map,U_];intro x _;rfl
theorem nU (ns:List Str):cp (ns.map .str)=Θ:=by rw[dt,List.all_map,U_];intro x _;rfl
theorem bV {i:Int}:er (.int i)=.int i:=by rw[er]
theorem bW {i:Str}:er (.str i)=.str i:=by rw[er]
theorem bX {i:Bool}:er (.bl i)=.bl i:=by rw[er]
theorem bY:er .Fy=.Fy:=by rw[er]
theorem bZ {ds:List D}:er (.tup ds)=.tup (Fx ds):=by rw[er]
theorem cb {o:Bool}{ds:List D}:er (.lst o ds)=.lst Ξ (Fx ds):=by rw[er]
theorem bM:Fx []=[]:=by rw[Fx]
theorem bN {d:D}{ds:List D}:Fx (d::ds)=er d::Fx ds:=by rw[Fx]
theorem cM (ns:List Int):Fx (ns.map .int)=ns.map .int:=eC (ua ns)
theorem cR (ns:List Str):Fx (ns.map .str)=ns.map .str:=eC (nU ns)
theorem yU {i:Int}:cA (.int i)=Θ:=rfl
theorem yV {i:Str}:cA (.str i)=Θ:=rfl
theorem yW {i:Bool}:cA (.bl i)=Θ:=rfl
theorem yX:cA .Fy=Θ:=rfl
theorem yY {ds:List D}:cA (.tup ds)=cp ds:=rfl
theorem yZ {o:Bool}{ds:List D}:cA (.lst o ds)=Ξ:=rfl
theorem ub:cp []=Θ:=rfl
theorem uc {d:D}{ds:List D}:cp (d::ds)=(cA d&&cp ds):=rfl
noncomputable def ud:Fl->Res D
 | .nx _=>.ok .Fy
 | .rt d=>.ok d
 | _=>FC
theorem run {fn:Fn}{ds:List D}(h:ds.length=fn.np):fS cl fn ds=E3 (cI cl fn.body (ds.map Δ++Τ (fn.G.N.length - fn.np) Φ)) ud:=by unfold fS;rw[I_ h];rfl
theorem ue:ud (.nx τ)=.ok .Fy:=rfl
theorem uf {d:D}:ud (.rt d)=.ok d:=rfl
theorem call {T:Tb}{n f:Nat}{fn:Fn}{ds:List D}(h:T f=Δ fn)(h0:fn.io=Ξ):aB T (n+1) f ds=fS (aB T n) fn ds:=by show (match T f with|some fn=>(match fn.io with|false=>fS (aB T n) fn ds|true=>gr (aB T n) fn ds)|none=>FC)=_;rw[h];show (match fn.io with|false=>fS (aB T n) fn ds|true=>gr (aB T n) fn ds)=_;rw[h0]
theorem go {T:Tb}{n f:Nat}{fn:Fn}{ds:List D}{m k:Nat}{body:List IS}(h:T f=Δ fn)(h0:fn.io=Ξ)(h1:fn.np=m)(h2:fn.G.N.length=k)(h3:fn.body=body)(hl:ds.length=m) :
  aB T (n+1) f ds=E3 (cI (aB T n) body (ds.map Δ++Τ (k - m) Φ)) ud:=by
 rw[call h h0,run (by rw[hl,h1]),h1,h2,h3]
end
end Ev
namespace Ev
section
variable {cl:Nat->List D->Res D}{τ:Ev}
theorem line:Ζ=16777216:=sizeLine_eq
theorem nV {a b:Int}(h1 : -18446744073709551616 < a)(h2:a < 18446744073709551616):Hm .mul (.int a) (.int b)=.ok (.int (a*b)):=by rw[yL,I_ (show -(2 ^ 64) < a/\a < 2 ^ 64 from ⟨by omega,by omega⟩)];rfl
theorem ug {a b:Int}(h1 : -18446744073709551616 < b)(h2:b < 18446744073709551616):Hm .mul (.int a) (.int b)=.ok (.int (a*b)):=by rw[yL,I_ (show -(2 ^ 64) < b/\b < 2 ^ 64 from ⟨by omega,by omega⟩),Bool.or_true];rfl
theorem uh {a b:Int}(h1:0 < b)(h2:b < 1073741824):Hm .fdiv (.int a) (.int b)=.ok (.int (a / b)):=by rw[Be,I_ ⟨h1,h2⟩];rfl
theorem y3 {a b:Int}(h1:0 < b):Hm .mod (.int a) (.int b)=.ok (.int (a % b)):=by rw[DF,I_ h1];rfl
theorem g8 {n:Nat}(h:n<=16777216):dh n=Θ:=I_ (by rw[line];exact h)
theorem jf {n:Nat}(h:n < 16777216):dP n=Θ:=I_ (by rw[line];exact h)
theorem pd {i:Int}(h1 : -4611686018427387904<=i)(h2:i < 4611686018427387904):hW i=Θ:=I_ ⟨by omega,by omega⟩
theorem pf {α β:Type}(f:α->β)(xs:List α)(i:Int):GU (xs.map f) i=(GU xs i).map f:=by
 unfold GU;rw[j_];cases Hb xs.length i with
 | none=>rfl
 | some j=>exact B_ ..
theorem kR {α:Type}{xs:List α}{i:Int}(d:α)(h0:0<=i)(h1:i < xs.length):GU xs i=Δ (xs.getD i.toNat d):=by
 unfold GU Hb;rw[f_ h0,f_ h1];show xs[i.toNat]? = _;have:i.toNat < xs.length:=by omega
 rw[aaw,y_ this];rfl
theorem Nl {o:Bool}{xs:List Int}{i:Int}(h0:0<=i)(h1:i < xs.length):cH (.lst o (xs.map .int)) (.int i)=.ok (.int (xs.getD i.toNat 0)):=by rw[Qc,pf,kR 0 h0 h1];rfl
theorem Bf {o:Bool}{xs:List Str}{i:Int}(h0:0<=i)(h1:i < xs.length):cH (.lst o (xs.map .str)) (.int i)=.ok (.str (xs.getD i.toNat ⟨#[]⟩)):=by rw[Qc,pf,kR ⟨#[]⟩ h0 h1];rfl
theorem OE {z:Str}{i:Int}(h0:0<=i)(h1:i < z.length)(hz:z.length<=16777216):cH (.str z) (.int i)=.ok (.str ⟨#[z.cps.toList.getD i.toNat 0]⟩):=by
 rw[Y1,g8 hz];have hl:z.cps.toList.length=z.length:=by simp[Str.length]
 rw[kR 0 h0 (by rw[hl];exact h1)];rfl
noncomputable def fz:Bool->Option D->Option D
 | true,Δ d=>Δ (er d)
 | true,Φ=>Φ
 | false,o=>o
theorem DW {d:D}:fz Θ (Δ d)=Δ (er d):=rfl
theorem DX {o:Option D}:fz Ξ o=o:=rfl
theorem y6 {is:List Nat}{k:Nat}{o:Option D}{τ:Ev}:jx is k (o::τ)=fz (is.contains k) o::jx is (k+1) τ:=by show (if is.contains k then o.map er else o)::jx is (k+1) τ=_;cases is.contains k<;>cases o<;>rfl
theorem cf {d:D}:vars (.c d)=[]:=rfl
theorem DY {n:Nat}{d:D}:vars (.g n d)=[]:=rfl
theorem cg {i:Nat}:vars (.v i)=[i]:=rfl
theorem bo {o:Kg}{a b:IR}:vars (.bin o a b)=vars a++vars b:=rfl
theorem bq {es:List IR}:vars (.tup es)=cD es:=rfl
theorem br {es:List IR}:vars (.lst es)=cD es:=rfl
theorem aA {f:Nat}{es:List IR}:vars (.call f es)=cD es:=rfl
theorem bP {f:Bi}{es:List IR}:vars (.bi f es)=cD es:=rfl
theorem bt {a i:IR}:vars (.idx a i)=vars a++vars i:=rfl
theorem bQ:cD []=[]:=rfl
theorem bR {e:IR}{es:List IR}:cD (e::es)=vars e++cD es:=rfl
theorem ph {G:Gm}{fr:List Nat}{t:Tg}{s:Sr}{i:List IR}{e:IR}:cP (.comp G fr t s i e)=Θ:=rfl
theorem ui {a b:IR}:cP (.bin .add a b)=Θ:=rfl
theorem pj {es:List IR}:cP (.bi .list es)=Θ:=rfl
theorem uj {a i:IR}:cP (.idx a i)=Ξ:=rfl
theorem DZ {e:IR}{o:Bool}{ds:List D}{τ:Ev}:cG e (.lst o ds) τ=cond (cP e) (cond (cp ds) (.lst Θ ds,τ) (.lst Θ (Fx ds),FT (vars e) τ)) (.lst Ξ (Fx ds),FT (vars e) τ):=by
 unfold cG;rw[d_ (show ¬ cA (.lst o ds)=Θ by intro z;cases z)];cases cP e
 ·exact Prod.ext (by show er (.lst o ds)=_;rw[er];rfl) rfl
 ·show (if cp ds=Θ then _ else _)=_;cases cp ds<;>rfl
theorem D3 {e:IR}{ds:List D}{τ:Ev}:cG e (.tup ds) τ=cond (cp ds) (.tup ds,τ) (.tup (Fx ds),FT (vars e) τ):=by
 unfold cG;cases h:cp ds with
 | true=>rw[f_ (show cA (.tup ds)=Θ from h)];rfl
 | false=>rw[d_ (show ¬ cA (.tup ds)=Θ by intro z;rw[show cA (.tup ds)=cp ds from rfl,h] at z;cases z)];cases cP e<;>exact Prod.ext (by show er (.tup ds)=_;rw[er];rfl) rfl
theorem pk {body:D->Ev->Res Fl}(P:Nat->Ev->Prop):∀ (its:List D) (k:Nat) (τ:Ev),P k τ->(∀ (i:Nat) (x:D) (τ:Ev),its[i]? = Δ x->P (k+i) τ->∃ τ',body x τ=.ok (.nx τ')/\P (k+i+1) τ')->∃ τ',forM body its τ=.ok (.nx τ')/\P (k+its.length) τ'
 | [],k,τ,h,_=>⟨τ,rfl,h⟩
 | x::xs,k,τ,h,hb=>by
  obtain⟨KG,e1,h1⟩:=hb 0 x τ rfl h;obtain⟨SX,e2,h2⟩:=pk P xs (k+1) KG h1 fun i y σ hy hp=>by obtain⟨τ',e',h'⟩:=hb (i+1) y σ (by simpa using hy) (by rw[show k+(i+1)=k+1+i by omega];exact hp);exact⟨τ',e',by rw[show k+1+i+1=k+(i+1)+1 by omega];exact h'⟩
  refine⟨SX,?_,by rw[List.length_cons,show k+(xs.length+1)=k+1+xs.length by omega];exact h2⟩;rw[dW,e1,oZ,yE,e2]
theorem eh {body:D->Ev->Res Fl}(P:Nat->Ev->Prop){its:List D}{τ:Ev}(h:P 0 τ)(hb:∀ (i:Nat)(x:D)(τ:Ev),its[i]? = Δ x->P i τ->∃ τ',body x τ=.ok (.nx τ')/\P (i+1) τ'):∃ τ',forM body its τ=.ok (.nx τ')/\P its.length τ':=by
 obtain⟨τ',h1,h2⟩:=pk P its 0 τ h fun i x τ hx hp=>by rw[Nat.zero_add] at hp ⊢;exact hb i x τ hx hp
 exact⟨τ',h1,by rw[Nat.zero_add] at h2;exact h2⟩
theorem mP {α β:Type}{body:D->Ev->Res Fl}(f:β->α->β)(JI:α->D)(st:β->Ev->Prop):∀ (xs:List α) (b:β) (τ:Ev),st b τ->(∀ (x:α) (b:β) (τ:Ev),x∈xs->st b τ->∃ τ',body (JI x) τ=.ok (.nx τ')/\st (f b x) τ')->
  ∃ τ',forM body (xs.map JI) τ=.ok (.nx τ')/\st (xs.foldl f b) τ'
 | [],b,τ,h,_=>⟨τ,rfl,h⟩
 | x::xs,b,τ,h,hb=>by obtain⟨KG,e1,h1⟩:=hb x b τ (by simp) h;obtain⟨SX,e2,h2⟩:=mP f JI st xs (f b x) KG h1 fun y b σ hy hp=>hb y b σ (G_ _ hy) hp;refine⟨SX,?_,h2⟩;rw[b_,dW,e1,oZ,yE,e2]
theorem dw {α β:Type}{g:D->Res (Option D)}(JI:α->D)(out:α->β)(MF:β->D):∀ (xs:List α),(∀ x∈xs,g (JI x)=.ok (Δ (MF (out x))))->cC g (xs.map JI)=.ok ((xs.map out).map MF)
 | [],_=>rfl
 | x::xs,h=>by show E3 (g (JI x)) _=_;rw[h x (by simp)];show E3 (cC g (xs.map JI)) _=_;rw[dw JI out MF xs fun y hy=>h y (G_ _ hy)];rfl
theorem bT {α:Type}{a:α}:K' (.ok a:Res α)=.ok a:=rfl
theorem jg (a b:Int):cO a b=((List.range (b - a).toNat).map fun k=>a+(k:Nat)).map .int:=by unfold cO;rw[E_];rfl
end
end Ev
end L2
namespace L2.Ev
theorem E9 {o:Option D}{τ:Ev}:cu (o::τ) 0=o:=rfl
theorem Fb {o:Option D}{τ:Ev}{i:Nat}:cu (o::τ) (i+1)=cu τ i:=rfl
theorem Fd {is:List Nat}{k:Nat}:jx is k []=[]:=rfl
theorem Fe {a k:Nat}{l:List Nat}:List.contains (a::l) k=((k == a)||l.contains k):=rfl
theorem Ff {k:Nat}:List.contains [] k=Ξ:=rfl
theorem Fg {b:Bool}{i:Int}:fz b (Δ (.int i))=Δ (.int i):=by cases b<;>rfl
theorem Fh {b:Bool}{i:PySem.Str}:fz b (Δ (.str i))=Δ (.str i):=by cases b<;>rfl
theorem Fi {b:Bool}:fz b Φ=Φ:=by cases b<;>rfl
end L2.Ev
namespace L2
open PySem
namespace Ev
theorem Fj {P:D}:cH (.tup [P]) (.int 0)=.ok P:=rfl
theorem Fm {P Q:D}:cH (.tup [P,Q]) (.int 0)=.ok P:=rfl
theorem Fo {P Q:D}:cH (.tup [P,Q]) (.int 1)=.ok Q:=rfl
theorem Fp {P Q R:D}:cH (.tup [P,Q,R]) (.int 0)=.ok P:=rfl
theorem Fq {P Q R:D}:cH (.tup [P,Q,R]) (.int 1)=.ok Q:=rfl
theorem Fs {P Q R:D}:cH (.tup [P,Q,R]) (.int 2)=.ok R:=rfl
theorem Ft {o:Bool}{P Q:D}:cH (.lst o [P,Q]) (.int 0)=.ok P:=rfl
theorem Fu {o:Bool}{P Q:D}:cH (.lst o [P,Q]) (.int 1)=.ok Q:=rfl
end Ev
theorem Zaa {a b:Prop}(x:a)(y:b):a/\b:=⟨x,y⟩
noncomputable def Fv:=(Zaa (Zaa (Zaa (Zaa (Zaa (Zaa (Zaa @Ev.oZ (Zaa @Ev.xR @Ev.VH)) (Zaa (Zaa @Ev.VJ @Ev.VL) (Zaa @Ev.xS @Ev.xT))) (Zaa (Zaa @Ev.sH (Zaa @Ev.xU @Ev.o4)) (Zaa (Zaa @Ev.xV @Ev.CO) (Zaa @Ev.xW @Ev.xX)))) (Zaa (Zaa (Zaa @Ev.xY (Zaa @Ev.xZ @Ev.x9)) (Zaa (Zaa @Ev.CW @Ev.sM) (Zaa @Ev.CY @Ev.C0))) (Zaa (Zaa @Ev.C1 (Zaa @Ev.C2 @Ev.C3)) (Zaa (Zaa @Ev.C4 @Ev.C5) (Zaa @Ev.sN @Ev.sO))))) (Zaa (Zaa (Zaa (Zaa @Ev.C6 (Zaa @Ev.sP @Ev.yb)) (Zaa (Zaa @Ev.yd @Ev.sQ) (Zaa @Ev.C8 @Ev.C9))) (Zaa (Zaa @Ev.sS (Zaa @Ev.Dd @Ev.De)) (Zaa (Zaa @Ev.Df @Ev.Dg) (Zaa @Ev.o5 @Ev.Dh)))) (Zaa (Zaa (Zaa @Ev.mE (Zaa @Ev.mG @Ev.sU)) (Zaa (Zaa @Ev.yh @Ev.yi) (Zaa @Ev.yj @Ev.Dj))) (Zaa (Zaa (Zaa @Ev.Dk @Ev.Dl) (Zaa @Ev.VR @Ev.P4)) (Zaa (Zaa @Ev.JC @Ev.JD) (Zaa @Ev.JE @Ev.Ij)))))) (Zaa (Zaa (Zaa (Zaa (Zaa @Ev.VS (Zaa @Ev.yn @Ev.yo)) (Zaa (Zaa @Ev.yp @Ev.Dm) (Zaa @Ev.yq @Ev.yr))) (Zaa (Zaa @Ev.Dq (Zaa @Ev.Dr @Ev.sW)) (Zaa (Zaa @Ev.sX @Ev.sY) (Zaa @Ev.yu @Ev.sZ)))) (Zaa (Zaa (Zaa @Ev.Ds (Zaa @Ev.Dt @Ev.o6)) (Zaa (Zaa @Ev.td @Ev.VV) (Zaa @Ev.VW @Ev.VX))) (Zaa (Zaa @Ev.VY (Zaa @Ev.Ik @Ev.tj)) (Zaa (Zaa @Ev.o7 @Ev.Ha) (Zaa @Ev.tv @Ev.tw))))) (Zaa (Zaa (Zaa (Zaa @Ev.tx (Zaa @Ev.tB @Ev.tD)) (Zaa (Zaa @Ev.Il @Ev.Im) (Zaa @Ev.tE @Ev.Io))) (Zaa (Zaa @Ev.Iq (Zaa @Ev.Ip @Ev.Hx)) (Zaa (Zaa @Ev.JF @Ev.Ir) (Zaa @Ev.Dz @Ev.DA)))) (Zaa (Zaa (Zaa @Ev.yy (Zaa @Ev.yz @Ev.yB)) (Zaa (Zaa @Ev.yC @Ev.yD) (Zaa @Ev.dW @Ev.DD))) (Zaa (Zaa (Zaa @Ev.DE @Ev.yF) (Zaa @Ev.yG @Ev.yI)) (Zaa (Zaa @Ev.nT @Ev.tJ) (Zaa @Ev.yJ @Ev.tL))))))) (Zaa (Zaa (Zaa (Zaa (Zaa (Zaa @Ev.yM (Zaa @Ev.V0 @Ev.DG)) (Zaa (Zaa @Ev.DH @Ev.DI) (Zaa @Ev.DJ @Ev.DL))) (Zaa (Zaa @Ev.DM (Zaa @Ev.DN @Ev.DO)) (Zaa (Zaa @Ev.DP @Ev.DQ) (Zaa @Ev.DR @Ev.DS)))) (Zaa (Zaa (Zaa @Ev.DT (Zaa @Ev.DU @Ev.yN)) (Zaa (Zaa @Ev.DV @Ev.yO) (Zaa @Ev.V1 @Ev.V2))) (Zaa (Zaa @Ev.V3 (Zaa @Ev.V4 @Ev.V5)) (Zaa (Zaa @Ev.V6 @Ev.yQ) (Zaa @Ev.yR @Ev.yS))))) (Zaa (Zaa (Zaa (Zaa @Ev.tM (Zaa @Ev.tO @Ev.tU)) (Zaa (Zaa @Ev.o8 @Ev.mH) (Zaa @Ev.tW @Ev.tX))) (Zaa (Zaa @Ev.jU (Zaa @Ev.yT @Ev.tY)) (Zaa (Zaa @Ev.tZ @Ev.t5) (Zaa @Ev.t6 @Ev.mI)))) (Zaa (Zaa (Zaa @Ev.mJ (Zaa @Ev.mK @Ev.mL)) (Zaa (Zaa @Ev.mM @Ev.mN) (Zaa @Ev.mO @Ev.jV))) (Zaa (Zaa (Zaa @Ev.jW @Ev.jX) (Zaa @Ev.jY @Ev.jZ)) (Zaa (Zaa @Ev.j5 @Ev.j6) (Zaa @Ev.j7 @Ev.j8)))))) (Zaa (Zaa (Zaa (Zaa (Zaa @Ev.j9 (Zaa @Ev.kc @Ev.i8)) (Zaa (Zaa @Ev.i9 @Ev.ja) (Zaa @Ev.jb @Ev.jd))) (Zaa (Zaa @Ev.cM (Zaa @Ev.cR @Ev.yU)) (Zaa (Zaa @Ev.yV @Ev.yW) (Zaa @Ev.yX @Ev.yY)))) (Zaa (Zaa (Zaa @Ev.yZ (Zaa @Ev.ub @Ev.uc)) (Zaa (Zaa @Ev.ue @Ev.uf) (Zaa @Ev.nV @Ev.ug))) (Zaa (Zaa (Zaa @Ev.uh @Ev.y3) (Zaa @Ev.g8 @Ev.jf)) (Zaa (Zaa @Ev.pd @Ev.Nl) (Zaa @Ev.Bf @Ev.OE))))) (Zaa (Zaa (Zaa (Zaa @Ev.DW (Zaa @Ev.DX @Ev.y6)) (Zaa (Zaa @Ev.DY @Ev.ph) (Zaa @Ev.ui @Ev.pj))) (Zaa (Zaa @Ev.uj (Zaa @Ev.DZ @Ev.D3)) (Zaa (Zaa @Ev.ua @Ev.nU) (Zaa @Bool.or_false @Bool.or_true)))) (Zaa (Zaa (Zaa @List.replicate_succ.{0} (Zaa @List.replicate_zero.{0} @List.length_cons.{0})) (Zaa (Zaa @List.length_nil.{0} @Nat.zero_add) (Zaa @decide_true @Bool.and_self))) (Zaa (Zaa (Zaa @Bool.not_true @Bool.not_false) (Zaa @Bool.and_true @Bool.and_false)) (Zaa (Zaa @beq_self_eq_true.{0} @if_true.{1}) (Zaa @if_false.{1} @aas))))))))
namespace Fr
end Fr
namespace Fr
open PySem
noncomputable def uk (f:Nat):Gm:={N:=["_law_own","_law_part"],kd:=[.local,.local],gl:=[f],df:=Ξ}
noncomputable def Ks (f:Nat):List IS:=
 [(.FO (.cmp .K7 (.v 1) (.c .Fy)) [(.ret (.cmp .K7 (.v 0) (.c .Fy)))] []),(.FO (.II (.Hl (.v 1) .bool) (.Hl (.v 0) .bool)) [(.ret (.Gd (.Hl (.v 1) .bool) (.Gd (.Hl (.v 0) .bool) (.cmp .eq (.v 0) (.v 1)))))] []),(.FO (.Hl (.v 1) .str) [(.ret (.Gd (.Hl (.v 0) .str) (.cmp .eq (.v 0) (.v 1))))] []),(.FO (.Hl (.v 1) .int) [(.ret (.Gd (.Hl (.v 0) .int) (.cmp .eq (.v 0) (.v 1))))] []),(.FO (.Hl (.v 1) .tuple) [(.FO (.GA (.Hl (.v 0) .tuple)) [(.ret (.c (.bl Ξ)))] [])] [(.FO (.GA (.Hl (.v 0) .list)) [(.ret (.c (.bl Ξ)))] [])]),(.FO (.cmp .ne (.bi .len [(.v 0)]) (.bi .len [(.v 1)])) [(.ret (.c (.bl Ξ)))] []),(.ret (.bi .all [(.comp (uk f) [] (.tp [(.nm 0),(.nm 1)]) (.zip (.v 0) (.v 1)) [] (.call f [(.v 0),(.v 1)]))]))]
noncomputable def pq (f:Nat)(x:Str):Gm:={N:=[x],kd:=[.local],gl:=[f],df:=Ξ}
noncomputable def Ku (f:Nat)(x:Str):List IS:=
 [(.FO (.Hl (.v 0) .list) [(.ret (.comp (pq f x) [] (.nm 0) (.val (.v 0)) [] (.call f [(.v 0)])))] []),(.FO (.Hl (.v 0) .tuple) [(.ret (.bi .tuple [(.comp (pq f x) [] (.nm 0) (.val (.v 0)) [] (.call f [(.v 0)]))]))] []),(.ret (.v 0))]
end Fr
end L2
local macro_rules | `(tactic| simp! [$xs,*]) => `(tactic| simp (disch := omega) only [L2.Fv, Nat.reduceBEq, Nat.reduceSub, Nat.reduceAdd, reduceIte, L2.Ev.E9, L2.Ev.Fb, L2.Ev.bK, L2.Ev.bL, ↓L2.Ev.Fg, ↓L2.Ev.Fh, ↓L2.Ev.Fi, L2.Ev.Fd, L2.Ev.Fe, L2.Ev.Ff, cond_true, cond_false, List.map_cons, List.map_nil, List.cons_append, List.nil_append, Bool.true_or, Bool.false_or, L2.Ev.bV, L2.Ev.bW, L2.Ev.bX, L2.Ev.bY, L2.Ev.bZ, L2.Ev.cb, L2.Ev.bM, L2.Ev.bN, L2.Ev.cf, L2.Ev.cg, L2.Ev.bo, L2.Ev.aA, L2.Ev.bQ, L2.Ev.bR, L2.Ev.bq, L2.Ev.br, L2.Ev.bP, L2.Ev.bt, ↓L2.Ev.Fj, ↓L2.Ev.Fm, ↓L2.Ev.Fo, ↓L2.Ev.Fp, ↓L2.Ev.Fq, ↓L2.Ev.Fs, ↓L2.Ev.Ft, ↓L2.Ev.Fu, L2.Ev.aC, L2.Ev.bu, L2.Ev.ag, L2.Ev.aD, L2.Ev.aE, L2.Ev.aF, L2.Ev.bw, L2.Ev.ah, L2.Ev.aG, L2.Ev.aH, L2.Ev.bx, L2.Ev.aj, L2.Ev.aI, L2.Ev.ak, L2.Ev.aJ, L2.Ev.aK, L2.Ev.aL, L2.Ev.aM, L2.Ev.aN, L2.Ev.bA, L2.Ev.ao, L2.Ev.aO, L2.Ev.aP, L2.Ev.aQ, L2.Ev.aq, L2.Ev.au, L2.Ev.bB, L2.Ev.bC, L2.Ev.aR, L2.Ev.av, L2.Ev.aw, L2.Ev.ax, L2.Ev.aa, L2.Ev.ae, L2.Ev.ay, L2.Ev.aT, L2.Ev.bD, L2.Ev.bE, L2.Ev.aU, L2.Ev.bF, L2.Ev.bG, L2.Ev.aV, L2.Ev.af, L2.Ev.aW, L2.Ev.aX, L2.Ev.aY, L2.Ev.aZ, L2.Ev.ba, L2.Ev.bc, L2.Ev.bH, L2.Ev.bJ, L2.Ev.bf, L2.Ev.bg, L2.Ev.az, L2.Ev.bh, L2.Ev.bT, $xs,*])
namespace Law
open PySem L2
noncomputable def top (i:Nat):Stmt:=PySem.Challenge.pw_flagroll_k31_decided.main.body.getD i (.Pass ⟨0,0,0,0⟩)
noncomputable def Z:Sg:={nm:=(["LETTERS","PLACES","SALT_LENGTH","is_whole","is_text_of","check_salt","folded","lot_keys","place_of","run_index","face_at","mark_of","mark_holds","cond_holds","conds_hold","in_rows","in_group","share_at","outcome_face","rules_holding","decided_among","decide","_law_draw","_law_names","_law_salt"]:List Str)++(["_law_place","_law_visitor_number","_law_allot","_law_stem","_law_text","_law_center","_law_number","_law_thing","_law_cond","_law_groups","_law_stages","_law_outcome","_law_rules","_law_marks","_law_cond_holds","_law_share","_law_face","_law_decided","_law_same","_law_copy","law"]:List Str),M7:=[(21,(.str "abcdefghijklmnopqrstuvwxyz")),(22,(.int 10007)),(23,(.int 12))],fns:=[24,25,26,27,28,29,30,31,32,33,34,35,36,37,38,39,40,41,42,43,44,45,46,47,48,49,50,51,52,53,54,55,56,57,58,59,60,61,62,63,64,65,66],cls:=[],xt:=[],pl:=[],rc:=[],xm:=[],JO:=[]}
noncomputable def oW (x y:Str):IR:=(.II (.cmp .eq (.v 7) (.c (.str x))) (.cmp .eq (.v 7) (.c (.str y))))
noncomputable def V7:List IS:=[(.asg (.nm 9) (.comp {N:=["_law_script","_law_k","_law_stem_here","_law_center_here","_law_j"],kd:=[.cell,.cell,.cell,.cell,.local],gl:=[53],df:=Ξ} [0,1,4,5] (.nm 4) (.FV (.bin .add (.c (.int 1)) (.call 43 [(.v 0),(.bin .add (.v 1) (.c (.int 2))),(.c (.int 2))]))) [] (.call 53 [(.v 0),(.bin .add (.bin .add (.v 1) (.c (.int 3))) (.bin .mul (.c (.int 5)) (.v 4))),(.v 2),(.v 3)])))]
noncomputable def V8:List IS:=[(.asg (.nm 9) (.comp {N:=["_law_script","_law_k","_law_stem_here","_law_j"],kd:=[.cell,.cell,.cell,.local],gl:=[50],df:=Ξ} [0,1,4] (.nm 3) (.FV (.bin .add (.c (.int 1)) (.call 43 [(.v 0),(.bin .add (.v 1) (.c (.int 2))),(.c (.int 2))]))) [] (.call 50 [(.v 0),(.bin .add (.bin .add (.v 1) (.c (.int 3))) (.bin .mul (.c (.int 5)) (.v 3))),(.v 2)]))),(.asg (.nm 9) (.comp {N:=["_law_stem_here","_law_thing_here"],kd:=[.cell,.local],gl:=[],df:=Ξ} [4] (.nm 1) (.val (.v 9)) [] (.ite (.cmp .ne (.v 1) (.c (.str ""))) (.v 1) (.sl (.v 0) Φ (Δ (.c (.int 1)))))))]
noncomputable def V9:List IS:=[(.asg (.nm 9) (.lst [(.call 52 [(.v 0),(.bin .add (.v 1) (.c (.int 3))),(.v 5)])]))]
noncomputable def V':List IS:=[(.asg (.nm 8) (.idx (.v 3) (.call 43 [(.v 0),(.bin .add (.v 1) (.c (.int 2))),(.bi .len [(.v 3)])])))]
noncomputable def OF:List IS:=[(.FO (oW "is" "not") V7 []),(.FO (.cmp .eq (.v 7) (.c (.str "begins"))) V8 []),(.FO (oW "least" "most") V9 []),(.FO (oW "in" "out") V' []),(.ret (.tup [(.v 8),(.v 7),(.v 9)]))]
noncomputable def SY:Gm:={N:=["_law_script","_law_k","_law_g","_law_marks_here","_law_stem_here","_law_center_here","_law_j"],kd:=[.cell,.cell,.cell,.cell,.cell,.cell,.local],gl:=[54],df:=Ξ}
noncomputable def OG:List IS:=[(.asg (.nm 8) (.comp SY [0,1,7,2,3,4] (.nm 6) (.FV (.c (.int 2))) [] (.call 54 [(.v 0),(.bin .add (.bin .add (.bin .add (.v 1) (.c (.int 70))) (.bin .mul (.c (.int 30)) (.v 2))) (.bin .mul (.c (.int 14)) (.v 6))),(.v 3),(.lst []),(.v 4),(.v 5)]))),(.asg (.nm 9) (.idx (.lst [(.lst []),(.lst [(.lst [])]),(.lst [(.sl (.v 8) Φ (Δ (.c (.int 1))))]),(.lst [(.v 8)]),(.lst [(.sl (.v 8) Φ (Δ (.c (.int 1)))),(.sl (.v 8) (Δ (.c (.int 1))) Φ)]),(.lst [(.lst []),(.sl (.v 8) Φ (Δ (.c (.int 1))))])]) (.call 43 [(.v 0),(.bin .add (.bin .add (.v 1) (.c (.int 6))) (.v 7)),(.c (.int 6))]))),(.app 5 (.tup [(.idx (.v 6) (.v 7)),(.v 9)]))]
noncomputable def Qd:List IS:=[(.asg (.nm 7) (.lst [(.c (.int 0)),(.c (.int 10007)),(.v 2),(.bin .add (.v 2) (.c (.int 1))),(.v 2),(.call 43 [(.v 0),(.bin .add (.bin .add (.v 1) (.c (.int 2))) (.v 6)),(.c (.int 10008))])])),(.app 4 (.tup [(.v 5),(.idx (.v 7) (.call 43 [(.v 0),(.bin .add (.bin .add (.v 1) (.c (.int 5))) (.v 6)),(.c (.int 6))]))])),(.asg (.nm 5) (.bin .add (.bin .add (.v 5) (.c (.int 1))) (.call 43 [(.v 0),(.bin .add (.bin .add (.v 1) (.c (.int 8))) (.v 6)),(.c (.int 3))])))]
noncomputable def OH:List IS:=[(.app 11 (.call 54 [(.v 0),(.bin .add (.bin .add (.bin .add (.v 1) (.c (.int 6))) (.bin .mul (.c (.int 60)) (.v 10))) (.bin .mul (.c (.int 14)) (.v 12))),(.v 2),(.v 3),(.v 5),(.v 6)]))]
noncomputable def OI:List IS:=[(.asg (.nm 11) (.lst [])),(.FZ (.nm 12) (.FV (.call 43 [(.v 0),(.bin .add (.bin .add (.v 1) (.c (.int 1))) (.v 10)),(.c (.int 3))])) OH),(.app 9 (.tup [(.v 11),(.call 57 [(.v 0),(.bin .add (.bin .add (.v 1) (.c (.int 40))) (.bin .mul (.c (.int 60)) (.v 10))),(.v 4),(.v 7),(.v 8)])]))]
noncomputable def Wa:List IS:=[(.asg (.nm 8) (.idx (.lst [(.bin .pow (.c (.int 10)) (.c (.int 9))),(.bin .sub (.c (.int 0)) (.bin .pow (.c (.int 10)) (.c (.int 9)))),(.bin .add (.v 4) (.c (.int 3)))]) (.call 43 [(.v 0),(.bin .add (.bin .add (.v 1) (.c (.int 2))) (.bin .mul (.c (.int 8)) (.v 6))),(.c (.int 3))])))]
noncomputable def S1:List IS:=[(.asg (.nm 8) (.call 50 [(.v 0),(.bin .add (.bin .add (.v 1) (.c (.int 3))) (.bin .mul (.c (.int 8)) (.v 6))),(.v 3)]))]
noncomputable def Wb:List IS:=[(.asg (.nm 8) (.sl (.bin .add (.v 8) (.v 3)) Φ (Δ (.c (.int 12)))))]
noncomputable def Qe:IS:=(.FO (.cmp .gt (.v 7) (.c (.int 0))) [(.ins 5 (.call 43 [(.v 0),(.bin .add (.bin .add (.v 1) (.c (.int 6))) (.bin .mul (.c (.int 8)) (.v 6))),(.bin .add (.bi .len [(.v 5)]) (.c (.int 1)))]) (.tup [(.idx (.v 2) (.v 6)),(.v 8)]))] [])
noncomputable def Qf:List IS:=(.FO (.cmp .eq (.v 7) (.c (.int 1))) Wa [])::(.FO (.II (.cmp .eq (.v 7) (.c (.int 2))) (.cmp .eq (.v 7) (.c (.int 3)))) S1 [])::(.FO (.cmp .eq (.v 7) (.c (.int 3))) Wb [])::[Qe]
noncomputable def OJ:List IS:=(.asg (.nm 7) (.call 43 [(.v 0),(.bin .add (.v 1) (.bin .mul (.c (.int 8)) (.v 6))),(.c (.int 5))]))::(.asg (.nm 8) (.call 52 [(.v 0),(.bin .add (.bin .add (.v 1) (.c (.int 1))) (.bin .mul (.c (.int 8)) (.v 6))),(.v 4)]))::Qf
noncomputable def S2:IR:=(.cmp .eq (.call 43 [(.v 0),(.bin .add (.v 1) (.c (.int 7))),(.c (.int 2))]) (.c (.int 0)))
noncomputable def Nm:IR:=(.Gd (.cmp .ne (.v 10) (.lst [])) (.cmp .eq (.idx (.idx (.v 10) (.neg (.c (.int 1)))) (.c (.int 1))) (.v 8)))
noncomputable def OK:IR:=(.neg (.c (.int 1)))
noncomputable def OL:IR:=(.tup [(.idx (.idx (.v 10) (.neg (.c (.int 1)))) (.c (.int 0))),(.v 9)])
noncomputable def Qg:IR:=(.tup [(.v 8),(.v 9)])
noncomputable def Nn:List IS:=[(.asg (.tp [(.nm 8),(.nm 9)]) (.idx (.v 5) (.v 7))),(.K9 6 10 (.call 43 [(.v 0),(.bin .add (.bin .add (.v 1) (.c (.int 8))) (.v 7)),(.bi .len [(.v 6)])]) Nm OK OL Qg)]
noncomputable def S3:List IS:=[(.M5 6 {N:=["_law_face_here"],kd:=[.local],gl:=[],df:=Ξ} [] 0 (.val (.v 2))),(.FZ (.nm 7) (.FV (.bi .len [(.v 5)])) Nn),(.ret (.tup [(.comp {N:=["_law_faces","_law_runs","_law_j"],kd:=[.cell,.cell,.local],gl:=[],df:=Ξ} [2,6] (.nm 2) (.FV (.bi .len [(.v 2)])) [] (.tup [(.idx (.v 0) (.v 2)),(.idx (.v 1) (.v 2))])),(.idx (.v 6) (.bi .len [(.v 2)]))]))]
noncomputable def OM:List IS:=(.FO S2 [(.asg (.nm 5) (.Ho (.v 5)))] [])::S3
noncomputable def ON:List IS:=[(.asg (.nm 16) (.tup [(.v 15),(.call 59 [(.v 0),(.bin .add (.c (.int 640)) (.bin .mul (.c (.int 25)) (.v 14))),(.v 1),(.v 6),(.v 7)])])),(.asg (.nm 17) (.call 42 [(.idx (.v 13) (.c (.int 0))),(.idx (.v 13) (.c (.int 1))),(.v 8),(.call 65 [(.v 16)])])),(.FO (.GA (.call 64 [(.v 17),(.call 63 [(.v 9),(.v 12),(.v 8),(.v 16)])])) [(.ret (.c (.bl Ξ)))] [])]
noncomputable def OO:List IS:=(.asg (.nm 15) (.v 4))::(.FO (.cmp .eq (.bin .mod (.v 14) (.c (.int 2))) (.c (.int 1))) [(.asg (.nm 15) (.call 47 [(.v 0),(.bin .add (.c (.int 620)) (.bin .mul (.c (.int 3)) (.v 14)))]))] [])::ON
noncomputable def Wc:Gm:={N:=["_law_marks_here","_law_row"],kd:=[.cell,.local],gl:=[9],df:=Ξ}
noncomputable def Qh:Gm:={N:=["_law_marks_here","_law_other"],kd:=[.cell,.local],gl:=[60],df:=Ξ}
noncomputable def MG:List IS:=[(.FO (.cmp .eq (.v 7) (.v 3)) [(.asg (.nm 6) (.bi .any [(.comp Wc [2] (.nm 1) (.val (.v 8)) [] (.bi .all [(.comp Qh [0] (.nm 1) (.val (.v 1)) [] (.call 60 [(.lst []),(.v 1),(.v 0)]))]))]))] [])]
noncomputable def MH:List IS:=[(.FO (.cmp .eq (.v 7) (.v 3)) [(.asg (.nm 9) (.v 10))] [])]
noncomputable def Wd:Gm:={N:=["_law_thing_here","_law_other"],kd:=[.cell,.local],gl:=[],df:=Ξ}
noncomputable def OP:List IS:=[(.FO (.II (.cmp .eq (.v 4) (.c (.str "is"))) (.cmp .eq (.v 4) (.c (.str "not")))) [(.ret (.cmp .eq (.cmp .Kh (.v 9) (.v 5)) (.cmp .eq (.v 4) (.c (.str "is")))))] []),(.FO (.cmp .eq (.v 4) (.c (.str "begins"))) [(.ret (.Gd (.Hl (.v 9) .str) (.bi .any [(.comp Wd [9] (.nm 1) (.val (.v 5)) [] (.Jx .starts (.v 0) [(.v 1)]))])))] []),(.FO (.cmp .eq (.v 4) (.c (.str "least"))) [(.ret (.Gd (.Hl (.v 9) .int) (.cmp .ge (.v 9) (.idx (.v 5) (.c (.int 0))))))] []),(.FO (.cmp .eq (.v 4) (.c (.str "most"))) [(.ret (.Gd (.Hl (.v 9) .int) (.cmp .le (.v 9) (.idx (.v 5) (.c (.int 0))))))] []),(.ret (.cmp .eq (.cmp .IW (.v 9) (.c .Fy)) (.cmp .eq (.v 4) (.c (.str "has")))))]
noncomputable def Qi:List IS:=(.asg (.tp [(.nm 3),(.nm 4),(.nm 5)]) (.v 1))::(.FO (.II (.cmp .eq (.v 4) (.c (.str "in"))) (.cmp .eq (.v 4) (.c (.str "out")))) [(.asg (.nm 6) (.c (.bl Ξ))),(.FZ (.tp [(.nm 7),(.nm 8)]) (.val (.v 0)) MG),(.ret (.cmp .eq (.v 6) (.cmp .eq (.v 4) (.c (.str "in")))))] [])::(.asg (.nm 9) (.c .Fy))::(.FZ (.tp [(.nm 7),(.nm 10)]) (.val (.v 2)) MH)::OP
noncomputable def tP:List IS:=[(.FO (.chain .le .lt (.v 6) (.v 2) (.v 7)) [(.ret (.v 4))] [])]
noncomputable def tQ:List IS:=[(.FZ (.tp [(.nm 6),(.nm 7)]) (.val (.v 5)) tP)]
noncomputable def OQ:List IS:=[(.FO (.cmp .eq (.idx (.v 0) (.c (.int 0))) (.c (.str "face"))) [(.ret (.idx (.v 0) (.c (.int 1))))] []),(.FO (.cmp .eq (.idx (.v 0) (.c (.int 0))) (.c (.str "share"))) [(.FO (.cmp .lt (.v 2) (.call 61 [(.idx (.v 0) (.c (.int 2))),(.v 3)])) [(.ret (.idx (.v 0) (.c (.int 1))))] []),(.ret (.c .Fy))] []),(.FZ (.tp [(.nm 4),(.nm 5)]) (.val (.idx (.v 1) (.c (.int 0)))) tQ),(.ret (.c .Fy))]
noncomputable def Qj:Gm:={N:=["_law_groups_here","_law_visitor","_law_cond_here"],kd:=[.cell,.cell,.local],gl:=[60],df:=Ξ}
noncomputable def Kv:List IS:=[(.FO (.bi .all [(.comp Qj [0,3] (.nm 2) (.val (.idx (.v 9) (.c (.int 0)))) [] (.call 60 [(.v 0),(.v 2),(.idx (.v 1) (.c (.int 1)))]))]) [(.asg (.nm 10) (.call 62 [(.idx (.v 9) (.c (.int 1))),(.v 7),(.call 46 [(.v 4),(.idx (.v 3) (.c (.int 0)))]),(.v 2)])),(.FO (.cmp .IW (.v 10) (.c .Fy)) [(.ret (.tup [(.v 10),(.v 8)]))] [])] [])]
noncomputable def S4:List IS:=[(.asg (.tp [(.nm 4),(.nm 5),(.nm 6),(.nm 7)]) (.v 1)),(.FZ (.tp [(.nm 8),(.nm 9)]) (.HN (.v 6)) Kv),(.ret (.tup [(.v 5),(.bi .len [(.v 6)])]))]
noncomputable def Qk:List IS:=[(.asg (.nm 2) (.c (.int 0))),(.FZ (.tp [(.nm 3),(.nm 4)]) (.val (.v 0)) [(.FO (.cmp .le (.v 3) (.v 1)) [(.asg (.nm 2) (.v 4))] [])]),(.ret (.v 2))]
noncomputable def MI:List IS:=
 [(.ret (.Gd (.Hl (.v 0) .int) (.GA (.Hl (.v 0) .bool))))]
noncomputable def OR:Fn:={np:=1,G:={N:=["thing"],kd:=[.local],gl:=[14,8,16],df:=Θ},body:=MI}
noncomputable def S5:List IS:=
 [(.FO (.GA (.Hl (.v 0) .str)) [(.ret (.c (.bl Ξ)))] []),(.FO (.GA (.chain .le .le (.v 2) (.bi .len [(.v 0)]) (.v 3))) [(.ret (.c (.bl Ξ)))] []),(.ret (.bi .all [(.comp {N:=["signs","sign"],kd:=[.cell,.local],gl:=[],df:=Ξ} [1] (.nm 1) (.val (.v 0)) [] (.cmp .Kh (.v 1) (.v 0)))]))]
noncomputable def S6:Fn:={np:=4,G:={N:=["thing","signs","least","most"],kd:=[.local,.cell,.local,.local],gl:=[14,11,0,9],df:=Θ},body:=S5}
noncomputable def S7:List IS:=
 [(.FO (.GA (.call 25 [(.v 0),(.g 21 (.str "abcdefghijklmnopqrstuvwxyz")),(.c (.int 1)),(.g 23 (.int 12))])) [.never] [])]
noncomputable def S8:Fn:={np:=1,G:={N:=["salt"],kd:=[.local],gl:=[25,21,23],df:=Θ},body:=S7}
noncomputable def S9:List IS:=
 [(.asg (.nm 3) (.c (.int 0))),(.FZ (.nm 4) (.val (.v 0)) [(.asg (.nm 3) (.bin .mod (.bin .add (.bin .mul (.v 3) (.v 1)) (.bi .ord [(.v 4)])) (.v 2)))]),(.ret (.v 3))]
noncomputable def Ta:Fn:={np:=3,G:={N:=["salt","factor","modulus","key","sign"],kd:=Τ 5 .local,gl:=[7],df:=Θ},body:=S9}
noncomputable def Tc:List IS:=
 [(.exp (.call 26 [(.v 0)])),(.asg (.nm 1) (.bin .add (.c (.int 1)) (.call 27 [(.v 0),(.c (.int 31)),(.bin .sub (.g 22 (.int 10007)) (.c (.int 1)))]))),(.asg (.nm 2) (.call 27 [(.v 0),(.c (.int 37)),(.g 22 (.int 10007))])),(.ret (.tup [(.v 1),(.v 2)]))]
noncomputable def Td:Fn:={np:=1,G:={N:=["salt","a","b"],kd:=Τ 3 .local,gl:=[26,27,22],df:=Θ},body:=Tc}
noncomputable def Te:List IS:=
 [(.asg (.nm 2) (.call 28 [(.v 0)])),(.ret (.bin .mod (.bin .add (.bin .mul (.idx (.v 2) (.c (.int 0))) (.v 1)) (.idx (.v 2) (.c (.int 1)))) (.g 22 (.int 10007))))]
noncomputable def Tf:Fn:={np:=2,G:={N:=["salt","number","keys"],kd:=Τ 3 .local,gl:=[28,22],df:=Θ},body:=Te}
noncomputable def OS:List IS:=
 [(.asg (.nm 2) (.c (.int 0))),(.FZ (.tp [(.nm 3),(.nm 4)]) (.val (.v 0)) [(.FO (.chain .le .lt (.v 3) (.v 1) (.v 4)) [(.ret (.bin .sub (.bin .add (.v 2) (.v 1)) (.v 3)))] []),(.asg (.nm 2) (.bin .sub (.bin .add (.v 2) (.v 4)) (.v 3)))]),(.ret (.c .Fy))]
noncomputable def Ql:Fn:={np:=2,G:={N:=["run","place","ahead","low","high"],kd:=Τ 5 .local,gl:=[],df:=Θ},body:=OS}
noncomputable def OU:List IS:=
 [(.FZ (.tp [(.nm 2),(.nm 3)]) (.val (.idx (.v 0) (.c (.int 0)))) [(.FO (.cmp .IW (.call 30 [(.v 3),(.v 1)]) (.c .Fy)) [(.ret (.v 2))] [])]),(.ret (.c .Fy))]
noncomputable def Qm:Fn:={np:=2,G:={N:=["allot","place","face","run"],kd:=Τ 4 .local,gl:=[30],df:=Θ},body:=OU}
noncomputable def OV:List IS:=
 [(.FZ (.tp [(.nm 2),(.nm 3)]) (.val (.v 0)) [(.FO (.cmp .eq (.v 2) (.v 1)) [(.ret (.v 3))] [])]),(.ret (.c .Fy))]
noncomputable def Qn:Fn:={np:=2,G:={N:=["marks","name","mark_name","thing"],kd:=Τ 4 .local,gl:=[],df:=Θ},body:=OV}
noncomputable def OW:List IS:=
 [(.FO (.cmp .eq (.v 0) (.c (.str "is"))) [(.ret (.Gd (.cmp .IW (.v 2) (.c .Fy)) (.cmp .Kh (.v 2) (.v 1))))] []),(.FO (.cmp .eq (.v 0) (.c (.str "not"))) [(.ret (.II (.cmp .K7 (.v 2) (.c .Fy)) (.cmp .LF (.v 2) (.v 1))))] []),(.FO (.cmp .eq (.v 0) (.c (.str "begins"))) [(.ret (.Gd (.Hl (.v 2) .str) (.bi .any [(.comp {N:=["mark","thing"],kd:=[.cell,.local],gl:=[],df:=Ξ} [2] (.nm 1) (.val (.v 1)) [] (.Jx .starts (.v 0) [(.v 1)]))])))] []),(.FO (.cmp .eq (.v 0) (.c (.str "least"))) [(.ret (.Gd (.call 24 [(.v 2)]) (.cmp .ge (.v 2) (.idx (.v 1) (.c (.int 0))))))] []),(.FO (.cmp .eq (.v 0) (.c (.str "most"))) [(.ret (.Gd (.call 24 [(.v 2)]) (.cmp .le (.v 2) (.idx (.v 1) (.c (.int 0))))))] []),(.FO (.cmp .eq (.v 0) (.c (.str "has"))) [(.ret (.cmp .IW (.v 2) (.c .Fy)))] []),(.ret (.cmp .K7 (.v 2) (.c .Fy)))]
noncomputable def Th:Fn:={np:=3,G:={N:=["word","things","mark"],kd:=[.local,.local,.cell],gl:=[14,11,10,24],df:=Θ},body:=OW}
noncomputable def MJ:List IS:=
 [(.asg (.nm 3) (.idx (.v 1) (.c (.int 0)))),(.asg (.nm 4) (.idx (.v 1) (.c (.int 1)))),(.FO (.cmp .eq (.v 4) (.c (.str "in"))) [(.ret (.call 37 [(.v 0),(.v 3),(.v 2)]))] []),(.FO (.cmp .eq (.v 4) (.c (.str "out"))) [(.ret (.GA (.call 37 [(.v 0),(.v 3),(.v 2)])))] []),(.ret (.call 33 [(.v 4),(.idx (.v 1) (.c (.int 2))),(.call 32 [(.v 2),(.v 3)])]))]
noncomputable def OX:Fn:={np:=3,G:={N:=["groups","cond","marks","name","word"],kd:=Τ 5 .local,gl:=[37,33,32],df:=Θ},body:=MJ}
noncomputable def OY:List IS:=
 [(.FZ (.nm 3) (.val (.v 1)) [(.FO (.GA (.call 34 [(.v 0),(.v 3),(.v 2)])) [(.ret (.c (.bl Ξ)))] [])]),(.ret (.c (.bl Θ)))]
noncomputable def Qo:Fn:={np:=3,G:={N:=["groups","conds","marks","cond"],kd:=Τ 4 .local,gl:=[34],df:=Θ},body:=OY}
noncomputable def OZ:List IS:=
 [(.FZ (.nm 3) (.val (.v 1)) [(.FO (.call 35 [(.v 0),(.v 3),(.v 2)]) [(.ret (.c (.bl Θ)))] [])]),(.ret (.c (.bl Ξ)))]
noncomputable def Qp:Fn:={np:=3,G:={N:=["groups","rows","marks","row"],kd:=Τ 4 .local,gl:=[35],df:=Θ},body:=OZ}
noncomputable def O0:List IS:=
 [(.FZ (.tp [(.nm 3),(.nm 4)]) (.val (.v 0)) [(.FO (.cmp .eq (.v 3) (.v 1)) [(.ret (.call 36 [(.v 0),(.v 4),(.v 2)]))] [])]),(.ret (.c (.bl Ξ)))]
noncomputable def Qq:Fn:={np:=3,G:={N:=["groups","name","marks","group_name","rows"],kd:=Τ 5 .local,gl:=[36],df:=Θ},body:=O0}
noncomputable def Y2:List IS:=
 Qk
noncomputable def Ti:Fn:={np:=2,G:={N:=["stages","day","share","first_day","places"],kd:=Τ 5 .local,gl:=[],df:=Θ},body:=Y2}
noncomputable def Lj:List IS:=
 [(.FO (.cmp .eq (.idx (.v 0) (.c (.int 0))) (.c (.str "face"))) [(.ret (.idx (.v 0) (.c (.int 1))))] []),(.FO (.cmp .eq (.idx (.v 0) (.c (.int 0))) (.c (.str "share"))) [(.ret (.ite (.cmp .lt (.v 3) (.call 38 [(.idx (.v 0) (.c (.int 2))),(.v 2)])) (.idx (.v 0) (.c (.int 1))) (.c .Fy)))] []),(.ret (.call 31 [(.v 1),(.v 3)]))]
noncomputable def Np:Fn:={np:=4,G:={N:=["outcome","allot","day","place"],kd:=Τ 4 .local,gl:=[38,31],df:=Θ},body:=Lj}
noncomputable def Tj:List IS:=
 [(.ret (.comp {N:=["groups","marks","number","rule"],kd:=[.cell,.cell,.local,.local],gl:=[35],df:=Ξ} [0,2] (.tp [(.nm 2),(.nm 3)]) (.HN (.idx (.v 1) (.c (.int 2)))) [(.call 35 [(.v 0),(.idx (.v 3) (.c (.int 0))),(.v 1)])] (.v 2)))]
noncomputable def To:Fn:={np:=3,G:={N:=["groups","switch","marks"],kd:=[.cell,.local,.cell],gl:=[20],df:=Θ},body:=Tj}
noncomputable def O1:List IS:=
 [(.FZ (.nm 4) (.val (.v 2)) [(.asg (.nm 5) (.call 39 [(.idx (.idx (.idx (.v 0) (.c (.int 2))) (.v 4)) (.c (.int 1))),(.idx (.v 0) (.c (.int 3))),(.v 1),(.v 3)])),(.FO (.cmp .IW (.v 5) (.c .Fy)) [(.ret (.tup [(.v 5),(.v 4)]))] [])]),(.ret (.tup [(.idx (.v 0) (.c (.int 1))),(.bi .len [(.idx (.v 0) (.c (.int 2)))])]))]
noncomputable def Qr:Fn:={np:=4,G:={N:=["switch","day","numbers","place","number","face"],kd:=Τ 6 .local,gl:=[39,0],df:=Θ},body:=O1}
noncomputable def Tp:List IS:=
 [(.asg (.nm 4) (.call 40 [(.v 0),(.v 1),(.idx (.v 3) (.c (.int 1)))])),(.ret (.call 41 [(.v 1),(.v 2),(.v 4),(.call 29 [(.idx (.v 1) (.c (.int 0))),(.idx (.v 3) (.c (.int 0)))])]))]
noncomputable def Tq:Fn:={np:=4,G:={N:=["groups","switch","day","visitor","numbers"],kd:=Τ 5 .local,gl:=[40,41,29],df:=Θ},body:=Tp}
noncomputable def Tr:List IS:=
 [(.asg (.nm 3) (.c (.int 0))),(.FO (.cmp .gt (.bi .len [(.v 0)]) (.c (.int 0))) [(.asg (.nm 3) (.bin .mod (.idx (.v 0) (.bin .mod (.v 1) (.bi .len [(.v 0)]))) (.c (.int 2147483647))))] []),(.asg (.nm 4) (.bin .add (.bin .mul (.v 3) (.bin .add (.c (.int 742938285)) (.bin .mul (.bin .mul (.c (.int 9973)) (.v 1)) (.v 1)))) (.bin .mul (.v 1) (.c (.int 630360016))))),(.ret (.bin .mod (.bin .fdiv (.bin .mod (.v 4) (.c (.int 2147483647))) (.c (.int 97))) (.v 2)))]
noncomputable def Tt:Fn:={np:=3,G:={N:=["_law_script","_law_k","_law_many","_law_cell","_law_mixed"],kd:=Τ 5 .local,gl:=[0],df:=Θ},body:=Tr}
noncomputable def O6:List IS:=
 [(.asg (.nm 3) (.c (.str "abcdefghijklmnopqrstuvwxyz"))),(.asg (.nm 4) (.call 43 [(.v 0),(.v 1),(.c (.int 26))])),(.FO (.cmp .eq (.call 43 [(.v 0),(.bin .add (.v 1) (.c (.int 1))),(.c (.int 5))]) (.c (.int 0))) [(.ret (.comp {N:=["_law_letters","_law_start","_law_j"],kd:=[.cell,.cell,.local],gl:=[],df:=Ξ} [3,4] (.nm 2) (.FV (.v 2)) [] (.bin .mul (.idx (.v 0) (.v 1)) (.bin .add (.c (.int 1)) (.v 2)))))] []),(.asg (.nm 5) (.c (.str ""))),(.FZ (.nm 6) (.FV (.call 43 [(.v 0),(.bin .add (.v 1) (.c (.int 2))),(.c (.int 8))])) [(.asg (.nm 5) (.bin .add (.v 5) (.idx (.v 3) (.call 43 [(.v 0),(.bin .add (.bin .add (.v 1) (.c (.int 40))) (.v 6)),(.c (.int 26))]))))]),(.asg (.nm 7) (.call 43 [(.v 0),(.bin .add (.v 1) (.c (.int 3))),(.bin .add (.bi .len [(.v 5)]) (.c (.int 1)))])),(.asg (.nm 8) (.idx (.lst [(.c (.int 1)),(.c (.int 7)),(.c (.int 25)),(.c (.int 11))]) (.call 43 [(.v 0),(.bin .add (.v 1) (.c (.int 1))),(.c (.int 4))]))),(.ret (.comp {N:=["_law_body","_law_at","_law_letters","_law_start","_law_step","_law_j"],kd:=[.cell,.cell,.cell,.cell,.cell,.local],gl:=[],df:=Ξ} [5,7,3,4,8] (.nm 5) (.FV (.v 2)) [] (.bin .add (.bin .add (.sl (.v 0) Φ (Δ (.v 1))) (.idx (.v 2) (.bin .mod (.bin .add (.v 3) (.bin .mul (.v 4) (.v 5))) (.c (.int 26))))) (.sl (.v 0) (Δ (.v 1)) Φ))))]
noncomputable def Qs:Fn:={np:=3,G:={N:=["_law_script","_law_k","_law_many","_law_letters","_law_start","_law_body","_law_j","_law_at","_law_step"],kd:=[.local,.local,.local,.cell,.cell,.cell,.local,.cell,.cell],gl:=[43,15,0],df:=Θ},body:=O6}
noncomputable def Tu:List IS:=
 [(.asg (.nm 2) (.c (.str "abcdefghijklmnopqrstuvwxyz"))),(.asg (.nm 3) (.c (.str ""))),(.FZ (.nm 4) (.FV (.call 43 [(.v 0),(.v 1),(.c (.int 12))])) [(.asg (.nm 3) (.bin .add (.v 3) (.idx (.v 2) (.call 43 [(.v 0),(.bin .add (.bin .add (.v 1) (.c (.int 2))) (.v 4)),(.c (.int 26))]))))]),(.asg (.nm 5) (.call 43 [(.v 0),(.bin .add (.v 1) (.c (.int 1))),(.bin .add (.bi .len [(.v 3)]) (.c (.int 1)))])),(.ret (.bin .add (.bin .add (.sl (.v 3) Φ (Δ (.v 5))) (.idx (.v 2) (.call 43 [(.v 0),(.bin .add (.v 1) (.c (.int 14))),(.c (.int 26))]))) (.sl (.v 3) (Δ (.v 5)) Φ)))]
noncomputable def Tv:Fn:={np:=2,G:={N:=["_law_script","_law_k","_law_letters","_law_body","_law_j","_law_at"],kd:=Τ 6 .local,gl:=[15,43,0],df:=Θ},body:=Tu}
noncomputable def Tw:List IS:=
 [(.asg (.nm 2) (.c (.int 0))),(.asg (.nm 3) (.c (.int 0))),(.FZ (.nm 4) (.val (.v 0)) [(.asg (.nm 2) (.bin .mod (.bin .add (.bin .mul (.v 2) (.c (.int 31))) (.bi .ord [(.v 4)])) (.c (.int 10006)))),(.asg (.nm 3) (.bin .mod (.bin .add (.bin .mul (.v 3) (.c (.int 37))) (.bi .ord [(.v 4)])) (.c (.int 10007))))]),(.ret (.bin .mod (.bin .add (.bin .mul (.bin .add (.c (.int 1)) (.v 2)) (.v 1)) (.v 3)) (.c (.int 10007))))]
noncomputable def Tx:Fn:={np:=2,G:={N:=["_law_salt_here","_law_number_here","_law_first","_law_second","_law_sign"],kd:=Τ 5 .local,gl:=[7],df:=Θ},body:=Tw}
noncomputable def MK:List IS:=
 [(.asg (.nm 2) (.call 43 [(.v 0),(.v 1),(.c (.int 6))])),(.FO (.cmp .lt (.v 2) (.c (.int 2))) [(.ret (.idx (.lst [(.c (.int 0)),(.bin .pow (.c (.int 10)) (.c (.int 9)))]) (.v 2)))] []),(.ret (.bin .add (.bin .mul (.call 43 [(.v 0),(.bin .add (.v 1) (.c (.int 1))),(.c (.int 31600))]) (.c (.int 31600))) (.call 43 [(.v 0),(.bin .add (.v 1) (.c (.int 2))),(.c (.int 31600))])))]
noncomputable def O7:Fn:={np:=2,G:={N:=["_law_script","_law_k","_law_way"],kd:=Τ 3 .local,gl:=[43],df:=Θ},body:=MK}
noncomputable def O8:List IS:=
 (.asg (.nm 4) (.bin .add (.lst [(.c (.int 0)),(.v 3),(.bin .add (.v 3) (.c (.int 1)))]) (.comp {N:=["_law_script","_law_k","_law_j"],kd:=[.cell,.cell,.local],gl:=[43],df:=Ξ} [0,1] (.nm 2) (.FV (.call 43 [(.v 0),(.bin .add (.v 1) (.c (.int 6))),(.c (.int 5))])) [] (.call 43 [(.v 0),(.bin .add (.v 1) (.v 2)),(.c (.int 10007))]))))::(.asg (.nm 4) (.sset (.comp {N:=["_law_cut"],kd:=[.local],gl:=[],df:=Ξ} [] (.nm 0) (.val (.v 4)) [(.cmp .lt (.v 0) (.c (.int 10007)))] (.v 0))))::(.asg (.nm 5) (.Hq (.v 4) (.bin .add (.sl (.v 4) (Δ (.c (.int 1))) Φ) (.lst [(.c (.int 10007))]))))::OM
noncomputable def Tz:Fn:={np:=4,G:={N:=["_law_script","_law_k","_law_faces","_law_place_here","_law_cuts","_law_ranges","_law_runs","_law_j","_law_low","_law_high","_law_run"],kd:=[.cell,.cell,.cell,.local,.local,.local,.cell,.local,.local,.local,.local],gl:=[15,43,4,12,5,17,18,0],df:=Θ},body:=O8}
noncomputable def O9:List IS:=
 [(.asg (.nm 2) (.c (.str "abcdefghijklmnopqrstuvwxyz0123456789"))),(.asg (.nm 3) (.v 2)),(.FO (.cmp .eq (.call 43 [(.v 0),(.v 1),(.c (.int 2))]) (.c (.int 0))) [(.asg (.nm 3) (.sl (.sl (.v 2) (Δ (.call 43 [(.v 0),(.bin .add (.v 1) (.c (.int 1))),(.c (.int 34))])) Φ) Φ (Δ (.c (.int 2)))))] []),(.ret (.Jx .join (.c (.str "")) [(.comp {N:=["_law_some","_law_script","_law_k","_law_j"],kd:=[.cell,.cell,.cell,.local],gl:=[43,0],df:=Ξ} [3,0,1] (.nm 3) (.FV (.c (.int 12))) [] (.idx (.v 0) (.call 43 [(.v 1),(.bin .add (.bin .add (.v 2) (.c (.int 2))) (.v 3)),(.bi .len [(.v 0)])])))]))]
noncomputable def Qt:Fn:={np:=2,G:={N:=["_law_script","_law_k","_law_signs","_law_some"],kd:=[.cell,.cell,.local,.cell],gl:=[43,15],df:=Θ},body:=O9}
noncomputable def MM:List IS:=
 [(.asg (.nm 3) (.sl (.v 2) Φ (Δ (.call 43 [(.v 0),(.v 1),(.c (.int 9))])))),(.FO (.Gd (.cmp .ne (.v 3) (.c (.str ""))) (.cmp .eq (.call 43 [(.v 0),(.bin .add (.v 1) (.c (.int 1))),(.c (.int 3))]) (.c (.int 0)))) [(.asg (.nm 3) (.bin .add (.sl (.v 3) Φ (Δ (.neg (.c (.int 1))))) (.idx (.c (.str "abcdefghijklmnopqrstuvwxyz0123456789")) (.call 43 [(.v 0),(.bin .add (.v 1) (.c (.int 2))),(.c (.int 36))]))))] []),(.ret (.v 3))]
noncomputable def O':Fn:={np:=3,G:={N:=["_law_script","_law_k","_law_stem_here","_law_text_here"],kd:=Τ 4 .local,gl:=[43],df:=Θ},body:=MM}
noncomputable def TB:List IS:=
 [(.asg (.nm 2) (.bin .sub (.bin .add (.bin .mul (.call 43 [(.v 0),(.v 1),(.c (.int 20000))]) (.c (.int 100000))) (.call 43 [(.v 0),(.bin .add (.v 1) (.c (.int 1))),(.c (.int 100000))])) (.bin .pow (.c (.int 10)) (.c (.int 9))))),(.ret (.bi .min2 [(.bi .max2 [(.v 2),(.bin .sub (.c (.int 0)) (.c (.int 999999990)))]),(.c (.int 999999990))]))]
noncomputable def TC:Fn:={np:=2,G:={N:=["_law_script","_law_k","_law_number_here"],kd:=Τ 3 .local,gl:=[43,2,3],df:=Θ},body:=TB}
noncomputable def Pc:List IS:=
 [(.asg (.nm 3) (.call 43 [(.v 0),(.v 1),(.c (.int 8))])),(.FO (.cmp .lt (.v 3) (.c (.int 5))) [(.ret (.bin .sub (.bin .add (.v 2) (.v 3)) (.c (.int 2))))] []),(.ret (.idx (.lst [(.c (.int 999999999)),(.bin .sub (.c (.int 0)) (.c (.int 999999999))),(.c (.int 0))]) (.bin .sub (.v 3) (.c (.int 5)))))]
noncomputable def Qu:Fn:={np:=3,G:={N:=["_law_script","_law_k","_law_center_here","_law_way"],kd:=Τ 4 .local,gl:=[43],df:=Θ},body:=Pc}
noncomputable def Pd:List IS:=
 [(.FO (.cmp .eq (.call 43 [(.v 0),(.v 1),(.c (.int 2))]) (.c (.int 0))) [(.ret (.call 52 [(.v 0),(.bin .add (.v 1) (.c (.int 1))),(.v 3)]))] []),(.ret (.call 50 [(.v 0),(.bin .add (.v 1) (.c (.int 2))),(.v 2)]))]
noncomputable def Qv:Fn:={np:=4,G:={N:=["_law_script","_law_k","_law_stem_here","_law_center_here"],kd:=Τ 4 .local,gl:=[43,52,50],df:=Θ},body:=Pd}
noncomputable def Qw:List IS:=
 (.asg (.nm 6) (.lst [(.c (.str "is")),(.c (.str "not")),(.c (.str "begins")),(.c (.str "least")),(.c (.str "most")),(.c (.str "has")),(.c (.str "lacks"))]))::(.FO (.cmp .ne (.v 3) (.lst [])) [(.asg (.nm 6) (.bin .add (.v 6) (.lst [(.c (.str "in")),(.c (.str "out"))])))] [])::(.asg (.nm 7) (.idx (.v 6) (.call 43 [(.v 0),(.v 1),(.bi .len [(.v 6)])])))::(.asg (.nm 8) (.idx (.v 2) (.call 43 [(.v 0),(.bin .add (.v 1) (.c (.int 1))),(.bi .len [(.v 2)])])))::(.asg (.nm 9) (.lst []))::OF
noncomputable def TF:Fn:={np:=6,G:={N:=["_law_script","_law_k","_law_marks_here","_law_groups_here","_law_stem_here","_law_center_here","_law_words","_law_word","_law_name","_law_things"],kd:=[.cell,.cell,.local,.local,.cell,.cell,.local,.local,.local,.local],gl:=[43,0,15,52],df:=Θ},body:=Qw}
noncomputable def TH:List IS:=
 [(.asg (.nm 5) (.lst [])),(.asg (.nm 6) (.idx (.lst [(.call 44 [(.v 0),(.v 1),(.c (.int 2))]),(.bi .list [(.v 2)])]) (.call 43 [(.v 0),(.bin .add (.v 1) (.c (.int 4))),(.c (.int 2))]))),(.FZ (.nm 7) (.FV (.call 43 [(.v 0),(.bin .add (.v 1) (.c (.int 5))),(.c (.int 3))])) OG),(.ret (.v 5))]
noncomputable def TJ:Fn:={np:=5,G:={N:=["_law_script","_law_k","_law_marks_here","_law_stem_here","_law_center_here","_law_groups_here","_law_names_here","_law_g","_law_ones","_law_rows"],kd:=[.cell,.cell,.cell,.cell,.cell,.local,.local,.cell,.local,.local],gl:=[44,5,43,15],df:=Θ},body:=TH}
noncomputable def TK:List IS:=
 [(.asg (.nm 4) (.lst [])),(.asg (.nm 5) (.bi .max2 [(.c (.int 0)),(.bin .sub (.v 3) (.call 43 [(.v 0),(.v 1),(.c (.int 4))]))])),(.FZ (.nm 6) (.FV (.call 43 [(.v 0),(.bin .add (.v 1) (.c (.int 1))),(.c (.int 4))])) Qd),(.ret (.v 4))]
noncomputable def TL:Fn:={np:=4,G:={N:=["_law_script","_law_k","_law_place_here","_law_day","_law_stages_here","_law_first","_law_j","_law_some"],kd:=Τ 8 .local,gl:=[3,43,15],df:=Θ},body:=TK}
noncomputable def MN:List IS:=
 [(.asg (.nm 5) (.idx (.v 2) (.call 43 [(.v 0),(.bin .add (.v 1) (.c (.int 1))),(.bi .len [(.v 2)])]))),(.asg (.nm 6) (.call 43 [(.v 0),(.v 1),(.c (.int 3))])),(.FO (.cmp .eq (.v 6) (.c (.int 0))) [(.ret (.tup [(.c (.str "face")),(.v 5)]))] []),(.FO (.cmp .eq (.v 6) (.c (.int 1))) [(.ret (.tup [(.c (.str "share")),(.v 5),(.call 56 [(.v 0),(.bin .add (.v 1) (.c (.int 2))),(.v 3),(.v 4)])]))] []),(.ret (.tup [(.c (.str "lot"))]))]
noncomputable def Pe:Fn:={np:=5,G:={N:=["_law_script","_law_k","_law_faces","_law_place_here","_law_day","_law_face_here","_law_way"],kd:=Τ 7 .local,gl:=[43,0,56],df:=Θ},body:=MN}
noncomputable def TM:List IS:=
 [(.asg (.nm 9) (.lst [])),(.FZ (.nm 10) (.FV (.call 43 [(.v 0),(.v 1),(.c (.int 5))])) OI),(.ret (.v 9))]
noncomputable def TN:Fn:={np:=9,G:={N:=["_law_script","_law_k","_law_marks_here","_law_groups_here","_law_faces","_law_stem_here","_law_center_here","_law_place_here","_law_day","_law_rules_here","_law_i","_law_conds","_law_j"],kd:=Τ 13 .local,gl:=[15,43,54,57],df:=Θ},body:=TM}
noncomputable def TQ:List IS:=
 [(.asg (.nm 5) (.lst [])),(.FZ (.nm 6) (.FV (.bi .len [(.v 2)])) OJ),(.ret (.v 5))]
noncomputable def TR:Fn:={np:=5,G:={N:=["_law_script","_law_k","_law_names_here","_law_stem_here","_law_center_here","_law_marks_here","_law_j","_law_way","_law_thing_here"],kd:=Τ 9 .local,gl:=[15,0,43,52,50],df:=Θ},body:=TQ}
noncomputable def Y3:List IS:=
 Qi
noncomputable def Kw:Fn:={np:=3,G:={N:=["_law_groups_here","_law_cond_here","_law_marks_here","_law_name","_law_word","_law_things","_law_inside","_law_own","_law_rows","_law_thing_here","_law_value"],kd:=[.local,.local,.cell,.local,.local,.local,.local,.local,.local,.cell,.local],gl:=[10,14,11,8],df:=Θ},body:=Y3}
noncomputable def Y4:List IS:=
 Qk
noncomputable def TU:Fn:={np:=2,G:={N:=["_law_stages_here","_law_day","_law_share_here","_law_begin","_law_places"],kd:=Τ 5 .local,gl:=[],df:=Θ},body:=Y4}
noncomputable def Y5:List IS:=
 OQ
noncomputable def MO:Fn:={np:=4,G:={N:=["_law_outcome_here","_law_allot_here","_law_place_here","_law_day","_law_face_here","_law_run","_law_low","_law_high"],kd:=Τ 8 .local,gl:=[61],df:=Θ},body:=Y5}
noncomputable def Y6:List IS:=
 S4
noncomputable def MP:Fn:={np:=4,G:={N:=["_law_groups_here","_law_switch","_law_day","_law_visitor","_law_salt_here","_law_rest","_law_rules_here","_law_allot_here","_law_number_here","_law_rule","_law_face_here"],kd:=[.cell,.local,.local,.cell,.local,.local,.local,.local,.local,.local,.local],gl:=[20,9,62,46,0],df:=Θ},body:=Y6}
noncomputable def Y7:List IS:=
 L2.Fr.Ks 64
noncomputable def TV:Fn:={np:=2,G:={N:=["_law_found","_law_due"],kd:=[.local,.local],gl:=[14,16,11,8,6,5,0,9,17],df:=Θ},body:=Y7}
noncomputable def Y8:List IS:=
 L2.Fr.Ku 65 "_law_part"
noncomputable def TX:Fn:={np:=1,G:={N:=["_law_thing_here"],kd:=[.local],gl:=[14,5,6],df:=Θ},body:=Y8}
noncomputable def TY:List IS:=
 [(.asg (.nm 1) (.call 44 [(.v 0),(.c (.int 0)),(.c (.int 3))])),(.asg (.nm 2) (.call 44 [(.v 0),(.c (.int 50)),(.c (.int 4))])),(.asg (.nm 3) (.call 45 [(.v 0),(.c (.int 100))])),(.asg (.nm 4) (.call 47 [(.v 0),(.c (.int 120))])),(.asg (.nm 5) (.call 46 [(.v 3),(.v 4)])),(.asg (.nm 6) (.call 49 [(.v 0),(.c (.int 130))])),(.asg (.nm 7) (.call 51 [(.v 0),(.c (.int 145))])),(.asg (.nm 8) (.bin .mul (.call 43 [(.v 0),(.c (.int 147)),(.c (.int 1000))]) (.idx (.lst [(.c (.int 1)),(.c (.int 999))]) (.call 43 [(.v 0),(.c (.int 148)),(.c (.int 2))])))),(.asg (.nm 9) (.call 55 [(.v 0),(.c (.int 150)),(.v 1),(.v 6),(.v 7)])),(.asg (.nm 10) (.comp {N:=["_law_group"],kd:=[.local],gl:=[],df:=Ξ} [] (.nm 0) (.val (.v 9)) [] (.idx (.v 0) (.c (.int 0))))),(.asg (.nm 11) (.call 58 [(.v 0),(.c (.int 300)),(.v 1),(.v 10),(.v 2),(.v 6),(.v 7),(.v 5),(.v 8)])),(.asg (.nm 12) (.tup [(.v 3),(.idx (.v 2) (.call 43 [(.v 0),(.c (.int 149)),(.c (.int 4))])),(.v 11),(.call 48 [(.v 0),(.c (.int 280)),(.sl (.v 2) Φ (Δ (.c (.int 3)))),(.v 5)])])),(.asg (.nm 13) (.call 65 [(.tup [(.v 9),(.v 12)])])),(.FZ (.nm 14) (.FV (.c (.int 6))) OO),(.ret (.call 64 [(.v 13),(.tup [(.v 9),(.v 12)])]))]
noncomputable def Qx:Fn:={np:=1,G:={N:=["_law_script","_law_names_here","_law_faces","_law_salt_here","_law_number_here","_law_place_here","_law_stem_here","_law_center_here","_law_day","_law_groups_here","_law_told","_law_rules_here","_law_switch","_law_handed","_law_j","_law_who","_law_visitor","_law_found"],kd:=Τ 18 .local,gl:=[44,45,47,46,49,51,43,55,58,48,65,15,59,42,64,63],df:=Θ},body:=TY}
noncomputable def T:Tb:=fun n=>match n with
 | 24=>Δ OR
 | 25=>Δ S6
 | 26=>Δ S8
 | 27=>Δ Ta
 | 28=>Δ Td
 | 29=>Δ Tf
 | 30=>Δ Ql
 | 31=>Δ Qm
 | 32=>Δ Qn
 | 33=>Δ Th
 | 34=>Δ OX
 | 35=>Δ Qo
 | 36=>Δ Qp
 | 37=>Δ Qq
 | 38=>Δ Ti
 | 39=>Δ Np
 | 40=>Δ To
 | 41=>Δ Qr
 | 42=>Δ Tq
 | 43=>Δ Tt
 | 44=>Δ Qs
 | 45=>Δ Tv
 | 46=>Δ Tx
 | 47=>Δ O7
 | 48=>Δ Tz
 | 49=>Δ Qt
 | 50=>Δ O'
 | 51=>Δ TC
 | 52=>Δ Qu
 | 53=>Δ Qv
 | 54=>Δ TF
 | 55=>Δ TJ
 | 56=>Δ TL
 | 57=>Δ Pe
 | 58=>Δ TN
 | 59=>Δ TR
 | 60=>Δ Kw
 | 61=>Δ TU
 | 62=>Δ MO
 | 63=>Δ MP
 | 64=>Δ TV
 | 65=>Δ TX
 | 66=>Δ Qx
 | _=>Φ
theorem c24:cw Z OR ["thing"] (top 5)=Θ:=by decide +kernel
theorem c25:cw Z S6 ["thing","signs","least","most"] (top 6)=Θ:=by decide +kernel
theorem c26:cw Z S8 ["salt"] (top 10)=Θ:=by decide +kernel
theorem c27:cw Z Ta ["salt","factor","modulus"] (top 11)=Θ:=by decide +kernel
theorem c28:cw Z Td ["salt"] (top 12)=Θ:=by decide +kernel
theorem c29:cw Z Tf ["salt","number"] (top 13)=Θ:=by decide +kernel
theorem c30:cw Z Ql ["run","place"] (top 15)=Θ:=by decide +kernel
theorem c31:cw Z Qm ["allot","place"] (top 17)=Θ:=by decide +kernel
theorem c32:cw Z Qn ["marks","name"] (top 19)=Θ:=by decide +kernel
theorem c33:cw Z Th ["word","things","mark"] (top 21)=Θ:=by decide +kernel
theorem c34:cw Z OX ["groups","cond","marks"] (top 22)=Θ:=by decide +kernel
theorem c35:cw Z Qo ["groups","conds","marks"] (top 23)=Θ:=by decide +kernel
theorem c36:cw Z Qp ["groups","rows","marks"] (top 24)=Θ:=by decide +kernel
theorem c37:cw Z Qq ["groups","name","marks"] (top 25)=Θ:=by decide +kernel
theorem c38:cw Z Ti ["stages","day"] (top 27)=Θ:=by decide +kernel
theorem c39:cw Z Np ["outcome","allot","day","place"] (top 28)=Θ:=by decide +kernel
theorem c40:cw Z To ["groups","switch","marks"] (top 29)=Θ:=by decide +kernel
theorem c41:cw Z Qr ["switch","day","numbers","place"] (top 30)=Θ:=by decide +kernel
theorem c42:cw Z Tq ["groups","switch","day","visitor"] (top 31)=Θ:=by decide +kernel
theorem c43:cw Z Tt ["_law_script","_law_k","_law_many"] (top 33)=Θ:=by decide +kernel
theorem c44:cw Z Qs ["_law_script","_law_k","_law_many"] (top 34)=Θ:=by decide +kernel
theorem c45:cw Z Tv ["_law_script","_law_k"] (top 35)=Θ:=by decide +kernel
theorem c46:cw Z Tx ["_law_salt_here","_law_number_here"] (top 36)=Θ:=by decide +kernel
theorem c47:cw Z O7 ["_law_script","_law_k"] (top 37)=Θ:=by decide +kernel
theorem c48:cw Z Tz ["_law_script","_law_k","_law_faces","_law_place_here"] (top 38)=Θ:=by decide +kernel
theorem c49:cw Z Qt ["_law_script","_law_k"] (top 39)=Θ:=by decide +kernel
theorem c50:cw Z O' ["_law_script","_law_k","_law_stem_here"] (top 40)=Θ:=by decide +kernel
theorem c51:cw Z TC ["_law_script","_law_k"] (top 41)=Θ:=by decide +kernel
theorem c52:cw Z Qu ["_law_script","_law_k","_law_center_here"] (top 42)=Θ:=by decide +kernel
theorem c53:cw Z Qv ["_law_script","_law_k","_law_stem_here","_law_center_here"] (top 43)=Θ:=by decide +kernel
theorem c54:cw Z TF ["_law_script","_law_k","_law_marks_here","_law_groups_here","_law_stem_here","_law_center_here"] (top 44)=Θ:=by decide +kernel
theorem c55:cw Z TJ ["_law_script","_law_k","_law_marks_here","_law_stem_here","_law_center_here"] (top 45)=Θ:=by decide +kernel
theorem c56:cw Z TL ["_law_script","_law_k","_law_place_here","_law_day"] (top 46)=Θ:=by decide +kernel
theorem c57:cw Z Pe ["_law_script","_law_k","_law_faces","_law_place_here","_law_day"] (top 47)=Θ:=by decide +kernel
theorem c58:cw Z TN ["_law_script","_law_k","_law_marks_here","_law_groups_here","_law_faces","_law_stem_here","_law_center_here","_law_place_here","_law_day"] (top 48)=Θ:=by decide +kernel
theorem c59:cw Z TR ["_law_script","_law_k","_law_names_here","_law_stem_here","_law_center_here"] (top 49)=Θ:=by decide +kernel
theorem c60:cw Z Kw ["_law_groups_here","_law_cond_here","_law_marks_here"] (top 50)=Θ:=by decide +kernel
theorem c61:cw Z TU ["_law_stages_here","_law_day"] (top 51)=Θ:=by decide +kernel
theorem c62:cw Z MO ["_law_outcome_here","_law_allot_here","_law_place_here","_law_day"] (top 52)=Θ:=by decide +kernel
theorem c63:cw Z MP ["_law_groups_here","_law_switch","_law_day","_law_visitor"] (top 53)=Θ:=by decide +kernel
theorem c64:cw Z TV ["_law_found","_law_due"] (top 54)=Θ:=by decide +kernel
theorem c65:cw Z TX ["_law_thing_here"] (top 55)=Θ:=by decide +kernel
theorem We:cw Z Qx ["_law_script"] (top 56)=Θ:=by decide +kernel
theorem Bg:∀ n x,Z.name n=Δ x->x≠"__name__"/\(x == ("__debug__" : Str))=Ξ:=by
 have h:(cW++Z.nm).all (fun x=>!(x == "__name__")&&!(x == "__debug__"))=Θ:=by decide +kernel
 intro n x hx;have:=U_.mp h x (aag hx);simpa using this
@[elab_as_elim] theorem G3 {P:List Ψ->Prop}{n:Nat} (us:List Ψ) (e:us.length=n+1) (h:∀ (x:Ψ) (us:List Ψ),us.length=n->P (x::us)):P us:=by
 cases us with
 | nil=>cases e
 | cons x us=>exact h x us (Nat.succ.inj e)
@[elab_as_elim] theorem MQ {P:List Ψ->Prop} (us:List Ψ) (e:us.length=0) (h:P []):P us:=by
 cases us with
 | nil=>exact h
 | cons x us=>cases e
theorem ln1 {fd:Ο}{ps:List Str}(h:∀ x0:Ψ,bindArgs fd ⟨[x0],[]⟩=pure (ps.zip [x0]))(us:List Ψ)(e:us.length=1):bindArgs fd ⟨us,[]⟩=pure (ps.zip us):=G3 us e fun x0 us e=>MQ us e (h x0)
theorem ln2 {fd:Ο}{ps:List Str}(h:∀ x0 x1:Ψ,bindArgs fd ⟨[x0,x1],[]⟩=pure (ps.zip [x0,x1]))(us:List Ψ)(e:us.length=2):bindArgs fd ⟨us,[]⟩=pure (ps.zip us):=G3 us e fun x0 us e=>G3 us e fun x1 us e=>MQ us e (h x0 x1)
theorem ln3 {fd:Ο}{ps:List Str}(h:∀ x0 x1 x2:Ψ,bindArgs fd ⟨[x0,x1,x2],[]⟩=pure (ps.zip [x0,x1,x2]))(us:List Ψ)(e:us.length=3):bindArgs fd ⟨us,[]⟩=pure (ps.zip us):=G3 us e fun x0 us e=>G3 us e fun x1 us e=>G3 us e fun x2 us e=>MQ us e (h x0 x1 x2)
theorem ln4 {fd:Ο}{ps:List Str}(h:∀ x0 x1 x2 x3:Ψ,bindArgs fd ⟨[x0,x1,x2,x3],[]⟩=pure (ps.zip [x0,x1,x2,x3]))(us:List Ψ)(e:us.length=4):bindArgs fd ⟨us,[]⟩=pure (ps.zip us):=G3 us e fun x0 us e=>G3 us e fun x1 us e=>G3 us e fun x2 us e=>G3 us e fun x3 us e=>MQ us e (h x0 x1 x2 x3)
theorem ln5 {fd:Ο}{ps:List Str}(h:∀ x0 x1 x2 x3 x4:Ψ,bindArgs fd ⟨[x0,x1,x2,x3,x4],[]⟩=pure (ps.zip [x0,x1,x2,x3,x4]))(us:List Ψ)(e:us.length=5):bindArgs fd ⟨us,[]⟩=pure (ps.zip us):=G3 us e fun x0 us e=>G3 us e fun x1 us e=>G3 us e fun x2 us e=>G3 us e fun x3 us e=>G3 us e fun x4 us e=>MQ us e (h x0 x1 x2 x3 x4)
theorem ln6 {fd:Ο}{ps:List Str}(h:∀ x0 x1 x2 x3 x4 x5:Ψ,bindArgs fd ⟨[x0,x1,x2,x3,x4,x5],[]⟩=pure (ps.zip [x0,x1,x2,x3,x4,x5]))(us:List Ψ)(e:us.length=6):bindArgs fd ⟨us,[]⟩=pure (ps.zip us):=G3 us e fun x0 us e=>G3 us e fun x1 us e=>G3 us e fun x2 us e=>G3 us e fun x3 us e=>G3 us e fun x4 us e=>G3 us e fun x5 us e=>MQ us e (h x0 x1 x2 x3 x4 x5)
theorem ln9 {fd:Ο}{ps:List Str}(h:∀ x0 x1 x2 x3 x4 x5 x6 x7 x8:Ψ,bindArgs fd ⟨[x0,x1,x2,x3,x4,x5,x6,x7,x8],[]⟩=pure (ps.zip [x0,x1,x2,x3,x4,x5,x6,x7,x8]))(us:List Ψ)(e:us.length=9):bindArgs fd ⟨us,[]⟩=pure (ps.zip us):=G3 us e fun x0 us e=>G3 us e fun x1 us e=>G3 us e fun x2 us e=>G3 us e fun x3 us e=>G3 us e fun x4 us e=>G3 us e fun x5 us e=>G3 us e fun x6 us e=>G3 us e fun x7 us e=>G3 us e fun x8 us e=>MQ us e (h x0 x1 x2 x3 x4 x5 x6 x7 x8)
theorem dfo {f:Nat}{x:Str}{fn:Fn}{st:Stmt}{fa:Ω}{ps:List Str}{K:W.Frag}{h:Heap}{mg:Str->Option Ψ}{oc:Ψ}{od an:Option Ω}{sl:Array (Option Ψ)}{kV dc pm cd ct:Ψ}(c:cw Z fn ps st=Θ)(hT:T f=Δ fn)(b:∀ (kV dc pm:Ψ)(an:Option Ω)(cd ct:Ψ)(us:List Ψ),us.length=ps.length->bindArgs (W.fnOf x x (eM st) (dB st) (cE st) .none kV dc pm an cd ct) ⟨us,[]⟩=pure (ps.zip us))(X:K.In h)(G:h.Ns Η mg)
  (a:W.nsIn K Η x=Δ (Δ (.ref fa))) (l:K.lookup fa=Δ ⟨oc,od,.func (W.fnOf x x (eM st) (dB st) (cE st) .none kV dc pm an cd ct),sl⟩) (e:W.codeIn K cd x=Θ) (k:W.keepIn K (.ref fa)=Θ):FA K mg Z T f x:=⟨fn,st,fa,_,ps,hT,nc l e k,W.mg_of X G a,(nc l e k).binds b,mr c⟩
noncomputable def Bh:Nat:=66
noncomputable def wL:Str:="_law_script"
theorem all_mk {l:PySem.W.OpenLaw}{w:Β}{fa:Ω}{K:W.Frag}{h:Heap}{mg:Str->Option Ψ}{TZ:Ω}{T2 Pf:Option Ω}{T3:Array (Option Ψ)}{T4 Pg Ph Pj MR Pk:Ψ}{Y9:Tok}{Y':Tok}{Za:Tok}(X:K.In h)(G:h.Ns Η mg)(Zb:mg "law" = Δ (.ref fa))
  (Zc:FA K mg Z T 24 "is_whole")
  (Zd:FA K mg Z T 25 "is_text_of")
  (Ze:FA K mg Z T 26 "check_salt")
  (Zf:FA K mg Z T 27 "folded")
  (Zg:FA K mg Z T 28 "lot_keys")
  (Zh:FA K mg Z T 29 "place_of")
  (Zi:FA K mg Z T 30 "run_index")
  (Zj:FA K mg Z T 31 "face_at")
  (Zk:FA K mg Z T 32 "mark_of")
  (Zl:FA K mg Z T 33 "mark_holds")
  (Zm:FA K mg Z T 34 "cond_holds")
  (Zn:FA K mg Z T 35 "conds_hold")
  (Zo:FA K mg Z T 36 "in_rows")
  (Zq:FA K mg Z T 37 "in_group")
  (Zr:FA K mg Z T 38 "share_at")
  (Zs:FA K mg Z T 39 "outcome_face")
  (Zt:FA K mg Z T 40 "rules_holding")
  (Zu:FA K mg Z T 41 "decided_among")
  (Zv:FA K mg Z T 42 "decide")
  (Zw:FA K mg Z T 43 "_law_draw")
  (Zx:FA K mg Z T 44 "_law_names")
  (Zy:FA K mg Z T 45 "_law_salt")
  (Zz:FA K mg Z T 46 "_law_place")
  (ZA:FA K mg Z T 47 "_law_visitor_number")
  (ZC:FA K mg Z T 48 "_law_allot")
  (ZD:FA K mg Z T 49 "_law_stem")
  (ZE:FA K mg Z T 50 "_law_text")
  (ZF:FA K mg Z T 51 "_law_center")
  (ZG:FA K mg Z T 52 "_law_number")
  (ZH:FA K mg Z T 53 "_law_thing")
  (ZI:FA K mg Z T 54 "_law_cond")
  (ZJ:FA K mg Z T 55 "_law_groups")
  (ZK:FA K mg Z T 56 "_law_stages")
  (ZL:FA K mg Z T 57 "_law_outcome")
  (ZM:FA K mg Z T 58 "_law_rules")
  (ZN:FA K mg Z T 59 "_law_marks")
  (ZO:FA K mg Z T 60 "_law_cond_holds")
  (ZP:FA K mg Z T 61 "_law_share")
  (ZQ:FA K mg Z T 62 "_law_face")
  (ZT:FA K mg Z T 63 "_law_decided")
  (ZU:FA K mg Z T 64 "_law_same")
  (ZV:FA K mg Z T 65 "_law_copy")
  (a66:W.nsIn K Η "law" = Δ (Δ (.ref TZ))) (l66:K.lookup TZ=Δ ⟨T4,T2,.func (W.fnOf "law" "law" (eM (top 56)) (dB (top 56)) (cE (top 56)) .none Pg Ph Pj Pf MR Pk),T3⟩) (e66:W.codeIn K MR "law" = Θ) (k66:W.keepIn K (.ref TZ)=Θ)
  (q21:W.nsIn K Η "LETTERS" = Δ (Δ (.str "abcdefghijklmnopqrstuvwxyz" Y9)))
  (q22:W.nsIn K Η "PLACES" = Δ (Δ (.int 10007 Y')))
  (q23:W.nsIn K Η "SALT_LENGTH" = Δ (Δ (.int 12 Za)))
  (z0:W.nsIn K Η "len" = Δ Φ)
  (z1:W.nsIn K Η "sum" = Δ Φ)
  (z2:W.nsIn K Η "min" = Δ Φ)
  (z3:W.nsIn K Η "max" = Δ Φ)
  (z4:W.nsIn K Η "sorted" = Δ Φ)
  (z5:W.nsIn K Η "list" = Δ Φ)
  (z6:W.nsIn K Η "tuple" = Δ Φ)
  (z7:W.nsIn K Η "ord" = Δ Φ)
  (z8:W.nsIn K Η "int" = Δ Φ)
  (z9:W.nsIn K Η "all" = Δ Φ)
  (z10:W.nsIn K Η "any" = Δ Φ)
  (z11:W.nsIn K Η "str" = Δ Φ)
  (z12:W.nsIn K Η "set" = Δ Φ)
  (z13:W.nsIn K Η "abs" = Δ Φ)
  (z14:W.nsIn K Η "isinstance" = Δ Φ)
  (z15:W.nsIn K Η "range" = Δ Φ)
  (z16:W.nsIn K Η "bool" = Δ Φ)
  (z17:W.nsIn K Η "zip" = Δ Φ)
  (z18:W.nsIn K Η "reversed" = Δ Φ)
  (z19:W.nsIn K Η "dict" = Δ Φ)
  (z20:W.nsIn K Η "enumerate" = Δ Φ) :
  ∃ fd:Ο,(∀ (s:Α) (v:Ψ),BindsTo s fd ⟨[v],[]⟩ [(wL,v)])/\∀ base:Heap,K.In base->base.Ns Η mg->He l.prog w K mg base (GW l.prog w) (16+1) fa fd [wL] (Nk K (aB T (16+1)) Bh [wL]):=by
 have e:=Zb.symm.trans (PySem.W.mg_of X G a66);cases e;have t:HX K mg Z T:=by
  constructor
  case LK=>
   exact Bg
  case blt=>
   exact fun n x hx=>by
    have key:∀ y∈cW,mg y=Φ:=by
     intro y hy;simp only[cW,k_,P_,or_false] at hy;rcases hy with rfl|rfl|rfl|rfl|rfl|rfl|rfl|rfl|rfl|rfl|rfl|rfl|rfl|rfl|rfl|rfl|rfl|rfl|rfl|rfl|rfl
     ·exact J_ X G z0
     ·exact J_ X G z1
     ·exact J_ X G z2
     ·exact J_ X G z3
     ·exact J_ X G z4
     ·exact J_ X G z5
     ·exact J_ X G z6
     ·exact J_ X G z7
     ·exact J_ X G z8
     ·exact J_ X G z9
     ·exact J_ X G z10
     ·exact J_ X G z11
     ·exact J_ X G z12
     ·exact J_ X G z13
     ·exact J_ X G z14
     ·exact J_ X G z15
     ·exact J_ X G z16
     ·exact J_ X G z17
     ·exact J_ X G z18
     ·exact J_ X G z19
     ·exact J_ X G z20
    exact key x (aag hx)
  case cst=>
   exact fun n d x hm hx=>by
    have My:(n,d)∈([(21,(.str "abcdefghijklmnopqrstuvwxyz")),(22,(.int 10007)),(23,(.int 12))]:List (Nat×D)):=hm;simp only[k_,P_,or_false,Prod.mk.injEq] at My;rcases My with ⟨rfl,rfl⟩|⟨rfl,rfl⟩|⟨rfl,rfl⟩
    ·cases hx;exact⟨_,.str _,PySem.W.mg_of X G q21,⟨_,rfl⟩,fun _ _=>.str _⟩
    ·cases hx;exact⟨_,.int _,PySem.W.mg_of X G q22,⟨_,rfl⟩,fun _ _=>.int _⟩
    ·cases hx;exact⟨_,.int _,PySem.W.mg_of X G q23,⟨_,rfl⟩,fun _ _=>.int _⟩
  case fns=>
   exact fun f hf x hx=>by
    have JH:f∈([24,25,26,27,28,29,30,31,32,33,34,35,36,37,38,39,40,41,42,43,44,45,46,47,48,49,50,51,52,53,54,55,56,57,58,59,60,61,62,63,64,65,66]:List Nat):=hf;simp only[k_,P_,or_false] at JH;rcases JH with rfl|rfl|rfl|rfl|rfl|rfl|rfl|rfl|rfl|rfl|rfl|rfl|rfl|rfl|rfl|rfl|rfl|rfl|rfl|rfl|rfl|rfl|rfl|rfl|rfl|rfl|rfl|rfl|rfl|rfl|rfl|rfl|rfl|rfl|rfl|rfl|rfl|rfl|rfl|rfl|rfl|rfl|rfl
    ·cases hx;exact Zc
    ·cases hx;exact Zd
    ·cases hx;exact Ze
    ·cases hx;exact Zf
    ·cases hx;exact Zg
    ·cases hx;exact Zh
    ·cases hx;exact Zi
    ·cases hx;exact Zj
    ·cases hx;exact Zk
    ·cases hx;exact Zl
    ·cases hx;exact Zm
    ·cases hx;exact Zn
    ·cases hx;exact Zo
    ·cases hx;exact Zq
    ·cases hx;exact Zr
    ·cases hx;exact Zs
    ·cases hx;exact Zt
    ·cases hx;exact Zu
    ·cases hx;exact Zv
    ·cases hx;exact Zw
    ·cases hx;exact Zx
    ·cases hx;exact Zy
    ·cases hx;exact Zz
    ·cases hx;exact ZA
    ·cases hx;exact ZC
    ·cases hx;exact ZD
    ·cases hx;exact ZE
    ·cases hx;exact ZF
    ·cases hx;exact ZG
    ·cases hx;exact ZH
    ·cases hx;exact ZI
    ·cases hx;exact ZJ
    ·cases hx;exact ZK
    ·cases hx;exact ZL
    ·cases hx;exact ZM
    ·cases hx;exact ZN
    ·cases hx;exact ZO
    ·cases hx;exact ZP
    ·cases hx;exact ZQ
    ·cases hx;exact ZT
    ·cases hx;exact ZU
    ·cases hx;exact ZV
    ·cases hx;exact dfo We rfl (fun _ _ _ _ _ _=>ln1 fun _=>rfl) X G a66 l66 e66 k66
  case JO=>
   exact fun f hf=>absurd (show f∈([]:List Nat) from hf) (by simp)
  case HG=>
   exact fun f hf=>absurd (show f∈([]:List Nat) from hf) (by simp)
  case M9=>
   exact fun n hn=>absurd (show n∈([]:List Nat) from hn) (by simp)
  case M'=>
   exact fun c n b x hm=>absurd (show (c,n,b)∈([]:List (Str×Nat×Bool)) from hm) (by simp)
  case Na=>
   exact fun c n x hm=>absurd (show (c,n)∈([]:List (Str×Nat)) from hm) (by simp)
  case Nb=>
   exact fun n c hm=>absurd (show (n,c)∈([]:List (Nat×Str)) from hm) (by simp)
 exact⟨PySem.W.fnOf "law" "law" (eM (top 56)) (dB (top 56)) (cE (top 56)) .none Pg Ph Pj Pf MR Pk,fun s v=>.of_eq rfl,fun base _ _=>AX t 16 (by decide) (f:=66) (fn:=Qx) rfl (nc (st:=top 56) l66 e66 k66) (mr We)⟩
end Law
namespace L2
open PySem PySem.Spec PyProof.Rows PySem.SeqAt
namespace Fr
noncomputable def one (c:Nat):Str:=⟨#[c]⟩
noncomputable def FH (cs:List Nat):Str:=⟨cs.toArray⟩
def low (c:Nat):Prop:=97<=c/\c<=122
theorem um:(Ρ "abcdefghijklmnopqrstuvwxyz").cps.toList=List.range' 97 26:=by decide +kernel
theorem pw:(Ρ "abcdefghijklmnopqrstuvwxyz").length=26:=by decide +kernel
theorem jh {i:Int}(h0:0<=i)(h1:i < 26):cH (.str "abcdefghijklmnopqrstuvwxyz") (.int i)=.ok (.str (one (97+i.toNat))):=by
 rw[Ev.OE h0 (by rw[pw];exact h1) (by rw[pw];decide),um];have:(List.range' 97 26).getD i.toNat 0=97+i.toNat:=by rw[aaw,List.getElem?_range' (by omega)];show 97+1*i.toNat=_;omega
 rw[this];rfl
theorem dG (cs:List Nat):(FH cs).length=cs.length:=by unfold FH Str.length;simp
theorem kS (c:Nat):(one c).length=1:=rfl
theorem mQ {cs:List Nat}{j:Int}(h0:0<=j)(h1:j<=cs.length):Txt.slice (FH cs) Φ (Δ j)=FH (cs.take j.toNat):=by
 have:=StrLaws.sliceText_to (x:=FH cs) (j:=j) ⟨h0,by show j<=(cs.toArray.toList.length:Nat);simpa using h1⟩;refine this.trans ?_;show (⟨((cs.toArray.toList.drop 0).take (j - 0).toNat).toArray⟩:Str)=⟨(cs.take j.toNat).toArray⟩
 rw[List.toList_toArray,List.drop_zero,Int.sub_zero]
theorem ji {cs:List Nat}{i:Int}(h0:0<=i)(h1:i<=cs.length):Txt.slice (FH cs) (Δ i) Φ=FH (cs.drop i.toNat):=by
 have:=StrLaws.sliceText_from (x:=FH cs) (i:=i) ⟨h0,by show i<=(cs.toArray.toList.length:Nat);simpa using h1⟩;refine this.trans ?_;show (⟨((cs.toArray.toList.drop i.toNat).take ((cs.toArray.toList.length:Int) - i).toNat).toArray⟩:Str)=⟨(cs.drop i.toNat).toArray⟩
 rw[List.toList_toArray,List.take_of_length_le (by rw[aap];omega)]
theorem wM (a b:List Nat):FH a++FH b=FH (a++b):=by
 show (⟨a.toArray++b.toArray⟩:Str)=⟨(a++b).toArray⟩
 rw[List.append_toArray]
theorem iq (c:Nat):one c=FH [c]:=rfl
theorem fO {a b:List Nat}(h:a.length+b.length<=1000):Hm .add (.str (FH a)) (.str (FH b))=.ok (.str (FH (a++b))):=by rw[Ev.nT,Ev.g8 (by rw[dG,dG];omega),wM];rfl
theorem fP (cs:List Nat):dF (FH cs)=(cs.map one).map .str:=by unfold dF FH one;rw[E_];rfl
theorem D4 {β:Type}{body:D->Ev->Res Fl}(f:β->Nat->β)(st:β->Ev->Prop)(cs:List Nat)(b:β)(τ:Ev)(h:st b τ)(hb:∀ (c:Nat)(b:β)(τ:Ev),c∈cs->st b τ->∃ τ',body (.str (one c)) τ=.ok (.nx τ')/\st (f b c) τ') :
  ∃ τ',forM body ((cs.map one).map .str) τ=.ok (.nx τ')/\st (cs.foldl f b) τ':=by
 have:=Ev.mP (body:=body) f (fun c:Nat=>D.str (one c)) st cs b τ h hb;rw[show (cs.map one).map D.str=cs.map fun c=>D.str (one c) by rw[E_];rfl];exact this
theorem Bj {c:Nat}(h:low c):lU "abcdefghijklmnopqrstuvwxyz" (one c)=Θ:=by
 have:∀ k,k < 26->lU "abcdefghijklmnopqrstuvwxyz" (one (97+k))=Θ:=by decide +kernel
 obtain⟨h1,h2⟩:=h;rw[show c=97+(c - 97) by omega];exact this _ (by omega)
noncomputable def kf (a m:Int)(k:Int)(c:Nat):Int:=(k*a+(c:Nat)) % m
theorem pA (c:Nat):decide ((one c).length=1)=Θ:=rfl
theorem pC (c:Nat):(one c).cps.getD 0 0=c:=rfl
end Fr
end L2
namespace Law
open PySem PySem.Spec L2 L2.Fr PyProof.Rows
theorem gx {n:Nat}{ds:List D}(f:Nat)(fn:Fn)(m k:Nat)(body:List IS)(h:T f=Δ fn)(h0:fn.io=Ξ)(h1:fn.np=m)(h2:fn.G.N.length=k)(h3:fn.body=body)(hl:ds.length=m):aB T (n+1) f ds=E3 (cI (aB T n) body (ds.map Δ++Τ (k - m) Φ)) Ev.ud:=Ev.go h h0 h1 h2 h3 hl
noncomputable def LU (ns:List Int)(k:Int):Int:=if 0 < ns.length then ns.getD (k % (ns.length:Int)).toNat 0 % 2147483647 else 0
noncomputable def dr (ns:List Int)(k m:Int):Int:=(LU ns k*(742938285+9973*k*k)+k*630360016) % 2147483647 / 97 % m
theorem D5 (ns:List Int)(k:Int):0<=LU ns k/\LU ns k < 2147483647:=by
 unfold LU;split
 ·exact⟨Int.emod_nonneg _ (by decide),Int.emod_lt_of_pos _ (by decide)⟩
 ·decide
theorem gK (ns:List Int)(k:Int){m:Int}(h:0 < m):0<=dr ns k m:=Int.emod_nonneg _ (by omega)
theorem gM (ns:List Int)(k:Int){m:Int}(h:0 < m):dr ns k m < m:=Int.emod_lt_of_pos _ h
theorem cY (n:Nat)(ns:List Int)(k m:Int)(h0:0<=k)(h1:k<=2000)(hm:0 < m):aB T (n+1) 43 [.lst Ξ (ns.map .int),.int k,.int m]=.ok (.int (dr ns k m)):=by
 rw[gx 43 Tt 3 5 Tr rfl rfl rfl rfl rfl rfl];unfold Tr;obtain⟨b0,b1⟩:=D5 ns k;unfold dr;have lm:(ns.map D.int).length=ns.length:=j_ _;by_cases h:0 < ns.length
 ·have hd:decide ((0:Int) < (ns.length:Int))=Θ:=I_ (by omega);have c0:=Int.emod_nonneg k (show (ns.length:Int)≠0 by omega);have c1:=Int.emod_lt_of_pos k (show (0:Int) < (ns.length:Int) by omega);have ec:ns.getD (k % (ns.length:Int)).toNat 0 % 2147483647=LU ns k:=by unfold LU;rw[f_ h]
  simp![lm,hd,ec]
 ·have hd:decide ((0:Int) < (ns.length:Int))=Ξ:=Q_ (by omega);have ec:LU ns k=0:=by unfold LU;rw[d_ h]
  rw[ec];simp![lm,hd]
theorem Ht (n:Nat)(ns:List Int)(k m:Int)(h0:0<=k)(h1:k<=2000)(hm:0 < m):∃ r:Int,aB T (n+1) 43 [.lst Ξ (ns.map .int),.int k,.int m]=.ok (.int r)/\0<=r/\r < m:=⟨_,cY n ns k m h0 h1 hm,gK ns k hm,gM ns k hm⟩
def Sl (cs:List Nat):Prop:=1<=cs.length/\cs.length<=12/\∀ c∈cs,low c
noncomputable def HG (cs:List Nat)(m:Int):Int:=((1+cs.foldl (kf 31 10006) 0)*m+cs.foldl (kf 37 10007) 0) % 10007
theorem wN (n:Nat){cs:List Nat}(h:Sl cs):aB T (n+1) 25 [.str (FH cs),.str "abcdefghijklmnopqrstuvwxyz",.int 1,.int 12]=.ok (.bl Θ):=by
 rw[gx 25 S6 4 4 S5 rfl rfl rfl rfl rfl rfl];unfold S5;obtain⟨h1,h2,h3⟩:=h;have e1:cC (cL (aB T n) (.nm 1) [] (.cmp .Kh (.v 1) (.v 0)) [Δ (.str "abcdefghijklmnopqrstuvwxyz"),Φ]) (dF (FH cs))=.ok ((cs.map fun c=>Θ).map .bl):=by rw[fP,E_];refine Ev.dw (fun c:Nat=>D.str (one c)) (fun c=>Θ) .bl _ fun c hc=>?_;have:=Bj (h3 c hc);simp![this]
 have ea:(cs.map fun _=>Θ).all id=Θ:=by rw[List.all_map];simp
 have lc:(dF (FH cs)).length=cs.length:=by rw[fP,j_,j_]
 have d1:decide ((1:Int)<=(cs.length:Int))=Θ:=I_ (by omega);have d2:decide ((cs.length:Int)<=12)=Θ:=I_ (by omega);have sl:=dG cs;simp![d1,d2,e1,ea,lc,sl]
theorem nW (n:Nat){cs:List Nat}(h:Sl cs):aB T (n+2) 26 [.str (FH cs)]=.ok .Fy:=by have e:=wN n h;rw[gx 26 S8 1 1 S7 rfl rfl rfl rfl rfl rfl];unfold S7;simp![e]
noncomputable def uo:List IS:=[(.asg (.nm 3) (.bin .mod (.bin .add (.bin .mul (.v 3) (.v 1)) (.bi .ord [(.v 4)])) (.v 2)))]
theorem uq (n:Nat)(cs:List Nat)(hm:cs.length<=12)(a m:Int)(h0:0 < m)(ha:0<=a)(Nd:a < 18446744073709551616):aB T (n+1) 27 [.str (FH cs),.int a,.int m]=.ok (.int (cs.foldl (kf a m) 0)):=by
 obtain⟨τ',e,s4,rfl⟩:=D4 (body:=Ev.turn (aB T n) (.nm 4) uo) (kf a m) (fun k τ=>∃ s4,τ=[Δ (.str (FH cs)),Δ (.int a),Δ (.int m),Δ (.int k),s4]) cs 0 [Δ (.str (FH cs)),Δ (.int a),Δ (.int m),Δ (.int 0),Φ] ⟨Φ,rfl⟩ (by
  rintro c k τ hc ⟨s4,rfl⟩;refine⟨[Δ (.str (FH cs)),Δ (.int a),Δ (.int m),Δ (.int (kf a m k c)),Δ (.str (one c))],?_,_,rfl⟩;unfold uo kf
  simp![Ev.cq,pA,pC])
 unfold uo at e;rw[gx 27 Ta 3 5 S9 rfl rfl rfl rfl rfl rfl];unfold S9;simp![fP,dG,e]
theorem ur (n:Nat){cs:List Nat}(h:Sl cs):aB T (n+3) 28 [.str (FH cs)]=.ok (.tup [.int (1+cs.foldl (kf 31 10006) 0),.int (cs.foldl (kf 37 10007) 0)]):=by have e1:=nW n h;have e2:=uq (n+1) cs h.2.1 31 10006 (by decide) (by decide) (by decide);have e3:=uq (n+1) cs h.2.1 37 10007 (by decide) (by decide) (by decide);rw[gx 28 Td 1 3 Tc rfl rfl rfl rfl rfl rfl];unfold Tc;simp![e1,e2,e3,Int.reduceSub]
theorem uu (n:Nat){cs:List Nat}(h:Sl cs)(m:Int)(m0:0<=m)(m1:m<=1000000000):aB T (n+4) 29 [.str (FH cs),.int m]=.ok (.int (HG cs m)):=by have e1:=ur n h;rw[gx 29 Tf 2 3 Te rfl rfl rfl rfl rfl rfl];unfold Te;unfold HG;simp![e1]
noncomputable def Pl (p:Int×Int)(c:Nat):Int×Int:=(kf 31 10006 p.1 c,kf 37 10007 p.2 c)
theorem uv:∀ (cs:List Nat) (a b:Int),cs.foldl Pl (a,b)=(cs.foldl (kf 31 10006) a,cs.foldl (kf 37 10007) b)
 | [],a,b=>rfl
 | c::cs,a,b=>by rw[Z_,Z_,Z_];exact uv cs _ _
noncomputable def T5:List IS:=[(.asg (.nm 2) (.bin .mod (.bin .add (.bin .mul (.v 2) (.c (.int 31))) (.bi .ord [(.v 4)])) (.c (.int 10006)))),(.asg (.nm 3) (.bin .mod (.bin .add (.bin .mul (.v 3) (.c (.int 37))) (.bi .ord [(.v 4)])) (.c (.int 10007))))]
theorem ke (n:Nat)(cs:List Nat)(hm:cs.length<=12)(m:Int)(m0:0<=m)(m1:m<=1000000000):aB T (n+1) 46 [.str (FH cs),.int m]=.ok (.int (HG cs m)):=by
 obtain⟨τ',e,s4,rfl⟩:=D4 (body:=Ev.turn (aB T n) (.nm 4) T5) Pl (fun p τ=>∃ s4,τ=[Δ (.str (FH cs)),Δ (.int m),Δ (.int p.1),Δ (.int p.2),s4]) cs (0,0) [Δ (.str (FH cs)),Δ (.int m),Δ (.int 0),Δ (.int 0),Φ] ⟨Φ,rfl⟩ (by
  rintro c ⟨a,b⟩ τ hc ⟨s4,rfl⟩;refine⟨[Δ (.str (FH cs)),Δ (.int m),Δ (.int (Pl (a,b) c).1),Δ (.int (Pl (a,b) c).2),Δ (.str (one c))],?_,_,rfl⟩;unfold T5 Pl kf
  simp![Ev.cq,pA,pC])
 rw[uv] at e;unfold T5 at e;unfold HG;rw[gx 46 Tx 2 5 Tw rfl rfl rfl rfl rfl rfl];unfold Tw;simp![fP,dG,e]
end Law
namespace L2
open PySem PySem.Spec PyProof.Rows PySem.SeqAt
namespace Fr
variable {T:Tb}
mutual
noncomputable def pl:Nat->D->Bool
 | n+1,.tup ds=>HY n ds&&decide (ds.length < 1000)
 | n+1,.lst o ds=>!o&&(HY n ds&&decide (ds.length < 1000))
 | _+1,.FX _ _ _=>Ξ
 | _+1,.exc _=>Ξ
 | 0,_=>Ξ
 | _+1,_=>Θ
noncomputable def HY:Nat->List D->Bool
 | _,[]=>Θ
 | n,d::ds=>pl n d&&HY n ds
end
theorem kT {n:Nat}:∀ {ds:List D},HY n ds=Θ->∀ d∈ds,pl n d=Θ
 | [],_,d,hd=>by simp at hd
 | e::ds,h,d,hd=>by
  have h':=D_.mp (show (pl n e&&HY n ds)=Θ from h);rcases k_.mp hd with rfl|hd
  ·exact h'.1
  ·exact kT h'.2 d hd
theorem uw:∀ (n:Nat) (d:D),pl n d=Θ->er d=d:=by
 intro n
 induction n with
 | zero=>intro d h;cases d<;>cases h
 | succ n ih=>
  have all:∀ ds:List D,HY n ds=Θ->Fx ds=ds:=by
   intro ds
   induction ds with
   | nil=>intro _;rfl
   | cons e ds Ke=>intro h;have h':=D_.mp (show (pl n e&&HY n ds)=Θ from h);show er e::Fx ds=_;rw[ih e h'.1,Ke h'.2]
  intro d h;cases d with
  | tup ds=>have h':=D_.mp (show (HY n ds&&decide (ds.length < 1000))=Θ from h);rw[er,all ds h'.1]
  | lst o ds=>
   have h':=D_.mp (show (!o&&(HY n ds&&decide (ds.length < 1000)))=Θ from h);have h2:=D_.mp h'.2;have ho:o=Ξ:=by simpa using h'.1
   subst ho;rw[er,all ds h2.1]
  | FX _ _ _=>cases h
  | exc _=>cases h
  | _=>rfl
theorem ux {n:Nat}:∀ {ds:List D},HY n ds=Θ->Fx ds=ds
 | [],_=>rfl
 | e::ds,h=>by have h':=D_.mp (show (pl n e&&HY n ds)=Θ from h);show er e::Fx ds=_;rw[uw n e h'.1,ux h'.2]
theorem jj (ds:List D):eE ds ds=ds.map fun a=>.tup [a,a]:=by
 unfold eE
 induction ds with
 | nil=>rfl
 | cons d ds ih=>rw[List.zipWith_cons_cons,ih];rfl
theorem mR:∀ n:Nat,dQ (Τ n (D.bl Θ))=Δ (Τ n Θ)
 | 0=>rfl
 | n+1=>by rw[List.replicate_succ,List.replicate_succ];show (dQ _).map _=_;rw[mR n];rfl
theorem all_true (o:Bool)(n:Nat):eD .all [.lst o (Τ n (D.bl Θ))]=.ok (.bl Θ):=by show (match dQ (Τ n (D.bl Θ)) with|some bs=>.ok (.bl (bs.all id))|none=>FC:Res D)=_;rw[mR];simp
theorem wO {f:Nat}{fn:Fn}(hT:T f=Δ fn)(JU:fn.io=Ξ)(h1:fn.np=2)(h2:fn.G.N.length=2)(h3:fn.body=Ks f):∀ (n k:Nat) (d:D),pl n d=Θ->aB T (n+k) f [d,d]=.ok (.bl Θ):=by
 intro n
 induction n with
 | zero=>intro k d h;cases d<;>cases h
 | succ n ih=>
  intro k d h;have fm:∀ ds:List D,HY n ds=Θ->cC (cL (aB T (n+k)) (.tp [(.nm 0),(.nm 1)]) [] (.call f [(.v 0),(.v 1)]) [Φ,Φ]) (eE ds ds)=.ok (Τ ds.length (D.bl Θ)):=by
   intro ds hp;rw[jj];refine(Ev.dw (fun a:D=>D.tup [a,a]) (fun _=>D.bl Θ) id ds fun x hx=>?_).trans (by rw[List.map_id,List.map_const']);have GI:=kT hp x hx;have hc:=ih k x GI;have he:=uw n x GI;have e2:Fx [x,x]=[x,x]:=by show [er x,er x]=_;rw[he]
   simp![Ev.cq,hc,e2,he,id]
  rw[show n+1+k=(n+k)+1 by omega,Ev.go hT JU h1 h2 h3 rfl];unfold Ks;cases d with
  | Fy=>simp![Fv]
  | bl b=>simp![Fv]
  | int i=>simp![Fv]
  | str x=>simp![Fv]
  | tup ds=>
   have h':=D_.mp (show (HY n ds&&decide (ds.length < 1000))=Θ from h);have hl:ds.length < 1000:=p_ h'.2;have hz:(eE ds ds).length=ds.length:=by rw[jj,j_]
   have e:=fm ds h'.1;have ea:=all_true Θ ds.length;unfold uk;simp![e,ea,hz]
  | lst o ds=>
   have h0:=D_.mp (show (!o&&(HY n ds&&decide (ds.length < 1000)))=Θ from h);have h':=D_.mp h0.2;have hl:ds.length < 1000:=p_ h'.2;have hz:(eE ds ds).length=ds.length:=by rw[jj,j_]
   have e:=fm ds h'.1;have ea:=all_true Θ ds.length;unfold uk;simp![e,ea,hz]
  | FX _ _ _=>cases h
  | exc _=>cases h
theorem Gx:∀ ds:List D,Fx (Fx ds)=Fx ds:=by intro ds;rw[cJ,cJ,E_];exact aad fun d _=>xH d
theorem pD {g:D->Res (Option D)}:∀ (xs:List D),(∀ x∈xs,∃ y,g x=.ok (Δ y)/\er y=er x)->∃ ys,cC g xs=.ok ys/\Fx ys=Fx xs/\ys.length=xs.length
 | [],_=>⟨[],rfl,rfl,rfl⟩
 | x::xs,h=>by obtain⟨y,h1,h2⟩:=h x (by simp);obtain⟨ys,h3,h4,h5⟩:=pD xs fun z hz=>h z (G_ _ hz);refine⟨y::ys,?_,by show er y::Fx ys=er x::Fx xs;rw[h2,h4],by rw[List.length_cons,List.length_cons,h5]⟩;show E3 (g x) _=_;rw[h1];show E3 (cC g xs) _=_;rw[h3];rfl
theorem wQ {f:Nat}{fn:Fn}{x:Str}(hT:T f=Δ fn)(JU:fn.io=Ξ)(h1:fn.np=1)(h2:fn.G.N.length=1)(h3:fn.body=Ku f x):∀ (n k:Nat) (d:D),pl n d=Θ->∃ d',aB T (n+k) f [d]=.ok d'/\er d'=d:=by
 intro n
 induction n with
 | zero=>intro k d h;cases d<;>cases h
 | succ n ih=>
  intro k d h;have fm:∀ ds:List D,HY n ds=Θ->∃ ys,cC (cL (aB T (n+k)) (.nm 0) [] (.call f [(.v 0)]) [Φ]) ds=.ok ys/\Fx ys=ds/\ys.length=ds.length:=by
   intro ds hp;obtain⟨ys,h1,h2,h3⟩:=pD (g:=cL (aB T (n+k)) (.nm 0) [] (.call f [(.v 0)]) [Φ]) ds fun x hx=>by
    have GI:=kT hp x hx;obtain⟨y,hc,hy⟩:=ih k x GI;have he:=uw n x GI;have e2:Fx [x]=[x]:=by show [er x]=_;rw[he]
    refine⟨y,?_,hy.trans he.symm⟩;simp![Ev.cq,hc,e2,he]
   exact⟨ys,h1,h2.trans (ux hp),h3⟩
  rw[show n+1+k=(n+k)+1 by omega,Ev.go hT JU h1 h2 h3 rfl];unfold Ku;cases d with
  | Fy=>exact⟨.Fy,by simp![Fv],rfl⟩
  | bl b=>exact⟨.bl b,by simp![Fv],rfl⟩
  | int i=>exact⟨.int i,by simp![Fv],rfl⟩
  | str z=>exact⟨.str z,by simp![Fv],rfl⟩
  | tup ds=>
   have h':=D_.mp (show (HY n ds&&decide (ds.length < 1000))=Θ from h);have hl:ds.length < 1000:=p_ h'.2;obtain⟨ys,e,hy,ZW⟩:=fm ds h'.1;unfold pq;cases lf:cp ys with
   | true=>refine⟨.tup ys,?_,by rw[er,hy]⟩;simp![e,lf]
   | false=>refine⟨.tup (Fx ys),?_,by rw[er,Gx,hy]⟩;simp![e,lf]
  | lst o ds=>
   have h0:=D_.mp (show (!o&&(HY n ds&&decide (ds.length < 1000)))=Θ from h);have h':=D_.mp h0.2;have ho:o=Ξ:=by simpa using h0.1
   subst ho;have hl:ds.length < 1000:=p_ h'.2;obtain⟨ys,e,hy,ZW⟩:=fm ds h'.1;unfold pq;cases lf:cp ys with
   | true=>refine⟨.lst Θ ys,?_,by rw[er,hy]⟩;simp![e,lf]
   | false=>refine⟨.lst Θ (Fx ys),?_,by rw[er,Gx,hy]⟩;simp![e,lf]
  | FX _ _ _=>cases h
  | exc _=>cases h
end Fr
end L2
namespace Law
open PySem PySem.Spec L2 L2.Fr
theorem same (n k:Nat){d:D}(h:pl n d=Θ):aB T (n+k) 64 [d,d]=.ok (.bl Θ):=wO (fn:=TV) rfl rfl rfl rfl rfl n k d h
theorem copy (n k:Nat){d:D}(h:pl n d=Θ):∃ d',aB T (n+k) 65 [d]=.ok d'/\er d'=d:=wQ (fn:=TX) (x:="_law_part") rfl rfl rfl rfl rfl n k d h
open PyProof.Rows
theorem uy:Ρ "" = FH []:=by decide +kernel
noncomputable def tS:List IS:=[(.asg (.nm 3) (.bin .add (.v 3) (.idx (.v 2) (.call 43 [(.v 0),(.bin .add (.bin .add (.v 1) (.c (.int 2))) (.v 4)),(.c (.int 26))]))))]
theorem wR (n:Nat)(ns:List Int){k:Int}(h0:0<=k)(h1:k<=1900):∃ cs:List Nat,aB T (n+2) 45 [.lst Ξ (ns.map .int),.int k]=.ok (.str (FH cs))/\Sl cs:=by
 obtain⟨r,d0,a0,a1⟩:=Ht n ns k 12 h0 (by omega) (by decide);obtain⟨τ',e,cs,y4,rfl,hl,hx⟩:=Ev.eh (its:=cO 0 r) (τ:=[Δ (.lst Ξ (ns.map .int)),Δ (.int k),Δ (.str "abcdefghijklmnopqrstuvwxyz"),Δ (.str (FH [])),Φ,Φ]) (body:=Ev.turn (aB T (n+1)) (.nm 4) tS)
  (fun i τ=>∃ (cs:List Nat) (x4:Option D),τ=[Δ (.lst Ξ (ns.map .int)),Δ (.int k),Δ (.str "abcdefghijklmnopqrstuvwxyz"),Δ (.str (FH cs)),x4,Φ]/\cs.length=i/\∀ c∈cs,low c)
  ⟨[],Φ,rfl,rfl,fun c hc=>by simp at hc⟩ (by
   rintro i x τ hx ⟨cs,x4,rfl,hl,T6⟩;have hi:i < r.toNat:=by have:=(v_.mp hx).1;rw[dU] at this;omega
   unfold cO at hx;rw[B_,List.getElem?_range (by omega)] at hx;have GI:D.int (0+(i:Nat))=x:=F_ hx;subst GI;obtain⟨q,d1,b0,b1⟩:=Ht n ns (k+2+(0+(i:Int))) 26 (by omega) (by omega) (by decide);refine⟨[Δ (.lst Ξ (ns.map .int)),Δ (.int k),Δ (.str "abcdefghijklmnopqrstuvwxyz"),Δ (.str (FH (cs++[97+q.toNat]))),Δ (.int (0+(i:Nat))),Φ],?_,_,_,rfl,by rw[w_,hl];rfl,fun c hc=>?_⟩
   ·have sa:=fO (a:=cs) (b:=[97+q.toNat]) (by rw[hl,V_];omega);have ab:=jh b0 b1;rw[iq] at ab;unfold tS;simp![Ev.cq,d1,ab,sa]
   ·rcases x_.mp hc with hc|hc
    ·exact T6 c hc
    ·rw[t_.mp hc];constructor<;>omega)
 rw[dU] at hl;obtain⟨t,d1,b0,b1⟩:=Ht n ns (k+1) ((cs.length:Int)+1) (by omega) (by omega) (by omega);obtain⟨q,d2,c0,c1⟩:=Ht n ns (k+14) 26 (by omega) (by omega) (by decide);have ab:=jh c0 c1;rw[iq] at ab;have s1:=mQ (cs:=cs) (j:=t) b0 (by omega);have s2:=ji (cs:=cs) (i:=t) b0 (by omega);have l1:(cs.take t.toNat).length<=12:=by rw[aan];omega
 have l2:(cs.drop t.toNat).length<=12:=by rw[aap];omega
 have p1:=fO (a:=cs.take t.toNat) (b:=[97+q.toNat]) (by rw[V_];omega);have p2:=fO (a:=cs.take t.toNat++[97+q.toNat]) (b:=cs.drop t.toNat) (by rw[w_,V_];omega);refine⟨cs.take t.toNat++[97+q.toNat]++cs.drop t.toNat,?_,?_,?_,fun c hc=>?_⟩
 ·unfold tS at e;have sl:=dG cs;rw[gx 45 Tv 2 6 Tu rfl rfl rfl rfl rfl rfl];unfold Tu;simp![uy,d0,e,sl,d1,d2,ab,s1,s2,p1,p2]
 ·rw[w_,w_,V_];omega
 ·have:(cs.take t.toNat).length+(cs.drop t.toNat).length=cs.length:=by rw[<- w_,List.take_append_drop]
  rw[w_,w_,V_];omega
 ·rcases x_.mp hc with hc|hc
  ·rcases x_.mp hc with hc|hc
   ·exact hx c (List.mem_of_mem_take hc)
   ·rw[t_.mp hc];constructor<;>omega
  ·exact hx c (List.mem_of_mem_drop hc)
theorem uz (n:Nat)(ns:List Int){k:Int}(h0:0<=k)(h1:k<=1900):∃ m:Int,aB T (n+2) 47 [.lst Ξ (ns.map .int),.int k]=.ok (.int m)/\0<=m/\m<=1000000000:=by
 obtain⟨r,d0,a0,a1⟩:=Ht n ns k 6 h0 (by omega) (by decide);obtain⟨s,d1,b0,b1⟩:=Ht n ns (k+1) 31600 (by omega) (by omega) (by decide);obtain⟨t,d2,c0,c1⟩:=Ht n ns (k+2) 31600 (by omega) (by omega) (by decide);have pg:∀ x:Res D,Fw (decide ((0:Int)<=9/\(9:Int)<=1000000/\Int.natAbs 10 < 2 ^ 64)) x=x:=fun _=>rfl;by_cases h:r < 2
 ·have hd:decide (r < 2)=Θ:=I_ h;rcases (show r=0∨r=1 by omega) with rfl|rfl
  ·refine⟨0,?_,by decide,by decide⟩;rw[gx 47 O7 2 3 MK rfl rfl rfl rfl rfl rfl];unfold MK;simp![d0,hd,pg]
  ·refine⟨10 ^ Int.toNat 9,?_,by decide,by decide⟩;rw[gx 47 O7 2 3 MK rfl rfl rfl rfl rfl rfl];unfold MK;simp![d0,hd,pg]
 ·have hd:decide (r < 2)=Ξ:=Q_ h;refine⟨s*31600+t,?_,by omega,by omega⟩;rw[gx 47 O7 2 3 MK rfl rfl rfl rfl rfl rfl];unfold MK;simp![d0,hd,d1,d2]
theorem pE {a b:List Nat}(h:FH a=FH b):a=b:=by have:=congrArg (fun s:Str=>s.cps.toList) h;simpa[FH] using this
theorem pF (c:Nat):∀ (k:Nat) (acc:Array Nat),(Τ k (one c).cps).foldl (fun x1 x2=>x1++x2) acc=acc++(Τ k c).toArray
 | 0,acc=>by simp
 | k+1,acc=>by rw[List.replicate_succ,Z_,pF c k,List.replicate_succ];show acc++#[c]++(Τ k c).toArray=acc++(c::Τ k c).toArray;rw[Array.append_assoc];exact congrArg (acc++·) (List.append_toArray [c] (Τ k c))
theorem kU (c:Nat){j:Int}(h:1<=j):Txt.mul (one c) j=FH (Τ j.toNat c):=by
 unfold Txt.mul;split
 ·omega
 ·split
  ·rename_i h1 h2
   rw[kS] at h2;have:j=1:=by simpa using h2
   rw[this];rfl
  ·unfold FH;rw[pF];simp
noncomputable def tN:List IS:=[(.asg (.nm 5) (.bin .add (.v 5) (.idx (.v 3) (.call 43 [(.v 0),(.bin .add (.bin .add (.v 1) (.c (.int 40))) (.v 6)),(.c (.int 26))]))))]
noncomputable def jc (c:Int):List Int:=(List.range (c - 0).toNat).map fun k=>(0:Int)+((k:Nat):Int)
theorem kg {c x:Int}(h:x∈jc c):0<=x/\x < c:=by obtain⟨k,hk,rfl⟩:=List.mem_map.mp h;have:=Y_.mp hk;omega
theorem y7 {c:Int}{f:Int->Str}(hf:∀ x y,0<=x->x < c->0<=y->y < c->f x=f y->x=y):((jc c).map f).Nodup:=by unfold jc;rw[E_];refine List.pairwise_map.mpr (List.Pairwise.imp_of_mem (fun {a b} ha hb hn he=>hn ?_) List.nodup_range);have a1:=Y_.mp ha;have b1:=Y_.mp hb;have:=hf (0+(a:Int)) (0+(b:Int)) (by omega) (by omega) (by omega) (by omega) he;omega
theorem jk (c:Int):(jc c).length=c.toNat:=by unfold jc;rw[j_,aam];omega
theorem D6:∀ (d:Fin 39),∀ s∈([1,7,25,11]:List Int),(s*((d.val:Int) - 19)) % 26=0->d.val=19:=by decide +kernel
theorem EV {sp st x y:Int}(T7:sp∈([1,7,25,11]:List Int))(x0:0<=x)(x1:x < 20)(y0:0<=y)(y1:y < 20)(h:(st+sp*x) % 26=(st+sp*y) % 26):x=y:=by have h1:=Int.emod_eq_emod_iff_emod_sub_eq_zero.mp h;rw[show st+sp*x - (st+sp*y)=sp*(x - y) by rw[Int.mul_sub];omega] at h1;have h2:=D6 ⟨(x - y+19).toNat,by omega⟩ sp T7 (by rw[show (((⟨(x - y+19).toNat,by omega⟩:Fin 39).val:Nat):Int) - 19=x - y by show (((x - y+19).toNat:Nat):Int) - 19=x - y;omega];exact h1);have h3:(x - y+19).toNat=19:=h2;omega
theorem jl (n:Nat)(ns:List Int){k:Int}(k0:0<=k)(k1:k<=1000){c:Int}(c0':0<=c)(c1':c<=20):∃ fs:List Str,aB T (n+2) 44 [.lst Ξ (ns.map .int),.int k,.int c]=.ok (.lst Θ (fs.map .str))/\fs.length=c.toNat/\fs.Nodup/\∀ f∈fs,f.length<=100:=by
 obtain⟨st,d0,a0,a1⟩:=Ht n ns k 26 k0 (by omega) (by decide);have d1:=cY n ns (k+1) 5 (by omega) (by omega) (by decide);generalize dr ns (k+1) 5=q at *;have ab:=jh a0 a1;have rn:cO 0 c=(jc c).map .int:=Ev.jg 0 c;have ln:((jc c).map D.int).length=c.toNat:=by rw[j_,jk]
 cases hq:(q == 0) with
 | true=>
  have fm:cC (cL (aB T (n+1)) (.nm 2) [] (.bin .mul (.idx (.v 0) (.v 1)) (.bin .add (.c (.int 1)) (.v 2))) [Δ (.str "abcdefghijklmnopqrstuvwxyz"),Δ (.int st),Φ]) ((jc c).map .int)=.ok (((jc c).map fun j=>Txt.mul (one (97+st.toNat)) (1+j)).map .str):=by refine Ev.dw .int (fun j=>Txt.mul (one (97+st.toNat)) (1+j)) .str _ fun j hj=>?_;have:=kg hj;have ol:=kS (97+st.toNat);have gd:decide (-16000<=1+j/\1+j<=16000/\(one (97+st.toNat)).length<=1000)=Θ:=I_ (by rw[ol];omega);simp![ab,gd]
  refine⟨(jc c).map fun j=>Txt.mul (one (97+st.toNat)) (1+j),?_,by rw[j_,jk],y7 fun x y x0 x1 y0 y1 e=>?_,fun f hf=>?_⟩
  ·rw[gx 44 Qs 3 9 O6 rfl rfl rfl rfl rfl rfl];unfold O6;generalize (jc c).map (fun j=>Txt.mul (one (97+st.toNat)) (1+j))=L at *;simp![d0,d1,hq,rn,ln,fm]
  ·rw[kU _ (by omega),kU _ (by omega)] at e;have:=congrArg List.length (pE e);rw[List.length_replicate,List.length_replicate] at this;omega
  ·obtain⟨j,hj,rfl⟩:=List.mem_map.mp hf;have:=kg hj;rw[kU _ (by omega)];rw[dG,List.length_replicate];omega
 | false=>
  obtain⟨r,d2,b0,b1⟩:=Ht n ns (k+2) 8 (by omega) (by omega) (by decide);obtain⟨τ',e,cs,y4,rfl,hl,Lv⟩:=Ev.eh (its:=cO 0 r) (τ:=[Δ (.lst Ξ (ns.map .int)),Δ (.int k),Δ (.int c),Δ (.str "abcdefghijklmnopqrstuvwxyz"),Δ (.int st),Δ (.str (FH [])),Φ,Φ,Φ]) (body:=Ev.turn (aB T (n+1)) (.nm 6) tN)
   (fun i τ=>∃ (cs:List Nat) (x4:Option D),τ=[Δ (.lst Ξ (ns.map .int)),Δ (.int k),Δ (.int c),Δ (.str "abcdefghijklmnopqrstuvwxyz"),Δ (.int st),Δ (.str (FH cs)),x4,Φ,Φ]/\cs.length=i/\∀ c∈cs,low c)
   ⟨[],Φ,rfl,rfl,fun c hc=>by simp at hc⟩ (by
    rintro i x τ hx ⟨cs,x4,rfl,hl,T6⟩;have hi:i < r.toNat:=by have:=(v_.mp hx).1;rw[dU] at this;omega
    unfold cO at hx;rw[B_,List.getElem?_range (by omega)] at hx;have GI:D.int (0+(i:Nat))=x:=F_ hx;subst GI;obtain⟨q,d1,b0,b1⟩:=Ht n ns (k+40+(0+(i:Int))) 26 (by omega) (by omega) (by decide)
    refine⟨[Δ (.lst Ξ (ns.map .int)),Δ (.int k),Δ (.int c),Δ (.str "abcdefghijklmnopqrstuvwxyz"),Δ (.int st),Δ (.str (FH (cs++[97+q.toNat]))),Δ (.int (0+(i:Nat))),Φ,Φ],?_,_,_,rfl,by rw[w_,hl];rfl,fun c hc=>by
     rcases x_.mp hc with hc|hc
     ·exact T6 c hc
     ·rw[t_.mp hc];constructor<;>omega⟩
    have sa:=fO (a:=cs) (b:=[97+q.toNat]) (by rw[hl,V_];omega);have ab:=jh b0 b1;rw[iq] at ab;unfold tN
    simp![Ev.cq,d1,ab,sa])
  rw[dU] at hl;unfold tN at e;obtain⟨t,d3,g0,g1⟩:=Ht n ns (k+3) ((cs.length:Int)+1) (by omega) (by omega) (by omega);obtain⟨u,d4,f0,f1⟩:=Ht n ns (k+1) 4 (by omega) (by omega) (by decide);obtain⟨sp,IQ,T7⟩:∃ sp:Int,(∀ o,cH (.lst o [.int 1,.int 7,.int 25,.int 11]) (.int u)=.ok (.int sp))/\sp∈([1,7,25,11]:List Int):=by
   rcases (show u=0∨u=1∨u=2∨u=3 by omega) with rfl|rfl|rfl|rfl
   ·exact⟨1,fun _=>rfl,by decide⟩
   ·exact⟨7,fun _=>rfl,by decide⟩
   ·exact⟨25,fun _=>rfl,by decide⟩
   ·exact⟨11,fun _=>rfl,by decide⟩
  have s1:=mQ (cs:=cs) (j:=t) g0 (by omega);have s2:=ji (cs:=cs) (i:=t) g0 (by omega);have l1:(cs.take t.toNat).length<=12:=by rw[aan];omega
  have l2:(cs.drop t.toNat).length<=12:=by rw[aap];omega
  have sl:=dG cs;have fm:cC (cL (aB T (n+1)) (.nm 5) [] (.bin .add (.bin .add (.sl (.v 0) Φ (Δ (.v 1))) (.idx (.v 2) (.bin .mod (.bin .add (.v 3) (.bin .mul (.v 4) (.v 5))) (.c (.int 26))))) (.sl (.v 0) (Δ (.v 1)) Φ)) [Δ (.str (FH cs)),Δ (.int t),Δ (.str "abcdefghijklmnopqrstuvwxyz"),Δ (.int st),Δ (.int sp),Φ]) ((jc c).map .int)=.ok (((jc c).map fun j=>FH (cs.take t.toNat++[97+((st+sp*j) % 26).toNat]++cs.drop t.toNat)).map .str):=by refine Ev.dw .int (fun j=>FH (cs.take t.toNat++[97+((st+sp*j) % 26).toNat]++cs.drop t.toNat)) .str _ fun j hj=>?_;have:=kg hj;have c0:=Int.emod_nonneg (st+sp*j) (show (26:Int)≠0 by decide);have c1:=Int.emod_lt_of_pos (st+sp*j) (show (0:Int) < 26 by decide);have ab:=jh c0 c1;rw[iq] at ab;have p1:=fO (a:=cs.take t.toNat) (b:=[97+((st+sp*j) % 26).toNat]) (by rw[V_];omega);have p2:=fO (a:=cs.take t.toNat++[97+((st+sp*j) % 26).toNat]) (b:=cs.drop t.toNat) (by rw[w_,V_];omega);simp![s1,s2,sl,ab,p1,p2]
  refine⟨(jc c).map fun j=>FH (cs.take t.toNat++[97+((st+sp*j) % 26).toNat]++cs.drop t.toNat),?_,by rw[j_,jk],y7 fun x y x0 x1 y0 y1 e=>?_,fun f hf=>?_⟩
  ·rw[gx 44 Qs 3 9 O6 rfl rfl rfl rfl rfl rfl];unfold O6;generalize (jc c).map (fun j=>FH (cs.take t.toNat++[97+((st+sp*j) % 26).toNat]++cs.drop t.toNat))=L at *;simp![uy,d0,d1,hq,d2,e,sl,d3,d4,IQ,rn,ln,fm]
  ·have h1:=List.append_cancel_right (pE e);have h2:=List.append_cancel_left h1;have h3:97+((st+sp*x) % 26).toNat=97+((st+sp*y) % 26).toNat:=List.head_eq_of_cons_eq h2;have n1:=Int.emod_nonneg (st+sp*x) (show (26:Int)≠0 by decide);have n2:=Int.emod_nonneg (st+sp*y) (show (26:Int)≠0 by decide);exact EV (st:=st) T7 x0 (by omega) y0 (by omega) (by omega)
  ·obtain⟨j,hj,rfl⟩:=List.mem_map.mp hf;have c0:=Int.emod_nonneg (st+sp*j) (show (26:Int)≠0 by decide);have c1:=Int.emod_lt_of_pos (st+sp*j) (show (0:Int) < 26 by decide);rw[dG,w_,w_,V_];omega
theorem g9 {g:D->Res (Option D)}{x y:D}{xs ys:List D}(h:g x=.ok (Δ y))(k:cC g xs=.ok ys):cC g (x::xs)=.ok (y::ys):=by show E3 (g x) _=_;rw[h];show E3 (cC g xs) _=_;rw[k];rfl
inductive Tn where
 | i (n:Int)|s (x:Str)
noncomputable def Tn.d:Tn->D
 | .i n=>.int n
 | .s x=>.str x
theorem nX:(Ρ "abcdefghijklmnopqrstuvwxyz0123456789").length=36:=by decide +kernel
theorem fQ (x:Str)(lo hi:Option Int):(Txt.slice x lo hi).length<=x.length:=by
 have:=indices_len_le lo hi x.length;unfold Txt.slice;split
 ·exact n_ _
 ·refine M_ ?_ this;show (List.filterMap _ _).toArray.size<=_;rw[A_];exact List.length_filterMap_le ..
theorem pG (x y:Str):(x++y).length=x.length+y.length:=by show (x.cps++y.cps).size=_;rw[Array.size_append];rfl
theorem Bl {z:Str}{i:Int}(h0:0<=i)(h1:i < z.length)(hz:z.length<=1000):∃ y:Str,cH (.str z) (.int i)=.ok (.str y)/\y.length=1:=⟨_,Ev.OE h0 h1 (by omega),rfl⟩
theorem ir (n:Nat)(ns:List Int){k:Int}(h0:0<=k)(h1:k<=1900){st:Str}(hs:st.length<=100):∃ x:Str,aB T (n+2) 50 [.lst Ξ (ns.map .int),.int k,.str st]=.ok (.str x)/\x.length<=101:=by
 have d1:=cY n ns k 9 h0 (by omega) (by decide);have d2:=cY n ns (k+1) 3 (by omega) (by omega) (by decide);have d3:=cY n ns (k+2) 36 (by omega) (by omega) (by decide);have b3:=gK ns (k+2) (m:=36) (by decide);have c3:=gM ns (k+2) (m:=36) (by decide);obtain⟨y,hy,ly⟩:=Bl (z:=Ρ "abcdefghijklmnopqrstuvwxyz0123456789") (i:=dr ns (k+2) 36) b3 (by rw[nX];exact c3) (by rw[nX];decide);have l1:=fQ st Φ (Δ (dr ns k 9));have l2:=fQ (Txt.slice st Φ (Δ (dr ns k 9))) Φ (Δ (-1));obtain⟨a,ha⟩:∃ a,Txt.slice st Φ (Δ (dr ns k 9))=a:=⟨_,rfl⟩
 rw[ha] at l1 l2;obtain⟨b,hb⟩:∃ b,Txt.slice a Φ (Δ (-1))=b:=⟨_,rfl⟩
 rw[hb] at l2;have ab:=pG b y;cases q1:(a == Ρ "") with
 | true=>refine⟨a,?_,by omega⟩;rw[gx 50 O' 3 4 MM rfl rfl rfl rfl rfl rfl];unfold MM;simp![d1,q1,ha]
 | false=>
  cases q2:(dr ns (k+1) 3 == 0) with
  | true=>refine⟨b++y,?_,by omega⟩;rw[gx 50 O' 3 4 MM rfl rfl rfl rfl rfl rfl];unfold MM;simp![d1,d2,d3,q1,q2,hy,ha,hb]
  | false=>refine⟨a,?_,by omega⟩;rw[gx 50 O' 3 4 MM rfl rfl rfl rfl rfl rfl];unfold MM;simp![d1,d2,q1,q2,ha]
theorem hG (n:Nat)(ns:List Int){k:Int}(h0:0<=k)(h1:k<=1900)(c:Int):∃ x:Int,aB T (n+2) 52 [.lst Ξ (ns.map .int),.int k,.int c]=.ok (.int x):=by
 obtain⟨r,d1,b1,c1⟩:=Ht n ns k 8 h0 (by omega) (by decide);by_cases h:r < 5
 ·have hd:decide (r < 5)=Θ:=I_ h;refine⟨c+r - 2,?_⟩;rw[gx 52 Qu 3 4 Pc rfl rfl rfl rfl rfl rfl];unfold Pc;simp![d1,hd]
 ·have hd:decide (r < 5)=Ξ:=Q_ h;have hx:cH (.lst Θ [.int 999999999,.int (0 - 999999999),.int 0]) (.int (r - 5))=.ok (.int ([999999999,0 - 999999999,0].getD (r - 5).toNat 0)):=Ev.Nl (o:=Θ) (xs:=[999999999,0 - 999999999,0]) (by omega) (by show r - 5 < 3;omega);refine⟨([999999999,0 - 999999999,0]:List Int).getD (r - 5).toNat 0,?_⟩;rw[gx 52 Qu 3 4 Pc rfl rfl rfl rfl rfl rfl];unfold Pc;simp![d1,hd,hx]
theorem uA (n:Nat)(ns:List Int){k:Int}(h0:0<=k)(h1:k<=1800){st:Str}(hs:st.length<=100)(c:Int):∃ t:Tn,aB T (n+3) 53 [.lst Ξ (ns.map .int),.int k,.str st,.int c]=.ok t.d:=by
 have d1:=cY (n+1) ns k 2 h0 (by omega) (by decide);obtain⟨x,ex⟩:=hG n ns (k:=k+1) (by omega) (by omega) c;obtain⟨y,ey,_⟩:=ir n ns (k:=k+2) (by omega) (by omega) hs;cases q:(dr ns k 2 == 0) with
 | true=>refine⟨.i x,?_⟩;unfold Tn.d;rw[gx 53 Qv 4 4 Pd rfl rfl rfl rfl rfl rfl];unfold Pd;simp![d1,q,ex]
 | false=>refine⟨.s y,?_⟩;unfold Tn.d;rw[gx 53 Qv 4 4 Pd rfl rfl rfl rfl rfl rfl];unfold Pd;simp![d1,q,ey]
theorem kh:∀ (cs:List Nat) (acc:Array Nat),(cs.map one).foldl (fun acc p=>acc++(Ρ "").cps++p.cps) acc=acc++cs.toArray
 | [],acc=>by simp
 | c::cs,acc=>by
  have e:(Ρ "").cps = #[]:=by decide +kernel
  rw[b_,Z_,kh cs,e];show acc++#[]++#[c]++cs.toArray=_;simp
theorem join_one (cs:List Nat):Txt.join "" (cs.map one)=FH cs:=by
 show (⟨((cs.map one).drop 1).foldl (fun acc p=>acc++(Ρ "").cps++p.cps) ((cs.map one).headD Str.empty).cps⟩:Str)=_;cases cs with
 | nil=>rfl
 | cons c cs=>rw[b_,List.drop_succ_cons,List.drop_zero,List.headD_cons,kh];unfold FH one;simp
theorem wU (cs:List Nat):((cs.map one).map (fun y:Str=>y.length)).sum=cs.length:=by
 induction cs with
 | nil=>rfl
 | cons c cs ih=>rw[b_,b_,List.sum_cons,ih,List.length_cons,kS];omega
theorem pH {o:Bool}{cs:List Nat}(h:cs.length<=1000):iL .join (.str "") [.lst o ((cs.map one).map .str)]=.ok (.str (FH cs)):=by
 have e:(Ρ "").length=0:=by decide +kernel
 rw[Ev.wK (by rw[wU,j_,e];omega),join_one]
theorem qu (n:Nat)(ns:List Int){k:Int}(h0:0<=k)(h1:k<=1900):∃ c:Int,aB T (n+2) 51 [.lst Ξ (ns.map .int),.int k]=.ok (.int c):=by
 have d1:=cY n ns k 20000 h0 (by omega) (by decide);have d2:=cY n ns (k+1) 100000 (by omega) (by omega) (by decide);have b1:=gK ns k (m:=20000) (by decide);have c1:=gM ns k (m:=20000) (by decide);have hp:Hm .pow (.int 10) (.int 9)=.ok (.int 1000000000):=by kernel_rfl
 generalize dr ns k 20000=a,dr ns (k+1) 100000=b at *;refine⟨if 999999990 < (if 0 - 999999990 > a*100000+b - 1000000000 then 0 - 999999990 else a*100000+b - 1000000000) then 999999990 else (if 0 - 999999990 > a*100000+b - 1000000000 then 0 - 999999990 else a*100000+b - 1000000000),?_⟩;rw[gx 51 TC 2 3 TB rfl rfl rfl rfl rfl rfl];unfold TB;simp![d1,d2,hp]
theorem mS {g:D->Res (Option D)}:∀ (its:List D),(∀ x∈its,∃ y:Nat,g x=.ok (Δ (.str (one y))))->∃ ys:List Nat,cC g its=.ok ((ys.map one).map .str)/\ys.length=its.length
 | [],_=>⟨[],rfl,rfl⟩
 | x::its,h=>by obtain⟨y,hy⟩:=h x (by simp);obtain⟨ys,e,hl⟩:=mS its fun z hz=>h z (G_ _ hz);exact⟨y::ys,g9 hy e,by rw[List.length_cons,List.length_cons,hl]⟩
theorem hJ {g:D->Res (Option D)}:∀ (its:List D),(∀ x∈its,∃ y:Str,g x=.ok (Δ (.str y)))->∃ ys:List Str,cC g its=.ok (ys.map .str)/\ys.length=its.length
 | [],_=>⟨[],rfl,rfl⟩
 | x::its,h=>by obtain⟨y,hy⟩:=h x (by simp);obtain⟨ys,e,hl⟩:=hJ its fun z hz=>h z (G_ _ hz);exact⟨y::ys,g9 hy e,by rw[List.length_cons,List.length_cons,hl]⟩
theorem kW {a:Int}{x:D}(h:x∈cO 0 a):∃ j:Int,x=.int j/\0<=j/\j < a:=by unfold cO at h;obtain⟨k,hk,rfl⟩:=List.mem_map.mp h;rw[Y_] at hk;exact⟨0+(k:Int),rfl,by omega,by omega⟩
theorem pI (n:Nat)(ns:List Int){k:Int}(h0:0<=k)(h1:k<=1900){z:Str}(z0:0 < z.length)(z1:z.length<=100) :
  ∃ ys:List Nat,cC (cL (aB T (n+1)) (.nm 3) [] (.idx (.v 0) (.call 43 [(.v 1),(.bin .add (.bin .add (.v 2) (.c (.int 2))) (.v 3)),(.bi .len [(.v 0)])])) [Δ (.str z),Δ (.lst Ξ (ns.map .int)),Δ (.int k),Φ]) (cO 0 12)=.ok ((ys.map one).map .str)/\ys.length=12:=by
 obtain⟨ys,e,hl⟩:=mS (g:=cL (aB T (n+1)) (.nm 3) [] (.idx (.v 0) (.call 43 [(.v 1),(.bin .add (.bin .add (.v 2) (.c (.int 2))) (.v 3)),(.bi .len [(.v 0)])])) [Δ (.str z),Δ (.lst Ξ (ns.map .int)),Δ (.int k),Φ]) (cO 0 12) (by
  intro x hx;obtain⟨j,rfl,j0,j1⟩:=kW hx;have d:=cY n ns (k+2+j) (z.length:Int) (by omega) (by omega) (by omega);have b:=gK ns (k+2+j) (m:=(z.length:Int)) (by omega);have c:=gM ns (k+2+j) (m:=(z.length:Int)) (by omega);have hy:=Ev.OE (z:=z) b c (by omega);refine⟨z.cps.toList.getD (dr ns (k+2+j) (z.length:Int)).toNat 0,?_⟩;unfold one
  simp![Ev.cq,d,hy])
 exact⟨ys,e,hl.trans (by rw[dU];rfl)⟩
noncomputable def sg:Str:=Ρ "abcdefghijklmnopqrstuvwxyz0123456789"
theorem Bm:∀ d:Fin 34,0 < (Txt.slice (Txt.slice sg (Δ ((d:Nat):Int)) Φ) Φ (Δ 2)).length:=by decide +kernel
theorem iw:sg.length=36:=nX
theorem wV (n:Nat)(ns:List Int){k:Int}(h0:0<=k)(h1:k<=1800):∃ x:Str,aB T (n+2) 49 [.lst Ξ (ns.map .int),.int k]=.ok (.str x)/\x.length<=100:=by
 have d1:=cY n ns k 2 h0 (by omega) (by decide);have d2:=cY n ns (k+1) 34 (by omega) (by omega) (by decide);have b2:=gK ns (k+1) (m:=34) (by decide);have c2:=gM ns (k+1) (m:=34) (by decide);have lr:(cO 0 12).length=12:=by rw[dU];rfl
 cases q:(dr ns k 2 == 0) with
 | false=>obtain⟨ys,e,hl⟩:=pI n ns h0 (by omega) (z:=sg) (by rw[iw];decide) (by rw[iw];decide);have je:=pH (o:=Θ) (cs:=ys) (by omega);refine⟨FH ys,?_,by rw[dG];omega⟩;unfold sg at e;rw[gx 49 Qt 2 4 O9 rfl rfl rfl rfl rfl rfl];unfold O9;simp![d1,q,e,je,lr]
 | true=>obtain⟨j,hj⟩:=Int.eq_ofNat_of_zero_le b2;have hz:=Bm ⟨j,by omega⟩;have l1:=fQ sg (Δ ((j:Nat):Int)) Φ;have l2:=fQ (Txt.slice sg (Δ ((j:Nat):Int)) Φ) Φ (Δ 2);rw[iw] at l1;have ZX:0 < (Txt.slice (Txt.slice sg (Δ ((j:Nat):Int)) Φ) Φ (Δ 2)).length:=hz;obtain⟨ys,e,hl⟩:=pI n ns h0 (by omega) (z:=Txt.slice (Txt.slice sg (Δ ((j:Nat):Int)) Φ) Φ (Δ 2)) ZX (by omega);have je:=pH (o:=Θ) (cs:=ys) (by omega);refine⟨FH ys,?_,by rw[dG];omega⟩;rw[hj] at d2;have sl:=iw;unfold sg at e l1 l2 sl;rw[gx 49 Qt 2 4 O9 rfl rfl rfl rfl rfl rfl];unfold O9;simp![d1,d2,q,e,je,sl,lr]
structure Cn where
 m:Str
 w:Str
 ts:List Tn
noncomputable def Cn.d (c:Cn):D:=.tup [.str c.m,.str c.w,.lst Ξ (c.ts.map Tn.d)]
noncomputable def Wg:Tn->Tn->Bool
 | .i a,.i b=>a == b
 | .s a,.s b=>a == b
 | _,_=>Ξ
noncomputable def mD:Option Tn->D
 | none=>.Fy
 | some t=>t.d
noncomputable def MT (x:Option Tn)(ts:List Tn):Bool:=match x with
 | none=>Ξ
 | some t=>ts.any fun u=>Wg u t
theorem EW (u:Tn)(x:Option Tn):GB 40 u.d (mD x)=.ok (match x with|none=>Ξ|some t=>Wg u t):=by
 rcases x with _|t
 ·cases u<;>rfl
 ·cases u<;>cases t<;>rfl
theorem uB (x:Option Tn):∀ ts:List Tn,GV (mD x) (ts.map Tn.d)=.ok (MT x ts)
 | []=>by cases x<;>rfl
 | u::ts=>by show E3 (GB 40 u.d (mD x)) (fun a=>E3 (GV (mD x) (ts.map Tn.d)) fun b=>.ok (a||b))=_;rw[EW,uB x ts];cases x<;>rfl
theorem D7 (o:Bool)(x:Option Tn)(ts:List Tn):GQ .Kh (mD x) (.lst o (ts.map Tn.d))=.ok (MT x ts):=by
 have:=uB x ts;rcases x with _|t
 ·exact this
 ·cases t<;>exact this
theorem D8 (o:Bool)(x:Option Tn)(ts:List Tn):GQ .LF (mD x) (.lst o (ts.map Tn.d))=.ok (!MT x ts):=by
 have:=uB x ts;have e:GQ .LF (mD x) (.lst o (ts.map Tn.d))=E3 (GV (mD x) (ts.map Tn.d)) fun r=>.ok !r:=by
  rcases x with _|t
  ·rfl
  ·cases t<;>rfl
 rw[e,this];rfl
theorem EX (x:Option Tn):GQ .K7 (mD x) .Fy=.ok (!x.isSome):=by rcases x with _|t;rfl;cases t<;>rfl
theorem y9 (x:Option Tn):GQ .IW (mD x) .Fy=.ok x.isSome:=by rcases x with _|t;rfl;cases t<;>rfl
noncomputable def LV (y:Str):Tn->Bool
 | .s z=>Txt.startswith y z
 | _=>Ξ
noncomputable def D9 (x:Option Tn)(ts:List Tn):Bool:=match x with
 | some (.s y)=>ts.any (LV y)
 | _=>Ξ
noncomputable def leB (x:Option Tn)(ts:List Tn):Bool:=match x,ts with
 | some (.i a),.i b::_=>decide (b<=a)
 | _,_=>Ξ
noncomputable def Pm (x:Option Tn)(ts:List Tn):Bool:=match x,ts with
 | some (.i a),.i b::_=>decide (a<=b)
 | _,_=>Ξ
noncomputable def fy (w:Str)(ts:List Tn)(x:Option Tn):Bool:=
 if (w == Ρ "is")=Θ then MT x ts else if (w == Ρ "not")=Θ then !MT x ts else if (w == Ρ "begins")=Θ then D9 x ts
 else if (w == Ρ "least")=Θ then leB x ts else if (w == Ρ "most")=Θ then Pm x ts else if (w == Ρ "has")=Θ then x.isSome else !x.isSome
structure Wf (c:Cn):Prop where
 len:c.ts.length<=100
 Wh:(c.w == Ρ "begins")=Θ->∀ t∈c.ts,∃ z,t=.s z
 lm:(c.w == Ρ "least")=Θ∨(c.w == Ρ "most")=Θ->∃ z r,c.ts=.i z::r
theorem uC (n:Nat)(x:Option Tn):aB T (n+1) 24 [mD x]=.ok (.bl (match x with|some (.i _)=>Θ|_=>Ξ)):=by
 rcases x with _|t
 ·show aB T (n+1) 24 [.Fy]=.ok (.bl Ξ);rw[gx 24 OR 1 1 MI rfl rfl rfl rfl rfl rfl];unfold MI;simp![Fv]
 ·cases t with
  | i a=>show aB T (n+1) 24 [.int a]=.ok (.bl Θ);rw[gx 24 OR 1 1 MI rfl rfl rfl rfl rfl rfl];unfold MI;simp![Fv]
  | s a=>show aB T (n+1) 24 [.str a]=.ok (.bl Ξ);rw[gx 24 OR 1 1 MI rfl rfl rfl rfl rfl rfl];unfold MI;simp![Fv]
theorem Ea (x:Option Tn):er (mD x)=mD x:=by rcases x with _|t;rfl;cases t<;>rfl
theorem uD (ts:List Tn):cp (ts.map Tn.d)=Θ:=by rw[dt,List.all_map];exact U_.mpr fun t _=>by cases t<;>rfl
theorem uE (ts:List Tn):Fx (ts.map Tn.d)=ts.map Tn.d:=eC (uD ts)
theorem nY (cl:Nat->List D->Res D)(y:Str):∀ ts:List Tn,(∀ t∈ts,∃ z,t=.s z)->cC (cL cl (.nm 1) [] (.Jx .starts (.v 0) [(.v 1)]) [Δ (.str y),Φ]) (ts.map Tn.d)=.ok ((ts.map (LV y)).map .bl)
 | [],_=>rfl
 | t::ts,h=>by obtain⟨z,rfl⟩:=h _ (.head _);refine g9 ?_ (nY cl y ts fun u hu=>h u (.tail _ hu));show cL cl (.nm 1) [] (.Jx .starts (.v 0) [(.v 1)]) [Δ (.str y),Φ] (.str z)=.ok (Δ (.bl (Txt.startswith y z)));simp![Ev.cq]
theorem uF (y:Str)(ts:List Tn):(ts.map (LV y)).any id=ts.any (LV y):=by rw[List.any_map];rfl
theorem fY {cl:Nat->List D->Res D}{c:IR}{s:IS}{r:List IS}{τ:Ev}{b B1 B2:Bool}(hc:E8 cl c τ=.ok (.bl b))(he:b=Θ->Gv cl s τ=.ok (.rt (.bl B1)))(hr:b=Ξ->cI cl r τ=.ok (.rt (.bl B2))):cI cl (.FO c [s] []::r) τ=.ok (.rt (.bl (if b=Θ then B1 else B2))):=by
 cases b with
 | true=>have he:=he rfl;rw[f_ rfl];simp![hc,he]
 | false=>have hr:=hr rfl;rw[d_ o_];simp![hc,hr]
theorem sk {cl:Nat->List D->Res D}{c:IR}{a r:List IS}{τ:Ev}(h:E8 cl c τ=.ok (.bl Ξ)):cI cl (.FO c a []::r) τ=cI cl r τ:=by simp![h]
theorem Lk {cl:Nat->List D->Res D}{c:IR}{a r:List IS}{τ τ':Ev}(h:E8 cl c τ=.ok (.bl Θ))(e:cI cl a τ=.ok (.nx τ')):cI cl (.FO c a []::r) τ=cI cl r τ':=by simp![h,e]
theorem mT {cl:Nat->List D->Res D}{s:IS}{τ F:Ev}(h:Gv cl s τ=.ok (.nx F)):cI cl [s] τ=.ok (.nx F):=by simp![h]
theorem pJ {cl:Nat->List D->Res D}{i j:Nat}{τ:Ev}{x:Option Tn}{ts:List Tn}(hx:cu τ i=Δ (mD x))(hy:cu τ j=Δ (.lst Ξ (ts.map Tn.d)))(h:∃ z r,ts=.i z::r) :
  (x.bind (fun t=>match t with|.i a=>Δ a|_=>Φ)).isSome=Θ->E8 cl (.cmp .ge (.v i) (.idx (.v j) (.c (.int 0)))) τ=.ok (.bl (leB x ts))/\E8 cl (.cmp .le (.v i) (.idx (.v j) (.c (.int 0)))) τ=.ok (.bl (Pm x ts)):=by
 intro hs;obtain⟨z,r,rfl⟩:=h;have i0:cH (.lst Ξ ((Tn.i z::r).map Tn.d)) (.int 0)=.ok (.int z):=by rw[Ev.Qc,Ev.kR .Fy (by decide) (by rw[b_,List.length_cons];omega)];rfl
 rcases x with _|(a|a)
 ·cases hs
 ·have hx:cu τ i=Δ (.int a):=hx;generalize (Tn.i z::r).map Tn.d=TS at *;constructor
  ·show _=Except.ok (D.bl (decide (z<=a)));simp![hx,hy,i0]
  ·show _=Except.ok (D.bl (decide (a<=z)));simp![hx,hy,i0]
 ·cases hs
theorem nZ (n:Nat)(c:Cn)(wf:Wf c)(x:Option Tn):aB T (n+2) 33 [.str c.w,.lst Ξ (c.ts.map Tn.d),mD x]=.ok (.bl (fy c.w c.ts x)):=by
 obtain⟨cm,w,ts⟩:=c;have wl:ts.length<=100:=wf.len;show aB T (n+2) 33 [.str w,.lst Ξ (ts.map Tn.d),mD x]=.ok (.bl (fy w ts x));have e1:=D7 Ξ x ts;have e2:=D8 Ξ x ts;have e3:=EX x;have e4:=y9 x;have ex:=Ea x;have wh:=uC n x;have H:cI (aB T (n+1)) OW [Δ (.str w),Δ (.lst Ξ (ts.map Tn.d)),Δ (mD x)]=.ok (.rt (.bl (fy w ts x))):=by
  unfold OW fy;refine fY rfl (fun _=>?_) fun _=>fY rfl (fun _=>?_) fun _=>fY rfl (fun q=>?_) fun _=>fY rfl (fun q=>?_) fun _=>fY rfl (fun q=>?_) fun _=>fY rfl (fun _=>?_) fun _=>?_
  ·rcases x with _|t
   ·rfl
   ·generalize mD (Δ t)=X,ts.map Tn.d=TS at *;simp![e4,e1,Option.isSome_some]
  ·rcases x with _|t
   ·rfl
   ·generalize mD (Δ t)=X,ts.map Tn.d=TS at *;simp![e3,e2,Option.isSome_some]
  ·rcases x with _|(a|a)
   ·rfl
   ·rfl
   ·show _=Except.ok (Fl.rt (D.bl (ts.any (LV a))));have f:=nY (aB T (n+1)) a ts (wf.Wh q);have ai:=uF a ts;have lt:(ts.map Tn.d).length=ts.length:=j_ _;show Gv _ _ [Δ (.str w),Δ (.lst Ξ (ts.map Tn.d)),Δ (.str a)]=_;generalize ts.map Tn.d=TS,ts.map (LV a)=BS at *;simp![f,ai,lt]
  ·rcases x with _|(a|a)
   ·have wh:aB T (n+1) 24 [.Fy]=.ok (.bl Ξ):=wh;show Gv _ _ [Δ (.str w),Δ (.lst Ξ (ts.map Tn.d)),Δ .Fy]=Except.ok (Fl.rt (D.bl Ξ));generalize ts.map Tn.d=TS at *;simp![wh]
   ·have wh:aB T (n+1) 24 [.int a]=.ok (.bl Θ):=wh;have l:=(pJ (cl:=aB T (n+1)) (i:=2) (j:=1) (τ:=[Δ (.str w),Δ (.lst Ξ (ts.map Tn.d)),Δ (.int a)]) (x:=Δ (.i a)) rfl rfl (wf.lm (.inl q)) rfl).1;show Gv _ _ [Δ (.str w),Δ (.lst Ξ (ts.map Tn.d)),Δ (.int a)]=_;generalize leB (Δ (.i a)) ts=L,ts.map Tn.d=TS,IR.cmp .ge (.v 2) (.idx (.v 1) (.c (.int 0)))=K at *;simp![wh,l]
   ·have wh:aB T (n+1) 24 [.str a]=.ok (.bl Ξ):=wh;show Gv _ _ [Δ (.str w),Δ (.lst Ξ (ts.map Tn.d)),Δ (.str a)]=Except.ok (Fl.rt (D.bl Ξ));generalize ts.map Tn.d=TS at *;simp![wh]
  ·rcases x with _|(a|a)
   ·have wh:aB T (n+1) 24 [.Fy]=.ok (.bl Ξ):=wh;show Gv _ _ [Δ (.str w),Δ (.lst Ξ (ts.map Tn.d)),Δ .Fy]=Except.ok (Fl.rt (D.bl Ξ));generalize ts.map Tn.d=TS at *;simp![wh]
   ·have wh:aB T (n+1) 24 [.int a]=.ok (.bl Θ):=wh;have l:=(pJ (cl:=aB T (n+1)) (i:=2) (j:=1) (τ:=[Δ (.str w),Δ (.lst Ξ (ts.map Tn.d)),Δ (.int a)]) (x:=Δ (.i a)) rfl rfl (wf.lm (.inr q)) rfl).2;show Gv _ _ [Δ (.str w),Δ (.lst Ξ (ts.map Tn.d)),Δ (.int a)]=_;generalize Pm (Δ (.i a)) ts=L,ts.map Tn.d=TS,IR.cmp .le (.v 2) (.idx (.v 1) (.c (.int 0)))=K at *;simp![wh,l]
   ·have wh:aB T (n+1) 24 [.str a]=.ok (.bl Ξ):=wh;show Gv _ _ [Δ (.str w),Δ (.lst Ξ (ts.map Tn.d)),Δ (.str a)]=Except.ok (Fl.rt (D.bl Ξ));generalize ts.map Tn.d=TS at *;simp![wh]
  ·generalize mD x=X,ts.map Tn.d=TS at *;simp![e4]
  ·generalize mD x=X,ts.map Tn.d=TS at *;simp![e3]
 rw[gx 33 Th 3 3 OW rfl rfl rfl rfl rfl rfl];generalize fy w ts x=HB,mD x=X,ts.map Tn.d=TS,OW=bb at *;simp![H]
noncomputable def Gs (p:Str×Tn):D:=.tup [.str p.1,p.2.d]
noncomputable def gb (ms:List (Str×Tn))(x:Str):Option Tn:=(ms.find? fun p=>p.1 == x).map (·.2)
theorem uG (t:Tn):er t.d=t.d:=by cases t<;>rfl
theorem Eb (t:Tn):cA t.d=Θ:=by cases t<;>rfl
theorem jm (ms:List (Str×Tn)):Fx (ms.map Gs)=ms.map Gs:=by rw[cJ,E_];exact aad fun p _=>by show D.tup [.str p.1,er p.2.d]=_;rw[uG];rfl
noncomputable def tK:List IS:=[(.FO (.cmp .eq (.v 2) (.v 1)) [(.ret (.v 3))] [])]
theorem uH (cl:Nat->List D->Res D)(x:Str)(a:Option D):∀ (ms:List (Str×Tn)) (b c:Option D),
  (∀ t,gb ms x=Δ t->forM (Ev.turn cl (.tp [(.nm 2),(.nm 3)]) tK) (ms.map Gs) [a,Δ (.str x),b,c]=.ok (.rt t.d))/\
  (gb ms x=Φ->∃ b' c',forM (Ev.turn cl (.tp [(.nm 2),(.nm 3)]) tK) (ms.map Gs) [a,Δ (.str x),b,c]=.ok (.nx [a,Δ (.str x),b',c']))
 | [],b,c=>⟨fun t h=>(by cases h),fun _=>⟨b,c,rfl⟩⟩
 | p::ms,b,c=>by
  have et:Ev.turn cl (.tp [(.nm 2),(.nm 3)]) tK (Gs p) [a,Δ (.str x),b,c]=if (p.1 == x)=Θ then .ok (.rt p.2.d) else .ok (.nx [a,Δ (.str x),Δ (.str p.1),Δ p.2.d]):=by unfold tK Gs;generalize p.2.d=E;cases h:(p.1 == x)<;>simp![Ev.cq,h]
  rw[b_,Ev.dW,et];unfold gb;rw[List.find?_cons];cases h:(p.1 == x) with
  | true=>exact⟨fun t z=>(by cases z;rfl),fun z=>(by cases z)⟩
  | false=>exact uH cl x a ms (Δ (.str p.1)) (Δ p.2.d)
theorem wW (n:Nat)(ms:List (Str×Tn))(x:Str):aB T (n+1) 32 [.lst Ξ (ms.map Gs),.str x]=.ok (mD (gb ms x)):=by
 have h:=uH (aB T n) x (Δ (.lst Ξ (ms.map Gs))) ms Φ Φ;have em:=jm ms;unfold tK at h;cases hm:gb ms x with
 | some t=>have e:=h.1 t hm;show _=Except.ok t.d;rw[gx 32 Qn 2 4 OV rfl rfl rfl rfl rfl rfl];unfold OV;generalize ms.map Gs=MS,t.d=TD at *;simp![em,e]
 | none=>obtain⟨b,c,e⟩:=h.2 hm;show _=Except.ok D.Fy;rw[gx 32 Qn 2 4 OV rfl rfl rfl rfl rfl rfl];unfold OV;generalize ms.map Gs=MS at *;simp![em,e]
theorem fZ (c:Cn):er c.d=c.d:=by show D.tup [.str c.m,.str c.w,.lst Ξ (Fx (c.ts.map Tn.d))]=_;rw[uE];rfl
noncomputable def Gg (r:List Cn):D:=.lst Ξ (r.map Cn.d)
theorem uI (r:List Cn):Fx (r.map Cn.d)=r.map Cn.d:=by rw[cJ,E_];exact aad fun c _=>fZ c
theorem mU (r:List Cn):er (Gg r)=Gg r:=by show D.lst Ξ (Fx (r.map Cn.d))=_;rw[uI];rfl
theorem jn (rs:List (List Cn)):Fx (rs.map Gg)=rs.map Gg:=by rw[cJ,E_];exact aad fun c _=>mU c
structure Gp where
 nm:Str
 rows:List (List Cn)
noncomputable def Gp.d (g:Gp):D:=.tup [.str g.nm,.lst Ξ (g.rows.map Gg)]
theorem Ec (g:Gp):er g.d=g.d:=by show D.tup [.str g.nm,.lst Ξ (Fx (g.rows.map Gg))]=_;rw[jn];rfl
theorem jo (gs:List Gp):Fx (gs.map Gp.d)=gs.map Gp.d:=by rw[cJ,E_];exact aad fun c _=>Ec c
noncomputable def IY (w:Str):Bool:=(w == Ρ "in")||(w == Ρ "out")
theorem uJ (n:Nat){c:Cn}(wf:Wf c)(hi:IY c.w=Ξ){g:D}(hg:er g=g)(ms:List (Str×Tn)):aB T (n+3) 34 [g,c.d,.lst Ξ (ms.map Gs)]=.ok (.bl (fy c.w c.ts (gb ms c.m))):=by have e1:=wW (n+1) ms c.m;have e2:=nZ n c wf (gb ms c.m);have ex:=Ea (gb ms c.m);have em:=jm ms;have et:=uE c.ts;obtain⟨cm,w,ts⟩:=c;have hi:((w == Ρ "in")||(w == Ρ "out"))=Ξ:=hi;rw[Bool.or_eq_false_iff] at hi;obtain⟨q1,q2⟩:=hi;show aB T (n+3) 34 [g,.tup [.str cm,.str w,.lst Ξ (ts.map Tn.d)],.lst Ξ (ms.map Gs)]=_;generalize gb ms cm=O at *;generalize fy w ts O=B,mD O=X,ms.map Gs=MS,ts.map Tn.d=TS at *;rw[gx 34 OX 3 5 MJ rfl rfl rfl rfl rfl rfl];unfold MJ;simp![q1,q2,hg,em,et,ex,e1,e2]
noncomputable def tC:List IS:=[(.FO (.GA (.call 34 [(.v 0),(.v 3),(.v 2)])) [(.ret (.c (.bl Ξ)))] [])]
theorem uK (n:Nat){g m:D}(hg:er g=g)(hm:er m=m)(p:Cn->Bool)(a:Option D):∀ (cs:List Cn) (b:Option D),(∀ c∈cs,aB T n 34 [g,c.d,m]=.ok (.bl (p c)))->
  (cs.all p=Θ->∃ b',forM (Ev.turn (aB T n) (.nm 3) tC) (cs.map Cn.d) [Δ g,a,Δ m,b]=.ok (.nx [Δ g,a,Δ m,b']))/\
  (cs.all p=Ξ->forM (Ev.turn (aB T n) (.nm 3) tC) (cs.map Cn.d) [Δ g,a,Δ m,b]=.ok (.rt (.bl Ξ)))
 | [],b,_=>⟨fun _=>⟨b,rfl⟩,fun h=>(by cases h)⟩
 | c::cs,b,h=>by
  have e:=h c (.head _);have ec:=fZ c;have et:Ev.turn (aB T n) (.nm 3) tC c.d [Δ g,a,Δ m,b]=if p c=Θ then .ok (.nx [Δ g,a,Δ m,Δ c.d]) else .ok (.rt (.bl Ξ)):=by unfold tC;generalize c.d=CD at *;cases hp:p c<;>rw[hp] at e<;>simp![Ev.cq,hg,hm,ec,e]
  rw[b_,Ev.dW,et,List.all_cons];cases hp:p c with
  | true=>exact uK n hg hm p a cs (Δ c.d) fun d hd=>h d (.tail _ hd)
  | false=>exact⟨fun h=>(by cases h),fun _=>rfl⟩
theorem pK (n:Nat){g m:D}(hg:er g=g)(hm:er m=m)(p:Cn->Bool)(cs:List Cn)(h:∀ c∈cs,aB T n 34 [g,c.d,m]=.ok (.bl (p c))):aB T (n+1) 35 [g,Gg cs,m]=.ok (.bl (cs.all p)):=by
 have l:=uK n hg hm p (Δ (Gg cs)) cs Φ h;have ec:=uI cs;unfold Gg at l ⊢;cases ha:cs.all p with
 | true=>obtain⟨b,e⟩:=l.1 ha;unfold tC at e;rw[gx 35 Qo 3 4 OY rfl rfl rfl rfl rfl rfl];unfold OY;generalize cs.map Cn.d=CS at *;simp![ec,e]
 | false=>have e:=l.2 ha;unfold tC at e;rw[gx 35 Qo 3 4 OY rfl rfl rfl rfl rfl rfl];unfold OY;generalize cs.map Cn.d=CS at *;simp![ec,e]
noncomputable def tR:List IS:=[(.FO (.call 35 [(.v 0),(.v 3),(.v 2)]) [(.ret (.c (.bl Θ)))] [])]
theorem uL (n:Nat){g m:D}(hg:er g=g)(hm:er m=m)(p:Cn->Bool)(a:Option D):∀ (rs:List (List Cn)) (b:Option D),(∀ r∈rs,aB T n 35 [g,Gg r,m]=.ok (.bl (r.all p)))->
  (rs.any (·.all p)=Ξ->∃ b',forM (Ev.turn (aB T n) (.nm 3) tR) (rs.map Gg) [Δ g,a,Δ m,b]=.ok (.nx [Δ g,a,Δ m,b']))/\
  (rs.any (·.all p)=Θ->forM (Ev.turn (aB T n) (.nm 3) tR) (rs.map Gg) [Δ g,a,Δ m,b]=.ok (.rt (.bl Θ)))
 | [],b,_=>⟨fun _=>⟨b,rfl⟩,fun h=>(by cases h)⟩
 | r::rs,b,h=>by
  have e:=h r (.head _);have ec:=mU r;have et:Ev.turn (aB T n) (.nm 3) tR (Gg r) [Δ g,a,Δ m,b]=if r.all p=Θ then .ok (.rt (.bl Θ)) else .ok (.nx [Δ g,a,Δ m,Δ (Gg r)]):=by unfold tR;generalize Gg r=CD at *;cases hp:r.all p<;>rw[hp] at e<;>simp![Ev.cq,hg,hm,ec,e]
  rw[b_,Ev.dW,et,List.any_cons];cases hp:r.all p with
  | false=>exact uL n hg hm p a rs (Δ (Gg r)) fun d hd=>h d (.tail _ hd)
  | true=>exact⟨fun h=>(by cases h),fun _=>rfl⟩
theorem Bn (n:Nat){g m:D}(hg:er g=g)(hm:er m=m)(p:Cn->Bool)(rs:List (List Cn))(h:∀ r∈rs,aB T n 35 [g,Gg r,m]=.ok (.bl (r.all p))):aB T (n+1) 36 [g,.lst Ξ (rs.map Gg),m]=.ok (.bl (rs.any (·.all p))):=by
 have l:=uL n hg hm p (Δ (.lst Ξ (rs.map Gg))) rs Φ h;have ec:=jn rs;cases ha:rs.any (·.all p) with
 | false=>obtain⟨b,e⟩:=l.1 ha;unfold tR at e;rw[gx 36 Qp 3 4 OZ rfl rfl rfl rfl rfl rfl];unfold OZ;generalize rs.map Gg=CS at *;simp![ec,e]
 | true=>have e:=l.2 ha;unfold tR at e;rw[gx 36 Qp 3 4 OZ rfl rfl rfl rfl rfl rfl];unfold OZ;generalize rs.map Gg=CS at *;simp![ec,e]
noncomputable def gc (p:Cn->Bool)(gs:List Gp)(x:Str):Bool:=match gs.find? fun g=>g.nm == x with
 | some g=>g.rows.any (·.all p)
 | none=>Ξ
noncomputable def tG:List IS:=[(.FO (.cmp .eq (.v 3) (.v 1)) [(.ret (.call 36 [(.v 0),(.v 4),(.v 2)]))] [])]
theorem uM (n:Nat){G m:D}(hg:er G=G)(hm:er m=m)(p:Cn->Bool)(x:Str):∀ (gs:List Gp) (b c:Option D),(∀ g∈gs,aB T n 36 [G,.lst Ξ (g.rows.map Gg),m]=.ok (.bl (g.rows.any (·.all p))))->
  (∀ g,gs.find? (fun g=>g.nm == x)=Δ g->forM (Ev.turn (aB T n) (.tp [(.nm 3),(.nm 4)]) tG) (gs.map Gp.d) [Δ G,Δ (.str x),Δ m,b,c]=.ok (.rt (.bl (g.rows.any (·.all p)))))/\
  (gs.find? (fun g=>g.nm == x)=Φ->∃ b' c',forM (Ev.turn (aB T n) (.tp [(.nm 3),(.nm 4)]) tG) (gs.map Gp.d) [Δ G,Δ (.str x),Δ m,b,c]=.ok (.nx [Δ G,Δ (.str x),Δ m,b',c']))
 | [],b,c,_=>⟨fun g h=>(by cases h),fun _=>⟨b,c,rfl⟩⟩
 | g::gs,b,c,h=>by
  have e:=h g (.head _);have ec:=jn g.rows;have et:Ev.turn (aB T n) (.tp [(.nm 3),(.nm 4)]) tG g.d [Δ G,Δ (.str x),Δ m,b,c]=if (g.nm == x)=Θ then .ok (.rt (.bl (g.rows.any (·.all p)))) else .ok (.nx [Δ G,Δ (.str x),Δ m,Δ (.str g.nm),Δ (.lst Ξ (g.rows.map Gg))]):=by unfold tG Gp.d;generalize g.rows.map Gg=CD at *;cases hp:(g.nm == x)<;>simp![Ev.cq,hg,hm,ec,e,hp]
  rw[b_,Ev.dW,et,List.find?_cons];cases hp:(g.nm == x) with
  | true=>exact⟨fun q z=>(by cases z;rfl),fun z=>(by cases z)⟩
  | false=>exact uM n hg hm p x gs _ _ fun d hd=>h d (.tail _ hd)
theorem wX (n:Nat){m:D}(hm:er m=m)(p:Cn->Bool)(x:Str)(gs:List Gp)(h:∀ g∈gs,aB T n 36 [.lst Ξ (gs.map Gp.d),.lst Ξ (g.rows.map Gg),m]=.ok (.bl (g.rows.any (·.all p)))):aB T (n+1) 37 [.lst Ξ (gs.map Gp.d),.str x,m]=.ok (.bl (gc p gs x)):=by
 have hg:er (.lst Ξ (gs.map Gp.d))=.lst Ξ (gs.map Gp.d):=by show D.lst Ξ (Fx _)=_;rw[jo]
 have l:=uM n hg hm p x gs Φ Φ h;have ec:=jo gs;unfold gc;cases ha:gs.find? (fun g=>g.nm == x) with
 | some g=>have e:=l.1 g ha;unfold tG at e;show _=Except.ok (D.bl (g.rows.any (·.all p)));rw[gx 37 Qq 3 5 O0 rfl rfl rfl rfl rfl rfl];unfold O0;generalize gs.map Gp.d=CS at *;simp![ec,e]
 | none=>obtain⟨b,c,e⟩:=l.2 ha;unfold tG at e;show _=Except.ok (D.bl Ξ);rw[gx 37 Qq 3 5 O0 rfl rfl rfl rfl rfl rfl];unfold O0;generalize gs.map Gp.d=CS at *;simp![ec,e]
noncomputable def pB (ms:List (Str×Tn))(c:Cn):Bool:=fy c.w c.ts (gb ms c.m)
noncomputable def dA (gs:List Gp)(ms:List (Str×Tn))(c:Cn):Bool:=if (c.w == Ρ "in")=Θ then gc (pB ms) gs c.m else if (c.w == Ρ "out")=Θ then !gc (pB ms) gs c.m else pB ms c
def Nq (gs:List Gp):Prop:=∀ g∈gs,∀ r∈g.rows,∀ c∈r,Wf c/\IY c.w=Ξ
noncomputable def FW (gs:List Gp):D:=.lst Ξ (gs.map Gp.d)
noncomputable def Gi (ms:List (Str×Tn)):D:=.lst Ξ (ms.map Gs)
theorem dY (gs:List Gp):er (FW gs)=FW gs:=by show D.lst Ξ (Fx _)=_;rw[jo];rfl
theorem dZ (ms:List (Str×Tn)):er (Gi ms)=Gi ms:=by show D.lst Ξ (Fx _)=_;rw[jm];rfl
theorem uN (n:Nat){gs:List Gp}(hg:Nq gs)(ms:List (Str×Tn))(x:Str):aB T (n+6) 37 [FW gs,.str x,Gi ms]=.ok (.bl (gc (pB ms) gs x)):=
 wX (n+5) (dZ ms) (pB ms) x gs fun g Kx=>Bn (n+4) (dY gs) (dZ ms) (pB ms) g.rows fun r hr=>pK (n+3) (dY gs) (dZ ms) (pB ms) r fun c hc=>uJ n (hg g Kx r hr c hc).1 (hg g Kx r hr c hc).2 (dY gs) ms
theorem wY (n:Nat){gs:List Gp}(hg:Nq gs)(ms:List (Str×Tn)){c:Cn}(wf:Wf c):aB T (n+7) 34 [FW gs,c.d,Gi ms]=.ok (.bl (dA gs ms c)):=by
 cases hi:IY c.w with
 | false=>have:=uJ (n+4) wf hi (dY gs) ms;have h2:=Bool.or_eq_false_iff.mp (show ((c.w == Ρ "in")||(c.w == Ρ "out"))=Ξ from hi);unfold dA;rw[d_ (by rw[h2.1];exact o_),d_ (by rw[h2.2];exact o_)];exact this
 | true=>
  have e:=uN n hg ms c.m;have eg:=dY gs;have em:=dZ ms;unfold dA;obtain⟨cm,w,ts⟩:=c;show aB T (n+7) 34 [FW gs,.tup [.str cm,.str w,.lst Ξ (ts.map Tn.d)],Gi ms]=.ok (.bl (if (w == Ρ "in")=Θ then gc (pB ms) gs cm else if (w == Ρ "out")=Θ then !gc (pB ms) gs cm else pB ms ⟨cm,w,ts⟩));have e:aB T (n+6) 37 [FW gs,.str cm,Gi ms]=.ok (.bl (gc (pB ms) gs cm)):=e;generalize gc (pB ms) gs cm=B,FW gs=GD,Gi ms=MD,ts.map Tn.d=TS at *;cases q1:(w == Ρ "in") with
  | true=>rw[f_ rfl];rw[gx 34 OX 3 5 MJ rfl rfl rfl rfl rfl rfl];unfold MJ;simp![q1,eg,em,e]
  | false=>
   have q2:(w == Ρ "out")=Θ:=by have hi:((w == Ρ "in")||(w == Ρ "out"))=Θ:=hi;rw[q1] at hi;exact hi
   rw[d_ o_,q2,f_ rfl];rw[gx 34 OX 3 5 MJ rfl rfl rfl rfl rfl rfl];unfold MJ;simp![q1,q2,eg,em,e]
theorem uO (n:Nat){gs:List Gp}(hg:Nq gs)(ms:List (Str×Tn)){cs:List Cn}(wf:∀ c∈cs,Wf c):aB T (n+8) 35 [FW gs,Gg cs,Gi ms]=.ok (.bl (cs.all (dA gs ms))):=
 pK (n+7) (dY gs) (dZ ms) (dA gs ms) cs fun c hc=>wY n hg ms (wf c hc)
noncomputable def FF (p:Int×Int):D:=.tup [.int p.1,.int p.2]
theorem dn (l:List (Int×Int)):Fx (l.map FF)=l.map FF:=by rw[cJ,E_];rfl
noncomputable def Qy (day:Int)(s:Int)(p:Int×Int):Int:=if decide (p.1<=day)=Θ then p.2 else s
noncomputable def shr (st:List (Int×Int))(day:Int):Int:=st.foldl (Qy day) 0
noncomputable def Qz:List IS:=[(.FO (.cmp .le (.v 3) (.v 1)) [(.asg (.nm 2) (.v 4))] [])]
theorem uP (cl:Nat->List D->Res D)(a:Option D)(day:Int):∀ (st:List (Int×Int)) (s:Int) (b c:Option D),∃ b' c',forM (Ev.turn cl (.tp [(.nm 3),(.nm 4)]) Qz) (st.map FF) [a,Δ (.int day),Δ (.int s),b,c]=.ok (.nx [a,Δ (.int day),Δ (.int (st.foldl (Qy day) s)),b',c'])
 | [],s,b,c=>⟨b,c,rfl⟩
 | p::st,s,b,c=>by
  have et:Ev.turn cl (.tp [(.nm 3),(.nm 4)]) Qz (FF p) [a,Δ (.int day),Δ (.int s),b,c]=.ok (.nx [a,Δ (.int day),Δ (.int (Qy day s p)),Δ (.int p.1),Δ (.int p.2)]):=by unfold Qz FF Qy;cases h:decide (p.1<=day)<;>simp![Ev.cq,h]
  rw[b_,Ev.dW,et,Z_];exact uP cl a day st _ _ _
theorem pL {f:Nat}{fn:Fn}(hT:T f=Δ fn)(JU:fn.io=Ξ)(h1:fn.np=2)(h2:fn.G.N.length=5)(h3:fn.body=Qk)(n:Nat)(st:List (Int×Int))(day:Int):aB T (n+1) f [.lst Ξ (st.map FF),.int day]=.ok (.int (shr st day)):=by obtain⟨b,c,e⟩:=uP (aB T n) (Δ (.lst Ξ (st.map FF))) day st 0 Φ Φ;have ep:=dn st;unfold Qz at e;rw[Ev.go hT JU h1 h2 h3 rfl];unfold Qk shr;generalize st.map FF=ST at *;simp![ep,e]
theorem uQ (n:Nat)(st:List (Int×Int))(day:Int):aB T (n+1) 38 [.lst Ξ (st.map FF),.int day]=.ok (.int (shr st day)):=pL (fn:=Ti) rfl rfl rfl rfl rfl n st day
theorem qv (n:Nat)(st:List (Int×Int))(day:Int):aB T (n+1) 61 [.lst Ξ (st.map FF),.int day]=.ok (.int (shr st day)):=pL (fn:=TU) rfl rfl rfl rfl rfl n st day
noncomputable def MU (z:Int)(p:Int×Int):Bool:=decide (p.1<=z)&&decide (z < p.2)
noncomputable def inR (z:Int)(run:List (Int×Int)):Bool:=run.any (MU z)
noncomputable def tI:List IS:=[(.FO (.chain .le .lt (.v 3) (.v 1) (.v 4)) [(.ret (.bin .sub (.bin .add (.v 2) (.v 1)) (.v 3)))] []),(.asg (.nm 2) (.bin .sub (.bin .add (.v 2) (.v 4)) (.v 3)))]
theorem uR (cl:Nat->List D->Res D)(a:Option D)(z:Int):∀ (run:List (Int×Int)) (s:Int) (b c:Option D),
  (inR z run=Θ->∃ i:Int,forM (Ev.turn cl (.tp [(.nm 3),(.nm 4)]) tI) (run.map FF) [a,Δ (.int z),Δ (.int s),b,c]=.ok (.rt (.int i)))/\
  (inR z run=Ξ->∃ s' b' c',forM (Ev.turn cl (.tp [(.nm 3),(.nm 4)]) tI) (run.map FF) [a,Δ (.int z),Δ (.int s),b,c]=.ok (.nx [a,Δ (.int z),s',b',c']))
 | [],s,b,c=>⟨fun h=>(by cases h),fun _=>⟨_,b,c,rfl⟩⟩
 | p::run,s,b,c=>by
  have et:Ev.turn cl (.tp [(.nm 3),(.nm 4)]) tI (FF p) [a,Δ (.int z),Δ (.int s),b,c]=if MU z p=Θ then .ok (.rt (.int (s+z - p.1))) else .ok (.nx [a,Δ (.int z),Δ (.int (s+p.2 - p.1)),Δ (.int p.1),Δ (.int p.2)]):=by unfold tI FF MU;cases h:decide (p.1<=z)<;>cases h':decide (z < p.2)<;>simp![Ev.cq,h,h',Bool.and_true,Bool.and_false,Bool.true_and,Bool.false_and]
  rw[b_,Ev.dW,et];unfold inR;rw[List.any_cons];cases h:MU z p with
  | true=>exact⟨fun _=>⟨_,rfl⟩,fun z=>(by cases z)⟩
  | false=>exact uR cl a z run _ _ _
theorem Bo (n:Nat)(run:List (Int×Int))(z:Int):∃ d,aB T (n+1) 30 [.lst Ξ (run.map FF),.int z]=.ok d/\GQ .IW d .Fy=.ok (inR z run):=by
 have l:=uR (aB T n) (Δ (.lst Ξ (run.map FF))) z run 0 Φ Φ;have ep:=dn run;cases h:inR z run with
 | true=>obtain⟨i,e⟩:=l.1 h;unfold tI at e;refine⟨.int i,?_,rfl⟩;rw[gx 30 Ql 2 5 OS rfl rfl rfl rfl rfl rfl];unfold OS;generalize run.map FF=ST at *;simp![ep,e]
 | false=>obtain⟨s,b,c,e⟩:=l.2 h;unfold tI at e;refine⟨.Fy,?_,rfl⟩;rw[gx 30 Ql 2 5 OS rfl rfl rfl rfl rfl rfl];unfold OS;generalize run.map FF=ST at *;simp![ep,e]
abbrev Al:=List (Str×List (Int×Int))
noncomputable def GX (p:Str×List (Int×Int)):D:=.tup [.str p.1,.lst Ξ (p.2.map FF)]
noncomputable def Ge (al:Al)(fr:List (Int×Int)):D:=.tup [.lst Ξ (al.map GX),.lst Ξ (fr.map FF)]
theorem Ed (p:Str×List (Int×Int)):er (GX p)=GX p:=by show D.tup [.str p.1,.lst Ξ (Fx (p.2.map FF))]=_;rw[dn];rfl
theorem kX (al:Al):Fx (al.map GX)=al.map GX:=by rw[cJ,E_];exact aad fun p _=>Ed p
theorem ki (al:Al)(fr:List (Int×Int)):er (Ge al fr)=Ge al fr:=by show D.tup [.lst Ξ (Fx (al.map GX)),.lst Ξ (Fx (fr.map FF))]=_;rw[kX,dn];rfl
noncomputable def Jn (al:Al)(z:Int):Option Str:=(al.find? fun p=>inR z p.2).map (·.1)
noncomputable def oD:Option Str->D
 | some x=>.str x
 | none=>.Fy
noncomputable def tF:List IS:=[(.FO (.cmp .IW (.call 30 [(.v 3),(.v 1)]) (.c .Fy)) [(.ret (.v 2))] [])]
theorem uS (n:Nat)(a:Option D)(z:Int):∀ (al:Al) (b c:Option D),
  (∀ x,Jn al z=Δ x->forM (Ev.turn (aB T (n+1)) (.tp [(.nm 2),(.nm 3)]) tF) (al.map GX) [a,Δ (.int z),b,c]=.ok (.rt (.str x)))/\
  (Jn al z=Φ->∃ b' c',forM (Ev.turn (aB T (n+1)) (.tp [(.nm 2),(.nm 3)]) tF) (al.map GX) [a,Δ (.int z),b,c]=.ok (.nx [a,Δ (.int z),b',c']))
 | [],b,c=>⟨fun x h=>(by cases h),fun _=>⟨b,c,rfl⟩⟩
 | p::al,b,c=>by
  obtain⟨d,e1,e2⟩:=Bo n p.2 z;have ep:=dn p.2;have et:Ev.turn (aB T (n+1)) (.tp [(.nm 2),(.nm 3)]) tF (GX p) [a,Δ (.int z),b,c]=if inR z p.2=Θ then .ok (.rt (.str p.1)) else .ok (.nx [a,Δ (.int z),Δ (.str p.1),Δ (.lst Ξ (p.2.map FF))]):=by unfold tF GX;generalize p.2.map FF=PD at *;cases h:inR z p.2<;>rw[h] at e2<;>simp![Ev.cq,ep,e1,e2]
  rw[b_,Ev.dW,et];unfold Jn;rw[List.find?_cons];cases h:inR z p.2 with
  | true=>exact⟨fun x z=>(by cases z;rfl),fun z=>(by cases z)⟩
  | false=>exact uS n a z al _ _
theorem wZ (n:Nat)(al:Al)(fr:List (Int×Int))(z:Int):aB T (n+2) 31 [Ge al fr,.int z]=.ok (oD (Jn al z)):=by
 have l:=uS n (Δ (Ge al fr)) z al Φ Φ;have x0:cH (Ge al fr) (.int 0)=.ok (.lst Ξ (al.map GX)):=rfl;have ea:=ki al fr;have ef:=kX al;unfold tF at l;cases h:Jn al z with
 | some x=>have e:=l.1 x h;show _=Except.ok (D.str x);rw[gx 31 Qm 2 4 OU rfl rfl rfl rfl rfl rfl];unfold OU;generalize Ge al fr=AD,al.map GX=FD at *;simp![x0,ea,ef,e]
 | none=>obtain⟨b,c,e⟩:=l.2 h;show _=Except.ok D.Fy;rw[gx 31 Qm 2 4 OU rfl rfl rfl rfl rfl rfl];unfold OU;generalize Ge al fr=AD,al.map GX=FD at *;simp![x0,ea,ef,e]
inductive Oc where
 | face (f:Str)|share (f:Str) (st:List (Int×Int))|MV
noncomputable def Oc.d:Oc->D
 | .face f=>.tup [.str "face",.str f]
 | .share f st=>.tup [.str "share",.str f,.lst Ξ (st.map FF)]
 | .MV=>.tup [.str "lot"]
theorem uT (o:Oc):er o.d=o.d:=by
 cases o with
 | share f st=>show D.tup [.str "share",.str f,.lst Ξ (Fx (st.map FF))]=_;rw[dn];rfl
 | _=>rfl
noncomputable def Pn (al:Al)(day z:Int):Oc->Option Str
 | .face f=>Δ f
 | .share f st=>if decide (z < shr st day)=Θ then Δ f else Φ
 | .MV=>Jn al z
theorem QA:(Ρ "share" == Ρ "face")=Ξ:=by decide +kernel
theorem T8:(Ρ "lot" == Ρ "face")=Ξ:=by decide +kernel
theorem T9:(Ρ "lot" == Ρ "share")=Ξ:=by decide +kernel
theorem outcome (n:Nat)(o:Oc)(al:Al)(fr:List (Int×Int))(day z:Int):aB T (n+3) 39 [o.d,Ge al fr,.int day,.int z]=.ok (oD (Pn al day z o)):=by
 have e1:=wZ n al fr z;have ea:=ki al fr;cases o with
 | face f=>show aB T (n+3) 39 [.tup [.str "face",.str f],Ge al fr,.int day,.int z]=.ok (.str f);generalize Ge al fr=AD at *;rw[gx 39 Np 4 4 Lj rfl rfl rfl rfl rfl rfl];unfold Lj;simp![Fv]
 | share f st=>
  have e2:=uQ (n+1) st day;have ep:=dn st;show aB T (n+3) 39 [.tup [.str "share",.str f,.lst Ξ (st.map FF)],Ge al fr,.int day,.int z]=.ok (oD (if decide (z < shr st day)=Θ then Δ f else Φ));generalize Ge al fr=AD,st.map FF=PD at *;cases h:decide (z < shr st day) with
  | true=>rw[f_ rfl];show _=Except.ok (D.str f);rw[gx 39 Np 4 4 Lj rfl rfl rfl rfl rfl rfl];unfold Lj;simp![QA,ep,e2,h]
  | false=>rw[d_ o_];show _=Except.ok D.Fy;rw[gx 39 Np 4 4 Lj rfl rfl rfl rfl rfl rfl];unfold Lj;simp![QA,ep,e2,h]
 | MV=>
  show aB T (n+3) 39 [.tup [.str "lot"],Ge al fr,.int day,.int z]=.ok (oD (Jn al z));have lo:cA (oD (Jn al z))=Θ:=by cases Jn al z<;>rfl
  generalize Ge al fr=AD,oD (Jn al z)=OD at *;rw[gx 39 Np 4 4 Lj rfl rfl rfl rfl rfl rfl];unfold Lj;simp![T8,T9,ea,e1,lo]
structure Rl where
 cs:List Cn
 o:Oc
noncomputable def Rl.d (r:Rl):D:=.tup [Gg r.cs,r.o.d]
theorem za (r:Rl):er r.d=r.d:=by show D.tup [er (Gg r.cs),er r.o.d]=_;rw[mU,uT];rfl
theorem n0 (rs:List Rl):Fx (rs.map Rl.d)=rs.map Rl.d:=by rw[cJ,E_];exact aad fun r _=>za r
noncomputable def idx (rs:List Rl):List (Nat×Rl):=(List.range rs.length).zip rs
noncomputable def inD (q:Nat×Rl):D:=.tup [.int (q.1:Nat),q.2.d]
theorem uU (rs:List Rl):iM (rs.map Rl.d)=(idx rs).map inD:=by unfold iM idx;rw[j_,List.zipWith_map_right,List.zip,List.map_zipWith];rfl
theorem n6 {rs:List Rl}{q:Nat×Rl}(h:q∈idx rs):rs[q.1]? = Δ q.2/\q.2∈rs/\q.1 < rs.length:=by obtain⟨k,hk⟩:=aaA.mp h;obtain⟨h1,h2⟩:=List.getElem?_zip_eq_some.mp hk;obtain⟨h3,h4⟩:=v_.mp h1;rw[List.getElem_range] at h4;rw[<- h4];exact⟨h2,aag h2,by rw[aam] at h3;exact h3⟩
noncomputable def F5 (salt rest:Str)(rs:List Rl)(al:Al)(fr:List (Int×Int)):D:=.tup [.str salt,.str rest,.lst Ξ (rs.map Rl.d),Ge al fr]
theorem kY (salt rest:Str)(rs:List Rl)(al:Al)(fr:List (Int×Int)):er (F5 salt rest rs al fr)=F5 salt rest rs al fr:=by show D.tup [.str salt,.str rest,.lst Ξ (Fx (rs.map Rl.d)),er (Ge al fr)]=_;rw[n0,ki];rfl
theorem uV {α:Type}{g:D->Res (Option D)}(JI:α->D)(p:α->Bool)(out:α->D):∀ xs:List α,(∀ x∈xs,g (JI x)=.ok (if p x=Θ then Δ (out x) else Φ))->cC g (xs.map JI)=.ok ((xs.filter p).map out)
 | [],_=>rfl
 | x::xs,h=>by
  have ih:=uV JI p out xs fun y hy=>h y (G_ _ hy);rw[b_,List.filter_cons];show E3 (g (JI x)) _=_;rw[h x (.head _)];cases p x with
  | true=>show E3 (cC _ _) _=_;rw[ih];rfl
  | false=>exact ih
noncomputable def IL (q:Nat×Rl):D:=.int (q.1:Nat)
theorem w8 (n:Nat){gs:List Gp}(hg:Nq gs)(ms:List (Str×Tn))(salt rest:Str){rs:List Rl}(al:Al)(fr:List (Int×Int))(wf:∀ r∈rs,∀ c∈r.cs,Wf c)(hl:rs.length<=100) :
  aB T (n+9) 40 [FW gs,F5 salt rest rs al fr,Gi ms]=.ok (.lst Θ (((idx rs).filter fun q=>q.2.cs.all (dA gs ms)).map IL)):=by
 have x2:cH (F5 salt rest rs al fr) (.int 2)=.ok (.lst Ξ (rs.map Rl.d)):=rfl;have en:=uU rs;have eg:=dY gs;have em:=dZ ms;have fm:cC (cL (aB T (n+8)) (.tp [(.nm 2),(.nm 3)]) [(.call 35 [(.v 0),(.idx (.v 3) (.c (.int 0))),(.v 1)])] (.v 2) [Δ (FW gs),Δ (Gi ms),Φ,Φ]) ((idx rs).map inD)=.ok (((idx rs).filter fun q=>q.2.cs.all (dA gs ms)).map IL):=by refine uV inD (fun q=>q.2.cs.all (dA gs ms)) IL (idx rs) fun q hq=>?_;have e:=uO n hg ms (wf q.2 (n6 hq).2.1);have x0:cH q.2.d (.int 0)=.ok (Gg q.2.cs):=rfl;have Wi:=mU q.2.cs;unfold inD IL;generalize FW gs=GD,Gi ms=MD,q.2.d=RD,Gg q.2.cs=WD at *;cases h:q.2.cs.all (dA gs ms)<;>rw[h] at e<;>simp![Ev.cq,eg,em,Wi,x0,e]
 have le:((idx rs).map inD).length<=100:=by rw[<- en];unfold iM;rw[List.length_zipWith,aam,j_];omega
 have lf:cp (((idx rs).filter fun q=>q.2.cs.all (dA gs ms)).map IL)=Θ:=by rw[dt,List.all_map];exact U_.mpr fun _ _=>rfl
 rw[gx 40 To 3 3 Tj rfl rfl rfl rfl rfl rfl];unfold Tj;generalize F5 salt rest rs al fr=S,((idx rs).filter fun q=>q.2.cs.all (dA gs ms)).map IL=N,(idx rs).map inD=IN,rs.map Rl.d=RS,FW gs=GD,Gi ms=MD at *;simp![x2,en,fm,lf]
noncomputable def tA:List IS:=[(.asg (.nm 5) (.call 39 [(.idx (.idx (.idx (.v 0) (.c (.int 2))) (.v 4)) (.c (.int 1))),(.idx (.v 0) (.c (.int 3))),(.v 1),(.v 3)])),(.FO (.cmp .IW (.v 5) (.c .Fy)) [(.ret (.tup [(.v 5),(.v 4)]))] [])]
noncomputable def fst (al:Al)(day z:Int)(l:List (Nat×Rl)):Option (Str×Nat):=match l with
 | []=>Φ
 | q::l=>match Pn al day z q.2.o with
  | some f=>Δ (f,q.1)
  | none=>fst al day z l
theorem uW (n:Nat)(salt rest:Str){rs:List Rl}(al:Al)(fr:List (Int×Int))(day z:Int)(N:Option D):∀ (l:List (Nat×Rl)),(∀ q∈l,q∈idx rs)->∀ (b c:Option D),
  (∀ f i,fst al day z l=Δ (f,i)->forM (Ev.turn (aB T (n+3)) (.nm 4) tA) (l.map IL) [Δ (F5 salt rest rs al fr),Δ (.int day),N,Δ (.int z),b,c]=.ok (.rt (.tup [.str f,.int (i:Nat)])))/\
  (fst al day z l=Φ->∃ b' c',forM (Ev.turn (aB T (n+3)) (.nm 4) tA) (l.map IL) [Δ (F5 salt rest rs al fr),Δ (.int day),N,Δ (.int z),b,c]=.ok (.nx [Δ (F5 salt rest rs al fr),Δ (.int day),N,Δ (.int z),b',c']))
 | [],_,b,c=>⟨fun f i h=>(by cases h),fun _=>⟨b,c,rfl⟩⟩
 | q::l,hl,b,c=>by
  have hq:=n6 (hl q (.head _));have e:=outcome n q.2.o al fr day z;have x2:cH (F5 salt rest rs al fr) (.int 2)=.ok (.lst Ξ (rs.map Rl.d)):=rfl;have x3:cH (F5 salt rest rs al fr) (.int 3)=.ok (Ge al fr):=rfl;have xi:cH (.lst Ξ (rs.map Rl.d)) (.int (q.1:Nat))=.ok q.2.d:=by rw[Ev.Qc];unfold GU Hb;rw[f_ (Int.natCast_nonneg _),f_ (by rw[j_];have:=hq.2.2;omega)];show (match (rs.map Rl.d)[((q.1:Nat):Int).toNat]? with|some d=>_|none=>_)=_;rw[aaG,B_,hq.1];rfl
  have y1:cH q.2.d (.int 1)=.ok q.2.o.d:=rfl;have eo:=uT q.2.o;have ea:=ki al fr;unfold IL;rw[b_,Ev.dW];show (∀ f i,fst al day z (q::l)=Δ (f,i)->E3 (Ev.turn (aB T (n+3)) (.nm 4) tA (.int (q.1:Nat)) _) _=_)/\(fst al day z (q::l)=Φ->∃ b' c',E3 (Ev.turn (aB T (n+3)) (.nm 4) tA (.int (q.1:Nat)) _) _=_)
  unfold fst;cases h:Pn al day z q.2.o with
  | some f=>
   rw[h] at e;have e:aB T (n+3) 39 [q.2.o.d,Ge al fr,.int day,.int z]=.ok (.str f):=e;have et:Ev.turn (aB T (n+3)) (.nm 4) tA (.int (q.1:Nat)) [Δ (F5 salt rest rs al fr),Δ (.int day),N,Δ (.int z),b,c]=.ok (.rt (.tup [.str f,.int (q.1:Nat)])):=by unfold tA;generalize F5 salt rest rs al fr=S,rs.map Rl.d=RS,q.2.d=QD,q.2.o.d=OD,Ge al fr=AD at *;simp![Ev.cq,x2,x3,xi,y1,eo,ea,e]
   rw[et];exact⟨fun f i z=>(by cases z;rfl),fun z=>(by cases z)⟩
  | none=>
   rw[h] at e;have e:aB T (n+3) 39 [q.2.o.d,Ge al fr,.int day,.int z]=.ok .Fy:=e;have et:Ev.turn (aB T (n+3)) (.nm 4) tA (.int (q.1:Nat)) [Δ (F5 salt rest rs al fr),Δ (.int day),N,Δ (.int z),b,c]=.ok (.nx [Δ (F5 salt rest rs al fr),Δ (.int day),N,Δ (.int z),Δ (.int (q.1:Nat)),Δ .Fy]):=by unfold tA;generalize F5 salt rest rs al fr=S,rs.map Rl.d=RS,q.2.d=QD,q.2.o.d=OD,Ge al fr=AD at *;simp![Ev.cq,x2,x3,xi,y1,eo,ea,e]
   rw[et];exact uW n salt rest al fr day z N l (fun q hq=>hl q (.tail _ hq)) _ _
noncomputable def T' (rest:Str)(k:Nat):Option (Str×Nat)->D
 | some (f,i)=>.tup [.str f,.int (i:Nat)]
 | none=>.tup [.str rest,.int (k:Nat)]
theorem uX (l:List (Nat×Rl)):Fx (l.map IL)=l.map IL:=by rw[cJ,E_];rfl
theorem among (n:Nat)(salt rest:Str){rs:List Rl}(al:Al)(fr:List (Int×Int))(day z:Int)(l:List (Nat×Rl))(hl:∀ q∈l,q∈idx rs) :
  aB T (n+4) 41 [F5 salt rest rs al fr,.int day,.lst Ξ (l.map IL),.int z]=.ok (T' rest rs.length (fst al day z l)):=by
 have a:=uW n salt rest al fr day z (Δ (.lst Ξ (l.map IL))) l hl Φ Φ;have en:=uX l;have x1:cH (F5 salt rest rs al fr) (.int 1)=.ok (.str rest):=rfl;have x2:cH (F5 salt rest rs al fr) (.int 2)=.ok (.lst Ξ (rs.map Rl.d)):=rfl;have ln:(rs.map Rl.d).length=rs.length:=j_ _;unfold tA at a;cases h:fst al day z l with
 | some p=>obtain⟨f,i⟩:=p;have e:=a.1 f i h;show _=Except.ok (D.tup [.str f,.int (i:Nat)]);rw[gx 41 Qr 4 6 O1 rfl rfl rfl rfl rfl rfl];unfold O1;generalize F5 salt rest rs al fr=S,l.map IL=L at *;simp![en,e]
 | none=>obtain⟨b,c,e⟩:=a.2 h;show _=Except.ok (D.tup [.str rest,.int (rs.length:Nat)]);rw[gx 41 Qr 4 6 O1 rfl rfl rfl rfl rfl rfl];unfold O1;generalize F5 salt rest rs al fr=S,l.map IL=L,rs.map Rl.d=RS at *;simp![en,e,x1,x2,ln]
noncomputable def GY (m:Int)(ms:List (Str×Tn)):D:=.tup [.int m,Gi ms]
theorem zb (m:Int)(ms:List (Str×Tn)):er (GY m ms)=GY m ms:=by show D.tup [.int m,er (Gi ms)]=_;rw[dZ];rfl
noncomputable def told (gs:List Gp)(ms:List (Str×Tn))(rest:Str)(rs:List Rl)(al:Al)(day z:Int):D:=T' rest rs.length (fst al day z ((idx rs).filter fun q=>q.2.cs.all (dA gs ms)))
theorem qw (n:Nat){gs:List Gp}(hg:Nq gs)(ms:List (Str×Tn)){cs:List Nat}(hc:Sl cs)(rest:Str){rs:List Rl}(al:Al)(fr:List (Int×Int))(wf:∀ r∈rs,∀ c∈r.cs,Wf c)(hl:rs.length<=100)(day:Int){m:Int}(m0:0<=m)(m1:m<=1000000000) :
  aB T (n+10) 42 [FW gs,F5 (FH cs) rest rs al fr,.int day,GY m ms]=.ok (told gs ms rest rs al day (HG cs m)):=by
 have e1:=w8 n hg ms (FH cs) rest al fr wf hl;have e2:=uu (n+5) hc m m0 m1;have e3:=among (n+5) (FH cs) rest (rs:=rs) al fr day (HG cs m) ((idx rs).filter fun q=>q.2.cs.all (dA gs ms)) fun q hq=>(List.mem_filter.mp hq).1;have en:=uX ((idx rs).filter fun q=>q.2.cs.all (dA gs ms));have lf:cp (((idx rs).filter fun q=>q.2.cs.all (dA gs ms)).map IL)=Θ:=by rw[dt,List.all_map];exact U_.mpr fun _ _=>rfl
 have x0:cH (F5 (FH cs) rest rs al fr) (.int 0)=.ok (.str (FH cs)):=rfl;have v0:cH (GY m ms) (.int 0)=.ok (.int m):=rfl;have v1:cH (GY m ms) (.int 1)=.ok (Gi ms):=rfl;have eg:=dY gs;have em:=dZ ms;have es:=kY (FH cs) rest rs al fr;have ev:=zb m ms;have lt:cA (told gs ms rest rs al day (HG cs m))=Θ:=by unfold told;cases fst al day (HG cs m) ((idx rs).filter fun q=>q.2.cs.all (dA gs ms))<;>rfl
 unfold told at *;generalize hR:T' rest rs.length (fst al day (HG cs m) ((idx rs).filter fun q=>q.2.cs.all (dA gs ms)))=R at *;rw[gx 42 Tq 4 5 Tp rfl rfl rfl rfl rfl rfl];unfold Tp;generalize F5 (FH cs) rest rs al fr=S,((idx rs).filter fun q=>q.2.cs.all (dA gs ms)).map IL=N,FW gs=GD,Gi ms=MD,GY m ms=VD,FH cs=Q at *;simp![e1,e2,e3,en,lf,x0,v0,v1,eg,em,es,ev,lt]
noncomputable def mF (x:Str)(o:Option Tn)(p:Str×Tn):Option Tn:=if (p.1 == x)=Θ then Δ p.2 else o
theorem zd (x:Str):∀ (ms:List (Str×Tn)) (o:Option Tn),x∉ms.map (·.1)->ms.foldl (mF x) o=o
 | [],o,_=>rfl
 | p::ms,o,h=>by
  rw[b_,k_,not_or] at h;rw[Z_];have:mF x o p=o:=by unfold mF;rw[d_ (fun z=>h.1 (by simpa using z:p.1=x).symm)]
  rw[this];exact zd x ms o h.2
theorem ze (x:Str):∀ (ms:List (Str×Tn)),(ms.map (·.1)).Nodup->ms.foldl (mF x) Φ=gb ms x
 | [],_=>rfl
 | p::ms,h=>by
  rw[b_,H_] at h;rw[Z_];unfold gb;rw[List.find?_cons];unfold mF;cases q:(p.1 == x) with
  | true=>
   have e:p.1=x:=by simpa using q
   rw[f_ rfl];exact zd x ms (Δ p.2) (e ▸ h.1)
  | false=>rw[d_ o_];exact ze x ms h.2
theorem uY (cl:Nat->List D->Res D)(x:Str)(a0 a1 a2 a4 a5 a6 a8:Option D):∀ (ms:List (Str×Tn)) (o:Option Tn) (b c:Option D),∃ b' c',forM (Ev.turn cl (.tp [(.nm 7),(.nm 10)]) MH) (ms.map Gs) [a0,a1,a2,Δ (.str x),a4,a5,a6,b,a8,Δ (mD o),c]=.ok (.nx [a0,a1,a2,Δ (.str x),a4,a5,a6,b',a8,Δ (mD (ms.foldl (mF x) o)),c'])
 | [],o,b,c=>⟨b,c,rfl⟩
 | p::ms,o,b,c=>by
  have et:Ev.turn cl (.tp [(.nm 7),(.nm 10)]) MH (Gs p) [a0,a1,a2,Δ (.str x),a4,a5,a6,b,a8,Δ (mD o),c]=.ok (.nx [a0,a1,a2,Δ (.str x),a4,a5,a6,Δ (.str p.1),a8,Δ (mD (mF x o p)),Δ p.2.d]):=by
   have et:=uG p.2;have m2:mD (Δ p.2)=p.2.d:=rfl;unfold MH Gs mF;cases h:(p.1 == x) with
   | true=>rw[f_ rfl,m2];generalize p.2.d=PD,mD o=OD at *;simp![Ev.cq,h,et]
   | false=>rw[d_ o_];generalize p.2.d=PD,mD o=OD at *;simp![Ev.cq,h,et]
  rw[b_,Ev.dW,et,Z_];exact uY cl x a0 a1 a2 a4 a5 a6 a8 ms _ _ _
theorem uZ:Kw.body=Qi:=rfl
theorem Ee (cl:Nat->List D->Res D)(a0 a1 a2 a3 a6 a7 a8 JW:Option D){c:Cn}(wf:Wf c)(x:Option Tn):cI cl OP [a0,a1,a2,a3,Δ (.str c.w),Δ (.lst Ξ (c.ts.map Tn.d)),a6,a7,a8,Δ (mD x),JW]=.ok (.rt (.bl (fy c.w c.ts x))):=by
 obtain⟨cm,w,ts⟩:=c;have wl:ts.length<=100:=wf.len;show cI cl OP [a0,a1,a2,a3,Δ (.str w),Δ (.lst Ξ (ts.map Tn.d)),a6,a7,a8,Δ (mD x),JW]=.ok (.rt (.bl (fy w ts x)));have i1:=D7 Ξ x ts;have i4:=y9 x;have eq:fy w ts x=if ((w == Ρ "is")||(w == Ρ "not"))=Θ then (MT x ts == (w == Ρ "is")) else if (w == Ρ "begins")=Θ then D9 x ts
  else if (w == Ρ "least")=Θ then leB x ts else if (w == Ρ "most")=Θ then Pm x ts else (x.isSome == (w == Ρ "has")):=by
  unfold fy;cases (w == Ρ "is")<;>cases (w == Ρ "not")<;>cases (w == Ρ "has")<;>cases MT x ts<;>cases x.isSome<;>rfl
 have ho:∀ τ:Ev,cu τ 4=Δ (.str w)->E8 cl (.II (.cmp .eq (.v 4) (.c (.str "is"))) (.cmp .eq (.v 4) (.c (.str "not")))) τ=.ok (.bl ((w == Ρ "is")||(w == Ρ "not"))):=fun τ h=>by
  cases q:(w == Ρ "is") with
  | true=>simp![h,q]
  | false=>simp![h,q]
 rw[eq];unfold OP;refine fY (ho _ rfl) (fun _=>?_) fun _=>fY rfl (fun q=>?_) fun _=>fY rfl (fun q=>?_) fun _=>fY rfl (fun q=>?_) fun _=>?_
 ·generalize mD x=X,ts.map Tn.d=TS at *;simp![i1]
 ·rcases x with _|(a|a)
  ·rfl
  ·rfl
  ·have f:=nY cl a ts (wf.Wh q);have ai:=uF a ts;have lt:(ts.map Tn.d).length=ts.length:=j_ _;show Gv _ _ [a0,a1,a2,a3,Δ (.str w),Δ (.lst Ξ (ts.map Tn.d)),a6,a7,a8,Δ (.str a),JW]=Except.ok (Fl.rt (D.bl (ts.any (LV a))));unfold Wd;generalize ts.map Tn.d=TS,ts.map (LV a)=BS at *;simp![f,ai,lt]
 ·rcases x with _|(a|a)
  ·rfl
  ·have l:=(pJ (cl:=cl) (i:=9) (j:=5) (τ:=[a0,a1,a2,a3,Δ (.str w),Δ (.lst Ξ (ts.map Tn.d)),a6,a7,a8,Δ (.int a),JW]) (x:=Δ (.i a)) rfl rfl (wf.lm (.inl q)) rfl).1;show Gv _ _ [a0,a1,a2,a3,Δ (.str w),Δ (.lst Ξ (ts.map Tn.d)),a6,a7,a8,Δ (.int a),JW]=_;generalize leB (Δ (.i a)) ts=L,ts.map Tn.d=TS,IR.cmp .ge (.v 9) (.idx (.v 5) (.c (.int 0)))=K at *;simp![l]
  ·rfl
 ·rcases x with _|(a|a)
  ·rfl
  ·have l:=(pJ (cl:=cl) (i:=9) (j:=5) (τ:=[a0,a1,a2,a3,Δ (.str w),Δ (.lst Ξ (ts.map Tn.d)),a6,a7,a8,Δ (.int a),JW]) (x:=Δ (.i a)) rfl rfl (wf.lm (.inr q)) rfl).2;show Gv _ _ [a0,a1,a2,a3,Δ (.str w),Δ (.lst Ξ (ts.map Tn.d)),a6,a7,a8,Δ (.int a),JW]=_;generalize Pm (Δ (.i a)) ts=L,ts.map Tn.d=TS,IR.cmp .le (.v 9) (.idx (.v 5) (.c (.int 0)))=K at *;simp![l]
  ·rfl
 ·generalize mD x=X,ts.map Tn.d=TS at *;simp![i4]
theorem pM (n:Nat){c:Cn}(wf:Wf c)(hi:IY c.w=Ξ)(g:D){ms:List (Str×Tn)}(nd:(ms.map (·.1)).Nodup):aB T (n+1) 60 [g,c.d,Gi ms]=.ok (.bl (pB ms c)):=by obtain⟨b,c',e0⟩:=uY (aB T n) c.m (Δ g) (Δ c.d) (Δ (Gi ms)) (Δ (.str c.w)) (Δ (.lst Ξ (c.ts.map Tn.d))) Φ Φ ms Φ Φ Φ;rw[ze c.m ms nd] at e0;have e1:=Ee (aB T n) (Δ g) (Δ c.d) (Δ (Gi ms)) (Δ (.str c.m)) Φ b Φ c' wf (gb ms c.m);unfold pB;have ec:=fZ c;generalize fy c.w c.ts (gb ms c.m)=HB,mD (gb ms c.m)=X at *;have hi:((c.w == Ρ "in")||(c.w == Ρ "out"))=Ξ:=hi;rw[Bool.or_eq_false_iff] at hi;obtain⟨p1,p2⟩:=hi;have st:dH (.tp [(.nm 3),(.nm 4),(.nm 5)]) c.d [Δ g,Δ c.d,Δ (Gi ms),Φ,Φ,Φ,Φ,Φ,Φ,Φ,Φ]=.ok [Δ g,Δ c.d,Δ (Gi ms),Δ (.str c.m),Δ (.str c.w),Δ (.lst Ξ (c.ts.map Tn.d)),Φ,Φ,Φ,Φ,Φ]:=rfl;have vm:fH (Gi ms)=.ok (ms.map Gs):=rfl;have em:=jm ms;have Wj:=dZ ms;have e0:forM (Ev.turn (aB T n) (.tp [(.nm 7),(.nm 10)]) MH) (ms.map Gs) [Δ g,Δ c.d,Δ (Gi ms),Δ (.str c.m),Δ (.str c.w),Δ (.lst Ξ (c.ts.map Tn.d)),Φ,Φ,Φ,Δ .Fy,Φ]=.ok (.nx [Δ g,Δ c.d,Δ (Gi ms),Δ (.str c.m),Δ (.str c.w),Δ (.lst Ξ (c.ts.map Tn.d)),Φ,b,Φ,Δ X,c']):=e0;rw[Ev.go (show T 60=Δ Kw from rfl) (show Kw.io=Ξ from rfl) (show Kw.np=3 from rfl) (show Kw.G.N.length=11 from rfl) uZ rfl];unfold Qi;generalize c.d=CD,Gi ms=MD,ms.map Gs=ML,c.ts.map Tn.d=TS,MH=tn,MG=tg,OP=tl at *;simp![p1,p2,ec,st,vm,em,Wj,e0,e1]
noncomputable def gF (p:Cn->Bool)(x:Str)(b:Bool)(g:Gp):Bool:=if (g.nm == x)=Θ then g.rows.any (·.all p) else b
theorem zf (p:Cn->Bool)(x:Str):∀ (gs:List Gp) (b:Bool),x∉gs.map (·.nm)->gs.foldl (gF p x) b=b
 | [],b,_=>rfl
 | g::gs,b,h=>by
  rw[b_,k_,not_or] at h;rw[Z_];have:gF p x b g=b:=by unfold gF;rw[d_ (fun z=>h.1 (by simpa using z:g.nm=x).symm)]
  rw[this];exact zf p x gs b h.2
theorem zg (p:Cn->Bool)(x:Str):∀ (gs:List Gp),(gs.map (·.nm)).Nodup->gs.foldl (gF p x) Ξ=gc p gs x
 | [],_=>rfl
 | g::gs,h=>by
  rw[b_,H_] at h;rw[Z_];unfold gc;rw[List.find?_cons];unfold gF;cases q:(g.nm == x) with
  | true=>
   have e:g.nm=x:=by simpa using q
   rw[f_ rfl];exact zf p x gs _ (e ▸ h.1)
  | false=>rw[d_ o_];exact zg p x gs h.2
theorem Bp (p:Cn->Bool)(r:List Cn):(r.map p).all id=r.all p:=by rw[List.all_map];rfl
theorem xb (p:Cn->Bool)(rs:List (List Cn)):(rs.map fun r=>r.all p).any id=rs.any (·.all p):=by rw[List.any_map];rfl
theorem EY (n:Nat){ms:List (Str×Tn)}(p:Cn->Bool)(r:List Cn)(h:∀ c∈r,aB T n 60 [.lst Ξ [],c.d,Gi ms]=.ok (.bl (p c))):cC (cL (aB T n) (.nm 1) [] (.call 60 [(.lst []),(.v 1),(.v 0)]) [Δ (Gi ms),Φ]) (r.map Cn.d)=.ok ((r.map p).map .bl):=by refine Ev.dw Cn.d p .bl r fun c hc=>?_;have e:=h c hc;have ec:=fZ c;have em:=dZ ms;generalize c.d=CD,Gi ms=MD at *;simp![Ev.cq,ec,em,e]
theorem EZ (n:Nat){ms:List (Str×Tn)}(p:Cn->Bool)(rs:List (List Cn))(hl:∀ r∈rs,r.length<=100)(h:∀ r∈rs,∀ c∈r,aB T n 60 [.lst Ξ [],c.d,Gi ms]=.ok (.bl (p c))):cC (cL (aB T n) (.nm 1) [] (.bi .all [(.comp Qh [0] (.nm 1) (.val (.v 1)) [] (.call 60 [(.lst []),(.v 1),(.v 0)]))]) [Δ (Gi ms),Φ]) (rs.map Gg)=.ok ((rs.map fun r=>r.all p).map .bl):=by refine Ev.dw Gg (fun r=>r.all p) .bl rs fun r hr=>?_;have e:=EY n p r (h r hr);have ai:=Bp p r;have lr:(r.map Cn.d).length=r.length:=j_ _;have l1:=hl r hr;unfold Qh Gg;generalize r.map Cn.d=RD,r.map p=BP,Gi ms=MD at *;simp![Ev.cq,e,ai,lr]
theorem pN (n:Nat){ms:List (Str×Tn)}(p:Cn->Bool)(x:Str)(a0 a1 a4 a5 a9 JW:Option D):∀ (gs:List Gp) (b:Bool) (c d:Option D),(∀ g∈gs,g.rows.length<=100/\(∀ r∈g.rows,r.length<=100)/\∀ r∈g.rows,∀ c∈r,aB T n 60 [.lst Ξ [],c.d,Gi ms]=.ok (.bl (p c)))->
  ∃ c' d',forM (Ev.turn (aB T n) (.tp [(.nm 7),(.nm 8)]) MG) (gs.map Gp.d) [a0,a1,Δ (Gi ms),Δ (.str x),a4,a5,Δ (.bl b),c,d,a9,JW]=.ok (.nx [a0,a1,Δ (Gi ms),Δ (.str x),a4,a5,Δ (.bl (gs.foldl (gF p x) b)),c',d',a9,JW])
 | [],b,c,d,_=>⟨c,d,rfl⟩
 | g::gs,b,c,d,h=>by
  obtain⟨h1,h2,h3⟩:=h g (.head _);have e:=EZ n p g.rows h2 h3;have ai:=xb p g.rows;have lr:(g.rows.map Gg).length=g.rows.length:=j_ _;have Wi:=jn g.rows;have et:Ev.turn (aB T n) (.tp [(.nm 7),(.nm 8)]) MG g.d [a0,a1,Δ (Gi ms),Δ (.str x),a4,a5,Δ (.bl b),c,d,a9,JW]=.ok (.nx [a0,a1,Δ (Gi ms),Δ (.str x),a4,a5,Δ (.bl (gF p x b g)),Δ (.str g.nm),Δ (.lst Ξ (g.rows.map Gg)),a9,JW]):=by
   unfold MG Gp.d gF Wc;generalize g.rows.map Gg=RD,(g.rows.map fun r=>r.all p)=BP,g.rows.any (·.all p)=AB,Gi ms=MD,Qh=go at *;cases q:(g.nm == x) with
   | true=>rw[f_ rfl];simp![Ev.cq,q,e,ai,lr]
   | false=>rw[d_ o_];simp![Ev.cq,q]
  rw[b_,Ev.dW,et,Z_];exact pN n p x a0 a1 a4 a5 a9 JW gs _ _ _ fun g hg=>h g (.tail _ hg)
structure IM (gs:List Gp):Prop where
 ok:Nq gs
 nd:(gs.map (·.nm)).Nodup
 len:∀ g∈gs,g.rows.length<=100/\∀ r∈g.rows,r.length<=100
theorem u0 (n:Nat){gs:List Gp}(hg:IM gs){ms:List (Str×Tn)}(nd:(ms.map (·.1)).Nodup){c:Cn}(wf:Wf c):aB T (n+2) 60 [FW gs,c.d,Gi ms]=.ok (.bl (dA gs ms c)):=by
 cases hi:IY c.w with
 | false=>have:=pM (n+1) wf hi (FW gs) nd;have h2:=Bool.or_eq_false_iff.mp (show ((c.w == Ρ "in")||(c.w == Ρ "out"))=Ξ from hi);unfold dA;rw[d_ (by rw[h2.1];exact o_),d_ (by rw[h2.2];exact o_)];exact this
 | true=>
  obtain⟨b1,b2,e⟩:=pN (n+1) (ms:=ms) (pB ms) c.m (Δ (FW gs)) (Δ c.d) (Δ (.str c.w)) (Δ (.lst Ξ (c.ts.map Tn.d))) Φ Φ gs Ξ Φ Φ fun g Kx=>⟨(hg.len g Kx).1,(hg.len g Kx).2,fun r hr c hc=>pM n (hg.ok g Kx r hr c hc).1 (hg.ok g Kx r hr c hc).2 (.lst Ξ []) nd⟩
  rw[zg (pB ms) c.m gs hg.nd] at e;have ec:=fZ c;have eg:=jo gs;have vg:fH (FW gs)=.ok (gs.map Gp.d):=rfl;have Wk:=dY gs;have Wj:=dZ ms;unfold dA;obtain⟨cm,w,ts⟩:=c;have st:dH (.tp [(.nm 3),(.nm 4),(.nm 5)]) (Cn.d ⟨cm,w,ts⟩) [Δ (FW gs),Δ (Cn.d ⟨cm,w,ts⟩),Δ (Gi ms),Φ,Φ,Φ,Φ,Φ,Φ,Φ,Φ]=.ok [Δ (FW gs),Δ (Cn.d ⟨cm,w,ts⟩),Δ (Gi ms),Δ (.str cm),Δ (.str w),Δ (.lst Ξ (ts.map Tn.d)),Φ,Φ,Φ,Φ,Φ]:=rfl;show aB T (n+2) 60 [FW gs,Cn.d ⟨cm,w,ts⟩,Gi ms]=.ok (.bl (if (w == Ρ "in")=Θ then gc (pB ms) gs cm else if (w == Ρ "out")=Θ then !gc (pB ms) gs cm else pB ms ⟨cm,w,ts⟩));have e:forM (Ev.turn (aB T (n+1)) (.tp [(.nm 7),(.nm 8)]) MG) (gs.map Gp.d) [Δ (FW gs),Δ (Cn.d ⟨cm,w,ts⟩),Δ (Gi ms),Δ (.str cm),Δ (.str w),Δ (.lst Ξ (ts.map Tn.d)),Δ (.bl Ξ),Φ,Φ,Φ,Φ]=.ok (.nx [Δ (FW gs),Δ (Cn.d ⟨cm,w,ts⟩),Δ (Gi ms),Δ (.str cm),Δ (.str w),Δ (.lst Ξ (ts.map Tn.d)),Δ (.bl (gc (pB ms) gs cm)),b1,b2,Φ,Φ]):=e;rw[Ev.go (show T 60=Δ Kw from rfl) (show Kw.io=Ξ from rfl) (show Kw.np=3 from rfl) (show Kw.G.N.length=11 from rfl) uZ rfl];unfold Qi;generalize gc (pB ms) gs cm=B,Cn.d ⟨cm,w,ts⟩=CD,FW gs=GD,gs.map Gp.d=GL,Gi ms=MD,ts.map Tn.d=TS,MG=tg,MH=tn at *;cases q1:(w == Ρ "in") with
  | true=>
   rw[f_ rfl];have hb:(B == Θ)=B:=by cases B<;>rfl
   simp![q1,ec,st,vg,eg,Wk,e,hb]
  | false=>
   have q2:(w == Ρ "out")=Θ:=by have hi:((w == Ρ "in")||(w == Ρ "out"))=Θ:=hi;rw[q1] at hi;exact hi
   rw[d_ o_,q2,f_ rfl];have hb:(B == Ξ) = !B:=by cases B<;>rfl
   simp![q1,q2,ec,st,vg,eg,Wk,e,hb]
theorem u6 (cl:Nat->List D->Res D)(a0 a1 a3 a5:Option D)(f:Str)(z:Int):∀ (run:List (Int×Int)) (b c:Option D),
  (inR z run=Θ->forM (Ev.turn cl (.tp [(.nm 6),(.nm 7)]) tP) (run.map FF) [a0,a1,Δ (.int z),a3,Δ (.str f),a5,b,c]=.ok (.rt (.str f)))/\
  (inR z run=Ξ->∃ b' c',forM (Ev.turn cl (.tp [(.nm 6),(.nm 7)]) tP) (run.map FF) [a0,a1,Δ (.int z),a3,Δ (.str f),a5,b,c]=.ok (.nx [a0,a1,Δ (.int z),a3,Δ (.str f),a5,b',c']))
 | [],b,c=>⟨fun h=>(by cases h),fun _=>⟨b,c,rfl⟩⟩
 | p::run,b,c=>by
  have et:Ev.turn cl (.tp [(.nm 6),(.nm 7)]) tP (FF p) [a0,a1,Δ (.int z),a3,Δ (.str f),a5,b,c]=if MU z p=Θ then .ok (.rt (.str f)) else .ok (.nx [a0,a1,Δ (.int z),a3,Δ (.str f),a5,Δ (.int p.1),Δ (.int p.2)]):=by unfold tP FF MU;cases h:decide (p.1<=z)<;>cases h':decide (z < p.2)<;>simp![Ev.cq,h,h',Bool.and_true,Bool.and_false,Bool.true_and,Bool.false_and]
  rw[b_,Ev.dW,et];unfold inR;rw[List.any_cons];cases h:MU z p with
  | true=>exact⟨fun _=>rfl,fun z=>(by cases z)⟩
  | false=>exact u6 cl a0 a1 a3 a5 f z run _ _
theorem u7 (cl:Nat->List D->Res D)(a0 a1 a3:Option D)(z:Int):∀ (al:Al) (b4 b5 b6 b7:Option D),
  (∀ x,Jn al z=Δ x->forM (Ev.turn cl (.tp [(.nm 4),(.nm 5)]) tQ) (al.map GX) [a0,a1,Δ (.int z),a3,b4,b5,b6,b7]=.ok (.rt (.str x)))/\
  (Jn al z=Φ->∃ c4 c5 c6 c7,forM (Ev.turn cl (.tp [(.nm 4),(.nm 5)]) tQ) (al.map GX) [a0,a1,Δ (.int z),a3,b4,b5,b6,b7]=.ok (.nx [a0,a1,Δ (.int z),a3,c4,c5,c6,c7]))
 | [],b4,b5,b6,b7=>⟨fun x h=>(by cases h),fun _=>⟨_,_,_,_,rfl⟩⟩
 | p::al,b4,b5,b6,b7=>by
  have l:=u6 cl a0 a1 a3 (Δ (.lst Ξ (p.2.map FF))) p.1 z p.2 b6 b7;have ep:=dn p.2;rw[b_,Ev.dW];unfold Jn;rw[List.find?_cons];cases h:inR z p.2 with
  | true=>
   have e:=l.1 h;have et:Ev.turn cl (.tp [(.nm 4),(.nm 5)]) tQ (GX p) [a0,a1,Δ (.int z),a3,b4,b5,b6,b7]=.ok (.rt (.str p.1)):=by unfold tQ GX;generalize p.2.map FF=PD,tP=tp at *;simp![Ev.cq,ep,e]
   rw[et];exact⟨fun x z=>(by cases z;rfl),fun z=>(by cases z)⟩
  | false=>
   obtain⟨c6,c7,e⟩:=l.2 h;have et:Ev.turn cl (.tp [(.nm 4),(.nm 5)]) tQ (GX p) [a0,a1,Δ (.int z),a3,b4,b5,b6,b7]=.ok (.nx [a0,a1,Δ (.int z),a3,Δ (.str p.1),Δ (.lst Ξ (p.2.map FF)),c6,c7]):=by unfold tQ GX;generalize p.2.map FF=PD,tP=tp at *;simp![Ev.cq,ep,e]
   rw[et];exact u7 cl a0 a1 a3 z al _ _ _ _
theorem Bq:MO.body=OQ:=rfl
theorem u9 (n:Nat)(o:Oc)(al:Al)(fr:List (Int×Int))(day z:Int):aB T (n+2) 62 [o.d,Ge al fr,.int z,.int day]=.ok (oD (Pn al day z o)):=by
 have ea:=ki al fr;have go:∀ X Y:D,aB T (n+2) 62 [X,Y,.int z,.int day]=_:=fun X Y=>Ev.go (show T 62=Δ MO from rfl) (show MO.io=Ξ from rfl) (show MO.np=4 from rfl) (show MO.G.N.length=8 from rfl) Bq rfl;cases o with
 | face f=>show aB T (n+2) 62 [.tup [.str "face",.str f],Ge al fr,.int z,.int day]=.ok (.str f);rw[go];unfold OQ;generalize Ge al fr=AD,tQ=tq at *;simp![Fv]
 | share f st=>
  have e2:=qv n st day;have ep:=dn st;show aB T (n+2) 62 [.tup [.str "share",.str f,.lst Ξ (st.map FF)],Ge al fr,.int z,.int day]=.ok (oD (if decide (z < shr st day)=Θ then Δ f else Φ));rw[go];unfold OQ;generalize Ge al fr=AD,st.map FF=PD,tQ=tq at *;cases h:decide (z < shr st day) with
  | true=>rw[f_ rfl];show _=Except.ok (D.str f);simp![QA,ep,e2,h]
  | false=>rw[d_ o_];show _=Except.ok D.Fy;simp![QA,ep,e2,h]
 | MV=>
  have y0:cH (Ge al fr) (.int 0)=.ok (.lst Ξ (al.map GX)):=rfl;have ef:=kX al;have l:=u7 (aB T (n+1)) (Δ (.tup [.str "lot"])) (Δ (Ge al fr)) (Δ (.int day)) z al Φ Φ Φ Φ;show aB T (n+2) 62 [.tup [.str "lot"],Ge al fr,.int z,.int day]=.ok (oD (Jn al z));rw[go];unfold OQ;cases h:Jn al z with
  | some x=>have e:=l.1 x h;show _=Except.ok (D.str x);generalize Ge al fr=AD,al.map GX=FD,tQ=tq at *;simp![y0,T8,T9,ea,ef,e]
  | none=>obtain⟨c4,c5,c6,c7,e⟩:=l.2 h;show _=Except.ok D.Fy;generalize Ge al fr=AD,al.map GX=FD,tQ=tq at *;simp![y0,T8,T9,ea,ef,e]
theorem Br:MP.body=S4:=rfl
theorem xc (p:Cn->Bool)(r:List Cn):(r.map p).all id=r.all p:=by rw[List.all_map];rfl
theorem E0 (n:Nat){gs:List Gp}(hg:IM gs){ms:List (Str×Tn)}(nd:(ms.map (·.1)).Nodup)(m:Int)(r:List Cn)(wf:∀ c∈r,Wf c):cC (cL (aB T (n+2)) (.nm 2) [] (.call 60 [(.v 0),(.v 2),(.idx (.v 1) (.c (.int 1)))]) [Δ (FW gs),Δ (GY m ms),Φ]) (r.map Cn.d)=.ok ((r.map (dA gs ms)).map .bl):=by refine Ev.dw Cn.d (dA gs ms) .bl r fun c hc=>?_;have e:=u0 n hg nd (wf c hc);have ec:=fZ c;have em:=dZ ms;have eg:=dY gs;have v1:cH (GY m ms) (.int 1)=.ok (Gi ms):=rfl;generalize c.d=CD,Gi ms=MD,FW gs=GD,GY m ms=VD at *;simp![Ev.cq,ec,em,eg,v1,e]
theorem pO (n:Nat){gs:List Gp}(hg:IM gs){ms:List (Str×Tn)}(nd:(ms.map (·.1)).Nodup){cs:List Nat}(hc:Sl cs)(al:Al)(fr:List (Int×Int))(day:Int){m:Int}(m0:0<=m)(m1:m<=1000000000)(a1 a5 a6:Option D):∀ (l:List (Nat×Rl)),(∀ q∈l,(∀ c∈q.2.cs,Wf c)/\q.2.cs.length<=100)->∀ (b8 b9 JX:Option D),
  (∀ f i,fst al day (HG cs m) (l.filter fun q=>q.2.cs.all (dA gs ms))=Δ (f,i)->forM (Ev.turn (aB T (n+2)) (.tp [(.nm 8),(.nm 9)]) Kv) (l.map inD) [Δ (FW gs),a1,Δ (.int day),Δ (GY m ms),Δ (.str (FH cs)),a5,a6,Δ (Ge al fr),b8,b9,JX]=.ok (.rt (.tup [.str f,.int (i:Nat)])))/\
  (fst al day (HG cs m) (l.filter fun q=>q.2.cs.all (dA gs ms))=Φ->∃ c8 c9 IZ,forM (Ev.turn (aB T (n+2)) (.tp [(.nm 8),(.nm 9)]) Kv) (l.map inD) [Δ (FW gs),a1,Δ (.int day),Δ (GY m ms),Δ (.str (FH cs)),a5,a6,Δ (Ge al fr),b8,b9,JX]=.ok (.nx [Δ (FW gs),a1,Δ (.int day),Δ (GY m ms),Δ (.str (FH cs)),a5,a6,Δ (Ge al fr),c8,c9,IZ]))
 | [],_,b8,b9,JX=>⟨fun f i h=>(by cases h),fun _=>⟨b8,b9,JX,rfl⟩⟩
 | q::l,hl,b8,b9,JX=>by
  obtain⟨wf,wl⟩:=hl q (.head _);have ih:=fun b8 b9 JX=>pO n hg nd hc al fr day m0 m1 a1 a5 a6 l (fun q hq=>hl q (.tail _ hq)) b8 b9 JX;have e1:=E0 n hg nd m q.2.cs wf;have ai:=xc (dA gs ms) q.2.cs;have lc:(q.2.cs.map Cn.d).length=q.2.cs.length:=j_ _;have e2:=u9 n q.2.o al fr day (HG cs m);have e3:=ke (n+1) cs hc.2.1 m m0 m1;have y0:cH q.2.d (.int 0)=.ok (.lst Ξ (q.2.cs.map Cn.d)):=rfl;have y1:cH q.2.d (.int 1)=.ok q.2.o.d:=rfl;have v0:cH (GY m ms) (.int 0)=.ok (.int m):=rfl;have eo:=uT q.2.o;have ea:=ki al fr;rw[b_,Ev.dW,List.filter_cons];cases hp:q.2.cs.all (dA gs ms) with
  | false=>
   rw[hp] at ai;have et:Ev.turn (aB T (n+2)) (.tp [(.nm 8),(.nm 9)]) Kv (inD q) [Δ (FW gs),a1,Δ (.int day),Δ (GY m ms),Δ (.str (FH cs)),a5,a6,Δ (Ge al fr),b8,b9,JX]=.ok (.nx [Δ (FW gs),a1,Δ (.int day),Δ (GY m ms),Δ (.str (FH cs)),a5,a6,Δ (Ge al fr),Δ (.int (q.1:Nat)),Δ q.2.d,JX]):=by unfold Kv inD Qj;generalize q.2.cs.map Cn.d=CD,q.2.cs.map (dA gs ms)=BD,q.2.d=QD,FW gs=GD,GY m ms=VD at *;simp![Ev.cq,y0,e1,ai,lc]
   rw[et,d_ o_];exact ih _ _ _
  | true=>
   rw[hp] at ai;rw[f_ rfl];unfold fst;cases h:Pn al day (HG cs m) q.2.o with
   | some f=>
    rw[h] at e2;have e2:aB T (n+2) 62 [q.2.o.d,Ge al fr,.int (HG cs m),.int day]=.ok (.str f):=e2;have et:Ev.turn (aB T (n+2)) (.tp [(.nm 8),(.nm 9)]) Kv (inD q) [Δ (FW gs),a1,Δ (.int day),Δ (GY m ms),Δ (.str (FH cs)),a5,a6,Δ (Ge al fr),b8,b9,JX]=.ok (.rt (.tup [.str f,.int (q.1:Nat)])):=by unfold Kv inD Qj;generalize q.2.cs.map Cn.d=CD,q.2.cs.map (dA gs ms)=BD,q.2.d=QD,q.2.o.d=OD,FW gs=GD,GY m ms=VD,Ge al fr=AD,FH cs=SD at *;simp![Ev.cq,y0,y1,v0,e1,ai,lc,eo,ea,e3,e2]
    rw[et];exact⟨fun f i z=>(by cases z;rfl),fun z=>(by cases z)⟩
   | none=>
    rw[h] at e2;have e2:aB T (n+2) 62 [q.2.o.d,Ge al fr,.int (HG cs m),.int day]=.ok .Fy:=e2;have et:Ev.turn (aB T (n+2)) (.tp [(.nm 8),(.nm 9)]) Kv (inD q) [Δ (FW gs),a1,Δ (.int day),Δ (GY m ms),Δ (.str (FH cs)),a5,a6,Δ (Ge al fr),b8,b9,JX]=.ok (.nx [Δ (FW gs),a1,Δ (.int day),Δ (GY m ms),Δ (.str (FH cs)),a5,a6,Δ (Ge al fr),Δ (.int (q.1:Nat)),Δ q.2.d,Δ .Fy]):=by unfold Kv inD Qj;generalize q.2.cs.map Cn.d=CD,q.2.cs.map (dA gs ms)=BD,q.2.d=QD,q.2.o.d=OD,FW gs=GD,GY m ms=VD,Ge al fr=AD,FH cs=SD at *;simp![Ev.cq,y0,y1,v0,e1,ai,lc,eo,ea,e3,e2]
    rw[et];exact ih _ _ _
theorem xf (n:Nat){gs:List Gp}(hg:IM gs){ms:List (Str×Tn)}(nd:(ms.map (·.1)).Nodup){cs:List Nat}(hc:Sl cs)(rest:Str){rs:List Rl}(al:Al)(fr:List (Int×Int))(wf:∀ r∈rs,(∀ c∈r.cs,Wf c)/\r.cs.length<=100)(day:Int){m:Int}(m0:0<=m)(m1:m<=1000000000) :
  aB T (n+3) 63 [FW gs,F5 (FH cs) rest rs al fr,.int day,GY m ms]=.ok (told gs ms rest rs al day (HG cs m)):=by
 have l:=pO n hg nd hc al fr day m0 m1 (Δ (F5 (FH cs) rest rs al fr)) (Δ (.str rest)) (Δ (.lst Ξ (rs.map Rl.d))) (idx rs) (fun q hq=>wf q.2 (n6 hq).2.1) Φ Φ Φ;have st:dH (.tp [(.nm 4),(.nm 5),(.nm 6),(.nm 7)]) (F5 (FH cs) rest rs al fr) [Δ (FW gs),Δ (F5 (FH cs) rest rs al fr),Δ (.int day),Δ (GY m ms),Φ,Φ,Φ,Φ,Φ,Φ,Φ]=.ok [Δ (FW gs),Δ (F5 (FH cs) rest rs al fr),Δ (.int day),Δ (GY m ms),Δ (.str (FH cs)),Δ (.str rest),Δ (.lst Ξ (rs.map Rl.d)),Δ (Ge al fr),Φ,Φ,Φ]:=rfl;have es:=kY (FH cs) rest rs al fr;have en:=uU rs;have ei:Fx ((idx rs).map inD)=(idx rs).map inD:=by rw[cJ,E_];exact aad fun q _=>by show D.tup [.int (q.1:Nat),er q.2.d]=_;rw[za];rfl
 have ln:(rs.map Rl.d).length=rs.length:=j_ _;have Wl:=n0 rs;rw[Ev.go (show T 63=Δ MP from rfl) (show MP.io=Ξ from rfl) (show MP.np=4 from rfl) (show MP.G.N.length=11 from rfl) Br rfl];unfold S4 told;cases h:fst al day (HG cs m) ((idx rs).filter fun q=>q.2.cs.all (dA gs ms)) with
 | some p=>obtain⟨f,i⟩:=p;have e:=l.1 f i h;show _=Except.ok (D.tup [.str f,.int (i:Nat)]);generalize F5 (FH cs) rest rs al fr=S,(idx rs).map inD=IN,rs.map Rl.d=RS,FW gs=GD,GY m ms=VD,Ge al fr=AD,Kv=ZY at *;simp![es,st,en,ei,Wl,e]
 | none=>obtain⟨c8,c9,IZ,e⟩:=l.2 h;show _=Except.ok (D.tup [.str rest,.int (rs.length:Nat)]);generalize F5 (FH cs) rest rs al fr=S,(idx rs).map inD=IN,rs.map Rl.d=RS,FW gs=GD,GY m ms=VD,Ge al fr=AD,Kv=ZY at *;simp![es,st,en,ei,Wl,e,ln]
noncomputable def Cn.t (c:Cn):D:=.tup [.str c.m,.str c.w,.lst Θ (c.ts.map Tn.d)]
theorem vd (c:Cn):er c.t=c.d:=by show D.tup [.str c.m,.str c.w,.lst Ξ (Fx (c.ts.map Tn.d))]=_;rw[uE];rfl
noncomputable def W7:List Str:=[Ρ "is",Ρ "not",Ρ "begins",Ρ "least",Ρ "most",Ρ "has",Ρ "lacks"]
noncomputable def W9:List Str:=W7++[Ρ "in",Ρ "out"]
noncomputable def Ua (w:Str):List Bool:=[(w == Ρ "is")||(w == Ρ "not"),w == Ρ "begins",(w == Ρ "least")||(w == Ρ "most"),(w == Ρ "in")||(w == Ρ "out")]
noncomputable def rows:List (List Bool):=[[Θ,Ξ,Ξ,Ξ],[Ξ,Θ,Ξ,Ξ],[Ξ,Ξ,Θ,Ξ],[Ξ,Ξ,Ξ,Θ],[Ξ,Ξ,Ξ,Ξ]]
theorem t9:∀ w∈W9,Ua w∈rows:=by decide +kernel
theorem t7:∀ w∈W7,IY w=Ξ:=by decide +kernel
theorem pP {g:D->Res (Option D)}:∀ (its:List D),(∀ x∈its,∃ t:Tn,g x=.ok (Δ t.d))->∃ ts:List Tn,cC g its=.ok (ts.map Tn.d)/\ts.length=its.length
 | [],_=>⟨[],rfl,rfl⟩
 | x::its,h=>by obtain⟨y,hy⟩:=h x (by simp);obtain⟨ys,e,hl⟩:=pP its fun z hz=>h z (G_ _ hz);exact⟨y::ys,g9 hy e,by rw[List.length_cons,List.length_cons,hl]⟩
theorem jq (a:Int):(cO 0 a).length=a.toNat:=by unfold cO;rw[j_,aam];omega
section
variable (n:Nat)(ns:List Int){k:Int}(k0:0<=k)(k1:k<=1000){st:Str}(hs:st.length<=100)(c:Int)
include k0 k1 hs in
theorem xg (d:Int)(d0:0<=d)(d1:d < 2):∃ ts:List Tn,cC (cL (aB T (n+3)) (.nm 4) [] (.call 53 [(.v 0),(.bin .add (.bin .add (.v 1) (.c (.int 3))) (.bin .mul (.c (.int 5)) (.v 4))),(.v 2),(.v 3)]) [Δ (.lst Ξ (ns.map .int)),Δ (.int k),Δ (.str st),Δ (.int c),Φ]) (cO 0 (1+d))=.ok (ts.map Tn.d)/\ts.length<=2:=by
 obtain⟨ts,e,hl⟩:=pP (g:=cL (aB T (n+3)) (.nm 4) [] (.call 53 [(.v 0),(.bin .add (.bin .add (.v 1) (.c (.int 3))) (.bin .mul (.c (.int 5)) (.v 4))),(.v 2),(.v 3)]) [Δ (.lst Ξ (ns.map .int)),Δ (.int k),Δ (.str st),Δ (.int c),Φ]) (cO 0 (1+d)) fun x hx=>by obtain⟨j,rfl,j0,j1⟩:=kW hx;obtain⟨t,e⟩:=uA n ns (k:=k+3+5*j) (by omega) (by omega) hs c;have ei:=Ev.cM ns;refine⟨t,?_⟩;generalize ns.map D.int=NS,t.d=TD at *;simp![Ev.cq,ei,e]
 exact⟨ts,e,by rw[hl,jq];omega⟩
include k0 k1 hs in
theorem Bt (d:Int)(d0:0<=d)(d1:d < 2):∃ ys:List Str,cC (cL (aB T (n+3)) (.nm 3) [] (.call 50 [(.v 0),(.bin .add (.bin .add (.v 1) (.c (.int 3))) (.bin .mul (.c (.int 5)) (.v 3))),(.v 2)]) [Δ (.lst Ξ (ns.map .int)),Δ (.int k),Δ (.str st),Φ]) (cO 0 (1+d))=.ok (ys.map .str)/\ys.length<=2:=by
 obtain⟨ts,e,hl⟩:=hJ (g:=cL (aB T (n+3)) (.nm 3) [] (.call 50 [(.v 0),(.bin .add (.bin .add (.v 1) (.c (.int 3))) (.bin .mul (.c (.int 5)) (.v 3))),(.v 2)]) [Δ (.lst Ξ (ns.map .int)),Δ (.int k),Δ (.str st),Φ]) (cO 0 (1+d)) fun x hx=>by obtain⟨j,rfl,j0,j1⟩:=kW hx;obtain⟨t,e,_⟩:=ir (n+1) ns (k:=k+3+5*j) (by omega) (by omega) hs;have ei:=Ev.cM ns;refine⟨t,?_⟩;generalize ns.map D.int=NS at *;simp![Ev.cq,ei,e]
 exact⟨ts,e,by rw[hl,jq];omega⟩
include hs in
theorem Bu (cl:Nat->List D->Res D)(ys:List Str):∃ zs:List Str,cC (cL cl (.nm 1) [] (.ite (.cmp .ne (.v 1) (.c (.str ""))) (.v 1) (.sl (.v 0) Φ (Δ (.c (.int 1))))) [Δ (.str st),Φ]) (ys.map .str)=.ok (zs.map .str)/\zs.length=ys.length:=by
 obtain⟨zs,e,hl⟩:=hJ (g:=cL cl (.nm 1) [] (.ite (.cmp .ne (.v 1) (.c (.str ""))) (.v 1) (.sl (.v 0) Φ (Δ (.c (.int 1))))) [Δ (.str st),Φ]) (ys.map .str) fun x hx=>by
  obtain⟨y,_,rfl⟩:=List.mem_map.mp hx;cases q:(y == Ρ "") with
  | true=>exact⟨Txt.slice st Φ (Δ 1),by simp![Ev.cq,q]⟩
  | false=>exact⟨y,by simp![Ev.cq,q]⟩
 exact⟨zs,e,by rw[hl,j_]⟩
end
theorem ne_nil (o:Bool)(ls:List D):GQ .ne (.lst o ls) (.lst Θ [])=.ok (!ls.isEmpty):=by cases ls<;>rfl
theorem ek {fs:List Str}{i:Int}(h0:0<=i)(h1:i < (fs.length:Int)):∃ y,(∀ o,cH (.lst o (fs.map .str)) (.int i)=.ok (.str y))/\fs[i.toNat]? = Δ y:=by
 have hl:i.toNat < fs.length:=by omega
 refine⟨fs[i.toNat],fun o=>?_,y_ hl⟩;rw[Ev.Bf h0 h1,aaw,y_ hl];rfl
theorem Bv (zs:List Str):zs.map D.str=(zs.map Tn.s).map Tn.d:=by rw[E_];rfl
theorem Bw (cl:Nat->List D->Res D)(x y w:Str)(s0 s1 s2 s3 s4 s5 s6 s8 s9:Option D):E8 cl (oW x y) [s0,s1,s2,s3,s4,s5,s6,Δ (.str w),s8,s9]=.ok (.bl ((w == x)||(w == y))):=by
 unfold oW;cases h:(w == x) with
 | true=>simp![h]
 | false=>simp![h]
theorem pQ (n:Nat)(ns:List Int){k:Int}(k0:0<=k)(k1:k<=1000){gs:List Str}(Ll:gs.length<=20){st:Str}(hs:st.length<=100)(c:Int)(mn w:Str)(w9:Ua w∈rows)(JU:gs=[]->IY w=Ξ)(s2 s6:Option D) :
  ∃ cn:Cn,cI (aB T (n+3)) OF [Δ (.lst Ξ (ns.map .int)),Δ (.int k),s2,Δ (.lst Ξ (gs.map .str)),Δ (.str st),Δ (.int c),s6,Δ (.str w),Δ (.str mn),Δ (.lst Θ [])]=.ok (.rt cn.t)/\Wf cn/\cn.w=w:=by
 have ei:=Ev.cM ns;have eg:=Ev.cR gs;have lg:(gs.map D.str).length=gs.length:=j_ _;obtain⟨d,r2,d0,d1⟩:=Ht (n+2) ns (k+2) 2 (by omega) (by omega) (by decide);have lr:=jq (1+d);have key:∀ (b1 b2 b3 b4:Bool),Ua w=[b1,b2,b3,b4]->((w == Ρ "is")||(w == Ρ "not"))=b1/\(w == Ρ "begins")=b2/\((w == Ρ "least")||(w == Ρ "most"))=b3/\IY w=b4:=fun b1 b2 b3 b4 h=>by injection h with h1 h;injection h with h2 h;injection h with h3 h;injection h with h4 h;exact⟨h1,h2,h3,h4⟩
 have nl:∀ {b:Bool},((w == Ρ "least")||(w == Ρ "most"))=Ξ->(w == Ρ "least")=Θ∨(w == Ρ "most")=Θ->b=Θ:=fun h h'=>by rcases h' with h'|h'<;>rw[h'] at h<;>simp at h
 have H1:=fun s8 s9=>Bw (aB T (n+3)) "is" "not" w (Δ (.lst Ξ (ns.map .int))) (Δ (.int k)) s2 (Δ (.lst Ξ (gs.map .str))) (Δ (.str st)) (Δ (.int c)) s6 s8 s9;have H2:∀ s8 s9:Option D,E8 (aB T (n+3)) (.cmp .eq (.v 7) (.c (.str "begins"))) [Δ (.lst Ξ (ns.map .int)),Δ (.int k),s2,Δ (.lst Ξ (gs.map .str)),Δ (.str st),Δ (.int c),s6,Δ (.str w),s8,s9]=.ok (.bl (w == Ρ "begins")):=fun _ _=>rfl;have H3:=fun s8 s9=>Bw (aB T (n+3)) "least" "most" w (Δ (.lst Ξ (ns.map .int))) (Δ (.int k)) s2 (Δ (.lst Ξ (gs.map .str))) (Δ (.str st)) (Δ (.int c)) s6 s8 s9;have H4:=fun s8 s9=>Bw (aB T (n+3)) "in" "out" w (Δ (.lst Ξ (ns.map .int))) (Δ (.int k)) s2 (Δ (.lst Ξ (gs.map .str))) (Δ (.str st)) (Δ (.int c)) s6 s8 s9;have fin:∀ (x:Str) (TS:List D),cI (aB T (n+3)) [(.ret (.tup [(.v 8),(.v 7),(.v 9)]))] [Δ (.lst Ξ (ns.map .int)),Δ (.int k),s2,Δ (.lst Ξ (gs.map .str)),Δ (.str st),Δ (.int c),s6,Δ (.str w),Δ (.str x),Δ (.lst Θ TS)]=.ok (.rt (.tup [.str x,.str w,.lst Θ TS])):=fun _ _=>rfl;have iu:((w == Ρ "in")||(w == Ρ "out"))=IY w:=rfl;simp only[rows,k_,P_,or_false] at w9;rcases w9 with h|h|h|h|h<;>obtain⟨q1,q2,q3,q4⟩:=key _ _ _ _ h<;>rw[q1] at H1<;>rw[q2] at H2<;>rw[q3] at H3<;>rw[iu,q4] at H4<;>unfold OF
 ·obtain⟨ts,eT,lT⟩:=xg n ns k0 k1 hs c d d0 d1;have ZZ:=uD ts;refine⟨⟨mn,w,ts⟩,?_,⟨(by show ts.length<=100;omega),fun h=>(by rw[q2] at h;cases h),fun h=>absurd (nl (b:=Ξ) q3 h) (by decide)⟩,rfl⟩;rw[Lk (H1 _ _) (τ':=[Δ (.lst Ξ (ns.map .int)),Δ (.int k),s2,Δ (.lst Ξ (gs.map .str)),Δ (.str st),Δ (.int c),s6,Δ (.str w),Δ (.str mn),Δ (.lst Θ (ts.map Tn.d))]) ?_,sk (H2 _ _),sk (H3 _ _),sk (H4 _ _),fin]
  ·rfl
  clear H1 H2 H3 H4 fin;unfold V7;generalize ns.map D.int=NS,gs.map D.str=GS,ts.map Tn.d=TS at *;simp![ei,r2,lr,eT,ZZ]
 ·obtain⟨ys,eY,lY⟩:=Bt n ns k0 k1 hs d d0 d1;obtain⟨zs,eZ,lZ⟩:=Bu hs (aB T (n+3)) ys;have Z0:cp (zs.map D.str)=Θ:=Ev.nU zs;have Z1:cp (ys.map D.str)=Θ:=Ev.nU ys;have lys:(ys.map D.str).length<=2:=by rw[j_];exact lY
  have ny:=Ev.cR ys;refine⟨⟨mn,w,zs.map Tn.s⟩,?_,⟨(by show (zs.map Tn.s).length<=100;rw[j_,lZ];omega),fun _ t ht=>(by obtain⟨z,_,rfl⟩:=List.mem_map.mp ht;exact⟨z,rfl⟩),fun h=>absurd (nl (b:=Ξ) q3 h) (by decide)⟩,rfl⟩;rw[sk (H1 _ _),Lk (H2 _ _) (τ':=[Δ (.lst Ξ (ns.map .int)),Δ (.int k),s2,Δ (.lst Ξ (gs.map .str)),Δ (.str st),Δ (.int c),s6,Δ (.str w),Δ (.str mn),Δ (.lst Θ (zs.map .str))]) ?_,sk (H3 _ _),sk (H4 _ _),fin]
  ·show _=Except.ok (Fl.rt (D.tup [.str mn,.str w,.lst Θ ((zs.map Tn.s).map Tn.d)]));rw[<- Bv zs]
  clear H1 H2 H3 H4 fin;unfold V8;generalize ns.map D.int=NS,gs.map D.str=GS,ys.map D.str=YS,zs.map D.str=ZS at *;simp![ei,r2,lr,eY,eZ,Z1,Z0,ny]
 ·obtain⟨x,eX⟩:=hG (n+1) ns (k:=k+3) (by omega) (by omega) c;refine⟨⟨mn,w,[.i x]⟩,?_,⟨(by show 1<=100;omega),fun h=>(by rw[q2] at h;cases h),fun _=>⟨x,[],rfl⟩⟩,rfl⟩;rw[sk (H1 _ _),sk (H2 _ _),Lk (H3 _ _) (τ':=[Δ (.lst Ξ (ns.map .int)),Δ (.int k),s2,Δ (.lst Ξ (gs.map .str)),Δ (.str st),Δ (.int c),s6,Δ (.str w),Δ (.str mn),Δ (.lst Θ [.int x])]) ?_,sk (H4 _ _),fin]
  ·rfl
  clear H1 H2 H3 H4 fin;unfold V9;generalize ns.map D.int=NS,gs.map D.str=GS at *;simp![ei,eX]
 ·have g0:0 < gs.length:=by
   cases gs with
   | nil=>rw[JU rfl] at q4;cases q4
   | cons=>simp
  have rg:=cY (n+2) ns (k+2) (gs.length:Int) (by omega) (by omega) (by omega);obtain⟨gn,Z2,_⟩:=ek (fs:=gs) (gK ns (k+2) (m:=(gs.length:Int)) (by omega)) (gM ns (k+2) (by omega));generalize dr ns (k+2) (gs.length:Int)=ig at *;refine⟨⟨gn,w,[]⟩,?_,⟨(by show 0<=100;omega),fun h=>(by rw[q2] at h;cases h),fun h=>absurd (nl (b:=Ξ) q3 h) (by decide)⟩,rfl⟩;rw[sk (H1 _ _),sk (H2 _ _),sk (H3 _ _),Lk (H4 _ _) (τ':=[Δ (.lst Ξ (ns.map .int)),Δ (.int k),s2,Δ (.lst Ξ (gs.map .str)),Δ (.str st),Δ (.int c),s6,Δ (.str w),Δ (.str gn),Δ (.lst Θ [])]) ?_,fin]
  ·rfl
  clear H1 H2 H3 H4 fin;unfold V';generalize ns.map D.int=NS,gs.map D.str=GS at *;simp![ei,eg,lg,rg,Z2]
 ·refine⟨⟨mn,w,[]⟩,?_,⟨(by show 0<=100;omega),fun h=>(by rw[q2] at h;cases h),fun h=>absurd (nl (b:=Ξ) q3 h) (by decide)⟩,rfl⟩;rw[sk (H1 _ _),sk (H2 _ _),sk (H3 _ _),sk (H4 _ _),fin];rfl
theorem pR (n:Nat)(ns:List Int){k:Int}(k0:0<=k)(k1:k<=1000){ms gs:List Str}(hm:0 < ms.length)(J1:ms.length<=20)(Ll:gs.length<=20){st:Str}(hs:st.length<=100)(c:Int) :
  ∃ cn:Cn,aB T (n+4) 54 [.lst Ξ (ns.map .int),.int k,.lst Ξ (ms.map .str),.lst Ξ (gs.map .str),.str st,.int c]=.ok cn.t/\Wf cn/\(gs=[]->IY cn.w=Ξ):=by
 have ei:=Ev.cM ns;have em:=Ev.cR ms;have eg:=Ev.cR gs;have lm:(ms.map D.str).length=ms.length:=j_ _;have r1:=cY (n+2) ns (k+1) (ms.length:Int) (by omega) (by omega) (by omega);obtain⟨mn,Wm,_⟩:=ek (fs:=ms) (gK ns (k+1) (m:=(ms.length:Int)) (by omega)) (gM ns (k+1) (by omega));generalize dr ns (k+1) (ms.length:Int)=i1 at *;have go:aB T (n+4) 54 [.lst Ξ (ns.map .int),.int k,.lst Ξ (ms.map .str),.lst Ξ (gs.map .str),.str st,.int c]=_:=gx 54 TF 6 10 Qw rfl rfl rfl rfl rfl rfl;have c7:((7:Nat):Int)=7:=rfl;have c9:((9:Nat):Int)=9:=rfl;have Wn:([D.str "is",.str "not",.str "begins",.str "least",.str "most",.str "has",.str "lacks"]).length=7:=rfl;cases hq:gs.isEmpty with
 | true=>
  have r0:=cY (n+2) ns k 7 k0 (by omega) (by decide);obtain⟨w,hw,gw⟩:=ek (fs:=W7) (gK ns k (m:=7) (by decide)) (by have:=gM ns k (m:=7) (by decide);exact this);generalize dr ns k 7=i0 at *;have wm:=aag gw;obtain⟨cn,e,wf,ew⟩:=pQ n ns k0 k1 Ll hs c mn w (t9 w (q_ _ wm)) (fun _=>t7 w wm) (Δ (.lst Ξ (ms.map .str))) (Δ (.lst Θ (W7.map .str)));refine⟨cn,?_,wf,fun _=>by rw[ew];exact t7 w wm⟩;have w7:W7.map D.str=[D.str "is",.str "not",.str "begins",.str "least",.str "most",.str "has",.str "lacks"]:=rfl;rw[w7] at hw e;rw[go];unfold Qw;have nn:∀ o,GQ .ne (.lst o (gs.map .str)) (.lst Θ [])=.ok Ξ:=fun o=>by rw[ne_nil,List.isEmpty_map,hq];rfl
  generalize cn.t=CT,ns.map D.int=NS,ms.map D.str=MS,gs.map D.str=GS,OF=Z3 at *;simp![ei,em,eg,lm,r0,r1,Wm,hw,nn,c7,Wn,e]
 | false=>
  have r0:=cY (n+2) ns k 9 k0 (by omega) (by decide);obtain⟨w,hw,gw⟩:=ek (fs:=W9) (gK ns k (m:=9) (by decide)) (by have:=gM ns k (m:=9) (by decide);exact this);generalize dr ns k 9=i0 at *;have wm:=aag gw;have Hg:gs=[]->False:=fun h=>by rw[h] at hq;cases hq
  obtain⟨cn,e,wf,ew⟩:=pQ n ns k0 k1 Ll hs c mn w (t9 w wm) (fun h=>(Hg h).elim) (Δ (.lst Ξ (ms.map .str))) (Δ (.lst Θ (W9.map .str)));refine⟨cn,?_,wf,fun h=>(Hg h).elim⟩;have Z4:[D.str "is",.str "not",.str "begins",.str "least",.str "most",.str "has",.str "lacks"]++[D.str "in",.str "out"]=W9.map D.str:=rfl;have l9:(W9.map D.str).length=9:=rfl;have Z5:cp (W9.map D.str)=Θ:=Ev.nU W9;rw[go];unfold Qw;have nn:∀ o,GQ .ne (.lst o (gs.map .str)) (.lst Θ [])=.ok Θ:=fun o=>by rw[ne_nil,List.isEmpty_map,hq];rfl
  generalize W9.map D.str=WW,cn.t=CT,ns.map D.int=NS,ms.map D.str=MS,gs.map D.str=GS,OF=Z3 at *;simp![ei,em,eg,lm,r0,r1,Wm,hw,nn,c7,c9,Z4,l9,Wn,Z5,e]
theorem Ef (c0 c1:Cn){r:Int}(h0:0<=r)(h1:r < 6):∃ (R:D) (rs:List (List Cn)),cH (.lst Θ [.lst Θ [],.lst Θ [.lst Θ []],.lst Θ [.lst Θ [c0.d]],.lst Θ [.lst Θ [c0.d,c1.d]],.lst Θ [.lst Θ [c0.d],.lst Θ [c1.d]],.lst Θ [.lst Θ [],.lst Θ [c0.d]]]) (.int r)=.ok R/\er R=.lst Ξ (rs.map Gg)/\cA R=Ξ/\rs.length<=2/\∀ row∈rs,row.length<=2/\∀ c∈row,c=c0∨c=c1:=by
 have e0:=fZ c0;have e1:=fZ c1;rcases (show r=0∨r=1∨r=2∨r=3∨r=4∨r=5 by omega) with rfl|rfl|rfl|rfl|rfl|rfl
 ·exact⟨_,[],rfl,rfl,rfl,by simp,fun row h=>by simp at h⟩
 ·exact⟨_,[[]],rfl,rfl,rfl,by simp,fun row h=>by rw[t_.mp h];simp⟩
 ·exact⟨_,[[c0]],rfl,(by show D.lst Ξ [.lst Ξ [er c0.d]]=_;rw[e0];rfl),rfl,by simp,fun row h=>by rw[t_.mp h];simp⟩
 ·exact⟨_,[[c0,c1]],rfl,(by show D.lst Ξ [.lst Ξ [er c0.d,er c1.d]]=_;rw[e0,e1];rfl),rfl,by simp,fun row h=>by rw[t_.mp h];simp⟩
 ·exact⟨_,[[c0],[c1]],rfl,(by show D.lst Ξ [.lst Ξ [er c0.d],.lst Ξ [er c1.d]]=_;rw[e0,e1];rfl),rfl,by simp,fun row h=>by
   simp only[k_,P_,or_false] at h
   rcases h with rfl|rfl<;>simp⟩
 ·exact⟨_,[[],[c0]],rfl,(by show D.lst Ξ [.lst Ξ [],.lst Ξ [er c0.d]]=_;rw[e0];rfl),rfl,by simp,fun row h=>by
   simp only[k_,P_,or_false] at h
   rcases h with rfl|rfl<;>simp⟩
theorem xh (n:Nat)(ns:List Int){k:Int}(k0:0<=k)(k1:k<=600){ms:List Str}(hm:0 < ms.length)(J1:ms.length<=20){st:Str}(hs:st.length<=100)(c:Int){g:Int}(g0:0<=g)(g1:g < 2) :
  ∃ c0 c1:Cn,cC (cL (aB T (n+4)) (.nm 6) [] (.call 54 [(.v 0),(.bin .add (.bin .add (.bin .add (.v 1) (.c (.int 70))) (.bin .mul (.c (.int 30)) (.v 2))) (.bin .mul (.c (.int 14)) (.v 6))),(.v 3),(.lst []),(.v 4),(.v 5)]) [Δ (.lst Ξ (ns.map .int)),Δ (.int k),Δ (.int g),Δ (.lst Ξ (ms.map .str)),Δ (.str st),Δ (.int c),Φ]) (cO 0 2)=.ok [c0.t,c1.t]/\(Wf c0/\IY c0.w=Ξ)/\(Wf c1/\IY c1.w=Ξ):=by
 have ei:=Ev.cM ns;have em:=Ev.cR ms;have one:∀ j:Int,0<=j->j < 2->∃ cn:Cn,cL (aB T (n+4)) (.nm 6) [] (.call 54 [(.v 0),(.bin .add (.bin .add (.bin .add (.v 1) (.c (.int 70))) (.bin .mul (.c (.int 30)) (.v 2))) (.bin .mul (.c (.int 14)) (.v 6))),(.v 3),(.lst []),(.v 4),(.v 5)]) [Δ (.lst Ξ (ns.map .int)),Δ (.int k),Δ (.int g),Δ (.lst Ξ (ms.map .str)),Δ (.str st),Δ (.int c),Φ] (.int j)=.ok (Δ cn.t)/\Wf cn/\IY cn.w=Ξ:=by intro j j0 j1;obtain⟨cn,e,wf,io⟩:=pR n ns (k:=k+70+30*g+14*j) (by omega) (by omega) hm J1 (gs:=[]) (by simp) hs c;have e:aB T (n+4) 54 [.lst Ξ (ns.map .int),.int (k+70+30*g+14*j),.lst Ξ (ms.map .str),.lst Ξ [],.str st,.int c]=.ok cn.t:=e;refine⟨cn,?_,wf,io rfl⟩;generalize ns.map D.int=NS,ms.map D.str=MS,cn.t=CT at *;simp![Ev.cq,ei,em,e]
 obtain⟨c0,e0,w0⟩:=one 0 (by decide) (by decide);obtain⟨c1,e1,w1⟩:=one 1 (by decide) (by decide);exact⟨c0,c1,g9 e0 (g9 e1 rfl),w0,w1⟩
theorem xj (n:Nat)(ns:List Int){k:Int}(k0:0<=k)(k1:k<=600){ms:List Str}(hm:0 < ms.length)(J1:ms.length<=20){st:Str}(hs:st.length<=100)(c:Int){g:Int}(g0:0<=g)(g1:g < 2){fs:List Str}(hf:2<=fs.length){gs:List Gp}(hgl:gs.length<=10)(b7 b8 b9:Option D) :
  ∃ (gp:Gp) (c8 c9:Option D),Ev.turn (aB T (n+4)) (.nm 7) OG (.int g) [Δ (.lst Ξ (ns.map .int)),Δ (.int k),Δ (.lst Ξ (ms.map .str)),Δ (.str st),Δ (.int c),Δ (.lst Θ (gs.map Gp.d)),Δ (.lst Ξ (fs.map .str)),b7,b8,b9]=.ok (.nx [Δ (.lst Ξ (ns.map .int)),Δ (.int k),Δ (.lst Ξ (ms.map .str)),Δ (.str st),Δ (.int c),Δ (.lst Θ ((gs++[gp]).map Gp.d)),Δ (.lst Ξ (fs.map .str)),Δ (.int g),c8,c9])/\fs[g.toNat]? = Δ gp.nm/\gp.rows.length<=2/\∀ row∈gp.rows,row.length<=2/\∀ c∈row,Wf c/\IY c.w=Ξ:=by
 obtain⟨c0,c1,e0,w0,w1⟩:=xh n ns k0 k1 hm J1 hs c g0 g1;have d1:=cY (n+3) ns (k+6+g) 6 (by omega) (by omega) (by decide);obtain⟨R,rs,e1,eR,lR,Z6,Wo⟩:=Ef c0 c1 (gK ns (k+6+g) (m:=6) (by decide)) (gM ns (k+6+g) (by decide));generalize dr ns (k+6+g) 6=r at *;obtain⟨y,hy,gy⟩:=ek (fs:=fs) g0 (by omega);have ei:=Ev.cM ns;have em:=Ev.cR ms;have ef:=Ev.cR fs;have t0:=vd c0;have t1:=vd c1;have Z7:Fx [c0.t,c1.t]=[c0.d,c1.d]:=by show [er c0.t,er c1.t]=_;rw[t0,t1]
 have lf2:cp [c0.t,c1.t]=Ξ:=rfl;have s1:d6 [c0.d,c1.d] Φ (Δ 1)=[c0.d]:=rfl;have s2:d6 [c0.d,c1.d] (Δ 1) Φ=[c1.d]:=rfl;have l2:(cO 0 2).length=2:=rfl;have Wq:=fZ c0;have Wr:=fZ c1;have lg:(gs.map Gp.d).length=gs.length:=j_ _;have kp:cG (.comp SY [0,1,7,2,3,4] (.nm 6) (.FV (.c (.int 2))) [] (.call 54 [(.v 0),(.bin .add (.bin .add (.bin .add (.v 1) (.c (.int 70))) (.bin .mul (.c (.int 30)) (.v 2))) (.bin .mul (.c (.int 14)) (.v 6))),(.v 3),(.lst []),(.v 4),(.v 5)])) (.lst Θ [c0.t,c1.t]) [Δ (.lst Ξ (ns.map .int)),Δ (.int k),Δ (.lst Ξ (ms.map .str)),Δ (.str st),Δ (.int c),Δ (.lst Θ (gs.map Gp.d)),Δ (.lst Ξ (fs.map .str)),Δ (.int g),b8,b9]=(.lst Θ [c0.d,c1.d],[Δ (.lst Ξ (ns.map .int)),Δ (.int k),Δ (.lst Ξ (ms.map .str)),Δ (.str st),Δ (.int c),Δ (.lst Θ (gs.map Gp.d)),Δ (.lst Ξ (fs.map .str)),Δ (.int g),b8,b9]):=by show (D.lst Θ (Fx [c0.t,c1.t]),[Δ (.lst Ξ (Fx (ns.map .int))),Δ (.int k),Δ (.lst Ξ (Fx (ms.map .str))),Δ (.str st),Δ (.int c),Δ (.lst Θ (gs.map Gp.d)),Δ (.lst Ξ (fs.map .str)),Δ (.int g),b8,b9])=_;rw[Z7,ei,em]
 have Rt:cG (.idx (.lst [(.lst []),(.lst [(.lst [])]),(.lst [(.sl (.v 8) Φ (Δ (.c (.int 1))))]),(.lst [(.v 8)]),(.lst [(.sl (.v 8) Φ (Δ (.c (.int 1)))),(.sl (.v 8) (Δ (.c (.int 1))) Φ)]),(.lst [(.lst []),(.sl (.v 8) Φ (Δ (.c (.int 1))))])]) (.call 43 [(.v 0),(.bin .add (.bin .add (.v 1) (.c (.int 6))) (.v 7)),(.c (.int 6))])) R [Δ (.lst Ξ (ns.map .int)),Δ (.int k),Δ (.lst Ξ (ms.map .str)),Δ (.str st),Δ (.int c),Δ (.lst Θ (gs.map Gp.d)),Δ (.lst Ξ (fs.map .str)),Δ (.int g),Δ (.lst Θ [c0.d,c1.d]),b9]=(.lst Ξ (rs.map Gg),[Δ (.lst Ξ (ns.map .int)),Δ (.int k),Δ (.lst Ξ (ms.map .str)),Δ (.str st),Δ (.int c),Δ (.lst Θ (gs.map Gp.d)),Δ (.lst Ξ (fs.map .str)),Δ (.int g),Δ (.lst Ξ [c0.d,c1.d]),b9]):=by unfold cG;rw[d_ (by rw[lR];simp)];show (er R,[Δ (.lst Ξ (Fx (ns.map .int))),Δ (.int k),Δ (.lst Ξ (ms.map .str)),Δ (.str st),Δ (.int c),Δ (.lst Θ (gs.map Gp.d)),Δ (.lst Ξ (fs.map .str)),Δ (.int g),Δ (.lst Ξ [er c0.d,er c1.d]),b9])=_;rw[eR,ei,Wq,Wr]
 refine⟨⟨y,rs⟩,Δ (.lst Ξ [c0.d,c1.d]),Δ (.lst Ξ (rs.map Gg)),?_,gy,Z6,fun row hr=>⟨(Wo row hr).1,fun c hc=>?_⟩⟩
 ·have Po:(gs++[(⟨y,rs⟩:Gp)]).map Gp.d=gs.map Gp.d++[.tup [.str y,.lst Ξ (rs.map Gg)]]:=by rw[T_];rfl
  rw[Po];unfold OG;unfold SY at *;have err:=jn rs;generalize ns.map D.int=NS,ms.map D.str=MS,fs.map D.str=FS,gs.map Gp.d=GS,rs.map Gg=RS,c0.t=T0,c1.t=T1,c0.d=D0,c1.d=D1 at *;simp![Ev.cq,ei,em,ef,l2,e0,kp,Rt,s1,s2,d1,e1,eR,lR,hy,Wq,Wr,lg,err]
 ·rcases (Wo row hr).2 c hc with rfl|rfl
  ·exact w0
  ·exact w1
theorem n8 {r:Int}{i:Nat}{x:D}(h:(cO 0 r)[i]? = Δ x):i < r.toNat/\x=.int (i:Nat):=by have hi:=(v_.mp h).1;rw[jq] at hi;unfold cO at h;rw[B_,List.getElem?_range (by omega)] at h;have h':D.int (0+(i:Nat))=x:=F_ h;exact⟨hi,by rw[<- h',Int.zero_add]⟩
theorem qx (n:Nat)(ns:List Int){k:Int}(k0:0<=k)(k1:k<=600){ms:List Str}(hm:2<=ms.length)(J1:ms.length<=20)(LW:ms.Nodup){st:Str}(hs:st.length<=100)(c:Int) :
  ∃ gs:List Gp,aB T (n+5) 55 [.lst Ξ (ns.map .int),.int k,.lst Ξ (ms.map .str),.str st,.int c]=.ok (.lst Θ (gs.map Gp.d))/\IM gs/\gs.length<=2/\∀ g∈gs,g.rows.length<=2/\∀ row∈g.rows,row.length<=2:=by
 obtain⟨A,eA,lA,Z8,_⟩:=jl (n+2) ns (k:=k) k0 (by omega) (c:=2) (by decide) (by decide);obtain⟨r,d1,a0,a1⟩:=Ht (n+3) ns (k+4) 2 (by omega) (by omega) (by decide);obtain⟨fs,hf,lf,Lg⟩:∃ fs:List Str,(∀ o,cH (.lst o [.lst Θ (A.map .str),.lst Θ (ms.map .str)]) (.int r)=.ok (.lst Θ (fs.map .str)))/\2<=fs.length/\fs.Nodup:=by
  rcases (show r=0∨r=1 by omega) with rfl|rfl
  ·exact⟨A,fun _=>rfl,by rw[lA];decide,Z8⟩
  ·exact⟨ms,fun _=>rfl,hm,LW⟩
 obtain⟨q,d2,b0,b1⟩:=Ht (n+3) ns (k+5) 3 (by omega) (by omega) (by decide);obtain⟨τ',e,gs,c7,c8,c9,rfl,gl,Ws⟩:=Ev.eh (its:=cO 0 q) (τ:=[Δ (.lst Ξ (ns.map .int)),Δ (.int k),Δ (.lst Ξ (ms.map .str)),Δ (.str st),Δ (.int c),Δ (.lst Θ []),Δ (.lst Ξ (fs.map .str)),Φ,Φ,Φ]) (body:=Ev.turn (aB T (n+4)) (.nm 7) OG)
  (fun i τ=>∃ (gs:List Gp) (c7 c8 c9:Option D),τ=[Δ (.lst Ξ (ns.map .int)),Δ (.int k),Δ (.lst Ξ (ms.map .str)),Δ (.str st),Δ (.int c),Δ (.lst Θ (gs.map Gp.d)),Δ (.lst Ξ (fs.map .str)),c7,c8,c9]/\gs.length=i/\∀ (j:Nat) (g:Gp),gs[j]? = Δ g->fs[j]? = Δ g.nm/\g.rows.length<=2/\∀ row∈g.rows,row.length<=2/\∀ c∈row,Wf c/\IY c.w=Ξ)
  ⟨[],Φ,Φ,Φ,rfl,rfl,fun j g h=>by simp at h⟩ (by
   rintro i x τ hx ⟨gs,b7,b8,b9,rfl,hl,Z9⟩;obtain⟨hi,rfl⟩:=n8 hx;obtain⟨gp,c8,c9,e,g1,g2,g3⟩:=xj n ns k0 k1 (by omega) J1 hs c (g:=(i:Int)) (by omega) (by omega) lf (gs:=gs) (by omega) b7 b8 b9;refine⟨_,e,gs++[gp],_,c8,c9,rfl,by rw[w_,hl];rfl,fun j g hj=>?_⟩;by_cases SA:j < gs.length
   ·rw[aao SA] at hj;exact Z9 j g hj
   ·rw[aaE (by omega)] at hj;have Li:j=i:=by have:=(v_.mp hj).1;rw[V_] at this;omega
    rw[show j - gs.length=0 by omega] at hj;have h':gp=g:=F_ hj;subst h';rw[Li]
    exact⟨by rw[<- g1];congr 1,g2,g3⟩)
 rw[jq] at gl;have ei:=Ev.cM ns;have em:=Ev.cR ms;have ef:=Ev.cR fs;have IV:∀ g∈gs,g.rows.length<=2/\∀ row∈g.rows,row.length<=2/\∀ c∈row,Wf c/\IY c.w=Ξ:=fun g hg=>by obtain⟨j,hj⟩:=aaA.mp hg;exact(Ws j g hj).2
 refine⟨gs,?_,⟨fun g hg row hr c hc=>((IV g hg).2 row hr).2 c hc,?_,fun g hg=>⟨M_ (IV g hg).1 (by decide),fun row hr=>M_ ((IV g hg).2 row hr).1 (by decide)⟩⟩,by omega,fun g hg=>⟨(IV g hg).1,fun row hr=>((IV g hg).2 row hr).1⟩⟩
 ·have go:aB T (n+5) 55 [.lst Ξ (ns.map .int),.int k,.lst Ξ (ms.map .str),.str st,.int c]=_:=gx 55 TJ 5 10 TH rfl rfl rfl rfl rfl rfl;rw[go];unfold TH;have kp:∀ b7 b8 b9:Option D,cG (.idx (.lst [(.call 44 [(.v 0),(.v 1),(.c (.int 2))]),(.bi .list [(.v 2)])]) (.call 43 [(.v 0),(.bin .add (.v 1) (.c (.int 4))),(.c (.int 2))])) (.lst Θ (fs.map .str)) [Δ (.lst Ξ (ns.map .int)),Δ (.int k),Δ (.lst Ξ (ms.map .str)),Δ (.str st),Δ (.int c),Δ (.lst Θ []),Φ,b7,b8,b9]=(.lst Ξ (fs.map .str),[Δ (.lst Ξ (ns.map .int)),Δ (.int k),Δ (.lst Ξ (ms.map .str)),Δ (.str st),Δ (.int c),Δ (.lst Θ []),Φ,b7,b8,b9]):=fun b7 b8 b9=>by show (D.lst Ξ (Fx (fs.map .str)),[Δ (.lst Ξ (Fx (ns.map .int))),Δ (.int k),Δ (.lst Ξ (Fx (ms.map .str))),Δ (.str st),Δ (.int c),Δ (.lst Θ []),Φ,b7,b8,b9])=_;rw[ei,em,ef]
  generalize ns.map D.int=NS,ms.map D.str=MS,fs.map D.str=FS,A.map D.str=AS,gs.map Gp.d=GS,OG=tgr at *;simp![ei,em,ef,eA,d1,d2,hf,kp,e]
 ·have:gs.map (·.nm)=fs.take gs.length:=by
   apply List.ext_getElem?;intro j;rw[B_];by_cases hj:j < gs.length
   ·rw[List.getElem?_take_of_lt hj,y_ hj];exact(Ws j gs[j] (y_ hj)).1.symm
   ·rw[List.getElem?_eq_none (by omega),List.getElem?_eq_none (by rw[aan];omega)];rfl
  rw[this];exact List.Nodup.sublist (List.take_sublist _ _) Lg
theorem qy (n:Nat)(ns:List Int){k:Int}(k0:0<=k)(k1:k<=1000)(pl day:Int):∃ sg:List (Int×Int),aB T (n+2) 56 [.lst Ξ (ns.map .int),.int k,.int pl,.int day]=.ok (.lst Θ (sg.map FF))/\sg.length<=3:=by
 have d1:=cY n ns k 4 k0 (by omega) (by decide);have d2:=cY n ns (k+1) 4 (by omega) (by omega) (by decide);have b0:=gK ns (k+1) (m:=4) (by decide);have b1:=gM ns (k+1) (m:=4) (by decide);generalize dr ns k 4=a,dr ns (k+1) 4=q at *;have ei:=Ev.cM ns;obtain⟨mx,Wt⟩:∃ mx:Int,eD .max2 [.int 0,.int (day - a)]=.ok (.int mx):=⟨_,rfl⟩
 obtain⟨τ',e,sg,f,c6,c7,rfl,gl⟩:=Ev.eh (its:=cO 0 q) (τ:=[Δ (.lst Ξ (ns.map .int)),Δ (.int k),Δ (.int pl),Δ (.int day),Δ (.lst Θ []),Δ (.int mx),Φ,Φ]) (body:=Ev.turn (aB T (n+1)) (.nm 6) Qd)
  (fun i τ=>∃ (sg:List (Int×Int)) (f:Int) (c6 c7:Option D),τ=[Δ (.lst Ξ (ns.map .int)),Δ (.int k),Δ (.int pl),Δ (.int day),Δ (.lst Θ (sg.map FF)),Δ (.int f),c6,c7]/\sg.length=i)
  ⟨[],mx,Φ,Φ,rfl,rfl⟩ (by
   rintro i x τ hx ⟨sg,f,b6,b7,rfl,hl⟩;obtain⟨hi,rfl⟩:=n8 hx;have e1:=cY n ns (k+2+(i:Int)) 10008 (by omega) (by omega) (by decide);have e2:=cY n ns (k+5+(i:Int)) 6 (by omega) (by omega) (by decide);have c0:=gK ns (k+5+(i:Int)) (m:=6) (by decide);have c1:=gM ns (k+5+(i:Int)) (m:=6) (by decide);have e3:=cY n ns (k+8+(i:Int)) 3 (by omega) (by omega) (by decide);generalize dr ns (k+2+(i:Int)) 10008=u,dr ns (k+5+(i:Int)) 6=v,dr ns (k+8+(i:Int)) 3=w at *;have Ub:=Ev.Nl (o:=Θ) (xs:=[0,10007,pl,pl+1,pl,u]) (i:=v) c0 (by show v < 6;exact c1);have Ub:cH (.lst Θ [.int 0,.int 10007,.int pl,.int (pl+1),.int pl,.int u]) (.int v)=.ok (.int ([0,10007,pl,pl+1,pl,u].getD v.toNat 0)):=Ub;generalize ([0,10007,pl,pl+1,pl,u]:List Int).getD v.toNat 0=y at *;have lg:(sg.map FF).length=sg.length:=j_ _;refine⟨[Δ (.lst Ξ (ns.map .int)),Δ (.int k),Δ (.int pl),Δ (.int day),Δ (.lst Θ ((sg++[(f,y)]).map FF)),Δ (.int (f+1+w)),Δ (.int (i:Nat)),Δ (.lst Θ [.int 0,.int 10007,.int pl,.int (pl+1),.int pl,.int u])],?_,sg++[(f,y)],_,_,_,rfl,by rw[w_,hl];rfl⟩;have hm:(sg++[(f,y)]).map FF=sg.map FF++[.tup [.int f,.int y]]:=by rw[T_];rfl
   rw[hm];unfold Qd;generalize ns.map D.int=NS,sg.map FF=SG at *
   simp![Ev.cq,ei,e1,e2,e3,Ub,lg])
 rw[jq] at gl;refine⟨sg,?_,by omega⟩;have go:aB T (n+2) 56 [.lst Ξ (ns.map .int),.int k,.int pl,.int day]=_:=gx 56 TL 4 8 TK rfl rfl rfl rfl rfl rfl;rw[go];unfold TK;have Uc:(if day - a > 0 then day - a else 0)=mx:=by have:(.ok (.int (if day - a > 0 then day - a else 0)):Res D)=.ok (.int mx):=Wt;injection this with h1;injection h1
 generalize ns.map D.int=NS,sg.map FF=SG,Qd=tsg at *;simp![ei,d1,d2,Wt,Uc,e]
noncomputable def Oc.t:Oc->D
 | .face f=>.tup [.str "face",.str f]
 | .share f st=>.tup [.str "share",.str f,.lst Θ (st.map FF)]
 | .MV=>.tup [.str "lot"]
theorem Eg (o:Oc):er o.t=o.d:=by
 cases o with
 | share f st=>show D.tup [.str "share",.str f,.lst Ξ (Fx (st.map FF))]=_;rw[dn];rfl
 | _=>rfl
theorem n9 (n:Nat)(ns:List Int){k:Int}(k0:0<=k)(k1:k<=990){fs:List Str}(hf:0 < fs.length)(J2:fs.length<=20)(pl day:Int):∃ o:Oc,aB T (n+3) 57 [.lst Ξ (ns.map .int),.int k,.lst Ξ (fs.map .str),.int pl,.int day]=.ok o.t/\∀ f sg,o=.share f sg->sg.length<=3:=by
 have ei:=Ev.cM ns;have ef:=Ev.cR fs;have lf:(fs.map D.str).length=fs.length:=j_ _;have d1:=cY (n+1) ns (k+1) (fs.length:Int) (by omega) (by omega) (by omega);obtain⟨f,Ud,_⟩:=ek (fs:=fs) (gK ns (k+1) (m:=(fs.length:Int)) (by omega)) (gM ns (k+1) (by omega));generalize dr ns (k+1) (fs.length:Int)=i1 at *;have d2:=cY (n+1) ns k 3 k0 (by omega) (by decide);generalize dr ns k 3=q at *;obtain⟨sg,e,Z'⟩:=qy n ns (k:=k+2) (by omega) (by omega) pl day;cases q0:(q == 0) with
 | true=>refine⟨.face f,?_,fun f sg h=>by cases h⟩;show _=Except.ok (D.tup [.str "face",.str f]);rw[gx 57 Pe 5 7 MN rfl rfl rfl rfl rfl rfl];unfold MN;generalize ns.map D.int=NS,fs.map D.str=FS at *;simp![ei,ef,lf,d1,Ud,d2,q0]
 | false=>
  cases q1:(q == 1) with
  | true=>refine⟨.share f sg,?_,fun f' sg' h=>by cases h;exact Z'⟩;show _=Except.ok (D.tup [.str "share",.str f,.lst Θ (sg.map FF)]);rw[gx 57 Pe 5 7 MN rfl rfl rfl rfl rfl rfl];unfold MN;generalize ns.map D.int=NS,fs.map D.str=FS,sg.map FF=SG at *;simp![ei,ef,lf,d1,Ud,d2,q0,q1,e]
  | false=>refine⟨.MV,?_,fun f sg h=>by cases h⟩;show _=Except.ok (D.tup [.str "lot"]);rw[gx 57 Pe 5 7 MN rfl rfl rfl rfl rfl rfl];unfold MN;generalize ns.map D.int=NS,fs.map D.str=FS at *;simp![ei,ef,lf,d1,Ud,d2,q0,q1]
theorem Bx (cs:List Cn):Fx (cs.map Cn.t)=cs.map Cn.d:=by rw[cJ,E_];exact aad fun c _=>vd c
noncomputable def Rl.t (r:Rl):D:=.tup [Gg r.cs,r.o.t]
theorem Eh (r:Rl):er r.t=r.d:=by show D.tup [er (Gg r.cs),er r.o.t]=_;rw[mU,Eg];rfl
theorem By (rs:List Rl):Fx (rs.map Rl.t)=rs.map Rl.d:=by rw[cJ,E_];exact aad fun c _=>Eh c
theorem xk (n:Nat)(ns:List Int){k:Int}(k0:0<=k)(k1:k<=400){ms gn fs:List Str}(hm:0 < ms.length)(J1:ms.length<=20)(Ll:gn.length<=20)(hf:0 < fs.length)(J2:fs.length<=20){st:Str}(hs:st.length<=100)(c pl day:Int)(a9:Option D)(i:Nat)(hi:i < 5){q:Int}(q0:0<=q)(q1:q < 3)(Nr:Option D) :
  ∃ (cs:List Cn) (Jo:Option D),forM (Ev.turn (aB T (n+4)) (.nm 12) OH) (cO 0 q) [Δ (.lst Ξ (ns.map .int)),Δ (.int k),Δ (.lst Ξ (ms.map .str)),Δ (.lst Ξ (gn.map .str)),Δ (.lst Ξ (fs.map .str)),Δ (.str st),Δ (.int c),Δ (.int pl),Δ (.int day),a9,Δ (.int (i:Nat)),Δ (.lst Θ []),Nr]=.ok (.nx [Δ (.lst Ξ (ns.map .int)),Δ (.int k),Δ (.lst Ξ (ms.map .str)),Δ (.lst Ξ (gn.map .str)),Δ (.lst Ξ (fs.map .str)),Δ (.str st),Δ (.int c),Δ (.int pl),Δ (.int day),a9,Δ (.int (i:Nat)),Δ (.lst Θ (cs.map Cn.t)),Jo])/\cs.length<=2/\∀ c∈cs,Wf c:=by
 have ei:=Ev.cM ns;have em:=Ev.cR ms;have eg:=Ev.cR gn;obtain⟨τ',e,cs,Jo,rfl,hl,hw⟩:=Ev.eh (its:=cO 0 q) (τ:=[Δ (.lst Ξ (ns.map .int)),Δ (.int k),Δ (.lst Ξ (ms.map .str)),Δ (.lst Ξ (gn.map .str)),Δ (.lst Ξ (fs.map .str)),Δ (.str st),Δ (.int c),Δ (.int pl),Δ (.int day),a9,Δ (.int (i:Nat)),Δ (.lst Θ []),Nr]) (body:=Ev.turn (aB T (n+4)) (.nm 12) OH)
  (fun j τ=>∃ (cs:List Cn) (Jo:Option D),τ=[Δ (.lst Ξ (ns.map .int)),Δ (.int k),Δ (.lst Ξ (ms.map .str)),Δ (.lst Ξ (gn.map .str)),Δ (.lst Ξ (fs.map .str)),Δ (.str st),Δ (.int c),Δ (.int pl),Δ (.int day),a9,Δ (.int (i:Nat)),Δ (.lst Θ (cs.map Cn.t)),Jo]/\cs.length=j/\∀ c∈cs,Wf c)
  ⟨[],Nr,rfl,rfl,fun c h=>by simp at h⟩ (by
   rintro j x τ hx ⟨cs,Jo,rfl,hl,hw⟩;obtain⟨hj,rfl⟩:=n8 hx;obtain⟨cn,e,wf,_⟩:=pR n ns (k:=k+6+60*(i:Int)+14*(j:Int)) (by omega) (by omega) hm J1 (gs:=gn) Ll hs c;have lc:cA cn.t=Ξ:=rfl;have ll:(cs.map Cn.t).length=cs.length:=j_ _;refine⟨[Δ (.lst Ξ (ns.map .int)),Δ (.int k),Δ (.lst Ξ (ms.map .str)),Δ (.lst Ξ (gn.map .str)),Δ (.lst Ξ (fs.map .str)),Δ (.str st),Δ (.int c),Δ (.int pl),Δ (.int day),a9,Δ (.int (i:Nat)),Δ (.lst Θ ((cs++[cn]).map Cn.t)),Δ (.int (j:Nat))],?_,cs++[cn],_,rfl,by rw[w_,hl];rfl,fun c hc=>?_⟩
   ·have Po:(cs++[cn]).map Cn.t=cs.map Cn.t++[cn.t]:=by rw[T_];rfl
    rw[Po];unfold OH;generalize ns.map D.int=NS,ms.map D.str=MS,gn.map D.str=GN,fs.map D.str=FS,cs.map Cn.t=CS,cn.t=CT at *;simp![Ev.cq,ei,em,eg,e,lc,ll]
   ·rcases x_.mp hc with hc|hc
    ·exact hw c hc
    ·rw[t_.mp hc];exact wf)
 rw[jq] at hl;exact⟨cs,Jo,e,by omega,hw⟩
theorem xl (n:Nat)(ns:List Int){k:Int}(k0:0<=k)(k1:k<=400){ms gn fs:List Str}(hm:0 < ms.length)(J1:ms.length<=20)(Ll:gn.length<=20)(hf:0 < fs.length)(J2:fs.length<=20){st:Str}(hs:st.length<=100)(c pl day:Int)(i:Nat)(hi:i < 5){rs:List Rl}(SE:rs.length<=10)(JX b11 Nr:Option D) :
  ∃ (r:Rl) (Nt Jo:Option D),Ev.turn (aB T (n+4)) (.nm 10) OI (.int (i:Nat)) [Δ (.lst Ξ (ns.map .int)),Δ (.int k),Δ (.lst Ξ (ms.map .str)),Δ (.lst Ξ (gn.map .str)),Δ (.lst Ξ (fs.map .str)),Δ (.str st),Δ (.int c),Δ (.int pl),Δ (.int day),Δ (.lst Θ (rs.map Rl.t)),JX,b11,Nr]=.ok (.nx [Δ (.lst Ξ (ns.map .int)),Δ (.int k),Δ (.lst Ξ (ms.map .str)),Δ (.lst Ξ (gn.map .str)),Δ (.lst Ξ (fs.map .str)),Δ (.str st),Δ (.int c),Δ (.int pl),Δ (.int day),Δ (.lst Θ ((rs++[r]).map Rl.t)),Δ (.int (i:Nat)),Nt,Jo])/\(∀ c∈r.cs,Wf c)/\r.cs.length<=2/\∀ f sg,r.o=.share f sg->sg.length<=3:=by
 obtain⟨q,d1,q0,q1⟩:=Ht (n+3) ns (k+1+(i:Int)) 3 (by omega) (by omega) (by decide);obtain⟨cs,Jo,e,lcs,wf⟩:=xk n ns k0 k1 hm J1 Ll hf J2 hs c pl day (Δ (.lst Θ (rs.map Rl.t))) i hi q0 q1 Nr;obtain⟨o,e2,ho⟩:=n9 (n+1) ns (k:=k+40+60*(i:Int)) (by omega) (by omega) hf J2 pl day;have ei:=Ev.cM ns;have ef:=Ev.cR fs;have ec:=Bx cs;have ll:(rs.map Rl.t).length=rs.length:=j_ _;refine⟨⟨cs,o⟩,Δ (.lst Ξ (cs.map Cn.d)),Jo,?_,wf,lcs,ho⟩;have Po:(rs++[(⟨cs,o⟩:Rl)]).map Rl.t=rs.map Rl.t++[.tup [.lst Ξ (cs.map Cn.d),o.t]]:=by rw[T_];rfl
 rw[Po];unfold OI;generalize ns.map D.int=NS,ms.map D.str=MS,gn.map D.str=GN,fs.map D.str=FS,cs.map Cn.t=CT,cs.map Cn.d=CD,rs.map Rl.t=RT,o.t=OT,OH=tin at *;cases lo:cA OT<;>simp![Ev.cq,ei,ef,d1,e,ec,e2,lo,ll]
theorem vf (n:Nat)(ns:List Int){k:Int}(k0:0<=k)(k1:k<=400){ms gn fs:List Str}(hm:0 < ms.length)(J1:ms.length<=20)(Ll:gn.length<=20)(hf:0 < fs.length)(J2:fs.length<=20){st:Str}(hs:st.length<=100)(c pl day:Int):∃ rs:List Rl,aB T (n+5) 58 [(.lst Ξ (ns.map .int)),(.int k),(.lst Ξ (ms.map .str)),(.lst Ξ (gn.map .str)),(.lst Ξ (fs.map .str)),(.str st),(.int c),(.int pl),(.int day)]=.ok (.lst Θ (rs.map Rl.t))/\rs.length<=4/\∀ r∈rs,(∀ c∈r.cs,Wf c)/\r.cs.length<=2/\∀ f sg,r.o=.share f sg->sg.length<=3:=by
 obtain⟨q,d1,q0,q1⟩:=Ht (n+3) ns k 5 k0 (by omega) (by decide);have ei:=Ev.cM ns;obtain⟨τ',e,rs,IZ,Nt,Jo,rfl,hl,hw⟩:=Ev.eh (its:=cO 0 q) (τ:=[Δ (.lst Ξ (ns.map .int)),Δ (.int k),Δ (.lst Ξ (ms.map .str)),Δ (.lst Ξ (gn.map .str)),Δ (.lst Ξ (fs.map .str)),Δ (.str st),Δ (.int c),Δ (.int pl),Δ (.int day),Δ (.lst Θ []),Φ,Φ,Φ]) (body:=Ev.turn (aB T (n+4)) (.nm 10) OI)
  (fun j τ=>∃ (rs:List Rl) (IZ Nt Jo:Option D),τ=[Δ (.lst Ξ (ns.map .int)),Δ (.int k),Δ (.lst Ξ (ms.map .str)),Δ (.lst Ξ (gn.map .str)),Δ (.lst Ξ (fs.map .str)),Δ (.str st),Δ (.int c),Δ (.int pl),Δ (.int day),Δ (.lst Θ (rs.map Rl.t)),IZ,Nt,Jo]/\rs.length=j/\∀ r∈rs,(∀ c∈r.cs,Wf c)/\r.cs.length<=2/\∀ f sg,r.o=.share f sg->sg.length<=3)
  ⟨[],Φ,Φ,Φ,rfl,rfl,fun c h=>by simp at h⟩ (by
   rintro j x τ hx ⟨rs,IZ,Nt,Jo,rfl,hl,hw⟩;obtain⟨hj,rfl⟩:=n8 hx;obtain⟨r,d11,d12,e,h1⟩:=xl n ns k0 k1 hm J1 Ll hf J2 hs c pl day j (by omega) (rs:=rs) (by omega) IZ Nt Jo;refine⟨_,e,rs++[r],_,d11,d12,rfl,by rw[w_,hl];rfl,fun r' hr=>?_⟩;rcases x_.mp hr with hr|hr
   ·exact hw r' hr
   ·rw[t_.mp hr];exact h1)
 rw[jq] at hl;refine⟨rs,?_,by omega,hw⟩;have go:aB T (n+5) 58 [(.lst Ξ (ns.map .int)),(.int k),(.lst Ξ (ms.map .str)),(.lst Ξ (gn.map .str)),(.lst Ξ (fs.map .str)),(.str st),(.int c),(.int pl),(.int day)]=_:=gx 58 TN 9 13 TM rfl rfl rfl rfl rfl rfl;rw[go];unfold TM;generalize ns.map D.int=NS,ms.map D.str=MS,gn.map D.str=GN,fs.map D.str=FS,rs.map Rl.t=RT,OI=tou at *;simp![ei,d1,e]
section
variable (n:Nat)(ns:List Int){k:Int}(k0:0<=k)(k1:k<=1000){fs:List Str}(J2:fs.length<=20)(s3 s4:Option D)(j:Nat)(hj:j < fs.length){ms:List (Str×Tn)}(hl:ms.length<=20)
include k0 k1 J2 hl in
theorem E1 {w:Int}(w0:0<=w)(t:Tn):∃ J3:List (Str×Tn),Gv (aB T (n+3)) Qe [Δ (.lst Ξ (ns.map .int)),Δ (.int k),Δ (.lst Ξ (fs.map .str)),s3,s4,Δ (.lst Θ (ms.map Gs)),Δ (.int (j:Nat)),Δ (.int w),Δ t.d]=.ok (.nx [Δ (.lst Ξ (ns.map .int)),Δ (.int k),Δ (.lst Ξ (fs.map .str)),s3,s4,Δ (.lst Θ (J3.map Gs)),Δ (.int (j:Nat)),Δ (.int w),Δ t.d])/\(J3=ms∨∃ (q:Nat) (t:Tn),J3=ms.take q++(fs[j],t)::ms.drop q):=by
 have ei:=Ev.cM ns;have ef:=Ev.cR fs;have et:=uG t;have lt:=Eb t;obtain⟨q,d3,q0,q1⟩:=Ht (n+2) ns (k+6+8*(j:Int)) ((ms.length:Int)+1) (by omega) (by omega) (by omega);obtain⟨nm,Oz,QB⟩:=ek (fs:=fs) (i:=(j:Int)) (by omega) (by omega);have HN:nm=fs[j]:=by rw[aaG,y_ hj] at QB;exact(F_ QB).symm
 have lm:(ms.map Gs).length=ms.length:=j_ _;have gd:decide (0<=q/\q.toNat<=ms.length)=Θ:=I_ (by omega);have Ue:(ms.take q.toNat++(fs[j],t)::ms.drop q.toNat).map Gs=(ms.map Gs).take q.toNat++.tup [.str nm,t.d]::(ms.map Gs).drop q.toNat:=by rw[T_,b_,List.map_take,List.map_drop,HN];rfl
 unfold Qe;cases hw:decide (0 < w) with
 | false=>refine⟨ms,?_,.inl rfl⟩;generalize ns.map D.int=NS,fs.map D.str=FS,ms.map Gs=MS,t.d=TD at *;simp![hw]
 | true=>
  refine⟨ms.take q.toNat++(fs[j],t)::ms.drop q.toNat,?_,.inr ⟨_,_,rfl⟩⟩;rw[Ue];have Wu:cA (.tup [.str nm,t.d])=Θ:=by show (Θ&&(cA t.d&&Θ))=Θ;rw[lt];rfl
  generalize ns.map D.int=NS,fs.map D.str=FS,ms.map Gs=MS at *;have kp:∀ e τ,cG e (.tup [.str nm,t.d]) τ=(.tup [.str nm,t.d],τ):=fun e τ=>by unfold cG;rw[f_ Wu]
  generalize t.d=TD at *;simp![hw,ei,ef,Oz,d3,lm,gd,kp,lt,Wu,et]
include k0 k1 in
theorem E2 (Li:j<=20)(c:Int){st:Str}(hs:st.length<=100){w:Int}(w0:0<=w)(w1:w < 5)(x:Int)(s2 s5:Option D):∃ t:Tn,∀ F,Gv (aB T (n+3)) Qe [Δ (.lst Ξ (ns.map .int)),Δ (.int k),s2,Δ (.str st),Δ (.int c),s5,Δ (.int (j:Nat)),Δ (.int w),Δ t.d]=.ok (.nx F)->cI (aB T (n+3)) Qf [Δ (.lst Ξ (ns.map .int)),Δ (.int k),s2,Δ (.str st),Δ (.int c),s5,Δ (.int (j:Nat)),Δ (.int w),Δ (.int x)]=.ok (.nx F):=by
 have ei:=Ev.cM ns;unfold Qf;rcases (show w=0∨w=1∨w=2∨w=3∨w=4 by omega) with rfl|rfl|rfl|rfl|rfl
 ·refine⟨.i x,fun F e=>?_⟩;rw[sk rfl,sk rfl,sk rfl];exact mT e
 ·have d2:=cY (n+2) ns (k+2+8*(j:Int)) 3 (by omega) (by omega) (by decide);have Ug:=Ev.Nl (o:=Θ) (xs:=[1000000000,0 - 1000000000,c+3]) (i:=dr ns (k+2+8*(j:Int)) 3) (gK ns _ (by decide)) (gM ns (k+2+8*(j:Int)) (m:=3) (by decide));generalize dr ns (k+2+8*(j:Int)) 3=u at *;have Ug:cH (.lst Θ [.int 1000000000,.int (0 - 1000000000),.int (c+3)]) (.int u)=.ok (.int ([1000000000,0 - 1000000000,c+3].getD u.toNat 0)):=Ug;generalize ([1000000000,0 - 1000000000,c+3]:List Int).getD u.toNat 0=y at *;have LP:decide ((0:Int)<=9/\(9:Int)<=1000000/\Int.natAbs 10 < 2 ^ 64)=Θ:=by decide
  have hp2:((10:Int) ^ Int.toNat 9)=1000000000:=by decide
  refine⟨.i y,fun F e=>?_⟩;rw[Lk rfl (τ':=[Δ (.lst Ξ (ns.map .int)),Δ (.int k),s2,Δ (.str st),Δ (.int c),s5,Δ (.int (j:Nat)),Δ (.int 1),Δ (.int y)]) ?_,sk rfl,sk rfl]
  ·exact mT e
  clear e;unfold Wa;generalize ns.map D.int=NS at *;simp![ei,d2,LP,hp2,Ug]
 ·obtain⟨z,ez,lz⟩:=ir (n+1) ns (k:=k+3+8*(j:Int)) (by omega) (by omega) hs;refine⟨.s z,fun F e=>?_⟩;rw[sk rfl,Lk rfl (τ':=[Δ (.lst Ξ (ns.map .int)),Δ (.int k),s2,Δ (.str st),Δ (.int c),s5,Δ (.int (j:Nat)),Δ (.int 2),Δ (.str z)]) ?_,sk rfl]
  ·exact mT e
  clear e;unfold S1;generalize ns.map D.int=NS at *;simp![ei,ez]
 ·obtain⟨z,ez,lz⟩:=ir (n+1) ns (k:=k+3+8*(j:Int)) (by omega) (by omega) hs;have aae:(z++st).length<=300:=by rw[pG];omega
  have aaf:z.length+st.length<=300:=by omega
  refine⟨.s (Txt.slice (z++st) Φ (Δ 12)),fun F e=>?_⟩;rw[sk rfl,Lk rfl (τ':=[Δ (.lst Ξ (ns.map .int)),Δ (.int k),s2,Δ (.str st),Δ (.int c),s5,Δ (.int (j:Nat)),Δ (.int 3),Δ (.str z)]) ?_,Lk rfl (τ':=[Δ (.lst Ξ (ns.map .int)),Δ (.int k),s2,Δ (.str st),Δ (.int c),s5,Δ (.int (j:Nat)),Δ (.int 3),Δ (.str (Txt.slice (z++st) Φ (Δ 12)))]) ?_]
  ·exact mT e
  ·clear e;unfold Wb;generalize ns.map D.int=NS at *;simp![Fv]
  ·clear e;unfold S1;generalize ns.map D.int=NS at *;simp![ei,ez]
 ·refine⟨.i x,fun F e=>?_⟩;rw[sk rfl,sk rfl,sk rfl];exact mT e
end
theorem xn (n:Nat)(ns:List Int){k:Int}(k0:0<=k)(k1:k<=1000){fs:List Str}(J2:fs.length<=20){st:Str}(hs:st.length<=100)(c:Int)(j:Nat)(hj:j < fs.length){ms:List (Str×Tn)}(hl:ms.length<=20)(b6 b7 b8:Option D) :
  ∃ (J3:List (Str×Tn)) (c7 c8:Option D),Ev.turn (aB T (n+3)) (.nm 6) OJ (.int (j:Nat)) [Δ (.lst Ξ (ns.map .int)),Δ (.int k),Δ (.lst Ξ (fs.map .str)),Δ (.str st),Δ (.int c),Δ (.lst Θ (ms.map Gs)),b6,b7,b8]=.ok (.nx [Δ (.lst Ξ (ns.map .int)),Δ (.int k),Δ (.lst Ξ (fs.map .str)),Δ (.str st),Δ (.int c),Δ (.lst Θ (J3.map Gs)),Δ (.int (j:Nat)),c7,c8])/\(J3=ms∨∃ (q:Nat) (t:Tn),J3=ms.take q++(fs[j],t)::ms.drop q):=by
 have ei:=Ev.cM ns;obtain⟨w,d1,w0,w1⟩:=Ht (n+2) ns (k+8*(j:Int)) 5 (by omega) (by omega) (by decide);obtain⟨x,ex⟩:=hG (n+1) ns (k:=k+1+8*(j:Int)) (by omega) (by omega) c;obtain⟨t,h⟩:=E2 n ns k0 k1 j (by omega) c hs w0 w1 x (Δ (.lst Ξ (fs.map .str))) (Δ (.lst Θ (ms.map Gs)));obtain⟨J3,e,hm⟩:=E1 n ns k0 k1 J2 (Δ (.str st)) (Δ (.int c)) j hj hl w0 t;have e2:=h _ e;refine⟨J3,Δ (.int w),Δ t.d,?_,hm⟩;unfold OJ;generalize ns.map D.int=NS,fs.map D.str=FS,ms.map Gs=MS,J3.map Gs=MS',Qf=tm,t.d=TD at *;simp![Ev.cq,ei,d1,ex,e2]
theorem vi (n:Nat)(ns:List Int){k:Int}(k0:0<=k)(k1:k<=1000){fs:List Str}(J2:fs.length<=20)(LW:fs.Nodup){st:Str}(hs:st.length<=100)(c:Int) :
  ∃ ms:List (Str×Tn),aB T (n+4) 59 [(.lst Ξ (ns.map .int)),(.int k),(.lst Ξ (fs.map .str)),(.str st),(.int c)]=.ok (.lst Θ (ms.map Gs))/\(ms.map (·.1)).Nodup/\ms.length<=20:=by
 have ei:=Ev.cM ns;have ef:=Ev.cR fs;have lf:(fs.map D.str).length=fs.length:=j_ _;obtain⟨τ',e,ms,c6,c7,c8,rfl,Uh,IV,hl⟩:=Ev.eh (its:=cO 0 (fs.length:Int)) (τ:=[Δ (.lst Ξ (ns.map .int)),Δ (.int k),Δ (.lst Ξ (fs.map .str)),Δ (.str st),Δ (.int c),Δ (.lst Θ []),Φ,Φ,Φ]) (body:=Ev.turn (aB T (n+3)) (.nm 6) OJ)
  (fun j τ=>∃ (ms:List (Str×Tn)) (c6 c7 c8:Option D),τ=[Δ (.lst Ξ (ns.map .int)),Δ (.int k),Δ (.lst Ξ (fs.map .str)),Δ (.str st),Δ (.int c),Δ (.lst Θ (ms.map Gs)),c6,c7,c8]/\(ms.map (·.1)).Nodup/\(∀ p∈ms,p.1∈fs.take j)/\ms.length<=j)
  ⟨[],Φ,Φ,Φ,rfl,List.nodup_nil,fun p h=>by simp at h,by simp⟩ (by
   rintro j x τ hx ⟨ms,c6,c7,c8,rfl,hn,IV,hl⟩;obtain⟨hj,rfl⟩:=n8 hx;have hj:j < fs.length:=by omega
   obtain⟨J3,d7,d8,e,h⟩:=xn n ns k0 k1 J2 hs c j hj (ms:=ms) (by omega) c6 c7 c8;have sub:∀ y,y∈fs.take j->y∈fs.take (j+1):=fun y hy=>by rw[List.take_succ_eq_append_getElem hj];exact q_ _ hy
   refine⟨_,e,J3,_,d7,d8,rfl,?_⟩;rcases h with rfl|⟨q,t,rfl⟩
   ·exact⟨hn,fun p hp=>sub _ (IV p hp),by omega⟩
   ·have pm:(ms.take q++(fs[j],t)::ms.drop q).Perm ((fs[j],t)::ms):=by refine List.perm_middle.trans ?_;rw[List.take_append_drop]
    refine⟨(pm.map (·.1)).nodup_iff.mpr ?_,fun p hp=>?_,?_⟩
    ·rw[b_,H_];refine⟨fun z=>?_,hn⟩;obtain⟨p,hp,e⟩:=List.mem_map.mp z;have h1:=IV p hp;rw[e] at h1;obtain⟨i,hi,e2⟩:=List.mem_iff_getElem.mp h1;rw[aan] at hi;rw[List.getElem_take] at e2;exact List.pairwise_iff_getElem.mp LW i j (by omega) hj (by omega) e2
    ·rcases k_.mp (pm.mem_iff.mp hp) with rfl|hp
     ·rw[List.take_succ_eq_append_getElem hj];exact r_ _ (t_.mpr rfl)
     ·exact sub _ (IV p hp)
    ·rw[pm.length_eq,List.length_cons];omega)
 rw[jq] at hl;refine⟨ms,?_,Uh,by omega⟩;have go:aB T (n+4) 59 [(.lst Ξ (ns.map .int)),(.int k),(.lst Ξ (fs.map .str)),(.str st),(.int c)]=_:=gx 59 TR 5 9 TQ rfl rfl rfl rfl rfl rfl;rw[go];unfold TQ;generalize ns.map D.int=NS,fs.map D.str=FS,ms.map Gs=MS,OJ=tmk at *;simp![ei,ef,lf,e]
theorem og {α:Type}(f:α->D)(o:Bool){xs:List α}{i:Int}{a:α}(h0:0<=i)(h:xs[i.toNat]? = Δ a):cH (.lst o (xs.map f)) (.int i)=.ok (f a):=by
 have hl:i.toNat < xs.length:=(v_.mp h).1;have e:GU (xs.map f) i=Δ (f a):=by unfold GU Hb;rw[f_ h0,f_ (show i < ((xs.map f).length:Nat) by rw[j_];omega)];show (xs.map f)[i.toNat]? = _;rw[B_,h];rfl
 show (match GU (xs.map f) i with|some d=>.ok d|none=>FC:Res D)=_;rw[e]
theorem xo (o:Bool)(r:List D)(p:D):cH (.lst o (r++[p])) (.int (-1))=.ok p:=by
 have e:GU (r++[p]) (-1)=Δ p:=by unfold GU Hb;rw[d_ (by decide),w_,V_,f_ (by omega)];show (r++[p])[((-1:Int)+((r.length+1:Nat):Int)).toNat]? = _;rw[show ((-1:Int)+((r.length+1:Nat):Int)).toNat=r.length by omega];simp
 show (match GU (r++[p]) (-1) with|some d=>.ok d|none=>FC:Res D)=_;rw[e]
def Rn (b:Nat)(r:List (Int×Int)):Prop:=r.length<=b/\∀ p∈r,p.1<=p.2
theorem Rn.le {b c:Nat}{r:List (Int×Int)}(h:Rn b r)(l:b<=c):Rn c r:=⟨M_ h.1 l,h.2⟩
theorem Rn.add {b:Nat}{q:List (Int×Int)}{p:Int×Int}(h:Rn b q)(hp:p.1<=p.2):Rn (b+1) (q++[p]):=⟨by rw[w_];exact Nat.succ_le_succ h.1,fun x hx=>by
 rcases x_.mp hx with hx|hx
 ·exact h.2 x hx
 ·rw[t_.mp hx];exact hp⟩
noncomputable def GZ (r:List (Int×Int)):D:=.lst Θ (r.map FF)
noncomputable def Wv (r:List (Int×Int)):D:=.lst Ξ (r.map FF)
theorem Bz (rs:List (List (Int×Int))):Fx (rs.map GZ)=rs.map Wv:=by rw[cJ,E_];refine aad fun p _=>?_;show D.lst Ξ (Fx (p.map FF))=_;rw[dn];rfl
theorem BA (r:List (Int×Int)):cp (r.map FF)=Θ:=by rw[dt,List.all_map];exact U_.mpr fun _ _=>rfl
theorem BB {cl:Nat->List D->Res D}{i j k:Nat}{c x v w:IR}{ds es:List D}{τ:Ev}(h:ds[k]? = Δ (.lst Θ es))(hf:cp es=Θ)(hj:nB τ j=Θ) :
  nC cl i j c x v w ds τ (Δ k)=E3 (E3 (E8 cl c (τ.set j (Δ (.lst Θ es)))) cK) (ql cl i j k x v w ds es τ):=by
 show (match ds[k]? with|some (.lst Θ es)=>Fw (cp es&&nB τ j) (E3 (E3 (E8 cl c (τ.set j (Δ (.lst Θ es)))) cK) (ql cl i j k x v w ds es τ))|_=>FC)=_;rw[h];show Fw (cp es&&nB τ j) _=_;rw[hf,hj];rfl
theorem xq (cl:Nat->List D->Res D)(s0 s1 s2 s3 s4 s5 s7 IU:Option D)(low high:Int){rs:List (List (Int×Int))}{k b:Nat}(hk:k < rs.length)(hb:b<=100)(lh:low<=high)(hr:∀ r∈rs,Rn b r) :
  ∃ J4:List (List (Int×Int)),nC cl 6 10 Nm OK OL Qg (rs.map GZ) [s0,s1,s2,s3,s4,s5,Δ (.lst Θ (rs.map GZ)),s7,Δ (.int low),Δ (.int high),IU] (Δ k)=.ok (.nx [s0,s1,s2,s3,s4,s5,Δ (.lst Θ (J4.map GZ)),s7,Δ (.int low),Δ (.int high),Φ])/\J4.length=rs.length/\∀ r∈J4,Rn (b+1) r:=by
 have hg:(rs.map GZ)[k]? = Δ (.lst Θ (rs[k].map FF)):=by rw[B_,y_ hk];rfl
 have hm:=hr _ (aav hk);generalize rs[k]=r at *;have key:∀ r':List (Int×Int),Rn (b+1) r'->∀ x∈rs.set k r',Rn (b+1) x:=fun r' h x hx=>by
  rcases List.mem_or_eq_of_mem_set hx with hx|rfl
  ·exact(hr x hx).le (Nat.le_succ b)
  ·exact h
 have out:∀ r':List (Int×Int),(rs.set k r').map GZ=(rs.map GZ).set k (.lst Θ (r'.map FF)):=fun r'=>by rw[List.map_set];rfl
 have add:Aj 6 10 k (rs.map GZ) (r.map FF) [s0,s1,s2,s3,s4,s5,Δ (.lst Θ (rs.map GZ)),s7,Δ (.int low),Δ (.int high),IU] (.tup [.int low,.int high])=.ok (.nx [s0,s1,s2,s3,s4,s5,Δ (.lst Θ ((rs.set k (r++[(low,high)])).map GZ)),s7,Δ (.int low),Δ (.int high),Φ]):=by have h2:dP (r.map FF).length=Θ:=Ev.jf (by rw[j_];have:=hm.1;omega);show Fw (Θ&&dP (r.map FF).length) _=_;rw[h2,out,T_];rfl
 rw[BB hg (BA r) rfl];rcases List.eq_nil_or_concat r with rfl|⟨q,⟨p1,p2⟩,rfl⟩
 ·refine⟨rs.set k ([]++[(low,high)]),?_,List.length_set,key _ (hm.add lh)⟩;rw[<- add];generalize rs.map GZ=RS at *;have hc:E8 cl Nm ([s0,s1,s2,s3,s4,s5,Δ (.lst Θ RS),s7,Δ (.int low),Δ (.int high),IU].set 10 (Δ (.lst Θ (([]:List (Int×Int)).map FF))))=.ok (.bl Ξ):=rfl;rw[hc];rfl
 ·rw[List.concat_eq_append] at *;have Ww:cH (.lst Θ ((q++[(p1,p2)]).map FF)) (.int (-1))=.ok (.tup [.int p1,.int p2]):=by rw[T_];exact xo Θ _ _
  have Hg:∀ f:D->D->Res Bool,ff f ((q++[(p1,p2)]).map FF) []=.ok Ξ:=fun f=>by
   rw[T_];cases q with
   | nil=>rfl
   | cons a q=>rfl
  have lq:((q++[(p1,p2)]).map FF).length=q.length+1:=by rw[j_,w_];rfl
  cases hc:(p2 == low) with
  | true=>
   have h2:p1<=p2:=hm.2 (p1,p2) (r_ _ (t_.mpr rfl));have h3:p2=low:=by simpa using hc
   have h4:Rn b q:=⟨M_ (by rw[w_];exact aak _ _) hm.1,fun x hx=>hm.2 x (q_ _ hx)⟩
   refine⟨rs.set k (q++[(p1,high)]),?_,List.length_set,key _ (h4.add (by show p1<=high;omega))⟩;have hs:v8 6 10 k (rs.map GZ) ((q++[(p1,p2)]).map FF) [s0,s1,s2,s3,s4,s5,Δ (.lst Θ (rs.map GZ)),s7,Δ (.int low),Δ (.int high),IU] (.tup [.int p1,.int high]) (.int (-1))=.ok (.nx [s0,s1,s2,s3,s4,s5,Δ (.lst Θ ((rs.set k (q++[(p1,high)])).map GZ)),s7,Δ (.int low),Δ (.int high),Φ]):=by
    have hi:Hb ((q++[(p1,p2)]).map FF).length (-1)=Δ q.length:=by rw[lq];unfold Hb;rw[d_ (by decide),f_ (by omega)];congr 1;omega
    show (match Hb ((q++[(p1,p2)]).map FF).length (-1) with
     | some t=>Fw Θ (.ok (.nx [s0,s1,s2,s3,s4,s5,Δ (.lst Θ ((rs.map GZ).set k (.lst Θ (((q++[(p1,p2)]).map FF).set t (.tup [.int p1,.int high]))))),s7,Δ (.int low),Δ (.int high),Φ]))
     | none=>FC:Res Fl)=_
    rw[hi];show Except.ok (Fl.nx [s0,s1,s2,s3,s4,s5,Δ (.lst Θ ((rs.map GZ).set k (.lst Θ (((q++[(p1,p2)]).map FF).set q.length (.tup [.int p1,.int high]))))),s7,Δ (.int low),Δ (.int high),Φ])=_;rw[out,T_,T_];have:(q.map FF++[(p1,p2)].map FF).set q.length (.tup [.int p1,.int high])=q.map FF++[(p1,high)].map FF:=by rw[List.set_append_right _ _ (by rw[j_];exact n_ _),j_,Nat.sub_self];rfl
    rw[this]
   rw[<- hs];generalize rs.map GZ=RS,(q++[(p1,p2)]).map FF=Q at *;unfold Nm OK OL ql;simp![Ww,Hg,hc]
  | false=>refine⟨rs.set k ((q++[(p1,p2)])++[(low,high)]),?_,List.length_set,key _ (hm.add lh)⟩;rw[<- add];generalize rs.map GZ=RS,(q++[(p1,p2)]).map FF=Q at *;unfold Nm OK OL Qg ql;simp![Ww,Hg,hc]
theorem xr (n:Nat)(ns:List Int){k:Int}(k0:0<=k)(k1:k<=1000)(s2 s3 s4 s8 s9 IU:Option D){zs:List (Int×Int)}{j:Nat}(hj:j < zs.length)(hz:zs.length<=100)(Ro:∀ p∈zs,p.1<=p.2)(s7:Option D){rs:List (List (Int×Int))}(h0:0 < rs.length)(hr:∀ r∈rs,Rn j r) :
  ∃ (J4:List (List (Int×Int))) (c8 c9:Option D),Ev.turn (aB T (n+1)) (.nm 7) Nn (.int (j:Nat)) [Δ (.lst Ξ (ns.map .int)),Δ (.int k),s2,s3,s4,Δ (.lst Ξ (zs.map FF)),Δ (.lst Θ (rs.map GZ)),s7,s8,s9,IU]=.ok (.nx [Δ (.lst Ξ (ns.map .int)),Δ (.int k),s2,s3,s4,Δ (.lst Ξ (zs.map FF)),Δ (.lst Θ (J4.map GZ)),Δ (.int (j:Nat)),c8,c9,Φ])/\J4.length=rs.length/\∀ r∈J4,Rn (j+1) r:=by
 have ei:=Ev.cM ns;have lr:(rs.map GZ).length=rs.length:=j_ _;obtain⟨q,d1,q0,q1⟩:=Ht n ns (k+8+(j:Int)) (rs.length:Int) (by omega) (by omega) (by omega);have hx:cH (.lst Ξ (zs.map FF)) (.int (j:Int))=.ok (.tup [.int (zs[j]).1,.int (zs[j]).2]):=og FF Ξ (a:=zs[j]) (by omega) (by rw[aaG,y_ hj]);have lh:=Ro _ (aav hj);generalize (zs[j]).1=lo,(zs[j]).2=hi at *;have hq:Hb rs.length q=Δ q.toNat:=by unfold Hb;rw[f_ q0,f_ q1]
 obtain⟨J4,e,h1,h2⟩:=xq (aB T (n+1)) (Δ (.lst Ξ (ns.map .int))) (Δ (.int k)) s2 s3 s4 (Δ (.lst Ξ (zs.map FF))) (Δ (.int (j:Nat))) IU lo hi (rs:=rs) (k:=q.toNat) (b:=j) (by omega) (by omega) lh hr;refine⟨J4,Δ (.int lo),Δ (.int hi),?_,h1,h2⟩;unfold Nn;generalize Nm=ca,OK=xa,OL=va,Qg=wa,ns.map D.int=NS,zs.map FF=ZS,rs.map GZ=RS,J4.map GZ=RS' at *;simp![Ev.cq,ei,lr,hx,d1,hq,e]
theorem pS {g:D->Res (Option D)}{P:Int->Prop}:∀ (xs:List Int),(∀ x∈xs,g (.int x)=.ok (Δ (.int x))/\P x∨g (.int x)=.ok Φ)->∃ ys:List Int,cC g (xs.map .int)=.ok (ys.map .int)/\ys.length<=xs.length/\∀ y∈ys,P y
 | [],_=>⟨[],rfl,n_ _,fun y hy=>by cases hy⟩
 | x::xs,h=>by
  obtain⟨ys,e,hl,hp⟩:=pS (P:=P) xs fun z hz=>h z (G_ _ hz);rcases h x (.head _) with ⟨hx,px⟩|hx
  ·refine⟨x::ys,by rw[b_];unfold cC;rw[hx];show E3 (cC g (xs.map .int)) _=_;rw[e];rfl,Nat.succ_le_succ hl,fun y hy=>?_⟩;rcases k_.mp hy with rfl|hy
   ·exact px
   ·exact hp y hy
  ·exact⟨ys,by rw[b_];unfold cC;rw[hx];exact e,Nat.le_succ_of_le hl,hp⟩
noncomputable def Pp (p:Str×List (Int×Int)):D:=.tup [.str p.1,.lst Θ (p.2.map FF)]
theorem BC (al:Al):Fx (al.map Pp)=al.map GX:=by rw[cJ,E_];refine aad fun p _=>?_;show D.tup [.str p.1,.lst Ξ (Fx (p.2.map FF))]=_;rw[dn];rfl
theorem mV {α β:Type}(f:α->β)(xs:List α)(lo hi:Option Int):d6 (xs.map f) lo hi=(d6 xs lo hi).map f:=by unfold d6;rw[j_,<- List.map_drop,<- List.map_take]
theorem xu {α:Type}(xs:List α)(lo hi:Option Int):(d6 xs lo hi).length<=xs.length:=by unfold d6;rw[aan,aap];omega
theorem zh:∀ xs:List Int,fg (xs.map .int)=Δ xs
 | []=>rfl
 | x::xs=>by show (fg (xs.map .int)).map (x::·)=_;rw[zh xs];rfl
theorem pT:∀ (xs s:List Int) {y:Int},y∈xs.foldl step_dedup s->y∈s∨y∈xs
 | [],s,y,h=>.inl h
 | x::xs,s,y,h=>by
  rcases pT xs _ h with h|h
  ·unfold step_dedup at h;split at h
   ·exact .inl h
   ·rcases x_.mp h with h|h
    ·exact .inl h
    ·rw[t_.mp h];exact .inr (.head _)
  ·exact .inr (.tail _ h)
theorem BE {xs:List Int}{y:Int}(h:y∈dd xs):y∈xs:=(pT xs [] h).resolve_left (by simp)
theorem BF {o:Bool}{xs:List Int}(h:xs.length < 64):∃ ys:List Int,oB (.lst o (xs.map .int))=.ok (.lst Θ (ys.map .int))/\ys.length<=xs.length/\ys.Pairwise (·<=·)/\∀ y∈ys,y∈xs:=by refine⟨PySem.W.sortI (dd xs),?_,by rw[(PySem.W.sortI_perm _).length_eq];exact rE xs,PySem.W.sortI_rises _,fun y hy=>BE ((PySem.W.sortI_perm _).mem_iff.mp hy)⟩;show (match fg (xs.map .int) with|some ns=>Fw (decide (ns.length < 64)) (.ok (.lst Θ ((PySem.W.sortI (dd ns)).map .int)))|none=>FC:Res D)=_;rw[zh];show Fw (decide (xs.length < 64)) _=_;rw[I_ h];rfl
theorem zi:∀ (xs ys:List Int),eE (xs.map .int) (ys.map .int)=(xs.zip ys).map FF
 | [],_=>rfl
 | _::_,[]=>rfl
 | x::xs,y::ys=>by have:=zi xs ys;unfold eE at this ⊢;rw[b_,b_,List.zipWith_cons_cons,this];rfl
theorem vj {α:Type}(xs:List α){m:Int}(h:0<=m):d6 xs (Δ m) Φ=xs.drop m.toNat:=by
 unfold d6 HT.Ig;simp only;rw[d_ (by omega)];by_cases hm:m.toNat<=xs.length
 ·rw[show min m.toNat xs.length=m.toNat from Nat.min_eq_left hm,List.take_of_length_le (by rw[aap];omega)]
 ·rw[show min m.toNat xs.length=xs.length from Nat.min_eq_right (by omega),List.drop_length,List.take_nil,List.drop_of_length_le (by omega)]
theorem vk (c:Int):∀ xs:List Int,xs.Pairwise (·<=·)->(∀ x∈xs,x < c)->∀ p∈xs.zip (xs.drop 1++[c]),p.1<=p.2
 | [],_,_,p,hp=>by cases hp
 | [x],_,h,p,hp=>by have:p=(x,c):=t_.mp hp;rw[this];exact Int.le_of_lt (h x (.head _))
 | x::y::r,hs,h,p,hp=>by
  rcases k_.mp (show p∈(x,y)::(y::r).zip ((y::r).drop 1++[c]) from hp) with rfl|hp
  ·exact(List.pairwise_cons.mp hs).1 y (.head _)
  ·exact vk c (y::r) (List.pairwise_cons.mp hs).2 (fun z hz=>h z (.tail _ hz)) p hp
theorem xw (fs:List Str)(rs:List (List (Int×Int))):((jc (fs.length:Int)).map fun j=>(fs.getD j.toNat (Ρ ""),rs.getD j.toNat [])).map (·.1)=fs:=by
 unfold jc;rw[E_,E_];apply List.ext_getElem?;intro i;rw[B_];by_cases h:i < fs.length
 ·rw[List.getElem?_range (by omega),y_ h];show Δ (fs.getD ((0:Int)+(i:Nat)).toNat _)=_;rw[show ((0:Int)+(i:Nat)).toNat=i by omega,aaw,y_ h];rfl
 ·rw[List.getElem?_eq_none (by rw[aam];omega),List.getElem?_eq_none (by omega)];rfl
theorem vn (n:Nat)(ns:List Int){k:Int}(k0:0<=k)(k1:k<=1000){fs:List Str}(Wx:0 < fs.length)(hf:fs.length<=20)(pl:Int) :
  ∃ (al:Al) (fr:List (Int×Int)),aB T (n+2) 48 [.lst Ξ (ns.map .int),.int k,.lst Ξ (fs.map .str),.int pl]=.ok (.tup [.lst Θ (al.map GX),.lst Ξ (fr.map FF)])/\al.map (·.1)=fs/\(∀ p∈al,p.2.length<=20)/\Rn 20 fr:=by
 have ei:=Ev.cM ns;have ef:=Ev.cR fs;have Wy:(fs.map D.str).length=fs.length:=j_ _;obtain⟨m,d1,a0,a1⟩:=Ht n ns (k+6) 5 (by omega) (by omega) (by decide);have rn:cO 0 m=(jc m).map .int:=Ev.jg 0 m;have ln:((jc m).map D.int).length=m.toNat:=by rw[j_,jk]
 have Wz:cC (cL (aB T (n+1)) (.nm 2) [] (.call 43 [(.v 0),(.bin .add (.v 1) (.v 2)),(.c (.int 10007))]) [Δ (.lst Ξ (ns.map .int)),Δ (.int k),Φ]) ((jc m).map .int)=.ok (((jc m).map fun j=>dr ns (k+j) 10007).map .int):=by refine Ev.dw .int (fun j=>dr ns (k+j) 10007) .int _ fun j hj=>?_;have:=kg hj;have d2:=cY n ns (k+j) 10007 (by omega) (by omega) (by decide);generalize ns.map D.int=NS at *;simp![ei,d2]
 have lu:((jc m).map fun j=>dr ns (k+j) 10007).length=m.toNat:=by rw[j_,jk]
 generalize ((jc m).map fun j=>dr ns (k+j) 10007)=us at *;have lus:(us.map D.int).length=m.toNat:=by rw[j_,lu]
 obtain⟨ws,QC,lw,Ui⟩:=pS (P:=fun x=>x < 10007) (g:=cL (aB T (n+1)) (.nm 0) [(.cmp .lt (.v 0) (.c (.int 10007)))] (.v 0) [Φ]) (0::pl::(pl+1)::us) (fun x hx=>by
  cases h:decide (x < 10007) with
  | true=>exact .inl ⟨by simp![h],p_ h⟩
  | false=>right;simp![h])
 have QC:cC (cL (aB T (n+1)) (.nm 0) [(.cmp .lt (.v 0) (.c (.int 10007)))] (.v 0) [Φ]) (.int 0::.int pl::.int (pl+1)::us.map .int)=.ok (ws.map .int):=QC;rw[List.length_cons,List.length_cons,List.length_cons] at lw;obtain⟨xs,ess,lx,sx,mx⟩:=BF (o:=Θ) (xs:=ws) (by omega);have Oh:Fx (xs.map D.int)=xs.map D.int:=Ev.cM xs;have ews:cp (ws.map D.int)=Θ:=Ev.ua ws;have hz:eE (xs.map .int) (d6 (xs.map .int) (Δ 1) Φ++[.int 10007])=(xs.zip (d6 xs (Δ 1) Φ++[10007])).map FF:=by rw[mV,<- zi,T_];rfl
 have Uj:(d6 (xs.map D.int) (Δ 1) Φ).length<=20:=by have:=xu (xs.map D.int) (Δ 1) Φ;rw[j_] at this;omega
 have lz:(xs.zip (d6 xs (Δ 1) Φ++[10007])).length<=10:=by rw[List.length_zip];omega
 have Nu:∀ p∈xs.zip (d6 xs (Δ 1) Φ++[10007]),p.1<=p.2:=by rw[vj xs (by decide)];exact vk 10007 xs sx fun x hx=>Ui x (mx x hx)
 generalize (xs.zip (d6 xs (Δ 1) Φ++[10007]))=zs at *;have lzs:dh (zs.map FF).length=Θ:=Ev.g8 (by rw[j_];omega);have ez:=dn zs;have ezr:Fx (zs.map FF).reverse=zs.reverse.map FF:=by rw[<- List.map_reverse];exact dn _
 have d3:=cY n ns (k+7) 2 (by omega) (by omega) (by decide);generalize dr ns (k+7) 2=w at *;have main:∀ ys:List (Int×Int),ys.length<=10->(∀ p∈ys,p.1<=p.2)->∀ s4:Option D,∃ (rs:List (List (Int×Int))) (c7 c8 c9 IZ:Option D),forM (Ev.turn (aB T (n+1)) (.nm 7) Nn) (cO 0 (ys.length:Int)) [Δ (.lst Ξ (ns.map .int)),Δ (.int k),Δ (.lst Ξ (fs.map .str)),Δ (.int pl),s4,Δ (.lst Ξ (ys.map FF)),Δ (.lst Θ (.lst Θ []::Τ fs.length (.lst Θ []))),Φ,Φ,Φ,Φ]=.ok (.nx [Δ (.lst Ξ (ns.map .int)),Δ (.int k),Δ (.lst Ξ (fs.map .str)),Δ (.int pl),s4,Δ (.lst Ξ (ys.map FF)),Δ (.lst Θ (rs.map GZ)),c7,c8,c9,IZ])/\rs.length=fs.length+1/\(∀ r∈rs,Rn 20 r):=by
  intro ys hy Nu s4;obtain⟨τ',e,rs,c7,c8,c9,IZ,rfl,hl,hr⟩:=Ev.eh (its:=cO 0 (ys.length:Int)) (τ:=[Δ (.lst Ξ (ns.map .int)),Δ (.int k),Δ (.lst Ξ (fs.map .str)),Δ (.int pl),s4,Δ (.lst Ξ (ys.map FF)),Δ (.lst Θ (.lst Θ []::Τ fs.length (.lst Θ []))),Φ,Φ,Φ,Φ]) (body:=Ev.turn (aB T (n+1)) (.nm 7) Nn)
   (fun j τ=>∃ (rs:List (List (Int×Int))) (c7 c8 c9 IZ:Option D),τ=[Δ (.lst Ξ (ns.map .int)),Δ (.int k),Δ (.lst Ξ (fs.map .str)),Δ (.int pl),s4,Δ (.lst Ξ (ys.map FF)),Δ (.lst Θ (rs.map GZ)),c7,c8,c9,IZ]/\rs.length=fs.length+1/\∀ r∈rs,Rn j r)
   ⟨[]::Τ fs.length [],Φ,Φ,Φ,Φ,by rw[b_,List.map_replicate];rfl,by simp,fun r hr=>by
    have e:r=[]:=by
     rcases k_.mp hr with rfl|hr
     ·rfl
     ·exact List.eq_of_mem_replicate hr
    rw[e]
    exact⟨n_ _,fun p hp=>by cases hp⟩⟩ (by
    rintro j x τ hx ⟨rs,c7,c8,c9,IZ,rfl,hl,hr⟩;obtain⟨hj,rfl⟩:=n8 hx;obtain⟨J4,d8,d9,e,h1,h2⟩:=xr n ns k0 k1 (Δ (.lst Ξ (fs.map .str))) (Δ (.int pl)) s4 c8 c9 IZ (zs:=ys) (j:=j) (by omega) (by omega) Nu c7 (rs:=rs) (by omega) hr
    exact⟨_,e,J4,_,d8,d9,Φ,rfl,by omega,h2⟩)
  refine⟨rs,c7,c8,c9,IZ,e,hl,fun r h=>?_⟩;have:=hr r h;rw[jq] at this;exact this.le (by omega)
 have fin:∀ rs:List (List (Int×Int)),rs.length=fs.length+1->(∀ r∈rs,Rn 20 r)->∃ (al:Al) (fr:List (Int×Int)),(∀ o o',cC (cL (aB T (n+1)) (.nm 2) [] (.tup [(.idx (.v 0) (.v 2)),(.idx (.v 1) (.v 2))]) [Δ (.lst o (fs.map .str)),Δ (.lst o' (rs.map GZ)),Φ]) (cO 0 (fs.length:Int))=.ok (al.map Pp))/\(∀ o,cH (.lst o (Fx (rs.map GZ))) (.int (fs.length:Int))=.ok (.lst Ξ (fr.map FF)))/\al.map (·.1)=fs/\(∀ p∈al,p.2.length<=20)/\Rn 20 fr:=by
  intro rs hl hr;have WA:fs.length < rs.length:=by omega
  have gj:∀ {j:Int},j∈jc (fs.length:Int)->rs.getD j.toNat []∈rs/\rs[j.toNat]? = Δ (rs.getD j.toNat []):=fun {j} hj=>by
   have Li:=kg hj;have WB:j.toNat < rs.length:=by omega
   rw[aaw,y_ WB];exact⟨aav WB,rfl⟩
  refine⟨(jc (fs.length:Int)).map fun j=>(fs.getD j.toNat (Ρ ""),rs.getD j.toNat []),rs[fs.length],fun o o'=>?_,fun o=>by
   rw[Bz]
   exact og Wv o (a:=rs[fs.length]) (by omega) (by rw[aaG,y_ WA]),xw fs rs,fun p hp=>?_,hr _ (aav WA)⟩
  ·rw[Ev.jg 0 (fs.length:Int)];refine Ev.dw .int (fun j=>(fs.getD j.toNat (Ρ ""),rs.getD j.toNat [])) Pp (jc (fs.length:Int)) fun j hj=>?_;have Li:=kg hj;obtain⟨nm,Oz,QB⟩:=ek (fs:=fs) (i:=j) Li.1 Li.2;have hx2:∀ o,cH (.lst o (rs.map GZ)) (.int j)=.ok (.lst Θ ((rs.getD j.toNat []).map FF)):=fun o=>og GZ o Li.1 (gj hj).2;have en:fs.getD j.toNat (Ρ "")=nm:=by rw[aaw,QB];rfl
   show _=Except.ok (Δ (D.tup [.str (fs.getD j.toNat (Ρ "")),.lst Θ ((rs.getD j.toNat []).map FF)]));rw[en];generalize (rs.getD j.toNat []).map FF=RJ,rs.map GZ=RS,fs.map D.str=FS at *;simp![Oz,hx2]
  ·obtain⟨j,hj,rfl⟩:=List.mem_map.mp hp;exact(hr _ (gj hj).1).1
 have nl1:∀ a b,cP (.Hq a b)=Ξ:=fun _ _=>rfl;have nl2:∀ a,cP (.sset a)=Ξ:=fun _=>rfl;have nl3:∀ a,cP (.Ho a)=Ξ:=fun _=>rfl;have v1:vars (.Hq (.v 4) (.bin .add (.sl (.v 4) (Δ (.c (.int 1))) Φ) (.lst [(.c (.int 10007))])))=[4,4]:=rfl;have v2:∀ a,vars (.sset a)=vars a:=fun _=>rfl;have v3:∀ a,vars (.Ho a)=vars a:=fun _=>rfl;have v4:∀ G fr t s i e,vars (.comp G fr t s i e)=fr++eS s:=fun _ _ _ _ _ _=>rfl;have v5:eS (.val (.v 4))=[4]:=rfl;have v6:eS (.FV (.bi .len [(.v 2)]))=[2]:=rfl;have eus:cp (us.map D.int)=Θ:=Ev.ua us;have gz:∀ x y:List D,oA (.lst Ξ x) (.lst Θ y)=Fw (dh (eE x y).length) (.ok (.lst Θ (eE x y))):=fun _ _=>rfl;have lap:dh ((d6 (xs.map D.int) (Δ 1) Φ).length+1)=Θ:=Ev.g8 (by omega);have lfs:dP fs.length=Θ:=Ev.jf (by omega);have lrn:(cO 0 (fs.length:Int)).length=fs.length:=by rw[jq];omega
 have lfr:∀ al:Al,al.map (·.1)=fs->cp (al.map Pp)=Ξ:=fun al h=>by
  cases al with
  | nil=>rw[<- h] at Wx;exact absurd Wx (by decide)
  | cons=>rfl
 have tl:∀ ys:List (Int×Int),ys.length<=10->(∀ p∈ys,p.1<=p.2)->∃ (al:Al) (fr:List (Int×Int)),cI (aB T (n+1)) S3 [Δ (.lst Ξ (ns.map .int)),Δ (.int k),Δ (.lst Ξ (fs.map .str)),Δ (.int pl),Δ (.lst Ξ (xs.map .int)),Δ (.lst Ξ (ys.map FF)),Φ,Φ,Φ,Φ,Φ]=.ok (.rt (.tup [.lst Θ (al.map GX),.lst Ξ (fr.map FF)]))/\al.map (·.1)=fs/\(∀ p∈al,p.2.length<=20)/\Rn 20 fr:=fun ys hy Nu=>by obtain⟨rs,c7,c8,c9,IZ,e,hl,hr⟩:=main ys hy Nu (Δ (.lst Ξ (xs.map .int)));obtain⟨al,fr,fm3,hi,h1,h2,h3⟩:=fin rs hl hr;refine⟨al,fr,?_,h1,h2,h3⟩;have ea:=BC al;have lfa:=lfr al h1;have Uk:=dn fr;have lzl:(ys.map FF).length=ys.length:=j_ _;have ez:=dn ys;clear main fin Wz QC;unfold S3;generalize ns.map D.int=NS,fs.map D.str=FS,xs.map D.int=XS,ys.map FF=ZS,rs.map GZ=RS,al.map Pp=AT,al.map GX=AD,fr.map FF=FR,Nn=tal at *;simp![ei,ef,Wy,ez,v4,v6,lfs,lrn,e,fm3,hi,ea,lfa,Uk,lzl]
 have hd:cI (aB T (n+1)) O8 [Δ (.lst Ξ (ns.map .int)),Δ (.int k),Δ (.lst Ξ (fs.map .str)),Δ (.int pl),Φ,Φ,Φ,Φ,Φ,Φ,Φ]=cI (aB T (n+1)) OM [Δ (.lst Ξ (ns.map .int)),Δ (.int k),Δ (.lst Ξ (fs.map .str)),Δ (.int pl),Δ (.lst Ξ (xs.map .int)),Δ (.lst Ξ (zs.map FF)),Φ,Φ,Φ,Φ,Φ]:=by unfold O8;clear main fin tl;have lw2:dP (m.toNat+1+1+1)=Θ:=Ev.jf (by omega);generalize ns.map D.int=NS,fs.map D.str=FS,us.map D.int=US,ws.map D.int=WS,xs.map D.int=XS,(jc m).map D.int=JS,zs.map FF=ZS,OM=ta at *;simp![ei,ef,Wy,d1,rn,ln,Wz,lus,QC,ess,Oh,ews,hz,lzs,ez,nl1,nl2,v1,v2,v4,v5,eus,gz,lap]
 have hc:E8 (aB T (n+1)) S2 [Δ (.lst Ξ (ns.map .int)),Δ (.int k),Δ (.lst Ξ (fs.map .str)),Δ (.int pl),Δ (.lst Ξ (xs.map .int)),Δ (.lst Ξ (zs.map FF)),Φ,Φ,Φ,Φ,Φ]=.ok (.bl (w == 0)):=by clear main fin tl hd;unfold S2;generalize ns.map D.int=NS,fs.map D.str=FS,xs.map D.int=XS,zs.map FF=ZS at *;simp![ei,d3]
 have Ul:∃ (al:Al) (fr:List (Int×Int)),cI (aB T (n+1)) OM [Δ (.lst Ξ (ns.map .int)),Δ (.int k),Δ (.lst Ξ (fs.map .str)),Δ (.int pl),Δ (.lst Ξ (xs.map .int)),Δ (.lst Ξ (zs.map FF)),Φ,Φ,Φ,Φ,Φ]=.ok (.rt (.tup [.lst Θ (al.map GX),.lst Ξ (fr.map FF)]))/\al.map (·.1)=fs/\(∀ p∈al,p.2.length<=20)/\Rn 20 fr:=by
  unfold OM;cases hw:(w == 0) with
  | false=>rw[hw] at hc;rw[sk hc];exact tl zs (by omega) Nu
  | true=>
   rw[hw] at hc;rw[Lk hc (τ':=[Δ (.lst Ξ (ns.map .int)),Δ (.int k),Δ (.lst Ξ (fs.map .str)),Δ (.int pl),Δ (.lst Ξ (xs.map .int)),Δ (.lst Ξ (zs.reverse.map FF)),Φ,Φ,Φ,Φ,Φ]) ?_]
   ·exact tl zs.reverse (by rw[List.length_reverse];omega) (fun p hp=>Nu p (List.mem_reverse.mp hp))
   have ezz:=dn zs.reverse;rw[<- List.map_reverse] at ezr;have erv:(zs.map FF).reverse=zs.reverse.map FF:=(List.map_reverse).symm;clear main fin tl hd hc;generalize ns.map D.int=NS,fs.map D.str=FS,xs.map D.int=XS,zs.reverse.map FF=ZR,zs.map FF=ZS at *;simp![ez,nl3,v3,ezz,erv]
 obtain⟨al,fr,e,h1⟩:=Ul;refine⟨al,fr,?_,h1⟩;rw[gx 48 Tz 4 11 O8 rfl rfl rfl rfl rfl rfl];unfold O8;exact congrArg (fun r=>E3 r _) (hd.trans e)
theorem vq {α:Type}{n:Nat}{e:α->D}:∀ (xs:List α),(∀ x∈xs,pl n (e x)=Θ)->HY n (xs.map e)=Θ
 | [],_=>rfl
 | x::xs,h=>by show (pl n (e x)&&HY n (xs.map e))=Θ;rw[h x (.head _),vq xs fun y hy=>h y (.tail _ hy)];rfl
theorem fJ {α:Type}{n:Nat}{e:α->D}{xs:List α}(hl:xs.length<=100)(h:∀ x∈xs,pl n (e x)=Θ):pl (n+1) (.lst Ξ (xs.map e))=Θ:=by have d1:decide ((xs.map e).length < 1000)=Θ:=I_ (by rw[j_];omega);show (Θ&&(HY n (xs.map e)&&decide ((xs.map e).length < 1000)))=Θ;rw[vq xs h,d1];rfl
theorem Ei {c:Cn}(wf:Wf c):pl 7 c.d=Θ:=by
 have h:=fJ (n:=5) (e:=Tn.d) (xs:=c.ts) wf.len fun t _=>by cases t<;>rfl
 show ((Θ&&(Θ&&(pl 6 (.lst Ξ (c.ts.map Tn.d))&&Θ)))&&Θ)=Θ;rw[h];rfl
theorem zj {r:List Cn}(hl:r.length<=100)(h:∀ c∈r,Wf c):pl 8 (Gg r)=Θ:=fJ hl fun c hc=>Ei (h c hc)
theorem Ej {gs:List Gp}(hg:IM gs)(hl:gs.length<=100):pl 11 (FW gs)=Θ:=fJ hl fun g Kx=>by have h:=fJ (n:=8) (e:=Gg) (xs:=g.rows) (hg.len g Kx).1 fun r hr=>zj ((hg.len g Kx).2 r hr) fun c hc=>(hg.ok g Kx r hr c hc).1;show ((Θ&&(pl 9 (.lst Ξ (g.rows.map Gg))&&Θ))&&Θ)=Θ;rw[h];rfl
theorem oh (n:Nat){l:List (Int×Int)}(hl:l.length<=100):pl (n+3) (.lst Ξ (l.map FF))=Θ:=fJ hl fun _ _=>rfl
theorem Ek {r:Rl}(h:(∀ c∈r.cs,Wf c)/\r.cs.length<=2/\∀ f sg,r.o=.share f sg->sg.length<=3):pl 9 r.d=Θ:=by
 have h1:=zj (r:=r.cs) (by omega) h.1;have h2:pl 8 r.o.d=Θ:=by
  cases ho:r.o with
  | face f=>rfl
  | share f sg=>have:=h.2.2 f sg ho;have h3:=oh 4 (l:=sg) (by omega);show ((Θ&&(Θ&&(pl 7 (.lst Ξ (sg.map FF))&&Θ)))&&Θ)=Θ;rw[h3];rfl
  | MV=>rfl
 show ((pl 8 (Gg r.cs)&&(pl 8 r.o.d&&Θ))&&Θ)=Θ;rw[h1,h2];rfl
theorem El {al:Al}{fr:List (Int×Int)}(h1:al.length<=100)(h2:∀ p∈al,p.2.length<=20)(h3:fr.length<=20):pl 10 (Ge al fr)=Θ:=by
 have a1:=fJ (n:=8) (e:=GX) h1 fun p hp=>by have:=h2 p hp;have h3:=oh 4 (l:=p.2) (by omega);show ((Θ&&(pl 7 (.lst Ξ (p.2.map FF))&&Θ))&&Θ)=Θ;rw[h3];rfl
 have a2:=oh 6 (l:=fr) (by omega);show ((pl 9 (.lst Ξ (al.map GX))&&(pl 9 (.lst Ξ (fr.map FF))&&Θ))&&Θ)=Θ;rw[a1,a2];rfl
theorem xx {gs:List Gp}(hg:IM gs)(hl:gs.length<=100){salt rest:Str}{rs:List Rl}(hr:rs.length<=100)(wf:∀ r∈rs,(∀ c∈r.cs,Wf c)/\r.cs.length<=2/\∀ f sg,r.o=.share f sg->sg.length<=3){al:Al}{fr:List (Int×Int)}(h1:al.length<=100)(h2:∀ p∈al,p.2.length<=20)(h3:fr.length<=20):pl 12 (.tup [FW gs,F5 salt rest rs al fr])=Θ:=by
 have a1:=Ej hg hl;have a2:=fJ (n:=9) (e:=Rl.d) hr fun r hr=>Ek (wf r hr);have a3:=El h1 h2 h3;have a4:pl 11 (F5 salt rest rs al fr)=Θ:=by show ((Θ&&(Θ&&(pl 10 (.lst Ξ (rs.map Rl.d))&&(pl 10 (Ge al fr)&&Θ))))&&Θ)=Θ;rw[a2,a3];rfl
 show ((pl 11 (FW gs)&&(pl 11 (F5 salt rest rs al fr)&&Θ))&&Θ)=Θ;rw[a1,a4];rfl
theorem Em (m:Int){ms:List (Str×Tn)}(h:ms.length<=100):pl 5 (GY m ms)=Θ:=by
 have a:=fJ (n:=3) (e:=Gs) h fun p _=>by
  rcases p with ⟨_,t⟩
  cases t<;>rfl
 show ((Θ&&(pl 4 (.lst Ξ (ms.map Gs))&&Θ))&&Θ)=Θ;rw[a];rfl
theorem vt (gs:List Gp)(ms:List (Str×Tn))(rest:Str)(rs:List Rl)(al:Al)(day z:Int):∃ (f:Str) (i:Int),told gs ms rest rs al day z=.tup [.str f,.int i]:=by
 unfold told;cases fst al day z ((idx rs).filter fun q=>q.2.cs.all (dA gs ms)) with
 | none=>exact⟨_,_,rfl⟩
 | some q=>exact⟨_,_,rfl⟩
section
variable (ns:List Int){j:Nat}(hj:j < 6){fs:List Str}(hf:fs.length<=20)(LW:fs.Nodup){m:Int}(m0:0<=m)(m1:m<=1000000000){st:Str}(hs:st.length<=100)(c day:Int){gs:List Gp}(hg:IM gs){cs:List Nat}(hc:Sl cs)(rest:Str){rs:List Rl}(hr:rs.length<=100)(wf:∀ r∈rs,(∀ c∈r.cs,Wf c)/\r.cs.length<=2/\∀ f sg,r.o=.share f sg->sg.length<=3)(al:Al)(fr:List (Int×Int)){P Q:D}(eP:er P=FW gs)(eQ:er Q=F5 (FH cs) rest rs al fr)
include hj hf LW m0 m1 hs hg hc hr wf eP eQ in
theorem En (s2 s3 s4 s5 IU LA QE QF:Option D) :
  ∃ J5 J6:Option D,cI (aB T 16) ON [Δ (.lst Ξ (ns.map .int)),Δ (.lst Ξ (fs.map .str)),s2,s3,s4,s5,Δ (.str st),Δ (.int c),Δ (.int day),Δ (FW gs),IU,LA,Δ (F5 (FH cs) rest rs al fr),Δ (.tup [P,Q]),Δ (.int (j:Nat)),Δ (.int m),QE,QF]=.ok (.nx [Δ (.lst Ξ (ns.map .int)),Δ (.lst Ξ (fs.map .str)),s2,s3,s4,s5,Δ (.str st),Δ (.int c),Δ (.int day),Δ (FW gs),IU,LA,Δ (F5 (FH cs) rest rs al fr),Δ (.tup [P,Q]),Δ (.int (j:Nat)),Δ (.int m),J5,J6]):=by
 have ei:=Ev.cM ns;have ef:=Ev.cR fs;obtain⟨ms,em,nd,lm⟩:=vi 12 ns (k:=640+25*(j:Int)) (by omega) (by omega) hf LW hs c;have emk:=jm ms;have eg:=dY gs;have es:=kY (FH cs) rest rs al fr;obtain⟨d',e1,e2⟩:=copy 5 11 (Em m (ms:=ms) (by omega));obtain⟨f,i,ht⟩:=vt gs ms rest rs al day (HG cs m);have e3:=qw 6 hg.ok ms hc rest al fr (fun r h=>(wf r h).1) hr day m0 m1;have e4:=xf 13 hg nd hc rest al fr (fun r h=>⟨(wf r h).1,by have:=(wf r h).2.1;omega⟩) day m0 m1;rw[ht] at e3 e4;have e5:aB T 16 64 [.tup [.str f,.int i],.tup [.str f,.int i]]=.ok (.bl Θ):=same 3 13 rfl;refine⟨Δ (.tup [.int m,.lst Θ (ms.map Gs)]),Δ (.tup [.str f,.int i]),?_⟩;have evi:er (GY m ms)=GY m ms:=zb m ms;have sv:D.tup [.int m,.lst Ξ (ms.map Gs)]=GY m ms:=rfl;generalize GY m ms=VI,F5 (FH cs) rest rs al fr=SW,FW gs=GS,ms.map Gs=MS,ns.map D.int=NS,fs.map D.str=FS at *;unfold ON;simp![ei,ef,em,emk,sv,evi,eg,es,eP,eQ,e1,e2,e3,e4,e5]
include hj hf LW m0 m1 hs hg hc hr wf eP eQ in
theorem xA (s2 s3 s5 IU LA s14 s15 QE QF:Option D) :
  ∃ Nv Nw J5 J6:Option D,Ev.turn (aB T 16) (.nm 14) OO (.int (j:Nat)) [Δ (.lst Ξ (ns.map .int)),Δ (.lst Ξ (fs.map .str)),s2,s3,Δ (.int m),s5,Δ (.str st),Δ (.int c),Δ (.int day),Δ (FW gs),IU,LA,Δ (F5 (FH cs) rest rs al fr),Δ (.tup [P,Q]),s14,s15,QE,QF]=.ok (.nx [Δ (.lst Ξ (ns.map .int)),Δ (.lst Ξ (fs.map .str)),s2,s3,Δ (.int m),s5,Δ (.str st),Δ (.int c),Δ (.int day),Δ (FW gs),IU,LA,Δ (F5 (FH cs) rest rs al fr),Δ (.tup [P,Q]),Nv,Nw,J5,J6]):=by
 have ei:=Ev.cM ns;obtain⟨v,ev,v0,v1⟩:=uz 14 ns (k:=620+3*(j:Int)) (by omega) (by omega);have key:=fun (m':Int) (m0:0<=m') (m1:m'<=1000000000)=>En ns hj hf LW m0 m1 hs c day hg hc rest hr wf al fr eP eQ s2 s3 (Δ (.int m)) s5 IU LA QE QF;unfold OO;cases hq:((j:Int) % 2 == 1) with
 | true=>obtain⟨J5,J6,e⟩:=key v v0 v1;refine⟨Δ (.int (j:Nat)),Δ (.int v),J5,J6,?_⟩;generalize F5 (FH cs) rest rs al fr=SW,FW gs=GS,ns.map D.int=NS,fs.map D.str=FS,ON=tl at *;simp![Ev.cq,ei,hq,ev,e]
 | false=>obtain⟨J5,J6,e⟩:=key m m0 m1;refine⟨Δ (.int (j:Nat)),Δ (.int m),J5,J6,?_⟩;generalize F5 (FH cs) rest rs al fr=SW,FW gs=GS,ns.map D.int=NS,fs.map D.str=FS,ON=tl at *;simp![Ev.cq,ei,hq,e]
end
theorem BG (ns:List Int):aB T (16+1) 66 [.lst Ξ (ns.map .int)]=.ok (.bl Θ):=by
 obtain⟨LX,e1,l1,Qb,_⟩:=jl 14 ns (k:=0) (by decide) (by decide) (c:=3) (by decide) (by decide);obtain⟨fs,e2,l2,LN,_⟩:=jl 14 ns (k:=50) (by decide) (by decide) (c:=4) (by decide) (by decide);have l1:LX.length=3:=l1;have l2:fs.length=4:=l2;obtain⟨cs,e3,hc⟩:=wR 14 ns (k:=100) (by decide) (by decide);obtain⟨m,e4,m0,m1⟩:=uz 14 ns (k:=120) (by decide) (by decide);have e5:=ke 15 cs hc.2.1 m m0 m1;obtain⟨st,e6,Gn⟩:=wV 14 ns (k:=130) (by decide) (by decide);obtain⟨c,e7⟩:=qu 14 ns (k:=145) (by decide) (by decide);obtain⟨a,d1,a0,a1⟩:=Ht 15 ns 147 1000 (by decide) (by decide) (by decide);obtain⟨b,d2,b0,b1⟩:=Ht 15 ns 148 2 (by decide) (by decide) (by decide);have hb:=Ev.Nl (o:=Θ) (xs:=[1,999]) (i:=b) b0 (by show b < 2;exact b1);have hb:cH (.lst Θ [.int 1,.int 999]) (.int b)=.ok (.int ([1,999].getD b.toNat 0)):=hb;generalize ([1,999]:List Int).getD b.toNat 0=y at *;have hm:Hm .mul (.int a) (.int y)=.ok (.int (a*y)):=Ev.nV (by omega) (by omega);generalize a*y=day at *;obtain⟨gs,e8,hg,lg,_⟩:=qx 11 ns (k:=150) (by decide) (by decide) (ms:=LX) (by omega) (by omega) Qb Gn c;have fm:cC (cL (aB T 16) (.nm 0) [] (.idx (.v 0) (.c (.int 0))) [Φ]) (gs.map Gp.d)=.ok ((gs.map (·.nm)).map .str):=Ev.dw Gp.d (·.nm) .str gs fun g _=>by have x0:cH g.d (.int 0)=.ok (.str g.nm):=rfl;generalize g.d=G at *;simp![x0]
 have lgn:(gs.map (·.nm)).length<=2:=by rw[j_];exact lg
 have lgd:(gs.map Gp.d).length=gs.length:=j_ _;generalize gs.map (·.nm)=gn,HG cs m=z at *;obtain⟨rs,e9,lr,wf⟩:=vf 11 ns (k:=300) (by decide) (by decide) (ms:=LX) (gn:=gn) (fs:=fs) (by omega) (by omega) (by omega) (by omega) (by omega) Gn c z day;obtain⟨w,d3,c0,c1⟩:=Ht 15 ns 149 4 (by decide) (by decide) (by decide);obtain⟨rest,hw,_⟩:=ek (fs:=fs) (i:=w) c0 (by omega);have Um:d6 (fs.map D.str) Φ (Δ 3)=(d6 fs Φ (Δ 3)).map .str:=mV _ _ _ _;have Uj:(d6 fs Φ (Δ 3)).length=3:=by rcases fs with _|⟨f0,_|⟨f1,_|⟨f2,_|⟨f3,fs⟩⟩⟩⟩<;>simp at l2;subst l2;rfl
 generalize d6 fs Φ (Δ 3)=f3 at *;obtain⟨al,fr,e10,h1n,h2,h3r⟩:=vn 14 ns (k:=280) (by decide) (by decide) (fs:=f3) (by omega) (by omega) z;have h1:al.length=f3.length:=by rw[<- h1n,j_]
 have h3:fr.length<=20:=h3r.1;have pb:=xx hg (by omega) (salt:=FH cs) (rest:=rest) (rs:=rs) (by omega) wf (al:=al) (fr:=fr) (by omega) h2 h3;obtain⟨H,Uo,eH⟩:=copy 12 4 pb;have Uo:aB T 16 65 [.tup [FW gs,F5 (FH cs) rest rs al fr]]=.ok H:=Uo;have UM:aB T 16 64 [.tup [FW gs,F5 (FH cs) rest rs al fr],.tup [FW gs,F5 (FH cs) rest rs al fr]]=.ok (.bl Θ):=same 12 4 pb;have lH:cA H=Ξ:=by
  cases hb:cA H with
  | false=>rfl
  | true=>have:H=.tup [FW gs,F5 (FH cs) rest rs al fr]:=(lP hb).symm.trans eH;rw[this] at hb;cases hb
 obtain⟨P,Q,rfl,eP,eQ⟩:∃ P Q,H=.tup [P,Q]/\er P=FW gs/\er Q=F5 (FH cs) rest rs al fr:=by
  cases H with
  | tup ds=>
   have e:Fx ds=[FW gs,F5 (FH cs) rest rs al fr]:=by have:D.tup (Fx ds)=.tup [FW gs,F5 (FH cs) rest rs al fr]:=eH;injection this
   rcases ds with _|⟨P,_|⟨Q,_|⟨R,ds⟩⟩⟩
   ·exact absurd (congrArg List.length e) (by intro h;cases h)
   ·exact absurd (congrArg List.length (show [er P]=_ from e)) (by intro h;cases h)
   ·have e:[er P,er Q]=[FW gs,F5 (FH cs) rest rs al fr]:=e;injection e with e1 e2;injection e2 with e2 _;exact⟨P,Q,rfl,e1,e2⟩
   ·have e:er P::er Q::er R::Fx ds=[FW gs,F5 (FH cs) rest rs al fr]:=e;injection e with e1 e2;injection e2 with e2 e3;exact absurd (congrArg List.length e3) (by intro h;cases h)
  | _=>cases eH
 obtain⟨τ',e13,Nv,Nw,J5,J6,rfl⟩:=Ev.eh (its:=cO 0 6) (τ:=[Δ (.lst Ξ (ns.map .int)),Δ (.lst Ξ (LX.map .str)),Δ (.lst Ξ (fs.map .str)),Δ (.str (FH cs)),Δ (.int m),Δ (.int z),Δ (.str st),Δ (.int c),Δ (.int day),Δ (FW gs),Δ (.lst Ξ (gn.map .str)),Δ (.lst Ξ (rs.map Rl.d)),Δ (F5 (FH cs) rest rs al fr),Δ (.tup [P,Q]),Φ,Φ,Φ,Φ]) (body:=Ev.turn (aB T 16) (.nm 14) OO)
  (fun j τ=>∃ Nv Nw J5 J6:Option D,τ=[Δ (.lst Ξ (ns.map .int)),Δ (.lst Ξ (LX.map .str)),Δ (.lst Ξ (fs.map .str)),Δ (.str (FH cs)),Δ (.int m),Δ (.int z),Δ (.str st),Δ (.int c),Δ (.int day),Δ (FW gs),Δ (.lst Ξ (gn.map .str)),Δ (.lst Ξ (rs.map Rl.d)),Δ (F5 (FH cs) rest rs al fr),Δ (.tup [P,Q]),Nv,Nw,J5,J6])
  ⟨Φ,Φ,Φ,Φ,rfl⟩ (by
   rintro j x τ hx ⟨Nv,Nw,J5,J6,rfl⟩;obtain⟨hj,rfl⟩:=n8 hx;obtain⟨d14,d15,d16,d17,e⟩:=xA ns (j:=j) hj (fs:=LX) (by omega) Qb m0 m1 Gn c day hg hc rest (by omega) wf al fr eP eQ (Δ (.lst Ξ (fs.map .str))) (Δ (.str (FH cs))) (Δ (.int z)) (Δ (.lst Ξ (gn.map .str))) (Δ (.lst Ξ (rs.map Rl.d))) Nv Nw J5 J6
   exact⟨_,e,d14,d15,d16,d17,rfl⟩)
 have ei:=Ev.cM ns;have ef:=Ev.cR fs;have en:=Ev.cR LX;have eg:=Ev.cR gn;have e3f:=Ev.cR f3;have egs:=jo gs;have egD:=dY gs;have Uq:=By rs;have erd:=n0 rs;have Uk:=kX al;have epr:=dn fr;have esw:=kY (FH cs) rest rs al fr;have sg:D.lst Ξ (gs.map Gp.d)=FW gs:=rfl;have lfg:=Ev.nU gn;have vsl:vars (.sl (.v 2) Φ (Δ (.c (.int 3))))=[2]:=rfl;have lsw:cA (F5 (FH cs) rest rs al fr)=Ξ:=rfl;have lgs:cA (FW gs)=Ξ:=rfl;rw[gx 66 Qx 1 18 TY rfl rfl rfl rfl rfl rfl];unfold TY;have ssw:D.tup [.str (FH cs),.str rest,.lst Ξ (rs.map Rl.d),.tup [.lst Ξ (al.map GX),.lst Ξ (fr.map FF)]]=F5 (FH cs) rest rs al fr:=rfl;generalize F5 (FH cs) rest rs al fr=SW,ns.map D.int=NS,fs.map D.str=FS,LX.map D.str=NM,gn.map D.str=GN,f3.map D.str=F3,rs.map Rl.t=RT,rs.map Rl.d=RD,al.map GX=AL,fr.map FF=FR,OO=tlw at *;simp![ei,ef,en,eg,e3f,egs,egD,Uq,erd,Uk,epr,esw,sg,lfg,vsl,lsw,lgs,e1,e2,e3,e4,e5,e6,e7,d1,d2,hb,hm,e8,fm,lgd,e9,d3,hw,Um,e10,ssw,Uo,lH,eP,eQ,UM,e13]
theorem holds (ns:List Int)(h:ns.length<=63):aB T (16+1) Bh [.lst Ξ (ns.map .int)]=.ok (.bl Θ):=BG ns
end Law
namespace PySem.W.Fast
theorem tw10017489652984913021:True:=⟨⟩
theorem tw10054345731917946801:True:=⟨⟩
theorem tw10130295159205805006:True:=⟨⟩
theorem tw10162934231092912120:True:=⟨⟩
theorem tw10165765765298871437:True:=⟨⟩
theorem tw10219703822406391069:True:=⟨⟩
theorem tw1023532107542712757:True:=⟨⟩
theorem tw10243248559701463549:True:=⟨⟩
theorem tw1024391105249807438:True:=⟨⟩
theorem tw10521188991885945270:True:=⟨⟩
theorem tw10578333720022998812:True:=⟨⟩
theorem tw10760741473664299510:True:=⟨⟩
theorem tw10874198344205256166:True:=⟨⟩
theorem tw10922013515268659292:True:=⟨⟩
theorem tw10948237364759782358:True:=⟨⟩
theorem tw10983799723028244980:True:=⟨⟩
theorem tw110009935718781714:True:=⟨⟩
theorem tw11039325521461185227:True:=⟨⟩
theorem tw11081973552909956727:True:=⟨⟩
theorem tw11123769068595897697:True:=⟨⟩
theorem tw11201746302251938786:True:=⟨⟩
theorem tw11229843594120779103:True:=⟨⟩
theorem tw1128436178220782113:True:=⟨⟩
theorem tw11415523512497406393:True:=⟨⟩
theorem tw11447313056360446049:True:=⟨⟩
theorem tw1145704421847750696:True:=⟨⟩
theorem tw1150068595948932900:True:=⟨⟩
theorem tw11560747604734964314:True:=⟨⟩
theorem tw11566945657619321979:True:=⟨⟩
theorem tw11619812694789721677:True:=⟨⟩
theorem tw11710254417082580175:True:=⟨⟩
theorem tw11711612926322007934:True:=⟨⟩
theorem tw11727786605482573106:True:=⟨⟩
theorem tw11822064744784691543:True:=⟨⟩
theorem tw1182946467913838000:True:=⟨⟩
theorem tw1190010564193309126:True:=⟨⟩
theorem tw11957311826364018937:True:=⟨⟩
theorem tw1196881622058865175:True:=⟨⟩
theorem tw12012895285153371030:True:=⟨⟩
theorem tw12110212674869736217:True:=⟨⟩
theorem tw12227979894439912826:True:=⟨⟩
theorem tw12312590290534044281:True:=⟨⟩
theorem tw12364414736412555896:True:=⟨⟩
theorem tw12422923339827799255:True:=⟨⟩
theorem tw12441590612320675787:True:=⟨⟩
theorem tw12514779320628101588:True:=⟨⟩
theorem tw12628520481240287426:True:=⟨⟩
theorem tw12663901626985260055:True:=⟨⟩
theorem tw12692210527468995167:True:=⟨⟩
theorem tw1274788513084173089:True:=⟨⟩
theorem tw12864292549194960013:True:=⟨⟩
theorem tw12873267364452848310:True:=⟨⟩
theorem tw1296427501898912571:True:=⟨⟩
theorem tw12968801084352691462:True:=⟨⟩
theorem tw12988098664425937982:True:=⟨⟩
theorem tw13034955336278358964:True:=⟨⟩
theorem tw13066736457633996159:True:=⟨⟩
theorem tw13139485824248930474:True:=⟨⟩
theorem tw13149250358108496731:True:=⟨⟩
theorem tw13173796795644234829:True:=⟨⟩
theorem tw13244849469359281435:True:=⟨⟩
theorem tw13427486732173775344:True:=⟨⟩
theorem tw13431374906496859530:True:=⟨⟩
theorem tw13467690323977799342:True:=⟨⟩
theorem tw13552006570054965187:True:=⟨⟩
theorem tw13688205626642863529:True:=⟨⟩
theorem tw13760330334947408161:True:=⟨⟩
theorem tw13818440402851446877:True:=⟨⟩
theorem tw13837985592632919719:True:=⟨⟩
theorem tw13955616588308673471:True:=⟨⟩
theorem tw13993119296522198139:True:=⟨⟩
theorem tw14052263358992880982:True:=⟨⟩
theorem tw14172075711962707169:True:=⟨⟩
theorem tw14390543415404480931:True:=⟨⟩
theorem tw14391288198859274928:True:=⟨⟩
theorem tw14546906401680822740:True:=⟨⟩
theorem tw14570876081356028545:True:=⟨⟩
theorem tw14579328604457940121:True:=⟨⟩
theorem tw14647215051309106763:True:=⟨⟩
theorem tw14707585059335048354:True:=⟨⟩
theorem tw14734908406835310277:True:=⟨⟩
theorem tw14791800748941104618:True:=⟨⟩
theorem tw14819113479563625205:True:=⟨⟩
theorem tw1495397265674840954:True:=⟨⟩
theorem tw15282171953981659093:True:=⟨⟩
theorem tw15283217484789845647:True:=⟨⟩
theorem tw15324221762308334313:True:=⟨⟩
theorem tw15347564931505999326:True:=⟨⟩
theorem tw15410880585480106972:True:=⟨⟩
theorem tw15476449643964481794:True:=⟨⟩
theorem tw15482783993904729552:True:=⟨⟩
theorem tw15493142791358750376:True:=⟨⟩
theorem tw15567065363763874888:True:=⟨⟩
theorem tw15591129950778681670:True:=⟨⟩
theorem tw15621294775748625548:True:=⟨⟩
theorem tw15650465677669760133:True:=⟨⟩
theorem tw15699583299073454189:True:=⟨⟩
theorem tw157713635263900145:True:=⟨⟩
theorem tw15778580085243296859:True:=⟨⟩
theorem tw15798653574303465441:True:=⟨⟩
theorem tw15836181309066079100:True:=⟨⟩
theorem tw15882649219405568483:True:=⟨⟩
theorem tw15893269978219578642:True:=⟨⟩
theorem tw15949861929520625568:True:=⟨⟩
theorem tw15972104019778511375:True:=⟨⟩
theorem tw15981433687669254741:True:=⟨⟩
theorem tw1605956725609907082:True:=⟨⟩
theorem tw1610579711269477585:True:=⟨⟩
theorem tw16140123661059086049:True:=⟨⟩
theorem tw16208886445319711320:True:=⟨⟩
theorem tw16263828579212371473:True:=⟨⟩
theorem tw16327378474531259265:True:=⟨⟩
theorem tw1633320209352917951:True:=⟨⟩
theorem tw1635760682657672553:True:=⟨⟩
theorem tw16502969769974430645:True:=⟨⟩
theorem tw16512353269858342950:True:=⟨⟩
theorem tw16577589158105388474:True:=⟨⟩
theorem tw1667774102356482344:True:=⟨⟩
theorem tw1668180300131461308:True:=⟨⟩
theorem tw16872738883449306907:True:=⟨⟩
theorem tw1695794694682945697:True:=⟨⟩
theorem tw16975569723934055472:True:=⟨⟩
theorem tw17018819411701859892:True:=⟨⟩
theorem tw17052225059874016355:True:=⟨⟩
theorem tw17086828624231591752:True:=⟨⟩
theorem tw17123387762536422966:True:=⟨⟩
theorem tw17133721065358025994:True:=⟨⟩
theorem tw17155231079665198689:True:=⟨⟩
theorem tw17185276286754568476:True:=⟨⟩
theorem tw17223635951039819098:True:=⟨⟩
theorem tw17314024369517850008:True:=⟨⟩
theorem tw17371195987426514344:True:=⟨⟩
theorem tw17420271116396168199:True:=⟨⟩
theorem tw17470903088007557743:True:=⟨⟩
theorem tw17521231707650750750:True:=⟨⟩
theorem tw17628291539303396357:True:=⟨⟩
theorem tw17652436459944587518:True:=⟨⟩
theorem tw17758464150216393019:True:=⟨⟩
theorem tw1781388853947425682:True:=⟨⟩
theorem tw17827794536323817502:True:=⟨⟩
theorem tw17927859363449240205:True:=⟨⟩
theorem tw17930702056511350521:True:=⟨⟩
theorem tw17945071953737518332:True:=⟨⟩
theorem tw18053822009219931582:True:=⟨⟩
theorem tw18085306522113756296:True:=⟨⟩
theorem tw18191198202829972020:True:=⟨⟩
theorem tw18251571921212709732:True:=⟨⟩
theorem tw18277571590290442490:True:=⟨⟩
theorem tw18315894882080764692:True:=⟨⟩
theorem tw18316137415750338583:True:=⟨⟩
theorem tw1852111735058624859:True:=⟨⟩
theorem tw2003849458017458943:True:=⟨⟩
theorem tw2018064056826466573:True:=⟨⟩
theorem tw203999860802323666:True:=⟨⟩
theorem tw2076883113920530744:True:=⟨⟩
theorem tw2080726773986311892:True:=⟨⟩
theorem tw2149294150403123390:True:=⟨⟩
theorem tw2183207932772149884:True:=⟨⟩
theorem tw2209237695569325191:True:=⟨⟩
theorem tw22281950993366479:True:=⟨⟩
theorem tw2270628273377860069:True:=⟨⟩
theorem tw2347535287021042560:True:=⟨⟩
theorem tw2364518275601822660:True:=⟨⟩
theorem tw2426855785359961380:True:=⟨⟩
theorem tw244305426759289362:True:=⟨⟩
theorem tw2463308655490613742:True:=⟨⟩
theorem tw2487294333938485563:True:=⟨⟩
theorem tw2657525830342057136:True:=⟨⟩
theorem tw2712771761642141269:True:=⟨⟩
theorem tw2755967036684745104:True:=⟨⟩
theorem tw280023238506019200:True:=⟨⟩
theorem tw2823750692970414789:True:=⟨⟩
theorem tw2850246003029215995:True:=⟨⟩
theorem tw2922032416392093439:True:=⟨⟩
theorem tw2970014298761331246:True:=⟨⟩
theorem tw3184643589226854342:True:=⟨⟩
theorem tw3193990354036995387:True:=⟨⟩
theorem tw3203925457218994417:True:=⟨⟩
theorem tw3244317486384173344:True:=⟨⟩
theorem tw3275032676224227710:True:=⟨⟩
theorem tw3352487435076415248:True:=⟨⟩
theorem tw3385276627003470803:True:=⟨⟩
theorem tw3447685232708860758:True:=⟨⟩
theorem tw3453497624711575045:True:=⟨⟩
theorem tw352155676427889161:True:=⟨⟩
theorem tw3628327648089370096:True:=⟨⟩
theorem tw3724143799777109330:True:=⟨⟩
theorem tw3848623728815817763:True:=⟨⟩
theorem tw3971500210618446368:True:=⟨⟩
theorem tw4043588562720635935:True:=⟨⟩
theorem tw4104258469886177979:True:=⟨⟩
theorem tw4201952022332227833:True:=⟨⟩
theorem tw4324525044567425652:True:=⟨⟩
theorem tw4344458960256532737:True:=⟨⟩
theorem tw4474642208454053160:True:=⟨⟩
theorem tw4503680668746600625:True:=⟨⟩
theorem tw4525333637768644428:True:=⟨⟩
theorem tw4544230442905755783:True:=⟨⟩
theorem tw4566330549344002734:True:=⟨⟩
theorem tw4567854301149426229:True:=⟨⟩
theorem tw4569347312147552240:True:=⟨⟩
theorem tw457137515618145764:True:=⟨⟩
theorem tw4646474781805047494:True:=⟨⟩
theorem tw466568601017392460:True:=⟨⟩
theorem tw4749460542116958291:True:=⟨⟩
theorem tw4799433394554937957:True:=⟨⟩
theorem tw4799581430585621720:True:=⟨⟩
theorem tw4830357517753846333:True:=⟨⟩
theorem tw4831308866397700366:True:=⟨⟩
theorem tw4845266489148175423:True:=⟨⟩
theorem tw4854706132012955687:True:=⟨⟩
theorem tw5096027072600770534:True:=⟨⟩
theorem tw5161264491643688329:True:=⟨⟩
theorem tw53693654432322149:True:=⟨⟩
theorem tw5485050771148007889:True:=⟨⟩
theorem tw5491389259602838420:True:=⟨⟩
theorem tw5494609938573525606:True:=⟨⟩
theorem tw5515038934332463073:True:=⟨⟩
theorem tw5600176281874160446:True:=⟨⟩
theorem tw5643827030969569474:True:=⟨⟩
theorem tw5705334414368275549:True:=⟨⟩
theorem tw5796209044424004529:True:=⟨⟩
theorem tw5830483060339640857:True:=⟨⟩
theorem tw5924647979542791774:True:=⟨⟩
theorem tw5941915797563491668:True:=⟨⟩
theorem tw596960927005430905:True:=⟨⟩
theorem tw6102672434734249261:True:=⟨⟩
theorem tw6665397442989672903:True:=⟨⟩
theorem tw6705952791661633911:True:=⟨⟩
theorem tw6804072595902654542:True:=⟨⟩
theorem tw6804633306325229238:True:=⟨⟩
theorem tw6861482219107680735:True:=⟨⟩
theorem tw6984571352161332795:True:=⟨⟩
theorem tw7086869315100545445:True:=⟨⟩
theorem tw7106346792148252079:True:=⟨⟩
theorem tw7346449581027820586:True:=⟨⟩
theorem tw7372015625811178450:True:=⟨⟩
theorem tw741561920306549477:True:=⟨⟩
theorem tw7465306200491515830:True:=⟨⟩
theorem tw7595797351581811090:True:=⟨⟩
theorem tw7609227522739918666:True:=⟨⟩
theorem tw7615245170362070786:True:=⟨⟩
theorem tw7653200823125328943:True:=⟨⟩
theorem tw7858373705488346502:True:=⟨⟩
theorem tw7929354521704904423:True:=⟨⟩
theorem tw8017147109468934432:True:=⟨⟩
theorem tw8022687775340694804:True:=⟨⟩
theorem tw8073419514313273991:True:=⟨⟩
theorem tw8087578397291271806:True:=⟨⟩
theorem tw814929489482244316:True:=⟨⟩
theorem tw8216744459695235564:True:=⟨⟩
theorem tw8254000294297296679:True:=⟨⟩
theorem tw8531971185012757062:True:=⟨⟩
theorem tw8618594562570341612:True:=⟨⟩
theorem tw867297369078197031:True:=⟨⟩
theorem tw8697185262790837683:True:=⟨⟩
theorem tw8799217278778403271:True:=⟨⟩
theorem tw8830727920843689073:True:=⟨⟩
theorem tw8847743488456168196:True:=⟨⟩
theorem tw8954856447860529831:True:=⟨⟩
theorem tw8996044469404576489:True:=⟨⟩
theorem tw9042081499888916993:True:=⟨⟩
theorem tw9046308902250810230:True:=⟨⟩
theorem tw9081691314571109726:True:=⟨⟩
theorem tw9139985221129983087:True:=⟨⟩
theorem tw9283979763074463138:True:=⟨⟩
theorem tw9351101511256419116:True:=⟨⟩
theorem tw9356142989955077395:True:=⟨⟩
theorem tw9372248266852158085:True:=⟨⟩
theorem tw9382444350387977826:True:=⟨⟩
theorem tw9383199689002853927:True:=⟨⟩
theorem tw9400128287826666601:True:=⟨⟩
theorem tw9432438915612473966:True:=⟨⟩
theorem tw9436165673596668321:True:=⟨⟩
theorem tw951867138110600865:True:=⟨⟩
theorem tw9658204383086868654:True:=⟨⟩
theorem tw9713552742351811714:True:=⟨⟩
theorem tw9716518535750882226:True:=⟨⟩
theorem tw9756214155726911029:True:=⟨⟩
theorem tw9789054179155083438:True:=⟨⟩
theorem tw9796041184188070903:True:=⟨⟩
theorem tw9807734225315436219:True:=⟨⟩
theorem tw9870333325409482598:True:=⟨⟩
theorem tw9891763002459489877:True:=⟨⟩
theorem tw9960143513740334460:True:=⟨⟩
end PySem.W.Fast
open PySem PySem.W PyProof.Rows
set_option maxRecDepth 100000 in
set_option maxHeartbeats 0 in
theorem PySem.Challenge.cw_flagroll_k31_decided_holds : PySem.Challenge.rw_flagroll_k31_decided.Holds := by
  w_on; o_law; k_head; (case hw => w_witness2)
  k_fill
  refine L2.sG (l := PySem.Challenge.rw_flagroll_k31_decided) (T := Law.T) (n := 16) (f := Law.Bh) (x := Law.wL) rfl rfl ⟨fun _ => rfl, by decide, by decide⟩ (fun w h Y => PySem.W.kIn_of Y) ?F Law.holds
  case F =>
    intro w mg fa h KX G hmg
    refine' Law.all_mk KX G hmg (Law.dfo Law.c24 rfl (fun _ _ _ _ _ _ => Law.ln1 fun _ => rfl) KX G ?a24 ?l24 ?e24 ?k24) (Law.dfo Law.c25 rfl (fun _ _ _ _ _ _ => Law.ln4 fun _ _ _ _ => rfl) KX G ?a25 ?l25 ?e25 ?k25) (Law.dfo Law.c26 rfl (fun _ _ _ _ _ _ => Law.ln1 fun _ => rfl) KX G ?a26 ?l26 ?e26 ?k26) (Law.dfo Law.c27 rfl (fun _ _ _ _ _ _ => Law.ln3 fun _ _ _ => rfl) KX G ?a27 ?l27 ?e27 ?k27) (Law.dfo Law.c28 rfl (fun _ _ _ _ _ _ => Law.ln1 fun _ => rfl) KX G ?a28 ?l28 ?e28 ?k28) (Law.dfo Law.c29 rfl (fun _ _ _ _ _ _ => Law.ln2 fun _ _ => rfl) KX G ?a29 ?l29 ?e29 ?k29) (Law.dfo Law.c30 rfl (fun _ _ _ _ _ _ => Law.ln2 fun _ _ => rfl) KX G ?a30 ?l30 ?e30 ?k30) (Law.dfo Law.c31 rfl (fun _ _ _ _ _ _ => Law.ln2 fun _ _ => rfl) KX G ?a31 ?l31 ?e31 ?k31) (Law.dfo Law.c32 rfl (fun _ _ _ _ _ _ => Law.ln2 fun _ _ => rfl) KX G ?a32 ?l32 ?e32 ?k32) (Law.dfo Law.c33 rfl (fun _ _ _ _ _ _ => Law.ln3 fun _ _ _ => rfl) KX G ?a33 ?l33 ?e33 ?k33) (Law.dfo Law.c34 rfl (fun _ _ _ _ _ _ => Law.ln3 fun _ _ _ => rfl) KX G ?a34 ?l34 ?e34 ?k34) (Law.dfo Law.c35 rfl (fun _ _ _ _ _ _ => Law.ln3 fun _ _ _ => rfl) KX G ?a35 ?l35 ?e35 ?k35) (Law.dfo Law.c36 rfl (fun _ _ _ _ _ _ => Law.ln3 fun _ _ _ => rfl) KX G ?a36 ?l36 ?e36 ?k36) (Law.dfo Law.c37 rfl (fun _ _ _ _ _ _ => Law.ln3 fun _ _ _ => rfl) KX G ?a37 ?l37 ?e37 ?k37) (Law.dfo Law.c38 rfl (fun _ _ _ _ _ _ => Law.ln2 fun _ _ => rfl) KX G ?a38 ?l38 ?e38 ?k38) (Law.dfo Law.c39 rfl (fun _ _ _ _ _ _ => Law.ln4 fun _ _ _ _ => rfl) KX G ?a39 ?l39 ?e39 ?k39) (Law.dfo Law.c40 rfl (fun _ _ _ _ _ _ => Law.ln3 fun _ _ _ => rfl) KX G ?a40 ?l40 ?e40 ?k40) (Law.dfo Law.c41 rfl (fun _ _ _ _ _ _ => Law.ln4 fun _ _ _ _ => rfl) KX G ?a41 ?l41 ?e41 ?k41) (Law.dfo Law.c42 rfl (fun _ _ _ _ _ _ => Law.ln4 fun _ _ _ _ => rfl) KX G ?a42 ?l42 ?e42 ?k42) (Law.dfo Law.c43 rfl (fun _ _ _ _ _ _ => Law.ln3 fun _ _ _ => rfl) KX G ?a43 ?l43 ?e43 ?k43) (Law.dfo Law.c44 rfl (fun _ _ _ _ _ _ => Law.ln3 fun _ _ _ => rfl) KX G ?a44 ?l44 ?e44 ?k44) (Law.dfo Law.c45 rfl (fun _ _ _ _ _ _ => Law.ln2 fun _ _ => rfl) KX G ?a45 ?l45 ?e45 ?k45) (Law.dfo Law.c46 rfl (fun _ _ _ _ _ _ => Law.ln2 fun _ _ => rfl) KX G ?a46 ?l46 ?e46 ?k46) (Law.dfo Law.c47 rfl (fun _ _ _ _ _ _ => Law.ln2 fun _ _ => rfl) KX G ?a47 ?l47 ?e47 ?k47) (Law.dfo Law.c48 rfl (fun _ _ _ _ _ _ => Law.ln4 fun _ _ _ _ => rfl) KX G ?a48 ?l48 ?e48 ?k48) (Law.dfo Law.c49 rfl (fun _ _ _ _ _ _ => Law.ln2 fun _ _ => rfl) KX G ?a49 ?l49 ?e49 ?k49) (Law.dfo Law.c50 rfl (fun _ _ _ _ _ _ => Law.ln3 fun _ _ _ => rfl) KX G ?a50 ?l50 ?e50 ?k50) (Law.dfo Law.c51 rfl (fun _ _ _ _ _ _ => Law.ln2 fun _ _ => rfl) KX G ?a51 ?l51 ?e51 ?k51) (Law.dfo Law.c52 rfl (fun _ _ _ _ _ _ => Law.ln3 fun _ _ _ => rfl) KX G ?a52 ?l52 ?e52 ?k52) (Law.dfo Law.c53 rfl (fun _ _ _ _ _ _ => Law.ln4 fun _ _ _ _ => rfl) KX G ?a53 ?l53 ?e53 ?k53) (Law.dfo Law.c54 rfl (fun _ _ _ _ _ _ => Law.ln6 fun _ _ _ _ _ _ => rfl) KX G ?a54 ?l54 ?e54 ?k54) (Law.dfo Law.c55 rfl (fun _ _ _ _ _ _ => Law.ln5 fun _ _ _ _ _ => rfl) KX G ?a55 ?l55 ?e55 ?k55) (Law.dfo Law.c56 rfl (fun _ _ _ _ _ _ => Law.ln4 fun _ _ _ _ => rfl) KX G ?a56 ?l56 ?e56 ?k56) (Law.dfo Law.c57 rfl (fun _ _ _ _ _ _ => Law.ln5 fun _ _ _ _ _ => rfl) KX G ?a57 ?l57 ?e57 ?k57) (Law.dfo Law.c58 rfl (fun _ _ _ _ _ _ => Law.ln9 fun _ _ _ _ _ _ _ _ _ => rfl) KX G ?a58 ?l58 ?e58 ?k58) (Law.dfo Law.c59 rfl (fun _ _ _ _ _ _ => Law.ln5 fun _ _ _ _ _ => rfl) KX G ?a59 ?l59 ?e59 ?k59) (Law.dfo Law.c60 rfl (fun _ _ _ _ _ _ => Law.ln3 fun _ _ _ => rfl) KX G ?a60 ?l60 ?e60 ?k60) (Law.dfo Law.c61 rfl (fun _ _ _ _ _ _ => Law.ln2 fun _ _ => rfl) KX G ?a61 ?l61 ?e61 ?k61) (Law.dfo Law.c62 rfl (fun _ _ _ _ _ _ => Law.ln4 fun _ _ _ _ => rfl) KX G ?a62 ?l62 ?e62 ?k62) (Law.dfo Law.c63 rfl (fun _ _ _ _ _ _ => Law.ln4 fun _ _ _ _ => rfl) KX G ?a63 ?l63 ?e63 ?k63) (Law.dfo Law.c64 rfl (fun _ _ _ _ _ _ => Law.ln2 fun _ _ => rfl) KX G ?a64 ?l64 ?e64 ?k64) (Law.dfo Law.c65 rfl (fun _ _ _ _ _ _ => Law.ln1 fun _ => rfl) KX G ?a65 ?l65 ?e65 ?k65) ?a66 ?l66 ?e66 ?k66 ?q21 ?q22 ?q23 ?z0 ?z1 ?z2 ?z3 ?z4 ?z5 ?z6 ?z7 ?z8 ?z9 ?z10 ?z11 ?z12 ?z13 ?z14 ?z15 ?z16 ?z17 ?z18 ?z19 ?z20
    (case a24=>k_is)
    (case l24=>k_is)
    (case e24=>k_is)
    (case k24=>k_is)
    (case a25=>k_is)
    (case l25=>k_is)
    (case e25=>k_is)
    (case k25=>k_is)
    (case a26=>k_is)
    (case l26=>k_is)
    (case e26=>k_is)
    (case k26=>k_is)
    (case a27=>k_is)
    (case l27=>k_is)
    (case e27=>k_is)
    (case k27=>k_is)
    (case a28=>k_is)
    (case l28=>k_is)
    (case e28=>k_is)
    (case k28=>k_is)
    (case a29=>k_is)
    (case l29=>k_is)
    (case e29=>k_is)
    (case k29=>k_is)
    (case a30=>k_is)
    (case l30=>k_is)
    (case e30=>k_is)
    (case k30=>k_is)
    (case a31=>k_is)
    (case l31=>k_is)
    (case e31=>k_is)
    (case k31=>k_is)
    (case a32=>k_is)
    (case l32=>k_is)
    (case e32=>k_is)
    (case k32=>k_is)
    (case a33=>k_is)
    (case l33=>k_is)
    (case e33=>k_is)
    (case k33=>k_is)
    (case a34=>k_is)
    (case l34=>k_is)
    (case e34=>k_is)
    (case k34=>k_is)
    (case a35=>k_is)
    (case l35=>k_is)
    (case e35=>k_is)
    (case k35=>k_is)
    (case a36=>k_is)
    (case l36=>k_is)
    (case e36=>k_is)
    (case k36=>k_is)
    (case a37=>k_is)
    (case l37=>k_is)
    (case e37=>k_is)
    (case k37=>k_is)
    (case a38=>k_is)
    (case l38=>k_is)
    (case e38=>k_is)
    (case k38=>k_is)
    (case a39=>k_is)
    (case l39=>k_is)
    (case e39=>k_is)
    (case k39=>k_is)
    (case a40=>k_is)
    (case l40=>k_is)
    (case e40=>k_is)
    (case k40=>k_is)
    (case a41=>k_is)
    (case l41=>k_is)
    (case e41=>k_is)
    (case k41=>k_is)
    (case a42=>k_is)
    (case l42=>k_is)
    (case e42=>k_is)
    (case k42=>k_is)
    (case a43=>k_is)
    (case l43=>k_is)
    (case e43=>k_is)
    (case k43=>k_is)
    (case a44=>k_is)
    (case l44=>k_is)
    (case e44=>k_is)
    (case k44=>k_is)
    (case a45=>k_is)
    (case l45=>k_is)
    (case e45=>k_is)
    (case k45=>k_is)
    (case a46=>k_is)
    (case l46=>k_is)
    (case e46=>k_is)
    (case k46=>k_is)
    (case a47=>k_is)
    (case l47=>k_is)
    (case e47=>k_is)
    (case k47=>k_is)
    (case a48=>k_is)
    (case l48=>k_is)
    (case e48=>k_is)
    (case k48=>k_is)
    (case a49=>k_is)
    (case l49=>k_is)
    (case e49=>k_is)
    (case k49=>k_is)
    (case a50=>k_is)
    (case l50=>k_is)
    (case e50=>k_is)
    (case k50=>k_is)
    (case a51=>k_is)
    (case l51=>k_is)
    (case e51=>k_is)
    (case k51=>k_is)
    (case a52=>k_is)
    (case l52=>k_is)
    (case e52=>k_is)
    (case k52=>k_is)
    (case a53=>k_is)
    (case l53=>k_is)
    (case e53=>k_is)
    (case k53=>k_is)
    (case a54=>k_is)
    (case l54=>k_is)
    (case e54=>k_is)
    (case k54=>k_is)
    (case a55=>k_is)
    (case l55=>k_is)
    (case e55=>k_is)
    (case k55=>k_is)
    (case a56=>k_is)
    (case l56=>k_is)
    (case e56=>k_is)
    (case k56=>k_is)
    (case a57=>k_is)
    (case l57=>k_is)
    (case e57=>k_is)
    (case k57=>k_is)
    (case a58=>k_is)
    (case l58=>k_is)
    (case e58=>k_is)
    (case k58=>k_is)
    (case a59=>k_is)
    (case l59=>k_is)
    (case e59=>k_is)
    (case k59=>k_is)
    (case a60=>k_is)
    (case l60=>k_is)
    (case e60=>k_is)
    (case k60=>k_is)
    (case a61=>k_is)
    (case l61=>k_is)
    (case e61=>k_is)
    (case k61=>k_is)
    (case a62=>k_is)
    (case l62=>k_is)
    (case e62=>k_is)
    (case k62=>k_is)
    (case a63=>k_is)
    (case l63=>k_is)
    (case e63=>k_is)
    (case k63=>k_is)
    (case a64=>k_is)
    (case l64=>k_is)
    (case e64=>k_is)
    (case k64=>k_is)
    (case a65=>k_is)
    (case l65=>k_is)
    (case e65=>k_is)
    (case k65=>k_is)
    (case a66=>k_is)
    (case l66=>k_is)
    (case e66=>k_is)
    (case k66=>k_is)
    (case q21=>k_is)
    (case q22=>k_is)
    (case q23=>k_is)
    (case z0=>k_is)
    (case z1=>k_is)
    (case z2=>k_is)
    (case z3=>k_is)
    (case z4=>k_is)
    (case z5=>k_is)
    (case z6=>k_is)
    (case z7=>k_is)
    (case z8=>k_is)
    (case z9=>k_is)
    (case z10=>k_is)
    (case z11=>k_is)
    (case z12=>k_is)
    (case z13=>k_is)
    (case z14=>k_is)
    (case z15=>k_is)
    (case z16=>k_is)
    (case z17=>k_is)
    (case z18=>k_is)
    (case z19=>k_is)
    (case z20=>k_is)
#print axioms PySem.Challenge.cw_flagroll_k31_decided_holds
