import PyProof.Rows.All
import Wide.All
import OpenK.AllK
import Wide.FinOn
import Lean
import PyProof.EqAt
import PyProof.EqKinds
import PyProof.TupleCall
import PyProof.NeKinds
import KE.KRevIter
import KE.KSortTup
import Wide.Txt2
import PyProof.FString4
import KE.KIntText
import PyProof.ZipIter
import PyProof.TupleIter
import PyProof.WalksMore
import PyProof.Rows.SortShell
import KE.KDictSum
import PyProof.Rows.SortStr
import PyProof.Rows.SetFrom
import PyProof.FactsAll.subtypes_4
import PyProof.DictUpdate
import KE.KDictOf
import PyProof.AttrMissSeq
import KE.KDictList
import KE.KDictIter
import PyProof.Rows.SortWalk
import PyProof.EnumMake
import PyProof.EnumFor
import PyProof.Rows.EnumRows
import PyProof.MeetsSeq
import PyProof.ListRange
import KE.KIsAll
import PyProof.ExcArgsOwn
import PyProof.ExcAttrAll.ValueError
import OpenK.KDescr
import PyProof.ExcInit
import PyProof.ExcClass2
import PyProof.InstStoreFacts
import PyProof.StationsW
import OpenK.KMake
import OpenK.KOwn
import KE.KTryMore
import OpenK.KRaise
import PyProof.RulesDel
import PyProof.RulesAs
import PyProof.Rows.Catch
import PySem.Challenge.RW_flagroll_k44_things_in_cells
open PySem.W (Frag)
theorem a_:type_of% @PySem.wpAny_bind:=@PySem.wpAny_bind
theorem b_:type_of% @List.map_cons:=@List.map_cons
theorem c_:type_of% @List.cons_append:=@List.cons_append
theorem d_:type_of% @if_neg:=@if_neg
theorem e_:type_of% @if_pos:=@if_pos
theorem f_:type_of% @PySem.wpAny_pure:=@PySem.wpAny_pure
theorem g_:type_of% @List.length_append:=@List.length_append
theorem h_:type_of% @LawfulBEq.eq_of_beq:=@LawfulBEq.eq_of_beq
theorem i_:type_of% @List.length_map:=@List.length_map
theorem j_:type_of% @Bool.and_eq_true:=@Bool.and_eq_true
theorem k_:type_of% @List.mem_cons:=@List.mem_cons
theorem l_:type_of% @Nat.le_refl:=@Nat.le_refl
theorem m_:type_of% @PySem.Heap.lt_size:=@PySem.Heap.lt_size
theorem n_:type_of% @PySem.Heap.get?_push_of_some:=@PySem.Heap.get?_push_of_some
theorem o_:type_of% @List.mem_append:=@List.mem_append
theorem p_:type_of% @Bool.false_ne_true:=@Bool.false_ne_true
theorem q_:type_of% @List.mem_append_left:=@List.mem_append_left
theorem r_:type_of% @List.append_assoc:=@List.append_assoc
theorem s_:type_of% @List.mem_append_right:=@List.mem_append_right
theorem t_:type_of% @List.mem_singleton:=@List.mem_singleton
theorem u_:type_of% @of_decide_eq_true:=@of_decide_eq_true
theorem v_:type_of% @List.append_nil:=@List.append_nil
theorem w_:type_of% @List.mem_cons_of_mem:=@List.mem_cons_of_mem
theorem x_:type_of% @List.nodup_append:=@List.nodup_append
theorem y_:type_of% @Bool.and_eq_true_iff:=@Bool.and_eq_true_iff
theorem z_:type_of% @Nat.ne_of_lt:=@Nat.ne_of_lt
theorem A_:type_of% @PySem.Heap.get?_push_size:=@PySem.Heap.get?_push_size
theorem B_:type_of% @decide_eq_true:=@decide_eq_true
theorem C_:type_of% @List.map_append:=@List.map_append
theorem D_:type_of% @List.size_toArray:=@List.size_toArray
theorem E_:type_of% @List.getElem?_eq_some_iff:=@List.getElem?_eq_some_iff
theorem F_:type_of% @PySem.Heap.get?_update_other:=@PySem.Heap.get?_update_other
theorem G_:type_of% @List.nodup_cons:=@List.nodup_cons
theorem H_:type_of% @decide_eq_false:=@decide_eq_false
theorem I_:type_of% @PySem.W.mg_none_of:=@PySem.W.mg_none_of
theorem J_:type_of% @List.mem_cons_self:=@List.mem_cons_self
theorem K_:type_of% @Option.some.inj:=@Option.some.inj
theorem L_:type_of% @List.getElem?_map:=@List.getElem?_map
theorem M_:type_of% @PySem.wpAny_holding:=@PySem.wpAny_holding
theorem N_:type_of% @PySem.wpAny_seqItems:=@PySem.wpAny_seqItems
theorem O_:type_of% @List.all_eq_true:=@List.all_eq_true
theorem P_:type_of% @Nat.lt_of_lt_of_le:=@Nat.lt_of_lt_of_le
theorem Q_:type_of% @Array.length_toList:=@Array.length_toList
theorem R_:type_of% @List.getElem?_eq_getElem:=@List.getElem?_eq_getElem
theorem S_:type_of% @Nat.le_trans:=@Nat.le_trans
theorem T_:type_of% @List.not_mem_nil:=@List.not_mem_nil
theorem U_:type_of% @PySem.Around.under_plainId:=@PySem.Around.under_plainId
theorem V_:type_of% @List.length_singleton:=@List.length_singleton
theorem W_:type_of% @PySem.Heap.size_push:=@PySem.Heap.size_push
theorem X_:type_of% @Bool.false_eq_true:=@Bool.false_eq_true
theorem Y_:type_of% @List.map_map:=@List.map_map
theorem Z_:type_of% @PySem.wpAny_newObj_type:=@PySem.wpAny_newObj_type
theorem aaa:type_of% @Nat.zero_le:=@Nat.zero_le
theorem aab:type_of% @PySem.wpAny_field:=@PySem.wpAny_field
theorem aac:type_of% @PySem.wpAny_setField_rec:=@PySem.wpAny_setField_rec
theorem aad:type_of% @PySem.wpAny_pyIter_list:=@PySem.wpAny_pyIter_list
theorem aae:type_of% @Bool.or_eq_true:=@Bool.or_eq_true
theorem aaf:type_of% @PySem.wpAny_call_entry:=@PySem.wpAny_call_entry
theorem aag:type_of% @List.singleton_append:=@List.singleton_append
theorem aah:type_of% @Nat.lt_irrefl:=@Nat.lt_irrefl
theorem aai:type_of% @List.mem_range:=@List.mem_range
theorem aaj:type_of% @Array.getElem?_toList:=@Array.getElem?_toList
theorem aak:type_of% @List.length_take:=@List.length_take
theorem aal:type_of% @PySem.Heap.get?_update_self:=@PySem.Heap.get?_update_self
theorem aam:type_of% @List.perm_append_comm:=@List.perm_append_comm
theorem aan:type_of% @List.map_congr_left:=@List.map_congr_left
theorem aao:type_of% @List.mem_of_getElem?:=@List.mem_of_getElem?
theorem aap:type_of% @List.length_drop:=@List.length_drop
theorem aaq:type_of% @List.lookup_cons:=@List.lookup_cons
theorem aar:type_of% @List.getElem?_append_left:=@List.getElem?_append_left
theorem aas:type_of% @Option.map_eq_some_iff:=@Option.map_eq_some_iff
theorem aat:type_of% @List.getElem_mem:=@List.getElem_mem
theorem aau:type_of% @List.Perm.append_left:=@List.Perm.append_left
theorem aav:type_of% @List.getD_eq_getElem?_getD:=@List.getD_eq_getElem?_getD
open Option renaming some → Δ
open Bool renaming true → Θ
open Bool renaming false → Ξ
open Option renaming none → Φ
open PySem renaming Value → Ψ
open PySem renaming Addr → Ω
open PySem renaming Shared → Α
open PySem renaming World → Β
open PySem renaming Program → Ε
open PySem renaming sizeLine → Ζ
open PySem renaming mainGlobals → Η
open PySem renaming Around → Ι
open PySem renaming wpAny → Κ
open PySem renaming model → Μ
open PySem renaming starEach → Ν
open PySem renaming FuncData → Ο
open PySem.Str renaming ofString → Ρ
open List renaming replicate → Τ
open PySem.NameKind renaming free → Υ
open PySem.Builtin.List renaming listExtendWith → Χ
open PySem.Builtin.SmallTypes renaming nextOf → ζ
open PySem.Builtin.SmallTypes renaming ownedTupleIsFree → η
open PySem.Value renaming ref → θ
open PySem.Obj renaming mapSeq → ι
namespace L2
theorem zE:type_of% @PySem.Expr.casesOn.{0}:=@PySem.Expr.casesOn.{0}
theorem zS:type_of% @PySem.Stmt.casesOn.{0}:=@PySem.Stmt.casesOn.{0}
end L2
set_option maxHeartbeats 8000000
set_option Elab.async false
set_option linter.all false
set_option maxRecDepth 100000
namespace L2
open PySem PySem.Spec PyProof.Rows
abbrev Key:=Sum Int Str
noncomputable def l7:Key->Ψ->Bool
 |.inl k,v=>Value.isInt k v
 |.inr x,v=>Value.isStrOf x v
noncomputable def Ew (w:Β):Key->Int
 |.inl k=>hashInt k
 |.inr x=>hashStr w x
theorem gY:∀ {k:Key}{v:Ψ},l7 k v=Θ->(∃i t,k=Sum.inl i/\v=Value.int i t)∨(∃x t,k=Sum.inr x/\v=Value.str x t)
 |.inl i,v,h=>by obtain⟨t,e⟩:=Value.isInt_shape (k:=i) (v:=v) h;exact .inl ⟨i,t,rfl,e⟩
 |.inr x,v,h=>by obtain⟨t,e⟩:=Value.isStrOf_shape (x:=x) (v:=v) h;exact .inr ⟨x,t,rfl,e⟩
theorem jB (i:Int)(t:Tok):l7 (.inl i) (.int i t)=Θ:=by simp[l7,Value.isInt]
theorem jC (x:Str)(t:Tok):l7 (.inr x) (.str x t)=Θ:=by simp[l7,Value.isStrOf]
theorem BW (a b:Int):decide ((Sum.inl a:Key)=Sum.inl b)=(a == b):=by
 by_cases e:a=b
 ·subst e;simp
 ·have h:¬(Sum.inl a:Key)=Sum.inl b:=fun q=>e (Sum.inl.inj q);rw[H_ h];exact(beq_eq_false_iff_ne.mpr e).symm
theorem BX (a b:Str):decide ((Sum.inr a:Key)=Sum.inr b)=decide (a=b):=by
 by_cases e:a=b
 ·subst e;simp
 ·have h:¬(Sum.inr a:Key)=Sum.inr b:=fun q=>e (Sum.inr.inj q);rw[H_ h,H_ e]
theorem BY (a:Int)(b:Str):decide ((Sum.inl a:Key)=Sum.inr b)=Ξ:=H_ (fun q=>nomatch q)
theorem BZ (a:Str)(b:Int):decide ((Sum.inr a:Key)=Sum.inl b)=Ξ:=H_ (fun q=>nomatch q)
noncomputable def iH (prog:Ε)(w:Β):PySem.KeyKind prog w Key where
 is:=l7
 hash:=Ew w
 inj:=fun v a b ha hb=>by
  rcases gY ha with⟨i,t,rfl,rfl⟩|⟨x,t,rfl,rfl⟩
  ·rcases gY hb with⟨j,u,rfl,e⟩|⟨y,u,rfl,e⟩
   ·injection e with e1 _;rw[e1]
   ·exact nomatch e
  ·rcases gY hb with⟨j,u,rfl,e⟩|⟨y,u,rfl,e⟩
   ·exact nomatch e
   ·injection e with e1 _;rw[e1]
 byValue:=fun k v h=>by rcases gY h with⟨i,t,rfl,rfl⟩|⟨x,t,rfl,rfl⟩<;>rfl
 pyHash:=fun hv h=>by
  rcases gY hv with⟨i,t,rfl,rfl⟩|⟨x,t,rfl,rfl⟩
  ·exact wpAny_pyHash_int h
  ·exact wpAny_pyHash_str h
 eqBool:=fun hu hv h=>by
  rcases gY hu with⟨i,t,rfl,rfl⟩|⟨x,t,rfl,rfl⟩
  ·rcases gY hv with⟨j,u,rfl,rfl⟩|⟨y,u,rfl,rfl⟩
   ·rw[BW]at h;exact wpAny_eqBool_int h
   ·rw[BY]at h;exact SeqAt.EqAt.int_str i t y u _ _ _ _ h
  ·rcases gY hv with⟨j,u,rfl,rfl⟩|⟨y,u,rfl,rfl⟩
   ·rw[BZ]at h;exact SeqAt.EqAt.str_int x t j u _ _ _ _ h
   ·rw[BX]at h;exact wpAny_eqBool_str h
 «strs»:=fun k x t v h=>by
  rcases gY h with⟨i,u,rfl,e⟩|⟨y,u,rfl,e⟩
  ·exact nomatch e
  ·injection e with e1 _;subst e1;cases v<;>rfl
abbrev TK:=Option Key
noncomputable def Ex:TK->Ψ->Bool
 |none,.none=>Θ
 |none,_=>Ξ
 |some k,v=>l7 k v
noncomputable def W7 (w:Β):TK->Int
 |none=>reduceHash 0xFCA86420
 |some k=>Ew w k
theorem iO:∀ {k:TK}{v:Ψ},Ex k v=Θ->(k=Φ/\v=.none)∨(∃i t,k=Δ (Sum.inl i)/\v=Value.int i t)∨(∃x t,k=Δ (Sum.inr x)/\v=Value.str x t)
 |none,v,h=>by cases v<;>first|exact .inl ⟨rfl,rfl⟩|cases h
 |some k,v,h=>by
  rcases gY (k:=k) h with⟨i,t,rfl,rfl⟩|⟨x,t,rfl,rfl⟩
  ·exact .inr (.inl ⟨i,t,rfl,rfl⟩)
  ·exact .inr (.inr ⟨x,t,rfl,rfl⟩)
noncomputable def nv (prog:Ε)(w:Β):PySem.KeyKind prog w TK where
 is:=Ex
 hash:=W7 w
 inj:=fun v a b ha hb=>by rcases iO ha with⟨rfl,rfl⟩|⟨i,t,rfl,rfl⟩|⟨x,t,rfl,rfl⟩<;>rcases iO hb with⟨rfl,e⟩|⟨j,u,rfl,e⟩|⟨y,u,rfl,e⟩<;>cases e<;>rfl
 byValue:=fun k v h=>by rcases iO h with⟨rfl,rfl⟩|⟨i,t,rfl,rfl⟩|⟨x,t,rfl,rfl⟩<;>rfl
 pyHash:=fun hv h=>by
  rcases iO hv with⟨rfl,rfl⟩|⟨i,t,rfl,rfl⟩|⟨x,t,rfl,rfl⟩
  ·exact PySem.W.pyHash_slot (T:="NoneType") rfl F.slot_NoneType_hash F.entry_NoneType_hash (F.args_NoneType_hash_1 _) (beq_builtin_none _) (.inl rfl) (a_ (f_ (a_ (wpAny_mkInt (f_ ⟨_,_,rfl,h⟩)))))
  ·exact wpAny_pyHash_int h
  ·exact wpAny_pyHash_str h
 eqBool:=fun {_ _ _ a b _ _ _} hu hv h=>by
  have e:decide (a=b)=match a,b with|none,Φ=>Θ|some a,Δ b=>decide (a=b)|_,_=>Ξ:=by cases a<;>cases b<;>simp
  rw[e]at h;rcases iO hu with⟨rfl,rfl⟩|⟨i,t,rfl,rfl⟩|⟨x,t,rfl,rfl⟩<;>rcases iO hv with⟨rfl,rfl⟩|⟨j,u,rfl,rfl⟩|⟨y,u,rfl,rfl⟩
  ·unfold eqBool;refine M_ ?_;show Κ _ _ (if(Value.none == Value.none)=Θ then _ else _) _ _ _;rw[e_ (by decide)];exact a_ (wpAny_rule (f_ h))
  ·exact SeqAt.EqAt.none_int j u _ _ _ _ h
  ·exact SeqAt.EqAt.none_str y u _ _ _ _ h
  ·exact SeqAt.EqAt.int_none i t _ _ _ _ h
  ·exact(iH prog w).eqBool (a:=(.inl i)) (b:=(.inl j)) (jB i t) (jB j u) h
  ·exact(iH prog w).eqBool (a:=(.inl i)) (b:=(.inr y)) (jB i t) (jC y u) h
  ·exact SeqAt.EqAt.str_none x t _ _ _ _ h
  ·exact(iH prog w).eqBool (a:=(.inr x)) (b:=(.inl j)) (jC x t) (jB j u) h
  ·exact(iH prog w).eqBool (a:=(.inr x)) (b:=(.inr y)) (jC x t) (jC y u) h
 «strs»:=fun k x t v h=>by rcases iO h with⟨rfl,e⟩|⟨i,u,rfl,e⟩|⟨y,u,rfl,e⟩<;>cases e;cases v<;>rfl
theorem pM (prog:Ε)(w:Β)(i:Int)(t:Tok):(iH prog w).is (.inl i) (.int i t)=Θ:=jB i t
theorem pN (prog:Ε)(w:Β)(x:Str)(t:Tok):(iH prog w).is (.inr x) (.str x t)=Θ:=jC x t
inductive V where
 | Iw|bl (b:Bool)|int (i:Int)|str (x:Str)|OQ (b:Array UInt8)|Lw (b:UInt64)|ref (a:Ω)|ty (n:String)
 deriving DecidableEq
def RelV:V->Ψ->Prop
 |.Iw,u=>u=Value.none
 |.bl b,u=>u=Value.bool b
 |.int i,u=>∃t,u=Value.int i t
 |.str x,u=>∃t,u=Value.str x t
 |.OQ b,u=>∃t,u=Value.bytes b t
 |.Lw b,u=>∃t,u=Value.float b t
 |.ref a,u=>u=θ a
 |.ty n,u=>u=Value.type n
abbrev Vals:List V->List Ψ->Prop:=Paired RelV
theorem Vals.length {xs:List V}{us:List Ψ}(r:Vals xs us):xs.length=us.length:=Paired.length r
theorem Vals.get:∀ {xs:List V}{us:List Ψ}{i:Nat}{x:V},Vals xs us->xs[i]? = Δ x->∃u,us[i]? = Δ u/\RelV x u
 |_,_,_,_,.nil,e=>by simp at e
 |_,_,0,_,.cons r _,e=>by simp at e;subst e;exact⟨_,rfl,r⟩
 |_,_,i+1,x,.cons _ t,e=>by obtain⟨u,h1,h2⟩:=Vals.get (i:=i) (x:=x) t (by simpa using e);exact⟨u,by simpa using h1,h2⟩
theorem Vals.append:∀ {xs ys:List V}{us ws:List Ψ},Vals xs us->Vals ys ws->Vals (xs++ys) (us++ws)
 |_,_,_,_,.nil,s=>s
 |_,_,_,_,.cons r t,s=>.cons r (Vals.append t s)
theorem Vals.take:∀ {xs:List V}{us:List Ψ} (n:Nat),Vals xs us->Vals (xs.take n) (us.take n)
 |_,_,0,_=>.nil
 |_,_,_+1,.nil=>.nil
 |_,_,n+1,.cons r t=>.cons r (Vals.take n t)
theorem Vals.drop:∀ {xs:List V}{us:List Ψ} (n:Nat),Vals xs us->Vals (xs.drop n) (us.drop n)
 |_,_,0,r=>r
 |_,_,_+1,.nil=>.nil
 |_,_,n+1,.cons _ t=>Vals.drop n t
def l8:Option V->Option Ψ->Prop
 |some v,Δ u=>RelV v u
 |none,Φ=>True
 |_,_=>False
def KV {κ:Type}:List (κ×V)->List (κ×Ψ)->Prop:=Paired fun(p:κ×V) (q:κ×Ψ)=>p.1=q.1/\RelV p.2 q.2
noncomputable def kV:Key->V
 |.inl i=>.int i
 |.inr x=>.str x
inductive HO where
 | lst (xs:List V)
 | tup (xs:List V)
 | dK (kvs:List (Key×V))|dT (kvs:List (List TK×Ω×V))
 | set (S:Int->Bool) (n:Nat)
 | ins (C dx:Ω) (fs:List (Str×V))
 | own (x:Ω)
 | xd (fs:List (Str×V))
 | met (f x:Ω)
 | M1 (lo hi:Int)
 | Jw (o:Obj) (u:HO)
 | Ot (ps:Array Ψ)
 | ext (φ:Heap->Prop)
abbrev Hp:=Ω->Option HO
noncomputable def upd (H:Hp)(a:Ω)(o:HO):Hp:=fun b=>if b=a then Δ o else H b
theorem gI {H:Hp}{a:Ω}{o:HO}:upd H a o a=Δ o:=by unfold upd;rw[e_ rfl]
theorem gK {H:Hp}{a b:Ω}{o:HO}(h:b≠a):upd H a o b=H b:=by unfold upd;rw[d_ h]
theorem hW {H:Hp}{a b:Ω}{o:HO}(h:H a=Δ o)(h':H b=Φ):a≠b:=by intro e;subst e;rw[h]at h';cases h'
noncomputable def Na:TK->V
 |none=>.Iw
 |some k=>kV k
abbrev TR:List (List TK×Ω×V)->List (List TK×Ω×Ψ)->Prop:=Paired fun p q=>p.1=q.1/\p.2.1=q.2.1/\RelV p.2.2 q.2.2
section
variable (P:Ε)(w:Β)
def hU (H:Hp)(h:Heap)(a:Ω):HO->Prop
 |.lst xs=>xs.length<=Ζ/\∃(its:List Ψ) (n:Nat),Vals xs its/\h.get? a=Δ {cls:=.type "list",data:=.seq its.toArray n}
 |.tup xs=>xs.length<=Ζ/\∃its:List Ψ,Vals xs its/\IsTup h a its.toArray
 |.dK kvs=>kvs.length<=Ζ/\(a == sysModules)=Ξ/\∃vs,KV kvs vs/\h.DictOf (iH P w) a vs
 |.dT kvs=>kvs.length<=Ζ/\(a == sysModules)=Ξ/\∃xs,TR kvs xs/\
   ∃o es ep,h.get? a=Δ o/\o.ExactDict/\o.data=.dict es ep/\es.toList=xs.map (entryOfKey (tupleKind (nv P w)))/\(xs.map (·.1)).Nodup
 |.set S n=>h.SetOf (intKind P w) a S n
 |.ins C dx fs=>H dx=Δ (.own a)/\fs.length<=1000/\dx≠a/\h.get? a=Δ (PySem.W.instObj C dx)/\
   ∃mA,h.Ns1 dx mA/\(∀f,l8 (fs.lookup f) (mA f))/\PySem.Within mA (fs.map (·.1))
 |.own _=>∃o,h.get? a=Δ o
 |.xd fs=>∃mA,h.Ns1 a mA/\∀f,l8 (fs.lookup f) (mA f)
 |.M1 lo hi=>∃t u v,h.get? a=Δ {cls:=.type "range",data:=.fields #[.int lo t,.int hi u,.int 1 v]}
 |.Jw o u=>h.get? a=Δ o/\hU H h a u
 |.Ot ps=>h.get? a=Δ {cls:=.none,data:=.fields ps}
 |.met f x=>h.get? a=Δ (PySem.W.methodObj (.ref f) (.ref x))
 |.ext φ=>φ h/\(∃o,h.get? a=Δ o)/\∀h1 h2:Heap,φ h1->(∀o,h1.get? a=Δ o->h2.get? a=Δ o)->φ h2
def J6 (H:Hp)(h:Heap):Prop:=∀a o,H a=Δ o->hU P w H h a o
end
section
variable {P:Ε}{w:Β}{H H':Hp}{h h':Heap}{a:Ω}{o:HO}
theorem hU.lt (x:hU P w H h a o):a < h.objs.size:=by
 cases o with
 |lst xs=>obtain⟨_,_,_,_,e⟩:=x;exact m_ e
 |tup xs=>obtain⟨_,_,_,p⟩:=x;exact p.lt
 |dK kvs=>obtain⟨_,_,_,_,o,_,_,e,_⟩:=x;exact m_ e
 |dT kvs=>obtain⟨_,_,_,_,o,_,_,e,_⟩:=x;exact m_ e
 |set S n=>obtain⟨o,_,_,_,e,_⟩:=x;exact m_ e
 |ins C dx fs=>obtain⟨_,_,_,e,_⟩:=x;exact m_ e
 |own y=>obtain⟨_,e⟩:=x;exact m_ e
 |xd fs=>obtain⟨_,⟨_,_,_,e,_⟩,_⟩:=x;exact m_ e
 |M1 lo hi=>obtain⟨_,_,_,e⟩:=x;exact m_ e
 |Jw ob u=>obtain⟨e,_⟩:=x;exact m_ e
 |Ot ps=>exact m_ (show h.get? a=Δ _ from x)
 |met f y=>exact m_ (show h.get? a=Δ _ from x)
 |ext φ=>obtain⟨_,⟨_,e⟩,_⟩:=x;exact m_ e
theorem hU.Lz (x:hU P w H h a o)(k:∀b u,(b=a∨H b=Δ (.own a))->h.get? b=Δ u->h'.get? b=Δ u)
  (ho:∀b,H b=Δ (.own a)->H' b=Δ (.own a)) (ht:∀b xs,H b=Δ (.tup xs)->H' b=Δ (.tup xs)):hU P w H' h' a o:=by
 induction o with
 |lst xs=>obtain⟨z,its,n,r,e⟩:=x;exact⟨z,its,n,r,k _ _ (.inl rfl) e⟩
 |tup xs=>obtain⟨z,its,r,ob,e,c⟩:=x;exact⟨z,its,r,ob,k _ _ (.inl rfl) e,c⟩
 |dK kvs=>obtain⟨z,y,vs,r,ob,es,ep,e,c⟩:=x;exact⟨z,y,vs,r,ob,es,ep,k _ _ (.inl rfl) e,c⟩
 |dT kvs=>obtain⟨z,y,xs,r,ob,es,ep,e,c⟩:=x;exact⟨z,y,xs,r,ob,es,ep,k _ _ (.inl rfl) e,c⟩
 |set S n=>obtain⟨ob,es,ep,t,e,c⟩:=x;exact⟨ob,es,ep,t,k _ _ (.inl rfl) e,c⟩
 |ins C dx fs=>obtain⟨d,z,ne,e,mA,⟨od,es,ep,e2,c⟩,r⟩:=x;exact⟨ho _ d,z,ne,k _ _ (.inl rfl) e,mA,⟨od,es,ep,k _ _ (.inr d) e2,c⟩,r⟩
 |own y=>obtain⟨ob,e⟩:=x;exact⟨ob,k _ _ (.inl rfl) e⟩
 |xd fs=>obtain⟨mA,⟨od,es,ep,e,c⟩,r⟩:=x;exact⟨mA,⟨od,es,ep,k _ _ (.inl rfl) e,c⟩,r⟩
 |M1 lo hi=>obtain⟨t,u,v,e⟩:=x;exact⟨t,u,v,k _ _ (.inl rfl) e⟩
 |Jw ob u ih=>obtain⟨e,q⟩:=x;exact⟨k _ _ (.inl rfl) e,ih q⟩
 |Ot ps=>have e:h.get? a=Δ {cls:=.none,data:=.fields ps}:=x;show h'.get? a=Δ {cls:=.none,data:=.fields ps};exact k a _ (.inl rfl) e
 |met f y=>have e:h.get? a=Δ (PySem.W.methodObj (.ref f) (.ref y)):=x;show h'.get? a=Δ (PySem.W.methodObj (.ref f) (.ref y));exact k a _ (.inl rfl) e
 |ext φ=>obtain⟨p,⟨o,e⟩,st⟩:=x;exact⟨st _ _ p fun o q=>k _ _ (.inl rfl) q,⟨o,k _ _ (.inl rfl) e⟩,st⟩
theorem J6.lt (x:J6 P w H h)(e:H a=Δ o):a < h.objs.size:=(x a o e).lt
theorem J6.fresh (x:J6 P w H h)(e:h.objs.size<=a):H a=Φ:=by
 cases q:H a with
 |none=>rfl
 |some u=>exact absurd (P_ (x.lt q) e) (aah _)
theorem J6.kept (x:J6 P w H h)(k:∀b u,h.get? b=Δ u->h'.get? b=Δ u):J6 P w H h':=fun a o e=>
 (x a o e).Lz (fun b u _ q=>k b u q) (fun _ q=>q) fun _ _ q=>q
theorem J6.laid (x:J6 P w H h)(k:∀b u,h.get? b=Δ u->h'.get? b=Δ u)(hp:h.objs.size<=a)(new:hU P w (upd H a o) h' a o):J6 P w (upd H a o) h':=fun b u e=>by
 have hn:=x.fresh hp;by_cases hb:b=a
 ·subst hb;rw[gI]at e;cases e;exact new
 ·rw[gK hb]at e;exact(x b u e).Lz (fun c v _ q=>k c v q) (fun c q=>by rw[gK (hW q hn)];exact q) fun c xs q=>by rw[gK (hW q hn)];exact q
end
def Rd (H:Hp)(a:Ω)(u:HO):Prop:=H a=Δ u∨∃o,H a=Δ (.Jw o u)
theorem Rd.ok {P:Ε}{w:Β}{H:Hp}{h:Heap}{a:Ω}{u:HO}(r:Rd H a u)(x:J6 P w H h):hU P w H h a u:=by
 rcases r with r|⟨o,r⟩
 ·exact x a u r
 ·obtain⟨_,q⟩:=x a _ r;exact q
def Qw:Option HO->Prop
 |some (.lst _)=>True
 |some (.dK _)=>True
 |some (.dT _)=>True
 |some (.set _ _)=>True
 |some (.ins _ _ _)=>True
 |some (.ext _)=>True
 |_=>False
section
variable {P:Ε}{w:Β}{H:Hp}{h h':Heap}{x e:Ω}{o':HO}
theorem J6.write (ok:J6 P w H h)(mu:Qw (H x))(he:e=x∨H e=Δ (.own x))(k:∀b u,b≠e->h.get? b=Δ u->h'.get? b=Δ u)(P4:∃u,h'.get? e=Δ u)
  (new:hU P w (upd H x o') h' x o'):J6 P w (upd H x o') h':=fun b u q=>by
 have uy:∀c y,H c=Δ (.own y)->c≠x:=fun c y r z=>by subst z;rw[r]at mu;exact mu
 have S6:∀c xs,H c=Δ (.tup xs)->c≠x:=fun c xs r z=>by subst z;rw[r]at mu;exact mu
 by_cases hb:b=x
 ·subst hb;rw[gI]at q;cases q;exact new
 ·rw[gK hb]at q;by_cases OR:b=e
  ·have q':H b=Δ (.own x):=by
    rcases he with z|z
    ·exact absurd (OR.trans z) hb
    ·rw[OR];exact z
   rw[q]at q';cases q';obtain⟨v,hv⟩:=P4;exact⟨v,by rw[OR];exact hv⟩
  ·refine(ok b u q).Lz (fun c v hc r=>k c v ?_ r) (fun c r=>by rw[gK (uy c b r)];exact r) fun c xs r=>by rw[gK (S6 c xs r)];exact r
   rcases hc with rfl|hc
   ·exact OR
   ·rintro rfl;rcases he with z|z
    ·exact uy c b hc z
    ·rw[hc]at z;cases z;exact hb rfl
end
structure Un (fs ex:List Ω)(H H':Hp)(h h':Heap):Prop where
 keep:∀b o,h.get? b=Δ o->H b=Φ->b∉fs->b∉ex->h'.get? b=Δ o
 slot:∀b o,h.get? b=Δ o->H b=Φ->b∈fs->b∉ex->∃sl,h'.get? b=Δ {o with slots:=sl}
 free:∀b o,h.get? b=Δ o->H b=Φ->b∉ex->H' b=Φ
 there:∀b o,h.get? b=Δ o->b∉ex->∃o',h'.get? b=Δ o'
 KS:∀b xs,H b=Δ (.tup xs)->H' b=Δ (.tup xs)
 Kg:∀b o u,H b=Δ (.Jw o u)->H' b=Δ (.Jw o u)
 LA:∀b ps,H b=Δ (.Ot ps)->∃more,H' b=Δ (.Ot (ps++more))
section
variable {fs Z8 ex Vy:List Ω}{H H1 H2:Hp}{h h1 h2 h':Heap}{a x e:Ω}{o:HO}
theorem Un.any (u:Un fs ex H H1 h h1){b:Ω}{ob:Obj}(q:h.get? b=Δ ob)(n:H b=Φ)(hx:b∉ex):∃sl,h1.get? b=Δ {ob with slots:=sl}:=by
 by_cases hb:b∈fs
 ·exact u.slot b ob q n hb hx
 ·exact⟨ob.slots,u.keep b ob q n hb hx⟩
theorem Un.kept (k:∀b u,h.get? b=Δ u->h'.get? b=Δ u):Un fs ex H H h h':=
 ⟨fun b ob q _ _ _=>k b ob q,fun b ob q _ _ _=>⟨ob.slots,k b ob q⟩,fun _ _ _ n _=>n,fun b ob q _=>⟨ob,k b ob q⟩,fun _ _ q=>q,fun _ _ _ q=>q,fun _ ps q=>⟨#[],by rw[q];simp⟩⟩
theorem Un.refl:Un fs ex H H h h:=Un.kept fun _ _ q=>q
theorem Un.laid (k:∀b u,h.get? b=Δ u->h'.get? b=Δ u)(hp:h.objs.size<=a)(hn:H a=Φ):Un fs ex H (upd H a o) h h' where
 keep:=fun b u q _ _ _=>k b u q
 slot:=fun b u q _ _ _=>⟨u.slots,k b u q⟩
 free:=fun b u q n _=>by rw[gK (z_ (P_ (m_ q) hp))];exact n
 there:=fun b u q _=>⟨u,k b u q⟩
 KS:=fun b xs q=>by rw[gK (hW q hn)];exact q
 Kg:=fun b u xs q=>by rw[gK (hW q hn)];exact q
 LA:=fun b ps q=>⟨#[],by rw[gK (hW q hn),q];simp⟩
theorem Un.write (mu:Qw (H x))(he:e=x∨H e=Δ (.own x))(k:∀b u,b≠e->h.get? b=Δ u->h'.get? b=Δ u)(P4:∃u,h'.get? e=Δ u):Un fs ex H (upd H x o) h h':=by
 have hx:∀b,H b=Φ->b≠x:=fun b n z=>by subst z;rw[n]at mu;exact mu
 have hb:∀b,H b=Φ->b≠e:=fun b n z=>by
  subst z;rcases he with r|r
  ·exact hx b n r
  ·rw[n]at r;cases r
 have hm:∀b u,H b=Δ u->¬Qw (Δ u)->b≠x:=fun b u q nm z=>by subst z;rw[q]at mu;exact nm mu
 refine⟨fun b u q n _ _=>k b u (hb b n) q,fun b u q n _ _=>⟨u.slots,k b u (hb b n) q⟩,fun b u q n _=>by rw[gK (hx b n)];exact n,fun b u q _=>?_,
  fun b xs q=>by rw[gK (hm b _ q fun z=>z)];exact q,fun b u xs q=>by rw[gK (hm b _ q fun z=>z)];exact q,fun b ps q=>⟨#[],by rw[gK (hm b _ q fun z=>z),q];simp⟩⟩
 by_cases OR:b=e
 ·subst OR;exact P4
 ·exact⟨u,k b u OR q⟩
end
noncomputable def R3 (h:Heap)(H:Hp):List Ω:=(List.range h.objs.size).filter fun a=>(H a).isSome
noncomputable def oh (h:Heap)(H:Hp):Heap:=PySem.W.hideAll h (R3 h H)
theorem tV (h:Heap)(H:Hp):(oh h H).objs.size=h.objs.size:=PySem.W.hideAll_size _ _
theorem uS {h:Heap}{H:Hp}{b:Ω}{o:Obj}(e:h.get? b=Δ o)(n:H b=Φ):(oh h H).get? b=Δ o:=
 PySem.W.hideAll_get _ e fun hm=>by have q:(H b).isSome=Θ:=(List.mem_filter.mp hm).2;rw[n]at q;simp at q
theorem yR {h:Heap}{H:Hp}{b:Ω}{o:Obj}(e:(oh h H).get? b=Δ o):h.get? b=Δ o/\H b=Φ:=by
 have e':h.get? b=Δ o:=PySem.W.of_hideAll (R3 h H) e;refine⟨e',?_⟩;cases q:H b with
 |none=>rfl
 |some x=>have hm:b∈R3 h H:=List.mem_filter.mpr ⟨aai.mpr (m_ e'),by simp[q]⟩;have z:(oh h H).get? b=Φ:=PySem.W.hideAll_none (R3 h H) hm;rw[z]at e;cases e
structure Mod (K:Frag)(mg:Str->Option Ψ)(base:Heap):Prop where
 R4:K.In base
 glob:base.Ns Η mg
 blt:∃mb,base.Ns builtinsNs mb/\∀x:Str,x≠"__name__"->mb x=bootBuiltins x
 nolimit:base.NoLimit
structure Cx where
 prog:Ε
 w:Β
 K:Frag
 mg:Str->Option Ψ
 base:Heap
 A:Ι
 N:List Str
 JP:Α
 MN:Hp
 env:Env
 outer:List Env
 stack:List Env
 ex:List Ω
 fn:Str->Bool
 calm:Bool
 pn:List (Ω×Obj)
 xe:Ψ->Α->Prop
noncomputable def Lk (l:List Env):List Ω:=l.filterMap (·.frame)
noncomputable abbrev Cx.fs (X:Cx):List Ω:=Lk X.outer
def Qx (sc:Scope)(x:Str):Prop:=sc.names.lookup x=Δ .local∨sc.names.lookup x=Δ .cell∨sc.names.lookup x=Δ .free
def Loc (sc:Scope)(x:Str):Prop:=sc.names.lookup x=Δ .local∨sc.names.lookup x=Δ .cell
def Look (env:Env)(h:Heap)(m:Str->Option Ψ)(x:Str)(u:Ψ):Prop:=
 (env.kindOf x=Δ .local/\m x=Δ u)∨((env.kindOf x=Δ .cell∨env.kindOf x=Δ .free)/\∃c,env.cells.lookup x=Δ c/\h.IsCell c (Δ u))
structure Cx.Ok (X:Cx):Prop where
 mod:Mod X.K X.mg X.base
 kind:X.env.scope.kind=.function
 glob:X.env.globals=Η
 blt:X.env.builtins=builtinsNs
 above:X.JP.heap.objs.size<=X.env.locals
 inj:∀x y c,X.env.cells.lookup x=Δ c->X.env.cells.lookup y=Δ c->x=y
 has:∀x,(X.env.kindOf x=Δ .cell∨X.env.kindOf x=Δ .free)->∃c,X.env.cells.lookup x=Δ c
 R5:∀x c,X.fn x=Θ->X.env.cells.lookup x=Δ c->X.JP.heap.objs.size<=c
 hd:X.calm=Θ->X.A.handled=Φ
 frames:X.A.frames=Δ X.stack
 Ji:X.stack=X.outer∨(X.stack=X.env::X.outer/\X.env.frame=Δ X.env.locals)
 S7:∀b∈X.ex,b≠X.env.locals/\∀x c,X.env.cells.lookup x=Δ c->c≠b
 bs:∀b o,X.base.get? b=Δ o->X.JP.heap.get? b=Δ o/\X.MN b=Φ
 NR:X.base.objs.size<=X.JP.heap.objs.size
 NT:∀b o,X.base.get? b=Δ o->b∉X.ex
 NU:∀b∈X.ex,b∉X.fs
 KU:X.JP.heap.FunFrames X.base X.outer
 ND:∀b∈X.fs,X.MN b=Φ
structure Inv (X:Cx)(pins:List (Ω×Obj))(σ:List (Option V))(H:Hp)(s:Α):Prop where
 ok:X.Ok
 os:s.os=X.JP.os
 bare:AllBare s.gens
 base:Un X.fs X.ex X.MN H X.JP.heap s.heap
 loc:∃m,s.heap.Ns X.env.locals m/\∀(i:Nat) (x:Str) (v:V),X.N[i]? = Δ x->σ[i]? = Δ (Δ v)->Qx X.env.scope x->∃u,RelV v u/\Look X.env s.heap m x u
 cell:∀x c,X.env.cells.lookup x=Δ c->∃v,s.heap.IsCell c v
 free:H X.env.locals=Φ
 Ki:∀x c,X.env.cells.lookup x=Δ c->H c=Φ
 pin:∀p∈X.pn++pins,s.heap.get? p.1=Δ p.2/\H p.1=Φ/\p.1≠X.env.locals/\p.1∉X.fs/\∀v,p.2.data≠.cell v
 Jq:J6 X.prog X.w H s.heap
 len:σ.length=X.N.length
section
variable {X:Cx}{pins:List (Ω×Obj)}{σ:List (Option V)}{H H':Hp}{s:Α}{h':Heap}
theorem Cx.Ok.S8 (ok:X.Ok){b:Ω}{o:Obj}(e:X.base.get? b=Δ o):b∉X.fs:=fun hb=>by have:=(ok.KU.mem hb).1;rw[e]at this;cases this
theorem Inv.bs (I:Inv X pins σ H s):∀b o,X.base.get? b=Δ o->s.heap.get? b=Δ o/\H b=Φ:=fun b o e=>
 ⟨I.base.keep b o (I.ok.bs b o e).1 (I.ok.bs b o e).2 (I.ok.S8 e) (I.ok.NT b o e),I.base.free b o (I.ok.bs b o e).1 (I.ok.bs b o e).2 (I.ok.NT b o e)⟩
theorem Inv.bk (I:Inv X pins σ H s):∀b o,X.base.get? b=Δ o->s.heap.get? b=Δ o:=fun b o e=>(I.bs b o e).1
theorem Inv.mod (I:Inv X pins σ H s):Mod X.K X.mg X.base:=I.ok.mod
theorem Inv.LR (I:Inv X pins σ H s):X.K.In s.heap:=I.ok.mod.R4.keeps I.bk
theorem Inv.lt (I:Inv X pins σ H s):X.env.locals < s.heap.objs.size:=let ⟨_,hn,_⟩:=I.loc;hn.lt
theorem Inv.sz (I:Inv X pins σ H s):X.JP.heap.objs.size<=s.heap.objs.size:=S_ I.ok.above (Nat.le_of_lt I.lt)
theorem Inv.S9 (I:Inv X pins σ H s){a:Ω}(h:s.heap.objs.size<=a):a∉X.fs:=fun hb=>by obtain⟨_,o,ho,_⟩:=I.ok.KU.mem hb;exact absurd (P_ (m_ ho) (S_ I.sz h)) (aah _)
theorem Inv.OS (I:Inv X pins σ H s):∀x c,X.env.cells.lookup x=Δ c->c≠X.env.locals:=fun x c e z=>by obtain⟨v,o,ho,hd⟩:=I.cell x c e;obtain⟨m,⟨o',es,ep,Mg,W8,_⟩,_⟩:=I.loc;rw[z,Mg]at ho;cases ho;rw[W8]at hd;cases hd
theorem Inv.KU (I:Inv X pins σ H s):s.heap.FunFrames X.base X.outer:=by
 have all:∀(l:List Env),(∀b∈Lk l,b∈X.fs)->X.JP.heap.FunFrames X.base l->s.heap.FunFrames X.base l:=by
  intro l
  induction l with
  |nil=>intro _ _;trivial
  |cons env r ih=>intro hs hl;obtain⟨hk,⟨L,o,hf,hn,ho,hd⟩,hr⟩:=hl;have hL:L∈X.fs:=hs L (by unfold Lk;rw[List.filterMap_cons,hf];exact J_);obtain⟨sl,e⟩:=I.base.slot L o ho (I.ok.ND L hL) hL fun z=>I.ok.NU L z hL;exact⟨hk,⟨L,_,hf,hn,e,hd⟩,ih (fun b hb=>hs b (by unfold Lk;rw[List.filterMap_cons,hf];exact w_ _ hb)) hr⟩
 exact all X.outer (fun _ hb=>hb) I.ok.KU
theorem Inv.stack (I:Inv X pins σ H s):s.heap.FunFrames X.base X.stack:=by
 rcases I.ok.Ji with e|⟨e,hf⟩
 ·rw[e];exact I.KU
 ·rw[e];obtain⟨m,hn,_⟩:=I.loc;refine .cons (by rw[I.ok.kind];decide) hf hn ?_ I.KU;exact Heap.get?_none_of_le (S_ I.ok.NR I.ok.above)
theorem Inv.Mh (I:Inv X pins σ H s):∀b∈Lk X.stack,b∈X.env.locals::X.fs:=fun b hb=>by
 rcases I.ok.Ji with e|⟨e,hf⟩
 ·rw[e]at hb;exact w_ _ hb
 ·rw[e]at hb;unfold Lk at hb;rw[List.filterMap_cons,hf]at hb;exact hb
theorem Inv.Mw (I:Inv X pins σ H s):∀b∈Lk X.stack,H b=Φ:=fun b hb=>by
 rcases k_.mp (I.Mh b hb) with e|hb
 ·rw[e];exact I.free
 ·obtain⟨_,o,ho,_⟩:=I.ok.KU.mem hb;exact I.base.free b o ho (I.ok.ND b hb) fun z=>I.ok.NU b z hb
theorem Inv.step {g':Array GenState}{t':Nat}{d':Drawn}{ch:List Ω}(I:Inv X pins σ H s)
  (M3:∀b∈ch,(b∈X.ex∨X.JP.heap.objs.size<=b)/\b≠X.env.locals/\(∀x c,X.env.cells.lookup x=Δ c->c≠b)/\∀p∈X.pn++pins,p.1≠b)
  (keep:∀b o,b≠X.env.locals->b∉X.fs->b∉ch->s.heap.get? b=Δ o->H b=Φ->h'.get? b=Δ o)
  (slot:∀b o,b≠X.env.locals->b∈X.fs->b∉ch->s.heap.get? b=Δ o->H b=Φ->∃sl,h'.get? b=Δ {o with slots:=sl}) (free:∀b o,b∉ch->s.heap.get? b=Δ o->H b=Φ->H' b=Φ)
  (there:∀b o,b∉ch->s.heap.get? b=Δ o->∃o',h'.get? b=Δ o')
  (KS:∀b xs,H b=Δ (.tup xs)->H' b=Δ (.tup xs)) (Kg:∀b o u,H b=Δ (.Jw o u)->H' b=Δ (.Jw o u)) (LA:∀b ps,H b=Δ (.Ot ps)->∃more,H' b=Δ (.Ot (ps++more)))
  (ns:∀m,s.heap.Ns X.env.locals m->h'.Ns X.env.locals m) (Jq:J6 X.prog X.w H' h') (hg:AllBare g') :
  Inv X pins σ H' {s with heap:=h',gens:=g',drawn:=d',toks:=t'}:=by
 have Vz:∀b o,X.JP.heap.get? b=Δ o->b≠X.env.locals:=fun b o e=>z_ (P_ (m_ e) I.ok.above);have R6:∀b o,X.JP.heap.get? b=Δ o->b∉X.ex->b∉ch:=fun b o e hx hb=>by
  rcases(M3 b hb).1 with z|z
  ·exact hx z
  ·exact absurd (P_ (m_ e) z) (aah _)
 have cellK:∀x c,X.env.cells.lookup x=Δ c->∀v,s.heap.IsCell c v->h'.IsCell c v:=fun x c e v ⟨o,ho,hd⟩=>by
  have Qy:c∉ch:=fun z=>(M3 c z).2.2.1 x c e rfl;by_cases hc:c∈X.fs
  ·obtain⟨sl,q⟩:=slot c o (I.OS x c e) hc Qy ho (I.Ki x c e);exact⟨_,q,hd⟩
  ·exact⟨o,keep c o (I.OS x c e) hc Qy ho (I.Ki x c e),hd⟩
 refine⟨I.ok,I.os,hg,⟨fun b o e n hb hx=>?_,fun b o e n hb hx=>?_,fun b o e n hx=>?_,fun b o e hx=>?_,fun b xs e=>KS b xs (I.base.KS b xs e),fun b o xs e=>Kg b o xs (I.base.Kg b o xs e),fun b ps e=>?_⟩,?_,fun x c e=>?_,?_,fun x c e=>?_,fun p hp=>?_,Jq,I.len⟩
 ·exact keep b o (Vz b o e) hb (R6 b o e hx) (I.base.keep b o e n hb hx) (I.base.free b o e n hx)
 ·obtain⟨sl,e1⟩:=I.base.slot b o e n hb hx;obtain⟨W9,e2⟩:=slot b _ (Vz b o e) hb (R6 b o e hx) e1 (I.base.free b o e n hx);exact⟨W9,e2⟩
 ·obtain⟨o',e1⟩:=I.base.there b o e hx;exact free b o' (R6 b o e hx) e1 (I.base.free b o e n hx)
 ·obtain⟨o',e1⟩:=I.base.there b o e hx;exact there b o' (R6 b o e hx) e1
 ·obtain⟨m1,e1⟩:=I.base.LA b ps e;obtain⟨m2,e2⟩:=LA b _ e1;exact⟨m1++m2,by rw[e2,Array.append_assoc]⟩
 ·obtain⟨m,hn,hl⟩:=I.loc;refine⟨m,ns m hn,fun i x v e1 e2 e3=>?_⟩;obtain⟨u,r,l⟩:=hl i x v e1 e2 e3;refine⟨u,r,?_⟩;rcases l with l|⟨k,c,e,z⟩
  ·exact .inl l
  ·exact .inr ⟨k,c,e,cellK x c e _ z⟩
 ·obtain⟨v,z⟩:=I.cell x c e;exact⟨v,cellK x c e v z⟩
 ·obtain⟨m,⟨o,_,_,ho,_⟩,_⟩:=I.loc;exact free _ o (fun z=>(M3 _ z).2.1 rfl) ho I.free
 ·obtain⟨v,o,ho,hd⟩:=I.cell x c e;exact free c o (fun z=>(M3 c z).2.2.1 x c e rfl) ho (I.Ki x c e)
 ·obtain⟨e,n,ne,nf,d⟩:=I.pin p hp;have Qy:p.1∉ch:=fun z=>(M3 p.1 z).2.2.2 p hp rfl;exact⟨keep p.1 p.2 ne nf Qy e n,free p.1 p.2 Qy e n,ne,nf,d⟩
theorem Inv.un {t':Nat}(I:Inv X pins σ H s)(u:Un X.fs [] H H' s.heap h')(Jq:J6 X.prog X.w H' h'):Inv X pins σ H' {s with heap:=h',toks:=t'}:=by
 obtain⟨m,⟨o,es,ep,ho,r⟩,_⟩:=id I.loc;obtain⟨sl,hL⟩:=u.any ho I.free (by simp)
 exact I.step (g':=s.gens) (d':=s.drawn) (ch:=[]) (fun _ z=>nomatch z) (fun b o _ hb _ e n=>u.keep b o e n hb (by simp)) (fun b o _ hb _ e n=>u.slot b o e n hb (by simp)) (fun b o _ e n=>u.free b o e n (by simp)) (fun b o _ e=>u.there b o e (by simp)) u.KS u.Kg u.LA (fun m' hm=>by
  obtain⟨o',Me,Ta,Mg,r'⟩:=hm;rw[ho]at Mg;cases Mg
  exact⟨_,Me,Ta,hL,r'⟩) Jq I.bare
theorem Inv.call {g':Array GenState}{t':Nat}{d':Drawn}{ch:List Ω}(I:Inv X pins σ H s)(u:Un (Lk X.stack) ch H H' s.heap h')(Jq:J6 X.prog X.w H' h')(hg:AllBare g')
  (M3:∀b∈ch,(b∈X.ex∨X.JP.heap.objs.size<=b)/\b≠X.env.locals/\(∀x c,X.env.cells.lookup x=Δ c->c≠b)/\∀p∈X.pn++pins,p.1≠b) :
  Inv X pins σ H' {s with heap:=h',gens:=g',drawn:=d',toks:=t'}:=by
 obtain⟨m,⟨o,es,ep,ho,r⟩,_⟩:=id I.loc;obtain⟨sl,hL⟩:=u.any ho I.free fun z=>(M3 _ z).2.1 rfl
 exact I.step (ch:=ch) M3 (fun b o hL hb hc e n=>u.keep b o e n (fun z=>(k_.mp (I.Mh b z)).elim hL hb) hc) (fun b o _ _ hc e n=>u.any e n hc) (fun b o hc e n=>u.free b o e n hc) (fun b o hc e=>u.there b o e hc) u.KS u.Kg u.LA (fun m' hm=>by
  obtain⟨o',Me,Ta,Mg,r'⟩:=hm;rw[ho]at Mg;cases Mg
  exact⟨_,Me,Ta,hL,r'⟩) Jq hg
theorem Inv.turned {t':Nat}{it:Ω}(I:Inv X pins σ H s)(k:∀b o,b≠it->s.heap.get? b=Δ o->h'.get? b=Δ o)(hn:H it=Φ)(hL:it≠X.env.locals)
  (h1:it∈X.ex∨X.JP.heap.objs.size<=it) (h2:∀x c,X.env.cells.lookup x=Δ c->c≠it) (h3:∀p∈X.pn++pins,p.1≠it):Inv X pins σ H {s with heap:=h',toks:=t'}:=by
 have Ou:∀b u,H b=Δ u->b≠it:=fun b u e z=>by rw[z,hn]at e;cases e
 refine I.step (g':=s.gens) (d':=s.drawn) (ch:=[it]) (fun b hb=>?_) (fun b o _ _ hc e _=>k b o (fun z=>hc (by simp[z])) e) (fun b o _ _ hc e _=>⟨o.slots,k b o (fun z=>hc (by simp[z])) e⟩) (fun _ _ _ _ n=>n)
  (fun b o hc e=>⟨o,k b o (fun z=>hc (by simp[z])) e⟩) (fun _ _ e=>e) (fun _ _ _ e=>e) (fun b ps e=>⟨#[],by rw[e];simp⟩) (fun m hm=>?_) (fun b u e=>?_) I.bare
 ·have e:b=it:=by simpa using hb
  subst e;exact⟨h1,hL,h2,h3⟩
 ·obtain⟨o,es,ep,ho,r⟩:=hm;exact⟨o,es,ep,k _ o (Ne.symm hL) ho,r⟩
 ·refine(I.Jq b u e).Lz (fun c v hc q=>k c v ?_ q) (fun _ q=>q) fun _ _ q=>q;rcases hc with z|z
  ·rw[z];exact Ou b u e
  ·exact Ou c _ z
theorem Inv.tok (I:Inv X pins σ H s)(t:Nat):Inv X pins σ H {s with toks:=t}:=I.un (h':=s.heap) (t':=t) Un.refl I.Jq
theorem Inv.kept {t':Nat}(I:Inv X pins σ H s)(k:∀b u,s.heap.get? b=Δ u->h'.get? b=Δ u):Inv X pins σ H {s with heap:=h',toks:=t'}:=I.un (Un.kept k) (I.Jq.kept k)
theorem Inv.laid {a:Ω}{o:HO}{t':Nat}(I:Inv X pins σ H s)(k:∀b u,s.heap.get? b=Δ u->h'.get? b=Δ u)(hp:s.heap.objs.size<=a)(new:hU X.prog X.w (upd H a o) h' a o) :
  Inv X pins σ (upd H a o) {s with heap:=h',toks:=t'}:=I.un (Un.laid k hp (I.Jq.fresh hp)) (I.Jq.laid k hp new)
theorem Inv.write {x e:Ω}{o:HO}{t':Nat}(I:Inv X pins σ H s)(mu:Qw (H x))(he:e=x∨H e=Δ (.own x))(k:∀b u,b≠e->s.heap.get? b=Δ u->h'.get? b=Δ u)(P4:∃u,h'.get? e=Δ u)
  (new:hU X.prog X.w (upd H x o) h' x o):Inv X pins σ (upd H x o) {s with heap:=h',toks:=t'}:=I.un (Un.write mu he k P4) (I.Jq.write mu he k P4 new)
theorem Inv.Mx {Ov:List (Ω×Obj)}(I:Inv X pins σ H s)(h:∀p∈Ov,s.heap.get? p.1=Δ p.2/\H p.1=Φ/\p.1≠X.env.locals/\p.1∉X.fs/\∀v,p.2.data≠.cell v):Inv X Ov σ H s:=
 ⟨I.ok,I.os,I.bare,I.base,I.loc,I.cell,I.free,I.Ki,fun p hp=>(o_.mp hp).elim (fun z=>I.pin p (q_ _ z)) (h p),I.Jq,I.len⟩
theorem pO {N:List Str}(hN:N.Nodup){i j:Nat}{x:Str}(a:N[i]? = Δ x)(b:N[j]? = Δ x):i=j:=by obtain⟨h1,e1⟩:=E_.mp a;obtain⟨h2,e2⟩:=E_.mp b;exact(List.getElem_inj hN).mp (e1.trans e2.symm)
theorem ny {M:Model}{A:Ι}{E:Ψ->Α->Prop}{i:Nat}{x:Str}{v:V}{u:Ψ}{Q:Unit->Α->Prop}(I:Inv X pins σ H s)(hN:X.N.Nodup)(hi:X.N[i]? = Δ x)(hx:Loc X.env.scope x)(r:RelV v u)
  (h:∀s',Inv X pins (σ.set i (Δ v)) H s'->(∃a,Heap.SameBut a s.heap s'.heap/\(a=X.env.locals∨X.env.cells.lookup x=Δ a))->Q () s') (hf:X.fn x=Θ∨X.env.scope.names.lookup x=Δ .local:=by first|exact .inl rfl|exact .inr rfl|assumption):Κ M A (storeName X.env x u) Q E s:=by
 obtain⟨m,hn,hl⟩:=id I.loc;have Tc:(X.env.scope.kind == .class||(X.env.scope.kind == .module&&X.env.locals != X.env.globals))=Ξ:=by rw[I.ok.kind];rfl
 have Qz:i < σ.length:=by rw[I.len];exact(E_.mp hi).1
 have OS:=I.OS;have tracked:∀ {a:Ω}{h':Heap},(∃o,s.heap.get? a=Δ o/\H a=Φ)->Heap.SameBut a s.heap h'->J6 X.prog X.w H h':=fun {a h'} ha hs b ob e=>by
  obtain⟨_,_,My⟩:=ha;refine(I.Jq b ob e).Lz (fun c w' hc q=>(hs.2 c ?_).trans q) (fun _ q=>q) fun _ _ q=>q;rintro rfl;rcases hc with rfl|hc
  ·rw[My]at e;cases e
  ·rw[My]at hc;cases hc
 rcases hx with hk|hk
 ·refine wpAny_storeName_local hk hn (fun h' MO hs=>?_) Tc;obtain⟨oL,_,_,W',_⟩:=id hn;refine h _ ⟨I.ok,I.os,I.bare,⟨fun b o e n hb hx=>?_,fun b o e n hb hx=>?_,I.base.free,fun b o e hx=>?_,I.base.KS,I.base.Kg,I.base.LA⟩,⟨_,MO,fun j y v' e1 e2 e3=>?_⟩,fun y c e=>?_,I.free,I.Ki,fun p hp=>?_,tracked ⟨oL,W',I.free⟩ hs,by simpa using I.len⟩ ⟨_,hs,.inl rfl⟩
  ·exact(hs.2 b (z_ (P_ (m_ e) I.ok.above))).trans (I.base.keep b o e n hb hx)
  ·obtain⟨sl,e1⟩:=I.base.slot b o e n hb hx;exact⟨sl,(hs.2 b (z_ (P_ (m_ e) I.ok.above))).trans e1⟩
  ·obtain⟨o',e1⟩:=I.base.there b o e hx;exact⟨o',(hs.2 b (z_ (P_ (m_ e) I.ok.above))).trans e1⟩
  ·by_cases hj:j=i
   ·subst hj;rw[hi]at e1;cases e1;rw[List.getElem?_set_self Qz]at e2;cases e2;exact⟨u,r,.inl ⟨hk,by simp⟩⟩
   ·rw[List.getElem?_set_ne (Ne.symm hj)]at e2;obtain⟨u',r',q⟩:=hl j y v' e1 e2 e3;refine⟨u',r',?_⟩;rcases q with⟨k,e⟩|⟨k,c,e,z⟩
    ·refine .inl ⟨k,?_⟩;have:y≠x:=fun e=>hj (pO hN e1 (e ▸ hi));simp[this,e]
    ·exact .inr ⟨k,c,e,z.sameBut hs (OS y c e)⟩
  ·obtain⟨w',z⟩:=I.cell y c e;exact⟨w',z.sameBut hs (OS y c e)⟩
  ·obtain⟨e,n,ne,nf,d⟩:=I.pin p hp;exact⟨(hs.2 p.1 ne).trans e,n,ne,nf,d⟩
 ·have QA:X.fn x=Θ:=by
   rcases hf with z|z
   ·exact z
   ·rw[z]at hk;cases hk
  obtain⟨c,hc⟩:=I.ok.has x (.inl hk);obtain⟨w',z⟩:=I.cell x c hc;refine wpAny_storeName_cell I.ok.kind hk hc z (fun h' M4 hs=>?_);obtain⟨oc,VA,Td⟩:=id z;refine h {s with heap:=h'} ⟨I.ok,I.os,I.bare,⟨fun b o e n hb hx=>?_,fun b o e n hb hx=>?_,I.base.free,fun b o e hx=>?_,I.base.KS,I.base.Kg,I.base.LA⟩,⟨m,hn.sameBut hs (Ne.symm (OS x c hc)),fun j y v' e1 e2 e3=>?_⟩,fun y c' e=>?_,I.free,I.Ki,fun p hp=>?_,tracked ⟨oc,VA,I.Ki x c hc⟩ hs,by simpa using I.len⟩ ⟨c,hs,.inr hc⟩
  ·exact(hs.2 b (z_ (P_ (m_ e) (I.ok.R5 x c QA hc)))).trans (I.base.keep b o e n hb hx)
  ·obtain⟨sl,e1⟩:=I.base.slot b o e n hb hx;exact⟨sl,(hs.2 b (z_ (P_ (m_ e) (I.ok.R5 x c QA hc)))).trans e1⟩
  ·obtain⟨o',e1⟩:=I.base.there b o e hx;exact⟨o',(hs.2 b (z_ (P_ (m_ e) (I.ok.R5 x c QA hc)))).trans e1⟩
  ·by_cases hj:j=i
   ·subst hj;rw[hi]at e1;cases e1;rw[List.getElem?_set_self Qz]at e2;cases e2;exact⟨u,r,.inr ⟨.inl hk,c,hc,M4⟩⟩
   ·rw[List.getElem?_set_ne (Ne.symm hj)]at e2;obtain⟨u',r',q⟩:=hl j y v' e1 e2 e3;refine⟨u',r',?_⟩;rcases q with q|⟨k,c',e,z'⟩
    ·exact .inl q
    ·refine .inr ⟨k,c',e,z'.sameBut hs ?_⟩;rintro rfl;exact hj (pO hN e1 (I.ok.inj _ _ _ e hc ▸ hi))
  ·by_cases VB:c'=c
   ·subst VB;exact⟨_,M4⟩
   ·obtain⟨w2,z2⟩:=I.cell y c' e;exact⟨w2,z2.sameBut hs VB⟩
  ·obtain⟨e,n,ne,nf,d⟩:=I.pin p hp;refine⟨(hs.2 p.1 ?_).trans e,n,ne,nf,d⟩;intro q;rw[q,VA]at e;have q':oc=p.2:=K_ e;exact d w' (by rw[<- q'];exact Td)
theorem pP {M:Model}{A:Ι}{E:Ψ->Α->Prop}{i:Nat}{x:Str}{v:V}{u:Ψ}{Q:Unit->Α->Prop}(I:Inv X pins σ H s)(hN:X.N.Nodup)(hi:X.N[i]? = Δ x)(hx:Loc X.env.scope x)(r:RelV v u)
  (h:∀s',Inv X pins (σ.set i (Δ v)) H s'->Q () s') (hf:X.fn x=Θ∨X.env.scope.names.lookup x=Δ .local:=by first|exact .inl rfl|exact .inr rfl|assumption):Κ M A (storeName X.env x u) Q E s:=
 ny I hN hi hx r (fun s' I' _=>h s' I') hf
theorem Inv.QB {s':Α}{ch:List Ω}(I:Inv X pins σ H s)(ho:s'.os=s.os)(u:Un (Lk X.stack) ch H H' s.heap s'.heap)(Jq:J6 X.prog X.w H' s'.heap)(hg:AllBare s'.gens)
  (M3:∀b∈ch,(b∈X.ex∨X.JP.heap.objs.size<=b)/\b≠X.env.locals/\(∀x c,X.env.cells.lookup x=Δ c->c≠b)/\∀p∈X.pn++pins,p.1≠b):Inv X pins σ H' s':=by
 obtain⟨h',g',d',t',o'⟩:=s';have e:o'=s.os:=ho;subst e;exact I.call (g':=g') (t':=t') (d':=d') u Jq hg M3
end
abbrev XK:=Ψ->Option Ω->Hp->Prop
abbrev St:=List (Option V)
abbrev VK:=V->Hp->Prop
abbrev TE:=St->Hp->VK->Prop
abbrev TT:=St->Hp->(Bool->Hp->Prop)->Prop
abbrev TA:=St->Hp->(List V->Hp->Prop)->Prop
structure Ends where
 nx:St->Hp->Prop
 rt:VK
 bk:St->Hp->Prop:=fun _ _=>False
 ct:St->Hp->Prop:=fun _ _=>False
abbrev TS:=Ends->St->Hp->Prop
def EP (X:Cx)(pins:List (Ω×Obj))(σ:St)(Q:VK)(u:Ψ)(s':Α):Prop:=∃v H',Inv X pins σ H' s'/\RelV v u/\Q v H'
def TP (X:Cx)(pins:List (Ω×Obj))(σ:St)(Q:Bool->Hp->Prop)(b:Bool)(s':Α):Prop:=∃H',Inv X pins σ H' s'/\Q b H'
def AP (X:Cx)(pins:List (Ω×Obj))(σ:St)(Q:List V->Hp->Prop)(us:List Ψ)(s':Α):Prop:=∃vs H',Inv X pins σ H' s'/\Vals vs us/\Q vs H'
def SP (X:Cx)(pins:List (Ω×Obj))(D:Ends)(f:Flow)(s':Α):Prop:=
 match f with
 |.next=>∃Jp H',Inv X pins Jp H' s'/\D.nx Jp H'
 |.brk=>∃Jp H',Inv X pins Jp H' s'/\D.bk Jp H'
 |.cont=>∃Jp H',Inv X pins Jp H' s'/\D.ct Jp H'
 |.ret u=>∃v Jp H',Inv X pins Jp H' s'/\RelV v u/\D.rt v H'
def PE (X:Cx)(e:Expr)(t:TE):Prop:=
 ∀(pins:List (Ω×Obj)) (s:Α) (σ:St) (H:Hp) (Q:VK),Inv X pins σ H s->t σ H Q->Κ (Μ X.prog X.w) X.A (eval e X.env) (EP X pins σ Q) X.xe s
def PT (X:Cx)(e:Expr)(t:TT):Prop:=
 ∀(pins:List (Ω×Obj)) (s:Α) (σ:St) (H:Hp) (Q:Bool->Hp->Prop),Inv X pins σ H s->t σ H Q->Κ (Μ X.prog X.w) X.A (isTrue e X.env (eval e X.env)) (TP X pins σ Q) X.xe s
def PW (X:Cx)(e:Expr)(t:TT):Prop:=
 ∀(whole:Sem Ψ) (pins:List (Ω×Obj)) (s:Α) (σ:St) (H:Hp) (Q:Bool->Hp->Prop),Inv X pins σ H s->t σ H Q->Κ (Μ X.prog X.w) X.A (isTrue e X.env whole) (TP X pins σ Q) X.xe s
theorem PW.pt {X:Cx}{e:Expr}{t:TT}(h:PW X e t):PT X e t:=h _
def PA (X:Cx)(es:List Expr)(t:TA):Prop:=
 ∀(pos:Pos) (pins:List (Ω×Obj)) (s:Α) (σ:St) (H:Hp) (Q:List V->Hp->Prop),Inv X pins σ H s->t σ H Q->Κ (Μ X.prog X.w) X.A (spliced (backTo pos (Ν es X.env))) (AP X pins σ Q) X.xe s
def PS (X:Cx)(st:Stmt)(t:TS):Prop:=
 ∀(pins:List (Ω×Obj)) (s:Α) (σ:St) (H:Hp) (D:Ends),Inv X pins σ H s->t D σ H->Κ (Μ X.prog X.w) X.A (exec st X.env) (SP X pins D) X.xe s
def Mz (X:Cx)(st:List Stmt)(t:TS):Prop:=
 ∀(pins:List (Ω×Obj)) (s:Α) (σ:St) (H:Hp) (D:Ends),Inv X pins σ H s->t D σ H->Κ (Μ X.prog X.w) X.A (execs st X.env) (SP X pins D) X.xe s
theorem Jr {α:Type}{t:Sem α}{Q Q':α->Α->Prop}{M:Model}{A:Ι}{E:Ψ->Α->Prop}{s:Α}(h:Κ M A t Q E s)(hQ:∀a s,Q a s->Q' a s):Κ M A t Q' E s:=wpAny_mono h hQ fun _ _ x=>x
section
variable {X:Cx}
def B1 (i:Nat):TE:=fun σ H Q=>∃v,σ[i]? = Δ (Δ v)/\Q v H
def tC (v:V):TE:=fun _ H Q=>Q v H
theorem uT {i:Nat}{x:Str}{pos:Pos}(hN:X.N[i]? = Δ x)(hv:Qx X.env.scope x)(hd:(x == ("__debug__" : Str))=Ξ:=by decide) (NV:(x == ("__classdict__" : Str))=Ξ:=by decide):PE X (.Name x pos) (B1 i):=by
 intro pins s σ H Q I h;obtain⟨v,e,h⟩:=h;obtain⟨m,hn,hl⟩:=I.loc;obtain⟨u,r,l⟩:=hl i x v hN e hv;have fin:EP X pins σ Q u s:=⟨v,H,I,r,h⟩
 rcases l with⟨hk,hm⟩|⟨hk,c,hc,Ox⟩
 ·exact wpAny_Name (wpAny_loadName_local I.ok.kind hk hn hm fin) hd
 ·rcases hk with hk|hk
  ·exact wpAny_Name (wpAny_loadName_cell I.ok.kind hk hc Ox fin) hd
  ·exact wpAny_Name (wpAny_loadName_free I.ok.kind hk hc Ox fin NV) hd
theorem B2 {i j pos}:PE X (.Constant (.int i) j pos) (tC (.int i)):=fun _ _ _ H _ I h=>wpAny_Constant_int ⟨.int i,H,I.tok _,⟨_,rfl⟩,h⟩
theorem Ey {b j pos}:PE X (.Constant (.bool b) j pos) (tC (.bl b)):=fun _ _ _ H _ I h=>Constant_bool ⟨.bl b,H,I,rfl,h⟩
theorem B3 {j pos}:PE X (.Constant .none j pos) (tC .Iw):=fun _ _ _ H _ I h=>Constant_none ⟨.Iw,H,I,rfl,h⟩
theorem B4 {x j pos}:PE X (.Constant (.str x) j pos) (tC (.str x)):=fun _ _ _ H _ I h=>Calls.Constant_str ⟨.str x,H,I.tok _,⟨_,rfl⟩,h⟩
def Gl (X:Cx)(x:Str):Prop:=X.env.kindOf x=Δ .globalImplicit
theorem oj {E:Ψ->Α->Prop}{pins:List (Ω×Obj)}{s:Α}{σ:St}{H:Hp}{x:Str}{u:Ψ}{pos:Pos}{Q:Ψ->Α->Prop}(I:Inv X pins σ H s)(hg:Gl X x)(hm:X.mg x=Δ u)(h:Q u s)
  (hd:(x == ("__debug__" : Str))=Ξ:=by decide):Κ (Μ X.prog X.w) X.A (eval (.Name x pos) X.env) Q E s:=
 Calls.Name_function_global I.ok.kind hg (Calls.loadGlobal_global (by rw[I.ok.glob];exact I.mod.glob.keeps I.bk) hm h) hd
theorem jI {E:Ψ->Α->Prop}{pins:List (Ω×Obj)}{s:Α}{σ:St}{H:Hp}{x:Str}{u:Ψ}{pos:Pos}{Q:Ψ->Α->Prop}(I:Inv X pins σ H s)(hg:Gl X x)(hm:X.mg x=Φ)(hv:bootBuiltins x=Δ u)(h:Q u s)
  (hn:x≠"__name__":=by decide) (hd:(x == ("__debug__" : Str))=Ξ:=by decide):Κ (Μ X.prog X.w) X.A (eval (.Name x pos) X.env) Q E s:=by
 obtain⟨mb,h1,h2⟩:=I.mod.blt;exact Calls.Name_function_global I.ok.kind hg (Calls.loadGlobal_builtin (by rw[I.ok.glob];exact I.mod.glob.keeps I.bk) hm (by rw[I.ok.blt];exact h1.keeps I.bk) ((h2 x hn).trans hv) h) hd
theorem yS {x:Str}{v:V}{u:Ψ}{pos:Pos}(hg:Gl X x)(hm:X.mg x=Δ u)(r:RelV v u)(hd:(x == ("__debug__" : Str))=Ξ:=by decide):PE X (.Name x pos) (tC v):=
 fun _ _ _ H _ I h=>oj I hg hm ⟨v,H,I,r,h⟩ hd
theorem yT {x:Str}{v:V}{u:Ψ}{pos:Pos}(hg:Gl X x)(hm:X.mg x=Φ)(hv:bootBuiltins x=Δ u)(r:RelV v u)(hn:x≠"__name__":=by decide) (hd:(x == ("__debug__" : Str))=Ξ:=by decide):PE X (.Name x pos) (tC v):=
 fun _ _ _ H _ I h=>jI I hg hm hv ⟨v,H,I,r,h⟩ hn hd
variable {a b:Expr}{ta tb:TE}{pos:Pos}
def PC (X:Cx)(op:CmpOp)(a b:Expr)(t:TE):Prop:=
 ∀(pins:List (Ω×Obj)) (s:Α) (σ:St) (H:Hp) (Q:VK),Inv X pins σ H s->t σ H Q->
  Κ (Μ X.prog X.w) X.A (eval a X.env) (fun v Jn=>Κ (Μ X.prog X.w) X.A (eval b X.env) (fun u LS=>Κ (Μ X.prog X.w) X.A (compareOp op v u) (EP X pins σ Q) X.xe LS) X.xe Jn) X.xe s
def tB (t:TE):TT:=fun σ H Q=>t σ H fun x H1=>∃c,x=.bl c/\Q c H1
theorem uU {op:CmpOp}{t:TE}(h:PC X op a b t)(h1:behindInMarks op b=Ξ:=by first|exact Nb _ (by decide) (by decide)|rfl):PE X (.Compare a [op] [b] pos) t:=fun pins s σ H Q I hw=>wpAny_Compare1 (h pins s σ H Q I hw) h1
theorem uV {op:CmpOp}{t:TE}(h:PC X op a b t)(h1:behindInMarks op b=Ξ:=by first|exact Nb _ (by decide) (by decide)|rfl):PT X (.Compare a [op] [b] pos) (tB t):=by intro pins s σ H Q I hw;refine wpAny_isTrue_Compare1 (Jr (h pins s σ H _ I hw) fun v s1 h1=>Jr h1 fun u s2 h2=>Jr h2 fun c s3 ⟨x,H1,I1,r1,q1⟩=>?_) h1;obtain⟨d,rfl,q⟩:=q1;cases r1;exact wpAny_truthy_bool ⟨H1,I1,q⟩
variable {tA R7:TT}{rest:List Expr}
def Ez (t u:TT):TT:=fun σ H Q=>t σ H fun c H1=>if c=Θ then u σ H1 Q else Q Ξ H1
def Xa (t u:TT):TT:=fun σ H Q=>t σ H fun c H1=>if c=Θ then Q Θ H1 else u σ H1 Q
def He (t:TT):TT:=fun σ H Q=>t σ H fun c H1=>Q (!c) H1
theorem yU (ha:PT X a tA):PW X (.BoolOp .And [a] pos) tA:=by
 intro wh pins s σ H Q I h;refine isTrue_and (Jr (ha pins s σ H Q I h) fun c s1 e=>?_);cases c with
 |true=>exact isTrue_and_nil e
 |false=>exact e
theorem B5 (ha:PT X a tA):PW X (.BoolOp .Or [a] pos) tA:=by
 intro wh pins s σ H Q I h;refine isTrue_or (Jr (ha pins s σ H Q I h) fun c s1 e=>?_);cases c with
 |false=>exact isTrue_or_nil e
 |true=>exact e
theorem B6 (ha:PT X a tA)(hb:PW X (.BoolOp .And (b::rest) pos) R7):PW X (.BoolOp .And (a::b::rest) pos) (Ez tA R7):=by
 intro wh pins s σ H Q I h;refine isTrue_and (Jr (ha pins s σ H _ I h) fun c s1 ⟨H1,I1,q1⟩=>?_);cases c with
 |true=>exact hb wh pins s1 σ H1 Q I1 q1
 |false=>exact⟨H1,I1,q1⟩
theorem EA (ha:PT X a tA)(hb:PW X (.BoolOp .Or (b::rest) pos) R7):PW X (.BoolOp .Or (a::b::rest) pos) (Xa tA R7):=by
 intro wh pins s σ H Q I h;refine isTrue_or (Jr (ha pins s σ H _ I h) fun c s1 ⟨H1,I1,q1⟩=>?_);cases c with
 |true=>exact⟨H1,I1,q1⟩
 |false=>exact hb wh pins s1 σ H1 Q I1 q1
theorem B7 (ha:PT X a tA):PT X (.UnaryOp .Not a pos) (He tA):=by intro pins s σ H Q I h;exact isTrue_not (ha pins s σ H (fun c H1=>Q (!c) H1) I h)
theorem uW {op}{t:TE}(h:PE X a t):PE X (.BoolOp op [a] pos) t:=fun pins s σ H Q I hw=>BoolOp_one (h pins s σ H Q I hw)
def Xb (t:TT)(ta tb:TE):TE:=fun σ H Q=>t σ H fun c H1=>if c=Θ then ta σ H1 Q else tb σ H1 Q
theorem pQ {c:Expr}(hc:PT X c tA)(ha:PE X a ta)(hb:PE X b tb):PE X (.IfExp c a b pos) (Xb tA ta tb):=by
 intro pins s σ H Q I h;refine wpAny_IfExp (Jr (hc pins s σ H _ I h) fun d s1 ⟨H1,I1,q1⟩=>?_);cases d with
 |true=>exact ha pins s1 σ H1 Q I1 q1
 |false=>exact hb pins s1 σ H1 Q I1 q1
end
def JX (K:Frag)(H:Hp)(a:Ω)(xs:List V):Prop:=
 Rd H a (.lst xs)∨
  ∃(o:Obj) (its:Array Ψ) (n:Nat),K.lookup a=Δ o/\o.cls=.type "list"/\o.dict=Φ/\o.data=.seq its n/\its.size<=Ζ/\Vals xs its.toList
def JC (K:Frag)(H:Hp)(a:Ω)(xs:List V):Prop:=
 Rd H a (.tup xs)∨
  ∃(o:Obj) (its:Array Ψ) (n:Nat),K.lookup a=Δ o/\o.cls=.type "tuple"/\o.data=.seq its n/\its.size<=Ζ/\Vals xs its.toList
noncomputable def Hf:Ψ->Option V
 |.none=>Δ .Iw
 |.bool b=>Δ (.bl b)
 |.int i _=>Δ (.int i)
 |.str x _=>Δ (.str x)
 |.bytes b _=>Δ (.OQ b)
 |.float b _=>Δ (.Lw b)
 |.ref a=>Δ (.ref a)
 |.type n=>Δ (.ty n)
 |_=>Φ
theorem RelV.abs {x:V}{u:Ψ}(r:RelV x u):Hf u=Δ x:=by
 cases x with
 |Iw=>cases r;rfl
 |bl _=>cases r;rfl
 |int _=>obtain⟨t,rfl⟩:=r;rfl
 |str _=>obtain⟨t,rfl⟩:=r;rfl
 |OQ _=>obtain⟨t,rfl⟩:=r;rfl
 |Lw _=>obtain⟨t,rfl⟩:=r;rfl
 |ref _=>cases r;rfl
 |ty _=>cases r;rfl
theorem RelV.inj {x y:V}{u:Ψ}(r:RelV x u)(q:RelV y u):x=y:=K_ (r.abs.symm.trans q.abs)
theorem Vals.inj:∀ {xs ys:List V}{us:List Ψ},Vals xs us->Vals ys us->xs=ys
 |_,_,_,.nil,.nil=>rfl
 |_,_,_,.cons r t,.cons r' t'=>by rw[r.inj r',Vals.inj t t']
section
variable {X:Cx}{pins:List (Ω×Obj)}{σ:St}{H:Hp}{s:Α}{a:Ω}{xs ys:List V}
theorem JC.of {K:Frag}(h:H a=Δ (.tup xs)):JC K H a xs:=.inl (.inl h)
theorem Inv.list (I:Inv X pins σ H s)(h:JX X.K H a xs):∃its:List Ψ,Vals xs its/\PlainL s.heap a its.toArray/\xs.length<=Ζ:=by
 rcases h with h|⟨o,its,n,hk,hc,hd,hs,hz,r⟩
 ·obtain⟨z,its,n,r,e⟩:=h.ok I.Jq;exact⟨its,r,⟨_,n,e,rfl,rfl,rfl⟩,z⟩
 ·refine⟨its.toList,r,⟨o,n,I.LR a o hk,hc,hd,by simpa using hs⟩,?_⟩;have e:=r.length;simp only[Q_]at e;omega
theorem Inv.tuple (I:Inv X pins σ H s)(h:JC X.K H a xs):∃its:List Ψ,Vals xs its/\IsTup s.heap a its.toArray/\xs.length<=Ζ:=by
 rcases h with h|⟨o,its,n,hk,hc,hs,hz,r⟩
 ·obtain⟨z,its,r,p⟩:=h.ok I.Jq;exact⟨its,r,p,z⟩
 ·refine⟨its.toList,r,⟨o,I.LR a o hk,hc,n,by simpa using hs⟩,?_⟩;have e:=r.length;simp only[Q_]at e;omega
theorem Inv.JU (I:Inv X pins σ H s)(h:JX X.K H a xs)(h':JX X.K H a ys):xs=ys:=by
 obtain⟨its,r,⟨o,n,e,_,_,d⟩,_⟩:=I.list h;obtain⟨its',r',⟨o',n',e',_,_,d'⟩,_⟩:=I.list h';rw[e]at e';cases e';rw[d]at d';injection d' with d1 _;have:its=its':=by simpa using congrArg Array.toList d1
 subst this;exact r.inj r'
theorem Inv.KC (I:Inv X pins σ H s)(h:JC X.K H a xs)(h':JC X.K H a ys):xs=ys:=by
 obtain⟨its,r,⟨o,e,_,n,d⟩,_⟩:=I.tuple h;obtain⟨its',r',⟨o',e',_,n',d'⟩,_⟩:=I.tuple h';rw[e]at e';cases e';rw[d]at d';injection d' with d1 _;have:its=its':=by simpa using congrArg Array.toList d1
 subst this;exact r.inj r'
end
section
variable {X:Cx}{st:Stmt}{rest:List Stmt}{t u:TS}{e:Expr}{te:TE}{pos:Pos}
def EB:TS:=fun D σ H=>D.nx σ H
def Hg (t u:TS):TS:=fun D σ H=>t {D with nx:=u D} σ H
theorem yV:Mz X [] EB:=fun _ _ σ H _ I h=>wpAny_execs_nil ⟨σ,H,I,h⟩
theorem uX (h1:PS X st t)(h2:Mz X rest u):Mz X (st::rest) (Hg t u):=by
 intro pins s σ H D I h;refine wpAny_execs_cons (Jr (h1 pins s σ H {D with nx:=u D} I h) fun f s1 q=>?_);cases f with
 |next=>obtain⟨Jp,H',I',q⟩:=q;exact h2 pins s1 Jp H' D I' q
 |ret v=>exact q
 |brk=>exact q
 |cont=>exact q
theorem Inv.quiet {pins:List (Ω×Obj)}{σ:St}{H:Hp}{s:Α}(I:Inv X pins σ H s):interactive X.env=Ξ:=by simp[interactive,I.ok.kind]
def EC (te:TE):TS:=fun D σ H=>te σ H fun _ H1=>D.nx σ H1
theorem lQ (he:PE X e te)(hs:swapsWith e Φ pos.line X.env=pure Ξ:=by rfl):PS X (.Expr e pos) (EC te):=by intro pins s σ H D I h;exact wpAny_Expr_any (Jr (he pins s σ H _ I h) fun v s1 ⟨x,H1,I1,r1,q1⟩=>⟨σ,H1,I1,q1⟩) I.quiet hs
def Hh (te:TE):TS:=fun D σ H=>te σ H D.rt
theorem B8 (he:PE X e te):PS X (.Return (Δ e) pos) (Hh te):=by intro pins s σ H D I h;exact wpAny_Return_some (Jr (he pins s σ H _ I h) fun v s1 ⟨x,H1,I1,r1,q1⟩=>⟨x,σ,H1,I1,r1,q1⟩)
def Hk (c:TT)(t u:TS):TS:=fun D σ H=>c σ H fun b H1=>if b=Θ then t D σ H1 else u D σ H1
theorem ED {c:Expr}{a b:List Stmt}{tc:TT}(hc:PT X c tc)(ha:Mz X a t)(hb:Mz X b u):PS X (.If c a b pos) (Hk tc t u):=by
 intro pins s σ H D I h;refine wpAny_If (Jr (hc pins s σ H _ I h) fun d s1 ⟨H1,I1,q1⟩=>?_);cases d with
 |true=>exact ha pins s1 σ H1 D I1 q1
 |false=>exact hb pins s1 σ H1 D I1 q1
end
abbrev TG:=V->St->Hp->(St->Hp->Prop)->Prop
abbrev Oy:=List V->St->Hp->(St->Hp->Prop)->Prop
def PG (X:Cx)(target:Expr)(t:TG):Prop:=
 ∀(pins:List (Ω×Obj)) (s:Α) (σ:St) (H:Hp) (v:V) (u:Ψ) (Q:St->Hp->Prop),Inv X pins σ H s->RelV v u->t v σ H Q->
  Κ (Μ X.prog X.w) X.A (assign target X.env u) (fun _ s'=>∃Jp H',Inv X pins Jp H' s'/\Q Jp H') X.xe s
def QC (X:Cx)(ts:List Expr)(t:Oy):Prop:=
 ∀(pins:List (Ω×Obj)) (s:Α) (σ:St) (H:Hp) (vs:List V) (us:List Ψ) (Q:St->Hp->Prop),Inv X pins σ H s->Vals vs us->t vs σ H Q->
  Κ (Μ X.prog X.w) X.A (assignInOrder ((assignEach ts X.env).map (·.2)) us) (fun _ s'=>∃Jp H',Inv X pins Jp H' s'/\Q Jp H') X.xe s
section
variable {X:Cx}{pos:Pos}
def uY (i:Nat):TG:=fun v σ H Q=>Q (σ.set i (Δ v)) H
theorem yW {i:Nat}{x:Str}(hN:X.N.Nodup)(hi:X.N[i]? = Δ x)(hx:Loc X.env.scope x)(hf:X.fn x=Θ∨X.env.scope.names.lookup x=Δ .local:=by first|exact .inl rfl|exact .inr rfl|assumption):PG X (.Name x pos) (uY i):=by intro pins s σ H v u Q I r h;exact wpAny_assign_Name (pP I hN hi hx r (fun s' I'=>⟨_,H,I',h⟩) hf)
def EE:Oy:=fun vs σ H Q=>vs=[]/\Q σ H
def A9 (t:TG)(u:Oy):Oy:=fun vs σ H Q=>∃v r,vs=v::r/\t v σ H fun Jp H'=>u r Jp H' Q
theorem yX:QC X [] EE:=by intro pins s σ H vs us Q I r h;obtain⟨e,h⟩:=h;subst e;cases r;exact assignInOrder_nil ⟨σ,H,I,h⟩
theorem uZ {e:Expr}{es:List Expr}{t:TG}{u:Oy}(h1:PG X e t)(h2:QC X es u)
  (hs:(assignEach (e::es) X.env).map (·.2)=assign e X.env::(assignEach es X.env).map (·.2):=by rfl):QC X (e::es) (A9 t u):=by
 intro pins s σ H vs us Q I r h;obtain⟨v,vr,e1,h⟩:=h;subst e1;cases r with
 |cons r rr=>rw[hs];refine assignInOrder_cons (Jr (h1 pins s σ H _ _ _ I r h) fun _ s1 ⟨VC,H1,I1,q1⟩=>?_);exact h2 pins s1 VC H1 _ _ Q I1 rr q1
def B9 (te:TE)(g:TG):TS:=fun D σ H=>te σ H fun x H1=>g x σ H1 D.nx
theorem Ca {tg e:Expr}{te:TE}{g:TG}(he:PE X e te)(hg:PG X tg g)(hs:swapsWithSole [tg] e pos.line X.env=pure Ξ:=by rfl)(hw:swappedStores [tg] e X.env=pure Φ:=by rfl)
  (h1:(assignEach [tg] X.env).map (·.2)=[assign tg X.env]:=by rfl):PS X (.Assign [tg] e pos) (B9 te g):=by
 intro pins s σ H D I h;refine wpAny_Assign_stores (Jr (he pins s σ H _ I h) fun v s1 ⟨x,H1,I1,r1,q1⟩=>?_) hs hw;rw[h1];exact Jr (hg pins s1 σ H1 x v _ I1 r1 q1) fun _ s2 q=>q
theorem Cc {i:Nat}{x:Str}{e:Expr}{te:TE}{pos':Pos}(hN:X.N.Nodup)(hi:X.N[i]? = Δ x)(hx:Loc X.env.scope x)(he:PE X e te)(hs:swapsWith e (Δ (.Name x pos')) pos.line X.env=pure Ξ:=by rfl)(hf:X.fn x=Θ∨X.env.scope.names.lookup x=Δ .local:=by first|exact .inl rfl|exact .inr rfl|assumption) :
  PS X (.Assign [.Name x pos'] e pos) (B9 te (uY i)):=by
 intro pins s σ H D I h;refine wpAny_Assign_Name (Jr (he pins s σ H _ I h) fun v s1 ⟨y,H1,I1,r1,q1⟩=>?_) hs;exact pP I1 hN hi hx r1 (fun s2 I2=>⟨_,H1,I2,q1⟩) hf
end
structure It where
 go:Nat->Hp->Prop
 NW:Nat->Hp->V->Hp->Prop
 stop:Nat->Hp->Prop
def j9 (X:Cx)(pins:List (Ω×Obj))(H:Hp)(b:Ω):Prop:=
 H b=Φ/\b≠X.env.locals/\b∉X.fs/\(b∈X.ex∨X.JP.heap.objs.size<=b)/\(∀x c,X.env.cells.lookup x=Δ c->c≠b)/\∀p∈X.pn++pins,p.1≠b
theorem Inv.Mi {X:Cx}{pins:List (Ω×Obj)}{σ:St}{H H':Hp}{s:Α}{b:Ω}(I:Inv X pins σ H s)(hb:s.heap.objs.size<=b)(hn:H' b=Φ):j9 X pins H' b:=by
 refine⟨hn,Nat.ne_of_gt (P_ I.lt hb),I.S9 hb,.inr (S_ I.sz hb),fun x c e z=>?_,fun p hp z=>?_⟩
 ·obtain⟨v,q⟩:=I.cell x c e;exact absurd (P_ q.lt (by rw[z];exact hb)) (aah _)
 ·exact absurd (P_ (m_ (I.pin p hp).1) (by rw[z];exact hb)) (aah _)
structure Turn (P:Ε)(w:Β)(K:Frag)(tg:Expr)(J:It)(fp:List Ω)(it:Ω)(tn:Nat->Heap->Prop):Prop where
 mem:it∈fp
 obj:∀i h,tn i h->∀b∈fp,∃o,h.get? b=Δ o/\∀v,o.data≠.cell v
 keep:∀i h h',tn i h->(∀b∈fp,∀o,h.get? b=Δ o->h'.get? b=Δ o)->tn i h'
 item:∀(X:Cx),X.prog=P->X.w=w->X.K=K->X.calm=Θ->∀(i:Nat) (pins:List (Ω×Obj)) (s:Α) (σ:St) (H:Hp) (E:Ψ->Α->Prop),Inv X pins σ H s->(∀b∈fp,j9 X pins H b)->tn i s.heap->J.go i H->
  Κ (Μ P w) X.A (pyNext (.ref it)) (fun r s1=>∃u,r=Δ u/\
   Κ (Μ P w) X.A (letOwnedTupleGo tg (.ref it) u) (fun _ s2=>∃x H',Inv X pins σ H' s2/\RelV x u/\J.NW i H x H'/\tn (i+1) s2.heap/\∀b∈fp,H' b=Φ) E s1) E s
 done:∀(X:Cx),X.prog=P->X.w=w->X.K=K->X.calm=Θ->∀(i:Nat) (pins:List (Ω×Obj)) (s:Α) (σ:St) (H:Hp) (E:Ψ->Α->Prop),Inv X pins σ H s->(∀b∈fp,j9 X pins H b)->tn i s.heap->J.stop i H->
  Κ (Μ P w) X.A (pyNext (.ref it)) (fun r s1=>r=Φ/\Inv X pins σ H s1) E s
 self:∀(A:Ι) (i:Nat) (s:Α) (Q:Ψ->Α->Prop) (E:Ψ->Α->Prop),tn i s.heap->Q (.ref it) s->Κ (Μ P w) A (pyIter (.ref it)) Q E s
abbrev TI:=St->Hp->(It->Hp->Prop)->Prop
def P5 (X:Cx)(pins:List (Ω×Obj))(σ:St)(tg:Expr)(R:It->Hp->Prop)(R8:Ψ)(s2:Α):Prop:=
 ∃(it:Ω) (fp:List Ω) (tn:Nat->Heap->Prop) (J:It) (H':Hp),R8=.ref it/\Inv X pins σ H' s2/\Turn X.prog X.w X.K tg J fp it tn/\tn 0 s2.heap/\(∀b∈fp,j9 X pins H' b)/\R J H'
def PI (X:Cx)(tg iter:Expr)(wi:TI):Prop:=
 ∀(pins:List (Ω×Obj)) (s:Α) (σ:St) (H:Hp) (R:It->Hp->Prop),Inv X pins σ H s->wi σ H R->
  Κ (Μ X.prog X.w) X.A (eval iter X.env) (fun v s1=>Κ (Μ X.prog X.w) X.A (pyIter v) (P5 X pins σ tg R) X.xe s1) X.xe s
theorem sh {M : Model}{A : Ι}{E : Ψ -> Α -> Prop}{s : Α}{tg : Expr}{it : Ω}{u : Ψ}{o : Obj}{n : String}{vs : Array Ψ}{Q : Unit -> Α -> Prop}(ho : s.heap.get? it = Δ o)(hc : o.cls = .type n)(hd : o.data = .fields vs)
    (hn : ["enumerate", "zip", "dict_itemiterator", "dict_reverseitemiterator", "odict_iterator", "itertools.zip_longest", "itertools.pairwise"].contains n = Ξ) (hQ : Q () s) : Κ M A (letOwnedTupleGo tg (.ref it) u) Q E s :=by
  unfold letOwnedTupleGo;cases tg <;> first
    | exact f_ hQ
    | (cases u <;> first
        | exact f_ hQ
        | (refine a_ (wpAny_load ho ?_)
           rw [hc,hd];show Κ M A (if(["enumerate", "zip", "dict_itemiterator", "dict_reverseitemiterator", "odict_iterator", "itertools.zip_longest", "itertools.pairwise"].contains n&&vs[0]? == Δ (rawInt _)) = Θ then _ else _) Q E s;rw [d_ (by intro h; rw [hn,Bool.false_and]at h; cases h)]
           exact f_ hQ))
noncomputable def R9 (K:Frag)(a:Ω):It:=
 ⟨fun i H=>∃xs x,JX K H a xs/\xs[i]? = Δ x,fun i H x H'=>H'=H/\∀xs,JX K H a xs->xs[i]? = Δ x,fun i H=>∃xs,JX K H a xs/\xs.length<=i⟩
noncomputable def Te (K:Frag)(a:Ω):It:=
 ⟨fun i H=>∃xs x,JC K H a xs/\xs[i]? = Δ x,fun i H x H'=>H'=H/\∀xs,JC K H a xs->xs[i]? = Δ x,fun i H=>∃xs,JC K H a xs/\xs.length<=i⟩
noncomputable def QD (lo:Int)(n:Nat):It:=⟨fun i _=>i < n,fun i H x H'=>H'=H/\x=.int (lo+i),fun i _=>n<=i⟩
theorem tW {P:Ε}{w:Β}{K:Frag}{tg:Expr}(a it:Ω):Turn P w K tg (R9 K a) [it] it (fun i h=>h.IsListIter it a i) where
 mem:=by simp
 obj:=fun i h st b hb=>by
  have e:b=it:=by simpa using hb
  subst e;obtain⟨o,e,c,d⟩:=st;exact⟨o,e,fun v z=>by rw[d]at z;cases z⟩
 keep:=fun i h h' st k=>st.at fun o e=>k it (by simp) o e
 item:=by intro X hP hw hK hc i pins s σ H E I hf st hg;subst hP hw hK;obtain⟨xs,x,hq,hx⟩:=hg;obtain⟨its,rv,p,hz⟩:=I.list hq;obtain⟨u,hu,ru⟩:=rv.get hx;obtain⟨f0,f1,f2,f3,f4,f5⟩:=hf it (by simp);refine wpAny_pyNext_list_item st p.isList (x:=u) (by simpa using hu) fun h' KO sb=>?_;have I1:Inv X pins σ H {s with heap:=h'}:=I.turned (t':=s.toks) (fun b o hb e=>(sb.2 b hb).trans e) f0 f1 f3 f4 f5;obtain⟨o,e,c,d⟩:=id KO;exact⟨u,rfl,sh (s:={s with heap:=h'}) e c d (by decide) ⟨x,H,I1,ru,⟨rfl,fun ys hy=>by rw[I.JU hy hq];exact hx⟩,KO,fun b hb=>(hf b hb).1⟩⟩
 done:=by intro X hP hw hK hc i pins s σ H E I hf st hg;subst hP hw hK;obtain⟨xs,hq,hx⟩:=hg;obtain⟨its,rv,p,hz⟩:=I.list hq;obtain⟨f0,f1,f2,f3,f4,f5⟩:=hf it (by simp);have hl:=rv.length;exact wpAny_pyNext_list_end (I.ok.hd hc) st p.isList (by simp;omega) fun h' eb=>⟨rfl,I.turned (t':=s.toks) (fun b o hb e=>eb b o hb e) f0 f1 f3 f4 f5⟩
 self:=fun _ _ _ _ _ st h=>wpAny_pyIter_listiter st h
theorem qV {P:Ε}{w:Β}{K:Frag}{tg:Expr}(a it:Ω):Turn P w K tg (Te K a) [it] it (fun i h=>h.IsTupleIter it a i) where
 mem:=by simp
 obj:=fun i h st b hb=>by
  have e:b=it:=by simpa using hb
  subst e;obtain⟨o,e,c,d⟩:=st;exact⟨o,e,fun v z=>by rw[d]at z;cases z⟩
 keep:=fun i h h' st k=>st.at fun o e=>k it (by simp) o e
 item:=by intro X hP hw hK hc i pins s σ H E I hf st hg;subst hP hw hK;obtain⟨xs,x,hq,hx⟩:=hg;obtain⟨its,rv,p,hz⟩:=I.tuple hq;obtain⟨u,hu,ru⟩:=rv.get hx;obtain⟨f0,f1,f2,f3,f4,f5⟩:=hf it (by simp);refine wpAny_pyNext_tuple_item st (show s.heap.IsTuple a its.toArray from p) (x:=u) (by simpa using hu) fun h' KO sb=>?_;have I1:Inv X pins σ H {s with heap:=h'}:=I.turned (t':=s.toks) (fun b o hb e=>(sb.2 b hb).trans e) f0 f1 f3 f4 f5;obtain⟨o,e,c,d⟩:=id KO;exact⟨u,rfl,sh (s:={s with heap:=h'}) e c d (by decide) ⟨x,H,I1,ru,⟨rfl,fun ys hy=>by rw[I.KC hy hq];exact hx⟩,KO,fun b hb=>(hf b hb).1⟩⟩
 done:=by intro X hP hw hK hc i pins s σ H E I hf st hg;subst hP hw hK;obtain⟨xs,hq,hx⟩:=hg;obtain⟨its,rv,p,hz⟩:=I.tuple hq;obtain⟨f0,f1,f2,f3,f4,f5⟩:=hf it (by simp);have hl:=rv.length;exact wpAny_pyNext_tuple_end (I.ok.hd hc) st (show s.heap.IsTuple a its.toArray from p) (by simp;omega) fun h' eb=>⟨rfl,I.turned (t':=s.toks) (fun b o hb e=>eb b o hb e) f0 f1 f3 f4 f5⟩
 self:=fun _ _ _ _ _ st h=>wpAny_pyIter_tupleiter st h
theorem qW {P:Ε}{w:Β}{K:Frag}{tg:Expr}(it:Ω)(lo:Int)(n:Nat):Turn P w K tg (QD lo n) [it] it (fun i h=>IsRangeIter h it (lo+(i:Nat)*1) ((n:Int) - (i:Nat)) 1) where
 mem:=by simp
 obj:=fun i h st b hb=>by
  have e:b=it:=by simpa using hb
  subst e
  exact⟨_,st,fun v z=>by
   have z':Data.fields _=Data.cell v:=z
   cases z'⟩
 keep:=fun i h h' st k=>k it (by simp) _ st
 item:=by intro X hP hw hK hc i pins s σ H E I hf st hg;subst hP hw hK;obtain⟨f0,f1,f2,f3,f4,f5⟩:=hf it (by simp);have W:=Walks.range (prog:=X.prog) (w:=X.w) (I.ok.hd hc) it lo 1 n;refine W.item i s _ _ hg st fun v h' tk hv KO kk=>?_;obtain⟨t,rfl⟩:=hv;have I1:Inv X pins σ H {s with heap:=h',toks:=tk}:=I.turned (fun b o hb e=>kk b o (by simpa using hb) e) f0 f1 f3 f4 f5;refine⟨_,rfl,sh (s:={s with heap:=h',toks:=tk}) (n:="range_iterator") KO rfl rfl (by decide) ⟨.int (lo+i),H,I1,⟨t,?_⟩,⟨rfl,rfl⟩,KO,fun b hb=>(hf b hb).1⟩⟩;rw[Int.mul_one]
 done:=by intro X hP hw hK hc i pins s σ H E I hf st hg;subst hP hw hK;obtain⟨f0,f1,f2,f3,f4,f5⟩:=hf it (by simp);exact wpAny_pyNext_range_end (I.ok.hd hc) st (by have:n<=i:=hg;omega) fun h' eb=>⟨rfl,I.turned (t':=s.toks) (fun b o hb e=>eb b o hb e) f0 f1 f3 f4 f5⟩
 self:=fun _ _ _ _ _ st h=>wpAny_pyIter_rangeiter st h
section
variable {X:Cx}{tg:Expr}
theorem u0 {pins:List (Ω×Obj)}{σ:St}{H:Hp}{s:Α}{R:It->Hp->Prop}{E:Ψ->Α->Prop}{lo hi:Int}{t u v:Tok}{tk:Nat}(I:Inv X pins σ H s)(h1 : -(2 ^ 62)<=lo)(h2:lo < 2 ^ 62)(h3 : -(2 ^ 62)<=hi)(h4:hi < 2 ^ 62)
  (q:R (QD lo (hi - lo).toNat) H):Κ (Μ X.prog X.w) X.A (pyIter (.ref s.heap.objs.size)) (P5 X pins σ tg R) E {s with heap:=s.heap.push {cls:=.type "range",data:=.fields #[.int lo t,.int hi u,.int 1 v]},toks:=tk}:=by
 refine wpAny_pyIter_range (IsRange.new ..) (small_one h1 h2 h3 h4) ?_;have I1:Inv X pins σ H {s with heap:=s.heap.push {cls:=.type "range",data:=.fields #[.int lo t,.int hi u,.int 1 v]},toks:=tk}:=I.kept fun b o e=>n_ _ e
 refine⟨(s.heap.push {cls:=.type "range",data:=.fields #[.int lo t,.int hi u,.int 1 v]}).objs.size,[(s.heap.push {cls:=.type "range",data:=.fields #[.int lo t,.int hi u,.int 1 v]}).objs.size],_,_,H,rfl,
  I1.kept (t':=tk) fun b o e=>n_ _ e,qW _ lo (hi - lo).toNat,?_,fun b hb=>?_,q⟩
 ·have e1:lo+((0:Nat):Int)*1=lo:=by simp
  have e2:(((hi - lo).toNat:Nat):Int) - ((0:Nat):Int)=Builtin.Range.rangeSize lo hi 1:=by rw[rangeSize_one];split<;>omega
  show IsRangeIter _ _ (lo+((0:Nat):Int)*1) ((((hi - lo).toNat:Nat):Int) - ((0:Nat):Int)) 1;rw[e1,e2];exact A_ _ rfl
 ·have e:b=(s.heap.push {cls:=.type "range",data:=.fields #[.int lo t,.int hi u,.int 1 v]}).objs.size:=by simpa using hb
  subst e;exact I1.Mi (l_ _) (I1.Jq.fresh (l_ _))
def EF (ta:TA):TI:=fun σ H R=>ta σ H fun vs H1=>∃j:Int,vs=[.int j]/\-(2 ^ 62)<=j/\j < 2 ^ 62/\R (QD 0 j.toNat) H1
theorem nE {a:Expr}{ta:TA}{p pos:Pos}(hg:Gl X "range") (hm:X.mg "range" = Φ) (ha:PA X [a] ta) (hs:Ν [a] X.env=[(Ξ,eval a X.env)]:=by rfl):PI X tg (.Call (.Name "range" p) [a] [] pos) (EF ta):=by
 intro pins s σ H R I h;refine Call_ (jI I hg hm boot_range (PyProof.Rows.callWith_type1 (Jr (ha pos pins s σ H _ I h) fun us s1 ⟨vs,H1,I1,r1,q1⟩=>?_) hs rfl));obtain⟨j,e,q1,q2,q⟩:=q1;subst e;cases r1 with
 |cons r rr=>cases rr;obtain⟨t,rfl⟩:=r;exact call_range_1 (u0 I1 (by omega) (by omega) q1 q2 (by simpa using q))
def Hl (wi:TI)(g:TG)(tb:TS):TS:=fun D σ H=>wi σ H fun J H1=>∃W:Nat->Nat->St->Hp->Prop,(∃m,W 0 m σ H1)/\∀i m σ H,W i m σ H->
 (J.stop i H/\D.nx σ H)∨(J.go i H/\∃N:St->Hp->Prop,(∀Jp H',N Jp H'->∃m',m' < m/\W (i+1) m' Jp H')/\∀x H',J.NW i H x H'->g x σ H' fun LU H2=>tb {D with nx:=N,ct:=N,bk:=D.nx} LU H2)
noncomputable def kU (fp:List Ω)(h:Heap):List (Ω×Obj):=fp.filterMap fun b=>(h.get? b).map fun o=>(b,o)
theorem jJ {fp:List Ω}{h:Heap}{b:Ω}{o:Obj}(hb:b∈fp)(e:h.get? b=Δ o):(b,o)∈kU fp h:=List.mem_filterMap.mpr ⟨b,hb,by rw[e];rfl⟩
theorem tY {fp:List Ω}{h:Heap}{p:Ω×Obj}(hp:p∈kU fp h):p.1∈fp/\h.get? p.1=Δ p.2:=by
 obtain⟨b,hb,e⟩:=List.mem_filterMap.mp hp;cases q:h.get? b with
 |none=>rw[q]at e;cases e
 |some o=>rw[q]at e;have e':(b,o)=p:=K_ e;subst e';exact⟨hb,q⟩
theorem Inv.pinned {pins:List (Ω×Obj)}{σ:St}{H:Hp}{s:Α}{fp:List Ω}(I:Inv X pins σ H s)(hf:∀b∈fp,j9 X pins H b)(ho:∀b∈fp,∃o,s.heap.get? b=Δ o/\∀v,o.data≠.cell v):Inv X (pins++kU fp s.heap) σ H s:=
 I.Mx fun p hp=>(o_.mp hp).elim (fun z=>I.pin p (s_ _ z)) fun z=>by obtain⟨hb,e⟩:=tY z;obtain⟨f0,f1,f2,_⟩:=hf p.1 hb;obtain⟨o,e',d⟩:=ho p.1 hb;rw[e]at e';cases e';exact⟨e,f0,f1,f2,d⟩
theorem Inv.Ks {pins pl:List (Ω×Obj)}{σ:St}{H:Hp}{s:Α}(I:Inv X (pins++pl) σ H s):Inv X pins σ H s:=I.Mx fun p hp=>I.pin p (s_ _ (q_ _ hp))
theorem u3 {iter:Expr}{body:List Stmt}{wi:TI}{g:TG}{tb:TS}{pos:Pos}(hp:PassesOwn (Μ X.prog X.w) X.A X.env X.xe)(hc:X.calm=Θ)(hi:PI X tg iter wi)(hg:PG X tg g)(hb:Mz X body tb)
  (hs:∀x,foldedSetIterable iter X.env x=pure x:=by intro _;rfl):PS X (.For tg iter body [] pos) (Hl wi g tb):=by
 intro pins s σ H D I h;refine wpAny_For (Jr (hi pins s σ H _ I h) fun v s1 h1=>Jr h1 fun R8 s2 h2=>?_) hs;obtain⟨it,fp,tn,J,H2,e,I2,T,MA,f2,W,⟨m0,w0⟩,turn⟩:=h2;subst e
 -- Tf stays Θ of OT OU objects through OT loop
 have Mj:∀ {H':Hp},(∀b∈fp,H' b=Φ)->∀b∈fp,j9 X pins H' b:=fun hn b hb=>⟨hn b hb,(f2 b hb).2⟩
 refine codeAny_forLoop_any (fun n s'=>∃i Jp H',Inv X pins Jp H' s'/\tn i s'.heap/\(∀b∈fp,H' b=Φ)/\W i n Jp H') ?_ m0 ⟨0,σ,H2,I2,MA,fun b hb=>(f2 b hb).1,w0⟩;rintro n s3 ⟨i,QE,H3,I3,VD,VE,w3⟩;rcases turn i n QE H3 w3 with⟨stop,qn⟩|⟨go,N,hN,step⟩
 ·refine wpAny_passesOwn hp (Jr (T.done X rfl rfl rfl hc i pins s3 QE H3 X.xe I3 (Mj VE) VD stop) fun r s4 ⟨hr,I4⟩=>?_);subst hr;exact wpAny_execs_nil ⟨QE,H3,I4,qn⟩
 ·refine wpAny_passesOwn hp (Jr (T.item X rfl rfl rfl hc i pins s3 QE H3 X.xe I3 (Mj VE) VD go) fun r s4 ⟨u,hr,h4⟩=>?_);subst hr;refine wpAny_passesOwn hp (Jr h4 fun _ s5 ⟨x,H5,I5,r5,y5,QF,Th⟩=>?_);have Xc:=I5.pinned (Mj Th) (T.obj _ _ QF);refine wpAny_passesOwn hp (Jr (hg _ s5 QE H5 x u _ Xc r5 (step x H5 y5)) fun _ s6 ⟨OV,H6,I6,q6⟩=>?_);refine wpAny_passesOwn hp (Jr (hb _ s6 OV H6 _ I6 q6) fun f s7 q7=>?_);have again:∀ {Nc:St}{H7:Hp},Inv X (pins++kU fp s5.heap) Nc H7 s7->N Nc H7->∃m,m < n/\∃i Jp H',Inv X pins Jp H' s7/\tn i s7.heap/\(∀b∈fp,H' b=Φ)/\W i m Jp H':=fun {Nc H7} I7 n7=>by obtain⟨m',hm,w7⟩:=hN Nc H7 n7;refine⟨m',hm,i+1,Nc,H7,I7.Ks,T.keep _ _ _ QF fun b hb o e=>(I7.pin (b,o) (s_ _ (s_ _ (jJ hb e)))).1,fun b hb=>?_,w7⟩;obtain⟨o,e,d⟩:=T.obj _ _ QF b hb;exact(I7.pin (b,o) (s_ _ (s_ _ (jJ hb e)))).2.1
  cases f with
  |next=>obtain⟨Nc,H7,I7,n7⟩:=q7;exact again I7 n7
  |cont=>obtain⟨Nc,H7,I7,n7⟩:=q7;exact again I7 n7
  |brk=>obtain⟨Nc,H7,I7,q7⟩:=q7;exact⟨Nc,H7,I7.Ks,q7⟩
  |ret v=>obtain⟨x7,Nc,H7,I7,r7,q7⟩:=q7;exact⟨x7,Nc,H7,I7.Ks,r7,q7⟩
end
abbrev R2:=V->V->Hp->VK->Prop
def Ll (X:Cx)(f:Ψ->Ψ->Sem Ψ)(r:R2):Prop:=
 ∀(pins:List (Ω×Obj)) (s:Α) (σ:St) (H:Hp) (x y:V) (v u:Ψ) (Q:VK),Inv X pins σ H s->RelV x v->RelV y u->r x y H Q->
  Κ (Μ X.prog X.w) X.A (f v u) (EP X pins σ Q) X.xe s
def Ti (X:Cx)(f:Ψ->Sem Ψ)(r:V->Hp->VK->Prop):Prop:=
 ∀(pins:List (Ω×Obj)) (s:Α) (σ:St) (H:Hp) (x:V) (v:Ψ) (Q:VK),Inv X pins σ H s->RelV x v->r x H Q->
  Κ (Μ X.prog X.w) X.A (f v) (EP X pins σ Q) X.xe s
def iD (X:Cx)(f:Ψ)(r:List V->Hp->VK->Prop):Prop:=
 ∀(pins:List (Ω×Obj)) (s:Α) (σ:St) (H:Hp) (xs:List V) (us:List Ψ) (Q:VK),Inv X pins σ H s->Vals xs us->r xs H Q->
  Κ (Μ X.prog X.w) X.A (call f us) (EP X pins σ Q) X.xe s
def Hm (X:Cx)(r:V->Hp->(Bool->Hp->Prop)->Prop):Prop:=
 ∀(pins:List (Ω×Obj)) (s:Α) (σ:St) (H:Hp) (x:V) (v:Ψ) (Q:Bool->Hp->Prop),Inv X pins σ H s->RelV x v->r x H Q->
  Κ (Μ X.prog X.w) X.A (truthy v) (TP X pins σ Q) X.xe s
def Sa (r:R2)(ta tb:TE):TE:=fun σ H Q=>ta σ H fun x H1=>tb σ H1 fun y H2=>r x y H2 Q
def Xd (r:V->Hp->VK->Prop)(ta:TE):TE:=fun σ H Q=>ta σ H fun x H1=>r x H1 Q
def rI (C:Int->Int->Prop)(g:Int->Int->V):R2:=fun x y H Q=>∃i j,x=.int i/\y=.int j/\C i j/\Q (g i j) H
def Tj (g:Int->Int->V):R2:=fun x y H Q=>∃i j,x=.int i/\y=.int j/\Q (g i j) H
def rU (g:Int->V):V->Hp->VK->Prop:=fun x H Q=>∃i,x=.int i/\Q (g i) H
section
variable {X:Cx}{a b c:Expr}{ta tb tc:TE}{pos:Pos}
theorem Cd (ha:PE X a ta)(hb:PE X b tb){pins:List (Ω×Obj)}{s:Α}{σ:St}{H:Hp}{R:V->V->Hp->Prop}(I:Inv X pins σ H s)
  (h:ta σ H fun x H1=>tb σ H1 fun y H2=>R x y H2) {Q:Ψ->Α->Prop}{f:Ψ->Ψ->Sem Ψ}
  (hf:∀v u s2 x y H2,Inv X pins σ H2 s2->RelV x v->RelV y u->R x y H2->Κ (Μ X.prog X.w) X.A (f v u) Q X.xe s2) :
  Κ (Μ X.prog X.w) X.A (eval a X.env) (fun v Jn=>Κ (Μ X.prog X.w) X.A (eval b X.env) (fun u LS=>Κ (Μ X.prog X.w) X.A (f v u) Q X.xe LS) X.xe Jn) X.xe s:=by
 refine Jr (ha pins s σ H _ I h) fun v s1 ⟨x,H1,I1,r1,q1⟩=>?_;refine Jr (hb pins s1 σ H1 _ I1 q1) fun u s2 ⟨y,H2,I2,r2,q2⟩=>?_;exact hf v u s2 x y H2 I2 r1 r2 q2
theorem u4 {op:Operator}{r:R2}(ho:Ll X (binaryOp op) r)(ha:PE X a ta)(hb:PE X b tb):PE X (.BinOp a op b pos) (Sa r ta tb):=by intro pins s σ H Q I h;exact wpAny_BinOp (Cd ha hb I h fun v u s2 x y H2 I2 rx ry q=>ho pins s2 σ H2 x y v u Q I2 rx ry q)
theorem EG {op:UnaryOp}{r:V->Hp->VK->Prop}(ho:Ti X (unaryOp op) r)(ha:PE X a ta):PE X (.UnaryOp op a pos) (Xd r ta):=by intro pins s σ H Q I h;exact UnaryOp_ (Jr (ha pins s σ H _ I h) fun v s1 ⟨x,H1,I1,r1,q1⟩=>ho pins s1 σ H1 x v Q I1 r1 q1)
theorem Sb {f:Ψ->Ψ->Sem Ψ}{C:Int->Int->Prop}{g:Int->Int->Int}
  (rule:∀(i j:Int) (t u:Tok) (s:Α) (Q:Ψ->Α->Prop) (E:Ψ->Α->Prop),C i j->Q (.int (g i j) s.toks) {s with toks:=s.toks+1}->Κ (Μ X.prog X.w) X.A (f (.int i t) (.int j u)) Q E s) :
  Ll X f (rI C fun i j=>.int (g i j)):=by
 intro pins s σ H x y v u Q I rx ry h;obtain⟨i,j,rfl,rfl,hc,q⟩:=h;obtain⟨t,rfl⟩:=rx;obtain⟨t',rfl⟩:=ry;exact rule i j t t' s _ _ hc ⟨.int (g i j),H,I.tok _,⟨_,rfl⟩,q⟩
theorem EH {f:Ψ->Ψ->Sem Ψ}{g:Int->Int->Int}
  (rule:∀(i j:Int) (t u:Tok) (s:Α) (Q:Ψ->Α->Prop) (E:Ψ->Α->Prop),Q (.int (g i j) s.toks) {s with toks:=s.toks+1}->Κ (Μ X.prog X.w) X.A (f (.int i t) (.int j u)) Q E s) :
  Ll X f (Tj fun i j=>.int (g i j)):=by
 intro pins s σ H x y v u Q I rx ry h;obtain⟨i,j,rfl,rfl,q⟩:=h;obtain⟨t,rfl⟩:=rx;obtain⟨t',rfl⟩:=ry;exact rule i j t t' s _ _ ⟨.int (g i j),H,I.tok _,⟨_,rfl⟩,q⟩
def Hn (i j:Int):Prop:=0 < j/\j < 1073741824
def Ho (i j:Int):Prop:=0<=j/\j<=1000000/\i.natAbs < 2 ^ 64
def Ce (i j:Int):Prop:=(-(2 ^ 64) < i/\i < 2 ^ 64)∨(-(2 ^ 64) < j/\j < 2 ^ 64)
theorem Ce.ok {i j:Int}(h:Ce i j):IntMulOk i j:=by
 rcases h with⟨h1,h2⟩|⟨h1,h2⟩
 ·exact .of_left (intBits_le_64 h1 h2)
 ·exact .of_right (intBits_le_64 h1 h2)
theorem Cf:Ll X (binaryOp .Add) (Tj fun i j=>.int (i+j)):=EH fun _ _ _ _ _ _ _ q=>add_int q
theorem Cg:Ll X (binaryOp .Sub) (Tj fun i j=>.int (i - j)):=EH fun _ _ _ _ _ _ _ q=>sub_int q
theorem Ci:Ll X (binaryOp .Mult) (rI Ce fun i j=>.int (i*j)):=Sb fun _ _ _ _ _ _ _ hc q=>mul_int q hc.ok
theorem yY:Ll X (binaryOp .FloorDiv) (rI Hn fun i j=>.int (i / j)):=Sb fun i j _ _ _ _ _ hc q=>by have h1:(0:Int) < j:=hc.1;have h2:j < 1073741824:=hc.2;exact floordiv_int (by omega) (by rw[Int.fdiv_eq_ediv_of_nonneg i (by omega)];exact q) (.inl (PyProof.noPylong_small (by omega)))
theorem Cj:Ll X (binaryOp .Mod) (rI (fun _ j=>0 < j) fun i j=>.int (i % j)):=Sb fun i j _ _ _ _ _ hc q=>by have h1:(0:Int) < j:=hc;exact mod_int' (by omega) (by rw[Int.fmod_eq_emod_of_nonneg i (by omega)];exact q)
theorem Ck:Ll X (binaryOp .Pow) (rI Ho fun i j=>.int (i ^ j.toNat)):=Sb fun _ _ _ _ _ _ _ hc q=>pow_int_small hc.1 hc.2.1 hc.2.2 q
theorem Xe {f:Ψ->Sem Ψ}{g:Int->Int}
  (rule:∀(i:Int) (t:Tok) (s:Α) (Q:Ψ->Α->Prop) (E:Ψ->Α->Prop),Q (.int (g i) s.toks) {s with toks:=s.toks+1}->Κ (Μ X.prog X.w) X.A (f (.int i t)) Q E s) :
  Ti X f (rU fun i=>.int (g i)):=by
 intro pins s σ H x v Q I rx h;obtain⟨i,rfl,q⟩:=h;obtain⟨t,rfl⟩:=rx;exact rule i t s _ _ ⟨.int (g i),H,I.tok _,⟨_,rfl⟩,q⟩
theorem Cm:Ti X (unaryOp .USub) (rU fun i=>.int (-i)):=Xe fun _ _ _ _ _ q=>neg_int q
end
section
variable {X:Cx}{a b c:Expr}{ta tb tc:TE}{pos:Pos}
theorem yZ {op:CmpOp}{r:R2}(ho:Ll X (compareOp op) r)(ha:PE X a ta)(hb:PE X b tb)(hm:behindInMarks op b=Ξ):PE X (.Compare a [op] [b] pos) (Sa r ta tb):=by intro pins s σ H Q I h;exact wpAny_Compare1 (Cd ha hb I h fun v u s2 x y H2 I2 rx ry q=>ho pins s2 σ H2 x y v u Q I2 rx ry q) hm
def Ba (t:TE):TT:=fun σ H Q=>t σ H fun x H'=>∃k,x=.bl k/\Q k H'
theorem y0 {op:CmpOp}{r:R2}(ho:Ll X (compareOp op) r)(ha:PE X a ta)(hb:PE X b tb)(hm:behindInMarks op b=Ξ):PT X (.Compare a [op] [b] pos) (Ba (Sa r ta tb)):=by
 intro pins s σ H Q I h
 refine wpAny_isTrue_Compare1 (Jr (ha pins s σ H _ I h) fun v s1 ⟨x,H1,I1,r1,q1⟩=>Jr (hb pins s1 σ H1 _ I1 q1) fun u s2 ⟨y,H2,I2,r2,q2⟩=>
  Jr (ho pins s2 σ H2 x y v u _ I2 r1 r2 q2) fun c s3 ⟨z,H3,I3,r3,k,e,q3⟩=>?_) hm
 subst e;cases r3;exact wpAny_truthy_bool ⟨H3,I3,q3⟩
def u5 (r r':R2)(ta tb tc:TE):TE:=fun σ H Q=>ta σ H fun x H1=>tb σ H1 fun y H2=>r x y H2 fun z H3=>∃k,z=.bl k/\
 (if k=Θ then tc σ H3 fun w' H4=>r' y w' H4 Q else Q (.bl Ξ) H3)
theorem u6 {op KY:CmpOp}{r r':R2}(ho:Ll X (compareOp op) r)(Mg:Ll X (compareOp KY) r')(ha:PE X a ta)(hb:PE X b tb)(hc:PE X c tc)
  (hm:lastMarks [op,KY] [b,c]=Ξ:=by with_unfolding_all rfl):PE X (.Compare a [op,KY] [b,c] pos) (u5 r r' ta tb tc):=by
 intro pins s σ H Q I h
 refine Compare_chain (Jr (ha pins s σ H _ I h) fun v s1 ⟨x,H1,I1,r1,q1⟩=>chain_link (Jr (hb pins s1 σ H1 _ I1 q1) fun u s2 ⟨y,H2,I2,r2,q2⟩=>
  Jr (ho pins s2 σ H2 x y v u _ I2 r1 r2 q2) fun d s3 ⟨z,H3,I3,r3,k,e,q3⟩=>?_)) hm
 subst e;cases r3;refine wpAny_truthy_bool ?_;cases k with
 |false=>exact ite_ff ⟨.bl Ξ,H3,I3,rfl,q3⟩
 |true=>exact ite_tt (chain_last (Jr (hc pins s3 σ H3 _ I3 q3) fun w' s4 ⟨z',H4,I4,r4,q4⟩=>Mg pins s4 σ H4 y z' u w' Q I4 r2 r4 q4))
theorem u7 {op KY:CmpOp}{r r':R2}(ho:Ll X (compareOp op) r)(Mg:Ll X (compareOp KY) r')(ha:PE X a ta)(hb:PE X b tb)(hc:PE X c tc)
  (hm:lastMarks [op,KY] [b,c]=Ξ:=by with_unfolding_all rfl):PT X (.Compare a [op,KY] [b,c] pos) (Ba (u5 r r' ta tb tc)):=by
 intro pins s σ H Q I h
 refine isTrue_chain (Jr (ha pins s σ H _ I h) fun v s1 ⟨x,H1,I1,r1,q1⟩=>test_link (Jr (hb pins s1 σ H1 _ I1 q1) fun u s2 ⟨y,H2,I2,r2,q2⟩=>
  Jr (ho pins s2 σ H2 x y v u _ I2 r1 r2 q2) fun d s3 ⟨z,H3,I3,r3,k,e,q3⟩=>?_)) hm
 subst e;cases r3;refine wpAny_truthy_bool ?_;cases k with
 |false=>obtain⟨k',e',q'⟩:=q3;cases e';exact ite_ff ⟨H3,I3,q'⟩
 |true=>refine ite_tt (test_last (Jr (hc pins s3 σ H3 _ I3 q3) fun w' s4 ⟨z',H4,I4,r4,q4⟩=>Jr (Mg pins s4 σ H4 y z' u w' _ I4 r2 r4 q4) fun d' s5 ⟨z2,H5,I5,r5,k2,e2,q5⟩=>?_));subst e2;cases r5;exact wpAny_truthy_bool ⟨H5,I5,q5⟩
def Hq (K:Frag)(x:V)(H:Hp)(k:Bool):Prop:=
 match x with
 |.Iw=>k=Ξ
 |.bl b=>k=b
 |.int i=>k=(i != 0)
 |.str y=>y.length<=Ζ/\k=((y.length:Int) != 0)
 |.OQ y=>y.size<=Ζ/\k=((y.size:Int) != 0)
 |.ref p=>(∃xs,JX K H p xs/\k = !xs.isEmpty)∨(∃xs,JC K H p xs/\k = !xs.isEmpty)∨∃kvs,H p=Δ (.dK kvs)/\k = !kvs.isEmpty
 |_=>False
theorem qX {κ:Type}{kvs:List (κ×V)}{vs:List (κ×Ψ)}(r:KV kvs vs):(!vs.isEmpty) = !kvs.isEmpty:=by cases r<;>rfl
theorem l9 {xs:List V}{its:List Ψ}(r:Vals xs its):(!its.toArray.isEmpty) = !xs.isEmpty:=by cases r<;>simp
theorem ki:(Ζ:Nat) < 2 ^ 63:=by rw[sizeLine_eq];decide
theorem Co:Hm X (fun x H Q=>∃k,Hq X.K x H k/\Q k H):=by
 intro pins s σ H x v Q I rx h;obtain⟨k,e,q⟩:=h;have hl:=ki;have hs:Ζ=16777216:=sizeLine_eq;cases x with
 |Iw=>cases rx;have e':k=Ξ:=e;subst e';exact truthy_none ⟨H,I,q⟩
 |bl b=>cases rx;have e':k=b:=e;subst e';exact wpAny_truthy_bool ⟨H,I,q⟩
 |int i=>obtain⟨t,rfl⟩:=rx;have e':k=(i != 0):=e;subst e';exact PySem.P.truthy_int ⟨H,I,q⟩
 |str y=>obtain⟨t,rfl⟩:=rx;obtain⟨hy,e'⟩:y.length<=Ζ/\k=((y.length:Int) != 0):=e;subst e';exact PySem.P.truthy_str (by omega) ⟨H,I.tok _,q⟩
 |OQ y=>obtain⟨t,rfl⟩:=rx;obtain⟨hy,e'⟩:y.size<=Ζ/\k=((y.size:Int) != 0):=e;subst e';exact PySem.W.truthy_bytes (by omega) ⟨H,I.tok _,q⟩
 |ref p=>
  cases rx;have e':(∃xs,JX X.K H p xs/\k = !xs.isEmpty)∨(∃xs,JC X.K H p xs/\k = !xs.isEmpty)∨∃kvs,H p=Δ (.dK kvs)/\k = !kvs.isEmpty:=e;rcases e' with⟨xs,hx,e'⟩|⟨xs,hx,e'⟩|⟨kvs,hx,e'⟩
  ·subst e';obtain⟨its,r,pl,hz⟩:=I.list hx;have hlen:=r.length;exact wpAny_truthy_list pl.isList (by simp only[D_];omega) ⟨H,I.tok _,by rw[l9 r];exact q⟩
  ·subst e';obtain⟨its,r,pl,hz⟩:=I.tuple hx;have hlen:=r.length;exact truthy_tuple pl (by simp only[D_];omega) ⟨H,I.tok _,by rw[l9 r];exact q⟩
  ·subst e';obtain⟨hz,hS,vs,r,m⟩:kvs.length<=Ζ/\(p == sysModules)=Ξ/\∃vs,KV kvs vs/\s.heap.DictOf (iH X.prog X.w) p vs:=I.Jq p _ hx;have hlen:kvs.length=vs.length:=Paired.length r;exact wpAny_truthy_dict hS m (by omega) ⟨H,I.tok _,by rw[qX r];exact q⟩
 |_=>exact(show False from e).elim
theorem qY:Ll X (binaryOp .Add) (fun x y H Q=>∃i j,x=.str i/\y=.str j/\i.length+j.length<=Ζ/\Q (.str (i++j)) H):=by intro pins s σ H x y v u Q I rx ry h;obtain⟨i,j,rfl,rfl,hz,q⟩:=h;obtain⟨t,rfl⟩:=rx;obtain⟨t',rfl⟩:=ry;exact add_str (fun t' tk=>⟨.str (i++j),H,I.tok _,⟨_,rfl⟩,q⟩) hz
theorem vals1 {x:V}{us:List Ψ}(r:Vals [x] us):∃u,us=[u]/\RelV x u:=by
 cases r with
 |cons r1 r2=>cases r2;exact⟨_,rfl,r1⟩
theorem vals2 {x y:V}{us:List Ψ}(r:Vals [x,y] us):∃u w',us=[u,w']/\RelV x u/\RelV y w':=by
 cases r with
 |cons r1 r2=>
  cases r2 with
  |cons r3 r4=>cases r4;exact⟨_,_,rfl,r1,r3⟩
theorem u9:iD X (.builtin "abs") (fun xs H Q=>∃i,xs=[.int i]/\Q (.int (if i < 0 then -i else i)) H):=by intro pins s σ H xs us Q I r h;obtain⟨i,rfl,q⟩:=h;obtain⟨u,rfl,t,rfl⟩:=vals1 r;exact call_abs_int fun u tk=>⟨.int (if i < 0 then -i else i),H,I.tok _,⟨_,rfl⟩,q⟩
theorem tZ (hc:X.calm=Θ):iD X (.builtin "max") (fun xs H Q=>∃i j,xs=[.int i,.int j]/\Q (.int (if j > i then j else i)) H):=by
 intro pins s σ H xs us Q I r h;obtain⟨i,j,rfl,q⟩:=h;obtain⟨u,w',rfl,⟨t,rfl⟩,⟨t',rfl⟩⟩:=vals2 r;refine max_two_ints (I.ok.hd hc) fun h' tk k=>⟨_,H,I.kept k,?_,q⟩
 by_cases hj:j > i
 ·rw[e_ hj,e_ hj];exact⟨_,rfl⟩
 ·rw[d_ hj,d_ hj];exact⟨_,rfl⟩
theorem t5 (hc:X.calm=Θ):iD X (.builtin "min") (fun xs H Q=>∃i j,xs=[.int i,.int j]/\Q (.int (if j < i then j else i)) H):=by
 intro pins s σ H xs us Q I r h;obtain⟨i,j,rfl,q⟩:=h;obtain⟨u,w',rfl,⟨t,rfl⟩,⟨t',rfl⟩⟩:=vals2 r;refine min_two_ints (I.ok.hd hc) fun h' tk k=>⟨_,H,I.kept k,?_,q⟩
 by_cases hj:j < i
 ·rw[e_ hj,e_ hj];exact⟨_,rfl⟩
 ·rw[d_ hj,d_ hj];exact⟨_,rfl⟩
theorem nG:iD X (.type "int") (fun xs H Q=>(∃i,xs=[.int i]/\Q (.int i) H)∨∃k,xs=[.bl k]/\Q (.int (if k then 1 else 0)) H):=by
 intro pins s σ H xs us Q I r h;rcases h with⟨i,rfl,q⟩|⟨k,rfl,q⟩
 ·obtain⟨u,rfl,t,rfl⟩:=vals1 r;exact call_int_int ⟨.int i,H,I,⟨_,rfl⟩,q⟩
 ·obtain⟨u,rfl,r1⟩:=vals1 r;cases r1;exact call_int_bool ⟨.int (if k then 1 else 0),H,I.tok _,⟨_,rfl⟩,q⟩
theorem ve:iD X (.builtin "ord") (fun xs H Q=>∃x,xs=[.str x]/\x.length=1/\Q (.int (x.cps.getD 0 0:Nat)) H):=by intro pins s σ H xs us Q I r h;obtain⟨x,rfl,hz,q⟩:=h;obtain⟨u,rfl,t,rfl⟩:=vals1 r;exact ord_of_one hz ⟨.int _,H,I.tok _,⟨_,rfl⟩,q⟩
def Hr (K:Frag)(x:V)(H:Hp)(n:Nat):Prop:=
 match x with
 |.str y=>y.length<=Ζ/\n=y.length
 |.OQ y=>y.size<=Ζ/\n=y.size
 |.ref p=>(∃xs,JX K H p xs/\n=xs.length)∨∃xs,JC K H p xs/\n=xs.length
 |_=>False
theorem ma:iD X (.builtin "len") (fun xs H Q=>∃x n,xs=[x]/\Hr X.K x H n/\Q (.int n) H):=by
 intro pins s σ H xs us Q I r h;obtain⟨x,n,rfl,e,q⟩:=h;obtain⟨u,rfl,rx⟩:=vals1 r;have hl:=ki;have hs:Ζ=16777216:=sizeLine_eq;cases x with
 |str y=>obtain⟨t,rfl⟩:=rx;obtain⟨hy,e'⟩:y.length<=Ζ/\n=y.length:=e;subst e';exact len_str (by omega) ⟨.int _,H,I.tok _,⟨_,rfl⟩,q⟩
 |OQ y=>obtain⟨t,rfl⟩:=rx;obtain⟨hy,e'⟩:y.size<=Ζ/\n=y.size:=e;subst e';exact PySem.W.len_bytes (by omega) ⟨.int _,H,I.tok _,⟨_,rfl⟩,q⟩
 |ref p=>
  cases rx;have e':(∃xs,JX X.K H p xs/\n=xs.length)∨∃xs,JC X.K H p xs/\n=xs.length:=e;rcases e' with⟨xs,hx,e'⟩|⟨xs,hx,e'⟩
  ·subst e';obtain⟨its,r',pl,hz⟩:=I.list hx;have hlen:=r'.length;exact Calls.call_len_list pl.isList (by simp only[D_];omega) ⟨.int xs.length,H,I.tok _,⟨_,by simp only[D_];rw[hlen]⟩,q⟩
  ·subst e';obtain⟨its,r',pl,hz⟩:=I.tuple hx;have hlen:=r'.length;exact len_tuple pl (by simp only[D_];omega) ⟨.int xs.length,H,I.tok _,⟨_,by simp only[D_];rw[hlen]⟩,q⟩
 |_=>exact(show False from e).elim
end
theorem l8.some_of {v:V}{o:Option Ψ}(r:l8 (Δ v) o):∃u,o=Δ u/\RelV v u:=by
 cases o with
 |none=>exact(show False from r).elim
 |some u=>exact⟨u,rfl,r⟩
structure Kp (k:Nat)(A:Ι):Prop where
 hd:k < 1000->A.handled=Φ
 dp:A.depth+3*(k % 1000)+5 < recursionLimit
 un:A.units+16*(k % 1000)+200 < cLine
theorem Kp.deeper {k:Nat}{A:Ι}(r:Kp (k+1) A)(env:Env)(hk:k % 1000≠999):Kp k (A.deeper env):=
 ⟨fun z=>r.hd (by omega),by have:=r.dp;show A.depth+1+3*(k % 1000)+5 < _;omega,by have:=r.un;show A.units+3+16*(k % 1000)+200 < _;omega⟩
theorem Kp.depth {k:Nat}{A:Ι}(r:Kp k A):A.depth < recursionLimit:=by have:=r.dp;omega
def vf:TA:=fun _ H Q=>Q [] H
def md (ta:TE)(tr:TA):TA:=fun σ H Q=>ta σ H fun x H1=>tr σ H1 fun xs H2=>Q (x::xs) H2
section
variable {X:Cx}{e:Expr}{es:List Expr}{te:TE}{t:TA}{pos:Pos}
theorem iW:PA X [] vf:=fun _ _ _ _ H Q I h=>Calls.spliced_nil ⟨[],H,I,.nil,h⟩
theorem ij (ha:PE X e te)(hr:PA X es t)(hs:Ν (e::es) X.env=(Ξ,eval e X.env)::Ν es X.env:=by rfl):PA X (e::es) (md te t):=by intro pos pins s σ H Q I h;rw[hs];show Κ _ _ (spliced ((Ξ,eval e X.env)::backTo pos (Ν es X.env))) _ _ s;refine Calls.spliced_cons (Jr (ha pins s σ H _ I h) fun u s1 ⟨x,H1,I1,r1,q1⟩=>?_);exact Jr (hr pos pins s1 σ H1 _ I1 q1) fun us s2 ⟨xs,H2,I2,r2,q2⟩=>⟨x::xs,H2,I2,.cons r1 r2,q2⟩
def Hs (t:TA):TE:=fun σ H Q=>t σ H fun xs H1=>xs.length<=Ζ/\∀p,H1 p=Φ->Q (.ref p) (upd H1 p (.tup xs))
def Ht (t:TA):TE:=fun σ H Q=>t σ H fun xs H1=>xs.length<=Ζ/\∀p,H1 p=Φ->Q (.ref p) (upd H1 p (.lst xs))
theorem vg {x1}(h:PA X es t):PE X (.Tuple es x1 pos) (Hs t):=by intro pins s σ H Q I hq;refine wpAny_Tuple_spliced (Jr (h pos pins s σ H _ I hq) fun us s1 ⟨xs,H1,I1,r,z,q⟩=>⟨by rw[<- r.length];exact z,?_⟩);have hf:H1 s1.heap.objs.size=Φ:=I1.Jq.fresh (l_ _);refine⟨.ref s1.heap.objs.size,upd H1 s1.heap.objs.size (.tup xs),I1.laid (t':=s1.toks) (fun b u e=>n_ _ e) (l_ _) ?_,rfl,q _ hf⟩;exact⟨z,us,r,⟨_,A_ _ rfl,rfl,_,rfl⟩⟩
theorem vi (h:PA X es t):PE X (.List es pos) (Ht t):=by intro pins s σ H Q I hq;refine wpAny_List_spliced (Jr (h pos pins s σ H _ I hq) fun us s1 ⟨xs,H1,I1,r,z,q⟩=>⟨by rw[<- r.length];exact z,?_⟩);have hf:H1 s1.heap.objs.size=Φ:=I1.Jq.fresh (l_ _);refine⟨.ref s1.heap.objs.size,upd H1 s1.heap.objs.size (.lst xs),I1.laid (t':=s1.toks) (fun b u e=>n_ _ e) (l_ _) ?_,rfl,q _ hf⟩;exact⟨z,us,0,r,A_ _ rfl⟩
end
abbrev Sp:=List V->Hp->VK->XK->Prop
abbrev KD:=List Env->Hp->Α->XK->Ψ->Α->Prop
structure MP (P:Ε)(w:Β)(K:Frag)(mg:Str->Option Ψ)(base:Heap)(A:Ι)(outer:List Env)(s:Α)(H:Hp):Prop where
 frames:A.frames=Δ outer
 mod:Mod K mg base
 bs:∀b o,base.get? b=Δ o->s.heap.get? b=Δ o/\H b=Φ
 NR:base.objs.size<=s.heap.objs.size
 KU:s.heap.FunFrames base outer
 ND:∀b∈Lk outer,H b=Φ
 Jq:J6 P w H s.heap
 bare:AllBare s.gens
def CE (outer:List Env)(P:Ε)(w:Β)(H:Hp)(s:Α)(Q:VK)(u:Ψ)(s':Α):Prop:=
 ∃v H',s'.os=s.os/\AllBare s'.gens/\Un (Lk outer) [] H H' s.heap s'.heap/\J6 P w H' s'.heap/\RelV v u/\Q v H'
def CR (CX:KD)(outer:List Env)(P:Ε)(w:Β)(H:Hp)(s:Α)(Q:VK)(E:XK)(r:Result)(s':Α):Prop:=
 match r with
 |.ok (.ret u)=>CE outer P w H s Q u s'
 |.ok _=>False
 |.error e=>CX outer H s E e s'
structure K7 (P:Ε)(w:Β)(K:Frag)(mg:Str->Option Ψ)(base:Heap)(CX:KD)(k:Nat)(f:Ω)(fd:Ο)(ps:List Str)(sp:Sp):Prop where
 len:∀vs H Q E,sp vs H Q E->vs.length=ps.length
 run:∀(A:Ι) (outer:List Env) (s:Α) (H:Hp) (args:Args) (us:List Ψ) (vs:List V) (Q:VK) (E:XK),Kp k A->MP P w K mg base A outer s H->BindsTo s fd args (ps.zip us)->Vals vs us->sp vs H Q E->
  codeAny (Μ P w) A (.call (.ref f) args) (CR CX outer P w H s Q E) s
section
variable {X:Cx}{pins:List (Ω×Obj)}{σ:St}{H:Hp}{s s':Α}
theorem Inv.Lm (I:Inv X pins σ H s):MP X.prog X.w X.K X.mg X.base X.A X.stack s H:=
 ⟨I.ok.frames,I.ok.mod,I.bs,S_ I.ok.NR I.sz,I.stack,I.Mw,I.Jq,I.bare⟩
theorem Inv.after {Q:VK}{u:Ψ}(I:Inv X pins σ H s)(h:CE X.stack X.prog X.w H s Q u s'):EP X pins σ Q u s':=by obtain⟨v,H',os,bare,un,Jq,r,q⟩:=h;obtain⟨hh,g,d,t,To⟩:=s';obtain rfl:To=s.os:=os;exact⟨v,H',I.call (h':=hh) (g':=g) (d':=d) (t':=t) (ch:=[]) un Jq bare (fun b z=>absurd z (by simp)),r,q⟩
end
def Binds (K:Frag)(fd:Ο)(ps:List Str)(ds:List Ψ):Prop:=
 ∀(s:Α) (us:List Ψ),K.In s.heap->(us++ds).length=ps.length->BindsTo s fd ⟨us,[]⟩ (ps.zip (us++ds))
theorem Binds.all {K:Frag}{fd:Ο}{ps:List Str}(h:∀us:List Ψ,us.length=ps.length->bindArgs fd ⟨us,[]⟩=pure (ps.zip us)):Binds K fd ps []:=fun s us _ hl=>by rw[v_]at hl ⊢;exact .of_eq (h us hl)
def Passes (CX:KD)(X:Cx)(E:XK):Prop:=∀(pins:List (Ω×Obj)) (σ:St) (H:Hp) (s:Α) (e:Ψ) (s':Α),Inv X pins σ H s->CX X.stack H s E e s'->X.xe e s'
structure LB (N P:List Str)(sc:Scope):Prop where
 kind:sc.kind=.function
 co:sc.isCoroutine=Ξ
 gen:sc.isGenerator=Ξ
 nd:N.Nodup
 pre:N.take P.length=P
 par:∀x∈P,sc.names.lookup x=Δ .local∨sc.names.lookup x=Δ .cell
 OW:∀y∈sc.names,y.2≠.free
theorem nH {kindOf:Str->Option NameKind}{x:Str}:∀ {binds:List (Str×Ψ)}{m:Str->Option Ψ},(∀v,(x,v)∉binds)->bindL kindOf binds m x=m x
 |[],_,_=>rfl
 | (n,v)::r,m,h=>by
  unfold bindL;rw[nH fun w hw=>h w (w_ _ hw)];split
  ·have:x≠n:=by rintro rfl;exact h v J_
   simp[this]
  ·rfl
theorem nJ {kindOf:Str->Option NameKind}{x:Str}:∀ {binds:List (Str×Ψ)}{m:Str->Option Ψ},(∀v,(x,v)∉binds)->bindC kindOf binds m x=m x
 |[],_,_=>rfl
 | (n,v)::r,m,h=>by
  unfold bindC;rw[nJ fun w hw=>h w (w_ _ hw)];split
  ·rfl
  ·have:x≠n:=by rintro rfl;exact h v J_
   simp[this]
theorem nK {kindOf:Str->Option NameKind}{x:Str}{v:Ψ}:∀ {P:List Str}{vs:List Ψ}{i:Nat}{m:Str->Option Ψ},P.Nodup->P[i]? = Δ x->vs[i]? = Δ v->kindOf x=Δ .local->
  bindL kindOf (P.zip vs) m x=Δ v
 |[],_,_,_,_,h,_,_=>by simp at h
 |_::_,[],_,_,_,_,h,_=>by simp at h
 |p::P,w::vs,0,m,nd,h1,h2,hk=>by simp at h1 h2;subst h1;subst h2;show bindL kindOf ((p,w)::P.zip vs) m p=_;unfold bindL;rw[nH fun v hv=>(G_.mp nd).1 (List.of_mem_zip hv).1,e_ hk];simp
 |p::P,w::vs,i+1,m,nd,h1,h2,hk=>by show bindL kindOf ((p,w)::P.zip vs) m x=_;unfold bindL;exact nK (i:=i) (G_.mp nd).2 (by simpa using h1) (by simpa using h2) hk
theorem nL {kindOf:Str->Option NameKind}{x:Str}{v:Ψ}:∀ {P:List Str}{vs:List Ψ}{i:Nat}{m:Str->Option Ψ},P.Nodup->P[i]? = Δ x->vs[i]? = Δ v->kindOf x≠Δ .local->
  bindC kindOf (P.zip vs) m x=Δ v
 |[],_,_,_,_,h,_,_=>by simp at h
 |_::_,[],_,_,_,_,h,_=>by simp at h
 |p::P,w::vs,0,m,nd,h1,h2,hk=>by simp at h1 h2;subst h1;subst h2;show bindC kindOf ((p,w)::P.zip vs) m p=_;unfold bindC;rw[nJ fun v hv=>(G_.mp nd).1 (List.of_mem_zip hv).1,d_ hk];simp
 |p::P,w::vs,i+1,m,nd,h1,h2,hk=>by show bindC kindOf ((p,w)::P.zip vs) m x=_;unfold bindC;exact nL (i:=i) (G_.mp nd).2 (by simpa using h1) (by simpa using h2) hk
noncomputable def start (N:List Str)(vs:List V):St:=vs.map Δ++Τ (N.length - vs.length) Φ
noncomputable def vj (CX:KD)(P:Ε)(w:Β)(K:Frag)(mg:Str->Option Ψ)(base:Heap)(N:List Str)(qual:Str)(scope:Scope)(f:Ω)(cd:Ψ)(A:Ι)(outer:List Env)(s:Α)(H:Hp)(E:XK):Cx where
 prog:=P
 w:=w
 K:=K
 mg:=mg
 base:=base
 A:=A.deeper (envOfC qual scope s.heap.objs.size f cd)
 N:=N
 JP:=s
 MN:=H
 env:=envOfC qual scope s.heap.objs.size f cd
 outer:=outer
 stack:=envOfC qual scope s.heap.objs.size f cd::outer
 ex:=[]
 calm:=A.handled.isNone
 fn:=fun _=>Θ
 pn:=[]
 xe:=fun e s'=>Κ (Μ P w) (A.deeper (envOfC qual scope s.heap.objs.size f cd)) (leaving (envOfC qual scope s.heap.objs.size f cd) e) (fun _ Nd=>CX outer H s E e Nd) (fun e' Nd=>CX outer H s E e' Nd) s'
theorem pR {sc:Scope}{n:Nat}{x:Str}(h:sc.names.lookup x=Δ .cell):∃c,(cellsFrom n sc.names []).lookup x=Δ c:=by have q:=PySem.W.cellsFrom_some sc.names n [] (.inl h);exact Option.isSome_iff_exists.mp q
theorem t6 {CX:KD}{P:Ε}{w:Β}{K:Frag}{mg:Str->Option Ψ}{base:Heap}{N ps:List Str}{qual:Str}{scope:Scope}{f:Ω}{cd:Ψ}{A:Ι}{outer:List Env}{s s1:Α}{H:Hp}{E:XK}{us:List Ψ}{vs:List V}
  (S:LB N ps scope) (e0:MP P w K mg base A outer s H) (hl:vs.length=ps.length) (r:Vals vs us)
  (x:InCallC s s.heap.objs.size (bindL (envOfC qual scope s.heap.objs.size f cd).kindOf (ps.zip us) fun _=>Φ) (cellsFrom (s.heap.objs.size+1) scope.names []) (bindC (envOfC qual scope s.heap.objs.size f cd).kindOf (ps.zip us) fun _=>Φ) s1) :
  Inv (vj CX P w K mg base N qual scope f cd A outer s H E) [] (start N vs) H s1:=by
 have OX:ps.length<=N.length:=by have:=congrArg List.length S.pre;rw[aak]at this;omega
 obtain⟨h1,tk,rfl,hk⟩:=x.done;have QG:∀b:Ω,b∉(vj CX P w K mg base N qual scope f cd A outer s H E).ex:=fun b z=>absurd (show b∈([]:List Ω) from z) (by simp)
 refine⟨⟨e0.mod,S.kind,rfl,rfl,l_ _,fun y z c h1 h2=>?_,fun y hy=>?_,fun y c _ h=>?_,fun h=>Option.isNone_iff_eq_none.mp h,Around.frames_deeper e0.frames,.inr ⟨rfl,rfl⟩,fun b z=>absurd z (QG b),e0.bs,e0.NR,fun b _ _=>QG b,fun b z=>absurd z (QG b),e0.KU,e0.ND⟩,
  rfl,e0.bare,Un.kept hk,⟨_,x.toInCall.ns,fun i y v h1 h2 h3=>?_⟩,fun y c h=>⟨_,x.cell y c h⟩,e0.Jq.fresh (l_ _),fun y c h=>?_,fun p hp=>absurd (show p∈([]:List (Ω×Obj)) from hp) (by simp),e0.Jq.kept hk,?_⟩
 ·exact name_of_addr x.apart (PySem.mem_of_lookup h1) (PySem.mem_of_lookup h2)
 ·have hy:scope.names.lookup y=Δ .cell∨scope.names.lookup y=Δ .free:=hy;rcases hy with hy|hy
  ·exact pR hy
  ·exact absurd rfl (S.OW _ (PySem.mem_of_lookup hy))
 ·exact Nat.le_of_lt (x.above y c (PySem.mem_of_lookup h))
 ·have hi:i < vs.length:=by
   unfold start at h2;by_cases hi:i < vs.length
   ·exact hi
   ·rw[List.getElem?_append_right (by simpa using hi)]at h2;rw[List.getElem?_replicate]at h2;split at h2<;>cases h2
  have ha:vs[i]? = Δ v:=by
   unfold start at h2;rw[aar (by simpa using hi),L_]at h2;cases e:vs[i]? with
   |none=>rw[e]at h2;cases h2
   |some a=>rw[e]at h2;cases h2;rfl
  obtain⟨u,hu,rv⟩:=r.get ha;have hp:ps[i]? = Δ y:=by rw[<- S.pre,List.getElem?_take_of_lt (by omega)];exact h1
  have VF:ps.Nodup:=by rw[<- S.pre];exact S.nd.sublist (List.take_sublist _ _)
  refine⟨u,rv,?_⟩;rcases S.par y (aao hp) with k|k
  ·exact .inl ⟨k,nK VF hp hu k⟩
  ·obtain⟨c,e⟩:=pR (n:=s.heap.objs.size+1) k;refine .inr ⟨.inl k,c,e,?_⟩;have q:=x.cell y c e;rw[nL VF hp hu (by show scope.names.lookup y≠_;rw[k];decide)]at q;exact q
 ·exact e0.Jq.fresh (Nat.le_of_lt (x.above y c (PySem.mem_of_lookup h)))
 ·unfold start;show _=N.length;rw[g_,i_,List.length_replicate];omega
theorem EI {CX:KD}{P:Ε}{w:Β}{K:Frag}{mg:Str->Option Ψ}{base:Heap}{k:Nat}{f:Ω}{name qual:Str}{params:Arguments}{body:List Stmt}{scope:Scope}{dV kV doc pm Lx ct oc:Ψ}{an od:Option Ω}
  {Oz:Array (Option Ψ)}{N ps:List Str}{sp:Sp} (lk:K.lookup f=Δ ⟨oc,od,.func (PySem.W.fnOf name qual params body scope dV kV doc pm an Lx ct),Oz⟩) (NV:PySem.W.codeIn K Lx qual=Θ) (S:LB N ps scope)
  (Xf:k % 1000≠999) (len:∀vs H Q E,sp vs H Q E->vs.length=ps.length)
  (QH:∀(A:Ι) (outer:List Env) (s:Α) (H:Hp) (vs:List V) (Q:VK) (E:XK),Kp k (A.deeper (envOfC qual scope s.heap.objs.size f Lx))->sp vs H Q E->
   ∃t,Mz (vj CX P w K mg base N qual scope f Lx A outer s H E) body t/\t {nx:=fun _ H'=>Q .Iw H',rt:=Q} (start N vs) H) :
  K7 P w K mg base CX (k+1) f (PySem.W.fnOf name qual params body scope dV kV doc pm an Lx ct) ps sp:=by
 refine⟨len,fun A outer s H args us vs Q E hr e0 hb r M5=>?_⟩;have hl:=len _ _ _ _ M5;have KX:K.In s.heap:=e0.mod.R4.keeps fun b o e=>(e0.bs b o e).1;have lim:s.heap.NoLimit:=e0.mod.nolimit.keeps fun b o e=>(e0.bs b o e).1;have QI:∀y∈ps.zip us,scope.names.lookup y.1=Δ .local∨(scope.names.lookup y.1=Δ .cell/\((cellsFrom (s.heap.objs.size+1) scope.names []).lookup y.1).isSome=Θ):=fun⟨n,v⟩ hy=>by
  rcases S.par n (List.of_mem_zip hy).1 with q|q
  ·exact .inl q
  ·exact .inr ⟨q,PySem.W.cellsFrom_some _ _ _ (.inl q)⟩
 refine codeAny_call_function hr.depth (KX _ _ lk) rfl S.co S.gen rfl (PySem.W.codeRec_of KX NV) (hb _ _ _ _ ?_);refine wpAny_newFunctionEnv_cells S.kind QI fun env he s1 x=>?_;subst he;refine⟨lim.keeps x.toInCall.keep,codeAny_func ?_⟩;obtain⟨t,ht,hq⟩:=QH A outer s H vs Q E (hr.deeper _ Xf) M5;have I:Inv (vj CX P w K mg base N qual scope f Lx A outer s H E) [] (start N vs) H s1:=t6 S e0 hl r x;refine wpAny_mono (ht [] s1 (start N vs) H _ I hq) (fun fl s' hs=>?_) fun e s' hs=>hs;have fin:∀ {Jp:St}{H':Hp}{v:V}{u:Ψ},Inv (vj CX P w K mg base N qual scope f Lx A outer s H E) [] Jp H' s'->RelV v u->Q v H'->CE outer P w H s Q u s':=
  fun {Jp H' v u} J rv q=>⟨v,H',J.os,J.bare,J.base,J.Jq,rv,q⟩
 cases fl with
 |ret u=>obtain⟨v,Jp,H',J,rv,q⟩:=hs;exact fin J rv q
 |next=>obtain⟨Jp,H',J,q⟩:=hs;exact fin (v:=V.Iw) (u:=Value.none) J rfl q
 |brk=>obtain⟨_,_,_,q⟩:=hs;exact False.elim q
 |cont=>obtain⟨_,_,_,q⟩:=hs;exact False.elim q
section
variable {X:Cx}{x:Str}{p pos:Pos}{e:Expr}{es:List Expr}{t:TA}{id T:String}{r:List V->Hp->VK->Prop}
def Tp (r:List V->Hp->VK->Prop)(t:TA):TE:=fun σ H Q=>t σ H fun vs H1=>r vs H1 Q
theorem me (hc:iD X (.builtin id) r)(hg:Gl X x)(hm:X.mg x=Φ)(hv:bootBuiltins x=Δ (.builtin id))(ha:PA X (e::es) t)(hn:x≠"__name__":=by decide) (Tq:(x == ("__debug__" : Str))=Ξ:=by decide)
  (he:Ν (e::es) X.env=(Ξ,eval e X.env)::Ν es X.env:=by rfl) (OX:(backTo pos (Ν es X.env)).any (·.1)=Ξ:=by rfl):PE X (.Call (.Name x p) (e::es) [] pos) (Tp r t):=by
 intro pins s σ H Q I h;refine wpAny_Call_Name_kw (jI I hg hm hv ?_ hn Tq);exact PyProof.Rows.callWith_builtin1 (Jr (ha pos pins s σ H _ I h) fun us s1 ⟨vs,H1,I1,r1,q1⟩=>hc pins s1 σ H1 vs us Q I1 r1 q1) he OX
theorem kW (hc:iD X (.type T) r)(hg:Gl X x)(hm:X.mg x=Φ)(hv:bootBuiltins x=Δ (.type T))(ha:PA X (e::es) t)(hn:x≠"__name__":=by decide) (Tq:(x == ("__debug__" : Str))=Ξ:=by decide)
  (he:Ν (e::es) X.env=(Ξ,eval e X.env)::Ν es X.env:=by rfl) (OX:(backTo pos (Ν es X.env)).any (·.1)=Ξ:=by rfl):PE X (.Call (.Name x p) (e::es) [] pos) (Tp r t):=by
 intro pins s σ H Q I h;refine wpAny_Call_Name_kw (jI I hg hm hv ?_ hn Tq);exact PyProof.Rows.callWith_type1 (Jr (ha pos pins s σ H _ I h) fun us s1 ⟨vs,H1,I1,r1,q1⟩=>hc pins s1 σ H1 vs us Q I1 r1 q1) he OX
end
end L2
namespace HT
open PySem PyProof.Rows
section
variable {prog:Ε}{w:Β}{A:Ι}{E:Ψ->Α->Prop}{s:Α}
noncomputable def Kh (n d:Nat):Option Int->Nat
 |none=>d
 |some v=>if v < 0 then(v+(n:Int)).toNat else min v.toNat n
theorem MB (n d k:Nat):Kh n d (Δ (k:Int))=min k n:=by show(if(k:Int) < 0 then((k:Int)+(n:Int)).toNat else min (k:Int).toNat n)=min k n;rw[d_ (by omega),Int.toNat_natCast]
end
end HT
namespace L2
open PySem PySem.Spec PyProof.Rows
abbrev TO:=St->Hp->(Option Int->Hp->Prop)->Prop
def PO (X:Cx)(e:Option Expr)(t:TO):Prop:=
 ∀(pins:List (Ω×Obj)) (s:Α) (σ:St) (H:Hp) (Q:Option Int->Hp->Prop),Inv X pins σ H s->t σ H Q->
  Κ (Μ X.prog X.w) X.A (evalPart e X.env) (fun u s'=>∃o H',Inv X pins σ H' s'/\IsPart u o/\Q o H') X.xe s
def y3:TO:=fun _ H Q=>Q Φ H
def EJ (t:TE):TO:=fun σ H Q=>t σ H fun x H1=>∃i,x=.int i/\Q (Δ i) H1
theorem intsAre_of {ns:List Int}:∀ {us:List Ψ},Vals (ns.map V.int) us->IntsAre us ns:=by
 induction ns with
 |nil=>intro us r;rw[List.map_nil]at r;cases r;exact .nil
 |cons n ns ih=>
  intro us r;rw[b_]at r;cases r with
  |cons r1 r2=>obtain⟨t,e⟩:=r1;subst e;exact .cons n t (ih r2)
section
variable {X:Cx}{e:Expr}{te:TE}{lo hi:Option Expr}{tl th:TO}{pos p2:Pos}
theorem y4:PO X Φ y3:=by intro pins s σ H Q I h;rw[evalPart_none];exact f_ ⟨Φ,H,I,.none,h⟩
theorem za (h:PE X e te):PO X (Δ e) (EJ te):=by intro pins s σ H Q I hw;rw[evalPart_some];refine Jr (h pins s σ H _ I hw) fun u s1 ⟨x,H1,I1,r1,q1⟩=>?_;obtain⟨i,rfl,q⟩:=q1;obtain⟨t,rfl⟩:=r1;exact⟨Δ i,H1,I1,.int i t,q⟩
def Sd (X:Cx)(r:V->Option Int->Option Int->Hp->VK->Prop):Prop:=
 ∀(pins:List (Ω×Obj)) (s:Α) (σ:St) (H:Hp) (x:V) (v vl vu:Ψ) (lo hi:Option Int) (sl:Ω) (Q:VK),Inv X pins σ H s->RelV x v->s.heap.IsSliceOf sl vl vu .none->IsPart vl lo->IsPart vu hi->r x lo hi H Q->
  ∃T id,typeLookup (.type T) "__getitem__" = pure (Δ (.builtin id))/\s.TypeIs v T/\Κ (Μ X.prog X.w) X.A (getItem v (.ref sl)) (EP X pins σ Q) X.xe s
def Xg (r:V->Option Int->Option Int->Hp->VK->Prop)(te:TE)(tl th:TO):TE:=fun σ H Q=>te σ H fun x H1=>tl σ H1 fun l H2=>th σ H2 fun u H3=>r x l u H3 Q
theorem pT {r:V->Option Int->Option Int->Hp->VK->Prop}(hr:Sd X r)(he:PE X e te)(hl:PO X lo tl)(hu:PO X hi th):PE X (.Subscript e (.Slice lo hi Φ p2) pos) (Xg r te tl th):=by intro pins s σ H Q I h;refine Subscript_ (Jr (he pins s σ H _ I h) fun v s1 ⟨x,H1,I1,r1,q1⟩=>?_);refine wpAny_Slice (Jr (hl pins s1 σ H1 _ I1 q1) fun vl s2 ⟨l,H2,I2,pl,q2⟩=>Jr (hu pins s2 σ H2 _ I2 q2) fun vu s3 ⟨u,H3,I3,pu,q3⟩=>?_);rw[evalPart_none];refine f_ ?_;have I4:Inv X pins σ H3 {s3 with heap:=s3.heap.push {cls:=.type "slice",data:=.fields #[vl,vu,.none]}}:=I3.kept (t':=s3.toks) fun b ob q=>n_ _ q;obtain⟨T,id,hT,ht,hg⟩:=hr pins {s3 with heap:=s3.heap.push {cls:=.type "slice",data:=.fields #[vl,vu,.none]}} σ H3 x v vl vu l u s3.heap.objs.size Q I4 r1 (Heap.IsSliceOf.new ..) pl pu q3;show Κ (Μ X.prog X.w) X.A (subscriptTail e (.Slice lo hi Φ p2) v (.ref s3.heap.objs.size)) (EP X pins σ Q) X.xe {s3 with heap:=s3.heap.push {cls:=.type "slice",data:=.fields #[vl,vu,.none]}};exact tail_any (ops:=[.ref s3.heap.objs.size,v]) ht hT hg (by with_unfolding_all rfl)
noncomputable def t7 (xs:List V)(lo hi:Option Int):List V:=(xs.drop (HT.Kh xs.length 0 lo)).take (HT.Kh xs.length xs.length hi - HT.Kh xs.length 0 lo)
theorem pU (xs:List V)(lo hi:Option Int):(t7 xs lo hi).length<=xs.length:=by unfold t7;rw[aak,aap];omega
end
noncomputable def OY (n:Nat)(i:Int):Option Nat:=if 0<=i then(if i < n then Δ i.toNat else Φ) else if -(n:Int)<=i then Δ (i+n).toNat else Φ
noncomputable def Kj {α:Type}(xs:List α)(i:Int):Option α:=(OY xs.length i).bind fun j=>xs[j]?
theorem zb {n:Nat}{i:Int}{j:Nat}(h:OY n i=Δ j):seqIndex? i n=Δ j/\j < n/\-(n:Int)<=i/\i < n:=by
 unfold OY at h;by_cases h0:0<=i
 ·rw[e_ h0]at h;by_cases h1:i < n
  ·rw[e_ h1]at h;have e:i.toNat=j:=K_ h;exact⟨by rw[seqIndex_of h0 h1,e],by omega,by omega,h1⟩
  ·rw[d_ h1]at h;cases h
 ·rw[d_ h0]at h;by_cases h1 : -(n:Int)<=i
  ·rw[e_ h1]at h;have e:(i+n).toNat=j:=K_ h;exact⟨by rw[seqIndex_neg (by omega) h1,e],by omega,h1,by omega⟩
  ·rw[d_ h1]at h;cases h
theorem om {α:Type}{xs:List α}{i:Int}{v:α}(h:Kj xs i=Δ v):∃j,seqIndex? i xs.length=Δ j/\xs[j]? = Δ v/\j < xs.length/\-(xs.length:Int)<=i/\i < xs.length:=by
 unfold Kj at h;cases e:OY xs.length i with
 |none=>rw[e]at h;cases h
 |some j=>rw[e]at h;obtain⟨h1,h2,h3,h4⟩:=zb e;exact⟨j,h1,h,h2,h3,h4⟩
def zd (b:Expr):Prop:=∀o i,subscripted b Ξ o i=operate [o,i] (getItem o i)
def NF (X:Cx)(r:R2):Prop:=
 ∀(value slice:Expr) (pins:List (Ω×Obj)) (s:Α) (σ:St) (H:Hp) (x y:V) (v u:Ψ) (Q:VK),Inv X pins σ H s->RelV x v->RelV y u->r x y H Q->
  subscripted slice Ξ v u=operate [v,u] (getItem v u)->Κ (Μ X.prog X.w) X.A (subscriptTail value slice v u) (EP X pins σ Q) X.xe s
def VG (X:Cx)(id:String)(r:V->List V->Hp->VK->Prop):Prop:=
 ∀(pins:List (Ω×Obj)) (s:Α) (σ:St) (H:Hp) (x:V) (xs:List V) (v:Ψ) (us:List Ψ) (Q:VK),Inv X pins σ H s->RelV x v->Vals xs us->r x xs H Q->
  Κ (Μ X.prog X.w) X.A (call (.builtin id) (v::us)) (EP X pins σ Q) X.xe s
section
variable {X:Cx}{a b:Expr}{ta tb:TE}{pos:Pos}
theorem NF.or {r r':R2}(h:NF X r)(h':NF X r'):NF X (fun x y H Q=>r x y H Q∨r' x y H Q):=by
 intro value slice pins s σ H x y v u Q I rx ry q hs;rcases q with q|q
 ·exact h value slice pins s σ H x y v u Q I rx ry q hs
 ·exact h' value slice pins s σ H x y v u Q I rx ry q hs
theorem EK {r:R2}(hr:NF X r)(ha:PE X a ta)(hb:PE X b tb)(hs:zd b):PE X (.Subscript a b pos) (Sa r ta tb):=by intro pins s σ H Q I h;exact Subscript_ (Cd ha hb I h fun v u s2 x y H2 I2 rx ry q=>hr a b pins s2 σ H2 x y v u Q I2 rx ry q (hs _ _))
def EL (K:Frag):R2:=fun x y H Q=>∃p xs i v,x=.ref p/\y=.int i/\JX K H p xs/\Kj xs i=Δ v/\Q v H
def EM (K:Frag):R2:=fun x y H Q=>∃p xs i v,x=.ref p/\y=.int i/\JC K H p xs/\Kj xs i=Δ v/\Q v H
def EN:R2:=fun x y H Q=>∃z i c,x=.str z/\y=.int i/\z.length<=Ζ/\Kj z.cps.toList i=Δ c/\Q (.str ⟨#[c]⟩) H
theorem ze:NF X (EL X.K):=by
 intro value slice pins s σ H x y v u Q I rx ry h hs;obtain⟨p,xs,i,z,rfl,rfl,hq,he,q⟩:=h;cases rx;obtain⟨t,rfl⟩:=ry;obtain⟨its,r,pl,hz⟩:=I.list hq;obtain⟨j,h1,h2,h3,h4,h5⟩:=om he;obtain⟨w,ew,NX⟩:=r.get h2;have hl:=r.length;have hn:=ki;have fin:EP X pins σ Q w s:=⟨z,H,I,NX,q⟩
 by_cases h0:0<=i
 ·have hj:i.toNat=j:=by rw[seqIndex_of h0 h5]at h1;exact K_ h1
  exact item_listR pl.isList h0 (by omega) (by rw[hj];simpa using ew) fin hs
 ·have hj:(i+(its.toArray.size:Int)).toNat=j:=by rw[seqIndex_neg (by omega) h4]at h1;rw[D_,<- hl];exact K_ h1
  exact subscriptTail_builtinR (x:=w) pl.isList.typeIs slot_list_getitem.lookup
   (wpAny_getItem_list_neg (Q:=fun r s'=>r=w/\EP X pins σ Q r s') pl.isList (by omega) (by rw[D_]<;>omega) (by omega) (by rw[hj];simpa using ew) ⟨rfl,fin⟩) hs
theorem Cp:NF X (EM X.K):=by
 intro value slice pins s σ H x y v u Q I rx ry h hs;obtain⟨p,xs,i,z,rfl,rfl,hq,he,q⟩:=h;cases rx;obtain⟨t,rfl⟩:=ry;obtain⟨its,r,pl,hz⟩:=I.tuple hq;obtain⟨j,h1,h2,h3,h4,h5⟩:=om he;obtain⟨w,ew,NX⟩:=r.get h2;have hl:=r.length;have hn:=ki;have fin:EP X pins σ Q w s:=⟨z,H,I,NX,q⟩
 exact subscriptTail_builtinR (x:=w) pl.typeIs slot_tuple_getitem.lookup
  (getItem_tuple (j:=j) (Q:=fun r s'=>r=w/\EP X pins σ Q r s') pl (by omega) (by omega) (by rw[D_,<- hl];exact h1) (by simpa using ew) ⟨rfl,fin⟩) hs
theorem Cq:NF X EN:=by
 intro value slice pins s σ H x y v u Q I rx ry h hs;obtain⟨z,i,c,rfl,rfl,hz,he,q⟩:=h;obtain⟨t,rfl⟩:=rx;obtain⟨t',rfl⟩:=ry;obtain⟨j,h1,h2,h3,h4,h5⟩:=om he;have hl:z.cps.toList.length=z.length:=by simp[Str.length]
 rw[hl]at h1 h4 h5;have hn:=ki
 exact tail_any (typeIs_str s z t) slot_str_getitem.lookup (getItem_str (c:=c) (by
  have e1:decide (i < -(2 ^ 63:Int))=Ξ:=H_ (by omega);have e2:decide (i >= 2 ^ 63)=Ξ:=H_ (by omega)
  rw[e1,e2,Bool.or_false]) (by rw[h1];simpa using h2) ⟨.str ⟨#[c]⟩,H,I.tok _,⟨_,rfl⟩,q⟩) hs
def Xh (K:Frag):R2:=fun x y H Q=>EL K x y H Q∨EM K x y H Q∨EN x y H Q
theorem Cr:NF X (Xh X.K):=ze.or (Cp.or Cq)
theorem oo (lo hi:Option Int)(n:Nat):(sliceBounds lo hi Φ n).1=((HT.Kh n 0 lo:Nat):Int)/\(sliceBounds lo hi Φ n).2.1=((HT.Kh n n hi:Nat):Int)/\(sliceBounds lo hi Φ n).2.2=1:=by
 refine⟨?_,?_,rfl⟩
 ·cases lo with
  |none=>simp[sliceBounds,HT.Kh]
  |some i=>
   simp only[sliceBounds,HT.Kh,Option.getD_none,show(1:Int) > 0 by decide,if_true];by_cases h:i < 0
   ·simp only[h,if_true]<;>omega
   ·simp only[h,if_false]<;>omega
 ·cases hi with
  |none=>simp[sliceBounds,HT.Kh]
  |some i=>
   simp only[sliceBounds,HT.Kh,Option.getD_none,show(1:Int) > 0 by decide,if_true];by_cases h:i < 0
   ·simp only[h,if_true]<;>omega
   ·simp only[h,if_false]<;>omega
theorem ni (its:List Ψ)(lo hi:Option Int):slicePick its.toArray lo hi Φ=((its.drop (HT.Kh its.length 0 lo)).take (HT.Kh its.length its.length hi - HT.Kh its.length 0 lo)).toArray:=by obtain⟨h1,h2,h3⟩:=oo lo hi its.toArray.size;unfold slicePick;rw[h1,h2,h3];simp only[sliceRange_one,pick_run,D_]<;>rfl
def Hu (K:Frag):V->Option Int->Option Int->Hp->VK->Prop:=fun x lo hi H Q=>∃a xs,x=.ref a/\JX K H a xs/\∀p,H p=Φ->Q (.ref p) (upd H p (.lst (t7 xs lo hi)))
theorem si:Sd X (Hu X.K):=by intro pins s σ H x v vl vu lo hi sl Q I rx hs pl pu h;obtain⟨a,xs,rfl,hx,q⟩:=h;cases rx;obtain⟨its,r,ht,hz⟩:=I.list hx;have hlen:=r.length;refine⟨"list",_,slot_list_getitem.lookup,ht.isList.typeIs,?_⟩;refine wpAny_getItem_list_slice ht.isList hs pl pu .none (by simp) ?_ (by rw[D_]<;>omega);rw[ni,<- hlen];refine⟨.ref s.heap.objs.size,_,I.laid (t':=s.toks) (o:=.lst (t7 xs lo hi)) (fun b ob q=>n_ _ q) (l_ _) ?_,rfl,q _ (I.Jq.fresh (l_ _))⟩;exact⟨S_ (pU xs lo hi) hz,_,0,(r.drop (HT.Kh xs.length 0 lo)).take (HT.Kh xs.length xs.length hi - HT.Kh xs.length 0 lo),A_ _ rfl⟩
theorem jK:iD X (.type "list") (fun xs H Q=>∃p ys,xs=[.ref p]/\(JX X.K H p ys∨JC X.K H p ys)/\∀l,H l=Φ->Q (.ref l) (upd H l (.lst ys))):=by
 intro pins s σ H xs us Q I r h;obtain⟨p,ys,rfl,hq,q⟩:=h;obtain⟨u,rfl,rx⟩:=vals1 r;cases rx;have fin:∀(its:List Ψ),Vals ys its->ys.length<=Ζ->∀(h':Heap) (c':Nat),(∀b o',s.heap.get? b=Δ o'->h'.get? b=Δ o')->
   h'.get? s.heap.objs.size=Δ {cls:=.type "list",dict:=Φ,data:=.seq its.toArray c',slots:=#[]}->EP X pins σ Q (.ref s.heap.objs.size) {s with heap:=h'}:=fun its r' hz h' c' kp e=>
  ⟨.ref s.heap.objs.size,_,I.laid (t':=s.toks) kp (l_ _) (show hU X.prog X.w _ h' _ (.lst ys) from⟨hz,its,c',r',e⟩),rfl,q _ (I.Jq.fresh (l_ _))⟩
 rcases hq with hq|hq
 ·obtain⟨its,r',pl,hz⟩:=I.list hq;have hlen:=r'.length;obtain⟨o,ho,hc,n,hd⟩:=pl.isList;exact call_list_seq p (.inl rfl) ho hc hd (fun h' c' kp e=>fin its r' hz h' c' kp e) (by simp only[D_]<;>omega)
 ·obtain⟨its,r',pl,hz⟩:=I.tuple hq;have hlen:=r'.length;obtain⟨o,ho,hc,n,hd⟩:=pl;exact call_list_seq p (.inr rfl) ho hc hd (fun h' c' kp e=>fin its r' hz h' c' kp e) (by simp only[D_]<;>omega)
theorem nj:iD X (.type "tuple") (fun xs H Q=>∃p ys,xs=[.ref p]/\((JX X.K H p ys/\∀l,H l=Φ->Q (.ref l) (upd H l (.tup ys)))∨(JC X.K H p ys/\Q (.ref p) H))):=by
 intro pins s σ H xs us Q I r h;obtain⟨p,ys,rfl,h⟩:=h;obtain⟨u,rfl,rx⟩:=vals1 r;cases rx;rcases h with⟨hq,q⟩|⟨hq,q⟩
 ·obtain⟨its,r',pl,hz⟩:=I.list hq;have hlen:=r'.length;refine call_tuple_list pl.isList (fun h' kp=>?_) (by simp only[D_]<;>omega);have I1:Inv X pins σ H {s with heap:=h'}:=I.kept (t':=s.toks) kp;have I2:Inv X pins σ (upd H h'.objs.size (.tup ys)) {s with heap:=h'.push {cls:=.type "tuple",data:=.seq its.toArray}}:=
   I1.laid (t':=s.toks) (fun b o e=>n_ _ e) (l_ _) (show hU X.prog X.w _ _ _ (.tup ys) from⟨hz,its,r',IsTup.new _ _⟩)
  exact⟨.ref h'.objs.size,_,I2,rfl,q _ (I1.Jq.fresh (l_ _))⟩
 ·obtain⟨its,r',pl,hz⟩:=I.tuple hq;exact call_tuple_same pl ⟨.ref p,H,I,rfl,q⟩
def VH (K:Frag)(T:String)(x:V)(H:Hp):Prop:=match x with
 |.str _=>T = "str"
 |.int _=>T = "int"
 |.ref p=>(T = "list"/\∃xs,JX K H p xs)∨(T = "tuple"/\∃o,K.lookup p=Δ o/\o.cls=.type "tuple"/\o.dict=Φ)∨
   (T = "dict"/\((∃kvs,H p=Δ (.dK kvs))∨∃kvs,H p=Δ (.dT kvs)))∨(T = "set"/\∃S n,H p=Δ (.set S n))
 |_=>False
theorem Cs {pins:List (Ω×Obj)}{σ:St}{H:Hp}{s:Α}{T:String}{x:V}{v:Ψ}(I:Inv X pins σ H s)(r:RelV x v)(ty:VH X.K T x H) :
  s.TypeIs v T/\∀a,v=.ref a->∃ob,s.heap.get? a=Δ ob/\ob.dict=Φ:=by
 cases x with
 |str z=>obtain⟨t,rfl⟩:=r;cases(show T = "str" from ty);exact⟨typeIs_str s z t,fun _ e=>nomatch e⟩
 |int i=>obtain⟨t,rfl⟩:=r;cases(show T = "int" from ty);exact⟨typeIs_int s i t,fun _ e=>nomatch e⟩
 |ref p=>
  cases r;rcases ty with⟨rfl,xs,hq⟩|⟨rfl,o,hk,hc,hd⟩|⟨rfl,hk⟩|⟨rfl,S,n,hk⟩
  ·obtain⟨its,_,pl,_⟩:=I.list hq;refine⟨pl.isList.typeIs,fun a e=>?_⟩;cases e;obtain⟨o,n,e,c,hd,_⟩:=pl;exact⟨o,e,hd⟩
  ·refine⟨⟨o,I.LR p o hk,hc⟩,fun a e=>?_⟩;cases e;exact⟨o,I.LR _ o hk,hd⟩
  ·have z:∃o,s.heap.get? p=Δ o/\o.ExactDict:=by
    rcases hk with⟨kvs,hk⟩|⟨kvs,hk⟩
    ·obtain⟨_,_,_,_,o,_,_,e,ex,_⟩:=I.Jq p _ hk;exact⟨o,e,ex⟩
    ·obtain⟨_,_,_,_,o,_,_,e,ex,_⟩:=I.Jq p _ hk;exact⟨o,e,ex⟩
   obtain⟨o,e,ex⟩:=z;refine⟨⟨o,e,ex.1⟩,fun a e2=>?_⟩;cases e2;exact⟨o,e,ex.2.1⟩
  ·obtain⟨o,_,_,_,e,ex,_⟩:=I.Jq p _ hk;refine⟨⟨o,e,ex.1⟩,fun a e2=>?_⟩;cases e2;exact⟨o,e,ex.2.1⟩
 |_=>exact False.elim ty
def VI (K:Frag)(T:String)(r:V->List V->Hp->VK->Prop)(to:TE)(t:TA):TE:=fun σ H Q=>to σ H fun x H1=>VH K T x H1/\t σ H1 fun xs H2=>r x xs H2 Q
variable {o e:Expr}{es:List Expr}{to:TE}{t:TA}{name:Str}{apos Jm:Pos}{T id:String}{r:V->List V->Hp->VK->Prop}
theorem nM (pa:PlainAttrs T)(slot:Slot T name id)(P6:typeOf (.builtin id)=pure (.type "method_descriptor")) (hm:VG X id r) (ho:PE X o to) (ha:PA X (e::es) t)
  (LV:attributeBase o name X.env (eval o X.env)=eval o X.env:=by rfl)
  (K8:((backTo Jm (Ν (e::es) X.env)).all (fun x=>!x.1)&&(backToKw Jm (keywordEach [] X.env)).all (fun x=>x.1.isSome)
  &&decide ((e::es).length+([]:List Keyword).length+(if([]:List Keyword).isEmpty then 0 else 1) < 30))=Θ:=by rfl)
  (QJ:(apos.endLine == Jm.line)=Θ:=by rfl) (hs:Ν (e::es) X.env=(Ξ,eval e X.env)::Ν es X.env:=by rfl) (OZ:(backTo Jm (Ν es X.env)).any (·.1)=Ξ:=by rfl) :
  PE X (.Call (.Attribute o name apos) (e::es) [] Jm) (VI X.K T r to t):=by
 intro pins s σ H Q I h;refine wpAny_Call_method_late LV K8 QJ rfl (Jr (ho pins s σ H _ I h) fun v s1 ⟨x,H1,I1,r1,ty,q1⟩=>?_);obtain⟨h1,h2⟩:=Cs I1 r1 ty;refine⟨T,id,pa,slot,P6,h1,h2,?_⟩;have hA:=ha Jm pins s1 σ H1 _ I1 q1;rw[hs]at hA ⊢;refine Calls.callWith_builtin (by show(Ξ||(backTo Jm (Ν es X.env)).any (·.1))=Ξ;rw[OZ]<;>rfl) (Calls.evalArgs_plain ?_);exact Jr hA fun us s2 ⟨vs,H2,I2,r2,q2⟩=>hm pins s2 σ H2 x vs v us Q I2 r1 r2 q2
end
def Tr (X:Cx)(id:String)(r:V->List V->Hp->VK->Prop):Prop:=
 ∀(pins:List (Ω×Obj)) (s:Α) (σ:St) (H:Hp) (x:V) (xs:List V) (v:Ψ) (us:List Ψ) (Q:VK),Inv X pins σ H s->RelV x v->Vals xs us->r x xs H Q->
  Κ (Μ X.prog X.w) X.A (call (.builtin id) (v::us)) (EP X pins σ Q) X.xe s
theorem Vals.one:∀ {x:V}{us:List Ψ},Vals [x] us->∃u,us=[u]/\RelV x u
 |_,_,.cons r .nil=>⟨_,rfl,r⟩
theorem Vals.rep {xs:List V}{us:List Ψ}(h:Vals xs us):∀k:Nat,Vals (Τ k xs).flatten (Τ k us).flatten
 |0=>.nil
 |k+1=>by rw[List.replicate_succ,List.replicate_succ,List.flatten_cons,List.flatten_cons];exact Vals.append h (Vals.rep h k)
theorem foldl_rep (its:List Ψ):∀(k:Nat) (acc:List Ψ),
  List.foldl (fun x1 x2=>x1++x2) acc.toArray (Τ k its.toArray)=(acc++(Τ k its).flatten).toArray
 |0,acc=>by simp
 |k+1,acc=>by
  have e:acc.toArray++its.toArray=(acc++its).toArray:=by simp
  have e2:(acc++its)++(Τ k its).flatten=acc++(Τ (k+1) its).flatten:=by rw[List.replicate_succ,List.flatten_cons,r_]
  rw[<- e2,<- foldl_rep its k (acc++its),<- e,List.replicate_succ,List.foldl_cons]
section
variable {X:Cx}{pins:List (Ω×Obj)}{σ:St}{H:Hp}{s:Α}{l b:Ω}{xs ys zs:List V}
theorem Inv.O0 {its its':List Ψ}{n:Nat}{f:Array Ψ->Array Ψ}{t':Nat}(I:Inv X pins σ H s)(hH:H l=Δ (.lst xs))
  (e:s.heap.get? l=Δ {cls:=.type "list",data:=.seq its.toArray n}) (hf:f its.toArray=its'.toArray) (hv:Vals ys its') (hz:ys.length<=Ζ) :
  Inv X pins σ (upd H l (.lst ys)) {s with heap:=s.heap.update l (ι f),toks:=t'}:=by
 have q:=PySem.IsL.update e f;rw[hf]at q;refine I.write (x:=l) (e:=l) (by rw[hH];exact trivial) (.inl rfl) (fun b' u hb hu=>(F_ s.heap (ι f) (Ne.symm hb)).trans hu) ⟨_,q⟩ ?_;exact⟨hz,its',_,hv,q⟩
theorem Inv.O1 {its:List Ψ}{t':Nat}(I:Inv X pins σ H s)(hv:Vals ys its)(hz:ys.length<=Ζ) :
  Inv X pins σ (upd H s.heap.objs.size (.lst ys)) {s with heap:=s.heap.push {cls:=.type "list",data:=.seq its.toArray},toks:=t'}:=
 I.laid (fun _ _ q=>n_ _ q) (l_ _) ⟨hz,its,0,hv,A_ _ rfl⟩
theorem Inv.fresh (I:Inv X pins σ H s):H s.heap.objs.size=Φ:=I.Jq.fresh (l_ _)
theorem Inv.O6 (I:Inv X pins σ H s)(hH:H l=Δ (.lst xs)):xs.length<=Ζ/\∃(its:List Ψ) (n:Nat),Vals xs its/\xs.length=its.length/\s.heap.get? l=Δ {cls:=.type "list",data:=.seq its.toArray n}:=by obtain⟨z,its,n,r,e⟩:=I.Jq l _ hH;exact⟨z,its,n,r,r.length,e⟩
theorem pV {n:Nat}(h:n<=Ζ):Builtin.List.listTooLong n=Ξ:=by unfold Builtin.List.listTooLong;exact H_ (by omega)
end
section
variable {X:Cx}
def zg:V->List V->Hp->VK->Prop:=fun x vs H Q=>∃l xs y,x=.ref l/\vs=[y]/\H l=Δ (.lst xs)/\xs.length < Ζ/\Q .Iw (upd H l (.lst (xs++[y])))
theorem nN:Tr X "list.append" zg:=by intro pins s σ H x vs v us Q I rx rv h;obtain⟨l,xs,y,rfl,rfl,hH,hz,q⟩:=h;cases rx;obtain⟨u,rfl,ru⟩:=rv.one;obtain⟨z,its,n,r,hl,e⟩:=I.O6 hH;refine call_meets F.slot_list_append ⟨_,e,rfl⟩ F.entry_list_append (F.args_list_append_2 _ _) (PySem.list_append l its.toArray n u (by rw[D_];omega)) ⟨e,?_⟩;refine⟨.Iw,_,I.O0 (its':=its++[u]) hH e (by simp) (r.append (.cons ru .nil)) ?_,rfl,q⟩;rw[g_,V_];omega
theorem len_rep {α:Type}(xs:List α)(k:Nat):(Τ k xs).flatten.length=k*xs.length:=by
 induction k with
 |zero=>simp
 |succ k ih=>rw[List.replicate_succ,List.flatten_cons,g_,ih,Nat.succ_mul,Nat.add_comm]
end
end L2
namespace Att
open PySem PySem.W PySem.Calls PyProof.Rows
theorem lM {P:Params}{h:Heap}:∀(ns:List Int) (vs:List Ψ),WellAll P h vs (ns.map WData.int)->IntsAre vs ns:=by
 intro ns
 induction ns with
 |nil=>intro vs w;rw[List.map_nil]at w;cases w;exact .nil
 |cons n ns ih=>
  intro vs w;rw[b_]at w;cases w with
  |cons a b=>cases a;exact .cons _ _ (ih _ b)
theorem t9 {l:OpenLaw}{n:Nat}(hn:l.most=Δ n){P:Params}{h:Heap}{args:List WData}{vals:List Ψ}
  (NY:l.row.toRowW.claim.pre args=Θ) (Ts:WellAll P h vals args) :
  ∃a vs ns,vals=[θ a]/\args=[WData.list (ns.map WData.int)]/\h.get? a=Δ {cls:=.type "list",data:=.seq vs.toArray}/\IntsAre vs ns/\ns.length<=n:=by
 have Xi:WShape.hasAll [] args [.list .int]=Θ:=(pre_splitW NY).1;have hc:l.pre.holds [] {args:=args} = Θ:=(pre_splitW NY).2;obtain⟨d,r,rfl,h1,h2⟩:=hasAllW_cons Xi;obtain rfl:=hasAllW_nil h2;obtain⟨xs,rfl,h3⟩:=hasW_list h1;obtain⟨ns,rfl⟩:=items_int h3;have hlen:ns.length<=n:=by
  unfold OpenLaw.pre at hc;have h4:(WTm.not (.lt (.lit (.int (n:Int))) (.len (.arg 0)))).holds [] {args:=[.list (ns.map .int)]} = Θ:=by have h4:=(holds_andW hc).1;rw[hn]at h4;exact h4
  have h5:=condW_of h4 (w_not (w_lt w_lit (w_len_list (w_arg rfl))));rw[i_]at h5;refine Nat.le_of_not_lt fun q=>?_;have q':(n:Int) < ((ns.length:Nat):Int):=by omega
  first
   | (rw[B_ q']at h5;exact absurd h5 (by decide))
   | (simp at h5;omega)
 cases Ts with
 |cons w1 w2=>
  cases w2;cases w1 with
  |list ho Ln=>exact⟨_,_,ns,rfl,rfl,ho,lM ns _ Ln,hlen⟩
theorem ua (l:OpenLaw)(args:List WData):l.row.toRowW.claim.post args (.bool Θ) args=Θ:=
 postW_of (r:=l.row.toRowW) (X:=(Θ == Θ))
  (show WShape.has [] (.bool Θ) .bool=Θ by first|rfl|decide|simp[WShape.has,WShape.arms,WShape.armsAll])
  (show(WTm.eq .res (.lit (.bool Θ))).value [] {args:=args,res:=Δ (.bool Θ),after:=args} = Δ (.bool (Θ == Θ)) from w_eq_bool (w_res rfl) w_lit) rfl
theorem LW {l:OpenLaw}{n:Nat}{q:Ε}{loose:List Str}{XP:(Str->Option Ψ)->Heap->Prop}{YP:Β->Heap->Prop}{d:DefRec}
  (hn:l.most=Δ n) (QK:d.params.defaults=[])
  (call:∀(w:Β) (JP Jn:Α) (mg mb:Str->Option Ψ) (fa:Ω) (o:Obj) (pm cd doc:Ψ) (a:Ω) (vs:List Ψ) (ns:List Int),
   Ground q loose [] XP w JP mg mb Jn.heap->YP w Jn.heap->
   Jn.heap.get? fa=Δ o->o.data=.func (docDef d.name d.params d.body d.scope pm cd doc)->Jn.heap.CodeRec cd d.name->mg d.name=Δ (.ref fa)->
   Jn.heap.get? a=Δ {cls:=.type "list",data:=.seq vs.toArray}->IntsAre vs ns->ns.length<=n->Jn.gens = #[]->
   codeAny (Μ l.prog w) callerA (.call (.ref fa) ⟨[.ref a],[]⟩) (fun r s'=>r=.ok (.ret (.bool Θ))/\OldK Jn.heap s'.heap/\s'.os=Jn.os/\AllBare s'.gens) Jn) :
  WalkO q loose XP YP l.row.toRowW d [] (fun f vs=>PySem.call f vs):=by
 intro w JP Jn mg mb G Y fa o pm cd doc dV kV ho hd NV hD hmg hg args vals as NY Xj Z9 Ts Z';obtain rfl:dV=.none:=Dflts.none hD QK;obtain rfl:kV=.none:=Dflts.noKw hD;obtain⟨a,vs,ns,rfl,rfl,O7,hints,hlen⟩:=t9 hn NY Ts;refine enter_call (codeAny_mono (call w JP Jn mg mb fa o pm cd doc a vs ns G Y ho (fd_plain hd) NV hmg O7 hints hlen hg) fun r s' hq=>?_);obtain⟨rfl,h2,h3,h4⟩:=hq;exact⟨.inl ⟨.bool Θ,.bool Θ,[],rfl,fun _=>rfl,.bool Θ,ua l _,fun _=>⟨List.Pairwise.nil,fun _ hm=>(nomatch hm)⟩⟩,h2,h3,h4⟩
end Att
namespace L2
open PySem PySem.Spec PyProof.Rows
def KL (K:Frag)(a:Ω)(xs:List V):Prop:=
 ∃(its:List Ψ) (n:Nat),K.lookup a=Δ {cls:=.type "list",data:=.seq its.toArray n}/\its.length<=Ζ/\Vals xs its
def Ls (K:Frag)(H:Hp)(a:Ω)(xs:List V):Prop:=Rd H a (.lst xs)∨KL K a xs
theorem nO:∀ {vs:List Ψ}{ns:List Int},IntsAre vs ns->Vals (ns.map V.int) vs
 |_,_,.nil=>.nil
 |_,_,.cons n t h=>.cons ⟨t,rfl⟩ (nO h)
def Ct (H:Hp):Prop:=∀b,H b=Φ∨∃o xs,H b=Δ (.Jw o (.lst xs))
theorem vk {P:Ε}{w:Β}{K:Frag}{mg mb:Str->Option Ψ}{CX:KD}{k:Nat}{fa a:Ω}{fd:Ο}{x:Str}{sp:Sp}{Jn:Α}{vs:List Ψ}{ns:List Int}
  (KX:K.In Jn.heap) (O8:Jn.heap.Ns Η mg) (hb:Jn.heap.Ns builtinsNs mb) (Xk:∀x:Str,x≠"__name__"->mb x=bootBuiltins x) (Tt:Jn.heap.NoLimit) (hg:Jn.gens = #[])
  (ha:Jn.heap.get? a=Δ {cls:=.type "list",data:=.seq vs.toArray}) (hi:IntsAre vs ns) (hl:ns.length<=Ζ) (hr:Kp k callerA)
  (F:∀base:Heap,K.In base->base.Ns Η mg->K7 P w K mg base CX k fa fd [x] sp) (QL:∀(s:Α) (u:Ψ),BindsTo s fd ⟨[u],[]⟩ [(x,u)])
  (M5:∀H:Hp,Ct H->Ls K H a (ns.map V.int)->sp [.ref a] H (fun v _=>v=.bl Θ) fun _ _ _=>False)
  (Tu:∀H e s',CX [] H Jn (fun _ _ _=>False) e s'->False) :
  codeAny (Μ P w) callerA (.call (.ref fa) ⟨[.ref a],[]⟩) (fun r s'=>r=.ok (.ret (.bool Θ))/\OldK Jn.heap s'.heap/\s'.os=Jn.os/\AllBare s'.gens) Jn:=by
 have rv:=nO hi;have Tv:=hi.length
 -- from an abstract heap in VJ nothing but OT O9 may be tracked
 have core:∀H:Hp,Ct H->Ls K H a (ns.map V.int)->J6 P w H Jn.heap->(∀b,H b≠Φ->b=a)->(H a≠Φ->K.lookup a=Φ)->
   codeAny (Μ P w) callerA (.call (.ref fa) ⟨[.ref a],[]⟩) (fun r s'=>r=.ok (.ret (.bool Θ))/\OldK Jn.heap s'.heap/\s'.os=Jn.os/\AllBare s'.gens) Jn:=by
  intro H hO hS Jq hA hK;have MC:∀ {b:Ω}{o:Obj},Jn.heap.get? b=Δ o->H b=Φ->(oh Jn.heap H).get? b=Δ o:=fun e n=>uS e n;have QG:∀ {b:Ω}{o:Obj}{es:Array DictEntry}{ep:Nat},Jn.heap.get? b=Δ o->o.data=.dict es ep->H b=Φ:=fun {b o es ep} e d=>by
   cases q:H b with
   |none=>rfl
   |some u=>have e':b=a:=hA b (by rw[q];simp);subst e';rw[ha]at e;cases e;have d':Data.seq vs.toArray _=Data.dict es ep:=d;cases d'
  have Sf:∀ {b:Ω}{m:Str->Option Ψ},Jn.heap.Ns b m->(oh Jn.heap H).Ns b m:=fun {b m} ⟨o,es,ep,e,d,r⟩=>⟨o,es,ep,MC e (QG e d),d,r⟩
  have VL:K.In (oh Jn.heap H):=fun b o e=>MC (KX b o e) (by
   cases q:H b with
   |none=>rfl
   |some u=>
    have e':b=a:=hA b (by rw[q];simp);subst e'
    rw[hK (by rw[q];simp)]at e;cases e)
  have hM:Mod K mg (oh Jn.heap H):=⟨VL,Sf O8,⟨mb,Sf hb,Xk⟩,let ⟨mc,h1,h2⟩:=Tt;⟨mc,Sf h1,h2⟩⟩
  have e0:MP P w K mg (oh Jn.heap H) callerA [] Jn H:=⟨rfl,hM,fun b o e=>yR e,Nat.le_of_eq (tV _ _),trivial,fun b hb=>absurd (show b∈([]:List Ω) from hb) (by simp),Jq,.of_eq hg⟩
  refine codeAny_mono ((F _ VL (Sf O8)).run callerA [] Jn H ⟨[.ref a],[]⟩ [.ref a] [.ref a] _ _ hr e0 (QL Jn (.ref a)) (.cons rfl .nil) (M5 H hO hS)) fun r s' h=>?_;cases r with
  |error e=>exact(Tu H e s' h).elim
  |ok fl=>
   cases fl with
   |next=>exact False.elim h
   |brk=>exact False.elim h
   |cont=>exact False.elim h
   |ret u=>
    obtain⟨v,H',os,bare,un,Tw,r',q⟩:=h;have q':v=.bl Θ:=q;subst q';obtain rfl:u=Value.bool Θ:=r';refine⟨rfl,OldK.of_keep fun b o e=>?_,os,bare⟩;cases q:H b with
    |none=>exact un.keep b o e q (by intro z;exact absurd (show b∈([]:List Ω) from z) (by simp)) (by simp)
    |some u=>
     rcases hO b with z|⟨ob,xs,z⟩
     ·rw[q]at z;cases z
     ·have z2:=un.Kg b ob _ z;obtain⟨e1,_⟩:=Jq b _ z;obtain⟨e2,_⟩:=Tw b _ z2;rw[e]at e1;cases e1;exact e2
 cases hk:K.lookup a with
 |some o=>
  -- OT O9 is one of OT QM own objects
  have e:=KX a o hk;rw[ha]at e;cases e;refine core (fun _=>Φ) (fun _=>.inl rfl) (.inr ⟨vs,_,hk,by rw[Tv];exact hl,rv⟩) (fun b u z=>by have z':(Φ:Option HO)=Δ u:=z;cases z') (fun b z=>absurd rfl z) fun z=>absurd rfl z
 |none=>
  refine core (fun b=>if b=a then Δ (.Jw {cls:=.type "list",data:=.seq vs.toArray} (.lst (ns.map V.int))) else Φ) (fun b=>?_) (.inl (.inr ⟨{cls:=.type "list",data:=.seq vs.toArray},e_ rfl⟩)) (fun b u z=>?_) (fun b z=>?_) fun _=>hk
  ·by_cases hb:b=a
   ·exact .inr ⟨_,_,e_ hb⟩
   ·exact .inl (d_ hb)
  ·by_cases hb:b=a
   ·have z':=(e_ hb).symm.trans z;cases z';subst hb;exact⟨ha,by rw[i_];exact hl,vs,_,rv,ha⟩
   ·have z':=(d_ hb).symm.trans z;cases z'
  ·by_cases hb:b=a
   ·exact hb
   ·exact absurd (d_ hb) z
theorem zh {l:PySem.W.OpenLaw}{n k:Nat}{q:Ε}{loose:List Str}{XP:(Str->Option Ψ)->Heap->Prop}{YP:Β->Heap->Prop}{d:DefRec}{K:Params->Frag}{CX:Β->KD}{sp:Β->Sp}{x:Str}
  (hn:l.most=Δ n) (Sh:n<=Ζ) (QK:d.params.defaults=[]) (hr:Kp k callerA)
  (hY:∀(w:Β) (h:Heap),YP w h->(K w.params).In h)
  (F:∀(w:Β) (mg:Str->Option Ψ) (fa:Ω) (h:Heap),(K w.params).In h->h.Ns Η mg->mg d.name=Δ (.ref fa)->
   ∃fd:Ο,(∀(s:Α) (u:Ψ),BindsTo s fd ⟨[u],[]⟩ [(x,u)])/\
    ∀base:Heap,(K w.params).In base->base.Ns Η mg->K7 l.prog w (K w.params) mg base (CX w) k fa fd [x] (sp w))
  (M5:∀(w:Β) (H:Hp) (a:Ω) (ns:List Int),ns.length<=n->Ct H->Ls (K w.params) H a (ns.map V.int)->sp w [.ref a] H (fun v _=>v=.bl Θ) fun _ _ _=>False)
  (Tu:∀(w:Β) (H:Hp) (s:Α) (e:Ψ) (s':Α),CX w [] H s (fun _ _ _=>False) e s'->False) :
  PySem.W.WalkO q loose XP YP l.row.toRowW d [] (fun f vs=>PySem.call f vs):=by
 refine Att.LW hn QK fun w JP Jn mg mb fa o pm cd doc a vs ns G Y ho hd NV hmg O7 hints hlen hg=>?_;have KX:=hY w _ Y;obtain⟨fd,hb,hF⟩:=F w mg fa _ KX G.T.g hmg;exact vk KX G.T.g G.T.b G.T.builtins G.T.nolimit hg O7 hints (S_ hlen Sh) hr hF hb (fun H hO hS=>M5 w H a ns hlen hO hS) fun H e s'=>Tu w H Jn e s'
noncomputable def jt (s:Stmt):Arguments:=match s with
 |.FunctionDef _ a _ _ _ _ _ _ _ _=>a
 |_=>{posonlyargs:=[],args:=[],vararg:=Φ,kwonlyargs:=[],kw_defaults:=[],kwarg:=Φ,defaults:=[]}
noncomputable def i8 (s:Stmt):List Stmt:=match s with
 |.FunctionDef _ _ b _ _ _ _ _ _ _=>b
 |_=>[]
noncomputable def gV (s:Stmt):Scope:=match s with
 |.FunctionDef _ _ _ _ _ _ sc _ _ _=>sc
 |_=>{kind:=.function,names:=[],isGenerator:=Ξ,isCoroutine:=Ξ}
structure P7 (K:Frag)(x qual:Str)(st:Stmt)(f:Ω)(fd:Ο):Prop where
 ex:∃(oc:Ψ) (od:Option Ω) (kV doc pm:Ψ) (an:Option Ω) (Lx ct:Ψ) (Oz:Array (Option Ψ)),
  fd=PySem.W.fnOf x qual (jt st) (i8 st) (gV st) .none kV doc pm an Lx ct/\K.lookup f=Δ ⟨oc,od,.func fd,Oz⟩/\PySem.W.codeIn K Lx qual=Θ
 kp:PySem.W.keepIn K (.ref f)=Θ
section
variable {P:Ε}{w:Β}{K:Frag}{mg:Str->Option Ψ}{base:Heap}
theorem P7.binds {x qual:Str}{st:Stmt}{f:Ω}{fd:Ο}{ps:List Str}(F:P7 K x qual st f fd)
  (h:∀(kV doc pm:Ψ) (an:Option Ω) (Lx ct:Ψ) (us:List Ψ),us.length=ps.length->bindArgs (PySem.W.fnOf x qual (jt st) (i8 st) (gV st) .none kV doc pm an Lx ct) ⟨us,[]⟩=pure (ps.zip us)):Binds K fd ps []:=by
 obtain⟨oc,od,kV,doc,pm,an,Lx,ct,Oz,rfl,lk,NV⟩:=F.ex;exact .all (h kV doc pm an Lx ct)
theorem qZ {x qual:Str}{st:Stmt}{f:Ω}{oc:Ψ}{od an:Option Ω}{Oz:Array (Option Ψ)}{kV doc pm Lx ct:Ψ}(l:K.lookup f=Δ ⟨oc,od,.func (PySem.W.fnOf x qual (jt st) (i8 st) (gV st) .none kV doc pm an Lx ct),Oz⟩)
  (c:PySem.W.codeIn K Lx qual=Θ) (k:PySem.W.keepIn K (.ref f)=Θ):P7 K x qual st f (PySem.W.fnOf x qual (jt st) (i8 st) (gV st) .none kV doc pm an Lx ct):=⟨⟨oc,od,kV,doc,pm,an,Lx,ct,Oz,rfl,l,c⟩,k⟩
end
def gJ (H H':Hp):Prop:=∀b o,H b=Δ o->H' b=Δ o
theorem gJ.refl (H:Hp):gJ H H:=fun _ _ h=>h
theorem gJ.trans {H H1 H2:Hp}(a:gJ H H1)(b:gJ H1 H2):gJ H H2:=fun c o h=>b c o (a c o h)
theorem gJ.free {H H':Hp}(e:gJ H H'){l:Ω}(h:H' l=Option.none):H l=Option.none:=by
 cases q:H l with
 |none=>rfl
 |some o=>rw[e l o q]at h;cases h
theorem gJ.seq {K:Frag}{H H':Hp}{a:Ω}{xs:List V}(e:gJ H H')(h:JX K H a xs):JX K H' a xs:=by
 rcases h with(h|⟨o,h⟩)|h
 ·exact .inl (.inl (e _ _ h))
 ·exact .inl (.inr ⟨o,e _ _ h⟩)
 ·exact .inr h
theorem gN {X:Cx}{e:Expr}{t t':TE}(h:PE X e t)(m:∀σ H Q,t' σ H Q->t σ H Q):PE X e t':=fun pins s σ H Q I q=>h pins s σ H Q I (m σ H Q q)
theorem kj {X:Cx}{e:Expr}{t t':TT}(h:PT X e t)(m:∀σ H Q,t' σ H Q->t σ H Q):PT X e t':=fun pins s σ H Q I q=>h pins s σ H Q I (m σ H Q q)
theorem oq {X:Cx}{e:List Expr}{t t':TA}(h:PA X e t)(m:∀σ H Q,t' σ H Q->t σ H Q):PA X e t':=fun pos pins s σ H Q I q=>h pos pins s σ H Q I (m σ H Q q)
theorem jc {X:Cx}{e:Stmt}{t t':TS}(h:PS X e t)(m:∀D σ H,t' D σ H->t D σ H):PS X e t':=fun pins s σ H D I q=>h pins s σ H D I (m D σ H q)
theorem ot {X:Cx}{e:List Stmt}{t t':TS}(h:Mz X e t)(m:∀D σ H,t' D σ H->t D σ H):Mz X e t':=fun pins s σ H D I q=>h pins s σ H D I (m D σ H q)
theorem ou {X:Cx}{tg e:Expr}{t t':TI}(h:PI X tg e t)(m:∀σ H Q,t' σ H Q->t σ H Q):PI X tg e t':=fun pins s σ H Q I q=>h pins s σ H Q I (m σ H Q q)
def MD (X:Cx)(scope:Scope)(cl:List (Str×Ω))(N:List Str)(C:Ω)(s3:Α)(H3:Hp)(fp:List Ω)(xe:Ψ->Α->Prop:=fun _ _=>False):Cx:=
 {X with N:=N,JP:=s3,MN:=H3,env:=compEnvC scope cl C X.env,outer:=X.stack,ex:=fp,fn:=fun _=>Ξ,pn:=[],xe:=xe}
structure KG (X:Cx)(scope:Scope)(cl:List (Str×Ω))(Fr:List (Str×Nat))(Tg:List Str):Prop where
 QN:closureFor scope X.env=pure cl
 kind:scope.kind=.function
 LC:∀y∈scope.names,y.2≠.cell
 loc:∀y∈scope.names,y.2=.local->scope.names.lookup y.1=Δ .local
 sub:∀x c,cl.lookup x=Δ c->X.env.cells.lookup x=Δ c
 has:∀x,((relabel scope X.env).names.lookup x=Δ .cell∨(relabel scope X.env).names.lookup x=Δ .free)->∃c,cl.lookup x=Δ c
 out:∀p∈Fr,X.N[p.2]? = Δ p.1/\(X.env.kindOf p.1=Δ .cell∨X.env.kindOf p.1=Δ .free)/\((relabel scope X.env).names.lookup p.1=Δ .cell∨(relabel scope X.env).names.lookup p.1=Δ .free)
noncomputable def stC (Fr:List (Str×Nat))(Tg:List Str)(σ:St):St:=Fr.map (fun p=>(σ[p.2]?).join)++Τ Tg.length Φ
section
variable {X:Cx}{scope:Scope}{cl:List (Str×Ω)}{Fr:List (Str×Nat)}{Tg:List Str}{pins:List (Ω×Obj)}{σ:St}{H3:Hp}{s3:Α}{fp:List Ω}
theorem Cu (S:KG X scope cl Fr Tg)(I:Inv X pins σ H3 s3)(hf:∀b∈fp,j9 X pins H3 b)(Tx:∀b∈fp,b < s3.heap.objs.size)(N:List Str)(xe:Ψ->Α->Prop):(MD X scope cl N s3.heap.objs.size s3 H3 fp xe).Ok where
 mod:=I.ok.mod
 kind:=S.kind
 glob:=I.ok.glob
 blt:=I.ok.blt
 above:=l_ _
 inj:=fun x y c h1 h2=>I.ok.inj x y c (S.sub x c h1) (S.sub y c h2)
 has:=fun x h=>S.has x h
 R5:=fun x c h _=>absurd (show Ξ=Θ from h) (by decide)
 hd:=I.ok.hd
 frames:=I.ok.frames
 Ji:=.inl rfl
 S7:=fun b hb=>⟨z_ (Tx b hb),fun x c e z=>(hf b hb).2.2.2.2.1 x c (S.sub x c e) z⟩
 bs:=I.bs
 NR:=S_ I.ok.NR I.sz
 NT:=fun b o e hb=>by
  rcases(hf b hb).2.2.2.1 with z|z
  ·exact I.ok.NT b o e z
  ·exact absurd (P_ (m_ e) (S_ I.ok.NR z)) (aah _)
 NU:=fun b hb z=>by
  rcases k_.mp (I.Mh b z) with z|z
  ·exact(hf b hb).2.1 z
  ·exact(hf b hb).2.2.1 z
 KU:=I.stack
 ND:=I.Mw
theorem uc (S:KG X scope cl Fr Tg)(I:Inv X pins σ H3 s3)(hf:∀b∈fp,j9 X pins H3 b)(Tx:∀b∈fp,b < s3.heap.objs.size){h':Heap}{tk:Nat}
  (O8:h'.Ns s3.heap.objs.size (fun _=>Φ)) (hk:∀b o,s3.heap.get? b=Δ o->h'.get? b=Δ o) (xe:Ψ->Α->Prop) :
  Inv (MD X scope cl (Fr.map (·.1)++Tg) s3.heap.objs.size s3 H3 fp xe) [] (stC Fr Tg σ) H3 {s3 with heap:=h',toks:=tk} where
 ok:=Cu S I hf Tx _ _
 os:=rfl
 bare:=I.bare
 base:=Un.kept hk
 loc:=by
  refine⟨_,O8,fun i x v e1 e2 e3=>?_⟩;have hi:i < Fr.length:=by
   by_cases hi:i < Fr.length
   ·exact hi
   ·unfold stC at e2;rw[List.getElem?_append_right (by simpa using hi),List.getElem?_replicate]at e2;split at e2<;>cases e2
  have Si:(Fr.map (·.1))[i]? = Δ x:=by rw[<- e1];exact(aar (by simpa using hi)).symm
  have J8:(Fr.map (fun p=>(σ[p.2]?).join))[i]? = Δ (Δ v):=by rw[<- e2];exact(aar (by simpa using hi)).symm
  rw[L_]at Si J8;obtain⟨p,hp,rfl⟩:=aas.mp Si;rw[hp]at J8;have NZ:(σ[p.2]?).join=Δ v:=K_ J8;have e4:σ[p.2]? = Δ (Δ v):=by
   cases q:σ[p.2]? with
   |none=>rw[q]at NZ;cases NZ
   |some y=>rw[q]at NZ;rw[show y=Δ v from NZ]
  obtain⟨o1,o2,o3⟩:=S.out p (aao hp);obtain⟨m,hn,hl⟩:=I.loc;have hv:Qx X.env.scope p.1:=by
   rcases o2 with o2|o2
   ·exact .inr (.inl o2)
   ·exact .inr (.inr o2)
  obtain⟨u,r,l⟩:=hl p.2 p.1 v o1 e4 hv;refine⟨u,r,.inr ⟨o3,?_⟩⟩;obtain⟨c,hc⟩:=S.has p.1 o3;refine⟨c,hc,?_⟩;have M4:=S.sub _ _ hc;rcases l with⟨k,_⟩|⟨_,c2,h2,z⟩
  ·rcases o2 with o2|o2<;>(rw[k]at o2;cases o2)
  ·rw[M4]at h2;cases h2;obtain⟨o,ho,hd⟩:=z;exact⟨o,hk _ _ ho,hd⟩
 cell:=fun x c e=>by obtain⟨v,o,ho,hd⟩:=I.cell x c (S.sub x c e);exact⟨v,o,hk _ _ ho,hd⟩
 free:=I.Jq.fresh (l_ _)
 Ki:=fun x c e=>I.Ki x c (S.sub x c e)
 pin:=fun p hp=>absurd (show p∈([]:List (Ω×Obj)) from hp) (by simp)
 Jq:=I.Jq.kept hk
 len:=by unfold stC;show _=(Fr.map (·.1)++Tg).length;simp
end
def N0 (X:Cx)(ifs:List Expr)(t:TT):Prop:=
 ∀(pins:List (Ω×Obj)) (s:Α) (σ:St) (H:Hp) (Q:Bool->Hp->Prop),Inv X pins σ H s->t σ H Q->
  Κ (Μ X.prog X.w) X.A (forIn ifs Θ fun c r=>if r=Θ then do let ok <- isTrue c X.env (eval c X.env);pure (ForInStep.yield ok) else pure (ForInStep.yield r)) (TP X pins σ Q) X.xe s
theorem lK {M:Model}{A:Ι}{E:Ψ->Α->Prop}{s:Α}{env:Env}{Q:Bool->Α->Prop}(h:Q Ξ s):∀ifs:List Expr,
  Κ M A (forIn ifs Ξ fun c r=>if r=Θ then do let ok <- isTrue c env (eval c env);pure (ForInStep.yield ok) else pure (ForInStep.yield r)) Q E s
 |[]=>by rw[List.forIn_nil];exact f_ h
 |c::cs=>by rw[List.forIn_cons];rw[d_ p_];exact a_ (f_ (lK h cs))
theorem zi {X:Cx}:N0 X [] (fun _ H Q=>Q Θ H):=fun pins s σ H Q I q=>by rw[List.forIn_nil];exact f_ ⟨H,I,q⟩
theorem vm {X:Cx}{c:Expr}{cs:List Expr}{t u:TT}(hc:PT X c t)(hr:N0 X cs u):N0 X (c::cs) (Ez t u):=fun pins s σ H Q I q=>by
 rw[List.forIn_cons,e_ rfl];refine a_ (a_ (Jr (hc pins s σ H _ I q) fun b s1 ⟨H1,I1,q1⟩=>f_ ?_));cases b with
 |true=>exact hr pins s1 σ H1 Q I1 q1
 |false=>exact lK ⟨H1,I1,q1⟩ cs
def vn (wi:TI)(start:St->St)(g:TG)(tt:TT)(te:TE):TE:=fun σ H Q=>wi σ H fun J H1=>∀D,H1 D=Φ->∃W:Nat->Nat->St->Hp->Prop,(∃m,W 0 m (start σ) (upd H1 D (.lst [])))/\
 ∀i m Jp H',W i m Jp H'->(J.stop i H'/\Q (.ref D) H')∨(J.go i H'/\∀x H2,J.NW i H' x H2->g x Jp H2 fun LU H3=>tt LU H3 fun b H4=>
  if b=Θ then te LU H4 fun v H5=>∃ys,H5 D=Δ (.lst ys)/\ys.length < Ζ/\∃m',m' < m/\W (i+1) m' LU (upd H5 D (.lst (ys++[v])))
  else ∃m',m' < m/\W (i+1) m' LU H4)
section
variable {X:Cx}{scope:Scope}{cl:List (Str×Ω)}{Fr:List (Str×Nat)}{Tg:List Str}{elt tg iter:Expr}{ifs:List Expr}{wi:TI}{g:TG}{tt:TT}{te:TE}{pos:Pos}
theorem ox (scope:Scope)(pos:Pos)(it acc:Ψ)(env:Env) :
  compTurn (.ListComp elt [⟨tg,iter,ifs,0⟩] scope pos) 0 it acc env=(do
   standAt iter.pos
   match <- pyNext it with
   |none=>pure (.done .next)
   |some v=>
    letOwnedTupleGo tg it v
    assign tg env v
    let ok <- forIn ifs Θ fun c r=>if r=Θ then do let ok <- isTrue c env (eval c env);pure (ForInStep.yield ok) else pure (ForInStep.yield r)
    if ok=Θ then
     (do let _ <- call (.builtin "list.append") [acc,<- eval elt env])
    again (.compLoop (.ListComp elt [⟨tg,iter,ifs,0⟩] scope pos) 0 it acc env)):=by rfl
theorem mf {XE:Ω->Α->Hp->List Ω->Ψ->Α->Prop}(hc:X.calm=Θ)(S:KG X scope cl Fr Tg)
  (hg:∀C s H fp,PG (MD X scope cl (Fr.map (·.1)++Tg) C s H fp (XE C s H fp)) tg g) (ht:∀C s H fp,N0 (MD X scope cl (Fr.map (·.1)++Tg) C s H fp (XE C s H fp)) ifs tt)
  (he:∀C s H fp,PE (MD X scope cl (Fr.map (·.1)++Tg) C s H fp (XE C s H fp)) elt te)
  {pins:List (Ω×Obj)}{σ:St}{H2:Hp}{s2:Α}{it:Ω}{fp:List Ω}{tn:Nat->Heap->Prop}{J:It}{Q:VK} (I2:Inv X pins σ H2 s2) (T:Turn X.prog X.w X.K tg J fp it tn) (MA:tn 0 s2.heap)
  (f2:∀b∈fp,j9 X pins H2 b)
  (q:∀D,H2 D=Φ->∃W:Nat->Nat->St->Hp->Prop,(∃m,W 0 m (stC Fr Tg σ) (upd H2 D (.lst [])))/\
   ∀i m Jp H',W i m Jp H'->(J.stop i H'/\Q (.ref D) H')∨(J.go i H'/\∀x H2,J.NW i H' x H2->g x Jp H2 fun LU H3=>tt LU H3 fun b H4=>
    if b=Θ then te LU H4 fun v H5=>∃ys,H5 D=Δ (.lst ys)/\ys.length < Ζ/\∃m',m' < m/\W (i+1) m' LU (upd H5 D (.lst (ys++[v])))
    else ∃m',m' < m/\W (i+1) m' LU H4))
  {E:Ψ->Α->Prop}{RR:Ψ->Env->Result->Α->Prop}
  (hR:∀D C s' H',(∃m,s'.heap.Ns C m)->Inv X pins σ H' s'->j9 X pins H' C->Q (.ref D) H'->∀V:Env,V.locals=C->V.frame=X.env.frame->RR (.ref D) V (.ok .next) s')
  (hX:∀D C s3 H3,(∀s5 N1 H5,Inv (MD X scope cl (Fr.map (·.1)++Tg) C s3 H3 fp (XE C s3 H3 fp)) [] N1 H5 s5->(∃m,s5.heap.Ns C m)/\Inv X pins σ H5 s5/\j9 X pins H5 C)->∀e s',XE C s3 H3 fp e s'->
   notedBy (Μ X.prog X.w) X.A (compEnvC scope cl C X.env) (fun x Nd=>∀V:Env,V.locals=C->V.frame=X.env.frame->RR (.ref D) V (.error x) Nd) e s') :
  Κ (Μ X.prog X.w) X.A (newList []) (fun acc N2=>Κ (Μ X.prog X.w) X.A (newFunctionEnv scope X.env.globals cl [] X.env.qual Φ .none (Δ X.env)) (fun QO Tz=>
   codeAny (Μ X.prog X.w) X.A (.compStart (.ListComp elt [⟨tg,iter,ifs,0⟩] scope pos) 0 (.ref it) acc {QO with scope:=relabel scope X.env}) (RR acc QO) Tz) E N2) E s2:=by
 have Xl:∀b∈fp,b < s2.heap.objs.size:=fun b hb=>by obtain⟨o,e,_⟩:=T.obj _ _ MA b hb;exact m_ e
 -- OT OA
 refine Z_ ?_;have I3:Inv X pins σ (upd H2 s2.heap.objs.size (.lst [])) {s2 with heap:=s2.heap.push {cls:=.type "list",data:=.seq ([]:List Ψ).toArray},toks:=s2.toks}:=I2.O1 (ys:=[]) (its:=[]) .nil (aaa _);generalize hD:s2.heap.objs.size=D at I3 ⊢;have Xm:H2 D=Φ:=by rw[<- hD];exact I2.fresh
 generalize Sj:({s2 with heap:=s2.heap.push {cls:=.type "list",data:=.seq ([]:List Ψ).toArray},toks:=s2.toks}:Α)=s3 at I3;have k3:∀b o,s2.heap.get? b=Δ o->s3.heap.get? b=Δ o:=fun b o e=>by rw[<- Sj];exact n_ _ e
 have Xn:s3.heap.objs.size=D+1:=by rw[<- Sj,<- hD];exact W_ ..
 have QP:∀b∈fp,b < D:=fun b hb=>by rw[<- hD];exact Xl b hb
 have TB:∀b∈fp,b < s3.heap.objs.size:=fun b hb=>by rw[Xn];exact Nat.lt_succ_of_lt (QP b hb)
 have f3:∀b∈fp,j9 X pins (upd H2 D (.lst [])) b:=fun b hb=>by obtain⟨a1,a2⟩:=f2 b hb;refine⟨?_,a2⟩;rw[gK (z_ (QP b hb))];exact a1
 obtain⟨W,⟨m0,w0⟩,turn⟩:=q D Xm;refine wpAny_newFunctionEnv S.LC (by intro y hy;simp at hy) (fun h4 O8 QQ=>codeAny_mono (R:=fun r s'=>∀V:Env,V.locals=s3.heap.objs.size->V.frame=X.env.frame->RR (.ref D) V r s') ?_ fun r s' z=>z _ rfl rfl) S.kind;have k4:∀b o,s3.heap.get? b=Δ o->h4.get? b=Δ o:=fun b o e=>
  QQ.extBut b o (z_ (m_ e)) (n_ _ e)
 have VM:tn 0 h4:=T.keep _ _ _ MA fun b hb o e=>k4 b o (k3 b o e);have I4:=uc (fp:=fp) (h':=h4) (tk:=s3.toks+([]:List (Str×Ψ)).length) S I3 f3 TB (by simpa using O8) k4 (XE s3.heap.objs.size s3 (upd H2 D (.lst [])) fp);generalize hC:s3.heap.objs.size=C at I4 O8 QQ ⊢;have TC:=hX D C s3 (upd H2 D (.lst []));generalize hZ:XE C s3 (upd H2 D (.lst [])) fp=Z at I4 TC;generalize hY:MD X scope cl (Fr.map (·.1)++Tg) C s3 (upd H2 D (.lst [])) fp Z=Y at I4 TC;have yP:Y.prog=X.prog:=by rw[<- hY];rfl
 have yw:Y.w=X.w:=by rw[<- hY];rfl
 have yK:Y.K=X.K:=by rw[<- hY];rfl
 have yA:Y.A=X.A:=by rw[<- hY];rfl
 have yc:Y.calm=Θ:=by rw[<- hY];exact hc
 have yx:Y.xe=Z:=by rw[<- hY];rfl
 have ye:Y.env=compEnvC scope cl C X.env:=by rw[<- hY];rfl
 have QR:Y.ex=fp:=by rw[<- hY];rfl
 have Xo:Y.pn=[]:=by rw[<- hY];rfl
 have Xp:Y.fs=Lk X.stack:=by rw[<- hY];rfl
 have yH:Y.MN=upd H2 D (.lst []):=by rw[<- hY];rfl
 have OB:Y.JP=s3:=by rw[<- hY];rfl
 have Xq:PG Y tg g:=by rw[<- hY,<- hZ];exact hg _ _ _ _
 have P8:N0 Y ifs tt:=by rw[<- hY,<- hZ];exact ht _ _ _ _
 have O':PE Y elt te:=by rw[<- hY,<- hZ];exact he _ _ _ _
 have Mj:∀ {H':Hp},(∀b∈fp,H' b=Φ)->∀b∈fp,j9 Y [] H' b:=fun hn b hb=>by have TF:=I4.ok;refine⟨hn b hb,(TF.S7 b (by rw[QR];exact hb)).1,TF.NU b (by rw[QR];exact hb),.inl (by rw[QR];exact hb),(TF.S7 b (by rw[QR];exact hb)).2,fun p hp=>absurd hp (by rw[Xo];simp)⟩
 have Xr:∀b∈fp,(upd H2 D (.lst [])) b=Φ:=fun b hb=>(f3 b hb).1
 -- back to OT frame
 have back:∀(s5:Α) (N1:St) (H5:Hp),Inv Y [] N1 H5 s5->(∃m,s5.heap.Ns C m)/\Inv X pins σ H5 s5/\j9 X pins H5 C:=by
  intro s5 N1 H5 I5;have TM:∃m,s5.heap.Ns C m:=by obtain⟨m,hn,_⟩:=I5.loc;rw[ye]at hn;exact⟨m,hn⟩
  have Xs:Un (Lk X.stack) fp (upd H2 D (.lst [])) H5 s3.heap s5.heap:=by have u:=I5.base;rw[Xp,QR,yH,OB]at u;exact u
  have Xt:s5.os=s3.os:=by have:=I5.os;rw[OB]at this;exact this
  have TN:J6 X.prog X.w H5 s5.heap:=by have:=I5.Jq;rw[yP,yw]at this;exact this
  have M3:∀b∈fp,(b∈X.ex∨X.JP.heap.objs.size<=b)/\b≠X.env.locals/\(∀x c,X.env.cells.lookup x=Δ c->c≠b)/\∀p∈X.pn++pins,p.1≠b:=fun b hb=>by obtain⟨_,a1,_,a3,a4,a5⟩:=f3 b hb;exact⟨a3,a1,a4,a5⟩
  have QS:H5 C=Φ:=by have:=I5.free;rw[ye]at this;exact this
  exact⟨TM,I3.QB Xt Xs TN I5.bare M3,I3.Mi (Nat.le_of_eq hC) QS⟩
 have nz:∀ {α:Type}{t:Sem α}{Q:α->Α->Prop}{s:Α},Κ (Μ X.prog X.w) X.A t Q Z s->Κ (Μ X.prog X.w) X.A t Q (notedBy (Μ X.prog X.w) X.A (compEnvC scope cl C X.env) fun x Nd=>∀V:Env,V.locals=C->V.frame=X.env.frame->RR (.ref D) V (.error x) Nd) s:=fun h=>wpAny_mono h (fun _ _ z=>z) fun e s' z=>TC back e s' z;have loop:∀(s5:Α) (N1:St) (H5:Hp) (i m:Nat),Inv Y [] N1 H5 s5->tn i s5.heap->(∀b∈fp,H5 b=Φ)->W i m N1 H5->
   codeAny (Μ X.prog X.w) X.A (.compLoop (.ListComp elt [⟨tg,iter,ifs,0⟩] scope pos) 0 (.ref it) (.ref D) (compEnvC scope cl C X.env)) (fun r s'=>∀V:Env,V.locals=C->V.frame=X.env.frame->RR (.ref D) V r s') s5:=by
  intro s5 N1 H5 i m I5 QF Th w5;refine codeAny_loop rfl (fun n s'=>∃i Jp H',Inv Y [] Jp H' s'/\tn i s'.heap/\(∀b∈fp,H' b=Φ)/\W i n Jp H') ?_ m ⟨i,N1,H5,I5,QF,Th,w5⟩;rintro n s6 ⟨i,OV,H6,I6,VN,VO,w6⟩;show Κ _ X.A ((compTurn (.ListComp elt [⟨tg,iter,ifs,0⟩] scope pos) 0 (.ref it) (.ref D) (compEnvC scope cl C X.env)).onRaise (fun x=>do noteFrame x (compEnvC scope cl C X.env);theTreesLotGoes x)) _ _ s6;refine wpAny_noted ?_;rw[ox];refine a_ (wpAny_standAt (a_ ?_));have nx:∀ {α:Type}{t:Sem α}{Q:α->Α->Prop}{E':Ψ->Α->Prop}{s:Α},Κ (Μ X.prog X.w) X.A t Q (fun _ _=>False) s->Κ (Μ X.prog X.w) X.A t Q E' s:=fun h=>wpAny_mono h (fun _ _ z=>z) fun _ _ z=>z.elim;rcases turn i n OV H6 w6 with⟨stop,qn⟩|⟨go,step⟩
  ·have h:=T.done Y yP yw yK yc i [] s6 OV H6 (fun _ _=>False) I6 (Mj VO) VN stop;rw[yA]at h;refine nx (Jr h fun r s7 ⟨hr,I7⟩=>?_);subst hr;refine f_ ?_;obtain⟨b1,b2,b3⟩:=back s7 OV H6 I7;exact hR D C s7 H6 b1 b2 b3 qn
  ·have h:=T.item Y yP yw yK yc i [] s6 OV H6 (fun _ _=>False) I6 (Mj VO) VN go;rw[yA]at h;refine nx (Jr h fun r s7 ⟨u,hr,h7⟩=>?_);subst hr;refine a_ (nx (Jr h7 fun _ s8 ⟨x,H8,I8,r8,y8,TQ,Xu⟩=>?_));have Xv:=I8.pinned (Mj Xu) (T.obj _ _ TQ);have h9:=Xq _ s8 OV H8 x u _ Xv r8 (step x H8 y8);rw[yP,yw,yA,yx,ye]at h9;refine a_ (nz (Jr h9 fun _ s9 ⟨TU,H9,I9,q9⟩=>?_));have OC:=P8 _ s9 TU H9 _ I9 q9;rw[yP,yw,yA,yx,ye]at OC;refine a_ (nz (Jr OC fun ok Xw ⟨Xx,VP,P9⟩=>?_));have again:∀ {Jp:St}{H':Hp}{s':Α},Inv Y ([]++kU fp s8.heap) Jp H' s'->(∃m',m' < n/\W (i+1) m' Jp H')->∃m,m < n/\∃i Jp H',Inv Y [] Jp H' s'/\tn i s'.heap/\(∀b∈fp,H' b=Φ)/\W i m Jp H':=fun {Jp H' s'} I' ⟨m',hm,w'⟩=>by refine⟨m',hm,i+1,Jp,H',I'.Ks,T.keep _ _ _ TQ fun b hb o e=>(I'.pin (b,o) (s_ _ (s_ _ (jJ hb e)))).1,fun b hb=>?_,w'⟩;obtain⟨o,e,d⟩:=T.obj _ _ TQ b hb;exact(I'.pin (b,o) (s_ _ (s_ _ (jJ hb e)))).2.1
   cases ok with
   |false=>rw[d_ p_]at P9;refine a_ (f_ (f_ ⟨rfl,again VP P9⟩))
   |true=>rw[e_ rfl]at P9;have P':=O' _ Xw TU Xx _ VP P9;rw[yP,yw,yA,yx,ye]at P';refine a_ (a_ (nz (Jr P' fun y Xy ⟨v,VQ,Xz,XA,ys,ey,zy,XB⟩=>?_)));have LX:=nN (X:=Y) ([]++kU fp s8.heap) Xy TU VQ (.ref D) [v] (.ref D) [y] (fun v' H'=>v'=.Iw/\H'=upd VQ D (.lst (ys++[v]))) Xz rfl (.cons XA .nil) ⟨D,ys,v,rfl,rfl,ey,zy,rfl,rfl⟩;rw[yP,yw,yA,yx]at LX;refine a_ (nz (Jr LX fun z s12 ⟨v12,H12,XC,r12,e12,TV⟩=>?_));subst TV;exact f_ (f_ ⟨rfl,again XC XB⟩)
 have start:=loop {s3 with heap:=h4,toks:=s3.toks+([]:List (Str×Ψ)).length} (stC Fr Tg σ) (upd H2 D (.lst [])) 0 m0 I4 VM Xr w0;have e5:∀(s':Α),s' = {s3 with heap:=h4,toks:=s3.toks+([]:List (Str×Ψ)).length}->codeAny (Μ X.prog X.w) X.A (.compLoop (.ListComp elt [⟨tg,iter,ifs,0⟩] scope pos) 0 (.ref it) (.ref D) (compEnvC scope cl C X.env)) (fun r s'=>∀V:Env,V.locals=C->V.frame=X.env.frame->RR (.ref D) V r s') s':=by rintro _ rfl;exact start
 exact codeAny_compStart_list (e5 _ rfl) (T.self _ _ _ _ _ VM (e5 _ rfl))
theorem sj (hc:X.calm=Θ)(S:KG X scope cl Fr Tg)(hi:PI X tg iter wi)
  (hg:∀C s H fp,PG (MD X scope cl (Fr.map (·.1)++Tg) C s H fp) tg g) (ht:∀C s H fp,N0 (MD X scope cl (Fr.map (·.1)++Tg) C s H fp) ifs tt)
  (he:∀C s H fp,PE (MD X scope cl (Fr.map (·.1)++Tg) C s H fp) elt te) (hs:∀x,foldedSetIterable iter X.env x=pure x:=by intro _;rfl) :
  PE X (.ListComp elt [⟨tg,iter,ifs,0⟩] scope pos) (vn wi (stC Fr Tg) g tt te):=by
 intro pins s σ H Q I h;rw[eval_ListComp];refine wpAny_comprehension_free (use:=Φ) rfl hs S.QN S.kind S.loc (Jr (hi pins s σ H _ I h) fun xv s1 h1=>Jr h1 fun R8 s2 h2=>?_);obtain⟨it,fp,tn,J,H2,rfl,I2,T,MA,f2,q⟩:=h2;refine mf (XE:=fun _ _ _ _ _ _=>False) (RR:=fun acc V=>compPost (Μ X.prog X.w) X.A X.xe Φ (EP X pins σ Q) acc V.locals) hc S hg ht he I2 T MA f2 q ?_ fun _ _ _ _ _ _ _ z=>z.elim;intro D C s' H' ⟨m,hn⟩ I' F' q' V hV _;subst hV;obtain⟨f0,f1,f2,f3,f4,f5⟩:=F';exact⟨m,hn,fun h' sb=>⟨.ref D,H',I'.turned (t':=s'.toks) (fun b o hb e=>(sb.2 b hb).trans e) f0 f1 f3 f4 f5,rfl,q'⟩⟩
theorem zj {y:Str}{py spos:Pos}{i:Nat}(hc:X.calm=Θ)(hN:X.N.Nodup)(XD:X.N[i]? = Δ y)(hy:X.env.kindOf y=Δ .local)(S:KG X scope cl Fr Tg)(hi:PI X tg iter wi)
  (hg:∀C s H fp,PG (MD X scope cl (Fr.map (·.1)++Tg) C s H fp) tg g) (ht:∀C s H fp,N0 (MD X scope cl (Fr.map (·.1)++Tg) C s H fp) ifs tt)
  (he:∀C s H fp,PE (MD X scope cl (Fr.map (·.1)++Tg) C s H fp) elt te)
  (QT:swapsWith (.ListComp elt [⟨tg,iter,ifs,0⟩] scope pos) (Δ (.Name y py)) spos.line X.env=pure Θ) (hs:∀x,foldedSetIterable iter X.env x=pure x:=by intro _;rfl) :
  PS X (.Assign [.Name y py] (.ListComp elt [⟨tg,iter,ifs,0⟩] scope pos) spos) (fun D σ H=>vn wi (stC Fr Tg) g tt te σ H fun v H'=>D.nx (σ.set i (Δ v)) H'):=by
 intro pins s σ H D I h;rw[exec_Assign_Name_used _ _ _ _ QT];refine a_ (wpAny_standAt (a_ ?_));show Κ _ X.A (do let _ <- comprehension (.ListComp elt [⟨tg,iter,ifs,0⟩] scope pos) scope X.env _ (newList []) Ξ (eval iter X.env) (Δ (assign (.Name y py) X.env))) _ _ s
 refine a_ (Jr (wpAny_comprehension_free (use:=Δ (assign (.Name y py) X.env)) (Q:=fun _ s'=>SP X pins D .next s') rfl hs S.QN S.kind S.loc
  (Jr (hi pins s σ H _ I h) fun xv s1 h1=>Jr h1 fun R8 s2 h2=>?_)) fun _ s' hq=>f_ (f_ hq))
 obtain⟨it,fp,tn,J,H2,rfl,I2,T,MA,f2,q⟩:=h2;refine mf (Q:=fun v H'=>D.nx (σ.set i (Δ v)) H') (XE:=fun _ _ _ _ _ _=>False) (RR:=fun acc V=>compPost (Μ X.prog X.w) X.A X.xe (Δ (assign (.Name y py) X.env)) (fun _ s'=>SP X pins D .next s') acc V.locals) hc S hg ht he I2 T MA f2 q ?_ fun _ _ _ _ _ _ _ z=>z.elim;intro D' C s' H' ⟨m,hn⟩ I' F' q' V hV _;subst hV;obtain⟨f0,f1,f2,f3,f4,f5⟩:=F';show Κ _ X.A (assign (.Name y py) X.env (.ref D')) _ _ _;refine wpAny_assign_Name (ny I' hN XD (.inl hy) (show RelV (.ref D') (.ref D') from rfl) (fun Nd XF ⟨a,sb,ha⟩=>?_) (.inr hy));have XG:V.locals≠a:=by
  rcases ha with rfl|ha
  ·exact f1
  ·exact fun z=>f4 y a ha z.symm
 refine⟨m,hn.sameBut sb XG,fun h' XH=>⟨_,H',XF.turned (t':=Nd.toks) (fun b o hb e=>(XH.2 b hb).trans e) f0 f1 f3 f4 f5,q'⟩⟩
end
open PySem.SeqAt
section
variable {X:Cx}
theorem pW {x:Str}{n:Int}(h0 : -16000<=n)(h1:n<=16000)(hx:x.length<=1000):MulOk x n:=by
 refine⟨?_,fun hn _=>?_,fun hn _=>?_⟩
 ·rw[Bool.or_eq_false_iff];exact⟨H_ (by omega),H_ (by omega)⟩
 ·have:(1000:Int)<=(2 ^ 63 - 1) / n:=Int.le_ediv_of_mul_le (by omega) (by omega);omega
 ·have:x.length*n.toNat<=1000*16000:=Nat.mul_le_mul hx (by omega);unfold Builtin.Str.tooLong;exact H_ (by rw[sizeLine_eq];omega)
theorem ra:Ll X (binaryOp .Mult) (fun x y H Q=>∃i j,x=.str i/\y=.int j/\-16000<=j/\j<=16000/\i.length<=1000/\Q (.str (Txt.mul i j)) H):=by intro pins s σ H x y v u Q I rx ry h;obtain⟨i,j,rfl,rfl,h0,h1,hz,q⟩:=h;obtain⟨t,rfl⟩:=rx;obtain⟨t',rfl⟩:=ry;exact SB.mul (pW h0 h1 hz) fun t' tk=>⟨.str (Txt.mul i j),H,I.tok _,⟨_,rfl⟩,q⟩
noncomputable def kX (z:Str):List V:=z.cps.toList.map fun c=>.str ⟨#[c]⟩
theorem rf {z:Str}{Pa:Array Ψ}(J':ItemsOf (SignAt z) Pa z.cps.size):Vals (kX z) Pa.toList:=by
 have hl:Pa.toList.length=z.cps.toList.length:=by rw[Q_,Q_,J'.1]
 have key:∀(cs:List Nat) (vs:List Ψ),vs.length=cs.length->(∀(i:Nat) (v:Ψ),vs[i]? = Δ v->∃c u,cs[i]? = Δ c/\v=Value.str ⟨#[c]⟩ u)->Vals (cs.map fun c=>V.str ⟨#[c]⟩) vs:=by
  intro cs
  induction cs with
  |nil=>
   intro vs hl _;cases vs with
   |nil=>exact .nil
   |cons _ _=>cases hl
  |cons c cs ih=>
   intro vs hl hv;cases vs with
   |nil=>cases hl
   |cons v vs=>
    obtain⟨c',u,e1,e2⟩:=hv 0 v rfl;have Si:c=c':=by simpa using e1
    subst Si e2;exact .cons ⟨u,rfl⟩ (ih vs (by simpa using hl) fun i w hw=>by simpa using hv (i+1) w (by simpa using hw))
 refine key _ _ hl fun i v hv=>?_;obtain⟨c,u,e1,e2⟩:=J'.2 i v (by rw[<- aaj];exact hv);exact⟨c,u,by rw[aaj];exact e1,e2⟩
theorem mh (hc:X.calm=Θ):iD X (.type "tuple") (fun xs H Q=>∃z:Str,xs=[.str z]/\z.length<=Ζ/\∀l,H l=Φ->Q (.ref l) (upd H l (.tup (kX z)))):=by intro pins s σ H xs us Q I r h;obtain⟨z,rfl,hz,q⟩:=h;obtain⟨u,rfl,t,rfl⟩:=vals1 r;refine call_tuple_str (hsz:=hz) (show X.A.handled=Φ from I.ok.hd hc) z t (fun h' tk acc kp J'=>?_);have rv:=rf J';have I1:Inv X pins σ H {s with heap:=h',toks:=tk}:=I.kept (t':=tk) kp;exact⟨.ref _,_,I1.laid (t':=tk) (fun b o e=>n_ _ e) (l_ _) (show hU X.prog X.w _ _ _ (.tup (kX z)) from⟨by unfold kX;simpa[Str.length] using hz,acc.toList,rv,by simpa using IsTup.new h' acc⟩),rfl,q _ (I1.Jq.fresh (l_ _))⟩
end
open PySem.W
section
variable {κ:Type} [DecidableEq κ]
noncomputable def ka (kvs:List (κ×V))(k:κ):Option V:=(kvs.find? fun kv=>decide (kv.1=k)).map (·.2)
noncomputable def putK (kvs:List (κ×V))(k:κ)(v:V):List (κ×V):=
 if(kvs.any fun kv=>decide (kv.1=k))=Θ then kvs.map (fun kv=>if kv.1=k then(kv.1,v) else kv) else kvs++[(k,v)]
theorem mi {p:κ×V}{r:List (κ×V)}{k:κ}(e:p.1=k):ka (p::r) k=Δ p.2:=by simp[ka,List.find?_cons,e]
theorem mj {p:κ×V}{r:List (κ×V)}{k:κ}(e:¬p.1=k):ka (p::r) k=ka r k:=by simp[ka,List.find?_cons,e]
theorem pX (k:κ):∀kvs:List (κ×V),(kvs.any fun kv=>decide (kv.1=k))=(ka kvs k).isSome
 |[]=>rfl
 |p::r=>by
  rw[List.any_cons];by_cases e:p.1=k
  ·simp only[mi e,B_ e,Bool.true_or,Option.isSome_some]
  ·rw[mj e,H_ e,Bool.false_or];exact pX k r
theorem pY (kvs:List (κ×V))(k:κ)(v:V):(putK kvs k v).length<=kvs.length+1:=by
 unfold putK;split
 ·rw[i_];omega
 ·rw[g_,List.length_cons,List.length_nil];omega
theorem l8.KH {o:Option V}{u:Option Ψ}(r:l8 o u):o.isSome=u.isSome:=by
 cases o with
 |none=>cases u with
  |none=>rfl
  |some _=>exact(show False from r).elim
 |some _=>cases u with
  |none=>exact(show False from r).elim
  |some _=>rfl
theorem l8.getD {o:Option V}{u:Option Ψ}{d:V}{d':Ψ}(r:l8 o u)(rd:RelV d d'):RelV (o.getD d) (u.getD d'):=by
 cases o with
 |none=>cases u with
  |none=>exact rd
  |some _=>exact(show False from r).elim
 |some _=>cases u with
  |none=>exact(show False from r).elim
  |some _=>exact r
theorem KV.val {kvs:List (κ×V)}{vs:List (κ×Ψ)}(r:KV kvs vs)(k:κ):l8 (ka kvs k) (valueAt vs k):=by
 unfold KV at r
 induction r with
 |nil=>exact True.intro
 | @cons p q ps qs h t ih=>
  obtain⟨h1,h2⟩:=h;by_cases e:p.1=k
  ·have e':q.1=k:=h1.symm.trans e;have b:valueAt (q::qs) k=Δ q.2:=by simp[valueAt,List.find?_cons,e']
   rw[mi e,b];exact h2
  ·have e':¬q.1=k:=fun z=>e (h1.trans z);have b:valueAt (q::qs) k=valueAt qs k:=by simp[valueAt,List.find?_cons,e']
   rw[mj e,b];exact ih
theorem KV.any {kvs:List (κ×V)}{vs:List (κ×Ψ)}(r:KV kvs vs)(k:κ):(kvs.any fun kv=>decide (kv.1=k))=vs.any fun kv=>decide (kv.1=k):=by
 unfold KV at r
 induction r with
 |nil=>rfl
 |cons h t ih=>rw[List.any_cons,List.any_cons,ih,h.1]
theorem KV.TY {kvs:List (κ×V)}{vs:List (κ×Ψ)}(r:KV kvs vs)(k:κ){y:V}{u:Ψ}(ry:RelV y u) :
  KV (kvs.map fun kv=>if kv.1=k then(kv.1,y) else kv) (vs.map fun kv=>if kv.1=k then(kv.1,u) else kv):=by
 unfold KV at r ⊢
 induction r with
 |nil=>exact .nil
 | @cons p q ps qs h t ih=>
  rw[b_,b_];refine .cons ?_ ih;obtain⟨h1,h2⟩:=h;by_cases e:p.1=k
  ·rw[e_ e,e_ (h1.symm.trans e)];exact⟨h1,ry⟩
  ·rw[d_ e,d_ (fun z=>e (h1.trans z))];exact⟨h1,h2⟩
theorem KV.put {kvs:List (κ×V)}{vs:List (κ×Ψ)}(r:KV kvs vs)(k:κ){y:V}{u:Ψ}(ry:RelV y u):KV (putK kvs k y) (stored vs k u):=by
 unfold putK stored;rw[r.any k];by_cases e:(vs.any fun kv=>decide (kv.1=k))=Θ
 ·rw[e_ e,e_ e];exact r.TY k ry
 ·rw[d_ e,d_ e];exact Paired.snoc r ⟨rfl,ry⟩
theorem KV.length {kvs:List (κ×V)}{vs:List (κ×Ψ)}(r:KV kvs vs):kvs.length=vs.length:=Paired.length r
end
theorem pZ {P:Ε}{w:Β}{k:Key}{u:Ψ}(r:RelV (kV k) u):(iH P w).is k u=Θ:=by
 cases k with
 |inl i=>obtain⟨t,e⟩:=(show ∃t,u=Value.int i t from r);subst e;exact pM P w i t
 |inr x=>obtain⟨t,e⟩:=(show ∃t,u=Value.str x t from r);subst e;exact pN P w x t
section
variable {P:Ε}{w:Β}{H:Hp}{h:Heap}{a:Ω}
theorem vp {u:HO}(ok:J6 P w H h)(e:Rd H a u):hU P w H h a u:=e.ok ok
theorem p0 {kvs:List (Key×V)}(ok:J6 P w H h)(e:Rd H a (.dK kvs)):kvs.length<=Ζ/\(a == sysModules)=Ξ/\∃vs,KV kvs vs/\h.DictOf (iH P w) a vs:=
 show hU P w H h a (.dK kvs) from vp ok e
theorem EO {kvs:List (Key×V)}(ok:J6 P w H h)(e:H a=Δ (.dK kvs)):kvs.length<=Ζ/\(a == sysModules)=Ξ/\∃vs,KV kvs vs/\h.DictOf (iH P w) a vs:=p0 ok (.inl e)
end
def oy (H:Hp)(a:Ω)(y:V)(r:Option V):Prop:=
 ∃kvs k,Rd H a (.dK kvs)/\y=kV k/\r=ka kvs k
def ER (H:Hp)(a:Ω)(y v:V)(H':Hp):Prop:=
 ∃kvs k,H a=Δ (.dK kvs)/\y=kV k/\kvs.length < Ζ/\H'=upd H a (.dK (putK kvs k v))
section
variable {X:Cx}{pins:List (Ω×Obj)}{σ:St}{H:Hp}{s:Α}{a:Ω}{y v:V}{u r:Ψ}{o:Option V}{A:Ι}{E:Ψ->Α->Prop}
theorem Inv.big (I:Inv X pins σ H s):sysModules < s.heap.objs.size:=by have h:Η < s.heap.objs.size:=(I.mod.glob.keeps I.bk).lt;exact Nat.lt_trans (by decide) h
theorem ud {Q:Ψ->Α->Prop}(hu:A.units+1 < cLine)(I:Inv X pins σ H s)(g:oy H a y (Δ v))(ry:RelV y u)(h:∀w' s',Inv X pins σ H s'->RelV v w'->Q w' s') :
  Κ (Μ X.prog X.w) A (getItem (.ref a) u) Q E s:=by
 obtain⟨kvs,k,e,ey,l⟩:=g;subst ey;obtain⟨z,hd,vs,rel,dd⟩:=p0 I.Jq e;obtain⟨w',hw,NX⟩:=l8.some_of (v:=v) (o:=valueAt vs k) (by rw[l];exact rel.val k);exact wpAny_getItem_of (pZ ry) dd.mapOf hw (h w' _ (I.tok _) NX)
theorem Hv {Q:Ψ->Α->Prop}(hu:A.units+1 < cLine)(I:Inv X pins σ H s)(g:oy H a y o)(ry:RelV y u)(h:∀s',Inv X pins σ H s'->Q (.bool o.isSome) s') :
  Κ (Μ X.prog X.w) A (compareOp .In u (.ref a)) Q E s:=by
 obtain⟨kvs,k,e,ey,l⟩:=g;subst ey;obtain⟨z,hd,vs,rel,dd⟩:=p0 I.Jq e;refine wpAny_in_of (pZ ry) hd dd.mapOf ?_;rw[<- (rel.val k).KH,<- l];exact h _ (I.tok _)
theorem zk {Q:Ψ->Α->Prop}(hu:A.units+1 < cLine)(I:Inv X pins σ H s)(g:oy H a y o)(ry:RelV y u)(h:∀s',Inv X pins σ H s'->Q (.bool (!o.isSome)) s') :
  Κ (Μ X.prog X.w) A (compareOp .NotIn u (.ref a)) Q E s:=by
 obtain⟨kvs,k,e,ey,l⟩:=g;subst ey;obtain⟨z,hd,vs,rel,dd⟩:=p0 I.Jq e;refine wpAny_notIn_of (pZ ry) hd dd.mapOf ?_;rw[<- (rel.val k).KH,<- l];exact h _ (I.tok _)
theorem sk {h':Heap}{t':Nat}{ob:HO}(I:Inv X pins σ H s)(mu:Qw (H a))(hs:Heap.SameBut a s.heap h')(he:∃q,h'.get? a=Δ q)(new:hU X.prog X.w (upd H a ob) h' a ob) :
  Inv X pins σ (upd H a ob) {s with heap:=h',toks:=t'}:=
 I.write (x:=a) (e:=a) mu (.inl rfl) (fun b q hb z=>(hs.2 b hb).trans z) he new
theorem Cv {P:Ε}{w:Β}{H':Hp}{h':Heap}{kvs:List (Key×V)}{vs:List (Key×Ψ)}(z:kvs.length<=Ζ)(hd:(a == sysModules)=Ξ)(rel:KV kvs vs)(dd:h'.DictOf (iH P w) a vs) :
  hU P w H' h' a (.dK kvs):=⟨z,hd,vs,rel,dd⟩
theorem ue {H':Hp}{Q:Unit->Α->Prop}(hu:A.units+1 < cLine)(I:Inv X pins σ H s)(g:ER H a y v H')(ry:RelV y u)(rv:RelV v r)(h:∀s',Inv X pins σ H' s'->Q () s') :
  Κ (Μ X.prog X.w) A (setItem (.ref a) u r) Q E s:=by
 obtain⟨kvs,k,e,ey,l,eH⟩:=g;subst ey eH;obtain⟨z,hd,vs,rel,dd⟩:=EO I.Jq e;have hz:vs.length<=Ζ:=by rw[<- rel.length];exact z
 have hl:(putK kvs k v).length<=Ζ:=by have:=pY kvs k v;omega
 refine wpAny_setItem_pairs (hsz:=hz) (pZ ry) dd fun h' Sk hs=>h _ ?_;have he:∃q,h'.get? a=Δ q:=let ⟨q,_,_,hq,_⟩:=Sk;⟨q,hq⟩;exact sk I (by rw[e];exact True.intro) hs he (Cv hl hd (rel.put k rv) Sk)
end
def ES (i:Expr):Prop:=∀ov iv,subscripted i Ξ ov iv=operate [ov,iv] (getItem ov iv)
theorem zm {prog:Ε}{w:Β}{A:Ι}{E:Ψ->Α->Prop}{s:Α}{env:Env}{value slice:Expr}{pos:Pos}{T id:String}{Q:Ψ->Α->Prop}
  (hl:typeLookup (.type T) "__getitem__" = pure (Δ (.builtin id))) (hs:ES slice)
  (h:Κ (Μ prog w) A (eval value env) (fun o Jn=>Κ (Μ prog w) A (eval slice env) (fun i LS=>LS.TypeIs o T/\Κ (Μ prog w) A (getItem o i) Q E LS) E Jn) E s) :
  Κ (Μ prog w) A (eval (.Subscript value slice pos) env) Q E s:=by
 refine Subscript_ (wpAny_mono h (fun o Jn N3=>wpAny_mono N3 (fun i LS Ml=>?_) fun _ _ x=>x) fun _ _ x=>x);obtain⟨hT,Ml⟩:=Ml;unfold subscriptTail;refine a_ ?_;rw[getitemInPython_of_ne hT.not_modules];refine a_ (wpAny_specialOf hT hl ?_);have fin:Κ (Μ prog w) A (subscripted slice Ξ o i) (fun r N2=>Κ (Μ prog w) A (letTemporaryGo value o r >>= fun _=>pure r) Q E N2) E LS:=by rw[hs o i];exact wpAny_operating (wpAny_mono Ml (fun r N2 TZ=>a_ (wpAny_letTemporaryGo (f_ TZ))) fun _ _ x=>x)
 first
  | exact f_ (a_ fin)
  | exact a_ (f_ (a_ fin))
  | exact a_ fin
theorem p5 {X:Cx}{pins:List (Ω×Obj)}{σ:St}{H:Hp}{s:Α}{a:Ω}{y:V}{o:Option V}(I:Inv X pins σ H s)(g:oy H a y o):s.TypeIs (.ref a) "dict":=by obtain⟨kvs,k,e,_,_⟩:=g;obtain⟨_,_,vs,_,dd⟩:=p0 I.Jq e;exact dd.typeIs
def ET (td ty:TE):TE:=fun σ H Q=>td σ H fun x H1=>ty σ H1 fun y H2=>∃a v,x=.ref a/\oy H2 a y (Δ v)/\Q v H2
def Hw (ty td:TE):TE:=fun σ H Q=>ty σ H fun y H1=>td σ H1 fun x H2=>∃a o,x=.ref a/\oy H2 a y o/\Q (.bl o.isSome) H2
def zo (ty td:TE):TE:=fun σ H Q=>ty σ H fun y H1=>td σ H1 fun x H2=>∃a o,x=.ref a/\oy H2 a y o/\Q (.bl (!o.isSome)) H2
def EU (td ty tv:TE):TS:=fun D σ H=>tv σ H fun v H1=>td σ H1 fun x H2=>ty σ H2 fun y H3=>∃a H4,x=.ref a/\ER H3 a y v H4/\D.nx σ H4
section
variable {X:Cx}{o i e value:Expr}{pos pos' XI:Pos}{td ty tv:TE}
theorem zp (hu:X.A.units+1 < cLine)(ho:PE X o td)(hi:PE X i ty)(hs:ES i):PE X (.Subscript o i pos) (ET td ty):=by intro pins s σ H Q I h;refine zm PySem.F.slot_dict_getitem.lookup hs (Jr (ho pins s σ H _ I h) fun u s1 ⟨x,H1,I1,rx,q1⟩=>Jr (hi pins s1 σ H1 _ I1 q1) fun iv s2 ⟨y,H2,I2,ry,a,v,ex,g,q2⟩=>?_);subst ex;obtain rfl:u=θ a:=rx;exact⟨p5 I2 g,ud hu I2 g ry fun w' s3 I3 NX=>⟨v,H2,I3,NX,q2⟩⟩
theorem vq (hu:X.A.units+1 < cLine)(hi:PE X i ty)(ho:PE X o td):PC X .In i o (Hw ty td):=by intro pins s σ H Q I h;refine Jr (hi pins s σ H _ I h) fun iv s1 ⟨y,H1,I1,ry,q1⟩=>Jr (ho pins s1 σ H1 _ I1 q1) fun u s2 ⟨x,H2,I2,rx,a,ov,ex,g,q2⟩=>?_;subst ex;obtain rfl:u=θ a:=rx;exact Hv hu I2 g ry fun s3 I3=>⟨.bl ov.isSome,H2,I3,rfl,q2⟩
theorem nP (hu:X.A.units+1 < cLine)(hi:PE X i ty)(ho:PE X o td):PC X .NotIn i o (zo ty td):=by intro pins s σ H Q I h;refine Jr (hi pins s σ H _ I h) fun iv s1 ⟨y,H1,I1,ry,q1⟩=>Jr (ho pins s1 σ H1 _ I1 q1) fun u s2 ⟨x,H2,I2,rx,a,ov,ex,g,q2⟩=>?_;subst ex;obtain rfl:u=θ a:=rx;exact zk hu I2 g ry fun s3 I3=>⟨.bl (!ov.isSome),H2,I3,rfl,q2⟩
theorem zq (hu:X.A.units+1 < cLine)(ho:PE X o td)(hi:PE X i ty)(hv:PE X value tv)(hs:swapsWith value (Δ (.Subscript o i pos')) pos.line X.env=pure Ξ) :
  PS X (.Assign [.Subscript o i pos'] value pos) (EU td ty tv):=by
 intro pins s σ H D I h;refine wpAny_Assign_Subscript (Jr (hv pins s σ H _ I h) fun r s1 ⟨v,H1,I1,rv,q1⟩=>Jr (ho pins s1 σ H1 _ I1 q1) fun u s2 ⟨x,H2,I2,rx,q2⟩=>Jr (hi pins s2 σ H2 _ I2 q2) fun iv s3 ⟨y,H3,I3,ry,a,H4,ex,g,q3⟩=>?_) hs;subst ex;obtain rfl:u=θ a:=rx;exact ue hu I3 g ry rv fun s4 I4=>⟨σ,H4,I4,q3⟩
end
theorem vt {P:Ε}{w:Β}{H:Hp}(h:Heap)(hb:sysModules < h.objs.size):hU P w H (h.push {cls:=.type "dict",data:=.dict #[]}) h.objs.size (.dK []):=
 ⟨aaa _,beq_eq_false_iff_ne.mpr (Ne.symm (z_ hb)),[],.nil,Heap.DictOf.new h⟩
def Cw:TE:=fun _ H Q=>∀p,H p=Φ->Q (.ref p) (upd H p (.dK []))
section
variable {X:Cx}{pos:Pos}
theorem p6:PE X (.Dict [] [] pos) Cw:=fun pins s σ H Q I h=>
 wpAny_Dict_empty ⟨.ref s.heap.objs.size,_,I.laid (a:=s.heap.objs.size) (o:=.dK []) (t':=s.toks) (fun _ _ q=>n_ _ q) (l_ _) (vt s.heap I.big),rfl,h _ (I.Jq.fresh (l_ _))⟩
end
structure M2 (X:Cx)(o:Expr)(m:Str)(apos:Pos)(e f:Expr)(Jm:Pos):Prop where
 base:attributeBase o m X.env (eval o X.env)=eval o X.env
 K9:((backTo Jm (Ν [e,f] X.env)).all (fun x=>!x.1)&&(backToKw Jm (keywordEach [] X.env)).all (fun x=>x.1.isSome)
 &&decide (([e,f]:List Expr).length+([]:List Keyword).length+(if([]:List Keyword).isEmpty then 0 else 1) < 30))=Θ
 line:(apos.endLine == Jm.line)=Θ
 trees:backTo Jm (Ν [e,f] X.env)=[(Ξ,eval e X.env),(Ξ,eval f X.env)]
noncomputable def kp (kvs:List (List TK×Ω×V)):List (List TK×V):=kvs.map fun p=>(p.1,p.2.2)
noncomputable def lN (kvs:List (List TK×Ω×V))(k:List TK)(b:Ω)(v:V):List (List TK×Ω×V):=
 if(kvs.any fun p=>decide (p.1=k))=Θ then kvs.map (fun p=>if p.1=k then(p.1,p.2.1,v) else p) else kvs++[(k,b,v)]
theorem vv (kvs:List (List TK×Ω×V))(k:List TK)(b:Ω)(v:V):kp (lN kvs k b v)=putK (kp kvs) k v:=by
 have e:(kvs.any fun p=>decide (p.1=k))=(kp kvs).any fun p=>decide (p.1=k):=by unfold kp;rw[List.any_map];rfl
 unfold lN putK;rw[e];split
 ·unfold kp;rw[Y_,Y_];refine aan fun p _=>?_;show(_:List TK×V)=if p.1=k then(p.1,v) else(p.1,p.2.2)
  by_cases h:p.1=k
  ·simp[h]
  ·simp[h]
 ·unfold kp;rw[C_];rfl
theorem vw {kvs:List (List TK×Ω×V)}{k:List TK}{b:Ω}{v:V}{P:List TK->Ω->Prop}(h:∀p∈kvs,P p.1 p.2.1)(hb:P k b):∀p∈lN kvs k b v,P p.1 p.2.1:=by
 intro p hp;unfold lN at hp;split at hp
 ·obtain⟨q,hq,rfl⟩:=List.mem_map.mp hp;have z:=h q hq;split
  ·exact z
  ·exact z
 ·rcases o_.mp hp with hp|hp
  ·exact h p hp
  ·rw[t_.mp hp];exact hb
def ml (K:Frag)(H:Hp)(kvs:List (List TK×Ω×V)):Prop:=∀p∈kvs,JC K H p.2.1 (p.1.map Na)
theorem Cy {P:Ε}{w:Β}{k:TK}{u:Ψ}(r:RelV (Na k) u):(nv P w).is k u=Θ:=by
 cases k with
 |none=>cases(show u=Value.none from r);rfl
 |some k=>exact pZ (P:=P) (w:=w) r
theorem mq {P:Ε}{w:Β}:∀ {ks:List TK}{us:List Ψ},Vals (ks.map Na) us->ItemsAre (nv P w) ks us
 |[],_,r=>by rw[List.map_nil]at r;cases r;exact .nil
 |k::ks,_,r=>by
  rw[b_]at r;cases r with
  |cons h t=>exact .cons (Cy h) (mq t)
theorem TR.val {kvs:List (List TK×Ω×V)}{xs:List (List TK×Ω×Ψ)}(r:TR kvs xs)(k:List TK):l8 (ka (kp kvs) k) ((atKey xs k).map (·.2)):=by
 induction r with
 |nil=>exact True.intro
 | @cons p q ps qs h t ih=>
  obtain⟨h1,_,h2⟩:=h;have e0:kp (p::ps)=(p.1,p.2.2)::kp ps:=rfl;rw[e0];by_cases e:p.1=k
  ·have b:atKey (q::qs) k=Δ q.2:=by have e':q.1=k:=h1.symm.trans e;simp[atKey,List.find?_cons,e']
   rw[mi (p:=(p.1,p.2.2)) e,b];exact h2
  ·have b:atKey (q::qs) k=atKey qs k:=by have e':¬q.1=k:=fun z=>e (h1.trans z);simp[atKey,List.find?_cons,e']
   rw[mj (p:=(p.1,p.2.2)) e,b];exact ih
theorem TR.put {kvs:List (List TK×Ω×V)}{xs:List (List TK×Ω×Ψ)}(r:TR kvs xs)(k:List TK){b:Ω}{y:V}{u:Ψ}(ry:RelV y u):TR (lN kvs k b y) (storedH xs k b u):=by
 have e:(kvs.any fun p=>decide (p.1=k))=(atKey xs k).isSome:=by have z:=(r.val k).KH;rw[Option.isSome_map,<- pX]at z;rw[<- z];unfold kp;rw[List.any_map];rfl
 unfold lN storedH;rw[e];by_cases q:(atKey xs k).isSome=Θ
 ·rw[e_ q,e_ q];clear e q
  induction r with
  |nil=>exact .nil
  | @cons p q ps qs h t ih=>
   refine .cons ?_ ih;obtain⟨h1,h2,h3⟩:=h;unfold putAt;dsimp only;by_cases e:p.1=k
   ·rw[e_ e,e_ (h1.symm.trans e)];exact⟨h1,h2,ry⟩
   ·rw[d_ e,d_ (fun z=>e (h1.trans z))];exact⟨h1,h2,h3⟩
 ·rw[d_ q,d_ q];exact Paired.snoc r ⟨rfl,rfl,ry⟩
section
variable {X:Cx}{pins:List (Ω×Obj)}{σ:St}{H:Hp}{s:Α}{a b:Ω}{v d:V}{u r:Ψ}{kvs:List (List TK×Ω×V)}{k:List TK}{A:Ι}{E:Ψ->Α->Prop}
theorem rg (I:Inv X pins σ H s)(e:JC X.K H b (k.map Na)):(tupleKind (nv X.prog X.w)).is s.heap k b:=by obtain⟨its,r,⟨o,h1,h2,n,h3⟩,_⟩:=I.tuple e;exact⟨o,its.toArray,n,h1,h2,h3,by simpa using mq r⟩
theorem Bb (I:Inv X pins σ H s)(e:Rd H a (.dT kvs))(t:ml X.K H kvs):kvs.length<=Ζ/\(a == sysModules)=Ξ/\∃xs,TR kvs xs/\s.heap.DictOfH (tupleKind (nv X.prog X.w)) a xs:=by
 obtain⟨z,y,xs,r,o,es,ep,h1,h2,h3,h4,h5⟩:=(show hU X.prog X.w H s.heap a (.dT kvs) from vp I.Jq e)
 refine⟨z,y,xs,r,o,es,ep,h1,h2,h3,h4,?_,h5⟩;clear h4 h5 z e
 induction r with
 |nil=>intro x hx;exact nomatch hx
 | @cons p q ps qs hq _ ih=>
  intro x hx;rcases k_.mp hx with e|hx
  ·subst e;rw[<- hq.1,<- hq.2.1];exact rg I (t p (.head _))
  ·exact ih (fun p hp=>t p (.tail _ hp)) x hx
theorem Cz {Q:Ψ->Α->Prop}(hu:A.units+1 < cLine)(I:Inv X pins σ H s)(e:Rd H a (.dT kvs))(t:ml X.K H kvs)(eb:JC X.K H b (k.map Na))(rd:RelV d r)(h:∀w' s',Inv X pins σ H s'->RelV ((ka (kp kvs) k).getD d) w'->Q w' s') :
  Κ (Μ X.prog X.w) A (call (.builtin "dict.get") [.ref a,.ref b,r]) Q E s:=by
 obtain⟨z,hd,xs,rel,dd⟩:=Bb I e t;exact call_meetsIn PySem.F.slot_dict_get dd.typeIs PySem.F.entry_dict_get (PySem.F.args_dict_get_3 _ _ _) (meetsH_dict_get_default (tupleKind (nv X.prog X.w)) a b hd r) ⟨tupleKind_room_in1 hu,k,xs,rg I eb,dd,h _ _ (I.tok _) ((rel.val k).getD rd)⟩
theorem CA {Q:Unit->Α->Prop}(hu:A.units+1 < cLine)(I:Inv X pins σ H s)(e:H a=Δ (.dT kvs))(t:ml X.K H kvs)(eb:JC X.K H b (k.map Na))(l:kvs.length < Ζ)(rv:RelV v r)(h:∀s',Inv X pins σ (upd H a (.dT (lN kvs k b v))) s'->Q () s') :
  Κ (Μ X.prog X.w) A (setItem (.ref a) (.ref b) r) Q E s:=by
 obtain⟨z,hd,xs,rel,dd⟩:=Bb I (.inl e) t;have hz:xs.length<=Ζ:=by rw[<- Paired.length rel];exact z
 have hl:(lN kvs k b v).length<=Ζ:=by
  unfold lN;split
  ·rw[i_];omega
  ·rw[g_,V_];omega
 refine wpAny_setItem_heap (hsz:=hz) (tupleKind_room_in1 hu) (rg I eb) dd fun h' Sk hs=>h _ ?_;obtain⟨q,es,ep,hq,h2,h3,h4,_,h5⟩:=Sk;exact sk I (by rw[e];exact True.intro) hs ⟨q,hq⟩ ⟨hl,hd,_,rel.put k rv,q,es,ep,hq,h2,h3,h4,h5⟩
end
def CB (K:Frag)(td ty tx:TE):TE:=fun σ H Q=>td σ H fun x H1=>∃a,x=.ref a/\(∃kvs,Rd H1 a (.dT kvs))/\ty σ H1 fun y H2=>tx σ H2 fun z H3=>∃kvs k b,Rd H3 a (.dT kvs)/\ml K H3 kvs/\y=.ref b/\JC K H3 b (k.map Na)/\Q ((ka (kp kvs) k).getD z) H3
def CC (K:Frag)(td ty tv:TE):TS:=fun D σ H=>tv σ H fun v H1=>td σ H1 fun x H2=>ty σ H2 fun y H3=>∃a kvs k b,x=.ref a/\H3 a=Δ (.dT kvs)/\ml K H3 kvs/\y=.ref b/\JC K H3 b (k.map Na)/\kvs.length < Ζ/\D.nx σ (upd H3 a (.dT (lN kvs k b v)))
def CD:TE:=fun _ H Q=>∀p,H p=Φ->Q (.ref p) (upd H p (.dT []))
section
variable {X:Cx}{o i e f value:Expr}{pos pos' apos Jm:Pos}{td ty tx tv:TE}
theorem vx (hu:X.A.units+1 < cLine)(ho:PE X o td)(he:PE X e ty)(hf:PE X f tx)(m:M2 X o "get" apos e f Jm):PE X (.Call (.Attribute o "get" apos) [e,f] [] Jm) (CB X.K td ty tx):=by
 intro pins s σ H Q I h;refine wpAny_Call_method m.base m.K9 m.line PySem.F.plainAttrs_dict PySem.F.slot_dict_get PySem.F.type_dict_get (Jr (ho pins s σ H _ I h) fun u s1 ⟨x,H1,I1,rx,a,ex,⟨kvs,d⟩,q1⟩=>?_);subst ex;obtain rfl:u=θ a:=rx;obtain⟨_,_,xs,_,ob,es,ep,h1,h2,_⟩:=(show hU X.prog X.w H1 s1.heap a (.dT kvs) from vp I1.Jq d)
 refine⟨⟨ob,h1,h2.1⟩,fun b q=>?_,?_⟩
 ·cases q;exact⟨ob,h1,h2.2.1⟩
 rw[m.trees]
 refine Calls.callWith_builtin rfl (Calls.evalArgs_plain (Calls.spliced_cons (Jr (he pins s1 σ H1 _ I1 q1) fun iv s2 ⟨y,H2,I2,ry,q2⟩=>
  Calls.spliced_cons (Jr (hf pins s2 σ H2 _ I2 q2) fun fv s3 ⟨z,H3,I3,rz,MQ,k,b,e3,t3,ey,eb,q3⟩=>Calls.spliced_nil ?_))))
 subst ey;cases(show iv=θ b from ry);exact Cz hu I3 e3 t3 eb rz fun w' s4 I4 NX=>⟨_,H3,I4,NX,q3⟩
theorem vy (hu:X.A.units+1 < cLine)(ho:PE X o td)(hi:PE X i ty)(hv:PE X value tv)(hs:swapsWith value (Δ (.Subscript o i pos')) pos.line X.env=pure Ξ) :
  PS X (.Assign [.Subscript o i pos'] value pos) (CC X.K td ty tv):=by
 intro pins s σ H D I h;refine wpAny_Assign_Subscript (Jr (hv pins s σ H _ I h) fun r s1 ⟨v,H1,I1,rv,q1⟩=>Jr (ho pins s1 σ H1 _ I1 q1) fun u s2 ⟨x,H2,I2,rx,q2⟩=>Jr (hi pins s2 σ H2 _ I2 q2) fun iv s3 ⟨y,H3,I3,ry,a,kvs,k,b,ex,e3,t3,ey,eb,l,q3⟩=>?_) hs;subst ex ey;obtain rfl:u=θ a:=rx;cases(show iv=θ b from ry);exact CA hu I3 e3 t3 eb l rv fun s4 I4=>⟨σ,_,I4,q3⟩
theorem p7:PE X (.Dict [] [] pos) CD:=fun pins s σ H Q I h=>
 wpAny_Dict_empty ⟨.ref s.heap.objs.size,_,I.laid (a:=s.heap.objs.size) (o:=.dT []) (t':=s.toks) (fun _ _ q=>n_ _ q) (l_ _) ⟨aaa _,beq_eq_false_iff_ne.mpr (Ne.symm (z_ I.big)),[],.nil,_,#[],0,A_ _ rfl,⟨rfl,rfl,rfl⟩,rfl,rfl,.nil⟩,rfl,h _ (I.Jq.fresh (l_ _))⟩
end
noncomputable def VR:Nat->V->V->Bool
 |0,.str y,.str x=>decide ((y.length:Int) > x.length)
 |1,.int y,.int x=>decide (y > x)
 |2,.int y,.int x=>decide (y < x)
 |_,_,_=>Ξ
noncomputable def MR (m:Nat)(a:V):List V->V
 |[]=>a
 |y::r=>MR m (bif VR m y a then y else a) r
def NG:Nat->V->Prop
 |0,v=>∃x:Str,v=.str x/\x.length<=Ζ
 |_,v=>∃i,v=.int i
def EV:Nat->V->Ψ->Ψ->Prop
 |0,a,_,u=>∃(x:Str) (t:Tok),a=.str x/\u=.int x.length t
 |_,_,v,u=>u=v
@[reducible] def Sl:Nat->String
 |2=>"min.loop"
 |_=>"max.loop"
@[reducible] def N4:Nat->String
 |2=>"min"
 |_=>"max"
@[reducible] def Sn:Nat->Ψ
 |0=>.builtin "len"
 |_=>.none
@[reducible] def So:Nat->List (Str×Ψ)
 |0=>[]
 |_=>[("default",.none)]
theorem CF {m:Nat}{a y:V}{b:Bool}(ha:NG m a)(hy:NG m y):NG m (bif b then y else a):=by cases b<;>assumption
section
variable {prog:Ε}{w:Β}{A:Ι}{R:Result->Α->Prop}
theorem oz {m:Nat}(hm:m=0∨m=1∨m=2)(hh:A.handled=Φ){I ax S:Ω}(Kx:ax≠I)(K':S≠I)(MS:S≠ax){its:List Ψ} :
  ∀(rest:List V) (j:Nat) (a:V) (s:Α) (vb ub:Ψ) (c:Nat),Vals rest (its.drop j)->(∀v∈rest,NG m v)->NG m a->RelV a vb->EV m a vb ub->(s.heap.IsListIter I ax j/\s.heap.IsList ax its.toArray)->
  s.heap.get? S=Δ {cls:=.type "list",dict:=Φ,data:=.seq #[vb,ub] c,slots:=#[]}->
  (∀v h' tk,RelV (MR m a rest) v->(∀b o,b≠I->b≠S->s.heap.get? b=Δ o->h'.get? b=Δ o)->R (.ok (.ret v)) {s with heap:=h',toks:=tk})->
  codeAny (Μ prog w) A (.builtin (Sl m) ⟨[.ref I,Sn m,.ref S],So m⟩) R s:=by
 have n1:(toString "max"++toString ".loop" : String) = "max.loop":=by decide
 have n2:(toString "min"++toString ".loop" : String) = "min.loop":=by decide
 intro rest
 induction rest with
 |nil=>
  intro j a s vb ub c hr _ ha rb kb st hS hR;have hx:its.toArray[j]? = Φ:=by have:=hr.length;rw[aap,List.length_nil]at this;simp;omega
  rcases hm with rfl|rfl|rfl
  ·show codeAny _ A (.builtin "max.loop" ⟨[.ref I,.builtin "len",.ref S],[]⟩) R s;refine codeAny_builtin F.entry_max_loop ?_;rw[U_ F.plain_max_loop _];show Κ _ A.in1 (seqItems? (.ref S) >>= _) _ _ s;refine a_ (N_ hS rfl ?_);show Κ _ A.in1 (tryCatch (pyNext (.ref I)) _ >>= _) _ _ s;refine a_ (wpAny_tryCatch (wpAny_pyNext_list_end (show A.in1.handled=Φ from hh) st.1 st.2 hx fun h' LF=>?_));show Κ _ A.in1 (updateSeq S (fun _=>#[]) >>= _) _ _ _;refine a_ (wpAny_updateSeq (LF S _ K' hS) rfl (a_ (wpAny_letGo (f_ ?_))));exact hR vb _ _ rb fun b o QU Nf e=>(F_ _ _ (Ne.symm Nf)).trans (LF b o QU e)
  ·show codeAny _ A (.builtin "max.loop" ⟨[.ref I,.none,.ref S],[("default",.none)]⟩) R s;refine codeAny_builtin F.entry_max_loop ?_;rw[U_ F.plain_max_loop _];show Κ _ A.in1 (seqItems? (.ref S) >>= _) _ _ s;refine a_ (N_ hS rfl ?_);show Κ _ A.in1 (tryCatch (pyNext (.ref I)) _ >>= _) _ _ s;refine a_ (wpAny_tryCatch (wpAny_pyNext_list_end (show A.in1.handled=Φ from hh) st.1 st.2 hx fun h' LF=>?_));show Κ _ A.in1 (updateSeq S (fun _=>#[]) >>= _) _ _ _;refine a_ (wpAny_updateSeq (LF S _ K' hS) rfl (a_ (wpAny_letGo (f_ ?_))));exact hR vb _ _ rb fun b o QU Nf e=>(F_ _ _ (Ne.symm Nf)).trans (LF b o QU e)
  ·show codeAny _ A (.builtin "min.loop" ⟨[.ref I,.none,.ref S],[("default",.none)]⟩) R s;refine codeAny_builtin F.entry_min_loop ?_;rw[U_ F.plain_min_loop _];show Κ _ A.in1 (seqItems? (.ref S) >>= _) _ _ s;refine a_ (N_ hS rfl ?_);show Κ _ A.in1 (tryCatch (pyNext (.ref I)) _ >>= _) _ _ s;refine a_ (wpAny_tryCatch (wpAny_pyNext_list_end (show A.in1.handled=Φ from hh) st.1 st.2 hx fun h' LF=>?_));show Κ _ A.in1 (updateSeq S (fun _=>#[]) >>= _) _ _ _;refine a_ (wpAny_updateSeq (LF S _ K' hS) rfl (a_ (wpAny_letGo (f_ ?_))));exact hR vb _ _ rb fun b o QU Nf e=>(F_ _ _ (Ne.symm Nf)).trans (LF b o QU e)
 |cons y rest ih=>
  intro j a s vb ub c hr Jq ha rb kb st hS hR;obtain⟨v,hv,ry,Mm⟩:∃v,its[j]? = Δ v/\RelV y v/\Vals rest (its.drop (j+1)):=by
   cases e:its.drop j with
   |nil=>rw[e]at hr;cases hr
   |cons v us=>
    rw[e]at hr;cases hr with
    |cons r1 r2=>
     have e1:its.drop (j+1)=us:=by rw[<- List.drop_drop,e];rfl
     have e2:its[j]? = Δ v:=by rw[<- List.head?_drop,e];rfl
     exact⟨v,e2,r1,by rw[e1];exact r2⟩
  have Ss:=Jq y (.head _);have XJ:∀v∈rest,NG m v:=fun v hv=>Jq v (.tail _ hv);have Qa:∀(b:Bool) (h':Heap) (tk:Nat) (Su:Ψ) (c':Nat),b=VR m y a->EV m (bif b then y else a) (bif b then v else vb) Su->h'.IsListIter I ax (j+1)/\h'.IsList ax its.toArray->
    h'.get? S=Δ {cls:=.type "list",dict:=Φ,data:=.seq #[bif b then v else vb,Su] c',slots:=#[]}->(∀b o,b≠I->b≠S->s.heap.get? b=Δ o->h'.get? b=Δ o)->
    codeAny (Μ prog w) A (.builtin (Sl m) ⟨[.ref I,Sn m,.ref S],So m⟩) R {s with heap:=h',toks:=tk}:=fun b h' tk Su c' hb k' KO JY kp=>by
   refine ih (j+1) (bif b then y else a) {s with heap:=h',toks:=tk} (bif b then v else vb) Su c' Mm XJ (CF ha Ss) ?_ k' KO JY fun v' h2 Pb r2 Pc=>?_
   ·cases b
    ·exact rb
    ·exact ry
   ·rw[hb]at r2;exact hR v' h2 Pb r2 fun b o h1 h2 e=>Pc b o h1 h2 (kp b o h1 h2 e)
  have hx:its.toArray[j]? = Δ v:=by simpa using hv
  have ex:∀ {h':Heap},Heap.SameBut I s.heap h'->∀b o,b≠I->s.heap.get? b=Δ o->h'.get? b=Δ o:=fun hs b o hb e=>hs.extBut b o hb e;rcases hm with rfl|rfl|rfl
  ·show codeAny _ A (.builtin "max.loop" ⟨[.ref I,.builtin "len",.ref S],[]⟩) R s;refine codeAny_builtin F.entry_max_loop ?_;rw[U_ F.plain_max_loop _];obtain⟨x,rfl,hxl⟩:=ha;obtain⟨z,rfl,XM⟩:=Ss;obtain⟨_,tb,ea,rfl⟩:=kb;cases ea;obtain⟨t2,rfl⟩:=ry;have hl:=ki;have hs:Ζ=16777216:=sizeLine_eq;show Κ _ A.in1 (seqItems? (.ref S) >>= _) _ _ s;refine a_ (N_ hS rfl ?_);show Κ _ A.in1 (tryCatch (pyNext (.ref I)) _ >>= _) _ _ s;refine a_ (wpAny_tryCatch (wpAny_pyNext_list_item st.1 st.2 hx fun h' La Ke=>?_));have JY:=ex Ke S _ K' hS;have KO:h'.IsListIter I ax (j+1)/\h'.IsList ax its.toArray:=⟨La,st.2.extBut Ke.extBut Kx⟩
   have MA:∀f,(h'.update S f).IsListIter I ax (j+1)/\(h'.update S f).IsList ax its.toArray:=fun f=>⟨KO.1.at fun o e=>(F_ _ _ K').trans e,KO.2.at fun o e=>(F_ _ _ MS).trans e⟩
   show Κ _ A.in1 (tryCatch (holding [_] (call (.builtin "len") [_])) _ >>= _) _ _ _;refine a_ (wpAny_tryCatch (M_ (len_str (by omega) ?_)));show Κ _ A.in1 (tryCatch (holding [_,_] (richCompare .Gt _ _ >>= _)) _ >>= _) _ _ _;refine a_ (wpAny_tryCatch (M_ (a_ (richCompare_gives (op:=.Gt) (typeIs_int _ _ _) (typeIs_int _ _ _) F.slot_int_gt F.entry_int_gt (F.args_int_gt_2 _ _) (gives_int_gt _ _ _ _) (fun x=>nomatch x) ?_))));refine a_ (M_ (wpAny_truthy_bool ?_));refine a_ (wpAny_letGo (f_ ?_));cases hb:decide ((z.length:Int) > x.length) with
   |true=>simp only[if_true];refine a_ (wpAny_updateSeq JY rfl (a_ (wpAny_letGo ?_)));rw[n1];exact f_ ⟨plainId_quiet F.plain_max_loop _,Qa Θ _ _ _ _ hb.symm ⟨z,_,rfl,rfl⟩ (MA _) (aal _ JY rfl) fun b o h1 h2 e=>(F_ _ _ (Ne.symm h2)).trans (ex Ke b o h1 e)⟩
   |false=>simp only[X_,if_false];refine a_ (wpAny_letGo ?_);rw[n1];exact f_ ⟨plainId_quiet F.plain_max_loop _,Qa Ξ _ _ _ _ hb.symm ⟨x,_,rfl,rfl⟩ KO JY fun b o h1 h2 e=>ex Ke b o h1 e⟩
  ·show codeAny _ A (.builtin "max.loop" ⟨[.ref I,.none,.ref S],[("default",.none)]⟩) R s;refine codeAny_builtin F.entry_max_loop ?_;rw[U_ F.plain_max_loop _];obtain⟨x,rfl⟩:=ha;obtain⟨z,rfl⟩:=Ss;cases(show ub=vb from kb);obtain⟨t1,rfl⟩:=rb;obtain⟨t2,rfl⟩:=ry;show Κ _ A.in1 (seqItems? (.ref S) >>= _) _ _ s;refine a_ (N_ hS rfl ?_);show Κ _ A.in1 (tryCatch (pyNext (.ref I)) _ >>= _) _ _ s;refine a_ (wpAny_tryCatch (wpAny_pyNext_list_item st.1 st.2 hx fun h' La Ke=>?_));have JY:=ex Ke S _ K' hS;have KO:h'.IsListIter I ax (j+1)/\h'.IsList ax its.toArray:=⟨La,st.2.extBut Ke.extBut Kx⟩
   have MA:∀f,(h'.update S f).IsListIter I ax (j+1)/\(h'.update S f).IsList ax its.toArray:=fun f=>⟨KO.1.at fun o e=>(F_ _ _ K').trans e,KO.2.at fun o e=>(F_ _ _ MS).trans e⟩
   show Κ _ A.in1 (tryCatch (holding [_,_] (richCompare .Gt _ _ >>= _)) _ >>= _) _ _ _;refine a_ (wpAny_tryCatch (M_ (a_ (richCompare_gives (op:=.Gt) (typeIs_int _ _ _) (typeIs_int _ _ _) F.slot_int_gt F.entry_int_gt (F.args_int_gt_2 _ _) (gives_int_gt _ _ _ _) (fun x=>nomatch x) ?_))));refine a_ (M_ (wpAny_truthy_bool ?_));refine a_ (wpAny_letGo (f_ ?_));cases hb:decide (z > x) with
   |true=>simp only[if_true];refine a_ (wpAny_updateSeq JY rfl (a_ (wpAny_letGo ?_)));rw[n1];exact f_ ⟨plainId_quiet F.plain_max_loop _,Qa Θ _ _ _ _ hb.symm rfl (MA _) (aal _ JY rfl) fun b o h1 h2 e=>(F_ _ _ (Ne.symm h2)).trans (ex Ke b o h1 e)⟩
   |false=>simp only[X_,if_false];refine a_ (wpAny_letGo ?_);rw[n1];exact f_ ⟨plainId_quiet F.plain_max_loop _,Qa Ξ _ _ _ _ hb.symm rfl KO JY fun b o h1 h2 e=>ex Ke b o h1 e⟩
  ·show codeAny _ A (.builtin "min.loop" ⟨[.ref I,.none,.ref S],[("default",.none)]⟩) R s;refine codeAny_builtin F.entry_min_loop ?_;rw[U_ F.plain_min_loop _];obtain⟨x,rfl⟩:=ha;obtain⟨z,rfl⟩:=Ss;cases(show ub=vb from kb);obtain⟨t1,rfl⟩:=rb;obtain⟨t2,rfl⟩:=ry;show Κ _ A.in1 (seqItems? (.ref S) >>= _) _ _ s;refine a_ (N_ hS rfl ?_);show Κ _ A.in1 (tryCatch (pyNext (.ref I)) _ >>= _) _ _ s;refine a_ (wpAny_tryCatch (wpAny_pyNext_list_item st.1 st.2 hx fun h' La Ke=>?_));have JY:=ex Ke S _ K' hS;have KO:h'.IsListIter I ax (j+1)/\h'.IsList ax its.toArray:=⟨La,st.2.extBut Ke.extBut Kx⟩
   have MA:∀f,(h'.update S f).IsListIter I ax (j+1)/\(h'.update S f).IsList ax its.toArray:=fun f=>⟨KO.1.at fun o e=>(F_ _ _ K').trans e,KO.2.at fun o e=>(F_ _ _ MS).trans e⟩
   show Κ _ A.in1 (tryCatch (holding [_,_] (richCompare .Lt _ _ >>= _)) _ >>= _) _ _ _;refine a_ (wpAny_tryCatch (M_ (a_ (richCompare_gives (op:=.Lt) (typeIs_int _ _ _) (typeIs_int _ _ _) F.slot_int_lt F.entry_int_lt (F.args_int_lt_2 _ _) (gives_int_lt _ _ _ _) (fun x=>nomatch x) ?_))));refine a_ (M_ (wpAny_truthy_bool ?_));refine a_ (wpAny_letGo (f_ ?_));cases hb:decide (z < x) with
   |true=>simp only[if_true];refine a_ (wpAny_updateSeq JY rfl (a_ (wpAny_letGo ?_)));rw[n2];exact f_ ⟨plainId_quiet F.plain_min_loop _,Qa Θ _ _ _ _ hb.symm rfl (MA _) (aal _ JY rfl) fun b o h1 h2 e=>(F_ _ _ (Ne.symm h2)).trans (ex Ke b o h1 e)⟩
   |false=>simp only[X_,if_false];refine a_ (wpAny_letGo ?_);rw[n2];exact f_ ⟨plainId_quiet F.plain_min_loop _,Qa Ξ _ _ _ _ hb.symm rfl KO JY fun b o h1 h2 e=>ex Ke b o h1 e⟩
noncomputable def Sw (m:Nat):List V->V
 |[]=>.Iw
 |a::r=>MR m a r
theorem vz {m:Nat}(hm:m=0∨m=1∨m=2)(hh:A.handled=Φ){I ax S:Ω}(Kx:ax≠I)(K':S≠I)(MS:S≠ax){its:List Ψ}{xs:List V}{s:Α}{c:Nat}(hr:Vals xs its)(Jq:∀v∈xs,NG m v)(h0:m=0->xs≠[])
  (st:s.heap.IsListIter I ax 0/\s.heap.IsList ax its.toArray) (hS:s.heap.get? S=Δ {cls:=.type "list",dict:=Φ,data:=.seq #[] c,slots:=#[]})
  (hR:∀v h' tk,RelV (Sw m xs) v->(∀b o,b≠I->b≠S->s.heap.get? b=Δ o->h'.get? b=Δ o)->R (.ok (.ret v)) {s with heap:=h',toks:=tk}) :
  codeAny (Μ prog w) A (.builtin (Sl m) ⟨[.ref I,Sn m,.ref S],So m⟩) R s:=by
 have n1:(toString "max"++toString ".loop" : String) = "max.loop":=by decide
 have n2:(toString "min"++toString ".loop" : String) = "min.loop":=by decide
 have tl:∀ {y:V}{rest:List V},Vals (y::rest) its->∃v,its.toArray[0]? = Δ v/\RelV y v/\Vals rest (its.drop 1):=fun h=>by
  cases h with
  |cons r1 r2=>exact⟨_,rfl,r1,r2⟩
 rcases hm with rfl|rfl|rfl
 ·show codeAny _ A (.builtin "max.loop" ⟨[.ref I,.builtin "len",.ref S],[]⟩) R s;refine codeAny_builtin F.entry_max_loop ?_;rw[U_ F.plain_max_loop _];show Κ _ A.in1 (seqItems? (.ref S) >>= _) _ _ s;refine a_ (N_ hS rfl ?_);cases xs with
  |nil=>exact(h0 rfl rfl).elim
  |cons y rest=>obtain⟨v,hv,ry,Mm⟩:=tl hr;obtain⟨z,rfl,XM⟩:=Jq y (.head _);obtain⟨t2,rfl⟩:=id ry;have hl:=ki;have hs:Ζ=16777216:=sizeLine_eq;show Κ _ A.in1 (tryCatch (pyNext (.ref I)) _ >>= _) _ _ s;refine a_ (wpAny_tryCatch (wpAny_pyNext_list_item st.1 st.2 hv fun h' La Ke=>?_));have JY:h'.get? S=_:=Ke.extBut S _ K' hS;show Κ _ A.in1 (tryCatch (holding [_] (call (.builtin "len") [_])) _ >>= _) _ _ _;refine a_ (wpAny_tryCatch (M_ (len_str (by omega) ?_)));show Κ _ A.in1 (updateSeq S (fun _=>#[_,_]) >>= _) _ _ _;refine a_ (wpAny_updateSeq JY rfl ?_);rw[n1];refine f_ ⟨plainId_quiet F.plain_max_loop _,oz (m:=0) (.inl rfl) hh Kx K' MS (its:=its) rest 1 _ _ _ _ _ Mm (fun v hv=>Jq v (.tail _ hv)) (Jq _ (.head _)) ry ⟨z,_,rfl,rfl⟩ ⟨La.at fun o e=>(F_ _ _ K').trans e,(st.2.extBut Ke.extBut Kx).at fun o e=>(F_ _ _ MS).trans e⟩ (aal _ JY rfl) fun v' h2 Pb r2 Pc=>?_⟩;exact hR v' h2 Pb r2 fun b o h1 h2 e=>Pc b o h1 h2 ((F_ _ _ (Ne.symm h2)).trans (Ke.extBut b o h1 e))
 ·show codeAny _ A (.builtin "max.loop" ⟨[.ref I,.none,.ref S],[("default",.none)]⟩) R s;refine codeAny_builtin F.entry_max_loop ?_;rw[U_ F.plain_max_loop _];show Κ _ A.in1 (seqItems? (.ref S) >>= _) _ _ s;refine a_ (N_ hS rfl ?_);cases xs with
  |nil=>show Κ _ A.in1 (tryCatch (pyNext (.ref I)) _ >>= _) _ _ s;refine a_ (wpAny_tryCatch (wpAny_pyNext_list_end (show A.in1.handled=Φ from hh) st.1 st.2 (by cases hr;rfl) fun h' LF=>?_));exact a_ (wpAny_rule (f_ (hR _ h' _ rfl fun b o h1 h2 e=>LF b o h1 e)))
  |cons y rest=>obtain⟨v,hv,ry,Mm⟩:=tl hr;show Κ _ A.in1 (tryCatch (pyNext (.ref I)) _ >>= _) _ _ s;refine a_ (wpAny_tryCatch (wpAny_pyNext_list_item st.1 st.2 hv fun h' La Ke=>?_));have JY:h'.get? S=_:=Ke.extBut S _ K' hS;show Κ _ A.in1 (updateSeq S (fun _=>#[_,_]) >>= _) _ _ _;refine a_ (wpAny_updateSeq JY rfl ?_);rw[n1];refine f_ ⟨plainId_quiet F.plain_max_loop _,oz (m:=1) (.inr (.inl rfl)) hh Kx K' MS (its:=its) rest 1 _ _ _ _ _ Mm (fun v hv=>Jq v (.tail _ hv)) (Jq _ (.head _)) ry rfl ⟨La.at fun o e=>(F_ _ _ K').trans e,(st.2.extBut Ke.extBut Kx).at fun o e=>(F_ _ _ MS).trans e⟩ (aal _ JY rfl) fun v' h2 Pb r2 Pc=>?_⟩;exact hR v' h2 Pb r2 fun b o h1 h2 e=>Pc b o h1 h2 ((F_ _ _ (Ne.symm h2)).trans (Ke.extBut b o h1 e))
 ·show codeAny _ A (.builtin "min.loop" ⟨[.ref I,.none,.ref S],[("default",.none)]⟩) R s;refine codeAny_builtin F.entry_min_loop ?_;rw[U_ F.plain_min_loop _];show Κ _ A.in1 (seqItems? (.ref S) >>= _) _ _ s;refine a_ (N_ hS rfl ?_);cases xs with
  |nil=>show Κ _ A.in1 (tryCatch (pyNext (.ref I)) _ >>= _) _ _ s;refine a_ (wpAny_tryCatch (wpAny_pyNext_list_end (show A.in1.handled=Φ from hh) st.1 st.2 (by cases hr;rfl) fun h' LF=>?_));exact a_ (wpAny_rule (f_ (hR _ h' _ rfl fun b o h1 h2 e=>LF b o h1 e)))
  |cons y rest=>obtain⟨v,hv,ry,Mm⟩:=tl hr;show Κ _ A.in1 (tryCatch (pyNext (.ref I)) _ >>= _) _ _ s;refine a_ (wpAny_tryCatch (wpAny_pyNext_list_item st.1 st.2 hv fun h' La Ke=>?_));have JY:h'.get? S=_:=Ke.extBut S _ K' hS;show Κ _ A.in1 (updateSeq S (fun _=>#[_,_]) >>= _) _ _ _;refine a_ (wpAny_updateSeq JY rfl ?_);rw[n2];refine f_ ⟨plainId_quiet F.plain_min_loop _,oz (m:=2) (.inr (.inr rfl)) hh Kx K' MS (its:=its) rest 1 _ _ _ _ _ Mm (fun v hv=>Jq v (.tail _ hv)) (Jq _ (.head _)) ry rfl ⟨La.at fun o e=>(F_ _ _ K').trans e,(st.2.extBut Ke.extBut Kx).at fun o e=>(F_ _ _ MS).trans e⟩ (aal _ JY rfl) fun v' h2 Pb r2 Pc=>?_⟩;exact hR v' h2 Pb r2 fun b o h1 h2 e=>Pc b o h1 h2 ((F_ _ _ (Ne.symm h2)).trans (Ke.extBut b o h1 e))
end
@[reducible] def N5:Nat->List (Str×Ψ)
 |0=>[("key",.builtin "len")]
 |_=>[("default",.none)]
theorem rh:∀ {m:Nat} (hm:m=0∨m=1∨m=2) (a:Ψ),checkBuiltinCall (N4 m) ⟨[a],N5 m⟩=pure ()
 |_,.inl rfl,a=>(by kernel_rfl:checkBuiltinCall "max" ⟨[a],[("key",.builtin "len")]⟩=pure ())
 |_,.inr (.inl rfl),a=>(by kernel_rfl:checkBuiltinCall "max" ⟨[a],[("default",.none)]⟩=pure ())
 |_,.inr (.inr rfl),a=>(by kernel_rfl:checkBuiltinCall "min" ⟨[a],[("default",.none)]⟩=pure ())
section
variable {X:Cx}{pins:List (Ω×Obj)}{σ:St}{H:Hp}{s:Α}
theorem so {m:Nat}(hm:m=0∨m=1∨m=2)(hc:X.calm=Θ)(I:Inv X pins σ H s){p:Ω}{xs:List V}{Q:VK}(hq:JX X.K H p xs)(Jq:∀v∈xs,NG m v)(h0:m=0->xs≠[])(q:Q (Sw m xs) H) :
  Κ (Μ X.prog X.w) X.A (call (.builtin (N4 m)) [.ref p] (N5 m)) (EP X pins σ Q) X.xe s:=by
 obtain⟨its,rv,pl,hz⟩:=I.list hq;have JT:p < s.heap.objs.size:=by obtain⟨o,e,_⟩:=pl.isList;exact m_ e
 have n1:(toString "max"++toString ".loop" : String) = "max.loop":=by decide
 have n2:(toString "min"++toString ".loop" : String) = "min.loop":=by decide
 have hsz:(s.heap.push {cls:=.type "list_iterator",data:=.fields #[.ref p,.int 0 0]}).objs.size=s.heap.objs.size+1:=W_ ..;have go:∀(c:Nat) (R:Result->Α->Prop),(∀v s',EP X pins σ Q v s'->R (.ok (.ret v)) s')->codeAny (Μ X.prog X.w) X.A (.builtin (Sl m) ⟨[.ref s.heap.objs.size,Sn m,.ref (s.heap.push {cls:=.type "list_iterator",data:=.fields #[.ref p,.int 0 0]}).objs.size],So m⟩) R
   {s with heap:=(s.heap.push {cls:=.type "list_iterator",data:=.fields #[.ref p,.int 0 0]}).push {cls:=.type "list",dict:=Φ,data:=.seq #[] c,slots:=#[]}}:=fun c R hR=>by
  refine vz (c:=c) hm (I.ok.hd hc) (z_ JT) (by rw[hsz];exact Nat.succ_ne_self _) (by rw[hsz];exact Ne.symm (z_ (Nat.lt_succ_of_lt JT))) rv Jq h0 ⟨?_,?_⟩ (A_ _ rfl) fun v h' tk r kp=>hR _ _ ⟨_,H,I.kept fun b o e=>?_,r,q⟩
  ·exact⟨_,n_ _ (A_ _ rfl),rfl,rfl⟩
  ·obtain⟨o,e,c,n,d⟩:=pl.isList;exact⟨o,n_ _ (n_ _ e),c,n,d⟩
  ·have:=m_ e;exact kp b o (z_ this) (by rw[hsz];exact z_ (Nat.lt_succ_of_lt this)) (n_ _ (n_ _ e))
 rcases hm with rfl|rfl|rfl
 ·refine wpAny_call (codeAny_call_builtin F.plain_max F.entry_max (wpAny_of_eq (rh (.inl rfl) _) ?_));show Κ _ X.A.in1 (Builtin.Builtins.bindParams "max" ["key","default"] 0 ⟨[],N5 0⟩ >>= _) _ _ s;refine a_ (wpAny_of_eq (show Builtin.Builtins.bindParams "max" ["key","default"] 0 ⟨[],N5 0⟩=pure [Δ (.builtin "len"),Φ] from rfl) ?_);refine a_ (f_ (a_ (aad pl.isList (a_ (Z_ ?_)))));rw[n1];exact f_ ⟨plainId_quiet F.plain_max_loop _,go _ _ fun v s' h=>h⟩
 ·refine wpAny_call (codeAny_call_builtin F.plain_max F.entry_max (wpAny_of_eq (rh (.inr (.inl rfl)) _) ?_));show Κ _ X.A.in1 (Builtin.Builtins.bindParams "max" ["key","default"] 0 ⟨[],N5 1⟩ >>= _) _ _ s;refine a_ (wpAny_of_eq (show Builtin.Builtins.bindParams "max" ["key","default"] 0 ⟨[],N5 1⟩=pure [Φ,Δ .none] from rfl) ?_);refine a_ (f_ (a_ (aad pl.isList (a_ (Z_ ?_)))));rw[n1];exact f_ ⟨plainId_quiet F.plain_max_loop _,go _ _ fun v s' h=>h⟩
 ·refine wpAny_call (codeAny_call_builtin F.plain_min F.entry_min (wpAny_of_eq (rh (.inr (.inr rfl)) _) ?_));show Κ _ X.A.in1 (Builtin.Builtins.bindParams "min" ["key","default"] 0 ⟨[],N5 2⟩ >>= _) _ _ s;refine a_ (wpAny_of_eq (show Builtin.Builtins.bindParams "min" ["key","default"] 0 ⟨[],N5 2⟩=pure [Φ,Δ .none] from rfl) ?_);refine a_ (f_ (a_ (aad pl.isList (a_ (Z_ ?_)))));rw[n2];exact f_ ⟨plainId_quiet F.plain_min_loop _,go _ _ fun v s' h=>h⟩
end
open PySem.Builtin PySem.Builtin.Str
end L2
namespace L2.Zp
open PySem
inductive Kq where
 | l|t
def Sq (k:Kq)(h:Heap)(a:Ω)(xs:Array Ψ):Prop:=match k with
 |.l=>h.IsList a xs
 |.t=>h.IsTuple a xs
def It (k:Kq)(h:Heap)(i a:Ω)(n:Nat):Prop:=match k with
 |.l=>h.IsListIter i a n
 |.t=>h.IsTupleIter i a n
theorem Sq.to {k:Kq}{h h':Heap}{a:Ω}{xs:Array Ψ}(q:Sq k h a xs)(e:∀o,h.get? a=Δ o->h'.get? a=Δ o):Sq k h' a xs:=by
 cases k with
 |l=>obtain⟨o,ho,r⟩:=q;exact⟨o,e o ho,r⟩
 |t=>obtain⟨o,ho,r⟩:=q;exact⟨o,e o ho,r⟩
theorem It.to {k:Kq}{h h':Heap}{i a:Ω}{n:Nat}(q:It k h i a n)(e:∀o,h.get? i=Δ o->h'.get? i=Δ o):It k h' i a n:=by
 cases k with
 |l=>obtain⟨o,ho,r⟩:=q;exact⟨o,e o ho,r⟩
 |t=>obtain⟨o,ho,r⟩:=q;exact⟨o,e o ho,r⟩
theorem It.lt {k:Kq}{h:Heap}{i a:Ω}{n:Nat}(q:It k h i a n):i < h.objs.size:=by
 cases k with
 |l=>obtain⟨o,ho,_⟩:=q;exact m_ ho
 |t=>obtain⟨o,ho,_⟩:=q;exact m_ ho
section
variable {prog:Ε}{w:Β}{A:Ι}{E:Ψ->Α->Prop}{s:Α}
theorem vA {i a:Ω}{n:Nat}{xs:Array Ψ}{x:Ψ}{Q:Ψ->Α->Prop}(c:s.heap.IsTupleIter i a n)(q:s.heap.IsTuple a xs)(hx:xs[n]? = Δ x)
  (k:∀h',h'.IsTupleIter i a (n+1)->Heap.SameBut i s.heap h'->Q x {s with heap:=h'}):Κ (Μ prog w) A (ζ (.ref i)) Q E s:=by
 have ty:=c.typeIs;obtain⟨oi,gi,ci,di⟩:=c;obtain⟨oa,ga,_,na,da⟩:=q;unfold ζ;refine a_ (wpAny_callSpecial?_slot (name:=Ρ "__next__") ty F.slot_tuple_iterator_next (aaf F.slot_tuple_iterator_next ty F.entry_tuple_iterator_next ?_ (F.args_tuple_iterator_next_1 _)));show Κ _ _ (field (.ref i) 0 >>= _) _ _ s;refine a_ (aab gi di (x:=.ref a) rfl ?_);show Κ _ _ (if(θ a == Value.none)=Θ then _ else _) _ _ s;rw[d_ (by intro z;cases z)];show Κ _ _ (field (.ref i) 1 >>= _) _ _ s;refine a_ (aab gi di (x:=.int n 0) rfl ?_);show Κ _ _ (seqItems? (.ref a) >>= _) _ _ s;refine a_ (N_ ga da ?_);simp only[Int.toNat_natCast,hx];refine a_ (wpAny_setField gi di (by simp) (f_ ⟨x,rfl,f_ (k _ ⟨_,aal _ gi (Obj.isFreed_of_fields (Obj.data_mapFields di _)),(Obj.cls_mapFields ..).trans ci,?_⟩ (Heap.SameBut.update ..))⟩));rw[Obj.data_mapFields di];simp[rawInt]
theorem zr {i a:Ω}{n:Nat}{xs:Array Ψ}{Q:Ψ->Α->Prop}(hh:A.handled=Φ)(c:s.heap.IsTupleIter i a n)(q:s.heap.IsTuple a xs)(hx:xs[n]? = Φ)
  (k:∀h' e,Heap.ExtBut i s.heap h'->(∃o,h'.get? e=Δ o/\o.cls=.type "StopIteration")->E (.ref e) {s with heap:=h'}):Κ (Μ prog w) A (ζ (.ref i)) Q E s:=by
 have ty:=c.typeIs;obtain⟨oi,gi,ci,di⟩:=c;obtain⟨oa,ga,_,na,da⟩:=q;unfold ζ;refine a_ (wpAny_callSpecial?_slot (name:=Ρ "__next__") ty F.slot_tuple_iterator_next (aaf F.slot_tuple_iterator_next ty F.entry_tuple_iterator_next ?_ (F.args_tuple_iterator_next_1 _)));show Κ _ _ (field (.ref i) 0 >>= _) _ _ s;refine a_ (aab gi di (x:=.ref a) rfl ?_);show Κ _ _ (if(θ a == Value.none)=Θ then _ else _) _ _ s;rw[d_ (by intro z;cases z)];show Κ _ _ (field (.ref i) 1 >>= _) _ _ s;refine a_ (aab gi di (x:=.int n 0) rfl ?_);show Κ _ _ (seqItems? (.ref a) >>= _) _ _ s;refine a_ (N_ ga da ?_);simp only[Int.toNat_natCast,hx];refine a_ (wpAny_rule (a_ (wpAny_setField gi di (by simp) (a_ ?_))));simp only[newExc,newTuple];refine a_ (Z_ (a_ (m:=firstArgMember _ _) (wpAny_of_eq (a:=Value.none) (by first|rfl|(simp only[firstArgMember];rfl)) (Z_ ?_ (by size_fits)))) (by size_fits));simp only[raiseNew];refine a_ (wpAny_handled ?_)
 first|rw[show A.in1.handled=Φ from hh]|rw[hh]
 exact a_ (f_ (wpAny_throw (k _ _ (((Heap.SameBut.update ..).extBut.push _).push _) ⟨_,A_ _ rfl,rfl⟩)))
theorem oA {k:Kq}{i a:Ω}{n:Nat}{xs:Array Ψ}{x:Ψ}{Q:Ψ->Α->Prop}(c:It k s.heap i a n)(q:Sq k s.heap a xs)(hx:xs[n]? = Δ x)
  (f:∀h',It k h' i a (n+1)->Heap.SameBut i s.heap h'->Q x {s with heap:=h'}):Κ (Μ prog w) A (ζ (.ref i)) Q E s:=by
 cases k with
 |l=>exact wpAny_nextOf_list_item c q hx f
 |t=>exact vA c q hx f
theorem vC {k:Kq}{i a:Ω}{n:Nat}{xs:Array Ψ}{Q:Ψ->Α->Prop}(hh:A.handled=Φ)(c:It k s.heap i a n)(q:Sq k s.heap a xs)(hx:xs[n]? = Φ)
  (f:∀h' e,Heap.ExtBut i s.heap h'->(∃o,h'.get? e=Δ o/\o.cls=.type "StopIteration")->E (.ref e) {s with heap:=h'}):Κ (Μ prog w) A (ζ (.ref i)) Q E s:=by
 cases k with
 |l=>exact wpAny_nextOf_list_end hh c q hx f
 |t=>exact zr hh c q hx f
end
section
variable {prog:Ε}{w:Β}{A:Ι}{E:Ψ->Α->Prop}{s:Α}
def Kept (z TO i j:Ω)(h h':Heap):Prop:=∀c o,c≠z->c≠TO->c≠i->c≠j->h.get? c=Δ o->h'.get? c=Δ o
theorem uf {p q:Kq}{z TI TO i j l m:Ω}{n n':Nat}{xs ys:Array Ψ}{x y a b:Ψ}{Q:Ψ->Α->Prop}(D:ZipApart z TI TO i j l m)(hz:IsZip s.heap z TI TO .none)(hI:IsPair s.heap TI (.ref i) (.ref j))(hO:IsPair s.heap TO a b)
  (ci:It p s.heap i l n) (cj:It q s.heap j m n') (sl:Sq p s.heap l xs) (sm:Sq q s.heap m ys) (hx:xs[n]? = Δ x) (hy:ys[n']? = Δ y)
  (k:∀h',IsZip h' z TI TO (rawInt s.heap.objs.size)->IsPair h' TO x y->It p h' i l (n+1)->It q h' j m (n' + 1)->IsPair h' s.heap.objs.size x y->h'.objs.size=s.heap.objs.size+1->Kept z TO i j s.heap h'->Q (.ref s.heap.objs.size) {s with heap:=h'}) :
  Κ (Μ prog w) A (Builtin.«zip.__next__» ⟨[.ref z],[]⟩) (fun fin s'=>∃v,fin=.done (.ret v)/\Q v s') E s:=by
 show Κ _ _ (field (.ref z) 2 >>= _) _ _ _;refine a_ (aab hz rfl (x:=.bool Ξ) rfl ?_);show Κ _ _ (field (.ref z) 3 >>= _) _ _ _;refine a_ (aab hz rfl (x:=.ref TI) rfl (a_ (N_ hI rfl ?_)));show Κ _ _ (η (.ref z) >>= _) _ _ _;refine a_ ?_;unfold η;refine a_ (aab hz rfl (x:=.none) rfl (f_ ?_));simp only[if_true];refine a_ (wpAny_rule (a_ (aab hz rfl (x:=.ref TO) rfl (a_ (aac hz (by simp) fun h1 z1 e1=>?_)))));have Sy:IsZip h1 z TI TO .ellipsis:=z1;refine a_ ?_;simp only[List.zipIdx_cons,List.zipIdx_nil,List.forIn_cons,List.forIn_nil];refine a_ (a_ (wpAny_onRaise ?_));show Κ _ _ (ζ (.ref i) >>= _) _ _ _;refine a_ (oA (ci.to fun o e=>e1.extBut _ _ D.i1z e) (sl.to fun o e=>e1.extBut _ _ D.l1z e) hx fun h2 VS e2=>f_ ?_);have O2:IsPair h2 TO a b:=e2.extBut _ _ D.TOi1 (e1.extBut _ _ D.TOz hO);refine a_ (N_ O2 rfl (a_ (wpAny_updateSeq_pair O2 fun h3 O3 e3=>?_)));have XN:IsPair h3 TO x b:=O3;refine a_ (wpAny_letGo (f_ (a_ (a_ (wpAny_onRaise ?_)))));show Κ _ _ (ζ (.ref j) >>= _) _ _ _;refine a_ (oA (cj.to fun o e=>e3.extBut _ _ D.TOi2.symm (e2.extBut _ _ D.i12.symm (e1.extBut _ _ D.i2z e))) (sm.to fun o e=>e3.extBut _ _ D.l2TO (e2.extBut _ _ D.l2i1 (e1.extBut _ _ D.l2z e))) hy fun h4 XO e4=>f_ ?_);have O4:IsPair h4 TO x b:=e4.extBut _ _ D.TOi2 XN;refine a_ (N_ O4 rfl (a_ (wpAny_updateSeq_pair O4 fun h5 O5 e5=>?_)));have VT:IsPair h5 TO x y:=O5;refine a_ (wpAny_letGo (f_ (f_ (a_ (N_ VT rfl (a_ (wpAny_newTuple ?_)))))));have sz:h5.objs.size=s.heap.objs.size:=by rw[e5.1,e4.1,e3.1,e2.1,e1.1]
 have z5:IsZip h5 z TI TO .ellipsis:=e5.extBut _ _ D.TOz.symm (e4.extBut _ _ D.i2z.symm (e3.extBut _ _ D.TOz.symm (e2.extBut _ _ D.i1z.symm Sy)));have k5:Kept z TO i j s.heap h5:=fun c o c1 c2 c3 c4 e=>e5.extBut _ _ c2 (e4.extBut _ _ c4 (e3.extBut _ _ c2 (e2.extBut _ _ c3 (e1.extBut _ _ c1 e))));have XQ:It p h5 i l (n+1):=VS.to fun o e=>e5.extBut _ _ D.TOi1.symm (e4.extBut _ _ D.i12 (e3.extBut _ _ D.TOi1.symm e));have XR:It q h5 j m (n' + 1):=XO.to fun o e=>e5.extBut _ _ D.TOi2.symm e;have lz:z < h5.objs.size:=m_ z5;show Κ _ _ (Builtin.SmallTypes.ownedTupleHandOut (.ref z) (.ref h5.objs.size) >>= _) _ _ _;refine a_ ?_;unfold Builtin.SmallTypes.ownedTupleHandOut;have z6:IsZip (h5.push {cls:=.type "tuple",data:=.seq #[x,y]}) z TI TO .ellipsis:=n_ _ z5;refine a_ (aac z6 (by simp) fun h7 z7 e7=>aac (show IsZip h7 z TI TO (rawInt h5.objs.size) from z7) (by simp) fun h8 z8 e8=>?_);have VU:IsZip h8 z TI TO (rawInt h5.objs.size):=z8;have up:∀c o,c≠z->h5.get? c=Δ o->h8.get? c=Δ o:=fun c o c1 e=>e8.extBut _ _ c1 (e7.extBut _ _ c1 (n_ _ e));have t8:IsPair h8 h5.objs.size x y:=e8.extBut _ _ (Nat.ne_of_gt lz) (e7.extBut _ _ (Nat.ne_of_gt lz) (A_ _ rfl));have s8:h8.objs.size=h5.objs.size+1:=by rw[e8.1,e7.1,W_]
 rw[sz]at VU t8 s8;refine f_ ⟨_,rfl,?_⟩;show Q (.ref h5.objs.size) _;rw[sz];exact k h8 VU (up _ _ D.TOz VT) (XQ.to fun o e=>up _ o D.i1z e) (XR.to fun o e=>up _ o D.i2z e) t8 s8 fun c o c1 c2 c3 c4 e=>up c o c1 (k5 c o c1 c2 c3 c4 e)
theorem ug {p q:Kq}{z TI TO i j l m:Ω}{n n':Nat}{xs ys:Array Ψ}{a b:Ψ}{Q:PySem.Fin->Α->Prop}(hh:A.handled=Φ)(D:ZipApart z TI TO i j l m)(hz:IsZip s.heap z TI TO .none)(hI:IsPair s.heap TI (.ref i) (.ref j))(hO:IsPair s.heap TO a b)
  (ci:It p s.heap i l n) (cj:It q s.heap j m n') (sl:Sq p s.heap l xs) (sm:Sq q s.heap m ys) (Pd:xs[n]? = Φ∨ys[n']? = Φ)
  (k:∀h' e,Kept z TO i j s.heap h'->(∃o,h'.get? e=Δ o/\o.cls=.type "StopIteration")->E (.ref e) {s with heap:=h'}) :
  Κ (Μ prog w) A (Builtin.«zip.__next__» ⟨[.ref z],[]⟩) Q E s:=by
 show Κ _ _ (field (.ref z) 2 >>= _) _ _ _;refine a_ (aab hz rfl (x:=.bool Ξ) rfl ?_);show Κ _ _ (field (.ref z) 3 >>= _) _ _ _;refine a_ (aab hz rfl (x:=.ref TI) rfl (a_ (N_ hI rfl ?_)));show Κ _ _ (η (.ref z) >>= _) _ _ _;refine a_ ?_;unfold η;refine a_ (aab hz rfl (x:=.none) rfl (f_ ?_));simp only[if_true];refine a_ (wpAny_rule (a_ (aab hz rfl (x:=.ref TO) rfl (a_ (aac hz (by simp) fun h1 z1 e1=>?_)))));have Sy:IsZip h1 z TI TO .ellipsis:=z1;refine a_ ?_;simp only[List.zipIdx_cons,List.zipIdx_nil,List.forIn_cons,List.forIn_nil];refine a_ (a_ (wpAny_onRaise ?_));show Κ _ _ (ζ (.ref i) >>= _) _ _ _;cases hx:xs[n]? with
 |none=>
  refine a_ (vC hh (ci.to fun o e=>e1.extBut _ _ D.i1z e) (sl.to fun o e=>e1.extBut _ _ D.l1z e) hx fun h2 e e2 he=>?_);obtain⟨oe,g,c⟩:=he;have z2:IsZip h2 z TI TO .ellipsis:=e2 _ _ D.i1z.symm Sy;have ne:e≠z:=fun v=>by rw[v,z2]at g;cases g;simp at c
  exact aac z2 (by simp) fun h3 _ e3=>k h3 e (fun d o c1 _ c3 _ v=>e3.extBut _ _ c1 (e2 _ _ c3 (e1.extBut _ _ c1 v))) ⟨oe,e3.extBut _ _ ne g,c⟩
 |some x=>
  have hy:ys[n']? = Φ:=by
   rcases Pd with v|v
   ·rw[hx]at v;cases v
   ·exact v
  refine a_ (oA (ci.to fun o e=>e1.extBut _ _ D.i1z e) (sl.to fun o e=>e1.extBut _ _ D.l1z e) hx fun h2 VS e2=>f_ ?_);have O2:IsPair h2 TO a b:=e2.extBut _ _ D.TOi1 (e1.extBut _ _ D.TOz hO);refine a_ (N_ O2 rfl (a_ (wpAny_updateSeq_pair O2 fun h3 O3 e3=>a_ (wpAny_letGo (f_ (a_ (a_ (wpAny_onRaise ?_))))))));show Κ _ _ (ζ (.ref j) >>= _) _ _ _;refine a_ (vC hh (cj.to fun o e=>e3.extBut _ _ D.TOi2.symm (e2.extBut _ _ D.i12.symm (e1.extBut _ _ D.i2z e))) (sm.to fun o e=>e3.extBut _ _ D.l2TO (e2.extBut _ _ D.l2i1 (e1.extBut _ _ D.l2z e))) hy fun h4 e e4 he=>?_);obtain⟨oe,g,c⟩:=he;have z4:IsZip h4 z TI TO .ellipsis:=e4 _ _ D.i2z.symm (e3.extBut _ _ D.TOz.symm (e2.extBut _ _ D.i1z.symm Sy));have ne:e≠z:=fun v=>by rw[v,z4]at g;cases g;simp at c
  exact aac z4 (by simp) fun h5 _ e5=>k h5 e (fun d o c1 c2 c3 c4 v=>e5.extBut _ _ c1 (e4 _ _ c4 (e3.extBut _ _ c2 (e2.extBut _ _ c3 (e1.extBut _ _ c1 v))))) ⟨oe,e5.extBut _ _ ne g,c⟩
end
noncomputable def Qb:Kq->Ω->Obj
 |.l,a=>{cls:=.type "list_iterator",data:=.fields #[.ref a,.int 0 0]}
 |.t,a=>{cls:=.type "tuple_iterator",data:=.fields #[.ref a,.int 0 0]}
noncomputable def Hi (p:Kq)(h:Heap)(l:Ω):Heap:=h.push (Qb p l)
noncomputable def Hj (p q:Kq)(h:Heap)(l m:Ω):Heap:=(Hi p h l).push (Qb q m)
noncomputable def HI (p q:Kq)(h:Heap)(l m:Ω):Heap:=(Hj p q h l m).push {cls:=.type "tuple",data:=.seq #[.ref h.objs.size,.ref (Hi p h l).objs.size]}
noncomputable def HO (p q:Kq)(h:Heap)(l m:Ω):Heap:=(HI p q h l m).push {cls:=.type "tuple",data:=.seq #[.none,.none]}
noncomputable def HZ (p q:Kq)(h:Heap)(l m:Ω):Heap:=(HO p q h l m).push {cls:=.type "zip",data:=.fields #[.none,.bool Ξ,.bool Ξ,.ref (Hj p q h l m).objs.size,.ref (HI p q h l m).objs.size]}
theorem CG (l m:Ω)(xs ys:Array Ψ):Meets (Builtin.«zip.__new__» ⟨[.type "zip",.ref l,.ref m],[]⟩) (fun _ R s=>Sq .l s.heap l xs/\Sq .l s.heap m ys/\R (.ok (.ret (.ref (HO .l .l s.heap l m).objs.size))) {s with heap:=HZ .l .l s.heap l m}):=
 .of_wp fun prog w A R s h=>by
  obtain⟨hp,g,d,tk,os⟩:=s;obtain⟨q1,q2,h⟩:=h;have sub:=sub_zip;have a1:Heap.IsList (Shared.heap ⟨hp,g,d,tk,os⟩) l xs:=q1;have a2:Heap.IsList (Shared.heap ⟨hp.push {cls:=.type "list_iterator",data:=.fields #[.ref l,.int 0 0]},g,d,tk,os⟩) m ys:=Heap.IsList.push (show hp.IsList m ys from q2) _
  wp_walk using aad a1,aad a2
  exact⟨_,rfl,h⟩
theorem CH (l m:Ω)(xs ys:Array Ψ):Meets (Builtin.«zip.__new__» ⟨[.type "zip",.ref l,.ref m],[]⟩) (fun _ R s=>Sq .l s.heap l xs/\Sq .t s.heap m ys/\R (.ok (.ret (.ref (HO .l .t s.heap l m).objs.size))) {s with heap:=HZ .l .t s.heap l m}):=
 .of_wp fun prog w A R s h=>by
  obtain⟨hp,g,d,tk,os⟩:=s;obtain⟨q1,q2,h⟩:=h;have sub:=sub_zip;have a1:Heap.IsList (Shared.heap ⟨hp,g,d,tk,os⟩) l xs:=q1;have a2:Heap.IsTuple (Shared.heap ⟨hp.push {cls:=.type "list_iterator",data:=.fields #[.ref l,.int 0 0]},g,d,tk,os⟩) m ys:=Heap.IsTuple.push (show hp.IsTuple m ys from q2) _
  wp_walk using aad a1,wpAny_pyIter_tuple a2
  exact⟨_,rfl,h⟩
theorem CI (l m:Ω)(xs ys:Array Ψ):Meets (Builtin.«zip.__new__» ⟨[.type "zip",.ref l,.ref m],[]⟩) (fun _ R s=>Sq .t s.heap l xs/\Sq .l s.heap m ys/\R (.ok (.ret (.ref (HO .t .l s.heap l m).objs.size))) {s with heap:=HZ .t .l s.heap l m}):=
 .of_wp fun prog w A R s h=>by
  obtain⟨hp,g,d,tk,os⟩:=s;obtain⟨q1,q2,h⟩:=h;have sub:=sub_zip;have a1:Heap.IsTuple (Shared.heap ⟨hp,g,d,tk,os⟩) l xs:=q1;have a2:Heap.IsList (Shared.heap ⟨hp.push {cls:=.type "tuple_iterator",data:=.fields #[.ref l,.int 0 0]},g,d,tk,os⟩) m ys:=Heap.IsList.push (show hp.IsList m ys from q2) _
  wp_walk using wpAny_pyIter_tuple a1,aad a2
  exact⟨_,rfl,h⟩
theorem CJ (l m:Ω)(xs ys:Array Ψ):Meets (Builtin.«zip.__new__» ⟨[.type "zip",.ref l,.ref m],[]⟩) (fun _ R s=>Sq .t s.heap l xs/\Sq .t s.heap m ys/\R (.ok (.ret (.ref (HO .t .t s.heap l m).objs.size))) {s with heap:=HZ .t .t s.heap l m}):=
 .of_wp fun prog w A R s h=>by
  obtain⟨hp,g,d,tk,os⟩:=s;obtain⟨q1,q2,h⟩:=h;have sub:=sub_zip;have a1:Heap.IsTuple (Shared.heap ⟨hp,g,d,tk,os⟩) l xs:=q1;have a2:Heap.IsTuple (Shared.heap ⟨hp.push {cls:=.type "tuple_iterator",data:=.fields #[.ref l,.int 0 0]},g,d,tk,os⟩) m ys:=Heap.IsTuple.push (show hp.IsTuple m ys from q2) _
  wp_walk using wpAny_pyIter_tuple a1,wpAny_pyIter_tuple a2
  exact⟨_,rfl,h⟩
theorem CK (p q:Kq)(l m:Ω)(xs ys:Array Ψ):Meets (Builtin.«zip.__new__» ⟨[.type "zip",.ref l,.ref m],[]⟩) (fun _ R s=>Sq p s.heap l xs/\Sq q s.heap m ys/\R (.ok (.ret (.ref (HO p q s.heap l m).objs.size))) {s with heap:=HZ p q s.heap l m}):=by
 cases p<;>cases q
 ·exact CG l m xs ys
 ·exact CH l m xs ys
 ·exact CI l m xs ys
 ·exact CJ l m xs ys
theorem vD {k:Kq}{h h':Heap}{i a:Ω}(e:h'.get? i=Δ (Qb k a)):It k h' i a 0:=by
 cases k with
 |l=>exact⟨_,e,rfl,rfl⟩
 |t=>exact⟨_,e,rfl,rfl⟩
theorem p8 (k:Kq)(a:Ω):(Qb k a).isFreed=Ξ:=by cases k<;>rfl
section
variable {prog:Ε}{w:Β}{A:Ι}{E:Ψ->Α->Prop}{s:Α}
theorem Ng {p q:Kq}{l m:Ω}{xs ys:Array Ψ}{Q:Ψ->Α->Prop}(h1:Sq p s.heap l xs)(h2:Sq q s.heap m ys)
  (k:∀h',IsZip h' (s.heap.objs.size+4) (s.heap.objs.size+2) (s.heap.objs.size+3) .none->IsPair h' (s.heap.objs.size+2) (.ref s.heap.objs.size) (.ref (s.heap.objs.size+1))->IsPair h' (s.heap.objs.size+3) .none .none->
   It p h' s.heap.objs.size l 0->It q h' (s.heap.objs.size+1) m 0->h'.objs.size=s.heap.objs.size+5->(∀c o,s.heap.get? c=Δ o->h'.get? c=Δ o)->Q (.ref (s.heap.objs.size+4)) {s with heap:=h'}) :
  Κ (Μ prog w) A (call (.type "zip") [.ref l,.ref m]) Q E s:=by
 refine callType_new F.called_zip (by decide) (F.typeCall_zip_2 _ _) (F.newCall_zip_2 _ _) (fun obj=>F.args_object_init_3 obj _ _) F.entry_zip_new (CK p q l m xs ys) ⟨h1,h2,?_⟩;have n1:(Hi p s.heap l).objs.size=s.heap.objs.size+1:=W_ ..;have n2:(Hj p q s.heap l m).objs.size=s.heap.objs.size+2:=(W_ ..).trans (by rw[n1]);have n3:(HI p q s.heap l m).objs.size=s.heap.objs.size+3:=(W_ ..).trans (by rw[n2]);have n4:(HO p q s.heap l m).objs.size=s.heap.objs.size+4:=(W_ ..).trans (by rw[n3]);have n5:(HZ p q s.heap l m).objs.size=s.heap.objs.size+5:=(W_ ..).trans (by rw[n4]);have VV:∀c o,(HO p q s.heap l m).get? c=Δ o->(HZ p q s.heap l m).get? c=Δ o:=fun c o e=>n_ _ e;have VW:∀c o,(HI p q s.heap l m).get? c=Δ o->(HZ p q s.heap l m).get? c=Δ o:=fun c o e=>VV c o (n_ _ e);have VX:∀c o,(Hj p q s.heap l m).get? c=Δ o->(HZ p q s.heap l m).get? c=Δ o:=fun c o e=>VW c o (n_ _ e);have VY:∀c o,(Hi p s.heap l).get? c=Δ o->(HZ p q s.heap l m).get? c=Δ o:=fun c o e=>VX c o (n_ _ e);have g5:(HZ p q s.heap l m).get? (HO p q s.heap l m).objs.size=Δ _:=A_ _ rfl;have g4:(HZ p q s.heap l m).get? (HI p q s.heap l m).objs.size=Δ {cls:=.type "tuple",data:=.seq #[.none,.none]}:=VV _ _ (A_ _ rfl);have g3:(HZ p q s.heap l m).get? (Hj p q s.heap l m).objs.size=Δ {cls:=.type "tuple",data:=.seq #[.ref s.heap.objs.size,.ref (Hi p s.heap l).objs.size]}:=VW _ _ (A_ _ rfl);have g2:(HZ p q s.heap l m).get? (Hi p s.heap l).objs.size=Δ (Qb q m):=VX _ _ (A_ _ (p8 q m));have g1:(HZ p q s.heap l m).get? s.heap.objs.size=Δ (Qb p l):=VY _ _ (A_ _ (p8 p l));rw[n2,n3,n4]at g5;rw[n3]at g4;rw[n1,n2]at g3;rw[n1]at g2;show _/\_;rw[n4];exact⟨⟨_,g5,rfl⟩,k _ g5 g3 g4 (vD (h:=s.heap) g1) (vD (h:=s.heap) g2) n5 fun c o e=>VY c o (n_ _ e)⟩
end
section
variable {prog:Ε}{w:Β}{A:Ι}{E:Ψ->Α->Prop}{s:Α}
theorem N6 {p q:Kq}{z TI TO i j l m:Ω}{n n':Nat}{xs ys:Array Ψ}{x y a b:Ψ}{Q:Option Ψ->Α->Prop}(D:ZipApart z TI TO i j l m)(hz:IsZip s.heap z TI TO .none)(hI:IsPair s.heap TI (.ref i) (.ref j))(hO:IsPair s.heap TO a b)
  (ci:It p s.heap i l n) (cj:It q s.heap j m n') (sl:Sq p s.heap l xs) (sm:Sq q s.heap m ys) (hx:xs[n]? = Δ x) (hy:ys[n']? = Δ y)
  (k:∀h',IsZip h' z TI TO (rawInt s.heap.objs.size)->IsPair h' TO x y->It p h' i l (n+1)->It q h' j m (n' + 1)->IsPair h' s.heap.objs.size x y->h'.objs.size=s.heap.objs.size+1->Kept z TO i j s.heap h'->Q (Δ (.ref s.heap.objs.size)) {s with heap:=h'}) :
  Κ (Μ prog w) A (pyNext (.ref z)) Q E s:=by
 have ty:s.TypeIs (.ref z) "zip":=⟨_,hz,rfl⟩
 unfold pyNext;refine a_ (wpAny_attempt (wpAny_callSpecial?_slot (name:=Ρ "__next__") ty F.slot_zip_next (aaf F.slot_zip_next ty F.entry_zip_next ?_ (F.args_zip_next_1 _))));exact uf D hz hI hO ci cj sl sm hx hy fun h' a1 a2 a3 a4 a5 a6 a7=>f_ (k h' a1 a2 a3 a4 a5 a6 a7)
theorem N7 {p q:Kq}{z TI TO i j l m:Ω}{n n':Nat}{xs ys:Array Ψ}{a b:Ψ}{Q:Option Ψ->Α->Prop}(hh:A.handled=Φ)(D:ZipApart z TI TO i j l m)(hz:IsZip s.heap z TI TO .none)(hI:IsPair s.heap TI (.ref i) (.ref j))(hO:IsPair s.heap TO a b)
  (ci:It p s.heap i l n) (cj:It q s.heap j m n') (sl:Sq p s.heap l xs) (sm:Sq q s.heap m ys) (Pd:xs[n]? = Φ∨ys[n']? = Φ)
  (k:∀h',Kept z TO i j s.heap h'->Q Φ {s with heap:=h'}):Κ (Μ prog w) A (pyNext (.ref z)) Q E s:=by
 have ty:s.TypeIs (.ref z) "zip":=⟨_,hz,rfl⟩
 unfold pyNext;refine a_ (wpAny_attempt (wpAny_callSpecial?_slot (name:=Ρ "__next__") ty F.slot_zip_next (aaf F.slot_zip_next ty F.entry_zip_next (ug hh D hz hI hO ci cj sl sm Pd fun h' e hk he=>?_) (F.args_zip_next_1 _))));obtain⟨o,g,c⟩:=he;exact a_ (wpAny_isInstance (T:="StopIteration") (b:=Θ) ⟨o,g,c⟩ isSubtype_stop (f_ (k _ hk)))
end
end L2.Zp
namespace L2
open PySem PySem.Spec PyProof.Rows
def M6 (K:Frag)(H:Hp)(k:Zp.Kq)(a:Ω)(xs:List V):Prop:=match k with
 |.l=>JX K H a xs
 |.t=>JC K H a xs
section
variable {X:Cx}{pins:List (Ω×Obj)}{σ:St}{H:Hp}{s:Α}{h':Heap}{k:Zp.Kq}{a:Ω}{xs ys:List V}
theorem Inv.Qc (I:Inv X pins σ H s)(h:M6 X.K H k a xs):∃its:List Ψ,Vals xs its/\Zp.Sq k s.heap a its.toArray:=by
 cases k with
 |l=>obtain⟨its,rv,p,hz⟩:=I.list h;exact⟨its,rv,p.isList⟩
 |t=>obtain⟨its,rv,p,hz⟩:=I.tuple h;exact⟨its,rv,p⟩
theorem Inv.ME (I:Inv X pins σ H s)(h:M6 X.K H k a xs)(h':M6 X.K H k a ys):xs=ys:=by
 cases k with
 |l=>exact I.JU h h'
 |t=>exact I.KC h h'
theorem Inv.turns {t':Nat}{ch:List Ω}(I:Inv X pins σ H s)(k:∀b o,b∉ch->s.heap.get? b=Δ o->h'.get? b=Δ o)(hf:∀b∈ch,j9 X pins H b):Inv X pins σ H {s with heap:=h',toks:=t'}:=by
 have Ou:∀b u,H b=Δ u->b∉ch:=fun b u e z=>by rw[(hf b z).1]at e;cases e
 refine I.step (g':=s.gens) (d':=s.drawn) (ch:=ch) (fun b hb=>?_) (fun b o _ _ hc e _=>k b o hc e) (fun b o _ _ hc e _=>⟨o.slots,k b o hc e⟩) (fun _ _ _ _ n=>n)
  (fun b o hc e=>⟨o,k b o hc e⟩) (fun _ _ e=>e) (fun _ _ _ e=>e) (fun b ps e=>⟨#[],by rw[e];simp⟩) (fun m hm=>?_) (fun b u e=>?_) I.bare
 ·obtain⟨f0,f1,f2,f3,f4,f5⟩:=hf b hb;exact⟨f3,f1,f4,f5⟩
 ·obtain⟨o,es,ep,ho,r⟩:=hm;exact⟨o,es,ep,k _ o (fun z=>(hf _ z).2.1 rfl) ho,r⟩
 ·refine(I.Jq b u e).Lz (fun c v hc q=>k c v ?_ q) (fun _ q=>q) fun _ _ q=>q;rcases hc with z|z
  ·rw[z];exact Ou b u e
  ·exact Ou c _ z
theorem Inv.Nh {t':Nat}{ch:List Ω}{T:Ω}{ho:HO}(I:Inv X pins σ H s)(k:∀b o,b∉ch->s.heap.get? b=Δ o->h'.get? b=Δ o)(hf:∀b∈ch,j9 X pins H b)(hp:s.heap.objs.size<=T)(new:hU X.prog X.w (upd H T ho) h' T ho):Inv X pins σ (upd H T ho) {s with heap:=h',toks:=t'}:=by
 have Ou:∀b u,H b=Δ u->b∉ch:=fun b u e z=>by rw[(hf b z).1]at e;cases e
 have hn:H T=Φ:=I.Jq.fresh hp;refine I.step (g':=s.gens) (d':=s.drawn) (ch:=ch) (fun b hb=>?_) (fun b o _ _ hc e _=>k b o hc e) (fun b o _ _ hc e _=>⟨o.slots,k b o hc e⟩) (fun b o _ e n=>by rw[gK (z_ (P_ (m_ e) hp))];exact n)
  (fun b o hc e=>⟨o,k b o hc e⟩) (fun b xs q=>by rw[gK (hW q hn)];exact q) (fun b u xs q=>by rw[gK (hW q hn)];exact q) (fun b ps q=>⟨#[],by rw[gK (hW q hn),q];simp⟩) (fun m hm=>?_) (fun b u e=>?_) I.bare
 ·obtain⟨f0,f1,f2,f3,f4,f5⟩:=hf b hb;exact⟨f3,f1,f4,f5⟩
 ·obtain⟨o,es,ep,ho,r⟩:=hm;exact⟨o,es,ep,k _ o (fun z=>(hf _ z).2.1 rfl) ho,r⟩
 ·by_cases hb:b=T
  ·subst hb;rw[gI]at e;cases e;exact new
  ·rw[gK hb]at e;refine(I.Jq b u e).Lz (fun c v hc q=>k c v ?_ q) (fun c q=>by rw[gK (hW q hn)];exact q) fun c xs q=>by rw[gK (hW q hn)];exact q
   rcases hc with z|z
   ·rw[z];exact Ou b u e
   ·exact Ou c _ z
end
noncomputable def T1 (K:Frag)(p q:Zp.Kq)(l m:Ω):It:=
 ⟨fun i H=>∃xs ys x y,M6 K H p l xs/\M6 K H q m ys/\xs[i]? = Δ x/\ys[i]? = Δ y,
  fun i H v H'=>∃T a b,v=.ref T/\H T=Φ/\H'=upd H T (.tup [a,b])/\∀xs ys,M6 K H p l xs->M6 K H q m ys->xs[i]? = Δ a/\ys[i]? = Δ b,
  fun i H=>∃xs ys,M6 K H p l xs/\M6 K H q m ys/\(xs.length<=i∨ys.length<=i)⟩
theorem Zp.It.obj {k:Zp.Kq}{h:Heap}{i a:Ω}{n:Nat}(c:Zp.It k h i a n):∃o,h.get? i=Δ o/\∀v,o.data≠.cell v:=by
 cases k with
 |l=>obtain⟨o,e,c,d⟩:=c;exact⟨o,e,fun v z=>by rw[d]at z;cases z⟩
 |t=>obtain⟨o,e,c,d⟩:=c;exact⟨o,e,fun v z=>by rw[d]at z;cases z⟩
theorem vE {P:Ε}{w:Β}{K:Frag}{es:List Expr}{c:Nat}{pos:Pos}(p q:Zp.Kq)(z TI TO i j l m:Ω)(D:ZipApart z TI TO i j l m) :
  Turn P w K (.Tuple es c pos) (T1 K p q l m) [z,TI,TO,i,j] z (fun n h=>IsZip h z TI TO .none/\IsPair h TI (.ref i) (.ref j)/\(∃a b,IsPair h TO a b)/\Zp.It p h i l n/\Zp.It q h j m n) where
 mem:=by simp
 obj:=fun n h st b hb=>by
  obtain⟨hz,hI,⟨a,b',hO⟩,ci,cj⟩:=st;simp only[k_,T_,or_false]at hb;rcases hb with rfl|rfl|rfl|rfl|rfl
  ·exact⟨_,hz,fun v z=>by cases z⟩
  ·exact⟨_,hI,fun v z=>by cases z⟩
  ·exact⟨_,hO,fun v z=>by cases z⟩
  ·exact ci.obj
  ·exact cj.obj
 keep:=fun n h h' st k=>by obtain⟨hz,hI,⟨a,b',hO⟩,ci,cj⟩:=st;exact⟨k z (by simp) _ hz,k TI (by simp) _ hI,⟨a,b',k TO (by simp) _ hO⟩,ci.to fun o e=>k i (by simp) o e,cj.to fun o e=>k j (by simp) o e⟩
 item:=by
  intro X hP hw hK hc n pins s σ H E I hf st hg;subst hP hw hK;obtain⟨hz,hI,⟨a,b',hO⟩,ci,cj⟩:=st;obtain⟨xs,ys,x,y,Sz,SA,hx,hy⟩:=hg;obtain⟨Ni,NH,p1⟩:=I.Qc Sz;obtain⟨JQ,LY,p2⟩:=I.Qc SA;obtain⟨u1,T2,T3⟩:=NH.get hx;obtain⟨u2,XT,XU⟩:=LY.get hy;refine Zp.N6 D hz hI hO ci cj p1 p2 (x:=u1) (y:=u2) (by simpa using T2) (by simpa using XT) fun h1 a1 a2 a3 a4 a5 a6 hk=>?_;refine⟨_,rfl,?_⟩;have lz:z < s.heap.objs.size:=m_ hz;have XW:s.heap.objs.size≠z:=Nat.ne_of_gt lz;refine wpAny_letOwnedTupleGo_zip (s:={s with heap:=h1}) a1 fun h2 XX LG=>?_;have kk:∀b o,b∉[z,TI,TO,i,j]->s.heap.get? b=Δ o->h2.get? b=Δ o:=fun b o hb e=>by simp only[k_,T_,or_false,not_or]at hb;exact LG.extBut _ _ hb.1 (hk b o hb.1 hb.2.2.1 hb.2.2.2.1 hb.2.2.2.2 e)
  have hT:IsPair h2 s.heap.objs.size u1 u2:=LG.extBut _ _ XW a5;have I2:Inv X pins σ (upd H s.heap.objs.size (.tup [x,y])) {s with heap:=h2}:=I.Nh (t':=s.toks) kk hf (l_ _) ⟨by show 2<=Ζ;decide,[u1,u2],.cons T3 (.cons XU .nil),⟨_,hT,rfl,_,rfl⟩⟩;refine⟨.ref s.heap.objs.size,_,I2,rfl,⟨_,x,y,rfl,I.Jq.fresh (l_ _),rfl,fun VZ ys' g1 g2=>by rw[I.ME g1 Sz,I.ME g2 SA];exact⟨hx,hy⟩⟩,⟨XX,LG.extBut _ _ D.TIz (hk _ _ D.TIz D.TITO D.TIi1 D.TIi2 hI),⟨_,_,LG.extBut _ _ D.TOz a2⟩,a3.to fun o e=>LG.extBut _ _ D.i1z e,a4.to fun o e=>LG.extBut _ _ D.i2z e⟩,fun b hb=>?_⟩;have Mn:b < s.heap.objs.size:=by
   simp only[k_,T_,or_false]at hb;rcases hb with rfl|rfl|rfl|rfl|rfl
   ·exact lz
   ·exact m_ hI
   ·exact m_ hO
   ·exact ci.lt
   ·exact cj.lt
  rw[gK (z_ Mn)];exact(hf b hb).1
 done:=by
  intro X hP hw hK hc n pins s σ H E I hf st hg;subst hP hw hK;obtain⟨hz,hI,⟨a,b',hO⟩,ci,cj⟩:=st;obtain⟨xs,ys,Sz,SA,hx⟩:=hg;obtain⟨Ni,NH,p1⟩:=I.Qc Sz;obtain⟨JQ,LY,p2⟩:=I.Qc SA;have l1:=NH.length;have l2:=LY.length
  refine Zp.N7 (I.ok.hd hc) D hz hI hO ci cj p1 p2 (by
   rcases hx with hx|hx
   ·exact .inl (Array.getElem?_eq_none (by simp;omega))
   ·exact .inr (Array.getElem?_eq_none (by simp;omega))) fun h1 hk=>⟨rfl,I.turns (t':=s.toks) (ch:=[z,TI,TO,i,j]) (fun b o hb e=>?_) hf⟩
  simp only[k_,T_,or_false,not_or]at hb;exact hk b o hb.1 hb.2.2.1 hb.2.2.2.1 hb.2.2.2.2 e
 self:=fun _ _ _ _ _ st h=>wpAny_pyIter_zip st.1 h
def Hx (K:Frag)(ta:TA):TI:=fun σ H R=>ta σ H fun vs H1=>∃p q l m xs ys,vs=[.ref l,.ref m]/\M6 K H1 p l xs/\M6 K H1 q m ys/\R (T1 K p q l m) H1
theorem Zp.Sq.lt {k:Zp.Kq}{h:Heap}{a:Ω}{xs:Array Ψ}(q:Zp.Sq k h a xs):a < h.objs.size:=by
 cases k with
 |l=>obtain⟨o,e,_⟩:=q;exact m_ e
 |t=>obtain⟨o,e,_⟩:=q;exact m_ e
theorem vF (N l m:Nat)(hl:l < N)(hm:m < N):ZipApart (N+4) (N+2) (N+3) N (N+1) l m:=by constructor<;>(intro e;have e':(_:Nat)=(_:Nat):=e;omega)
theorem CL {X:Cx}{a b:Expr}{ta:TA}{es:List Expr}{c:Nat}{p tp pos:Pos}(hg:Gl X "zip") (hm:X.mg "zip" = Φ) (ha:PA X [a,b] ta) (hs:Ν [a,b] X.env=[(Ξ,eval a X.env),(Ξ,eval b X.env)]) (LG:Ν [b] X.env=[(Ξ,eval b X.env)]) :
  PI X (.Tuple es c tp) (.Call (.Name "zip" p) [a,b] [] pos) (Hx X.K ta):=by
 intro pins s σ H R I h;refine Call_ (jI I hg hm boot_zip (PyProof.Rows.callWith_type1 (Jr (ha pos pins s σ H _ I h) fun us s1 ⟨vs,H1,I1,r1,q1⟩=>?_) (by rw[hs,LG]) (by rw[LG];rfl)));obtain⟨k1,k2,l,m,xs,ys,e,g1,g2,q⟩:=q1;subst e;cases r1 with
 |cons r rr=>
  cases rr with
  |cons r' rr=>
   cases rr;cases r;cases r';obtain⟨Ni,NH,p1⟩:=I1.Qc g1;obtain⟨JQ,LY,p2⟩:=I1.Qc g2;have l1:=p1.lt;have l2:=p2.lt;refine Zp.Ng p1 p2 fun h2 b1 b2 b3 b4 b5 b6 b7=>?_;refine wpAny_pyIter_zip (s:={s1 with heap:=h2}) b1 ?_;refine⟨s1.heap.objs.size+4,[s1.heap.objs.size+4,s1.heap.objs.size+2,s1.heap.objs.size+3,s1.heap.objs.size,s1.heap.objs.size+1],_,_,H1,rfl,I1.kept (t':=s1.toks) b7,vE k1 k2 _ _ _ _ _ l m (vF _ l m l1 l2),⟨b1,b2,⟨_,_,b3⟩,b4,b5⟩,fun b hb=>?_,q⟩;have Mn:s1.heap.objs.size<=b:=by
    simp only[k_,T_,or_false]at hb;rcases hb with rfl|rfl|rfl|rfl|rfl
    ·exact Nat.le_add_right _ _
    ·exact Nat.le_add_right _ _
    ·exact Nat.le_add_right _ _
    ·exact l_ _
    ·exact Nat.le_add_right _ _
   exact I1.Mi Mn (I1.Jq.fresh Mn)
end L2
namespace L2.Zp
open PySem
end L2.Zp
namespace L2
open PySem PySem.Spec PyProof.Rows
end L2
namespace L2.Se
open PySem
structure Cut (xs:Array Nat)(j p:Nat):Prop where
 le:p<=xs.size
 lo:∀i x:Nat,i < p->xs[i]? = Δ x->x < j
 hi:∀i x:Nat,p<=i->xs[i]? = Δ x->j<=x
def Up (xs:Array Nat):Prop:=∀i k x y:Nat,i < k->xs[i]? = Δ x->xs[k]? = Δ y->x < y
theorem vG {xs:Array Nat}{j:Nat}(u:Up xs):∀(fuel lo hi:Nat),hi<=lo+fuel->lo<=hi->hi<=xs.size->(∀i x,i < lo->xs[i]? = Δ x->x < j)->(∀i x,hi<=i->xs[i]? = Δ x->j<=x)->Cut xs j (SetTable.below.go xs j fuel lo hi):=by
 intro fuel
 induction fuel with
 |zero=>
  intro lo hi h1 h2 h3 h4 h5;have e:lo=hi:=by omega
  subst e;exact⟨h3,h4,h5⟩
 |succ f ih=>
  intro lo hi h1 h2 h3 h4 h5;unfold SetTable.below.go;by_cases hl:lo < hi
  ·rw[e_ hl];have hm:(lo+hi) / 2 < xs.size:=by omega
   have e:xs[(lo+hi) / 2]? = Δ xs[(lo+hi) / 2]:=by simp[hm]
   have eg:xs.getD ((lo+hi) / 2) j=xs[(lo+hi) / 2]:=by simp[Array.getD,hm]
   dsimp only;rw[eg];by_cases hx:xs[(lo+hi) / 2] < j
   ·rw[e_ hx];refine ih _ _ (by omega) (by omega) h3 (fun i x LZ NI=>?_) h5;by_cases T4:i=(lo+hi) / 2
    ·subst T4;rw[e]at NI;cases NI;exact hx
    ·exact Nat.lt_trans (u i _ x _ (by omega) NI e) hx
   ·rw[d_ hx];refine ih _ _ (by omega) (by omega) (by omega) h4 (fun i x LZ NI=>?_);by_cases T4:i=(lo+hi) / 2
    ·subst T4;rw[e]at NI;cases NI;omega
    ·have:=u _ i _ x (by omega) e NI;omega
  ·rw[d_ hl];have e:lo=hi:=by omega
   subst e;exact⟨h3,h4,h5⟩
theorem kY {xs:Array Nat}(u:Up xs)(j:Nat):Cut xs j (SetTable.below xs j):=
 vG u xs.size 0 xs.size (by omega) (aaa _) (l_ _) (fun i x h=>absurd h (Nat.not_lt_zero i)) (fun i x h hx=>by
  have:=(Array.getElem?_eq_some_iff.mp hx).1
  omega)
theorem zt {α:Type}{xs:Array α}{p:Nat}{x:α}(hp:p<=xs.size)(i:Nat):(SetTable.insertAt xs p x)[i]? = if i < p then xs[i]? else if i=p then Δ x else xs[i - 1]?:=by
 rw[<- aaj,SetTable.toList_insertAt];by_cases h1:i < p
 ·rw[e_ h1,aar (by simp;omega),List.getElem?_take,e_ h1,aaj]
 ·rw[d_ h1,List.getElem?_append_right (by simp;omega)];have hl:(xs.toList.take p).length=p:=by simp;omega
  rw[hl];by_cases h2:i=p
  ·subst h2;rw[e_ rfl,Nat.sub_self];rfl
  ·rw[d_ h2];obtain⟨k,rfl⟩:∃k,i=p+k+1:=⟨i - p - 1,by omega⟩
   rw[show p+k+1 - p=k+1 by omega,List.getElem?_cons_succ,List.getElem?_drop,aaj];rfl
theorem CM {xs:Array Nat}{j p:Nat}(u:Up xs)(c:Cut xs j p)(hn:xs[p]?≠Δ j):Up (SetTable.insertAt xs p j):=by
 intro i k x y T5 hx hy;rw[zt c.le]at hx hy;have V0:∀m z,p<=m->xs[m]? = Δ z->j < z:=fun m z hm hz=>by
  have h1:=c.hi m z hm hz;by_cases e:m=p
  ·subst e;have:j≠z:=fun e=>hn (by rw[hz,e]);omega
  ·have JT:m < xs.size:=(Array.getElem?_eq_some_iff.mp hz).1;have hp:p < xs.size:=by omega
   have ep:xs[p]? = Δ xs[p]:=by simp[hp]
   have h2:=c.hi p _ (l_ _) ep;have:=u p m _ z (by omega) ep hz;omega
 by_cases a1:i < p
 ·rw[e_ a1]at hx;have XY:=c.lo i x a1 hx;by_cases b1:k < p
  ·rw[e_ b1]at hy;exact u i k x y T5 hx hy
  ·rw[d_ b1]at hy;by_cases b2:k=p
   ·rw[e_ b2]at hy;cases hy;exact XY
   ·rw[d_ b2]at hy;have:=V0 (k - 1) y (by omega) hy;omega
 ·rw[d_ a1]at hx;by_cases a2:i=p
  ·rw[e_ a2]at hx;cases hx;rw[d_ (by omega),d_ (by omega)]at hy;exact V0 (k - 1) y (by omega) hy
  ·rw[d_ a2]at hx;rw[d_ (by omega),d_ (by omega)]at hy;exact u (i - 1) (k - 1) x y (by omega) hx hy
theorem vH (n:Nat):Up (Array.range n):=by intro i k x y h hx hy;obtain⟨h1,e1⟩:=Array.getElem?_eq_some_iff.mp hx;obtain⟨h2,e2⟩:=Array.getElem?_eq_some_iff.mp hy;simp at e1 e2;omega
structure Tb (led:Bool)(t:SetTable):Prop where
 up:Up t.place
 dm:t.dummies = #[]
 ld:t.led=led
theorem rj {t:SetTable}{j:Nat}(h:t.slot j=.empty):t.place[SetTable.below t.place j]?≠Δ j:=by intro e;unfold SetTable.slot at h;dsimp only at h;rw[e_ (by rw[e];exact beq_self_eq_true _)]at h;cases h
theorem has_none (j:Nat):SetTable.has #[] j=Ξ:=by unfold SetTable.has;rw[show(#[]:Array Nat)[SetTable.below #[] j]? = Φ by simp];rfl
theorem rk {t:SetTable}(hd:t.dummies = #[])(j:Nat):t.slot j≠.dummy:=by
 intro h;unfold SetTable.slot at h;dsimp only at h;rw[hd,has_none]at h;split at h
 ·cases h
 ·rw[d_ p_]at h;cases h
theorem uh (t:SetTable)(p:SetTable.Probe):(t.advance p).dummy=p.dummy:=by unfold SetTable.advance;split<;>rfl
theorem vJ {t:SetTable}(hd:t.dummies = #[]){h:Int}{f:Nat->Int}(hh:∀i,(f i == h)=Ξ):∀(fuel:Nat) (p:SetTable.Probe) (m:SetTable.Met),p.dummy=Φ->SetTable.probe.go t f h fuel p=Δ m->∃j,m=.empty j Φ/\t.slot j=.empty:=by
 intro fuel
 induction fuel with
 |zero=>intro p m _ e;cases e
 |succ n ih=>
  intro p m hp e;unfold SetTable.probe.go at e;cases hs:t.slot p.j with
  |empty=>rw[hs]at e;dsimp only at e;rw[hp]at e;cases e;exact⟨_,rfl,hs⟩
  |dummy=>exact absurd hs (rk hd _)
  |live i=>rw[hs]at e;dsimp only at e;rw[hh,d_ p_]at e;exact ih _ m (by rw[uh];exact hp) e
theorem ui {t:SetTable}(hd:t.dummies = #[]){h:Int}{j:Nat}{b:Bool}(e:t.freeSlot h=Δ (j,b)):t.slot j=.empty/\b=Ξ:=by
 unfold SetTable.freeSlot at e;cases q:t.probe (fun _=>h+1) h (t.probeStart h) with
 |none=>rw[q]at e;cases e
 |some m=>obtain⟨j',rfl,hs⟩:=vJ hd (f:=fun _=>h+1) (h:=h) (fun i=>by rw[beq_eq_false_iff_ne];omega) _ _ m rfl q;rw[q]at e;cases e;exact⟨hs,rfl⟩
theorem ku {led:Bool}{t:SetTable}(T:Tb led t)(n:Nat):Tb led (t.standIn n):=⟨vH n,rfl,T.ld⟩
theorem EW {led:Bool}{t:SetTable}(T:Tb led t)(n:Nat):Tb led (t.orStandIn n):=by
 unfold SetTable.orStandIn;split
 ·exact T
 ·exact ku T n
theorem CN {led:Bool}{t:SetTable}(T:Tb led t){j:Nat}(hs:t.slot j=.empty):Tb led (t.put j).1:=by refine⟨CM T.up (kY T.up j) (rj hs),?_,T.ld⟩;show(if SetTable.has t.dummies j then _ else t.dummies) = #[];rw[T.dm,has_none];rfl
theorem CO {led:Bool}{t:SetTable}(T:Tb led t)(es:Array (Int×Ψ))(h:Int)(x:Ψ):Tb led (layNew t es h x).2.1:=by
 unfold layNew;cases q:t.freeSlot h with
 |none=>exact ku T _
 |some p=>obtain⟨j,b⟩:=p;exact EW (CN T (ui T.dm q).1) _
theorem vK (o:Nat->Option Nat)(l:List Nat):((l.filterMap fun j=>(o j).map (j,·)).map (·.1))=l.filter fun j=>(o j).isSome:=by
 induction l with
 |nil=>rfl
 |cons a l ih=>
  rw[List.filterMap_cons,List.filter_cons];cases o a with
  |none=>simpa using ih
  |some b=>simpa using ih
theorem zu {l:List Nat}(h:l.Pairwise (· < ·)):Up l.toArray:=by
 intro i k x y T5 hx hy;have KP:l[i]? = Δ x:=by simpa using hx
 have Pe:l[k]? = Δ y:=by simpa using hy
 obtain⟨h1,e1⟩:=E_.mp KP;obtain⟨h2,e2⟩:=E_.mp Pe;have:=List.pairwise_iff_getElem.mp h i k h1 h2 T5;omega
theorem zw {mask finger moves:Nat}{led plain:Bool}{hs:Array Int}{t:SetTable}{o:Array Nat}(e:SetTable.laid mask finger moves led plain hs=Δ (t,o)):Tb led t:=by
 unfold SetTable.laid at e;cases q:SetTable.layClean mask hs with
 |none=>rw[q]at e;cases e
 |some ow=>rw[q]at e;have e':=K_ e;cases e';refine⟨?_,rfl,rfl⟩;show Up (List.toArray (List.map _ (List.filterMap _ _)));rw[vK];exact zu (List.Pairwise.sublist List.filter_sublist List.pairwise_lt_range)
theorem vL {led:Bool}{t:SetTable}(T:Tb led t)(es:Array (Int×Ψ))(n:Nat):Tb led (relayAll t es n).2.1:=by
 unfold relayAll;cases q:t.relaid (es.map (·.1)) n with
 |none=>exact ku T _
 |some p=>
  obtain⟨t',o⟩:=p;dsimp only;split
  ·have:=zw q;rw[T.ld]at this;exact this
  ·exact ku T _
theorem vM {led:Bool}{t:SetTable}(T:Tb led t)(b:Bool):Tb led {t with plain:=b}:=⟨T.up,T.dm,T.ld⟩
theorem vN (f m:Nat)(led:Bool):Tb led (SetTable.fresh f m led):=⟨fun i k x y _ h=>by simp[SetTable.fresh]at h,rfl,rfl⟩
open PyProof.Rows
structure Ky (prog:Ε)(w:Β)(α:Type) [DecidableEq α] where
 knd:PySem.KeyKind prog w α
 mv:α->Tok->Ψ
 is:∀k t,knd.is k (mv k t)=Θ
 sc:∀k t,(mv k t).scannable=Θ
inductive Ar {α:Type}(mk:α->Tok->Ψ):List Ψ->List α->Prop
 | nil:Ar mk [] []
 | cons (n:α) (t:Tok) {vs:List Ψ}{ns:List α}:Ar mk vs ns->Ar mk (mk n t::vs) (n::ns)
theorem Ar.length {α:Type}{mk:α->Tok->Ψ}{vs:List Ψ}{ns:List α}(h:Ar mk vs ns):vs.length=ns.length:=by
 induction h with
 |nil=>rfl
 |cons _ _ _ ih=>rw[List.length_cons,List.length_cons,ih]
theorem Ar.at {α:Type} [Inhabited α]{mk:α->Tok->Ψ}:∀ {vs:List Ψ}{ns:List α},Ar mk vs ns->∀(i:Nat) (v:Ψ),vs[i]? = Δ v->∃t,v=mk (ns.getD i default) t
 |_,_,.nil,i,v,h=>by simp at h
 |_,_,.cons n t hr,0,v,h=>by simp at h;exact⟨t,by rw[<- h];rfl⟩
 |_,_,.cons n t hr,i+1,v,h=>by simp only[List.getElem?_cons_succ]at h;obtain⟨t',e⟩:=Ar.at hr i v h;exact⟨t',by rw[e];rfl⟩
section
variable {prog:Ε}{w:Β}{α:Type} [DecidableEq α] [Inhabited α]{ky:Ky prog w α}{A:Ι}{E:Ψ->Α->Prop}{s:Α}
noncomputable abbrev vals (es:Array (Int×Ψ)):List Ψ:=es.toList.map (·.2)
structure Kb {prog:Ε}{w:Β}{α:Type} [DecidableEq α](ky:Ky prog w α)(led:Bool)(σ:List α)(o:Obj)(es:Array (Int×Ψ))(ep:Nat)(t:SetTable):Prop where
 ex:o.ExactSet
 da:o.data=.set es ep t
 el:ElemsOf ky.knd es.toList
 sb:es.size < scanBound
 fi:t.fits es.size=Θ
 tb:Tb led t
 pm:∃ks,Ar ky.mv (vals es) ks/\ks.Perm σ
def jT {prog:Ε}{w:Β}{α:Type} [DecidableEq α](ky:Ky prog w α)(h:Heap)(a:Ω)(led:Bool)(σ:List α):Prop:=∃o es ep t,h.get? a=Δ o/\Kb ky led σ o es ep t
theorem kx {vs V1:List Ψ}{ks:List α}(p:V1.Perm vs)(h:Ar ky.mv vs ks):∃KZ,Ar ky.mv V1 KZ/\KZ.Perm ks:=by
 induction p generalizing ks with
 |nil=>exact⟨ks,h,.refl _⟩
 |cons x _ ih=>
  cases h with
  |cons n t h=>obtain⟨KZ,h1,h2⟩:=ih h;exact⟨n::KZ,.cons n t h1,.cons n h2⟩
 |swap x y l=>
  cases h with
  |cons n t h=>
   cases h with
   |cons m u h=>exact⟨m::n::_,.cons m u (.cons n t h),.swap n m _⟩
 |trans _ _ XZ T6=>obtain⟨k1,a1,b1⟩:=T6 h;obtain⟨k2,a2,b2⟩:=XZ a1;exact⟨k2,a2,b2.trans b1⟩
theorem vO {vs:List Ψ}{ks:List α}{k:α}{t:Tok}(h:Ar ky.mv vs ks):Ar ky.mv (vs++[ky.mv k t]) (ks++[k]):=by
 induction h with
 |nil=>exact .cons k t .nil
 |cons n u _ ih=>exact .cons n u ih
theorem vP {es:List (Int×Ψ)}{ks:List α}{k:α}(h:Ar ky.mv (es.map (·.2)) ks):es.any (fun e=>ky.knd.is k e.2)=ks.any (· == k):=by
 induction es generalizing ks with
 |nil=>cases h;rfl
 |cons e es ih=>
  obtain⟨c,v⟩:=e;cases h with
  |cons n t h=>
   rw[List.any_cons,List.any_cons,ih h,KeyKind.is_eq_decide (ky.is n t) k];congr 1;by_cases q:k=n
   ·subst q;simp
   ·simp[q,show ¬n=k from fun z=>q z.symm]
theorem store {h:Heap}{a:Ω}{led:Bool}{σ Jp:List α}{o:Obj}{es Me:Array (Int×Ψ)}{ep:Nat}{t t':SetTable}(ho:h.get? a=Δ o)(D:Kb ky led σ o es ep t)
  (el:ElemsOf ky.knd Me.toList) (sb:Me.size < scanBound) (fi:t'.fits Me.size=Θ) (tb:Tb led t') (pm:∃ks,Ar ky.mv (vals Me) ks/\ks.Perm Jp) :
  (h.update a (Obj.putSet Me t')).get? a=Δ {o with data:=.set Me (ep+1) t'}/\Kb ky led Jp {o with data:=.set Me (ep+1) t'} Me (ep+1) t':=
 ⟨(SetOf_store (knd:=ky.knd) (S':=fun k=>Me.toList.any fun e=>ky.knd.is k e.2) ho D.ex D.da el (fun k=>by rw[List.any_eq_true]) sb fi).1,D.ex,rfl,el,sb,fi,tb,pm⟩
theorem qa {a:Ω}{led:Bool}{σ Jp:List α}{o:Obj}{es KQ:Array (Int×Ψ)}{ep:Nat}{t t2:SetTable}{b:Bool}{g:Bool->Sem Unit}(hg:∀(b:Bool)(Jn:Α)(Q':Unit->Α->Prop),Q' () Jn->Κ (Μ prog w) A (g b) Q' E Jn)
  (ho:s.heap.get? a=Δ o) (D:Kb ky led σ o es ep t) (el:ElemsOf ky.knd KQ.toList) (sb:KQ.size < scanBound) (fi:t2.fits KQ.size=Θ) (tb:Tb led t2) (pm:∃ks,Ar ky.mv (vals KQ) ks/\ks.Perm Jp)
  {R:Option Bool->Α->Prop} (h:∀h',Heap.SameBut a s.heap h'->jT ky h' a led Jp->R (Δ Θ) {s with heap:=h'}) :
  Κ (Μ prog w) A (do
    storeSet a KQ t2
    if(!b&&t2.tooFull)=Θ then do
      g (relayAll t2 KQ (SetTable.grown KQ.size)).2.2
      storeSet a (relayAll t2 KQ (SetTable.grown KQ.size)).1 (relayAll t2 KQ (SetTable.grown KQ.size)).2.1
      pure (Δ Θ)
     else pure (Δ Θ)) R E s:=by
 obtain⟨g1,D1⟩:=store ho D el sb fi tb pm;have b1:=Heap.SameBut.update s.heap a (Obj.putSet KQ t2);refine a_ (wpAny_storeSet_of ho D.da ?_ (fits_of_scanBound sb));split
 ·have p2:=relayAll_perm t2 KQ (SetTable.grown KQ.size);have f2:=relayAll_fits t2 KQ (SetTable.grown KQ.size);have u2:=vL tb KQ (SetTable.grown KQ.size);generalize relayAll t2 KQ (SetTable.grown KQ.size)=Z at p2 f2 u2 ⊢;obtain⟨V2,t3,gv⟩:=Z;dsimp only at p2 f2 u2 ⊢;have sz:V2.size=KQ.size:=by rw[<- Q_,p2.length_eq,Q_]
  have V3:V2.size < scanBound:=by rw[sz];exact sb
  obtain⟨ks,k1,k2⟩:=pm;obtain⟨KZ,k3,k4⟩:=kx (p2.map (·.2)) k1;obtain⟨g2,D2⟩:=store g1 D1 (el.perm p2) V3 f2 u2 ⟨KZ,k3,k4.trans k2⟩;refine a_ (hg _ _ _ (a_ (wpAny_storeSet_of g1 rfl ?_ (fits_of_scanBound V3))));exact f_ (h _ (b1.trans (Heap.SameBut.update _ a _)) ⟨_,_,_,_,g2,D2⟩)
 ·exact f_ (h _ b1 ⟨_,_,_,_,g1,D1⟩)
theorem add_int {a:Ω}{led:Bool}{σ:List α}{k:α}{tk:Tok}{Q:Bool->Α->Prop}(hS:jT ky s.heap a led σ)(hr:σ.length+1 < scanBound)
  (h:∀h',Heap.SameBut a s.heap h'->jT ky h' a led (step_dedup σ k)->∀b,Q b {s with heap:=h'}) :
  Κ (Μ prog w) A (setAddHashed a (ky.mv k tk) (ky.knd.hash k)) Q E s:=by
 obtain⟨o,es,ep,t,ho,D⟩:=hS;obtain⟨ks,k1,k2⟩:=D.pm;have lk:es.size=ks.length:=by have:=Ar.length k1;rw[i_,Q_]at this;exact this
 have QV:es.toList.any (fun e=>ky.knd.is k e.2)=σ.any (· == k):=(vP k1).trans (k2.any_eq);unfold setAddHashed setAddHashedIn;refine M_ (a_ (wpAny_setState_of ho D.da D.fi ?_));dsimp only;rw[byScan_of (x:=ky.mv k tk) (ky.sc k tk) D.sb D.el,e_ rfl];unfold setAddByScan;refine a_ (a_ (wpAny_rule (a_ (wpAny_setScan_of (ky.is k tk) ho D.da D.fi D.el ?_))));cases hq:List.findIdx? (fun e=>ky.knd.is k e.2) es.toList with
 |some j=>
  dsimp only;obtain⟨hj,X0,_⟩:=List.findIdx?_eq_some_iff_getElem.mp hq;have SD:σ.any (· == k)=Θ:=by rw[<- QV,List.any_eq_true];exact⟨_,aat hj,X0⟩
  have e2:step_dedup σ k=σ:=by unfold step_dedup;rw[e_ SD]
  refine f_ (f_ ?_);have z:=h s.heap (Heap.SameBut.refl a s.heap) (by rw[e2];exact⟨o,es,ep,t,ho,D⟩) Ξ;cases s;exact z
 |none=>
  dsimp only;have T7:σ.any (· == k)=Ξ:=by rw[<- QV,List.any_eq_false];intro e he;have:=List.findIdx?_eq_none_iff.mp hq e he;rw[this];exact p_
  have e2:step_dedup σ k=σ++[k]:=by unfold step_dedup;rw[d_ (by rw[T7];exact p_)]
  have p1:=layNew_perm t es (ky.knd.hash k) (ky.mv k tk);have f1:=layNew_fits t es (ky.knd.hash k) (ky.mv k tk);have u1:=CO D.tb es (ky.knd.hash k) (ky.mv k tk);generalize layNew t es (ky.knd.hash k) (ky.mv k tk)=L at p1 f1 u1 ⊢;obtain⟨KQ,t1,wd,gv⟩:=L;dsimp only at p1 f1 u1 ⊢;rw[Array.toList_push]at p1;have V4:ElemsOf ky.knd KQ.toList:=(D.el.push (ky.is k tk) (ky.sc k tk)).perm p1;have X1:KQ.size=es.size+1:=by rw[<- Q_,p1.length_eq,g_,Q_];rfl
  have V5:KQ.size < scanBound:=by rw[X1,lk,k2.length_eq];exact hr
  have V6:∃KZ,Ar ky.mv (vals KQ) KZ/\KZ.Perm (step_dedup σ k):=by obtain⟨KZ,k3,k4⟩:=kx (p1.map (·.2)) (by rw[C_];exact vO (k:=k) (t:=tk) k1);exact⟨KZ,k3,k4.trans (by rw[e2];exact k2.append_right _)⟩
  refine a_ ((show ∀(b:Bool) (Jn:Α) (Q':Unit->Α->Prop),Q' () Jn->Κ (Μ prog w) A (match b with|true=>rule "set.scan.the-table-gave-way" |false=>pure ()) Q' E Jn from fun b Jn Q' hq=>by cases b<;>first|exact f_ hq|exact wpAny_rule hq) _ _ _ ?_);have fin:∀h',Heap.SameBut a s.heap h'->jT ky h' a led (step_dedup σ k)->Κ (Μ prog w) A (pure Θ) Q E {s with heap:=h'}:=fun h' hb JY=>f_ (h h' hb JY Θ);split
  ·rw[hashByValue_scannable 8 (x:=ky.mv k tk) (ky.sc k tk)];refine a_ (f_ (qa ?_ ho D V4 V5 ?_ ?_ V6 fun h' hb JY=>?_))
   ·intro b Jn Q' hq;cases b<;>first|exact f_ hq|exact wpAny_rule hq
   ·split
    ·exact f1
    ·exact SetTable.fits_plain_off f1
   ·split
    ·exact u1
    ·exact vM u1 _
   ·exact fin h' hb JY
  ·refine a_ (f_ ?_);rw[e_ rfl];refine qa ?_ ho D V4 V5 f1 u1 V6 fun h' hb JY=>fin h' hb JY;intro b Jn Q' hq;cases b<;>first|exact f_ hq|exact wpAny_rule hq
end
noncomputable abbrev ir (w:Β):Bool:=w.params.followText "set-order"
section
variable {prog:Ε}{w:Β}{α:Type} [DecidableEq α] [Inhabited α]{ky:Ky prog w α}{A:Ι}{E:Ψ->Α->Prop}{s:Α}{R:Result->Α->Prop}{I:Ω}{fp wr:List Ω}{G:Array GenState->Array GenState->Prop}{n:Nat}{P:Nat->Ψ->Prop}{St:Nat->Α->Prop}
theorem jT.moved {h h':Heap}{a:Ω}{led:Bool}{σ:List α}(hS:jT ky h a led σ)(k:∀o,h.get? a=Δ o->h'.get? a=Δ o):jT ky h' a led σ:=by obtain⟨o,es,ep,t,ho,D⟩:=hS;exact⟨o,es,ep,t,k o ho,D⟩
theorem J3 (l:List α):∀σ:List α,(l.foldl step_dedup σ).length<=σ.length+l.length:=fun σ=>foldl_step_dedup_length_le σ l
theorem loop (W:WalksS prog w A.in1 I fp wr G n P St)(a:Ω)(ha:a∉fp){led:Bool}{ns:List α}(hv:∀i v,P i v->∃t,v=ky.mv (ns.getD i default) t)(hn:ns.length=n)(hb:n+1 < scanBound) :
  ∀(k i:Nat) (s:Α),n - i=k->i<=n->St i s->jT ky s.heap a led ((ns.take i).foldl step_dedup [])->
   (∀s',Moved (a::wr) G s s'->jT ky s'.heap a led (ns.foldl step_dedup [])->R (.ok (.ret .none)) s')->
   codeAny (Μ prog w) A (.builtin "set.update.loop" ⟨[.ref a,.ref I],[]⟩) R s:=by
 have V7:a∉wr:=fun z=>ha (W.sub _ z);have sub:∀b∈wr,b∈a::wr:=fun b z=>w_ _ z;intro k
 induction k with
 |zero=>
  intro i s hk hi JZ hS hR;have e:i=n:=by omega
  subst e;rw[<- hn,List.take_length]at hS;refine codeAny_builtin F.entry_set_update_loop ?_;rw[U_ F.plain_set_update_loop _];show Κ _ A.in1 (pyNext (.ref I) >>= _) _ _ s;exact a_ (W.done s _ _ JZ fun s' hm=>show Κ _ A.in1 (ret Value.none) _ _ s' from f_ (hR s' (hm.mono sub) (hS.moved fun o e=>hm.heap a o V7 e)))
 |succ k ih=>
  intro i s hk hi JZ hS hR;have JT:i < n:=by omega
  refine codeAny_builtin F.entry_set_update_loop ?_;rw[U_ F.plain_set_update_loop _];show Κ _ A.in1 (pyNext (.ref I) >>= _) _ _ s;refine a_ (W.item i s _ _ JT JZ fun v s' hP JJ hm=>?_);obtain⟨t,rfl⟩:=hv i v hP;have K':jT ky s'.heap a led ((ns.take i).foldl step_dedup []):=hS.moved fun o e=>hm.heap a o V7 e;show Κ _ A.in1 (holding [ky.mv (ns.getD i default) t] (setAdd a (ky.mv (ns.getD i default) t)) >>= _) _ _ s';unfold setAdd;refine a_ (M_ (M_ (a_ (ky.knd.pyHash (ky.is _ _) ?_))));have hlen:=J3 (ns.take i) [];rw[aak,List.length_nil]at hlen;refine add_int (s:={s' with toks:=s'.toks+1}) K' (by omega) fun h' QQ MS b=>?_;have et:(ns.take (i+1)).foldl step_dedup []=step_dedup ((ns.take i).foldl step_dedup []) (ns.getD i default):=by
   have LZ:i < ns.length:=by omega
   rw[List.take_succ,List.foldl_append,R_ LZ,aav,R_ LZ];rfl
  rw[<- et]at MS;refine f_ ⟨plainId_quiet F.plain_set_update_loop _,ih (i+1) _ (by omega) JT (W.frame _ s' _ _ JJ (Nat.le_succ _) fun b hb o e=>?_) MS fun Nd Pf T8=>?_⟩
  ·rw[QQ.2 b fun z=>ha (z ▸ hb)];exact e
  ·refine hR Nd (Moved.trans W.gtrans ((hm.mono sub).then_heap (Nat.le_succ _) fun b o hb e=>?_) Pf) T8;rw[QQ.2 b fun z=>hb (z ▸ J_)];exact e
theorem vQ (x:Ψ){Q1:Ψ->Α->Prop}(h:Q1 (.ref s.heap.objs.size) {s with heap:=s.heap.push {cls:=.type "set",dict:=Φ,data:=.set #[] 0 (.fresh 0 0 (!ir w))}}) :
  codeAny (Μ prog w) A (.call (.builtin "set.__new__") ⟨[.type "set",x],[]⟩) (wants Q1 E) s:=by
 refine codeAny_of_tree (show Κ _ A.in1 (do checkBuiltinCall "set.__new__" ⟨[.type "set",x],[]⟩;again (.builtin "set.__new__" ⟨[.type "set",x],[]⟩)) _ _ s from a_ (wpAny_of_eq (F.newCall_set_1 x) (f_ ⟨plainId_quiet F.plain_set_new _,codeAny_builtin F.entry_set_new ?_⟩)));rw[U_ F.plain_set_new _];unfold Builtin.«set.__new__» Builtin.Frozenset.newClass;have V8:=sub_set_self;obtain⟨hp,g,d,tk,os⟩:=s;dsimp only
 wp_walk
 refine wpAny_askSetting (f_ ?_);dsimp only;simp only[newObj];exact a_ (wpAny_alloc (f_ (f_ h)))
end
section
variable {prog:Ε}{w:Β}{α:Type} [DecidableEq α] [Inhabited α]{ky:Ky prog w α}{A:Ι}{E:Ψ->Α->Prop}{s:Α}
noncomputable abbrev oS (w:Β):Obj:={cls:=.type "set",dict:=Φ,data:=.set #[] 0 (.fresh 0 0 (!ir w))}
theorem uj (h:Heap):jT ky (h.push (oS w)) h.objs.size (!ir w) []:=
 ⟨_,#[],0,_,A_ _ rfl,⟨rfl,rfl,rfl⟩,rfl,fun e he=>by simp at he,by decide,rfl,vN _ _ _,[],.nil,.refl _⟩
theorem qb {l:Ω}{items:Array Ψ}{ns:List α}{Q:Ψ->Α->Prop}(hh:A.handled=Φ)(hl:s.heap.IsList l items)(hi:Ar ky.mv items.toList ns)(hb:items.size+1 < scanBound)
  (h:∀(h':Heap) (tk:Nat),jT ky h' s.heap.objs.size (!ir w) (ns.foldl step_dedup [])->(∀b o,b < s.heap.objs.size->s.heap.get? b=Δ o->h'.get? b=Δ o)->Q (.ref s.heap.objs.size) {s with heap:=h',toks:=tk}) :
  Κ (Μ prog w) A (call (.type "set") [.ref l]) Q E s:=by
 obtain⟨c,tl,mro⟩:=F.called_set.mro;have made:=F.called_set.made;have sub:=F.called_set.sub;refine wpAny_call (codeAny_of_tree (show Κ _ _ (callAny (.type "set") _) _ _ _ from f_ ⟨Code.quiet_builtin _ (by decide +kernel),codeAny_builtin F.entry_type_call ?_⟩));rw[Around.under_plain (weight_type_call_type "set" [.ref l] []) rfl];have n1:=F.called_set.notType;have n2:=F.called_set.canCreate;have n3:=F.typeCall_set_1 (.ref l)
 repeat (any_goals (first|assumption|wp_step))
 refine codeAny_mono (vQ (.ref l) (E:=E) (Q1:=fun obj s1=>obj=.ref s.heap.objs.size/\s1 = {s with heap:=s.heap.push (oS w)}) ⟨rfl,rfl⟩) fun r s1 hr=>?_;cases r with
 |error e=>exact hr
 |ok fl=>
  cases fl with
  |ret obj=>
   obtain⟨rfl,rfl⟩:=hr;have gS:(s.heap.push (oS w)).get? s.heap.objs.size=Δ (oS w):=A_ _ rfl;have hT:Shared.TypeIs {s with heap:=s.heap.push (oS w)} (.ref s.heap.objs.size) "set":=⟨_,gS,rfl⟩
   have i1:=F.called_set.init.lookup;have i2:=F.called_set.init.bind (.ref s.heap.objs.size)
   repeat (any_goals (first|assumption|wp_step))
   refine codeAny_mono (codeAny_call_builtin (R:=wants (fun r s2=>r=.none/\∃h' tk,s2 = {s with heap:=h',toks:=tk}/\jT ky h' s.heap.objs.size (!ir w) (ns.foldl step_dedup [])/\
     (∀b o,b < s.heap.objs.size->s.heap.get? b=Δ o->h'.get? b=Δ o)) E) F.called_set.init.plain F.entry_set_init (check_set_init_1 hT ?_)) fun r2 s2 T9=>?_
   ·obtain⟨ol,V9,QW,nl,V'⟩:=hl;obtain⟨X2,QX,Wa,Pg⟩:=ol;simp only at QW V';subst QW;subst V';have T':(s.heap.push (oS w)).get? l=Δ {cls:=.type "list",dict:=QX,data:=.seq items nl,slots:=Pg}:=n_ _ V9;have w1:=F.sub_list_set;have w2:=F.sub_list_frozenset;have w3:(Value.type "list" == Value.type "dict")=Ξ:=by decide
    have Qd:(s.heap.push (oS w)).IsList l items:=⟨_,T',rfl,nl,rfl⟩
    unfold Builtin.«set.__init__» noKeywords Builtin.Frozenset.updateFrom;generalize X3:pyIter=PI
    wp_walk
    subst X3;refine aad Qd (a_ (wpAny_runValue ?_));have lS:l < s.heap.objs.size:=m_ V9;have nI:l≠(s.heap.push (oS w)).objs.size:=by rw[W_];exact z_ (Nat.lt_succ_of_lt lS)
    have aS:s.heap.objs.size∉[(s.heap.push (oS w)).objs.size,l]:=by
     rw[W_];intro z;rcases k_.mp z with z|z
     ·exact z_ (Nat.lt_succ_self _) z
     ·exact Nat.ne_of_gt lS (t_.mp z)
    have hlen:ns.length=items.size:=by have:=Ar.length hi;rw[Q_]at this;exact this.symm
    refine loop ((Walks.list (show A.in1.in1.in1.handled=Φ by simp[hh]) _ l nI items).toS) s.heap.objs.size aS (ns:=ns) (fun i v hv=>Ar.at hi i v (by rw[aaj];exact hv)) hlen hb (items.size - 0) 0 _ (by omega) (aaa _)
     ⟨⟨_,A_ _ rfl,rfl,rfl⟩,(Qd.push _)⟩ ((uj s.heap).moved fun o e=>n_ _ e) ?_
    intro s' hm JY;obtain⟨h',g',d',X4,To⟩:=s';have eg:g'=s.gens:=hm.gens;have ed:d'=s.drawn:=hm.drawn;have eo:To=s.os:=hm.os;subst eg ed eo;show Κ _ _ _ _ _ _;refine f_ (show Κ _ _ (ret Value.none) _ _ _ from f_ ⟨rfl,h',X4,rfl,JY,fun b o hb e=>?_⟩);refine hm.heap b o (fun z=>?_) (n_ _ (n_ _ e));rcases k_.mp z with z|z
    ·exact z_ hb z
    ·have:=t_.mp z;rw[W_]at this;exact z_ (Nat.lt_succ_of_lt hb) this
   ·cases r2 with
    |error e=>exact T9
    |ok X5=>
     cases X5 with
     |ret r=>
      obtain⟨rfl,h',tk,rfl,JY,LF⟩:=T9
      repeat (any_goals (first|assumption|wp_step))
      exact h _ _ JY LF
     |_=>exact T9.elim
  |_=>exact hr.elim
end
theorem gP:Slot "set_iterator" "__next__" "set_iterator.__next__":=.of (owner:="set_iterator") (n:="__next__")
 (by rw[typeLookup_type,builtinLookup_eq_fast];kernel_rfl) (by decide +kernel) (by decide +kernel) (by decide +kernel) (by first|exact .inl (by decide +kernel)|exact .inr (by decide +kernel)) (by rw[isSubtype_type];kernel_rfl)
theorem ke:Slot "set_iterator" "__iter__" "set_iterator.__iter__":=.of (owner:="set_iterator") (n:="__iter__")
 (by rw[typeLookup_type,builtinLookup_eq_fast];kernel_rfl) (by decide +kernel) (by decide +kernel) (by decide +kernel) (by first|exact .inl (by decide +kernel)|exact .inr (by decide +kernel)) (by rw[isSubtype_type];kernel_rfl)
theorem iX:entryFor table "set_iterator.__next__" = Δ Builtin.«set_iterator.__next__»:=entryFor_of_tree (by kernel_rfl)
theorem i9 (a:Ψ):argsOk "set_iterator.__next__" ⟨[a],[]⟩:=by unfold argsOk;kernel_rfl
theorem oB:entryFor table "set.__iter__" = Δ Builtin.«frozenset.__iter__»:=
 entryFor_alias (id':="frozenset.__iter__") (by kernel_rfl) (by first|rfl|decide +kernel|(unfold String.splitOn;simp +decide [String.splitOnAux])) (by decide +kernel) (by kernel_rfl)
section
variable {prog:Ε}{w:Β}{α:Type} [DecidableEq α] [Inhabited α]{ky:Ky prog w α}{A:Ι}{E:Ψ->Α->Prop}{s:Α}
noncomputable abbrev Nj (first:Ψ)(i n:Nat)(a:Ω)(ep:Nat):Obj:={cls:=.type "set_iterator",data:=.fields #[first,rawInt i,.ref a,rawInt n,rawInt ep]}
theorem lT {Q:Bool->Α->Prop}(h:Q (ir w) s):Κ (Μ prog w) A setsByText Q E s:=by unfold setsByText;exact a_ (wpAny_askSetting (f_ h))
theorem uk {a:Ω}{σ:List α}{o:Obj}{es:Array (Int×Ψ)}{ep:Nat}{t:SetTable}{led:Bool}{Q:Array (Int×Ψ)->Α->Prop}(hb:ir w=Θ)(ho:s.heap.get? a=Δ o)(D:Kb ky led σ o es ep t)
  (h:Q (pickOrder (w.params.setOrder a ep) es) s):Κ (Μ prog w) A (setWalk a) Q E s:=by
 unfold setWalk;refine a_ (wpAny_setState_of ho D.da D.fi ?_);dsimp only;refine a_ (lT ?_);rw[hb,e_ rfl];exact a_ (wpAny_askSetting (f_ h))
theorem nQ {a:Ω}{σ:List α}{o:Obj}{es:Array (Int×Ψ)}{ep slot i:Nat}{t:SetTable}{led:Bool}{Q:Option (Ψ×Nat)->Α->Prop}(hb:ir w=Θ)(ho:s.heap.get? a=Δ o)(D:Kb ky led σ o es ep t)
  (h:Q (((pickOrder (w.params.setOrder a ep) es)[i]?).map fun e=>(e.2,slot)) s):Κ (Μ prog w) A (setNext a slot i ep) Q E s:=by
 unfold setNext;refine a_ (wpAny_setState_of ho D.da D.fi ?_);dsimp only;refine a_ (lT ?_);rw[hb,e_ rfl];rw[d_ (by rw[bne_self_eq_false];exact p_)];exact a_ (uk hb ho D (f_ h))
theorem mr {a:Ω}{σ:List α}{o:Obj}{es:Array (Int×Ψ)}{ep slot i:Nat}{t:SetTable}{Q:Option (Ψ×Nat)->Α->Prop}(hb:ir w=Ξ)(ho:s.heap.get? a=Δ o)(D:Kb ky (!ir w) σ o es ep t)
  (hd:(!t.plain&&decide (es.size > 1))=Ξ)
  (h:Q (match es[SetTable.below t.place slot]?,t.place[SetTable.below t.place slot]? with
   |some (_,x),Δ j=>Δ (x,j+1)
   |_,_=>Φ) s):Κ (Μ prog w) A (setNext a slot i ep) Q E s:=by
 unfold setNext;refine a_ (wpAny_setState_of ho D.da D.fi ?_);dsimp only;refine a_ (lT ?_);rw[hb,d_ p_];refine a_ (f_ ?_);show Κ _ _ (if(!t.plain&&decide (es.size > 1))=Θ then _ else _) _ _ _;rw[hd,d_ p_];have hl:t.led=Θ:=by rw[D.tb.ld,hb];rfl
 show Κ _ _ ((if(!t.led&&!es.isEmpty)=Θ then _ else _) >>= _) _ _ _;rw[hl];exact a_ (f_ (f_ h))
end
section
variable {prog:Ε}{w:Β}{α:Type} [DecidableEq α] [Inhabited α]{ky:Ky prog w α}{A:Ι}{E:Ψ->Α->Prop}{s:Α}{it a:Ω}{i n ep slot:Nat}{σ:List α}{o:Obj}{es:Array (Int×Ψ)}{t:SetTable}{led:Bool}
theorem stop {M:Model}{A:Ι}{h:Heap}{hh:A.handled=Φ}{R:Fin->Α->Prop}{R':Ψ->Α->Prop}(hQ:∀h' e,(∀b o,s.heap.get? b=Δ o->h'.get? b=Δ o)->(∃o,h'.get? e=Δ o/\o.cls=.type "StopIteration")->R' (.ref e) {s with heap:=h'}) :
  Κ M A (do raiseNew (<- newExc (.type "StopIteration") [])) R R' s:=by
 refine a_ ?_;simp only[newExc,newTuple];refine a_ (Z_ ?_ (by size_fits));refine a_ (m:=firstArgMember _ _) (wpAny_of_eq (a:=Value.none) (by first|rfl|(simp only[firstArgMember];rfl)) (Z_ ?_ (by size_fits)));simp only[raiseNew];refine a_ (wpAny_handled ?_);rw[hh];exact a_ (f_ (wpAny_throw (hQ _ _ (fun b o e=>n_ _ (n_ _ e)) ⟨_,A_ _ rfl,rfl⟩)))
theorem sr {nx:Nat}{x:Ψ}(hit:s.heap.get? it=Δ (Nj (rawInt slot) i n a ep))(ho:s.heap.get? a=Δ o)(D:Kb ky led σ o es ep t)(hn:es.size=n)
  (hs:∀(A':Ι) (E':Ψ->Α->Prop) (Q':Option (Ψ×Nat)->Α->Prop),Q' (Δ (x,nx)) s->Κ (Μ prog w) A' (setNext a slot i ep) Q' E' s) {Q:Option Ψ->Α->Prop}
  (h:∀h',h'.get? it=Δ (Nj (rawInt nx) (i+1) n a ep)->Heap.SameBut it s.heap h'->Q (Δ x) {s with heap:=h'}):Κ (Μ prog w) A (pyNext (.ref it)) Q E s:=by
 have hT:s.TypeIs (.ref it) "set_iterator":=⟨_,hit,rfl⟩
 unfold pyNext;refine a_ (wpAny_attempt (wpAny_callSpecial?_slot (name:=Ρ "__next__") hT gP (aaf gP hT iX ?_ (i9 _))));show Κ _ _ (fieldsOf (.ref it) >>= _) _ _ s;refine a_ (wpAny_fieldsOf hit rfl ?_);show Κ _ _ (setEntries a >>= _) _ _ s;refine a_ (wpAny_setEntries_of ho D.da D.fi ?_);rw[d_ (by rw[hn];simp)];show Κ _ _ (setNext a slot i ep >>= _) _ _ s;refine a_ (hs _ _ _ ?_);show Κ _ _ (setField (.ref it) 0 (rawInt nx) >>= _) _ _ s;refine a_ (aac hit (by simp) fun h1 g1 b1=>?_);refine a_ (aac g1 (by simp) fun h2 g2 b2=>?_);exact f_ ⟨x,rfl,f_ (h h2 g2 (b1.trans b2))⟩
theorem su (hh:A.handled=Φ)(hit:s.heap.get? it=Δ (Nj (rawInt slot) i n a ep))(ho:s.heap.get? a=Δ o)(D:Kb ky led σ o es ep t)(hn:es.size=n)
  (hs:∀(A':Ι) (E':Ψ->Α->Prop) (Q':Option (Ψ×Nat)->Α->Prop),Q' Φ s->Κ (Μ prog w) A' (setNext a slot i ep) Q' E' s) {Q:Option Ψ->Α->Prop}
  (h:∀h',(∀b o,b≠it->s.heap.get? b=Δ o->h'.get? b=Δ o)->Q Φ {s with heap:=h'}):Κ (Μ prog w) A (pyNext (.ref it)) Q E s:=by
 have hT:s.TypeIs (.ref it) "set_iterator":=⟨_,hit,rfl⟩
 unfold pyNext;refine a_ (wpAny_attempt (wpAny_callSpecial?_slot (name:=Ρ "__next__") hT gP (aaf gP hT iX ?_ (i9 _))));show Κ _ _ (fieldsOf (.ref it) >>= _) _ _ s;refine a_ (wpAny_fieldsOf hit rfl ?_);show Κ _ _ (setEntries a >>= _) _ _ s;refine a_ (wpAny_setEntries_of ho D.da D.fi ?_);rw[d_ (by rw[hn];simp)];show Κ _ _ (setNext a slot i ep >>= _) _ _ s;refine a_ (hs _ _ _ ?_);show Κ _ _ (setField (.ref it) 2 .none >>= _) _ _ s;refine a_ (aac hit (by simp) fun h1 g1 b1=>?_);refine stop (h:=h1) (hh:=show A.in1.handled=Φ from hh) (s:={s with heap:=h1}) fun h' e k he=>?_;obtain⟨oe,ge,ce⟩:=he;refine a_ (wpAny_isInstance (T:="StopIteration") (b:=Θ) ⟨_,ge,ce⟩ isSubtype_stop ?_);exact f_ (h h' fun b o hb e=>k b o (b1.extBut b o hb e))
end
section
variable {prog:Ε}{w:Β}{α:Type} [DecidableEq α] [Inhabited α]{ky:Ky prog w α}{A:Ι}{E:Ψ->Α->Prop}{s:Α}{it a T:Ω}{i n ep slot:Nat}{σ:List α}{o:Obj}{es:Array (Int×Ψ)}{t:SetTable}{led:Bool}
noncomputable abbrev Ph (ps:List Nat):Obj:={cls:=.type "tuple",data:=.seq (ps.map fun(k:Nat)=>rawInt k).toArray}
theorem rn {pl:Nat}{c:Int}{x:Ψ}{Q:Ψ->Α->Prop}(ho:s.heap.get? a=Δ o)(D:Kb ky led σ o es ep t)(he:es[pl]? = Δ (c,x))(h:Q x s):Κ (Μ prog w) A (setNextDrawn a pl ep) Q E s:=by unfold setNextDrawn;refine a_ (wpAny_setState_of ho D.da D.fi ?_);dsimp only;rw[d_ (by rw[bne_self_eq_false];exact p_)];rw[he];exact f_ h
theorem vR {ps:List Nat}{pl:Nat}{c:Int}{x:Ψ}(hit:s.heap.get? it=Δ (Nj (.ref T) i n a ep))(hT:s.heap.get? T=Δ (Ph ps))(ho:s.heap.get? a=Δ o)(D:Kb ky led σ o es ep t)(hn:es.size=n)
  (hp:ps[i]? = Δ pl) (he:es[pl]? = Δ (c,x)) {Q:Option Ψ->Α->Prop}
  (h:∀h',h'.get? it=Δ (Nj (.ref T) (i+1) n a ep)->Heap.SameBut it s.heap h'->Q (Δ x) {s with heap:=h'}):Κ (Μ prog w) A (pyNext (.ref it)) Q E s:=by
 have QY:s.TypeIs (.ref it) "set_iterator":=⟨_,hit,rfl⟩
 unfold pyNext;refine a_ (wpAny_attempt (wpAny_callSpecial?_slot (name:=Ρ "__next__") QY gP (aaf gP QY iX ?_ (i9 _))));show Κ _ _ (fieldsOf (.ref it) >>= _) _ _ s;refine a_ (wpAny_fieldsOf hit rfl ?_);show Κ _ _ (setEntries a >>= _) _ _ s;refine a_ (wpAny_setEntries_of ho D.da D.fi ?_);rw[d_ (by rw[hn];simp)];show Κ _ _ (seqItems? (.ref T) >>= _) _ _ s;refine a_ (N_ hT rfl ?_);dsimp only;have e:((ps.map fun(k:Nat)=>rawInt k).toArray)[((i:Nat):Int).toNat]? = Δ (rawInt pl):=by simp[hp]
 rw[e];show Κ _ _ (setNextDrawn a pl ep >>= _) _ _ s;refine a_ (rn ho D he ?_);refine a_ (aac hit (by simp) fun h1 g1 b1=>?_);exact f_ ⟨x,rfl,f_ (h h1 g1 b1)⟩
theorem vS {ps:List Nat}(hh:A.handled=Φ)(hit:s.heap.get? it=Δ (Nj (.ref T) i n a ep))(hT:s.heap.get? T=Δ (Ph ps))(ho:s.heap.get? a=Δ o)(D:Kb ky led σ o es ep t)(hn:es.size=n)
  (hp:ps[i]? = Φ) {Q:Option Ψ->Α->Prop}
  (h:∀h',(∀b o,b≠it->s.heap.get? b=Δ o->h'.get? b=Δ o)->Q Φ {s with heap:=h'}):Κ (Μ prog w) A (pyNext (.ref it)) Q E s:=by
 have QY:s.TypeIs (.ref it) "set_iterator":=⟨_,hit,rfl⟩
 unfold pyNext;refine a_ (wpAny_attempt (wpAny_callSpecial?_slot (name:=Ρ "__next__") QY gP (aaf gP QY iX ?_ (i9 _))));show Κ _ _ (fieldsOf (.ref it) >>= _) _ _ s;refine a_ (wpAny_fieldsOf hit rfl ?_);show Κ _ _ (setEntries a >>= _) _ _ s;refine a_ (wpAny_setEntries_of ho D.da D.fi ?_);rw[d_ (by rw[hn];simp)];show Κ _ _ (seqItems? (.ref T) >>= _) _ _ s;refine a_ (N_ hT rfl ?_);dsimp only;have e:((ps.map fun(k:Nat)=>rawInt k).toArray)[((i:Nat):Int).toNat]? = Φ:=by have:=hp;simp at this ⊢;exact this
 rw[e];show Κ _ _ (setField (.ref it) 0 (rawInt 0) >>= _) _ _ s;refine a_ (aac hit (by simp) fun h1 g1 b1=>?_);refine a_ (aac g1 (by simp) fun h2 g2 b2=>?_);refine stop (h:=h2) (hh:=show A.in1.handled=Φ from hh) (s:={s with heap:=h2}) fun h' e k he=>?_;obtain⟨oe,ge,ce⟩:=he;refine a_ (wpAny_isInstance (T:="StopIteration") (b:=Θ) ⟨_,ge,ce⟩ isSubtype_stop ?_);exact f_ (h h' fun b o hb e=>k b o (b2.extBut b o hb (b1.extBut b o hb e)))
theorem mz {α:Type}(l:List α):∀(j:Nat) (h:j < l.length),(l[j]::l.eraseIdx j).Perm l:=by
 induction l with
 |nil=>intro j h;cases h
 |cons a l ih=>
  intro j h;cases j with
  |zero=>exact .refl _
  |succ j=>
   have h':j < l.length:=by simpa using h
   exact(List.Perm.swap a l[j] (l.eraseIdx j)).trans (List.Perm.cons a (ih j h'))
theorem um {α:Type}(f:Nat->Nat):∀(fuel k:Nat) (left:List α) (out:Array α),left.length<=fuel->(pickOrder.go f fuel k left out).toList.Perm (out.toList++left):=by
 intro fuel
 induction fuel with
 |zero=>intro k left out h;have:left=[]:=List.length_eq_zero_iff.mp (by omega);subst this;unfold pickOrder.go;rw[v_]
 |succ n ih=>
  intro k left out h;unfold pickOrder.go;cases left with
  |nil=>simp
  |cons y l=>have JT:f k % (y::l).length < (y::l).length:=Nat.mod_lt _ (by simp);generalize f k % (y::l).length=j at JT;rw[R_ JT];dsimp only;refine(ih (k+1) _ _ (by rw[List.length_eraseIdx_of_lt JT];simp at h ⊢;omega)).trans ?_;rw[Array.toList_push,r_];refine aau _ ?_;exact(mz _ _ JT)
theorem kz {α:Type}(f:Nat->Nat)(xs:Array α):(pickOrder f xs).toList.Perm xs.toList:=by have:=um f xs.size 0 xs.toList #[] (by simp);rw[show(#[]:Array α).toList++xs.toList=xs.toList by simp]at this;exact this
theorem uo {src:Source}{m:Nat}{Q:Nat->Α->Prop}(hm:m≠0)(h:∀k d,k < m->Q k {s with drawn:=d}):Κ (Μ prog w) A (choose src m) Q E s:=fun Γ p hΓ=>
 show m≠0/\Q _ _ from⟨hm,h _ _ (Nat.mod_lt _ (Nat.pos_of_ne_zero hm))⟩
theorem zA {α:Type}{Q:List α->Α->Prop}:∀(m:Nat) (xs:List α) (s:Α),xs.length=m->(∀ys d,ys.Perm xs->Q ys {s with drawn:=d})->Κ (Μ prog w) A (drawOrder m xs) Q E s:=by
 intro m
 induction m generalizing Q with
 |zero=>intro xs s hx h;have:xs=[]:=List.length_eq_zero_iff.mp hx;subst this;exact f_ (by cases s;exact h [] _ (.refl _))
 |succ m ih=>
  intro xs s hx h;cases xs with
  |nil=>cases hx
  |cons y l=>unfold drawOrder;refine a_ (uo (by simp) fun k d hk=>?_);rw[R_ hk];dsimp only;refine a_ (ih _ _ (by rw[List.length_eraseIdx_of_lt hk];simp at hx ⊢;omega) fun ys d' hy=>f_ ?_);exact h _ d' ((List.Perm.cons _ hy).trans (mz _ _ hk))
end
theorem mB:entryFor table "set_iterator.__iter__" = Δ Builtin.«dict_keyiterator.__iter__»:=
 entryFor_alias (id':="dict_keyiterator.__iter__") (by kernel_rfl) (by first|rfl|decide +kernel|(unfold String.splitOn;simp +decide [String.splitOnAux])) (by decide +kernel) (by kernel_rfl)
theorem nk (a:Ψ):argsOk "set_iterator.__iter__" ⟨[a],[]⟩:=by unfold argsOk;kernel_rfl
section
variable {prog:Ε}{w:Β}{α:Type} [DecidableEq α] [Inhabited α]{ky:Ky prog w α}{A:Ι}{E:Ψ->Α->Prop}{s:Α}{it a T:Ω}{i n ep slot:Nat}{σ:List α}{o:Obj}{es:Array (Int×Ψ)}{t:SetTable}{led:Bool}
theorem mC {f:Ψ}{Q:Ψ->Α->Prop}(hit:s.heap.get? it=Δ (Nj f i n a ep))(h:Q (.ref it) s):Κ (Μ prog w) A (pyIter (.ref it)) Q E s:=by
 have hT:s.TypeIs (.ref it) "set_iterator":=⟨_,hit,rfl⟩
 refine wpAny_pyIter_slot hT ke (aaf ke hT mB ?_ (nk _));exact f_ ⟨_,rfl,"set_iterator",_,hT,gP.lookup,h⟩
theorem sv {xs:Array Nat}{j p q:Nat}(h1:Cut xs j p)(h2:Cut xs j q):p=q:=by
 have key:∀p q:Nat,Cut xs j p->Cut xs j q->¬p < q:=fun p q h1 h2 h=>by
  have hl:p < xs.size:=P_ h h2.le;have e:xs[p]? = Δ xs[p]:=by simp[hl]
  have:=h2.lo p _ h e;have:=h1.hi p _ (l_ _) e;omega
 have:=key p q h1 h2;have:=key q p h2 h1;omega
theorem EX (hh:A.handled=Φ)(hb:ir w=Θ)(D:Kb ky led σ o es ep t)(Kx:a≠it) :
  Walks prog w A it [it,a] [it] es.size (fun i v=>((pickOrder (w.params.setOrder a ep) es).toList.map (·.2))[i]? = Δ v) (fun i h=>h.get? it=Δ (Nj (rawInt 0) i es.size a ep)/\h.get? a=Δ o) where
 sub:=fun b hb=>by rw[t_.mp hb];exact J_
 frame:=fun _ _ _ st k=>⟨k it (by simp) _ st.1,k a (by simp) _ st.2⟩
 item:=fun i s Q E hi st hQ=>by
  have hl:(pickOrder (w.params.setOrder a ep) es).size=es.size:=by rw[<- Q_,(kz _ es).length_eq,Q_]
  have e:(pickOrder (w.params.setOrder a ep) es)[i]? = Δ (pickOrder (w.params.setOrder a ep) es)[i]:=by simp[hl,hi]
  refine sr (x:=(pickOrder (w.params.setOrder a ep) es)[i].2) (nx:=0) st.1 st.2 D rfl (fun A' E' Q' q=>nQ hb st.2 D (by rw[e];exact q)) fun h' g b=>?_;exact hQ _ h' s.toks (by rw[L_,aaj,e];rfl) ⟨g,b.extBut a o Kx st.2⟩ fun c o hc e=>b.extBut c o (fun z=>hc (by simp[z])) e
 done:=fun s Q E st hQ=>by
  have hl:(pickOrder (w.params.setOrder a ep) es).size=es.size:=by rw[<- Q_,(kz _ es).length_eq,Q_]
  have e:(pickOrder (w.params.setOrder a ep) es)[es.size]? = Φ:=by simp[hl]
  exact su hh st.1 st.2 D rfl (fun A' E' Q' q=>nQ hb st.2 D (by rw[e];exact q)) fun h' k=>hQ h' s.toks fun c o hc e=>k c o (fun z=>hc (by simp[z])) e
 self:=fun _ _ _ _ st hQ=>mC st.1 hQ
noncomputable def nR (t:SetTable):Nat->Nat
 |0=>0
 |i+1=>t.place.getD i 0+1
theorem nS (u:Up t.place)(hi:i<=t.place.size):Cut t.place (nR t i) i:=by
 cases i with
 |zero=>exact⟨hi,fun i x h=>absurd h (Nat.not_lt_zero i),fun i x _ _=>aaa _⟩
 |succ k=>
  have hk:k < t.place.size:=by omega
  have e:t.place[k]? = Δ t.place[k]:=by simp[hk]
  have eg:t.place.getD k 0=t.place[k]:=by simp[Array.getD,hk]
  refine⟨hi,fun j x hj hx=>?_,fun j x hj hx=>?_⟩
  ·show x < t.place.getD k 0+1;rw[eg];by_cases q:j=k
   ·subst q;rw[e]at hx;cases hx;omega
   ·have:=u j k x _ (by omega) hx e;omega
  ·show t.place.getD k 0+1<=x;rw[eg];have:=u k j _ x (by omega) e hx;omega
theorem EY (hh:A.handled=Φ)(hb:ir w=Ξ)(D:Kb ky (!ir w) σ o es ep t)(hd:(!t.plain&&decide (es.size > 1))=Ξ)(Kx:a≠it) :
  Walks prog w A it [it,a] [it] es.size (fun i v=>(vals es)[i]? = Δ v) (fun i h=>h.get? it=Δ (Nj (rawInt (nR t i)) i es.size a ep)/\h.get? a=Δ o) where
 sub:=fun b hb=>by rw[t_.mp hb];exact J_
 frame:=fun _ _ _ st k=>⟨k it (by simp) _ st.1,k a (by simp) _ st.2⟩
 item:=fun i s Q E hi st hQ=>by
  have hz:t.place.size=es.size:=by have:=D.fi;unfold SetTable.fits at this;rw[j_]at this;exact h_ this.1
  have hp:i < t.place.size:=by omega
  have eb:SetTable.below t.place (nR t i)=i:=sv (kY D.tb.up _) (nS D.tb.up (Nat.le_of_lt hp));have e1:es[i]? = Δ (es[i].1,es[i].2):=by simp[hi]
  have e2:t.place[i]? = Δ t.place[i]:=by simp[hp]
  have e3:nR t (i+1)=t.place[i]+1:=by show t.place.getD i 0+1=_;simp[Array.getD,hp]
  refine sr (x:=es[i].2) (nx:=nR t (i+1)) st.1 st.2 D rfl (fun A' E' Q' q=>mr hb st.2 D hd (by rw[eb,e1,e2];rw[e3]at q;exact q)) fun h' g b=>?_;exact hQ _ h' s.toks (by rw[L_,aaj,e1];rfl) ⟨g,b.extBut a o Kx st.2⟩ fun c o hc e=>b.extBut c o (fun z=>hc (by simp[z])) e
 done:=fun s Q E st hQ=>by
  have hz:t.place.size=es.size:=by have:=D.fi;unfold SetTable.fits at this;rw[j_]at this;exact h_ this.1
  have eb:SetTable.below t.place (nR t es.size)=es.size:=sv (kY D.tb.up _) (nS D.tb.up (by omega));have e1:es[es.size]? = Φ:=by simp
  exact su hh st.1 st.2 D rfl (fun A' E' Q' q=>mr hb st.2 D hd (by rw[eb,e1];exact q)) fun h' k=>hQ h' s.toks fun c o hc e=>k c o (fun z=>hc (by simp[z])) e
 self:=fun _ _ _ _ st hQ=>mC st.1 hQ
theorem EZ (hh:A.handled=Φ)(D:Kb ky led σ o es ep t){ps:List Nat}(hp:ps.Perm (List.range es.size))(Kx:a≠it)(X6:T≠it) :
  Walks prog w A it [it,a,T] [it] es.size (fun i v=>(ps.map fun k=>(es.getD k (0,.none)).2)[i]? = Δ v) (fun i h=>h.get? it=Δ (Nj (.ref T) i es.size a ep)/\h.get? a=Δ o/\h.get? T=Δ (Ph ps)) where
 sub:=fun b hb=>by rw[t_.mp hb];exact J_
 frame:=fun _ _ _ st k=>⟨k it (by simp) _ st.1,k a (by simp) _ st.2.1,k T (by simp) _ st.2.2⟩
 item:=fun i s Q E hi st hQ=>by
  have hl:ps.length=es.size:=by rw[hp.length_eq,List.length_range]
  have LZ:i < ps.length:=by omega
  have JT:ps[i] < es.size:=aai.mp (hp.mem_iff.mp (aat LZ));have e1:ps[i]? = Δ ps[i]:=R_ LZ;have e2:es[ps[i]]? = Δ (es[ps[i]].1,es[ps[i]].2):=by simp[JT]
  refine vR st.1 st.2.2 st.2.1 D rfl e1 e2 fun h' g b=>?_;exact hQ _ h' s.toks (by rw[L_,e1];simp[Array.getD,JT]) ⟨g,b.extBut a o Kx st.2.1,b.extBut T _ X6 st.2.2⟩ fun c o hc e=>b.extBut c o (fun z=>hc (by simp[z])) e
 done:=fun s Q E st hQ=>by
  have hl:ps.length=es.size:=by rw[hp.length_eq,List.length_range]
  exact vS hh st.1 st.2.2 st.2.1 D rfl (by rw[List.getElem?_eq_none];omega) fun h' k=>hQ h' s.toks fun c o hc e=>k c o (fun z=>hc (by simp[z])) e
 self:=fun _ _ _ _ st hQ=>mC st.1 hQ
end
section
variable {prog:Ε}{w:Β}{α:Type} [DecidableEq α] [Inhabited α]{ky:Ky prog w α}{A:Ι}{E:Ψ->Α->Prop}{s:Α}{it a T:Ω}{i n ep slot:Nat}{σ:List α}{o:Obj}{es:Array (Int×Ψ)}{t:SetTable}{led:Bool}
structure Ua {prog:Ε}{w:Β}{α:Type} [DecidableEq α](ky:Ky prog w α)(A:Ι)(a:Ω)(σ:List α)(h h1:Heap)(it:Ω)(seq:List Ψ)(n:Nat)(fp:List Ω)(St:Nat->Heap->Prop):Prop where
 keep:∀b o,h.get? b=Δ o->h1.get? b=Δ o
 new:h.get? it=Φ
 pm:∃ks,Ar ky.mv seq ks/\ks.Perm σ
 ln:seq.length=n
 wk:Walks prog w A it fp [it] n (fun i v=>seq[i]? = Δ v) St
 st:St 0 h1
 X7:∀b∈fp,b=a∨h.get? b=Φ
theorem kA (h:Heap):h.get? h.objs.size=Φ:=by
 cases e:h.get? h.objs.size with
 |none=>rfl
 |some o=>exact absurd (m_ e) (aah _)
theorem qc (h:Heap)(o:Obj):h.get? (h.push o).objs.size=Φ:=by
 cases e:h.get? (h.push o).objs.size with
 |none=>rfl
 |some o'=>have:=m_ e;rw[W_]at this;exact absurd this (Nat.not_lt.mpr (Nat.le_succ _))
theorem map_range (es:Array (Int×Ψ)):(List.range es.size).map (fun k=>(es.getD k (0,.none)).2)=vals es:=by
 apply List.ext_getElem?;intro j;rw[L_,L_];by_cases h:j < es.size
 ·rw[List.getElem?_range h];simp[Array.getD,h]
 ·rw[List.getElem?_eq_none (by simp;omega)];simp[h]
theorem vT (hh:A.handled=Φ)(hS:jT ky s.heap a (!ir w) σ){Q:Ψ->Α->Prop}(h:∀h1 d it seq n fp St,Ua ky A a σ s.heap h1 it seq n fp St->Q (.ref it) {s with heap:=h1,drawn:=d}) :
  Κ (Μ prog w) A (pyIter (.ref a)) Q E s:=by
 obtain⟨o,es,ep,t,ho,D⟩:=hS;obtain⟨ks,k1,k2⟩:=D.pm;have hT:s.TypeIs (.ref a) "set":=⟨_,ho,D.ex.1⟩
 have alt:a < s.heap.objs.size:=m_ ho;refine wpAny_pyIter_slot hT F.slot_set_iter (aaf F.slot_set_iter hT oB ?_ (F.args_set_iter_1 _));show Κ _ _ (Builtin.Frozenset.sizeOf a >>= _) _ _ s;unfold Builtin.Frozenset.sizeOf;refine a_ (a_ (wpAny_setEntries_of ho D.da D.fi (f_ ?_)));have Ub:∀ {f:Ψ}{h1:Heap}{d:Drawn}{x:Ω},h1.get? x=Δ (Nj f 0 es.size a ep)->Shared.TypeIs {s with heap:=h1,drawn:=d} (.ref x) "set_iterator":=fun e=>⟨_,e,rfl⟩
 show Κ _ _ (setDrawn a >>= _) _ _ s;unfold setDrawn;refine a_ (a_ (wpAny_setState_of ho D.da D.fi ?_));dsimp only;refine a_ (lT (f_ ?_));cases hb:ir w with
 |true=>
  show Κ _ _ (if(!Θ&&_)=Θ then _ else _) _ _ _;rw[Bool.not_true,Bool.false_and,d_ p_];refine a_ (f_ (a_ (wpAny_setEpoch_of ho D.da D.fi (a_ (Z_ ?_ (by size_fits))))));obtain⟨KZ,k3,k4⟩:=kx ((kz (w.params.setOrder a ep) es).map (·.2)) k1;have hl:((pickOrder (w.params.setOrder a ep) es).toList.map (·.2)).length=es.size:=by rw[i_,(kz _ es).length_eq,Q_]
  have W:=EX (A:=A) (it:=s.heap.objs.size) hh hb D (z_ alt)
  exact f_ ⟨_,rfl,"set_iterator",_,Ub (d:=s.drawn) (A_ _ rfl),gP.lookup,h _ s.drawn s.heap.objs.size _ _ _ _
   ⟨fun b o e=>n_ _ e,kA _,⟨KZ,k3,k4.trans k2⟩,hl,W,⟨A_ _ rfl,n_ _ ho⟩,fun b hb=>by
    rcases k_.mp hb with e|hb
    ·rw[e];exact .inr (kA _)
    ·exact .inl (t_.mp hb)⟩⟩
 |false=>
  cases hd:(!t.plain&&decide (es.size > 1)) with
  |false=>
   show Κ _ _ (if(!Ξ&&(!t.plain&&decide (es.size > 1)))=Θ then _ else _) _ _ _;rw[hd,Bool.and_false,d_ p_];refine a_ (f_ (a_ (wpAny_setEpoch_of ho D.da D.fi (a_ (Z_ ?_ (by size_fits))))));have hl:(vals es).length=es.size:=by rw[i_,Q_]
   have W:=EY (A:=A) (it:=s.heap.objs.size) hh hb D hd (z_ alt)
   exact f_ ⟨_,rfl,"set_iterator",_,Ub (d:=s.drawn) (A_ _ rfl),gP.lookup,h _ s.drawn s.heap.objs.size _ _ _ _
    ⟨fun b o e=>n_ _ e,kA _,⟨ks,k1,k2⟩,hl,W,⟨A_ _ rfl,n_ _ ho⟩,fun b hb=>by
     rcases k_.mp hb with e|hb
     ·rw[e];exact .inr (kA _)
     ·exact .inl (t_.mp hb)⟩⟩
  |true=>
   show Κ _ _ (if(!Ξ&&(!t.plain&&decide (es.size > 1)))=Θ then _ else _) _ _ _;rw[hd,Bool.not_false,Bool.and_self,e_ rfl];have hz:=fits_of_scanBound D.sb;refine a_ (zA _ _ _ List.length_range fun ps d hp=>?_);have Wb:ps.length=es.size:=by rw[hp.length_eq,List.length_range]
   have Wc:(s.heap.push (Ph ps)).get? a=Δ o:=n_ _ ho;refine a_ (wpAny_newTuple (a_ (wpAny_setEpoch_of Wc D.da D.fi (a_ (Z_ ?_ (by size_fits))))) (by rw[i_,Wb];exact hz));have pv:(ps.map fun k=>(es.getD k (0,.none)).2).Perm (vals es):=by rw[<- map_range];exact hp.map _
   obtain⟨KZ,k3,k4⟩:=kx pv k1;have hl:(ps.map fun k=>(es.getD k (0,.none)).2).length=es.size:=by rw[i_,Wb]
   have hsz:(s.heap.push (Ph ps)).objs.size=s.heap.objs.size+1:=W_ ..;have W:=EZ (A:=A) (T:=s.heap.objs.size) (it:=(s.heap.push (Ph ps)).objs.size) hh D hp (by rw[hsz];exact z_ (Nat.lt_succ_of_lt alt)) (by rw[hsz];exact z_ (Nat.lt_succ_self _))
   exact f_ ⟨_,rfl,"set_iterator",_,Ub (d:=d) (A_ _ rfl),gP.lookup,h _ d (s.heap.push (Ph ps)).objs.size _ _ _ _
    ⟨fun b o e=>n_ _ (n_ _ e),qc _ _,⟨KZ,k3,k4.trans k2⟩,hl,W,
     ⟨A_ _ rfl,n_ _ Wc,n_ _ (A_ _ rfl)⟩,fun b hb=>by
     rcases k_.mp hb with e|hb
     ·rw[e];exact .inr (qc _ _)
     ·rcases k_.mp hb with e|hb
      ·exact .inl e
      ·rw[t_.mp hb];exact .inr (kA _)⟩⟩
end
section
variable {prog:Ε}{w:Β}{α:Type} [DecidableEq α] [Inhabited α]{ky:Ky prog w α}{A:Ι}{E:Ψ->Α->Prop}{s:Α}{a:Ω}{σ:List α}
theorem vU {Q:Bool->Α->Prop}(hT:s.TypeIs (.ref a) "set") (h:Q Ξ s):Κ (Μ prog w) A (Builtin.List.listLengthHint (.ref a)) Q E s:=by
 unfold Builtin.List.listLengthHint;refine a_ (wpAny_specialOf hT PySem.F.slot_set_len.lookup ?_);generalize Pj:("set.__len__" : String)=X8
 wp_delta
 rw[show splitId X8=Δ ("set","__len__") from by subst Pj;decide +kernel];subst Pj;refine a_ (wpAny_isInstance (T:="set") (b:=Θ) hT (by rw[isSubtype_type];kernel_rfl) (wpAny_ite_split (fun z=>absurd z (by decide)) fun _=>wpAny_ite_split (fun _=>?_) fun z=>absurd (by decide +kernel) z));exact a_ (wpAny_typeOf hT (f_ h))
theorem CP {seq:List Ψ}{acc:Array Ψ}(h:ItemsOf (fun i v=>seq[i]? = Δ v) acc seq.length):acc.toList=seq:=by
 apply List.ext_getElem?;intro j;rw[aaj];by_cases hj:j < acc.size
 ·have e:acc[j]? = Δ acc[j]:=by simp[hj]
  rw[e,h.2 j _ e]
 ·have h1:acc[j]? = Φ:=by simp;omega
  rw[h1,List.getElem?_eq_none (by rw[<- h.1];omega)]
theorem zB {R:Result->Α->Prop}(hh:A.handled=Φ)(hS:jT ky s.heap a (!ir w) σ)(S:Ω)(Wd:S≠a)(res:Ψ)(c0:Nat)(hg:s.heap.get? S=Δ {cls:=.type "list",data:=.seq #[] c0}) (hn:σ.length<=Ζ)
  (hR:∀h' tk d acc c,(∀b o,b≠S->s.heap.get? b=Δ o->h'.get? b=Δ o)->h'.get? S=Δ {cls:=.type "list",dict:=Φ,data:=.seq acc c,slots:=#[]}->(∃ks,Ar ky.mv acc.toList ks/\ks.Perm σ)->R (.ok (.ret res)) {s with heap:=h',toks:=tk,drawn:=d}) :
  Κ (Μ prog w) A.in1 (Χ (.ref S) (.ref a) res)
   (fun fin s'=>match fin with|.done f=>R (.ok f) s'|.again c'=>c'.quiet=Θ/\codeAny (Μ prog w) A c' R s') (fun e s'=>R (.error e) s') s:=by
 have hT:s.TypeIs (.ref a) "set":=by obtain⟨o,es,ep,t,ho,D⟩:=hS;exact⟨o,ho,D.ex.1⟩
 unfold Χ;refine a_ (wpAny_typeOf (T:="set") hT ?_);have h1:Builtin.List.listSameRef (.ref S) (.ref a)=Ξ:=by simp[Builtin.List.listSameRef,Wd]
 rw[d_ (by rw[h1];decide)];refine a_ (vT (A:=A.in1) hh hS fun h1 d it seq n fp St C=>?_);have We:S∉fp:=fun z=>(C.X7 S z).elim Wd fun e=>by rw[hg]at e;cases e
 have hSi:S≠it:=fun z=>by rw[z,C.new]at hg;cases hg
 obtain⟨ks,q1,q2⟩:=C.pm;have X9:n<=Ζ:=by rw[<- C.ln,Ar.length q1,q2.length_eq];exact hn
 have key:∀(h:Heap) (c1 tk:Nat),St 0 h->(∀b o,b≠S->s.heap.get? b=Δ o->h.get? b=Δ o)->h.get? S=Δ {cls:=.type "list",data:=.seq #[] c1}->
   codeAny (Μ prog w) A (.builtin "list.extend.loop" ⟨[.ref S,.ref it,res],[]⟩) R {s with heap:=h,toks:=tk,drawn:=d}:=by
  intro h c1 tk JZ hk K';refine codeAny_extend_loopS C.wk.toS X9 S We res n 0 _ #[] c1 rfl (aaa _) JZ K' (ItemsOf.nil _) fun s' acc c hm JY J'=>?_;rw[Moved.eq_with hm];rw[<- C.ln]at J';refine hR s'.heap s'.toks d acc c (fun b o hb e=>hm.heap b o (fun z=>?_) (hk b o hb e)) JY ⟨ks,by rw[CP J'];exact q1,q2⟩;rcases k_.mp z with z|z
  ·exact hb z
  ·rw[t_.mp z,C.new]at e;cases e
 have Ya:Shared.TypeIs {s with heap:=h1,drawn:=d} (.ref a) "set":=by obtain⟨o,es,ep,t,ho,D⟩:=hS;exact⟨o,C.keep _ _ ho,D.ex.1⟩
 have g1:=C.keep _ _ hg;refine a_ (M_ (vU Ya (wpAny_ite_split (fun _=>?_) fun _=>f_ ⟨plainId_quiet PySem.F.plain_extend_loop _,key _ c0 _ C.st (fun b o _ e=>C.keep b o e) g1⟩)));refine a_ (wpAny_rule (a_ ?_));show Κ _ _ (updateSeq S (·.push .none) >>= fun _=>updateSeq S (·.pop)) _ _ _;have g2:=aal (ι (·.push Value.none)) g1 rfl;have g3:=aal (ι (·.pop)) g2 rfl;refine a_ (wpAny_updateSeq g1 rfl (wpAny_updateSeq (hz:=by seq_fits) g2 rfl (f_ ⟨plainId_quiet PySem.F.plain_extend_loop _,key _ _ _ ?_ (fun b o hb e=>?_) g3⟩)))
 ·refine C.wk.frame 0 _ _ C.st fun b hb o e=>?_;have Nf:S≠b:=fun z=>We (z ▸ hb);exact(F_ _ _ Nf).trans ((F_ _ _ Nf).trans e)
 ·have Nf:S≠b:=fun z=>hb z.symm;exact(F_ _ _ Nf).trans ((F_ _ _ Nf).trans (C.keep b o e))
end
section
variable {prog:Ε}{w:Β}{α:Type} [DecidableEq α] [Inhabited α]{ky:Ky prog w α}{A:Ι}{E:Ψ->Α->Prop}{s:Α}{a:Ω}{σ:List α}
theorem qd {Q:List Ψ->Α->Prop}(hh:A.handled=Φ)(hS:jT ky s.heap a (!ir w) σ)(hn:σ.length<=Ζ)
  (h:∀h' tk d (acc:Array Ψ),s.heap.objs.size < h'.objs.size->(∀b o,s.heap.get? b=Δ o->h'.get? b=Δ o)->(∃ks,Ar ky.mv acc.toList ks/\ks.Perm σ)->Q acc.toList {s with heap:=h',toks:=tk,drawn:=d}):Κ (Μ prog w) A (collect (.ref a)) Q E s:=by
 have JT:a < s.heap.objs.size:=by obtain⟨o,es,ep,t,ho,D⟩:=hS;exact m_ ho
 unfold collect;refine a_ (wpAny_runValue (codeAny_builtin entry_proto_collect' ?_));rw[U_ PySem.F.plain_proto_collect _];refine(show Κ _ A.in1 (newList [] >>= fun l=>again (.builtin "list.__iadd__" ⟨[l,.ref a],[]⟩)) _ _ s from a_ (Z_ (f_ ⟨plainId_quiet PySem.F.plain_list_iadd _,codeAny_builtin entry_list_iadd' ?_⟩)));rw[U_ PySem.F.plain_list_iadd _];have g1:(s.heap.push {cls:=.type "list",data:=.seq ([]:List Ψ).toArray}).get? s.heap.objs.size=Δ {cls:=.type "list",data:=.seq #[]}:=A_ _ rfl;show Κ _ A.in1 (Χ (.ref s.heap.objs.size) (.ref a) (.ref s.heap.objs.size)) _ _ _;have key:=zB (A:=A) (s:={s with heap:=s.heap.push {cls:=.type "list",data:=.seq ([]:List Ψ).toArray}})
  (R:=fun(q:Result) (s':Α)=>∃(h':Heap) (tk:Nat) (d:Drawn) (acc:Array Ψ) (c:Nat),q=.ok (.ret (.ref s.heap.objs.size))/\s' = {s with heap:=h',toks:=tk,drawn:=d}/\
   (∀b o,s.heap.get? b=Δ o->h'.get? b=Δ o)/\h'.get? s.heap.objs.size=Δ {cls:=.type "list",dict:=Φ,data:=.seq acc c,slots:=#[]}/\∃ks,Ar ky.mv acc.toList ks/\ks.Perm σ)
  hh (hS.moved fun o e=>n_ _ e) s.heap.objs.size (Nat.ne_of_gt JT) (.ref s.heap.objs.size) 0 g1 hn
  (fun h' tk d acc c hk JY J'=>⟨h',tk,d,acc,c,rfl,rfl,fun b o e=>hk b o (z_ (m_ e)) (n_ _ e),JY,J'⟩)
 refine wpAny_mono key (fun fin s' x=>?_) fun e s' x=>?_
 ·cases fin with
  |done f=>obtain⟨h',tk,d,acc,c,e,rfl,hk,JY,J'⟩:=x;cases e;exact show Κ _ A (load s.heap.objs.size >>= _) _ _ _ from a_ (wpAny_load JY (f_ (h h' tk d acc (m_ JY) hk J')))
  |again c1=>refine⟨x.1,codeAny_mono x.2 fun q s2 y=>?_⟩;obtain⟨h',tk,d,acc,c,rfl,rfl,hk,JY,J'⟩:=y;exact show Κ _ A (load s.heap.objs.size >>= _) _ _ _ from a_ (wpAny_load JY (f_ (h h' tk d acc (m_ JY) hk J')))
 ·obtain⟨_,_,_,_,_,e',_⟩:=x;cases e'
theorem mD {Q:Ψ->Α->Prop}(hh:A.handled=Φ)(hS:jT ky s.heap a (!ir w) σ)(L0:σ.length < 64){Od:List α->Prop}(Yb:∀ {A:Ι}{E:Ψ->Α->Prop}{s:Α}{a:Ω}{vs:List Ψ}{ss:List α}{n:Nat}{P:Fin->Α->Prop},s.heap.get? a=Δ (seqObj "list" vs.toArray n)->Ar ky.mv vs ss->vs.length < 64->
   (∀(out:Array Ψ) (Mo:List α),Ar ky.mv out.toList Mo->Mo.Perm ss->Od Mo->P (.done (.ret .none)) {s with heap:=sortedHeap s.heap a vs out})->Κ (Μ prog w) A (Builtin.«list.sort» ⟨[.ref a],[]⟩) P E s)
  (h:∀h' tk d D (out:Array Ψ) c MT,(∀b o,s.heap.get? b=Δ o->h'.get? b=Δ o)->s.heap.objs.size<=D->h'.get? D=Δ (seqObj "list" out c)->Ar ky.mv out.toList MT->MT.Perm σ->Od MT->Q (.ref D) {s with heap:=h',toks:=tk,drawn:=d}) :
  Κ (Μ prog w) A (call (.builtin "sorted") [.ref a]) Q E s:=by
 have hz:σ.length<=Ζ:=by rw[sizeLine_eq];omega
 refine Calls.call_function_entry kind_sorted plain_sorted entry_sorted (args_sorted1 _) ?_;unfold Builtin.«sorted»;refine a_ (m:=checkCount "sorted" 1 1 _) (f_ (a_ (qd (A:=A.in1) hh hS hz fun h' tk d acc JT hk J'=>?_)));obtain⟨ks,k1,k2⟩:=J';have hl:acc.toList.length=σ.length:=by rw[Ar.length k1,k2.length_eq]
 refine a_ (wpAny_newList ?_ (by rw[hl];exact hz));have gL:(h'.push (seqObj "list" acc.toList.toArray 0)).get? h'.objs.size=Δ (seqObj "list" acc.toList.toArray 0):=A_ _ rfl;have nD:s.heap.get? h'.objs.size=Φ:=by
  cases e:s.heap.get? h'.objs.size with
  |none=>rfl
  |some o=>exact absurd (m_ (hk _ _ e)) (aah _)
 refine a_ (M_ (aaf (s:={s with heap:=h'.push (seqObj "list" acc.toList.toArray 0),toks:=tk,drawn:=d}) slot_list_sort ⟨_,gL,rfl⟩ entry_list_sort (Yb (s:={s with heap:=h'.push (seqObj "list" acc.toList.toArray 0),toks:=tk,drawn:=d}) gL k1 (by rw[hl];exact L0) fun out MT a1 a2 a3=>⟨_,rfl,?_⟩) (args_list_sort _)));obtain⟨c,hc⟩:=sortedHeap_at (out:=out) gL;refine f_ ⟨_,rfl,h _ tk d _ out c MT (fun b o e=>?_) (Nat.le_of_lt JT) hc a1 (a2.trans k2) a3⟩;have e1:=n_ (seqObj "list" acc.toList.toArray 0) (hk b o e);rw[sortedHeap_old (fun z=>by rw[z,nD]at e;cases e) (m_ e1)];exact e1
end
section
variable {prog:Ε}{w:Β}{A:Ι}{E:Ψ->Α->Prop}{s:Α}
instance:Inhabited Str:=⟨⟨#[]⟩⟩
theorem Yc (x:Str)(t:Tok):(PySem.strKind prog w).is x (.str x t)=Θ:=by show(x == x)=Θ;simp
noncomputable def QZ (prog:Ε)(w:Β):Ky prog w Int:=⟨intKind prog w,fun n t=>.int n t,fun n t=>intKind_is prog w n t,fun _ _=>rfl⟩
noncomputable def Q0 (prog:Ε)(w:Β):Ky prog w Str:=⟨PySem.strKind prog w,fun n t=>.str n t,Yc,fun _ _=>rfl⟩
theorem CQ {vs:List Ψ}{ns:List Int}:IntsAre vs ns↔Ar (QZ prog w).mv vs ns:=by
 constructor
 ·intro h
  induction h with
  |nil=>exact .nil
  |cons n t _ ih=>exact .cons n t ih
 ·intro h
  induction h with
  |nil=>exact .nil
  |cons n t _ ih=>exact .cons n t ih
theorem CS {vs:List Ψ}{ns:List Str}:StrsAre vs ns↔Ar (Q0 prog w).mv vs ns:=by
 constructor
 ·intro h
  induction h with
  |nil=>exact .nil
  |cons n t _ ih=>exact .cons n t ih
 ·intro h
  induction h with
  |nil=>exact .nil
  |cons n t _ ih=>exact .cons n t ih
theorem Hy {A:Ι}{E:Ψ->Α->Prop}{s:Α}{a:Ω}{vs:List Ψ}{ss:List Int}{n:Nat}{P:Fin->Α->Prop}(ho:s.heap.get? a=Δ (seqObj "list" vs.toArray n)) (hS:Ar (QZ prog w).mv vs ss) (L0:vs.length < 64)
  (h:∀(out:Array Ψ) (Mo:List Int),Ar (QZ prog w).mv out.toList Mo->Mo.Perm ss->Mo.Pairwise (·<=·)->P (.done (.ret .none)) {s with heap:=sortedHeap s.heap a vs out}):Κ (Μ prog w) A (Builtin.«list.sort» ⟨[.ref a],[]⟩) P E s:=
 list_sort_tree ho (CQ.mpr hS) L0 fun out Mo a1 a2 a3=>h out Mo (CQ.mp a1) a2 a3
theorem Hz {A:Ι}{E:Ψ->Α->Prop}{s:Α}{a:Ω}{vs:List Ψ}{ss:List Str}{n:Nat}{P:Fin->Α->Prop}(ho:s.heap.get? a=Δ (seqObj "list" vs.toArray n)) (JY:Ar (Q0 prog w).mv vs ss) (L0:vs.length < 64)
  (h:∀(out:Array Ψ) (Mo:List Str),Ar (Q0 prog w).mv out.toList Mo->Mo.Perm ss->sortedS Mo=Θ->P (.done (.ret .none)) {s with heap:=sortedHeap s.heap a vs out}):Κ (Μ prog w) A (Builtin.«list.sort» ⟨[.ref a],[]⟩) P E s:=by
 have hS:StrsAre vs ss:=CS.mpr JY;refine list_sort_treeK strKind_oneLt ho hS.keysOf (fun Yd Ye rest e=>keyKind_strs (by rw[<- e];exact hS)) L0 fun KO hp hs=>?_;obtain⟨Mo,h1,h2,h3⟩:=sorted_out_str hS hp hs;exact h _ Mo (CS.mp h1) h2 h3
end
end L2.Se
namespace L2.Sv
open PySem PyProof.Rows
noncomputable def Nk (σ:List Str)(v:Str):List Str:=if σ.any (· == v) then σ else σ++[v]
theorem vV : @step_dedup Str instBEqOfDecidableEq=Nk:=by
 funext σ v;unfold step_dedup Nk;have e:(σ.any fun x=>@BEq.beq Str instBEqOfDecidableEq x v)=σ.any (· == v):=by congr 1
 rw[e]
theorem J3 (l:List Str)(σ:List Str):(l.foldl Nk σ).length<=σ.length+l.length:=by rw[<- vV];exact Se.J3 l σ
end L2.Sv
namespace L2
open PySem PySem.Spec PyProof.Rows PySem.SeqAt
noncomputable def dd (ns:List Int):List Int:=ns.foldl step_dedup []
theorem vW (ns:List Int):(dd ns).length<=ns.length:=by have:=Se.J3 ns [];simpa[dd] using this
def Lh (a b:Str):Prop:=ltCps b.cps.toList a.cps.toList=Ξ
theorem jL {a b:Str}:Lh a b↔a.cps.toList<=b.cps.toList:=by unfold Lh;rw[ltCps_eq,decide_eq_false_iff_not,List.not_lt]
theorem qe {a b:Str}(h:Lh a b)(k:Lh b a):a=b:=by have:=List.le_antisymm (jL.mp h) (jL.mp k);obtain⟨⟨x⟩⟩:=a;obtain⟨⟨y⟩⟩:=b;exact congrArg (fun z=>Str.mk ⟨z⟩) this
theorem nT {a b c:Str}(h:Lh a b)(k:Lh b c):Lh a c:=jL.mpr (List.le_trans (jL.mp h) (jL.mp k))
theorem uq (a b:Str):Lh a b∨Lh b a:=(List.le_total a.cps.toList b.cps.toList).imp jL.mpr jL.mpr
noncomputable def rp (x:Str):List Str->List Str
 |[]=>[x]
 |y::r=>if ltCps y.cps.toList x.cps.toList=Θ then y::rp x r else x::y::r
noncomputable def i5:List Str->List Str
 |[]=>[]
 |x::r=>rp x (i5 r)
theorem kZ (x:Str):∀l,(rp x l).Perm (x::l)
 |[]=>.refl _
 |y::r=>by
  unfold rp;split
  ·exact((kZ x r).cons y).trans (.swap _ _ _)
  ·exact .refl _
theorem iL:∀ns,(i5 ns).Perm ns
 |[]=>.refl _
 |x::r=>(kZ x _).trans ((iL r).cons x)
theorem mE (x:Str):∀l:List Str,l.Pairwise Lh->(rp x l).Pairwise Lh
 |[],_=>by simp[rp]
 |y::r,h=>by
  obtain⟨h1,h2⟩:=List.pairwise_cons.mp h;unfold rp;split
  ·rename_i hc
   refine List.pairwise_cons.mpr ⟨fun z hz=>?_,mE x r h2⟩;rcases k_.mp ((kZ x r).mem_iff.mp hz) with rfl|hz
   ·rcases uq y z with q|q
    ·exact q
    ·exact absurd hc (by rw[show ltCps y.cps.toList z.cps.toList=Ξ from q];exact p_)
   ·exact h1 z hz
  ·rename_i hc
   have Wf:Lh x y:=by simpa[Lh] using hc
   refine List.pairwise_cons.mpr ⟨fun z hz=>?_,h⟩;rcases k_.mp hz with rfl|hz
   ·exact Wf
   ·exact nT Wf (h1 z hz)
theorem ju:∀ns,(i5 ns).Pairwise Lh
 |[]=>.nil
 |x::r=>mE x _ (ju r)
theorem qf:∀(p:Str) (l:List Str),risingS p l=Θ->(p::l).Pairwise Lh
 |p,[],_=>by simp
 |p,x::r,h=>by
  have h':=y_.mp (show(!ltCps x.cps.toList p.cps.toList&&risingS x r)=Θ from h);have hx:Lh p x:=by simpa[Lh] using h'.1
  have ih:=qf x r h'.2;refine List.pairwise_cons.mpr ⟨fun z hz=>?_,ih⟩;rcases k_.mp hz with rfl|hz
  ·exact hx
  ·exact nT hx ((List.pairwise_cons.mp ih).1 z hz)
theorem vX {ns MT:List Str}(hp:MT.Perm ns)(hs:sortedS MT=Θ):MT=i5 ns:=by
 have h:MT.Pairwise Lh:=by
  cases MT with
  |nil=>exact .nil
  |cons x r=>exact qf x r hs
 exact List.Perm.eq_of_pairwise (fun _ _ _ _ a b=>qe a b) h (ju ns) (hp.trans (iL ns).symm)
noncomputable def Mf (ns:List Str):List Str:=ns.foldl Sv.Nk []
theorem sy (ns:List Str):(Mf ns).length<=ns.length:=by have:=Sv.J3 ns [];simpa[Mf] using this
section
variable {X:Cx}
noncomputable def XS:HO:=.ext fun _=>True
def zC (X:Cx)(σ:List Int)(o:Obj):Prop:=∃es ep t,Se.Kb (Se.QZ X.prog X.w) (!Se.ir X.w) σ o es ep t
theorem ur (hc:X.calm=Θ):iD X (.type "set") (fun xs H Q=>∃(p:Ω) (ns:List Int),xs=[.ref p]/\JX X.K H p (ns.map V.int)/\ns.length < 64/\∀a o,H a=Φ->zC X (dd ns) o->Q (.ref a) (upd H a (.Jw o XS))):=by intro pins s σ H xs us Q I r h;obtain⟨p,ns,rfl,hq,L0,q⟩:=h;obtain⟨u,rfl,rx⟩:=vals1 r;cases rx;obtain⟨its,rv,pl,hz⟩:=I.list hq;have hi:=intsAre_of rv;have hlen:=rv.length;rw[i_]at hlen;refine Se.qb (ky:=Se.QZ X.prog X.w) (I.ok.hd hc) pl.isList (Se.CQ.mp (by simpa using hi)) (by rw[D_];unfold scanBound;omega) fun h' tk hS k=>?_;obtain⟨o,es,ep,t,ho,D⟩:=hS;exact⟨.ref _,_,I.laid (t':=tk) (fun b u e=>k b u (m_ e) e) (l_ _) (show hU X.prog X.w _ _ _ (.Jw o XS) from⟨ho,trivial,⟨_,ho⟩,fun _ _ _ _=>trivial⟩),rfl,q _ o (I.Jq.fresh (l_ _)) ⟨es,ep,t,D⟩⟩
theorem Inv.MF {pins:List (Ω×Obj)}{σ:St}{H:Hp}{s:Α}(I:Inv X pins σ H s)(d:Drawn):Inv X pins σ H {s with drawn:=d}:=⟨I.ok,I.os,I.bare,I.base,I.loc,I.cell,I.free,I.Ki,I.pin,I.Jq,I.len⟩
theorem oC (hc:X.calm=Θ):iD X (.builtin "sorted") (fun xs H Q=>∃(p:Ω) (o:Obj) (ns:List Int),xs=[.ref p]/\H p=Δ (.Jw o XS)/\zC X ns o/\ns.length < 64/\∀l,H l=Φ->Q (.ref l) (upd H l (.lst ((PySem.W.sortI ns).map V.int)))):=by
 intro pins s σ H xs us Q I r h;obtain⟨p,o,ns,rfl,hp,⟨es,ep,t,D⟩,L0,q⟩:=h;obtain⟨u,rfl,rx⟩:=vals1 r;cases rx;have ho:s.heap.get? p=Δ o:=(I.Jq p _ hp).1;refine Se.mD (I.ok.hd hc) ⟨o,es,ep,t,ho,D⟩ L0 Se.Hy fun h' tk d Dn out c MT k hD e a1 a2 a3=>?_;rw[PySem.W.eq_sortI a2 a3]at a1;have NJ:Vals ((PySem.W.sortI ns).map V.int) out.toList:=by
  generalize PySem.W.sortI ns=ms at a1;generalize out.toList=vs at a1
  induction a1 with
  |nil=>exact .nil
  |cons n t _ ih=>exact .cons ⟨t,rfl⟩ ih
 have J:=I.laid (t':=tk) (o:=.lst ((PySem.W.sortI ns).map V.int)) k hD (show hU X.prog X.w _ _ _ (.lst _) from⟨by rw[i_,(PySem.W.sortI_perm ns).length_eq,sizeLine_eq];omega,out.toList,c,NJ,by simpa using e⟩);exact⟨.ref _,_,J.MF d,rfl,q _ (I.Jq.fresh hD)⟩
theorem mF:∀ {ns:List Str}{its:List Ψ},Vals (ns.map V.str) its->StrsAre its ns
 |[],_,.nil=>.nil
 |n::ns,_,.cons r h=>by obtain⟨t,rfl⟩:=r;exact .cons n t (mF h)
def zF (X:Cx)(σ:List Str)(o:Obj):Prop:=∃es ep t,Se.Kb (Se.Q0 X.prog X.w) (!Se.ir X.w) σ o es ep t
theorem uu (hc:X.calm=Θ):iD X (.type "set") (fun xs H Q=>∃(p:Ω) (ns:List Str),xs=[.ref p]/\JX X.K H p (ns.map V.str)/\ns.length < 64/\∀a o,H a=Φ->zF X (Mf ns) o->Q (.ref a) (upd H a (.Jw o XS))):=by intro pins s σ H xs us Q I r h;obtain⟨p,ns,rfl,hq,L0,q⟩:=h;obtain⟨u,rfl,rx⟩:=vals1 r;cases rx;obtain⟨its,rv,pl,hz⟩:=I.list hq;have hi:=mF rv;have hlen:=rv.length;rw[i_]at hlen;refine Se.qb (ky:=Se.Q0 X.prog X.w) (I.ok.hd hc) pl.isList (Se.CS.mp (by simpa using hi)) (by rw[D_];unfold scanBound;omega) fun h' tk hS k=>?_;obtain⟨o,es,ep,t,ho,D⟩:=hS;rw[Sv.vV]at D;exact⟨.ref _,_,I.laid (t':=tk) (fun b u e=>k b u (m_ e) e) (l_ _) (show hU X.prog X.w _ _ _ (.Jw o XS) from⟨ho,trivial,⟨_,ho⟩,fun _ _ _ _=>trivial⟩),rfl,q _ o (I.Jq.fresh (l_ _)) ⟨es,ep,t,D⟩⟩
theorem oD (hc:X.calm=Θ):iD X (.builtin "sorted") (fun xs H Q=>∃(p:Ω) (o:Obj) (ns:List Str),xs=[.ref p]/\H p=Δ (.Jw o XS)/\zF X ns o/\ns.length < 64/\∀l,H l=Φ->Q (.ref l) (upd H l (.lst ((i5 ns).map V.str)))):=by
 intro pins s σ H xs us Q I r h;obtain⟨p,o,ns,rfl,hp,⟨es,ep,t,D⟩,L0,q⟩:=h;obtain⟨u,rfl,rx⟩:=vals1 r;cases rx;have ho:s.heap.get? p=Δ o:=(I.Jq p _ hp).1;refine Se.mD (I.ok.hd hc) ⟨o,es,ep,t,ho,D⟩ L0 Se.Hz fun h' tk d Dn out c MT k hD e a1 a2 a3=>?_;rw[vX a2 a3]at a1;have NJ:Vals ((i5 ns).map V.str) out.toList:=by
  generalize i5 ns=ms at a1;generalize out.toList=vs at a1
  induction a1 with
  |nil=>exact .nil
  |cons n t _ ih=>exact .cons ⟨t,rfl⟩ ih
 have J:=I.laid (t':=tk) (o:=.lst ((i5 ns).map V.str)) k hD (show hU X.prog X.w _ _ _ (.lst _) from⟨by rw[i_,(iL ns).length_eq,sizeLine_eq];omega,out.toList,c,NJ,by simpa using e⟩);exact⟨.ref _,_,J.MF d,rfl,q _ (I.Jq.fresh hD)⟩
end
section
variable {X:Cx}
theorem zG (l:Ω)(items:Array Ψ)(n:Nat)(b:Ω)(Lb:Array Ψ)(n2:Nat)(sl:Array (Option Ψ))(SE:¬(!items.isEmpty&&Builtin.List.listTooLong (items.size+Lb.size))=Θ)(Wg:items.size<=Ζ)(LG:items.size+Lb.size<=Ζ+1) :
  Meets (Builtin.«list.extend» ⟨[.ref l,.ref b],[]⟩) (fun _ R s=>s.heap.get? l=Δ {cls:=.type "list",dict:=Φ,data:=.seq items n,slots:=#[]}/\s.heap.get? b=Δ {cls:=.type "list",dict:=Φ,data:=.seq Lb n2,slots:=sl}/\R (.ok (.ret Value.none)) {s with heap:=s.heap.update l (ι fun x=>x++Lb),toks:=s.toks}):=
 .of_wp fun prog w A R s h=>by
  obtain⟨hp,g,d,tk,os⟩:=s;obtain⟨hl,hb,h⟩:=h;have f1:=AutoSeq1.idx_int;have f2:=AutoSeq1.sub_tuple_tuple;have f3:=AutoSeq1.sub_list_list;have f4:=AutoSeq1.sub_tuple_list;have f5:=AutoSeq1.sub_list_tuple;have Uc:(items++Lb).size<=Ζ+1:=by rw[Array.size_append];exact LG
  wp_walk using(wpAny_updateSeq hl rfl (hz:=Wg) (_hz':=Uc)),AutoSeq1.wpAny_loadPart' hl,AutoSeq1.wpAny_loadPart' hb
  exact⟨_,rfl,h⟩
def E0 (X:Cx):V->List V->Hp->VK->Prop:=fun x vs H Q=>∃l b xs zs,x=.ref l/\vs=[.ref b]/\H l=Δ (.lst xs)/\JX X.K H b zs/\xs.length+zs.length<=Ζ/\Q .Iw (upd H l (.lst (xs++zs)))
theorem zH:Tr X "list.extend" (E0 X):=by
 intro pins s σ H x vs v us Q I rx rv h;obtain⟨l,b,xs,zs,rfl,rfl,hH,hB,hz,q⟩:=h;cases rx;obtain⟨u,rfl,ru⟩:=rv.one;cases ru;obtain⟨z,its,n,r,hl,e⟩:=I.O6 hH;obtain⟨JQ,n2,Q2,r2,z2,e2⟩:∃(JQ:List Ψ) (n2:Nat) (Q2:Array (Option Ψ)),Vals zs JQ/\zs.length<=Ζ/\s.heap.get? b=Δ {cls:=.type "list",dict:=Φ,data:=.seq JQ.toArray n2,slots:=Q2}:=by
  rcases hB with hB|⟨o,its,n,hk,hc,hd,hs,hz,r⟩
  ·obtain⟨z,its,n,r,e⟩:=hB.ok I.Jq;exact⟨its,n,_,r,z,e⟩
  ·obtain⟨c,d,dt,sl⟩:=o;dsimp only at hc hd hs;subst hc hd hs;exact⟨its.toList,n,sl,r,by rw[r.length];simpa using hz,I.LR _ _ hk⟩
 have Qe:=r2.length;have hsz:its.toArray.size+JQ.toArray.size<=Ζ:=by rw[D_,D_];omega
 have Q3:¬(!its.toArray.isEmpty&&Builtin.List.listTooLong (its.toArray.size+JQ.toArray.size))=Θ:=by rw[pV hsz,Bool.and_false];exact p_
 refine call_meets F.slot_list_extend ⟨_,e,rfl⟩ F.entry_list_extend (F.args_list_extend_2 _ _)
  (zG l its.toArray n b JQ.toArray n2 Q2 Q3 (by rw[D_];omega) (by omega)) ⟨e,e2,?_⟩
 refine⟨.Iw,_,I.O0 (its':=its++JQ) hH e (by simp) (r.append r2) ?_,rfl,q⟩;rw[g_];omega
def HA:V->List V->Hp->VK->Prop:=fun x vs H Q=>∃l xs i y,x=.ref l/\vs=[.int i,y]/\H l=Δ (.lst xs)/\0<=i/\i.toNat<=xs.length/\xs.length < Ζ/\Q .Iw (upd H l (.lst (xs.take i.toNat++y::xs.drop i.toNat)))
theorem CT:Tr X "list.insert" HA:=by
 intro pins s σ H x vs v us Q I rx rv h;obtain⟨l,xs,i,y,rfl,rfl,hH,h0,hi,hz,q⟩:=h;cases rx;have hs:Ζ=16777216:=sizeLine_eq;cases rv with
 |cons r1 NJ=>
  obtain⟨t,rfl⟩:=r1;obtain⟨u,rfl,ru⟩:=Vals.one NJ;obtain⟨z,its,n,r,hl,e⟩:=I.O6 hH;refine call_meets F.slot_list_insert ⟨_,e,rfl⟩ F.entry_list_insert (F.args_list_insert_3 _ _ _) (AutoSeq1.list_insert_list_int_val_1 l its.toArray n i t u (by rw[fitsIndex_both (by omega) (by omega)];decide) (by rw[D_];omega)) ⟨e,?_⟩;refine⟨.Iw,_,I.O0 (its':=its.take i.toNat++u::its.drop i.toNat) hH e ?_ ((r.take i.toNat).append (.cons ru (r.drop i.toNat))) ?_,rfl,q⟩
  ·have h1:¬i < 0:=by omega
   have h2:min i.toNat its.toArray.size=i.toNat:=by rw[D_];omega
   simp only[h1,if_false,h2];apply Array.ext';simp;rw[List.take_of_length_le (by rw[aap];omega)]
  ·rw[g_,List.length_cons,aak,aap];omega
end
end L2
namespace L2.Sx
open PySem PyProof.Rows
end L2.Sx
namespace L2
open PySem PySem.Spec PyProof.Rows
end L2
namespace L2.Dp
open PySem PyProof.Rows
end L2.Dp
namespace L2
open PySem PySem.Spec PyProof.Rows
open PySem.SeqAt
section
variable {X:Cx}
theorem Inv.Ju {pins:List (Ω×Obj)}{σ:St}{H:Hp}{s:Α}{p:Ω}{kvs:List (Key×V)}(I:Inv X pins σ H s)(e:Rd H p (.dK kvs)):kvs.length<=Ζ/\(p == sysModules)=Ξ/\∃vs o es ep,KV kvs vs/\s.heap.get? p=Δ o/\o.data=.dict es ep/\s.heap.DictAt (iH X.prog X.w) p vs ep:=by obtain⟨h1,h2,vs,kv,o,es,ep,ho,c,hd,r⟩:=e.ok I.Jq;exact⟨h1,h2,vs,o,es,ep,kv,ho,hd,o,es,ho,c,hd,r⟩
theorem KV.at {κ:Type}:∀ {kvs:List (κ×V)}{vs:List (κ×Ψ)} (r:KV kvs vs) {i:Nat}{q:κ×Ψ},vs[i]? = Δ q->∃v,kvs[i]? = Δ (q.1,v)/\RelV v q.2
 |_,_,.nil,_,_,h=>by simp at h
 | (k,v)::_,q'::_,.cons r _,0,q,h=>by cases h;obtain⟨r1,r2⟩:=r;have r1:k=q'.1:=r1;subst r1;exact⟨v,rfl,r2⟩
 |_,_,.cons _ r,i+1,q,h=>KV.at r (i:=i) (by simpa using h)
theorem KV.len {κ:Type}{kvs:List (κ×V)}{vs:List (κ×Ψ)}(r:KV kvs vs):kvs.length=vs.length:=Paired.length r
theorem uv:iD X (.builtin "len") (fun xs H Q=>∃(p:Ω) (kvs:List (Key×V)),xs=[.ref p]/\Rd H p (.dK kvs)/\Q (.int kvs.length) H):=by intro pins s σ H xs us Q I r h;obtain⟨p,kvs,rfl,hp,q⟩:=h;obtain⟨u,rfl,rx⟩:=vals1 r;cases rx;obtain⟨hz,lo,vs,o,es,ep,kv,ho,hd,hm⟩:=I.Ju hp;have hs:Ζ=16777216:=sizeLine_eq;have hl:=kv.len;exact call_len_dict lo hm.dictOf (by omega) ⟨.int kvs.length,H,I.tok _,⟨_,by rw[hl]⟩,q⟩
theorem CU {P:Ε}{w:Β}{k:Key}{u:Ψ}(h:(iH P w).is k u=Θ):RelV (kV k) u:=by
 rcases gY h with⟨i,t,rfl,rfl⟩|⟨x,t,rfl,rfl⟩
 ·exact⟨t,rfl⟩
 ·exact⟨t,rfl⟩
end
noncomputable def Ud (K:Frag)(l:Ω):It:=
 ⟨fun i H=>∃xs x,JX K H l xs/\xs[i]? = Δ x,
  fun i H v H'=>∃T x,v=.ref T/\H T=Φ/\H'=upd H T (.tup [.int i,x])/\∀xs,JX K H l xs->xs[i]? = Δ x,
  fun i H=>∃xs,JX K H l xs/\xs.length<=i⟩
theorem uw {P:Ε}{w:Β}{K:Frag}{es:List Expr}{c:Nat}{pos:Pos}(e it l:Ω)(Kx:e≠it) :
  Turn P w K (.Tuple es c pos) (Ud K l) [e,it] e (fun n h=>(∃old,IsEnum h e it n old)/\h.IsListIter it l n) where
 mem:=by simp
 obj:=fun n h st b hb=>by
  obtain⟨⟨old,he⟩,ci⟩:=st;simp only[k_,T_,or_false]at hb;rcases hb with rfl|rfl
  ·exact⟨_,he,fun v z=>by cases z⟩
  ·obtain⟨o,e,c,d⟩:=ci;exact⟨o,e,fun v z=>by rw[d]at z;cases z⟩
 keep:=fun n h h' st k=>by obtain⟨⟨old,he⟩,ci⟩:=st;exact⟨⟨old,k e (by simp) _ he⟩,ci.at fun o q=>k it (by simp) o q⟩
 item:=by
  intro X hP hw hK hc n pins s σ H E I hf st hg;subst hP hw hK;obtain⟨⟨old,he⟩,ci⟩:=st;obtain⟨xs,x,hq,hx⟩:=hg;obtain⟨its,rv,p,hz⟩:=I.list hq;obtain⟨u,hu,ru⟩:=rv.get hx;refine wpAny_pyNext_enum_item he ci p.isList (x:=u) (by simpa using hu) Kx fun h1 a1 a2 a3 a4 hk=>?_;refine⟨_,rfl,?_⟩;have le:e < s.heap.objs.size:=m_ he;have Yf:s.heap.objs.size≠e:=Nat.ne_of_gt le;refine wpAny_letOwnedTupleGo_enum (s:={s with heap:=h1,toks:=s.toks+1}) a1 fun h2 Yg LG=>?_;have kk:∀b o,b∉[e,it]->s.heap.get? b=Δ o->h2.get? b=Δ o:=fun b o hb q=>by simp only[k_,T_,or_false,not_or]at hb;exact LG.extBut _ _ hb.1 (hk b o hb.1 hb.2 q)
  have hT:=LG.extBut _ _ Yf a3;have I2:Inv X pins σ (upd H s.heap.objs.size (.tup [.int n,x])) {s with heap:=h2,toks:=s.toks+1}:=I.Nh (t':=s.toks+1) kk hf (l_ _) ⟨by show 2<=Ζ;decide,[.int n s.toks,u],.cons ⟨_,rfl⟩ (.cons ru .nil),⟨_,hT,rfl,_,rfl⟩⟩;refine⟨.ref s.heap.objs.size,_,I2,rfl,⟨_,x,rfl,I.Jq.fresh (l_ _),rfl,fun VZ g1=>by rw[I.JU g1 hq];exact hx⟩,⟨⟨_,by rw[Int.natCast_succ];exact Yg⟩,a2.at fun o q=>LG.extBut _ _ Kx.symm q⟩,fun b hb=>?_⟩;have Mn:b < s.heap.objs.size:=by
   simp only[k_,T_,or_false]at hb;rcases hb with rfl|rfl
   ·exact le
   ·obtain⟨o,q,_⟩:=ci;exact m_ q
  rw[gK (z_ Mn)];exact(hf b hb).1
 done:=by
  intro X hP hw hK hc n pins s σ H E I hf st hg;subst hP hw hK;obtain⟨⟨old,he⟩,ci⟩:=st;obtain⟨xs,hq,hx⟩:=hg;obtain⟨its,rv,p,hz⟩:=I.list hq;have l1:=rv.length;refine wpAny_pyNext_enum_end (I.ok.hd hc) he ci p.isList (Array.getElem?_eq_none (by simp;omega)) fun h1 hk=>⟨rfl,I.turns (t':=s.toks) (ch:=[e,it]) (fun b o hb q=>?_) hf⟩
  simp only[k_,T_,or_false,not_or]at hb;exact hk b o hb.2 q
 self:=fun _ _ _ _ _ st h=>by obtain⟨⟨old,he⟩,_⟩:=st;exact wpAny_pyIter_enum he h
def HB (K:Frag)(ta:TA):TI:=fun σ H R=>ta σ H fun vs H1=>∃l xs,vs=[.ref l]/\JX K H1 l xs/\R (Ud K l) H1
theorem zJ {X:Cx}{a:Expr}{ta:TA}{es:List Expr}{c:Nat}{p tp pos:Pos}(hg:Gl X "enumerate") (hm:X.mg "enumerate" = Φ) (ha:PA X [a] ta) (hs:Ν [a] X.env=[(Ξ,eval a X.env)]) :
  PI X (.Tuple es c tp) (.Call (.Name "enumerate" p) [a] [] pos) (HB X.K ta):=by
 intro pins s σ H R I h;refine Call_ (jI I hg hm boot_enumerate (PyProof.Rows.callWith_type1 (Jr (ha pos pins s σ H _ I h) fun us s1 ⟨vs,H1,I1,r1,q1⟩=>?_) hs rfl));obtain⟨l,xs,e,g1,q⟩:=q1;subst e;obtain⟨u,rfl,r⟩:=vals1 r1;cases r;obtain⟨Ni,NH,p1,hz⟩:=I1.list g1;refine call_enumerate_list p1.isList fun h2 b1 b2 b3 b4=>?_;refine wpAny_pyIter_enum (s:={s1 with heap:=h2}) b1 ?_;refine⟨s1.heap.objs.size+1,[s1.heap.objs.size+1,s1.heap.objs.size],_,_,H1,rfl,I1.kept (t':=s1.toks) b4,uw _ _ l (Nat.succ_ne_self _),⟨⟨_,b1⟩,b2⟩,fun b hb=>?_,q⟩;have Mn:s1.heap.objs.size<=b:=by
  simp only[k_,T_,or_false]at hb;rcases hb with rfl|rfl
  ·exact Nat.le_add_right _ _
  ·exact l_ _
 exact I1.Mi Mn (I1.Jq.fresh Mn)
section
variable {X:Cx}
theorem sA:∀ {vs:List Ψ}{kvs:List (Key×V)},vs.length=kvs.length->(∀(i:Nat) (v:Ψ),vs[i]? = Δ v->∃k x,kvs[i]? = Δ (k,x)/\RelV (kV k) v)->Vals (kvs.map fun q=>kV q.1) vs
 |[],[],_,_=>.nil
 |v::vs,q::kvs,hl,h=>by obtain⟨k,x,e,r⟩:=h 0 v rfl;cases e;exact .cons r (sA (by simpa using hl) fun i u hu=>h (i+1) u hu)
 |[],_::_,hl,_=>by simp at hl
 |_::_,[],hl,_=>by simp at hl
theorem mG (hc:X.calm=Θ):iD X (.type "list") (fun xs H Q=>∃(p:Ω) (kvs:List (Key×V)),xs=[.ref p]/\Rd H p (.dK kvs)/\∀l,H l=Φ->Q (.ref l) (upd H l (.lst (kvs.map fun q=>kV q.1)))):=by
 intro pins s σ H xs us Q I r h;obtain⟨p,kvs,rfl,hp,q⟩:=h;obtain⟨u,rfl,rx⟩:=vals1 r;cases rx;obtain⟨hz,lo,vs,o,es,ep,kv,ho,hd,hm⟩:=I.Ju hp;have hv:=kv.len;refine PySem.W.kdl_call (PySem.W.kdl_dict lo) (I.ok.hd hc) hm (by rw[<- hv];exact hz) fun h' tk acc c k e J'=>?_;have rv:Vals (kvs.map fun q=>kV q.1) acc.toList:=sA (by rw[Q_,J'.1];exact hv.symm) fun i v hi=>by obtain⟨k,x,e1,e2⟩:=J'.2 i v (by rw[<- aaj];exact hi);obtain⟨y,e3,_⟩:=kv.at e1;exact⟨k,y,e3,CU e2⟩
 have J:=I.laid (t':=tk) (o:=.lst (kvs.map fun q=>kV q.1)) k (l_ _) (show hU X.prog X.w _ _ _ (.lst _) from⟨by rw[i_];exact hz,acc.toList,c,rv,by simpa using e⟩);exact⟨.ref _,_,J,rfl,q _ (I.Jq.fresh (l_ _))⟩
end
inductive D where
 | Iw|bl (b:Bool)|int (i:Int)|str (x:Str)|tup (ds:List D)|lst (own:Bool) (ds:List D)|Ju (own:Bool) (ks:List Key) (ds:List D)|Jy (own:Bool) (ks:List (List TK)) (ds:List D)
 deriving Inhabited
mutual
noncomputable def er:D->D
 |.tup ds=>.tup (Jj ds)
 |.lst _ ds=>.lst Ξ (Jj ds)
 |.Ju _ ks ds=>.Ju Ξ ks (Jj ds)
 |.Jy _ ks ds=>.Jy Ξ ks (Jj ds)
 |.Iw=>.Iw
 |.bl b=>.bl b
 |.int i=>.int i
 |.str x=>.str x
noncomputable def Jj:List D->List D
 |[]=>[]
 |d::ds=>er d::Jj ds
end
mutual
noncomputable def gH:D->Bool
 |.tup ds=>gD ds
 |.lst _ _=>Ξ
 |.Ju _ _ _=>Ξ
 |.Jy _ _ _=>Ξ
 |.Iw=>Θ
 |.bl _=>Θ
 |.int _=>Θ
 |.str _=>Θ
noncomputable def gD:List D->Bool
 |[]=>Θ
 |d::ds=>gH d&&gD ds
end
theorem g7:∀ds:List D,Jj ds=ds.map er
 |[]=>rfl
 |d::ds=>by rw[Jj,g7 ds];rfl
theorem iC:∀ds:List D,gD ds=ds.all gH
 |[]=>rfl
 |d::ds=>by rw[gD,iC ds];rfl
theorem jm (ds:List D):(Jj ds).length=ds.length:=by rw[g7,i_]
mutual
theorem mH:∀ {d:D},gH d=Θ->er d=d
 |.Iw,_=>rfl
 |.bl _,_=>rfl
 |.int _,_=>rfl
 |.str _,_=>rfl
 |.tup ds,h=>by rw[er,gW (ds:=ds) h]
 |.lst o ds,h=>by cases(show Ξ=Θ from h)
 |.Ju o ks ds,h=>by cases(show Ξ=Θ from h)
 |.Jy o ks ds,h=>by cases(show Ξ=Θ from h)
theorem gW:∀ {ds:List D},gD ds=Θ->Jj ds=ds
 |[],_=>rfl
 |d::ds,h=>by have h':(gH d&&gD ds)=Θ:=h;rw[j_]at h';rw[Jj,mH h'.1,gW h'.2]
end
mutual
theorem vY:∀d:D,er (er d)=er d
 |.Iw=>rfl
 |.bl _=>rfl
 |.int _=>rfl
 |.str _=>rfl
 |.tup ds=>by rw[er,er,J0 ds]
 |.lst _ ds=>by rw[er,er,J0 ds]
 |.Ju _ ks ds=>by rw[er,er,J0 ds]
 |.Jy _ ks ds=>by rw[er,er,J0 ds]
theorem J0:∀ds:List D,Jj (Jj ds)=Jj ds
 |[]=>rfl
 |d::ds=>by rw[Jj,Jj,vY d,J0 ds]
end
inductive Exc where
 | stuck
abbrev Res (α:Type):=Except Exc α
noncomputable abbrev Ji {α:Type}:Res α:=.error .stuck
noncomputable def Ii {α β:Type}(x:Res α)(f:α->Res β):Res β:=match x with
 |.ok a=>f a
 |.error e=>.error e
noncomputable def Iy {α:Type}(c:Bool)(x:Res α):Res α:=if c=Θ then x else Ji
def Ip {α:Type}(x:Res α)(k:α->Prop):Prop:=match x with
 |.ok a=>k a
 |.error .stuck=>False
theorem Ip.Ii {α β:Type}{x:Res α}{f:α->Res β}{k:β->Prop}(h:Ip (Ii x f) k):Ip x fun a=>Ip (f a) k:=by
 cases x with
 |ok a=>exact h
 |error e=>cases e<;>exact h
theorem Ip.Iy {α:Type}{c:Bool}{x:Res α}{k:α->Prop}(h:Ip (Iy c x) k):c=Θ/\Ip x k:=by
 unfold L2.Iy at h;cases c with
 |true=>exact⟨rfl,h⟩
 |false=>exact False.elim h
theorem Ip.mono {α:Type}{x:Res α}{k k':α->Prop}(h:Ip x k)(m:∀a,k a->k' a):Ip x k':=by
 cases x with
 |ok a=>exact m a h
 |error e=>cases e<;>exact h
theorem Ip.mk {α β:Type}{x:Res α}{f:α->Res β}{k:β->Prop}(h:Ip x fun a=>Ip (f a) k):Ip (L2.Ii x f) k:=by
 cases x with
 |ok a=>exact h
 |error e=>cases e<;>exact h
theorem Ip.eq {α:Type}{x:Res α}{k:α->Prop}(h:Ip x k):Ip x fun a=>x=.ok a/\k a:=by
 cases x with
 |ok a=>exact⟨rfl,h⟩
 |error e=>cases e<;>exact h
theorem Ip.ok {α:Type}{a:α}{k:α->Prop}(h:Ip (.ok a:Res α) k):k a:=h
theorem Ip.no {α:Type}{k:α->Prop}(h:Ip (Ji:Res α) k):False:=h
inductive LD where
 | l (xs:List V)|d (kvs:List (Key×V))|t (kvs:List (List TK×Ω×V))
noncomputable abbrev LD.o:LD->HO
 |.l xs=>.lst xs
 |.d kvs=>.dK kvs
 |.t kvs=>.dT kvs
theorem KL.sq {K:Frag}{H:Hp}{a:Ω}{xs:List V}(h:KL K a xs):JX K H a xs:=by obtain⟨its,n,h1,h2,h3⟩:=h;exact .inr ⟨_,its.toArray,n,h1,rfl,rfl,rfl,by simpa using h2,by simpa using h3⟩
theorem Inv.ls {X:Cx}{pins:List (Ω×Obj)}{σ:St}{H:Hp}{s:Α}{a:Ω}{xs:List V}(I:Inv X pins σ H s)(h:Ls X.K H a xs) :
  xs.length<=Ζ/\∃(its:List Ψ) (n:Nat),Vals xs its/\s.heap.get? a=Δ {cls:=.type "list",data:=.seq its.toArray n}:=by
 rcases h with h|⟨its,n,h1,h2,h3⟩
 ·obtain⟨z,its,n,r,e⟩:=h.ok I.Jq;exact⟨z,its,n,r,e⟩
 ·exact⟨by rw[h3.length];exact h2,its,n,h3,I.LR _ _ h1⟩
structure Cl (H H':Hp):Prop where
 t:∀b xs,Rd H b (.tup xs)->Rd H' b (.tup xs)
theorem Cl.sq {K:Frag}{H H':Hp}{a:Ω}{xs:List V}(k:Cl H H')(h:JC K H a xs):JC K H' a xs:=h.elim (fun h=>.inl (k.t _ _ h)) .inr
mutual
inductive Iq (K:Frag)(S:Ω->Prop)(H:Hp):V->D->Prop where
 | Iw:Iq K S H .Iw .Iw
 | bl (b:Bool):Iq K S H (.bl b) (.bl b)
 | int (i:Int):Iq K S H (.int i) (.int i)
 | str (x:Str):Iq K S H (.str x) (.str x)
 | tup {a:Ω}{xs:List V}{ds:List D}:JC K H a xs->Io K S H xs ds->Iq K S H (.ref a) (.tup ds)
 | lst {a:Ω}{xs:List V}{o:Bool}{ds:List D}:S a->Rd H a (.lst xs)->Io K S H xs ds->Iq K S H (.ref a) (.lst o ds)
 | lstK {a:Ω}{xs:List V}{o:Bool}{ds:List D}:KL K a xs->Io K S H xs ds->Iq K S H (.ref a) (.lst o ds)
 | Ju {a:Ω}{kvs:List (Key×V)}{o:Bool}{ks:List Key}{ds:List D}:S a->Rd H a (.dK kvs)->kvs.map (·.1)=ks->Io K S H (kvs.map (·.2)) ds->Iq K S H (.ref a) (.Ju o ks ds)
 | Jy {a:Ω}{kvs:List (List TK×Ω×V)}{o:Bool}{ks:List (List TK)}{ds:List D}:S a->Rd H a (.dT kvs)->(kp kvs).map (·.1)=ks/\ml K H kvs->Io K S H ((kp kvs).map (·.2)) ds->Iq K S H (.ref a) (.Jy o ks ds)
inductive Io (K:Frag)(S:Ω->Prop)(H:Hp):List V->List D->Prop where
 | nil:Io K S H [] []
 | cons {v:V}{d:D}{vs:List V}{ds:List D}:Iq K S H v d->Io K S H vs ds->Io K S H (v::vs) (d::ds)
end
mutual
inductive Jo (K:Frag)(F:Ω->Prop)(H:Hp):V->D->List Ω->Prop where
 | Iw:Jo K F H .Iw .Iw []
 | bl (b:Bool):Jo K F H (.bl b) (.bl b) []
 | int (i:Int):Jo K F H (.int i) (.int i) []
 | str (x:Str):Jo K F H (.str x) (.str x) []
 | tup {a:Ω}{xs:List V}{ds:List D}{f:List Ω}:JC K H a xs->Ir K F H xs ds f->Jo K F H (.ref a) (.tup ds) f
 | Mp {a:Ω}{xs:List V}{ds:List D}:F a->Rd H a (.lst xs)->Ir K F H xs ds []->Jo K F H (.ref a) (.lst Ξ ds) []
 | lstK {a:Ω}{xs:List V}{ds:List D}:KL K a xs->Ir K F H xs ds []->Jo K F H (.ref a) (.lst Ξ ds) []
 | KI {a:Ω}{xs:List V}{ds:List D}{f:List Ω}:¬F a->H a=Δ (.lst xs)->Ir K F H xs ds f->Jo K F H (.ref a) (.lst Θ ds) (a::f)
 | N8 {a:Ω}{kvs:List (Key×V)}{ks:List Key}{ds:List D}:F a->Rd H a (.dK kvs)->kvs.map (·.1)=ks->Ir K F H (kvs.map (·.2)) ds []->Jo K F H (.ref a) (.Ju Ξ ks ds) []
 | Nl {a:Ω}{kvs:List (Key×V)}{ks:List Key}{ds:List D}{f:List Ω}:¬F a->H a=Δ (.dK kvs)->kvs.map (·.1)=ks->Ir K F H (kvs.map (·.2)) ds f->Jo K F H (.ref a) (.Ju Θ ks ds) (a::f)
 | N9 {a:Ω}{kvs:List (List TK×Ω×V)}{ks:List (List TK)}{ds:List D}:F a->Rd H a (.dT kvs)->(kp kvs).map (·.1)=ks/\ml K H kvs->Ir K F H ((kp kvs).map (·.2)) ds []->Jo K F H (.ref a) (.Jy Ξ ks ds) []
 | Nm {a:Ω}{kvs:List (List TK×Ω×V)}{ks:List (List TK)}{ds:List D}{f:List Ω}:¬F a->H a=Δ (.dT kvs)->(kp kvs).map (·.1)=ks/\ml K H kvs->Ir K F H ((kp kvs).map (·.2)) ds f->Jo K F H (.ref a) (.Jy Θ ks ds) (a::f)
inductive Ir (K:Frag)(F:Ω->Prop)(H:Hp):List V->List D->List Ω->Prop where
 | nil:Ir K F H [] [] []
 | cons {v:V}{d:D}{f:List Ω}{vs:List V}{ds:List D}{g:List Ω}:Jo K F H v d f->Ir K F H vs ds g->Ir K F H (v::vs) (d::ds) (f++g)
end
theorem gJ.rd {H H':Hp}{a:Ω}{u:HO}(e:gJ H H')(h:Rd H a u):Rd H' a u:=by
 rcases h with h|⟨o,h⟩
 ·exact .inl (e _ _ h)
 ·exact .inr ⟨o,e _ _ h⟩
theorem gJ.cl {H H':Hp}(e:gJ H H'):Cl H H':=⟨fun _ _ h=>e.rd h⟩
theorem vZ {H:Hp}{l:Ω}{o':HO}(h2:∀xs,¬Rd H l (.tup xs)):Cl H (upd H l o'):=by
 refine⟨fun b xs h=>?_⟩;have:b≠l:=by rintro rfl;exact h2 xs h
 unfold Rd;rw[gK this];exact h
theorem JC.cl {K:Frag}{H H':Hp}{a:Ω}{xs:List V}(k:Cl H H')(h:JC K H a xs):JC K H' a xs:=k.sq h
theorem gJ.Lo {K:Frag}{H H':Hp}{a:Ω}{xs:List V}(e:gJ H H')(h:JC K H a xs):JC K H' a xs:=h.cl e.cl
theorem CV {H:Hp}{l:Ω}{ys:List V}{o':HO}(hl:H l=Δ (.lst ys)):Cl H (upd H l o'):=
 vZ fun xs z=>by rcases z with z|⟨o,z⟩<;>(rw[hl]at z;cases z)
theorem JC.upd {K:Frag}{H:Hp}{a l:Ω}{xs:List V}{ys zs:List V}(hl:H l=Δ (.lst ys))(h:JC K H a xs):JC K (upd H l (.lst zs)) a xs:=h.cl (CV hl)
theorem Rd.some {H:Hp}{a:Ω}{u:HO}(h:Rd H a u):H a≠Φ:=by rcases h with h|⟨o,h⟩<;>(rw[h];simp)
section
variable {K:Frag}{S S' F F':Ω->Prop}{H H':Hp}
theorem Iq.step (hl:∀a (u:LD),S a->Rd H a u.o->S' a/\Rd H' a u.o)(ht:∀a xs,JC K H a xs->JC K H' a xs){v:V}{d:D}(h:Iq K S H v d):Iq K S' H' v d:=
 Iq.rec (motive_1:=fun v d _=>Iq K S' H' v d) (motive_2:=fun v d _=>Io K S' H' v d) .Iw .bl .int .str (fun h1 _ i=>.tup (ht _ _ h1) i)
  (fun h0 h1 _ i=>.lst (hl _ (.l _) h0 h1).1 (hl _ (.l _) h0 h1).2 i) (fun h1 _ i=>.lstK h1 i) (fun h0 h1 h2 _ i=>.Ju (hl _ (.d _) h0 h1).1 (hl _ (.d _) h0 h1).2 h2 i) (fun h0 h1 h2 _ i=>.Jy (hl _ (.t _) h0 h1).1 (hl _ (.t _) h0 h1).2 ⟨h2.1,fun p hp=>ht _ _ (h2.2 p hp)⟩ i) .nil (fun _ _ i j=>.cons i j) h
theorem Io.step (hl:∀a (u:LD),S a->Rd H a u.o->S' a/\Rd H' a u.o)(ht:∀a xs,JC K H a xs->JC K H' a xs){v:List V}{d:List D}(h:Io K S H v d):Io K S' H' v d:=
 Io.rec (motive_1:=fun v d _=>Iq K S' H' v d) (motive_2:=fun v d _=>Io K S' H' v d) .Iw .bl .int .str (fun h1 _ i=>.tup (ht _ _ h1) i)
  (fun h0 h1 _ i=>.lst (hl _ (.l _) h0 h1).1 (hl _ (.l _) h0 h1).2 i) (fun h1 _ i=>.lstK h1 i) (fun h0 h1 h2 _ i=>.Ju (hl _ (.d _) h0 h1).1 (hl _ (.d _) h0 h1).2 h2 i) (fun h0 h1 h2 _ i=>.Jy (hl _ (.t _) h0 h1).1 (hl _ (.t _) h0 h1).2 ⟨h2.1,fun p hp=>ht _ _ (h2.2 p hp)⟩ i) .nil (fun _ _ i j=>.cons i j) h
theorem Iq.mono {v:V}{d:D}(h:Iq K S H v d)(hS:∀a,S a->S' a)(e:gJ H H'):Iq K S' H' v d:=h.step (fun a xs s r=>⟨hS a s,e.rd r⟩) fun a xs s=>e.Lo s
theorem Io.mono {v:List V}{d:List D}(h:Io K S H v d)(hS:∀a,S a->S' a)(e:gJ H H'):Io K S' H' v d:=h.step (fun a xs s r=>⟨hS a s,e.rd r⟩) fun a xs s=>e.Lo s
theorem Io.L1 {v:List V}{d:List D}(h:Io K S H v d):Io K (fun a=>S a/\H a≠Φ) H v d:=h.step (fun a xs s r=>⟨⟨s,r.some⟩,r⟩) fun a xs s=>s
theorem Iq.frozen {v:V}{d:D}(h:Iq K F H v d):Jo K F H v (L2.er d) []:=
 Iq.rec (motive_1:=fun v d _=>Jo K F H v (L2.er d) []) (motive_2:=fun v d _=>Ir K F H v (L2.Jj d) []) .Iw .bl .int .str (fun h1 _ i=>.tup h1 i) (fun h0 h1 _ i=>.Mp h0 h1 i) (fun h1 _ i=>.lstK h1 i) (fun h0 h1 h2 _ i=>.N8 h0 h1 h2 i) (fun h0 h1 h2 _ i=>.N9 h0 h1 h2 i) .nil (fun _ _ i j=>.cons (f:=[]) (g:=[]) i j) h
theorem Io.frozen {v:List V}{d:List D}(h:Io K F H v d):Ir K F H v (L2.Jj d) []:=
 Io.rec (motive_1:=fun v d _=>Jo K F H v (L2.er d) []) (motive_2:=fun v d _=>Ir K F H v (L2.Jj d) []) .Iw .bl .int .str (fun h1 _ i=>.tup h1 i) (fun h0 h1 _ i=>.Mp h0 h1 i) (fun h1 _ i=>.lstK h1 i) (fun h0 h1 h2 _ i=>.N8 h0 h1 h2 i) (fun h0 h1 h2 _ i=>.N9 h0 h1 h2 i) .nil (fun _ _ i j=>.cons (f:=[]) (g:=[]) i j) h
theorem zK {a b:Bool}(h:(a&&b)=Θ):a=Θ/\b=Θ:=by rwa [j_]at h
theorem Iq.free {v:V}{d:D}(n:gH d=Θ)(h:Iq K S H v d):Jo K F H v d []:=
 Iq.rec (motive_1:=fun v d _=>gH d=Θ->Jo K F H v d []) (motive_2:=fun v d _=>gD d=Θ->Ir K F H v d []) (fun _=>.Iw) (fun b _=>.bl b) (fun b _=>.int b) (fun b _=>.str b) (fun h1 _ i n=>.tup h1 (i n)) (fun _ _ _ _ n=>nomatch n) (fun _ _ _ n=>nomatch n) (fun _ _ _ _ _ n=>nomatch n) (fun _ _ _ _ _ n=>nomatch n) (fun _=>.nil) (fun _ _ i j n=>.cons (f:=[]) (g:=[]) (i (zK n).1) (j (zK n).2)) h n
theorem Io.free {v:List V}{d:List D}(n:gD d=Θ)(h:Io K S H v d):Ir K F H v d []:=
 Io.rec (motive_1:=fun v d _=>gH d=Θ->Jo K F H v d []) (motive_2:=fun v d _=>gD d=Θ->Ir K F H v d []) (fun _=>.Iw) (fun b _=>.bl b) (fun b _=>.int b) (fun b _=>.str b) (fun h1 _ i n=>.tup h1 (i n)) (fun _ _ _ _ n=>nomatch n) (fun _ _ _ n=>nomatch n) (fun _ _ _ _ _ n=>nomatch n) (fun _ _ _ _ _ n=>nomatch n) (fun _=>.nil) (fun _ _ i j n=>.cons (f:=[]) (g:=[]) (i (zK n).1) (j (zK n).2)) h n
theorem iJ {p:Ω->Prop}:∀a∈([]:List Ω),p a:=fun _ h=>nomatch h
theorem Jo.read {v:V}{d:D}{f:List Ω}(hF:∀a,F a->S a)(hf:∀a∈f,S a)(h:Jo K F H v d f):Iq K S H v d:=
 Jo.rec (motive_1:=fun v d f _=>(∀a∈f,S a)->Iq K S H v d) (motive_2:=fun v d f _=>(∀a∈f,S a)->Io K S H v d) (fun _=>.Iw) (fun b _=>.bl b) (fun b _=>.int b) (fun b _=>.str b) (fun h1 _ i hf=>.tup h1 (i hf))
  (fun h0 h1 _ i _=>.lst (hF _ h0) h1 (i iJ)) (fun h1 _ i _=>.lstK h1 (i iJ)) (fun _ h1 _ i hf=>.lst (hf _ (.head _)) (.inl h1) (i fun b hb=>hf b (.tail _ hb))) (fun h0 h1 h2 _ i _=>.Ju (hF _ h0) h1 h2 (i iJ)) (fun _ h1 h2 _ i hf=>.Ju (hf _ (.head _)) (.inl h1) h2 (i fun b hb=>hf b (.tail _ hb))) (fun h0 h1 h2 _ i _=>.Jy (hF _ h0) h1 h2 (i iJ)) (fun _ h1 h2 _ i hf=>.Jy (hf _ (.head _)) (.inl h1) h2 (i fun b hb=>hf b (.tail _ hb))) (fun _=>.nil)
  (fun _ _ i j hf=>.cons (i fun a ha=>hf a (q_ _ ha)) (j fun a ha=>hf a (s_ _ ha))) h hf
theorem Ir.read {v:List V}{d:List D}{f:List Ω}(hF:∀a,F a->S a)(hf:∀a∈f,S a)(h:Ir K F H v d f):Io K S H v d:=
 Ir.rec (motive_1:=fun v d f _=>(∀a∈f,S a)->Iq K S H v d) (motive_2:=fun v d f _=>(∀a∈f,S a)->Io K S H v d) (fun _=>.Iw) (fun b _=>.bl b) (fun b _=>.int b) (fun b _=>.str b) (fun h1 _ i hf=>.tup h1 (i hf))
  (fun h0 h1 _ i _=>.lst (hF _ h0) h1 (i iJ)) (fun h1 _ i _=>.lstK h1 (i iJ)) (fun _ h1 _ i hf=>.lst (hf _ (.head _)) (.inl h1) (i fun b hb=>hf b (.tail _ hb))) (fun h0 h1 h2 _ i _=>.Ju (hF _ h0) h1 h2 (i iJ)) (fun _ h1 h2 _ i hf=>.Ju (hf _ (.head _)) (.inl h1) h2 (i fun b hb=>hf b (.tail _ hb))) (fun h0 h1 h2 _ i _=>.Jy (hF _ h0) h1 h2 (i iJ)) (fun _ h1 h2 _ i hf=>.Jy (hf _ (.head _)) (.inl h1) h2 (i fun b hb=>hf b (.tail _ hb))) (fun _=>.nil)
  (fun _ _ i j hf=>.cons (i fun a ha=>hf a (q_ _ ha)) (j fun a ha=>hf a (s_ _ ha))) h hf
theorem iN {α:Type}{x:Option α}{y:α}(h:x=Δ y):x≠Φ:=fun e=>nomatch h.symm.trans e
theorem Jo.step (hl:∀a (u:LD),F a->Rd H a u.o->F' a/\Rd H' a u.o)(ht:∀a xs,JC K H a xs->JC K H' a xs){v:V}{d:D}{f:List Ω}(k:∀a∈f,¬F a->H a≠Φ->¬F' a/\H' a=H a)
  (h:Jo K F H v d f):Jo K F' H' v d f:=
 Jo.rec (motive_1:=fun v d f _=>(∀a∈f,¬F a->H a≠Φ->¬F' a/\H' a=H a)->Jo K F' H' v d f) (motive_2:=fun v d f _=>(∀a∈f,¬F a->H a≠Φ->¬F' a/\H' a=H a)->Ir K F' H' v d f) (fun _=>.Iw) (fun b _=>.bl b) (fun b _=>.int b) (fun b _=>.str b)
  (fun h1 _ i k=>.tup (ht _ _ h1) (i k)) (fun h0 h1 _ i _=>.Mp (hl _ (.l _) h0 h1).1 (hl _ (.l _) h0 h1).2 (i iJ)) (fun h1 _ i _=>.lstK h1 (i iJ))
  (fun h0 h1 _ i k=>.KI (k _ (.head _) h0 (iN h1)).1 ((k _ (.head _) h0 (iN h1)).2.trans h1) (i fun b hb=>k b (.tail _ hb))) (fun h0 h1 h2 _ i _=>.N8 (hl _ (.d _) h0 h1).1 (hl _ (.d _) h0 h1).2 h2 (i iJ)) (fun h0 h1 h2 _ i k=>.Nl (k _ (.head _) h0 (iN h1)).1 ((k _ (.head _) h0 (iN h1)).2.trans h1) h2 (i fun b hb=>k b (.tail _ hb))) (fun h0 h1 h2 _ i _=>.N9 (hl _ (.t _) h0 h1).1 (hl _ (.t _) h0 h1).2 ⟨h2.1,fun p hp=>ht _ _ (h2.2 p hp)⟩ (i iJ)) (fun h0 h1 h2 _ i k=>.Nm (k _ (.head _) h0 (iN h1)).1 ((k _ (.head _) h0 (iN h1)).2.trans h1) ⟨h2.1,fun p hp=>ht _ _ (h2.2 p hp)⟩ (i fun b hb=>k b (.tail _ hb))) (fun _=>.nil)
  (fun _ _ i j k=>.cons (i fun a ha=>k a (q_ _ ha)) (j fun a ha=>k a (s_ _ ha))) h k
theorem Ir.step (hl:∀a (u:LD),F a->Rd H a u.o->F' a/\Rd H' a u.o)(ht:∀a xs,JC K H a xs->JC K H' a xs){v:List V}{d:List D}{f:List Ω}(k:∀a∈f,¬F a->H a≠Φ->¬F' a/\H' a=H a)
  (h:Ir K F H v d f):Ir K F' H' v d f:=
 Ir.rec (motive_1:=fun v d f _=>(∀a∈f,¬F a->H a≠Φ->¬F' a/\H' a=H a)->Jo K F' H' v d f) (motive_2:=fun v d f _=>(∀a∈f,¬F a->H a≠Φ->¬F' a/\H' a=H a)->Ir K F' H' v d f) (fun _=>.Iw) (fun b _=>.bl b) (fun b _=>.int b) (fun b _=>.str b)
  (fun h1 _ i k=>.tup (ht _ _ h1) (i k)) (fun h0 h1 _ i _=>.Mp (hl _ (.l _) h0 h1).1 (hl _ (.l _) h0 h1).2 (i iJ)) (fun h1 _ i _=>.lstK h1 (i iJ))
  (fun h0 h1 _ i k=>.KI (k _ (.head _) h0 (iN h1)).1 ((k _ (.head _) h0 (iN h1)).2.trans h1) (i fun b hb=>k b (.tail _ hb))) (fun h0 h1 h2 _ i _=>.N8 (hl _ (.d _) h0 h1).1 (hl _ (.d _) h0 h1).2 h2 (i iJ)) (fun h0 h1 h2 _ i k=>.Nl (k _ (.head _) h0 (iN h1)).1 ((k _ (.head _) h0 (iN h1)).2.trans h1) h2 (i fun b hb=>k b (.tail _ hb))) (fun h0 h1 h2 _ i _=>.N9 (hl _ (.t _) h0 h1).1 (hl _ (.t _) h0 h1).2 ⟨h2.1,fun p hp=>ht _ _ (h2.2 p hp)⟩ (i iJ)) (fun h0 h1 h2 _ i k=>.Nm (k _ (.head _) h0 (iN h1)).1 ((k _ (.head _) h0 (iN h1)).2.trans h1) ⟨h2.1,fun p hp=>ht _ _ (h2.2 p hp)⟩ (i fun b hb=>k b (.tail _ hb))) (fun _=>.nil)
  (fun _ _ i j k=>.cons (i fun a ha=>k a (q_ _ ha)) (j fun a ha=>k a (s_ _ ha))) h k
theorem ux {p:Ω->Prop}{x:Ω}{f:List Ω}(h:p x)(i:∀a∈f,p a):∀a∈x::f,p a:=by
 intro b hb;rcases k_.mp hb with rfl|hb
 ·exact h
 ·exact i b hb
theorem E1 {p:Ω->Prop}{f g:List Ω}(h:∀a∈f,p a)(i:∀a∈g,p a):∀a∈f++g,p a:=fun b hb=>(o_.mp hb).elim (h b) (i b)
theorem Jo.own {v:V}{d:D}{f:List Ω}(h:Jo K F H v d f):∀a∈f,¬F a/\∃u,H a=Δ u:=
 Jo.rec (motive_1:=fun _ _ f _=>∀a∈f,¬F a/\∃u,H a=Δ u) (motive_2:=fun _ _ f _=>∀a∈f,¬F a/\∃u,H a=Δ u) iJ (fun _=>iJ) (fun _=>iJ) (fun _=>iJ) (fun _ _ i=>i) (fun _ _ _ _=>iJ) (fun _ _ _=>iJ)
  (fun h0 h1 _ i=>ux ⟨h0,_,h1⟩ i) (fun _ _ _ _ _=>iJ) (fun h0 h1 _ _ i=>ux ⟨h0,_,h1⟩ i) (fun _ _ _ _ _=>iJ) (fun h0 h1 _ _ i=>ux ⟨h0,_,h1⟩ i) iJ (fun _ _ i j=>E1 i j) h
theorem Ir.own {v:List V}{d:List D}{f:List Ω}(h:Ir K F H v d f):∀a∈f,¬F a/\∃u,H a=Δ u:=
 Ir.rec (motive_1:=fun _ _ f _=>∀a∈f,¬F a/\∃u,H a=Δ u) (motive_2:=fun _ _ f _=>∀a∈f,¬F a/\∃u,H a=Δ u) iJ (fun _=>iJ) (fun _=>iJ) (fun _=>iJ) (fun _ _ i=>i) (fun _ _ _ _=>iJ) (fun _ _ _=>iJ)
  (fun h0 h1 _ i=>ux ⟨h0,_,h1⟩ i) (fun _ _ _ _ _=>iJ) (fun h0 h1 _ _ i=>ux ⟨h0,_,h1⟩ i) (fun _ _ _ _ _=>iJ) (fun h0 h1 _ _ i=>ux ⟨h0,_,h1⟩ i) iJ (fun _ _ i j=>E1 i j) h
theorem Io.ind {P:List V->List D->Prop}(n:P [] [])(c:∀v d vs ds,Iq K S H v d->Io K S H vs ds->P vs ds->P (v::vs) (d::ds)){vs:List V}{ds:List D}(h:Io K S H vs ds):P vs ds:=
 Io.rec (motive_1:=fun _ _ _=>True) (motive_2:=fun v d _=>P v d) trivial (fun _=>trivial) (fun _=>trivial) (fun _=>trivial) (fun _ _ _=>trivial) (fun _ _ _ _=>trivial) (fun _ _ _=>trivial) (fun _ _ _ _ _=>trivial) (fun _ _ _ _ _=>trivial) n (fun a b _ j=>c _ _ _ _ a b j) h
theorem Ir.ind {P:List V->List D->List Ω->Prop}(n:P [] [] [])(c:∀v d f vs ds g,Jo K F H v d f->Ir K F H vs ds g->P vs ds g->P (v::vs) (d::ds) (f++g)){vs:List V}{ds:List D}{f:List Ω}(h:Ir K F H vs ds f):P vs ds f:=
 Ir.rec (motive_1:=fun _ _ _ _=>True) (motive_2:=fun v d f _=>P v d f) trivial (fun _=>trivial) (fun _=>trivial) (fun _=>trivial) (fun _ _ _=>trivial) (fun _ _ _ _=>trivial) (fun _ _ _=>trivial) (fun _ _ _ _=>trivial) (fun _ _ _ _ _=>trivial) (fun _ _ _ _ _=>trivial) (fun _ _ _ _ _=>trivial) (fun _ _ _ _ _=>trivial) n (fun a b _ j=>c _ _ _ _ _ _ a b j) h
theorem Io.length {vs:List V}{ds:List D}(h:Io K S H vs ds):vs.length=ds.length:=
 Io.ind (P:=fun v d=>v.length=d.length) rfl (fun _ _ _ _ _ _ j=>congrArg (· + 1) j) h
theorem Io.get {i:Nat}{vs:List V}{ds:List D}{d:D}(h:Io K S H vs ds)(e:ds[i]? = Δ d):∃v,vs[i]? = Δ v/\Iq K S H v d:=
 Io.ind (P:=fun vs ds=>∀i d,ds[i]? = Δ d->∃v,vs[i]? = Δ v/\Iq K S H v d) (fun i d e=>nomatch (show Φ=Δ d from e)) (fun v d _ _ a _ j i d e=>by
  cases i with
  |zero=>exact⟨_,rfl,K_ e ▸ a⟩
  |succ i=>exact j i d e) h i d e
theorem Io.N' {i:Nat}{vs:List V}{ds:List D}{v:V}(h:Io K S H vs ds)(e:vs[i]? = Δ v):∃d,ds[i]? = Δ d/\Iq K S H v d:=
 Io.ind (P:=fun vs ds=>∀i v,vs[i]? = Δ v->∃d,ds[i]? = Δ d/\Iq K S H v d) (fun i d e=>nomatch (show Φ=Δ d from e)) (fun v d _ _ a _ j i d e=>by
  cases i with
  |zero=>exact⟨_,rfl,K_ e ▸ a⟩
  |succ i=>exact j i d e) h i v e
theorem Io.append {vs ws:List V}{ds es:List D}(h:Io K S H vs ds)(h':Io K S H ws es):Io K S H (vs++ws) (ds++es):=
 Io.ind (P:=fun v d=>Io K S H (v++ws) (d++es)) h' (fun _ _ _ _ a _ j=>.cons a j) h
theorem Io.take {vs:List V}{ds:List D}(n:Nat)(h:Io K S H vs ds):Io K S H (vs.take n) (ds.take n):=
 Io.ind (P:=fun v d=>∀n,Io K S H (v.take n) (d.take n)) (fun n=>by cases n<;>exact .nil) (fun _ _ _ _ a _ j n=>by
  cases n with
  |zero=>exact .nil
  |succ n=>exact .cons a (j n)) h n
theorem Io.drop {vs:List V}{ds:List D}(n:Nat)(h:Io K S H vs ds):Io K S H (vs.drop n) (ds.drop n):=
 Io.ind (P:=fun v d=>∀n,Io K S H (v.drop n) (d.drop n)) (fun n=>by cases n<;>exact .nil) (fun _ _ _ _ a b j n=>by
  cases n with
  |zero=>exact .cons a b
  |succ n=>exact j n) h n
theorem Ir.length {vs:List V}{ds:List D}{f:List Ω}(h:Ir K F H vs ds f):vs.length=ds.length:=
 Ir.ind (P:=fun v d _=>v.length=d.length) rfl (fun _ _ _ _ _ _ _ _ j=>congrArg (· + 1) j) h
theorem Ir.append {vs ws:List V}{ds es:List D}{f g:List Ω}(h:Ir K F H vs ds f)(h':Ir K F H ws es g):Ir K F H (vs++ws) (ds++es) (f++g):=
 Ir.ind (P:=fun v d f=>Ir K F H (v++ws) (d++es) (f++g)) h' (fun _ _ _ _ _ _ a _ j=>by
  rw[r_]
  exact .cons a j) h
theorem Iq.JK {v:V}{o:Bool}{ds:List D}(h:Iq K S H v (.lst o ds)):∃a xs,v=.ref a/\JX K H a xs/\Io K S H xs ds:=by
 cases h with
 |lst h0 h1 h2=>exact⟨_,_,rfl,.inl h1,h2⟩
 |lstK h1 h2=>exact⟨_,_,rfl,h1.sq,h2⟩
theorem Iq.Oa {v:V}{o:Bool}{ds:List D}(h:Iq K S H v (.lst o ds)):∃a xs,v=.ref a/\Ls K H a xs/\Io K S H xs ds:=by
 cases h with
 |lst h0 h1 h2=>exact⟨_,_,rfl,.inl h1,h2⟩
 |lstK h1 h2=>exact⟨_,_,rfl,.inr h1,h2⟩
theorem Iq.J9 {v:V}{ds:List D}(h:Iq K S H v (.tup ds)):∃a xs,v=.ref a/\JC K H a xs/\Io K S H xs ds:=by
 cases h with
 |tup h1 h2=>exact⟨_,_,rfl,h1,h2⟩
theorem Iq.Jv {v:V}{i:Int}(h:Iq K S H v (.int i)):v=.int i:=by cases h;rfl
theorem Iq.MU {v:V}{i:Bool}(h:Iq K S H v (.bl i)):v=.bl i:=by cases h;rfl
theorem Iq.JH {v:V}{i:Str}(h:Iq K S H v (.str i)):v=.str i:=by cases h;rfl
theorem Iq.Ku {v:V}(h:Iq K S H v .Iw):v=.Iw:=by cases h;rfl
theorem Io.ints {vs:List V}{ns:List Int}(h:Io K S H vs (ns.map .int)):vs=ns.map .int:=
 Io.ind (P:=fun v d=>∀ns:List Int,d=ns.map .int->v=ns.map .int) (fun ns e=>by
  cases ns with
  |nil=>rfl
  |cons n ns=>exact nomatch e) (fun _ _ _ _ a _ j ns e=>by
  cases ns with
  |nil=>exact nomatch e
  |cons n ns=>
   obtain⟨h1,h2⟩:=List.cons.inj e;subst h1;rw[j ns h2,a.Jv]
   rfl) h ns rfl
theorem Io.strs {vs:List V}{ns:List Str}(h:Io K S H vs (ns.map .str)):vs=ns.map .str:=
 Io.ind (P:=fun v d=>∀ns:List Str,d=ns.map .str->v=ns.map .str) (fun ns e=>by
  cases ns with
  |nil=>rfl
  |cons n ns=>exact nomatch e) (fun _ _ _ _ a _ j ns e=>by
  cases ns with
  |nil=>exact nomatch e
  |cons n ns=>
   obtain⟨h1,h2⟩:=List.cons.inj e;subst h1;rw[j ns h2,a.JH]
   rfl) h ns rfl
theorem Io.Wh {vs:List V}{ns:List Bool}(h:Io K S H vs (ns.map .bl)):vs=ns.map .bl:=
 Io.ind (P:=fun v d=>∀ns:List Bool,d=ns.map .bl->v=ns.map .bl) (fun ns e=>by
  cases ns with
  |nil=>rfl
  |cons n ns=>exact nomatch e) (fun _ _ _ _ a _ j ns e=>by
  cases ns with
  |nil=>exact nomatch e
  |cons n ns=>
   obtain⟨h1,h2⟩:=List.cons.inj e;subst h1;rw[j ns h2,a.MU]
   rfl) h ns rfl
theorem Io.ofStrs:∀(ns:List Str),Io K S H (ns.map .str) (ns.map .str)
 |[]=>.nil
 |n::ns=>.cons (.str n) (Io.ofStrs ns)
theorem Io.ofInts:∀(ns:List Int),Io K S H (ns.map .int) (ns.map .int)
 |[]=>.nil
 |n::ns=>.cons (.int n) (Io.ofInts ns)
end
theorem gJ.upd {H:Hp}{a:Ω}{o:HO}(h:H a=Φ):gJ H (upd H a o):=fun b u e=>by rw[gK (hW e h)];exact e
theorem zD:type_of% @D.casesOn.{0}:=@D.casesOn.{0}
inductive Nn where
 | add|sub|mul|fdiv|mod|pow
 deriving DecidableEq
inductive MG where
 | eq|ne|lt|le|gt|ge|Lp|Q4|Np|MV
 deriving DecidableEq
inductive Kd where
 | str|int|bool|list|tuple
 deriving DecidableEq
inductive Bi where
 | len|sum|min2|max2|L3|sorted|list|tuple|ord|int|all|any|str|set|abs
 deriving DecidableEq
inductive Mt where
 | join|index|starts
 deriving DecidableEq
inductive Tg where
 | nm (i:Nat)|tp (ts:List Tg)
structure Gm where
 N:List Str
 kd:List NameKind
 gl:List Nat
 df:Bool
 cm:Bool:=Θ
 rs:Bool:=Θ
 tr:Bool:=Ξ
 io:Option Nat:=Φ
mutual
inductive IR where
 | c (d:D)
 | g (n:Nat) (d:D)
 | v (i:Nat)
 | bin (op:Nn) (a b:IR)
 | neg (a:IR)
 | cmp (op:MG) (a b:IR)
 | chain (op KY:MG) (a b c:IR)
 | Js (a b:IR)
 | LN (a b:IR)
 | KJ (a:IR)
 | ite (t a b:IR)
 | tup (es:List IR)
 | lst (es:List IR)
 | idx (a i:IR)
 | sl (a:IR) (lo hi:Option IR)
 | call (f:Nat) (es:List IR)
 | bi (f:Bi) (es:List IR)
 | Lq
 | Lc
 | Nq (a k:IR)
 | OD (n:Bool) (k a:IR)
 | J2 (a:IR) (k:Kd)
 | sset (a:IR)
 | KR (a k e:IR)
 | NK (a:IR)
 | Nr (b:Bool) (a d:IR)
 | K0 (m:Mt) (o:IR) (es:List IR)
 | comp (G:Gm) (fr:List Nat) (tg:Tg) (src:Sr) (ifs:List IR) (elt:IR)
inductive Sr where
 | JW (n:IR)|val (e:IR)|zip (a b:IR)|MH (e:IR)
end
inductive IS where
 | asg (tg:Tg) (e:IR)
 | app (i:Nat) (e:IR)
 | Mq (i:Nat) (k e:IR)
 | Ld (i:Nat) (k e:IR)
 | ext (i:Nat) (e:IR)
 | ins (i:Nat) (k e:IR)
 | exp (e:IR)
 | ret (e:IR)
 | JA (t:IR) (a b:List IS)
 | Jz (tg:Tg) (src:Sr) (body:List IS)
 | brk|cnt|pass
abbrev Ev:=List (Option D)
inductive Fl where
 | nx (τ:Ev)|rt (d:D)|bk (τ:Ev)|ct (τ:Ev)|ri (d:D) (ks:List Key) (vs:List D)
noncomputable def jU {α:Type}(xs:List α)(lo hi:Option Int):List α:=(xs.drop (HT.Kh xs.length 0 lo)).take (HT.Kh xs.length xs.length hi - HT.Kh xs.length 0 lo)
noncomputable def iu (n:Nat):Bool:=decide (n<=Ζ)
noncomputable def i4 (n:Nat):Bool:=decide (n < Ζ)
noncomputable def Le:Nn->D->D->Res D
 |.add,.int a,.int b=>.ok (.int (a+b))
 |.add,.str a,.str b=>Iy (iu (a.length+b.length)) (.ok (.str (a++b)))
 |.add,.lst _ a,.lst _ b=>Iy (iu (a.length+b.length)) (.ok (.lst Θ (a++b)))
 |.sub,.int a,.int b=>.ok (.int (a - b))
 |.mul,.int a,.int b=>Iy (decide (-(2 ^ 64) < a/\a < 2 ^ 64)||decide (-(2 ^ 64) < b/\b < 2 ^ 64)) (.ok (.int (a*b)))
 |.mul,.str a,.int b=>Iy (decide (-16000<=b/\b<=16000/\a.length<=1000)) (.ok (.str (Txt.mul a b)))
 |.fdiv,.int a,.int b=>Iy (decide (0 < b/\b < 1073741824)) (.ok (.int (a / b)))
 |.mod,.int a,.int b=>Iy (decide (0 < b)) (.ok (.int (a % b)))
 |.pow,.int a,.int b=>Iy (decide (0<=b/\b<=1000000/\a.natAbs < 2 ^ 64)) (.ok (.int (a ^ b.toNat)))
 |_,_,_=>Ji
noncomputable def iq:D->D->Res D
 |.lst _ ds,.int i=>match Kj ds i with
  |some d=>.ok d
  |none=>Ji
 |.tup ds,.int i=>match Kj ds i with
  |some d=>.ok d
  |none=>Ji
 |.str z,.int i=>Iy (iu z.length) (match Kj z.cps.toList i with
  |some c=>.ok (.str ⟨#[c]⟩)
  |none=>Ji)
 |_,_=>Ji
noncomputable def qg:D->Option Int->Option Int->Res D
 |.lst _ ds,lo,hi=>.ok (.lst Θ (jU ds lo hi))
 |.str z,lo,hi=>Iy (iu z.length) (.ok (.str (Txt.slice z lo hi)))
 |_,_,_=>Ji
noncomputable def g8:D->Res Bool
 |.Iw=>.ok Ξ
 |.bl b=>.ok b
 |.int i=>.ok (i != 0)
 |.str x=>Iy (iu x.length) (.ok ((x.length:Int) != 0))
 |.tup ds=>.ok (!ds.isEmpty)
 |.lst _ ds=>.ok (!ds.isEmpty)
 |.Ju _ _ _=>Ji
 |.Jy _ _ _=>Ji
noncomputable def jd (f:D->D->Res Bool):List D->List D->Res Bool
 |[],[]=>.ok Θ
 |a::r,b::t=>Ii (f a b) fun x=>Ii (jd f r t) fun y=>.ok (x&&y)
 |_,_=>.ok Ξ
noncomputable def JR:Nat->D->D->Res Bool
 |0,_,_=>Ji
 |_+1,.Ju _ _ _,_=>Ji
 |_+1,_,.Ju _ _ _=>Ji
 |_+1,.Jy _ _ _,_=>Ji
 |_+1,_,.Jy _ _ _=>Ji
 |_+1,.Iw,.Iw=>.ok Θ
 |_+1,.Iw,_=>.ok Ξ
 |_+1,.bl a,.bl b=>.ok (a == b)
 |_+1,.bl a,.int b=>.ok ((if a then 1 else 0) == b)
 |_+1,.bl _,_=>.ok Ξ
 |_+1,.int a,.bl b=>.ok (a == (if b then 1 else 0))
 |_+1,.int a,.int b=>.ok (a == b)
 |_+1,.int _,_=>.ok Ξ
 |_+1,.str a,.str b=>.ok (a == b)
 |_+1,.str _,_=>.ok Ξ
 |n+1,.tup a,.tup b=>jd (JR n) a b
 |_+1,.tup _,_=>.ok Ξ
 |n+1,.lst _ a,.lst _ b=>jd (JR n) a b
 |_+1,.lst _ _,_=>.ok Ξ
noncomputable def Jx (d:D):List D->Res Bool
 |[]=>.ok Ξ
 |e::r=>Ii (JR 40 e d) fun x=>Ii (Jx d r) fun y=>.ok (x||y)
noncomputable def Bc (x y:Str):Bool:=!(Builtin.Str.occurrences x y 0 x.length 1).isEmpty
noncomputable def jQ:D->Bool
 |.Iw=>Θ
 |_=>Ξ
noncomputable def mI:D->Bool
 |.Ju _ _ _=>Ξ
 |.Jy _ _ _=>Ξ
 |_=>Θ
noncomputable def Kl:MG->D->D->Res Bool
 |.eq,a,b=>JR 40 a b
 |.ne,a,b=>Ii (JR 40 a b) fun r=>.ok !r
 |.lt,.int a,.int b=>.ok (decide (a < b))
 |.le,.int a,.int b=>.ok (decide (a<=b))
 |.gt,.int a,.int b=>.ok (decide (b < a))
 |.ge,.int a,.int b=>.ok (decide (b<=a))
 |.Lp,.str y,.str x=>.ok (Bc x y)
 |.Q4,.str y,.str x=>.ok (!Bc x y)
 |.Lp,a,.lst _ ds=>Jx a ds
 |.Q4,a,.lst _ ds=>Ii (Jx a ds) fun r=>.ok !r
 |.Lp,a,.tup ds=>Jx a ds
 |.Q4,a,.tup ds=>Ii (Jx a ds) fun r=>.ok !r
 |.Np,a,.Iw=>.ok (jQ a)
 |.MV,a,.Iw=>.ok (!jQ a)
 |.MV,.bl a,.bl b=>.ok (a != b)
 |.MV,.Iw,.bl _=>.ok Θ
 |_,_,_=>Ji
noncomputable def ik:List D->Option (List Int)
 |[]=>Δ []
 |.int i::r=>(ik r).map (i::·)
 |_::_=>Φ
noncomputable def ia:List D->Option (List Str)
 |[]=>Δ []
 |.str i::r=>(ia r).map (i::·)
 |_::_=>Φ
noncomputable def jh:List D->Option (List Bool)
 |[]=>Δ []
 |.bl i::r=>(jh r).map (i::·)
 |_::_=>Φ
noncomputable def jj:Kd->D->Bool
 |.str,.str _=>Θ
 |.int,.int _=>Θ
 |.int,.bl _=>Θ
 |.bool,.bl _=>Θ
 |.list,.lst _ _=>Θ
 |.tuple,.tup _=>Θ
 |_,_=>Ξ
noncomputable def jV (x:Str):List D:=x.cps.toList.map fun c=>.str ⟨#[c]⟩
noncomputable def iU (n:Int):List Int->Int
 |[]=>n
 |m::r=>iU (if n < m then m else n) r
noncomputable def E2:Key->D
 |.inl i=>.int i
 |.inr x=>.str x
noncomputable def jy:Bi->List D->Res D
 |.len,[.str x]=>Iy (iu x.length) (.ok (.int x.length))
 |.len,[.tup ds]=>.ok (.int ds.length)
 |.len,[.lst _ ds]=>.ok (.int ds.length)
 |.len,[.Ju _ ks _]=>.ok (.int ks.length)
 |.min2,[.int a,.int b]=>.ok (.int (if b < a then b else a))
 |.max2,[.int a,.int b]=>.ok (.int (if b > a then b else a))
 |.L3,[.lst _ ds]=>match ik ds with
  |some (n::ns)=>.ok (.int (iU n ns))
  |_=>Ji
 |.ord,[.str x]=>Iy (decide (x.length=1)) (.ok (.int (x.cps.getD 0 0:Nat)))
 |.int,[.int i]=>.ok (.int i)
 |.int,[.bl b]=>.ok (.int (if b then 1 else 0))
 |.list,[.lst _ ds]=>.ok (.lst Θ ds)
 |.list,[.tup ds]=>.ok (.lst Θ ds)
 |.list,[.Ju _ ks _]=>.ok (.lst Θ (ks.map E2))
 |.tuple,[.lst _ ds]=>.ok (.tup ds)
 |.tuple,[.str x]=>Iy (iu x.length) (.ok (.tup (jV x)))
 |.all,[.lst _ ds]=>match jh ds with
  |some bs=>.ok (.bl (bs.all id))
  |none=>Ji
 |.any,[.lst _ ds]=>match jh ds with
  |some bs=>.ok (.bl (bs.any id))
  |none=>Ji
 |.abs,[.int i]=>.ok (.int (if i < 0 then -i else i))
 |_,_=>Ji
noncomputable def kl:D->Option Key
 |.int i=>Δ (.inl i)
 |.str x=>Δ (.inr x)
 |_=>Φ
noncomputable def look {κ:Type} [DecidableEq κ]:List κ->List D->κ->Option D
 |k::ks,d::ds,q=>if k=q then Δ d else look ks ds q
 |_,_,_=>Φ
noncomputable def mJ {κ:Type} [DecidableEq κ](ks:List κ)(q:κ):Bool:=ks.any fun k=>decide (k=q)
noncomputable def iB {κ:Type} [DecidableEq κ](ks:List κ)(q:κ):List κ:=if mJ ks q=Θ then ks else ks++[q]
noncomputable def iR {κ:Type} [DecidableEq κ](ks:List κ)(ds:List D)(q:κ)(d:D):List D:=if mJ ks q=Θ then List.zipWith (fun k e=>if k=q then d else e) ks ds else ds++[d]
noncomputable def Bd:D->D->Res D
 |.Ju _ ks ds,y=>match kl y with
  |some q=>(match look ks ds q with
   |some d=>.ok d
   |none=>Ji)
  |none=>Ji
 |_,_=>Ji
noncomputable def qh (n:Bool):D->D->Res D
 |.Ju _ ks ds,y=>match kl y with
  |some q=>.ok (.bl (n != (look ks ds q).isSome))
  |none=>Ji
 |_,_=>Ji
noncomputable def Q5:D->Option TK
 |.Iw=>Δ Φ
 |.int i=>Δ (Δ (.inl i))
 |.str x=>Δ (Δ (.inr x))
 |_=>Φ
noncomputable def rq:List D->Option (List TK)
 |[]=>Δ []
 |d::ds=>match Q5 d with
  |some k=>(rq ds).map (k::·)
  |none=>Φ
noncomputable def jq:D->Option (List TK)
 |.tup ds=>rq ds
 |_=>Φ
noncomputable def rA:D->Bool
 |.Jy _ _ _=>Θ
 |_=>Ξ
noncomputable def rB:D->D->D->Res D
 |.Jy _ ks ds,y,z=>match jq y with
  |some q=>.ok ((look ks ds q).getD z)
  |none=>Ji
 |_,_,_=>Ji
noncomputable def kB (x:Str):List Str->Str
 |[]=>x
 |y::r=>kB (if x.length < y.length then y else x) r
noncomputable def jR (n:Int):List Int->Int
 |[]=>n
 |m::r=>jR (if m < n then m else n) r
noncomputable def zL:D->Res D
 |.lst _ ds=>match ia ds with
  |some (x::xs)=>Iy ((x::xs).all fun y=>iu y.length) (.ok (.str (kB x xs)))
  |_=>Ji
 |_=>Ji
noncomputable def CW (b:Bool):D->D->Res D
 |.lst _ ds,.Iw=>match ik ds with
  |some []=>.ok .Iw
  |some (n::ns)=>.ok (.int (bif b then iU n ns else jR n ns))
  |none=>Ji
 |_,_=>Ji
noncomputable def km:D->Bool
 |.str _=>Θ
 |_=>Ξ
noncomputable def mK:Mt->D->List D->Res D
 |.join,.str x,[.lst _ ds]=>match ia ds with
  |some ys=>Iy (decide ((ys.map (·.length)).sum+ys.length*x.length<=16777216)) (.ok (.str (Txt.join x ys)))
  |none=>Ji
 |.starts,.str x,[.str y]=>.ok (.bl (Txt.startswith x y))
 |_,_,_=>Ji
noncomputable def mL:D->Res (List D)
 |.lst _ ds=>.ok ds
 |.tup ds=>.ok ds
 |.str x=>Iy (iu x.length) (.ok (jV x))
 |_=>Ji
noncomputable def rC:D->Res (List D)
 |.lst _ ds=>.ok ds
 |.tup ds=>.ok ds
 |_=>Ji
noncomputable def kc (ds es:List D):List D:=List.zipWith (fun a b=>.tup [a,b]) ds es
noncomputable def rD (ds:List D):List D:=List.zipWith (fun(k:Nat) d=>.tup [.int k,d]) (List.range ds.length) ds
noncomputable def E3:D->Res (List D)
 |.lst _ ds=>.ok (rD ds)
 |_=>Ji
noncomputable def zM (x y:D):Res (List D):=Ii (rC x) fun ds=>Ii (rC y) fun es=>.ok (kc ds es)
noncomputable def iV (a b:Int):List D:=(List.range (b - a).toNat).map fun k=>.int (a+(k:Nat))
noncomputable def qi:D->Res D
 |.lst _ ds=>match ik ds with
  |some ns=>Iy (decide (ns.length < 64)) (.ok (.lst Θ ((PySem.W.sortI (dd ns)).map .int)))
  |none=>match ia ds with
   |some ns=>Iy (decide (ns.length < 64)) (.ok (.lst Θ ((i5 (Mf ns)).map .str)))
   |none=>Ji
 |_=>Ji
noncomputable def lL (i:Int):Bool:=decide (-(2 ^ 62)<=i/\i < 2 ^ 62)
noncomputable def gM {α β:Type}(f:α->Res (Option β)):List α->Res (List β)
 |[]=>.ok []
 |x::xs=>Ii (f x) fun
  |some d=>Ii (gM f xs) fun r=>.ok (d::r)
  |none=>gM f xs
mutual
noncomputable def jf:Tg->D->Ev->Res Ev
 |.nm i,d,τ=>.ok (τ.set i (Δ d))
 |.tp ts,.tup ds,τ=>Iy (decide (ds.length=ts.length)) (kC ts ds τ)
 |.tp ts,.lst _ ds,τ=>Iy (decide (ds.length=ts.length)) (kC ts ds τ)
 |.tp _,_,_=>Ji
noncomputable def kC:List Tg->List D->Ev->Res Ev
 |t::ts,d::ds,τ=>Ii (jf t d τ) fun Jl=>kC ts ds Jl
 |[],[],τ=>.ok τ
 |_,_,_=>Ji
end
noncomputable def gF (τ:Ev)(i:Nat):Option D:=(τ[i]?).join
mutual
noncomputable def vars:IR->List Nat
 |.c _=>[]
 |.g _ _=>[]
 |.v i=>[i]
 |.bin _ a b=>vars a++vars b
 |.neg a=>vars a
 |.cmp _ a b=>vars a++vars b
 |.chain _ _ a b c=>vars a++vars b++vars c
 |.Js a b=>vars a++vars b
 |.LN a b=>vars a++vars b
 |.KJ a=>vars a
 |.ite t a b=>vars t++vars a++vars b
 |.tup es=>gR es
 |.lst es=>gR es
 |.idx a i=>vars a++vars i
 |.sl a lo hi=>vars a++v3 lo++v3 hi
 |.call _ es=>gR es
 |.bi _ es=>gR es
 |.Lq=>[]
 |.Lc=>[]
 |.Nq a k=>vars a++vars k
 |.OD _ k a=>vars k++vars a
 |.J2 a _=>vars a
 |.sset a=>vars a
 |.KR a k e=>vars a++vars k++vars e
 |.NK a=>vars a
 |.Nr _ a d=>vars a++vars d
 |.K0 _ o es=>vars o++gR es
 |.comp _ fr _ src _ _=>fr++kD src
noncomputable def gR:List IR->List Nat
 |[]=>[]
 |e::es=>vars e++gR es
noncomputable def v3:Option IR->List Nat
 |none=>[]
 |some e=>vars e
noncomputable def kD:Sr->List Nat
 |.JW n=>vars n
 |.val e=>vars e
 |.zip a b=>vars a++vars b
 |.MH a=>vars a
end
mutual
noncomputable def Iu (cl:Nat->List D->Res D):IR->Ev->Res D
 |.c d,_=>.ok d
 |.g _ d,_=>.ok d
 |.v i,τ=>match gF τ i with
  |some d=>.ok d
  |none=>Ji
 |.bin op a b,τ=>Ii (Iu cl a τ) fun x=>Ii (Iu cl b τ) fun y=>Le op x y
 |.neg a,τ=>Ii (Iu cl a τ) fun
  |.int i=>.ok (.int (-i))
  |_=>Ji
 |.cmp op a b,τ=>Ii (Iu cl a τ) fun x=>Ii (Iu cl b τ) fun y=>Ii (Kl op x y) fun r=>.ok (.bl r)
 |.chain op KY a b c,τ=>Ii (Iu cl a τ) fun x=>Ii (Iu cl b τ) fun y=>Ii (Kl op x y) fun r=>
  if r=Θ then Ii (Iu cl c τ) fun z=>Ii (Kl KY y z) fun r'=>.ok (.bl r') else .ok (.bl Ξ)
 |.Js a b,τ=>Ii (Iu cl a τ) fun x=>Ii (g8 x) fun r=>if r=Θ then Iu cl b τ else .ok x
 |.LN a b,τ=>Ii (Iu cl a τ) fun x=>Ii (g8 x) fun r=>if r=Θ then .ok x else Iu cl b τ
 |.KJ a,τ=>Ii (Iu cl a τ) fun x=>Ii (g8 x) fun r=>.ok (.bl !r)
 |.ite t a b,τ=>Ii (Iu cl t τ) fun x=>Ii (g8 x) fun r=>if r=Θ then Iu cl a τ else Iu cl b τ
 |.tup es,τ=>Ii (iK cl es τ) fun ds=>Iy (iu ds.length) (.ok (.tup ds))
 |.lst es,τ=>Ii (iK cl es τ) fun ds=>Iy (iu ds.length) (.ok (.lst Θ ds))
 |.idx a i,τ=>Ii (Iu cl a τ) fun x=>Ii (Iu cl i τ) fun y=>iq x y
 |.sl a lo hi,τ=>Ii (Iu cl a τ) fun x=>Ii (oE cl lo τ) fun l=>Ii (oE cl hi τ) fun h=>qg x l h
 |.call f es,τ=>Ii (iK cl es τ) fun ds=>cl f (Jj ds)
 |.bi f es,τ=>Ii (iK cl es τ) fun ds=>jy f ds
 |.Lq,_=>.ok (.Ju Θ [] [])
 |.Lc,_=>.ok (.Jy Θ [] [])
 |.Nq a k,τ=>Ii (Iu cl a τ) fun x=>Ii (Iu cl k τ) fun y=>Bd x y
 |.OD n k a,τ=>Ii (Iu cl k τ) fun y=>Ii (Iu cl a τ) fun x=>qh n x y
 |.J2 a k,τ=>Ii (Iu cl a τ) fun x=>Iy (mI x) (.ok (.bl (jj k x)))
 |.sset a,τ=>Ii (Iu cl a τ) qi
 |.KR a k e,τ=>Ii (Iu cl a τ) fun x=>Iy (rA x) (Ii (Iu cl k τ) fun y=>Ii (Iu cl e τ) fun z=>rB x y z)
 |.NK a,τ=>Ii (Iu cl a τ) zL
 |.Nr b a d,τ=>Ii (Iu cl a τ) fun x=>Ii (Iu cl d τ) fun y=>CW b x y
 |.K0 m o es,τ=>Ii (Iu cl o τ) fun x=>Iy (km x) (Ii (iK cl es τ) fun ds=>mK m x ds)
 |.comp G fr tg src ifs elt,τ=>Ii (ko cl src τ) fun its=>Iy (i4 its.length) (Ii ((gM (fun x=>Ii (jf tg x (fr.map (gF τ)++Τ (G.N.length - fr.length) Φ)) fun OE=>
   Ii (kn cl ifs OE) fun r=>if r=Θ then Ii (Iu cl elt OE) fun d=>.ok (Δ d) else .ok Φ) its)) fun ds=>.ok (.lst Θ ds))
noncomputable def iK (cl:Nat->List D->Res D):List IR->Ev->Res (List D)
 |[],_=>.ok []
 |e::es,τ=>Ii (Iu cl e τ) fun d=>Ii (iK cl es τ) fun ds=>.ok (d::ds)
noncomputable def oE (cl:Nat->List D->Res D):Option IR->Ev->Res (Option Int)
 |none,_=>.ok Φ
 |some e,τ=>Ii (Iu cl e τ) fun
  |.int i=>.ok (Δ i)
  |_=>Ji
noncomputable def kn (cl:Nat->List D->Res D):List IR->Ev->Res Bool
 |[],_=>.ok Θ
 |e::es,τ=>Ii (Ii (Iu cl e τ) g8) fun r=>if r=Θ then kn cl es τ else .ok Ξ
noncomputable def ko (cl:Nat->List D->Res D):Sr->Ev->Res (List D)
 |.JW n,τ=>Ii (Iu cl n τ) fun
  |.int i=>Iy (lL i) (.ok (iV 0 i))
  |_=>Ji
 |.val e,τ=>Ii (Iu cl e τ) mL
 |.zip a b,τ=>Ii (Iu cl a τ) fun x=>Ii (Iu cl b τ) fun y=>zM x y
 |.MH a,τ=>Ii (Iu cl a τ) E3
end
noncomputable def Q6 (cl:Nat->List D->Res D)(t:IR)(τ:Ev):Res Bool:=Ii (Iu cl t τ) g8
noncomputable def lh (is:List Nat):Nat->Ev->Ev
 |_,[]=>[]
 |k,o::τ=>(if is.contains k then o.map er else o)::lh is (k+1) τ
noncomputable abbrev Jw (is:List Nat)(τ:Ev):Ev:=lh is 0 τ
noncomputable def g9 : IR->Bool
 |.bin .add _ _=>Θ
 |.bin .mul _ _=>Θ
 |.sl _ _ _=>Θ
 |.bi .list _=>Θ
 |.comp _ _ _ _ _ _=>Θ
 |_=>Ξ
noncomputable def ib (e:IR)(d:D)(τ:Ev):D×Ev:=
 if gH d=Θ then(d,τ)
 else match g9 e,d with
  |true,.lst _ ds=>if gD ds=Θ then(.lst Θ ds,τ) else(.lst Θ (Jj ds),Jw (vars e) τ)
  |_,_=>(er d,Jw (vars e) τ)
mutual
noncomputable def JI (cl:Nat->List D->Res D)(mv:Bool):IR->Ev->Res (D×Ev)
 |.v i,τ=>match gF τ i with
  |some d=>if mv=Θ then .ok (d,τ.set i Φ) else .ok (er d,τ.set i (Δ (er d)))
  |none=>Ji
 |.tup es,τ=>Ii (nq cl mv es τ) fun p=>Iy (iu p.1.length) (.ok (.tup p.1,p.2))
 |.lst es,τ=>Ii (nq cl mv es τ) fun p=>Iy (iu p.1.length) (.ok (.lst Θ p.1,p.2))
 |.Lq,τ=>.ok (.Ju Θ [] [],τ)
 |.Lc,τ=>.ok (.Jy Θ [] [],τ)
 |.ite t a b,τ=>Ii (Q6 cl t τ) fun r=>if r=Θ then JI cl mv a τ else JI cl mv b τ
 |.call f es,τ=>Ii (iK cl es τ) fun ds=>Ii (cl f (Jj ds)) fun d=>if gH d=Θ then .ok (d,τ) else .ok (d,Jw (gR es) τ)
 |e,τ=>Ii (Iu cl e τ) fun d=>.ok (ib e d τ)
noncomputable def nq (cl:Nat->List D->Res D)(mv:Bool):List IR->Ev->Res (List D×Ev)
 |[],τ=>.ok ([],τ)
 |e::es,τ=>Ii (JI cl mv e τ) fun p=>Ii (nq cl mv es p.2) fun q=>.ok (p.1::q.1,q.2)
end
noncomputable def forM (body:D->Ev->Res Fl):List D->Ev->Res Fl
 |[],τ=>.ok (.nx τ)
 |x::xs,τ=>Ii (body x τ) fun
  |.nx Jl=>forM body xs Jl
  |.ct Jl=>forM body xs Jl
  |.bk Jl=>.ok (.nx Jl)
  |.rt d=>.ok (.rt d)
  |.ri d ks vs=>.ok (.ri d ks vs)
noncomputable def rE (cl:Nat->List D->Res D)(s:Sr)(τ:Ev):Res (List D×Ev):=Ii (ko cl s τ) fun its=>match s with
 |.JW _=>.ok (its,τ)
 |s=>.ok (Jj its,Jw (kD s) τ)
mutual
noncomputable def uy:D->Bool
 |.lst o ds=>!o&&iY ds
 |.tup ds=>iY ds
 |.Ju o _ ds=>!o&&iY ds
 |.Jy o _ ds=>!o&&iY ds
 |_=>Θ
noncomputable def iY:List D->Bool
 |[]=>Θ
 |d::ds=>uy d&&iY ds
end
mutual
noncomputable def Lf (cl:Nat->List D->Res D):IS->Ev->Res Fl
 |.asg tg e,τ=>Ii (JI cl Ξ e τ) fun p=>Ii (jf tg p.1 p.2) fun Jl=>.ok (.nx Jl)
 |.app i e,τ=>match gF τ i with
  |some (.lst _ _)=>Ii (JI cl Ξ e τ) fun p=>(match gF p.2 i with
   |some (.lst Θ ds)=>Iy (i4 ds.length) (.ok (.nx (p.2.set i (Δ (.lst Θ (ds++[p.1]))))))
   |_=>Ji)
  |_=>Ji
 |.Mq i k e,τ=>Ii (Iu cl e τ) fun d=>match gF τ i with
  |some (.Ju Θ ks ds)=>Ii (Iu cl k τ) fun y=>(match kl y with
   |some q=>Iy (gH d&&gD ds&&i4 ks.length) (.ok (.nx (τ.set i (Δ (.Ju Θ (iB ks q) (iR ks ds q d))))))
   |none=>Ji)
  |_=>Ji
 |.Ld i k e,τ=>Ii (Iu cl e τ) fun d=>match gF τ i with
  |some (.Jy Θ ks ds)=>Ii (Iu cl k (Jw (vars e) τ)) fun y=>(match jq y with
   |some q=>Iy (iY ds&&i4 ks.length) (.ok (.nx ((Jw (vars e) τ).set i (Δ (.Jy Θ (iB ks q) (Jj (iR ks ds q d)))))))
   |none=>Ji)
  |_=>Ji
 |.ext i e,τ=>match gF τ i with
  |some (.lst _ _)=>Ii (JI cl Ξ e τ) fun p=>(match p.1,gF p.2 i with
   |.lst _ es,Δ (.lst Θ ds)=>Iy (iu (ds.length+es.length)) (.ok (.nx (p.2.set i (Δ (.lst Θ (ds++es))))))
   |_,_=>Ji)
  |_=>Ji
 |.ins i k e,τ=>match gF τ i with
  |some (.lst _ _)=>Ii (Iu cl k τ) fun y=>Ii (JI cl Ξ e τ) fun p=>(match y,gF p.2 i with
   |.int z,Δ (.lst Θ ds)=>Iy (decide (0<=z/\z.toNat<=ds.length)&&i4 ds.length) (.ok (.nx (p.2.set i (Δ (.lst Θ (ds.take z.toNat++p.1::ds.drop z.toNat))))))
   |_,_=>Ji)
  |_=>Ji
 |.exp e,τ=>Ii (Iu cl e τ) fun _=>.ok (.nx τ)
 |.ret e,τ=>Ii (JI cl Θ e τ) fun p=>.ok (.rt p.1)
 |.JA t a b,τ=>Ii (Q6 cl t τ) fun r=>if r=Θ then iy cl a τ else iy cl b τ
 |.Jz tg s body,τ=>Ii (rE cl s τ) fun p=>forM (fun x τ=>Ii (jf tg x τ) fun Jl=>iy cl body Jl) p.1 p.2
 |.brk,τ=>.ok (.bk τ)
 |.cnt,τ=>.ok (.ct τ)
 |.pass,τ=>.ok (.nx τ)
noncomputable def iy (cl:Nat->List D->Res D):List IS->Ev->Res Fl
 |[],τ=>.ok (.nx τ)
 |s::r,τ=>Ii (Lf cl s τ) fun
  |.nx Jl=>iy cl r Jl
  |.ct Jl=>.ok (.ct Jl)
  |.bk Jl=>.ok (.bk Jl)
  |.rt d=>.ok (.rt d)
  |.ri d ks vs=>.ok (.ri d ks vs)
end
structure Fn where
 np:Nat
 G:Gm
 body:List IS
 io:Bool:=Ξ
noncomputable def lO (cl:Nat->List D->Res D)(fn:Fn)(ds:List D):Res D:=
 Iy (decide (ds.length=fn.np)) (Ii (iy cl fn.body (ds.map Δ++Τ (fn.G.N.length - fn.np) Φ)) fun
  |.nx _=>.ok .Iw
  |.rt d=>.ok d
  |_=>Ji)
noncomputable def HC:D->D
 |.Ju _ ks vs=>.Ju Θ ks vs
 |d=>d
noncomputable def E4:List D->List D
 |[]=>[]
 |[d]=>[HC d]
 |d::ds=>d::E4 ds
noncomputable def rF (cl:Nat->List D->Res D)(fn:Fn)(ds:List D):Res D:=
 Iy (decide (ds.length=fn.np)) (Ii (iy cl fn.body ((E4 ds).map Δ++Τ (fn.G.N.length - fn.np) Φ)) fun
  |.ri d ks vs=>.ok (.tup [d,.Ju Ξ ks vs])
  |_=>Ji)
abbrev Tb:=Nat->Option Fn
noncomputable def cM (T:Tb):Nat->Nat->List D->Res D
 |0,_,_=>Ji
 |n+1,f,ds=>match T f with
  |some fn=>(match fn.io with
   |false=>lO (cM T n) fn ds
   |true=>rF (cM T n) fn ds)
  |none=>Ji
theorem E5 {cl:Nat->List D->Res D}{i:Nat}{τ:Ev}:Iu cl (.v i) τ=(match gF τ i with|some d=>.ok d|none=>Ji):=rfl
theorem E6 {cl:Nat->List D->Res D}{i:Nat}{τ:Ev}{mv:Bool}:JI cl mv (.v i) τ=(match gF τ i with|some d=>if mv=Θ then .ok (d,τ.set i Φ) else .ok (er d,τ.set i (Δ (er d)))|none=>Ji):=rfl
theorem zI:type_of% @IR.casesOn.{0}:=@IR.casesOn.{0}
theorem zT:type_of% @IS.casesOn.{0}:=@IS.casesOn.{0}
section
variable {X:Cx}{pins:List (Ω×Obj)}{σ:St}{H:Hp}{S:Ω->Prop}{s:Α}
theorem Inv.Kv (I:Inv X pins σ H s){a:Ω}{xs ys:List V}(h1:JX X.K H a xs)(h2:JC X.K H a ys):False:=by obtain⟨its,_,⟨o,n,e,c,_⟩,_⟩:=I.list h1;obtain⟨its',_,⟨o',e',c',_⟩,_⟩:=I.tuple h2;rw[e]at e';cases e';rw[c]at c';injection c' with c';exact absurd c' (by decide)
theorem Inv.Nt (I:Inv X pins σ H s){a:Ω}(h:(∃kvs,Rd H a (.dK kvs))∨∃kvs,Rd H a (.dT kvs)):∃o es ep,s.heap.get? a=Δ o/\o.data=.dict es ep:=by
 rcases h with⟨kvs,h⟩|⟨kvs,h⟩
 ·obtain⟨_,_,vs,_,o,es,ep,e,c,d,_⟩:=h.ok I.Jq;exact⟨o,es,ep,e,d⟩
 ·obtain⟨_,_,vs,_,o,es,ep,e,c,d,_⟩:=h.ok I.Jq;exact⟨o,es,ep,e,d⟩
theorem Inv.K1 (I:Inv X pins σ H s){a:Ω}{xs:List V}(h:(∃kvs,Rd H a (.dK kvs))∨∃kvs,Rd H a (.dT kvs))(k:JC X.K H a xs):False:=by obtain⟨o,es,ep,e,d⟩:=I.Nt h;obtain⟨its',_,⟨o',e',c',n,d'⟩,_⟩:=I.tuple k;rw[e]at e';cases e';rw[d]at d';cases d'
theorem Inv.J1 (I:Inv X pins σ H s){a:Ω}{xs:List V}(h:(∃kvs,Rd H a (.dK kvs))∨∃kvs,Rd H a (.dT kvs))(k:JX X.K H a xs):False:=by obtain⟨o,es,ep,e,d⟩:=I.Nt h;obtain⟨its',_,⟨o',n,e',c',n',d'⟩,_⟩:=I.list k;rw[e]at e';cases e';rw[d]at d';cases d'
theorem Rd.dk {H:Hp}{a:Ω}{u v:List (Key×V)}(h:Rd H a (.dK u))(k:Rd H a (.dK v)):u=v:=by rcases h with h|⟨o,h⟩<;>rcases k with k|⟨o',k⟩<;>(rw[h]at k;cases k;try rfl)
theorem Rd.dt {H:Hp}{a:Ω}{u v:List (List TK×Ω×V)}(h:Rd H a (.dT u))(k:Rd H a (.dT v)):u=v:=by rcases h with h|⟨o,h⟩<;>rcases k with k|⟨o',k⟩<;>(rw[h]at k;cases k;try rfl)
theorem Rd.kt {H:Hp}{a:Ω}{u:List (Key×V)}{v:List (List TK×Ω×V)}(h:Rd H a (.dK u))(k:Rd H a (.dT v)):False:=by rcases h with h|⟨o,h⟩<;>rcases k with k|⟨o',k⟩<;>(rw[h]at k;cases k)
mutual
theorem Iq.one (I:Inv X pins σ H s):∀ {v:V}{d e:D},Iq X.K S H v d->Iq X.K S H v e->er d=er e
 |_,_,_,.Iw,h=>by cases h;rfl
 |_,_,_,.bl b,h=>by cases h;rfl
 |_,_,_,.int i,h=>by cases h;rfl
 |_,_,_,.str x,h=>by cases h;rfl
 |_,_,_,.tup h1 h2,h=>by
  cases h with
  |tup k1 k2=>have e:=I.KC h1 k1;subst e;rw[er,er,Io.one I h2 k2]
  |lst k0 k1 k2=>exact(I.Kv (.inl k1) h1).elim
  |lstK k1 k2=>exact(I.Kv k1.sq h1).elim
  |Ju k0 k1 k2 k3=>exact(I.K1 (.inl ⟨_,k1⟩) h1).elim
  |Jy k0 k1 k2 k3=>exact(I.K1 (.inr ⟨_,k1⟩) h1).elim
 |_,_,_,.lst h0 h1 h2,h=>by
  cases h with
  |tup k1 k2=>exact(I.Kv (.inl h1) k1).elim
  |lst k0 k1 k2=>have e:=I.JU (.inl h1) (.inl k1);subst e;rw[er,er,Io.one I h2 k2]
  |lstK k1 k2=>have e:=I.JU (.inl h1) k1.sq;subst e;rw[er,er,Io.one I h2 k2]
  |Ju k0 k1 k2 k3=>exact(I.J1 (.inl ⟨_,k1⟩) (.inl h1)).elim
  |Jy k0 k1 k2 k3=>exact(I.J1 (.inr ⟨_,k1⟩) (.inl h1)).elim
 |_,_,_,.lstK h1 h2,h=>by
  cases h with
  |tup k1 k2=>exact(I.Kv h1.sq k1).elim
  |lst k0 k1 k2=>have e:=I.JU h1.sq (.inl k1);subst e;rw[er,er,Io.one I h2 k2]
  |lstK k1 k2=>have e:=I.JU h1.sq k1.sq;subst e;rw[er,er,Io.one I h2 k2]
  |Ju k0 k1 k2 k3=>exact(I.J1 (.inl ⟨_,k1⟩) h1.sq).elim
  |Jy k0 k1 k2 k3=>exact(I.J1 (.inr ⟨_,k1⟩) h1.sq).elim
 |_,_,_,.Ju h0 h1 h2 h3,h=>by
  cases h with
  |tup k1 k2=>exact(I.K1 (.inl ⟨_,h1⟩) k1).elim
  |lst k0 k1 k2=>exact(I.J1 (.inl ⟨_,h1⟩) (.inl k1)).elim
  |lstK k1 k2=>exact(I.J1 (.inl ⟨_,h1⟩) k1.sq).elim
  |Ju k0 k1 k2 k3=>have e:=Rd.dk h1 k1;subst e;rw[er,er,Io.one I h3 k3,<- h2,<- k2]
  |Jy k0 k1 k2 k3=>exact(Rd.kt h1 k1).elim
 |_,_,_,.Jy h0 h1 h2 h3,h=>by
  cases h with
  |tup k1 k2=>exact(I.K1 (.inr ⟨_,h1⟩) k1).elim
  |lst k0 k1 k2=>exact(I.J1 (.inr ⟨_,h1⟩) (.inl k1)).elim
  |lstK k1 k2=>exact(I.J1 (.inr ⟨_,h1⟩) k1.sq).elim
  |Ju k0 k1 k2 k3=>exact(Rd.kt k1 h1).elim
  |Jy k0 k1 k2 k3=>have e:=Rd.dt h1 k1;subst e;rw[er,er,Io.one I h3 k3,<- h2.1,<- k2.1]
theorem Io.one (I:Inv X pins σ H s):∀ {vs:List V}{ds es:List D},Io X.K S H vs ds->Io X.K S H vs es->Jj ds=Jj es
 |_,_,_,.nil,h=>by cases h;rfl
 |_,_,_,.cons h1 h2,h=>by
  cases h with
  |cons k1 k2=>rw[Jj,Jj,Iq.one I h1 k1,Io.one I h2 k2]
end
end
theorem iZ {α β:Type}{x:Res α}{f:α->Res β}{b:β}(h:Ii x f=.ok b):∃a,x=.ok a/\f a=.ok b:=by
 cases x with
 |error e=>cases h
 |ok a=>exact⟨a,rfl,h⟩
theorem CY {α:Type}{c:Bool}{x:Res α}{b:α}(h:Iy c x=.ok b):c=Θ/\x=.ok b:=by
 unfold Iy at h;cases c with
 |true=>exact⟨rfl,h⟩
 |false=>cases h
theorem jD {f:D->D->Res Bool}(hf:∀d e r,f d e=.ok r->er d=er e->r=Θ):∀ {ds es:List D}{r:Bool},jd f ds es=.ok r->Jj ds=Jj es->r=Θ
 |[],[],r,h,_=>by cases h;rfl
 |[],_::_,_,_,h=>by rw[Jj,Jj]at h;cases h
 |_::_,[],_,_,h=>by rw[Jj,Jj]at h;cases h
 |a::ds,b::es,r,h,h'=>by rw[Jj,Jj]at h';injection h' with e1 e2;obtain⟨x,hx,h⟩:=iZ (show Ii (f a b) (fun x=>Ii (jd f ds es) fun y=>.ok (x&&y))=.ok r from h);obtain⟨y,hy,h⟩:=iZ h;cases h;rw[hf a b x hx e1,jD hf hy e2];rfl
theorem kE:∀(n:Nat) (d e:D) (r:Bool),JR n d e=.ok r->er d=er e->r=Θ
 |0,_,_,_,h,_=>by cases h
 |n+1,d,e,r,h,h'=>by
  induction d using zD with
  |tup ds=>
   induction e using zD with
   |tup es=>rw[er,er]at h';injection h' with e1;exact jD (kE n) h e1
   |Iw=>rw[er,er]at h';cases h'
   |bl _=>rw[er,er]at h';cases h'
   |int _=>rw[er,er]at h';cases h'
   |str _=>rw[er,er]at h';cases h'
   |lst _ _=>rw[er,er]at h';cases h'
   |Ju _ _ _=>cases h
   |Jy _ _ _=>cases h
  |lst o ds=>
   induction e using zD with
   |lst o' es=>rw[er,er]at h';injection h' with _ e1;exact jD (kE n) h e1
   |Iw=>rw[er,er]at h';cases h'
   |bl _=>rw[er,er]at h';cases h'
   |int _=>rw[er,er]at h';cases h'
   |str _=>rw[er,er]at h';cases h'
   |tup _=>rw[er,er]at h';cases h'
   |Ju _ _ _=>cases h
   |Jy _ _ _=>cases h
  |Ju _ _ _=>induction e using zD<;>cases h
  |Jy _ _ _=>induction e using zD<;>cases h
  |Iw=>induction e using zD<;>first|(cases h;done)|(cases h;rfl)|(exfalso;simp[er]at h')
  |bl b=>induction e using zD<;>first|(simp only[er,D.bl.injEq]at h';subst h';cases h;simp)|(exfalso;simp[er]at h')
  |int b=>induction e using zD<;>first|(simp only[er,D.int.injEq]at h';subst h';cases h;simp)|(exfalso;simp[er]at h')
  |str b=>induction e using zD<;>first|(simp only[er,D.str.injEq]at h';subst h';cases h;simp)|(exfalso;simp[er]at h')
theorem qj {f:D->D->Res Bool}:∀ {ds es:List D}{r:Bool},jd f ds es=.ok r->ds.length≠es.length->r=Ξ
 |[],[],_,_,h=>absurd rfl h
 |[],_::_,_,h,_=>by cases h;rfl
 |_::_,[],_,h,_=>by cases h;rfl
 |a::ds,b::es,r,h,n=>by obtain⟨x,hx,h⟩:=iZ (show Ii (f a b) (fun x=>Ii (jd f ds es) fun y=>.ok (x&&y))=.ok r from h);obtain⟨y,hy,h⟩:=iZ h;cases h;rw[qj hy (fun z=>n (by rw[List.length_cons,List.length_cons,z]))];simp
theorem sC {f:D->D->Res Bool}:∀ {ds es:List D}{r:Bool},jd f ds es=.ok r->ds.length=es.length->
  ∃e:Nat->Bool,(∀j a b,ds[j]? = Δ a->es[j]? = Δ b->f a b=.ok (e j))/\r=(List.range ds.length).all e
 |[],[],r,h,_=>by cases h;exact⟨fun _=>Θ,fun j a b h=>by simp at h,rfl⟩
 |[],_::_,_,_,h=>by cases h
 |_::_,[],_,_,h=>by cases h
 |a::ds,b::es,r,h,n=>by
  obtain⟨x,hx,h⟩:=iZ (show Ii (f a b) (fun x=>Ii (jd f ds es) fun y=>.ok (x&&y))=.ok r from h);obtain⟨y,hy,h⟩:=iZ h;cases h;obtain⟨e,h1,h2⟩:=sC hy (by simpa using n);refine⟨fun j=>match j with|0=>x|k+1=>e k,fun j a' b' e1 e2=>?_,?_⟩
  ·cases j with
   |zero=>simp at e1 e2;subst e1 e2;exact hx
   |succ k=>exact h1 k a' b' (by simpa using e1) (by simpa using e2)
  ·rw[h2,List.length_cons,List.range_succ_eq_map,List.all_cons,List.all_map];rfl
section
variable {X:Cx}{pins:List (Ω×Obj)}{σ:St}{H:Hp}{S:Ω->Prop}{s:Α}
structure OF (A:Ι)(s:Α)(v u:Ψ)(r:Bool):Prop where
 eq:EqAt A s v u r
 rc:RcAt A s v u r
 ne:RcNeAt A s v u (!r)
theorem ql (n:Nat)(A:Ι)(ih:∀(x y:V)(v u:Ψ)(d e:D)(r:Bool),Iq X.K S H x d->Iq X.K S H y e->RelV x v->RelV y u->JR n d e=.ok r->EqAt A.in1 s v u r)
  {xs ys:List V}{ds es:List D}{its its':List Ψ}{r:Bool} (rv:Vals xs its) (NJ:Vals ys its') (h2:Io X.K S H xs ds) (k2:Io X.K S H ys es) (hr:jd (JR n) ds es=.ok r) :
  ∃e:Nat->Bool,(∀j (q1:j < its.toArray.size) (q2:j < its'.toArray.size),EqAt A.in1 s its.toArray[j] its'.toArray[j] (e j))/\r=((List.range (min its.toArray.size its'.toArray.size)).all e&&its.toArray.size == its'.toArray.size):=by
 have l1:=h2.length;have l2:=k2.length;have l3:=rv.length;have l4:=NJ.length;have pair:∀j (j1:j < its.toArray.size) (j2:j < its'.toArray.size) (b:Bool) (d1:j < ds.length) (d2:j < es.length),JR n ds[j] es[j]=.ok b->EqAt A.in1 s its.toArray[j] its'.toArray[j] b:=by
  intro j j1 j2 b d1 d2 hb;obtain⟨x',e1,m1⟩:=h2.get (i:=j) (d:=ds[j]) (by simp);obtain⟨y',e2,m2⟩:=k2.get (i:=j) (d:=es[j]) (by simp);obtain⟨v',ev,NH⟩:=rv.get e1;obtain⟨u',eu,T3⟩:=NJ.get e2;have hv:its.toArray[j]=v':=by have:=(E_.mp ev).2;simpa using this
  have SF:its'.toArray[j]=u':=by have:=(E_.mp eu).2;simpa using this
  rw[hv,SF];exact ih x' y' v' u' _ _ _ m1 m2 NH T3 hb
 have z1:its.toArray.size=ds.length:=by simp;omega
 have z2:its'.toArray.size=es.length:=by simp;omega
 by_cases hl:ds.length=es.length
 ·obtain⟨e,q1,q2⟩:=sC hr hl;refine⟨e,fun j j1 j2=>pair j j1 j2 _ (by omega) (by omega) (q1 j _ _ (by simp) (by simp)),?_⟩;rw[q2,z1,z2,hl];simp
 ·have Mm:=qj hr hl;have each:∀(ds es:List D) (r:Bool),jd (JR n) ds es=.ok r->∀j (q1:j < ds.length) (q2:j < es.length),∃b,JR n ds[j] es[j]=.ok b:=by
   intro ds
   induction ds with
   |nil=>intro es r _ j q1;simp at q1
   |cons a ds ih=>
    intro es r h j q1 q2;cases es with
    |nil=>simp at q2
    |cons b es=>
     obtain⟨x,hx,h⟩:=iZ (show Ii (JR n a b) (fun x=>Ii (jd (JR n) ds es) fun y=>.ok (x&&y))=.ok r from h);obtain⟨y,hy,h⟩:=iZ h;cases j with
     |zero=>exact⟨x,hx⟩
     |succ k=>exact ih es y hy k (by simpa using q1) (by simpa using q2)
  refine⟨fun j=>if q:j < ds.length/\j < es.length then((match JR n (ds[j]'q.1) (es[j]'q.2) with|.ok b=>b|.error _=>Ξ)) else Ξ,fun j j1 j2=>?_,?_⟩
  ·have d1:j < ds.length:=by omega
   have d2:j < es.length:=by omega
   obtain⟨b,hb⟩:=each ds es r hr j d1 d2;have q:=pair j j1 j2 b d1 d2 hb;show EqAt A.in1 s its.toArray[j] its'.toArray[j] (dite _ _ _);rw[dif_pos (show j < ds.length/\j < es.length from⟨d1,d2⟩),hb];exact q
  ·rw[Mm];have:(its.toArray.size == its'.toArray.size)=Ξ:=by rw[beq_eq_false_iff_ne,z1,z2];exact hl
   rw[this,Bool.and_false]
theorem v5 (I:Inv X pins σ H s)(n:Nat)(A:Ι)(ih:∀(x y:V)(v u:Ψ)(d e:D)(r:Bool),Iq X.K S H x d->Iq X.K S H y e->RelV x v->RelV y u->JR n d e=.ok r->EqAt A.in1 s v u r)
  {a b:Ω}{o o':Bool}{xs ys:List V}{ds es:List D}{r:Bool} (ha:JX X.K H a xs) (hb:JX X.K H b ys) (h2:Io X.K S H xs ds) (k2:Io X.K S H ys es)
  (m1:Iq X.K S H (.ref a) (.lst o ds)) (m2:Iq X.K S H (.ref b) (.lst o' es)) (hr:jd (JR n) ds es=.ok r) (JD:A.units < cLine):OF A s (.ref a) (.ref b) r:=by
 obtain⟨its,rv,p,_⟩:=I.list ha;obtain⟨its',NJ,p',_⟩:=I.list hb;obtain⟨e,he,Qf⟩:=ql n A ih rv NJ h2 k2 hr;have both:RcAt A s (.ref a) (.ref b) r/\RcNeAt A s (.ref a) (.ref b) (!r):=by
  by_cases hl:its.toArray.size=its'.toArray.size
  ·have Pk:r=(List.range its.toArray.size).all e:=by rw[Qf,<- hl,Nat.min_self];simp
   rw[Pk];exact⟨.lists p.isList p'.isList hl JD he,.lists p.isList p'.isList hl JD he⟩
  ·have Kx:(its.toArray.size != its'.toArray.size)=Θ:=by simpa using hl
   have Pk:r=Ξ:=by
    rw[Qf];have:(its.toArray.size == its'.toArray.size)=Ξ:=by rw[beq_eq_false_iff_ne];exact hl
    rw[this,Bool.and_false]
   rw[Pk];exact⟨.lists_lengths p.isList p'.isList Kx JD,.lists_lengths p.isList p'.isList Kx JD⟩
 refine⟨?_,both.1,both.2⟩;by_cases Q7:a=b
 ·subst Q7;have hd:=Iq.one I m1 m2;rw[er,er]at hd;injection hd with _ hd;rw[jD (kE n) hr hd];exact .same _
 ·exact .of_refs Q7 both.1
set_option maxHeartbeats 4000000 in
theorem oF (I:Inv X pins σ H s):∀(n:Nat) (A:Ι) (x y:V) (v u:Ψ) (d e:D) (r:Bool),Iq X.K S H x d->Iq X.K S H y e->RelV x v->RelV y u->JR n d e=.ok r->
  A.units+n < cLine->OF A s v u r
 |0,_,_,_,_,_,_,_,_,_,_,_,_,h,_=>by cases h
 |n+1,A,x,y,v,u,d,e,r,hx,hy,rx,ry,h,hu=>by
  have JD:A.units < cLine:=by omega
  have T2:A.in1.units+n < cLine:=by show A.units+1+n < cLine;omega
  have ih:∀(x y:V) (v u:Ψ) (d e:D) (r:Bool),Iq X.K S H x d->Iq X.K S H y e->RelV x v->RelV y u->JR n d e=.ok r->EqAt A.in1 s v u r:=
   fun x y v u d e r a1 a2 a3 a4 a5=>(oF I n A.in1 x y v u d e r a1 a2 a3 a4 a5 T2).eq
  induction d using zD with
  |Iw=>
   cases hx.Ku;cases rx
   induction e using zD with
   |Iw=>cases hy.Ku;cases ry;cases h;exact⟨.same _,.none_none,.none_none⟩
   |bl b'=>cases hy.MU;cases ry;cases h;exact⟨.none_bool _,.none_bool _,.none_bool _⟩
   |int i'=>cases hy.Jv;obtain⟨t2,rfl⟩:=ry;cases h;exact⟨.none_int _ _,.none_int _ _,.none_int _ _⟩
   |str z'=>cases hy.JH;obtain⟨t2,rfl⟩:=ry;cases h;exact⟨.none_str _ _,.none_str _ _,.none_str _ _⟩
   |tup es=>obtain⟨a2,Nu,rfl,q2,m2⟩:=hy.J9;cases ry;obtain⟨JQ,LY,p2,_⟩:=I.tuple q2;cases h;exact⟨.none_tuple p2 JD,.none_tuple p2 JD,.none_tuple p2 JD⟩
   |lst o' es=>obtain⟨a2,Nu,rfl,q2,m2⟩:=hy.JK;cases ry;obtain⟨JQ,LY,p2,_⟩:=I.list q2;cases h;exact⟨.none_list p2.isList JD,.none_list p2.isList JD,.none_list p2.isList JD⟩
   |Ju _ _ _=>cases h
   |Jy _ _ _=>cases h
  |bl b=>
   cases hx.MU;cases rx
   induction e using zD with
   |Iw=>cases hy.Ku;cases ry;cases h;exact⟨.bool_none _,.bool_none _,.bool_none _⟩
   |bl b'=>cases hy.MU;cases ry;cases h;exact⟨.bool_bool _ _,.bool_bool _ _,.bool_bool _ _⟩
   |int i'=>cases hy.Jv;obtain⟨t2,rfl⟩:=ry;cases h;exact⟨.bool_int _ _ _,.bool_int _ _ _,.bool_int _ _ _⟩
   |str z'=>cases hy.JH;obtain⟨t2,rfl⟩:=ry;cases h;exact⟨.bool_str _ _ _,.bool_str _ _ _,.bool_str _ _ _⟩
   |tup es=>obtain⟨a2,Nu,rfl,q2,m2⟩:=hy.J9;cases ry;obtain⟨JQ,LY,p2,_⟩:=I.tuple q2;cases h;exact⟨.bool_tuple _ p2 JD,.bool_tuple _ p2 JD,.bool_tuple _ p2 JD⟩
   |lst o' es=>obtain⟨a2,Nu,rfl,q2,m2⟩:=hy.JK;cases ry;obtain⟨JQ,LY,p2,_⟩:=I.list q2;cases h;exact⟨.bool_list _ p2.isList JD,.bool_list _ p2.isList JD,.bool_list _ p2.isList JD⟩
   |Ju _ _ _=>cases h
   |Jy _ _ _=>cases h
  |int i=>
   cases hx.Jv;obtain⟨t1,rfl⟩:=rx
   induction e using zD with
   |Iw=>cases hy.Ku;cases ry;cases h;exact⟨.int_none _ _,.int_none _ _,.int_none _ _⟩
   |bl b'=>cases hy.MU;cases ry;cases h;exact⟨.int_bool _ _ _,.int_bool _ _ _,.int_bool _ _ _⟩
   |int i'=>cases hy.Jv;obtain⟨t2,rfl⟩:=ry;cases h;exact⟨.int_int _ _ _ _,.int_int _ _ _ _,.int_int _ _ _ _⟩
   |str z'=>cases hy.JH;obtain⟨t2,rfl⟩:=ry;cases h;exact⟨.int_str _ _ _ _,.int_str _ _ _ _,.int_str _ _ _ _⟩
   |tup es=>obtain⟨a2,Nu,rfl,q2,m2⟩:=hy.J9;cases ry;obtain⟨JQ,LY,p2,_⟩:=I.tuple q2;cases h;exact⟨.int_tuple _ _ p2 JD,.int_tuple _ _ p2 JD,.int_tuple _ _ p2 JD⟩
   |lst o' es=>obtain⟨a2,Nu,rfl,q2,m2⟩:=hy.JK;cases ry;obtain⟨JQ,LY,p2,_⟩:=I.list q2;cases h;exact⟨.int_list _ _ p2.isList JD,.int_list _ _ p2.isList JD,.int_list _ _ p2.isList JD⟩
   |Ju _ _ _=>cases h
   |Jy _ _ _=>cases h
  |str z=>
   cases hx.JH;obtain⟨t1,rfl⟩:=rx
   induction e using zD with
   |Iw=>cases hy.Ku;cases ry;cases h;exact⟨.str_none _ _,.str_none _ _,.str_none _ _⟩
   |bl b'=>cases hy.MU;cases ry;cases h;exact⟨.str_bool _ _ _,.str_bool _ _ _,.str_bool _ _ _⟩
   |int i'=>cases hy.Jv;obtain⟨t2,rfl⟩:=ry;cases h;exact⟨.str_int _ _ _ _,.str_int _ _ _ _,.str_int _ _ _ _⟩
   |str z'=>cases hy.JH;obtain⟨t2,rfl⟩:=ry;cases h;exact⟨.str_str _ _ _ _,.str_str _ _ _ _,.str_str _ _ _ _⟩
   |tup es=>obtain⟨a2,Nu,rfl,q2,m2⟩:=hy.J9;cases ry;obtain⟨JQ,LY,p2,_⟩:=I.tuple q2;cases h;exact⟨.str_tuple _ _ p2 JD,.str_tuple _ _ p2 JD,.str_tuple _ _ p2 JD⟩
   |lst o' es=>obtain⟨a2,Nu,rfl,q2,m2⟩:=hy.JK;cases ry;obtain⟨JQ,LY,p2,_⟩:=I.list q2;cases h;exact⟨.str_list _ _ p2.isList JD,.str_list _ _ p2.isList JD,.str_list _ _ p2.isList JD⟩
   |Ju _ _ _=>cases h
   |Jy _ _ _=>cases h
  |tup ds=>
   obtain⟨a1,Yh,rfl,q1,m1⟩:=hx.J9;cases rx;obtain⟨Ni,NH,p1,_⟩:=I.tuple q1
   induction e using zD with
   |Iw=>cases hy.Ku;cases ry;cases h;exact⟨.tuple_none p1 JD,.tuple_none p1 JD,.tuple_none p1 JD⟩
   |bl b'=>cases hy.MU;cases ry;cases h;exact⟨.tuple_bool _ p1 JD,.tuple_bool _ p1 JD,.tuple_bool _ p1 JD⟩
   |int i'=>cases hy.Jv;obtain⟨t2,rfl⟩:=ry;cases h;exact⟨.tuple_int _ _ p1 JD,.tuple_int _ _ p1 JD,.tuple_int _ _ p1 JD⟩
   |str z'=>cases hy.JH;obtain⟨t2,rfl⟩:=ry;cases h;exact⟨.tuple_str _ _ p1 JD,.tuple_str _ _ p1 JD,.tuple_str _ _ p1 JD⟩
   |tup es=>
    have KP:=hx;have Pe:=hy;obtain⟨a2,Nu,rfl,q2,m2⟩:=hy.J9;cases ry;obtain⟨JQ,LY,p2,_⟩:=I.tuple q2;have hr:jd (JR n) ds es=.ok r:=h;obtain⟨e,he,Qf⟩:=ql n A ih NH LY m1 m2 hr;refine⟨?_,?_,?_⟩
    ·by_cases Q7:a1=a2
     ·subst Q7;have hd:=Iq.one I KP Pe;rw[er,er]at hd;injection hd with hd;rw[jD (kE n) hr hd];exact .same _
     ·rw[Qf];exact .of_refs Q7 (.tuples p1 p2 JD he)
    ·rw[Qf];exact .tuples p1 p2 JD he
    ·rw[Qf];exact .tuples p1 p2 JD he
   |lst o' es=>obtain⟨a2,Nu,rfl,q2,m2⟩:=hy.JK;cases ry;obtain⟨JQ,LY,p2,_⟩:=I.list q2;cases h;exact⟨.tuple_list p1 p2.isList JD,.tuple_list p1 p2.isList JD,.tuple_list p1 p2.isList JD⟩
   |Ju _ _ _=>cases h
   |Jy _ _ _=>cases h
  |lst o ds=>
   obtain⟨a1,Yh,rfl,q1,m1⟩:=hx.JK;cases rx;obtain⟨Ni,NH,p1,_⟩:=I.list q1
   induction e using zD with
   |Iw=>cases hy.Ku;cases ry;cases h;exact⟨.list_none p1.isList JD,.list_none p1.isList JD,.list_none p1.isList JD⟩
   |bl b'=>cases hy.MU;cases ry;cases h;exact⟨.list_bool _ p1.isList JD,.list_bool _ p1.isList JD,.list_bool _ p1.isList JD⟩
   |int i'=>cases hy.Jv;obtain⟨t2,rfl⟩:=ry;cases h;exact⟨.list_int _ _ p1.isList JD,.list_int _ _ p1.isList JD,.list_int _ _ p1.isList JD⟩
   |str z'=>cases hy.JH;obtain⟨t2,rfl⟩:=ry;cases h;exact⟨.list_str _ _ p1.isList JD,.list_str _ _ p1.isList JD,.list_str _ _ p1.isList JD⟩
   |tup es=>obtain⟨a2,Nu,rfl,q2,m2⟩:=hy.J9;cases ry;obtain⟨JQ,LY,p2,_⟩:=I.tuple q2;cases h;exact⟨.list_tuple p1.isList p2 JD,.list_tuple p1.isList p2 JD,.list_tuple p1.isList p2 JD⟩
   |lst o' es=>have KP:=hx;have Pe:=hy;obtain⟨a2,Nu,rfl,q2,m2⟩:=hy.JK;cases ry;obtain⟨JQ,LY,p2,_⟩:=I.list q2;exact v5 I n A ih q1 q2 m1 m2 KP Pe h JD
   |Ju _ _ _=>cases h
   |Jy _ _ _=>cases h
  |Ju _ _ _=>induction e using zD<;>cases h
  |Jy _ _ _=>induction e using zD<;>cases h
end
abbrev nw (S:Ω->Prop)(H:Hp):Ω->Prop:=fun a=>S a∨H a=Φ
abbrev Kk (K:Frag)(S:Ω->Prop)(H:Hp)(Q:VK):D->Prop:=fun d=>∀w H',gJ H H'->Iq K (nw S H) H' w d->Q w H'
theorem Iq.nw {K:Frag}{S:Ω->Prop}{H:Hp}{v:V}{d:D}(h:Iq K S H v d):Iq K (nw S H) H v d:=h.mono (fun _=>.inl) (.refl _)
theorem CZ {K:Frag}{S:Ω->Prop}{H:Hp}{p:Ω}{vs:List V}{ds:List D}(hp:H p=Φ)(h:Io K S H vs ds):Iq K (nw S H) (upd H p (.tup vs)) (.ref p) (.tup ds):=
 .tup (.inl (.inl gI)) (h.mono (fun _=>.inl) (.upd hp))
theorem uz {K:Frag}{S:Ω->Prop}{H:Hp}{p:Ω}{vs:List V}{ds:List D}{o:Bool}(hp:H p=Φ)(h:Io K S H vs ds):Iq K (nw S H) (upd H p (.lst vs)) (.ref p) (.lst o ds):=
 .lst (.inr hp) (.inl gI) (h.mono (fun _=>.inl) (.upd hp))
noncomputable def Ob:Nn->Operator
 |.add=>.Add|.sub=>.Sub|.mul=>.Mult|.fdiv=>.FloorDiv|.mod=>.Mod|.pow=>.Pow
noncomputable def LH:MG->CmpOp
 |.eq=>.Eq|.ne=>.NotEq|.lt=>.Lt|.le=>.LtE|.gt=>.Gt|.ge=>.GtE|.Lp=>.In|.Q4=>.NotIn|.Np=>.Is|.MV=>.IsNot
def HD (K:Frag)(op:Nn):R2:=fun x y H Q=>∃S d e,Iq K S H x d/\Iq K S H y e/\Ip (Le op d e) (Kk K S H Q)
def HE (K:Frag)(op:MG):R2:=fun x y H Q=>∃S d e,Iq K S H x d/\Iq K S H y e/\Ip (Kl op d e) fun r=>Q (.bl r) H
section
variable {X:Cx}
theorem iI {n:Nat}(h:iu n=Θ):n<=Ζ:=u_ h
theorem kF {n:Nat}(h:i4 n=Θ):n < Ζ:=u_ h
theorem sD:Ll X (binaryOp .Add) (fun x y H Q=>∃l b xs zs,x=.ref l/\y=.ref b/\Ls X.K H l xs/\Ls X.K H b zs/\xs.length+zs.length<=Ζ/\∀p,H p=Φ->Q (.ref p) (upd H p (.lst (xs++zs)))):=by
 intro pins s σ H x y v u Q I rx ry h;obtain⟨l,b,xs,zs,rfl,rfl,hH,hB,hz,q⟩:=h;cases rx;cases ry;obtain⟨hl,its,n,r,e⟩:=I.ls hH;obtain⟨Qe,JQ,n2,r2,e'⟩:=I.ls hB;have e1:=r.length;have e2:=r2.length;refine PySem.P.add_list e e' ?_ (by rw[D_,D_];omega);have ea:its.toArray++JQ.toArray=(its++JQ).toArray:=by simp
 rw[ea];exact⟨.ref _,_,I.O1 (t':=s.toks) (r.append r2) (by rw[g_];omega),rfl,q _ I.fresh⟩
theorem v7 {vs:List V}{its:List Ψ}(r:Vals vs its):∀k:Nat,Vals (Τ k vs).flatten (Τ k its).flatten:=r.rep
theorem zN:Ll X (binaryOp .Mult) (fun x y H Q=>∃l k xs,x=.ref l/\y=.int k/\Ls X.K H l xs/\0<=k/\k<=16000/\xs.length<=1000/\∀p,H p=Φ->Q (.ref p) (upd H p (.lst (Τ k.toNat xs).flatten))):=by
 intro pins s σ H x y v u Q I rx ry h;obtain⟨l,k,xs,rfl,rfl,hH,h1,h2,hx,q⟩:=h;cases rx;obtain⟨t,rfl⟩:=ry;obtain⟨hl,its,n,r,e⟩:=I.ls hH;have el:=r.length;have hz:xs.length*k.toNat<=1000*16000:=Nat.mul_le_mul hx (by omega);have big:1000*16000<=Ζ:=by decide
 have hsz:its.toArray.size*k.toNat<=Ζ:=by rw[D_,<- el];omega
 have c1:¬its.toArray.size*k.toNat > (2 ^ 63 - 1) / 8:=by
  have:(Ζ:Nat)<=(2 ^ 63 - 1) / 8:=by decide
  omega
 have c2:¬(!Builtin.List.listFitsIndex k)=Θ:=by rw[fitsIndex_both (by omega) (by omega)];exact p_
 have c3:¬Builtin.List.listTooLong (its.toArray.size*k.toNat)=Θ:=by rw[pV hsz];exact p_
 have f0:∀m:Nat,List.foldl (fun a b=>a++b) #[] (Τ m its.toArray)=(Τ m its).flatten.toArray:=fun m=>by have z:=foldl_rep its m [];rw[List.nil_append]at z;exact z
 have f1:List.foldl (fun a b=>a++b) #[] (Τ (if its.toArray.isEmpty=Θ then 0 else k.toNat) its.toArray)=(Τ k.toNat its).flatten.toArray:=by
  rw[f0];cases its with
  |nil=>simp
  |cons _ _=>rw[d_ (by simp)]
 refine wpAny_binaryOp_repeat_ref (T:="list") (U:="int") (by decide) ⟨_,e,rfl⟩ (fun s'=>typeIs_int s' k t) noFill_list_mul F.fills_int_mul F.slot_int_rmul repeat_list F.slot_int_index.lookup (call_meets F.slot_int_rmul (typeIs_int s k t) F.entry_int_rmul (F.args_int_rmul_2 _ _) (int___rmul___int_list k t l its.toArray n) ⟨e,rfl,⟨_,e,rfl⟩,call_meets F.slot_list_mul ⟨_,e,rfl⟩ F.entry_list_mul (F.args_list_mul_2 _ _) (AutoListH.list___mul___list_int_3 l its.toArray n k t c2 c1 c3) ⟨e,?_⟩⟩);rw[f1];exact⟨.ref _,_,I.O1 (t':=s.toks) (v7 r k.toNat) (by rw[len_rep,Nat.mul_comm];omega),rfl,q _ I.fresh⟩
theorem C1 (op:Nn):Ll X (binaryOp (Ob op)) (HD X.K op):=by
 intro pins s σ H x y v u Q I rx ry h;obtain⟨S,d,e,hx,hy,h⟩:=h;have stuck:∀ {P:Prop},Le op d e=Ji->P:=fun z=>by rw[z]at h;exact h.no.elim
 cases op with
 |add=>
  induction d using zD with
  |int a=>
   induction e using zD with
   |int b=>cases hx.Jv;cases hy.Jv;exact Cf pins s σ H _ _ v u Q I rx ry ⟨a,b,rfl,rfl,h.ok _ _ (.refl _) (.int _)⟩
   |_=>exact stuck rfl
  |str a=>
   induction e using zD with
   |str b=>cases hx.JH;cases hy.JH;obtain⟨g,h⟩:=Ip.Iy h;exact qY pins s σ H _ _ v u Q I rx ry ⟨a,b,rfl,rfl,iI g,h.ok _ _ (.refl _) (.str _)⟩
   |_=>exact stuck rfl
  |lst o a=>
   induction e using zD with
   |lst o' b=>obtain⟨p,xs,rfl,q1,m1⟩:=hx.Oa;obtain⟨p',ys,rfl,q2,m2⟩:=hy.Oa;obtain⟨g,h⟩:=Ip.Iy h;have g':=iI g;have l1:=m1.length;have l2:=m2.length;exact sD pins s σ H _ _ v u Q I rx ry ⟨p,p',xs,ys,rfl,rfl,q1,q2,by omega,fun z hz=>h.ok _ _ (.upd hz) (uz hz (m1.append m2))⟩
   |_=>exact stuck rfl
  |_=>exact stuck rfl
 |sub=>
  induction d using zD with
  |int a=>
   induction e using zD with
   |int b=>cases hx.Jv;cases hy.Jv;exact Cg pins s σ H _ _ v u Q I rx ry ⟨a,b,rfl,rfl,h.ok _ _ (.refl _) (.int _)⟩
   |_=>exact stuck rfl
  |_=>exact stuck rfl
 |mul=>
  induction d using zD with
  |int a=>
   induction e using zD with
   |int b=>cases hx.Jv;cases hy.Jv;obtain⟨g,h⟩:=Ip.Iy h;rw[aae]at g;exact Ci pins s σ H _ _ v u Q I rx ry ⟨a,b,rfl,rfl,g.elim (fun z=>.inl (u_ z)) (fun z=>.inr (u_ z)),h.ok _ _ (.refl _) (.int _)⟩
   |_=>exact stuck rfl
  |str a=>
   induction e using zD with
   |int b=>cases hx.JH;cases hy.Jv;obtain⟨g,h⟩:=Ip.Iy h;have g':=u_ g;exact ra pins s σ H _ _ v u Q I rx ry ⟨a,b,rfl,rfl,g'.1,g'.2.1,g'.2.2,h.ok _ _ (.refl _) (.str _)⟩
   |_=>exact stuck rfl
  |lst _ _=>cases e<;>exact stuck rfl
  |_=>exact stuck rfl
 |fdiv=>
  induction d using zD with
  |int a=>
   induction e using zD with
   |int b=>cases hx.Jv;cases hy.Jv;obtain⟨g,h⟩:=Ip.Iy h;exact yY pins s σ H _ _ v u Q I rx ry ⟨a,b,rfl,rfl,show 0 < b/\b < 1073741824 from u_ g,h.ok _ _ (.refl _) (.int _)⟩
   |_=>exact stuck rfl
  |_=>exact stuck rfl
 |mod=>
  induction d using zD with
  |int a=>
   induction e using zD with
   |int b=>cases hx.Jv;cases hy.Jv;obtain⟨g,h⟩:=Ip.Iy h;exact Cj pins s σ H _ _ v u Q I rx ry ⟨a,b,rfl,rfl,u_ g,h.ok _ _ (.refl _) (.int _)⟩
   |_=>exact stuck rfl
  |_=>exact stuck rfl
 |pow=>
  induction d using zD with
  |int a=>
   induction e using zD with
   |int b=>cases hx.Jv;cases hy.Jv;obtain⟨g,h⟩:=Ip.Iy h;exact Ck pins s σ H _ _ v u Q I rx ry ⟨a,b,rfl,rfl,show 0<=b/\b<=1000000/\a.natAbs < 2 ^ 64 from u_ g,h.ok _ _ (.refl _) (.int _)⟩
   |_=>exact stuck rfl
  |_=>exact stuck rfl
theorem Ip.JR {n:Nat}{d e:D}{k:Bool->Prop}(h:Ip (L2.JR n d e) k):∃r,L2.JR n d e=.ok r/\k r:=by
 cases q:L2.JR n d e with
 |ok r=>rw[q]at h;exact⟨r,rfl,h⟩
 |error z=>rw[q]at h;cases z;exact h.no.elim
theorem Ip.Jx {d:D}:∀ {ds:List D}{k:Bool->Prop},Ip (L2.Jx d ds) k->∃f:Nat->Bool,(∀i e,ds[i]? = Δ e->L2.JR 40 e d=.ok (f i))/\k ((List.range ds.length).any f)
 |[],k,h=>⟨fun _=>Ξ,fun i e z=>by simp at z,h⟩
 |e::r,k,h=>by
  obtain⟨x,Vy,h1⟩:=Ip.JR (Ip.Ii h);obtain⟨f,h2,h3⟩:=Ip.Jx (Ip.Ii h1);refine⟨fun i=>match i with|0=>x|j+1=>f j,fun i e' z=>?_,?_⟩
  ·cases i with
   |zero=>simp at z;subst z;exact Vy
   |succ j=>exact h2 j e' (by simpa using z)
  ·rw[List.length_cons,List.range_succ_eq_map,List.any_cons,List.any_map];exact h3
theorem rG {A:Ι}{s:Α}{v:Ψ}(its:List Ψ)(f:Nat->Bool)(h:∀i u,its[i]? = Δ u->EqAt A s u v (f i)) :
  ∃e:Ψ->Bool,(∀y,y∈its.toArray->EqAt A s y v (e y))/\its.toArray.any e=(List.range its.length).any f:=by
 classical
 refine⟨fun y=>decide (∃i,its[i]? = Δ y/\f i=Θ),fun y hy=>?_,?_⟩
 ·have Pe:y∈its:=by simpa using hy
  obtain⟨j,hj⟩:=List.getElem?_of_mem Pe;show EqAt A s y v (decide (∃i,its[i]? = Δ y/\f i=Θ));by_cases q:∃i,its[i]? = Δ y/\f i=Θ
  ·rw[B_ q];obtain⟨i,hi,fi⟩:=q;have:=h i y hi;rw[fi]at this;exact this
  ·rw[H_ q];have:=h j y hj;have fj:f j=Ξ:=by
    cases z:f j with
    |false=>rfl
    |true=>exact absurd ⟨j,hj,z⟩ q
   rw[fj]at this;exact this
 ·rw[Bool.eq_iff_iff];simp only[List.any_toArray,List.any_eq_true,aai,decide_eq_true_eq];constructor
  ·rintro⟨y,hy,i,hi,fi⟩;exact⟨i,(E_.mp hi).1,fi⟩
  ·rintro⟨i,hi,fi⟩;exact⟨its[i],aat hi,i,by simp[hi],fi⟩
theorem jZ (hu:X.A.units+42 < cLine){pins:List (Ω×Obj)}{s:Α}{σ:St}{H:Hp}{S:Ω->Prop}{x:V}{v:Ψ}{d:D}{k:Bool->Prop}(I:Inv X pins σ H s)(rx:RelV x v)(hx:Iq X.K S H x d)
  {xs:List V}{its:List Ψ}{ds:List D} (rv:Vals xs its) (m:Io X.K S H xs ds) (h:Ip (Jx d ds) k) :
  ∃e:Ψ->Bool,(∀y,y∈its.toArray->EqAt X.A.in1 s y v (e y))/\k (its.toArray.any e):=by
 obtain⟨f,h1,h2⟩:=Ip.Jx h;have l1:=rv.length;have l2:=m.length;obtain⟨e,h3,h4⟩:=rG (A:=X.A.in1) (s:=s) (v:=v) its f fun i u hi=>by have JT:i < its.length:=(E_.mp hi).1;obtain⟨y,hy,my⟩:=m.get (i:=i) (d:=ds[i]'(by omega)) (by simp);obtain⟨u',SF,ru⟩:=rv.get hy;rw[hi]at SF;cases SF;exact(oF I 40 X.A.in1 y x u v _ d _ my hx ru rx (h1 i _ (by simp)) (by show X.A.units+1+40 < cLine;omega)).eq
 refine⟨e,h3,?_⟩;rw[h4,show its.length=ds.length by omega];exact h2
theorem lj (hu:X.A.units+42 < cLine)(op:MG):Ll X (compareOp (LH op)) (HE X.K op):=by
 intro pins s σ H x y v u Q I rx ry h;obtain⟨S,d,e,hx,hy,h⟩:=h;have stuck:∀ {P:Prop},Kl op d e=Ji->P:=fun z=>by rw[z]at h;exact h.no.elim
 have fin:∀ {b:Bool},Q (.bl b) H->EP X pins σ Q (.bool b) s:=fun q=>⟨.bl _,H,I,rfl,q⟩
 cases op with
 |eq=>obtain⟨r,h1,h2⟩:=Ip.JR h;exact(oF I 40 X.A x y v u d e r hx hy rx ry h1 (by omega)).rc _ _ _ _ (fin h2)
 |ne=>obtain⟨r,h1,h2⟩:=Ip.JR (Ip.Ii h);exact(oF I 40 X.A x y v u d e r hx hy rx ry h1 (by omega)).ne _ _ _ _ (fin h2.ok)
 |lt=>
  induction d using zD with
  |int a=>
   induction e using zD with
   |int b=>cases hx.Jv;cases hy.Jv;obtain⟨t,rfl⟩:=rx;obtain⟨t',rfl⟩:=ry;exact lt_int (fin h.ok)
   |_=>exact stuck rfl
  |_=>exact stuck rfl
 |le=>
  induction d using zD with
  |int a=>
   induction e using zD with
   |int b=>cases hx.Jv;cases hy.Jv;obtain⟨t,rfl⟩:=rx;obtain⟨t',rfl⟩:=ry;exact le_int (fin h.ok)
   |_=>exact stuck rfl
  |_=>exact stuck rfl
 |gt=>
  induction d using zD with
  |int a=>
   induction e using zD with
   |int b=>cases hx.Jv;cases hy.Jv;obtain⟨t,rfl⟩:=rx;obtain⟨t',rfl⟩:=ry;exact gt_int (fin h.ok)
   |_=>exact stuck rfl
  |_=>exact stuck rfl
 |ge=>
  induction d using zD with
  |int a=>
   induction e using zD with
   |int b=>cases hx.Jv;cases hy.Jv;obtain⟨t,rfl⟩:=rx;obtain⟨t',rfl⟩:=ry;exact ge_int (fin h.ok)
   |_=>exact stuck rfl
  |_=>exact stuck rfl
 |Lp=>
  induction e using zD with
  |str b=>
   induction d using zD with
   |str a=>cases hx.JH;cases hy.JH;obtain⟨t,rfl⟩:=rx;obtain⟨t',rfl⟩:=ry;exact in_str (fin h.ok)
   |_=>exact stuck rfl
  |lst o ds=>obtain⟨a,xs,rfl,q1,m1⟩:=hy.JK;cases ry;obtain⟨its,rv,pl,_⟩:=I.list q1;obtain⟨e,h1,h2⟩:=jZ hu I rx hx rv m1 (by induction d using zD<;>exact h);exact in_listAt e pl.isList h1 (fin h2)
  |tup ds=>obtain⟨a,xs,rfl,q1,m1⟩:=hy.J9;cases ry;obtain⟨its,rv,pl,_⟩:=I.tuple q1;obtain⟨e,h1,h2⟩:=jZ hu I rx hx rv m1 (by induction d using zD<;>exact h);exact in_tupleAt e pl h1 (fin h2)
  |Iw=>induction d using zD<;>exact stuck rfl
  |bl _=>induction d using zD<;>exact stuck rfl
  |int _=>induction d using zD<;>exact stuck rfl
  |Ju _ _ _=>induction d using zD<;>exact stuck rfl
  |Jy _ _ _=>induction d using zD<;>exact stuck rfl
 |Q4=>
  induction e using zD with
  |str b=>
   induction d using zD with
   |str a=>cases hx.JH;cases hy.JH;obtain⟨t,rfl⟩:=rx;obtain⟨t',rfl⟩:=ry;exact notIn_str (fin h.ok)
   |_=>exact stuck rfl
  |lst o ds=>obtain⟨a,xs,rfl,q1,m1⟩:=hy.JK;cases ry;obtain⟨its,rv,pl,_⟩:=I.list q1;obtain⟨e,h1,h2⟩:=jZ (k:=fun r=>Q (.bl !r) H) hu I rx hx rv m1 ((Ip.Ii (show Ip (Ii (Jx d ds) fun r=>.ok !r) (fun r=>Q (.bl r) H) by induction d using zD<;>exact h)).mono fun _ z=>z);exact notIn_listAt e pl.isList h1 (fin h2)
  |tup ds=>obtain⟨a,xs,rfl,q1,m1⟩:=hy.J9;cases ry;obtain⟨its,rv,pl,_⟩:=I.tuple q1;obtain⟨e,h1,h2⟩:=jZ (k:=fun r=>Q (.bl !r) H) hu I rx hx rv m1 ((Ip.Ii (show Ip (Ii (Jx d ds) fun r=>.ok !r) (fun r=>Q (.bl r) H) by induction d using zD<;>exact h)).mono fun _ z=>z);exact notIn_tupleAt e pl h1 (fin h2)
  |Iw=>induction d using zD<;>exact stuck rfl
  |bl _=>induction d using zD<;>exact stuck rfl
  |int _=>induction d using zD<;>exact stuck rfl
  |Ju _ _ _=>induction d using zD<;>exact stuck rfl
  |Jy _ _ _=>induction d using zD<;>exact stuck rfl
 |Np=>
  induction e using zD with
  |Iw=>
   cases hy.Ku;cases ry;have ev:jQ d=(v == Value.none):=by
    cases hx with
    |Iw=>cases rx;rfl
    |bl b=>cases rx;rfl
    |int i=>obtain⟨t,rfl⟩:=rx;rfl
    |str z=>obtain⟨t,rfl⟩:=rx;rfl
    |tup _ _=>cases rx;rfl
    |lst _ _ _=>cases rx;rfl
    |lstK _ _=>cases rx;rfl
    |Ju _ _ _ _=>cases rx;rfl
    |Jy _ _ _ _=>cases rx;rfl
   have h':Q (.bl (jQ d)) H:=by induction d using zD<;>exact h
   rw[ev]at h';exact is_none_gen (fin h')
  |_=>induction d using zD<;>exact stuck rfl
 |MV=>
  induction e using zD with
  |Iw=>
   cases hy.Ku;cases ry;have ev:jQ d=(v == Value.none):=by
    cases hx with
    |Iw=>cases rx;rfl
    |bl b=>cases rx;rfl
    |int i=>obtain⟨t,rfl⟩:=rx;rfl
    |str z=>obtain⟨t,rfl⟩:=rx;rfl
    |tup _ _=>cases rx;rfl
    |lst _ _ _=>cases rx;rfl
    |lstK _ _=>cases rx;rfl
    |Ju _ _ _ _=>cases rx;rfl
    |Jy _ _ _ _=>cases rx;rfl
   have h':Q (.bl (!jQ d)) H:=by induction d using zD<;>exact h
   rw[ev]at h';exact isnot_none_gen (fin h')
  |bl b'=>
   cases hy.MU;cases ry
   induction d using zD with
   |bl b=>
    cases hx.MU;cases rx;have ee:(!(Value.bool b == Value.bool b'))=(b != b'):=by cases b<;>cases b'<;>rfl
    exact wpAny_isNot_plain rfl (by rw[ee];exact fin h)
   |Iw=>cases hx.Ku;cases rx;exact wpAny_isNot_plain rfl (fin h)
   |_=>exact stuck rfl
  |_=>induction d using zD<;>exact stuck rfl
theorem lU {pins:List (Ω×Obj)}{s:Α}{σ:St}{H:Hp}{S:Ω->Prop}{x:V}{v:Ψ}{d:D}{Q:Bool->Hp->Prop}(I:Inv X pins σ H s)(rx:RelV x v)(hx:Iq X.K S H x d)(h:Ip (g8 d) fun b=>Q b H) :
  Κ (Μ X.prog X.w) X.A (truthy v) (TP X pins σ Q) X.xe s:=by
 refine Co pins s σ H x v Q I rx ?_
 induction d using zD with
 |Ju _ _ _=>exact h.no.elim
 |Jy _ _ _=>exact h.no.elim
 |Iw=>cases hx.Ku;exact⟨Ξ,rfl,h⟩
 |bl b=>cases hx.MU;exact⟨b,rfl,h⟩
 |int i=>cases hx.Jv;exact⟨_,rfl,h⟩
 |str z=>cases hx.JH;obtain⟨g,h⟩:=Ip.Iy h;exact⟨_,⟨iI g,rfl⟩,h⟩
 |tup ds=>obtain⟨a,xs,rfl,q,m⟩:=hx.J9;refine⟨!ds.isEmpty,.inr (.inl ⟨xs,q,?_⟩),h⟩;have:=m.length;cases xs<;>cases ds<;>simp_all
 |lst o ds=>obtain⟨a,xs,rfl,q,m⟩:=hx.JK;refine⟨!ds.isEmpty,.inl ⟨xs,q,?_⟩,h⟩;have:=m.length;cases xs<;>cases ds<;>simp_all
theorem sE {K:Frag}{S:Ω->Prop}{H:Hp}{vs:List V}{ds:List D}{i:Int}{d:D}(m:Io K S H vs ds)(h:Kj ds i=Δ d):∃v,Kj vs i=Δ v/\Iq K S H v d:=by
 unfold Kj at h ⊢;rw[m.length];cases q:OY ds.length i with
 |none=>rw[q]at h;cases h
 |some j=>rw[q]at h;exact m.get h
def HF (K:Frag):R2:=fun x y H Q=>∃S d e,Iq K S H x d/\Iq K S H y e/\Ip (iq d e) (Kk K S H Q)
theorem zO:NF X (HF X.K):=by
 intro value slice pins s σ H x y v u Q I rx ry h hs;obtain⟨S,d,e,hx,hy,h⟩:=h;refine Cr value slice pins s σ H x y v u Q I rx ry ?_ hs;have stuck:∀ {P:Prop},iq d e=Ji->P:=fun z=>by rw[z]at h;exact h.no.elim
 induction e using zD with
 |int i=>
  cases hy.Jv
  induction d using zD with
  |lst o ds=>
   obtain⟨a,xs,rfl,q,m⟩:=hx.JK;have h':Ip (match Kj ds i with|some d=>.ok d|none=>Ji) (Kk X.K S H Q):=h;cases z:Kj ds i with
   |none=>rw[z]at h';exact h'.no.elim
   |some d=>rw[z]at h';obtain⟨w,ew,mw⟩:=sE m z;exact .inl ⟨a,xs,i,w,rfl,rfl,q,ew,h'.ok _ _ (.refl _) mw.nw⟩
  |tup ds=>
   obtain⟨a,xs,rfl,q,m⟩:=hx.J9;have h':Ip (match Kj ds i with|some d=>.ok d|none=>Ji) (Kk X.K S H Q):=h;cases z:Kj ds i with
   |none=>rw[z]at h';exact h'.no.elim
   |some d=>rw[z]at h';obtain⟨w,ew,mw⟩:=sE m z;exact .inr (.inl ⟨a,xs,i,w,rfl,rfl,q,ew,h'.ok _ _ (.refl _) mw.nw⟩)
  |str z=>
   cases hx.JH;obtain⟨g,h⟩:=Ip.Iy h;cases q:Kj z.cps.toList i with
   |none=>rw[q]at h;exact h.no.elim
   |some c=>rw[q]at h;exact .inr (.inr ⟨z,i,c,rfl,rfl,iI g,q,h.ok _ _ (.refl _) (.str _)⟩)
  |_=>exact stuck rfl
 |_=>induction d using zD<;>exact stuck rfl
def HG (K:Frag):V->Option Int->Option Int->Hp->VK->Prop:=fun x lo hi H Q=>∃S d,Iq K S H x d/\Ip (qg d lo hi) (Kk K S H Q)
theorem C2:Sd X (fun x lo hi H Q=>∃z,x=.str z/\z.length<=Ζ/\Q (.str (Txt.slice z lo hi)) H):=by
 intro pins s σ H x v vl vu lo hi sl Q I rx hs pl pu h;obtain⟨z,rfl,hz,q⟩:=h;obtain⟨t,rfl⟩:=rx;refine⟨"str",_,F.slot_str_getitem.lookup,typeIs_str s z t,?_⟩;have fin:∀(l u:Option (Int×Tok)),vl=partValue l->vu=partValue u->l.map (·.1)=lo->u.map (·.1)=hi->Κ (Μ X.prog X.w) X.A (getItem (.str z t) (.ref sl)) (EP X pins σ Q) X.xe s:=by intro l u e1 e2 e3 e4;subst e1 e2 e3 e4;refine wpAny_getItem_str_slice (l:=l) (u:=u) (st:=Φ) hs rfl ?_;exact post_val_or_str ⟨S_ (Txt.slice_le z _ _) hz,fun t' k=>⟨.str _,H,I.tok _,⟨_,rfl⟩,q⟩⟩
 cases pl with
 |none=>
  cases pu with
  |none=>exact fin Φ Φ rfl rfl rfl rfl
  |int j t'=>exact fin Φ (Δ (j,t')) rfl rfl rfl rfl
 |int i t'=>
  cases pu with
  |none=>exact fin (Δ (i,t')) Φ rfl rfl rfl rfl
  |int j Yi=>exact fin (Δ (i,t')) (Δ (j,Yi)) rfl rfl rfl rfl
end
open PySem.W
section
variable {prog:Ε}{w:Β}{A:Ι}{E:Ψ->Α->Prop}{K:Frag}{x C:Ω}{hh:Heap}{g:Array GenState}{d:Drawn}{t:Nat}{os:OsState}
open Builtin Builtin.ObjectAttr Builtin.Getset_descriptor in
end
section
variable {X:Cx}
theorem sF {K:Frag}{S:Ω->Prop}{H:Hp}{vs:List V}{ds:List D}(lo hi:Option Int)(m:Io K S H vs ds):Io K S H (t7 vs lo hi) (jU ds lo hi):=by unfold t7 jU;rw[m.length];exact(m.drop _).take _
theorem zP:Sd X (HG X.K):=by
 intro pins s σ H x v vl vu lo hi sl Q I rx hs pl pu h;obtain⟨S,d,hx,h⟩:=h
 induction d using zD with
 |lst o ds=>obtain⟨a,xs,rfl,q,m⟩:=hx.JK;exact si pins s σ H _ v vl vu lo hi sl Q I rx hs pl pu ⟨a,xs,rfl,q,fun p hp=>h.ok _ _ (.upd hp) (uz hp (sF lo hi m))⟩
 |str z=>cases hx.JH;obtain⟨g,h⟩:=Ip.Iy h;exact C2 pins s σ H _ v vl vu lo hi sl Q I rx hs pl pu ⟨z,rfl,iI g,h.ok _ _ (.refl _) (.str _)⟩
 |_=>exact h.no.elim
theorem qm {ns:List Int}{us:List Ψ}(r:Vals (ns.map V.int) us):IntsAre us ns:=intsAre_of r
theorem qo {ns:List Str}:∀ {us:List Ψ},Vals (ns.map V.str) us->StrsAre us ns:=by
 induction ns with
 |nil=>intro us r;rw[List.map_nil]at r;cases r;exact .nil
 |cons n ns ih=>
  intro us r;rw[b_]at r;cases r with
  |cons r1 r2=>obtain⟨t,e⟩:=r1;subst e;exact .cons n t (ih r2)
theorem jM:∀ {ds:List D}{ns:List Int},ik ds=Δ ns->ds=ns.map .int
 |[],ns,h=>by cases h;rfl
 |.int i::r,ns,h=>by
  have h':(ik r).map (i::·)=Δ ns:=h;cases q:ik r with
  |none=>rw[q]at h';cases h'
  |some ms=>rw[q]at h';cases h';rw[jM q];rfl
 |.Iw::_,_,h=>by cases h
 |.bl _::_,_,h=>by cases h
 |.str _::_,_,h=>by cases h
 |.tup _::_,_,h=>by cases h
 |.lst _ _::_,_,h=>by cases h
theorem jN:∀ {ds:List D}{ns:List Str},ia ds=Δ ns->ds=ns.map .str
 |[],ns,h=>by cases h;rfl
 |.str i::r,ns,h=>by
  have h':(ia r).map (i::·)=Δ ns:=h;cases q:ia r with
  |none=>rw[q]at h';cases h'
  |some ms=>rw[q]at h';cases h';rw[jN q];rfl
 |.Iw::_,_,h=>by cases h
 |.bl _::_,_,h=>by cases h
 |.int _::_,_,h=>by cases h
 |.tup _::_,_,h=>by cases h
 |.lst _ _::_,_,h=>by cases h
theorem lp:∀ {ds:List D}{ns:List Bool},jh ds=Δ ns->ds=ns.map .bl
 |[],ns,h=>by cases h;rfl
 |.bl i::r,ns,h=>by
  have h':(jh r).map (i::·)=Δ ns:=h;cases q:jh r with
  |none=>rw[q]at h';cases h'
  |some ms=>rw[q]at h';cases h';rw[lp q];rfl
 |.Iw::_,_,h=>by cases h
 |.str _::_,_,h=>by cases h
 |.int _::_,_,h=>by cases h
 |.tup _::_,_,h=>by cases h
 |.lst _ _::_,_,h=>by cases h
theorem oG:∀(ns:List Int) (n:Int),n<=iU n ns/\(∀m∈ns,m<=iU n ns)/\iU n ns∈n::ns
 |[],n=>⟨Int.le_refl n,fun m hm=>absurd hm (by simp),t_.mpr rfl⟩
 |a::ns,n=>by
  obtain⟨h1,h2,h3⟩:=oG ns (if n < a then a else n);show n<=iU (if n < a then a else n) ns/\(∀m∈a::ns,m<=iU (if n < a then a else n) ns)/\iU (if n < a then a else n) ns∈n::a::ns;split at h1<;>split<;>first|omega|skip
  ·refine⟨by omega,fun m hm=>?_,?_⟩
   ·rcases k_.mp hm with rfl|hm
    ·exact h1
    ·rename_i q _;rw[e_ q]at h2;exact h2 m hm
   ·rename_i q _;rw[e_ q]at h3;exact w_ _ h3
  ·refine⟨h1,fun m hm=>?_,?_⟩
   ·rcases k_.mp hm with rfl|hm
    ·omega
    ·rename_i q _;rw[d_ q]at h2;exact h2 m hm
   ·rename_i q _;rw[d_ q]at h3
    rcases k_.mp h3 with e|h3
    ·rw[e];exact .head _
    ·exact w_ _ (w_ _ h3)
theorem v8 {its:List Ψ}{ns:List Int}(h:IntsAre its ns):∃ps:List (Int×Tok),its.toArray=intItems ps.toArray/\ps.map (·.1)=ns:=by
 induction h with
 |nil=>exact⟨[],by simp[intItems],rfl⟩
 |cons n t _ ih=>obtain⟨ps,e1,e2⟩:=ih;refine⟨(n,t)::ps,?_,by rw[b_,e2]⟩;unfold intItems at e1 ⊢;have e3:=congrArg Array.toList e1;apply Array.ext';simpa using e3
theorem uA (hc:X.calm=Θ):iD X (.builtin "max") (fun xs H Q=>∃(p:Ω) (n:Int) (ns:List Int),xs=[.ref p]/\JX X.K H p ((n::ns).map V.int)/\Q (.int (iU n ns)) H):=by
 intro pins s σ H xs us Q I r h;obtain⟨p,n,ns,rfl,hq,q⟩:=h;obtain⟨u,rfl,rx⟩:=vals1 r;cases rx;obtain⟨its,rv,pl,hz⟩:=I.list hq;obtain⟨ps,e1,e2⟩:=v8 (qm rv);have hl:ps.length=(n::ns).length:=by rw[<- e2,i_]
 have hp:0 < ps.toArray.size:=by rw[D_,hl];exact Nat.succ_pos _
 refine max_intList (I.ok.hd hc) (xs:=ps.toArray) (by rw[<- e1];exact pl.isList) hp fun v h' tk hv kp=>?_;obtain⟨t,rfl⟩:=intItems_at hv;refine⟨.int (iU n ns),H,I.kept kp,⟨t,?_⟩,q⟩;obtain⟨b1,b2⟩:=argBest_gt (numAt ps.toArray) (ps.toArray.size - 1);generalize argBest (fun i j=>decide (numAt ps.toArray i > numAt ps.toArray j)) (ps.toArray.size - 1)=k at b1 b2 ⊢;have at_:∀j,numAt ps.toArray j=(n::ns).getD j 0:=fun j=>by rw[numAt_eq];simp only[e2]
 obtain⟨m1,m2,m3⟩:=oG ns n;have up:∀m∈n::ns,m<=iU n ns:=fun m hm=>by
  rcases k_.mp hm with rfl|hm
  ·exact m1
  ·exact m2 m hm
 have gd:∀(k:Nat) (h:k < (n::ns).length),(n::ns).getD k 0=(n::ns)[k]:=fun k h=>by rw[aav,R_ h];rfl
 have hk:k < (n::ns).length:=by rw[<- hl,<- D_];omega
 have a1:numAt ps.toArray k<=iU n ns:=by rw[at_];refine up _ ?_;rw[gd k hk];exact aat hk
 obtain⟨j,hj,ej⟩:=List.getElem_of_mem m3;have a2:iU n ns<=numAt ps.toArray k:=by have:=b2 j (by rw[D_,hl];omega);rw[at_ j,gd j hj,ej]at this;exact this
 rw[Int.le_antisymm a1 a2]
theorem uB (hc:X.calm=Θ):iD X (.builtin "all") (fun xs H Q=>∃(p:Ω) (bs:List Bool),xs=[.ref p]/\JX X.K H p (bs.map V.bl)/\Q (.bl (bs.all id)) H):=by
 intro pins s σ H xs us Q I r h;obtain⟨p,bs,rfl,hq,q⟩:=h;obtain⟨u,rfl,rx⟩:=vals1 r;cases rx;obtain⟨its,rv,pl,hz⟩:=I.list hq;have hl:=rv.length;rw[i_]at hl;have JT:p < s.heap.objs.size:=by obtain⟨o,e,_⟩:=pl.isList;exact m_ e
 refine call_all_walk (aad pl.isList ?_);refine⟨s.heap.objs.size,_,_,_,_,_,fun i=>bs.getD i Θ,rfl,Walks.list (A:=X.A.in1) (show X.A.in1.handled=Φ from I.ok.hd hc) s.heap.objs.size p (z_ JT) its.toArray,⟨⟨_,A_ _ rfl,rfl,rfl⟩,?_⟩,?_,?_⟩
 ·obtain⟨o,e,c,n,d⟩:=pl.isList;exact⟨o,n_ _ e,c,n,d⟩
 ·intro i v s' Q' E' hv Ue;have Pl:its[i]? = Δ v:=by simpa using hv
  have Nv:i < bs.length:=by have:=(E_.mp Pl).1;omega
  obtain⟨u,hu,ru⟩:=rv.get (i:=i) (x:=.bl bs[i]) (by rw[L_,R_ Nv];rfl);rw[Pl]at hu;cases hu;cases ru;refine wpAny_truthy_bool ?_;have e:bs.getD i Θ=bs[i]:=by simp[List.getD,Nv]
  rw[<- e];exact Ue
 ·intro h' tk kp;have Ln:(List.range its.toArray.size).all (fun i=>bs.getD i Θ)=bs.all id:=by
   rw[show its.toArray.size=bs.length by simp[hl]];rw[Bool.eq_iff_iff,O_,O_];constructor
   ·intro z b hb;obtain⟨i,hi,rfl⟩:=List.getElem_of_mem hb;have:=z i (aai.mpr hi);simpa[List.getD,hi] using this
   ·intro z i hi;have LZ:=aai.mp hi;have:=z bs[i] (aat LZ);simpa[List.getD,LZ] using this
  rw[Ln];refine⟨.bl (bs.all id),H,I.kept (t':=tk) fun b o e=>kp b o ?_ (n_ _ e),rfl,q⟩;intro hm;have hb:b=s.heap.objs.size:=by simpa using hm
  subst hb;exact absurd (m_ e) (aah _)
theorem uC (hc:X.calm=Θ):iD X (.builtin "any") (fun xs H Q=>∃(p:Ω) (bs:List Bool),xs=[.ref p]/\JX X.K H p (bs.map V.bl)/\Q (.bl (bs.any id)) H):=by
 intro pins s σ H xs us Q I r h;obtain⟨p,bs,rfl,hq,q⟩:=h;obtain⟨u,rfl,rx⟩:=vals1 r;cases rx;obtain⟨its,rv,pl,hz⟩:=I.list hq;have hl:=rv.length;rw[i_]at hl;have JT:p < s.heap.objs.size:=by obtain⟨o,e,_⟩:=pl.isList;exact m_ e
 refine call_any_walk (aad pl.isList ?_);refine⟨s.heap.objs.size,_,_,_,_,_,fun i=>bs.getD i Ξ,rfl,Walks.list (A:=X.A.in1) (show X.A.in1.handled=Φ from I.ok.hd hc) s.heap.objs.size p (z_ JT) its.toArray,⟨⟨_,A_ _ rfl,rfl,rfl⟩,?_⟩,?_,?_⟩
 ·obtain⟨o,e,c,n,d⟩:=pl.isList;exact⟨o,n_ _ e,c,n,d⟩
 ·intro i v s' Q' E' hv Ue;have Pl:its[i]? = Δ v:=by simpa using hv
  have Nv:i < bs.length:=by have:=(E_.mp Pl).1;omega
  obtain⟨u,hu,ru⟩:=rv.get (i:=i) (x:=.bl bs[i]) (by rw[L_,R_ Nv];rfl);rw[Pl]at hu;cases hu;cases ru;refine wpAny_truthy_bool ?_;have e:bs.getD i Ξ=bs[i]:=by simp[List.getD,Nv]
  rw[<- e];exact Ue
 ·intro h' tk kp;have Ln:(List.range its.toArray.size).any (fun i=>bs.getD i Ξ)=bs.any id:=by
   rw[show its.toArray.size=bs.length by simp[hl]];rw[Bool.eq_iff_iff,List.any_eq_true,List.any_eq_true];constructor
   ·rintro⟨i,hi,z⟩;have LZ:=aai.mp hi;exact⟨bs[i],aat LZ,by simpa[List.getD,LZ] using z⟩
   ·rintro⟨b,hb,z⟩;obtain⟨i,hi,rfl⟩:=List.getElem_of_mem hb;exact⟨i,aai.mpr hi,by simpa[List.getD,hi] using z⟩
  rw[Ln];refine⟨.bl (bs.any id),H,I.kept (t':=tk) fun b o e=>kp b o ?_ (n_ _ e),rfl,q⟩;intro hm;have hb:b=s.heap.objs.size:=by simpa using hm
  subst hb;exact absurd (m_ e) (aah _)
noncomputable def jO:Bi->Str
 |.len=>"len" |.sum=>"sum" |.min2=>"min" |.max2=>"max" |.L3=>"max" |.sorted=>"sorted" |.list=>"list" |.tuple=>"tuple" |.ord=>"ord" |.int=>"int" |.all=>"all" |.any=>"any" |.str=>"str" |.set=>"set" |.abs=>"abs"
noncomputable def E7:Bi->Bool
 |.list=>Θ|.tuple=>Θ|.int=>Θ|.str=>Θ|.set=>Θ
 |_=>Ξ
noncomputable def E8:Bi->String
 |.len=>"len" |.sum=>"sum" |.min2=>"min" |.max2=>"max" |.L3=>"max" |.sorted=>"sorted" |.list=>"list" |.tuple=>"tuple" |.ord=>"ord" |.int=>"int" |.all=>"all" |.any=>"any" |.str=>"str" |.set=>"set" |.abs=>"abs"
noncomputable def v9 (f:Bi):Ψ:=if E7 f=Θ then .type (E8 f) else .builtin (E8 f)
theorem sG (f:Bi):bootBuiltins (jO f)=Δ (v9 f):=by cases f<;>decide +kernel
def Wi (K:Frag)(f:Bi):List V->Hp->VK->Prop:=fun xs H Q=>∃S ds,Io K S H xs ds/\Ip (jy f ds) (Kk K S H Q)
theorem Io.Pm {K:Frag}{S:Ω->Prop}{H:Hp}{xs:List V}{d:D}(h:Io K S H xs [d]):∃x,xs=[x]/\Iq K S H x d:=by
 cases h with
 |cons h1 h2=>cases h2;exact⟨_,rfl,h1⟩
theorem Io.Ug {K:Frag}{S:Ω->Prop}{H:Hp}{xs:List V}{d e:D}(h:Io K S H xs [d,e]):∃x y,xs=[x,y]/\Iq K S H x d/\Iq K S H y e:=by
 cases h with
 |cons h1 h2=>
  cases h2 with
  |cons h3 h4=>cases h4;exact⟨_,_,rfl,h1,h3⟩
theorem uD {K:Frag}{S:Ω->Prop}{H:Hp}(z:Str):Io K S H (kX z) (jV z):=by
 unfold kX jV
 induction z.cps.toList with
 |nil=>exact .nil
 |cons c cs ih=>exact .cons (.str _) ih
theorem kG {K:Frag}{S:Ω->Prop}{H:Hp}:∀kvs:List (Key×V),Io K S H (kvs.map fun q=>kV q.1) ((kvs.map (·.1)).map E2)
 |[]=>.nil
 | (.inl i,_)::r=>.cons (.int i) (kG r)
 | (.inr x,_)::r=>.cons (.str x) (kG r)
theorem zQ (hc:X.calm=Θ)(f:Bi):iD X (v9 f) (Wi X.K f):=by
 intro pins s σ H xs us Q I r h;obtain⟨S,ds,hx,h⟩:=h;have stuck:∀ {P:Prop},jy f ds=Ji->P:=fun z=>by rw[z]at h;exact h.no.elim
 have one:∀ {d e:D}{r':List D},ds=d::e::r'->¬(f=.min2∨f=.max2)->jy f ds=Ji:=by intro d e r' z nf;subst z;cases f<;>first|rfl|(exfalso;exact nf (.inl rfl))|(exfalso;exact nf (.inr rfl))|(induction d using zD<;>rfl)
 have two:∀ {d e g:D}{r':List D},ds=d::e::g::r'->jy f ds=Ji:=by intro d e g r' z;subst z;cases f<;>first|rfl|(induction d using zD<;>rfl)|(induction d using zD<;>induction e using zD<;>rfl)
 have nil:ds=[]->jy f ds=Ji:=by intro z;subst z;cases f<;>rfl
 match ds,hx with
 |[],hx=>exact stuck (nil rfl)
 |d::e::g::r',hx=>exact stuck (two rfl)
 |[d,e],hx=>
  by_cases nf:f=.min2∨f=.max2
  ·obtain⟨x,y,rfl,hd,he⟩:=hx.Ug;rcases nf with rfl|rfl
   ·induction d using zD with
    |int a=>
     induction e using zD with
     |int b=>cases hd.Jv;cases he.Jv;exact t5 hc pins s σ H _ us Q I r ⟨a,b,rfl,h.ok _ _ (.refl _) (.int _)⟩
     |_=>exact stuck rfl
    |_=>exact stuck rfl
   ·induction d using zD with
    |int a=>
     induction e using zD with
     |int b=>cases hd.Jv;cases he.Jv;exact tZ hc pins s σ H _ us Q I r ⟨a,b,rfl,h.ok _ _ (.refl _) (.int _)⟩
     |_=>exact stuck rfl
    |_=>exact stuck rfl
  ·exact stuck (one rfl nf)
 |[d],hx=>
  obtain⟨x,rfl,hd⟩:=hx.Pm;cases f with
  |len=>
   induction d using zD with
   |str z=>cases hd.JH;obtain⟨g,h⟩:=Ip.Iy h;exact ma pins s σ H _ us Q I r ⟨_,_,rfl,⟨iI g,rfl⟩,h.ok _ _ (.refl _) (.int _)⟩
   |tup ds=>obtain⟨a,ys,rfl,q,m⟩:=hd.J9;exact ma pins s σ H _ us Q I r ⟨_,ds.length,rfl,.inr ⟨ys,q,m.length.symm⟩,h.ok _ _ (.refl _) (.int _)⟩
   |lst o ds=>obtain⟨a,ys,rfl,q,m⟩:=hd.JK;exact ma pins s σ H _ us Q I r ⟨_,ds.length,rfl,.inl ⟨ys,q,m.length.symm⟩,h.ok _ _ (.refl _) (.int _)⟩
   |Ju o ks es=>
    cases hd with
    |Ju h0 h1 h2 h3=>exact uv pins s σ H _ us Q I r ⟨_,_,rfl,h1,by rw[<- i_ (f:=(·.1)),h2];exact h.ok _ _ (.refl _) (.int _)⟩
   |_=>exact stuck rfl
  |sum=>cases d<;>exact stuck rfl
  |all=>
   induction d using zD with
   |lst o ds=>
    obtain⟨a,ys,rfl,q,m⟩:=hd.JK;have h':Ip (match jh ds with|some bs=>.ok (.bl (bs.all id))|none=>Ji) (Kk X.K S H Q):=h;cases z:jh ds with
    |none=>rw[z]at h';exact h'.no.elim
    |some ns=>rw[z]at h';rw[lp z]at m;rw[m.Wh]at q;exact uB hc pins s σ H _ us Q I r ⟨a,ns,rfl,q,h'.ok _ _ (.refl _) (.bl _)⟩
   |_=>exact stuck rfl
  |any=>
   induction d using zD with
   |lst o ds=>
    obtain⟨a,ys,rfl,q,m⟩:=hd.JK;have h':Ip (match jh ds with|some bs=>.ok (.bl (bs.any id))|none=>Ji) (Kk X.K S H Q):=h;cases z:jh ds with
    |none=>rw[z]at h';exact h'.no.elim
    |some ns=>rw[z]at h';rw[lp z]at m;rw[m.Wh]at q;exact uC hc pins s σ H _ us Q I r ⟨a,ns,rfl,q,h'.ok _ _ (.refl _) (.bl _)⟩
   |_=>exact stuck rfl
  |ord=>
   induction d using zD with
   |str z=>cases hd.JH;obtain⟨g,h⟩:=Ip.Iy h;exact ve pins s σ H _ us Q I r ⟨z,rfl,u_ g,h.ok _ _ (.refl _) (.int _)⟩
   |_=>exact stuck rfl
  |int=>
   induction d using zD with
   |int i=>cases hd.Jv;exact nG pins s σ H _ us Q I r (.inl ⟨i,rfl,h.ok _ _ (.refl _) (.int _)⟩)
   |bl i=>cases hd.MU;exact nG pins s σ H _ us Q I r (.inr ⟨i,rfl,h.ok _ _ (.refl _) (.int _)⟩)
   |_=>exact stuck rfl
  |list=>
   induction d using zD with
   |tup ds=>obtain⟨a,ys,rfl,q,m⟩:=hd.J9;exact jK pins s σ H _ us Q I r ⟨a,ys,rfl,.inr q,fun p hp=>h.ok _ _ (.upd hp) (uz hp m)⟩
   |lst o ds=>obtain⟨a,ys,rfl,q,m⟩:=hd.JK;exact jK pins s σ H _ us Q I r ⟨a,ys,rfl,.inl q,fun p hp=>h.ok _ _ (.upd hp) (uz hp m)⟩
   |Ju o ks ds=>
    cases hd with
    |Ju h0 h1 h2 h3=>subst h2;exact mG hc pins s σ H _ us Q I r ⟨_,_,rfl,h1,fun p hp=>h.ok _ _ (.upd hp) (uz hp (kG _))⟩
   |_=>exact stuck rfl
  |abs=>
   induction d using zD with
   |int i=>cases hd.Jv;exact u9 pins s σ H _ us Q I r ⟨i,rfl,h.ok _ _ (.refl _) (.int _)⟩
   |_=>exact stuck rfl
  |min2=>induction d using zD<;>exact stuck rfl
  |max2=>induction d using zD<;>exact stuck rfl
  |L3=>
   induction d using zD with
   |lst o ds=>
    obtain⟨a,ys,rfl,q,m⟩:=hd.JK;have h':Ip (match ik ds with|some (n::ns)=>.ok (.int (iU n ns))|_=>Ji) (Kk X.K S H Q):=h;cases z:ik ds with
    |none=>rw[z]at h';exact h'.no.elim
    |some ns=>
     rw[z]at h';cases ns with
     |nil=>exact h'.no.elim
     |cons n ns=>rw[jM z]at m;rw[m.ints]at q;exact uA hc pins s σ H _ us Q I r ⟨a,n,ns,rfl,q,h'.ok _ _ (.refl _) (.int _)⟩
   |_=>exact stuck rfl
  |sorted=>cases d<;>exact stuck rfl
  |tuple=>
   induction d using zD with
   |str z=>cases hd.JH;obtain⟨g,h⟩:=Ip.Iy h;exact mh hc pins s σ H _ us Q I r ⟨z,rfl,iI g,fun p hp=>h.ok _ _ (.upd hp) (CZ hp (uD z))⟩
   |lst o ds=>obtain⟨a,ys,rfl,q,m⟩:=hd.JK;exact nj pins s σ H _ us Q I r ⟨a,ys,rfl,.inl ⟨q,fun p hp=>h.ok _ _ (.upd hp) (CZ hp m)⟩⟩
   |_=>exact stuck rfl
  |str=>exact stuck rfl
  |set=>exact stuck rfl
noncomputable def kq:Kd->Str
 |.str=>"str" |.int=>"int" |.bool=>"bool" |.list=>"list" |.tuple=>"tuple"
noncomputable def wa:Kd->Ψ
 |.str=>.type "str" |.int=>.type "int" |.bool=>.type "bool" |.list=>.type "list" |.tuple=>.type "tuple"
theorem zR (k:Kd):bootBuiltins (kq k)=Δ (wa k):=by cases k<;>decide +kernel
noncomputable def Yj:D->Ψ
 |.Iw=>.type "NoneType" |.bl _=>.type "bool" |.int _=>.type "int" |.str _=>.type "str" |.tup _=>.type "tuple" |.lst _ _=>.type "list" |.Ju _ _ _=>.none|.Jy _ _ _=>.none
theorem zU (K:Frag)(k:Kd)(d:D)(hn:mI d=Θ):PySem.W.kitOne K (Yj d) (wa k)=Δ (jj k d):=by cases k<;>induction d using zD<;>first|rfl|cases hn
theorem zV {pins:List (Ω×Obj)}{s:Α}{σ:St}{H:Hp}{S:Ω->Prop}{x:V}{v:Ψ}{d:D}{Q:VK}(I:Inv X pins σ H s)(rx:RelV x v)(hx:Iq X.K S H x d)(k:Kd)(hn:mI d=Θ)(h:Q (.bl (jj k d)) H) :
  Κ (Μ X.prog X.w) X.A (call (.builtin "isinstance") [v,wa k]) (EP X pins σ Q) X.xe s:=by
 have e:=zU X.K k d hn;have fin:∀tk,EP X pins σ Q (.bool (jj k d)) {s with toks:=tk}:=fun tk=>⟨.bl _,H,I.tok _,rfl,h⟩
 induction d using zD with
 |Iw=>cases hx.Ku;cases rx;exact PySem.W.kia_one PySem.W.kitx_none I.LR True.intro e (fun z=>nomatch z) fin
 |bl b=>cases hx.MU;cases rx;exact PySem.W.kia_one PySem.W.kitx_bool I.LR True.intro e (fun z=>nomatch z) fin
 |int b=>cases hx.Jv;obtain⟨t,rfl⟩:=rx;exact PySem.W.kia_one PySem.W.kitx_int I.LR True.intro e (fun z=>nomatch z) fin
 |str b=>cases hx.JH;obtain⟨t,rfl⟩:=rx;exact PySem.W.kia_one PySem.W.kitx_str I.LR True.intro e (fun z=>nomatch z) fin
 |tup ds=>obtain⟨a,ys,rfl,q,m⟩:=hx.J9;cases rx;obtain⟨its,_,⟨o,h1,h2,_⟩,_⟩:=I.tuple q;exact PySem.W.kia_one PySem.W.kitx_tuple I.LR ⟨o,h1,h2⟩ e (fun z=>nomatch z) fin
 |lst o ds=>obtain⟨a,ys,rfl,q,m⟩:=hx.JK;cases rx;obtain⟨its,_,pl,_⟩:=I.list q;obtain⟨o,h1,h2,_⟩:=pl.isList;exact PySem.W.kia_one PySem.W.kitx_list I.LR ⟨o,h1,h2⟩ e (fun z=>nomatch z) fin
 |Ju o ks ds=>cases hn
 |Jy o ks ds=>cases hn
noncomputable def mM:Mt->Str
 |.join=>"join" |.index=>"index" |.starts=>"startswith"
noncomputable def HH:Mt->String
 |.join=>"str.join" |.index=>"str.index" |.starts=>"str.startswith"
def Wj (K:Frag)(m:Mt):V->List V->Hp->VK->Prop:=fun x xs H Q=>∃S d ds,Iq K S H x d/\Io K S H xs ds/\Ip (mK m d ds) (Kk K S H Q)
theorem wb {m:Mt}{d:D}{ds:List D}{k:D->Prop}(h:Ip (mK m d ds) k):∃x,d=.str x:=by cases m<;>induction d using zD<;>first|exact⟨_,rfl⟩|exact h.no.elim
theorem oH (m:Mt)(hc:m=.index->X.calm=Θ):VG X (HH m) (Wj X.K m):=by
 intro pins s σ H x xs v us Q I rx rs h;obtain⟨S,d,ds,hx,hs,h⟩:=h;obtain⟨z,rfl⟩:=wb h;cases hx.JH;obtain⟨t,rfl⟩:=rx;have stuck:∀ {P:Prop},mK m (.str z) ds=Ji->P:=fun z=>by rw[z]at h;exact h.no.elim
 match ds,hs with
 |[],_=>cases m<;>exact stuck rfl
 |d::e::r,_=>cases m<;>induction d using zD<;>exact stuck rfl
 |[d],hs=>
  obtain⟨y,rfl,hd⟩:=hs.Pm;obtain⟨u,rfl,ru⟩:=vals1 rs;cases m with
  |join=>
   induction d using zD with
   |lst o ds=>
    obtain⟨a,ys,rfl,q,m⟩:=hd.JK;cases ru;have h':Ip (match ia ds with|some ys=>Iy (decide ((ys.map (·.length)).sum+ys.length*z.length<=16777216)) (.ok (.str (Txt.join z ys)))|none=>Ji) (Kk X.K S H Q):=h;cases w:ia ds with
    |none=>rw[w]at h';exact h'.no.elim
    |some ns=>rw[w]at h';obtain⟨g,h'⟩:=Ip.Iy h';rw[jN w]at m;rw[m.strs]at q;obtain⟨its,rv,pl,_⟩:=I.list q;exact join_list pl.isList (by simpa using qo rv) (u_ g) fun t' k=>⟨.str _,H,I.tok _,⟨_,rfl⟩,h'.ok _ _ (.refl _) (.str _)⟩
   |_=>exact stuck rfl
  |index=>cases d<;>exact stuck rfl
  |starts=>
   induction d using zD with
   |str y=>cases hd.JH;obtain⟨t',rfl⟩:=ru;exact SC.startswith ⟨.bl _,H,I,rfl,Ip.ok h _ _ (.refl _) (.bl _)⟩
   |_=>exact stuck rfl
noncomputable def Uh (x:Str):It:=⟨fun i _=>i < x.cps.size,fun i H v H'=>H'=H/\∃c,x.cps[i]? = Δ c/\v=.str ⟨#[c]⟩,fun i _=>x.cps.size<=i⟩
theorem wc {P:Ε}{w:Β}{K:Frag}{tg:Expr}{it:Ω}{x:Str}{t:Tok}{ty:String}(P6:ty = "str_ascii_iterator"∨ty = "str_iterator")
  (W:∀A':Ι,A'.handled=Φ->Walks P w A' it [it] [it] x.cps.size (SignAt x) (fun i h=>h.IsStrIter it ty x t i)):Turn P w K tg (Uh x) [it] it (fun i h=>i<=x.cps.size/\h.IsStrIter it ty x t i) where
 mem:=by simp
 obj:=fun i h st b hb=>by
  have e:b=it:=by simpa using hb
  subst e;obtain⟨_,o,e,c,d⟩:=st;exact⟨o,e,fun v z=>by rw[d]at z;cases z⟩
 keep:=fun i h h' st k=>by obtain⟨l,o,e,c,d⟩:=st;exact⟨l,o,k it (by simp) o e,c,d⟩
 item:=by intro X hP hw hK hc i pins s σ H E I hf st hg;subst hP hw hK;obtain⟨f0,f1,f2,f3,f4,f5⟩:=hf it (by simp);refine(W X.A (I.ok.hd hc)).item i s _ _ hg st.2 fun v h' tk hv KO kk=>?_;obtain⟨c,u,Yk,rfl⟩:=hv;have I1:Inv X pins σ H {s with heap:=h',toks:=tk}:=I.turned (fun b o hb e=>kk b o (by simpa using hb) e) f0 f1 f3 f4 f5;obtain⟨o,e,cc,d⟩:=id KO;refine⟨_,rfl,sh (s:={s with heap:=h',toks:=tk}) (n:=ty) e cc d (by rcases P6 with rfl|rfl<;>decide) ⟨.str ⟨#[c]⟩,H,I1,⟨u,rfl⟩,⟨rfl,c,Yk,rfl⟩,⟨hg,KO⟩,fun b hb=>(hf b hb).1⟩⟩
 done:=by intro X hP hw hK hc i pins s σ H E I hf st hg;subst hP hw hK;obtain⟨f0,f1,f2,f3,f4,f5⟩:=hf it (by simp);have e:i=x.cps.size:=Nat.le_antisymm st.1 hg;refine(W X.A (I.ok.hd hc)).done s _ _ (by rw[<- e];exact st.2) fun h' tk kk=>⟨rfl,I.turned (fun b o hb e=>kk b o (by simpa using hb) e) f0 f1 f3 f4 f5⟩
 self:=fun A i s Q E st h=>by
  obtain⟨_,st⟩:=st;rcases P6 with rfl|rfl
  ·exact wpAny_pyIter_striter_ascii st h
  ·exact wpAny_pyIter_striter_wide st h
theorem C3 {tg:Expr}{pins:List (Ω×Obj)}{s:Α}{σ:St}{H:Hp}{x:Str}{t:Tok}{R:It->Hp->Prop}(I:Inv X pins σ H s)(q:R (Uh x) H):Κ (Μ X.prog X.w) X.A (pyIter (.str x t)) (P5 X pins σ tg R) X.xe s:=by
 have fin:∀ty,(ty = "str_ascii_iterator"∨ty = "str_iterator")->(∀A':Ι,A'.handled=Φ->Walks X.prog X.w A' s.heap.objs.size [s.heap.objs.size] [s.heap.objs.size] x.cps.size (SignAt x) (fun i h=>h.IsStrIter s.heap.objs.size ty x t i))->
   P5 X pins σ tg R (.ref s.heap.objs.size) {s with heap:=s.heap.push {cls:=.type ty,data:=.fields #[.str x t,.int 0 0]}}:=fun ty P6 W=>by
  refine⟨s.heap.objs.size,[s.heap.objs.size],_,_,H,rfl,I.kept (t':=s.toks) fun b o e=>n_ _ e,wc P6 W,⟨aaa _,_,A_ _ rfl,rfl,rfl⟩,fun b hb=>?_,q⟩;have e:b=s.heap.objs.size:=by simpa using hb
  subst e;exact I.Mi (l_ _) (I.Jq.fresh (l_ _))
 cases ha:x.cps.all (· < 128)
 ·exact wpAny_pyIter_wide ha (fin _ (.inr rfl) fun A' hA=>Walks.strWide hA _ x t)
 ·exact wpAny_pyIter_ascii ha (fin _ (.inl rfl) fun A' hA=>Walks.strAscii hA _ x t)
end
end L2
namespace PySem
open Sem (wp)
namespace Heap
end Heap
end PySem
namespace L2
open PySem PySem.Spec PyProof.Rows PySem.SeqAt
theorem hU.at {P:Ε}{w:Β}{H:Hp}{h:Heap}{a:Ω}{o:HO}(x:hU P w H h a o):∃ob,h.get? a=Δ ob:=by
 cases o with
 |lst xs=>obtain⟨_,_,_,_,e⟩:=x;exact⟨_,e⟩
 |tup xs=>obtain⟨_,_,_,ob,e,_⟩:=x;exact⟨_,e⟩
 |dK kvs=>obtain⟨_,_,_,_,o,_,_,e,_⟩:=x;exact⟨_,e⟩
 |dT kvs=>obtain⟨_,_,_,_,o,_,_,e,_⟩:=x;exact⟨_,e⟩
 |set S n=>obtain⟨o,_,_,_,e,_⟩:=x;exact⟨_,e⟩
 |ins C dx fs=>obtain⟨_,_,_,e,_⟩:=x;exact⟨_,e⟩
 |own y=>exact x
 |xd fs=>obtain⟨_,⟨_,_,_,e,_⟩,_⟩:=x;exact⟨_,e⟩
 |M1 lo hi=>obtain⟨_,_,_,e⟩:=x;exact⟨_,e⟩
 |Jw ob u=>exact⟨_,x.1⟩
 |Ot ps=>exact⟨_,x⟩
 |met f y=>exact⟨_,x⟩
 |ext φ=>exact x.2.1
noncomputable def indep:HO->Bool
 |.lst _=>Θ
 |.tup _=>Θ
 |.ext _=>Θ
 |.dK _=>Θ
 |.dT _=>Θ
 |_=>Ξ
theorem kH {P:Ε}{w:Β}{H H':Hp}{h:Heap}{a:Ω}{u:HO}(i:indep u=Θ)(x:hU P w H h a u):hU P w H' h a u:=by
 cases u with
 |lst _=>exact x
 |tup _=>exact x
 |ext _=>exact x
 |dK _=>exact x
 |dT _=>exact x
 |_=>cases i
noncomputable def ie (h:Heap)(H:Hp):Hp:=fun b=>match H b with
 |some (.lst xs)=>(h.get? b).map fun o=>.Jw o (.lst xs)
 |some (.dK kvs)=>(h.get? b).map fun o=>.Jw o (.dK kvs)
 |some (.dT kvs)=>(h.get? b).map fun o=>.Jw o (.dT kvs)
 |some (.tup xs)=>Δ (.tup xs)
 |some (.Jw o u)=>if indep u=Θ then Δ (.Jw o u) else Φ
 |_=>Φ
noncomputable def kI (H H':Hp):Hp:=fun b=>match H b with
 |some o=>Δ o
 |none=>H' b
def Wl (H:Hp):Prop:=∀b o,H b=Δ o->(∃ob u,o=.Jw ob u)∨∃xs,o=.tup xs
theorem we (h:Heap)(H:Hp):Wl (ie h H):=fun b o e=>by
 unfold ie at e;split at e
 ·obtain⟨ob,_,rfl⟩:=aas.mp e;exact .inl ⟨_,_,rfl⟩
 ·obtain⟨ob,_,rfl⟩:=aas.mp e;exact .inl ⟨_,_,rfl⟩
 ·obtain⟨ob,_,rfl⟩:=aas.mp e;exact .inl ⟨_,_,rfl⟩
 ·cases e;exact .inr ⟨_,rfl⟩
 ·split at e
  ·cases e;exact .inl ⟨_,_,rfl⟩
  ·cases e
 ·cases e
structure L4 (h:Heap)(Hc H':Hp):Prop where
 Kg:∀b o u,Hc b=Δ (.Jw o u)->H' b=Δ (.Jw o u)
 KS:∀b xs,Hc b=Δ (.tup xs)->H' b=Δ (.tup xs)
 free:∀b o,h.get? b=Δ o->Hc b=Φ->H' b=Φ
inductive Bk (h:Heap)(H H':Hp)(b:Ω):HO->Prop where
 | lst {xs:List V}{ob:Obj}:h.get? b=Δ ob->H' b=Δ (.Jw ob (.lst xs))->Bk h H H' b (.lst xs)
 | dK {xs:List (Key×V)}{ob:Obj}:h.get? b=Δ ob->H' b=Δ (.Jw ob (.dK xs))->Bk h H H' b (.dK xs)
 | dT {xs:List (List TK×Ω×V)}{ob:Obj}:h.get? b=Δ ob->H' b=Δ (.Jw ob (.dT xs))->Bk h H H' b (.dT xs)
 | tup {xs:List V}:H' b=Δ (.tup xs)->Bk h H H' b (.tup xs)
 | Jw {o:Obj}{u:HO}:indep u=Θ->H' b=Δ (.Jw o u)->Bk h H H' b (.Jw o u)
 | JE {o:HO}{ob:Obj}:h.get? b=Δ ob->ie h H b=Φ->H' b=Φ->(∀xs,o≠.lst xs)->(∀xs,o≠.tup xs)->(∀xs,o≠.dK xs)->Bk h H H' b o
section
variable {P:Ε}{w:Β}{H H':Hp}{h g:Heap}
theorem qp (x:J6 P w H h)(p:L4 h (ie h H) H'){b:Ω}{o:HO}(e:H b=Δ o):Bk h H H' b o:=by
 obtain⟨ob,he⟩:=(x b o e).at
 have hc:ie h H b=(match(Δ o:Option HO) with
  |some (.lst xs)=>(h.get? b).map fun o=>.Jw o (.lst xs)
  |some (.dK kvs)=>(h.get? b).map fun o=>.Jw o (.dK kvs)
  |some (.dT kvs)=>(h.get? b).map fun o=>.Jw o (.dT kvs)
  |some (.tup xs)=>Δ (.tup xs)
  |some (.Jw o u)=>if indep u=Θ then Δ (.Jw o u) else Φ
  |_=>Φ):=by unfold ie;rw[e]
 cases o with
 |lst xs=>have hc:ie h H b=(h.get? b).map fun o=>.Jw o (.lst xs):=hc;rw[he]at hc;exact .lst he (p.Kg _ _ _ hc)
 |dK xs=>have hc:ie h H b=(h.get? b).map fun o=>.Jw o (.dK xs):=hc;rw[he]at hc;exact .dK he (p.Kg _ _ _ hc)
 |dT xs=>have hc:ie h H b=(h.get? b).map fun o=>.Jw o (.dT xs):=hc;rw[he]at hc;exact .dT he (p.Kg _ _ _ hc)
 |tup xs=>exact .tup (p.KS _ _ hc)
 |Jw o' u=>
  have hc:ie h H b=if indep u=Θ then Δ (.Jw o' u) else Φ:=hc
  by_cases i:indep u=Θ
  ·rw[e_ i]at hc;exact .Jw i (p.Kg _ _ _ hc)
  ·rw[d_ i]at hc;exact .JE he hc (p.free _ _ he hc) (fun _ z=>by cases z) (fun _ z=>by cases z) (fun _ z=>by cases z)
 |_=>exact .JE he hc (p.free _ _ he hc) (fun _ z=>by cases z) (fun _ z=>by cases z) (fun _ z=>by cases z)
theorem wg (x:J6 P w H h):J6 P w (ie h H) h:=fun b o e=>by
 cases q:H b with
 |none=>unfold ie at e;rw[q]at e;cases e
 |some u=>
  have y:=x b u q;unfold ie at e;rw[q]at e;cases u with
  |lst xs=>
   obtain⟨ob,he⟩:=y.at
   have e:(h.get? b).map (fun o=>HO.Jw o (.lst xs))=Δ o:=e;rw[he]at e;cases e;exact⟨he,y⟩
  |dK xs=>
   obtain⟨ob,he⟩:=y.at
   have e:(h.get? b).map (fun o=>HO.Jw o (.dK xs))=Δ o:=e;rw[he]at e;cases e;exact⟨he,y⟩
  |dT xs=>
   obtain⟨ob,he⟩:=y.at
   have e:(h.get? b).map (fun o=>HO.Jw o (.dT xs))=Δ o:=e;rw[he]at e;cases e;exact⟨he,y⟩
  |tup xs=>cases e;exact y
  |Jw o' u=>
   have e:(if indep u=Θ then Δ (HO.Jw o' u) else Φ)=Δ o:=e;by_cases i:indep u=Θ
   ·rw[e_ i]at e;cases e;exact⟨y.1,kH i y.2⟩
   ·rw[d_ i]at e;cases e
  |_=>cases e
theorem jn (e:H a=Φ):ie h H a=Φ:=by unfold ie;rw[e]
theorem res_some {b:Ω}{o:HO}(e:H b=Δ o):kI H H' b=Δ o:=by unfold kI;rw[e]
theorem res_none {b:Ω}(e:H b=Φ):kI H H' b=H' b:=by unfold kI;rw[e]
theorem wj:gJ H (kI H H'):=fun b o e=>res_some e
theorem wm (x:J6 P w H h)(y:J6 P w H' g)(p:L4 h (ie h H) H'){fs:List Ω}(keep:∀b o,H b≠Φ->h.get? b=Δ o->ie h H b=Φ->b∉fs->g.get? b=Δ o)(fr:∀b∈fs,H b=Φ):J6 P w (kI H H') g:=by
 have tp:∀c xs,H' c=Δ (.tup xs)->kI H H' c=Δ (.tup xs):=fun c xs e=>by
  cases q:H c with
  |none=>rw[res_none q];exact e
  |some o=>
   rw[res_some q];cases qp x p q with
   |lst _ z=>rw[z]at e;cases e
   |dK _ z=>rw[z]at e;cases e
   |dT _ z=>rw[z]at e;cases e
   |tup z=>rw[z]at e;exact e
   |Jw _ z=>rw[z]at e;cases e
   |JE _ _ z _ _ _=>rw[z]at e;cases e
 intro b o e;cases q:H b with
 |some o'=>
  rw[res_some q]at e;cases e;cases qp x p q with
  |lst h1 z=>have h2:=(y b _ z).1;obtain⟨a1,its,n,a2,a3⟩:=x b _ q;rw[h1]at a3;exact⟨a1,its,n,a2,by rw[h2,<- a3]⟩
  |dK h1 z=>exact kH rfl (y b _ z).2
  |dT h1 z=>exact kH rfl (y b _ z).2
  |tup z=>exact y b _ z
  |Jw i z=>exact⟨(y b _ z).1,kH i (y b _ z).2⟩
  |JE h1 h2 z n1 n2 n3=>
   refine(x b _ q).Lz (fun c u hc hu=>?_) (fun c hc=>res_some hc) fun c xs hc=>res_some hc;rcases hc with rfl|hc
   ·exact keep _ _ (by rw[q];simp) hu h2 fun z=>by rw[fr _ z]at q;cases q
   ·refine keep _ _ (by rw[hc];simp) hu ?_ fun z=>by rw[fr _ z]at hc;cases hc
    unfold ie;rw[hc]
 |none=>
  rw[res_none q]at e;refine(y b o e).Lz (fun _ _ _ z=>z) (fun c hc=>?_) tp;cases q':H c with
  |none=>rw[res_none q'];exact hc
  |some o'=>
   exfalso;cases qp x p q' with
   |lst _ z=>rw[z]at hc;cases hc
   |dK _ z=>rw[z]at hc;cases hc
   |dT _ z=>rw[z]at hc;cases hc
   |tup z=>rw[z]at hc;cases hc
   |Jw _ z=>rw[z]at hc;cases hc
   |JE _ _ z _ _ _=>rw[z]at hc;cases hc
theorem lV {fs:List Ω}(u:Un fs [] (ie h H) H' h g):L4 h (ie h H) H':=⟨u.Kg,u.KS,fun b o e n=>u.free b o e n (by simp)⟩
theorem wo {fs:List Ω}(x:J6 P w H h)(u:Un fs [] (ie h H) H' h g):Un fs [] H (kI H H') h g where
 keep:=fun b o e n f i=>u.keep b o e (jn n) f i
 slot:=fun b o e n f i=>u.slot b o e (jn n) f i
 free:=fun b o e n i=>by rw[res_none n];exact u.free b o e (jn n) i
 there:=u.there
 KS:=fun b xs e=>res_some e
 Kg:=fun b o v e=>res_some e
 LA:=fun b ps e=>⟨#[],by rw[res_some e];simp⟩
end
theorem C4 {H:Hp}{h:Heap}:Cl H (ie h H):=by
 refine⟨fun b xs e=>?_⟩
 ·rcases e with e|⟨o,e⟩
  ·exact .inl (by unfold ie;rw[e])
  ·exact .inr ⟨o,by unfold ie;rw[e];rfl⟩
theorem C5 {P:Ε}{w:Β}{H H':Hp}{h:Heap}(x:J6 P w H h)(p:L4 h (ie h H) H'):Cl H' (kI H H'):=by
 refine⟨fun b xs e=>?_⟩
 ·cases q:H b with
  |none=>unfold Rd;rw[res_none q];exact e
  |some u=>
   unfold Rd;rw[res_some q];have k:=qp x p q;cases k with
   |lst h1 h2=>rcases e with e|⟨o,e⟩<;>(rw[e]at h2;cases h2)
   |dK h1 h2=>rcases e with e|⟨o,e⟩<;>(rw[e]at h2;cases h2)
   |dT h1 h2=>rcases e with e|⟨o,e⟩<;>(rw[e]at h2;cases h2)
   |tup h2=>rcases e with e|⟨o,e⟩<;>(rw[e]at h2;cases h2);exact .inl rfl
   |Jw h1 h2=>rcases e with e|⟨o,e⟩<;>(rw[e]at h2;cases h2);exact .inr ⟨_,rfl⟩
   |JE h1 h2 h3=>rcases e with e|⟨o,e⟩<;>(rw[e]at h3;cases h3)
noncomputable def iz:List Str:=["len","sum","min","max","sorted","list","tuple","ord","int","all","any","str","set","abs","isinstance","range","bool","zip","reversed","dict","enumerate"]
noncomputable def nU:Bi->Nat
 |.len=>0|.sum=>1|.min2=>2|.max2=>3|.L3=>3|.sorted=>4|.list=>5|.tuple=>6|.ord=>7|.int=>8|.all=>9|.any=>10|.str=>11|.set=>12|.abs=>13
noncomputable def sH:Kd->Nat
 |.str=>11|.int=>8|.bool=>16|.list=>5|.tuple=>6
theorem wq (f:Bi):iz[nU f]? = Δ (jO f):=by cases f<;>rfl
theorem C6 (f:Kd):iz[sH f]? = Δ (kq f):=by cases f<;>rfl
mutual
noncomputable def uE:D->D->Bool
 |.Iw,.Iw=>Θ
 |.bl a,.bl b=>a == b
 |.int a,.int b=>a == b
 |.str a,.str b=>a == b
 |.tup a,.tup b=>mN a b
 |.lst o a,.lst o' b=>o == o'&&mN a b
 |_,_=>Ξ
noncomputable def mN:List D->List D->Bool
 |[],[]=>Θ
 |a::r,b::s=>uE a b&&mN r s
 |_,_=>Ξ
end
mutual
theorem sJ:∀ {a b:D},uE a b=Θ->a=b
 |.Iw,b,h=>by cases b<;>first|rfl|cases h
 |.bl a,b,h=>by cases b<;>first|(rw[h_ (show(a == _)=Θ from h)])|cases h
 |.int a,b,h=>by cases b<;>first|(rw[h_ (show(a == _)=Θ from h)])|cases h
 |.str a,b,h=>by cases b<;>first|(rw[h_ (show(a == _)=Θ from h)])|cases h
 |.tup a,b,h=>by
  induction b using zD with
  |tup b=>rw[mO (show mN a b=Θ from h)]
  |_=>cases h
 |.lst o a,b,h=>by
  induction b using zD with
  |lst o' b=>have h':(o == o'&&mN a b)=Θ:=h;rw[j_]at h';rw[h_ h'.1,mO h'.2]
  |_=>cases h
theorem mO:∀ {a b:List D},mN a b=Θ->a=b
 |[],b,h=>by cases b<;>first|rfl|cases h
 |a::r,b,h=>by
  cases b with
  |nil=>cases h
  |cons b s=>have h':(uE a b&&mN r s)=Θ:=h;rw[j_]at h';rw[sJ h'.1,mO h'.2]
end
structure Sg where
 nm:List Str
 Qg:List (Nat×D)
 fns:List Nat
 cls:List Nat:=[]
 xt:List (Str×Nat×Bool):=[]
 pl:List Nat:=[]
 rc:List (Nat×Str×Str):=[]
 xm:List (Str×Nat):=[]
 Yl:List Nat:=[]
noncomputable def Sg.name (Z:Sg)(n:Nat):Option Str:=(iz++Z.nm)[n]?
noncomputable def Gm.Mr (G:Gm)(n:Nat):Bool:=G.cm&&G.gl.contains n
theorem oJ {G:Gm}{n:Nat}(h:G.Mr n=Θ):G.gl.contains n=Θ:=by unfold Gm.Mr at h;rw[j_]at h;exact h.2
theorem oK {G:Gm}{n:Nat}(h:G.Mr n=Θ):G.cm=Θ:=by unfold Gm.Mr at h;rw[j_]at h;exact h.1
noncomputable def Sg.OG (Z:Sg)(G:Gm)(f:Nat):Bool:=Z.fns.contains f&&(G.cm||Z.pl.contains f)
theorem oM {Z:Sg}{G:Gm}{f:Nat}(h:Z.OG G f=Θ):f∈Z.fns/\(G.cm=Θ∨f∈Z.pl):=by unfold Sg.OG at h;rw[j_,aae]at h;exact⟨by simpa using h.1,h.2.elim .inl fun z=>.inr (by simpa using z)⟩
noncomputable def rH:Mt->Bool
 |.join=>Θ
 |_=>Ξ
noncomputable def notStar:Expr->Bool
 |.Starred ..=>Ξ
 |_=>Θ
noncomputable def iE:Expr->Bool
 |.Slice ..=>Ξ
 |_=>Θ
noncomputable def mP:Expr->Bool
 |.Call _ [] [] _=>Ξ
 |_=>Θ
noncomputable def jE (G:Gm)(i:Nat)(x:Str):Bool:=G.N[i]? == Δ x&&(G.kd[i]? == Δ .local||G.kd[i]? == Δ .cell||G.kd[i]? == Δ .free)
noncomputable def mQ (Z:Sg)(G:Gm)(n:Nat)(x:Str):Bool:=Z.name n == Δ x&&G.gl.contains n
noncomputable def E9:D->Const->Bool
 |.int i,.int j=>i == j
 |.str x,.str y=>x == y
 |.bl a,.bool b=>a == b
 |.Iw,.none=>Θ
 |_,_=>Ξ
mutual
noncomputable def jr (G:Gm):Tg->Expr->Bool
 |.nm i,.Name x _=>(G.N[i]? == Δ x&&(G.kd[i]? == Δ .local||(G.df&&G.kd[i]? == Δ .cell)))&&G.io != Δ i
 |.tp ts,.Tuple es _ _=>G.cm&&kf G ts es
 |_,_=>Ξ
noncomputable def kf (G:Gm):List Tg->List Expr->Bool
 |[],[]=>Θ
 |t::ts,e::es=>notStar e&&jr G t e&&kf G ts es
 |_,_=>Ξ
end
mutual
noncomputable def Lg:Tg->List Nat
 |.nm i=>[i]
 |.tp ts=>qr ts
noncomputable def qr:List Tg->List Nat
 |[]=>[]
 |t::ts=>Lg t++qr ts
end
noncomputable def i0 (Z : Sg)(G : Gm)(scope : Scope)(G' : Gm)(fr : List Nat) : Bool :=
  (G.cm&&scope.kind == .function)&&!G'.tr&&!G'.df&&G'.kd.length == G'.N.length
 &&scope.names.all (fun y =>y.2 != .cell)&&scope.names.all (fun y =>y.2 != .local||scope.names.lookup y.1 == Δ .local)
 &&scope.names.all (fun y =>y.2 != .free||(List.range G.N.length).any fun i =>G.N[i]? == Δ y.1&&(G.kd[i]? == Δ .cell||G.kd[i]? == Δ .free))
 &&(List.range fr.length).all (fun j =>G'.N[j]? == (fr[j]?).bind (G.N[·]?)&&((G'.N[j]?).bind (scope.names.lookup ·) == Δ .free)&&((fr[j]?).bind (G.kd[·]?) == Δ .cell||(fr[j]?).bind (G.kd[·]?) == Δ .free)
     &&(G'.kd[j]? == Δ (if((fr[j]?).bind (G.kd[·]?) == Δ .cell) then .cell else .free)))
 &&decide (fr.length <= G'.N.length)
 &&((List.range G'.N.length).drop fr.length).all (fun j =>(G'.N[j]?).bind (scope.names.lookup ·) == Δ .local&&G'.kd[j]? == Δ .local)
 &&G'.N.all (fun x =>!(x == "__debug__")&&!(x == "__classdict__"))
 &&decide (G'.N.Nodup)
 &&G'.gl.all (fun n =>match Z.name n with|some x =>scope.names.lookup x == Δ .globalImplicit|none =>Ξ)
theorem eX {P:Prop}(h:Ξ=Θ):P:=by cases h
noncomputable def uF:List Comprehension->(Expr->Expr->List Expr->Bool)->Bool
 |[⟨t,it,fs,0⟩],k=>k t it fs
 |_,_=>Ξ
local macro_rules | `(tactic| exists $h) =>`(tactic| first | exact L2.eX $h | cases($h))
theorem oN {gens:List Comprehension}{k:Expr->Expr->List Expr->Bool}(h:uF gens k=Θ):∃t it fs,gens=[⟨t,it,fs,0⟩]/\k t it fs=Θ:=by
 unfold uF at h;split at h
 ·exact⟨_,_,_,rfl,h⟩
 ·cases h
noncomputable def Ui (k:Str->Bool):Expr->Bool
 |.Name z _=>k z
 |_=>Ξ
theorem wt {k:Str->Bool}{e:Expr}(h:Ui k e=Θ):∃z p,e=.Name z p/\k z=Θ:=by
 induction e using zE with
 |Name z p=>exact⟨z,p,rfl,h⟩
 |_=>exact eX h
noncomputable def Uj {α:Type}:List α->(α->Bool)->Bool
 |a::r,k=>r.isEmpty&&k a
 |[],_=>Ξ
theorem wu {α:Type}{l:List α}{k:α->Bool}(h:Uj l k=Θ):∃a,l=[a]/\k a=Θ:=by
 cases l with
 |nil=>exact eX h
 |cons a r=>
  cases r with
  |nil=>exact⟨a,rfl,h⟩
  |cons b r=>exact eX h
noncomputable def Uk:Expr->(Expr->List Expr->Pos->Bool)->Bool
 |.Call f as ks p,k=>ks.isEmpty&&k f as p
 |_,_=>Ξ
theorem wx {e:Expr}{k:Expr->List Expr->Pos->Bool}(h:Uk e k=Θ):∃f as p,e=.Call f as [] p/\k f as p=Θ:=by
 induction e using zE with
 |Call f as ks p=>
  cases ks with
  |nil=>exact⟨f,as,p,rfl,h⟩
  |cons b r=>exact eX h
 |_=>exact eX h
noncomputable def wy:Expr->Bool
 |.Tuple _ _ _=>Θ
 |_=>Ξ
noncomputable def lP:Sr->Expr->Bool
 |.zip _ _,t=>wy t
 |.MH _,t=>wy t
 |_,_=>Θ
noncomputable def uG:Bool->CmpOp
 |true=>.NotIn
 |false=>.In
noncomputable def Pn:Expr->Bool
 |.Dict ks vs _=>ks.isEmpty&&vs.isEmpty
 |_=>Ξ
theorem oO {e:Expr}(h:Pn e=Θ):∃p,e=.Dict [] [] p:=by
 induction e using zE with
 |Dict ks vs p=>
  have h':=y_.mp (show(ks.isEmpty&&vs.isEmpty)=Θ from h);cases ks with
  |cons _ _=>exact eX h'.1
  |nil=>
   cases vs with
   |cons _ _=>exact eX h'.2
   |nil=>exact⟨p,rfl⟩
 |_=>exact eX h
noncomputable def SG:Expr->(Expr->Expr->Bool)->Bool
 |.Subscript o s _,k=>k o s
 |_,_=>Ξ
theorem C7 {e:Expr}{k:Expr->Expr->Bool}(h:SG e k=Θ):∃o s p,e=.Subscript o s p/\k o s=Θ:=by
 unfold SG at h;split at h
 ·exact⟨_,_,_,rfl,h⟩
 ·cases h
noncomputable def SH:Expr->(Expr->CmpOp->Expr->Bool)->Bool
 |.Compare l [o] [r] _,k=>k l o r
 |_,_=>Ξ
theorem C8 {e:Expr}{k:Expr->CmpOp->Expr->Bool}(h:SH e k=Θ):∃l o r p,e=.Compare l [o] [r] p/\k l o r=Θ:=by
 unfold SH at h;split at h
 ·exact⟨_,_,_,_,rfl,h⟩
 ·cases h
noncomputable def Ul (e:Expr)(k:Str->Str->Expr->Bool):Bool:=Uk e fun f as _=>Ui (fun x=>Uj as fun a=>Uk a fun g bs _=>Ui (fun y=>Uj bs fun b=>k x y b) g) f
theorem C9 {e:Expr}{k:Str->Str->Expr->Bool}(h:Ul e k=Θ):∃x p y p' e' q' q,e=.Call (.Name x p) [.Call (.Name y p') [e'] [] q'] [] q/\k x y e'=Θ:=by obtain⟨f,as,q,rfl,h1⟩:=wx h;obtain⟨x,p,rfl,h2⟩:=wt h1;obtain⟨a,rfl,h3⟩:=wu h2;obtain⟨g,bs,q',rfl,h4⟩:=wx h3;obtain⟨y,p',rfl,h5⟩:=wt h4;obtain⟨b,rfl,h6⟩:=wu h5;exact⟨_,_,_,_,_,_,_,rfl,h6⟩
noncomputable def isNm:Expr->Bool
 |.Name ..=>Θ
 |_=>Ξ
noncomputable def SI:Expr->(Expr->Str->Bool->Expr->Expr->Bool)->Bool
 |.Call (.Attribute o name apos) [a,b] [] Jm,k=>k o name (apos.endLine == Jm.line) a b
 |_,_=>Ξ
theorem Dc {e:Expr}{k:Expr->Str->Bool->Expr->Expr->Bool}(h:SI e k=Θ):∃o name apos a b Jm,e=.Call (.Attribute o name apos) [a,b] [] Jm/\k o name (apos.endLine == Jm.line) a b=Θ:=by
 unfold SI at h;split at h
 ·exact⟨_,_,_,_,_,_,rfl,h⟩
 ·cases h
noncomputable def Qh:Expr->(Str->Expr->Str->Expr->Bool)->Bool
 |.Call (.Name x _) [a] [⟨Δ n,v,_⟩] _,k=>k x a n v
 |_,_=>Ξ
theorem wz {e:Expr}{k:Str->Expr->Str->Expr->Bool}(h:Qh e k=Θ):∃x p a n v kp pos,e=.Call (.Name x p) [a] [⟨Δ n,v,kp⟩] pos/\k x a n v=Θ:=by
 unfold Qh at h;split at h
 ·exact⟨_,_,_,_,_,_,_,rfl,h⟩
 ·cases h
noncomputable def wA:Expr->Bool
 |.Name x _=>x == "len"
 |_=>Ξ
mutual
noncomputable def Jk (Z:Sg)(G:Gm):IR->Expr->Bool
 |.c d,.Constant k _ _=>E9 d k
 |.g n d,.Name x _=>mQ Z G n x&&Z.Qg.any fun p=>p.1 == n&&uE p.2 d
 |.v i,.Name x _=>jE G i x
 |.bin op a b,.BinOp l o r _=>o == Ob op&&Jk Z G a l&&Jk Z G b r
 |.neg a,.UnaryOp .USub e _=>Jk Z G a e
 |.cmp op a b,.Compare l [o] [r] _=>o == LH op&&Jk Z G a l&&Jk Z G b r&&!behindInMarks o r
 |.chain op KY a b c,.Compare l [o,o'] [m,r] _=>o == LH op&&o' == LH KY&&Jk Z G a l&&Jk Z G b m&&Jk Z G c r&&!lastMarks [o,o'] [m,r]
 |.Js a b,.BoolOp .And [e,e'] _=>Jk Z G a e&&Jk Z G b e'
 |.Js a b,.BoolOp .And (e::e'::Um::rest) p=>Jk Z G a e&&Jk Z G b (.BoolOp .And (e'::Um::rest) p)
 |.LN a b,.BoolOp .Or [e,e'] _=>Jk Z G a e&&Jk Z G b e'
 |.LN a b,.BoolOp .Or (e::e'::Um::rest) p=>Jk Z G a e&&Jk Z G b (.BoolOp .Or (e'::Um::rest) p)
 |.KJ a,.UnaryOp .Not e _=>Jk Z G a e
 |.ite t a b,.IfExp c x y _=>Jk Z G t c&&Jk Z G a x&&Jk Z G b y
 |.tup es,.Tuple l _ _=>iF Z G es l
 |.lst es,.List l _=>iF Z G es l
 |.sl a lo hi,.Subscript e (.Slice l h Φ _) _=>Jk Z G a e&&rJ Z G lo l&&rJ Z G hi h
 |.idx a i,.Subscript e s _=>iE s&&Jk Z G a e&&Jk Z G i s
 |.call f es,.Call (.Name x _) args [] _=>mQ Z G f x&&Z.OG G f&&iF Z G es args
 |.bi f es,.Call (.Name x _) (a::args) [] _=>x == jO f&&G.Mr (nU f)&&iF Z G es (a::args)
 |.J2 a k,.Call (.Name x _) [e,.Name y _] [] _=>x == "isinstance"&&G.gl.contains 14&&y == kq k&&G.gl.contains (sH k)&&notStar e&&Jk Z G a e
 |.Lq,e=>Pn e
 |.Lc,e=>Pn e
 |.Nq a k,e=>SG e fun o s=>iE s&&Jk Z G a o&&Jk Z G k s
 |.OD n k a,e=>SH e fun l o r=>o == uG n&&Jk Z G k l&&Jk Z G a r&&!behindInMarks o r
 |.sset a,e=>Ul e fun x y e=>x == "sorted"&&G.gl.contains 4&&y == "set"&&G.gl.contains 12&&(notStar e&&G.cm)&&Jk Z G a e
 |.KR a k d,e=>SI e fun o n l s f=>isNm o&&n == "get"&&l&&(notStar s&&notStar f)&&Jk Z G a o&&Jk Z G k s&&Jk Z G d f
 |.NK a,e=>Qh e fun x b n v=>x == "max"&&G.Mr 3&&n == "key"&&wA v&&G.gl.contains 0&&notStar b&&Jk Z G a b
 |.Nr m a d,e=>Qh e fun x b n v=>x == N4 (bif m then 1 else 2)&&G.Mr (bif m then 3 else 2)&&n == "default"&&notStar b&&Jk Z G a b&&Jk Z G d v
 |.K0 m o es,.Call (.Attribute oe name apos) (a::args) [] Jm=>name == mM m&&mP oe&&apos.endLine == Jm.line&&(decide ((a::args).length < 29)&&(G.cm||rH m))&&Jk Z G o oe&&iF Z G es (a::args)
 |.comp G' fr tg src ifs elt,.ListComp e gens scope _=>uF gens fun t it fs=>i0 Z G scope G' fr&&jr G' tg t&&(Lg tg).all (fun i=>decide (fr.length<=i))&&(jv Z G src it&&lP src t)&&iF Z G' ifs fs&&Jk Z G' elt e
 |_,_=>Ξ
noncomputable def iF (Z:Sg)(G:Gm):List IR->List Expr->Bool
 |[],[]=>Θ
 |a::es,e::l=>notStar e&&Jk Z G a e&&iF Z G es l
 |_,_=>Ξ
noncomputable def rJ (Z:Sg)(G:Gm):Option IR->Option Expr->Bool
 |none,Φ=>Θ
 |some a,Δ e=>Jk Z G a e
 |_,_=>Ξ
noncomputable def jv (Z:Sg)(G:Gm):Sr->Expr->Bool
 |.JW n,.Call (.Name x _) [e] [] _=>x == "range"&&G.gl.contains 15&&notStar e&&Jk Z G n e
 |.zip a b,.Call (.Name x _) [e,e'] [] _=>x == "zip"&&G.gl.contains 17&&notStar e&&notStar e'&&Jk Z G a e&&Jk Z G b e'
 |.MH a,.Call (.Name x _) [e] [] _=>x == "enumerate"&&G.gl.contains 20&&notStar e&&Jk Z G a e
 |.val a,e=>Jk Z G a e
 |_,_=>Ξ
end
def LO (F:Ω->Prop)(H:Hp):Prop:=∀a,F a->H a≠Φ
structure Out (K:Frag)(F:Ω->Prop)(H:Hp)(F':Ω->Prop)(H':Hp)(v:V)(d:D)(fv:List Ω):Prop where
 JB:LO F' H'
 same:gJ H H'
 rep:Jo K F' H' v d fv
 J7:fv.Nodup
 new:∀a∈fv,H a=Φ
 LI:∀a,F a->F' a
 out:∀a,F' a->F a∨H a=Φ
def Po (K:Frag)(cl:Nat->List D->Res D)(f:Nat)(ps:List Str):Sp:=fun vs H Q E=>vs.length=ps.length/\Wl H/\∃F ds,LO F H/\Io K F H vs ds/\
 Ip (cl f (Jj ds)) fun d=>∀v H' F' fv,Out K F H F' H' v d fv->Q v H'
structure Uo (P:Ε)(w:Β)(K:Frag)(mg:Str->Option Ψ)(base:Heap)(CX:KD)(A:Ι)(cl:Nat->List D->Res D)(f:Nat)(x:Str):Prop where
 ex:∃(k:Nat) (fa:Ω) (fd:Ο) (ps:List Str),mg x=Δ (.ref fa)/\PySem.W.keepIn K (.ref fa)=Θ/\Binds K fd ps []/\K7 P w K mg base CX k fa fd ps (Po K cl f ps)/\Kp k A/\
  ∀ds (k:D->Prop),Ip (cl f ds) k->ds.length=ps.length
structure JL (Z:Sg)(CX:KD)(cl:Nat->List D->Res D)(X:Cx)(G:Gm):Prop where
 N:X.N=G.N
 J7:G.N.Nodup
 calm:G.cm=Θ->X.calm=Θ
 fk:X.env.scope.kind=.function
 un:X.A.units+42 < cLine
 own:G.rs=Θ->PassesOwn (Μ X.prog X.w) X.A X.env X.xe
 kd:∀(i:Nat) (x:Str),G.N[i]? = Δ x->X.env.kindOf x=G.kd[i]?
 Oc:∀(i:Nat) (x:Str),G.N[i]? = Δ x->(x == ("__debug__" : Str))=Ξ/\(x == ("__classdict__" : Str))=Ξ
 gl:∀n∈G.gl,∀x,Z.name n=Δ x->Gl X x
 Pp:∀n x,Z.name n=Δ x->x≠"__name__"/\(x == ("__debug__" : Str))=Ξ
 df:G.df=Θ->∀x,X.fn x=Θ
 blt:∀(n:Nat) (x:Str),iz[n]? = Δ x->X.mg x=Φ
 cst:∀n d x,(n,d)∈Z.Qg->Z.name n=Δ x->∃u v,X.mg x=Δ u/\RelV v u/\∀S H,Iq X.K S H v d
 fns:∀f∈Z.fns,(G.cm=Θ∨f∈Z.pl)->∀x,Z.name f=Δ x->Uo X.prog X.w X.K X.mg X.base CX X.A cl f x
 Uq:∃E:XK,Passes CX X E
 Pj:∀(outer:List Env) (H:Hp) (s:Α) (E:XK) (e:Ψ) (s':Α),J6 X.prog X.w H s.heap->(∀b∈Lk outer,H b=Φ)->CX outer (ie s.heap H) s E e s'->CX outer H s E e s'
 Ur:∀(H:Hp) (outer:List Env) (s:Α) (e:Ψ) (s':Α),¬CX outer H s (fun _ _ _=>False) e s'
section
variable {P:Ε}{w:Β}{H H':Hp}{h:Heap}{K:Frag}{Fc F':Ω->Prop}
theorem sL {vs:List V}{ds:List D}(x:J6 P w H h)(m:Io K Fc H vs ds):Io K (fun a=>Fc a/\ie h H a≠Φ) (ie h H) vs ds:=by
 refine(m.step (S':=Fc) (H':=ie h H) (fun a xs f r=>⟨f,?_⟩) fun a xs r=>?_).L1
 ·rcases r with r|⟨o,r⟩
  ·obtain⟨ob,he⟩:=(x a _ r).at
   refine .inr ⟨ob,?_⟩;unfold ie;rw[r];cases xs with
   |l ys=>show(h.get? a).map _=_;rw[he];rfl
   |d ys=>show(h.get? a).map _=_;rw[he];rfl
   |t ys=>show(h.get? a).map _=_;rw[he];rfl
  ·refine .inr ⟨o,?_⟩;unfold ie;rw[r];cases xs<;>rfl
 ·exact r.cl C4
theorem qt (x:J6 P w H h)(p:L4 h (ie h H) H'){a:Ω}(n:ie h H a=Φ)(e:H' a≠Φ):H a=Φ:=by
 cases q:H a with
 |none=>rfl
 |some o=>
  obtain⟨ob,he⟩:=(x a o q).at
  exact absurd (p.free a ob he n) e
theorem sM {v:V}{d:D}{fv:List Ω}(x:J6 P w H h)(JB:LO Fc H)(p:L4 h (ie h H) H')(o:Out K (fun a=>Fc a/\ie h H a≠Φ) (ie h H) F' H' v d fv):Out K Fc H (fun a=>Fc a∨F' a) (kI H H') v d fv:=by
 have new:∀a∈fv,H a=Φ:=fun a ha=>qt x p (o.new a ha) (by obtain⟨_,xs,e⟩:=o.rep.own a ha;rw[e];simp);refine⟨fun a ha=>?_,wj,o.rep.step (fun a xs f r=>⟨.inr f,?_⟩) (fun a xs r=>?_) fun a ha nf hn=>⟨fun z=>?_,res_none (new a ha)⟩,o.J7,new,fun a ha=>.inl ha,fun a ha=>?_⟩
 ·cases q:H a with
  |some u=>rw[res_some q];simp
  |none=>
   rw[res_none q];rcases ha with ha|ha
   ·exact absurd q (JB a ha)
   ·exact o.JB a ha
 ·cases q:H a with
  |none=>unfold Rd;rw[res_none q];exact r
  |some u=>
   unfold Rd;rw[res_some q];cases qp x p q with
   |lst _ z=>
    cases xs with
    |l ys=>
     rcases r with r|⟨o',r⟩
     ·rw[z]at r;cases r
     ·rw[z]at r;cases r;exact .inl rfl
    |d ys=>rcases r with r|⟨o',r⟩<;>(rw[z]at r;cases r)
    |t ys=>rcases r with r|⟨o',r⟩<;>(rw[z]at r;cases r)
   |dK _ z=>
    cases xs with
    |d ys=>
     rcases r with r|⟨o',r⟩
     ·rw[z]at r;cases r
     ·rw[z]at r;cases r;exact .inl rfl
    |l ys=>rcases r with r|⟨o',r⟩<;>(rw[z]at r;cases r)
    |t ys=>rcases r with r|⟨o',r⟩<;>(rw[z]at r;cases r)
   |dT _ z=>
    cases xs with
    |t ys=>
     rcases r with r|⟨o',r⟩
     ·rw[z]at r;cases r
     ·rw[z]at r;cases r;exact .inl rfl
    |l ys=>rcases r with r|⟨o',r⟩<;>(rw[z]at r;cases r)
    |d ys=>rcases r with r|⟨o',r⟩<;>(rw[z]at r;cases r)
   |tup z=>cases xs<;>rcases r with r|⟨o',r⟩<;>(rw[z]at r;cases r)
   |Jw _ z=>
    cases xs with
    |l ys=>
     rcases r with r|⟨o',r⟩
     ·rw[z]at r;cases r
     ·rw[z]at r;cases r;exact .inr ⟨_,rfl⟩
    |d ys=>
     rcases r with r|⟨o',r⟩
     ·rw[z]at r;cases r
     ·rw[z]at r;cases r;exact .inr ⟨_,rfl⟩
    |t ys=>
     rcases r with r|⟨o',r⟩
     ·rw[z]at r;cases r
     ·rw[z]at r;cases r;exact .inr ⟨_,rfl⟩
   |JE _ _ z _ _ _=>exact absurd z r.some
 ·exact r.cl (C5 x p)
 ·rcases z with z|z
  ·exact JB a z (new a ha)
  ·exact nf z
 ·rcases ha with ha|ha
  ·exact .inl ha
  ·rcases o.out a ha with z|z
   ·exact .inl z.1
   ·exact .inr (qt x p z (o.JB a ha))
end
section
variable {X:Cx}{CX:KD}{cl:Nat->List D->Res D}
theorem Inv.Q8 {pins:List (Ω×Obj)}{σ:St}{H:Hp}{s:Α}(I:Inv X pins σ H s):MP X.prog X.w X.K X.mg X.base X.A X.stack s (ie s.heap H):=
 ⟨I.Lm.frames,I.Lm.mod,fun b o e=>⟨(I.Lm.bs b o e).1,jn (I.Lm.bs b o e).2⟩,I.Lm.NR,I.Lm.KU,fun b hb=>jn (I.Lm.ND b hb),wg I.Jq,I.Lm.bare⟩
theorem sN {k:Nat}{f:Nat}{fa:Ω}{fd:Ο}{ps:List Str}{E:XK}{pins:List (Ω×Obj)}{σ:St}{H:Hp}{s:Α}{Q:VK}{us:List Ψ}{vs:List V}{ds:List D}{Fc:Ω->Prop}
  (F:K7 X.prog X.w X.K X.mg X.base CX k fa fd ps (Po X.K cl f ps)) (hr:Kp k X.A) (hb:Binds X.K fd ps []) (hx:Passes CX X E)
  (hh:∀(outer:List Env) (H:Hp) (s:Α) (E:XK) (e:Ψ) (s':Α),J6 X.prog X.w H s.heap->(∀b∈Lk outer,H b=Φ)->CX outer (ie s.heap H) s E e s'->CX outer H s E e s')
  (I:Inv X pins σ H s) (r:Vals vs us) (hl:vs.length=ps.length) (JB:LO Fc H) (m:Io X.K Fc H vs ds)
  (q:Ip (cl f (Jj ds)) fun d=>∀v H' F' fv,Out X.K Fc H F' H' v d fv->Q v H'):Κ (Μ X.prog X.w) X.A (call (.ref fa) us) (EP X pins σ Q) X.xe s:=by
 have M5:Po X.K cl f ps vs (ie s.heap H) (fun v H'=>L4 s.heap (ie s.heap H) H'->Q v (kI H H')) E:=
  ⟨hl,we _ _,_,ds,fun a h=>h.2,sL I.Jq m,q.mono fun d hd v H' F' fv o p=>hd v _ _ fv (sM I.Jq JB p o)⟩
 have Qe:(us++([]:List Ψ)).length=ps.length:=by rw[v_,<- r.length];exact hl
 have bd:=hb s us I.LR Qe;rw[v_]at bd;refine wpAny_call (codeAny_mono (F.run X.A X.stack s (ie s.heap H) ⟨us,[]⟩ us vs _ E hr I.Q8 bd r M5) fun r' s' hq=>?_);cases r' with
 |error e=>exact hx pins σ H s e s' I (hh X.stack H s E e s' I.Jq I.Lm.ND hq)
 |ok fl=>
  cases fl with
  |ret u=>obtain⟨v,H',a1,a2,a3,a4,a5,a6⟩:=hq;exact I.after (Q:=Q) ⟨v,kI H H',a1,a2,wo I.Jq a3,wm I.Jq a4 (lV a3) (fs:=Lk X.stack) (fun b o _ e n f=>a3.keep b o e n f (by simp)) I.Lm.ND,a5,a6 (lV a3)⟩
  |next=>exact False.elim hq
  |brk=>exact False.elim hq
  |cont=>exact False.elim hq
end
def Slots (K:Frag)(S:Ω->Prop)(H:Hp)(σ:St)(τ:Ev)(is:List Nat):Prop:=∀i∈is,∀d,gF τ i=Δ d->∃v,σ[i]? = Δ (Δ v)/\Iq K S H v d
theorem Slots.sub {K:Frag}{S:Ω->Prop}{H:Hp}{σ:St}{τ:Ev}{is js:List Nat}(h:Slots K S H σ τ is)(s:∀i∈js,i∈is):Slots K S H σ τ js:=fun i hi d e=>h i (s i hi) d e
theorem Slots.left {K:Frag}{S:Ω->Prop}{H:Hp}{σ:St}{τ:Ev}{is js:List Nat}(h:Slots K S H σ τ (is++js)):Slots K S H σ τ is:=h.sub fun _ hi=>q_ _ hi
theorem Slots.right {K:Frag}{S:Ω->Prop}{H:Hp}{σ:St}{τ:Ev}{is js:List Nat}(h:Slots K S H σ τ (is++js)):Slots K S H σ τ js:=h.sub fun _ hi=>s_ _ hi
theorem Slots.go {K:Frag}{S:Ω->Prop}{H H':Hp}{σ:St}{τ:Ev}{is:List Nat}(h:Slots K S H σ τ is)(e:gJ H H'):Slots K (nw S H) H' σ τ is:=fun i hi d z=>by obtain⟨v,h1,h2⟩:=h i hi d z;exact⟨v,h1,h2.mono (fun _=>.inl) e⟩
def RD (K:Frag)(is:List Nat)(f:Ev->Res D):TE:=fun σ H Q=>∃S τ,Slots K S H σ τ is/\Ip (f τ) (Kk K S H Q)
def RT (K:Frag)(is:List Nat)(f:Ev->Res Bool):TT:=fun σ H Q=>∃S τ,Slots K S H σ τ is/\Ip (f τ) fun b=>∀H',gJ H H'->Q b H'
def RA (K:Frag)(is:List Nat)(f:Ev->Res (List D)):TA:=fun σ H Q=>∃S τ,Slots K S H σ τ is/\Ip (f τ) fun ds=>∀vs H',gJ H H'->Io K (nw S H) H' vs ds->Q vs H'
def Qi (K:Frag)(is:List Nat)(f:Ev->Res (Option Int)):TO:=fun σ H Q=>∃S τ,Slots K S H σ τ is/\Ip (f τ) fun o=>∀H',gJ H H'->Q o H'
def WS (K:Frag)(S:Ω->Prop)(H:Hp)(k:Zp.Kq)(a:Ω)(xs:List V):Prop:=match k with
 |.l=>(S a/\Rd H a (.lst xs))∨KL K a xs
 |.t=>JC K H a xs
theorem WS.sq {K:Frag}{S:Ω->Prop}{H:Hp}{k:Zp.Kq}{a:Ω}{xs:List V}(h:WS K S H k a xs):M6 K H k a xs:=by
 cases k with
 |l=>exact h.elim (fun z=>.inl z.2) fun z=>z.sq
 |t=>exact h
inductive K2 (K:Frag)(S:Ω->Prop)(H:Hp):It->List D->Prop where
 | lst {a:Ω}{xs:List V}{ds:List D}:S a->Rd H a (.lst xs)->Io K S H xs ds->K2 K S H (R9 K a) ds
 | lstK {a:Ω}{xs:List V}{ds:List D}:KL K a xs->Io K S H xs ds->K2 K S H (R9 K a) ds
 | tup {a:Ω}{xs:List V}{ds:List D}:JC K H a xs->Io K S H xs ds->K2 K S H (Te K a) ds
 | M1 (lo hi:Int):K2 K S H (QD lo (hi - lo).toNat) (iV lo hi)
 | str (x:Str):K2 K S H (Uh x) (jV x)
 | zip {p q:Zp.Kq}{l m:Ω}{xs ys:List V}{ds es:List D}:WS K S H p l xs->WS K S H q m ys->Io K S H xs ds->Io K S H ys es->K2 K S H (T1 K p q l m) (kc ds es)
 | MH {l:Ω}{xs:List V}{ds:List D}:WS K S H .l l xs->Io K S H xs ds->K2 K S H (Ud K l) (rD ds)
def RI (K:Frag)(is:List Nat)(f:Ev->Res (List D)):TI:=fun σ H R=>∃S τ,Slots K S H σ τ is/\Ip (f τ) fun ds=>∀J H',gJ H H'->K2 K (nw S H) H' J ds->R J H'
theorem nV {S:Ω->Prop}{H H1:Hp}(e:gJ H H1):∀a,nw (nw S H) H1 a->nw S H a:=fun a h=>by
 rcases h with h|h
 ·exact h
 ·exact .inr (e.free h)
section
variable {Z:Sg}{CX:KD}{cl:Nat->List D->Res D}{X:Cx}{G:Gm}
theorem Kk.fit {K:Frag}{S:Ω->Prop}{H H1:Hp}{Q:VK}{d:D}(e:gJ H H1)(h:Kk K S H Q d):Kk K (nw S H) H1 Q d:=fun w H' e' m=>h w H' (e.trans e') (m.mono (nV e) (.refl _))
theorem wB (g:JL Z CX cl X G){n:Nat}{x:Str}(h:mQ Z G n x=Θ):Gl X x/\Z.name n=Δ x/\x≠"__name__"/\(x == ("__debug__" : Str))=Ξ:=by unfold mQ at h;rw[j_]at h;have e:Z.name n=Δ x:=h_ h.1;exact⟨g.gl n (by simpa using h.2) x e,e,g.Pp n x e⟩
theorem Be (Z:Sg){n:Nat}{x:Str}(h:iz[n]? = Δ x):Z.name n=Δ x:=by unfold Sg.name;rw[aar (E_.mp h).1];exact h
theorem jF (g:JL Z CX cl X G){n:Nat}{x:Str}(h:iz[n]? = Δ x)(hc:G.gl.contains n=Θ):Gl X x/\X.mg x=Φ/\x≠"__name__"/\(x == ("__debug__" : Str))=Ξ:=
 ⟨g.gl n (by simpa using hc) x (Be Z h),g.blt n x h,g.Pp n x (Be Z h)⟩
theorem gE {e:Expr}(h:notStar e=Θ)(es:List Expr)(env:Env):Ν (e::es) env=(Ξ,eval e env)::Ν es env:=by
 induction e using zE<;>first|rfl|cases h
theorem i6 (Z:Sg)(G:Gm):∀ {es:List IR}{l:List Expr} (p:Pos) (env:Env),iF Z G es l=Θ->(backTo p (Ν l env)).any (·.1)=Ξ
 |[],[],_,_,_=>rfl
 |a::es,e::l,p,env,h=>by have h':(notStar e&&Jk Z G a e&&iF Z G es l)=Θ:=h;simp only[j_]at h';rw[gE h'.1.1];have ih:=i6 Z G (es:=es) (l:=l) p env h'.2;show(Ξ||(backTo p (Ν l env)).any (·.1))=Ξ;rw[ih];rfl
 |[],_::_,_,_,h=>by cases h
 |_::_,[],_,_,h=>by cases h
theorem wC {d:D}{v:V}(h:∀S H,Iq X.K S H v d){σ:St}{H:Hp}{Q:VK}{is:List Nat}(q:RD X.K is (fun _=>.ok d) σ H Q):Q v H:=by obtain⟨S,τ,_,q⟩:=q;exact q.ok _ _ (.refl _) (h _ _)
theorem Fb {e:Expr}{is:List Nat}{f:Ev->Res D}(h:PE X e (RD X.K is f))(he:∀whole,isTrue e X.env whole=(do let v <- whole;standAt e.pos;holding [v] (truthy v))):PT X e (RT X.K is fun τ=>Ii (f τ) g8):=by intro pins s σ H Q I hw;obtain⟨S,τ,hs,hw⟩:=hw;refine isTrue_plain (Jr (h pins s σ H (fun v H'=>∃d,gJ H H'/\Iq X.K (nw S H) H' v d/\Ip (g8 d) fun b=>∀H',gJ H H'->Q b H') I ⟨S,τ,hs,(Ip.Ii hw).mono fun d hd v H' e m=>⟨d,e,m,hd⟩⟩) fun v s1 ⟨x,H1,I1,r1,d,e,m,hd⟩=>?_) (he _);exact lU I1 r1 m (hd.mono fun b z=>z H1 e)
end
section
variable {Z:Sg}{CX:KD}{cl:Nat->List D->Res D}{X:Cx}{G:Gm}{K:Frag}{S:Ω->Prop}{H H1:Hp}{σ:St}{τ:Ev}
theorem gX {is:List Nat}{f:Ev->Res D}{Kt:D->Prop}{Q:VK}(e:gJ H H1)(hs:Slots K S H σ τ is)(h:Ip (f τ) Kt)(k:∀x v H2,gJ H H2->gJ H1 H2->Iq K (nw S H) H2 v x->Kt x->Q v H2):RD K is f σ H1 Q:=
 ⟨nw S H,τ,hs.go e,h.mono fun x hx v H2 e2 m=>k x v H2 (e.trans e2) e2 (m.mono (nV e) (.refl _)) hx⟩
theorem kJ {is:List Nat}{f:Ev->Res Bool}{Kt:Bool->Prop}{Q:Bool->Hp->Prop}(e:gJ H H1)(hs:Slots K S H σ τ is)(h:Ip (f τ) Kt)(k:∀x H2,gJ H H2->gJ H1 H2->Kt x->Q x H2):RT K is f σ H1 Q:=
 ⟨nw S H,τ,hs.go e,h.mono fun x hx H2 e2=>k x H2 (e.trans e2) e2 hx⟩
theorem qu {is:List Nat}{f:Ev->Res (List D)}{Kt:List D->Prop}{Q:List V->Hp->Prop}(e:gJ H H1)(hs:Slots K S H σ τ is)(h:Ip (f τ) Kt)(k:∀x v H2,gJ H H2->gJ H1 H2->Io K (nw S H) H2 v x->Kt x->Q v H2):RA K is f σ H1 Q:=
 ⟨nw S H,τ,hs.go e,h.mono fun x hx v H2 e2 m=>k x v H2 (e.trans e2) e2 (m.mono (nV e) (.refl _)) hx⟩
theorem zW {is:List Nat}{f:Ev->Res (Option Int)}{Kt:Option Int->Prop}{Q:Option Int->Hp->Prop}(e:gJ H H1)(hs:Slots K S H σ τ is)(h:Ip (f τ) Kt)(k:∀x H2,gJ H H2->gJ H1 H2->Kt x->Q x H2):Qi K is f σ H1 Q:=
 ⟨nw S H,τ,hs.go e,h.mono fun x hx H2 e2=>k x H2 (e.trans e2) e2 hx⟩
theorem Iq.later {v:V}{d:D}{H2:Hp}(h:Iq K (L2.nw S H) H1 v d)(e:gJ H1 H2):Iq K (L2.nw S H) H2 v d:=h.mono (fun _ z=>z) e
theorem Io.later {v:List V}{d:List D}{H2:Hp}(h:Io K (L2.nw S H) H1 v d)(e:gJ H1 H2):Io K (L2.nw S H) H2 v d:=h.mono (fun _ z=>z) e
theorem Ym (g:JL Z CX cl X G){i:Nat}{x:Str}{pos:Pos}(h:jE G i x=Θ):PE X (.Name x pos) (RD X.K [i] (Iu cl (.v i))):=by
 unfold jE at h;rw[j_]at h;have hx:G.N[i]? = Δ x:=h_ h.1;have hk:=g.kd i x hx;have hv:Qx X.env.scope x:=by
  have h2:=h.2;rw[aae,aae]at h2;rcases h2 with(h2|h2)|h2
  ·exact .inl (hk.trans (h_ h2))
  ·exact .inr (.inl (hk.trans (h_ h2)))
  ·exact .inr (.inr (hk.trans (h_ h2)))
 refine gN (uT (i:=i) (by rw[g.N];exact hx) hv (g.Oc i x hx).1 (g.Oc i x hx).2) fun σ H Q q=>?_;obtain⟨S,τ,hs,q⟩:=q;rw[E5]at q;cases z:gF τ i with
 |none=>rw[z]at q;exact q.no.elim
 |some d=>rw[z]at q;obtain⟨v,h1,h2⟩:=hs i (by simp) d z;exact⟨v,h1,q.ok _ _ (.refl _) h2.nw⟩
theorem Yn {d:D}{k:Const}{j:Nat}{pos:Pos}(h:E9 d k=Θ):PE X (.Constant k j pos) (RD X.K [] (Iu cl (.c d))):=by
 induction d using zD with
 |Iw=>
  cases k with
  |none=>exact gN B3 fun σ H Q q=>wC (fun _ _=>.Iw) q
  |_=>cases h
 |bl b=>
  cases k with
  |bool b'=>have e:b=b':=h_ h;subst e;exact gN Ey fun σ H Q q=>wC (fun _ _=>.bl _) q
  |_=>cases h
 |int b=>
  cases k with
  |int b'=>have e:b=b':=h_ h;subst e;exact gN B2 fun σ H Q q=>wC (fun _ _=>.int _) q
  |_=>cases h
 |str b=>
  cases k with
  |str b'=>have e:b=b':=h_ h;subst e;exact gN B4 fun σ H Q q=>wC (fun _ _=>.str _) q
  |_=>cases h
 |tup _=>cases k<;>cases h
 |lst _ _=>cases k<;>cases h
 |Ju o ks ds=>cases k<;>cases h
 |Jy o ks ds=>cases k<;>cases h
theorem Yo (g:JL Z CX cl X G){n:Nat}{d:D}{x:Str}{pos:Pos}(h:mQ Z G n x=Θ)(hk:Z.Qg.any (fun p=>p.1 == n&&uE p.2 d)=Θ):PE X (.Name x pos) (RD X.K [] (Iu cl (.g n d))):=by obtain⟨h1,h2,h3,h4⟩:=wB g h;rw[List.any_eq_true]at hk;obtain⟨⟨m,d'⟩,hm,hk⟩:=hk;rw[j_]at hk;have e1:m=n:=h_ hk.1;have e2:d'=d:=sJ hk.2;subst e1 e2;obtain⟨u,v,hu,r,hr⟩:=g.cst m d' x hm h2;exact gN (yS h1 hu r h4) fun σ H Q q=>wC hr q
theorem Fd {op:Nn}{a b:Expr}{pos:Pos}{va vb:List Nat}{fa fb:Ev->Res D}(ha:PE X a (RD X.K va fa))(hb:PE X b (RD X.K vb fb)) :
  PE X (.BinOp a (Ob op) b pos) (RD X.K (va++vb) fun τ=>Ii (fa τ) fun x=>Ii (fb τ) fun y=>Le op x y):=by
 refine gN (u4 (C1 op) ha hb) fun σ H Q ⟨S,τ,hs,q⟩=>?_;refine gX (.refl _) hs.left (Ip.Ii q) fun x v H1 e1 _ m1 q1=>?_;refine gX e1 hs.right (Ip.Ii q1) fun y w H2 e2 J8 m2 q2=>?_;exact⟨nw S H,x,y,m1.later J8,m2,q2.mono fun d hd=>hd.fit e2⟩
theorem Fe {a:Expr}{pos:Pos}{va:List Nat}{fa:Ev->Res D}(ha:PE X a (RD X.K va fa)) :
  PE X (.UnaryOp .USub a pos) (RD X.K va fun τ=>Ii (fa τ) fun|.int i=>.ok (.int (-i))|_=>Ji):=by
 refine gN (EG Cm ha) fun σ H Q ⟨S,τ,hs,q⟩=>?_;refine gX (.refl _) hs (Ip.Ii q) fun x v H1 e1 _ m1 q1=>?_
 induction x using zD with
 |int i=>cases m1.Jv;exact⟨i,rfl,q1.ok _ _ e1 (.int _)⟩
 |_=>exact q1.no.elim
theorem Ff (g:JL Z CX cl X G){op:MG}{a b:Expr}{pos:Pos}{va vb:List Nat}{fa fb:Ev->Res D}(ha:PE X a (RD X.K va fa))(hb:PE X b (RD X.K vb fb))(hm:behindInMarks (LH op) b=Ξ) :
  PE X (.Compare a [LH op] [b] pos) (RD X.K (va++vb) fun τ=>Ii (fa τ) fun x=>Ii (fb τ) fun y=>Ii (Kl op x y) fun r=>.ok (.bl r))/\
  PT X (.Compare a [LH op] [b] pos) (RT X.K (va++vb) fun τ=>Ii (Ii (fa τ) fun x=>Ii (fb τ) fun y=>Ii (Kl op x y) fun r=>.ok (.bl r)) g8):=by
 refine⟨gN (yZ (lj g.un op) ha hb hm) fun σ H Q ⟨S,τ,hs,q⟩=>?_,kj (y0 (lj g.un op) ha hb hm) fun σ H Q ⟨S,τ,hs,q⟩=>?_⟩
 ·refine gX (.refl _) hs.left (Ip.Ii q) fun x v H1 e1 _ m1 q1=>?_;refine gX e1 hs.right (Ip.Ii q1) fun y w H2 e2 J8 m2 q2=>?_;exact⟨nw S H,x,y,m1.later J8,m2,(Ip.Ii q2).mono fun d hd=>hd.ok _ _ e2 (.bl _)⟩
 ·refine gX (.refl _) hs.left (Ip.Ii (Ip.Ii q)) fun x v H1 e1 _ m1 q1=>?_;refine gX e1 hs.right (Ip.Ii q1) fun y w H2 e2 J8 m2 q2=>?_;exact⟨nw S H,x,y,m1.later J8,m2,(Ip.Ii q2).mono fun d hd=>⟨d,rfl,hd.ok.ok H2 e2⟩⟩
theorem zX (g:JL Z CX cl X G){op KY:MG}{a b c:Expr}{pos:Pos}{va vb vc:List Nat}{fa fb fc:Ev->Res D}(ha:PE X a (RD X.K va fa))(hb:PE X b (RD X.K vb fb))(hc:PE X c (RD X.K vc fc))
  (hm:lastMarks [LH op,LH KY] [b,c]=Ξ) :
  PE X (.Compare a [LH op,LH KY] [b,c] pos) (RD X.K (va++vb++vc) fun τ=>Ii (fa τ) fun x=>Ii (fb τ) fun y=>Ii (Kl op x y) fun r=>if r=Θ then Ii (fc τ) fun z=>Ii (Kl KY y z) fun r'=>.ok (.bl r') else .ok (.bl Ξ))/\
  PT X (.Compare a [LH op,LH KY] [b,c] pos) (RT X.K (va++vb++vc) fun τ=>Ii (Ii (fa τ) fun x=>Ii (fb τ) fun y=>Ii (Kl op x y) fun r=>if r=Θ then Ii (fc τ) fun z=>Ii (Kl KY y z) fun r'=>.ok (.bl r') else .ok (.bl Ξ)) g8):=by
 refine⟨gN (u6 (lj g.un op) (lj g.un KY) ha hb hc hm) fun σ H Q ⟨S,τ,hs,q⟩=>?_,kj (u7 (lj g.un op) (lj g.un KY) ha hb hc hm) fun σ H Q ⟨S,τ,hs,q⟩=>?_⟩
 ·refine gX (.refl _) hs.left.left (Ip.Ii q) fun x v H1 e1 _ m1 q1=>?_;refine gX e1 hs.left.right (Ip.Ii q1) fun y w H2 e2 J8 m2 q2=>?_;refine⟨nw S H,x,y,m1.later J8,m2,(Ip.Ii q2).mono fun d hd=>⟨d,rfl,?_⟩⟩;cases d with
  |false=>rw[d_ p_]at hd ⊢;exact hd.ok _ _ e2 (.bl _)
  |true=>rw[e_ rfl]at hd ⊢;refine gX e2 hs.right (Ip.Ii hd) fun z w' H3 e3 Nw m3 q3=>?_;exact⟨nw S H,y,z,m2.later Nw,m3,(Ip.Ii q3).mono fun d hd=>hd.ok _ _ e3 (.bl _)⟩
 ·refine gX (.refl _) hs.left.left (Ip.Ii (Ip.Ii q)) fun x v H1 e1 _ m1 q1=>?_;refine gX e1 hs.left.right (Ip.Ii q1) fun y w H2 e2 J8 m2 q2=>?_;refine⟨nw S H,x,y,m1.later J8,m2,(Ip.Ii q2).mono fun d hd=>⟨d,rfl,?_⟩⟩;cases d with
  |false=>rw[d_ p_]at hd ⊢;exact⟨Ξ,rfl,hd.ok.ok _ e2⟩
  |true=>rw[e_ rfl]at hd ⊢;refine gX e2 hs.right (Ip.Ii hd) fun z w' H3 e3 Nw m3 q3=>?_;exact⟨nw S H,y,z,m2.later Nw,m3,(Ip.Ii q3).mono fun d hd=>⟨d,rfl,hd.ok.ok _ e3⟩⟩
theorem Bf {a b:Expr}{rest:List Expr}{pos:Pos}{va vb:List Nat}{fa fb:Ev->Res D}(ha:PE X a (RD X.K va fa))(hb:PE X (.BoolOp .And (b::rest) pos) (RD X.K vb fb)) :
  PE X (.BoolOp .And (a::b::rest) pos) (RD X.K (va++vb) fun τ=>Ii (fa τ) fun x=>Ii (g8 x) fun r=>if r=Θ then fb τ else .ok x):=by
 intro pins s σ H Q I h;obtain⟨S,τ,hs,q⟩:=h;refine BoolOp_and (Jr (ha pins s σ H (fun v H'=>∃d,gJ H H'/\Iq X.K (nw S H) H' v d/\_) I (gX (.refl _) hs.left (Ip.Ii q) fun x v H1 e1 _ m1 q1=>⟨x,e1,m1,q1⟩)) fun v s1 ⟨x,H1,I1,r1,d,e1,m1,q1⟩=>?_);refine Jr (lU (Q:=fun b H'=>H'=H1/\Ip (if b=Θ then fb τ else .ok d) (Kk X.K S H Q)) I1 r1 m1 ((Ip.Ii q1).mono fun b z=>⟨rfl,z⟩)) fun c s2 ⟨H2,I2,e2,q2⟩=>?_;subst e2;cases c with
 |true=>rw[e_ rfl]at q2 ⊢;exact hb pins s2 σ _ Q I2 (gX e1 hs.right q2 fun y w H3 e3 _ m3 q3=>q3 _ _ e3 m3)
 |false=>rw[d_ p_]at q2 ⊢;exact⟨x,_,I2,r1,q2.ok _ _ e1 m1⟩
theorem Fg {a b:Expr}{rest:List Expr}{pos:Pos}{va vb:List Nat}{fa fb:Ev->Res D}(ha:PE X a (RD X.K va fa))(hb:PE X (.BoolOp .Or (b::rest) pos) (RD X.K vb fb)) :
  PE X (.BoolOp .Or (a::b::rest) pos) (RD X.K (va++vb) fun τ=>Ii (fa τ) fun x=>Ii (g8 x) fun r=>if r=Θ then .ok x else fb τ):=by
 intro pins s σ H Q I h;obtain⟨S,τ,hs,q⟩:=h;refine BoolOp_or (Jr (ha pins s σ H (fun v H'=>∃d,gJ H H'/\Iq X.K (nw S H) H' v d/\_) I (gX (.refl _) hs.left (Ip.Ii q) fun x v H1 e1 _ m1 q1=>⟨x,e1,m1,q1⟩)) fun v s1 ⟨x,H1,I1,r1,d,e1,m1,q1⟩=>?_);refine Jr (lU (Q:=fun b H'=>H'=H1/\Ip (if b=Θ then .ok d else fb τ) (Kk X.K S H Q)) I1 r1 m1 ((Ip.Ii q1).mono fun b z=>⟨rfl,z⟩)) fun c s2 ⟨H2,I2,e2,q2⟩=>?_;subst e2;cases c with
 |false=>rw[d_ p_]at q2 ⊢;exact hb pins s2 σ _ Q I2 (gX e1 hs.right q2 fun y w H3 e3 _ m3 q3=>q3 _ _ e3 m3)
 |true=>rw[e_ rfl]at q2 ⊢;exact⟨x,_,I2,r1,q2.ok _ _ e1 m1⟩
theorem Fh {a:Expr}{pos:Pos}{va:List Nat}{fa:Ev->Res D}(ha:PE X a (RD X.K va fa))(ht:PT X a (RT X.K va fun τ=>Ii (fa τ) g8)) :
  PE X (.UnaryOp .Not a pos) (RD X.K va fun τ=>Ii (fa τ) fun x=>Ii (g8 x) fun r=>.ok (.bl !r))/\PT X (.UnaryOp .Not a pos) (RT X.K va fun τ=>Ii (Ii (fa τ) fun x=>Ii (g8 x) fun r=>.ok (.bl !r)) g8):=by
 constructor
 ·intro pins s σ H Q I h;obtain⟨S,τ,hs,q⟩:=h;refine UnaryOp_ (Jr (ha pins s σ H (fun v H'=>∃d,gJ H H'/\Iq X.K (nw S H) H' v d/\_) I (gX (.refl _) hs (Ip.Ii q) fun x v H1 e1 _ m1 q1=>⟨x,e1,m1,q1⟩)) fun v s1 ⟨x,H1,I1,r1,d,e1,m1,q1⟩=>?_);refine not_of (Jr (lU (Q:=fun b H'=>Q (.bl !b) H') I1 r1 m1 ((Ip.Ii q1).mono fun b z=>z.ok _ _ e1 (.bl _))) fun c s2 ⟨H2,I2,q2⟩=>⟨.bl !c,H2,I2,rfl,q2⟩)
 ·refine kj (B7 ht) fun σ H Q ⟨S,τ,hs,q⟩=>?_;exact kJ (.refl _) hs (Ip.mk ((Ip.Ii (Ip.Ii q)).mono fun x hx=>(Ip.Ii hx).mono fun r hr=>hr.ok.ok)) fun x H2 e2 _ k=>k H2 e2
theorem wD {e:Expr}{pos:Pos}{op:BoolOp}{es:List Expr}{t:TT}(h:PT X (.BoolOp op es pos) t):PW X (.BoolOp op es pos) t:=fun _ pins s σ H Q I q=>h pins s σ H Q I q
theorem Bg {a b:Expr}{rest:List Expr}{pos:Pos}{va vb:List Nat}{fa fb:Ev->Res D}(ha:PT X a (RT X.K va fun τ=>Ii (fa τ) g8))(hb:PW X (.BoolOp .And (b::rest) pos) (RT X.K vb fun τ=>Ii (fb τ) g8)) :
  PT X (.BoolOp .And (a::b::rest) pos) (RT X.K (va++vb) fun τ=>Ii (Ii (fa τ) fun x=>Ii (g8 x) fun r=>if r=Θ then fb τ else .ok x) g8):=by
 refine kj (B6 ha hb).pt fun σ H Q ⟨S,τ,hs,q⟩=>?_;refine kJ (.refl _) hs.left (Kt:=fun r=>Ip (if r=Θ then Ii (fb τ) g8 else .ok Ξ) fun b=>∀H',gJ H H'->Q b H') (Ip.mk ((Ip.Ii (Ip.Ii q)).mono fun x hx=>(Ip.Ii hx).eq.mono fun r hr=>?_)) fun r H2 e2 _ k=>?_
 ·obtain⟨er,hr⟩:=hr;cases r with
  |true=>rw[e_ rfl]at hr ⊢;exact Ip.mk hr
  |false=>rw[d_ p_]at hr ⊢;have Mm:Ip (g8 x) _:=hr;rw[er]at Mm;exact Mm
 ·cases r with
  |true=>rw[e_ rfl]at k ⊢;exact kJ e2 hs.right k fun b H3 e3 _ z=>z H3 e3
  |false=>rw[d_ p_]at k ⊢;exact k.ok H2 e2
theorem Fi {a b:Expr}{rest:List Expr}{pos:Pos}{va vb:List Nat}{fa fb:Ev->Res D}(ha:PT X a (RT X.K va fun τ=>Ii (fa τ) g8))(hb:PW X (.BoolOp .Or (b::rest) pos) (RT X.K vb fun τ=>Ii (fb τ) g8)) :
  PT X (.BoolOp .Or (a::b::rest) pos) (RT X.K (va++vb) fun τ=>Ii (Ii (fa τ) fun x=>Ii (g8 x) fun r=>if r=Θ then .ok x else fb τ) g8):=by
 refine kj (EA ha hb).pt fun σ H Q ⟨S,τ,hs,q⟩=>?_;refine kJ (.refl _) hs.left (Kt:=fun r=>Ip (if r=Θ then .ok Θ else Ii (fb τ) g8) fun b=>∀H',gJ H H'->Q b H') (Ip.mk ((Ip.Ii (Ip.Ii q)).mono fun x hx=>(Ip.Ii hx).eq.mono fun r hr=>?_)) fun r H2 e2 _ k=>?_
 ·obtain⟨er,hr⟩:=hr;cases r with
  |false=>rw[d_ p_]at hr ⊢;exact Ip.mk hr
  |true=>rw[e_ rfl]at hr ⊢;have Mm:Ip (g8 x) _:=hr;rw[er]at Mm;exact Mm
 ·cases r with
  |false=>rw[d_ p_]at k ⊢;exact kJ e2 hs.right k fun b H3 e3 _ z=>z H3 e3
  |true=>rw[e_ rfl]at k ⊢;exact k.ok H2 e2
theorem Fj {c a b:Expr}{pos:Pos}{vc va vb:List Nat}{fc fa fb:Ev->Res D}(hc:PT X c (RT X.K vc fun τ=>Ii (fc τ) g8))(ha:PE X a (RD X.K va fa))(hb:PE X b (RD X.K vb fb))
  (ta:PT X a (RT X.K va fun τ=>Ii (fa τ) g8)) (tb:PT X b (RT X.K vb fun τ=>Ii (fb τ) g8)) :
  PE X (.IfExp c a b pos) (RD X.K (vc++va++vb) fun τ=>Ii (fc τ) fun x=>Ii (g8 x) fun r=>if r=Θ then fa τ else fb τ)/\
  PT X (.IfExp c a b pos) (RT X.K (vc++va++vb) fun τ=>Ii (Ii (fc τ) fun x=>Ii (g8 x) fun r=>if r=Θ then fa τ else fb τ) g8):=by
 constructor
 ·refine gN (pQ hc ha hb) fun σ H Q ⟨S,τ,hs,q⟩=>?_;refine kJ (.refl _) hs.left.left (Ip.mk ((Ip.Ii q).mono fun x hx=>Ip.Ii hx)) fun r H2 e2 _ k=>?_;cases r with
  |true=>rw[e_ rfl]at k ⊢;exact gX e2 hs.left.right k fun y w H3 e3 _ m3 q3=>q3 _ _ e3 m3
  |false=>rw[d_ p_]at k ⊢;exact gX e2 hs.right k fun y w H3 e3 _ m3 q3=>q3 _ _ e3 m3
 ·intro pins s σ H Q I h;obtain⟨S,τ,hs,q⟩:=h
  refine isTrue_IfExp (Jr (hc pins s σ H (fun r H2=>gJ H H2/\Ip (if r=Θ then fa τ else fb τ) fun d=>Ip (g8 d) fun b=>∀H',gJ H H'->Q b H') I
   (kJ (.refl _) hs.left.left (Ip.mk ((Ip.Ii (Ip.Ii q)).mono fun x hx=>Ip.Ii hx)) fun r H2 e2 _ k=>⟨e2,k⟩)) fun d s1 ⟨H1,I1,e1,q1⟩=>?_)
  cases d with
  |true=>rw[e_ rfl]at q1;exact ta pins s1 σ H1 Q I1 (kJ e1 hs.left.right (Ip.mk q1) fun b H3 e3 _ z=>z H3 e3)
  |false=>rw[d_ p_]at q1;exact tb pins s1 σ H1 Q I1 (kJ e1 hs.right (Ip.mk q1) fun b H3 e3 _ z=>z H3 e3)
theorem Fm {es:List Expr}{n:Nat}{pos:Pos}{va:List Nat}{fa:Ev->Res (List D)}(h:PA X es (RA X.K va fa)):PE X (.Tuple es n pos) (RD X.K va fun τ=>Ii (fa τ) fun ds=>Iy (iu ds.length) (.ok (.tup ds))):=by refine gN (vg h) fun σ H Q ⟨S,τ,hs,q⟩=>?_;refine qu (.refl _) hs (Ip.Ii q) fun ds vs H1 e1 _ m1 q1=>?_;obtain⟨g,q1⟩:=Ip.Iy q1;exact⟨by rw[m1.length];exact iI g,fun p hp=>q1.ok _ _ (e1.trans (.upd hp)) ((CZ hp m1).mono (nV e1) (.refl _))⟩
theorem Fo {es:List Expr}{pos:Pos}{va:List Nat}{fa:Ev->Res (List D)}(h:PA X es (RA X.K va fa)):PE X (.List es pos) (RD X.K va fun τ=>Ii (fa τ) fun ds=>Iy (iu ds.length) (.ok (.lst Θ ds))):=by refine gN (vi h) fun σ H Q ⟨S,τ,hs,q⟩=>?_;refine qu (.refl _) hs (Ip.Ii q) fun ds vs H1 e1 _ m1 q1=>?_;obtain⟨g,q1⟩:=Ip.Iy q1;exact⟨by rw[m1.length];exact iI g,fun p hp=>q1.ok _ _ (e1.trans (.upd hp)) ((uz hp m1).mono (nV e1) (.refl _))⟩
theorem Fp {a b:Expr}{pos:Pos}{va vb:List Nat}{fa fb:Ev->Res D}(ha:PE X a (RD X.K va fa))(hb:PE X b (RD X.K vb fb))(hp:iE b=Θ) :
  PE X (.Subscript a b pos) (RD X.K (va++vb) fun τ=>Ii (fa τ) fun x=>Ii (fb τ) fun y=>iq x y):=by
 refine gN (EK (zO) ha hb fun o i=>by cases b<;>first|rfl|cases hp) fun σ H Q ⟨S,τ,hs,q⟩=>?_;refine gX (.refl _) hs.left (Ip.Ii q) fun x v H1 e1 _ m1 q1=>?_;refine gX e1 hs.right (Ip.Ii q1) fun y w H2 e2 J8 m2 q2=>?_;exact⟨nw S H,x,y,m1.later J8,m2,q2.mono fun d hd=>hd.fit e2⟩
theorem HJ {a:Expr}{lo hi:Option Expr}{pos p2:Pos}{va vl vh:List Nat}{fa:Ev->Res D}{fl fh:Ev->Res (Option Int)}(ha:PE X a (RD X.K va fa))(hl:PO X lo (Qi X.K vl fl))(hh:PO X hi (Qi X.K vh fh)) :
  PE X (.Subscript a (.Slice lo hi Φ p2) pos) (RD X.K (va++vl++vh) fun τ=>Ii (fa τ) fun x=>Ii (fl τ) fun l=>Ii (fh τ) fun h=>qg x l h):=by
 refine gN (pT (zP) ha hl hh) fun σ H Q ⟨S,τ,hs,q⟩=>?_;refine gX (.refl _) hs.left.left (Ip.Ii q) fun x v H1 e1 _ m1 q1=>?_;refine zW e1 hs.left.right (Ip.Ii q1) fun l H2 e2 J8 q2=>?_;refine zW e2 hs.right (Ip.Ii q2) fun h H3 e3 Nw q3=>?_;exact⟨nw S H,x,m1.later (J8.trans Nw),q3.mono fun d hd=>hd.fit e3⟩
theorem s_call (g:JL Z CX cl X G){f:Nat}{x:Str}{p pos:Pos}{es:List IR}{args:List Expr}(h1:mQ Z G f x=Θ)(h2:Z.OG G f=Θ)(JZ:iF Z G es args=Θ)(h:PA X args (RA X.K (gR es) (iK cl es))) :
  PE X (.Call (.Name x p) args [] pos) (RD X.K (gR es) fun τ=>Ii (iK cl es τ) fun ds=>cl f (Jj ds)):=by
 obtain⟨k1,k2,k3,k4⟩:=wB g h1;obtain⟨k,Us,fd,ps,hm,Oe,hb,F,hr,hlen⟩:=(g.fns f (oM h2).1 (oM h2).2 x k2).ex;obtain⟨E,hP⟩:=g.Uq;intro pins s σ H Q I q;obtain⟨S,τ,hs,q⟩:=q;have fin:∀(us:List Ψ) (s1:Α) (vs:List V) (H1:Hp) (ds:List D),Inv X pins σ H1 s1->Vals vs us->gJ H H1->Io X.K (nw S H) H1 vs ds->Ip (cl f (Jj ds)) (Kk X.K S H Q)->Κ (Μ X.prog X.w) X.A (call (.ref Us) us) (EP X pins σ Q) X.xe s1:=by
  intro us s1 vs H1 ds I1 r e m q1;have hl:=hlen _ _ q1;rw[jm]at hl;refine sN F hr hb hP g.Pj I1 r (by rw[m.length];exact hl) (Fc:=fun a=>nw S H a/\H1 a≠Φ) (fun a z=>z.2) m.L1 ?_;cases z:cl f (Jj ds) with
  |error er=>rw[z]at q1;cases er;exact q1.no.elim
  |ok d=>
   rw[z]at q1;intro v H' F' fv o;refine q1.ok _ _ (e.trans o.same) (o.rep.read (fun a ha=>?_) fun a ha=>?_)
   ·rcases o.out a ha with z|z
    ·exact z.1
    ·exact .inr (e.free z)
   ·exact .inr (e.free (o.new a ha))
 refine wpAny_Call_Name_kw (oj I k1 hm ?_ k4);cases args with
 |nil=>
  cases es with
  |cons _ _=>cases JZ
  |nil=>exact PySem.W.callWith_K0 I.LR Oe (fin [] s [] H [] I .nil (.refl _) .nil q)
 |cons e l=>
  cases es with
  |nil=>cases JZ
  |cons a es=>have JJ:(notStar e&&Jk Z G a e&&iF Z G es l)=Θ:=JZ;simp only[j_]at JJ;refine PySem.W.callWith_K (h₀:=X.base) I.ok.mod.R4 Oe (Jr (h pos pins s σ H (fun vs H1=>∃ds,gJ H H1/\Io X.K (nw S H) H1 vs ds/\Ip (cl f (Jj ds)) (Kk X.K S H Q)) I ⟨S,τ,hs,(Ip.Ii q).mono fun ds hd vs H1 e m=>⟨ds,e,m,hd⟩⟩) fun us s1 ⟨vs,H1,I1,r,ds,e,m,q1⟩=>⟨I1.LR,?_⟩) (gE JJ.1.1 l X.env) (i6 Z G (es:=es) pos X.env JJ.2);exact fin us s1 vs H1 ds I1 r e m q1
theorem HK (g:JL Z CX cl X G){f:Bi}{p pos:Pos}{es:List IR}{a:Expr}{args:List Expr}(hg:G.Mr (nU f)=Θ)(JZ:iF Z G es (a::args)=Θ)(h:PA X (a::args) (RA X.K (gR es) (iK cl es))) :
  PE X (.Call (.Name (jO f) p) (a::args) [] pos) (RD X.K (gR es) fun τ=>Ii (iK cl es τ) fun ds=>jy f ds):=by
 obtain⟨k1,k2,k3,k4⟩:=jF g (wq f) (oJ hg);cases es with
 |nil=>cases JZ
 |cons b es=>
  have JJ:(notStar a&&Jk Z G b a&&iF Z G es args)=Θ:=JZ;simp only[j_]at JJ;have mono:∀σ H Q,RD X.K (gR (b::es)) (fun τ=>Ii (iK cl (b::es) τ) fun ds=>jy f ds) σ H Q->Tp (Wi X.K f) (RA X.K (gR (b::es)) (iK cl (b::es))) σ H Q:=by rintro σ H Q ⟨S,τ,hs,q⟩;refine qu (.refl _) hs (Ip.Ii q) fun ds vs H1 e1 _ m1 q1=>?_;exact⟨nw S H,ds,m1,q1.mono fun d hd=>hd.fit e1⟩
  refine gN ?_ mono;have hv:=sG f;have hc:=zQ (X:=X) (g.calm (oK hg)) f;unfold v9 at hv hc;cases z:E7 f with
  |true=>rw[z,e_ rfl]at hv hc;exact kW hc k1 k2 hv h k3 k4 (gE JJ.1.1 args X.env) (i6 Z G (es:=es) pos X.env JJ.2)
  |false=>rw[z,d_ p_]at hv hc;exact me hc k1 k2 hv h k3 k4 (gE JJ.1.1 args X.env) (i6 Z G (es:=es) pos X.env JJ.2)
noncomputable def Ut:Kd->V
 |.str=>.ty "str" |.int=>.ty "int" |.bool=>.ty "bool" |.list=>.ty "list" |.tuple=>.ty "tuple"
theorem sO (k:Kd):RelV (Ut k) (wa k):=by cases k<;>rfl
theorem wF (k:Kd):iD X (.builtin "isinstance") (fun xs H Q=>∃S x d,xs=[x,Ut k]/\Iq X.K S H x d/\mI d=Θ/\Q (.bl (jj k d)) H):=by
 intro pins s σ H xs us Q I r h;obtain⟨S,x,d,rfl,m,hn,q⟩:=h;obtain⟨u,w',rfl,r1,r2⟩:=vals2 r;have e:w'=wa k:=by have:=r2.abs;have h2:=(sO k).abs;cases k<;>(revert r2;intro r2;exact r2)
 subst e;exact zV I r1 m k hn q
theorem Fq (g:JL Z CX cl X G){k:Kd}{e:Expr}{p p' pos:Pos}{va:List Nat}{fa:Ev->Res D}(hg:G.gl.contains 14=Θ)(hk:G.gl.contains (sH k)=Θ)(hn:notStar e=Θ)(ha:PE X e (RD X.K va fa)) :
  PE X (.Call (.Name "isinstance" p) [e,.Name (kq k) p'] [] pos) (RD X.K va fun τ=>Ii (fa τ) fun x=>Iy (mI x) (.ok (.bl (jj k x)))):=by
 obtain⟨k1,k2,k3,k4⟩:=jF g (show iz[14]? = Δ ("isinstance" : Str) from rfl) hg;obtain⟨j1,j2,j3,j4⟩:=jF g (C6 k) hk;have pa:PA X [e,.Name (kq k) p'] (md (RD X.K va fa) (md (tC (Ut k)) vf)):=ij ha (ij (yT j1 j2 (zR k) (sO k) j3 j4) iW rfl) (gE hn _ _);refine gN (me (wF k) k1 k2 PyProof.Rows.boot_isinstance pa k3 k4 (gE hn _ _) rfl) fun σ H Q ⟨S,τ,hs,q⟩=>?_;refine gX (.refl _) hs (Ip.Ii q) fun x v H1 e1 _ m1 q1=>?_;obtain⟨gd,q1⟩:=Ip.Iy q1;exact⟨nw S H,v,x,rfl,m1,gd,q1.ok _ _ e1 (.bl _)⟩
theorem Dd (g:JL Z CX cl X G){e:Expr}{p p' pos pos':Pos}{va:List Nat}{fa:Ev->Res D}(h1:G.gl.contains 4=Θ)(h2:G.gl.contains 12=Θ)(hn:notStar e=Θ)(NL:G.cm=Θ)(ha:PE X e (RD X.K va fa)) :
  PE X (.Call (.Name "sorted" p) [.Call (.Name "set" p') [e] [] pos'] [] pos) (RD X.K va fun τ=>Ii (fa τ) qi):=by
 obtain⟨k1,k2,k3,k4⟩:=jF g (show iz[4]? = Δ ("sorted" : Str) from rfl) h1;obtain⟨j1,j2,j3,j4⟩:=jF g (show iz[12]? = Δ ("set" : Str) from rfl) h2
 have cc:iD X (.type "set") (fun xs H Q=>(∃(p:Ω) (ns:List Int),xs=[.ref p]/\JX X.K H p (ns.map V.int)/\ns.length < 64/\∀a o,H a=Φ->zC X (dd ns) o->Q (.ref a) (upd H a (.Jw o XS)))∨
   (∃(p:Ω) (ns:List Str),xs=[.ref p]/\JX X.K H p (ns.map V.str)/\ns.length < 64/\∀a o,H a=Φ->zF X (Mf ns) o->Q (.ref a) (upd H a (.Jw o XS)))):=fun pins s σ H xs us Q I r h=>
  h.elim (ur (g.calm NL) pins s σ H xs us Q I r) (uu (g.calm NL) pins s σ H xs us Q I r)
 have cs:iD X (.builtin "sorted") (fun xs H Q=>(∃(p:Ω) (o:Obj) (ns:List Int),xs=[.ref p]/\H p=Δ (.Jw o XS)/\zC X ns o/\ns.length < 64/\∀l,H l=Φ->Q (.ref l) (upd H l (.lst ((PySem.W.sortI ns).map V.int))))∨
   (∃(p:Ω) (o:Obj) (ns:List Str),xs=[.ref p]/\H p=Δ (.Jw o XS)/\zF X ns o/\ns.length < 64/\∀l,H l=Φ->Q (.ref l) (upd H l (.lst ((i5 ns).map V.str))))):=fun pins s σ H xs us Q I r h=>
  h.elim (oC (g.calm NL) pins s σ H xs us Q I r) (oD (g.calm NL) pins s σ H xs us Q I r)
 have i1:=kW (p:=p') (pos:=pos') cc j1 j2 (by decide +kernel) (ij ha iW (gE hn _ _)) (by decide) (by decide) (gE hn _ _) rfl;have i2:=me (p:=p) (pos:=pos) cs k1 k2 (by decide +kernel) (ij i1 iW rfl) (by decide) (by decide) rfl rfl;refine gN i2 fun σ H Q ⟨S,τ,hs,q⟩=>?_;refine gX (.refl _) hs (Ip.Ii q) fun d v H1 e1 _ m1 q1=>?_
 induction d using zD with
 |lst o ds=>
  obtain⟨a,ys,rfl,qq,m⟩:=m1.JK;have q2:Ip (match ik ds with|some ns=>Iy (decide (ns.length < 64)) (.ok (.lst Θ ((PySem.W.sortI (dd ns)).map .int)))|none=>match ia ds with|some ns=>Iy (decide (ns.length < 64)) (.ok (.lst Θ ((i5 (Mf ns)).map .str)))|none=>Ji) (Kk X.K S H Q):=q1;cases z:ik ds with
  |none=>
   rw[z]at q2;cases z':ia ds with
   |none=>rw[z']at q2;exact q2.no.elim
   |some ns=>rw[z']at q2;obtain⟨gd,q3⟩:=Ip.Iy q2;have L0:ns.length < 64:=u_ gd;rw[jN z']at m;rw[m.strs]at qq;refine .inr ⟨a,ns,rfl,qq,L0,fun a' o' Q9 Mg=>.inr ⟨a',o',Mf ns,rfl,gI,Mg,Nat.lt_of_le_of_lt (sy ns) L0,fun l hl=>?_⟩⟩;have Qd:H1 l=Φ:=(gJ.upd Q9).free hl;exact q3.ok _ _ ((e1.trans (.upd Q9)).trans (.upd hl)) (.lst (.inr (e1.free Qd)) (.inl gI) (Io.ofStrs _))
  |some ns=>rw[z]at q2;obtain⟨gd,q3⟩:=Ip.Iy q2;have L0:ns.length < 64:=u_ gd;rw[jM z]at m;rw[m.ints]at qq;refine .inl ⟨a,ns,rfl,qq,L0,fun a' o' Q9 Mg=>.inl ⟨a',o',dd ns,rfl,gI,Mg,Nat.lt_of_le_of_lt (vW ns) L0,fun l hl=>?_⟩⟩;have Qd:H1 l=Φ:=(gJ.upd Q9).free hl;exact q3.ok _ _ ((e1.trans (.upd Q9)).trans (.upd hl)) (.lst (.inr (e1.free Qd)) (.inl gI) (Io.ofInts _))
 |_=>exact q1.no.elim
theorem rK {d:D}(h:km d=Θ):∃x,d=.str x:=by
 induction d using zD<;>first|exact⟨_,rfl⟩|cases h
theorem Fs (g:JL Z CX cl X G){m:Mt}{o:Expr}{apos Jm:Pos}{vo:List Nat}{fo:Ev->Res D}{es:List IR}{a:Expr}{args:List Expr}(hn:mP o=Θ)(hl:(apos.endLine == Jm.line)=Θ)(hlen:(a::args).length < 29)(NL:(G.cm||rH m)=Θ)
  (JZ:iF Z G es (a::args)=Θ) (ho:PE X o (RD X.K vo fo)) (h:PA X (a::args) (RA X.K (gR es) (iK cl es))) :
  PE X (.Call (.Attribute o (mM m) apos) (a::args) [] Jm) (RD X.K (vo++gR es) fun τ=>Ii (fo τ) fun x=>Iy (km x) (Ii (iK cl es τ) fun ds=>mK m x ds)):=by
 cases es with
 |nil=>cases JZ
 |cons b es=>
  have JJ:(notStar a&&Jk Z G b a&&iF Z G es args)=Θ:=JZ;simp only[j_]at JJ;have star:=i6 Z G (es:=es) Jm X.env JJ.2;have mono:∀σ H Q,RD X.K (vo++gR (b::es)) (fun τ=>Ii (fo τ) fun x=>Iy (km x) (Ii (iK cl (b::es) τ) fun ds=>mK m x ds)) σ H Q->VI X.K "str" (Wj X.K m) (RD X.K vo fo) (RA X.K (gR (b::es)) (iK cl (b::es))) σ H Q:=by rintro σ H Q ⟨S,τ,hs,q⟩;refine gX (.refl _) hs.left (Ip.Ii q) fun x v H1 e1 _ m1 q1=>?_;obtain⟨gd,q1⟩:=Ip.Iy q1;obtain⟨z,rfl⟩:=rK gd;cases m1.JH;refine⟨rfl,qu e1 hs.right (Ip.Ii q1) fun ds vs H2 e2 J8 m2 q2=>?_⟩;exact⟨nw S H,.str z,ds,.str z,m2,q2.mono fun d hd=>hd.fit e2⟩
  have LV:attributeBase o (mM m) X.env (eval o X.env)=eval o X.env:=by
   induction o using zE with
   |Call f args KN pos=>
    cases args with
    |nil=>
     cases KN with
     |nil=>cases hn
     |cons _ _=>cases f<;>rfl
    |cons _ _=>cases f<;>rfl
   |_=>rfl
  have Uu:(backTo Jm (Ν (a::args) X.env)).all (fun x=>!x.1)=Θ:=by rw[gE JJ.1.1];show(Θ&&(backTo Jm (Ν args X.env)).all (fun x=>!x.1))=Θ;rw[Bool.true_and,O_];intro y hy;have:=List.any_eq_false.mp star y hy;simpa using this
  have K8:((backTo Jm (Ν (a::args) X.env)).all (fun x=>!x.1)&&(backToKw Jm (keywordEach [] X.env)).all (fun x=>x.1.isSome)&&decide ((a::args).length+([]:List Keyword).length+(if([]:List Keyword).isEmpty then 0 else 1) < 30))=Θ:=by rw[Uu];have:decide ((a::args).length+([]:List Keyword).length+(if([]:List Keyword).isEmpty then 0 else 1) < 30)=Θ:=B_ (by simp at hlen ⊢;omega);rw[this];rfl
  refine gN ?_ mono;cases m with
  |join=>exact nM PySem.F.plainAttrs_str PySem.F.slot_str_join PySem.F.type_str_join (oH .join fun z=>by cases z) ho h LV K8 hl (gE JJ.1.1 args X.env) star
  |index=>exact nM PySem.F.plainAttrs_str PySem.F.slot_str_index PySem.F.type_str_index (oH .index fun _=>g.calm (by rw[aae]at NL;exact NL.elim id fun z=>by cases z)) ho h LV K8 hl (gE JJ.1.1 args X.env) star
  |starts=>exact nM PySem.F.plainAttrs_str PySem.F.slot_str_startswith PySem.F.type_str_startswith (oH .starts fun z=>by cases z) ho h LV K8 hl (gE JJ.1.1 args X.env) star
end
section
variable {Z:Sg}{CX:KD}{cl:Nat->List D->Res D}{X:Cx}{G:Gm}
theorem lW {K:Frag}{S:Ω->Prop}{H:Hp}{w:V}{y:D}{q:Key}(m:Iq K S H w y)(h:kl y=Δ q):w=kV q:=by
 induction y using zD with
 |int i=>cases h;cases m.Jv;rfl
 |str x=>cases h;cases m.JH;rfl
 |_=>cases h
theorem kK {K:Frag}{S:Ω->Prop}{H:Hp}{κ:Type} [DecidableEq κ](q:κ):∀(kvs:List (κ×V)) (ds:List D),Io K S H (kvs.map (·.2)) ds->
  (∀d,look (kvs.map (·.1)) ds q=Δ d->∃v,ka kvs q=Δ v/\Iq K S H v d)/\(look (kvs.map (·.1)) ds q).isSome=(ka kvs q).isSome:=by
 intro kvs
 induction kvs with
 |nil=>intro ds _;exact⟨fun d h=>(by cases h),rfl⟩
 |cons p kvs ih=>
  intro ds m;rw[b_]at m;cases ds with
  |nil=>exact absurd m.length (by simp)
  |cons d ds=>
   cases m with
   |cons m1 m2=>
    obtain⟨i1,i2⟩:=ih ds m2;have e1:look ((p::kvs).map (·.1)) (d::ds) q=if p.1=q then Δ d else look (kvs.map (·.1)) ds q:=rfl
    rw[e1];unfold ka at i1 i2 ⊢;rw[List.find?_cons];by_cases h:p.1=q
    ·rw[e_ h,B_ h];exact⟨fun d' z=>⟨p.2,rfl,by cases z;exact m1⟩,rfl⟩
    ·rw[d_ h,H_ h];exact⟨i1,i2⟩
theorem Iq.Pq {K:Frag}{S:Ω->Prop}{H:Hp}{v:V}{o:Bool}{ks:List Key}{ds:List D}(h:Iq K S H v (.Ju o ks ds)):∃a kvs,v=.ref a/\Rd H a (.dK kvs)/\kvs.map (·.1)=ks/\Io K S H (kvs.map (·.2)) ds:=by
 cases h with
 |Ju h0 h1 h2 h3=>exact⟨_,_,rfl,h1,h2,h3⟩
theorem Iq.Ra {K:Frag}{S:Ω->Prop}{H:Hp}{v:V}{o:Bool}{ks:List (List TK)}{ds:List D}(h:Iq K S H v (.Jy o ks ds)):∃a kvs,v=.ref a/\Rd H a (.dT kvs)/\(kp kvs).map (·.1)=ks/\ml K H kvs/\Io K S H ((kp kvs).map (·.2)) ds:=by
 cases h with
 |Jy h0 h1 h2 h3=>exact⟨_,_,rfl,h1,h2.1,h2.2,h3⟩
theorem sP {K:Frag}{S:Ω->Prop}{H:Hp}{w:V}{y:D}{q:List TK}(m:Iq K S H w y)(h:jq y=Δ q):∃b,w=.ref b/\JC K H b (q.map Na):=by
 induction y using zD with
 |tup ds=>
  obtain⟨a,xs,rfl,h1,h2⟩:=m.J9;have e:∀(ds:List D) (xs:List V) (q:List TK),Io K S H xs ds->rq ds=Δ q->xs=q.map Na:=by
   intro ds
   induction ds with
   |nil=>intro xs q h2 h;cases h;cases h2;rfl
   |cons d ds ih=>
    intro xs q h2 h;cases h2 with
    | @cons v _ vs _ k1 k2=>
     have h':(match Q5 d with|some k=>(rq ds).map (k::·)|none=>Φ)=Δ q:=h;cases e1:Q5 d with
     |none=>rw[e1]at h';cases h'
     |some k=>
      rw[e1]at h';obtain⟨q',h3,rfl⟩:=aas.mp h';rw[b_,ih _ _ k2 h3];congr 1
      induction d using zD with
      |Iw=>cases e1;exact k1.Ku
      |int i=>cases e1;exact k1.Jv
      |str i=>cases e1;exact k1.JH
      |_=>cases e1
  rw[<- e ds xs q h2 h];exact⟨a,rfl,h1⟩
 |_=>cases h
theorem De {pos:Pos}:PE X (.Dict [] [] pos) (RD X.K [] (Iu cl .Lc)):=by refine gN p7 fun σ H Q ⟨S,τ,hs,q⟩=>fun p hp=>?_;exact q.ok _ _ (.upd hp) (.Jy (kvs:=[]) (.inr hp) (.inl gI) ⟨rfl,fun _ h=>nomatch h⟩ .nil)
theorem Df {pos:Pos}:PE X (.Dict [] [] pos) (RD X.K [] (Iu cl .Lq)):=by refine gN p6 fun σ H Q ⟨S,τ,hs,q⟩=>fun p hp=>?_;exact q.ok _ _ (.upd hp) (.Ju (kvs:=[]) (.inr hp) (.inl gI) rfl .nil)
theorem Dg (g:JL Z CX cl X G){a b:Expr}{pos:Pos}{va vb:List Nat}{fa fb:Ev->Res D}(ha:PE X a (RD X.K va fa))(hb:PE X b (RD X.K vb fb))(hp:iE b=Θ) :
  PE X (.Subscript a b pos) (RD X.K (va++vb) fun τ=>Ii (fa τ) fun x=>Ii (fb τ) fun y=>Bd x y):=by
 have hu:=g.un;refine gN (zp (by omega) ha hb fun o i=>by cases b<;>first|rfl|cases hp) fun σ H Q ⟨S,τ,hs,q⟩=>?_;refine gX (.refl _) hs.left (Ip.Ii q) fun x v H1 e1 _ m1 q1=>?_;refine gX e1 hs.right (Ip.Ii q1) fun y w H2 e2 J8 m2 q2=>?_
 induction x using zD with
 |Ju o ks ds=>
  have q3:Ip (match kl y with|some q=>(match look ks ds q with|some d=>.ok d|none=>Ji)|none=>Ji) (Kk X.K S H Q):=q2;cases hk:kl y with
  |none=>rw[hk]at q3;exact q3.no.elim
  |some k=>
   simp only[hk]at q3;obtain⟨p,kvs,rfl,h1,rfl,h3⟩:=(m1.later J8).Pq;cases hl:look (kvs.map (·.1)) ds k with
   |none=>rw[hl]at q3;exact q3.no.elim
   |some d=>rw[hl]at q3;obtain⟨v,hv,mv⟩:=(kK k kvs ds h3).1 d hl;exact⟨p,v,rfl,⟨kvs,k,h1,lW m2 hk,hv.symm⟩,q3.ok _ _ e2 mv⟩
 |_=>exact q2.no.elim
theorem jw {is:List Nat}{f:Ev->Res D}{σ:St}{H:Hp}{Q Q':VK}(h:RD X.K is f σ H Q)(m:∀v H',Q v H'->Q' v H'):RD X.K is f σ H Q':=by obtain⟨S,τ,hs,q⟩:=h;exact⟨S,τ,hs,q.mono fun d hd w H' e r=>m w H' (hd w H' e r)⟩
theorem qv {n:Bool}{va vb:List Nat}{fa fb:Ev->Res D}{σ:St}{H:Hp}{Q:VK}(h:RD X.K (vb++va) (fun τ=>Ii (fb τ) fun y=>Ii (fa τ) fun x=>qh n x y) σ H Q) :
  RD X.K vb fb σ H fun y H1=>RD X.K va fa σ H1 fun x H2=>∃a o,x=.ref a/\oy H2 a y o/\Q (.bl (n != o.isSome)) H2:=by
 obtain⟨S,τ,hs,q⟩:=h;refine gX (.refl _) hs.left (Ip.Ii q) fun y w H1 e1 _ m1 q1=>?_;refine gX e1 hs.right (Ip.Ii q1) fun x v H2 e2 J8 m2 q2=>?_
 induction x using zD with
 |Ju o ks ds=>
  have q3:Ip (match kl y with|some q=>.ok (.bl (n != (look ks ds q).isSome))|none=>Ji) (Kk X.K S H Q):=q2;cases hk:kl y with
  |none=>rw[hk]at q3;exact q3.no.elim
  |some k=>simp only[hk]at q3;obtain⟨p,kvs,rfl,h1,rfl,h3⟩:=m2.Pq;rw[(kK k kvs ds h3).2]at q3;exact⟨p,_,rfl,⟨kvs,k,h1,lW (m1.later J8) hk,rfl⟩,q3.ok _ _ e2 (.bl _)⟩
 |_=>exact q2.no.elim
theorem nW {n:Bool}{va vb:List Nat}{fa fb:Ev->Res D}{σ:St}{H:Hp}{Q:Bool->Hp->Prop}(h:RT X.K (vb++va) (fun τ=>Ii (Ii (fb τ) fun y=>Ii (fa τ) fun x=>qh n x y) g8) σ H Q) :
  RD X.K vb fb σ H fun y H1=>RD X.K va fa σ H1 fun x H2=>∃a o,x=.ref a/\oy H2 a y o/\∃c,V.bl (n != o.isSome)=.bl c/\Q c H2:=by
 obtain⟨S,τ,hs,q⟩:=h;refine gX (.refl _) hs.left (Ip.Ii (Ip.Ii q)) fun y w H1 e1 _ m1 q1=>?_;refine gX e1 hs.right (Ip.Ii q1) fun x v H2 e2 J8 m2 q2=>?_
 induction x using zD with
 |Ju o ks ds=>
  cases hk:kl y with
  |none=>
   have q3:qh n (.Ju o ks ds) y=Ji:=by show((match kl y with|some q=>.ok (.bl (n != (look ks ds q).isSome))|none=>Ji:Res D))=_;rw[hk]
   rw[q3]at q2;exact q2.no.elim
  |some k=>
   have q3:qh n (.Ju o ks ds) y=.ok (.bl (n != (look ks ds k).isSome)):=by show((match kl y with|some q=>.ok (.bl (n != (look ks ds q).isSome))|none=>Ji:Res D))=_;rw[hk]
   rw[q3]at q2;obtain⟨p,kvs,rfl,h1,rfl,h3⟩:=m2.Pq;rw[(kK k kvs ds h3).2]at q2;exact⟨p,_,rfl,⟨kvs,k,h1,lW (m1.later J8) hk,rfl⟩,_,rfl,(q2.ok).ok _ e2⟩
 |_=>exact q2.no.elim
theorem Ft (g:JL Z CX cl X G){n:Bool}{a b:Expr}{pos:Pos}{va vb:List Nat}{fa fb:Ev->Res D}(hb:PE X b (RD X.K vb fb))(ha:PE X a (RD X.K va fa))(hm:behindInMarks (uG n) a=Ξ) :
  PE X (.Compare b [uG n] [a] pos) (RD X.K (vb++va) fun τ=>Ii (fb τ) fun y=>Ii (fa τ) fun x=>qh n x y)/\
  PT X (.Compare b [uG n] [a] pos) (RT X.K (vb++va) fun τ=>Ii (Ii (fb τ) fun y=>Ii (fa τ) fun x=>qh n x y) g8):=by
 have hu:=g.un;cases n with
 |false=>
  refine⟨gN (uU (vq (by omega) hb ha) hm) fun σ H Q h=>?_,kj (uV (vq (by omega) hb ha) hm) fun σ H Q h=>?_⟩
  ·refine jw (qv h) fun y H1 z=>jw z fun x H2 ⟨p,o,e,d,q⟩=>⟨p,o,e,d,?_⟩
   rw[show(Ξ != o.isSome)=o.isSome by cases o.isSome<;>rfl]at q;exact q
  ·refine jw (nW h) fun y H1 z=>jw z fun x H2 ⟨p,o,e,d,q⟩=>⟨p,o,e,d,?_⟩
   rw[show(Ξ != o.isSome)=o.isSome by cases o.isSome<;>rfl]at q;exact q
 |true=>
  refine⟨gN (uU (nP (by omega) hb ha) hm) fun σ H Q h=>?_,kj (uV (nP (by omega) hb ha) hm) fun σ H Q h=>?_⟩
  ·refine jw (qv h) fun y H1 z=>jw z fun x H2 ⟨p,o,e,d,q⟩=>⟨p,o,e,d,?_⟩
   rw[show(Θ != o.isSome) = !o.isSome by cases o.isSome<;>rfl]at q;exact q
  ·refine jw (nW h) fun y H1 z=>jw z fun x H2 ⟨p,o,e,d,q⟩=>⟨p,o,e,d,?_⟩
   rw[show(Θ != o.isSome) = !o.isSome by cases o.isSome<;>rfl]at q;exact q
end
section
variable {Z:Sg}{CX:KD}{cl:Nat->List D->Res D}{X:Cx}{G:Gm}
theorem zY (g:JL Z CX cl X G){o s f:Expr}{apos Jm:Pos}{va vb vc:List Nat}{fa fb fc:Ev->Res D}(hn:isNm o=Θ)(hl:(apos.endLine == Jm.line)=Θ)(h1:notStar s=Θ)(h2:notStar f=Θ)(ha:PE X o (RD X.K va fa))(hb:PE X s (RD X.K vb fb))(hc:PE X f (RD X.K vc fc)) :
  PE X (.Call (.Attribute o "get" apos) [s,f] [] Jm) (RD X.K (va++vb++vc) fun τ=>Ii (fa τ) fun x=>Iy (rA x) (Ii (fb τ) fun y=>Ii (fc τ) fun z=>rB x y z)):=by
 have hu:=g.un;have Wm:backTo Jm (Ν [s,f] X.env)=[(Ξ,eval s X.env),(Ξ,eval f X.env)]:=by rw[gE h1,gE h2];rfl
 refine gN (vx (by omega) ha hb hc ⟨(by cases o<;>first|rfl|cases hn),(by rw[Wm];rfl),hl,Wm⟩) fun σ H Q ⟨S,τ,hs,q⟩=>?_;refine gX (.refl _) hs.left.left (Ip.Ii q) fun x v H1 e1 _ m1 q1=>?_;obtain⟨gd,q1⟩:=Ip.Iy q1
 induction x using zD with
 |Jy o ks ds=>
  obtain⟨a,kvs,rfl,rd,_,_,m⟩:=m1.Ra;refine⟨a,rfl,⟨kvs,rd⟩,gX e1 hs.left.right (Ip.Ii q1) fun y w H2 e2 J8 m2 q2=>?_⟩;refine gX e2 hs.right (Ip.Ii q2) fun z u H3 e3 Nw m3 q3=>?_;have q4:Ip (match jq y with|some q=>.ok ((look ks ds q).getD z)|none=>Ji) (Kk X.K S H Q):=q3;cases hk:jq y with
  |none=>rw[hk]at q4;exact q4.no.elim
  |some k=>
   simp only[hk]at q4;obtain⟨a',MQ,ea,Yp,rfl,t',m'⟩:=((m1.later J8).later Nw).Ra;cases ea;obtain⟨b,rfl,hb⟩:=sP (m2.later Nw) hk;refine⟨MQ,k,b,Yp,t',rfl,hb,?_⟩;obtain⟨l1,l2⟩:=kK k (kp MQ) ds m';cases hl:look ((kp MQ).map (·.1)) ds k with
   |none=>
    rw[hl]at q4 l2;have:ka (kp MQ) k=Φ:=by
     cases zv:ka (kp MQ) k with
     |none=>rfl
     |some _=>rw[zv]at l2;cases l2
    rw[this];exact q4.ok _ _ e3 m3
   |some d=>rw[hl]at q4;obtain⟨v',Pl,Yq⟩:=l1 d hl;rw[Pl];exact q4.ok _ _ e3 Yq
 |_=>cases gd
theorem zZ (ns:List Int):∀n,MR 1 (.int n) (ns.map V.int)=.int (iU n ns):=by
 induction ns with
 |nil=>intro n;rfl
 |cons m r ih=>
  intro n;show MR 1 (bif decide (m > n) then V.int m else V.int n) (r.map V.int)=.int (iU (if n < m then m else n) r);rw[<- ih];by_cases h:n < m
  ·rw[e_ h,B_ (show m > n from h)];rfl
  ·rw[d_ h,H_ (show ¬m > n from h)];rfl
theorem Aa (ns:List Int):∀n,MR 2 (.int n) (ns.map V.int)=.int (jR n ns):=by
 induction ns with
 |nil=>intro n;rfl
 |cons m r ih=>
  intro n;show MR 2 (bif decide (m < n) then V.int m else V.int n) (r.map V.int)=.int (jR (if m < n then m else n) r);rw[<- ih];by_cases h:m < n
  ·rw[e_ h,B_ h];rfl
  ·rw[d_ h,H_ h];rfl
theorem Ab (ns:List Str):∀n,MR 0 (.str n) (ns.map V.str)=.str (kB n ns):=by
 induction ns with
 |nil=>intro n;rfl
 |cons m r ih=>
  intro n;show MR 0 (bif decide ((m.length:Int) > n.length) then V.str m else V.str n) (r.map V.str)=.str (kB (if n.length < m.length then m else n) r);rw[<- ih];by_cases h:n.length < m.length
  ·rw[e_ h,B_ (show(m.length:Int) > n.length by omega)];rfl
  ·rw[d_ h,H_ (show ¬(m.length:Int) > n.length by omega)];rfl
theorem Fu (g:JL Z CX cl X G){b v:Expr}{p kp pos:Pos}{va:List Nat}{fa:Ev->Res D}(h1:G.Mr 3=Θ)(h2:wA v=Θ)(h3:G.gl.contains 0=Θ)(hn:notStar b=Θ)(ha:PE X b (RD X.K va fa)) :
  PE X (.Call (.Name "max" p) [b] [⟨Δ "key",v,kp⟩] pos) (RD X.K va fun τ=>Ii (fa τ) zL):=by
 obtain⟨k1,k2,k3,k4⟩:=jF g (show iz[3]? = Δ ("max" : Str) from rfl) (oJ h1);obtain⟨j1,j2,j3,j4⟩:=jF g (show iz[0]? = Δ ("len" : Str) from rfl) h3;obtain⟨pv,rfl⟩:∃pv,v=.Name "len" pv:=by
  induction v using zE with
  |Name x q=>exact⟨q,by rw[h_ (show(x == "len")=Θ from h2)]⟩
  |_=>cases h2
 intro pins s σ H Q I ⟨S,τ,hs,q⟩;have JZ:Ν [b] X.env=[(Ξ,eval b X.env)]:=gE hn [] X.env;refine wpAny_Call_Name_kw (jI I k1 k2 (show bootBuiltins "max" = Δ (.builtin "max") by decide +kernel) (callWith_kw (Jr (ij ha iW JZ pos pins s σ H (fun vs H1=>∃a xs,vs=[.ref a]/\JX X.K H1 a xs/\(∀v∈xs,NG 0 v)/\(0=0->xs≠[])/\Q (Sw 0 xs) H1) I ?_) fun us s1 ⟨vs,H1,I1,r1,q1⟩=>?_) (by rw[JZ];rfl) (by rw[JZ];rfl)) k3 k4)
 ·refine gX (.refl _) hs (Ip.Ii q) fun x w H1 e1 _ m1 q1=>?_
  induction x using zD with
  |lst o ds=>
   have q2:Ip (match ia ds with|some (x::xs)=>Iy ((x::xs).all fun y=>iu y.length) (.ok (.str (kB x xs)))|_=>Ji) (Kk X.K S H Q):=q1;obtain⟨a,ys,rfl,sq,m⟩:=m1.JK;cases z:ia ds with
   |none=>rw[z]at q2;exact q2.no.elim
   |some ns=>
    cases ns with
    |nil=>rw[z]at q2;exact q2.no.elim
    |cons n ns=>
     rw[z]at q2;obtain⟨gd,q2⟩:=Ip.Iy q2;rw[jN z]at m;cases m.strs;refine⟨a,_,rfl,sq,fun v hv=>?_,fun _=>(by simp),?_⟩
     ·obtain⟨x,hx,rfl⟩:=List.mem_map.mp hv;exact⟨x,rfl,iI (O_.mp gd x hx)⟩
     ·show Q (MR 0 (.str n) (ns.map V.str)) H1;rw[Ab];exact q2.ok _ _ e1 (.str _)
  |_=>exact q1.no.elim
 ·obtain⟨a,xs,rfl,sq,ok,ne,q2⟩:=q1;obtain⟨u,rfl,r⟩:=vals1 r1;cases r;refine kws_cons (jI I1 j1 j2 (show bootBuiltins "len" = Δ (.builtin "len") by decide +kernel) (kws_nil ?_) j3 j4);exact so (m:=0) (.inl rfl) (g.calm (oK h1)) I1 sq ok ne q2
theorem Fv (g:JL Z CX cl X G){c:Bool}{b v:Expr}{p kp pos:Pos}{va vd:List Nat}{fa fd:Ev->Res D}(h1:G.Mr (bif c then 3 else 2)=Θ)(hn:notStar b=Θ)(ha:PE X b (RD X.K va fa))(hd:PE X v (RD X.K vd fd)) :
  PE X (.Call (.Name (N4 (bif c then 1 else 2)) p) [b] [⟨Δ "default",v,kp⟩] pos) (RD X.K (va++vd) fun τ=>Ii (fa τ) fun x=>Ii (fd τ) fun y=>CW c x y):=by
 obtain⟨k1,k2,k3,k4⟩:=jF g (show iz[(bif c then 3 else 2)]? = Δ (N4 (bif c then 1 else 2):Str) by cases c<;>rfl) (oJ h1);have hm:(bif c then 1 else 2)=0∨(bif c then 1 else 2)=1∨(bif c then 1 else 2)=2:=by cases c<;>simp
 have hw:N5 (bif c then 1 else 2)=([(("default" : Str),Value.none)]:List (Str×Ψ)):=by cases c<;>rfl
 intro pins s σ H Q I ⟨S,τ,hs,q⟩;have JZ:Ν [b] X.env=[(Ξ,eval b X.env)]:=gE hn [] X.env;refine wpAny_Call_Name_kw (jI I k1 k2 (show bootBuiltins (N4 (bif c then 1 else 2):Str)=Δ (.builtin (N4 (bif c then 1 else 2))) by cases c<;>decide +kernel) (callWith_kw (Jr (ij ha iW JZ pos pins s σ H (fun vs H1=>∃w,vs=[w]/\RD X.K vd fd σ H1 fun y H2=>y=.Iw/\∃a xs,w=.ref a/\JX X.K H2 a xs/\(∀v∈xs,NG (bif c then 1 else 2) v)/\((bif c then 1 else 2)=0->xs≠[])/\Q (Sw (bif c then 1 else 2) xs) H2) I ?_) fun us s1 ⟨vs,H1,I1,r1,q1⟩=>?_) (by rw[JZ];rfl) (by rw[JZ];rfl)) k3 k4)
 ·refine gX (.refl _) hs.left (Ip.Ii q) fun x w H1 e1 _ m1 q1=>⟨w,rfl,?_⟩
  refine gX e1 hs.right (Ip.Ii q1) fun y u H2 e2 J8 m2 q2=>?_
  induction x using zD with
  |lst o ds=>
   induction y using zD with
   |Iw=>
    refine⟨m2.Ku,?_⟩;have q3:Ip (match ik ds with|some []=>.ok .Iw|some (n::ns)=>.ok (.int (bif c then iU n ns else jR n ns))|none=>Ji) (Kk X.K S H Q):=q2;obtain⟨a,ys,rfl,sq,m⟩:=(m1.later J8).JK;cases z:ik ds with
    |none=>rw[z]at q3;exact q3.no.elim
    |some ns=>
     rw[z]at q3;rw[jM z]at m;cases m.ints;refine⟨a,_,rfl,sq,fun v hv=>?_,fun h=>(by cases c<;>cases h),?_⟩
     ·obtain⟨x,hx,rfl⟩:=List.mem_map.mp hv;cases c<;>exact⟨x,rfl⟩
     ·cases ns with
      |nil=>exact q3.ok _ _ e2 .Iw
      |cons n ns=>
       have q4:=q3.ok _ _ e2 (.int (bif c then iU n ns else jR n ns));show Q (MR _ (.int n) (ns.map V.int)) H2;cases c
       ·show Q (MR 2 (.int n) (ns.map V.int)) H2;rw[Aa];exact q4
       ·show Q (MR 1 (.int n) (ns.map V.int)) H2;rw[zZ];exact q4
   |_=>exact q2.no.elim
  |_=>exact q2.no.elim
 ·obtain⟨w,rfl,q2⟩:=q1;obtain⟨u,rfl,r⟩:=vals1 r1;refine kws_cons (Jr (hd pins s1 σ H1 _ I1 q2) fun kv s2 ⟨y,H2,I2,ry,ey,a,xs,ew,sq,ok,ne,q3⟩=>kws_nil ?_);subst ey ew;cases(show u=θ a from r);cases(show kv=Value.none from ry);have:=so hm (g.calm (oK h1)) I2 sq ok ne q3;rw[hw]at this;exact this
end
section
variable {prog:Ε}{w:Β}{A:Ι}{E:Ψ->Α->Prop}{s:Α}
theorem mR {it t:Ω}{items:Array Ψ}(Kx:t≠it):∀(n i:Nat) (s:Α) (Q:List Ψ->Α->Prop),s.heap.IsListIter it t i->s.heap.IsList t items->i+n<=items.size->
  (∀h',h'.IsListIter it t (i+n)->Heap.SameBut it s.heap h'->Q ((items.toList.drop i).take n) {s with heap:=h'})->Κ (Μ prog w) A (draw (.ref it) n) Q E s
 |0,i,s,Q,hit,_,_,hQ=>by show Κ _ _ (pure []) Q E s;exact f_ (by simpa using hQ s.heap hit (Heap.SameBut.refl ..))
 |n+1,i,s,Q,hit,ht,hle,hQ=>by
  have JT:i < items.size:=by omega
  show Κ _ _ (pyNext (.ref it) >>= _) Q E s;refine a_ (wpAny_pyNext_list_item hit ht (x:=items[i]) (by simp[JT]) fun N3 Ms L5=>?_);refine a_ (M_ (mR Kx n (i+1) _ _ Ms (ht.extBut L5.extBut Kx) (by omega) fun Ml Pr Rb=>f_ ?_));have hd:items.toList.drop i=items[i]::items.toList.drop (i+1):=by simp[List.drop_eq_getElem_cons,JT]
  have:=hQ Ml (by rw[show i+(n+1)=i+1+n by omega];exact Pr) (L5.trans Rb);rw[hd,List.take_succ_cons]at this;exact this
theorem lq {t:Ω}{items:Array Ψ}{Q:List Ψ->Α->Prop}(hh:A.handled=Φ)(ht:s.heap.IsList t items)
  (hQ:∀h',Heap.ExtBut s.heap.objs.size s.heap h'->Q items.toList {s with heap:=h'}):Κ (Μ prog w) A (unpackItems (.ref t) items.size Φ) Q E s:=by
 have JT:t≠s.heap.objs.size:=by obtain⟨o,ho,_⟩:=ht;exact z_ (m_ ho)
 have push:∀o,(s.heap.push o).IsList t items:=fun o=>by obtain⟨ob,e,c,n,d⟩:=ht;exact⟨ob,n_ _ e,c,n,d⟩
 unfold unpackItems;refine a_ ?_
 ·unfold notIterableAtAll;refine a_ (wpAny_specialOf ht.typeIs slot_list_iter.lookup ?_);refine f_ ?_;simp only[X_,if_false];refine a_ (M_ (aad ht ?_));refine a_ (M_ (mR JT items.size 0 _ _ ⟨_,A_ _ rfl,rfl,rfl⟩ (push _) (by omega) fun N3 Ms L5=>?_));have Ln:List.take items.size (List.drop 0 items.toList)=items.toList:=by rw[List.drop_zero];exact List.take_of_length_le (by simp)
  rw[Ln];rw[d_ (by simp)];have Rc:N3.IsList t items:=(push _).extBut L5.extBut JT;refine a_ (M_ (wpAny_pyNext_list_end hh Ms Rc (by simp) fun Ml Rf=>?_));simp only[Option.isSome_none,X_,if_false];refine f_ (hQ Ml fun b o hb e=>Rf b o hb (L5.extBut b o hb (n_ _ e)))
end
def Fw (K:Frag)(n:Nat)(t:Oy):TG:=fun v σ H Q=>∃a xs,v=.ref a/\(JC K H a xs∨JX K H a xs)/\xs.length=n/\t xs σ H Q
theorem Dh {X:Cx}{pos:Pos}{es:List Expr}{k:Nat}{t:Oy}{n:Nat}(hc:X.calm=Θ)(h:QC X es t)(hn:(assignEach es X.env).length=n)(JZ:(assignEach es X.env).findIdx? (·.1)=Φ):PG X (.Tuple es k pos) (Fw X.K n t):=by
 intro pins s σ H v u Q I r hw;obtain⟨a,xs,e1,hq,hl,hw⟩:=hw;subst e1;cases r;rcases hq with hq|hq
 ·obtain⟨its,rv,ht,hz⟩:=I.tuple hq;refine assign_Tuple_tuple (I.ok.hd hc) ht (by simp[hn,<- hl,rv.length]) JZ fun h' hx=>?_;have I1:Inv X pins σ H {s with heap:=h'}:=I.kept (t':=s.toks) fun b o e=>hx b o (z_ (m_ e)) e;exact h pins _ σ H xs _ Q I1 (by simpa using rv) hw
 ·obtain⟨its,rv,pl,hz⟩:=I.list hq;rw[assign_Tuple];refine a_ (wpAny_standAt ?_);unfold unpack;have hlen:(assignEach es X.env).length=its.toArray.size:=by simp[hn,<- hl,rv.length]
  rw[hlen,JZ];refine a_ (M_ (lq (I.ok.hd hc) pl.isList fun h' hx=>?_));have I1:Inv X pins σ H {s with heap:=h'}:=I.kept (t':=s.toks) fun b o e=>hx b o (z_ (m_ e)) e;exact h pins _ σ H xs _ Q I1 (by simpa using rv) hw
mutual
def gT (K:Frag):Tg->TG
 |.nm i=>uY i
 |.tp ts=>Fw K ts.length (Rg K ts)
def Rg (K:Frag):List Tg->Oy
 |[]=>EE
 |t::ts=>A9 (gT K t) (Rg K ts)
end
theorem kL {e:Expr}(h:notStar e=Θ)(es:List Expr)(env:Env):assignEach (e::es) env=(Ξ,assign e env)::assignEach es env:=by
 induction e using zE<;>first|rfl|cases h
section
variable {Z:Sg}{CX:KD}{cl:Nat->List D->Res D}{X:Cx}{G:Gm}
theorem mS (G:Gm):∀ {ts:List Tg}{es:List Expr} (env:Env),kf G ts es=Θ->(assignEach es env).length=ts.length/\(assignEach es env).findIdx? (·.1)=Φ
 |[],[],_,_=>⟨rfl,rfl⟩
 |t::ts,e::es,env,h=>by have h':(notStar e&&jr G t e&&kf G ts es)=Θ:=h;simp only[j_]at h';obtain⟨h1,h2⟩:=mS G (ts:=ts) (es:=es) env h'.2;rw[kL h'.1.1];refine⟨by rw[List.length_cons,h1,List.length_cons],?_⟩;rw[List.findIdx?_cons,d_ (by simp),h2];rfl
 |[],_::_,_,h=>by cases h
 |_::_,[],_,h=>by cases h
mutual
theorem Pt (g:JL Z CX cl X G):∀(t:Tg) (e:Expr),jr G t e=Θ->PG X e (gT X.K t)
 |.nm i,e,h=>by
  induction e using zE with
  |Name x pos=>
   have h':(G.N[i]? == Δ x&&(G.kd[i]? == Δ .local||(G.df&&G.kd[i]? == Δ .cell)))=Θ:=(y_.mp h).1;rw[j_,aae,j_]at h';obtain⟨h1,h2⟩:=h';have hx:G.N[i]? = Δ x:=h_ h1;have hk:=g.kd i x hx;refine yW (by rw[g.N];exact g.J7) (by rw[g.N];exact hx) ?_ ?_
   ·rcases h2 with h2|h2
    ·exact .inl (hk.trans (h_ h2))
    ·exact .inr (hk.trans (h_ h2.2))
   ·rcases h2 with h2|h2
    ·exact .inr (hk.trans (h_ h2))
    ·exact .inl (g.df h2.1 x)
  |_=>cases h
 |.tp ts,e,h=>by
  induction e using zE with
  |Tuple es k pos=>have h0:(G.cm&&kf G ts es)=Θ:=h;rw[j_]at h0;have h':=h0.2;obtain⟨h1,h2⟩:=mS G X.env h';exact Dh (g.calm h0.1) (Fx g ts es h') h1 h2
  |_=>cases h
theorem Fx (g:JL Z CX cl X G):∀(ts:List Tg) (es:List Expr),kf G ts es=Θ->QC X es (Rg X.K ts)
 |[],[],_=>yX
 |t::ts,e::es,h=>by have h':(notStar e&&jr G t e&&kf G ts es)=Θ:=h;simp only[j_]at h';exact uZ (Pt g t e h'.1.2) (Fx g ts es h'.2) (by rw[kL h'.1.1];rfl)
 |[],_::_,h=>by cases h
 |_::_,[],h=>by cases h
end
end
mutual
theorem kM {G:Gm}:∀(t:Tg) (e:Expr),jr G t e=Θ->∀j∈Lg t,G.io≠Δ j
 |.nm i,e,h,j,hj=>by
  induction e using zE with
  |Name x pos=>
   have h':=(y_.mp (show((G.N[i]? == Δ x&&(G.kd[i]? == Δ .local||(G.df&&G.kd[i]? == Δ .cell)))&&G.io != Δ i)=Θ from h)).2;have e:j=i:=by simpa[Lg] using hj
   subst e;simpa using h'
  |_=>cases h
 |.tp ts,e,h,j,hj=>by
  induction e using zE with
  |Tuple es k pos=>have h0:(G.cm&&kf G ts es)=Θ:=h;exact qw ts es (y_.mp h0).2 j hj
  |_=>cases h
theorem qw {G:Gm}:∀(ts:List Tg) (es:List Expr),kf G ts es=Θ->∀j∈qr ts,G.io≠Δ j
 |[],_,_,j,hj=>by cases hj
 |t::ts,[],h,_,_=>by cases h
 |t::ts,e::es,h,j,hj=>by
  have h':(notStar e&&jr G t e&&kf G ts es)=Θ:=h;simp only[j_]at h';rcases o_.mp (show j∈Lg t++qr ts from hj) with hj|hj
  ·exact kM t e h'.1.2 j hj
  ·exact qw ts es h'.2 j hj
end
def Qj (K:Frag)(S:Ω->Prop)(H:Hp)(σ:St)(τ:Ev):Prop:=τ.length=σ.length/\∀i d,gF τ i=Δ d->∃v,σ[i]? = Δ (Δ v)/\Iq K S H v d
theorem uH {τ:Ev}{i j:Nat}{o:Option D}:gF (τ.set i o) j=if i=j/\i < τ.length then o else gF τ j:=by
 unfold gF;rw[List.getElem?_set];by_cases h:i=j
 ·subst h;by_cases h2:i < τ.length
  ·simp[h2]
  ·rw[e_ rfl,d_ h2,d_ (by omega)];rw[List.getElem?_eq_none (by omega)]
 ·rw[d_ h,d_ (by omega)]
section
variable {K:Frag}{S:Ω->Prop}{H:Hp}
mutual
theorem sQ:∀(t:Tg) {σ:St}{τ:Ev}{v:V}{d:D}{Kt:Ev->Prop}{Q:St->Hp->Prop},Qj K S H σ τ->Iq K S H v d->Ip (jf t d τ) Kt->
  (∀Jl Jp,Qj K S H Jp Jl->Jp.length=σ.length->(∀j,j∉Lg t->Jp[j]? = σ[j]?)->Kt Jl->Q Jp H)->gT K t v σ H Q
 |.nm i,σ,τ,v,d,Kt,Q,hs,m,h,k=>by
  refine k (τ.set i (Δ d)) (σ.set i (Δ v)) ⟨by rw[List.length_set,List.length_set,hs.1],fun j e z=>?_⟩ (by rw[List.length_set]) (fun j hj=>?_) h.ok
  ·rw[uH]at z;by_cases q:i=j/\i < τ.length
   ·rw[e_ q]at z;obtain⟨rfl,q⟩:=q;cases z;exact⟨v,by rw[List.getElem?_set_self (by rw[<- hs.1];exact q)],m⟩
   ·rw[d_ q]at z;obtain⟨w,h1,h2⟩:=hs.2 j e z;refine⟨w,?_,h2⟩;by_cases q2:i=j
    ·subst q2;exfalso;have:i < σ.length:=by have:=(E_.mp h1).1;exact this
     exact q ⟨rfl,by rw[hs.1];exact this⟩
    ·rw[List.getElem?_set_ne q2];exact h1
  ·have:i≠j:=fun z=>hj (by subst z;simp[Lg]);rw[List.getElem?_set_ne this]
 |.tp ts,σ,τ,v,d,Kt,Q,hs,m,h,k=>by
  induction d using zD with
  |tup ds=>obtain⟨a,xs,rfl,q,ms⟩:=m.J9;obtain⟨g,h⟩:=Ip.Iy h;have g':ds.length=ts.length:=u_ g;exact⟨a,xs,rfl,.inl q,by rw[ms.length,g'],mT ts hs ms h k⟩
  |lst o ds=>obtain⟨a,xs,rfl,q,ms⟩:=m.JK;obtain⟨g,h⟩:=Ip.Iy h;have g':ds.length=ts.length:=u_ g;exact⟨a,xs,rfl,.inr q,by rw[ms.length,g'],mT ts hs ms h k⟩
  |_=>exact h.no.elim
theorem mT:∀(ts:List Tg) {σ:St}{τ:Ev}{vs:List V}{ds:List D}{Kt:Ev->Prop}{Q:St->Hp->Prop},Qj K S H σ τ->Io K S H vs ds->Ip (kC ts ds τ) Kt->
  (∀Jl Jp,Qj K S H Jp Jl->Jp.length=σ.length->(∀j,j∉qr ts->Jp[j]? = σ[j]?)->Kt Jl->Q Jp H)->Rg K ts vs σ H Q
 |[],σ,τ,vs,ds,Kt,Q,hs,m,h,k=>by
  cases m with
  |nil=>exact⟨rfl,k τ σ hs rfl (fun _ _=>rfl) h.ok⟩
  |cons _ _=>exact h.no.elim
 |t::ts,σ,τ,vs,ds,Kt,Q,hs,m,h,k=>by
  cases m with
  |nil=>exact h.no.elim
  |cons m1 m2=>
   refine⟨_,_,rfl,sQ t hs m1 (Ip.Ii h) fun Jl Jp Ke hn hk h'=>?_⟩;refine mT ts Ke m2 h' fun Pu Pw Uv MO LF Uw=>k Pu Pw Uv (MO.trans hn) (fun j hj=>?_) Uw;have SJ:j∉Lg t/\j∉qr ts:=by constructor<;>(intro z;apply hj;simp[qr,z])
   rw[LF j SJ.2,hk j SJ.1]
end
end
section
variable {K:Frag}{S S':Ω->Prop}{H H':Hp}{J:It}{ds:List D}
theorem WS.step (hl:∀a (u:LD),S a->Rd H a u.o->S' a/\Rd H' a u.o)(ht:∀a xs,JC K H a xs->JC K H' a xs){k:Zp.Kq}{a:Ω}{xs:List V}(h:WS K S H k a xs):WS K S' H' k a xs:=by
 cases k with
 |l=>exact h.elim (fun z=>.inl (hl _ (.l _) z.1 z.2)) fun z=>.inr z
 |t=>exact ht _ _ h
theorem qy (ds:List D):(rD ds).length=ds.length:=by unfold rD;rw[List.length_zipWith,List.length_range,Nat.min_self]
theorem qz (ds es:List D):(kc ds es).length=min ds.length es.length:=by unfold kc;rw[List.length_zipWith]
theorem K2.step (hl:∀a (u:LD),S a->Rd H a u.o->S' a/\Rd H' a u.o)(ht:∀a xs,JC K H a xs->JC K H' a xs)(h:K2 K S H J ds):K2 K S' H' J ds:=by
 cases h with
 |lst h0 h1 h2=>exact .lst (hl _ (.l _) h0 h1).1 (hl _ (.l _) h0 h1).2 (h2.step hl ht)
 |lstK h1 h2=>exact .lstK h1 (h2.step hl ht)
 |tup h1 h2=>exact .tup (ht _ _ h1) (h2.step hl ht)
 |M1 lo hi=>exact .M1 lo hi
 |str x=>exact .str x
 |zip h1 h2 h3 h4=>exact .zip (h1.step hl ht) (h2.step hl ht) (h3.step hl ht) (h4.step hl ht)
 |MH h1 h2=>exact .MH (h1.step hl ht) (h2.step hl ht)
theorem K2.mono (h:K2 K S H J ds)(hS:∀a,S a->S' a)(e:gJ H H'):K2 K S' H' J ds:=h.step (fun a xs s r=>⟨hS a s,e.rd r⟩) fun a xs s=>e.Lo s
theorem mU (x:Str):(jV x).length=x.cps.size:=by unfold jV;simp
theorem iA (a b:Int):(iV a b).length=(b - a).toNat:=by unfold iV;simp
theorem K2.stop (h:K2 K S H J ds){i:Nat}(hi:ds.length=i):J.stop i H:=by
 cases h with
 |lst h0 h1 h2=>exact⟨_,.inl h1,by rw[h2.length];omega⟩
 |lstK h1 h2=>exact⟨_,h1.sq,by rw[h2.length];omega⟩
 |tup h1 h2=>exact⟨_,h1,by rw[h2.length];omega⟩
 |M1 lo LZ=>rw[iA]at hi;exact Nat.le_of_eq hi
 |str x=>rw[mU]at hi;exact Nat.le_of_eq hi
 |zip h1 h2 h3 h4=>exact⟨_,_,h1.sq,h2.sq,by rw[qz]at hi;rw[h3.length,h4.length];omega⟩
 |MH h1 h2=>exact⟨_,h1.sq,by rw[qy]at hi;rw[h2.length];omega⟩
theorem K2.go (h:K2 K S H J ds){i:Nat}(hi:i < ds.length):J.go i H:=by
 cases h with
 |lst h0 h1 h2=>obtain⟨v,hv,_⟩:=h2.get (i:=i) (d:=ds[i]) (by simp[hi]);exact⟨_,v,.inl h1,hv⟩
 |lstK h1 h2=>obtain⟨v,hv,_⟩:=h2.get (i:=i) (d:=ds[i]) (by simp[hi]);exact⟨_,v,h1.sq,hv⟩
 |tup h1 h2=>obtain⟨v,hv,_⟩:=h2.get (i:=i) (d:=ds[i]) (by simp[hi]);exact⟨_,v,h1,hv⟩
 |M1 lo LZ=>rw[iA]at hi;exact hi
 |str x=>rw[mU]at hi;exact hi
 |zip h1 h2 h3 h4=>
  rename_i ds' Me
  rw[qz]at hi;obtain⟨v,hv,_⟩:=h3.get (i:=i) (d:=ds'[i]) (by rw[R_]);obtain⟨u,hu,_⟩:=h4.get (i:=i) (d:=Me[i]) (by rw[R_]);exact⟨_,_,v,u,h1.sq,h2.sq,hv,hu⟩
 |MH h1 h2=>
  rename_i ds'
  rw[qy]at hi;obtain⟨v,hv,_⟩:=h2.get (i:=i) (d:=ds'[i]) (by rw[R_]);exact⟨_,v,h1.sq,hv⟩
theorem K2.NW (h:K2 K S H J ds){i:Nat}{x:V}{H2:Hp}(y:J.NW i H x H2){d:D}(hd:ds[i]? = Δ d):gJ H H2/\Iq K S H2 x d:=by
 have fin:∀ {xs:List V},Io K S H xs ds->xs[i]? = Δ x->Iq K S H x d:=fun m e=>by obtain⟨d',e',m'⟩:=m.N' e;rw[hd]at e';cases e';exact m'
 cases h with
 |lst h0 h1 h2=>obtain⟨e,y⟩:=y;subst e;exact⟨.refl _,fin h2 (y _ (.inl h1))⟩
 |lstK h1 h2=>obtain⟨e,y⟩:=y;subst e;exact⟨.refl _,fin h2 (y _ h1.sq)⟩
 |tup h1 h2=>obtain⟨e,y⟩:=y;subst e;exact⟨.refl _,fin h2 (y _ h1)⟩
 |zip h1 h2 h3 h4=>obtain⟨T,a,b,e1,hT,e2,hy⟩:=y;subst e1 e2;obtain⟨y1,y2⟩:=hy _ _ h1.sq h2.sq;obtain⟨d1,g1,m1⟩:=h3.N' y1;obtain⟨d2,g2,m2⟩:=h4.N' y2;unfold kc at hd;rw[List.getElem?_zipWith,g1,g2]at hd;cases hd;have e:gJ H (upd H T (.tup [a,b])):=.upd hT;exact⟨e,.tup (JC.of gI) (.cons (m1.mono (fun _ z=>z) e) (.cons (m2.mono (fun _ z=>z) e) .nil))⟩
 |MH h1 h2=>obtain⟨T,a,e1,hT,e2,hy⟩:=y;subst e1 e2;have y1:=hy _ h1.sq;obtain⟨d1,g1,m1⟩:=h2.N' y1;unfold rD at hd;have JT:=(E_.mp g1).1;rw[List.getElem?_zipWith,g1,List.getElem?_range JT]at hd;cases hd;have e:gJ H (upd H T (.tup [.int i,a])):=.upd hT;exact⟨e,.tup (JC.of gI) (.cons (.int _) (.cons (m1.mono (fun _ z=>z) e) .nil))⟩
 |M1 lo LZ=>
  obtain⟨e1,e2⟩:=y;subst e1;refine⟨.refl _,?_⟩;subst e2;unfold iV at hd;rw[L_]at hd;have hi:i < (LZ - lo).toNat:=by
   have:=(aas.mp hd)
   obtain⟨z,h1,_⟩:=this;have:=(E_.mp h1).1;simpa using this
  rw[List.getElem?_range hi]at hd;cases hd;exact .int _
 |str x=>
  obtain⟨e1,c,h1,e2⟩:=y;subst e1;refine⟨.refl _,?_⟩;subst e2;unfold jV at hd;rw[L_]at hd;have h2:x.cps.toList[i]? = Δ c:=by simpa using h1
  rw[h2]at hd;cases hd;exact .str _
end
section
variable {Z:Sg}{CX:KD}{cl:Nat->List D->Res D}{X:Cx}{G:Gm}{K:Frag}{S:Ω->Prop}{H H1:Hp}{σ:St}{τ:Ev}
theorem Fy {is:List Nat}{f:Ev->Res (List D)}{Kt:List D->Prop}{R:It->Hp->Prop}(e:gJ H H1)(hs:Slots K S H σ τ is)(h:Ip (f τ) Kt)(k:∀ds J H2,gJ H H2->gJ H1 H2->K2 K (nw S H) H2 J ds->Kt ds->R J H2):RI K is f σ H1 R:=
 ⟨nw S H,τ,hs.go e,h.mono fun x hx J H2 e2 m=>k x J H2 (e.trans e2) e2 (m.mono (nV e) (.refl _)) hx⟩
theorem sR {tg:Expr}{pins:List (Ω×Obj)}{s:Α}{a:Ω}{xs:List V}{R:It->Hp->Prop}(I:Inv X pins σ H s)(hq:JX X.K H a xs)(q:R (R9 X.K a) H):Κ (Μ X.prog X.w) X.A (pyIter (.ref a)) (P5 X pins σ tg R) X.xe s:=by
 obtain⟨its,rv,p,hz⟩:=I.list hq;refine aad p.isList ?_;refine⟨s.heap.objs.size,[s.heap.objs.size],_,_,H,rfl,I.kept (t':=s.toks) fun b o e=>n_ _ e,tW a _,⟨_,A_ _ rfl,rfl,rfl⟩,fun b hb=>?_,q⟩;have e:b=s.heap.objs.size:=by simpa using hb
 subst e;exact I.Mi (l_ _) (I.Jq.fresh (l_ _))
theorem wG {tg:Expr}{pins:List (Ω×Obj)}{s:Α}{a:Ω}{xs:List V}{R:It->Hp->Prop}(I:Inv X pins σ H s)(hq:JC X.K H a xs)(q:R (Te X.K a) H):Κ (Μ X.prog X.w) X.A (pyIter (.ref a)) (P5 X pins σ tg R) X.xe s:=by
 obtain⟨its,rv,p,hz⟩:=I.tuple hq;refine wpAny_pyIter_tuple (show s.heap.IsTuple a its.toArray from p) ?_;refine⟨s.heap.objs.size,[s.heap.objs.size],_,_,H,rfl,I.kept (t':=s.toks) fun b o e=>n_ _ e,qV a _,⟨_,A_ _ rfl,rfl,rfl⟩,fun b hb=>?_,q⟩;have e:b=s.heap.objs.size:=by simpa using hb
 subst e;exact I.Mi (l_ _) (I.Jq.fresh (l_ _))
theorem Fz {tg e:Expr}{va:List Nat}{fa:Ev->Res D}(ha:PE X e (RD X.K va fa)):PI X tg e (RI X.K va fun τ=>Ii (fa τ) mL):=by
 intro pins s σ H R I h;obtain⟨S,τ,hs,q⟩:=h;refine Jr (ha pins s σ H (fun v H'=>∃d,gJ H H'/\Iq X.K (nw S H) H' v d/\_) I (gX (.refl _) hs (Ip.Ii q) fun x v H1 e1 _ m1 q1=>⟨x,e1,m1,q1⟩)) fun v s1 ⟨x,H1,I1,r1,d,e1,m1,q1⟩=>?_
 induction d using zD with
 |lst o ds=>
  cases m1 with
  |lst h0 h1 h2=>cases r1;exact sR I1 (.inl h1) (q1.ok _ _ e1 (.lst h0 h1 h2))
  |lstK h1 h2=>cases r1;exact sR I1 h1.sq (q1.ok _ _ e1 (.lstK h1 h2))
 |tup ds=>obtain⟨a,xs,rfl,h1,h2⟩:=m1.J9;cases r1;exact wG I1 h1 (q1.ok _ _ e1 (.tup h1 h2))
 |str z=>cases m1.JH;obtain⟨t,rfl⟩:=r1;obtain⟨_,q1⟩:=Ip.Iy q1;exact C3 I1 (q1.ok _ _ e1 (.str z))
 |_=>exact q1.no.elim
theorem Di (g:JL Z CX cl X G){tg e:Expr}{p pos:Pos}{va:List Nat}{fa:Ev->Res D}(hg:G.gl.contains 15=Θ)(hn:notStar e=Θ)(ha:PE X e (RD X.K va fa)) :
  PI X tg (.Call (.Name "range" p) [e] [] pos) (RI X.K va fun τ=>Ii (fa τ) fun|.int i=>Iy (lL i) (.ok (iV 0 i))|_=>Ji):=by
 obtain⟨k1,k2,_,_⟩:=jF g (show iz[15]? = Δ ("range" : Str) from rfl) hg;refine ou (nE k1 k2 (ij ha iW (gE hn _ _)) (gE hn _ _)) fun σ H Q ⟨S,τ,hs,q⟩=>?_;refine gX (.refl _) hs (Ip.Ii q) fun x v H1 e1 _ m1 q1=>?_
 induction x using zD with
 |int i=>cases m1.Jv;obtain⟨gd,q1⟩:=Ip.Iy q1;have Px : -(2 ^ 62)<=i/\i < 2 ^ 62:=u_ gd;refine⟨i,rfl,Px.1,Px.2,?_⟩;have:=q1.ok _ _ e1 (.M1 0 i);rw[Int.sub_zero]at this;exact this
 |_=>exact q1.no.elim
theorem FA {a:Ω}{v:V}{d:D}{ds:List D}(m:Iq K S H v d)(h:rC d=.ok ds):∃k a xs,v=.ref a/\WS K S H k a xs/\Io K S H xs ds:=by
 induction d using zD with
 |lst o es=>
  cases h;cases m with
  |lst h0 h1 h2=>exact⟨.l,_,_,rfl,.inl ⟨h0,h1⟩,h2⟩
  |lstK h1 h2=>exact⟨.l,_,_,rfl,.inr h1,h2⟩
 |tup es=>cases h;obtain⟨a,xs,rfl,h1,h2⟩:=m.J9;exact⟨.t,a,xs,rfl,h1,h2⟩
 |_=>cases h
theorem FC (g:JL Z CX cl X G){es:List Expr}{c:Nat}{tp:Pos}{e e':Expr}{p pos:Pos}{va vb:List Nat}{fa fb:Ev->Res D}(hg:G.gl.contains 17=Θ)(hn:notStar e=Θ)(MO:notStar e'=Θ)(ha:PE X e (RD X.K va fa))(hb:PE X e' (RD X.K vb fb)) :
  PI X (.Tuple es c tp) (.Call (.Name "zip" p) [e,e'] [] pos) (RI X.K (va++vb) fun τ=>Ii (fa τ) fun x=>Ii (fb τ) fun y=>zM x y):=by
 obtain⟨k1,k2,_,_⟩:=jF g (show iz[17]? = Δ ("zip" : Str) from rfl) hg;refine ou (CL k1 k2 (ij ha (ij hb iW (gE MO _ _)) (gE hn _ _)) (by rw[gE hn,gE MO];rfl) (gE MO _ _)) fun σ H Q ⟨S,τ,hs,q⟩=>?_;refine gX (.refl _) hs.left (Ip.Ii q) fun x v H1 e1 _ m1 q1=>?_;refine gX e1 hs.right (Ip.Ii q1) fun y w H2 e2 J8 m2 q2=>?_;have q3:=Ip.Ii (show Ip (Ii (rC x) fun ds=>Ii (rC y) fun es=>.ok (kc ds es)) _ from q2);have Yr:=m1.mono (fun _ z=>z) J8;cases hx:rC x with
 |error z=>
  rw[hx]at q3
  induction x using zD<;>first|(cases hx;exact q3.no.elim)|cases hx
 |ok ds=>
  rw[hx]at q3;have q4:=Ip.Ii q3.ok;cases hy:rC y with
  |error z=>
   rw[hy]at q4
   induction y using zD<;>first|(cases hy;exact q4.no.elim)|cases hy
  |ok Me=>rw[hy]at q4;obtain⟨k1,a1,xs,rfl,w1,r1⟩:=FA (a:=0) Yr hx;obtain⟨k2,a2,ys,rfl,w2,r2⟩:=FA (a:=0) m2 hy;exact⟨k1,k2,a1,a2,xs,ys,rfl,w1.sq,w2.sq,q4.ok.ok _ _ e2 (.zip w1 w2 r1 r2)⟩
theorem FD (g:JL Z CX cl X G){es:List Expr}{c:Nat}{tp:Pos}{e:Expr}{p pos:Pos}{va:List Nat}{fa:Ev->Res D}(hg:G.gl.contains 20=Θ)(hn:notStar e=Θ)(ha:PE X e (RD X.K va fa)) :
  PI X (.Tuple es c tp) (.Call (.Name "enumerate" p) [e] [] pos) (RI X.K va fun τ=>Ii (fa τ) E3):=by
 obtain⟨k1,k2,_,_⟩:=jF g (show iz[20]? = Δ ("enumerate" : Str) from rfl) hg;refine ou (zJ k1 k2 (ij ha iW (gE hn _ _)) (gE hn _ _)) fun σ H Q ⟨S,τ,hs,q⟩=>?_;refine gX (.refl _) hs (Ip.Ii q) fun x v H1 e1 _ m1 q1=>?_
 induction x using zD with
 |lst o ds=>
  cases m1 with
  |lst h0 h1 h2=>exact⟨_,_,rfl,.inl h1,(show Ip (.ok (rD ds)) _ from q1).ok _ _ e1 (.MH (.inl ⟨h0,h1⟩) h2)⟩
  |lstK h1 h2=>exact⟨_,_,rfl,h1.sq,(show Ip (.ok (rD ds)) _ from q1).ok _ _ e1 (.MH (.inr h1) h2)⟩
 |_=>exact q1.no.elim
theorem jG {env:Env}{x:Str}:∀(names:List (Str×NameKind)),
  (names.map fun(n,k)=>if(k == Υ&&env.scope.kind == .function&&env.kindOf n == Δ .cell) then(n,NameKind.cell) else(n,k)).lookup x =
   (names.lookup x).map fun k=>if(k == Υ&&env.scope.kind == .function&&env.kindOf x == Δ .cell) then NameKind.cell else k
 |[]=>rfl
 | (n,k)::r=>by
  have ih:=jG (env:=env) (x:=x) r;rw[b_];show List.lookup x ((if(k == Υ&&env.scope.kind == .function&&env.kindOf n == Δ .cell)=Θ then(n,NameKind.cell) else(n,k))::_)=_;by_cases hc:(k == Υ&&env.scope.kind == .function&&env.kindOf n == Δ .cell)=Θ
  ·rw[e_ hc,aaq,aaq];cases hx:x == n with
   |true=>have e:x=n:=h_ hx;subst e;show Δ NameKind.cell=Δ (if _ then _ else _);rw[e_ hc]
   |false=>exact ih
  ·rw[d_ hc,aaq,aaq];cases hx:x == n with
   |true=>have e:x=n:=h_ hx;subst e;show Δ k=Δ (if _ then _ else _);rw[d_ hc]
   |false=>exact ih
theorem rL {scope:Scope}{env:Env}(h:∀y∈scope.names,y.2=.free->∃c,env.cells.lookup y.1=Δ c) :
  ∃Km,closureFor scope env=pure Km/\(∀x c,Km.lookup x=Δ c->env.cells.lookup x=Δ c)/\∀y∈scope.names,y.2=.free->∃c,Km.lookup y.1=Δ c:=by
 have key:∀(names:List (Str×NameKind)) (acc:List (Str×Ω)),(∀y∈names,y.2=.free->∃c,env.cells.lookup y.1=Δ c)->(∀x c,acc.lookup x=Δ c->env.cells.lookup x=Δ c)->
   ∃Km,(forIn names acc fun(p:Str×NameKind) (r:List (Str×Ω))=>(if(p.2 == Υ)=Θ then do let a <- cellOf env p.1;pure (ForInStep.yield ((p.1,a)::r)) else pure (ForInStep.yield r):Sem (ForInStep (List (Str×Ω)))))=pure Km/\(∀x c,Km.lookup x=Δ c->env.cells.lookup x=Δ c)/\
    (∀y∈names,y.2=.free->∃c,Km.lookup y.1=Δ c)/\∀x c,acc.lookup x=Δ c->∃c',Km.lookup x=Δ c':=by
  intro names
  induction names with
  |nil=>intro acc _ h2;exact⟨acc,rfl,h2,fun y hy=>absurd hy (by simp),fun x c e=>⟨c,e⟩⟩
  |cons p names ih=>
   intro acc h1 h2;rw[List.forIn_cons];by_cases hp:p.2=.free
   ·obtain⟨c,hc⟩:=h1 p (by simp) hp;have hb:(p.2 == Υ)=Θ:=by rw[hp];rfl
    have OH:∀x c',((p.1,c)::acc).lookup x=Δ c'->env.cells.lookup x=Δ c':=by
     intro x c' e;rw[aaq]at e;cases hx:x == p.1 with
     |true=>rw[hx]at e;cases e;rw[h_ hx];exact hc
     |false=>rw[hx]at e;exact h2 x c' e
    obtain⟨Km,e1,e2,e3,e4⟩:=ih ((p.1,c)::acc) (fun y hy=>h1 y (w_ _ hy)) OH;refine⟨Km,?_,e2,fun y hy hf=>?_,fun x c' e=>?_⟩
    ·rw[e_ hb];have:cellOf env p.1=pure c:=by unfold cellOf;rw[hc]
     rw[this];exact e1
    ·rcases k_.mp hy with rfl|hy
     ·exact e4 y.1 c (by rw[aaq];simp)
     ·exact e3 y hy hf
    ·rcases hx:x == p.1 with _|_
     ·exact e4 x c' (by rw[aaq,hx];exact e)
     ·exact e4 x c (by rw[aaq,hx])
   ·have hb:¬(p.2 == Υ)=Θ:=fun z=>hp (h_ z);obtain⟨Km,e1,e2,e3,e4⟩:=ih acc (fun y hy=>h1 y (w_ _ hy)) h2;refine⟨Km,?_,e2,fun y hy hf=>?_,e4⟩
    ·rw[d_ hb];exact e1
    ·rcases k_.mp hy with rfl|hy
     ·exact absurd hf hp
     ·exact e3 y hy hf
 obtain⟨Km,e1,e2,e3,_⟩:=key scope.names [] h (fun x c e=>by cases e);refine⟨Km,?_,e2,e3⟩;unfold closureFor;exact congrArg (fun(m:Sem (List (Str×Ω)))=>m >>= fun r=>pure r) e1
structure MW (Z:Sg)(G:Gm)(scope:Scope)(G':Gm)(fr:List Nat):Prop where
 cm:G.cm=Θ
 kind:scope.kind=.function
 tr:G'.tr=Ξ
 df:G'.df=Ξ
 kdl:G'.kd.length=G'.N.length
 LC:∀y∈scope.names,y.2≠.cell
 loc:∀y∈scope.names,y.2=.local->scope.names.lookup y.1=Δ .local
 Ys:∀y∈scope.names,y.2=.free->∃i:Nat,G.N[i]? = Δ y.1/\(G.kd[i]? = Δ .cell∨G.kd[i]? = Δ .free)
 Lk:∀(j:Nat) (i:Nat),fr[j]? = Δ i->∃x,G.N[i]? = Δ x/\G'.N[j]? = Δ x/\scope.names.lookup x=Δ .free/\(G.kd[i]? = Δ .cell∨G.kd[i]? = Δ .free)/\G'.kd[j]? = Δ (if(G.kd[i]? == Δ .cell)=Θ then .cell else .free)
 SK:fr.length<=G'.N.length
 Lg:∀(j:Nat) (x:Str),fr.length<=j->G'.N[j]? = Δ x->scope.names.lookup x=Δ .local/\G'.kd[j]? = Δ .local
 Oc:∀x∈G'.N,(x == ("__debug__" : Str))=Ξ/\(x == ("__classdict__" : Str))=Ξ
 J7:G'.N.Nodup
 gl:∀n∈G'.gl,∃x,Z.name n=Δ x/\scope.names.lookup x=Δ .globalImplicit
theorem oP {Z:Sg}{G:Gm}{scope:Scope}{G':Gm}{fr:List Nat}(h:i0 Z G scope G' fr=Θ):MW Z G scope G' fr:=by
 unfold i0 at h;simp only[j_]at h;obtain⟨⟨⟨⟨⟨⟨⟨⟨⟨⟨⟨⟨⟨h0,h1⟩,Qk⟩,h2⟩,h3⟩,h4⟩,h5⟩,h6⟩,h7⟩,h8⟩,h9⟩,OC⟩,P'⟩,LX⟩:=h;rw[O_]at h4 h5 h6 h7 h9 OC LX;refine⟨h0,h_ h1,by simpa using Qk,by simpa using h2,h_ h3,fun y hy=>by simpa using h4 y hy,fun y hy e=>?_,fun y hy e=>?_,fun j i e=>?_,u_ h8,fun j x hj e=>?_,fun x hx=>by simpa using OC x hx,u_ P',fun n hn=>?_⟩
 ·have:=h5 y hy;rw[e]at this;simpa using this
 ·have:=h6 y hy;rw[e]at this;simp only[bne_self_eq_false,Bool.false_or,List.any_eq_true,j_,aae]at this;obtain⟨i,_,hi,hk⟩:=this;exact⟨i,h_ hi,hk.elim (fun z=>.inl (h_ z)) fun z=>.inr (h_ z)⟩
 ·have hj:j < fr.length:=(E_.mp e).1;have:=h7 j (aai.mpr hj);simp only[e,Option.bind_some,j_,aae]at this;obtain⟨⟨⟨a1,a2⟩,a3⟩,a4⟩:=this;have Wn:=h_ a1;have SM:=h_ a2;cases q:G'.N[j]? with
  |none=>rw[q]at SM;cases SM
  |some x=>rw[q]at SM Wn;exact⟨x,Wn.symm,rfl,SM,a3.elim (fun z=>.inl (h_ z)) fun z=>.inr (h_ z),h_ a4⟩
 ·have JT:j < G'.N.length:=(E_.mp e).1;have hm:j∈(List.range G'.N.length).drop fr.length:=by rw[List.mem_drop_iff_getElem];exact⟨j - fr.length,by simp;omega,by simp;omega⟩
  have:=h9 j hm;rw[e]at this;simp only[Option.bind_some,j_]at this;exact⟨h_ this.1,h_ this.2⟩
 ·have:=LX n hn;cases q:Z.name n with
  |none=>rw[q]at this;cases this
  |some x=>rw[q]at this;exact⟨x,rfl,h_ this⟩
noncomputable def MX (G:Gm)(fr:List Nat):List (Str×Nat):=fr.map fun i=>(G.N.getD i "",i)
theorem FE {scope:Scope}{G':Gm}{fr:List Nat}(s:MW Z G scope G' fr):(MX G fr).map (·.1)++G'.N.drop fr.length=G'.N:=by
 have e:(MX G fr).map (·.1)=G'.N.take fr.length:=by
  apply List.ext_getElem?;intro j;unfold MX;rw[Y_,L_,List.getElem?_take];cases q:fr[j]? with
  |none=>
   have:¬j < fr.length:=by intro z;rw[R_ z]at q;cases q
   rw[d_ this];rfl
  |some i=>have:j < fr.length:=(E_.mp q).1;rw[e_ this];obtain⟨x,h1,h2,_⟩:=s.Lk j i q;rw[h2];show Δ (G.N.getD i "")=Δ x;rw[aav,h1];rfl
 rw[e,List.take_append_drop]
theorem lu (g:JL Z CX cl X G)(ok:X.Ok){scope:Scope}{G':Gm}{fr:List Nat}(s:MW Z G scope G' fr):∃Km,KG X scope Km (MX G fr) (G'.N.drop fr.length):=by
 have My:∀y∈scope.names,y.2=.free->∃c,X.env.cells.lookup y.1=Δ c:=fun y hy hf=>by obtain⟨i,h1,h2⟩:=s.Ys y hy hf;have hk:=g.kd i y.1 h1;exact ok.has y.1 (h2.elim (fun z=>.inl (hk.trans z)) fun z=>.inr (hk.trans z))
 obtain⟨Km,e1,e2,e3⟩:=rL My;refine⟨Km,e1,s.kind,s.LC,s.loc,e2,fun x hx=>?_,fun p hp=>?_⟩
 ·have hl:=jG (env:=X.env) (x:=x) scope.names;have KP:((scope.names.lookup x).map fun k=>if(k == Υ&&X.env.scope.kind == .function&&X.env.kindOf x == Δ .cell)=Θ then NameKind.cell else k)=Δ .cell∨
    ((scope.names.lookup x).map fun k=>if(k == Υ&&X.env.scope.kind == .function&&X.env.kindOf x == Δ .cell)=Θ then NameKind.cell else k)=Δ .free:=by
   rcases hx with hx|hx
   ·exact .inl (hl.symm.trans hx)
   ·exact .inr (hl.symm.trans hx)
  cases q:scope.names.lookup x with
  |none=>rw[q]at KP;rcases KP with z|z<;>cases z
  |some k=>
   have hm:(x,k)∈scope.names:=PySem.mem_of_lookup q;have hk:k=.free:=by
    rw[q]at KP;rcases KP with z|z
    ·have z':(if(k == Υ&&X.env.scope.kind == .function&&X.env.kindOf x == Δ .cell)=Θ then NameKind.cell else k)=.cell:=K_ z;split at z'
     ·rename_i hc
      simp only[j_]at hc;exact h_ hc.1.1
     ·exact absurd z' (s.LC _ hm)
    ·have z':(if(k == Υ&&X.env.scope.kind == .function&&X.env.kindOf x == Δ .cell)=Θ then NameKind.cell else k)=.free:=K_ z;split at z'
     ·cases z'
     ·exact z'
   exact e3 (x,k) hm hk
 ·unfold MX at hp;rw[List.mem_map]at hp;obtain⟨i,hi,rfl⟩:=hp;obtain⟨j,hj⟩:=List.getElem?_of_mem hi;obtain⟨x,h1,h2,h3,h4,h5⟩:=s.Lk j i hj;have hn:G.N.getD i "" = x:=by rw[aav,h1];rfl
  show X.N[i]? = Δ (G.N.getD i "")/\_;rw[hn];have hk:=g.kd i x h1;refine⟨by rw[g.N];exact h1,h4.elim (fun z=>.inl (hk.trans z)) fun z=>.inr (hk.trans z),?_⟩;have hl:=jG (env:=X.env) (x:=x) scope.names;rw[h3]at hl;have Yt:(relabel scope X.env).names.lookup x=Δ (if(Υ == Υ&&X.env.scope.kind == .function&&X.env.kindOf x == Δ .cell)=Θ then NameKind.cell else Υ):=hl;rw[Yt];split
  ·exact .inl rfl
  ·exact .inr rfl
theorem i3 (g:JL Z CX cl X G){scope:Scope}{G':Gm}{fr:List Nat}(s:MW Z G scope G' fr)(Km:List (Str×Ω))(C:Ω)(s3:Α)(H3:Hp)(fp:List Ω) :
  JL Z CX cl (MD X scope Km ((MX G fr).map (·.1)++G'.N.drop fr.length) C s3 H3 fp) G' where
 N:=FE s
 J7:=s.J7
 calm:=fun _=>g.calm s.cm
 fk:=s.kind
 un:=g.un
 own:=fun _=>PassesOwn.never
 kd:=fun j x hx=>by
  show(relabel scope X.env).names.lookup x=_;have hl:=jG (env:=X.env) (x:=x) scope.names;by_cases hj:j < fr.length
  ·obtain⟨y,h1,h2,h3,h4,h5⟩:=s.Lk j fr[j] (by simp[hj]);rw[hx]at h2;cases h2;rw[h3]at hl;rw[h5];refine hl.trans ?_;have hk:=g.kd fr[j] x h1;show Δ (if(Υ == Υ&&X.env.scope.kind == .function&&X.env.kindOf x == Δ .cell)=Θ then NameKind.cell else Υ)=_;rw[hk,g.fk];rfl
  ·obtain⟨h1,h2⟩:=s.Lg j x (by omega) hx;rw[h1]at hl;rw[h2];exact hl
 Oc:=fun j x hx=>s.Oc x (aao hx)
 gl:=fun n hn x e=>by obtain⟨y,h1,h2⟩:=s.gl n hn;rw[e]at h1;cases h1;show(relabel scope X.env).names.lookup x=_;have hl:=jG (env:=X.env) (x:=x) scope.names;rw[h2]at hl;exact hl
 Pp:=g.Pp
 df:=fun z=>by rw[s.df]at z;cases z
 blt:=g.blt
 cst:=g.cst
 fns:=fun f hf _ x hx=>g.fns f hf (.inl s.cm) x hx
 Uq:=⟨fun _ _ _=>False,fun pins σ H s e s' _ h=>(g.Ur _ _ _ _ _ h).elim⟩
 Pj:=g.Pj
 Ur:=g.Ur
end
section
variable {K:Frag}{S:Ω->Prop}{H:Hp}{σ:St}{τ:Ev}{cl:Nat->List D->Res D}{G G':Gm}{fr:List Nat}
noncomputable def Mu (G':Gm)(fr:List Nat)(τ:Ev):Ev:=fr.map (gF τ)++Τ (G'.N.length - fr.length) Φ
theorem Ac (hl:fr.length<=G'.N.length):(Mu G' fr τ).length=G'.N.length:=by unfold Mu;rw[g_,i_,List.length_replicate];omega
theorem Ad (Tg:List Str)(σ:St):(stC (MX G fr) Tg σ).length=fr.length+Tg.length:=by unfold stC MX;rw[g_,i_,i_,List.length_replicate]
theorem wH {j:Nat}{d:D}(h:gF (Mu G' fr τ) j=Δ d):∃i,fr[j]? = Δ i/\gF τ i=Δ d:=by
 unfold gF Mu at h;by_cases hj:j < fr.length
 ·rw[aar (by simpa using hj),L_,R_ hj]at h;exact⟨fr[j],by simp[hj],h⟩
 ·rw[List.getElem?_append_right (by simpa using hj),List.getElem?_replicate]at h;split at h<;>cases h
theorem Ae {vs:List Nat}{Jp:St}(hl:fr.length<=G'.N.length)(hs:Slots K S H σ τ (fr++vs))(hn:Jp.length=G'.N.length)(Kz:∀j,j < fr.length->Jp[j]? = (stC (MX G fr) (G'.N.drop fr.length) σ)[j]?):Qj K S H Jp (Mu G' fr τ):=by refine⟨by rw[Ac hl,hn],fun j d h=>?_⟩;obtain⟨i,hi,hd⟩:=wH h;have hj:j < fr.length:=(E_.mp hi).1;obtain⟨v,h1,h2⟩:=hs i (q_ _ (aao hi)) d hd;refine⟨v,?_,h2⟩;rw[Kz j hj];unfold stC MX;rw[aar (by simpa using hj),L_,L_,hi];show Δ ((σ[i]?).join)=Δ (Δ v);rw[h1];rfl
noncomputable def gO (cl:Nat->List D->Res D)(T:Tg)(I:List IR)(E:IR)(Yu:Ev)(x:D):Res (Option D):=Ii (jf T x Yu) fun OE=>Ii (kn cl I OE) fun r=>if r=Θ then Ii (Iu cl E OE) fun d=>.ok (Δ d) else .ok Φ
theorem j5 {vs:List Nat}{fs:Ev->Res (List D)}{T:Tg}{I:List IR}{E:IR}{Kt:D->Prop}{Q:VK}(hl:fr.length<=G'.N.length)(ha:∀i∈Lg T,fr.length<=i)(hs:Slots K S H σ τ (fr++vs))
  (q:Ip (Ii (fs τ) fun its=>Iy (i4 its.length) (Ii ((gM (gO cl T I E (Mu G' fr τ)) its)) fun ds=>.ok (.lst Θ ds))) Kt)
  (fin:∀A ys ds H',gJ H H'->H A=Φ->H' A=Δ (.lst ys)->Io K (fun a=>nw S H a/\a≠A) H' ys ds->Kt (.lst Θ ds)->Q (.ref A) H') :
  vn (RI K vs fs) (stC (MX G fr) (G'.N.drop fr.length)) (gT K T) (RT K (gR I) (kn cl I)) (RD K (vars E) (Iu cl E)) σ H Q:=by
 refine Fy (.refl _) hs.right (Ip.Ii q) fun its J H1 e1 _ w1 q1 A hA=>?_;obtain⟨gd,q1⟩:=Ip.Iy q1;have q2:=Ip.Ii q1;have hsz:=kF gd;have Yv:H A=Φ:=e1.free hA
 -- Tf is read Ux apart from OT new list
 have L1:∀a,nw S H a->H1 a≠Φ->nw S H a/\a≠A:=fun a h1 h2=>⟨h1,fun z=>h2 (by rw[z];exact hA)⟩
 have w2:K2 K (fun a=>nw S H a/\a≠A) H1 J its:=w1.step (fun a xs h r=>⟨L1 a h r.some,r⟩) fun a xs h=>h;have LG:Slots K (fun a=>nw S H a/\a≠A) H1 σ τ (fr++vs):=fun i hi d z=>by obtain⟨v,h1,h2⟩:=(hs.go e1) i hi d z;exact⟨v,h1,h2.step (fun a xs h r=>⟨L1 a h r.some,r⟩) fun a xs h=>h⟩
 refine⟨fun i m Jp H'=>m=its.length - i/\i<=its.length/\∃ys acc,H' A=Δ (.lst ys)/\Io K (fun a=>nw S H a/\a≠A) H' ys acc/\ys.length<=i/\gJ H1 H'/\Jp.length=G'.N.length/\
   (∀j,j < fr.length->Jp[j]? = (stC (MX G fr) (G'.N.drop fr.length) σ)[j]?)/\Ip (gM (gO cl T I E (Mu G' fr τ)) (its.drop i)) fun ds=>Kt (.lst Θ (acc++ds)),⟨its.length,by simp,aaa _,[],[],gI,.nil,l_ _,.upd hA,?_,fun _ _=>rfl,?_⟩,?_⟩
 ·rw[Ad,aap];omega
 ·rw[List.drop_zero];exact q2.mono fun ds z=>z.ok
 ·rintro i m Jp H' ⟨rfl,hi,ys,acc,hy,my,ly,e2,hn,Kz,q3⟩;by_cases JT:i < its.length
  ·refine .inr ⟨(w2.mono (fun _ z=>z) e2).go JT,fun x H2 Yw=>?_⟩;obtain⟨eH,mx⟩:=(w2.mono (fun _ z=>z) e2).NW Yw (d:=its[i]) (by simp[JT]);have hy:=eH _ _ hy;have my:=my.mono (fun _ z=>z) eH;have e2:=e2.trans eH;have hd:its.drop i=its[i]::its.drop (i+1):=List.drop_eq_getElem_cons JT;rw[hd]at q3;have q4:=Ip.Ii q3;have q5:Ip (jf T its[i] (Mu G' fr τ)) _:=Ip.Ii q4
   have sl:Qj K (fun a=>nw S H a/\a≠A) H2 Jp (Mu G' fr τ):=Ae (G:=G) (vs:=vs) (σ:=σ) hl (fun i hi d z=>by
    obtain⟨v,h1,h2⟩:=LG i hi d z
    exact⟨v,h1,h2.mono (fun _ z=>z) e2⟩) hn Kz
   refine sQ T sl mx q5 fun Jl LU Q2 MO hk q6=>?_;have Sh:LU.length=G'.N.length:=MO.trans hn;have Rh:∀j,j < fr.length->LU[j]? = (stC (MX G fr) (G'.N.drop fr.length) σ)[j]?:=fun j hj=>by rw[hk j (fun z=>by have:=ha j z;omega)];exact Kz j hj
   have Wo:∀is,Slots K (fun a=>nw S H a/\a≠A) H2 LU Jl is:=fun is i _ d z=>Q2.2 i d z;refine kJ (.refl _) (Wo _) (Ip.Ii q6) fun r H4 e4 _ q7=>?_;cases r with
   |false=>rw[d_ p_]at q7 ⊢;have q8:Ip (gM (gO cl T I E (Mu G' fr τ)) (its.drop (i+1))) fun ds=>Kt (.lst Θ (acc++ds)):=q7;refine⟨its.length - (i+1),by omega,rfl,JT,ys,acc,e4 _ _ hy,my.mono (fun _ z=>z) e4,by omega,e2.trans e4,Sh,Rh,q8⟩
   |true=>
    rw[e_ rfl]at q7 ⊢;refine gX e4 (Wo _) (Ip.Ii q7) fun d v H5 e5 e5' m5 q8=>?_;have q9:Ip (Ii (gM (gO cl T I E (Mu G' fr τ)) (its.drop (i+1))) fun r=>.ok (d::r)) fun ds=>Kt (.lst Θ (acc++ds)):=q8;have P9:=Ip.Ii q9;have Wq:H5 A=Δ (.lst ys):=e5 _ _ hy;refine⟨ys,Wq,by omega,its.length - (i+1),by omega,rfl,JT,ys++[v],acc++[d],gI,?_,by rw[g_,V_];omega,?_,Sh,Rh,?_⟩
    ·have Wr:∀a (xs:LD),(nw S H a/\a≠A)->Rd H5 a xs.o->(nw S H a/\a≠A)/\Rd (upd H5 A (.lst (ys++[v]))) a xs.o:=fun a xs h r=>by refine⟨h,?_⟩;unfold Rd;rw[gK h.2];exact r
     have Ws:∀a xs,JC K H5 a xs->JC K (upd H5 A (.lst (ys++[v]))) a xs:=fun a xs h=>h.upd Wq
     have m6:Iq K (fun a=>nw S H a/\a≠A) H5 v d:=m5.step (fun a xs h r=>⟨by
      rcases h with h|h
      ·exact h
      ·have:H a=Φ:=e1.free (e2.free h)
       exact⟨.inr this,fun z=>by rw[z,hy]at h;cases h⟩,r⟩) fun a xs h=>h
     exact(((my.mono (fun _ z=>z) e5).step Wr Ws)).append (.cons (m6.step Wr Ws) .nil)
    ·exact fun b o hb=>by
      have:b≠A:=by rintro rfl;rw[hA]at hb;cases hb
      rw[gK this];exact e5 _ _ (e2 _ _ hb)
    ·refine P9.mono fun ds z=>?_;have z':=z.ok;rw[r_];exact z'
  ·have e:i=its.length:=by omega
   subst e;refine .inl ⟨(w2.mono (fun _ z=>z) e2).stop rfl,?_⟩;rw[List.drop_length]at q3;have q4:=q3.ok;rw[v_]at q4;exact fin A ys acc H' (e1.trans e2) Yv hy my q4
end
section
variable {Z:Sg}{CX:KD}{cl:Nat->List D->Res D}{X:Cx}{G G':Gm}{fr:List Nat}
theorem mV {T:Tg}{s:Sr}{I:List IR}{E:IR}:Iu cl (.comp G' fr T s I E)=fun τ=>Ii (ko cl s τ) fun its=>Iy (i4 its.length) (Ii ((gM (gO cl T I E (Mu G' fr τ)) its)) fun ds=>.ok (.lst Θ ds)):=rfl
theorem Dj (g:JL Z CX cl X G){scope:Scope}{tg iter elt:Expr}{ifs:List Expr}{pos:Pos}{T:Tg}{s:Sr}{I:List IR}{E:IR}(hs:MW Z G scope G' fr)(hT:jr G' T tg=Θ)(ha:∀i∈Lg T,fr.length<=i)
  (hi:PI X tg iter (RI X.K (kD s) (ko cl s))) (ht:∀X',JL Z CX cl X' G'->N0 X' ifs (RT X'.K (gR I) (kn cl I))) (he:∀X',JL Z CX cl X' G'->PE X' elt (RD X'.K (vars E) (Iu cl E)))
  (hf:∀x,foldedSetIterable iter X.env x=pure x):PE X (.ListComp elt [⟨tg,iter,ifs,0⟩] scope pos) (RD X.K (fr++kD s) (Iu cl (.comp G' fr T s I E))):=by
 intro pins s' σ H Q Iv h;obtain⟨Km,S⟩:=lu g Iv.ok hs;have p:=sj (pos:=pos) (elt:=elt) (ifs:=ifs) (tg:=tg) (g:=gT X.K T) (tt:=RT X.K (gR I) (kn cl I)) (te:=RD X.K (vars E) (Iu cl E)) (g.calm hs.cm) S hi (fun C s H fp=>Pt (i3 g hs Km C s H fp) T tg hT) (fun C s H fp=>ht _ (i3 g hs Km C s H fp)) (fun C s H fp=>he _ (i3 g hs Km C s H fp)) hf;refine p pins s' σ H Q Iv ?_;obtain⟨S0,τ,Uy,q⟩:=h;rw[mV]at q;exact j5 hs.SK ha Uy q fun A ys ds H' e hA Py m k=>k _ _ e (.lst (.inr hA) (.inl Py) (m.mono (fun _ z=>z.1) (.refl _)))
end
section
variable {Z:Sg}{CX:KD}{cl:Nat->List D->Res D}
theorem uI {e:Expr}{a:IR}{G:Gm}(h:Jk Z G a e=Θ)(env:Env)(x:Ψ):foldedSetIterable e env x=pure x:=by
 induction e using zE<;>first|rfl|(induction a using zI<;>cases h)
theorem jo {e:Expr}{a:Sr}{G:Gm}(h:jv Z G a e=Θ)(env:Env)(x:Ψ):foldedSetIterable e env x=pure x:=by
 cases a with
 |val a=>exact uI (show Jk Z G a e=Θ from h) env x
 |_=>induction e using zE<;>first|rfl|cases h
theorem both {X:Cx}{e:Expr}{is:List Nat}{f:Ev->Res D}(h:PE X e (RD X.K is f))(he:∀whole,isTrue e X.env whole=(do let v <- whole;standAt e.pos;holding [v] (truthy v)):=by intro _;rfl) :
  PE X e (RD X.K is f)/\PT X e (RT X.K is fun τ=>Ii (f τ) g8):=⟨h,Fb h he⟩
mutual
theorem snd:∀(a:IR) (X:Cx) (G:Gm) (e:Expr),JL Z CX cl X G->Jk Z G a e=Θ->PE X e (RD X.K (vars a) (Iu cl a))/\PT X e (RT X.K (vars a) fun τ=>Ii (Iu cl a τ) g8)
 |.c d,X,G,e,g,h=>by
  induction e using zE with
  |Constant k j pos=>exact both (Yn h)
  |_=>exists h
 |.g n d,X,G,e,g,h=>by
  induction e using zE with
  |Name x pos=>have h':(mQ Z G n x&&Z.Qg.any fun p=>p.1 == n&&uE p.2 d)=Θ:=h;rw[j_]at h';exact both (Yo g h'.1 h'.2)
  |_=>exists h
 |.v i,X,G,e,g,h=>by
  induction e using zE with
  |Name x pos=>exact both (Ym g h)
  |_=>exists h
 |.bin op a b,X,G,e,g,h=>by
  induction e using zE with
  |BinOp l o r pos=>have h':(o == Ob op&&Jk Z G a l&&Jk Z G b r)=Θ:=h;simp only[j_]at h';have e1:o=Ob op:=h_ h'.1.1;subst e1;exact both (Fd (snd a X G l g h'.1.2).1 (snd b X G r g h'.2).1)
  |_=>exists h
 |.neg a,X,G,e,g,h=>by
  induction e using zE with
  |UnaryOp o l pos=>
   cases o with
   |USub=>exact both (Fe (snd a X G l g h).1)
   |_=>exists h
  |_=>exists h
 |.cmp op a b,X,G,e,g,h=>by
  induction e using zE with
  |Compare l os rs pos=>
   match os,rs,h with
   |[o],[r],h=>have h':(o == LH op&&Jk Z G a l&&Jk Z G b r&&!behindInMarks o r)=Θ:=h;simp only[j_]at h';have e1:o=LH op:=h_ h'.1.1.1;subst e1;exact Ff g (snd a X G l g h'.1.1.2).1 (snd b X G r g h'.1.2).1 (by simpa using h'.2)
   |[],_,h=>exists h
   |[_],[],h=>exists h
   |[_],_::_::_,h=>exists h
   |_::_::_,_,h=>exists h
  |_=>exists h
 |.chain op KY a b c,X,G,e,g,h=>by
  induction e using zE with
  |Compare l os rs pos=>
   match os,rs,h with
   |[o,o'],[m,r],h=>have h':(o == LH op&&o' == LH KY&&Jk Z G a l&&Jk Z G b m&&Jk Z G c r&&!lastMarks [o,o'] [m,r])=Θ:=h;simp only[j_]at h';have e1:o=LH op:=h_ h'.1.1.1.1.1;have e2:o'=LH KY:=h_ h'.1.1.1.1.2;subst e1 e2;exact zX g (snd a X G l g h'.1.1.1.2).1 (snd b X G m g h'.1.1.2).1 (snd c X G r g h'.1.2).1 (by simpa using h'.2)
   |[],_,h=>exists h
   |[_],_,h=>exists h
   |[_,_],[],h=>exists h
   |[_,_],[_],h=>exists h
   |[_,_],_::_::_::_,h=>exists h
   |_::_::_::_,_,h=>exists h
  |_=>exists h
 |.Js a b,X,G,e,g,h=>by
  induction e using zE with
  |BoolOp o es pos=>
   match o,es,h with
   |.And,[l,r],h=>have h':(Jk Z G a l&&Jk Z G b r)=Θ:=h;rw[j_]at h';obtain⟨pa,ta⟩:=snd a X G l g h'.1;obtain⟨pb,tb⟩:=snd b X G r g h'.2;exact⟨Bf pa (uW pb),Bg ta (yU tb)⟩
   |.And,l::r::r'::rest,h=>have h':(Jk Z G a l&&Jk Z G b (.BoolOp .And (r::r'::rest) pos))=Θ:=h;rw[j_]at h';obtain⟨pa,ta⟩:=snd a X G l g h'.1;obtain⟨pb,tb⟩:=snd b X G _ g h'.2;exact⟨Bf pa pb,Bg ta (wD (e:=l) tb)⟩
   |.And,[],h=>exists h
   |.And,[_],h=>exists h
   |.Or,_,h=>exists h
  |_=>exists h
 |.LN a b,X,G,e,g,h=>by
  induction e using zE with
  |BoolOp o es pos=>
   match o,es,h with
   |.Or,[l,r],h=>have h':(Jk Z G a l&&Jk Z G b r)=Θ:=h;rw[j_]at h';obtain⟨pa,ta⟩:=snd a X G l g h'.1;obtain⟨pb,tb⟩:=snd b X G r g h'.2;exact⟨Fg pa (uW pb),Fi ta (B5 tb)⟩
   |.Or,l::r::r'::rest,h=>have h':(Jk Z G a l&&Jk Z G b (.BoolOp .Or (r::r'::rest) pos))=Θ:=h;rw[j_]at h';obtain⟨pa,ta⟩:=snd a X G l g h'.1;obtain⟨pb,tb⟩:=snd b X G _ g h'.2;exact⟨Fg pa pb,Fi ta (wD (e:=l) tb)⟩
   |.Or,[],h=>exists h
   |.Or,[_],h=>exists h
   |.And,_,h=>exists h
  |_=>exists h
 |.KJ a,X,G,e,g,h=>by
  induction e using zE with
  |UnaryOp o l pos=>
   cases o with
   |Not=>obtain⟨pa,ta⟩:=snd a X G l g h;exact Fh pa ta
   |_=>exists h
  |_=>exists h
 |.ite t a b,X,G,e,g,h=>by
  induction e using zE with
  |IfExp c x y pos=>have h':(Jk Z G t c&&Jk Z G a x&&Jk Z G b y)=Θ:=h;simp only[j_]at h';obtain⟨pa,ta⟩:=snd a X G x g h'.1.2;obtain⟨pb,tb⟩:=snd b X G y g h'.2;exact Fj (snd t X G c g h'.1.1).2 pa pb ta tb
  |_=>exists h
 |.tup es,X,G,e,g,h=>by
  induction e using zE with
  |Tuple l n pos=>exact both (Fm (qA es X G l g h))
  |_=>exists h
 |.lst es,X,G,e,g,h=>by
  induction e using zE with
  |List l pos=>exact both (Fo (qA es X G l g h))
  |_=>exists h
 |.idx a i,X,G,e,g,h=>by
  induction e using zE with
  |Subscript o s pos=>
   have h':(iE s&&Jk Z G a o&&Jk Z G i s)=Θ:=by cases s<;>first|exact h|(rename_i l u st p;cases st<;>exact h)
   simp only[j_]at h';exact both (Fp (snd a X G o g h'.1.2).1 (snd i X G s g h'.2).1 h'.1.1)
  |_=>exists h
 |.sl a lo hi,X,G,e,g,h=>by
  induction e using zE with
  |Subscript o s pos=>
   match s,h with
   |.Slice l u Φ p,h=>have h':(Jk Z G a o&&rJ Z G lo l&&rJ Z G hi u)=Θ:=h;simp only[j_]at h';exact both (HJ (snd a X G o g h'.1.1).1 (Af lo X G l g h'.1.2) (Af hi X G u g h'.2))
   |.Slice _ _ (Δ _) _,h=>exists h
   |.BoolOp ..,h=>exists h
   |.NamedExpr ..,h=>exists h
   |.BinOp ..,h=>exists h
   |.UnaryOp ..,h=>exists h
   |.Lambda ..,h=>exists h
   |.IfExp ..,h=>exists h
   |.Dict ..,h=>exists h
   |.Set ..,h=>exists h
   |.ListComp ..,h=>exists h
   |.SetComp ..,h=>exists h
   |.DictComp ..,h=>exists h
   |.GeneratorExp ..,h=>exists h
   |.Await ..,h=>exists h
   |.Yield ..,h=>exists h
   |.YieldFrom ..,h=>exists h
   |.Compare ..,h=>exists h
   |.Call ..,h=>exists h
   |.FormattedValue ..,h=>exists h
   |.JoinedStr ..,h=>exists h
   |.Constant ..,h=>exists h
   |.Attribute ..,h=>exists h
   |.Subscript ..,h=>exists h
   |.Starred ..,h=>exists h
   |.Name ..,h=>exists h
   |.List ..,h=>exists h
   |.Tuple ..,h=>exists h
  |_=>exists h
 |.call f es,X,G,e,g,h=>by
  induction e using zE with
  |Call fn args KN pos=>
   induction fn using zE with
   |Name x p=>
    cases KN with
    |nil=>have h':(mQ Z G f x&&Z.OG G f&&iF Z G es args)=Θ:=h;simp only[j_]at h';exact both (s_call g h'.1.1 h'.1.2 h'.2 (qA es X G args g h'.2))
    |cons _ _=>exists h
   |_=>exists h
  |_=>exists h
 |.bi f es,X,G,e,g,h=>by
  induction e using zE with
  |Call fn args KN pos=>
   induction fn using zE with
   |Name x p=>
    cases KN with
    |nil=>
     cases args with
     |nil=>exists h
     |cons a args=>have h':(x == jO f&&G.Mr (nU f)&&iF Z G es (a::args))=Θ:=h;simp only[j_]at h';have e1:x=jO f:=h_ h'.1.1;subst e1;exact both (HK g h'.1.2 h'.2 (qA es X G _ g h'.2))
    |cons _ _=>cases args<;>exists h
   |_=>exists h
  |_=>exists h
 |.Lq,X,G,e,g,h=>by
  have h:Pn e=Θ:=by induction e using zE<;>exact h
  obtain⟨pos,rfl⟩:=oO h;exact both Df
 |.Lc,X,G,e,g,h=>by
  have h:Pn e=Θ:=by induction e using zE<;>exact h
  obtain⟨pos,rfl⟩:=oO h;exact both De
 |.Nq a k,X,G,e,g,h=>by
  have h:SG e (fun o s=>iE s&&Jk Z G a o&&Jk Z G k s)=Θ:=by induction e using zE<;>exact h
  obtain⟨o,s,pos,rfl,q1⟩:=C7 h;simp only[j_]at q1;exact both (Dg g (snd a X G o g q1.1.2).1 (snd k X G s g q1.2).1 q1.1.1)
 |.OD n k a,X,G,e,g,h=>by
  have h:SH e (fun l o r=>o == uG n&&Jk Z G k l&&Jk Z G a r&&!behindInMarks o r)=Θ:=by induction e using zE<;>exact h
  obtain⟨l,o,r,pos,rfl,q3⟩:=C8 h;simp only[j_]at q3;have e1:o=uG n:=h_ q3.1.1.1;subst e1;exact Ft g (snd k X G l g q3.1.1.2).1 (snd a X G r g q3.1.2).1 (by simpa using q3.2)
 |.sset a,X,G,e,g,h=>by
  have h:Ul e (fun x y e=>x == "sorted"&&G.gl.contains 4&&y == "set"&&G.gl.contains 12&&(notStar e&&G.cm)&&Jk Z G a e)=Θ:=by induction e using zE<;>exact h
  obtain⟨x,p,y,p',e',q',q,rfl,h⟩:=C9 h;have h:(x == "sorted"&&G.gl.contains 4&&y == "set"&&G.gl.contains 12&&(notStar e'&&G.cm)&&Jk Z G a e')=Θ:=h;simp only[j_]at h;have e1:x = "sorted":=h_ h.1.1.1.1.1;have e2:y = "set":=h_ h.1.1.1.2;subst e1 e2;exact both (Dd g h.1.1.1.1.2 h.1.1.2 h.1.2.1 h.1.2.2 (snd a X G e' g h.2).1)
 |.KR a k d,X,G,e,g,h=>by
  have h:SI e (fun o n l s f=>isNm o&&n == "get"&&l&&(notStar s&&notStar f)&&Jk Z G a o&&Jk Z G k s&&Jk Z G d f)=Θ:=by induction e using zE<;>exact h
  obtain⟨o,n,apos,s,f,Jm,rfl,h⟩:=Dc h;have h:(isNm o&&n == "get"&&(apos.endLine == Jm.line)&&(notStar s&&notStar f)&&Jk Z G a o&&Jk Z G k s&&Jk Z G d f)=Θ:=h;simp only[j_]at h;obtain⟨⟨⟨⟨⟨⟨h1,h2⟩,h3⟩,h4,h5⟩,h6⟩,h7⟩,h8⟩:=h;have e2:n = "get":=h_ h2;subst e2;exact both (zY g h1 h3 h4 h5 (snd a X G o g h6).1 (snd k X G s g h7).1 (snd d X G f g h8).1)
 |.NK a,X,G,e,g,h=>by
  have h:Qh e (fun x b n v=>x == "max"&&G.Mr 3&&n == "key"&&wA v&&G.gl.contains 0&&notStar b&&Jk Z G a b)=Θ:=by induction e using zE<;>exact h
  obtain⟨x,p,b,n,v,kp,pos,rfl,q⟩:=wz h;simp only[j_]at q;obtain⟨⟨⟨⟨⟨⟨h1,h2⟩,h3⟩,h4⟩,h5⟩,h6⟩,h7⟩:=q;have e1:x = "max":=h_ h1;have e2:n = "key":=h_ h3;subst e1 e2;exact both (Fu g h2 h4 h5 h6 (snd a X G b g h7).1)
 |.Nr m a d,X,G,e,g,h=>by
  have h:Qh e (fun x b n v=>x == N4 (bif m then 1 else 2)&&G.Mr (bif m then 3 else 2)&&n == "default"&&notStar b&&Jk Z G a b&&Jk Z G d v)=Θ:=by induction e using zE<;>exact h
  obtain⟨x,p,b,n,v,kp,pos,rfl,q⟩:=wz h;simp only[j_]at q;obtain⟨⟨⟨⟨⟨h1,h2⟩,h3⟩,h4⟩,h5⟩,h6⟩:=q;have e1:x=N4 (bif m then 1 else 2):=h_ h1;have e2:n = "default":=h_ h3;subst e1 e2;exact both (Fv g h2 h4 (snd a X G b g h5).1 (snd d X G v g h6).1)
 |.J2 a k,X,G,e,g,h=>by
  induction e using zE with
  |Call fn args KN pos=>
   induction fn using zE with
   |Name x p=>
    match args,KN,h with
    |[o,.Name y p'],[],h=>have h':(x == "isinstance"&&G.gl.contains 14&&y == kq k&&G.gl.contains (sH k)&&notStar o&&Jk Z G a o)=Θ:=h;simp only[j_]at h';have e1:x = "isinstance":=h_ h'.1.1.1.1.1;have e2:y=kq k:=h_ h'.1.1.1.2;subst e1 e2;exact both (Fq g h'.1.1.1.1.2 h'.1.1.2 h'.1.2 (snd a X G o g h'.2).1)
    |[],_,h=>exists h
    |[_],_,h=>exists h
    |_::b::_::_,k,h=>cases b<;>cases k<;>exists h
    |[_,.Name _ _],_::_,h=>exists h
    |[_,.BoolOp ..],_,h=>exists h
    |[_,.NamedExpr ..],_,h=>exists h
    |[_,.BinOp ..],_,h=>exists h
    |[_,.UnaryOp ..],_,h=>exists h
    |[_,.Lambda ..],_,h=>exists h
    |[_,.IfExp ..],_,h=>exists h
    |[_,.Dict ..],_,h=>exists h
    |[_,.Set ..],_,h=>exists h
    |[_,.ListComp ..],_,h=>exists h
    |[_,.SetComp ..],_,h=>exists h
    |[_,.DictComp ..],_,h=>exists h
    |[_,.GeneratorExp ..],_,h=>exists h
    |[_,.Await ..],_,h=>exists h
    |[_,.Yield ..],_,h=>exists h
    |[_,.YieldFrom ..],_,h=>exists h
    |[_,.Compare ..],_,h=>exists h
    |[_,.Call ..],_,h=>exists h
    |[_,.FormattedValue ..],_,h=>exists h
    |[_,.JoinedStr ..],_,h=>exists h
    |[_,.Constant ..],_,h=>exists h
    |[_,.Attribute ..],_,h=>exists h
    |[_,.Subscript ..],_,h=>exists h
    |[_,.Starred ..],_,h=>exists h
    |[_,.Slice ..],_,h=>exists h
    |[_,.List ..],_,h=>exists h
    |[_,.Tuple ..],_,h=>exists h
   |_=>exists h
  |_=>exists h
 |.K0 m o es,X,G,e,g,h=>by
  induction e using zE with
  |Call fn args KN pos=>
   induction fn using zE with
   |Attribute oe name apos=>
    match args,KN,h with
    |a::args,[],h=>have h':(name == mM m&&mP oe&&apos.endLine == pos.line&&(decide ((a::args).length < 29)&&(G.cm||rH m))&&Jk Z G o oe&&iF Z G es (a::args))=Θ:=h;simp only[j_]at h';have e1:name=mM m:=h_ h'.1.1.1.1.1;subst e1;exact both (Fs g h'.1.1.1.1.2 h'.1.1.1.2 (u_ h'.1.1.2.1) h'.1.1.2.2 h'.2 (snd o X G oe g h'.1.2).1 (qA es X G _ g h'.2))
    |[],_,h=>exists h
    |_::_,_::_,h=>exists h
   |_=>exists h
  |_=>exists h
 |.comp G' fr tg src ifs elt,X,G,e,g,h=>by
  induction e using zE with
  |ListComp el gens scope pos=>
   have h:uF gens (fun t it fs=>i0 Z G scope G' fr&&jr G' tg t&&(Lg tg).all (fun i=>decide (fr.length<=i))&&(jv Z G src it&&lP src t)&&iF Z G' ifs fs&&Jk Z G' elt el)=Θ:=h;obtain⟨t,it,fs,rfl,h⟩:=oN h;have h':(i0 Z G scope G' fr&&jr G' tg t&&(Lg tg).all (fun i=>decide (fr.length<=i))&&(jv Z G src it&&lP src t)&&iF Z G' ifs fs&&Jk Z G' elt el)=Θ:=h;simp only[j_]at h'
   exact both (Dj g (oP h'.1.1.1.1.1) h'.1.1.1.1.2 (fun i hi=>u_ (O_.mp h'.1.1.1.2 i hi)) (Ah src X G it t g h'.1.1.2.1 h'.1.1.2.2)
    (fun X' g'=>Ag ifs X' G' fs g' h'.1.2) (fun X' g'=>(snd elt X' G' el g' h'.2).1) (fun x=>jo h'.1.1.2.1 X.env x))
  |_=>exists h
theorem qA:∀(as:List IR) (X:Cx) (G:Gm) (l:List Expr),JL Z CX cl X G->iF Z G as l=Θ->PA X l (RA X.K (gR as) (iK cl as))
 |[],X,G,l,g,h=>by
  cases l with
  |nil=>exact oq iW fun σ H Q ⟨S,τ,hs,q⟩=>q.ok _ _ (.refl _) .nil
  |cons _ _=>exists h
 |a::as,X,G,l,g,h=>by
  cases l with
  |nil=>exists h
  |cons e l=>have h':(notStar e&&Jk Z G a e&&iF Z G as l)=Θ:=h;simp only[j_]at h';refine oq (ij (snd a X G e g h'.1.2).1 (qA as X G l g h'.2) (gE h'.1.1 _ _)) fun σ H Q ⟨S,τ,hs,q⟩=>?_;refine gX (.refl _) hs.left (Ip.Ii q) fun x v H1 e1 _ m1 q1=>?_;refine qu e1 hs.right (Ip.Ii q1) fun ds vs H2 e2 J8 m2 q2=>?_;exact q2.ok _ _ e2 (.cons (m1.later J8) m2)
theorem Af:∀(o:Option IR) (X:Cx) (G:Gm) (e:Option Expr),JL Z CX cl X G->rJ Z G o e=Θ->PO X e (Qi X.K (v3 o) (oE cl o))
 |none,X,G,e,g,h=>by
  cases e with
  |none=>intro pins s σ H Q I ⟨S,τ,hs,q⟩;exact y4 pins s σ H Q I (q.ok H (.refl _))
  |some _=>exists h
 |some a,X,G,e,g,h=>by
  cases e with
  |none=>exists h
  |some e=>
   intro pins s σ H Q I ⟨S,τ,hs,q⟩;refine za (snd a X G e g h).1 pins s σ H Q I ?_;refine gX (.refl _) hs (Ip.Ii q) fun x v H1 e1 _ m1 q1=>?_
   induction x using zD with
   |int i=>cases m1.Jv;exact⟨i,rfl,q1.ok _ e1⟩
   |_=>exact q1.no.elim
theorem Ag:∀(as:List IR) (X:Cx) (G:Gm) (l:List Expr),JL Z CX cl X G->iF Z G as l=Θ->N0 X l (RT X.K (gR as) (kn cl as))
 |[],X,G,l,g,h=>by
  cases l with
  |nil=>intro pins s σ H Q I ⟨S,τ,hs,q⟩;exact zi pins s σ H Q I (q.ok H (.refl _))
  |cons _ _=>exists h
 |a::as,X,G,l,g,h=>by
  cases l with
  |nil=>exists h
  |cons e l=>
   have h':(notStar e&&Jk Z G a e&&iF Z G as l)=Θ:=h;simp only[j_]at h';intro pins s σ H Q I ⟨S,τ,hs,q⟩;refine vm (snd a X G e g h'.1.2).2 (Ag as X G l g h'.2) pins s σ H Q I ?_;refine kJ (.refl _) hs.left (Ip.Ii q) fun r H2 e2 _ k=>?_;cases r with
   |true=>rw[e_ rfl]at k ⊢;exact kJ e2 hs.right k fun b H3 e3 _ z=>z H3 e3
   |false=>rw[d_ p_]at k ⊢;exact k.ok H2 e2
theorem Ah:∀(s:Sr) (X:Cx) (G:Gm) (e tg:Expr),JL Z CX cl X G->jv Z G s e=Θ->lP s tg=Θ->PI X tg e (RI X.K (kD s) (ko cl s))
 |.JW n,X,G,e,tg,g,h,ht=>by
  induction e using zE with
  |Call fn args KN pos=>
   induction fn using zE with
   |Name x p=>
    match args,KN,h with
    |[a],[],h=>have h':(x == "range"&&G.gl.contains 15&&notStar a&&Jk Z G n a)=Θ:=h;simp only[j_]at h';have e1:x = "range":=h_ h'.1.1.1;subst e1;exact Di g h'.1.1.2 h'.1.2 (snd n X G a g h'.2).1
    |[],_,h=>exists h
    |[_],_::_,h=>exists h
    |_::_::_,_,h=>exists h
   |_=>exists h
  |_=>exists h
 |.val a,X,G,e,tg,g,h,ht=>Fz (snd a X G e g h).1
 |.MH a,X,G,e,tg,g,h,ht=>by
  induction tg using zE with
  |Tuple Yx tc tp=>
   induction e using zE with
   |Call fn args KN pos=>
    induction fn using zE with
    |Name x p=>
     match args,KN,h with
     |[l],[],h=>have h':(x == "enumerate"&&G.gl.contains 20&&notStar l&&Jk Z G a l)=Θ:=h;simp only[j_]at h';have e1:x = "enumerate":=h_ h'.1.1.1;subst e1;exact FD g h'.1.1.2 h'.1.2 (snd a X G l g h'.2).1
     |[],_,h=>exists h
     |[_],_::_,h=>exists h
     |_::_::_,_,h=>exists h
    |_=>exists h
   |_=>exists h
  |_=>exact eX ht
 |.zip a b,X,G,e,tg,g,h,ht=>by
  induction tg using zE with
  |Tuple Yx tc tp=>
   induction e using zE with
   |Call fn args KN pos=>
    induction fn using zE with
    |Name x p=>
     match args,KN,h with
     |[l,r],[],h=>have h':(x == "zip"&&G.gl.contains 17&&notStar l&&notStar r&&Jk Z G a l&&Jk Z G b r)=Θ:=h;simp only[j_]at h';have e1:x = "zip":=h_ h'.1.1.1.1.1;subst e1;exact FC g h'.1.1.1.1.2 h'.1.1.1.2 h'.1.1.2 (snd a X G l g h'.1.2).1 (snd b X G r g h'.2).1
     |[],_,h=>exists h
     |[_],_,h=>exists h
     |[_,_],_::_,h=>exists h
     |_::_::_::_,_,h=>exists h
    |_=>exists h
   |_=>exists h
  |_=>exact eX ht
end
end
inductive JF (K:Frag)(F:Ω->Prop)(H:Hp):St->Ev->List Ω->Prop where
 | nil:JF K F H [] [] []
 | none {o:Option V}{σ:St}{τ:Ev}{f:List Ω}:JF K F H σ τ f->JF K F H (o::σ) (.none::τ) f
 | some {v:V}{d:D}{f:List Ω}{σ:St}{τ:Ev}{g:List Ω}:Jo K F H v d f->JF K F H σ τ g->JF K F H (.some v::σ) (.some d::τ) (f++g)
section
variable {K:Frag}{F F':Ω->Prop}{H H':Hp}{σ:St}{τ:Ev}{f:List Ω}
theorem JF.step (hl:∀a (u:LD),F a->Rd H a u.o->F' a/\Rd H' a u.o)(ht:∀a xs,JC K H a xs->JC K H' a xs):∀ {σ:St}{τ:Ev}{f:List Ω},(∀a∈f,¬F a->H a≠Option.none->¬F' a/\H' a=H a)->JF K F H σ τ f->JF K F' H' σ τ f
 |_,_,_,_,.nil=>.nil
 |_,_,_,k,.none h=>.none (JF.step hl ht k h)
 |_,_,_,k,.some m h=>.some (m.step hl ht fun a ha=>k a (q_ _ ha)) (JF.step hl ht (fun a ha=>k a (s_ _ ha)) h)
theorem JF.own:∀ {σ:St}{τ:Ev}{f:List Ω},JF K F H σ τ f->∀a∈f,¬F a/\∃u,H a=.some u
 |_,_,_,.nil=>fun _ h=>absurd h (by simp)
 |_,_,_,.none h=>JF.own h
 |_,_,_,.some m h=>fun a ha=>by
  rcases o_.mp ha with ha|ha
  ·exact m.own a ha
  ·exact JF.own h a ha
theorem iP {o:Option D}{τ:Ev}{i:Nat}:gF (o::τ) (i+1)=gF τ i:=by unfold gF;simp
theorem i7 {o:Option D}{τ:Ev}:gF (o::τ) 0=o:=by unfold gF;simp
theorem JF.at:∀ {σ:St}{τ:Ev}{f:List Ω}{i:Nat}{d:D},JF K F H σ τ f->gF τ i=.some d->∃v fv g,σ[i]? = .some (.some v)/\Jo K F H v d fv/\JF K F H σ (τ.set i .none) g/\f.Perm (fv++g)
 |_,_,_,i,d,.nil,h=>by simp[gF]at h
 |_,_,_,0,d,.none _,h=>by rw[i7]at h;cases h
 |_,_,_,0,d,.some m h',h=>by rw[i7]at h;cases h;exact⟨_,_,_,rfl,m,.none h',.refl _⟩
 |_,_,_,i+1,d,.none h',h=>by rw[iP]at h;obtain⟨v,fv,g,h1,h2,h3,h4⟩:=JF.at h' h;exact⟨v,fv,g,by simpa using h1,h2,.none h3,h4⟩
 |_,_,_,i+1,d,.some (f:=f0) m h',h=>by rw[iP]at h;obtain⟨v,fv,g,h1,h2,h3,h4⟩:=JF.at h' h;refine⟨v,fv,f0++g,by simpa using h1,h2,.some m h3,?_⟩;refine(aau f0 h4).trans ?_;rw[<- r_,<- r_];exact List.Perm.append_right g aam
theorem JF.put:∀ {σ:St}{τ:Ev}{f:List Ω} (i:Nat) {v:V}{d:D}{fv:List Ω},JF K F H σ τ f->Jo K F H v d fv->∃g h,JF K F H (σ.set i (.some v)) (τ.set i (.some d)) g/\(g++h).Perm (fv++f)
 |_,_,_,i,v,d,fv,.nil,m=>⟨[],_,.nil,.refl _⟩
 |_,_,_,0,v,d,fv,.none h,m=>⟨_,[],.some m h,by rw[v_]⟩
 |_,_,_,0,v,d,fv,.some (f:=f0) (g:=g0) m' h,m=>⟨_,f0,.some m h,by rw[r_];exact aau _ aam⟩
 |_,_,_,i+1,v,d,fv,.none h,m=>by obtain⟨g,h',h1,h2⟩:=JF.put i h m;exact⟨g,h',.none h1,h2⟩
 |_,_,_,i+1,v,d,fv,.some (f:=f0) (g:=g0) m' h,m=>by obtain⟨g,h',h1,h2⟩:=JF.put i h m;refine⟨f0++g,h',.some m' h1,?_⟩;rw[r_];refine(aau f0 h2).trans ?_;rw[<- r_,<- r_];exact List.Perm.append_right g0 aam
theorem JF.slots {S:Ω->Prop}{is:List Nat}(h:JF K F H σ τ f)(hF:∀a,F a->S a)(hf:∀a∈f,S a):Slots K S H σ τ is:=fun i hi d z=>by obtain⟨v,fv,g,h1,h2,h3,h4⟩:=h.at z;exact⟨v,h1,h2.read hF fun a ha=>hf a (h4.mem_iff.mpr (q_ _ ha))⟩
theorem JF.freeze (is:List Nat):∀ {σ:St}{τ:Ev}{f:List Ω} (k:Nat),JF K F H σ τ f->∃fi g,f.Perm (fi++g)/\(∀F':Ω->Prop,(∀a,F a->F' a)->(∀a∈fi,F' a)->(∀a∈g,¬F a->¬F' a)->JF K F' H σ (lh is k τ) g)/\
  ∀F':Ω->Prop,(∀a,F a->F' a)->(∀a∈fi,F' a)->∀i,is.contains (k+i)=Θ->∀d,gF τ i=.some d->∃v,σ[i]? = .some (.some v)/\Iq K F' H v d
 |_,_,_,k,.nil=>⟨[],[],.refl _,fun _ _ _ _=>.nil,fun _ _ _ i _ d z=>by simp[gF]at z⟩
 |_,_,_,k,.none h=>by
  obtain⟨fi,g,h1,h2,h3⟩:=JF.freeze is (k+1) h;refine⟨fi,g,h1,fun F' a b c=>?_,fun F' a b i hi d z=>?_⟩
  ·unfold lh;have e:(if is.contains k=Θ then Option.map er (Option.none:Option D) else Option.none)=Option.none:=by split<;>rfl
   rw[e];exact .none (h2 F' a b c)
  ·cases i with
   |zero=>rw[i7]at z;cases z
   |succ i=>rw[iP]at z;obtain⟨v,q1,q2⟩:=h3 F' a b i (by rw[show k+1+i=k+(i+1) by omega];exact hi) d z;exact⟨v,by simpa using q1,q2⟩
 |_,_,_,k,.some (v:=v) (d:=d0) (f:=f0) (g:=g0) m h=>by
  obtain⟨fi,g,h1,h2,h3⟩:=JF.freeze is (k+1) h;by_cases hc:is.contains k=Θ
  ·refine⟨f0++fi,g,by rw[r_];exact aau _ h1,fun F' a b c=>?_,fun F' a b i hi d z=>?_⟩
   ·unfold lh;rw[e_ hc];exact .some (f:=[]) ((m.read a fun x hx=>b x (q_ _ hx)).frozen) (h2 F' a (fun x hx=>b x (s_ _ hx)) c)
   ·cases i with
    |zero=>rw[i7]at z;cases z;exact⟨v,rfl,m.read a fun x hx=>b x (q_ _ hx)⟩
    |succ i=>rw[iP]at z;obtain⟨v,q1,q2⟩:=h3 F' a (fun x hx=>b x (s_ _ hx)) i (by rw[show k+1+i=k+(i+1) by omega];exact hi) d z;exact⟨v,by simpa using q1,q2⟩
  ·refine⟨fi,f0++g,?_,fun F' a b c=>?_,fun F' a b i hi d z=>?_⟩
   ·refine(aau f0 h1).trans ?_;rw[<- r_,<- r_];exact List.Perm.append_right g aam
   ·unfold lh;rw[d_ hc];exact .some (m.step (fun x xs q r=>⟨a x q,r⟩) (fun x xs q=>q) fun x hx n _=>⟨c x (q_ _ hx) n,rfl⟩) (h2 F' a b fun x hx=>c x (s_ _ hx))
   ·cases i with
    |zero=>exact absurd hi hc
    |succ i=>rw[iP]at z;obtain⟨v,q1,q2⟩:=h3 F' a b i (by rw[show k+1+i=k+(i+1) by omega];exact hi) d z;exact⟨v,by simpa using q1,q2⟩
end
structure Mv (F:Ω->Prop)(H:Hp)(f:List Ω)(F':Ω->Prop)(H':Hp):Prop where
 same:gJ H H'
 LI:∀a,F a->F' a
 out:∀a,F' a->F a∨a∈f∨H a=Φ
structure Ow (K:Frag)(F:Ω->Prop)(H:Hp)(f:List Ω)(F':Ω->Prop)(H':Hp)(σ:St)(v:V)(d:D)(fv:List Ω)(Jl:Ev)(f':List Ω):Prop where
 K3:Mv F H f F' H'
 JB:LO F' H'
 rep:Jo K F' H' v d fv
 Kc:JF K F' H' σ Jl f'
 J7:(fv++f').Nodup
 mem:∀a∈fv++f',a∈f∨H a=Φ
structure Yy (K:Frag)(F:Ω->Prop)(H:Hp)(f:List Ω)(F':Ω->Prop)(H':Hp)(σ:St)(v:List V)(d:List D)(fv:List Ω)(Jl:Ev)(f':List Ω):Prop where
 K3:Mv F H f F' H'
 JB:LO F' H'
 rep:Ir K F' H' v d fv
 Kc:JF K F' H' σ Jl f'
 J7:(fv++f').Nodup
 mem:∀a∈fv++f',a∈f∨H a=Φ
section
variable {K:Frag}{F F' Wt:Ω->Prop}{H H' Wu:Hp}{f f':List Ω}
theorem Mv.refl:Mv F H f F H:=⟨.refl _,fun _ h=>h,fun _ h=>.inl h⟩
theorem Mv.trans (a:Mv F H f F' H')(b:Mv F' H' f' Wt Wu)(hf:∀x∈f',x∈f∨H x=Φ):Mv F H f Wt Wu:=⟨a.same.trans b.same,fun x h=>b.LI x (a.LI x h),fun x h=>by
 rcases b.out x h with h|h|h
 ·exact a.out x h
 ·rcases hf x h with h|h
  ·exact .inr (.inl h)
  ·exact .inr (.inr h)
 ·exact .inr (.inr (a.same.free h))⟩
theorem Jo.K3 {v:V}{d:D}{fv:List Ω}(m:Jo K F H v d fv)(s:Mv F H f F' H')(h:∀a∈fv,a∉f):Jo K F' H' v d fv:=
 m.step (fun a xs q r=>⟨s.LI a q,s.same.rd r⟩) (fun a xs q=>s.same.Lo q) fun a ha n hn=>by
  obtain⟨_,xs,e⟩:=m.own a ha;refine⟨fun z=>?_,(s.same _ _ e).trans e.symm⟩;rcases s.out a z with z|z|z
  ·exact n z
  ·exact h a ha z
  ·exact hn z
theorem Ir.K3 {v:List V}{d:List D}{fv:List Ω}(m:Ir K F H v d fv)(s:Mv F H f F' H')(h:∀a∈fv,a∉f):Ir K F' H' v d fv:=
 m.step (fun a xs q r=>⟨s.LI a q,s.same.rd r⟩) (fun a xs q=>s.same.Lo q) fun a ha n hn=>by
  obtain⟨_,xs,e⟩:=m.own a ha;refine⟨fun z=>?_,(s.same _ _ e).trans e.symm⟩;rcases s.out a z with z|z|z
  ·exact n z
  ·exact h a ha z
  ·exact hn z
end
def RO (K:Frag)(g:Ev->Res (D×Ev)):TE:=fun σ H Q=>∃F τ f,LO F H/\JF K F H σ τ f/\f.Nodup/\Ip (g τ) fun p=>∀v H' F' fv f',Ow K F H f F' H' σ v p.1 fv p.2 f'->Q v H'
def Ql (K:Frag)(g:Ev->Res (List D×Ev)):TA:=fun σ H Q=>∃F τ f,LO F H/\JF K F H σ τ f/\f.Nodup/\Ip (g τ) fun p=>∀v H' F' fv f',Yy K F H f F' H' σ v p.1 fv p.2 f'->Q v H'
abbrev Kn (K:Frag)(S:Ω->Prop)(H:Hp)(Q:VK):List D->Prop:=fun ds=>∀p ys H',gJ H H'->H p=Φ->H' p=Δ (.lst ys)->Io K (fun a=>nw S H a/\a≠p) H' ys ds->Q (.ref p) H'
def RN (K:Frag)(is:List Nat)(f:Ev->Res (List D)):TE:=fun σ H Q=>∃S τ,Slots K S H σ τ is/\Ip (f τ) (Kn K S H Q)
noncomputable def kg:D->Res (List D)
 |.lst _ ds=>.ok ds
 |_=>Ji
section
variable {K:Frag}{F F':Ω->Prop}{H H':Hp}{σ:St}{τ:Ev}{f:List Ω}{S:Ω->Prop}
theorem wI {vs ws:List V}{ds:List D}{p:Ω}{H2:Hp}(m:Io K (nw S H) H2 vs ds)(hp:H2 p=Φ):Io K (fun a=>nw S H a/\a≠p) (upd H2 p (.lst ws)) vs ds:=
 m.step (fun a xs h r=>by
  have Kx:a≠p:=fun z=>r.some (by rw[z];exact hp);refine⟨⟨h,Kx⟩,?_⟩;unfold Rd;rw[gK Kx]
  exact r) fun a xs h=>(gJ.upd hp).Lo h
theorem grow (P:Ω->Prop)(JB:LO F H)(r:JF K F H σ τ f)(e:gJ H H') :
  LO (fun a=>F a∨(P a/\H a=Φ/\H' a≠Φ)) H'/\JF K (fun a=>F a∨(P a/\H a=Φ/\H' a≠Φ)) H' σ τ f/\Mv F H f (fun a=>F a∨(P a/\H a=Φ/\H' a≠Φ)) H':=by
 refine⟨fun a h=>?_,r.step (fun a xs q rd=>⟨.inl q,e.rd rd⟩) (fun a xs q=>e.Lo q) fun a ha n hn=>⟨fun z=>?_,?_⟩,⟨e,fun a h=>.inl h,fun a h=>?_⟩⟩
 ·rcases h with h|h
  ·intro z;exact JB a h (e.free z)
  ·exact h.2.2
 ·rcases z with z|z
  ·exact n z
  ·exact hn z.2.1
 ·obtain⟨_,xs,q⟩:=r.own a ha;exact(e _ _ q).trans q.symm
 ·rcases h with h|h
  ·exact .inl h
  ·exact .inr (.inr h.2.1)
theorem kh (JB:LO F H)(r:JF K F H σ τ f)(e:gJ H H'):LO F H'/\JF K F H' σ τ f/\Mv F H f F H':=by refine⟨fun a h z=>JB a h (e.free z),r.step (fun a xs q rd=>⟨q,e.rd rd⟩) (fun a xs q=>e.Lo q) fun a ha n hn=>⟨n,?_⟩,⟨e,fun a h=>h,fun a h=>.inl h⟩⟩;obtain⟨_,xs,q⟩:=r.own a ha;exact(e _ _ q).trans q.symm
theorem j6 (is:List Nat)(JB:LO F H)(r:JF K F H σ τ f)(nd:f.Nodup):∃F1 g,LO F1 H/\JF K F1 H σ (Jw is τ) g/\g.Nodup/\Mv F H f F1 H/\(∀a∈g,a∈f)/\Slots K F1 H σ τ is:=by
 obtain⟨fi,g,h1,h2,h3⟩:=r.freeze is 0;have NM:(fi++g).Nodup:=h1.nodup_iff.mp nd;have Qm:∀a∈g,a∉fi:=fun a ha hb=>(x_.mp NM).2.2 a hb a ha rfl;have Wv:∀a∈fi,a∈f:=fun a ha=>h1.mem_iff.mpr (q_ _ ha);have Yz:∀a∈g,a∈f:=fun a ha=>h1.mem_iff.mpr (s_ _ ha);refine⟨fun a=>F a∨a∈fi,g,fun a h=>?_,h2 _ (fun a h=>.inl h) (fun a h=>.inr h) (fun a ha n z=>?_),(x_.mp NM).2.1,⟨.refl _,fun a h=>.inl h,fun a h=>?_⟩,Yz,fun i hi d z=>?_⟩
 ·rcases h with h|h
  ·exact JB a h
  ·obtain⟨_,xs,q⟩:=r.own a (Wv a h);rw[q];simp
 ·rcases z with z|z
  ·exact n z
  ·exact Qm a ha z
 ·rcases h with h|h
  ·exact .inl h
  ·exact .inr (.inl (Wv a h))
 ·exact h3 _ (fun a h=>.inl h) (fun a h=>.inr h) i (by simpa using hi) d z
theorem iS {is:List Nat}(r:JF K F H σ τ f):Slots K (fun _=>True) H σ τ is:=r.slots (fun _ _=>trivial) fun _ _=>trivial
theorem Iq.fix {v:V}{d:D}(m:Iq K (L2.nw F H) H' v d):Iq K (fun a=>F a∨(True/\H a=Φ/\H' a≠Φ)) H' v d:=m.step (fun a xs h r=>⟨h.elim (fun z=>.inl z) fun z=>.inr ⟨trivial,z,r.some⟩,r⟩) fun a xs h=>h
end
section
variable {X:Cx}{cl:Nat->List D->Res D}
theorem Iz {i:Nat}{e:Expr}(he:PE X e (B1 i))(mv:Bool):PE X e (RO X.K (JI cl mv (.v i))):=by
 refine gN he fun σ H Q ⟨F,τ,f,JB,r,nd,q⟩=>?_;rw[E6]at q;cases z:gF τ i with
 |none=>rw[z]at q;exact q.no.elim
 |some d=>
  rw[z]at q;obtain⟨v,fv,g,h1,h2,h3,h4⟩:=r.at z;have NM:(fv++g).Nodup:=h4.nodup_iff.mp nd;cases mv with
  |true=>have q':=(show Ip (.ok (d,τ.set i Φ):Res (D×Ev)) _ from q).ok;exact⟨v,h1,q' v H F fv g ⟨.refl,JB,h2,h3,NM,fun a ha=>.inl (h4.mem_iff.mpr ha)⟩⟩
  |false=>
   have q':=(show Ip (.ok (er d,τ.set i (Δ (er d))):Res (D×Ev)) _ from q).ok;have Qm:∀a∈g,a∉fv:=fun a ha hb=>(x_.mp NM).2.2 a hb a ha rfl;have m1:Jo X.K (fun a=>F a∨a∈fv) H v (er d) []:=(h2.read (fun a h=>.inl h) (fun a h=>.inr h)).frozen;have r1:JF X.K (fun a=>F a∨a∈fv) H σ (τ.set i Φ) g:=h3.step (fun a xs h r=>⟨.inl h,r⟩) (fun a xs h=>h) fun a ha n _=>⟨fun z=>z.elim n (Qm a ha),rfl⟩
   obtain⟨g',h',r2,p2⟩:=r1.put i m1;have Kz:σ.set i (Δ v)=σ:=by
    apply List.ext_getElem?;intro j;rw[List.getElem?_set];by_cases hj:i=j
    ·subst hj;have JT:i < σ.length:=(E_.mp h1).1;rw[e_ rfl,e_ JT,h1]
    ·rw[d_ hj]
   rw[Kz,List.set_set]at r2;rw[List.nil_append]at p2;have Pz:(g'++h').Nodup:=p2.nodup_iff.mpr (x_.mp NM).2.1;refine⟨v,h1,q' v H _ [] g' ⟨⟨.refl _,fun a h=>.inl h,fun a h=>?_⟩,fun a h=>?_,m1,r2,(x_.mp Pz).1,fun a ha=>?_⟩⟩
   ·exact h.elim (fun z=>.inl z) fun z=>.inr (.inl (h4.mem_iff.mpr (q_ _ z)))
   ·rcases h with h|h
    ·exact JB a h
    ·obtain⟨_,xs,e⟩:=h2.own a h;rw[e];simp
   ·have:a∈g:=p2.mem_iff.mp (q_ _ (by simpa using ha));exact .inl (h4.mem_iff.mpr (s_ _ this))
theorem Ij {l:List Expr}{n:Nat}{pos:Pos}{g:Ev->Res (List D×Ev)}(h:PA X l (Ql X.K g)):PE X (.Tuple l n pos) (RO X.K fun τ=>Ii (g τ) fun p=>Iy (iu p.1.length) (.ok (.tup p.1,p.2))):=by
 refine gN (vg h) fun σ H Q ⟨F,τ,f,JB,r,nd,q⟩=>⟨F,τ,f,JB,r,nd,(Ip.Ii q).mono fun p hp vs H1 F1 fv f1 o=>?_⟩
 obtain⟨gd,hp⟩:=Ip.Iy hp;refine⟨by rw[o.rep.length];exact iI gd,fun p' Of=>hp.ok _ _ F1 fv f1 ?_⟩;have e:gJ H1 (upd H1 p' (.tup vs)):=.upd Of;obtain⟨k1,k2,k3⟩:=kh o.JB o.Kc e;refine⟨o.K3.trans k3 (fun x hx=>o.mem x (s_ _ hx)),k1,.tup (.inl (.inl gI)) (o.rep.K3 k3 fun a ha hb=>(x_.mp o.J7).2.2 a ha a hb rfl),k2,o.J7,o.mem⟩
theorem Ik {l:List Expr}{pos:Pos}{g:Ev->Res (List D×Ev)}(h:PA X l (Ql X.K g)):PE X (.List l pos) (RO X.K fun τ=>Ii (g τ) fun p=>Iy (iu p.1.length) (.ok (.lst Θ p.1,p.2))):=by
 refine gN (vi h) fun σ H Q ⟨F,τ,f,JB,r,nd,q⟩=>⟨F,τ,f,JB,r,nd,(Ip.Ii q).mono fun p hp vs H1 F1 fv f1 o=>?_⟩
 obtain⟨gd,hp⟩:=Ip.Iy hp;refine⟨by rw[o.rep.length];exact iI gd,fun p' Of=>hp.ok _ _ F1 (p'::fv) f1 ?_⟩;have e:gJ H1 (upd H1 p' (.lst vs)):=.upd Of;obtain⟨k1,k2,k3⟩:=kh o.JB o.Kc e;refine⟨o.K3.trans k3 (fun x hx=>o.mem x (s_ _ hx)),k1,.KI (fun z=>o.JB _ z Of) gI (o.rep.K3 k3 fun a ha hb=>(x_.mp o.J7).2.2 a ha a hb rfl),k2,?_,fun a ha=>?_⟩
 ·rw[c_,G_];refine⟨fun z=>?_,o.J7⟩;rcases o_.mp z with z|z
  ·obtain⟨_,xs,e⟩:=o.rep.own _ z;rw[Of]at e;cases e
  ·obtain⟨_,xs,e⟩:=o.Kc.own _ z;rw[Of]at e;cases e
 ·rw[c_]at ha;rcases k_.mp ha with rfl|ha
  ·exact .inr (o.K3.same.free Of)
  ·exact o.mem a ha
theorem Il {c a b:Expr}{pos:Pos}{vc:List Nat}{fc:Ev->Res Bool}{fa fb:Ev->Res (D×Ev)}(hc:PT X c (RT X.K vc fc))(ha:PE X a (RO X.K fa))(hb:PE X b (RO X.K fb)) :
  PE X (.IfExp c a b pos) (RO X.K fun τ=>Ii (fc τ) fun r=>if r=Θ then fa τ else fb τ):=by
 refine gN (pQ hc ha hb) fun σ H Q ⟨F,τ,f,JB,r,nd,q⟩=>?_;refine kJ (.refl _) (iS r) (Ip.Ii q) fun x H2 e2 _ k=>?_;obtain⟨k1,k2,k3⟩:=kh JB r e2;have go:∀ {g:Ev->Res (D×Ev)},Ip (g τ) (fun p=>∀v H' F' fv f',Ow X.K F H f F' H' σ v p.1 fv p.2 f'->Q v H')->RO X.K g σ H2 Q:=fun hg=>
  ⟨F,τ,f,k1,k2,nd,hg.mono fun p hp v H' F' fv f' o=>hp v H' F' fv f' ⟨k3.trans o.K3 (fun x hx=>.inl hx),o.JB,o.rep,o.Kc,o.J7,fun a ha=>(o.mem a ha).elim (fun z=>.inl z) fun z=>.inr (e2.free z)⟩⟩
 cases x with
 |true=>rw[e_ rfl]at k ⊢;exact go k
 |false=>rw[d_ p_]at k ⊢;exact go k
theorem Dk:PA X [] (Ql X.K fun τ=>.ok ([],τ)):=oq iW fun σ H Q ⟨F,τ,f,JB,r,nd,q⟩=>q.ok [] H F [] f ⟨.refl,JB,.nil,r,nd,fun a ha=>.inl ha⟩
theorem Ai {e:Expr}{l:List Expr}{ga:Ev->Res (D×Ev)}{gs:Ev->Res (List D×Ev)}(hn:notStar e=Θ)(ha:PE X e (RO X.K ga))(hr:PA X l (Ql X.K gs)) :
  PA X (e::l) (Ql X.K fun τ=>Ii (ga τ) fun p=>Ii (gs p.2) fun q=>.ok (p.1::q.1,q.2)):=by
 refine oq (ij ha hr (gE hn _ _)) fun σ H Q ⟨F,τ,f,JB,r,nd,q⟩=>⟨F,τ,f,JB,r,nd,(Ip.Ii q).mono fun p hp v H1 F1 fv f1 o=>?_⟩
 refine⟨F1,p.2,f1,o.JB,o.Kc,(x_.mp o.J7).2.1,(Ip.Ii hp).mono fun p' Of vs H2 F2 YA f2 o2=>?_⟩;have Qm:∀a∈fv,a∉f1:=fun a h1 h2=>(x_.mp o.J7).2.2 a h1 a h2 rfl;have m2:=o.rep.K3 o2.K3 Qm;refine Of.ok (v::vs) H2 F2 (fv++YA) f2 ⟨o.K3.trans o2.K3 (fun x hx=>o.mem x (s_ _ hx)),o2.JB,.cons m2 o2.rep,o2.Kc,?_,fun a ha=>?_⟩
 ·rw[r_];refine x_.mpr ⟨(x_.mp o.J7).1,o2.J7,fun a h1 b h2 e=>?_⟩;subst e;rcases o2.mem a h2 with z|z
  ·exact Qm a h1 z
  ·obtain⟨_,xs,e⟩:=o.rep.own a h1;rw[z]at e;cases e
 ·rw[r_]at ha;rcases o_.mp ha with ha|ha
  ·exact o.mem a (q_ _ ha)
  ·rcases o2.mem a ha with z|z
   ·exact o.mem a (s_ _ z)
   ·exact .inr (o.K3.same.free z)
end
section
variable {Z:Sg}{CX:KD}{cl:Nat->List D->Res D}{X:Cx}{G:Gm}
def Uz (K:Frag)(cl:Nat->List D->Res D)(f:Nat)(vs:List V)(H:Hp)(Q:VK):Prop:=∃F ds,LO F H/\Io K F H vs ds/\Ip (cl f (Jj ds)) fun d=>∀v H' F' fv,Out K F H F' H' v d fv->Q v H'
theorem wJ (g:JL Z CX cl X G){f:Nat}{x:Str}{p pos:Pos}{es:List IR}{args:List Expr}{t:TA}(h1:mQ Z G f x=Θ)(h2:Z.OG G f=Θ)(JZ:iF Z G es args=Θ)(h:PA X args t)
  (h0:args=[]->∀σ H (Q:List V->Hp->Prop),t σ H Q->Q [] H):PE X (.Call (.Name x p) args [] pos) (fun σ H Q=>t σ H fun vs H1=>Uz X.K cl f vs H1 Q):=by
 obtain⟨k1,k2,k3,k4⟩:=wB g h1;obtain⟨k,Us,fd,ps,hm,Oe,hb,F,hr,hlen⟩:=(g.fns f (oM h2).1 (oM h2).2 x k2).ex;obtain⟨E,hP⟩:=g.Uq;intro pins s σ H Q I q;have fin:∀(us:List Ψ) (s1:Α) (vs:List V) (H1:Hp),Inv X pins σ H1 s1->Vals vs us->Uz X.K cl f vs H1 Q->Κ (Μ X.prog X.w) X.A (call (.ref Us) us) (EP X pins σ Q) X.xe s1:=by
  intro us s1 vs H1 I1 r ⟨Fc,ds,JB,m,q1⟩;have hl:=hlen _ _ q1;rw[jm]at hl;refine sN F hr hb hP g.Pj I1 r (by rw[m.length];exact hl) JB m ?_;cases z:cl f (Jj ds) with
  |error er=>rw[z]at q1;cases er;exact q1.no.elim
  |ok d=>rw[z]at q1;exact q1.ok
 refine wpAny_Call_Name_kw (oj I k1 hm ?_ k4);cases args with
 |nil=>
  cases es with
  |cons _ _=>cases JZ
  |nil=>exact PySem.W.callWith_K0 I.LR Oe (fin [] s [] H I .nil (h0 rfl σ H _ q))
 |cons e l=>
  cases es with
  |nil=>cases JZ
  |cons a es=>have JJ:(notStar e&&Jk Z G a e&&iF Z G es l)=Θ:=JZ;simp only[j_]at JJ;refine PySem.W.callWith_K (h₀:=X.base) I.ok.mod.R4 Oe (Jr (h pos pins s σ H _ I q) fun us s1 ⟨vs,H1,I1,r,q1⟩=>⟨I1.LR,?_⟩) (gE JJ.1.1 l X.env) (i6 Z G (es:=es) pos X.env JJ.2);exact fin us s1 vs H1 I1 r q1
theorem Jo.MY {K:Frag}{F F':Ω->Prop}{H:Hp}{v:V}{d:D}{fv:List Ω}(m:Jo K F H v d fv)(n:gH d=Θ):Jo K F' H v d []:=(m.read (S:=fun _=>True) (fun _ _=>trivial) fun _ _=>trivial).free n
theorem H0 (g:JL Z CX cl X G){f:Nat}{x:Str}{p pos:Pos}{es:List IR}{args:List Expr}(h1:mQ Z G f x=Θ)(h2:Z.OG G f=Θ)(JZ:iF Z G es args=Θ)(mv:Bool) :
  PE X (.Call (.Name x p) args [] pos) (RO X.K (JI cl mv (.call f es))):=by
 have pa:=qA es X G args g JZ
 have pe:=wJ (p:=p) (pos:=pos) g h1 h2 JZ pa (fun e σ H Q ⟨S,τ,hs,q⟩=>by
  subst e;cases es with
  |nil=>exact q.ok [] H (.refl _) .nil
  |cons _ _=>cases JZ)
 refine gN pe fun σ H Q ⟨F,τ,fo,JB,r,nd,q⟩=>?_;have q':Ip (Ii (iK cl es τ) fun ds=>Ii (cl f (Jj ds)) fun d=>if gH d=Θ then .ok (d,τ) else .ok (d,Jw (gR es) τ)) (fun p=>∀v H' F' fv f',Ow X.K F H fo F' H' σ v p.1 fv p.2 f'->Q v H'):=q
 -- read without UA up
 have borrow:(∀ds,iK cl es τ=.ok ds->Ip (cl f (Jj ds)) fun d=>gH d=Θ/\∀v H' F' fv f',Ow X.K F H fo F' H' σ v d fv τ f'->Q v H')->Ip (iK cl es τ) (fun _=>True)->RA X.K (gR es) (iK cl es) σ H (fun vs H1=>Uz X.K cl f vs H1 Q):=by intro hk Jq;refine qu (.refl _) (iS r) Jq.eq fun ds vs H1 e1 _ m1 q1=>?_;refine⟨fun a=>H1 a≠Φ,ds,fun a h=>h,m1.step (fun a xs h rd=>⟨rd.some,rd⟩) fun a xs h=>h,(hk ds q1.1).mono fun d hd v H' F' fv o=>?_⟩;obtain⟨k1,k2,k3⟩:=kh JB r (e1.trans o.same);exact hd.2 v H' F [] fo ⟨k3,k1,o.rep.MY hd.1,k2,by simpa using nd,fun a ha=>.inl (by simpa using ha)⟩
 cases z:iK cl es τ with
 |error er=>rw[z]at q';cases er;exact q'.no.elim
 |ok ds=>
  rw[z]at q';have q1:Ip (Ii (cl f (Jj ds)) fun d=>if gH d=Θ then .ok (d,τ) else .ok (d,Jw (gR es) τ)) (fun p=>∀v H' F' fv f',Ow X.K F H fo F' H' σ v p.1 fv p.2 f'->Q v H'):=q';cases zc:cl f (Jj ds) with
  |error er=>rw[zc]at q1;cases er;exact q1.no.elim
  |ok d=>
   rw[zc]at q1;have q2:Ip (if gH d=Θ then .ok (d,τ) else .ok (d,Jw (gR es) τ)) (fun p=>∀v H' F' fv f',Ow X.K F H fo F' H' σ v p.1 fv p.2 f'->Q v H'):=q1;by_cases hl:gH d=Θ
   ·rw[e_ hl]at q2;exact borrow (fun ds' h=>by rw[z]at h;cases h;rw[zc];exact⟨hl,q2.ok⟩) (by rw[z];trivial)
   ·rw[d_ hl]at q2;obtain⟨F1,gg,b1,b2,b3,b4,b5,b6⟩:=j6 (gR es) JB r nd;refine qu (Kt:=fun ds'=>ds'=ds) (.refl _) b6 (by rw[z];rfl) fun ds' vs H1 e1 _ m1 e=>?_;subst e;have hm:Io X.K (fun a=>F1 a∨(True/\H a=Φ/\H1 a≠Φ)) H1 vs ds':=m1.step (fun a xs h r=>⟨h.elim (fun z=>.inl z) fun z=>.inr ⟨trivial,z,r.some⟩,r⟩) fun a xs h=>h;obtain⟨c1,c2,c3⟩:=grow (fun _=>True) b1 b2 e1;refine⟨_,ds',c1,hm,?_⟩;rw[zc];intro v H' F' fv o;have s1:Mv (fun a=>F1 a∨(True/\H a=Φ/\H1 a≠Φ)) H1 gg F' H':=⟨o.same,o.LI,fun a h=>(o.out a h).elim (fun z=>.inl z) fun z=>.inr (.inr z)⟩
    have r2:JF X.K F' H' σ (Jw (gR es) τ) gg:=c2.step (fun a xs q rd=>⟨o.LI a q,o.same.rd rd⟩) (fun a xs q=>o.same.Lo q) fun a ha n hn=>by
     obtain⟨_,xs,e⟩:=c2.own a ha;refine⟨fun z=>?_,(o.same _ _ e).trans e.symm⟩;rcases o.out a z with z|z
     ·exact n z
     ·exact hn z
    refine q2.ok v H' F' fv gg ⟨(b4.trans c3 (fun x hx=>.inl (b5 x hx))).trans s1 (fun x hx=>.inl (b5 x hx)),o.JB,o.rep,r2,?_,fun a ha=>?_⟩
    ·refine x_.mpr ⟨o.J7,b3,fun a h1 b h2 e=>?_⟩;subst e;obtain⟨_,xs,e⟩:=c2.own a h2;rw[o.new a h1]at e;cases e
    ·rcases o_.mp ha with ha|ha
     ·exact .inr (e1.free (o.new a ha))
     ·exact .inl (b5 a ha)
theorem ip {a:IR}{e:Expr}(he:PE X e (RD X.K (vars a) (Iu cl a)))(hN:g9 a=Θ->PE X e (RN X.K (vars a) fun τ=>Ii (Iu cl a τ) kg)):PE X e (RO X.K fun τ=>Ii (Iu cl a τ) fun d=>.ok (ib a d τ)):=by
 intro pins s σ H Q I h;obtain⟨F,τ,fo,JB,r,nd,q⟩:=h
 replace q:Ip (Ii (Iu cl a τ) fun d=>.ok (ib a d τ)) (fun p=>∀v H' F' fv f',Ow X.K F H fo F' H' σ v p.1 fv p.2 f'->Q v H'):=q
 have rd:RD X.K (vars a) (Iu cl a) σ H Q->Κ (Μ X.prog X.w) X.A (eval e X.env) (EP X pins σ Q) X.xe s:=fun h=>he pins s σ H Q I h;cases z:Iu cl a τ with
 |error er=>rw[z]at q;cases er;exact q.no.elim
 |ok d=>
  rw[z]at q;have q1:∀v H' F' fv f',Ow X.K F H fo F' H' σ v (ib a d τ).1 fv (ib a d τ).2 f'->Q v H':=q;by_cases hl:gH d=Θ
  ·unfold ib at q1;rw[e_ hl]at q1;refine rd ⟨fun _=>True,τ,iS r,?_⟩;rw[z];intro v H' e m;obtain⟨k1,k2,k3⟩:=kh JB r e;exact q1 v H' F [] fo ⟨k3,k1,m.free hl,k2,by simpa using nd,fun a ha=>.inl (by simpa using ha)⟩
  ·have other:ib a d τ=(er d,Jw (vars a) τ)->Κ (Μ X.prog X.w) X.A (eval e X.env) (EP X pins σ Q) X.xe s:=fun hk=>by rw[hk]at q1;obtain⟨F1,gg,b1,b2,b3,b4,b5,b6⟩:=j6 (vars a) JB r nd;refine rd ⟨F1,τ,b6,?_⟩;rw[z];intro v H' e m;obtain⟨c1,c2,c3⟩:=grow (fun _=>True) b1 b2 e;exact q1 v H' _ [] gg ⟨b4.trans c3 (fun x hx=>.inl (b5 x hx)),c1,m.fix.frozen,c2,by simpa using b3,fun a ha=>.inl (b5 a (by simpa using ha))⟩
   by_cases hn:g9 a=Θ
   ·induction d using zD with
    |lst o ds=>
     by_cases hi:gD ds=Θ
     ·have hk:ib a (.lst o ds) τ=(.lst Θ ds,τ):=by unfold ib;rw[d_ hl,hn];show(if gD ds=Θ then _ else _)=_;rw[e_ hi]
      rw[hk]at q1;refine hN hn pins s σ H Q I ⟨fun _=>True,τ,iS r,?_⟩;show Ip (Ii (Iu cl a τ) kg) _;rw[z];intro p ys H' e hp hy m;obtain⟨k1,k2,k3⟩:=kh JB r e;refine q1 (.ref p) H' F [p] fo ⟨k3,k1,.KI (fun zz=>JB p zz hp) hy (m.free hi),k2,?_,fun a ha=>?_⟩
      ·rw[aag,G_];refine⟨fun zz=>?_,nd⟩;obtain⟨_,xs,e⟩:=r.own p zz;rw[hp]at e;cases e
      ·rw[aag]at ha;rcases k_.mp ha with rfl|ha
       ·exact .inr hp
       ·exact .inl ha
     ·have hk:ib a (.lst o ds) τ=(.lst Θ (Jj ds),Jw (vars a) τ):=by unfold ib;rw[d_ hl,hn];show(if gD ds=Θ then _ else _)=_;rw[d_ hi]
      rw[hk]at q1;obtain⟨F1,gg,b1,b2,b3,b4,b5,b6⟩:=j6 (vars a) JB r nd;refine hN hn pins s σ H Q I ⟨F1,τ,b6,?_⟩;show Ip (Ii (Iu cl a τ) kg) _;rw[z];intro p ys H' e hp hy m;obtain⟨c1,c2,c3⟩:=grow (fun a=>a≠p) b1 b2 e;have m2:Io X.K (fun a=>F1 a∨(a≠p/\H a=Φ/\H' a≠Φ)) H' ys ds:=m.step (fun a xs h r=>⟨h.1.elim (fun z=>.inl z) fun z=>.inr ⟨h.2,z,r.some⟩,r⟩) fun a xs h=>h;refine q1 (.ref p) H' _ [p] gg ⟨b4.trans c3 (fun x hx=>.inl (b5 x hx)),c1,.KI (fun zz=>?_) hy m2.frozen,c2,?_,fun a ha=>?_⟩
      ·rcases zz with zz|zz
       ·exact b1 p zz hp
       ·exact zz.1 rfl
      ·rw[aag,G_];refine⟨fun zz=>?_,b3⟩;obtain⟨_,xs,e⟩:=b2.own p zz;rw[hp]at e;cases e
      ·rw[aag]at ha;rcases k_.mp ha with rfl|ha
       ·exact .inr hp
       ·exact .inl (b5 a ha)
    |_=>refine other ?_;unfold ib;rw[d_ hl,hn]
   ·have MO:g9 a=Ξ:=by simpa using hn
    refine other ?_;unfold ib;rw[d_ hl,MO]
theorem FF {a b:Expr}{pos:Pos}{va vb:List Nat}{fa fb:Ev->Res D}(ha:PE X a (RD X.K va fa))(hb:PE X b (RD X.K vb fb)) :
  PE X (.BinOp a .Add b pos) (RN X.K (va++vb) fun τ=>Ii (Ii (fa τ) fun x=>Ii (fb τ) fun y=>Le .add x y) kg):=by
 refine gN (u4 sD ha hb) fun σ H Q ⟨S,τ,hs,q⟩=>?_;refine gX (.refl _) hs.left (Ip.Ii (Ip.Ii q)) fun x v H1 e1 _ m1 q1=>?_;refine gX e1 hs.right (Ip.Ii q1) fun y w H2 e2 J8 m2 q2=>?_;have stuck:∀ {P:Prop},Le .add x y=Ji->P:=fun z=>by rw[z]at q2;exact q2.no.elim
 induction x using zD with
 |int a=>induction y using zD with
  |int b=>exact q2.ok.no.elim
  |_=>exact stuck rfl
 |str a=>induction y using zD with
  |str b=>exact(Ip.Iy q2).2.ok.no.elim
  |_=>exact stuck rfl
 |lst o a=>induction y using zD with
  |lst o' b=>obtain⟨p,xs,rfl,h1,n1⟩:=m1.Oa;obtain⟨p',ys,rfl,h2,n2⟩:=m2.Oa;obtain⟨gd,q3⟩:=Ip.Iy q2;have g':=iI gd;have l1:=n1.length;have l2:=n2.length;have Qk:Ls X.K H2 p xs:=h1.elim (fun z=>.inl (J8.rd z)) .inr;exact⟨p,p',xs,ys,rfl,rfl,Qk,h2,by omega,fun z hz=>q3.ok.ok z _ _ (e2.trans (.upd hz)) (e2.free hz) gI (wI ((n1.later J8).append n2) hz)⟩
  |_=>exact stuck rfl
 |_=>exact stuck rfl
theorem FG {a b:Expr}{pos:Pos}{va vb:List Nat}{fa fb:Ev->Res D}(ha:PE X a (RD X.K va fa))(hb:PE X b (RD X.K vb fb)) :
  PE X (.BinOp a .Mult b pos) (RN X.K (va++vb) fun τ=>Ii (Ii (fa τ) fun x=>Ii (fb τ) fun y=>Le .mul x y) kg):=by
 refine gN (u4 zN ha hb) fun σ H Q ⟨S,τ,hs,q⟩=>?_;refine gX (.refl _) hs.left (Ip.Ii (Ip.Ii q)) fun x v H1 e1 _ m1 q1=>?_;refine gX e1 hs.right (Ip.Ii q1) fun y w H2 e2 J8 m2 q2=>?_;have stuck:∀ {P:Prop},Le .mul x y=Ji->P:=fun z=>by rw[z]at q2;exact q2.no.elim
 induction y using zD with
 |int b=>
  cases m2
  induction x using zD with
  |int a=>exact(Ip.Iy q2).2.ok.no.elim
  |str a=>exact(Ip.Iy q2).2.ok.no.elim
  |_=>exact stuck rfl
 |_=>induction x using zD<;>exact stuck rfl
theorem HL {a:Expr}{lo hi:Option Expr}{pos p2:Pos}{va vl vh:List Nat}{fa:Ev->Res D}{fl fh:Ev->Res (Option Int)}(ha:PE X a (RD X.K va fa))(hl:PO X lo (Qi X.K vl fl))(hh:PO X hi (Qi X.K vh fh)) :
  PE X (.Subscript a (.Slice lo hi Φ p2) pos) (RN X.K (va++vl++vh) fun τ=>Ii (Ii (fa τ) fun x=>Ii (fl τ) fun l=>Ii (fh τ) fun h=>qg x l h) kg):=by
 refine gN (pT si ha hl hh) fun σ H Q ⟨S,τ,hs,q⟩=>?_;refine gX (.refl _) hs.left.left (Ip.Ii (Ip.Ii q)) fun x v H1 e1 _ m1 q1=>?_;refine zW e1 hs.left.right (Ip.Ii q1) fun l H2 e2 J8 q2=>?_;refine zW e2 hs.right (Ip.Ii q2) fun h H3 e3 Nw q3=>?_
 induction x using zD with
 |lst o ds=>obtain⟨p,xs,rfl,h1,n1⟩:=m1.JK;exact⟨p,xs,rfl,(J8.trans Nw).seq h1,fun z hz=>q3.ok.ok z _ _ (e3.trans (.upd hz)) (e3.free hz) gI (wI (sF l h (n1.later (J8.trans Nw))) hz)⟩
 |str _=>exact(Ip.Iy q3).2.ok.no.elim
 |_=>exact q3.no.elim
theorem nr (hc:X.calm=Θ):iD X (.type "list") (fun xs H Q=>(∃p ys,xs=[.ref p]/\(JX X.K H p ys∨JC X.K H p ys)/\∀l,H l=Φ->Q (.ref l) (upd H l (.lst ys)))∨∃(p:Ω) (kvs:List (Key×V)),xs=[.ref p]/\Rd H p (.dK kvs)/\∀l,H l=Φ->Q (.ref l) (upd H l (.lst (kvs.map fun q=>kV q.1)))):=by
 intro pins s σ H xs us Q I r h;rcases h with h|h
 ·exact jK pins s σ H xs us Q I r h
 ·exact mG hc pins s σ H xs us Q I r h
theorem Dl (g:JL Z CX cl X G){p pos:Pos}{es:List IR}{a:Expr}{args:List Expr}(hg:G.Mr (nU .list)=Θ)(JZ:iF Z G es (a::args)=Θ)(h:PA X (a::args) (RA X.K (gR es) (iK cl es))) :
  PE X (.Call (.Name (jO .list) p) (a::args) [] pos) (RN X.K (gR es) fun τ=>Ii (Ii (iK cl es τ) fun ds=>jy .list ds) kg):=by
 obtain⟨k1,k2,k3,k4⟩:=jF g (wq .list) (oJ hg);cases es with
 |nil=>cases JZ
 |cons b es=>
  have JJ:(notStar a&&Jk Z G b a&&iF Z G es args)=Θ:=JZ;simp only[j_]at JJ;refine gN (kW (nr (g.calm (oK hg))) k1 k2 (sG .list) h k3 k4 (gE JJ.1.1 args X.env) (i6 Z G (es:=es) pos X.env JJ.2)) fun σ H Q ⟨S,τ,hs,q⟩=>?_;refine qu (.refl _) hs (Ip.Ii (Ip.Ii q)) fun ds vs H1 e1 _ m1 q1=>?_;have stuck:∀ {P:Prop},jy .list ds=Ji->P:=fun z=>by rw[z]at q1;exact q1.no.elim
  match ds,m1 with
  |[],_=>exact stuck rfl
  |d::_::_,_=>exact stuck (by induction d using zD<;>rfl)
  |[d],m1=>
   obtain⟨x,rfl,hd⟩:=m1.Pm
   induction d using zD with
   |tup ds=>obtain⟨a,ys,rfl,q',m⟩:=hd.J9;exact .inl ⟨a,ys,rfl,.inr q',fun z hz=>q1.ok.ok z _ _ (e1.trans (.upd hz)) (e1.free hz) gI (wI m hz)⟩
   |lst o ds=>obtain⟨a,ys,rfl,q',m⟩:=hd.JK;exact .inl ⟨a,ys,rfl,.inl q',fun z hz=>q1.ok.ok z _ _ (e1.trans (.upd hz)) (e1.free hz) gI (wI m hz)⟩
   |Ju o ks ds=>
    cases hd with
    |Ju h0 h1 h2 h3=>subst h2;exact .inr ⟨_,_,rfl,h1,fun l hl=>q1.ok.ok l _ _ (e1.trans (.upd hl)) (e1.free hl) gI (wI (kG _) hl)⟩
   |_=>exact stuck rfl
end
section
variable {Z:Sg}{CX:KD}{cl:Nat->List D->Res D}
theorem nX {X:Cx}{G:Gm}(g:JL Z CX cl X G){i:Nat}{x:Str}{pos:Pos}(h:jE G i x=Θ):PE X (.Name x pos) (B1 i):=by
 unfold jE at h;rw[j_]at h;have hx:G.N[i]? = Δ x:=h_ h.1;have hk:=g.kd i x hx;have hv:Qx X.env.scope x:=by
  have h2:=h.2;rw[aae,aae]at h2;rcases h2 with(h2|h2)|h2
  ·exact .inl (hk.trans (h_ h2))
  ·exact .inr (.inl (hk.trans (h_ h2)))
  ·exact .inr (.inr (hk.trans (h_ h2)))
 exact uT (i:=i) (by rw[g.N];exact hx) hv (g.Oc i x hx).1 (g.Oc i x hx).2
theorem Dm {X:Cx}{G G':Gm}{fr:List Nat}(g:JL Z CX cl X G){scope:Scope}{tg iter elt:Expr}{ifs:List Expr}{pos:Pos}{T:Tg}{s:Sr}{I:List IR}{E:IR}(hs:MW Z G scope G' fr)(hT:jr G' T tg=Θ)(ha:∀i∈Lg T,fr.length<=i)
  (hi:jv Z G s iter=Θ/\lP s tg=Θ) (ht:iF Z G' I ifs=Θ) (he:Jk Z G' E elt=Θ) :
  PE X (.ListComp elt [⟨tg,iter,ifs,0⟩] scope pos) (RN X.K (vars (.comp G' fr T s I E)) fun τ=>Ii (Iu cl (.comp G' fr T s I E) τ) kg):=by
 intro pins s' σ H Q Iv h;obtain⟨Km,S⟩:=lu g Iv.ok hs;have p:=sj (pos:=pos) (elt:=elt) (ifs:=ifs) (tg:=tg) (g:=gT X.K T) (tt:=RT X.K (gR I) (kn cl I)) (te:=RD X.K (vars E) (Iu cl E)) (g.calm hs.cm) S (Ah s X G iter tg g hi.1 hi.2) (fun C s H fp=>Pt (i3 g hs Km C s H fp) T tg hT)
  (fun C s H fp=>Ag I _ G' ifs (i3 g hs Km C s H fp) ht) (fun C s H fp=>(snd E _ G' elt (i3 g hs Km C s H fp) he).1) (fun x=>jo hi.1 X.env x)
 refine p pins s' σ H Q Iv ?_;obtain⟨S0,τ,Uy,q⟩:=h;have q':=Ip.Ii (show Ip (Ii (Iu cl (.comp G' fr T s I E) τ) kg) _ from q);rw[mV]at q';exact j5 hs.SK ha Uy q' fun A ys ds H' e hA Py m k=>k.ok A ys H' e hA Py m
theorem Lr:∀(a:IR) (X:Cx) (G:Gm) (e:Expr),JL Z CX cl X G->Jk Z G a e=Θ->g9 a=Θ->PE X e (RN X.K (vars a) fun τ=>Ii (Iu cl a τ) kg):=by
 intro a X G e g h n;cases a with
 |bin op a b=>
  cases op with
  |add=>
   induction e using zE with
   |BinOp l o r pos=>have h':(o == Ob .add&&Jk Z G a l&&Jk Z G b r)=Θ:=h;simp only[j_]at h';have e1:o=Ob .add:=h_ h'.1.1;subst e1;exact FF (snd a X G l g h'.1.2).1 (snd b X G r g h'.2).1
   |_=>exists h
  |mul=>
   induction e using zE with
   |BinOp l o r pos=>have h':(o == Ob .mul&&Jk Z G a l&&Jk Z G b r)=Θ:=h;simp only[j_]at h';have e1:o=Ob .mul:=h_ h'.1.1;subst e1;exact FG (snd a X G l g h'.1.2).1 (snd b X G r g h'.2).1
   |_=>exists h
  |_=>cases n
 |sl a lo hi=>
  induction e using zE with
  |Subscript o s pos=>
   induction s using zE with
   |Slice l u st p=>
    cases st with
    |none=>have h':(Jk Z G a o&&rJ Z G lo l&&rJ Z G hi u)=Θ:=h;simp only[j_]at h';exact HL (snd a X G o g h'.1.1).1 (Af lo X G l g h'.1.2) (Af hi X G u g h'.2)
    |some _=>exists h
   |_=>exists h
  |_=>exists h
 |bi f es=>
  cases f with
  |list=>
   induction e using zE with
   |Call fn args KN pos=>
    induction fn using zE with
    |Name x p=>
     cases KN with
     |nil=>
      cases args with
      |nil=>exists h
      |cons a args=>have h':(x == jO .list&&G.Mr (nU .list)&&iF Z G es (a::args))=Θ:=h;simp only[j_]at h';have e1:x=jO .list:=h_ h'.1.1;subst e1;exact Dl g h'.1.2 h'.2 (qA es X G _ g h'.2)
     |cons _ _=>cases args<;>exists h
    |_=>exists h
   |_=>exists h
  |_=>cases n
 |comp G' fr tg src ifs elt=>
  induction e using zE with
  |ListComp el gens scope pos=>have h:uF gens (fun t it fs=>i0 Z G scope G' fr&&jr G' tg t&&(Lg tg).all (fun i=>decide (fr.length<=i))&&(jv Z G src it&&lP src t)&&iF Z G' ifs fs&&Jk Z G' elt el)=Θ:=h;obtain⟨t,it,fs,rfl,h⟩:=oN h;have h':(i0 Z G scope G' fr&&jr G' tg t&&(Lg tg).all (fun i=>decide (fr.length<=i))&&(jv Z G src it&&lP src t)&&iF Z G' ifs fs&&Jk Z G' elt el)=Θ:=h;simp only[j_]at h';exact Dm g (oP h'.1.1.1.1.1) h'.1.1.1.1.2 (fun i hi=>u_ (O_.mp h'.1.1.1.2 i hi)) h'.1.1.2 h'.1.2 h'.2
  |_=>exists h
 |_=>cases n
theorem Ia {X:Cx}{pos:Pos}(mv:Bool):PE X (.Dict [] [] pos) (RO X.K (JI cl mv .Lq)):=by
 refine gN p6 fun σ H Q ⟨F,τ,fo,JB,r,nd,q⟩=>fun p hp=>?_;have q':∀v H' F' fv f',Ow X.K F H fo F' H' σ v (.Ju Θ [] []) fv τ f'->Q v H':=q;have e:gJ H (upd H p (.dK [])):=.upd hp;obtain⟨k1,k2,k3⟩:=kh JB r e;have nF:¬F p:=fun z=>JB p z hp;have UB:p∉fo:=fun z=>by obtain⟨_,u,eu⟩:=r.own p z;rw[hp]at eu;cases eu
 exact q' _ _ F [p] fo ⟨k3,k1,.Nl (kvs:=[]) nF gI rfl .nil,k2,by rw[aag,G_];exact⟨UB,nd⟩,fun a ha=>by
  rcases o_.mp ha with ha|ha
  ·rw[t_.mp ha];exact .inr hp
  ·exact .inl ha⟩
theorem Ib {X:Cx}{pos:Pos}(mv:Bool):PE X (.Dict [] [] pos) (RO X.K (JI cl mv .Lc)):=by
 refine gN p7 fun σ H Q ⟨F,τ,fo,JB,r,nd,q⟩=>fun p hp=>?_;have q':∀v H' F' fv f',Ow X.K F H fo F' H' σ v (.Jy Θ [] []) fv τ f'->Q v H':=q;have e:gJ H (upd H p (.dT [])):=.upd hp;obtain⟨k1,k2,k3⟩:=kh JB r e;have nF:¬F p:=fun z=>JB p z hp;have UB:p∉fo:=fun z=>by obtain⟨_,u,eu⟩:=r.own p z;rw[hp]at eu;cases eu
 exact q' _ _ F [p] fo ⟨k3,k1,.Nm (kvs:=[]) nF gI ⟨rfl,fun _ h=>nomatch h⟩ .nil,k2,by rw[aag,G_];exact⟨UB,nd⟩,fun a ha=>by
  rcases o_.mp ha with ha|ha
  ·rw[t_.mp ha];exact .inr hp
  ·exact .inl ha⟩
mutual
theorem OI:∀(a:IR) (mv:Bool) (X:Cx) (G:Gm) (e:Expr),JL Z CX cl X G->Jk Z G a e=Θ->PE X e (RO X.K (JI cl mv a))
 |.v i,mv,X,G,e,g,h=>by
  induction e using zE with
  |Name x pos=>exact Iz (nX g h) mv
  |_=>exists h
 |.tup es,mv,X,G,e,g,h=>by
  induction e using zE with
  |Tuple l n pos=>exact Ij (Dq es mv X G l g h)
  |_=>exists h
 |.lst es,mv,X,G,e,g,h=>by
  induction e using zE with
  |List l pos=>exact Ik (Dq es mv X G l g h)
  |_=>exists h
 |.ite t a b,mv,X,G,e,g,h=>by
  induction e using zE with
  |IfExp c x y pos=>have h':(Jk Z G t c&&Jk Z G a x&&Jk Z G b y)=Θ:=h;simp only[j_]at h';exact Il (snd t X G c g h'.1.1).2 (OI a mv X G x g h'.1.2) (OI b mv X G y g h'.2)
  |_=>exists h
 |.call f es,mv,X,G,e,g,h=>by
  induction e using zE with
  |Call fn args KN pos=>
   induction fn using zE with
   |Name x p=>
    cases KN with
    |nil=>have h':(mQ Z G f x&&Z.OG G f&&iF Z G es args)=Θ:=h;simp only[j_]at h';exact H0 g h'.1.1 h'.1.2 h'.2 mv
    |cons _ _=>exists h
   |_=>exists h
  |_=>exists h
 |.c d,mv,X,G,e,g,h=>ip (snd _ X G e g h).1 (Lr _ X G e g h)
 |.g n d,mv,X,G,e,g,h=>ip (snd _ X G e g h).1 (Lr _ X G e g h)
 |.bin op a b,mv,X,G,e,g,h=>ip (snd _ X G e g h).1 (Lr _ X G e g h)
 |.neg a,mv,X,G,e,g,h=>ip (snd _ X G e g h).1 (Lr _ X G e g h)
 |.cmp op a b,mv,X,G,e,g,h=>ip (snd _ X G e g h).1 (Lr _ X G e g h)
 |.chain op KY a b c,mv,X,G,e,g,h=>ip (snd _ X G e g h).1 (Lr _ X G e g h)
 |.Js a b,mv,X,G,e,g,h=>ip (snd _ X G e g h).1 (Lr _ X G e g h)
 |.LN a b,mv,X,G,e,g,h=>ip (snd _ X G e g h).1 (Lr _ X G e g h)
 |.KJ a,mv,X,G,e,g,h=>ip (snd _ X G e g h).1 (Lr _ X G e g h)
 |.idx a i,mv,X,G,e,g,h=>ip (snd _ X G e g h).1 (Lr _ X G e g h)
 |.sl a lo hi,mv,X,G,e,g,h=>ip (snd _ X G e g h).1 (Lr _ X G e g h)
 |.bi f es,mv,X,G,e,g,h=>ip (snd _ X G e g h).1 (Lr _ X G e g h)
 |.J2 a k,mv,X,G,e,g,h=>ip (snd _ X G e g h).1 (Lr _ X G e g h)
 |.Nq a k,mv,X,G,e,g,h=>ip (snd _ X G e g h).1 (Lr _ X G e g h)
 |.OD n k a,mv,X,G,e,g,h=>ip (snd _ X G e g h).1 (Lr _ X G e g h)
 |.sset a,mv,X,G,e,g,h=>ip (snd _ X G e g h).1 (Lr _ X G e g h)
 |.KR a k d,mv,X,G,e,g,h=>ip (snd _ X G e g h).1 (Lr _ X G e g h)
 |.Lq,mv,X,G,e,g,h=>by
  have h:Pn e=Θ:=by induction e using zE<;>exact h
  obtain⟨pos,rfl⟩:=oO h;exact Ia mv
 |.Lc,mv,X,G,e,g,h=>by
  have h:Pn e=Θ:=by induction e using zE<;>exact h
  obtain⟨pos,rfl⟩:=oO h;exact Ib mv
 |.NK a,mv,X,G,e,g,h=>ip (snd _ X G e g h).1 (Lr _ X G e g h)
 |.Nr m a d,mv,X,G,e,g,h=>ip (snd _ X G e g h).1 (Lr _ X G e g h)
 |.K0 m o es,mv,X,G,e,g,h=>ip (snd _ X G e g h).1 (Lr _ X G e g h)
 |.comp G' fr tg src ifs elt,mv,X,G,e,g,h=>ip (snd _ X G e g h).1 (Lr _ X G e g h)
theorem Dq:∀(as:List IR) (mv:Bool) (X:Cx) (G:Gm) (l:List Expr),JL Z CX cl X G->iF Z G as l=Θ->PA X l (Ql X.K (nq cl mv as))
 |[],mv,X,G,l,g,h=>by
  cases l with
  |nil=>exact Dk
  |cons _ _=>exists h
 |a::as,mv,X,G,l,g,h=>by
  cases l with
  |nil=>exists h
  |cons e l=>have h':(notStar e&&Jk Z G a e&&iF Z G as l)=Θ:=h;simp only[j_]at h';exact Ai h'.1.1 (OI a mv X G e g h'.1.2) (Dq as mv X G l g h'.2)
end
end
structure Bs (io:Option Nat) where
 F:Ω->Prop
 H:Hp
 L:Ω->LD->Prop
 T:Ω->List V->Prop
 N:Option Ω:=Φ
structure J4 (K:Frag){io:Option Nat}(B:Bs io)(F:Ω->Prop)(H:Hp)(σ:St)(τ:Ev)(f:List Ω):Prop where
 JB:LO F H
 Kc:JF K F H σ τ f
 J7:f.Nodup
 same:gJ B.H H
 own:∀a∈f,B.H a=Φ
 LI:∀a,B.F a->F a
 out:∀a,F a->B.F a∨B.H a=Φ
 pin:∀a xs,B.L a xs->F a/\Rd H a xs.o
 OJ:∀a xs,B.T a xs->JC K H a xs
 nm:∀j a,io=Δ j->B.N=Δ a->σ[j]? = Δ (Δ (.ref a))
def Fk (K:Frag){io:Option Nat}(B:Bs io)(Dn:Ends):Fl->Prop
 |.nx τ=>∀σ H F f,J4 K B F H σ τ f->Dn.nx σ H
 |.bk τ=>∀σ H F f,J4 K B F H σ τ f->Dn.bk σ H
 |.ct τ=>∀σ H F f,J4 K B F H σ τ f->Dn.ct σ H
 |.rt d=>∀v H F fv,Out K B.F B.H F H v d fv->Dn.rt v H
 |.ri d ks es=>∀v H F fv kvs a,(∀a',B.N=Δ a'->a'=a)->Out K B.F B.H F H v d fv->¬F a->a∉fv->H a=Δ (.dK kvs)->kvs.map (·.1)=ks->Io K F H (kvs.map (·.2)) es->Dn.rt v H
def RS (K:Frag)(io:Option Nat)(g:Ev->Res Fl):TS:=fun Dn σ H=>∃(B:Bs io),∃F τ f,J4 K B F H σ τ f/\Ip (g τ) (Fk K B Dn)
section
variable {K:Frag}{io:Option Nat}{B:Bs io}{F F':Ω->Prop}{H H':Hp}{σ:St}{τ Jl:Ev}{f f':List Ω}
theorem J4.K3 (m:J4 K B F H σ τ f)(s:Mv F H f F' H')(JB:LO F' H')(r:JF K F' H' σ Jl f')(nd:f'.Nodup)(hm:∀a∈f',a∈f∨H a=Φ):J4 K B F' H' σ Jl f' where
 JB:=JB
 Kc:=r
 J7:=nd
 same:=m.same.trans s.same
 own:=fun a ha=>(hm a ha).elim (m.own a) fun z=>m.same.free z
 LI:=fun a h=>s.LI a (m.LI a h)
 out:=fun a h=>by
  rcases s.out a h with h|h|h
  ·exact m.out a h
  ·exact .inr (m.own a h)
  ·exact .inr (m.same.free h)
 pin:=fun a xs h=>⟨s.LI a (m.pin a xs h).1,s.same.rd (m.pin a xs h).2⟩
 OJ:=fun a xs h=>s.same.Lo (m.OJ a xs h)
 nm:=m.nm
theorem J4.ow {v:V}{d:D}{fv:List Ω}(m:J4 K B F H σ τ f)(o:Ow K F H f F' H' σ v d fv Jl f'):J4 K B F' H' σ Jl f'/\∀a∈fv,B.H a=Φ:=
 ⟨m.K3 o.K3 o.JB o.Kc (x_.mp o.J7).2.1 fun a ha=>o.mem a (s_ _ ha),fun a ha=>(o.mem a (q_ _ ha)).elim (m.own a) fun z=>m.same.free z⟩
theorem J4.grow (m:J4 K B F H σ τ f)(e:gJ H H'):J4 K B F H' σ τ f:=by obtain⟨k1,k2,k3⟩:=kh m.JB m.Kc e;exact m.K3 k3 k1 k2 m.J7 fun a ha=>.inl ha
theorem J4.ro {g:Ev->Res (D×Ev)}{Kt:D×Ev->Prop}{Q:VK}(m:J4 K B F H σ τ f)(h:Ip (g τ) Kt)(k:∀p v H' F' fv f',Ow K F H f F' H' σ v p.1 fv p.2 f'->Kt p->Q v H'):RO K g σ H Q:=
 ⟨F,τ,f,m.JB,m.Kc,m.J7,h.mono fun p hp v H' F' fv f' o=>k p v H' F' fv f' o hp⟩
theorem J4.rt {is:List Nat}{g:Ev->Res Bool}{Kt:Bool->Prop}{Q:Bool->Hp->Prop}(m:J4 K B F H σ τ f)(h:Ip (g τ) Kt)(k:∀b H',J4 K B F H' σ τ f->gJ H H'->Kt b->Q b H'):RT K is g σ H Q:=
 kJ (.refl _) (iS m.Kc) h fun b H2 e2 _ hb=>k b H2 (m.grow e2) e2 hb
theorem J4.rd {is:List Nat}{g:Ev->Res D}{Kt:D->Prop}{Q:VK}(m:J4 K B F H σ τ f)(h:Ip (g τ) Kt)(k:∀d v H',J4 K B F H' σ τ f->gJ H H'->Iq K (nw (fun _=>True) H) H' v d->Kt d->Q v H'):RD K is g σ H Q:=
 gX (.refl _) (iS m.Kc) h fun b v H2 e2 _ mv hb=>k b v H2 (m.grow e2) e2 mv hb
mutual
theorem wK:∀(t:Tg) {σ:St}{τ:Ev}{f:List Ω}{v:V}{d:D}{fv:List Ω}{Kt:Ev->Prop}{Q:St->Hp->Prop},JF K F H σ τ f->Jo K F H v d fv->(fv++f).Nodup->Ip (jf t d τ) Kt->
  (∀Jl Jp f',JF K F H Jp Jl f'->f'.Nodup->(∀a∈f',a∈fv++f)->(∀j,j∉Lg t->Jp[j]? = σ[j]?)->Kt Jl->Q Jp H)->gT K t v σ H Q
 |.nm i,σ,τ,f,v,d,fv,Kt,Q,r,m,nd,h,k=>by obtain⟨g,h',r2,p2⟩:=r.put i m;have Pz:(g++h').Nodup:=p2.nodup_iff.mpr nd;exact k (τ.set i (Δ d)) (σ.set i (Δ v)) g r2 (x_.mp Pz).1 (fun a ha=>p2.mem_iff.mp (q_ _ ha)) (fun j hj=>List.getElem?_set_ne (fun z=>hj (by rw[<- z];exact t_.mpr rfl))) h.ok
 |.tp ts,σ,τ,f,v,d,fv,Kt,Q,r,m,nd,h,k=>by
  cases m with
  |tup h1 h2=>obtain⟨gd,h⟩:=Ip.Iy h;have g':=u_ gd;exact⟨_,_,rfl,.inl h1,by rw[h2.length];exact g',kN ts r h2 nd h k⟩
  |Mp h0 h1 h2=>obtain⟨gd,h⟩:=Ip.Iy h;have g':=u_ gd;exact⟨_,_,rfl,.inr (.inl h1),by rw[h2.length];exact g',kN ts r h2 nd h k⟩
  |lstK h1 h2=>obtain⟨gd,h⟩:=Ip.Iy h;have g':=u_ gd;exact⟨_,_,rfl,.inr h1.sq,by rw[h2.length];exact g',kN ts r h2 nd h k⟩
  |KI h0 h1 h2=>obtain⟨gd,h⟩:=Ip.Iy h;have g':=u_ gd;rw[c_,G_]at nd;exact⟨_,_,rfl,.inr (.inl (.inl h1)),by rw[h2.length];exact g',kN ts r h2 nd.2 h fun Jl Jp f' a1 a2 a3 a5 a4=>k Jl Jp f' a1 a2 (fun x hx=>by rw[c_];exact w_ _ (a3 x hx)) a5 a4⟩
  |_=>exact h.no.elim
theorem kN:∀(ts:List Tg) {σ:St}{τ:Ev}{f:List Ω}{vs:List V}{ds:List D}{fv:List Ω}{Kt:Ev->Prop}{Q:St->Hp->Prop},JF K F H σ τ f->Ir K F H vs ds fv->(fv++f).Nodup->Ip (kC ts ds τ) Kt->
  (∀Jl Jp f',JF K F H Jp Jl f'->f'.Nodup->(∀a∈f',a∈fv++f)->(∀j,j∉qr ts->Jp[j]? = σ[j]?)->Kt Jl->Q Jp H)->Rg K ts vs σ H Q
 |[],σ,τ,f,vs,ds,fv,Kt,Q,r,m,nd,h,k=>by
  cases m with
  |nil=>exact⟨rfl,k τ σ f r (by simpa using nd) (fun a ha=>by simpa using ha) (fun _ _=>rfl) h.ok⟩
  |cons _ _=>exact h.no.elim
 |t::ts,σ,τ,f,vs,ds,fv,Kt,Q,r,m,nd,h,k=>by
  cases m with
  |nil=>exact h.no.elim
  |cons m1 m2=>
   rename_i v d f1 vs ds f2
   have NM:(f2++(f1++f)).Nodup:=by refine(List.Perm.nodup_iff ?_).mp nd;rw[<- r_];exact List.Perm.append_right f aam
   refine⟨_,_,rfl,wK t r m1 (x_.mp NM).2.1 (Ip.Ii h) fun Jl Jp f' r' UC Qn SJ h'=>?_⟩;refine kN ts r' m2 (x_.mpr ⟨(x_.mp NM).1,UC,fun a h1 b h2 e=>(x_.mp NM).2.2 a h1 b (Qn b h2) e⟩) h' fun Pu Pw Qo YB UD Pf UE Uw=>k Pu Pw Qo YB UD (fun a ha=>?_) (fun j hj=>(UE j fun z=>hj (s_ _ z)).trans (SJ j fun z=>hj (q_ _ z))) Uw;rcases o_.mp (Pf a ha) with z|z
   ·exact q_ _ (s_ _ z)
   ·rcases o_.mp (Qn a z) with z|z
    ·exact q_ _ (q_ _ z)
    ·exact s_ _ z
end
theorem J4.gT {t:Tg}{v:V}{d:D}{fv:List Ω}{Kt:Ev->Prop}{Q:St->Hp->Prop}(m:J4 K B F H σ τ f)(mv:Jo K F H v d fv)(nd:(fv++f).Nodup)(hb:∀a∈fv,B.H a=Φ)(MZ:∀j∈Lg t,io≠Δ j)(h:Ip (jf t d τ) Kt)
  (k:∀Jl Jp f',J4 K B F H Jp Jl f'->Kt Jl->Q Jp H):L2.gT K t v σ H Q:=
 wK t m.Kc mv nd h fun Jl Jp f' r' UC hm hj h'=>k Jl Jp f' ⟨m.JB,r',UC,m.same,fun a ha=>(o_.mp (hm a ha)).elim (hb a) (m.own a),m.LI,m.out,m.pin,m.OJ,fun j a e1 e2=>(hj j fun z=>MZ j z e1).trans (m.nm j a e1 e2)⟩ h'
theorem J4.write {i:Nat}{ds ds':List D}{w:V}{d:D}{fv:List Ω}{l:Ω}{xs ys:List V}(m:J4 K B F H σ τ f)(hs:gF τ i=Δ (.lst Θ ds))(Kz:σ[i]? = Δ (Δ (.ref l)))(hl:H l=Δ (.lst xs))(mw:Jo K F H w d fv)(nd:(fv++f).Nodup)(hb:∀a∈fv,B.H a=Φ)
  (hy:∀fi,Ir K F H xs ds fi->∃fl h,Ir K F H ys ds' fl/\(fl++h).Perm (fv++fi)):∃f',J4 K B F (upd H l (.lst ys)) σ (τ.set i (Δ (.lst Θ ds'))) f':=by
 obtain⟨v,fs,g,h1,h2,h3,h4⟩:=m.Kc.at hs;rw[Kz]at h1;cases h1;cases h2 with
 | @KI a VZ UG fi hF hH hm=>
  rw[hl]at hH;cases hH;obtain⟨fl,h,Qn,hp⟩:=hy fi hm;have PB:((l::fi)++g).Nodup:=h4.nodup_iff.mp m.J7;have SN:(fv++((l::fi)++g)).Nodup:=(aau fv h4).nodup_iff.mp nd;have lg:l∉g:=by rw[c_,G_]at PB;exact fun z=>PB.1 (s_ _ z)
  have YC:l∉fi:=by rw[c_,G_]at PB;exact fun z=>PB.1 (q_ _ z)
  have YD:l∉fv:=fun z=>(x_.mp SN).2.2 l z l (by simp) rfl;have PD:∀a∈fl,a∈fv++fi:=fun a ha=>hp.mem_iff.mp (q_ _ ha);have Ww:l∉fl:=fun z=>(o_.mp (PD l z)).elim YD YC;have sl:∀a (u:LD),F a->Rd H a u.o->F a/\Rd (upd H l (.lst ys)) a u.o:=fun a xs h r=>by refine⟨h,?_⟩;have:a≠l:=fun z=>hF (by rw[<- z];exact h);unfold Rd;rw[gK this];exact r
  have st:∀a xs,JC K H a xs->JC K (upd H l (.lst ys)) a xs:=fun a xs h=>h.upd hl;have r1:JF K F (upd H l (.lst ys)) σ (τ.set i Φ) g:=h3.step sl st fun a ha n _=>⟨n,gK fun z=>lg (by rw[<- z];exact ha)⟩
  have m1:Jo K F (upd H l (.lst ys)) (.ref l) (.lst Θ ds') (l::fl):=.KI hF gI (Qn.step sl st fun a ha n _=>⟨n,gK fun z=>Ww (by rw[<- z];exact ha)⟩);obtain⟨g',h',r2,p2⟩:=r1.put i m1;have PF:σ.set i (Δ (.ref l))=σ:=by
   apply List.ext_getElem?;intro j;rw[List.getElem?_set];by_cases hj:i=j
   ·subst hj;have JT:i < σ.length:=(E_.mp Kz).1;rw[e_ rfl,e_ JT,Kz]
   ·rw[d_ hj]
  rw[PF,List.set_set]at r2;have YE:((l::fl)++g).Nodup:=by
   rw[c_,G_];refine⟨fun z=>(o_.mp z).elim Ww lg,x_.mpr ⟨?_,(x_.mp PB).2.1,fun a h1 b h2 e=>?_⟩⟩
   ·have:(fl++h).Nodup:=hp.nodup_iff.mpr (x_.mpr ⟨(x_.mp SN).1,(G_.mp (x_.mp PB).1).2,fun a h1 b h2 e=>(x_.mp SN).2.2 a h1 b (q_ _ (w_ _ h2)) e⟩);exact(x_.mp this).1
   ·subst e;rcases o_.mp (PD a h1) with z|z
    ·exact(x_.mp SN).2.2 a z a (s_ _ h2) rfl
    ·exact(x_.mp PB).2.2 a (w_ _ z) a h2 rfl
  have Pz:(g'++h').Nodup:=p2.nodup_iff.mpr YE;have lB:B.H l=Φ:=m.own l (h4.mem_iff.mpr (by simp));refine⟨g',fun a h=>?_,r2,(x_.mp Pz).1,fun b o PH=>?_,fun a ha=>?_,m.LI,m.out,fun a xs h=>⟨(m.pin a xs h).1,(sl a xs (m.pin a xs h).1 (m.pin a xs h).2).2⟩,fun a xs h=>st a xs (m.OJ a xs h),m.nm⟩
  ·have:a≠l:=fun z=>hF (by rw[<- z];exact h);rw[gK this];exact m.JB a h
  ·have:b≠l:=fun z=>by rw[z,lB]at PH;cases PH
   rw[gK this];exact m.same _ _ PH
  ·have:a∈(l::fl)++g:=p2.mem_iff.mp (q_ _ ha);rcases o_.mp this with z|z
   ·rcases k_.mp z with rfl|z
    ·exact lB
    ·rcases o_.mp (PD a z) with z|z
     ·exact hb a z
     ·exact m.own a (h4.mem_iff.mpr (q_ _ (w_ _ z)))
   ·exact m.own a (h4.mem_iff.mpr (s_ _ z))
theorem Ir.snoc {w:V}{d:D}{fv:List Ω}(mw:Jo K F H w d fv){xs:List V}{ds:List D}{fi:List Ω}(m:Ir K F H xs ds fi):∃fl h,Ir K F H (xs++[w]) (ds++[d]) fl/\(fl++h).Perm (fv++fi):=
 ⟨fi++(fv++[]),[],m.append (.cons mw .nil),by rw[v_,v_];exact aam⟩
end
noncomputable def notTuple:Expr->Bool
 |.Tuple ..=>Ξ
 |_=>Θ
noncomputable def oQ:Expr->Bool
 |.ListComp ..=>Ξ
 |.SetComp ..=>Ξ
 |.DictComp ..=>Ξ
 |_=>Θ
noncomputable def isName:Expr->Bool
 |.Name ..=>Θ
 |_=>Ξ
noncomputable def isTup:Expr->Bool
 |.Tuple ..=>Θ
 |_=>Ξ
mutual
noncomputable def Aj (Z:Sg)(G:Gm):IS->Stmt->Bool
 |.asg tg e,.Assign [t] v _=>jr G tg t&&Jk Z G e v&&(isName t||(isTup t&&notTuple v))
 |.Mq i k e,.Assign [.Subscript (.Name x _) s _] v _=>jE G i x&&iE s&&Jk Z G k s&&Jk Z G e v
 |.Ld i k e,.Assign [.Subscript (.Name x _) s _] v _=>jE G i x&&iE s&&Jk Z G k s&&Jk Z G e v&&!(vars e).contains i
 |.ext i e,.Expr (.Call (.Attribute (.Name x _) name apos) [v] [] Jm) _=>jE G i x&&name == "extend"&&apos.endLine == Jm.line&&notStar v&&Jk Z G e v
 |.ins i k e,.Expr (.Call (.Attribute (.Name x _) name apos) [s,v] [] Jm) _=>jE G i x&&name == "insert"&&apos.endLine == Jm.line&&(notStar s&&notStar v)&&Jk Z G k s&&Jk Z G e v
 |.app i e,.Expr (.Call (.Attribute (.Name x _) name apos) [v] [] Jm) _=>jE G i x&&name == "append"&&apos.endLine == Jm.line&&notStar v&&Jk Z G e v
 |.exp e,.Expr v _=>oQ v&&Jk Z G e v
 |.ret e,.Return (Δ v) _=>Jk Z G e v
 |.JA t a b,.If c x y _=>Jk Z G t c&&jx Z G a x&&jx Z G b y
 |.Jz tg s body,.For t it b [] _=>((G.cm&&G.rs)&&jr G tg t)&&(jv Z G s it&&lP s t)&&jx Z G body b
 |_,_=>Ξ
noncomputable def jx (Z:Sg)(G:Gm):List IS->List Stmt->Bool
 |[],[]=>Θ
 |a::as,s::ss=>Aj Z G a s&&jx Z G as ss
 |_,_=>Ξ
end
noncomputable def Bh:IS->Bool
 |_=>Ξ
theorem rM {Z:Sg}{G:Gm}{a:IS}{as:List IS}{s:Stmt}{ss:List Stmt}(h:Bh a=Ξ):jx Z G (a::as) (s::ss)=(Aj Z G a s&&jx Z G as ss):=by
 induction a using zT<;>first|rfl|cases h
section
variable {Z:Sg}{CX:KD}{cl:Nat->List D->Res D}{X:Cx}{G:Gm}
theorem Bj {tg:Tg}{t:Expr}(ht:jr G tg t=Θ){ga:Ev->Res (D×Ev)}{Dn:Ends}{σ:St}{H:Hp}(h:RS X.K G.io (fun τ=>Ii (ga τ) fun p=>Ii (jf tg p.1 p.2) fun Jl=>.ok (.nx Jl)) Dn σ H):B9 (RO X.K ga) (gT X.K tg) Dn σ H:=by obtain⟨B,F,τ,f,m,q⟩:=h;refine m.ro (Ip.Ii q) fun p v H' F' fv f' o hp=>?_;obtain⟨m',hb⟩:=m.ow o;exact m'.gT o.rep o.J7 hb (kM tg t ht) (Ip.Ii hp) fun Jl Jp Qo Og h'=>h'.ok _ _ _ _ Og
theorem Ic (g:JL Z CX cl X G){tg:Tg}{e:IR}{t v:Expr}{pos:Pos}(ht:jr G tg t=Θ)(hv:Jk Z G e v=Θ)(hc:(isName t||(isTup t&&notTuple v))=Θ):PS X (.Assign [t] v pos) (RS X.K G.io (Lf cl (.asg tg e))):=by
 have pe:=OI e Ξ X G v g hv;have pg:=Pt g tg t ht
 induction t using zE with
 |Name x px=>
  cases tg with
  |tp _=>cases ht
  |nm i=>
   have P8:(G.N[i]? == Δ x&&(G.kd[i]? == Δ .local||(G.df&&G.kd[i]? == Δ .cell)))=Θ:=(y_.mp ht).1;rw[j_,aae,j_]at P8;have hx:G.N[i]? = Δ x:=h_ P8.1;have hk:=g.kd i x hx;have UH:Loc X.env.scope x:=P8.2.elim (fun z=>.inl (hk.trans (h_ z))) fun z=>.inr (hk.trans (h_ z.2));have QA:X.fn x=Θ∨X.env.scope.names.lookup x=Δ .local:=P8.2.elim (fun z=>.inr (hk.trans (h_ z))) fun z=>.inl (g.df z.1 x);have plain:swapsWith v (Δ (.Name x px)) pos.line X.env=pure Ξ->PS X (.Assign [.Name x px] v pos) (RS X.K G.io (Lf cl (.asg (.nm i) e))):=fun hs=>
    jc (Cc (i:=i) (by rw[g.N];exact g.J7) (by rw[g.N];exact hx) UH pe hs QA) fun Dn σ H h=>Bj ht h
   induction v using zE with
   |ListComp el gens scope Oh=>
    have QT:swapsWith (.ListComp el gens scope Oh) (Δ (.Name x px)) pos.line X.env=pure (X.env.blockKind == .function&&X.env.kindOf x == Δ .local&&px.line == Oh.line&&!(scope.names.any fun(n,k)=>n == x&&(k == .local||k == .cell))):=rfl;cases hb:(X.env.blockKind == .function&&X.env.kindOf x == Δ .local&&px.line == Oh.line&&!(scope.names.any fun(n,k)=>n == x&&(k == .local||k == .cell))) with
    |false=>exact plain (by rw[QT,hb])
    |true=>
     rw[hb]at QT;have YF:X.env.kindOf x=Δ .local:=by simp only[j_]at hb;exact h_ hb.1.1.2
     cases e with
     |comp G' fr T src ifs elt=>
      have hv:uF gens (fun t it fs=>i0 Z G scope G' fr&&jr G' T t&&(Lg T).all (fun i=>decide (fr.length<=i))&&(jv Z G src it&&lP src t)&&iF Z G' ifs fs&&Jk Z G' elt el)=Θ:=hv;obtain⟨t,it,fs,rfl,hv⟩:=oN hv;have h':(i0 Z G scope G' fr&&jr G' T t&&(Lg T).all (fun i=>decide (fr.length<=i))&&(jv Z G src it&&lP src t)&&iF Z G' ifs fs&&Jk Z G' elt el)=Θ:=hv;simp only[j_]at h';have hs:=oP h'.1.1.1.1.1;have hT:=h'.1.1.1.1.2;have ha:∀i∈Lg T,fr.length<=i:=fun i hi=>u_ (O_.mp h'.1.1.1.2 i hi);intro pins s' σ H Dn Iv h;obtain⟨Km,S⟩:=lu g Iv.ok hs;have p:=zj (py:=px) (spos:=pos) (i:=i) (pos:=Oh) (elt:=el) (ifs:=fs) (tg:=t) (g:=gT X.K T) (tt:=RT X.K (gR ifs) (kn cl ifs)) (te:=RD X.K (vars elt) (Iu cl elt)) (g.calm hs.cm) (by rw[g.N];exact g.J7) (by rw[g.N];exact hx) YF S (Ah src X G it t g h'.1.1.2.1 h'.1.1.2.2) (fun C s H fp=>Pt (i3 g hs Km C s H fp) T t hT)
       (fun C s H fp=>Ag ifs _ G' fs (i3 g hs Km C s H fp) h'.1.2) (fun C s H fp=>(snd elt _ G' el (i3 g hs Km C s H fp) h'.2).1) QT (fun x=>jo h'.1.1.2.1 X.env x)
      refine p pins s' σ H Dn Iv ?_;obtain⟨B,F,τ,f,m,q⟩:=h
      -- as one YG is kept
      have q0:Ip (Ii (Ii (Iu cl (.comp G' fr T src ifs elt) τ) fun d=>.ok (ib (.comp G' fr T src ifs elt) d τ)) fun p=>Ii (jf (.nm i) p.1 p.2) fun Jl=>.ok (.nx Jl)) (Fk X.K B Dn):=q;have q1:=Ip.Ii (Ip.Ii q0);have fin:∀(d:D) (v:V) (H':Hp) (F':Ω->Prop) (fv f':List Ω),Ow X.K F H f F' H' σ v (ib (.comp G' fr T src ifs elt) d τ).1 fv (ib (.comp G' fr T src ifs elt) d τ).2 f'->(∀(p:D×Ev),p=ib (.comp G' fr T src ifs elt) d τ->Ip (Ii (jf (.nm i) p.1 p.2) fun Jl=>.ok (.nx Jl)) (Fk X.K B Dn))->Dn.nx (σ.set i (Δ v)) H':=by intro d v H' F' fv f' o hp;obtain⟨m',Mn⟩:=m.ow o;have:=m'.gT (t:=.nm i) (Q:=Dn.nx) o.rep o.J7 Mn (kM _ _ ht) (Ip.Ii (hp _ rfl)) fun Jl Jp Qo Og h'=>h'.ok _ _ _ _ Og;exact this
      cases z:Iu cl (.comp G' fr T src ifs elt) τ with
      |error er=>rw[z]at q1;cases er;exact q1.no.elim
      |ok d=>
       rw[z]at q1;have q2:=q1.ok.ok;obtain⟨o',ds,rfl⟩:∃o ds,d=.lst o ds:=by have zz:=z;rw[mV]at zz;obtain⟨its,_,zz⟩:=iZ zz;obtain⟨_,zz⟩:=CY zz;obtain⟨ds,_,zz⟩:=iZ zz;cases zz;exact⟨Θ,ds,rfl⟩
       by_cases hi:gD ds=Θ
       ·have Oe:ib (.comp G' fr T src ifs elt) (.lst o' ds) τ=(.lst Θ ds,τ):=by unfold ib;rw[d_ (show ¬gH (.lst o' ds)=Θ by intro z;cases z)];show(if gD ds=Θ then _ else _)=_;rw[e_ hi]
        refine j5 (S:=fun _=>True) (τ:=τ) (Kt:=fun d'=>∃Ri,d'=.lst Ri ds) hs.SK ha (iS m.Kc) ?_ fun A ys ds' H' e hA Py mm k=>?_
        ·show Ip (Iu cl (.comp G' fr T src ifs elt) τ) _;rw[z];exact⟨o',rfl⟩
        ·obtain⟨Ri,k⟩:=k;cases k;obtain⟨k1,k2,k3⟩:=kh m.JB m.Kc e;refine fin (.lst o' ds) (.ref A) H' F [A] f ?_ (fun p hp=>by subst hp;exact q2);rw[Oe];refine⟨k3,k1,.KI (fun zz=>m.JB A zz hA) Py (mm.free hi),k2,?_,fun a ha=>?_⟩
         ·rw[aag,G_];refine⟨fun zz=>?_,m.J7⟩;obtain⟨_,xs,e⟩:=m.Kc.own A zz;rw[hA]at e;cases e
         ·rw[aag]at ha;rcases k_.mp ha with rfl|ha
          ·exact .inr hA
          ·exact .inl ha
       ·have Oe:ib (.comp G' fr T src ifs elt) (.lst o' ds) τ=(.lst Θ (Jj ds),Jw (vars (.comp G' fr T src ifs elt)) τ):=by unfold ib;rw[d_ (show ¬gH (.lst o' ds)=Θ by intro z;cases z)];show(if gD ds=Θ then _ else _)=_;rw[d_ hi]
        obtain⟨F1,gg,b1,b2,b3,b4,b5,b6⟩:=j6 (vars (.comp G' fr T src ifs elt)) m.JB m.Kc m.J7;refine j5 (S:=F1) (τ:=τ) (Kt:=fun d'=>∃Ri,d'=.lst Ri ds) hs.SK ha b6 ?_ fun A ys ds' H' e hA Py mm k=>?_
        ·show Ip (Iu cl (.comp G' fr T src ifs elt) τ) _;rw[z];exact⟨o',rfl⟩
        ·obtain⟨Ri,k⟩:=k;cases k;obtain⟨c1,c2,c3⟩:=grow (fun a=>a≠A) b1 b2 e;have m2:Io X.K (fun a=>F1 a∨(a≠A/\H a=Φ/\H' a≠Φ)) H' ys ds:=mm.step (fun a xs h r=>⟨h.1.elim (fun z=>.inl z) fun z=>.inr ⟨h.2,z,r.some⟩,r⟩) fun a xs h=>h;refine fin (.lst o' ds) (.ref A) H' (fun a=>F1 a∨(a≠A/\H a=Φ/\H' a≠Φ)) [A] gg ?_ (fun p hp=>by subst hp;exact q2);rw[Oe];refine⟨b4.trans c3 (fun x hx=>.inl (b5 x hx)),c1,.KI (fun zz=>?_) Py m2.frozen,c2,?_,fun a ha=>?_⟩
         ·rcases zz with zz|zz
          ·exact b1 A zz hA
          ·exact zz.1 rfl
         ·rw[aag,G_];refine⟨fun zz=>?_,b3⟩;obtain⟨_,xs,e⟩:=b2.own A zz;rw[hA]at e;cases e
         ·rw[aag]at ha;rcases k_.mp ha with rfl|ha
          ·exact .inr hA
          ·exact .inl (b5 a ha)
     |_=>first|exact eX hv|cases hv
   |SetComp _ _ _ _=>cases e<;>first|exact eX hv|cases hv
   |DictComp _ _ _ _ _=>cases e<;>first|exact eX hv|cases hv
   |_=>exact plain rfl
 |Tuple ts k px=>
  have M4:notTuple v=Θ:=hc;refine jc (Ca pe pg ?_ ?_ rfl) fun Dn σ H h=>Bj ht h
  ·induction v using zE<;>rfl
  ·induction v using zE<;>first|rfl|cases M4
 |_=>cases hc
end
theorem Ir.YH {K:Frag}{F:Ω->Prop}{H:Hp}{vs:List V}{ds:List D}{f:List Ω}(h:Ir K F H vs ds f)(n:gD ds=Θ):f=[]:=by refine Ir.rec (motive_1:=fun _ d f _=>gH d=Θ->f=[]) (motive_2:=fun _ d f _=>gD d=Θ->f=[]) (fun _=>rfl) (fun _ _=>rfl) (fun _ _=>rfl) (fun _ _=>rfl) (fun _ _ i z=>i z) (fun _ _ _ _ _=>rfl) (fun _ _ _ _=>rfl) (fun _ _ _ _ z=>eX z) (fun _ _ _ _ _ _=>rfl) (fun _ _ _ _ _ z=>eX z) (fun _ _ _ _ _ _=>rfl) (fun _ _ _ _ _ z=>eX z) (fun _=>rfl) (fun {v d f vs ds g} _ _ i j z=>?_) h n;have z':=y_.mp (show(gH d&&gD ds)=Θ from z);rw[i z'.1,j z'.2];rfl
theorem Ir.YI {K:Frag}{F:Ω->Prop}{H:Hp}{vs:List V}{ds:List D}{f:List Ω}(h:Ir K F H vs ds f)(n:iY ds=Θ):f=[]:=by refine Ir.rec (motive_1:=fun _ d f _=>uy d=Θ->f=[]) (motive_2:=fun _ d f _=>iY d=Θ->f=[]) (fun _=>rfl) (fun _ _=>rfl) (fun _ _=>rfl) (fun _ _=>rfl) (fun _ _ i z=>i z) (fun _ _ _ _ _=>rfl) (fun _ _ _ _=>rfl) (fun _ _ _ _ z=>eX z) (fun _ _ _ _ _ _=>rfl) (fun _ _ _ _ _ z=>eX z) (fun _ _ _ _ _ _=>rfl) (fun _ _ _ _ _ z=>eX z) (fun _=>rfl) (fun {v d f vs ds g} _ _ i j z=>?_) h n;have z':=y_.mp (show(uy d&&iY ds)=Θ from z);rw[i z'.1,j z'.2];rfl
theorem wL {K:Frag}{F:Ω->Prop}{H:Hp}{σ:St}{τ:Ev}{f:List Ω}{i:Nat}{ks:List (List TK)}{ds:List D}(r:JF K F H σ τ f)(hs:gF τ i=Δ (.Jy Θ ks ds))(n:iY ds=Θ) :
  ∃l kvs g,σ[i]? = Δ (Δ (.ref l))/\¬F l/\H l=Δ (.dT kvs)/\(kp kvs).map (·.1)=ks/\ml K H kvs/\Ir K F H ((kp kvs).map (·.2)) ds []/\JF K F H σ (τ.set i Φ) g/\f.Perm (l::g):=by
 obtain⟨v,fs,g,h1,h2,h3,h4⟩:=r.at hs;cases h2 with
 | @Nm a kvs _ _ fi hF hH hk hm=>have e:=hm.YI n;subst e;exact⟨a,kvs,g,h1,hF,hH,hk.1,hk.2,hm,h3,h4⟩
theorem Ak {K:Frag}{F:Ω->Prop}{H:Hp}{σ:St}{τ:Ev}{f:List Ω}{i:Nat}{ks:List Key}{ds:List D}(r:JF K F H σ τ f)(hs:gF τ i=Δ (.Ju Θ ks ds))(n:gD ds=Θ) :
  ∃l kvs g,σ[i]? = Δ (Δ (.ref l))/\¬F l/\H l=Δ (.dK kvs)/\kvs.map (·.1)=ks/\Ir K F H (kvs.map (·.2)) ds []/\JF K F H σ (τ.set i Φ) g/\f.Perm (l::g):=by
 obtain⟨v,fs,g,h1,h2,h3,h4⟩:=r.at hs;cases h2 with
 | @Nl a kvs _ _ fi hF hH hk hm=>have e:=hm.YH n;subst e;exact⟨a,kvs,g,h1,hF,hH,hk,hm,h3,h4⟩
theorem J4.Nx {K:Frag}{io:Option Nat}{B:Bs io}{F:Ω->Prop}{H:Hp}{σ:St}{τ:Ev}{f g:List Ω}{i:Nat}{l:Ω}{o':HO}{d':D}(m:J4 K B F H σ τ f)(Kz:σ[i]? = Δ (Δ (.ref l)))(hF:¬F l)(hl:∀xs,¬Rd H l (.tup xs))(hr:JF K F H σ (τ.set i Φ) g)(h4:f.Perm (l::g))
  (hm:(∀a (u:LD),F a->Rd H a u.o->F a/\Rd (upd H l o') a u.o)->(∀a xs,JC K H a xs->JC K (upd H l o') a xs)->Jo K F (upd H l o') (.ref l) d' [l]):∃f',J4 K B F (upd H l o') σ (τ.set i (Δ d')) f':=by
 have Wx:(l::g).Nodup:=h4.nodup_iff.mp m.J7;have lg:l∉g:=(G_.mp Wx).1;have sl:∀a (u:LD),F a->Rd H a u.o->F a/\Rd (upd H l o') a u.o:=fun a xs h r=>by refine⟨h,?_⟩;have:a≠l:=fun z=>hF (by rw[<- z];exact h);unfold Rd;rw[gK this];exact r
 have st:∀a xs,JC K H a xs->JC K (upd H l o') a xs:=fun a xs h=>h.cl (vZ hl);have r1:JF K F (upd H l o') σ (τ.set i Φ) g:=hr.step sl st fun a ha n _=>⟨n,gK fun z=>lg (by rw[<- z];exact ha)⟩
 have m1:Jo K F (upd H l o') (.ref l) d' [l]:=hm sl st;obtain⟨g',h',r2,p2⟩:=r1.put i m1;have PF:σ.set i (Δ (.ref l))=σ:=by
  apply List.ext_getElem?;intro j;rw[List.getElem?_set];by_cases hj:i=j
  ·subst hj;rw[e_ rfl,e_ (E_.mp Kz).1,Kz]
  ·rw[d_ hj]
 rw[PF,List.set_set]at r2;have Pz:(g'++h').Nodup:=p2.nodup_iff.mpr Wx;have lB:B.H l=Φ:=m.own l (h4.mem_iff.mpr (by simp));refine⟨g',fun a h=>?_,r2,(x_.mp Pz).1,fun b o PH=>?_,fun a ha=>m.own a (h4.mem_iff.mpr (p2.mem_iff.mp (q_ _ ha))),m.LI,m.out,fun a xs h=>⟨(m.pin a xs h).1,(sl a xs (m.pin a xs h).1 (m.pin a xs h).2).2⟩,fun a xs h=>st a xs (m.OJ a xs h),m.nm⟩
 ·have:a≠l:=fun z=>hF (by rw[<- z];exact h);rw[gK this];exact m.JB a h
 ·have:b≠l:=fun z=>by rw[z,lB]at PH;cases PH
  rw[gK this];exact m.same _ _ PH
section
variable {K:Frag}{S:Ω->Prop}{H:Hp}
theorem has_any {κ:Type} [DecidableEq κ](kvs:List (κ×V))(q:κ):(kvs.any fun kv=>decide (kv.1=q))=mJ (kvs.map (·.1)) q:=by unfold mJ;rw[List.any_map];rfl
theorem MI {κ:Type} [DecidableEq κ](kvs:List (κ×V))(q:κ)(v:V):(putK kvs q v).map (·.1)=iB (kvs.map (·.1)) q:=by
 unfold putK iB;rw[has_any];by_cases h:mJ (kvs.map (·.1)) q=Θ
 ·rw[e_ h,e_ h,Y_];refine aan fun kv _=>?_;show(if kv.1=q then(kv.1,v) else kv).1=kv.1;split<;>rfl
 ·rw[d_ h,d_ h,C_];rfl
theorem Bl {κ:Type} [DecidableEq κ](q:κ){v:V}{d:D}(mv:Iq K S H v d){kvs:List (κ×V)}{ds:List D}(m:Io K S H (kvs.map (·.2)) ds):Io K S H ((putK kvs q v).map (·.2)) (iR (kvs.map (·.1)) ds q d):=by
 unfold putK iR;rw[has_any];by_cases h:mJ (kvs.map (·.1)) q=Θ
 ·rw[e_ h,e_ h,Y_];clear h
  induction kvs generalizing ds with
  |nil=>cases m;exact .nil
  |cons p kvs ih=>
   rw[b_]at m;cases ds with
   |nil=>exact absurd m.length (by simp)
   |cons e ds=>
    cases m with
    |cons m1 m2=>
     rw[b_,b_,List.zipWith_cons_cons];refine .cons ?_ (ih m2);show Iq K S H (if p.1=q then(p.1,v) else p).2 (if p.1=q then d else e);split
     ·exact mv
     ·exact m1
 ·rw[d_ h,d_ h,C_];exact m.append (.cons mv .nil)
theorem Dr {κ:Type} [DecidableEq κ]{ks:List κ}{ds:List D}{q:κ}{d:D}(h1:gD ds=Θ)(h2:gH d=Θ):gD (iR ks ds q d)=Θ:=by
 unfold iR;rw[iC]at h1;rw[iC,O_];rw[O_]at h1;intro x hx;split at hx
 ·rw[List.mem_iff_getElem?]at hx;obtain⟨i,hi⟩:=hx;rw[List.getElem?_zipWith]at hi;split at hi
  ·rename_i a b e1 e2
   cases hi;split
   ·exact h2
   ·exact h1 _ (aao e2)
  ·cases hi
 ·rcases o_.mp hx with hx|hx
  ·exact h1 x hx
  ·rw[t_.mp hx];exact h2
end
section
variable {Z:Sg}{CX:KD}{cl:Nat->List D->Res D}{X:Cx}{G:Gm}
theorem HY (g:JL Z CX cl X G){i:Nat}{k e:IR}{x:Str}{p sp pos:Pos}{s v:Expr}(h1:jE G i x=Θ)(h2:iE s=Θ)(h3:Jk Z G k s=Θ)(h4:Jk Z G e v=Θ) :
  PS X (.Assign [.Subscript (.Name x p) s sp] v pos) (RS X.K G.io (Lf cl (.Mq i k e))):=by
 have hu:=g.un;refine jc (zq (by omega) (nX g h1) (snd k X G s g h3).1 (snd e X G v g h4).1 (by induction v using zE<;>rfl)) fun Dn σ H h=>?_;obtain⟨B,F,τ,f,m,q⟩:=h;have q0:Ip (Ii (Iu cl e τ) fun d=>match gF τ i with|some (.Ju Θ ks ds)=>Ii (Iu cl k τ) fun y=>(match kl y with|some q=>Iy (gH d&&gD ds&&i4 ks.length) (.ok (.nx (τ.set i (Δ (.Ju Θ (iB ks q) (iR ks ds q d))))))|none=>Ji)|_=>Ji) (Fk X.K B Dn):=q;refine m.rd (Ip.Ii q0) fun d w H1 m1 e1 mw q1=>?_;cases z0:gF τ i with
 |none=>rw[z0]at q1;exact q1.no.elim
 |some d0=>
  rw[z0]at q1
  induction d0 using zD with
  |Ju ow ks ds=>
   cases ow with
   |false=>exact q1.no.elim
   |true=>
    obtain⟨v0,PJ,_⟩:∃v0,σ[i]? = Δ (Δ v0)/\True:=by obtain⟨v0,_,_,h,_⟩:=m1.Kc.at z0;exact⟨v0,h,trivial⟩
    refine⟨v0,PJ,m1.rd (Ip.Ii q1) fun y w2 H2 m2 e2 UI q2=>?_⟩;cases hk:kl y with
    |none=>simp only[hk]at q2;exact q2.no.elim
    |some qk=>
     simp only[hk]at q2;obtain⟨gd,q2⟩:=Ip.Iy q2;rw[j_,j_]at gd;obtain⟨l,kvs,g0,Kz,hF,hl,UJ,hm,hr,hp⟩:=Ak m2.Kc z0 gd.1.2;rw[PJ]at Kz;cases Kz;subst UJ;have YJ:Io X.K (fun _=>True) H2 (kvs.map (·.2)) ds:=hm.read (fun _ _=>trivial) fun _ _=>trivial;have YK:Iq X.K (fun _=>True) H2 w d:=mw.mono (fun _ _=>trivial) e2;have UK:Ir X.K F H2 ((putK kvs qk w).map (·.2)) (iR (kvs.map (·.1)) ds qk d) []:=(Bl qk YK YJ).free (Dr gd.1.2 gd.1.1);obtain⟨f',m3⟩:=m2.Nx PJ hF (fun xs z=>by rcases z with z|⟨o',z⟩<;>(rw[hl]at z;cases z)) hr hp fun sl st=>.Nl hF gI (MI kvs qk w) (UK.step sl st iJ);have hlen:kvs.length < Ζ:=by
      have:=kF gd.2
      rwa [i_]at this
     exact⟨l,_,rfl,⟨kvs,qk,hl,lW UI hk,hlen,rfl⟩,q2.ok _ _ _ _ m3⟩
  |_=>exact q1.no.elim
theorem mW (is:List Nat):∀(τ:Ev) (k i:Nat),is.contains (k+i)=Ξ->gF (lh is k τ) i=gF τ i
 |[],k,i,h=>rfl
 |o::τ,k,0,h=>by unfold lh;rw[i7,i7,d_ (by rw[show k=k+0 from rfl,h];simp)]
 |o::τ,k,i+1,h=>by unfold lh;rw[iP,iP];exact mW is τ (k+1) i (by rw[<- h];congr 1;omega)
theorem Kw (g:JL Z CX cl X G){i:Nat}{k e:IR}{x:Str}{p sp pos:Pos}{s v:Expr}(h1:jE G i x=Θ)(h2:iE s=Θ)(h3:Jk Z G k s=Θ)(h4:Jk Z G e v=Θ)(h5:(vars e).contains i=Ξ) :
  PS X (.Assign [.Subscript (.Name x p) s sp] v pos) (RS X.K G.io (Lf cl (.Ld i k e))):=by
 have hu:=g.un;refine jc (vy (by omega) (nX g h1) (snd k X G s g h3).1 (snd e X G v g h4).1 (by induction v using zE<;>rfl)) fun Dn σ H h=>?_;obtain⟨B,F,τ,f,m,q⟩:=h;have q0:Ip (Ii (Iu cl e τ) fun d=>match gF τ i with|some (.Jy Θ ks ds)=>Ii (Iu cl k (Jw (vars e) τ)) fun y=>(match jq y with|some q=>Iy (iY ds&&i4 ks.length) (.ok (.nx ((Jw (vars e) τ).set i (Δ (.Jy Θ (iB ks q) (Jj (iR ks ds q d)))))))|none=>Ji)|_=>Ji) (Fk X.K B Dn):=q;obtain⟨F1,gg,b1,b2,b3,b4,b5,b6⟩:=j6 (vars e) m.JB m.Kc m.J7;refine gX (.refl _) b6 (Ip.Ii q0) fun d w H1 e1 _ mw q1=>?_;obtain⟨c1,c2,c3⟩:=grow (fun _=>True) b1 b2 e1;have m1:J4 X.K B (fun b=>F1 b∨(True/\H b=Φ/\H1 b≠Φ)) H1 σ (Jw (vars e) τ) gg:=m.K3 (b4.trans c3 (fun x hx=>.inl (b5 x hx))) c1 c2 b3 fun b hb=>.inl (b5 b hb);have mw:=mw.fix;cases z0:gF τ i with
 |none=>rw[z0]at q1;exact q1.no.elim
 |some d0=>
  rw[z0]at q1
  induction d0 using zD with
  |Jy ow ks ds=>
   cases ow with
   |false=>exact q1.no.elim
   |true=>
    have zf:gF (Jw (vars e) τ) i=Δ (.Jy Θ ks ds):=(mW (vars e) τ 0 i (by rw[Nat.zero_add];exact h5)).trans z0;obtain⟨v0,PJ,_⟩:∃v0,σ[i]? = Δ (Δ v0)/\True:=by obtain⟨v0,_,_,h,_⟩:=m1.Kc.at zf;exact⟨v0,h,trivial⟩
    refine⟨v0,PJ,m1.rd (Ip.Ii q1) fun y w2 H2 m2 e2 UI q2=>?_⟩;cases hk:jq y with
    |none=>simp only[hk]at q2;exact q2.no.elim
    |some qk=>
     simp only[hk]at q2;obtain⟨gd,q2⟩:=Ip.Iy q2;rw[j_]at gd;obtain⟨l,kvs,g0,Kz,hF,hl,UJ,ht,hm,hr,hp⟩:=wL m2.Kc zf gd.1;rw[PJ]at Kz;cases Kz;subst UJ;have UK:=(Bl qk (mw.mono (fun _ h=>h) e2) (hm.read (fun _ h=>h) fun _ h=>absurd h (by simp))).frozen;obtain⟨b,rfl,hb⟩:=sP UI hk;have hT:ml X.K H2 (lN kvs qk b w):=vw (P:=fun k a=>JC X.K H2 a (k.map Na)) ht hb;obtain⟨f',m3⟩:=m2.Nx (o':=.dT (lN kvs qk b w)) (d':=.Jy Θ (iB ((kp kvs).map (·.1)) qk) (Jj (iR ((kp kvs).map (·.1)) ds qk d))) PJ hF (fun xs z=>by rcases z with z|⟨o',z⟩<;>(rw[hl]at z;cases z)) hr hp fun sl st=>.Nm hF gI ⟨by rw[vv,MI],fun p hp=>st _ _ (hT p hp)⟩ (by rw[vv];exact UK.step sl st iJ);have hlen:kvs.length < Ζ:=by
      have:=kF gd.2;unfold kp at this
      rwa [i_,i_]at this
     exact⟨l,kvs,qk,b,rfl,hl,ht,rfl,hb,hlen,q2.ok _ _ _ _ m3⟩
  |_=>exact q1.no.elim
end
section
variable {K:Frag}{F:Ω->Prop}{H:Hp}
theorem Jo.parts {v:V}{o:Bool}{es:List D}{fv:List Ω}(h:Jo K F H v (.lst o es) fv):∃b zs fe h',v=.ref b/\JX K H b zs/\Ir K F H zs es fe/\(fe++h').Perm fv:=by
 cases h with
 |Mp h0 h1 h2=>exact⟨_,_,[],[],rfl,.inl h1,h2,.refl _⟩
 |lstK h1 h2=>exact⟨_,_,[],[],rfl,h1.sq,h2,.refl _⟩
 | @KI a xs ds f h0 h1 h2=>exact⟨a,_,f,[a],rfl,.inl (.inl h1),h2,aam (l₁:=f) (l₂:=[a])⟩
theorem Ir.split (n:Nat){vs:List V}{ds:List D}{f:List Ω}(h:Ir K F H vs ds f):∃f1 f2,Ir K F H (vs.take n) (ds.take n) f1/\Ir K F H (vs.drop n) (ds.drop n) f2/\f1++f2=f:=by
 revert n;refine Ir.ind (P:=fun vs ds f=>∀n,∃f1 f2,Ir K F H (vs.take n) (ds.take n) f1/\Ir K F H (vs.drop n) (ds.drop n) f2/\f1++f2=f) (fun n=>⟨[],[],by rw[List.take_nil,List.take_nil];exact .nil,by rw[List.drop_nil,List.drop_nil];exact .nil,rfl⟩) (fun v d f vs ds g a b j n=>?_) h;cases n with
 |zero=>exact⟨[],f++g,.nil,.cons a b,rfl⟩
 |succ n=>obtain⟨f1,f2,h1,h2,h3⟩:=j n;exact⟨f++f1,f2,.cons a h1,h2,by rw[r_,h3]⟩
end
section
variable {Z:Sg}{CX:KD}{cl:Nat->List D->Res D}{X:Cx}{G:Gm}
theorem rN {K:Frag}{F:Ω->Prop}{H:Hp}{σ:St}{τ:Ev}{f:List Ω}{i:Nat}{ds:List D}(r:JF K F H σ τ f)(hs:gF τ i=Δ (.lst Θ ds)):∃l xs,σ[i]? = Δ (Δ (.ref l))/\H l=Δ (.lst xs)/\xs.length=ds.length:=by
 obtain⟨v,fs,g,h1,h2,h3,h4⟩:=r.at hs;cases h2 with
 |KI hF hH hm=>exact⟨_,_,h1,hH,hm.length⟩
theorem LJ (g:JL Z CX cl X G){i:Nat}{e:IR}{x:Str}{p apos Jm pos:Pos}{v:Expr}(h1:jE G i x=Θ)(h2:(apos.endLine == Jm.line)=Θ)(h3:notStar v=Θ)(h4:Jk Z G e v=Θ) :
  PS X (.Expr (.Call (.Attribute (.Name x p) "extend" apos) [v] [] Jm) pos) (RS X.K G.io (Lf cl (.ext i e))):=by
 have pa:PA X [v] (md (RO X.K (JI cl Ξ e)) vf):=ij (OI e Ξ X G v g h4) iW (gE h3 _ _);have K8:((backTo Jm (Ν [v] X.env)).all (fun x=>!x.1)&&(backToKw Jm (keywordEach [] X.env)).all (fun x=>x.1.isSome)&&decide ([v].length+([]:List Keyword).length+(if([]:List Keyword).isEmpty then 0 else 1) < 30))=Θ:=by rw[gE h3];rfl
 refine jc (lQ (nM PySem.F.plainAttrs_list PySem.F.slot_list_extend PySem.F.type_list_extend zH (nX g h1) pa rfl K8 h2 (gE h3 _ _) rfl)) fun Dn σ H h=>?_;obtain⟨B,F,τ,f,m,q⟩:=h;have q0:Ip (match gF τ i with|some (.lst _ _)=>(Ii (JI cl Ξ e τ) fun p=>(match p.1,gF p.2 i with|.lst _ es,Δ (.lst Θ ds)=>Iy (iu (ds.length+es.length)) (.ok (.nx (p.2.set i (Δ (.lst Θ (ds++es))))))|_,_=>Ji))|_=>Ji) (Fk X.K B Dn):=q;cases z0:gF τ i with
 |none=>rw[z0]at q0;exact q0.no.elim
 |some d0=>
  rw[z0]at q0
  induction d0 using zD with
  |lst o0 UG=>
   obtain⟨v0,Wy,g0,a1,a2,a3,a4⟩:=m.Kc.at z0;obtain⟨l,Rj,_,_,rfl,hq,_⟩:=a2.parts;refine⟨.ref l,a1,.inl ⟨rfl,Rj,hq⟩,m.ro (Ip.Ii q0) fun p v H' F' fv f' o hp=>?_⟩;obtain⟨m',hb⟩:=m.ow o;obtain⟨pd,YL⟩:=p
   induction pd using zD with
   |lst oe es=>
    cases zs:gF YL i with
    |none=>simp only[zs]at hp;exact hp.no.elim
    |some d=>
     simp only[zs]at hp
     induction d using zD with
     |lst ow ds=>
      cases ow with
      |false=>exact hp.no.elim
      |true=>
       obtain⟨gd,hp⟩:=Ip.Iy hp;obtain⟨l',xs,Kz,hl,hlen⟩:=rN m'.Kc zs;rw[a1]at Kz;cases Kz;obtain⟨b,zz,fe,h',rfl,YM,Wz,YN⟩:=(show Jo X.K F' H' v (.lst oe es) fv from o.rep).parts;have hz:zz.length=es.length:=Ir.ind (P:=fun v d _=>v.length=d.length) rfl (fun _ _ _ _ _ _ _ _ j=>congrArg (· + 1) j) Wz
       obtain⟨Qo,m3⟩:=m'.write (ys:=xs++zz) (ds':=ds++es) zs a1 hl o.rep o.J7 hb fun fi hm=>⟨fi++fe,h',hm.append Wz,by
        rw[r_]
        exact aam.trans (List.Perm.append_right _ YN)⟩
       exact⟨l,b,xs,zz,rfl,rfl,hl,YM,by rw[hlen,hz];exact iI gd,hp.ok _ _ _ _ m3⟩
     |_=>exact hp.no.elim
   |_=>exact hp.no.elim
  |_=>exact q0.no.elim
theorem LL (g:JL Z CX cl X G){i:Nat}{k e:IR}{x:Str}{p apos Jm pos:Pos}{s v:Expr}(h1:jE G i x=Θ)(h2:(apos.endLine == Jm.line)=Θ)(h3:notStar s=Θ)(UL:notStar v=Θ)(h4:Jk Z G k s=Θ)(h5:Jk Z G e v=Θ) :
  PS X (.Expr (.Call (.Attribute (.Name x p) "insert" apos) [s,v] [] Jm) pos) (RS X.K G.io (Lf cl (.ins i k e))):=by
 have pa:PA X [s,v] (md (RD X.K (vars k) (Iu cl k)) (md (RO X.K (JI cl Ξ e)) vf)):=ij (snd k X G s g h4).1 (ij (OI e Ξ X G v g h5) iW (gE UL _ _)) (gE h3 _ _);have K8:((backTo Jm (Ν [s,v] X.env)).all (fun x=>!x.1)&&(backToKw Jm (keywordEach [] X.env)).all (fun x=>x.1.isSome)&&decide ([s,v].length+([]:List Keyword).length+(if([]:List Keyword).isEmpty then 0 else 1) < 30))=Θ:=by rw[gE h3,gE UL];rfl
 refine jc (lQ (nM PySem.F.plainAttrs_list PySem.F.slot_list_insert PySem.F.type_list_insert CT (nX g h1) pa rfl K8 h2 (gE h3 _ _) (by rw[gE UL];rfl))) fun Dn σ H h=>?_;obtain⟨B,F,τ,f,m,q⟩:=h;have q0:Ip (match gF τ i with|some (.lst _ _)=>(Ii (Iu cl k τ) fun y=>Ii (JI cl Ξ e τ) fun p=>(match y,gF p.2 i with|.int z,Δ (.lst Θ ds)=>Iy (decide (0<=z/\z.toNat<=ds.length)&&i4 ds.length) (.ok (.nx (p.2.set i (Δ (.lst Θ (ds.take z.toNat++p.1::ds.drop z.toNat))))))|_,_=>Ji))|_=>Ji) (Fk X.K B Dn):=q;cases z0:gF τ i with
 |none=>rw[z0]at q0;exact q0.no.elim
 |some d0=>
  rw[z0]at q0
  induction d0 using zD with
  |lst o0 UG=>
   obtain⟨v0,Wy,g0,a1,a2,a3,a4⟩:=m.Kc.at z0;obtain⟨l,Rj,_,_,rfl,hq,_⟩:=a2.parts;refine⟨.ref l,a1,.inl ⟨rfl,Rj,hq⟩,m.rd (Ip.Ii q0) fun y w H1 m1 e1 mw q1=>?_⟩;refine m1.ro (Ip.Ii q1) fun p v H' F' fv f' o hp=>?_;obtain⟨m',hb⟩:=m1.ow o
   induction y using zD with
   |int z=>
    cases mw.Jv;cases zs:gF p.2 i with
    |none=>simp only[zs]at hp;exact hp.no.elim
    |some d=>
     simp only[zs]at hp
     induction d using zD with
     |lst ow ds=>
      cases ow with
      |false=>exact hp.no.elim
      |true=>
       obtain⟨gd,hp⟩:=Ip.Iy hp;rw[j_]at gd;have gz:0<=z/\z.toNat<=ds.length:=u_ gd.1;obtain⟨l',xs,Kz,hl,hlen⟩:=rN m'.Kc zs;rw[a1]at Kz;cases Kz;obtain⟨Qo,m3⟩:=m'.write (ys:=xs.take z.toNat++v::xs.drop z.toNat) (ds':=ds.take z.toNat++p.1::ds.drop z.toNat) zs a1 hl o.rep o.J7 hb fun fi hm=>by obtain⟨f1,f2,s1,s2,s3⟩:=hm.split z.toNat;refine⟨f1++(fv++f2),[],s1.append (.cons o.rep s2),?_⟩;rw[v_,<- s3,<- r_,<- r_];exact List.Perm.append_right _ aam
       exact⟨l,xs,z,v,rfl,rfl,hl,gz.1,by rw[hlen];exact gz.2,by rw[hlen];exact kF gd.2,hp.ok _ _ _ _ m3⟩
     |_=>exact hp.no.elim
   |_=>exact hp.no.elim
  |_=>exact q0.no.elim
end
section
variable {Z:Sg}{CX:KD}{cl:Nat->List D->Res D}{X:Cx}{G:Gm}
theorem Ie (g:JL Z CX cl X G){i:Nat}{e:IR}{x:Str}{p apos Jm pos:Pos}{v:Expr}(h1:jE G i x=Θ)(h2:(apos.endLine == Jm.line)=Θ)(h3:notStar v=Θ)(h4:Jk Z G e v=Θ) :
  PS X (.Expr (.Call (.Attribute (.Name x p) "append" apos) [v] [] Jm) pos) (RS X.K G.io (Lf cl (.app i e))):=by
 have pa:PA X [v] (md (RO X.K (JI cl Ξ e)) vf):=ij (OI e Ξ X G v g h4) iW (gE h3 _ _);have K8:((backTo Jm (Ν [v] X.env)).all (fun x=>!x.1)&&(backToKw Jm (keywordEach [] X.env)).all (fun x=>x.1.isSome)&&decide ([v].length+([]:List Keyword).length+(if([]:List Keyword).isEmpty then 0 else 1) < 30))=Θ:=by rw[gE h3];rfl
 refine jc (lQ (nM PySem.F.plainAttrs_list PySem.F.slot_list_append PySem.F.type_list_append nN (nX g h1) pa rfl K8 h2 (gE h3 _ _) rfl)) fun Dn σ H h=>?_;obtain⟨B,F,τ,f,m,q⟩:=h;have q0:Ip (match gF τ i with|some (.lst _ _)=>(Ii (JI cl Ξ e τ) fun p=>(match gF p.2 i with|some (.lst Θ ds)=>Iy (i4 ds.length) (.ok (.nx (p.2.set i (Δ (.lst Θ (ds++[p.1]))))))|_=>Ji))|_=>Ji) (Fk X.K B Dn):=q;cases z0:gF τ i with
 |none=>rw[z0]at q0;exact q0.no.elim
 |some d0=>
  rw[z0]at q0
  induction d0 using zD with
  |lst o0 UG=>
   obtain⟨v0,Wy,g0,a1,a2,a3,a4⟩:=m.Kc.at z0;have hq:∃l xs,v0=.ref l/\JX X.K H l xs:=by
    cases a2 with
    |Mp _ b1 _=>exact⟨_,_,rfl,.inl b1⟩
    |lstK b1 _=>exact⟨_,_,rfl,b1.sq⟩
    |KI _ b1 _=>exact⟨_,_,rfl,.inl (.inl b1)⟩
   obtain⟨l,Rj,rfl,hq⟩:=hq;refine⟨.ref l,a1,.inl ⟨rfl,Rj,hq⟩,m.ro (Ip.Ii q0) fun p v H' F' fv f' o hp=>?_⟩;obtain⟨m',hb⟩:=m.ow o;cases zs:gF p.2 i with
   |none=>rw[zs]at hp;exact hp.no.elim
   |some d=>
    rw[zs]at hp
    induction d using zD with
    |lst ow ds=>
     cases ow with
     |false=>exact hp.no.elim
     |true=>obtain⟨gd,hp⟩:=Ip.Iy hp;obtain⟨l',xs,Kz,hl,hlen⟩:=rN m'.Kc zs;rw[a1]at Kz;cases Kz;obtain⟨Qo,m3⟩:=m'.write (ys:=xs++[v]) (ds':=ds++[p.1]) zs a1 hl o.rep o.J7 hb fun fi hm=>hm.snoc o.rep;exact⟨l,xs,v,rfl,rfl,hl,by rw[hlen];exact kF gd,hp.ok _ _ _ _ m3⟩
    |_=>exact hp.no.elim
  |_=>exact q0.no.elim
theorem Fk.Rk {K:Frag}{io:Option Nat}{B:Bs io}{F F':Ω->Prop}{H H':Hp}{σ:St}{τ Jl:Ev}{f f':List Ω}{v:V}{d:D}{fv:List Ω}(m:J4 K B F H σ τ f)(o:Ow K F H f F' H' σ v d fv Jl f'):Out K B.F B.H F' H' v d fv:=by obtain⟨m',hb⟩:=m.ow o;exact⟨m'.JB,m'.same,o.rep,(x_.mp o.J7).1,hb,m'.LI,m'.out⟩
theorem Ig (g:JL Z CX cl X G){e:IR}{v:Expr}{pos:Pos}(h:Jk Z G e v=Θ):PS X (.Return (Δ v) pos) (RS X.K G.io (Lf cl (.ret e))):=by refine jc (B8 (OI e Θ X G v g h)) fun Dn σ H ⟨B,F,τ,f,m,q⟩=>?_;exact m.ro (Ip.Ii q) fun p v H' F' fv f' o hp=>hp.ok _ _ _ _ (Fk.Rk m o)
theorem Ds (g:JL Z CX cl X G){e:IR}{v:Expr}{pos:Pos}(hc:oQ v=Θ)(h:Jk Z G e v=Θ):PS X (.Expr v pos) (RS X.K G.io (Lf cl (.exp e))):=by refine jc (lQ (snd e X G v g h).1 (by induction v using zE<;>first|rfl|cases hc)) fun Dn σ H ⟨B,F,τ,f,m,q⟩=>?_;exact m.rd (Ip.Ii q) fun d v H' m' _ _ hd=>hd.ok _ _ _ _ m'
theorem Im {c:Expr}{x y:List Stmt}{pos:Pos}{t:IR}{a b:List IS}(hc:PT X c (RT X.K (vars t) fun τ=>Ii (Iu cl t τ) g8))(ha:Mz X x (RS X.K G.io (iy cl a)))(hb:Mz X y (RS X.K G.io (iy cl b))):PS X (.If c x y pos) (RS X.K G.io (Lf cl (.JA t a b))):=by
 refine jc (ED hc ha hb) fun Dn σ H ⟨B,F,τ,f,m,q⟩=>?_;refine m.rt (Ip.Ii q) fun r H' m' _ hr=>?_;cases r with
 |true=>rw[e_ rfl]at hr ⊢;exact⟨B,F,τ,f,m',hr⟩
 |false=>rw[d_ p_]at hr ⊢;exact⟨B,F,τ,f,m',hr⟩
theorem J4.less {K:Frag}{io:Option Nat}{B:Bs io}{L:Ω->LD->Prop}{T:Ω->List V->Prop}{F:Ω->Prop}{H:Hp}{σ:St}{τ:Ev}{f:List Ω}(m:J4 K (⟨B.F,B.H,fun a xs=>B.L a xs∨L a xs,fun a xs=>B.T a xs∨T a xs,B.N⟩:Bs io) F H σ τ f):J4 K B F H σ τ f:=
 ⟨m.JB,m.Kc,m.J7,m.same,m.own,m.LI,m.out,fun a xs h=>m.pin a xs (.inl h),fun a xs h=>m.OJ a xs (.inl h),m.nm⟩
theorem qB:∀(ds:List D) (i:Nat),(Jj ds).drop i=Jj (ds.drop i):=by intro ds i;rw[g7,g7,List.map_drop]
theorem qC {J:It}{K:Frag}{io:Option Nat}{B:Bs io}{F:Ω->Prop}{H:Hp}{σ:St}{τ:Ev}{f:List Ω}{T:Tg}{body:List IS}{its:List D}{Dn:Ends}(MZ:∀j∈Lg T,io≠Δ j)(m:J4 K B F H σ τ f)(w:K2 K F H J its)
  (q:Ip (forM (fun x τ=>Ii (jf T x τ) fun Jl=>iy cl body Jl) (Jj its) τ) (Fk K B Dn)) :
  ∃W:Nat->Nat->St->Hp->Prop,(∃m,W 0 m σ H)/\∀i m σ H,W i m σ H->(J.stop i H/\Dn.nx σ H)∨(J.go i H/\∃N:St->Hp->Prop,(∀Jp H',N Jp H'->∃m',m' < m/\W (i+1) m' Jp H')/\
   ∀x H',J.NW i H x H'->gT K T x σ H' fun LU H2=>RS K io (iy cl body) {Dn with nx:=N,ct:=N,bk:=Dn.nx} LU H2):=by
 let B':Bs io:=⟨B.F,B.H,fun a xs=>B.L a xs∨(F a/\Rd H a xs.o),fun a xs=>B.T a xs∨JC K H a xs,B.N⟩
 have m0:J4 K B' F H σ τ f:=⟨m.JB,m.Kc,m.J7,m.same,m.own,m.LI,m.out,fun a xs h=>h.elim (m.pin a xs) id,fun a xs h=>h.elim (m.OJ a xs) id,m.nm⟩
 let bd:D->Ev->Res Fl:=fun x τ=>Ii (jf T x τ) fun Jl=>iy cl body Jl;refine⟨fun i n σ H=>n=its.length - i/\i<=its.length/\∃F τ f,J4 K B' F H σ τ f/\Ip (forM bd ((Jj its).drop i) τ) (Fk K B Dn),⟨its.length,by simp,aaa _,F,τ,f,m0,by rw[List.drop_zero];exact q⟩,?_⟩;rintro i n VC H1 ⟨rfl,hi,F1,OE,f1,m1,q1⟩;have w1:K2 K F1 H1 J its:=w.step (fun a xs h r=>m1.pin a xs (.inr ⟨h,r⟩)) fun a xs h=>m1.OJ a xs (.inr h);by_cases JT:i < its.length
 ·refine .inr ⟨w1.go JT,fun σ H=>∃F τ f,J4 K B' F H σ τ f/\Ip (forM bd ((Jj its).drop (i+1)) τ) (Fk K B Dn),fun Jp H' h=>⟨its.length - (i+1),by omega,rfl,JT,h⟩,fun x H' y=>?_⟩;obtain⟨eH,mx⟩:=w1.NW y (d:=its[i]) (by simp[JT]);have m1:=m1.grow eH;have hd:(Jj its).drop i=er its[i]::(Jj its).drop (i+1):=by rw[qB,List.drop_eq_getElem_cons JT,Jj,qB]
  rw[hd]at q1;have q2:=Ip.Ii q1;refine m1.gT mx.frozen (by simpa using m1.J7) (fun a ha=>absurd ha (by simp)) MZ (Ip.Ii q2) fun Jl Jp f' m' h'=>?_;refine⟨B',F1,Jl,f',m',h'.mono fun r hr=>?_⟩;cases r with
  |nx Jl=>exact fun Jp H' F' f' Og=>⟨F',Jl,f',Og,hr⟩
  |ct Jl=>exact fun Jp H' F' f' Og=>⟨F',Jl,f',Og,hr⟩
  |bk Jl=>exact fun Jp H' F' f' Og=>hr.ok _ _ _ _ Og.less
  |rt d=>exact fun v H' F' fv o=>hr.ok _ _ _ _ o
  |ri d ks es=>exact hr.ok
 ·have e:i=its.length:=by omega
  subst e;refine .inl ⟨w1.stop rfl,?_⟩;have:(Jj its).drop its.length=[]:=by rw[<- jm its,List.drop_length]
  rw[this]at q1;exact q1.ok _ _ _ _ m1.less
theorem Al (a b:Int):Jj (iV a b)=iV a b:=by unfold iV;rw[g7,Y_];rfl
noncomputable def Bm (cl:Nat->List D->Res D):Sr->Ev->Res (Int×Int)
 |.JW n,τ=>Ii (Iu cl n τ) fun|.int i=>Iy (lL i) (.ok (0,i))|_=>Ji
 |_,_=>Ji
def YO (K:Frag)(is:List Nat)(f:Ev->Res (Int×Int)):TI:=fun σ H R=>∃S τ,Slots K S H σ τ is/\Ip (f τ) fun p=>∀H',gJ H H'->R (QD p.1 (p.2 - p.1).toNat) H'
noncomputable def wM:Sr->Bool
 |.JW _=>Θ
 |_=>Ξ
theorem wN {s:Sr}(h:wM s=Θ){τ:Ev}{k:List D->Prop}(q:Ip (ko cl s τ) k):Ip (Bm cl s τ) fun p=>k (iV p.1 p.2):=by
 cases s with
 |JW n=>
  refine Ip.mk ((Ip.Ii (show Ip (Ii (Iu cl n τ) fun|.int i=>Iy (lL i) (.ok (iV 0 i))|_=>Ji) k from q)).mono fun d hd=>?_)
  induction d using zD with
  |int i=>obtain⟨gd,hd⟩:=Ip.Iy hd;show Ip (Iy (lL i) (.ok (0,i))) _;unfold Iy;rw[e_ gd];exact hd.ok
  |_=>exact hd.no.elim
 |_=>exists h
theorem HM:∀(s:Sr) (X:Cx) (G:Gm) (e tg:Expr),JL Z CX cl X G->jv Z G s e=Θ->wM s=Θ->PI X tg e (YO X.K (kD s) (Bm cl s)):=by
 intro s X G e tg g h hr;cases s with
 |JW n=>
  induction e using zE with
  |Call fn args KN pos=>
   induction fn using zE with
   |Name x p=>
    match args,KN,h with
    |[a],[],h=>
     have h':(x == "range"&&G.gl.contains 15&&notStar a&&Jk Z G n a)=Θ:=h;simp only[j_]at h';have e1:x = "range":=h_ h'.1.1.1;subst e1;obtain⟨k1,k2,_,_⟩:=jF g (show iz[15]? = Δ ("range" : Str) from rfl) h'.1.1.2;refine ou (nE k1 k2 (ij (snd n X G a g h'.2).1 iW (gE h'.1.2 _ _)) (gE h'.1.2 _ _)) fun σ H Q ⟨S,τ,hs,q⟩=>?_;refine gX (.refl _) hs (Ip.Ii q) fun x v H1 e1 _ m1 q1=>?_
     induction x using zD with
     |int i=>cases m1.Jv;obtain⟨gd,q1⟩:=Ip.Iy q1;have Px : -(2 ^ 62)<=i/\i < 2 ^ 62:=u_ gd;refine⟨i,rfl,Px.1,Px.2,?_⟩;have:=q1.ok _ e1;rw[show(0,i).2 - (0,i).1=i from Int.sub_zero i]at this;exact this
     |_=>exact q1.no.elim
    |[],_,h=>exists h
    |[_],_::_,h=>exists h
    |_::_::_,_,h=>exists h
   |_=>exists h
  |_=>exists h
 |_=>cases hr
theorem Ih (g:JL Z CX cl X G){t it:Expr}{x:List Stmt}{pos:Pos}{T:Tg}{s:Sr}{a:List IS}(Rl:(G.cm=Θ/\G.rs=Θ)/\jr G T t=Θ)(Ke:jv Z G s it=Θ/\lP s t=Θ)(ha:Mz X x (RS X.K G.io (iy cl a))):PS X (.For t it x [] pos) (RS X.K G.io (Lf cl (.Jz T s a))):=by
 have hT:=Rl.2;have hs:=Ke.1;by_cases hr:wM s=Θ
 ·refine jc (u3 (g.own Rl.1.2) (g.calm Rl.1.1) (HM s X G it t g hs hr) (Pt g T t hT) ha (fun x=>jo hs X.env x)) fun Dn σ H ⟨B,F,τ,f,m,q⟩=>?_;have q0:Ip (Ii (rE cl s τ) fun p=>forM (fun x τ=>Ii (jf T x τ) fun Jl=>iy cl a Jl) p.1 p.2) (Fk X.K B Dn):=q;have base:Ip (ko cl s τ) fun its=>Ip (forM (fun x τ=>Ii (jf T x τ) fun Jl=>iy cl a Jl) its τ) (Fk X.K B Dn):=by
   cases s with
   |JW u=>exact(Ip.Ii (show Ip (Ii (ko cl (.JW u) τ) fun its=>.ok (its,τ)) _ from Ip.Ii q0)).mono fun its h=>h.ok
   |_=>cases hr
  exact⟨fun _=>True,τ,iS m.Kc,(wN hr base).mono fun p hp H1 e1=>qC (kM T t hT) (m.grow e1) (.M1 p.1 p.2) (by rw[Al];exact hp)⟩
 ·refine jc (u3 (g.own Rl.1.2) (g.calm Rl.1.1) (Ah s X G it t g hs Ke.2) (Pt g T t hT) ha (fun x=>jo hs X.env x)) fun Dn σ H ⟨B,F,τ,f,m,q⟩=>?_;have q0:Ip (Ii (rE cl s τ) fun p=>forM (fun x τ=>Ii (jf T x τ) fun Jl=>iy cl a Jl) p.1 p.2) (Fk X.K B Dn):=q;have q1:=Ip.Ii q0;have UM:rE cl s τ=(Ii (ko cl s τ) fun its=>.ok (Jj its,Jw (kD s) τ)):=by
   cases s with
   |val u=>rfl
   |zip u v=>rfl
   |MH u=>rfl
   |_=>exact absurd rfl hr
  rw[UM]at q1;obtain⟨F1,gg,b1,b2,b3,b4,b5,b6⟩:=j6 (kD s) m.JB m.Kc m.J7;refine Fy (.refl _) b6 (Ip.Ii q1) fun its J H1 e1 _ w1 hk=>?_;obtain⟨c1,c2,c3⟩:=grow (fun _=>True) b1 b2 e1;have m2:J4 X.K B (fun a=>F1 a∨(True/\H a=Φ/\H1 a≠Φ)) H1 σ (Jw (kD s) τ) gg:=m.K3 (b4.trans c3 (fun x hx=>.inl (b5 x hx))) c1 c2 b3 fun a ha=>.inl (b5 a ha);exact qC (kM T t hT) m2 (w1.step (fun a xs h r=>⟨h.elim (fun z=>.inl z) fun z=>.inr ⟨trivial,z,r.some⟩,r⟩) fun a xs h=>h) hk.ok
mutual
theorem YQ:∀(a:IS) (X:Cx) (G:Gm) (s:Stmt),JL Z CX cl X G->Aj Z G a s=Θ->PS X s (RS X.K G.io (Lf cl a))
 |.asg tg e,X,G,s,g,h=>by
  induction s using zS with
  |Assign ts v pos=>
   match ts,h with
   |[t],h=>have h':(jr G tg t&&Jk Z G e v&&(isName t||(isTup t&&notTuple v)))=Θ:=h;simp only[j_]at h';exact Ic g h'.1.1 h'.1.2 h'.2
   |[],h=>exists h
   |_::_::_,h=>exists h
  |_=>exists h
 |.Mq i k e,X,G,s,g,h=>by
  induction s using zS with
  |Assign ts v pos=>
   cases ts with
   |nil=>exists h
   |cons t ts=>
    cases ts with
    |cons _ _=>cases t<;>first|exact eX h|cases h|(rename_i o _ _;cases o<;>cases h)
    |nil=>
     induction t using zE with
     |Subscript o s sp=>
      induction o using zE with
      |Name x p=>have h':(jE G i x&&iE s&&Jk Z G k s&&Jk Z G e v)=Θ:=h;simp only[j_]at h';exact HY g h'.1.1.1 h'.1.1.2 h'.1.2 h'.2
      |_=>exists h
     |_=>exists h
  |_=>exists h
 |.Ld i k e,X,G,s,g,h=>by
  induction s using zS with
  |Assign ts v pos=>
   cases ts with
   |nil=>exists h
   |cons t ts=>
    cases ts with
    |cons _ _=>cases t<;>first|exact eX h|cases h|(rename_i o _ _;cases o<;>cases h)
    |nil=>
     induction t using zE with
     |Subscript o s sp=>
      induction o using zE with
      |Name x p=>have h':(jE G i x&&iE s&&Jk Z G k s&&Jk Z G e v&&!(vars e).contains i)=Θ:=h;simp only[j_]at h';exact Kw g h'.1.1.1.1 h'.1.1.1.2 h'.1.1.2 h'.1.2 (by simpa using h'.2)
      |_=>exists h
     |_=>exists h
  |_=>exists h
 |.ext i e,X,G,s,g,h=>by
  induction s using zS with
  |Expr v pos=>
   induction v using zE with
   |Call fn args KN Jm=>
    induction fn using zE with
    |Attribute o name apos=>
     induction o using zE with
     |Name x p=>
      match args,KN,h with
      |[v],[],h=>have h':(jE G i x&&name == "extend"&&apos.endLine == Jm.line&&notStar v&&Jk Z G e v)=Θ:=h;simp only[j_]at h';have e1:name = "extend":=h_ h'.1.1.1.2;subst e1;exact LJ g h'.1.1.1.1 h'.1.1.2 h'.1.2 h'.2
      |[],_,h=>exists h
      |[_],_::_,h=>exists h
      |_::_::_,_,h=>exists h
     |_=>exists h
    |_=>exists h
   |_=>exists h
  |_=>exists h
 |.ins i k e,X,G,s,g,h=>by
  induction s using zS with
  |Expr v pos=>
   induction v using zE with
   |Call fn args KN Jm=>
    induction fn using zE with
    |Attribute o name apos=>
     induction o using zE with
     |Name x p=>
      match args,KN,h with
      |[s,v],[],h=>have h':(jE G i x&&name == "insert"&&apos.endLine == Jm.line&&(notStar s&&notStar v)&&Jk Z G k s&&Jk Z G e v)=Θ:=h;simp only[j_]at h';have e1:name = "insert":=h_ h'.1.1.1.1.2;subst e1;exact LL g h'.1.1.1.1.1 h'.1.1.1.2 h'.1.1.2.1 h'.1.1.2.2 h'.1.2 h'.2
      |[],_,h=>exists h
      |[_],_,h=>exists h
      |[_,_],_::_,h=>exists h
      |_::_::_::_,_,h=>exists h
     |_=>exists h
    |_=>exists h
   |_=>exists h
  |_=>exists h
 |.app i e,X,G,s,g,h=>by
  induction s using zS with
  |Expr v pos=>
   induction v using zE with
   |Call fn args KN Jm=>
    induction fn using zE with
    |Attribute o name apos=>
     induction o using zE with
     |Name x p=>
      match args,KN,h with
      |[v],[],h=>have h':(jE G i x&&name == "append"&&apos.endLine == Jm.line&&notStar v&&Jk Z G e v)=Θ:=h;simp only[j_]at h';have e1:name = "append":=h_ h'.1.1.1.2;subst e1;exact Ie g h'.1.1.1.1 h'.1.1.2 h'.1.2 h'.2
      |[],_,h=>exists h
      |[_],_::_,h=>exists h
      |_::_::_,_,h=>exists h
     |_=>exists h
    |_=>exists h
   |_=>exists h
  |_=>exists h
 |.exp e,X,G,s,g,h=>by
  induction s using zS with
  |Expr v pos=>
   have h':(oQ v&&Jk Z G e v)=Θ:=by induction v using zE<;>first|exact h|(rename_i c _ _;cases c<;>exact h)
   simp only[j_]at h';exact Ds g h'.1 h'.2
  |_=>exists h
 |.ret e,X,G,s,g,h=>by
  induction s using zS with
  |Return v pos=>
   cases v with
   |none=>exists h
   |some v=>exact Ig g h
  |_=>exists h
 |.JA t a b,X,G,s,g,h=>by
  induction s using zS with
  |If c x y pos=>have h':(Jk Z G t c&&jx Z G a x&&jx Z G b y)=Θ:=h;simp only[j_]at h';exact Im (snd t X G c g h'.1.1).2 (wO a X G x g h'.1.2) (wO b X G y g h'.2)
  |_=>exists h
 |.Jz tg s body,X,G,st,g,h=>by
  induction st using zS with
  |For t it b YR pos=>
   cases YR with
   |cons _ _=>exists h
   |nil=>have h':(((G.cm&&G.rs)&&jr G tg t)&&(jv Z G s it&&lP s t)&&jx Z G body b)=Θ:=h;simp only[j_]at h';exact Ih g h'.1.1 h'.1.2 (wO body X G b g h'.2)
  |_=>exists h
 |.brk,X,G,s,g,h=>by cases s<;>exists h
 |.cnt,X,G,s,g,h=>by cases s<;>exists h
 |.pass,X,G,s,g,h=>by cases s<;>exists h
theorem wO:∀(as:List IS) (X:Cx) (G:Gm) (ss:List Stmt),JL Z CX cl X G->jx Z G as ss=Θ->Mz X ss (RS X.K G.io (iy cl as))
 |[],X,G,ss,g,h=>by
  cases ss with
  |nil=>exact ot yV fun Dn σ H ⟨B,F,τ,f,m,q⟩=>q.ok _ _ _ _ m
  |cons _ _=>exists h
 |a::as,X,G,ss,g,h=>by
  cases ss with
  |nil=>induction a using zT<;>exists h
  |cons s ss=>
   cases WA:Bh a with
   |true=>
    cases a with
    |_=>cases WA
   |false=>
    have h':(Aj Z G a s&&jx Z G as ss)=Θ:=by rw[<- rM WA];exact h
    simp only[j_]at h';refine ot (uX (YQ a X G s g h'.1) (wO as X G ss g h'.2)) fun Dn σ H ⟨B,F,τ,f,m,q⟩=>?_;refine⟨B,F,τ,f,m,(Ip.Ii q).mono fun r hr=>?_⟩;cases r with
    |nx Jl=>exact fun Jp H' F' f' m'=>⟨B,F',Jl,f',m',hr⟩
    |ct Jl=>exact hr.ok
    |bk Jl=>exact hr.ok
    |rt d=>exact hr.ok
    |ri d ks es=>exact hr.ok
end
end
def YS (K:Frag){io:Option Nat}(B:Bs io)(g:Ev->Res Fl):TS:=fun Dn σ H=>∃F τ f,J4 K B F H σ τ f/\Ip (g τ) (Fk K B Dn)
def NN (P:Ε)(w:Β):KD:=fun _ _ _ _ _ _=>False
noncomputable def wQ (Z:Sg)(fn:Fn)(ps:List Str)(st:Stmt):Bool:=
 (gV st).kind == .function&&!(gV st).isCoroutine&&!(gV st).isGenerator&&decide (fn.G.N.Nodup)&&fn.G.N.take ps.length == ps
&&ps.all (fun x=>(gV st).names.lookup x == Δ .local||(gV st).names.lookup x == Δ .cell)&&(gV st).names.all (fun y=>y.2 != .free)
&&(List.range fn.G.N.length).all (fun i=>(fn.G.N[i]?).bind ((gV st).names.lookup ·) == fn.G.kd[i]?)
&&fn.G.N.all (fun x=>!(x == "__debug__")&&!(x == "__classdict__"))
&&fn.G.gl.all (fun n=>match Z.name n with|some x=>(gV st).names.lookup x == Δ .globalImplicit|none=>Ξ)
&&decide (ps.length=fn.np)
noncomputable def gQ (Z:Sg)(fn:Fn)(ps:List Str)(st:Stmt):Bool:=wQ Z fn ps st&&(!fn.io&&jx Z fn.G fn.body (i8 st))
structure OK (Z:Sg)(fn:Fn)(ps:List Str)(st:Stmt):Prop where
 sc:LB fn.G.N ps (gV st)
 kd:∀(i:Nat) (x:Str),fn.G.N[i]? = Δ x->(gV st).names.lookup x=fn.G.kd[i]?
 Oc:∀x∈fn.G.N,(x == ("__debug__" : Str))=Ξ/\(x == ("__classdict__" : Str))=Ξ
 gl:∀n∈fn.G.gl,∀x,Z.name n=Δ x->(gV st).names.lookup x=Δ .globalImplicit
 np:ps.length=fn.np
structure MJ (Z:Sg)(fn:Fn)(ps:List Str)(st:Stmt):Prop extends OK Z fn ps st where
 pl:fn.io=Ξ
 body:jx Z fn.G fn.body (i8 st)=Θ
theorem wR {Z:Sg}{fn:Fn}{ps:List Str}{st:Stmt}(h:wQ Z fn ps st=Θ):OK Z fn ps st:=by
 unfold wQ at h;simp only[j_]at h;obtain⟨⟨⟨⟨⟨⟨⟨⟨⟨⟨h1,h2⟩,h3⟩,h4⟩,h5⟩,h6⟩,h7⟩,h8⟩,h9⟩,OC⟩,P'⟩:=h;rw[O_]at h6 h7 h8 h9 OC;refine⟨⟨h_ h1,by simpa using h2,by simpa using h3,u_ h4,h_ h5,fun x hx=>?_,fun y hy=>by simpa using h7 y hy⟩,fun i x hx=>?_,fun x hx=>by simpa using h9 x hx,fun n hn x hx=>?_,u_ P'⟩
 ·have:=h6 x hx;rw[aae]at this;exact this.elim (fun z=>.inl (h_ z)) fun z=>.inr (h_ z)
 ·have JT:i < fn.G.N.length:=(E_.mp hx).1;have:=h_ (h8 i (aai.mpr JT));rw[hx]at this;exact this
 ·have:=OC n hn;rw[hx]at this;exact h_ this
theorem qD {Z:Sg}{fn:Fn}{ps:List Str}{st:Stmt}(h:gQ Z fn ps st=Θ):MJ Z fn ps st:=by unfold gQ at h;rw[j_,j_]at h;exact⟨wR h.1,by simpa using h.2.1,h.2.2⟩
structure Jt (K:Frag)(mg:Str->Option Ψ)(Z:Sg)(T:Tb)(f:Nat)(x:Str):Prop where
 ex:∃(fn:Fn) (st:Stmt) (fa:Ω) (fd:Ο) (ps:List Str),T f=Δ fn/\P7 K x x st fa fd/\mg x=Δ (.ref fa)/\Binds K fd ps []/\MJ Z fn ps st
section
variable {P:Ε}{w:Β}{K:Frag}{mg:Str->Option Ψ}{base:Heap}{Z:Sg}{T:Tb}
structure MK (K:Frag)(mg:Str->Option Ψ)(Z:Sg)(T:Tb):Prop where
 Pp:∀n x,Z.name n=Δ x->x≠"__name__"/\(x == ("__debug__" : Str))=Ξ
 blt:∀(n:Nat) (x:Str),iz[n]? = Δ x->mg x=Φ
 cst:∀n d x,(n,d)∈Z.Qg->Z.name n=Δ x->∃u v,mg x=Δ u/\RelV v u/\∀S H,Iq K S H v d
 fns:∀f∈Z.fns,∀x,Z.name f=Δ x->Jt K mg Z T f x
 WB:∀f∈Z.pl,∀fn,T f=Δ fn->fn.G.cm=Ξ
theorem nY {F:Ω->Prop}{H:Hp}:∀ {vs:List V}{ds:List D} (n:Nat),Io K F H vs ds->JF K F H (vs.map Δ++Τ n Φ) ((Jj ds).map Δ++Τ n Φ) []
 |[],[],n,.nil=>by
  induction n with
  |zero=>exact .nil
  |succ n ih=>exact .none ih
 |v::vs,d::ds,n,.cons h1 h2=>.some (f:=[]) h1.frozen (nY n h2)
structure Rm (n:Nat)(A:Ι):Prop where
 dp:A.depth+3*(n+2)+5 < recursionLimit
 un:A.units+16*(n+2)+200 < cLine
theorem Rm.room {n:Nat}{A:Ι}(r:Rm n A)(hn:n < 900)(h:A.handled=Φ):Kp (n+2) A:=⟨fun _=>h,by have:=r.dp;rw[Nat.mod_eq_of_lt (by omega)];exact this,by have:=r.un;rw[Nat.mod_eq_of_lt (by omega)];exact this⟩
theorem Rm.OL {n:Nat}{A:Ι}(r:Rm n A)(hn:n < 900):Kp (1002+n) A:=⟨fun z=>by omega,by have:=r.dp;rw[show(1002+n) % 1000=n+2 by omega];exact this,by have:=r.un;rw[show(1002+n) % 1000=n+2 by omega];exact this⟩
theorem Rm.of {n k:Nat}{A:Ι}(r:Kp k A)(h:k % 1000=n+2):Rm n A:=⟨by have:=r.dp;rw[h]at this;exact this,by have:=r.un;rw[h]at this;exact this⟩
theorem YT {CX:KD}{cl:Nat->List D->Res D}{X:Cx}{G:Gm}(g:JL Z CX cl X G)(B:Bs G.io){as:List IS}{ss:List Stmt}(h:jx Z G as ss=Θ):Mz X ss (YS X.K B (iy cl as)):=
 ot (wO as X G ss g h) fun Dn σ H ⟨F,τ,f,m,q⟩=>⟨B,F,τ,f,m,q⟩
theorem oR (t:MK K mg Z T){n k:Nat}{f:Nat}{fn:Fn}{x:Str}{st:Stmt}{fa:Ω}{fd:Ο}{ps:List Str}(hk:k % 1000=n+2)(hn:n < 900)(h1:T f=Δ fn)(h2:P7 K x x st fa fd)(h5:MJ Z fn ps st)(hp:k < 1000∨fn.G.cm=Ξ)
  (ih:∀(A:Ι),Rm n A->∀f∈Z.fns,(A.handled=Φ∨f∈Z.pl)->∀x,Z.name f=Δ x->Uo P w K mg base (NN P w) A (cM T n) f x) :
  K7 P w K mg base (NN P w) (k+1) fa fd ps (Po K (cM T (n+1)) f ps):=by
 have Ny:∀ds,cM T (n+1) f ds=lO (cM T n) fn ds:=fun ds=>by show(match T f with|some fn=>(match fn.io with|false=>lO (cM T n) fn ds|true=>rF (cM T n) fn ds)|none=>Ji)=_;rw[h1];show(match fn.io with|false=>lO (cM T n) fn ds|true=>rF (cM T n) fn ds)=_;rw[h5.pl]
 obtain⟨oc,od,kV,doc,pm,an,Lx,ct,Oz,rfl,lk,NV⟩:=h2.ex;refine EI lk NV h5.sc (by omega) (fun vs H Q E h=>h.1) fun A outer s H vs Q E hr M5=>?_;obtain⟨hl,lt,F,ds,JB,m,q⟩:=M5;have NL:fn.G.cm=Θ->A.handled=Φ:=fun z=>hp.elim (fun h=>hr.hd h) fun h=>by rw[h]at z;cases z
 refine⟨_,YT (Z:=Z) (CX:=NN P w) (cl:=cM T n) (G:=fn.G) ?_ ⟨F,H,fun _ _=>False,fun _ _=>False,Φ⟩ h5.body,?_⟩
 ·refine⟨rfl,h5.sc.nd,fun z=>by show A.handled.isNone=Θ;rw[NL z];rfl,h5.sc.kind,?_,fun _=>PassesOwn.leaving,fun i y hy=>h5.kd i y hy,fun i y hy=>h5.Oc y (aao hy),fun m hm y hy=>h5.gl m hm y hy,t.Pp,fun _ _=>rfl,t.blt,t.cst,?_,⟨fun _ _ _=>False,fun pins σ H s e s' _ h=>h.elim⟩,fun outer H s E e s' x fr h=>h,fun H outer s e s' h=>h⟩
  ·have:=hr.un;show(A.deeper _).units+42 < cLine;omega
  ·exact fun f' SO hc x' KP=>ih _ (Rm.of hr hk) f' SO (hc.elim (fun z=>.inl (NL z)) .inr) x' KP
 ·rw[Ny]at q;obtain⟨gd,q⟩:=Ip.Iy q;have Px:(Jj ds).length=fn.np:=u_ gd;have MO:fn.G.N.length - vs.length=fn.G.N.length - fn.np:=by rw[m.length,<- jm ds,Px]
  refine⟨F,(Jj ds).map Δ++Τ (fn.G.N.length - fn.np) Φ,[],⟨JB,?_,List.nodup_nil,.refl _,fun a ha=>absurd ha (by simp),fun a h=>h,fun a h=>.inl h,fun a xs h=>h.elim,fun a xs h=>h.elim,fun _ _ _ z=>by cases z⟩,(Ip.Ii q).mono fun r hr=>?_⟩
  ·show JF K F H (start fn.G.N vs) _ [];unfold start;rw[MO];exact nY _ m
  ·cases r with
   |nx Jl=>exact fun Jp H' F' f' m'=>hr.ok .Iw H' F' [] ⟨m'.JB,m'.same,.Iw,List.nodup_nil,fun a ha=>absurd ha (by simp),m'.LI,m'.out⟩
   |rt d=>exact fun v H' F' fv o=>hr.ok v H' F' fv o
   |bk Jl=>exact hr.no.elim
   |ct Jl=>exact hr.no.elim
   |ri d ks es=>exact hr.no.elim
theorem sT (t:MK K mg Z T):∀(n:Nat),n < 900->∀(A:Ι),Rm n A->∀f∈Z.fns,(A.handled=Φ∨f∈Z.pl)->∀x,Z.name f=Δ x->Uo P w K mg base (NN P w) A (cM T n) f x
 |0,h9,A,hr,f,hf,hc,x,hx=>by obtain⟨fn,st,fa,fd,ps,h1,h2,h3,h4,h5⟩:=(t.fns f hf x hx).ex;have no:∀vs H Q E,¬Po K (cM T 0) f ps vs H Q E:=fun vs H Q E ⟨_,_,F,ds,_,_,h⟩=>h;exact⟨1002+0,fa,fd,ps,h3,h2.kp,h4,⟨fun vs H Q E h=>h.1,fun A outer s H args us vs Q E _ _ _ _ h=>(no _ _ _ _ h).elim⟩,hr.OL h9,fun ds k h=>h.elim⟩
 |n+1,h9,A,hr,f,hf,hc,x,hx=>by
  have ih:=fun A=>sT t n (by omega) A;obtain⟨fn,st,fa,fd,ps,h1,h2,h3,h4,h5⟩:=(t.fns f hf x hx).ex;have hlen:∀ds (k:D->Prop),Ip (cM T (n+1) f ds) k->ds.length=ps.length:=fun ds k h=>by
   have Ny:cM T (n+1) f ds=lO (cM T n) fn ds:=by show(match T f with|some fn=>(match fn.io with|false=>lO (cM T n) fn ds|true=>rF (cM T n) fn ds)|none=>Ji)=_;rw[h1];show(match fn.io with|false=>lO (cM T n) fn ds|true=>rF (cM T n) fn ds)=_;rw[h5.pl]
   rw[Ny]at h;obtain⟨gd,_⟩:=Ip.Iy h;rw[u_ gd,h5.np]
  by_cases OX:f∈Z.pl
  ·exact⟨1002+n+1,fa,fd,ps,h3,h2.kp,h4,oR t (k:=1002+n) (n:=n) (by omega) (by omega) h1 h2 h5 (.inr (t.WB f OX fn h1)) ih,hr.OL h9,hlen⟩
  ·exact⟨n+2+1,fa,fd,ps,h3,h2.kp,h4,oR t (k:=n+2) (n:=n) (by omega) (by omega) h1 h2 h5 (.inl (by omega)) ih,hr.room h9 (hc.elim id fun z=>absurd z OX),hlen⟩
end
section
variable {P:Ε}{w:Β}{K:Frag}{mg:Str->Option Ψ}{base:Heap}{Z:Sg}{T:Tb}
def Qp (K:Frag)(cl:Nat->List D->Res D)(f:Nat)(ps:List Str):Sp:=fun vs H Q E=>vs.length=ps.length/\∃F ds,LO F H/\Io K F H vs ds/\
 Ip (cl f (Jj ds)) fun d=>∀v H' F' fv,Out K F H F' H' v d fv->Q v H'
theorem wU {cl:Nat->List D->Res D}{k f:Nat}{fa:Ω}{fd:Ο}{ps:List Str}(F:K7 P w K mg base (NN P w) k fa fd ps (Po K cl f ps)):K7 P w K mg base (NN P w) k fa fd ps (Qp K cl f ps):=by
 refine⟨fun vs H Q E h=>h.1,fun A outer s H args us vs Q E hr e0 bd r M5=>?_⟩;obtain⟨hl,Fc,ds,JB,m,q⟩:=M5;have e1:MP P w K mg base A outer s (ie s.heap H):=⟨e0.frames,e0.mod,fun b o e=>⟨(e0.bs b o e).1,jn (e0.bs b o e).2⟩,e0.NR,e0.KU,fun b hb=>jn (e0.ND b hb),wg e0.Jq,e0.bare⟩
 have hq:Ip (cl f (Jj ds)) fun d=>∀v H' F' fv,Out K Fc H F' H' v d fv->Q v H':=by
  cases z:cl f (Jj ds) with
  |ok d=>rw[z]at q;exact q
  |error er=>rw[z]at q;cases er;exact q.no.elim
 have hs:Po K cl f ps vs (ie s.heap H) (fun v H'=>L4 s.heap (ie s.heap H) H'->Q v (kI H H')) E:=
  ⟨hl,we _ _,_,ds,fun a h=>h.2,sL e0.Jq m,hq.mono fun d hd v H' F' fv o p=>hd v _ _ fv (sM e0.Jq JB p o)⟩
 refine codeAny_mono (F.run A outer s (ie s.heap H) args us vs _ E hr e1 bd r hs) fun r' s' hq=>?_;cases r' with
 |error e=>exact hq
 |ok fl=>
  cases fl with
  |ret u=>obtain⟨v,H',a1,a2,a3,a4,a5,a6⟩:=hq;exact⟨v,kI H H',a1,a2,wo e0.Jq a3,wm e0.Jq a4 (lV a3) (fs:=Lk outer) (fun b o _ e n f=>a3.keep b o e n f (by simp)) e0.ND,a5,a6 (lV a3)⟩
  |next=>exact hq
  |brk=>exact hq
  |cont=>exact hq
theorem Dt (t:MK K mg Z T)(n:Nat)(hn:n < 900){f:Nat}{fn:Fn}{x:Str}{st:Stmt}{fa:Ω}{fd:Ο}{ps:List Str}(h1:T f=Δ fn)(h2:P7 K x x st fa fd)(h5:MJ Z fn ps st):K7 P w K mg base (NN P w) (n+2+1) fa fd ps (Qp K (cM T (n+1)) f ps):=
 wU (oR t (k:=n+2) (n:=n) (by omega) hn h1 h2 h5 (.inl (by omega)) (sT t n hn))
theorem Du {f n:Nat}{x:Str}{a:Ω}{H:Hp}{ns:List Int}(hS:Ls K H a (ns.map V.int))(hl:cM T n f [.lst Ξ (ns.map .int)]=.ok (.bl Θ)) :
  Qp K (cM T n) f [x] [.ref a] H (fun v _=>v=.bl Θ) fun _ _ _=>False:=by
 have m:Io K (fun a=>H a≠Φ) H [.ref a] [.lst Ξ (ns.map .int)]:=by
  refine .cons ?_ .nil;rcases hS with hS|hS
  ·exact .lst hS.some hS (Io.ofInts ns)
  ·exact .lstK hS (Io.ofInts ns)
 refine⟨rfl,fun a=>H a≠Φ,[.lst Ξ (ns.map .int)],fun a h=>h,m,?_⟩;have he:Jj [.lst Ξ (ns.map .int)]=[D.lst Ξ (ns.map .int)]:=by rw[Jj,Jj,er,g7,Y_];rfl
 rw[he,hl];intro v H' F' fv o;cases o.rep;rfl
theorem wV {l:PySem.W.OpenLaw}{q:Ε}{loose:List Str}{XP:(Str->Option Ψ)->Heap->Prop}{YP:Β->Heap->Prop}{d:DefRec}{K:Params->Frag}{T:Tb}{n f:Nat}{x:Str}(hn:l.most=Δ 63)(QK:d.params.defaults=[])(hr:Kp (n+2+1) callerA)
  (hY:∀(w:Β) (h:Heap),YP w h->(K w.params).In h)
  (F:∀(w:Β) (mg:Str->Option Ψ) (fa:Ω) (h:Heap),(K w.params).In h->h.Ns Η mg->mg d.name=Δ (.ref fa)->
   ∃fd:Ο,(∀(s:Α) (u:Ψ),BindsTo s fd ⟨[u],[]⟩ [(x,u)])/\∀base:Heap,(K w.params).In base->base.Ns Η mg->K7 l.prog w (K w.params) mg base (NN l.prog w) (n+2+1) fa fd [x] (Qp (K w.params) (cM T (n+1)) f [x]))
  (hl:∀ns:List Int,ns.length<=63->cM T (n+1) f [.lst Ξ (ns.map .int)]=.ok (.bl Θ)) :
  PySem.W.WalkO q loose XP YP l.row.toRowW d [] (fun f vs=>PySem.call f vs):=
 L2.zh (n:=63) (k:=n+2+1) (x:=x) (CX:=fun w=>NN l.prog w) (sp:=fun w=>Qp (K w.params) (cM T (n+1)) f [x]) hn (by decide) QK hr hY F (fun w H a ns h1 _ hS=>Du hS (hl ns h1)) fun _ _ _ _ _ z=>z
end
namespace Ev
section
variable {α β:Type}{cl:Nat->List D->Res D}{τ:Ev}{mv:Bool}
theorem cJ {a:α}{f:α->Res β}:Ii (.ok a) f=f a:=rfl
theorem cN {x:Res α}:Iy Θ x=x:=rfl
theorem IA {d:D}:Iu cl (.c d) τ=.ok d:=rfl
theorem IB {i:Nat}:Iu cl (.v i) τ=(match gF τ i with|some d=>.ok d|none=>Ji):=rfl
noncomputable def FH (cl:Nat->List D->Res D)(op:Nn)(b:IR)(τ:Ev)(x:D):Res D:=Ii (Iu cl b τ) (Le op x)
theorem aV {op:Nn}{b:IR}{x:D}:FH cl op b τ x=Ii (Iu cl b τ) (Le op x):=rfl
theorem cO {op:Nn}{a b:IR}:Iu cl (.bin op a b) τ=Ii (Iu cl a τ) (FH cl op b τ):=rfl
noncomputable def FI:D->Res D
 |.int i=>.ok (.int (-i))
 |_=>Ji
theorem cP {a:IR}:Iu cl (.neg a) τ=Ii (Iu cl a τ) FI:=rfl
theorem aW {i:Int}:FI (.int i)=.ok (.int (-i)):=rfl
noncomputable def UN (r:Bool):Res D:=.ok (.bl r)
theorem cQ {r:Bool}:UN r=.ok (.bl r):=rfl
noncomputable def wW (op:MG)(x y:D):Res D:=Ii (Kl op x y) UN
theorem aB {op:MG}{x y:D}:wW op x y=Ii (Kl op x y) UN:=rfl
noncomputable def FJ (cl:Nat->List D->Res D)(op:MG)(b:IR)(τ:Ev)(x:D):Res D:=Ii (Iu cl b τ) (wW op x)
theorem aX {op:MG}{b:IR}{x:D}:FJ cl op b τ x=Ii (Iu cl b τ) (wW op x):=rfl
theorem cR {op:MG}{a b:IR}:Iu cl (.cmp op a b) τ=Ii (Iu cl a τ) (FJ cl op b τ):=rfl
noncomputable def wX (cl:Nat->List D->Res D)(b:IR)(τ:Ev)(x:D)(r:Bool):Res D:=if r=Θ then Iu cl b τ else .ok x
theorem aC {b:IR}{x:D}{r:Bool}:wX cl b τ x r=if r=Θ then Iu cl b τ else .ok x:=rfl
noncomputable def FK (cl:Nat->List D->Res D)(b:IR)(τ:Ev)(x:D):Res D:=Ii (g8 x) (wX cl b τ x)
theorem aY {b:IR}{x:D}:FK cl b τ x=Ii (g8 x) (wX cl b τ x):=rfl
theorem cU {a b:IR}:Iu cl (.Js a b) τ=Ii (Iu cl a τ) (FK cl b τ):=rfl
noncomputable def Dv (cl:Nat->List D->Res D)(b:IR)(τ:Ev)(x:D)(r:Bool):Res D:=if r=Θ then .ok x else Iu cl b τ
theorem aZ {b:IR}{x:D}{r:Bool}:Dv cl b τ x r=if r=Θ then .ok x else Iu cl b τ:=rfl
noncomputable def WC (cl:Nat->List D->Res D)(b:IR)(τ:Ev)(x:D):Res D:=Ii (g8 x) (Dv cl b τ x)
theorem cV {b:IR}{x:D}:WC cl b τ x=Ii (g8 x) (Dv cl b τ x):=rfl
theorem eZ {a b:IR}:Iu cl (.LN a b) τ=Ii (Iu cl a τ) (WC cl b τ):=rfl
noncomputable def wY (r:Bool):Res D:=.ok (.bl !r)
theorem aD {r:Bool}:wY r=.ok (.bl !r):=rfl
noncomputable def FL (x:D):Res D:=Ii (g8 x) wY
theorem ba {x:D}:FL x=Ii (g8 x) wY:=rfl
theorem cW {a:IR}:Iu cl (.KJ a) τ=Ii (Iu cl a τ) FL:=rfl
noncomputable def tupK (ds:List D):Res D:=Iy (iu ds.length) (.ok (.tup ds))
theorem bb {ds:List D}:tupK ds=Iy (iu ds.length) (.ok (.tup ds)):=rfl
theorem cX {es:List IR}:Iu cl (.tup es) τ=Ii (iK cl es τ) tupK:=rfl
noncomputable def lstK (ds:List D):Res D:=Iy (iu ds.length) (.ok (.lst Θ ds))
theorem bc {ds:List D}:lstK ds=Iy (iu ds.length) (.ok (.lst Θ ds)):=rfl
theorem cY {es:List IR}:Iu cl (.lst es) τ=Ii (iK cl es τ) lstK:=rfl
noncomputable def FN (cl:Nat->List D->Res D)(i:IR)(τ:Ev)(x:D):Res D:=Ii (Iu cl i τ) (iq x)
theorem bg {i:IR}{x:D}:FN cl i τ x=Ii (Iu cl i τ) (iq x):=rfl
theorem cZ {a i:IR}:Iu cl (.idx a i) τ=Ii (Iu cl a τ) (FN cl i τ):=rfl
noncomputable def Dx (cl:Nat->List D->Res D)(hi:Option IR)(τ:Ev)(x:D)(l:Option Int):Res D:=Ii (oE cl hi τ) (qg x l)
theorem bh {hi:Option IR}{x:D}{l:Option Int}:Dx cl hi τ x l=Ii (oE cl hi τ) (qg x l):=rfl
noncomputable def WD (cl:Nat->List D->Res D)(lo hi:Option IR)(τ:Ev)(x:D):Res D:=Ii (oE cl lo τ) (Dx cl hi τ x)
theorem c9 {lo hi:Option IR}{x:D}:WD cl lo hi τ x=Ii (oE cl lo τ) (Dx cl hi τ x):=rfl
theorem e9 {a:IR}{lo hi:Option IR}:Iu cl (.sl a lo hi) τ=Ii (Iu cl a τ) (WD cl lo hi τ):=rfl
noncomputable def Bn (cl:Nat->List D->Res D)(f:Nat)(ds:List D):Res D:=cl f (Jj ds)
theorem aE {f:Nat}{ds:List D}:Bn cl f ds=cl f (Jj ds):=rfl
theorem bj {f:Nat}{es:List IR}:Iu cl (.call f es) τ=Ii (iK cl es τ) (Bn cl f):=rfl
theorem ff {f:Bi}{es:List IR}:Iu cl (.bi f es) τ=Ii (iK cl es τ) (jy f):=rfl
noncomputable def FO (k:Kd)(x:D):Res D:=Iy (mI x) (.ok (.bl (jj k x)))
theorem bo {k:Kd}{x:D}:FO k x=Iy (mI x) (.ok (.bl (jj k x))):=rfl
theorem fg {i:Int}:mI (.int i)=Θ:=rfl
theorem fq {x:Str}:mI (.str x)=Θ:=rfl
theorem ft {ds:List D}:mI (.tup ds)=Θ:=rfl
theorem fw {o:Bool}{ds:List D}:mI (.lst o ds)=Θ:=rfl
theorem de {a:IR}:Iu cl (.NK a) τ=Ii (Iu cl a τ) zL:=rfl
noncomputable def nt (b:Bool)(x y:D):Res D:=CW b x y
noncomputable def FP (cl:Nat->List D->Res D)(b:Bool)(d:IR)(τ:Ev)(x:D):Res D:=Ii (Iu cl d τ) (nt b x)
theorem bp {b:Bool}{d:IR}{x:D}:FP cl b d τ x=Ii (Iu cl d τ) (nt b x):=rfl
theorem dg {b:Bool}{a d:IR}:Iu cl (.Nr b a d) τ=Ii (Iu cl a τ) (FP cl b d τ):=rfl
noncomputable def Dy (n:Bool)(y x:D):Res D:=qh n x y
theorem bq {n o:Bool}{x:Str}{ks:List Key}{ds:List D}:Dy n (.str x) (.Ju o ks ds)=.ok (.bl (n != (look ks ds (.inr x)).isSome)):=rfl
noncomputable def FQ (cl:Nat->List D->Res D)(n:Bool)(a:IR)(τ:Ev)(y:D):Res D:=Ii (Iu cl a τ) (Dy n y)
theorem br {n:Bool}{a:IR}{y:D}:FQ cl n a τ y=Ii (Iu cl a τ) (Dy n y):=rfl
theorem dh {n:Bool}{k a:IR}:Iu cl (.OD n k a) τ=Ii (Iu cl k τ) (FQ cl n a τ):=rfl
noncomputable def Am (x y z:D):Res D:=rB x y z
noncomputable def Dz (cl:Nat->List D->Res D)(e:IR)(τ:Ev)(x y:D):Res D:=Ii (Iu cl e τ) (Am x y)
theorem bt {e:IR}{x y:D}:Dz cl e τ x y=Ii (Iu cl e τ) (Am x y):=rfl
noncomputable def FR (cl:Nat->List D->Res D)(k e:IR)(τ:Ev)(x:D):Res D:=Iy (rA x) (Ii (Iu cl k τ) (Dz cl e τ x))
theorem bu {k e:IR}{o:Bool}{ks:List (List TK)}{ds:List D}:FR cl k e τ (.Jy o ks ds)=Ii (Iu cl k τ) (Dz cl e τ (.Jy o ks ds)):=rfl
theorem aF {a k e:IR}:Iu cl (.KR a k e) τ=Ii (Iu cl a τ) (FR cl k e τ):=rfl
theorem bw {a:IR}:Iu cl (.sset a) τ=Ii (Iu cl a τ) qi:=rfl
theorem dj {a:IR}{k:Kd}:Iu cl (.J2 a k) τ=Ii (Iu cl a τ) (FO k):=rfl
noncomputable def FT (cl:Nat->List D->Res D)(m:Mt)(es:List IR)(τ:Ev)(x:D):Res D:=Iy (km x) (Ii (iK cl es τ) (mK m x))
theorem bz {m:Mt}{es:List IR}{x:D}:FT cl m es τ x=Iy (km x) (Ii (iK cl es τ) (mK m x)):=rfl
theorem dn {m:Mt}{o:IR}{es:List IR}:Iu cl (.K0 m o es) τ=Ii (Iu cl o τ) (FT cl m es τ):=rfl
noncomputable def DA (ds:List D):Res D:=.ok (.lst Θ ds)
theorem bA {ds:List D}:DA ds=.ok (.lst Θ ds):=rfl
noncomputable def Bo (cl:Nat->List D->Res D)(G:Gm)(fr:List Nat)(T:Tg)(I:List IR)(E:IR)(τ:Ev)(its:List D):Res D:=Iy (i4 its.length) (Ii ((gM (gO cl T I E (Mu G fr τ)) its)) DA)
theorem aG {G:Gm}{fr:List Nat}{T:Tg}{I:List IR}{E:IR}{its:List D}:Bo cl G fr T I E τ its=Iy (i4 its.length) (Ii ((gM (gO cl T I E (Mu G fr τ)) its)) DA):=rfl
theorem bB {G:Gm}{fr:List Nat}{T:Tg}{s:Sr}{I:List IR}{E:IR}:Iu cl (.comp G fr T s I E) τ=Ii (ko cl s τ) (Bo cl G fr T I E τ):=rfl
theorem fx:iK cl [] τ=.ok []:=rfl
noncomputable def wZ (d:D)(ds:List D):Res (List D):=.ok (d::ds)
theorem aH {d:D}{ds:List D}:wZ d ds=.ok (d::ds):=rfl
noncomputable def WE (cl:Nat->List D->Res D)(es:List IR)(τ:Ev)(d:D):Res (List D):=Ii (iK cl es τ) (wZ d)
theorem dq {es:List IR}{d:D}:WE cl es τ d=Ii (iK cl es τ) (wZ d):=rfl
theorem fy {e:IR}{es:List IR}:iK cl (e::es) τ=Ii (Iu cl e τ) (WE cl es τ):=rfl
noncomputable def FU:D->Res (Option Int)
 |.int i=>.ok (Δ i)
 |_=>Ji
theorem bC {i:Int}:FU (.int i)=.ok (Δ i):=rfl
theorem fA:oE cl Φ τ=.ok Φ:=rfl
theorem fC {e:IR}:oE cl (Δ e) τ=Ii (Iu cl e τ) FU:=rfl
theorem fD:kn cl [] τ=.ok Θ:=rfl
noncomputable def WG (cl:Nat->List D->Res D)(es:List IR)(τ:Ev)(r:Bool):Res Bool:=if r=Θ then kn cl es τ else .ok Ξ
theorem du {es:List IR}{r:Bool}:WG cl es τ r=if r=Θ then kn cl es τ else .ok Ξ:=rfl
theorem fE {e:IR}{es:List IR}:kn cl (e::es) τ=Ii (Ii (Iu cl e τ) g8) (WG cl es τ):=rfl
noncomputable def Bp:D->Res (List D)
 |.int i=>Iy (lL i) (.ok (iV 0 i))
 |_=>Ji
theorem aI {i:Int}:Bp (.int i)=Iy (lL i) (.ok (iV 0 i)):=rfl
theorem fF {n:IR}:ko cl (.JW n) τ=Ii (Iu cl n τ) Bp:=rfl
noncomputable def FV (cl:Nat->List D->Res D)(τ:Ev)(b:IR)(x:D):Res (List D):=Ii (Iu cl b τ) fun y=>zM x y
noncomputable def w4 (x y:D):Res (List D):=zM x y
theorem bD {b:IR}{x:D}:FV cl τ b x=Ii (Iu cl b τ) (w4 x):=rfl
theorem ao {o o':Bool}{ds es:List D}:w4 (.lst o ds) (.lst o' es)=.ok (kc ds es):=rfl
theorem aq {ds es:List D}:w4 (.tup ds) (.tup es)=.ok (kc ds es):=rfl
theorem dv {a b:IR}:ko cl (.zip a b) τ=Ii (Iu cl a τ) (FV cl τ b):=rfl
theorem dw {e:IR}:ko cl (.val e) τ=Ii (Iu cl e τ) mL:=rfl
theorem fG {o:Bool}{ds:List D}:mL (.lst o ds)=.ok ds:=rfl
theorem fI {ds:List D}:mL (.tup ds)=.ok ds:=rfl
theorem IC {t:IR}:Q6 cl t τ=Ii (Iu cl t τ) g8:=rfl
theorem Iz {i:Nat}:JI cl mv (.v i) τ=(match gF τ i with|some d=>if mv=Θ then .ok (d,τ.set i Φ) else .ok (er d,τ.set i (Δ (er d)))|none=>Ji):=rfl
noncomputable def Bq (p:List D×Ev):Res (D×Ev):=Iy (iu p.1.length) (.ok (.tup p.1,p.2))
theorem aJ {p:List D×Ev}:Bq p=Iy (iu p.1.length) (.ok (.tup p.1,p.2)):=rfl
theorem Ij {es:List IR}:JI cl mv (.tup es) τ=Ii (nq cl mv es τ) Bq:=rfl
noncomputable def Br (p:List D×Ev):Res (D×Ev):=Iy (iu p.1.length) (.ok (.lst Θ p.1,p.2))
theorem aK {p:List D×Ev}:Br p=Iy (iu p.1.length) (.ok (.lst Θ p.1,p.2)):=rfl
theorem Ik {es:List IR}:JI cl mv (.lst es) τ=Ii (nq cl mv es τ) Br:=rfl
noncomputable def Bt (cl:Nat->List D->Res D)(mv:Bool)(a b:IR)(τ:Ev)(r:Bool):Res (D×Ev):=if r=Θ then JI cl mv a τ else JI cl mv b τ
theorem aL {a b:IR}{r:Bool}:Bt cl mv a b τ r=if r=Θ then JI cl mv a τ else JI cl mv b τ:=rfl
theorem Il {t a b:IR}:JI cl mv (.ite t a b) τ=Ii (Q6 cl t τ) (Bt cl mv a b τ):=rfl
noncomputable def oT (es:List IR)(τ:Ev)(d:D):Res (D×Ev):=if gH d=Θ then .ok (d,τ) else .ok (d,Jw (gR es) τ)
theorem ae {es:List IR}{d:D}:oT es τ d=if gH d=Θ then .ok (d,τ) else .ok (d,Jw (gR es) τ):=rfl
noncomputable def w8 (cl:Nat->List D->Res D)(f:Nat)(es:List IR)(τ:Ev)(ds:List D):Res (D×Ev):=Ii (cl f (Jj ds)) (oT es τ)
theorem ar {f:Nat}{es:List IR}{ds:List D}:w8 cl f es τ ds=Ii (cl f (Jj ds)) (oT es τ):=rfl
theorem H0 {f:Nat}{es:List IR}:JI cl mv (.call f es) τ=Ii (iK cl es τ) (w8 cl f es τ):=rfl
noncomputable def jH (e:IR)(τ:Ev)(d:D):Res (D×Ev):=.ok (ib e d τ)
theorem aM {e:IR}{d:D}:jH e τ d=.ok (ib e d τ):=rfl
theorem ID {d:D}:JI cl mv (.c d) τ=Ii (Iu cl (.c d) τ) (jH (.c d) τ):=rfl
theorem dy {op:Nn}{a b:IR}:JI cl mv (.bin op a b) τ=Ii (Iu cl (.bin op a b) τ) (jH (.bin op a b) τ):=rfl
theorem dz {op:MG}{a b:IR}:JI cl mv (.cmp op a b) τ=Ii (Iu cl (.cmp op a b) τ) (jH (.cmp op a b) τ):=rfl
theorem dA {a b:IR}:JI cl mv (.Js a b) τ=Ii (Iu cl (.Js a b) τ) (jH (.Js a b) τ):=rfl
theorem dB {a i:IR}:JI cl mv (.idx a i) τ=Ii (Iu cl (.idx a i) τ) (jH (.idx a i) τ):=rfl
theorem fJ {a:IR}{lo hi:Option IR}:JI cl mv (.sl a lo hi) τ=Ii (Iu cl (.sl a lo hi) τ) (jH (.sl a lo hi) τ):=rfl
theorem fK {f:Bi}{es:List IR}:JI cl mv (.bi f es) τ=Ii (Iu cl (.bi f es) τ) (jH (.bi f es) τ):=rfl
theorem Ia:JI cl mv .Lq τ=.ok (.Ju Θ [] [],τ):=rfl
theorem Ib:JI cl mv .Lc τ=.ok (.Jy Θ [] [],τ):=rfl
theorem dC {a:IR}:JI cl mv (.NK a) τ=Ii (Iu cl (.NK a) τ) (jH (.NK a) τ):=rfl
theorem dD {b:Bool}{a d:IR}:JI cl mv (.Nr b a d) τ=Ii (Iu cl (.Nr b a d) τ) (jH (.Nr b a d) τ):=rfl
theorem bE {a:IR}:JI cl mv (.sset a) τ=Ii (Iu cl (.sset a) τ) (jH (.sset a) τ):=rfl
theorem dE {m:Mt}{o:IR}{es:List IR}:JI cl mv (.K0 m o es) τ=Ii (Iu cl (.K0 m o es) τ) (jH (.K0 m o es) τ):=rfl
theorem bF {G:Gm}{fr:List Nat}{T:Tg}{s:Sr}{I:List IR}{E:IR}:JI cl mv (.comp G fr T s I E) τ=Ii (Iu cl (.comp G fr T s I E) τ) (jH (.comp G fr T s I E) τ):=rfl
theorem fM:nq cl mv [] τ=.ok ([],τ):=rfl
noncomputable def DB (d:D)(q:List D×Ev):Res (List D×Ev):=.ok (d::q.1,q.2)
theorem bG {d:D}{q:List D×Ev}:DB d q=.ok (d::q.1,q.2):=rfl
noncomputable def WH (cl:Nat->List D->Res D)(mv:Bool)(es:List IR)(p:D×Ev):Res (List D×Ev):=Ii (nq cl mv es p.2) (DB p.1)
theorem dF {es:List IR}{p:D×Ev}:WH cl mv es p=Ii (nq cl mv es p.2) (DB p.1):=rfl
theorem fN {e:IR}{es:List IR}:nq cl mv (e::es) τ=Ii (JI cl mv e τ) (WH cl mv es):=rfl
noncomputable def UO (d:D):Res (Option D):=.ok (Δ d)
theorem dG {d:D}:UO d=.ok (Δ d):=rfl
noncomputable def DC (cl:Nat->List D->Res D)(E:IR)(τ:Ev)(r:Bool):Res (Option D):=if r=Θ then Ii (Iu cl E τ) UO else .ok Φ
theorem bH {E:IR}{r:Bool}:DC cl E τ r=if r=Θ then Ii (Iu cl E τ) UO else .ok Φ:=rfl
noncomputable def WI (cl:Nat->List D->Res D)(I:List IR)(E:IR)(τ:Ev):Res (Option D):=Ii (kn cl I τ) (DC cl E τ)
theorem dH {I:List IR}{E:IR}:WI cl I E τ=Ii (kn cl I τ) (DC cl E τ):=rfl
theorem aN {T:Tg}{I:List IR}{E:IR}{x:D}:gO cl T I E τ x=Ii (jf T x τ) (WI cl I E):=rfl
theorem bI {G:Gm}{fr:List Nat}:Mu G fr τ=fr.map (gF τ)++Τ (G.N.length - fr.length) Φ:=rfl
theorem IE {e:IR}{i:Int}:ib e (.int i) τ=(.int i,τ):=rfl
theorem IF {e:IR}{x:Str}:ib e (.str x) τ=(.str x,τ):=rfl
theorem IG {e:IR}{b:Bool}:ib e (.bl b) τ=(.bl b,τ):=rfl
theorem IH {e:IR}:ib e .Iw τ=(.Iw,τ):=rfl
noncomputable def UP (Jl:Ev):Res Fl:=.ok (.nx Jl)
theorem dI:UP τ=.ok (.nx τ):=rfl
noncomputable def FW (tg:Tg)(p:D×Ev):Res Fl:=Ii (jf tg p.1 p.2) UP
theorem bJ {tg:Tg}{p:D×Ev}:FW tg p=Ii (jf tg p.1 p.2) UP:=rfl
theorem Ic {tg:Tg}{e:IR}:Lf cl (.asg tg e) τ=Ii (JI cl Ξ e τ) (FW tg):=rfl
noncomputable def DD (i:Nat)(p:D×Ev):Option D->Res Fl
 |some (.lst Θ ds)=>Iy (i4 ds.length) (.ok (.nx (p.2.set i (Δ (.lst Θ (ds++[p.1]))))))
 |_=>Ji
noncomputable def DE (i:Nat)(p:D×Ev):Res Fl:=DD i p (gF p.2 i)
theorem bK {i:Nat}{p:D×Ev}:DE i p=DD i p (gF p.2 i):=rfl
noncomputable def FX (cl:Nat->List D->Res D)(i:Nat)(e:IR)(τ:Ev):Option D->Res Fl
 |some (.lst _ _)=>Ii (JI cl Ξ e τ) (DE i)
 |_=>Ji
theorem bL {i:Nat}{e:IR}{o:Bool}{ds:List D}:FX cl i e τ (Δ (.lst o ds))=Ii (JI cl Ξ e τ) (DE i):=rfl
theorem bM {i:Nat}{p:D×Ev}{ds:List D}:DD i p (Δ (.lst Θ ds))=Iy (i4 ds.length) (.ok (.nx (p.2.set i (Δ (.lst Θ (ds++[p.1])))))):=rfl
noncomputable def An (i:Nat)(Jl:Ev)(es:List D):Option D->Res Fl
 |some (.lst Θ ds)=>Iy (iu (ds.length+es.length)) (.ok (.nx (Jl.set i (Δ (.lst Θ (ds++es))))))
 |_=>Ji
theorem bN {i:Nat}{Jl:Ev}{es ds:List D}:An i Jl es (Δ (.lst Θ ds))=Iy (iu (ds.length+es.length)) (.ok (.nx (Jl.set i (Δ (.lst Θ (ds++es)))))):=rfl
noncomputable def DF (i:Nat)(Jl:Ev):D->Res Fl
 |.lst _ es=>An i Jl es (gF Jl i)
 |_=>Ji
theorem bO {i:Nat}{Jl:Ev}{o:Bool}{es:List D}:DF i Jl (.lst o es)=An i Jl es (gF Jl i):=rfl
noncomputable def DG (i:Nat)(p:D×Ev):Res Fl:=DF i p.2 p.1
theorem bP {i:Nat}{d:D}:DG i (d,τ)=DF i τ d:=rfl
noncomputable def FY (cl:Nat->List D->Res D)(i:Nat)(e:IR)(τ:Ev):Option D->Res Fl
 |some (.lst _ _)=>Ii (JI cl Ξ e τ) (DG i)
 |_=>Ji
theorem bQ {i:Nat}{e:IR}{o:Bool}{ds:List D}:FY cl i e τ (Δ (.lst o ds))=Ii (JI cl Ξ e τ) (DG i):=rfl
theorem LJ {i:Nat}{e:IR}:Lf cl (.ext i e) τ=FY cl i e τ (gF τ i):=by
 show(match gF τ i with|some (.lst _ _)=>(Ii (JI cl Ξ e τ) fun p=>(match p.1,gF p.2 i with|.lst _ es,Δ (.lst Θ ds)=>Iy (iu (ds.length+es.length)) (.ok (Fl.nx (p.2.set i (Δ (.lst Θ (ds++es))))))|_,_=>Ji))|_=>Ji)=_;cases gF τ i with
 |none=>rfl
 |some d=>
  induction d using zD with
  |lst o ds=>
   refine congrArg (Ii (JI cl Ξ e τ)) (funext fun p=>?_);obtain⟨d,Jl⟩:=p
   induction d using zD with
   |lst o es=>
    show(match D.lst o es,gF Jl i with|.lst _ es,Δ (.lst Θ ds)=>Iy (iu (ds.length+es.length)) (.ok (.nx (Jl.set i (Δ (.lst Θ (ds++es))))))|_,_=>Ji)=An i Jl es (gF Jl i);cases gF Jl i with
    |none=>rfl
    |some d2=>induction d2 using zD<;>first|rfl|(rename_i b _;cases b<;>rfl)
   |_=>rfl
  |_=>rfl
noncomputable def Ao (i:Nat)(p:D×Ev)(z:Int):Option D->Res Fl
 |some (.lst Θ ds)=>Iy (decide (0<=z/\z.toNat<=ds.length)&&i4 ds.length) (.ok (.nx (p.2.set i (Δ (.lst Θ (ds.take z.toNat++p.1::ds.drop z.toNat))))))
 |_=>Ji
theorem bR {i:Nat}{p:D×Ev}{z:Int}{ds:List D}:Ao i p z (Δ (.lst Θ ds))=Iy (decide (0<=z/\z.toNat<=ds.length)&&i4 ds.length) (.ok (.nx (p.2.set i (Δ (.lst Θ (ds.take z.toNat++p.1::ds.drop z.toNat)))))):=rfl
noncomputable def DH (i:Nat):D->D×Ev->Res Fl
 |.int z,p=>Ao i p z (gF p.2 i)
 |_,_=>Ji
theorem bS {i:Nat}{z:Int}{p:D×Ev}:DH i (.int z) p=Ao i p z (gF p.2 i):=rfl
noncomputable def DI (cl:Nat->List D->Res D)(i:Nat)(e:IR)(τ:Ev)(y:D):Res Fl:=Ii (JI cl Ξ e τ) (DH i y)
theorem bU {i:Nat}{e:IR}{y:D}:DI cl i e τ y=Ii (JI cl Ξ e τ) (DH i y):=rfl
noncomputable def FZ (cl:Nat->List D->Res D)(i:Nat)(k e:IR)(τ:Ev):Option D->Res Fl
 |some (.lst _ _)=>Ii (Iu cl k τ) (DI cl i e τ)
 |_=>Ji
theorem bV {i:Nat}{k e:IR}{o:Bool}{ds:List D}:FZ cl i k e τ (Δ (.lst o ds))=Ii (Iu cl k τ) (DI cl i e τ):=rfl
theorem LL {i:Nat}{k e:IR}:Lf cl (.ins i k e) τ=FZ cl i k e τ (gF τ i):=by
 show(match gF τ i with|some (.lst _ _)=>(Ii (Iu cl k τ) fun y=>Ii (JI cl Ξ e τ) fun p=>(match y,gF p.2 i with|.int z,Δ (.lst Θ ds)=>Iy (decide (0<=z/\z.toNat<=ds.length)&&i4 ds.length) (.ok (Fl.nx (p.2.set i (Δ (.lst Θ (ds.take z.toNat++p.1::ds.drop z.toNat))))))|_,_=>Ji))|_=>Ji)=_;cases gF τ i with
 |none=>rfl
 |some d=>
  induction d using zD with
  |lst o ds=>
   refine congrArg (Ii (Iu cl k τ)) (funext fun y=>congrArg (Ii (JI cl Ξ e τ)) (funext fun p=>?_))
   induction y using zD with
   |int z=>
    show(match D.int z,gF p.2 i with|.int z,Δ (.lst Θ ds)=>Iy (decide (0<=z/\z.toNat<=ds.length)&&i4 ds.length) (.ok (.nx (p.2.set i (Δ (.lst Θ (ds.take z.toNat++p.1::ds.drop z.toNat))))))|_,_=>Ji)=Ao i p z (gF p.2 i);cases gF p.2 i with
    |none=>rfl
    |some d2=>induction d2 using zD<;>first|rfl|(rename_i b _;cases b<;>rfl)
   |_=>rfl
  |_=>rfl
noncomputable def sU (cl:Nat->List D->Res D)(i:Nat)(k:IR)(τ:Ev)(d:D):Option D->Res Fl
 |some (.Ju Θ ks ds)=>Ii (Iu cl k τ) fun y=>(match kl y with|some q=>Iy (gH d&&gD ds&&i4 ks.length) (.ok (.nx (τ.set i (Δ (.Ju Θ (iB ks q) (iR ks ds q d))))))|none=>Ji)
 |_=>Ji
theorem oU {i:Nat}{k:IR}{d:D}{ks:List Key}{ds:List D}{x:Str}(h:Iu cl k τ=.ok (.str x))(hl:(gH d&&gD ds&&i4 ks.length)=Θ):sU cl i k τ d (Δ (.Ju Θ ks ds))=.ok (.nx (τ.set i (Δ (.Ju Θ (iB ks (.inr x)) (iR ks ds (.inr x) d))))):=by show(Ii (Iu cl k τ) fun y=>(match kl y with|some q=>Iy (gH d&&gD ds&&i4 ks.length) (.ok (Fl.nx (τ.set i (Δ (.Ju Θ (iB ks q) (iR ks ds q d))))))|none=>Ji))=_;rw[h];show Iy _ _=_;rw[hl];rfl
noncomputable def Bu (cl:Nat->List D->Res D)(i:Nat)(k:IR)(τ:Ev)(d:D):Res Fl:=sU cl i k τ d (gF τ i)
theorem aO {i:Nat}{k:IR}{d:D}:Bu cl i k τ d=sU cl i k τ d (gF τ i):=rfl
theorem HY {i:Nat}{k e:IR}:Lf cl (.Mq i k e) τ=Ii (Iu cl e τ) (Bu cl i k τ):=rfl
noncomputable def F0 (i:Nat)(e:IR)(τ:Ev)(d:D)(ks:List (List TK))(ds:List D):Option (List TK)->Res Fl
 |some q=>Iy (iY ds&&i4 ks.length) (.ok (.nx ((Jw (vars e) τ).set i (Δ (.Jy Θ (iB ks q) (Jj (iR ks ds q d)))))))
 |none=>Ji
noncomputable def HN (cl:Nat->List D->Res D)(i:Nat)(k e:IR)(τ:Ev)(d:D):Option D->Res Fl
 |some (.Jy Θ ks ds)=>Ii (Iu cl k (Jw (vars e) τ)) fun y=>F0 i e τ d ks ds (jq y)
 |_=>Ji
noncomputable def F3 (cl:Nat->List D->Res D)(i:Nat)(k e:IR)(τ:Ev)(d:D):Res Fl:=HN cl i k e τ d (gF τ i)
theorem Kw {i:Nat}{k e:IR}:Lf cl (.Ld i k e) τ=Ii (Iu cl e τ) (F3 cl i k e τ):=by show Ii (Iu cl e τ) (fun d=>match gF τ i with|some (.Jy Θ ks ds)=>Ii (Iu cl k (Jw (vars e) τ)) fun y=>(match jq y with|some q=>Iy (iY ds&&i4 ks.length) (.ok (Fl.nx ((Jw (vars e) τ).set i (Δ (.Jy Θ (iB ks q) (Jj (iR ks ds q d)))))))|none=>Ji)|_=>Ji)=_;congr 1
theorem Ie {i:Nat}{e:IR}:Lf cl (.app i e) τ=FX cl i e τ (gF τ i):=rfl
noncomputable def WJ (p:D×Ev):Res Fl:=.ok (.rt p.1)
theorem dJ {p:D×Ev}:WJ p=.ok (.rt p.1):=rfl
theorem Ig {e:IR}:Lf cl (.ret e) τ=Ii (JI cl Θ e τ) WJ:=rfl
noncomputable def WK (cl:Nat->List D->Res D)(a b:List IS)(τ:Ev)(r:Bool):Res Fl:=if r=Θ then iy cl a τ else iy cl b τ
theorem dM {a b:List IS}{r:Bool}:WK cl a b τ r=if r=Θ then iy cl a τ else iy cl b τ:=rfl
theorem Im {t:IR}{a b:List IS}:Lf cl (.JA t a b) τ=Ii (Q6 cl t τ) (WK cl a b τ):=rfl
noncomputable def turn (cl:Nat->List D->Res D)(tg:Tg)(body:List IS)(x:D)(τ:Ev):Res Fl:=Ii (jf tg x τ) (iy cl body)
theorem eY {tg:Tg}{body:List IS}{x:D}:turn cl tg body x τ=Ii (jf tg x τ) (iy cl body):=rfl
noncomputable def F4 (cl:Nat->List D->Res D)(tg:Tg)(body:List IS)(p:List D×Ev):Res Fl:=forM (turn cl tg body) p.1 p.2
theorem bW {tg:Tg}{body:List IS}{p:List D×Ev}:F4 cl tg body p=forM (turn cl tg body) p.1 p.2:=rfl
theorem Ih {tg:Tg}{s:Sr}{body:List IS}:Lf cl (.Jz tg s body) τ=Ii (rE cl s τ) (F4 cl tg body):=rfl
noncomputable def DJ (f:Ev->Res Fl):Fl->Res Fl
 |.nx Jl=>f Jl
 |.ct Jl=>.ok (.ct Jl)
 |.bk Jl=>.ok (.bk Jl)
 |.rt d=>.ok (.rt d)
 |.ri d ks vs=>.ok (.ri d ks vs)
theorem fO:iy cl [] τ=.ok (.nx τ):=rfl
theorem fP {s:IS}{r:List IS}:iy cl (s::r) τ=Ii (Lf cl s τ) (DJ (iy cl r)):=rfl
theorem dN {f:Ev->Res Fl}:DJ f (.nx τ)=f τ:=rfl
theorem dO {f:Ev->Res Fl}{d:D}:DJ f (.rt d)=.ok (.rt d):=rfl
noncomputable def F5 (τ:Ev)(its:List D):Res (List D×Ev):=.ok (its,τ)
theorem bX {its:List D}:F5 τ its=.ok (its,τ):=rfl
noncomputable def Bv (e:IR)(τ:Ev)(its:List D):Res (List D×Ev):=.ok (Jj its,Jw (vars e) τ)
theorem aP {e:IR}{its:List D}:Bv e τ its=.ok (Jj its,Jw (vars e) τ):=rfl
theorem dP {n:IR}:rE cl (.JW n) τ=Ii (ko cl (.JW n) τ) (F5 τ):=rfl
theorem dQ {e:IR}:rE cl (.val e) τ=Ii (ko cl (.val e) τ) (Bv e τ):=rfl
noncomputable def F6 (body:D->Ev->Res Fl)(xs:List D):Fl->Res Fl
 |.nx Jl=>forM body xs Jl
 |.ct Jl=>forM body xs Jl
 |.bk Jl=>.ok (.nx Jl)
 |.rt d=>.ok (.rt d)
 |.ri d ks vs=>.ok (.ri d ks vs)
theorem dR {body:D->Ev->Res Fl}:forM body [] τ=.ok (.nx τ):=rfl
theorem cI {body:D->Ev->Res Fl}{x:D}{xs:List D}:forM body (x::xs) τ=Ii (body x τ) (F6 body xs):=rfl
theorem cK {body:D->Ev->Res Fl}{xs:List D}:F6 body xs (.nx τ)=forM body xs τ:=rfl
theorem fQ {i:Nat}{d:D}:jf (.nm i) d τ=.ok (τ.set i (Δ d)):=rfl
theorem fR {ts:List Tg}{ds:List D}:jf (.tp ts) (.tup ds) τ=Iy (decide (ds.length=ts.length)) (kC ts ds τ):=rfl
theorem dS:kC [] [] τ=.ok τ:=rfl
theorem dU {t:Tg}{ts:List Tg}{d:D}{ds:List D}:kC (t::ts) (d::ds) τ=Ii (jf t d τ) (kC ts ds):=rfl
theorem dW {o p:Option D}:(o::τ).set 0 p=p::τ:=rfl
theorem dX {o p:Option D}{i:Nat}:(o::τ).set (i+1) p=o::τ.set i p:=rfl
theorem dY {a b:Int}:Le .add (.int a) (.int b)=.ok (.int (a+b)):=rfl
theorem bY {a b:Str}:Le .add (.str a) (.str b)=Iy (iu (a.length+b.length)) (.ok (.str (a++b))):=rfl
theorem bZ {o o':Bool}{a b:List D}:Le .add (.lst o a) (.lst o' b)=Iy (iu (a.length+b.length)) (.ok (.lst Θ (a++b))):=rfl
theorem dZ {a b:Int}:Le .sub (.int a) (.int b)=.ok (.int (a - b)):=rfl
theorem F7 {a b:Int}:Le .mul (.int a) (.int b)=Iy (decide (-(2 ^ 64) < a/\a < 2 ^ 64)||decide (-(2 ^ 64) < b/\b < 2 ^ 64)) (.ok (.int (a*b))):=rfl
theorem DK {a b:Int}:Le .fdiv (.int a) (.int b)=Iy (decide (0 < b/\b < 1073741824)) (.ok (.int (a / b))):=rfl
theorem F8 {a b:Int}:Le .mod (.int a) (.int b)=Iy (decide (0 < b)) (.ok (.int (a % b))):=rfl
theorem en {a b:Int}:Le .pow (.int a) (.int b)=Iy (decide (0<=b/\b<=1000000/\a.natAbs < 2 ^ 64)) (.ok (.int (a ^ b.toNat))):=rfl
theorem UQ {o:Bool}{ds:List D}{i:Int}:iq (.lst o ds) (.int i)=(match Kj ds i with|some d=>.ok d|none=>Ji):=rfl
theorem II {ds:List D}{i:Int}:iq (.tup ds) (.int i)=(match Kj ds i with|some d=>.ok d|none=>Ji):=rfl
theorem YU {z:Str}{i:Int}:iq (.str z) (.int i)=Iy (iu z.length) (match Kj z.cps.toList i with|some c=>.ok (.str ⟨#[c]⟩)|none=>Ji):=rfl
theorem fS {o:Bool}{ds:List D}{lo hi:Option Int}:qg (.lst o ds) lo hi=.ok (.lst Θ (jU ds lo hi)):=rfl
theorem fT {z:Str}{lo hi:Option Int}:qg (.str z) lo hi=Iy (iu z.length) (.ok (.str (Txt.slice z lo hi))):=rfl
theorem fU {b:Bool}:g8 (.bl b)=.ok b:=rfl
theorem F9 {a b:D}:Kl .eq a b=JR 40 a b:=by cases a<;>cases b<;>rfl
noncomputable def Ga (r:Bool):Res Bool:=.ok !r
theorem cb {r:Bool}:Ga r=.ok !r:=rfl
theorem Gb {a b:D}:Kl .ne a b=Ii (JR 40 a b) Ga:=by cases a<;>cases b<;>rfl
theorem fV {n:Nat}{a b:Int}:JR (n+1) (.int a) (.int b)=.ok (a == b):=rfl
theorem fW {n:Nat}{a b:Str}:JR (n+1) (.str a) (.str b)=.ok (a == b):=rfl
theorem fX {n:Nat}{a b:Bool}:JR (n+1) (.bl a) (.bl b)=.ok (a == b):=rfl
theorem ez {n:Nat}{x':Str}:JR (n+1) (.Iw) (.str x')=.ok Ξ:=rfl
theorem eC {n:Nat}{i:Int}{x':Str}:JR (n+1) (.int i) (.str x')=.ok Ξ:=rfl
theorem fY {n:Nat}{a b:List D}:JR (n+1) (.tup a) (.tup b)=jd (JR n) a b:=rfl
theorem fZ {n:Nat}{o o':Bool}{a b:List D}:JR (n+1) (.lst o a) (.lst o' b)=jd (JR n) a b:=rfl
theorem f6 {f:D->D->Res Bool}:jd f [] []=.ok Θ:=rfl
noncomputable def DL (x y:Bool):Res Bool:=.ok (x&&y)
theorem cf {x y:Bool}:DL x y=.ok (x&&y):=rfl
noncomputable def WL (f:D->D->Res Bool)(r s:List D)(x:Bool):Res Bool:=Ii (jd f r s) (DL x)
theorem eD {f:D->D->Res Bool}{r s:List D}{x:Bool}:WL f r s x=Ii (jd f r s) (DL x):=rfl
theorem f7 {f:D->D->Res Bool}{a b:D}{r s:List D}:jd f (a::r) (b::s)=Ii (f a b) (WL f r s):=rfl
theorem f9 {f:D->D->Res Bool}{a:D}{r:List D}:jd f (a::r) []=.ok Ξ:=rfl
theorem gb {f:D->D->Res Bool}{b:D}{s:List D}:jd f [] (b::s)=.ok Ξ:=rfl
theorem gf {a b:Int}:Kl .lt (.int a) (.int b)=.ok (decide (a < b)):=rfl
theorem gh {a b:Int}:Kl .le (.int a) (.int b)=.ok (decide (a<=b)):=rfl
theorem gj {a b:Int}:Kl .gt (.int a) (.int b)=.ok (decide (b < a)):=rfl
theorem Bw {a:D}{o:Bool}{ds:List D}:Kl .Lp a (.lst o ds)=Jx a ds:=by cases a<;>rfl
theorem Gd {a:D}:Kl .Np a .Iw=.ok (jQ a):=by cases a<;>rfl
theorem IJ:jQ .Iw=Θ:=rfl
theorem IK {i:Int}:jQ (.int i)=Ξ:=rfl
theorem IL {i:Str}:jQ (.str i)=Ξ:=rfl
theorem IM {ds:List D}:jQ (.tup ds)=Ξ:=rfl
theorem IP {o:Bool}{ds:List D}:jQ (.lst o ds)=Ξ:=rfl
theorem Bx {a:D}{ds:List D}:Kl .Lp a (.tup ds)=Jx a ds:=by cases a<;>rfl
theorem gk {d:D}:Jx d []=.ok Ξ:=rfl
noncomputable def DM (x y:Bool):Res Bool:=.ok (x||y)
theorem ck {x y:Bool}:DM x y=.ok (x||y):=rfl
noncomputable def WM (d:D)(r:List D)(x:Bool):Res Bool:=Ii (Jx d r) (DM x)
theorem eE {d:D}{r:List D}{x:Bool}:WM d r x=Ii (Jx d r) (DM x):=rfl
theorem gm {d e:D}{r:List D}:Jx d (e::r)=Ii (JR 40 e d) (WM d r):=rfl
theorem eF {x:Str}:jy .len [.str x]=Iy (iu x.length) (.ok (.int x.length)):=rfl
theorem eG {ds:List D}:jy .len [.tup ds]=.ok (.int ds.length):=rfl
theorem eI {o:Bool}{ds:List D}:jy .len [.lst o ds]=.ok (.int ds.length):=rfl
theorem cp {a b:Int}:jy .min2 [.int a,.int b]=.ok (.int (if b < a then b else a)):=rfl
theorem cq {a b:Int}:jy .max2 [.int a,.int b]=.ok (.int (if b > a then b else a)):=rfl
theorem aQ {o:Bool}{ds:List D}:jy .tuple [.lst o ds]=.ok (.tup ds):=rfl
theorem xa (ns:List Str):ia (ns.map .str)=Δ ns:=by
 induction ns with
 |nil=>rfl
 |cons n ns ih=>show(ia (ns.map .str)).map (n::·)=_;rw[ih];rfl
theorem Ap (ns:List Bool):jh (ns.map .bl)=Δ ns:=by
 induction ns with
 |nil=>rfl
 |cons n ns ih=>show(jh (ns.map .bl)).map (n::·)=_;rw[ih];rfl
theorem xb {o:Bool}{bs:List Bool}:jy .any [.lst o (bs.map .bl)]=.ok (.bl (bs.any id)):=by
 show(match jh (bs.map .bl) with|some bs=>.ok (.bl (bs.any id))|none=>Ji)=(_:Res D)
 rw[Ap]
theorem af {x y:Str}:mK .starts (.str x) [.str y]=.ok (.bl (Txt.startswith x y)):=rfl
theorem Aq {x:Str}{o:Bool}{ys:List Str}(h:(ys.map (·.length)).sum+ys.length*x.length<=16777216):mK .join (.str x) [.lst o (ys.map .str)]=.ok (.str (Txt.join x ys)):=by
 show(match ia (ys.map .str) with|some ys=>Iy (decide ((ys.map (fun y:Str=>y.length)).sum+ys.length*x.length<=16777216)) (.ok (.str (Txt.join x ys)))|none=>Ji)=(_:Res D)
 rw[xa];show Iy (decide _) _=_;rw[B_ h];rfl
theorem eJ {x:Str}:km (.str x)=Θ:=rfl
theorem cv {x:Str}:jj .str (.str x)=Θ:=rfl
theorem cw {x:Int}:jj .int (.int x)=Θ:=rfl
theorem cx {x:Int}:jj .bool (.int x)=Ξ:=rfl
theorem cy {x:List D}:jj .tuple (.tup x)=Θ:=rfl
theorem au {i:Int}:jj .str (.int i)=Ξ:=rfl
theorem av {ds:List D}:jj .str (.tup ds)=Ξ:=rfl
theorem aw {o:Bool}{ds:List D}:jj .str (.lst o ds)=Ξ:=rfl
theorem ay {x:Str}:jj .int (.str x)=Ξ:=rfl
theorem az {ds:List D}:jj .int (.tup ds)=Ξ:=rfl
theorem aA {o:Bool}{ds:List D}:jj .int (.lst o ds)=Ξ:=rfl
theorem ag {x:Str}:jj .bool (.str x)=Ξ:=rfl
theorem ah {ds:List D}:jj .bool (.tup ds)=Ξ:=rfl
theorem ai {o:Bool}{ds:List D}:jj .bool (.lst o ds)=Ξ:=rfl
theorem aj {ds:List D}:jj .list (.tup ds)=Ξ:=rfl
theorem ak {o:Bool}{ds:List D}:jj .list (.lst o ds)=Θ:=rfl
theorem aa {o:Bool}{ds:List D}:jj .tuple (.lst o ds)=Ξ:=rfl
theorem xc (ns:List Int):gD (ns.map .int)=Θ:=by rw[iC,List.all_map,O_];intro x _;rfl
theorem DN (ns:List Str):gD (ns.map .str)=Θ:=by rw[iC,List.all_map,O_];intro x _;rfl
theorem gn {i:Int}:er (.int i)=.int i:=by rw[er]
theorem gp {i:Str}:er (.str i)=.str i:=by rw[er]
theorem gq:er .Iw=.Iw:=by rw[er]
theorem gr {ds:List D}:er (.tup ds)=.tup (Jj ds):=by rw[er]
theorem gu {o:Bool}{ds:List D}:er (.lst o ds)=.lst Ξ (Jj ds):=by rw[er]
theorem eL:Jj []=[]:=by rw[Jj]
theorem eM {d:D}{ds:List D}:Jj (d::ds)=er d::Jj ds:=by rw[Jj]
theorem oV (ns:List Int):Jj (ns.map .int)=ns.map .int:=gW (xc ns)
theorem xf (ns:List Str):Jj (ns.map .str)=ns.map .str:=gW (DN ns)
theorem eN {i:Int}:gH (.int i)=Θ:=rfl
theorem eO {i:Str}:gH (.str i)=Θ:=rfl
theorem eP {i:Bool}:gH (.bl i)=Θ:=rfl
theorem eQ {ds:List D}:gH (.tup ds)=gD ds:=rfl
theorem eR {o:Bool}{ds:List D}:gH (.lst o ds)=Ξ:=rfl
theorem cz:gD []=Θ:=rfl
theorem cA {d:D}{ds:List D}:gD (d::ds)=(gH d&&gD ds):=rfl
noncomputable def As:Fl->Res D
 |.nx _=>.ok .Iw
 |.rt d=>.ok d
 |_=>Ji
theorem run {fn:Fn}{ds:List D}(h:ds.length=fn.np):lO cl fn ds=Ii (iy cl fn.body (ds.map Δ++Τ (fn.G.N.length - fn.np) Φ)) As:=by unfold lO;rw[B_ h];rfl
theorem cB {d:D}:As (.rt d)=.ok d:=rfl
theorem call {T:Tb}{n f:Nat}{fn:Fn}{ds:List D}(h:T f=Δ fn)(h0:fn.io=Ξ):cM T (n+1) f ds=lO (cM T n) fn ds:=by show(match T f with|some fn=>(match fn.io with|false=>lO (cM T n) fn ds|true=>rF (cM T n) fn ds)|none=>Ji)=_;rw[h];show(match fn.io with|false=>lO (cM T n) fn ds|true=>rF (cM T n) fn ds)=_;rw[h0]
theorem go {T:Tb}{n f:Nat}{fn:Fn}{ds:List D}{m k:Nat}{body:List IS}(h:T f=Δ fn)(h0:fn.io=Ξ)(h1:fn.np=m)(h2:fn.G.N.length=k)(h3:fn.body=body)(hl:ds.length=m) :
  cM T (n+1) f ds=Ii (iy (cM T n) body (ds.map Δ++Τ (k - m) Φ)) As:=by
 rw[call h h0,run (by rw[hl,h1]),h1,h2,h3]
end
end Ev
namespace Ev
section
variable {cl:Nat->List D->Res D}{τ:Ev}
theorem line:Ζ=16777216:=sizeLine_eq
theorem xg {a b:Int}(h1 : -18446744073709551616 < a)(h2:a < 18446744073709551616):Le .mul (.int a) (.int b)=.ok (.int (a*b)):=by rw[F7,B_ (show -(2 ^ 64) < a/\a < 2 ^ 64 from⟨by omega,by omega⟩)];rfl
theorem xh {a b:Int}(h1:0 < b)(h2:b < 1073741824):Le .fdiv (.int a) (.int b)=.ok (.int (a / b)):=by rw[DK,B_ ⟨h1,h2⟩];rfl
theorem By {a b:Int}(h1:0 < b):Le .mod (.int a) (.int b)=.ok (.int (a % b)):=by rw[F8,B_ h1];rfl
theorem rO {n:Nat}(h:n<=16777216):iu n=Θ:=B_ (by rw[line];exact h)
theorem rP {n:Nat}(h:n < 16777216):i4 n=Θ:=B_ (by rw[line];exact h)
theorem sV {i:Int}(h1 : -4611686018427387904<=i)(h2:i < 4611686018427387904):lL i=Θ:=B_ ⟨by omega,by omega⟩
theorem sW {α β:Type}(f:α->β)(xs:List α)(i:Int):Kj (xs.map f) i=(Kj xs i).map f:=by
 unfold Kj;rw[i_];cases OY xs.length i with
 |none=>rfl
 |some j=>exact L_ ..
theorem oW {α:Type}{xs:List α}{i:Int}(d:α)(h0:0<=i)(h1:i < xs.length):Kj xs i=Δ (xs.getD i.toNat d):=by
 unfold Kj OY;rw[e_ h0,e_ h1];show xs[i.toNat]? = _;have:i.toNat < xs.length:=by omega
 rw[aav,R_ this];rfl
theorem SQ {o:Bool}{xs:List Int}{i:Int}(h0:0<=i)(h1:i < xs.length):iq (.lst o (xs.map .int)) (.int i)=.ok (.int (xs.getD i.toNat 0)):=by rw[UQ,sW,oW 0 h0 h1];rfl
theorem Au {o:Bool}{xs:List Str}{i:Int}(h0:0<=i)(h1:i < xs.length):iq (.lst o (xs.map .str)) (.int i)=.ok (.str (xs.getD i.toNat ⟨#[]⟩)):=by rw[UQ,sW,oW ⟨#[]⟩ h0 h1];rfl
theorem Rn {z:Str}{i:Int}(h0:0<=i)(h1:i < z.length)(hz:z.length<=16777216):iq (.str z) (.int i)=.ok (.str ⟨#[z.cps.toList.getD i.toNat 0]⟩):=by
 rw[YU,rO hz];have hl:z.cps.toList.length=z.length:=by simp[Str.length]
 rw[oW 0 h0 (by rw[hl];exact h1)];rfl
theorem rQ {α:Type}(xs:List α){m:Int}(h:0<=m):jU xs Φ (Δ m)=xs.take m.toNat:=by
 unfold jU HT.Kh;simp only[List.drop_zero,Nat.sub_zero];rw[d_ (by omega)];by_cases hm:m.toNat<=xs.length
 ·rw[show min m.toNat xs.length=m.toNat from Nat.min_eq_left hm]
 ·rw[show min m.toNat xs.length=xs.length from Nat.min_eq_right (by omega),List.take_length,List.take_of_length_le (by omega)]
noncomputable def fz:Bool->Option D->Option D
 |true,Δ d=>Δ (er d)
 |true,Φ=>Φ
 |false,o=>o
theorem gw {d:D}:fz Θ (Δ d)=Δ (er d):=rfl
theorem gA {o:Option D}:fz Ξ o=o:=rfl
theorem Bz {is:List Nat}{k:Nat}{o:Option D}{τ:Ev}:lh is k (o::τ)=fz (is.contains k) o::lh is (k+1) τ:=by show(if is.contains k then o.map er else o)::lh is (k+1) τ=_;cases is.contains k<;>cases o<;>rfl
theorem gB {d:D}:vars (.c d)=[]:=rfl
theorem gC {i:Nat}:vars (.v i)=[i]:=rfl
theorem cC {o:Nn}{a b:IR}:vars (.bin o a b)=vars a++vars b:=rfl
theorem cD {es:List IR}:vars (.tup es)=gR es:=rfl
theorem cE {es:List IR}:vars (.lst es)=gR es:=rfl
theorem aR {f:Nat}{es:List IR}:vars (.call f es)=gR es:=rfl
theorem eS {f:Bi}{es:List IR}:vars (.bi f es)=gR es:=rfl
theorem cF {a i:IR}:vars (.idx a i)=vars a++vars i:=rfl
theorem eU:gR []=[]:=rfl
theorem eV {e:IR}{es:List IR}:gR (e::es)=vars e++gR es:=rfl
theorem aU {G:Gm}{fr:List Nat}{t:Tg}{s:Sr}{i:List IR}{e:IR}:g9 (.comp G fr t s i e)=Θ:=rfl
theorem cG {a b:IR}:g9 (.bin .add a b)=Θ:=rfl
theorem eW {a:IR}{b c:Option IR}:g9 (.sl a b c)=Θ:=rfl
theorem cH {a i:IR}:g9 (.idx a i)=Ξ:=rfl
theorem Ge {e:IR}{o:Bool}{ds:List D}{τ:Ev}:ib e (.lst o ds) τ=cond (g9 e) (cond (gD ds) (.lst Θ ds,τ) (.lst Θ (Jj ds),Jw (vars e) τ)) (.lst Ξ (Jj ds),Jw (vars e) τ):=by
 unfold ib;rw[d_ (show ¬gH (.lst o ds)=Θ by intro z;cases z)];cases g9 e
 ·exact Prod.ext (by show er (.lst o ds)=_;rw[er];rfl) rfl
 ·show(if gD ds=Θ then _ else _)=_;cases gD ds<;>rfl
theorem Gf {e:IR}{ds:List D}{τ:Ev}:ib e (.tup ds) τ=cond (gD ds) (.tup ds,τ) (.tup (Jj ds),Jw (vars e) τ):=by
 unfold ib;cases h:gD ds with
 |true=>rw[e_ (show gH (.tup ds)=Θ from h)];rfl
 |false=>rw[d_ (show ¬gH (.tup ds)=Θ by intro z;rw[show gH (.tup ds)=gD ds from rfl,h]at z;cases z)];cases g9 e<;>exact Prod.ext (by show er (.tup ds)=_;rw[er];rfl) rfl
theorem sX {body:D->Ev->Res Fl}(P:Nat->Ev->Prop):∀(its:List D) (k:Nat) (τ:Ev),P k τ->(∀(i:Nat) (x:D) (τ:Ev),its[i]? = Δ x->P (k+i) τ->∃Jl,body x τ=.ok (.nx Jl)/\P (k+i+1) Jl)->∃Jl,forM body its τ=.ok (.nx Jl)/\P (k+its.length) Jl
 |[],k,τ,h,_=>⟨τ,rfl,h⟩
 |x::xs,k,τ,h,hb=>by
  obtain⟨OE,e1,h1⟩:=hb 0 x τ rfl h;obtain⟨YV,e2,h2⟩:=sX P xs (k+1) OE h1 fun i y σ hy hp=>by obtain⟨Jl,e',h'⟩:=hb (i+1) y σ (by simpa using hy) (by rw[show k+(i+1)=k+1+i by omega];exact hp);exact⟨Jl,e',by rw[show k+1+i+1=k+(i+1)+1 by omega];exact h'⟩
  refine⟨YV,?_,by rw[List.length_cons,show k+(xs.length+1)=k+1+xs.length by omega];exact h2⟩;rw[cI,e1,cJ,cK,e2]
theorem lX {body:D->Ev->Res Fl}(P:Nat->Ev->Prop){its:List D}{τ:Ev}(h:P 0 τ)(hb:∀(i:Nat)(x:D)(τ:Ev),its[i]? = Δ x->P i τ->∃Jl,body x τ=.ok (.nx Jl)/\P (i+1) Jl):∃Jl,forM body its τ=.ok (.nx Jl)/\P its.length Jl:=by
 obtain⟨Jl,h1,h2⟩:=sX P its 0 τ h fun i x τ hx hp=>by rw[Nat.zero_add]at hp ⊢;exact hb i x τ hx hp
 exact⟨Jl,h1,by rw[Nat.zero_add]at h2;exact h2⟩
theorem jW {α β:Type}{g:D->Res (Option D)}(Ro:α->D)(out:α->β)(PK:β->D):∀(xs:List α),(∀x∈xs,g (Ro x)=.ok (Δ (PK (out x))))->gM g (xs.map Ro)=.ok ((xs.map out).map PK)
 |[],_=>rfl
 |x::xs,h=>by show Ii (g (Ro x)) _=_;rw[h x (by simp)];show Ii (gM g (xs.map Ro)) _=_;rw[jW Ro out PK xs fun y hy=>h y (w_ _ hy)];rfl
end
end Ev
end L2
namespace L2.Ev
theorem IQ {o:Option D}{τ:Ev}:gF (o::τ) 0=o:=rfl
theorem IT {o:Option D}{τ:Ev}{i:Nat}:gF (o::τ) (i+1)=gF τ i:=rfl
theorem IU {is:List Nat}{k:Nat}:lh is k []=[]:=rfl
theorem IV {a k:Nat}{l:List Nat}:List.contains (a::l) k=((k == a)||l.contains k):=rfl
theorem IW {k:Nat}:List.contains [] k=Ξ:=rfl
theorem IX {b:Bool}{i:Int}:fz b (Δ (.int i))=Δ (.int i):=by cases b<;>rfl
theorem IY {b:Bool}{i:PySem.Str}:fz b (Δ (.str i))=Δ (.str i):=by cases b<;>rfl
theorem IZ {b:Bool}:fz b Φ=Φ:=by cases b<;>rfl
end L2.Ev
namespace L2
open PySem
namespace Ev
theorem I0 {P:D}:iq (.tup [P]) (.int 0)=.ok P:=rfl
theorem Ja {P Q:D}:iq (.tup [P,Q]) (.int 0)=.ok P:=rfl
theorem Jb {P Q:D}:iq (.tup [P,Q]) (.int 1)=.ok Q:=rfl
theorem Jc {P Q R:D}:iq (.tup [P,Q,R]) (.int 0)=.ok P:=rfl
theorem Jd {P Q R:D}:iq (.tup [P,Q,R]) (.int 1)=.ok Q:=rfl
theorem Je {P Q R:D}:iq (.tup [P,Q,R]) (.int 2)=.ok R:=rfl
theorem Jf {o:Bool}{P Q:D}:iq (.lst o [P,Q]) (.int 0)=.ok P:=rfl
theorem Jg {o:Bool}{P Q:D}:iq (.lst o [P,Q]) (.int 1)=.ok Q:=rfl
end Ev
theorem Zaa {a b:Prop}(x:a)(y:b):a/\b:=⟨x,y⟩
noncomputable def Jh:=(Zaa (Zaa (Zaa (Zaa (Zaa @Ev.LJ @Ev.LL) (Zaa @Ev.oU (Zaa @Ev.Kw @Ev.F9))) (Zaa (Zaa @Ev.Gb (Zaa @Ev.Bw @Ev.Gd)) (Zaa @Ev.Bx (Zaa @Ev.xb @Ev.oV)))) (Zaa (Zaa (Zaa @Ev.xf @Ev.xg) (Zaa @Ev.xh (Zaa @Ev.By @Ev.rO))) (Zaa (Zaa @Ev.rP (Zaa @Ev.sV @Ev.SQ)) (Zaa @Ev.Au (Zaa @Ev.Rn @Ev.Bz))))) (Zaa (Zaa (Zaa (Zaa @Ev.Ge @Ev.Gf) (Zaa @Ev.xc (Zaa @Ev.DN @Bool.or_false))) (Zaa (Zaa @Bool.or_true (Zaa @List.replicate_succ.{0} @List.replicate_zero.{0})) (Zaa @List.length_cons.{0} (Zaa @List.length_nil.{0} @Nat.zero_add)))) (Zaa (Zaa (Zaa @decide_true (Zaa @Bool.and_self @Bool.not_true)) (Zaa @Bool.not_false (Zaa @Bool.and_true @Bool.true_and))) (Zaa (Zaa @Bool.and_false (Zaa @Bool.false_and @beq_self_eq_true.{0})) (Zaa @if_true.{1} (Zaa @if_false.{1} @X_))))))
namespace Fr
end Fr
namespace Fr
open PySem
noncomputable def xj (f:Nat):Gm:={N:=["_law_own","_law_part"],kd:=[.local,.local],gl:=[f],df:=Ξ}
noncomputable def Nz (f:Nat):List IS:=
 [(.JA (.cmp .Np (.v 1) (.c .Iw)) [(.ret (.cmp .Np (.v 0) (.c .Iw)))] []),(.JA (.LN (.J2 (.v 1) .bool) (.J2 (.v 0) .bool)) [(.ret (.Js (.J2 (.v 1) .bool) (.Js (.J2 (.v 0) .bool) (.cmp .eq (.v 0) (.v 1)))))] []),(.JA (.J2 (.v 1) .str) [(.ret (.Js (.J2 (.v 0) .str) (.cmp .eq (.v 0) (.v 1))))] []),(.JA (.J2 (.v 1) .int) [(.ret (.Js (.J2 (.v 0) .int) (.cmp .eq (.v 0) (.v 1))))] []),(.JA (.J2 (.v 1) .tuple) [(.JA (.KJ (.J2 (.v 0) .tuple)) [(.ret (.c (.bl Ξ)))] [])] [(.JA (.KJ (.J2 (.v 0) .list)) [(.ret (.c (.bl Ξ)))] [])]),(.JA (.cmp .ne (.bi .len [(.v 0)]) (.bi .len [(.v 1)])) [(.ret (.c (.bl Ξ)))] []),(.ret (.bi .all [(.comp (xj f) [] (.tp [(.nm 0),(.nm 1)]) (.zip (.v 0) (.v 1)) [] (.call f [(.v 0),(.v 1)]))]))]
noncomputable def sY (f:Nat)(x:Str):Gm:={N:=[x],kd:=[.local],gl:=[f],df:=Ξ}
noncomputable def NA (f:Nat)(x:Str):List IS:=
 [(.JA (.J2 (.v 0) .list) [(.ret (.comp (sY f x) [] (.nm 0) (.val (.v 0)) [] (.call f [(.v 0)])))] []),(.JA (.J2 (.v 0) .tuple) [(.ret (.bi .tuple [(.comp (sY f x) [] (.nm 0) (.val (.v 0)) [] (.call f [(.v 0)]))]))] []),(.ret (.v 0))]
end Fr
end L2
local macro_rules | `(tactic| simp! [$xs,*]) =>do
 let a ← ("Nat.reduceBEq Nat.reduceSub Nat.reduceAdd reduceIte Ev.IQ Ev.IT Ev.dW Ev.dX Ev.IU Ev.IV Ev.IW cond_true cond_false List.map_cons List.map_nil List.cons_append List.nil_append Bool.true_or Bool.false_or Ev.gn Ev.gp Ev.gq Ev.gr Ev.gu Ev.eL Ev.eM Ev.gB Ev.gC Ev.cC Ev.aR Ev.eU Ev.eV Ev.cD Ev.cE Ev.eS Ev.cF Ev.aV Ev.cQ Ev.aB Ev.aX Ev.aC Ev.aY Ev.aZ Ev.cV Ev.aD Ev.ba Ev.bb Ev.bc Ev.bg Ev.bh Ev.c9 Ev.aE Ev.bo Ev.bp Ev.br Ev.bt Ev.bu Ev.bz Ev.bA Ev.aG Ev.aH Ev.dq Ev.du Ev.bD Ev.aJ Ev.aK Ev.aL Ev.ae Ev.ar Ev.aM Ev.bG Ev.dF Ev.dG Ev.bH Ev.dH Ev.dI Ev.bJ Ev.bK Ev.bP Ev.bU Ev.aO Ev.dJ Ev.dM Ev.bW Ev.bX Ev.aP Ev.cb Ev.cf Ev.eD Ev.ck Ev.eE Ev.cJ Ev.cN Ev.IA Ev.IB Ev.cO Ev.cP Ev.aW Ev.cR Ev.cU Ev.eZ Ev.cW Ev.cX Ev.cY Ev.cZ Ev.e9 Ev.bj Ev.ff Ev.fg Ev.fq Ev.ft Ev.fw Ev.de Ev.dg Ev.bq Ev.dh Ev.aF Ev.bw Ev.dj Ev.dn Ev.bB Ev.fx Ev.fy Ev.bC Ev.fA Ev.fC Ev.fD Ev.fE Ev.aI Ev.fF Ev.ao Ev.aq Ev.dv Ev.dw Ev.fG Ev.fI Ev.IC Ev.Iz Ev.Ij Ev.Ik Ev.Il Ev.H0 Ev.ID Ev.dy Ev.dz Ev.dA Ev.dB Ev.fJ Ev.fK Ev.Ia Ev.Ib Ev.dC Ev.dD Ev.bE Ev.dE Ev.bF Ev.fM Ev.fN Ev.aN Ev.bI Ev.IE Ev.IF Ev.IG Ev.IH Ev.Ic Ev.bL Ev.bM Ev.bN Ev.bO Ev.bQ Ev.bR Ev.bS Ev.bV Ev.HY Ev.Ie Ev.Ig Ev.Im Ev.Ih Ev.fO Ev.fP Ev.dN Ev.dO Ev.dP Ev.dQ Ev.dR Ev.cI Ev.cK Ev.fQ Ev.fR Ev.dS Ev.dU Ev.dY Ev.bY Ev.bZ Ev.dZ Ev.en Ev.II Ev.fS Ev.fT Ev.fU Ev.fV Ev.fW Ev.fX Ev.ez Ev.eC Ev.fY Ev.fZ Ev.f6 Ev.f7 Ev.f9 Ev.gb Ev.gf Ev.gh Ev.gj Ev.IJ Ev.IK Ev.IL Ev.IM Ev.IP Ev.gk Ev.gm Ev.eF Ev.eG Ev.eI Ev.cp Ev.cq Ev.aQ Ev.af Ev.eJ Ev.cv Ev.cw Ev.cx Ev.cy Ev.au Ev.av Ev.aw Ev.ay Ev.az Ev.aA Ev.ag Ev.ah Ev.ai Ev.aj Ev.ak Ev.aa Ev.eN Ev.eO Ev.eP Ev.eQ Ev.eR Ev.cz Ev.cA Ev.cB Ev.gw Ev.gA Ev.aU Ev.cG Ev.eW Ev.cH".splitOn " ").toArray.mapM fun s =>`(Lean.Parser.Tactic.simpLemma| $(Lean.mkIdent s.toName):ident)
 `(tactic| simp (disch :=omega) only [L2.Jh,$a,*,↓L2.Ev.IX,↓L2.Ev.IY,↓L2.Ev.IZ,↓L2.Ev.I0,↓L2.Ev.Ja,↓L2.Ev.Jb,↓L2.Ev.Jc,↓L2.Ev.Jd,↓L2.Ev.Je,↓L2.Ev.Jf,↓L2.Ev.Jg,$xs,*])
namespace Law
open PySem L2
noncomputable def top (i:Nat):Stmt:=PySem.Challenge.pw_flagroll_k44_things_in_cells.main.body.getD i (.Pass ⟨0,0,0,0⟩)
noncomputable def Z:Sg:={nm:=(["is_whole","group_conds","looked_conds","text_cell","things_told","texts_told","beginnings_told","number_cuts","number_cell","_law_draw","_law_names","_law_stem","_law_text","_law_center","_law_number","_law_thing","_law_many_things","_law_many_conds","_law_looking","_law_looked","_law_cells","_law_same","_law_copy","_law_lies","_law_cond_holds"]:List Str)++(["_law_things","_law_truths","cell_of","law"]:List Str),Qg:=[],fns:=[21,22,23,25,26,27,28,24,29,48,30,31,32,33,34,35,36,37,38,39,40,41,44,45,46,42,43,47,49],cls:=[],xt:=[],pl:=[],rc:=[],xm:=[],Yl:=[]}
noncomputable def Rp:List IS:=
 [(.ret (.Js (.J2 (.v 0) .int) (.KJ (.J2 (.v 0) .bool))))]
noncomputable def SR:Fn:={np:=1,G:={N:=["thing"],kd:=[.local],gl:=[14,8,16],df:=Θ},body:=Rp}
noncomputable def UR:List IS:=
 [(.asg (.nm 2) (.lst [])),(.Jz (.tp [(.nm 3),(.nm 4)]) (.val (.v 0)) [(.JA (.OD Ξ (.v 3) (.v 1)) [(.Jz (.nm 5) (.val (.v 4)) [(.ext 2 (.v 5))])] [])]),(.ret (.v 2))]
noncomputable def US:Fn:={np:=2,G:={N:=["groups","names","conds","name","rows","row"],kd:=Τ 6 .local,gl:=[],df:=Θ},body:=UR}
noncomputable def Rq:List IS:=
 [(.asg (.nm 2) (.lst [])),(.asg (.nm 3) .Lq),(.Jz (.nm 4) (.val (.idx (.v 1) (.c (.int 2)))) [(.Jz (.nm 5) (.val (.idx (.v 4) (.c (.int 0)))) [(.JA (.cmp .Lp (.idx (.v 5) (.c (.int 1))) (.tup [(.c (.str "in")),(.c (.str "out"))])) [(.Mq 3 (.idx (.v 5) (.c (.int 0))) (.c (.bl Θ)))] [(.app 2 (.v 5))])])]),(.ret (.bin .add (.v 2) (.call 22 [(.v 0),(.v 3)])))]
noncomputable def SS:Fn:={np:=2,G:={N:=["groups","switch","conds","group_names","rule","cond"],kd:=Τ 6 .local,gl:=[22],df:=Θ},body:=Rq}
noncomputable def UT:List IS:=
 [(.asg (.nm 4) (.lst [])),(.Jz (.nm 5) (.val (.call 23 [(.v 0),(.v 1)])) [(.JA (.Js (.cmp .eq (.idx (.v 5) (.c (.int 0))) (.v 2)) (.cmp .Lp (.idx (.v 5) (.c (.int 1))) (.v 3))) [(.ext 4 (.idx (.v 5) (.c (.int 2))))] [])]),(.ret (.v 4))]
noncomputable def UU:Fn:={np:=4,G:={N:=["groups","switch","mark","words","things","cond"],kd:=Τ 6 .local,gl:=[23],df:=Θ},body:=UT}
noncomputable def UW:List IS:=
 [(.asg (.nm 3) (.call 25 [(.v 0),(.v 1),(.v 2),(.tup [(.c (.str "is")),(.c (.str "not"))])])),(.ret (.sset (.comp {N:=["thing"],kd:=[.local],gl:=[14,11],df:=Ξ} [] (.nm 0) (.val (.v 3)) [(.J2 (.v 0) .str)] (.v 0))))]
noncomputable def UX:Fn:={np:=3,G:={N:=["groups","switch","mark","things"],kd:=Τ 4 .local,gl:=[25,4,12],df:=Θ},body:=UW}
noncomputable def UY:List IS:=
 [(.ret (.sset (.bin .add (.lst [(.c (.str ""))]) (.call 25 [(.v 0),(.v 1),(.v 2),(.tup [(.c (.str "begins"))])]))))]
noncomputable def UZ:Fn:={np:=3,G:={N:=["groups","switch","mark"],kd:=Τ 3 .local,gl:=[4,12,25],df:=Θ},body:=UY}
noncomputable def U0:List IS:=
 [(.asg (.nm 3) (.call 25 [(.v 0),(.v 1),(.v 2),(.tup [(.c (.str "is")),(.c (.str "not"))])])),(.asg (.nm 4) (.comp {N:=["thing"],kd:=[.local],gl:=[21],df:=Ξ} [] (.nm 0) (.val (.v 3)) [(.call 21 [(.v 0)])] (.v 0))),(.asg (.nm 5) (.call 25 [(.v 0),(.v 1),(.v 2),(.tup [(.c (.str "least"))])])),(.asg (.nm 6) (.call 25 [(.v 0),(.v 1),(.v 2),(.tup [(.c (.str "most"))])])),(.ret (.sset (.bin .add (.bin .add (.v 4) (.v 5)) (.comp {N:=["number"],kd:=[.local],gl:=[],df:=Ξ} [] (.nm 0) (.val (.bin .add (.v 4) (.v 6))) [] (.bin .add (.v 0) (.c (.int 1)))))))]
noncomputable def U1:Fn:={np:=3,G:={N:=["groups","switch","mark","things","alone","least","most"],kd:=Τ 7 .local,gl:=[25,4,12],df:=Θ},body:=U0}
noncomputable def Rr:List IS:=
 [(.JA (.cmp .Lp (.v 3) (.call 26 [(.v 0),(.v 1),(.v 2)])) [(.ret (.tup [(.c (.str "text")),(.v 3)]))] []),(.asg (.nm 4) (.call 27 [(.v 0),(.v 1),(.v 2)])),(.ret (.tup [(.c (.str "begins")),(.NK (.comp {N:=["text","beginning"],kd:=[.cell,.local],gl:=[],df:=Ξ} [3] (.nm 1) (.val (.v 4)) [(.K0 .starts (.v 0) [(.v 1)])] (.v 1)))]))]
noncomputable def SU:Fn:={np:=4,G:={N:=["groups","switch","mark","text","beginnings"],kd:=[.local,.local,.local,.cell,.local],gl:=[26,27,3,0],df:=Θ},body:=Rr}
noncomputable def Oi:List IS:=
 [(.asg (.nm 4) (.call 28 [(.v 0),(.v 1),(.v 2)])),(.asg (.nm 5) (.Nr Θ (.comp {N:=["number","cut"],kd:=[.cell,.local],gl:=[],df:=Ξ} [3] (.nm 1) (.val (.v 4)) [(.cmp .le (.v 1) (.v 0))] (.v 1)) (.c .Iw))),(.asg (.nm 6) (.Nr Ξ (.comp {N:=["number","cut"],kd:=[.cell,.local],gl:=[],df:=Ξ} [3] (.nm 1) (.val (.v 4)) [(.cmp .gt (.v 1) (.v 0))] (.v 1)) (.c .Iw))),(.ret (.tup [(.c (.str "numbers")),(.v 5),(.ite (.cmp .Np (.v 6) (.c .Iw)) (.c .Iw) (.bin .sub (.v 6) (.c (.int 1))))]))]
noncomputable def Qq:Fn:={np:=4,G:={N:=["groups","switch","mark","number","cuts","low","end"],kd:=[.local,.local,.local,.cell,.local,.local,.local],gl:=[28,3,2],df:=Θ},body:=Oi}
noncomputable def PL:List IS:=
 [(.JA (.cmp .Np (.v 3) (.c .Iw)) [(.ret (.tup [(.c (.str "none"))]))] []),(.JA (.J2 (.v 3) .str) [(.ret (.call 24 [(.v 0),(.v 1),(.v 2),(.v 3)]))] []),(.ret (.call 29 [(.v 0),(.v 1),(.v 2),(.v 3)]))]
noncomputable def Rt:Fn:={np:=4,G:={N:=["groups","switch","mark","thing"],kd:=Τ 4 .local,gl:=[14,11,24,29],df:=Θ},body:=PL}
noncomputable def U2:List IS:=
 [(.asg (.nm 3) (.c (.int 0))),(.JA (.cmp .gt (.bi .len [(.v 0)]) (.c (.int 0))) [(.asg (.nm 3) (.bin .mod (.idx (.v 0) (.bin .mod (.v 1) (.bi .len [(.v 0)]))) (.c (.int 2147483647))))] []),(.asg (.nm 4) (.bin .add (.bin .mul (.v 3) (.bin .add (.c (.int 742938285)) (.bin .mul (.bin .mul (.c (.int 9973)) (.v 1)) (.v 1)))) (.bin .mul (.v 1) (.c (.int 630360016))))),(.ret (.bin .mod (.bin .fdiv (.bin .mod (.v 4) (.c (.int 2147483647))) (.c (.int 97))) (.v 2)))]
noncomputable def U3:Fn:={np:=3,G:={N:=["_law_script","_law_k","_law_many","_law_cell","_law_mixed"],kd:=Τ 5 .local,gl:=[0],df:=Θ},body:=U2}
noncomputable def Rv:List IS:=
 [(.asg (.nm 3) (.c (.str "abcdefghijklmnopqrstuvwxyz"))),(.asg (.nm 4) (.call 30 [(.v 0),(.v 1),(.c (.int 26))])),(.JA (.cmp .eq (.call 30 [(.v 0),(.bin .add (.v 1) (.c (.int 1))),(.c (.int 5))]) (.c (.int 0))) [(.ret (.comp {N:=["_law_letters","_law_start","_law_j"],kd:=[.cell,.cell,.local],gl:=[],df:=Ξ} [3,4] (.nm 2) (.JW (.v 2)) [] (.bin .mul (.idx (.v 0) (.v 1)) (.bin .add (.c (.int 1)) (.v 2)))))] []),(.asg (.nm 5) (.c (.str ""))),(.Jz (.nm 6) (.JW (.call 30 [(.v 0),(.bin .add (.v 1) (.c (.int 2))),(.c (.int 8))])) [(.asg (.nm 5) (.bin .add (.v 5) (.idx (.v 3) (.call 30 [(.v 0),(.bin .add (.bin .add (.v 1) (.c (.int 40))) (.v 6)),(.c (.int 26))]))))]),(.asg (.nm 7) (.call 30 [(.v 0),(.bin .add (.v 1) (.c (.int 3))),(.bin .add (.bi .len [(.v 5)]) (.c (.int 1)))])),(.asg (.nm 8) (.idx (.lst [(.c (.int 1)),(.c (.int 7)),(.c (.int 25)),(.c (.int 11))]) (.call 30 [(.v 0),(.bin .add (.v 1) (.c (.int 1))),(.c (.int 4))]))),(.ret (.comp {N:=["_law_body","_law_at","_law_letters","_law_start","_law_step","_law_j"],kd:=[.cell,.cell,.cell,.cell,.cell,.local],gl:=[],df:=Ξ} [5,7,3,4,8] (.nm 5) (.JW (.v 2)) [] (.bin .add (.bin .add (.sl (.v 0) Φ (Δ (.v 1))) (.idx (.v 2) (.bin .mod (.bin .add (.v 3) (.bin .mul (.v 4) (.v 5))) (.c (.int 26))))) (.sl (.v 0) (Δ (.v 1)) Φ))))]
noncomputable def SV:Fn:={np:=3,G:={N:=["_law_script","_law_k","_law_many","_law_letters","_law_start","_law_body","_law_j","_law_at","_law_step"],kd:=[.local,.local,.local,.cell,.cell,.cell,.local,.cell,.cell],gl:=[30,15,0],df:=Θ},body:=Rv}
noncomputable def Rw:List IS:=
 [(.asg (.nm 2) (.c (.str "abcdefghijklmnopqrstuvwxyz0123456789"))),(.asg (.nm 3) (.v 2)),(.JA (.cmp .eq (.call 30 [(.v 0),(.v 1),(.c (.int 2))]) (.c (.int 0))) [(.asg (.nm 3) (.sl (.sl (.v 2) (Δ (.call 30 [(.v 0),(.bin .add (.v 1) (.c (.int 1))),(.c (.int 34))])) Φ) Φ (Δ (.c (.int 2)))))] []),(.ret (.K0 .join (.c (.str "")) [(.comp {N:=["_law_some","_law_script","_law_k","_law_j"],kd:=[.cell,.cell,.cell,.local],gl:=[30,0],df:=Ξ} [3,0,1] (.nm 3) (.JW (.c (.int 12))) [] (.idx (.v 0) (.call 30 [(.v 1),(.bin .add (.bin .add (.v 2) (.c (.int 2))) (.v 3)),(.bi .len [(.v 0)])])))]))]
noncomputable def SW:Fn:={np:=2,G:={N:=["_law_script","_law_k","_law_signs","_law_some"],kd:=[.cell,.cell,.local,.cell],gl:=[30,15],df:=Θ},body:=Rw}
noncomputable def PM:List IS:=
 [(.asg (.nm 3) (.sl (.v 2) Φ (Δ (.call 30 [(.v 0),(.v 1),(.c (.int 9))])))),(.JA (.Js (.cmp .ne (.v 3) (.c (.str ""))) (.cmp .eq (.call 30 [(.v 0),(.bin .add (.v 1) (.c (.int 1))),(.c (.int 3))]) (.c (.int 0)))) [(.asg (.nm 3) (.bin .add (.sl (.v 3) Φ (Δ (.neg (.c (.int 1))))) (.idx (.c (.str "abcdefghijklmnopqrstuvwxyz0123456789")) (.call 30 [(.v 0),(.bin .add (.v 1) (.c (.int 2))),(.c (.int 36))]))))] []),(.ret (.v 3))]
noncomputable def Rx:Fn:={np:=3,G:={N:=["_law_script","_law_k","_law_stem_here","_law_text_here"],kd:=Τ 4 .local,gl:=[30],df:=Θ},body:=PM}
noncomputable def U4:List IS:=
 [(.asg (.nm 2) (.bin .sub (.bin .add (.bin .mul (.call 30 [(.v 0),(.v 1),(.c (.int 20000))]) (.c (.int 100000))) (.call 30 [(.v 0),(.bin .add (.v 1) (.c (.int 1))),(.c (.int 100000))])) (.bin .pow (.c (.int 10)) (.c (.int 9))))),(.ret (.bi .min2 [(.bi .max2 [(.v 2),(.bin .sub (.c (.int 0)) (.c (.int 999999990)))]),(.c (.int 999999990))]))]
noncomputable def U5:Fn:={np:=2,G:={N:=["_law_script","_law_k","_law_number_here"],kd:=Τ 3 .local,gl:=[30,2,3],df:=Θ},body:=U4}
noncomputable def Ry:List IS:=
 [(.asg (.nm 3) (.call 30 [(.v 0),(.v 1),(.c (.int 8))])),(.JA (.cmp .lt (.v 3) (.c (.int 5))) [(.ret (.bin .sub (.bin .add (.v 2) (.v 3)) (.c (.int 2))))] []),(.ret (.idx (.lst [(.c (.int 999999999)),(.bin .sub (.c (.int 0)) (.c (.int 999999999))),(.c (.int 0))]) (.bin .sub (.v 3) (.c (.int 5)))))]
noncomputable def SX:Fn:={np:=3,G:={N:=["_law_script","_law_k","_law_center_here","_law_way"],kd:=Τ 4 .local,gl:=[30],df:=Θ},body:=Ry}
noncomputable def Rz:List IS:=
 [(.JA (.cmp .eq (.call 30 [(.v 0),(.v 1),(.c (.int 2))]) (.c (.int 0))) [(.ret (.call 35 [(.v 0),(.bin .add (.v 1) (.c (.int 1))),(.v 3)]))] []),(.ret (.call 33 [(.v 0),(.bin .add (.v 1) (.c (.int 2))),(.v 2)]))]
noncomputable def SY:Fn:={np:=4,G:={N:=["_law_script","_law_k","_law_stem_here","_law_center_here"],kd:=Τ 4 .local,gl:=[30,35,33],df:=Θ},body:=Rz}
noncomputable def PN:List IS:=
 [(.JA (.LN (.cmp .eq (.v 4) (.c (.str "least"))) (.cmp .eq (.v 4) (.c (.str "most")))) [(.ret (.lst [(.call 35 [(.v 0),(.bin .add (.v 1) (.c (.int 1))),(.v 3)])]))] []),(.JA (.LN (.cmp .eq (.v 4) (.c (.str "has"))) (.cmp .eq (.v 4) (.c (.str "lacks")))) [(.ret (.lst []))] []),(.asg (.nm 6) (.lst [])),(.Jz (.nm 7) (.JW (.bin .add (.c (.int 1)) (.call 30 [(.v 0),(.v 1),(.v 5)]))) [(.asg (.nm 8) (.call 36 [(.v 0),(.bin .add (.bin .add (.v 1) (.c (.int 2))) (.bin .mul (.c (.int 5)) (.v 7))),(.v 2),(.v 3)])),(.JA (.cmp .eq (.v 4) (.c (.str "begins"))) [(.asg (.nm 8) (.call 33 [(.v 0),(.bin .add (.bin .add (.v 1) (.c (.int 2))) (.bin .mul (.c (.int 5)) (.v 7))),(.v 2)])),(.JA (.cmp .eq (.v 8) (.c (.str ""))) [(.asg (.nm 8) (.sl (.v 2) Φ (Δ (.c (.int 1)))))] [])] []),(.app 6 (.v 8))]),(.ret (.v 6))]
noncomputable def RB:Fn:={np:=6,G:={N:=["_law_script","_law_k","_law_stem_here","_law_center_here","_law_word","_law_room","_law_found","_law_j","_law_thing_here"],kd:=Τ 9 .local,gl:=[35,15,30,36,33],df:=Θ},body:=PN}
noncomputable def U6:List IS:=
 [(.asg (.nm 7) (.lst [(.c (.str "is")),(.c (.str "not")),(.c (.str "begins")),(.c (.str "least")),(.c (.str "most")),(.c (.str "has")),(.c (.str "lacks")),(.c (.str "is")),(.c (.str "begins"))])),(.asg (.nm 8) (.lst [])),(.Jz (.nm 9) (.JW (.v 5)) [(.asg (.nm 10) (.idx (.v 7) (.call 30 [(.v 0),(.bin .add (.v 1) (.bin .mul (.c (.int 60)) (.v 9))),(.c (.int 9))]))),(.asg (.nm 11) (.idx (.v 2) (.call 30 [(.v 0),(.bin .add (.bin .add (.v 1) (.c (.int 1))) (.bin .mul (.c (.int 60)) (.v 9))),(.bi .len [(.v 2)])]))),(.app 8 (.tup [(.v 11),(.v 10),(.call 37 [(.v 0),(.bin .add (.bin .add (.v 1) (.c (.int 2))) (.bin .mul (.c (.int 60)) (.v 9))),(.v 3),(.v 4),(.v 10),(.v 6)])]))]),(.ret (.v 8))]
noncomputable def U7:Fn:={np:=7,G:={N:=["_law_script","_law_k","_law_marks","_law_stem_here","_law_center_here","_law_count","_law_room","_law_words","_law_found","_law_j","_law_word","_law_mark"],kd:=Τ 12 .local,gl:=[15,30,0,37],df:=Θ},body:=U6}
noncomputable def S1:List IS:=
 [(.asg (.nm 4) (.call 38 [(.v 0),(.c (.int 500)),(.v 1),(.v 2),(.v 3),(.c (.int 2)),(.c (.int 2))])),(.asg (.nm 5) (.idx (.lst [(.c (.str "mates")),(.idx (.v 1) (.c (.int 0))),(.idx (.v 1) (.c (.int 1))),(.c (.str "mates"))]) (.call 30 [(.v 0),(.c (.int 487)),(.c (.int 4))]))),(.asg (.nm 6) (.lst [(.tup [(.v 5),(.idx (.lst [(.lst []),(.lst [(.sl (.v 4) Φ (Δ (.c (.int 1))))]),(.lst [(.sl (.v 4) Φ (Δ (.c (.int 1)))),(.sl (.v 4) (Δ (.c (.int 1))) Φ)]),(.lst [(.v 4)])]) (.call 30 [(.v 0),(.c (.int 480)),(.c (.int 4))]))])])),(.app 6 (.tup [(.idx (.comp {N:=["_law_mates","_law_own"],kd:=[.cell,.local],gl:=[],df:=Ξ} [5] (.nm 1) (.val (.lst [(.c (.str "mates")),(.c (.str "others"))])) [(.cmp .ne (.v 1) (.v 0))] (.v 1)) (.c (.int 0))),(.lst [])])),(.asg (.nm 7) (.call 30 [(.v 0),(.c (.int 481)),(.c (.int 5))])),(.asg (.nm 8) (.call 38 [(.v 0),(.c (.int 200)),(.v 1),(.v 2),(.v 3),(.v 7),(.idx (.lst [(.c (.int 2)),(.c (.int 4))]) (.call 30 [(.v 0),(.c (.int 482)),(.c (.int 2))]))])),(.JA (.cmp .eq (.call 30 [(.v 0),(.c (.int 483)),(.c (.int 2))]) (.c (.int 0))) [(.asg (.nm 9) (.tup [(.v 5),(.idx (.lst [(.c (.str "in")),(.c (.str "out"))]) (.call 30 [(.v 0),(.c (.int 484)),(.c (.int 2))])),(.lst [])])),(.ins 8 (.call 30 [(.v 0),(.c (.int 485)),(.bin .add (.v 7) (.c (.int 1)))]) (.v 9))] []),(.asg (.nm 10) (.call 30 [(.v 0),(.c (.int 486)),(.bin .add (.bi .len [(.v 8)]) (.c (.int 1)))])),(.asg (.nm 11) (.lst [(.tup [(.sl (.v 8) Φ (Δ (.v 10))),(.tup [(.c (.str "face")),(.c (.str "on"))])]),(.tup [(.sl (.v 8) (Δ (.v 10)) Φ),(.tup [(.c (.str "lot"))])])])),(.ret (.tup [(.v 6),(.tup [(.c (.str "salt")),(.c (.str "off")),(.v 11),(.tup [(.lst [(.tup [(.c (.str "on")),(.lst [])])]),(.lst [(.tup [(.c (.int 0)),(.c (.int 10007))])])])])]))]
noncomputable def NO:Fn:={np:=4,G:={N:=["_law_script","_law_marks","_law_stem_here","_law_center_here","_law_inner","_law_mates","_law_groups","_law_count","_law_conds","_law_named","_law_at","_law_rules"],kd:=[.local,.local,.local,.local,.local,.cell,.local,.local,.local,.local,.local,.local],gl:=[38,30,0],df:=Θ},body:=S1}
noncomputable def U8:List IS:=
 [(.asg (.nm 2) (.lst [])),(.Jz (.tp [(.nm 3),(.nm 4)]) (.val (.idx (.v 1) (.c (.int 2)))) [(.Jz (.nm 5) (.val (.v 3)) [(.JA (.Js (.cmp .ne (.idx (.v 5) (.c (.int 1))) (.c (.str "in"))) (.cmp .ne (.idx (.v 5) (.c (.int 1))) (.c (.str "out")))) [(.app 2 (.v 5))] []),(.Jz (.tp [(.nm 6),(.nm 7)]) (.val (.v 0)) [(.JA (.Js (.cmp .Lp (.idx (.v 5) (.c (.int 1))) (.lst [(.c (.str "in")),(.c (.str "out"))])) (.cmp .eq (.v 6) (.idx (.v 5) (.c (.int 0))))) [(.Jz (.nm 8) (.val (.v 7)) [(.ext 2 (.v 8))])] [])])])]),(.ret (.v 2))]
noncomputable def U9:Fn:={np:=2,G:={N:=["_law_groups","_law_switch","_law_found","_law_conds","_law_outcome","_law_cond","_law_name","_law_rows","_law_row"],kd:=Τ 9 .local,gl:=[],df:=Θ},body:=U8}
noncomputable def U':List IS:=
 [(.asg (.nm 2) (.lst [])),(.asg (.nm 3) (.lst [(.c (.str ""))])),(.asg (.nm 4) (.lst [])),(.Jz (.tp [(.nm 5),(.nm 6),(.nm 7)]) (.val (.v 0)) [(.Jz (.nm 8) (.val (.v 7)) [(.JA (.Js (.cmp .eq (.v 5) (.v 1)) (.cmp .eq (.v 6) (.c (.str "begins")))) [(.app 3 (.v 8))] [(.JA (.Js (.cmp .eq (.v 5) (.v 1)) (.J2 (.v 8) .str)) [(.app 2 (.v 8))] [(.JA (.Js (.cmp .eq (.v 5) (.v 1)) (.cmp .ne (.v 6) (.c (.str "most")))) [(.app 4 (.v 8))] [])])]),(.JA (.Js (.cmp .eq (.v 5) (.v 1)) (.Js (.KJ (.J2 (.v 8) .str)) (.cmp .ne (.v 6) (.c (.str "least"))))) [(.app 4 (.bin .add (.v 8) (.c (.int 1))))] [])])]),(.asg (.nm 4) (.sset (.v 4))),(.asg (.nm 9) (.bin .add (.lst [(.tup [(.c (.str "none"))])]) (.comp {N:=["_law_text_here"],kd:=[.local],gl:=[],df:=Ξ} [] (.nm 0) (.val (.sset (.v 2))) [] (.tup [(.c (.str "text")),(.v 0)])))),(.asg (.nm 9) (.bin .add (.v 9) (.comp {N:=["_law_text_here"],kd:=[.local],gl:=[],df:=Ξ} [] (.nm 0) (.val (.sset (.v 3))) [] (.tup [(.c (.str "begins")),(.v 0)])))),(.asg (.nm 10) (.bin .add (.lst [(.c .Iw)]) (.v 4))),(.asg (.nm 11) (.bin .add (.comp {N:=["_law_start"],kd:=[.local],gl:=[],df:=Ξ} [] (.nm 0) (.val (.v 4)) [] (.bin .sub (.v 0) (.c (.int 1)))) (.lst [(.c .Iw)]))),(.ret (.bin .add (.v 9) (.comp {N:=["_law_low","_law_high"],kd:=[.local,.local],gl:=[],df:=Ξ} [] (.tp [(.nm 0),(.nm 1)]) (.zip (.v 10) (.v 11)) [] (.tup [(.c (.str "numbers")),(.v 0),(.v 1)]))))]
noncomputable def Va:Fn:={np:=2,G:={N:=["_law_looked_here","_law_mark","_law_texts","_law_begins","_law_starts","_law_name","_law_word","_law_things_here","_law_thing_here","_law_cells_here","_law_lows","_law_highs"],kd:=Τ 12 .local,gl:=[14,11,4,12,17],df:=Θ},body:=U'}
noncomputable def J5:List IS:=
 [(.JA (.cmp .Np (.v 2) (.c .Iw)) [(.ret (.cmp .eq (.v 1) (.tup [(.c (.str "none"))])))] []),(.JA (.J2 (.v 2) .str) [(.JA (.cmp .Lp (.tup [(.c (.str "text")),(.v 2)]) (.v 0)) [(.ret (.cmp .eq (.v 1) (.tup [(.c (.str "text")),(.v 2)])))] []),(.asg (.nm 3) (.comp {N:=["_law_thing_here","_law_other"],kd:=[.cell,.local],gl:=[0],df:=Ξ} [2] (.nm 1) (.val (.v 0)) [(.Js (.cmp .eq (.idx (.v 1) (.c (.int 0))) (.c (.str "begins"))) (.K0 .starts (.v 0) [(.idx (.v 1) (.c (.int 1)))]))] (.bi .len [(.idx (.v 1) (.c (.int 1)))]))),(.ret (.cmp .eq (.v 1) (.tup [(.c (.str "begins")),(.sl (.v 2) Φ (Δ (.bi .L3 [(.v 3)])))])))] []),(.JA (.cmp .ne (.idx (.v 1) (.c (.int 0))) (.c (.str "numbers"))) [(.ret (.c (.bl Ξ)))] []),(.ret (.Js (.LN (.cmp .Np (.idx (.v 1) (.c (.int 1))) (.c .Iw)) (.cmp .le (.idx (.v 1) (.c (.int 1))) (.v 2))) (.LN (.cmp .Np (.idx (.v 1) (.c (.int 2))) (.c .Iw)) (.cmp .le (.v 2) (.idx (.v 1) (.c (.int 2)))))))]
noncomputable def Li:Fn:={np:=3,G:={N:=["_law_cells_here","_law_cell","_law_thing_here","_law_sizes"],kd:=[.local,.local,.cell,.local],gl:=[14,11,3],df:=Θ},body:=J5}
noncomputable def Vb:List IS:=
 [(.asg (.tp [(.nm 3),(.nm 4),(.nm 5)]) (.v 1)),(.JA (.LN (.cmp .eq (.v 4) (.c (.str "in"))) (.cmp .eq (.v 4) (.c (.str "out")))) [(.asg (.nm 6) (.c (.bl Ξ))),(.Jz (.tp [(.nm 7),(.nm 8)]) (.val (.v 0)) [(.JA (.cmp .eq (.v 7) (.v 3)) [(.asg (.nm 6) (.bi .any [(.comp {N:=["_law_marks","_law_row"],kd:=[.cell,.local],gl:=[9],df:=Ξ} [2] (.nm 1) (.val (.v 8)) [] (.bi .all [(.comp {N:=["_law_marks","_law_other"],kd:=[.cell,.local],gl:=[45],df:=Ξ} [0] (.nm 1) (.val (.v 1)) [] (.call 45 [(.lst []),(.v 1),(.v 0)]))]))]))] [])]),(.ret (.cmp .eq (.v 6) (.cmp .eq (.v 4) (.c (.str "in")))))] []),(.asg (.nm 9) (.c .Iw)),(.Jz (.tp [(.nm 7),(.nm 10)]) (.val (.v 2)) [(.JA (.cmp .eq (.v 7) (.v 3)) [(.asg (.nm 9) (.v 10))] [])]),(.JA (.LN (.cmp .eq (.v 4) (.c (.str "is"))) (.cmp .eq (.v 4) (.c (.str "not")))) [(.ret (.cmp .eq (.cmp .Lp (.v 9) (.v 5)) (.cmp .eq (.v 4) (.c (.str "is")))))] []),(.JA (.cmp .eq (.v 4) (.c (.str "begins"))) [(.ret (.Js (.J2 (.v 9) .str) (.bi .any [(.comp {N:=["_law_thing_here","_law_other"],kd:=[.cell,.local],gl:=[],df:=Ξ} [9] (.nm 1) (.val (.v 5)) [] (.K0 .starts (.v 0) [(.v 1)]))])))] []),(.JA (.cmp .eq (.v 4) (.c (.str "least"))) [(.ret (.Js (.J2 (.v 9) .int) (.cmp .ge (.v 9) (.idx (.v 5) (.c (.int 0))))))] []),(.JA (.cmp .eq (.v 4) (.c (.str "most"))) [(.ret (.Js (.J2 (.v 9) .int) (.cmp .le (.v 9) (.idx (.v 5) (.c (.int 0))))))] []),(.ret (.cmp .eq (.cmp .MV (.v 9) (.c .Iw)) (.cmp .eq (.v 4) (.c (.str "has")))))]
noncomputable def Qr:Fn:={np:=3,G:={N:=["_law_groups","_law_cond","_law_marks","_law_name","_law_word","_law_things_here","_law_inside","_law_own","_law_rows","_law_thing_here","_law_value"],kd:=[.local,.local,.cell,.local,.local,.local,.local,.local,.local,.cell,.local],gl:=[10,14,11,8],df:=Θ},body:=Vb}
noncomputable def Vc:List IS:=
 [(.asg (.nm 5) (.lst [(.c .Iw),(.c (.str "")),(.v 3),(.sl (.v 3) Φ (Δ (.c (.int 9)))),(.bin .pow (.c (.int 10)) (.c (.int 9))),(.bin .sub (.c (.int 0)) (.bin .pow (.c (.int 10)) (.c (.int 9)))),(.v 4),(.c (.int 0))])),(.Jz (.tp [(.nm 6),(.nm 7),(.nm 8)]) (.val (.v 1)) [(.Jz (.nm 9) (.val (.v 8)) [(.JA (.J2 (.v 9) .str) [(.ext 5 (.lst [(.v 9),(.sl (.v 9) Φ (Δ (.neg (.c (.int 1))))),(.bin .add (.v 9) (.sl (.v 3) (Δ (.bi .len [(.v 9)])) (Δ (.c (.int 12))))),(.bin .add (.v 9) (.idx (.c (.str "z0")) (.bin .mod (.bi .len [(.v 5)]) (.c (.int 2)))))]))] [(.ext 5 (.lst [(.bin .sub (.v 9) (.c (.int 1))),(.v 9),(.bin .add (.v 9) (.c (.int 1)))]))])])]),(.Jz (.nm 10) (.JW (.c (.int 4))) [(.app 5 (.call 33 [(.v 0),(.bin .add (.c (.int 600)) (.bin .mul (.c (.int 3)) (.v 10))),(.v 3)]))]),(.ret (.v 5))]
noncomputable def Qs:Fn:={np:=5,G:={N:=["_law_script","_law_looked_here","_law_mark","_law_stem_here","_law_center_here","_law_found","_law_name","_law_word","_law_things_here","_law_thing_here","_law_j"],kd:=Τ 11 .local,gl:=[14,11,0,15,33],df:=Θ},body:=Vc}
noncomputable def YW:List IS:=
 L2.Fr.Nz 42
noncomputable def Vd:Fn:={np:=2,G:={N:=["_law_found","_law_due"],kd:=[.local,.local],gl:=[14,16,11,8,6,5,0,9,17],df:=Θ},body:=YW}
noncomputable def YX:List IS:=
 L2.Fr.NA 43 "_law_part"
noncomputable def Ve:Fn:={np:=1,G:={N:=["_law_thing_here"],kd:=[.local],gl:=[14,5,6],df:=Θ},body:=YX}
noncomputable def PQ:List IS:=
 [(.asg (.nm 3) (.lst [])),(.JA (.cmp .MV (.v 2) (.c .Iw)) [(.asg (.nm 3) (.lst [(.tup [(.v 1),(.v 2)])]))] []),(.ret (.comp {N:=["_law_marks","_law_mark","_law_cond"],kd:=[.cell,.cell,.local],gl:=[45],df:=Ξ} [3,1] (.nm 2) (.val (.v 0)) [(.cmp .eq (.idx (.v 2) (.c (.int 0))) (.v 1))] (.call 45 [(.lst []),(.v 2),(.v 0)])))]
noncomputable def RC:Fn:={np:=3,G:={N:=["_law_looked_here","_law_mark","_law_thing_here","_law_marks"],kd:=[.local,.cell,.local,.cell],gl:=[],df:=Θ},body:=PQ}
noncomputable def Vf:List IS:=
 [(.asg (.nm 1) (.call 31 [(.v 0),(.c (.int 0)),(.c (.int 2))])),(.asg (.nm 2) (.call 32 [(.v 0),(.c (.int 130))])),(.asg (.nm 3) (.call 34 [(.v 0),(.c (.int 145))])),(.asg (.tp [(.nm 4),(.nm 5)]) (.call 39 [(.v 0),(.v 1),(.v 2),(.v 3)])),(.asg (.nm 6) (.call 40 [(.v 4),(.v 5)])),(.asg (.nm 7) (.call 43 [(.tup [(.v 4),(.v 5)])])),(.Jz (.nm 8) (.val (.v 1)) [(.asg (.nm 9) (.call 41 [(.v 6),(.v 8)])),(.asg (.nm 10) .Lc),(.Jz (.nm 11) (.val (.call 46 [(.v 0),(.v 6),(.v 8),(.v 2),(.v 3)])) [(.asg (.nm 12) (.comp {N:=["_law_cells_here","_law_thing_here","_law_cell"],kd:=[.cell,.cell,.local],gl:=[44],df:=Ξ} [9,11] (.nm 2) (.val (.v 9)) [(.call 44 [(.v 0),(.v 2),(.v 1)])] (.v 2))),(.asg (.nm 13) (.call 48 [(.idx (.v 7) (.c (.int 0))),(.idx (.v 7) (.c (.int 1))),(.v 8),(.v 11)])),(.JA (.LN (.cmp .ne (.bi .len [(.v 12)]) (.c (.int 1))) (.KJ (.call 42 [(.v 13),(.idx (.v 12) (.c (.int 0)))]))) [(.ret (.c (.bl Ξ)))] []),(.asg (.nm 14) (.call 47 [(.v 6),(.v 8),(.v 11)])),(.JA (.cmp .ne (.KR (.v 10) (.v 13) (.v 14)) (.v 14)) [(.ret (.c (.bl Ξ)))] []),(.Ld 10 (.v 13) (.v 14))])]),(.ret (.call 42 [(.v 7),(.tup [(.v 4),(.v 5)])]))]
noncomputable def PR:Fn:={np:=1,G:={N:=["_law_script","_law_marks","_law_stem_here","_law_center_here","_law_groups","_law_switch","_law_looked_here","_law_handed","_law_mark","_law_cells_here","_law_seen","_law_thing_here","_law_due","_law_found","_law_truths_here"],kd:=[.local,.local,.local,.local,.local,.local,.local,.local,.local,.cell,.local,.cell,.local,.local,.local],gl:=[31,32,34,39,40,43,41,46,48,0,42,47],df:=Θ},body:=Vf}
noncomputable def T:Tb:=fun n=>match n with
 |21=>Δ SR
 |22=>Δ US
 |23=>Δ SS
 |25=>Δ UU
 |26=>Δ UX
 |27=>Δ UZ
 |28=>Δ U1
 |24=>Δ SU
 |29=>Δ Qq
 |48=>Δ Rt
 |30=>Δ U3
 |31=>Δ SV
 |32=>Δ SW
 |33=>Δ Rx
 |34=>Δ U5
 |35=>Δ SX
 |36=>Δ SY
 |37=>Δ RB
 |38=>Δ U7
 |39=>Δ NO
 |40=>Δ U9
 |41=>Δ Va
 |44=>Δ Li
 |45=>Δ Qr
 |46=>Δ Qs
 |42=>Δ Vd
 |43=>Δ Ve
 |47=>Δ RC
 |49=>Δ PR
 |_=>Φ
theorem c21:gQ Z SR ["thing"] (top 1)=Θ:=by decide +kernel
theorem c22:gQ Z US ["groups","names"] (top 3)=Θ:=by decide +kernel
theorem c23:gQ Z SS ["groups","switch"] (top 4)=Θ:=by decide +kernel
theorem c25:gQ Z UU ["groups","switch","mark","words"] (top 5)=Θ:=by decide +kernel
theorem c26:gQ Z UX ["groups","switch","mark"] (top 6)=Θ:=by decide +kernel
theorem c27:gQ Z UZ ["groups","switch","mark"] (top 7)=Θ:=by decide +kernel
theorem c28:gQ Z U1 ["groups","switch","mark"] (top 8)=Θ:=by decide +kernel
theorem c24:gQ Z SU ["groups","switch","mark","text"] (top 9)=Θ:=by decide +kernel
theorem c29:gQ Z Qq ["groups","switch","mark","number"] (top 10)=Θ:=by decide +kernel
theorem c48:gQ Z Rt ["groups","switch","mark","thing"] (top 11)=Θ:=by decide +kernel
theorem c30:gQ Z U3 ["_law_script","_law_k","_law_many"] (top 13)=Θ:=by decide +kernel
theorem c31:gQ Z SV ["_law_script","_law_k","_law_many"] (top 14)=Θ:=by decide +kernel
theorem c32:gQ Z SW ["_law_script","_law_k"] (top 15)=Θ:=by decide +kernel
theorem c33:gQ Z Rx ["_law_script","_law_k","_law_stem_here"] (top 16)=Θ:=by decide +kernel
theorem c34:gQ Z U5 ["_law_script","_law_k"] (top 17)=Θ:=by decide +kernel
theorem c35:gQ Z SX ["_law_script","_law_k","_law_center_here"] (top 18)=Θ:=by decide +kernel
theorem c36:gQ Z SY ["_law_script","_law_k","_law_stem_here","_law_center_here"] (top 19)=Θ:=by decide +kernel
theorem c37:gQ Z RB ["_law_script","_law_k","_law_stem_here","_law_center_here","_law_word","_law_room"] (top 20)=Θ:=by decide +kernel
theorem c38:gQ Z U7 ["_law_script","_law_k","_law_marks","_law_stem_here","_law_center_here","_law_count","_law_room"] (top 21)=Θ:=by decide +kernel
theorem c39:gQ Z NO ["_law_script","_law_marks","_law_stem_here","_law_center_here"] (top 22)=Θ:=by decide +kernel
theorem c40:gQ Z U9 ["_law_groups","_law_switch"] (top 23)=Θ:=by decide +kernel
theorem c41:gQ Z Va ["_law_looked_here","_law_mark"] (top 24)=Θ:=by decide +kernel
theorem c44:gQ Z Li ["_law_cells_here","_law_cell","_law_thing_here"] (top 25)=Θ:=by decide +kernel
theorem c45:gQ Z Qr ["_law_groups","_law_cond","_law_marks"] (top 26)=Θ:=by decide +kernel
theorem c46:gQ Z Qs ["_law_script","_law_looked_here","_law_mark","_law_stem_here","_law_center_here"] (top 27)=Θ:=by decide +kernel
theorem c42:gQ Z Vd ["_law_found","_law_due"] (top 28)=Θ:=by decide +kernel
theorem c43:gQ Z Ve ["_law_thing_here"] (top 29)=Θ:=by decide +kernel
theorem c47:gQ Z RC ["_law_looked_here","_law_mark","_law_thing_here"] (top 30)=Θ:=by decide +kernel
theorem WN:gQ Z PR ["_law_script"] (top 31)=Θ:=by decide +kernel
theorem DO:∀n x,Z.name n=Δ x->x≠"__name__"/\(x == ("__debug__" : Str))=Ξ:=by
 have h:(iz++Z.nm).all (fun x=>!(x == "__name__")&&!(x == "__debug__"))=Θ:=by decide +kernel
 intro n x hx;have:=O_.mp h x (aao hx);simpa using this
@[elab_as_elim] theorem KA {P:List Ψ->Prop}{n:Nat} (us:List Ψ) (e:us.length=n+1) (h:∀(x:Ψ) (us:List Ψ),us.length=n->P (x::us)):P us:=by
 cases us with
 |nil=>cases e
 |cons x us=>exact h x us (Nat.succ.inj e)
@[elab_as_elim] theorem PU {P:List Ψ->Prop} (us:List Ψ) (e:us.length=0) (h:P []):P us:=by
 cases us with
 |nil=>exact h
 |cons x us=>cases e
theorem ln1 {fd:Ο}{ps:List Str}(h:∀x0:Ψ,bindArgs fd ⟨[x0],[]⟩=pure (ps.zip [x0]))(us:List Ψ)(e:us.length=1):bindArgs fd ⟨us,[]⟩=pure (ps.zip us):=KA us e fun x0 us e=>PU us e (h x0)
theorem ln2 {fd:Ο}{ps:List Str}(h:∀x0 x1:Ψ,bindArgs fd ⟨[x0,x1],[]⟩=pure (ps.zip [x0,x1]))(us:List Ψ)(e:us.length=2):bindArgs fd ⟨us,[]⟩=pure (ps.zip us):=KA us e fun x0 us e=>KA us e fun x1 us e=>PU us e (h x0 x1)
theorem ln3 {fd:Ο}{ps:List Str}(h:∀x0 x1 x2:Ψ,bindArgs fd ⟨[x0,x1,x2],[]⟩=pure (ps.zip [x0,x1,x2]))(us:List Ψ)(e:us.length=3):bindArgs fd ⟨us,[]⟩=pure (ps.zip us):=KA us e fun x0 us e=>KA us e fun x1 us e=>KA us e fun x2 us e=>PU us e (h x0 x1 x2)
theorem ln4 {fd:Ο}{ps:List Str}(h:∀x0 x1 x2 x3:Ψ,bindArgs fd ⟨[x0,x1,x2,x3],[]⟩=pure (ps.zip [x0,x1,x2,x3]))(us:List Ψ)(e:us.length=4):bindArgs fd ⟨us,[]⟩=pure (ps.zip us):=KA us e fun x0 us e=>KA us e fun x1 us e=>KA us e fun x2 us e=>KA us e fun x3 us e=>PU us e (h x0 x1 x2 x3)
theorem ln5 {fd:Ο}{ps:List Str}(h:∀x0 x1 x2 x3 x4:Ψ,bindArgs fd ⟨[x0,x1,x2,x3,x4],[]⟩=pure (ps.zip [x0,x1,x2,x3,x4]))(us:List Ψ)(e:us.length=5):bindArgs fd ⟨us,[]⟩=pure (ps.zip us):=KA us e fun x0 us e=>KA us e fun x1 us e=>KA us e fun x2 us e=>KA us e fun x3 us e=>KA us e fun x4 us e=>PU us e (h x0 x1 x2 x3 x4)
theorem ln6 {fd:Ο}{ps:List Str}(h:∀x0 x1 x2 x3 x4 x5:Ψ,bindArgs fd ⟨[x0,x1,x2,x3,x4,x5],[]⟩=pure (ps.zip [x0,x1,x2,x3,x4,x5]))(us:List Ψ)(e:us.length=6):bindArgs fd ⟨us,[]⟩=pure (ps.zip us):=KA us e fun x0 us e=>KA us e fun x1 us e=>KA us e fun x2 us e=>KA us e fun x3 us e=>KA us e fun x4 us e=>KA us e fun x5 us e=>PU us e (h x0 x1 x2 x3 x4 x5)
theorem ln7 {fd:Ο}{ps:List Str}(h:∀x0 x1 x2 x3 x4 x5 x6:Ψ,bindArgs fd ⟨[x0,x1,x2,x3,x4,x5,x6],[]⟩=pure (ps.zip [x0,x1,x2,x3,x4,x5,x6]))(us:List Ψ)(e:us.length=7):bindArgs fd ⟨us,[]⟩=pure (ps.zip us):=KA us e fun x0 us e=>KA us e fun x1 us e=>KA us e fun x2 us e=>KA us e fun x3 us e=>KA us e fun x4 us e=>KA us e fun x5 us e=>KA us e fun x6 us e=>PU us e (h x0 x1 x2 x3 x4 x5 x6)
theorem dfo {f:Nat}{x:Str}{fn:Fn}{st:Stmt}{fa:Ω}{ps:List Str}{K:W.Frag}{h:Heap}{mg:Str->Option Ψ}{oc:Ψ}{od an:Option Ω}{sl:Array (Option Ψ)}{kV dc pm cd ct:Ψ}(c:gQ Z fn ps st=Θ)(hT:T f=Δ fn)(b:∀(kV dc pm:Ψ)(an:Option Ω)(cd ct:Ψ)(us:List Ψ),us.length=ps.length->bindArgs (W.fnOf x x (jt st) (i8 st) (gV st) .none kV dc pm an cd ct) ⟨us,[]⟩=pure (ps.zip us))(X:K.In h)(G:h.Ns Η mg)
  (a:W.nsIn K Η x=Δ (Δ (.ref fa))) (l:K.lookup fa=Δ ⟨oc,od,.func (W.fnOf x x (jt st) (i8 st) (gV st) .none kV dc pm an cd ct),sl⟩) (e:W.codeIn K cd x=Θ) (k:W.keepIn K (.ref fa)=Θ):Jt K mg Z T f x:=⟨fn,st,fa,_,ps,hT,qZ l e k,W.mg_of X G a,(qZ l e k).binds b,qD c⟩
noncomputable def Av:Nat:=49
noncomputable def Aw:Str:="_law_script"
theorem all_mk {l:PySem.W.OpenLaw}{w:Β}{fa:Ω}{K:W.Frag}{h:Heap}{mg:Str->Option Ψ}{Vg:Ω}{Vh RE:Option Ω}{Vi:Array (Option Ψ)}{Vj RF RG RH PV RJ:Ψ}(X:K.In h)(G:h.Ns Η mg)(YY:mg "law" = Δ (.ref fa))
  (YZ:Jt K mg Z T 21 "is_whole")
  (Y0:Jt K mg Z T 22 "group_conds")
  (Y1:Jt K mg Z T 23 "looked_conds")
  (Y2:Jt K mg Z T 25 "things_told")
  (Y3:Jt K mg Z T 26 "texts_told")
  (Y4:Jt K mg Z T 27 "beginnings_told")
  (Y5:Jt K mg Z T 28 "number_cuts")
  (Y6:Jt K mg Z T 24 "text_cell")
  (Y7:Jt K mg Z T 29 "number_cell")
  (Y8:Jt K mg Z T 48 "cell_of")
  (Y9:Jt K mg Z T 30 "_law_draw")
  (Y':Jt K mg Z T 31 "_law_names")
  (Za:Jt K mg Z T 32 "_law_stem")
  (Zb:Jt K mg Z T 33 "_law_text")
  (Zc:Jt K mg Z T 34 "_law_center")
  (Zd:Jt K mg Z T 35 "_law_number")
  (Ze:Jt K mg Z T 36 "_law_thing")
  (Zf:Jt K mg Z T 37 "_law_many_things")
  (Zg:Jt K mg Z T 38 "_law_many_conds")
  (Zh:Jt K mg Z T 39 "_law_looking")
  (Zi:Jt K mg Z T 40 "_law_looked")
  (Zj:Jt K mg Z T 41 "_law_cells")
  (Zk:Jt K mg Z T 44 "_law_lies")
  (Zl:Jt K mg Z T 45 "_law_cond_holds")
  (Zm:Jt K mg Z T 46 "_law_things")
  (Zn:Jt K mg Z T 42 "_law_same")
  (Zo:Jt K mg Z T 43 "_law_copy")
  (Zq:Jt K mg Z T 47 "_law_truths")
  (a49:W.nsIn K Η "law" = Δ (Δ (.ref Vg))) (l49:K.lookup Vg=Δ ⟨Vj,Vh,.func (W.fnOf "law" "law" (jt (top 31)) (i8 (top 31)) (gV (top 31)) .none RF RG RH RE PV RJ),Vi⟩) (e49:W.codeIn K PV "law" = Θ) (k49:W.keepIn K (.ref Vg)=Θ)
  (z0:W.nsIn K Η "len" = Δ Φ)
  (z1:W.nsIn K Η "sum" = Δ Φ)
  (z2:W.nsIn K Η "min" = Δ Φ)
  (z3:W.nsIn K Η "max" = Δ Φ)
  (z4:W.nsIn K Η "sorted" = Δ Φ)
  (z5:W.nsIn K Η "list" = Δ Φ)
  (z6:W.nsIn K Η "tuple" = Δ Φ)
  (z7:W.nsIn K Η "ord" = Δ Φ)
  (z8:W.nsIn K Η "int" = Δ Φ)
  (z9:W.nsIn K Η "all" = Δ Φ)
  (z10:W.nsIn K Η "any" = Δ Φ)
  (z11:W.nsIn K Η "str" = Δ Φ)
  (z12:W.nsIn K Η "set" = Δ Φ)
  (z13:W.nsIn K Η "abs" = Δ Φ)
  (z14:W.nsIn K Η "isinstance" = Δ Φ)
  (z15:W.nsIn K Η "range" = Δ Φ)
  (z16:W.nsIn K Η "bool" = Δ Φ)
  (z17:W.nsIn K Η "zip" = Δ Φ)
  (z18:W.nsIn K Η "reversed" = Δ Φ)
  (z19:W.nsIn K Η "dict" = Δ Φ)
  (z20:W.nsIn K Η "enumerate" = Δ Φ) :
  ∃fd:Ο,(∀(s:Α) (v:Ψ),BindsTo s fd ⟨[v],[]⟩ [(Aw,v)])/\∀base:Heap,K.In base->base.Ns Η mg->K7 l.prog w K mg base (NN l.prog w) (14+2+1) fa fd [Aw] (Qp K (cM T (14+1)) Av [Aw]):=by
 have e:=YY.symm.trans (PySem.W.mg_of X G a49);cases e;have t:MK K mg Z T:=by
  constructor
  case Pp=>
   exact DO
  case blt=>
   exact fun n x hx=>by
    have key:∀y∈iz,mg y=Φ:=by
     intro y hy;simp only[iz,k_,T_,or_false]at hy;rcases hy with rfl|rfl|rfl|rfl|rfl|rfl|rfl|rfl|rfl|rfl|rfl|rfl|rfl|rfl|rfl|rfl|rfl|rfl|rfl|rfl|rfl
     ·exact I_ X G z0
     ·exact I_ X G z1
     ·exact I_ X G z2
     ·exact I_ X G z3
     ·exact I_ X G z4
     ·exact I_ X G z5
     ·exact I_ X G z6
     ·exact I_ X G z7
     ·exact I_ X G z8
     ·exact I_ X G z9
     ·exact I_ X G z10
     ·exact I_ X G z11
     ·exact I_ X G z12
     ·exact I_ X G z13
     ·exact I_ X G z14
     ·exact I_ X G z15
     ·exact I_ X G z16
     ·exact I_ X G z17
     ·exact I_ X G z18
     ·exact I_ X G z19
     ·exact I_ X G z20
    exact key x (aao hx)
  case cst=>
   exact fun n d x hm hx=>by have Qn:(n,d)∈([]:List (Nat×D)):=hm;simp at Qn
  case fns=>
   exact fun f hf x hx=>by
    have SO:f∈([21,22,23,25,26,27,28,24,29,48,30,31,32,33,34,35,36,37,38,39,40,41,44,45,46,42,43,47,49]:List Nat):=hf;simp only[k_,T_,or_false]at SO;rcases SO with rfl|rfl|rfl|rfl|rfl|rfl|rfl|rfl|rfl|rfl|rfl|rfl|rfl|rfl|rfl|rfl|rfl|rfl|rfl|rfl|rfl|rfl|rfl|rfl|rfl|rfl|rfl|rfl|rfl
    ·cases hx;exact YZ
    ·cases hx;exact Y0
    ·cases hx;exact Y1
    ·cases hx;exact Y2
    ·cases hx;exact Y3
    ·cases hx;exact Y4
    ·cases hx;exact Y5
    ·cases hx;exact Y6
    ·cases hx;exact Y7
    ·cases hx;exact Y8
    ·cases hx;exact Y9
    ·cases hx;exact Y'
    ·cases hx;exact Za
    ·cases hx;exact Zb
    ·cases hx;exact Zc
    ·cases hx;exact Zd
    ·cases hx;exact Ze
    ·cases hx;exact Zf
    ·cases hx;exact Zg
    ·cases hx;exact Zh
    ·cases hx;exact Zi
    ·cases hx;exact Zj
    ·cases hx;exact Zk
    ·cases hx;exact Zl
    ·cases hx;exact Zm
    ·cases hx;exact Zn
    ·cases hx;exact Zo
    ·cases hx;exact Zq
    ·cases hx;exact dfo WN rfl (fun _ _ _ _ _ _=>ln1 fun _=>rfl) X G a49 l49 e49 k49
  case WB=>
   exact fun f hf=>absurd (show f∈([]:List Nat) from hf) (by simp)
 exact⟨PySem.W.fnOf "law" "law" (jt (top 31)) (i8 (top 31)) (gV (top 31)) .none RF RG RH RE PV RJ,fun s v=>.of_eq rfl,fun base _ _=>Dt t 14 (by decide) (f:=49) (fn:=PR) rfl (qZ (st:=top 31) l49 e49 k49) (qD WN)⟩
end Law
namespace L2
open PySem PySem.Spec PyProof.Rows PySem.SeqAt
namespace Fr
variable {T:Tb}
mutual
noncomputable def pl:Nat->D->Bool
 |n+1,.tup ds=>JS n ds&&decide (ds.length < 1000)
 |n+1,.lst o ds=>!o&&(JS n ds&&decide (ds.length < 1000))
 |_+1,.Ju _ _ _=>Ξ
 |_+1,.Jy _ _ _=>Ξ
 |0,_=>Ξ
 |_+1,_=>Θ
noncomputable def JS:Nat->List D->Bool
 |_,[]=>Θ
 |n,d::ds=>pl n d&&JS n ds
end
theorem oX {n:Nat}:∀ {ds:List D},JS n ds=Θ->∀d∈ds,pl n d=Θ
 |[],_,d,hd=>by simp at hd
 |e::ds,h,d,hd=>by
  have h':=y_.mp (show(pl n e&&JS n ds)=Θ from h);rcases k_.mp hd with rfl|hd
  ·exact h'.1
  ·exact oX h'.2 d hd
theorem qE:∀(n:Nat) (d:D),pl n d=Θ->er d=d:=by
 intro n
 induction n with
 |zero=>intro d h;cases d<;>cases h
 |succ n ih=>
  have all:∀ds:List D,JS n ds=Θ->Jj ds=ds:=by
   intro ds
   induction ds with
   |nil=>intro _;rfl
   |cons e ds T6=>intro h;have h':=y_.mp (show(pl n e&&JS n ds)=Θ from h);show er e::Jj ds=_;rw[ih e h'.1,T6 h'.2]
  intro d h;cases d with
  |tup ds=>have h':=y_.mp (show(JS n ds&&decide (ds.length < 1000))=Θ from h);rw[er,all ds h'.1]
  |lst o ds=>
   have h':=y_.mp (show(!o&&(JS n ds&&decide (ds.length < 1000)))=Θ from h);have h2:=y_.mp h'.2;have ho:o=Ξ:=by simpa using h'.1
   subst ho;rw[er,all ds h2.1]
  |Ju _ _ _=>cases h
  |Jy _ _ _=>cases h
  |_=>rfl
theorem xk {n:Nat}:∀ {ds:List D},JS n ds=Θ->Jj ds=ds
 |[],_=>rfl
 |e::ds,h=>by have h':=y_.mp (show(pl n e&&JS n ds)=Θ from h);show er e::Jj ds=_;rw[qE n e h'.1,xk h'.2]
theorem mX (ds:List D):kc ds ds=ds.map fun a=>.tup [a,a]:=by
 unfold kc
 induction ds with
 |nil=>rfl
 |cons d ds ih=>rw[List.zipWith_cons_cons,ih];rfl
theorem qF:∀n:Nat,jh (Τ n (D.bl Θ))=Δ (Τ n Θ)
 |0=>rfl
 |n+1=>by rw[List.replicate_succ,List.replicate_succ];show(jh _).map _=_;rw[qF n];rfl
theorem all_true (o:Bool)(n:Nat):jy .all [.lst o (Τ n (D.bl Θ))]=.ok (.bl Θ):=by show(match jh (Τ n (D.bl Θ)) with|some bs=>.ok (.bl (bs.all id))|none=>Ji:Res D)=_;rw[qF];simp
theorem Ax {f:Nat}{fn:Fn}(hT:T f=Δ fn)(MZ:fn.io=Ξ)(h1:fn.np=2)(h2:fn.G.N.length=2)(h3:fn.body=Nz f):∀(n k:Nat) (d:D),pl n d=Θ->cM T (n+k) f [d,d]=.ok (.bl Θ):=by
 intro n
 induction n with
 |zero=>intro k d h;cases d<;>cases h
 |succ n ih=>
  intro k d h;have fm:∀ds:List D,JS n ds=Θ->gM (gO (cM T (n+k)) (.tp [(.nm 0),(.nm 1)]) [] (.call f [(.v 0),(.v 1)]) [Φ,Φ]) (kc ds ds)=.ok (Τ ds.length (D.bl Θ)):=by
   intro ds hp;rw[mX];refine(Ev.jW (fun a:D=>D.tup [a,a]) (fun _=>D.bl Θ) id ds fun x hx=>?_).trans (by rw[List.map_id,List.map_const']);have KP:=oX hp x hx;have hc:=ih k x KP;have he:=qE n x KP;have e2:Jj [x,x]=[x,x]:=by show [er x,er x]=_;rw[he]
   simp![Ev.eY,hc,e2,he,id]
  rw[show n+1+k=(n+k)+1 by omega,Ev.go hT MZ h1 h2 h3 rfl];unfold Nz;cases d with
  |Iw=>rfl
  |bl b=>exact congrArg (fun z:Bool=>(Except.ok (D.bl z):Res D)) (beq_self_eq_true b)
  |int i=>exact congrArg (fun z:Bool=>(Except.ok (D.bl z):Res D)) (beq_self_eq_true i)
  |str x=>exact congrArg (fun z:Bool=>(Except.ok (D.bl z):Res D)) (beq_self_eq_true x)
  |tup ds=>
   have h':=y_.mp (show(JS n ds&&decide (ds.length < 1000))=Θ from h);have hl:ds.length < 1000:=u_ h'.2;have hz:(kc ds ds).length=ds.length:=by rw[mX,i_]
   have e:=fm ds h'.1;have ea:=all_true Θ ds.length;unfold xj;simp![e,ea,hz]
  |lst o ds=>
   have h0:=y_.mp (show(!o&&(JS n ds&&decide (ds.length < 1000)))=Θ from h);have h':=y_.mp h0.2;have hl:ds.length < 1000:=u_ h'.2;have hz:(kc ds ds).length=ds.length:=by rw[mX,i_]
   have e:=fm ds h'.1;have ea:=all_true Θ ds.length;unfold xj;simp![e,ea,hz]
  |Ju _ _ _=>cases h
  |Jy _ _ _=>cases h
theorem J0:∀ds:List D,Jj (Jj ds)=Jj ds:=by intro ds;rw[g7,g7,Y_];exact aan fun d _=>vY d
theorem sZ {g:D->Res (Option D)}:∀(xs:List D),(∀x∈xs,∃y,g x=.ok (Δ y)/\er y=er x)->∃ys,gM g xs=.ok ys/\Jj ys=Jj xs/\ys.length=xs.length
 |[],_=>⟨[],rfl,rfl,rfl⟩
 |x::xs,h=>by obtain⟨y,h1,h2⟩:=h x (by simp);obtain⟨ys,h3,h4,h5⟩:=sZ xs fun z hz=>h z (w_ _ hz);refine⟨y::ys,?_,by show er y::Jj ys=er x::Jj xs;rw[h2,h4],by rw[List.length_cons,List.length_cons,h5]⟩;show Ii (g x) _=_;rw[h1];show Ii (gM g xs) _=_;rw[h3];rfl
theorem Ay {f:Nat}{fn:Fn}{x:Str}(hT:T f=Δ fn)(MZ:fn.io=Ξ)(h1:fn.np=1)(h2:fn.G.N.length=1)(h3:fn.body=NA f x):∀(n k:Nat) (d:D),pl n d=Θ->∃d',cM T (n+k) f [d]=.ok d'/\er d'=d:=by
 intro n
 induction n with
 |zero=>intro k d h;cases d<;>cases h
 |succ n ih=>
  intro k d h;have fm:∀ds:List D,JS n ds=Θ->∃ys,gM (gO (cM T (n+k)) (.nm 0) [] (.call f [(.v 0)]) [Φ]) ds=.ok ys/\Jj ys=ds/\ys.length=ds.length:=by
   intro ds hp;obtain⟨ys,h1,h2,h3⟩:=sZ (g:=gO (cM T (n+k)) (.nm 0) [] (.call f [(.v 0)]) [Φ]) ds fun x hx=>by
    have KP:=oX hp x hx;obtain⟨y,hc,hy⟩:=ih k x KP;have he:=qE n x KP;have e2:Jj [x]=[x]:=by show [er x]=_;rw[he]
    refine⟨y,?_,hy.trans he.symm⟩;simp![Ev.eY,hc,e2,he]
   exact⟨ys,h1,h2.trans (xk hp),h3⟩
  rw[show n+1+k=(n+k)+1 by omega,Ev.go hT MZ h1 h2 h3 rfl];unfold NA;cases d with
  |Iw=>exact⟨.Iw,rfl,rfl⟩
  |bl b=>exact⟨.bl b,rfl,rfl⟩
  |int i=>exact⟨.int i,rfl,rfl⟩
  |str z=>exact⟨.str z,rfl,rfl⟩
  |tup ds=>
   have h':=y_.mp (show(JS n ds&&decide (ds.length < 1000))=Θ from h);have hl:ds.length < 1000:=u_ h'.2;obtain⟨ys,e,hy,Zr⟩:=fm ds h'.1;unfold sY;cases lf:gD ys with
   |true=>refine⟨.tup ys,?_,by rw[er,hy]⟩;simp![e,lf]
   |false=>refine⟨.tup (Jj ys),?_,by rw[er,J0,hy]⟩;simp![e,lf]
  |lst o ds=>
   have h0:=y_.mp (show(!o&&(JS n ds&&decide (ds.length < 1000)))=Θ from h);have h':=y_.mp h0.2;have ho:o=Ξ:=by simpa using h0.1
   subst ho;have hl:ds.length < 1000:=u_ h'.2;obtain⟨ys,e,hy,Zr⟩:=fm ds h'.1;unfold sY;cases lf:gD ys with
   |true=>refine⟨.lst Θ ys,?_,by rw[er,hy]⟩;simp![e,lf]
   |false=>refine⟨.lst Θ (Jj ys),?_,by rw[er,J0,hy]⟩;simp![e,lf]
  |Ju _ _ _=>cases h
  |Jy _ _ _=>cases h
end Fr
end L2
namespace Law
open PySem PySem.Spec L2 L2.Fr
theorem same (n k:Nat){d:D}(h:pl n d=Θ):cM T (n+k) 42 [d,d]=.ok (.bl Θ):=Ax (fn:=Vd) rfl rfl rfl rfl rfl n k d h
theorem copy (n k:Nat){d:D}(h:pl n d=Θ):∃d',cM T (n+k) 43 [d]=.ok d'/\er d'=d:=Ay (fn:=Ve) (x:="_law_part") rfl rfl rfl rfl rfl n k d h
inductive Tn where
 | i (n:Int)|s (x:Str)
noncomputable def Tn.d:Tn->D
 |.i n=>.int n
 |.s x=>.str x
structure Cn where
 m:Str
 w:Str
 ts:List Tn
noncomputable def Cn.d (c:Cn):D:=.tup [.str c.m,.str c.w,.lst Ξ (c.ts.map Tn.d)]
noncomputable def gZ (r:List Cn):D:=.lst Ξ (r.map Cn.d)
structure Gp where
 n:Str
 rows:List (List Cn)
noncomputable def Gp.d (g:Gp):D:=.tup [.str g.n,.lst Ξ (g.rows.map gZ)]
structure Ru where
 cs:List Cn
 o:D
noncomputable def Ru.d (r:Ru):D:=.tup [gZ r.cs,r.o]
theorem BA:∀ts:List Tn,gD (ts.map Tn.d)=Θ
 |[]=>rfl
 |t::ts=>by show(gH t.d&&gD (ts.map Tn.d))=Θ;rw[BA ts];cases t<;>rfl
theorem mY (ts:List Tn):Jj (ts.map Tn.d)=ts.map Tn.d:=gW (BA ts)
theorem nZ (c:Cn):er c.d=c.d:=by unfold Cn.d;show D.tup [er (.str c.m),er (.str c.w),er (.lst Ξ (c.ts.map Tn.d))]=_;show D.tup [.str c.m,.str c.w,.lst Ξ (Jj (c.ts.map Tn.d))]=_;rw[mY]
theorem oY {α:Type}{e:α->D}(h:∀a,er (e a)=e a)(xs:List α):Jj (xs.map e)=xs.map e:=by rw[g7,Y_];exact aan fun a _=>h a
theorem ji (r:List Cn):Jj (r.map Cn.d)=r.map Cn.d:=oY nZ r
theorem rR (r:List Cn):er (gZ r)=gZ r:=by unfold gZ;show D.lst Ξ (Jj (r.map Cn.d))=_;rw[ji]
theorem oZ (r:List (List Cn)):Jj (r.map gZ)=r.map gZ:=oY rR r
theorem Gg (g:Gp):er g.d=g.d:=by unfold Gp.d;show D.tup [.str g.n,.lst Ξ (Jj (g.rows.map gZ))]=_;rw[oZ]
theorem jz (gs:List Gp):Jj (gs.map Gp.d)=gs.map Gp.d:=oY Gg gs
noncomputable def nD (o:Bool)(ks:List Str):D:=.Ju o (ks.map Sum.inr) (ks.map fun _=>.bl Θ)
theorem xn (x:Str):∀ks:List Str,(look (κ:=Key) (ks.map Sum.inr) (ks.map fun _=>D.bl Θ) (.inr x)).isSome=ks.contains x
 |[]=>rfl
 |k::ks=>by
  show(if(Sum.inr k:Key)=.inr x then Δ (D.bl Θ) else look (κ:=Key) (ks.map Sum.inr) (ks.map fun _=>D.bl Θ) (.inr x)).isSome=_;rw[List.contains_cons];by_cases h:k=x
  ·subst h;simp
  ·rw[d_ (fun z=>h (Sum.inr.inj z)),xn x ks];have:(x == k)=Ξ:=by simpa using fun z:x=k=>h z.symm
   rw[this,Bool.false_or]
theorem Gh:(Ξ != Θ)=Θ:=rfl
theorem Gi:(Ξ != Ξ)=Ξ:=rfl
noncomputable def RK:List IS:=[(.ext 2 (.v 5))]
noncomputable def Qt:List IS:=[(.JA (.OD Ξ (.v 3) (.v 1)) [(.Jz (.nm 5) (.val (.v 4)) RK)] [])]
theorem Gj (cl:Nat->List D->Res D)(a0 a1 a3 a4:Option D):∀(rows:List (List Cn)) (acc:List Cn) (a5:Option D),acc.length+rows.flatten.length<=1000->
  ∃Lj,forM (Ev.turn cl (.nm 5) RK) (rows.map gZ) [a0,a1,Δ (.lst Θ (acc.map Cn.d)),a3,a4,a5]=.ok (.nx [a0,a1,Δ (.lst Θ ((acc++rows.flatten).map Cn.d)),a3,a4,Lj])
 |[],acc,a5,_=>⟨a5,by rw[List.flatten_nil,v_];rfl⟩
 |r::rows,acc,a5,h=>by
  rw[List.flatten_cons,g_]at h;have e0:=rR r;have lr:(r.map Cn.d).length=r.length:=i_ ..;have la:(acc.map Cn.d).length=acc.length:=i_ ..;have e1:Ev.turn cl (.nm 5) RK (gZ r) [a0,a1,Δ (.lst Θ (acc.map Cn.d)),a3,a4,a5]=.ok (.nx [a0,a1,Δ (.lst Θ ((acc++r).map Cn.d)),a3,a4,Δ (gZ r)]):=by rw[C_];unfold RK gZ;have e2:=ji r;simp![Ev.eY,e2,lr,la]
  obtain⟨Lj,e2⟩:=Gj cl a0 a1 a3 a4 rows (acc++r) (Δ (gZ r)) (by rw[g_];omega);refine⟨Lj,?_⟩;rw[b_,Ev.cI,e1,Ev.cJ,Ev.cK,e2,List.flatten_cons,r_]
noncomputable def Kr (p:Str->Bool):List Gp->List Cn
 |[]=>[]
 |g::gs=>(if p g.n=Θ then g.rows.flatten else [])++Kr p gs
theorem xo (cl:Nat->List D->Res D)(a0:Option D)(ks:List Str):∀(gs:List Gp) (acc:List Cn) (a3 a4 a5:Option D),acc.length+(Kr ks.contains gs).length<=1000->
  ∃Vk RL Lj,forM (Ev.turn cl (.tp [(.nm 3),(.nm 4)]) Qt) (gs.map Gp.d) [a0,Δ (nD Ξ ks),Δ (.lst Θ (acc.map Cn.d)),a3,a4,a5]=.ok (.nx [a0,Δ (nD Ξ ks),Δ (.lst Θ ((acc++Kr ks.contains gs).map Cn.d)),Vk,RL,Lj])
 |[],acc,a3,a4,a5,_=>⟨a3,a4,a5,by show _=_;rw[show Kr ks.contains []=[] from rfl,v_];rfl⟩
 |g::gs,acc,a3,a4,a5,h=>by
  have hg:Kr ks.contains (g::gs)=(if ks.contains g.n=Θ then g.rows.flatten else [])++Kr ks.contains gs:=rfl;rw[hg,g_]at h;have hl:=xn g.n ks;have M7:=oZ g.rows;cases hk:ks.contains g.n with
  |true=>
   rw[hk,e_ rfl]at h;rw[hk]at hl;obtain⟨Lj,e5⟩:=Gj cl a0 (Δ (nD Ξ ks)) (Δ (.str g.n)) (Δ (.lst Ξ (g.rows.map gZ))) g.rows acc a5 (by omega);have e1:Ev.turn cl (.tp [(.nm 3),(.nm 4)]) Qt g.d [a0,Δ (nD Ξ ks),Δ (.lst Θ (acc.map Cn.d)),a3,a4,a5]=.ok (.nx [a0,Δ (nD Ξ ks),Δ (.lst Θ ((acc++g.rows.flatten).map Cn.d)),Δ (.str g.n),Δ (.lst Ξ (g.rows.map gZ)),Lj]):=by unfold nD at e5 ⊢;unfold Qt Gp.d;simp![Ev.eY,hl,M7,e5,Gh]
   obtain⟨b3,b4,b5,e2⟩:=xo cl a0 ks gs (acc++g.rows.flatten) (Δ (.str g.n)) (Δ (.lst Ξ (g.rows.map gZ))) Lj (by rw[g_];omega);refine⟨b3,b4,b5,?_⟩;rw[b_,Ev.cI,e1,Ev.cJ,Ev.cK,e2,hg,hk,e_ rfl,r_]
  |false=>
   rw[hk,d_ p_]at h;rw[hk]at hl;have e1:Ev.turn cl (.tp [(.nm 3),(.nm 4)]) Qt g.d [a0,Δ (nD Ξ ks),Δ (.lst Θ (acc.map Cn.d)),a3,a4,a5]=.ok (.nx [a0,Δ (nD Ξ ks),Δ (.lst Θ (acc.map Cn.d)),Δ (.str g.n),Δ (.lst Ξ (g.rows.map gZ)),a5]):=by unfold nD;unfold Qt Gp.d;simp![Ev.eY,hl,M7,Gi]
   obtain⟨b3,b4,b5,e2⟩:=xo cl a0 ks gs acc (Δ (.str g.n)) (Δ (.lst Ξ (g.rows.map gZ))) a5 (by rw[List.length_nil]at h;omega);refine⟨b3,b4,b5,?_⟩;rw[b_,Ev.cI,e1,Ev.cJ,Ev.cK,e2,hg,hk,d_ p_,List.nil_append]
theorem JG {n:Nat}{ds:List D}(f:Nat)(fn:Fn)(m k:Nat)(body:List IS)(h:T f=Δ fn)(h0:fn.io=Ξ)(h1:fn.np=m)(h2:fn.G.N.length=k)(h3:fn.body=body)(hl:ds.length=m):cM T (n+1) f ds=Ii (iy (cM T n) body (ds.map Δ++Τ (k - m) Φ)) Ev.As:=Ev.go h h0 h1 h2 h3 hl
theorem qG (n:Nat)(gs:List Gp)(ks:List Str)(h:(Kr ks.contains gs).length<=1000):cM T (n+1) 22 [.lst Ξ (gs.map Gp.d),nD Ξ ks]=.ok (.lst Θ ((Kr ks.contains gs).map Cn.d)):=by obtain⟨a3,a4,a5,e⟩:=xo (cM T n) (Δ (.lst Ξ (gs.map Gp.d))) ks gs [] Φ Φ Φ (by simpa using h);rw[List.map_nil,List.nil_append]at e;have M7:=jz gs;rw[JG 22 US 2 6 UR rfl rfl rfl rfl rfl rfl];unfold UR;unfold Qt RK at e;simp![e,M7]
noncomputable def io (c:Cn):Bool:=(Ρ "in" == c.w)||(Ρ "out" == c.w)
noncomputable def kO (ks:List Str)(x:Str):List Str:=if ks.contains x=Θ then ks else ks++[x]
theorem xp (x:Str):∀ks:List Str,mJ (κ:=Key) (ks.map Sum.inr) (.inr x)=ks.contains x
 |[]=>rfl
 |k::ks=>by
  show(decide ((Sum.inr k:Key)=.inr x)||mJ (κ:=Key) (ks.map Sum.inr) (.inr x))=_;rw[List.contains_cons,xp x ks];by_cases h:k=x
  ·subst h;simp
  ·have h1:decide ((Sum.inr k:Key)=.inr x)=Ξ:=H_ fun z=>h (Sum.inr.inj z);have h2:(x == k)=Ξ:=by simpa using fun z:x=k=>h z.symm
   rw[h1,h2]
theorem MI (ks:List Str)(x:Str):iB (κ:=Key) (ks.map Sum.inr) (.inr x)=(kO ks x).map Sum.inr:=by
 unfold iB kO;rw[xp];cases ks.contains x
 ·simp
 ·rfl
theorem tf (q:Key):∀ks:List Str,List.zipWith (fun(k:Key) (e:D)=>if k=q then D.bl Θ else e) (ks.map Sum.inr) (ks.map fun _=>D.bl Θ)=ks.map fun _=>D.bl Θ
 |[]=>rfl
 |k::ks=>by rw[b_,b_,List.zipWith_cons_cons,tf q ks];split<;>rfl
theorem Gk (ks:List Str)(x:Str):iR (κ:=Key) (ks.map Sum.inr) (ks.map fun _=>D.bl Θ) (.inr x) (.bl Θ)=(kO ks x).map fun _=>D.bl Θ:=by
 unfold iR kO;rw[xp];cases ks.contains x
 ·simp
 ·rw[e_ rfl,e_ rfl,tf]
theorem Gn (ks:List Str):gD (ks.map fun _=>D.bl Θ)=Θ:=by
 induction ks with
 |nil=>rfl
 |cons k ks ih=>show(Θ&&gD (ks.map fun _=>D.bl Θ))=Θ;rw[ih];rfl
theorem HP (ks:List Str):er (nD Θ ks)=nD Ξ ks:=by unfold nD;show D.Ju Ξ _ (Jj _)=_;rw[gW (Gn ks)]
theorem qH (ks:List Str)(x:Str):(kO ks x).length<=ks.length+1:=by
 unfold kO;split
 ·omega
 ·rw[g_];exact l_ _
theorem S2 (c:Cn):iq c.d (.int 0)=.ok (.str c.m):=rfl
theorem S3 (c:Cn):iq c.d (.int 1)=.ok (.str c.w):=rfl
theorem Zs (c:Cn):iq c.d (.int 2)=.ok (.lst Ξ (c.ts.map Tn.d)):=rfl
noncomputable def OM:List IS:=[(.JA (.cmp .Lp (.idx (.v 5) (.c (.int 1))) (.tup [(.c (.str "in")),(.c (.str "out"))])) [(.Mq 3 (.idx (.v 5) (.c (.int 0))) (.c (.bl Θ)))] [(.app 2 (.v 5))])]
noncomputable def RM:List IS:=[(.Jz (.nm 5) (.val (.idx (.v 4) (.c (.int 0)))) OM)]
noncomputable def KW (ks:List Str)(cs:List Cn):List Str:=(cs.filter io).foldl (fun k c=>kO k c.m) ks
theorem ti (ks:List Str)(c:Cn)(cs:List Cn):KW ks (c::cs)=KW (if io c=Θ then kO ks c.m else ks) cs:=by unfold KW;rw[List.filter_cons];split<;>rfl
theorem DP (cl:Nat->List D->Res D)(a0 a1 a4:Option D):∀(cs acc:List Cn) (ks:List Str) (a5:Option D),acc.length+cs.length<=1000->ks.length+cs.length<=1000->
  ∃Lj,forM (Ev.turn cl (.nm 5) OM) (cs.map Cn.d) [a0,a1,Δ (.lst Θ (acc.map Cn.d)),Δ (nD Θ ks),a4,a5]=.ok (.nx [a0,a1,Δ (.lst Θ ((acc++cs.filter (fun c=>!io c)).map Cn.d)),Δ (nD Θ (KW ks cs)),a4,Lj])
 |[],acc,ks,a5,_,_=>⟨a5,by rw[List.filter_nil,v_];rfl⟩
 |c::cs,acc,ks,a5,h,h'=>by
  rw[List.length_cons]at h h';have la:(acc.map Cn.d).length=acc.length:=i_ ..;have x0:=S2 c;have x1:=S3 c;have ce:=nZ c;cases hc:io c with
  |true=>
   have hd:Ev.sU cl 3 (.idx (.v 5) (.c (.int 0))) [a0,a1,Δ (.lst Θ (acc.map Cn.d)),Δ (nD Θ ks),a4,Δ c.d] (.bl Θ) (Δ (nD Θ ks))=.ok (.nx [a0,a1,Δ (.lst Θ (acc.map Cn.d)),Δ (nD Θ (kO ks c.m)),a4,Δ c.d]):=by unfold nD;rw[Ev.oU (x:=c.m) (by simp![x0]) (by rw[Gn,i_,Ev.rP (by omega)];rfl),MI,Gk];rfl
   have e1:Ev.turn cl (.nm 5) OM c.d [a0,a1,Δ (.lst Θ (acc.map Cn.d)),Δ (nD Θ ks),a4,a5]=.ok (.nx [a0,a1,Δ (.lst Θ (acc.map Cn.d)),Δ (nD Θ (kO ks c.m)),a4,Δ c.d]):=by
    unfold io at hc;unfold OM;cases w1:(Ρ "in" == c.w) with
    |true=>
     cases w2:(Ρ "out" == c.w) with
     |true=>simp![Ev.eY,w1,w2,hd,x1]
     |false=>simp![Ev.eY,w1,w2,hd,x1]
    |false=>rw[w1,Bool.false_or]at hc;simp![Ev.eY,w1,hc,hd,x1]
   obtain⟨Lj,e2⟩:=DP cl a0 a1 a4 cs acc (kO ks c.m) (Δ c.d) (by omega) (by have:=qH ks c.m;omega);refine⟨Lj,?_⟩;rw[b_,Ev.cI,e1,Ev.cJ,Ev.cK,e2,List.filter_cons,ti,hc];rfl
  |false=>
   have e1:Ev.turn cl (.nm 5) OM c.d [a0,a1,Δ (.lst Θ (acc.map Cn.d)),Δ (nD Θ ks),a4,a5]=.ok (.nx [a0,a1,Δ (.lst Θ ((acc++[c]).map Cn.d)),Δ (nD Θ ks),a4,Δ c.d]):=by unfold io at hc;have M4:=Bool.or_eq_false_iff.mp hc;have w1:=M4.1;have w2:=M4.2;rw[C_,b_,List.map_nil];unfold OM;simp![Ev.eY,w1,w2,x1,ce,la]
   obtain⟨Lj,e2⟩:=DP cl a0 a1 a4 cs (acc++[c]) ks (Δ c.d) (by rw[g_,V_];omega) (by omega);refine⟨Lj,?_⟩;rw[b_,Ev.cI,e1,Ev.cJ,Ev.cK,e2,List.filter_cons,ti,hc];simp
noncomputable def gU (rs:List Ru):List Cn:=rs.flatMap Ru.cs
theorem Az (ks:List Str)(a b:List Cn):KW (KW ks a) b=KW ks (a++b):=by unfold KW;rw[List.filter_append,List.foldl_append]
theorem tj:∀(cs:List Cn) (ks:List Str),(KW ks cs).length<=ks.length+cs.length
 |[],ks=>l_ _
 |c::cs,ks=>by rw[ti,List.length_cons];have h:=tj cs (if io c=Θ then kO ks c.m else ks);have h2:=qH ks c.m;split at h<;>(rename_i q;simp only[q,if_true,if_false]at h ⊢;simp_all;omega)
theorem Zt (r:Ru):iq r.d (.int 0)=.ok (.lst Ξ (r.cs.map Cn.d)):=rfl
theorem BB {r:Ru}(h:er r.o=r.o):er r.d=r.d:=by unfold Ru.d;show D.tup [er (gZ r.cs),er r.o]=_;rw[rR,h]
theorem BC (cl:Nat->List D->Res D)(a0 a1:Option D):∀(rs:List Ru) (acc:List Cn) (ks:List Str) (a4 a5:Option D),(∀r∈rs,er r.o=r.o)->acc.length+(gU rs).length<=1000->ks.length+(gU rs).length<=1000->
  ∃RL Lj,forM (Ev.turn cl (.nm 4) RM) (rs.map Ru.d) [a0,a1,Δ (.lst Θ (acc.map Cn.d)),Δ (nD Θ ks),a4,a5]=.ok (.nx [a0,a1,Δ (.lst Θ ((acc++(gU rs).filter (fun c=>!io c)).map Cn.d)),Δ (nD Θ (KW ks (gU rs))),RL,Lj])
 |[],acc,ks,a4,a5,_,_,_=>⟨a4,a5,by show _=_;rw[show gU []=[] from rfl,List.filter_nil,v_];rfl⟩
 |r::rs,acc,ks,a4,a5,ho,h,h'=>by
  have hr:gU (r::rs)=r.cs++gU rs:=rfl;rw[hr,g_]at h h';obtain⟨b5,e5⟩:=DP cl a0 a1 (Δ r.d) r.cs acc ks a5 (by omega) (by omega);have x0:=Zt r;have re:=BB (ho r (by simp));have ce:=ji r.cs;have e1:Ev.turn cl (.nm 4) RM r.d [a0,a1,Δ (.lst Θ (acc.map Cn.d)),Δ (nD Θ ks),a4,a5]=.ok (.nx [a0,a1,Δ (.lst Θ ((acc++r.cs.filter (fun c=>!io c)).map Cn.d)),Δ (nD Θ (KW ks r.cs)),Δ r.d,b5]):=by unfold RM;simp![Ev.eY,x0,re,ce,e5]
  have hf:=List.length_filter_le (fun c=>!io c) r.cs;obtain⟨b4,c5,e2⟩:=BC cl a0 a1 rs (acc++r.cs.filter (fun c=>!io c)) (KW ks r.cs) (Δ r.d) b5 (fun z hz=>ho z (w_ _ hz)) (by rw[g_];omega) (by have:=tj r.cs ks;omega);refine⟨b4,c5,?_⟩;rw[b_,Ev.cI,e1,Ev.cJ,Ev.cK,e2,hr,List.filter_append,Az,r_]
noncomputable def lk (gs:List Gp)(rs:List Ru):List Cn:=(gU rs).filter (fun c=>!io c)++Kr (KW [] (gU rs)).contains gs
structure Hd (gs:List Gp)(rs:List Ru)(sw:D):Prop where
 ix:iq sw (.int 2)=.ok (.lst Ξ (rs.map Ru.d))
 er:L2.er sw=sw
 ro:∀r∈rs,L2.er r.o=r.o
 l1:(gU rs).length<=100
 l2:(Kr (KW [] (gU rs)).contains gs).length<=100
theorem rS {rs:List Ru}(h:∀r∈rs,er r.o=r.o):Jj (rs.map Ru.d)=rs.map Ru.d:=by rw[g7,Y_];exact aan fun r hr=>BB (h r hr)
theorem looked (n:Nat){gs:List Gp}{rs:List Ru}{sw:D}(H:Hd gs rs sw):cM T (n+2) 23 [.lst Ξ (gs.map Gp.d),sw]=.ok (.lst Θ ((lk gs rs).map Cn.d)):=by
 have h1:=H.l1;have h2:=H.l2;obtain⟨a4,a5,e⟩:=BC (cM T (n+1)) (Δ (.lst Ξ (gs.map Gp.d))) (Δ sw) rs [] [] Φ Φ H.ro (by simpa using(by omega:(gU rs).length<=1000)) (by simpa using(by omega:(gU rs).length<=1000));rw[List.map_nil,List.nil_append]at e;have eg:=qG n gs (KW [] (gU rs)) (by omega);have ne:=HP (KW [] (gU rs));have ge:=jz gs;have re:=rS H.ro;have se:=H.er;have sx:=H.ix;have hf:=List.length_filter_le (fun c=>!io c) (gU rs);have hl:(((gU rs).filter (fun c=>!io c)).map Cn.d).length=((gU rs).filter (fun c=>!io c)).length:=i_ ..;have Qe:((Kr (KW [] (gU rs)).contains gs).map Cn.d).length=(Kr (KW [] (gU rs)).contains gs).length:=i_ ..;unfold lk;rw[C_];have ce:Jj (((gU rs).filter (fun c=>!io c)).map Cn.d++(Kr (KW [] (gU rs)).contains gs).map Cn.d)=((gU rs).filter (fun c=>!io c)).map Cn.d++(Kr (KW [] (gU rs)).contains gs).map Cn.d:=by rw[<- C_];exact ji _
 have nd:D.Ju Θ [] []=nD Θ []:=rfl;cases lf:gD (((gU rs).filter (fun c=>!io c)).map Cn.d++(Kr (KW [] (gU rs)).contains gs).map Cn.d) with
 |true=>rw[JG 23 SS 2 6 Rq rfl rfl rfl rfl rfl rfl];unfold Rq;unfold RM OM at e;simp![nd,sx,se,re,e,eg,ne,ge,hl,Qe,lf]
 |false=>rw[JG 23 SS 2 6 Rq rfl rfl rfl rfl rfl rfl];unfold Rq;unfold RM OM at e;simp![nd,sx,se,re,e,eg,ne,ge,hl,Qe,lf,ce]
theorem BD (w:Str):∀ws:List Str,Jx (.str w) (ws.map .str)=.ok (ws.any (· == w))
 |[]=>rfl
 |x::ws=>by show Ii (.ok (x == w)) (fun a=>Ii (Jx (.str w) (ws.map .str)) fun b=>.ok (a||b))=_;rw[BD w ws];rfl
theorem HQ (w:Str)(ws:List Str):Kl .Lp (.str w) (.tup (ws.map .str))=.ok (ws.any (· == w)):=BD w ws
noncomputable def tT:List IS:=[(.JA (.Js (.cmp .eq (.idx (.v 5) (.c (.int 0))) (.v 2)) (.cmp .Lp (.idx (.v 5) (.c (.int 1))) (.v 3))) [(.ext 4 (.idx (.v 5) (.c (.int 2))))] [])]
noncomputable def hit (mk:Str)(ws:List Str)(c:Cn):Bool:=(c.m == mk)&&ws.any (· == c.w)
noncomputable def tt (mk:Str)(ws:List Str)(cs:List Cn):List Tn:=(cs.filter (hit mk ws)).flatMap Cn.ts
theorem DQ (cl:Nat->List D->Res D)(a0 a1:Option D)(mk:Str)(ws:List Str):∀(cs:List Cn) (acc:List Tn) (a5:Option D),acc.length+(cs.flatMap Cn.ts).length<=1000->
  ∃Lj,forM (Ev.turn cl (.nm 5) tT) (cs.map Cn.d) [a0,a1,Δ (.str mk),Δ (.tup (ws.map .str)),Δ (.lst Θ (acc.map Tn.d)),a5]=.ok (.nx [a0,a1,Δ (.str mk),Δ (.tup (ws.map .str)),Δ (.lst Θ ((acc++tt mk ws cs).map Tn.d)),Lj])
 |[],acc,a5,_=>⟨a5,by show _=_;rw[show tt mk ws []=[] from rfl,v_];rfl⟩
 |c::cs,acc,a5,h=>by
  rw[List.flatMap_cons,g_]at h;have x0:=S2 c;have x1:=S3 c;have x2:=Zs c;have ce:=nZ c;have te:=mY c.ts;have iw:=HQ c.w ws;have la:(acc.map Tn.d).length=acc.length:=i_ ..;have lt:(c.ts.map Tn.d).length=c.ts.length:=i_ ..;cases hh:hit mk ws c with
  |true=>
   have WO:=y_.mp hh;have q1:=WO.1;have q2:=WO.2;have e1:Ev.turn cl (.nm 5) tT c.d [a0,a1,Δ (.str mk),Δ (.tup (ws.map .str)),Δ (.lst Θ (acc.map Tn.d)),a5]=.ok (.nx [a0,a1,Δ (.str mk),Δ (.tup (ws.map .str)),Δ (.lst Θ ((acc++c.ts).map Tn.d)),Δ c.d]):=by rw[C_];unfold tT;simp![Ev.eY,x0,x1,x2,ce,te,iw,q1,q2,la,lt]
   obtain⟨b5,e2⟩:=DQ cl a0 a1 mk ws cs (acc++c.ts) (Δ c.d) (by rw[g_];omega);refine⟨b5,?_⟩;have ht:tt mk ws (c::cs)=c.ts++tt mk ws cs:=by unfold tt;rw[List.filter_cons,hh,e_ rfl,List.flatMap_cons]
   rw[b_,Ev.cI,e1,Ev.cJ,Ev.cK,e2,ht,r_]
  |false=>
   have ht:tt mk ws (c::cs)=tt mk ws cs:=by unfold tt;rw[List.filter_cons,hh];rfl
   have e1:Ev.turn cl (.nm 5) tT c.d [a0,a1,Δ (.str mk),Δ (.tup (ws.map .str)),Δ (.lst Θ (acc.map Tn.d)),a5]=.ok (.nx [a0,a1,Δ (.str mk),Δ (.tup (ws.map .str)),Δ (.lst Θ (acc.map Tn.d)),Δ c.d]):=by
    unfold tT;unfold hit at hh;cases q1:(c.m == mk) with
    |true=>rw[q1,Bool.true_and]at hh;simp![Ev.eY,x0,x1,ce,iw,q1,hh]
    |false=>simp![Ev.eY,x0,ce,q1]
   obtain⟨b5,e2⟩:=DQ cl a0 a1 mk ws cs acc (Δ c.d) (by omega);refine⟨b5,?_⟩;rw[b_,Ev.cI,e1,Ev.cJ,Ev.cK,e2,ht]
theorem told (n:Nat){gs:List Gp}{rs:List Ru}{sw:D}(H:Hd gs rs sw)(hn:((lk gs rs).flatMap Cn.ts).length<=1000)(mk:Str)(ws:List Str) :
  cM T (n+3) 25 [.lst Ξ (gs.map Gp.d),sw,.str mk,.tup (ws.map .str)]=.ok (.lst Θ ((tt mk ws (lk gs rs)).map Tn.d)):=by
 have el:=looked n H;obtain⟨a5,e⟩:=DQ (cM T (n+2)) (Δ (.lst Ξ (gs.map Gp.d))) (Δ sw) mk ws (lk gs rs) [] Φ (by simpa using hn);rw[List.map_nil,List.nil_append]at e;have ge:=jz gs;have se:=H.er;have ce:=ji (lk gs rs);rw[JG 25 UU 4 6 UT rfl rfl rfl rfl rfl rfl];unfold UT;unfold tT at e;simp![el,ge,se,ce,e]
theorem qI:∀xs:List Int,ik (xs.map .int)=Δ xs
 |[]=>rfl
 |x::xs=>by show(ik (xs.map .int)).map (x::·)=_;rw[qI xs];rfl
theorem xq:∀xs:List Str,ia (xs.map .str)=Δ xs
 |[]=>rfl
 |x::xs=>by show(ia (xs.map .str)).map (x::·)=_;rw[xq xs];rfl
theorem xr {o:Bool}{xs:List Int}(h:xs.length < 64):qi (.lst o (xs.map .int))=.ok (.lst Θ ((PySem.W.sortI (dd xs)).map .int)):=by show(match ik (xs.map .int) with|some ns=>Iy (decide (ns.length < 64)) (.ok (.lst Θ ((PySem.W.sortI (dd ns)).map .int)))|none=>match ia (xs.map .int) with|some ns=>Iy (decide (ns.length < 64)) (.ok (.lst Θ ((i5 (Mf ns)).map .str)))|none=>Ji:Res D)=_;rw[qI];show Iy (decide (xs.length < 64)) _=_;rw[B_ h];rfl
theorem o4 {o:Bool}{xs:List Str}(h:xs.length < 64):qi (.lst o (xs.map .str))=.ok (.lst Θ ((i5 (Mf xs)).map .str)):=by
 show(match ik (xs.map .str) with|some ns=>Iy (decide (ns.length < 64)) (.ok (.lst Θ ((PySem.W.sortI (dd ns)).map .int)))|none=>match ia (xs.map .str) with|some ns=>Iy (decide (ns.length < 64)) (.ok (.lst Θ ((i5 (Mf ns)).map .str)))|none=>Ji:Res D)=_;cases xs with
 |nil=>rfl
 |cons x xs=>rw[show ik ((x::xs).map D.str)=Φ from rfl];show(match ia ((x::xs).map .str) with|some ns=>Iy (decide (ns.length < 64)) (.ok (.lst Θ ((i5 (Mf ns)).map .str)))|none=>Ji:Res D)=_;rw[xq];show Iy (decide ((x::xs).length < 64)) _=_;rw[B_ h];rfl
noncomputable def sS (xs:List Str):List Str:=i5 (Mf xs)
noncomputable def sI (xs:List Int):List Int:=PySem.W.sortI (dd xs)
noncomputable def K4:List Tn->List Str
 |[]=>[]
 |.s x::r=>x::K4 r
 |.i _::r=>K4 r
noncomputable def ins:List Tn->List Int
 |[]=>[]
 |.i x::r=>x::ins r
 |.s _::r=>ins r
theorem ja:∀ts:List Tn,(K4 ts).length<=ts.length
 |[]=>l_ _
 |.s x::r=>Nat.succ_le_succ (ja r)
 |.i _::r=>Nat.le_succ_of_le (ja r)
theorem jb:∀ts:List Tn,(ins ts).length<=ts.length
 |[]=>l_ _
 |.i x::r=>Nat.succ_le_succ (jb r)
 |.s _::r=>Nat.le_succ_of_le (jb r)
theorem iM {g:D->Res (Option D)}{x y:D}{xs ys:List D}(h:g x=.ok (Δ y))(k:gM g xs=.ok ys):gM g (x::xs)=.ok (y::ys):=by show Ii (g x) _=_;rw[h];show Ii (gM g xs) _=_;rw[k];rfl
theorem jg {g:D->Res (Option D)}{x:D}{xs ys:List D}(h:g x=.ok Φ)(k:gM g xs=.ok ys):gM g (x::xs)=.ok ys:=by show Ii (g x) _=_;rw[h];exact k
theorem xu (cl:Nat->List D->Res D):∀ts:List Tn,gM (gO cl (.nm 0) [(.J2 (.v 0) .str)] (.v 0) [Φ]) (ts.map Tn.d)=.ok ((K4 ts).map .str)
 |[]=>rfl
 |.s x::r=>iM (show gO cl (.nm 0) [(.J2 (.v 0) .str)] (.v 0) [Φ] (.str x)=.ok (Δ (.str x)) from rfl) (xu cl r)
 |.i x::r=>jg (show gO cl (.nm 0) [(.J2 (.v 0) .str)] (.v 0) [Φ] (.int x)=.ok Φ from rfl) (xu cl r)
theorem AA (n:Nat)(x:Int):cM T (n+1) 21 [.int x]=.ok (.bl Θ):=by rw[JG 21 SR 1 1 Rp rfl rfl rfl rfl rfl rfl];unfold Rp;simp![Jh]
theorem AB (n:Nat)(x:Str):cM T (n+1) 21 [.str x]=.ok (.bl Ξ):=by rw[JG 21 SR 1 1 Rp rfl rfl rfl rfl rfl rfl];unfold Rp;simp![Jh]
theorem xw (n:Nat):∀ts:List Tn,gM (gO (cM T (n+1)) (.nm 0) [(.call 21 [(.v 0)])] (.v 0) [Φ]) (ts.map Tn.d)=.ok ((ins ts).map .int)
 |[]=>rfl
 |.i x::r=>iM (show gO (cM T (n+1)) (.nm 0) [(.call 21 [(.v 0)])] (.v 0) [Φ] (.int x)=.ok (Δ (.int x)) by
   have w:=AA n x
   simp![Ev.eY,w]) (xw n r)
 |.s x::r=>jg (show gO (cM T (n+1)) (.nm 0) [(.call 21 [(.v 0)])] (.v 0) [Φ] (.str x)=.ok Φ by
   have w:=AB n x
   simp![Ev.eY,w]) (xw n r)
noncomputable def Kf:List Str:=[Ρ "is",Ρ "not"]
noncomputable def ML:List Str:=[Ρ "begins"]
noncomputable def L6:List Str:=[Ρ "least"]
noncomputable def LP:List Str:=[Ρ "most"]
structure Ok (cs:List Cn):Prop where
 be:∀c∈cs,c.w=Ρ "begins"->∀t∈c.ts,∃x,t=.s x
 le:∀c∈cs,c.w=Ρ "least"->∀t∈c.ts,∃x,t=.i x
 mo:∀c∈cs,c.w=Ρ "most"->∀t∈c.ts,∃x,t=.i x
 K9:(cs.flatMap Cn.ts).length<=20
 fc:cs.length < 64
theorem kr (mk:Str)(ws:List Str):∀cs:List Cn,(tt mk ws cs).length<=(cs.flatMap Cn.ts).length
 |[]=>l_ _
 |c::cs=>by
  have ih:=kr mk ws cs;unfold tt at ih ⊢;rw[List.filter_cons,List.flatMap_cons,g_];split
  ·rw[List.flatMap_cons,g_];omega
  ·omega
theorem jA {mk:Str}{ws:List Str}{cs:List Cn}{t:Tn}:t∈tt mk ws cs↔∃c∈cs,hit mk ws c=Θ/\t∈c.ts:=by
 unfold tt;rw[List.mem_flatMap];constructor
 ·rintro⟨c,h1,h2⟩;rw[List.mem_filter]at h1;exact⟨c,h1.1,h1.2,h2⟩
 ·rintro⟨c,h1,h2,h3⟩;exact⟨c,List.mem_filter.mpr ⟨h1,h2⟩,h3⟩
theorem BE:∀ {ts:List Tn},(∀t∈ts,∃x,t=.s x)->ts.map Tn.d=(K4 ts).map .str
 |[],_=>rfl
 |t::r,h=>by obtain⟨x,rfl⟩:=h t (by simp);show D.str x::r.map Tn.d=D.str x::(K4 r).map .str;rw[BE fun t ht=>h t (w_ _ ht)]
theorem xx:∀ {ts:List Tn},(∀t∈ts,∃x,t=.i x)->ts.map Tn.d=(ins ts).map .int
 |[],_=>rfl
 |t::r,h=>by obtain⟨x,rfl⟩:=h t (by simp);show D.int x::r.map Tn.d=D.int x::(ins r).map .int;rw[xx fun t ht=>h t (w_ _ ht)]
theorem qJ {w x:Str}(h:[x].any (· == w)=Θ):w=x:=by simp at h;exact h.symm
theorem Gq {mk:Str}{cs:List Cn}(o:Ok cs):(tt mk ML cs).map Tn.d=(K4 (tt mk ML cs)).map .str:=BE fun t ht=>by obtain⟨c,h1,h2,h3⟩:=jA.mp ht;exact o.be c h1 (qJ (y_.mp h2).2) t h3
theorem Gr {mk:Str}{cs:List Cn}(o:Ok cs):(tt mk L6 cs).map Tn.d=(ins (tt mk L6 cs)).map .int:=xx fun t ht=>by obtain⟨c,h1,h2,h3⟩:=jA.mp ht;exact o.le c h1 (qJ (y_.mp h2).2) t h3
theorem Gs {mk:Str}{cs:List Cn}(o:Ok cs):(tt mk LP cs).map Tn.d=(ins (tt mk LP cs)).map .int:=xx fun t ht=>by obtain⟨c,h1,h2,h3⟩:=jA.mp ht;exact o.mo c h1 (qJ (y_.mp h2).2) t h3
variable {gs:List Gp}{rs:List Ru}{sw:D}
noncomputable def M0 (mk:Str)(cs:List Cn):List Str:=sS (K4 (tt mk Kf cs))
noncomputable def LQ (mk:Str)(cs:List Cn):List Str:=sS (Ρ ""::K4 (tt mk ML cs))
noncomputable def Lu (mk:Str)(cs:List Cn):List Int:=sI (ins (tt mk Kf cs)++ins (tt mk L6 cs)++(ins (tt mk Kf cs)++ins (tt mk LP cs)).map (· + 1))
theorem xA (n:Nat)(H:Hd gs rs sw)(o:Ok (lk gs rs))(mk:Str):cM T (n+4) 26 [.lst Ξ (gs.map Gp.d),sw,.str mk]=.ok (.lst Ξ ((M0 mk (lk gs rs)).map .str)):=by have K9:=o.K9;have tl:=kr mk Kf (lk gs rs);have xl:=ja (tt mk Kf (lk gs rs));have et:=told n H (by omega) mk Kf;unfold Kf at et;have ge:=jz gs;have se:=H.er;have ss:=o4 (o:=Θ) (xs:=K4 (tt mk Kf (lk gs rs))) (by omega);have f:=xu (cM T (n+3)) (tt mk Kf (lk gs rs));have ll:((tt mk Kf (lk gs rs)).map Tn.d).length=(tt mk Kf (lk gs rs)).length:=i_ ..;have nl:g9 (.sset (.comp {N:=["thing"],kd:=[.local],gl:=[14,11],df:=Ξ} [] (.nm 0) (.val (.v 3)) [(.J2 (.v 0) .str)] (.v 0)))=Ξ:=rfl;unfold M0 sS;unfold Kf at *;rw[b_,b_,List.map_nil]at et;rw[JG 26 UX 3 4 UW rfl rfl rfl rfl rfl rfl];unfold UW;simp![et,ge,se,ss,f,ll,nl]
theorem xB (n:Nat)(H:Hd gs rs sw)(o:Ok (lk gs rs))(mk:Str):cM T (n+4) 27 [.lst Ξ (gs.map Gp.d),sw,.str mk]=.ok (.lst Ξ ((LQ mk (lk gs rs)).map .str)):=by have K9:=o.K9;have tl:=kr mk ML (lk gs rs);have xl:=ja (tt mk ML (lk gs rs));have et:=told n H (by omega) mk ML;rw[Gq o]at et;have ge:=jz gs;have se:=H.er;have ss:=o4 (o:=Θ) (xs:=Ρ ""::K4 (tt mk ML (lk gs rs))) (by rw[List.length_cons];omega);rw[b_]at ss;have ll:((K4 (tt mk ML (lk gs rs))).map D.str).length=(K4 (tt mk ML (lk gs rs))).length:=i_ ..;have nl:g9 (.sset (.bin .add (.lst [(.c (.str ""))]) (.call 25 [(.v 0),(.v 1),(.v 2),(.tup [(.c (.str "begins"))])])))=Ξ:=rfl;unfold LQ sS;unfold ML at *;rw[b_,List.map_nil]at et;rw[JG 27 UZ 3 3 UY rfl rfl rfl rfl rfl rfl];unfold UY;simp![et,ge,se,ss,ll,nl]
end Law
namespace Law
open PySem PySem.Spec L2 L2.Fr
variable {gs:List Gp}{rs:List Ru}{sw:D}
theorem Gu {mk:Str}{c:Cn}(h:hit mk L6 c=Θ):hit mk Kf c=Ξ/\hit mk LP c=Ξ:=by
 have hw:=qJ (y_.mp h).2;unfold hit;rw[hw];have h1:Kf.any (· == Ρ "least")=Ξ:=by decide +kernel
 have h2:LP.any (· == Ρ "least")=Ξ:=by decide +kernel
 rw[h1,h2,Bool.and_false];exact⟨rfl,rfl⟩
theorem Gv {mk:Str}{c:Cn}(h:hit mk LP c=Θ):hit mk Kf c=Ξ/\hit mk L6 c=Ξ:=by
 have hw:=qJ (y_.mp h).2;unfold hit;rw[hw];have h1:Kf.any (· == Ρ "most")=Ξ:=by decide +kernel
 have h2:L6.any (· == Ρ "most")=Ξ:=by decide +kernel
 rw[h1,h2,Bool.and_false];exact⟨rfl,rfl⟩
theorem DR (mk:Str)(ws:List Str)(c:Cn)(cs:List Cn):(tt mk ws (c::cs)).length=(if hit mk ws c=Θ then c.ts.length else 0)+(tt mk ws cs).length:=by
 unfold tt;rw[List.filter_cons];split
 ·rw[List.flatMap_cons,g_]
 ·omega
theorem Vl (mk:Str):∀cs:List Cn,(tt mk Kf cs).length+(tt mk L6 cs).length+(tt mk LP cs).length<=(cs.flatMap Cn.ts).length
 |[]=>l_ _
 |c::cs=>by
  have ih:=Vl mk cs;rw[DR,DR,DR,List.flatMap_cons,g_];cases h1:hit mk L6 c with
  |true=>obtain⟨a,b⟩:=Gu h1;rw[a,b];simp only[X_,if_false,if_true];omega
  |false=>
   cases h2:hit mk LP c with
   |true=>obtain⟨a,b⟩:=Gv h2;rw[a];simp only[X_,if_false,if_true];omega
   |false=>simp only[X_,if_false];split<;>omega
theorem HR (cl:Nat->List D->Res D)(xs:List Int):gM (gO cl (.nm 0) [] (.bin .add (.v 0) (.c (.int 1))) [Φ]) (xs.map .int)=.ok ((xs.map (· + 1)).map .int):=
 Ev.jW D.int (· + 1) D.int xs fun x _=>rfl
theorem HS (cl:Nat->List D->Res D)(xs:List Int):gM (gO cl (.nm 0) [] (.bin .sub (.v 0) (.c (.int 1))) [Φ]) (xs.map .int)=.ok ((xs.map (· - 1)).map .int):=
 Ev.jW D.int (· - 1) D.int xs fun x _=>rfl
noncomputable def gG (k:Str)(x:Str):D:=.tup [.str k,.str x]
theorem xC (cl:Nat->List D->Res D)(k:Str)(xs:List Str):gM (gO cl (.nm 0) [] (.tup [(.c (.str k)),(.v 0)]) [Φ]) (xs.map .str)=.ok (xs.map (gG k)):=by rw[<- List.map_id (xs.map (gG k))];exact Ev.jW D.str (gG k) id xs fun x _=>by unfold gG;simp![Ev.eY,id]
theorem AD (n:Nat)(H:Hd gs rs sw)(o:Ok (lk gs rs))(mk:Str):cM T (n+4) 28 [.lst Ξ (gs.map Gp.d),sw,.str mk]=.ok (.lst Ξ ((Lu mk (lk gs rs)).map .int)):=by
 have K9:=o.K9;have t1:=kr mk Kf (lk gs rs);have t2:=kr mk L6 (lk gs rs);have t3:=kr mk LP (lk gs rs);have t4:=Vl mk (lk gs rs);have x1:=jb (tt mk Kf (lk gs rs));have x2:=jb (tt mk L6 (lk gs rs));have x3:=jb (tt mk LP (lk gs rs));have e1:=told n H (by omega) mk Kf;have e2:=told n H (by omega) mk L6;have e3:=told n H (by omega) mk LP;rw[Gr o]at e2;rw[Gs o]at e3;have ge:=jz gs;have se:=H.er;have f:=xw (n+2) (tt mk Kf (lk gs rs));have te:=mY (tt mk Kf (lk gs rs));have ss:=xr (o:=Θ) (xs:=ins (tt mk Kf (lk gs rs))++ins (tt mk L6 (lk gs rs))++(ins (tt mk Kf (lk gs rs))++ins (tt mk LP (lk gs rs))).map (· + 1)) (by rw[g_,g_,i_,g_];omega);have l0:((tt mk Kf (lk gs rs)).map Tn.d).length=(tt mk Kf (lk gs rs)).length:=i_ ..;have fu:=HR (cM T (n+3)) (ins (tt mk Kf (lk gs rs))++ins (tt mk LP (lk gs rs)));unfold Lu sI;have h1:(Kf).map D.str=[D.str "is",D.str "not"]:=rfl;have h2:(L6).map D.str=[D.str "least"]:=rfl;have h3:(LP).map D.str=[D.str "most"]:=rfl;rw[h1]at e1;rw[h2]at e2;rw[h3]at e3;generalize tt mk Kf (lk gs rs)=A,ins (tt mk L6 (lk gs rs))=B,ins (tt mk LP (lk gs rs))=C at *;generalize ins A=I at *;have m1:I.map D.int++B.map D.int=(I++B).map D.int:=(C_ ..).symm;have m2:I.map D.int++C.map D.int=(I++C).map D.int:=(C_ ..).symm;have m3:(I++B).map D.int++((I++C).map (· + 1)).map D.int=(I++B++(I++C).map (· + 1)).map D.int:=(C_ ..).symm;have g1:(I.map D.int).length=I.length:=i_ ..;have g2:(B.map D.int).length=B.length:=i_ ..;have g3:(C.map D.int).length=C.length:=i_ ..;have g4:((I++B).map D.int).length=I.length+B.length:=by rw[i_,g_]
 have g5:((I++C).map D.int).length=I.length+C.length:=by rw[i_,g_]
 have g6:(((I++C).map (· + 1)).map D.int).length=I.length+C.length:=by rw[i_,i_,g_]
 have nl:∀a,g9 (.sset a)=Ξ:=fun _=>rfl;rw[JG 28 U1 3 7 U0 rfl rfl rfl rfl rfl rfl];unfold U0;simp![e1,e2,e3,ge,se,te,f,fu,ss,l0,m1,m2,m3,g1,g2,g3,g4,g5,g6,nl]
end Law
namespace Law
open PySem PySem.Spec L2 L2.Fr
variable {gs:List Gp}{rs:List Ru}{sw:D}
noncomputable def iQ (a b:D):D:=.tup [.str "numbers",a,b]
noncomputable def nums (cu:List Int):List D:=List.zipWith iQ (.Iw::cu.map .int) ((cu.map (· - 1)).map .int++[.Iw])
noncomputable def hJ (ts bs:List Str)(cu:List Int):List D:=[.tup [.str "none"]]++ts.map (gG "text")++bs.map (gG "begins")++nums cu
theorem BF (cl:Nat->List D->Res D):∀(A B:List D),gM (gO cl (.tp [(.nm 0),(.nm 1)]) [] (.tup [(.c (.str "numbers")),(.v 0),(.v 1)]) [Φ,Φ]) (kc A B)=.ok (List.zipWith iQ A B)
 |[],_=>rfl
 |_::_,[]=>rfl
 |a::A,b::B=>iM (show gO cl (.tp [(.nm 0),(.nm 1)]) [] (.tup [(.c (.str "numbers")),(.v 0),(.v 1)]) [Φ,Φ] (.tup [a,b])=.ok (Δ (iQ a b)) by
   unfold iQ
   simp![Ev.eY]) (BF cl A B)
theorem kP (k:Str):∀xs:List Str,gD (xs.map (gG k))=Θ
 |[]=>rfl
 |x::xs=>by show(Θ&&gD (xs.map (gG k)))=Θ;rw[kP k xs];rfl
theorem xD:∀(A B:List D),gD A=Θ->gD B=Θ->gD (List.zipWith iQ A B)=Θ
 |[],_,_,_=>rfl
 |_::_,[],_,_=>rfl
 |a::A,b::B,h1,h2=>by have Qk:=y_.mp (show(gH a&&gD A)=Θ from h1);have OH:=y_.mp (show(gH b&&gD B)=Θ from h2);show((Θ&&(gH a&&(gH b&&Θ)))&&gD (List.zipWith iQ A B))=Θ;rw[Qk.1,OH.1,xD A B Qk.2 OH.2];rfl
theorem lx:∀(A B:List D),gD (A++B)=(gD A&&gD B)
 |[],_=>rfl
 |a::A,B=>by
  show(gH a&&gD (A++B))=((gH a&&gD A)&&gD B)
  rw[lx A B,Bool.and_assoc]
theorem BG (cu:List Int):gD (D.Iw::cu.map .int)=Θ:=by show(Θ&&gD (cu.map D.int))=Θ;rw[Ev.xc];rfl
theorem BH (cu:List Int):gD ((cu.map (· - 1)).map D.int++[.Iw])=Θ:=by rw[lx,Ev.xc];rfl
theorem AE (cu:List Int):gD (nums cu)=Θ:=xD _ _ (BG cu) (BH cu)
theorem mZ (ts bs:List Str)(cu:List Int):gD (hJ ts bs cu)=Θ:=by unfold hJ;rw[lx,lx,lx,kP,kP,AE];rfl
theorem m4 (cu:List Int):(nums cu).length=cu.length+1:=by unfold nums;rw[List.length_zipWith,List.length_cons,i_,g_,i_,i_];simp
theorem zl (cu:List Int):(kc (.Iw::cu.map .int) ((cu.map (· - 1)).map .int++[.Iw])).length=cu.length+1:=by unfold kc;rw[List.length_zipWith,List.length_cons,i_,g_,i_,i_];simp
theorem m7 (xs:List Str):(sS xs).length<=xs.length:=by unfold sS;rw[(iL _).length_eq];exact sy xs
theorem rT (xs:List Int):(sI xs).length<=xs.length:=by unfold sI;rw[(PySem.W.sortI_perm _).length_eq];exact vW xs
theorem AF {mk:Str}{cs:List Cn}(o:Ok cs):(LQ mk cs).length<=21:=by have:=m7 (Ρ ""::K4 (tt mk ML cs));have h1:=ja (tt mk ML cs);have h2:=kr mk ML cs;have h3:=o.K9;rw[List.length_cons]at this;unfold LQ;omega
theorem AG {mk:Str}{cs:List Cn}(o:Ok cs):(Lu mk cs).length<=63:=by have h0:=rT (ins (tt mk Kf cs)++ins (tt mk L6 cs)++(ins (tt mk Kf cs)++ins (tt mk LP cs)).map (· + 1));rw[g_,g_,i_,g_]at h0;have h1:=jb (tt mk Kf cs);have h2:=jb (tt mk L6 cs);have h4:=jb (tt mk LP cs);have h5:=Vl mk cs;have h3:=o.K9;unfold Lu;omega
end Law
namespace Law
open PySem PySem.Spec L2 L2.Fr
variable {gs:List Gp}{rs:List Ru}{sw:D}
theorem kQ (a b:Str):(a == b)=(b == a):=by
 by_cases h:a=b
 ·subst h;rfl
 ·have h1:(a == b)=Ξ:=by simpa using h
  have h2:(b == a)=Ξ:=by simpa using fun z:b=a=>h z.symm
  rw[h1,h2]
noncomputable def RP:List IS:=[(.ext 2 (.v 8))]
noncomputable def PX:List IS:=[(.JA (.Js (.cmp .Lp (.idx (.v 5) (.c (.int 1))) (.lst [(.c (.str "in")),(.c (.str "out"))])) (.cmp .eq (.v 6) (.idx (.v 5) (.c (.int 0))))) [(.Jz (.nm 8) (.val (.v 7)) RP)] [])]
noncomputable def PY:List IS:=[(.JA (.Js (.cmp .ne (.idx (.v 5) (.c (.int 1))) (.c (.str "in"))) (.cmp .ne (.idx (.v 5) (.c (.int 1))) (.c (.str "out")))) [(.app 2 (.v 5))] []),(.Jz (.tp [(.nm 6),(.nm 7)]) (.val (.v 0)) PX)]
noncomputable def S4:List IS:=[(.Jz (.nm 5) (.val (.v 3)) PY)]
theorem Gw (cl:Nat->List D->Res D)(a0 a1 a3 a4 a5 a6 a7:Option D):∀(rows:List (List Cn)) (acc:List Cn) (a8:Option D),acc.length+rows.flatten.length<=1000->
  ∃M8,forM (Ev.turn cl (.nm 8) RP) (rows.map gZ) [a0,a1,Δ (.lst Θ (acc.map Cn.d)),a3,a4,a5,a6,a7,a8]=.ok (.nx [a0,a1,Δ (.lst Θ ((acc++rows.flatten).map Cn.d)),a3,a4,a5,a6,a7,M8])
 |[],acc,a8,_=>⟨a8,by rw[List.flatten_nil,v_];rfl⟩
 |r::rows,acc,a8,h=>by
  rw[List.flatten_cons,g_]at h;have lr:(r.map Cn.d).length=r.length:=i_ ..;have la:(acc.map Cn.d).length=acc.length:=i_ ..;have e1:Ev.turn cl (.nm 8) RP (gZ r) [a0,a1,Δ (.lst Θ (acc.map Cn.d)),a3,a4,a5,a6,a7,a8]=.ok (.nx [a0,a1,Δ (.lst Θ ((acc++r).map Cn.d)),a3,a4,a5,a6,a7,Δ (gZ r)]):=by rw[C_];unfold RP gZ;have e2:=ji r;simp![Ev.eY,e2,lr,la]
  obtain⟨M8,e2⟩:=Gw cl a0 a1 a3 a4 a5 a6 a7 rows (acc++r) (Δ (gZ r)) (by rw[g_];omega);refine⟨M8,?_⟩;rw[b_,Ev.cI,e1,Ev.cJ,Ev.cK,e2,List.flatten_cons,r_]
noncomputable def pk (c:Cn)(n:Str):Bool:=io c&&(n == c.m)
theorem AH (cl:Nat->List D->Res D)(a0 a1 a3 a4:Option D)(c:Cn):∀(gs:List Gp) (acc:List Cn) (a6 a7 a8:Option D),acc.length+(Kr (pk c) gs).length<=1000->
  ∃RQ RU M8,forM (Ev.turn cl (.tp [(.nm 6),(.nm 7)]) PX) (gs.map Gp.d) [a0,a1,Δ (.lst Θ (acc.map Cn.d)),a3,a4,Δ c.d,a6,a7,a8]=.ok (.nx [a0,a1,Δ (.lst Θ ((acc++Kr (pk c) gs).map Cn.d)),a3,a4,Δ c.d,RQ,RU,M8])
 |[],acc,a6,a7,a8,_=>⟨a6,a7,a8,by show _=_;rw[show Kr (pk c) []=[] from rfl,v_];rfl⟩
 |g::gs,acc,a6,a7,a8,h=>by
  have hg:Kr (pk c) (g::gs)=(if pk c g.n=Θ then g.rows.flatten else [])++Kr (pk c) gs:=rfl;rw[hg,g_]at h;have M7:=oZ g.rows;have x0:=S2 c;have x1:=S3 c;cases hk:pk c g.n with
  |true=>
   rw[hk,e_ rfl]at h;obtain⟨M8,e5⟩:=Gw cl a0 a1 a3 a4 (Δ c.d) (Δ (.str g.n)) (Δ (.lst Ξ (g.rows.map gZ))) g.rows acc a8 (by omega);have LF:=y_.mp hk;have q2:=LF.2;have q1:((Ρ "in" == c.w)||(Ρ "out" == c.w))=Θ:=LF.1;have e1:Ev.turn cl (.tp [(.nm 6),(.nm 7)]) PX g.d [a0,a1,Δ (.lst Θ (acc.map Cn.d)),a3,a4,Δ c.d,a6,a7,a8]=.ok (.nx [a0,a1,Δ (.lst Θ ((acc++g.rows.flatten).map Cn.d)),a3,a4,Δ c.d,Δ (.str g.n),Δ (.lst Ξ (g.rows.map gZ)),M8]):=by
    unfold PX Gp.d;cases w1:(Ρ "in" == c.w) with
    |true=>
     cases w2:(Ρ "out" == c.w) with
     |true=>simp![Ev.eY,x0,x1,w1,w2,q2,M7,e5]
     |false=>simp![Ev.eY,x0,x1,w1,w2,q2,M7,e5]
    |false=>rw[w1,Bool.false_or]at q1;simp![Ev.eY,x0,x1,w1,q1,q2,M7,e5]
   obtain⟨b6,b7,b8,e2⟩:=AH cl a0 a1 a3 a4 c gs (acc++g.rows.flatten) (Δ (.str g.n)) (Δ (.lst Ξ (g.rows.map gZ))) M8 (by rw[g_];omega);refine⟨b6,b7,b8,?_⟩;rw[b_,Ev.cI,e1,Ev.cJ,Ev.cK,e2,hg,hk,e_ rfl,r_]
  |false=>
   rw[hk,d_ p_]at h;have e1:Ev.turn cl (.tp [(.nm 6),(.nm 7)]) PX g.d [a0,a1,Δ (.lst Θ (acc.map Cn.d)),a3,a4,Δ c.d,a6,a7,a8]=.ok (.nx [a0,a1,Δ (.lst Θ (acc.map Cn.d)),a3,a4,Δ c.d,Δ (.str g.n),Δ (.lst Ξ (g.rows.map gZ)),a8]):=by
    unfold PX Gp.d;unfold pk io at hk;cases w1:(Ρ "in" == c.w) with
    |true=>
     rw[w1,Bool.true_or,Bool.true_and]at hk;cases w2:(Ρ "out" == c.w) with
     |true=>simp![Ev.eY,x0,x1,w1,w2,hk,M7]
     |false=>simp![Ev.eY,x0,x1,w1,w2,hk,M7]
    |false=>
     rw[w1,Bool.false_or]at hk;cases w2:(Ρ "out" == c.w) with
     |true=>rw[w2,Bool.true_and]at hk;simp![Ev.eY,x0,x1,w1,w2,hk,M7]
     |false=>simp![Ev.eY,x0,x1,w1,w2,M7]
   obtain⟨b6,b7,b8,e2⟩:=AH cl a0 a1 a3 a4 c gs acc (Δ (.str g.n)) (Δ (.lst Ξ (g.rows.map gZ))) a8 (by rw[List.length_nil]at h;omega);refine⟨b6,b7,b8,?_⟩;rw[b_,Ev.cI,e1,Ev.cJ,Ev.cK,e2,hg,hk,d_ p_,List.nil_append]
end Law
namespace Law
open PySem PySem.Spec L2 L2.Fr
variable {gs:List Gp}{rs:List Ru}{sw:D}
noncomputable def MM (gs:List Gp)(c:Cn):List Cn:=(if io c=Θ then [] else [c])++Kr (pk c) gs
noncomputable def JV (gs:List Gp)(cs:List Cn):List Cn:=cs.flatMap (MM gs)
theorem DS (cl:Nat->List D->Res D)(gs:List Gp)(a1 a3 a4:Option D):∀(cs acc:List Cn) (a5 a6 a7 a8:Option D),acc.length+(JV gs cs).length<=1000->
  ∃Lj RQ RU M8,forM (Ev.turn cl (.nm 5) PY) (cs.map Cn.d) [Δ (.lst Ξ (gs.map Gp.d)),a1,Δ (.lst Θ (acc.map Cn.d)),a3,a4,a5,a6,a7,a8]=.ok (.nx [Δ (.lst Ξ (gs.map Gp.d)),a1,Δ (.lst Θ ((acc++JV gs cs).map Cn.d)),a3,a4,Lj,RQ,RU,M8])
 |[],acc,a5,a6,a7,a8,_=>⟨a5,a6,a7,a8,by show _=_;rw[show JV gs []=[] from rfl,v_];rfl⟩
 |c::cs,acc,a5,a6,a7,a8,h=>by
  have hl:JV gs (c::cs)=MM gs c++JV gs cs:=rfl;rw[hl,g_]at h;have SE:MM gs c=(if io c=Θ then [] else [c])++Kr (pk c) gs:=rfl;rw[SE,g_]at h;have x1:=S3 c;have ce:=nZ c;have ge:=jz gs;have la:(acc.map Cn.d).length=acc.length:=i_ ..;have s1:=kQ c.w (Ρ "in");have s2:=kQ c.w (Ρ "out");cases hc:io c with
  |true=>
   rw[hc,e_ rfl,List.length_nil]at h;obtain⟨b6,b7,b8,e5⟩:=AH cl (Δ (.lst Ξ (gs.map Gp.d))) a1 a3 a4 c gs acc a6 a7 a8 (by omega);have q1:((Ρ "in" == c.w)||(Ρ "out" == c.w))=Θ:=hc;have e1:Ev.turn cl (.nm 5) PY c.d [Δ (.lst Ξ (gs.map Gp.d)),a1,Δ (.lst Θ (acc.map Cn.d)),a3,a4,a5,a6,a7,a8]=.ok (.nx [Δ (.lst Ξ (gs.map Gp.d)),a1,Δ (.lst Θ ((acc++Kr (pk c) gs).map Cn.d)),a3,a4,Δ c.d,b6,b7,b8]):=by
    unfold PY;cases w1:(Ρ "in" == c.w) with
    |true=>rw[w1]at s1;simp![Ev.eY,x1,s1,ge,e5]
    |false=>rw[w1,Bool.false_or]at q1;rw[w1]at s1;rw[q1]at s2;simp![Ev.eY,x1,s1,s2,ge,e5]
   obtain⟨c5,c6,c7,c8,e2⟩:=DS cl gs a1 a3 a4 cs (acc++Kr (pk c) gs) (Δ c.d) b6 b7 b8 (by rw[g_];omega);refine⟨c5,c6,c7,c8,?_⟩;rw[b_,Ev.cI,e1,Ev.cJ,Ev.cK,e2,hl,SE,hc,e_ rfl,List.nil_append,r_]
  |false=>
   rw[hc,d_ p_,V_]at h;obtain⟨b6,b7,b8,e5⟩:=AH cl (Δ (.lst Ξ (gs.map Gp.d))) a1 a3 a4 c gs (acc++[c]) a6 a7 a8 (by rw[g_,V_];omega);have q1:=Bool.or_eq_false_iff.mp (show((Ρ "in" == c.w)||(Ρ "out" == c.w))=Ξ from hc);rw[q1.1]at s1;rw[q1.2]at s2;have e1:Ev.turn cl (.nm 5) PY c.d [Δ (.lst Ξ (gs.map Gp.d)),a1,Δ (.lst Θ (acc.map Cn.d)),a3,a4,a5,a6,a7,a8]=.ok (.nx [Δ (.lst Ξ (gs.map Gp.d)),a1,Δ (.lst Θ ((acc++[c]++Kr (pk c) gs).map Cn.d)),a3,a4,Δ c.d,b6,b7,b8]):=by rw[C_,b_,List.map_nil]at e5;unfold PY;simp![Ev.eY,x1,ce,s1,s2,ge,la,e5]
   obtain⟨c5,c6,c7,c8,e2⟩:=DS cl gs a1 a3 a4 cs (acc++[c]++Kr (pk c) gs) (Δ c.d) b6 b7 b8 (by rw[g_,g_,V_];omega);refine⟨c5,c6,c7,c8,?_⟩;rw[b_,Ev.cI,e1,Ev.cJ,Ev.cK,e2,hl,SE,hc,d_ p_,r_,r_,r_]
theorem Gx (cl:Nat->List D->Res D)(gs:List Gp)(a1:Option D):∀(rs:List Ru) (acc:List Cn) (a3 a4 a5 a6 a7 a8:Option D),(∀r∈rs,er r.o=r.o)->acc.length+(JV gs (gU rs)).length<=1000->
  ∃Vk RL Lj RQ RU M8,forM (Ev.turn cl (.tp [(.nm 3),(.nm 4)]) S4) (rs.map Ru.d) [Δ (.lst Ξ (gs.map Gp.d)),a1,Δ (.lst Θ (acc.map Cn.d)),a3,a4,a5,a6,a7,a8]=.ok (.nx [Δ (.lst Ξ (gs.map Gp.d)),a1,Δ (.lst Θ ((acc++JV gs (gU rs)).map Cn.d)),Vk,RL,Lj,RQ,RU,M8])
 |[],acc,a3,a4,a5,a6,a7,a8,_,_=>⟨a3,a4,a5,a6,a7,a8,by show _=_;rw[show JV gs (gU [])=[] from rfl,v_];rfl⟩
 |r::rs,acc,a3,a4,a5,a6,a7,a8,ho,h=>by
  have hl:JV gs (gU (r::rs))=JV gs r.cs++JV gs (gU rs):=by show List.flatMap (MM gs) (r.cs++gU rs)=_;rw[List.flatMap_append];rfl
  rw[hl,g_]at h;obtain⟨b5,b6,b7,b8,e5⟩:=DS cl gs a1 (Δ (gZ r.cs)) (Δ r.o) r.cs acc a5 a6 a7 a8 (by omega);have ce:=ji r.cs;have oe:=ho r (by simp);have e1:Ev.turn cl (.tp [(.nm 3),(.nm 4)]) S4 r.d [Δ (.lst Ξ (gs.map Gp.d)),a1,Δ (.lst Θ (acc.map Cn.d)),a3,a4,a5,a6,a7,a8]=.ok (.nx [Δ (.lst Ξ (gs.map Gp.d)),a1,Δ (.lst Θ ((acc++JV gs r.cs).map Cn.d)),Δ (gZ r.cs),Δ r.o,b5,b6,b7,b8]):=by unfold gZ at e5 ⊢;unfold S4 Ru.d gZ;simp![Ev.eY,ce,oe,e5]
  obtain⟨c3,c4,c5,c6,c7,c8,e2⟩:=Gx cl gs a1 rs (acc++JV gs r.cs) (Δ (gZ r.cs)) (Δ r.o) b5 b6 b7 b8 (fun z hz=>ho z (w_ _ hz)) (by rw[g_];omega);refine⟨c3,c4,c5,c6,c7,c8,?_⟩;rw[b_,Ev.cI,e1,Ev.cJ,Ev.cK,e2,hl,r_]
theorem rV (n:Nat)(H:Hd gs rs sw)(hl:(JV gs (gU rs)).length<=1000):cM T (n+1) 40 [.lst Ξ (gs.map Gp.d),sw]=.ok (.lst Θ ((JV gs (gU rs)).map Cn.d)):=by obtain⟨c3,c4,c5,c6,c7,c8,e⟩:=Gx (cM T n) gs (Δ sw) rs [] Φ Φ Φ Φ Φ Φ H.ro (by simpa using hl);rw[List.map_nil,List.nil_append]at e;have re:=rS H.ro;have se:=H.er;have sx:=H.ix;rw[JG 40 U9 2 9 U8 rfl rfl rfl rfl rfl rfl];unfold U8;unfold S4 PY PX RP at e;simp![sx,se,re,e]
end Law
namespace Law
open PySem PySem.Spec L2 L2.Fr
noncomputable def L7:List IS:=[(.JA (.Js (.cmp .eq (.v 5) (.v 1)) (.cmp .eq (.v 6) (.c (.str "begins")))) [(.app 3 (.v 8))] [(.JA (.Js (.cmp .eq (.v 5) (.v 1)) (.J2 (.v 8) .str)) [(.app 2 (.v 8))] [(.JA (.Js (.cmp .eq (.v 5) (.v 1)) (.cmp .ne (.v 6) (.c (.str "most")))) [(.app 4 (.v 8))] [])])]),(.JA (.Js (.cmp .eq (.v 5) (.v 1)) (.Js (.KJ (.J2 (.v 8) .str)) (.cmp .ne (.v 6) (.c (.str "least"))))) [(.app 4 (.bin .add (.v 8) (.c (.int 1))))] [])]
noncomputable def RV:List IS:=[(.Jz (.nm 8) (.val (.v 7)) L7)]
noncomputable def cS (l:Option D)(mk:Str)(A B:List Str)(C:List Int)(x5 x6 x7 x8:Option D):Ev:=[l,Δ (.str mk),Δ (.lst Θ (A.map .str)),Δ (.lst Θ (B.map .str)),Δ (.lst Θ (C.map .int)),x5,x6,x7,x8,Φ,Φ,Φ]
noncomputable def Lw (q2 q3:Bool)(x:Int):List Int:=(if q2=Θ then [] else [x])++(if q3=Θ then [] else [x+1])
section
variable (cl:Nat->List D->Res D)(l x7:Option D)(mk m w:Str)
theorem Gy (q0:(m == mk)=Ξ)(A B:List Str)(C:List Int):∀(ts:List Tn) (x8:Option D),∃y8,forM (Ev.turn cl (.nm 8) L7) (ts.map Tn.d) (cS l mk A B C (Δ (.str m)) (Δ (.str w)) x7 x8)=.ok (.nx (cS l mk A B C (Δ (.str m)) (Δ (.str w)) x7 y8))
 |[],x8=>⟨x8,rfl⟩
 |t::ts,x8=>by
  have e1:Ev.turn cl (.nm 8) L7 t.d (cS l mk A B C (Δ (.str m)) (Δ (.str w)) x7 x8)=.ok (.nx (cS l mk A B C (Δ (.str m)) (Δ (.str w)) x7 (Δ t.d))):=by unfold cS L7;simp![Ev.eY,q0]
  obtain⟨y8,e2⟩:=Gy q0 A B C ts (Δ t.d);exact⟨y8,by rw[b_,Ev.cI,e1,Ev.cJ,Ev.cK,e2]⟩
theorem Gz (q0:(m == mk)=Θ)(q1:(w == Ρ "begins")=Θ) (A:List Str) (C:List Int):∀(ts:List Tn) (B:List Str) (x8:Option D),(∀t∈ts,∃x,t=.s x)->B.length+ts.length<=1000->∃y8,forM (Ev.turn cl (.nm 8) L7) (ts.map Tn.d) (cS l mk A B C (Δ (.str m)) (Δ (.str w)) x7 x8)=.ok (.nx (cS l mk A (B++K4 ts) C (Δ (.str m)) (Δ (.str w)) x7 y8))
 |[],B,x8,_,_=>⟨x8,by rw[show K4 []=[] from rfl,v_];rfl⟩
 |t::ts,B,x8,h,hb=>by
  obtain⟨x,rfl⟩:=h t (by simp);rw[List.length_cons]at hb;have lB:(B.map D.str).length=B.length:=i_ ..;have e1:Ev.turn cl (.nm 8) L7 (.str x) (cS l mk A B C (Δ (.str m)) (Δ (.str w)) x7 x8)=.ok (.nx (cS l mk A (B++[x]) C (Δ (.str m)) (Δ (.str w)) x7 (Δ (.str x)))):=by unfold cS L7;rw[C_,b_,List.map_nil];simp![Ev.eY,q0,q1,lB]
  obtain⟨y8,e2⟩:=Gz q0 q1 A C ts (B++[x]) (Δ (.str x)) (fun t ht=>h t (w_ _ ht)) (by rw[g_,V_];omega);refine⟨y8,?_⟩;show forM (Ev.turn cl (.nm 8) L7) (D.str x::ts.map Tn.d) _=_;rw[Ev.cI,e1,Ev.cJ,Ev.cK,e2,r_];rfl
theorem DT (q0:(m == mk)=Θ)(q1:(w == Ρ "begins")=Ξ) {b2 b3:Bool} (q2:(w == Ρ "most")=b2) (q3:(w == Ρ "least")=b3) (B:List Str):∀(ts:List Tn) (A:List Str) (C:List Int) (x8:Option D),A.length+ts.length<=1000->C.length+2*ts.length<=1000->
  ∃y8,forM (Ev.turn cl (.nm 8) L7) (ts.map Tn.d) (cS l mk A B C (Δ (.str m)) (Δ (.str w)) x7 x8)=.ok (.nx (cS l mk (A++K4 ts) B (C++(ins ts).flatMap (Lw b2 b3)) (Δ (.str m)) (Δ (.str w)) x7 y8))
 |[],A,C,x8,_,_=>⟨x8,by rw[show K4 []=[] from rfl,v_,show(ins []).flatMap (Lw b2 b3)=[] from rfl,v_];rfl⟩
 |.s x::ts,A,C,x8,h1,h2=>by
  rw[List.length_cons]at h1 h2;have lA:(A.map D.str).length=A.length:=i_ ..;have e1:Ev.turn cl (.nm 8) L7 (.str x) (cS l mk A B C (Δ (.str m)) (Δ (.str w)) x7 x8)=.ok (.nx (cS l mk (A++[x]) B C (Δ (.str m)) (Δ (.str w)) x7 (Δ (.str x)))):=by unfold cS L7;rw[C_,b_,List.map_nil];simp![Ev.eY,q0,q1,lA]
  obtain⟨y8,e2⟩:=DT q0 q1 q2 q3 B ts (A++[x]) C (Δ (.str x)) (by rw[g_,V_];omega) (by omega);refine⟨y8,?_⟩;show forM (Ev.turn cl (.nm 8) L7) (D.str x::ts.map Tn.d) _=_;rw[Ev.cI,e1,Ev.cJ,Ev.cK,e2,r_];rfl
 |.i x::ts,A,C,x8,h1,h2=>by
  rw[List.length_cons]at h1 h2;have lC:(C.map D.int).length=C.length:=i_ ..;have e1:Ev.turn cl (.nm 8) L7 (.int x) (cS l mk A B C (Δ (.str m)) (Δ (.str w)) x7 x8)=.ok (.nx (cS l mk A B (C++Lw b2 b3 x) (Δ (.str m)) (Δ (.str w)) x7 (Δ (.int x)))):=by
   unfold cS L7 Lw;cases b2 with
   |true=>
    cases b3 with
    |true=>rw[e_ rfl,e_ rfl,List.nil_append,v_];simp![Ev.eY,q0,q1,q2,q3,lC]
    |false=>rw[e_ rfl,d_ p_,List.nil_append,C_,b_,List.map_nil];simp![Ev.eY,q0,q1,q2,q3,lC]
   |false=>
    cases b3 with
    |true=>rw[e_ rfl,d_ p_,v_,C_,b_,List.map_nil];simp![Ev.eY,q0,q1,q2,q3,lC]
    |false=>rw[d_ p_,d_ p_,C_,C_,b_,List.map_nil,b_,List.map_nil];simp![Ev.eY,q0,q1,q2,q3,lC,g_,r_]
  have hf:(Lw b2 b3 x).length<=2:=by unfold Lw;cases b2<;>cases b3<;>simp
  obtain⟨y8,e2⟩:=DT q0 q1 q2 q3 B ts A (C++Lw b2 b3 x) (Δ (.int x)) (by omega) (by rw[g_];omega);refine⟨y8,?_⟩;show forM (Ev.turn cl (.nm 8) L7) (D.int x::ts.map Tn.d) _=_;rw[Ev.cI,e1,Ev.cJ,Ev.cK,e2,r_];rfl
end
noncomputable def aT (mk:Str)(c:Cn):List Str:=if((c.m == mk)&&!(c.w == Ρ "begins"))=Θ then K4 c.ts else []
noncomputable def bT (mk:Str)(c:Cn):List Str:=if((c.m == mk)&&(c.w == Ρ "begins"))=Θ then K4 c.ts else []
noncomputable def cT (mk:Str)(c:Cn):List Int:=if((c.m == mk)&&!(c.w == Ρ "begins"))=Θ then(ins c.ts).flatMap (Lw (c.w == Ρ "most") (c.w == Ρ "least")) else []
theorem BI (cl:Nat->List D->Res D)(l:Option D)(mk:Str):∀(cs:List Cn) (A B:List Str) (C:List Int) (x5 x6 x7 x8:Option D),(∀c∈cs,c.w=Ρ "begins"->∀t∈c.ts,∃x,t=.s x)->
  A.length+(cs.flatMap Cn.ts).length<=400->B.length+(cs.flatMap Cn.ts).length<=400->C.length+2*(cs.flatMap Cn.ts).length<=400->
  ∃y5 y6 y7 y8,forM (Ev.turn cl (.tp [(.nm 5),(.nm 6),(.nm 7)]) RV) (cs.map Cn.d) (cS l mk A B C x5 x6 x7 x8)=.ok (.nx (cS l mk (A++cs.flatMap (aT mk)) (B++cs.flatMap (bT mk)) (C++cs.flatMap (cT mk)) y5 y6 y7 y8))
 |[],A,B,C,x5,x6,x7,x8,_,_,_,_=>⟨x5,x6,x7,x8,by rw[List.flatMap_nil,List.flatMap_nil,List.flatMap_nil,v_,v_,v_];rfl⟩
 |c::cs,A,B,C,x5,x6,x7,x8,hb,h1,h2,h3=>by
  rw[List.flatMap_cons,g_]at h1 h2 h3;have te:=mY c.ts;have key:∃y8,Ev.turn cl (.tp [(.nm 5),(.nm 6),(.nm 7)]) RV c.d (cS l mk A B C x5 x6 x7 x8)=.ok (.nx (cS l mk (A++aT mk c) (B++bT mk c) (C++cT mk c) (Δ (.str c.m)) (Δ (.str c.w)) (Δ (.lst Ξ (c.ts.map Tn.d))) y8)):=by
   have go:∀(A' B':List Str) (C':List Int) (y8:Option D),forM (Ev.turn cl (.nm 8) L7) (c.ts.map Tn.d) (cS l mk A B C (Δ (.str c.m)) (Δ (.str c.w)) (Δ (.lst Ξ (c.ts.map Tn.d))) x8)=.ok (.nx (cS l mk A' B' C' (Δ (.str c.m)) (Δ (.str c.w)) (Δ (.lst Ξ (c.ts.map Tn.d))) y8))->
     Ev.turn cl (.tp [(.nm 5),(.nm 6),(.nm 7)]) RV c.d (cS l mk A B C x5 x6 x7 x8)=.ok (.nx (cS l mk A' B' C' (Δ (.str c.m)) (Δ (.str c.w)) (Δ (.lst Ξ (c.ts.map Tn.d))) y8)):=by
    intro A' B' C' y8 e;unfold cS at e ⊢;unfold RV Cn.d;simp![Ev.eY,te,e]
   unfold aT bT cT;cases q0:(c.m == mk) with
   |false=>obtain⟨y8,e⟩:=Gy cl l (Δ (.lst Ξ (c.ts.map Tn.d))) mk c.m c.w q0 A B C c.ts x8;refine⟨y8,?_⟩;simp only[Bool.false_and,X_,if_false,v_];exact go _ _ _ _ e
   |true=>
    cases q1:(c.w == Ρ "begins") with
    |true=>obtain⟨y8,e⟩:=Gz cl l (Δ (.lst Ξ (c.ts.map Tn.d))) mk c.m c.w q0 q1 A C c.ts B x8 (hb c (by simp) (h_ q1)) (by omega);refine⟨y8,?_⟩;simp only[Bool.true_and,Bool.not_true,X_,if_true,if_false,v_];exact go _ _ _ _ e
    |false=>obtain⟨y8,e⟩:=DT cl l (Δ (.lst Ξ (c.ts.map Tn.d))) mk c.m c.w q0 q1 (b2:=c.w == Ρ "most") (b3:=c.w == Ρ "least") rfl rfl B c.ts A C x8 (by omega) (by omega);refine⟨y8,?_⟩;simp only[Bool.true_and,Bool.not_false,X_,if_true,if_false,v_];exact go _ _ _ _ e
  obtain⟨z8,e1⟩:=key;have la:(aT mk c).length<=c.ts.length:=by have:=ja c.ts;unfold aT;split<;>simp<;>omega
  have lb:(bT mk c).length<=c.ts.length:=by have:=ja c.ts;unfold bT;split<;>simp<;>omega
  have lf:∀(b2 b3:Bool) (xs:List Int),(xs.flatMap (Lw b2 b3)).length<=2*xs.length:=fun b2 b3 xs=>by
   induction xs with
   |nil=>exact l_ _
   |cons x xs ih=>
    have:(Lw b2 b3 x).length<=2:=by unfold Lw;cases b2<;>cases b3<;>simp
    rw[List.flatMap_cons,g_,List.length_cons];omega
  have lc:(cT mk c).length<=2*c.ts.length:=by
   have h1:=jb c.ts;have h2:=lf (c.w == Ρ "most") (c.w == Ρ "least") (ins c.ts);unfold cT;split
   ·omega
   ·simp
  obtain⟨y5,y6,y7,y8,e2⟩:=BI cl l mk cs (A++aT mk c) (B++bT mk c) (C++cT mk c) (Δ (.str c.m)) (Δ (.str c.w)) (Δ (.lst Ξ (c.ts.map Tn.d))) z8 (fun z hz=>hb z (w_ _ hz)) (by rw[g_];omega) (by rw[g_];omega) (by rw[g_];omega);refine⟨y5,y6,y7,y8,?_⟩;rw[b_,Ev.cI,e1,Ev.cJ,Ev.cK,e2,List.flatMap_cons,List.flatMap_cons,List.flatMap_cons,r_,r_,r_]
noncomputable def cL (mk:Str)(cs:List Cn):List D:=hJ (sS (cs.flatMap (aT mk))) (sS (Ρ ""::cs.flatMap (bT mk))) (sI (cs.flatMap (cT mk)))
theorem uJ (n:Nat)(mk:Str){cs:List Cn}(hb:∀c∈cs,c.w=Ρ "begins"->∀t∈c.ts,∃x,t=.s x) (K9:(cs.flatMap Cn.ts).length<=30)
  (g1:(cs.flatMap (aT mk)).length < 63) (g2:(cs.flatMap (bT mk)).length < 63) (g3:(cs.flatMap (cT mk)).length < 64):cM T (n+1) 41 [.lst Ξ (cs.map Cn.d),.str mk]=.ok (.lst Θ (cL mk cs)):=by
 obtain⟨y5,y6,y7,y8,e⟩:=BI (cM T n) (Δ (.lst Ξ (cs.map Cn.d))) mk cs [] [Ρ ""] [] Φ Φ Φ Φ hb (by simp only[List.length_nil];omega) (by simp only[V_];omega) (by simp only[List.length_nil];omega);have ce:=ji cs;unfold cL;rw[List.nil_append,List.nil_append,c_,List.nil_append]at e;have s1:=o4 (o:=Θ) (xs:=cs.flatMap (aT mk)) (by omega);have s2:=o4 (o:=Θ) (xs:=Ρ ""::cs.flatMap (bT mk)) (by rw[List.length_cons];omega);have s3:=xr (o:=Θ) (xs:=cs.flatMap (cT mk)) (by omega);have l1:=m7 (cs.flatMap (aT mk));have l2:=m7 (Ρ ""::cs.flatMap (bT mk));have l3:=rT (cs.flatMap (cT mk));rw[List.length_cons]at l2;unfold cS at e;have V8:i5 (Mf (cs.flatMap (aT mk)))=sS (cs.flatMap (aT mk)):=rfl;have LG:i5 (Mf (Ρ ""::cs.flatMap (bT mk)))=sS (Ρ ""::cs.flatMap (bT mk)):=rfl;have Sj:PySem.W.sortI (dd (cs.flatMap (cT mk)))=sI (cs.flatMap (cT mk)):=rfl;rw[V8]at s1;rw[LG]at s2;rw[Sj]at s3;generalize sS (cs.flatMap (aT mk))=A,sS (Ρ ""::cs.flatMap (bT mk))=B,sI (cs.flatMap (cT mk))=C at *;generalize cs.flatMap (aT mk)=A0 at *;generalize Ρ ""::cs.flatMap (bT mk)=B0,cs.flatMap (cT mk)=C0 at *;have f1:=xC (cM T n) "text" A;have f2:=xC (cM T n) "begins" B;have f3:=HS (cM T n) C;have f4:=BF (cM T n) (.Iw::C.map .int) ((C.map (· - 1)).map .int++[.Iw]);have lA:(A.map D.str).length=A.length:=i_ ..;have lB:(B.map D.str).length=B.length:=i_ ..;have lC:(C.map D.int).length=C.length:=i_ ..;have lD:((C.map (· - 1)).map D.int).length=C.length:=by rw[i_,i_]
 have lE:(A.map (gG "text")).length=A.length:=i_ ..;have lF:(B.map (gG "begins")).length=B.length:=i_ ..;have z1:=kP "text" A;have z2:=kP "begins" B;have z3:=BG C;have z4:=BH C;have z5:=mZ A B C;have z6:=zl C;have z7:=m4 C;have z8:gD (D.tup [.str "none"]::A.map (gG "text"))=Θ:=by show(Θ&&gD (A.map (gG "text")))=Θ;rw[z1];rfl
 have z9:gD (D.tup [.str "none"]::(A.map (gG "text")++B.map (gG "begins")))=Θ:=by show(Θ&&gD (A.map (gG "text")++B.map (gG "begins")))=Θ;rw[lx,z1,z2];rfl
 have nl:∀a,g9 (.sset a)=Ξ:=fun _=>rfl;have vs:∀a,vars (.sset a)=vars a:=fun _=>rfl;unfold hJ nums at *;generalize List.zipWith iQ (.Iw::C.map .int) ((C.map (· - 1)).map .int++[.Iw])=Z at *;generalize hP:A.map (gG "text")=P at *;generalize hR:B.map (gG "begins")=R at *;rw[c_,List.nil_append,c_,c_]at z5 ⊢;rw[JG 41 Va 2 12 U' rfl rfl rfl rfl rfl rfl];unfold U';unfold RV L7 at e;have hB0:([D.str ""]:List D)=[Ρ ""].map D.str:=rfl;rw[List.map_nil,List.map_nil,b_,List.map_nil]at e;simp![e,ce,s1,s2,s3,f1,f2,f3,f4,lA,lB,lC,lD,lE,lF,z1,z2,z3,z4,z5,z6,z7,z8,z9,nl,vs,g_]
theorem AI (v x:Str)(σ:List Str):x∈Sv.Nk σ v↔x∈σ∨x=v:=by
 unfold Sv.Nk;by_cases h:σ.any (· == v)=Θ
 ·rw[e_ h];constructor
  ·exact .inl
  ·rintro(h1|rfl)
   ·exact h1
   ·obtain⟨y,hy,e⟩:=List.any_eq_true.mp h;rw[<- h_ e];exact hy
 ·rw[d_ h,o_,t_]
theorem DU (v:Str){σ:List Str}(n:σ.Nodup):(Sv.Nk σ v).Nodup:=by
 unfold Sv.Nk;by_cases h:σ.any (· == v)=Θ
 ·rw[e_ h];exact n
 ·rw[d_ h,x_];refine⟨n,by simp,fun a ha b hb e=>h (List.any_eq_true.mpr ⟨a,ha,?_⟩)⟩;rw[e,t_.mp hb];simp
theorem m8:∀(xs σ:List Str),σ.Nodup->(xs.foldl Sv.Nk σ).Nodup/\∀x,x∈xs.foldl Sv.Nk σ↔x∈σ∨x∈xs
 |[],σ,n=>⟨n,fun x=>by simp⟩
 |v::xs,σ,n=>by obtain⟨h1,h2⟩:=m8 xs (Sv.Nk σ v) (DU v n);refine⟨h1,fun x=>?_⟩;rw[List.foldl_cons,h2,AI,k_,or_assoc]
theorem BJ {a b:List Str}(h:∀x,x∈a↔x∈b):sS a=sS b:=by
 obtain⟨n1,m1⟩:=m8 a [] List.nodup_nil;obtain⟨n2,m2⟩:=m8 b [] List.nodup_nil;have p:(Mf a).Perm (Mf b):=(List.perm_ext_iff_of_nodup n1 n2).mpr fun x=>by rw[m1,m2,h]
 exact List.Perm.eq_of_pairwise (fun _ _ _ _ a b=>qe a b) (ju _) (ju _) (((iL _).trans p).trans (iL _).symm)
theorem AJ (v x:Int)(σ:List Int):x∈PyProof.Rows.step_dedup σ v↔x∈σ∨x=v:=by
 unfold PyProof.Rows.step_dedup;by_cases h:σ.any (· == v)=Θ
 ·rw[e_ h];constructor
  ·exact .inl
  ·rintro(h1|rfl)
   ·exact h1
   ·obtain⟨y,hy,e⟩:=List.any_eq_true.mp h;rw[<- h_ e];exact hy
 ·rw[d_ h,o_,t_]
theorem DV (v:Int){σ:List Int}(n:σ.Nodup):(PyProof.Rows.step_dedup σ v).Nodup:=by
 unfold PyProof.Rows.step_dedup;by_cases h:σ.any (· == v)=Θ
 ·rw[e_ h];exact n
 ·rw[d_ h,x_];refine⟨n,by simp,fun a ha b hb e=>h (List.any_eq_true.mpr ⟨a,ha,?_⟩)⟩;rw[e,t_.mp hb];simp
theorem m9:∀(xs σ:List Int),σ.Nodup->(xs.foldl PyProof.Rows.step_dedup σ).Nodup/\∀x,x∈xs.foldl PyProof.Rows.step_dedup σ↔x∈σ∨x∈xs
 |[],σ,n=>⟨n,fun x=>by simp⟩
 |v::xs,σ,n=>by obtain⟨h1,h2⟩:=m9 xs (PyProof.Rows.step_dedup σ v) (DV v n);refine⟨h1,fun x=>?_⟩;rw[List.foldl_cons,h2,AJ,k_,or_assoc]
theorem GA {a b:List Int}(h:∀x,x∈a↔x∈b):sI a=sI b:=by
 obtain⟨n1,m1⟩:=m9 a [] List.nodup_nil;obtain⟨n2,m2⟩:=m9 b [] List.nodup_nil;have p:(dd a).Perm (dd b):=(List.perm_ext_iff_of_nodup n1 n2).mpr fun x=>by rw[m1,m2,h]
 exact List.Perm.eq_of_pairwise (fun _ _ _ _ a b=>Int.le_antisymm a b) (PySem.W.sortI_rises _) (PySem.W.sortI_rises _) (((PySem.W.sortI_perm _).trans p).trans (PySem.W.sortI_perm _).symm)
theorem lY {p:Str->Bool}{c:Cn}:∀ {gs:List Gp},c∈Kr p gs↔∃g∈gs,p g.n=Θ/\c∈g.rows.flatten
 |[]=>by simp[Kr]
 |g::gs=>by
  show c∈(if p g.n=Θ then g.rows.flatten else [])++Kr p gs↔_;rw[o_,lY];constructor
  ·rintro(h|⟨g',h1,h2⟩)
   ·split at h
    ·rename_i hp;exact⟨g,by simp,hp,h⟩
    ·simp at h
   ·exact⟨g',w_ _ h1,h2⟩
  ·rintro⟨g',h1,h2,h3⟩;rcases k_.mp h1 with rfl|h1
   ·exact .inl (by rw[e_ h2];exact h3)
   ·exact .inr ⟨g',h1,h2,h3⟩
theorem xE (ks:List Str)(x y:Str):y∈kO ks x↔y∈ks∨y=x:=by
 unfold kO;by_cases h:ks.contains x=Θ
 ·rw[e_ h];constructor
  ·exact .inl
  ·rintro(h1|rfl)
   ·exact h1
   ·simpa using h
 ·rw[d_ h,o_,t_]
theorem o5:∀(cs:List Cn) (ks:List Str) (y:Str),y∈KW ks cs↔y∈ks∨∃c∈cs,io c=Θ/\c.m=y
 |[],ks,y=>by simp[KW]
 |c::cs,ks,y=>by
  rw[ti,o5 cs];by_cases h:io c=Θ
  ·rw[e_ h,xE];constructor
   ·rintro((h1|rfl)|⟨d,h1,h2⟩)
    ·exact .inl h1
    ·exact .inr ⟨c,by simp,h,rfl⟩
    ·exact .inr ⟨d,w_ _ h1,h2⟩
   ·rintro(h1|⟨d,h1,h2,h3⟩)
    ·exact .inl (.inl h1)
    ·rcases k_.mp h1 with rfl|h1
     ·exact .inl (.inr h3.symm)
     ·exact .inr ⟨d,h1,h2,h3⟩
  ·rw[d_ h];constructor
   ·rintro(h1|⟨d,h1,h2⟩)
    ·exact .inl h1
    ·exact .inr ⟨d,w_ _ h1,h2⟩
   ·rintro(h1|⟨d,h1,h2,h3⟩)
    ·exact .inl h1
    ·rcases k_.mp h1 with rfl|h1
     ·exact absurd h2 h
     ·exact .inr ⟨d,h1,h2,h3⟩
theorem xF (gs:List Gp)(rs:List Ru)(c:Cn):c∈lk gs rs↔c∈JV gs (gU rs):=by
 unfold lk JV;rw[o_,List.mem_filter,lY,List.mem_flatMap];constructor
 ·rintro(⟨h1,h2⟩|⟨g,h1,h2,h3⟩)
  ·refine⟨c,h1,?_⟩;have OH:io c=Ξ:=by simpa using h2
   unfold MM;rw[OH,d_ p_];simp
  ·have OH:g.n∈KW [] (gU rs):=by simpa using h2
   rcases(o5 _ _ _).mp OH with h|⟨d,k1,k2,k3⟩
   ·simp at h
   ·refine⟨d,k1,?_⟩;unfold MM;rw[o_];refine .inr (lY.mpr ⟨g,h1,?_,h3⟩);unfold pk;rw[k2,k3];simp
 ·rintro⟨d,h1,h2⟩;unfold MM at h2;rw[o_]at h2;rcases h2 with h2|h2
  ·split at h2
   ·simp at h2
   ·rename_i hd
    rw[t_]at h2;subst h2;exact .inl ⟨h1,by simpa using hd⟩
  ·obtain⟨g,k1,k2,k3⟩:=lY.mp h2;have WQ:=y_.mp k2;refine .inr ⟨g,k1,?_,k3⟩;have:g.n∈KW [] (gU rs):=(o5 _ _ _).mpr (.inr ⟨d,h1,WQ.1,(h_ WQ.2).symm⟩);simpa using this
theorem j7 {x:Str}:∀ {ts:List Tn},x∈K4 ts↔Tn.s x∈ts
 |[]=>by simp[K4]
 |.s y::r=>by
  show x∈y::K4 r↔_;rw[k_,k_,j7];constructor
  ·rintro(rfl|h)
   ·exact .inl rfl
   ·exact .inr h
  ·rintro(h|h)
   ·exact .inl (by cases h;rfl)
   ·exact .inr h
 |.i y::r=>by show x∈K4 r↔_;rw[k_,j7];exact⟨.inr,fun h=>h.elim (fun z=>by cases z) id⟩
theorem jk {x:Int}:∀ {ts:List Tn},x∈ins ts↔Tn.i x∈ts
 |[]=>by simp[ins]
 |.i y::r=>by
  show x∈y::ins r↔_;rw[k_,k_,jk];constructor
  ·rintro(rfl|h)
   ·exact .inl rfl
   ·exact .inr h
  ·rintro(h|h)
   ·exact .inl (by cases h;rfl)
   ·exact .inr h
 |.s y::r=>by show x∈ins r↔_;rw[k_,jk];exact⟨.inr,fun h=>h.elim (fun z=>by cases z) id⟩
inductive Wk:Str->Prop
 | is:Wk (Ρ "is")
 | not:Wk (Ρ "not")
 | be:Wk (Ρ "begins")
 | le:Wk (Ρ "least")
 | mo:Wk (Ρ "most")
theorem xG {a b:Str}(h:a≠b):(a == b)=Ξ:=by simpa using h
theorem n1:Ρ "is"≠Ρ "begins":=by decide +kernel
theorem n2:Ρ "not"≠Ρ "begins":=by decide +kernel
theorem n3:Ρ "least"≠Ρ "begins":=by decide +kernel
theorem n4:Ρ "most"≠Ρ "begins":=by decide +kernel
theorem n5:Ρ "is"≠Ρ "most":=by decide +kernel
theorem n6:Ρ "not"≠Ρ "most":=by decide +kernel
theorem n7:Ρ "least"≠Ρ "most":=by decide +kernel
theorem n8:Ρ "is"≠Ρ "least":=by decide +kernel
theorem n9:Ρ "not"≠Ρ "least":=by decide +kernel
theorem jl {mk:Str}{ws:List Str}{c:Cn}:hit mk ws c=Θ↔c.m=mk/\c.w∈ws:=by
 unfold hit;rw[j_,List.any_eq_true];constructor
 ·rintro⟨h1,y,h2,h3⟩;exact⟨h_ h1,(h_ h3) ▸ h2⟩
 ·rintro⟨h1,h2⟩;exact⟨by rw[h1];simp,c.w,h2,by simp⟩
theorem o6 {mk x:Str}{c:Cn}:x∈aT mk c↔c.m=mk/\c.w≠Ρ "begins"/\Tn.s x∈c.ts:=by
 unfold aT;by_cases h:((c.m == mk)&&!(c.w == Ρ "begins"))=Θ
 ·rw[e_ h,j7];have h':=y_.mp h;have e1:c.m=mk:=h_ h'.1;have e2:c.w≠Ρ "begins":=by simpa using h'.2
  exact⟨fun z=>⟨e1,e2,z⟩,fun z=>z.2.2⟩
 ·rw[d_ h];refine⟨fun z=>by simp at z,fun⟨e1,e2,z⟩=>absurd ?_ h⟩;rw[e1,xG e2];simp
theorem o7 {mk x:Str}{c:Cn}:x∈bT mk c↔c.m=mk/\c.w=Ρ "begins"/\Tn.s x∈c.ts:=by
 unfold bT;by_cases h:((c.m == mk)&&(c.w == Ρ "begins"))=Θ
 ·rw[e_ h,j7];have h':=y_.mp h;exact⟨fun z=>⟨h_ h'.1,h_ h'.2,z⟩,fun z=>z.2.2⟩
 ·rw[d_ h];refine⟨fun z=>by simp at z,fun⟨e1,e2,z⟩=>absurd ?_ h⟩;rw[e1,e2];simp
theorem tm {w:Str}{x y:Int}:x∈Lw (w == Ρ "most") (w == Ρ "least") y↔(w≠Ρ "most"/\x=y)∨(w≠Ρ "least"/\x=y+1):=by
 unfold Lw;rw[o_];by_cases h1:w=Ρ "most"
 ·by_cases h2:w=Ρ "least"
  ·simp[h1,h2]
  ·rw[xG h2,h1];simp[<- h1,h2]
 ·rw[xG h1];by_cases h2:w=Ρ "least"
  ·rw[h2];simp[n7]
  ·rw[xG h2];simp[h1,h2]
theorem jX {mk:Str}{x:Int}{c:Cn}:x∈cT mk c↔c.m=mk/\c.w≠Ρ "begins"/\∃y,Tn.i y∈c.ts/\((c.w≠Ρ "most"/\x=y)∨(c.w≠Ρ "least"/\x=y+1)):=by
 unfold cT;by_cases h:((c.m == mk)&&!(c.w == Ρ "begins"))=Θ
 ·rw[e_ h,List.mem_flatMap];have h':=y_.mp h;have e1:c.m=mk:=h_ h'.1;have e2:c.w≠Ρ "begins":=by simpa using h'.2
  constructor
  ·rintro⟨y,h1,h2⟩;exact⟨e1,e2,y,jk.mp h1,tm.mp h2⟩
  ·rintro⟨_,_,y,h1,h2⟩;exact⟨y,jk.mpr h1,tm.mpr h2⟩
 ·rw[d_ h];refine⟨fun z=>by simp at z,fun⟨e1,e2,z⟩=>absurd ?_ h⟩;rw[e1,xG e2];simp
theorem xH {cs ON:List Cn}(mk:Str)(hm:∀c,c∈cs↔c∈ON)(o:Ok cs)(hw:∀c∈cs,c.ts=[]∨Wk c.w):M0 mk cs=sS (ON.flatMap (aT mk))/\LQ mk cs=sS (Ρ ""::ON.flatMap (bT mk))/\Lu mk cs=sI (ON.flatMap (cT mk)):=by
 have e1:M0 mk cs=sS (ON.flatMap (aT mk)):=BJ fun x=>by
  rw[j7,jA,List.mem_flatMap];constructor
  ·rintro⟨c,h1,h2,h3⟩;obtain⟨k1,k2⟩:=jl.mp h2;refine⟨c,(hm c).mp h1,o6.mpr ⟨k1,fun z=>?_,h3⟩⟩;rw[z]at k2;exact absurd k2 (by decide +kernel)
  ·rintro⟨c,h1,h2⟩;obtain⟨k1,k2,k3⟩:=o6.mp h2;have hc:=(hm c).mpr h1;refine⟨c,hc,jl.mpr ⟨k1,?_⟩,k3⟩;rcases hw c hc with z|z
   ·rw[z]at k3;simp at k3
   ·generalize PZ:c.w=w at z;cases z with
    |is=>exact J_
    |not=>exact w_ _ J_
    |be=>exact absurd PZ k2
    |le=>obtain⟨y,e⟩:=o.le c hc PZ _ k3;cases e
    |mo=>obtain⟨y,e⟩:=o.mo c hc PZ _ k3;cases e
 have e2:LQ mk cs=sS (Ρ ""::ON.flatMap (bT mk)):=BJ fun x=>by
  rw[k_,k_,j7,jA,List.mem_flatMap];have key:(∃c∈cs,hit mk ML c=Θ/\Tn.s x∈c.ts)↔∃c∈ON,x∈bT mk c:=by
   constructor
   ·rintro⟨c,h1,h2,h3⟩;obtain⟨k1,k2⟩:=jl.mp h2;exact⟨c,(hm c).mp h1,o7.mpr ⟨k1,t_.mp k2,h3⟩⟩
   ·rintro⟨c,h1,h2⟩;obtain⟨k1,k2,k3⟩:=o7.mp h2;exact⟨c,(hm c).mpr h1,jl.mpr ⟨k1,t_.mpr k2⟩,k3⟩
  rw[key]
 have e3:Lu mk cs=sI (ON.flatMap (cT mk)):=GA fun x=>by
  rw[o_,o_,List.mem_map,List.mem_flatMap];constructor
  ·rintro((h|h)|⟨y,h,e⟩)
   ·obtain⟨c,h1,h2,h3⟩:=jA.mp (jk.mp h);obtain⟨k1,k2⟩:=jl.mp h2;refine⟨c,(hm c).mp h1,jX.mpr ⟨k1,fun z=>?_,x,h3,.inl ⟨fun z=>?_,rfl⟩⟩⟩
    ·rw[z]at k2;exact absurd k2 (by decide +kernel)
    ·rw[z]at k2;exact absurd k2 (by decide +kernel)
   ·obtain⟨c,h1,h2,h3⟩:=jA.mp (jk.mp h);obtain⟨k1,k2⟩:=jl.mp h2;refine⟨c,(hm c).mp h1,jX.mpr ⟨k1,fun z=>?_,x,h3,.inl ⟨fun z=>?_,rfl⟩⟩⟩
    ·rw[z]at k2;exact absurd k2 (by decide +kernel)
    ·rw[z]at k2;exact absurd k2 (by decide +kernel)
   ·rw[o_]at h;rcases h with h|h
    ·obtain⟨c,h1,h2,h3⟩:=jA.mp (jk.mp h);obtain⟨k1,k2⟩:=jl.mp h2;refine⟨c,(hm c).mp h1,jX.mpr ⟨k1,fun z=>?_,y,h3,.inr ⟨fun z=>?_,e.symm⟩⟩⟩
     ·rw[z]at k2;exact absurd k2 (by decide +kernel)
     ·rw[z]at k2;exact absurd k2 (by decide +kernel)
    ·obtain⟨c,h1,h2,h3⟩:=jA.mp (jk.mp h);obtain⟨k1,k2⟩:=jl.mp h2;refine⟨c,(hm c).mp h1,jX.mpr ⟨k1,fun z=>?_,y,h3,.inr ⟨fun z=>?_,e.symm⟩⟩⟩
     ·rw[z]at k2;exact absurd k2 (by decide +kernel)
     ·rw[z]at k2;exact absurd k2 (by decide +kernel)
  ·rintro⟨c,h1,h2⟩;obtain⟨k1,k2,y,k3,k4⟩:=jX.mp h2;have hc:=(hm c).mpr h1;rcases hw c hc with z|z
   ·rw[z]at k3;simp at k3
   ·generalize PZ:c.w=w at z;have put:∀ws:List Str,w∈ws->y∈ins (tt mk ws cs):=fun ws Zu=>jk.mpr (jA.mpr ⟨c,hc,jl.mpr ⟨k1,by rw[PZ];exact Zu⟩,k3⟩);rw[PZ]at k4;cases z with
    |is=>
     have p:=put Kf J_;rcases k4 with⟨_,rfl⟩|⟨_,rfl⟩
     ·exact .inl (.inl p)
     ·exact .inr ⟨y,q_ _ p,rfl⟩
    |not=>
     have p:=put Kf (w_ _ J_);rcases k4 with⟨_,rfl⟩|⟨_,rfl⟩
     ·exact .inl (.inl p)
     ·exact .inr ⟨y,q_ _ p,rfl⟩
    |be=>exact absurd PZ k2
    |le=>
     have p:=put L6 J_;rcases k4 with⟨_,rfl⟩|⟨h,_⟩
     ·exact .inl (.inr p)
     ·exact absurd rfl h
    |mo=>
     have p:=put LP J_;rcases k4 with⟨h,_⟩|⟨_,rfl⟩
     ·exact absurd rfl h
     ·exact .inr ⟨y,s_ _ p,rfl⟩
 exact⟨e1,e2,e3⟩
end Law
namespace HT
open PySem
theorem NB (n d:Nat)(hd:d<=n)(o:Option Int):Kh n d o<=n:=by
 cases o with
 |none=>exact hd
 |some v=>
  show(if v < 0 then(v+(n:Int)).toNat else min v.toNat n)<=n;by_cases hv:v < 0
  ·rw[e_ hv];omega
  ·rw[d_ hv];exact Nat.min_le_right _ _
end HT
namespace Law
open PySem PySem.Spec L2 L2.Fr PyProof.Rows
noncomputable def OO (ns:List Int)(k:Int):Int:=if 0 < ns.length then ns.getD (k % (ns.length:Int)).toNat 0 % 2147483647 else 0
noncomputable def dr (ns:List Int)(k m:Int):Int:=(OO ns k*(742938285+9973*k*k)+k*630360016) % 2147483647 / 97 % m
theorem GB (ns:List Int)(k:Int):0<=OO ns k/\OO ns k < 2147483647:=by
 unfold OO;split
 ·exact⟨Int.emod_nonneg _ (by decide),Int.emod_lt_of_pos _ (by decide)⟩
 ·decide
theorem jP (ns:List Int)(k:Int){m:Int}(h:0 < m):0<=dr ns k m:=Int.emod_nonneg _ (by omega)
theorem jS (ns:List Int)(k:Int){m:Int}(h:0 < m):dr ns k m < m:=Int.emod_lt_of_pos _ h
theorem iG (n:Nat)(ns:List Int)(k m:Int)(h0:0<=k)(h1:k<=2000)(hm:0 < m):cM T (n+1) 30 [.lst Ξ (ns.map .int),.int k,.int m]=.ok (.int (dr ns k m)):=by
 rw[JG 30 U3 3 5 U2 rfl rfl rfl rfl rfl rfl];unfold U2;obtain⟨b0,b1⟩:=GB ns k;unfold dr;have lm:(ns.map D.int).length=ns.length:=i_ _;by_cases h:0 < ns.length
 ·have hd:decide ((0:Int) < (ns.length:Int))=Θ:=B_ (by omega);have c0:=Int.emod_nonneg k (show(ns.length:Int)≠0 by omega);have c1:=Int.emod_lt_of_pos k (show(0:Int) < (ns.length:Int) by omega);have ec:ns.getD (k % (ns.length:Int)).toNat 0 % 2147483647=OO ns k:=by unfold OO;rw[e_ h]
  simp![lm,hd,ec]
 ·have hd:decide ((0:Int) < (ns.length:Int))=Ξ:=H_ (by omega);have ec:OO ns k=0:=by unfold OO;rw[d_ h]
  rw[ec];simp![lm,hd]
theorem Vm (n:Nat)(ns:List Int)(k m:Int)(h0:0<=k)(h1:k<=2000)(hm:0 < m):∃r:Int,cM T (n+1) 30 [.lst Ξ (ns.map .int),.int k,.int m]=.ok (.int r)/\0<=r/\r < m:=⟨_,iG n ns k m h0 h1 hm,jP ns k hm,jS ns k hm⟩
theorem rW:(Ρ "abcdefghijklmnopqrstuvwxyz0123456789").length=36:=by decide +kernel
theorem xI:(Ρ "abcdefghijklmnopqrstuvwxyz").length=26:=by decide +kernel
theorem o8:(Ρ "").length=0:=by decide +kernel
theorem iT (x:Str)(lo hi:Option Int):(Txt.slice x lo hi).length<=x.length:=by
 have:=indices_len_le lo hi x.length;unfold Txt.slice;split
 ·exact l_ _
 ·refine S_ ?_ this;show(List.filterMap _ _).toArray.size<=_;rw[D_];exact List.length_filterMap_le ..
theorem kR (x y:Str):(x++y).length=x.length+y.length:=by show(x.cps++y.cps).size=_;rw[Array.size_append];rfl
theorem DW {z:Str}{i:Int}(h0:0<=i)(h1:i < z.length)(hz:z.length<=1000):∃y:Str,iq (.str z) (.int i)=.ok (.str y)/\y.length=1:=⟨_,Ev.Rn h0 h1 (by omega),rfl⟩
noncomputable def sg:Str:=Ρ "abcdefghijklmnopqrstuvwxyz0123456789"
def Sx (x:Str):Prop:=∀c∈x.cps.toList,c∈sg.cps.toList
def Cb (c:Int):Prop:=-999999990<=c/\c<=999999990
def Tg:Tn->Prop
 |.s x=>x.length<=8/\Sx x
 |.i n=>-999999999<=n/\n<=999999999
theorem tq (lo hi:Option Int)(len:Nat):Builtin.Str.strSliceIndices lo hi 1 len=sliceRange ((HT.Kh len 0 lo:Nat):Int) ((HT.Kh len len hi:Nat):Int) 1:=by
 unfold Builtin.Str.strSliceIndices;have one:(1:Int) > 0:=by decide
 simp only[e_ one];have c:∀(v:Int) (d:Nat),max 0 (min (if v < 0 then v+(len:Int) else v) (len:Int))=((HT.Kh len d (Δ v):Nat):Int):=by
  intro v d;show _=(((if v < 0 then(v+(len:Int)).toNat else min v.toNat len):Nat):Int)
  by_cases hv:v < 0
  ·simp only[e_ hv];omega
  ·simp only[d_ hv];omega
 congr 1
 ·cases lo with
  |none=>rfl
  |some v=>exact c v 0
 ·cases hi with
  |none=>rfl
  |some v=>exact c v len
theorem AK {s e:Nat}:sliceRange (s:Int) (e:Int) 1=sliceRange (s:Int) ((max s e:Nat):Int) 1:=by
 by_cases h:s < e
 ·rw[show max s e=e by omega]
 ·unfold sliceRange;have one:(1:Int) > 0:=by decide
  simp only[e_ one];rw[d_ (show ¬((s:Int) < (e:Int)) by omega),d_ (show ¬((s:Int) < ((max s e:Nat):Int)) by omega)]
theorem j8 (x:Str)(lo hi:Option Int):Txt.slice x lo hi=⟨(jU x.cps.toList lo hi).toArray⟩:=by
 have hl:x.cps.toList.length=x.length:=by simp[Str.length]
 have h1:=HT.NB x.length 0 (aaa _) lo;have h2:=HT.NB x.length x.length (l_ _) hi;have e:StrLaws.sliceText x lo hi=StrLaws.sliceText x (Δ ((HT.Kh x.length 0 lo:Nat):Int)) (Δ ((max (HT.Kh x.length 0 lo) (HT.Kh x.length x.length hi):Nat):Int)):=by unfold StrLaws.sliceText;rw[tq lo hi,AK,tq (Δ _) (Δ _),HT.MB,HT.MB,Nat.min_eq_left h1,Nat.min_eq_left (by omega)]
 refine e.trans ((StrLaws.sliceText_nat x (Nat.le_max_left _ _) (by omega)).trans ?_);unfold jU;rw[hl,show max (HT.Kh x.length 0 lo) (HT.Kh x.length x.length hi) - HT.Kh x.length 0 lo=HT.Kh x.length x.length hi - HT.Kh x.length 0 lo by omega]
theorem Sx.slice {x:Str}(h:Sx x)(lo hi:Option Int):Sx (Txt.slice x lo hi):=fun c hc=>by rw[j8,List.toList_toArray]at hc;exact h c (List.mem_of_mem_drop (List.mem_of_mem_take hc))
theorem Sx.app {x y:Str}(h:Sx x)(k:Sx y):Sx (x++y):=fun c hc=>by have M4:c∈(x.cps++y.cps).toList:=hc;rw[Array.toList_append,o_]at M4;exact M4.elim (h c) (k c)
theorem kS (x:Str){m:Int}(h:0<=m):(Txt.slice x Φ (Δ m)).length<=m.toNat:=by rw[j8,Ev.rQ _ h];show(List.take _ _).toArray.size<=_;rw[D_,aak];exact Nat.min_le_left ..
theorem xJ (x:Str):(Txt.slice x Φ (Δ (-1))).length=x.length - 1:=by
 rw[j8];show(jU _ _ _).toArray.size=_;have hl:x.cps.toList.length=x.length:=by simp[Str.length]
 rw[D_];unfold jU;rw[aak,aap,hl];show min ((if(-1:Int) < 0 then(-1+(x.length:Int)).toNat else min (Int.toNat (-1)) x.length) - 0) (x.length - 0)=_;rw[e_ (by decide)];omega
theorem getD_mem {l:List Nat}{i:Nat}(d:Nat)(h:i < l.length):l.getD i d∈l:=by rw[aav,R_ h];exact aat h
theorem str0 {x:Str}(h:(x == Ρ "")=Ξ):0 < x.length:=by
 rcases Nat.eq_zero_or_pos x.length with h0|h0
 ·have e:x=Ρ "":=by
   have h1:x.cps = #[]:=Array.eq_empty_of_size_eq_zero h0;have h2:(Ρ "").cps = #[]:=by decide +kernel
   cases x;rw[show Ρ "" = ⟨#[]⟩ by decide +kernel];congr
  rw[e]at h;simp at h
 ·exact h0
theorem GC {i:Int}(h0:0<=i)(h1:i < 36):∃y:Str,iq (.str "abcdefghijklmnopqrstuvwxyz0123456789") (.int i)=.ok (.str y)/\y.length=1/\Sx y:=by
 refine⟨_,Ev.Rn (z:=Ρ "abcdefghijklmnopqrstuvwxyz0123456789") h0 (by rw[rW];exact h1) (by rw[rW];decide),rfl,fun c hc=>?_⟩;have e:c=(Ρ "abcdefghijklmnopqrstuvwxyz0123456789").cps.toList.getD i.toNat 0:=by simpa using hc
 rw[e];refine getD_mem 0 ?_;have e36:(Ρ "abcdefghijklmnopqrstuvwxyz0123456789").cps.toList.length=36:=by decide +kernel
 show i.toNat < (Ρ "abcdefghijklmnopqrstuvwxyz0123456789").cps.toList.length;rw[e36];omega
theorem pf (n:Nat)(ns:List Int){k:Int}(h0:0<=k)(h1:k<=1900){st:Str}(hs:st.length<=100)(hx:Sx st):∃x:Str,cM T (n+2) 33 [.lst Ξ (ns.map .int),.int k,.str st]=.ok (.str x)/\x.length<=8/\Sx x:=by
 have d1:=iG n ns k 9 h0 (by omega) (by decide);have b1:=jP ns k (m:=9) (by decide);have c1:=jS ns k (m:=9) (by decide);have d2:=iG n ns (k+1) 3 (by omega) (by omega) (by decide);have d3:=iG n ns (k+2) 36 (by omega) (by omega) (by decide);have b3:=jP ns (k+2) (m:=36) (by decide);have c3:=jS ns (k+2) (m:=36) (by decide);obtain⟨y,hy,ly,xy⟩:=GC b3 c3;have l1:=kS st b1;have l2:=xJ (Txt.slice st Φ (Δ (dr ns k 9)));have x1:=hx.slice Φ (Δ (dr ns k 9));have x2:=x1.slice Φ (Δ (-1));obtain⟨a,ha⟩:∃a,Txt.slice st Φ (Δ (dr ns k 9))=a:=⟨_,rfl⟩
 rw[ha]at l1 l2 x1 x2;obtain⟨b,hb⟩:∃b,Txt.slice a Φ (Δ (-1))=b:=⟨_,rfl⟩
 rw[hb]at l2 x2;have ab:=kR b y;cases q1:(a == Ρ "") with
 |true=>refine⟨a,?_,by omega,x1⟩;rw[JG 33 Rx 3 4 PM rfl rfl rfl rfl rfl rfl];unfold PM;simp![d1,q1,ha]
 |false=>
  have a0:=str0 q1;cases q2:(dr ns (k+1) 3 == 0) with
  |true=>refine⟨b++y,?_,by omega,x2.app xy⟩;rw[JG 33 Rx 3 4 PM rfl rfl rfl rfl rfl rfl];unfold PM;simp![d1,d2,d3,q1,q2,hy,ha,hb]
  |false=>refine⟨a,?_,by omega,x1⟩;rw[JG 33 Rx 3 4 PM rfl rfl rfl rfl rfl rfl];unfold PM;simp![d1,d2,q1,q2,ha]
theorem n0 (n:Nat)(ns:List Int){k:Int}(h0:0<=k)(h1:k<=1900){c:Int}(hc:Cb c):∃x:Int,cM T (n+2) 35 [.lst Ξ (ns.map .int),.int k,.int c]=.ok (.int x)/\-999999999<=x/\x<=999999999:=by
 have d1:=iG n ns k 8 h0 (by omega) (by decide);have b1:=jP ns k (m:=8) (by decide);have c1:=jS ns k (m:=8) (by decide);obtain⟨Wg,hc2⟩:=hc;generalize dr ns k 8=r at *;by_cases h:r < 5
 ·have hd:decide (r < 5)=Θ:=B_ h;refine⟨c+r - 2,?_,by omega,by omega⟩;rw[JG 35 SX 3 4 Ry rfl rfl rfl rfl rfl rfl];unfold Ry;simp![d1,hd]
 ·have hd:decide (r < 5)=Ξ:=H_ h;have hx:iq (.lst Θ [.int 999999999,.int (0 - 999999999),.int 0]) (.int (r - 5))=.ok (.int ([999999999,0 - 999999999,0].getD (r - 5).toNat 0)):=Ev.SQ (o:=Θ) (xs:=[999999999,0 - 999999999,0]) (by omega) (by show r - 5 < 3;omega);have hv : -999999999<=([999999999,0 - 999999999,0]:List Int).getD (r - 5).toNat 0/\([999999999,0 - 999999999,0]:List Int).getD (r - 5).toNat 0<=999999999:=by
   have:r=5∨r=6∨r=7:=by omega
   rcases this with rfl|rfl|rfl<;>decide
  refine⟨([999999999,0 - 999999999,0]:List Int).getD (r - 5).toNat 0,?_,hv.1,hv.2⟩;rw[JG 35 SX 3 4 Ry rfl rfl rfl rfl rfl rfl];unfold Ry;simp![d1,hd,hx]
theorem xK (n:Nat)(ns:List Int){k:Int}(h0:0<=k)(h1:k<=1800){st:Str}(hs:st.length<=100)(NP:Sx st)(c:Int)(hc:Cb c):∃t:Tn,cM T (n+3) 36 [.lst Ξ (ns.map .int),.int k,.str st,.int c]=.ok t.d/\Tg t:=by
 have d1:=iG (n+1) ns k 2 h0 (by omega) (by decide);obtain⟨x,ex,gx⟩:=n0 n ns (k:=k+1) (by omega) (by omega) hc;obtain⟨y,ey,gy⟩:=pf n ns (k:=k+2) (by omega) (by omega) hs NP;cases q:(dr ns k 2 == 0) with
 |true=>refine⟨.i x,?_,gx⟩;unfold Tn.d;rw[JG 36 SY 4 4 Rz rfl rfl rfl rfl rfl rfl];unfold Rz;simp![d1,q,ex]
 |false=>refine⟨.s y,?_,gy⟩;unfold Tn.d;rw[JG 36 SY 4 4 Rz rfl rfl rfl rfl rfl rfl];unfold Rz;simp![d1,q,ey]
theorem DX (t:Tn):er t.d=t.d:=by cases t<;>rfl
theorem DY (t:Tn):gH t.d=Θ:=by cases t<;>rfl
noncomputable def tM:List IS:=[(.asg (.nm 8) (.call 36 [(.v 0),(.bin .add (.bin .add (.v 1) (.c (.int 2))) (.bin .mul (.c (.int 5)) (.v 7))),(.v 2),(.v 3)])),(.JA (.cmp .eq (.v 4) (.c (.str "begins"))) [(.asg (.nm 8) (.call 33 [(.v 0),(.bin .add (.bin .add (.v 1) (.c (.int 2))) (.bin .mul (.c (.int 5)) (.v 7))),(.v 2)])),(.JA (.cmp .eq (.v 8) (.c (.str ""))) [(.asg (.nm 8) (.sl (.v 2) Φ (Δ (.c (.int 1)))))] [])] []),(.app 6 (.v 8))]
theorem DZ (n:Nat)(ns:List Int){k:Int}(h0:0<=k)(h1:k<=1500){st:Str}(hs:st.length<=100)(hx:Sx st)(c:Int)(hc:Cb c)(w:Str)(rm:Int)(ts:List Tn)(j:Int)(j0:0<=j)(j1:j<=20)(lt:ts.length<=100)(x7 x8:Option D) :
  ∃(t:Tn) (y8:Option D),Ev.turn (cM T (n+3)) (.nm 7) tM (.int j) [Δ (.lst Ξ (ns.map .int)),Δ (.int k),Δ (.str st),Δ (.int c),Δ (.str w),Δ (.int rm),Δ (.lst Θ (ts.map Tn.d)),x7,x8]=.ok (.nx [Δ (.lst Ξ (ns.map .int)),Δ (.int k),Δ (.str st),Δ (.int c),Δ (.str w),Δ (.int rm),Δ (.lst Θ ((ts++[t]).map Tn.d)),Δ (.int j),y8])/\(w=Ρ "begins"->∃x,t=.s x)/\Tg t:=by
 obtain⟨t,et,gt⟩:=xK n ns (k:=k+2+5*j) (by omega) (by omega) hs hx c hc;obtain⟨x,ex,gx⟩:=pf (n+1) ns (k:=k+2+5*j) (by omega) (by omega) hs hx;have l1:(ts.map Tn.d).length=ts.length:=i_ ..;have te:=DX t;have tl:=DY t;cases q:(w == Ρ "begins") with
 |false=>
  refine⟨t,Δ t.d,?_,fun z=>?_,gt⟩
  ·unfold tM;rw[C_,b_,List.map_nil];simp![Ev.eY,et,te,tl,q,l1]
  ·rw[z]at q;simp at q
 |true=>
  cases q2:(x == Ρ "") with
  |false=>refine⟨.s x,Δ (.str x),?_,fun _=>⟨x,rfl⟩,gx⟩;unfold tM;rw[C_,b_,List.map_nil];show _=Except.ok (Fl.nx [_,_,_,_,_,_,Δ (.lst Θ (ts.map Tn.d++[.str x])),_,_]);simp![Ev.eY,et,te,tl,ex,q,q2,l1]
  |true=>refine⟨.s (Txt.slice st Φ (Δ 1)),Δ (.str (Txt.slice st Φ (Δ 1))),?_,fun _=>⟨_,rfl⟩,⟨S_ (kS st (show(0:Int)<=1 by decide)) (by decide),hx.slice _ _⟩⟩;unfold tM;rw[C_,b_,List.map_nil];show _=Except.ok (Fl.nx [_,_,_,_,_,_,Δ (.lst Θ (ts.map Tn.d++[.str (Txt.slice st Φ (Δ 1))])),_,_]);simp![Ev.eY,et,te,tl,ex,q,q2,l1]
theorem AL (n:Nat)(ns:List Int){k:Int}(h0:0<=k)(h1:k<=1500){st:Str}(hs:st.length<=100)(hx:Sx st)(c:Int)(hc:Cb c)(w:Str)(rm:Int)(r0:0 < rm)(r1:rm<=4) :
  ∃ts:List Tn,cM T (n+4) 37 [.lst Ξ (ns.map .int),.int k,.str st,.int c,.str w,.int rm]=.ok (.lst Θ (ts.map Tn.d))/\(ts.length:Int)<=rm/\(w=Ρ "begins"->∀t∈ts,∃x,t=.s x)/\
   (w=Ρ "least"∨w=Ρ "most"->∃x,ts=[.i x])/\(w=Ρ "has"∨w=Ρ "lacks"->ts=[])/\∀t∈ts,Tg t:=by
 obtain⟨x,ex,gx⟩:=n0 (n+1) ns (k:=k+1) (by omega) (by omega) hc;have key:∀b:Bool,(w == Ρ "least"||w == Ρ "most")=b->∀b':Bool,(w == Ρ "has"||w == Ρ "lacks")=b'->
   ∃ts:List Tn,cM T (n+4) 37 [.lst Ξ (ns.map .int),.int k,.str st,.int c,.str w,.int rm]=.ok (.lst Θ (ts.map Tn.d))/\(ts.length:Int)<=rm/\(b=Ξ->w=Ρ "begins"->∀t∈ts,∃x,t=.s x)/\(b=Θ->∃x,ts=[.i x])/\(b=Ξ->b'=Θ->ts=[])/\∀t∈ts,Tg t:=by
  intro b hb b' Mn;cases b with
  |true=>
   refine⟨[.i x],?_,by show(1:Int)<=rm;omega,fun z=>(by cases z),fun _=>⟨x,rfl⟩,fun z=>(by cases z),fun t ht=>?_⟩
   ·rw[b_,List.map_nil];show _=Except.ok (D.lst Θ [.int x]);rw[JG 37 RB 6 9 PN rfl rfl rfl rfl rfl rfl];unfold PN;cases q1:(w == Ρ "least") with
    |true=>simp![q1,ex]
    |false=>rw[q1,Bool.false_or]at hb;simp![q1,hb,ex]
   ·rw[t_.mp ht];exact gx
  |false=>
   have WR:=Bool.or_eq_false_iff.mp hb;have q1:=WR.1;have q2:=WR.2;cases b' with
   |true=>
    refine⟨[],?_,by show(0:Int)<=rm;omega,fun _ _ t ht=>(by simp at ht),fun z=>(by cases z),fun _ _=>rfl,fun t ht=>(by simp at ht)⟩;rw[List.map_nil];rw[JG 37 RB 6 9 PN rfl rfl rfl rfl rfl rfl];unfold PN;cases q3:(w == Ρ "has") with
    |true=>simp![q1,q2,q3]
    |false=>rw[q3,Bool.false_or]at Mn;simp![q1,q2,q3,Mn]
   |false=>
    have WT:=Bool.or_eq_false_iff.mp Mn;have q3:=WT.1;have q4:=WT.2;obtain⟨r,d1,c0,c1⟩:=Vm (n+2) ns k rm h0 (by omega) r0;obtain⟨Jl,e,ts,y7,y8,rfl,hl,Zv,Vn⟩:=Ev.lX (its:=iV 0 (1+r)) (τ:=[Δ (.lst Ξ (ns.map .int)),Δ (.int k),Δ (.str st),Δ (.int c),Δ (.str w),Δ (.int rm),Δ (.lst Θ []),Φ,Φ]) (body:=Ev.turn (cM T (n+3)) (.nm 7) tM)
     (fun i τ=>∃(ts:List Tn) (x7 x8:Option D),τ=[Δ (.lst Ξ (ns.map .int)),Δ (.int k),Δ (.str st),Δ (.int c),Δ (.str w),Δ (.int rm),Δ (.lst Θ (ts.map Tn.d)),x7,x8]/\ts.length=i/\(w=Ρ "begins"->∀t∈ts,∃x,t=.s x)/\∀t∈ts,Tg t)
     ⟨[],Φ,Φ,rfl,rfl,fun _ t ht=>by simp at ht,fun t ht=>by simp at ht⟩ (by
      rintro i x τ Oj ⟨ts,x7,x8,rfl,hl,Vo,Zw⟩;have hi:i < (1+r).toNat:=by have:=(E_.mp Oj).1;rw[iA]at this;omega
      unfold iV at Oj;rw[L_,List.getElem?_range (by omega)]at Oj;have KP:D.int (0+(i:Nat))=x:=K_ Oj;subst KP;obtain⟨t,y8,e,ht,hg⟩:=DZ n ns h0 h1 hs hx c hc w rm ts (0+(i:Int)) (by omega) (by omega) (by omega) x7 x8;refine⟨_,e,ts++[t],_,_,rfl,by rw[g_,hl];rfl,fun z u hu=>?_,fun u hu=>?_⟩
      ·rcases o_.mp hu with hu|hu
       ·exact Vo z u hu
       ·rw[t_.mp hu];exact ht z
      ·rcases o_.mp hu with hu|hu
       ·exact Zw u hu
       ·rw[t_.mp hu];exact hg)
    refine⟨ts,?_,?_,fun _=>Zv,fun z=>(by cases z),fun _ z=>(by cases z),Vn⟩
    ·rw[JG 37 RB 6 9 PN rfl rfl rfl rfl rfl rfl];unfold PN;unfold tM at e;simp![q1,q2,q3,q4,d1,e]
    ·rw[iA]at hl;omega
 obtain⟨ts,e,hl,k1,k2,k3,k4⟩:=key _ rfl _ rfl;have nb:w=Ρ "begins"->(w == Ρ "least"||w == Ρ "most")=Ξ:=fun z=>by rw[z];decide +kernel
 have nh:(w=Ρ "has"∨w=Ρ "lacks")->(w == Ρ "least"||w == Ρ "most")=Ξ/\(w == Ρ "has"||w == Ρ "lacks")=Θ:=fun z=>by rcases z with rfl|rfl<;>exact⟨by decide +kernel,by decide +kernel⟩
 have nl:(w=Ρ "least"∨w=Ρ "most")->(w == Ρ "least"||w == Ρ "most")=Θ:=fun z=>by rcases z with rfl|rfl<;>decide +kernel
 exact⟨ts,e,hl,fun z=>k1 (nb z) z,fun z=>k2 (nl z),fun z=>k3 (nh z).1 (nh z).2,k4⟩
noncomputable def Cn.t (c:Cn):D:=.tup [.str c.m,.str c.w,.lst Θ (c.ts.map Tn.d)]
theorem qK (c:Cn):er c.t=c.d:=by unfold Cn.t Cn.d;show D.tup [.str c.m,.str c.w,.lst Ξ (Jj (c.ts.map Tn.d))]=_;rw[mY]
theorem rX (cs:List Cn):Jj (cs.map Cn.t)=cs.map Cn.d:=by rw[g7,Y_];exact aan fun c _=>qK c
structure Gc (c:Cn):Prop where
 io:io c=Ξ
 be:c.w=Ρ "begins"->∀t∈c.ts,∃x,t=.s x
 le:c.w=Ρ "least"->∀t∈c.ts,∃x,t=.i x
 mo:c.w=Ρ "most"->∀t∈c.ts,∃x,t=.i x
 wk:c.ts=[]∨Wk c.w
 tg:∀t∈c.ts,Tg t
 one:c.w=Ρ "least"∨c.w=Ρ "most"->∃x,c.ts=[.i x]
 wd:Wk c.w∨c.w=Ρ "has"∨c.w=Ρ "lacks"
noncomputable def w9:List Str:=[Ρ "is",Ρ "not",Ρ "begins",Ρ "least",Ρ "most",Ρ "has",Ρ "lacks",Ρ "is",Ρ "begins"]
theorem D0 {k:Nat}(h:k < 9):(Wk (w9.getD k ⟨#[]⟩)∨w9.getD k ⟨#[]⟩=Ρ "has"∨w9.getD k ⟨#[]⟩=Ρ "lacks")/\((Ρ "in" == w9.getD k ⟨#[]⟩)||(Ρ "out" == w9.getD k ⟨#[]⟩))=Ξ:=by
 match k,h with
 |0,_=>exact⟨.inl .is,by decide +kernel⟩
 |1,_=>exact⟨.inl .not,by decide +kernel⟩
 |2,_=>exact⟨.inl .be,by decide +kernel⟩
 |3,_=>exact⟨.inl .le,by decide +kernel⟩
 |4,_=>exact⟨.inl .mo,by decide +kernel⟩
 |5,_=>exact⟨.inr (.inl rfl),by decide +kernel⟩
 |6,_=>exact⟨.inr (.inr rfl),by decide +kernel⟩
 |7,_=>exact⟨.inl .is,by decide +kernel⟩
 |8,_=>exact⟨.inl .be,by decide +kernel⟩
noncomputable def tQ:List IS:=[(.asg (.nm 10) (.idx (.v 7) (.call 30 [(.v 0),(.bin .add (.v 1) (.bin .mul (.c (.int 60)) (.v 9))),(.c (.int 9))]))),(.asg (.nm 11) (.idx (.v 2) (.call 30 [(.v 0),(.bin .add (.bin .add (.v 1) (.c (.int 1))) (.bin .mul (.c (.int 60)) (.v 9))),(.bi .len [(.v 2)])]))),(.app 8 (.tup [(.v 11),(.v 10),(.call 37 [(.v 0),(.bin .add (.bin .add (.v 1) (.c (.int 2))) (.bin .mul (.c (.int 60)) (.v 9))),(.v 3),(.v 4),(.v 10),(.v 6)])]))]
noncomputable def qS (ns:List Int)(k:Int)(ms:List Str)(st:Str)(c ct rm:Int)(cs:List Cn)(x9 Ko P0:Option D):Ev:=[Δ (.lst Ξ (ns.map .int)),Δ (.int k),Δ (.lst Ξ (ms.map .str)),Δ (.str st),Δ (.int c),Δ (.int ct),Δ (.int rm),Δ (.lst Θ (w9.map .str)),Δ (.lst Θ (cs.map Cn.t)),x9,Ko,P0]
theorem i1 {ts:List Tn}(h:∃x,ts=[.i x]):∀t∈ts,∃x,t=.i x:=fun t ht=>by obtain⟨x,rfl⟩:=h;exact⟨x,t_.mp ht⟩
theorem D3 (n:Nat)(ns:List Int){k:Int}(h0:0<=k)(h1:k<=600){ms:List Str}(m0:0 < ms.length)(m1:ms.length<=10){st:Str}(hs:st.length<=100)(NP:Sx st)(c ct rm:Int)(hc:Cb c)(r0:0 < rm)(r1:rm<=4)(cs:List Cn)(j:Int)(j0:0<=j)(j1:j<=10)(lt:cs.length<=100)(x9 Ko P0:Option D) :
  ∃(d:Cn) (Vp Vq:Option D),Ev.turn (cM T (n+4)) (.nm 9) tQ (.int j) (qS ns k ms st c ct rm cs x9 Ko P0)=.ok (.nx (qS ns k ms st c ct rm (cs++[d]) (Δ (.int j)) Vp Vq))/\Gc d/\(d.ts.length:Int)<=rm:=by
 have d1:=iG (n+3) ns (k+60*j) 9 (by omega) (by omega) (by decide);have b1:=jP ns (k+60*j) (m:=9) (by decide);have c1:=jS ns (k+60*j) (m:=9) (by decide);have d2:=iG (n+3) ns (k+1+60*j) (ms.length:Int) (by omega) (by omega) (by omega);have b2:=jP ns (k+1+60*j) (m:=(ms.length:Int)) (by omega);have c2:=jS ns (k+1+60*j) (m:=(ms.length:Int)) (by omega);have hx:iq (.lst Θ (w9.map .str)) (.int (dr ns (k+60*j) 9))=.ok (.str (w9.getD (dr ns (k+60*j) 9).toNat ⟨#[]⟩)):=Ev.Au b1 (by show dr ns (k+60*j) 9 < 9;exact c1);have hm:iq (.lst Ξ (ms.map .str)) (.int (dr ns (k+1+60*j) (ms.length:Int)))=.ok (.str (ms.getD (dr ns (k+1+60*j) (ms.length:Int)).toNat ⟨#[]⟩)):=Ev.Au b2 c2;obtain⟨hw,MZ⟩:=D0 (k:=(dr ns (k+60*j) 9).toNat) (by omega);generalize w9.getD (dr ns (k+60*j) 9).toNat ⟨#[]⟩=w,ms.getD (dr ns (k+1+60*j) (ms.length:Int)).toNat ⟨#[]⟩=m at *;obtain⟨ts,et,tl,p1,p2,p3,p4⟩:=AL n ns (k:=k+2+60*j) (by omega) (by omega) hs NP c hc w rm r0 r1;have lm:(ms.map D.str).length=ms.length:=i_ ..;have lc:(cs.map Cn.t).length=cs.length:=i_ ..;refine⟨⟨m,w,ts⟩,Δ (.str w),Δ (.str m),?_,⟨MZ,p1,fun z=>i1 (p2 (.inl z)),fun z=>i1 (p2 (.inr z)),?_,p4,p2,hw⟩,tl⟩
 ·unfold qS;rw[C_,b_,List.map_nil];show _=Except.ok (Fl.nx [_,_,_,_,_,_,_,_,Δ (.lst Θ (cs.map Cn.t++[.tup [.str m,.str w,.lst Θ (ts.map Tn.d)]])),_,_,_]);generalize w9.map D.str=W at hx ⊢;unfold tQ;simp![Ev.eY,d1,d2,hx,hm,et,lm,lc]
 ·rcases hw with z|z|z
  ·exact .inr z
  ·exact .inl (p3 (.inl z))
  ·exact .inl (p3 (.inr z))
theorem qL (n:Nat)(ns:List Int){k:Int}(h0:0<=k)(h1:k<=600){ms:List Str}(m0:0 < ms.length)(m1:ms.length<=10){st:Str}(hs:st.length<=100)(NP:Sx st)(c ct rm:Int)(hc:Cb c)(t0:0<=ct)(t1:ct<=10)(r0:0 < rm)(r1:rm<=4) :
  ∃cs:List Cn,cM T (n+5) 38 [.lst Ξ (ns.map .int),.int k,.lst Ξ (ms.map .str),.str st,.int c,.int ct,.int rm]=.ok (.lst Θ (cs.map Cn.t))/\cs.length=ct.toNat/\∀d∈cs,Gc d/\(d.ts.length:Int)<=rm:=by
 obtain⟨Jl,e,cs,y9,Vp,Vq,rfl,hl,hx⟩:=Ev.lX (its:=iV 0 ct) (τ:=qS ns k ms st c ct rm [] Φ Φ Φ) (body:=Ev.turn (cM T (n+4)) (.nm 9) tQ)
  (fun i τ=>∃(cs:List Cn) (x9 Ko P0:Option D),τ=qS ns k ms st c ct rm cs x9 Ko P0/\cs.length=i/\∀d∈cs,Gc d/\(d.ts.length:Int)<=rm)
  ⟨[],Φ,Φ,Φ,rfl,rfl,fun t ht=>by simp at ht⟩ (by
   rintro i x τ hx ⟨cs,x9,Ko,P0,rfl,hl,Vo⟩;have hi:i < ct.toNat:=by have:=(E_.mp hx).1;rw[iA]at this;omega
   unfold iV at hx;rw[L_,List.getElem?_range (by omega)]at hx;have KP:D.int (0+(i:Nat))=x:=K_ hx;subst KP;obtain⟨d,Vp,Vq,e,g1,g2⟩:=D3 n ns h0 h1 m0 m1 hs NP c ct rm hc r0 r1 cs (0+(i:Int)) (by omega) (by omega) (by omega) x9 Ko P0;refine⟨_,e,cs++[d],_,_,_,rfl,by rw[g_,hl];rfl,fun u hu=>?_⟩;rcases o_.mp hu with hu|hu
   ·exact Vo u hu
   ·rw[t_.mp hu];exact⟨g1,g2⟩)
 refine⟨cs,?_,by rw[hl,iA];omega,hx⟩;unfold qS w9 at e;rw[List.map_nil,b_,b_,b_,b_,b_,b_,b_,b_,b_,List.map_nil]at e;rw[JG 38 U7 7 12 U6 rfl rfl rfl rfl rfl rfl];unfold U6;unfold tQ at e;simp![e]
noncomputable def one (c:Nat):Str:=⟨#[c]⟩
noncomputable def Ol (cs:List Nat):Str:=⟨cs.toArray⟩
theorem tu (cs:List Nat):(Ol cs).length=cs.length:=by unfold Ol Str.length;simp
theorem AM (c:Nat):(one c).length=1:=rfl
theorem og:∀(cs:List Nat) (acc:Array Nat),(cs.map one).foldl (fun acc p=>acc++(Ρ "").cps++p.cps) acc=acc++cs.toArray
 |[],acc=>by simp
 |c::cs,acc=>by
  have e:(Ρ "").cps = #[]:=by decide +kernel
  rw[b_,List.foldl_cons,og cs,e];show acc++#[]++#[c]++cs.toArray=_;simp
theorem join_one (cs:List Nat):Txt.join "" (cs.map one)=Ol cs:=by
 show(⟨((cs.map one).drop 1).foldl (fun acc p=>acc++(Ρ "").cps++p.cps) ((cs.map one).headD Str.empty).cps⟩:Str)=_;cases cs with
 |nil=>rfl
 |cons c cs=>rw[b_,List.drop_succ_cons,List.drop_zero,List.headD_cons,og];unfold Ol one;simp
theorem AN (cs:List Nat):((cs.map one).map (fun y:Str=>y.length)).sum=cs.length:=by
 induction cs with
 |nil=>rfl
 |cons c cs ih=>rw[b_,b_,List.sum_cons,ih,List.length_cons,AM];omega
theorem tw {o:Bool}{cs:List Nat}(h:cs.length<=1000):mK .join (.str "") [.lst o ((cs.map one).map .str)]=.ok (.str (Ol cs)):=by
 have e:(Ρ "").length=0:=by decide +kernel
 rw[Ev.Aq (by rw[AN,i_,e];omega),join_one]
theorem uK (n:Nat)(ns:List Int){k:Int}(h0:0<=k)(h1:k<=1900):∃c:Int,cM T (n+2) 34 [.lst Ξ (ns.map .int),.int k]=.ok (.int c)/\Cb c:=by
 have d1:=iG n ns k 20000 h0 (by omega) (by decide);have d2:=iG n ns (k+1) 100000 (by omega) (by omega) (by decide);have b1:=jP ns k (m:=20000) (by decide);have c1:=jS ns k (m:=20000) (by decide);have hp:Le .pow (.int 10) (.int 9)=.ok (.int 1000000000):=by kernel_rfl
 generalize dr ns k 20000=a,dr ns (k+1) 100000=b at *;refine⟨if 999999990 < (if 0 - 999999990 > a*100000+b - 1000000000 then 0 - 999999990 else a*100000+b - 1000000000) then 999999990 else(if 0 - 999999990 > a*100000+b - 1000000000 then 0 - 999999990 else a*100000+b - 1000000000),?_,by unfold Cb;split<;>split<;>omega⟩;rw[JG 34 U5 2 3 U4 rfl rfl rfl rfl rfl rfl];unfold U4;simp![d1,d2,hp]
theorem qM {P:Nat->Prop}{g:D->Res (Option D)}:∀(its:List D),(∀x∈its,∃y:Nat,g x=.ok (Δ (.str (one y)))/\P y)->∃ys:List Nat,gM g its=.ok ((ys.map one).map .str)/\ys.length=its.length/\∀y∈ys,P y
 |[],_=>⟨[],rfl,rfl,fun y hy=>by simp at hy⟩
 |x::its,h=>by
  obtain⟨y,hy,py⟩:=h x (by simp);obtain⟨ys,e,hl,hp⟩:=qM its fun z hz=>h z (w_ _ hz)
  exact⟨y::ys,iM hy e,by rw[List.length_cons,List.length_cons,hl],fun u hu=>by
   rcases k_.mp hu with rfl|hu
   ·exact py
   ·exact hp u hu⟩
theorem lG {g:D->Res (Option D)}:∀(its:List D),(∀x∈its,∃y:Str,g x=.ok (Δ (.str y)))->∃ys:List Str,gM g its=.ok (ys.map .str)/\ys.length=its.length
 |[],_=>⟨[],rfl,rfl⟩
 |x::its,h=>by obtain⟨y,hy⟩:=h x (by simp);obtain⟨ys,e,hl⟩:=lG its fun z hz=>h z (w_ _ hz);exact⟨y::ys,iM hy e,by rw[List.length_cons,List.length_cons,hl]⟩
theorem ph {a:Int}{x:D}(h:x∈iV 0 a):∃j:Int,x=.int j/\0<=j/\j < a:=by unfold iV at h;obtain⟨k,hk,rfl⟩:=List.mem_map.mp h;rw[aai]at hk;exact⟨0+(k:Int),rfl,by omega,by omega⟩
theorem tD (n:Nat)(ns:List Int){k:Int}(h0:0<=k)(h1:k<=1900){z:Str}(z0:0 < z.length)(z1:z.length<=100)(zx:Sx z) :
  ∃ys:List Nat,gM (gO (cM T (n+1)) (.nm 3) [] (.idx (.v 0) (.call 30 [(.v 1),(.bin .add (.bin .add (.v 2) (.c (.int 2))) (.v 3)),(.bi .len [(.v 0)])])) [Δ (.str z),Δ (.lst Ξ (ns.map .int)),Δ (.int k),Φ]) (iV 0 12)=.ok ((ys.map one).map .str)/\ys.length=12/\∀y∈ys,y∈sg.cps.toList:=by
 obtain⟨ys,e,hl,hp⟩:=qM (P:=fun y=>y∈sg.cps.toList) (g:=gO (cM T (n+1)) (.nm 3) [] (.idx (.v 0) (.call 30 [(.v 1),(.bin .add (.bin .add (.v 2) (.c (.int 2))) (.v 3)),(.bi .len [(.v 0)])])) [Δ (.str z),Δ (.lst Ξ (ns.map .int)),Δ (.int k),Φ]) (iV 0 12) (by
  intro x hx;obtain⟨j,rfl,j0,j1⟩:=ph hx;have d:=iG n ns (k+2+j) (z.length:Int) (by omega) (by omega) (by omega);have b:=jP ns (k+2+j) (m:=(z.length:Int)) (by omega);have c:=jS ns (k+2+j) (m:=(z.length:Int)) (by omega);have hy:=Ev.Rn (z:=z) b c (by omega);refine⟨z.cps.toList.getD (dr ns (k+2+j) (z.length:Int)).toNat 0,?_,zx _ (getD_mem _ (by have:z.cps.toList.length=z.length:=(by simp[Str.length]);omega))⟩;unfold one
  simp![Ev.eY,d,hy])
 exact⟨ys,e,hl.trans (by rw[iA];rfl),hp⟩
theorem D4:∀d:Fin 34,0 < (Txt.slice (Txt.slice sg (Δ ((d:Nat):Int)) Φ) Φ (Δ 2)).length:=by decide +kernel
theorem lZ:sg.length=36:=rW
theorem AO (n:Nat)(ns:List Int){k:Int}(h0:0<=k)(h1:k<=1800):∃x:Str,cM T (n+2) 32 [.lst Ξ (ns.map .int),.int k]=.ok (.str x)/\x.length<=100/\Sx x:=by
 have d1:=iG n ns k 2 h0 (by omega) (by decide);have d2:=iG n ns (k+1) 34 (by omega) (by omega) (by decide);have b2:=jP ns (k+1) (m:=34) (by decide);have c2:=jS ns (k+1) (m:=34) (by decide);have lr:(iV 0 12).length=12:=by rw[iA];rfl
 cases q:(dr ns k 2 == 0) with
 |false=>obtain⟨ys,e,hl,hp⟩:=tD n ns h0 (by omega) (z:=sg) (by rw[lZ];decide) (by rw[lZ];decide) (fun c hc=>hc);have je:=tw (o:=Θ) (cs:=ys) (by omega);refine⟨Ol ys,?_,by rw[tu];omega,fun c hc=>hp c (by simpa[Ol] using hc)⟩;unfold sg at e;rw[JG 32 SW 2 4 Rw rfl rfl rfl rfl rfl rfl];unfold Rw;simp![d1,q,e,je,lr]
 |true=>obtain⟨j,hj⟩:=Int.eq_ofNat_of_zero_le b2;have hz:=D4 ⟨j,by omega⟩;have l1:=iT sg (Δ ((j:Nat):Int)) Φ;have l2:=iT (Txt.slice sg (Δ ((j:Nat):Int)) Φ) Φ (Δ 2);rw[lZ]at l1;have Uc:0 < (Txt.slice (Txt.slice sg (Δ ((j:Nat):Int)) Φ) Φ (Δ 2)).length:=hz;obtain⟨ys,e,hl,hp⟩:=tD n ns h0 (by omega) (z:=Txt.slice (Txt.slice sg (Δ ((j:Nat):Int)) Φ) Φ (Δ 2)) Uc (by omega) ((Sx.slice (x:=sg) (fun c hc=>hc) _ _).slice _ _);have je:=tw (o:=Θ) (cs:=ys) (by omega);refine⟨Ol ys,?_,by rw[tu];omega,fun c hc=>hp c (by simpa[Ol] using hc)⟩;rw[hj]at d2;have sl:=lZ;unfold sg at e l1 l2 sl;rw[JG 32 SW 2 4 Rw rfl rfl rfl rfl rfl rfl];unfold Rw;simp![d1,d2,q,e,je,sl,lr]
theorem xM {i:Int}(h0:0<=i)(h1:i < 26):∃y:Str,iq (.str "abcdefghijklmnopqrstuvwxyz") (.int i)=.ok (.str y)/\y.length=1:=DW h0 (by rw[xI];exact h1) (by rw[xI];decide)
noncomputable def tN:List IS:=[(.asg (.nm 5) (.bin .add (.v 5) (.idx (.v 3) (.call 30 [(.v 0),(.bin .add (.bin .add (.v 1) (.c (.int 40))) (.v 6)),(.c (.int 26))]))))]
theorem AQ (n:Nat)(ns:List Int){k:Int}(h0:0<=k)(h1:k<=1000)(a2 a3 a4:Option D)(ha:a3=Δ (.str "abcdefghijklmnopqrstuvwxyz")) {r:Int} (r0:0<=r) (r1:r < 8) :
  ∃(b:Str) (x6:Option D),forM (Ev.turn (cM T (n+1)) (.nm 6) tN) (iV 0 r) [Δ (.lst Ξ (ns.map .int)),Δ (.int k),a2,a3,a4,Δ (.str ""),Φ,Φ,Φ]=.ok (.nx [Δ (.lst Ξ (ns.map .int)),Δ (.int k),a2,a3,a4,Δ (.str b),x6,Φ,Φ])/\b.length<=8:=by
 subst ha;obtain⟨Jl,e,b,x6,rfl,hb⟩:=Ev.lX (its:=iV 0 r) (τ:=[Δ (.lst Ξ (ns.map .int)),Δ (.int k),a2,Δ (.str "abcdefghijklmnopqrstuvwxyz"),a4,Δ (.str ""),Φ,Φ,Φ]) (body:=Ev.turn (cM T (n+1)) (.nm 6) tN)
  (fun i τ=>∃(b:Str) (x6:Option D),τ=[Δ (.lst Ξ (ns.map .int)),Δ (.int k),a2,Δ (.str "abcdefghijklmnopqrstuvwxyz"),a4,Δ (.str b),x6,Φ,Φ]/\b.length=i)
  ⟨Ρ "",Φ,rfl,o8⟩ (by
   rintro i x τ hx ⟨b,x6,rfl,hb⟩;have hi:i < r.toNat:=by have:=(E_.mp hx).1;rw[iA]at this;omega
   unfold iV at hx;rw[L_,List.getElem?_range (by omega)]at hx;have KP:D.int (0+(i:Nat))=x:=K_ hx;subst KP;have d:=iG n ns (k+40+(0+(i:Int))) 26 (by omega) (by omega) (by decide);obtain⟨y,hy,ly⟩:=xM (jP ns (k+40+(0+(i:Int))) (m:=26) (by decide)) (jS ns (k+40+(0+(i:Int))) (m:=26) (by decide));refine⟨_,?_,b++y,Δ (.int (0+(i:Nat))),rfl,by rw[kR];omega⟩;unfold tN
   simp![Ev.eY,d,hy])
 refine⟨b,x6,e,?_⟩;rw[hb,iA];omega
theorem GD {y:Str}{z:Int}(hy:y.length<=100)(h0:0<=z)(h1:z<=100):Le .mul (.str y) (.int z)=.ok (.str (Txt.mul y z)):=by show Iy (decide (-16000<=z/\z<=16000/\y.length<=1000)) _=_;rw[B_ ⟨by omega,by omega,by omega⟩];rfl
theorem xN (n:Nat)(ns:List Int){k:Int}(h0:0<=k)(h1:k<=1000){mn:Int}(m0:0<=mn)(m1:mn<=10):∃xs:List Str,cM T (n+2) 31 [.lst Ξ (ns.map .int),.int k,.int mn]=.ok (.lst Θ (xs.map .str))/\xs.length=mn.toNat:=by
 have d1:=iG n ns k 26 h0 (by omega) (by decide);have b1:=jP ns k (m:=26) (by decide);have c1:=jS ns k (m:=26) (by decide);have d2:=iG n ns (k+1) 5 (by omega) (by omega) (by decide);have lr:(iV 0 mn).length=mn.toNat:=by rw[iA];omega
 generalize dr ns k 26=s at *;cases q:(dr ns (k+1) 5 == 0) with
 |true=>
  obtain⟨xs,e,hl⟩:=lG (g:=gO (cM T (n+1)) (.nm 2) [] (.bin .mul (.idx (.v 0) (.v 1)) (.bin .add (.c (.int 1)) (.v 2))) [Δ (.str "abcdefghijklmnopqrstuvwxyz"),Δ (.int s),Φ]) (iV 0 mn) (by
   intro x hx;obtain⟨j,rfl,j0,j1⟩:=ph hx;obtain⟨y,hy,ly⟩:=xM b1 c1;have hm:=GD (y:=y) (z:=1+j) (by omega) (by omega) (by omega);refine⟨Txt.mul y (1+j),?_⟩
   simp![Ev.eY,hy,hm])
  refine⟨xs,?_,hl.trans lr⟩;rw[JG 31 SV 3 9 Rv rfl rfl rfl rfl rfl rfl];unfold Rv;simp![d1,d2,q,e,lr]
 |false=>
  obtain⟨r,d3,b3,c3⟩:=Vm n ns (k+2) 8 (by omega) (by omega) (by decide);obtain⟨b,x6,eb,lb⟩:=AQ n ns h0 h1 (Δ (.int mn)) (Δ (.str "abcdefghijklmnopqrstuvwxyz")) (Δ (.int s)) rfl b3 c3;have d4:=iG n ns (k+3) ((b.length:Int)+1) (by omega) (by omega) (by omega);have b4:=jP ns (k+3) (m:=(b.length:Int)+1) (by omega);have d5:=iG n ns (k+1) 4 (by omega) (by omega) (by decide);have b5:=jP ns (k+1) (m:=4) (by decide);have c5:=jS ns (k+1) (m:=4) (by decide);generalize dr ns (k+3) ((b.length:Int)+1)=at',dr ns (k+1) 4=u at *;have hx:iq (.lst Θ [.int 1,.int 7,.int 25,.int 11]) (.int u)=.ok (.int (([1,7,25,11]:List Int).getD u.toNat 0)):=Ev.SQ (o:=Θ) (xs:=[1,7,25,11]) b5 (by show u < 4;exact c5);have hb:0<=([1,7,25,11]:List Int).getD u.toNat 0/\([1,7,25,11]:List Int).getD u.toNat 0<=25:=by
   have:u=0∨u=1∨u=2∨u=3:=by omega
   rcases this with rfl|rfl|rfl|rfl<;>decide
  generalize([1,7,25,11]:List Int).getD u.toNat 0=K3 at *
  obtain⟨xs,e,hl⟩:=lG (g:=gO (cM T (n+1)) (.nm 5) [] (.bin .add (.bin .add (.sl (.v 0) Φ (Δ (.v 1))) (.idx (.v 2) (.bin .mod (.bin .add (.v 3) (.bin .mul (.v 4) (.v 5))) (.c (.int 26))))) (.sl (.v 0) (Δ (.v 1)) Φ)) [Δ (.str b),Δ (.int at'),Δ (.str "abcdefghijklmnopqrstuvwxyz"),Δ (.int s),Δ (.int K3),Φ]) (iV 0 mn) (by
   intro x hx;obtain⟨j,rfl,j0,j1⟩:=ph hx;have e0:=Int.emod_nonneg (s+K3*j) (show(26:Int)≠0 by decide);have e1:=Int.emod_lt_of_pos (s+K3*j) (show(0:Int) < 26 by decide);obtain⟨y,hy,ly⟩:=xM e0 e1;have l1:=iT b Φ (Δ at');have l2:=iT b (Δ at') Φ;have l3:=kR (Txt.slice b Φ (Δ at')) y;refine⟨Txt.slice b Φ (Δ at')++y++Txt.slice b (Δ at') Φ,?_⟩
   simp![Ev.eY,hy])
  refine⟨xs,?_,hl.trans lr⟩;rw[JG 31 SV 3 9 Rv rfl rfl rfl rfl rfl rfl];unfold Rv;unfold tN at eb;simp![d1,d2,d3,d4,d5,q,eb,hx,e,lr]
theorem GF (c0 c1:Cn){r:Int}(h0:0<=r)(h1:r < 4):∃(ds:List D) (rows:List (List Cn)),iq (.lst Θ [.lst Θ [],.lst Θ [.lst Θ [c0.t]],.lst Θ [.lst Θ [c0.t],.lst Θ [c1.t]],.lst Θ [.lst Θ [c0.t,c1.t]]]) (.int r)=.ok (.lst Θ ds)/\Jj ds=rows.map gZ/\
  (∀c∈rows.flatten,c=c0∨c=c1)/\(rows.flatten.length<=2/\rows.length<=2)/\(rows.flatten.flatMap Cn.ts).length<=c0.ts.length+c1.ts.length:=by
 have e0:er c0.t=c0.d:=qK c0;have e1:er c1.t=c1.d:=qK c1;have:r=0∨r=1∨r=2∨r=3:=by omega
 rcases this with rfl|rfl|rfl|rfl
 ·exact⟨[],[],rfl,rfl,fun c hc=>by simp at hc,by simp,by simp⟩
 ·refine⟨[.lst Θ [c0.t]],[[c0]],rfl,?_,fun c hc=>by simp at hc;exact .inl hc,by simp,by simp⟩;show [D.lst Ξ [er c0.t]]=[D.lst Ξ [c0.d]]
  rw[e0]
 ·refine⟨[.lst Θ [c0.t],.lst Θ [c1.t]],[[c0],[c1]],rfl,?_,fun c hc=>by simpa using hc,by simp,by simp⟩;show [D.lst Ξ [er c0.t],D.lst Ξ [er c1.t]]=[D.lst Ξ [c0.d],D.lst Ξ [c1.d]]
  rw[e0,e1]
 ·refine⟨[.lst Θ [c0.t,c1.t]],[[c0,c1]],rfl,?_,fun c hc=>by simpa using hc,by simp,by simp⟩;show [D.lst Ξ [er c0.t,er c1.t]]=[D.lst Ξ [c0.d,c1.d]]
  rw[e0,e1]
theorem D5 (m0 m1:Str){r:Int}(h0:0<=r)(h1:r < 4):∃mt:Str,iq (.lst Θ [.str "mates",.str m0,.str m1,.str "mates"]) (.int r)=.ok (.str mt):=by
 have:r=0∨r=1∨r=2∨r=3:=by omega
 rcases this with rfl|rfl|rfl|rfl
 ·exact⟨_,rfl⟩
 ·exact⟨_,rfl⟩
 ·exact⟨_,rfl⟩
 ·exact⟨_,rfl⟩
theorem xO (cl:Nat->List D->Res D)(mt:Str):∃(JE:Str) (rest:List D),gM (gO cl (.nm 1) [(.cmp .ne (.v 1) (.v 0))] (.v 1) [Δ (.str mt),Φ]) [.str "mates",.str "others"]=.ok (.str JE::rest)/\gD rest=Θ:=by
 have st:∀x:Str,gO cl (.nm 1) [(.cmp .ne (.v 1) (.v 0))] (.v 1) [Δ (.str mt),Φ] (.str x)=.ok (if(x == mt)=Θ then Φ else Δ (.str x)):=by
  intro x;cases q:(x == mt) with
  |true=>simp![Ev.eY,q]
  |false=>simp![Ev.eY,q]
 have s1:=st "mates";have s2:=st "others";cases q1:((Ρ "mates") == mt) with
 |false=>
  rw[q1]at s1;cases q2:((Ρ "others") == mt) with
  |false=>rw[q2]at s2;exact⟨_,_,iM s1 (iM s2 rfl),rfl⟩
  |true=>rw[q2]at s2;exact⟨_,_,iM s1 (jg s2 rfl),rfl⟩
 |true=>
  rw[q1]at s1;have hm:mt=Ρ "mates":=(h_ q1).symm;have q2:((Ρ "others") == mt)=Ξ:=by rw[hm];decide +kernel
  rw[q2]at s2;exact⟨_,_,jg s1 (iM s2 rfl),rfl⟩
theorem qN {α:Type}(xs:List α){m:Int}(h:0<=m):jU xs (Δ m) Φ=xs.drop m.toNat:=by
 unfold jU HT.Kh;simp only;rw[d_ (by omega)];by_cases hm:m.toNat<=xs.length
 ·rw[show min m.toNat xs.length=m.toNat from Nat.min_eq_left hm,List.take_of_length_le (by rw[aap];omega)]
 ·rw[show min m.toNat xs.length=xs.length from Nat.min_eq_right (by omega),List.drop_length,List.take_nil,List.drop_of_length_le (by omega)]
noncomputable def RW:List IS:=[(.asg (.nm 10) (.call 30 [(.v 0),(.c (.int 486)),(.bin .add (.bi .len [(.v 8)]) (.c (.int 1)))])),(.asg (.nm 11) (.lst [(.tup [(.sl (.v 8) Φ (Δ (.v 10))),(.tup [(.c (.str "face")),(.c (.str "on"))])]),(.tup [(.sl (.v 8) (Δ (.v 10)) Φ),(.tup [(.c (.str "lot"))])])])),(.ret (.tup [(.v 6),(.tup [(.c (.str "salt")),(.c (.str "off")),(.v 11),(.tup [(.lst [(.tup [(.c (.str "on")),(.lst [])])]),(.lst [(.tup [(.c (.int 0)),(.c (.int 10007))])])])])]))]
noncomputable def jY:D:=.tup [.lst Θ [.tup [.str "on",.lst Θ []]],.lst Θ [.tup [.int 0,.int 10007]]]
theorem qO (n:Nat)(ns:List Int)(a1 a2 a3 a4 a5 a7 a9:Option D)(G:D){ds:List D}{cs:List Cn}(he:Jj ds=cs.map Cn.d)(hl:cs.length<=100) :
  ∃JM JN:List Cn,JM++JN=cs/\iy (cM T (n+1)) RW [Δ (.lst Ξ (ns.map .int)),a1,a2,a3,a4,a5,Δ G,a7,Δ (.lst Θ ds),a9,Φ,Φ]=.ok (.rt (.tup [G,.tup [.str "salt",.str "off",.lst Θ [.tup [.lst Θ (JM.map Cn.d),.tup [.str "face",.str "on"]],.tup [.lst Θ (JN.map Cn.d),.tup [.str "lot"]]],jY]])):=by
 have ld:ds.length=cs.length:=by rw[<- jm ds,he,i_]
 obtain⟨z,d,b,_⟩:=Vm n ns 486 ((ds.length:Int)+1) (by decide) (by decide) (by omega);have c1:jU ds Φ (Δ z)=ds.take z.toNat:=Ev.rQ ds b;have c2:jU ds (Δ z) Φ=ds.drop z.toNat:=qN ds b;have c3:jU (Jj ds) (Δ z) Φ=(Jj ds).drop z.toNat:=qN (Jj ds) b;have e1:Jj (ds.take z.toNat)=(cs.take z.toNat).map Cn.d:=by rw[g7,List.map_take,<- g7,he,<- List.map_take]
 have e2:Jj (ds.drop z.toNat)=(cs.drop z.toNat).map Cn.d:=by rw[g7,List.map_drop,<- g7,he,<- List.map_drop]
 have e3:Jj ((Jj ds).drop z.toNat)=(cs.drop z.toNat).map Cn.d:=by rw[he,<- List.map_drop,ji]
 refine⟨cs.take z.toNat,cs.drop z.toNat,List.take_append_drop ..,?_⟩;have v1:vars (.sl (.v 8) Φ (Δ (.v 10)))=[8,10]:=rfl;have v2:vars (.sl (.v 8) (Δ (.v 10)) Φ)=[8,10]:=rfl;unfold RW jY;cases f1:gD (ds.take z.toNat) with
 |true=>
  have g1:(cs.take z.toNat).map Cn.d=ds.take z.toNat:=by rw[<- e1];exact gW f1
  cases f2:gD (ds.drop z.toNat) with
  |true=>
   have g2:(cs.drop z.toNat).map Cn.d=ds.drop z.toNat:=by rw[<- e2];exact gW f2
   rw[g1,g2];simp![d,c1,c2,f1,f2]
  |false=>rw[g1];simp![d,c1,c2,f1,f2,e2,v2]
 |false=>
  cases f2:gD ((Jj ds).drop z.toNat) with
  |true=>
   have g2:(cs.drop z.toNat).map Cn.d=(Jj ds).drop z.toNat:=by rw[<- e3];exact gW f2
   rw[g2];simp![d,c1,c3,f1,f2,e1,v1]
  |false=>simp![d,c1,c3,f1,f2,e1,e3,v1,v2]
noncomputable def Vr:List IS:=[(.asg (.nm 4) (.call 38 [(.v 0),(.c (.int 500)),(.v 1),(.v 2),(.v 3),(.c (.int 2)),(.c (.int 2))])),(.asg (.nm 5) (.idx (.lst [(.c (.str "mates")),(.idx (.v 1) (.c (.int 0))),(.idx (.v 1) (.c (.int 1))),(.c (.str "mates"))]) (.call 30 [(.v 0),(.c (.int 487)),(.c (.int 4))]))),(.asg (.nm 6) (.lst [(.tup [(.v 5),(.idx (.lst [(.lst []),(.lst [(.sl (.v 4) Φ (Δ (.c (.int 1))))]),(.lst [(.sl (.v 4) Φ (Δ (.c (.int 1)))),(.sl (.v 4) (Δ (.c (.int 1))) Φ)]),(.lst [(.v 4)])]) (.call 30 [(.v 0),(.c (.int 480)),(.c (.int 4))]))])])),(.app 6 (.tup [(.idx (.comp {N:=["_law_mates","_law_own"],kd:=[.cell,.local],gl:=[],df:=Ξ} [5] (.nm 1) (.val (.lst [(.c (.str "mates")),(.c (.str "others"))])) [(.cmp .ne (.v 1) (.v 0))] (.v 1)) (.c (.int 0))),(.lst [])])),(.asg (.nm 7) (.call 30 [(.v 0),(.c (.int 481)),(.c (.int 5))])),(.asg (.nm 8) (.call 38 [(.v 0),(.c (.int 200)),(.v 1),(.v 2),(.v 3),(.v 7),(.idx (.lst [(.c (.int 2)),(.c (.int 4))]) (.call 30 [(.v 0),(.c (.int 482)),(.c (.int 2))]))])),(.JA (.cmp .eq (.call 30 [(.v 0),(.c (.int 483)),(.c (.int 2))]) (.c (.int 0))) [(.asg (.nm 9) (.tup [(.v 5),(.idx (.lst [(.c (.str "in")),(.c (.str "out"))]) (.call 30 [(.v 0),(.c (.int 484)),(.c (.int 2))])),(.lst [])])),(.ins 8 (.call 30 [(.v 0),(.c (.int 485)),(.bin .add (.v 7) (.c (.int 1)))]) (.v 9))] [])]
theorem xP:S1=Vr++RW:=rfl
theorem D6 {r:Int}(h0:0<=r)(h1:r < 2):∃w:Str,iq (.lst Θ [.str "in",.str "out"]) (.int r)=.ok (.str w)/\(w=Ρ "in"∨w=Ρ "out"):=by
 have:r=0∨r=1:=by omega
 rcases this with rfl|rfl
 ·exact⟨_,rfl,.inl rfl⟩
 ·exact⟨_,rfl,.inr rfl⟩
theorem xQ {r:Int}(h0:0<=r)(h1:r < 2):∃w:Int,iq (.lst Θ [.int 2,.int 4]) (.int r)=.ok (.int w)/\0 < w/\w<=4:=by
 have:r=0∨r=1:=by omega
 rcases this with rfl|rfl
 ·exact⟨_,rfl,by decide,by decide⟩
 ·exact⟨_,rfl,by decide,by decide⟩
theorem AR (n:Nat)(ns:List Int)(m0 m1:Str){st:Str}(hs:st.length<=100)(NP:Sx st)(c:Int)(hc:Cb c) :
  ∃(mt JE:Str) (c0 c1:Cn) (rows:List (List Cn)) (cs JM JN:List Cn),cM T (n+6) 39 [.lst Ξ (ns.map .int),.lst Ξ [.str m0,.str m1],.str st,.int c]=.ok (.tup [.lst Θ [.tup [.str mt,.lst Ξ (rows.map gZ)],.tup [.str JE,.lst Θ []]],.tup [.str "salt",.str "off",.lst Θ [.tup [.lst Θ (JM.map Cn.d),.tup [.str "face",.str "on"]],.tup [.lst Θ (JN.map Cn.d),.tup [.str "lot"]]],jY]])/\JM++JN=cs/\
   (Gc c0/\c0.ts.length<=2)/\(Gc c1/\c1.ts.length<=2)/\(∀d∈rows.flatten,d=c0∨d=c1)/\(rows.flatten.length<=2/\rows.length<=2)/\(rows.flatten.flatMap Cn.ts).length<=c0.ts.length+c1.ts.length/\
   ∃(l r:List Cn) (x:Option Cn),cs=l++x.toList++r/\(l++r).length<=4/\(∀d∈l++r,Gc d/\d.ts.length<=4)/\∀d,x=Δ d->io d=Θ/\d.ts=[]:=by
 obtain⟨ic,ei,il,ig⟩:=qL n ns (k:=500) (by decide) (by decide) (ms:=[m0,m1]) (by simp) (by simp) hs NP c 2 2 hc (by decide) (by decide) (by decide) (by decide)
 match ic,il,ei,ig with
 |[c0,c1],_,ei,ig=>
 have d1:=iG (n+4) ns 487 4 (by decide) (by decide) (by decide);have d2:=iG (n+4) ns 480 4 (by decide) (by decide) (by decide);have d3:=iG (n+4) ns 481 5 (by decide) (by decide) (by decide);have d4:=iG (n+4) ns 482 2 (by decide) (by decide) (by decide);have d5:=iG (n+4) ns 483 2 (by decide) (by decide) (by decide);have d6:=iG (n+4) ns 484 2 (by decide) (by decide) (by decide);obtain⟨mt,WU⟩:=D5 m0 m1 (jP ns 487 (m:=4) (by decide)) (jS ns 487 (m:=4) (by decide));obtain⟨dr4,rows,WV,re,r1,r2,r3⟩:=GF c0 c1 (jP ns 480 (m:=4) (by decide)) (jS ns 480 (m:=4) (by decide));obtain⟨rm,WW,Zx,Zy⟩:=xQ (jP ns 482 (m:=2) (by decide)) (jS ns 482 (m:=2) (by decide));obtain⟨w,hw,ww⟩:=D6 (jP ns 484 (m:=2) (by decide)) (jS ns 484 (m:=2) (by decide));obtain⟨JE,rest,eo,_⟩:=xO (cM T (n+5)) mt;have b3:=jP ns 481 (m:=5) (by decide);have c3:=jS ns 481 (m:=5) (by decide);obtain⟨cs,ec,cl,cg⟩:=qL n ns (k:=200) (by decide) (by decide) (ms:=[m0,m1]) (by simp) (by simp) hs NP c (dr ns 481 5) rm hc b3 (by omega) Zx Zy;have d7:=iG (n+4) ns 485 (dr ns 481 5+1) (by decide) (by decide) (by omega);have b7:=jP ns 485 (m:=dr ns 481 5+1) (by omega);have c7:=jS ns 485 (m:=dr ns 481 5+1) (by omega);rw[b_,b_,List.map_nil]at ei ec;rw[b_,b_,List.map_nil]at ei;generalize dr ns 481 5=ct at *;generalize dr ns 485 (ct+1)=z at *;have e0:=qK c0;have e1:=qK c1;have k1:jU [c0.t,c1.t] Φ (Δ 1)=[c0.t]:=rfl;have k2:jU [c0.t,c1.t] (Δ 1) Φ=[c1.t]:=rfl;have x0:iq (.lst Ξ [.str m0,.str m1]) (.int 0)=.ok (.str m0):=rfl;have x1:iq (.lst Ξ [.str m0,.str m1]) (.int 1)=.ok (.str m1):=rfl;have x2:iq (.lst Θ (.str JE::rest)) (.int 0)=.ok (.str JE):=by rw[Ev.UQ,Ev.oW .Iw (by decide) (by rw[List.length_cons];omega)];rfl
 have lc:(cs.map Cn.t).length=cs.length:=i_ ..;have vI:vars (.idx (.lst [(.lst []),(.lst [(.sl (.v 4) Φ (Δ (.c (.int 1))))]),(.lst [(.sl (.v 4) Φ (Δ (.c (.int 1)))),(.sl (.v 4) (Δ (.c (.int 1))) Φ)]),(.lst [(.v 4)])]) (.call 30 [(.v 0),(.c (.int 480)),(.c (.int 4))]))=[4,4,4,4,0]:=rfl;have g0:=ig c0 (by simp);have g1:=ig c1 (by simp);cases q:(dr ns 483 2 == 0) with
 |false=>
  obtain⟨JM,JN,LX,ee⟩:=qO (n+4) ns (Δ (.lst Ξ [.str m0,.str m1])) (Δ (.str st)) (Δ (.int c)) (Δ (.lst Ξ [c0.d,c1.d])) (Δ (.str mt)) (Δ (.int ct)) Φ (.lst Θ [.tup [.str mt,.lst Ξ (rows.map gZ)],.tup [.str JE,.lst Θ []]]) (ds:=cs.map Cn.t) (cs:=cs) (rX cs) (by omega);refine⟨mt,JE,c0,c1,rows,cs,JM,JN,?_,LX,⟨g0.1,by have:=g0.2;omega⟩,⟨g1.1,by have:=g1.2;omega⟩,r1,r2,r3,cs,[],Φ,by simp,by rw[v_];omega,fun d hd=>?_,fun d hd=>by cases hd⟩
  ·rw[Ev.go (show T 39=Δ NO from rfl) rfl (show NO.np=4 from rfl) (show NO.G.N.length=12 from rfl) (show NO.body=S1 from rfl) rfl,xP];unfold Vr;generalize RW=TL at ee ⊢;simp![ei,ec,d1,d2,d3,d4,d5,q,WU,WV,WW,re,eo,x0,x1,x2,k1,k2,vI,e0,e1,ee]
  ·rw[v_]at hd;exact⟨(cg d hd).1,by have:=(cg d hd).2;omega⟩
 |true=>
  have hz:(decide (0<=z/\z.toNat<=cs.length))=Θ:=B_ ⟨b7,by omega⟩;have ne:D.tup [.str mt,.str w,.lst Ξ []]=Cn.d (⟨mt,w,[]⟩:Cn):=rfl;have he:Jj ((cs.map Cn.t).take z.toNat++D.tup [.str mt,.str w,.lst Ξ []]::(cs.map Cn.t).drop z.toNat)=(cs.take z.toNat++[(⟨mt,w,[]⟩:Cn)]++cs.drop z.toNat).map Cn.d:=by rw[g7,C_,b_,<- List.map_take,<- List.map_drop,<- g7,<- g7,rX,rX,ne,nZ,C_,C_,r_];rfl
  obtain⟨JM,JN,LX,ee⟩:=qO (n+4) ns (Δ (.lst Ξ [.str m0,.str m1])) (Δ (.str st)) (Δ (.int c)) (Δ (.lst Ξ [c0.d,c1.d])) (Δ (.str mt)) (Δ (.int ct)) (Δ (.tup [.str mt,.str w,.lst Ξ []])) (.lst Θ [.tup [.str mt,.lst Ξ (rows.map gZ)],.tup [.str JE,.lst Θ []]]) he (by rw[g_,g_,aak,aap,V_];omega);refine⟨mt,JE,c0,c1,rows,_,JM,JN,?_,LX,⟨g0.1,by have:=g0.2;omega⟩,⟨g1.1,by have:=g1.2;omega⟩,r1,r2,r3,cs.take z.toNat,cs.drop z.toNat,Δ ⟨mt,w,[]⟩,rfl,by rw[List.take_append_drop];omega,fun d hd=>?_,fun d hd=>?_⟩
  ·rw[Ev.go (show T 39=Δ NO from rfl) rfl (show NO.np=4 from rfl) (show NO.G.N.length=12 from rfl) (show NO.body=S1 from rfl) rfl,xP];unfold Vr;generalize RW=TL at ee ⊢;simp![ei,ec,d1,d2,d3,d4,d5,d6,d7,q,WU,WV,WW,hw,re,eo,x0,x1,x2,k1,k2,vI,e0,e1,hz,lc,ee]
  ·rw[List.take_append_drop]at hd;exact⟨(cg d hd).1,by have:=(cg d hd).2;omega⟩
  ·cases hd;refine⟨?_,rfl⟩;unfold io;rcases ww with rfl|rfl
   ·show((Ρ "in" == Ρ "in")||_)=Θ;simp
   ·show(_||(Ρ "out" == Ρ "out"))=Θ;simp
noncomputable def L8 (mt JE:Str)(rows:List (List Cn)):List Gp:=[⟨mt,rows⟩,⟨JE,[]⟩]
noncomputable def Om (JM JN:List Cn):List Ru:=[⟨JM,.tup [.str "face",.str "on"]⟩,⟨JN,.tup [.str "lot"]⟩]
noncomputable def P1 (JM JN:List Cn):D:=.tup [.str "salt",.str "off",.lst Ξ ((Om JM JN).map Ru.d),er jY]
theorem all2 (JM JN:List Cn):gU (Om JM JN)=JM++JN:=by show JM++(JN++[])=_;rw[v_]
theorem uL (p:Str->Bool)(mt JE:Str)(rows:List (List Cn)):Kr p (L8 mt JE rows)=if p mt=Θ then rows.flatten else []:=by show(if p mt=Θ then rows.flatten else [])++((if p JE=Θ then List.flatten [] else [])++[])=_;rw[List.flatten_nil];simp
theorem WX (JM JN:List Cn):∀r∈Om JM JN,er r.o=r.o:=by
 intro r hr;unfold Om at hr;rcases k_.mp hr with rfl|hr
 ·rfl
 ·rw[t_.mp hr];rfl
theorem hd2 (mt JE:Str)(rows:List (List Cn))(JM JN:List Cn)(h1:(JM++JN).length<=100)(h2:rows.flatten.length<=2):Hd (L8 mt JE rows) (Om JM JN) (P1 JM JN) where
 ix:=rfl
 er:=by have h:=rS (WX JM JN);unfold P1;show D.tup [.str "salt",.str "off",.lst Ξ (Jj ((Om JM JN).map Ru.d)),L2.er (L2.er jY)]=_;rw[h,vY]
 ro:=WX JM JN
 l1:=by rw[all2];exact h1
 l2:=by
  rw[uL];split
  ·omega
  ·simp
theorem xR {cs:List Cn}{k:Nat}(h:∀c∈cs,c.ts.length<=k):(cs.flatMap Cn.ts).length<=k*cs.length:=by
 induction cs with
 |nil=>simp
 |cons c cs ih=>rw[List.flatMap_cons,g_,List.length_cons,Nat.mul_succ];have h1:=h c (by simp);have h2:=ih fun d hd=>h d (w_ _ hd);omega
structure Dw (c0 c1:Cn)(rows:List (List Cn))(cs l r:List Cn)(x:Option Cn):Prop where
 g0:Gc c0/\c0.ts.length<=2
 g1:Gc c1/\c1.ts.length<=2
 rw:∀d∈rows.flatten,d=c0∨d=c1
 rl:rows.flatten.length<=2
 rt:(rows.flatten.flatMap Cn.ts).length<=c0.ts.length+c1.ts.length
 eq:cs=l++x.toList++r
 ll:(l++r).length<=4
 lg:∀d∈l++r,Gc d/\d.ts.length<=4
 xi:∀d,x=Δ d->io d=Θ/\d.ts=[]
variable {c0 c1:Cn}{rows:List (List Cn)}{cs l r:List Cn}{x:Option Cn}
theorem Vs (w:Dw c0 c1 rows cs l r x):cs.filter (fun c=>!io c)=l++r:=by
 rw[w.eq,List.filter_append,List.filter_append];have h1:l.filter (fun c=>!io c)=l:=List.filter_eq_self.mpr fun d hd=>by rw[(w.lg d (q_ _ hd)).1.io];rfl
 have h2:r.filter (fun c=>!io c)=r:=List.filter_eq_self.mpr fun d hd=>by rw[(w.lg d (s_ _ hd)).1.io];rfl
 have h3:x.toList.filter (fun c=>!io c)=[]:=by
  cases x with
  |none=>rfl
  |some d=>show List.filter _ [d]=[];rw[List.filter_cons,(w.xi d rfl).1];rfl
 rw[h1,h2,h3,v_]
theorem tE (w:Dw c0 c1 rows cs l r x)(mt JE:Str)(JM JN:List Cn)(h:JM++JN=cs):∀c∈lk (L8 mt JE rows) (Om JM JN),Gc c:=by
 intro c hc;unfold lk at hc;rw[all2,h,Vs w,uL,o_]at hc;rcases hc with hc|hc
 ·exact(w.lg c hc).1
 ·split at hc
  ·rcases w.rw c hc with rfl|rfl
   ·exact w.g0.1
   ·exact w.g1.1
  ·simp at hc
theorem GG (w:Dw c0 c1 rows cs l r x)(mt JE:Str)(JM JN:List Cn)(h:JM++JN=cs):Ok (lk (L8 mt JE rows) (Om JM JN)) where
 be:=fun c hc=>(tE w mt JE JM JN h c hc).be
 le:=fun c hc=>(tE w mt JE JM JN h c hc).le
 mo:=fun c hc=>(tE w mt JE JM JN h c hc).mo
 K9:=by
  unfold lk;rw[all2,h,Vs w,uL,List.flatMap_append,g_];have h1:=xR (k:=4) fun c hc=>(w.lg c hc).2;have h2:=w.ll;have h3:=w.rt;have h4:=w.g0.2;have h5:=w.g1.2;split
  ·omega
  ·simp only[List.flatMap_nil,List.length_nil];omega
 fc:=by
  unfold lk;rw[all2,h,Vs w,uL,g_];have h2:=w.ll;have h3:=w.rl;split
  ·omega
  ·simp only[List.length_nil];omega
end Law
namespace Law
open PySem PySem.Spec L2 L2.Fr PyProof.Rows
variable {c0 c1:Cn}{rows:List (List Cn)}{cs l r:List Cn}{x:Option Cn}
theorem D7 (mt JE:Str){d:Cn}(h:io d=Ξ):MM (L8 mt JE rows) d=[d]:=by
 unfold MM;rw[h,d_ p_,uL];have:pk d mt=Ξ:=by unfold pk;rw[h];rfl
 rw[this,d_ p_];rfl
theorem rY (mt JE:Str):∀ {a:List Cn},(∀d∈a,io d=Ξ)->JV (L8 mt JE rows) a=a
 |[],_=>rfl
 |d::a,h=>by show MM _ d++JV _ a=_;rw[D7 mt JE (h d (by simp)),rY mt JE fun e he=>h e (w_ _ he)];rfl
theorem D8 (w:Dw c0 c1 rows cs l r x)(mt JE:Str):∃y:List Cn,JV (L8 mt JE rows) cs=l++y++r/\(y=[]∨y=rows.flatten):=by
 have h1:JV (L8 mt JE rows) l=l:=rY mt JE fun d hd=>(w.lg d (q_ _ hd)).1.io;have h2:JV (L8 mt JE rows) r=r:=rY mt JE fun d hd=>(w.lg d (s_ _ hd)).1.io;refine⟨JV (L8 mt JE rows) x.toList,?_,?_⟩
 ·rw[w.eq];show List.flatMap (MM _) _=_;rw[List.flatMap_append,List.flatMap_append];exact congr (congrArg _ (congr (congrArg _ h1) rfl)) h2
 ·cases x with
  |none=>exact .inl rfl
  |some d=>
   show MM _ d++[]=[]∨MM _ d++[]=_;rw[v_];unfold MM;rw[(w.xi d rfl).1,e_ rfl,uL,List.nil_append];split
   ·exact .inr rfl
   ·exact .inl rfl
theorem AS (w:Dw c0 c1 rows cs l r x)(mt JE:Str):(JV (L8 mt JE rows) cs).length<=6/\((JV (L8 mt JE rows) cs).flatMap Cn.ts).length<=20:=by
 obtain⟨y,e,hy⟩:=D8 w mt JE;have h1:=xR (k:=4) fun c hc=>(w.lg c hc).2;have h2:=w.ll;have h3:=w.rt;have h4:=w.g0.2;have h5:=w.g1.2;have h6:=w.rl;rw[e];rw[List.flatMap_append,g_]at h1;rw[g_]at h2;rw[g_,g_,List.flatMap_append,List.flatMap_append,g_,g_];rw[g_]at h1;rcases hy with rfl|rfl
 ·constructor
  ·simp only[List.length_nil];omega
  ·simp only[List.flatMap_nil,List.length_nil];omega
 ·constructor<;>omega
end Law
namespace Law
open PySem PySem.Spec L2 L2.Fr PyProof.Rows
theorem l5 {α:Type}{e:α->D}{n:Nat}:∀ {xs:List α},(∀a∈xs,pl n (e a)=Θ)->JS n (xs.map e)=Θ
 |[],_=>by rw[List.map_nil,JS]
 |a::xs,h=>by rw[b_,JS,h a (by simp),l5 fun b hb=>h b (w_ _ hb)];rfl
theorem nc {n:Nat}{ds:List D}(h:JS n ds=Θ)(hl:ds.length < 1000):pl (n+1) (.lst Ξ ds)=Θ:=by rw[pl,h,B_ hl];rfl
theorem lH {n:Nat}{ds:List D}(h:JS n ds=Θ)(hl:ds.length < 1000):pl (n+1) (.tup ds)=Θ:=by rw[pl,h,B_ hl];rfl
theorem GH (n:Nat)(t:Tn):pl (n+1) t.d=Θ:=by cases t<;>rfl
theorem GI (n:Nat){c:Cn}(h:c.ts.length < 1000):pl (n+3) c.d=Θ:=by unfold Cn.d;refine lH ?_ (by simp);have h1:pl (n+2) (.lst Ξ (c.ts.map Tn.d))=Θ:=nc (l5 fun t _=>GH n t) (by rw[i_];exact h);rw[JS,JS,JS,JS,h1];rfl
theorem rZ (n:Nat){r:List Cn}(h:∀c∈r,c.ts.length < 1000)(hl:r.length < 1000):pl (n+4) (gZ r)=Θ:=nc (l5 fun c hc=>GI n (h c hc)) (by rw[i_];exact hl)
theorem GJ {mt JE:Str}{rows:List (List Cn)}(h:∀c∈rows.flatten,c.ts.length < 1000)(hl:rows.flatten.length < 1000)(hr:rows.length < 1000):pl 8 (.lst Ξ ((L8 mt JE rows).map Gp.d))=Θ:=by
 have h1:pl 6 (.lst Ξ (rows.map gZ))=Θ:=nc (l5 fun r hr=>rZ 1 (fun c hc=>h c (List.mem_flatten.mpr ⟨r,hr,hc⟩)) (Nat.lt_of_le_of_lt (by
  have:=List.Sublist.length_le (List.sublist_flatten_of_mem hr)
  exact this) hl)) (by rw[i_];exact hr)
 refine nc (n:=7) ?_ (by simp[L8]);show JS 7 [D.tup [.str mt,.lst Ξ (rows.map gZ)],D.tup [.str JE,.lst Ξ []]]=Θ;rw[JS,JS,JS];rw[lH (n:=6) (by rw[JS,JS,JS,h1];rfl) (by simp)];rfl
theorem GK {JM JN:List Cn}(h:∀c∈JM++JN,c.ts.length < 1000)(hl:(JM++JN).length < 1000):pl 8 (P1 JM JN)=Θ:=by rw[g_]at hl;have h1:pl 5 (gZ JM)=Θ:=rZ 1 (fun c hc=>h c (q_ _ hc)) (by omega);have h2:pl 5 (gZ JN)=Θ:=rZ 1 (fun c hc=>h c (s_ _ hc)) (by omega);have h3:pl 6 (D.tup [gZ JM,.tup [.str "face",.str "on"]])=Θ:=lH (by rw[JS,JS,JS,h1];rfl) (by simp);have h4:pl 6 (D.tup [gZ JN,.tup [.str "lot"]])=Θ:=lH (by rw[JS,JS,JS,h2];rfl) (by simp);have h5:pl 7 (.lst Ξ [D.tup [gZ JM,.tup [.str "face",.str "on"]],D.tup [gZ JN,.tup [.str "lot"]]])=Θ:=nc (by rw[JS,JS,JS,h3,h4];rfl) (by simp);unfold P1;refine lH (n:=7) ?_ (by simp);show JS 7 [.str "salt",.str "off",.lst Ξ [D.tup [gZ JM,.tup [.str "face",.str "on"]],D.tup [gZ JN,.tup [.str "lot"]]],er jY]=Θ;rw[JS,JS,JS,JS,JS,h5];rfl
variable {c0 c1:Cn}{rows:List (List Cn)}{cs l r:List Cn}{x:Option Cn}
theorem xS (mk:Str):∀cs:List Cn,(cs.flatMap (aT mk)).length<=(cs.flatMap Cn.ts).length
 |[]=>l_ _
 |c::cs=>by
  rw[List.flatMap_cons,List.flatMap_cons,g_,g_];have h:=xS mk cs;have h1:=ja c.ts;unfold aT at *;split
  ·omega
  ·simp only[List.length_nil];omega
theorem xT (mk:Str):∀cs:List Cn,(cs.flatMap (bT mk)).length<=(cs.flatMap Cn.ts).length
 |[]=>l_ _
 |c::cs=>by
  rw[List.flatMap_cons,List.flatMap_cons,g_,g_];have h:=xT mk cs;have h1:=ja c.ts;unfold bT at *;split
  ·omega
  ·simp only[List.length_nil];omega
theorem tF (a b:Bool):∀xs:List Int,(xs.flatMap (Lw a b)).length<=2*xs.length
 |[]=>l_ _
 |x::xs=>by
  rw[List.flatMap_cons,g_,List.length_cons];have h:=tF a b xs;have h1:(Lw a b x).length<=2:=by cases a<;>cases b<;>simp[Lw]
  omega
theorem r6 (mk:Str):∀cs:List Cn,(cs.flatMap (cT mk)).length<=2*(cs.flatMap Cn.ts).length
 |[]=>l_ _
 |c::cs=>by
  rw[List.flatMap_cons,List.flatMap_cons,g_,g_];have h:=r6 mk cs;have h1:=jb c.ts;have h2:=tF (c.w == Ρ "most") (c.w == Ρ "least") (ins c.ts);unfold cT at *;split
  ·omega
  ·simp only[List.length_nil];omega
end Law
namespace Law
open PySem PySem.Spec L2 L2.Fr PyProof.Rows
theorem lI {x:Str}{xs:List Str}:x∈sS xs↔x∈xs:=by unfold sS;rw[(iL _).mem_iff];have:=(m8 xs [] List.nodup_nil).2 x;simp at this;exact this
theorem r9 {x:Int}{xs:List Int}:x∈sI xs↔x∈xs:=by unfold sI;rw[(PySem.W.sortI_perm _).mem_iff];have:=(m9 xs [] List.nodup_nil).2 x;simp at this;exact this
theorem GL (xs:List Int):(sI xs).Pairwise (· < ·):=by have h1:(sI xs).Pairwise (·<=·):=PySem.W.sortI_rises _;have h2:(sI xs).Nodup:=(PySem.W.sortI_perm _).nodup_iff.mpr (m9 xs [] List.nodup_nil).1;exact(h1.and h2).imp fun⟨a,b⟩=>by omega
structure Cl (A B:List Str)(C:List Int):Prop where
 a:∀x∈A,x.length<=8/\Sx x
 b:∀x∈B,x.length<=8/\Sx x
 e:Ρ ""∈B
 c:∀n∈C,-999999999<=n/\n<=1000000000
 up:C.Pairwise (· < ·)
 K9:A.length+B.length<=30
 lc:C.length<=64
theorem xU (mk:Str):∀cs:List Cn,(cs.flatMap (aT mk)).length+(cs.flatMap (bT mk)).length<=(cs.flatMap Cn.ts).length
 |[]=>l_ _
 |c::cs=>by
  rw[List.flatMap_cons,List.flatMap_cons,List.flatMap_cons,g_,g_,g_];have h:=xU mk cs;have h1:=ja c.ts;have h2:(aT mk c).length+(bT mk c).length<=c.ts.length:=by unfold aT bT;cases(c.m == mk)<;>cases(c.w == Ρ "begins")<;>simp<;>omega
  omega
theorem GN:(Ρ "").length<=8/\Sx (Ρ ""):=by
 have e:(Ρ "").cps = #[]:=by decide +kernel
 refine⟨by rw[o8];decide,fun c hc=>?_⟩;rw[e]at hc;simp at hc
theorem GO (mk:Str){cs:List Cn}(hg:∀c∈cs,∀t∈c.ts,Tg t)(K9:(cs.flatMap Cn.ts).length<=20):Cl (sS (cs.flatMap (aT mk))) (sS (Ρ ""::cs.flatMap (bT mk))) (sI (cs.flatMap (cT mk))) where
 a:=fun x hx=>by obtain⟨c,h1,h2⟩:=List.mem_flatMap.mp (lI.mp hx);exact hg c h1 _ (o6.mp h2).2.2
 b:=fun x hx=>by
  rcases k_.mp (lI.mp hx) with rfl|hx
  ·exact GN
  ·obtain⟨c,h1,h2⟩:=List.mem_flatMap.mp hx;exact hg c h1 _ (o7.mp h2).2.2
 e:=lI.mpr J_
 c:=fun n hn=>by obtain⟨c,h1,h2⟩:=List.mem_flatMap.mp (r9.mp hn);obtain⟨_,_,y,h3,h4⟩:=jX.mp h2;have h5 : -999999999<=y/\y<=999999999:=hg c h1 _ h3;rcases h4 with⟨_,rfl⟩|⟨_,rfl⟩<;>omega
 up:=GL _
 K9:=by have h1:=m7 (cs.flatMap (aT mk));have h2:=m7 (Ρ ""::cs.flatMap (bT mk));have h3:=xU mk cs;rw[List.length_cons]at h2;omega
 lc:=by have h1:=rT (cs.flatMap (cT mk));have h2:=r6 mk cs;omega
theorem BK (x:Str):∀xs:List Str,Jx (.str x) (xs.map .str)=.ok (xs.any (· == x))
 |[]=>rfl
 |y::xs=>by show Ii (JR 40 (.str y) (.str x)) _=_;show Ii (.ok (y == x)) _=_;show Ii (Jx (.str x) (xs.map .str)) _=_;rw[BK x xs];rfl
theorem GP {x:Str}{xs:List Str}(h:xs.any (· == x)=Ξ):x∉xs:=fun hx=>by have:=List.any_eq_false.mp h x hx;simp at this
theorem GQ {x:Str}{xs:List Str}(h:xs.any (· == x)=Θ):x∈xs:=by obtain⟨y,h1,h2⟩:=List.any_eq_true.mp h;rw[<- h_ h2];exact h1
theorem k1:(Ρ "text" == Ρ "none")=Ξ:=by decide +kernel
theorem k2:(Ρ "begins" == Ρ "none")=Ξ:=by decide +kernel
theorem k3:(Ρ "begins" == Ρ "text")=Ξ:=by decide +kernel
theorem k4:(Ρ "numbers" == Ρ "none")=Ξ:=by decide +kernel
theorem k5:(Ρ "numbers" == Ρ "text")=Ξ:=by decide +kernel
theorem k6:(Ρ "numbers" == Ρ "begins")=Ξ:=by decide +kernel
theorem k7:(Ρ "none" == Ρ "text")=Ξ:=by decide +kernel
theorem k8:(Ρ "text" == Ρ "begins")=Ξ:=by decide +kernel
theorem k9:(Ρ "none" == Ρ "begins")=Ξ:=by decide +kernel
noncomputable def oI:Option Int->D
 |none=>.Iw
 |some i=>.int i
theorem WY {a:D}:Kj [a] 0=Δ a:=rfl
theorem RX {a b:D}:Kj [a,b] 0=Δ a:=rfl
theorem WZ {a b:D}:Kj [a,b] 1=Δ b:=rfl
theorem Qu {a b c:D}:Kj [a,b,c] 0=Δ a:=rfl
theorem RY {a b c:D}:Kj [a,b,c] 1=Δ b:=rfl
theorem RZ {a b c:D}:Kj [a,b,c] 2=Δ c:=rfl
theorem xV:∀(C:List Int) (Oo:Option Int),C.Pairwise (· < ·)->(∀i,Oo=Δ i->∀c∈C,i < c)->∀e∈List.zipWith iQ (oI Oo::C.map .int) ((C.map (· - 1)).map .int++[.Iw]),
  ∃lo hi,e=iQ (oI lo) (oI hi)/\(∀i,lo=Δ i->Oo=Δ i∨i∈C)/\(∀j,hi=Δ j->j+1∈C)/\∀i j,lo=Δ i->hi=Δ j->i<=j
 |[],Oo,_,_,e,he=>by have O':e∈[iQ (oI Oo) .Iw]:=he;rw[t_.mp O'];exact⟨Oo,Φ,rfl,fun i h=>.inl h,fun j h=>(by cases h),fun i j _ h=>(by cases h)⟩
 |c::C,Oo,hp,hl,e,he=>by
  rw[List.pairwise_cons]at hp;have O':e∈iQ (oI Oo) (.int (c - 1))::List.zipWith iQ (oI (Δ c)::C.map .int) ((C.map (· - 1)).map .int++[.Iw]):=he;rcases k_.mp O' with rfl|O'
  ·exact⟨Oo,Δ (c - 1),rfl,fun i h=>.inl h,fun j h=>(by cases h;rw[show c - 1+1=c by omega];exact J_),fun i j h k=>by
    cases k;have:=hl i h c J_
    omega⟩
  ·obtain⟨lo,hi,h1,h2,h3,h4⟩:=xV C (Δ c) hp.2 (fun i h x hx=>by cases h;exact hp.1 x hx) e O';refine⟨lo,hi,h1,fun i h=>.inr ?_,fun j h=>w_ _ (h3 j h),h4⟩;rcases h2 i h with k|k
   ·cases k;exact J_
   ·exact w_ _ k
theorem tG {C:List Int}(up:C.Pairwise (· < ·)){e:D}(he:e∈nums C):∃lo hi,e=iQ (oI lo) (oI hi)/\(∀i,lo=Δ i->i∈C)/\(∀j,hi=Δ j->j+1∈C)/\∀i j,lo=Δ i->hi=Δ j->i<=j:=by obtain⟨lo,hi,h1,h2,h3,h4⟩:=xV C Φ up (fun i h=>by cases h) e he;exact⟨lo,hi,h1,fun i h=>(h2 i h).resolve_left (by simp),h3,h4⟩
theorem l6 {d:D}{ys:List D}{q:Bool}(h:Jx d ys=.ok q):∀ {xs:List D}{p:Bool},Jx d xs=.ok p->Jx d (xs++ys)=.ok (p||q)
 |[],p,k=>by cases k;exact h
 |x::xs,p,k=>by have k':Ii (JR 40 x d) (fun a=>Ii (Jx d xs) fun b=>.ok (a||b))=.ok p:=k;show Ii (JR 40 x d) (fun a=>Ii (Jx d (xs++ys)) fun b=>.ok (a||b))=_;obtain⟨a,h1,k'⟩:=iZ k';obtain⟨b,h2,k'⟩:=iZ k';cases k';rw[h1,l6 h h2];show Except.ok (a||(b||q))=_;rw[Bool.or_assoc]
theorem pj {d:D}:∀ {xs:List D},(∀x∈xs,JR 40 x d=.ok Ξ)->Jx d xs=.ok Ξ
 |[],_=>rfl
 |x::xs,h=>by show Ii (JR 40 x d) _=_;rw[h x J_];show Ii (Jx d xs) _=_;rw[pj fun y hy=>h y (w_ _ hy)];rfl
theorem xW (t:Str):∀A:List Str,Jx (.tup [.str "text",.str t]) (A.map (gG "text"))=.ok (A.any (· == t))
 |[]=>rfl
 |x::A=>by
  have e:JR 40 (gG "text" x) (.tup [.str "text",.str t])=.ok (x == t):=by show Except.ok ((Ρ "text" == Ρ "text")&&((x == t)&&Θ))=_;rw[Bool.and_true,beq_self_eq_true,Bool.true_and]
  show Ii (JR 40 (gG "text" x) _) _=_;rw[e];show Ii (Jx _ (A.map (gG "text"))) _=_;rw[xW t A];rfl
theorem uM {A B:List Str}{C:List Int}(up:C.Pairwise (· < ·))(t:Str):Jx (.tup [.str "text",.str t]) (hJ A B C)=.ok (A.any (· == t)):=by
 unfold hJ;have h1:Jx (.tup [.str "text",.str t]) [D.tup [.str "none"]]=.ok Ξ:=pj fun x hx=>by rw[t_.mp hx];show Except.ok ((Ρ "none" == Ρ "text")&&Ξ)=_;rw[k7];rfl
 have h3:Jx (.tup [.str "text",.str t]) (B.map (gG "begins"))=.ok Ξ:=pj fun x hx=>by obtain⟨y,_,rfl⟩:=List.mem_map.mp hx;show Except.ok ((Ρ "begins" == Ρ "text")&&((y == t)&&Θ))=_;rw[k3];rfl
 have h4:Jx (.tup [.str "text",.str t]) (nums C)=.ok Ξ:=pj fun x hx=>by obtain⟨lo,hi,rfl,_⟩:=tG up hx;cases lo<;>cases hi<;>(show Except.ok ((Ρ "numbers" == Ρ "text")&&(Ξ&&Ξ))=_;rw[k5];rfl)
 have:=l6 h4 (l6 h3 (l6 (xW t A) h1));rw[Bool.false_or,Bool.or_false,Bool.or_false]at this;exact this
theorem qP {g:D->Res (Option D)}{ys vs:List D}(h:gM g ys=.ok vs):∀ {xs us:List D},gM g xs=.ok us->gM g (xs++ys)=.ok (us++vs)
 |[],us,k=>by cases k;exact h
 |x::xs,us,k=>by
  have k':Ii (g x) _=.ok us:=k;obtain⟨y,h1,k'⟩:=iZ k';cases y with
  |some z=>obtain⟨r,h2,k'⟩:=iZ k';cases k';exact iM h1 (qP h h2)
  |none=>exact jg h1 (qP h k')
theorem xX {g:D->Res (Option D)}:∀ {xs:List D},(∀x∈xs,g x=.ok Φ)->gM g xs=.ok []
 |[],_=>rfl
 |x::xs,h=>jg (h x J_) (xX fun y hy=>h y (w_ _ hy))
noncomputable def Oq (t:Str)(B:List Str):List Int:=(B.filter fun b=>Txt.startswith t b).map fun b=>(b.length:Int)
section
variable (cl:Nat->List D->Res D)(t:Str)
theorem BL:∀B:List Str,(∀b∈B,b.length<=1000)->gM (gO cl (.nm 1) [(.Js (.cmp .eq (.idx (.v 1) (.c (.int 0))) (.c (.str "begins"))) (.K0 .starts (.v 0) [(.idx (.v 1) (.c (.int 1)))]))] (.bi .len [(.idx (.v 1) (.c (.int 1)))]) [Δ (.str t),Φ]) (B.map (gG "begins"))=.ok ((Oq t B).map .int)
 |[],_=>rfl
 |b::B,h=>by
  have ih:=BL B fun z hz=>h z (w_ _ hz);have hb:=h b J_;unfold Oq at ih ⊢;rw[b_,List.filter_cons];unfold gG at ih ⊢;cases q:Txt.startswith t b with
  |true=>rw[e_ rfl,b_,b_];refine iM ?_ ih;simp![Ev.eY,q,RX,WZ]
  |false=>rw[d_ (by simp)];refine jg ?_ ih;simp![Ev.eY,q,RX,WZ]
theorem AU {A B:List Str}{C:List Int}(up:C.Pairwise (· < ·))(hb:∀b∈B,b.length<=1000):gM (gO cl (.nm 1) [(.Js (.cmp .eq (.idx (.v 1) (.c (.int 0))) (.c (.str "begins"))) (.K0 .starts (.v 0) [(.idx (.v 1) (.c (.int 1)))]))] (.bi .len [(.idx (.v 1) (.c (.int 1)))]) [Δ (.str t),Φ]) (hJ A B C)=.ok ((Oq t B).map .int):=by
 unfold hJ;have h1:=xX (g:=gO cl (.nm 1) [(.Js (.cmp .eq (.idx (.v 1) (.c (.int 0))) (.c (.str "begins"))) (.K0 .starts (.v 0) [(.idx (.v 1) (.c (.int 1)))]))] (.bi .len [(.idx (.v 1) (.c (.int 1)))]) [Δ (.str t),Φ]) (xs:=[D.tup [.str "none"]]) fun x hx=>by rw[t_.mp hx];simp![Ev.eY,WY,k9]
 have h2:=xX (g:=gO cl (.nm 1) [(.Js (.cmp .eq (.idx (.v 1) (.c (.int 0))) (.c (.str "begins"))) (.K0 .starts (.v 0) [(.idx (.v 1) (.c (.int 1)))]))] (.bi .len [(.idx (.v 1) (.c (.int 1)))]) [Δ (.str t),Φ]) (xs:=A.map (gG "text")) fun x hx=>by obtain⟨y,_,rfl⟩:=List.mem_map.mp hx;unfold gG;simp![Ev.eY,RX,k8]
 have h4:=xX (g:=gO cl (.nm 1) [(.Js (.cmp .eq (.idx (.v 1) (.c (.int 0))) (.c (.str "begins"))) (.K0 .starts (.v 0) [(.idx (.v 1) (.c (.int 1)))]))] (.bi .len [(.idx (.v 1) (.c (.int 1)))]) [Δ (.str t),Φ]) (xs:=nums C) fun x hx=>by obtain⟨lo,hi,rfl,_⟩:=tG up hx;unfold iQ;simp![Ev.eY,Qu,k6]
 have:=qP h4 (qP (BL cl t B hb) (qP h2 h1));rw[v_,v_,List.nil_append]at this;exact this
end
theorem tK (x:Str):x.cps.toList.length=x.length:=by simp[Str.length]
theorem pq {x y:Str}:Txt.startswith x y=Θ↔x.cps.toList.take y.length=y.cps.toList:=by
 have key:Builtin.Str.subAt x y 0=(x.cps.toList.take y.length == y.cps.toList):=by rw[StrLaws.subAt_eq,List.drop_zero]
 show(decide (0+y.length<=x.length)&&Builtin.Str.subAt x y 0)=Θ↔_;rw[key,j_,beq_iff_eq];constructor
 ·exact fun h=>h.2
 ·intro h;refine⟨B_ ?_,h⟩;have:=congrArg List.length h;rw[aak,tK,tK]at this;omega
theorem AV {x y:Str}(h:x.cps.toList=y.cps.toList):x=y:=by cases x;cases y;congr;exact Array.toList_inj.mp h
structure R0 (g s:D)(gs:List Gp)(rs:List Ru)(sw:D):Prop where
 eg:er g=.lst Ξ (gs.map Gp.d)
 es:er s=sw
 lg:gH g=Ξ
 ls:gH s=Ξ
 H:Hd gs rs sw
 o:Ok (lk gs rs)
 gc:∀c∈lk gs rs,Gc c
 pG:pl 8 (.lst Ξ (gs.map Gp.d))=Θ
 pS:pl 8 sw=Θ
 K9:((JV gs (gU rs)).flatMap Cn.ts).length<=20
 ll:(JV gs (gU rs)).length<=100
theorem AW:∀rows:List (List Cn),Jj (rows.map gZ)=rows.map gZ:=fun rows=>by rw[g7,Y_];exact aan fun r _=>by show D.lst Ξ (Jj (r.map Cn.d))=_;rw[ji];rfl
theorem xY (n:Nat)(ns:List Int)(m0 m1:Str){st:Str}(hs:st.length<=100)(NP:Sx st)(c:Int)(hc:Cb c):∃g s gs rs sw,cM T (n+6) 39 [.lst Ξ (ns.map .int),.lst Ξ [.str m0,.str m1],.str st,.int c]=.ok (.tup [g,s])/\R0 g s gs rs sw:=by
 obtain⟨mt,JE,c0,c1,rows,cs,JM,JN,e4,LX,g0,g1,r1,⟨r2,r4⟩,r3,l,r,x,Vt,W0,Vu,NI⟩:=AR n ns m0 m1 hs NP c hc;have w:Dw c0 c1 rows cs l r x:=⟨g0,g1,r1,r2,r3,Vt,W0,Vu,NI⟩
 have o:=GG w mt JE JM JN LX;have QW:cs.length<=5:=by
  rw[Vt,g_,g_];rw[g_]at W0;have:x.toList.length<=1:=by cases x<;>simp
  omega
 have H:=hd2 mt JE rows JM JN (by rw[LX];omega) r2;have hL:=AS w mt JE
 have pG:pl 8 (.lst Ξ ((L8 mt JE rows).map Gp.d))=Θ:=GJ (fun c hc=>by
  rcases r1 c hc with rfl|rfl
  ·have:=g0.2;omega
  ·have:=g1.2;omega) (by omega) (by omega)
 have pS:pl 8 (P1 JM JN)=Θ:=GK (fun c hc=>by
  rw[LX,Vt]at hc;rcases o_.mp hc with hc|hc
  ·rcases o_.mp hc with hc|hc
   ·have:=(Vu c (q_ _ hc)).2;omega
   ·rw[(NI c (by cases x with|none=>simp at hc|some y=>simp at hc;rw[hc])).2];simp
  ·have:=(Vu c (s_ _ hc)).2;omega) (by rw[LX];omega)
 have eA:er (.lst Θ [.tup [.str mt,.lst Ξ (rows.map gZ)],.tup [.str JE,.lst Θ []]])=.lst Ξ ((L8 mt JE rows).map Gp.d):=by show D.lst Ξ [D.tup [.str mt,.lst Ξ (Jj (rows.map gZ))],.tup [.str JE,.lst Ξ []]]=_;rw[AW];rfl
 have eB:er (.tup [.str "salt",.str "off",.lst Θ [.tup [.lst Θ (JM.map Cn.d),.tup [.str "face",.str "on"]],.tup [.lst Θ (JN.map Cn.d),.tup [.str "lot"]]],jY])=P1 JM JN:=by show D.tup [.str "salt",.str "off",.lst Ξ [.tup [.lst Ξ (Jj (JM.map Cn.d)),.tup [.str "face",.str "on"]],.tup [.lst Ξ (Jj (JN.map Cn.d)),.tup [.str "lot"]]],er jY]=_;rw[ji,ji];rfl
 exact⟨_,_,L8 mt JE rows,Om JM JN,P1 JM JN,e4,eA,eB,rfl,rfl,H,o,tE w mt JE JM JN LX,pG,pS,by rw[all2,LX];exact hL.2,by rw[all2,LX];omega⟩
noncomputable def JO:Option Tn->D
 |none=>.Iw
 |some t=>t.d
noncomputable def fB (B:List Str)(t:Str):List Str:=B.filter fun b=>Txt.startswith t b
noncomputable def K5 (B:List Str)(t:Str):Str:=match fB B t with
 |[]=>Ρ ""
 |x::xs=>kB x xs
noncomputable def Ly (C:List Int)(n:Int):Option Int:=match C.filter fun c=>decide (c<=n) with
 |[]=>Φ
 |x::xs=>Δ (iU x xs)
noncomputable def Ka (C:List Int)(n:Int):Option Int:=match C.filter fun c=>decide (c > n) with
 |[]=>Φ
 |x::xs=>Δ (jR x xs)
noncomputable def cellOf (A B:List Str)(C:List Int):Option Tn->D
 |none=>.tup [.str "none"]
 |some (.s t)=>if A.any (· == t)=Θ then gG "text" t else gG "begins" (K5 B t)
 |some (.i n)=>iQ (oI (Ly C n)) (oI ((Ka C n).map (· - 1)))
section
variable (cl:Nat->List D->Res D)
theorem GR (t:Str):∀B:List Str,gM (gO cl (.nm 1) [(.K0 .starts (.v 0) [(.v 1)])] (.v 1) [Δ (.str t),Φ]) (B.map .str)=.ok ((fB B t).map .str)
 |[]=>rfl
 |b::B=>by
  have ih:=GR t B;unfold fB at ih ⊢;rw[b_,List.filter_cons];cases q:Txt.startswith t b with
  |true=>rw[e_ rfl,b_];refine iM ?_ ih;simp![Ev.eY,q]
  |false=>rw[d_ (by simp)];refine jg ?_ ih;simp![Ev.eY,q]
theorem GS (n:Int):∀C:List Int,gM (gO cl (.nm 1) [(.cmp .le (.v 1) (.v 0))] (.v 1) [Δ (.int n),Φ]) (C.map .int)=.ok ((C.filter fun c=>decide (c<=n)).map .int)
 |[]=>rfl
 |b::B=>by
  have ih:=GS n B;rw[b_,List.filter_cons];cases q:decide (b<=n) with
  |true=>rw[e_ rfl,b_];refine iM ?_ ih;simp![Ev.eY,q]
  |false=>rw[d_ (by simp)];refine jg ?_ ih;simp![Ev.eY,q]
theorem GU (n:Int):∀C:List Int,gM (gO cl (.nm 1) [(.cmp .gt (.v 1) (.v 0))] (.v 1) [Δ (.int n),Φ]) (C.map .int)=.ok ((C.filter fun c=>decide (c > n)).map .int)
 |[]=>rfl
 |b::B=>by
  have ih:=GU n B;rw[b_,List.filter_cons];cases q:decide (b > n) with
  |true=>rw[e_ rfl,b_];refine iM ?_ ih;simp![Ev.eY,q]
  |false=>rw[d_ (by simp)];refine jg ?_ ih;simp![Ev.eY,q]
end
theorem GV (C:List Int)(n:Int)(o:Bool):Ev.nt Θ (.lst o ((C.filter fun c=>decide (c<=n)).map .int)) .Iw=.ok (oI (Ly C n)):=by show(match ik ((C.filter fun c=>decide (c<=n)).map .int) with|some []=>.ok .Iw|some (n::ns)=>.ok (.int (bif Θ then iU n ns else jR n ns))|none=>Ji:Res D)=_;rw[qI];unfold Ly;cases C.filter fun c=>decide (c<=n)<;>rfl
theorem GW (C:List Int)(n:Int)(o:Bool):Ev.nt Ξ (.lst o ((C.filter fun c=>decide (c > n)).map .int)) .Iw=.ok (oI (Ka C n)):=by show(match ik ((C.filter fun c=>decide (c > n)).map .int) with|some []=>.ok .Iw|some (n::ns)=>.ok (.int (bif Ξ then iU n ns else jR n ns))|none=>Ji:Res D)=_;rw[qI];unfold Ka;cases C.filter fun c=>decide (c > n)<;>rfl
theorem D9 {x:Str}{xs:List Str}(h:∀y∈x::xs,y.length<=1000)(o:Bool):zL (.lst o (.str x::xs.map .str))=.ok (.str (kB x xs)):=by
 have e:ia (.str x::xs.map D.str)=Δ (x::xs):=by rw[<- b_];exact xq (x::xs)
 have g:((x::xs).all fun y=>iu y.length)=Θ:=O_.mpr fun y hy=>by have:=h y hy;have hs:Ζ=16777216:=sizeLine_eq;exact B_ (by omega)
 show(match ia (.str x::xs.map D.str) with|some (x::xs)=>Iy ((x::xs).all fun y=>iu y.length) (.ok (.str (kB x xs)))|_=>Ji:Res D)=_;rw[e];show Iy _ _=_;rw[g];rfl
variable {gs:List Gp}{rs:List Ru}{sw:D}
theorem Ea (B:List Str)(t:Str):(fB B t).length<=B.length:=List.length_filter_le ..
theorem BM (t:Str):Txt.startswith t (Ρ "")=Θ:=by
 have e:(Ρ "").cps = #[]:=by decide +kernel
 rw[pq,o8,e];rfl
theorem uN (n:Nat)(H:Hd gs rs sw)(o:Ok (lk gs rs))(mk t:Str)(c:Cl (M0 mk (lk gs rs)) (LQ mk (lk gs rs)) (Lu mk (lk gs rs))) :
  cM T (n+5) 24 [.lst Ξ (gs.map Gp.d),sw,.str mk,.str t]=.ok (cellOf (M0 mk (lk gs rs)) (LQ mk (lk gs rs)) (Lu mk (lk gs rs)) (Δ (.s t))):=by
 have h1:=xA n H o mk;have h2:=xB n H o mk;have hg:=jz gs;have hs:=H.er;have an:=BK t (M0 mk (lk gs rs));have fs:=GR (cM T (n+4)) t (LQ mk (lk gs rs));have bl:=AF (mk:=mk) o;have fl:=Ea (LQ mk (lk gs rs)) t;have ne:fB (LQ mk (lk gs rs)) t≠[]:=List.ne_nil_of_mem (List.mem_filter.mpr ⟨c.e,BM t⟩);have sz:∀y∈fB (LQ mk (lk gs rs)) t,y.length<=1000:=fun y hy=>by have:=(c.b y (List.mem_filter.mp hy).1).1;omega
 generalize M0 mk (lk gs rs)=A,LQ mk (lk gs rs)=B,Lu mk (lk gs rs)=C,gs.map Gp.d=G at *;cases e:fB B t with
 |nil=>exact(ne e).elim
 |cons x xs=>
  rw[e]at fs sz fl;rw[b_]at fs;have mx:=D9 sz;cases q:A.any (· == t) with
  |true=>rw[q]at an;rw[show cellOf A B C (Δ (.s t))=gG "text" t from e_ q];unfold gG;rw[JG 24 SU 4 5 Rr rfl rfl rfl rfl rfl rfl];unfold Rr;simp![h1,hg,hs,an]
  |false=>
   rw[q]at an
   rw[show cellOf A B C (Δ (.s t))=gG "begins" (kB x xs) by
    refine(d_ (by rw[q];simp)).trans ?_;unfold K5
    rw[e]]
   unfold gG;rw[JG 24 SU 4 5 Rr rfl rfl rfl rfl rfl rfl];unfold Rr;simp![h1,h2,hg,hs,an,fs,mx,i_]
theorem qQ (n:Nat)(H:Hd gs rs sw)(o:Ok (lk gs rs))(mk:Str)(i:Int) :
  cM T (n+5) 29 [.lst Ξ (gs.map Gp.d),sw,.str mk,.int i]=.ok (cellOf (M0 mk (lk gs rs)) (LQ mk (lk gs rs)) (Lu mk (lk gs rs)) (Δ (.i i))):=by
 have h1:=AD n H o mk;have hg:=jz gs;have hs:=H.er;have f1:=GS (cM T (n+4)) i (Lu mk (lk gs rs));have f2:=GU (cM T (n+4)) i (Lu mk (lk gs rs));have m1:=GV (Lu mk (lk gs rs)) i;have m2:=GW (Lu mk (lk gs rs)) i;have cl:=AG (mk:=mk) o;show _=Except.ok (D.tup [.str "numbers",oI (Ly (Lu mk (lk gs rs)) i),oI ((Ka (Lu mk (lk gs rs)) i).map (· - 1))]);generalize Lu mk (lk gs rs)=C,gs.map Gp.d=G at *;generalize(C.filter fun c=>decide (c<=i)).map D.int=X,(C.filter fun c=>decide (c > i)).map D.int=Y at *;cases e0:Ly C i with
 |none=>
  rw[e0]at m1;have m1:∀o:Bool,Ev.nt Θ (.lst o X) .Iw=.ok (.Iw):=m1;cases e1:Ka C i with
  |none=>rw[e1]at m2;have m2:∀o:Bool,Ev.nt Ξ (.lst o Y) .Iw=.ok (.Iw):=m2;show _=Except.ok (D.tup [.str "numbers",.Iw,.Iw]);rw[JG 29 Qq 4 7 Oi rfl rfl rfl rfl rfl rfl];unfold Oi;simp![h1,hg,hs,f1,f2,m1,m2,i_]
  |some e=>rw[e1]at m2;have m2:∀o:Bool,Ev.nt Ξ (.lst o Y) .Iw=.ok (.int e):=m2;show _=Except.ok (D.tup [.str "numbers",.Iw,.int (e - 1)]);rw[JG 29 Qq 4 7 Oi rfl rfl rfl rfl rfl rfl];unfold Oi;simp![h1,hg,hs,f1,f2,m1,m2,i_]
 |some l=>
  rw[e0]at m1;have m1:∀o:Bool,Ev.nt Θ (.lst o X) .Iw=.ok (.int l):=m1;cases e1:Ka C i with
  |none=>rw[e1]at m2;have m2:∀o:Bool,Ev.nt Ξ (.lst o Y) .Iw=.ok (.Iw):=m2;show _=Except.ok (D.tup [.str "numbers",.int l,.Iw]);rw[JG 29 Qq 4 7 Oi rfl rfl rfl rfl rfl rfl];unfold Oi;simp![h1,hg,hs,f1,f2,m1,m2,i_]
  |some e=>rw[e1]at m2;have m2:∀o:Bool,Ev.nt Ξ (.lst o Y) .Iw=.ok (.int e):=m2;show _=Except.ok (D.tup [.str "numbers",.int l,.int (e - 1)]);rw[JG 29 Qq 4 7 Oi rfl rfl rfl rfl rfl rfl];unfold Oi;simp![h1,hg,hs,f1,f2,m1,m2,i_]
theorem BN (i:Option Int):gH (oI i)=Θ:=by cases i<;>rfl
theorem pw (A B:List Str)(C:List Int):∀th,gH (cellOf A B C th)=Θ
 |none=>rfl
 |some (.s t)=>by show gH (if A.any (· == t)=Θ then gG "text" t else gG "begins" (K5 B t))=Θ;split<;>rfl
 |some (.i n)=>by show(Θ&&(gH (oI (Ly C n))&&(gH (oI ((Ka C n).map (· - 1)))&&Θ)))=Θ;rw[BN,BN];rfl
theorem AX (n:Nat)(H:Hd gs rs sw)(o:Ok (lk gs rs))(mk:Str)(c:Cl (M0 mk (lk gs rs)) (LQ mk (lk gs rs)) (Lu mk (lk gs rs)))(th:Option Tn) :
  cM T (n+6) 48 [.lst Ξ (gs.map Gp.d),sw,.str mk,JO th]=.ok (cellOf (M0 mk (lk gs rs)) (LQ mk (lk gs rs)) (Lu mk (lk gs rs)) th):=by
 have hg:=jz gs;have hs:=H.er;cases th with
 |none=>unfold cellOf JO;generalize gs.map Gp.d=G at *;rw[JG 48 Rt 4 4 PL rfl rfl rfl rfl rfl rfl];unfold PL;simp![Jh]
 |some t=>
  cases t with
  |s t=>have h1:=uN n H o mk t c;have lf:=pw (M0 mk (lk gs rs)) (LQ mk (lk gs rs)) (Lu mk (lk gs rs)) (Δ (.s t));generalize cellOf _ _ _ _=R,gs.map Gp.d=G at *;show cM T (n+6) 48 [.lst Ξ G,sw,.str mk,.str t]=_;rw[JG 48 Rt 4 4 PL rfl rfl rfl rfl rfl rfl];unfold PL;simp![h1,hg,hs,lf]
  |i i=>have h1:=qQ n H o mk i;have lf:=pw (M0 mk (lk gs rs)) (LQ mk (lk gs rs)) (Lu mk (lk gs rs)) (Δ (.i i));generalize cellOf _ _ _ _=R,gs.map Gp.d=G at *;show cM T (n+6) 48 [.lst Ξ G,sw,.str mk,.int i]=_;rw[JG 48 Rt 4 4 PL rfl rfl rfl rfl rfl rfl];unfold PL;simp![h1,hg,hs,lf]
end Law
namespace Law
open PySem PySem.Spec L2 L2.Fr PyProof.Rows
theorem tP:∀(ns:List Str) (n:Str),n.length<=(kB n ns).length/\(∀m∈ns,m.length<=(kB n ns).length)/\kB n ns∈n::ns
 |[],n=>⟨l_ _,fun m hm=>(by simp at hm),t_.mpr rfl⟩
 |a::ns,n=>by
  obtain⟨h1,h2,h3⟩:=tP ns (if n.length < a.length then a else n);have e:kB n (a::ns)=kB (if n.length < a.length then a else n) ns:=rfl;rw[e];by_cases q:n.length < a.length
  ·rw[e_ q]at h1 h2 h3 ⊢;refine⟨by omega,fun m hm=>?_,.tail _ h3⟩;rcases k_.mp hm with rfl|hm
   ·exact h1
   ·exact h2 m hm
  ·rw[d_ q]at h1 h2 h3 ⊢;refine⟨h1,fun m hm=>?_,?_⟩
   ·rcases k_.mp hm with rfl|hm
    ·omega
    ·exact h2 m hm
   ·rcases k_.mp h3 with h3|h3
    ·rw[h3];exact .head _
    ·exact .tail _ (.tail _ h3)
theorem pz {B:List Str}(he:Ρ ""∈B) (t:Str):K5 B t∈B/\Txt.startswith t (K5 B t)=Θ/\∀b∈B,Txt.startswith t b=Θ->b.length<=(K5 B t).length:=by
 have h0:Ρ ""∈fB B t:=List.mem_filter.mpr ⟨he,BM t⟩;have key:K5 B t∈fB B t/\∀b∈fB B t,b.length<=(K5 B t).length:=by
  unfold K5;cases e:fB B t with
  |nil=>rw[e]at h0;cases h0
  |cons x xs=>
   obtain⟨h1,h2,h3⟩:=tP xs x;refine⟨h3,fun b hb=>?_⟩;rcases k_.mp hb with rfl|hb
   ·exact h1
   ·exact h2 b hb
 have h1:=List.mem_filter.mp key.1;exact⟨h1.1,h1.2,fun b hb hs=>key.2 b (List.mem_filter.mpr ⟨hb,hs⟩)⟩
theorem GX {t b:Str}(h:Txt.startswith t b=Θ):Txt.slice t Φ (Δ (b.length:Int))=b:=by rw[j8,Ev.rQ _ (by omega),Int.toNat_natCast];refine AV ?_;rw[List.toList_toArray];exact pq.mp h
theorem Eb {B:List Str}(he:Ρ ""∈B) (t:Str) (o:Bool):jy .L3 [.lst o ((Oq t B).map .int)]=.ok (.int ((K5 B t).length:Int)):=by
 obtain⟨l1,l2,l3⟩:=pz he t;have h1:((K5 B t).length:Int)∈Oq t B:=List.mem_map.mpr ⟨_,List.mem_filter.mpr ⟨l1,l2⟩,rfl⟩;have h2:∀m∈Oq t B,m<=((K5 B t).length:Int):=fun m hm=>by obtain⟨b',k,rfl⟩:=List.mem_map.mp hm;rw[List.mem_filter]at k;have:=l3 b' k.1 k.2;omega
 show(match ik ((Oq t B).map .int) with|some (n::ns)=>.ok (.int (iU n ns))|_=>Ji:Res D)=_;rw[qI];cases q:Oq t B with
 |nil=>rw[q]at h1;cases h1
 |cons n ns=>
  rw[q]at h1 h2;obtain⟨m1,m2,m3⟩:=oG ns n;show Except.ok (D.int (iU n ns))=_
  rw[Int.le_antisymm (h2 _ m3) (by
   rcases k_.mp h1 with e|h1
   ·rw[e];exact m1
   ·exact m2 _ h1)]
theorem Zz:(Ρ "none" == Ρ "numbers")=Ξ:=by decide +kernel
theorem ZA:(Ρ "text" == Ρ "numbers")=Ξ:=by decide +kernel
theorem ZC:(Ρ "begins" == Ρ "numbers")=Ξ:=by decide +kernel
theorem ZD:(Ρ "none" == Ρ "begins")=Ξ:=by decide +kernel
noncomputable def cn (lo hi:Option Int)(n:Int):Bool:=(match lo with|none=>Θ|some i=>decide (i<=n))&&(match hi with|none=>Θ|some j=>decide (n<=j))
section
variable (n:Nat){cs:List D}
theorem ZE:cM T (n+1) 44 [.lst Ξ cs,.tup [.str "none"],.Iw]=.ok (.bl Θ):=by rw[JG 44 Li 3 4 J5 rfl rfl rfl rfl rfl rfl];unfold J5;simp![Jh]
theorem ZF (x:Str):cM T (n+1) 44 [.lst Ξ cs,gG "text" x,.Iw]=.ok (.bl Ξ):=by unfold gG;rw[JG 44 Li 3 4 J5 rfl rfl rfl rfl rfl rfl];unfold J5;simp![k1]
theorem ZG (x:Str):cM T (n+1) 44 [.lst Ξ cs,gG "begins" x,.Iw]=.ok (.bl Ξ):=by unfold gG;rw[JG 44 Li 3 4 J5 rfl rfl rfl rfl rfl rfl];unfold J5;simp![k2]
theorem ZH (lo hi:Option Int):cM T (n+1) 44 [.lst Ξ cs,iQ (oI lo) (oI hi),.Iw]=.ok (.bl Ξ):=by unfold iQ;generalize oI lo=a;generalize oI hi=b;rw[JG 44 Li 3 4 J5 rfl rfl rfl rfl rfl rfl];unfold J5;simp![k4]
variable {t:Str}
theorem ZI (an:Jx (.tup [.str "text",.str t]) cs=.ok Θ):cM T (n+1) 44 [.lst Ξ cs,.tup [.str "none"],.str t]=.ok (.bl Ξ):=by rw[JG 44 Li 3 4 J5 rfl rfl rfl rfl rfl rfl];unfold J5;simp![an,k7]
theorem Vv (an:Jx (.tup [.str "text",.str t]) cs=.ok Θ) (x:Str):cM T (n+1) 44 [.lst Ξ cs,gG "text" x,.str t]=.ok (.bl (x == t)):=by unfold gG;rw[JG 44 Li 3 4 J5 rfl rfl rfl rfl rfl rfl];unfold J5;simp![an]
theorem ZJ (an:Jx (.tup [.str "text",.str t]) cs=.ok Θ) (x:Str):cM T (n+1) 44 [.lst Ξ cs,gG "begins" x,.str t]=.ok (.bl Ξ):=by unfold gG;rw[JG 44 Li 3 4 J5 rfl rfl rfl rfl rfl rfl];unfold J5;simp![an,k3]
theorem ZK (an:Jx (.tup [.str "text",.str t]) cs=.ok Θ) (lo hi:Option Int):cM T (n+1) 44 [.lst Ξ cs,iQ (oI lo) (oI hi),.str t]=.ok (.bl Ξ):=by
 unfold iQ;cases lo<;>cases hi<;>unfold oI
 all_goals
  rw[JG 44 Li 3 4 J5 rfl rfl rfl rfl rfl rfl];unfold J5;simp![an,k5]
section
variable {b:Str}{ss:List D}(an:Jx (.tup [.str "text",.str t]) cs=.ok Ξ) (ll:cs.length<=200) (tl:t.length<=1000)
 (fs:gM (gO (cM T n) (.nm 1) [(.Js (.cmp .eq (.idx (.v 1) (.c (.int 0))) (.c (.str "begins"))) (.K0 .starts (.v 0) [(.idx (.v 1) (.c (.int 1)))]))] (.bi .len [(.idx (.v 1) (.c (.int 1)))]) [Δ (.str t),Φ]) cs=.ok ss)
 (bx:∀o:Bool,jy .L3 [.lst o ss]=.ok (.int (b.length:Int))) (sl:Txt.slice t Φ (Δ (b.length:Int))=b) (lf:gD ss=Θ)
include an ll tl fs bx sl lf
theorem ZL:cM T (n+1) 44 [.lst Ξ cs,.tup [.str "none"],.str t]=.ok (.bl Ξ):=by rw[JG 44 Li 3 4 J5 rfl rfl rfl rfl rfl rfl];unfold J5;simp![an,fs,bx,sl,lf,ll,ZD]
theorem ZM (x:Str):cM T (n+1) 44 [.lst Ξ cs,gG "text" x,.str t]=.ok (.bl Ξ):=by unfold gG;rw[JG 44 Li 3 4 J5 rfl rfl rfl rfl rfl rfl];unfold J5;simp![an,fs,bx,sl,lf,ll,k8]
theorem ZN (x:Str):cM T (n+1) 44 [.lst Ξ cs,gG "begins" x,.str t]=.ok (.bl (x == b)):=by unfold gG;rw[JG 44 Li 3 4 J5 rfl rfl rfl rfl rfl rfl];unfold J5;simp![an,fs,bx,sl,lf,ll]
theorem ZO (lo hi:Option Int):cM T (n+1) 44 [.lst Ξ cs,iQ (oI lo) (oI hi),.str t]=.ok (.bl Ξ):=by
 unfold iQ;cases lo<;>cases hi<;>unfold oI
 all_goals
  rw[JG 44 Li 3 4 J5 rfl rfl rfl rfl rfl rfl];unfold J5;simp![an,fs,bx,sl,lf,ll,k6]
end
section
variable (i:Int)
theorem ZP:cM T (n+1) 44 [.lst Ξ cs,.tup [.str "none"],.int i]=.ok (.bl Ξ):=by rw[JG 44 Li 3 4 J5 rfl rfl rfl rfl rfl rfl];unfold J5;simp![WY,Zz]
theorem ZQ (x:Str):cM T (n+1) 44 [.lst Ξ cs,gG "text" x,.int i]=.ok (.bl Ξ):=by unfold gG;rw[JG 44 Li 3 4 J5 rfl rfl rfl rfl rfl rfl];unfold J5;simp![RX,ZA]
theorem ZR (x:Str):cM T (n+1) 44 [.lst Ξ cs,gG "begins" x,.int i]=.ok (.bl Ξ):=by unfold gG;rw[JG 44 Li 3 4 J5 rfl rfl rfl rfl rfl rfl];unfold J5;simp![RX,ZC]
theorem ZS (lo hi:Option Int):cM T (n+1) 44 [.lst Ξ cs,iQ (oI lo) (oI hi),.int i]=.ok (.bl (cn lo hi i)):=by
 unfold iQ cn;cases lo with
 |none=>
  cases hi with
  |none=>show cM T (n+1) 44 [.lst Ξ cs,.tup [.str "numbers",.Iw,.Iw],.int i]=.ok (.bl (Θ&&Θ));rw[JG 44 Li 3 4 J5 rfl rfl rfl rfl rfl rfl];unfold J5;simp![Qu,RY,RZ]
  |some h=>
   show cM T (n+1) 44 [.lst Ξ cs,.tup [.str "numbers",.Iw,.int h],.int i]=.ok (.bl (Θ&&decide (i<=h)));generalize q:decide (i<=h)=r;cases r
   all_goals
    rw[JG 44 Li 3 4 J5 rfl rfl rfl rfl rfl rfl];unfold J5;simp![Qu,RY,RZ,q]
 |some l=>
  cases q0:decide (l<=i) with
  |false=>show cM T (n+1) 44 [.lst Ξ cs,.tup [.str "numbers",.int l,oI hi],.int i]=.ok (.bl (decide (l<=i)&&_));rw[q0,Bool.false_and];generalize oI hi=H;rw[JG 44 Li 3 4 J5 rfl rfl rfl rfl rfl rfl];unfold J5;simp![Qu,RY,RZ,q0]
  |true=>
   cases hi with
   |none=>show cM T (n+1) 44 [.lst Ξ cs,.tup [.str "numbers",.int l,.Iw],.int i]=.ok (.bl (decide (l<=i)&&Θ));rw[q0];rw[JG 44 Li 3 4 J5 rfl rfl rfl rfl rfl rfl];unfold J5;simp![Qu,RY,RZ,q0]
   |some h=>
    show cM T (n+1) 44 [.lst Ξ cs,.tup [.str "numbers",.int l,.int h],.int i]=.ok (.bl (decide (l<=i)&&decide (i<=h)));rw[q0];generalize q:decide (i<=h)=r;cases r
    all_goals
     rw[JG 44 Li 3 4 J5 rfl rfl rfl rfl rfl rfl];unfold J5;simp![Qu,RY,RZ,q0,q]
end
end
noncomputable def iv (lo:Option Int):List Int->List (Option Int×Option Int)
 |[]=>[(lo,Φ)]
 |c::C=>(lo,Δ (c - 1))::iv (Δ c) C
noncomputable def nC (p:Option Int×Option Int):D:=iQ (oI p.1) (oI p.2)
theorem BO:∀(C:List Int) (lo:Option Int),List.zipWith iQ (oI lo::C.map .int) ((C.map (· - 1)).map .int++[.Iw])=(iv lo C).map nC
 |[],_=>rfl
 |c::C,lo=>congrArg (iQ (oI lo) (.int (c - 1))::·) (BO C (Δ c))
theorem kT (C:List Int):nums C=(iv Φ C).map nC:=BO C Φ
theorem xZ:∀(C:List Int) (lo:Option Int),(iv lo C).map (·.1)=lo::C.map Δ
 |[],_=>rfl
 |c::C,lo=>congrArg (lo::·) (xZ C (Δ c))
theorem ya {a b:Option Int}(h:oI a=oI b):a=b:=by cases a<;>cases b<;>cases h<;>rfl
theorem sa {p q:Option Int×Option Int}(h:nC p=nC q):p=q:=by unfold nC iQ at h;injection h with h;injection h with _ h;injection h with h1 h;injection h with h2 _;exact Prod.ext (ya h1) (ya h2)
theorem ng {α β:Type}{f:α->β}(hf:∀a b,f a=f b->a=b):∀ {l:List α},l.Nodup->(l.map f).Nodup
 |[],_=>.nil
 |a::l,h=>by rw[G_]at h;rw[b_,G_];refine⟨fun z=>?_,ng hf h.2⟩;obtain⟨b,hb,e⟩:=List.mem_map.mp z;rw[hf b a e]at hb;exact h.1 hb
theorem BP {α β:Type}{f:α->β}:∀ {l:List α},(l.map f).Nodup->l.Nodup
 |[],_=>.nil
 |a::l,h=>by rw[b_,G_]at h;rw[G_];exact⟨fun z=>h.1 (List.mem_map.mpr ⟨a,z,rfl⟩),BP h.2⟩
theorem GY {C:List Int}(up:C.Pairwise (· < ·)):C.Nodup:=up.imp fun h=>Int.ne_of_lt h
theorem AY {C:List Int}(up:C.Pairwise (· < ·)):(nums C).Nodup:=by rw[kT];refine ng (fun a b h=>sa h) (BP (f:=(·.1)) ?_);rw[xZ,G_];refine⟨fun z=>?_,ng (fun a b h=>K_ h) (GY up)⟩;obtain⟨_,_,e⟩:=List.mem_map.mp z;cases e
theorem BQ:∀(C:List Int) (lo:Option Int),∀p∈iv lo C,p.1=lo∨∃c∈C,p.1=Δ c
 |[],lo,p,h=>by rw[t_.mp h];exact .inl rfl
 |c::C,lo,p,h=>by
  rcases k_.mp h with rfl|h
  ·exact .inl rfl
  ·rcases BQ C (Δ c) p h with e|⟨d,hd,e⟩
   ·exact .inr ⟨c,.head _,e⟩
   ·exact .inr ⟨d,.tail _ hd,e⟩
theorem yb:∀(C:List Int) (lo:Option Int) (n:Int),C.Pairwise (· < ·)->∀p∈iv lo C,∀q∈iv lo C,cn p.1 p.2 n=Θ->cn q.1 q.2 n=Θ->p=q
 |[],lo,n,_,p,hp,q,hq,_,_=>by rw[t_.mp hp,t_.mp hq]
 |c::C,lo,n,up,p,hp,q,hq,h1,h2=>by
  rw[List.pairwise_cons]at up;have no:∀r∈iv (Δ c) C,cn lo (Δ (c - 1)) n=Θ->cn r.1 r.2 n=Θ->False:=fun r hr k1 k2=>by
   have k1:=u_ (y_.mp k1).2;have k2:=(y_.mp k2).1;rcases BQ C (Δ c) r hr with e|⟨d,hd,e⟩
   ·rw[e]at k2;have:=u_ k2;omega
   ·rw[e]at k2;have:=u_ k2;have:=up.1 d hd;omega
  rcases k_.mp hp with rfl|hp<;>rcases k_.mp hq with rfl|hq
  ·rfl
  ·exact(no q hq h1 h2).elim
  ·exact(no p hp h2 h1).elim
  ·exact yb C (Δ c) n up.2 p hp q hq h1 h2
theorem tR:∀(ns:List Int) (n:Int),(∀m∈ns,n<=m)->jR n ns=n
 |[],n,_=>rfl
 |a::ns,n,h=>by have:=h a (.head _);show jR (if a < n then a else n) ns=n;rw[d_ (by omega)];exact tR ns n fun m hm=>h m (.tail _ hm)
theorem AZ:∀(ns:List Int) (n m:Int),n<=m->iU n (m::ns)=iU m ns:=fun ns n m h=>by
 show iU (if n < m then m else n) ns=_;by_cases q:n < m
 ·rw[e_ q]
 ·rw[d_ q,show n=m by omega]
noncomputable def OP (lo:Option Int)(C:List Int)(n:Int):Option Int:=match C.filter fun c=>decide (c<=n) with
 |[]=>lo
 |x::xs=>Δ (iU x xs)
theorem pA:∀(C:List Int) (lo:Option Int) (n:Int),C.Pairwise (· < ·)->(∀i,lo=Δ i->i<=n)->(OP lo C n,(Ka C n).map (· - 1))∈iv lo C/\cn (OP lo C n) ((Ka C n).map (· - 1)) n=Θ
 |[],lo,n,_,hl=>⟨.head _,by
   cases lo with
   |none=>rfl
   |some i=>
    show(decide (i<=n)&&Θ)=Θ;rw[B_ (hl i rfl)]
    rfl⟩
 |c::C,lo,n,up,hl=>by
  rw[List.pairwise_cons]at up;by_cases q:c<=n
  ·have ih:=pA C (Δ c) n up.2 fun i h=>by cases h;exact q
   have e1:OP lo (c::C) n=OP (Δ c) C n:=by
    unfold OP;rw[List.filter_cons,e_ (B_ q)];have hc:∀x∈C.filter fun c=>decide (c<=n),c<=x:=fun x hx=>Int.le_of_lt (up.1 x (List.mem_filter.mp hx).1);cases e:C.filter fun c=>decide (c<=n) with
    |nil=>rfl
    |cons x xs=>rw[e]at hc;show Δ (iU c (x::xs))=Δ (iU x xs);rw[AZ xs c x (hc x (.head _))]
   have e2:Ka (c::C) n=Ka C n:=by unfold Ka;rw[List.filter_cons,d_ (by rw[decide_eq_true_eq];omega)]
   rw[e1,e2];exact⟨.tail _ ih.1,ih.2⟩
  ·have Ln:∀x∈c::C,x > n:=fun x hx=>by
    rcases k_.mp hx with rfl|hx
    ·omega
    ·have:=up.1 x hx;omega
   have e1:OP lo (c::C) n=lo:=by unfold OP;rw[List.filter_eq_nil_iff.mpr fun x hx=>by rw[decide_eq_true_eq];have:=Ln x hx;omega]
   have e2:Ka (c::C) n=Δ c:=by unfold Ka;rw[List.filter_eq_self.mpr fun x hx=>B_ (Ln x hx)];show Δ (jR c C)=Δ c;rw[tR C c fun m hm=>Int.le_of_lt (up.1 m hm)]
   rw[e1,e2];refine⟨.head _,?_⟩;have q2:=B_ (show n<=c - 1 by omega);cases lo with
   |none=>exact q2
   |some i=>show(decide (i<=n)&&decide (n<=c - 1))=Θ;rw[B_ (hl i rfl),q2];rfl
theorem BR (xs:List Str):(sS xs).Nodup:=(iL _).nodup_iff.mpr (m8 xs [] List.nodup_nil).1
theorem lJ {k a b:Str}(h:gG k a=gG k b):a=b:=by unfold gG at h;injection h with h;injection h with _ h;injection h with h _;injection h
theorem qR {k l a b:Str}(h:(k == l)=Ξ):gG k a≠gG l b:=fun e=>by unfold gG at e;injection e with e;injection e with e _;injection e with e;rw[e,beq_self_eq_true]at h;cases h
theorem yd {A B:List Str}{C:List Int}(nA:A.Nodup)(nB:B.Nodup)(up:C.Pairwise (· < ·)):(hJ A B C).Nodup:=by
 have nu:∀(k x:Str),gG k x∉nums C:=fun k x z=>by rw[kT]at z;obtain⟨p,_,e⟩:=List.mem_map.mp z;unfold nC iQ gG at e;injection e with e;injection e with _ e;injection e with _ e;cases e
 unfold hJ;rw[x_];refine⟨?_,AY up,fun a ha b hb e=>?_⟩
 ·rw[x_];refine⟨?_,ng (fun a b h=>lJ h) nB,fun a ha b hb e=>?_⟩
  ·rw[aag,G_];refine⟨fun z=>?_,ng (fun a b h=>lJ h) nA⟩;obtain⟨x,_,e⟩:=List.mem_map.mp z;unfold gG at e;injection e with e;injection e with _ e;cases e
  ·obtain⟨y,_,rfl⟩:=List.mem_map.mp hb;rcases o_.mp ha with ha|ha
   ·rw[t_.mp ha]at e;unfold gG at e;injection e with e;injection e with _ e;cases e
   ·obtain⟨x,_,rfl⟩:=List.mem_map.mp ha;exact qR k8 e
 ·subst e;rcases o_.mp ha with ha|ha
  ·rcases o_.mp ha with ha|ha
   ·rw[t_.mp ha,kT]at hb;obtain⟨p,_,e⟩:=List.mem_map.mp hb;unfold nC iQ at e;injection e with e;injection e with _ e;cases e
   ·obtain⟨x,_,rfl⟩:=List.mem_map.mp ha;exact nu _ _ hb
  ·obtain⟨x,_,rfl⟩:=List.mem_map.mp ha;exact nu _ _ hb
theorem tS {g:D->Res (Option D)}{c0:D}:∀xs:List D,xs.Nodup->c0∈xs->(∀e∈xs,(e=c0->g e=.ok (Δ e))/\(e≠c0->g e=.ok Φ))->gM g xs=.ok [c0]
 |[],_,h,_=>by cases h
 |x::xs,nd,hm,h=>by
  rw[G_]at nd;by_cases q:x=c0
  ·subst q;exact iM ((h x (.head _)).1 rfl) (xX fun y hy=>(h y (.tail _ hy)).2 fun z=>nd.1 (by rw[<- z];exact hy))
  ·refine jg ((h x (.head _)).2 q) (tS xs nd.2 ?_ fun e he=>h e (.tail _ he));rcases k_.mp hm with e|hm
   ·exact(q e.symm).elim
   ·exact hm
section
variable {A B:List Str}{C:List Int}
theorem uO {e:D}(h:e∈hJ A B C):e=.tup [.str "none"]∨(∃x∈A,e=gG "text" x)∨(∃x∈B,e=gG "begins" x)∨∃p∈iv Φ C,e=nC p:=by
 unfold hJ at h;rcases o_.mp h with h|h
 ·rcases o_.mp h with h|h
  ·rcases o_.mp h with h|h
   ·exact .inl (t_.mp h)
   ·obtain⟨x,hx,e⟩:=List.mem_map.mp h;exact .inr (.inl ⟨x,hx,e.symm⟩)
  ·obtain⟨x,hx,e⟩:=List.mem_map.mp h;exact .inr (.inr (.inl ⟨x,hx,e.symm⟩))
 ·rw[kT]at h;obtain⟨x,hx,e⟩:=List.mem_map.mp h;exact .inr (.inr (.inr ⟨x,hx,e.symm⟩))
theorem yf (c:Cl A B C)(th:Option Tn):cellOf A B C th∈hJ A B C:=by
 unfold hJ;cases th with
 |none=>exact q_ _ (q_ _ (q_ _ (.head _)))
 |some t=>
  cases t with
  |s t=>
   cases q:A.any (· == t) with
   |true=>rw[show cellOf A B C (Δ (.s t))=gG "text" t from e_ q];exact q_ _ (q_ _ (s_ _ (List.mem_map.mpr ⟨t,GQ q,rfl⟩)))
   |false=>rw[show cellOf A B C (Δ (.s t))=gG "begins" (K5 B t) from d_ (by rw[q];simp)];exact q_ _ (s_ _ (List.mem_map.mpr ⟨_,(pz c.e t).1,rfl⟩))
  |i i=>refine s_ _ ?_;rw[kT];exact List.mem_map.mpr ⟨_,(pA C Φ i c.up fun _ h=>(by cases h)).1,rfl⟩
theorem sd {k x:Str}{p:Option Int×Option Int}:nC p≠gG k x:=fun e=>by unfold nC iQ gG at e;injection e with e;injection e with _ e;injection e with _ e;cases e
theorem A1 {p:Option Int×Option Int}:nC p≠.tup [.str "none"]:=fun e=>by unfold nC iQ at e;injection e with e;injection e with _ e;cases e
theorem sf {k x:Str}:gG k x≠.tup [.str "none"]:=fun e=>by unfold gG at e;injection e with e;injection e with _ e;cases e
theorem bf {P:Prop}(h:¬P):(Ξ=Θ↔P):=⟨fun z=>(by cases z),fun z=>(h z).elim⟩
theorem A2 (n:Nat)(c:Cl A B C)(th:Option Tn)(hl:∀x,th=Δ (.s x)->x.length<=1000):∀e∈hJ A B C,∃b,cM T (n+1) 44 [.lst Ξ (hJ A B C),e,JO th]=.ok (.bl b)/\(b=Θ↔e=cellOf A B C th):=by
 intro e he;have m:=uO he;clear he;cases th with
 |none=>
  rcases m with rfl|⟨x,_,rfl⟩|⟨x,_,rfl⟩|⟨p,_,rfl⟩
  ·exact⟨Θ,ZE n,⟨fun _=>rfl,fun _=>rfl⟩⟩
  ·exact⟨Ξ,ZF n x,bf sf⟩
  ·exact⟨Ξ,ZG n x,bf sf⟩
  ·exact⟨Ξ,ZH n p.1 p.2,bf A1⟩
 |some t=>
  cases t with
  |s t=>
   have tl:=hl t rfl;have an:=uM (A:=A) (B:=B) c.up t;cases q:A.any (· == t) with
   |true=>
    rw[q]at an;rw[show cellOf A B C (Δ (.s t))=gG "text" t from e_ q];rcases m with rfl|⟨x,_,rfl⟩|⟨x,_,rfl⟩|⟨p,_,rfl⟩
    ·exact⟨Ξ,ZI n an,bf fun z=>sf z.symm⟩
    ·exact⟨x == t,Vv n an x,⟨fun z=>(by rw[h_ z]),fun z=>by rw[lJ z];exact beq_self_eq_true t⟩⟩
    ·exact⟨Ξ,ZJ n an x,bf (qR k3)⟩
    ·exact⟨Ξ,ZK n an p.1 p.2,bf sd⟩
   |false=>
    rw[q]at an;rw[show cellOf A B C (Δ (.s t))=gG "begins" (K5 B t) from d_ (by rw[q];simp)];have fs:=AU (cM T n) t (A:=A) c.up fun b hb=>S_ (c.b b hb).1 (by decide);have bx:=Eb c.e t;have sl:=GX (pz c.e t).2.1;have lf:gD ((Oq t B).map D.int)=Θ:=by rw[iC,O_];intro x hx;obtain⟨y,_,rfl⟩:=List.mem_map.mp hx;rfl
    have ll:(hJ A B C).length<=200:=by have h1:=c.K9;have h2:=c.lc;unfold hJ;rw[g_,g_,g_,i_,i_,m4,V_];omega
    rcases m with rfl|⟨x,_,rfl⟩|⟨x,_,rfl⟩|⟨p,_,rfl⟩
    ·exact⟨Ξ,ZL n an ll tl fs bx sl lf,bf fun z=>sf z.symm⟩
    ·exact⟨Ξ,ZM n an ll tl fs bx sl lf x,bf (qR k8)⟩
    ·exact⟨x == K5 B t,ZN n an ll tl fs bx sl lf x,⟨fun z=>(by rw[h_ z]),fun z=>by rw[lJ z];exact beq_self_eq_true _⟩⟩
    ·exact⟨Ξ,ZO n an ll tl fs bx sl lf p.1 p.2,bf sd⟩
  |i i=>
   have ci:=pA C Φ i c.up fun _ h=>(by cases h)
   rcases m with rfl|⟨x,_,rfl⟩|⟨x,_,rfl⟩|⟨p,hp,rfl⟩
   ·exact⟨Ξ,ZP n i,bf fun z=>A1 (p:=(Ly C i,(Ka C i).map (· - 1))) z.symm⟩
   ·exact⟨Ξ,ZQ n i x,bf fun z=>sd (p:=(Ly C i,(Ka C i).map (· - 1))) z.symm⟩
   ·exact⟨Ξ,ZR n i x,bf fun z=>sd (p:=(Ly C i,(Ka C i).map (· - 1))) z.symm⟩
   ·refine⟨cn p.1 p.2 i,ZS n i p.1 p.2,fun z=>?_,fun z=>?_⟩
    ·rw[yb C Φ i c.up p hp _ ci.1 z ci.2];rfl
    ·rw[sa (q:=(OP Φ C i,(Ka C i).map (· - 1))) z];exact ci.2
theorem yg (th:Option Tn):er (JO th)=JO th:=by rcases th with _|(_|_)<;>rfl
theorem GZ (th:Option Tn):gH (JO th)=Θ:=by rcases th with _|(_|_)<;>rfl
theorem Ec (n:Nat)(c:Cl A B C)(nA:A.Nodup)(nB:B.Nodup)(th:Option Tn)(hl:∀x,th=Δ (.s x)->x.length<=1000)(o:Bool) :
  gM (gO (cM T (n+1)) (.nm 2) [(.call 44 [(.v 0),(.v 2),(.v 1)])] (.v 2) [Δ (.lst o (hJ A B C)),Δ (JO th),Φ]) (hJ A B C)=.ok [cellOf A B C th]:=by
 refine tS _ (yd nA nB c.up) (yf c th) fun e he=>?_;obtain⟨b,h1,h2⟩:=A2 n c th hl e he;have h3:=yg th;have h4:Jj (hJ A B C)=hJ A B C:=gW (mZ A B C);have h5:er e=e:=by have:=mZ A B C;rw[iC,O_]at this;exact mH (this e he)
 generalize hJ A B C=cs,JO th=d at *;refine⟨fun z=>?_,fun z=>?_⟩
 ·rw[h2.mpr z]at h1;simp![Ev.eY,h1,h3,h4,h5]
 ·have:b=Ξ:=by
   cases b with
   |false=>rfl
   |true=>exact(z (h2.mp rfl)).elim
  rw[this]at h1;simp![Ev.eY,h1,h3,h4,h5]
end
noncomputable def eT:Tn->Tn->Bool
 |.s x,.s y=>x == y
 |.i x,.i y=>x == y
 |_,_=>Ξ
noncomputable def P2 (th:Option Tn)(ts:List Tn):Bool:=match th with
 |none=>Ξ
 |some t=>ts.any fun u=>eT u t
noncomputable def W2 (t:Str):Tn->Bool
 |.s o=>Txt.startswith t o
 |_=>Ξ
noncomputable def Ed (th:Option Tn)(ts:List Tn):Bool:=match th with
 |some (.s t)=>ts.any (W2 t)
 |_=>Ξ
noncomputable def Vw (th:Option Tn)(ts:List Tn):Bool:=match th,ts with
 |some (.i n),.i x::_=>decide (n >= x)
 |_,_=>Ξ
noncomputable def Lh (th:Option Tn)(ts:List Tn):Bool:=match th,ts with
 |some (.i n),.i x::_=>decide (n<=x)
 |_,_=>Ξ
noncomputable def tr (c:Cn)(th:Option Tn):Bool:=
 bif c.w == Ρ "is" then P2 th c.ts else bif c.w == Ρ "not" then !P2 th c.ts else bif c.w == Ρ "begins" then Ed th c.ts
 else bif c.w == Ρ "least" then Vw th c.ts else bif c.w == Ρ "most" then Lh th c.ts else bif c.w == Ρ "has" then th.isSome else !th.isSome
noncomputable def NC (mk:Str)(th:Option Tn):List D:=match th with
 |none=>[]
 |some t=>[.tup [.str mk,t.d]]
theorem yh (th:Option Tn):∀ts:List Tn,Jx (JO th) (ts.map Tn.d)=.ok (P2 th ts)
 |[]=>by cases th<;>rfl
 |u::ts=>by
  have ih:=yh th ts;have e:JR 40 u.d (JO th)=.ok (match th with|none=>Ξ|some t=>eT u t):=by
   cases th with
   |none=>cases u<;>rfl
   |some t=>cases u<;>cases t<;>rfl
  show Ii (JR 40 u.d (JO th)) (fun x=>Ii (Jx (JO th) (ts.map Tn.d)) fun y=>.ok (x||y))=_;rw[e,ih];cases th<;>rfl
noncomputable def tH:List IS:=[(.JA (.cmp .eq (.v 7) (.v 3)) [(.asg (.nm 9) (.v 10))] [])]
theorem Ee (cl:Nat->List D->Res D)(mk:Str)(th:Option Tn)(a0 a1 a2 a4 a5 a6 a8:Option D):∃x7 Ko,forM (Ev.turn cl (.tp [(.nm 7),(.nm 10)]) tH) (NC mk th) [a0,a1,a2,Δ (.str mk),a4,a5,a6,Φ,a8,Δ .Iw,Φ]=.ok (.nx [a0,a1,a2,Δ (.str mk),a4,a5,a6,x7,a8,Δ (JO th),Ko]):=by
 cases th with
 |none=>exact⟨Φ,Φ,rfl⟩
 |some t=>
  refine⟨Δ (.str mk),Δ t.d,?_⟩;have e:er t.d=t.d:=by cases t<;>rfl
  unfold NC JO tH;cases t with
  |i t=>show forM _ [D.tup [.str mk,.int t]] _=.ok (.nx [a0,a1,a2,Δ (.str mk),a4,a5,a6,_,a8,Δ (.int t),Δ (.int t)]);simp![Ev.eY]
  |s t=>show forM _ [D.tup [.str mk,.str t]] _=.ok (.nx [a0,a1,a2,Δ (.str mk),a4,a5,a6,_,a8,Δ (.str t),Δ (.str t)]);simp![Ev.eY]
theorem BS (cl:Nat->List D->Res D)(t:Str):∀ts:List Tn,(∀u∈ts,∃x,u=.s x)->gM (gO cl (.nm 1) [] (.K0 .starts (.v 0) [(.v 1)]) [Δ (.str t),Φ]) (ts.map Tn.d)=.ok ((ts.map (W2 t)).map .bl)
 |[],_=>rfl
 |u::ts,h=>by obtain⟨x,rfl⟩:=h u (.head _);refine iM ?_ (BS cl t ts fun v hv=>h v (.tail _ hv));show gO cl (.nm 1) [] (.K0 .starts (.v 0) [(.v 1)]) [Δ (.str t),Φ] (.str x)=.ok (Δ (.bl (Txt.startswith t x)));simp![Ev.eY]
theorem W3:(Ξ == Θ)=Ξ:=rfl
theorem W4:(Θ == Ξ)=Ξ:=rfl
theorem ZT {i x:Int}:Kl .ge (.int i) (.int x)=.ok (decide (i >= x)):=rfl
theorem W5 {x:Int}:iq (.lst Ξ [.int x]) (.int 0)=.ok (.int x):=rfl
noncomputable def fH:List IS:=[(.asg (.tp [(.nm 3),(.nm 4),(.nm 5)]) (.v 1)),(.JA (.LN (.cmp .eq (.v 4) (.c (.str "in"))) (.cmp .eq (.v 4) (.c (.str "out")))) [(.asg (.nm 6) (.c (.bl Ξ))),(.Jz (.tp [(.nm 7),(.nm 8)]) (.val (.v 0)) [(.JA (.cmp .eq (.v 7) (.v 3)) [(.asg (.nm 6) (.bi .any [(.comp {N:=["_law_marks","_law_row"],kd:=[.cell,.local],gl:=[9],df:=Ξ} [2] (.nm 1) (.val (.v 8)) [] (.bi .all [(.comp {N:=["_law_marks","_law_other"],kd:=[.cell,.local],gl:=[45],df:=Ξ} [0] (.nm 1) (.val (.v 1)) [] (.call 45 [(.lst []),(.v 1),(.v 0)]))]))]))] [])]),(.ret (.cmp .eq (.v 6) (.cmp .eq (.v 4) (.c (.str "in")))))] []),(.asg (.nm 9) (.c .Iw)),(.Jz (.tp [(.nm 7),(.nm 10)]) (.val (.v 2)) tH)]
noncomputable def Lv:List IS:=[(.JA (.LN (.cmp .eq (.v 4) (.c (.str "is"))) (.cmp .eq (.v 4) (.c (.str "not")))) [(.ret (.cmp .eq (.cmp .Lp (.v 9) (.v 5)) (.cmp .eq (.v 4) (.c (.str "is")))))] []),(.JA (.cmp .eq (.v 4) (.c (.str "begins"))) [(.ret (.Js (.J2 (.v 9) .str) (.bi .any [(.comp {N:=["_law_thing_here","_law_other"],kd:=[.cell,.local],gl:=[],df:=Ξ} [9] (.nm 1) (.val (.v 5)) [] (.K0 .starts (.v 0) [(.v 1)]))])))] []),(.JA (.cmp .eq (.v 4) (.c (.str "least"))) [(.ret (.Js (.J2 (.v 9) .int) (.cmp .ge (.v 9) (.idx (.v 5) (.c (.int 0))))))] []),(.JA (.cmp .eq (.v 4) (.c (.str "most"))) [(.ret (.Js (.J2 (.v 9) .int) (.cmp .le (.v 9) (.idx (.v 5) (.c (.int 0))))))] []),(.ret (.cmp .eq (.cmp .MV (.v 9) (.c .Iw)) (.cmp .eq (.v 4) (.c (.str "has")))))]
theorem Ef:Vb=fH++Lv:=rfl
section
variable (cl:Nat->List D->Res D){w:Str}{d:D}{TS:List D}{r:Bool}(a0 a1 a2 a3 x7 Ko:Option D)
noncomputable def hE (w:Str)(d:D)(TS:List D):Ev:=[a0,a1,a2,a3,Δ (.str w),Δ (.lst Ξ TS),Φ,x7,Φ,Δ d,Ko]
theorem G0 (q1:(w == Ρ "is")=Θ) (h:Kl .Lp d (.lst Ξ TS)=.ok r):iy cl Lv (hE a0 a1 a2 a3 x7 Ko w d TS)=.ok (.rt (.bl r)):=by
 unfold hE Lv;cases r
 all_goals simp![q1,h,W3]
theorem Eg (q1:(w == Ρ "is")=Ξ) (q2:(w == Ρ "not")=Θ) (h:Kl .Lp d (.lst Ξ TS)=.ok r):iy cl Lv (hE a0 a1 a2 a3 x7 Ko w d TS)=.ok (.rt (.bl !r)):=by
 unfold hE Lv;cases r
 all_goals simp![q1,q2,h,W4]
variable (q1:(w == Ρ "is")=Ξ) (q2:(w == Ρ "not")=Ξ)
include q1 q2
theorem yi (q3:(w == Ρ "begins")=Θ) (h:Iu cl (.J2 (.v 9) .str) (hE a0 a1 a2 a3 x7 Ko w d TS)=.ok (.bl Ξ)):iy cl Lv (hE a0 a1 a2 a3 x7 Ko w d TS)=.ok (.rt (.bl Ξ)):=by unfold hE at h ⊢;unfold Lv;simp![q1,q2,q3,h]
theorem Eh {t:Str}{bs:List Bool}(q3:(w == Ρ "begins")=Θ) (hl:TS.length<=100) (h:gM (gO cl (.nm 1) [] (.K0 .starts (.v 0) [(.v 1)]) [Δ (.str t),Φ]) TS=.ok (bs.map .bl)):iy cl Lv (hE a0 a1 a2 a3 x7 Ko w (.str t) TS)=.ok (.rt (.bl (bs.any id))):=by
 unfold hE Lv;cases r:bs.any id
 all_goals simp![q1,q2,q3,h,hl,r]
variable (q3:(w == Ρ "begins")=Ξ)
include q3
theorem yj (q4:(w == Ρ "least")=Θ) (h:Iu cl (.J2 (.v 9) .int) (hE a0 a1 a2 a3 x7 Ko w d TS)=.ok (.bl Ξ)):iy cl Lv (hE a0 a1 a2 a3 x7 Ko w d TS)=.ok (.rt (.bl Ξ)):=by unfold hE at h ⊢;unfold Lv;simp![q1,q2,q3,q4,h]
theorem Ei (q4:(w == Ρ "least")=Θ) (i x:Int):iy cl Lv (hE a0 a1 a2 a3 x7 Ko w (.int i) [.int x])=.ok (.rt (.bl (decide (i >= x)))):=by
 unfold hE Lv;cases r:decide (i >= x)
 all_goals simp![q1,q2,q3,q4,W5,ZT,r]
theorem yk (q4:(w == Ρ "least")=Ξ) (q5:(w == Ρ "most")=Θ) (h:Iu cl (.J2 (.v 9) .int) (hE a0 a1 a2 a3 x7 Ko w d TS)=.ok (.bl Ξ)):iy cl Lv (hE a0 a1 a2 a3 x7 Ko w d TS)=.ok (.rt (.bl Ξ)):=by unfold hE at h ⊢;unfold Lv;simp![q1,q2,q3,q4,q5,h]
theorem Ej (q4:(w == Ρ "least")=Ξ) (q5:(w == Ρ "most")=Θ) (i x:Int):iy cl Lv (hE a0 a1 a2 a3 x7 Ko w (.int i) [.int x])=.ok (.rt (.bl (decide (i<=x)))):=by
 unfold hE Lv;cases r:decide (i<=x)
 all_goals simp![q1,q2,q3,q4,q5,W5,r]
theorem G1 {r':Bool}(q4:(w == Ρ "least")=Ξ) (q5:(w == Ρ "most")=Ξ) (q6:(w == Ρ "has")=r') (h:Kl .MV d .Iw=.ok r):iy cl Lv (hE a0 a1 a2 a3 x7 Ko w d TS)=.ok (.rt (.bl (r == r'))):=by
 unfold hE Lv;cases r<;>cases r'
 all_goals simp![q1,q2,q3,q4,q5,q6,h,W3,W4]
end
theorem BU (mk:Str)(th:Option Tn):Jj (NC mk th)=NC mk th:=by rcases th with _|(_|_)<;>rfl
theorem Ek (n:Nat)(mk:Str){w:Str}{ts:List Tn}{th:Option Tn}{r:Bool}(q1:(w == Ρ "in")=Ξ) (q2:(w == Ρ "out")=Ξ)
  (h:∀a0 a1 a2 a3 x7 Ko,iy (cM T n) Lv (hE a0 a1 a2 a3 x7 Ko w (JO th) (ts.map Tn.d))=.ok (.rt (.bl r))) :
  cM T (n+1) 45 [.lst Ξ [],.tup [.str mk,.str w,.lst Ξ (ts.map Tn.d)],.lst Ξ (NC mk th)]=.ok (.bl r):=by
 obtain⟨x7,Ko,e⟩:=Ee (cM T n) mk th (Δ (.lst Ξ [])) (Δ (.tup [.str mk,.str w,.lst Ξ (ts.map Tn.d)])) (Δ (.lst Ξ (NC mk th))) (Δ (.str w)) (Δ (.lst Ξ (ts.map Tn.d))) Φ Φ;have h:=h (Δ (.lst Ξ [])) (Δ (.tup [.str mk,.str w,.lst Ξ (ts.map Tn.d)])) (Δ (.lst Ξ (NC mk th))) (Δ (.str mk)) x7 Ko;have hm:=BU mk th;have ht:=mY ts;unfold hE at h;rw[Ev.go (show T 45=Δ Qr from rfl) rfl (show Qr.np=3 from rfl) (show Qr.G.N.length=11 from rfl) (show Qr.body=Vb from rfl) rfl,Ef];unfold fH;generalize Lv=TL,tH=TH,NC mk th=M,ts.map Tn.d=TS,JO th=d at *;simp![q1,q2,hm,ht,e,h]
theorem ym:(Ρ "not" == Ρ "is")=Ξ:=by decide +kernel
theorem pB:(Ρ "begins" == Ρ "is")=Ξ:=by decide +kernel
theorem pC:(Ρ "begins" == Ρ "not")=Ξ:=by decide +kernel
theorem pD:(Ρ "least" == Ρ "is")=Ξ:=by decide +kernel
theorem pE:(Ρ "least" == Ρ "not")=Ξ:=by decide +kernel
theorem pF:(Ρ "least" == Ρ "begins")=Ξ:=by decide +kernel
theorem pH:(Ρ "most" == Ρ "is")=Ξ:=by decide +kernel
theorem pI:(Ρ "most" == Ρ "not")=Ξ:=by decide +kernel
theorem pJ:(Ρ "most" == Ρ "begins")=Ξ:=by decide +kernel
theorem pK:(Ρ "most" == Ρ "least")=Ξ:=by decide +kernel
theorem yn:(Ρ "has" == Ρ "is")=Ξ:=by decide +kernel
theorem yo:(Ρ "has" == Ρ "not")=Ξ:=by decide +kernel
theorem yp:(Ρ "has" == Ρ "begins")=Ξ:=by decide +kernel
theorem yq:(Ρ "has" == Ρ "least")=Ξ:=by decide +kernel
theorem yr:(Ρ "has" == Ρ "most")=Ξ:=by decide +kernel
theorem yt:(Ρ "lacks" == Ρ "is")=Ξ:=by decide +kernel
theorem yu:(Ρ "lacks" == Ρ "not")=Ξ:=by decide +kernel
theorem yv:(Ρ "lacks" == Ρ "begins")=Ξ:=by decide +kernel
theorem yy:(Ρ "lacks" == Ρ "least")=Ξ:=by decide +kernel
theorem yz:(Ρ "lacks" == Ρ "most")=Ξ:=by decide +kernel
theorem yB:(Ρ "lacks" == Ρ "has")=Ξ:=by decide +kernel
theorem G2 (th:Option Tn)(ts:List Tn):Kl .Lp (JO th) (.lst Ξ (ts.map Tn.d))=.ok (P2 th ts):=by have h:=yh th ts;rcases th with _|(_|_)<;>exact h
theorem El (th:Option Tn):Kl .MV (JO th) .Iw=.ok th.isSome:=by rcases th with _|(_|_)<;>rfl
theorem A3 (n:Nat){c:Cn}(g:Gc c)(hl:c.ts.length<=100)(th:Option Tn):cM T (n+1) 45 [.lst Ξ [],c.d,.lst Ξ (NC c.m th)]=.ok (.bl (tr c th)):=by
 have MZ:=Bool.or_eq_false_iff.mp g.io;have ZU:=g.be;have gone:=g.one;have ZV:=g.wd;unfold tr;refine Ek n c.m (w:=c.w) (by rw[kQ];exact MZ.1) (by rw[kQ];exact MZ.2) fun a0 a1 a2 a3 x7 Ko=>?_;generalize c.w=w at *;have SD:=G2 th c.ts;have R1:=El th;generalize c.ts=ts at *;clear g MZ;rcases ZV with hw|rfl|rfl
 ·cases hw with
  |is=>simp only[beq_self_eq_true,cond_true];exact G0 _ _ _ _ _ _ _ (beq_self_eq_true _) SD
  |not=>simp only[ym,beq_self_eq_true,cond_true,cond_false];exact Eg _ _ _ _ _ _ _ ym (beq_self_eq_true _) SD
  |be=>
   simp only[pB,pC,beq_self_eq_true,cond_true,cond_false];rcases th with _|(i|t)
   ·exact yi _ _ _ _ _ _ _ pB pC (beq_self_eq_true _) rfl
   ·exact yi _ _ _ _ _ _ _ pB pC (beq_self_eq_true _) rfl
   ·have f:=BS (cM T n) t ts (ZU rfl);refine(Eh _ _ _ _ _ _ _ pB pC (beq_self_eq_true _) (by rw[i_];exact hl) f).trans ?_;rw[List.any_map];rfl
  |le=>
   simp only[pD,pE,pF,beq_self_eq_true,cond_true,cond_false];obtain⟨x,rfl⟩:=gone (.inl rfl);rcases th with _|(i|t)
   ·exact yj _ _ _ _ _ _ _ pD pE pF (beq_self_eq_true _) rfl
   ·exact Ei _ _ _ _ _ _ _ pD pE pF (beq_self_eq_true _) i x
   ·exact yj _ _ _ _ _ _ _ pD pE pF (beq_self_eq_true _) rfl
  |mo=>
   simp only[pH,pI,pJ,pK,beq_self_eq_true,cond_true,cond_false];obtain⟨x,rfl⟩:=gone (.inr rfl);rcases th with _|(i|t)
   ·exact yk _ _ _ _ _ _ _ pH pI pJ pK (beq_self_eq_true _) rfl
   ·exact Ej _ _ _ _ _ _ _ pH pI pJ pK (beq_self_eq_true _) i x
   ·exact yk _ _ _ _ _ _ _ pH pI pJ pK (beq_self_eq_true _) rfl
 ·simp only[yn,yo,yp,yq,yr,beq_self_eq_true,cond_true,cond_false];refine(G1 _ _ _ _ _ _ _ yn yo yp yq yr (beq_self_eq_true _) R1).trans ?_;cases th.isSome<;>rfl
 ·simp only[yt,yu,yv,yy,yz,yB,beq_self_eq_true,cond_true,cond_false];refine(G1 _ _ _ _ _ _ _ yt yu yv yy yz yB R1).trans ?_;cases th.isSome<;>rfl
noncomputable def NQ (mk:Str)(cs:List Cn)(th:Option Tn):List Bool:=(cs.filter fun c=>c.m == mk).map fun c=>tr c th
theorem G3 (n:Nat)(mk:Str)(th:Option Tn)(o:Bool):∀cs:List Cn,(∀c∈cs,Gc c/\c.ts.length<=100)->gM (gO (cM T (n+1)) (.nm 2) [(.cmp .eq (.idx (.v 2) (.c (.int 0))) (.v 1))] (.call 45 [(.lst []),(.v 2),(.v 0)]) [Δ (.lst o (NC mk th)),Δ (.str mk),Φ]) (cs.map Cn.d)=.ok ((NQ mk cs th).map .bl)
 |[],_=>rfl
 |c::cs,h=>by
  have ih:=G3 n mk th o cs fun d hd=>h d (.tail _ hd);unfold NQ at ih ⊢;have x0:=S2 c;have e:=nZ c;have hm:=BU mk th;rw[b_,List.filter_cons];cases q:(c.m == mk) with
  |true=>have hc:=A3 n (h c (.head _)).1 (h c (.head _)).2 th;rw[h_ q]at hc;rw[e_ rfl,b_,b_];refine iM ?_ ih;generalize NC mk th=M,c.d=d at *;simp![Ev.eY,x0,q,e,hm,hc]
  |false=>rw[d_ (by simp)];refine jg ?_ ih;generalize c.d=d at *;simp![Ev.eY,x0,q]
theorem HU:Kl .MV .Iw .Iw=.ok Ξ:=rfl
theorem HV {i:Int}:Kl .MV (.int i) .Iw=.ok Θ:=rfl
theorem HW {i:Str}:Kl .MV (.str i) .Iw=.ok Θ:=rfl
theorem uP (n:Nat)(mk:Str)(th:Option Tn){cs:List Cn}(h:∀c∈cs,Gc c/\c.ts.length<=100)(hl:cs.length<=100):cM T (n+2) 47 [.lst Ξ (cs.map Cn.d),.str mk,JO th]=.ok (.lst Θ ((NQ mk cs th).map .bl)):=by
 have f:=fun o=>G3 n mk th o cs h;have lf:gD ((NQ mk cs th).map D.bl)=Θ:=by rw[iC,O_];intro x hx;obtain⟨y,_,rfl⟩:=List.mem_map.mp hx;rfl
 have ll:(cs.map Cn.d).length<=100:=by rw[i_];exact hl
 generalize(NQ mk cs th).map D.bl=R,cs.map Cn.d=K at *;rcases th with _|(i|t)
 ·have f:∀o:Bool,gM (gO (cM T (n+1)) (.nm 2) [(.cmp .eq (.idx (.v 2) (.c (.int 0))) (.v 1))] (.call 45 [(.lst []),(.v 2),(.v 0)]) [Δ (.lst o []),Δ (.str mk),Φ]) K=.ok R:=f;show cM T (n+2) 47 [.lst Ξ K,.str mk,.Iw]=_;rw[JG 47 RC 3 4 PQ rfl rfl rfl rfl rfl rfl];unfold PQ;simp![HU,f,lf,ll]
 ·have f:∀o:Bool,gM (gO (cM T (n+1)) (.nm 2) [(.cmp .eq (.idx (.v 2) (.c (.int 0))) (.v 1))] (.call 45 [(.lst []),(.v 2),(.v 0)]) [Δ (.lst o [.tup [.str mk,.int i]]),Δ (.str mk),Φ]) K=.ok R:=f;show cM T (n+2) 47 [.lst Ξ K,.str mk,.int i]=_;rw[JG 47 RC 3 4 PQ rfl rfl rfl rfl rfl rfl];unfold PQ;simp![HV,f,lf,ll]
 ·have f:∀o:Bool,gM (gO (cM T (n+1)) (.nm 2) [(.cmp .eq (.idx (.v 2) (.c (.int 0))) (.v 1))] (.call 45 [(.lst []),(.v 2),(.v 0)]) [Δ (.lst o [.tup [.str mk,.str t]]),Δ (.str mk),Φ]) K=.ok R:=f;show cM T (n+2) 47 [.lst Ξ K,.str mk,.str t]=_;rw[JG 47 RC 3 4 PQ rfl rfl rfl rfl rfl rfl];unfold PQ;simp![HW,f,lf,ll]
theorem qT {c:Cn}{t1 t2:Option Tn}(h1:(c.w=Ρ "is"∨c.w=Ρ "not")->P2 t1 c.ts=P2 t2 c.ts) (h2:c.w=Ρ "begins"->Ed t1 c.ts=Ed t2 c.ts)
  (h3:c.w=Ρ "least"->Vw t1 c.ts=Vw t2 c.ts) (h4:c.w=Ρ "most"->Lh t1 c.ts=Lh t2 c.ts) (h5:t1.isSome=t2.isSome):tr c t1=tr c t2:=by
 unfold tr;rw[h5];cases q1:(c.w == Ρ "is") with
 |true=>rw[h1 (.inl (h_ q1))];rfl
 |false=>
  cases q2:(c.w == Ρ "not") with
  |true=>rw[h1 (.inr (h_ q2))];rfl
  |false=>
   cases q3:(c.w == Ρ "begins") with
   |true=>rw[h2 (h_ q3)];rfl
   |false=>
    cases q4:(c.w == Ρ "least") with
    |true=>rw[h3 (h_ q4)];rfl
    |false=>
     cases q5:(c.w == Ρ "most") with
     |true=>rw[h4 (h_ q5)];rfl
     |false=>rfl
theorem any_eq {α:Type}{f g:α->Bool}:∀ {l:List α},(∀x∈l,f x=g x)->l.any f=l.any g
 |[],_=>rfl
 |x::l,h=>by rw[List.any_cons,List.any_cons,h x (.head _),any_eq fun y hy=>h y (.tail _ hy)]
theorem G4 {a b c:Str}(h1:Txt.startswith a b=Θ)(h2:Txt.startswith b c=Θ):Txt.startswith a c=Θ:=by rw[pq]at *;have l2:=congrArg List.length h2;rw[aak,tK,tK]at l2;rw[<- h2,<- h1,List.take_take,show min c.length b.length=c.length by omega]
theorem G5 {a b c:Str}(h1:Txt.startswith a b=Θ)(h2:Txt.startswith a c=Θ)(l:c.length<=b.length):Txt.startswith b c=Θ:=by rw[pq]at *;rw[<- h1,List.take_take,show min c.length b.length=c.length by omega];exact h2
theorem yC {B:List Str}(he:Ρ ""∈B) (t:Str) {o:Str} (ho:o∈B):Txt.startswith t o=Txt.startswith (K5 B t) o:=by
 obtain⟨_,l2,l3⟩:=pz he t;cases q:Txt.startswith (K5 B t) o with
 |true=>exact G4 l2 q
 |false=>
  cases q1:Txt.startswith t o with
  |false=>rfl
  |true=>rw[G5 l2 q1 (l3 o ho q1)]at q;cases q
theorem pL:∀(ns:List Int) (n:Int),jR n ns<=n/\(∀m∈ns,jR n ns<=m)/\jR n ns∈n::ns
 |[],n=>⟨Int.le_refl _,fun m hm=>(by simp at hm),.head _⟩
 |a::ns,n=>by
  obtain⟨h1,h2,h3⟩:=pL ns (if a < n then a else n);have e:jR n (a::ns)=jR (if a < n then a else n) ns:=rfl;rw[e];by_cases q:a < n
  ·rw[e_ q]at h1 h2 h3 ⊢;refine⟨by omega,fun m hm=>?_,.tail _ h3⟩;rcases k_.mp hm with rfl|hm
   ·exact h1
   ·exact h2 m hm
  ·rw[d_ q]at h1 h2 h3 ⊢;refine⟨h1,fun m hm=>?_,?_⟩
   ·rcases k_.mp hm with rfl|hm
    ·omega
    ·exact h2 m hm
   ·rcases k_.mp h3 with h3|h3
    ·rw[h3];exact .head _
    ·exact .tail _ (.tail _ h3)
theorem G6 {C:List Int}{n e:Int}(h:Ka C n=Δ e):e > n:=by
 unfold Ka at h;cases q:C.filter fun c=>decide (c > n) with
 |nil=>rw[q]at h;cases h
 |cons x xs=>rw[q]at h;have h:Δ (jR x xs)=Δ e:=h;have m:=(pL xs x).2.2;rw[<- q,K_ h]at m;exact u_ (List.mem_filter.mp m).2
theorem G7 {C:List Int}{n c:Int}(hc:c∈C)(h:c > n):∃e,Ka C n=Δ e/\e<=c:=by
 have m:c∈C.filter fun c=>decide (c > n):=List.mem_filter.mpr ⟨hc,B_ h⟩;unfold Ka;cases q:C.filter fun c=>decide (c > n) with
 |nil=>rw[q]at m;cases m
 |cons x xs=>
  rw[q]at m;obtain⟨h1,h2,_⟩:=pL xs x;refine⟨_,rfl,?_⟩;rcases k_.mp m with rfl|m
  ·exact h1
  ·exact h2 c m
theorem yD {C:List Int}{n m:Int}(h:Ka C n=Ka C m){c:Int}(hc:c∈C)(k:c<=n):c<=m:=by
 rcases Int.lt_or_le m c with q|q
 ·obtain⟨e,h1,h2⟩:=G7 hc (show c > m from q);have:=G6 (h.trans h1);omega
 ·exact q
theorem Em {a b:Option Int}(h:a.map (· - 1)=b.map (· - 1)):a=b:=by
 cases a with
 |none=>
  cases b with
  |none=>rfl
  |some y=>cases h
 |some x=>
  cases b with
  |none=>cases h
  |some y=>have:=K_ (show Δ (x - 1)=Δ (y - 1) from h);rw[show x=y by omega]
section
variable {mk:Str}{cs:List Cn}{t1 t2:Option Tn}
theorem A4 (h:cellOf (sS (cs.flatMap (aT mk))) (sS (Ρ ""::cs.flatMap (bT mk))) (sI (cs.flatMap (cT mk))) t1=cellOf (sS (cs.flatMap (aT mk))) (sS (Ρ ""::cs.flatMap (bT mk))) (sI (cs.flatMap (cT mk))) t2):NQ mk cs t1=NQ mk cs t2:=by
 unfold NQ;refine aan fun c hc=>?_;obtain⟨hc,hm⟩:=List.mem_filter.mp hc;have hm:c.m=mk:=h_ hm;have hA:∀x,c.w≠Ρ "begins"->Tn.s x∈c.ts->x∈sS (cs.flatMap (aT mk)):=fun x k1 k2=>lI.mpr (List.mem_flatMap.mpr ⟨c,hc,o6.mpr ⟨hm,k1,k2⟩⟩);have hB:∀x,c.w=Ρ "begins"->Tn.s x∈c.ts->x∈sS (Ρ ""::cs.flatMap (bT mk)):=fun x k1 k2=>lI.mpr (.tail _ (List.mem_flatMap.mpr ⟨c,hc,o7.mpr ⟨hm,k1,k2⟩⟩));have hC:∀x,c.w≠Ρ "begins"->Tn.i x∈c.ts->(c.w≠Ρ "most"->x∈sI (cs.flatMap (cT mk)))/\(c.w≠Ρ "least"->x+1∈sI (cs.flatMap (cT mk))):=fun x k1 k2=>
  ⟨fun k3=>r9.mpr (List.mem_flatMap.mpr ⟨c,hc,jX.mpr ⟨hm,k1,x,k2,.inl ⟨k3,rfl⟩⟩⟩),fun k3=>r9.mpr (List.mem_flatMap.mpr ⟨c,hc,jX.mpr ⟨hm,k1,x,k2,.inr ⟨k3,rfl⟩⟩⟩)⟩
 have hE:Ρ ""∈sS (Ρ ""::cs.flatMap (bT mk)):=lI.mpr (.head _);generalize sS (cs.flatMap (aT mk))=A,sS (Ρ ""::cs.flatMap (bT mk))=B,sI (cs.flatMap (cT mk))=C at *;have nb:∀ {w:Str},(w=Ρ "is"∨w=Ρ "not")->w≠Ρ "begins"/\w≠Ρ "most"/\w≠Ρ "least":=fun hw=>by
  rcases hw with rfl|rfl
  ·exact⟨n1,n5,n8⟩
  ·exact⟨n2,n6,n9⟩
 have cT:∀ {th:Option Tn}{t:Str},A.any (· == t)=Θ->cellOf A B C th=gG "text" t->th=Δ (.s t):=fun {th t} q e=>by
  rcases th with _|(i|u)
  ·exact(sf e.symm).elim
  ·exact(sd (p:=(Ly C i,(Ka C i).map (· - 1))) e).elim
  ·cases q1:A.any (· == u) with
   |true=>rw[show cellOf A B C (Δ (.s u))=gG "text" u from e_ q1]at e;rw[lJ e]
   |false=>rw[show cellOf A B C (Δ (.s u))=gG "begins" (K5 B u) from d_ (by rw[q1];simp)]at e;exact(qR k3 e).elim
 rcases t1 with _|(i|t)
 ·rcases t2 with _|(j|u)
  ·rfl
  ·exact(A1 (p:=(Ly C j,(Ka C j).map (· - 1))) h.symm).elim
  ·have h:D.tup [.str "none"]=if A.any (· == u)=Θ then gG "text" u else gG "begins" (K5 B u):=h
   split at h<;>exact(sf h.symm).elim
 ·rcases t2 with _|(j|u)
  ·exact(A1 (p:=(Ly C i,(Ka C i).map (· - 1))) h).elim
  ·have e:=sa (p:=(Ly C i,(Ka C i).map (· - 1))) (q:=(Ly C j,(Ka C j).map (· - 1))) h;have e:Ka C i=Ka C j:=Em (Prod.mk.inj e).2;have both:∀c∈C,c<=i↔c<=j:=fun c hc=>⟨yD e hc,yD e.symm hc⟩
   refine qT (fun hw=>any_eq fun u hu=>?_) (fun _=>rfl) (fun hw=>?_) (fun hw=>?_) rfl
   ·cases u with
    |s x=>rfl
    |i x=>
     obtain⟨w1,w2,w3⟩:=nb hw;have k1:=both x ((hC x w1 hu).1 w2);have k2:=both (x+1) ((hC x w1 hu).2 w3);show(x == i)=(x == j)
     by_cases q:x=i
     ·rw[q]at k1 k2 ⊢;rw[show j=i by omega]
     ·rw[beq_eq_false_iff_ne.mpr q,beq_eq_false_iff_ne.mpr (show x≠j by omega)]
   ·cases Vx:c.ts with
    |nil=>rfl
    |cons u us=>
     cases u with
     |s x=>rfl
     |i x=>have k1:=both x ((hC x (by rw[hw];exact n3) (by rw[Vx];exact .head _)).1 (by rw[hw];exact n7));show decide (i >= x)=decide (j >= x);exact decide_eq_decide.mpr k1
   ·cases Vx:c.ts with
    |nil=>rfl
    |cons u us=>
     cases u with
     |s x=>rfl
     |i x=>have k1:=both (x+1) ((hC x (by rw[hw];exact n4) (by rw[Vx];exact .head _)).2 (by rw[hw];exact fun z=>n7 z.symm));show decide (i<=x)=decide (j<=x);exact decide_eq_decide.mpr (by omega)
  ·have h:nC (Ly C i,(Ka C i).map (· - 1))=if A.any (· == u)=Θ then gG "text" u else gG "begins" (K5 B u):=h
   split at h<;>exact(sd h).elim
 ·cases q:A.any (· == t) with
  |true=>rw[show cellOf A B C (Δ (.s t))=gG "text" t from e_ q]at h;rw[cT q h.symm]
  |false=>
   rw[show cellOf A B C (Δ (.s t))=gG "begins" (K5 B t) from d_ (by rw[q];simp)]at h;rcases t2 with _|(j|u)
   ·exact(sf h).elim
   ·exact(sd (p:=(Ly C j,(Ka C j).map (· - 1))) h.symm).elim
   ·cases q1:A.any (· == u) with
    |true=>rw[show cellOf A B C (Δ (.s u))=gG "text" u from e_ q1]at h;exact(qR k3 h).elim
    |false=>
     rw[show cellOf A B C (Δ (.s u))=gG "begins" (K5 B u) from d_ (by rw[q1];simp)]at h;have hb:=lJ h;have no:∀ {x:Str},A.any (· == x)=Ξ->(c.w=Ρ "is"∨c.w=Ρ "not")->P2 (Δ (.s x)) c.ts=Ξ:=fun {x} qx hw=>by
      show(c.ts.any fun u=>eT u (.s x))=Ξ;rw[List.any_eq_false];intro v hv z;cases v with
      |i y=>cases z
      |s y=>have e:y=x:=h_ z;rw[e]at hv;exact GP qx (hA x (nb hw).1 hv)
     refine qT (fun hw=>(no q hw).trans (no q1 hw).symm) (fun hw=>any_eq fun v hv=>?_) (fun _=>rfl) (fun _=>rfl) rfl;cases v with
     |i y=>rfl
     |s y=>show Txt.startswith t y=Txt.startswith u y;rw[yC hE t (hB y hw hv),yC hE u (hB y hw hv),hb]
end
noncomputable def tI:List IS:=[(.JA (.J2 (.v 9) .str) [(.ext 5 (.lst [(.v 9),(.sl (.v 9) Φ (Δ (.neg (.c (.int 1))))),(.bin .add (.v 9) (.sl (.v 3) (Δ (.bi .len [(.v 9)])) (Δ (.c (.int 12))))),(.bin .add (.v 9) (.idx (.c (.str "z0")) (.bin .mod (.bi .len [(.v 5)]) (.c (.int 2)))))]))] [(.ext 5 (.lst [(.bin .sub (.v 9) (.c (.int 1))),(.v 9),(.bin .add (.v 9) (.c (.int 1)))]))])]
noncomputable def tJ:List IS:=[(.Jz (.nm 9) (.val (.v 8)) tI)]
noncomputable def tX:List IS:=[(.app 5 (.call 33 [(.v 0),(.bin .add (.c (.int 600)) (.bin .mul (.c (.int 3)) (.v 10))),(.v 3)]))]
def Sm (ths:List (Option Tn)):Prop:=∀x,Δ (.s x)∈ths->x.length<=1000
theorem Sm.app {a b:List (Option Tn)}(h:Sm a)(k:Sm b):Sm (a++b):=fun x hx=>(o_.mp hx).elim (h x) (k x)
theorem G8 (L:Nat):∃y:Str,iq (.str "z0") (.int ((L:Int) % 2))=.ok (.str y)/\y.length=1:=by
 have:(L:Int) % 2=0∨(L:Int) % 2=1:=by omega
 rcases this with e|e
 ·rw[e];exact⟨⟨#[122]⟩,by kernel_rfl,rfl⟩
 ·rw[e];exact⟨⟨#[48]⟩,by kernel_rfl,rfl⟩
section
variable (cl:Nat->List D->Res D)(a0 a1 a2 a4 a6 a7:Option D){st:Str}(hs:st.length<=100)
include hs
theorem En (a8 a9 K6:Option D){t:Tn}(gt:Tg t){ths:List (Option Tn)}(hl:ths.length<=300) :
  ∃new:List (Option Tn),Ev.turn cl (.nm 9) tI t.d [a0,a1,a2,Δ (.str st),a4,Δ (.lst Θ (ths.map JO)),a6,a7,a8,a9,K6]=.ok (.nx [a0,a1,a2,Δ (.str st),a4,Δ (.lst Θ ((ths++new).map JO)),a6,a7,a8,Δ t.d,K6])/\new.length<=4/\Sm new:=by
 have hm:(ths.map JO).length=ths.length:=i_ ..;cases t with
 |i i=>refine⟨[Δ (.i (i - 1)),Δ (.i i),Δ (.i (i+1))],?_,(by show 3<=4;decide),fun x hx=>by simp at hx⟩;rw[C_];show Ev.turn cl (.nm 9) tI (.int i) _=.ok (.nx [a0,a1,a2,Δ (.str st),a4,Δ (.lst Θ (ths.map JO++[.int (i - 1),.int i,.int (i+1)])),a6,a7,a8,Δ (.int i),K6]);generalize ths.map JO=F at *;unfold tI;simp![Ev.eY,hm]
 |s t=>
  have gt:t.length<=8:=gt.1;obtain⟨y,hy,yl⟩:=G8 ths.length;have l1:=iT t Φ (Δ (-1));have l2:=iT st (Δ (t.length:Int)) (Δ 12);have l3:=kR t (Txt.slice st (Δ (t.length:Int)) (Δ 12));have l4:=kR t y;refine⟨[Δ (.s t),Δ (.s (Txt.slice t Φ (Δ (-1)))),Δ (.s (t++Txt.slice st (Δ (t.length:Int)) (Δ 12))),Δ (.s (t++y))],?_,(by show 4<=4;decide),fun x hx=>?_⟩
  ·rw[C_];show Ev.turn cl (.nm 9) tI (.str t) _=.ok (.nx [a0,a1,a2,Δ (.str st),a4,Δ (.lst Θ (ths.map JO++[.str t,.str (Txt.slice t Φ (Δ (-1))),.str (t++Txt.slice st (Δ (t.length:Int)) (Δ 12)),.str (t++y)])),a6,a7,a8,Δ (.str t),K6]);generalize ths.map JO=F at *;unfold tI;simp![Ev.eY,hy,hm]
  ·simp only[k_,Option.some.injEq,Tn.s.injEq,T_,or_false]at hx;rcases hx with rfl|rfl|rfl|rfl<;>omega
theorem yE (a8 K6:Option D):∀(ts:List Tn) (a9:Option D) (ths:List (Option Tn)),(∀t∈ts,Tg t)->ths.length+4*ts.length<=300->
  ∃(new:List (Option Tn)) (b9:Option D),forM (Ev.turn cl (.nm 9) tI) (ts.map Tn.d) [a0,a1,a2,Δ (.str st),a4,Δ (.lst Θ (ths.map JO)),a6,a7,a8,a9,K6]=.ok (.nx [a0,a1,a2,Δ (.str st),a4,Δ (.lst Θ ((ths++new).map JO)),a6,a7,a8,b9,K6])/\new.length<=4*ts.length/\Sm new
 |[],a9,ths,_,_=>⟨[],a9,by rw[v_];rfl,l_ _,fun x hx=>by simp at hx⟩
 |t::ts,a9,ths,h,hl=>by rw[List.length_cons]at hl;obtain⟨n1,e1,k1,s1⟩:=En cl a0 a1 a2 a4 a6 a7 hs a8 a9 K6 (h t (.head _)) (ths:=ths) (by omega);obtain⟨n2,b9,e2,k2,s2⟩:=yE a8 K6 ts (Δ t.d) (ths++n1) (fun u hu=>h u (.tail _ hu)) (by rw[g_];omega);refine⟨n1++n2,b9,?_,by rw[g_,List.length_cons];omega,s1.app s2⟩;rw[b_];show Ii (Ev.turn cl (.nm 9) tI t.d _) _=_;rw[e1];rw[<- r_];exact e2
end
theorem yF (cl:Nat->List D->Res D)(a0 a1 a2 a4 K6:Option D){st:Str}(hs:st.length<=100):∀(cs:List Cn) (a6 a7 a8 a9:Option D) (ths:List (Option Tn)),(∀c∈cs,∀t∈c.ts,Tg t)->ths.length+4*(cs.flatMap Cn.ts).length<=300->
  ∃(new:List (Option Tn)) (b6 b7 b8 b9:Option D),forM (Ev.turn cl (.tp [(.nm 6),(.nm 7),(.nm 8)]) tJ) (cs.map Cn.d) [a0,a1,a2,Δ (.str st),a4,Δ (.lst Θ (ths.map JO)),a6,a7,a8,a9,K6]=.ok (.nx [a0,a1,a2,Δ (.str st),a4,Δ (.lst Θ ((ths++new).map JO)),b6,b7,b8,b9,K6])/\new.length<=4*(cs.flatMap Cn.ts).length/\Sm new
 |[],a6,a7,a8,a9,ths,_,_=>⟨[],a6,a7,a8,a9,by rw[v_];rfl,aaa _,fun x hx=>by simp at hx⟩
 |c::cs,a6,a7,a8,a9,ths,h,hl=>by
  rw[List.flatMap_cons,g_]at hl;obtain⟨n1,b9,e1,k1,s1⟩:=yE cl a0 a1 a2 a4 (Δ (.str c.m)) (Δ (.str c.w)) hs (Δ (.lst Ξ (c.ts.map Tn.d))) K6 c.ts a9 ths (fun t ht=>h c (.head _) t ht) (by omega);obtain⟨n2,b6,b7,b8,ZW,e2,k2,s2⟩:=yF cl a0 a1 a2 a4 K6 hs cs (Δ (.str c.m)) (Δ (.str c.w)) (Δ (.lst Ξ (c.ts.map Tn.d))) b9 (ths++n1) (fun u hu=>h u (.tail _ hu)) (by rw[g_];omega);refine⟨n1++n2,b6,b7,b8,ZW,?_,by rw[g_,List.flatMap_cons,g_];omega,s1.app s2⟩;have et:=mY c.ts;have e3:Ev.turn cl (.tp [(.nm 6),(.nm 7),(.nm 8)]) tJ c.d [a0,a1,a2,Δ (.str st),a4,Δ (.lst Θ (ths.map JO)),a6,a7,a8,a9,K6]=.ok (.nx [a0,a1,a2,Δ (.str st),a4,Δ (.lst Θ ((ths++n1).map JO)),Δ (.str c.m),Δ (.str c.w),Δ (.lst Ξ (c.ts.map Tn.d)),b9,K6]):=by unfold Cn.d tJ;generalize tI=TI,c.ts.map Tn.d=U,ths.map JO=F,(ths++n1).map JO=F1 at *;simp![Ev.eY,et,e1]
  rw[b_];show Ii (Ev.turn cl _ tJ c.d _) _=_;rw[e3];rw[<- r_];exact e2
theorem ZX:decide ((0:Int)<=9/\(9:Int)<=1000000/\Int.natAbs 10 < 2 ^ 64)=Θ:=by decide
theorem p9:((10:Int) ^ (9:Int).toNat)=1000000000:=by decide
noncomputable def S5 (st:Str)(c:Int):List (Option Tn):=[Φ,Δ (.s (Ρ "")),Δ (.s st),Δ (.s (Txt.slice st Φ (Δ 9))),Δ (.i 1000000000),Δ (.i (0 - 1000000000)),Δ (.i c),Δ (.i 0)]
theorem uQ (n:Nat)(ns:List Int){cs:List Cn}(h:∀c∈cs,∀t∈c.ts,Tg t)(K9:(cs.flatMap Cn.ts).length<=20)(mk:Str){st:Str}(hs:st.length<=100)(hx:Sx st)(c:Int) :
  ∃ths:List (Option Tn),cM T (n+3) 46 [.lst Ξ (ns.map .int),.lst Ξ (cs.map Cn.d),.str mk,.str st,.int c]=.ok (.lst Θ (ths.map JO))/\Sm ths/\ths.length<=200:=by
 obtain⟨new,b6,b7,b8,b9,e,k,s⟩:=yF (cM T (n+2)) (Δ (.lst Ξ (ns.map .int))) (Δ (.lst Ξ (cs.map Cn.d))) (Δ (.str mk)) (Δ (.int c)) Φ hs cs Φ Φ Φ Φ
  (S5 st c) h (by show 8+_<=300;omega)
 have s0:Sm (S5 st c):=fun x hx=>by
  unfold S5 at hx;simp only[k_,Option.some.injEq,Tn.s.injEq,T_,or_false,reduceCtorEq,false_or]at hx;have l1:=iT st Φ (Δ 9);rcases hx with rfl|rfl|rfl
  ·rw[o8];decide
  ·omega
  ·omega
 obtain⟨Jl,e2,ts,Ko,rfl,hl,Vn⟩:=Ev.lX (its:=iV 0 4) (τ:=[Δ (.lst Ξ (ns.map .int)),Δ (.lst Ξ (cs.map Cn.d)),Δ (.str mk),Δ (.str st),Δ (.int c),Δ (.lst Θ (((S5 st c)++new).map JO)),b6,b7,b8,b9,Φ]) (body:=Ev.turn (cM T (n+2)) (.nm 10) tX)
  (fun i τ=>∃(ths:List (Option Tn)) (Ko:Option D),τ=[Δ (.lst Ξ (ns.map .int)),Δ (.lst Ξ (cs.map Cn.d)),Δ (.str mk),Δ (.str st),Δ (.int c),Δ (.lst Θ (ths.map JO)),b6,b7,b8,b9,Ko]/\ths.length<=100+i/\Sm ths)
  ⟨_,Φ,rfl,by rw[g_];show 8+_<=100+0;omega,s0.app s⟩ (by
   rintro i x τ Oj ⟨ths,Ko,rfl,hl,ZY⟩;have hi:i < 4:=by have:=(E_.mp Oj).1;rw[iA]at this;exact this
   unfold iV at Oj;rw[L_,List.getElem?_range (by show i < 4;omega)]at Oj;have KP:D.int (0+(i:Nat))=x:=K_ Oj;subst KP;obtain⟨y,ey,yl,_⟩:=pf n ns (k:=600+3*(0+(i:Int))) (by omega) (by omega) hs hx;have hm:(ths.map JO).length=ths.length:=i_ ..;refine⟨_,?_,ths++[Δ (.s y)],Δ (.int (0+(i:Int))),rfl,by rw[g_];show ths.length+1<=_;omega,ZY.app fun x hx=>?_⟩
   ·rw[C_];show _=Except.ok (Fl.nx [_,_,_,_,_,Δ (.lst Θ (ths.map JO++[.str y])),_,_,_,_,_]);generalize ths.map JO=F at *;unfold tX;simp![Ev.eY,ey,hm]
   ·have:x=y:=by simpa using hx
    rw[this];omega)
 refine⟨ts,?_,Vn,by rw[iA]at hl;have:((4:Int) - 0).toNat=4:=rfl;omega⟩;have et:Jj (cs.map Cn.d)=cs.map Cn.d:=ji cs;have l1:=iT st Φ (Δ 9);rw[Ev.go (show T 46=Δ Qs from rfl) rfl (show Qs.np=5 from rfl) (show Qs.G.N.length=11 from rfl) (show Qs.body=Vc from rfl) rfl];have eb:Vc=[(.asg (.nm 5) (.lst [(.c .Iw),(.c (.str "")),(.v 3),(.sl (.v 3) Φ (Δ (.c (.int 9)))),(.bin .pow (.c (.int 10)) (.c (.int 9))),(.bin .sub (.c (.int 0)) (.bin .pow (.c (.int 10)) (.c (.int 9)))),(.v 4),(.c (.int 0))])),(.Jz (.tp [(.nm 6),(.nm 7),(.nm 8)]) (.val (.v 1)) tJ),(.Jz (.nm 10) (.JW (.c (.int 4))) tX),(.ret (.v 5))]:=rfl;rw[eb];rw[C_]at e e2;have e:forM (Ev.turn (cM T (n+2)) (.tp [(.nm 6),(.nm 7),(.nm 8)]) tJ) (cs.map Cn.d) [Δ (.lst Ξ (ns.map .int)),Δ (.lst Ξ (cs.map Cn.d)),Δ (.str mk),Δ (.str st),Δ (.int c),Δ (.lst Θ [.Iw,.str "",.str st,.str (Txt.slice st Φ (Δ 9)),.int 1000000000,.int (0 - 1000000000),.int c,.int 0]),Φ,Φ,Φ,Φ,Φ]=_:=e;generalize tJ=TJ,tX=TX,cs.map Cn.d=K,ns.map D.int=N,List.map JO _++List.map JO new=F,ts.map JO=R at *;have lR:gH (.lst Θ R)=Ξ:=rfl;simp![et,e,e2,p9,ZX]
noncomputable def W6:TK->D
 |none=>.Iw
 |some (.inl i)=>.int i
 |some (.inr x)=>.str x
theorem yG:∀ {ds:List D}{q:List TK},rq ds=Δ q->ds=q.map W6
 |[],q,h=>by cases h;rfl
 |d::ds,q,h=>by
  have h':(match Q5 d with|some k=>(rq ds).map (k::·)|none=>Φ)=Δ q:=h;cases e:Q5 d with
  |none=>rw[e]at h';cases h'
  |some k=>rw[e]at h';obtain⟨q',h3,rfl⟩:=aas.mp h';rw[b_,<- yG h3];congr 1;cases d<;>cases e<;>rfl
theorem yI {d:D}{q:List TK}(h:jq d=Δ q):d=.tup (q.map W6):=by
 cases d with
 |tup ds=>rw[<- yG (show rq ds=Δ q from h)]
 |_=>cases h
theorem yJ (A B:List Str)(C:List Int)(th:Option Tn):∃q,jq (cellOf A B C th)=Δ q:=by
 rcases th with _|(i|t)
 ·exact⟨_,rfl⟩
 ·show ∃q,jq (.tup [.str "numbers",oI (Ly C i),oI ((Ka C i).map (· - 1))])=Δ q;cases Ly C i<;>cases(Ka C i).map (· - 1)<;>exact⟨_,rfl⟩
 ·show ∃q,jq (if A.any (· == t)=Θ then gG "text" t else gG "begins" (K5 B t))=Δ q;split<;>exact⟨_,rfl⟩
section
variable {mk:Str}{cs:List Cn}
theorem A5 (mk:Str)(cs:List Cn):∃F:List TK->List Bool,∀th q,jq (cellOf (sS (cs.flatMap (aT mk))) (sS (Ρ ""::cs.flatMap (bT mk))) (sI (cs.flatMap (cT mk))) th)=Δ q->F q=NQ mk cs th:=by
 classical
 refine⟨fun q=>if h:∃th,jq (cellOf (sS (cs.flatMap (aT mk))) (sS (Ρ ""::cs.flatMap (bT mk))) (sI (cs.flatMap (cT mk))) th)=Δ q then NQ mk cs (Classical.choose h) else [],fun th q h=>?_⟩;have hx:∃th,jq (cellOf (sS (cs.flatMap (aT mk))) (sS (Ρ ""::cs.flatMap (bT mk))) (sI (cs.flatMap (cT mk))) th)=Δ q:=⟨th,h⟩
 show(if h:_ then _ else _)=_;rw[dif_pos hx];exact A4 ((yI (Classical.choose_spec hx)).trans (yI h).symm)
end
section
variable (V:List TK->D)(ks:List (List TK))(q:List TK)
theorem qU:∀ks:List (List TK),look ks (ks.map V) q=if mJ ks q=Θ then Δ (V q) else Φ
 |[]=>rfl
 |k::ks=>by
  show(if k=q then Δ (V k) else look ks (ks.map V) q)=if(decide (k=q)||mJ ks q)=Θ then Δ (V q) else Φ
  by_cases h:k=q
  ·rw[e_ h,B_ h,Bool.true_or,e_ rfl,h]
  ·rw[d_ h,H_ h,Bool.false_or,qU ks]
theorem yL (d:D)(hd:er d=V q)(hV:∀k,er (V k)=V k):∀ks:List (List TK),Jj (List.zipWith (fun k e=>if k=q then d else e) ks (ks.map V))=ks.map V
 |[]=>rfl
 |k::ks=>by
  rw[b_,List.zipWith_cons_cons];show er (if k=q then d else V k)::Jj _=_;rw[yL d hd hV ks];by_cases h:k=q
  ·rw[e_ h,hd,h]
  ·rw[d_ h,hV]
theorem A6 {d:D}(hd:er d=V q)(hV:∀k,er (V k)=V k):Jj (iR ks (ks.map V) q d)=(iB ks q).map V:=by
 unfold iR iB;by_cases h:mJ ks q=Θ
 ·rw[e_ h,e_ h];exact yL V q d hd hV ks
 ·rw[d_ h,d_ h,g7,C_,C_,Y_];rw[show ks.map (er ∘ V)=ks.map V from aan fun k _=>hV k];show _++[er d]=_++[V q]
  rw[hd]
theorem uR:(iB ks q).length<=ks.length+1:=by
 unfold iB;split
 ·omega
 ·rw[g_];exact l_ _
end
noncomputable def vB (F:List TK->List Bool)(q:List TK):D:=.lst Ξ ((F q).map .bl)
theorem yM (bs:List Bool):gD (bs.map D.bl)=Θ:=by rw[iC,O_];intro x hx;obtain⟨y,_,rfl⟩:=List.mem_map.mp hx;rfl
theorem G9 (F:List TK->List Bool)(q:List TK):er (vB F q)=vB F q:=by show D.lst Ξ (Jj _)=_;rw[gW (yM _)];rfl
theorem yN:∀bs:List Bool,iY (bs.map D.bl)=Θ
 |[]=>rfl
 |_::bs=>yN bs
theorem yO (F:List TK->List Bool):∀ks:List (List TK),iY (ks.map (vB F))=Θ
 |[]=>rfl
 |k::ks=>by show((!Ξ&&iY ((F k).map D.bl))&&iY (ks.map (vB F)))=Θ;rw[yN,yO F ks];rfl
theorem BV:∀bs:List Bool,jd (JR 39) (bs.map D.bl) (bs.map D.bl)=.ok Θ
 |[]=>rfl
 |b::bs=>by show Ii (.ok (b == b)) (fun x=>Ii (jd (JR 39) (bs.map D.bl) (bs.map D.bl)) fun y=>.ok (x&&y))=_;rw[BV bs,beq_self_eq_true];rfl
theorem Ha (o:Bool)(bs:List Bool):Kl .ne (.lst o (bs.map .bl)) (.lst Θ (bs.map .bl))=.ok Ξ:=by show Ii (jd (JR 39) (bs.map D.bl) (bs.map D.bl)) (fun r=>.ok !r)=_;rw[BV];rfl
theorem Eo (F:List TK->List Bool)(ks:List (List TK)){cell:D}{q:List TK}(h:jq cell=Δ q):∃o1,Ev.Am (.Jy Θ ks (ks.map (vB F))) cell (.lst Θ ((F q).map .bl))=.ok (.lst o1 ((F q).map .bl)):=by
 have e:Ev.Am (.Jy Θ ks (ks.map (vB F))) cell (.lst Θ ((F q).map .bl))=.ok ((look ks (ks.map (vB F)) q).getD (.lst Θ ((F q).map .bl))):=by show(match jq cell with|some q=>.ok ((look ks (ks.map (vB F)) q).getD (.lst Θ _))|none=>Ji:Res D)=_;rw[h]
 rw[e,qU];split
 ·exact⟨Ξ,rfl⟩
 ·exact⟨Θ,rfl⟩
theorem Ep (cl:Nat->List D->Res D)(F:List TK->List Bool)(ks:List (List TK)){cell:D}{q:List TK}(h:jq cell=Δ q)(lc:gH cell=Θ)(hk:ks.length<=1000)(b0 b1 b2 b3 b4 b5 b6 b7 b8 b9 L9 L':Option D) :
  Ev.F3 cl 10 (.v 13) (.v 14) [b0,b1,b2,b3,b4,b5,b6,b7,b8,b9,Δ (.Jy Θ ks (ks.map (vB F))),L9,L',Δ cell,Δ (.lst Θ ((F q).map .bl))] (.lst Θ ((F q).map .bl))=.ok (.nx [b0,b1,b2,b3,b4,b5,b6,b7,b8,b9,Δ (.Jy Θ (iB ks q) ((iB ks q).map (vB F))),L9,L',Δ cell,Δ (.lst Ξ ((F q).map .bl))]):=by
 have e1:(iY (ks.map (vB F))&&i4 ks.length)=Θ:=by rw[yO,Bool.true_and];have hs:Ζ=16777216:=sizeLine_eq;exact B_ (by omega)
 have e2:=A6 (vB F) ks q (d:=.lst Θ ((F q).map .bl)) (by
  show D.lst Ξ (Jj _)=_;rw[gW (yM _)]
  rfl) (G9 F)
 show Ev.F0 10 (.v 14) [b0,b1,b2,b3,b4,b5,b6,b7,b8,b9,Δ (.Jy Θ ks (ks.map (vB F))),L9,L',Δ cell,Δ (.lst Θ ((F q).map .bl))] (.lst Θ ((F q).map .bl)) ks (ks.map (vB F)) (jq cell)=_;rw[h];show Iy (iY (ks.map (vB F))&&i4 ks.length) _=_;rw[e1];show Except.ok (Fl.nx [b0,b1,b2,b3,b4,b5,b6,b7,b8,b9,Δ (.Jy Θ (iB ks q) (Jj (iR ks (ks.map (vB F)) q (.lst Θ ((F q).map .bl))))),L9,L',Δ cell,Δ (.lst Ξ (Jj ((F q).map .bl)))])=_;rw[e2,gW (yM _)]
noncomputable def tA:List IS:=[(.asg (.nm 12) (.comp {N:=["_law_cells_here","_law_thing_here","_law_cell"],kd:=[.cell,.cell,.local],gl:=[44],df:=Ξ} [9,11] (.nm 2) (.val (.v 9)) [(.call 44 [(.v 0),(.v 2),(.v 1)])] (.v 2))),(.asg (.nm 13) (.call 48 [(.idx (.v 7) (.c (.int 0))),(.idx (.v 7) (.c (.int 1))),(.v 8),(.v 11)])),(.JA (.LN (.cmp .ne (.bi .len [(.v 12)]) (.c (.int 1))) (.KJ (.call 42 [(.v 13),(.idx (.v 12) (.c (.int 0)))]))) [(.ret (.c (.bl Ξ)))] []),(.asg (.nm 14) (.call 47 [(.v 6),(.v 8),(.v 11)])),(.JA (.cmp .ne (.KR (.v 10) (.v 13) (.v 14)) (.v 14)) [(.ret (.c (.bl Ξ)))] []),(.Ld 10 (.v 13) (.v 14))]
theorem Er (a0 a1 a2 a3 a4 a5 Ma Mb Mc Md:Option D){g s G S:D}(hg:er g=G)(hs:er s=S){K:List D}(hK:Jj K=K)(mk:Str){cells:List D}(QW:cells.length<=200){d cell:D}{q:List TK}(F:List TK->List Bool)(ks:List (List TK))
  (hd:er d=d) (ld:gH d=Θ) (fd:∀o:Bool,gM (gO (cM T 14) (.nm 2) [(.call 44 [(.v 0),(.v 2),(.v 1)])] (.v 2) [Δ (.lst o cells),Δ d,Φ]) cells=.ok [cell])
  (ef:cM T 14 48 [G,S,.str mk,d]=.ok cell) (lc:gH cell=Θ) (es:cM T 14 42 [cell,cell]=.ok (.bl Θ)) (et:cM T 14 47 [.lst Ξ K,.str mk,d]=.ok (.lst Θ ((F q).map .bl))) (hq:jq cell=Δ q) (hk:ks.length<=1000) (o o9:Bool) :
  Ev.turn (cM T 14) (.nm 11) tA d [a0,a1,a2,a3,a4,a5,Δ (.lst o K),Δ (.tup [g,s]),Δ (.str mk),Δ (.lst o9 cells),Δ (.Jy Θ ks (ks.map (vB F))),Ma,Mb,Mc,Md]=.ok (.nx [a0,a1,a2,a3,a4,a5,Δ (.lst Ξ K),Δ (.tup [g,s]),Δ (.str mk),Δ (.lst o9 cells),Δ (.Jy Θ (iB ks q) ((iB ks q).map (vB F))),Δ d,Δ (.lst Θ [cell]),Δ cell,Δ (.lst Ξ ((F q).map .bl))]):=by
 obtain⟨o1,h1⟩:=Eo F ks hq;have h2:=Ha o1 (F q);have h3:=Ep (cM T 14) F ks hq lc hk a0 a1 a2 a3 a4 a5 (Δ (.lst Ξ K)) (Δ (.tup [g,s])) (Δ (.str mk)) (Δ (.lst o9 cells)) (Δ d) (Δ (.lst Θ [cell]));have ec:=mH lc;have x0:∀a b:D,Kj [a,b] 0=Δ a:=fun _ _=>rfl;have x1:∀a b:D,Kj [a,b] 1=Δ b:=fun _ _=>rfl;have x2:iq (.lst Θ [cell]) (.int 0)=.ok cell:=rfl;have ZZ:(((1:Nat):Int) == 1)=Θ:=rfl;have Z0:gD [cell]=Θ:=by show(gH cell&&Θ)=Θ;rw[lc];rfl
 generalize(F q).map D.bl=R,ks.map (vB F)=ds,(iB ks q).map (vB F)=ds' at *;generalize iB ks q=KZ at *;unfold tA;simp![Ev.eY,hg,hs,hK,hd,ld,fd,ef,lc,es,et,h1,h2,h3,ec,x0,x1,x2,ZZ,Z0,QW]
theorem A7 (A B:List Str)(C:List Int)(th:Option Tn):pl 3 (cellOf A B C th)=Θ:=by
 rcases th with _|(i|t)
 ·rfl
 ·show pl 3 (.tup [.str "numbers",oI (Ly C i),oI ((Ka C i).map (· - 1))])=Θ;cases Ly C i<;>cases(Ka C i).map (· - 1)<;>rfl
 ·show pl 3 (if A.any (· == t)=Θ then gG "text" t else gG "begins" (K5 B t))=Θ;split<;>rfl
theorem Es (ths:List (Option Tn)):Jj (ths.map JO)=ths.map JO:=oY yg ths
structure Mk (G S:D)(cs:List Cn)(mk:Str)(cells:List D)(F:List TK->List Bool):Prop where
 len:cells.length<=200
 one:∀th,(∀x,th=Δ (.s x)->x.length<=1000)->∃(cell:D) (q:List TK),(∀o:Bool,gM (gO (cM T 14) (.nm 2) [(.call 44 [(.v 0),(.v 2),(.v 1)])] (.v 2) [Δ (.lst o cells),Δ (JO th),Φ]) cells=.ok [cell])/\
  cM T 14 48 [G,S,.str mk,JO th]=.ok cell/\gH cell=Θ/\cM T 14 42 [cell,cell]=.ok (.bl Θ)/\cM T 14 47 [.lst Ξ (cs.map Cn.d),.str mk,JO th]=.ok (.lst Θ ((F q).map .bl))/\jq cell=Δ q
 Z1:cM T 14 41 [.lst Ξ (cs.map Cn.d),.str mk]=.ok (.lst Θ cells)
theorem Hb {g0 s0:D}{gs:List Gp}{rs:List Ru}{sw:D}(w:R0 g0 s0 gs rs sw)(mk:Str):∃cells F,Mk (.lst Ξ (gs.map Gp.d)) sw (JV gs (gU rs)) mk cells F:=by
 have hm:=xF gs rs;have hg:∀c∈JV gs (gU rs),Gc c:=fun c hc=>w.gc c ((hm c).mpr hc);have K9:=w.K9;obtain⟨e1,e2,e3⟩:=xH mk hm w.o fun c hc=>(w.gc c hc).wk;have c:=GO mk (fun c hc=>(hg c hc).tg) K9;have h1:=xS mk (JV gs (gU rs));have h2:=xT mk (JV gs (gU rs));have h3:=r6 mk (JV gs (gU rs));obtain⟨F,hF⟩:=A5 mk (JV gs (gU rs))
 have tl:∀c∈JV gs (gU rs),Gc c/\c.ts.length<=100:=fun c hc=>⟨hg c hc,by
  have:c.ts.length<=((JV gs (gU rs)).flatMap Cn.ts).length:=(List.sublist_flatten_of_mem (List.mem_map.mpr ⟨c,hc,rfl⟩)).length_le
  omega⟩
 refine⟨_,F,?_,fun th hl=>?_,uJ 13 mk (fun c hc=>(hg c hc).be) (by omega) (by omega) (by omega) (by omega)⟩
 ·have k1:=c.K9;have k2:=c.lc;unfold cL hJ;rw[g_,g_,g_,i_,i_,m4,V_];omega
 ·obtain⟨q,hq⟩:=yJ (sS ((JV gs (gU rs)).flatMap (aT mk))) (sS (Ρ ""::(JV gs (gU rs)).flatMap (bT mk))) (sI ((JV gs (gU rs)).flatMap (cT mk))) th;have ec:=AX 8 w.H w.o mk (by rw[e1,e2,e3];exact c) th;rw[e1,e2,e3]at ec;have et:=uP 12 mk th tl w.ll;rw[<- hF th q hq]at et;exact⟨_,q,Ec 13 c (BR _) (BR _) th hl,ec,pw _ _ _ th,same 3 11 (A7 _ _ _ th),et,hq⟩
section
variable {G S:D}{cs:List Cn}{mk:Str}{cells:List D}{F:List TK->List Bool}(m:Mk G S cs mk cells F)(a0 a1 a2 a3 a4 a5:Option D){g s:D}(hg:er g=G)(hs:er s=S)
include m hg hs
theorem yQ (o9:Bool):∀(ths:List (Option Tn)) (ks:List (List TK)) (o:Bool) (Ma Mb Mc Md:Option D),Sm ths->ks.length+ths.length<=1000->
  ∃o' KZ L9 L' M9 M',forM (Ev.turn (cM T 14) (.nm 11) tA) (ths.map JO) [a0,a1,a2,a3,a4,a5,Δ (.lst o (cs.map Cn.d)),Δ (.tup [g,s]),Δ (.str mk),Δ (.lst o9 cells),Δ (.Jy Θ ks (ks.map (vB F))),Ma,Mb,Mc,Md]=.ok (.nx [a0,a1,a2,a3,a4,a5,Δ (.lst o' (cs.map Cn.d)),Δ (.tup [g,s]),Δ (.str mk),Δ (.lst o9 cells),Δ (.Jy Θ KZ (KZ.map (vB F))),L9,L',M9,M'])
 |[],ks,o,Ma,Mb,Mc,Md,_,_=>⟨o,ks,Ma,Mb,Mc,Md,rfl⟩
 |th::ths,ks,o,Ma,Mb,Mc,Md,sm,hl=>by rw[List.length_cons]at hl;obtain⟨cell,q,fd,ef,lc,es,et,hq⟩:=m.one th fun x e=>sm x (by rw[e];exact .head _);have e1:=Er a0 a1 a2 a3 a4 a5 Ma Mb Mc Md hg hs (ji cs) mk m.len F ks (yg th) (GZ th) fd ef lc es et hq (by omega) o o9;have hk:=uR ks q;obtain⟨o',KZ,L9,L',M9,M',e2⟩:=yQ o9 ths (iB ks q) Ξ (Δ (JO th)) (Δ (.lst Θ [cell])) (Δ cell) (Δ (.lst Ξ ((F q).map .bl))) (fun x hx=>sm x (.tail _ hx)) (by omega);exact⟨o',KZ,L9,L',M9,M',by rw[b_,Ev.cI,e1,Ev.cJ,Ev.cK,e2]⟩
end
noncomputable def tO:List IS:=[(.asg (.nm 9) (.call 41 [(.v 6),(.v 8)])),(.asg (.nm 10) .Lc),(.Jz (.nm 11) (.val (.call 46 [(.v 0),(.v 6),(.v 8),(.v 2),(.v 3)])) tA)]
theorem Et {g0 s0:D}{gs:List Gp}{rs:List Ru}{sw:D}(w:R0 g0 s0 gs rs sw)(ns:List Int){st:Str}(JZ:st.length<=100)(hx:Sx st)(c:Int)(a1 a4 a5:Option D){g s:D}(hg:er g=.lst Ξ (gs.map Gp.d))(hs:er s=sw)(mk:Str)(o:Bool)(a8 a9 K6 Ma Mb Mc Md:Option D) :
  ∃o' b9 Qv L9 L' M9 M',Ev.turn (cM T 14) (.nm 8) tO (.str mk) [Δ (.lst Ξ (ns.map .int)),a1,Δ (.str st),Δ (.int c),a4,a5,Δ (.lst o ((JV gs (gU rs)).map Cn.d)),Δ (.tup [g,s]),a8,a9,K6,Ma,Mb,Mc,Md]=.ok (.nx [Δ (.lst Ξ (ns.map .int)),a1,Δ (.str st),Δ (.int c),a4,a5,Δ (.lst o' ((JV gs (gU rs)).map Cn.d)),Δ (.tup [g,s]),Δ (.str mk),b9,Qv,L9,L',M9,M']):=by
 obtain⟨cells,F,m⟩:=Hb w mk;have hm:=xF gs rs;obtain⟨ths,e2,sm,tl⟩:=uQ 11 ns (fun c hc=>(w.gc c ((hm c).mpr hc)).tg) w.K9 mk JZ hx c;obtain⟨o',KZ,L9,L',M9,M',e3⟩:=yQ m (Δ (.lst Ξ (ns.map .int))) a1 (Δ (.str st)) (Δ (.int c)) a4 a5 hg hs Θ ths [] Ξ Ma Mb Mc Md sm (by show 0+_<=_;omega);refine⟨o',Δ (.lst Θ cells),Δ (.Jy Θ KZ (KZ.map (vB F))),L9,L',M9,M',?_⟩;have e1:=m.Z1;have ek:=ji (JV gs (gU rs));have e0:=Ev.oV ns;have eh:=Es ths;have e3:forM (Ev.turn (cM T 14) (.nm 11) tA) (ths.map JO) [Δ (.lst Ξ (ns.map .int)),a1,Δ (.str st),Δ (.int c),a4,a5,Δ (.lst Ξ ((JV gs (gU rs)).map Cn.d)),Δ (.tup [g,s]),Δ (.str mk),Δ (.lst Θ cells),Δ (.Jy Θ [] []),Ma,Mb,Mc,Md]=_:=e3;generalize(JV gs (gU rs)).map Cn.d=K,ns.map D.int=N,ths.map JO=H at *;unfold tO;generalize tA=TA at *;simp![Ev.eY,e1,e2,ek,e0,eh,e3]
theorem tU {g0 s0:D}{gs:List Gp}{rs:List Ru}{sw:D}(w:R0 g0 s0 gs rs sw)(ns:List Int){st:Str}(JZ:st.length<=100)(hx:Sx st)(c:Int)(a1 a4 a5:Option D){g s:D}(hg:er g=.lst Ξ (gs.map Gp.d))(hs:er s=sw) :
  ∀(ms:List Str) (o:Bool) (a8 a9 K6 Ma Mb Mc Md:Option D),∃o' b8 b9 Qv L9 L' M9 M',forM (Ev.turn (cM T 14) (.nm 8) tO) (ms.map .str) [Δ (.lst Ξ (ns.map .int)),a1,Δ (.str st),Δ (.int c),a4,a5,Δ (.lst o ((JV gs (gU rs)).map Cn.d)),Δ (.tup [g,s]),a8,a9,K6,Ma,Mb,Mc,Md]=.ok (.nx [Δ (.lst Ξ (ns.map .int)),a1,Δ (.str st),Δ (.int c),a4,a5,Δ (.lst o' ((JV gs (gU rs)).map Cn.d)),Δ (.tup [g,s]),b8,b9,Qv,L9,L',M9,M'])
 |[],o,a8,a9,K6,Ma,Mb,Mc,Md=>⟨o,a8,a9,K6,Ma,Mb,Mc,Md,rfl⟩
 |m::ms,o,a8,a9,K6,Ma,Mb,Mc,Md=>by obtain⟨o1,b9,Qv,L9,L',M9,M',e1⟩:=Et w ns JZ hx c a1 a4 a5 hg hs m o a8 a9 K6 Ma Mb Mc Md;obtain⟨o2,d8,d9,Z2,Z3,Z4,Z5,Z6,e2⟩:=tU w ns JZ hx c a1 a4 a5 hg hs ms o1 (Δ (.str m)) b9 Qv L9 L' M9 M';exact⟨o2,d8,d9,Z2,Z3,Z4,Z5,Z6,by rw[b_,Ev.cI,e1,Ev.cJ,Ev.cK,e2]⟩
theorem HX {d G S:D}(h:er d=.tup [G,S]):∃g s,d=.tup [g,s]/\er g=G/\er s=S:=by
 cases d with
 |tup ds=>
  have h':D.tup (Jj ds)=.tup [G,S]:=h;injection h' with h'
  match ds,h' with
  |[a,b],h'=>injection h' with h1 h2;injection h2 with h2 _;exact⟨a,b,rfl,h1,h2⟩
 |_=>cases h
noncomputable def tL:List IS:=[(.asg (.nm 6) (.call 40 [(.v 4),(.v 5)])),(.asg (.nm 7) (.call 43 [(.tup [(.v 4),(.v 5)])])),(.Jz (.nm 8) (.val (.v 1)) tO),(.ret (.call 42 [(.v 7),(.tup [(.v 4),(.v 5)])]))]
noncomputable def fL:List IS:=[(.asg (.nm 1) (.call 31 [(.v 0),(.c (.int 0)),(.c (.int 2))])),(.asg (.nm 2) (.call 32 [(.v 0),(.c (.int 130))])),(.asg (.nm 3) (.call 34 [(.v 0),(.c (.int 145))])),(.asg (.tp [(.nm 4),(.nm 5)]) (.call 39 [(.v 0),(.v 1),(.v 2),(.v 3)]))]
theorem Eu:Vf=fL++tL:=rfl
theorem A8 {g0 s0:D}{gs:List Gp}{rs:List Ru}{sw:D}(w:R0 g0 s0 gs rs sw)(ns:List Int){st:Str}(JZ:st.length<=100)(hx:Sx st)(c:Int)(o:Bool)(m0 m1:Str):iy (cM T 14) tL [Δ (.lst Ξ (ns.map .int)),Δ (.lst o [.str m0,.str m1]),Δ (.str st),Δ (.int c),Δ g0,Δ s0,Φ,Φ,Φ,Φ,Φ,Φ,Φ,Φ,Φ]=.ok (.rt (.bl Θ)):=by have hG:=qE 8 _ w.pG;have hS:=qE 8 _ w.pS;have pp:pl 9 (.tup [.lst Ξ (gs.map Gp.d),sw])=Θ:=lH (by rw[JS,JS,JS,w.pG,w.pS];rfl) (by simp);have e5:=rV 13 w.H (S_ w.ll (by decide));obtain⟨d,e6,hd⟩:=copy 9 5 pp;obtain⟨g,s,rfl,hg,Ke⟩:=HX hd;have ef:=same 9 5 pp;have eA:=w.eg;have eB:=w.es;have lA:=w.lg;have lB:=w.ls;have eK:=ji (JV gs (gU rs));obtain⟨o',b8,b9,Qv,L9,L',M9,M',el⟩:=tU w ns JZ hx c (Δ (.lst Ξ [.str m0,.str m1])) (Δ (.lst Ξ (gs.map Gp.d))) (Δ sw) hg Ke [m0,m1] Θ Φ Φ Φ Φ Φ Φ Φ;rw[b_,b_,List.map_nil,Ev.cI]at el;generalize JV gs (gU rs)=LK,D.lst Ξ (gs.map Gp.d)=G,ns.map D.int=N at *;unfold tL;generalize tO=TO at el ⊢;simp![e5,e6,ef,eA,eB,lA,lB,eK,hG,hS,hg,Ke,el,ite_self]
theorem holds (ns:List Int)(hn:ns.length<=63):cM T 15 Av [.lst Ξ (ns.map .int)]=.ok (.bl Θ):=by
 obtain⟨xs,e1,hl⟩:=xN 12 ns (k:=0) (by decide) (by decide) (mn:=2) (by decide) (by decide)
 match xs,hl with
 |[m0,m1],_=>
 obtain⟨st,e2,hs,hx⟩:=AO 12 ns (k:=130) (by decide) (by decide);obtain⟨c,e3,hc⟩:=uK 12 ns (k:=145) (by decide) (by decide);obtain⟨g1,s1,gs1,rs1,sw1,e4,w1⟩:=xY 8 ns m0 m1 hs hx c hc;have e0:=Ev.oV ns;have Z7:=w1.lg;have Vv:=w1.ls;rw[b_,b_,List.map_nil]at e1;rw[Ev.go (show T Av=Δ PR from rfl) rfl (show PR.np=1 from rfl) (show PR.G.N.length=15 from rfl) (show PR.body=Vf from rfl) rfl,Eu];unfold fL;have r:=A8 w1 ns hs hx c Ξ m0 m1;generalize tL=TL at r ⊢;generalize List.map D.int ns=NS at *;simp![e1,e2,e3,e4,e0,Z7,Vv,r]
end Law
namespace PySem.W.Fast
theorem tw17980123277194605670:True:=⟨⟩
theorem tw73090505195172861:True:=⟨⟩
theorem tw9894968425668512491:True:=⟨⟩
theorem tw15754124292293449493:True:=⟨⟩
theorem tw11444854419342111654:True:=⟨⟩
theorem tw4929897944684001839:True:=⟨⟩
theorem tw7222936549599583396:True:=⟨⟩
theorem tw17120717675232556711:True:=⟨⟩
theorem tw559128479488133937:True:=⟨⟩
theorem tw4536449543810175825:True:=⟨⟩
theorem tw2476758669561071222:True:=⟨⟩
theorem tw9053796524388284001:True:=⟨⟩
theorem tw10348012373442929361:True:=⟨⟩
theorem tw16444868121731371530:True:=⟨⟩
theorem tw1249589985374655111:True:=⟨⟩
theorem tw10199778347563873573:True:=⟨⟩
theorem tw13912937476687137861:True:=⟨⟩
theorem tw11475260302662045347:True:=⟨⟩
theorem tw11119939912899922103:True:=⟨⟩
theorem tw17464550773222917413:True:=⟨⟩
theorem tw7426492606738170621:True:=⟨⟩
theorem tw1779142474753894702:True:=⟨⟩
theorem tw12118400076232927019:True:=⟨⟩
theorem tw16470119897532933027:True:=⟨⟩
theorem tw10716531110365752895:True:=⟨⟩
theorem tw12223883174671412194:True:=⟨⟩
theorem tw7473813419481198979:True:=⟨⟩
theorem tw4209915840740221704:True:=⟨⟩
theorem tw11458762141089456847:True:=⟨⟩
theorem tw15328870563509475293:True:=⟨⟩
theorem tw13168708077853101517:True:=⟨⟩
theorem tw10442094138358836289:True:=⟨⟩
theorem tw1465740987800382834:True:=⟨⟩
theorem tw12653219793808861333:True:=⟨⟩
theorem tw6397432498038530183:True:=⟨⟩
theorem tw6943281431153836365:True:=⟨⟩
theorem tw14276867185098522458:True:=⟨⟩
theorem tw10032882151146335346:True:=⟨⟩
theorem tw2956075472191371401:True:=⟨⟩
theorem tw16126357144548485925:True:=⟨⟩
theorem tw653602398767079831:True:=⟨⟩
theorem tw1677213830646126632:True:=⟨⟩
theorem tw7298004331449653474:True:=⟨⟩
theorem tw13070473036188356888:True:=⟨⟩
theorem tw452571310712763407:True:=⟨⟩
theorem tw111657587866061821:True:=⟨⟩
theorem tw1122882111003358459:True:=⟨⟩
theorem tw6185023874371217744:True:=⟨⟩
theorem tw16836051907087260181:True:=⟨⟩
theorem tw3920544715636024954:True:=⟨⟩
theorem tw13705401153449494514:True:=⟨⟩
theorem tw3556796891641149670:True:=⟨⟩
theorem tw10905816578618005508:True:=⟨⟩
theorem tw1651013927534576106:True:=⟨⟩
theorem tw15976861306988330547:True:=⟨⟩
theorem tw213846329613550071:True:=⟨⟩
theorem tw725497746579781723:True:=⟨⟩
theorem tw16059667344704526805:True:=⟨⟩
theorem tw4020196238637314435:True:=⟨⟩
theorem tw8604586593060609467:True:=⟨⟩
theorem tw4516840783616001549:True:=⟨⟩
theorem tw13657068097474055679:True:=⟨⟩
theorem tw5423559906664620787:True:=⟨⟩
theorem tw3849694039368933876:True:=⟨⟩
theorem tw4703428649947355424:True:=⟨⟩
theorem tw10916895137683433174:True:=⟨⟩
theorem tw10287389488006857729:True:=⟨⟩
theorem tw3314626498392680270:True:=⟨⟩
theorem tw14720504392436144121:True:=⟨⟩
theorem tw2074054859978895707:True:=⟨⟩
theorem tw516303266333817160:True:=⟨⟩
theorem tw7173708701522986979:True:=⟨⟩
theorem tw1321658535823087318:True:=⟨⟩
theorem tw8595539978813404542:True:=⟨⟩
theorem tw12241876080031481885:True:=⟨⟩
theorem tw17031017581801204736:True:=⟨⟩
theorem tw17418587266516746301:True:=⟨⟩
theorem tw15362459361505902834:True:=⟨⟩
theorem tw11907704494377380611:True:=⟨⟩
theorem tw12176898185821201447:True:=⟨⟩
theorem tw8354862487718257947:True:=⟨⟩
theorem tw8868100934886073530:True:=⟨⟩
theorem tw15373611642289204971:True:=⟨⟩
theorem tw15249474912128256104:True:=⟨⟩
theorem tw13038524415164651219:True:=⟨⟩
theorem tw6545517770125188310:True:=⟨⟩
theorem tw11254603735382729734:True:=⟨⟩
theorem tw15181587244910848733:True:=⟨⟩
theorem tw16807102521714629070:True:=⟨⟩
theorem tw8434226494003807309:True:=⟨⟩
theorem tw2765089521755826329:True:=⟨⟩
theorem tw3062722547510195489:True:=⟨⟩
theorem tw15550996574027821394:True:=⟨⟩
theorem tw9984257057735498451:True:=⟨⟩
theorem tw6307893497313457080:True:=⟨⟩
theorem tw5384306833852786200:True:=⟨⟩
theorem tw4977793988700650284:True:=⟨⟩
theorem tw4575608410678401448:True:=⟨⟩
theorem tw4344424642434448939:True:=⟨⟩
theorem tw4053456239009924825:True:=⟨⟩
theorem tw3995681414576227509:True:=⟨⟩
theorem tw190531501139864027:True:=⟨⟩
theorem tw17488127486983130432:True:=⟨⟩
theorem tw16991647294441542809:True:=⟨⟩
theorem tw16449635408716050490:True:=⟨⟩
theorem tw15569069945312569801:True:=⟨⟩
theorem tw15467411082527357448:True:=⟨⟩
theorem tw14264946328650595870:True:=⟨⟩
theorem tw13780654288181446092:True:=⟨⟩
theorem tw12925911314037998621:True:=⟨⟩
theorem tw12420243356653025593:True:=⟨⟩
theorem tw12329912708850640285:True:=⟨⟩
theorem tw11980340446197992982:True:=⟨⟩
theorem tw11609499565623691134:True:=⟨⟩
theorem tw1085469993471885452:True:=⟨⟩
theorem tw10690364791734591876:True:=⟨⟩
theorem tw6711854186123891996:True:=⟨⟩
theorem tw10987349773129509513:True:=⟨⟩
theorem tw9818504286207825376:True:=⟨⟩
theorem tw6932003811017560678:True:=⟨⟩
theorem tw5922856553853956498:True:=⟨⟩
theorem tw16907208539881731428:True:=⟨⟩
theorem tw11443339826296456360:True:=⟨⟩
theorem tw5250738192699011754:True:=⟨⟩
theorem tw4856310419049439732:True:=⟨⟩
theorem tw2371393879790849733:True:=⟨⟩
theorem tw18116602144740826788:True:=⟨⟩
theorem tw13239505008296159615:True:=⟨⟩
theorem tw8799526897875043523:True:=⟨⟩
theorem tw7159687432931740690:True:=⟨⟩
end PySem.W.Fast
open PySem PySem.W PyProof.Rows
set_option maxRecDepth 100000 in
set_option maxHeartbeats 0 in
theorem PySem.Challenge.cw_flagroll_k44_things_in_cells_holds : PySem.Challenge.rw_flagroll_k44_things_in_cells.Holds := by
  w_on; o_law; k_head; (case hw =>w_witness2)
  k_fill
  refine L2.wV (l :=PySem.Challenge.rw_flagroll_k44_things_in_cells) (T :=Law.T) (n :=14) (f :=Law.Av) (x :=Law.Aw) rfl rfl ⟨fun _ =>rfl,by decide,by decide⟩ (fun w h Y =>PySem.W.kIn_of Y) ?F Law.holds
  case F =>
    intro w mg fa h KX G hmg
    refine' Law.all_mk KX G hmg (Law.dfo Law.c21 rfl (fun _ _ _ _ _ _ =>Law.ln1 fun _ =>rfl) KX G ?a21 ?l21 ?e21 ?k21) (Law.dfo Law.c22 rfl (fun _ _ _ _ _ _ =>Law.ln2 fun _ _ =>rfl) KX G ?a22 ?l22 ?e22 ?k22) (Law.dfo Law.c23 rfl (fun _ _ _ _ _ _ =>Law.ln2 fun _ _ =>rfl) KX G ?a23 ?l23 ?e23 ?k23) (Law.dfo Law.c25 rfl (fun _ _ _ _ _ _ =>Law.ln4 fun _ _ _ _ =>rfl) KX G ?a25 ?l25 ?e25 ?k25) (Law.dfo Law.c26 rfl (fun _ _ _ _ _ _ =>Law.ln3 fun _ _ _ =>rfl) KX G ?a26 ?l26 ?e26 ?k26) (Law.dfo Law.c27 rfl (fun _ _ _ _ _ _ =>Law.ln3 fun _ _ _ =>rfl) KX G ?a27 ?l27 ?e27 ?k27) (Law.dfo Law.c28 rfl (fun _ _ _ _ _ _ =>Law.ln3 fun _ _ _ =>rfl) KX G ?a28 ?l28 ?e28 ?k28) (Law.dfo Law.c24 rfl (fun _ _ _ _ _ _ =>Law.ln4 fun _ _ _ _ =>rfl) KX G ?a24 ?l24 ?e24 ?k24) (Law.dfo Law.c29 rfl (fun _ _ _ _ _ _ =>Law.ln4 fun _ _ _ _ =>rfl) KX G ?a29 ?l29 ?e29 ?k29) (Law.dfo Law.c48 rfl (fun _ _ _ _ _ _ =>Law.ln4 fun _ _ _ _ =>rfl) KX G ?a48 ?l48 ?e48 ?k48) (Law.dfo Law.c30 rfl (fun _ _ _ _ _ _ =>Law.ln3 fun _ _ _ =>rfl) KX G ?a30 ?l30 ?e30 ?k30) (Law.dfo Law.c31 rfl (fun _ _ _ _ _ _ =>Law.ln3 fun _ _ _ =>rfl) KX G ?a31 ?l31 ?e31 ?k31) (Law.dfo Law.c32 rfl (fun _ _ _ _ _ _ =>Law.ln2 fun _ _ =>rfl) KX G ?a32 ?l32 ?e32 ?k32) (Law.dfo Law.c33 rfl (fun _ _ _ _ _ _ =>Law.ln3 fun _ _ _ =>rfl) KX G ?a33 ?l33 ?e33 ?k33) (Law.dfo Law.c34 rfl (fun _ _ _ _ _ _ =>Law.ln2 fun _ _ =>rfl) KX G ?a34 ?l34 ?e34 ?k34) (Law.dfo Law.c35 rfl (fun _ _ _ _ _ _ =>Law.ln3 fun _ _ _ =>rfl) KX G ?a35 ?l35 ?e35 ?k35) (Law.dfo Law.c36 rfl (fun _ _ _ _ _ _ =>Law.ln4 fun _ _ _ _ =>rfl) KX G ?a36 ?l36 ?e36 ?k36) (Law.dfo Law.c37 rfl (fun _ _ _ _ _ _ =>Law.ln6 fun _ _ _ _ _ _ =>rfl) KX G ?a37 ?l37 ?e37 ?k37) (Law.dfo Law.c38 rfl (fun _ _ _ _ _ _ =>Law.ln7 fun _ _ _ _ _ _ _ =>rfl) KX G ?a38 ?l38 ?e38 ?k38) (Law.dfo Law.c39 rfl (fun _ _ _ _ _ _ =>Law.ln4 fun _ _ _ _ =>rfl) KX G ?a39 ?l39 ?e39 ?k39) (Law.dfo Law.c40 rfl (fun _ _ _ _ _ _ =>Law.ln2 fun _ _ =>rfl) KX G ?a40 ?l40 ?e40 ?k40) (Law.dfo Law.c41 rfl (fun _ _ _ _ _ _ =>Law.ln2 fun _ _ =>rfl) KX G ?a41 ?l41 ?e41 ?k41) (Law.dfo Law.c44 rfl (fun _ _ _ _ _ _ =>Law.ln3 fun _ _ _ =>rfl) KX G ?a44 ?l44 ?e44 ?k44) (Law.dfo Law.c45 rfl (fun _ _ _ _ _ _ =>Law.ln3 fun _ _ _ =>rfl) KX G ?a45 ?l45 ?e45 ?k45) (Law.dfo Law.c46 rfl (fun _ _ _ _ _ _ =>Law.ln5 fun _ _ _ _ _ =>rfl) KX G ?a46 ?l46 ?e46 ?k46) (Law.dfo Law.c42 rfl (fun _ _ _ _ _ _ =>Law.ln2 fun _ _ =>rfl) KX G ?a42 ?l42 ?e42 ?k42) (Law.dfo Law.c43 rfl (fun _ _ _ _ _ _ =>Law.ln1 fun _ =>rfl) KX G ?a43 ?l43 ?e43 ?k43) (Law.dfo Law.c47 rfl (fun _ _ _ _ _ _ =>Law.ln3 fun _ _ _ =>rfl) KX G ?a47 ?l47 ?e47 ?k47) ?a49 ?l49 ?e49 ?k49 ?z0 ?z1 ?z2 ?z3 ?z4 ?z5 ?z6 ?z7 ?z8 ?z9 ?z10 ?z11 ?z12 ?z13 ?z14 ?z15 ?z16 ?z17 ?z18 ?z19 ?z20
    (case a21|l21|e21|k21|a22|l22|e22|k22|a23|l23|e23|k23|a25|l25|e25|k25|a26|l26|e26|k26|a27|l27|e27|k27|a28|l28|e28|k28|a24|l24|e24|k24|a29|l29|e29|k29|a48|l48|e48|k48|a30|l30|e30|k30|a31|l31|e31|k31|a32|l32|e32|k32|a33|l33|e33|k33|a34|l34|e34|k34|a35|l35|e35|k35|a36|l36|e36|k36|a37|l37|e37|k37|a38|l38|e38|k38|a39|l39|e39|k39|a40|l40|e40|k40|a41|l41|e41|k41|a44|l44|e44|k44|a45|l45|e45|k45|a46|l46|e46|k46|a42|l42|e42|k42|a43|l43|e43|k43|a47|l47|e47|k47|a49|l49|e49|k49|z0|z1|z2|z3|z4|z5|z6|z7|z8|z9|z10|z11|z12|z13|z14|z15|z16|z17|z18|z19|z20=>k_is)
#print axioms PySem.Challenge.cw_flagroll_k44_things_in_cells_holds
