import PyProof.Rows.All
import Wide.All
import OpenK.AllK
import Wide.FinOn
import Lean
import PyProof.EqAt
import PyProof.EqKinds
import PyProof.TupleCall
import PyProof.NeKinds
import KE.KRevIter
import KE.KSortTup
import Wide.Txt2
import PyProof.FString4
import KE.KIntText
import PyProof.ZipIter
import PyProof.TupleIter
import PyProof.WalksMore
import PyProof.Rows.SortShell
import KE.KDictSum
import PyProof.Rows.SortStr
import PyProof.Rows.SetFrom
import PyProof.DictUpdate
import KE.KDictOf
import PyProof.AttrMissSeq
import KE.KDictList
import KE.KDictIter
import PyProof.Rows.SortWalk
import PyProof.EnumMake
import PyProof.EnumFor
import PyProof.Rows.EnumRows
import PyProof.Rows.CallKw2
import PyProof.Draws
import PyProof.MeetsSeq
import PyProof.ListRange
import KE.KIsAll
import PyProof.ExcArgsOwn
import PyProof.ExcAttrAll.ValueError
import OpenK.KDescr
import PyProof.ExcInit
import PyProof.ExcClass2
import PyProof.InstStoreFacts
import PyProof.StationsW
import OpenK.KMake
import OpenK.KOwn
import KE.KTryMore
import OpenK.KRaise
import PyProof.RulesDel
import PyProof.RulesAs
import PyProof.Rows.Catch
import PySem.Challenge.RW_flagroll_k74_moments_in_a_tree
set_option genSizeOf false
set_option genInjectivity false
local macro_rules | `(∅) =>`(by decide +kernel)
local macro_rules | `(abbrev $i:declId $s:optDeclSig $v:declVal) =>`(noncomputable def $i:declId $s:optDeclSig $v:declVal)
open PySem.W (Frag)
def a_:type_of% @Bool.and_eq_true:=@Bool.and_eq_true
def b_:type_of% @if_neg:=@if_neg
def c_:type_of% @List.map_cons:=@List.map_cons
def d_:type_of% @if_pos:=@if_pos
def e_:type_of% @List.cons_append:=@List.cons_append
def f_:type_of% @LawfulBEq.eq_of_beq:=@LawfulBEq.eq_of_beq
def g_:type_of% @List.nodup_append:=@List.nodup_append
def h_:type_of% @List.length_map:=@List.length_map
def i_:type_of% @PySem.wpAny_bind:=@PySem.wpAny_bind
def j_:type_of% @List.mem_append_left:=@List.mem_append_left
def k_:type_of% @List.mem_append_right:=@List.mem_append_right
def l_:type_of% @List.mem_cons:=@List.mem_cons
def m_:type_of% @PySem.Heap.lt_size:=@PySem.Heap.lt_size
def n_:type_of% @Nat.le_refl:=@Nat.le_refl
def o_:type_of% @PySem.wpAny_pure:=@PySem.wpAny_pure
def p_:type_of% @of_decide_eq_true:=@of_decide_eq_true
def q_:type_of% @List.nodup_cons:=@List.nodup_cons
def r_:type_of% @PySem.Heap.get?_push_of_some:=@PySem.Heap.get?_push_of_some
def s_:type_of% @Nat.ne_of_lt:=@Nat.ne_of_lt
def t_:type_of% @List.mem_append:=@List.mem_append
def u_:type_of% @List.length_append:=@List.length_append
def v_:type_of% @List.getElem?_eq_some_iff:=@List.getElem?_eq_some_iff
def w_:type_of% @List.size_toArray:=@List.size_toArray
def x_:type_of% @decide_eq_false:=@decide_eq_false
def y_:type_of% @List.append_assoc:=@List.append_assoc
def z_:type_of% @List.getElem?_map:=@List.getElem?_map
def A_:type_of% @decide_eq_true:=@decide_eq_true
def B_:type_of% @Option.some.inj:=@Option.some.inj
def C_:type_of% @Bool.false_ne_true:=@Bool.false_ne_true
def D_:type_of% @PySem.Heap.get?_push_size:=@PySem.Heap.get?_push_size
def E_:type_of% @List.not_mem_nil:=@List.not_mem_nil
def F_:type_of% @PySem.W.mg_none_of:=@PySem.W.mg_none_of
def G_:type_of% @List.map_append:=@List.map_append
def H_:type_of% @List.mem_cons_of_mem:=@List.mem_cons_of_mem
def I_:type_of% @List.all_eq_true:=@List.all_eq_true
def J_:type_of% @Nat.lt_of_lt_of_le:=@Nat.lt_of_lt_of_le
def K_:type_of% @List.getElem?_eq_getElem:=@List.getElem?_eq_getElem
def L_:type_of% @Bool.or_eq_true:=@Bool.or_eq_true
def M_:type_of% @Option.map_eq_some_iff:=@Option.map_eq_some_iff
def N_:type_of% @PySem.wpAny_holding:=@PySem.wpAny_holding
def O_:type_of% @List.length_take:=@List.length_take
def P_:type_of% @PySem.wpAny_Call_Name_kw:=@PySem.wpAny_Call_Name_kw
def Q_:type_of% @Nat.le_trans:=@Nat.le_trans
def R_:type_of% @List.append_nil:=@List.append_nil
def S_:type_of% @List.mem_of_getElem?:=@List.mem_of_getElem?
def T_:type_of% @List.Perm.append_left:=@List.Perm.append_left
def U_:type_of% @List.length_range:=@List.length_range
def V_:type_of% @List.map_map:=@List.map_map
def W_:type_of% @List.perm_append_comm:=@List.perm_append_comm
def X_:type_of% @List.mem_range:=@List.mem_range
def Y_:type_of% @Nat.zero_le:=@Nat.zero_le
def Z_:type_of% @List.mem_singleton:=@List.mem_singleton
def aaa:type_of% @List.getD_eq_getElem?_getD:=@List.getD_eq_getElem?_getD
def aab:type_of% @Bool.and_eq_true_iff:=@Bool.and_eq_true_iff
def aad:type_of% @List.singleton_append:=@List.singleton_append
def aae:type_of% @PyProof.Rows.callWith_type1:=@PyProof.Rows.callWith_type1
def aaf:type_of% @PySem.Heap.size_push:=@PySem.Heap.size_push
def aag:type_of% @PySem.wpAny_pyIter_list:=@PySem.wpAny_pyIter_list
def aah:type_of% @List.lookup_cons:=@List.lookup_cons
def aai:type_of% @List.mem_cons_self:=@List.mem_cons_self
def aaj:type_of% @List.length_singleton:=@List.length_singleton
def aak:type_of% @List.getElem?_set_ne:=@List.getElem?_set_ne
def aal:type_of% @Array.length_toList:=@Array.length_toList
def aam:type_of% @List.getElem?_append_left:=@List.getElem?_append_left
def aan:type_of% @List.getElem?_append_right:=@List.getElem?_append_right
open Option renaming some → Γ
open Bool renaming true → Δ
open Bool renaming false → Θ
open Option renaming none → Ξ
open PySem renaming Value → Φ
open PySem renaming Addr → Ψ
open PySem renaming Shared → Ω
open PySem renaming World → Α
open PySem renaming Program → Β
open PySem renaming sizeLine → Ε
open PySem renaming mainGlobals → Ζ
open PySem renaming Around → Η
open PySem renaming wpAny → Ι
open PySem renaming model → Κ
open PySem renaming starEach → Μ
open PySem renaming FuncData → Ν
open PySem.Str renaming ofString → Ο
open List renaming replicate → Ρ
open PySem.NameKind renaming free → Τ
open PySem.Builtin.List renaming listExtendWith → Υ
open PySem.Builtin.SmallTypes renaming nextOf → Χ
open PySem.Builtin.SmallTypes renaming ownedTupleIsFree → ζ
open PySem.Value renaming ref → η
open PySem.Obj renaming mapSeq → θ
namespace L2
def zE:type_of% @PySem.Expr.casesOn.{0}:=@PySem.Expr.casesOn.{0}
def zS:type_of% @PySem.Stmt.casesOn.{0}:=@PySem.Stmt.casesOn.{0}
def zL:type_of% @List.casesOn.{0,0}:=@List.casesOn.{0,0}
def zO:type_of% @Option.casesOn.{0,0}:=@Option.casesOn.{0,0}
def zB:type_of% @Bool.casesOn.{0}:=@Bool.casesOn.{0}
end L2
set_option maxHeartbeats 8000000
set_option Elab.async false
set_option linter.all false
set_option maxRecDepth 100000
namespace L2
open PySem PySem.Spec PyProof.Rows
@[reducible]def Key:=Sum Int Str
abbrev oF:Key->Φ->Bool
 |.inl k,v=>Value.isInt k v
 |.inr x,v=>Value.isStrOf x v
abbrev E5 (w:Α):Key->Int
 |.inl k=>hashInt k
 |.inr x=>hashStr w x
def iP:∀ {k:Key}{v:Φ},oF k v=Δ->(∃i t,k=Sum.inl i/\v=Value.int i t)∨(∃x t,k=Sum.inr x/\v=Value.str x t)
 |.inl i,v,h=>by obtain⟨t,e⟩:=Value.isInt_shape (k:=i) (v:=v) h;exact .inl ⟨i,t,rfl,e⟩
 |.inr x,v,h=>by obtain⟨t,e⟩:=Value.isStrOf_shape (x:=x) (v:=v) h;exact .inr ⟨x,t,rfl,e⟩
def tW (i:Int)(t:Tok):oF (.inl i) (.int i t)=Δ:=by simp[oF,Value.isInt]
def tX (x:Str)(t:Tok):oF (.inr x) (.str x t)=Δ:=by simp[oF,Value.isStrOf]
def AK (a b:Int):decide ((Sum.inl a:Key)=Sum.inl b)=(a == b):=by
 by_cases e:a=b
 ·subst e;simp
 ·have h:¬(Sum.inl a:Key)=Sum.inl b:=λq=>e (Sum.inl.inj q);rw[x_ h];exact(beq_eq_false_iff_ne.mpr e).symm
def AL (a b:Str):decide ((Sum.inr a:Key)=Sum.inr b)=decide (a=b):=by
 by_cases e:a=b
 ·subst e;simp
 ·have h:¬(Sum.inr a:Key)=Sum.inr b:=λq=>e (Sum.inr.inj q);rw[x_ h,x_ e]
def AM (a:Int)(b:Str):decide ((Sum.inl a:Key)=Sum.inr b)=Θ:=x_ (λq=>nomatch q)
def AN (a:Str)(b:Int):decide ((Sum.inr a:Key)=Sum.inl b)=Θ:=x_ (λq=>nomatch q)
abbrev iV (prog:Β)(w:Α):PySem.KeyKind prog w Key where
 is:=oF
 hash:=E5 w
 inj:=λv a b ha hb=>by
  rcases iP ha with⟨i,t,rfl,rfl⟩|⟨x,t,rfl,rfl⟩
  ·rcases iP hb with⟨j,u,rfl,e⟩|⟨y,u,rfl,e⟩
   ·injection e with e1 _;rw[e1]
   ·exact nomatch e
  ·rcases iP hb with⟨j,u,rfl,e⟩|⟨y,u,rfl,e⟩
   ·exact nomatch e
   ·injection e with e1 _;rw[e1]
 byValue:=λk v h=>by rcases iP h with⟨i,t,rfl,rfl⟩|⟨x,t,rfl,rfl⟩<;>rfl
 pyHash:=λhv h=>by
  rcases iP hv with⟨i,t,rfl,rfl⟩|⟨x,t,rfl,rfl⟩
  ·exact wpAny_pyHash_int h
  ·exact wpAny_pyHash_str h
 eqBool:=λhu hv h=>by
  rcases iP hu with⟨i,t,rfl,rfl⟩|⟨x,t,rfl,rfl⟩
  ·rcases iP hv with⟨j,u,rfl,rfl⟩|⟨y,u,rfl,rfl⟩
   ·rw[AK]at h;exact wpAny_eqBool_int h
   ·rw[AM]at h;exact SeqAt.EqAt.int_str i t y u _ _ _ _ h
  ·rcases iP hv with⟨j,u,rfl,rfl⟩|⟨y,u,rfl,rfl⟩
   ·rw[AN]at h;exact SeqAt.EqAt.str_int x t j u _ _ _ _ h
   ·rw[AL]at h;exact wpAny_eqBool_str h
 «strs»:=λk x t v h=>by
  rcases iP h with⟨i,u,rfl,e⟩|⟨y,u,rfl,e⟩
  ·exact nomatch e
  ·injection e with e1 _;subst e1;cases v<;>rfl
def p9 (prog:Β)(w:Α)(i:Int)(t:Tok):(iV prog w).is (.inl i) (.int i t)=Δ:=tW i t
def qa (prog:Β)(w:Α)(x:Str)(t:Tok):(iV prog w).is (.inr x) (.str x t)=Δ:=tX x t
inductive V where
 | Gx|bl (b:Bool)|int (i:Int)|str (x:Str)|Nl (b:Array UInt8)|QS (b:UInt64)|ref (a:Ψ)|ty (n:String)
 deriving DecidableEq
def RelV:V->Φ->Prop
 |.Gx,u=>u=Value.none
 |.bl b,u=>u=Value.bool b
 |.int i,u=>∃t,u=Value.int i t
 |.str x,u=>∃t,u=Value.str x t
 |.Nl b,u=>∃t,u=Value.bytes b t
 |.QS b,u=>∃t,u=Value.float b t
 |.ref a,u=>u=η a
 |.ty n,u=>u=Value.type n
@[reducible]def _root_.Ë:=List V
@[reducible]def Vals:Ë->List Φ->Prop:=Paired RelV
theorem Vals.length (r:Vals xs us):xs.length=us.length:=Paired.length r
theorem Vals.get:∀ {xs:Ë}{us:List Φ}{i:Nat}{x:V},Vals xs us->xs[i]? = Γ x->∃u,us[i]? = Γ u/\RelV x u
 |_,_,_,_,.nil,e=>by simp at e
 |_,_,0,_,.cons r _,e=>by simp at e;subst e;exact⟨_,rfl,r⟩
 |_,_,i+1,x,.cons _ t,e=>by obtain⟨u,h1,h2⟩:=Vals.get (i:=i) (x:=x) t (by simpa using e);exact⟨u,by simpa using h1,h2⟩
theorem Vals.set (r:RelV x u):∀ {xs:Ë}{us:List Φ} (i:Nat),Vals xs us->Vals (xs.set i x) (us.set i u)
 |_,_,_,.nil=>.nil
 |_,_,0,.cons _ t=>.cons r t
 |_,_,i+1,.cons q t=>.cons q (Vals.set r i t)
theorem Vals.append:∀ {xs ys:Ë}{us ws:List Φ},Vals xs us->Vals ys ws->Vals (xs++ys) (us++ws)
 |_,_,_,_,.nil,s=>s
 |_,_,_,_,.cons r t,s=>.cons r (Vals.append t s)
theorem Vals.take:∀ {xs:Ë}{us:List Φ} (n:Nat),Vals xs us->Vals (xs.take n) (us.take n)
 |_,_,0,_=>.nil
 |_,_,_+1,.nil=>.nil
 |_,_,n+1,.cons r t=>.cons r (Vals.take n t)
theorem Vals.drop:∀ {xs:Ë}{us:List Φ} (n:Nat),Vals xs us->Vals (xs.drop n) (us.drop n)
 |_,_,0,r=>r
 |_,_,_+1,.nil=>.nil
 |_,_,n+1,.cons _ t=>Vals.drop n t
def kC:Option V->Option Φ->Prop
 |some v,Γ u=>RelV v u
 |none,Ξ=>True
 |_,_=>False
def KV {κ:Type}:List (κ×V)->List (κ×Φ)->Prop:=Paired λ(p:κ×V) (q:κ×Φ)=>p.1=q.1/\RelV p.2 q.2
abbrev kV:Key->V
 |.inl i=>.int i
 |.inr x=>.str x
inductive HO where
 | lst (xs:Ë)
 | tup (xs:Ë)
 | dK (kvs:List (Key×V))|dT (kvs:List (List Key×V))
 | set (S:Int->Bool) (n:Nat)
 | ins (C dx:Ψ) (fs:List (Str×V))
 | own (x:Ψ)
 | xd (fs:List (Str×V))
 | met (f x:Ψ)
 | Ln (lo hi:Int)
 | Gy (o:Obj) (u:HO)
 | MV (ps:Array Φ)
 | ext (φ:Heap->Prop)
@[reducible]def Hp:=Ψ->Option HO
abbrev upd (H:Hp)(a:Ψ)(o:HO):Hp:=λb=>if b=a then Γ o else H b
def gk {o:HO}:upd H a o a=Γ o:=by unfold upd;rw[d_ rfl]
def dN {o:HO}(h:b≠a):upd H a o b=H b:=by unfold upd;rw[b_ h]
def CU {H:Hp}{a b:Ψ}{o u:HO}(h:H a=Γ o)(h':H b=Γ u)(d:o≠u):a≠b:=by intro e;subst e;rw[h]at h';exact d (B_ h')
def iG {H:Hp}  {o:HO}(h:H a=Γ o)(h':H b=Ξ):a≠b:=by intro e;subst e;rw[h]at h';cases h'
section
variable (P:Β)(w:Α)
def iQ (H:Hp)(h:Heap)(a:Ψ):HO->Prop
 |.lst xs=>xs.length<=Ε/\∃(its:List Φ) (n:Nat),Vals xs its/\h.get? a=Γ {cls:=.type "list",data:=.seq its.toArray n}
 |.tup xs=>xs.length<=Ε/\∃its:List Φ,Vals xs its/\IsTup h a its.toArray
 |.dK kvs=>kvs.length<=Ε/\(a == sysModules)=Θ/\∃vs,KV kvs vs/\h.DictOf (iV P w) a vs
 |.dT kvs=>kvs.length<=Ε/\(a == sysModules)=Θ/\∃xs:List (List Key×Ψ×Φ),
   Paired (λ(p:List Key×V) (q:List Key×Ψ×Φ)=>p.1=q.1/\H q.2.1=Γ (.tup (p.1.map kV))/\RelV p.2 q.2.2) kvs xs/\
   ∃o es ep,h.get? a=Γ o/\o.ExactDict/\o.data=.dict es ep/\es.toList=xs.map (entryOfKey (tupleKind (iV P w)))/\(xs.map (·.1)).Nodup
 |.set S n=>h.SetOf (intKind P w) a S n
 |.ins C dx fs=>H dx=Γ (.own a)/\fs.length<=1000/\dx≠a/\h.get? a=Γ (PySem.W.instObj C dx)/\
   ∃mA,h.Ns1 dx mA/\(∀f,kC (fs.lookup f) (mA f))/\PySem.Within mA (fs.map (·.1))
 |.own _=>∃o,h.get? a=Γ o
 |.xd fs=>∃mA,h.Ns1 a mA/\∀f,kC (fs.lookup f) (mA f)
 |.Ln lo hi=>∃t u v,h.get? a=Γ {cls:=.type "range",data:=.fields #[.int lo t,.int hi u,.int 1 v]}
 |.Gy o u=>h.get? a=Γ o/\iQ H h a u
 |.MV ps=>h.get? a=Γ {cls:=.none,data:=.fields ps}
 |.met f x=>h.get? a=Γ (PySem.W.methodObj (.ref f) (.ref x))
 |.ext φ=>φ h/\(∃o,h.get? a=Γ o)/\∀h1 h2:Heap,φ h1->(∀o,h1.get? a=Γ o->h2.get? a=Γ o)->φ h2
def Hv (H:Hp)(h:Heap):Prop:=∀a o,H a=Γ o->iQ P w H h a o
end
theorem iQ.lt (x:iQ P w H h a o):a < h.objs.size:=by
 cases o with
 |lst xs=>obtain⟨_,_,_,_,e⟩:=x;exact m_ e
 |tup xs=>obtain⟨_,_,_,p⟩:=x;exact p.lt
 |dK kvs=>obtain⟨_,_,_,_,o,_,_,e,_⟩:=x;exact m_ e
 |dT kvs=>obtain⟨_,_,_,_,o,_,_,e,_⟩:=x;exact m_ e
 |set S n=>obtain⟨o,_,_,_,e,_⟩:=x;exact m_ e
 |ins C dx fs=>obtain⟨_,_,_,e,_⟩:=x;exact m_ e
 |own y=>obtain⟨_,e⟩:=x;exact m_ e
 |xd fs=>obtain⟨_,⟨_,_,_,e,_⟩,_⟩:=x;exact m_ e
 |Ln lo hi=>obtain⟨_,_,_,e⟩:=x;exact m_ e
 |Gy ob u=>obtain⟨e,_⟩:=x;exact m_ e
 |MV ps=>exact m_ (show h.get? a=Γ _ from x)
 |met f y=>exact m_ (show h.get? a=Γ _ from x)
 |ext φ=>obtain⟨_,⟨_,e⟩,_⟩:=x;exact m_ e
theorem Paired.NR:∀ {Pn:List α}{Po:List β},Paired F Pn Po->(∀a b,F a b->G a b)->Paired G Pn Po
 |_,_,.nil,_=>.nil
 |_,_,.cons r t,f=>.cons (f _ _ r) (Paired.NR t f)
def iQ.IK (x:iQ P w H h a o)(k:∀b u,(b=a∨H b=Γ (.own a))->h.get? b=Γ u->h'.get? b=Γ u)
  (ho:∀b,H b=Γ (.own a)->H' b=Γ (.own a)) (ht:∀b xs,H b=Γ (.tup xs)->H' b=Γ (.tup xs)):iQ P w H' h' a o:=by
 induction o with
 |lst xs=>obtain⟨z,its,n,r,e⟩:=x;exact⟨z,its,n,r,k _ _ (.inl rfl) e⟩
 |tup xs=>obtain⟨z,its,r,ob,e,c⟩:=x;exact⟨z,its,r,ob,k _ _ (.inl rfl) e,c⟩
 |dK kvs=>obtain⟨z,y,vs,r,ob,es,ep,e,c⟩:=x;exact⟨z,y,vs,r,ob,es,ep,k _ _ (.inl rfl) e,c⟩
 |dT kvs=>obtain⟨z,y,xs,r,ob,es,ep,e,c⟩:=x;exact⟨z,y,xs,Paired.NR r λp q z=>⟨z.1,ht _ _ z.2.1,z.2.2⟩,ob,es,ep,k _ _ (.inl rfl) e,c⟩
 |set S n=>obtain⟨ob,es,ep,t,e,c⟩:=x;exact⟨ob,es,ep,t,k _ _ (.inl rfl) e,c⟩
 |ins C dx fs=>obtain⟨d,z,ne,e,mA,⟨od,es,ep,e2,c⟩,r⟩:=x;exact⟨ho _ d,z,ne,k _ _ (.inl rfl) e,mA,⟨od,es,ep,k _ _ (.inr d) e2,c⟩,r⟩
 |own y=>obtain⟨ob,e⟩:=x;exact⟨ob,k _ _ (.inl rfl) e⟩
 |xd fs=>obtain⟨mA,⟨od,es,ep,e,c⟩,r⟩:=x;exact⟨mA,⟨od,es,ep,k _ _ (.inl rfl) e,c⟩,r⟩
 |Ln lo hi=>obtain⟨t,u,v,e⟩:=x;exact⟨t,u,v,k _ _ (.inl rfl) e⟩
 |Gy ob u ih=>obtain⟨e,q⟩:=x;exact⟨k _ _ (.inl rfl) e,ih q⟩
 |MV ps=>have e:h.get? a=Γ {cls:=.none,data:=.fields ps}:=x;show h'.get? a=Γ {cls:=.none,data:=.fields ps};exact k a _ (.inl rfl) e
 |met f y=>have e:h.get? a=Γ (PySem.W.methodObj (.ref f) (.ref y)):=x;show h'.get? a=Γ (PySem.W.methodObj (.ref f) (.ref y));exact k a _ (.inl rfl) e
 |ext φ=>obtain⟨p,⟨o,e⟩,st⟩:=x;exact⟨st _ _ p λo q=>k _ _ (.inl rfl) q,⟨o,k _ _ (.inl rfl) e⟩,st⟩
theorem Hv.lt (x:Hv P w H h)(e:H a=Γ o):a < h.objs.size:=(x a o e).lt
def Hv.fresh (x:Hv P w H h)(e:h.objs.size<=a):H a=Ξ:=by
 cases q:H a with
 |none=>rfl
 |some u=>exact absurd (J_ (x.lt q) e) (Nat.lt_irrefl _)
def Hv.kept (x:Hv P w H h)(k:∀b u,h.get? b=Γ u->h'.get? b=Γ u):Hv P w H h':=λa o e=>
 (x a o e).IK (λb u _ q=>k b u q) (λ_ q=>q) λ_ _ q=>q
def Hv.laid (x:Hv P w H h)(k:∀b u,h.get? b=Γ u->h'.get? b=Γ u)(hp:h.objs.size<=a)(new:iQ P w (upd H a o) h' a o):Hv P w (upd H a o) h':=λb u e=>by
 have hn:=x.fresh hp;by_cases hb:b=a
 ·subst hb;rw[gk]at e;cases e;exact new
 ·rw[dN hb]at e;exact(x b u e).IK (λc v _ q=>k c v q) (λc q=>by rw[dN (iG q hn)];exact q) λc xs q=>by rw[dN (iG q hn)];exact q
def Rd (H:Hp)(a:Ψ)(u:HO):Prop:=H a=Γ u∨∃o,H a=Γ (.Gy o u)
def Rd.ok (r:Rd H a u)(x:Hv P w H h):iQ P w H h a u:=by
 rcases r with r|⟨o,r⟩
 ·exact x a u r
 ·obtain⟨_,q⟩:=x a _ r;exact q
def Pp:Option HO->Prop
 |some (.lst _)=>True
 |some (.dK _)=>True
 |some (.dT _)=>True
 |some (.set _ _)=>True
 |some (.ins _ _ _)=>True
 |some (.ext _)=>True
 |_=>False
def Hv.write (ok:Hv P w H h)(mu:Pp (H x))(he:e=x∨H e=Γ (.own x))(k:∀b u,b≠e->h.get? b=Γ u->h'.get? b=Γ u)(OV:∃u,h'.get? e=Γ u)
  (new:iQ P w (upd H x o') h' x o'):Hv P w (upd H x o') h':=λb u q=>by
 have lq:∀c y,H c=Γ (.own y)->c≠x:=λc y r z=>by subst z;rw[r]at mu;exact mu
 have RG:∀c xs,H c=Γ (.tup xs)->c≠x:=λc xs r z=>by subst z;rw[r]at mu;exact mu
 by_cases hb:b=x
 ·subst hb;rw[gk]at q;cases q;exact new
 ·rw[dN hb]at q;by_cases NT:b=e
  ·have q':H b=Γ (.own x):=by
    rcases he with z|z
    ·exact absurd (NT.trans z) hb
    ·rw[NT];exact z
   rw[q]at q';cases q';obtain⟨v,hv⟩:=OV;exact⟨v,by rw[NT];exact hv⟩
  ·refine(ok b u q).IK (λc v hc r=>k c v ?_ r) (λc r=>by rw[dN (lq c b r)];exact r) λc xs r=>by rw[dN (RG c xs r)];exact r
   rcases hc with rfl|hc
   ·exact NT
   ·rintro rfl;rcases he with z|z
    ·exact lq c b hc z
    ·rw[hc]at z;cases z;exact hb rfl
@[reducible]def _root_.È:=List Ψ
structure Un (fs ex:È)(H H':Hp)(h h':Heap):Prop where
 keep:∀b o,h.get? b=Γ o->H b=Ξ->b∉fs->b∉ex->h'.get? b=Γ o
 slot:∀b o,h.get? b=Γ o->H b=Ξ->b∈fs->b∉ex->∃sl,h'.get? b=Γ {o with slots:=sl}
 free:∀b o,h.get? b=Γ o->H b=Ξ->b∉ex->H' b=Ξ
 there:∀b o,h.get? b=Γ o->b∉ex->∃o',h'.get? b=Γ o'
 IL:∀b xs,H b=Γ (.tup xs)->H' b=Γ (.tup xs)
 HW:∀b o u,H b=Γ (.Gy o u)->H' b=Γ (.Gy o u)
 JC:∀b ps,H b=Γ (.MV ps)->∃more,H' b=Γ (.MV (ps++more))
def Un.any (u:Un fs ex H H1 h h1)  (q:h.get? b=Γ ob)(n:H b=Ξ)(hx:b∉ex):∃sl,h1.get? b=Γ {ob with slots:=sl}:=by
 by_cases hb:b∈fs
 ·exact u.slot b ob q n hb hx
 ·exact⟨ob.slots,u.keep b ob q n hb hx⟩
def Un.kept (k:∀b u,h.get? b=Γ u->h'.get? b=Γ u):Un fs ex H H h h':=
 ⟨λb ob q _ _ _=>k b ob q,λb ob q _ _ _=>⟨ob.slots,k b ob q⟩,λ_ _ _ n _=>n,λb ob q _=>⟨ob,k b ob q⟩,λ_ _ q=>q,λ_ _ _ q=>q,λ_ ps q=>⟨#[],by rw[q];simp⟩⟩
def Un.refl:Un fs ex H H h h:=Un.kept λ_ _ q=>q
def Un.laid {fs ex:È}{H:Hp}{h h':Heap}{a:Ψ}{o:HO}(k:∀b u,h.get? b=Γ u->h'.get? b=Γ u)(hp:h.objs.size<=a)(hn:H a=Ξ):Un fs ex H (upd H a o) h h' where
 keep:=λb u q _ _ _=>k b u q
 slot:=λb u q _ _ _=>⟨u.slots,k b u q⟩
 free:=λb u q n _=>by rw[dN (s_ (J_ (m_ q) hp))];exact n
 there:=λb u q _=>⟨u,k b u q⟩
 IL:=λb xs q=>by rw[dN (iG q hn)];exact q
 HW:=λb u xs q=>by rw[dN (iG q hn)];exact q
 JC:=λb ps q=>⟨#[],by rw[dN (iG q hn),q];simp⟩
def Un.write (mu:Pp (H x))(he:e=x∨H e=Γ (.own x))(k:∀b u,b≠e->h.get? b=Γ u->h'.get? b=Γ u)(OV:∃u,h'.get? e=Γ u):Un fs ex H (upd H x o) h h':=by
 have hx:∀b,H b=Ξ->b≠x:=λb n z=>by subst z;rw[n]at mu;exact mu
 have hb:∀b,H b=Ξ->b≠e:=λb n z=>by
  subst z;rcases he with r|r
  ·exact hx b n r
  ·rw[n]at r;cases r
 have hm:∀b u,H b=Γ u->¬Pp (Γ u)->b≠x:=λb u q nm z=>by subst z;rw[q]at mu;exact nm mu
 refine⟨λb u q n _ _=>k b u (hb b n) q,λb u q n _ _=>⟨u.slots,k b u (hb b n) q⟩,λb u q n _=>by rw[dN (hx b n)];exact n,λb u q _=>?_,
  λb xs q=>by rw[dN (hm b _ q λz=>z)];exact q,λb u xs q=>by rw[dN (hm b _ q λz=>z)];exact q,λb ps q=>⟨#[],by rw[dN (hm b _ q λz=>z),q];simp⟩⟩
 by_cases NT:b=e
 ·subst NT;exact OV
 ·exact⟨u,k b u NT q⟩
abbrev QT (h:Heap)(H:Hp):È:=(List.range h.objs.size).filter λa=>(H a).isSome
abbrev ph (h:Heap)(H:Hp):Heap:=PySem.W.hideAll h (QT h H)
def tY (h:Heap)(H:Hp):(ph h H).objs.size=h.objs.size:=PySem.W.hideAll_size _ _
def uH {o:Obj}(e:h.get? b=Γ o)(n:H b=Ξ):(ph h H).get? b=Γ o:=
 PySem.W.hideAll_get _ e λhm=>by have q:(H b).isSome=Δ:=(List.mem_filter.mp hm).2;rw[n]at q;simp at q
def xC {o:Obj}(e:(ph h H).get? b=Γ o):h.get? b=Γ o/\H b=Ξ:=by
 have e':h.get? b=Γ o:=PySem.W.of_hideAll (QT h H) e;refine⟨e',?_⟩;cases q:H b with
 |none=>rfl
 |some x=>have hm:b∈QT h H:=List.mem_filter.mpr ⟨X_.mpr (m_ e'),by simp[q]⟩;have z:(ph h H).get? b=Ξ:=PySem.W.hideAll_none (QT h H) hm;rw[z]at e;cases e
structure Mod (K:Frag)(mg:Str->Option Φ)(base:Heap):Prop where
 MD:K.In base
 glob:base.Ns Ζ mg
 blt:∃mb,base.Ns builtinsNs mb/\∀x:Str,x≠"__name__"->mb x=bootBuiltins x
 nolimit:base.NoLimit
@[reducible]def _root_.Á:=Ω->Prop
@[reducible]def _root_.Â:=List Str
structure Cx where
 prog:Β
 w:Α
 K:Frag
 mg:Str->Option Φ
 base:Heap
 A:Η
 N:Â
 Hz:Ω
 Kh:Hp
 env:Env
 outer:List Env
 stack:List Env
 ex:È
 fn:Str->Bool
 calm:Bool
 pn:List (Ψ×Obj)
 xe:Φ->Á
abbrev Jr (l:List Env):È:=l.filterMap (·.frame)
noncomputable abbrev Cx.fs (X:Cx):È:=Jr X.outer
def Pq (sc:Scope)(x:Str):Prop:=sc.names.lookup x=Γ .local∨sc.names.lookup x=Γ .cell∨sc.names.lookup x=Γ .free
def Loc (sc:Scope)(x:Str):Prop:=sc.names.lookup x=Γ .local∨sc.names.lookup x=Γ .cell
def Look (env:Env)(h:Heap)(m:Str->Option Φ)(x:Str)(u:Φ):Prop:=
 (env.kindOf x=Γ .local/\m x=Γ u)∨((env.kindOf x=Γ .cell∨env.kindOf x=Γ .free)/\∃c,env.cells.lookup x=Γ c/\h.IsCell c (Γ u))
structure Cx.Ok (X:Cx):Prop where
 mod:Mod X.K X.mg X.base
 kind:X.env.scope.kind=.function
 glob:X.env.globals=Ζ
 blt:X.env.builtins=builtinsNs
 above:X.Hz.heap.objs.size<=X.env.locals
 inj:∀x y c,X.env.cells.lookup x=Γ c->X.env.cells.lookup y=Γ c->x=y
 has:∀x,(X.env.kindOf x=Γ .cell∨X.env.kindOf x=Γ .free)->∃c,X.env.cells.lookup x=Γ c
 QU:∀x c,X.fn x=Δ->X.env.cells.lookup x=Γ c->X.Hz.heap.objs.size<=c
 hd:X.calm=Δ->X.A.handled=Ξ
 frames:X.A.frames=Γ X.stack
 Gq:X.stack=X.outer∨(X.stack=X.env::X.outer/\X.env.frame=Γ X.env.locals)
 RH:∀b∈X.ex,b≠X.env.locals/\∀x c,X.env.cells.lookup x=Γ c->c≠b
 bs:∀b o,X.base.get? b=Γ o->X.Hz.heap.get? b=Γ o/\X.Kh b=Ξ
 L3:X.base.objs.size<=X.Hz.heap.objs.size
 MW:∀b o,X.base.get? b=Γ o->b∉X.ex
 MX:∀b∈X.ex,b∉X.fs
 IA:X.Hz.heap.FunFrames X.base X.outer
 Lo:∀b∈X.fs,X.Kh b=Ξ
structure Inv (X:Cx)(pins:List (Ψ×Obj))(σ:List (Option V))(H:Hp)(s:Ω):Prop where
 ok:X.Ok
 os:s.os=X.Hz.os
 bare:AllBare s.gens
 base:Un X.fs X.ex X.Kh H X.Hz.heap s.heap
 loc:∃m,s.heap.Ns X.env.locals m/\∀(i:Nat) (x:Str) (v:V),X.N[i]? = Γ x->σ[i]? = Γ (Γ v)->Pq X.env.scope x->∃u,RelV v u/\Look X.env s.heap m x u
 cell:∀x c,X.env.cells.lookup x=Γ c->∃v,s.heap.IsCell c v
 free:H X.env.locals=Ξ
 Io:∀x c,X.env.cells.lookup x=Γ c->H c=Ξ
 pin:∀p∈X.pn++pins,s.heap.get? p.1=Γ p.2/\H p.1=Ξ/\p.1≠X.env.locals/\p.1∉X.fs/\∀v,p.2.data≠.cell v
 G3:Hv X.prog X.w H s.heap
 len:σ.length=X.N.length
def Cx.Ok.RJ {X:Cx}(ok:X.Ok)  {o:Obj}(e:X.base.get? b=Γ o):b∉X.fs:=λhb=>by have:=(ok.IA.mem hb).1;rw[e]at this;cases this
theorem Inv.bs (I:Inv X pins σ H s):∀b o,X.base.get? b=Γ o->s.heap.get? b=Γ o/\H b=Ξ:=λb o e=>
 ⟨I.base.keep b o (I.ok.bs b o e).1 (I.ok.bs b o e).2 (I.ok.RJ e) (I.ok.MW b o e),I.base.free b o (I.ok.bs b o e).1 (I.ok.bs b o e).2 (I.ok.MW b o e)⟩
def Inv.bk (I:Inv X pins σ H s):∀b o,X.base.get? b=Γ o->s.heap.get? b=Γ o:=λb o e=>(I.bs b o e).1
theorem Inv.mod (I:Inv X pins σ H s):Mod X.K X.mg X.base:=I.ok.mod
def Inv.Ig (I:Inv X pins σ H s):X.K.In s.heap:=I.ok.mod.MD.keeps I.bk
theorem Inv.lt (I:Inv X pins σ H s):X.env.locals < s.heap.objs.size:=let ⟨_,hn,_⟩:=I.loc;hn.lt
def Inv.sz (I:Inv X pins σ H s):X.Hz.heap.objs.size<=s.heap.objs.size:=Q_ I.ok.above (Nat.le_of_lt I.lt)
def Inv.RK (I:Inv X pins σ H s)  (h:s.heap.objs.size<=a):a∉X.fs:=λhb=>by obtain⟨_,o,ho,_⟩:=I.ok.IA.mem hb;exact absurd (J_ (m_ ho) (Q_ I.sz h)) (Nat.lt_irrefl _)
def Inv.NU (I:Inv X pins σ H s):∀x c,X.env.cells.lookup x=Γ c->c≠X.env.locals:=λx c e z=>by obtain⟨v,o,ho,hd⟩:=I.cell x c e;obtain⟨m,⟨o',es,ep,L4,Pr,_⟩,_⟩:=I.loc;rw[z,L4]at ho;cases ho;rw[Pr]at hd;cases hd
theorem Inv.IA (I:Inv X pins σ H s):s.heap.FunFrames X.base X.outer:=by
 have all:∀(l:List Env),(∀b∈Jr l,b∈X.fs)->X.Hz.heap.FunFrames X.base l->s.heap.FunFrames X.base l:=by
  intro l
  induction l with
  |nil=>intro _ _;trivial
  |cons env r ih=>intro hs hl;obtain⟨hk,⟨L,o,hf,hn,ho,hd⟩,hr⟩:=hl;have hL:L∈X.fs:=hs L (by unfold Jr;rw[List.filterMap_cons,hf];exact aai);obtain⟨sl,e⟩:=I.base.slot L o ho (I.ok.Lo L hL) hL λz=>I.ok.MX L z hL;exact⟨hk,⟨L,_,hf,hn,e,hd⟩,ih (λb hb=>hs b (by unfold Jr;rw[List.filterMap_cons,hf];exact H_ _ hb)) hr⟩
 exact all X.outer (λ_ hb=>hb) I.ok.IA
theorem Inv.stack (I:Inv X pins σ H s):s.heap.FunFrames X.base X.stack:=by
 rcases I.ok.Gq with e|⟨e,hf⟩
 ·rw[e];exact I.IA
 ·rw[e];obtain⟨m,hn,_⟩:=I.loc;refine .cons (by rw[I.ok.kind];decide) hf hn ?_ I.IA;exact Heap.get?_none_of_le (Q_ I.ok.L3 I.ok.above)
def Inv.KN (I:Inv X pins σ H s):∀b∈Jr X.stack,b∈X.env.locals::X.fs:=λb hb=>by
 rcases I.ok.Gq with e|⟨e,hf⟩
 ·rw[e]at hb;exact H_ _ hb
 ·rw[e]at hb;unfold Jr at hb;rw[List.filterMap_cons,hf]at hb;exact hb
def Inv.K7 (I:Inv X pins σ H s):∀b∈Jr X.stack,H b=Ξ:=λb hb=>by
 rcases l_.mp (I.KN b hb) with e|hb
 ·rw[e];exact I.free
 ·obtain⟨_,o,ho,_⟩:=I.ok.IA.mem hb;exact I.base.free b o ho (I.ok.Lo b hb) λz=>I.ok.MX b z hb
def Inv.step {X:Cx}{pins:List (Ψ×Obj)}{σ:List (Option V)}{H H':Hp}{s:Ω}{h':Heap}{g':Array GenState}{t':Nat}{d':Drawn}{ch:È}(I:Inv X pins σ H s)
  (LW:∀b∈ch,(b∈X.ex∨X.Hz.heap.objs.size<=b)/\b≠X.env.locals/\(∀x c,X.env.cells.lookup x=Γ c->c≠b)/\∀p∈X.pn++pins,p.1≠b)
  (keep:∀b o,b≠X.env.locals->b∉X.fs->b∉ch->s.heap.get? b=Γ o->H b=Ξ->h'.get? b=Γ o)
  (slot:∀b o,b≠X.env.locals->b∈X.fs->b∉ch->s.heap.get? b=Γ o->H b=Ξ->∃sl,h'.get? b=Γ {o with slots:=sl}) (free:∀b o,b∉ch->s.heap.get? b=Γ o->H b=Ξ->H' b=Ξ)
  (there:∀b o,b∉ch->s.heap.get? b=Γ o->∃o',h'.get? b=Γ o')
  (IL:∀b xs,H b=Γ (.tup xs)->H' b=Γ (.tup xs)) (HW:∀b o u,H b=Γ (.Gy o u)->H' b=Γ (.Gy o u)) (JC:∀b ps,H b=Γ (.MV ps)->∃more,H' b=Γ (.MV (ps++more)))
  (ns:∀m,s.heap.Ns X.env.locals m->h'.Ns X.env.locals m) (G3:Hv X.prog X.w H' h') (hg:AllBare g') :
  Inv X pins σ H' {s with heap:=h',gens:=g',drawn:=d',toks:=t'}:=by
 have Vg:∀b o,X.Hz.heap.get? b=Γ o->b≠X.env.locals:=λb o e=>s_ (J_ (m_ e) I.ok.above);have QV:∀b o,X.Hz.heap.get? b=Γ o->b∉X.ex->b∉ch:=λb o e hx hb=>by
  rcases(LW b hb).1 with z|z
  ·exact hx z
  ·exact absurd (J_ (m_ e) z) (Nat.lt_irrefl _)
 have cellK:∀x c,X.env.cells.lookup x=Γ c->∀v,s.heap.IsCell c v->h'.IsCell c v:=λx c e v ⟨o,ho,hd⟩=>by
  have Pt:c∉ch:=λz=>(LW c z).2.2.1 x c e rfl;by_cases hc:c∈X.fs
  ·obtain⟨sl,q⟩:=slot c o (I.NU x c e) hc Pt ho (I.Io x c e);exact⟨_,q,hd⟩
  ·exact⟨o,keep c o (I.NU x c e) hc Pt ho (I.Io x c e),hd⟩
 refine⟨I.ok,I.os,hg,⟨λb o e n hb hx=>?_,λb o e n hb hx=>?_,λb o e n hx=>?_,λb o e hx=>?_,λb xs e=>IL b xs (I.base.IL b xs e),λb o xs e=>HW b o xs (I.base.HW b o xs e),λb ps e=>?_⟩,?_,λx c e=>?_,?_,λx c e=>?_,λp hp=>?_,G3,I.len⟩
 ·exact keep b o (Vg b o e) hb (QV b o e hx) (I.base.keep b o e n hb hx) (I.base.free b o e n hx)
 ·obtain⟨sl,e1⟩:=I.base.slot b o e n hb hx;obtain⟨Xb,e2⟩:=slot b _ (Vg b o e) hb (QV b o e hx) e1 (I.base.free b o e n hx);exact⟨Xb,e2⟩
 ·obtain⟨o',e1⟩:=I.base.there b o e hx;exact free b o' (QV b o e hx) e1 (I.base.free b o e n hx)
 ·obtain⟨o',e1⟩:=I.base.there b o e hx;exact there b o' (QV b o e hx) e1
 ·obtain⟨m1,e1⟩:=I.base.JC b ps e;obtain⟨m2,e2⟩:=JC b _ e1;exact⟨m1++m2,by rw[e2,Array.append_assoc]⟩
 ·obtain⟨m,hn,hl⟩:=I.loc;refine⟨m,ns m hn,λi x v e1 e2 e3=>?_⟩;obtain⟨u,r,l⟩:=hl i x v e1 e2 e3;refine⟨u,r,?_⟩;rcases l with l|⟨k,c,e,z⟩
  ·exact .inl l
  ·exact .inr ⟨k,c,e,cellK x c e _ z⟩
 ·obtain⟨v,z⟩:=I.cell x c e;exact⟨v,cellK x c e v z⟩
 ·obtain⟨m,⟨o,_,_,ho,_⟩,_⟩:=I.loc;exact free _ o (λz=>(LW _ z).2.1 rfl) ho I.free
 ·obtain⟨v,o,ho,hd⟩:=I.cell x c e;exact free c o (λz=>(LW c z).2.2.1 x c e rfl) ho (I.Io x c e)
 ·obtain⟨e,n,ne,nf,d⟩:=I.pin p hp;have Pt:p.1∉ch:=λz=>(LW p.1 z).2.2.2 p hp rfl;exact⟨keep p.1 p.2 ne nf Pt e n,free p.1 p.2 Pt e n,ne,nf,d⟩
def Inv.un (I:Inv X pins σ H s)(u:Un X.fs [] H H' s.heap h')(G3:Hv X.prog X.w H' h'):Inv X pins σ H' {s with heap:=h',toks:=t'}:=by
 obtain⟨m,⟨o,es,ep,ho,r⟩,_⟩:=id I.loc;obtain⟨sl,hL⟩:=u.any ho I.free (by simp)
 exact I.step (g':=s.gens) (d':=s.drawn) (ch:=[]) (λ_ z=>nomatch z) (λb o _ hb _ e n=>u.keep b o e n hb (by simp)) (λb o _ hb _ e n=>u.slot b o e n hb (by simp)) (λb o _ e n=>u.free b o e n (by simp)) (λb o _ e=>u.there b o e (by simp)) u.IL u.HW u.JC (λm' hm=>by
  obtain⟨o',K8,RL,L4,r'⟩:=hm;rw[ho]at L4;cases L4
  exact⟨_,K8,RL,hL,r'⟩) G3 I.bare
def Inv.call (I:Inv X pins σ H s)(u:Un (Jr X.stack) ch H H' s.heap h')(G3:Hv X.prog X.w H' h')(hg:AllBare g')
  (LW:∀b∈ch,(b∈X.ex∨X.Hz.heap.objs.size<=b)/\b≠X.env.locals/\(∀x c,X.env.cells.lookup x=Γ c->c≠b)/\∀p∈X.pn++pins,p.1≠b) :
  Inv X pins σ H' {s with heap:=h',gens:=g',drawn:=d',toks:=t'}:=by
 obtain⟨m,⟨o,es,ep,ho,r⟩,_⟩:=id I.loc;obtain⟨sl,hL⟩:=u.any ho I.free λz=>(LW _ z).2.1 rfl
 exact I.step (ch:=ch) LW (λb o hL hb hc e n=>u.keep b o e n (λz=>(l_.mp (I.KN b z)).elim hL hb) hc) (λb o _ _ hc e n=>u.any e n hc) (λb o hc e n=>u.free b o e n hc) (λb o hc e=>u.there b o e hc) u.IL u.HW u.JC (λm' hm=>by
  obtain⟨o',K8,RL,L4,r'⟩:=hm;rw[ho]at L4;cases L4
  exact⟨_,K8,RL,hL,r'⟩) G3 hg
def Inv.turned (I:Inv X pins σ H s)(k:∀b o,b≠it->s.heap.get? b=Γ o->h'.get? b=Γ o)(hn:H it=Ξ)(hL:it≠X.env.locals)
  (h1:it∈X.ex∨X.Hz.heap.objs.size<=it) (h2:∀x c,X.env.cells.lookup x=Γ c->c≠it) (h3:∀p∈X.pn++pins,p.1≠it):Inv X pins σ H {s with heap:=h',toks:=t'}:=by
 have Nm:∀b u,H b=Γ u->b≠it:=λb u e z=>by rw[z,hn]at e;cases e
 refine I.step (g':=s.gens) (d':=s.drawn) (ch:=[it]) (λb hb=>?_) (λb o _ _ hc e _=>k b o (λz=>hc (by simp[z])) e) (λb o _ _ hc e _=>⟨o.slots,k b o (λz=>hc (by simp[z])) e⟩) (λ_ _ _ _ n=>n)
  (λb o hc e=>⟨o,k b o (λz=>hc (by simp[z])) e⟩) (λ_ _ e=>e) (λ_ _ _ e=>e) (λb ps e=>⟨#[],by rw[e];simp⟩) (λm hm=>?_) (λb u e=>?_) I.bare
 ·have e:b=it:=by simpa using hb
  subst e;exact⟨h1,hL,h2,h3⟩
 ·obtain⟨o,es,ep,ho,r⟩:=hm;exact⟨o,es,ep,k _ o (Ne.symm hL) ho,r⟩
 ·refine(I.G3 b u e).IK (λc v hc q=>k c v ?_ q) (λ_ q=>q) λ_ _ q=>q;rcases hc with z|z
  ·rw[z];exact Nm b u e
  ·exact Nm c _ z
def Inv.tok (I:Inv X pins σ H s)(t:Nat):Inv X pins σ H {s with toks:=t}:=I.un (h':=s.heap) (t':=t) Un.refl I.G3
theorem Inv.kept (I:Inv X pins σ H s)(k:∀b u,s.heap.get? b=Γ u->h'.get? b=Γ u):Inv X pins σ H {s with heap:=h',toks:=t'}:=I.un (Un.kept k) (I.G3.kept k)
theorem Inv.laid {o:HO}  (I:Inv X pins σ H s)(k:∀b u,s.heap.get? b=Γ u->h'.get? b=Γ u)(hp:s.heap.objs.size<=a)(new:iQ X.prog X.w (upd H a o) h' a o) :
  Inv X pins σ (upd H a o) {s with heap:=h',toks:=t'}:=I.un (Un.laid k hp (I.G3.fresh hp)) (I.G3.laid k hp new)
theorem Inv.write {o:HO}  (I:Inv X pins σ H s)(mu:Pp (H x))(he:e=x∨H e=Γ (.own x))(k:∀b u,b≠e->s.heap.get? b=Γ u->h'.get? b=Γ u)(OV:∃u,h'.get? e=Γ u)
  (new:iQ X.prog X.w (upd H x o) h' x o):Inv X pins σ (upd H x o) {s with heap:=h',toks:=t'}:=I.un (Un.write mu he k OV) (I.G3.write mu he k OV new)
def Inv.K9 (I:Inv X pins σ H s)(h:∀p∈Pu,s.heap.get? p.1=Γ p.2/\H p.1=Ξ/\p.1≠X.env.locals/\p.1∉X.fs/\∀v,p.2.data≠.cell v):Inv X Pu σ H s:=
 ⟨I.ok,I.os,I.bare,I.base,I.loc,I.cell,I.free,I.Io,λp hp=>(t_.mp hp).elim (λz=>I.pin p (j_ _ z)) (h p),I.G3,I.len⟩
def qb {N:Â}(hN:N.Nodup){i j:Nat}{x:Str}(a:N[i]? = Γ x)(b:N[j]? = Γ x):i=j:=by obtain⟨h1,e1⟩:=v_.mp a;obtain⟨h2,e2⟩:=v_.mp b;exact(List.getElem_inj hN).mp (e1.trans e2.symm)
def oG (I:Inv X pins σ H s)(hN:X.N.Nodup)(hi:X.N[i]? = Γ x)(hx:Loc X.env.scope x)(r:RelV v u)
  (h:∀s',Inv X pins (σ.set i (Γ v)) H s'->(∃a,Heap.SameBut a s.heap s'.heap/\(a=X.env.locals∨X.env.cells.lookup x=Γ a))->Q () s') (hf:X.fn x=Δ∨X.env.scope.names.lookup x=Γ .local:=by first|exact .inl rfl|exact .inr rfl|assumption):Ι M A (storeName X.env x u) Q E s:=by
 obtain⟨m,hn,hl⟩:=id I.loc;have RM:(X.env.scope.kind == .class||(X.env.scope.kind == .module&&X.env.locals != X.env.globals))=Θ:=by rw[I.ok.kind];rfl
 have Pw:i < σ.length:=by rw[I.len];exact(v_.mp hi).1
 have NU:=I.NU;have tracked:∀ {a:Ψ}{h':Heap},(∃o,s.heap.get? a=Γ o/\H a=Ξ)->Heap.SameBut a s.heap h'->Hv X.prog X.w H h':=λ{a h'} ha hs b ob e=>by
  obtain⟨_,_,K'⟩:=ha;refine(I.G3 b ob e).IK (λc w' hc q=>(hs.2 c ?_).trans q) (λ_ q=>q) λ_ _ q=>q;rintro rfl;rcases hc with rfl|hc
  ·rw[K']at e;cases e
  ·rw[K']at hc;cases hc
 rcases hx with hk|hk
 ·refine wpAny_storeName_local hk hn (λh' JU hs=>?_) RM;obtain⟨oL,_,_,Xc,_⟩:=id hn;refine h _ ⟨I.ok,I.os,I.bare,⟨λb o e n hb hx=>?_,λb o e n hb hx=>?_,I.base.free,λb o e hx=>?_,I.base.IL,I.base.HW,I.base.JC⟩,⟨_,JU,λj y v' e1 e2 e3=>?_⟩,λy c e=>?_,I.free,I.Io,λp hp=>?_,tracked ⟨oL,Xc,I.free⟩ hs,by simpa using I.len⟩ ⟨_,hs,.inl rfl⟩
  ·exact(hs.2 b (s_ (J_ (m_ e) I.ok.above))).trans (I.base.keep b o e n hb hx)
  ·obtain⟨sl,e1⟩:=I.base.slot b o e n hb hx;exact⟨sl,(hs.2 b (s_ (J_ (m_ e) I.ok.above))).trans e1⟩
  ·obtain⟨o',e1⟩:=I.base.there b o e hx;exact⟨o',(hs.2 b (s_ (J_ (m_ e) I.ok.above))).trans e1⟩
  ·by_cases hj:j=i
   ·subst hj;rw[hi]at e1;cases e1;rw[List.getElem?_set_self Pw]at e2;cases e2;exact⟨u,r,.inl ⟨hk,by simp⟩⟩
   ·rw[aak (Ne.symm hj)]at e2;obtain⟨u',r',q⟩:=hl j y v' e1 e2 e3;refine⟨u',r',?_⟩;rcases q with⟨k,e⟩|⟨k,c,e,z⟩
    ·refine .inl ⟨k,?_⟩;have:y≠x:=λe=>hj (qb hN e1 (e ▸ hi));simp[this,e]
    ·exact .inr ⟨k,c,e,z.sameBut hs (NU y c e)⟩
  ·obtain⟨w',z⟩:=I.cell y c e;exact⟨w',z.sameBut hs (NU y c e)⟩
  ·obtain⟨e,n,ne,nf,d⟩:=I.pin p hp;exact⟨(hs.2 p.1 ne).trans e,n,ne,nf,d⟩
 ·have Lp:X.fn x=Δ:=by
   rcases hf with z|z
   ·exact z
   ·rw[z]at hk;cases hk
  obtain⟨c,hc⟩:=I.ok.has x (.inl hk);obtain⟨w',z⟩:=I.cell x c hc;refine wpAny_storeName_cell I.ok.kind hk hc z (λh' L5 hs=>?_);obtain⟨oc,Vh,RP⟩:=id z;refine h {s with heap:=h'} ⟨I.ok,I.os,I.bare,⟨λb o e n hb hx=>?_,λb o e n hb hx=>?_,I.base.free,λb o e hx=>?_,I.base.IL,I.base.HW,I.base.JC⟩,⟨m,hn.sameBut hs (Ne.symm (NU x c hc)),λj y v' e1 e2 e3=>?_⟩,λy c' e=>?_,I.free,I.Io,λp hp=>?_,tracked ⟨oc,Vh,I.Io x c hc⟩ hs,by simpa using I.len⟩ ⟨c,hs,.inr hc⟩
  ·exact(hs.2 b (s_ (J_ (m_ e) (I.ok.QU x c Lp hc)))).trans (I.base.keep b o e n hb hx)
  ·obtain⟨sl,e1⟩:=I.base.slot b o e n hb hx;exact⟨sl,(hs.2 b (s_ (J_ (m_ e) (I.ok.QU x c Lp hc)))).trans e1⟩
  ·obtain⟨o',e1⟩:=I.base.there b o e hx;exact⟨o',(hs.2 b (s_ (J_ (m_ e) (I.ok.QU x c Lp hc)))).trans e1⟩
  ·by_cases hj:j=i
   ·subst hj;rw[hi]at e1;cases e1;rw[List.getElem?_set_self Pw]at e2;cases e2;exact⟨u,r,.inr ⟨.inl hk,c,hc,L5⟩⟩
   ·rw[aak (Ne.symm hj)]at e2;obtain⟨u',r',q⟩:=hl j y v' e1 e2 e3;refine⟨u',r',?_⟩;rcases q with q|⟨k,c',e,z'⟩
    ·exact .inl q
    ·refine .inr ⟨k,c',e,z'.sameBut hs ?_⟩;rintro rfl;exact hj (qb hN e1 (I.ok.inj _ _ _ e hc ▸ hi))
  ·by_cases Vi:c'=c
   ·subst Vi;exact⟨_,L5⟩
   ·obtain⟨w2,z2⟩:=I.cell y c' e;exact⟨w2,z2.sameBut hs Vi⟩
  ·obtain⟨e,n,ne,nf,d⟩:=I.pin p hp;refine⟨(hs.2 p.1 ?_).trans e,n,ne,nf,d⟩;intro q;rw[q,Vh]at e;have q':oc=p.2:=B_ e;exact d w' (by rw[<- q'];exact RP)
def qc (I:Inv X pins σ H s)(hN:X.N.Nodup)(hi:X.N[i]? = Γ x)(hx:Loc X.env.scope x)(r:RelV v u)
  (h:∀s',Inv X pins (σ.set i (Γ v)) H s'->Q () s') (hf:X.fn x=Δ∨X.env.scope.names.lookup x=Γ .local:=by first|exact .inl rfl|exact .inr rfl|assumption):Ι M A (storeName X.env x u) Q E s:=
 oG I hN hi hx r (λs' I' _=>h s' I') hf
def Inv.Px (I:Inv X pins σ H s)(ho:s'.os=s.os)(u:Un (Jr X.stack) ch H H' s.heap s'.heap)(G3:Hv X.prog X.w H' s'.heap)(hg:AllBare s'.gens)
  (LW:∀b∈ch,(b∈X.ex∨X.Hz.heap.objs.size<=b)/\b≠X.env.locals/\(∀x c,X.env.cells.lookup x=Γ c->c≠b)/\∀p∈X.pn++pins,p.1≠b):Inv X pins σ H' s':=by
 obtain⟨h',g',d',t',o'⟩:=s';have e:o'=s.os:=ho;subst e;exact I.call (g':=g') (t':=t') (d':=d') u G3 hg LW
@[reducible]def XK:=Φ->Option Ψ->Hp->Prop
@[reducible]def St:=List (Option V)
@[reducible]def VK:=V->Hp->Prop
@[reducible]def TE:=St->Hp->VK->Prop
@[reducible]def TT:=St->Hp->(Bool->Hp->Prop)->Prop
@[reducible]def TA:=St->Hp->(Ë->Hp->Prop)->Prop
structure Ends where
 nx:St->Hp->Prop
 rt:VK
 bk:St->Hp->Prop:=λ_ _=>False
 ct:St->Hp->Prop:=λ_ _=>False
@[reducible]def TS:=Ends->St->Hp->Prop
def EP (X:Cx)(pins:List (Ψ×Obj))(σ:St)(Q:VK)(u:Φ)(s':Ω):Prop:=∃v H',Inv X pins σ H' s'/\RelV v u/\Q v H'
def TP (X:Cx)(pins:List (Ψ×Obj))(σ:St)(Q:Bool->Hp->Prop)(b:Bool)(s':Ω):Prop:=∃H',Inv X pins σ H' s'/\Q b H'
def AP (X:Cx)(pins:List (Ψ×Obj))(σ:St)(Q:Ë->Hp->Prop)(us:List Φ)(s':Ω):Prop:=∃vs H',Inv X pins σ H' s'/\Vals vs us/\Q vs H'
def SP (X:Cx)(pins:List (Ψ×Obj))(D:Ends)(f:Flow)(s':Ω):Prop:=
 match f with
 |.next=>∃G1 H',Inv X pins G1 H' s'/\D.nx G1 H'
 |.brk=>∃G1 H',Inv X pins G1 H' s'/\D.bk G1 H'
 |.cont=>∃G1 H',Inv X pins G1 H' s'/\D.ct G1 H'
 |.ret u=>∃v G1 H',Inv X pins G1 H' s'/\RelV v u/\D.rt v H'
def PE (X:Cx)(e:Expr)(t:TE):Prop:=
 ∀(pins:List (Ψ×Obj)) (s:Ω) (σ:St) (H:Hp) (Q:VK),Inv X pins σ H s->t σ H Q->Ι (Κ X.prog X.w) X.A (eval e X.env) (EP X pins σ Q) X.xe s
def PT (X:Cx)(e:Expr)(t:TT):Prop:=
 ∀(pins:List (Ψ×Obj)) (s:Ω) (σ:St) (H:Hp) (Q:Bool->Hp->Prop),Inv X pins σ H s->t σ H Q->Ι (Κ X.prog X.w) X.A (isTrue e X.env (eval e X.env)) (TP X pins σ Q) X.xe s
def PW (X:Cx)(e:Expr)(t:TT):Prop:=
 ∀(whole:Sem Φ) (pins:List (Ψ×Obj)) (s:Ω) (σ:St) (H:Hp) (Q:Bool->Hp->Prop),Inv X pins σ H s->t σ H Q->Ι (Κ X.prog X.w) X.A (isTrue e X.env whole) (TP X pins σ Q) X.xe s
def PW.pt (h:PW X e t):PT X e t:=h _
@[reducible]def _root_.Ü:=List Expr
def PA (X:Cx)(es:Ü)(t:TA):Prop:=
 ∀(pos:Pos) (pins:List (Ψ×Obj)) (s:Ω) (σ:St) (H:Hp) (Q:Ë->Hp->Prop),Inv X pins σ H s->t σ H Q->Ι (Κ X.prog X.w) X.A (spliced (backTo pos (Μ es X.env))) (AP X pins σ Q) X.xe s
def PS (X:Cx)(st:Stmt)(t:TS):Prop:=
 ∀(pins:List (Ψ×Obj)) (s:Ω) (σ:St) (H:Hp) (D:Ends),Inv X pins σ H s->t D σ H->Ι (Κ X.prog X.w) X.A (exec st X.env) (SP X pins D) X.xe s
@[reducible]def _root_.Ö:=List Stmt
def Ke (X:Cx)(st:Ö)(t:TS):Prop:=
 ∀(pins:List (Ψ×Obj)) (s:Ω) (σ:St) (H:Hp) (D:Ends),Inv X pins σ H s->t D σ H->Ι (Κ X.prog X.w) X.A (execs st X.env) (SP X pins D) X.xe s
def G5 (h:Ι M A t Q E s)(hQ:∀a s,Q a s->Q' a s):Ι M A t Q' E s:=wpAny_mono h hQ λ_ _ x=>x
def rk (i:Nat):TE:=λσ H Q=>∃v,σ[i]? = Γ (Γ v)/\Q v H
def tC (v:V):TE:=λ_ H Q=>Q v H
def uI (hN:X.N[i]? = Γ x)(hv:Pq X.env.scope x)(hd:(x == ("__debug__" : Str))=Θ:=by decide) (ME:(x == ("__classdict__" : Str))=Θ:=by decide):PE X (.Name x pos) (rk i):=by
 intro pins s σ H Q I h;obtain⟨v,e,h⟩:=h;obtain⟨m,hn,hl⟩:=I.loc;obtain⟨u,r,l⟩:=hl i x v hN e hv;have fin:EP X pins σ Q u s:=⟨v,H,I,r,h⟩
 rcases l with⟨hk,hm⟩|⟨hk,c,hc,Nn⟩
 ·exact wpAny_Name (wpAny_loadName_local I.ok.kind hk hn hm fin) hd
 ·rcases hk with hk|hk
  ·exact wpAny_Name (wpAny_loadName_cell I.ok.kind hk hc Nn fin) hd
  ·exact wpAny_Name (wpAny_loadName_free I.ok.kind hk hc Nn fin ME) hd
def uJ {i j pos}:PE X (.Constant (.int i) j pos) (tC (.int i)):=λ_ _ _ H _ I h=>wpAny_Constant_int ⟨.int i,H,I.tok _,⟨_,rfl⟩,h⟩
def CV {b j pos}:PE X (.Constant (.bool b) j pos) (tC (.bl b)):=λ_ _ _ H _ I h=>Constant_bool ⟨.bl b,H,I,rfl,h⟩
def AO {j pos}:PE X (.Constant .none j pos) (tC .Gx):=λ_ _ _ H _ I h=>Constant_none ⟨.Gx,H,I,rfl,h⟩
def AQ {x j pos}:PE X (.Constant (.str x) j pos) (tC (.str x)):=λ_ _ _ H _ I h=>Calls.Constant_str ⟨.str x,H,I.tok _,⟨_,rfl⟩,h⟩
def Gl (X:Cx)(x:Str):Prop:=X.env.kindOf x=Γ .globalImplicit
def kJ (I:Inv X pins σ H s)(hg:Gl X x)(hm:X.mg x=Γ u)(h:Q u s)
  (hd:(x == ("__debug__" : Str))=Θ:=by decide):Ι (Κ X.prog X.w) X.A (eval (.Name x pos) X.env) Q E s:=
 Calls.Name_function_global I.ok.kind hg (Calls.loadGlobal_global (by rw[I.ok.glob];exact I.mod.glob.keeps I.bk) hm h) hd
def jB (I:Inv X pins σ H s)(hg:Gl X x)(hm:X.mg x=Ξ)(hv:bootBuiltins x=Γ u)(h:Q u s)
  (hn:x≠"__name__":=by decide) (hd:(x == ("__debug__" : Str))=Θ:=by decide):Ι (Κ X.prog X.w) X.A (eval (.Name x pos) X.env) Q E s:=by
 obtain⟨mb,h1,h2⟩:=I.mod.blt;exact Calls.Name_function_global I.ok.kind hg (Calls.loadGlobal_builtin (by rw[I.ok.glob];exact I.mod.glob.keeps I.bk) hm (by rw[I.ok.blt];exact h1.keeps I.bk) ((h2 x hn).trans hv) h) hd
def xD (hg:Gl X x)(hm:X.mg x=Γ u)(r:RelV v u)(hd:(x == ("__debug__" : Str))=Θ:=by decide):PE X (.Name x pos) (tC v):=
 λ_ _ _ H _ I h=>kJ I hg hm ⟨v,H,I,r,h⟩ hd
def pj (hg:Gl X x)(hm:X.mg x=Ξ)(hv:bootBuiltins x=Γ u)(r:RelV v u)(hn:x≠"__name__":=by decide) (hd:(x == ("__debug__" : Str))=Θ:=by decide):PE X (.Name x pos) (tC v):=
 λ_ _ _ H _ I h=>jB I hg hm hv ⟨v,H,I,r,h⟩ hn hd
def CW (t u:TT):TT:=λσ H Q=>t σ H λc H1=>if c=Δ then u σ H1 Q else Q Θ H1
def Xd (t u:TT):TT:=λσ H Q=>t σ H λc H1=>if c=Δ then Q Δ H1 else u σ H1 Q
def E6 (t:TT):TT:=λσ H Q=>t σ H λc H1=>Q (!c) H1
def xE (ha:PT X a tA):PW X (.BoolOp .And [a] pos) tA:=by
 intro wh pins s σ H Q I h;refine isTrue_and (G5 (ha pins s σ H Q I h) λc s1 e=>?_);cases c with
 |true=>exact isTrue_and_nil e
 |false=>exact e
def AR (ha:PT X a tA):PW X (.BoolOp .Or [a] pos) tA:=by
 intro wh pins s σ H Q I h;refine isTrue_or (G5 (ha pins s σ H Q I h) λc s1 e=>?_);cases c with
 |false=>exact isTrue_or_nil e
 |true=>exact e
def AS (ha:PT X a tA)(hb:PW X (.BoolOp .And (b::rest) pos) RQ):PW X (.BoolOp .And (a::b::rest) pos) (CW tA RQ):=by
 intro wh pins s σ H Q I h;refine isTrue_and (G5 (ha pins s σ H _ I h) λc s1 ⟨H1,I1,q1⟩=>?_);cases c with
 |true=>exact hb wh pins s1 σ H1 Q I1 q1
 |false=>exact⟨H1,I1,q1⟩
def CY (ha:PT X a tA)(hb:PW X (.BoolOp .Or (b::rest) pos) RQ):PW X (.BoolOp .Or (a::b::rest) pos) (Xd tA RQ):=by
 intro wh pins s σ H Q I h;refine isTrue_or (G5 (ha pins s σ H _ I h) λc s1 ⟨H1,I1,q1⟩=>?_);cases c with
 |true=>exact⟨H1,I1,q1⟩
 |false=>exact hb wh pins s1 σ H1 Q I1 q1
def uK (ha:PT X a tA):PT X (.UnaryOp .Not a pos) (E6 tA):=by intro pins s σ H Q I h;exact isTrue_not (ha pins s σ H (λc H1=>Q (!c) H1) I h)
def uL {op}  (h:PE X a t):PE X (.BoolOp op [a] pos) t:=λpins s σ H Q I hw=>BoolOp_one (h pins s σ H Q I hw)
def Xe (t:TT)(ta tb:TE):TE:=λσ H Q=>t σ H λc H1=>if c=Δ then ta σ H1 Q else tb σ H1 Q
def qd (hc:PT X c tA)(ha:PE X a ta)(hb:PE X b tb):PE X (.IfExp c a b pos) (Xe tA ta tb):=by
 intro pins s σ H Q I h;refine wpAny_IfExp (G5 (hc pins s σ H _ I h) λd s1 ⟨H1,I1,q1⟩=>?_);cases d with
 |true=>exact ha pins s1 σ H1 Q I1 q1
 |false=>exact hb pins s1 σ H1 Q I1 q1
abbrev XU:HO:=.ext λ_=>True
def Vj (H:Hp)(a:Ψ)(xs:Ë):Prop:=xs.length<=Ε/\∃(its:List Φ) (n:Nat),Vals xs its/\H a=Γ (.Gy {cls:=.type "list",data:=.seq its.toArray n} XU)
def HJ (K:Frag)(H:Hp)(a:Ψ)(xs:Ë):Prop:=
 (Rd H a (.lst xs)∨Vj H a xs)∨
  ∃(o:Obj) (its:Array Φ) (n:Nat),K.lookup a=Γ o/\o.cls=.type "list"/\o.dict=Ξ/\o.data=.seq its n/\its.size<=Ε/\Vals xs its.toList
def HK (K:Frag)(H:Hp)(a:Ψ)(xs:Ë):Prop:=
 Rd H a (.tup xs)∨
  ∃(o:Obj) (its:Array Φ) (n:Nat),K.lookup a=Γ o/\o.cls=.type "tuple"/\o.data=.seq its n/\its.size<=Ε/\Vals xs its.toList
abbrev E7:Φ->Option V
 |.none=>Γ .Gx
 |.bool b=>Γ (.bl b)
 |.int i _=>Γ (.int i)
 |.str x _=>Γ (.str x)
 |.bytes b _=>Γ (.Nl b)
 |.float b _=>Γ (.QS b)
 |.ref a=>Γ (.ref a)
 |.type n=>Γ (.ty n)
 |_=>Ξ
def RelV.abs (r:RelV x u):E7 u=Γ x:=by
 cases x with
 |Gx=>cases r;rfl
 |bl _=>cases r;rfl
 |int _=>obtain⟨t,rfl⟩:=r;rfl
 |str _=>obtain⟨t,rfl⟩:=r;rfl
 |Nl _=>obtain⟨t,rfl⟩:=r;rfl
 |QS _=>obtain⟨t,rfl⟩:=r;rfl
 |ref _=>cases r;rfl
 |ty _=>cases r;rfl
def RelV.inj (r:RelV x u)(q:RelV y u):x=y:=B_ (r.abs.symm.trans q.abs)
theorem Vals.inj:∀ {xs ys:Ë}{us:List Φ},Vals xs us->Vals ys us->xs=ys
 |_,_,_,.nil,.nil=>rfl
 |_,_,_,.cons r t,.cons r' t'=>by rw[r.inj r',Vals.inj t t']
def HK.of {K:Frag}(h:H a=Γ (.tup xs)):HK K H a xs:=.inl (.inl h)
def Inv.list (I:Inv X pins σ H s)(h:HJ X.K H a xs):∃its:List Φ,Vals xs its/\PlainL s.heap a its.toArray/\xs.length<=Ε:=by
 rcases h with(h|⟨z,its,n,r,h⟩)|⟨o,its,n,hk,hc,hd,hs,hz,r⟩
 ·obtain⟨z,its,n,r,e⟩:=h.ok I.G3;exact⟨its,r,⟨_,n,e,rfl,rfl,rfl⟩,z⟩
 ·exact⟨its,r,⟨_,n,(I.G3 a _ h).1,rfl,rfl,rfl⟩,z⟩
 ·refine⟨its.toList,r,⟨o,n,I.Ig a o hk,hc,hd,by simpa using hs⟩,?_⟩;have e:=r.length;simp only[aal]at e;omega
def Inv.tuple (I:Inv X pins σ H s)(h:HK X.K H a xs):∃its:List Φ,Vals xs its/\IsTup s.heap a its.toArray/\xs.length<=Ε:=by
 rcases h with h|⟨o,its,n,hk,hc,hs,hz,r⟩
 ·obtain⟨z,its,r,p⟩:=h.ok I.G3;exact⟨its,r,p,z⟩
 ·refine⟨its.toList,r,⟨o,I.Ig a o hk,hc,n,by simpa using hs⟩,?_⟩;have e:=r.length;simp only[aal]at e;omega
def Inv.Hw (I:Inv X pins σ H s)(h:HJ X.K H a xs)(h':HJ X.K H a ys):xs=ys:=by
 obtain⟨its,r,⟨o,n,e,_,_,d⟩,_⟩:=I.list h;obtain⟨its',r',⟨o',n',e',_,_,d'⟩,_⟩:=I.list h';rw[e]at e';cases e';rw[d]at d';injection d' with d1 _;have:its=its':=by simpa using congrArg Array.toList d1
 subst this;exact r.inj r'
def Inv.JG (I:Inv X pins σ H s)(h:HK X.K H a xs)(h':HK X.K H a ys):xs=ys:=by
 obtain⟨its,r,⟨o,e,_,n,d⟩,_⟩:=I.tuple h;obtain⟨its',r',⟨o',e',_,n',d'⟩,_⟩:=I.tuple h';rw[e]at e';cases e';rw[d]at d';injection d' with d1 _;have:its=its':=by simpa using congrArg Array.toList d1
 subst this;exact r.inj r'
def CZ:TS:=λD σ H=>D.nx σ H
def E8 (t u:TS):TS:=λD σ H=>t {D with nx:=u D} σ H
def sI:Ke X [] CZ:=λ_ _ σ H _ I h=>wpAny_execs_nil ⟨σ,H,I,h⟩
def uM {X:Cx}{st:Stmt}{rest:Ö}{t u:TS}(h1:PS X st t)(h2:Ke X rest u):Ke X (st::rest) (E8 t u):=by
 intro pins s σ H D I h;refine wpAny_execs_cons (G5 (h1 pins s σ H {D with nx:=u D} I h) λf s1 q=>?_);cases f with
 |next=>obtain⟨G1,H',I',q⟩:=q;exact h2 pins s1 G1 H' D I' q
 |ret v=>exact q
 |brk=>exact q
 |cont=>exact q
def Inv.quiet (I:Inv X pins σ H s):interactive X.env=Θ:=by simp[interactive,I.ok.kind]
def C0 (te:TE):TS:=λD σ H=>te σ H λ_ H1=>D.nx σ H1
def m4 (he:PE X e te)(hs:swapsWith e Ξ pos.line X.env=pure Θ:=by rfl):PS X (.Expr e pos) (C0 te):=by intro pins s σ H D I h;exact wpAny_Expr_any (G5 (he pins s σ H _ I h) λv s1 ⟨x,H1,I1,r1,q1⟩=>⟨σ,H1,I1,q1⟩) I.quiet hs
def E9 (te:TE):TS:=λD σ H=>te σ H D.rt
def rl (he:PE X e te):PS X (.Return (Γ e) pos) (E9 te):=by intro pins s σ H D I h;exact wpAny_Return_some (G5 (he pins s σ H _ I h) λv s1 ⟨x,H1,I1,r1,q1⟩=>⟨x,σ,H1,I1,r1,q1⟩)
def Fb (c:TT)(t u:TS):TS:=λD σ H=>c σ H λb H1=>if b=Δ then t D σ H1 else u D σ H1
def zJ (hc:PT X c tc)(ha:Ke X a t)(hb:Ke X b u):PS X (.If c a b pos) (Fb tc t u):=by
 intro pins s σ H D I h;refine wpAny_If (G5 (hc pins s σ H _ I h) λd s1 ⟨H1,I1,q1⟩=>?_);cases d with
 |true=>exact ha pins s1 σ H1 D I1 q1
 |false=>exact hb pins s1 σ H1 D I1 q1
def AU:TS:=λ_ _ _=>False
def uN {X:Cx}{st:Stmt}:PS X st AU:=λ_ _ _ _ _ _ h=>h.elim
@[reducible]def TG:=V->St->Hp->(St->Hp->Prop)->Prop
@[reducible]def OW:=Ë->St->Hp->(St->Hp->Prop)->Prop
def PG (X:Cx)(target:Expr)(t:TG):Prop:=
 ∀(pins:List (Ψ×Obj)) (s:Ω) (σ:St) (H:Hp) (v:V) (u:Φ) (Q:St->Hp->Prop),Inv X pins σ H s->RelV v u->t v σ H Q->
  Ι (Κ X.prog X.w) X.A (assign target X.env u) (λ_ s'=>∃G1 H',Inv X pins G1 H' s'/\Q G1 H') X.xe s
def Py (X:Cx)(ts:Ü)(t:OW):Prop:=
 ∀(pins:List (Ψ×Obj)) (s:Ω) (σ:St) (H:Hp) (vs:Ë) (us:List Φ) (Q:St->Hp->Prop),Inv X pins σ H s->Vals vs us->t vs σ H Q->
  Ι (Κ X.prog X.w) X.A (assignInOrder ((assignEach ts X.env).map (·.2)) us) (λ_ s'=>∃G1 H',Inv X pins G1 H' s'/\Q G1 H') X.xe s
@[reducible]def C1:=V->V->V->Hp->(Hp->Prop)->Prop
def C2 (X:Cx)(t:C1):Prop:=
 ∀(pins:List (Ψ×Obj)) (s:Ω) (σ:St) (H:Hp) (o i v:V) (ov iv u:Φ) (Q:Hp->Prop),Inv X pins σ H s->RelV o ov->RelV i iv->RelV v u->t o i v H Q->
  Ι (Κ X.prog X.w) X.A (setItem ov iv u) (λ_ s'=>∃H',Inv X pins σ H' s'/\Q H') X.xe s
def uO (i:Nat):TG:=λv σ H Q=>Q (σ.set i (Γ v)) H
def xF (hN:X.N.Nodup)(hi:X.N[i]? = Γ x)(hx:Loc X.env.scope x)(hf:X.fn x=Δ∨X.env.scope.names.lookup x=Γ .local:=by first|exact .inl rfl|exact .inr rfl|assumption):PG X (.Name x pos) (uO i):=by intro pins s σ H v u Q I r h;exact wpAny_assign_Name (qc I hN hi hx r (λs' I'=>⟨_,H,I',h⟩) hf)
def C3:OW:=λvs σ H Q=>vs=[]/\Q σ H
def zK (t:TG)(u:OW):OW:=λvs σ H Q=>∃v r,vs=v::r/\t v σ H λG1 H'=>u r G1 H' Q
def xG:Py X [] C3:=by intro pins s σ H vs us Q I r h;obtain⟨e,h⟩:=h;subst e;cases r;exact assignInOrder_nil ⟨σ,H,I,h⟩
def uP (h1:PG X e t)(h2:Py X es u)
  (hs:(assignEach (e::es) X.env).map (·.2)=assign e X.env::(assignEach es X.env).map (·.2):=by rfl):Py X (e::es) (zK t u):=by
 intro pins s σ H vs us Q I r h;obtain⟨v,vr,e1,h⟩:=h;subst e1;cases r with
 |cons r rr=>rw[hs];refine assignInOrder_cons (G5 (h1 pins s σ H _ _ _ I r h) λ_ s1 ⟨MY,H1,I1,q1⟩=>?_);exact h2 pins s1 MY H1 _ _ Q I1 rr q1
def Fd (to ti:TE)(t:C1):TG:=λv σ H Q=>to σ H λo H1=>ti σ H1 λi H2=>t o i v H2 λH3=>Q σ H3
def AV {o:Expr}(ho:PE X o to)(hi:PE X i ti)(hs:C2 X t)
  (ha:∀v,assign (.Subscript o i pos) X.env v=(do
   let ov <- holding [v] (eval o X.env);let iv <- holding [v,ov] (eval i X.env)
   standAt pos
   holding [v,ov,iv] (setItem ov iv v)
   release [v,ov,iv] []):=by intro _;rfl):PG X (.Subscript o i pos) (Fd to ti t):=by
 intro pins s σ H v u Q I r h;rw[ha];refine i_ (N_ (G5 (ho pins s σ H _ I h) λov s1 ⟨x,H1,I1,r1,q1⟩=>?_));refine i_ (N_ (G5 (hi pins s1 σ H1 _ I1 q1) λiv s2 ⟨y,H2,I2,r2,q2⟩=>?_));refine i_ (wpAny_standAt (i_ (N_ (G5 (hs pins s2 σ H2 x y v ov iv u _ I2 r1 r2 r q2) λ_ s3 ⟨H3,I3,q3⟩=>?_))));exact wpAny_release ⟨σ,H3,I3,q3⟩
def AW (te:TE)(g:TG):TS:=λD σ H=>te σ H λx H1=>g x σ H1 D.nx
def uQ (he:PE X e te)(hg:PG X tg g)(hs:swapsWithSole [tg] e pos.line X.env=pure Θ:=by rfl)(hw:swappedStores [tg] e X.env=pure Ξ:=by rfl)
  (h1:(assignEach [tg] X.env).map (·.2)=[assign tg X.env]:=by rfl):PS X (.Assign [tg] e pos) (AW te g):=by
 intro pins s σ H D I h;refine wpAny_Assign_stores (G5 (he pins s σ H _ I h) λv s1 ⟨x,H1,I1,r1,q1⟩=>?_) hs hw;rw[h1];exact G5 (hg pins s1 σ H1 x v _ I1 r1 q1) λ_ s2 q=>q
def nk (hN:X.N.Nodup)(hi:X.N[i]? = Γ x)(hx:Loc X.env.scope x)(he:PE X e te)(hs:swapsWith e (Γ (.Name x pos')) pos.line X.env=pure Θ:=by rfl)(hf:X.fn x=Δ∨X.env.scope.names.lookup x=Γ .local:=by first|exact .inl rfl|exact .inr rfl|assumption) :
  PS X (.Assign [.Name x pos'] e pos) (AW te (uO i)):=by
 intro pins s σ H D I h;refine wpAny_Assign_Name (G5 (he pins s σ H _ I h) λv s1 ⟨y,H1,I1,r1,q1⟩=>?_) hs;exact qc I1 hN hi hx r1 (λs2 I2=>⟨_,H1,I2,q1⟩) hf
def AX (c:TT)(tb:TS):TS:=λD σ H=>∃W:Nat->St->Hp->Prop,(∃m,W m σ H)/\∀m σ H,W m σ H->
 c σ H λb H1=>if b=Δ then ∃N:St->Hp->Prop,(∀G1 H',N G1 H'->∃m',m' < m/\W m' G1 H')/\tb {D with nx:=N,ct:=N,bk:=D.nx} σ H1 else D.nx σ H1
def uR {X:Cx}{pos:Pos}{c:Expr}{body:Ö}{tc:TT}{tb:TS}(hp:PassesOwn (Κ X.prog X.w) X.A X.env X.xe)(hc:PT X c tc)(hb:Ke X body tb):PS X (.While c body [] pos) (AX tc tb):=by
 intro pins s σ H D I h;obtain⟨W,⟨m0,w0⟩,turn⟩:=h;refine wpAny_While (codeAny_whileLoop (λn s'=>∃G1 H',Inv X pins G1 H' s'/\W n G1 H') ?_ m0 ⟨σ,H,I,w0⟩);rintro n s1 ⟨MY,H1,I1,w1⟩;refine wpAny_passesOwn hp (G5 (hc pins s1 MY H1 _ I1 (turn n MY H1 w1)) λb s2 ⟨H2,I2,q2⟩=>?_);cases b with
 |true=>
  obtain⟨N,hN,q2⟩:=q2;rw[d_ rfl];refine wpAny_passesOwn hp (G5 (hb pins s2 MY H2 _ I2 q2) λf s3 q3=>?_);cases f with
  |next=>obtain⟨L6,H3,I3,n3⟩:=q3;obtain⟨m',hm,w3⟩:=hN L6 H3 n3;exact⟨m',hm,L6,H3,I3,w3⟩
  |cont=>obtain⟨L6,H3,I3,n3⟩:=q3;obtain⟨m',hm,w3⟩:=hN L6 H3 n3;exact⟨m',hm,L6,H3,I3,w3⟩
  |brk=>exact q3
  |ret v=>exact q3
 |false=>rw[b_ C_];exact wpAny_execs_nil ⟨MY,H2,I2,q2⟩
structure It where
 go:Nat->Hp->Prop
 MZ:Nat->Hp->V->Hp->Prop
 stop:Nat->Hp->Prop
def kM (X:Cx)(pins:List (Ψ×Obj))(H:Hp)(b:Ψ):Prop:=
 H b=Ξ/\b≠X.env.locals/\b∉X.fs/\(b∈X.ex∨X.Hz.heap.objs.size<=b)/\(∀x c,X.env.cells.lookup x=Γ c->c≠b)/\∀p∈X.pn++pins,p.1≠b
def Inv.KO (I:Inv X pins σ H s)(hb:s.heap.objs.size<=b)(hn:H' b=Ξ):kM X pins H' b:=by
 refine⟨hn,Nat.ne_of_gt (J_ I.lt hb),I.RK hb,.inr (Q_ I.sz hb),λx c e z=>?_,λp hp z=>?_⟩
 ·obtain⟨v,q⟩:=I.cell x c e;exact absurd (J_ q.lt (by rw[z];exact hb)) (Nat.lt_irrefl _)
 ·exact absurd (J_ (m_ (I.pin p hp).1) (by rw[z];exact hb)) (Nat.lt_irrefl _)
structure Turn (P:Β)(w:Α)(K:Frag)(tg:Expr)(J:It)(fp:È)(it:Ψ)(tn:Nat->Heap->Prop):Prop where
 mem:it∈fp
 obj:∀i h,tn i h->∀b∈fp,∃o,h.get? b=Γ o/\∀v,o.data≠.cell v
 keep:∀i h h',tn i h->(∀b∈fp,∀o,h.get? b=Γ o->h'.get? b=Γ o)->tn i h'
 item:∀(X:Cx),X.prog=P->X.w=w->X.K=K->X.calm=Δ->∀(i:Nat) (pins:List (Ψ×Obj)) (s:Ω) (σ:St) (H:Hp) (E:Φ->Á),Inv X pins σ H s->(∀b∈fp,kM X pins H b)->tn i s.heap->J.go i H->
  Ι (Κ P w) X.A (pyNext (.ref it)) (λr s1=>∃u,r=Γ u/\
   Ι (Κ P w) X.A (letOwnedTupleGo tg (.ref it) u) (λ_ s2=>∃x H',Inv X pins σ H' s2/\RelV x u/\J.MZ i H x H'/\tn (i+1) s2.heap/\∀b∈fp,H' b=Ξ) E s1) E s
 done:∀(X:Cx),X.prog=P->X.w=w->X.K=K->X.calm=Δ->∀(i:Nat) (pins:List (Ψ×Obj)) (s:Ω) (σ:St) (H:Hp) (E:Φ->Á),Inv X pins σ H s->(∀b∈fp,kM X pins H b)->tn i s.heap->J.stop i H->
  Ι (Κ P w) X.A (pyNext (.ref it)) (λr s1=>r=Ξ/\Inv X pins σ H s1) E s
 self:∀(A:Η) (i:Nat) (s:Ω) (Q:Φ->Á) (E:Φ->Á),tn i s.heap->Q (.ref it) s->Ι (Κ P w) A (pyIter (.ref it)) Q E s
@[reducible]def TI:=St->Hp->(It->Hp->Prop)->Prop
def OX (X:Cx)(pins:List (Ψ×Obj))(σ:St)(tg:Expr)(R:It->Hp->Prop)(QW:Φ)(s2:Ω):Prop:=
 ∃(it:Ψ) (fp:È) (tn:Nat->Heap->Prop) (J:It) (H':Hp),QW=.ref it/\Inv X pins σ H' s2/\Turn X.prog X.w X.K tg J fp it tn/\tn 0 s2.heap/\(∀b∈fp,kM X pins H' b)/\R J H'
def PI (X:Cx)(tg iter:Expr)(wi:TI):Prop:=
 ∀(pins:List (Ψ×Obj)) (s:Ω) (σ:St) (H:Hp) (R:It->Hp->Prop),Inv X pins σ H s->wi σ H R->
  Ι (Κ X.prog X.w) X.A (eval iter X.env) (λv s1=>Ι (Κ X.prog X.w) X.A (pyIter v) (OX X pins σ tg R) X.xe s1) X.xe s
def sJ {o : Obj}  (ho : s.heap.get? it = Γ o)(hc : o.cls = .type n)(hd : o.data = .fields vs)
    (hn : ["enumerate", "zip", "dict_itemiterator", "dict_reverseitemiterator", "odict_iterator", "itertools.zip_longest", "itertools.pairwise"].contains n = Θ) (hQ : Q () s) : Ι M A (letOwnedTupleGo tg (.ref it) u) Q E s :=by
  unfold letOwnedTupleGo;cases tg <;> first
    | exact o_ hQ
    | (cases u <;> first
        | exact o_ hQ
        | (refine i_ (wpAny_load ho ?_)
           rw [hc,hd];show Ι M A (if(["enumerate", "zip", "dict_itemiterator", "dict_reverseitemiterator", "odict_iterator", "itertools.zip_longest", "itertools.pairwise"].contains n&&vs[0]? == Γ (rawInt _)) = Δ then _ else _) Q E s;rw [b_ (by intro h; rw [hn,Bool.false_and]at h; cases h)]
           exact o_ hQ))
abbrev Pz (K:Frag)(a:Ψ):It:=
 ⟨λi H=>∃xs x,HJ K H a xs/\xs[i]? = Γ x,λi H x H'=>H'=H/\∀xs,HJ K H a xs->xs[i]? = Γ x,λi H=>∃xs,HJ K H a xs/\xs.length<=i⟩
abbrev RU (K:Frag)(a:Ψ):It:=
 ⟨λi H=>∃xs x,HK K H a xs/\xs[i]? = Γ x,λi H x H'=>H'=H/\∀xs,HK K H a xs->xs[i]? = Γ x,λi H=>∃xs,HK K H a xs/\xs.length<=i⟩
abbrev OY (lo:Int)(n:Nat):It:=⟨λi _=>i < n,λi H x H'=>H'=H/\x=.int (lo+i),λi _=>n<=i⟩
def tZ {P:Β}{w:Α}{K:Frag}{tg:Expr}(a it:Ψ):Turn P w K tg (Pz K a) [it] it (λi h=>h.IsListIter it a i) where
 mem:=by simp
 obj:=λi h st b hb=>by
  have e:b=it:=by simpa using hb
  subst e;obtain⟨o,e,c,d⟩:=st;exact⟨o,e,λv z=>by rw[d]at z;cases z⟩
 keep:=λi h h' st k=>st.at λo e=>k it (by simp) o e
 item:=by intro X hP hw hK hc i pins s σ H E I hf st hg;subst hP hw hK;obtain⟨xs,x,hq,hx⟩:=hg;obtain⟨its,rv,p,hz⟩:=I.list hq;obtain⟨u,hu,ru⟩:=rv.get hx;obtain⟨f0,f1,f2,f3,f4,f5⟩:=hf it (by simp);refine wpAny_pyNext_list_item st p.isList (x:=u) (by simpa using hu) λh' Lq sb=>?_;have I1:Inv X pins σ H {s with heap:=h'}:=I.turned (t':=s.toks) (λb o hb e=>(sb.2 b hb).trans e) f0 f1 f3 f4 f5;obtain⟨o,e,c,d⟩:=id Lq;exact⟨u,rfl,sJ (s:={s with heap:=h'}) e c d (by decide) ⟨x,H,I1,ru,⟨rfl,λys hy=>by rw[I.Hw hy hq];exact hx⟩,Lq,λb hb=>(hf b hb).1⟩⟩
 done:=by intro X hP hw hK hc i pins s σ H E I hf st hg;subst hP hw hK;obtain⟨xs,hq,hx⟩:=hg;obtain⟨its,rv,p,hz⟩:=I.list hq;obtain⟨f0,f1,f2,f3,f4,f5⟩:=hf it (by simp);have hl:=rv.length;exact wpAny_pyNext_list_end (I.ok.hd hc) st p.isList (by simp;omega) λh' eb=>⟨rfl,I.turned (t':=s.toks) (λb o hb e=>eb b o hb e) f0 f1 f3 f4 f5⟩
 self:=λ_ _ _ _ _ st h=>wpAny_pyIter_listiter st h
def rm {P:Β}{w:Α}{K:Frag}{tg:Expr}(a it:Ψ):Turn P w K tg (RU K a) [it] it (λi h=>h.IsTupleIter it a i) where
 mem:=by simp
 obj:=λi h st b hb=>by
  have e:b=it:=by simpa using hb
  subst e;obtain⟨o,e,c,d⟩:=st;exact⟨o,e,λv z=>by rw[d]at z;cases z⟩
 keep:=λi h h' st k=>st.at λo e=>k it (by simp) o e
 item:=by intro X hP hw hK hc i pins s σ H E I hf st hg;subst hP hw hK;obtain⟨xs,x,hq,hx⟩:=hg;obtain⟨its,rv,p,hz⟩:=I.tuple hq;obtain⟨u,hu,ru⟩:=rv.get hx;obtain⟨f0,f1,f2,f3,f4,f5⟩:=hf it (by simp);refine wpAny_pyNext_tuple_item st (show s.heap.IsTuple a its.toArray from p) (x:=u) (by simpa using hu) λh' Lq sb=>?_;have I1:Inv X pins σ H {s with heap:=h'}:=I.turned (t':=s.toks) (λb o hb e=>(sb.2 b hb).trans e) f0 f1 f3 f4 f5;obtain⟨o,e,c,d⟩:=id Lq;exact⟨u,rfl,sJ (s:={s with heap:=h'}) e c d (by decide) ⟨x,H,I1,ru,⟨rfl,λys hy=>by rw[I.JG hy hq];exact hx⟩,Lq,λb hb=>(hf b hb).1⟩⟩
 done:=by intro X hP hw hK hc i pins s σ H E I hf st hg;subst hP hw hK;obtain⟨xs,hq,hx⟩:=hg;obtain⟨its,rv,p,hz⟩:=I.tuple hq;obtain⟨f0,f1,f2,f3,f4,f5⟩:=hf it (by simp);have hl:=rv.length;exact wpAny_pyNext_tuple_end (I.ok.hd hc) st (show s.heap.IsTuple a its.toArray from p) (by simp;omega) λh' eb=>⟨rfl,I.turned (t':=s.toks) (λb o hb e=>eb b o hb e) f0 f1 f3 f4 f5⟩
 self:=λ_ _ _ _ _ st h=>wpAny_pyIter_tupleiter st h
def rq {P:Β}{w:Α}{K:Frag}{tg:Expr}(it:Ψ)(lo:Int)(n:Nat):Turn P w K tg (OY lo n) [it] it (λi h=>IsRangeIter h it (lo+(i:Nat)*1) ((n:Int) - (i:Nat)) 1) where
 mem:=by simp
 obj:=λi h st b hb=>by
  have e:b=it:=by simpa using hb
  subst e
  exact⟨_,st,λv z=>by
   have z':Data.fields _=Data.cell v:=z
   cases z'⟩
 keep:=λi h h' st k=>k it (by simp) _ st
 item:=by intro X hP hw hK hc i pins s σ H E I hf st hg;subst hP hw hK;obtain⟨f0,f1,f2,f3,f4,f5⟩:=hf it (by simp);have W:=Walks.range (prog:=X.prog) (w:=X.w) (I.ok.hd hc) it lo 1 n;refine W.item i s _ _ hg st λv h' tk hv Lq kk=>?_;obtain⟨t,rfl⟩:=hv;have I1:Inv X pins σ H {s with heap:=h',toks:=tk}:=I.turned (λb o hb e=>kk b o (by simpa using hb) e) f0 f1 f3 f4 f5;refine⟨_,rfl,sJ (s:={s with heap:=h',toks:=tk}) (n:="range_iterator") Lq rfl rfl (by decide) ⟨.int (lo+i),H,I1,⟨t,?_⟩,⟨rfl,rfl⟩,Lq,λb hb=>(hf b hb).1⟩⟩;rw[Int.mul_one]
 done:=by intro X hP hw hK hc i pins s σ H E I hf st hg;subst hP hw hK;obtain⟨f0,f1,f2,f3,f4,f5⟩:=hf it (by simp);exact wpAny_pyNext_range_end (I.ok.hd hc) st (by have:n<=i:=hg;omega) λh' eb=>⟨rfl,I.turned (t':=s.toks) (λb o hb e=>eb b o hb e) f0 f1 f3 f4 f5⟩
 self:=λ_ _ _ _ _ st h=>wpAny_pyIter_rangeiter st h
def qe {lo:Int}(I:Inv X pins σ H s)(h1 : -(2 ^ 62)<=lo)(h2:lo < 2 ^ 62)(h3 : -(2 ^ 62)<=hi)(h4:hi < 2 ^ 62)
  (q:R (OY lo (hi - lo).toNat) H):Ι (Κ X.prog X.w) X.A (pyIter (.ref s.heap.objs.size)) (OX X pins σ tg R) E {s with heap:=s.heap.push {cls:=.type "range",data:=.fields #[.int lo t,.int hi u,.int 1 v]},toks:=tk}:=by
 refine wpAny_pyIter_range (IsRange.new ..) (small_one h1 h2 h3 h4) ?_;have I1:Inv X pins σ H {s with heap:=s.heap.push {cls:=.type "range",data:=.fields #[.int lo t,.int hi u,.int 1 v]},toks:=tk}:=I.kept λb o e=>r_ _ e
 refine⟨(s.heap.push {cls:=.type "range",data:=.fields #[.int lo t,.int hi u,.int 1 v]}).objs.size,[(s.heap.push {cls:=.type "range",data:=.fields #[.int lo t,.int hi u,.int 1 v]}).objs.size],_,_,H,rfl,
  I1.kept (t':=tk) λb o e=>r_ _ e,rq _ lo (hi - lo).toNat,?_,λb hb=>?_,q⟩
 ·have e1:lo+((0:Nat):Int)*1=lo:=by simp
  have e2:(((hi - lo).toNat:Nat):Int) - ((0:Nat):Int)=Builtin.Range.rangeSize lo hi 1:=by rw[rangeSize_one];split<;>omega
  show IsRangeIter _ _ (lo+((0:Nat):Int)*1) ((((hi - lo).toNat:Nat):Int) - ((0:Nat):Int)) 1;rw[e1,e2];exact D_ _ rfl
 ·have e:b=(s.heap.push {cls:=.type "range",data:=.fields #[.int lo t,.int hi u,.int 1 v]}).objs.size:=by simpa using hb
  subst e;exact I1.KO (n_ _) (I1.G3.fresh (n_ _))
def C4 (ta:TA):TI:=λσ H R=>ta σ H λvs H1=>∃j:Int,vs=[.int j]/\-(2 ^ 62)<=j/\j < 2 ^ 62/\R (OY 0 j.toNat) H1
def C5 (ta:TA):TI:=λσ H R=>ta σ H λvs H1=>∃i j:Int,vs=[.int i,.int j]/\(-(2 ^ 62)<=i/\i < 2 ^ 62/\-(2 ^ 62)<=j/\j < 2 ^ 62)/\R (OY i (j - i).toNat) H1
def oH (hg:Gl X "range") (hm:X.mg "range" = Ξ) (ha:PA X [a] ta) (hs:Μ [a] X.env=[(Θ,eval a X.env)]:=by rfl):PI X tg (.Call (.Name "range" p) [a] [] pos) (C4 ta):=by
 intro pins s σ H R I h;refine Call_ (jB I hg hm boot_range (aae (G5 (ha pos pins s σ H _ I h) λus s1 ⟨vs,H1,I1,r1,q1⟩=>?_) hs rfl));obtain⟨j,e,q1,q2,q⟩:=q1;subst e;cases r1 with
 |cons r rr=>cases rr;obtain⟨t,rfl⟩:=r;exact call_range_1 (qe I1 (by omega) (by omega) q1 q2 (by simpa using q))
def oI {X:Cx}{tg:Expr}{a b:Expr}{ta:TA}{p pos:Pos}(hg:Gl X "range") (hm:X.mg "range" = Ξ) (ha:PA X [a,b] ta) (hs:Μ [a,b] X.env=[(Θ,eval a X.env),(Θ,eval b X.env)]:=by rfl) (Ki:Μ [b] X.env=[(Θ,eval b X.env)]:=by rfl) :
  PI X tg (.Call (.Name "range" p) [a,b] [] pos) (C5 ta):=by
 intro pins s σ H R I h;refine Call_ (jB I hg hm boot_range (aae (G5 (ha pos pins s σ H _ I h) λus s1 ⟨vs,H1,I1,r1,q1⟩=>?_) (by rw[hs,Ki]) (by rw[Ki];rfl)));obtain⟨i,j,e,⟨q1,q2,q3,q4⟩,q⟩:=q1;subst e;cases r1 with
 |cons r rr=>
  cases rr with
  |cons r' rr=>cases rr;obtain⟨t,rfl⟩:=r;obtain⟨t',rfl⟩:=r';exact call_range_2 (qe I1 q1 q2 q3 q4 q)
def Fe (wi:TI)(g:TG)(tb:TS):TS:=λD σ H=>wi σ H λJ H1=>∃W:Nat->Nat->St->Hp->Prop,(∃m,W 0 m σ H1)/\∀i m σ H,W i m σ H->
 (J.stop i H/\D.nx σ H)∨(J.go i H/\∃N:St->Hp->Prop,(∀G1 H',N G1 H'->∃m',m' < m/\W (i+1) m' G1 H')/\∀x H',J.MZ i H x H'->g x σ H' λKj H2=>tb {D with nx:=N,ct:=N,bk:=D.nx} Kj H2)
abbrev me (fp:È)(h:Heap):List (Ψ×Obj):=fp.filterMap λb=>(h.get? b).map λo=>(b,o)
def km {o:Obj}(hb:b∈fp)(e:h.get? b=Γ o):(b,o)∈me fp h:=List.mem_filterMap.mpr ⟨b,hb,by rw[e];rfl⟩
def t4 (hp:p∈me fp h):p.1∈fp/\h.get? p.1=Γ p.2:=by
 obtain⟨b,hb,e⟩:=List.mem_filterMap.mp hp;cases q:h.get? b with
 |none=>rw[q]at e;cases e
 |some o=>rw[q]at e;have e':(b,o)=p:=B_ e;subst e';exact⟨hb,q⟩
def Inv.pinned (I:Inv X pins σ H s)(hf:∀b∈fp,kM X pins H b)(ho:∀b∈fp,∃o,s.heap.get? b=Γ o/\∀v,o.data≠.cell v):Inv X (pins++me fp s.heap) σ H s:=
 I.K9 λp hp=>(t_.mp hp).elim (λz=>I.pin p (k_ _ z)) λz=>by obtain⟨hb,e⟩:=t4 z;obtain⟨f0,f1,f2,_⟩:=hf p.1 hb;obtain⟨o,e',d⟩:=ho p.1 hb;rw[e]at e';cases e';exact⟨e,f0,f1,f2,d⟩
def Inv.IB (I:Inv X (pins++pl) σ H s):Inv X pins σ H s:=I.K9 λp hp=>I.pin p (k_ _ (j_ _ hp))
def rA (hp:PassesOwn (Κ X.prog X.w) X.A X.env X.xe)(hc:X.calm=Δ)(hi:PI X tg iter wi)(hg:PG X tg g)(hb:Ke X body tb)
  (hs:∀x,foldedSetIterable iter X.env x=pure x:=by intro _;rfl):PS X (.For tg iter body [] pos) (Fe wi g tb):=by
 intro pins s σ H D I h;refine wpAny_For (G5 (hi pins s σ H _ I h) λv s1 h1=>G5 h1 λQW s2 h2=>?_) hs;obtain⟨it,fp,tn,J,H2,e,I2,T,L7,f2,W,⟨m0,w0⟩,turn⟩:=h2;subst e
 -- RV stays Δ of MF NV objects through MF loop
 have KP:∀ {H':Hp},(∀b∈fp,H' b=Ξ)->∀b∈fp,kM X pins H' b:=λhn b hb=>⟨hn b hb,(f2 b hb).2⟩
 refine codeAny_forLoop_any (λn s'=>∃i G1 H',Inv X pins G1 H' s'/\tn i s'.heap/\(∀b∈fp,H' b=Ξ)/\W i n G1 H') ?_ m0 ⟨0,σ,H2,I2,L7,λb hb=>(f2 b hb).1,w0⟩;rintro n s3 ⟨i,L6,H3,I3,Vk,Vl,w3⟩;rcases turn i n L6 H3 w3 with⟨stop,qn⟩|⟨go,N,hN,step⟩
 ·refine wpAny_passesOwn hp (G5 (T.done X rfl rfl rfl hc i pins s3 L6 H3 X.xe I3 (KP Vl) Vk stop) λr s4 ⟨hr,I4⟩=>?_);subst hr;exact wpAny_execs_nil ⟨L6,H3,I4,qn⟩
 ·refine wpAny_passesOwn hp (G5 (T.item X rfl rfl rfl hc i pins s3 L6 H3 X.xe I3 (KP Vl) Vk go) λr s4 ⟨u,hr,h4⟩=>?_);subst hr;refine wpAny_passesOwn hp (G5 h4 λ_ s5 ⟨x,H5,I5,r5,y5,PB,RW⟩=>?_);have Xf:=I5.pinned (KP RW) (T.obj _ _ PB);refine wpAny_passesOwn hp (G5 (hg _ s5 L6 H5 x u _ Xf r5 (step x H5 y5)) λ_ s6 ⟨NW,H6,I6,q6⟩=>?_);refine wpAny_passesOwn hp (G5 (hb _ s6 NW H6 _ I6 q6) λf s7 q7=>?_);have again:∀ {L8:St}{H7:Hp},Inv X (pins++me fp s5.heap) L8 H7 s7->N L8 H7->∃m,m < n/\∃i G1 H',Inv X pins G1 H' s7/\tn i s7.heap/\(∀b∈fp,H' b=Ξ)/\W i m G1 H':=λ{L8 H7} I7 n7=>by obtain⟨m',hm,w7⟩:=hN L8 H7 n7;refine⟨m',hm,i+1,L8,H7,I7.IB,T.keep _ _ _ PB λb hb o e=>(I7.pin (b,o) (k_ _ (k_ _ (km hb e)))).1,λb hb=>?_,w7⟩;obtain⟨o,e,d⟩:=T.obj _ _ PB b hb;exact(I7.pin (b,o) (k_ _ (k_ _ (km hb e)))).2.1
  cases f with
  |next=>obtain⟨L8,H7,I7,n7⟩:=q7;exact again I7 n7
  |cont=>obtain⟨L8,H7,I7,n7⟩:=q7;exact again I7 n7
  |brk=>obtain⟨L8,H7,I7,q7⟩:=q7;exact⟨L8,H7,I7.IB,q7⟩
  |ret v=>obtain⟨x7,L8,H7,I7,r7,q7⟩:=q7;exact⟨x7,L8,H7,I7.IB,r7,q7⟩
@[reducible]def R2:=V->V->Hp->VK->Prop
def JV (X:Cx)(f:Φ->Φ->Sem Φ)(r:R2):Prop:=
 ∀(pins:List (Ψ×Obj)) (s:Ω) (σ:St) (H:Hp) (x y:V) (v u:Φ) (Q:VK),Inv X pins σ H s->RelV x v->RelV y u->r x y H Q->
  Ι (Κ X.prog X.w) X.A (f v u) (EP X pins σ Q) X.xe s
def RX (X:Cx)(f:Φ->Sem Φ)(r:V->Hp->VK->Prop):Prop:=
 ∀(pins:List (Ψ×Obj)) (s:Ω) (σ:St) (H:Hp) (x:V) (v:Φ) (Q:VK),Inv X pins σ H s->RelV x v->r x H Q->
  Ι (Κ X.prog X.w) X.A (f v) (EP X pins σ Q) X.xe s
def jJ (X:Cx)(f:Φ)(r:Ë->Hp->VK->Prop):Prop:=
 ∀(pins:List (Ψ×Obj)) (s:Ω) (σ:St) (H:Hp) (xs:Ë) (us:List Φ) (Q:VK),Inv X pins σ H s->Vals xs us->r xs H Q->
  Ι (Κ X.prog X.w) X.A (call f us) (EP X pins σ Q) X.xe s
def Ff (X:Cx)(r:V->Hp->(Bool->Hp->Prop)->Prop):Prop:=
 ∀(pins:List (Ψ×Obj)) (s:Ω) (σ:St) (H:Hp) (x:V) (v:Φ) (Q:Bool->Hp->Prop),Inv X pins σ H s->RelV x v->r x H Q->
  Ι (Κ X.prog X.w) X.A (truthy v) (TP X pins σ Q) X.xe s
def QX (r:R2)(ta tb:TE):TE:=λσ H Q=>ta σ H λx H1=>tb σ H1 λy H2=>r x y H2 Q
def Xg (r:V->Hp->VK->Prop)(ta:TE):TE:=λσ H Q=>ta σ H λx H1=>r x H1 Q
def rI (C:Int->Int->Prop)(g:Int->Int->V):R2:=λx y H Q=>∃i j,x=.int i/\y=.int j/\C i j/\Q (g i j) H
def RY (g:Int->Int->V):R2:=λx y H Q=>∃i j,x=.int i/\y=.int j/\Q (g i j) H
def rU (g:Int->V):V->Hp->VK->Prop:=λx H Q=>∃i,x=.int i/\Q (g i) H
def AY (ha:PE X a ta)(hb:PE X b tb)  {R:V->V->Hp->Prop}(I:Inv X pins σ H s)
  (h:ta σ H λx H1=>tb σ H1 λy H2=>R x y H2)  {f:Φ->Φ->Sem Φ}
  (hf:∀v u s2 x y H2,Inv X pins σ H2 s2->RelV x v->RelV y u->R x y H2->Ι (Κ X.prog X.w) X.A (f v u) Q X.xe s2) :
  Ι (Κ X.prog X.w) X.A (eval a X.env) (λv G2=>Ι (Κ X.prog X.w) X.A (eval b X.env) (λu JW=>Ι (Κ X.prog X.w) X.A (f v u) Q X.xe JW) X.xe G2) X.xe s:=by
 refine G5 (ha pins s σ H _ I h) λv s1 Gz=>?_;obtain⟨x,H1,I1,r1,q1⟩:=Gz;refine G5 (hb pins s1 σ H1 _ I1 q1) λu s2 Gz=>?_;obtain⟨y,H2,I2,r2,q2⟩:=Gz;exact hf v u s2 x y H2 I2 r1 r2 q2
def uS (ho:JV X (binaryOp op) r)(ha:PE X a ta)(hb:PE X b tb):PE X (.BinOp a op b pos) (QX r ta tb):=by intro pins s σ H Q I h;exact wpAny_BinOp (AY ha hb I h λv u s2 x y H2 I2 rx ry q=>ho pins s2 σ H2 x y v u Q I2 rx ry q)
def C6 (ho:RX X (unaryOp op) r)(ha:PE X a ta):PE X (.UnaryOp op a pos) (Xg r ta):=by intro pins s σ H Q I h;exact UnaryOp_ (G5 (ha pins s σ H _ I h) λv s1 ⟨x,H1,I1,r1,q1⟩=>ho pins s1 σ H1 x v Q I1 r1 q1)
def Vm {g:Int->Int->Int}
  (rule:∀(i j:Int) (t u:Tok) (s:Ω) (Q:Φ->Á) (E:Φ->Á),C i j->Q (.int (g i j) s.toks) {s with toks:=s.toks+1}->Ι (Κ X.prog X.w) X.A (f (.int i t) (.int j u)) Q E s) :
  JV X f (rI C λi j=>.int (g i j)):=by
 intro pins s σ H x y v u Q I rx ry h;obtain⟨i,j,rfl,rfl,hc,q⟩:=h;obtain⟨t,rfl⟩:=rx;obtain⟨t',rfl⟩:=ry;exact rule i j t t' s _ _ hc ⟨.int (g i j),H,I.tok _,⟨_,rfl⟩,q⟩
def C7 {g:Int->Int->Int}
  (rule:∀(i j:Int) (t u:Tok) (s:Ω) (Q:Φ->Á) (E:Φ->Á),Q (.int (g i j) s.toks) {s with toks:=s.toks+1}->Ι (Κ X.prog X.w) X.A (f (.int i t) (.int j u)) Q E s) :
  JV X f (RY λi j=>.int (g i j)):=by
 intro pins s σ H x y v u Q I rx ry h;obtain⟨i,j,rfl,rfl,q⟩:=h;obtain⟨t,rfl⟩:=rx;obtain⟨t',rfl⟩:=ry;exact rule i j t t' s _ _ ⟨.int (g i j),H,I.tok _,⟨_,rfl⟩,q⟩
def AZ (i j:Int):Prop:=(-(2 ^ 64) < i/\i < 2 ^ 64)∨(-(2 ^ 64) < j/\j < 2 ^ 64)
def AZ.ok (h:AZ i j):IntMulOk i j:=by
 rcases h with⟨h1,h2⟩|⟨h1,h2⟩
 ·exact .of_left (intBits_le_64 h1 h2)
 ·exact .of_right (intBits_le_64 h1 h2)
def A0:JV X (binaryOp .Add) (RY λi j=>.int (i+j)):=C7 λ_ _ _ _ _ _ _ q=>add_int q
def A1:JV X (binaryOp .Sub) (RY λi j=>.int (i - j)):=C7 λ_ _ _ _ _ _ _ q=>sub_int q
def A2:JV X (binaryOp .Mult) (rI AZ λi j=>.int (i*j)):=Vm λ_ _ _ _ _ _ _ hc q=>mul_int q hc.ok
def A3:JV X (binaryOp .Mod) (rI (λ_ j=>0 < j) λi j=>.int (i % j)):=Vm λi j _ _ _ _ _ hc q=>by have h1:(0:Int) < j:=hc;exact mod_int' (by omega) (by rw[Int.fmod_eq_emod_of_nonneg i (by omega)];exact q)
def Xh {g:Int->Int}
  (rule:∀(i:Int) (t:Tok) (s:Ω) (Q:Φ->Á) (E:Φ->Á),Q (.int (g i) s.toks) {s with toks:=s.toks+1}->Ι (Κ X.prog X.w) X.A (f (.int i t)) Q E s) :
  RX X f (rU λi=>.int (g i)):=by
 intro pins s σ H x v Q I rx h;obtain⟨i,rfl,q⟩:=h;obtain⟨t,rfl⟩:=rx;exact rule i t s _ _ ⟨.int (g i),H,I.tok _,⟨_,rfl⟩,q⟩
def A4:RX X (unaryOp .USub) (rU λi=>.int (-i)):=Xh λ_ _ _ _ _ q=>neg_int q
def xH (ho:JV X (compareOp op) r)(ha:PE X a ta)(hb:PE X b tb)(hm:behindInMarks op b=Θ):PE X (.Compare a [op] [b] pos) (QX r ta tb):=by intro pins s σ H Q I h;exact wpAny_Compare1 (AY ha hb I h λv u s2 x y H2 I2 rx ry q=>ho pins s2 σ H2 x y v u Q I2 rx ry q) hm
def zM (t:TE):TT:=λσ H Q=>t σ H λx H'=>∃k,x=.bl k/\Q k H'
def xI (ho:JV X (compareOp op) r)(ha:PE X a ta)(hb:PE X b tb)(hm:behindInMarks op b=Θ):PT X (.Compare a [op] [b] pos) (zM (QX r ta tb)):=by
 intro pins s σ H Q I h
 refine wpAny_isTrue_Compare1 (G5 (ha pins s σ H _ I h) λv s1 ⟨x,H1,I1,r1,q1⟩=>G5 (hb pins s1 σ H1 _ I1 q1) λu s2 ⟨y,H2,I2,r2,q2⟩=>
  G5 (ho pins s2 σ H2 x y v u _ I2 r1 r2 q2) λc s3 ⟨z,H3,I3,r3,k,e,q3⟩=>?_) hm
 subst e;cases r3;exact wpAny_truthy_bool ⟨H3,I3,q3⟩
def uT (r r':R2)(ta tb tc:TE):TE:=λσ H Q=>ta σ H λx H1=>tb σ H1 λy H2=>r x y H2 λz H3=>∃k,z=.bl k/\
 (if k=Δ then tc σ H3 λw' H4=>r' y w' H4 Q else Q (.bl Θ) H3)
def uU (ho:JV X (compareOp op) r)(L4:JV X (compareOp Ih) r')(ha:PE X a ta)(hb:PE X b tb)(hc:PE X c tc)
  (hm:lastMarks [op,Ih] [b,c]=Θ:=by with_unfolding_all rfl):PE X (.Compare a [op,Ih] [b,c] pos) (uT r r' ta tb tc):=by
 intro pins s σ H Q I h
 refine Compare_chain (G5 (ha pins s σ H _ I h) λv s1 ⟨x,H1,I1,r1,q1⟩=>chain_link (G5 (hb pins s1 σ H1 _ I1 q1) λu s2 ⟨y,H2,I2,r2,q2⟩=>
  G5 (ho pins s2 σ H2 x y v u _ I2 r1 r2 q2) λd s3 ⟨z,H3,I3,r3,k,e,q3⟩=>?_)) hm
 subst e;cases r3;refine wpAny_truthy_bool ?_;cases k with
 |false=>exact ite_ff ⟨.bl Θ,H3,I3,rfl,q3⟩
 |true=>exact ite_tt (chain_last (G5 (hc pins s3 σ H3 _ I3 q3) λw' s4 ⟨z',H4,I4,r4,q4⟩=>L4 pins s4 σ H4 y z' u w' Q I4 r2 r4 q4))
def uV (ho:JV X (compareOp op) r)(L4:JV X (compareOp Ih) r')(ha:PE X a ta)(hb:PE X b tb)(hc:PE X c tc)
  (hm:lastMarks [op,Ih] [b,c]=Θ:=by with_unfolding_all rfl):PT X (.Compare a [op,Ih] [b,c] pos) (zM (uT r r' ta tb tc)):=by
 intro pins s σ H Q I h
 refine isTrue_chain (G5 (ha pins s σ H _ I h) λv s1 ⟨x,H1,I1,r1,q1⟩=>test_link (G5 (hb pins s1 σ H1 _ I1 q1) λu s2 ⟨y,H2,I2,r2,q2⟩=>
  G5 (ho pins s2 σ H2 x y v u _ I2 r1 r2 q2) λd s3 ⟨z,H3,I3,r3,k,e,q3⟩=>?_)) hm
 subst e;cases r3;refine wpAny_truthy_bool ?_;cases k with
 |false=>obtain⟨k',e',q'⟩:=q3;cases e';exact ite_ff ⟨H3,I3,q'⟩
 |true=>refine ite_tt (test_last (G5 (hc pins s3 σ H3 _ I3 q3) λw' s4 ⟨z',H4,I4,r4,q4⟩=>G5 (L4 pins s4 σ H4 y z' u w' _ I4 r2 r4 q4) λd' s5 ⟨z2,H5,I5,r5,k2,e2,q5⟩=>?_));subst e2;cases r5;exact wpAny_truthy_bool ⟨H5,I5,q5⟩
def Fg (K:Frag)(x:V)(H:Hp)(k:Bool):Prop:=
 match x with
 |.Gx=>k=Θ
 |.bl b=>k=b
 |.int i=>k=(i != 0)
 |.str y=>y.length<=Ε/\k=((y.length:Int) != 0)
 |.Nl y=>y.size<=Ε/\k=((y.size:Int) != 0)
 |.ref p=>(∃xs,HJ K H p xs/\k = !xs.isEmpty)∨(∃xs,HK K H p xs/\k = !xs.isEmpty)∨∃kvs,H p=Γ (.dK kvs)/\k = !kvs.isEmpty
 |_=>False
def rB {κ:Type}{kvs:List (κ×V)}{vs:List (κ×Φ)}(r:KV kvs vs):(!vs.isEmpty) = !kvs.isEmpty:=by cases r<;>rfl
def nq {its:List Φ}(r:Vals xs its):(!its.toArray.isEmpty) = !xs.isEmpty:=by cases r<;>simp
def mf:(Ε:Nat) < 2 ^ 63:=by rw[sizeLine_eq];decide
def A5:Ff X (λx H Q=>∃k,Fg X.K x H k/\Q k H):=by
 intro pins s σ H x v Q I rx h;obtain⟨k,e,q⟩:=h;have hl:=mf;have hs:Ε=16777216:=sizeLine_eq;cases x with
 |Gx=>cases rx;have e':k=Θ:=e;subst e';exact truthy_none ⟨H,I,q⟩
 |bl b=>cases rx;have e':k=b:=e;subst e';exact wpAny_truthy_bool ⟨H,I,q⟩
 |int i=>obtain⟨t,rfl⟩:=rx;have e':k=(i != 0):=e;subst e';exact PySem.P.truthy_int ⟨H,I,q⟩
 |str y=>obtain⟨t,rfl⟩:=rx;obtain⟨hy,e'⟩:y.length<=Ε/\k=((y.length:Int) != 0):=e;subst e';exact PySem.P.truthy_str (by omega) ⟨H,I.tok _,q⟩
 |Nl y=>obtain⟨t,rfl⟩:=rx;obtain⟨hy,e'⟩:y.size<=Ε/\k=((y.size:Int) != 0):=e;subst e';exact PySem.W.truthy_bytes (by omega) ⟨H,I.tok _,q⟩
 |ref p=>
  cases rx;have e':(∃xs,HJ X.K H p xs/\k = !xs.isEmpty)∨(∃xs,HK X.K H p xs/\k = !xs.isEmpty)∨∃kvs,H p=Γ (.dK kvs)/\k = !kvs.isEmpty:=e;rcases e' with⟨xs,hx,e'⟩|⟨xs,hx,e'⟩|⟨kvs,hx,e'⟩
  ·subst e';obtain⟨its,r,pl,hz⟩:=I.list hx;have hlen:=r.length;exact wpAny_truthy_list pl.isList (by simp only[w_];omega) ⟨H,I.tok _,by rw[nq r];exact q⟩
  ·subst e';obtain⟨its,r,pl,hz⟩:=I.tuple hx;have hlen:=r.length;exact truthy_tuple pl (by simp only[w_];omega) ⟨H,I.tok _,by rw[nq r];exact q⟩
  ·subst e';obtain⟨hz,hS,vs,r,m⟩:kvs.length<=Ε/\(p == sysModules)=Θ/\∃vs,KV kvs vs/\s.heap.DictOf (iV X.prog X.w) p vs:=I.G3 p _ hx;have hlen:kvs.length=vs.length:=Paired.length r;exact wpAny_truthy_dict hS m (by omega) ⟨H,I.tok _,by rw[rB r];exact q⟩
 |_=>exact(show False from e).elim
def rC:JV X (binaryOp .Add) (λx y H Q=>∃i j,x=.str i/\y=.str j/\i.length+j.length<=Ε/\Q (.str (i++j)) H):=by intro pins s σ H x y v u Q I rx ry h;obtain⟨i,j,rfl,rfl,hz,q⟩:=h;obtain⟨t,rfl⟩:=rx;obtain⟨t',rfl⟩:=ry;exact add_str (λt' tk=>⟨.str (i++j),H,I.tok _,⟨_,rfl⟩,q⟩) hz
def vals1 (r:Vals [x] us):∃u,us=[u]/\RelV x u:=by
 cases r with
 |cons r1 r2=>cases r2;exact⟨_,rfl,r1⟩
def vals2 (r:Vals [x,y] us):∃u w',us=[u,w']/\RelV x u/\RelV y w':=by
 cases r with
 |cons r1 r2=>
  cases r2 with
  |cons r3 r4=>cases r4;exact⟨_,_,rfl,r1,r3⟩
def t5 (hc:X.calm=Δ):jJ X (.builtin "max") (λxs H Q=>∃i j,xs=[.int i,.int j]/\Q (.int (if j > i then j else i)) H):=by
 intro pins s σ H xs us Q I r h;obtain⟨i,j,rfl,q⟩:=h;obtain⟨u,w',rfl,⟨t,rfl⟩,⟨t',rfl⟩⟩:=vals2 r;refine max_two_ints (I.ok.hd hc) λh' tk k=>⟨_,H,I.kept k,?_,q⟩
 by_cases hj:j > i
 ·rw[d_ hj,d_ hj];exact⟨_,rfl⟩
 ·rw[b_ hj,b_ hj];exact⟨_,rfl⟩
def t6 (hc:X.calm=Δ):jJ X (.builtin "min") (λxs H Q=>∃i j,xs=[.int i,.int j]/\Q (.int (if j < i then j else i)) H):=by
 intro pins s σ H xs us Q I r h;obtain⟨i,j,rfl,q⟩:=h;obtain⟨u,w',rfl,⟨t,rfl⟩,⟨t',rfl⟩⟩:=vals2 r;refine min_two_ints (I.ok.hd hc) λh' tk k=>⟨_,H,I.kept k,?_,q⟩
 by_cases hj:j < i
 ·rw[d_ hj,d_ hj];exact⟨_,rfl⟩
 ·rw[b_ hj,b_ hj];exact⟨_,rfl⟩
def Fh (K:Frag)(x:V)(H:Hp)(n:Nat):Prop:=
 match x with
 |.str y=>y.length<=Ε/\n=y.length
 |.Nl y=>y.size<=Ε/\n=y.size
 |.ref p=>(∃xs,HJ K H p xs/\n=xs.length)∨∃xs,HK K H p xs/\n=xs.length
 |_=>False
def HP:jJ X (.builtin "len") (λxs H Q=>∃x n,xs=[x]/\Fh X.K x H n/\Q (.int n) H):=by
 intro pins s σ H xs us Q I r h;obtain⟨x,n,rfl,e,q⟩:=h;obtain⟨u,rfl,rx⟩:=vals1 r;have hl:=mf;have hs:Ε=16777216:=sizeLine_eq;cases x with
 |str y=>obtain⟨t,rfl⟩:=rx;obtain⟨hy,e'⟩:y.length<=Ε/\n=y.length:=e;subst e';exact len_str (by omega) ⟨.int _,H,I.tok _,⟨_,rfl⟩,q⟩
 |Nl y=>obtain⟨t,rfl⟩:=rx;obtain⟨hy,e'⟩:y.size<=Ε/\n=y.size:=e;subst e';exact PySem.W.len_bytes (by omega) ⟨.int _,H,I.tok _,⟨_,rfl⟩,q⟩
 |ref p=>
  cases rx;have e':(∃xs,HJ X.K H p xs/\n=xs.length)∨∃xs,HK X.K H p xs/\n=xs.length:=e;rcases e' with⟨xs,hx,e'⟩|⟨xs,hx,e'⟩
  ·subst e';obtain⟨its,r',pl,hz⟩:=I.list hx;have hlen:=r'.length;exact Calls.call_len_list pl.isList (by simp only[w_];omega) ⟨.int xs.length,H,I.tok _,⟨_,by simp only[w_];rw[hlen]⟩,q⟩
  ·subst e';obtain⟨its,r',pl,hz⟩:=I.tuple hx;have hlen:=r'.length;exact len_tuple pl (by simp only[w_];omega) ⟨.int xs.length,H,I.tok _,⟨_,by simp only[w_];rw[hlen]⟩,q⟩
 |_=>exact(show False from e).elim
structure Kl (h:Heap)(x dx C:Ψ)(mA:Str->Option Φ):Prop where
 obj:h.get? x=Γ (PySem.W.instObj C dx)
 ns:h.Ns1 dx mA
 ne:dx≠x
def t7 {h:Heap}{dx:Ψ}{mA:Str->Option Φ}(n:h.Ns1 dx mA):∃od,h.get? dx=Γ od/\∀name,PySem.W.lookIn name od=Γ (mA name):=by
 obtain⟨o,es,ep,ho,hd,hk,_,hm⟩:=n;refine⟨o,ho,λname=>?_⟩;have e:=hm name;unfold nsFind findBy at e;rw[<- Array.find?_toList]at e;unfold PySem.W.lookIn;rw[hd];dsimp only;split
 ·rename_i y q
  rw[q]at e;exact congrArg Γ e
 ·rename_i q
  rw[q]at e;have a:es.toList.any (·.refKey)=Θ:=by rw[List.any_eq_false];intro y hy;obtain⟨z,t,NX⟩:=hk y (Array.mem_toList_iff.mp hy);simp[DictEntry.refKey,NX]
  have a':¬es.toList.any (·.refKey)=Δ:=by rw[a];exact C_
  rw[b_ a'];exact congrArg Γ e
def Kl.look {h:Heap}{x dx C:Ψ}{mA:Str->Option Φ}(I:Kl h x dx C mA):∃od,PySem.W.InstAt h x (PySem.W.instObj C dx) C (Γ od)/\∀name,PySem.W.lookIn name od=Γ (mA name):=
 let ⟨od,ho,hl⟩:=t7 I.ns
 ⟨od,⟨I.obj,rfl,rfl,ho⟩,hl⟩
section
variable {prog:Β}{w:Α}{A:Η}{E:Φ->Á}{s:Ω}{K:Frag}{x dx C f:Ψ}{mA:Str->Option Φ}{name:Str}{v:Φ}
def get_map {expr:Bool}{Q:Φ->Á}(X:K.In s.heap)(I:Kl s.heap x dx C mA)(hg:PySem.W.plainGet K C name=Δ)(hh:PySem.W.hasDictIn K C=Δ)
  (ha:PySem.W.findIn K (.ref C) name=Γ Ξ) (hv:mA name=Γ v) (NY:PySem.W.handedIn v=Δ) (h:Q v {s with toks:=s.toks+1}) :
  Ι (Κ prog w) A (getAttr (.ref x) name expr) Q E s:=by
 obtain⟨od,J,hl⟩:=I.look;exact PySem.W.get_value X J (PySem.W.plainGet_of hg).1 (PySem.W.findObj_own hh ha rfl (by rw[hl,hv])) NY h
def uW {pl:Sem Bool}{Q:Φ×List Φ->Á}(X:K.In s.heap)(I:Kl s.heap x dx C mA)(hg:PySem.W.plainGet K C name=Δ)
  (hf:PySem.W.findIn K (.ref C) name=Γ (Γ (.ref f))) (ht:PySem.W.isFn K (.ref f)=Δ) (hv:mA name=Ξ) (h:Q (.ref f,[.ref x]) s) :
  Ι (Κ prog w) A (getMethod (.ref x) name pl) Q E s:=by
 obtain⟨od,J,hl⟩:=I.look;exact PySem.W.method_fn X J (PySem.W.plainGet_of hg).1 (PySem.W.plainGet_of hg).2 hf (beq_iff_eq.mp ht) (by show(PySem.W.lookIn name od).map (·.isSome)=Γ Θ;rw[hl,hv];rfl) h
def xJ {ns:Â}{Q:Unit->Á}(X:K.In s.heap)(I:Kl s.heap x dx C mA)
  (hs:PySem.W.findIn K (.ref C) "__setattr__" = Γ (Γ (.builtin "object.__setattr__"))) (hp:PySem.W.plainOver K C=Δ) (ht:PySem.W.takerIn K C name=Γ Ξ) (hh:PySem.W.hasDictIn K C=Δ)
  (hw:PySem.Within mA ns) (hsz:ns.length<=Ε)
  (h:∀h',Kl h' x dx C (λy=>if y=name then Γ v else mA y)->Heap.SameBut dx s.heap h'->Q () {s with heap:=h',toks:=s.toks+2}) :
  Ι (Κ prog w) A (setAttr (.ref x) name v) Q E s:=by
 obtain⟨od,J,hl⟩:=I.look;refine PySem.W.set_plain X J hs (PySem.W.osa_open (s:={s with toks:=s.toks+1}) (r:=Ξ) X J hp ht λb=>?_);obtain⟨cd,hc,Pr⟩:=PySem.W.any_some hh;have hx:s.heap.get? x=Γ ⟨.ref C,Γ dx,.plain,#[]⟩:=I.obj;refine i_ (o_ (i_ (i_ (wpAny_loadPart hx (i_ (PySem.W.Looks.here (s:={s with toks:=s.toks+1}) (PySem.W.looks_clsIn X hc) ?_))))));rw[Pr];refine o_ (a:=Γ dx) (i_ (o_ (i_ ?_)));refine wpAny_nsSet1 (s:={s with toks:=s.toks+1}) I.ns λh' NZ Ki=>?_;obtain⟨oD,esD,epD,Xi,Xj,Xk⟩:=NZ.count (PySem.Within.cons name v hw);refine i_ (wpAny_lookBehind Xi (by rw[Xj];exact pastItsLine_dict (Q_ Xk (by rw[List.length_cons];omega))) ?_);exact o_ (h _ ⟨(Ki.2 _ (Ne.symm I.ne)).trans I.obj,NZ,I.ne⟩ Ki)
def uX {R:Result->Á}{vs:List Φ}{kw:List (Str×Φ)}(X:K.In s.heap)(hm:PySem.W.makesIn K C=Δ)
  (hi:PySem.W.findIn K (.ref C) "__init__" = Γ (Γ (.ref f))) (hf:PySem.W.typeIn K (.ref f)=Γ (.type "function"))
  (h:codeAny (Κ prog w) (A.under (.builtin "type.__call__" ⟨.ref C::vs,kw⟩)) (.call (.ref f) ⟨.ref (s.heap.objs.size+1)::vs,kw⟩) (PySem.W.InitBack (s.heap.objs.size+1) R)
   {s with heap:=(s.heap.push PySem.W.emptyDict).push (PySem.W.instObj C s.heap.objs.size)}) :
  codeAny (Κ prog w) A (.call (.ref C) ⟨vs,kw⟩) R s:=by
 obtain⟨hh,g,d,t,os⟩:=s;exact PySem.W.make_core (PySem.W.makes_of X hm) (PySem.W.looks_findIn X hi) (λself=>PySem.W.bind_fn X self hf) (.inl rfl) h
end
abbrev jM (f:Str)(v:V):List (Str×V)->List (Str×V)
 |[]=>[(f,v)]
 | (g,x)::r=>if g=f then(g,v)::r else(g,x)::jM f v r
theorem mR (f g:Str)(v:V):∀fs:List (Str×V),(jM f v fs).lookup g=if g=f then Γ v else fs.lookup g
 |[]=>by
  show List.lookup g [(f,v)]=_;by_cases h:g=f
  ·have hb:(g == f)=Δ:=beq_iff_eq.mpr h;simp only[List.lookup,hb,d_ h]
  ·have hb:(g == f)=Θ:=beq_eq_false_iff_ne.mpr h;simp only[List.lookup,hb,b_ h]
 | (k,x)::r=>by
  have ih:=mR f g v r;rw[show jM f v ((k,x)::r)=(if k=f then(k,v)::r else(k,x)::jM f v r) from rfl];by_cases hk:k=f
  ·rw[d_ hk];by_cases h:g=k
   ·have hb:(g == k)=Δ:=beq_iff_eq.mpr h;simp only[List.lookup,hb,d_ (h.trans hk)]
   ·have hb:(g == k)=Θ:=beq_eq_false_iff_ne.mpr h;simp only[List.lookup,hb,b_ (λe:g=f=>h (e.trans hk.symm))]
  ·rw[b_ hk];by_cases h:g=k
   ·have hb:(g == k)=Δ:=beq_iff_eq.mpr h;simp only[List.lookup,hb,b_ (λe:g=f=>hk (h.symm.trans e))]
   ·have hb:(g == k)=Θ:=beq_eq_false_iff_ne.mpr h;simp only[List.lookup,hb];exact ih
theorem mh (f:Str)(v:V):∀fs:List (Str×V),f∈(jM f v fs).map (·.1)/\∀g,g∈fs.map (·.1)->g∈(jM f v fs).map (·.1)
 |[]=>⟨by simp[jM],λg h=>by simp at h⟩
 | (k,x)::r=>by
  obtain⟨i1,i2⟩:=mh f v r;rw[show jM f v ((k,x)::r)=(if k=f then(k,v)::r else(k,x)::jM f v r) from rfl];by_cases hk:k=f
  ·rw[d_ hk];subst hk;exact⟨by simp,λg h=>by simpa using h⟩
  ·rw[b_ hk];refine⟨?_,λg h=>?_⟩
   ·rw[c_];exact H_ _ i1
   ·rw[c_]at h ⊢;rcases l_.mp h with e|e
    ·exact l_.mpr (.inl e)
    ·exact H_ _ (i2 g e)
theorem mS (f:Str)(v:V):∀fs:List (Str×V),(jM f v fs).length<=fs.length+1
 |[]=>by simp[jM]
 | (k,x)::r=>by
  have ih:=mS f v r;rw[show jM f v ((k,x)::r)=(if k=f then(k,v)::r else(k,x)::jM f v r) from rfl];by_cases hk:k=f
  ·rw[d_ hk,List.length_cons,List.length_cons];omega
  ·rw[b_ hk,List.length_cons,List.length_cons];omega
def kC.some_of {v:V}{o:Option Φ}(r:kC (Γ v) o):∃u,o=Γ u/\RelV v u:=by
 cases o with
 |none=>exact(show False from r).elim
 |some u=>exact⟨u,rfl,r⟩
def kC.none_of {o:Option Φ}(r:kC Ξ o):o=Ξ:=by
 cases o with
 |none=>rfl
 |some u=>exact(show False from r).elim
def t8 {v:V}{u:Φ}(r:RelV v u):PySem.W.handedIn u=Δ:=by
 cases v with
 |Gx=>cases(show u=Value.none from r);rfl
 |bl b=>cases(show u=Value.bool b from r);rfl
 |int i=>obtain⟨t,e⟩:=(show ∃t,u=Value.int i t from r);cases e;rfl
 |str x=>obtain⟨t,e⟩:=(show ∃t,u=Value.str x t from r);cases e;rfl
 |Nl b=>obtain⟨t,e⟩:=(show ∃t,u=Value.bytes b t from r);cases e;rfl
 |QS b=>obtain⟨t,e⟩:=(show ∃t,u=Value.float b t from r);cases e;rfl
 |ref a=>cases(show u=η a from r);rfl
 |ty n=>cases(show u=Value.type n from r);rfl
def xK (G3:Hv P w H h)(e:H a=Γ (.ins C dx fs)):∃mA,Kl h a dx C mA/\(∀f,kC (fs.lookup f) (mA f))/\PySem.Within mA (fs.map (·.1))/\fs.length<=1000/\H dx=Γ (.own a):=by
 obtain⟨d,z,ne,ob,mA,n,r,q⟩:=(show iQ P w H h a (.ins C dx fs) from G3 a _ e)
 exact⟨mA,⟨ob,n,ne⟩,r,q,z,d⟩
structure MG (K:Frag)(C:Ψ):Prop where
 pg:PySem.W.plainGet K C Str.empty=Δ
 hd:PySem.W.hasDictIn K C=Δ
 po:PySem.W.plainOver K C=Δ
 sa:PySem.W.findIn K (.ref C) "__setattr__" = Γ (Γ (.builtin "object.__setattr__"))
def MG.get {K:Frag}{C:Ψ}(c:MG K C)(f:Str):PySem.W.plainGet K C f=Δ:=c.pg
def kn (K:Frag)(C:Ψ)(f:Str):Prop:=PySem.W.findIn K (.ref C) f=Γ Ξ
def kn.PC {K:Frag}{C:Ψ}{f:Str}(n:kn K C f):PySem.W.takerIn K C f=Γ Ξ:=by unfold PySem.W.takerIn;rw[show PySem.W.findIn K (.ref C) f=Γ Ξ from n];rfl
structure Meth (K:Frag)(C:Ψ)(m:Str)(f:Ψ):Prop where
 at_:PySem.W.findIn K (.ref C) m=Γ (Γ (.ref f))
 fn:PySem.W.isFn K (.ref f)=Δ
 kp:PySem.W.keepIn K (.ref f)=Δ
section
variable {X:Cx}{pins:List (Ψ×Obj)}{σ:St}{H:Hp}{s:Ω}{a C dx:Ψ}{fs:List (Str×V)}{f:Str}{v:V}{A:Η}{E:Φ->Á}
theorem rD {y:V}{u:Φ}{Q:Unit->Á}(I:Inv X pins σ H s)(e:H a=Γ (.ins C dx fs))(c:MG X.K C)(n:kn X.K C f)(hl:fs.length < 1000)(ry:RelV y u)
  (h:∀s',Inv X pins σ (upd H a (.ins C dx (jM f y fs))) s'->Q () s'):Ι (Κ X.prog X.w) A (setAttr (.ref a) f u) Q E s:=by
 obtain⟨mA,O,r,wi,_,ho⟩:=xK I.G3 e;have hz:(fs.map (·.1)).length<=Ε:=by rw[h_,sizeLine_eq];omega
 refine xJ I.Ig O c.sa c.po n.PC c.hd wi hz λh' O' sb=>h _ ?_;have hd:∃o,h'.get? dx=Γ o:=let ⟨o,_,_,e',_⟩:=O'.ns;⟨o,e'⟩;refine I.write (x:=a) (e:=dx) (by rw[e];exact True.intro) (.inr ho) (λb q hb z=>(sb.2 b hb).trans z) hd ?_;refine⟨by rw[dN O.ne];exact ho,?_,O.ne,O'.obj,_,O'.ns,λg=>?_,λg hg=>?_⟩
 ·have:=mS f y fs;omega
 ·show kC ((jM f y fs).lookup g) (if g=f then Γ u else mA g);rw[mR];by_cases q:g=f
  ·rw[d_ q,d_ q];exact ry
  ·rw[b_ q,b_ q];exact r g
 ·by_cases q:g=f
  ·rw[q];exact(mh f y fs).1
  ·refine(mh f y fs).2 g (wi g λz=>hg ?_);show(if g=f then Γ u else mA g)=Ξ;rw[b_ q];exact z
theorem Inv.made (I:Inv X pins σ H s):Inv X pins σ (upd (upd H s.heap.objs.size (.own (s.heap.objs.size+1))) (s.heap.objs.size+1) (.ins C s.heap.objs.size []))
  {s with heap:=(s.heap.push PySem.W.emptyDict).push (PySem.W.instObj C s.heap.objs.size)}:=by
 have e1:(s.heap.push PySem.W.emptyDict).get? s.heap.objs.size=Γ PySem.W.emptyDict:=D_ s.heap rfl;have e2:((s.heap.push PySem.W.emptyDict).push (PySem.W.instObj C s.heap.objs.size)).get? (s.heap.objs.size+1)=Γ (PySem.W.instObj C s.heap.objs.size):=by
  have:=D_ (s.heap.push PySem.W.emptyDict) (o:=PySem.W.instObj C s.heap.objs.size) rfl
  rwa [aaf]at this
 have e3:(s.heap.push PySem.W.emptyDict).Ns s.heap.objs.size (λ_=>Ξ):=⟨PySem.W.emptyDict,#[],_,e1,rfl,(λe he=>absurd he (by simp)),λ_=>rfl⟩
 have I1:=I.laid (a:=s.heap.objs.size) (o:=.own (s.heap.objs.size+1)) (h':=s.heap.push PySem.W.emptyDict) (t':=s.toks) (λb u q=>r_ _ q) (n_ _) ⟨_,e1⟩;refine I1.laid (a:=s.heap.objs.size+1) (o:=.ins C s.heap.objs.size []) (t':=s.toks) (λb u q=>r_ _ q) (Nat.le_of_eq (aaf _ _)) ?_;have ne:s.heap.objs.size≠s.heap.objs.size+1:=s_ (Nat.lt_succ_self _);refine⟨by rw[dN ne,gk],Y_ _,ne,e2,λ_=>Ξ,(Heap.Ns1.of_empty e3).at λo q=>r_ _ q,λ_=>True.intro,λy hy=>absurd rfl hy⟩
theorem xM {prog:Β}{w:Α}{env:Env}{e:Expr}{f:Str}{pos:Pos}{s:Ω}{Q:Φ->Á}(hb:attributeBase e f env (eval e env)=eval e env)
  (h:Ι (Κ prog w) A (eval e env) (λo G2=>Ι (Κ prog w) A (getAttr o f Δ) Q E G2) E s):Ι (Κ prog w) A (eval (.Attribute e f pos) env) Q E s:=
 Attribute_any_ h (by rw[arm_eval_Attribute,hb])
end
def Fi (K:Frag)(ta tv:TE)(f:Str):TS:=λD σ H=>tv σ H λy H1=>ta σ H1 λx H2=>∃a C dx fs,x=.ref a/\H2 a=Γ (.ins C dx fs)/\MG K C/\kn K C f/\fs.length < 1000/\
 D.nx σ (upd H2 a (.ins C dx (jM f y fs)))
def A6 {X:Cx}{o value:Expr}{f:Str}{pos pos':Pos}{ta tv:TE}(ha:PE X o ta)(hv:PE X value tv)(hs:swapsWith value (Γ (.Attribute o f pos')) pos.line X.env=pure Θ):PS X (.Assign [.Attribute o f pos'] value pos) (Fi X.K ta tv f):=by intro pins s σ H D I h;refine plainObj_wpAny_Assign_Attribute (G5 (hv pins s σ H _ I h) λu s1 ⟨y,H1,I1,ry,q⟩=>G5 (ha pins s1 σ H1 _ I1 q) λov s2 ⟨x,H2,I2,rx,a,C,dx,fs,ex,ea,c,n,l,q2⟩=>?_) hs;subst ex;obtain rfl:ov=η a:=rx;exact rD I2 ea c n l ry λs3 I3=>⟨σ,_,I3,q2⟩
structure Hh (k:Nat)(A:Η):Prop where
 hd:k < 1000->A.handled=Ξ
 dp:A.depth+3*(k % 1000)+5 < recursionLimit
 un:A.units+16*(k % 1000)+200 < cLine
theorem Hh.deeper (r:Hh (k+1) A)(env:Env)(hk:k % 1000≠999):Hh k (A.deeper env):=
 ⟨λz=>r.hd (by omega),by have:=r.dp;show A.depth+1+3*(k % 1000)+5 < _;omega,by have:=r.un;show A.units+3+16*(k % 1000)+200 < _;omega⟩
theorem Hh.depth (r:Hh k A):A.depth < recursionLimit:=by have:=r.dp;omega
def qf:TA:=λ_ H Q=>Q [] H
def jT (ta:TE)(tr:TA):TA:=λσ H Q=>ta σ H λx H1=>tr σ H1 λxs H2=>Q (x::xs) H2
def jn:PA X [] qf:=λ_ _ _ _ H Q I h=>Calls.spliced_nil ⟨[],H,I,.nil,h⟩
def iF (ha:PE X e te)(hr:PA X es t)(hs:Μ (e::es) X.env=(Θ,eval e X.env)::Μ es X.env:=by rfl):PA X (e::es) (jT te t):=by intro pos pins s σ H Q I h;rw[hs];show Ι _ _ (spliced ((Θ,eval e X.env)::backTo pos (Μ es X.env))) _ _ s;refine Calls.spliced_cons (G5 (ha pins s σ H _ I h) λu s1 ⟨x,H1,I1,r1,q1⟩=>?_);exact G5 (hr pos pins s1 σ H1 _ I1 q1) λus s2 ⟨xs,H2,I2,r2,q2⟩=>⟨x::xs,H2,I2,.cons r1 r2,q2⟩
def A7 (t:TA):TE:=λσ H Q=>t σ H λxs H1=>xs.length<=Ε/\∀p,H1 p=Ξ->Q (.ref p) (upd H1 p (.tup xs))
def Fj (t:TA):TE:=λσ H Q=>t σ H λxs H1=>xs.length<=Ε/\∀p,H1 p=Ξ->Q (.ref p) (upd H1 p (.lst xs))
def rE {x1}(h:PA X es t):PE X (.Tuple es x1 pos) (A7 t):=by intro pins s σ H Q I hq;refine wpAny_Tuple_spliced (G5 (h pos pins s σ H _ I hq) λus s1 ⟨xs,H1,I1,r,z,q⟩=>⟨by rw[<- r.length];exact z,?_⟩);have hf:H1 s1.heap.objs.size=Ξ:=I1.G3.fresh (n_ _);refine⟨.ref s1.heap.objs.size,upd H1 s1.heap.objs.size (.tup xs),I1.laid (t':=s1.toks) (λb u e=>r_ _ e) (n_ _) ?_,rfl,q _ hf⟩;exact⟨z,us,r,⟨_,D_ _ rfl,rfl,_,rfl⟩⟩
def rF (h:PA X es t):PE X (.List es pos) (Fj t):=by intro pins s σ H Q I hq;refine wpAny_List_spliced (G5 (h pos pins s σ H _ I hq) λus s1 ⟨xs,H1,I1,r,z,q⟩=>⟨by rw[<- r.length];exact z,?_⟩);have hf:H1 s1.heap.objs.size=Ξ:=I1.G3.fresh (n_ _);refine⟨.ref s1.heap.objs.size,upd H1 s1.heap.objs.size (.lst xs),I1.laid (t':=s1.toks) (λb u e=>r_ _ e) (n_ _) ?_,rfl,q _ hf⟩;exact⟨z,us,0,r,D_ _ rfl⟩
@[reducible]def Sp:=Ë->Hp->VK->XK->Prop
@[reducible]def II:=List Env->Hp->Ω->XK->Φ->Á
structure IY (P:Β)(w:Α)(K:Frag)(mg:Str->Option Φ)(base:Heap)(A:Η)(outer:List Env)(s:Ω)(H:Hp):Prop where
 frames:A.frames=Γ outer
 mod:Mod K mg base
 bs:∀b o,base.get? b=Γ o->s.heap.get? b=Γ o/\H b=Ξ
 L3:base.objs.size<=s.heap.objs.size
 IA:s.heap.FunFrames base outer
 Lo:∀b∈Jr outer,H b=Ξ
 G3:Hv P w H s.heap
 bare:AllBare s.gens
def CE (outer:List Env)(P:Β)(w:Α)(H:Hp)(s:Ω)(Q:VK)(u:Φ)(s':Ω):Prop:=
 ∃v H',s'.os=s.os/\AllBare s'.gens/\Un (Jr outer) [] H H' s.heap s'.heap/\Hv P w H' s'.heap/\RelV v u/\Q v H'
def CR (CX:II)(outer:List Env)(P:Β)(w:Α)(H:Hp)(s:Ω)(Q:VK)(E:XK)(r:Result)(s':Ω):Prop:=
 match r with
 |.ok (.ret u)=>CE outer P w H s Q u s'
 |.ok _=>False
 |.error e=>CX outer H s E e s'
structure Ic (P:Β)(w:Α)(K:Frag)(mg:Str->Option Φ)(base:Heap)(CX:II)(k:Nat)(f:Ψ)(fd:Ν)(ps:Â)(sp:Sp):Prop where
 len:∀vs H Q E,sp vs H Q E->vs.length=ps.length
 run:∀(A:Η) (outer:List Env) (s:Ω) (H:Hp) (args:Args) (us:List Φ) (vs:Ë) (Q:VK) (E:XK),Hh k A->IY P w K mg base A outer s H->BindsTo s fd args (ps.zip us)->Vals vs us->sp vs H Q E->
  codeAny (Κ P w) A (.call (.ref f) args) (CR CX outer P w H s Q E) s
def IY.make {P:Β}{w:Α}{K:Frag}{mg:Str->Option Φ}{base:Heap}{A:Η}{outer:List Env}{s:Ω}{H:Hp}(e:IY P w K mg base A outer s H)(C:Ψ)(us:List Φ)(kw:List (Str×Φ)) :
  IY P w K mg base (A.under (.builtin "type.__call__" ⟨.ref C::us,kw⟩)) outer s H:=⟨by first|exact e.frames|(simpa[Around.under,Code.envs,Code.isFrame,pushEnvs] using e.frames),e.mod,e.bs,e.L3,e.IA,e.Lo,e.G3,e.bare⟩
def Inv.IZ (I:Inv X pins σ H s):IY X.prog X.w X.K X.mg X.base X.A X.stack s H:=
 ⟨I.ok.frames,I.ok.mod,I.bs,Q_ I.ok.L3 I.sz,I.stack,I.K7,I.G3,I.bare⟩
def Inv.after (I:Inv X pins σ H s)(h:CE X.stack X.prog X.w H s Q u s'):EP X pins σ Q u s':=by obtain⟨v,H',os,bare,un,G3,r,q⟩:=h;obtain⟨hh,g,d,t,PD⟩:=s';obtain rfl:PD=s.os:=os;exact⟨v,H',I.call (h':=hh) (g':=g) (d':=d) (t':=t) (ch:=[]) un G3 bare (λb z=>absurd z (by simp)),r,q⟩
def Binds (K:Frag)(fd:Ν)(ps:Â)(ds:List Φ):Prop:=
 ∀(s:Ω) (us:List Φ),K.In s.heap->(us++ds).length=ps.length->BindsTo s fd ⟨us,[]⟩ (ps.zip (us++ds))
def Binds.all {K:Frag}  (h:∀us:List Φ,us.length=ps.length->bindArgs fd ⟨us,[]⟩=pure (ps.zip us)):Binds K fd ps []:=λs us _ hl=>by rw[R_]at hl ⊢;exact .of_eq (h us hl)
def Passes (CX:II)(X:Cx)(E:XK):Prop:=∀(pins:List (Ψ×Obj)) (σ:St) (H:Hp) (s:Ω) (e:Φ) (s':Ω),Inv X pins σ H s->CX X.stack H s E e s'->X.xe e s'
structure Mk (K:Frag)(C f:Ψ):Prop where
 makes:PySem.W.makesIn K C=Δ
 init:PySem.W.findIn K (.ref C) "__init__" = Γ (Γ (.ref f))
 fn:PySem.W.isFn K (.ref f)=Δ
 kp:PySem.W.keepIn K (.ref C)=Δ
def PK (X:Cx)(Iq:List Keyword)(t:TA):Prop:=
 ∀(pos:Pos) (pins:List (Ψ×Obj)) (s:Ω) (σ:St) (H:Hp) (Q:Ë->Hp->Prop),Inv X pins σ H s->t σ H Q->Ι (Κ X.prog X.w) X.A (evalAll ((backToKw pos (keywordEach Iq X.env)).map (·.2))) (AP X pins σ Q) X.xe s
def A8 {X:Cx}:PK X [] qf:=λ_ _ _ _ H Q I h=>wpAny_evalAll_nil ⟨[],H,I,.nil,h⟩
def xN {X:Cx}{kpos:Pos}{e:Expr}{Iq:List Keyword}{te:TE}{t:TA}{nm:Option Str}(ha:PE X e te)(hr:PK X Iq t):PK X (⟨nm,e,kpos⟩::Iq) (jT te t):=by intro pos pins s σ H Q I h;show Ι _ _ (evalAll ((do let v <- eval e X.env;standAt pos;pure v)::(backToKw pos (keywordEach Iq X.env)).map (·.2))) _ _ s;refine wpAny_evalAll_cons (i_ (G5 (ha pins s σ H _ I h) λu s1 ⟨x,H1,I1,r1,q1⟩=>i_ (wpAny_standAt (o_ ?_))));exact G5 (hr pos pins s1 σ H1 _ I1 q1) λus s2 ⟨xs,H2,I2,r2,q2⟩=>⟨x::xs,H2,I2,.cons r1 r2,q2⟩
structure JX (N P:Â)(sc:Scope):Prop where
 kind:sc.kind=.function
 co:sc.isCoroutine=Θ
 gen:sc.isGenerator=Θ
 nd:N.Nodup
 pre:N.take P.length=P
 par:∀x∈P,sc.names.lookup x=Γ .local∨sc.names.lookup x=Γ .cell
 N0:∀y∈sc.names,y.2≠.free
theorem oJ {kindOf:Str->Option NameKind}  : ∀ {binds:List (Str×Φ)}{m:Str->Option Φ},(∀v,(x,v)∉binds)->bindL kindOf binds m x=m x
 |[],_,_=>rfl
 | (n,v)::r,m,h=>by
  unfold bindL;rw[oJ λw hw=>h w (H_ _ hw)];split
  ·have:x≠n:=by rintro rfl;exact h v aai
   simp[this]
  ·rfl
theorem oK {kindOf:Str->Option NameKind}  : ∀ {binds:List (Str×Φ)}{m:Str->Option Φ},(∀v,(x,v)∉binds)->bindC kindOf binds m x=m x
 |[],_,_=>rfl
 | (n,v)::r,m,h=>by
  unfold bindC;rw[oK λw hw=>h w (H_ _ hw)];split
  ·rfl
  ·have:x≠n:=by rintro rfl;exact h v aai
   simp[this]
theorem oM {kindOf:Str->Option NameKind}{x:Str}  : ∀ {P:Â}{vs:List Φ}{i:Nat}{m:Str->Option Φ},P.Nodup->P[i]? = Γ x->vs[i]? = Γ v->kindOf x=Γ .local->
  bindL kindOf (P.zip vs) m x=Γ v
 |[],_,_,_,_,h,_,_=>by simp at h
 |_::_,[],_,_,_,_,h,_=>by simp at h
 |p::P,w::vs,0,m,nd,h1,h2,hk=>by simp at h1 h2;subst h1;subst h2;show bindL kindOf ((p,w)::P.zip vs) m p=_;unfold bindL;rw[oJ λv hv=>(q_.mp nd).1 (List.of_mem_zip hv).1,d_ hk];simp
 |p::P,w::vs,i+1,m,nd,h1,h2,hk=>by show bindL kindOf ((p,w)::P.zip vs) m x=_;unfold bindL;exact oM (i:=i) (q_.mp nd).2 (by simpa using h1) (by simpa using h2) hk
theorem oO {kindOf:Str->Option NameKind}{x:Str}  : ∀ {P:Â}{vs:List Φ}{i:Nat}{m:Str->Option Φ},P.Nodup->P[i]? = Γ x->vs[i]? = Γ v->kindOf x≠Γ .local->
  bindC kindOf (P.zip vs) m x=Γ v
 |[],_,_,_,_,h,_,_=>by simp at h
 |_::_,[],_,_,_,_,h,_=>by simp at h
 |p::P,w::vs,0,m,nd,h1,h2,hk=>by simp at h1 h2;subst h1;subst h2;show bindC kindOf ((p,w)::P.zip vs) m p=_;unfold bindC;rw[oK λv hv=>(q_.mp nd).1 (List.of_mem_zip hv).1,b_ hk];simp
 |p::P,w::vs,i+1,m,nd,h1,h2,hk=>by show bindC kindOf ((p,w)::P.zip vs) m x=_;unfold bindC;exact oO (i:=i) (q_.mp nd).2 (by simpa using h1) (by simpa using h2) hk
abbrev start (N:Â)(vs:Ë):St:=vs.map Γ++Ρ (N.length - vs.length) Ξ
abbrev uY (CX:II)(P:Β)(w:Α)(K:Frag)(mg:Str->Option Φ)(base:Heap)(N:Â)(qual:Str)(scope:Scope)(f:Ψ)(cd:Φ)(A:Η)(outer:List Env)(s:Ω)(H:Hp)(E:XK):Cx where
 prog:=P
 w:=w
 K:=K
 mg:=mg
 base:=base
 A:=A.deeper (envOfC qual scope s.heap.objs.size f cd)
 N:=N
 Hz:=s
 Kh:=H
 env:=envOfC qual scope s.heap.objs.size f cd
 outer:=outer
 stack:=envOfC qual scope s.heap.objs.size f cd::outer
 ex:=[]
 calm:=A.handled.isNone
 fn:=λ_=>Δ
 pn:=[]
 xe:=λe s'=>Ι (Κ P w) (A.deeper (envOfC qual scope s.heap.objs.size f cd)) (leaving (envOfC qual scope s.heap.objs.size f cd) e) (λ_ Lr=>CX outer H s E e Lr) (λe' Lr=>CX outer H s E e' Lr) s'
def qg {sc:Scope}  (h:sc.names.lookup x=Γ .cell):∃c,(cellsFrom n sc.names []).lookup x=Γ c:=by have q:=PySem.W.cellsFrom_some sc.names n [] (.inl h);exact Option.isSome_iff_exists.mp q
def t9 {K:Frag}
  (S:JX N ps scope) (e0:IY P w K mg base A outer s H) (hl:vs.length=ps.length) (r:Vals vs us)
  (x:InCallC s s.heap.objs.size (bindL (envOfC qual scope s.heap.objs.size f cd).kindOf (ps.zip us) λ_=>Ξ) (cellsFrom (s.heap.objs.size+1) scope.names []) (bindC (envOfC qual scope s.heap.objs.size f cd).kindOf (ps.zip us) λ_=>Ξ) s1) :
  Inv (uY CX P w K mg base N qual scope f cd A outer s H E) [] (start N vs) H s1:=by
 have N1:ps.length<=N.length:=by have:=congrArg List.length S.pre;rw[O_]at this;omega
 obtain⟨h1,tk,rfl,hk⟩:=x.done;have PF:∀b:Ψ,b∉(uY CX P w K mg base N qual scope f cd A outer s H E).ex:=λb z=>absurd (show b∈([]:È) from z) (by simp)
 refine⟨⟨e0.mod,S.kind,rfl,rfl,n_ _,λy z c h1 h2=>?_,λy hy=>?_,λy c _ h=>?_,λh=>Option.isNone_iff_eq_none.mp h,Around.frames_deeper e0.frames,.inr ⟨rfl,rfl⟩,λb z=>absurd z (PF b),e0.bs,e0.L3,λb _ _=>PF b,λb z=>absurd z (PF b),e0.IA,e0.Lo⟩,
  rfl,e0.bare,Un.kept hk,⟨_,x.toInCall.ns,λi y v h1 h2 h3=>?_⟩,λy c h=>⟨_,x.cell y c h⟩,e0.G3.fresh (n_ _),λy c h=>?_,λp hp=>absurd (show p∈([]:List (Ψ×Obj)) from hp) (by simp),e0.G3.kept hk,?_⟩
 ·exact name_of_addr x.apart (PySem.mem_of_lookup h1) (PySem.mem_of_lookup h2)
 ·have hy:scope.names.lookup y=Γ .cell∨scope.names.lookup y=Γ .free:=hy;rcases hy with hy|hy
  ·exact qg hy
  ·exact absurd rfl (S.N0 _ (PySem.mem_of_lookup hy))
 ·exact Nat.le_of_lt (x.above y c (PySem.mem_of_lookup h))
 ·have hi:i < vs.length:=by
   unfold start at h2;by_cases hi:i < vs.length
   ·exact hi
   ·rw[aan (by simpa using hi)]at h2;rw[List.getElem?_replicate]at h2;split at h2<;>cases h2
  have ha:vs[i]? = Γ v:=by
   unfold start at h2;rw[aam (by simpa using hi),z_]at h2;cases e:vs[i]? with
   |none=>rw[e]at h2;cases h2
   |some a=>rw[e]at h2;cases h2;rfl
  obtain⟨u,hu,rv⟩:=r.get ha;have hp:ps[i]? = Γ y:=by rw[<- S.pre,List.getElem?_take_of_lt (by omega)];exact h1
  have Vn:ps.Nodup:=by rw[<- S.pre];exact S.nd.sublist (List.take_sublist _ _)
  refine⟨u,rv,?_⟩;rcases S.par y (S_ hp) with k|k
  ·exact .inl ⟨k,oM Vn hp hu k⟩
  ·obtain⟨c,e⟩:=qg (n:=s.heap.objs.size+1) k;refine .inr ⟨.inl k,c,e,?_⟩;have q:=x.cell y c e;rw[oO Vn hp hu (by show scope.names.lookup y≠_;rw[k];decide)]at q;exact q
 ·exact e0.G3.fresh (Nat.le_of_lt (x.above y c (PySem.mem_of_lookup h)))
 ·unfold start;show _=N.length;rw[u_,h_,List.length_replicate];omega
def zN {K:Frag}  {name:Str}{kV:Φ}
 (lk:K.lookup f=Γ ⟨oc,od,.func (PySem.W.fnOf name qual params body scope dV kV doc pm an KA ct),N2⟩) (ME:PySem.W.codeIn K KA qual=Δ) (S:JX N ps scope)
  (Xl:k % 1000≠999) (len:∀vs H Q E,sp vs H Q E->vs.length=ps.length)
  (PH:∀(A:Η) (outer:List Env) (s:Ω) (H:Hp) (vs:Ë) (Q:VK) (E:XK),Hh k (A.deeper (envOfC qual scope s.heap.objs.size f KA))->sp vs H Q E->
   ∃t,Ke (uY CX P w K mg base N qual scope f KA A outer s H E) body t/\t {nx:=λ_ H'=>Q .Gx H',rt:=Q} (start N vs) H) :
  Ic P w K mg base CX (k+1) f (PySem.W.fnOf name qual params body scope dV kV doc pm an KA ct) ps sp:=by
 refine⟨len,λA outer s H args us vs Q E hr e0 hb r KC=>?_⟩;have hl:=len _ _ _ _ KC;have KX:K.In s.heap:=e0.mod.MD.keeps λb o e=>(e0.bs b o e).1;have lim:s.heap.NoLimit:=e0.mod.nolimit.keeps λb o e=>(e0.bs b o e).1;have PJ:∀y∈ps.zip us,scope.names.lookup y.1=Γ .local∨(scope.names.lookup y.1=Γ .cell/\((cellsFrom (s.heap.objs.size+1) scope.names []).lookup y.1).isSome=Δ):=λ⟨n,v⟩ hy=>by
  rcases S.par n (List.of_mem_zip hy).1 with q|q
  ·exact .inl q
  ·exact .inr ⟨q,PySem.W.cellsFrom_some _ _ _ (.inl q)⟩
 refine codeAny_call_function hr.depth (KX _ _ lk) rfl S.co S.gen rfl (PySem.W.codeRec_of KX ME) (hb _ _ _ _ ?_);refine wpAny_newFunctionEnv_cells S.kind PJ λenv he s1 x=>?_;subst he;refine⟨lim.keeps x.toInCall.keep,codeAny_func ?_⟩;obtain⟨t,ht,hq⟩:=PH A outer s H vs Q E (hr.deeper _ Xl) KC;have I:Inv (uY CX P w K mg base N qual scope f KA A outer s H E) [] (start N vs) H s1:=t9 S e0 hl r x;refine wpAny_mono (ht [] s1 (start N vs) H _ I hq) (λfl s' hs=>?_) λe s' hs=>hs;have fin:∀ {G1:St}{H':Hp}{v:V}{u:Φ},Inv (uY CX P w K mg base N qual scope f KA A outer s H E) [] G1 H' s'->RelV v u->Q v H'->CE outer P w H s Q u s':=
  λ{G1 H' v u} J rv q=>⟨v,H',J.os,J.bare,J.base,J.G3,rv,q⟩
 cases fl with
 |ret u=>obtain⟨v,G1,H',J,rv,q⟩:=hs;exact fin J rv q
 |next=>obtain⟨G1,H',J,q⟩:=hs;exact fin (v:=V.Gx) (u:=Value.none) J rfl q
 |brk=>obtain⟨_,_,_,q⟩:=hs;exact False.elim q
 |cont=>obtain⟨_,_,_,q⟩:=hs;exact False.elim q
def RZ (r:Ë->Hp->VK->Prop)(t:TA):TE:=λσ H Q=>t σ H λvs H1=>r vs H1 Q
def nr {id:String}(hc:jJ X (.builtin id) r)(hg:Gl X x)(hm:X.mg x=Ξ)(hv:bootBuiltins x=Γ (.builtin id))(ha:PA X (e::es) t)(hn:x≠"__name__":=by decide) (R3:(x == ("__debug__" : Str))=Θ:=by decide)
  (he:Μ (e::es) X.env=(Θ,eval e X.env)::Μ es X.env:=by rfl) (N1:(backTo pos (Μ es X.env)).any (·.1)=Θ:=by rfl):PE X (.Call (.Name x p) (e::es) [] pos) (RZ r t):=by
 intro pins s σ H Q I h;refine P_ (jB I hg hm hv ?_ hn R3);exact PyProof.Rows.callWith_builtin1 (G5 (ha pos pins s σ H _ I h) λus s1 ⟨vs,H1,I1,r1,q1⟩=>hc pins s1 σ H1 vs us Q I1 r1 q1) he N1
def mi (hc:jJ X (.type T) r)(hg:Gl X x)(hm:X.mg x=Ξ)(hv:bootBuiltins x=Γ (.type T))(ha:PA X (e::es) t)(hn:x≠"__name__":=by decide) (R3:(x == ("__debug__" : Str))=Θ:=by decide)
  (he:Μ (e::es) X.env=(Θ,eval e X.env)::Μ es X.env:=by rfl) (N1:(backTo pos (Μ es X.env)).any (·.1)=Θ:=by rfl):PE X (.Call (.Name x p) (e::es) [] pos) (RZ r t):=by
 intro pins s σ H Q I h;refine P_ (jB I hg hm hv ?_ hn R3);exact aae (G5 (ha pos pins s σ H _ I h) λus s1 ⟨vs,H1,I1,r1,q1⟩=>hc pins s1 σ H1 vs us Q I1 r1 q1) he N1
end L2
namespace HT
open PySem PyProof.Rows
abbrev JH (n d:Nat):Option Int->Nat
 |none=>d
 |some v=>if v < 0 then(v+(n:Int)).toNat else min v.toNat n
end HT
namespace L2
open PySem PySem.Spec PyProof.Rows
@[reducible]def TO:=St->Hp->(Option Int->Hp->Prop)->Prop
def PO (X:Cx)(e:Option Expr)(t:TO):Prop:=
 ∀(pins:List (Ψ×Obj)) (s:Ω) (σ:St) (H:Hp) (Q:Option Int->Hp->Prop),Inv X pins σ H s->t σ H Q->
  Ι (Κ X.prog X.w) X.A (evalPart e X.env) (λu s'=>∃o H',Inv X pins σ H' s'/\IsPart u o/\Q o H') X.xe s
def xO:TO:=λ_ H Q=>Q Ξ H
def C8 (t:TE):TO:=λσ H Q=>t σ H λx H1=>∃i,x=.int i/\Q (Γ i) H1
def xP:PO X Ξ xO:=by intro pins s σ H Q I h;rw[evalPart_none];exact o_ ⟨Ξ,H,I,.none,h⟩
def xQ (h:PE X e te):PO X (Γ e) (C8 te):=by intro pins s σ H Q I hw;rw[evalPart_some];refine G5 (h pins s σ H _ I hw) λu s1 Gz=>?_;obtain⟨x,H1,I1,r1,q1⟩:=Gz;obtain⟨i,rfl,q⟩:=q1;obtain⟨t,rfl⟩:=r1;exact⟨Γ i,H1,I1,.int i t,q⟩
def QY (X:Cx)(r:V->Option Int->Option Int->Hp->VK->Prop):Prop:=
 ∀(pins:List (Ψ×Obj)) (s:Ω) (σ:St) (H:Hp) (x:V) (v vl vu:Φ) (lo hi:Option Int) (sl:Ψ) (Q:VK),Inv X pins σ H s->RelV x v->s.heap.IsSliceOf sl vl vu .none->IsPart vl lo->IsPart vu hi->r x lo hi H Q->
  ∃T id,typeLookup (.type T) "__getitem__" = pure (Γ (.builtin id))/\s.TypeIs v T/\Ι (Κ X.prog X.w) X.A (getItem v (.ref sl)) (EP X pins σ Q) X.xe s
def Xm (r:V->Option Int->Option Int->Hp->VK->Prop)(te:TE)(tl th:TO):TE:=λσ H Q=>te σ H λx H1=>tl σ H1 λl H2=>th σ H2 λu H3=>r x l u H3 Q
def qh {lo:Option Expr}(hr:QY X r)(he:PE X e te)(hl:PO X lo tl)(hu:PO X hi th):PE X (.Subscript e (.Slice lo hi Ξ p2) pos) (Xm r te tl th):=by intro pins s σ H Q I h;refine Subscript_ (G5 (he pins s σ H _ I h) λv s1 ⟨x,H1,I1,r1,q1⟩=>?_);refine wpAny_Slice (G5 (hl pins s1 σ H1 _ I1 q1) λvl s2 ⟨l,H2,I2,pl,q2⟩=>G5 (hu pins s2 σ H2 _ I2 q2) λvu s3 ⟨u,H3,I3,pu,q3⟩=>?_);rw[evalPart_none];refine o_ ?_;have I4:Inv X pins σ H3 {s3 with heap:=s3.heap.push {cls:=.type "slice",data:=.fields #[vl,vu,.none]}}:=I3.kept (t':=s3.toks) λb ob q=>r_ _ q;obtain⟨T,id,hT,ht,hg⟩:=hr pins {s3 with heap:=s3.heap.push {cls:=.type "slice",data:=.fields #[vl,vu,.none]}} σ H3 x v vl vu l u s3.heap.objs.size Q I4 r1 (Heap.IsSliceOf.new ..) pl pu q3;show Ι (Κ X.prog X.w) X.A (subscriptTail e (.Slice lo hi Ξ p2) v (.ref s3.heap.objs.size)) (EP X pins σ Q) X.xe {s3 with heap:=s3.heap.push {cls:=.type "slice",data:=.fields #[vl,vu,.none]}};exact tail_any (ops:=[.ref s3.heap.objs.size,v]) ht hT hg (by with_unfolding_all rfl)
abbrev ua (xs:Ë)(lo hi:Option Int):Ë:=(xs.drop (HT.JH xs.length 0 lo)).take (HT.JH xs.length xs.length hi - HT.JH xs.length 0 lo)
def qi (xs:Ë)(lo hi:Option Int):(ua xs lo hi).length<=xs.length:=by unfold ua;rw[O_,List.length_drop];omega
@[reducible]def _root_.É:=Option Nat
abbrev JI (n:Nat)(i:Int):É:=if 0<=i then(if i < n then Γ i.toNat else Ξ) else if -(n:Int)<=i then Γ (i+n).toNat else Ξ
abbrev Ib {α:Type}(xs:List α)(i:Int):Option α:=(JI xs.length i).bind λj=>xs[j]?
def sL (h:JI n i=Γ j):seqIndex? i n=Γ j/\j < n/\-(n:Int)<=i/\i < n:=by
 unfold JI at h;by_cases h0:0<=i
 ·rw[d_ h0]at h;by_cases h1:i < n
  ·rw[d_ h1]at h;have e:i.toNat=j:=B_ h;exact⟨by rw[seqIndex_of h0 h1,e],by omega,by omega,h1⟩
  ·rw[b_ h1]at h;cases h
 ·rw[b_ h0]at h;by_cases h1 : -(n:Int)<=i
  ·rw[d_ h1]at h;have e:(i+n).toNat=j:=B_ h;exact⟨by rw[seqIndex_neg (by omega) h1,e],by omega,h1,by omega⟩
  ·rw[b_ h1]at h;cases h
def pk (h:Ib xs i=Γ v):∃j,seqIndex? i xs.length=Γ j/\xs[j]? = Γ v/\j < xs.length/\-(xs.length:Int)<=i/\i < xs.length:=by
 unfold Ib at h;cases e:JI xs.length i with
 |none=>rw[e]at h;cases h
 |some j=>rw[e]at h;obtain⟨h1,h2,h3,h4⟩:=sL e;exact⟨j,h1,h,h2,h3,h4⟩
def xR (b:Expr):Prop:=∀o i,subscripted b Θ o i=operate [o,i] (getItem o i)
def MH (X:Cx)(r:R2):Prop:=
 ∀(value slice:Expr) (pins:List (Ψ×Obj)) (s:Ω) (σ:St) (H:Hp) (x y:V) (v u:Φ) (Q:VK),Inv X pins σ H s->RelV x v->RelV y u->r x y H Q->
  subscripted slice Θ v u=operate [v,u] (getItem v u)->Ι (Κ X.prog X.w) X.A (subscriptTail value slice v u) (EP X pins σ Q) X.xe s
def Vo (X:Cx)(id:String)(r:V->Ë->Hp->VK->Prop):Prop:=
 ∀(pins:List (Ψ×Obj)) (s:Ω) (σ:St) (H:Hp) (x:V) (xs:Ë) (v:Φ) (us:List Φ) (Q:VK),Inv X pins σ H s->RelV x v->Vals xs us->r x xs H Q->
  Ι (Κ X.prog X.w) X.A (call (.builtin id) (v::us)) (EP X pins σ Q) X.xe s
def MH.or (h:MH X r)(h':MH X r'):MH X (λx y H Q=>r x y H Q∨r' x y H Q):=by
 intro value slice pins s σ H x y v u Q I rx ry q hs;rcases q with q|q
 ·exact h value slice pins s σ H x y v u Q I rx ry q hs
 ·exact h' value slice pins s σ H x y v u Q I rx ry q hs
def zP (hr:MH X r)(ha:PE X a ta)(hb:PE X b tb)(hs:xR b):PE X (.Subscript a b pos) (QX r ta tb):=by intro pins s σ H Q I h;exact Subscript_ (AY ha hb I h λv u s2 x y H2 I2 rx ry q=>hr a b pins s2 σ H2 x y v u Q I2 rx ry q (hs _ _))
def C9 (K:Frag):R2:=λx y H Q=>∃p xs i v,x=.ref p/\y=.int i/\HJ K H p xs/\Ib xs i=Γ v/\Q v H
def Dc (K:Frag):R2:=λx y H Q=>∃p xs i v,x=.ref p/\y=.int i/\HK K H p xs/\Ib xs i=Γ v/\Q v H
def Dd:R2:=λx y H Q=>∃z i c,x=.str z/\y=.int i/\z.length<=Ε/\Ib z.cps.toList i=Γ c/\Q (.str ⟨#[c]⟩) H
def sM:MH X (C9 X.K):=by
 intro value slice pins s σ H x y v u Q I rx ry h hs;obtain⟨p,xs,i,z,rfl,rfl,hq,he,q⟩:=h;cases rx;obtain⟨t,rfl⟩:=ry;obtain⟨its,r,pl,hz⟩:=I.list hq;obtain⟨j,h1,h2,h3,h4,h5⟩:=pk he;obtain⟨w,ew,M0⟩:=r.get h2;have hl:=r.length;have hn:=mf;have fin:EP X pins σ Q w s:=⟨z,H,I,M0,q⟩
 by_cases h0:0<=i
 ·have hj:i.toNat=j:=by rw[seqIndex_of h0 h5]at h1;exact B_ h1
  exact item_listR pl.isList h0 (by omega) (by rw[hj];simpa using ew) fin hs
 ·have hj:(i+(its.toArray.size:Int)).toNat=j:=by rw[seqIndex_neg (by omega) h4]at h1;rw[w_,<- hl];exact B_ h1
  exact subscriptTail_builtinR (x:=w) pl.isList.typeIs slot_list_getitem.lookup
   (wpAny_getItem_list_neg (Q:=λr s'=>r=w/\EP X pins σ Q r s') pl.isList (by omega) (by rw[w_]<;>omega) (by omega) (by rw[hj];simpa using ew) ⟨rfl,fin⟩) hs
def A9:MH X (Dc X.K):=by
 intro value slice pins s σ H x y v u Q I rx ry h hs;obtain⟨p,xs,i,z,rfl,rfl,hq,he,q⟩:=h;cases rx;obtain⟨t,rfl⟩:=ry;obtain⟨its,r,pl,hz⟩:=I.tuple hq;obtain⟨j,h1,h2,h3,h4,h5⟩:=pk he;obtain⟨w,ew,M0⟩:=r.get h2;have hl:=r.length;have hn:=mf;have fin:EP X pins σ Q w s:=⟨z,H,I,M0,q⟩
 exact subscriptTail_builtinR (x:=w) pl.typeIs slot_tuple_getitem.lookup
  (getItem_tuple (j:=j) (Q:=λr s'=>r=w/\EP X pins σ Q r s') pl (by omega) (by omega) (by rw[w_,<- hl];exact h1) (by simpa using ew) ⟨rfl,fin⟩) hs
def Ba:MH X Dd:=by
 intro value slice pins s σ H x y v u Q I rx ry h hs;obtain⟨z,i,c,rfl,rfl,hz,he,q⟩:=h;obtain⟨t,rfl⟩:=rx;obtain⟨t',rfl⟩:=ry;obtain⟨j,h1,h2,h3,h4,h5⟩:=pk he;have hl:z.cps.toList.length=z.length:=by simp[Str.length]
 rw[hl]at h1 h4 h5;have hn:=mf
 exact tail_any (typeIs_str s z t) slot_str_getitem.lookup (getItem_str (c:=c) (by
  have e1:decide (i < -(2 ^ 63:Int))=Θ:=x_ (by omega);have e2:decide (i >= 2 ^ 63)=Θ:=x_ (by omega)
  rw[e1,e2,Bool.or_false]) (by rw[h1];simpa using h2) ⟨.str ⟨#[c]⟩,H,I.tok _,⟨_,rfl⟩,q⟩) hs
def Xn (K:Frag):R2:=λx y H Q=>C9 K x y H Q∨Dc K x y H Q∨Dd x y H Q
def Bb:MH X (Xn X.K):=sM.or (A9.or Ba)
def rG (its:List Φ)(n j:Nat)(u:Φ):θ (·.setIfInBounds j u) {cls:=.type "list",data:=.seq its.toArray n} = {cls:=.type "list",data:=.seq (its.set j u).toArray n}:=by simp[θ]
theorem Inv.lst (I:Inv X pins σ H s)(h:H p=Γ (.lst xs)) :
  ∃(its:List Φ) (n:Nat),Vals xs its/\s.heap.get? p=Γ {cls:=.type "list",data:=.seq its.toArray n}/\xs.length<=Ε:=by
 obtain⟨z,its,n,r,e⟩:=I.G3 p _ h;exact⟨its,n,r,e,z⟩
def Inv.N3 {its:List Φ}(I:Inv X pins σ H s)(h:H p=Γ (.lst xs))
  (ho:s.heap.get? p=Γ {cls:=.type "list",data:=.seq its.toArray n}) (hf:f {cls:=.type "list",data:=.seq its.toArray n} = {cls:=.type "list",data:=.seq its'.toArray n'}) (r:Vals ys its') (hz:ys.length<=Ε) (t:Nat) :
  Inv X pins σ (upd H p (.lst ys)) {s with heap:=s.heap.update p f,toks:=t}:=by
 have e:(s.heap.update p f).get? p=Γ {cls:=.type "list",data:=.seq its'.toArray n'}:=by rw[Heap.get?_update_self f ho (by rw[hf]<;>rfl),hf]
 refine I.write (x:=p) (e:=p) (by rw[h];trivial) (.inl rfl) (λb u hb q=>(Heap.get?_update_other _ _ (Ne.symm hb)).trans q) ⟨_,e⟩ ?_;exact⟨hz,its',n',r,e⟩
def De:V->V->V->Hp->(Hp->Prop)->Prop:=λo i v H Q=>∃p xs k j,o=.ref p/\i=.int k/\H p=Γ (.lst xs)/\JI xs.length k=Γ j/\Q (upd H p (.lst (xs.set j v)))
def set_list:C2 X De:=by
 intro pins s σ H o i v ov iv u Q I ro ri rv h;obtain⟨p,xs,k,j,rfl,rfl,hp,hj,q⟩:=h;cases ro;obtain⟨t,rfl⟩:=ri;obtain⟨its,n,r,ho,hz⟩:=I.lst hp;obtain⟨h1,h2,h3,h4⟩:=sL hj;have hl:=r.length;have hn:=mf;have I':Inv X pins σ (upd H p (.lst (xs.set j v))) {s with heap:=s.heap.update p (θ (·.setIfInBounds j u))}:=
  I.N3 hp ho (rG its n j u) (r.set rv j) (by rw[List.length_set];exact hz) s.toks
 by_cases h0:0<=k
 ·have hk:k.toNat=j:=by rw[seqIndex_of h0 h4]at h1;exact B_ h1
  exact PySem.W.ki_setAt ho h0 (by omega) (by rw[w_,<- hl];exact h4) (by rw[hk];exact⟨_,I',q⟩)
 ·have hk:(k+(its.toArray.size:Int)).toNat=j:=by rw[seqIndex_neg (by omega) h3]at h1;rw[w_,<- hl];exact B_ h1
  exact PySem.W.ki_setBack ho (by omega) (by rw[w_,<- hl];exact h3) (by omega) (by rw[hk];exact⟨_,I',q⟩)
def pq (lo hi:Option Int)(n:Nat):(sliceBounds lo hi Ξ n).1=((HT.JH n 0 lo:Nat):Int)/\(sliceBounds lo hi Ξ n).2.1=((HT.JH n n hi:Nat):Int)/\(sliceBounds lo hi Ξ n).2.2=1:=by
 refine⟨?_,?_,rfl⟩
 ·cases lo with
  |none=>simp[sliceBounds,HT.JH]
  |some i=>
   simp only[sliceBounds,HT.JH,Option.getD_none,show(1:Int) > 0 by decide,if_true];by_cases h:i < 0
   ·simp only[h,if_true]<;>omega
   ·simp only[h,if_false]<;>omega
 ·cases hi with
  |none=>simp[sliceBounds,HT.JH]
  |some i=>
   simp only[sliceBounds,HT.JH,Option.getD_none,show(1:Int) > 0 by decide,if_true];by_cases h:i < 0
   ·simp only[h,if_true]<;>omega
   ·simp only[h,if_false]<;>omega
def ou (its:List Φ)(lo hi:Option Int):slicePick its.toArray lo hi Ξ=((its.drop (HT.JH its.length 0 lo)).take (HT.JH its.length its.length hi - HT.JH its.length 0 lo)).toArray:=by obtain⟨h1,h2,h3⟩:=pq lo hi its.toArray.size;unfold slicePick;rw[h1,h2,h3];simp only[sliceRange_one,pick_run,w_]<;>rfl
def Fm (K:Frag):V->Option Int->Option Int->Hp->VK->Prop:=λx lo hi H Q=>∃a xs,x=.ref a/\HJ K H a xs/\∀p,H p=Ξ->Q (.ref p) (upd H p (.lst (ua xs lo hi)))
def sN:QY X (Fm X.K):=by intro pins s σ H x v vl vu lo hi sl Q I rx hs pl pu h;obtain⟨a,xs,rfl,hx,q⟩:=h;cases rx;obtain⟨its,r,ht,hz⟩:=I.list hx;have hlen:=r.length;refine⟨"list",_,slot_list_getitem.lookup,ht.isList.typeIs,?_⟩;refine wpAny_getItem_list_slice ht.isList hs pl pu .none (by simp) ?_ (by rw[w_]<;>omega);rw[ou,<- hlen];refine⟨.ref s.heap.objs.size,_,I.laid (t':=s.toks) (o:=.lst (ua xs lo hi)) (λb ob q=>r_ _ q) (n_ _) ?_,rfl,q _ (I.G3.fresh (n_ _))⟩;exact⟨Q_ (qi xs lo hi) hz,_,0,(r.drop (HT.JH xs.length 0 lo)).take (HT.JH xs.length xs.length hi - HT.JH xs.length 0 lo),D_ _ rfl⟩
def jN:jJ X (.type "list") (λxs H Q=>∃p ys,xs=[.ref p]/\(HJ X.K H p ys∨HK X.K H p ys)/\∀l,H l=Ξ->Q (.ref l) (upd H l (.lst ys))):=by
 intro pins s σ H xs us Q I r h;obtain⟨p,ys,rfl,hq,q⟩:=h;obtain⟨u,rfl,rx⟩:=vals1 r;cases rx;have fin:∀(its:List Φ),Vals ys its->ys.length<=Ε->∀(h':Heap) (c':Nat),(∀b o',s.heap.get? b=Γ o'->h'.get? b=Γ o')->
   h'.get? s.heap.objs.size=Γ {cls:=.type "list",dict:=Ξ,data:=.seq its.toArray c',slots:=#[]}->EP X pins σ Q (.ref s.heap.objs.size) {s with heap:=h'}:=λits r' hz h' c' kp e=>
  ⟨.ref s.heap.objs.size,_,I.laid (t':=s.toks) kp (n_ _) (show iQ X.prog X.w _ h' _ (.lst ys) from⟨hz,its,c',r',e⟩),rfl,q _ (I.G3.fresh (n_ _))⟩
 rcases hq with hq|hq
 ·obtain⟨its,r',pl,hz⟩:=I.list hq;have hlen:=r'.length;obtain⟨o,ho,hc,n,hd⟩:=pl.isList;exact call_list_seq p (.inl rfl) ho hc hd (λh' c' kp e=>fin its r' hz h' c' kp e) (by simp only[w_]<;>omega)
 ·obtain⟨its,r',pl,hz⟩:=I.tuple hq;have hlen:=r'.length;obtain⟨o,ho,hc,n,hd⟩:=pl;exact call_list_seq p (.inr rfl) ho hc hd (λh' c' kp e=>fin its r' hz h' c' kp e) (by simp only[w_]<;>omega)
def ox:jJ X (.type "tuple") (λxs H Q=>∃p ys,xs=[.ref p]/\((HJ X.K H p ys/\∀l,H l=Ξ->Q (.ref l) (upd H l (.tup ys)))∨(HK X.K H p ys/\Q (.ref p) H))):=by
 intro pins s σ H xs us Q I r h;obtain⟨p,ys,rfl,h⟩:=h;obtain⟨u,rfl,rx⟩:=vals1 r;cases rx;rcases h with⟨hq,q⟩|⟨hq,q⟩
 ·obtain⟨its,r',pl,hz⟩:=I.list hq;have hlen:=r'.length;refine call_tuple_list pl.isList (λh' kp=>?_) (by simp only[w_]<;>omega);have I1:Inv X pins σ H {s with heap:=h'}:=I.kept (t':=s.toks) kp;have I2:Inv X pins σ (upd H h'.objs.size (.tup ys)) {s with heap:=h'.push {cls:=.type "tuple",data:=.seq its.toArray}}:=
   I1.laid (t':=s.toks) (λb o e=>r_ _ e) (n_ _) (show iQ X.prog X.w _ _ _ (.tup ys) from⟨hz,its,r',IsTup.new _ _⟩)
  exact⟨.ref h'.objs.size,_,I2,rfl,q _ (I1.G3.fresh (n_ _))⟩
 ·obtain⟨its,r',pl,hz⟩:=I.tuple hq;exact call_tuple_same pl ⟨.ref p,H,I,rfl,q⟩
def Vp (K:Frag)(T:String)(x:V)(H:Hp):Prop:=match x with
 |.str _=>T = "str"
 |.int _=>T = "int"
 |.ref p=>(T = "list"/\∃xs,HJ K H p xs)∨(T = "tuple"/\∃o,K.lookup p=Γ o/\o.cls=.type "tuple"/\o.dict=Ξ)∨
   (T = "dict"/\((∃kvs,H p=Γ (.dK kvs))∨∃kvs,H p=Γ (.dT kvs)))∨(T = "set"/\∃S n,H p=Γ (.set S n))
 |_=>False
def Bc {T:String}  (I:Inv X pins σ H s)(r:RelV x v)(ty:Vp X.K T x H) :
  s.TypeIs v T/\∀a,v=.ref a->∃ob,s.heap.get? a=Γ ob/\ob.dict=Ξ:=by
 cases x with
 |str z=>obtain⟨t,rfl⟩:=r;cases(show T = "str" from ty);exact⟨typeIs_str s z t,λ_ e=>nomatch e⟩
 |int i=>obtain⟨t,rfl⟩:=r;cases(show T = "int" from ty);exact⟨typeIs_int s i t,λ_ e=>nomatch e⟩
 |ref p=>
  cases r;rcases ty with⟨rfl,xs,hq⟩|⟨rfl,o,hk,hc,hd⟩|⟨rfl,hk⟩|⟨rfl,S,n,hk⟩
  ·obtain⟨its,_,pl,_⟩:=I.list hq;refine⟨pl.isList.typeIs,λa e=>?_⟩;cases e;obtain⟨o,n,e,c,hd,_⟩:=pl;exact⟨o,e,hd⟩
  ·refine⟨⟨o,I.Ig p o hk,hc⟩,λa e=>?_⟩;cases e;exact⟨o,I.Ig _ o hk,hd⟩
  ·have z:∃o,s.heap.get? p=Γ o/\o.ExactDict:=by
    rcases hk with⟨kvs,hk⟩|⟨kvs,hk⟩
    ·obtain⟨_,_,_,_,o,_,_,e,ex,_⟩:=I.G3 p _ hk;exact⟨o,e,ex⟩
    ·obtain⟨_,_,_,_,o,_,_,e,ex,_⟩:=I.G3 p _ hk;exact⟨o,e,ex⟩
   obtain⟨o,e,ex⟩:=z;refine⟨⟨o,e,ex.1⟩,λa e2=>?_⟩;cases e2;exact⟨o,e,ex.2.1⟩
  ·obtain⟨o,_,_,_,e,ex,_⟩:=I.G3 p _ hk;refine⟨⟨o,e,ex.1⟩,λa e2=>?_⟩;cases e2;exact⟨o,e,ex.2.1⟩
 |_=>exact False.elim ty
def Vq (K:Frag)(T:String)(r:V->Ë->Hp->VK->Prop)(to:TE)(t:TA):TE:=λσ H Q=>to σ H λx H1=>Vp K T x H1/\t σ H1 λxs H2=>r x xs H2 Q
def qj {id:String}(pa:PlainAttrs T)(slot:Slot T name id)(OZ:typeOf (.builtin id)=pure (.type "method_descriptor")) (hm:Vo X id r) (ho:PE X o to) (ha:PA X (e::es) t)
  (Js:attributeBase o name X.env (eval o X.env)=eval o X.env:=by rfl)
  (Jt:((backTo G7 (Μ (e::es) X.env)).all (λx=>!x.1)&&(backToKw G7 (keywordEach [] X.env)).all (λx=>x.1.isSome)
  &&decide ((e::es).length+([]:List Keyword).length+(if([]:List Keyword).isEmpty then 0 else 1) < 30))=Δ:=by rfl)
  (Hm:(apos.endLine == G7.line)=Δ:=by rfl) (hs:Μ (e::es) X.env=(Θ,eval e X.env)::Μ es X.env:=by rfl) (N4:(backTo G7 (Μ es X.env)).any (·.1)=Θ:=by rfl) :
  PE X (.Call (.Attribute o name apos) (e::es) [] G7) (Vq X.K T r to t):=by
 intro pins s σ H Q I h;refine wpAny_Call_method_late Js Jt Hm rfl (G5 (ho pins s σ H _ I h) λv s1 ⟨x,H1,I1,r1,ty,q1⟩=>?_);obtain⟨h1,h2⟩:=Bc I1 r1 ty;refine⟨T,id,pa,slot,OZ,h1,h2,?_⟩;have hA:=ha G7 pins s1 σ H1 _ I1 q1;rw[hs]at hA ⊢;refine Calls.callWith_builtin (by show(Θ||(backTo G7 (Μ es X.env)).any (·.1))=Θ;rw[N4]<;>rfl) (Calls.evalArgs_plain ?_);exact G5 hA λus s2 ⟨vs,H2,I2,r2,q2⟩=>hm pins s2 σ H2 x vs v us Q I2 r1 r2 q2
def Xo (X:Cx)(id:String)(r:V->Ë->Hp->VK->Prop):Prop:=
 ∀(pins:List (Ψ×Obj)) (s:Ω) (σ:St) (H:Hp) (x:V) (xs:Ë) (v:Φ) (us:List Φ) (Q:VK),Inv X pins σ H s->RelV x v->Vals xs us->r x xs H Q->
  Ι (Κ X.prog X.w) X.A (call (.builtin id) (v::us)) (EP X pins σ Q) X.xe s
def Vals.one:∀ {x:V}{us:List Φ},Vals [x] us->∃u,us=[u]/\RelV x u
 |_,_,.cons r .nil=>⟨_,rfl,r⟩
theorem Vals.rep (h:Vals xs us):∀k:Nat,Vals (Ρ k xs).flatten (Ρ k us).flatten
 |0=>.nil
 |k+1=>by rw[List.replicate_succ,List.replicate_succ,List.flatten_cons,List.flatten_cons];exact Vals.append h (Vals.rep h k)
theorem foldl_rep (its:List Φ):∀(k:Nat) (acc:List Φ),
  List.foldl (λx1 x2=>x1++x2) acc.toArray (Ρ k its.toArray)=(acc++(Ρ k its).flatten).toArray
 |0,acc=>by simp
 |k+1,acc=>by
  have e:acc.toArray++its.toArray=(acc++its).toArray:=by simp
  have e2:(acc++its)++(Ρ k its).flatten=acc++(Ρ (k+1) its).flatten:=by rw[List.replicate_succ,List.flatten_cons,y_]
  rw[<- e2,<- foldl_rep its k (acc++its),<- e,List.replicate_succ,List.foldl_cons]
def Inv.JY {its:List Φ}(I:Inv X pins σ H s)(hH:H l=Γ (.lst xs))
  (e:s.heap.get? l=Γ {cls:=.type "list",data:=.seq its.toArray n}) (hf:f its.toArray=its'.toArray) (hv:Vals ys its') (hz:ys.length<=Ε) :
  Inv X pins σ (upd H l (.lst ys)) {s with heap:=s.heap.update l (θ f),toks:=t'}:=by
 have q:=PySem.IsL.update e f;rw[hf]at q;refine I.write (x:=l) (e:=l) (by rw[hH];exact trivial) (.inl rfl) (λb' u hb hu=>(Heap.get?_update_other s.heap (θ f) (Ne.symm hb)).trans hu) ⟨_,q⟩ ?_;exact⟨hz,its',_,hv,q⟩
def Inv.N5 {its:List Φ}  (I:Inv X pins σ H s)(hv:Vals ys its)(hz:ys.length<=Ε) :
  Inv X pins σ (upd H s.heap.objs.size (.lst ys)) {s with heap:=s.heap.push {cls:=.type "list",data:=.seq its.toArray},toks:=t'}:=
 I.laid (λ_ _ q=>r_ _ q) (n_ _) ⟨hz,its,0,hv,D_ _ rfl⟩
theorem Inv.fresh (I:Inv X pins σ H s):H s.heap.objs.size=Ξ:=I.G3.fresh (n_ _)
def Inv.R4 (I:Inv X pins σ H s)(hH:H l=Γ (.lst xs)):xs.length<=Ε/\∃(its:List Φ) (n:Nat),Vals xs its/\xs.length=its.length/\s.heap.get? l=Γ {cls:=.type "list",data:=.seq its.toArray n}:=by obtain⟨z,its,n,r,e⟩:=I.G3 l _ hH;exact⟨z,its,n,r,r.length,e⟩
def uZ (h:n<=Ε):Builtin.List.listTooLong n=Θ:=by unfold Builtin.List.listTooLong;exact x_ (by omega)
def xS:V->Ë->Hp->VK->Prop:=λx vs H Q=>∃l xs y,x=.ref l/\vs=[y]/\H l=Γ (.lst xs)/\xs.length < Ε/\Q .Gx (upd H l (.lst (xs++[y])))
def mj:Xo X "list.append" xS:=by intro pins s σ H x vs v us Q I rx rv h;obtain⟨l,xs,y,rfl,rfl,hH,hz,q⟩:=h;cases rx;obtain⟨u,rfl,ru⟩:=rv.one;obtain⟨z,its,n,r,hl,e⟩:=I.R4 hH;refine call_meets F.slot_list_append ⟨_,e,rfl⟩ F.entry_list_append (F.args_list_append_2 _ _) (PySem.list_append l its.toArray n u (by rw[w_];omega)) ⟨e,?_⟩;refine⟨.Gx,_,I.JY (its':=its++[u]) hH e (by simp) (r.append (.cons ru .nil)) ?_,rfl,q⟩;rw[u_,aaj];omega
def len_rep {α:Type}(xs:List α)(k:Nat):(Ρ k xs).flatten.length=k*xs.length:=by
 induction k with
 |zero=>simp
 |succ k ih=>rw[List.replicate_succ,List.flatten_cons,u_,ih,Nat.succ_mul,Nat.add_comm]
end L2
namespace Att
open PySem PySem.W PySem.Calls PyProof.Rows
@[reducible]def _root_.Å:=List Int
def mX:∀(ns:Å) (vs:List Φ),WellAll P h vs (ns.map WData.int)->IntsAre vs ns:=by
 intro ns
 induction ns with
 |nil=>intro vs w;rw[List.map_nil]at w;cases w;exact .nil
 |cons n ns ih=>
  intro vs w;rw[c_]at w;cases w with
  |cons a b=>cases a;exact .cons _ _ (ih _ b)
def ub {l:OpenLaw}  (hn:l.most=Γ n)
  (M1:l.row.toRowW.claim.pre args=Δ) (R5:WellAll P h vals args) :
  ∃a vs ns,vals=[η a]/\args=[WData.list (ns.map WData.int)]/\h.get? a=Γ {cls:=.type "list",data:=.seq vs.toArray}/\IntsAre vs ns/\ns.length<=n:=by
 have Xp:WShape.hasAll [] args [.list .int]=Δ:=(pre_splitW M1).1;have hc:l.pre.holds [] {args:=args} = Δ:=(pre_splitW M1).2;obtain⟨d,r,rfl,h1,h2⟩:=hasAllW_cons Xp;obtain rfl:=hasAllW_nil h2;obtain⟨xs,rfl,h3⟩:=hasW_list h1;obtain⟨ns,rfl⟩:=items_int h3;have hlen:ns.length<=n:=by
  unfold OpenLaw.pre at hc;have h4:(WTm.not (.lt (.lit (.int (n:Int))) (.len (.arg 0)))).holds [] {args:=[.list (ns.map .int)]} = Δ:=by have h4:=(holds_andW hc).1;rw[hn]at h4;exact h4
  have h5:=condW_of h4 (w_not (w_lt w_lit (w_len_list (w_arg rfl))));rw[h_]at h5;refine Nat.le_of_not_lt λq=>?_;have q':(n:Int) < ((ns.length:Nat):Int):=by omega
  first
   | (rw[A_ q']at h5;exact absurd h5 (by decide))
   | (simp at h5;omega)
 cases R5 with
 |cons w1 w2=>
  cases w2;cases w1 with
  |list ho KQ=>exact⟨_,_,ns,rfl,rfl,ho,mX ns _ KQ,hlen⟩
def uc (l:OpenLaw)(args:List WData):l.row.toRowW.claim.post args (.bool Δ) args=Δ:=
 postW_of (r:=l.row.toRowW) (X:=(Δ == Δ))
  (show WShape.has [] (.bool Δ) .bool=Δ by first|rfl|decide|simp[WShape.has,WShape.arms,WShape.armsAll])
  (show(WTm.eq .res (.lit (.bool Δ))).value [] {args:=args,res:=Γ (.bool Δ),after:=args} = Γ (.bool (Δ == Δ)) from w_eq_bool (w_res rfl) w_lit) rfl
def Km {l:OpenLaw}
  (hn:l.most=Γ n) (PL:d.params.defaults=[])
  (call:∀(w:Α) (Hz G2:Ω) (mg mb:Str->Option Φ) (fa:Ψ) (o:Obj) (pm cd doc:Φ) (a:Ψ) (vs:List Φ) (ns:Å),
   Ground q loose [] XP w Hz mg mb G2.heap->YP w G2.heap->
   G2.heap.get? fa=Γ o->o.data=.func (docDef d.name d.params d.body d.scope pm cd doc)->G2.heap.CodeRec cd d.name->mg d.name=Γ (.ref fa)->
   G2.heap.get? a=Γ {cls:=.type "list",data:=.seq vs.toArray}->IntsAre vs ns->ns.length<=n->G2.gens = #[]->
   codeAny (Κ l.prog w) callerA (.call (.ref fa) ⟨[.ref a],[]⟩) (λr s'=>r=.ok (.ret (.bool Δ))/\OldK G2.heap s'.heap/\s'.os=G2.os/\AllBare s'.gens) G2) :
  WalkO q loose XP YP l.row.toRowW d [] (λf vs=>PySem.call f vs):=by
 intro w Hz G2 mg mb G Y fa o pm cd doc dV kV ho hd ME hD hmg hg args vals as M1 Xq hrd R5 hlo;obtain rfl:dV=.none:=Dflts.none hD PL;obtain rfl:kV=.none:=Dflts.noKw hD;obtain⟨a,vs,ns,rfl,rfl,N6,hints,hlen⟩:=ub hn M1 R5;refine enter_call (codeAny_mono (call w Hz G2 mg mb fa o pm cd doc a vs ns G Y ho (fd_plain hd) ME hmg N6 hints hlen hg) λr s' hq=>?_);obtain⟨rfl,h2,h3,h4⟩:=hq;exact⟨.inl ⟨.bool Δ,.bool Δ,[],rfl,λ_=>rfl,.bool Δ,uc l _,λ_=>⟨List.Pairwise.nil,λ_ hm=>(nomatch hm)⟩⟩,h2,h3,h4⟩
end Att
namespace L2
open PySem PySem.Spec PyProof.Rows
def KL (K:Frag)(a:Ψ)(xs:Ë):Prop:=
 ∃(its:List Φ) (n:Nat),K.lookup a=Γ {cls:=.type "list",data:=.seq its.toArray n}/\its.length<=Ε/\Vals xs its
def Ls (K:Frag)(H:Hp)(a:Ψ)(xs:Ë):Prop:=Rd H a (.lst xs)∨KL K a xs
theorem oP:∀ {vs:List Φ}{ns:Å},IntsAre vs ns->Vals (ns.map V.int) vs
 |_,_,.nil=>.nil
 |_,_,.cons n t h=>.cons ⟨t,rfl⟩ (oP h)
def Bd (H:Hp):Prop:=∀b,H b=Ξ∨∃o xs,H b=Γ (.Gy o (.lst xs))
def u0 {K:Frag}
  (KX:K.In G2.heap) (N7:G2.heap.Ns Ζ mg) (hb:G2.heap.Ns builtinsNs mb) (Xr:∀x:Str,x≠"__name__"->mb x=bootBuiltins x) (R6:G2.heap.NoLimit) (hg:G2.gens = #[])
  (ha:G2.heap.get? a=Γ {cls:=.type "list",data:=.seq vs.toArray}) (hi:IntsAre vs ns) (hl:ns.length<=Ε) (hr:Hh k callerA)
  (F:∀base:Heap,K.In base->base.Ns Ζ mg->Ic P w K mg base CX k fa fd [x] sp) (PM:∀(s:Ω) (u:Φ),BindsTo s fd ⟨[u],[]⟩ [(x,u)])
  (KC:∀H:Hp,Bd H->Ls K H a (ns.map V.int)->sp [.ref a] H (λv _=>v=.bl Δ) λ_ _ _=>False)
  (R7:∀H e s',CX [] H G2 (λ_ _ _=>False) e s'->False) :
  codeAny (Κ P w) callerA (.call (.ref fa) ⟨[.ref a],[]⟩) (λr s'=>r=.ok (.ret (.bool Δ))/\OldK G2.heap s'.heap/\s'.os=G2.os/\AllBare s'.gens) G2:=by
 have rv:=oP hi;have R8:=hi.length
 -- from an abstract heap in Vr nothing but MF N8 may be tracked
 have core:∀H:Hp,Bd H->Ls K H a (ns.map V.int)->Hv P w H G2.heap->(∀b,H b≠Ξ->b=a)->(H a≠Ξ->K.lookup a=Ξ)->
   codeAny (Κ P w) callerA (.call (.ref fa) ⟨[.ref a],[]⟩) (λr s'=>r=.ok (.ret (.bool Δ))/\OldK G2.heap s'.heap/\s'.os=G2.os/\AllBare s'.gens) G2:=by
  intro H hO hS G3 hA hK;have Lb:∀ {b:Ψ}{o:Obj},G2.heap.get? b=Γ o->H b=Ξ->(ph G2.heap H).get? b=Γ o:=λe n=>uH e n;have PF:∀ {b:Ψ}{o:Obj}{es:Array DictEntry}{ep:Nat},G2.heap.get? b=Γ o->o.data=.dict es ep->H b=Ξ:=λ{b o es ep} e d=>by
   cases q:H b with
   |none=>rfl
   |some u=>have e':b=a:=hA b (by rw[q];simp);subst e';rw[ha]at e;cases e;have d':Data.seq vs.toArray _=Data.dict es ep:=d;cases d'
  have QZ:∀ {b:Ψ}{m:Str->Option Φ},G2.heap.Ns b m->(ph G2.heap H).Ns b m:=λ{b m} ⟨o,es,ep,e,d,r⟩=>⟨o,es,ep,Lb e (PF e d),d,r⟩
  have Vs:K.In (ph G2.heap H):=λb o e=>Lb (KX b o e) (by
   cases q:H b with
   |none=>rfl
   |some u=>
    have e':b=a:=hA b (by rw[q];simp);subst e'
    rw[hK (by rw[q];simp)]at e;cases e)
  have hM:Mod K mg (ph G2.heap H):=⟨Vs,QZ N7,⟨mb,QZ hb,Xr⟩,let ⟨mc,h1,h2⟩:=R6;⟨mc,QZ h1,h2⟩⟩
  have e0:IY P w K mg (ph G2.heap H) callerA [] G2 H:=⟨rfl,hM,λb o e=>xC e,Nat.le_of_eq (tY _ _),trivial,λb hb=>absurd (show b∈([]:È) from hb) (by simp),G3,.of_eq hg⟩
  refine codeAny_mono ((F _ Vs (QZ N7)).run callerA [] G2 H ⟨[.ref a],[]⟩ [.ref a] [.ref a] _ _ hr e0 (PM G2 (.ref a)) (.cons rfl .nil) (KC H hO hS)) λr s' h=>?_;cases r with
  |error e=>exact(R7 H e s' h).elim
  |ok fl=>
   cases fl with
   |next=>exact False.elim h
   |brk=>exact False.elim h
   |cont=>exact False.elim h
   |ret u=>
    obtain⟨v,H',os,bare,un,R9,r',q⟩:=h;have q':v=.bl Δ:=q;subst q';obtain rfl:u=Value.bool Δ:=r';refine⟨rfl,OldK.of_keep λb o e=>?_,os,bare⟩;cases q:H b with
    |none=>exact un.keep b o e q (by intro z;exact absurd (show b∈([]:È) from z) (by simp)) (by simp)
    |some u=>
     rcases hO b with z|⟨ob,xs,z⟩
     ·rw[q]at z;cases z
     ·have z2:=un.HW b ob _ z;obtain⟨e1,_⟩:=G3 b _ z;obtain⟨e2,_⟩:=R9 b _ z2;rw[e]at e1;cases e1;exact e2
 cases hk:K.lookup a with
 |some o=>
  -- MF N8 is one of MF PQ own objects
  have e:=KX a o hk;rw[ha]at e;cases e;refine core (λ_=>Ξ) (λ_=>.inl rfl) (.inr ⟨vs,_,hk,by rw[R8];exact hl,rv⟩) (λb u z=>by have z':(Ξ:Option HO)=Γ u:=z;cases z') (λb z=>absurd rfl z) λz=>absurd rfl z
 |none=>
  refine core (λb=>if b=a then Γ (.Gy {cls:=.type "list",data:=.seq vs.toArray} (.lst (ns.map V.int))) else Ξ) (λb=>?_) (.inl (.inr ⟨{cls:=.type "list",data:=.seq vs.toArray},d_ rfl⟩)) (λb u z=>?_) (λb z=>?_) λ_=>hk
  ·by_cases hb:b=a
   ·exact .inr ⟨_,_,d_ hb⟩
   ·exact .inl (b_ hb)
  ·by_cases hb:b=a
   ·have z':=(d_ hb).symm.trans z;cases z';subst hb;exact⟨ha,by rw[h_];exact hl,vs,_,rv,ha⟩
   ·have z':=(b_ hb).symm.trans z;cases z'
  ·by_cases hb:b=a
   ·exact hb
   ·exact absurd (b_ hb) z
def xT {l:PySem.W.OpenLaw}{n k:Nat}{q:Β}{loose:Â}{XP:(Str->Option Φ)->Heap->Prop}{YP:Α->Heap->Prop}{d:DefRec}{K:Params->Frag}{CX:Α->II}{sp:Α->Sp}{x:Str}
  (hn:l.most=Γ n) (NZ:n<=Ε) (PL:d.params.defaults=[]) (hr:Hh k callerA)
  (hY:∀(w:Α) (h:Heap),YP w h->(K w.params).In h)
  (F:∀(w:Α) (mg:Str->Option Φ) (fa:Ψ) (h:Heap),(K w.params).In h->h.Ns Ζ mg->mg d.name=Γ (.ref fa)->
   ∃fd:Ν,(∀(s:Ω) (u:Φ),BindsTo s fd ⟨[u],[]⟩ [(x,u)])/\
    ∀base:Heap,(K w.params).In base->base.Ns Ζ mg->Ic l.prog w (K w.params) mg base (CX w) k fa fd [x] (sp w))
  (KC:∀(w:Α) (H:Hp) (a:Ψ) (ns:Å),ns.length<=n->Bd H->Ls (K w.params) H a (ns.map V.int)->sp w [.ref a] H (λv _=>v=.bl Δ) λ_ _ _=>False)
  (R7:∀(w:Α) (H:Hp) (s:Ω) (e:Φ) (s':Ω),CX w [] H s (λ_ _ _=>False) e s'->False) :
  PySem.W.WalkO q loose XP YP l.row.toRowW d [] (λf vs=>PySem.call f vs):=by
 refine Att.Km hn PL λw Hz G2 mg mb fa o pm cd doc a vs ns G Y ho hd ME hmg N6 hints hlen hg=>?_;have KX:=hY w _ Y;obtain⟨fd,hb,hF⟩:=F w mg fa _ KX G.T.g hmg;exact u0 KX G.T.g G.T.b G.T.builtins G.T.nolimit hg N6 hints (Q_ hlen NZ) hr hF hb (λH hO hS=>KC w H a ns hlen hO hS) λH e s'=>R7 w H G2 e s'
abbrev iI (s:Stmt):Arguments:=match s with
 |.FunctionDef _ a _ _ _ _ _ _ _ _=>a
 |_=>{posonlyargs:=[],args:=[],vararg:=Ξ,kwonlyargs:=[],kw_defaults:=[],kwarg:=Ξ,defaults:=[]}
abbrev iC (s:Stmt):Ö:=match s with
 |.FunctionDef _ _ b _ _ _ _ _ _ _=>b
 |_=>[]
abbrev il (s:Stmt):Scope:=match s with
 |.FunctionDef _ _ _ _ _ _ sc _ _ _=>sc
 |_=>{kind:=.function,names:=[],isGenerator:=Θ,isCoroutine:=Θ}
def ip (H H':Hp):Prop:=∀b o,H b=Γ o->H' b=Γ o
def ip.refl (H:Hp):ip H H:=λ_ _ h=>h
def ip.trans (a:ip H H1)(b:ip H1 H2):ip H H2:=λc o h=>b c o (a c o h)
def ip.free (e:ip H H')  (h:H' l=Option.none):H l=Option.none:=by
 cases q:H l with
 |none=>rfl
 |some o=>rw[e l o q]at h;cases h
def ip.seq {K:Frag}  (e:ip H H')(h:HJ K H a xs):HJ K H' a xs:=by
 rcases h with((h|⟨o,h⟩)|⟨z,its,n,r,h⟩)|h
 ·exact .inl (.inl (.inl (e _ _ h)))
 ·exact .inl (.inl (.inr ⟨o,e _ _ h⟩))
 ·exact .inl (.inr ⟨z,its,n,r,e _ _ h⟩)
 ·exact .inr h
def iu (h:PE X e t)(m:∀σ H Q,t' σ H Q->t σ H Q):PE X e t':=λpins s σ H Q I q=>h pins s σ H Q I (m σ H Q q)
def nu (h:PT X e t)(m:∀σ H Q,t' σ H Q->t σ H Q):PT X e t':=λpins s σ H Q I q=>h pins s σ H Q I (m σ H Q q)
def pv (h:PA X e t)(m:∀σ H Q,t' σ H Q->t σ H Q):PA X e t':=λpos pins s σ H Q I q=>h pos pins s σ H Q I (m σ H Q q)
def iR (h:PS X e t)(m:∀D σ H,t' D σ H->t D σ H):PS X e t':=λpins s σ H D I q=>h pins s σ H D I (m D σ H q)
def pw (h:Ke X e t)(m:∀D σ H,t' D σ H->t D σ H):Ke X e t':=λpins s σ H D I q=>h pins s σ H D I (m D σ H q)
def nv (h:PI X tg e t)(m:∀σ H Q,t' σ H Q->t σ H Q):PI X tg e t':=λpins s σ H Q I q=>h pins s σ H Q I (m σ H Q q)
def Lc (X:Cx)(scope:Scope)(cl:List (Str×Ψ))(N:Â)(C:Ψ)(s3:Ω)(H3:Hp)(fp:È)(xe:Φ->Á:=λ_ _=>False):Cx:=
 {X with N:=N,Hz:=s3,Kh:=H3,env:=compEnvC scope cl C X.env,outer:=X.stack,ex:=fp,fn:=λ_=>Θ,pn:=[],xe:=xe}
structure IM (X:Cx)(scope:Scope)(cl:List (Str×Ψ))(Fr:List (Str×Nat))(Tg:Â):Prop where
 PR:closureFor scope X.env=pure cl
 kind:scope.kind=.function
 JZ:∀y∈scope.names,y.2≠.cell
 loc:∀y∈scope.names,y.2=.local->scope.names.lookup y.1=Γ .local
 sub:∀x c,cl.lookup x=Γ c->X.env.cells.lookup x=Γ c
 has:∀x,((relabel scope X.env).names.lookup x=Γ .cell∨(relabel scope X.env).names.lookup x=Γ .free)->∃c,cl.lookup x=Γ c
 out:∀p∈Fr,X.N[p.2]? = Γ p.1/\(X.env.kindOf p.1=Γ .cell∨X.env.kindOf p.1=Γ .free)/\((relabel scope X.env).names.lookup p.1=Γ .cell∨(relabel scope X.env).names.lookup p.1=Γ .free)
abbrev stC (Fr:List (Str×Nat))(Tg:Â)(σ:St):St:=Fr.map (λp=>(σ[p.2]?).join)++Ρ Tg.length Ξ
section
variable {X:Cx}{scope:Scope}{cl:List (Str×Ψ)}{Fr:List (Str×Nat)}{Tg:Â}{pins:List (Ψ×Obj)}{σ:St}{H3:Hp}{s3:Ω}{fp:È}
theorem Be (S:IM X scope cl Fr Tg)(I:Inv X pins σ H3 s3)(hf:∀b∈fp,kM X pins H3 b)(R':∀b∈fp,b < s3.heap.objs.size)(N:Â)(xe:Φ->Á):(Lc X scope cl N s3.heap.objs.size s3 H3 fp xe).Ok where
 mod:=I.ok.mod
 kind:=S.kind
 glob:=I.ok.glob
 blt:=I.ok.blt
 above:=n_ _
 inj:=λx y c h1 h2=>I.ok.inj x y c (S.sub x c h1) (S.sub y c h2)
 has:=λx h=>S.has x h
 QU:=λx c h _=>absurd (show Θ=Δ from h) (by decide)
 hd:=I.ok.hd
 frames:=I.ok.frames
 Gq:=.inl rfl
 RH:=λb hb=>⟨s_ (R' b hb),λx c e z=>(hf b hb).2.2.2.2.1 x c (S.sub x c e) z⟩
 bs:=I.bs
 L3:=Q_ I.ok.L3 I.sz
 MW:=λb o e hb=>by
  rcases(hf b hb).2.2.2.1 with z|z
  ·exact I.ok.MW b o e z
  ·exact absurd (J_ (m_ e) (Q_ I.ok.L3 z)) (Nat.lt_irrefl _)
 MX:=λb hb z=>by
  rcases l_.mp (I.KN b z) with z|z
  ·exact(hf b hb).2.1 z
  ·exact(hf b hb).2.2.1 z
 IA:=I.stack
 Lo:=I.K7
theorem ud (S:IM X scope cl Fr Tg)(I:Inv X pins σ H3 s3)(hf:∀b∈fp,kM X pins H3 b)(R':∀b∈fp,b < s3.heap.objs.size){h':Heap}{tk:Nat}
  (N7:h'.Ns s3.heap.objs.size (λ_=>Ξ)) (hk:∀b o,s3.heap.get? b=Γ o->h'.get? b=Γ o) (xe:Φ->Á) :
  Inv (Lc X scope cl (Fr.map (·.1)++Tg) s3.heap.objs.size s3 H3 fp xe) [] (stC Fr Tg σ) H3 {s3 with heap:=h',toks:=tk} where
 ok:=Be S I hf R' _ _
 os:=rfl
 bare:=I.bare
 base:=Un.kept hk
 loc:=by
  refine⟨_,N7,λi x v e1 e2 e3=>?_⟩;have hi:i < Fr.length:=by
   by_cases hi:i < Fr.length
   ·exact hi
   ·unfold stC at e2;rw[aan (by simpa using hi),List.getElem?_replicate]at e2;split at e2<;>cases e2
  have N9:(Fr.map (·.1))[i]? = Γ x:=by rw[<- e1];exact(aam (by simpa using hi)).symm
  have HX:(Fr.map (λp=>(σ[p.2]?).join))[i]? = Γ (Γ v):=by rw[<- e2];exact(aam (by simpa using hi)).symm
  rw[z_]at N9 HX;obtain⟨p,hp,rfl⟩:=M_.mp N9;rw[hp]at HX;have M3:(σ[p.2]?).join=Γ v:=B_ HX;have e4:σ[p.2]? = Γ (Γ v):=by
   cases q:σ[p.2]? with
   |none=>rw[q]at M3;cases M3
   |some y=>rw[q]at M3;rw[show y=Γ v from M3]
  obtain⟨o1,o2,o3⟩:=S.out p (S_ hp);obtain⟨m,hn,hl⟩:=I.loc;have hv:Pq X.env.scope p.1:=by
   rcases o2 with o2|o2
   ·exact .inr (.inl o2)
   ·exact .inr (.inr o2)
  obtain⟨u,r,l⟩:=hl p.2 p.1 v o1 e4 hv;refine⟨u,r,.inr ⟨o3,?_⟩⟩;obtain⟨c,hc⟩:=S.has p.1 o3;refine⟨c,hc,?_⟩;have L5:=S.sub _ _ hc;rcases l with⟨k,_⟩|⟨_,c2,h2,z⟩
  ·rcases o2 with o2|o2<;>(rw[k]at o2;cases o2)
  ·rw[L5]at h2;cases h2;obtain⟨o,ho,hd⟩:=z;exact⟨o,hk _ _ ho,hd⟩
 cell:=λx c e=>by obtain⟨v,o,ho,hd⟩:=I.cell x c (S.sub x c e);exact⟨v,o,hk _ _ ho,hd⟩
 free:=I.G3.fresh (n_ _)
 Io:=λx c e=>I.Io x c (S.sub x c e)
 pin:=λp hp=>absurd (show p∈([]:List (Ψ×Obj)) from hp) (by simp)
 G3:=I.G3.kept hk
 len:=by unfold stC;show _=(Fr.map (·.1)++Tg).length;simp
end
def M4 (X:Cx)(ifs:Ü)(t:TT):Prop:=
 ∀(pins:List (Ψ×Obj)) (s:Ω) (σ:St) (H:Hp) (Q:Bool->Hp->Prop),Inv X pins σ H s->t σ H Q->
  Ι (Κ X.prog X.w) X.A (forIn ifs Δ λc r=>if r=Δ then do let ok <- isTrue c X.env (eval c X.env);pure (ForInStep.yield ok) else pure (ForInStep.yield r)) (TP X pins σ Q) X.xe s
theorem mT (h:Q Θ s):∀ifs:Ü,
  Ι M A (forIn ifs Θ λc r=>if r=Δ then do let ok <- isTrue c env (eval c env);pure (ForInStep.yield ok) else pure (ForInStep.yield r)) Q E s
 |[]=>by rw[List.forIn_nil];exact o_ h
 |c::cs=>by rw[List.forIn_cons];rw[b_ C_];exact i_ (o_ (mT h cs))
def xU:M4 X [] (λ_ H Q=>Q Δ H):=λpins s σ H Q I q=>by rw[List.forIn_nil];exact o_ ⟨H,I,q⟩
def u5 (hc:PT X c t)(hr:M4 X cs u):M4 X (c::cs) (CW t u):=λpins s σ H Q I q=>by
 rw[List.forIn_cons,d_ rfl];refine i_ (i_ (G5 (hc pins s σ H _ I q) λb s1 ⟨H1,I1,q1⟩=>o_ ?_))
 induction b using zB with
 |true=>exact hr pins s1 σ H1 Q I1 q1
 |false=>exact mT ⟨H1,I1,q1⟩ cs
def u6 (wi:TI)(start:St->St)(g:TG)(tt:TT)(te:TE):TE:=λσ H Q=>wi σ H λJ H1=>∀D,H1 D=Ξ->∃W:Nat->Nat->St->Hp->Prop,(∃m,W 0 m (start σ) (upd H1 D (.lst [])))/\
 ∀i m G1 H',W i m G1 H'->(J.stop i H'/\Q (.ref D) H')∨(J.go i H'/\∀x H2,J.MZ i H' x H2->g x G1 H2 λKj H3=>tt Kj H3 λb H4=>
  if b=Δ then te Kj H4 λv H5=>∃ys,H5 D=Γ (.lst ys)/\ys.length < Ε/\∃m',m' < m/\W (i+1) m' Kj (upd H5 D (.lst (ys++[v])))
  else ∃m',m' < m/\W (i+1) m' Kj H4)
def pz (scope:Scope)(pos:Pos)(it acc:Φ)(env:Env) :
  compTurn (.ListComp elt [⟨tg,iter,ifs,0⟩] scope pos) 0 it acc env=(do
   standAt iter.pos
   match <- pyNext it with
   |none=>pure (.done .next)
   |some v=>
    letOwnedTupleGo tg it v
    assign tg env v
    let ok <- forIn ifs Δ λc r=>if r=Δ then do let ok <- isTrue c env (eval c env);pure (ForInStep.yield ok) else pure (ForInStep.yield r)
    if ok=Δ then
     (do let _ <- call (.builtin "list.append") [acc,<- eval elt env])
    again (.compLoop (.ListComp elt [⟨tg,iter,ifs,0⟩] scope pos) 0 it acc env)):=by rfl
def ny {Fr:List (Str×Nat)}{XE:Ψ->Ω->Hp->È->Φ->Á}(hc:X.calm=Δ)(S:IM X scope cl Fr Tg)
  (hg:∀C s H fp,PG (Lc X scope cl (Fr.map (·.1)++Tg) C s H fp (XE C s H fp)) tg g) (ht:∀C s H fp,M4 (Lc X scope cl (Fr.map (·.1)++Tg) C s H fp (XE C s H fp)) ifs tt)
  (he:∀C s H fp,PE (Lc X scope cl (Fr.map (·.1)++Tg) C s H fp (XE C s H fp)) elt te)
   {Q:VK} (I2:Inv X pins σ H2 s2) (T:Turn X.prog X.w X.K tg J fp it tn) (L7:tn 0 s2.heap)
  (f2:∀b∈fp,kM X pins H2 b)
  (q:∀D,H2 D=Ξ->∃W:Nat->Nat->St->Hp->Prop,(∃m,W 0 m (stC Fr Tg σ) (upd H2 D (.lst [])))/\
   ∀i m G1 H',W i m G1 H'->(J.stop i H'/\Q (.ref D) H')∨(J.go i H'/\∀x H2,J.MZ i H' x H2->g x G1 H2 λKj H3=>tt Kj H3 λb H4=>
    if b=Δ then te Kj H4 λv H5=>∃ys,H5 D=Γ (.lst ys)/\ys.length < Ε/\∃m',m' < m/\W (i+1) m' Kj (upd H5 D (.lst (ys++[v])))
    else ∃m',m' < m/\W (i+1) m' Kj H4))
   {RR:Φ->Env->Result->Á}
  (hR:∀D C s' H',(∃m,s'.heap.Ns C m)->Inv X pins σ H' s'->kM X pins H' C->Q (.ref D) H'->∀V:Env,V.locals=C->V.frame=X.env.frame->RR (.ref D) V (.ok .next) s')
  (hX:∀D C s3 H3,(∀s5 M5 H5,Inv (Lc X scope cl (Fr.map (·.1)++Tg) C s3 H3 fp (XE C s3 H3 fp)) [] M5 H5 s5->(∃m,s5.heap.Ns C m)/\Inv X pins σ H5 s5/\kM X pins H5 C)->∀e s',XE C s3 H3 fp e s'->
   notedBy (Κ X.prog X.w) X.A (compEnvC scope cl C X.env) (λx Lr=>∀V:Env,V.locals=C->V.frame=X.env.frame->RR (.ref D) V (.error x) Lr) e s') :
  Ι (Κ X.prog X.w) X.A (newList []) (λacc M6=>Ι (Κ X.prog X.w) X.A (newFunctionEnv scope X.env.globals cl [] X.env.qual Ξ .none (Γ X.env)) (λPU Sa=>
   codeAny (Κ X.prog X.w) X.A (.compStart (.ListComp elt [⟨tg,iter,ifs,0⟩] scope pos) 0 (.ref it) acc {PU with scope:=relabel scope X.env}) (RR acc PU) Sa) E M6) E s2:=by
 have Xs:∀b∈fp,b < s2.heap.objs.size:=λb hb=>by obtain⟨o,e,_⟩:=T.obj _ _ L7 b hb;exact m_ e
 -- MF Np
 refine wpAny_newObj_type ?_;have I3:Inv X pins σ (upd H2 s2.heap.objs.size (.lst [])) {s2 with heap:=s2.heap.push {cls:=.type "list",data:=.seq ([]:List Φ).toArray},toks:=s2.toks}:=I2.N5 (ys:=[]) (its:=[]) .nil (Y_ _);generalize hD:s2.heap.objs.size=D at I3 ⊢;have Xt:H2 D=Ξ:=by rw[<- hD];exact I2.fresh
 generalize Vt:({s2 with heap:=s2.heap.push {cls:=.type "list",data:=.seq ([]:List Φ).toArray},toks:=s2.toks}:Ω)=s3 at I3;have k3:∀b o,s2.heap.get? b=Γ o->s3.heap.get? b=Γ o:=λb o e=>by rw[<- Vt];exact r_ _ e
 have Xu:s3.heap.objs.size=D+1:=by rw[<- Vt,<- hD];exact aaf ..
 have PV:∀b∈fp,b < D:=λb hb=>by rw[<- hD];exact Xs b hb
 have Sb:∀b∈fp,b < s3.heap.objs.size:=λb hb=>by rw[Xu];exact Nat.lt_succ_of_lt (PV b hb)
 have f3:∀b∈fp,kM X pins (upd H2 D (.lst [])) b:=λb hb=>by obtain⟨a1,a2⟩:=f2 b hb;refine⟨?_,a2⟩;rw[dN (s_ (PV b hb))];exact a1
 obtain⟨W,⟨m0,w0⟩,turn⟩:=q D Xt;refine wpAny_newFunctionEnv S.JZ (by intro y hy;simp at hy) (λh4 N7 N'=>codeAny_mono (R:=λr s'=>∀V:Env,V.locals=s3.heap.objs.size->V.frame=X.env.frame->RR (.ref D) V r s') ?_ λr s' z=>z _ rfl rfl) S.kind;have k4:∀b o,s3.heap.get? b=Γ o->h4.get? b=Γ o:=λb o e=>
  N'.extBut b o (s_ (m_ e)) (r_ _ e)
 have Vu:tn 0 h4:=T.keep _ _ _ L7 λb hb o e=>k4 b o (k3 b o e);have I4:=ud (fp:=fp) (h':=h4) (tk:=s3.toks+([]:List (Str×Φ)).length) S I3 f3 Sb (by simpa using N7) k4 (XE s3.heap.objs.size s3 (upd H2 D (.lst [])) fp);generalize hC:s3.heap.objs.size=C at I4 N7 N' ⊢;have Sd:=hX D C s3 (upd H2 D (.lst []));generalize hZ:XE C s3 (upd H2 D (.lst [])) fp=Z at I4 Sd;generalize hY:Lc X scope cl (Fr.map (·.1)++Tg) C s3 (upd H2 D (.lst [])) fp Z=Y at I4 Sd;have yP:Y.prog=X.prog:=by rw[<- hY];rfl
 have yw:Y.w=X.w:=by rw[<- hY];rfl
 have yK:Y.K=X.K:=by rw[<- hY];rfl
 have yA:Y.A=X.A:=by rw[<- hY];rfl
 have yc:Y.calm=Δ:=by rw[<- hY];exact hc
 have yx:Y.xe=Z:=by rw[<- hY];rfl
 have ye:Y.env=compEnvC scope cl C X.env:=by rw[<- hY];rfl
 have PX:Y.ex=fp:=by rw[<- hY];rfl
 have Xv:Y.pn=[]:=by rw[<- hY];rfl
 have Xw:Y.fs=Jr X.stack:=by rw[<- hY];rfl
 have yH:Y.Kh=upd H2 D (.lst []):=by rw[<- hY];rfl
 have Nq:Y.Hz=s3:=by rw[<- hY];rfl
 have Xx:PG Y tg g:=by rw[<- hY,<- hZ];exact hg _ _ _ _
 have KD:M4 Y ifs tt:=by rw[<- hY,<- hZ];exact ht _ _ _ _
 have Sf:PE Y elt te:=by rw[<- hY,<- hZ];exact he _ _ _ _
 have KP:∀ {H':Hp},(∀b∈fp,H' b=Ξ)->∀b∈fp,kM Y [] H' b:=λhn b hb=>by have Sh:=I4.ok;refine⟨hn b hb,(Sh.RH b (by rw[PX];exact hb)).1,Sh.MX b (by rw[PX];exact hb),.inl (by rw[PX];exact hb),(Sh.RH b (by rw[PX];exact hb)).2,λp hp=>absurd hp (by rw[Xv];simp)⟩
 have Xy:∀b∈fp,(upd H2 D (.lst [])) b=Ξ:=λb hb=>(f3 b hb).1
 -- back to MF frame
 have back:∀(s5:Ω) (M5:St) (H5:Hp),Inv Y [] M5 H5 s5->(∃m,s5.heap.Ns C m)/\Inv X pins σ H5 s5/\kM X pins H5 C:=by
  intro s5 M5 H5 I5;have Si:∃m,s5.heap.Ns C m:=by obtain⟨m,hn,_⟩:=I5.loc;rw[ye]at hn;exact⟨m,hn⟩
  have Xz:Un (Jr X.stack) fp (upd H2 D (.lst [])) H5 s3.heap s5.heap:=by have u:=I5.base;rw[Xw,PX,yH,Nq]at u;exact u
  have XA:s5.os=s3.os:=by have:=I5.os;rw[Nq]at this;exact this
  have Sj:Hv X.prog X.w H5 s5.heap:=by have:=I5.G3;rw[yP,yw]at this;exact this
  have LW:∀b∈fp,(b∈X.ex∨X.Hz.heap.objs.size<=b)/\b≠X.env.locals/\(∀x c,X.env.cells.lookup x=Γ c->c≠b)/\∀p∈X.pn++pins,p.1≠b:=λb hb=>by obtain⟨_,a1,_,a3,a4,a5⟩:=f3 b hb;exact⟨a3,a1,a4,a5⟩
  have PY:H5 C=Ξ:=by have:=I5.free;rw[ye]at this;exact this
  exact⟨Si,I3.Px XA Xz Sj I5.bare LW,I3.KO (Nat.le_of_eq hC) PY⟩
 have nz:∀ {α:Type}{t:Sem α}{Q:α->Á}{s:Ω},Ι (Κ X.prog X.w) X.A t Q Z s->Ι (Κ X.prog X.w) X.A t Q (notedBy (Κ X.prog X.w) X.A (compEnvC scope cl C X.env) λx Lr=>∀V:Env,V.locals=C->V.frame=X.env.frame->RR (.ref D) V (.error x) Lr) s:=λh=>wpAny_mono h (λ_ _ z=>z) λe s' z=>Sd back e s' z;have loop:∀(s5:Ω) (M5:St) (H5:Hp) (i m:Nat),Inv Y [] M5 H5 s5->tn i s5.heap->(∀b∈fp,H5 b=Ξ)->W i m M5 H5->
   codeAny (Κ X.prog X.w) X.A (.compLoop (.ListComp elt [⟨tg,iter,ifs,0⟩] scope pos) 0 (.ref it) (.ref D) (compEnvC scope cl C X.env)) (λr s'=>∀V:Env,V.locals=C->V.frame=X.env.frame->RR (.ref D) V r s') s5:=by
  intro s5 M5 H5 i m I5 PB RW w5;refine codeAny_loop rfl (λn s'=>∃i G1 H',Inv Y [] G1 H' s'/\tn i s'.heap/\(∀b∈fp,H' b=Ξ)/\W i n G1 H') ?_ m ⟨i,M5,H5,I5,PB,RW,w5⟩;rintro n s6 ⟨i,NW,H6,I6,Vv,Vw,w6⟩;show Ι _ X.A ((compTurn (.ListComp elt [⟨tg,iter,ifs,0⟩] scope pos) 0 (.ref it) (.ref D) (compEnvC scope cl C X.env)).onRaise (λx=>do noteFrame x (compEnvC scope cl C X.env);theTreesLotGoes x)) _ _ s6;refine wpAny_noted ?_;rw[pz];refine i_ (wpAny_standAt (i_ ?_));have nx:∀ {α:Type}{t:Sem α}{Q:α->Á}{E':Φ->Á}{s:Ω},Ι (Κ X.prog X.w) X.A t Q (λ_ _=>False) s->Ι (Κ X.prog X.w) X.A t Q E' s:=λh=>wpAny_mono h (λ_ _ z=>z) λ_ _ z=>z.elim;rcases turn i n NW H6 w6 with⟨stop,qn⟩|⟨go,step⟩
  ·have h:=T.done Y yP yw yK yc i [] s6 NW H6 (λ_ _=>False) I6 (KP Vw) Vv stop;rw[yA]at h;refine nx (G5 h λr s7 ⟨hr,I7⟩=>?_);subst hr;refine o_ ?_;obtain⟨b1,b2,b3⟩:=back s7 NW H6 I7;exact hR D C s7 H6 b1 b2 b3 qn
  ·have h:=T.item Y yP yw yK yc i [] s6 NW H6 (λ_ _=>False) I6 (KP Vw) Vv go;rw[yA]at h;refine nx (G5 h λr s7 ⟨u,hr,h7⟩=>?_);subst hr;refine i_ (nx (G5 h7 λ_ s8 ⟨x,H8,I8,r8,y8,Sk,XB⟩=>?_));have XC:=I8.pinned (KP XB) (T.obj _ _ Sk);have h9:=Xx _ s8 NW H8 x u _ XC r8 (step x H8 y8);rw[yP,yw,yA,yx,ye]at h9;refine i_ (nz (G5 h9 λ_ s9 ⟨Sm,H9,I9,q9⟩=>?_));have Nr:=KD _ s9 Sm H9 _ I9 q9;rw[yP,yw,yA,yx,ye]at Nr;refine i_ (nz (G5 Nr λok XD ⟨XF,Vx,O0⟩=>?_));have again:∀ {G1:St}{H':Hp}{s':Ω},Inv Y ([]++me fp s8.heap) G1 H' s'->(∃m',m' < n/\W (i+1) m' G1 H')->∃m,m < n/\∃i G1 H',Inv Y [] G1 H' s'/\tn i s'.heap/\(∀b∈fp,H' b=Ξ)/\W i m G1 H':=λ{G1 H' s'} I' ⟨m',hm,w'⟩=>by refine⟨m',hm,i+1,G1,H',I'.IB,T.keep _ _ _ Sk λb hb o e=>(I'.pin (b,o) (k_ _ (k_ _ (km hb e)))).1,λb hb=>?_,w'⟩;obtain⟨o,e,d⟩:=T.obj _ _ Sk b hb;exact(I'.pin (b,o) (k_ _ (k_ _ (km hb e)))).2.1
   induction ok using zB with
   |false=>rw[b_ C_]at O0;refine i_ (o_ (o_ ⟨rfl,again Vx O0⟩))
   |true=>rw[d_ rfl]at O0;have O1:=Sf _ XD Sm XF _ Vx O0;rw[yP,yw,yA,yx,ye]at O1;refine i_ (i_ (nz (G5 O1 λy XG ⟨v,Vy,XH,XI,ys,ey,zy,XJ⟩=>?_)));have PZ:=mj (X:=Y) ([]++me fp s8.heap) XG Sm Vy (.ref D) [v] (.ref D) [y] (λv' H'=>v'=.Gx/\H'=upd Vy D (.lst (ys++[v]))) XH rfl (.cons XI .nil) ⟨D,ys,v,rfl,rfl,ey,zy,rfl,rfl⟩;rw[yP,yw,yA,yx]at PZ;refine i_ (nz (G5 PZ λz s12 ⟨v12,H12,XM,r12,Vz,Sn⟩=>?_));subst Sn;exact o_ (o_ ⟨rfl,again XM XJ⟩)
 have start:=loop {s3 with heap:=h4,toks:=s3.toks+([]:List (Str×Φ)).length} (stC Fr Tg σ) (upd H2 D (.lst [])) 0 m0 I4 Vu Xy w0;have e5:∀(s':Ω),s' = {s3 with heap:=h4,toks:=s3.toks+([]:List (Str×Φ)).length}->codeAny (Κ X.prog X.w) X.A (.compLoop (.ListComp elt [⟨tg,iter,ifs,0⟩] scope pos) 0 (.ref it) (.ref D) (compEnvC scope cl C X.env)) (λr s'=>∀V:Env,V.locals=C->V.frame=X.env.frame->RR (.ref D) V r s') s':=by rintro _ rfl;exact start
 exact codeAny_compStart_list (e5 _ rfl) (T.self _ _ _ _ _ Vu (e5 _ rfl))
def sO {Fr:List (Str×Nat)}(hc:X.calm=Δ)(S:IM X scope cl Fr Tg)(hi:PI X tg iter wi)
  (hg:∀C s H fp,PG (Lc X scope cl (Fr.map (·.1)++Tg) C s H fp) tg g) (ht:∀C s H fp,M4 (Lc X scope cl (Fr.map (·.1)++Tg) C s H fp) ifs tt)
  (he:∀C s H fp,PE (Lc X scope cl (Fr.map (·.1)++Tg) C s H fp) elt te) (hs:∀x,foldedSetIterable iter X.env x=pure x:=by intro _;rfl) :
  PE X (.ListComp elt [⟨tg,iter,ifs,0⟩] scope pos) (u6 wi (stC Fr Tg) g tt te):=by
 intro pins s σ H Q I h;rw[eval_ListComp];refine wpAny_comprehension_free (use:=Ξ) rfl hs S.PR S.kind S.loc (G5 (hi pins s σ H _ I h) λxv s1 h1=>G5 h1 λQW s2 h2=>?_);obtain⟨it,fp,tn,J,H2,rfl,I2,T,L7,f2,q⟩:=h2;refine ny (XE:=λ_ _ _ _ _ _=>False) (RR:=λacc V=>compPost (Κ X.prog X.w) X.A X.xe Ξ (EP X pins σ Q) acc V.locals) hc S hg ht he I2 T L7 f2 q ?_ λ_ _ _ _ _ _ _ z=>z.elim;intro D C s' H' Gz I' F' q' V hV _;obtain⟨m,hn⟩:=Gz;subst hV;obtain⟨f0,f1,f2,f3,f4,f5⟩:=F';exact⟨m,hn,λh' sb=>⟨.ref D,H',I'.turned (t':=s'.toks) (λb o hb e=>(sb.2 b hb).trans e) f0 f1 f3 f4 f5,rfl,q'⟩⟩
def xV {Fr:List (Str×Nat)}(hc:X.calm=Δ)(hN:X.N.Nodup)(XN:X.N[i]? = Γ y)(hy:X.env.kindOf y=Γ .local)(S:IM X scope cl Fr Tg)(hi:PI X tg iter wi)
  (hg:∀C s H fp,PG (Lc X scope cl (Fr.map (·.1)++Tg) C s H fp) tg g) (ht:∀C s H fp,M4 (Lc X scope cl (Fr.map (·.1)++Tg) C s H fp) ifs tt)
  (he:∀C s H fp,PE (Lc X scope cl (Fr.map (·.1)++Tg) C s H fp) elt te)
  (P0:swapsWith (.ListComp elt [⟨tg,iter,ifs,0⟩] scope pos) (Γ (.Name y py)) spos.line X.env=pure Δ) (hs:∀x,foldedSetIterable iter X.env x=pure x:=by intro _;rfl) :
  PS X (.Assign [.Name y py] (.ListComp elt [⟨tg,iter,ifs,0⟩] scope pos) spos) (λD σ H=>u6 wi (stC Fr Tg) g tt te σ H λv H'=>D.nx (σ.set i (Γ v)) H'):=by
 intro pins s σ H D I h;rw[exec_Assign_Name_used _ _ _ _ P0];refine i_ (wpAny_standAt (i_ ?_));show Ι _ X.A (do let _ <- comprehension (.ListComp elt [⟨tg,iter,ifs,0⟩] scope pos) scope X.env _ (newList []) Θ (eval iter X.env) (Γ (assign (.Name y py) X.env))) _ _ s
 refine i_ (G5 (wpAny_comprehension_free (use:=Γ (assign (.Name y py) X.env)) (Q:=λ_ s'=>SP X pins D .next s') rfl hs S.PR S.kind S.loc
  (G5 (hi pins s σ H _ I h) λxv s1 h1=>G5 h1 λQW s2 h2=>?_)) λ_ s' hq=>o_ (o_ hq))
 obtain⟨it,fp,tn,J,H2,rfl,I2,T,L7,f2,q⟩:=h2;refine ny (Q:=λv H'=>D.nx (σ.set i (Γ v)) H') (XE:=λ_ _ _ _ _ _=>False) (RR:=λacc V=>compPost (Κ X.prog X.w) X.A X.xe (Γ (assign (.Name y py) X.env)) (λ_ s'=>SP X pins D .next s') acc V.locals) hc S hg ht he I2 T L7 f2 q ?_ λ_ _ _ _ _ _ _ z=>z.elim;intro D' C s' H' Gz I' F' q' V hV _;obtain⟨m,hn⟩:=Gz;subst hV;obtain⟨f0,f1,f2,f3,f4,f5⟩:=F';show Ι _ X.A (assign (.Name y py) X.env (.ref D')) _ _ _;refine wpAny_assign_Name (oG I' hN XN (.inl hy) (show RelV (.ref D') (.ref D') from rfl) (λLr XQ ⟨a,sb,ha⟩=>?_) (.inr hy));have XR:V.locals≠a:=by
  rcases ha with rfl|ha
  ·exact f1
  ·exact λz=>f4 y a ha z.symm
 refine⟨m,hn.sameBut sb XR,λh' XS=>⟨_,H',XQ.turned (t':=Lr.toks) (λb o hb e=>(XS.2 b hb).trans e) f0 f1 f3 f4 f5,q'⟩⟩
open PySem.SeqAt
def rH:typeLookup (.type "list_reverseiterator") "__len__" = pure Ξ:=by rw[typeLookup_type,builtinLookup_eq_fast];kernel_rfl
def u7:typeLookup (.type "list_reverseiterator") "__length_hint__" = pure (Γ (.builtin "list_reverseiterator.__length_hint__")):=by rw[typeLookup_type,builtinLookup_eq_fast];kernel_rfl
def nA (hit:s.heap.IsRevIter I l i)(h:Q Θ s):Ι (Κ prog w) A (Builtin.List.listLengthHint (.ref I)) Q E s:=by
 unfold Builtin.List.listLengthHint;refine i_ (wpAny_specialOf hit.typeIs rH ?_);show Ι _ A (specialOf (η I) (Ο "__length_hint__") >>= _) _ _ _;refine i_ (wpAny_specialOf hit.typeIs u7 ?_);generalize MI:("list_reverseiterator.__length_hint__" : String)=XT
 wp_delta
 rw[show splitId XT=Γ ("list_reverseiterator","__length_hint__") from by subst MI;decide +kernel];subst MI;refine i_ (wpAny_isInstance (T:="list_reverseiterator") (b:=Δ) hit.typeIs (by rw[isSubtype_type];kernel_rfl) ?_);refine wpAny_ite_split (λLu=>absurd Lu (by decide)) (λ_=>?_);refine wpAny_ite_split (λ_=>?_) (λLu=>absurd ∅ Lu);refine wpAny_ite_split (λLu=>absurd Lu ∅) (λ_=>?_);exact o_ h
def mn {prog:Β}{w:Α}{A:Η}{s:Ω}{R:Result->Á}(hh:A.handled=Ξ)(I l S:Ψ)(items:Array Φ)(Jf:l≠I)(res:Φ)(c₀:Nat)(hit:s.heap.IsRevIter I l ((items.size:Int) - 1))(hl:s.heap.IsList l items)(VA:S≠I)(XW:S≠l)
  (hS:s.heap.get? S=Γ {cls:=.type "list",data:=.seq #[] c₀})
  (hR:∀h' tk Ii c',(∀b o,b≠S->b≠I->s.heap.get? b=Γ o->h'.get? b=Γ o)->h'.get? S=Γ {cls:=.type "list",dict:=Ξ,data:=.seq Ii c',slots:=#[]}->
   ItemsOf (λi v=>items[items.size - 1 - i]? = Γ v) Ii items.size->R (.ok (.ret res)) {s with heap:=h',toks:=tk}) (hn:items.size<=Ε) :
  Ι (Κ prog w) A.in1 (Υ (.ref S) (.ref I) res)
   (λfin s'=>match fin with|.done f=>R (.ok f) s'|.again c'=>c'.quiet=Δ/\codeAny (Κ prog w) A c' R s') (λe s'=>R (.error e) s') s:=by
 have XX:S∉[I,l]:=λhm=>by
  rcases l_.mp hm with e|hm
  ·exact VA e
  ·exact XW (Z_.mp hm)
 unfold Υ;refine i_ (wpAny_typeOf hit.typeIs ?_);have h1:Builtin.List.listSameRef (.ref S) (.ref I)=Θ:=by simp[Builtin.List.listSameRef,VA]
 have h2:(Value.type "list_reverseiterator" == Value.type "list")=Θ:=by decide
 have h3:(Value.type "list_reverseiterator" == Value.type "tuple")=Θ:=by decide
 simp only[h1,h2,h3,Bool.or_false,Bool.false_eq_true,if_false];refine i_ (wpAny_pyIter_revIter hit ?_);refine i_ (N_ (nA hit ?_));refine wpAny_ite_split (λLu=>absurd Lu (by decide)) (λ_=>?_);have W:=(Walks.listRev (prog:=prog) (w:=w) (A:=A.in1) hh I l Jf items).toS;refine o_ ⟨plainId_quiet F.plain_extend_loop _,codeAny_extend_loopS W hn S XX res items.size 0 _ #[] c₀ rfl (Y_ _) ⟨Y_ _,by simpa using hit,hl⟩ hS (ItemsOf.nil _) λs' Ii c' hm Oa HQ=>?_⟩;rw[Moved.eq_with hm];refine hR s'.heap s'.toks Ii c' (λb o hb Hn e=>hm.heap b o (λOc=>?_) e) Oa HQ;rcases l_.mp Oc with e'|Oc
 ·exact hb e'
 ·exact Hn (Z_.mp Oc)
def oy (hh:A.handled=Ξ)(I l:Ψ)(items:Array Φ)(Jf:l≠I)(hit:s.heap.IsRevIter I l ((items.size:Int) - 1))(hl:s.heap.IsList l items)
  (hQ:∀h' tk Ii c',(∀b o,b≠I->s.heap.get? b=Γ o->h'.get? b=Γ o)->
   h'.get? s.heap.objs.size=Γ {cls:=.type "list",dict:=Ξ,data:=.seq Ii c',slots:=#[]}->ItemsOf (λi v=>items[items.size - 1 - i]? = Γ v) Ii items.size->Q (.ref s.heap.objs.size) {s with heap:=h',toks:=tk}) (hn:items.size<=Ε) :
  Ι (Κ prog w) A (call (.type "list") [.ref I]) Q E s:=by
 have ltI:I < s.heap.objs.size:=by obtain⟨o,e,_⟩:=hit;exact m_ e
 have Q0:l < s.heap.objs.size:=by obtain⟨o,e,_⟩:=hl;exact m_ e
 refine callType_codes (Q₁:=λobj G2=>obj=.ref s.heap.objs.size/\G2 = {s with heap:=s.heap.push {cls:=.type "list",data:=.seq #[]}}) F.called_list (F.typeCall_list_1 _) F.entry_list_init
  (code_list_new _ ⟨rfl,rfl⟩) λobj G2 Ko=>?_
 obtain⟨rfl,rfl⟩:=Ko;have hS:(s.heap.push {cls:=.type "list",data:=.seq #[]}).get? s.heap.objs.size=Γ {cls:=.type "list",data:=.seq #[]}:=D_ _ rfl;refine⟨⟨_,hS,rfl⟩,F.args_list_init_2 _ _,?_⟩;show Ι _ _ (do let old <- Builtin.List.listItems (.ref s.heap.objs.size);Builtin.List.listUpdate (.ref s.heap.objs.size) (λ_=>#[]);letGo old.toList.reverse;Υ (.ref s.heap.objs.size) (.ref I) .none) _ _ _;refine i_ ?_;unfold Builtin.List.listItems;refine i_ (wpAny_seqItems hS rfl (o_ ?_));show Ι _ _ (updateSeq s.heap.objs.size (λ_=>#[]) >>= λ_=>letGo (#[]:Array Φ).toList.reverse >>= λ_=>Υ (.ref s.heap.objs.size) (.ref I) .none) _ _ _;refine i_ (wpAny_updateSeq hS rfl ?_);have P1:=Heap.get?_update_self (θ (λ_=>(#[]:Array Φ))) hS rfl;have Lv:∀b o,b≠s.heap.objs.size->s.heap.get? b=Γ o->((s.heap.push {cls:=.type "list",data:=.seq #[]}).update s.heap.objs.size (θ (λ_=>(#[]:Array Φ)))).get? b=Γ o:=
  λb o hb e=>(Heap.get?_update_other _ _ (Ne.symm hb)).trans (r_ _ e)
 refine i_ (wpAny_letGo ?_);refine mn (A:=A.in1) hh I l _ items Jf .none _ (hit.at λo e=>Lv I o (s_ ltI) e) (hl.at λo e=>Lv l o (s_ Q0) e) (Nat.ne_of_gt ltI) (Nat.ne_of_gt Q0) P1 (λh' tk Ii c' hk Oa HQ=>?_) hn;exact⟨rfl,hQ h' tk Ii c' (λb o hb e=>hk b o (s_ (m_ e)) hb (Lv b o (s_ (m_ e)) e)) Oa HQ⟩
theorem Vals.rev:∀ {xs:Ë}{us:List Φ},Vals xs us->Vals xs.reverse us.reverse
 |[],[],_=>.nil
 |x::xs,u::us,.cons r rs=>by rw[List.reverse_cons,List.reverse_cons];exact(Vals.rev rs).append (.cons r .nil)
def sP (hc:X.calm=Δ)(g1:Gl X "list") (m1:X.mg "list" = Ξ) (g2:Gl X "reversed") (m2:X.mg "reversed" = Ξ) (he:PE X e t) (Hb:∀es,Μ (e::es) X.env=(Θ,eval e X.env)::Μ es X.env) :
  PE X (.Call (.Name "list" p) [.Call (.Name "reversed" p') [e] [] pos'] [] pos) (λσ H Q=>t σ H λv H1=>∃l ys,v=.ref l/\HJ X.K H1 l ys/\∀q,H1 q=Ξ->Q (.ref q) (upd H1 q (.lst ys.reverse))):=by
 intro pins s σ H Q I h;refine P_ (jB (u:=.type "list") I g1 m1 ∅ ?_ (by decide) (by decide));refine aae ?_ rfl rfl;show Ι _ _ (spliced ((Θ,eval (.Call (.Name "reversed" p') [e] [] pos') X.env)::backTo pos (Μ [] X.env))) _ _ s;have key:Ι (Κ X.prog X.w) X.A (eval (.Call (.Name "reversed" p') [e] [] pos') X.env) (λu s1=>∃s0 l ys its H1,Inv X pins σ H1 s0/\Vals ys its/\s0.heap.IsList l its.toArray/\ys.length<=Ε/\u=.ref s0.heap.objs.size/\s1 = {s0 with heap:=s0.heap.push (revObj l ((its.toArray.size:Int) - 1))}/\∀q,H1 q=Ξ->Q (.ref q) (upd H1 q (.lst ys.reverse))) X.xe s:=by refine P_ (jB (u:=.type "reversed") I g2 m2 ∅ ?_ (by decide) (by decide));refine aae ?_ (Hb []) rfl;rw[Hb []];show Ι _ _ (spliced ((Θ,eval e X.env)::backTo pos' (Μ [] X.env))) _ _ s;refine Calls.spliced_cons (G5 (he pins s σ H _ I h) λu s1 ⟨x,H1,I1,r1,l,ys,ex,hq,q1⟩=>?_);subst ex;cases r1;refine Calls.spliced_nil ?_;obtain⟨its,r',pl,hz⟩:=I1.list hq;exact call_reversed_list pl.isList ⟨s1,l,ys,its,H1,I1,r',pl.isList,hz,rfl,rfl,q1⟩
 refine Calls.spliced_cons (G5 key λu s1 ⟨s0,l,ys,its,H1,I1,rv,hl,hz,eu,es,q1⟩=>?_);subst eu es;refine Calls.spliced_nil ?_;have hlen:=rv.length;have Q0:l < s0.heap.objs.size:=by obtain⟨o,e,_⟩:=hl;exact m_ e
 have hit:(s0.heap.push (revObj l ((its.toArray.size:Int) - 1))).IsRevIter s0.heap.objs.size l ((its.toArray.size:Int) - 1):=⟨_,D_ _ rfl,rfl,rfl⟩
 have Ld:(s0.heap.push (revObj l ((its.toArray.size:Int) - 1))).IsList l its.toArray:=hl.at λo e=>r_ _ e;have hsz:(s0.heap.push (revObj l ((its.toArray.size:Int) - 1))).objs.size=s0.heap.objs.size+1:=aaf ..;refine oy (s:={s0 with heap:=s0.heap.push (revObj l ((its.toArray.size:Int) - 1))}) (show X.A.handled=Ξ from I.ok.hd hc) s0.heap.objs.size l its.toArray (s_ Q0) hit Ld (λh' tk Ii c' kp e HQ=>?_) (by simp only[w_]<;>omega);have ha:Ii=(its.reverse).toArray:=by
  apply Array.ext
  ·rw[HQ.1];simp
  ·intro i h1 h2;have:=HQ.2 i Ii[i] (Array.getElem?_eq_getElem h1);rw[HQ.1]at h1;have h3:i < its.length:=by simpa using h1
   simp only[w_,List.getElem?_toArray]at this;rw[K_ (by omega)]at this;have:=B_ this;rw[<- this];simp[List.getElem_reverse]
 subst ha;exact⟨.ref _,_,I1.laid (t':=tk) (λb o e=>kp b o (s_ (m_ e)) (r_ _ e)) (by show s0.heap.objs.size<=(s0.heap.push _).objs.size;rw[hsz];exact Nat.le_succ _) (show iQ X.prog X.w _ h' _ (.lst ys.reverse) from⟨by simpa using hz,its.reverse,c',rv.rev,e⟩),rfl,q1 _ (I1.G3.fresh (by show s0.heap.objs.size<=(s0.heap.push _).objs.size;rw[hsz];exact Nat.le_succ _))⟩
def ql (h0 : -16000<=n)(h1:n<=16000)(hx:x.length<=1000):MulOk x n:=by
 refine⟨?_,λhn _=>?_,λhn _=>?_⟩
 ·rw[Bool.or_eq_false_iff];exact⟨x_ (by omega),x_ (by omega)⟩
 ·have:(1000:Int)<=(2 ^ 63 - 1) / n:=Int.le_ediv_of_mul_le (by omega) (by omega);omega
 ·have:x.length*n.toNat<=1000*16000:=Nat.mul_le_mul hx (by omega);unfold Builtin.Str.tooLong;exact x_ (by rw[sizeLine_eq];omega)
def rJ:JV X (binaryOp .Mult) (λx y H Q=>∃i j,x=.str i/\y=.int j/\-16000<=j/\j<=16000/\i.length<=1000/\Q (.str (Txt.mul i j)) H):=by intro pins s σ H x y v u Q I rx ry h;obtain⟨i,j,rfl,rfl,h0,h1,hz,q⟩:=h;obtain⟨t,rfl⟩:=rx;obtain⟨t',rfl⟩:=ry;exact SB.mul (ql h0 h1 hz) λt' tk=>⟨.str (Txt.mul i j),H,I.tok _,⟨_,rfl⟩,q⟩
abbrev mq (z:Str):Ë:=z.cps.toList.map λc=>.str ⟨#[c]⟩
@[reducible]def _root_.Ã:=List Nat
def rK (HQ:ItemsOf (SignAt z) Ii z.cps.size):Vals (mq z) Ii.toList:=by
 have hl:Ii.toList.length=z.cps.toList.length:=by rw[aal,aal,HQ.1]
 have key:∀(cs:Ã) (vs:List Φ),vs.length=cs.length->(∀(i:Nat) (v:Φ),vs[i]? = Γ v->∃c u,cs[i]? = Γ c/\v=Value.str ⟨#[c]⟩ u)->Vals (cs.map λc=>V.str ⟨#[c]⟩) vs:=by
  intro cs
  induction cs with
  |nil=>
   intro vs hl _
   induction vs using zL with
   |nil=>exact .nil
   |cons _ _=>cases hl
  |cons c cs ih=>
   intro vs hl hv
   induction vs using zL with
   |nil=>cases hl
   |cons v vs=>
    obtain⟨c',u,e1,e2⟩:=hv 0 v rfl;have N9:c=c':=by simpa using e1
    subst N9 e2;exact .cons ⟨u,rfl⟩ (ih vs (by simpa using hl) λi w hw=>by simpa using hv (i+1) w (by simpa using hw))
 refine key _ _ hl λi v hv=>?_;obtain⟨c,u,e1,e2⟩:=HQ.2 i v (by rw[<- Array.getElem?_toList];exact hv);exact⟨c,u,by rw[Array.getElem?_toList];exact e1,e2⟩
def nB (hc:X.calm=Δ):jJ X (.type "tuple") (λxs H Q=>∃z:Str,xs=[.str z]/\z.length<=Ε/\∀l,H l=Ξ->Q (.ref l) (upd H l (.tup (mq z)))):=by intro pins s σ H xs us Q I r h;obtain⟨z,rfl,hz,q⟩:=h;obtain⟨u,rfl,t,rfl⟩:=vals1 r;refine call_tuple_str (hsz:=hz) (show X.A.handled=Ξ from I.ok.hd hc) z t (λh' tk acc kp HQ=>?_);have rv:=rK HQ;have I1:Inv X pins σ H {s with heap:=h',toks:=tk}:=I.kept (t':=tk) kp;exact⟨.ref _,_,I1.laid (t':=tk) (λb o e=>r_ _ e) (n_ _) (show iQ X.prog X.w _ _ _ (.tup (mq z)) from⟨by unfold mq;simpa[Str.length] using hz,acc.toList,rv,by simpa using IsTup.new h' acc⟩),rfl,q _ (I1.G3.fresh (n_ _))⟩
open PySem.W
section
variable {κ:Type} [DecidableEq κ]
abbrev mr (kvs:List (κ×V))(k:κ):Option V:=(kvs.find? λkv=>decide (kv.1=k)).map (·.2)
abbrev putK (kvs:List (κ×V))(k:κ)(v:V):List (κ×V):=
 if(kvs.any λkv=>decide (kv.1=k))=Δ then kvs.map (λkv=>if kv.1=k then(kv.1,v) else kv) else kvs++[(k,v)]
def nC {p:κ×V}{r:List (κ×V)}{k:κ}(e:p.1=k):mr (p::r) k=Γ p.2:=by simp[mr,List.find?_cons,e]
def nD {p:κ×V}{r:List (κ×V)}{k:κ}(e:¬p.1=k):mr (p::r) k=mr r k:=by simp[mr,List.find?_cons,e]
theorem qm (k:κ):∀kvs:List (κ×V),(kvs.any λkv=>decide (kv.1=k))=(mr kvs k).isSome
 |[]=>rfl
 |p::r=>by
  rw[List.any_cons];by_cases e:p.1=k
  ·simp only[nC e,A_ e,Bool.true_or,Option.isSome_some]
  ·rw[nD e,x_ e,Bool.false_or];exact qm k r
def kD (kvs:List (κ×V))(k:κ)(v:V):(putK kvs k v).length<=kvs.length+1:=by
 unfold putK;split
 ·rw[h_];omega
 ·rw[u_,List.length_cons,List.length_nil];omega
def kC.Lw {o:Option V}{u:Option Φ}(r:kC o u):o.isSome=u.isSome:=by
 cases o with
 |none=>cases u with
  |none=>rfl
  |some _=>exact(show False from r).elim
 |some _=>cases u with
  |none=>exact(show False from r).elim
  |some _=>rfl
def KV.val {kvs:List (κ×V)}{vs:List (κ×Φ)}(r:KV kvs vs)(k:κ):kC (mr kvs k) (valueAt vs k):=by
 unfold KV at r
 induction r with
 |nil=>exact True.intro
 | @cons p q ps qs h t ih=>
  obtain⟨h1,h2⟩:=h;by_cases e:p.1=k
  ·have e':q.1=k:=h1.symm.trans e;have b:valueAt (q::qs) k=Γ q.2:=by simp[valueAt,List.find?_cons,e']
   rw[nC e,b];exact h2
  ·have e':¬q.1=k:=λz=>e (h1.trans z);have b:valueAt (q::qs) k=valueAt qs k:=by simp[valueAt,List.find?_cons,e']
   rw[nD e,b];exact ih
theorem KV.any {kvs:List (κ×V)}{vs:List (κ×Φ)}(r:KV kvs vs)(k:κ):(kvs.any λkv=>decide (kv.1=k))=vs.any λkv=>decide (kv.1=k):=by
 unfold KV at r
 induction r with
 |nil=>rfl
 |cons h t ih=>rw[List.any_cons,List.any_cons,ih,h.1]
def KV.Od {kvs:List (κ×V)}{vs:List (κ×Φ)}(r:KV kvs vs)(k:κ){y:V}{u:Φ}(ry:RelV y u) :
  KV (kvs.map λkv=>if kv.1=k then(kv.1,y) else kv) (vs.map λkv=>if kv.1=k then(kv.1,u) else kv):=by
 unfold KV at r ⊢
 induction r with
 |nil=>exact .nil
 | @cons p q ps qs h t ih=>
  rw[c_,c_];refine .cons ?_ ih;obtain⟨h1,h2⟩:=h;by_cases e:p.1=k
  ·rw[d_ e,d_ (h1.symm.trans e)];exact⟨h1,ry⟩
  ·rw[b_ e,b_ (λz=>e (h1.trans z))];exact⟨h1,h2⟩
def KV.put {kvs:List (κ×V)}{vs:List (κ×Φ)}(r:KV kvs vs)(k:κ){y:V}{u:Φ}(ry:RelV y u):KV (putK kvs k y) (stored vs k u):=by
 unfold putK stored;rw[r.any k];by_cases e:(vs.any λkv=>decide (kv.1=k))=Δ
 ·rw[d_ e,d_ e];exact r.Od k ry
 ·rw[b_ e,b_ e];exact Paired.snoc r ⟨rfl,ry⟩
theorem KV.length {kvs:List (κ×V)}{vs:List (κ×Φ)}(r:KV kvs vs):kvs.length=vs.length:=Paired.length r
end
def sQ {P:Β}{w:Α}{k:Key}{u:Φ}(r:RelV (kV k) u):(iV P w).is k u=Δ:=by
 cases k with
 |inl i=>obtain⟨t,e⟩:=(show ∃t,u=Value.int i t from r);subst e;exact p9 P w i t
 |inr x=>obtain⟨t,e⟩:=(show ∃t,u=Value.str x t from r);subst e;exact qa P w x t
theorem oQ {P:Β}{w:Α}:∀ {ks:List Key}{us:List Φ},Vals (ks.map kV) us->ItemsAre (iV P w) ks us
 |[],_,r=>by rw[List.map_nil]at r;cases r;exact .nil
 |k::ks,_,r=>by
  rw[c_]at r;cases r with
  |cons h t=>exact .cons (sQ h) (oQ t)
@[reducible]def KT (H:Hp):List (List Key×V)->List (List Key×Ψ×Φ)->Prop:=Paired λp q=>p.1=q.1/\H q.2.1=Γ (.tup (p.1.map kV))/\RelV p.2 q.2.2
def KT.val {H:Hp}{kvs:List (List Key×V)}{xs:List (List Key×Ψ×Φ)}(r:KT H kvs xs)(k:List Key):kC (mr kvs k) ((atKey xs k).map (·.2)):=by
 induction r with
 |nil=>exact True.intro
 | @cons p q ps qs h t ih=>
  obtain⟨h1,_,h2⟩:=h;by_cases e:p.1=k
  ·have e':q.1=k:=h1.symm.trans e;have b:atKey (q::qs) k=Γ q.2:=by simp[atKey,List.find?_cons,e']
   rw[nC e,b];exact h2
  ·have e':¬q.1=k:=λz=>e (h1.trans z);have b:atKey (q::qs) k=atKey qs k:=by simp[atKey,List.find?_cons,e']
   rw[nD e,b];exact ih
def KT.Od {H:Hp}{kvs:List (List Key×V)}{xs:List (List Key×Ψ×Φ)}(r:KT H kvs xs)(k:List Key){y:V}{u:Φ}(ry:RelV y u) :
  KT H (kvs.map λkv=>if kv.1=k then(kv.1,y) else kv) (xs.map (putAt k u)):=by
 induction r with
 |nil=>exact .nil
 | @cons p q ps qs h t ih=>
  rw[c_,c_];refine .cons ?_ ih;obtain⟨h1,h2,h3⟩:=h;unfold putAt;by_cases e:p.1=k
  ·rw[d_ e,d_ (h1.symm.trans e)];exact⟨h1,h2,ry⟩
  ·rw[b_ e,b_ (λz=>e (h1.trans z))];exact⟨h1,h2,h3⟩
def KT.put {H:Hp}{kvs:List (List Key×V)}{xs:List (List Key×Ψ×Φ)}(r:KT H kvs xs)(k:List Key){b:Ψ}{y:V}{u:Φ}(hb:H b=Γ (.tup (k.map kV)))(ry:RelV y u) :
  KT H (putK kvs k y) (storedH xs k b u):=by
 have e:(kvs.any λkv=>decide (kv.1=k))=(atKey xs k).isSome:=by rw[qm,(r.val k).Lw,Option.isSome_map]
 unfold putK storedH;rw[e];by_cases q:(atKey xs k).isSome=Δ
 ·rw[d_ q,d_ q];exact r.Od k ry
 ·rw[b_ q,b_ q];exact Paired.snoc r ⟨rfl,hb,ry⟩
def KT.keeps {H H':Hp}{kvs:List (List Key×V)}{xs:List (List Key×Ψ×Φ)}(r:KT H kvs xs)(ht:∀b ys,H b=Γ (.tup ys)->H' b=Γ (.tup ys)):KT H' kvs xs:=
 Paired.NR r λ_ _ z=>⟨z.1,ht _ _ z.2.1,z.2.2⟩
section
variable {P:Β}{w:Α}{H:Hp}{h:Heap}{a:Ψ}
def zQ {u:HO}(ok:Hv P w H h)(e:Rd H a u):iQ P w H h a u:=e.ok ok
def u9 {kvs:List (Key×V)}(ok:Hv P w H h)(e:Rd H a (.dK kvs)):kvs.length<=Ε/\(a == sysModules)=Θ/\∃vs,KV kvs vs/\h.DictOf (iV P w) a vs:=
 show iQ P w H h a (.dK kvs) from zQ ok e
def Df {kvs:List (Key×V)}(ok:Hv P w H h)(e:H a=Γ (.dK kvs)):kvs.length<=Ε/\(a == sysModules)=Θ/\∃vs,KV kvs vs/\h.DictOf (iV P w) a vs:=u9 ok (.inl e)
def rL {ks:List Key}(ok:Hv P w H h)(e:H a=Γ (.tup (ks.map kV))):(tupleKind (iV P w)).is h ks a:=by
 obtain⟨_,its,r,o,h1,h2,n,h3⟩:=(show iQ P w H h a (.tup (ks.map kV)) from ok a _ e)
 exact⟨o,its.toArray,n,h1,h2,h3,by simpa using oQ r⟩
def vd {kvs:List (List Key×V)}(ok:Hv P w H h)(e:Rd H a (.dT kvs)):kvs.length<=Ε/\(a == sysModules)=Θ/\
  ∃xs,KT H kvs xs/\h.DictOfH (tupleKind (iV P w)) a xs:=by
 obtain⟨z,y,xs,r,o,es,ep,h1,h2,h3,h4,h5⟩:=(show iQ P w H h a (.dT kvs) from zQ ok e)
 refine⟨z,y,xs,r,o,es,ep,h1,h2,h3,h4,λx hx=>?_,h5⟩;have all:∀ {l:List (List Key×V)}{m:List (List Key×Ψ×Φ)},KT H l m->∀x∈m,(tupleKind (iV P w)).is h x.1 x.2.1:=by
  intro l m q
  induction q with
  |nil=>intro x hx;exact nomatch hx
  | @cons p q ps qs hq t ih=>
   intro x hx;rcases l_.mp hx with e|hx
   ·subst e;exact rL ok (by rw[<- hq.1];exact hq.2.1)
   ·exact ih x hx
 exact all r x hx
def Dg {kvs:List (List Key×V)}(ok:Hv P w H h)(e:H a=Γ (.dT kvs)):kvs.length<=Ε/\(a == sysModules)=Θ/\
  ∃xs,KT H kvs xs/\h.DictOfH (tupleKind (iV P w)) a xs:=vd ok (.inl e)
end
def Bf (H:Hp)(a:Ψ)(y:V)(r:Option V):Prop:=
 (∃kvs k,Rd H a (.dK kvs)/\y=kV k/\r=mr kvs k)∨∃kvs k b,Rd H a (.dT kvs)/\y=.ref b/\H b=Γ (.tup (k.map kV))/\r=mr kvs k
def Dh (H:Hp)(a:Ψ)(y v:V)(H':Hp):Prop:=
 (∃kvs k,H a=Γ (.dK kvs)/\y=kV k/\kvs.length < Ε/\H'=upd H a (.dK (putK kvs k v)))∨
 ∃kvs k b,H a=Γ (.dT kvs)/\y=.ref b/\H b=Γ (.tup (k.map kV))/\kvs.length < Ε/\H'=upd H a (.dT (putK kvs k v))
section
variable {X:Cx}{pins:List (Ψ×Obj)}{σ:St}{H:Hp}{s:Ω}{a:Ψ}{y v:V}{u r:Φ}{o:Option V}{A:Η}{E:Φ->Á}
theorem Inv.big (I:Inv X pins σ H s):sysModules < s.heap.objs.size:=by have h:Ζ < s.heap.objs.size:=(I.mod.glob.keeps I.bk).lt;exact Nat.lt_trans (by decide) h
theorem ue {Q:Φ->Á}(hu:A.units+1 < cLine)(I:Inv X pins σ H s)(g:Bf H a y (Γ v))(ry:RelV y u)(h:∀w' s',Inv X pins σ H s'->RelV v w'->Q w' s') :
  Ι (Κ X.prog X.w) A (getItem (.ref a) u) Q E s:=by
 rcases g with⟨kvs,k,e,ey,l⟩|⟨kvs,k,b,e,ey,eb,l⟩
 ·subst ey;obtain⟨z,hd,vs,rel,dd⟩:=u9 I.G3 e;obtain⟨w',hw,M0⟩:=kC.some_of (v:=v) (o:=valueAt vs k) (by rw[l];exact rel.val k);exact wpAny_getItem_of (sQ ry) dd.mapOf hw (h w' _ (I.tok _) M0)
 ·subst ey;cases(show u=η b from ry);obtain⟨z,hd,xs,rel,dd⟩:=vd I.G3 e;obtain⟨w',hw,M0⟩:=kC.some_of (v:=v) (o:=(atKey xs k).map (·.2)) (by rw[l];exact rel.val k);obtain⟨p,hp,XY⟩:=M_.mp hw;refine wpAny_getItem_heap (tupleKind_room_in1 hu) (rL I.G3 eb) dd hp ?_;rw[XY];exact h w' _ (I.tok _) M0
theorem sR {h':Heap}{t':Nat}{ob:HO}(I:Inv X pins σ H s)(mu:Pp (H a))(hs:Heap.SameBut a s.heap h')(he:∃q,h'.get? a=Γ q)(new:iQ X.prog X.w (upd H a ob) h' a ob) :
  Inv X pins σ (upd H a ob) {s with heap:=h',toks:=t'}:=
 I.write (x:=a) (e:=a) mu (.inl rfl) (λb q hb z=>(hs.2 b hb).trans z) he new
theorem ve {P:Β}{w:Α}{H':Hp}{h':Heap}{kvs:List (Key×V)}{vs:List (Key×Φ)}(z:kvs.length<=Ε)(hd:(a == sysModules)=Θ)(rel:KV kvs vs)(dd:h'.DictOf (iV P w) a vs) :
  iQ P w H' h' a (.dK kvs):=⟨z,hd,vs,rel,dd⟩
theorem uf {H':Hp}{Q:Unit->Á}(hu:A.units+1 < cLine)(I:Inv X pins σ H s)(g:Dh H a y v H')(ry:RelV y u)(rv:RelV v r)(h:∀s',Inv X pins σ H' s'->Q () s') :
  Ι (Κ X.prog X.w) A (setItem (.ref a) u r) Q E s:=by
 rcases g with⟨kvs,k,e,ey,l,eH⟩|⟨kvs,k,b,e,ey,eb,l,eH⟩
 ·subst ey eH;obtain⟨z,hd,vs,rel,dd⟩:=Df I.G3 e;have hz:vs.length<=Ε:=by rw[<- rel.length];exact z
  have hl:(putK kvs k v).length<=Ε:=by have:=kD kvs k v;omega
  refine wpAny_setItem_pairs (hsz:=hz) (sQ ry) dd λh' Q1 hs=>h _ ?_;have he:∃q,h'.get? a=Γ q:=let ⟨q,_,_,hq,_⟩:=Q1;⟨q,hq⟩;exact sR I (by rw[e];exact True.intro) hs he (ve hl hd (rel.put k rv) Q1)
 ·subst ey eH;cases(show u=η b from ry);obtain⟨z,hd,xs,rel,dd⟩:=Dg I.G3 e;have hz:xs.length<=Ε:=by rw[<- Paired.length rel];exact z
  have hl:(putK kvs k v).length<=Ε:=by have:=kD kvs k v;omega
  refine wpAny_setItem_heap (hsz:=hz) (tupleKind_room_in1 hu) (rL I.G3 eb) dd λh' Q1 hs=>h _ ?_;obtain⟨q,es,ep,hq,h2,h3,h4,_,h5⟩:=Q1;refine sR I (by rw[e];exact True.intro) hs ⟨q,hq⟩ ⟨hl,hd,_,(rel.put k eb rv).keeps λc ys ec=>?_,q,es,ep,hq,h2,h3,h4,h5⟩;rw[dN (CU ec e (λz=>nomatch z))];exact ec
end
def Di (i:Expr):Prop:=∀ov iv,subscripted i Θ ov iv=operate [ov,iv] (getItem ov iv)
def xW {prog:Β}{w:Α}{A:Η}{E:Φ->Á}{s:Ω}{env:Env}{value slice:Expr}{pos:Pos}{T id:String}{Q:Φ->Á}
  (hl:typeLookup (.type T) "__getitem__" = pure (Γ (.builtin id))) (hs:Di slice)
  (h:Ι (Κ prog w) A (eval value env) (λo G2=>Ι (Κ prog w) A (eval slice env) (λi JW=>JW.TypeIs o T/\Ι (Κ prog w) A (getItem o i) Q E JW) E G2) E s) :
  Ι (Κ prog w) A (eval (.Subscript value slice pos) env) Q E s:=by
 refine Subscript_ (wpAny_mono h (λo G2 Ko=>wpAny_mono Ko (λi JW J0=>?_) λ_ _ x=>x) λ_ _ x=>x);obtain⟨hT,J0⟩:=J0;unfold subscriptTail;refine i_ ?_;rw[getitemInPython_of_ne hT.not_modules];refine i_ (wpAny_specialOf hT hl ?_);have fin:Ι (Κ prog w) A (subscripted slice Θ o i) (λr M6=>Ι (Κ prog w) A (letTemporaryGo value o r >>= λ_=>pure r) Q E M6) E JW:=by rw[hs o i];exact wpAny_operating (wpAny_mono J0 (λr M6 So=>i_ (wpAny_letTemporaryGo (o_ So))) λ_ _ x=>x)
 first
  | exact o_ (i_ fin)
  | exact i_ (o_ (i_ fin))
  | exact i_ fin
def qo {X:Cx}{pins:List (Ψ×Obj)}{σ:St}{H:Hp}{s:Ω}{a:Ψ}{y:V}{o:Option V}(I:Inv X pins σ H s)(g:Bf H a y o):s.TypeIs (.ref a) "dict":=by
 rcases g with⟨kvs,k,e,_,_⟩|⟨kvs,k,b,e,_,_,_⟩
 ·obtain⟨_,_,vs,_,dd⟩:=u9 I.G3 e;exact dd.typeIs
 ·obtain⟨_,_,xs,_,dd⟩:=vd I.G3 e;exact dd.typeIs
def Dj (td ty:TE):TE:=λσ H Q=>td σ H λx H1=>ty σ H1 λy H2=>∃a v,x=.ref a/\Bf H2 a y (Γ v)/\Q v H2
def Dk (td ty tv:TE):TS:=λD σ H=>tv σ H λv H1=>td σ H1 λx H2=>ty σ H2 λy H3=>∃a H4,x=.ref a/\Dh H3 a y v H4/\D.nx σ H4
section
variable {X:Cx}{o i e value:Expr}{pos pos' XZ:Pos}{td ty tv:TE}
def xX (hu:X.A.units+1 < cLine)(ho:PE X o td)(hi:PE X i ty)(hs:Di i):PE X (.Subscript o i pos) (Dj td ty):=by intro pins s σ H Q I h;refine xW PySem.F.slot_dict_getitem.lookup hs (G5 (ho pins s σ H _ I h) λu s1 ⟨x,H1,I1,rx,q1⟩=>G5 (hi pins s1 σ H1 _ I1 q1) λiv s2 ⟨y,H2,I2,ry,a,v,ex,g,q2⟩=>?_);subst ex;obtain rfl:u=η a:=rx;exact⟨qo I2 g,ue hu I2 g ry λw' s3 I3 M0=>⟨v,H2,I3,M0,q2⟩⟩
def xY (hu:X.A.units+1 < cLine)(ho:PE X o td)(hi:PE X i ty)(hv:PE X value tv)(hs:swapsWith value (Γ (.Subscript o i pos')) pos.line X.env=pure Θ) :
  PS X (.Assign [.Subscript o i pos'] value pos) (Dk td ty tv):=by
 intro pins s σ H D I h;refine wpAny_Assign_Subscript (G5 (hv pins s σ H _ I h) λr s1 ⟨v,H1,I1,rv,q1⟩=>G5 (ho pins s1 σ H1 _ I1 q1) λu s2 ⟨x,H2,I2,rx,q2⟩=>G5 (hi pins s2 σ H2 _ I2 q2) λiv s3 ⟨y,H3,I3,ry,a,H4,ex,g,q3⟩=>?_) hs;subst ex;obtain rfl:u=η a:=rx;exact uf hu I3 g ry rv λs4 I4=>⟨σ,H4,I4,q3⟩
end
def vf {P:Β}{w:Α}{H:Hp}(h:Heap)(hb:sysModules < h.objs.size):iQ P w H (h.push {cls:=.type "dict",data:=.dict #[]}) h.objs.size (.dK []):=
 ⟨Y_ _,beq_eq_false_iff_ne.mpr (Ne.symm (s_ hb)),[],.nil,Heap.DictOf.new h⟩
def Bg:TE:=λ_ H Q=>∀p,H p=Ξ->Q (.ref p) (upd H p (.dK []))
def qr {X:Cx}{pos:Pos}:PE X (.Dict [] [] pos) Bg:=λpins s σ H Q I h=>
 wpAny_Dict_empty ⟨.ref s.heap.objs.size,_,I.laid (a:=s.heap.objs.size) (o:=.dK []) (t':=s.toks) (λ_ _ q=>r_ _ q) (n_ _) (vf s.heap I.big),rfl,h _ (I.G3.fresh (n_ _))⟩
abbrev kY (kvs more:List (Key×V)):List (Key×V):=more.foldl (λacc kv=>putK acc kv.1 kv.2) kvs
def KV.merge:∀ {more:List (Key×V)}{rs:List (Key×Φ)}{kvs:List (Key×V)}{vs:List (Key×Φ)},KV more rs->KV kvs vs->KV (kY kvs more) (merged vs rs):=by
 intro more rs kvs vs r;unfold KV at r
 induction r generalizing kvs vs with
 |nil=>intro q;exact q
 | @cons p q ps qs h t ih=>
  intro r0;have e:KV (putK kvs p.1 p.2) (stored vs q.1 q.2):=by have:=r0.put p.1 h.2;rw[<- h.1];exact this
  exact ih e
theorem kS:∀(more kvs:List (Key×V)),(kY kvs more).length<=kvs.length+more.length
 |[],kvs=>by show kvs.length<=kvs.length+0;omega
 |p::r,kvs=>by have h1:=kS r (putK kvs p.1 p.2);have h2:=kD kvs p.1 p.2;show(kY (putK kvs p.1 p.2) r).length<=_;rw[List.length_cons];omega
open PySem.Builtin PySem.Builtin.Str
theorem mz:∀l:List (Str×Tok),Vals ((l.map (·.1)).map V.str) (strValues l)
 |[]=>.nil
 |p::r=>.cons ⟨p.2,rfl⟩ (mz r)
def sS {K:Frag}  (l:List (Str×Tok))(h:K.lookup a=Γ ⟨.type "tuple",od,.seq (strValues l).toArray n,sl⟩) (hz:l.length<=1000):HK K H a ((l.map (·.1)).map V.str):=by
 have hs:Ε=16777216:=sizeLine_eq;refine .inr ⟨_,_,_,h,rfl,rfl,?_,mz l⟩;have e:(strValues l).length=l.length:=by rw[<- (mz l).length,h_,h_]
 show(strValues l).toArray.size<=Ε;rw[w_];omega
end L2
namespace L2.Zp
open PySem
inductive Kq where
 | l|t
end L2.Zp
namespace L2
open PySem PySem.Spec PyProof.Rows
def X0 (K:Frag)(H:Hp)(k:Zp.Kq)(a:Ψ)(xs:Ë):Prop:=match k with
 |.l=>HJ K H a xs
 |.t=>HK K H a xs
section
variable {X:Cx}{pins:List (Ψ×Obj)}{σ:St}{H:Hp}{s:Ω}{h':Heap}{k:Zp.Kq}{a:Ψ}{xs ys:Ë}
theorem Inv.turns {t':Nat}{ch:È}(I:Inv X pins σ H s)(k:∀b o,b∉ch->s.heap.get? b=Γ o->h'.get? b=Γ o)(hf:∀b∈ch,kM X pins H b):Inv X pins σ H {s with heap:=h',toks:=t'}:=by
 have Nm:∀b u,H b=Γ u->b∉ch:=λb u e z=>by rw[(hf b z).1]at e;cases e
 refine I.step (g':=s.gens) (d':=s.drawn) (ch:=ch) (λb hb=>?_) (λb o _ _ hc e _=>k b o hc e) (λb o _ _ hc e _=>⟨o.slots,k b o hc e⟩) (λ_ _ _ _ n=>n)
  (λb o hc e=>⟨o,k b o hc e⟩) (λ_ _ e=>e) (λ_ _ _ e=>e) (λb ps e=>⟨#[],by rw[e];simp⟩) (λm hm=>?_) (λb u e=>?_) I.bare
 ·obtain⟨f0,f1,f2,f3,f4,f5⟩:=hf b hb;exact⟨f3,f1,f4,f5⟩
 ·obtain⟨o,es,ep,ho,r⟩:=hm;exact⟨o,es,ep,k _ o (λz=>(hf _ z).2.1 rfl) ho,r⟩
 ·refine(I.G3 b u e).IK (λc v hc q=>k c v ?_ q) (λ_ q=>q) λ_ _ q=>q;rcases hc with z|z
  ·rw[z];exact Nm b u e
  ·exact Nm c _ z
theorem Inv.L9 {t':Nat}{ch:È}{T:Ψ}{ho:HO}(I:Inv X pins σ H s)(k:∀b o,b∉ch->s.heap.get? b=Γ o->h'.get? b=Γ o)(hf:∀b∈ch,kM X pins H b)(hp:s.heap.objs.size<=T)(new:iQ X.prog X.w (upd H T ho) h' T ho):Inv X pins σ (upd H T ho) {s with heap:=h',toks:=t'}:=by
 have Nm:∀b u,H b=Γ u->b∉ch:=λb u e z=>by rw[(hf b z).1]at e;cases e
 have hn:H T=Ξ:=I.G3.fresh hp;refine I.step (g':=s.gens) (d':=s.drawn) (ch:=ch) (λb hb=>?_) (λb o _ _ hc e _=>k b o hc e) (λb o _ _ hc e _=>⟨o.slots,k b o hc e⟩) (λb o _ e n=>by rw[dN (s_ (J_ (m_ e) hp))];exact n)
  (λb o hc e=>⟨o,k b o hc e⟩) (λb xs q=>by rw[dN (iG q hn)];exact q) (λb u xs q=>by rw[dN (iG q hn)];exact q) (λb ps q=>⟨#[],by rw[dN (iG q hn),q];simp⟩) (λm hm=>?_) (λb u e=>?_) I.bare
 ·obtain⟨f0,f1,f2,f3,f4,f5⟩:=hf b hb;exact⟨f3,f1,f4,f5⟩
 ·obtain⟨o,es,ep,ho,r⟩:=hm;exact⟨o,es,ep,k _ o (λz=>(hf _ z).2.1 rfl) ho,r⟩
 ·by_cases hb:b=T
  ·subst hb;rw[gk]at e;cases e;exact new
  ·rw[dN hb]at e;refine(I.G3 b u e).IK (λc v hc q=>k c v ?_ q) (λc q=>by rw[dN (iG q hn)];exact q) λc xs q=>by rw[dN (iG q hn)];exact q
   rcases hc with z|z
   ·rw[z];exact Nm b u e
   ·exact Nm c _ z
end
end L2
namespace L2.Zp
open PySem
end L2.Zp
namespace L2
open PySem PySem.Spec PyProof.Rows
end L2
namespace L2.Se
open PySem
open PyProof.Rows
instance:Inhabited Str:=⟨⟨#[]⟩⟩
end L2.Se
namespace L2.Sv
open PySem PyProof.Rows
end L2.Sv
namespace L2
open PySem PySem.Spec PyProof.Rows PySem.SeqAt
end L2
namespace L2.Sx
open PySem PyProof.Rows
abbrev dd (σ:Â)(v:Str):Â:=if σ.any (· == v) then σ else σ++[v]
def Bh (σ:Â)(v k:Str):(dd σ v).any (· == k)=(σ.any (· == k)||decide (k=v)):=by
 unfold dd;by_cases h:σ.any (· == v)=Δ
 ·rw[d_ h];by_cases e:k=v
  ·subst e;rw[h];simp
  ·rw[x_ e,Bool.or_false]
 ·rw[b_ h,List.any_append];by_cases e:k=v
  ·subst e;simp
  ·have hb:(v == k)=Θ:=by simpa using λz:v=k=>e z.symm
   simp[hb,e]
def vg (σ:Â)(v:Str):(dd σ v).length=if σ.any (· == v)=Δ then σ.length else σ.length+1:=by
 unfold dd;by_cases h:σ.any (· == v)=Δ
 ·rw[d_ h,d_ h]
 ·rw[b_ h,b_ h,u_];rfl
theorem zR:∀(l σ:Â),(l.foldl dd σ).length<=σ.length+l.length
 |[],σ=>n_ _
 |v::l,σ=>by have h:=zR l (dd σ v);have h2:=vg σ v;rw[List.foldl_cons,List.length_cons];split at h2<;>omega
section
variable {prog:Β}{w:Α}{A:Η}{E:Φ->Á}{s:Ω}{R:Result->Á}{I:Ψ}{fp wr:È}{G:Array GenState->Array GenState->Prop}{n:Nat}{P:Nat->Φ->Prop}{St:Nat->Á}
def IP (prog:Β)(w:Α)(h:Heap)(a:Ψ)(σ:Â):Prop:=h.SetOf (PySem.strKind prog w) a (λk=>σ.any (· == k)) σ.length
def IP.moved {h h':Heap}{a:Ψ}{σ:Â}(hS:IP prog w h a σ)(k:∀o,h.get? a=Γ o->h'.get? a=Γ o):IP prog w h' a σ:=by obtain⟨o,es,ep,t,ho,D⟩:=hS;exact⟨o,es,ep,t,k o ho,D⟩
def VB (x:Str)(t:Tok):(PySem.strKind prog w).is x (.str x t)=Δ:=by show(x == x)=Δ;simp
def loop (W:WalksS prog w A.in1 I fp wr G n P St)(a:Ψ)(ha:a∉fp){ns:Â}(hv:∀i v,P i v->∃t,v=.str (ns.getD i ⟨#[]⟩) t)(hn:ns.length=n)(hb:n+1 < scanBound) :
  ∀(k i:Nat) (s:Ω),n - i=k->i<=n->St i s->IP prog w s.heap a ((ns.take i).foldl dd [])->
   (∀s',Moved (a::wr) G s s'->IP prog w s'.heap a (ns.foldl dd [])->R (.ok (.ret .none)) s')->
   codeAny (Κ prog w) A (.builtin "set.update.loop" ⟨[.ref a,.ref I],[]⟩) R s:=by
 have P2:a∉wr:=λz=>ha (W.sub _ z);have sub:∀b∈wr,b∈a::wr:=λb z=>H_ _ z;intro k
 induction k with
 |zero=>
  intro i s hk hi Hb hS hR;have e:i=n:=by omega
  subst e;rw[<- hn,List.take_length]at hS;refine codeAny_builtin F.entry_set_update_loop ?_;rw[Around.under_plainId F.plain_set_update_loop _];show Ι _ A.in1 (pyNext (.ref I) >>= _) _ _ s;exact i_ (W.done s _ _ Hb λs' hm=>show Ι _ A.in1 (ret Value.none) _ _ s' from o_ (hR s' (hm.mono sub) (hS.moved λo e=>hm.heap a o P2 e)))
 |succ k ih=>
  intro i s hk hi Hb hS hR;have HY:i < n:=by omega
  refine codeAny_builtin F.entry_set_update_loop ?_;rw[Around.under_plainId F.plain_set_update_loop _];show Ι _ A.in1 (pyNext (.ref I) >>= _) _ _ s;refine i_ (W.item i s _ _ HY Hb λv s' hP G8 hm=>?_);obtain⟨t,rfl⟩:=hv i v hP;have Sq:IP prog w s'.heap a ((ns.take i).foldl dd []):=hS.moved λo e=>hm.heap a o P2 e;show Ι _ A.in1 (holding [Value.str (ns.getD i ⟨#[]⟩) t] (setAdd a (.str (ns.getD i ⟨#[]⟩) t)) >>= _) _ _ s';unfold setAdd;refine i_ (N_ (N_ (i_ ((PySem.strKind prog w).pyHash (VB _ _) ?_))));have hlen:=zR (ns.take i) [];rw[O_,List.length_nil]at hlen;refine wpAny_setAddHashed_of (knd:=PySem.strKind prog w) (s:={s' with toks:=s'.toks+1}) (VB _ _) rfl Sq (by omega) λh' N' X1=>?_;have et:(ns.take (i+1)).foldl dd []=dd ((ns.take i).foldl dd []) (ns.getD i ⟨#[]⟩):=by
   have KG:i < ns.length:=by omega
   rw[List.take_succ,List.foldl_append,K_ KG,aaa,K_ KG];rfl
  have X2:IP prog w h' a ((ns.take (i+1)).foldl dd []):=by unfold IP;rw[et];exact SetOf_congr X1 (λk'=>by rw[Bh]) (by rw[vg])
  refine o_ ⟨plainId_quiet F.plain_set_update_loop _,ih (i+1) _ (by omega) HY (W.frame _ s' _ _ G8 (Nat.le_succ _) λb hb o e=>?_) X2 λLr L' Oe=>?_⟩
  ·rw[N'.2 b λz=>ha (z ▸ hb)];exact e
  ·refine hR Lr (Moved.trans W.gtrans ((hm.mono sub).then_heap (Nat.le_succ _) λb o hb e=>?_) L') Oe;rw[N'.2 b λz=>hb (z ▸ aai)];exact e
noncomputable abbrev oN (led:Bool):Obj:={cls:=.type "set",dict:=Ξ,data:=.set #[] 0 (.fresh 0 0 led)}
def Ma {l:Ψ}{items:Array Φ}{ns:Â}{Q:Φ->Á}(hh:A.handled=Ξ)(hl:s.heap.IsList l items)(hi:∀(i:Nat)(v:Φ),items[i]? = Γ v->∃t,v=Value.str (ns.getD i ⟨#[]⟩) t)(hlen:ns.length=items.size)(hb:items.size+1 < scanBound)
  (h:∀(h':Heap) (tk:Nat),IP prog w h' s.heap.objs.size (ns.foldl dd [])->(∀b o,b < s.heap.objs.size->s.heap.get? b=Γ o->h'.get? b=Γ o)->Q (.ref s.heap.objs.size) {s with heap:=h',toks:=tk}) :
  Ι (Κ prog w) A (call (.type "set") [.ref l]) Q E s:=by
 obtain⟨c,tl,mro⟩:=F.called_set.mro;have made:=F.called_set.made;have sub:=F.called_set.sub;refine wpAny_call (codeAny_of_tree (show Ι _ _ (callAny (.type "set") _) _ _ _ from o_ ⟨Code.quiet_builtin _ ∅,codeAny_builtin F.entry_type_call ?_⟩));rw[Around.under_plain (weight_type_call_type "set" [.ref l] []) rfl];have n1:=F.called_set.notType;have n2:=F.called_set.canCreate;have n3:=F.typeCall_set_1 (.ref l)
 repeat (any_goals (first|assumption|wp_step))
 refine codeAny_mono (code_set_new_1 (.ref l) (E:=E) (Q₁:=λobj s1=>∃led,obj=.ref s.heap.objs.size/\s1 = {s with heap:=s.heap.push (oN led)}) λled=>⟨led,rfl,rfl⟩) λr s1 hr=>?_;cases r with
 |error e=>exact hr
 |ok fl=>
  cases fl with
  |ret obj=>
   obtain⟨led,rfl,rfl⟩:=hr;have gS:(s.heap.push (oN led)).get? s.heap.objs.size=Γ (oN led):=D_ _ rfl;have hT:Shared.TypeIs {s with heap:=s.heap.push (oN led)} (.ref s.heap.objs.size) "set":=⟨_,gS,rfl⟩
   have i1:=F.called_set.init.lookup;have i2:=F.called_set.init.bind (.ref s.heap.objs.size)
   repeat (any_goals (first|assumption|wp_step))
   refine codeAny_mono (codeAny_call_builtin (R:=wants (λr s2=>r=.none/\∃h' tk,s2 = {s with heap:=h',toks:=tk}/\IP prog w h' s.heap.objs.size (ns.foldl dd [])/\
     (∀b o,b < s.heap.objs.size->s.heap.get? b=Γ o->h'.get? b=Γ o)) E) F.called_set.init.plain F.entry_set_init (check_set_init_1 hT ?_)) λr2 s2 O2=>?_
   ·obtain⟨ol,VC,P4,nl,VD⟩:=hl;obtain⟨X3,P5,VE,Of⟩:=ol;simp only at P4 VD;subst P4;subst VD;have Ss:(s.heap.push (oN led)).get? l=Γ {cls:=.type "list",dict:=P5,data:=.seq items nl,slots:=Of}:=r_ _ VC;have w1:=F.sub_list_set;have w2:=F.sub_list_frozenset;have w3:(Value.type "list" == Value.type "dict")=Θ:=by decide
    have Lx:(s.heap.push (oN led)).IsList l items:=⟨_,Ss,rfl,nl,rfl⟩
    unfold Builtin.«set.__init__» noKeywords Builtin.Frozenset.updateFrom;generalize X4:pyIter=PI
    wp_walk
    subst X4;refine aag Lx (i_ (wpAny_runValue ?_));have lS:l < s.heap.objs.size:=m_ VC;have nI:l≠(s.heap.push (oN led)).objs.size:=by rw[aaf];exact s_ (Nat.lt_succ_of_lt lS)
    have aS:s.heap.objs.size∉[(s.heap.push (oN led)).objs.size,l]:=by
     rw[aaf];intro z;rcases l_.mp z with z|z
     ·exact s_ (Nat.lt_succ_self _) z
     ·exact Nat.ne_of_gt lS (Z_.mp z)
    have f0:IP prog w (s.heap.push (oN led)) s.heap.objs.size []:=SetOf_congr ((setObjOf_fresh (knd:=PySem.strKind prog w) led).setOf gS (by unfold scanBound;omega)) (λ_=>rfl) rfl;refine loop ((Walks.list (show A.in1.in1.in1.handled=Ξ by simp[hh]) _ l nI items).toS) s.heap.objs.size aS (ns:=ns) hi hlen hb (items.size - 0) 0 _ (by omega) (Y_ _)
     ⟨⟨_,D_ _ rfl,rfl,rfl⟩,(Lx.push _)⟩ (f0.moved λo e=>r_ _ e) ?_
    intro s' hm Oa;obtain⟨h',g',d',Nt,PD⟩:=s';have eg:g'=s.gens:=hm.gens;have ed:d'=s.drawn:=hm.drawn;have eo:PD=s.os:=hm.os;subst eg ed eo;show Ι _ _ _ _ _ _;refine o_ (show Ι _ _ (ret Value.none) _ _ _ from o_ ⟨rfl,h',Nt,rfl,Oa,λb o hb e=>?_⟩);refine hm.heap b o (λz=>?_) (r_ _ (r_ _ e));rcases l_.mp z with z|z
    ·exact s_ hb z
    ·have:=Z_.mp z;rw[aaf]at this;exact s_ (Nat.lt_succ_of_lt hb) this
   ·cases r2 with
    |error e=>exact O2
    |ok X5=>
     cases X5 with
     |ret r=>
      obtain⟨rfl,h',tk,rfl,Oa,Su⟩:=O2
      repeat (any_goals (first|assumption|wp_step))
      exact h _ _ Oa Su
     |_=>exact O2.elim
  |_=>exact hr.elim
def HP (hS:IP prog w s.heap a σ)(h:∀t tk,Q (.int σ.length t) {s with toks:=tk}):Ι (Κ prog w) A (call (.builtin "len") [.ref a]) Q E s:=by obtain⟨o,es,ep,t,ho,hex,hd,_,_,hb,hf,hn⟩:=hS;refine call_len_set ho hex hd hf (by unfold scanBound at hb;omega) ?_;rw[hn];exact h _ _
end
end L2.Sx
namespace L2
open PySem PySem.Spec PyProof.Rows
def xZ {ns:Â}:∀ {us:List Φ},Vals (ns.map V.str) us->∀(i:Nat) (v:Φ),us[i]? = Γ v->∃t,v=Value.str (ns.getD i ⟨#[]⟩) t:=by
 induction ns with
 |nil=>intro us r i v h;cases r;simp at h
 |cons n ns ih=>
  intro us r i v h;cases r with
  |cons r rs=>
   obtain⟨t,rfl⟩:=r;cases i with
   |zero=>exact⟨t,by simpa using h.symm⟩
   |succ j=>simpa using ih rs j v (by simpa using h)
def x5 {X:Cx}{e:Expr}{p p' pos pos':Pos}{t:TE}(hc:X.calm=Δ)(g1:Gl X "len") (m1:X.mg "len" = Ξ) (g2:Gl X "set") (m2:X.mg "set" = Ξ) (he:PE X e t) (Hb:∀es,Μ (e::es) X.env=(Θ,eval e X.env)::Μ es X.env) :
  PE X (.Call (.Name "len" p) [.Call (.Name "set" p') [e] [] pos'] [] pos) (λσ H Q=>t σ H λv H1=>∃(l:Ψ) (ns:Â),v=.ref l/\HJ X.K H1 l (ns.map V.str)/\ns.length < 1000/\Q (.int ((ns.foldl Sx.dd []).length:Nat)) H1):=by
 intro pins s σ H Q I h;refine P_ (jB (u:=.builtin "len") I g1 m1 ∅ ?_ (by decide) (by decide));refine PyProof.Rows.callWith_builtin1 ?_ rfl rfl;show Ι _ _ (spliced ((Θ,eval (.Call (.Name "set" p') [e] [] pos') X.env)::backTo pos (Μ [] X.env))) _ _ s;have key:Ι (Κ X.prog X.w) X.A (eval (.Call (.Name "set" p') [e] [] pos') X.env) (λu s1=>∃(a:Ψ) (ns:Â) (H1:Hp),u=.ref a/\Inv X pins σ H1 s1/\Sx.IP X.prog X.w s1.heap a (ns.foldl Sx.dd [])/\Q (.int ((ns.foldl Sx.dd []).length:Nat)) H1) X.xe s:=by refine P_ (jB (u:=.type "set") I g2 m2 ∅ ?_ (by decide) (by decide));refine aae ?_ (Hb []) rfl;rw[Hb []];show Ι _ _ (spliced ((Θ,eval e X.env)::backTo pos' (Μ [] X.env))) _ _ s;refine Calls.spliced_cons (G5 (he pins s σ H _ I h) λu s1 ⟨x,H1,I1,r1,l,ns,ex,hq,hn,q1⟩=>?_);subst ex;cases r1;refine Calls.spliced_nil ?_;obtain⟨its,r',pl,hz⟩:=I1.list hq;have hl:=r'.length;rw[h_]at hl;refine Sx.Ma (I1.ok.hd hc) pl.isList (λi v hv=>xZ r' i v (by simpa using hv)) (by rw[w_];exact hl) (by rw[w_];unfold scanBound;omega) λh' tk hS hk=>⟨_,ns,H1,rfl,I1.kept (t':=tk) λb o e=>hk b o (m_ e) e,hS,q1⟩
 refine Calls.spliced_cons (G5 key λu s1 ⟨a,ns,H1,eu,I1,hS,q1⟩=>?_);subst eu;refine Calls.spliced_nil ?_;exact Sx.HP hS λt tk=>⟨.int _,H1,I1.tok _,⟨_,rfl⟩,q1⟩
end L2
namespace L2.Dp
open PySem PyProof.Rows
section
variable {prog:Β}{w:Α}{A:Η}{E:Φ->Á}{s:Ω}
def ug:typeLookup (.type "list") "keys" = pure Ξ:=by rw[typeLookup_type,builtinLookup_eq_fast];kernel_rfl
def uh {a:Ψ}{o:Obj}{xs:Array Φ}{k:Nat}{Q:Option Φ->Á}(hx:s.heap.get? a=Γ o)(hc:o.cls=.type "list") (P6:o.data=.seq xs k) (hd:o.dict=Ξ) (hA:A.handled=Ξ)
  (h:∀h' tk,(∀b o,s.heap.get? b=Γ o->h'.get? b=Γ o)->Q Ξ {s with heap:=h',toks:=tk}):Ι (Κ prog w) A (getAttr? (.ref a) "keys") Q E s:=by
 obtain⟨c,G4,dat,sl⟩:=o;simp only at hc P6 hd;subst hc P6 hd;obtain⟨hp,g,d,tk,os⟩:=s;have hT:∀Nt,(⟨hp,g,d,Nt,os⟩:Ω).TypeIs (.ref a) "list":=λ_=>⟨_,hx,rfl⟩
 have f1:=sub_AttributeError;have f3:=F.slot_list_getattribute.lookup;have f4:=F.slot_list_getattribute.bind (.ref a);have f5:=am_list_getattr_none;unfold getAttr? getAttrBy? getAttrBy
 repeat (any_goals (first|assumption|exact hT _|((with_reducible show Ι _ _ (call (Value.builtin "list.__getattribute__") _ _) _ _ _);refine call_meets F.slot_list_getattribute (hT _) am_entry_list_getattribute (F.args_list_getattribute_2 _ _) (meets_getattribute_miss_list a xs k sl "keys" _ ug (by decide) (by size_fits)) ⟨hx,hA,λh' Nt e Hr=>?_⟩)|wp_step))
 obtain⟨t',u',he⟩:=Hr.there;show Ι _ _ (getattributeRaised _ _ _ _ _ _ _) _ _ _;unfold getattributeRaised
 repeat (any_goals (first|assumption|wp_step))
 exact h _ _ Hr.of.keeps
def nE:entryFor table "dict.update.loop" = Γ Builtin.«dict.update.loop»:=entryFor_of_tree (by kernel_rfl)
def ko:plainId "dict.update.loop" = Δ:=∅
variable {K:Type} [DecidableEq K]{knd:KeyKind prog w K}{I:Ψ}{fp wr:È}{G:Array GenState->Array GenState->Prop}{n:Nat}{P:Nat->Φ->Prop}{St:Nat->Á}{R:Result->Á}
def Ir (knd:KeyKind prog w K)(h:Heap)(b:Ψ)(p:K×Φ):Prop:=∃(key:Φ) (od:Option Ψ) (m:Nat) (sl:Array (Option Φ)),h.get? b=Γ {cls:=.type "tuple",dict:=od,data:=.seq #[key,p.2] m,slots:=sl}/\knd.is p.1 key=Δ
def Ir.keep {h h':Heap}{b:Ψ}{p:K×Φ}(x:Ir knd h b p)(k:∀o,h.get? b=Γ o->h'.get? b=Γ o):Ir knd h' b p:=by obtain⟨key,od,m,sl,e,hk⟩:=x;exact⟨key,od,m,sl,k _ e,hk⟩
def loop (W:WalksS prog w A.in1 I fp wr G n P St)(d:Ψ)(hd:d∉fp){bs:È}{kvs:List (K×Φ)}(hv:∀i v,P i v->∃b,v=.ref b/\bs[i]? = Γ b)(hn:kvs.length=n)(hb:n<=Ε)(nb:∀b∈bs,b≠d/\b∉wr) :
  ∀(k i:Nat) (s:Ω),n - i=k->i<=n->St i s->s.heap.DictOf knd d (merged [] (kvs.take i))->(∀(j:Nat) (b:Ψ) (p:K×Φ),bs[j]? = Γ b->kvs[j]? = Γ p->Ir knd s.heap b p)->
   (∀s',Moved (d::wr) G s s'->s'.heap.DictOf knd d (merged [] kvs)->R (.ok (.ret .none)) s')->
   codeAny (Κ prog w) A (.builtin "dict.update.loop" ⟨[.ref d,.ref I,rawInt i,.none],[]⟩) R s:=by
 have P2:d∉wr:=λz=>hd (W.sub _ z);have sub:∀b∈wr,b∈d::wr:=λb z=>H_ _ z;intro k
 induction k with
 |zero=>
  intro i s hk hi Hb hS hT hR;have e:i=n:=by omega
  subst e;rw[<- hn,List.take_length]at hS;refine codeAny_builtin nE ?_;rw[Around.under_plainId ko _];show Ι _ A.in1 (pyNext (.ref I) >>= _) _ _ s;refine i_ (W.done s _ _ Hb λs' hm=>?_);show Ι _ A.in1 (Builtin.Dict.addKeywords d [] >>= λ_=>ret Value.none) _ _ s';obtain⟨o,es,ep,ho,r⟩:=hS;exact i_ (o_ (o_ (hR s' (hm.mono sub) ⟨o,es,ep,hm.heap d o P2 ho,r⟩)))
 |succ k ih=>
  intro i s hk hi Hb hS hT hR;have HY:i < n:=by omega
  refine codeAny_builtin nE ?_;rw[Around.under_plainId ko _];show Ι _ A.in1 (pyNext (.ref I) >>= _) _ _ s;refine i_ (W.item i s _ _ HY Hb λv s' hP G8 hm=>?_);obtain⟨b,rfl,X6⟩:=hv i v hP;have VF:kvs[i]? = Γ kvs[i]:=K_ (by omega);have Nu:∀(j:Nat) (b:Ψ) (p:K×Φ),bs[j]? = Γ b->kvs[j]? = Γ p->Ir knd s'.heap b p:=λj b p h1 h2=>(hT j b p h1 h2).keep λo e=>hm.heap b o (nb b (S_ h1)).2 e;obtain⟨key,od,m,sl,hg,NX⟩:=Nu i b _ X6 VF;have Sq:s'.heap.DictOf knd d (merged [] (kvs.take i)):=by obtain⟨o,es,ep,ho,r⟩:=hS;exact⟨o,es,ep,hm.heap d o P2 ho,r⟩
  have hlen:=merged_length_le [] (kvs.take i);rw[O_,List.length_nil]at hlen;have et:=merged_take_succ [] kvs i _ VF;generalize X7:dictSet=DS;obtain⟨hp,gg,dd,tk,os⟩:=s';have X8:(⟨hp,gg,dd,tk,os⟩:Ω).TypeIs (.ref b) "tuple":=⟨_,hg,rfl⟩
  have nTL:(Value.type "tuple" == Value.type "list")=Θ:=by decide
  show Ι _ A.in1 ((holding [η b] ((Builtin.Dict.pairItems (.ref b)).tryCatch _ >>= _)) >>= _) _ _ _;refine i_ (N_ (i_ (wpAny_tryCatch ?_)));unfold Builtin.Dict.pairItems;refine i_ (wpAny_typeOf X8 ?_);rw[d_ (by decide)]
  repeat (any_goals (first|assumption|wp_step))
  subst X7;refine wpAny_dictSet_pairs (s:=⟨hp,gg,dd,tk,os⟩) NX Sq (λh' hD N'=>?_) (by omega);have Kp:∀b' o,b'≠d->hp.get? b'=Γ o->h'.get? b'=Γ o:=λb' o Hn e=>by rw[N'.2 b' Hn];exact e
  refine o_ ⟨plainId_quiet ko _,?_⟩;refine ih (i+1) _ (by omega) HY (W.frame _ ⟨hp,gg,dd,tk,os⟩ _ _ G8 (Nat.le_succ _) λb' Hn o e=>Kp b' o (λz=>hd (z ▸ Hn)) e) (by rw[et];exact hD) (λj b' p h1 h2=>(Nu j b' p h1 h2).keep λo e=>Kp b' o (nb b' (S_ h1)).1 e) λLr L' Oe=>?_;exact hR Lr (Moved.trans W.gtrans ((hm.mono sub).then_heap (Nat.le_succ _) λb' o Hn e=>Kp b' o (λz=>Hn (z ▸ aai)) e) L') Oe
def Ly {l:Ψ}{its:Array Φ}{lm:Nat}{VG:Array (Option Φ)}{bs:È}{kvs:List (K×Φ)}{Q:Φ->Á}(hh:A.handled=Ξ)(hl:s.heap.get? l=Γ {cls:=.type "list",dict:=Ξ,data:=.seq its lm,slots:=VG}) (hi:∀(i:Nat) (v:Φ),its[i]? = Γ v->∃b,v=η b/\bs[i]? = Γ b)
  (hlen:kvs.length=its.size) (hb:its.size<=Ε) (hT:∀(j:Nat) (b:Ψ) (p:K×Φ),bs[j]? = Γ b->kvs[j]? = Γ p->Ir knd s.heap b p) (VH:∀b∈bs,b < s.heap.objs.size)
  (h:∀(h':Heap) (tk:Nat),h'.DictOf knd s.heap.objs.size (merged [] kvs)->(∀b o,b < s.heap.objs.size->s.heap.get? b=Γ o->h'.get? b=Γ o)->Q (.ref s.heap.objs.size) {s with heap:=h',toks:=tk}) :
  Ι (Κ prog w) A (call (.type "dict") [.ref l]) Q E s:=by
 refine callType_codes (Q₁:=λobj G2=>obj=.ref s.heap.objs.size/\G2 = {s with heap:=s.heap.push {cls:=.type "dict",data:=.dict #[]}}) F.kt_called_dict (F.kt_typeCall_dict_1 _) F.entry_dict_init (kt_code_dict_new _ ⟨rfl,rfl⟩) ?_;rintro obj G2 ⟨rfl,rfl⟩;have Og:(s.heap.push {cls:=.type "dict",data:=.dict #[]}).DictOf knd s.heap.objs.size []:=Heap.DictOf.new s.heap;have Lx:(s.heap.push {cls:=.type "dict",data:=.dict #[]}).get? l=Γ {cls:=.type "list",dict:=Ξ,data:=.seq its lm,slots:=VG}:=r_ _ hl;have VI:l < s.heap.objs.size:=m_ hl;refine⟨Og.typeIs,F.args_dict_init_2 _ _,?_⟩;unfold Builtin.«dict.__init__»;refine i_ ?_;unfold Builtin.Dict.selfAndRest;refine i_ (wpAny_notOrdered_dict Og.typeIs ?_);show Ι _ _ (pure (s.heap.objs.size,[η l])) _ _ _;refine o_ ?_;show Ι _ _ (Builtin.Dict.updateFrom "dict.__init__" s.heap.objs.size (.ref l) [] .none) _ _ _;unfold Builtin.Dict.updateFrom;have X9:Shared.TypeIs {s with heap:=s.heap.push {cls:=.type "dict",data:=.dict #[]}} (.ref l) "list":=⟨_,Lx,rfl⟩
 refine i_ (wpAny_typeOf X9 ?_);rw[d_ (by decide)];refine i_ (uh Lx rfl rfl rfl (by simp[hh]) λh1 tk1 Q2=>?_);simp only[Option.isNone_none,if_true];have MJ:h1.IsList l its:=⟨_,Q2 _ _ Lx,rfl,lm,rfl⟩
 have sz:s.heap.objs.size < h1.objs.size:=m_ (Q2 _ _ (D_ _ rfl));refine i_ (wpAny_rule ?_);refine i_ (aag MJ (o_ ⟨plainId_quiet ko _,?_⟩));have nI:l≠h1.objs.size:=s_ (Nat.lt_trans VI sz);have Nv:∀b o,s.heap.get? b=Γ o->h1.get? b=Γ o:=λb o e=>Q2 b o (r_ _ e);refine loop (A:=A.in1) (n:=its.size) (bs:=bs) (kvs:=kvs) ((Walks.list (show A.in1.in1.handled=Ξ by simp[hh]) h1.objs.size l nI its).toS) s.heap.objs.size (λz=>?_) hi hlen hb (λb hb=>⟨s_ (VH b hb),λz=>?_⟩) (its.size - 0) 0 _ (by omega) (Y_ _) ⟨⟨_,D_ _ rfl,rfl,rfl⟩,MJ.push _⟩ ?_ (λj b p e1 e2=>(hT j b p e1 e2).keep λo e=>r_ _ (Nv b o e)) λs' hm hD=>?_
 ·rcases l_.mp z with z|z
  ·exact s_ sz z
  ·exact Nat.ne_of_gt VI (Z_.mp z)
 ·exact s_ (Nat.lt_trans (VH b hb) sz) (Z_.mp z)
 ·obtain⟨o,es,ep,ho,r⟩:=Og;exact⟨o,es,ep,r_ _ (Q2 _ _ ho),r⟩
 ·obtain⟨h',g',d',Nt,PD⟩:=s';have eg:g'=s.gens:=hm.gens;have ed:d'=s.drawn:=hm.drawn;have eo:PD=s.os:=hm.os;subst eg ed eo;refine⟨rfl,h h' Nt hD λb o hb e=>?_⟩;refine hm.heap b o (λz=>?_) (r_ _ (Nv b o e));rcases l_.mp z with z|z
  ·exact s_ hb z
  ·exact s_ (Nat.lt_trans hb sz) (Z_.mp z)
end
end L2.Dp
namespace L2
open PySem PySem.Spec PyProof.Rows
inductive JJ (K:Frag)(H:Hp):È->List (Key×V)->Prop where
 | nil:JJ K H [] []
 | cons {a:Ψ}{k:Key}{v:V}{as:È}{kvs:List (Key×V)}:HK K H a [kV k,v]->JJ K H as kvs->JJ K H (a::as) ((k,v)::kvs)
theorem vi {X:Cx}{pins:List (Ψ×Obj)}{σ:St}{H:Hp}{s:Ω}(I:Inv X pins σ H s):∀ {as:È}{kvs:List (Key×V)},JJ X.K H as kvs->∃rs:List (Key×Φ),KV kvs rs/\rs.length=as.length/\(∀b∈as,b < s.heap.objs.size)/\
  ∀(j:Nat) (b:Ψ) (p:Key×Φ),as[j]? = Γ b->rs[j]? = Γ p->Dp.Ir (iV X.prog X.w) s.heap b p
 |_,_,.nil=>⟨[],.nil,rfl,(λb h=>by cases h),λj b p h=>by cases h⟩
 |_,_,.cons (a:=a) (k:=k) (v:=v) h1 h2=>by
  obtain⟨rs,r1,r2,r3,r4⟩:=vi I h2;obtain⟨its,rv,tp,_⟩:=I.tuple h1;obtain⟨o,ho,hc,m,hd⟩:=tp;obtain⟨u1,u2,rfl,Sw,Ya⟩:∃u1 u2,its=[u1,u2]/\RelV (kV k) u1/\RelV v u2:=by
   cases rv with
   |cons a1 rv=>
    cases rv with
    |cons a2 rv=>cases rv;exact⟨_,_,rfl,a1,a2⟩
  refine⟨(k,u2)::rs,.cons ⟨rfl,Ya⟩ r1,by rw[List.length_cons,List.length_cons,r2],λb hb=>?_,λj b p e1 e2=>?_⟩
  ·rcases l_.mp hb with rfl|hb
   ·exact m_ ho
   ·exact r3 b hb
  ·cases j with
   |zero=>cases e1;cases e2;obtain⟨c,G4,dat,sl⟩:=o;simp only at hc hd;subst hc hd;exact⟨u1,G4,m,sl,ho,sQ Sw⟩
   |succ j=>exact r4 j b p e1 e2
theorem oR:∀ {as:È}{us:List Φ},Vals (as.map V.ref) us->us=as.map η
 |[],_,.nil=>rfl
 |a::as,_,.cons r rs=>by rw[oR rs];obtain rfl:_=η a:=r;rfl
def rM {X:Cx}(hc:X.calm=Δ):jJ X (.type "dict") (λxs H Q=>∃(p:Ψ) (as:È) (kvs:List (Key×V)),xs=[.ref p]/\HJ X.K H p (as.map V.ref)/\JJ X.K H as kvs/\∀a,H a=Ξ->Q (.ref a) (upd H a (.dK (kY [] kvs)))):=by
 intro pins s σ H xs us Q I r h;obtain⟨p,as,kvs,rfl,hq,hp,q⟩:=h;obtain⟨u,rfl,rx⟩:=r.one;cases rx;obtain⟨its,rv,pl,hz⟩:=I.list hq;obtain⟨o,m,ho,P4,VJ,VL⟩:=pl;have e:=oR rv;subst e;obtain⟨rs,r1,r2,r3,r4⟩:=vi I hp;obtain⟨c,G4,dat,sl⟩:=o;simp only at P4 VJ VL;subst P4 VJ VL;rw[h_]at hz;have hl:=kS kvs [];have hkl:=r1.length;rw[List.length_nil]at hl;refine Dp.Ly (knd:=iV X.prog X.w) (bs:=as) (kvs:=rs) (I.ok.hd hc) ho (λi v hv=>?_) (by rw[w_,h_];exact r2) (by rw[w_,h_];exact hz) r4 r3 λh' tk hD hk=>?_
 ·have hv:(as.map η)[i]? = Γ v:=by simpa using hv
  rw[z_]at hv;obtain⟨b,hb,rfl⟩:=M_.mp hv;exact⟨b,rfl,hb⟩
 ·exact⟨.ref _,_,I.laid (a:=s.heap.objs.size) (o:=.dK (kY [] kvs)) (t':=tk) (λb u e=>hk b u (m_ e) e) (n_ _) (ve (by omega) (beq_eq_false_iff_ne.mpr (Ne.symm (s_ I.big))) (KV.merge r1 .nil) hD),rfl,q _ (I.G3.fresh (n_ _))⟩
open PySem.SeqAt
def Inv.G4 {X:Cx}{pins:List (Ψ×Obj)}{σ:St}{H:Hp}{s:Ω}{p:Ψ}{kvs:List (Key×V)}(I:Inv X pins σ H s)(e:Rd H p (.dK kvs)):kvs.length<=Ε/\(p == sysModules)=Θ/\∃vs o es ep,KV kvs vs/\s.heap.get? p=Γ o/\o.data=.dict es ep/\s.heap.DictAt (iV X.prog X.w) p vs ep:=by obtain⟨h1,h2,vs,kv,o,es,ep,ho,c,hd,r⟩:=e.ok I.G3;exact⟨h1,h2,vs,o,es,ep,kv,ho,hd,o,es,ho,c,hd,r⟩
theorem KV.at {κ:Type}:∀ {kvs:List (κ×V)}{vs:List (κ×Φ)} (r:KV kvs vs) {i:Nat}{q:κ×Φ},vs[i]? = Γ q->∃v,kvs[i]? = Γ (q.1,v)/\RelV v q.2
 |_,_,.nil,_,_,h=>by simp at h
 | (k,v)::_,q'::_,.cons r _,0,q,h=>by cases h;obtain⟨r1,r2⟩:=r;have r1:k=q'.1:=r1;subst r1;exact⟨v,rfl,r2⟩
 |_,_,.cons _ r,i+1,q,h=>KV.at r (i:=i) (by simpa using h)
def KV.len {κ:Type}{kvs:List (κ×V)}{vs:List (κ×Φ)}(r:KV kvs vs):kvs.length=vs.length:=Paired.length r
def ui {X:Cx}:jJ X (.builtin "len") (λxs H Q=>∃(p:Ψ) (kvs:List (Key×V)),xs=[.ref p]/\Rd H p (.dK kvs)/\Q (.int kvs.length) H):=by intro pins s σ H xs us Q I r h;obtain⟨p,kvs,rfl,hp,q⟩:=h;obtain⟨u,rfl,rx⟩:=vals1 r;cases rx;obtain⟨hz,lo,vs,o,es,ep,kv,ho,hd,hm⟩:=I.G4 hp;have hs:Ε=16777216:=sizeLine_eq;have hl:=kv.len;exact call_len_dict lo hm.dictOf (by omega) ⟨.int kvs.length,H,I.tok _,⟨_,by rw[hl]⟩,q⟩
def Bj {P:Β}{w:Α}{k:Key}{u:Φ}(h:(iV P w).is k u=Δ):RelV (kV k) u:=by
 rcases iP h with⟨i,t,rfl,rfl⟩|⟨x,t,rfl,rfl⟩
 ·exact⟨t,rfl⟩
 ·exact⟨t,rfl⟩
abbrev Sy (K:Frag)(l:Ψ):It:=
 ⟨λi H=>∃xs x,HJ K H l xs/\xs[i]? = Γ x,
  λi H v H'=>∃T x,v=.ref T/\H T=Ξ/\H'=upd H T (.tup [.int i,x])/\∀xs,HJ K H l xs->xs[i]? = Γ x,
  λi H=>∃xs,HJ K H l xs/\xs.length<=i⟩
def uj {P:Β}{w:Α}{K:Frag}{es:Ü}{c:Nat}{pos:Pos}(e it l:Ψ)(Jf:e≠it) :
  Turn P w K (.Tuple es c pos) (Sy K l) [e,it] e (λn h=>(∃old,IsEnum h e it n old)/\h.IsListIter it l n) where
 mem:=by simp
 obj:=λn h st b hb=>by
  obtain⟨⟨old,he⟩,ci⟩:=st;simp only[l_,E_,or_false]at hb;rcases hb with rfl|rfl
  ·exact⟨_,he,λv z=>by cases z⟩
  ·obtain⟨o,e,c,d⟩:=ci;exact⟨o,e,λv z=>by rw[d]at z;cases z⟩
 keep:=λn h h' st k=>by obtain⟨⟨old,he⟩,ci⟩:=st;exact⟨⟨old,k e (by simp) _ he⟩,ci.at λo q=>k it (by simp) o q⟩
 item:=by
  intro X hP hw hK hc n pins s σ H E I hf st hg;subst hP hw hK;obtain⟨⟨old,he⟩,ci⟩:=st;obtain⟨xs,x,hq,hx⟩:=hg;obtain⟨its,rv,p,hz⟩:=I.list hq;obtain⟨u,hu,ru⟩:=rv.get hx;refine wpAny_pyNext_enum_item he ci p.isList (x:=u) (by simpa using hu) Jf λh1 a1 a2 a3 a4 hk=>?_;refine⟨_,rfl,?_⟩;have le:e < s.heap.objs.size:=m_ he;have Sz:s.heap.objs.size≠e:=Nat.ne_of_gt le;refine wpAny_letOwnedTupleGo_enum (s:={s with heap:=h1,toks:=s.toks+1}) a1 λh2 SA Ki=>?_;have kk:∀b o,b∉[e,it]->s.heap.get? b=Γ o->h2.get? b=Γ o:=λb o hb q=>by simp only[l_,E_,or_false,not_or]at hb;exact Ki.extBut _ _ hb.1 (hk b o hb.1 hb.2 q)
  have hT:=Ki.extBut _ _ Sz a3;have I2:Inv X pins σ (upd H s.heap.objs.size (.tup [.int n,x])) {s with heap:=h2,toks:=s.toks+1}:=I.L9 (t':=s.toks+1) kk hf (n_ _) ⟨by show 2<=Ε;decide,[.int n s.toks,u],.cons ⟨_,rfl⟩ (.cons ru .nil),⟨_,hT,rfl,_,rfl⟩⟩;refine⟨.ref s.heap.objs.size,_,I2,rfl,⟨_,x,rfl,I.G3.fresh (n_ _),rfl,λVM g1=>by rw[I.Hw g1 hq];exact hx⟩,⟨⟨_,by rw[Int.natCast_succ];exact SA⟩,a2.at λo q=>Ki.extBut _ _ Jf.symm q⟩,λb hb=>?_⟩;have Hn:b < s.heap.objs.size:=by
   simp only[l_,E_,or_false]at hb;rcases hb with rfl|rfl
   ·exact le
   ·obtain⟨o,q,_⟩:=ci;exact m_ q
  rw[dN (s_ Hn)];exact(hf b hb).1
 done:=by
  intro X hP hw hK hc n pins s σ H E I hf st hg;subst hP hw hK;obtain⟨⟨old,he⟩,ci⟩:=st;obtain⟨xs,hq,hx⟩:=hg;obtain⟨its,rv,p,hz⟩:=I.list hq;have l1:=rv.length;refine wpAny_pyNext_enum_end (I.ok.hd hc) he ci p.isList (Array.getElem?_eq_none (by simp;omega)) λh1 hk=>⟨rfl,I.turns (t':=s.toks) (ch:=[e,it]) (λb o hb q=>?_) hf⟩
  simp only[l_,E_,or_false,not_or]at hb;exact hk b o hb.2 q
 self:=λ_ _ _ _ _ st h=>by obtain⟨⟨old,he⟩,_⟩:=st;exact wpAny_pyIter_enum he h
def Fo (K:Frag)(ta:TA):TI:=λσ H R=>ta σ H λvs H1=>∃l xs,vs=[.ref l]/\HJ K H1 l xs/\R (Sy K l) H1
def x6 {X:Cx}{a:Expr}{ta:TA}{es:Ü}{c:Nat}{p tp pos:Pos}(hg:Gl X "enumerate") (hm:X.mg "enumerate" = Ξ) (ha:PA X [a] ta) (hs:Μ [a] X.env=[(Θ,eval a X.env)]) :
  PI X (.Tuple es c tp) (.Call (.Name "enumerate" p) [a] [] pos) (Fo X.K ta):=by
 intro pins s σ H R I h;refine Call_ (jB I hg hm boot_enumerate (aae (G5 (ha pos pins s σ H _ I h) λus s1 ⟨vs,H1,I1,r1,q1⟩=>?_) hs rfl));obtain⟨l,xs,e,g1,q⟩:=q1;subst e;obtain⟨u,rfl,r⟩:=vals1 r1;cases r;obtain⟨Oh,O3,p1,hz⟩:=I1.list g1;refine call_enumerate_list p1.isList λh2 b1 b2 b3 b4=>?_;refine wpAny_pyIter_enum (s:={s1 with heap:=h2}) b1 ?_;refine⟨s1.heap.objs.size+1,[s1.heap.objs.size+1,s1.heap.objs.size],_,_,H1,rfl,I1.kept (t':=s1.toks) b4,uj _ _ l (Nat.succ_ne_self _),⟨⟨_,b1⟩,b2⟩,λb hb=>?_,q⟩;have Hn:s1.heap.objs.size<=b:=by
  simp only[l_,E_,or_false]at hb;rcases hb with rfl|rfl
  ·exact Nat.le_add_right _ _
  ·exact n_ _
 exact I1.KO Hn (I1.G3.fresh Hn)
end L2
namespace PySem
open Sem (wp)
open AutoSeq1 (wpAny_loadPart')
set_option maxHeartbeats 1000000 in
def kE (l:Ψ)(items:Array Φ)(n:Nat)(G4:Option Ψ)(sl:Array (Option Φ))(t:Tok) :
  Meets (Builtin.«enumerate.__new__» ⟨[.type "enumerate",.ref l],[("start",.int 1 t)]⟩) (λ_ R s=>s.heap.get? l=Γ {cls:=.type "list",dict:=G4,data:=.seq items n,slots:=sl}/\
   R (.ok (.ret (.ref (s.heap.push {cls:=.type "list_iterator",data:=.fields #[.ref l,.int 0 0]}).objs.size)))
    {s with heap:=(s.heap.push {cls:=.type "list_iterator",data:=.fields #[.ref l,.int 0 0]}).push {cls:=.type "enumerate",data:=.fields #[.none,.bool Θ,.ref s.heap.objs.size,rawInt 1,.none,.none]}}):=
 .of_wp λprog w A R s h=>by
  obtain⟨hp,g,d,tk,os⟩:=s;obtain⟨hl,h⟩:=h;have Yb:=sub_enumerate;have hL:Heap.IsList (Shared.heap ⟨hp,g,d,tk,os⟩) l items:=⟨_,hl,rfl,n,rfl⟩
  wp_walk using wpAny_loadPart' hl
  refine wpAny_stack_any λst=>o_ ?_;split
  ·rename_i c _ _ _ _ _
   cases(c == Value.type "enumerate")
   ·wp_walk using wpAny_loadPart' hl,aag hL
    exact⟨_,rfl,h⟩
   ·wp_walk using wpAny_loadPart' hl,aag hL
    exact⟨_,rfl,h⟩
  ·wp_walk using wpAny_loadPart' hl,aag hL
   exact⟨_,rfl,h⟩
open Sem (wp)
def x8 (a v:Φ):checkTypeCall "enumerate" ⟨[a],[("start",v)]⟩=pure ():=by kernel_rfl
def x9 (a v:Φ):checkBuiltinCall "enumerate.__new__" ⟨[.type "enumerate",a],[("start",v)]⟩=pure ():=by kernel_rfl
def ya (a b v:Φ):argsOk "object.__init__" ⟨[a,b],[("start",v)]⟩:=by
 first|exact F.args_object_init_2 a b|(unfold argsOk;kernel_rfl)|kernel_rfl
set_option maxHeartbeats 1000000 in
def yb {self a v:Φ}:Meets (Builtin.«object.__init__» ⟨[self,a],[("start",v)]⟩) (λ_ R s=>s.TypeIs self "enumerate"/\R (.ok (.ret .none)) s):=by
 refine Meets.of_wp λprog w A R s hs=>?_;obtain⟨hT,hq⟩:=hs;have hl:=F.called_enumerate.init.lookup;have hm:=F.called_enumerate.made;have Jf:(Γ "enumerate.__new__" != Γ "object.__new__")=Δ:=by decide
 repeat (any_goals (first|assumption|wp_step))
 exact⟨_,rfl,hq⟩
section
set_option maxHeartbeats 2000000 in
def rN {prog:Β}{w:Α}{A:Η}{E:Φ->Á}{s:Ω}{l:Ψ}{items:Array Φ}{t:Tok}{Q:Φ->Á}(hL:s.heap.IsList l items)
  (h:∀h',IsEnum h' (s.heap.objs.size+1) s.heap.objs.size 1 .none->h'.IsListIter s.heap.objs.size l 0->(∀b o,s.heap.get? b=Γ o->h'.get? b=Γ o)->Q (.ref (s.heap.objs.size+1)) {s with heap:=h'}) :
  Ι (Κ prog w) A (call (.type "enumerate") [.ref l] [("start",.int 1 t)]) Q E s:=by
 obtain⟨⟨c,G4,dt,sl⟩,hl,hc,n,hd⟩:=hL
 replace hc:c=.type "list":=hc
 replace hd:dt=.seq items n:=hd
 subst hc hd;have ft:=F.called_enumerate;have k1:=ft.notType;have k2:=ft.canCreate;have k3:=ft.made;have k4:=ft.sub;obtain⟨c0,tl,k5⟩:=ft.mro;have k6:=x8 (.ref l) (.int 1 t);refine wpAny_call (codeAny_of_tree ?_);show Ι _ _ (callAny (.type "enumerate") _) _ _ _;refine o_ ⟨Code.quiet_builtin _ ∅,codeAny_builtin F.entry_type_call ?_⟩;rw[Around.under_plain (weight_type_call_type "enumerate" [.ref l] [("start",.int 1 t)]) (units_type_call_type "enumerate" [.ref l] [("start",.int 1 t)])]
 repeat (any_goals (first|assumption|wp_step))
 obtain⟨R1,VN⟩:∃R:Result->Á,R=λr s'=>r=.ok (.ret (.ref (s.heap.push {cls:=.type "list_iterator",data:=.fields #[.ref l,.int 0 0]}).objs.size))/\s' = {s with heap:=(s.heap.push {cls:=.type "list_iterator",data:=.fields #[.ref l,.int 0 0]}).push {cls:=.type "enumerate",data:=.fields #[.none,.bool Θ,.ref s.heap.objs.size,rawInt 1,.none,.none]}}:=⟨_,rfl⟩
 refine codeAny_mono (codeAny_call_builtin (R:=R1) ft.plain F.entry_enumerate_new (wpAny_of_eq (x9 (.ref l) (.int 1 t)) (kE l items n G4 sl t prog w A.in1 R1 s ⟨hl,by rw[VN];exact⟨rfl,rfl⟩⟩))) λr s1 hr=>?_;rw[VN]at hr;obtain⟨rfl,rfl⟩:=hr;have hz:(s.heap.push {cls:=.type "list_iterator",data:=.fields #[.ref l,.int 0 0]}).objs.size=s.heap.objs.size+1:=aaf ..;rw[hz];have he:IsEnum ((s.heap.push {cls:=.type "list_iterator",data:=.fields #[.ref l,.int 0 0]}).push {cls:=.type "enumerate",data:=.fields #[.none,.bool Θ,.ref s.heap.objs.size,rawInt 1,.none,.none]}) (s.heap.objs.size+1) s.heap.objs.size 1 .none:=by have:=D_ (s.heap.push {cls:=.type "list_iterator",data:=.fields #[.ref l,.int 0 0]}) (o:={cls:=.type "enumerate",data:=.fields #[.none,.bool Θ,.ref s.heap.objs.size,rawInt 1,.none,.none]}) rfl;rw[hz]at this;exact this
 have hq:=h _ he ⟨_,r_ _ (D_ _ rfl),rfl,rfl⟩ λb o x=>r_ _ (r_ _ x);have k7:=ft.init.lookup;have k8:=ft.init.bind (.ref (s.heap.objs.size+1));have hT:Shared.TypeIs {s with heap:=(s.heap.push {cls:=.type "list_iterator",data:=.fields #[.ref l,.int 0 0]}).push {cls:=.type "enumerate",data:=.fields #[.none,.bool Θ,.ref s.heap.objs.size,rawInt 1,.none,.none]}} (.ref (s.heap.objs.size+1)) "enumerate":=⟨_,he,rfl⟩
 repeat (any_goals (first|assumption|wp_step))
 obtain⟨R2,VO⟩:∃R:Result->Á,R=λr s'=>r=.ok (.ret .none)/\s' = {s with heap:=(s.heap.push {cls:=.type "list_iterator",data:=.fields #[.ref l,.int 0 0]}).push {cls:=.type "enumerate",data:=.fields #[.none,.bool Θ,.ref s.heap.objs.size,rawInt 1,.none,.none]}}:=⟨_,rfl⟩
 refine codeAny_mono (codeAny_call_builtin (R:=R2) ft.init.plain F.entry_object_init (ft.init.check _ _ _ _ _ _ _ _ hT (ya _ _ _) (yb prog w A.in1 R2 _ ⟨hT,by rw[VO];exact⟨rfl,rfl⟩⟩))) λr2 s2 O2=>?_;rw[VO]at O2;obtain⟨rfl,rfl⟩:=O2
 repeat (any_goals (first|assumption|wp_step))
end
end PySem
namespace L2
open PySem PySem.Spec PyProof.Rows
def mU {prog:Β}{w:Α}{A:Η}{it:Ψ}{fp:È}{n:Nat}{P:Nat->Φ->Prop}{St:Nat->Heap->Prop}(D:Draws prog w A it fp n P St) :
  Draws prog w A it fp (n+1) (λi x=>∃j,i=j+1/\P j x) (λi h=>∃j,i=j+1/\St j h) where
 live:=λi h ⟨j,_,st⟩=>D.live j h st
 frame:=λi h h' ⟨j,e,st⟩ k=>⟨j,e,D.frame j h h' st k⟩
 item:=λi s Q E hi ⟨j,e,st⟩ hQ=>D.item j s Q E (by omega) st λx h' tk px Lq sb=>hQ x h' tk ⟨j,e,px⟩ ⟨j+1,by omega,Lq⟩ sb
 done:=λs Q E ⟨j,e,st⟩ hE=>by
  have:j=n:=by omega
  subst this;exact D.done s Q E st hE
abbrev Bl (K:Frag)(l:Ψ):It:=
 ⟨λi H=>∃xs x,HJ K H l xs/\xs[i]? = Γ x,
  λi H v H'=>∃T x,v=.ref T/\H T=Ξ/\H'=upd H T (.tup [.int ((i:Int)+1),x])/\∀xs,HJ K H l xs->xs[i]? = Γ x,
  λi H=>∃xs,HJ K H l xs/\xs.length=i⟩
def rO {P:Β}{w:Α}{K:Frag}{es:Ü}{c:Nat}{pos:Pos}(e it l:Ψ)(Jf:e≠it) :
  Turn P w K (.Tuple es c pos) (Bl K l) [e,it] e (λn h=>(∃old,IsEnum h e it ((n:Int)+1) old)/\h.IsListIter it l n) where
 mem:=by simp
 obj:=λn h st b hb=>by
  obtain⟨⟨old,he⟩,ci⟩:=st;simp only[l_,E_,or_false]at hb;rcases hb with rfl|rfl
  ·exact⟨_,he,λv z=>by cases z⟩
  ·obtain⟨o,e,c,d⟩:=ci;exact⟨o,e,λv z=>by rw[d]at z;cases z⟩
 keep:=λn h h' st k=>by obtain⟨⟨old,he⟩,ci⟩:=st;exact⟨⟨old,k e (by simp) _ he⟩,ci.at λo q=>k it (by simp) o q⟩
 item:=by
  intro X hP hw hK hc n pins s σ H E I hf st hg;subst hP hw hK;obtain⟨⟨old,he⟩,ci⟩:=st;obtain⟨xs,x,hq,hx⟩:=hg;obtain⟨its,rv,p,hz⟩:=I.list hq;obtain⟨u,hu,ru⟩:=rv.get hx;have SD:l≠it:=by rintro rfl;obtain⟨o,q,c1,_⟩:=ci;obtain⟨o',q',c2,_⟩:=p.isList;rw[q]at q';cases q';rw[c1]at c2;exact absurd (Value.type.inj c2) (by decide)
  have HY:n < its.toArray.size:=by have:=(v_.mp hu).1;simpa using this
  have le:e < s.heap.objs.size:=m_ he;have SE:e≠l:=by rintro rfl;obtain⟨o',q',c2,_⟩:=p.isList;have Sf:s.heap.get? e=Γ _:=he;rw[Sf]at q';cases q';exact absurd (Value.type.inj c2) (by decide)
  have D:=mU (Draws.list (prog:=X.prog) (w:=X.w) (A:=X.A.in1) (I.ok.hd hc) it l SD its.toArray);refine wpAny_pyNext_enum_itemD (i:=n+1) D he ⟨n,rfl,ci,p.isList⟩ (by omega) Jf (by simp[Jf,SE]) λx' h1 tk px a1 Yc a3 a4 hk=>?_;obtain⟨j1,ej,px⟩:=px;have:j1=n:=by omega
  subst this;obtain⟨j2,ej2,a2,_⟩:=Yc;have:j2=j1+1:=by omega
  subst this;have ex:x'=u:=by
   have h1:its.toArray[j1]? = Γ x':=px;have h2:its.toArray[j1]? = Γ u:=by simpa using hu
   rw[h1]at h2;exact B_ h2
  subst ex;refine⟨_,rfl,?_⟩;have Sz:s.heap.objs.size≠e:=Nat.ne_of_gt le;refine wpAny_letOwnedTupleGo_enum (s:={s with heap:=h1,toks:=tk+1}) a1 λh2 SA Ki=>?_;have kk:∀b o,b∉[e,it]->s.heap.get? b=Γ o->h2.get? b=Γ o:=λb o hb q=>by simp only[l_,E_,or_false,not_or]at hb;exact Ki.extBut _ _ hb.1 (hk b o hb.1 hb.2 q)
  have hT:=Ki.extBut _ _ Sz a3;have I2:Inv X pins σ (upd H s.heap.objs.size (.tup [.int ((j1:Int)+1),x])) {s with heap:=h2,toks:=tk+1}:=I.L9 (t':=tk+1) kk hf (n_ _) ⟨by show 2<=Ε;decide,[.int ((j1:Int)+1) tk,x'],.cons ⟨_,rfl⟩ (.cons ru .nil),⟨_,hT,rfl,_,rfl⟩⟩;refine⟨.ref s.heap.objs.size,_,I2,rfl,⟨_,x,rfl,I.G3.fresh (n_ _),rfl,λVM g1=>by rw[I.Hw g1 hq];exact hx⟩,⟨⟨_,by rw[Int.natCast_succ];exact SA⟩,a2.at λo q=>Ki.extBut _ _ Jf.symm q⟩,λb hb=>?_⟩;have Hn:b < s.heap.objs.size:=by
   simp only[l_,E_,or_false]at hb;rcases hb with rfl|rfl
   ·exact le
   ·obtain⟨o,q,_⟩:=ci;exact m_ q
  rw[dN (s_ Hn)];exact(hf b hb).1
 done:=by
  intro X hP hw hK hc n pins s σ H E I hf st hg;subst hP hw hK;obtain⟨⟨old,he⟩,ci⟩:=st;obtain⟨xs,hq,hx⟩:=hg;obtain⟨its,rv,p,hz⟩:=I.list hq;have l1:=rv.length;have SD:l≠it:=by rintro rfl;obtain⟨o,q,c1,_⟩:=ci;obtain⟨o',q',c2,_⟩:=p.isList;rw[q]at q';cases q';rw[c1]at c2;exact absurd (Value.type.inj c2) (by decide)
  have D:=mU (Draws.list (prog:=X.prog) (w:=X.w) (A:=X.A.in1) (I.ok.hd hc) it l SD its.toArray);have en:n=its.toArray.size:=by rw[<- hx,l1];simp
  refine wpAny_pyNext_enum_endD D he ⟨n,by rw[en],ci,p.isList⟩ λh1 hk=>⟨rfl,I.turns (t':=s.toks) (ch:=[e,it]) (λb o hb q=>?_) hf⟩
  simp only[l_,E_,or_false,not_or]at hb;exact hk b o hb.2 q
 self:=λ_ _ _ _ _ st h=>by obtain⟨⟨old,he⟩,_⟩:=st;exact wpAny_pyIter_enum he h
def Dl (K:Frag)(ta:TA):TI:=λσ H R=>ta σ H λvs H1=>∃l xs,vs=[.ref l]/\HJ K H1 l xs/\R (Bl K l) H1
set_option maxHeartbeats 2000000 in
def vj {X:Cx}{a:Expr}{ta:TA}{es:Ü}{c j:Nat}{p tp cp kp pos:Pos}(hg:Gl X "enumerate") (hm:X.mg "enumerate" = Ξ) (ha:PA X [a] ta) (hs:Μ [a] X.env=[(Θ,eval a X.env)]) :
  PI X (.Tuple es c tp) (.Call (.Name "enumerate" p) [a] [⟨Γ "start",.Constant (.int 1) j cp,kp⟩] pos) (Dl X.K ta):=by
 intro pins s σ H R I h;refine P_ (jB I hg hm boot_enumerate (PySem.W.callWith_of (P:=λ_=>True) (by rw[hs];rfl) (λh _=>⟨.machine,.inr (.inl rfl),.now⟩) (evalArgs_kw2 rfl (G5 (ha pos pins s σ H _ I h) λus s1 ⟨vs,H1,I1,r1,q1⟩=>?_) hs)));obtain⟨l,xs,e,g1,q⟩:=q1;subst e;obtain⟨u,rfl,r⟩:=vals1 r1;cases r;refine G5 (xN (nm:=Γ "start") (kpos:=kp) (uJ (j:=j) (pos:=cp) (i:=1)) A8 pos pins s1 σ H1 (λzs H2=>zs=[.int 1]/\H2=H1) I1 ⟨rfl,rfl⟩) λws s2 ⟨zs,H2,I2,rz,e1,e2⟩=>⟨trivial,?_⟩
 subst e1 e2;obtain⟨u2,rfl,r2⟩:=vals1 rz;obtain⟨t,rfl⟩:=r2;obtain⟨Oh,O3,p1,hz⟩:=I2.list g1;refine rN p1.isList λh2 b1 b2 b4=>?_;refine wpAny_pyIter_enum (s:={s2 with heap:=h2}) b1 ?_;refine⟨s2.heap.objs.size+1,[s2.heap.objs.size+1,s2.heap.objs.size],_,_,_,rfl,I2.kept (t':=s2.toks) b4,rO _ _ l (Nat.succ_ne_self _),⟨⟨_,b1⟩,b2⟩,λb hb=>?_,q⟩;have Hn:s2.heap.objs.size<=b:=by
  simp only[l_,E_,or_false]at hb;rcases hb with rfl|rfl
  ·exact Nat.le_add_right _ _
  ·exact n_ _
 exact I2.KO Hn (I2.G3.fresh Hn)
open PySem.SeqAt
theorem sT:∀ {vs:List Φ}{kvs:List (Key×V)},vs.length=kvs.length->(∀(i:Nat) (v:Φ),vs[i]? = Γ v->∃k x,kvs[i]? = Γ (k,x)/\RelV (kV k) v)->Vals (kvs.map λq=>kV q.1) vs
 |[],[],_,_=>.nil
 |v::vs,q::kvs,hl,h=>by obtain⟨k,x,e,r⟩:=h 0 v rfl;cases e;exact .cons r (sT (by simpa using hl) λi u hu=>h (i+1) u hu)
 |[],_::_,hl,_=>by simp at hl
 |_::_,[],hl,_=>by simp at hl
def nG {X:Cx}(hc:X.calm=Δ):jJ X (.type "list") (λxs H Q=>∃(p:Ψ) (kvs:List (Key×V)),xs=[.ref p]/\Rd H p (.dK kvs)/\∀l,H l=Ξ->Q (.ref l) (upd H l (.lst (kvs.map λq=>kV q.1)))):=by
 intro pins s σ H xs us Q I r h;obtain⟨p,kvs,rfl,hp,q⟩:=h;obtain⟨u,rfl,rx⟩:=vals1 r;cases rx;obtain⟨hz,lo,vs,o,es,ep,kv,ho,hd,hm⟩:=I.G4 hp;have hv:=kv.len;refine PySem.W.kdl_call (PySem.W.kdl_dict lo) (I.ok.hd hc) hm (by rw[<- hv];exact hz) λh' tk acc c k e HQ=>?_;have rv:Vals (kvs.map λq=>kV q.1) acc.toList:=sT (by rw[aal,HQ.1];exact hv.symm) λi v hi=>by obtain⟨k,x,e1,e2⟩:=HQ.2 i v (by rw[<- Array.getElem?_toList];exact hi);obtain⟨y,e3,_⟩:=kv.at e1;exact⟨k,y,e3,Bj e2⟩
 have J:=I.laid (t':=tk) (o:=.lst (kvs.map λq=>kV q.1)) k (n_ _) (show iQ X.prog X.w _ _ _ (.lst _) from⟨by rw[h_];exact hz,acc.toList,c,rv,by simpa using e⟩);exact⟨.ref _,_,J,rfl,q _ (I.G3.fresh (n_ _))⟩
def vm (lo:Int){n:Nat}{acc:Array Φ}(HQ:ItemsOf (λi v=>∃t,v=.int (lo+i*1) t) acc n):Vals ((List.range n).map λk=>V.int (lo+(k:Nat))) acc.toList:=by
 have hl:acc.toList.length=n:=by rw[aal,HQ.1]
 have key:∀(m:Nat) (vs:List Φ),vs.length<=m->∀j:Nat,(∀(i:Nat) (v:Φ),vs[i]? = Γ v->∃t,v=.int (lo+((j+i:Nat):Int)) t)->Vals ((List.range vs.length).map λk=>V.int (lo+((j+k:Nat):Int))) vs:=by
  intro m
  induction m with
  |zero=>intro vs hv j _;have:vs=[]:=List.length_eq_zero_iff.mp (by omega);subst this;exact .nil
  |succ m ih=>
   intro vs hv j hh;cases vs with
   |nil=>exact .nil
   |cons v vs=>
    have h1:=ih vs (by simpa using hv) (j+1) λi w hw=>by obtain⟨t,e⟩:=hh (i+1) w hw;exact⟨t,by rw[e];congr 3;omega⟩
    have e2:((List.range (v::vs).length).map λk=>V.int (lo+((j+k:Nat):Int)))=V.int (lo+((j:Nat):Int))::((List.range vs.length).map λk=>V.int (lo+((j+1+k:Nat):Int))):=by rw[List.length_cons,List.range_succ_eq_map,c_,V_];congr 1;exact List.map_congr_left λk _=>by show V.int (lo+((j+(k+1):Nat):Int))=_;congr 3;omega
    rw[e2];obtain⟨t,e⟩:=hh 0 v rfl;exact .cons ⟨t,e⟩ h1
 have:=key n acc.toList (by omega) 0 λi v hi=>by obtain⟨t,e⟩:=HQ.2 i v (by rw[<- Array.getElem?_toList];exact hi);exact⟨t,by rw[e];simp⟩
 rw[hl]at this;simpa using this
def sU {X:Cx}{p p' pos pos':Pos}{a:Expr}{args:Ü}{ta:TA}(hc:X.calm=Δ)(g1:Gl X "list") (m1:X.mg "list" = Ξ) (g2:Gl X "range") (m2:X.mg "range" = Ξ) (ha:PA X (a::args) ta) (hs:Μ (a::args) X.env=(Θ,eval a X.env)::Μ args X.env) (Ki:(backTo pos' (Μ args X.env)).any (·.1)=Θ) :
  PE X (.Call (.Name "list" p) [.Call (.Name "range" p') (a::args) [] pos'] [] pos) (λσ H Q=>ta σ H λvs H1=>∃lo b:Int,((lo=0/\vs=[.int b])∨vs=[.int lo,.int b])/\0<=lo/\lo<=1000/\-1000<=b/\b<=1000/\∀q,H1 q=Ξ->Q (.ref q) (upd H1 q (.lst ((List.range (b - lo).toNat).map λk=>.int (lo+(k:Nat)))))):=by
 intro pins s σ H Q I h;refine P_ (jB (u:=.type "list") I g1 m1 ∅ ?_ (by decide) (by decide));refine aae ?_ rfl rfl;show Ι _ _ (spliced ((Θ,eval (.Call (.Name "range" p') (a::args) [] pos') X.env)::backTo pos (Μ [] X.env))) _ _ s;have key:Ι (Κ X.prog X.w) X.A (eval (.Call (.Name "range" p') (a::args) [] pos') X.env) (λu s1=>∃s0 lo b H1 t1 t2 t3 tk,Inv X pins σ H1 s0/\(0<=lo/\lo<=1000/\-1000<=b/\b<=1000)/\u=.ref s0.heap.objs.size/\s1 = {s0 with heap:=s0.heap.push {cls:=.type "range",data:=.fields #[.int lo t1,.int b t2,.int 1 t3]},toks:=tk}/\∀q,H1 q=Ξ->Q (.ref q) (upd H1 q (.lst ((List.range (b - lo).toNat).map λk=>.int (lo+(k:Nat)))))) X.xe s:=by
  refine Call_ (jB I g2 m2 boot_range (aae (G5 (ha pos' pins s σ H _ I h) λus s1 ⟨vs,H1,I1,r1,lo,b,hv,VP,Q3,VQ,VR,q1⟩=>by
    rcases hv with⟨rfl,rfl⟩|rfl
    ·cases r1 with
     |cons r rr=>cases rr;obtain⟨t,rfl⟩:=r;exact call_range_1 ⟨s1,0,b,H1,_,_,_,_,I1,⟨VP,Q3,VQ,VR⟩,rfl,rfl,q1⟩
    ·cases r1 with
     |cons r rr=>
      cases rr with
      |cons r' rr=>
       cases rr;obtain⟨t,rfl⟩:=r;obtain⟨t',rfl⟩:=r'
       exact call_range_2 ⟨s1,lo,b,H1,_,_,_,_,I1,⟨VP,Q3,VQ,VR⟩,rfl,rfl,q1⟩) hs Ki))
 refine Calls.spliced_cons (G5 key λu s1 ⟨s0,lo,b,H1,t1,t2,t3,tk,I1,⟨h0,h1,hb0,hb⟩,eu,es,q1⟩=>?_);subst eu es;refine Calls.spliced_nil ?_;have hsz:(s0.heap.push {cls:=.type "range",data:=.fields #[.int lo t1,.int b t2,.int 1 t3]}).objs.size=s0.heap.objs.size+1:=aaf ..;refine call_list_range (s:={s0 with heap:=s0.heap.push {cls:=.type "range",data:=.fields #[.int lo t1,.int b t2,.int 1 t3]},toks:=tk}) (n:=(b - lo).toNat) (show X.A.handled=Ξ from I1.ok.hd hc) (IsRange.new ..) (small_one (by omega) (by omega) (by omega) (by omega)) (by rw[rangeSize_one];split<;>omega) (by omega) (λh' Nt Ii c' kp e HQ=>?_);exact⟨.ref _,_,I1.laid (t':=Nt) (o:=.lst ((List.range (b - lo).toNat).map λk=>.int (lo+(k:Nat)))) (λb o e=>kp b o (r_ _ e)) (by show s0.heap.objs.size<=(s0.heap.push _).objs.size;rw[hsz];exact Nat.le_succ _) (show iQ X.prog X.w _ h' _ (.lst _) from⟨by rw[h_,U_];have:=sizeLine_eq;omega,Ii.toList,c',vm lo HQ,by simpa using e⟩),rfl,q1 _ (I1.G3.fresh (by show s0.heap.objs.size<=(s0.heap.push _).objs.size;rw[hsz];exact Nat.le_succ _))⟩
@[reducible]def EX:=Å
inductive D where
 | Gx|bl (b:Bool)|int (i:Int)|str (x:Str)|tup (ds:List D)|lst (own:Bool) (ds:List D)|exc (c:EX)|G4 (own:Bool) (ks:List Key) (ds:List D)|obj (own:Bool) (c:Str) (ks:Â) (ds:List D)
 deriving Inhabited
@[reducible]def _root_.Ê:=List D
mutual
noncomputable def er:D->D
 |.tup ds=>.tup (Gr ds)
 |.lst _ ds=>.lst Θ (Gr ds)
 |.G4 _ ks ds=>.G4 Θ ks (Gr ds)
 |.obj _ c ks ds=>.obj Θ c ks (Gr ds)
 |.Gx=>.Gx
 |.bl b=>.bl b
 |.int i=>.int i
 |.str x=>.str x
 |.exc c=>.exc c
noncomputable def Gr:Ê->Ê
 |[]=>[]
 |d::ds=>er d::Gr ds
end
mutual
noncomputable def i7:D->Bool
 |.lst o ds=>o&&ju ds
 |.tup ds=>ju ds
 |.G4 o _ ds=>o&&ju ds
 |.obj o _ _ ds=>o&&ju ds
 |.Gx=>Δ
 |.bl _=>Δ
 |.int _=>Δ
 |.str _=>Δ
 |.exc _=>Δ
noncomputable def ju:Ê->Bool
 |[]=>Δ
 |d::ds=>i7 d&&ju ds
end
mutual
noncomputable def i0:D->Bool
 |.tup ds=>iy ds
 |.lst _ _=>Θ
 |.G4 _ _ _=>Θ
 |.obj _ _ _ _=>Θ
 |.Gx=>Δ
 |.bl _=>Δ
 |.int _=>Δ
 |.str _=>Δ
 |.exc _=>Δ
noncomputable def iy:Ê->Bool
 |[]=>Δ
 |d::ds=>i0 d&&iy ds
end
theorem jv:∀ds:Ê,Gr ds=ds.map er
 |[]=>rfl
 |d::ds=>by rw[Gr,jv ds];rfl
theorem kq:∀ds:Ê,iy ds=ds.all i0
 |[]=>rfl
 |d::ds=>by rw[iy,kq ds];rfl
def iB (ds:Ê):(Gr ds).length=ds.length:=by rw[jv,h_]
mutual
theorem qt:∀ {d:D},i0 d=Δ->er d=d
 |.Gx,_=>rfl
 |.bl _,_=>rfl
 |.int _,_=>rfl
 |.str _,_=>rfl
 |.exc _,_=>rfl
 |.tup ds,h=>by rw[er,kr (ds:=ds) h]
 |.lst o ds,h=>by cases(show Θ=Δ from h)
 |.G4 o ks ds,h=>by cases(show Θ=Δ from h)
 |.obj o c ks ds,h=>by cases(show Θ=Δ from h)
theorem kr:∀ {ds:Ê},iy ds=Δ->Gr ds=ds
 |[],_=>rfl
 |d::ds,h=>by have h':(i0 d&&iy ds)=Δ:=h;rw[a_]at h';rw[Gr,qt h'.1,kr h'.2]
end
mutual
theorem vn:∀d:D,er (er d)=er d
 |.Gx=>rfl
 |.bl _=>rfl
 |.int _=>rfl
 |.str _=>rfl
 |.exc _=>rfl
 |.tup ds=>by rw[er,er,jO ds]
 |.lst _ ds=>by rw[er,er,jO ds]
 |.G4 _ ks ds=>by rw[er,er,jO ds]
 |.obj _ c ks ds=>by rw[er,er,jO ds]
theorem jO:∀ds:Ê,Gr (Gr ds)=Gr ds
 |[]=>rfl
 |d::ds=>by rw[Gr,Gr,vn d,jO ds]
end
inductive Exc where
 | stuck|exc (c:EX)
@[reducible]def Res (α:Type):=Except Exc α
noncomputable abbrev Gq {α:Type}:Res α:=.error .stuck
abbrev FW {α β:Type}(x:Res α)(f:α->Res β):Res β:=match x with
 |.ok a=>f a
 |.error e=>.error e
abbrev Gn {α:Type}(c:Bool)(x:Res α):Res α:=if c=Δ then x else Gq
def Gb {α:Type}(ex:EX->Prop)(x:Res α)(k:α->Prop):Prop:=match x with
 |.ok a=>k a
 |.error (.exc c)=>ex c
 |.error .stuck=>False
theorem Gb.FW {α β:Type}{ex:EX->Prop}{x:Res α}{f:α->Res β}{k:β->Prop}(h:Gb ex (FW x f) k):Gb ex x λa=>Gb ex (f a) k:=by
 cases x with
 |ok a=>exact h
 |error e=>cases e<;>exact h
theorem Gb.Gn {α:Type}{ex:EX->Prop}{c:Bool}{x:Res α}{k:α->Prop}(h:Gb ex (Gn c x) k):c=Δ/\Gb ex x k:=by
 unfold L2.Gn at h
 induction c using zB with
 |true=>exact⟨rfl,h⟩
 |false=>exact False.elim h
def Gb.mono (h:Gb ex x k)(m:∀a,k a->k' a):Gb ex x k':=by
 cases x with
 |ok a=>exact m a h
 |error e=>cases e<;>exact h
def Gb.mk (h:Gb ex x λa=>Gb ex (f a) k):Gb ex (L2.FW x f) k:=by
 cases x with
 |ok a=>exact h
 |error e=>cases e<;>exact h
def Gb.eq (h:Gb ex x k):Gb ex x λa=>x=.ok a/\k a:=by
 cases x with
 |ok a=>exact⟨rfl,h⟩
 |error e=>cases e<;>exact h
theorem Gb.ok (h:Gb ex (.ok a:Res α) k):k a:=h
def Gb.no (h:Gb ex (Gq:Res α) k):False:=h
inductive LD where
 | l (xs:Ë)|d (kvs:List (Key×V))|i (C dx:Ψ) (fs:List (Str×V))
noncomputable abbrev LD.o:LD->HO
 |.l xs=>.lst xs
 |.d kvs=>.dK kvs
 |.i C dx fs=>.ins C dx fs
def KL.sq {K:Frag}  (h:KL K a xs):HJ K H a xs:=by obtain⟨its,n,h1,h2,h3⟩:=h;exact .inr ⟨_,its.toArray,n,h1,rfl,rfl,rfl,by simpa using h2,by simpa using h3⟩
def Inv.ls (I:Inv X pins σ H s)(h:Ls X.K H a xs) :
  xs.length<=Ε/\∃(its:List Φ) (n:Nat),Vals xs its/\s.heap.get? a=Γ {cls:=.type "list",data:=.seq its.toArray n}:=by
 rcases h with h|⟨its,n,h1,h2,h3⟩
 ·obtain⟨z,its,n,r,e⟩:=h.ok I.G3;exact⟨z,its,n,r,e⟩
 ·exact⟨by rw[h3.length];exact h2,its,n,h3,I.Ig _ _ h1⟩
abbrev nameIn (K:Frag)(C:Ψ):Option Str:=match K.lookup C with
 |some ⟨_,_,.cls cd,_⟩=>Γ cd.name
 |_=>Ξ
structure Cl (H H':Hp):Prop where
 f:∀b o,H b=Γ (.Gy o XU)->H' b=Γ (.Gy o XU)
 t:∀b xs,Rd H b (.tup xs)->Rd H' b (.tup xs)
def Cl.sq {K:Frag}{H H':Hp}{a:Ψ}{xs:Ë}(k:Cl H H')(h:HK K H a xs):HK K H' a xs:=h.elim (λh=>.inl (k.t _ _ h)) .inr
def Cl.trans {H H1 H2:Hp}(a:Cl H H1)(b:Cl H1 H2):Cl H H2:=⟨λc o h=>b.f c o (a.f c o h),λc xs h=>b.t c xs (a.t c xs h)⟩
def XO (_:Frag)(H:Hp)(a:Ψ)(c:EX):Prop:=Vj H a (c.map .int)
def HB (K:Frag)(H:Hp)(a:Ψ):Ë ⊕ EX->Prop
 |.inl xs=>HK K H a xs
 |.inr c=>XO K H a c
def OC (K:Frag)(c:Str)(C:Ψ):Prop:=PySem.W.nsIn K Ζ c=Γ (Γ (.ref C))/\nameIn K C=Γ c
mutual
inductive Gk (K:Frag)(S:Ψ->Prop)(H:Hp):V->D->Prop where
 | Gx:Gk K S H .Gx .Gx
 | bl (b:Bool):Gk K S H (.bl b) (.bl b)
 | int (i:Int):Gk K S H (.int i) (.int i)
 | str (x:Str):Gk K S H (.str x) (.str x)
 | exc {a:Ψ}{c:EX}:HB K H a (.inr c)->Gk K S H (.ref a) (.exc c)
 | tup {a:Ψ}{xs:Ë}{ds:Ê}:HK K H a xs->FZ K S H xs ds->Gk K S H (.ref a) (.tup ds)
 | lst {a:Ψ}{xs:Ë}{o:Bool}{ds:Ê}:S a->Rd H a (.lst xs)->FZ K S H xs ds->Gk K S H (.ref a) (.lst o ds)
 | lstK {a:Ψ}{xs:Ë}{o:Bool}{ds:Ê}:KL K a xs->FZ K S H xs ds->Gk K S H (.ref a) (.lst o ds)
 | G4 {a:Ψ}{kvs:List (Key×V)}{o:Bool}{ks:List Key}{ds:Ê}:S a->Rd H a (.dK kvs)->kvs.map (·.1)=ks->FZ K S H (kvs.map (·.2)) ds->Gk K S H (.ref a) (.G4 o ks ds)
 | obj {a C dx:Ψ}{fs:List (Str×V)}{o:Bool}{c:Str}{ks:Â}{ds:Ê}:S a->Rd H a (.ins C dx fs)->OC K c C/\fs.map (·.1)=ks->FZ K S H (fs.map (·.2)) ds->Gk K S H (.ref a) (.obj o c ks ds)
inductive FZ (K:Frag)(S:Ψ->Prop)(H:Hp):Ë->Ê->Prop where
 | nil:FZ K S H [] []
 | cons {v:V}{d:D}{vs:Ë}{ds:Ê}:Gk K S H v d->FZ K S H vs ds->FZ K S H (v::vs) (d::ds)
end
mutual
inductive Gu (K:Frag)(F:Ψ->Prop)(H:Hp):V->D->È->Prop where
 | Gx:Gu K F H .Gx .Gx []
 | bl (b:Bool):Gu K F H (.bl b) (.bl b) []
 | int (i:Int):Gu K F H (.int i) (.int i) []
 | str (x:Str):Gu K F H (.str x) (.str x) []
 | exc {a:Ψ}{c:EX}:HB K H a (.inr c)->Gu K F H (.ref a) (.exc c) []
 | tup {a:Ψ}{xs:Ë}{ds:Ê}{f:È}:HK K H a xs->Gj K F H xs ds f->Gu K F H (.ref a) (.tup ds) f
 | JD {a:Ψ}{xs:Ë}{ds:Ê}:F a->Rd H a (.lst xs)->Gj K F H xs ds []->Gu K F H (.ref a) (.lst Θ ds) []
 | lstK {a:Ψ}{xs:Ë}{ds:Ê}:KL K a xs->Gj K F H xs ds []->Gu K F H (.ref a) (.lst Θ ds) []
 | HG {a:Ψ}{xs:Ë}{ds:Ê}{f:È}:¬F a->H a=Γ (.lst xs)->Gj K F H xs ds f->Gu K F H (.ref a) (.lst Δ ds) (a::f)
 | Lz {a:Ψ}{kvs:List (Key×V)}{ks:List Key}{ds:Ê}:F a->Rd H a (.dK kvs)->kvs.map (·.1)=ks->Gj K F H (kvs.map (·.2)) ds []->Gu K F H (.ref a) (.G4 Θ ks ds) []
 | Kr {a:Ψ}{kvs:List (Key×V)}{ks:List Key}{ds:Ê}{f:È}:¬F a->H a=Γ (.dK kvs)->kvs.map (·.1)=ks->Gj K F H (kvs.map (·.2)) ds f->Gu K F H (.ref a) (.G4 Δ ks ds) (a::f)
 | LA {a C dx:Ψ}{fs:List (Str×V)}{c:Str}{ks:Â}{ds:Ê}:F a->Rd H a (.ins C dx fs)->OC K c C/\fs.map (·.1)=ks->Gj K F H (fs.map (·.2)) ds []->Gu K F H (.ref a) (.obj Θ c ks ds) []
 | Ju {a C dx:Ψ}{fs:List (Str×V)}{c:Str}{ks:Â}{ds:Ê}{f:È}:¬F a->¬F dx->H a=Γ (.ins C dx fs)->H dx=Γ (.own a)->OC K c C/\fs.map (·.1)=ks->Gj K F H (fs.map (·.2)) ds f->Gu K F H (.ref a) (.obj Δ c ks ds) (a::dx::f)
inductive Gj (K:Frag)(F:Ψ->Prop)(H:Hp):Ë->Ê->È->Prop where
 | nil:Gj K F H [] [] []
 | cons {v:V}{d:D}{f:È}{vs:Ë}{ds:Ê}{g:È}:Gu K F H v d f->Gj K F H vs ds g->Gj K F H (v::vs) (d::ds) (f++g)
end
def ip.rd (e:ip H H')(h:Rd H a u):Rd H' a u:=by
 rcases h with h|⟨o,h⟩
 ·exact .inl (e _ _ h)
 ·exact .inr ⟨o,e _ _ h⟩
def ip.cl {H H':Hp}(e:ip H H'):Cl H H':=⟨λ_ _ h=>e _ _ h,λ_ _ h=>e.rd h⟩
def pA {H:Hp}{l:Ψ}{o':HO}(h1:∀o,H l≠Γ (.Gy o XU))(h2:∀xs,¬Rd H l (.tup xs)):Cl H (upd H l o'):=by
 refine⟨λb o h=>?_,λb xs h=>?_⟩
 ·have:b≠l:=by rintro rfl;exact h1 o h
  rw[dN this];exact h
 ·have:b≠l:=by rintro rfl;exact h2 xs h
  unfold Rd;rw[dN this];exact h
def HB.cl {K:Frag}{H H':Hp}{a:Ψ}{xs:Ë ⊕ EX}(k:Cl H H')(h:HB K H a xs):HB K H' a xs:=by
 cases xs with
 |inl xs=>exact k.sq h
 |inr c=>obtain⟨z,its,n,r,e⟩:=h;exact⟨z,its,n,r,k.f _ _ e⟩
def ip.IQ {K:Frag}  (e:ip H H')(h:HB K H a xs):HB K H' a xs:=h.cl e.cl
def pB {H:Hp}{l:Ψ}{ys:Ë}{o':HO}(hl:H l=Γ (.lst ys)):Cl H (upd H l o'):=
 pA (λo z=>by rw[hl]at z;cases z) λxs z=>by rcases z with z|⟨o,z⟩<;>(rw[hl]at z;cases z)
theorem HB.upd {K:Frag}{H:Hp}{a l:Ψ}{xs:Ë ⊕ EX}{ys zs:Ë}(hl:H l=Γ (.lst ys))(h:HB K H a xs):HB K (upd H l (.lst zs)) a xs:=h.cl (pB hl)
def Rd.some (h:Rd H a u):H a≠Ξ:=by rcases h with h|⟨o,h⟩<;>(rw[h];simp)
section
variable {K:Frag}{S S' F F':Ψ->Prop}{H H':Hp}
def Gk.step (hl:∀a (u:LD),S a->Rd H a u.o->S' a/\Rd H' a u.o)(ht:∀a xs,HB K H a xs->HB K H' a xs)  (h:Gk K S H v d):Gk K S' H' v d:=
 Gk.rec (motive_1:=λv d _=>Gk K S' H' v d) (motive_2:=λv d _=>FZ K S' H' v d) .Gx .bl .int .str (λh=>.exc (ht _ (.inr _) h)) (λh1 _ i=>.tup (ht _ (.inl _) h1) i)
  (λh0 h1 _ i=>.lst (hl _ (.l _) h0 h1).1 (hl _ (.l _) h0 h1).2 i) (λh1 _ i=>.lstK h1 i) (λh0 h1 h2 _ i=>.G4 (hl _ (.d _) h0 h1).1 (hl _ (.d _) h0 h1).2 h2 i) (λh0 h1 h2 _ i=>.obj (hl _ (.i _ _ _) h0 h1).1 (hl _ (.i _ _ _) h0 h1).2 h2 i) .nil (λ_ _ i j=>.cons i j) h
def FZ.step (hl:∀a (u:LD),S a->Rd H a u.o->S' a/\Rd H' a u.o)(ht:∀a xs,HB K H a xs->HB K H' a xs)  (h:FZ K S H v d):FZ K S' H' v d:=
 FZ.rec (motive_1:=λv d _=>Gk K S' H' v d) (motive_2:=λv d _=>FZ K S' H' v d) .Gx .bl .int .str (λh=>.exc (ht _ (.inr _) h)) (λh1 _ i=>.tup (ht _ (.inl _) h1) i)
  (λh0 h1 _ i=>.lst (hl _ (.l _) h0 h1).1 (hl _ (.l _) h0 h1).2 i) (λh1 _ i=>.lstK h1 i) (λh0 h1 h2 _ i=>.G4 (hl _ (.d _) h0 h1).1 (hl _ (.d _) h0 h1).2 h2 i) (λh0 h1 h2 _ i=>.obj (hl _ (.i _ _ _) h0 h1).1 (hl _ (.i _ _ _) h0 h1).2 h2 i) .nil (λ_ _ i j=>.cons i j) h
def Gk.mono (h:Gk K S H v d)(hS:∀a,S a->S' a)(e:ip H H'):Gk K S' H' v d:=h.step (λa xs s r=>⟨hS a s,e.rd r⟩) λa xs s=>e.IQ s
def FZ.mono (h:FZ K S H v d)(hS:∀a,S a->S' a)(e:ip H H'):FZ K S' H' v d:=h.step (λa xs s r=>⟨hS a s,e.rd r⟩) λa xs s=>e.IQ s
def FZ.IW (h:FZ K S H v d):FZ K (λa=>S a/\H a≠Ξ) H v d:=h.step (λa xs s r=>⟨⟨s,r.some⟩,r⟩) λa xs s=>s
def Gk.frozen (h:Gk K F H v d):Gu K F H v (L2.er d) []:=
 Gk.rec (motive_1:=λv d _=>Gu K F H v (L2.er d) []) (motive_2:=λv d _=>Gj K F H v (L2.Gr d) []) .Gx .bl .int .str (λh=>.exc h) (λh1 _ i=>.tup h1 i) (λh0 h1 _ i=>.JD h0 h1 i) (λh1 _ i=>.lstK h1 i) (λh0 h1 h2 _ i=>.Lz h0 h1 h2 i) (λh0 h1 h2 _ i=>.LA h0 h1 h2 i) .nil (λ_ _ i j=>.cons (f:=[]) (g:=[]) i j) h
def FZ.frozen (h:FZ K F H v d):Gj K F H v (L2.Gr d) []:=
 FZ.rec (motive_1:=λv d _=>Gu K F H v (L2.er d) []) (motive_2:=λv d _=>Gj K F H v (L2.Gr d) []) .Gx .bl .int .str (λh=>.exc h) (λh1 _ i=>.tup h1 i) (λh0 h1 _ i=>.JD h0 h1 i) (λh1 _ i=>.lstK h1 i) (λh0 h1 h2 _ i=>.Lz h0 h1 h2 i) (λh0 h1 h2 _ i=>.LA h0 h1 h2 i) .nil (λ_ _ i j=>.cons (f:=[]) (g:=[]) i j) h
def oz (h:(a&&b)=Δ):a=Δ/\b=Δ:=by rwa [a_]at h
def Gk.free (n:i0 d=Δ)(h:Gk K S H v d):Gu K F H v d []:=
 Gk.rec (motive_1:=λv d _=>i0 d=Δ->Gu K F H v d []) (motive_2:=λv d _=>iy d=Δ->Gj K F H v d []) (λ_=>.Gx) (λb _=>.bl b) (λb _=>.int b) (λb _=>.str b) (λh _=>.exc h) (λh1 _ i n=>.tup h1 (i n)) (λ_ _ _ _ n=>nomatch n) (λ_ _ _ n=>nomatch n) (λ_ _ _ _ _ n=>nomatch n) (λ_ _ _ _ _ n=>nomatch n) (λ_=>.nil) (λ_ _ i j n=>.cons (f:=[]) (g:=[]) (i (oz n).1) (j (oz n).2)) h n
def FZ.free (n:iy d=Δ)(h:FZ K S H v d):Gj K F H v d []:=
 FZ.rec (motive_1:=λv d _=>i0 d=Δ->Gu K F H v d []) (motive_2:=λv d _=>iy d=Δ->Gj K F H v d []) (λ_=>.Gx) (λb _=>.bl b) (λb _=>.int b) (λb _=>.str b) (λh _=>.exc h) (λh1 _ i n=>.tup h1 (i n)) (λ_ _ _ _ n=>nomatch n) (λ_ _ _ n=>nomatch n) (λ_ _ _ _ _ n=>nomatch n) (λ_ _ _ _ _ n=>nomatch n) (λ_=>.nil) (λ_ _ i j n=>.cons (f:=[]) (g:=[]) (i (oz n).1) (j (oz n).2)) h n
def i3 {p:Ψ->Prop}:∀a∈([]:È),p a:=λ_ h=>nomatch h
def Gu.read {v:V}{d:D}{f:È}(hF:∀a,F a->S a)(hf:∀a∈f,S a)(h:Gu K F H v d f):Gk K S H v d:=
 Gu.rec (motive_1:=λv d f _=>(∀a∈f,S a)->Gk K S H v d) (motive_2:=λv d f _=>(∀a∈f,S a)->FZ K S H v d) (λ_=>.Gx) (λb _=>.bl b) (λb _=>.int b) (λb _=>.str b) (λh _=>.exc h) (λh1 _ i hf=>.tup h1 (i hf))
  (λh0 h1 _ i _=>.lst (hF _ h0) h1 (i i3)) (λh1 _ i _=>.lstK h1 (i i3)) (λ_ h1 _ i hf=>.lst (hf _ (.head _)) (.inl h1) (i λb hb=>hf b (.tail _ hb))) (λh0 h1 h2 _ i _=>.G4 (hF _ h0) h1 h2 (i i3)) (λ_ h1 h2 _ i hf=>.G4 (hf _ (.head _)) (.inl h1) h2 (i λb hb=>hf b (.tail _ hb))) (λh0 h1 h2 _ i _=>.obj (hF _ h0) h1 h2 (i i3)) (λ_ _ h1 _ h2 _ i hf=>.obj (hf _ (.head _)) (.inl h1) h2 (i λb hb=>hf b (.tail _ (.tail _ hb)))) (λ_=>.nil)
  (λ_ _ i j hf=>.cons (i λa ha=>hf a (j_ _ ha)) (j λa ha=>hf a (k_ _ ha))) h hf
def Gj.read {v:Ë}{d:Ê}{f:È}(hF:∀a,F a->S a)(hf:∀a∈f,S a)(h:Gj K F H v d f):FZ K S H v d:=
 Gj.rec (motive_1:=λv d f _=>(∀a∈f,S a)->Gk K S H v d) (motive_2:=λv d f _=>(∀a∈f,S a)->FZ K S H v d) (λ_=>.Gx) (λb _=>.bl b) (λb _=>.int b) (λb _=>.str b) (λh _=>.exc h) (λh1 _ i hf=>.tup h1 (i hf))
  (λh0 h1 _ i _=>.lst (hF _ h0) h1 (i i3)) (λh1 _ i _=>.lstK h1 (i i3)) (λ_ h1 _ i hf=>.lst (hf _ (.head _)) (.inl h1) (i λb hb=>hf b (.tail _ hb))) (λh0 h1 h2 _ i _=>.G4 (hF _ h0) h1 h2 (i i3)) (λ_ h1 h2 _ i hf=>.G4 (hf _ (.head _)) (.inl h1) h2 (i λb hb=>hf b (.tail _ hb))) (λh0 h1 h2 _ i _=>.obj (hF _ h0) h1 h2 (i i3)) (λ_ _ h1 _ h2 _ i hf=>.obj (hf _ (.head _)) (.inl h1) h2 (i λb hb=>hf b (.tail _ (.tail _ hb)))) (λ_=>.nil)
  (λ_ _ i j hf=>.cons (i λa ha=>hf a (j_ _ ha)) (j λa ha=>hf a (k_ _ ha))) h hf
def iE {α:Type}{x:Option α}{y:α}(h:x=Γ y):x≠Ξ:=λe=>nomatch h.symm.trans e
def Gu.step (hl:∀a (u:LD),F a->Rd H a u.o->F' a/\Rd H' a u.o)(ht:∀a xs,HB K H a xs->HB K H' a xs)  (k:∀a∈f,¬F a->H a≠Ξ->¬F' a/\H' a=H a)
  (h:Gu K F H v d f):Gu K F' H' v d f:=
 Gu.rec (motive_1:=λv d f _=>(∀a∈f,¬F a->H a≠Ξ->¬F' a/\H' a=H a)->Gu K F' H' v d f) (motive_2:=λv d f _=>(∀a∈f,¬F a->H a≠Ξ->¬F' a/\H' a=H a)->Gj K F' H' v d f) (λ_=>.Gx) (λb _=>.bl b) (λb _=>.int b) (λb _=>.str b)
  (λh _=>.exc (ht _ (.inr _) h)) (λh1 _ i k=>.tup (ht _ (.inl _) h1) (i k)) (λh0 h1 _ i _=>.JD (hl _ (.l _) h0 h1).1 (hl _ (.l _) h0 h1).2 (i i3)) (λh1 _ i _=>.lstK h1 (i i3))
  (λh0 h1 _ i k=>.HG (k _ (.head _) h0 (iE h1)).1 ((k _ (.head _) h0 (iE h1)).2.trans h1) (i λb hb=>k b (.tail _ hb))) (λh0 h1 h2 _ i _=>.Lz (hl _ (.d _) h0 h1).1 (hl _ (.d _) h0 h1).2 h2 (i i3)) (λh0 h1 h2 _ i k=>.Kr (k _ (.head _) h0 (iE h1)).1 ((k _ (.head _) h0 (iE h1)).2.trans h1) h2 (i λb hb=>k b (.tail _ hb))) (λh0 h1 h2 _ i _=>.LA (hl _ (.i _ _ _) h0 h1).1 (hl _ (.i _ _ _) h0 h1).2 h2 (i i3)) (λh0 LC h1 I0 h2 _ i k=>.Ju (k _ (.head _) h0 (iE h1)).1 (k _ (.tail _ (.head _)) LC (iE I0)).1 ((k _ (.head _) h0 (iE h1)).2.trans h1) ((k _ (.tail _ (.head _)) LC (iE I0)).2.trans I0) h2 (i λb hb=>k b (.tail _ (.tail _ hb)))) (λ_=>.nil)
  (λ_ _ i j k=>.cons (i λa ha=>k a (j_ _ ha)) (j λa ha=>k a (k_ _ ha))) h k
def Gj.step (hl:∀a (u:LD),F a->Rd H a u.o->F' a/\Rd H' a u.o)(ht:∀a xs,HB K H a xs->HB K H' a xs)  (k:∀a∈f,¬F a->H a≠Ξ->¬F' a/\H' a=H a)
  (h:Gj K F H v d f):Gj K F' H' v d f:=
 Gj.rec (motive_1:=λv d f _=>(∀a∈f,¬F a->H a≠Ξ->¬F' a/\H' a=H a)->Gu K F' H' v d f) (motive_2:=λv d f _=>(∀a∈f,¬F a->H a≠Ξ->¬F' a/\H' a=H a)->Gj K F' H' v d f) (λ_=>.Gx) (λb _=>.bl b) (λb _=>.int b) (λb _=>.str b)
  (λh _=>.exc (ht _ (.inr _) h)) (λh1 _ i k=>.tup (ht _ (.inl _) h1) (i k)) (λh0 h1 _ i _=>.JD (hl _ (.l _) h0 h1).1 (hl _ (.l _) h0 h1).2 (i i3)) (λh1 _ i _=>.lstK h1 (i i3))
  (λh0 h1 _ i k=>.HG (k _ (.head _) h0 (iE h1)).1 ((k _ (.head _) h0 (iE h1)).2.trans h1) (i λb hb=>k b (.tail _ hb))) (λh0 h1 h2 _ i _=>.Lz (hl _ (.d _) h0 h1).1 (hl _ (.d _) h0 h1).2 h2 (i i3)) (λh0 h1 h2 _ i k=>.Kr (k _ (.head _) h0 (iE h1)).1 ((k _ (.head _) h0 (iE h1)).2.trans h1) h2 (i λb hb=>k b (.tail _ hb))) (λh0 h1 h2 _ i _=>.LA (hl _ (.i _ _ _) h0 h1).1 (hl _ (.i _ _ _) h0 h1).2 h2 (i i3)) (λh0 LC h1 I0 h2 _ i k=>.Ju (k _ (.head _) h0 (iE h1)).1 (k _ (.tail _ (.head _)) LC (iE I0)).1 ((k _ (.head _) h0 (iE h1)).2.trans h1) ((k _ (.tail _ (.head _)) LC (iE I0)).2.trans I0) h2 (i λb hb=>k b (.tail _ (.tail _ hb)))) (λ_=>.nil)
  (λ_ _ i j k=>.cons (i λa ha=>k a (j_ _ ha)) (j λa ha=>k a (k_ _ ha))) h k
def qu {p:Ψ->Prop}  (h:p x)(i:∀a∈f,p a):∀a∈x::f,p a:=by
 intro b hb;rcases l_.mp hb with rfl|hb
 ·exact h
 ·exact i b hb
def Dm {p:Ψ->Prop}{f g:È}(h:∀a∈f,p a)(i:∀a∈g,p a):∀a∈f++g,p a:=λb hb=>(t_.mp hb).elim (h b) (i b)
def Gu.own (h:Gu K F H v d f):∀a∈f,¬F a/\∃u,H a=Γ u:=
 Gu.rec (motive_1:=λ_ _ f _=>∀a∈f,¬F a/\∃u,H a=Γ u) (motive_2:=λ_ _ f _=>∀a∈f,¬F a/\∃u,H a=Γ u) i3 (λ_=>i3) (λ_=>i3) (λ_=>i3) (λ_=>i3) (λ_ _ i=>i) (λ_ _ _ _=>i3) (λ_ _ _=>i3)
  (λh0 h1 _ i=>qu ⟨h0,_,h1⟩ i) (λ_ _ _ _ _=>i3) (λh0 h1 _ _ i=>qu ⟨h0,_,h1⟩ i) (λ_ _ _ _ _=>i3) (λh0 LC h1 I0 _ _ i=>qu ⟨h0,_,h1⟩ (qu ⟨LC,_,I0⟩ i)) i3 (λ_ _ i j=>Dm i j) h
def Gj.own (h:Gj K F H v d f):∀a∈f,¬F a/\∃u,H a=Γ u:=
 Gj.rec (motive_1:=λ_ _ f _=>∀a∈f,¬F a/\∃u,H a=Γ u) (motive_2:=λ_ _ f _=>∀a∈f,¬F a/\∃u,H a=Γ u) i3 (λ_=>i3) (λ_=>i3) (λ_=>i3) (λ_=>i3) (λ_ _ i=>i) (λ_ _ _ _=>i3) (λ_ _ _=>i3)
  (λh0 h1 _ i=>qu ⟨h0,_,h1⟩ i) (λ_ _ _ _ _=>i3) (λh0 h1 _ _ i=>qu ⟨h0,_,h1⟩ i) (λ_ _ _ _ _=>i3) (λh0 LC h1 I0 _ _ i=>qu ⟨h0,_,h1⟩ (qu ⟨LC,_,I0⟩ i)) i3 (λ_ _ i j=>Dm i j) h
def iZ (H:Hp)(f:È):Prop:=∀c∈f,(∃u:LD,H c=Γ u.o/\∀C dx fs,u=.i C dx fs->dx∈f)∨∃a∈f,H c=Γ (.own a)
def iZ.cons {a:Ψ}{u:LD}{f:È}(h:H a=Γ u.o)(n:∀C dx fs,u≠.i C dx fs)(i:iZ H f):iZ H (a::f):=λc hc=>by
 rcases l_.mp hc with rfl|hc
 ·exact .inl ⟨u,h,λC dx fs e=>(n C dx fs e).elim⟩
 ·rcases i c hc with⟨u,h1,h2⟩|⟨a,h1,h2⟩
  ·exact .inl ⟨u,h1,λC dx fs e=>.tail _ (h2 C dx fs e)⟩
  ·exact .inr ⟨a,.tail _ h1,h2⟩
def iZ.obj {a C dx:Ψ}{fs:List (Str×V)}{f:È}(h:H a=Γ (.ins C dx fs))(h':H dx=Γ (.own a))(i:iZ H f):iZ H (a::dx::f):=λc hc=>by
 rcases l_.mp hc with rfl|hc
 ·exact .inl ⟨.i C dx fs,h,λC' SF SG e=>by cases e;exact .tail _ (.head _)⟩
 ·rcases l_.mp hc with rfl|hc
  ·exact .inr ⟨a,.head _,h'⟩
  ·rcases i c hc with⟨u,h1,h2⟩|⟨a,h1,h2⟩
   ·exact .inl ⟨u,h1,λC dx fs e=>.tail _ (.tail _ (h2 C dx fs e))⟩
   ·exact .inr ⟨a,.tail _ (.tail _ h1),h2⟩
def iZ.app {f g:È}(i:iZ H f)(j:iZ H g):iZ H (f++g):=λc hc=>by
 rcases t_.mp hc with hc|hc
 ·rcases i c hc with⟨u,h1,h2⟩|⟨a,h1,h2⟩
  ·exact .inl ⟨u,h1,λC dx fs e=>j_ _ (h2 C dx fs e)⟩
  ·exact .inr ⟨a,j_ _ h1,h2⟩
 ·rcases j c hc with⟨u,h1,h2⟩|⟨a,h1,h2⟩
  ·exact .inl ⟨u,h1,λC dx fs e=>k_ _ (h2 C dx fs e)⟩
  ·exact .inr ⟨a,k_ _ h1,h2⟩
def iZ.nil:iZ H []:=λ_ h=>nomatch h
def Gu.Oi {v:V}{d:D}{f:È}(h:Gu K F H v d f):iZ H f:=
 Gu.rec (motive_1:=λ_ _ f _=>iZ H f) (motive_2:=λ_ _ f _=>iZ H f) .nil (λ_=>.nil) (λ_=>.nil) (λ_=>.nil) (λ_=>.nil) (λ_ _ i=>i) (λ_ _ _ _=>.nil) (λ_ _ _=>.nil)
  (λ_ h1 _ i=>.cons (u:=.l _) h1 (λ_ _ _ e=>nomatch e) i) (λ_ _ _ _ _=>.nil) (λ_ h1 _ _ i=>.cons (u:=.d _) h1 (λ_ _ _ e=>nomatch e) i) (λ_ _ _ _ _=>.nil) (λ_ _ h1 I0 _ _ i=>.obj h1 I0 i) .nil (λ_ _ i j=>i.app j) h
mutual
theorem Gu.IX:∀ {v:V}{d:D}{f:È},Gu K F H v d f->i7 d=Δ->(∀a∈f,¬F' a)->Gu K F' H v d f
 |_,_,_,.Gx,_,_=>.Gx
 |_,_,_,.bl b,_,_=>.bl b
 |_,_,_,.int i,_,_=>.int i
 |_,_,_,.str x,_,_=>.str x
 |_,_,_,.exc h,_,_=>.exc h
 |_,_,_,.tup h1 h2,n,k=>.tup h1 (Gj.IX h2 n k)
 |_,_,_,.JD _ _ _,n,_=>nomatch n
 |_,_,_,.lstK _ _,n,_=>nomatch n
 |_,_,_,.HG h0 h1 h2,n,k=>.HG (k _ (.head _)) h1 (Gj.IX h2 n λa ha=>k a (.tail _ ha))
 |_,_,_,.Lz _ _ _ _,n,_=>nomatch n
 |_,_,_,.Kr h0 h1 h2 h3,n,k=>.Kr (k _ (.head _)) h1 h2 (Gj.IX h3 n λa ha=>k a (.tail _ ha))
 |_,_,_,.LA _ _ _ _,n,_=>nomatch n
 |_,_,_,.Ju h0 LC h1 I0 h2 h3,n,k=>.Ju (k _ (.head _)) (k _ (.tail _ (.head _))) h1 I0 h2 (Gj.IX h3 n λa ha=>k a (.tail _ (.tail _ ha)))
theorem Gj.IX:∀ {v:Ë}{d:Ê}{f:È},Gj K F H v d f->ju d=Δ->(∀a∈f,¬F' a)->Gj K F' H v d f
 |_,_,_,.nil,_,_=>.nil
 |_,_,_,.cons h1 h2,n,k=>.cons (Gu.IX h1 (oz n).1 λa ha=>k a (j_ _ ha)) (Gj.IX h2 (oz n).2 λa ha=>k a (k_ _ ha))
end
def FZ.ind {P:Ë->Ê->Prop}(n:P [] [])(c:∀v d vs ds,Gk K S H v d->FZ K S H vs ds->P vs ds->P (v::vs) (d::ds))  (h:FZ K S H vs ds):P vs ds:=
 FZ.rec (motive_1:=λ_ _ _=>True) (motive_2:=λv d _=>P v d) trivial (λ_=>trivial) (λ_=>trivial) (λ_=>trivial) (λ_=>trivial) (λ_ _ _=>trivial) (λ_ _ _ _=>trivial) (λ_ _ _=>trivial) (λ_ _ _ _ _=>trivial) (λ_ _ _ _ _=>trivial) n (λa b _ j=>c _ _ _ _ a b j) h
def Gj.ind {P:Ë->Ê->È->Prop}(n:P [] [] [])(c:∀v d f vs ds g,Gu K F H v d f->Gj K F H vs ds g->P vs ds g->P (v::vs) (d::ds) (f++g))  (h:Gj K F H vs ds f):P vs ds f:=
 Gj.rec (motive_1:=λ_ _ _ _=>True) (motive_2:=λv d f _=>P v d f) trivial (λ_=>trivial) (λ_=>trivial) (λ_=>trivial) (λ_=>trivial) (λ_ _ _=>trivial) (λ_ _ _ _=>trivial) (λ_ _ _=>trivial) (λ_ _ _ _=>trivial) (λ_ _ _ _ _=>trivial) (λ_ _ _ _ _=>trivial) (λ_ _ _ _ _=>trivial) (λ_ _ _ _ _ _ _=>trivial) n (λa b _ j=>c _ _ _ _ _ _ a b j) h
theorem FZ.length (h:FZ K S H vs ds):vs.length=ds.length:=
 FZ.ind (P:=λv d=>v.length=d.length) rfl (λ_ _ _ _ _ _ j=>congrArg (· + 1) j) h
def FZ.get {i:Nat}{vs:Ë}{ds:Ê}{d:D}(h:FZ K S H vs ds)(e:ds[i]? = Γ d):∃v,vs[i]? = Γ v/\Gk K S H v d:=
 FZ.ind (P:=λvs ds=>∀i d,ds[i]? = Γ d->∃v,vs[i]? = Γ v/\Gk K S H v d) (λi d e=>nomatch (show Ξ=Γ d from e)) (λv d _ _ a _ j i d e=>by
  cases i with
  |zero=>exact⟨_,rfl,B_ e ▸ a⟩
  |succ i=>exact j i d e) h i d e
def FZ.Oj {i:Nat}{vs:Ë}{ds:Ê}{v:V}(h:FZ K S H vs ds)(e:vs[i]? = Γ v):∃d,ds[i]? = Γ d/\Gk K S H v d:=
 FZ.ind (P:=λvs ds=>∀i v,vs[i]? = Γ v->∃d,ds[i]? = Γ d/\Gk K S H v d) (λi d e=>nomatch (show Ξ=Γ d from e)) (λv d _ _ a _ j i d e=>by
  cases i with
  |zero=>exact⟨_,rfl,B_ e ▸ a⟩
  |succ i=>exact j i d e) h i v e
def FZ.append (h:FZ K S H vs ds)(h':FZ K S H ws es):FZ K S H (vs++ws) (ds++es):=
 FZ.ind (P:=λv d=>FZ K S H (v++ws) (d++es)) h' (λ_ _ _ _ a _ j=>.cons a j) h
theorem FZ.take (n:Nat)(h:FZ K S H vs ds):FZ K S H (vs.take n) (ds.take n):=
 FZ.ind (P:=λv d=>∀n,FZ K S H (v.take n) (d.take n)) (λn=>by cases n<;>exact .nil) (λ_ _ _ _ a _ j n=>by
  cases n with
  |zero=>exact .nil
  |succ n=>exact .cons a (j n)) h n
theorem FZ.drop (n:Nat)(h:FZ K S H vs ds):FZ K S H (vs.drop n) (ds.drop n):=
 FZ.ind (P:=λv d=>∀n,FZ K S H (v.drop n) (d.drop n)) (λn=>by cases n<;>exact .nil) (λ_ _ _ _ a b j n=>by
  cases n with
  |zero=>exact .cons a b
  |succ n=>exact j n) h n
theorem Gj.length (h:Gj K F H vs ds f):vs.length=ds.length:=
 Gj.ind (P:=λv d _=>v.length=d.length) rfl (λ_ _ _ _ _ _ _ _ j=>congrArg (· + 1) j) h
def Gj.append (h:Gj K F H vs ds f)(h':Gj K F H ws es g):Gj K F H (vs++ws) (ds++es) (f++g):=
 Gj.ind (P:=λv d f=>Gj K F H (v++ws) (d++es) (f++g)) h' (λ_ _ _ _ _ _ a _ j=>by
  rw[y_]
  exact .cons a j) h
def Gk.Hs {o:Bool}  (h:Gk K S H v (.lst o ds)):∃a xs,v=.ref a/\HJ K H a xs/\FZ K S H xs ds:=by
 cases h with
 |lst h0 h1 h2=>exact⟨_,_,rfl,.inl (.inl h1),h2⟩
 |lstK h1 h2=>exact⟨_,_,rfl,h1.sq,h2⟩
def Gk.LF {o:Bool}  (h:Gk K S H v (.lst o ds)):∃a xs,v=.ref a/\Ls K H a xs/\FZ K S H xs ds:=by
 cases h with
 |lst h0 h1 h2=>exact⟨_,_,rfl,.inl h1,h2⟩
 |lstK h1 h2=>exact⟨_,_,rfl,.inr h1,h2⟩
theorem FZ.Il:∀(c:Å),FZ K S H (c.map .int) (c.map .int)
 |[]=>.nil
 |n::c=>.cons (.int n) (FZ.Il c)
def Gk.Mb {v:V}{c:EX}(h:Gk K S H v (.exc c)):∃a xs,v=.ref a/\HJ K H a xs/\FZ K S H xs (c.map .int):=by
 cases h with
 |exc h=>exact⟨_,_,rfl,.inl (.inr h),.Il c⟩
def Gk.HZ (h:Gk K S H v (.tup ds)):∃a xs,v=.ref a/\HK K H a xs/\FZ K S H xs ds:=by
 cases h with
 |tup h1 h2=>exact⟨_,_,rfl,h1,h2⟩
def Gk.Ha (h:Gk K S H v (.int i)):v=.int i:=by cases h;rfl
def Gk.Mc (h:Gk K S H v (.bl i)):v=.bl i:=by cases h;rfl
def Gk.Hx (h:Gk K S H v (.str i)):v=.str i:=by cases h;rfl
def Gk.IC (h:Gk K S H v .Gx):v=.Gx:=by cases h;rfl
def FZ.ints {ns:Å}(h:FZ K S H vs (ns.map .int)):vs=ns.map .int:=
 FZ.ind (P:=λv d=>∀ns:Å,d=ns.map .int->v=ns.map .int) (λns e=>by
  induction ns using zL with
  |nil=>rfl
  |cons n ns=>exact nomatch e) (λ_ _ _ _ a _ j ns e=>by
  induction ns using zL with
  |nil=>exact nomatch e
  |cons n ns=>
   obtain⟨h1,h2⟩:=List.cons.inj e;subst h1;rw[j ns h2,a.Ha]
   rfl) h ns rfl
def FZ.strs {ns:Â}(h:FZ K S H vs (ns.map .str)):vs=ns.map .str:=
 FZ.ind (P:=λv d=>∀ns:Â,d=ns.map .str->v=ns.map .str) (λns e=>by
  induction ns using zL with
  |nil=>rfl
  |cons n ns=>exact nomatch e) (λ_ _ _ _ a _ j ns e=>by
  induction ns using zL with
  |nil=>exact nomatch e
  |cons n ns=>
   obtain⟨h1,h2⟩:=List.cons.inj e;subst h1;rw[j ns h2,a.Hx]
   rfl) h ns rfl
def FZ.VS {ns:List Bool}(h:FZ K S H vs (ns.map .bl)):vs=ns.map .bl:=
 FZ.ind (P:=λv d=>∀ns:List Bool,d=ns.map .bl->v=ns.map .bl) (λns e=>by
  induction ns using zL with
  |nil=>rfl
  |cons n ns=>exact nomatch e) (λ_ _ _ _ a _ j ns e=>by
  induction ns using zL with
  |nil=>exact nomatch e
  |cons n ns=>
   obtain⟨h1,h2⟩:=List.cons.inj e;subst h1;rw[j ns h2,a.Mc]
   rfl) h ns rfl
theorem FZ.ofInts:∀(ns:Å),FZ K S H (ns.map .int) (ns.map .int)
 |[]=>.nil
 |n::ns=>.cons (.int n) (FZ.ofInts ns)
end
theorem ip.upd {H:Hp}{a:Ψ}{o:HO}(h:H a=Ξ):ip H (upd H a o):=λb u e=>by rw[dN (iG e h)];exact e
def zD:type_of% @D.casesOn.{0}:=@D.casesOn.{0}
inductive Ol where
 | add|sub|mul|mod
 deriving DecidableEq
inductive Md where
 | eq|ne|lt|le|gt|JA|J1|MK|Om
 deriving DecidableEq
inductive Kd where
 | str|int|bool|list|tuple
 deriving DecidableEq
inductive Bi where
 | len|min2|max2|list|tuple|all|any
 deriving DecidableEq
inductive Mt where
 | join|index|starts
 deriving DecidableEq
inductive Tg where
 | nm (i:Nat)|tp (ts:List Tg)
structure Gm where
 N:Â
 kd:List NameKind
 gl:Ã
 df:Bool
 cm:Bool:=Δ
 rs:Bool:=Δ
 tr:Bool:=Θ
 io:É:=Ξ
 ln:Ã:=[]
@[reducible]def PN:=É×Ã
abbrev Gm.pn (G:Gm):PN:=(G.io,G.ln)
abbrev pinned (p:PN)(i:Nat):Bool:=p.1 == Γ i||p.2.contains i
mutual
inductive IR where
 | c (d:D)
 | g (n:Nat) (d:D)
 | v (i:Nat)
 | bin (op:Ol) (a b:IR)
 | neg (a:IR)
 | cmp (op:Md) (a b:IR)
 | chain (op Ih:Md) (a b c:IR)
 | Ie (a b:IR)
 | Kf (a b:IR)
 | HI (a:IR)
 | ite (t a b:IR)
 | tup (es:List IR)
 | lst (es:List IR)
 | idx (a i:IR)
 | sl (a:IR) (lo hi:Option IR)
 | call (f:Nat) (es:List IR)
 | bi (f:Bi) (es:List IR)
 | JE
 | J2 (a k:IR)
 | J3 (a:IR) (k:Kd)
 | Ks (a:IR)
 | Ja (es:List IR)
 | IT (a:IR)
 | JY (a:IR)
 | IU (a:IR) (x:Str) (cs:Â)
 | HM (f:Nat) (m c:Str) (a:IR) (es:List IR)
 | Jv (n f:Nat) (c:Str) (es:List IR)
 | KR (a:IR)
 | ID (es:List IR)
 | Me (m:Mt) (o:IR) (es:List IR)
 | comp (G:Gm) (fr:Ã) (tg:Tg) (src:Sr) (ifs:List IR) (elt:IR)
inductive Sr where
 | Hj (n:IR)|IV (a b:IR)|val (e:IR)|J4 (e:IR)
end
@[reducible]def _root_.Ç:=List IR
inductive IS where
 | asg (tg:Tg) (e:IR)
 | IE (i:Nat) (k e:IR)
 | app (i:Nat) (e:IR)
 | JK (i:Nat) (k e:IR)
 | exp (e:IR)
 | ret (e:IR)
 | oset (i:Nat) (x:Str) (cs:Â) (fz:Bool) (e:IR)
 | KS (i:Nat) (x:Str) (cs:Â) (e:IR)
 | LG (j i:Nat) (x:Str) (cs:Â) (k:IR)
 | Nw (j:É) (i f:Nat) (m c:Str) (es:Ç)
 | LH (j i f:Nat) (m c:Str)
 | Im (j f:Nat) (es:Ç) (i:Nat) (es2:Ç)
 | Oo (i f:Nat) (m c:Str) (es:Ç) (g:Nat) (e:IR) (b:List IS)
 | Nx (k:Nat) (s:IS)
 | LI (i:Nat) (y:Str) (cs:Â) (f:Nat) (m c:Str) (es:Ç)
 | Ku (i:Nat) (e:IR)
 | LJ (tg:Tg) (i:Nat) (x:Str) (cs:Â) (body:List IS)
 | Hl (t:IR) (a b:List IS)
 | HR (tg:Tg) (src:Sr) (body:List IS)
 | Iu (t:IR) (body:List IS)
 | brk|cnt|pass
 | never
@[reducible]def _root_.Æ:=List IS
@[reducible]def _root_.À:=Option D
@[reducible]def Ev:=List (À)
inductive Fl where
 | nx (τ:Ev)|rt (d:D)|bk (τ:Ev)|ct (τ:Ev)|ri (d:D) (ks:List Key) (vs:Ê)|ro (d o:D)
abbrev nJ {α:Type}(xs:List α)(lo hi:Option Int):List α:=(xs.drop (HT.JH xs.length 0 lo)).take (HT.JH xs.length xs.length hi - HT.JH xs.length 0 lo)
abbrev jf (n:Nat):Bool:=decide (n<=Ε)
abbrev ky (n:Nat):Bool:=decide (n < Ε)
abbrev JL:Ol->D->D->Res D
 |.add,.int a,.int b=>.ok (.int (a+b))
 |.add,.str a,.str b=>Gn (jf (a.length+b.length)) (.ok (.str (a++b)))
 |.add,.lst _ a,.lst _ b=>Gn (jf (a.length+b.length)) (.ok (.lst Δ (a++b)))
 |.sub,.int a,.int b=>.ok (.int (a - b))
 |.mul,.int a,.int b=>Gn (decide (-(2 ^ 64) < a/\a < 2 ^ 64)||decide (-(2 ^ 64) < b/\b < 2 ^ 64)) (.ok (.int (a*b)))
 |.mul,.lst _ a,.int b=>Gn (decide (0<=b/\b<=16000/\a.length<=1000)) (.ok (.lst Δ (List.flatten (Ρ b.toNat a))))
 |.mul,.str a,.int b=>Gn (decide (-16000<=b/\b<=16000/\a.length<=1000)) (.ok (.str (Txt.mul a b)))
 |.mod,.int a,.int b=>Gn (decide (0 < b)) (.ok (.int (a % b)))
 |_,_,_=>Gq
abbrev lM:D->D->Res D
 |.lst _ ds,.int i=>match Ib ds i with
  |some d=>.ok d
  |none=>Gq
 |.tup ds,.int i=>match Ib ds i with
  |some d=>.ok d
  |none=>Gq
 |.str z,.int i=>Gn (jf z.length) (match Ib z.cps.toList i with
  |some c=>.ok (.str ⟨#[c]⟩)
  |none=>Gq)
 |_,_=>Gq
abbrev qv:D->Option Int->Option Int->Res D
 |.lst _ ds,lo,hi=>.ok (.lst Δ (nJ ds lo hi))
 |.str z,lo,hi=>Gn (jf z.length) (.ok (.str (Txt.slice z lo hi)))
 |_,_,_=>Gq
abbrev iH:D->Res Bool
 |.Gx=>.ok Θ
 |.bl b=>.ok b
 |.int i=>.ok (i != 0)
 |.str x=>Gn (jf x.length) (.ok ((x.length:Int) != 0))
 |.tup ds=>.ok (!ds.isEmpty)
 |.lst _ ds=>.ok (!ds.isEmpty)
 |.exc _=>Gq
 |.G4 _ _ _=>Gq
 |.obj _ _ _ _=>Gq
abbrev jP (f:D->D->Res Bool):Ê->Ê->Res Bool
 |[],[]=>.ok Δ
 |a::r,b::t=>FW (f a b) λx=>FW (jP f r t) λy=>.ok (x&&y)
 |_,_=>.ok Θ
abbrev HS:Nat->D->D->Res Bool
 |0,_,_=>Gq
 |_+1,.exc _,_=>Gq
 |_+1,_,.exc _=>Gq
 |_+1,.G4 _ _ _,_=>Gq
 |_+1,_,.G4 _ _ _=>Gq
 |_+1,.obj _ _ _ _,_=>Gq
 |_+1,_,.obj _ _ _ _=>Gq
 |_+1,.Gx,.Gx=>.ok Δ
 |_+1,.Gx,_=>.ok Θ
 |_+1,.bl a,.bl b=>.ok (a == b)
 |_+1,.bl a,.int b=>.ok ((if a then 1 else 0) == b)
 |_+1,.bl _,_=>.ok Θ
 |_+1,.int a,.bl b=>.ok (a == (if b then 1 else 0))
 |_+1,.int a,.int b=>.ok (a == b)
 |_+1,.int _,_=>.ok Θ
 |_+1,.str a,.str b=>.ok (a == b)
 |_+1,.str _,_=>.ok Θ
 |n+1,.tup a,.tup b=>jP (HS n) a b
 |_+1,.tup _,_=>.ok Θ
 |n+1,.lst _ a,.lst _ b=>jP (HS n) a b
 |_+1,.lst _ _,_=>.ok Θ
abbrev Ht (d:D):Ê->Res Bool
 |[]=>.ok Θ
 |e::r=>FW (HS 40 e d) λx=>FW (Ht d r) λy=>.ok (x||y)
abbrev qw (x y:Str):Bool:=!(Builtin.Str.occurrences x y 0 x.length 1).isEmpty
abbrev kT:D->Bool
 |.Gx=>Δ
 |_=>Θ
abbrev kz:D->Bool
 |.exc _=>Θ
 |.G4 _ _ _=>Θ
 |.obj _ _ _ _=>Θ
 |_=>Δ
abbrev HV:Md->D->D->Res Bool
 |.eq,a,b=>HS 40 a b
 |.ne,a,b=>FW (HS 40 a b) λr=>.ok !r
 |.lt,.int a,.int b=>.ok (decide (a < b))
 |.le,.int a,.int b=>.ok (decide (a<=b))
 |.gt,.int a,.int b=>.ok (decide (b < a))
 |.JA,.str y,.str x=>.ok (qw x y)
 |.J1,.str y,.str x=>.ok (!qw x y)
 |.JA,a,.lst _ ds=>Ht a ds
 |.J1,a,.lst _ ds=>FW (Ht a ds) λr=>.ok !r
 |.JA,a,.exc ns=>Ht a (ns.map .int)
 |.J1,a,.exc ns=>FW (Ht a (ns.map .int)) λr=>.ok !r
 |.JA,a,.tup ds=>Ht a ds
 |.J1,a,.tup ds=>FW (Ht a ds) λr=>.ok !r
 |.MK,a,.Gx=>.ok (kT a)
 |.Om,a,.Gx=>.ok (!kT a)
 |_,_,_=>Gq
abbrev j9:Ê->Option (Å)
 |[]=>Γ []
 |.int i::r=>(j9 r).map (i::·)
 |_::_=>Ξ
abbrev jC:Ê->Option (Â)
 |[]=>Γ []
 |.str i::r=>(jC r).map (i::·)
 |_::_=>Ξ
abbrev kc:Ê->Option (List Bool)
 |[]=>Γ []
 |.bl i::r=>(kc r).map (i::·)
 |_::_=>Ξ
abbrev kA:Kd->D->Bool
 |.str,.str _=>Δ
 |.int,.int _=>Δ
 |.int,.bl _=>Δ
 |.bool,.bl _=>Δ
 |.list,.lst _ _=>Δ
 |.tuple,.tup _=>Δ
 |_,_=>Θ
abbrev lN:D->Bool
 |.lst _ _=>Δ
 |.tup _=>Δ
 |_=>Θ
abbrev jD (x:Str):Ê:=x.cps.toList.map λc=>.str ⟨#[c]⟩
abbrev yf:Key->D
 |.inl i=>.int i
 |.inr x=>.str x
abbrev jZ:Bi->Ê->Res D
 |.len,[.str x]=>Gn (jf x.length) (.ok (.int x.length))
 |.len,[.tup ds]=>.ok (.int ds.length)
 |.len,[.lst _ ds]=>.ok (.int ds.length)
 |.len,[.exc ns]=>.ok (.int (ns.map D.int).length)
 |.list,[.exc ns]=>.ok (.lst Δ (ns.map .int))
 |.len,[.G4 _ ks _]=>.ok (.int ks.length)
 |.min2,[.int a,.int b]=>.ok (.int (if b < a then b else a))
 |.max2,[.int a,.int b]=>.ok (.int (if b > a then b else a))
 |.list,[.lst _ ds]=>.ok (.lst Δ ds)
 |.list,[.tup ds]=>.ok (.lst Δ ds)
 |.list,[.G4 _ ks _]=>.ok (.lst Δ (ks.map yf))
 |.tuple,[.lst _ ds]=>.ok (.tup ds)
 |.tuple,[.str x]=>Gn (jf x.length) (.ok (.tup (jD x)))
 |.all,[.lst _ ds]=>match kc ds with
  |some bs=>.ok (.bl (bs.all id))
  |none=>Gq
 |.any,[.lst _ ds]=>match kc ds with
  |some bs=>.ok (.bl (bs.any id))
  |none=>Gq
 |_,_=>Gq
abbrev nK:D->Option Key
 |.int i=>Γ (.inl i)
 |.str x=>Γ (.inr x)
 |_=>Ξ
abbrev look:List Key->Ê->Key->À
 |k::ks,d::ds,q=>if k=q then Γ d else look ks ds q
 |_,_,_=>Ξ
abbrev uk (ks:List Key)(q:Key):Bool:=ks.any λk=>decide (k=q)
abbrev nO (ks:List Key)(q:Key):List Key:=if uk ks q=Δ then ks else ks++[q]
abbrev mV (ks:List Key)(ds:Ê)(q:Key)(d:D):Ê:=if uk ks q=Δ then List.zipWith (λk e=>if k=q then d else e) ks ds else ds++[d]
abbrev qx:D->D->Res D
 |.G4 _ ks ds,y=>match nK y with
  |some q=>(match look ks ds q with
   |some d=>.ok d
   |none=>Gq)
  |none=>Gq
 |_,_=>Gq
abbrev sV:D->Res D
 |.lst _ ds=>match jC ds with
  |some ns=>Gn (decide (ns.length < 1000)) (.ok (.int ((ns.foldl Sx.dd []).length:Nat)))
  |none=>Gq
 |_=>Gq
abbrev oS:Ê->Option (List (Key×D))
 |[]=>Γ []
 |.tup [k,v]::r=>match nK k,oS r with
  |some q,Γ ps=>Γ ((q,v)::ps)
  |_,_=>Ξ
 |_::_=>Ξ
abbrev Oq:List (Key×D)->List Key->Ê->List Key×Ê
 |[],ks,ds=>(ks,ds)
 | (q,d)::r,ks,ds=>Oq r (nO ks q) (mV ks ds q d)
abbrev kZ:D->Bool
 |.str _=>Δ
 |_=>Θ
abbrev oA:Mt->D->Ê->Res D
 |.join,.str x,[.lst _ ds]=>match jC ds with
  |some ys=>Gn (decide ((ys.map (·.length)).sum+ys.length*x.length<=16777216)) (.ok (.str (Txt.join x ys)))
  |none=>Gq
 |_,_,_=>Gq
abbrev k9:D->Res (Ê)
 |.lst _ ds=>.ok ds
 |.exc ns=>.ok (ns.map .int)
 |.tup ds=>.ok ds
 |.str x=>Gn (jf x.length) (.ok (jD x))
 |_=>Gq
abbrev mB (ds:Ê):Ê:=List.zipWith (λ(k:Nat) d=>.tup [.int k,d]) (List.range ds.length) ds
abbrev yg:D->Res (Ê)
 |.lst _ ds=>.ok (mB ds)
 |.exc ns=>.ok (mB (ns.map .int))
 |_=>Gq
abbrev iW (a b:Int):Ê:=(List.range (b - a).toNat).map λk=>.int (a+(k:Nat))
abbrev vp:D->Res D
 |.lst _ ds=>.ok (.lst Δ ds.reverse)
 |_=>Gq
abbrev mW:Ê->Res D
 |[.int b]=>Gn (decide (-1000<=b/\b<=1000)) (.ok (.lst Δ (iW 0 b)))
 |[.int a,.int b]=>Gn (decide (0<=a/\a<=1000/\-1000<=b/\b<=1000)) (.ok (.lst Δ (iW a b)))
 |_=>Gq
abbrev iw:Â->Ê->Str->À
 |k::ks,d::ds,q=>if k=q then Γ d else iw ks ds q
 |_,_,_=>Ξ
abbrev jw (x:Str):Â->Â
 |[]=>[x]
 |k::ks=>if k=x then k::ks else k::jw x ks
abbrev iM (x:Str)(d:D):Â->Ê->Ê
 |k::ks,e::ds=>if k=x then d::ds else e::iM x d ks ds
 |_,_=>[d]
abbrev yh (x:Str)(cs:Â):D->Res D
 |.obj _ c ks ds=>Gn (cs.contains c) (match iw ks ds x with
  |some d=>.ok d
  |none=>Gq)
 |_=>Gq
abbrev jE (c m:Str):D->Bool
 |.obj _ c' ks _=>c == c'&&!ks.contains m
 |_=>Θ
abbrev sW:D->Res D
 |.lst _ ds=>match oS ds with
  |some ps=>.ok (.G4 Δ (Oq ps [] []).1 (Oq ps [] []).2)
  |none=>Gq
 |_=>Gq
abbrev jL (ds:Ê):Ê:=List.zipWith (λ(k:Nat) d=>.tup [.int ((k:Int)+1),d]) (List.range ds.length) ds
abbrev rP (τ:List (À)):D->Res (D×List (À))
 |.tup [.Gx,.obj Δ c ks vs]=>.ok (.obj Δ c ks vs,τ)
 |_=>Gq
abbrev jk (i:Int):Bool:=decide (-(2 ^ 62)<=i/\i < 2 ^ 62)
abbrev iX {α β:Type}(f:α->Res (Option β)):List α->Res (List β)
 |[]=>.ok []
 |x::xs=>FW (f x) λ
  |some d=>FW (iX f xs) λr=>.ok (d::r)
  |none=>iX f xs
abbrev Ia {α:Type}:Res α->Res α
 |.error _=>Gq
 |.ok a=>.ok a
mutual
noncomputable def jo:Tg->D->Ev->Res Ev
 |.nm i,d,τ=>.ok (τ.set i (Γ d))
 |.tp ts,.tup ds,τ=>Gn (decide (ds.length=ts.length)) (kU ts ds τ)
 |.tp ts,.lst _ ds,τ=>Gn (decide (ds.length=ts.length)) (kU ts ds τ)
 |.tp _,_,_=>Gq
noncomputable def kU:List Tg->Ê->Ev->Res Ev
 |t::ts,d::ds,τ=>FW (jo t d τ) λGv=>kU ts ds Gv
 |[],[],τ=>.ok τ
 |_,_,_=>Gq
end
abbrev dJ (τ:Ev)(i:Nat):À:=(τ[i]?).join
mutual
noncomputable def vars:IR->Ã
 |.c _=>[]
 |.g _ _=>[]
 |.v i=>[i]
 |.bin _ a b=>vars a++vars b
 |.neg a=>vars a
 |.cmp _ a b=>vars a++vars b
 |.chain _ _ a b c=>vars a++vars b++vars c
 |.Ie a b=>vars a++vars b
 |.Kf a b=>vars a++vars b
 |.HI a=>vars a
 |.ite t a b=>vars t++vars a++vars b
 |.tup es=>dI es
 |.lst es=>dI es
 |.idx a i=>vars a++vars i
 |.sl a lo hi=>vars a++vq lo++vq hi
 |.call _ es=>dI es
 |.bi _ es=>dI es
 |.JE=>[]
 |.J2 a k=>vars a++vars k
 |.J3 a _=>vars a
 |.Ks a=>vars a
 |.Ja es=>dI es
 |.IT a=>vars a
 |.JY a=>vars a
 |.IU a _ _=>vars a
 |.HM _ _ _ a es=>vars a++dI es
 |.Jv _ _ _ es=>dI es
 |.KR a=>vars a
 |.ID es=>dI es
 |.Me _ o es=>vars o++dI es
 |.comp _ fr _ src _ _=>fr++lO src
noncomputable def dI:Ç->Ã
 |[]=>[]
 |e::es=>vars e++dI es
noncomputable def vq:Option IR->Ã
 |none=>[]
 |some e=>vars e
noncomputable def lO:Sr->Ã
 |.Hj n=>vars n
 |.IV a b=>vars a++vars b
 |.val e=>vars e
 |.J4 a=>vars a
end
@[reducible]def _root_.Ä:=Nat->Ê->Res D
mutual
noncomputable def Gs (cl:Ä):IR->Ev->Res D
 |.c d,_=>.ok d
 |.g _ d,_=>.ok d
 |.v i,τ=>match dJ τ i with
  |some d=>.ok d
  |none=>Gq
 |.bin op a b,τ=>FW (Gs cl a τ) λx=>FW (Gs cl b τ) λy=>JL op x y
 |.neg a,τ=>FW (Gs cl a τ) λ
  |.int i=>.ok (.int (-i))
  |_=>Gq
 |.cmp op a b,τ=>FW (Gs cl a τ) λx=>FW (Gs cl b τ) λy=>FW (HV op x y) λr=>.ok (.bl r)
 |.chain op Ih a b c,τ=>FW (Gs cl a τ) λx=>FW (Gs cl b τ) λy=>FW (HV op x y) λr=>
  if r=Δ then FW (Gs cl c τ) λz=>FW (HV Ih y z) λr'=>.ok (.bl r') else .ok (.bl Θ)
 |.Ie a b,τ=>FW (Gs cl a τ) λx=>FW (iH x) λr=>if r=Δ then Gs cl b τ else .ok x
 |.Kf a b,τ=>FW (Gs cl a τ) λx=>FW (iH x) λr=>if r=Δ then .ok x else Gs cl b τ
 |.HI a,τ=>FW (Gs cl a τ) λx=>FW (iH x) λr=>.ok (.bl !r)
 |.ite t a b,τ=>FW (Gs cl t τ) λx=>FW (iH x) λr=>if r=Δ then Gs cl a τ else Gs cl b τ
 |.tup es,τ=>FW (iq cl es τ) λds=>Gn (jf ds.length) (.ok (.tup ds))
 |.lst es,τ=>FW (iq cl es τ) λds=>Gn (jf ds.length) (.ok (.lst Δ ds))
 |.idx a i,τ=>FW (Gs cl a τ) λx=>FW (Gs cl i τ) λy=>lM x y
 |.sl a lo hi,τ=>FW (Gs cl a τ) λx=>FW (pC cl lo τ) λl=>FW (pC cl hi τ) λh=>qv x l h
 |.call f es,τ=>FW (iq cl es τ) λds=>cl f (Gr ds)
 |.bi f es,τ=>FW (iq cl es τ) λds=>jZ f ds
 |.JE,_=>.ok (.G4 Δ [] [])
 |.J2 a k,τ=>FW (Gs cl a τ) λx=>FW (Gs cl k τ) λy=>qx x y
 |.Ks a,τ=>FW (Gs cl a τ) λx=>Gn (kz x) (.ok (.bl (lN x)))
 |.Ja es,τ=>FW (iq cl es τ) mW
 |.J3 a k,τ=>FW (Gs cl a τ) λx=>Gn (kz x) (.ok (.bl (kA k x)))
 |.IT a,τ=>FW (Gs cl a τ) vp
 |.JY a,τ=>FW (Gs cl a τ) sV
 |.IU a x cs,τ=>FW (Gs cl a τ) (yh x cs)
 |.HM f m c a es,τ=>FW (Gs cl a τ) λx=>Gn (jE c m x) (FW (iq cl es τ) λds=>cl f (er x::Gr ds))
 |.Jv _ _ _ _,_=>Gq
 |.KR a,τ=>FW (Gs cl a τ) sW
 |.ID es,τ=>FW (iq cl es τ) λds=>Gn (jf ds.length) (.ok (.lst Δ ds))
 |.Me m o es,τ=>FW (Gs cl o τ) λx=>Gn (kZ x) (FW (iq cl es τ) λds=>oA m x ds)
 |.comp G fr tg src ifs elt,τ=>FW (kB cl src τ) λits=>Gn (ky its.length) (FW (Ia (iX (λx=>FW (jo tg x (fr.map (dJ τ)++Ρ (G.N.length - fr.length) Ξ)) λNy=>
   FW (lj cl ifs Ny) λr=>if r=Δ then FW (Gs cl elt Ny) λd=>.ok (Γ d) else .ok Ξ) its)) λds=>.ok (.lst Δ ds))
noncomputable def iq (cl:Ä):Ç->Ev->Res (Ê)
 |[],_=>.ok []
 |e::es,τ=>FW (Gs cl e τ) λd=>FW (iq cl es τ) λds=>.ok (d::ds)
noncomputable def pC (cl:Ä):Option IR->Ev->Res (Option Int)
 |none,_=>.ok Ξ
 |some e,τ=>FW (Gs cl e τ) λ
  |.int i=>.ok (Γ i)
  |_=>Gq
noncomputable def lj (cl:Ä):Ç->Ev->Res Bool
 |[],_=>.ok Δ
 |e::es,τ=>FW (FW (Gs cl e τ) iH) λr=>if r=Δ then lj cl es τ else .ok Θ
noncomputable def kB (cl:Ä):Sr->Ev->Res (Ê)
 |.Hj n,τ=>FW (Gs cl n τ) λ
  |.int i=>Gn (jk i) (.ok (iW 0 i))
  |_=>Gq
 |.IV a b,τ=>FW (Gs cl a τ) λx=>FW (Gs cl b τ) λy=>match x,y with
  |.int i,.int j=>Gn (jk i&&jk j) (.ok (iW i j))
  |_,_=>Gq
 |.val e,τ=>FW (Gs cl e τ) k9
 |.J4 a,τ=>FW (Gs cl a τ) yg
end
abbrev KH (cl:Ä)(t:IR)(τ:Ev):Res Bool:=FW (Gs cl t τ) iH
abbrev mC (is:Ã):Nat->Ev->Ev
 |_,[]=>[]
 |k,o::τ=>(if is.contains k then o.map er else o)::mC is (k+1) τ
noncomputable abbrev Gy (is:Ã)(τ:Ev):Ev:=mC is 0 τ
abbrev iS : IR->Bool
 |.bin .add _ _=>Δ
 |.bin .mul _ _=>Δ
 |.sl _ _ _=>Δ
 |.bi .list _=>Δ
 |.IT _=>Δ
 |.Ja _=>Δ
 |.comp _ _ _ _ _ _=>Δ
 |.ID _=>Δ
 |_=>Θ
abbrev iT (e:IR)(d:D)(τ:Ev):D×Ev:=
 if i0 d=Δ then(d,τ)
 else match iS e,d with
  |true,.lst _ ds=>if iy ds=Δ then(.lst Δ ds,τ) else(.lst Δ (Gr ds),Gy (vars e) τ)
  |_,_=>(er d,Gy (vars e) τ)
mutual
noncomputable def Ho (cl:Ä)(mv:Bool):IR->Ev->Res (D×Ev)
 |.v i,τ=>match dJ τ i with
  |some d=>if mv=Δ then .ok (d,τ.set i Ξ) else .ok (er d,τ.set i (Γ (er d)))
  |none=>Gq
 |.tup es,τ=>FW (oB cl mv es τ) λp=>Gn (jf p.1.length) (.ok (.tup p.1,p.2))
 |.lst es,τ=>FW (oB cl mv es τ) λp=>Gn (jf p.1.length) (.ok (.lst Δ p.1,p.2))
 |.JE,τ=>.ok (.G4 Δ [] [],τ)
 |.ite t a b,τ=>FW (KH cl t τ) λr=>if r=Δ then Ho cl mv a τ else Ho cl mv b τ
 |.call f es,τ=>FW (iq cl es τ) λds=>FW (cl f (Gr ds)) λd=>if i7 d=Δ then .ok (d,τ) else .ok (d,Gy (dI es) τ)
 |.Jv _ f c es,τ=>FW (iq cl es τ) λds=>FW (Ia (cl f (.obj Δ c [] []::Gr ds))) (rP (Gy (dI es) τ))
 |e,τ=>FW (Gs cl e τ) λd=>.ok (iT e d τ)
noncomputable def oB (cl:Ä)(mv:Bool):Ç->Ev->Res (Ê×Ev)
 |[],τ=>.ok ([],τ)
 |e::es,τ=>FW (Ho cl mv e τ) λp=>FW (oB cl mv es p.2) λq=>.ok (p.1::q.1,q.2)
end
abbrev forM (body:D->Ev->Res Fl):Ê->Ev->Res Fl
 |[],τ=>.ok (.nx τ)
 |x::xs,τ=>FW (body x τ) λ
  |.nx Gv=>forM body xs Gv
  |.ct Gv=>forM body xs Gv
  |.bk Gv=>.ok (.nx Gv)
  |.rt d=>.ok (.rt d)
  |.ri d ks vs=>.ok (.ri d ks vs)
  |.ro d o=>.ok (.ro d o)
abbrev i5 (test:Ev->Res Bool)(body:Ev->Res Fl):Nat->Ev->Res Fl
 |0,_=>Gq
 |n+1,τ=>FW (test τ) λr=>if r=Δ then FW (body τ) λ
  |.nx Gv=>i5 test body n Gv
  |.ct Gv=>i5 test body n Gv
  |.bk Gv=>.ok (.nx Gv)
  |.rt d=>.ok (.rt d)
  |.ri d ks vs=>.ok (.ri d ks vs)
  |.ro d o=>.ok (.ro d o)
  else .ok (.nx τ)
abbrev qy (cl:Ä)(s:Sr)(τ:Ev):Res (Ê×Ev):=FW (kB cl s τ) λits=>match s with
 |.Hj _=>.ok (its,τ)
 |.IV _ _=>.ok (its,τ)
 |s=>.ok (Gr its,Gy (lO s) τ)
mutual
noncomputable def lq:D->Bool
 |.lst o ds=>!o&&jU ds
 |.tup ds=>jU ds
 |.G4 o _ ds=>!o&&jU ds
 |.obj o _ _ ds=>!o&&jU ds
 |_=>Δ
noncomputable def jU:Ê->Bool
 |[]=>Δ
 |d::ds=>lq d&&jU ds
end
abbrev oT:Nat:=1000000
abbrev qz (i:Nat)(x:Str)(cs:Â)(fz:Bool)(d:D)(τ:Ev):À->Res Fl
 |some (.obj Δ c ks ds)=>Gn (cs.contains c&&decide (ks.length < 1000)) (.ok (.nx (τ.set i (Γ (.obj Δ c (jw x ks) (iM x (if fz=Δ then er d else d) ks ds))))))
 |_=>Gq
abbrev sX (i:Nat)(x c:Str)(d:D)(τ:Ev)(ks:Â)(ds:Ê):À->Res Fl
 |some (.lst Δ es)=>Gn (ky es.length) (.ok (.nx (τ.set i (Γ (.obj Δ c ks (iM x (.lst Δ (es++[er d])) ks ds))))))
 |_=>Gq
abbrev oU (i:Nat)(x:Str)(cs:Â)(d:D)(τ:Ev):À->Res Fl
 |some (.obj Δ c ks ds)=>Gn (cs.contains c) (sX i x c d τ ks ds (iw ks ds x))
 |_=>Gq
abbrev um:À->Bool
 |some (.lst _ _)=>Δ
 |_=>Θ
abbrev sY (j:Nat)(τ:Ev)(es:Ê):D->Res Fl
 |.int z=>(match Ib es z with
  |some d=>Gn (lq d) (.ok (.nx (τ.set j (Γ d))))
  |none=>Gq)
 |_=>Gq
abbrev oV (cl:Ä)(j:Nat)(k:IR)(τ:Ev):À->Res Fl
 |some (.lst Δ es)=>FW (Gs cl k τ) (sY j τ es)
 |_=>Gq
abbrev ka (j:É)(i:Nat)(τ:Ev):D->Res Fl
 |.tup [d,.obj Δ c ks ds]=>.ok (.nx (match j with
  |some j=>(τ.set i (Γ (.obj Δ c ks ds))).set j (Γ d)
  |none=>τ.set i (Γ (.obj Δ c ks ds))))
 |_=>Gq
abbrev nQ (y c0:Str)(ks:Â)(ds:Ê):D->Res Fl
 |.tup [d,.obj Δ c Kv ds']=>.ok (.ro d (.obj Δ c0 ks (iM y (.obj Δ c Kv ds') ks ds)))
 |_=>Gq
abbrev iJ:D->Bool
 |.obj o _ _ _=>o
 |_=>Θ
abbrev oW (cl:Ä)(y:Str)(f:Nat)(m c:Str)(es:Ç)(τ:Ev)(c0:Str)(ks:Â)(ds:Ê):À->Res Fl
 |some o=>Gn (iJ o&&jE c m o) (FW (iq cl es τ) λas=>FW (Ia (cl f (o::Gr as))) (nQ y c0 ks ds))
 |none=>Gq
abbrev qA (i:Nat)(q:D×Ev):Res Fl:=match dJ q.2 i with
 |some o=>Gn (iJ o) (.ok (.ro q.1 o))
 |none=>Gq
mutual
noncomputable def Jg:D->Bool
 |.exc _=>Θ
 |.tup ds=>iY ds
 |.lst _ ds=>iY ds
 |.G4 _ _ ds=>iY ds
 |.obj _ _ _ ds=>iY ds
 |_=>Δ
noncomputable def iY:Ê->Bool
 |[]=>Δ
 |d::ds=>Jg d&&iY ds
end
abbrev Mf:Ev->Bool
 |[]=>Δ
 |none::τ=>Mf τ
 |some d::τ=>Jg d&&Mf τ
abbrev yi (k:Nat)(τ:Ev):À->Res Fl
 |some (.exc ns)=>Gn (Mf (τ.set k Ξ)) (.ok (.nx (τ.set k (Γ (.lst Δ (ns.map .int))))))
 |_=>Gq
abbrev vt (k:Nat):Fl->Res Fl
 |.nx τ=>yi k τ (dJ τ k)
 |_=>Gq
abbrev yj (k:Nat)(τ:Ev)(g:Ev->Res Fl):À->Res Fl
 |some (.lst Δ ds)=>(match j9 ds with
  |some ns=>FW (g (τ.set k (Γ (.exc ns)))) (vt k)
  |none=>Gq)
 |_=>Gq
abbrev vv (b:Ev->Res Fl)(τ:Ev)(r:D):Res Fl:=FW (iH r) λt=>if t=Δ then .ok (.nx τ) else b τ
abbrev qB (cl:Ä)(b:Ev->Res Fl)(i g:Nat)(e:IR)(τ:Ev):D->Res Fl
 |.tup [d,.obj Δ c ks vs]=>Gn (i0 d) (FW (Gs cl e (τ.set i (Γ (.obj Δ c ks vs)))) λy=>FW (cl g [er d,er y]) (vv b (τ.set i (Γ (.obj Δ c ks vs)))))
 |_=>Gq
mutual
noncomputable def Hy (cl:Ä):IS->Ev->Res Fl
 |.asg tg e,τ=>FW (Ho cl Θ e τ) λp=>FW (jo tg p.1 p.2) λGv=>.ok (.nx Gv)
 |.IE i k e,τ=>FW (Ho cl Θ e τ) λp=>match dJ p.2 i with
  |some (.lst Δ ds)=>FW (Gs cl k p.2) λ
   |.int z=>(match JI ds.length z with
    |some j=>.ok (.nx (p.2.set i (Γ (.lst Δ (ds.set j p.1)))))
    |none=>Gq)
   |_=>Gq
  |_=>Gq
 |.app i e,τ=>match dJ τ i with
  |some (.lst _ _)=>FW (Ho cl Θ e τ) λp=>(match dJ p.2 i with
   |some (.lst Δ ds)=>Gn (ky ds.length) (.ok (.nx (p.2.set i (Γ (.lst Δ (ds++[p.1]))))))
   |_=>Gq)
  |_=>Gq
 |.JK i k e,τ=>FW (Gs cl e τ) λd=>match dJ τ i with
  |some (.G4 Δ ks ds)=>FW (Gs cl k (Gy (vars e) τ)) λy=>(match nK y with
   |some q=>Gn (jU ds&&ky ks.length) (.ok (.nx ((Gy (vars e) τ).set i (Γ (.G4 Δ (nO ks q) (Gr (mV ks ds q d)))))))
   |none=>Gq)
  |_=>Gq
 |.exp e,τ=>FW (Gs cl e τ) λ_=>.ok (.nx τ)
 |.ret e,τ=>FW (Ho cl Δ e τ) λp=>.ok (.rt p.1)
 |.oset i x cs fz e,τ=>FW (Ho cl Θ e τ) λp=>qz i x cs fz p.1 p.2 (dJ p.2 i)
 |.KS i x cs e,τ=>match dJ τ i with
  |some (.obj Δ c ks ds)=>Gn (cs.contains c&&um (iw ks ds x)) (FW (Ho cl Θ e τ) λp=>oU i x cs p.1 p.2 (dJ p.2 i))
  |_=>Gq
 |.LG j i x cs k,τ=>match dJ τ i with
  |some (.obj Δ c ks ds)=>Gn (cs.contains c) (oV cl j k τ (iw ks ds x))
  |_=>Gq
 |.Nw j i f m c es,τ=>match dJ τ i with
  |some o=>Gn (iJ o&&jE c m o&&!(dI es).contains i) (FW (iq cl es τ) λds=>FW (Ia (cl f (o::Gr ds))) (ka j i (Gy (dI es) τ)))
  |none=>Gq
 |.LH j i f m c,τ=>match dJ τ i with
  |some o=>Gn (iJ o&&jE c m o) (FW (Ia (cl f [o,.Gx])) (ka (Γ j) i τ))
  |none=>Gq
 |.Im j f es i es2,τ=>match dJ τ i with
  |some o=>Gn (iJ o&&!(dI es++dI es2).contains i) (FW (iq cl es τ) λds=>FW (iq cl es2 τ) λKU=>FW (Ia (cl f (Gr ds++o::Gr KU))) (ka (Γ j) i (Gy (dI es++dI es2) τ)))
  |none=>Gq
 |.Oo i f m c es g e b,τ=>match dJ τ i with
  |some o=>Gn (iJ o&&jE c m o&&!(dI es).contains i) (FW (iq cl es τ) λds=>FW (Ia (cl f (o::Gr ds))) (qB cl (ix cl b) i g e (Gy (dI es) τ)))
  |none=>Gq
 |.Nx k s,τ=>yj k τ (Hy cl s) (dJ τ k)
 |.LI i y cs f m c es,τ=>match dJ τ i with
  |some (.obj Δ c0 ks ds)=>Gn (cs.contains c0&&!(dI es).contains i) (oW cl y f m c es τ c0 ks ds (iw ks ds y))
  |_=>Gq
 |.Ku i e,τ=>FW (Ho cl Δ e τ) (qA i)
 |.LJ tg i x cs body,τ=>match dJ τ i with
  |some (.obj Δ c ks ds)=>Gn (cs.contains c) (match iw ks ds x with
   |some (.lst Θ es)=>forM (λx τ=>FW (jo tg x τ) λGv=>ix cl body Gv) (Gr (jL es)) τ
   |_=>Gq)
  |_=>Gq
 |.Hl t a b,τ=>FW (KH cl t τ) λr=>if r=Δ then ix cl a τ else ix cl b τ
 |.HR tg s body,τ=>FW (qy cl s τ) λp=>forM (λx τ=>FW (jo tg x τ) λGv=>ix cl body Gv) p.1 p.2
 |.Iu t body,τ=>i5 (KH cl t) (ix cl body) oT τ
 |.brk,τ=>.ok (.bk τ)
 |.cnt,τ=>.ok (.ct τ)
 |.pass,τ=>.ok (.nx τ)
 |.never,_=>Gq
noncomputable def ix (cl:Ä):Æ->Ev->Res Fl
 |[],τ=>.ok (.nx τ)
 |s::r,τ=>FW (Hy cl s τ) λ
  |.nx Gv=>ix cl r Gv
  |.ct Gv=>.ok (.ct Gv)
  |.bk Gv=>.ok (.bk Gv)
  |.rt d=>.ok (.rt d)
  |.ri d ks vs=>.ok (.ri d ks vs)
  |.ro d o=>.ok (.ro d o)
end
structure Fn where
 np:Nat
 G:Gm
 body:Æ
 io:Bool:=Θ
abbrev kN (cl:Ä)(fn:Fn)(ds:Ê):Res D:=
 Gn (decide (ds.length=fn.np)) (FW (ix cl fn.body (ds.map Γ++Ρ (fn.G.N.length - fn.np) Ξ)) λ
  |.nx _=>.ok .Gx
  |.rt d=>.ok d
  |_=>Gq)
abbrev lu (cl:Ä)(fn:Fn)(ds:Ê):Res D:=
 Gn (decide (ds.length=fn.np)) (FW (ix cl fn.body (ds.map Γ++Ρ (fn.G.N.length - fn.np) Ξ)) λ
  |.ro d o=>.ok (.tup [d,o])
  |.nx τ=>(match dJ τ (fn.G.io.getD 0) with
   |some o=>Gn (iJ o) (.ok (.tup [.Gx,o]))
   |none=>Gq)
  |_=>Gq)
@[reducible]def Tb:=Nat->Option Fn
abbrev bB (T:Tb):Nat->Ä
 |0,_,_=>Gq
 |n+1,f,ds=>match T f with
  |some fn=>(match fn.io with
   |false=>kN (bB T n) fn ds
   |true=>lu (bB T n) fn ds)
  |none=>Gq
def Dq {cl:Ä}  : Gs cl (.v i) τ=(match dJ τ i with|some d=>.ok d|none=>Gq):=rfl
def Dr {cl:Ä}  : Ho cl mv (.v i) τ=(match dJ τ i with|some d=>if mv=Δ then .ok (d,τ.set i Ξ) else .ok (er d,τ.set i (Γ (er d)))|none=>Gq):=rfl
def zI:type_of% @IR.casesOn.{0}:=@IR.casesOn.{0}
def zT:type_of% @IS.casesOn.{0}:=@IS.casesOn.{0}
section
variable {X:Cx}{pins:List (Ψ×Obj)}{σ:St}{H:Hp}{S:Ψ->Prop}{s:Ω}
theorem Inv.Ij (I:Inv X pins σ H s)  (h1:HJ X.K H a xs)(h2:HK X.K H a ys):False:=by obtain⟨its,_,⟨o,n,e,c,_⟩,_⟩:=I.list h1;obtain⟨its',_,⟨o',e',c',_⟩,_⟩:=I.tuple h2;rw[e]at e';cases e';rw[c]at c';injection c' with c';exact absurd c' (by decide)
theorem qC:∀ {a b:Å},a.map V.int=b.map V.int->a=b
 |[],[],_=>rfl
 |x::a,y::b,h=>by obtain⟨h1,h2⟩:=List.cons.inj h;cases h1;rw[qC h2]
 |[],_::_,h=>nomatch h
 |_::_,[],h=>nomatch h
theorem Inv.M7 (I:Inv X pins σ H s)  (h:HB X.K H a (.inr c))(k:HB X.K H a (.inr c')):c=c':=qC (I.Hw (.inl (.inr h)) (.inl (.inr k)))
theorem Inv.Le (I:Inv X pins σ H s)  (h:HB X.K H a (.inr c))(k:HK X.K H a xs):False:=I.Ij (.inl (.inr h)) k
theorem mD {K:Frag}{a:Ψ}{c:EX}{u:LD}(h:HB K H a (.inr c))(k:Rd H a u.o):False:=by obtain⟨_,its,n,_,e⟩:=h;rcases k with k|⟨o,k⟩<;>(rw[e]at k;cases u<;>cases k)
theorem Inv.Nz (I:Inv X pins σ H s){a:Ψ}{c:EX}{xs:Ë}(h:HB X.K H a (.inr c))(k:KL X.K a xs):False:=by obtain⟨_,its,n,_,e⟩:=h;obtain⟨_,_,k,_⟩:=k;have:=(I.IZ.bs a _ (I.ok.mod.MD a _ k)).2;rw[e]at this;cases this
theorem Inv.Mg (I:Inv X pins σ H s){a:Ψ}{kvs:List (Key×V)}(h:Rd H a (.dK kvs)):∃o es ep,s.heap.get? a=Γ o/\o.data=.dict es ep:=by obtain⟨_,_,vs,_,o,es,ep,e,c,d,_⟩:=h.ok I.G3;exact⟨o,es,ep,e,d⟩
theorem Inv.Lf (I:Inv X pins σ H s){a:Ψ}{kvs:List (Key×V)}{xs:Ë}(h:Rd H a (.dK kvs))(k:HK X.K H a xs):False:=by obtain⟨o,es,ep,e,d⟩:=I.Mg h;obtain⟨its',_,⟨o',e',c',n,d'⟩,_⟩:=I.tuple k;rw[e]at e';cases e';rw[d]at d';cases d'
theorem Inv.Jh (I:Inv X pins σ H s){a:Ψ}{kvs:List (Key×V)}{xs:Ë}(h:Rd H a (.dK kvs))(k:HJ X.K H a xs):False:=by obtain⟨o,es,ep,e,d⟩:=I.Mg h;obtain⟨its',_,⟨o',n,e',c',n',d'⟩,_⟩:=I.list k;rw[e]at e';cases e';rw[d]at d';cases d'
theorem Inv.Mh (I:Inv X pins σ H s){a C dx:Ψ}{fs:List (Str×V)}(h:Rd H a (.ins C dx fs)):s.heap.get? a=Γ (PySem.W.instObj C dx):=(h.ok I.G3).2.2.2.1
theorem Inv.Lg (I:Inv X pins σ H s){a C dx:Ψ}{fs:List (Str×V)}{xs:Ë}(h:Rd H a (.ins C dx fs))(k:HK X.K H a xs):False:=by have e:=I.Mh h;obtain⟨its',_,⟨o',e',c',n,d'⟩,_⟩:=I.tuple k;rw[e]at e';cases e';cases d'
theorem Inv.Ji (I:Inv X pins σ H s){a C dx:Ψ}{fs:List (Str×V)}{xs:Ë}(h:Rd H a (.ins C dx fs))(k:HJ X.K H a xs):False:=by have e:=I.Mh h;obtain⟨its',_,⟨o',n,e',c',n',d'⟩,_⟩:=I.list k;rw[e]at e';cases e';cases d'
theorem Inv.Lh {H:Hp}{a C dx:Ψ}{fs:List (Str×V)}{kvs:List (Key×V)}(h:Rd H a (.dK kvs))(k:Rd H a (.ins C dx fs)):False:=by rcases h with h|⟨o,h⟩<;>rcases k with k|⟨o',k⟩<;>(rw[h]at k;cases k)
theorem Rd.dk {H:Hp}{a:Ψ}{u v:List (Key×V)}(h:Rd H a (.dK u))(k:Rd H a (.dK v)):u=v:=by rcases h with h|⟨o,h⟩<;>rcases k with k|⟨o',k⟩<;>(rw[h]at k;cases k;try rfl)
mutual
theorem Gk.one (I:Inv X pins σ H s):∀ {v:V}{d e:D},Gk X.K S H v d->Gk X.K S H v e->er d=er e
 |_,_,_,.Gx,h=>by cases h;rfl
 |_,_,_,.bl b,h=>by cases h;rfl
 |_,_,_,.int i,h=>by cases h;rfl
 |_,_,_,.str x,h=>by cases h;rfl
 |_,_,_,.exc h0,h=>by
  cases h with
  |exc k1=>exact congrArg D.exc (I.M7 h0 k1)
  |tup k1 k2=>exact(I.Le h0 k1).elim
  |lst k0 k1 k2=>exact(mD (u:=.l _) h0 k1).elim
  |lstK k1 k2=>exact(I.Nz h0 k1).elim
  |G4 k0 k1 k2 k3=>exact(mD (u:=.d _) h0 k1).elim
  |obj k0 k1 k2 k3=>exact(mD (u:=.i _ _ _) h0 k1).elim
 |_,_,_,.tup h1 h2,h=>by
  cases h with
  |exc k1=>exact(I.Le k1 h1).elim
  |tup k1 k2=>have e:=I.JG h1 k1;subst e;rw[er,er,FZ.one I h2 k2]
  |lst k0 k1 k2=>exact(I.Ij (.inl (.inl k1)) h1).elim
  |lstK k1 k2=>exact(I.Ij k1.sq h1).elim
  |G4 k0 k1 k2 k3=>exact(I.Lf k1 h1).elim
  |obj k0 k1 k2 k3=>exact(I.Lg k1 h1).elim
 |_,_,_,.lst h0 h1 h2,h=>by
  cases h with
  |exc k1=>exact(mD (u:=.l _) k1 h1).elim
  |tup k1 k2=>exact(I.Ij (.inl (.inl h1)) k1).elim
  |lst k0 k1 k2=>have e:=I.Hw (.inl (.inl h1)) (.inl (.inl k1));subst e;rw[er,er,FZ.one I h2 k2]
  |lstK k1 k2=>have e:=I.Hw (.inl (.inl h1)) k1.sq;subst e;rw[er,er,FZ.one I h2 k2]
  |G4 k0 k1 k2 k3=>exact(I.Jh k1 (.inl (.inl h1))).elim
  |obj k0 k1 k2 k3=>exact(I.Ji k1 (.inl (.inl h1))).elim
 |_,_,_,.lstK h1 h2,h=>by
  cases h with
  |exc k1=>exact(I.Nz k1 h1).elim
  |tup k1 k2=>exact(I.Ij h1.sq k1).elim
  |lst k0 k1 k2=>have e:=I.Hw h1.sq (.inl (.inl k1));subst e;rw[er,er,FZ.one I h2 k2]
  |lstK k1 k2=>have e:=I.Hw h1.sq k1.sq;subst e;rw[er,er,FZ.one I h2 k2]
  |G4 k0 k1 k2 k3=>exact(I.Jh k1 h1.sq).elim
  |obj k0 k1 k2 k3=>exact(I.Ji k1 h1.sq).elim
 |_,_,_,.G4 h0 h1 h2 h3,h=>by
  cases h with
  |exc k1=>exact(mD (u:=.d _) k1 h1).elim
  |tup k1 k2=>exact(I.Lf h1 k1).elim
  |lst k0 k1 k2=>exact(I.Jh h1 (.inl (.inl k1))).elim
  |lstK k1 k2=>exact(I.Jh h1 k1.sq).elim
  |G4 k0 k1 k2 k3=>have e:=Rd.dk h1 k1;subst e;rw[er,er,FZ.one I h3 k3,<- h2,<- k2]
  |obj k0 k1 k2 k3=>exact(Inv.Lh h1 k1).elim
 |_,_,_,.obj h0 h1 h2 h3,h=>by
  cases h with
  |exc k1=>exact(mD (u:=.i _ _ _) k1 h1).elim
  |tup k1 k2=>exact(I.Lg h1 k1).elim
  |lst k0 k1 k2=>exact(I.Ji h1 (.inl (.inl k1))).elim
  |lstK k1 k2=>exact(I.Ji h1 k1.sq).elim
  |G4 k0 k1 k2 k3=>exact(Inv.Lh k1 h1).elim
  |obj k0 k1 k2 k3=>obtain⟨⟨_,n1⟩,e1⟩:=h2;obtain⟨⟨_,n2⟩,e2⟩:=k2;rcases h1 with h1|⟨o,h1⟩<;>rcases k1 with k1|⟨o',k1⟩<;>(rw[h1]at k1;cases k1)<;>(rw[n1]at n2;cases n2;subst e1 e2;rw[er,er,FZ.one I h3 k3])
theorem FZ.one (I:Inv X pins σ H s):∀ {vs:Ë}{ds es:Ê},FZ X.K S H vs ds->FZ X.K S H vs es->Gr ds=Gr es
 |_,_,_,.nil,h=>by cases h;rfl
 |_,_,_,.cons h1 h2,h=>by
  cases h with
  |cons k1 k2=>rw[Gr,Gr,Gk.one I h1 k1,FZ.one I h2 k2]
end
end
def jF (h:FW x f=.ok b):∃a,x=.ok a/\f a=.ok b:=by
 cases x with
 |error e=>cases h
 |ok a=>exact⟨a,rfl,h⟩
def nR (h:Gn c x=.ok b):c=Δ/\x=.ok b:=by
 unfold Gn at h
 induction c using zB with
 |true=>exact⟨rfl,h⟩
 |false=>cases h
theorem kf (hf:∀d e r,f d e=.ok r->er d=er e->r=Δ):∀ {ds es:Ê}{r:Bool},jP f ds es=.ok r->Gr ds=Gr es->r=Δ
 |[],[],r,h,_=>by cases h;rfl
 |[],_::_,_,_,h=>by rw[Gr,Gr]at h;cases h
 |_::_,[],_,_,h=>by rw[Gr,Gr]at h;cases h
 |a::ds,b::es,r,h,h'=>by rw[Gr,Gr]at h';injection h' with e1 e2;obtain⟨x,hx,h⟩:=jF (show FW (f a b) (λx=>FW (jP f ds es) λy=>.ok (x&&y))=.ok r from h);obtain⟨y,hy,h⟩:=jF h;cases h;rw[hf a b x hx e1,kf hf hy e2];rfl
theorem lQ:∀(n:Nat) (d e:D) (r:Bool),HS n d e=.ok r->er d=er e->r=Δ
 |0,_,_,_,h,_=>by cases h
 |n+1,d,e,r,h,h'=>by
  induction d using zD with
  |tup ds=>
   induction e using zD with
   |tup es=>rw[er,er]at h';injection h' with e1;exact kf (lQ n) h e1
   |Gx=>rw[er,er]at h';cases h'
   |bl _=>rw[er,er]at h';cases h'
   |int _=>rw[er,er]at h';cases h'
   |str _=>rw[er,er]at h';cases h'
   |lst _ _=>rw[er,er]at h';cases h'
   |exc _=>cases h
   |G4 _ _ _=>cases h
   |obj _ _ _ _=>cases h
  |lst o ds=>
   induction e using zD with
   |lst o' es=>rw[er,er]at h';injection h' with _ e1;exact kf (lQ n) h e1
   |Gx=>rw[er,er]at h';cases h'
   |bl _=>rw[er,er]at h';cases h'
   |int _=>rw[er,er]at h';cases h'
   |str _=>rw[er,er]at h';cases h'
   |tup _=>rw[er,er]at h';cases h'
   |exc _=>cases h
   |G4 _ _ _=>cases h
   |obj _ _ _ _=>cases h
  |exc _=>cases h
  |G4 _ _ _=>induction e using zD<;>cases h
  |obj _ _ _ _=>induction e using zD<;>cases h
  |Gx=>induction e using zD<;>first|(cases h;done)|(cases h;rfl)|(exfalso;simp[er]at h')
  |bl b=>induction e using zD<;>first|(simp only[er]at h';cases h';cases h;simp)|(exfalso;simp[er]at h')
  |int b=>induction e using zD<;>first|(simp only[er]at h';cases h';cases h;simp)|(exfalso;simp[er]at h')
  |str b=>induction e using zD<;>first|(simp only[er]at h';cases h';cases h;simp)|(exfalso;simp[er]at h')
theorem qD:∀ {ds es:Ê}{r:Bool},jP f ds es=.ok r->ds.length≠es.length->r=Θ
 |[],[],_,_,h=>absurd rfl h
 |[],_::_,_,h,_=>by cases h;rfl
 |_::_,[],_,h,_=>by cases h;rfl
 |a::ds,b::es,r,h,n=>by obtain⟨x,hx,h⟩:=jF (show FW (f a b) (λx=>FW (jP f ds es) λy=>.ok (x&&y))=.ok r from h);obtain⟨y,hy,h⟩:=jF h;cases h;rw[qD hy (λz=>n (by rw[List.length_cons,List.length_cons,z]))];simp
theorem sZ:∀ {ds es:Ê}{r:Bool},jP f ds es=.ok r->ds.length=es.length->
  ∃e:Nat->Bool,(∀j a b,ds[j]? = Γ a->es[j]? = Γ b->f a b=.ok (e j))/\r=(List.range ds.length).all e
 |[],[],r,h,_=>by cases h;exact⟨λ_=>Δ,λj a b h=>by simp at h,rfl⟩
 |[],_::_,_,_,h=>by cases h
 |_::_,[],_,_,h=>by cases h
 |a::ds,b::es,r,h,n=>by
  obtain⟨x,hx,h⟩:=jF (show FW (f a b) (λx=>FW (jP f ds es) λy=>.ok (x&&y))=.ok r from h);obtain⟨y,hy,h⟩:=jF h;cases h;obtain⟨e,h1,h2⟩:=sZ hy (by simpa using n);refine⟨λj=>match j with|0=>x|k+1=>e k,λj a' b' e1 e2=>?_,?_⟩
  ·cases j with
   |zero=>simp at e1 e2;subst e1 e2;exact hx
   |succ k=>exact h1 k a' b' (by simpa using e1) (by simpa using e2)
  ·rw[h2,List.length_cons,List.range_succ_eq_map,List.all_cons,List.all_map];rfl
section
structure NA (A:Η)(s:Ω)(v u:Φ)(r:Bool):Prop where
 eq:EqAt A s v u r
 rc:RcAt A s v u r
 ne:RcNeAt A s v u (!r)
def qE {X:Cx}(n:Nat)(A:Η)(ih:∀(x y:V)(v u:Φ)(d e:D)(r:Bool),Gk X.K S H x d->Gk X.K S H y e->RelV x v->RelV y u->HS n d e=.ok r->EqAt A.in1 s v u r)
   {its:List Φ} (rv:Vals xs its) (Q4:Vals ys its') (h2:FZ X.K S H xs ds) (k2:FZ X.K S H ys es) (hr:jP (HS n) ds es=.ok r) :
  ∃e:Nat->Bool,(∀j (q1:j < its.toArray.size) (q2:j < its'.toArray.size),EqAt A.in1 s its.toArray[j] its'.toArray[j] (e j))/\r=((List.range (min its.toArray.size its'.toArray.size)).all e&&its.toArray.size == its'.toArray.size):=by
 have l1:=h2.length;have l2:=k2.length;have l3:=rv.length;have l4:=Q4.length;have pair:∀j (j1:j < its.toArray.size) (j2:j < its'.toArray.size) (b:Bool) (d1:j < ds.length) (d2:j < es.length),HS n ds[j] es[j]=.ok b->EqAt A.in1 s its.toArray[j] its'.toArray[j] b:=by
  intro j j1 j2 b d1 d2 hb;obtain⟨x',e1,m1⟩:=h2.get (i:=j) (d:=ds[j]) (by simp);obtain⟨y',e2,m2⟩:=k2.get (i:=j) (d:=es[j]) (by simp);obtain⟨v',ev,O3⟩:=rv.get e1;obtain⟨u',eu,Sw⟩:=Q4.get e2;have hv:its.toArray[j]=v':=by have:=(v_.mp ev).2;simpa using this
  have LK:its'.toArray[j]=u':=by have:=(v_.mp eu).2;simpa using this
  rw[hv,LK];exact ih x' y' v' u' _ _ _ m1 m2 O3 Sw hb
 have z1:its.toArray.size=ds.length:=by simp;omega
 have z2:its'.toArray.size=es.length:=by simp;omega
 by_cases hl:ds.length=es.length
 ·obtain⟨e,q1,q2⟩:=sZ hr hl;refine⟨e,λj j1 j2=>pair j j1 j2 _ (by omega) (by omega) (q1 j _ _ (by simp) (by simp)),?_⟩;rw[q2,z1,z2,hl];simp
 ·have Ot:=qD hr hl;have each:∀(ds es:Ê) (r:Bool),jP (HS n) ds es=.ok r->∀j (q1:j < ds.length) (q2:j < es.length),∃b,HS n ds[j] es[j]=.ok b:=by
   intro ds
   induction ds with
   |nil=>intro es r _ j q1;simp at q1
   |cons a ds ih=>
    intro es r h j q1 q2
    induction es using zL with
    |nil=>simp at q2
    |cons b es=>
     obtain⟨x,hx,h⟩:=jF (show FW (HS n a b) (λx=>FW (jP (HS n) ds es) λy=>.ok (x&&y))=.ok r from h);obtain⟨y,hy,h⟩:=jF h;cases j with
     |zero=>exact⟨x,hx⟩
     |succ k=>exact ih es y hy k (by simpa using q1) (by simpa using q2)
  refine⟨λj=>if q:j < ds.length/\j < es.length then((match HS n (ds[j]'q.1) (es[j]'q.2) with|.ok b=>b|.error _=>Θ)) else Θ,λj j1 j2=>?_,?_⟩
  ·have d1:j < ds.length:=by omega
   have d2:j < es.length:=by omega
   obtain⟨b,hb⟩:=each ds es r hr j d1 d2;have q:=pair j j1 j2 b d1 d2 hb;show EqAt A.in1 s its.toArray[j] its'.toArray[j] (dite _ _ _);rw[dif_pos (show j < ds.length/\j < es.length from⟨d1,d2⟩),hb];exact q
  ·rw[Ot];have:(its.toArray.size == its'.toArray.size)=Θ:=by rw[beq_eq_false_iff_ne,z1,z2];exact hl
   rw[this,Bool.and_false]
def vw (I:Inv X pins σ H s)(n:Nat)(A:Η)(ih:∀(x y:V)(v u:Φ)(d e:D)(r:Bool),Gk X.K S H x d->Gk X.K S H y e->RelV x v->RelV y u->HS n d e=.ok r->EqAt A.in1 s v u r)
   {o:Bool} (ha:HJ X.K H a xs) (hb:HJ X.K H b ys) (h2:FZ X.K S H xs ds) (k2:FZ X.K S H ys es)
  (m1:Gk X.K S H (.ref a) (.lst o ds)) (m2:Gk X.K S H (.ref b) (.lst o' es)) (hr:jP (HS n) ds es=.ok r) (Hk:A.units < cLine):NA A s (.ref a) (.ref b) r:=by
 obtain⟨its,rv,p,_⟩:=I.list ha;obtain⟨its',Q4,p',_⟩:=I.list hb;obtain⟨e,he,O4⟩:=qE n A ih rv Q4 h2 k2 hr;have both:RcAt A s (.ref a) (.ref b) r/\RcNeAt A s (.ref a) (.ref b) (!r):=by
  by_cases hl:its.toArray.size=its'.toArray.size
  ·have Ou:r=(List.range its.toArray.size).all e:=by rw[O4,<- hl,Nat.min_self];simp
   rw[Ou];exact⟨.lists p.isList p'.isList hl Hk he,.lists p.isList p'.isList hl Hk he⟩
  ·have Jf:(its.toArray.size != its'.toArray.size)=Δ:=by simpa using hl
   have Ou:r=Θ:=by
    rw[O4];have:(its.toArray.size == its'.toArray.size)=Θ:=by rw[beq_eq_false_iff_ne];exact hl
    rw[this,Bool.and_false]
   rw[Ou];exact⟨.lists_lengths p.isList p'.isList Jf Hk,.lists_lengths p.isList p'.isList Jf Hk⟩
 refine⟨?_,both.1,both.2⟩;by_cases Lu:a=b
 ·subst Lu;have hd:=Gk.one I m1 m2;rw[er,er]at hd;injection hd with _ hd;rw[kf (lQ n) hr hd];exact .same _
 ·exact .of_refs Lu both.1
set_option maxHeartbeats 4000000 in
theorem pD (I:Inv X pins σ H s):∀(n:Nat) (A:Η) (x y:V) (v u:Φ) (d e:D) (r:Bool),Gk X.K S H x d->Gk X.K S H y e->RelV x v->RelV y u->HS n d e=.ok r->
  A.units+n < cLine->NA A s v u r
 |0,_,_,_,_,_,_,_,_,_,_,_,_,h,_=>by cases h
 |n+1,A,x,y,v,u,d,e,r,hx,hy,rx,ry,h,hu=>by
  have Hk:A.units < cLine:=by omega
  have Yd:A.in1.units+n < cLine:=by show A.units+1+n < cLine;omega
  have ih:∀(x y:V) (v u:Φ) (d e:D) (r:Bool),Gk X.K S H x d->Gk X.K S H y e->RelV x v->RelV y u->HS n d e=.ok r->EqAt A.in1 s v u r:=
   λx y v u d e r a1 a2 a3 a4 a5=>(pD I n A.in1 x y v u d e r a1 a2 a3 a4 a5 Yd).eq
  induction d using zD with
  |Gx=>
   cases hx.IC;cases rx
   induction e using zD with
   |Gx=>cases hy.IC;cases ry;cases h;exact⟨.same _,.none_none,.none_none⟩
   |bl b'=>cases hy.Mc;cases ry;cases h;exact⟨.none_bool _,.none_bool _,.none_bool _⟩
   |int i'=>cases hy.Ha;obtain⟨t2,rfl⟩:=ry;cases h;exact⟨.none_int _ _,.none_int _ _,.none_int _ _⟩
   |str z'=>cases hy.Hx;obtain⟨t2,rfl⟩:=ry;cases h;exact⟨.none_str _ _,.none_str _ _,.none_str _ _⟩
   |tup es=>obtain⟨a2,Mi,rfl,q2,m2⟩:=hy.HZ;cases ry;obtain⟨IF,LX,p2,_⟩:=I.tuple q2;cases h;exact⟨.none_tuple p2 Hk,.none_tuple p2 Hk,.none_tuple p2 Hk⟩
   |lst o' es=>obtain⟨a2,Mi,rfl,q2,m2⟩:=hy.Hs;cases ry;obtain⟨IF,LX,p2,_⟩:=I.list q2;cases h;exact⟨.none_list p2.isList Hk,.none_list p2.isList Hk,.none_list p2.isList Hk⟩
   |exc _=>cases h
   |G4 _ _ _=>cases h
   |obj _ _ _ _=>cases h
  |bl b=>
   cases hx.Mc;cases rx
   induction e using zD with
   |Gx=>cases hy.IC;cases ry;cases h;exact⟨.bool_none _,.bool_none _,.bool_none _⟩
   |bl b'=>cases hy.Mc;cases ry;cases h;exact⟨.bool_bool _ _,.bool_bool _ _,.bool_bool _ _⟩
   |int i'=>cases hy.Ha;obtain⟨t2,rfl⟩:=ry;cases h;exact⟨.bool_int _ _ _,.bool_int _ _ _,.bool_int _ _ _⟩
   |str z'=>cases hy.Hx;obtain⟨t2,rfl⟩:=ry;cases h;exact⟨.bool_str _ _ _,.bool_str _ _ _,.bool_str _ _ _⟩
   |tup es=>obtain⟨a2,Mi,rfl,q2,m2⟩:=hy.HZ;cases ry;obtain⟨IF,LX,p2,_⟩:=I.tuple q2;cases h;exact⟨.bool_tuple _ p2 Hk,.bool_tuple _ p2 Hk,.bool_tuple _ p2 Hk⟩
   |lst o' es=>obtain⟨a2,Mi,rfl,q2,m2⟩:=hy.Hs;cases ry;obtain⟨IF,LX,p2,_⟩:=I.list q2;cases h;exact⟨.bool_list _ p2.isList Hk,.bool_list _ p2.isList Hk,.bool_list _ p2.isList Hk⟩
   |exc _=>cases h
   |G4 _ _ _=>cases h
   |obj _ _ _ _=>cases h
  |int i=>
   cases hx.Ha;obtain⟨t1,rfl⟩:=rx
   induction e using zD with
   |Gx=>cases hy.IC;cases ry;cases h;exact⟨.int_none _ _,.int_none _ _,.int_none _ _⟩
   |bl b'=>cases hy.Mc;cases ry;cases h;exact⟨.int_bool _ _ _,.int_bool _ _ _,.int_bool _ _ _⟩
   |int i'=>cases hy.Ha;obtain⟨t2,rfl⟩:=ry;cases h;exact⟨.int_int _ _ _ _,.int_int _ _ _ _,.int_int _ _ _ _⟩
   |str z'=>cases hy.Hx;obtain⟨t2,rfl⟩:=ry;cases h;exact⟨.int_str _ _ _ _,.int_str _ _ _ _,.int_str _ _ _ _⟩
   |tup es=>obtain⟨a2,Mi,rfl,q2,m2⟩:=hy.HZ;cases ry;obtain⟨IF,LX,p2,_⟩:=I.tuple q2;cases h;exact⟨.int_tuple _ _ p2 Hk,.int_tuple _ _ p2 Hk,.int_tuple _ _ p2 Hk⟩
   |lst o' es=>obtain⟨a2,Mi,rfl,q2,m2⟩:=hy.Hs;cases ry;obtain⟨IF,LX,p2,_⟩:=I.list q2;cases h;exact⟨.int_list _ _ p2.isList Hk,.int_list _ _ p2.isList Hk,.int_list _ _ p2.isList Hk⟩
   |exc _=>cases h
   |G4 _ _ _=>cases h
   |obj _ _ _ _=>cases h
  |str z=>
   cases hx.Hx;obtain⟨t1,rfl⟩:=rx
   induction e using zD with
   |Gx=>cases hy.IC;cases ry;cases h;exact⟨.str_none _ _,.str_none _ _,.str_none _ _⟩
   |bl b'=>cases hy.Mc;cases ry;cases h;exact⟨.str_bool _ _ _,.str_bool _ _ _,.str_bool _ _ _⟩
   |int i'=>cases hy.Ha;obtain⟨t2,rfl⟩:=ry;cases h;exact⟨.str_int _ _ _ _,.str_int _ _ _ _,.str_int _ _ _ _⟩
   |str z'=>cases hy.Hx;obtain⟨t2,rfl⟩:=ry;cases h;exact⟨.str_str _ _ _ _,.str_str _ _ _ _,.str_str _ _ _ _⟩
   |tup es=>obtain⟨a2,Mi,rfl,q2,m2⟩:=hy.HZ;cases ry;obtain⟨IF,LX,p2,_⟩:=I.tuple q2;cases h;exact⟨.str_tuple _ _ p2 Hk,.str_tuple _ _ p2 Hk,.str_tuple _ _ p2 Hk⟩
   |lst o' es=>obtain⟨a2,Mi,rfl,q2,m2⟩:=hy.Hs;cases ry;obtain⟨IF,LX,p2,_⟩:=I.list q2;cases h;exact⟨.str_list _ _ p2.isList Hk,.str_list _ _ p2.isList Hk,.str_list _ _ p2.isList Hk⟩
   |exc _=>cases h
   |G4 _ _ _=>cases h
   |obj _ _ _ _=>cases h
  |tup ds=>
   obtain⟨a1,Ye,rfl,q1,m1⟩:=hx.HZ;cases rx;obtain⟨Oh,O3,p1,_⟩:=I.tuple q1
   induction e using zD with
   |Gx=>cases hy.IC;cases ry;cases h;exact⟨.tuple_none p1 Hk,.tuple_none p1 Hk,.tuple_none p1 Hk⟩
   |bl b'=>cases hy.Mc;cases ry;cases h;exact⟨.tuple_bool _ p1 Hk,.tuple_bool _ p1 Hk,.tuple_bool _ p1 Hk⟩
   |int i'=>cases hy.Ha;obtain⟨t2,rfl⟩:=ry;cases h;exact⟨.tuple_int _ _ p1 Hk,.tuple_int _ _ p1 Hk,.tuple_int _ _ p1 Hk⟩
   |str z'=>cases hy.Hx;obtain⟨t2,rfl⟩:=ry;cases h;exact⟨.tuple_str _ _ p1 Hk,.tuple_str _ _ p1 Hk,.tuple_str _ _ p1 Hk⟩
   |tup es=>
    have Hr:=hx;have ML:=hy;obtain⟨a2,Mi,rfl,q2,m2⟩:=hy.HZ;cases ry;obtain⟨IF,LX,p2,_⟩:=I.tuple q2;have hr:jP (HS n) ds es=.ok r:=h;obtain⟨e,he,O4⟩:=qE n A ih O3 LX m1 m2 hr;refine⟨?_,?_,?_⟩
    ·by_cases Lu:a1=a2
     ·subst Lu;have hd:=Gk.one I Hr ML;rw[er,er]at hd;injection hd with hd;rw[kf (lQ n) hr hd];exact .same _
     ·rw[O4];exact .of_refs Lu (.tuples p1 p2 Hk he)
    ·rw[O4];exact .tuples p1 p2 Hk he
    ·rw[O4];exact .tuples p1 p2 Hk he
   |lst o' es=>obtain⟨a2,Mi,rfl,q2,m2⟩:=hy.Hs;cases ry;obtain⟨IF,LX,p2,_⟩:=I.list q2;cases h;exact⟨.tuple_list p1 p2.isList Hk,.tuple_list p1 p2.isList Hk,.tuple_list p1 p2.isList Hk⟩
   |exc _=>cases h
   |G4 _ _ _=>cases h
   |obj _ _ _ _=>cases h
  |lst o ds=>
   obtain⟨a1,Ye,rfl,q1,m1⟩:=hx.Hs;cases rx;obtain⟨Oh,O3,p1,_⟩:=I.list q1
   induction e using zD with
   |Gx=>cases hy.IC;cases ry;cases h;exact⟨.list_none p1.isList Hk,.list_none p1.isList Hk,.list_none p1.isList Hk⟩
   |bl b'=>cases hy.Mc;cases ry;cases h;exact⟨.list_bool _ p1.isList Hk,.list_bool _ p1.isList Hk,.list_bool _ p1.isList Hk⟩
   |int i'=>cases hy.Ha;obtain⟨t2,rfl⟩:=ry;cases h;exact⟨.list_int _ _ p1.isList Hk,.list_int _ _ p1.isList Hk,.list_int _ _ p1.isList Hk⟩
   |str z'=>cases hy.Hx;obtain⟨t2,rfl⟩:=ry;cases h;exact⟨.list_str _ _ p1.isList Hk,.list_str _ _ p1.isList Hk,.list_str _ _ p1.isList Hk⟩
   |tup es=>obtain⟨a2,Mi,rfl,q2,m2⟩:=hy.HZ;cases ry;obtain⟨IF,LX,p2,_⟩:=I.tuple q2;cases h;exact⟨.list_tuple p1.isList p2 Hk,.list_tuple p1.isList p2 Hk,.list_tuple p1.isList p2 Hk⟩
   |lst o' es=>have Hr:=hx;have ML:=hy;obtain⟨a2,Mi,rfl,q2,m2⟩:=hy.Hs;cases ry;obtain⟨IF,LX,p2,_⟩:=I.list q2;exact vw I n A ih q1 q2 m1 m2 Hr ML h Hk
   |exc _=>cases h
   |G4 _ _ _=>cases h
   |obj _ _ _ _=>cases h
  |exc _=>cases h
  |G4 _ _ _=>induction e using zD<;>cases h
  |obj _ _ _ _=>induction e using zD<;>cases h
end
@[reducible]def nw (S:Ψ->Prop)(H:Hp):Ψ->Prop:=λa=>S a∨H a=Ξ
@[reducible]def Kk (K:Frag)(S:Ψ->Prop)(H:Hp)(Q:VK):D->Prop:=λd=>∀w H',ip H H'->Gk K (nw S H) H' w d->Q w H'
theorem Gk.nw {K:Frag}{S:Ψ->Prop}{H:Hp}{v:V}{d:D}(h:Gk K S H v d):Gk K (nw S H) H v d:=h.mono (λ_=>.inl) (.refl _)
def Bm {K:Frag}  (hp:H p=Ξ)(h:FZ K S H vs ds):Gk K (nw S H) (upd H p (.tup vs)) (.ref p) (.tup ds):=
 .tup (.inl (.inl gk)) (h.mono (λ_=>.inl) (.upd hp))
def pE {K:Frag}  {o:Bool}(hp:H p=Ξ)(h:FZ K S H vs ds):Gk K (nw S H) (upd H p (.lst vs)) (.ref p) (.lst o ds):=
 .lst (.inr hp) (.inl gk) (h.mono (λ_=>.inl) (.upd hp))
abbrev M8:Ol->Operator
 |.add=>.Add|.sub=>.Sub|.mul=>.Mult|.mod=>.Mod
abbrev J5:Md->CmpOp
 |.eq=>.Eq|.ne=>.NotEq|.lt=>.Lt|.le=>.LtE|.gt=>.Gt|.JA=>.In|.J1=>.NotIn|.MK=>.Is|.Om=>.IsNot
def Fp (K:Frag)(ex:EX->Prop)(op:Ol):R2:=λx y H Q=>∃S d e,Gk K S H x d/\Gk K S H y e/\Gb ex (JL op d e) (Kk K S H Q)
def Fq (K:Frag)(ex:EX->Prop)(op:Md):R2:=λx y H Q=>∃S d e,Gk K S H x d/\Gk K S H y e/\Gb ex (HV op d e) λr=>Q (.bl r) H
def jg (h:jf n=Δ):n<=Ε:=p_ h
def pF (h:ky n=Δ):n < Ε:=p_ h
def tf:JV X (binaryOp .Add) (λx y H Q=>∃l b xs zs,x=.ref l/\y=.ref b/\Ls X.K H l xs/\Ls X.K H b zs/\xs.length+zs.length<=Ε/\∀p,H p=Ξ->Q (.ref p) (upd H p (.lst (xs++zs)))):=by
 intro pins s σ H x y v u Q I rx ry h;obtain⟨l,b,xs,zs,rfl,rfl,hH,hB,hz,q⟩:=h;cases rx;cases ry;obtain⟨hl,its,n,r,e⟩:=I.ls hH;obtain⟨MJ,IF,n2,r2,e'⟩:=I.ls hB;have e1:=r.length;have e2:=r2.length;refine PySem.P.add_list e e' ?_ (by rw[w_,w_];omega);have ea:its.toArray++IF.toArray=(its++IF).toArray:=by simp
 rw[ea];exact⟨.ref _,_,I.N5 (t':=s.toks) (r.append r2) (by rw[u_];omega),rfl,q _ I.fresh⟩
def vx {its:List Φ}(r:Vals vs its):∀k:Nat,Vals (Ρ k vs).flatten (Ρ k its).flatten:=r.rep
def tj:JV X (binaryOp .Mult) (λx y H Q=>∃l k xs,x=.ref l/\y=.int k/\Ls X.K H l xs/\0<=k/\k<=16000/\xs.length<=1000/\∀p,H p=Ξ->Q (.ref p) (upd H p (.lst (Ρ k.toNat xs).flatten))):=by
 intro pins s σ H x y v u Q I rx ry h;obtain⟨l,k,xs,rfl,rfl,hH,h1,h2,hx,q⟩:=h;cases rx;obtain⟨t,rfl⟩:=ry;obtain⟨hl,its,n,r,e⟩:=I.ls hH;have el:=r.length;have hz:xs.length*k.toNat<=1000*16000:=Nat.mul_le_mul hx (by omega);have big:1000*16000<=Ε:=by decide
 have hsz:its.toArray.size*k.toNat<=Ε:=by rw[w_,<- el];omega
 have c1:¬its.toArray.size*k.toNat > (2 ^ 63 - 1) / 8:=by
  have:(Ε:Nat)<=(2 ^ 63 - 1) / 8:=by decide
  omega
 have c2:¬(!Builtin.List.listFitsIndex k)=Δ:=by rw[fitsIndex_both (by omega) (by omega)];exact C_
 have c3:¬Builtin.List.listTooLong (its.toArray.size*k.toNat)=Δ:=by rw[uZ hsz];exact C_
 have f0:∀m:Nat,List.foldl (λa b=>a++b) #[] (Ρ m its.toArray)=(Ρ m its).flatten.toArray:=λm=>by have z:=foldl_rep its m [];rw[List.nil_append]at z;exact z
 have f1:List.foldl (λa b=>a++b) #[] (Ρ (if its.toArray.isEmpty=Δ then 0 else k.toNat) its.toArray)=(Ρ k.toNat its).flatten.toArray:=by
  rw[f0]
  induction its using zL with
  |nil=>simp
  |cons _ _=>rw[b_ (by simp)]
 refine wpAny_binaryOp_repeat_ref (T:="list") (U:="int") (by decide) ⟨_,e,rfl⟩ (λs'=>typeIs_int s' k t) noFill_list_mul F.fills_int_mul F.slot_int_rmul repeat_list F.slot_int_index.lookup (call_meets F.slot_int_rmul (typeIs_int s k t) F.entry_int_rmul (F.args_int_rmul_2 _ _) (int___rmul___int_list k t l its.toArray n) ⟨e,rfl,⟨_,e,rfl⟩,call_meets F.slot_list_mul ⟨_,e,rfl⟩ F.entry_list_mul (F.args_list_mul_2 _ _) (AutoListH.list___mul___list_int_3 l its.toArray n k t c2 c1 c3) ⟨e,?_⟩⟩);rw[f1];exact⟨.ref _,_,I.N5 (t':=s.toks) (vx r k.toNat) (by rw[len_rep,Nat.mul_comm];omega),rfl,q _ I.fresh⟩
theorem FZ.rep {K:Frag}  (m:FZ K S H vs ds):∀k:Nat,FZ K S H (Ρ k vs).flatten (Ρ k ds).flatten
 |0=>.nil
 |k+1=>by rw[List.replicate_succ,List.replicate_succ,List.flatten_cons,List.flatten_cons];exact m.append (FZ.rep m k)
def Bn (op:Ol):JV X (binaryOp (M8 op)) (Fp X.K ex op):=by
 intro pins s σ H x y v u Q I rx ry h;obtain⟨S,d,e,hx,hy,h⟩:=h;have stuck:∀ {P:Prop},JL op d e=Gq->P:=λz=>by rw[z]at h;exact h.no.elim
 cases op with
 |add=>
  induction d using zD with
  |int a=>
   induction e using zD with
   |int b=>cases hx.Ha;cases hy.Ha;exact A0 pins s σ H _ _ v u Q I rx ry ⟨a,b,rfl,rfl,h.ok _ _ (.refl _) (.int _)⟩
   |_=>exact stuck rfl
  |str a=>
   induction e using zD with
   |str b=>cases hx.Hx;cases hy.Hx;obtain⟨g,h⟩:=Gb.Gn h;exact rC pins s σ H _ _ v u Q I rx ry ⟨a,b,rfl,rfl,jg g,h.ok _ _ (.refl _) (.str _)⟩
   |_=>exact stuck rfl
  |lst o a=>
   induction e using zD with
   |lst o' b=>obtain⟨p,xs,rfl,q1,m1⟩:=hx.LF;obtain⟨p',ys,rfl,q2,m2⟩:=hy.LF;obtain⟨g,h⟩:=Gb.Gn h;have g':=jg g;have l1:=m1.length;have l2:=m2.length;exact tf pins s σ H _ _ v u Q I rx ry ⟨p,p',xs,ys,rfl,rfl,q1,q2,by omega,λz hz=>h.ok _ _ (.upd hz) (pE hz (m1.append m2))⟩
   |_=>exact stuck rfl
  |_=>exact stuck rfl
 |sub=>
  induction d using zD with
  |int a=>
   induction e using zD with
   |int b=>cases hx.Ha;cases hy.Ha;exact A1 pins s σ H _ _ v u Q I rx ry ⟨a,b,rfl,rfl,h.ok _ _ (.refl _) (.int _)⟩
   |_=>exact stuck rfl
  |_=>exact stuck rfl
 |mul=>
  induction d using zD with
  |int a=>
   induction e using zD with
   |int b=>cases hx.Ha;cases hy.Ha;obtain⟨g,h⟩:=Gb.Gn h;rw[L_]at g;exact A2 pins s σ H _ _ v u Q I rx ry ⟨a,b,rfl,rfl,g.elim (λz=>.inl (p_ z)) (λz=>.inr (p_ z)),h.ok _ _ (.refl _) (.int _)⟩
   |_=>exact stuck rfl
  |str a=>
   induction e using zD with
   |int b=>cases hx.Hx;cases hy.Ha;obtain⟨g,h⟩:=Gb.Gn h;have g':=p_ g;exact rJ pins s σ H _ _ v u Q I rx ry ⟨a,b,rfl,rfl,g'.1,g'.2.1,g'.2.2,h.ok _ _ (.refl _) (.str _)⟩
   |_=>exact stuck rfl
  |lst o a=>
   induction e using zD with
   |int b=>obtain⟨p,xs,rfl,q1,m1⟩:=hx.LF;cases hy.Ha;obtain⟨g,h⟩:=Gb.Gn h;have g':=p_ g;have l1:=m1.length;exact tj pins s σ H _ _ v u Q I rx ry ⟨p,b,xs,rfl,rfl,q1,g'.1,g'.2.1,by rw[l1];exact g'.2.2,λz hz=>h.ok _ _ (.upd hz) (pE hz (m1.rep _))⟩
   |_=>exact stuck rfl
  |_=>exact stuck rfl
 |mod=>
  induction d using zD with
  |int a=>
   induction e using zD with
   |int b=>cases hx.Ha;cases hy.Ha;obtain⟨g,h⟩:=Gb.Gn h;exact A3 pins s σ H _ _ v u Q I rx ry ⟨a,b,rfl,rfl,p_ g,h.ok _ _ (.refl _) (.int _)⟩
   |_=>exact stuck rfl
  |_=>exact stuck rfl
theorem Gb.HS:∀ {n:Nat}{d e:D}{k:Bool->Prop},Gb ex (L2.HS n d e) k->∃r,L2.HS n d e=.ok r/\k r:=by
 have no:∀(n:Nat) (d e:D) (c:EX),L2.HS n d e≠.error (.exc c):=by
  intro n;have SH:∀(f:D->D->Res Bool),(∀d e c,f d e≠.error (.exc c))->∀(ds es:Ê) (c:EX),jP f ds es≠.error (.exc c):=by
   intro f hf ds
   induction ds with
   |nil=>intro es c h;cases es<;>cases h
   |cons a ds ih=>
    intro es c h
    induction es using zL with
    |nil=>cases h
    |cons b es=>
     have h':L2.FW (f a b) (λx=>L2.FW (jP f ds es) λy=>.ok (x&&y))=.error (.exc c):=h;cases q:f a b with
     |error z=>rw[q]at h';exact hf a b c (by rw[q];exact h')
     |ok x=>
      rw[q]at h';have h2:L2.FW (jP f ds es) (λy=>.ok (x&&y))=.error (.exc c):=h';cases q2:jP f ds es with
      |error z=>rw[q2]at h2;exact ih es c (by rw[q2];exact h2)
      |ok y=>rw[q2]at h2;cases h2
  induction n with
  |zero=>intro d e c h;cases h
  |succ n ih=>
   intro d e c h
   induction d using zD<;>induction e using zD<;>first|cases h|exact SH _ ih _ _ _ h
 intro n d e k h;cases q:L2.HS n d e with
 |ok r=>rw[q]at h;exact⟨r,rfl,h⟩
 |error z=>
  rw[q]at h;cases z with
  |stuck=>exact h.no.elim
  |exc c=>exact absurd q (no n d e c)
theorem Gb.Ht:∀ {ds:Ê}{k:Bool->Prop},Gb ex (L2.Ht d ds) k->∃f:Nat->Bool,(∀i e,ds[i]? = Γ e->L2.HS 40 e d=.ok (f i))/\k ((List.range ds.length).any f)
 |[],k,h=>⟨λ_=>Θ,λi e z=>by simp at z,h⟩
 |e::r,k,h=>by
  obtain⟨x,Ov,h1⟩:=Gb.HS (Gb.FW h);obtain⟨f,h2,h3⟩:=Gb.Ht (Gb.FW h1);refine⟨λi=>match i with|0=>x|j+1=>f j,λi e' z=>?_,?_⟩
  ·cases i with
   |zero=>simp at z;subst z;exact Ov
   |succ j=>exact h2 j e' (by simpa using z)
  ·rw[List.length_cons,List.range_succ_eq_map,List.any_cons,List.any_map];exact h3
def rQ (its:List Φ)(f:Nat->Bool)(h:∀i u,its[i]? = Γ u->EqAt A s u v (f i)) :
  ∃e:Φ->Bool,(∀y,y∈its.toArray->EqAt A s y v (e y))/\its.toArray.any e=(List.range its.length).any f:=by
 classical
 refine⟨λy=>decide (∃i,its[i]? = Γ y/\f i=Δ),λy hy=>?_,?_⟩
 ·have ML:y∈its:=by simpa using hy
  obtain⟨j,hj⟩:=List.getElem?_of_mem ML;show EqAt A s y v (decide (∃i,its[i]? = Γ y/\f i=Δ));by_cases q:∃i,its[i]? = Γ y/\f i=Δ
  ·rw[A_ q];obtain⟨i,hi,fi⟩:=q;have:=h i y hi;rw[fi]at this;exact this
  ·rw[x_ q];have:=h j y hj;have fj:f j=Θ:=by
    cases z:f j with
    |false=>rfl
    |true=>exact absurd ⟨j,hj,z⟩ q
   rw[fj]at this;exact this
 ·rw[Bool.eq_iff_iff];simp only[List.any_toArray,List.any_eq_true,X_,decide_eq_true_eq];constructor
  ·rintro⟨y,hy,i,hi,fi⟩;exact⟨i,(v_.mp hi).1,fi⟩
  ·rintro⟨i,hi,fi⟩;exact⟨its[i],List.getElem_mem hi,i,by simp[hi],fi⟩
def jR (hu:X.A.units+42 < cLine)  (I:Inv X pins σ H s)(rx:RelV x v)(hx:Gk X.K S H x d)
   {its:List Φ}  (rv:Vals xs its) (m:FZ X.K S H xs ds) (h:Gb ex (Ht d ds) k) :
  ∃e:Φ->Bool,(∀y,y∈its.toArray->EqAt X.A.in1 s y v (e y))/\k (its.toArray.any e):=by
 obtain⟨f,h1,h2⟩:=Gb.Ht h;have l1:=rv.length;have l2:=m.length;obtain⟨e,h3,h4⟩:=rQ (A:=X.A.in1) (s:=s) (v:=v) its f λi u hi=>by have HY:i < its.length:=(v_.mp hi).1;obtain⟨y,hy,my⟩:=m.get (i:=i) (d:=ds[i]'(by omega)) (by simp);obtain⟨u',LK,ru⟩:=rv.get hy;rw[hi]at LK;cases LK;exact(pD I 40 X.A.in1 y x u v _ d _ my hx ru rx (h1 i _ (by simp)) (by show X.A.units+1+40 < cLine;omega)).eq
 refine⟨e,h3,?_⟩;rw[h4,show its.length=ds.length by omega];exact h2
def mG (hu:X.A.units+42 < cLine)(op:Md):JV X (compareOp (J5 op)) (Fq X.K ex op):=by
 intro pins s σ H x y v u Q I rx ry h;obtain⟨S,d,e,hx,hy,h⟩:=h;have stuck:∀ {P:Prop},HV op d e=Gq->P:=λz=>by rw[z]at h;exact h.no.elim
 have fin:∀ {b:Bool},Q (.bl b) H->EP X pins σ Q (.bool b) s:=λq=>⟨.bl _,H,I,rfl,q⟩
 cases op with
 |eq=>obtain⟨r,h1,h2⟩:=Gb.HS h;exact(pD I 40 X.A x y v u d e r hx hy rx ry h1 (by omega)).rc _ _ _ _ (fin h2)
 |ne=>obtain⟨r,h1,h2⟩:=Gb.HS (Gb.FW h);exact(pD I 40 X.A x y v u d e r hx hy rx ry h1 (by omega)).ne _ _ _ _ (fin h2.ok)
 |lt=>
  induction d using zD with
  |int a=>
   induction e using zD with
   |int b=>cases hx.Ha;cases hy.Ha;obtain⟨t,rfl⟩:=rx;obtain⟨t',rfl⟩:=ry;exact lt_int (fin h.ok)
   |_=>exact stuck rfl
  |_=>exact stuck rfl
 |le=>
  induction d using zD with
  |int a=>
   induction e using zD with
   |int b=>cases hx.Ha;cases hy.Ha;obtain⟨t,rfl⟩:=rx;obtain⟨t',rfl⟩:=ry;exact le_int (fin h.ok)
   |_=>exact stuck rfl
  |_=>exact stuck rfl
 |gt=>
  induction d using zD with
  |int a=>
   induction e using zD with
   |int b=>cases hx.Ha;cases hy.Ha;obtain⟨t,rfl⟩:=rx;obtain⟨t',rfl⟩:=ry;exact gt_int (fin h.ok)
   |_=>exact stuck rfl
  |_=>exact stuck rfl
 |JA=>
  induction e using zD with
  |str b=>
   induction d using zD with
   |str a=>cases hx.Hx;cases hy.Hx;obtain⟨t,rfl⟩:=rx;obtain⟨t',rfl⟩:=ry;exact in_str (fin h.ok)
   |_=>exact stuck rfl
  |lst o ds=>obtain⟨a,xs,rfl,q1,m1⟩:=hy.Hs;cases ry;obtain⟨its,rv,pl,_⟩:=I.list q1;obtain⟨e,h1,h2⟩:=jR (ex:=ex) hu I rx hx rv m1 (by induction d using zD<;>exact h);exact in_listAt e pl.isList h1 (fin h2)
  |exc ns=>obtain⟨a,xs,rfl,q1,m1⟩:=hy.Mb;cases ry;obtain⟨its,rv,pl,_⟩:=I.list q1;obtain⟨e,h1,h2⟩:=jR (ex:=ex) hu I rx hx rv m1 (by induction d using zD<;>exact h);exact in_listAt e pl.isList h1 (fin h2)
  |tup ds=>obtain⟨a,xs,rfl,q1,m1⟩:=hy.HZ;cases ry;obtain⟨its,rv,pl,_⟩:=I.tuple q1;obtain⟨e,h1,h2⟩:=jR (ex:=ex) hu I rx hx rv m1 (by induction d using zD<;>exact h);exact in_tupleAt e pl h1 (fin h2)
  |Gx=>induction d using zD<;>exact stuck rfl
  |bl _=>induction d using zD<;>exact stuck rfl
  |int _=>induction d using zD<;>exact stuck rfl
  |G4 _ _ _=>induction d using zD<;>exact stuck rfl
  |obj _ _ _ _=>induction d using zD<;>exact stuck rfl
 |J1=>
  induction e using zD with
  |str b=>
   induction d using zD with
   |str a=>cases hx.Hx;cases hy.Hx;obtain⟨t,rfl⟩:=rx;obtain⟨t',rfl⟩:=ry;exact notIn_str (fin h.ok)
   |_=>exact stuck rfl
  |lst o ds=>obtain⟨a,xs,rfl,q1,m1⟩:=hy.Hs;cases ry;obtain⟨its,rv,pl,_⟩:=I.list q1;obtain⟨e,h1,h2⟩:=jR (ex:=ex) (k:=λr=>Q (.bl !r) H) hu I rx hx rv m1 ((Gb.FW (show Gb ex (FW (Ht d ds) λr=>.ok !r) (λr=>Q (.bl r) H) by induction d using zD<;>exact h)).mono λ_ z=>z);exact notIn_listAt e pl.isList h1 (fin h2)
  |exc ns=>obtain⟨a,xs,rfl,q1,m1⟩:=hy.Mb;cases ry;obtain⟨its,rv,pl,_⟩:=I.list q1;obtain⟨e,h1,h2⟩:=jR (ex:=ex) (k:=λr=>Q (.bl !r) H) hu I rx hx rv m1 ((Gb.FW (show Gb ex (FW (Ht d (ns.map .int)) λr=>.ok !r) (λr=>Q (.bl r) H) by induction d using zD<;>exact h)).mono λ_ z=>z);exact notIn_listAt e pl.isList h1 (fin h2)
  |tup ds=>obtain⟨a,xs,rfl,q1,m1⟩:=hy.HZ;cases ry;obtain⟨its,rv,pl,_⟩:=I.tuple q1;obtain⟨e,h1,h2⟩:=jR (ex:=ex) (k:=λr=>Q (.bl !r) H) hu I rx hx rv m1 ((Gb.FW (show Gb ex (FW (Ht d ds) λr=>.ok !r) (λr=>Q (.bl r) H) by induction d using zD<;>exact h)).mono λ_ z=>z);exact notIn_tupleAt e pl h1 (fin h2)
  |Gx=>induction d using zD<;>exact stuck rfl
  |bl _=>induction d using zD<;>exact stuck rfl
  |int _=>induction d using zD<;>exact stuck rfl
  |G4 _ _ _=>induction d using zD<;>exact stuck rfl
  |obj _ _ _ _=>induction d using zD<;>exact stuck rfl
 |MK=>
  induction e using zD with
  |Gx=>
   cases hy.IC;cases ry;have ev:kT d=(v == Value.none):=by
    cases hx with
    |Gx=>cases rx;rfl
    |bl b=>cases rx;rfl
    |int i=>obtain⟨t,rfl⟩:=rx;rfl
    |str z=>obtain⟨t,rfl⟩:=rx;rfl
    |tup _ _=>cases rx;rfl
    |lst _ _ _=>cases rx;rfl
    |lstK _ _=>cases rx;rfl
    |exc _=>cases rx;rfl
    |G4 _ _ _ _=>cases rx;rfl
    |obj _ _ _ _=>cases rx;rfl
   have h':Q (.bl (kT d)) H:=by induction d using zD<;>exact h
   rw[ev]at h';exact is_none_gen (fin h')
  |_=>induction d using zD<;>exact stuck rfl
 |Om=>
  induction e using zD with
  |Gx=>
   cases hy.IC;cases ry;have ev:kT d=(v == Value.none):=by
    cases hx with
    |Gx=>cases rx;rfl
    |bl b=>cases rx;rfl
    |int i=>obtain⟨t,rfl⟩:=rx;rfl
    |str z=>obtain⟨t,rfl⟩:=rx;rfl
    |tup _ _=>cases rx;rfl
    |lst _ _ _=>cases rx;rfl
    |lstK _ _=>cases rx;rfl
    |exc _=>cases rx;rfl
    |G4 _ _ _ _=>cases rx;rfl
    |obj _ _ _ _=>cases rx;rfl
   have h':Q (.bl (!kT d)) H:=by induction d using zD<;>exact h
   rw[ev]at h';exact isnot_none_gen (fin h')
  |_=>induction d using zD<;>exact stuck rfl
def lT (I:Inv X pins σ H s)(rx:RelV x v)(hx:Gk X.K S H x d)(h:Gb ex (iH d) λb=>Q b H) :
  Ι (Κ X.prog X.w) X.A (truthy v) (TP X pins σ Q) X.xe s:=by
 refine A5 pins s σ H x v Q I rx ?_
 induction d using zD with
 |exc c=>exact h.no.elim
 |G4 _ _ _=>exact h.no.elim
 |obj _ _ _ _=>exact h.no.elim
 |Gx=>cases hx.IC;exact⟨Θ,rfl,h⟩
 |bl b=>cases hx.Mc;exact⟨b,rfl,h⟩
 |int i=>cases hx.Ha;exact⟨_,rfl,h⟩
 |str z=>cases hx.Hx;obtain⟨g,h⟩:=Gb.Gn h;exact⟨_,⟨jg g,rfl⟩,h⟩
 |tup ds=>obtain⟨a,xs,rfl,q,m⟩:=hx.HZ;refine⟨!ds.isEmpty,.inr (.inl ⟨xs,q,?_⟩),h⟩;have:=m.length;cases xs<;>cases ds<;>simp_all
 |lst o ds=>obtain⟨a,xs,rfl,q,m⟩:=hx.Hs;refine⟨!ds.isEmpty,.inl ⟨xs,q,?_⟩,h⟩;have:=m.length;cases xs<;>cases ds<;>simp_all
def tm {K:Frag}  (m:FZ K S H vs ds)(h:Ib ds i=Γ d):∃v,Ib vs i=Γ v/\Gk K S H v d:=by
 unfold Ib at h ⊢;rw[m.length];cases q:JI ds.length i with
 |none=>rw[q]at h;cases h
 |some j=>rw[q]at h;exact m.get h
def Fs (K:Frag)(ex:EX->Prop):R2:=λx y H Q=>∃S d e,Gk K S H x d/\Gk K S H y e/\Gb ex (lM d e) (Kk K S H Q)
def yk:MH X (Fs X.K ex):=by
 intro value slice pins s σ H x y v u Q I rx ry h hs;obtain⟨S,d,e,hx,hy,h⟩:=h;refine Bb value slice pins s σ H x y v u Q I rx ry ?_ hs;have stuck:∀ {P:Prop},lM d e=Gq->P:=λz=>by rw[z]at h;exact h.no.elim
 induction e using zD with
 |int i=>
  cases hy.Ha
  induction d using zD with
  |lst o ds=>
   obtain⟨a,xs,rfl,q,m⟩:=hx.Hs;have h':Gb ex (match Ib ds i with|some d=>.ok d|none=>Gq) (Kk X.K S H Q):=h;cases z:Ib ds i with
   |none=>rw[z]at h';exact h'.no.elim
   |some d=>rw[z]at h';obtain⟨w,ew,mw⟩:=tm m z;exact .inl ⟨a,xs,i,w,rfl,rfl,q,ew,h'.ok _ _ (.refl _) mw.nw⟩
  |tup ds=>
   obtain⟨a,xs,rfl,q,m⟩:=hx.HZ;have h':Gb ex (match Ib ds i with|some d=>.ok d|none=>Gq) (Kk X.K S H Q):=h;cases z:Ib ds i with
   |none=>rw[z]at h';exact h'.no.elim
   |some d=>rw[z]at h';obtain⟨w,ew,mw⟩:=tm m z;exact .inr (.inl ⟨a,xs,i,w,rfl,rfl,q,ew,h'.ok _ _ (.refl _) mw.nw⟩)
  |str z=>
   cases hx.Hx;obtain⟨g,h⟩:=Gb.Gn h;cases q:Ib z.cps.toList i with
   |none=>rw[q]at h;exact h.no.elim
   |some c=>rw[q]at h;exact .inr (.inr ⟨z,i,c,rfl,rfl,jg g,q,h.ok _ _ (.refl _) (.str _)⟩)
  |_=>exact stuck rfl
 |_=>induction d using zD<;>exact stuck rfl
def Ft (K:Frag)(ex:EX->Prop):V->Option Int->Option Int->Hp->VK->Prop:=λx lo hi H Q=>∃S d,Gk K S H x d/\Gb ex (qv d lo hi) (Kk K S H Q)
def Bo:QY X (λx lo hi H Q=>∃z,x=.str z/\z.length<=Ε/\Q (.str (Txt.slice z lo hi)) H):=by
 intro pins s σ H x v vl vu lo hi sl Q I rx hs pl pu h;obtain⟨z,rfl,hz,q⟩:=h;obtain⟨t,rfl⟩:=rx;refine⟨"str",_,F.slot_str_getitem.lookup,typeIs_str s z t,?_⟩;have fin:∀(l u:Option (Int×Tok)),vl=partValue l->vu=partValue u->l.map (·.1)=lo->u.map (·.1)=hi->Ι (Κ X.prog X.w) X.A (getItem (.str z t) (.ref sl)) (EP X pins σ Q) X.xe s:=by intro l u e1 e2 e3 e4;subst e1 e2 e3 e4;refine wpAny_getItem_str_slice (l:=l) (u:=u) (st:=Ξ) hs rfl ?_;exact post_val_or_str ⟨Q_ (Txt.slice_le z _ _) hz,λt' k=>⟨.str _,H,I.tok _,⟨_,rfl⟩,q⟩⟩
 cases pl with
 |none=>
  cases pu with
  |none=>exact fin Ξ Ξ rfl rfl rfl rfl
  |int j t'=>exact fin Ξ (Γ (j,t')) rfl rfl rfl rfl
 |int i t'=>
  cases pu with
  |none=>exact fin (Γ (i,t')) Ξ rfl rfl rfl rfl
  |int j Yf=>exact fin (Γ (i,t')) (Γ (j,Yf)) rfl rfl rfl rfl
open PySem.W
section
open Builtin Builtin.ObjectAttr Builtin.Getset_descriptor in
end
def tq {K:Frag}  (lo hi:Option Int)(m:FZ K S H vs ds):FZ K S H (ua vs lo hi) (nJ ds lo hi):=by unfold ua nJ;rw[m.length];exact(m.drop _).take _
def yl:QY X (Ft X.K ex):=by
 intro pins s σ H x v vl vu lo hi sl Q I rx hs pl pu h;obtain⟨S,d,hx,h⟩:=h
 induction d using zD with
 |lst o ds=>obtain⟨a,xs,rfl,q,m⟩:=hx.Hs;exact sN pins s σ H _ v vl vu lo hi sl Q I rx hs pl pu ⟨a,xs,rfl,q,λp hp=>h.ok _ _ (.upd hp) (pE hp (tq lo hi m))⟩
 |str z=>cases hx.Hx;obtain⟨g,h⟩:=Gb.Gn h;exact Bo pins s σ H _ v vl vu lo hi sl Q I rx hs pl pu ⟨z,rfl,jg g,h.ok _ _ (.refl _) (.str _)⟩
 |_=>exact h.no.elim
def qF:∀ {us:List Φ},Vals (ns.map V.str) us->StrsAre us ns:=by
 induction ns with
 |nil=>intro us r;rw[List.map_nil]at r;cases r;exact .nil
 |cons n ns ih=>
  intro us r;rw[c_]at r;cases r with
  |cons r1 r2=>obtain⟨t,e⟩:=r1;subst e;exact .cons n t (ih r2)
theorem nS:∀ {ds:Ê}{ns:Å},j9 ds=Γ ns->ds=ns.map .int
 |[],ns,h=>by cases h;rfl
 |.int i::r,ns,h=>by
  have h':(j9 r).map (i::·)=Γ ns:=h;cases q:j9 r with
  |none=>rw[q]at h';cases h'
  |some ms=>rw[q]at h';cases h';rw[nS q];rfl
 |.Gx::_,_,h=>by cases h
 |.bl _::_,_,h=>by cases h
 |.str _::_,_,h=>by cases h
 |.tup _::_,_,h=>by cases h
 |.lst _ _::_,_,h=>by cases h
theorem lC:∀ {ds:Ê}{ns:Â},jC ds=Γ ns->ds=ns.map .str
 |[],ns,h=>by cases h;rfl
 |.str i::r,ns,h=>by
  have h':(jC r).map (i::·)=Γ ns:=h;cases q:jC r with
  |none=>rw[q]at h';cases h'
  |some ms=>rw[q]at h';cases h';rw[lC q];rfl
 |.Gx::_,_,h=>by cases h
 |.bl _::_,_,h=>by cases h
 |.int _::_,_,h=>by cases h
 |.tup _::_,_,h=>by cases h
 |.lst _ _::_,_,h=>by cases h
theorem mH:∀ {ds:Ê}{ns:List Bool},kc ds=Γ ns->ds=ns.map .bl
 |[],ns,h=>by cases h;rfl
 |.bl i::r,ns,h=>by
  have h':(kc r).map (i::·)=Γ ns:=h;cases q:kc r with
  |none=>rw[q]at h';cases h'
  |some ms=>rw[q]at h';cases h';rw[mH q];rfl
 |.Gx::_,_,h=>by cases h
 |.str _::_,_,h=>by cases h
 |.int _::_,_,h=>by cases h
 |.tup _::_,_,h=>by cases h
 |.lst _ _::_,_,h=>by cases h
def uo (hc:X.calm=Δ):jJ X (.builtin "all") (λxs H Q=>∃(p:Ψ) (bs:List Bool),xs=[.ref p]/\HJ X.K H p (bs.map V.bl)/\Q (.bl (bs.all id)) H):=by
 intro pins s σ H xs us Q I r h;obtain⟨p,bs,rfl,hq,q⟩:=h;obtain⟨u,rfl,rx⟩:=vals1 r;cases rx;obtain⟨its,rv,pl,hz⟩:=I.list hq;have hl:=rv.length;rw[h_]at hl;have HY:p < s.heap.objs.size:=by obtain⟨o,e,_⟩:=pl.isList;exact m_ e
 refine call_all_walk (aag pl.isList ?_);refine⟨s.heap.objs.size,_,_,_,_,_,λi=>bs.getD i Δ,rfl,Walks.list (A:=X.A.in1) (show X.A.in1.handled=Ξ from I.ok.hd hc) s.heap.objs.size p (s_ HY) its.toArray,⟨⟨_,D_ _ rfl,rfl,rfl⟩,?_⟩,?_,?_⟩
 ·obtain⟨o,e,c,n,d⟩:=pl.isList;exact⟨o,r_ _ e,c,n,d⟩
 ·intro i v s' Q' E' hv SI;have NY:its[i]? = Γ v:=by simpa using hv
  have Mj:i < bs.length:=by have:=(v_.mp NY).1;omega
  obtain⟨u,hu,ru⟩:=rv.get (i:=i) (x:=.bl bs[i]) (by rw[z_,K_ Mj];rfl);rw[NY]at hu;cases hu;cases ru;refine wpAny_truthy_bool ?_;have e:bs.getD i Δ=bs[i]:=by simp[List.getD,Mj]
  rw[<- e];exact SI
 ·intro h' tk kp;have KQ:(List.range its.toArray.size).all (λi=>bs.getD i Δ)=bs.all id:=by
   rw[show its.toArray.size=bs.length by simp[hl]];rw[Bool.eq_iff_iff,I_,I_];constructor
   ·intro z b hb;obtain⟨i,hi,rfl⟩:=List.getElem_of_mem hb;have:=z i (X_.mpr hi);simpa[List.getD,hi] using this
   ·intro z i hi;have KG:=X_.mp hi;have:=z bs[i] (List.getElem_mem KG);simpa[List.getD,KG] using this
  rw[KQ];refine⟨.bl (bs.all id),H,I.kept (t':=tk) λb o e=>kp b o ?_ (r_ _ e),rfl,q⟩;intro hm;have hb:b=s.heap.objs.size:=by simpa using hm
  subst hb;exact absurd (m_ e) (Nat.lt_irrefl _)
def uq (hc:X.calm=Δ):jJ X (.builtin "any") (λxs H Q=>∃(p:Ψ) (bs:List Bool),xs=[.ref p]/\HJ X.K H p (bs.map V.bl)/\Q (.bl (bs.any id)) H):=by
 intro pins s σ H xs us Q I r h;obtain⟨p,bs,rfl,hq,q⟩:=h;obtain⟨u,rfl,rx⟩:=vals1 r;cases rx;obtain⟨its,rv,pl,hz⟩:=I.list hq;have hl:=rv.length;rw[h_]at hl;have HY:p < s.heap.objs.size:=by obtain⟨o,e,_⟩:=pl.isList;exact m_ e
 refine call_any_walk (aag pl.isList ?_);refine⟨s.heap.objs.size,_,_,_,_,_,λi=>bs.getD i Θ,rfl,Walks.list (A:=X.A.in1) (show X.A.in1.handled=Ξ from I.ok.hd hc) s.heap.objs.size p (s_ HY) its.toArray,⟨⟨_,D_ _ rfl,rfl,rfl⟩,?_⟩,?_,?_⟩
 ·obtain⟨o,e,c,n,d⟩:=pl.isList;exact⟨o,r_ _ e,c,n,d⟩
 ·intro i v s' Q' E' hv SI;have NY:its[i]? = Γ v:=by simpa using hv
  have Mj:i < bs.length:=by have:=(v_.mp NY).1;omega
  obtain⟨u,hu,ru⟩:=rv.get (i:=i) (x:=.bl bs[i]) (by rw[z_,K_ Mj];rfl);rw[NY]at hu;cases hu;cases ru;refine wpAny_truthy_bool ?_;have e:bs.getD i Θ=bs[i]:=by simp[List.getD,Mj]
  rw[<- e];exact SI
 ·intro h' tk kp;have KQ:(List.range its.toArray.size).any (λi=>bs.getD i Θ)=bs.any id:=by
   rw[show its.toArray.size=bs.length by simp[hl]];rw[Bool.eq_iff_iff,List.any_eq_true,List.any_eq_true];constructor
   ·rintro⟨i,hi,z⟩;have KG:=X_.mp hi;exact⟨bs[i],List.getElem_mem KG,by simpa[List.getD,KG] using z⟩
   ·rintro⟨b,hb,z⟩;obtain⟨i,hi,rfl⟩:=List.getElem_of_mem hb;exact⟨i,X_.mpr hi,by simpa[List.getD,hi] using z⟩
  rw[KQ];refine⟨.bl (bs.any id),H,I.kept (t':=tk) λb o e=>kp b o ?_ (r_ _ e),rfl,q⟩;intro hm;have hb:b=s.heap.objs.size:=by simpa using hm
  subst hb;exact absurd (m_ e) (Nat.lt_irrefl _)
abbrev ku:Bi->Str
 |.len=>"len" |.min2=>"min" |.max2=>"max" |.list=>"list" |.tuple=>"tuple" |.all=>"all" |.any=>"any"
abbrev Ds:Bi->Bool
 |.list=>Δ|.tuple=>Δ
 |_=>Θ
abbrev Dt:Bi->String
 |.len=>"len" |.min2=>"min" |.max2=>"max" |.list=>"list" |.tuple=>"tuple" |.all=>"all" |.any=>"any"
abbrev vy (f:Bi):Φ:=if Ds f=Δ then .type (Dt f) else .builtin (Dt f)
def tu (f:Bi):bootBuiltins (ku f)=Γ (vy f):=by cases f<;>decide +kernel
def VT (K:Frag)(ex:EX->Prop)(f:Bi):Ë->Hp->VK->Prop:=λxs H Q=>∃S ds,FZ K S H xs ds/\Gb ex (jZ f ds) (Kk K S H Q)
def FZ.Ml {K:Frag}  (h:FZ K S H xs [d]):∃x,xs=[x]/\Gk K S H x d:=by
 cases h with
 |cons h1 h2=>cases h2;exact⟨_,rfl,h1⟩
def FZ.SJ {K:Frag}  (h:FZ K S H xs [d,e]):∃x y,xs=[x,y]/\Gk K S H x d/\Gk K S H y e:=by
 cases h with
 |cons h1 h2=>
  cases h2 with
  |cons h3 h4=>cases h4;exact⟨_,_,rfl,h1,h3⟩
def ur {K:Frag}  (z:Str):FZ K S H (mq z) (jD z):=by
 unfold mq jD
 induction z.cps.toList with
 |nil=>exact .nil
 |cons c cs ih=>exact .cons (.str _) ih
theorem lU {K:Frag}{S:Ψ->Prop}{H:Hp}:∀kvs:List (Key×V),FZ K S H (kvs.map λq=>kV q.1) ((kvs.map (·.1)).map yf)
 |[]=>.nil
 | (.inl i,_)::r=>.cons (.int i) (lU r)
 | (.inr x,_)::r=>.cons (.str x) (lU r)
def ym (hc:X.calm=Δ)(f:Bi):jJ X (vy f) (VT X.K ex f):=by
 intro pins s σ H xs us Q I r h;obtain⟨S,ds,hx,h⟩:=h;have stuck:∀ {P:Prop},jZ f ds=Gq->P:=λz=>by rw[z]at h;exact h.no.elim
 have one:∀ {d e:D}{r':Ê},ds=d::e::r'->¬(f=.min2∨f=.max2)->jZ f ds=Gq:=by intro d e r' z nf;subst z;cases f<;>first|rfl|(exfalso;exact nf (.inl rfl))|(exfalso;exact nf (.inr rfl))|(induction d using zD<;>rfl)
 have two:∀ {d e g:D}{r':Ê},ds=d::e::g::r'->jZ f ds=Gq:=by intro d e g r' z;subst z;cases f<;>first|rfl|(induction d using zD<;>rfl)|(induction d using zD<;>induction e using zD<;>rfl)
 have nil:ds=[]->jZ f ds=Gq:=by intro z;subst z;cases f<;>rfl
 match ds,hx with
 |[],hx=>exact stuck (nil rfl)
 |d::e::g::r',hx=>exact stuck (two rfl)
 |[d,e],hx=>
  by_cases nf:f=.min2∨f=.max2
  ·obtain⟨x,y,rfl,hd,he⟩:=hx.SJ;rcases nf with rfl|rfl
   ·induction d using zD with
    |int a=>
     induction e using zD with
     |int b=>cases hd.Ha;cases he.Ha;exact t6 hc pins s σ H _ us Q I r ⟨a,b,rfl,h.ok _ _ (.refl _) (.int _)⟩
     |_=>exact stuck rfl
    |_=>exact stuck rfl
   ·induction d using zD with
    |int a=>
     induction e using zD with
     |int b=>cases hd.Ha;cases he.Ha;exact t5 hc pins s σ H _ us Q I r ⟨a,b,rfl,h.ok _ _ (.refl _) (.int _)⟩
     |_=>exact stuck rfl
    |_=>exact stuck rfl
  ·exact stuck (one rfl nf)
 |[d],hx=>
  obtain⟨x,rfl,hd⟩:=hx.Ml;cases f with
  |len=>
   induction d using zD with
   |str z=>cases hd.Hx;obtain⟨g,h⟩:=Gb.Gn h;exact HP pins s σ H _ us Q I r ⟨_,_,rfl,⟨jg g,rfl⟩,h.ok _ _ (.refl _) (.int _)⟩
   |tup ds=>obtain⟨a,ys,rfl,q,m⟩:=hd.HZ;exact HP pins s σ H _ us Q I r ⟨_,ds.length,rfl,.inr ⟨ys,q,m.length.symm⟩,h.ok _ _ (.refl _) (.int _)⟩
   |lst o ds=>obtain⟨a,ys,rfl,q,m⟩:=hd.Hs;exact HP pins s σ H _ us Q I r ⟨_,ds.length,rfl,.inl ⟨ys,q,m.length.symm⟩,h.ok _ _ (.refl _) (.int _)⟩
   |exc c=>obtain⟨a,ys,rfl,q,m⟩:=hd.Mb;exact HP pins s σ H _ us Q I r ⟨_,(c.map D.int).length,rfl,.inl ⟨ys,q,m.length.symm⟩,h.ok _ _ (.refl _) (.int _)⟩
   |G4 o ks es=>
    cases hd with
    |G4 h0 h1 h2 h3=>exact ui pins s σ H _ us Q I r ⟨_,_,rfl,h1,by rw[<- h_ (f:=(·.1)),h2];exact h.ok _ _ (.refl _) (.int _)⟩
   |_=>exact stuck rfl
  |all=>
   induction d using zD with
   |lst o ds=>
    obtain⟨a,ys,rfl,q,m⟩:=hd.Hs;have h':Gb ex (match kc ds with|some bs=>.ok (.bl (bs.all id))|none=>Gq) (Kk X.K S H Q):=h;cases z:kc ds with
    |none=>rw[z]at h';exact h'.no.elim
    |some ns=>rw[z]at h';rw[mH z]at m;rw[m.VS]at q;exact uo hc pins s σ H _ us Q I r ⟨a,ns,rfl,q,h'.ok _ _ (.refl _) (.bl _)⟩
   |_=>exact stuck rfl
  |any=>
   induction d using zD with
   |lst o ds=>
    obtain⟨a,ys,rfl,q,m⟩:=hd.Hs;have h':Gb ex (match kc ds with|some bs=>.ok (.bl (bs.any id))|none=>Gq) (Kk X.K S H Q):=h;cases z:kc ds with
    |none=>rw[z]at h';exact h'.no.elim
    |some ns=>rw[z]at h';rw[mH z]at m;rw[m.VS]at q;exact uq hc pins s σ H _ us Q I r ⟨a,ns,rfl,q,h'.ok _ _ (.refl _) (.bl _)⟩
   |_=>exact stuck rfl
  |list=>
   induction d using zD with
   |tup ds=>obtain⟨a,ys,rfl,q,m⟩:=hd.HZ;exact jN pins s σ H _ us Q I r ⟨a,ys,rfl,.inr q,λp hp=>h.ok _ _ (.upd hp) (pE hp m)⟩
   |lst o ds=>obtain⟨a,ys,rfl,q,m⟩:=hd.Hs;exact jN pins s σ H _ us Q I r ⟨a,ys,rfl,.inl q,λp hp=>h.ok _ _ (.upd hp) (pE hp m)⟩
   |exc c=>obtain⟨a,ys,rfl,q,m⟩:=hd.Mb;exact jN pins s σ H _ us Q I r ⟨a,ys,rfl,.inl q,λp hp=>h.ok _ _ (.upd hp) (pE hp m)⟩
   |G4 o ks ds=>
    cases hd with
    |G4 h0 h1 h2 h3=>subst h2;exact nG hc pins s σ H _ us Q I r ⟨_,_,rfl,h1,λp hp=>h.ok _ _ (.upd hp) (pE hp (lU _))⟩
   |_=>exact stuck rfl
  |min2=>induction d using zD<;>exact stuck rfl
  |max2=>induction d using zD<;>exact stuck rfl
  |tuple=>
   induction d using zD with
   |str z=>cases hd.Hx;obtain⟨g,h⟩:=Gb.Gn h;exact nB hc pins s σ H _ us Q I r ⟨z,rfl,jg g,λp hp=>h.ok _ _ (.upd hp) (Bm hp (ur z))⟩
   |lst o ds=>obtain⟨a,ys,rfl,q,m⟩:=hd.Hs;exact ox pins s σ H _ us Q I r ⟨a,ys,rfl,.inl ⟨q,λp hp=>h.ok _ _ (.upd hp) (Bm hp m)⟩⟩
   |_=>exact stuck rfl
abbrev lE:Kd->Str
 |.str=>"str" |.int=>"int" |.bool=>"bool" |.list=>"list" |.tuple=>"tuple"
abbrev vz:Kd->Φ
 |.str=>.type "str" |.int=>.type "int" |.bool=>.type "bool" |.list=>.type "list" |.tuple=>.type "tuple"
def yn (k:Kd):bootBuiltins (lE k)=Γ (vz k):=by cases k<;>decide +kernel
abbrev VU:D->Φ
 |.Gx=>.type "NoneType" |.bl _=>.type "bool" |.int _=>.type "int" |.str _=>.type "str" |.tup _=>.type "tuple" |.lst _ _=>.type "list" |.exc _=>.none|.G4 _ _ _=>.none|.obj _ _ _ _=>.none
def yo (K:Frag)(k:Kd)(d:D)(hn:kz d=Δ):PySem.W.kitOne K (VU d) (vz k)=Γ (kA k d):=by cases k<;>induction d using zD<;>first|rfl|cases hn
def yq (I:Inv X pins σ H s)(rx:RelV x v)(hx:Gk X.K S H x d)(k:Kd)(hn:kz d=Δ)(h:Q (.bl (kA k d)) H) :
  Ι (Κ X.prog X.w) X.A (call (.builtin "isinstance") [v,vz k]) (EP X pins σ Q) X.xe s:=by
 have e:=yo X.K k d hn;have fin:∀tk,EP X pins σ Q (.bool (kA k d)) {s with toks:=tk}:=λtk=>⟨.bl _,H,I.tok _,rfl,h⟩
 induction d using zD with
 |Gx=>cases hx.IC;cases rx;exact PySem.W.kia_one PySem.W.kitx_none I.Ig True.intro e (λz=>nomatch z) fin
 |bl b=>cases hx.Mc;cases rx;exact PySem.W.kia_one PySem.W.kitx_bool I.Ig True.intro e (λz=>nomatch z) fin
 |int b=>cases hx.Ha;obtain⟨t,rfl⟩:=rx;exact PySem.W.kia_one PySem.W.kitx_int I.Ig True.intro e (λz=>nomatch z) fin
 |str b=>cases hx.Hx;obtain⟨t,rfl⟩:=rx;exact PySem.W.kia_one PySem.W.kitx_str I.Ig True.intro e (λz=>nomatch z) fin
 |tup ds=>obtain⟨a,ys,rfl,q,m⟩:=hx.HZ;cases rx;obtain⟨its,_,⟨o,h1,h2,_⟩,_⟩:=I.tuple q;exact PySem.W.kia_one PySem.W.kitx_tuple I.Ig ⟨o,h1,h2⟩ e (λz=>nomatch z) fin
 |lst o ds=>obtain⟨a,ys,rfl,q,m⟩:=hx.Hs;cases rx;obtain⟨its,_,pl,_⟩:=I.list q;obtain⟨o,h1,h2,_⟩:=pl.isList;exact PySem.W.kia_one PySem.W.kitx_list I.Ig ⟨o,h1,h2⟩ e (λz=>nomatch z) fin
 |exc c=>cases hn
 |G4 o ks ds=>cases hn
 |obj o c ks ds=>cases hn
def vA (K:Frag)(d:D)(hn:kz d=Δ):PySem.W.kitAny K (VU d) [.type "list",.type "tuple"]=Γ (lN d):=by
 induction d using zD<;>first|rfl|cases hn
def yr {X:Cx}{pins:List (Ψ×Obj)}{s:Ω}{σ:St}{H:Hp}{S:Ψ->Prop}{x:V}{v:Φ}{d:D}{p:Ψ}{Q:VK}(I:Inv X pins σ H s)(rx:RelV x v)(hx:Gk X.K S H x d)(hp:HK X.K H p [.ty "list",.ty "tuple"]) (hn:kz d=Δ) (h:Q (.bl (lN d)) H) :
  Ι (Κ X.prog X.w) X.A (call (.builtin "isinstance") [v,.ref p]) (EP X pins σ Q) X.xe s:=by
 have e:=vA X.K d hn;have fin:∀tk,EP X pins σ Q (.bool (lN d)) {s with toks:=tk}:=λtk=>⟨.bl _,H,I.tok _,rfl,h⟩
 obtain⟨its,rv,⟨ot,e1,e2,e3⟩,_⟩:=I.tuple hp;obtain⟨u1,u2,rfl,r1,r2⟩:=vals2 rv;have r1:u1=.type "list":=r1;have r2:u2=.type "tuple":=r2;subst r1 r2;obtain⟨k1,k2,k3,k4⟩:=ot;dsimp only at e2 e3;subst e2;obtain⟨n,e3⟩:=e3;subst e3
 induction d using zD with
 |Gx=>cases hx.IC;cases rx;exact PySem.W.kia_tup PySem.W.kitx_none I.Ig True.intro e1 e (λz=>nomatch z) fin
 |bl b=>cases hx.Mc;cases rx;exact PySem.W.kia_tup PySem.W.kitx_bool I.Ig True.intro e1 e (λz=>nomatch z) fin
 |int b=>cases hx.Ha;obtain⟨t,rfl⟩:=rx;exact PySem.W.kia_tup PySem.W.kitx_int I.Ig True.intro e1 e (λz=>nomatch z) fin
 |str b=>cases hx.Hx;obtain⟨t,rfl⟩:=rx;exact PySem.W.kia_tup PySem.W.kitx_str I.Ig True.intro e1 e (λz=>nomatch z) fin
 |tup ds=>obtain⟨a,ys,rfl,q,m⟩:=hx.HZ;cases rx;obtain⟨its,_,⟨o,h1,h2,_⟩,_⟩:=I.tuple q;exact PySem.W.kia_tup PySem.W.kitx_tuple I.Ig ⟨o,h1,h2⟩ e1 e (λz=>nomatch z) fin
 |lst o ds=>obtain⟨a,ys,rfl,q,m⟩:=hx.Hs;cases rx;obtain⟨its,_,pl,_⟩:=I.list q;obtain⟨o,h1,h2,_⟩:=pl.isList;exact PySem.W.kia_tup PySem.W.kitx_list I.Ig ⟨o,h1,h2⟩ e1 e (λz=>nomatch z) fin
 |exc c=>cases hn
 |G4 o ks ds=>cases hn
 |obj o c ks ds=>cases hn
abbrev nT:Mt->Str
 |.join=>"join" |.index=>"index" |.starts=>"startswith"
abbrev Fu:Mt->String
 |.join=>"str.join" |.index=>"str.index" |.starts=>"str.startswith"
def VV (K:Frag)(ex:EX->Prop)(m:Mt):V->Ë->Hp->VK->Prop:=λx xs H Q=>∃S d ds,Gk K S H x d/\FZ K S H xs ds/\Gb ex (oA m d ds) (Kk K S H Q)
def vB (h:Gb ex (oA m d ds) k):∃x,d=.str x:=by cases m<;>induction d using zD<;>first|exact⟨_,rfl⟩|exact h.no.elim
def pG (m:Mt)(hc:m=.index->X.calm=Δ):Vo X (Fu m) (VV X.K ex m):=by
 intro pins s σ H x xs v us Q I rx rs h;obtain⟨S,d,ds,hx,hs,h⟩:=h;obtain⟨z,rfl⟩:=vB h;cases hx.Hx;obtain⟨t,rfl⟩:=rx;have stuck:∀ {P:Prop},oA m (.str z) ds=Gq->P:=λz=>by rw[z]at h;exact h.no.elim
 match ds,hs with
 |[],_=>cases m<;>exact stuck rfl
 |d::e::r,_=>cases m<;>induction d using zD<;>exact stuck rfl
 |[d],hs=>
  obtain⟨y,rfl,hd⟩:=hs.Ml;obtain⟨u,rfl,ru⟩:=vals1 rs;cases m with
  |join=>
   induction d using zD with
   |lst o ds=>
    obtain⟨a,ys,rfl,q,m⟩:=hd.Hs;cases ru;have h':Gb ex (match jC ds with|some ys=>Gn (decide ((ys.map (·.length)).sum+ys.length*z.length<=16777216)) (.ok (.str (Txt.join z ys)))|none=>Gq) (Kk X.K S H Q):=h;cases w:jC ds with
    |none=>rw[w]at h';exact h'.no.elim
    |some ns=>rw[w]at h';obtain⟨g,h'⟩:=Gb.Gn h';rw[lC w]at m;rw[m.strs]at q;obtain⟨its,rv,pl,_⟩:=I.list q;exact join_list pl.isList (by simpa using qF rv) (p_ g) λt' k=>⟨.str _,H,I.tok _,⟨_,rfl⟩,h'.ok _ _ (.refl _) (.str _)⟩
   |_=>exact stuck rfl
  |index=>cases d<;>exact stuck rfl
  |starts=>cases d<;>exact stuck rfl
abbrev SK (x:Str):It:=⟨λi _=>i < x.cps.size,λi H v H'=>H'=H/\∃c,x.cps[i]? = Γ c/\v=.str ⟨#[c]⟩,λi _=>x.cps.size<=i⟩
def vC {P:Β}{w:Α}{K:Frag}{tg:Expr}{it:Ψ}{x:Str}{t:Tok}{ty:String}(OZ:ty = "str_ascii_iterator"∨ty = "str_iterator")
  (W:∀A':Η,A'.handled=Ξ->Walks P w A' it [it] [it] x.cps.size (SignAt x) (λi h=>h.IsStrIter it ty x t i)):Turn P w K tg (SK x) [it] it (λi h=>i<=x.cps.size/\h.IsStrIter it ty x t i) where
 mem:=by simp
 obj:=λi h st b hb=>by
  have e:b=it:=by simpa using hb
  subst e;obtain⟨_,o,e,c,d⟩:=st;exact⟨o,e,λv z=>by rw[d]at z;cases z⟩
 keep:=λi h h' st k=>by obtain⟨l,o,e,c,d⟩:=st;exact⟨l,o,k it (by simp) o e,c,d⟩
 item:=by intro X hP hw hK hc i pins s σ H E I hf st hg;subst hP hw hK;obtain⟨f0,f1,f2,f3,f4,f5⟩:=hf it (by simp);refine(W X.A (I.ok.hd hc)).item i s _ _ hg st.2 λv h' tk hv Lq kk=>?_;obtain⟨c,u,Yg,rfl⟩:=hv;have I1:Inv X pins σ H {s with heap:=h',toks:=tk}:=I.turned (λb o hb e=>kk b o (by simpa using hb) e) f0 f1 f3 f4 f5;obtain⟨o,e,cc,d⟩:=id Lq;refine⟨_,rfl,sJ (s:={s with heap:=h',toks:=tk}) (n:=ty) e cc d (by rcases OZ with rfl|rfl<;>decide) ⟨.str ⟨#[c]⟩,H,I1,⟨u,rfl⟩,⟨rfl,c,Yg,rfl⟩,⟨hg,Lq⟩,λb hb=>(hf b hb).1⟩⟩
 done:=by intro X hP hw hK hc i pins s σ H E I hf st hg;subst hP hw hK;obtain⟨f0,f1,f2,f3,f4,f5⟩:=hf it (by simp);have e:i=x.cps.size:=Nat.le_antisymm st.1 hg;refine(W X.A (I.ok.hd hc)).done s _ _ (by rw[<- e];exact st.2) λh' tk kk=>⟨rfl,I.turned (λb o hb e=>kk b o (by simpa using hb) e) f0 f1 f3 f4 f5⟩
 self:=λA i s Q E st h=>by
  obtain⟨_,st⟩:=st;rcases OZ with rfl|rfl
  ·exact wpAny_pyIter_striter_ascii st h
  ·exact wpAny_pyIter_striter_wide st h
def Bp (I:Inv X pins σ H s)(q:R (SK x) H):Ι (Κ X.prog X.w) X.A (pyIter (.str x t)) (OX X pins σ tg R) X.xe s:=by
 have fin:∀ty,(ty = "str_ascii_iterator"∨ty = "str_iterator")->(∀A':Η,A'.handled=Ξ->Walks X.prog X.w A' s.heap.objs.size [s.heap.objs.size] [s.heap.objs.size] x.cps.size (SignAt x) (λi h=>h.IsStrIter s.heap.objs.size ty x t i))->
   OX X pins σ tg R (.ref s.heap.objs.size) {s with heap:=s.heap.push {cls:=.type ty,data:=.fields #[.str x t,.int 0 0]}}:=λty OZ W=>by
  refine⟨s.heap.objs.size,[s.heap.objs.size],_,_,H,rfl,I.kept (t':=s.toks) λb o e=>r_ _ e,vC OZ W,⟨Y_ _,_,D_ _ rfl,rfl,rfl⟩,λb hb=>?_,q⟩;have e:b=s.heap.objs.size:=by simpa using hb
  subst e;exact I.KO (n_ _) (I.G3.fresh (n_ _))
 cases ha:x.cps.all (· < 128)
 ·exact wpAny_pyIter_wide ha (fin _ (.inr rfl) λA' hA=>Walks.strWide hA _ x t)
 ·exact wpAny_pyIter_ascii ha (fin _ (.inl rfl) λA' hA=>Walks.strAscii hA _ x t)
end L2
namespace PySem
open Sem (wp)
end PySem
namespace L2
open PySem PySem.Spec PyProof.Rows PySem.SeqAt
def iQ.at {o:HO}(x:iQ P w H h a o):∃ob,h.get? a=Γ ob:=by
 cases o with
 |lst xs=>obtain⟨_,_,_,_,e⟩:=x;exact⟨_,e⟩
 |tup xs=>obtain⟨_,_,_,ob,e,_⟩:=x;exact⟨_,e⟩
 |dK kvs=>obtain⟨_,_,_,_,o,_,_,e,_⟩:=x;exact⟨_,e⟩
 |dT kvs=>obtain⟨_,_,_,_,o,_,_,e,_⟩:=x;exact⟨_,e⟩
 |set S n=>obtain⟨o,_,_,_,e,_⟩:=x;exact⟨_,e⟩
 |ins C dx fs=>obtain⟨_,_,_,e,_⟩:=x;exact⟨_,e⟩
 |own y=>exact x
 |xd fs=>obtain⟨_,⟨_,_,_,e,_⟩,_⟩:=x;exact⟨_,e⟩
 |Ln lo hi=>obtain⟨_,_,_,e⟩:=x;exact⟨_,e⟩
 |Gy ob u=>exact⟨_,x.1⟩
 |MV ps=>exact⟨_,x⟩
 |met f y=>exact⟨_,x⟩
 |ext φ=>exact x.2.1
abbrev indep:HO->Bool
 |.lst _=>Δ
 |.tup _=>Δ
 |.ext _=>Δ
 |.dK _=>Δ
 |.ins _ _ _=>Δ
 |_=>Θ
def lV (i:indep u=Δ)(x:iQ P w H h a u)(ho:∀C dx fs,u=.ins C dx fs->H dx=Γ (.own a)->H' dx=Γ (.own a)):iQ P w H' h a u:=by
 cases u with
 |ins C dx fs=>exact⟨ho C dx fs rfl x.1,x.2⟩
 |lst _=>exact x
 |tup _=>exact x
 |ext _=>exact x
 |dK _=>exact x
 |_=>cases i
abbrev M9 (b:Ψ):Option HO->Bool
 |some (.ins _ d _)=>d == b
 |some (.Gy _ (.ins _ d _))=>d == b
 |_=>Θ
abbrev iA (h:Heap)(H:Hp):Hp:=λb=>match H b with
 |some (.lst xs)=>(h.get? b).map λo=>.Gy o (.lst xs)
 |some (.dK kvs)=>(h.get? b).map λo=>.Gy o (.dK kvs)
 |some (.ins C dx fs)=>(h.get? b).map λo=>.Gy o (.ins C dx fs)
 |some (.own x)=>if M9 b (H x)=Δ then Γ (.own x) else Ξ
 |some (.tup xs)=>Γ (.tup xs)
 |some (.Gy o u)=>if indep u=Δ then Γ (.Gy o u) else Ξ
 |_=>Ξ
abbrev kO (H H':Hp):Hp:=λb=>match H b with
 |some o=>Γ o
 |none=>H' b
def VW (H:Hp):Prop:=∀b o,H b=Γ o->(∃ob u,o=.Gy ob u)∨(∃xs,o=.tup xs)∨∃x ob C fs,o=.own x/\H x=Γ (.Gy ob (.ins C b fs))
def vD {P:Β}{w:Α}{h:Heap}{H:Hp}(x:Hv P w H h):VW (iA h H):=λb o e=>by
 unfold iA at e;split at e
 ·obtain⟨ob,_,rfl⟩:=M_.mp e;exact .inl ⟨_,_,rfl⟩
 ·obtain⟨ob,_,rfl⟩:=M_.mp e;exact .inl ⟨_,_,rfl⟩
 ·obtain⟨ob,_,rfl⟩:=M_.mp e;exact .inl ⟨_,_,rfl⟩
 ·rename_i x' q
  split at e
  ·rename_i i
   cases e;refine .inr (.inr ?_);cases q2:H x' with
   |none=>rw[q2]at i;cases i
   |some o2=>
    rw[q2]at i;cases o2 with
    |ins C d fs=>
     obtain⟨ob,he⟩:=(x x' _ q2).at
     have z:d=b:=f_ i;subst z;exact⟨x',ob,C,fs,rfl,by unfold iA;rw[q2];show(h.get? x').map _=_;rw[he];rfl⟩
    |Gy ob u2=>
     cases u2 with
     |ins C d fs=>have z:d=b:=f_ i;subst z;exact⟨x',ob,C,fs,rfl,by unfold iA;rw[q2];rfl⟩
     |_=>cases i
    |_=>cases i
  ·cases e
 ·cases e;exact .inr (.inl ⟨_,rfl⟩)
 ·split at e
  ·cases e;exact .inl ⟨_,_,rfl⟩
  ·cases e
 ·cases e
structure J6 (h:Heap)(H H':Hp):Prop where
 HW:∀b o u,iA h H b=Γ (.Gy o u)->H' b=Γ (.Gy o u)
 IL:∀b xs,iA h H b=Γ (.tup xs)->H' b=Γ (.tup xs)
 SM:∀b x,iA h H b=Γ (.own x)->H' b=Γ (.own x)
 free:∀b o,h.get? b=Γ o->H b≠Ξ->iA h H b=Ξ->H' b=Ξ
inductive Bk (h:Heap)(H H':Hp)(b:Ψ):HO->Prop where
 | lst {xs:Ë}{ob:Obj}:h.get? b=Γ ob->H' b=Γ (.Gy ob (.lst xs))->Bk h H H' b (.lst xs)
 | dK {xs:List (Key×V)}{ob:Obj}:h.get? b=Γ ob->H' b=Γ (.Gy ob (.dK xs))->Bk h H H' b (.dK xs)
 | ins {C dx:Ψ}{fs:List (Str×V)}{ob:Obj}:h.get? b=Γ ob->H' b=Γ (.Gy ob (.ins C dx fs))->Bk h H H' b (.ins C dx fs)
 | own {x:Ψ}:H' b=Γ (.own x)->Bk h H H' b (.own x)
 | tup {xs:Ë}:H' b=Γ (.tup xs)->Bk h H H' b (.tup xs)
 | Gy {o:Obj}{u:HO}:indep u=Δ->H' b=Γ (.Gy o u)->Bk h H H' b (.Gy o u)
 | Lv {o:HO}{ob:Obj}:h.get? b=Γ ob->iA h H b=Ξ->H' b=Ξ->(∀xs,o≠.lst xs)->(∀xs,o≠.tup xs)->(∀xs,o≠.dK xs)/\(∀C dx fs,o≠.ins C dx fs)->Bk h H H' b o
section
variable {P:Β}{w:Α}{H H':Hp}{h g:Heap}
def oX (x:Hv P w H h)(p:J6 h H H')  {o:HO}(e:H b=Γ o):Bk h H H' b o:=by
 obtain⟨ob,he⟩:=(x b o e).at
 have hc:iA h H b=(match(Γ o:Option HO) with
  |some (.lst xs)=>(h.get? b).map λo=>.Gy o (.lst xs)
  |some (.dK kvs)=>(h.get? b).map λo=>.Gy o (.dK kvs)
  |some (.ins C dx fs)=>(h.get? b).map λo=>.Gy o (.ins C dx fs)
  |some (.own x)=>if M9 b (H x)=Δ then Γ (.own x) else Ξ
  |some (.tup xs)=>Γ (.tup xs)
  |some (.Gy o u)=>if indep u=Δ then Γ (.Gy o u) else Ξ
  |_=>Ξ):=by unfold iA;rw[e]
 cases o with
 |lst xs=>have hc:iA h H b=(h.get? b).map λo=>.Gy o (.lst xs):=hc;rw[he]at hc;exact .lst he (p.HW _ _ _ hc)
 |dK xs=>have hc:iA h H b=(h.get? b).map λo=>.Gy o (.dK xs):=hc;rw[he]at hc;exact .dK he (p.HW _ _ _ hc)
 |ins C dx fs=>have hc:iA h H b=(h.get? b).map λo=>.Gy o (.ins C dx fs):=hc;rw[he]at hc;exact .ins he (p.HW _ _ _ hc)
 |own x=>
  have hc:iA h H b=if M9 b (H x)=Δ then Γ (.own x) else Ξ:=hc
  by_cases i:M9 b (H x)=Δ
  ·rw[d_ i]at hc;exact .own (p.SM _ _ hc)
  ·rw[b_ i]at hc;exact .Lv he hc (p.free _ _ he (by rw[e];simp) hc) (λ_ z=>by cases z) (λ_ z=>by cases z) ⟨λ_ z=>(nomatch z),λ_ _ _ z=>(nomatch z)⟩
 |tup xs=>exact .tup (p.IL _ _ hc)
 |Gy o' u=>
  have hc:iA h H b=if indep u=Δ then Γ (.Gy o' u) else Ξ:=hc
  by_cases i:indep u=Δ
  ·rw[d_ i]at hc;exact .Gy i (p.HW _ _ _ hc)
  ·rw[b_ i]at hc;exact .Lv he hc (p.free _ _ he (by rw[e];simp) hc) (λ_ z=>by cases z) (λ_ z=>by cases z) ⟨λ_ z=>(nomatch z),λ_ _ _ z=>(nomatch z)⟩
 |_=>exact .Lv he hc (p.free _ _ he (by rw[e];simp) hc) (λ_ z=>by cases z) (λ_ z=>by cases z) ⟨λ_ z=>(nomatch z),λ_ _ _ z=>(nomatch z)⟩
def tw {b x:Ψ}(e:H b=Γ (.own x))(l:M9 b (H x)=Δ):iA h H b=Γ (.own x):=by unfold iA;rw[e];exact d_ l
def rR (x:Hv P w H h):Hv P w (iA h H) h:=λb o e=>by
 cases q:H b with
 |none=>unfold iA at e;rw[q]at e;cases e
 |some u=>
  have y:=x b u q;unfold iA at e;rw[q]at e;cases u with
  |lst xs=>
   obtain⟨ob,he⟩:=y.at
   have e:(h.get? b).map (λo=>HO.Gy o (.lst xs))=Γ o:=e;rw[he]at e;cases e;exact⟨he,y⟩
  |dK xs=>
   obtain⟨ob,he⟩:=y.at
   have e:(h.get? b).map (λo=>HO.Gy o (.dK xs))=Γ o:=e;rw[he]at e;cases e;exact⟨he,y⟩
  |ins C dx fs=>
   obtain⟨ob,he⟩:=y.at
   have e:(h.get? b).map (λo=>HO.Gy o (.ins C dx fs))=Γ o:=e;rw[he]at e;cases e;exact⟨he,tw y.1 (by rw[q];exact beq_self_eq_true dx),y.2⟩
  |own x=>
   have e:(if M9 b (H x)=Δ then Γ (HO.own x) else Ξ)=Γ o:=e;by_cases i:M9 b (H x)=Δ
   ·rw[d_ i]at e;cases e;exact y
   ·rw[b_ i]at e;cases e
  |tup xs=>cases e;exact y
  |Gy o' u=>
   have e:(if indep u=Δ then Γ (HO.Gy o' u) else Ξ)=Γ o:=e;by_cases i:indep u=Δ
   ·rw[d_ i]at e;cases e;exact⟨y.1,lV i y.2 λC dx fs z h=>tw h (by rw[q,z];exact beq_self_eq_true dx)⟩
   ·rw[b_ i]at e;cases e
  |_=>cases e
def jb (e:H a=Ξ):iA h H a=Ξ:=by unfold iA;rw[e]
def res_some {o:HO}(e:H b=Γ o):kO H H' b=Γ o:=by unfold kO;rw[e]
def res_none (e:H b=Ξ):kO H H' b=H' b:=by unfold kO;rw[e]
def vE:ip H (kO H H'):=λb o e=>res_some e
def rS (x:Hv P w H h)(y:Hv P w H' g)(p:J6 h H H'){fs:È}(keep:∀b o,H b≠Ξ->h.get? b=Γ o->iA h H b=Ξ->b∉fs->g.get? b=Γ o)(fr:∀b∈fs,H b=Ξ):Hv P w (kO H H') g:=by
 have tp:∀c xs,H' c=Γ (.tup xs)->kO H H' c=Γ (.tup xs):=λc xs e=>by
  cases q:H c with
  |none=>rw[res_none q];exact e
  |some o=>
   rw[res_some q];cases oX x p q with
   |lst _ z=>rw[z]at e;cases e
   |dK _ z=>rw[z]at e;cases e
   |ins _ z=>rw[z]at e;cases e
   |own z=>rw[z]at e;cases e
   |tup z=>rw[z]at e;exact e
   |Gy _ z=>rw[z]at e;cases e
   |Lv _ _ z _ _ _=>rw[z]at e;cases e
 intro b o e;cases q:H b with
 |some o'=>
  rw[res_some q]at e;cases e;cases oX x p q with
  |lst h1 z=>have h2:=(y b _ z).1;obtain⟨a1,its,n,a2,a3⟩:=x b _ q;rw[h1]at a3;exact⟨a1,its,n,a2,by rw[h2,<- a3]⟩
  |dK h1 z=>exact lV rfl (y b _ z).2 λ_ _ _ z=>by cases z
  |ins h1 z=>exact⟨res_some (x b _ q).1,(y b _ z).2.2⟩
  |own z=>exact y b _ z
  |tup z=>exact y b _ z
  | @Gy o' u' i z=>exact⟨(y b _ z).1,lV i (y b _ z).2 λC dx fs z' _=>by subst z';exact res_some (x b _ q).2.1⟩
  |Lv h1 h2 z n1 n2 n3=>
   refine(x b _ q).IK (λc u hc hu=>?_) (λc hc=>res_some hc) λc xs hc=>res_some hc;rcases hc with rfl|hc
   ·exact keep _ _ (by rw[q];simp) hu h2 λz=>by rw[fr _ z]at q;cases q
   ·refine keep _ _ (by rw[hc];simp) hu ?_ λz=>by rw[fr _ z]at hc;cases hc
    unfold iA;rw[hc];refine b_ λz=>?_;rw[q]at z;cases o with
    |ins C dx fs=>exact n3.2 _ _ _ rfl
    |Gy ob u=>
     cases u with
     |ins C dx fs=>
      have:iA h H b=Γ (.Gy ob (.ins C dx fs)):=by unfold iA;rw[q];rfl
      rw[this]at h2;cases h2
     |_=>cases z
    |_=>cases z
 |none=>
  rw[res_none q]at e;refine(y b o e).IK (λ_ _ _ z=>z) (λc hc=>?_) tp;cases q':H c with
  |none=>rw[res_none q'];exact hc
  |some o'=>
   cases oX x p q' with
   |lst _ z=>rw[z]at hc;cases hc
   |dK _ z=>rw[z]at hc;cases hc
   |ins _ z=>rw[z]at hc;cases hc
   |own z=>rw[z]at hc;cases hc;rw[res_some q']
   |tup z=>rw[z]at hc;cases hc
   |Gy _ z=>rw[z]at hc;cases hc
   |Lv _ _ z _ _ _=>rw[z]at hc;cases hc
def m7 {fs:È}  (x:Hv P w H h)(y:Hv P w H' g')(u:Un fs [] (iA h H) H' h g):J6 h H H':=⟨u.HW,u.IL,λb x' e=>by
 cases q:H b with
 |none=>rw[jb q]at e;cases e
 |some o=>
  unfold iA at e;rw[q]at e;cases o with
  |own x2=>
   have e:(if M9 b (H x2)=Δ then Γ (HO.own x2) else Ξ)=Γ (HO.own x'):=e;by_cases i:M9 b (H x2)=Δ
   ·rw[d_ i]at e;cases e;cases q2:H x' with
    |none=>rw[q2]at i;cases i
    |some o2=>
     rw[q2]at i;have key:∀ob C d fs,iA h H x'=Γ (.Gy ob (.ins C d fs))->(d == b)=Δ->H' b=Γ (.own x'):=λob C d fs z e=>by
      have:=(y x' _ (u.HW _ _ _ z)).2.1
      rwa [f_ e]at this
     cases o2 with
     |ins C d fs=>
      obtain⟨ob,he⟩:=(x x' _ q2).at
      exact key ob C d fs (by unfold iA;rw[q2];show(h.get? x').map _=_;rw[he];rfl) i
     |Gy ob u2=>
      cases u2 with
      |ins C d fs=>exact key ob C d fs (by unfold iA;rw[q2];rfl) i
      |_=>cases i
     |_=>cases i
   ·rw[b_ i]at e;cases e
  |lst xs=>obtain⟨_,_,z⟩:=M_.mp e;cases z
  |dK xs=>obtain⟨_,_,z⟩:=M_.mp e;cases z
  |ins C d fs=>obtain⟨_,_,z⟩:=M_.mp e;cases z
  |Gy o2 u2=>have e:(if indep u2=Δ then Γ (HO.Gy o2 u2) else Ξ)=Γ (HO.own x'):=e;split at e<;>cases e
  |_=>(cases e),λb o e n z=>u.free b o e z (by simp)⟩
def vF {fs:È}(x:Hv P w H h)(u:Un fs [] (iA h H) H' h g):Un fs [] H (kO H H') h g where
 keep:=λb o e n f i=>u.keep b o e (jb n) f i
 slot:=λb o e n f i=>u.slot b o e (jb n) f i
 free:=λb o e n i=>by rw[res_none n];exact u.free b o e (jb n) i
 there:=u.there
 IL:=λb xs e=>res_some e
 HW:=λb o v e=>res_some e
 JC:=λb ps e=>⟨#[],by rw[res_some e];simp⟩
end
def vG {H:Hp}{h:Heap}:Cl H (iA h H):=by
 refine⟨λb o e=>?_,λb xs e=>?_⟩
 ·unfold iA;rw[e];rfl
 ·rcases e with e|⟨o,e⟩
  ·exact .inl (by unfold iA;rw[e])
  ·exact .inr ⟨o,by unfold iA;rw[e];rfl⟩
def Bq {P:Β}{w:Α}{H H':Hp}{h:Heap}(x:Hv P w H h)(p:J6 h H H'):Cl H' (kO H H'):=by
 refine⟨λb o e=>?_,λb xs e=>?_⟩
 ·cases q:H b with
  |none=>rw[res_none q];exact e
  |some u=>
   rw[res_some q];have k:=oX x p q;cases k with
   |lst h1 h2=>rw[e]at h2;cases h2
   |dK h1 h2=>rw[e]at h2;cases h2
   |ins h1 h2=>rw[e]at h2;cases h2
   |own h2=>rw[e]at h2;cases h2
   |tup h2=>rw[e]at h2;cases h2
   |Gy h1 h2=>rw[e]at h2;cases h2;rfl
   |Lv h1 h2 h3=>rw[e]at h3;cases h3
 ·cases q:H b with
  |none=>unfold Rd;rw[res_none q];exact e
  |some u=>
   unfold Rd;rw[res_some q];have k:=oX x p q;cases k with
   |lst h1 h2=>rcases e with e|⟨o,e⟩<;>(rw[e]at h2;cases h2)
   |dK h1 h2=>rcases e with e|⟨o,e⟩<;>(rw[e]at h2;cases h2)
   |ins h1 h2=>rcases e with e|⟨o,e⟩<;>(rw[e]at h2;cases h2)
   |own h2=>rcases e with e|⟨o,e⟩<;>(rw[e]at h2;cases h2)
   |tup h2=>rcases e with e|⟨o,e⟩<;>(rw[e]at h2;cases h2);exact .inl rfl
   |Gy h1 h2=>rcases e with e|⟨o,e⟩<;>(rw[e]at h2;cases h2);exact .inr ⟨_,rfl⟩
   |Lv h1 h2 h3=>rcases e with e|⟨o,e⟩<;>(rw[e]at h3;cases h3)
abbrev iD:Â:=["len","sum","min","max","sorted","list","tuple","ord","int","all","any","str","set","abs","isinstance","range","bool","zip","reversed","dict","enumerate"]
abbrev oY:Bi->Nat
 |.len=>0|.min2=>2|.max2=>3|.list=>5|.tuple=>6|.all=>9|.any=>10
abbrev tx:Kd->Nat
 |.str=>11|.int=>8|.bool=>16|.list=>5|.tuple=>6
def vH (f:Bi):iD[oY f]? = Γ (ku f):=by cases f<;>rfl
def Br (f:Kd):iD[tx f]? = Γ (lE f):=by cases f<;>rfl
mutual
noncomputable def uu:D->D->Bool
 |.Gx,.Gx=>Δ
 |.bl a,.bl b=>a == b
 |.int a,.int b=>a == b
 |.str a,.str b=>a == b
 |.tup a,.tup b=>nU a b
 |.lst o a,.lst o' b=>o == o'&&nU a b
 |_,_=>Θ
noncomputable def nU:Ê->Ê->Bool
 |[],[]=>Δ
 |a::r,b::s=>uu a b&&nU r s
 |_,_=>Θ
end
mutual
theorem tB:∀ {a b:D},uu a b=Δ->a=b
 |.Gx,b,h=>by cases b<;>first|rfl|cases h
 |.bl a,b,h=>by cases b<;>first|(rw[f_ (show(a == _)=Δ from h)])|cases h
 |.int a,b,h=>by cases b<;>first|(rw[f_ (show(a == _)=Δ from h)])|cases h
 |.str a,b,h=>by cases b<;>first|(rw[f_ (show(a == _)=Δ from h)])|cases h
 |.tup a,b,h=>by
  induction b using zD with
  |tup b=>rw[nV (show nU a b=Δ from h)]
  |_=>cases h
 |.lst o a,b,h=>by
  induction b using zD with
  |lst o' b=>have h':(o == o'&&nU a b)=Δ:=h;rw[a_]at h';rw[f_ h'.1,nV h'.2]
  |_=>cases h
theorem nV:∀ {a b:Ê},nU a b=Δ->a=b
 |[],b,h=>by cases b<;>first|rfl|cases h
 |a::r,b,h=>by
  induction b using zL with
  |nil=>cases h
  |cons b s=>have h':(uu a b&&nU r s)=Δ:=h;rw[a_]at h';rw[tB h'.1,nV h'.2]
end
structure Sg where
 nm:Â
 O5:List (Nat×D)
 fns:Ã
 cls:Ã:=[]
 xt:List (Str×Nat×Bool):=[]
 pl:Ã:=[]
 rc:List (Nat×Str×Str):=[]
 xm:List (Str×Nat):=[]
 Im:List (Nat×Str×Str):=[]
 JM:List (Nat×Nat):=[]
 JN:List (Nat×Str×Str):=[]
 Ox:List (Nat×Str×Str):=[]
 Jv:List (Nat×Str×Nat):=[]
 HE:Â:=[]
 JF:Â:=[]
abbrev Sg.name (Z:Sg)(n:Nat):Option Str:=(iD++Z.nm)[n]?
abbrev Gm.Jj (G:Gm)(n:Nat):Bool:=G.cm&&G.gl.contains n
def lF {G:Gm}  (h:G.Jj n=Δ):G.gl.contains n=Δ:=by unfold Gm.Jj at h;rw[a_]at h;exact h.2
def lG {G:Gm}  (h:G.Jj n=Δ):G.cm=Δ:=by unfold Gm.Jj at h;rw[a_]at h;exact h.1
abbrev Sg.LY (Z:Sg)(G:Gm)(f:Nat):Bool:=Z.fns.contains f&&(G.cm||Z.pl.contains f)
def mI {Z:Sg}{G:Gm}  (h:Z.LY G f=Δ):f∈Z.fns/\(G.cm=Δ∨f∈Z.pl):=by unfold Sg.LY at h;rw[a_,L_]at h;exact⟨by simpa using h.1,h.2.elim .inl λz=>.inr (by simpa using z)⟩
abbrev rT:Mt->Bool
 |.join=>Δ
 |_=>Θ
abbrev notStar:Expr->Bool
 |.Starred ..=>Θ
 |_=>Δ
abbrev iU:Expr->Bool
 |.Slice ..=>Θ
 |_=>Δ
abbrev nW:Expr->Bool
 |.Call _ [] [] _=>Θ
 |_=>Δ
abbrev i4 (G:Gm)(i:Nat)(x:Str):Bool:=G.N[i]? == Γ x&&(G.kd[i]? == Γ .local||G.kd[i]? == Γ .cell||G.kd[i]? == Γ .free)
abbrev jQ (Z:Sg)(G:Gm)(n:Nat)(x:Str):Bool:=Z.name n == Γ x&&G.gl.contains n
abbrev Du:D->Const->Bool
 |.int i,.int j=>i == j
 |.str x,.str y=>x == y
 |.bl a,.bool b=>a == b
 |.Gx,.none=>Δ
 |_,_=>Θ
mutual
noncomputable def i8 (G:Gm):Tg->Expr->Bool
 |.nm i,.Name x _=>(G.N[i]? == Γ x&&(G.kd[i]? == Γ .local||(G.df&&G.kd[i]? == Γ .cell)))&&!pinned G.pn i
 |.tp ts,.Tuple es _ _=>G.cm&&kW G ts es
 |_,_=>Θ
noncomputable def kW (G:Gm):List Tg->Ü->Bool
 |[],[]=>Δ
 |t::ts,e::es=>notStar e&&i8 G t e&&kW G ts es
 |_,_=>Θ
end
mutual
noncomputable def Jw:Tg->Ã
 |.nm i=>[i]
 |.tp ts=>qG ts
noncomputable def qG:List Tg->Ã
 |[]=>[]
 |t::ts=>Jw t++qG ts
end
abbrev jx (Z : Sg)(G : Gm)(scope : Scope)(G' : Gm)(fr : Ã) : Bool :=
  (G.cm&&scope.kind == .function)&&!G'.tr&&!G'.df&&G'.kd.length == G'.N.length
 &&scope.names.all (λy =>y.2 != .cell)&&scope.names.all (λy =>y.2 != .local||scope.names.lookup y.1 == Γ .local)
 &&scope.names.all (λy =>y.2 != .free||(List.range G.N.length).any λi =>G.N[i]? == Γ y.1&&(G.kd[i]? == Γ .cell||G.kd[i]? == Γ .free))
 &&(List.range fr.length).all (λj =>G'.N[j]? == (fr[j]?).bind (G.N[·]?)&&((G'.N[j]?).bind (scope.names.lookup ·) == Γ .free)&&((fr[j]?).bind (G.kd[·]?) == Γ .cell||(fr[j]?).bind (G.kd[·]?) == Γ .free)
     &&(G'.kd[j]? == Γ (if((fr[j]?).bind (G.kd[·]?) == Γ .cell) then .cell else .free)))
 &&decide (fr.length <= G'.N.length)
 &&((List.range G'.N.length).drop fr.length).all (λj =>(G'.N[j]?).bind (scope.names.lookup ·) == Γ .local&&G'.kd[j]? == Γ .local)
 &&G'.N.all (λx =>!(x == "__debug__")&&!(x == "__classdict__"))
 &&decide (G'.N.Nodup)
 &&G'.gl.all (λn =>match Z.name n with|some x =>scope.names.lookup x == Γ .globalImplicit|none =>Θ)
def dH {P:Prop}(h:Θ=Δ):P:=by cases h
abbrev uv:List Comprehension->(Expr->Expr->Ü->Bool)->Bool
 |[⟨t,it,fs,0⟩],k=>k t it fs
 |_,_=>Θ
local macro_rules | `(tactic| exists $h) =>`(tactic| first | exact L2.dH $h | cases($h))
def pH (h:uv gens k=Δ):∃t it fs,gens=[⟨t,it,fs,0⟩]/\k t it fs=Δ:=by
 unfold uv at h;split at h
 ·exact⟨_,_,_,rfl,h⟩
 ·cases h
abbrev HN (k:Str->Bool):Expr->Bool
 |.Name z _=>k z
 |_=>Θ
def iN (h:HN k e=Δ):∃z p,e=.Name z p/\k z=Δ:=by
 induction e using zE with
 |Name z p=>exact⟨z,p,rfl,h⟩
 |_=>exact dH h
abbrev Jk {α:Type}:List α->(α->Bool)->Bool
 |a::r,k=>r.isEmpty&&k a
 |[],_=>Θ
def jG (h:Jk l k=Δ):∃a,l=[a]/\k a=Δ:=by
 induction l using zL with
 |nil=>exact dH h
 |cons a r=>
  induction r using zL with
  |nil=>exact⟨a,rfl,h⟩
  |cons b r=>exact dH h
abbrev IG:Expr->(Expr->Ü->Pos->Bool)->Bool
 |.Call f as ks p,k=>ks.isEmpty&&k f as p
 |_,_=>Θ
def jc (h:IG e k=Δ):∃f as p,e=.Call f as [] p/\k f as p=Δ:=by
 induction e using zE with
 |Call f as ks p=>
  induction ks using zL with
  |nil=>exact⟨f,as,p,rfl,h⟩
  |cons b r=>exact dH h
 |_=>exact dH h
abbrev rV:Expr->Bool
 |.Tuple _ _ _=>Δ
 |_=>Θ
abbrev mY:Sr->Expr->Bool
 |.J4 _,t=>rV t
 |_,_=>Δ
abbrev Q5:Expr->Bool
 |.Dict ks vs _=>ks.isEmpty&&vs.isEmpty
 |_=>Θ
def vI {e:Expr}(h:Q5 e=Δ):∃p,e=.Dict [] [] p:=by
 induction e using zE with
 |Dict ks vs p=>
  have h':=aab.mp (show(ks.isEmpty&&vs.isEmpty)=Δ from h)
  induction ks using zL with
  |cons _ _=>exact dH h'.1
  |nil=>
   induction vs using zL with
   |cons _ _=>exact dH h'.2
   |nil=>exact⟨p,rfl⟩
 |_=>exact dH h
abbrev Q6:Expr->(Expr->Expr->Bool)->Bool
 |.Subscript o s _,k=>k o s
 |_,_=>Θ
def Bt {e:Expr}{k:Expr->Expr->Bool}(h:Q6 e k=Δ):∃o s p,e=.Subscript o s p/\k o s=Δ:=by
 unfold Q6 at h;split at h
 ·exact⟨_,_,_,rfl,h⟩
 ·cases h
abbrev O6 (e:Expr)(k:Str->Str->Expr->Bool):Bool:=IG e λf as _=>HN (λx=>Jk as λa=>IG a λg bs _=>HN (λy=>Jk bs λb=>k x y b) g) f
def rW (h:O6 e k=Δ):∃x p y p' e' q' q,e=.Call (.Name x p) [.Call (.Name y p') [e'] [] q'] [] q/\k x y e'=Δ:=by obtain⟨f,as,q,rfl,h1⟩:=jc h;obtain⟨x,p,rfl,h2⟩:=iN h1;obtain⟨a,rfl,h3⟩:=jG h2;obtain⟨g,bs,q',rfl,h4⟩:=jc h3;obtain⟨y,p',rfl,h5⟩:=iN h4;obtain⟨b,rfl,h6⟩:=jG h5;exact⟨_,_,_,_,_,_,_,rfl,h6⟩
abbrev Oy:Ü->(Expr->Expr->Bool)->Bool
 |a::r,k=>Jk r (k a)
 |[],_=>Θ
def rX (h:Oy l k=Δ):∃a b,l=[a,b]/\k a b=Δ:=by
 induction l using zL with
 |nil=>exact dH h
 |cons a r=>obtain⟨b,rfl,h⟩:=jG (show Jk r (k a)=Δ from h);exact⟨a,b,rfl,h⟩
abbrev pI:Expr->Bool
 |.Name _ _=>Δ
 |.Attribute _ _ _=>Δ
 |_=>Θ
abbrev JO:Expr->(Expr->Str->Pos->Bool)->Bool
 |.Attribute o x p,k=>k o x p
 |_,_=>Θ
def kb {e:Expr}{k:Expr->Str->Pos->Bool}(h:JO e k=Δ):∃o x p,e=.Attribute o x p/\k o x p=Δ:=by
 induction e using zE with
 |Attribute o x p=>exact⟨o,x,p,rfl,h⟩
 |_=>exact dH h
abbrev Q7:Expr->(Ü->Bool)->Bool
 |.List es _,k=>k es
 |_,_=>Θ
def vJ {e:Expr}{k:Ü->Bool}(h:Q7 e k=Δ):∃es p,e=.List es p/\k es=Δ:=by
 induction e using zE with
 |List es p=>exact⟨es,p,rfl,h⟩
 |_=>exact dH h
abbrev Q8:Expr->(Expr->Str->Bool)->Bool
 |.Attribute o y _,k=>k o y
 |_,_=>Θ
def Bu {e:Expr}{k:Expr->Str->Bool}(h:Q8 e k=Δ):∃o y p,e=.Attribute o y p/\k o y=Δ:=by
 unfold Q8 at h;split at h
 ·exact⟨_,_,_,rfl,h⟩
 ·cases h
abbrev SN (k:Ü->Bool):Expr->Bool
 |.Tuple es _ _=>k es
 |_=>Θ
def Bv {k:Ü->Bool}{e:Expr}(h:SN k e=Δ):∃es n p,e=.Tuple es n p/\k es=Δ:=by
 induction e using zE with
 |Tuple es n p=>exact⟨es,n,p,rfl,h⟩
 |_=>exact dH h
mutual
noncomputable def Gw (Z:Sg)(G:Gm):IR->Expr->Bool
 |.c d,.Constant k _ _=>Du d k
 |.g n d,.Name x _=>jQ Z G n x&&Z.O5.any λp=>p.1 == n&&uu p.2 d
 |.v i,.Name x _=>i4 G i x
 |.bin op a b,.BinOp l o r _=>o == M8 op&&Gw Z G a l&&Gw Z G b r
 |.cmp op a b,.Compare l [o] [r] _=>o == J5 op&&Gw Z G a l&&Gw Z G b r&&!behindInMarks o r
 |.chain op Ih a b c,.Compare l [o,o'] [m,r] _=>o == J5 op&&o' == J5 Ih&&Gw Z G a l&&Gw Z G b m&&Gw Z G c r&&!lastMarks [o,o'] [m,r]
 |.Ie a b,.BoolOp .And [e,e'] _=>Gw Z G a e&&Gw Z G b e'
 |.Ie a b,.BoolOp .And (e::e'::SO::rest) p=>Gw Z G a e&&Gw Z G b (.BoolOp .And (e'::SO::rest) p)
 |.Kf a b,.BoolOp .Or [e,e'] _=>Gw Z G a e&&Gw Z G b e'
 |.Kf a b,.BoolOp .Or (e::e'::SO::rest) p=>Gw Z G a e&&Gw Z G b (.BoolOp .Or (e'::SO::rest) p)
 |.HI a,.UnaryOp .Not e _=>Gw Z G a e
 |.tup es,.Tuple l _ _=>iz Z G es l
 |.lst es,.List l _=>iz Z G es l
 |.ite t a b,.IfExp c x y _=>Gw Z G t c&&Gw Z G a x&&Gw Z G b y
 |.IT a,e=>O6 e λx y e=>x == "list"&&G.Jj 5&&y == "reversed"&&G.gl.contains 18&&notStar e&&Gw Z G a e
 |.neg a,.UnaryOp .USub e _=>Gw Z G a e
 |.sl a lo hi,.Subscript e (.Slice l h Ξ _) _=>Gw Z G a e&&rY Z G lo l&&rY Z G hi h
 |.idx a i,.Subscript e s _=>iU s&&Gw Z G a e&&Gw Z G i s
 |.call f es,.Call (.Name x _) args [] _=>jQ Z G f x&&Z.LY G f&&iz Z G es args
 |.bi f es,.Call (.Name x _) (a::args) [] _=>x == ku f&&G.Jj (oY f)&&iz Z G es (a::args)
 |.J3 a k,.Call (.Name x _) [e,.Name y _] [] _=>x == "isinstance"&&G.gl.contains 14&&y == lE k&&G.gl.contains (tx k)&&notStar e&&Gw Z G a e
 |.Ks a,e=>IG e λf as _=>HN (λx=>x == "isinstance"&&G.gl.contains 14&&G.gl.contains 5&&G.gl.contains 6) f&&Oy as λe t=>notStar e&&Gw Z G a e&&SN (λts=>Oy ts λu v=>HN (λx=>x == "list") u&&HN (λx=>x == "tuple") v) t
 |.Ja es,e=>IG e λf as _=>HN (λx=>x == "list"&&G.Jj 5&&G.gl.contains 15) f&&Jk as λr=>IG r λg bs _=>HN (λy=>y == "range") g&&iz Z G es bs
 |.JE,e=>Q5 e
 |.J2 a k,e=>Q6 e λo s=>iU s&&Gw Z G a o&&Gw Z G k s
 |.IU a x cs,e=>Q8 e λo y=>y == x&&pI o&&Z.JF.contains x&&cs.all (λc=>Z.HE.contains c)&&Gw Z G a o
 |.HM f m c a es,e=>IG e λfe as p=>JO fe λo y ap=>y == m&&pI o&&ap.endLine == p.line&&decide (as.length < 29)&&Z.Ox.contains (f,c,m)&&(Z.HE.contains c&&G.cm)&&Gw Z G a o&&iz Z G es as
 |.Jv n f c es,e=>IG e λfe as _=>HN (λx=>jQ Z G n x&&Z.Jv.contains (n,c,f)&&(Z.HE.contains c&&G.cm)&&iz Z G es as) fe
 |.KR a,e=>IG e λfe as _=>HN (λx=>x == "dict"&&G.Jj 19) fe&&Jk as λe=>notStar e&&Gw Z G a e
 |.ID es,e=>Q7 e λl=>iz Z G es l
 |.JY a,e=>O6 e λx y e=>x == "len"&&G.gl.contains 0&&y == "set"&&G.gl.contains 12&&(notStar e&&G.cm)&&Gw Z G a e
 |.Me m o es,.Call (.Attribute oe name apos) (a::args) [] G7=>name == nT m&&nW oe&&apos.endLine == G7.line&&(decide ((a::args).length < 29)&&(G.cm||rT m))&&Gw Z G o oe&&iz Z G es (a::args)
 |.comp G' fr tg src ifs elt,.ListComp e gens scope _=>uv gens λt it fs=>jx Z G scope G' fr&&i8 G' tg t&&(Jw tg).all (λi=>decide (fr.length<=i))&&(j5 Z G src it&&mY src t)&&iz Z G' ifs fs&&Gw Z G' elt e
 |_,_=>Θ
noncomputable def iz (Z:Sg)(G:Gm):Ç->Ü->Bool
 |[],[]=>Δ
 |a::es,e::l=>notStar e&&Gw Z G a e&&iz Z G es l
 |_,_=>Θ
noncomputable def rY (Z:Sg)(G:Gm):Option IR->Option Expr->Bool
 |none,Ξ=>Δ
 |some a,Γ e=>Gw Z G a e
 |_,_=>Θ
noncomputable def j5 (Z:Sg)(G:Gm):Sr->Expr->Bool
 |.IV a b,.Call (.Name x _) [e,e'] [] _=>x == "range"&&G.gl.contains 15&&notStar e&&notStar e'&&Gw Z G a e&&Gw Z G b e'
 |.Hj n,.Call (.Name x _) [e] [] _=>x == "range"&&G.gl.contains 15&&notStar e&&Gw Z G n e
 |.J4 a,.Call (.Name x _) [e] [] _=>x == "enumerate"&&G.gl.contains 20&&notStar e&&Gw Z G a e
 |.val a,e=>Gw Z G a e
 |_,_=>Θ
end
def JP (F:Ψ->Prop)(H:Hp):Prop:=∀a,F a->H a≠Ξ
structure Out (K:Frag)(F:Ψ->Prop)(H:Hp)(F':Ψ->Prop)(H':Hp)(v:V)(d:D)(fv:È):Prop where
 G9:JP F' H'
 same:ip H H'
 rep:Gu K F' H' v d fv
 He:fv.Nodup
 new:∀a∈fv,H a=Ξ
 HU:∀a,F a->F' a
 out:∀a,F' a->F a∨H a=Ξ
def M' (K:Frag)(cl:Ä)(xp:XK->Hp->EX->Prop)(f:Nat)(ps:Â):Sp:=λvs H Q E=>vs.length=ps.length/\VW H/\∃F ds,JP F H/\FZ K F H vs ds/\
 Gb (xp E H) (cl f (Gr ds)) λd=>∀v H' F' fv,Out K F H F' H' v d fv->Q v H'
structure VX (P:Β)(w:Α)(K:Frag)(mg:Str->Option Φ)(base:Heap)(CX:II)(A:Η)(cl:Ä)(xp:XK->Hp->EX->Prop)(f:Nat)(x:Str):Prop where
 ex:∃(k:Nat) (fa:Ψ) (fd:Ν) (ps:Â),mg x=Γ (.ref fa)/\PySem.W.keepIn K (.ref fa)=Δ/\Binds K fd ps []/\Ic P w K mg base CX k fa fd ps (M' K cl xp f ps)/\Hh k A/\
  ∀(ex:EX->Prop) ds (k:D->Prop),Gb ex (cl f ds) k->ds.length=ps.length
abbrev Iw (f0:È)(H:Hp):Hp:=λb=>if b∈f0 then Ξ else H b
structure P7 (K:Frag)(a:Ψ)(d0:D)(f0:È)(F:Ψ->Prop)(H:Hp)(ws:Ë)(ds:Ê):Prop where
 G9:JP F H
 He:f0.Nodup
 m0:Gu K F H (.ref a) d0 f0
 ws:FZ K F H ws ds
structure Na (K:Frag)(a:Ψ)(f0:È)(F:Ψ->Prop)(H:Hp)(F':Ψ->Prop)(H':Hp)(v:V)(d:D)(fv:È)(d1:D)(f1:È):Prop where
 out:Out K F (Iw f0 H) F' H' v d fv
 m1:Gu K F' H' (.ref a) d1 f1
 nd:(fv++f1).Nodup
 in1:∀b∈f1,Iw f0 H b=Ξ
def Nb (K:Frag)(cl:Ä)(f p:Nat)(ps:Â):Sp:=λvs H Q _=>vs.length=ps.length/\∃a d0 f0 F w1 e1 ws ds,vs=w1++.ref a::ws/\w1.length=p/\e1.length=p/\P7 K a d0 f0 F H (w1++ws) (e1++ds)/\
 ∃d d1,cl f (Gr e1++d0::Gr ds)=.ok (.tup [d,d1])/\∀v H' F' fv f1,Na K a f0 F H F' H' v d fv d1 f1->Q v H'
structure NB (P:Β)(w:Α)(K:Frag)(mg:Str->Option Φ)(base:Heap)(CX:II)(A:Η)(cl:Ä)(f p:Nat)(Pa:Ψ->Prop):Prop where
 ex:∃(k:Nat) (fa:Ψ) (fd:Ν) (ps:Â),Pa fa/\Binds K fd ps []/\Ic P w K mg base CX k fa fd ps (Nb K cl f p ps)/\Hh (k+1) A/\k % 1000≠999/\∀ds r,cl f ds=.ok r->ds.length=ps.length
structure Q9 (P:Β)(w:Α)(K:Frag)(mg:Str->Option Φ)(base:Heap)(CX:II)(A:Η)(cl:Ä)(f:Nat)(Pa:Ψ->Prop):Prop where
 ex:∃(k:Nat) (fa:Ψ) (fd:Ν) (ps:Â),Pa fa/\Binds K fd ps [.none]/\Ic P w K mg base CX k fa fd ps (Nb K cl f 0 ps)/\Hh (k+1) A/\k % 1000≠999/\∀ds r,cl f ds=.ok r->ds.length=ps.length
structure VY (P:Β)(w:Α)(K:Frag)(mg:Str->Option Φ)(base:Heap)(CX:II)(A:Η)(cl:Ä)(xp:XK->Hp->EX->Prop)(f:Nat)(Pa:Ψ->Prop):Prop where
 ex:∃(k:Nat) (fa:Ψ) (fd:Ν) (ps:Â),Pa fa/\Binds K fd ps []/\Ic P w K mg base CX k fa fd ps (M' K cl xp f ps)/\Hh k A/\∀(ex:EX->Prop) ds (k:D->Prop),Gb ex (cl f ds) k->ds.length=ps.length
def jl (K:Frag)(c m:Str)(fa:Ψ):Prop:=∀C,OC K c C->Meth K C m fa
def uw (K:Frag)(mg:Str->Option Φ)(c x:Str)(fa:Ψ):Prop:=∃C,OC K c C/\mg x=Γ (.ref C)/\Mk K C fa
structure Hc (Z:Sg)(CX:II)(cl:Ä)(xp:XK->Hp->EX->Prop)(X:Cx)(ex:EX->Prop)(G:Gm):Prop where
 N:X.N=G.N
 He:G.N.Nodup
 calm:G.cm=Δ->X.calm=Δ
 fk:X.env.scope.kind=.function
 un:X.A.units+42 < cLine
 own:G.rs=Δ->PassesOwn (Κ X.prog X.w) X.A X.env X.xe
 kd:∀(i:Nat) (x:Str),G.N[i]? = Γ x->X.env.kindOf x=G.kd[i]?
 Mm:∀(i:Nat) (x:Str),G.N[i]? = Γ x->(x == ("__debug__" : Str))=Θ/\(x == ("__classdict__" : Str))=Θ
 gl:∀n∈G.gl,∀x,Z.name n=Γ x->Gl X x
 Nc:∀n x,Z.name n=Γ x->x≠"__name__"/\(x == ("__debug__" : Str))=Θ
 df:G.df=Δ->∀x,X.fn x=Δ
 blt:∀(n:Nat) (x:Str),iD[n]? = Γ x->X.mg x=Ξ
 cst:∀n d x,(n,d)∈Z.O5->Z.name n=Γ x->∃u v,X.mg x=Γ u/\RelV v u/\∀S H,Gk X.K S H v d
 fns:∀f∈Z.fns,(G.cm=Δ∨f∈Z.pl)->∀x,Z.name f=Γ x->VX X.prog X.w X.K X.mg X.base CX X.A cl xp f x
 Im:∀f c m,(f,c,m)∈Z.Im->G.cm=Δ->NB X.prog X.w X.K X.mg X.base CX X.A cl f 0 (jl X.K c m)
 JM:∀f p,(f,p)∈Z.JM->G.cm=Δ->∀x,Z.name f=Γ x->NB X.prog X.w X.K X.mg X.base CX X.A cl f p (λfa=>X.mg x=Γ (.ref fa)/\PySem.W.keepIn X.K (.ref fa)=Δ)
 JN:∀f c m,(f,c,m)∈Z.JN->G.cm=Δ->Q9 X.prog X.w X.K X.mg X.base CX X.A cl f (jl X.K c m)
 fmt:∀f c m,(f,c,m)∈Z.Ox->G.cm=Δ->VY X.prog X.w X.K X.mg X.base CX X.A cl xp f (jl X.K c m)
 Mn:∀n c f x,(n,c,f)∈Z.Jv->G.cm=Δ->Z.name n=Γ x->NB X.prog X.w X.K X.mg X.base CX X.A cl f 0 (uw X.K X.mg c x)
 KI:∀c∈Z.HE,∀C,OC X.K c C->MG X.K C/\∀x∈Z.JF,kn X.K C x
 O7:∃E:XK,Passes CX X E/\∀c H,ex c->xp E H c
 MI:∀(outer:List Env) (H:Hp) (s:Ω) (E:XK) (e:Φ) (s':Ω),Hv X.prog X.w H s.heap->(∀b∈Jr outer,H b=Ξ)->CX outer (iA s.heap H) s E e s'->CX outer H s E e s'
 P8:∀(H:Hp) (outer:List Env) (s:Ω) (e:Φ) (s':Ω),¬CX outer H s (λ_ _ _=>False) e s'
def tD {K:Frag}(x:Hv P w H h)(m:FZ K Fc H vs ds):FZ K (λa=>Fc a/\iA h H a≠Ξ) (iA h H) vs ds:=by
 refine(m.step (S':=Fc) (H':=iA h H) (λa xs f r=>⟨f,?_⟩) λa xs r=>?_).IW
 ·rcases r with r|⟨o,r⟩
  ·obtain⟨ob,he⟩:=(x a _ r).at
   refine .inr ⟨ob,?_⟩;unfold iA;rw[r];cases xs with
   |l ys=>show(h.get? a).map _=_;rw[he];rfl
   |d ys=>show(h.get? a).map _=_;rw[he];rfl
   |i C dx fs=>show(h.get? a).map _=_;rw[he];rfl
  ·refine .inr ⟨o,?_⟩;unfold iA;rw[r];cases xs<;>rfl
 ·exact r.cl vG
def qH (x:Hv P w H h)(p:J6 h H H')  (n:iA h H a=Ξ)(e:H' a≠Ξ):H a=Ξ:=by
 cases q:H a with
 |none=>rfl
 |some o=>
  obtain⟨ob,he⟩:=(x a o q).at
  exact absurd (p.free a ob he (by rw[q];simp) n) e
def m8 {K:Frag}(x:Hv P w H h)(G9:JP Fc H)(p:J6 h H H')(o:Out K (λa=>Fc a/\iA h H a≠Ξ) (iA h H) F' H' v d fv):Out K Fc H (λa=>Fc a∨F' a) (kO H H') v d fv:=by
 have new:∀a∈fv,H a=Ξ:=λa ha=>qH x p (o.new a ha) (by obtain⟨_,xs,e⟩:=o.rep.own a ha;rw[e];simp);refine⟨λa ha=>?_,vE,o.rep.step (λa xs f r=>⟨.inr f,?_⟩) (λa xs r=>?_) λa ha nf hn=>⟨λz=>?_,res_none (new a ha)⟩,o.He,new,λa ha=>.inl ha,λa ha=>?_⟩
 ·cases q:H a with
  |some u=>rw[res_some q];simp
  |none=>
   rw[res_none q];rcases ha with ha|ha
   ·exact absurd q (G9 a ha)
   ·exact o.G9 a ha
 ·cases q:H a with
  |none=>unfold Rd;rw[res_none q];exact r
  |some u=>
   unfold Rd;rw[res_some q];cases oX x p q with
   |lst _ z=>cases xs<;>rcases r with r|⟨o',r⟩<;>(rw[z]at r;cases r);exact .inl rfl
   |dK _ z=>cases xs<;>rcases r with r|⟨o',r⟩<;>(rw[z]at r;cases r);exact .inl rfl
   |ins _ z=>cases xs<;>rcases r with r|⟨o',r⟩<;>(rw[z]at r;cases r);exact .inl rfl
   |own z=>cases xs<;>rcases r with r|⟨o',r⟩<;>(rw[z]at r;cases r)
   |tup z=>cases xs<;>rcases r with r|⟨o',r⟩<;>(rw[z]at r;cases r)
   |Gy _ z=>cases xs<;>rcases r with r|⟨o',r⟩<;>(rw[z]at r;cases r)<;>exact .inr ⟨_,rfl⟩
   |Lv _ _ z _ _ _=>exact absurd z r.some
 ·exact r.cl (Bq x p)
 ·rcases z with z|z
  ·exact G9 a z (new a ha)
  ·exact nf z
 ·rcases ha with ha|ha
  ·exact .inl ha
  ·rcases o.out a ha with z|z
   ·exact .inl z.1
   ·exact .inr (qH x p z (o.G9 a ha))
def Inv.P9 (I:Inv X pins σ H s):IY X.prog X.w X.K X.mg X.base X.A X.stack s (iA s.heap H):=
 ⟨I.IZ.frames,I.IZ.mod,λb o e=>⟨(I.IZ.bs b o e).1,jb (I.IZ.bs b o e).2⟩,I.IZ.L3,I.IZ.IA,λb hb=>jb (I.IZ.Lo b hb),rR I.G3,I.IZ.bare⟩
def nc
  (F:Ic X.prog X.w X.K X.mg X.base CX k fa fd ps (M' X.K cl xp f ps)) (hr:Hh k X.A) (hb:Binds X.K fd ps []) (hx:Passes CX X E)
  (hh:∀(outer:List Env) (H:Hp) (s:Ω) (E:XK) (e:Φ) (s':Ω),Hv X.prog X.w H s.heap->(∀b∈Jr outer,H b=Ξ)->CX outer (iA s.heap H) s E e s'->CX outer H s E e s')
  (I:Inv X pins σ H s) (r:Vals vs us) (hl:vs.length=ps.length) (G9:JP Fc H) (m:FZ X.K Fc H vs ds)
  (q:Gb (xp E (iA s.heap H)) (cl f (Gr ds)) λd=>∀v H' F' fv,Out X.K Fc H F' H' v d fv->Q v H'):Ι (Κ X.prog X.w) X.A (call (.ref fa) us) (EP X pins σ Q) X.xe s:=by
 have KC:M' X.K cl xp f ps vs (iA s.heap H) (λv H'=>J6 s.heap H H'->Q v (kO H H')) E:=
  ⟨hl,vD I.G3,_,ds,λa h=>h.2,tD I.G3 m,q.mono λd hd v H' F' fv o p=>hd v _ _ fv (m8 I.G3 G9 p o)⟩
 have MJ:(us++([]:List Φ)).length=ps.length:=by rw[R_,<- r.length];exact hl
 have bd:=hb s us I.Ig MJ;rw[R_]at bd;refine wpAny_call (codeAny_mono (F.run X.A X.stack s (iA s.heap H) ⟨us,[]⟩ us vs _ E hr I.P9 bd r KC) λr' s' hq=>?_);cases r' with
 |error e=>exact hx pins σ H s e s' I (hh X.stack H s E e s' I.G3 I.IZ.Lo hq)
 |ok fl=>
  cases fl with
  |ret u=>obtain⟨v,H',a1,a2,a3,a4,a5,a6⟩:=hq;exact I.after (Q:=Q) ⟨v,kO H H',a1,a2,vF I.G3 a3,rS I.G3 a4 (m7 I.G3 a4 a3) (fs:=Jr X.stack) (λb o _ e n f=>a3.keep b o e n f (by simp)) I.IZ.Lo,a5,a6 (m7 I.G3 a4 a3)⟩
  |next=>exact False.elim hq
  |brk=>exact False.elim hq
  |cont=>exact False.elim hq
def Slots (K:Frag)(S:Ψ->Prop)(H:Hp)(σ:St)(τ:Ev)(is:Ã):Prop:=∀i∈is,∀d,dJ τ i=Γ d->∃v,σ[i]? = Γ (Γ v)/\Gk K S H v d
def Slots.sub {K:Frag}  (h:Slots K S H σ τ is)(s:∀i∈js,i∈is):Slots K S H σ τ js:=λi hi d e=>h i (s i hi) d e
def Slots.left {K:Frag}  (h:Slots K S H σ τ (is++js)):Slots K S H σ τ is:=h.sub λ_ hi=>j_ _ hi
def Slots.right {K:Frag}  (h:Slots K S H σ τ (is++js)):Slots K S H σ τ js:=h.sub λ_ hi=>k_ _ hi
def Slots.go {K:Frag}  (h:Slots K S H σ τ is)(e:ip H H'):Slots K (nw S H) H' σ τ is:=λi hi d z=>by obtain⟨v,h1,h2⟩:=h i hi d z;exact⟨v,h1,h2.mono (λ_=>.inl) e⟩
def RD (K:Frag)(ex:EX->Prop)(is:Ã)(f:Ev->Res D):TE:=λσ H Q=>∃S τ,Slots K S H σ τ is/\Gb ex (f τ) (Kk K S H Q)
def RT (K:Frag)(ex:EX->Prop)(is:Ã)(f:Ev->Res Bool):TT:=λσ H Q=>∃S τ,Slots K S H σ τ is/\Gb ex (f τ) λb=>∀H',ip H H'->Q b H'
def RA (K:Frag)(ex:EX->Prop)(is:Ã)(f:Ev->Res (Ê)):TA:=λσ H Q=>∃S τ,Slots K S H σ τ is/\Gb ex (f τ) λds=>∀vs H',ip H H'->FZ K (nw S H) H' vs ds->Q vs H'
def O8 (K:Frag)(ex:EX->Prop)(is:Ã)(f:Ev->Res (Option Int)):TO:=λσ H Q=>∃S τ,Slots K S H σ τ is/\Gb ex (f τ) λo=>∀H',ip H H'->Q o H'
def WS (K:Frag)(S:Ψ->Prop)(H:Hp)(k:Zp.Kq)(a:Ψ)(xs:Ë):Prop:=match k with
 |.l=>(S a/\Rd H a (.lst xs))∨KL K a xs∨∃c:EX,xs=c.map .int/\HB K H a (.inr c)
 |.t=>HK K H a xs
theorem WS.sq {K:Frag}  (h:WS K S H k a xs):X0 K H k a xs:=by
 cases k with
 |l=>
  rcases h with h|h|⟨c,rfl,h⟩
  ·exact .inl (.inl h.2)
  ·exact h.sq
  ·exact .inl (.inr h)
 |t=>exact h
inductive Jb (K:Frag)(S:Ψ->Prop)(H:Hp):It->Ê->Prop where
 | lst {a:Ψ}{xs:Ë}{ds:Ê}:S a->Rd H a (.lst xs)->FZ K S H xs ds->Jb K S H (Pz K a) ds
 | lstK {a:Ψ}{xs:Ë}{ds:Ê}:KL K a xs->FZ K S H xs ds->Jb K S H (Pz K a) ds
 | tup {a:Ψ}{xs:Ë}{ds:Ê}:HK K H a xs->FZ K S H xs ds->Jb K S H (RU K a) ds
 | MN {a:Ψ} (c:EX):HB K H a (.inr c)->Jb K S H (Pz K a) (c.map .int)
 | Ln (lo hi:Int):Jb K S H (OY lo (hi - lo).toNat) (iW lo hi)
 | str (x:Str):Jb K S H (SK x) (jD x)
 | J4 {l:Ψ}{xs:Ë}{ds:Ê}:WS K S H .l l xs->FZ K S H xs ds->Jb K S H (Sy K l) (mB ds)
 | KW {l:Ψ}{xs:Ë}{ds:Ê}:WS K S H .l l xs->FZ K S H xs ds->Jb K S H (Bl K l) (jL ds)
def RI (K:Frag)(ex:EX->Prop)(is:Ã)(f:Ev->Res (Ê)):TI:=λσ H R=>∃S τ,Slots K S H σ τ is/\Gb ex (f τ) λds=>∀J H',ip H H'->Jb K (nw S H) H' J ds->R J H'
def oZ (e:ip H H1):∀a,nw (nw S H) H1 a->nw S H a:=λa h=>by
 rcases h with h|h
 ·exact h
 ·exact .inr (e.free h)
def Kk.fit {K:Frag}  (e:ip H H1)(h:Kk K S H Q d):Kk K (nw S H) H1 Q d:=λw H' e' m=>h w H' (e.trans e') (m.mono (oZ e) (.refl _))
def o4 (g:Hc Z CX cl xp X ex G)  (h:jQ Z G n x=Δ):Gl X x/\Z.name n=Γ x/\x≠"__name__"/\(x == ("__debug__" : Str))=Θ:=by unfold jQ at h;rw[a_]at h;have e:Z.name n=Γ x:=f_ h.1;exact⟨g.gl n (by simpa using h.2) x e,e,g.Nc n x e⟩
def zU (Z:Sg)  (h:iD[n]? = Γ x):Z.name n=Γ x:=by unfold Sg.name;rw[aam (v_.mp h).1];exact h
def ja (g:Hc Z CX cl xp X ex G)  (h:iD[n]? = Γ x)(hc:G.gl.contains n=Δ):Gl X x/\X.mg x=Ξ/\x≠"__name__"/\(x == ("__debug__" : Str))=Θ:=
 ⟨g.gl n (by simpa using hc) x (zU Z h),g.blt n x h,g.Nc n x (zU Z h)⟩
def dM (h:notStar e=Δ)(es:Ü)(env:Env):Μ (e::es) env=(Θ,eval e env)::Μ es env:=by
 induction e using zE<;>first|rfl|cases h
theorem iL (Z:Sg)(G:Gm):∀ {es:Ç}{l:Ü} (p:Pos) (env:Env),iz Z G es l=Δ->(backTo p (Μ l env)).any (·.1)=Θ
 |[],[],_,_,_=>rfl
 |a::es,e::l,p,env,h=>by have h':(notStar e&&Gw Z G a e&&iz Z G es l)=Δ:=h;simp only[a_]at h';rw[dM h'.1.1];have ih:=iL Z G (es:=es) (l:=l) p env h'.2;show(Θ||(backTo p (Μ l env)).any (·.1))=Θ;rw[ih];rfl
 |[],_::_,_,_,h=>by cases h
 |_::_,[],_,_,h=>by cases h
def vK {X:Cx}(h:∀S H,Gk X.K S H v d)  (q:RD X.K ex is (λ_=>.ok d) σ H Q):Q v H:=by obtain⟨S,τ,_,q⟩:=q;exact q.ok _ _ (.refl _) (h _ _)
def Dv (h:PE X e (RD X.K ex is f))(he:∀whole,isTrue e X.env whole=(do let v <- whole;standAt e.pos;holding [v] (truthy v))):PT X e (RT X.K ex is λτ=>FW (f τ) iH):=by intro pins s σ H Q I hw;obtain⟨S,τ,hs,hw⟩:=hw;refine isTrue_plain (G5 (h pins s σ H (λv H'=>∃d,ip H H'/\Gk X.K (nw S H) H' v d/\Gb ex (iH d) λb=>∀H',ip H H'->Q b H') I ⟨S,τ,hs,(Gb.FW hw).mono λd hd v H' e m=>⟨d,e,m,hd⟩⟩) λv s1 ⟨x,H1,I1,r1,d,e,m,hd⟩=>?_) (he _);exact lT I1 r1 m (hd.mono λb z=>z H1 e)
section
variable {Z:Sg}{CX:II}{cl:Ä}{xp:XK->Hp->EX->Prop}{X:Cx}{ex:EX->Prop}{G:Gm}{K:Frag}{S:Ψ->Prop}{H H1:Hp}{σ:St}{τ:Ev}
def iK (e:ip H H1)(hs:Slots K S H σ τ is)(h:Gb ex (f τ) Kt)(k:∀x v H2,ip H H2->ip H1 H2->Gk K (nw S H) H2 v x->Kt x->Q v H2):RD K ex is f σ H1 Q:=
 ⟨nw S H,τ,hs.go e,h.mono λx hx v H2 e2 m=>k x v H2 (e.trans e2) e2 (m.mono (oZ e) (.refl _)) hx⟩
def lW (e:ip H H1)(hs:Slots K S H σ τ is)(h:Gb ex (f τ) Kt)(k:∀x H2,ip H H2->ip H1 H2->Kt x->Q x H2):RT K ex is f σ H1 Q:=
 ⟨nw S H,τ,hs.go e,h.mono λx hx H2 e2=>k x H2 (e.trans e2) e2 hx⟩
def kP (e:ip H H1)(hs:Slots K S H σ τ is)(h:Gb ex (f τ) Kt)(k:∀x v H2,ip H H2->ip H1 H2->FZ K (nw S H) H2 v x->Kt x->Q v H2):RA K ex is f σ H1 Q:=
 ⟨nw S H,τ,hs.go e,h.mono λx hx v H2 e2 m=>k x v H2 (e.trans e2) e2 (m.mono (oZ e) (.refl _)) hx⟩
def yt (e:ip H H1)(hs:Slots K S H σ τ is)(h:Gb ex (f τ) Kt)(k:∀x H2,ip H H2->ip H1 H2->Kt x->Q x H2):O8 K ex is f σ H1 Q:=
 ⟨nw S H,τ,hs.go e,h.mono λx hx H2 e2=>k x H2 (e.trans e2) e2 hx⟩
def Gk.later (h:Gk K (L2.nw S H) H1 v d)(e:ip H1 H2):Gk K (L2.nw S H) H2 v d:=h.mono (λ_ z=>z) e
def FZ.later (h:FZ K (L2.nw S H) H1 v d)(e:ip H1 H2):FZ K (L2.nw S H) H2 v d:=h.mono (λ_ z=>z) e
def Yh (g:Hc Z CX cl xp X ex G)  (h:i4 G i x=Δ):PE X (.Name x pos) (RD X.K ex [i] (Gs cl (.v i))):=by
 unfold i4 at h;rw[a_]at h;have hx:G.N[i]? = Γ x:=f_ h.1;have hk:=g.kd i x hx;have hv:Pq X.env.scope x:=by
  have h2:=h.2;rw[L_,L_]at h2;rcases h2 with(h2|h2)|h2
  ·exact .inl (hk.trans (f_ h2))
  ·exact .inr (.inl (hk.trans (f_ h2)))
  ·exact .inr (.inr (hk.trans (f_ h2)))
 refine iu (uI (i:=i) (by rw[g.N];exact hx) hv (g.Mm i x hx).1 (g.Mm i x hx).2) λσ H Q q=>?_;obtain⟨S,τ,hs,q⟩:=q;rw[Dq]at q;cases z:dJ τ i with
 |none=>rw[z]at q;exact q.no.elim
 |some d=>rw[z]at q;obtain⟨v,h1,h2⟩:=hs i (by simp) d z;exact⟨v,h1,q.ok _ _ (.refl _) h2.nw⟩
def Yi (h:Du d k=Δ):PE X (.Constant k j pos) (RD X.K ex [] (Gs cl (.c d))):=by
 induction d using zD with
 |Gx=>
  cases k with
  |none=>exact iu AO λσ H Q q=>vK (λ_ _=>.Gx) q
  |_=>cases h
 |bl b=>
  cases k with
  |bool b'=>have e:b=b':=f_ h;subst e;exact iu CV λσ H Q q=>vK (λ_ _=>.bl _) q
  |_=>cases h
 |int b=>
  cases k with
  |int b'=>have e:b=b':=f_ h;subst e;exact iu uJ λσ H Q q=>vK (λ_ _=>.int _) q
  |_=>cases h
 |str b=>
  cases k with
  |str b'=>have e:b=b':=f_ h;subst e;exact iu AQ λσ H Q q=>vK (λ_ _=>.str _) q
  |_=>cases h
 |tup _=>cases k<;>cases h
 |lst _ _=>cases k<;>cases h
 |exc _=>cases k<;>cases h
 |G4 o ks ds=>cases k<;>cases h
 |obj o c ks ds=>cases k<;>cases h
def Yj (g:Hc Z CX cl xp X ex G)  (h:jQ Z G n x=Δ)(hk:Z.O5.any (λp=>p.1 == n&&uu p.2 d)=Δ):PE X (.Name x pos) (RD X.K ex [] (Gs cl (.g n d))):=by obtain⟨h1,h2,h3,h4⟩:=o4 g h;rw[List.any_eq_true]at hk;obtain⟨⟨m,d'⟩,hm,hk⟩:=hk;rw[a_]at hk;have e1:m=n:=f_ hk.1;have e2:d'=d:=tB hk.2;subst e1 e2;obtain⟨u,v,hu,r,hr⟩:=g.cst m d' x hm h2;exact iu (xD h1 hu r h4) λσ H Q q=>vK hr q
def Dw (ha:PE X a (RD X.K ex va fa))(hb:PE X b (RD X.K ex vb fb)) :
  PE X (.BinOp a (M8 op) b pos) (RD X.K ex (va++vb) λτ=>FW (fa τ) λx=>FW (fb τ) λy=>JL op x y):=by
 refine iu (uS (Bn (ex:=ex) op) ha hb) λσ H Q Gz=>?_;obtain⟨S,τ,hs,q⟩:=Gz;refine iK (.refl _) hs.left (Gb.FW q) λx v H1 e1 _ m1 q1=>?_;refine iK e1 hs.right (Gb.FW q1) λy w H2 e2 HX m2 q2=>?_;exact⟨nw S H,x,y,m1.later HX,m2,q2.mono λd hd=>hd.fit e2⟩
def Dx (ha:PE X a (RD X.K ex va fa)) :
  PE X (.UnaryOp .USub a pos) (RD X.K ex va λτ=>FW (fa τ) λ|.int i=>.ok (.int (-i))|_=>Gq):=by
 refine iu (C6 A4 ha) λσ H Q Gz=>?_;obtain⟨S,τ,hs,q⟩:=Gz;refine iK (.refl _) hs (Gb.FW q) λx v H1 e1 _ m1 q1=>?_
 induction x using zD with
 |int i=>cases m1.Ha;exact⟨i,rfl,q1.ok _ _ e1 (.int _)⟩
 |_=>exact q1.no.elim
def Dy (g:Hc Z CX cl xp X ex G)  (ha:PE X a (RD X.K ex va fa))(hb:PE X b (RD X.K ex vb fb))(hm:behindInMarks (J5 op) b=Θ) :
  PE X (.Compare a [J5 op] [b] pos) (RD X.K ex (va++vb) λτ=>FW (fa τ) λx=>FW (fb τ) λy=>FW (HV op x y) λr=>.ok (.bl r))/\
  PT X (.Compare a [J5 op] [b] pos) (RT X.K ex (va++vb) λτ=>FW (FW (fa τ) λx=>FW (fb τ) λy=>FW (HV op x y) λr=>.ok (.bl r)) iH):=by
 refine⟨iu (xH (mG (ex:=ex) g.un op) ha hb hm) λσ H Q ⟨S,τ,hs,q⟩=>?_,nu (xI (mG (ex:=ex) g.un op) ha hb hm) λσ H Q ⟨S,τ,hs,q⟩=>?_⟩
 ·refine iK (.refl _) hs.left (Gb.FW q) λx v H1 e1 _ m1 q1=>?_;refine iK e1 hs.right (Gb.FW q1) λy w H2 e2 HX m2 q2=>?_;exact⟨nw S H,x,y,m1.later HX,m2,(Gb.FW q2).mono λd hd=>hd.ok _ _ e2 (.bl _)⟩
 ·refine iK (.refl _) hs.left (Gb.FW (Gb.FW q)) λx v H1 e1 _ m1 q1=>?_;refine iK e1 hs.right (Gb.FW q1) λy w H2 e2 HX m2 q2=>?_;exact⟨nw S H,x,y,m1.later HX,m2,(Gb.FW q2).mono λd hd=>⟨d,rfl,hd.ok.ok H2 e2⟩⟩
def yu (g:Hc Z CX cl xp X ex G)  (ha:PE X a (RD X.K ex va fa))(hb:PE X b (RD X.K ex vb fb))(hc:PE X c (RD X.K ex vc fc))
  (hm:lastMarks [J5 op,J5 Ih] [b,c]=Θ) :
  PE X (.Compare a [J5 op,J5 Ih] [b,c] pos) (RD X.K ex (va++vb++vc) λτ=>FW (fa τ) λx=>FW (fb τ) λy=>FW (HV op x y) λr=>if r=Δ then FW (fc τ) λz=>FW (HV Ih y z) λr'=>.ok (.bl r') else .ok (.bl Θ))/\
  PT X (.Compare a [J5 op,J5 Ih] [b,c] pos) (RT X.K ex (va++vb++vc) λτ=>FW (FW (fa τ) λx=>FW (fb τ) λy=>FW (HV op x y) λr=>if r=Δ then FW (fc τ) λz=>FW (HV Ih y z) λr'=>.ok (.bl r') else .ok (.bl Θ)) iH):=by
 refine⟨iu (uU (mG (ex:=ex) g.un op) (mG (ex:=ex) g.un Ih) ha hb hc hm) λσ H Q ⟨S,τ,hs,q⟩=>?_,nu (uV (mG (ex:=ex) g.un op) (mG (ex:=ex) g.un Ih) ha hb hc hm) λσ H Q ⟨S,τ,hs,q⟩=>?_⟩
 ·refine iK (.refl _) hs.left.left (Gb.FW q) λx v H1 e1 _ m1 q1=>?_;refine iK e1 hs.left.right (Gb.FW q1) λy w H2 e2 HX m2 q2=>?_;refine⟨nw S H,x,y,m1.later HX,m2,(Gb.FW q2).mono λd hd=>⟨d,rfl,?_⟩⟩
  induction d using zB with
  |false=>rw[b_ C_]at hd ⊢;exact hd.ok _ _ e2 (.bl _)
  |true=>rw[d_ rfl]at hd ⊢;refine iK e2 hs.right (Gb.FW hd) λz w' H3 e3 NC m3 q3=>?_;exact⟨nw S H,y,z,m2.later NC,m3,(Gb.FW q3).mono λd hd=>hd.ok _ _ e3 (.bl _)⟩
 ·refine iK (.refl _) hs.left.left (Gb.FW (Gb.FW q)) λx v H1 e1 _ m1 q1=>?_;refine iK e1 hs.left.right (Gb.FW q1) λy w H2 e2 HX m2 q2=>?_;refine⟨nw S H,x,y,m1.later HX,m2,(Gb.FW q2).mono λd hd=>⟨d,rfl,?_⟩⟩
  induction d using zB with
  |false=>rw[b_ C_]at hd ⊢;exact⟨Θ,rfl,hd.ok.ok _ e2⟩
  |true=>rw[d_ rfl]at hd ⊢;refine iK e2 hs.right (Gb.FW hd) λz w' H3 e3 NC m3 q3=>?_;exact⟨nw S H,y,z,m2.later NC,m3,(Gb.FW q3).mono λd hd=>⟨d,rfl,hd.ok.ok _ e3⟩⟩
def zV (ha:PE X a (RD X.K ex va fa))(hb:PE X (.BoolOp .And (b::rest) pos) (RD X.K ex vb fb)) :
  PE X (.BoolOp .And (a::b::rest) pos) (RD X.K ex (va++vb) λτ=>FW (fa τ) λx=>FW (iH x) λr=>if r=Δ then fb τ else .ok x):=by
 intro pins s σ H Q I h;obtain⟨S,τ,hs,q⟩:=h;refine BoolOp_and (G5 (ha pins s σ H (λv H'=>∃d,ip H H'/\Gk X.K (nw S H) H' v d/\_) I (iK (.refl _) hs.left (Gb.FW q) λx v H1 e1 _ m1 q1=>⟨x,e1,m1,q1⟩)) λv s1 ⟨x,H1,I1,r1,d,e1,m1,q1⟩=>?_);refine G5 (lT (Q:=λb H'=>H'=H1/\Gb ex (if b=Δ then fb τ else .ok d) (Kk X.K S H Q)) I1 r1 m1 ((Gb.FW q1).mono λb z=>⟨rfl,z⟩)) λc s2 Gz=>?_;obtain⟨H2,I2,e2,q2⟩:=Gz;subst e2
 induction c using zB with
 |true=>rw[d_ rfl]at q2 ⊢;exact hb pins s2 σ _ Q I2 (iK e1 hs.right q2 λy w H3 e3 _ m3 q3=>q3 _ _ e3 m3)
 |false=>rw[b_ C_]at q2 ⊢;exact⟨x,_,I2,r1,q2.ok _ _ e1 m1⟩
def Dz (ha:PE X a (RD X.K ex va fa))(hb:PE X (.BoolOp .Or (b::rest) pos) (RD X.K ex vb fb)) :
  PE X (.BoolOp .Or (a::b::rest) pos) (RD X.K ex (va++vb) λτ=>FW (fa τ) λx=>FW (iH x) λr=>if r=Δ then .ok x else fb τ):=by
 intro pins s σ H Q I h;obtain⟨S,τ,hs,q⟩:=h;refine BoolOp_or (G5 (ha pins s σ H (λv H'=>∃d,ip H H'/\Gk X.K (nw S H) H' v d/\_) I (iK (.refl _) hs.left (Gb.FW q) λx v H1 e1 _ m1 q1=>⟨x,e1,m1,q1⟩)) λv s1 ⟨x,H1,I1,r1,d,e1,m1,q1⟩=>?_);refine G5 (lT (Q:=λb H'=>H'=H1/\Gb ex (if b=Δ then .ok d else fb τ) (Kk X.K S H Q)) I1 r1 m1 ((Gb.FW q1).mono λb z=>⟨rfl,z⟩)) λc s2 Gz=>?_;obtain⟨H2,I2,e2,q2⟩:=Gz;subst e2
 induction c using zB with
 |false=>rw[b_ C_]at q2 ⊢;exact hb pins s2 σ _ Q I2 (iK e1 hs.right q2 λy w H3 e3 _ m3 q3=>q3 _ _ e3 m3)
 |true=>rw[d_ rfl]at q2 ⊢;exact⟨x,_,I2,r1,q2.ok _ _ e1 m1⟩
def DA (ha:PE X a (RD X.K ex va fa))(ht:PT X a (RT X.K ex va λτ=>FW (fa τ) iH)) :
  PE X (.UnaryOp .Not a pos) (RD X.K ex va λτ=>FW (fa τ) λx=>FW (iH x) λr=>.ok (.bl !r))/\PT X (.UnaryOp .Not a pos) (RT X.K ex va λτ=>FW (FW (fa τ) λx=>FW (iH x) λr=>.ok (.bl !r)) iH):=by
 constructor
 ·intro pins s σ H Q I h;obtain⟨S,τ,hs,q⟩:=h;refine UnaryOp_ (G5 (ha pins s σ H (λv H'=>∃d,ip H H'/\Gk X.K (nw S H) H' v d/\_) I (iK (.refl _) hs (Gb.FW q) λx v H1 e1 _ m1 q1=>⟨x,e1,m1,q1⟩)) λv s1 ⟨x,H1,I1,r1,d,e1,m1,q1⟩=>?_);refine not_of (G5 (lT (Q:=λb H'=>Q (.bl !b) H') I1 r1 m1 ((Gb.FW q1).mono λb z=>z.ok _ _ e1 (.bl _))) λc s2 ⟨H2,I2,q2⟩=>⟨.bl !c,H2,I2,rfl,q2⟩)
 ·refine nu (uK ht) λσ H Q Gz=>?_;obtain⟨S,τ,hs,q⟩:=Gz;exact lW (.refl _) hs (Gb.mk ((Gb.FW (Gb.FW q)).mono λx hx=>(Gb.FW hx).mono λr hr=>hr.ok.ok)) λx H2 e2 _ k=>k H2 e2
def vL {e:Expr}{pos:Pos}{op:BoolOp}{es:Ü}{t:TT}(h:PT X (.BoolOp op es pos) t):PW X (.BoolOp op es pos) t:=λ_ pins s σ H Q I q=>h pins s σ H Q I q
def zW {fa fb:Ev->Res D}(ha:PT X a (RT X.K ex va λτ=>FW (fa τ) iH))(hb:PW X (.BoolOp .And (b::rest) pos) (RT X.K ex vb λτ=>FW (fb τ) iH)) :
  PT X (.BoolOp .And (a::b::rest) pos) (RT X.K ex (va++vb) λτ=>FW (FW (fa τ) λx=>FW (iH x) λr=>if r=Δ then fb τ else .ok x) iH):=by
 refine nu (AS ha hb).pt λσ H Q Gz=>?_;obtain⟨S,τ,hs,q⟩:=Gz;refine lW (.refl _) hs.left (Kt:=λr=>Gb ex (if r=Δ then FW (fb τ) iH else .ok Θ) λb=>∀H',ip H H'->Q b H') (Gb.mk ((Gb.FW (Gb.FW q)).mono λx hx=>(Gb.FW hx).eq.mono λr hr=>?_)) λr H2 e2 _ k=>?_
 ·obtain⟨er,hr⟩:=hr
  induction r using zB with
  |true=>rw[d_ rfl]at hr ⊢;exact Gb.mk hr
  |false=>rw[b_ C_]at hr ⊢;have Ot:Gb ex (iH x) _:=hr;rw[er]at Ot;exact Ot
 ·induction r using zB with
  |true=>rw[d_ rfl]at k ⊢;exact lW e2 hs.right k λb H3 e3 _ z=>z H3 e3
  |false=>rw[b_ C_]at k ⊢;exact k.ok H2 e2
def DB {fa fb:Ev->Res D}(ha:PT X a (RT X.K ex va λτ=>FW (fa τ) iH))(hb:PW X (.BoolOp .Or (b::rest) pos) (RT X.K ex vb λτ=>FW (fb τ) iH)) :
  PT X (.BoolOp .Or (a::b::rest) pos) (RT X.K ex (va++vb) λτ=>FW (FW (fa τ) λx=>FW (iH x) λr=>if r=Δ then .ok x else fb τ) iH):=by
 refine nu (CY ha hb).pt λσ H Q Gz=>?_;obtain⟨S,τ,hs,q⟩:=Gz;refine lW (.refl _) hs.left (Kt:=λr=>Gb ex (if r=Δ then .ok Δ else FW (fb τ) iH) λb=>∀H',ip H H'->Q b H') (Gb.mk ((Gb.FW (Gb.FW q)).mono λx hx=>(Gb.FW hx).eq.mono λr hr=>?_)) λr H2 e2 _ k=>?_
 ·obtain⟨er,hr⟩:=hr
  induction r using zB with
  |false=>rw[b_ C_]at hr ⊢;exact Gb.mk hr
  |true=>rw[d_ rfl]at hr ⊢;have Ot:Gb ex (iH x) _:=hr;rw[er]at Ot;exact Ot
 ·induction r using zB with
  |false=>rw[b_ C_]at k ⊢;exact lW e2 hs.right k λb H3 e3 _ z=>z H3 e3
  |true=>rw[d_ rfl]at k ⊢;exact k.ok H2 e2
def DC {fc:Ev->Res D}(hc:PT X c (RT X.K ex vc λτ=>FW (fc τ) iH))(ha:PE X a (RD X.K ex va fa))(hb:PE X b (RD X.K ex vb fb))
  (ta:PT X a (RT X.K ex va λτ=>FW (fa τ) iH)) (tb:PT X b (RT X.K ex vb λτ=>FW (fb τ) iH)) :
  PE X (.IfExp c a b pos) (RD X.K ex (vc++va++vb) λτ=>FW (fc τ) λx=>FW (iH x) λr=>if r=Δ then fa τ else fb τ)/\
  PT X (.IfExp c a b pos) (RT X.K ex (vc++va++vb) λτ=>FW (FW (fc τ) λx=>FW (iH x) λr=>if r=Δ then fa τ else fb τ) iH):=by
 constructor
 ·refine iu (qd hc ha hb) λσ H Q Gz=>?_;obtain⟨S,τ,hs,q⟩:=Gz;refine lW (.refl _) hs.left.left (Gb.mk ((Gb.FW q).mono λx hx=>Gb.FW hx)) λr H2 e2 _ k=>?_
  induction r using zB with
  |true=>rw[d_ rfl]at k ⊢;exact iK e2 hs.left.right k λy w H3 e3 _ m3 q3=>q3 _ _ e3 m3
  |false=>rw[b_ C_]at k ⊢;exact iK e2 hs.right k λy w H3 e3 _ m3 q3=>q3 _ _ e3 m3
 ·intro pins s σ H Q I h;obtain⟨S,τ,hs,q⟩:=h
  refine isTrue_IfExp (G5 (hc pins s σ H (λr H2=>ip H H2/\Gb ex (if r=Δ then fa τ else fb τ) λd=>Gb ex (iH d) λb=>∀H',ip H H'->Q b H') I
   (lW (.refl _) hs.left.left (Gb.mk ((Gb.FW (Gb.FW q)).mono λx hx=>Gb.FW hx)) λr H2 e2 _ k=>⟨e2,k⟩)) λd s1 ⟨H1,I1,e1,q1⟩=>?_)
  induction d using zB with
  |true=>rw[d_ rfl]at q1;exact ta pins s1 σ H1 Q I1 (lW e1 hs.left.right (Gb.mk q1) λb H3 e3 _ z=>z H3 e3)
  |false=>rw[b_ C_]at q1;exact tb pins s1 σ H1 Q I1 (lW e1 hs.right (Gb.mk q1) λb H3 e3 _ z=>z H3 e3)
def DF (h:PA X es (RA X.K ex va fa)):PE X (.Tuple es n pos) (RD X.K ex va λτ=>FW (fa τ) λds=>Gn (jf ds.length) (.ok (.tup ds))):=by refine iu (rE h) λσ H Q Gz=>?_;obtain⟨S,τ,hs,q⟩:=Gz;refine kP (.refl _) hs (Gb.FW q) λds vs H1 e1 _ m1 q1=>?_;obtain⟨g,q1⟩:=Gb.Gn q1;exact⟨by rw[m1.length];exact jg g,λp hp=>q1.ok _ _ (e1.trans (.upd hp)) ((Bm hp m1).mono (oZ e1) (.refl _))⟩
def zX (h:PA X es (RA X.K ex va fa)):PE X (.List es pos) (RD X.K ex va λτ=>FW (fa τ) λds=>Gn (jf ds.length) (.ok (.lst Δ ds))):=by refine iu (rF h) λσ H Q Gz=>?_;obtain⟨S,τ,hs,q⟩:=Gz;refine kP (.refl _) hs (Gb.FW q) λds vs H1 e1 _ m1 q1=>?_;obtain⟨g,q1⟩:=Gb.Gn q1;exact⟨by rw[m1.length];exact jg g,λp hp=>q1.ok _ _ (e1.trans (.upd hp)) ((pE hp m1).mono (oZ e1) (.refl _))⟩
def DG (ha:PE X a (RD X.K ex va fa))(hb:PE X b (RD X.K ex vb fb))(hp:iU b=Δ) :
  PE X (.Subscript a b pos) (RD X.K ex (va++vb) λτ=>FW (fa τ) λx=>FW (fb τ) λy=>lM x y):=by
 refine iu (zP (yk (ex:=ex)) ha hb λo i=>by cases b<;>first|rfl|cases hp) λσ H Q Gz=>?_;obtain⟨S,τ,hs,q⟩:=Gz;refine iK (.refl _) hs.left (Gb.FW q) λx v H1 e1 _ m1 q1=>?_;refine iK e1 hs.right (Gb.FW q1) λy w H2 e2 HX m2 q2=>?_;exact⟨nw S H,x,y,m1.later HX,m2,q2.mono λd hd=>hd.fit e2⟩
def Fv {lo:Option Expr}(ha:PE X a (RD X.K ex va fa))(hl:PO X lo (O8 X.K ex vl fl))(hh:PO X hi (O8 X.K ex vh fh)) :
  PE X (.Subscript a (.Slice lo hi Ξ p2) pos) (RD X.K ex (va++vl++vh) λτ=>FW (fa τ) λx=>FW (fl τ) λl=>FW (fh τ) λh=>qv x l h):=by
 refine iu (qh (yl (ex:=ex)) ha hl hh) λσ H Q Gz=>?_;obtain⟨S,τ,hs,q⟩:=Gz;refine iK (.refl _) hs.left.left (Gb.FW q) λx v H1 e1 _ m1 q1=>?_;refine yt e1 hs.left.right (Gb.FW q1) λl H2 e2 HX q2=>?_;refine yt e2 hs.right (Gb.FW q2) λh H3 e3 NC q3=>?_;exact⟨nw S H,x,m1.later (HX.trans NC),q3.mono λd hd=>hd.fit e3⟩
def s_call (g:Hc Z CX cl xp X ex G)  (h1:jQ Z G f x=Δ)(h2:Z.LY G f=Δ)(Hb:iz Z G es args=Δ)(h:PA X args (RA X.K ex (dI es) (iq cl es))) :
  PE X (.Call (.Name x p) args [] pos) (RD X.K ex (dI es) λτ=>FW (iq cl es τ) λds=>cl f (Gr ds)):=by
 obtain⟨k1,k2,k3,k4⟩:=o4 g h1;obtain⟨k,MO,fd,ps,hm,Kp,hb,F,hr,hlen⟩:=(g.fns f (mI h2).1 (mI h2).2 x k2).ex;obtain⟨E,hP,hE⟩:=g.O7;intro pins s σ H Q I q;obtain⟨S,τ,hs,q⟩:=q;have fin:∀(us:List Φ) (s1:Ω) (vs:Ë) (H1:Hp) (ds:Ê),Inv X pins σ H1 s1->Vals vs us->ip H H1->FZ X.K (nw S H) H1 vs ds->Gb ex (cl f (Gr ds)) (Kk X.K S H Q)->Ι (Κ X.prog X.w) X.A (call (.ref MO) us) (EP X pins σ Q) X.xe s1:=by
  intro us s1 vs H1 ds I1 r e m q1;have hl:=hlen ex _ _ q1;rw[iB]at hl;refine nc F hr hb hP g.MI I1 r (by rw[m.length];exact hl) (Fc:=λa=>nw S H a/\H1 a≠Ξ) (λa z=>z.2) m.IW ?_;cases z:cl f (Gr ds) with
  |error er=>
   rw[z]at q1;cases er with
   |stuck=>exact q1.no.elim
   |exc c=>exact hE c _ q1
  |ok d=>
   rw[z]at q1;intro v H' F' fv o;refine q1.ok _ _ (e.trans o.same) (o.rep.read (λa ha=>?_) λa ha=>?_)
   ·rcases o.out a ha with z|z
    ·exact z.1
    ·exact .inr (e.free z)
   ·exact .inr (e.free (o.new a ha))
 refine P_ (kJ I k1 hm ?_ k4)
 induction args using zL with
 |nil=>
  induction es using zL with
  |cons _ _=>cases Hb
  |nil=>exact PySem.W.callWith_K0 I.Ig Kp (fin [] s [] H [] I .nil (.refl _) .nil q)
 |cons e l=>
  induction es using zL with
  |nil=>cases Hb
  |cons a es=>have G8:(notStar e&&Gw Z G a e&&iz Z G es l)=Δ:=Hb;simp only[a_]at G8;refine PySem.W.callWith_K (h₀:=X.base) I.ok.mod.MD Kp (G5 (h pos pins s σ H (λvs H1=>∃ds,ip H H1/\FZ X.K (nw S H) H1 vs ds/\Gb ex (cl f (Gr ds)) (Kk X.K S H Q)) I ⟨S,τ,hs,(Gb.FW q).mono λds hd vs H1 e m=>⟨ds,e,m,hd⟩⟩) λus s1 ⟨vs,H1,I1,r,ds,e,m,q1⟩=>⟨I1.Ig,?_⟩) (dM G8.1.1 l X.env) (iL Z G (es:=es) pos X.env G8.2);exact fin us s1 vs H1 ds I1 r e m q1
def Fw (g:Hc Z CX cl xp X ex G)  (hg:G.Jj (oY f)=Δ)(Hb:iz Z G es (a::args)=Δ)(h:PA X (a::args) (RA X.K ex (dI es) (iq cl es))) :
  PE X (.Call (.Name (ku f) p) (a::args) [] pos) (RD X.K ex (dI es) λτ=>FW (iq cl es τ) λds=>jZ f ds):=by
 obtain⟨k1,k2,k3,k4⟩:=ja g (vH f) (lF hg)
 induction es using zL with
 |nil=>cases Hb
 |cons b es=>
  have G8:(notStar a&&Gw Z G b a&&iz Z G es args)=Δ:=Hb;simp only[a_]at G8;have mono:∀σ H Q,RD X.K ex (dI (b::es)) (λτ=>FW (iq cl (b::es) τ) λds=>jZ f ds) σ H Q->RZ (VT X.K ex f) (RA X.K ex (dI (b::es)) (iq cl (b::es))) σ H Q:=by rintro σ H Q ⟨S,τ,hs,q⟩;refine kP (.refl _) hs (Gb.FW q) λds vs H1 e1 _ m1 q1=>?_;exact⟨nw S H,ds,m1,q1.mono λd hd=>hd.fit e1⟩
  refine iu ?_ mono;have hv:=tu f;have hc:=ym (X:=X) (ex:=ex) (g.calm (lG hg)) f;unfold vy at hv hc;cases z:Ds f with
  |true=>rw[z,d_ rfl]at hv hc;exact mi hc k1 k2 hv h k3 k4 (dM G8.1.1 args X.env) (iL Z G (es:=es) pos X.env G8.2)
  |false=>rw[z,b_ C_]at hv hc;exact nr hc k1 k2 hv h k3 k4 (dM G8.1.1 args X.env) (iL Z G (es:=es) pos X.env G8.2)
abbrev SQ:Kd->V
 |.str=>.ty "str" |.int=>.ty "int" |.bool=>.ty "bool" |.list=>.ty "list" |.tuple=>.ty "tuple"
def tE (k:Kd):RelV (SQ k) (vz k):=by cases k<;>rfl
def vM (k:Kd):jJ X (.builtin "isinstance") (λxs H Q=>∃S x d,xs=[x,SQ k]/\Gk X.K S H x d/\kz d=Δ/\Q (.bl (kA k d)) H):=by
 intro pins s σ H xs us Q I r h;obtain⟨S,x,d,rfl,m,hn,q⟩:=h;obtain⟨u,w',rfl,r1,r2⟩:=vals2 r;have e:w'=vz k:=by have:=r2.abs;have h2:=(tE k).abs;cases k<;>(revert r2;intro r2;exact r2)
 subst e;exact yq I r1 m k hn q
def DH (g:Hc Z CX cl xp X ex G)  (hg:G.gl.contains 14=Δ)(hk:G.gl.contains (tx k)=Δ)(hn:notStar e=Δ)(ha:PE X e (RD X.K ex va fa)) :
  PE X (.Call (.Name "isinstance" p) [e,.Name (lE k) p'] [] pos) (RD X.K ex va λτ=>FW (fa τ) λx=>Gn (kz x) (.ok (.bl (kA k x)))):=by
 obtain⟨k1,k2,k3,k4⟩:=ja g (show iD[14]? = Γ ("isinstance" : Str) from rfl) hg;obtain⟨j1,j2,j3,j4⟩:=ja g (Br k) hk;have pa:PA X [e,.Name (lE k) p'] (jT (RD X.K ex va fa) (jT (tC (SQ k)) qf)):=iF ha (iF (pj j1 j2 (yn k) (tE k) j3 j4) jn rfl) (dM hn _ _);refine iu (nr (vM k) k1 k2 PyProof.Rows.boot_isinstance pa k3 k4 (dM hn _ _) rfl) λσ H Q Gz=>?_;obtain⟨S,τ,hs,q⟩:=Gz;refine iK (.refl _) hs (Gb.FW q) λx v H1 e1 _ m1 q1=>?_;obtain⟨gd,q1⟩:=Gb.Gn q1;exact⟨nw S H,v,x,rfl,m1,gd,q1.ok _ _ e1 (.bl _)⟩
def ux:jJ X (.builtin "isinstance") (λxs H Q=>∃S x d p,xs=[x,.ref p]/\HK X.K H p [.ty "list",.ty "tuple"]/\Gk X.K S H x d/\kz d=Δ/\Q (.bl (lN d)) H):=by intro pins s σ H xs us Q I r h;obtain⟨S,x,d,p,rfl,hp,m,hn,q⟩:=h;obtain⟨u,w',rfl,r1,r2⟩:=vals2 r;cases r2;exact yr I r1 m hp hn q
def Bw (g:Hc Z CX cl xp X ex G){e:Expr}{p p1 p2 pt pos:Pos}{c:Nat}{va:Ã}{fa:Ev->Res D}(hg:G.gl.contains 14=Δ)(h5:G.gl.contains 5=Δ)(h6:G.gl.contains 6=Δ)(hn:notStar e=Δ)(ha:PE X e (RD X.K ex va fa)) :
  PE X (.Call (.Name "isinstance" p) [e,.Tuple [.Name "list" p1,.Name "tuple" p2] c pt] [] pos) (RD X.K ex va λτ=>FW (fa τ) λx=>Gn (kz x) (.ok (.bl (lN x)))):=by
 obtain⟨k1,k2,k3,k4⟩:=ja g (show iD[14]? = Γ ("isinstance" : Str) from rfl) hg;obtain⟨j1,j2,j3,j4⟩:=ja g (show iD[5]? = Γ ("list" : Str) from rfl) h5;obtain⟨l1,l2,l3,l4⟩:=ja g (show iD[6]? = Γ ("tuple" : Str) from rfl) h6;have Yk:PE X (.Tuple [.Name "list" p1,.Name "tuple" p2] c pt) (A7 (jT (tC (.ty "list")) (jT (tC (.ty "tuple")) qf))):=rE (iF (pj (u:=.type "list") j1 j2 ∅ rfl j3 j4) (iF (pj (u:=.type "tuple") l1 l2 ∅ rfl l3 l4) jn rfl) rfl);have pa:PA X [e,.Tuple [.Name "list" p1,.Name "tuple" p2] c pt] (jT (RD X.K ex va fa) (jT (A7 (jT (tC (.ty "list")) (jT (tC (.ty "tuple")) qf))) qf)):=iF ha (iF Yk jn rfl) (dM hn _ _);refine iu (nr ux k1 k2 PyProof.Rows.boot_isinstance pa k3 k4 (dM hn _ _) rfl) λσ H Q Gz=>?_;obtain⟨S,τ,hs,q⟩:=Gz;refine iK (.refl _) hs (Gb.FW q) λx v H1 e1 _ m1 q1=>?_;obtain⟨gd,q1⟩:=Gb.Gn q1;refine⟨by rw[sizeLine_eq];decide,λt ht=>⟨nw S H,v,x,t,rfl,.of gk,m1.mono (λ_ z=>z) (.upd ht),gd,q1.ok _ _ (e1.trans (.upd ht)) (.bl _)⟩⟩
theorem nX {S:Ψ->Prop}{K:Frag}{H:Hp}(lo:Int):∀(l:Ã),FZ K S H (l.map λk=>V.int (lo+(k:Nat))) (l.map λk=>D.int (lo+(k:Nat)))
 |[]=>.nil
 |k::l=>.cons (.int _) (nX lo l)
def qI {ds:Ê}{vs:Ë}{S:Ψ->Prop}{H:Hp}{k:D->Prop}(m:FZ X.K S H vs ds)(h:Gb ex (mW ds) k):∃lo b:Int,((lo=0/\vs=[.int b])∨vs=[.int lo,.int b])/\0<=lo/\lo<=1000/\-1000<=b/\b<=1000/\k (.lst Δ (iW lo b)):=by
 unfold mW at h;split at h
 ·obtain⟨gd,h⟩:=Gb.Gn h;have gd:=p_ gd;obtain⟨x,rfl,hd⟩:=m.Ml;cases hd.Ha;exact⟨0,_,.inl ⟨rfl,rfl⟩,by omega,by omega,gd.1,gd.2,h⟩
 ·obtain⟨gd,h⟩:=Gb.Gn h;have gd:=p_ gd;cases m with
  |cons m1 m2=>obtain⟨x,rfl,hd⟩:=m2.Ml;cases m1.Ha;cases hd.Ha;exact⟨_,_,.inr rfl,gd.1,gd.2.1,gd.2.2.1,gd.2.2.2,h⟩
 ·exact h.no.elim
def Bx (g:Hc Z CX cl xp X ex G){p p' pos pos':Pos}{es:Ç}{args:Ü}(h1:G.Jj 5=Δ)(h2:G.gl.contains 15=Δ)(Hb:iz Z G es args=Δ)(h:PA X args (RA X.K ex (dI es) (iq cl es))) :
  PE X (.Call (.Name "list" p) [.Call (.Name "range" p') args [] pos'] [] pos) (RD X.K ex (dI es) λτ=>FW (iq cl es τ) mW):=by
 obtain⟨k1,k2,k3,k4⟩:=ja g (show iD[5]? = Γ ("list" : Str) from rfl) (lF h1);obtain⟨j1,j2,j3,j4⟩:=ja g (show iD[15]? = Γ ("range" : Str) from rfl) h2
 induction args using zL with
 |nil=>
  induction es using zL with
  |cons _ _=>cases Hb
  |nil=>exact λpins s σ H Q I ⟨S,τ,hs,q⟩=>q.no.elim
 |cons a args=>
  induction es using zL with
  |nil=>cases Hb
  |cons b es=>have G8:(notStar a&&Gw Z G b a&&iz Z G es args)=Δ:=Hb;simp only[a_]at G8;refine iu (sU (g.calm (lG h1)) k1 k2 j1 j2 h (dM G8.1.1 args X.env) (iL Z G (es:=es) pos' X.env G8.2)) λσ H Q Gz=>?_;obtain⟨S,τ,hs,q⟩:=Gz;refine kP (.refl _) hs (Gb.FW q) λds vs H1 e1 _ m1 q1=>?_;obtain⟨lo,b,hv,b1,b2,b3,b4,q2⟩:=qI m1 q1;exact⟨lo,b,hv,b1,b2,b3,b4,λl hl=>q2 _ _ (e1.trans (.upd hl)) (.lst (.inr (e1.free hl)) (.inl gk) (nX lo _))⟩
theorem FZ.rev {K:Frag}  : ∀ {vs:Ë}{ds:Ê},FZ K S H vs ds->FZ K S H vs.reverse ds.reverse
 |[],[],_=>.nil
 |v::vs,d::ds,.cons h t=>by rw[List.reverse_cons,List.reverse_cons];exact(FZ.rev t).append (.cons h .nil)
def By (g:Hc Z CX cl xp X ex G)  (h1:G.Jj 5=Δ)(h2:G.gl.contains 18=Δ)(hn:notStar e=Δ)(ha:PE X e (RD X.K ex va fa)) :
  PE X (.Call (.Name "list" p) [.Call (.Name "reversed" p') [e] [] pos'] [] pos) (RD X.K ex va λτ=>FW (fa τ) vp):=by
 obtain⟨k1,k2,k3,k4⟩:=ja g (show iD[5]? = Γ ("list" : Str) from rfl) (lF h1);obtain⟨j1,j2,j3,j4⟩:=ja g (show iD[18]? = Γ ("reversed" : Str) from rfl) h2;refine iu (sP (g.calm (lG h1)) k1 k2 j1 j2 ha λes=>dM hn es X.env) λσ H Q Gz=>?_;obtain⟨S,τ,hs,q⟩:=Gz;refine iK (.refl _) hs (Gb.FW q) λx v H1 e1 _ m1 q1=>?_
 induction x using zD with
 |lst o ds=>obtain⟨a,ys,rfl,qq,m⟩:=m1.Hs;exact⟨a,ys,rfl,qq,λl hl=>Kk.fit e1 q1 _ _ (.upd hl) (pE hl m.rev)⟩
 |_=>exact q1.no.elim
def rZ (h:kZ d=Δ):∃x,d=.str x:=by
 induction d using zD<;>first|exact⟨_,rfl⟩|cases h
def DI (g:Hc Z CX cl xp X ex G)  {o:Expr}  (hn:nW o=Δ)(hl:(apos.endLine == G7.line)=Δ)(hlen:(a::args).length < 29)(Hq:(G.cm||rT m)=Δ)
  (Hb:iz Z G es (a::args)=Δ) (ho:PE X o (RD X.K ex vo fo)) (h:PA X (a::args) (RA X.K ex (dI es) (iq cl es))) :
  PE X (.Call (.Attribute o (nT m) apos) (a::args) [] G7) (RD X.K ex (vo++dI es) λτ=>FW (fo τ) λx=>Gn (kZ x) (FW (iq cl es τ) λds=>oA m x ds)):=by
 induction es using zL with
 |nil=>cases Hb
 |cons b es=>
  have G8:(notStar a&&Gw Z G b a&&iz Z G es args)=Δ:=Hb;simp only[a_]at G8;have star:=iL Z G (es:=es) G7 X.env G8.2;have mono:∀σ H Q,RD X.K ex (vo++dI (b::es)) (λτ=>FW (fo τ) λx=>Gn (kZ x) (FW (iq cl (b::es) τ) λds=>oA m x ds)) σ H Q->Vq X.K "str" (VV X.K ex m) (RD X.K ex vo fo) (RA X.K ex (dI (b::es)) (iq cl (b::es))) σ H Q:=by rintro σ H Q ⟨S,τ,hs,q⟩;refine iK (.refl _) hs.left (Gb.FW q) λx v H1 e1 _ m1 q1=>?_;obtain⟨gd,q1⟩:=Gb.Gn q1;obtain⟨z,rfl⟩:=rZ gd;cases m1.Hx;refine⟨rfl,kP e1 hs.right (Gb.FW q1) λds vs H2 e2 HX m2 q2=>?_⟩;exact⟨nw S H,.str z,ds,.str z,m2,q2.mono λd hd=>hd.fit e2⟩
  have Js:attributeBase o (nT m) X.env (eval o X.env)=eval o X.env:=by
   induction o using zE with
   |Call f args Iq pos=>
    induction args using zL with
    |nil=>
     induction Iq using zL with
     |nil=>cases hn
     |cons _ _=>cases f<;>rfl
    |cons _ _=>cases f<;>rfl
   |_=>rfl
  have SR:(backTo G7 (Μ (a::args) X.env)).all (λx=>!x.1)=Δ:=by rw[dM G8.1.1];show(Δ&&(backTo G7 (Μ args X.env)).all (λx=>!x.1))=Δ;rw[Bool.true_and,I_];intro y hy;have:=List.any_eq_false.mp star y hy;simpa using this
  have Jt:((backTo G7 (Μ (a::args) X.env)).all (λx=>!x.1)&&(backToKw G7 (keywordEach [] X.env)).all (λx=>x.1.isSome)&&decide ((a::args).length+([]:List Keyword).length+(if([]:List Keyword).isEmpty then 0 else 1) < 30))=Δ:=by rw[SR];have:decide ((a::args).length+([]:List Keyword).length+(if([]:List Keyword).isEmpty then 0 else 1) < 30)=Δ:=A_ (by simp at hlen ⊢;omega);rw[this];rfl
  refine iu ?_ mono;cases m with
  |join=>exact qj PySem.F.plainAttrs_str PySem.F.slot_str_join PySem.F.type_str_join (pG (ex:=ex) .join λz=>by cases z) ho h Js Jt hl (dM G8.1.1 args X.env) star
  |index=>exact qj PySem.F.plainAttrs_str PySem.F.slot_str_index PySem.F.type_str_index (pG (ex:=ex) .index λ_=>g.calm (by rw[L_]at Hq;exact Hq.elim id λz=>by cases z)) ho h Js Jt hl (dM G8.1.1 args X.env) star
  |starts=>exact qj PySem.F.plainAttrs_str PySem.F.slot_str_startswith PySem.F.type_str_startswith (pG (ex:=ex) .starts λz=>by cases z) ho h Js Jt hl (dM G8.1.1 args X.env) star
end
section
variable {Z:Sg}{CX:II}{cl:Ä}{xp:XK->Hp->EX->Prop}{X:Cx}{ex:EX->Prop}{G:Gm}
def pJ {K:Frag}{S:Ψ->Prop}{H:Hp}{w:V}{y:D}{q:Key}(m:Gk K S H w y)(h:nK y=Γ q):w=kV q:=by
 induction y using zD with
 |int i=>cases h;cases m.Ha;rfl
 |str x=>cases h;cases m.Hx;rfl
 |_=>cases h
def vN {K:Frag}{S:Ψ->Prop}{H:Hp}(q:Key):∀(kvs:List (Key×V)) (ds:Ê),FZ K S H (kvs.map (·.2)) ds->
  (∀d,look (kvs.map (·.1)) ds q=Γ d->∃v,mr kvs q=Γ v/\Gk K S H v d)/\(look (kvs.map (·.1)) ds q).isSome=(mr kvs q).isSome:=by
 intro kvs
 induction kvs with
 |nil=>intro ds _;exact⟨λd h=>(by cases h),rfl⟩
 |cons p kvs ih=>
  intro ds m;rw[c_]at m
  induction ds using zL with
  |nil=>exact absurd m.length (by simp)
  |cons d ds=>
   cases m with
   |cons m1 m2=>
    obtain⟨i1,i2⟩:=ih ds m2;have e1:look ((p::kvs).map (·.1)) (d::ds) q=if p.1=q then Γ d else look (kvs.map (·.1)) ds q:=rfl
    rw[e1];unfold mr at i1 i2 ⊢;rw[List.find?_cons];by_cases h:p.1=q
    ·rw[d_ h,A_ h];exact⟨λd' z=>⟨p.2,rfl,by cases z;exact m1⟩,rfl⟩
    ·rw[b_ h,x_ h];exact⟨i1,i2⟩
def Gk.SS {K:Frag}{S:Ψ->Prop}{H:Hp}{v:V}{o:Bool}{ks:List Key}{ds:Ê}(h:Gk K S H v (.G4 o ks ds)):∃a kvs,v=.ref a/\Rd H a (.dK kvs)/\kvs.map (·.1)=ks/\FZ K S H (kvs.map (·.2)) ds:=by
 cases h with
 |G4 h0 h1 h2 h3=>exact⟨_,_,rfl,h1,h2,h3⟩
def Bz {pos:Pos}:PE X (.Dict [] [] pos) (RD X.K ex [] (Gs cl .JE)):=by refine iu qr λσ H Q ⟨S,τ,hs,q⟩=>λp hp=>?_;exact q.ok _ _ (.upd hp) (.G4 (kvs:=[]) (.inr hp) (.inl gk) rfl .nil)
def BA (g:Hc Z CX cl xp X ex G){a b:Expr}{pos:Pos}{va vb:Ã}{fa fb:Ev->Res D}(ha:PE X a (RD X.K ex va fa))(hb:PE X b (RD X.K ex vb fb))(hp:iU b=Δ) :
  PE X (.Subscript a b pos) (RD X.K ex (va++vb) λτ=>FW (fa τ) λx=>FW (fb τ) λy=>qx x y):=by
 have hu:=g.un;refine iu (xX (by omega) ha hb λo i=>by cases b<;>first|rfl|cases hp) λσ H Q Gz=>?_;obtain⟨S,τ,hs,q⟩:=Gz;refine iK (.refl _) hs.left (Gb.FW q) λx v H1 e1 _ m1 q1=>?_;refine iK e1 hs.right (Gb.FW q1) λy w H2 e2 HX m2 q2=>?_
 induction x using zD with
 |G4 o ks ds=>
  have q3:Gb ex (match nK y with|some q=>(match look ks ds q with|some d=>.ok d|none=>Gq)|none=>Gq) (Kk X.K S H Q):=q2;cases hk:nK y with
  |none=>rw[hk]at q3;exact q3.no.elim
  |some k=>
   simp only[hk]at q3;obtain⟨p,kvs,rfl,h1,rfl,h3⟩:=(m1.later HX).SS;cases hl:look (kvs.map (·.1)) ds k with
   |none=>rw[hl]at q3;exact q3.no.elim
   |some d=>rw[hl]at q3;obtain⟨v,hv,mv⟩:=(vN k kvs ds h3).1 d hl;exact⟨p,v,rfl,.inl ⟨kvs,k,h1,pJ m2 hk,hv.symm⟩,q3.ok _ _ e2 mv⟩
 |_=>exact q2.no.elim
end
def BC {Z:Sg}{CX:II}{cl:Ä}{xp:XK->Hp->EX->Prop}{X:Cx}{ex:EX->Prop}{G:Gm}(g:Hc Z CX cl xp X ex G){e:Expr}{p p' pos pos':Pos}{va:Ã}{fa:Ev->Res D}(h1:G.gl.contains 0=Δ)(h2:G.gl.contains 12=Δ)(hn:notStar e=Δ)(Hq:G.cm=Δ)(ha:PE X e (RD X.K ex va fa)) :
  PE X (.Call (.Name "len" p) [.Call (.Name "set" p') [e] [] pos'] [] pos) (RD X.K ex va λτ=>FW (fa τ) sV):=by
 obtain⟨k1,k2,k3,k4⟩:=ja g (show iD[0]? = Γ ("len" : Str) from rfl) h1;obtain⟨j1,j2,j3,j4⟩:=ja g (show iD[12]? = Γ ("set" : Str) from rfl) h2;refine iu (x5 (g.calm Hq) k1 k2 j1 j2 ha λes=>dM hn es X.env) λσ H Q Gz=>?_;obtain⟨S,τ,hs,q⟩:=Gz;refine iK (.refl _) hs (Gb.FW q) λx v H1 e1 _ m1 q1=>?_
 induction x using zD with
 |lst o ds=>
  obtain⟨a,ys,rfl,qq,m⟩:=m1.Hs;have q2:Gb ex (match jC ds with|some ns=>Gn (decide (ns.length < 1000)) (.ok (.int ((ns.foldl Sx.dd []).length:Nat)))|none=>Gq) (Kk X.K S H Q):=q1;cases z:jC ds with
  |none=>rw[z]at q2;exact q2.no.elim
  |some ns=>rw[z]at q2;obtain⟨gd,q3⟩:=Gb.Gn q2;rw[lC z]at m;rw[m.strs]at qq;exact⟨a,ns,rfl,qq,p_ gd,q3.ok _ _ e1 (.int _)⟩
 |_=>exact q1.no.elim
theorem o5 {K:Frag}{S:Ψ->Prop}{H:Hp}(x:Str):∀(fs:List (Str×V)) (ds:Ê),FZ K S H (fs.map (·.2)) ds->∀d,iw (fs.map (·.1)) ds x=Γ d->∃v,fs.lookup x=Γ v/\Gk K S H v d
 |[],_,_,d,h=>by cases h
 | (k,v)::fs,ds,m,d,h=>by
  cases m with
  |cons m1 m2=>
   rename_i d1 KY
   have h:(if k=x then Γ d1 else iw (fs.map (·.1)) KY x)=Γ d:=h;show ∃w,(match x == k with|true=>Γ v|false=>List.lookup x fs)=Γ w/\_;by_cases e:k=x
   ·rw[d_ e]at h;cases h;rw[show(x == k)=Δ by rw[e];exact beq_self_eq_true x];exact⟨v,rfl,m1⟩
   ·rw[b_ e]at h;rw[show(x == k)=Θ from beq_false_of_ne λz=>e z.symm];exact o5 x fs KY m2 d h
theorem jV (x:Str):∀(fs:List (Str×V)),(fs.map (·.1)).contains x=Θ->fs.lookup x=Ξ
 |[],_=>rfl
 | (k,v)::fs,h=>by have h:(x == k||(fs.map (·.1)).contains x)=Θ:=h;rw[Bool.or_eq_false_iff]at h;show(match x == k with|true=>Γ v|false=>List.lookup x fs)=Ξ;rw[h.1];exact jV x fs h.2
section
variable {X:Cx}{pins:List (Ψ×Obj)}{σ:St}{H:Hp}{s:Ω}{a C dx:Ψ}{fs:List (Str×V)}{f:Str}{v:V}{A:Η}{E:Φ->Á}
theorem vO (I:Inv X pins σ H s)(e:Rd H a (.ins C dx fs)):∃mA,Kl s.heap a dx C mA/\∀f,kC (fs.lookup f) (mA f):=by obtain⟨d,z,ne,ob,mA,n,r,q⟩:=e.ok I.G3;exact⟨mA,⟨ob,n,ne⟩,r⟩
theorem r9 {b:Bool}{Q:Φ->Á}(I:Inv X pins σ H s)(e:Rd H a (.ins C dx fs))(c:MG X.K C)(n:kn X.K C f)(l:fs.lookup f=Γ v)
  (h:∀u s',Inv X pins σ H s'->RelV v u->Q u s'):Ι (Κ X.prog X.w) A (getAttr (.ref a) f b) Q E s:=by
 obtain⟨mA,O,r⟩:=vO I e;obtain⟨u,hu,ru⟩:=kC.some_of (v:=v) (o:=mA f) (by rw[<- l];exact r f);exact get_map I.Ig O (c.get f) c.hd n hu (t8 ru) (h u _ (I.tok _) ru)
theorem lH {m:Str}{g:Ψ}{pl:Sem Bool}{Q:Φ×List Φ->Á}(I:Inv X pins σ H s)(e:Rd H a (.ins C dx fs))(c:MG X.K C)(k:Meth X.K C m g)(l:fs.lookup m=Ξ)
  (h:Q (.ref g,[.ref a]) s):Ι (Κ X.prog X.w) A (getMethod (.ref a) m pl) Q E s:=by
 obtain⟨mA,O,r⟩:=vO I e;have hn:mA m=Ξ:=kC.none_of (by rw[<- l];exact r m);exact uW I.Ig O (c.get m) k.at_ k.fn hn h
end
def mJ {prog:Β}{w:Α}{A:Η}{E:Φ->Á}{s:Ω}{env:Env}{o:Expr}{name:Str}{apos pos:Pos}{args:Ü}{Q:Φ->Á}
  (Js:attributeBase o name env (eval o env)=eval o env)
  (Jt:((backTo pos (Μ args env)).all (λx=>!x.1)&&(backToKw pos (keywordEach [] env)).all (λx=>x.1.isSome)
  &&decide (args.length+([]:List Keyword).length+(if([]:List Keyword).isEmpty then 0 else 1) < 30))=Δ)
  (Hm:(apos.endLine == pos.line)=Δ)
  (h:Ι (Κ prog w) A (eval o env) (λov G2=>∀pl,Ι (Κ prog w) A (getMethod ov name pl) (λfx JW=>Ι (Κ prog w) A (callWith pos fx.1 fx.2 (backTo pos (Μ args env)) (backToKw pos (keywordEach [] env))) Q E JW) E G2) E s) :
  Ι (Κ prog w) A (eval (.Call (.Attribute o name apos) args [] pos) env) Q E s:=by
 rw[arm_eval_Call,Js];refine i_ (wpAny_mono h (λov G2 Ko=>?_) λ_ _ e=>e);refine i_ (wpAny_standAt ?_);have P':methodCallForm (args.length+([]:List Keyword).length) (backTo pos (Μ args env)) (backToKw pos (keywordEach [] env))=Δ:=Jt;have Qa:methodCallPos Δ o env apos pos=pure pos:=by unfold methodCallPos;simp[Hm]
 unfold methodCall;rw[P'];refine i_ (N_ (wpAny_mono (Ko _) (λfx JW J0=>?_) λ_ _ x=>x));exact i_ (wpAny_of_eq Qa J0)
def kK {o:Expr}{x:Str}{env:Env}(hn:pI o=Δ):attributeBase o x env (eval o env)=eval o env:=by
 induction o using zE with
 |Name _ _=>rfl
 |Attribute _ _ _=>rfl
 |_=>exact dH hn
section
variable {Z:Sg}{CX:II}{cl:Ä}{xp:XK->Hp->EX->Prop}{X:Cx}{ex:EX->Prop}{G:Gm}
def lX {e:Expr}{f:Str}{pos:Pos}{ta:TE}(he:PE X e ta)(hb:attributeBase e f X.env (eval e X.env)=eval e X.env) :
  PE X (.Attribute e f pos) (λσ H Q=>ta σ H λx H1=>∃a C dx fs v,x=.ref a/\Rd H1 a (.ins C dx fs)/\MG X.K C/\kn X.K C f/\fs.lookup f=Γ v/\Q v H1):=by
 intro pins s σ H Q I h;refine xM hb (G5 (he pins s σ H _ I h) λu s1 ⟨x,H1,I1,rx,a,C,dx,fs,v,ex,ea,c,n,l,q⟩=>?_);subst ex;obtain rfl:u=η a:=rx;exact r9 I1 ea c n l λu' s2 I2 ru=>⟨v,H1,I2,ru,q⟩
def Gk.Qb {K:Frag}{S:Ψ->Prop}{H:Hp}{v:V}{o:Bool}{c:Str}{ks:Â}{ds:Ê}(h:Gk K S H v (.obj o c ks ds)):∃a C dx fs,v=.ref a/\Rd H a (.ins C dx fs)/\OC K c C/\fs.map (·.1)=ks/\FZ K S H (fs.map (·.2)) ds:=by
 cases h with
 |obj h0 h1 h2 h3=>exact⟨_,_,_,_,rfl,h1,h2.1,h2.2,h3⟩
def BD (g:Hc Z CX cl xp X ex G){o:Expr}{x:Str}{cs:Â}{pos:Pos}{va:Ã}{fa:Ev->Res D}(hn:pI o=Δ)(hx:Z.JF.contains x=Δ)(hc:cs.all (λc=>Z.HE.contains c)=Δ)(ha:PE X o (RD X.K ex va fa)) :
  PE X (.Attribute o x pos) (RD X.K ex va λτ=>FW (fa τ) (yh x cs)):=by
 refine iu (lX ha (kK hn)) λσ H Q Gz=>?_;obtain⟨S,τ,hs,q⟩:=Gz;refine iK (.refl _) hs (Gb.FW q) λd v H1 e1 _ m1 q1=>?_
 induction d using zD with
 |obj o c ks ds=>
  obtain⟨gd,q2⟩:=Gb.Gn (show Gb ex (Gn (cs.contains c) (match iw ks ds x with|some d=>.ok d|none=>Gq)) (Kk X.K S H Q) from q1);obtain⟨a,C,dx,fs,rfl,h1,h2,rfl,h3⟩:=m1.Qb;have Jc:c∈Z.HE:=by have:=I_.mp hc c (List.contains_iff_mem.mp gd);exact List.contains_iff_mem.mp this
  obtain⟨k1,k2⟩:=g.KI c Jc C h2;cases hl:iw (fs.map (·.1)) ds x with
  |none=>rw[hl]at q2;exact q2.no.elim
  |some d=>rw[hl]at q2;obtain⟨v,hv,mv⟩:=o5 x fs ds h3 d hl;exact⟨a,C,dx,fs,v,rfl,h1,k1,k2 x (List.contains_iff_mem.mp hx),hv,q2.ok _ _ e1 mv⟩
 |_=>exact q1.no.elim
def sd {es:Ç}{args:Ü}{pos:Pos}{env:Env}(Hb:iz Z G es args=Δ)(hlen:args.length < 29) :
  ((backTo pos (Μ args env)).all (λx=>!x.1)&&(backToKw pos (keywordEach [] env)).all (λx=>x.1.isSome)
  &&decide (args.length+([]:List Keyword).length+(if([]:List Keyword).isEmpty then 0 else 1) < 30))=Δ:=by
 have h1:(backTo pos (Μ args env)).all (λx=>!x.1)=Δ:=by
  have:=iL Z G (es:=es) pos env Hb;rw[I_];intro y hy;have h2:¬((backTo pos (Μ args env)).any (·.1)=Δ):=by rw[this];simp
  rw[List.any_eq_true]at h2;cases hz:y.1 with
  |false=>rfl
  |true=>exact absurd ⟨y,hy,hz⟩ h2
 rw[h1,Bool.true_and];show(Δ&&decide (args.length+0+0 < 30))=Δ;rw[Bool.true_and];exact A_ (by omega)
def BE (g:Hc Z CX cl xp X ex G){f:Nat}{m c:Str}{o:Expr}{ap pos:Pos}{va:Ã}{fa:Ev->Res D}{es:Ç}{args:Ü}(hn:pI o=Δ)(Hm:(ap.endLine == pos.line)=Δ)(hlen:args.length < 29)(hf:(f,c,m)∈Z.Ox)(Jc:c∈Z.HE)(Hq:G.cm=Δ)
  (Hb:iz Z G es args=Δ) (ha:PE X o (RD X.K ex va fa)) (h:PA X args (RA X.K ex (dI es) (iq cl es))) :
  PE X (.Call (.Attribute o m ap) args [] pos) (RD X.K ex (va++dI es) λτ=>FW (fa τ) λx=>Gn (jE c m x) (FW (iq cl es τ) λds=>cl f (er x::Gr ds))):=by
 obtain⟨k,MO,fd,ps,hm,hb,F,hr,JQ⟩:=(g.fmt f c m hf Hq).ex;obtain⟨E,hP,hE⟩:=g.O7;intro pins s σ H Q I q;obtain⟨S,τ,hs,q⟩:=q;have fin:∀(us:List Φ) (s1:Ω) (vs:Ë) (H1:Hp) (ds:Ê),Inv X pins σ H1 s1->Vals vs us->ip H H1->FZ X.K (nw S H) H1 vs ds->Gb ex (cl f (Gr ds)) (Kk X.K S H Q)->Ι (Κ X.prog X.w) X.A (call (.ref MO) us) (EP X pins σ Q) X.xe s1:=by
  intro us s1 vs H1 ds I1 r e m q1;have hl:=JQ ex _ _ q1;rw[iB]at hl;refine nc F hr hb hP g.MI I1 r (by rw[m.length];exact hl) (Fc:=λa=>nw S H a/\H1 a≠Ξ) (λa z=>z.2) m.IW ?_;cases z:cl f (Gr ds) with
  |error er=>
   rw[z]at q1;cases er with
   |stuck=>exact q1.no.elim
   |exc c=>exact hE c _ q1
  |ok d=>
   rw[z]at q1;intro v H' F' fv o;refine q1.ok _ _ (e.trans o.same) (o.rep.read (λa ha=>?_) λa ha=>?_)
   ·rcases o.out a ha with z|z
    ·exact z.1
    ·exact .inr (e.free z)
   ·exact .inr (e.free (o.new a ha))
 refine mJ (kK hn) (sd Hb hlen) Hm ?_;refine G5 (ha pins s σ H (λv H1=>∃a C dx fs d,v=.ref a/\Rd H1 a (.ins C dx fs)/\OC X.K c C/\fs.lookup m=Ξ/\ip H H1/\Gk X.K (nw S H) H1 v d/\Gb ex (FW (iq cl es τ) λds=>cl f (er d::Gr ds)) (Kk X.K S H Q)) I ?_) λu s1 ⟨x,H1,I1,rx,a,C,dx,fs,d,Ov,ea,oc,l,e1,md,q1⟩ pl=>?_
 ·refine iK (.refl _) hs.left (Gb.FW q) λd v H1 e1 _ m1 q1=>?_;obtain⟨gd,q2⟩:=Gb.Gn q1
  induction d using zD with
  |obj o c' ks ds=>have LM:(c == c'&&!ks.contains m)=Δ:=gd;rw[a_]at LM;have e0:=f_ LM.1;subst e0;obtain⟨a,C,dx,fs,rfl,h1,h2,rfl,h3⟩:=m1.Qb;exact⟨a,C,dx,fs,_,rfl,h1,h2,jV m fs (by simpa using LM.2),e1,m1,q2⟩
  |_=>exact dH gd
 ·subst Ov;obtain rfl:u=η a:=rx;obtain⟨k1,_⟩:=g.KI c Jc C oc;have MP:=hm C oc;refine lH I1 ea k1 MP l ?_
  induction args using zL with
  |nil=>
   induction es using zL with
   |cons _ _=>cases Hb
   |nil=>exact PySem.W.callWith_K0 (first:=[.ref a]) I1.Ig MP.kp (fin [.ref a] s1 [.ref a] H1 [d] I1 (.cons rfl .nil) e1 (.cons md .nil) q1)
  |cons e l'=>
   induction es using zL with
   |nil=>cases Hb
   |cons b r=>
    have G8:(notStar e&&Gw Z G b e&&iz Z G r l')=Δ:=Hb;simp only[a_]at G8;refine PySem.W.callWith_K (first:=[.ref a]) (h₀:=X.base) I.ok.mod.MD MP.kp (G5 (h pos pins s1 σ H1 (λvs H2=>∃ds,ip H H2/\FZ X.K (nw S H) H2 (.ref a::vs) (d::ds)/\Gb ex (cl f (er d::Gr ds)) (Kk X.K S H Q)) I1 ?_) λus s2 ⟨vs,H2,I2,rr,ds,e2,m2,q2⟩=>⟨I2.Ig,?_⟩) (dM G8.1.1 l' X.env) (iL Z G (es:=r) pos X.env G8.2)
    ·exact kP e1 hs.right (Gb.FW q1) λds vs H2 e2 HX m2 q2=>⟨ds,e2,.cons (md.mono (λ_ z=>z) HX) m2,q2⟩
    ·exact fin (.ref a::us) s2 (.ref a::vs) H2 (d::ds) I2 (.cons rfl rr) e2 m2 q2
end
section
variable {K:Frag}{S:Ψ->Prop}{H:Hp}
def has_any (kvs:List (Key×V))(q:Key):(kvs.any λkv=>decide (kv.1=q))=uk (kvs.map (·.1)) q:=by unfold uk;rw[List.any_map];rfl
def zY (kvs:List (Key×V))(q:Key)(v:V):(putK kvs q v).map (·.1)=nO (kvs.map (·.1)) q:=by
 unfold putK nO;rw[has_any];by_cases h:uk (kvs.map (·.1)) q=Δ
 ·rw[d_ h,d_ h,V_];refine List.map_congr_left λkv _=>?_;show(if kv.1=q then(kv.1,v) else kv).1=kv.1;split<;>rfl
 ·rw[b_ h,b_ h,G_];rfl
def Li (q:Key){v:V}{d:D}(mv:Gk K S H v d){kvs:List (Key×V)}{ds:Ê}(m:FZ K S H (kvs.map (·.2)) ds):FZ K S H ((putK kvs q v).map (·.2)) (mV (kvs.map (·.1)) ds q d):=by
 unfold putK mV;rw[has_any];by_cases h:uk (kvs.map (·.1)) q=Δ
 ·rw[d_ h,d_ h,V_];clear h
  induction kvs generalizing ds with
  |nil=>cases m;exact .nil
  |cons p kvs ih=>
   rw[c_]at m
   induction ds using zL with
   |nil=>exact absurd m.length (by simp)
   |cons e ds=>
    cases m with
    |cons m1 m2=>
     rw[c_,c_,List.zipWith_cons_cons];refine .cons ?_ (ih m2);show Gk K S H (if p.1=q then(p.1,v) else p).2 (if p.1=q then d else e);split
     ·exact mv
     ·exact m1
 ·rw[b_ h,b_ h,G_];exact m.append (.cons mv .nil)
def yv:∀ {ds:Ê}{ps:List (Key×D)}{xs:Ë},FZ K S H xs ds->oS ds=Γ ps->∃as kvs,xs=as.map V.ref/\JJ K H as kvs/\kvs.map (·.1)=ps.map (·.1)/\FZ K S H (kvs.map (·.2)) (ps.map (·.2)):=by
 intro ds
 induction ds with
 |nil=>intro ps xs m h;cases h;cases m;exact⟨[],[],rfl,.nil,rfl,.nil⟩
 |cons d r ih=>
  intro ps xs m h;cases m with
  |cons m1 m2=>
   unfold oS at h;split at h
   ·rename_i _ e;cases e
   ·rename_i _ k v r' e
    cases e;split at h
    ·rename_i q VZ hq Qc
     cases h;obtain⟨as,kvs,rfl,h1,h2,h3⟩:=ih m2 Qc;obtain⟨a,ys,rfl,ht,mt⟩:=m1.HZ;cases mt with
     |cons n1 mt=>
      cases mt with
      |cons n2 mt=>cases mt;have ek:=pJ n1 hq;subst ek;exact⟨a::as,(q,_)::kvs,rfl,.cons ht h1,by rw[c_,c_,h2],.cons n2 h3⟩
    ·cases h
   ·cases h
theorem tF:∀(more:List (Key×V)) (ps:List (Key×D)) (kvs:List (Key×V)) (ds:Ê),more.map (·.1)=ps.map (·.1)->FZ K S H (more.map (·.2)) (ps.map (·.2))->FZ K S H (kvs.map (·.2)) ds->
  (kY kvs more).map (·.1)=(Oq ps (kvs.map (·.1)) ds).1/\FZ K S H ((kY kvs more).map (·.2)) (Oq ps (kvs.map (·.1)) ds).2
 |[],[],kvs,ds,_,_,m=>⟨rfl,m⟩
 |p::more,[],_,_,h,_,_=>by cases h
 |[],q::ps,_,_,h,_,_=>by cases h
 | (k,v)::more,(q,d)::ps,kvs,ds,h,m1,m=>by
  rw[c_,c_,List.cons.injEq]at h;have e:k=q:=h.1;subst e;cases m1 with
  |cons n1 n2=>have:=tF more ps (putK kvs k v) (mV (kvs.map (·.1)) ds k d) h.2 n2 (Li k n1 m);rw[zY]at this;exact this
end
def BF {Z:Sg}{CX:II}{cl:Ä}{xp:XK->Hp->EX->Prop}{X:Cx}{ex:EX->Prop}{G:Gm}(g:Hc Z CX cl xp X ex G){a:Expr}{p pos:Pos}{va:Ã}{fa:Ev->Res D}(O9:G.Jj 19=Δ)(hn:notStar a=Δ)(ha:PE X a (RD X.K ex va fa)) :
  PE X (.Call (.Name "dict" p) [a] [] pos) (RD X.K ex va λτ=>FW (fa τ) sW):=by
 obtain⟨k1,k2,k3,k4⟩:=ja g (show iD[19]? = Γ ("dict" : Str) from rfl) (lF O9);refine iu (mi (T:="dict") (rM (g.calm (lG O9))) k1 k2 ∅ (iF ha jn (dM hn _ _)) k3 k4 (dM hn _ _) rfl) λσ H Q Gz=>?_;obtain⟨S,τ,hs,q⟩:=Gz;refine iK (.refl _) hs (Gb.FW q) λd v H1 e1 _ m1 q1=>?_
 induction d using zD with
 |lst o ds=>
  obtain⟨p,xs,rfl,hq,mm⟩:=m1.Hs;have q2:Gb ex (match oS ds with|some ps=>.ok (.G4 Δ (Oq ps [] []).1 (Oq ps [] []).2)|none=>Gq) (Kk X.K S H Q):=q1;cases z:oS ds with
  |none=>rw[z]at q2;exact q2.no.elim
  |some ps=>rw[z]at q2;obtain⟨as,kvs,rfl,hp,hk,hv⟩:=yv mm z;refine⟨p,as,kvs,rfl,hq,hp,λa ha=>?_⟩;obtain⟨r1,r2⟩:=tF kvs ps [] [] hk hv .nil;exact q2.ok _ _ (e1.trans (.upd ha)) (.G4 (.inr (e1.free ha)) (.inl gk) r1 (r2.mono (λ_ z=>z) (.upd ha)))
 |_=>exact q1.no.elim
theorem nY (Jf:t≠it):∀(n i:Nat) (s:Ω) (Q:List Φ->Á),s.heap.IsListIter it t i->s.heap.IsList t items->i+n<=items.size->
  (∀h',h'.IsListIter it t (i+n)->Heap.SameBut it s.heap h'->Q ((items.toList.drop i).take n) {s with heap:=h'})->Ι (Κ prog w) A (draw (.ref it) n) Q E s
 |0,i,s,Q,hit,_,_,hQ=>by show Ι _ _ (pure []) Q E s;exact o_ (by simpa using hQ s.heap hit (Heap.SameBut.refl ..))
 |n+1,i,s,Q,hit,ht,hle,hQ=>by
  have HY:i < items.size:=by omega
  show Ι _ _ (pyNext (.ref it) >>= _) Q E s;refine i_ (wpAny_pyNext_list_item hit ht (x:=items[i]) (by simp[HY]) λKo KZ Kw=>?_);refine i_ (N_ (nY Jf n (i+1) _ _ KZ (ht.extBut Kw.extBut Jf) (by omega) λJ0 Oz Qd=>o_ ?_));have hd:items.toList.drop i=items[i]::items.toList.drop (i+1):=by simp[List.drop_eq_getElem_cons,HY]
  have:=hQ J0 (by rw[show i+(n+1)=i+1+n by omega];exact Oz) (Kw.trans Qd);rw[hd,List.take_succ_cons]at this;exact this
def mK (hh:A.handled=Ξ)(ht:s.heap.IsList t items)
  (hQ:∀h',Heap.ExtBut s.heap.objs.size s.heap h'->Q items.toList {s with heap:=h'}):Ι (Κ prog w) A (unpackItems (.ref t) items.size Ξ) Q E s:=by
 have HY:t≠s.heap.objs.size:=by obtain⟨o,ho,_⟩:=ht;exact s_ (m_ ho)
 have push:∀o,(s.heap.push o).IsList t items:=λo=>by obtain⟨ob,e,c,n,d⟩:=ht;exact⟨ob,r_ _ e,c,n,d⟩
 unfold unpackItems;refine i_ ?_
 ·unfold notIterableAtAll;refine i_ (wpAny_specialOf ht.typeIs slot_list_iter.lookup ?_);refine o_ ?_;simp only[Bool.false_eq_true,if_false];refine i_ (N_ (aag ht ?_));refine i_ (N_ (nY HY items.size 0 _ _ ⟨_,D_ _ rfl,rfl,rfl⟩ (push _) (by omega) λKo KZ Kw=>?_));have KQ:List.take items.size (List.drop 0 items.toList)=items.toList:=by rw[List.drop_zero];exact List.take_of_length_le (by simp)
  rw[KQ];rw[b_ (by simp)];have Qe:Ko.IsList t items:=(push _).extBut Kw.extBut HY;refine i_ (N_ (wpAny_pyNext_list_end hh KZ Qe (by simp) λJ0 Qf=>?_));simp only[Option.isSome_none,Bool.false_eq_true,if_false];refine o_ (hQ J0 λb o hb e=>Qf b o hb (Kw.extBut b o hb (r_ _ e)))
def DJ (K:Frag)(n:Nat)(t:OW):TG:=λv σ H Q=>∃a xs,v=.ref a/\(HK K H a xs∨HJ K H a xs)/\xs.length=n/\t xs σ H Q
def BG (hc:X.calm=Δ)(h:Py X es t)(hn:(assignEach es X.env).length=n)(Hb:(assignEach es X.env).findIdx? (·.1)=Ξ):PG X (.Tuple es k pos) (DJ X.K n t):=by
 intro pins s σ H v u Q I r hw;obtain⟨a,xs,e1,hq,hl,hw⟩:=hw;subst e1;cases r;rcases hq with hq|hq
 ·obtain⟨its,rv,ht,hz⟩:=I.tuple hq;refine assign_Tuple_tuple (I.ok.hd hc) ht (by simp[hn,<- hl,rv.length]) Hb λh' hx=>?_;have I1:Inv X pins σ H {s with heap:=h'}:=I.kept (t':=s.toks) λb o e=>hx b o (s_ (m_ e)) e;exact h pins _ σ H xs _ Q I1 (by simpa using rv) hw
 ·obtain⟨its,rv,pl,hz⟩:=I.list hq;rw[assign_Tuple];refine i_ (wpAny_standAt ?_);unfold unpack;have hlen:(assignEach es X.env).length=its.toArray.size:=by simp[hn,<- hl,rv.length]
  rw[hlen,Hb];refine i_ (N_ (mK (I.ok.hd hc) pl.isList λh' hx=>?_));have I1:Inv X pins σ H {s with heap:=h'}:=I.kept (t':=s.toks) λb o e=>hx b o (s_ (m_ e)) e;exact h pins _ σ H xs _ Q I1 (by simpa using rv) hw
mutual
def gT (K:Frag):Tg->TG
 |.nm i=>uO i
 |.tp ts=>DJ K ts.length (Qg K ts)
def Qg (K:Frag):List Tg->OW
 |[]=>C3
 |t::ts=>zK (gT K t) (Qg K ts)
end
def lY (h:notStar e=Δ)(es:Ü)(env:Env):assignEach (e::es) env=(Θ,assign e env)::assignEach es env:=by
 induction e using zE<;>first|rfl|cases h
section
variable {Z:Sg}{CX:II}{cl:Ä}{xp:XK->Hp->EX->Prop}{X:Cx}{ex:EX->Prop}{G:Gm}
theorem nZ (G:Gm):∀ {ts:List Tg}{es:Ü} (env:Env),kW G ts es=Δ->(assignEach es env).length=ts.length/\(assignEach es env).findIdx? (·.1)=Ξ
 |[],[],_,_=>⟨rfl,rfl⟩
 |t::ts,e::es,env,h=>by have h':(notStar e&&i8 G t e&&kW G ts es)=Δ:=h;simp only[a_]at h';obtain⟨h1,h2⟩:=nZ G (ts:=ts) (es:=es) env h'.2;rw[lY h'.1.1];refine⟨by rw[List.length_cons,h1,List.length_cons],?_⟩;rw[List.findIdx?_cons,b_ (by simp),h2];rfl
 |[],_::_,_,h=>by cases h
 |_::_,[],_,h=>by cases h
mutual
theorem ND (g:Hc Z CX cl xp X ex G):∀(t:Tg) (e:Expr),i8 G t e=Δ->PG X e (gT X.K t)
 |.nm i,e,h=>by
  induction e using zE with
  |Name x pos=>
   have h':(G.N[i]? == Γ x&&(G.kd[i]? == Γ .local||(G.df&&G.kd[i]? == Γ .cell)))=Δ:=(aab.mp h).1;rw[a_,L_,a_]at h';obtain⟨h1,h2⟩:=h';have hx:G.N[i]? = Γ x:=f_ h1;have hk:=g.kd i x hx;refine xF (by rw[g.N];exact g.He) (by rw[g.N];exact hx) ?_ ?_
   ·rcases h2 with h2|h2
    ·exact .inl (hk.trans (f_ h2))
    ·exact .inr (hk.trans (f_ h2.2))
   ·rcases h2 with h2|h2
    ·exact .inr (hk.trans (f_ h2))
    ·exact .inl (g.df h2.1 x)
  |_=>cases h
 |.tp ts,e,h=>by
  induction e using zE with
  |Tuple es k pos=>have h0:(G.cm&&kW G ts es)=Δ:=h;rw[a_]at h0;have h':=h0.2;obtain⟨h1,h2⟩:=nZ G X.env h';exact BG (g.calm h0.1) (DK g ts es h') h1 h2
  |_=>cases h
theorem DK (g:Hc Z CX cl xp X ex G):∀(ts:List Tg) (es:Ü),kW G ts es=Δ->Py X es (Qg X.K ts)
 |[],[],_=>xG
 |t::ts,e::es,h=>by have h':(notStar e&&i8 G t e&&kW G ts es)=Δ:=h;simp only[a_]at h';exact uP (ND g t e h'.1.2) (DK g ts es h'.2) (by rw[lY h'.1.1];rfl)
 |[],_::_,h=>by cases h
 |_::_,[],h=>by cases h
end
end
mutual
theorem kx {G:Gm}:∀(t:Tg) (e:Expr),i8 G t e=Δ->∀j∈Jw t,pinned G.pn j=Θ
 |.nm i,e,h,j,hj=>by
  induction e using zE with
  |Name x pos=>
   have h':=(aab.mp (show((G.N[i]? == Γ x&&(G.kd[i]? == Γ .local||(G.df&&G.kd[i]? == Γ .cell)))&&!pinned G.pn i)=Δ from h)).2;have e:j=i:=by simpa[Jw] using hj
   subst e;simpa using h'
  |_=>cases h
 |.tp ts,e,h,j,hj=>by
  induction e using zE with
  |Tuple es k pos=>have h0:(G.cm&&kW G ts es)=Δ:=h;exact qJ ts es (aab.mp h0).2 j hj
  |_=>cases h
theorem qJ {G:Gm}:∀(ts:List Tg) (es:Ü),kW G ts es=Δ->∀j∈qG ts,pinned G.pn j=Θ
 |[],_,_,j,hj=>by cases hj
 |t::ts,[],h,_,_=>by cases h
 |t::ts,e::es,h,j,hj=>by
  have h':(notStar e&&i8 G t e&&kW G ts es)=Δ:=h;simp only[a_]at h';rcases t_.mp (show j∈Jw t++qG ts from hj) with hj|hj
  ·exact kx t e h'.1.2 j hj
  ·exact qJ ts es h'.2 j hj
end
def Pb (K:Frag)(S:Ψ->Prop)(H:Hp)(σ:St)(τ:Ev):Prop:=τ.length=σ.length/\∀i d,dJ τ i=Γ d->∃v,σ[i]? = Γ (Γ v)/\Gk K S H v d
def uy {o:À}:dJ (τ.set i o) j=if i=j/\i < τ.length then o else dJ τ j:=by
 unfold dJ;rw[List.getElem?_set];by_cases h:i=j
 ·subst h;by_cases h2:i < τ.length
  ·simp[h2]
  ·rw[d_ rfl,b_ h2,b_ (by omega)];rw[List.getElem?_eq_none (by omega)]
 ·rw[b_ h,b_ (by omega)]
section
variable {K:Frag}{S:Ψ->Prop}{H:Hp}{ex:EX->Prop}
mutual
theorem tG:∀(t:Tg) {σ:St}{τ:Ev}{v:V}{d:D}{Kt:Ev->Prop}{Q:St->Hp->Prop},Pb K S H σ τ->Gk K S H v d->Gb ex (jo t d τ) Kt->
  (∀Gv G1,Pb K S H G1 Gv->G1.length=σ.length->(∀j,j∉Jw t->G1[j]? = σ[j]?)->Kt Gv->Q G1 H)->gT K t v σ H Q
 |.nm i,σ,τ,v,d,Kt,Q,hs,m,h,k=>by
  refine k (τ.set i (Γ d)) (σ.set i (Γ v)) ⟨by rw[List.length_set,List.length_set,hs.1],λj e z=>?_⟩ (by rw[List.length_set]) (λj hj=>?_) h.ok
  ·rw[uy]at z;by_cases q:i=j/\i < τ.length
   ·rw[d_ q]at z;obtain⟨rfl,q⟩:=q;cases z;exact⟨v,by rw[List.getElem?_set_self (by rw[<- hs.1];exact q)],m⟩
   ·rw[b_ q]at z;obtain⟨w,h1,h2⟩:=hs.2 j e z;refine⟨w,?_,h2⟩;by_cases q2:i=j
    ·subst q2;exfalso;have:i < σ.length:=by have:=(v_.mp h1).1;exact this
     exact q ⟨rfl,by rw[hs.1];exact this⟩
    ·rw[aak q2];exact h1
  ·have:i≠j:=λz=>hj (by subst z;simp[Jw]);rw[aak this]
 |.tp ts,σ,τ,v,d,Kt,Q,hs,m,h,k=>by
  induction d using zD with
  |tup ds=>obtain⟨a,xs,rfl,q,ms⟩:=m.HZ;obtain⟨g,h⟩:=Gb.Gn h;have g':ds.length=ts.length:=p_ g;exact⟨a,xs,rfl,.inl q,by rw[ms.length,g'],n4 ts hs ms h k⟩
  |lst o ds=>obtain⟨a,xs,rfl,q,ms⟩:=m.Hs;obtain⟨g,h⟩:=Gb.Gn h;have g':ds.length=ts.length:=p_ g;exact⟨a,xs,rfl,.inr q,by rw[ms.length,g'],n4 ts hs ms h k⟩
  |_=>exact h.no.elim
theorem n4:∀(ts:List Tg) {σ:St}{τ:Ev}{vs:Ë}{ds:Ê}{Kt:Ev->Prop}{Q:St->Hp->Prop},Pb K S H σ τ->FZ K S H vs ds->Gb ex (kU ts ds τ) Kt->
  (∀Gv G1,Pb K S H G1 Gv->G1.length=σ.length->(∀j,j∉qG ts->G1[j]? = σ[j]?)->Kt Gv->Q G1 H)->Qg K ts vs σ H Q
 |[],σ,τ,vs,ds,Kt,Q,hs,m,h,k=>by
  cases m with
  |nil=>exact⟨rfl,k τ σ hs rfl (λ_ _=>rfl) h.ok⟩
  |cons _ _=>exact h.no.elim
 |t::ts,σ,τ,vs,ds,Kt,Q,hs,m,h,k=>by
  cases m with
  |nil=>exact h.no.elim
  |cons m1 m2=>
   refine⟨_,_,rfl,tG t hs m1 (Gb.FW h) λGv G1 Pc hn hk h'=>?_⟩;refine n4 ts Pc m2 h' λOA OB SU JU Su SV=>k OA OB SU (JU.trans hn) (λj hj=>?_) SV;have Ra:j∉Jw t/\j∉qG ts:=by constructor<;>(intro z;apply hj;simp[qG,z])
   rw[Su j Ra.2,hk j Ra.1]
end
end
section
variable {K:Frag}{S S':Ψ->Prop}{H H':Hp}{J:It}{ds:Ê}
def WS.step (hl:∀a (u:LD),S a->Rd H a u.o->S' a/\Rd H' a u.o)(ht:∀a xs,HB K H a xs->HB K H' a xs)  (h:WS K S H k a xs):WS K S' H' k a xs:=by
 cases k with
 |l=>
  rcases h with h|h|⟨c,e,h⟩
  ·exact .inl (hl _ (.l _) h.1 h.2)
  ·exact .inr (.inl h)
  ·exact .inr (.inr ⟨c,e,ht _ _ h⟩)
 |t=>exact ht _ (.inl _) h
def qK (ds:Ê):(mB ds).length=ds.length:=by unfold mB;rw[List.length_zipWith,U_,Nat.min_self]
def o6 (ds:Ê):(jL ds).length=ds.length:=by unfold jL;rw[List.length_zipWith,U_,Nat.min_self]
theorem Jb.step (hl:∀a (u:LD),S a->Rd H a u.o->S' a/\Rd H' a u.o)(ht:∀a xs,HB K H a xs->HB K H' a xs)(h:Jb K S H J ds):Jb K S' H' J ds:=by
 cases h with
 |lst h0 h1 h2=>exact .lst (hl _ (.l _) h0 h1).1 (hl _ (.l _) h0 h1).2 (h2.step hl ht)
 |lstK h1 h2=>exact .lstK h1 (h2.step hl ht)
 |tup h1 h2=>exact .tup (ht _ (.inl _) h1) (h2.step hl ht)
 |MN c h=>exact .MN c (ht _ _ h)
 |Ln lo hi=>exact .Ln lo hi
 |str x=>exact .str x
 |J4 h1 h2=>exact .J4 (h1.step hl ht) (h2.step hl ht)
 |KW h1 h2=>exact .KW (h1.step hl ht) (h2.step hl ht)
def Jb.mono (h:Jb K S H J ds)(hS:∀a,S a->S' a)(e:ip H H'):Jb K S' H' J ds:=h.step (λa xs s r=>⟨hS a s,e.rd r⟩) λa xs s=>e.IQ s
def n5 (x:Str):(jD x).length=x.cps.size:=by unfold jD;simp
def jy (a b:Int):(iW a b).length=(b - a).toNat:=by unfold iW;simp
theorem Jb.stop (h:Jb K S H J ds)  (hi:ds.length=i):J.stop i H:=by
 cases h with
 |lst h0 h1 h2=>exact⟨_,.inl (.inl h1),by rw[h2.length];omega⟩
 |MN c h=>exact⟨_,.inl (.inr h),by rw[h_]at hi ⊢;omega⟩
 |lstK h1 h2=>exact⟨_,h1.sq,by rw[h2.length];omega⟩
 |tup h1 h2=>exact⟨_,h1,by rw[h2.length];omega⟩
 |Ln lo KG=>rw[jy]at hi;exact Nat.le_of_eq hi
 |str x=>rw[n5]at hi;exact Nat.le_of_eq hi
 |J4 h1 h2=>exact⟨_,h1.sq,by rw[qK]at hi;rw[h2.length];omega⟩
 |KW h1 h2=>exact⟨_,h1.sq,by rw[o6]at hi;rw[h2.length];exact hi⟩
theorem Jb.go (h:Jb K S H J ds)  (hi:i < ds.length):J.go i H:=by
 cases h with
 |lst h0 h1 h2=>obtain⟨v,hv,_⟩:=h2.get (i:=i) (d:=ds[i]) (by simp[hi]);exact⟨_,v,.inl (.inl h1),hv⟩
 |MN c h=>obtain⟨v,hv,_⟩:=(FZ.Il (K:=K) (S:=S) (H:=H) c).get (i:=i) (d:=(c.map D.int)[i]) (K_ hi);exact⟨_,v,.inl (.inr h),hv⟩
 |lstK h1 h2=>obtain⟨v,hv,_⟩:=h2.get (i:=i) (d:=ds[i]) (by simp[hi]);exact⟨_,v,h1.sq,hv⟩
 |tup h1 h2=>obtain⟨v,hv,_⟩:=h2.get (i:=i) (d:=ds[i]) (by simp[hi]);exact⟨_,v,h1,hv⟩
 |Ln lo KG=>rw[jy]at hi;exact hi
 |str x=>rw[n5]at hi;exact hi
 |J4 h1 h2=>
  rename_i ds'
  rw[qK]at hi;obtain⟨v,hv,_⟩:=h2.get (i:=i) (d:=ds'[i]) (by rw[K_]);exact⟨_,v,h1.sq,hv⟩
 |KW h1 h2=>
  rename_i ds'
  rw[o6]at hi;obtain⟨v,hv,_⟩:=h2.get (i:=i) (d:=ds'[i]) (by rw[K_]);exact⟨_,v,h1.sq,hv⟩
theorem Jb.MZ (h:Jb K S H J ds)  (y:J.MZ i H x H2)  (hd:ds[i]? = Γ d):ip H H2/\Gk K S H2 x d:=by
 have fin:∀ {xs:Ë},FZ K S H xs ds->xs[i]? = Γ x->Gk K S H x d:=λm e=>by obtain⟨d',e',m'⟩:=m.Oj e;rw[hd]at e';cases e';exact m'
 cases h with
 |lst h0 h1 h2=>obtain⟨e,y⟩:=y;subst e;exact⟨.refl _,fin h2 (y _ (.inl (.inl h1)))⟩
 |MN c h=>obtain⟨e,y⟩:=y;subst e;exact⟨.refl _,fin (.Il c) (y _ (.inl (.inr h)))⟩
 |lstK h1 h2=>obtain⟨e,y⟩:=y;subst e;exact⟨.refl _,fin h2 (y _ h1.sq)⟩
 |tup h1 h2=>obtain⟨e,y⟩:=y;subst e;exact⟨.refl _,fin h2 (y _ h1)⟩
 |J4 h1 h2=>obtain⟨T,a,e1,hT,e2,hy⟩:=y;subst e1 e2;have y1:=hy _ h1.sq;obtain⟨d1,g1,m1⟩:=h2.Oj y1;unfold mB at hd;have HY:=(v_.mp g1).1;rw[List.getElem?_zipWith,g1,List.getElem?_range HY]at hd;cases hd;have e:ip H (upd H T (.tup [.int i,a])):=.upd hT;exact⟨e,.tup (HK.of gk) (.cons (.int _) (.cons (m1.mono (λ_ z=>z) e) .nil))⟩
 |KW h1 h2=>obtain⟨T,a,e1,hT,e2,hy⟩:=y;subst e1 e2;have y1:=hy _ h1.sq;obtain⟨d1,g1,m1⟩:=h2.Oj y1;unfold jL at hd;have HY:=(v_.mp g1).1;rw[List.getElem?_zipWith,g1,List.getElem?_range HY]at hd;cases hd;have e:ip H (upd H T (.tup [.int ((i:Int)+1),a])):=.upd hT;exact⟨e,.tup (HK.of gk) (.cons (.int _) (.cons (m1.mono (λ_ z=>z) e) .nil))⟩
 |Ln lo KG=>
  obtain⟨e1,e2⟩:=y;subst e1;refine⟨.refl _,?_⟩;subst e2;unfold iW at hd;rw[z_]at hd;have hi:i < (KG - lo).toNat:=by
   have:=(M_.mp hd)
   obtain⟨z,h1,_⟩:=this;have:=(v_.mp h1).1;simpa using this
  rw[List.getElem?_range hi]at hd;cases hd;exact .int _
 |str x=>
  obtain⟨e1,c,h1,e2⟩:=y;subst e1;refine⟨.refl _,?_⟩;subst e2;unfold jD at hd;rw[z_]at hd;have h2:x.cps.toList[i]? = Γ c:=by simpa using h1
  rw[h2]at hd;cases hd;exact .str _
end
section
variable {Z:Sg}{CX:II}{cl:Ä}{xp:XK->Hp->EX->Prop}{X:Cx}{ex:EX->Prop}{G:Gm}{K:Frag}{S:Ψ->Prop}{H H1:Hp}{σ:St}{τ:Ev}
def DM (e:ip H H1)(hs:Slots K S H σ τ is)(h:Gb ex (f τ) Kt)(k:∀ds J H2,ip H H2->ip H1 H2->Jb K (nw S H) H2 J ds->Kt ds->R J H2):RI K ex is f σ H1 R:=
 ⟨nw S H,τ,hs.go e,h.mono λx hx J H2 e2 m=>k x J H2 (e.trans e2) e2 (m.mono (oZ e) (.refl _)) hx⟩
def pK (I:Inv X pins σ H s)(hq:HJ X.K H a xs)(q:R (Pz X.K a) H):Ι (Κ X.prog X.w) X.A (pyIter (.ref a)) (OX X pins σ tg R) X.xe s:=by
 obtain⟨its,rv,p,hz⟩:=I.list hq;refine aag p.isList ?_;refine⟨s.heap.objs.size,[s.heap.objs.size],_,_,H,rfl,I.kept (t':=s.toks) λb o e=>r_ _ e,tZ a _,⟨_,D_ _ rfl,rfl,rfl⟩,λb hb=>?_,q⟩;have e:b=s.heap.objs.size:=by simpa using hb
 subst e;exact I.KO (n_ _) (I.G3.fresh (n_ _))
def vP (I:Inv X pins σ H s)(hq:HK X.K H a xs)(q:R (RU X.K a) H):Ι (Κ X.prog X.w) X.A (pyIter (.ref a)) (OX X pins σ tg R) X.xe s:=by
 obtain⟨its,rv,p,hz⟩:=I.tuple hq;refine wpAny_pyIter_tuple (show s.heap.IsTuple a its.toArray from p) ?_;refine⟨s.heap.objs.size,[s.heap.objs.size],_,_,H,rfl,I.kept (t':=s.toks) λb o e=>r_ _ e,rm a _,⟨_,D_ _ rfl,rfl,rfl⟩,λb hb=>?_,q⟩;have e:b=s.heap.objs.size:=by simpa using hb
 subst e;exact I.KO (n_ _) (I.G3.fresh (n_ _))
def DN (ha:PE X e (RD X.K ex va fa)):PI X tg e (RI X.K ex va λτ=>FW (fa τ) k9):=by
 intro pins s σ H R I h;obtain⟨S,τ,hs,q⟩:=h;refine G5 (ha pins s σ H (λv H'=>∃d,ip H H'/\Gk X.K (nw S H) H' v d/\_) I (iK (.refl _) hs (Gb.FW q) λx v H1 e1 _ m1 q1=>⟨x,e1,m1,q1⟩)) λv s1 Gz=>?_;obtain⟨x,H1,I1,r1,d,e1,m1,q1⟩:=Gz
 induction d using zD with
 |lst o ds=>
  cases m1 with
  |lst h0 h1 h2=>cases r1;exact pK I1 (.inl (.inl h1)) (q1.ok _ _ e1 (.lst h0 h1 h2))
  |lstK h1 h2=>cases r1;exact pK I1 h1.sq (q1.ok _ _ e1 (.lstK h1 h2))
 |exc c=>
  cases m1 with
  |exc h=>cases r1;exact pK I1 (.inl (.inr h)) (q1.ok _ _ e1 (.MN c h))
 |tup ds=>obtain⟨a,xs,rfl,h1,h2⟩:=m1.HZ;cases r1;exact vP I1 h1 (q1.ok _ _ e1 (.tup h1 h2))
 |str z=>cases m1.Hx;obtain⟨t,rfl⟩:=r1;obtain⟨_,q1⟩:=Gb.Gn q1;exact Bp I1 (q1.ok _ _ e1 (.str z))
 |_=>exact q1.no.elim
def BH (g:Hc Z CX cl xp X ex G)  (hg:G.gl.contains 15=Δ)(hn:notStar e=Δ)(ha:PE X e (RD X.K ex va fa)) :
  PI X tg (.Call (.Name "range" p) [e] [] pos) (RI X.K ex va λτ=>FW (fa τ) λ|.int i=>Gn (jk i) (.ok (iW 0 i))|_=>Gq):=by
 obtain⟨k1,k2,_,_⟩:=ja g (show iD[15]? = Γ ("range" : Str) from rfl) hg;refine nv (oH k1 k2 (iF ha jn (dM hn _ _)) (dM hn _ _)) λσ H Q Gz=>?_;obtain⟨S,τ,hs,q⟩:=Gz;refine iK (.refl _) hs (Gb.FW q) λx v H1 e1 _ m1 q1=>?_
 induction x using zD with
 |int i=>cases m1.Ha;obtain⟨gd,q1⟩:=Gb.Gn q1;have LM : -(2 ^ 62)<=i/\i < 2 ^ 62:=p_ gd;refine⟨i,rfl,LM.1,LM.2,?_⟩;have:=q1.ok _ _ e1 (.Ln 0 i);rw[Int.sub_zero]at this;exact this
 |_=>exact q1.no.elim
def BI (g:Hc Z CX cl xp X ex G){tg e e':Expr}{p pos:Pos}{va vb:Ã}{fa fb:Ev->Res D}(hg:G.gl.contains 15=Δ)(hn:notStar e=Δ)(JU:notStar e'=Δ)(ha:PE X e (RD X.K ex va fa))(hb:PE X e' (RD X.K ex vb fb)) :
  PI X tg (.Call (.Name "range" p) [e,e'] [] pos) (RI X.K ex (va++vb) λτ=>FW (fa τ) λx=>FW (fb τ) λy=>match x,y with|.int i,.int j=>Gn (jk i&&jk j) (.ok (iW i j))|_,_=>Gq):=by
 obtain⟨k1,k2,_,_⟩:=ja g (show iD[15]? = Γ ("range" : Str) from rfl) hg;refine nv (oI k1 k2 (iF ha (iF hb jn (dM JU _ _)) (dM hn _ _)) (by rw[dM hn,dM JU];rfl) (dM JU _ _)) λσ H Q Gz=>?_;obtain⟨S,τ,hs,q⟩:=Gz;refine iK (.refl _) hs.left (Gb.FW q) λx v H1 e1 _ m1 q1=>?_;refine iK e1 hs.right (Gb.FW q1) λy w H2 e2 HX m2 q2=>?_
 induction x using zD with
 |int i=>
  induction y using zD with
  |int j=>cases m1.Ha;cases m2.Ha;obtain⟨gd,q2⟩:=Gb.Gn q2;rw[a_]at gd;have g1 : -(2 ^ 62)<=i/\i < 2 ^ 62:=p_ gd.1;have g2 : -(2 ^ 62)<=j/\j < 2 ^ 62:=p_ gd.2;exact⟨i,j,rfl,⟨g1.1,g1.2,g2.1,g2.2⟩,q2.ok _ _ e2 (.Ln i j)⟩
  |_=>exact q2.no.elim
 |_=>induction y using zD<;>exact q2.no.elim
def DO (g:Hc Z CX cl xp X ex G){es:Ü}{c:Nat}{tp:Pos}{e:Expr}{p pos:Pos}{va:Ã}{fa:Ev->Res D}(hg:G.gl.contains 20=Δ)(hn:notStar e=Δ)(ha:PE X e (RD X.K ex va fa)) :
  PI X (.Tuple es c tp) (.Call (.Name "enumerate" p) [e] [] pos) (RI X.K ex va λτ=>FW (fa τ) yg):=by
 obtain⟨k1,k2,_,_⟩:=ja g (show iD[20]? = Γ ("enumerate" : Str) from rfl) hg;refine nv (x6 k1 k2 (iF ha jn (dM hn _ _)) (dM hn _ _)) λσ H Q Gz=>?_;obtain⟨S,τ,hs,q⟩:=Gz;refine iK (.refl _) hs (Gb.FW q) λx v H1 e1 _ m1 q1=>?_
 induction x using zD with
 |lst o ds=>
  cases m1 with
  |lst h0 h1 h2=>exact⟨_,_,rfl,.inl (.inl h1),(show Gb ex (.ok (mB ds)) _ from q1).ok _ _ e1 (.J4 (.inl ⟨h0,h1⟩) h2)⟩
  |lstK h1 h2=>exact⟨_,_,rfl,h1.sq,(show Gb ex (.ok (mB ds)) _ from q1).ok _ _ e1 (.J4 (.inr (.inl h1)) h2)⟩
 |exc c=>
  cases m1 with
  |exc h=>exact⟨_,_,rfl,.inl (.inr h),(show Gb ex (.ok (mB (c.map .int))) _ from q1).ok _ _ e1 (.J4 (.inr (.inr ⟨c,rfl,h⟩)) (.Il c))⟩
 |_=>exact q1.no.elim
theorem kg {env:Env}  : ∀(names:List (Str×NameKind)),
  (names.map λ(n,k)=>if(k == Τ&&env.scope.kind == .function&&env.kindOf n == Γ .cell) then(n,NameKind.cell) else(n,k)).lookup x =
   (names.lookup x).map λk=>if(k == Τ&&env.scope.kind == .function&&env.kindOf x == Γ .cell) then NameKind.cell else k
 |[]=>rfl
 | (n,k)::r=>by
  have ih:=kg (env:=env) (x:=x) r;rw[c_];show List.lookup x ((if(k == Τ&&env.scope.kind == .function&&env.kindOf n == Γ .cell)=Δ then(n,NameKind.cell) else(n,k))::_)=_;by_cases hc:(k == Τ&&env.scope.kind == .function&&env.kindOf n == Γ .cell)=Δ
  ·rw[d_ hc,aah,aah];cases hx:x == n with
   |true=>have e:x=n:=f_ hx;subst e;show Γ NameKind.cell=Γ (if _ then _ else _);rw[d_ hc]
   |false=>exact ih
  ·rw[b_ hc,aah,aah];cases hx:x == n with
   |true=>have e:x=n:=f_ hx;subst e;show Γ k=Γ (if _ then _ else _);rw[b_ hc]
   |false=>exact ih
def se (h:∀y∈scope.names,y.2=.free->∃c,env.cells.lookup y.1=Γ c) :
  ∃Ip,closureFor scope env=pure Ip/\(∀x c,Ip.lookup x=Γ c->env.cells.lookup x=Γ c)/\∀y∈scope.names,y.2=.free->∃c,Ip.lookup y.1=Γ c:=by
 have key:∀(names:List (Str×NameKind)) (acc:List (Str×Ψ)),(∀y∈names,y.2=.free->∃c,env.cells.lookup y.1=Γ c)->(∀x c,acc.lookup x=Γ c->env.cells.lookup x=Γ c)->
   ∃Ip,(forIn names acc λ(p:Str×NameKind) (r:List (Str×Ψ))=>(if(p.2 == Τ)=Δ then do let a <- cellOf env p.1;pure (ForInStep.yield ((p.1,a)::r)) else pure (ForInStep.yield r):Sem (ForInStep (List (Str×Ψ)))))=pure Ip/\(∀x c,Ip.lookup x=Γ c->env.cells.lookup x=Γ c)/\
    (∀y∈names,y.2=.free->∃c,Ip.lookup y.1=Γ c)/\∀x c,acc.lookup x=Γ c->∃c',Ip.lookup x=Γ c':=by
  intro names
  induction names with
  |nil=>intro acc _ h2;exact⟨acc,rfl,h2,λy hy=>absurd hy (by simp),λx c e=>⟨c,e⟩⟩
  |cons p names ih=>
   intro acc h1 h2;rw[List.forIn_cons];by_cases hp:p.2=.free
   ·obtain⟨c,hc⟩:=h1 p (by simp) hp;have hb:(p.2 == Τ)=Δ:=by rw[hp];rfl
    have Yl:∀x c',((p.1,c)::acc).lookup x=Γ c'->env.cells.lookup x=Γ c':=by
     intro x c' e;rw[aah]at e;cases hx:x == p.1 with
     |true=>rw[hx]at e;cases e;rw[f_ hx];exact hc
     |false=>rw[hx]at e;exact h2 x c' e
    obtain⟨Ip,e1,e2,e3,e4⟩:=ih ((p.1,c)::acc) (λy hy=>h1 y (H_ _ hy)) Yl;refine⟨Ip,?_,e2,λy hy hf=>?_,λx c' e=>?_⟩
    ·rw[d_ hb];have:cellOf env p.1=pure c:=by unfold cellOf;rw[hc]
     rw[this];exact e1
    ·rcases l_.mp hy with rfl|hy
     ·exact e4 y.1 c (by rw[aah];simp)
     ·exact e3 y hy hf
    ·rcases hx:x == p.1 with _|_
     ·exact e4 x c' (by rw[aah,hx];exact e)
     ·exact e4 x c (by rw[aah,hx])
   ·have hb:¬(p.2 == Τ)=Δ:=λz=>hp (f_ z);obtain⟨Ip,e1,e2,e3,e4⟩:=ih acc (λy hy=>h1 y (H_ _ hy)) h2;refine⟨Ip,?_,e2,λy hy hf=>?_,e4⟩
    ·rw[b_ hb];exact e1
    ·rcases l_.mp hy with rfl|hy
     ·exact absurd hf hp
     ·exact e3 y hy hf
 obtain⟨Ip,e1,e2,e3,_⟩:=key scope.names [] h (λx c e=>by cases e);refine⟨Ip,?_,e2,e3⟩;unfold closureFor;exact congrArg (λ(m:Sem (List (Str×Ψ)))=>m >>= λr=>pure r) e1
structure LN (Z:Sg)(G:Gm)(scope:Scope)(G':Gm)(fr:Ã):Prop where
 cm:G.cm=Δ
 kind:scope.kind=.function
 tr:G'.tr=Θ
 df:G'.df=Θ
 kdl:G'.kd.length=G'.N.length
 JZ:∀y∈scope.names,y.2≠.cell
 loc:∀y∈scope.names,y.2=.local->scope.names.lookup y.1=Γ .local
 Ym:∀y∈scope.names,y.2=.free->∃i:Nat,G.N[i]? = Γ y.1/\(G.kd[i]? = Γ .cell∨G.kd[i]? = Γ .free)
 Jr:∀(j:Nat) (i:Nat),fr[j]? = Γ i->∃x,G.N[i]? = Γ x/\G'.N[j]? = Γ x/\scope.names.lookup x=Γ .free/\(G.kd[i]? = Γ .cell∨G.kd[i]? = Γ .free)/\G'.kd[j]? = Γ (if(G.kd[i]? == Γ .cell)=Δ then .cell else .free)
 Qh:fr.length<=G'.N.length
 Jw:∀(j:Nat) (x:Str),fr.length<=j->G'.N[j]? = Γ x->scope.names.lookup x=Γ .local/\G'.kd[j]? = Γ .local
 Mm:∀x∈G'.N,(x == ("__debug__" : Str))=Θ/\(x == ("__classdict__" : Str))=Θ
 He:G'.N.Nodup
 gl:∀n∈G'.gl,∃x,Z.name n=Γ x/\scope.names.lookup x=Γ .globalImplicit
def pL {Z:Sg}  (h:jx Z G scope G' fr=Δ):LN Z G scope G' fr:=by
 unfold jx at h;simp only[a_]at h;obtain⟨⟨⟨⟨⟨⟨⟨⟨⟨⟨⟨⟨⟨h0,h1⟩,I0⟩,h2⟩,h3⟩,h4⟩,h5⟩,h6⟩,h7⟩,h8⟩,h9⟩,Nr⟩,O1⟩,PZ⟩:=h;rw[I_]at h4 h5 h6 h7 h9 Nr PZ;refine⟨h0,f_ h1,by simpa using I0,by simpa using h2,f_ h3,λy hy=>by simpa using h4 y hy,λy hy e=>?_,λy hy e=>?_,λj i e=>?_,p_ h8,λj x hj e=>?_,λx hx=>by simpa using Nr x hx,p_ O1,λn hn=>?_⟩
 ·have:=h5 y hy;rw[e]at this;simpa using this
 ·have:=h6 y hy;rw[e]at this;simp only[bne_self_eq_false,Bool.false_or,List.any_eq_true,a_,L_]at this;obtain⟨i,_,hi,hk⟩:=this;exact⟨i,f_ hi,hk.elim (λz=>.inl (f_ z)) λz=>.inr (f_ z)⟩
 ·have hj:j < fr.length:=(v_.mp e).1;have:=h7 j (X_.mpr hj);simp only[e,Option.bind_some,a_,L_]at this;obtain⟨⟨⟨a1,a2⟩,a3⟩,a4⟩:=this;have V0:=f_ a1;have Rb:=f_ a2;cases q:G'.N[j]? with
  |none=>rw[q]at Rb;cases Rb
  |some x=>rw[q]at Rb V0;exact⟨x,V0.symm,rfl,Rb,a3.elim (λz=>.inl (f_ z)) λz=>.inr (f_ z),f_ a4⟩
 ·have HY:j < G'.N.length:=(v_.mp e).1;have hm:j∈(List.range G'.N.length).drop fr.length:=by rw[List.mem_drop_iff_getElem];exact⟨j - fr.length,by simp;omega,by simp;omega⟩
  have:=h9 j hm;rw[e]at this;simp only[Option.bind_some,a_]at this;exact⟨f_ this.1,f_ this.2⟩
 ·have:=PZ n hn;cases q:Z.name n with
  |none=>rw[q]at this;cases this
  |some x=>rw[q]at this;exact⟨x,rfl,f_ this⟩
abbrev LO (G:Gm)(fr:Ã):List (Str×Nat):=fr.map λi=>(G.N.getD i "",i)
def DP (s:LN Z G scope G' fr):(LO G fr).map (·.1)++G'.N.drop fr.length=G'.N:=by
 have e:(LO G fr).map (·.1)=G'.N.take fr.length:=by
  apply List.ext_getElem?;intro j;unfold LO;rw[V_,z_,List.getElem?_take];cases q:fr[j]? with
  |none=>
   have:¬j < fr.length:=by intro z;rw[K_ z]at q;cases q
   rw[b_ this];rfl
  |some i=>have:j < fr.length:=(v_.mp q).1;rw[d_ this];obtain⟨x,h1,h2,_⟩:=s.Jr j i q;rw[h2];show Γ (G.N.getD i "")=Γ x;rw[aaa,h1];rfl
 rw[e,List.take_append_drop]
def mM (g:Hc Z CX cl xp X ex G)(ok:X.Ok)  (s:LN Z G scope G' fr):∃Ip,IM X scope Ip (LO G fr) (G'.N.drop fr.length):=by
 have K':∀y∈scope.names,y.2=.free->∃c,X.env.cells.lookup y.1=Γ c:=λy hy hf=>by obtain⟨i,h1,h2⟩:=s.Ym y hy hf;have hk:=g.kd i y.1 h1;exact ok.has y.1 (h2.elim (λz=>.inl (hk.trans z)) λz=>.inr (hk.trans z))
 obtain⟨Ip,e1,e2,e3⟩:=se K';refine⟨Ip,e1,s.kind,s.JZ,s.loc,e2,λx hx=>?_,λp hp=>?_⟩
 ·have hl:=kg (env:=X.env) (x:=x) scope.names;have Hr:((scope.names.lookup x).map λk=>if(k == Τ&&X.env.scope.kind == .function&&X.env.kindOf x == Γ .cell)=Δ then NameKind.cell else k)=Γ .cell∨
    ((scope.names.lookup x).map λk=>if(k == Τ&&X.env.scope.kind == .function&&X.env.kindOf x == Γ .cell)=Δ then NameKind.cell else k)=Γ .free:=by
   rcases hx with hx|hx
   ·exact .inl (hl.symm.trans hx)
   ·exact .inr (hl.symm.trans hx)
  cases q:scope.names.lookup x with
  |none=>rw[q]at Hr;rcases Hr with z|z<;>cases z
  |some k=>
   have hm:(x,k)∈scope.names:=PySem.mem_of_lookup q;have hk:k=.free:=by
    rw[q]at Hr;rcases Hr with z|z
    ·have z':(if(k == Τ&&X.env.scope.kind == .function&&X.env.kindOf x == Γ .cell)=Δ then NameKind.cell else k)=.cell:=B_ z;split at z'
     ·rename_i hc
      simp only[a_]at hc;exact f_ hc.1.1
     ·exact absurd z' (s.JZ _ hm)
    ·have z':(if(k == Τ&&X.env.scope.kind == .function&&X.env.kindOf x == Γ .cell)=Δ then NameKind.cell else k)=.free:=B_ z;split at z'
     ·cases z'
     ·exact z'
   exact e3 (x,k) hm hk
 ·unfold LO at hp;rw[List.mem_map]at hp;obtain⟨i,hi,rfl⟩:=hp;obtain⟨j,hj⟩:=List.getElem?_of_mem hi;obtain⟨x,h1,h2,h3,h4,h5⟩:=s.Jr j i hj;have hn:G.N.getD i "" = x:=by rw[aaa,h1];rfl
  show X.N[i]? = Γ (G.N.getD i "")/\_;rw[hn];have hk:=g.kd i x h1;refine⟨by rw[g.N];exact h1,h4.elim (λz=>.inl (hk.trans z)) λz=>.inr (hk.trans z),?_⟩;have hl:=kg (env:=X.env) (x:=x) scope.names;rw[h3]at hl;have Ld:(relabel scope X.env).names.lookup x=Γ (if(Τ == Τ&&X.env.scope.kind == .function&&X.env.kindOf x == Γ .cell)=Δ then NameKind.cell else Τ):=hl;rw[Ld];split
  ·exact .inl rfl
  ·exact .inr rfl
def jz (g:Hc Z CX cl xp X ex G){scope:Scope}{G':Gm}{fr:Ã}(s:LN Z G scope G' fr)(Ip:List (Str×Ψ))(C:Ψ)(s3:Ω)(H3:Hp)(fp:È) :
  Hc Z CX cl xp (Lc X scope Ip ((LO G fr).map (·.1)++G'.N.drop fr.length) C s3 H3 fp) (λ_=>False) G' where
 N:=DP s
 He:=s.He
 calm:=λ_=>g.calm s.cm
 fk:=s.kind
 un:=g.un
 own:=λ_=>PassesOwn.never
 kd:=λj x hx=>by
  show(relabel scope X.env).names.lookup x=_;have hl:=kg (env:=X.env) (x:=x) scope.names;by_cases hj:j < fr.length
  ·obtain⟨y,h1,h2,h3,h4,h5⟩:=s.Jr j fr[j] (by simp[hj]);rw[hx]at h2;cases h2;rw[h3]at hl;rw[h5];refine hl.trans ?_;have hk:=g.kd fr[j] x h1;show Γ (if(Τ == Τ&&X.env.scope.kind == .function&&X.env.kindOf x == Γ .cell)=Δ then NameKind.cell else Τ)=_;rw[hk,g.fk];rfl
  ·obtain⟨h1,h2⟩:=s.Jw j x (by omega) hx;rw[h1]at hl;rw[h2];exact hl
 Mm:=λj x hx=>s.Mm x (S_ hx)
 gl:=λn hn x e=>by obtain⟨y,h1,h2⟩:=s.gl n hn;rw[e]at h1;cases h1;show(relabel scope X.env).names.lookup x=_;have hl:=kg (env:=X.env) (x:=x) scope.names;rw[h2]at hl;exact hl
 Nc:=g.Nc
 df:=λz=>by rw[s.df]at z;cases z
 blt:=g.blt
 cst:=g.cst
 fns:=λf hf _ x hx=>g.fns f hf (.inl s.cm) x hx
 Im:=λf c m h _=>g.Im f c m h s.cm
 JM:=λf p h _=>g.JM f p h s.cm
 JN:=λf c m h _=>g.JN f c m h s.cm
 fmt:=λf c m h _=>g.fmt f c m h s.cm
 Mn:=λn c f x h _ hx=>g.Mn n c f x h s.cm hx
 KI:=g.KI
 O7:=⟨λ_ _ _=>False,λpins σ H s e s' _ h=>(g.P8 _ _ _ _ _ h).elim,λc _ z=>z.elim⟩
 MI:=g.MI
 P8:=g.P8
end
@[reducible]def Jd:EX->Prop:=λ_=>False
theorem Gb.Ia (h:Gb ex (L2.Ia x) k):Gb Jd x k:=by
 cases x with
 |ok a=>exact h
 |error e=>exact False.elim h
section
variable {K:Frag}{S:Ψ->Prop}{H:Hp}{σ:St}{τ:Ev}{ex:EX->Prop}{cl:Ä}{G G':Gm}{fr:Ã}
abbrev K0 (G':Gm)(fr:Ã)(τ:Ev):Ev:=fr.map (dJ τ)++Ρ (G'.N.length - fr.length) Ξ
def yz (hl:fr.length<=G'.N.length):(K0 G' fr τ).length=G'.N.length:=by unfold K0;rw[u_,h_,List.length_replicate];omega
def yB (Tg:Â)(σ:St):(stC (LO G fr) Tg σ).length=fr.length+Tg.length:=by unfold stC LO;rw[u_,h_,h_,List.length_replicate]
def vQ (h:dJ (K0 G' fr τ) j=Γ d):∃i,fr[j]? = Γ i/\dJ τ i=Γ d:=by
 unfold dJ K0 at h;by_cases hj:j < fr.length
 ·rw[aam (by simpa using hj),z_,K_ hj]at h;exact⟨fr[j],by simp[hj],h⟩
 ·rw[aan (by simpa using hj),List.getElem?_replicate]at h;split at h<;>cases h
def yC (hl:fr.length<=G'.N.length)(hs:Slots K S H σ τ (fr++vs))(hn:G1.length=G'.N.length)(IJ:∀j,j < fr.length->G1[j]? = (stC (LO G fr) (G'.N.drop fr.length) σ)[j]?):Pb K S H G1 (K0 G' fr τ):=by refine⟨by rw[yz hl,hn],λj d h=>?_⟩;obtain⟨i,hi,hd⟩:=vQ h;have hj:j < fr.length:=(v_.mp hi).1;obtain⟨v,h1,h2⟩:=hs i (j_ _ (S_ hi)) d hd;refine⟨v,?_,h2⟩;rw[IJ j hj];unfold stC LO;rw[aam (by simpa using hj),z_,z_,hi];show Γ ((σ[i]?).join)=Γ (Γ v);rw[h1];rfl
abbrev jr (cl:Ä)(T:Tg)(I:Ç)(E:IR)(Yn:Ev)(x:D):Res (À):=FW (jo T x Yn) λNy=>FW (lj cl I Ny) λr=>if r=Δ then FW (Gs cl E Ny) λd=>.ok (Γ d) else .ok Ξ
def kh {vs:Ã}{fs:Ev->Res (Ê)}{T:Tg}{I:Ç}{E:IR}{Kt:D->Prop}{Q:VK}(hl:fr.length<=G'.N.length)(ha:∀i∈Jw T,fr.length<=i)(hs:Slots K S H σ τ (fr++vs))
  (q:Gb ex (FW (fs τ) λits=>Gn (ky its.length) (FW (Ia (iX (jr cl T I E (K0 G' fr τ)) its)) λds=>.ok (.lst Δ ds))) Kt)
  (fin:∀A ys ds H',ip H H'->H A=Ξ->H' A=Γ (.lst ys)->FZ K (λa=>nw S H a/\a≠A) H' ys ds->Kt (.lst Δ ds)->Q (.ref A) H') :
  u6 (RI K ex vs fs) (stC (LO G fr) (G'.N.drop fr.length)) (gT K T) (RT K Jd (dI I) (lj cl I)) (RD K Jd (vars E) (Gs cl E)) σ H Q:=by
 refine DM (.refl _) hs.right (Gb.FW q) λits J H1 e1 _ w1 q1 A hA=>?_;obtain⟨gd,q1⟩:=Gb.Gn q1;have q2:=Gb.Ia (Gb.FW q1);have hsz:=pF gd;have Yo:H A=Ξ:=e1.free hA
 -- RV is read SW apart from MF new list
 have IW:∀a,nw S H a->H1 a≠Ξ->nw S H a/\a≠A:=λa h1 h2=>⟨h1,λz=>h2 (by rw[z];exact hA)⟩
 have w2:Jb K (λa=>nw S H a/\a≠A) H1 J its:=w1.step (λa xs h r=>⟨IW a h r.some,r⟩) λa xs h=>h;have Ki:Slots K (λa=>nw S H a/\a≠A) H1 σ τ (fr++vs):=λi hi d z=>by obtain⟨v,h1,h2⟩:=(hs.go e1) i hi d z;exact⟨v,h1,h2.step (λa xs h r=>⟨IW a h r.some,r⟩) λa xs h=>h⟩
 refine⟨λi m G1 H'=>m=its.length - i/\i<=its.length/\∃ys acc,H' A=Γ (.lst ys)/\FZ K (λa=>nw S H a/\a≠A) H' ys acc/\ys.length<=i/\ip H1 H'/\G1.length=G'.N.length/\
   (∀j,j < fr.length->G1[j]? = (stC (LO G fr) (G'.N.drop fr.length) σ)[j]?)/\Gb Jd (iX (jr cl T I E (K0 G' fr τ)) (its.drop i)) λds=>Kt (.lst Δ (acc++ds)),⟨its.length,by simp,Y_ _,[],[],gk,.nil,n_ _,.upd hA,?_,λ_ _=>rfl,?_⟩,?_⟩
 ·rw[yB,List.length_drop];omega
 ·rw[List.drop_zero];exact q2.mono λds z=>z.ok
 ·rintro i m G1 H' ⟨rfl,hi,ys,acc,hy,my,ly,e2,hn,IJ,q3⟩;by_cases HY:i < its.length
  ·refine .inr ⟨(w2.mono (λ_ z=>z) e2).go HY,λx H2 Yp=>?_⟩;obtain⟨eH,mx⟩:=(w2.mono (λ_ z=>z) e2).MZ Yp (d:=its[i]) (by simp[HY]);have hy:=eH _ _ hy;have my:=my.mono (λ_ z=>z) eH;have e2:=e2.trans eH;have hd:its.drop i=its[i]::its.drop (i+1):=List.drop_eq_getElem_cons HY;rw[hd]at q3;have q4:=Gb.FW q3;have q5:Gb Jd (jo T its[i] (K0 G' fr τ)) _:=Gb.FW q4
   have sl:Pb K (λa=>nw S H a/\a≠A) H2 G1 (K0 G' fr τ):=yC (G:=G) (vs:=vs) (σ:=σ) hl (λi hi d z=>by
    obtain⟨v,h1,h2⟩:=Ki i hi d z
    exact⟨v,h1,h2.mono (λ_ z=>z) e2⟩) hn IJ
   refine tG T sl mx q5 λGv Kj Rc JU hk q6=>?_;have NZ:Kj.length=G'.N.length:=JU.trans hn;have Qi:∀j,j < fr.length->Kj[j]? = (stC (LO G fr) (G'.N.drop fr.length) σ)[j]?:=λj hj=>by rw[hk j (λz=>by have:=ha j z;omega)];exact IJ j hj
   have V1:∀is,Slots K (λa=>nw S H a/\a≠A) H2 Kj Gv is:=λis i _ d z=>Rc.2 i d z;refine lW (.refl _) (V1 _) (Gb.FW q6) λr H4 e4 _ q7=>?_
   induction r using zB with
   |false=>rw[b_ C_]at q7 ⊢;have q8:Gb Jd (iX (jr cl T I E (K0 G' fr τ)) (its.drop (i+1))) λds=>Kt (.lst Δ (acc++ds)):=q7;refine⟨its.length - (i+1),by omega,rfl,HY,ys,acc,e4 _ _ hy,my.mono (λ_ z=>z) e4,by omega,e2.trans e4,NZ,Qi,q8⟩
   |true=>
    rw[d_ rfl]at q7 ⊢;refine iK e4 (V1 _) (Gb.FW q7) λd v H5 e5 e5' m5 q8=>?_;have q9:Gb Jd (FW (iX (jr cl T I E (K0 G' fr τ)) (its.drop (i+1))) λr=>.ok (d::r)) λds=>Kt (.lst Δ (acc++ds)):=q8;have O0:=Gb.FW q9;have V2:H5 A=Γ (.lst ys):=e5 _ _ hy;refine⟨ys,V2,by omega,its.length - (i+1),by omega,rfl,HY,ys++[v],acc++[d],gk,?_,by rw[u_,aaj];omega,?_,NZ,Qi,?_⟩
    ·have V3:∀a (xs:LD),(nw S H a/\a≠A)->Rd H5 a xs.o->(nw S H a/\a≠A)/\Rd (upd H5 A (.lst (ys++[v]))) a xs.o:=λa xs h r=>by refine⟨h,?_⟩;unfold Rd;rw[dN h.2];exact r
     have V4:∀a xs,HB K H5 a xs->HB K (upd H5 A (.lst (ys++[v]))) a xs:=λa xs h=>h.upd V2
     have m6:Gk K (λa=>nw S H a/\a≠A) H5 v d:=m5.step (λa xs h r=>⟨by
      rcases h with h|h
      ·exact h
      ·have:H a=Ξ:=e1.free (e2.free h)
       exact⟨.inr this,λz=>by rw[z,hy]at h;cases h⟩,r⟩) λa xs h=>h
     exact(((my.mono (λ_ z=>z) e5).step V3 V4)).append (.cons (m6.step V3 V4) .nil)
    ·exact λb o hb=>by
      have:b≠A:=by rintro rfl;rw[hA]at hb;cases hb
      rw[dN this];exact e5 _ _ (e2 _ _ hb)
    ·refine O0.mono λds z=>?_;have z':=z.ok;rw[y_];exact z'
  ·have e:i=its.length:=by omega
   subst e;refine .inl ⟨(w2.mono (λ_ z=>z) e2).stop rfl,?_⟩;rw[List.drop_length]at q3;have q4:=q3.ok;rw[R_]at q4;exact fin A ys acc H' (e1.trans e2) Yo hy my q4
end
def n6 {T:Tg}  : Gs cl (.comp G' fr T s I E)=λτ=>FW (kB cl s τ) λits=>Gn (ky its.length) (FW (Ia (iX (jr cl T I E (K0 G' fr τ)) its)) λds=>.ok (.lst Δ ds)):=rfl
def BJ (g:Hc Z CX cl xp X ex G)  {T:Tg}  (hs:LN Z G scope G' fr)(hT:i8 G' T tg=Δ)(ha:∀i∈Jw T,fr.length<=i)
  (hi:PI X tg iter (RI X.K ex (lO s) (kB cl s))) (ht:∀X',Hc Z CX cl xp X' Jd G'->M4 X' ifs (RT X'.K Jd (dI I) (lj cl I))) (he:∀X',Hc Z CX cl xp X' Jd G'->PE X' elt (RD X'.K Jd (vars E) (Gs cl E)))
  (hf:∀x,foldedSetIterable iter X.env x=pure x):PE X (.ListComp elt [⟨tg,iter,ifs,0⟩] scope pos) (RD X.K ex (fr++lO s) (Gs cl (.comp G' fr T s I E))):=by
 intro pins s' σ H Q Iv h;obtain⟨Ip,S⟩:=mM g Iv.ok hs;have p:=sO (pos:=pos) (elt:=elt) (ifs:=ifs) (tg:=tg) (g:=gT X.K T) (tt:=RT X.K Jd (dI I) (lj cl I)) (te:=RD X.K Jd (vars E) (Gs cl E)) (g.calm hs.cm) S hi (λC s H fp=>ND (jz g hs Ip C s H fp) T tg hT) (λC s H fp=>ht _ (jz g hs Ip C s H fp)) (λC s H fp=>he _ (jz g hs Ip C s H fp)) hf;refine p pins s' σ H Q Iv ?_;obtain⟨S0,τ,SX,q⟩:=h;rw[n6]at q;exact kh hs.Qh ha SX q λA ys ds H' e hA Mo m k=>k _ _ e (.lst (.inr hA) (.inl Mo) (m.mono (λ_ z=>z.1) (.refl _)))
section
variable {Z:Sg}{CX:II}{cl:Ä}{xp:XK->Hp->EX->Prop}
def uz (h:Gw Z G a e=Δ)(env:Env)(x:Φ):foldedSetIterable e env x=pure x:=by
 induction e using zE<;>first|rfl|(induction a using zI<;>cases h)
def jW (h:j5 Z G a e=Δ)(env:Env)(x:Φ):foldedSetIterable e env x=pure x:=by
 cases a with
 |val a=>exact uz (show Gw Z G a e=Δ from h) env x
 |_=>induction e using zE<;>first|rfl|cases h
def both (h:PE X e (RD X.K ex is f))(he:∀whole,isTrue e X.env whole=(do let v <- whole;standAt e.pos;holding [v] (truthy v)):=by intro _;rfl) :
  PE X e (RD X.K ex is f)/\PT X e (RT X.K ex is λτ=>FW (f τ) iH):=⟨h,Dv h he⟩
mutual
theorem snd:∀(a:IR) (X:Cx) (ex:EX->Prop) (G:Gm) (e:Expr),Hc Z CX cl xp X ex G->Gw Z G a e=Δ->PE X e (RD X.K ex (vars a) (Gs cl a))/\PT X e (RT X.K ex (vars a) λτ=>FW (Gs cl a τ) iH)
 |.c d,X,ex,G,e,g,h=>by
  induction e using zE with
  |Constant k j pos=>exact both (Yi h)
  |_=>exists h
 |.g n d,X,ex,G,e,g,h=>by
  induction e using zE with
  |Name x pos=>have h':(jQ Z G n x&&Z.O5.any λp=>p.1 == n&&uu p.2 d)=Δ:=h;rw[a_]at h';exact both (Yj g h'.1 h'.2)
  |_=>exists h
 |.v i,X,ex,G,e,g,h=>by
  induction e using zE with
  |Name x pos=>exact both (Yh g h)
  |_=>exists h
 |.bin op a b,X,ex,G,e,g,h=>by
  induction e using zE with
  |BinOp l o r pos=>have h':(o == M8 op&&Gw Z G a l&&Gw Z G b r)=Δ:=h;simp only[a_]at h';have e1:o=M8 op:=f_ h'.1.1;subst e1;exact both (Dw (snd a X ex G l g h'.1.2).1 (snd b X ex G r g h'.2).1)
  |_=>exists h
 |.neg a,X,ex,G,e,g,h=>by
  induction e using zE with
  |UnaryOp o l pos=>
   cases o with
   |USub=>exact both (Dx (snd a X ex G l g h).1)
   |_=>exists h
  |_=>exists h
 |.cmp op a b,X,ex,G,e,g,h=>by
  induction e using zE with
  |Compare l os rs pos=>
   match os,rs,h with
   |[o],[r],h=>have h':(o == J5 op&&Gw Z G a l&&Gw Z G b r&&!behindInMarks o r)=Δ:=h;simp only[a_]at h';have e1:o=J5 op:=f_ h'.1.1.1;subst e1;exact Dy g (snd a X ex G l g h'.1.1.2).1 (snd b X ex G r g h'.1.2).1 (by simpa using h'.2)
   |[],_,h=>exists h
   |[_],[],h=>exists h
   |[_],_::_::_,h=>exists h
   |_::_::_,_,h=>exists h
  |_=>exists h
 |.chain op Ih a b c,X,ex,G,e,g,h=>by
  induction e using zE with
  |Compare l os rs pos=>
   match os,rs,h with
   |[o,o'],[m,r],h=>have h':(o == J5 op&&o' == J5 Ih&&Gw Z G a l&&Gw Z G b m&&Gw Z G c r&&!lastMarks [o,o'] [m,r])=Δ:=h;simp only[a_]at h';have e1:o=J5 op:=f_ h'.1.1.1.1.1;have e2:o'=J5 Ih:=f_ h'.1.1.1.1.2;subst e1 e2;exact yu g (snd a X ex G l g h'.1.1.1.2).1 (snd b X ex G m g h'.1.1.2).1 (snd c X ex G r g h'.1.2).1 (by simpa using h'.2)
   |[],_,h=>exists h
   |[_],_,h=>exists h
   |[_,_],[],h=>exists h
   |[_,_],[_],h=>exists h
   |[_,_],_::_::_::_,h=>exists h
   |_::_::_::_,_,h=>exists h
  |_=>exists h
 |.Ie a b,X,ex,G,e,g,h=>by
  induction e using zE with
  |BoolOp o es pos=>
   match o,es,h with
   |.And,[l,r],h=>have h':(Gw Z G a l&&Gw Z G b r)=Δ:=h;rw[a_]at h';obtain⟨pa,ta⟩:=snd a X ex G l g h'.1;obtain⟨pb,tb⟩:=snd b X ex G r g h'.2;exact⟨zV pa (uL pb),zW ta (xE tb)⟩
   |.And,l::r::r'::rest,h=>have h':(Gw Z G a l&&Gw Z G b (.BoolOp .And (r::r'::rest) pos))=Δ:=h;rw[a_]at h';obtain⟨pa,ta⟩:=snd a X ex G l g h'.1;obtain⟨pb,tb⟩:=snd b X ex G _ g h'.2;exact⟨zV pa pb,zW ta (vL (e:=l) tb)⟩
   |.And,[],h=>exists h
   |.And,[_],h=>exists h
   |.Or,_,h=>exists h
  |_=>exists h
 |.Kf a b,X,ex,G,e,g,h=>by
  induction e using zE with
  |BoolOp o es pos=>
   match o,es,h with
   |.Or,[l,r],h=>have h':(Gw Z G a l&&Gw Z G b r)=Δ:=h;rw[a_]at h';obtain⟨pa,ta⟩:=snd a X ex G l g h'.1;obtain⟨pb,tb⟩:=snd b X ex G r g h'.2;exact⟨Dz pa (uL pb),DB ta (AR tb)⟩
   |.Or,l::r::r'::rest,h=>have h':(Gw Z G a l&&Gw Z G b (.BoolOp .Or (r::r'::rest) pos))=Δ:=h;rw[a_]at h';obtain⟨pa,ta⟩:=snd a X ex G l g h'.1;obtain⟨pb,tb⟩:=snd b X ex G _ g h'.2;exact⟨Dz pa pb,DB ta (vL (e:=l) tb)⟩
   |.Or,[],h=>exists h
   |.Or,[_],h=>exists h
   |.And,_,h=>exists h
  |_=>exists h
 |.HI a,X,ex,G,e,g,h=>by
  induction e using zE with
  |UnaryOp o l pos=>
   cases o with
   |Not=>obtain⟨pa,ta⟩:=snd a X ex G l g h;exact DA pa ta
   |_=>exists h
  |_=>exists h
 |.ite t a b,X,ex,G,e,g,h=>by
  induction e using zE with
  |IfExp c x y pos=>have h':(Gw Z G t c&&Gw Z G a x&&Gw Z G b y)=Δ:=h;simp only[a_]at h';obtain⟨pa,ta⟩:=snd a X ex G x g h'.1.2;obtain⟨pb,tb⟩:=snd b X ex G y g h'.2;exact DC (snd t X ex G c g h'.1.1).2 pa pb ta tb
  |_=>exists h
 |.tup es,X,ex,G,e,g,h=>by
  induction e using zE with
  |Tuple l n pos=>exact both (DF (kQ es X ex G l g h))
  |_=>exists h
 |.lst es,X,ex,G,e,g,h=>by
  induction e using zE with
  |List l pos=>exact both (zX (kQ es X ex G l g h))
  |_=>exists h
 |.idx a i,X,ex,G,e,g,h=>by
  induction e using zE with
  |Subscript o s pos=>
   have h':(iU s&&Gw Z G a o&&Gw Z G i s)=Δ:=by cases s<;>first|exact h|(rename_i l u st p;cases st<;>exact h)
   simp only[a_]at h';exact both (DG (snd a X ex G o g h'.1.2).1 (snd i X ex G s g h'.2).1 h'.1.1)
  |_=>exists h
 |.sl a lo hi,X,ex,G,e,g,h=>by
  induction e using zE with
  |Subscript o s pos=>
   match s,h with
   |.Slice l u Ξ p,h=>have h':(Gw Z G a o&&rY Z G lo l&&rY Z G hi u)=Δ:=h;simp only[a_]at h';exact both (Fv (snd a X ex G o g h'.1.1).1 (yD lo X ex G l g h'.1.2) (yD hi X ex G u g h'.2))
   |.Slice _ _ (Γ _) _,h=>exists h
   |.BoolOp ..,h=>exists h
   |.NamedExpr ..,h=>exists h
   |.BinOp ..,h=>exists h
   |.UnaryOp ..,h=>exists h
   |.Lambda ..,h=>exists h
   |.IfExp ..,h=>exists h
   |.Dict ..,h=>exists h
   |.Set ..,h=>exists h
   |.ListComp ..,h=>exists h
   |.SetComp ..,h=>exists h
   |.DictComp ..,h=>exists h
   |.GeneratorExp ..,h=>exists h
   |.Await ..,h=>exists h
   |.Yield ..,h=>exists h
   |.YieldFrom ..,h=>exists h
   |.Compare ..,h=>exists h
   |.Call ..,h=>exists h
   |.FormattedValue ..,h=>exists h
   |.JoinedStr ..,h=>exists h
   |.Constant ..,h=>exists h
   |.Attribute ..,h=>exists h
   |.Subscript ..,h=>exists h
   |.Starred ..,h=>exists h
   |.Name ..,h=>exists h
   |.List ..,h=>exists h
   |.Tuple ..,h=>exists h
  |_=>exists h
 |.call f es,X,ex,G,e,g,h=>by
  induction e using zE with
  |Call fn args Iq pos=>
   induction fn using zE with
   |Name x p=>
    induction Iq using zL with
    |nil=>have h':(jQ Z G f x&&Z.LY G f&&iz Z G es args)=Δ:=h;simp only[a_]at h';exact both (s_call g h'.1.1 h'.1.2 h'.2 (kQ es X ex G args g h'.2))
    |cons _ _=>exists h
   |_=>exists h
  |_=>exists h
 |.bi f es,X,ex,G,e,g,h=>by
  induction e using zE with
  |Call fn args Iq pos=>
   induction fn using zE with
   |Name x p=>
    induction Iq using zL with
    |nil=>
     induction args using zL with
     |nil=>exists h
     |cons a args=>have h':(x == ku f&&G.Jj (oY f)&&iz Z G es (a::args))=Δ:=h;simp only[a_]at h';have e1:x=ku f:=f_ h'.1.1;subst e1;exact both (Fw g h'.1.2 h'.2 (kQ es X ex G _ g h'.2))
    |cons _ _=>cases args<;>exists h
   |_=>exists h
  |_=>exists h
 |.IT a,X,ex,G,e,g,h=>by
  have h:O6 e (λx y e=>x == "list"&&G.Jj 5&&y == "reversed"&&G.gl.contains 18&&notStar e&&Gw Z G a e)=Δ:=by induction e using zE<;>exact h
  obtain⟨x,p,y,p',e',pos',pos,rfl,h⟩:=rW h;have h:(x == "list"&&G.Jj 5&&y == "reversed"&&G.gl.contains 18&&notStar e'&&Gw Z G a e')=Δ:=h;simp only[a_]at h;have e1:x = "list":=f_ h.1.1.1.1.1;have e2:y = "reversed":=f_ h.1.1.1.2;subst e1 e2;exact both (By g h.1.1.1.1.2 h.1.1.2 h.1.2 (snd a X ex G e' g h.2).1)
 |.Ks a,X,ex,G,e,g,h=>by
  have h:IG e (λf as _=>HN (λx=>x == "isinstance"&&G.gl.contains 14&&G.gl.contains 5&&G.gl.contains 6) f&&Oy as λe t=>notStar e&&Gw Z G a e&&SN (λts=>Oy ts λu v=>HN (λx=>x == "list") u&&HN (λx=>x == "tuple") v) t)=Δ:=by induction e using zE<;>exact h
  obtain⟨fe,as,p,rfl,q0⟩:=jc h;rw[a_]at q0;obtain⟨x,p',rfl,q1⟩:=iN q0.1;obtain⟨e',t,rfl,q2⟩:=rX q0.2;simp only[a_]at q1 q2;obtain⟨ts,n,pt,rfl,q3⟩:=Bv q2.2;obtain⟨u,v,rfl,q4⟩:=rX q3;rw[a_]at q4;obtain⟨y,p1,rfl,q5⟩:=iN q4.1;obtain⟨z,p2,rfl,q6⟩:=iN q4.2;have e1:x = "isinstance":=f_ q1.1.1.1;have e2:y = "list":=f_ q5;have e3:z = "tuple":=f_ q6;subst e1 e2 e3;exact both (Bw g q1.1.1.2 q1.1.2 q1.2 q2.1.1 (snd a X ex G e' g q2.1.2).1)
 |.Ja es,X,ex,G,e,g,h=>by
  have h:IG e (λf as _=>HN (λx=>x == "list"&&G.Jj 5&&G.gl.contains 15) f&&Jk as λr=>IG r λg bs _=>HN (λy=>y == "range") g&&iz Z G es bs)=Δ:=by induction e using zE<;>exact h
  obtain⟨fe,as,p,rfl,q0⟩:=jc h;rw[a_]at q0;obtain⟨x,p',rfl,q1⟩:=iN q0.1;obtain⟨r,rfl,q2⟩:=jG q0.2;obtain⟨ge,bs,pr,rfl,q3⟩:=jc q2;rw[a_]at q3;obtain⟨y,pg,rfl,q4⟩:=iN q3.1;simp only[a_]at q1;have e1:x = "list":=f_ q1.1.1;have e2:y = "range":=f_ q4;subst e1 e2;exact both (Bx g q1.1.2 q1.2 q3.2 (kQ es X ex G bs g q3.2))
 |.JE,X,ex,G,e,g,h=>by
  have h:Q5 e=Δ:=by induction e using zE<;>exact h
  obtain⟨pos,rfl⟩:=vI h;exact both Bz
 |.J2 a k,X,ex,G,e,g,h=>by
  have h:Q6 e (λo s=>iU s&&Gw Z G a o&&Gw Z G k s)=Δ:=by induction e using zE<;>exact h
  obtain⟨o,s,pos,rfl,q1⟩:=Bt h;simp only[a_]at q1;exact both (BA g (snd a X ex G o g q1.1.2).1 (snd k X ex G s g q1.2).1 q1.1.1)
 |.IU a x cs,X,ex,G,e,g,h=>by
  have h:Q8 e (λo y=>y == x&&pI o&&Z.JF.contains x&&cs.all (λc=>Z.HE.contains c)&&Gw Z G a o)=Δ:=by induction e using zE<;>exact h
  obtain⟨o,y,p,rfl,q1⟩:=Bu h;simp only[a_]at q1;have e1:y=x:=f_ q1.1.1.1.1;subst e1;exact both (BD g q1.1.1.1.2 q1.1.1.2 q1.1.2 (snd a X ex G o g q1.2).1)
 |.HM f m c a es,X,ex,G,e,g,h=>by
  have h:IG e (λfe as p=>JO fe λo y ap=>y == m&&pI o&&ap.endLine == p.line&&decide (as.length < 29)&&Z.Ox.contains (f,c,m)&&(Z.HE.contains c&&G.cm)&&Gw Z G a o&&iz Z G es as)=Δ:=by induction e using zE<;>exact h
  obtain⟨fe,as,p,rfl,q0⟩:=jc h;obtain⟨o,y,ap,rfl,q1⟩:=kb q0;simp only[a_]at q1;obtain⟨⟨⟨⟨⟨⟨⟨e1,hn⟩,hl⟩,hlen⟩,hf⟩,hc,Hq⟩,ha⟩,Hb⟩:=q1;have e1:=f_ e1;subst e1;exact both (BE g hn hl (p_ hlen) (List.contains_iff_mem.mp hf) (List.contains_iff_mem.mp hc) Hq Hb (snd a X ex G o g ha).1 (kQ es X ex G as g Hb))
 |.Jv n f c es,X,ex,G,e,g,h=>by
  have h:IG e (λfe as _=>HN (λx=>jQ Z G n x&&Z.Jv.contains (n,c,f)&&(Z.HE.contains c&&G.cm)&&iz Z G es as) fe)=Δ:=by induction e using zE<;>exact h
  obtain⟨fe,as,p,rfl,q0⟩:=jc h;obtain⟨x,p',rfl,_⟩:=iN q0;exact both λpins s σ H Q I ⟨S,τ,hs,q⟩=>q.no.elim
 |.KR a,X,ex,G,e,g,h=>by
  have h:IG e (λfe as _=>HN (λx=>x == "dict"&&G.Jj 19) fe&&Jk as λe=>notStar e&&Gw Z G a e)=Δ:=by induction e using zE<;>exact h
  obtain⟨fe,as,p,rfl,q0⟩:=jc h;rw[a_]at q0;obtain⟨x,p',rfl,q1⟩:=iN q0.1;obtain⟨e',rfl,q2⟩:=jG q0.2;rw[a_]at q1 q2;have e1:x = "dict":=f_ q1.1;subst e1;exact both (BF g q1.2 q2.1 (snd a X ex G e' g q2.2).1)
 |.ID es,X,ex,G,e,g,h=>by
  have h:Q7 e (λl=>iz Z G es l)=Δ:=by induction e using zE<;>exact h
  obtain⟨l,p,rfl,q1⟩:=vJ h;exact both (zX (kQ es X ex G l g q1))
 |.JY a,X,ex,G,e,g,h=>by
  have h:O6 e (λx y e=>x == "len"&&G.gl.contains 0&&y == "set"&&G.gl.contains 12&&(notStar e&&G.cm)&&Gw Z G a e)=Δ:=by induction e using zE<;>exact h
  obtain⟨x,p,y,p',e',q',q,rfl,h⟩:=rW h;have h:(x == "len"&&G.gl.contains 0&&y == "set"&&G.gl.contains 12&&(notStar e'&&G.cm)&&Gw Z G a e')=Δ:=h;simp only[a_]at h;have e1:x = "len":=f_ h.1.1.1.1.1;have e2:y = "set":=f_ h.1.1.1.2;subst e1 e2;exact both (BC g h.1.1.1.1.2 h.1.1.2 h.1.2.1 h.1.2.2 (snd a X ex G e' g h.2).1)
 |.J3 a k,X,ex,G,e,g,h=>by
  induction e using zE with
  |Call fn args Iq pos=>
   induction fn using zE with
   |Name x p=>
    match args,Iq,h with
    |[o,.Name y p'],[],h=>have h':(x == "isinstance"&&G.gl.contains 14&&y == lE k&&G.gl.contains (tx k)&&notStar o&&Gw Z G a o)=Δ:=h;simp only[a_]at h';have e1:x = "isinstance":=f_ h'.1.1.1.1.1;have e2:y=lE k:=f_ h'.1.1.1.2;subst e1 e2;exact both (DH g h'.1.1.1.1.2 h'.1.1.2 h'.1.2 (snd a X ex G o g h'.2).1)
    |[],_,h=>exists h
    |[_],_,h=>exists h
    |_::b::_::_,k,h=>cases b<;>cases k<;>exists h
    |[_,.Name _ _],_::_,h=>exists h
    |[_,.BoolOp ..],_,h=>exists h
    |[_,.NamedExpr ..],_,h=>exists h
    |[_,.BinOp ..],_,h=>exists h
    |[_,.UnaryOp ..],_,h=>exists h
    |[_,.Lambda ..],_,h=>exists h
    |[_,.IfExp ..],_,h=>exists h
    |[_,.Dict ..],_,h=>exists h
    |[_,.Set ..],_,h=>exists h
    |[_,.ListComp ..],_,h=>exists h
    |[_,.SetComp ..],_,h=>exists h
    |[_,.DictComp ..],_,h=>exists h
    |[_,.GeneratorExp ..],_,h=>exists h
    |[_,.Await ..],_,h=>exists h
    |[_,.Yield ..],_,h=>exists h
    |[_,.YieldFrom ..],_,h=>exists h
    |[_,.Compare ..],_,h=>exists h
    |[_,.Call ..],_,h=>exists h
    |[_,.FormattedValue ..],_,h=>exists h
    |[_,.JoinedStr ..],_,h=>exists h
    |[_,.Constant ..],_,h=>exists h
    |[_,.Attribute ..],_,h=>exists h
    |[_,.Subscript ..],_,h=>exists h
    |[_,.Starred ..],_,h=>exists h
    |[_,.Slice ..],_,h=>exists h
    |[_,.List ..],_,h=>exists h
    |[_,.Tuple ..],_,h=>exists h
   |_=>exists h
  |_=>exists h
 |.Me m o es,X,ex,G,e,g,h=>by
  induction e using zE with
  |Call fn args Iq pos=>
   induction fn using zE with
   |Attribute oe name apos=>
    match args,Iq,h with
    |a::args,[],h=>have h':(name == nT m&&nW oe&&apos.endLine == pos.line&&(decide ((a::args).length < 29)&&(G.cm||rT m))&&Gw Z G o oe&&iz Z G es (a::args))=Δ:=h;simp only[a_]at h';have e1:name=nT m:=f_ h'.1.1.1.1.1;subst e1;exact both (DI g h'.1.1.1.1.2 h'.1.1.1.2 (p_ h'.1.1.2.1) h'.1.1.2.2 h'.2 (snd o X ex G oe g h'.1.2).1 (kQ es X ex G _ g h'.2))
    |[],_,h=>exists h
    |_::_,_::_,h=>exists h
   |_=>exists h
  |_=>exists h
 |.comp G' fr tg src ifs elt,X,ex,G,e,g,h=>by
  induction e using zE with
  |ListComp el gens scope pos=>
   have h:uv gens (λt it fs=>jx Z G scope G' fr&&i8 G' tg t&&(Jw tg).all (λi=>decide (fr.length<=i))&&(j5 Z G src it&&mY src t)&&iz Z G' ifs fs&&Gw Z G' elt el)=Δ:=h;obtain⟨t,it,fs,rfl,h⟩:=pH h;have h':(jx Z G scope G' fr&&i8 G' tg t&&(Jw tg).all (λi=>decide (fr.length<=i))&&(j5 Z G src it&&mY src t)&&iz Z G' ifs fs&&Gw Z G' elt el)=Δ:=h;simp only[a_]at h'
   exact both (BJ g (pL h'.1.1.1.1.1) h'.1.1.1.1.2 (λi hi=>p_ (I_.mp h'.1.1.1.2 i hi)) (yF src X ex G it t g h'.1.1.2.1 h'.1.1.2.2)
    (λX' g'=>yE ifs X' Jd G' fs g' h'.1.2) (λX' g'=>(snd elt X' Jd G' el g' h'.2).1) (λx=>jW h'.1.1.2.1 X.env x))
  |_=>exists h
theorem kQ:∀(as:Ç) (X:Cx) (ex:EX->Prop) (G:Gm) (l:Ü),Hc Z CX cl xp X ex G->iz Z G as l=Δ->PA X l (RA X.K ex (dI as) (iq cl as))
 |[],X,ex,G,l,g,h=>by
  induction l using zL with
  |nil=>exact pv jn λσ H Q ⟨S,τ,hs,q⟩=>q.ok _ _ (.refl _) .nil
  |cons _ _=>exists h
 |a::as,X,ex,G,l,g,h=>by
  induction l using zL with
  |nil=>exists h
  |cons e l=>have h':(notStar e&&Gw Z G a e&&iz Z G as l)=Δ:=h;simp only[a_]at h';refine pv (iF (snd a X ex G e g h'.1.2).1 (kQ as X ex G l g h'.2) (dM h'.1.1 _ _)) λσ H Q Gz=>?_;obtain⟨S,τ,hs,q⟩:=Gz;refine iK (.refl _) hs.left (Gb.FW q) λx v H1 e1 _ m1 q1=>?_;refine kP e1 hs.right (Gb.FW q1) λds vs H2 e2 HX m2 q2=>?_;exact q2.ok _ _ e2 (.cons (m1.later HX) m2)
theorem yD:∀(o:Option IR) (X:Cx) (ex:EX->Prop) (G:Gm) (e:Option Expr),Hc Z CX cl xp X ex G->rY Z G o e=Δ->PO X e (O8 X.K ex (vq o) (pC cl o))
 |none,X,ex,G,e,g,h=>by
  induction e using zO with
  |none=>intro pins s σ H Q I Gz;obtain⟨S,τ,hs,q⟩:=Gz;exact xP pins s σ H Q I (q.ok H (.refl _))
  |some _=>exists h
 |some a,X,ex,G,e,g,h=>by
  induction e using zO with
  |none=>exists h
  |some e=>
   intro pins s σ H Q I Gz;obtain⟨S,τ,hs,q⟩:=Gz;refine xQ (snd a X ex G e g h).1 pins s σ H Q I ?_;refine iK (.refl _) hs (Gb.FW q) λx v H1 e1 _ m1 q1=>?_
   induction x using zD with
   |int i=>cases m1.Ha;exact⟨i,rfl,q1.ok _ e1⟩
   |_=>exact q1.no.elim
theorem yE:∀(as:Ç) (X:Cx) (ex:EX->Prop) (G:Gm) (l:Ü),Hc Z CX cl xp X ex G->iz Z G as l=Δ->M4 X l (RT X.K ex (dI as) (lj cl as))
 |[],X,ex,G,l,g,h=>by
  induction l using zL with
  |nil=>intro pins s σ H Q I ⟨S,τ,hs,q⟩;exact xU pins s σ H Q I (q.ok H (.refl _))
  |cons _ _=>exists h
 |a::as,X,ex,G,l,g,h=>by
  induction l using zL with
  |nil=>exists h
  |cons e l=>
   have h':(notStar e&&Gw Z G a e&&iz Z G as l)=Δ:=h;simp only[a_]at h';intro pins s σ H Q I Gz;obtain⟨S,τ,hs,q⟩:=Gz;refine u5 (snd a X ex G e g h'.1.2).2 (yE as X ex G l g h'.2) pins s σ H Q I ?_;refine lW (.refl _) hs.left (Gb.FW q) λr H2 e2 _ k=>?_
   induction r using zB with
   |true=>rw[d_ rfl]at k ⊢;exact lW e2 hs.right k λb H3 e3 _ z=>z H3 e3
   |false=>rw[b_ C_]at k ⊢;exact k.ok H2 e2
theorem yF:∀(s:Sr) (X:Cx) (ex:EX->Prop) (G:Gm) (e tg:Expr),Hc Z CX cl xp X ex G->j5 Z G s e=Δ->mY s tg=Δ->PI X tg e (RI X.K ex (lO s) (kB cl s))
 |.Hj n,X,ex,G,e,tg,g,h,ht=>by
  induction e using zE with
  |Call fn args Iq pos=>
   induction fn using zE with
   |Name x p=>
    match args,Iq,h with
    |[a],[],h=>have h':(x == "range"&&G.gl.contains 15&&notStar a&&Gw Z G n a)=Δ:=h;simp only[a_]at h';have e1:x = "range":=f_ h'.1.1.1;subst e1;exact BH g h'.1.1.2 h'.1.2 (snd n X ex G a g h'.2).1
    |[],_,h=>exists h
    |[_],_::_,h=>exists h
    |_::_::_,_,h=>exists h
   |_=>exists h
  |_=>exists h
 |.IV a b,X,ex,G,e,tg,g,h,ht=>by
  induction e using zE with
  |Call fn args Iq pos=>
   induction fn using zE with
   |Name x p=>
    match args,Iq,h with
    |[l,r],[],h=>have h':(x == "range"&&G.gl.contains 15&&notStar l&&notStar r&&Gw Z G a l&&Gw Z G b r)=Δ:=h;simp only[a_]at h';have e1:x = "range":=f_ h'.1.1.1.1.1;subst e1;exact BI g h'.1.1.1.1.2 h'.1.1.1.2 h'.1.1.2 (snd a X ex G l g h'.1.2).1 (snd b X ex G r g h'.2).1
    |[],_,h=>exists h
    |[_],_,h=>exists h
    |[_,_],_::_,h=>exists h
    |_::_::_::_,_,h=>exists h
   |_=>exists h
  |_=>exists h
 |.val a,X,ex,G,e,tg,g,h,ht=>DN (snd a X ex G e g h).1
 |.J4 a,X,ex,G,e,tg,g,h,ht=>by
  induction tg using zE with
  |Tuple tes tc tp=>
   induction e using zE with
   |Call fn args Iq pos=>
    induction fn using zE with
    |Name x p=>
     match args,Iq,h with
     |[l],[],h=>have h':(x == "enumerate"&&G.gl.contains 20&&notStar l&&Gw Z G a l)=Δ:=h;simp only[a_]at h';have e1:x = "enumerate":=f_ h'.1.1.1;subst e1;exact DO g h'.1.1.2 h'.1.2 (snd a X ex G l g h'.2).1
     |[],_,h=>exists h
     |[_],_::_,h=>exists h
     |_::_::_,_,h=>exists h
    |_=>exists h
   |_=>exists h
  |_=>exact dH ht
end
end
inductive Hf (K:Frag)(F:Ψ->Prop)(H:Hp):St->Ev->È->Prop where
 | nil:Hf K F H [] [] []
 | none {o:Option V}{σ:St}{τ:Ev}{f:È}:Hf K F H σ τ f->Hf K F H (o::σ) (.none::τ) f
 | some {v:V}{d:D}{f:È}{σ:St}{τ:Ev}{g:È}:Gu K F H v d f->Hf K F H σ τ g->Hf K F H (.some v::σ) (.some d::τ) (f++g)
section
variable {K:Frag}{F F':Ψ->Prop}{H H':Hp}{σ:St}{τ:Ev}{f:È}
theorem Hf.step (hl:∀a (u:LD),F a->Rd H a u.o->F' a/\Rd H' a u.o)(ht:∀a xs,HB K H a xs->HB K H' a xs):∀ {σ:St}{τ:Ev}{f:È},(∀a∈f,¬F a->H a≠Option.none->¬F' a/\H' a=H a)->Hf K F H σ τ f->Hf K F' H' σ τ f
 |_,_,_,_,.nil=>.nil
 |_,_,_,k,.none h=>.none (Hf.step hl ht k h)
 |_,_,_,k,.some m h=>.some (m.step hl ht λa ha=>k a (j_ _ ha)) (Hf.step hl ht (λa ha=>k a (k_ _ ha)) h)
theorem Hf.own:∀ {σ:St}{τ:Ev}{f:È},Hf K F H σ τ f->∀a∈f,¬F a/\∃u,H a=.some u
 |_,_,_,.nil=>λ_ h=>absurd h (by simp)
 |_,_,_,.none h=>Hf.own h
 |_,_,_,.some m h=>λa ha=>by
  rcases t_.mp ha with ha|ha
  ·exact m.own a ha
  ·exact Hf.own h a ha
def jq {o:À}  : dJ (o::τ) (i+1)=dJ τ i:=by unfold dJ;simp
def jH {o:À}  : dJ (o::τ) 0=o:=by unfold dJ;simp
theorem Hf.at:∀ {σ:St}{τ:Ev}{f:È}{i:Nat}{d:D},Hf K F H σ τ f->dJ τ i=.some d->∃v fv g,σ[i]? = .some (.some v)/\Gu K F H v d fv/\Hf K F H σ (τ.set i .none) g/\f.Perm (fv++g)
 |_,_,_,i,d,.nil,h=>by simp[dJ]at h
 |_,_,_,0,d,.none _,h=>by rw[jH]at h;cases h
 |_,_,_,0,d,.some m h',h=>by rw[jH]at h;cases h;exact⟨_,_,_,rfl,m,.none h',.refl _⟩
 |_,_,_,i+1,d,.none h',h=>by rw[jq]at h;obtain⟨v,fv,g,h1,h2,h3,h4⟩:=Hf.at h' h;exact⟨v,fv,g,by simpa using h1,h2,.none h3,h4⟩
 |_,_,_,i+1,d,.some (f:=f0) m h',h=>by rw[jq]at h;obtain⟨v,fv,g,h1,h2,h3,h4⟩:=Hf.at h' h;refine⟨v,fv,f0++g,by simpa using h1,h2,.some m h3,?_⟩;refine(T_ f0 h4).trans ?_;rw[<- y_,<- y_];exact List.Perm.append_right g W_
theorem Hf.put:∀ {σ:St}{τ:Ev}{f:È} (i:Nat) {v:V}{d:D}{fv:È},Hf K F H σ τ f->Gu K F H v d fv->∃g h,Hf K F H (σ.set i (.some v)) (τ.set i (.some d)) g/\(g++h).Perm (fv++f)
 |_,_,_,i,v,d,fv,.nil,m=>⟨[],_,.nil,.refl _⟩
 |_,_,_,0,v,d,fv,.none h,m=>⟨_,[],.some m h,by rw[R_]⟩
 |_,_,_,0,v,d,fv,.some (f:=f0) (g:=g0) m' h,m=>⟨_,f0,.some m h,by rw[y_];exact T_ _ W_⟩
 |_,_,_,i+1,v,d,fv,.none h,m=>by obtain⟨g,h',h1,h2⟩:=Hf.put i h m;exact⟨g,h',.none h1,h2⟩
 |_,_,_,i+1,v,d,fv,.some (f:=f0) (g:=g0) m' h,m=>by obtain⟨g,h',h1,h2⟩:=Hf.put i h m;refine⟨f0++g,h',.some m' h1,?_⟩;rw[y_];refine(T_ f0 h2).trans ?_;rw[<- y_,<- y_];exact List.Perm.append_right g0 W_
def Hf.slots (h:Hf K F H σ τ f)(hF:∀a,F a->S a)(hf:∀a∈f,S a):Slots K S H σ τ is:=λi hi d z=>by obtain⟨v,fv,g,h1,h2,h3,h4⟩:=h.at z;exact⟨v,h1,h2.read hF λa ha=>hf a (h4.mem_iff.mpr (j_ _ ha))⟩
theorem Hf.freeze (is:Ã):∀ {σ:St}{τ:Ev}{f:È} (k:Nat),Hf K F H σ τ f->∃fi g,f.Perm (fi++g)/\(∀F':Ψ->Prop,(∀a,F a->F' a)->(∀a∈fi,F' a)->(∀a∈g,¬F a->¬F' a)->Hf K F' H σ (mC is k τ) g)/\
  ∀F':Ψ->Prop,(∀a,F a->F' a)->(∀a∈fi,F' a)->∀i,is.contains (k+i)=Δ->∀d,dJ τ i=.some d->∃v,σ[i]? = .some (.some v)/\Gk K F' H v d
 |_,_,_,k,.nil=>⟨[],[],.refl _,λ_ _ _ _=>.nil,λ_ _ _ i _ d z=>by simp[dJ]at z⟩
 |_,_,_,k,.none h=>by
  obtain⟨fi,g,h1,h2,h3⟩:=Hf.freeze is (k+1) h;refine⟨fi,g,h1,λF' a b c=>?_,λF' a b i hi d z=>?_⟩
  ·unfold mC;have e:(if is.contains k=Δ then Option.map er (Option.none:À) else Option.none)=Option.none:=by split<;>rfl
   rw[e];exact .none (h2 F' a b c)
  ·cases i with
   |zero=>rw[jH]at z;cases z
   |succ i=>rw[jq]at z;obtain⟨v,q1,q2⟩:=h3 F' a b i (by rw[show k+1+i=k+(i+1) by omega];exact hi) d z;exact⟨v,by simpa using q1,q2⟩
 |_,_,_,k,.some (v:=v) (d:=d0) (f:=f0) (g:=g0) m h=>by
  obtain⟨fi,g,h1,h2,h3⟩:=Hf.freeze is (k+1) h;by_cases hc:is.contains k=Δ
  ·refine⟨f0++fi,g,by rw[y_];exact T_ _ h1,λF' a b c=>?_,λF' a b i hi d z=>?_⟩
   ·unfold mC;rw[d_ hc];exact .some (f:=[]) ((m.read a λx hx=>b x (j_ _ hx)).frozen) (h2 F' a (λx hx=>b x (k_ _ hx)) c)
   ·cases i with
    |zero=>rw[jH]at z;cases z;exact⟨v,rfl,m.read a λx hx=>b x (j_ _ hx)⟩
    |succ i=>rw[jq]at z;obtain⟨v,q1,q2⟩:=h3 F' a (λx hx=>b x (k_ _ hx)) i (by rw[show k+1+i=k+(i+1) by omega];exact hi) d z;exact⟨v,by simpa using q1,q2⟩
  ·refine⟨fi,f0++g,?_,λF' a b c=>?_,λF' a b i hi d z=>?_⟩
   ·refine(T_ f0 h1).trans ?_;rw[<- y_,<- y_];exact List.Perm.append_right g W_
   ·unfold mC;rw[b_ hc];exact .some (m.step (λx xs q r=>⟨a x q,r⟩) (λx xs q=>q) λx hx n _=>⟨c x (j_ _ hx) n,rfl⟩) (h2 F' a b λx hx=>c x (k_ _ hx))
   ·cases i with
    |zero=>exact absurd hi hc
    |succ i=>rw[jq]at z;obtain⟨v,q1,q2⟩:=h3 F' a b i (by rw[show k+1+i=k+(i+1) by omega];exact hi) d z;exact⟨v,by simpa using q1,q2⟩
end
structure K1 (F:Ψ->Prop)(H:Hp)(f:È)(F':Ψ->Prop)(H':Hp):Prop where
 same:ip H H'
 HU:∀a,F a->F' a
 out:∀a,F' a->F a∨a∈f∨H a=Ξ
structure Ow (K:Frag)(F:Ψ->Prop)(H:Hp)(f:È)(F':Ψ->Prop)(H':Hp)(σ:St)(v:V)(d:D)(fv:È)(Gv:Ev)(f':È):Prop where
 Je:K1 F H f F' H'
 G9:JP F' H'
 rep:Gu K F' H' v d fv
 HA:Hf K F' H' σ Gv f'
 He:(fv++f').Nodup
 mem:∀a∈fv++f',a∈f∨H a=Ξ
structure Yq (K:Frag)(F:Ψ->Prop)(H:Hp)(f:È)(F':Ψ->Prop)(H':Hp)(σ:St)(v:Ë)(d:Ê)(fv:È)(Gv:Ev)(f':È):Prop where
 Je:K1 F H f F' H'
 G9:JP F' H'
 rep:Gj K F' H' v d fv
 HA:Hf K F' H' σ Gv f'
 He:(fv++f').Nodup
 mem:∀a∈fv++f',a∈f∨H a=Ξ
theorem K1.refl:K1 F H f F H:=⟨.refl _,λ_ h=>h,λ_ h=>.inl h⟩
theorem K1.trans (a:K1 F H f F' H')(b:K1 F' H' f' Qj Qk)(hf:∀x∈f',x∈f∨H x=Ξ):K1 F H f Qj Qk:=⟨a.same.trans b.same,λx h=>b.HU x (a.HU x h),λx h=>by
 rcases b.out x h with h|h|h
 ·exact a.out x h
 ·rcases hf x h with h|h
  ·exact .inr (.inl h)
  ·exact .inr (.inr h)
 ·exact .inr (.inr (a.same.free h))⟩
def Gu.Je {K:Frag}(m:Gu K F H v d fv)(s:K1 F H f F' H')(h:∀a∈fv,a∉f):Gu K F' H' v d fv:=
 m.step (λa xs q r=>⟨s.HU a q,s.same.rd r⟩) (λa xs q=>s.same.IQ q) λa ha n hn=>by
  obtain⟨_,xs,e⟩:=m.own a ha;refine⟨λz=>?_,(s.same _ _ e).trans e.symm⟩;rcases s.out a z with z|z|z
  ·exact n z
  ·exact h a ha z
  ·exact hn z
def Gj.Je {K:Frag}(m:Gj K F H v d fv)(s:K1 F H f F' H')(h:∀a∈fv,a∉f):Gj K F' H' v d fv:=
 m.step (λa xs q r=>⟨s.HU a q,s.same.rd r⟩) (λa xs q=>s.same.IQ q) λa ha n hn=>by
  obtain⟨_,xs,e⟩:=m.own a ha;refine⟨λz=>?_,(s.same _ _ e).trans e.symm⟩;rcases s.out a z with z|z|z
  ·exact n z
  ·exact h a ha z
  ·exact hn z
def RO (K:Frag)(ex:EX->Prop)(g:Ev->Res (D×Ev)):TE:=λσ H Q=>∃F τ f,JP F H/\Hf K F H σ τ f/\f.Nodup/\Gb ex (g τ) λp=>∀v H' F' fv f',Ow K F H f F' H' σ v p.1 fv p.2 f'->Q v H'
def Pd (K:Frag)(ex:EX->Prop)(g:Ev->Res (Ê×Ev)):TA:=λσ H Q=>∃F τ f,JP F H/\Hf K F H σ τ f/\f.Nodup/\Gb ex (g τ) λp=>∀v H' F' fv f',Yq K F H f F' H' σ v p.1 fv p.2 f'->Q v H'
@[reducible]def Kn (K:Frag)(S:Ψ->Prop)(H:Hp)(Q:VK):Ê->Prop:=λds=>∀p ys H',ip H H'->H p=Ξ->H' p=Γ (.lst ys)->FZ K (λa=>nw S H a/\a≠p) H' ys ds->Q (.ref p) H'
def RN (K:Frag)(ex:EX->Prop)(is:Ã)(f:Ev->Res (Ê)):TE:=λσ H Q=>∃S τ,Slots K S H σ τ is/\Gb ex (f τ) (Kn K S H Q)
abbrev ki:D->Res (Ê)
 |.lst _ ds=>.ok ds
 |_=>Gq
def qL {K:Frag}(m:FZ K (nw S H) H2 vs ds)(hp:H2 p=Ξ):FZ K (λa=>nw S H a/\a≠p) (upd H2 p (.lst ws)) vs ds:=
 m.step (λa xs h r=>by
  have Jf:a≠p:=λz=>r.some (by rw[z];exact hp);refine⟨⟨h,Jf⟩,?_⟩;unfold Rd;rw[dN Jf]
  exact r) λa xs h=>(ip.upd hp).IQ h
def grow {K:Frag}(P:Ψ->Prop)(G9:JP F H)(r:Hf K F H σ τ f)(e:ip H H') :
  JP (λa=>F a∨(P a/\H a=Ξ/\H' a≠Ξ)) H'/\Hf K (λa=>F a∨(P a/\H a=Ξ/\H' a≠Ξ)) H' σ τ f/\K1 F H f (λa=>F a∨(P a/\H a=Ξ/\H' a≠Ξ)) H':=by
 refine⟨λa h=>?_,r.step (λa xs q rd=>⟨.inl q,e.rd rd⟩) (λa xs q=>e.IQ q) λa ha n hn=>⟨λz=>?_,?_⟩,⟨e,λa h=>.inl h,λa h=>?_⟩⟩
 ·rcases h with h|h
  ·intro z;exact G9 a h (e.free z)
  ·exact h.2.2
 ·rcases z with z|z
  ·exact n z
  ·exact hn z.2.1
 ·obtain⟨_,xs,q⟩:=r.own a ha;exact(e _ _ q).trans q.symm
 ·rcases h with h|h
  ·exact .inl h
  ·exact .inr (.inr h.2.1)
def kX {K:Frag}(G9:JP F H)(r:Hf K F H σ τ f)(e:ip H H'):JP F H'/\Hf K F H' σ τ f/\K1 F H f F H':=by refine⟨λa h z=>G9 a h (e.free z),r.step (λa xs q rd=>⟨q,e.rd rd⟩) (λa xs q=>e.IQ q) λa ha n hn=>⟨n,?_⟩,⟨e,λa h=>h,λa h=>.inl h⟩⟩;obtain⟨_,xs,q⟩:=r.own a ha;exact(e _ _ q).trans q.symm
def jI {K:Frag}(is:Ã)(G9:JP F H)(r:Hf K F H σ τ f)(nd:f.Nodup):∃F1 g,JP F1 H/\Hf K F1 H σ (Gy is τ) g/\g.Nodup/\K1 F H f F1 H/\(∀a∈g,a∈f)/\Slots K F1 H σ τ is:=by
 obtain⟨fi,g,h1,h2,h3⟩:=r.freeze is 0;have LZ:(fi++g).Nodup:=h1.nodup_iff.mp nd;have Pe:∀a∈g,a∉fi:=λa ha hb=>(g_.mp LZ).2.2 a hb a ha rfl;have V5:∀a∈fi,a∈f:=λa ha=>h1.mem_iff.mpr (j_ _ ha);have Rf:∀a∈g,a∈f:=λa ha=>h1.mem_iff.mpr (k_ _ ha);refine⟨λa=>F a∨a∈fi,g,λa h=>?_,h2 _ (λa h=>.inl h) (λa h=>.inr h) (λa ha n z=>?_),(g_.mp LZ).2.1,⟨.refl _,λa h=>.inl h,λa h=>?_⟩,Rf,λi hi d z=>?_⟩
 ·rcases h with h|h
  ·exact G9 a h
  ·obtain⟨_,xs,q⟩:=r.own a (V5 a h);rw[q];simp
 ·rcases z with z|z
  ·exact n z
  ·exact Pe a ha z
 ·rcases h with h|h
  ·exact .inl h
  ·exact .inr (.inl (V5 a h))
 ·exact h3 _ (λa h=>.inl h) (λa h=>.inr h) i (by simpa using hi) d z
def i9 {K:Frag}(r:Hf K F H σ τ f):Slots K (λ_=>True) H σ τ is:=r.slots (λ_ _=>trivial) λ_ _=>trivial
def Gk.fix {K:Frag}(m:Gk K (L2.nw F H) H' v d):Gk K (λa=>F a∨(True/\H a=Ξ/\H' a≠Ξ)) H' v d:=m.step (λa xs h r=>⟨h.elim (λz=>.inl z) λz=>.inr ⟨trivial,z,r.some⟩,r⟩) λa xs h=>h
def GA (he:PE X e (rk i))(mv:Bool):PE X e (RO X.K ex (Ho cl mv (.v i))):=by
 refine iu he λσ H Q Gz=>?_;obtain⟨F,τ,f,G9,r,nd,q⟩:=Gz;rw[Dr]at q;cases z:dJ τ i with
 |none=>rw[z]at q;exact q.no.elim
 |some d=>
  rw[z]at q;obtain⟨v,fv,g,h1,h2,h3,h4⟩:=r.at z;have LZ:(fv++g).Nodup:=h4.nodup_iff.mp nd
  induction mv using zB with
  |true=>have q':=(show Gb ex (.ok (d,τ.set i Ξ):Res (D×Ev)) _ from q).ok;exact⟨v,h1,q' v H F fv g ⟨.refl,G9,h2,h3,LZ,λa ha=>.inl (h4.mem_iff.mpr ha)⟩⟩
  |false=>
   have q':=(show Gb ex (.ok (er d,τ.set i (Γ (er d))):Res (D×Ev)) _ from q).ok;have Pe:∀a∈g,a∉fv:=λa ha hb=>(g_.mp LZ).2.2 a hb a ha rfl;have m1:Gu X.K (λa=>F a∨a∈fv) H v (er d) []:=(h2.read (λa h=>.inl h) (λa h=>.inr h)).frozen;have r1:Hf X.K (λa=>F a∨a∈fv) H σ (τ.set i Ξ) g:=h3.step (λa xs h r=>⟨.inl h,r⟩) (λa xs h=>h) λa ha n _=>⟨λz=>z.elim n (Pe a ha),rfl⟩
   obtain⟨g',h',r2,p2⟩:=r1.put i m1;have IJ:σ.set i (Γ v)=σ:=by
    apply List.ext_getElem?;intro j;rw[List.getElem?_set];by_cases hj:i=j
    ·subst hj;have HY:i < σ.length:=(v_.mp h1).1;rw[d_ rfl,d_ HY,h1]
    ·rw[b_ hj]
   rw[IJ,List.set_set]at r2;rw[List.nil_append]at p2;have LP:(g'++h').Nodup:=p2.nodup_iff.mpr (g_.mp LZ).2.1;refine⟨v,h1,q' v H _ [] g' ⟨⟨.refl _,λa h=>.inl h,λa h=>?_⟩,λa h=>?_,m1,r2,(g_.mp LP).1,λa ha=>?_⟩⟩
   ·exact h.elim (λz=>.inl z) λz=>.inr (.inl (h4.mem_iff.mpr (j_ _ z)))
   ·rcases h with h|h
    ·exact G9 a h
    ·obtain⟨_,xs,e⟩:=h2.own a h;rw[e];simp
   ·have:a∈g:=p2.mem_iff.mp (j_ _ (by simpa using ha));exact .inl (h4.mem_iff.mpr (k_ _ this))
def Ge (h:PA X l (Pd X.K ex g)):PE X (.Tuple l n pos) (RO X.K ex λτ=>FW (g τ) λp=>Gn (jf p.1.length) (.ok (.tup p.1,p.2))):=by
 refine iu (rE h) λσ H Q ⟨F,τ,f,G9,r,nd,q⟩=>⟨F,τ,f,G9,r,nd,(Gb.FW q).mono λp hp vs H1 F1 fv f1 o=>?_⟩
 obtain⟨gd,hp⟩:=Gb.Gn hp;refine⟨by rw[o.rep.length];exact jg gd,λp' Nd=>hp.ok _ _ F1 fv f1 ?_⟩;have e:ip H1 (upd H1 p' (.tup vs)):=.upd Nd;obtain⟨k1,k2,k3⟩:=kX o.G9 o.HA e;refine⟨o.Je.trans k3 (λx hx=>o.mem x (k_ _ hx)),k1,.tup (.inl (.inl gk)) (o.rep.Je k3 λa ha hb=>(g_.mp o.He).2.2 a ha a hb rfl),k2,o.He,o.mem⟩
def Gf (h:PA X l (Pd X.K ex g)):PE X (.List l pos) (RO X.K ex λτ=>FW (g τ) λp=>Gn (jf p.1.length) (.ok (.lst Δ p.1,p.2))):=by
 refine iu (rF h) λσ H Q ⟨F,τ,f,G9,r,nd,q⟩=>⟨F,τ,f,G9,r,nd,(Gb.FW q).mono λp hp vs H1 F1 fv f1 o=>?_⟩
 obtain⟨gd,hp⟩:=Gb.Gn hp;refine⟨by rw[o.rep.length];exact jg gd,λp' Nd=>hp.ok _ _ F1 (p'::fv) f1 ?_⟩;have e:ip H1 (upd H1 p' (.lst vs)):=.upd Nd;obtain⟨k1,k2,k3⟩:=kX o.G9 o.HA e;refine⟨o.Je.trans k3 (λx hx=>o.mem x (k_ _ hx)),k1,.HG (λz=>o.G9 _ z Nd) gk (o.rep.Je k3 λa ha hb=>(g_.mp o.He).2.2 a ha a hb rfl),k2,?_,λa ha=>?_⟩
 ·rw[e_,q_];refine⟨λz=>?_,o.He⟩;rcases t_.mp z with z|z
  ·obtain⟨_,xs,e⟩:=o.rep.own _ z;rw[Nd]at e;cases e
  ·obtain⟨_,xs,e⟩:=o.HA.own _ z;rw[Nd]at e;cases e
 ·rw[e_]at ha;rcases l_.mp ha with rfl|ha
  ·exact .inr (o.Je.same.free Nd)
  ·exact o.mem a ha
def Gg (hc:PT X c (RT X.K ex vc fc))(ha:PE X a (RO X.K ex fa))(hb:PE X b (RO X.K ex fb)) :
  PE X (.IfExp c a b pos) (RO X.K ex λτ=>FW (fc τ) λr=>if r=Δ then fa τ else fb τ):=by
 refine iu (qd hc ha hb) λσ H Q Gz=>?_;obtain⟨F,τ,f,G9,r,nd,q⟩:=Gz;refine lW (.refl _) (i9 r) (Gb.FW q) λx H2 e2 _ k=>?_;obtain⟨k1,k2,k3⟩:=kX G9 r e2;have go:∀ {g:Ev->Res (D×Ev)},Gb ex (g τ) (λp=>∀v H' F' fv f',Ow X.K F H f F' H' σ v p.1 fv p.2 f'->Q v H')->RO X.K ex g σ H2 Q:=λhg=>
  ⟨F,τ,f,k1,k2,nd,hg.mono λp hp v H' F' fv f' o=>hp v H' F' fv f' ⟨k3.trans o.Je (λx hx=>.inl hx),o.G9,o.rep,o.HA,o.He,λa ha=>(o.mem a ha).elim (λz=>.inl z) λz=>.inr (e2.free z)⟩⟩
 induction x using zB with
 |true=>rw[d_ rfl]at k ⊢;exact go k
 |false=>rw[b_ C_]at k ⊢;exact go k
def BL:PA X [] (Pd X.K ex λτ=>.ok ([],τ)):=pv jn λσ H Q ⟨F,τ,f,G9,r,nd,q⟩=>q.ok [] H F [] f ⟨.refl,G9,.nil,r,nd,λa ha=>.inl ha⟩
def yG (hn:notStar e=Δ)(ha:PE X e (RO X.K ex ga))(hr:PA X l (Pd X.K ex gs)) :
  PA X (e::l) (Pd X.K ex λτ=>FW (ga τ) λp=>FW (gs p.2) λq=>.ok (p.1::q.1,q.2)):=by
 refine pv (iF ha hr (dM hn _ _)) λσ H Q ⟨F,τ,f,G9,r,nd,q⟩=>⟨F,τ,f,G9,r,nd,(Gb.FW q).mono λp hp v H1 F1 fv f1 o=>?_⟩
 refine⟨F1,p.2,f1,o.G9,o.HA,(g_.mp o.He).2.1,(Gb.FW hp).mono λp' Nd vs H2 F2 Yr f2 o2=>?_⟩;have Pe:∀a∈fv,a∉f1:=λa h1 h2=>(g_.mp o.He).2.2 a h1 a h2 rfl;have m2:=o.rep.Je o2.Je Pe;refine Nd.ok (v::vs) H2 F2 (fv++Yr) f2 ⟨o.Je.trans o2.Je (λx hx=>o.mem x (k_ _ hx)),o2.G9,.cons m2 o2.rep,o2.HA,?_,λa ha=>?_⟩
 ·rw[y_];refine g_.mpr ⟨(g_.mp o.He).1,o2.He,λa h1 b h2 e=>?_⟩;subst e;rcases o2.mem a h2 with z|z
  ·exact Pe a h1 z
  ·obtain⟨_,xs,e⟩:=o.rep.own a h1;rw[z]at e;cases e
 ·rw[y_]at ha;rcases t_.mp ha with ha|ha
  ·exact o.mem a (j_ _ ha)
  ·rcases o2.mem a ha with z|z
   ·exact o.mem a (k_ _ z)
   ·exact .inr (o.Je.same.free z)
section
variable {Z:Sg}{CX:II}{cl:Ä}{xp:XK->Hp->EX->Prop}{X:Cx}{ex:EX->Prop}{G:Gm}
def Rg (K:Frag)(ex:EX->Prop)(cl:Ä)(f:Nat)(vs:Ë)(H:Hp)(Q:VK):Prop:=∃F ds,JP F H/\FZ K F H vs ds/\Gb ex (cl f (Gr ds)) λd=>∀v H' F' fv,Out K F H F' H' v d fv->Q v H'
def vR (g:Hc Z CX cl xp X ex G)  (h1:jQ Z G f x=Δ)(h2:Z.LY G f=Δ)(Hb:iz Z G es args=Δ)(h:PA X args t)
  (h0:args=[]->∀σ H (Q:Ë->Hp->Prop),t σ H Q->Q [] H):PE X (.Call (.Name x p) args [] pos) (λσ H Q=>t σ H λvs H1=>Rg X.K ex cl f vs H1 Q):=by
 obtain⟨k1,k2,k3,k4⟩:=o4 g h1;obtain⟨k,MO,fd,ps,hm,Kp,hb,F,hr,hlen⟩:=(g.fns f (mI h2).1 (mI h2).2 x k2).ex;obtain⟨E,hP,hE⟩:=g.O7;intro pins s σ H Q I q;have fin:∀(us:List Φ) (s1:Ω) (vs:Ë) (H1:Hp),Inv X pins σ H1 s1->Vals vs us->Rg X.K ex cl f vs H1 Q->Ι (Κ X.prog X.w) X.A (call (.ref MO) us) (EP X pins σ Q) X.xe s1:=by
  intro us s1 vs H1 I1 r Gz;obtain⟨Fc,ds,G9,m,q1⟩:=Gz;have hl:=hlen ex _ _ q1;rw[iB]at hl;refine nc F hr hb hP g.MI I1 r (by rw[m.length];exact hl) G9 m ?_;cases z:cl f (Gr ds) with
  |error er=>
   rw[z]at q1;cases er with
   |stuck=>exact q1.no.elim
   |exc c=>exact hE c _ q1
  |ok d=>rw[z]at q1;exact q1.ok
 refine P_ (kJ I k1 hm ?_ k4)
 induction args using zL with
 |nil=>
  induction es using zL with
  |cons _ _=>cases Hb
  |nil=>exact PySem.W.callWith_K0 I.Ig Kp (fin [] s [] H I .nil (h0 rfl σ H _ q))
 |cons e l=>
  induction es using zL with
  |nil=>cases Hb
  |cons a es=>have G8:(notStar e&&Gw Z G a e&&iz Z G es l)=Δ:=Hb;simp only[a_]at G8;refine PySem.W.callWith_K (h₀:=X.base) I.ok.mod.MD Kp (G5 (h pos pins s σ H _ I q) λus s1 ⟨vs,H1,I1,r,q1⟩=>⟨I1.Ig,?_⟩) (dM G8.1.1 l X.env) (iL Z G (es:=es) pos X.env G8.2);exact fin us s1 vs H1 I1 r q1
def F0 (g:Hc Z CX cl xp X ex G)  (h1:jQ Z G f x=Δ)(h2:Z.LY G f=Δ)(Hb:iz Z G es args=Δ)(mv:Bool) :
  PE X (.Call (.Name x p) args [] pos) (RO X.K ex (Ho cl mv (.call f es))):=by
 have pa:=kQ es X ex G args g Hb
 have pe:=vR (p:=p) (pos:=pos) g h1 h2 Hb pa (λe σ H Q ⟨S,τ,hs,q⟩=>by
  subst e
  induction es using zL with
  |nil=>exact q.ok [] H (.refl _) .nil
  |cons _ _=>cases Hb)
 refine iu pe λσ H Q Gz=>?_;obtain⟨F,τ,fo,G9,r,nd,q⟩:=Gz;have q':Gb ex (FW (iq cl es τ) λds=>FW (cl f (Gr ds)) λd=>if i7 d=Δ then .ok (d,τ) else .ok (d,Gy (dI es) τ)) (λp=>∀v H' F' fv f',Ow X.K F H fo F' H' σ v p.1 fv p.2 f'->Q v H'):=q
 -- read without SY up
 have borrow:(∀ds,iq cl es τ=.ok ds->Gb ex (cl f (Gr ds)) λd=>i7 d=Δ/\∀v H' F' fv f',Ow X.K F H fo F' H' σ v d fv τ f'->Q v H')->Gb ex (iq cl es τ) (λ_=>True)->RA X.K ex (dI es) (iq cl es) σ H (λvs H1=>Rg X.K ex cl f vs H1 Q):=by intro hk G3;refine kP (.refl _) (i9 r) G3.eq λds vs H1 e1 _ m1 q1=>?_;refine⟨λa=>H1 a≠Ξ,ds,λa h=>h,m1.step (λa xs h rd=>⟨rd.some,rd⟩) λa xs h=>h,(hk ds q1.1).mono λd hd v H' F' fv o=>?_⟩;obtain⟨k1,k2,k3⟩:=kX G9 r (e1.trans o.same);have nw:∀a∈fv,H a=Ξ:=λa ha=>e1.free (o.new a ha);refine hd.2 v H' F fv fo ⟨k3,k1,o.rep.IX hd.1 λa ha z=>G9 a z (nw a ha),k2,g_.mpr ⟨o.He,nd,λa h1 b h2 e=>?_⟩,λa ha=>(t_.mp ha).elim (λz=>.inr (nw a z)) .inl⟩;subst e;obtain⟨_,u,hu⟩:=r.own a h2;rw[nw a h1]at hu;cases hu
 cases z:iq cl es τ with
 |error er=>
  rw[z]at q';cases er with
  |stuck=>exact q'.no.elim
  |exc c=>exact borrow (λds h=>by rw[z]at h;cases h) (by rw[z];exact q')
 |ok ds=>
  rw[z]at q';have q1:Gb ex (FW (cl f (Gr ds)) λd=>if i7 d=Δ then .ok (d,τ) else .ok (d,Gy (dI es) τ)) (λp=>∀v H' F' fv f',Ow X.K F H fo F' H' σ v p.1 fv p.2 f'->Q v H'):=q';cases zc:cl f (Gr ds) with
  |error er=>
   rw[zc]at q1;cases er with
   |stuck=>exact q1.no.elim
   |exc c=>exact borrow (λds' h=>by rw[z]at h;cases h;rw[zc];exact q1) (by rw[z];trivial)
  |ok d=>
   rw[zc]at q1;have q2:Gb ex (if i7 d=Δ then .ok (d,τ) else .ok (d,Gy (dI es) τ)) (λp=>∀v H' F' fv f',Ow X.K F H fo F' H' σ v p.1 fv p.2 f'->Q v H'):=q1;by_cases hl:i7 d=Δ
   ·rw[d_ hl]at q2;exact borrow (λds' h=>by rw[z]at h;cases h;rw[zc];exact⟨hl,q2.ok⟩) (by rw[z];trivial)
   ·rw[b_ hl]at q2;obtain⟨F1,gg,b1,b2,b3,b4,b5,b6⟩:=jI (dI es) G9 r nd;refine kP (Kt:=λds'=>ds'=ds) (.refl _) b6 (by rw[z];rfl) λds' vs H1 e1 _ m1 e=>?_;subst e;have hm:FZ X.K (λa=>F1 a∨(True/\H a=Ξ/\H1 a≠Ξ)) H1 vs ds':=m1.step (λa xs h r=>⟨h.elim (λz=>.inl z) λz=>.inr ⟨trivial,z,r.some⟩,r⟩) λa xs h=>h;obtain⟨c1,c2,c3⟩:=grow (λ_=>True) b1 b2 e1;refine⟨_,ds',c1,hm,?_⟩;rw[zc];intro v H' F' fv o;have s1:K1 (λa=>F1 a∨(True/\H a=Ξ/\H1 a≠Ξ)) H1 gg F' H':=⟨o.same,o.HU,λa h=>(o.out a h).elim (λz=>.inl z) λz=>.inr (.inr z)⟩
    have r2:Hf X.K F' H' σ (Gy (dI es) τ) gg:=c2.step (λa xs q rd=>⟨o.HU a q,o.same.rd rd⟩) (λa xs q=>o.same.IQ q) λa ha n hn=>by
     obtain⟨_,xs,e⟩:=c2.own a ha;refine⟨λz=>?_,(o.same _ _ e).trans e.symm⟩;rcases o.out a z with z|z
     ·exact n z
     ·exact hn z
    refine q2.ok v H' F' fv gg ⟨(b4.trans c3 (λx hx=>.inl (b5 x hx))).trans s1 (λx hx=>.inl (b5 x hx)),o.G9,o.rep,r2,?_,λa ha=>?_⟩
    ·refine g_.mpr ⟨o.He,b3,λa h1 b h2 e=>?_⟩;subst e;obtain⟨_,xs,e⟩:=c2.own a h2;rw[o.new a h1]at e;cases e
    ·rcases t_.mp ha with ha|ha
     ·exact .inr (e1.free (o.new a ha))
     ·exact .inl (b5 a ha)
def iO (he:PE X e (RD X.K ex (vars a) (Gs cl a)))(hN:iS a=Δ->PE X e (RN X.K ex (vars a) λτ=>FW (Gs cl a τ) ki)):PE X e (RO X.K ex λτ=>FW (Gs cl a τ) λd=>.ok (iT a d τ)):=by
 intro pins s σ H Q I h;obtain⟨F,τ,fo,G9,r,nd,q⟩:=h
 replace q:Gb ex (FW (Gs cl a τ) λd=>.ok (iT a d τ)) (λp=>∀v H' F' fv f',Ow X.K F H fo F' H' σ v p.1 fv p.2 f'->Q v H'):=q
 have rd:RD X.K ex (vars a) (Gs cl a) σ H Q->Ι (Κ X.prog X.w) X.A (eval e X.env) (EP X pins σ Q) X.xe s:=λh=>he pins s σ H Q I h;cases z:Gs cl a τ with
 |error er=>
  rw[z]at q;cases er with
  |stuck=>exact q.no.elim
  |exc c=>exact rd ⟨λ_=>True,τ,i9 r,by rw[z];exact q⟩
 |ok d=>
  rw[z]at q;have q1:∀v H' F' fv f',Ow X.K F H fo F' H' σ v (iT a d τ).1 fv (iT a d τ).2 f'->Q v H':=q;by_cases hl:i0 d=Δ
  ·unfold iT at q1;rw[d_ hl]at q1;refine rd ⟨λ_=>True,τ,i9 r,?_⟩;rw[z];intro v H' e m;obtain⟨k1,k2,k3⟩:=kX G9 r e;exact q1 v H' F [] fo ⟨k3,k1,m.free hl,k2,by simpa using nd,λa ha=>.inl (by simpa using ha)⟩
  ·have other:iT a d τ=(er d,Gy (vars a) τ)->Ι (Κ X.prog X.w) X.A (eval e X.env) (EP X pins σ Q) X.xe s:=λhk=>by rw[hk]at q1;obtain⟨F1,gg,b1,b2,b3,b4,b5,b6⟩:=jI (vars a) G9 r nd;refine rd ⟨F1,τ,b6,?_⟩;rw[z];intro v H' e m;obtain⟨c1,c2,c3⟩:=grow (λ_=>True) b1 b2 e;exact q1 v H' _ [] gg ⟨b4.trans c3 (λx hx=>.inl (b5 x hx)),c1,m.fix.frozen,c2,by simpa using b3,λa ha=>.inl (b5 a (by simpa using ha))⟩
   by_cases hn:iS a=Δ
   ·induction d using zD with
    |lst o ds=>
     by_cases hi:iy ds=Δ
     ·have hk:iT a (.lst o ds) τ=(.lst Δ ds,τ):=by unfold iT;rw[b_ hl,hn];show(if iy ds=Δ then _ else _)=_;rw[d_ hi]
      rw[hk]at q1;refine hN hn pins s σ H Q I ⟨λ_=>True,τ,i9 r,?_⟩;show Gb ex (FW (Gs cl a τ) ki) _;rw[z];intro p ys H' e hp hy m;obtain⟨k1,k2,k3⟩:=kX G9 r e;refine q1 (.ref p) H' F [p] fo ⟨k3,k1,.HG (λzz=>G9 p zz hp) hy (m.free hi),k2,?_,λa ha=>?_⟩
      ·rw[aad,q_];refine⟨λzz=>?_,nd⟩;obtain⟨_,xs,e⟩:=r.own p zz;rw[hp]at e;cases e
      ·rw[aad]at ha;rcases l_.mp ha with rfl|ha
       ·exact .inr hp
       ·exact .inl ha
     ·have hk:iT a (.lst o ds) τ=(.lst Δ (Gr ds),Gy (vars a) τ):=by unfold iT;rw[b_ hl,hn];show(if iy ds=Δ then _ else _)=_;rw[b_ hi]
      rw[hk]at q1;obtain⟨F1,gg,b1,b2,b3,b4,b5,b6⟩:=jI (vars a) G9 r nd;refine hN hn pins s σ H Q I ⟨F1,τ,b6,?_⟩;show Gb ex (FW (Gs cl a τ) ki) _;rw[z];intro p ys H' e hp hy m;obtain⟨c1,c2,c3⟩:=grow (λa=>a≠p) b1 b2 e;have m2:FZ X.K (λa=>F1 a∨(a≠p/\H a=Ξ/\H' a≠Ξ)) H' ys ds:=m.step (λa xs h r=>⟨h.1.elim (λz=>.inl z) λz=>.inr ⟨h.2,z,r.some⟩,r⟩) λa xs h=>h;refine q1 (.ref p) H' _ [p] gg ⟨b4.trans c3 (λx hx=>.inl (b5 x hx)),c1,.HG (λzz=>?_) hy m2.frozen,c2,?_,λa ha=>?_⟩
      ·rcases zz with zz|zz
       ·exact b1 p zz hp
       ·exact zz.1 rfl
      ·rw[aad,q_];refine⟨λzz=>?_,b3⟩;obtain⟨_,xs,e⟩:=b2.own p zz;rw[hp]at e;cases e
      ·rw[aad]at ha;rcases l_.mp ha with rfl|ha
       ·exact .inr hp
       ·exact .inl (b5 a ha)
    |_=>refine other ?_;unfold iT;rw[b_ hl,hn]
   ·have JU:iS a=Θ:=by simpa using hn
    refine other ?_;unfold iT;rw[b_ hl,JU]
def DQ (ha:PE X a (RD X.K ex va fa))(hb:PE X b (RD X.K ex vb fb)) :
  PE X (.BinOp a .Add b pos) (RN X.K ex (va++vb) λτ=>FW (FW (fa τ) λx=>FW (fb τ) λy=>JL .add x y) ki):=by
 refine iu (uS tf ha hb) λσ H Q Gz=>?_;obtain⟨S,τ,hs,q⟩:=Gz;refine iK (.refl _) hs.left (Gb.FW (Gb.FW q)) λx v H1 e1 _ m1 q1=>?_;refine iK e1 hs.right (Gb.FW q1) λy w H2 e2 HX m2 q2=>?_;have stuck:∀ {P:Prop},JL .add x y=Gq->P:=λz=>by rw[z]at q2;exact q2.no.elim
 induction x using zD with
 |int a=>induction y using zD with
  |int b=>exact q2.ok.no.elim
  |_=>exact stuck rfl
 |str a=>induction y using zD with
  |str b=>exact(Gb.Gn q2).2.ok.no.elim
  |_=>exact stuck rfl
 |lst o a=>induction y using zD with
  |lst o' b=>obtain⟨p,xs,rfl,h1,n1⟩:=m1.LF;obtain⟨p',ys,rfl,h2,n2⟩:=m2.LF;obtain⟨gd,q3⟩:=Gb.Gn q2;have g':=jg gd;have l1:=n1.length;have l2:=n2.length;have I0:Ls X.K H2 p xs:=h1.elim (λz=>.inl (HX.rd z)) .inr;exact⟨p,p',xs,ys,rfl,rfl,I0,h2,by omega,λz hz=>q3.ok.ok z _ _ (e2.trans (.upd hz)) (e2.free hz) gk (qL ((n1.later HX).append n2) hz)⟩
  |_=>exact stuck rfl
 |_=>exact stuck rfl
def DR (ha:PE X a (RD X.K ex va fa))(hb:PE X b (RD X.K ex vb fb)) :
  PE X (.BinOp a .Mult b pos) (RN X.K ex (va++vb) λτ=>FW (FW (fa τ) λx=>FW (fb τ) λy=>JL .mul x y) ki):=by
 refine iu (uS tj ha hb) λσ H Q Gz=>?_;obtain⟨S,τ,hs,q⟩:=Gz;refine iK (.refl _) hs.left (Gb.FW (Gb.FW q)) λx v H1 e1 _ m1 q1=>?_;refine iK e1 hs.right (Gb.FW q1) λy w H2 e2 HX m2 q2=>?_;have stuck:∀ {P:Prop},JL .mul x y=Gq->P:=λz=>by rw[z]at q2;exact q2.no.elim
 induction y using zD with
 |int b=>
  cases m2
  induction x using zD with
  |int a=>exact(Gb.Gn q2).2.ok.no.elim
  |str a=>exact(Gb.Gn q2).2.ok.no.elim
  |lst o a=>obtain⟨p,xs,rfl,h1,n1⟩:=m1.LF;obtain⟨gd,q3⟩:=Gb.Gn q2;have gd:=p_ gd;have I0:Ls X.K H2 p xs:=h1.elim (λz=>.inl (HX.rd z)) .inr;exact⟨p,b,xs,rfl,rfl,I0,gd.1,gd.2.1,by rw[n1.length];exact gd.2.2,λz hz=>q3.ok.ok z _ _ (e2.trans (.upd hz)) (e2.free hz) gk (qL ((n1.later HX).rep b.toNat) hz)⟩
  |_=>exact stuck rfl
 |_=>induction x using zD<;>exact stuck rfl
def Fx {lo:Option Expr}(ha:PE X a (RD X.K ex va fa))(hl:PO X lo (O8 X.K ex vl fl))(hh:PO X hi (O8 X.K ex vh fh)) :
  PE X (.Subscript a (.Slice lo hi Ξ p2) pos) (RN X.K ex (va++vl++vh) λτ=>FW (FW (fa τ) λx=>FW (fl τ) λl=>FW (fh τ) λh=>qv x l h) ki):=by
 refine iu (qh sN ha hl hh) λσ H Q Gz=>?_;obtain⟨S,τ,hs,q⟩:=Gz;refine iK (.refl _) hs.left.left (Gb.FW (Gb.FW q)) λx v H1 e1 _ m1 q1=>?_;refine yt e1 hs.left.right (Gb.FW q1) λl H2 e2 HX q2=>?_;refine yt e2 hs.right (Gb.FW q2) λh H3 e3 NC q3=>?_
 induction x using zD with
 |lst o ds=>obtain⟨p,xs,rfl,h1,n1⟩:=m1.Hs;exact⟨p,xs,rfl,(HX.trans NC).seq h1,λz hz=>q3.ok.ok z _ _ (e3.trans (.upd hz)) (e3.free hz) gk (qL (tq l h (n1.later (HX.trans NC))) hz)⟩
 |str _=>exact(Gb.Gn q3).2.ok.no.elim
 |_=>exact q3.no.elim
def BM (g:Hc Z CX cl xp X ex G){e:Expr}{p p' pos pos':Pos}{va:Ã}{fa:Ev->Res D}(h1:G.Jj 5=Δ)(h2:G.gl.contains 18=Δ)(hn:notStar e=Δ)(ha:PE X e (RD X.K ex va fa)) :
  PE X (.Call (.Name "list" p) [.Call (.Name "reversed" p') [e] [] pos'] [] pos) (RN X.K ex va λτ=>FW (FW (fa τ) vp) ki):=by
 obtain⟨k1,k2,k3,k4⟩:=ja g (show iD[5]? = Γ ("list" : Str) from rfl) (lF h1);obtain⟨j1,j2,j3,j4⟩:=ja g (show iD[18]? = Γ ("reversed" : Str) from rfl) h2;refine iu (sP (g.calm (lG h1)) k1 k2 j1 j2 ha λes=>dM hn es X.env) λσ H Q Gz=>?_;obtain⟨S,τ,hs,q⟩:=Gz;refine iK (.refl _) hs (Gb.FW (Gb.FW q)) λx v H1 e1 _ m1 q1=>?_
 induction x using zD with
 |lst o ds=>obtain⟨a,ys,rfl,qq,m⟩:=m1.Hs;exact⟨a,ys,rfl,qq,λz hz=>q1.ok.ok z _ _ (e1.trans (.upd hz)) (e1.free hz) gk (qL m.rev hz)⟩
 |_=>exact q1.no.elim
def BN (g:Hc Z CX cl xp X ex G){p p' pos pos':Pos}{es:Ç}{args:Ü}(h1:G.Jj 5=Δ)(h2:G.gl.contains 15=Δ)(Hb:iz Z G es args=Δ)(h:PA X args (RA X.K ex (dI es) (iq cl es))) :
  PE X (.Call (.Name "list" p) [.Call (.Name "range" p') args [] pos'] [] pos) (RN X.K ex (dI es) λτ=>FW (FW (iq cl es τ) mW) ki):=by
 obtain⟨k1,k2,k3,k4⟩:=ja g (show iD[5]? = Γ ("list" : Str) from rfl) (lF h1);obtain⟨j1,j2,j3,j4⟩:=ja g (show iD[15]? = Γ ("range" : Str) from rfl) h2
 induction args using zL with
 |nil=>
  induction es using zL with
  |cons _ _=>cases Hb
  |nil=>exact λpins s σ H Q I ⟨S,τ,hs,q⟩=>q.no.elim
 |cons a args=>
  induction es using zL with
  |nil=>cases Hb
  |cons b es=>have G8:(notStar a&&Gw Z G b a&&iz Z G es args)=Δ:=Hb;simp only[a_]at G8;refine iu (sU (g.calm (lG h1)) k1 k2 j1 j2 h (dM G8.1.1 args X.env) (iL Z G (es:=es) pos' X.env G8.2)) λσ H Q Gz=>?_;obtain⟨S,τ,hs,q⟩:=Gz;refine kP (.refl _) hs (Gb.FW (Gb.FW q)) λds vs H1 e1 _ m1 q1=>?_;obtain⟨lo,b,hv,b1,b2,b3,b4,q2⟩:=qI m1 q1;exact⟨lo,b,hv,b1,b2,b3,b4,λl hl=>q2.ok l _ _ (e1.trans (.upd hl)) (e1.free hl) gk (nX lo _)⟩
def oC (hc:X.calm=Δ):jJ X (.type "list") (λxs H Q=>(∃p ys,xs=[.ref p]/\(HJ X.K H p ys∨HK X.K H p ys)/\∀l,H l=Ξ->Q (.ref l) (upd H l (.lst ys)))∨∃(p:Ψ) (kvs:List (Key×V)),xs=[.ref p]/\Rd H p (.dK kvs)/\∀l,H l=Ξ->Q (.ref l) (upd H l (.lst (kvs.map λq=>kV q.1)))):=by
 intro pins s σ H xs us Q I r h;rcases h with h|h
 ·exact jN pins s σ H xs us Q I r h
 ·exact nG hc pins s σ H xs us Q I r h
def BO (g:Hc Z CX cl xp X ex G)  (hg:G.Jj (oY .list)=Δ)(Hb:iz Z G es (a::args)=Δ)(h:PA X (a::args) (RA X.K ex (dI es) (iq cl es))) :
  PE X (.Call (.Name (ku .list) p) (a::args) [] pos) (RN X.K ex (dI es) λτ=>FW (FW (iq cl es τ) λds=>jZ .list ds) ki):=by
 obtain⟨k1,k2,k3,k4⟩:=ja g (vH .list) (lF hg)
 induction es using zL with
 |nil=>cases Hb
 |cons b es=>
  have G8:(notStar a&&Gw Z G b a&&iz Z G es args)=Δ:=Hb;simp only[a_]at G8;refine iu (mi (oC (g.calm (lG hg))) k1 k2 (tu .list) h k3 k4 (dM G8.1.1 args X.env) (iL Z G (es:=es) pos X.env G8.2)) λσ H Q Gz=>?_;obtain⟨S,τ,hs,q⟩:=Gz;refine kP (.refl _) hs (Gb.FW (Gb.FW q)) λds vs H1 e1 _ m1 q1=>?_;have stuck:∀ {P:Prop},jZ .list ds=Gq->P:=λz=>by rw[z]at q1;exact q1.no.elim
  match ds,m1 with
  |[],_=>exact stuck rfl
  |d::_::_,_=>exact stuck (by induction d using zD<;>rfl)
  |[d],m1=>
   obtain⟨x,rfl,hd⟩:=m1.Ml
   induction d using zD with
   |tup ds=>obtain⟨a,ys,rfl,q',m⟩:=hd.HZ;exact .inl ⟨a,ys,rfl,.inr q',λz hz=>q1.ok.ok z _ _ (e1.trans (.upd hz)) (e1.free hz) gk (qL m hz)⟩
   |lst o ds=>obtain⟨a,ys,rfl,q',m⟩:=hd.Hs;exact .inl ⟨a,ys,rfl,.inl q',λz hz=>q1.ok.ok z _ _ (e1.trans (.upd hz)) (e1.free hz) gk (qL m hz)⟩
   |exc c=>obtain⟨a,ys,rfl,q',m⟩:=hd.Mb;exact .inl ⟨a,ys,rfl,.inl q',λz hz=>q1.ok.ok z _ _ (e1.trans (.upd hz)) (e1.free hz) gk (qL m hz)⟩
   |G4 o ks ds=>
    cases hd with
    |G4 h0 h1 h2 h3=>subst h2;exact .inr ⟨_,_,rfl,h1,λl hl=>q1.ok.ok l _ _ (e1.trans (.upd hl)) (e1.free hl) gk (qL (lU _) hl)⟩
   |_=>exact stuck rfl
end
section
variable {P:Β}{w:Α}{K:Frag}{F F':Ψ->Prop}{H H':Hp}{h g:Heap}{f0:È}
def lI {b:Ψ}(e:b∈f0):Iw f0 H b=Ξ:=d_ e
def i6 {b:Ψ}(e:b∉f0):Iw f0 H b=H b:=b_ e
def qM {b:Ψ}{u:HO}(e:Iw f0 H b=Γ u):H b=Γ u/\b∉f0:=by
 by_cases hb:b∈f0
 ·rw[lI hb]at e;cases e
 ·rw[i6 hb]at e;exact⟨e,hb⟩
def sf:ip (Iw f0 H) H:=λ_ _ e=>(qM e).1
def iZ.no (o:iZ H f0){b:Ψ}{u:HO}(e:H b=Γ u)(n:∀v:LD,u≠v.o)(n':∀x,u≠.own x):b∉f0:=λhb=>by
 rcases o b hb with⟨v,h1,_⟩|⟨a,_,h2⟩
 ·rw[e]at h1;cases h1;exact n v rfl
 ·rw[e]at h2;cases h2;exact n' a rfl
def iZ.S1 (o:iZ H f0){b:Ψ}{xs:Ë}(e:H b=Γ (.tup xs)):b∉f0:=o.no e (λv z=>by cases v<;>cases z) λx z=>by cases z
def iZ.S2 (o:iZ H f0){b:Ψ}{ob:Obj}{u:HO}(e:H b=Γ (.Gy ob u)):b∉f0:=o.no e (λv z=>by cases v<;>cases z) λx z=>by cases z
def sh (x:Hv P w H h)(o:iZ H f0):Hv P w (Iw f0 H) h:=λb u q=>by
 obtain⟨q1,q2⟩:=qM q;refine(x b u q1).IK (λ_ _ _ z=>z) (λc z=>?_) λc xs z=>by rw[i6 (o.S1 z)];exact z
 rw[i6 λhc=>?_]
 ·exact z
 ·rcases o c hc with⟨v,h1,_⟩|⟨a,h1,h2⟩
  ·rw[z]at h1;cases v<;>cases h1
  ·rw[z]at h2;cases h2;exact q2 h1
abbrev Lj (f0:È)(h:Heap)(H:Hp):Hp:=λb=>if b∈f0 then H b else iA h (Iw f0 H) b
def pM {b:Ψ}(e:b∈f0):Lj f0 h H b=H b:=d_ e
def lJ {b:Ψ}(e:b∉f0):Lj f0 h H b=iA h (Iw f0 H) b:=b_ e
def yI {b:Ψ}{u:HO}(e:iA h (Iw f0 H) b=Γ u):b∉f0:=λhb=>by rw[jb (lI hb)]at e;cases e
def lZ:ip (iA h (Iw f0 H)) (Lj f0 h H):=λb u e=>by rw[lJ (yI e)];exact e
def kF (o:iZ H f0){b:Ψ}(e:H b=Ξ):Lj f0 h H b=Ξ:=by
 by_cases hb:b∈f0
 ·rw[pM hb];exact e
 ·rw[lJ hb];exact jb (by rw[i6 hb];exact e)
def BP:Iw f0 (Lj f0 h H)=iA h (Iw f0 H):=by
 funext b;by_cases hb:b∈f0
 ·rw[lI hb,jb (lI hb)]
 ·rw[i6 hb,lJ hb]
def BQ (x:Hv P w H h)(o:iZ H f0):Hv P w (Lj f0 h H) h:=λb u q=>by
 by_cases hb:b∈f0
 ·rw[pM hb]at q;rcases o b hb with⟨v,h1,h2⟩|⟨a,h1,h2⟩
  ·rw[q]at h1;cases h1;refine lV (by cases v<;>rfl) (x b _ q) λC dx fs e hd=>?_;have:v=.i C dx fs:=by cases v<;>cases e;rfl
   rw[pM (h2 C dx fs this)];exact hd
  ·rw[q]at h2;cases h2;exact x b _ q
 ·rw[lJ hb]at q;exact(rR (sh x o) b u q).IK (λ_ _ _ z=>z) (λc z=>lZ _ _ z) λc xs z=>lZ _ _ z
def BR (x:Hv P w H h){a:Ψ}{u:LD}(r:Rd H a u.o):Rd (iA h H) a u.o:=by
 rcases r with r|⟨o,r⟩
 ·obtain⟨ob,he⟩:=(x a _ r).at
  refine .inr ⟨ob,?_⟩;unfold iA;rw[r];cases u with
  |l ys=>show(h.get? a).map _=_;rw[he];rfl
  |d ys=>show(h.get? a).map _=_;rw[he];rfl
  |i C dx fs=>show(h.get? a).map _=_;rw[he];rfl
 ·refine .inr ⟨o,?_⟩;unfold iA;rw[r];cases u<;>rfl
def si (o:iZ H f0):Cl H (Iw f0 H):=⟨λb ob e=>by rw[i6 (o.S2 e)];exact e,λb xs e=>by
 unfold Rd;rw[i6 (e.elim (λz=>o.S1 z) λ⟨_,z⟩=>o.S2 z)]
 exact e⟩
def vS (o:iZ H f0):Cl H (Lj f0 h H):=(si o).trans (vG.trans lZ.cl)
def sj {b:Ψ}{u:HO}(n:b∉f0)(r:Rd H b u):Rd (Iw f0 H) b u:=by unfold Rd;rw[i6 n];exact r
def vT (x:Hv P w H h)(o:iZ H f0){b:Ψ}{u:LD}(n:b∉f0)(r:Rd H b u.o):Rd (Lj f0 h H) b u.o/\iA h (Iw f0 H) b≠Ξ:=by have r2:=BR (sh x o) (sj n r);exact⟨lZ.rd r2,r2.some⟩
end
section
variable {Z:Sg}{CX:II}{cl:Ä}{xp:XK->Hp->EX->Prop}{X:Cx}{ex:EX->Prop}{G:Gm}
def NF (K:Frag)(cl:Ä)(f p:Nat)(vs:Ë)(H:Hp)(Q:VK):Prop:=∃a d0 f0 F w1 e1 ws ds,vs=w1++.ref a::ws/\w1.length=p/\e1.length=p/\P7 K a d0 f0 F H (w1++ws) (e1++ds)/\
 ∃d d1,cl f (Gr e1++d0::Gr ds)=.ok (.tup [d,d1])/\∀v H' F' fv f1,Na K a f0 F H F' H' v d fv d1 f1->Q v H'
def tH (g:Hc Z CX cl xp X ex G){A':Η}{k:Nat}{f p0:Nat}{fa:Ψ}{fd:Ν}{ps:Â}{pins:List (Ψ×Obj)}{σ:St}{H:Hp}{s:Ω}{Q:VK}{us uds:List Φ}{vs dvs:Ë}
  (F:Ic X.prog X.w X.K X.mg X.base CX k fa fd ps (Nb X.K cl f p0 ps)) (hr:Hh k A') (hb:Binds X.K fd ps uds) (hlen:∀ds r,cl f ds=.ok r->ds.length=ps.length)
  (hA:∀H',IY X.prog X.w X.K X.mg X.base X.A X.stack s H'->IY X.prog X.w X.K X.mg X.base A' X.stack s H')
  (I:Inv X pins σ H s) (r:Vals vs us) (rd:Vals dvs uds) (q:NF X.K cl f p0 (vs++dvs) H Q):codeAny (Κ X.prog X.w) A' (.call (.ref fa) ⟨us,[]⟩) (λr s'=>∃u,r=.ok (.ret u)/\EP X pins σ Q u s') s:=by
 obtain⟨a,d0,f0,Fc,w1,e1,ws,ds,V6,Rh,S3,A,d,d1,hc,q⟩:=q;have o:=A.m0.Oi;have hl:(vs++dvs).length=ps.length:=by have:=hlen _ _ hc;rw[u_,List.length_cons,iB,iB]at this;have h2:=A.ws.length;rw[u_,u_]at h2;rw[V6,u_,List.length_cons];omega
 have x:=I.G3;have x1:=sh x o;have nf:∀b,Fc b->b∉f0:=λb hb z=>(A.m0.own b z).1 hb;have e0:=I.IZ;have env:IY X.prog X.w X.K X.mg X.base X.A X.stack s (Lj f0 s.heap H):=⟨e0.frames,e0.mod,λb ob e=>⟨(e0.bs b ob e).1,kF o (e0.bs b ob e).2⟩,e0.L3,e0.IA,λb hb=>kF o (e0.Lo b hb),BQ x o,e0.bare⟩
 have V7:∀b (u:LD),Fc b->Rd H b u.o->(Fc b/\iA s.heap (Iw f0 H) b≠Ξ)/\Rd (Lj f0 s.heap H) b u.o:=λb u hb rd=>⟨⟨hb,(vT x o (nf b hb) rd).2⟩,(vT x o (nf b hb) rd).1⟩
 have m0:Gu X.K (λb=>Fc b/\iA s.heap (Iw f0 H) b≠Ξ) (Lj f0 s.heap H) (.ref a) d0 f0:=A.m0.step V7 (λb xs h=>h.cl (vS o)) λb hb n _=>⟨λz=>n z.1,pM hb⟩
 have mw:FZ X.K (λb=>Fc b/\iA s.heap (Iw f0 H) b≠Ξ) (Lj f0 s.heap H) (w1++ws) (e1++ds):=A.ws.step V7 λb xs h=>h.cl (vS o);have MJ:(us++uds).length=ps.length:=by rw[u_,<- r.length,<- rd.length,<- u_];exact hl
 have bd:=hb s us I.Ig MJ;have KC:Nb X.K cl f p0 ps (vs++dvs) (Lj f0 s.heap H) (λv H'=>∃F' fv f1,Na X.K a f0 (λb=>Fc b/\iA s.heap (Iw f0 H) b≠Ξ) (Lj f0 s.heap H) F' H' v d fv d1 f1) (λ_ _ _=>False):=
  ⟨hl,a,d0,f0,_,w1,e1,ws,ds,V6,Rh,S3,⟨λb hb=>by rw[lJ (nf b hb.1)];exact hb.2,A.He,m0,mw⟩,d,d1,hc,λv H' F' fv f1 o=>⟨F',fv,f1,o⟩⟩
 refine codeAny_mono (F.run A' X.stack s _ ⟨us,[]⟩ (us++uds) _ _ _ hr (hA _ env) bd (r.append rd) KC) λr' s' hq=>?_;cases r' with
 |error e=>exact(g.P8 _ _ _ _ _ hq).elim
 |ok fl=>
  cases fl with
  |ret u=>
   obtain⟨v,H',a1,a2,a3,a4,a5,F',fv,f1,oi⟩:=hq;have oo:=oi.out;have V8:=oi.in1;rw[BP]at oo V8
   have p:J6 s.heap (Iw f0 H) H':=⟨λb ob u e=>oo.same _ _ e,λb xs e=>oo.same _ _ e,λb x e=>oo.same _ _ e,λb ob e n z=>by
    have hb:b∉f0:=λhb=>n (lI hb)
    exact a3.free b ob e (by rw[lJ hb];exact z) (by simp)⟩
   have Ql:JP Fc (Iw f0 H):=λb hb=>by rw[i6 (nf b hb)];exact A.G9 b hb
   have o2:=m8 x1 Ql p oo;have o3:=m8 x1 Ql p (v:=.ref a) (d:=d1) (fv:=f1) ⟨oo.G9,oo.same,oi.m1,(g_.mp oi.nd).2.1,V8,oo.HU,oo.out⟩
   have un:Un (Jr X.stack) [] H (kO (Iw f0 H) H') s.heap s'.heap:=⟨λb ob e n=>a3.keep b ob e (kF o n),λb ob e n=>a3.slot b ob e (kF o n),λb ob e n hx=>by
    rw[res_none (sf.free n)]
    exact a3.free b ob e (kF o n) hx,a3.there,λb xs e=>res_some (by rw[i6 (o.S1 e)];exact e),λb ob u e=>res_some (by rw[i6 (o.S2 e)];exact e),λb ps e=>⟨#[],by
    rw[res_some (o:=.MV ps) (by rw[i6 (o.no e (λv z=>by cases v<;>cases z) λx z=>by cases z)];exact e)];simp⟩⟩
   have G3:Hv X.prog X.w (kO (Iw f0 H) H') s'.heap:=rS x1 a4 p (fs:=Jr X.stack) (λb ob n e z f=>a3.keep b ob e (by rw[lJ λhb=>n (lI hb)];exact z) f (by simp)) λb hb=>sf.free (e0.Lo b hb);exact⟨u,rfl,I.after (Q:=Q) ⟨v,_,a1,a2,un,G3,a5,q v _ _ fv f1 ⟨o2,o3.rep,oi.nd,o3.new⟩⟩⟩
  |next=>exact False.elim hq
  |brk=>exact False.elim hq
  |cont=>exact False.elim hq
def Hh.less {k:Nat}{A:Η}(r:Hh (k+1) A)(h:k % 1000≠999):Hh k A:=
 ⟨λz=>r.hd (by omega),by have:=r.dp;omega,by have:=r.un;omega⟩
def Hh.made {k:Nat}{A:Η}(r:Hh (k+1) A)(h:k % 1000≠999)(C:Ψ)(us:List Φ)(kw:List (Str×Φ)):Hh k (A.under (.builtin "type.__call__" ⟨.ref C::us,kw⟩)):=
 ⟨λz=>r.hd (by omega),by have:=r.dp;show A.depth+1+3*(k % 1000)+5 < recursionLimit;omega,by have:=r.un;show A.units+1+16*(k % 1000)+200 < cLine;omega⟩
def run_mk (g:Hc Z CX cl xp X ex G){k:Nat}{f:Nat}{C fa:Ψ}{fd:Ν}{ps:Â}{pins:List (Ψ×Obj)}{σ:St}{H:Hp}{s:Ω}{Q:VK}{us:List Φ}{vs:Ë}(M:Mk X.K C fa)
  (F:Ic X.prog X.w X.K X.mg X.base CX k fa fd ps (Nb X.K cl f 0 ps)) (hr:Hh (k+1) X.A) (hk:k % 1000≠999) (hb:Binds X.K fd ps []) (hlen:∀ds r,cl f ds=.ok r->ds.length=ps.length)
  (I:Inv X pins σ H s) (r:Vals vs us) (q:∀x dx,H x=Ξ->H dx=Ξ->dx≠x->NF X.K cl f 0 (.ref x::vs) (upd (upd H dx (.own x)) x (.ins C dx [])) (λv H2=>v=.Gx/\Q (.ref x) H2)) :
  Ι (Κ X.prog X.w) X.A (call (.ref C) us) (EP X pins σ Q) X.xe s:=by
 have hq:=q (s.heap.objs.size+1) s.heap.objs.size (I.G3.fresh (Nat.le_succ _)) (I.G3.fresh (n_ _)) (s_ (Nat.lt_succ_self _));rw[<- R_ (V.ref (s.heap.objs.size+1)::vs)]at hq;have I2:=Inv.made (C:=C) I;refine wpAny_call (uX (f:=fa) I.Ig M.makes M.init (beq_iff_eq.mp M.fn) (codeAny_mono (tH g (us:=η (s.heap.objs.size+1)::us) (vs:=V.ref (s.heap.objs.size+1)::vs) (uds:=[]) (dvs:=[]) F (hr.made hk C us []) hb hlen (λH' e=>e.make C us []) I2 (.cons rfl r) .nil hq) λr s' ⟨u,e,h⟩=>?_));subst e;obtain⟨v,H',I3,rv,ev,q3⟩:=h;subst ev;exact⟨rv,⟨V.ref (s.heap.objs.size+1),H',I3,rfl,q3⟩⟩
def DT (g:Hc Z CX cl xp X ex G){n f:Nat}{c x:Str}{p pos:Pos}{es:Ç}{args:Ü}(h1:jQ Z G n x=Δ)(hf:(n,c,f)∈Z.Jv)(Hq:G.cm=Δ)(Hb:iz Z G es args=Δ) :
  PE X (.Call (.Name x p) args [] pos) (λσ H Q=>RA X.K ex (dI es) (iq cl es) σ H λvs H1=>∀C x dx,OC X.K c C->H1 x=Ξ->H1 dx=Ξ->dx≠x->NF X.K cl f 0 (.ref x::vs) (upd (upd H1 dx (.own x)) x (.ins C dx [])) (λv H2=>v=.Gx/\Q (.ref x) H2)):=by
 obtain⟨k1,k2,k3,k4⟩:=o4 g h1;obtain⟨k,MO,fd,ps,⟨C,oc,hm,M⟩,hb,F,hr,hk,hlen⟩:=(g.Mn n c f x hf Hq k2).ex;have pa:=kQ es X ex G args g Hb;intro pins s σ H Q I q;refine P_ (kJ I k1 hm ?_ k4)
 induction args using zL with
 |nil=>
  induction es using zL with
  |cons _ _=>cases Hb
  |nil=>obtain⟨S,τ,hs,q⟩:=q;have q1:=q.ok [] H (.refl _) .nil;exact PySem.W.callWith_K0 I.Ig M.kp (run_mk (us:=[]) g M F hr hk hb hlen I .nil λx dx e1 e2 e3=>q1 C x dx oc e1 e2 e3)
 |cons e l=>
  induction es using zL with
  |nil=>cases Hb
  |cons a r=>have G8:(notStar e&&Gw Z G a e&&iz Z G r l)=Δ:=Hb;simp only[a_]at G8;refine PySem.W.callWith_K (h₀:=X.base) I.ok.mod.MD M.kp (G5 (pa pos pins s σ H _ I q) λus s1 ⟨vs,H1,I1,rr,q1⟩=>⟨I1.Ig,?_⟩) (dM G8.1.1 l X.env) (iL Z G (es:=r) pos X.env G8.2);exact run_mk g M F hr hk hb hlen I1 rr λx dx e1 e2 e3=>q1 C x dx oc e1 e2 e3
def Gu.IC {K:Frag}{F:Ψ->Prop}{H:Hp}{v:V}{f:È}(h:Gu K F H v .Gx f):v=.Gx:=by cases h;rfl
def Gh (g:Hc Z CX cl xp X ex G){n f:Nat}{c x:Str}{p pos:Pos}{es:Ç}{args:Ü}(h1:jQ Z G n x=Δ)(hf:(n,c,f)∈Z.Jv)(Hq:G.cm=Δ)(Hb:iz Z G es args=Δ)(mv:Bool) :
  PE X (.Call (.Name x p) args [] pos) (RO X.K ex (Ho cl mv (.Jv n f c es))):=by
 refine iu (DT (p:=p) (pos:=pos) g h1 hf Hq Hb) λσ H Q Gz=>?_;obtain⟨F,τ,fo,G9,r,nd,q⟩:=Gz;have q':Gb ex (FW (iq cl es τ) λds=>FW (Ia (cl f (.obj Δ c [] []::Gr ds))) (rP (Gy (dI es) τ))) (λp=>∀v H' F' fv f',Ow X.K F H fo F' H' σ v p.1 fv p.2 f'->Q v H'):=q;obtain⟨F1,gg,b1,b2,b3,b4,b5,b6⟩:=jI (dI es) G9 r nd;refine kP (.refl _) b6 (Gb.FW q') λds vs H1 e1 _ m1 q1=>?_;intro C x dx oc hx S4 Jf;have hm:FZ X.K (λa=>F1 a∨(True/\H a=Ξ/\H1 a≠Ξ)) H1 vs ds:=m1.step (λa xs h r=>⟨h.elim (λz=>.inl z) λz=>.inr ⟨trivial,z,r.some⟩,r⟩) λa xs h=>h;obtain⟨c1,c2,c3⟩:=grow (λ_=>True) b1 b2 e1;generalize(λa=>F1 a∨(True/\H a=Ξ/\H1 a≠Ξ))=F2 at hm c1 c2 c3;have sm:ip H1 (upd (upd H1 dx (.own x)) x (.ins C dx [])):=(ip.upd S4).trans (.upd (by rw[dN (Ne.symm Jf)];exact hx));have sr:ip H1 (Iw [x,dx] (upd (upd H1 dx (.own x)) x (.ins C dx []))):=λb u e=>by have n1:b≠x:=iG e hx;have n2:b≠dx:=iG e S4;rw[i6 (by simp[n1,n2])];exact sm _ _ e
 have sn:∀b,Iw [x,dx] (upd (upd H1 dx (.own x)) x (.ins C dx [])) b=Ξ->H1 b=Ξ:=λb e=>sr.free e;cases zc:cl f (.obj Δ c [] []::Gr ds) with
 |error er=>rw[zc]at q1;exact q1.no.elim
 |ok rr=>
  rw[zc]at q1;have q1:Gb ex (rP (Gy (dI es) τ) rr) (λp=>∀v H' F' fv f',Ow X.K F H fo F' H' σ v p.1 fv p.2 f'->Q v H'):=q1;unfold rP at q1;split at q1
  ·rename_i c' ks vs'
   refine⟨x,_,[x,dx],F2,[],[],vs,ds,rfl,rfl,rfl,⟨λa h z=>c1 a h (sm.free z),?_,.Ju (λz=>c1 x z hx) (λz=>c1 dx z S4) gk (by rw[dN Jf,gk]) ⟨oc,rfl⟩ .nil,hm.mono (λ_ z=>z) sm⟩,.Gx,_,zc,λv H' F' fv f1 oi=>?_⟩
   ·simp[Ne.symm Jf]
   ·have o:=oi.out;have s1:ip H1 H':=sr.trans o.same;have ho:∀a,F' a->F2 a∨H1 a=Ξ:=λa h=>(o.out a h).elim .inl λz=>.inr (sn a z);refine⟨o.rep.IC,q1.ok _ H' F' f1 gg ⟨(b4.trans c3 (λx hx=>.inl (b5 x hx))).trans ⟨s1,o.HU,λa h=>(ho a h).elim .inl λz=>.inr (.inr z)⟩ (λx hx=>.inl (b5 x hx)),o.G9,oi.m1,?_,?_,λa ha=>?_⟩⟩
    ·exact c2.step (λa xs q rd=>⟨o.HU a q,s1.rd rd⟩) (λa xs q=>s1.IQ q) λa ha n hn=>by obtain⟨_,u,e⟩:=c2.own a ha;exact⟨λz=>(ho a z).elim n hn,(s1 _ _ e).trans e.symm⟩
    ·refine g_.mpr ⟨(g_.mp oi.nd).2.1,b3,λa h1 b h2 e=>?_⟩;subst e;obtain⟨_,u,e⟩:=c2.own a h2;rw[sn a (oi.in1 a h1)]at e;cases e
    ·rcases t_.mp ha with ha|ha
     ·exact .inr (e1.free (sn a (oi.in1 a ha)))
     ·exact .inl (b5 a ha)
  ·exact q1.no.elim
end
section
variable {Z:Sg}{CX:II}{cl:Ä}{xp:XK->Hp->EX->Prop}
def j6 (g:Hc Z CX cl xp X ex G)  (h:i4 G i x=Δ):PE X (.Name x pos) (rk i):=by
 unfold i4 at h;rw[a_]at h;have hx:G.N[i]? = Γ x:=f_ h.1;have hk:=g.kd i x hx;have hv:Pq X.env.scope x:=by
  have h2:=h.2;rw[L_,L_]at h2;rcases h2 with(h2|h2)|h2
  ·exact .inl (hk.trans (f_ h2))
  ·exact .inr (.inl (hk.trans (f_ h2)))
  ·exact .inr (.inr (hk.trans (f_ h2)))
 exact uI (i:=i) (by rw[g.N];exact hx) hv (g.Mm i x hx).1 (g.Mm i x hx).2
def BS (g:Hc Z CX cl xp X ex G)  {T:Tg}  (hs:LN Z G scope G' fr)(hT:i8 G' T tg=Δ)(ha:∀i∈Jw T,fr.length<=i)
  (hi:j5 Z G s iter=Δ/\mY s tg=Δ) (ht:iz Z G' I ifs=Δ) (he:Gw Z G' E elt=Δ) :
  PE X (.ListComp elt [⟨tg,iter,ifs,0⟩] scope pos) (RN X.K ex (vars (.comp G' fr T s I E)) λτ=>FW (Gs cl (.comp G' fr T s I E) τ) ki):=by
 intro pins s' σ H Q Iv h;obtain⟨Ip,S⟩:=mM g Iv.ok hs;have p:=sO (pos:=pos) (elt:=elt) (ifs:=ifs) (tg:=tg) (g:=gT X.K T) (tt:=RT X.K Jd (dI I) (lj cl I)) (te:=RD X.K Jd (vars E) (Gs cl E)) (g.calm hs.cm) S (yF s X ex G iter tg g hi.1 hi.2) (λC s H fp=>ND (jz g hs Ip C s H fp) T tg hT)
  (λC s H fp=>yE I _ Jd G' ifs (jz g hs Ip C s H fp) ht) (λC s H fp=>(snd E _ Jd G' elt (jz g hs Ip C s H fp) he).1) (λx=>jW hi.1 X.env x)
 refine p pins s' σ H Q Iv ?_;obtain⟨S0,τ,SX,q⟩:=h;have q':=Gb.FW (show Gb ex (FW (Gs cl (.comp G' fr T s I E) τ) ki) _ from q);rw[n6]at q';exact kh hs.Qh ha SX q' λA ys ds H' e hA Mo m k=>k.ok A ys H' e hA Mo m
def BU {X:Cx}{ex:EX->Prop}{es:Ü}{pos:Pos}{va:Ã}{fa:Ev->Res (Ê)}(h:PA X es (RA X.K ex va fa)):PE X (.List es pos) (RN X.K ex va λτ=>FW (FW (fa τ) λds=>Gn (jf ds.length) (.ok (.lst Δ ds))) ki):=by refine iu (rF h) λσ H Q Gz=>?_;obtain⟨S,τ,hs,q⟩:=Gz;refine kP (.refl _) hs (Gb.FW (Gb.FW q)) λds vs H1 e1 _ m1 q1=>?_;obtain⟨g,q1⟩:=Gb.Gn q1;exact⟨by rw[m1.length];exact jg g,λp hp=>q1.ok.ok p vs _ (e1.trans (.upd hp)) (e1.free hp) gk (m1.IW.mono (λa z=>⟨z.1,λe=>z.2 (by rw[e];exact hp)⟩) (.upd hp))⟩
def Jl:∀(a:IR) (X:Cx) (ex:EX->Prop) (G:Gm) (e:Expr),Hc Z CX cl xp X ex G->Gw Z G a e=Δ->iS a=Δ->PE X e (RN X.K ex (vars a) λτ=>FW (Gs cl a τ) ki):=by
 intro a X ex G e g h n;cases a with
 |bin op a b=>
  cases op with
  |add=>
   induction e using zE with
   |BinOp l o r pos=>have h':(o == M8 .add&&Gw Z G a l&&Gw Z G b r)=Δ:=h;simp only[a_]at h';have e1:o=M8 .add:=f_ h'.1.1;subst e1;exact DQ (snd a X ex G l g h'.1.2).1 (snd b X ex G r g h'.2).1
   |_=>exists h
  |mul=>
   induction e using zE with
   |BinOp l o r pos=>have h':(o == M8 .mul&&Gw Z G a l&&Gw Z G b r)=Δ:=h;simp only[a_]at h';have e1:o=M8 .mul:=f_ h'.1.1;subst e1;exact DR (snd a X ex G l g h'.1.2).1 (snd b X ex G r g h'.2).1
   |_=>exists h
  |_=>cases n
 |sl a lo hi=>
  induction e using zE with
  |Subscript o s pos=>
   induction s using zE with
   |Slice l u st p=>
    induction st using zO with
    |none=>have h':(Gw Z G a o&&rY Z G lo l&&rY Z G hi u)=Δ:=h;simp only[a_]at h';exact Fx (snd a X ex G o g h'.1.1).1 (yD lo X ex G l g h'.1.2) (yD hi X ex G u g h'.2)
    |some _=>exists h
   |_=>exists h
  |_=>exists h
 |bi f es=>
  cases f with
  |list=>
   induction e using zE with
   |Call fn args Iq pos=>
    induction fn using zE with
    |Name x p=>
     induction Iq using zL with
     |nil=>
      induction args using zL with
      |nil=>exists h
      |cons a args=>have h':(x == ku .list&&G.Jj (oY .list)&&iz Z G es (a::args))=Δ:=h;simp only[a_]at h';have e1:x=ku .list:=f_ h'.1.1;subst e1;exact BO g h'.1.2 h'.2 (kQ es X ex G _ g h'.2)
     |cons _ _=>cases args<;>exists h
    |_=>exists h
   |_=>exists h
  |_=>cases n
 |IT a=>
  have h:O6 e (λx y e=>x == "list"&&G.Jj 5&&y == "reversed"&&G.gl.contains 18&&notStar e&&Gw Z G a e)=Δ:=by induction e using zE<;>exact h
  obtain⟨x,p,y,p',e',pos',pos,rfl,h⟩:=rW h;have h:(x == "list"&&G.Jj 5&&y == "reversed"&&G.gl.contains 18&&notStar e'&&Gw Z G a e')=Δ:=h;simp only[a_]at h;have e1:x = "list":=f_ h.1.1.1.1.1;have e2:y = "reversed":=f_ h.1.1.1.2;subst e1 e2;exact BM g h.1.1.1.1.2 h.1.1.2 h.1.2 (snd a X ex G e' g h.2).1
 |Ja es=>
  have h:IG e (λf as _=>HN (λx=>x == "list"&&G.Jj 5&&G.gl.contains 15) f&&Jk as λr=>IG r λg bs _=>HN (λy=>y == "range") g&&iz Z G es bs)=Δ:=by induction e using zE<;>exact h
  obtain⟨fe,as,p,rfl,q0⟩:=jc h;rw[a_]at q0;obtain⟨x,p',rfl,q1⟩:=iN q0.1;obtain⟨r,rfl,q2⟩:=jG q0.2;obtain⟨ge,bs,pr,rfl,q3⟩:=jc q2;rw[a_]at q3;obtain⟨y,pg,rfl,q4⟩:=iN q3.1;simp only[a_]at q1;have e1:x = "list":=f_ q1.1.1;have e2:y = "range":=f_ q4;subst e1 e2;exact BN g q1.1.2 q1.2 q3.2 (kQ es X ex G bs g q3.2)
 |ID es=>
  have h:Q7 e (λl=>iz Z G es l)=Δ:=by induction e using zE<;>exact h
  obtain⟨l,p,rfl,q1⟩:=vJ h;exact BU (kQ es X ex G l g q1)
 |comp G' fr tg src ifs elt=>
  induction e using zE with
  |ListComp el gens scope pos=>have h:uv gens (λt it fs=>jx Z G scope G' fr&&i8 G' tg t&&(Jw tg).all (λi=>decide (fr.length<=i))&&(j5 Z G src it&&mY src t)&&iz Z G' ifs fs&&Gw Z G' elt el)=Δ:=h;obtain⟨t,it,fs,rfl,h⟩:=pH h;have h':(jx Z G scope G' fr&&i8 G' tg t&&(Jw tg).all (λi=>decide (fr.length<=i))&&(j5 Z G src it&&mY src t)&&iz Z G' ifs fs&&Gw Z G' elt el)=Δ:=h;simp only[a_]at h';exact BS g (pL h'.1.1.1.1.1) h'.1.1.1.1.2 (λi hi=>p_ (I_.mp h'.1.1.1.2 i hi)) h'.1.1.2 h'.1.2 h'.2
  |_=>exists h
 |_=>cases n
def F4 {X:Cx}{ex:EX->Prop}{pos:Pos}(mv:Bool):PE X (.Dict [] [] pos) (RO X.K ex (Ho cl mv .JE)):=by
 refine iu qr λσ H Q ⟨F,τ,fo,G9,r,nd,q⟩=>λp hp=>?_;have q':∀v H' F' fv f',Ow X.K F H fo F' H' σ v (.G4 Δ [] []) fv τ f'->Q v H':=q;have e:ip H (upd H p (.dK [])):=.upd hp;obtain⟨k1,k2,k3⟩:=kX G9 r e;have nF:¬F p:=λz=>G9 p z hp;have Ys:p∉fo:=λz=>by obtain⟨_,u,eu⟩:=r.own p z;rw[hp]at eu;cases eu
 exact q' _ _ F [p] fo ⟨k3,k1,.Kr (kvs:=[]) nF gk rfl .nil,k2,by rw[aad,q_];exact⟨Ys,nd⟩,λa ha=>by
  rcases t_.mp ha with ha|ha
  ·rw[Z_.mp ha];exact .inr hp
  ·exact .inl ha⟩
mutual
theorem MQ:∀(a:IR) (mv:Bool) (X:Cx) (ex:EX->Prop) (G:Gm) (e:Expr),Hc Z CX cl xp X ex G->Gw Z G a e=Δ->PE X e (RO X.K ex (Ho cl mv a))
 |.v i,mv,X,ex,G,e,g,h=>by
  induction e using zE with
  |Name x pos=>exact GA (j6 g h) mv
  |_=>exists h
 |.tup es,mv,X,ex,G,e,g,h=>by
  induction e using zE with
  |Tuple l n pos=>exact Ge (BV es mv X ex G l g h)
  |_=>exists h
 |.lst es,mv,X,ex,G,e,g,h=>by
  induction e using zE with
  |List l pos=>exact Gf (BV es mv X ex G l g h)
  |_=>exists h
 |.ite t a b,mv,X,ex,G,e,g,h=>by
  induction e using zE with
  |IfExp c x y pos=>have h':(Gw Z G t c&&Gw Z G a x&&Gw Z G b y)=Δ:=h;simp only[a_]at h';exact Gg (snd t X ex G c g h'.1.1).2 (MQ a mv X ex G x g h'.1.2) (MQ b mv X ex G y g h'.2)
  |_=>exists h
 |.call f es,mv,X,ex,G,e,g,h=>by
  induction e using zE with
  |Call fn args Iq pos=>
   induction fn using zE with
   |Name x p=>
    induction Iq using zL with
    |nil=>have h':(jQ Z G f x&&Z.LY G f&&iz Z G es args)=Δ:=h;simp only[a_]at h';exact F0 g h'.1.1 h'.1.2 h'.2 mv
    |cons _ _=>exists h
   |_=>exists h
  |_=>exists h
 |.c d,mv,X,ex,G,e,g,h=>iO (snd _ X ex G e g h).1 (Jl _ X ex G e g h)
 |.g n d,mv,X,ex,G,e,g,h=>iO (snd _ X ex G e g h).1 (Jl _ X ex G e g h)
 |.bin op a b,mv,X,ex,G,e,g,h=>iO (snd _ X ex G e g h).1 (Jl _ X ex G e g h)
 |.neg a,mv,X,ex,G,e,g,h=>iO (snd _ X ex G e g h).1 (Jl _ X ex G e g h)
 |.cmp op a b,mv,X,ex,G,e,g,h=>iO (snd _ X ex G e g h).1 (Jl _ X ex G e g h)
 |.chain op Ih a b c,mv,X,ex,G,e,g,h=>iO (snd _ X ex G e g h).1 (Jl _ X ex G e g h)
 |.Ie a b,mv,X,ex,G,e,g,h=>iO (snd _ X ex G e g h).1 (Jl _ X ex G e g h)
 |.Kf a b,mv,X,ex,G,e,g,h=>iO (snd _ X ex G e g h).1 (Jl _ X ex G e g h)
 |.HI a,mv,X,ex,G,e,g,h=>iO (snd _ X ex G e g h).1 (Jl _ X ex G e g h)
 |.idx a i,mv,X,ex,G,e,g,h=>iO (snd _ X ex G e g h).1 (Jl _ X ex G e g h)
 |.sl a lo hi,mv,X,ex,G,e,g,h=>iO (snd _ X ex G e g h).1 (Jl _ X ex G e g h)
 |.bi f es,mv,X,ex,G,e,g,h=>iO (snd _ X ex G e g h).1 (Jl _ X ex G e g h)
 |.J3 a k,mv,X,ex,G,e,g,h=>iO (snd _ X ex G e g h).1 (Jl _ X ex G e g h)
 |.IU a x cs,mv,X,ex,G,e,g,h=>iO (snd _ X ex G e g h).1 (Jl _ X ex G e g h)
 |.HM f m c a es,mv,X,ex,G,e,g,h=>iO (snd _ X ex G e g h).1 (Jl _ X ex G e g h)
 |.KR a,mv,X,ex,G,e,g,h=>iO (snd _ X ex G e g h).1 (Jl _ X ex G e g h)
 |.ID es,mv,X,ex,G,e,g,h=>iO (snd _ X ex G e g h).1 (Jl _ X ex G e g h)
 |.Jv n f c es,mv,X,ex,G,e,g,h=>by
  have h:IG e (λfe as _=>HN (λx=>jQ Z G n x&&Z.Jv.contains (n,c,f)&&(Z.HE.contains c&&G.cm)&&iz Z G es as) fe)=Δ:=by induction e using zE<;>exact h
  obtain⟨fe,as,p,rfl,q0⟩:=jc h;obtain⟨x,p',rfl,q1⟩:=iN q0;simp only[a_]at q1;exact Gh g q1.1.1.1 (List.contains_iff_mem.mp q1.1.1.2) q1.1.2.2 q1.2 mv
 |.J2 a k,mv,X,ex,G,e,g,h=>iO (snd _ X ex G e g h).1 (Jl _ X ex G e g h)
 |.JY a,mv,X,ex,G,e,g,h=>iO (snd _ X ex G e g h).1 (Jl _ X ex G e g h)
 |.JE,mv,X,ex,G,e,g,h=>by
  have h:Q5 e=Δ:=by induction e using zE<;>exact h
  obtain⟨pos,rfl⟩:=vI h;exact F4 mv
 |.IT a,mv,X,ex,G,e,g,h=>iO (snd _ X ex G e g h).1 (Jl _ X ex G e g h)
 |.Ja es,mv,X,ex,G,e,g,h=>iO (snd _ X ex G e g h).1 (Jl _ X ex G e g h)
 |.Ks a,mv,X,ex,G,e,g,h=>iO (snd _ X ex G e g h).1 (Jl _ X ex G e g h)
 |.Me m o es,mv,X,ex,G,e,g,h=>iO (snd _ X ex G e g h).1 (Jl _ X ex G e g h)
 |.comp G' fr tg src ifs elt,mv,X,ex,G,e,g,h=>iO (snd _ X ex G e g h).1 (Jl _ X ex G e g h)
theorem BV:∀(as:Ç) (mv:Bool) (X:Cx) (ex:EX->Prop) (G:Gm) (l:Ü),Hc Z CX cl xp X ex G->iz Z G as l=Δ->PA X l (Pd X.K ex (oB cl mv as))
 |[],mv,X,ex,G,l,g,h=>by
  induction l using zL with
  |nil=>exact BL
  |cons _ _=>exists h
 |a::as,mv,X,ex,G,l,g,h=>by
  induction l using zL with
  |nil=>exists h
  |cons e l=>have h':(notStar e&&Gw Z G a e&&iz Z G as l)=Δ:=h;simp only[a_]at h';exact yG h'.1.1 (MQ a mv X ex G e g h'.1.2) (BV as mv X ex G l g h'.2)
end
end
structure Bs (io:PN) where
 F:Ψ->Prop
 H:Hp
 L:Ψ->LD->Prop
 T:Ψ->Ë ⊕ EX->Prop
 N:Nat->Option Ψ:=λ_=>Ξ
structure Hi (K:Frag){io:PN}(B:Bs io)(F:Ψ->Prop)(H:Hp)(σ:St)(τ:Ev)(f:È):Prop where
 G9:JP F H
 HA:Hf K F H σ τ f
 He:f.Nodup
 same:ip B.H H
 own:∀a∈f,B.H a=Ξ
 HU:∀a,B.F a->F a
 out:∀a,F a->B.F a∨B.H a=Ξ
 pin:∀a xs,B.L a xs->F a/\Rd H a xs.o
 KJ:∀a xs,B.T a xs->HB K H a xs
 nm:∀j a,pinned io j=Δ->B.N j=Γ a->σ[j]? = Γ (Γ (.ref a))
def Fk (K:Frag){io:PN}(B:Bs io)(Dn:Ends):Fl->Prop
 |.nx τ=>∀σ H F f,Hi K B F H σ τ f->Dn.nx σ H
 |.bk τ=>∀σ H F f,Hi K B F H σ τ f->Dn.bk σ H
 |.ct τ=>∀σ H F f,Hi K B F H σ τ f->Dn.ct σ H
 |.rt d=>∀v H F fv,Out K B.F B.H F H v d fv->Dn.rt v H
 |.ri _ _ _=>False
 |.ro d d1=>∀v H F fv f1 a,(∀j a',io.1=Γ j->B.N j=Γ a'->a'=a)->Out K B.F B.H F H v d fv->Gu K F H (.ref a) d1 f1->(fv++f1).Nodup->(∀b∈f1,B.H b=Ξ)->Dn.rt v H
def RS (K:Frag)(io:PN)(ex:EX->Prop)(g:Ev->Res Fl):TS:=λDn σ H=>∃(B:Bs io),∃F τ f,Hi K B F H σ τ f/\Gb ex (g τ) (Fk K B Dn)
section
variable {K:Frag}{io:PN}{B:Bs io}{F F':Ψ->Prop}{H H':Hp}{σ:St}{τ Gv:Ev}{f f':È}{ex:EX->Prop}
def Hi.Je (m:Hi K B F H σ τ f)(s:K1 F H f F' H')(G9:JP F' H')(r:Hf K F' H' σ Gv f')(nd:f'.Nodup)(hm:∀a∈f',a∈f∨H a=Ξ):Hi K B F' H' σ Gv f' where
 G9:=G9
 HA:=r
 He:=nd
 same:=m.same.trans s.same
 own:=λa ha=>(hm a ha).elim (m.own a) λz=>m.same.free z
 HU:=λa h=>s.HU a (m.HU a h)
 out:=λa h=>by
  rcases s.out a h with h|h|h
  ·exact m.out a h
  ·exact .inr (m.own a h)
  ·exact .inr (m.same.free h)
 pin:=λa xs h=>⟨s.HU a (m.pin a xs h).1,s.same.rd (m.pin a xs h).2⟩
 KJ:=λa xs h=>s.same.IQ (m.KJ a xs h)
 nm:=m.nm
def Hi.ow (m:Hi K B F H σ τ f)(o:Ow K F H f F' H' σ v d fv Gv f'):Hi K B F' H' σ Gv f'/\∀a∈fv,B.H a=Ξ:=
 ⟨m.Je o.Je o.G9 o.HA (g_.mp o.He).2.1 λa ha=>o.mem a (k_ _ ha),λa ha=>(o.mem a (j_ _ ha)).elim (m.own a) λz=>m.same.free z⟩
def Hi.grow (m:Hi K B F H σ τ f)(e:ip H H'):Hi K B F H' σ τ f:=by obtain⟨k1,k2,k3⟩:=kX m.G9 m.HA e;exact m.Je k3 k1 k2 m.He λa ha=>.inl ha
def Hi.ro (m:Hi K B F H σ τ f)(h:Gb ex (g τ) Kt)(k:∀p v H' F' fv f',Ow K F H f F' H' σ v p.1 fv p.2 f'->Kt p->Q v H'):RO K ex g σ H Q:=
 ⟨F,τ,f,m.G9,m.HA,m.He,h.mono λp hp v H' F' fv f' o=>k p v H' F' fv f' o hp⟩
def Hi.rt (m:Hi K B F H σ τ f)(h:Gb ex (g τ) Kt)(k:∀b H',Hi K B F H' σ τ f->ip H H'->Kt b->Q b H'):RT K ex is g σ H Q:=
 lW (.refl _) (i9 m.HA) h λb H2 e2 _ hb=>k b H2 (m.grow e2) e2 hb
def Hi.rd (m:Hi K B F H σ τ f)(h:Gb ex (g τ) Kt)(k:∀d v H',Hi K B F H' σ τ f->ip H H'->Gk K (nw (λ_=>True) H) H' v d->Kt d->Q v H'):RD K ex is g σ H Q:=
 iK (.refl _) (i9 m.HA) h λb v H2 e2 _ mv hb=>k b v H2 (m.grow e2) e2 mv hb
mutual
theorem vU:∀(t:Tg) {σ:St}{τ:Ev}{f:È}{v:V}{d:D}{fv:È}{Kt:Ev->Prop}{Q:St->Hp->Prop},Hf K F H σ τ f->Gu K F H v d fv->(fv++f).Nodup->Gb ex (jo t d τ) Kt->
  (∀Gv G1 f',Hf K F H G1 Gv f'->f'.Nodup->(∀a∈f',a∈fv++f)->(∀j,j∉Jw t->G1[j]? = σ[j]?)->Kt Gv->Q G1 H)->gT K t v σ H Q
 |.nm i,σ,τ,f,v,d,fv,Kt,Q,r,m,nd,h,k=>by obtain⟨g,h',r2,p2⟩:=r.put i m;have LP:(g++h').Nodup:=p2.nodup_iff.mpr nd;exact k (τ.set i (Γ d)) (σ.set i (Γ v)) g r2 (g_.mp LP).1 (λa ha=>p2.mem_iff.mp (j_ _ ha)) (λj hj=>aak (λz=>hj (by rw[<- z];exact Z_.mpr rfl))) h.ok
 |.tp ts,σ,τ,f,v,d,fv,Kt,Q,r,m,nd,h,k=>by
  cases m with
  |tup h1 h2=>obtain⟨gd,h⟩:=Gb.Gn h;have g':=p_ gd;exact⟨_,_,rfl,.inl h1,by rw[h2.length];exact g',l6 ts r h2 nd h k⟩
  |JD h0 h1 h2=>obtain⟨gd,h⟩:=Gb.Gn h;have g':=p_ gd;exact⟨_,_,rfl,.inr (.inl (.inl h1)),by rw[h2.length];exact g',l6 ts r h2 nd h k⟩
  |lstK h1 h2=>obtain⟨gd,h⟩:=Gb.Gn h;have g':=p_ gd;exact⟨_,_,rfl,.inr h1.sq,by rw[h2.length];exact g',l6 ts r h2 nd h k⟩
  |HG h0 h1 h2=>obtain⟨gd,h⟩:=Gb.Gn h;have g':=p_ gd;rw[e_,q_]at nd;exact⟨_,_,rfl,.inr (.inl (.inl (.inl h1))),by rw[h2.length];exact g',l6 ts r h2 nd.2 h λGv G1 f' a1 a2 a3 a5 a4=>k Gv G1 f' a1 a2 (λx hx=>by rw[e_];exact H_ _ (a3 x hx)) a5 a4⟩
  |_=>exact h.no.elim
theorem l6:∀(ts:List Tg) {σ:St}{τ:Ev}{f:È}{vs:Ë}{ds:Ê}{fv:È}{Kt:Ev->Prop}{Q:St->Hp->Prop},Hf K F H σ τ f->Gj K F H vs ds fv->(fv++f).Nodup->Gb ex (kU ts ds τ) Kt->
  (∀Gv G1 f',Hf K F H G1 Gv f'->f'.Nodup->(∀a∈f',a∈fv++f)->(∀j,j∉qG ts->G1[j]? = σ[j]?)->Kt Gv->Q G1 H)->Qg K ts vs σ H Q
 |[],σ,τ,f,vs,ds,fv,Kt,Q,r,m,nd,h,k=>by
  cases m with
  |nil=>exact⟨rfl,k τ σ f r (by simpa using nd) (λa ha=>by simpa using ha) (λ_ _=>rfl) h.ok⟩
  |cons _ _=>exact h.no.elim
 |t::ts,σ,τ,f,vs,ds,fv,Kt,Q,r,m,nd,h,k=>by
  cases m with
  |nil=>exact h.no.elim
  |cons m1 m2=>
   rename_i v d f1 vs ds f2
   have LZ:(f2++(f1++f)).Nodup:=by refine(List.Perm.nodup_iff ?_).mp nd;rw[<- y_];exact List.Perm.append_right f W_
   refine⟨_,_,rfl,vU t r m1 (g_.mp LZ).2.1 (Gb.FW h) λGv G1 f' r' S5 J7 Ra h'=>?_⟩;refine l6 ts r' m2 (g_.mpr ⟨(g_.mp LZ).1,S5,λa h1 b h2 e=>(g_.mp LZ).2.2 a h1 b (J7 b h2) e⟩) h' λOA OB Qm Yt S6 L' S7 SV=>k OA OB Qm Yt S6 (λa ha=>?_) (λj hj=>(S7 j λz=>hj (k_ _ z)).trans (Ra j λz=>hj (j_ _ z))) SV;rcases t_.mp (L' a ha) with z|z
   ·exact j_ _ (k_ _ z)
   ·rcases t_.mp (J7 a z) with z|z
    ·exact j_ _ (j_ _ z)
    ·exact k_ _ z
end
theorem Hi.gT (m:Hi K B F H σ τ f)(mv:Gu K F H v d fv)(nd:(fv++f).Nodup)(hb:∀a∈fv,B.H a=Ξ)(LQ:∀j∈Jw t,pinned io j=Θ)(h:Gb ex (jo t d τ) Kt)
  (k:∀Gv G1 f',Hi K B F H G1 Gv f'->Kt Gv->Q G1 H):L2.gT K t v σ H Q:=
 vU t m.HA mv nd h λGv G1 f' r' S5 hm hj h'=>k Gv G1 f' ⟨m.G9,r',S5,m.same,λa ha=>(t_.mp (hm a ha)).elim (hb a) (m.own a),m.HU,m.out,m.pin,m.KJ,λj a e1 e2=>(hj j λz=>by rw[LQ j z]at e1;cases e1).trans (m.nm j a e1 e2)⟩ h'
def Hi.write (m:Hi K B F H σ τ f)(hs:dJ τ i=Γ (.lst Δ ds))(IJ:σ[i]? = Γ (Γ (.ref l)))(hl:H l=Γ (.lst xs))(mw:Gu K F H w d fv)(nd:(fv++f).Nodup)(hb:∀a∈fv,B.H a=Ξ)
  (hy:∀fi,Gj K F H xs ds fi->∃fl h,Gj K F H ys ds' fl/\(fl++h).Perm (fv++fi)):∃f',Hi K B F (upd H l (.lst ys)) σ (τ.set i (Γ (.lst Δ ds'))) f':=by
 obtain⟨v,fs,g,h1,h2,h3,h4⟩:=m.HA.at hs;rw[IJ]at h1;cases h1;cases h2 with
 | @HG a VM OD fi hF hH hm=>
  rw[hl]at hH;cases hH;obtain⟨fl,h,J7,hp⟩:=hy fi hm;have Lk:((l::fi)++g).Nodup:=h4.nodup_iff.mp m.He;have L1:(fv++((l::fi)++g)).Nodup:=(T_ fv h4).nodup_iff.mp nd;have lg:l∉g:=by rw[e_,q_]at Lk;exact λz=>Lk.1 (k_ _ z)
  have Yu:l∉fi:=by rw[e_,q_]at Lk;exact λz=>Lk.1 (j_ _ z)
  have Yv:l∉fv:=λz=>(g_.mp L1).2.2 l z l (by simp) rfl;have OE:∀a∈fl,a∈fv++fi:=λa ha=>hp.mem_iff.mp (j_ _ ha);have V9:l∉fl:=λz=>(t_.mp (OE l z)).elim Yv Yu;have sl:∀a (u:LD),F a->Rd H a u.o->F a/\Rd (upd H l (.lst ys)) a u.o:=λa xs h r=>by refine⟨h,?_⟩;have:a≠l:=λz=>hF (by rw[<- z];exact h);unfold Rd;rw[dN this];exact r
  have st:∀a xs,HB K H a xs->HB K (upd H l (.lst ys)) a xs:=λa xs h=>h.upd hl;have r1:Hf K F (upd H l (.lst ys)) σ (τ.set i Ξ) g:=h3.step sl st λa ha n _=>⟨n,dN λz=>lg (by rw[<- z];exact ha)⟩
  have m1:Gu K F (upd H l (.lst ys)) (.ref l) (.lst Δ ds') (l::fl):=.HG hF gk (J7.step sl st λa ha n _=>⟨n,dN λz=>V9 (by rw[<- z];exact ha)⟩);obtain⟨g',h',r2,p2⟩:=r1.put i m1;have OF:σ.set i (Γ (.ref l))=σ:=by
   apply List.ext_getElem?;intro j;rw[List.getElem?_set];by_cases hj:i=j
   ·subst hj;have HY:i < σ.length:=(v_.mp IJ).1;rw[d_ rfl,d_ HY,IJ]
   ·rw[b_ hj]
  rw[OF,List.set_set]at r2;have Yw:((l::fl)++g).Nodup:=by
   rw[e_,q_];refine⟨λz=>(t_.mp z).elim V9 lg,g_.mpr ⟨?_,(g_.mp Lk).2.1,λa h1 b h2 e=>?_⟩⟩
   ·have:(fl++h).Nodup:=hp.nodup_iff.mpr (g_.mpr ⟨(g_.mp L1).1,(q_.mp (g_.mp Lk).1).2,λa h1 b h2 e=>(g_.mp L1).2.2 a h1 b (j_ _ (H_ _ h2)) e⟩);exact(g_.mp this).1
   ·subst e;rcases t_.mp (OE a h1) with z|z
    ·exact(g_.mp L1).2.2 a z a (k_ _ h2) rfl
    ·exact(g_.mp Lk).2.2 a (H_ _ z) a h2 rfl
  have LP:(g'++h').Nodup:=p2.nodup_iff.mpr Yw;have lB:B.H l=Ξ:=m.own l (h4.mem_iff.mpr (by simp));refine⟨g',λa h=>?_,r2,(g_.mp LP).1,λb o Mp=>?_,λa ha=>?_,m.HU,m.out,λa xs h=>⟨(m.pin a xs h).1,(sl a xs (m.pin a xs h).1 (m.pin a xs h).2).2⟩,λa xs h=>st a xs (m.KJ a xs h),m.nm⟩
  ·have:a≠l:=λz=>hF (by rw[<- z];exact h);rw[dN this];exact m.G9 a h
  ·have:b≠l:=λz=>by rw[z,lB]at Mp;cases Mp
   rw[dN this];exact m.same _ _ Mp
  ·have:a∈(l::fl)++g:=p2.mem_iff.mp (j_ _ ha);rcases t_.mp this with z|z
   ·rcases l_.mp z with rfl|z
    ·exact lB
    ·rcases t_.mp (OE a z) with z|z
     ·exact hb a z
     ·exact m.own a (h4.mem_iff.mpr (j_ _ (H_ _ z)))
   ·exact m.own a (h4.mem_iff.mpr (k_ _ z))
theorem Gj.set (mw:Gu K F H w d fv):∀ {xs:Ë}{ds:Ê}{fi:È} (j:Nat),Gj K F H xs ds fi->∃fl h,Gj K F H (xs.set j w) (ds.set j d) fl/\(fl++h).Perm (fv++fi)
 |_,_,_,_,.nil=>⟨[],_,.nil,.refl _⟩
 |_,_,_,0,.cons (f:=f0) (g:=g0) m1 m2=>⟨_,f0,.cons mw m2,by rw[y_];exact T_ _ W_⟩
 |_,_,_,j+1,.cons (f:=f0) (g:=g0) m1 m2=>by obtain⟨fl,h,h1,h2⟩:=Gj.set mw j m2;refine⟨f0++fl,h,.cons m1 h1,?_⟩;rw[y_];refine(T_ f0 h2).trans ?_;rw[<- y_,<- y_];exact List.Perm.append_right g0 W_
def Gj.snoc (mw:Gu K F H w d fv)  (m:Gj K F H xs ds fi):∃fl h,Gj K F H (xs++[w]) (ds++[d]) fl/\(fl++h).Perm (fv++fi):=
 ⟨fi++(fv++[]),[],m.append (.cons mw .nil),by rw[R_,R_];exact W_⟩
end
abbrev notTuple:Expr->Bool
 |.Tuple ..=>Θ
 |_=>Δ
abbrev pN:Expr->Bool
 |.ListComp ..=>Θ
 |.SetComp ..=>Θ
 |.DictComp ..=>Θ
 |_=>Δ
abbrev isName:Expr->Bool
 |.Name ..=>Δ
 |_=>Θ
abbrev isTup:Expr->Bool
 |.Tuple ..=>Δ
 |_=>Θ
abbrev LR:Stmt->(Ü->Expr->Bool)->Bool
 |.Assign ts v _,k=>k ts v
 |_,_=>Θ
def mO (h:LR s k=Δ):∃ts v p,s=.Assign ts v p/\k ts v=Δ:=by
 induction s using zS with
 |Assign ts v p=>exact⟨ts,v,p,rfl,h⟩
 |_=>exact dH h
abbrev Qn:Expr->(Expr->Expr->Bool)->Bool
 |.Subscript a b _,k=>k a b
 |_,_=>Θ
def vV (h:Qn e k=Δ):∃a b p,e=.Subscript a b p/\k a b=Δ:=by
 induction e using zE with
 |Subscript a b p=>exact⟨a,b,p,rfl,h⟩
 |_=>exact dH h
abbrev S8:Stmt->(Expr->Ö->Ö->Bool)->Bool
 |.If c a b _,k=>k c a b
 |_,_=>Θ
def BW (h:S8 s k=Δ):∃c a b p,s=.If c a b p/\k c a b=Δ:=by
 induction s using zS with
 |If c a b p=>exact⟨c,a,b,p,rfl,h⟩
 |_=>exact dH h
abbrev Qo:Stmt->(Expr->Bool)->Bool
 |.Expr e _,k=>k e
 |_,_=>Θ
def vW (h:Qo s k=Δ):∃e p,s=.Expr e p/\k e=Δ:=by
 induction s using zS with
 |Expr e p=>exact⟨e,p,rfl,h⟩
 |_=>exact dH h
abbrev Qp:Stmt->(Expr->Bool)->Bool
 |.Return o _,k=>(match o with
  |some v=>k v
  |none=>Θ)
 |_,_=>Θ
def vX (h:Qp s k=Δ):∃v p,s=.Return (Γ v) p/\k v=Δ:=by
 induction s using zS with
 |Return o p=>
  induction o using zO with
  |none=>exact dH h
  |some v=>exact⟨v,p,rfl,h⟩
 |_=>exact dH h
abbrev S9:Stmt->(Expr->Expr->Ö->Bool)->Bool
 |.For t it b e _,k=>e.isEmpty&&k t it b
 |_,_=>Θ
def BX {s:Stmt}{k:Expr->Expr->Ö->Bool}(h:S9 s k=Δ):∃t it b p,s=.For t it b [] p/\k t it b=Δ:=by
 induction s using zS with
 |For t it b e p=>
  induction e using zL with
  |nil=>exact⟨t,it,b,p,rfl,h⟩
  |cons _ _=>exact dH h
 |_=>exact dH h
abbrev Ri:Expr->(Expr->Bool)->Bool
 |.Call (.Name y _) [o] [⟨Γ kw,.Constant (.int n) _ _,_⟩] _,k=>y == "enumerate"&&kw == "start"&&n == 1&&k o
 |_,_=>Θ
def BY {e:Expr}{k:Expr->Bool}(h:Ri e k=Δ):∃yp o j cp kp pos,e=.Call (.Name "enumerate" yp) [o] [⟨Γ "start",.Constant (.int 1) j cp,kp⟩] pos/\k o=Δ:=by
 unfold Ri at h;split at h
 ·simp only[a_]at h;obtain⟨⟨⟨e1,e2⟩,e3⟩,h⟩:=h;have e1:=f_ e1;have e2:=f_ e2;have e3:=f_ e3;subst e1 e2 e3;exact⟨_,_,_,_,_,_,rfl,h⟩
 ·cases h
abbrev sk (Z:Sg)(G:Gm)(i f:Nat)(m c:Str)(es:Ç)(v:Expr):Bool:=IG v λfe as cp=>JO fe λo n ap=>n == m&&ap.endLine == cp.line&&decide (as.length < 29)&&Z.Im.contains (f,c,m)&&(Z.HE.contains c&&G.cm)&&iz Z G es as&&HN (λz=>i4 G i z) o
def pO {Z:Sg}{G:Gm}{i f:Nat}{m c:Str}{es:Ç}{v:Expr}(h:sk Z G i f m c es v=Δ):∃z zp ap as cp,v=.Call (.Attribute (.Name z zp) m ap) as [] cp/\i4 G i z=Δ/\(ap.endLine == cp.line)=Δ/\as.length < 29/\(f,c,m)∈Z.Im/\c∈Z.HE/\G.cm=Δ/\iz Z G es as=Δ:=by obtain⟨fe,as,cp,rfl,h2⟩:=jc h;obtain⟨o,n,ap,rfl,h3⟩:=kb h2;simp only[a_]at h3;obtain⟨⟨⟨⟨⟨⟨e1,hl⟩,hlen⟩,hf⟩,hc,Hq⟩,Hb⟩,ho⟩:=h3;obtain⟨z,zp,rfl,h6⟩:=iN ho;have e1:=f_ e1;subst e1;exact⟨z,zp,ap,as,cp,rfl,h6,hl,p_ hlen,List.contains_iff_mem.mp hf,List.contains_iff_mem.mp hc,Hq,Hb⟩
abbrev Rj:Expr->(Expr->Bool)->Bool
 |.UnaryOp .Not e _,k=>k e
 |_,_=>Θ
def BZ {e:Expr}{k:Expr->Bool}(h:Rj e k=Δ):∃v p,e=.UnaryOp .Not v p/\k v=Δ:=by
 unfold Rj at h;split at h
 ·exact⟨_,_,rfl,h⟩
 ·cases h
abbrev pP (Z:Sg)(G:Gm)(i:Nat)(es2:Ç):Ç->Ü->Bool
 |[],e::r=>HN (λs=>i4 G i s) e&&iz Z G es2 r
 |e::es,a::r=>notStar a&&Gw Z G e a&&pP Z G i es2 es r
 |_,[]=>Θ
mutual
noncomputable def vY (Z:Sg)(G:Gm):IS->Stmt->Bool
 |.asg tg e,.Assign [t] v _=>i8 G tg t&&Gw Z G e v&&(isName t||(isTup t&&notTuple v))
 |.JK i k e,.Assign [.Subscript (.Name x _) s _] v _=>i4 G i x&&iU s&&Gw Z G k s&&Gw Z G e v&&!(vars e).contains i
 |.app i e,.Expr (.Call (.Attribute (.Name x _) name apos) [v] [] G7) _=>i4 G i x&&name == "append"&&apos.endLine == G7.line&&notStar v&&Gw Z G e v
 |.exp e,.Expr v _=>pN v&&Gw Z G e v
 |.ret e,.Return (Γ v) _=>Gw Z G e v
 |.oset i x cs _ e,s=>LR s λts v=>Jk ts λt=>Gw Z G e v&&JO t λo' y _=>HN (λz=>i4 G i z&&y == x&&Z.JF.contains x&&cs.all (λc=>Z.HE.contains c)) o'
 |.KS i x cs e,s=>Qo s λv=>IG v λfe as cp=>JO fe λo n ap=>n == "append"&&ap.endLine == cp.line&&(Jk as λw=>notStar w&&Gw Z G e w)&&JO o λo' y _=>HN (λz=>i4 G i z&&y == x&&Z.JF.contains x&&cs.all (λc=>Z.HE.contains c)) o'
 |.LG j i x cs k,s=>LR s λts v=>Jk ts λt=>isName t&&i8 G (.nm j) t&&Qn v λo ke=>iU ke&&Gw Z G k ke&&JO o λo' y _=>HN (λz=>i4 G i z&&y == x&&Z.JF.contains x&&cs.all (λc=>Z.HE.contains c)) o'
 |.Nw jj i f m c es,s=>(match jj with
  |none=>Qo s λv=>sk Z G i f m c es v
  |some j=>LR s λts v=>Jk ts λt=>isName t&&i8 G (.nm j) t&&sk Z G i f m c es v)
 |.LH j i f m c,s=>LR s λts v=>Jk ts λt=>isName t&&i8 G (.nm j) t&&IG v λfe as cp=>as.isEmpty&&JO fe λo n ap=>n == m&&ap.endLine == cp.line&&Z.JN.contains (f,c,m)&&(Z.HE.contains c&&G.cm)&&HN (λz=>i4 G i z) o
 |.Im j f es i es2,s=>LR s λts v=>Jk ts λt=>isName t&&i8 G (.nm j) t&&IG v λfe as _=>HN (λx=>jQ Z G f x&&Z.JM.contains (f,es.length)&&G.cm&&pP Z G i es2 es as) fe
 |.Oo i f m c es g e b,s=>S8 s λt x y=>y.isEmpty&&(Rj t λv=>IG v λfe as _=>HN (λx=>jQ Z G g x&&Z.LY G g) fe&&Oy as λv1 e2=>sk Z G i f m c es v1&&notStar e2&&Gw Z G e e2)&&jt Z G b x
 |.Nx k s,st=>vY Z {G with ln:=k::G.ln} s st
 |.IE i k e,s=>LR s λts v=>Jk ts λt=>Qn t λo ke=>iU ke&&Gw Z G k ke&&Gw Z G e v&&HN (λx=>i4 G i x) o
 |.LI i x cs f m c es,s=>Qp s λv=>IG v λfe as cp=>JO fe λo n ap=>G.io == Γ i&&n == m&&ap.endLine == cp.line&&decide (as.length < 29)&&Z.Im.contains (f,c,m)&&(Z.HE.contains c&&G.cm)&&iz Z G es as&&JO o λo' y _=>HN (λz=>i4 G i z&&y == x&&Z.JF.contains x&&cs.all (λc=>Z.HE.contains c)) o'
 |.LJ tg i x cs body,s=>S9 s λt it b=>(G.cm&&G.rs)&&i8 G tg t&&rV t&&G.gl.contains 20&&(Ri it λo=>JO o λo' y _=>HN (λz=>i4 G i z&&y == x&&Z.JF.contains x&&cs.all (λc=>Z.HE.contains c)) o')&&jt Z G body b
 |.Ku i e,s=>Qp s λv=>G.io == Γ i&&Gw Z G e v
 |.Hl t a b,.If c x y _=>Gw Z G t c&&jt Z G a x&&jt Z G b y
 |.HR tg s body,.For t it b [] _=>((G.cm&&G.rs)&&i8 G tg t)&&(j5 Z G s it&&mY s t)&&jt Z G body b
 |.Iu t body,.While c b [] _=>(G.rs&&Gw Z G t c)&&jt Z G body b
 |.never,_=>Δ
 |_,_=>Θ
noncomputable def jt (Z:Sg)(G:Gm):Æ->Ö->Bool
 |[],[]=>Δ
 |a::as,s::ss=>vY Z G a s&&jt Z G as ss
 |_,_=>Θ
end
def zZ {X:Cx}(ht:i8 G tg t=Δ)  (h:RS X.K G.pn ex (λτ=>FW (ga τ) λp=>FW (jo tg p.1 p.2) λGv=>.ok (.nx Gv)) Dn σ H):AW (RO X.K ex ga) (gT X.K tg) Dn σ H:=by obtain⟨B,F,τ,f,m,q⟩:=h;refine m.ro (Gb.FW q) λp v H' F' fv f' o hp=>?_;obtain⟨m',hb⟩:=m.ow o;exact m'.gT o.rep o.He hb (kx tg t ht) (Gb.FW hp) λGv G1 Qm K2 h'=>h'.ok _ _ _ _ K2
def F5 (g:Hc Z CX cl xp X ex G)  (ht:i8 G tg t=Δ)(hv:Gw Z G e v=Δ)(hc:(isName t||(isTup t&&notTuple v))=Δ):PS X (.Assign [t] v pos) (RS X.K G.pn ex (Hy cl (.asg tg e))):=by
 have pe:=MQ e Θ X ex G v g hv;have pg:=ND g tg t ht
 induction t using zE with
 |Name x px=>
  cases tg with
  |tp _=>cases ht
  |nm i=>
   have KD:(G.N[i]? == Γ x&&(G.kd[i]? == Γ .local||(G.df&&G.kd[i]? == Γ .cell)))=Δ:=(aab.mp ht).1;rw[a_,L_,a_]at KD;have hx:G.N[i]? = Γ x:=f_ KD.1;have hk:=g.kd i x hx;have J8:Loc X.env.scope x:=KD.2.elim (λz=>.inl (hk.trans (f_ z))) λz=>.inr (hk.trans (f_ z.2));have Lp:X.fn x=Δ∨X.env.scope.names.lookup x=Γ .local:=KD.2.elim (λz=>.inr (hk.trans (f_ z))) λz=>.inl (g.df z.1 x);have plain:swapsWith v (Γ (.Name x px)) pos.line X.env=pure Θ->PS X (.Assign [.Name x px] v pos) (RS X.K G.pn ex (Hy cl (.asg (.nm i) e))):=λhs=>
    iR (nk (i:=i) (by rw[g.N];exact g.He) (by rw[g.N];exact hx) J8 pe hs Lp) λDn σ H h=>zZ ht h
   induction v using zE with
   |ListComp el gens scope Nf=>
    have P0:swapsWith (.ListComp el gens scope Nf) (Γ (.Name x px)) pos.line X.env=pure (X.env.blockKind == .function&&X.env.kindOf x == Γ .local&&px.line == Nf.line&&!(scope.names.any λ(n,k)=>n == x&&(k == .local||k == .cell))):=rfl;cases hb:(X.env.blockKind == .function&&X.env.kindOf x == Γ .local&&px.line == Nf.line&&!(scope.names.any λ(n,k)=>n == x&&(k == .local||k == .cell))) with
    |false=>exact plain (by rw[P0,hb])
    |true=>
     rw[hb]at P0;have Yx:X.env.kindOf x=Γ .local:=by simp only[a_]at hb;exact f_ hb.1.1.2
     cases e with
     |comp G' fr T src ifs elt=>
      have hv:uv gens (λt it fs=>jx Z G scope G' fr&&i8 G' T t&&(Jw T).all (λi=>decide (fr.length<=i))&&(j5 Z G src it&&mY src t)&&iz Z G' ifs fs&&Gw Z G' elt el)=Δ:=hv;obtain⟨t,it,fs,rfl,hv⟩:=pH hv;have h':(jx Z G scope G' fr&&i8 G' T t&&(Jw T).all (λi=>decide (fr.length<=i))&&(j5 Z G src it&&mY src t)&&iz Z G' ifs fs&&Gw Z G' elt el)=Δ:=hv;simp only[a_]at h';have hs:=pL h'.1.1.1.1.1;have hT:=h'.1.1.1.1.2;have ha:∀i∈Jw T,fr.length<=i:=λi hi=>p_ (I_.mp h'.1.1.1.2 i hi);intro pins s' σ H Dn Iv h;obtain⟨Ip,S⟩:=mM g Iv.ok hs;have p:=xV (py:=px) (spos:=pos) (i:=i) (pos:=Nf) (elt:=el) (ifs:=fs) (tg:=t) (g:=gT X.K T) (tt:=RT X.K Jd (dI ifs) (lj cl ifs)) (te:=RD X.K Jd (vars elt) (Gs cl elt)) (g.calm hs.cm) (by rw[g.N];exact g.He) (by rw[g.N];exact hx) Yx S (yF src X ex G it t g h'.1.1.2.1 h'.1.1.2.2) (λC s H fp=>ND (jz g hs Ip C s H fp) T t hT)
       (λC s H fp=>yE ifs _ Jd G' fs (jz g hs Ip C s H fp) h'.1.2) (λC s H fp=>(snd elt _ Jd G' el (jz g hs Ip C s H fp) h'.2).1) P0 (λx=>jW h'.1.1.2.1 X.env x)
      refine p pins s' σ H Dn Iv ?_;obtain⟨B,F,τ,f,m,q⟩:=h
      -- as one Ta is kept
      have q0:Gb ex (FW (FW (Gs cl (.comp G' fr T src ifs elt) τ) λd=>.ok (iT (.comp G' fr T src ifs elt) d τ)) λp=>FW (jo (.nm i) p.1 p.2) λGv=>.ok (.nx Gv)) (Fk X.K B Dn):=q;have q1:=Gb.FW (Gb.FW q0);have fin:∀(d:D) (v:V) (H':Hp) (F':Ψ->Prop) (fv f':È),Ow X.K F H f F' H' σ v (iT (.comp G' fr T src ifs elt) d τ).1 fv (iT (.comp G' fr T src ifs elt) d τ).2 f'->(∀(p:D×Ev),p=iT (.comp G' fr T src ifs elt) d τ->Gb ex (FW (jo (.nm i) p.1 p.2) λGv=>.ok (.nx Gv)) (Fk X.K B Dn))->Dn.nx (σ.set i (Γ v)) H':=by intro d v H' F' fv f' o hp;obtain⟨m',Hn⟩:=m.ow o;have:=m'.gT (t:=.nm i) (Q:=Dn.nx) o.rep o.He Hn (kx _ _ ht) (Gb.FW (hp _ rfl)) λGv G1 Qm K2 h'=>h'.ok _ _ _ _ K2;exact this
      cases z:Gs cl (.comp G' fr T src ifs elt) τ with
      |error er=>
       rw[z]at q1;cases er with
       |stuck=>exact q1.no.elim
       |exc c=>refine kh (S:=λ_=>True) (τ:=τ) (ex:=ex) (Kt:=λ_=>False) hs.Qh ha (i9 m.HA) ?_ λA ys ds H' e hA Mo mm k=>k.elim;show Gb ex (Gs cl (.comp G' fr T src ifs elt) τ) _;rw[z];exact q1
      |ok d=>
       rw[z]at q1;have q2:=q1.ok.ok;obtain⟨o',ds,rfl⟩:∃o ds,d=.lst o ds:=by have zz:=z;rw[n6]at zz;obtain⟨its,_,zz⟩:=jF zz;obtain⟨_,zz⟩:=nR zz;obtain⟨ds,_,zz⟩:=jF zz;cases zz;exact⟨Δ,ds,rfl⟩
       by_cases hi:iy ds=Δ
       ·have Kp:iT (.comp G' fr T src ifs elt) (.lst o' ds) τ=(.lst Δ ds,τ):=by unfold iT;rw[b_ (show ¬i0 (.lst o' ds)=Δ by intro z;cases z)];show(if iy ds=Δ then _ else _)=_;rw[d_ hi]
        refine kh (S:=λ_=>True) (τ:=τ) (ex:=ex) (Kt:=λd'=>∃Qq,d'=.lst Qq ds) hs.Qh ha (i9 m.HA) ?_ λA ys ds' H' e hA Mo mm k=>?_
        ·show Gb ex (Gs cl (.comp G' fr T src ifs elt) τ) _;rw[z];exact⟨o',rfl⟩
        ·obtain⟨Qq,k⟩:=k;cases k;obtain⟨k1,k2,k3⟩:=kX m.G9 m.HA e;refine fin (.lst o' ds) (.ref A) H' F [A] f ?_ (λp hp=>by subst hp;exact q2);rw[Kp];refine⟨k3,k1,.HG (λzz=>m.G9 A zz hA) Mo (mm.free hi),k2,?_,λa ha=>?_⟩
         ·rw[aad,q_];refine⟨λzz=>?_,m.He⟩;obtain⟨_,xs,e⟩:=m.HA.own A zz;rw[hA]at e;cases e
         ·rw[aad]at ha;rcases l_.mp ha with rfl|ha
          ·exact .inr hA
          ·exact .inl ha
       ·have Kp:iT (.comp G' fr T src ifs elt) (.lst o' ds) τ=(.lst Δ (Gr ds),Gy (vars (.comp G' fr T src ifs elt)) τ):=by unfold iT;rw[b_ (show ¬i0 (.lst o' ds)=Δ by intro z;cases z)];show(if iy ds=Δ then _ else _)=_;rw[b_ hi]
        obtain⟨F1,gg,b1,b2,b3,b4,b5,b6⟩:=jI (vars (.comp G' fr T src ifs elt)) m.G9 m.HA m.He;refine kh (S:=F1) (τ:=τ) (ex:=ex) (Kt:=λd'=>∃Qq,d'=.lst Qq ds) hs.Qh ha b6 ?_ λA ys ds' H' e hA Mo mm k=>?_
        ·show Gb ex (Gs cl (.comp G' fr T src ifs elt) τ) _;rw[z];exact⟨o',rfl⟩
        ·obtain⟨Qq,k⟩:=k;cases k;obtain⟨c1,c2,c3⟩:=grow (λa=>a≠A) b1 b2 e;have m2:FZ X.K (λa=>F1 a∨(a≠A/\H a=Ξ/\H' a≠Ξ)) H' ys ds:=mm.step (λa xs h r=>⟨h.1.elim (λz=>.inl z) λz=>.inr ⟨h.2,z,r.some⟩,r⟩) λa xs h=>h;refine fin (.lst o' ds) (.ref A) H' (λa=>F1 a∨(a≠A/\H a=Ξ/\H' a≠Ξ)) [A] gg ?_ (λp hp=>by subst hp;exact q2);rw[Kp];refine⟨b4.trans c3 (λx hx=>.inl (b5 x hx)),c1,.HG (λzz=>?_) Mo m2.frozen,c2,?_,λa ha=>?_⟩
         ·rcases zz with zz|zz
          ·exact b1 A zz hA
          ·exact zz.1 rfl
         ·rw[aad,q_];refine⟨λzz=>?_,b3⟩;obtain⟨_,xs,e⟩:=b2.own A zz;rw[hA]at e;cases e
         ·rw[aad]at ha;rcases l_.mp ha with rfl|ha
          ·exact .inr hA
          ·exact .inl (b5 a ha)
     |_=>first|exact dH hv|cases hv
   |SetComp _ _ _ _=>cases e<;>first|exact dH hv|cases hv
   |DictComp _ _ _ _ _=>cases e<;>first|exact dH hv|cases hv
   |_=>exact plain rfl
 |Tuple ts k px=>
  have L5:notTuple v=Δ:=hc;refine iR (uQ pe pg ?_ ?_ rfl) λDn σ H h=>zZ ht h
  ·induction v using zE<;>rfl
  ·induction v using zE<;>first|rfl|cases L5
 |_=>cases hc
def HB.Tc {K:Frag}{H:Hp}{a l:Ψ}{xs:Ë ⊕ EX}{ys zs:List (Key×V)}(hl:H l=Γ (.dK ys))(h:HB K H a xs):HB K (L2.upd H l (.dK zs)) a xs:=by exact h.cl (pA (λo' z=>by rw[hl]at z;cases z) λxs z=>by rcases z with z|⟨o',z⟩<;>(rw[hl]at z;cases z))
def Gj.V' {K:Frag}  (h:Gj K F H vs ds f)(n:jU ds=Δ):f=[]:=by refine Gj.rec (motive_1:=λ_ d f _=>lq d=Δ->f=[]) (motive_2:=λ_ d f _=>jU d=Δ->f=[]) (λ_=>rfl) (λ_ _=>rfl) (λ_ _=>rfl) (λ_ _=>rfl) (λ_ _=>rfl) (λ_ _ i z=>i z) (λ_ _ _ _ _=>rfl) (λ_ _ _ _=>rfl) (λ_ _ _ _ z=>dH z) (λ_ _ _ _ _ _=>rfl) (λ_ _ _ _ _ z=>dH z) (λ_ _ _ _ _ _=>rfl) (λ_ _ _ _ _ _ _ z=>dH z) (λ_=>rfl) (λ{v d f vs ds g} _ _ i j z=>?_) h n;have z':=aab.mp (show(lq d&&jU ds)=Δ from z);rw[i z'.1,j z'.2];rfl
def vZ {K:Frag}{F:Ψ->Prop}{H:Hp}{σ:St}{τ:Ev}{f:È}{i:Nat}{ks:List Key}{ds:Ê}(r:Hf K F H σ τ f)(hs:dJ τ i=Γ (.G4 Δ ks ds))(n:jU ds=Δ) :
  ∃l kvs g,σ[i]? = Γ (Γ (.ref l))/\¬F l/\H l=Γ (.dK kvs)/\kvs.map (·.1)=ks/\Gj K F H (kvs.map (·.2)) ds []/\Hf K F H σ (τ.set i Ξ) g/\f.Perm (l::g):=by
 obtain⟨v,fs,g,h1,h2,h3,h4⟩:=r.at hs;cases h2 with
 | @Kr a kvs _ _ fi hF hH hk hm=>have e:=hm.V' n;subst e;exact⟨a,kvs,g,h1,hF,hH,hk,hm,h3,h4⟩
def Hi.OG {K:Frag}{io:PN}{B:Bs io}{F:Ψ->Prop}{H:Hp}{σ:St}{τ:Ev}{f g:È}{i:Nat}{l:Ψ}{kvs K3:List (Key×V)}{Kv:List Key}{ds':Ê}(m:Hi K B F H σ τ f)(IJ:σ[i]? = Γ (Γ (.ref l)))(hF:¬F l)(hl:H l=Γ (.dK kvs))(hr:Hf K F H σ (τ.set i Ξ) g)(h4:f.Perm (l::g))
  (hk:K3.map (·.1)=Kv) (hm:Gj K F H (K3.map (·.2)) ds' []):∃f',Hi K B F (upd H l (.dK K3)) σ (τ.set i (Γ (.G4 Δ Kv ds'))) f':=by
 have JB:(l::g).Nodup:=h4.nodup_iff.mp m.He;have lg:l∉g:=(q_.mp JB).1;have sl:∀a (u:LD),F a->Rd H a u.o->F a/\Rd (upd H l (.dK K3)) a u.o:=λa xs h r=>by refine⟨h,?_⟩;have:a≠l:=λz=>hF (by rw[<- z];exact h);unfold Rd;rw[dN this];exact r
 have st:∀a xs,HB K H a xs->HB K (upd H l (.dK K3)) a xs:=λa xs h=>h.Tc hl;have r1:Hf K F (upd H l (.dK K3)) σ (τ.set i Ξ) g:=hr.step sl st λa ha n _=>⟨n,dN λz=>lg (by rw[<- z];exact ha)⟩
 have m1:Gu K F (upd H l (.dK K3)) (.ref l) (.G4 Δ Kv ds') [l]:=.Kr hF gk hk (hm.step sl st i3);obtain⟨g',h',r2,p2⟩:=r1.put i m1;have OF:σ.set i (Γ (.ref l))=σ:=by
  apply List.ext_getElem?;intro j;rw[List.getElem?_set];by_cases hj:i=j
  ·subst hj;rw[d_ rfl,d_ (v_.mp IJ).1,IJ]
  ·rw[b_ hj]
 rw[OF,List.set_set]at r2;have LP:(g'++h').Nodup:=p2.nodup_iff.mpr JB;have lB:B.H l=Ξ:=m.own l (h4.mem_iff.mpr (by simp));refine⟨g',λa h=>?_,r2,(g_.mp LP).1,λb o Mp=>?_,λa ha=>m.own a (h4.mem_iff.mpr (p2.mem_iff.mp (j_ _ ha))),m.HU,m.out,λa xs h=>⟨(m.pin a xs h).1,(sl a xs (m.pin a xs h).1 (m.pin a xs h).2).2⟩,λa xs h=>st a xs (m.KJ a xs h),m.nm⟩
 ·have:a≠l:=λz=>hF (by rw[<- z];exact h);rw[dN this];exact m.G9 a h
 ·have:b≠l:=λz=>by rw[z,lB]at Mp;cases Mp
  rw[dN this];exact m.same _ _ Mp
theorem jX (is:Ã):∀(τ:Ev) (k i:Nat),is.contains (k+i)=Θ->dJ (mC is k τ) i=dJ τ i
 |[],k,i,h=>rfl
 |o::τ,k,0,h=>by unfold mC;rw[jH,jH,b_ (by rw[show k=k+0 from rfl,h];simp)]
 |o::τ,k,i+1,h=>by unfold mC;rw[jq,jq];exact jX is τ (k+1) i (by rw[<- h];congr 1;omega)
def IH {Z:Sg}{CX:II}{cl:Ä}{xp:XK->Hp->EX->Prop}{X:Cx}{ex:EX->Prop}{G:Gm}(g:Hc Z CX cl xp X ex G){i:Nat}{k e:IR}{x:Str}{p sp pos:Pos}{s v:Expr}(h1:i4 G i x=Δ)(h2:iU s=Δ)(h3:Gw Z G k s=Δ)(h4:Gw Z G e v=Δ)(h5:(vars e).contains i=Θ) :
  PS X (.Assign [.Subscript (.Name x p) s sp] v pos) (RS X.K G.pn ex (Hy cl (.JK i k e))):=by
 have hu:=g.un;refine iR (xY (by omega) (j6 g h1) (snd k X ex G s g h3).1 (snd e X ex G v g h4).1 (by induction v using zE<;>rfl)) λDn σ H h=>?_;obtain⟨B,F,τ,f,m,q⟩:=h;have q0:Gb ex (FW (Gs cl e τ) λd=>match dJ τ i with|some (.G4 Δ ks ds)=>FW (Gs cl k (Gy (vars e) τ)) λy=>(match nK y with|some q=>Gn (jU ds&&ky ks.length) (.ok (.nx ((Gy (vars e) τ).set i (Γ (.G4 Δ (nO ks q) (Gr (mV ks ds q d)))))))|none=>Gq)|_=>Gq) (Fk X.K B Dn):=q;obtain⟨F1,gg,b1,b2,b3,b4,b5,b6⟩:=jI (vars e) m.G9 m.HA m.He;refine iK (.refl _) b6 (Gb.FW q0) λd w H1 e1 _ mw q1=>?_;obtain⟨c1,c2,c3⟩:=grow (λ_=>True) b1 b2 e1;have m1:Hi X.K B (λb=>F1 b∨(True/\H b=Ξ/\H1 b≠Ξ)) H1 σ (Gy (vars e) τ) gg:=m.Je (b4.trans c3 (λx hx=>.inl (b5 x hx))) c1 c2 b3 λb hb=>.inl (b5 b hb);have mw:=mw.fix;cases z0:dJ τ i with
 |none=>rw[z0]at q1;exact q1.no.elim
 |some d0=>
  rw[z0]at q1
  induction d0 using zD with
  |G4 ow ks ds=>
   induction ow using zB with
   |false=>exact q1.no.elim
   |true=>
    have zf:dJ (Gy (vars e) τ) i=Γ (.G4 Δ ks ds):=(jX (vars e) τ 0 i (by rw[Nat.zero_add];exact h5)).trans z0;obtain⟨v0,Td,_⟩:∃v0,σ[i]? = Γ (Γ v0)/\True:=by obtain⟨v0,_,_,h,_⟩:=m1.HA.at zf;exact⟨v0,h,trivial⟩
    refine⟨v0,Td,m1.rd (Gb.FW q1) λy w2 H2 m2 e2 Yy q2=>?_⟩;cases hk:nK y with
    |none=>simp only[hk]at q2;exact q2.no.elim
    |some qk=>
     simp only[hk]at q2;obtain⟨gd,q2⟩:=Gb.Gn q2;rw[a_]at gd;obtain⟨l,kvs,g0,IJ,hF,hl,Yz,hm,hr,hp⟩:=vZ m2.HA zf gd.1;rw[Td]at IJ;cases IJ;subst Yz;have YA:=(Li qk (mw.mono (λ_ h=>h) e2) (hm.read (λ_ h=>h) λ_ h=>absurd h (by simp))).frozen;obtain⟨f',m3⟩:=m2.OG Td hF hl hr hp (zY kvs qk w) YA;have hlen:kvs.length < Ε:=by
      have:=pF gd.2
      rwa [h_]at this
     exact⟨l,_,rfl,.inl ⟨kvs,qk,hl,pJ Yy hk,hlen,rfl⟩,q2.ok _ _ _ _ m3⟩
  |_=>exact q1.no.elim
def v5 {K:Frag}  (r:Hf K F H σ τ f)(hs:dJ τ i=Γ (.lst Δ ds)):∃l xs,σ[i]? = Γ (Γ (.ref l))/\H l=Γ (.lst xs)/\xs.length=ds.length:=by
 obtain⟨v,fs,g,h1,h2,h3,h4⟩:=r.at hs;cases h2 with
 |HG hF hH hm=>exact⟨_,_,h1,hH,hm.length⟩
theorem Hi.put {X:Cx}{io:PN}{B:Bs io}{F:Ψ->Prop}{H:Hp}{σ:St}{τ:Ev}{f fv:È}{v:V}{d:D}(i:Nat)(m:Hi X.K B F H σ τ f)(mv:Gu X.K F H v d fv)(nd:(fv++f).Nodup)(hb:∀a∈fv,B.H a=Ξ)(LQ:pinned io i=Θ):∃f',Hi X.K B F H (σ.set i (Γ v)) (τ.set i (Γ d)) f':=by obtain⟨g',h',r0,p0⟩:=m.HA.put i mv;have JB:(g'++h').Nodup:=p0.nodup_iff.mpr nd;exact⟨g',m.G9,r0,(g_.mp JB).1,m.same,λb Hn=>(t_.mp (p0.subset (j_ _ Hn))).elim (hb b) (m.own b),m.HU,m.out,m.pin,m.KJ,λj a e1 e2=>(aak (λz=>by rw[<- z,LQ]at e1;cases e1)).trans (m.nm j a e1 e2)⟩
def so {G:Gm}{j:Nat}(h:G.io=Γ j):pinned G.pn j=Δ:=by show(G.io == Γ j||_)=Δ;rw[h];simp
def set_same {σ:St}  (h:σ[i]? = Γ v):σ.set i v=σ:=by
 apply List.ext_getElem?;intro j;rw[List.getElem?_set];by_cases hj:i=j
 ·subst hj;rw[d_ rfl,d_ (v_.mp h).1,h]
 ·rw[b_ hj]
section
variable {K:Frag}{io:PN}{B:Bs io}{F:Ψ->Prop}{H:Hp}{σ:St}{τ:Ev}{f:È}
def jA {i:Nat}{c:Str}{ks:Â}{ds:Ê}(r:Hf K F H σ τ f)(hs:dJ τ i=Γ (.obj Δ c ks ds)) :
  ∃a C dx fs fi g,σ[i]? = Γ (Γ (.ref a))/\¬F a/\¬F dx/\H a=Γ (.ins C dx fs)/\H dx=Γ (.own a)/\OC K c C/\fs.map (·.1)=ks/\Gj K F H (fs.map (·.2)) ds fi/\Hf K F H σ (τ.set i Ξ) g/\f.Perm ((a::dx::fi)++g):=by
 obtain⟨v,fs,g,h1,h2,h3,h4⟩:=r.at hs;cases h2 with
 |Ju a1 a2 a3 a4 a5 a6=>exact⟨_,_,_,_,_,g,h1,a1,a2,a3,a4,a5.1,a5.2,a6,h3,h4⟩
def Hi.chg {i:Nat}{a l:Ψ}{u:LD}{o':HO}{d':D}{fi fi' fv g:È}(m:Hi K B F H σ τ f)(IJ:σ[i]? = Γ (Γ (.ref a)))(hr:Hf K F H σ (τ.set i Ξ) g)(h4:f.Perm (fi++g))(hl:l∈fi)(hF:¬F l)(hH:H l=Γ u.o)
  (m1:Gu K F (upd H l o') (.ref a) d' fi') (hp:∀b∈fi',b∈fv++fi) (LZ:fi'.Nodup) (nd:(fv++f).Nodup) (hb:∀b∈fv,B.H b=Ξ):∃f',Hi K B F (upd H l o') σ (τ.set i (Γ d')) f':=by
 have L1:(fv++(fi++g)).Nodup:=(T_ fv h4).nodup_iff.mp nd;have Lk:(fi++g).Nodup:=(g_.mp L1).2.1;have lg:l∉g:=λz=>(g_.mp Lk).2.2 l hl l z rfl;have lB:B.H l=Ξ:=m.own l (h4.mem_iff.mpr (j_ _ hl));have nl:∀b,F b->b≠l:=λb h z=>hF (z ▸ h);have sl:∀b (v:LD),F b->Rd H b v.o->F b/\Rd (upd H l o') b v.o:=λb v h r=>by refine⟨h,?_⟩;unfold Rd;rw[dN (nl b h)];exact r
 have cl:Cl H (upd H l o'):=pA (λo z=>by rw[hH]at z;cases u<;>cases z) λxs z=>by rcases z with z|⟨o,z⟩<;>(rw[hH]at z;cases u<;>cases z)
 have r1:Hf K F (upd H l o') σ (τ.set i Ξ) g:=hr.step sl (λb xs h=>h.cl cl) λb hb n _=>⟨n,dN λz=>lg (z ▸ hb)⟩
 obtain⟨g',h',r2,p2⟩:=r1.put i m1;rw[set_same IJ,List.set_set]at r2
 have LP:(fi'++g).Nodup:=g_.mpr ⟨LZ,(g_.mp Lk).2.1,λb h1 c h2 e=>by
  subst e;rcases t_.mp (hp b h1) with z|z
  ·exact(g_.mp L1).2.2 b z b (k_ _ h2) rfl
  ·exact(g_.mp Lk).2.2 b z b h2 rfl⟩
 have YB:(g'++h').Nodup:=p2.nodup_iff.mpr LP;refine⟨g',λb h=>by rw[dN (nl b h)];exact m.G9 b h,r2,(g_.mp YB).1,λb o Mp=>?_,λb Hn=>?_,m.HU,m.out,λb xs h=>sl b xs (m.pin b xs h).1 (m.pin b xs h).2,λb xs h=>(m.KJ b xs h).cl cl,m.nm⟩
 ·have:b≠l:=λz=>by rw[z,lB]at Mp;cases Mp
  rw[dN this];exact m.same _ _ Mp
 ·rcases t_.mp (p2.mem_iff.mp (j_ _ Hn)) with z|z
  ·rcases t_.mp (hp b z) with y|y
   ·exact hb b y
   ·exact m.own b (h4.mem_iff.mpr (j_ _ y))
  ·exact m.own b (h4.mem_iff.mpr (k_ _ z))
theorem o7 (x:Str)(w:V):∀fs:List (Str×V),(jM x w fs).map (·.1)=jw x (fs.map (·.1))
 |[]=>rfl
 | (k,v)::fs=>by
  show(if k=x then(k,w)::fs else(k,v)::jM x w fs).map (·.1)=if k=x then k::fs.map (·.1) else k::jw x (fs.map (·.1))
  by_cases h:k=x
  ·rw[d_ h,d_ h];rfl
  ·rw[b_ h,b_ h,c_,o7 x w fs]
theorem qN (x:Str){w:V}{d:D}{fv:È}(mw:Gu K F H w d fv):∀(fs:List (Str×V)) {ds:Ê}{fi:È},Gj K F H (fs.map (·.2)) ds fi->(fv++fi).Nodup->∃fi',Gj K F H ((jM x w fs).map (·.2)) (iM x d (fs.map (·.1)) ds) fi'/\fi'.Nodup/\∀b∈fi',b∈fv++fi
 |[],ds,fi,m,nd=>by cases m;exact⟨fv++[],.cons mw .nil,nd,λb h=>h⟩
 | (k,v)::fs,ds,fi,m,nd=>by
  cases m with
  |cons m1 m2=>
   rename_i d1 f1 KY g1
   have LS:(f1++g1).Nodup:=(g_.mp nd).2.1;show ∃fi',Gj K F H ((if k=x then(k,w)::fs else(k,v)::jM x w fs).map (·.2)) (if k=x then d::KY else d1::iM x d (fs.map (·.1)) KY) fi'/\_;by_cases h:k=x
   ·rw[d_ h,d_ h];refine⟨fv++g1,.cons mw m2,?_,λb hb=>?_⟩
    ·refine g_.mpr ⟨(g_.mp nd).1,(g_.mp LS).2.1,λb h1 c h2 e=>(g_.mp nd).2.2 b h1 c (k_ _ h2) e⟩
    ·rcases t_.mp hb with z|z
     ·exact j_ _ z
     ·exact k_ _ (k_ _ z)
   ·rw[b_ h,b_ h];have LP:(fv++g1).Nodup:=g_.mpr ⟨(g_.mp nd).1,(g_.mp LS).2.1,λb h1 c h2 e=>(g_.mp nd).2.2 b h1 c (k_ _ h2) e⟩;obtain⟨fi',a1,a2,a3⟩:=qN x mw fs m2 LP;refine⟨f1++fi',.cons m1 a1,g_.mpr ⟨(g_.mp LS).1,a2,λb h1 c h2 e=>?_⟩,λb hb=>?_⟩
    ·subst e;rcases t_.mp (a3 b h2) with z|z
     ·exact(g_.mp nd).2.2 b z b (j_ _ h1) rfl
     ·exact(g_.mp LS).2.2 b h1 b z rfl
    ·rcases t_.mp hb with z|z
     ·exact k_ _ (j_ _ z)
     ·rcases t_.mp (a3 b z) with y|y
      ·exact j_ _ y
      ·exact k_ _ (k_ _ y)
def Gu.Gy {v:V}{d:D}{fv:È}(m:Gu K F H v d fv):Gu K (λb=>F b∨b∈fv) H v (er d) []:=(m.read (S:=λb=>F b∨b∈fv) (λ_ z=>.inl z) λ_ z=>.inr z).frozen
def Hi.Qr {fv:È}(m:Hi K B F H σ τ f)(nd:(fv++f).Nodup)(hb:∀b∈fv,B.H b=Ξ)(ht:∀b∈fv,H b≠Ξ):Hi K B (λb=>F b∨b∈fv) H σ τ f where
 G9:=λb h=>h.elim (m.G9 b) (ht b)
 HA:=m.HA.step (λb u h r=>⟨.inl h,r⟩) (λb xs h=>h) λb Hn n _=>⟨λz=>z.elim n λy=>(g_.mp nd).2.2 b y b Hn rfl,rfl⟩
 He:=m.He
 same:=m.same
 own:=m.own
 HU:=λb h=>.inl (m.HU b h)
 out:=λb h=>h.elim (m.out b) λz=>.inr (hb b z)
 pin:=λb xs h=>⟨.inl (m.pin b xs h).1,(m.pin b xs h).2⟩
 KJ:=m.KJ
 nm:=m.nm
def Hi.Te {i:Nat}{a C dx:Ψ}{fs:List (Str×V)}{c x:Str}{d:D}{ds:Ê}{w:V}{fi fv g:È}(m:Hi K B F H σ τ f)(IJ:σ[i]? = Γ (Γ (.ref a)))(hF:¬F a)(YC:¬F dx)(hH:H a=Γ (.ins C dx fs))(hd:H dx=Γ (.own a))(oc:OC K c C)(hm:Gj K F H (fs.map (·.2)) ds fi)
  (hr:Hf K F H σ (τ.set i Ξ) g) (h4:f.Perm ((a::dx::fi)++g)) (mw:Gu K F H w d fv) (nd:(fv++f).Nodup) (hb:∀b∈fv,B.H b=Ξ) :
  ∃f',Hi K B F (upd H a (.ins C dx (jM x w fs))) σ (τ.set i (Γ (.obj Δ c (jw x (fs.map (·.1))) (iM x d (fs.map (·.1)) ds)))) f':=by
 have L1:(fv++((a::dx::fi)++g)).Nodup:=(T_ fv h4).nodup_iff.mp nd;have JB:(a::dx::fi).Nodup:=(g_.mp (g_.mp L1).2.1).1;have Qs:(fv++fi).Nodup:=g_.mpr ⟨(g_.mp nd).1,(q_.mp (q_.mp JB).2).2,λb h1 b' h2 e=>(g_.mp L1).2.2 b h1 b' (j_ _ (.tail _ (.tail _ h2))) e⟩;obtain⟨fi',a1,a2,a3⟩:=qN x mw fs hm Qs;have ne:∀b∈fi',b≠a/\b≠dx:=λb Hn=>by
  rcases t_.mp (a3 b Hn) with z|z
  ·exact⟨λe=>(g_.mp L1).2.2 b z a (by simp) e,λe=>(g_.mp L1).2.2 b z dx (by simp) e⟩
  ·exact⟨λe=>(q_.mp JB).1 (e ▸ .tail _ z),λe=>(q_.mp (q_.mp JB).2).1 (e ▸ z)⟩
 have Wa:dx≠a:=λe=>(q_.mp JB).1 (e ▸ .head _);have cl:Cl H (upd H a (.ins C dx (jM x w fs))):=pA (λo z=>by rw[hH]at z;cases z) λxs z=>by rcases z with z|⟨o,z⟩<;>(rw[hH]at z;cases z)
 have m1:Gu K F (upd H a (.ins C dx (jM x w fs))) (.ref a) (.obj Δ c (jw x (fs.map (·.1))) (iM x d (fs.map (·.1)) ds)) (a::dx::fi'):=.Ju hF YC gk (by rw[dN Wa];exact hd) ⟨oc,o7 x w fs⟩ (a1.step (λb v h r=>by
  refine⟨h,?_⟩;unfold Rd;rw[dN (λ(z:b=a)=>hF (z ▸ h))]
  exact r) (λb xs h=>h.cl cl) λb Hn n _=>⟨n,dN (ne b Hn).1⟩)
 refine m.chg (u:=.i C dx fs) (fv:=fv) IJ hr h4 (.head _) hF hH m1 (λb Hn=>?_) ?_ nd hb
 ·rcases l_.mp Hn with rfl|Hn
  ·exact k_ _ (.head _)
  ·rcases l_.mp Hn with rfl|Hn
   ·exact k_ _ (.tail _ (.head _))
   ·rcases t_.mp (a3 b Hn) with z|z
    ·exact j_ _ z
    ·exact k_ _ (.tail _ (.tail _ z))
 ·refine q_.mpr ⟨λz=>?_,q_.mpr ⟨λz=>(ne dx z).2 rfl,a2⟩⟩;rcases l_.mp z with z|z
  ·exact Wa z.symm
  ·exact(ne a z).1 rfl
theorem tI (x:Str){es:Ê}:∀(fs:List (Str×V)) {ds:Ê}{fi:È},Gj K F H (fs.map (·.2)) ds fi->fi.Nodup->iw (fs.map (·.1)) ds x=Γ (.lst Δ es)->
  ∃l ys,fs.lookup x=Γ (.ref l)/\¬F l/\l∈fi/\H l=Γ (.lst ys)/\ys.length=es.length/\∀w dw,Gu K F H w dw []->Gj K F (upd H l (.lst (ys++[w]))) (fs.map (·.2)) (iM x (.lst Δ (es++[dw])) (fs.map (·.1)) ds) fi
 |[],ds,fi,m,nd,h=>by cases h
 | (k,v)::fs,ds,fi,m,nd,h=>by
  cases m with
  |cons m1 m2=>
   rename_i d1 f1 KY g1
   have h:(if k=x then Γ d1 else iw (fs.map (·.1)) KY x)=Γ (.lst Δ es):=h;have Wb:∀(l:Ψ) (zs:Ë),¬F l->∀b (u:LD),F b->Rd H b u.o->F b/\Rd (upd H l (.lst zs)) b u.o:=λl zs hF b u hb r=>by refine⟨hb,?_⟩;unfold Rd;rw[dN (λ(z:b=l)=>hF (z ▸ hb))];exact r
   have NG:∀(l:Ψ) {ys zs:Ë}{vs:Ë}{ds:Ê}{f:È},H l=Γ (.lst ys)->¬F l->l∉f->Gj K F H vs ds f->Gj K F (upd H l (.lst zs)) vs ds f:=λl ys zs vs ds f hl hF nl m=>m.step (Wb l zs hF) (λb xs r=>r.cl (pB hl)) λb hb n _=>⟨n,dN λz=>nl (z ▸ hb)⟩
   have OH:∀(l:Ψ) {ys zs:Ë}{v:V}{d:D}{f:È},H l=Γ (.lst ys)->¬F l->l∉f->Gu K F H v d f->Gu K F (upd H l (.lst zs)) v d f:=λl ys zs vs ds f hl hF nl m=>m.step (Wb l zs hF) (λb xs r=>r.cl (pB hl)) λb hb n _=>⟨n,dN λz=>nl (z ▸ hb)⟩
   show ∃l ys,(match x == k with|true=>Γ v|false=>List.lookup x fs)=Γ (.ref l)/\_;by_cases e:k=x
   ·rw[d_ e]at h;cases h;rw[show(x == k)=Δ by rw[e];exact beq_self_eq_true x];cases m1 with
    | @HG l ys _ fl a1 a2 a3=>
     have LS:=q_.mp (show(l::(fl++g1)).Nodup from nd);refine⟨l,ys,rfl,a1,.head _,a2,a3.length,λw dw mw=>?_⟩;show Gj K F _ (V.ref l::fs.map (·.2)) (if k=x then .lst Δ (es++[dw])::KY else _) _;rw[d_ e];have a4:Gj K F H (ys++[w]) (es++[dw]) fl:=by have:=a3.append (.cons mw .nil);simpa using this
     exact .cons (.HG a1 gk (NG l a2 a1 (λz=>LS.1 (j_ _ z)) a4)) (NG l a2 a1 (λz=>LS.1 (k_ _ z)) m2)
   ·rw[b_ e]at h;rw[show(x == k)=Θ from beq_false_of_ne λz=>e z.symm];obtain⟨l,ys,b1,b2,b3,b4,b5,b6⟩:=tI x fs m2 (g_.mp nd).2.1 h;refine⟨l,ys,b1,b2,k_ _ b3,b4,b5,λw dw mw=>?_⟩;show Gj K F _ (v::fs.map (·.2)) (if k=x then _ else d1::iM x (.lst Δ (es++[dw])) (fs.map (·.1)) KY) _;rw[b_ e];exact .cons (OH l b4 b2 (λz=>(g_.mp nd).2.2 l z l b3 rfl) m1) (b6 w dw mw)
theorem jS (x:Str):∀(fs:List (Str×V)) {ds:Ê}{fi:È},Gj K F H (fs.map (·.2)) ds fi->∀d,iw (fs.map (·.1)) ds x=Γ d->∃v fx,fs.lookup x=Γ v/\Gu K F H v d fx/\∀b∈fx,b∈fi
 |[],ds,fi,m,d,h=>by cases h
 | (k,v)::fs,ds,fi,m,d,h=>by
  cases m with
  |cons m1 m2=>
   rename_i d1 f1 KY g1
   have h:(if k=x then Γ d1 else iw (fs.map (·.1)) KY x)=Γ d:=h;show ∃w fx,(match x == k with|true=>Γ v|false=>List.lookup x fs)=Γ w/\_;by_cases e:k=x
   ·rw[d_ e]at h;cases h;rw[show(x == k)=Δ by rw[e];exact beq_self_eq_true x];exact⟨v,f1,rfl,m1,λb hb=>j_ _ hb⟩
   ·rw[b_ e]at h;rw[show(x == k)=Θ from beq_false_of_ne λz=>e z.symm];obtain⟨w,fx,a1,a2,a3⟩:=jS x fs m2 d h;exact⟨w,fx,a1,a2,λb hb=>k_ _ (a3 b hb)⟩
end
section
variable {Z:Sg}{CX:II}{cl:Ä}{xp:XK->Hp->EX->Prop}{X:Cx}{ex:EX->Prop}{G:Gm}
def FX (g:Hc Z CX cl xp X ex G){i:Nat}{x s:Str}{cs:Â}{fz:Bool}{e:IR}{p ap pos:Pos}{v:Expr}(h1:i4 G i s=Δ)(hx:Z.JF.contains x=Δ)(hc:cs.all (λc=>Z.HE.contains c)=Δ)(h2:Gw Z G e v=Δ) :
  PS X (.Assign [.Attribute (.Name s p) x ap] v pos) (RS X.K G.pn ex (Hy cl (.oset i x cs fz e))):=by
 refine iR (A6 (j6 g h1) (MQ e Θ X ex G v g h2) (by induction v using zE<;>rfl)) λDn σ H Gz=>?_;obtain⟨B,F,τ,f,m,q⟩:=Gz;have q0:Gb ex (FW (Ho cl Θ e τ) λp=>qz i x cs fz p.1 p.2 (dJ p.2 i)) (Fk X.K B Dn):=q;refine m.ro (Gb.FW q0) λp v H' F' fv f' o hp=>?_;obtain⟨mo,hb⟩:=m.ow o;cases zs:dJ p.2 i with
 |none=>rw[zs]at hp;exact hp.no.elim
 |some d=>
  rw[zs]at hp
  induction d using zD with
  |obj ow c ks ds=>
   induction ow using zB with
   |false=>exact hp.no.elim
   |true=>
    obtain⟨gd,hp⟩:=Gb.Gn (show Gb ex (Gn (cs.contains c&&decide (ks.length < 1000)) (.ok (.nx (p.2.set i (Γ (.obj Δ c (jw x ks) (iM x (if fz=Δ then er p.1 else p.1) ks ds))))))) (Fk X.K B Dn) from hp);rw[a_]at gd;have Jc:c∈Z.HE:=List.contains_iff_mem.mp (I_.mp hc c (List.contains_iff_mem.mp gd.1));have fin:∀(F2:Ψ->Prop) (fw:È) (dw:D),Hi X.K B F2 H' σ p.2 f'->Gu X.K F2 H' v dw fw->(fw++f').Nodup->(∀b∈fw,B.H b=Ξ)->(if fz=Δ then er p.1 else p.1)=dw->rk i σ H' λx' H2=>∃a C dx fs,x'=.ref a/\H2 a=Γ (.ins C dx fs)/\MG X.K C/\kn X.K C x/\fs.length < 1000/\Dn.nx σ (upd H2 a (.ins C dx (jM x v fs))):=by
     intro F2 fw dw m2 mw nd Q3 ed;obtain⟨a,C,dx,fs,fi,g',a1,a2,a3,a4,a5,a6,rfl,a8,a9,OI⟩:=jA m2.HA zs;obtain⟨k1,k2⟩:=g.KI c Jc C a6;obtain⟨f2,m3⟩:=m2.Te (x:=x) a1 a2 a3 a4 a5 a6 a8 a9 OI mw nd Q3;refine⟨.ref a,a1,a,C,dx,fs,rfl,a4,k1,k2 x (List.contains_iff_mem.mp hx),?_,?_⟩
     ·have:=p_ gd.2
      rwa [h_]at this
     ·rw[ed]at hp;exact hp.ok _ _ _ _ m3
    induction fz using zB with
    |false=>exact fin F' fv p.1 mo o.rep o.He hb rfl
    |true=>exact fin _ [] (er p.1) (mo.Qr o.He hb λb Hn=>by obtain⟨_,u,hu⟩:=o.rep.own b Hn;rw[hu];simp) o.rep.Gy (by simpa using mo.He) (λb Hn=>absurd Hn (by simp)) rfl
  |_=>exact hp.no.elim
def Jm (g:Hc Z CX cl xp X ex G){i:Nat}{x s:Str}{cs:Â}{e:IR}{p ap apos G7 pos:Pos}{v:Expr}(h1:i4 G i s=Δ)(hx:Z.JF.contains x=Δ)(hc:cs.all (λc=>Z.HE.contains c)=Δ)(hl:(apos.endLine == G7.line)=Δ)(h3:notStar v=Δ)(h4:Gw Z G e v=Δ) :
  PS X (.Expr (.Call (.Attribute (.Attribute (.Name s p) x ap) "append" apos) [v] [] G7) pos) (RS X.K G.pn ex (Hy cl (.KS i x cs e))):=by
 have pa:PA X [v] (jT (RO X.K ex (Ho cl Θ e)) qf):=iF (MQ e Θ X ex G v g h4) jn (dM h3 _ _);have Jt:((backTo G7 (Μ [v] X.env)).all (λx=>!x.1)&&(backToKw G7 (keywordEach [] X.env)).all (λx=>x.1.isSome)&&decide ([v].length+([]:List Keyword).length+(if([]:List Keyword).isEmpty then 0 else 1) < 30))=Δ:=by rw[dM h3];rfl
 refine iR (m4 (qj PySem.F.plainAttrs_list PySem.F.slot_list_append PySem.F.type_list_append mj (lX (f:=x) (pos:=ap) (j6 (pos:=p) g h1) rfl) pa rfl Jt hl (dM h3 _ _) rfl)) λDn σ H h=>?_;obtain⟨B,F,τ,f,m,q⟩:=h;have q0:Gb ex (match dJ τ i with|some (.obj Δ c ks ds)=>Gn (cs.contains c&&um (iw ks ds x)) (FW (Ho cl Θ e τ) λp=>oU i x cs p.1 p.2 (dJ p.2 i))|_=>Gq) (Fk X.K B Dn):=q;cases z0:dJ τ i with
 |none=>rw[z0]at q0;exact q0.no.elim
 |some d0=>
  rw[z0]at q0
  induction d0 using zD with
  |obj ow c ks ds=>
   induction ow using zB with
   |false=>exact q0.no.elim
   |true=>
    obtain⟨gd,q1⟩:=Gb.Gn q0;rw[a_]at gd;obtain⟨a,C,dx,fs,fi,g',a1,a2,a3,a4,a5,a6,rfl,a8,a9,OI⟩:=jA m.HA z0;have Jc:c∈Z.HE:=List.contains_iff_mem.mp (I_.mp hc c (List.contains_iff_mem.mp gd.1));obtain⟨k1,k2⟩:=g.KI c Jc C a6;cases zl:iw (fs.map (·.1)) ds x with
    |none=>rw[zl]at gd;exact dH gd.2
    |some dl=>
     rw[zl]at gd;obtain⟨v0,fx,l1,l2,l3⟩:=jS x fs a8 dl zl;have hq:∃l xs,v0=.ref l/\HJ X.K H l xs:=by
      induction dl using zD with
      |lst o0 OD=>
       cases l2 with
       |JD _ b1 _=>exact⟨_,_,rfl,.inl (.inl b1)⟩
       |lstK b1 _=>exact⟨_,_,rfl,b1.sq⟩
       |HG _ b1 _=>exact⟨_,_,rfl,.inl (.inl (.inl b1))⟩
      |_=>exact dH gd.2
     obtain⟨l0,Tf,rfl,hq⟩:=hq;refine⟨.ref a,a1,a,C,dx,fs,.ref l0,rfl,.inl a4,k1,k2 x (List.contains_iff_mem.mp hx),l1,.inl ⟨rfl,Tf,hq⟩,m.ro (Gb.FW q1) λp w H' F' fv f' o hp=>?_⟩;obtain⟨mo,hb⟩:=m.ow o;cases zs:dJ p.2 i with
     |none=>rw[zs]at hp;exact hp.no.elim
     |some d=>
      rw[zs]at hp
      induction d using zD with
      |obj YD c' Kv ds'=>
       induction YD using zB with
       |false=>exact hp.no.elim
       |true=>
        obtain⟨gd1,hp⟩:=Gb.Gn (show Gb ex (Gn (cs.contains c') (sX i x c' p.1 p.2 Kv ds' (iw Kv ds' x))) (Fk X.K B Dn) from hp);have m2:=mo.Qr o.He hb λb Hn=>by obtain⟨_,u,hu⟩:=o.rep.own b Hn;rw[hu];simp
        have mw:=o.rep.Gy;generalize(λb=>F' b∨b∈fv)=F2 at m2 mw;obtain⟨a',C',SF,SG,fi',g2,b1,b2,b3,b4,b5,b6,rfl,b8,b9,Wc⟩:=jA m2.HA zs;rw[a1]at b1;cases b1;have e4:=o.Je.same _ _ a4;rw[b4]at e4;cases e4;cases Th:iw (fs.map (·.1)) ds' x with
        |none=>rw[Th]at hp;exact hp.no.elim
        |some Ti=>
         rw[Th]at hp
         induction Ti using zD with
         |lst o' es=>
          induction o' using zB with
          |false=>exact hp.no.elim
          |true=>obtain⟨YE,hp⟩:=Gb.Gn (show Gb ex (Gn (ky es.length) (.ok (.nx (p.2.set i (Γ (.obj Δ c' (fs.map (·.1)) (iM x (.lst Δ (es++[er p.1])) (fs.map (·.1)) ds'))))))) (Fk X.K B Dn) from hp);have JB:(a::dx::fi').Nodup:=(g_.mp (Wc.nodup_iff.mp m2.He)).1;have Qs:fi'.Nodup:=(q_.mp (q_.mp JB).2).2;obtain⟨l,ys,c1,c2,c3,c4,c5,c6⟩:=tI x fs b8 Qs Th;rw[l1]at c1;cases c1;have YF:a≠l0:=λz=>(q_.mp JB).1 (z ▸ .tail _ c3);have YG:dx≠l0:=λz=>(q_.mp (q_.mp JB).2).1 (z ▸ c3);obtain⟨f2,m3⟩:=m2.chg (u:=.l ys) (o':=.lst (ys++[w])) (fv:=[]) (fi':=a::dx::fi') a1 b9 Wc (.tail _ (.tail _ c3)) c2 c4 (.Ju b2 b3 (by rw[dN YF];exact b4) (by rw[dN YG];exact b5) ⟨b6,rfl⟩ (c6 w (er p.1) mw)) (λb Hn=>Hn) JB (by simpa using m2.He) (λb Hn=>absurd Hn (by simp));exact⟨l0,ys,w,rfl,rfl,c4,by rw[c5];exact p_ YE,hp.ok _ _ _ _ m3⟩
         |_=>exact hp.no.elim
      |_=>exact hp.no.elim
  |_=>exact q0.no.elim
def FY (g:Hc Z CX cl xp X ex G){i:Nat}{e:IR}{v:Expr}{pos:Pos}(LQ:G.io=Γ i)(h:Gw Z G e v=Δ):PS X (.Return (Γ v) pos) (RS X.K G.pn ex (Hy cl (.Ku i e))):=by
 refine iR (rl (MQ e Δ X ex G v g h)) λDn σ H Gz=>?_;obtain⟨B,F,τ,f,m,q⟩:=Gz;have q0:Gb ex (FW (Ho cl Δ e τ) (qA i)) (Fk X.K B Dn):=q;refine m.ro (Gb.FW q0) λp v H' F' fv f' o hp=>?_;unfold qA at hp;split at hp
 ·rename_i d zs
  obtain⟨gs,hp⟩:=Gb.Gn hp;obtain⟨mo,hb⟩:=m.ow o;obtain⟨v1,f1,g1,e1,m1,_,e4⟩:=mo.HA.at zs
  induction d using zD with
  |obj ow c ks ds=>
   obtain⟨a,rfl⟩:∃a,v1=.ref a:=by cases m1<;>exact⟨_,rfl⟩
   have sub:∀b∈f1,b∈f':=λb Hn=>e4.mem_iff.mpr (j_ _ Hn);refine hp.ok v H' F' fv f1 a (λj a' ej e'=>?_) ⟨mo.G9,mo.same,o.rep,(g_.mp o.He).1,hb,mo.HU,mo.out⟩ m1 (g_.mpr ⟨(g_.mp o.He).1,(g_.mp (e4.nodup_iff.mp mo.He)).1,λb h1 b' h2 e=>(g_.mp o.He).2.2 b h1 b' (sub b' h2) e⟩) λb Hn=>mo.own b (sub b Hn);have ej:G.io=Γ j:=ej;rw[LQ]at ej;cases ej;have NH:=mo.nm _ _ (so LQ) e';rw[e1]at NH;cases NH;rfl
  |_=>exact dH gs
 ·exact hp.no.elim
def pQ (g:Hc Z CX cl xp X ex G){k:Nat}{f p0:Nat}{fa:Ψ}{fd:Ν}{ps:Â}{pins:List (Ψ×Obj)}{σ:St}{H:Hp}{s:Ω}{Q:VK}{us uds:List Φ}{vs dvs:Ë}
  (F:Ic X.prog X.w X.K X.mg X.base CX k fa fd ps (Nb X.K cl f p0 ps)) (hr:Hh (k+1) X.A) (hk:k % 1000≠999) (hb:Binds X.K fd ps uds) (hlen:∀ds r,cl f ds=.ok r->ds.length=ps.length)
  (I:Inv X pins σ H s) (r:Vals vs us) (rd:Vals dvs uds) (q:NF X.K cl f p0 (vs++dvs) H Q):Ι (Κ X.prog X.w) X.A (call (.ref fa) us) (EP X pins σ Q) X.xe s:=
 wpAny_call (codeAny_mono (tH g F (hr.less hk) hb hlen (λ_ e=>e) I r rd q) λr s' Qt=>by obtain⟨u,e,h⟩:=Qt;subst e;exact h)
def pR (g:Hc Z CX cl xp X ex G){f:Nat}{m c:Str}{o:Expr}{ap pos:Pos}{ta:TE}{es:Ç}{args:Ü}(ha:PE X o ta)(hn:pI o=Δ)(Hm:(ap.endLine == pos.line)=Δ)(hlen:args.length < 29)(hf:(f,c,m)∈Z.Im)(Jc:c∈Z.HE)(Hq:G.cm=Δ)(Hb:iz Z G es args=Δ) :
  PE X (.Call (.Attribute o m ap) args [] pos) (λσ H Q=>ta σ H λv H0=>∃a C dx fs,v=.ref a/\Rd H0 a (.ins C dx fs)/\OC X.K c C/\fs.lookup m=Ξ/\RA X.K ex (dI es) (iq cl es) σ H0 λvs H1=>NF X.K cl f 0 (.ref a::vs) H1 Q):=by
 obtain⟨k,MO,fd,ps,hm,hb,F,hr,hk,JQ⟩:=(g.Im f c m hf Hq).ex;have pa:=kQ es X ex G args g Hb;intro pins s σ H Q I q;refine mJ (kK hn) (sd Hb hlen) Hm (G5 (ha pins s σ H _ I q) λu s1 ⟨x,H1,I1,rx,a,C,dx,fs,Ov,ea,oc,l,q1⟩ pl=>?_);subst Ov;obtain rfl:u=η a:=rx;obtain⟨k1,_⟩:=g.KI c Jc C oc;have MP:=hm C oc;refine lH I1 ea k1 MP l ?_
 induction args using zL with
 |nil=>
  induction es using zL with
  |cons _ _=>cases Hb
  |nil=>obtain⟨S,τ,hs,q1⟩:=q1;exact PySem.W.callWith_K0 (first:=[.ref a]) I1.Ig MP.kp (pQ g (us:=[.ref a]) (vs:=[.ref a]) (uds:=[]) (dvs:=[]) F hr hk hb JQ I1 (.cons rfl .nil) .nil (q1.ok [] H1 (.refl _) .nil))
 |cons e l'=>
  induction es using zL with
  |nil=>cases Hb
  |cons b r=>have G8:(notStar e&&Gw Z G b e&&iz Z G r l')=Δ:=Hb;simp only[a_]at G8;refine PySem.W.callWith_K (first:=[.ref a]) (h₀:=X.base) I.ok.mod.MD MP.kp (G5 (pa pos pins s1 σ H1 _ I1 q1) λus s2 ⟨vs,H2,I2,rr,q2⟩=>⟨I2.Ig,?_⟩) (dM G8.1.1 l' X.env) (iL Z G (es:=r) pos X.env G8.2);exact pQ g (us:=.ref a::us) (vs:=.ref a::vs) (uds:=[]) (dvs:=[]) F hr hk hb JQ I2 (.cons rfl rr) .nil (by rw[R_];exact q2)
def su {K:Frag}{io:PN}{B:Bs io}{F2 F':Ψ->Prop}{H1 H':Hp}{σ:St}{τ:Ev}{gg g0 f0 fv f1:È}{a:Ψ}{i:Nat}{v:V}{d d0 d1:D}(m2:Hi K B F2 H1 σ τ gg)(IJ:σ[i]? = Γ (Γ (.ref a)))(m0:Gu K F2 H1 (.ref a) d0 f0)(r0:Hf K F2 H1 σ (τ.set i Ξ) g0)(p0:gg.Perm (f0++g0))
  (oi:Na K a f0 F2 H1 F' H' v d fv d1 f1):∃g',Hi K B F' H' σ (τ.set i (Γ d1)) g'/\(fv++g').Nodup/\∀b∈fv,B.H b=Ξ:=by
 have o:=m0.Oi;have JB:(f0++g0).Nodup:=p0.nodup_iff.mp m2.He;have Tj:∀b,b∈f0∨b∈g0->B.H b=Ξ:=λb hb=>m2.own b (p0.mem_iff.mpr (t_.mpr hb));have ng:∀b∈g0,b∉f0:=λb hb z=>(g_.mp JB).2.2 b z b hb rfl;have sg:∀b∈g0,∃u,H1 b=Γ u/\Iw f0 H1 b=Γ u:=λb hb=>by obtain⟨_,u,hu⟩:=r0.own b hb;exact⟨u,hu,by rw[i6 (ng b hb)];exact hu⟩
 have bn:∀b,Iw f0 H1 b=Ξ->B.H b=Ξ:=λb e=>by
  by_cases hb:b∈f0
  ·exact Tj b (.inl hb)
  ·rw[i6 hb]at e;exact m2.same.free e
 have hl:∀b (u:LD),F2 b->Rd H1 b u.o->F' b/\Rd H' b u.o:=λb u hb r=>⟨oi.out.HU b hb,oi.out.same.rd (sj (λz=>(m0.own b z).1 hb) r)⟩
 have ht:∀b xs,HB K H1 b xs->HB K H' b xs:=λb xs h=>oi.out.same.IQ (h.cl (si o));have r3:Hf K F' H' σ (τ.set i Ξ) g0:=r0.step hl ht λb hb n1 n2=>by
  obtain⟨u,hu,LK⟩:=sg b hb;refine⟨λz=>?_,(oi.out.same _ _ LK).trans hu.symm⟩;rcases oi.out.out b z with z|z
  ·exact n1 z
  ·rw[LK]at z;cases z
 obtain⟨g',h',r4,p4⟩:=r3.put i oi.m1;rw[set_same IJ,List.set_set]at r4
 have LS:(f1++g0).Nodup:=g_.mpr ⟨(g_.mp oi.nd).2.1,(g_.mp JB).2.1,λb h1 b' h2 e=>by
  subst e;obtain⟨u,_,hu⟩:=sg b h2;rw[oi.in1 b h1]at hu
  cases hu⟩
 have in4:∀b∈g',b∈f1∨b∈g0:=λb hb=>t_.mp (p4.mem_iff.mp (j_ _ hb));have We:g'.Nodup:=(g_.mp (p4.nodup_iff.mpr LS)).1;refine⟨g',⟨oi.out.G9,r4,We,λb u e=>?_,λb hb=>(in4 b hb).elim (λz=>bn b (oi.in1 b z)) λz=>Tj b (.inr z),λb hb=>oi.out.HU b (m2.HU b hb),λb hb=>(oi.out.out b hb).elim (m2.out b) λz=>.inr (bn b z),λb xs hb=>hl b xs (m2.pin b xs hb).1 (m2.pin b xs hb).2,λb xs hb=>ht b xs (m2.KJ b xs hb),m2.nm⟩,g_.mpr ⟨oi.out.He,We,λb h1 b' h2 e=>?_⟩,λb hb=>bn b (oi.out.new b hb)⟩
 ·have hb:b∉f0:=λz=>by rw[Tj b (.inl z)]at e;cases e
  exact oi.out.same b u (by rw[i6 hb];exact m2.same b u e)
 ·subst e;rcases in4 b h2 with z|z
  ·exact(g_.mp oi.nd).2.2 b h1 b z rfl
  ·obtain⟨u,_,hu⟩:=sg b z;rw[oi.out.new b h1]at hu;cases hu
def pS {io:PN}{B:Bs io}{F:Ψ->Prop}{H:Hp}{σ:St}{τ:Ev}{fo:È}{f i:Nat}{m c:Str}{es:Ç}{o:D}{Q:VK}(Tn:(dI es).contains i=Θ)(Qu:iJ o=Δ)(To:jE c m o=Δ)(fr:Hi X.K B F H σ τ fo)(zs:dJ τ i=Γ o)
  (q1:Gb ex (iq cl es τ) λds=>∃d d1,cl f (o::Gr ds)=.ok (.tup [d,d1])/\∀v H' F' fv g',Hi X.K B F' H' σ ((Gy (dI es) τ).set i (Γ d1)) g'->Gu X.K F' H' v d fv->(fv++g').Nodup->(∀b∈fv,B.H b=Ξ)->Q v H') :
  rk i σ H λv H0=>∃a C dx fs,v=.ref a/\Rd H0 a (.ins C dx fs)/\OC X.K c C/\fs.lookup m=Ξ/\RA X.K ex (dI es) (iq cl es) σ H0 λvs H1=>NF X.K cl f 0 (.ref a::vs) H1 Q:=by
 obtain⟨F1,gg,b1,b2,b3,b4,b5,b6⟩:=jI (dI es) fr.G9 fr.HA fr.He;have zf:dJ (Gy (dI es) τ) i=Γ o:=(jX (dI es) τ 0 i (by rw[Nat.zero_add];exact Tn)).trans zs
 induction o using zD with
 |obj ow c' ks OD=>have Jx:ow=Δ:=Qu;subst Jx;have Jy:(c == c'&&!ks.contains m)=Δ:=To;rw[a_]at Jy;have e0:=f_ Jy.1;subst e0;obtain⟨a,C,dx,fs,fi,g',a1,a2,a3,a4,a5,a6,rfl,a8,a9,OI⟩:=jA b2 zf;refine⟨.ref a,a1,a,C,dx,fs,rfl,.inl a4,a6,jV m fs (by simpa using Jy.2),kP (.refl _) b6 q1 λds vs H1 e1 _ m1 q2=>?_⟩;obtain⟨c1,c2,c3⟩:=grow (λ_=>True) b1 b2 e1;have m2:Hi X.K B (λb=>F1 b∨(True/\H b=Ξ/\H1 b≠Ξ)) H1 σ (Gy (dI es) τ) gg:=fr.Je (b4.trans c3 (λx hx=>.inl (b5 x hx))) c1 c2 b3 λb hb=>.inl (b5 b hb);have hm:FZ X.K (λa=>F1 a∨(True/\H a=Ξ/\H1 a≠Ξ)) H1 vs ds:=m1.step (λa xs h r=>⟨h.elim (λz=>.inl z) λz=>.inr ⟨trivial,z,r.some⟩,r⟩) λa xs h=>h;generalize(λb=>F1 b∨(True/\H b=Ξ/\H1 b≠Ξ))=F2 at m2 hm c1 c2;obtain⟨v0,f0,g0,e4,m0,r0,p0⟩:=c2.at zf;rw[a1]at e4;cases e4;obtain⟨d,d1,zc,q3⟩:=q2;refine⟨a,_,f0,F2,[],[],vs,ds,rfl,rfl,rfl,⟨c1,(g_.mp (p0.nodup_iff.mp b3)).1,m0,hm⟩,d,d1,zc,λv H' F' fv f1 oi=>?_⟩;obtain⟨gx,mF,OJ,Qv⟩:=su m2 a1 m0 r0 p0 oi;exact q3 v H' F' fv gx mF oi.out.rep OJ Qv
 |_=>exact dH Qu
def l7 {f j i:Nat}{R:D->Res Fl}{o:D}{ds:Ê}{Kt:Fl->Prop}(hR:∀r,(∃d c ks es,r=.tup [d,.obj Δ c ks es])∨R r=Gq)(q:Gb ex (FW (Ia (cl f (o::Gr ds))) R) Kt) :
  ∃d c ks es,cl f (o::Gr ds)=.ok (.tup [d,.obj Δ c ks es])/\Gb ex (R (.tup [d,.obj Δ c ks es])) Kt:=by
 cases zc:cl f (o::Gr ds) with
 |error er=>rw[zc]at q;exact q.no.elim
 |ok rr=>
  rw[zc]at q;have q3:Gb ex (R rr) Kt:=q;rcases hR rr with⟨d,c,ks,es,rfl⟩|h
  ·exact⟨d,c,ks,es,rfl,q3⟩
  ·rw[h]at q3;exact q3.no.elim
def l8 {j:É}{i:Nat}{τ:Ev}(r:D):(∃d c ks es,r=.tup [d,.obj Δ c ks es])∨ka j i τ r=Gq:=by
 unfold ka;split
 ·exact .inl ⟨_,_,_,_,rfl⟩
 ·exact .inr rfl
def J9 (g:Hc Z CX cl xp X ex G){i f:Nat}{m c s:Str}{p ap G7 pos:Pos}{es:Ç}{args:Ü}(h1:i4 G i s=Δ)(Hm:(ap.endLine == G7.line)=Δ)(hlen:args.length < 29)(hf:(f,c,m)∈Z.Im)(Jc:c∈Z.HE)(Hq:G.cm=Δ)(Hb:iz Z G es args=Δ) :
  PS X (.Expr (.Call (.Attribute (.Name s p) m ap) args [] G7) pos) (RS X.K G.pn ex (Hy cl (.Nw Ξ i f m c es))):=by
 refine iR (m4 (pR g (j6 (pos:=p) g h1) rfl Hm hlen hf Jc Hq Hb)) λDn σ H Gz=>?_;obtain⟨B,F,τ,fo,fr,q⟩:=Gz;have q0:Gb ex (match dJ τ i with|some o=>Gn (iJ o&&jE c m o&&!(dI es).contains i) (FW (iq cl es τ) λds=>FW (Ia (cl f (o::Gr ds))) (ka Ξ i (Gy (dI es) τ)))|none=>Gq) (Fk X.K B Dn):=q;cases zs:dJ τ i with
 |none=>rw[zs]at q0;exact q0.no.elim
 |some o=>rw[zs]at q0;obtain⟨gd,q1⟩:=Gb.Gn q0;rw[a_,a_]at gd;refine pS (by simpa using gd.2) gd.1.1 gd.1.2 fr zs ((Gb.FW q1).mono λds hd=>?_);obtain⟨d,c',ks,K8,zc,q2⟩:=l7 (j:=0) (i:=0) l8 hd;exact⟨d,_,zc,λv H' F' fv g' mF _ _ _=>q2.ok _ _ _ _ mF⟩
def Gj.getM {K:Frag}  (h:Gj K F H vs ds f):∀ {j:Nat}{d:D},ds[j]? = Γ d->∃v f',vs[j]? = Γ v/\Gu K F H v d f':=
 Gj.ind (P:=λvs ds _=>∀ {j:Nat}{d:D},ds[j]? = Γ d->∃v f',vs[j]? = Γ v/\Gu K F H v d f') (λ{j d} e=>nomatch (show Ξ=Γ d from e)) (λv d f vs ds g a b k {j d'} e=>by
  cases j with
  |zero=>exact⟨v,f,rfl,B_ e ▸ a⟩
  |succ j=>exact k (j:=j) e) h
def Jn (g:Hc Z CX cl xp X ex G){j i:Nat}{x s y:Str}{cs:Â}{k:IR}{py p ap sp pos:Pos}{ke:Expr}(hT:i8 G (.nm j) (.Name y py)=Δ)(h1:i4 G i s=Δ)(hx:Z.JF.contains x=Δ)(hc:cs.all (λc=>Z.HE.contains c)=Δ)(hp:iU ke=Δ)(h2:Gw Z G k ke=Δ) :
  PS X (.Assign [.Name y py] (.Subscript (.Attribute (.Name s p) x ap) ke sp) pos) (RS X.K G.pn ex (Hy cl (.LG j i x cs k))):=by
 have KD:(G.N[j]? == Γ y&&(G.kd[j]? == Γ .local||(G.df&&G.kd[j]? == Γ .cell)))=Δ:=(aab.mp hT).1;have Ng:pinned G.pn j=Θ:=by simpa using(aab.mp hT).2
 rw[a_,L_,a_]at KD;have hy:G.N[j]? = Γ y:=f_ KD.1;have hk:=g.kd j y hy;have J8:Loc X.env.scope y:=KD.2.elim (λz=>.inl (hk.trans (f_ z))) λz=>.inr (hk.trans (f_ z.2));have Lp:X.fn y=Δ∨X.env.scope.names.lookup y=Γ .local:=KD.2.elim (λz=>.inr (hk.trans (f_ z))) λz=>.inl (g.df z.1 y);refine iR (nk (i:=j) (by rw[g.N];exact g.He) (by rw[g.N];exact hy) J8 (zP sM (lX (f:=x) (pos:=ap) (j6 (pos:=p) g h1) rfl) (snd k X ex G ke g h2).1 (λo i=>by cases ke<;>first|rfl|cases hp)) rfl Lp) λDn σ H h=>?_;obtain⟨B,F,τ,f,m,q⟩:=h;have q0:Gb ex (match dJ τ i with|some (.obj Δ c ks ds)=>Gn (cs.contains c) (oV cl j k τ (iw ks ds x))|_=>Gq) (Fk X.K B Dn):=q;cases z0:dJ τ i with
 |none=>rw[z0]at q0;exact q0.no.elim
 |some d0=>
  rw[z0]at q0
  induction d0 using zD with
  |obj ow c ks ds=>
   induction ow using zB with
   |false=>exact q0.no.elim
   |true=>
    obtain⟨gd,q1⟩:=Gb.Gn q0;obtain⟨a,C,dx,fs,fi,g',a1,a2,a3,a4,a5,a6,rfl,a8,a9,OI⟩:=jA m.HA z0;have Jc:c∈Z.HE:=List.contains_iff_mem.mp (I_.mp hc c (List.contains_iff_mem.mp gd));obtain⟨k1,k2⟩:=g.KI c Jc C a6;cases zl:iw (fs.map (·.1)) ds x with
    |none=>rw[zl]at q1;exact q1.no.elim
    |some dl=>
     rw[zl]at q1
     induction dl using zD with
     |lst o es=>
      induction o using zB with
      |false=>exact q1.no.elim
      |true=>
       obtain⟨v0,fx,l1,l2,_⟩:=jS x fs a8 _ zl;cases l2 with
       | @HG l ys _ fl b1 b2 b3=>
        have q2:Gb ex (FW (Gs cl k τ) (sY j τ es)) (Fk X.K B Dn):=q1;refine⟨.ref a,a1,a,C,dx,fs,.ref l,rfl,.inl a4,k1,k2 x (List.contains_iff_mem.mp hx),l1,m.rd (Gb.FW q2) λdk vk H1 m1 e1 mk kt=>?_⟩
        induction dk using zD with
        |int z=>
         cases mk.Ha;have Rk:Gb ex (match Ib es z with|some d=>Gn (lq d) (.ok (.nx (τ.set j (Γ d))))|none=>Gq) (Fk X.K B Dn):=kt;cases zd:Ib es z with
         |none=>rw[zd]at Rk;exact Rk.no.elim
         |some d=>
          rw[zd]at Rk;obtain⟨gn,YH⟩:=Gb.Gn Rk;obtain⟨a',C',SF,SG,fi',g2,c1,c2,c3,c4,c5,c6,c7,c8,c9,c10⟩:=jA m1.HA z0;rw[a1]at c1;cases c1;have e4:=e1 _ _ a4;rw[c4]at e4;cases e4;obtain⟨v1,fx',n1,n2,_⟩:=jS x fs c8 _ zl;rw[l1]at n1;cases n1;cases n2 with
          | @HG _ YI _ fl' d1 d2 d3=>
           have Qw:=zd;unfold Ib at Qw;cases zi:JI es.length z with
           |none=>rw[zi]at Qw;cases Qw
           |some n=>
            rw[zi]at Qw;obtain⟨w,f',w1,w2⟩:=d3.getM (show es[n]? = Γ d from Qw);have ef:f'=[]:=by have:=Gj.V' (.cons w2 .nil) (show(lq d&&Δ)=Δ by rw[gn];rfl);simpa using this
            subst ef;refine⟨l,YI,z,w,rfl,rfl,.inl (.inl (.inl d2)),?_,?_⟩
            ·unfold Ib;rw[d3.length,zi];exact w1
            ·obtain⟨f2,m3⟩:=m1.put j w2 (by simpa using m1.He) (λb hb=>absurd hb (by simp)) Ng;exact YH.ok _ _ _ _ m3
        |_=>exact kt.no.elim
     |_=>exact q1.no.elim
  |_=>exact q0.no.elim
theorem tJ {K:Frag}{F:Ψ->Prop}{H:Hp}(y:Str):∀(fs:List (Str×V)) {ds:Ê}{fi:È},Gj K F H (fs.map (·.2)) ds fi->∀o,iw (fs.map (·.1)) ds y=Γ o->
  ∃w fy gi,fs.lookup y=Γ w/\Gu K F H w o fy/\fi.Perm (fy++gi)/\∀(F':Ψ->Prop) (H':Hp),(∀b (u:LD),F b->Rd H b u.o->F' b/\Rd H' b u.o)->(∀b xs,HB K H b xs->HB K H' b xs)->(∀b∈gi,¬F b->H b≠Ξ->¬F' b/\H' b=H b)->
   ∀o1 f1,Gu K F' H' w o1 f1->∃fi',Gj K F' H' (fs.map (·.2)) (iM y o1 (fs.map (·.1)) ds) fi'/\fi'.Perm (f1++gi)
 |[],ds,fi,m,o,h=>by cases h
 | (k,v)::fs,ds,fi,m,o,h=>by
  cases m with
  |cons m1 m2=>
   rename_i d1 f1 KY g1
   have h:(if k=y then Γ d1 else iw (fs.map (·.1)) KY y)=Γ o:=h;show ∃w fy gi,(match y == k with|true=>Γ v|false=>List.lookup y fs)=Γ w/\_;by_cases e:k=y
   ·rw[d_ e]at h;cases h;rw[show(y == k)=Δ by rw[e];exact beq_self_eq_true y];refine⟨v,f1,g1,rfl,m1,.refl _,λF' H' hl ht kk o1 Tp mo=>⟨Tp++g1,?_,.refl _⟩⟩;show Gj K F' H' (v::fs.map (·.2)) (if k=y then o1::KY else _) _;rw[d_ e];exact .cons mo (m2.step hl ht kk)
   ·rw[b_ e]at h;rw[show(y == k)=Θ from beq_false_of_ne λz=>e z.symm];obtain⟨w,fy,gi,a1,a2,a3,a4⟩:=tJ y fs m2 o h;refine⟨w,fy,f1++gi,a1,a2,?_,λF' H' hl ht kk o1 Tp mo=>?_⟩
    ·refine(T_ f1 a3).trans ?_;rw[<- y_,<- y_];exact List.Perm.append_right gi W_
    ·obtain⟨fi',b1,b2⟩:=a4 F' H' hl ht (λb hb=>kk b (k_ _ hb)) o1 Tp mo;refine⟨f1++fi',?_,?_⟩
     ·show Gj K F' H' (v::fs.map (·.2)) (if k=y then _ else d1::iM y o1 (fs.map (·.1)) KY) _;rw[b_ e];exact .cons (m1.step hl ht λb hb=>kk b (j_ _ hb)) b1
     ·refine(T_ f1 b2).trans ?_;rw[<- y_,<- y_];exact List.Perm.append_right gi W_
def uA {y c0:Str}{ks:Â}{ds:Ê}(r:D):(∃d c Kv es,r=.tup [d,.obj Δ c Kv es])∨nQ y c0 ks ds r=Gq:=by
 unfold nQ;split
 ·exact .inl ⟨_,_,_,_,rfl⟩
 ·exact .inr rfl
def Jo (g:Hc Z CX cl xp X ex G){i f:Nat}{m c s y:Str}{cs:Â}{p yp ap G7 pos:Pos}{es:Ç}{args:Ü}(LQ:G.io=Γ i)(h1:i4 G i s=Δ)(hy:Z.JF.contains y=Δ)(hc:cs.all (λc=>Z.HE.contains c)=Δ)(Hm:(ap.endLine == G7.line)=Δ)(hlen:args.length < 29)(hf:(f,c,m)∈Z.Im)(Jc:c∈Z.HE)(Hq:G.cm=Δ)(Hb:iz Z G es args=Δ) :
  PS X (.Return (Γ (.Call (.Attribute (.Attribute (.Name s p) y yp) m ap) args [] G7)) pos) (RS X.K G.pn ex (Hy cl (.LI i y cs f m c es))):=by
 refine iR (rl (pR g (lX (f:=y) (pos:=yp) (j6 (pos:=p) g h1) rfl) rfl Hm hlen hf Jc Hq Hb)) λDn σ H Gz=>?_;obtain⟨B,F,τ,fo,fr,q⟩:=Gz;have q0:Gb ex (match dJ τ i with|some (.obj Δ c0 ks ds)=>Gn (cs.contains c0&&!(dI es).contains i) (oW cl y f m c es τ c0 ks ds (iw ks ds y))|_=>Gq) (Fk X.K B Dn):=q;cases zs:dJ τ i with
 |none=>rw[zs]at q0;exact q0.no.elim
 |some d0=>
  rw[zs]at q0
  induction d0 using zD with
  |obj ow c0 ks ds=>
   induction ow using zB with
   |false=>exact q0.no.elim
   |true=>
    obtain⟨gd,q1⟩:=Gb.Gn q0;rw[a_]at gd;cases zl:iw ks ds y with
    |none=>rw[zl]at q1;exact q1.no.elim
    |some o=>
     rw[zl]at q1;obtain⟨go,q2⟩:=Gb.Gn (show Gb ex (Gn (iJ o&&jE c m o) (FW (iq cl es τ) λas=>FW (Ia (cl f (o::Gr as))) (nQ y c0 ks ds))) (Fk X.K B Dn) from q1);rw[a_]at go;obtain⟨F1,gg,b1,b2,b3,b4,b5,b6⟩:=jI (dI es) fr.G9 fr.HA fr.He;have zf:dJ (Gy (dI es) τ) i=Γ (.obj Δ c0 ks ds):=(jX (dI es) τ 0 i (by rw[Nat.zero_add];simpa using gd.2)).trans zs;obtain⟨a,C,dx,fs,fi,g',a1,a2,a3,a4,a5,a6,rfl,a8,a9,OI⟩:=jA b2 zf;have Tq:c0∈Z.HE:=List.contains_iff_mem.mp (I_.mp hc c0 (List.contains_iff_mem.mp gd.1));obtain⟨k1,k2⟩:=g.KI c0 Tq C a6;obtain⟨w0,fx,l1,l2,_⟩:=jS y fs a8 _ zl;have hw:∃ay Cy dy fy,w0=.ref ay/\H ay=Γ (.ins Cy dy fy)/\OC X.K c Cy/\fy.lookup m=Ξ:=by
      induction o using zD with
      |obj ow c' Kv ds'=>
       have Jx:ow=Δ:=go.1;subst Jx;have Jy:(c == c'&&!Kv.contains m)=Δ:=go.2;rw[a_]at Jy;have e0:=f_ Jy.1;subst e0;cases l2 with
       |Ju d1 d2 d3 d4 d5 d6=>exact⟨_,_,_,_,rfl,d3,d5.1,jV m _ (by rw[d5.2];simpa using Jy.2)⟩
      |_=>exact dH go.1
     obtain⟨ay,Cy,dy,YJ,rfl,w1,w2,w3⟩:=hw;refine⟨.ref a,a1,a,C,dx,fs,.ref ay,rfl,.inl a4,k1,k2 y (List.contains_iff_mem.mp hy),l1,ay,Cy,dy,YJ,rfl,.inl w1,w2,w3,kP (.refl _) b6 (Gb.FW q2) λds' vs H1 e1 _ m1 q3=>?_⟩;obtain⟨c1,c2,c3⟩:=grow (λ_=>True) b1 b2 e1;have m2:Hi X.K B (λb=>F1 b∨(True/\H b=Ξ/\H1 b≠Ξ)) H1 σ (Gy (dI es) τ) gg:=fr.Je (b4.trans c3 (λx hx=>.inl (b5 x hx))) c1 c2 b3 λb hb=>.inl (b5 b hb);have hm:FZ X.K (λa=>F1 a∨(True/\H a=Ξ/\H1 a≠Ξ)) H1 vs ds':=m1.step (λa xs h r=>⟨h.elim (λz=>.inl z) λz=>.inr ⟨trivial,z,r.some⟩,r⟩) λa xs h=>h;generalize(λb=>F1 b∨(True/\H b=Ξ/\H1 b≠Ξ))=F2 at m2 hm c1 c2;obtain⟨a',C',SF,SG,Nh,g2,f1,f2,f3,f4,f5,f6,f7,f8,f9,Wf⟩:=jA c2 zf;rw[a1]at f1;cases f1;have e4:=e1 _ _ a4;rw[f4]at e4;cases e4;obtain⟨w,fy,gi,s1,s2,s3,s4⟩:=tJ y fs f8 _ zl;rw[l1]at s1;cases s1;obtain⟨d,c',Kv,K8,zc,q4⟩:=l7 (j:=0) (i:=0) uA q3;have own:iZ H1 fy:=s2.Oi
     -- all of it
     have YK:((a::dx::Nh)++g2).Nodup:=Wf.nodup_iff.mp b3;have JB:(a::dx::Nh).Nodup:=(g_.mp YK).1;have LS:(fy++gi).Nodup:=s3.nodup_iff.mp (q_.mp (q_.mp JB).2).2;have Rf:∀b,b=a∨b=dx∨b∈Nh->b∈gg:=λb hb=>Wf.mem_iff.mpr (j_ _ (hb.elim (λz=>z ▸ .head _) λz=>z.elim (λz=>z ▸ .tail _ (.head _)) λz=>.tail _ (.tail _ z)));have bO:∀b,b=a∨b=dx∨b∈Nh->B.H b=Ξ:=λb hb=>m2.own b (Rf b hb);have Rl:∀b∈fy,b∈Nh:=λb hb=>s3.mem_iff.mpr (j_ _ hb);have Tr:∀b∈gi,b∈Nh:=λb hb=>s3.mem_iff.mpr (k_ _ hb);have na:a∉Nh:=λz=>(q_.mp JB).1 (.tail _ z);have Wg:dx∉Nh:=(q_.mp (q_.mp JB).2).1;have Ts:dx≠a:=λz=>(q_.mp JB).1 (z ▸ .head _);have Wh:∀b,b=a∨b=dx∨b∈gi->b∉fy/\∃u,H1 b=Γ u/\Iw fy H1 b=Γ u/\¬F2 b:=λb hb=>by have Hn:b∉fy:=λz=>hb.elim (λe=>na (e ▸ Rl b z)) λe=>e.elim (λe=>Wg (e ▸ Rl b z)) λe=>(g_.mp LS).2.2 b z b e rfl;obtain⟨n1,u,hu⟩:=c2.own b (Rf b (hb.elim .inl λz=>.inr (z.elim .inl λz=>.inr (Tr b z))));exact⟨Hn,u,hu,by rw[i6 Hn];exact hu,n1⟩
     have bn:∀b,Iw fy H1 b=Ξ->B.H b=Ξ:=λb e=>by
      by_cases hb:b∈fy
      ·exact bO b (.inr (.inr (Rl b hb)))
      ·rw[i6 hb]at e;exact m2.same.free e
     refine⟨ay,o,fy,F2,[],[],vs,ds',rfl,rfl,rfl,⟨c1,(g_.mp LS).1,s2,hm⟩,d,_,zc,λv H' F' fv Tt oi=>?_⟩;have hl:∀b (u:LD),F2 b->Rd H1 b u.o->F' b/\Rd H' b u.o:=λb u hb r=>⟨oi.out.HU b hb,oi.out.same.rd (sj (λz=>(s2.own b z).1 hb) r)⟩
     have ht:∀b xs,HB X.K H1 b xs->HB X.K H' b xs:=λb xs h=>oi.out.same.IQ (h.cl (si own));have st:∀b,b=a∨b=dx∨b∈gi->¬F' b/\H' b=H1 b:=λb hb=>by
      obtain⟨_,u,hu,LK,n1⟩:=Wh b hb;refine⟨λz=>?_,(oi.out.same _ _ LK).trans hu.symm⟩;rcases oi.out.out b z with z|z
      ·exact n1 z
      ·rw[LK]at z;cases z
     obtain⟨fi',r1,r2⟩:=s4 F' H' hl ht (λb hb _ _=>st b (.inr (.inr hb))) _ Tt oi.m1;have mN:Gu X.K F' H' (.ref a) (.obj Δ c0 (fs.map (·.1)) (iM y (.obj Δ c' Kv K8) (fs.map (·.1)) ds)) (a::dx::fi'):=.Ju (st a (.inl rfl)).1 (st dx (.inr (.inl rfl))).1 ((st a (.inl rfl)).2.trans f4) ((st dx (.inr (.inl rfl))).2.trans f5) ⟨f6,rfl⟩ r1;have Wi:∀b∈a::dx::fi',(b=a∨b=dx∨b∈gi)∨b∈Tt:=λb hb=>by
      rcases l_.mp hb with z|z
      ·exact .inl (.inl z)
      ·rcases l_.mp z with z|z
       ·exact .inl (.inr (.inl z))
       ·exact(t_.mp (r2.mem_iff.mp z)).elim .inr λz=>.inl (.inr (.inr z))
     have Tu:∀b,b=a∨b=dx∨b∈gi->b∉Tt/\b∉fv:=λb hb=>by obtain⟨_,u,_,LK,_⟩:=Wh b hb;exact⟨λz=>(nomatch (oi.in1 b z).symm.trans LK),λz=>(nomatch (oi.out.new b z).symm.trans LK)⟩
     have YL:(a::dx::fi').Nodup:=by have Qs:fi'.Nodup:=r2.nodup_iff.mpr (g_.mpr ⟨(g_.mp oi.nd).2.1,(g_.mp LS).2.1,λb z1 b' z2 e=>(Tu b' (.inr (.inr z2))).1 (e ▸ z1)⟩);have out:∀b,b=a∨b=dx->b∉Nh->b∉fi':=λb hb hn z=>(t_.mp (r2.mem_iff.mp z)).elim (Tu b (hb.elim .inl λz=>.inr (.inl z))).1 λz=>hn (Tr b z);exact q_.mpr ⟨λz=>(l_.mp z).elim (λz=>Ts z.symm) (out a (.inl rfl) na),q_.mpr ⟨out dx (.inr rfl) Wg,Qs⟩⟩
     refine q4.ok v H' F' fv (a::dx::fi') a (λj a' ej e'=>?_) ⟨oi.out.G9,λb u e=>?_,oi.out.rep,oi.out.He,λb hb=>bn b (oi.out.new b hb),λb hb=>oi.out.HU b (m2.HU b hb),λb hb=>(oi.out.out b hb).elim (m2.out b) λz=>.inr (bn b z)⟩ mN (g_.mpr ⟨oi.out.He,YL,λb z1 b' z2 e=>?_⟩) λb hb=>?_
     ·have ej:G.io=Γ j:=ej;rw[LQ]at ej;cases ej;have NH:=m2.nm _ _ (so LQ) e';rw[a1]at NH;cases NH;rfl
     ·have hb:b∉fy:=λz=>by rw[bO b (.inr (.inr (Rl b z)))]at e;cases e
      exact oi.out.same b u (by rw[i6 hb];exact m2.same b u e)
     ·subst e;rcases Wi b z2 with z|z
      ·exact(Tu b z).2 z1
      ·exact(g_.mp oi.nd).2.2 b z1 b z rfl
     ·rcases Wi b hb with z|z
      ·exact bO b (z.elim .inl λz=>.inr (z.elim .inl λz=>.inr (Tr b z)))
      ·exact bn b (oi.in1 b z)
  |_=>exact q0.no.elim
end
section
variable {Z:Sg}{CX:II}{cl:Ä}{xp:XK->Hp->EX->Prop}{X:Cx}{ex:EX->Prop}{G:Gm}
def sv (g:Hc Z CX cl xp X ex G){j:Nat}{y:Str}{py:Pos}(hT:i8 G (.nm j) (.Name y py)=Δ):pinned G.pn j=Θ/\G.N[j]? = Γ y/\Loc X.env.scope y/\(X.fn y=Δ∨X.env.scope.names.lookup y=Γ .local):=by
 have KD:(G.N[j]? == Γ y&&(G.kd[j]? == Γ .local||(G.df&&G.kd[j]? == Γ .cell)))=Δ:=(aab.mp hT).1;have Ng:pinned G.pn j=Θ:=by simpa using(aab.mp hT).2
 rw[a_,L_,a_]at KD;have hy:G.N[j]? = Γ y:=f_ KD.1;have hk:=g.kd j y hy;exact⟨Ng,hy,KD.2.elim (λz=>.inl (hk.trans (f_ z))) λz=>.inr (hk.trans (f_ z.2)),KD.2.elim (λz=>.inr (hk.trans (f_ z))) λz=>.inl (g.df z.1 y)⟩
def yJ (g:Hc Z CX cl xp X ex G){j i f:Nat}{m c s y:Str}{py p ap G7 pos:Pos}{es:Ç}{args:Ü}(hT:i8 G (.nm j) (.Name y py)=Δ)(h1:i4 G i s=Δ)(Hm:(ap.endLine == G7.line)=Δ)(hlen:args.length < 29)(hf:(f,c,m)∈Z.Im)(Jc:c∈Z.HE)(Hq:G.cm=Δ)(Hb:iz Z G es args=Δ) :
  PS X (.Assign [.Name y py] (.Call (.Attribute (.Name s p) m ap) args [] G7) pos) (RS X.K G.pn ex (Hy cl (.Nw (Γ j) i f m c es))):=by
 obtain⟨Ng,hy,J8,Lp⟩:=sv g hT;refine iR (nk (i:=j) (by rw[g.N];exact g.He) (by rw[g.N];exact hy) J8 (pR g (j6 (pos:=p) g h1) rfl Hm hlen hf Jc Hq Hb) rfl Lp) λDn σ H Gz=>?_;obtain⟨B,F,τ,fo,fr,q⟩:=Gz;have q0:Gb ex (match dJ τ i with|some o=>Gn (iJ o&&jE c m o&&!(dI es).contains i) (FW (iq cl es τ) λds=>FW (Ia (cl f (o::Gr ds))) (ka (Γ j) i (Gy (dI es) τ)))|none=>Gq) (Fk X.K B Dn):=q;cases zs:dJ τ i with
 |none=>rw[zs]at q0;exact q0.no.elim
 |some o=>rw[zs]at q0;obtain⟨gd,q1⟩:=Gb.Gn q0;rw[a_,a_]at gd;refine pS (by simpa using gd.2) gd.1.1 gd.1.2 fr zs ((Gb.FW q1).mono λds hd=>?_);obtain⟨d,c',ks,K8,zc,q2⟩:=l7 (j:=0) (i:=0) l8 hd;refine⟨d,_,zc,λv H' F' fv g' mF mv nd hb=>?_⟩;obtain⟨f2,m3⟩:=mF.put j mv nd hb Ng;exact q2.ok _ _ _ _ m3
def yL (g:Hc Z CX cl xp X ex G){f:Nat}{m c:Str}{o:Expr}{ap pos:Pos}{ta:TE}(ha:PE X o ta)(hn:pI o=Δ)(Hm:(ap.endLine == pos.line)=Δ)(hf:(f,c,m)∈Z.JN)(Jc:c∈Z.HE)(Hq:G.cm=Δ) :
  PE X (.Call (.Attribute o m ap) [] [] pos) (λσ H Q=>ta σ H λv H0=>∃a C dx fs,v=.ref a/\Rd H0 a (.ins C dx fs)/\OC X.K c C/\fs.lookup m=Ξ/\NF X.K cl f 0 [.ref a,.Gx] H0 Q):=by
 obtain⟨k,MO,fd,ps,hm,hb,F,hr,hk,JQ⟩:=(g.JN f c m hf Hq).ex;intro pins s σ H Q I q;refine mJ (kK hn) (sd (Z:=Z) (G:=G) (es:=[]) rfl (by decide)) Hm (G5 (ha pins s σ H _ I q) λu s1 ⟨x,H1,I1,rx,a,C,dx,fs,Ov,ea,oc,l,q1⟩ pl=>?_);subst Ov;obtain rfl:u=η a:=rx;obtain⟨k1,_⟩:=g.KI c Jc C oc;have MP:=hm C oc;refine lH I1 ea k1 MP l ?_;exact PySem.W.callWith_K0 (first:=[.ref a]) I1.Ig MP.kp (pQ g (us:=[.ref a]) (vs:=[.ref a]) (uds:=[.none]) (dvs:=[.Gx]) F hr hk hb JQ I1 (.cons rfl .nil) (.cons rfl .nil) q1)
def Jp (g:Hc Z CX cl xp X ex G){j i f:Nat}{m c s y:Str}{py p ap G7 pos:Pos}(hT:i8 G (.nm j) (.Name y py)=Δ)(h1:i4 G i s=Δ)(Hm:(ap.endLine == G7.line)=Δ)(hf:(f,c,m)∈Z.JN)(Jc:c∈Z.HE)(Hq:G.cm=Δ) :
  PS X (.Assign [.Name y py] (.Call (.Attribute (.Name s p) m ap) [] [] G7) pos) (RS X.K G.pn ex (Hy cl (.LH j i f m c))):=by
 obtain⟨Ng,hy,J8,Lp⟩:=sv g hT;refine iR (nk (i:=j) (by rw[g.N];exact g.He) (by rw[g.N];exact hy) J8 (yL g (j6 (pos:=p) g h1) rfl Hm hf Jc Hq) rfl Lp) λDn σ H Gz=>?_;obtain⟨B,F,τ,fo,fr,q⟩:=Gz;have q0:Gb ex (match dJ τ i with|some o=>Gn (iJ o&&jE c m o) (FW (Ia (cl f [o,.Gx])) (ka (Γ j) i τ))|none=>Gq) (Fk X.K B Dn):=q;cases zs:dJ τ i with
 |none=>rw[zs]at q0;exact q0.no.elim
 |some o=>
  rw[zs]at q0;obtain⟨gd,q1⟩:=Gb.Gn q0;rw[a_]at gd;obtain⟨d,c1,ks1,es1,zc,q2⟩:=l7 (j:=0) (i:=0) (ds:=[.Gx]) l8 q1
  induction o using zD with
  |obj ow c' ks OD=>have Jx:ow=Δ:=gd.1;subst Jx;have Jy:(c == c'&&!ks.contains m)=Δ:=gd.2;rw[a_]at Jy;have e0:=f_ Jy.1;subst e0;obtain⟨a,C,dx,fs,fi,g',a1,a2,a3,a4,a5,a6,rfl,a8,a9,OI⟩:=jA fr.HA zs;obtain⟨v0,f0,g0,e4,m0,r0,p0⟩:=fr.HA.at zs;rw[a1]at e4;cases e4;refine⟨.ref a,a1,a,C,dx,fs,rfl,.inl a4,a6,jV m fs (by simpa using Jy.2),a,_,f0,F,[],[],[.Gx],[.Gx],rfl,rfl,rfl,⟨fr.G9,(g_.mp (p0.nodup_iff.mp fr.He)).1,m0,.cons .Gx .nil⟩,d,_,zc,λv H' F' fv f1 oi=>?_⟩;obtain⟨gx,mF,OJ,Qv⟩:=su fr a1 m0 r0 p0 oi;obtain⟨f2,m3⟩:=mF.put j oi.out.rep OJ Qv Ng;exact q2.ok _ _ _ _ m3
  |_=>exact dH gd.1
def yM (K:Frag)(ex:EX->Prop)(cl:Ä):Ç->TA->TA
 |[],t=>t
 |e::es,t=>jT (RD K ex (vars e) (Gs cl e)) (yM K ex cl es t)
theorem v7 (g:Hc Z CX cl xp X ex G){i:Nat}{es2:Ç}:∀(es:Ç) (args:Ü),pP Z G i es2 es args=Δ->PA X args (yM X.K ex cl es (jT (rk i) (RA X.K ex (dI es2) (iq cl es2))))
 |[],[],h=>by cases h
 |[],e::r,h=>by have h':(HN (λs=>i4 G i s) e&&iz Z G es2 r)=Δ:=h;rw[a_]at h';obtain⟨s,p,rfl,h1⟩:=iN h'.1;exact iF (j6 (pos:=p) g h1) (kQ es2 X ex G r g h'.2) (dM rfl _ _)
 |e::es,[],h=>by cases h
 |e::es,a::r,h=>by have h':(notStar a&&Gw Z G e a&&pP Z G i es2 es r)=Δ:=h;simp only[a_]at h';exact iF (snd e X ex G a g h'.1.2).1 (v7 g es r h'.2) (dM h'.1.1 _ _)
theorem Aa {i:Nat}{es2:Ç}:∀(es:Ç) (args:Ü),pP Z G i es2 es args=Δ->∃a r,args=a::r/\notStar a=Δ/\∀p env,(backTo p (Μ r env)).any (·.1)=Θ
 |[],[],h=>by cases h
 |[],e::r,h=>by have h':(HN (λs=>i4 G i s) e&&iz Z G es2 r)=Δ:=h;rw[a_]at h';obtain⟨s,p,rfl,h1⟩:=iN h'.1;exact⟨_,r,rfl,rfl,λp env=>iL Z G (es:=es2) p env h'.2⟩
 |e::es,[],h=>by cases h
 |e::es,a::r,h=>by have h':(notStar a&&Gw Z G e a&&pP Z G i es2 es r)=Δ:=h;simp only[a_]at h';obtain⟨b,r',rfl,n,k⟩:=Aa es r h'.2;refine⟨a,b::r',rfl,h'.1.1,λp env=>?_⟩;rw[dM n];show(Θ||(backTo p (Μ r' env)).any (·.1))=Θ;rw[k p env];rfl
def B0 (g:Hc Z CX cl xp X ex G){f p0 i:Nat}{x:Str}{p pos:Pos}{es es2:Ç}{args:Ü}(h1:jQ Z G f x=Δ)(hf:(f,p0)∈Z.JM)(Hq:G.cm=Δ)(Hb:pP Z G i es2 es args=Δ) :
  PE X (.Call (.Name x p) args [] pos) (λσ H Q=>yM X.K ex cl es (jT (rk i) (RA X.K ex (dI es2) (iq cl es2))) σ H λvs H1=>NF X.K cl f p0 vs H1 Q):=by
 obtain⟨k1,k2,k3,k4⟩:=o4 g h1;obtain⟨k,MO,fd,ps,⟨hm,Kp⟩,hb,F,hr,hk,hlen⟩:=(g.JM f p0 hf Hq x k2).ex;have pa:=v7 (i:=i) (es2:=es2) g es args Hb;obtain⟨a,r,rfl,n,ks⟩:=Aa es args Hb;intro pins s σ H Q I q;refine P_ (kJ I k1 hm ?_ k4);refine PySem.W.callWith_K (h₀:=X.base) I.ok.mod.MD Kp (G5 (pa pos pins s σ H _ I q) λus s1 ⟨vs,H1,I1,rr,q1⟩=>⟨I1.Ig,?_⟩) (dM n r X.env) (ks pos X.env);exact pQ g (uds:=[]) (dvs:=[]) F hr hk hb hlen I1 rr .nil (by rw[R_];exact q1)
theorem v8 {K:Frag}{S:Ψ->Prop}{H0:Hp}{σ:St}{τ:Ev}{t:TA}:∀(es:Ç) {H:Hp}{Kt:Ê->Prop}{Q:Ë->Hp->Prop},ip H0 H->Slots K S H0 σ τ (dI es)->Gb ex (iq cl es τ) Kt->
  (∀ds vs H',ip H0 H'->ip H H'->FZ K (nw S H0) H' vs ds->Kt ds->t σ H' λws H2=>Q (vs++ws) H2)->yM K ex cl es t σ H Q
 |[],H,Kt,Q,e,hs,q,k=>k [] [] H e (.refl _) .nil q.ok
 |e1::es,H,Kt,Q,e,hs,q,k=>by have q':Gb ex (FW (Gs cl e1 τ) λd=>FW (iq cl es τ) λds=>.ok (d::ds)) Kt:=q;refine iK e (Slots.left hs) (Gb.FW q') λd v H1 e2 HX m q1=>?_;exact v8 es e2 (Slots.right hs) (Gb.FW q1) λds vs H' f1 f2 ms q2=>k (d::ds) (v::vs) H' f1 (HX.trans f2) (.cons (m.mono (λ_ z=>z) f2) ms) q2.ok
theorem qO {τ:Ev}:∀(es:Ç) {ds:Ê},iq cl es τ=.ok ds->ds.length=es.length
 |[],_,h=>by cases h;rfl
 |e::es,ds,h=>by have h':FW (Gs cl e τ) (λd=>FW (iq cl es τ) λds=>.ok (d::ds))=.ok ds:=h;obtain⟨d,_,h1⟩:=jF h';obtain⟨ds',h2,h3⟩:=jF h1;cases h3;rw[List.length_cons,List.length_cons,qO es h2]
def J' (g:Hc Z CX cl xp X ex G){j i f:Nat}{x y:Str}{py p G7 pos:Pos}{es es2:Ç}{args:Ü}(hT:i8 G (.nm j) (.Name y py)=Δ)(h1:jQ Z G f x=Δ)(hf:(f,es.length)∈Z.JM)(Hq:G.cm=Δ)(Hb:pP Z G i es2 es args=Δ) :
  PS X (.Assign [.Name y py] (.Call (.Name x p) args [] G7) pos) (RS X.K G.pn ex (Hy cl (.Im j f es i es2))):=by
 obtain⟨Ng,hy,J8,Lp⟩:=sv g hT;refine iR (nk (i:=j) (by rw[g.N];exact g.He) (by rw[g.N];exact hy) J8 (B0 (p:=p) (pos:=G7) g h1 hf Hq Hb) rfl Lp) λDn σ H Gz=>?_;obtain⟨B,F,τ,fo,fr,q⟩:=Gz;have q0:Gb ex (match dJ τ i with|some o=>Gn (iJ o&&!(dI es++dI es2).contains i) (FW (iq cl es τ) λds=>FW (iq cl es2 τ) λKU=>FW (Ia (cl f (Gr ds++o::Gr KU))) (ka (Γ j) i (Gy (dI es++dI es2) τ)))|none=>Gq) (Fk X.K B Dn):=q;cases zs:dJ τ i with
 |none=>rw[zs]at q0;exact q0.no.elim
 |some o=>
  rw[zs]at q0;obtain⟨gd,q1⟩:=Gb.Gn q0;rw[a_]at gd;have Tn:(dI es++dI es2).contains i=Θ:=by simpa using gd.2
  obtain⟨F1,gg,b1,b2,b3,b4,b5,b6⟩:=jI (dI es++dI es2) fr.G9 fr.HA fr.He;have zf:dJ (Gy (dI es++dI es2) τ) i=Γ o:=(jX (dI es++dI es2) τ 0 i (by rw[Nat.zero_add];exact Tn)).trans zs
  induction o using zD with
  |obj ow c' ks OD=>
   have Jx:ow=Δ:=gd.1;subst Jx;obtain⟨a,C,dx,fs,fi,g',a1,_⟩:=jA b2 zf;refine v8 es (.refl _) (Slots.left b6) (Gb.eq (Gb.FW q1)) λds vs H1 e1 _ m1 Gz=>?_;obtain⟨Tv,q2⟩:=Gz;refine⟨.ref a,a1,kP e1 (Slots.right b6) (Gb.FW q2) λKU Wj H2 e2 Vz YM q3=>?_⟩;obtain⟨c1,c2,c3⟩:=grow (λ_=>True) b1 b2 e2;have m2:Hi X.K B (λb=>F1 b∨(True/\H b=Ξ/\H2 b≠Ξ)) H2 σ (Gy (dI es++dI es2) τ) gg:=fr.Je (b4.trans c3 (λx hx=>.inl (b5 x hx))) c1 c2 b3 λb hb=>.inl (b5 b hb);have hm:FZ X.K (λa=>F1 a∨(True/\H a=Ξ/\H2 a≠Ξ)) H2 (vs++Wj) (ds++KU):=((m1.later Vz).append YM).step (λa xs h r=>⟨h.elim (λz=>.inl z) λz=>.inr ⟨trivial,z,r.some⟩,r⟩) λa xs h=>h;generalize(λb=>F1 b∨(True/\H b=Ξ/\H2 b≠Ξ))=F2 at m2 hm c1 c2;obtain⟨v0,f0,g0,e4,m0,r0,p0⟩:=c2.at zf;rw[a1]at e4;cases e4;obtain⟨d,c3',Tw,Tx,zc,q4⟩:∃d c3 Tw Tx,cl f (Gr ds++D.obj Δ c' ks OD::Gr KU)=.ok (.tup [d,.obj Δ c3 Tw Tx])/\Gb ex (ka (Γ j) i (Gy (dI es++dI es2) τ) (.tup [d,.obj Δ c3 Tw Tx])) (Fk X.K B Dn):=by
    cases zc:cl f (Gr ds++D.obj Δ c' ks OD::Gr KU) with
    |error er=>rw[zc]at q3;exact q3.no.elim
    |ok rr=>
     rw[zc]at q3;have q5:Gb ex (ka (Γ j) i (Gy (dI es++dI es2) τ) rr) (Fk X.K B Dn):=q3;rcases l8 (j:=Γ j) (i:=i) (τ:=Gy (dI es++dI es2) τ) rr with⟨d,c,ks,es,rfl⟩|h
     ·exact⟨d,c,ks,es,rfl,q5⟩
     ·rw[h]at q5;exact q5.no.elim
   have hl:=qO es Tv;refine⟨a,_,f0,F2,vs,ds,Wj,KU,rfl,m1.length.trans hl,hl,⟨c1,(g_.mp (p0.nodup_iff.mp b3)).1,m0,hm⟩,d,_,zc,λv H' F' fv f1 oi=>?_⟩;obtain⟨gx,mF,OJ,Qv⟩:=su m2 a1 m0 r0 p0 oi;obtain⟨f2,m3⟩:=mF.put j oi.out.rep OJ Qv Ng;exact q4.ok _ _ _ _ m3
  |_=>exact dH gd.1
end
section
variable {Z:Sg}{CX:II}{cl:Ä}{xp:XK->Hp->EX->Prop}{X:Cx}{ex:EX->Prop}{G:Gm}
def v9 (g:Hc Z CX cl xp X ex G){f:Nat}{x:Str}{p pos:Pos}{e e':Expr}{t:TA}(h1:jQ Z G f x=Δ)(h2:Z.LY G f=Δ)(hs:notStar e=Δ)(Pc:notStar e'=Δ)(h:PA X [e,e'] t) :
  PE X (.Call (.Name x p) [e,e'] [] pos) (λσ H Q=>t σ H λvs H1=>Rg X.K ex cl f vs H1 Q):=by
 obtain⟨k1,k2,k3,k4⟩:=o4 g h1;obtain⟨k,MO,fd,ps,hm,Kp,hb,F,hr,hlen⟩:=(g.fns f (mI h2).1 (mI h2).2 x k2).ex;obtain⟨E,hP,hE⟩:=g.O7;intro pins s σ H Q I q;refine P_ (kJ I k1 hm ?_ k4);refine PySem.W.callWith_K (h₀:=X.base) I.ok.mod.MD Kp (G5 (h pos pins s σ H _ I q) λus s1 ⟨vs,H1,I1,r,q1⟩=>⟨I1.Ig,?_⟩) (dM hs [e'] X.env) (by rw[dM Pc [] X.env];rfl);obtain⟨Fc,ds,G9,m,q1⟩:=q1;have hl:=hlen ex _ _ q1;rw[iB]at hl;refine nc F hr hb hP g.MI I1 r (by rw[m.length];exact hl) G9 m ?_;cases z:cl f (Gr ds) with
 |error er=>
  rw[z]at q1;cases er with
  |stuck=>exact q1.no.elim
  |exc c=>exact hE c _ q1
 |ok d=>rw[z]at q1;exact q1.ok
def B2 {e:Expr}{te:TE}(h:PE X e te)(he:∀whole,isTrue e X.env whole=(do let v <- whole;standAt e.pos;holding [v] (truthy v))):PT X e (λσ H Q=>te σ H λx H1=>∃S d,Gk X.K S H1 x d/\Gb ex (iH d) λb=>Q b H1):=by intro pins s σ H Q I hw;exact isTrue_plain (G5 (h pins s σ H _ I hw) λv s1 ⟨x,H1,I1,r1,S,d,m,q⟩=>lT I1 r1 m q) (he _)
def Ka (g:Hc Z CX cl xp X ex G){i f f2:Nat}{m c s x:Str}{p ap G7 qp np up pos:Pos}{es:Ç}{e:IR}{args:Ü}{e2:Expr}{b:Æ}{body:Ö}(h1:i4 G i s=Δ)(Hm:(ap.endLine == G7.line)=Δ)(hlen:args.length < 29)(hf:(f,c,m)∈Z.Im)(Jc:c∈Z.HE)(Hq:G.cm=Δ)(Hb:iz Z G es args=Δ)
  (hg:jQ Z G f2 x=Δ) (YN:Z.LY G f2=Δ) (hs:notStar e2=Δ) (he:Gw Z G e e2=Δ) (hb:Ke X body (RS X.K G.pn ex (ix cl b))) :
  PS X (.If (.UnaryOp .Not (.Call (.Name x np) [.Call (.Attribute (.Name s p) m ap) args [] G7,e2] [] qp) up) body [] pos) (RS X.K G.pn ex (Hy cl (.Oo i f m c es f2 e b))):=by
 have pa:PA X [.Call (.Attribute (.Name s p) m ap) args [] G7,e2] _:=iF (pR g (j6 (pos:=p) g h1) rfl Hm hlen hf Jc Hq Hb) (iF (snd e X ex G e2 g he).1 jn (dM hs _ _)) (dM rfl _ _);refine iR (zJ (uK (B2 (ex:=ex) (v9 (p:=np) (pos:=qp) g hg YN rfl hs pa) λ_=>rfl)) hb sI) λDn σ H Gz=>?_;obtain⟨B,F,τ,fo,fr,q⟩:=Gz;have q0:Gb ex (match dJ τ i with|some o=>Gn (iJ o&&jE c m o&&!(dI es).contains i) (FW (iq cl es τ) λds=>FW (Ia (cl f (o::Gr ds))) (qB cl (ix cl b) i f2 e (Gy (dI es) τ)))|none=>Gq) (Fk X.K B Dn):=q;cases zs:dJ τ i with
 |none=>rw[zs]at q0;exact q0.no.elim
 |some o=>
  rw[zs]at q0;obtain⟨gd,q1⟩:=Gb.Gn q0;rw[a_,a_]at gd;refine pS (by simpa using gd.2) gd.1.1 gd.1.2 fr zs ((Gb.FW q1).mono λds hd=>?_)
  obtain⟨d,c',ks,K8,zc,q2⟩:=l7 (j:=0) (i:=0) (R:=qB cl (ix cl b) i f2 e (Gy (dI es) τ)) (λr=>by
   unfold qB;split
   ·exact .inl ⟨_,_,_,_,rfl⟩
   ·exact .inr rfl) hd
  refine⟨d,_,zc,λv H' F' fv g' mF mv nd hb=>?_⟩;obtain⟨gl,q3⟩:=Gb.Gn (show Gb ex (Gn (i0 d) (FW (Gs cl e ((Gy (dI es) τ).set i (Γ (.obj Δ c' ks K8)))) λy=>FW (cl f2 [er d,er y]) (vv (ix cl b) ((Gy (dI es) τ).set i (Γ (.obj Δ c' ks K8)))))) (Fk X.K B Dn) from q2);refine mF.rd (Gb.FW q3) λyd y H1 m1 e1 my q4=>?_;have YO:Gk X.K (λ_=>True) H1 v d:=((mv.read (S:=λ_=>True) (λ_ _=>trivial) λ_ _=>trivial)).mono (λ_ z=>z) e1;have mm:FZ X.K (λ_=>True) H1 [v,y] [d,yd]:=.cons YO (.cons (my.mono (λ_ _=>trivial) (.refl _)) .nil);refine⟨_,[d,yd],λa z=>z.2,mm.IW,(Gb.FW q4).mono λr hr v3 H3 F3 fv3 o3=>?_⟩;have m3:=m1.grow o3.same;refine⟨λ_=>True,r,o3.rep.read (λ_ _=>trivial) λ_ _=>trivial,(Gb.FW (show Gb ex (FW (iH r) λt=>if t=Δ then .ok (.nx ((Gy (dI es) τ).set i (Γ (.obj Δ c' ks K8)))) else ix cl b ((Gy (dI es) τ).set i (Γ (.obj Δ c' ks K8)))) (Fk X.K B Dn) from hr)).mono λt ht=>?_⟩
  induction t using zB with
  |true=>rw[d_ rfl]at ht;show(if(!Δ)=Δ then _ else _);rw[b_ (by decide)];exact ht.ok _ _ _ _ m3
  |false=>rw[b_ C_]at ht;show(if(!Θ)=Δ then _ else _);rw[d_ (show(!Θ)=Δ from rfl)];exact⟨B,F',_,g',m3,ht⟩
def Inv.Tz {pins:List (Ψ×Obj)}{σ:St}{H:Hp}{s:Ω}{d:Ψ}{xs:Ë}(I:Inv X pins σ H s)(e:H d=Γ (.lst xs)):∃(its:List Φ) (n:Nat),xs.length<=Ε/\Vals xs its/\Inv X pins σ (upd H d (.Gy {cls:=.type "list",data:=.seq its.toArray n} XU)) s/\∀o' u,X.Kh d≠Γ (.Gy o' u):=by
 obtain⟨hz,its,n,r,ho⟩:=I.G3 d _ e;refine⟨its,n,hz,r,?_,λo' u z=>by have:=I.base.HW d o' u z;rw[e]at this;cases this⟩;have ne:∀ {b:Ψ},H b=Ξ->b≠d:=λz y=>by rw[y,e]at z;cases z
 have un:Un X.fs [] H (upd H d (.Gy {cls:=.type "list",data:=.seq its.toArray n} XU)) s.heap s.heap:=⟨λb ob h n _ _=>h,λb ob h n _ _=>⟨ob.slots,h⟩,λb ob h n _=>by rw[dN (ne n)];exact n,λb ob h _=>⟨ob,h⟩,λb xs h=>by
  rw[dN (by rintro rfl;rw[e]at h;cases h)];exact h,λb o' u h=>by
  rw[dN (by rintro rfl;rw[e]at h;cases h)];exact h,λb ps h=>⟨#[],by
  rw[dN (by rintro rfl;rw[e]at h;cases h)];simpa using h⟩⟩
 refine(I.un (h':=s.heap) (t':=s.toks) un λb ob q=>?_);by_cases hb:b=d
 ·subst hb;rw[gk]at q;cases q;exact⟨ho,trivial,⟨_,ho⟩,λ_ _ _ _=>trivial⟩
 ·rw[dN hb]at q;exact(I.G3 b ob q).IK (λ_ _ _ z=>z) (λc z=>by rw[dN (by rintro rfl;rw[e]at z;cases z)];exact z) λc xs z=>by rw[dN (by rintro rfl;rw[e]at z;cases z)];exact z
def Inv.Qx {pins:List (Ψ×Obj)}{σ:St}{H:Hp}{s:Ω}{d:Ψ}{xs:Ë}{its:List Φ}{n:Nat}(I:Inv X pins σ H s)(e:H d=Γ (.Gy {cls:=.type "list",data:=.seq its.toArray n} XU)) (hz:xs.length<=Ε) (r:Vals xs its) (h0:∀o' u,X.Kh d≠Γ (.Gy o' u)):Inv X pins σ (upd H d (.lst xs)) s:=by
 have ne:∀ {b:Ψ},H b=Ξ->b≠d:=λz y=>by rw[y,e]at z;cases z
 refine⟨I.ok,I.os,I.bare,⟨I.base.keep,I.base.slot,λb ob h n hx=>by have:=I.base.free b ob h n hx;rw[dN (ne this)];exact this,I.base.there,λb xs h=>by
  have:=I.base.IL b xs h;rw[dN (by rintro rfl;rw[e]at this;cases this)];exact this,λb o' u h=>by
  have:=I.base.HW b o' u h
  rw[dN (by rintro rfl;exact h0 _ _ h)];exact this,λb ps h=>?_⟩,I.loc,I.cell,by rw[dN (ne I.free)];exact I.free,λx c h=>by have:=I.Io x c h;rw[dN (ne this)];exact this,λp hp=>by
  obtain⟨p1,p2,p3⟩:=I.pin p hp
  exact⟨p1,by rw[dN (ne p2)];exact p2,p3⟩,λb ob q=>?_,I.len⟩
 ·obtain⟨VZ,Qc⟩:=I.base.JC b ps h;refine⟨VZ,?_⟩;rw[dN (by rintro rfl;rw[e]at Qc;cases Qc)];exact Qc
 by_cases hb:b=d
 ·subst hb;rw[gk]at q;cases q;exact⟨hz,its,n,r,(I.G3 b _ e).1⟩
 ·rw[dN hb]at q;exact(I.G3 b ob q).IK (λ_ _ _ z=>z) (λc z=>by rw[dN (by rintro rfl;rw[e]at z;cases z)];exact z) λc xs z=>by rw[dN (by rintro rfl;rw[e]at z;cases z)];exact z
end
section
variable {K:Frag}{F F':Ψ->Prop}{H H':Hp}
def Gu.Kx (hl:∀a (u:LD),F a->Rd H a u.o->F' a/\Rd H' a u.o)(ht:∀a xs,HK K H a xs->HK K H' a xs){v:V}{d:D}{f:È}(k:∀a∈f,¬F a->H a≠Ξ->¬F' a/\H' a=H a)
  (h:Gu K F H v d f) (n:Jg d=Δ):Gu K F' H' v d f:=
 Gu.rec (motive_1:=λv d f _=>Jg d=Δ->(∀a∈f,¬F a->H a≠Ξ->¬F' a/\H' a=H a)->Gu K F' H' v d f) (motive_2:=λv d f _=>iY d=Δ->(∀a∈f,¬F a->H a≠Ξ->¬F' a/\H' a=H a)->Gj K F' H' v d f) (λ_ _=>.Gx) (λb _ _=>.bl b) (λb _ _=>.int b) (λb _ _=>.str b)
  (λ_ n _=>nomatch n) (λh1 _ i n k=>.tup (ht _ _ h1) (i n k)) (λh0 h1 _ i n _=>.JD (hl _ (.l _) h0 h1).1 (hl _ (.l _) h0 h1).2 (i n i3)) (λh1 _ i n _=>.lstK h1 (i n i3))
  (λh0 h1 _ i n k=>.HG (k _ (.head _) h0 (iE h1)).1 ((k _ (.head _) h0 (iE h1)).2.trans h1) (i n λb hb=>k b (.tail _ hb))) (λh0 h1 h2 _ i n _=>.Lz (hl _ (.d _) h0 h1).1 (hl _ (.d _) h0 h1).2 h2 (i n i3)) (λh0 h1 h2 _ i n k=>.Kr (k _ (.head _) h0 (iE h1)).1 ((k _ (.head _) h0 (iE h1)).2.trans h1) h2 (i n λb hb=>k b (.tail _ hb))) (λh0 h1 h2 _ i n _=>.LA (hl _ (.i _ _ _) h0 h1).1 (hl _ (.i _ _ _) h0 h1).2 h2 (i n i3)) (λh0 LC h1 I0 h2 _ i n k=>.Ju (k _ (.head _) h0 (iE h1)).1 (k _ (.tail _ (.head _)) LC (iE I0)).1 ((k _ (.head _) h0 (iE h1)).2.trans h1) ((k _ (.tail _ (.head _)) LC (iE I0)).2.trans I0) h2 (i n λb hb=>k b (.tail _ (.tail _ hb)))) (λ_ _=>.nil)
  (λ_ _ i j n k=>.cons (i (oz n).1 λa ha=>k a (j_ _ ha)) (j (oz n).2 λa ha=>k a (k_ _ ha))) h n k
theorem Hf.Kx (hl:∀a (u:LD),F a->Rd H a u.o->F' a/\Rd H' a u.o)(ht:∀a xs,HK K H a xs->HK K H' a xs):∀ {σ:St}{τ:Ev}{f:È},(∀a∈f,¬F a->H a≠Option.none->¬F' a/\H' a=H a)->Mf τ=Δ->Hf K F H σ τ f->Hf K F' H' σ τ f
 |_,_,_,_,_,.nil=>.nil
 |_,_,_,k,n,.none h=>.none (Hf.Kx hl ht k n h)
 |_,_,_,k,n,.some m h=>.some (m.Kx hl ht (λa ha=>k a (j_ _ ha)) (oz n).1) (Hf.Kx hl ht (λa ha=>k a (k_ _ ha)) (oz n).2 h)
end
def F6 {cl:Ä}{X:Cx}{ex:EX->Prop}{G:Gm}{k:Nat}{s:IS}{st:Stmt}(h:PS X st (RS X.K (G.io,k::G.ln) ex (Hy cl s))):PS X st (RS X.K G.pn ex (Hy cl (.Nx k s))):=by
 intro pins s0 σ H Dn I Gz;obtain⟨B,F,τ,f,m,q⟩:=Gz;have q0:Gb ex (yj k τ (Hy cl s) (dJ τ k)) (Fk X.K B Dn):=q;cases zs:dJ τ k with
 |none=>rw[zs]at q0;exact q0.no.elim
 |some d0=>
  rw[zs]at q0
  induction d0 using zD with
  |lst ow ds=>
   induction ow using zB with
   |false=>exact q0.no.elim
   |true=>
    have q1:Gb ex (match j9 ds with|some ns=>FW (Hy cl s (τ.set k (Γ (.exc ns)))) (vt k)|none=>Gq) (Fk X.K B Dn):=q0;cases zi:j9 ds with
    |none=>rw[zi]at q1;exact q1.no.elim
    |some ns=>
     rw[zi]at q1;have q2:=Gb.FW q1;have Tv:=nS zi;subst Tv;obtain⟨v,fs,g,h1,h2,h3,h4⟩:=m.HA.at zs;cases h2 with
     | @HG a xs _ fi hF hH hm=>
      have YQ:=(hm.read (S:=λ_=>True) (λ_ _=>trivial) λ_ _=>trivial).ints;subst YQ;obtain⟨its,n,hz,r,I1,h0⟩:=I.Tz hH;have Lk:((a::fi)++g).Nodup:=h4.nodup_iff.mp m.He;have ag:a∉g:=λz=>(g_.mp Lk).2.2 a (.head _) a z rfl;have aB:B.H a=Ξ:=m.own a (h4.mem_iff.mpr (j_ _ (.head _)));have nF:∀b,F b->b≠a:=λb hb z=>hF (z ▸ hb);have Wk:Cl H (upd H a (.Gy {cls:=.type "list",data:=.seq its.toArray n} XU)):=pB hH;have sl:∀b (u:LD),F b->Rd H b u.o->F b/\Rd (upd H a (.Gy {cls:=.type "list",data:=.seq its.toArray n} XU)) b u.o:=λb u hb rd=>by refine⟨hb,?_⟩;unfold Rd;rw[dN (nF b hb)];exact rd
      have r1:=h3.step sl (λb xs hx=>hx.cl Wk) λb hb nb _=>⟨nb,dN λz=>ag (z ▸ hb)⟩
      have mE:Gu X.K F (upd H a (.Gy {cls:=.type "list",data:=.seq its.toArray n} XU)) (.ref a) (.exc ns) []:=.exc ⟨hz,its,n,r,gk⟩;obtain⟨g',h',r2,p2⟩:=r1.put k mE;rw[set_same h1,List.set_set]at r2;have gs:∀b∈g',b∈g:=λb hb=>by simpa using p2.mem_iff.mp (j_ _ hb)
      have LP:g'.Nodup:=(g_.mp (p2.nodup_iff.mpr (by simpa using(g_.mp Lk).2.1))).1;let B1:Bs (G.io,k::G.ln):=⟨B.F,upd B.H a (.Gy {cls:=.type "list",data:=.seq its.toArray n} XU),B.L,B.T,λj=>if j=k then Γ a else B.N j⟩
      have m1:Hi X.K B1 F (upd H a (.Gy {cls:=.type "list",data:=.seq its.toArray n} XU)) σ (τ.set k (Γ (.exc ns))) g':=by
       refine⟨λb hb=>by rw[dN (nF b hb)];exact m.G9 b hb,r2,LP,λb u hu=>?_,λb hb=>?_,m.HU,λb hb=>?_,λb xs hb=>sl b xs (m.pin b xs hb).1 (m.pin b xs hb).2,λb xs hb=>(m.KJ b xs hb).cl Wk,λj a' e1 e2=>?_⟩
       ·by_cases hb:b=a
        ·subst hb;rw[show B1.H b=Γ _ from gk]at hu;rw[gk];exact hu
        ·rw[show B1.H b=B.H b from dN hb]at hu;rw[dN hb];exact m.same b u hu
       ·have YR:b≠a:=λz=>ag (z ▸ gs b hb);show upd B.H a _ b=Ξ;rw[dN YR];exact m.own b (h4.mem_iff.mpr (k_ _ (gs b hb)))
       ·refine(m.out b hb).elim .inl λz=>.inr ?_;show upd B.H a _ b=Ξ;rw[dN (nF b hb)];exact z
       ·have e2:(if j=k then Γ a else B.N j)=Γ a':=e2;by_cases hj:j=k
        ·rw[d_ hj]at e2;cases e2;rw[hj];exact h1
        ·rw[b_ hj]at e2;refine m.nm j a' ?_ e2;have e1:(G.io == Γ j||(k::G.ln).contains j)=Δ:=e1;show(G.io == Γ j||G.ln.contains j)=Δ;rw[List.contains_cons]at e1;simpa[hj] using e1
      refine G5 (h pins s0 σ _ {nx:=λG1 H'=>H' a=Γ (.Gy {cls:=.type "list",data:=.seq its.toArray n} XU)/\∃xs,xs.length<=Ε/\Vals xs its/\Dn.nx G1 (upd H' a (.lst xs)),rt:=λ_ _=>False} I1 ⟨B1,F,_,g',m1,q2.mono λfl Wl=>?_⟩) λfl s1 q3=>?_
      ·cases fl with
       |nx Gv=>
        intro G1 H' F2 f2 m2;have Mq:Gb ex (yi k Gv (dJ Gv k)) (Fk X.K B Dn):=Wl;cases zk:dJ Gv k with
        |none=>rw[zk]at Mq;exact Mq.no.elim
        |some dk=>
         rw[zk]at Mq
         induction dk using zD with
         |exc OK=>
          obtain⟨gn,q4⟩:=Gb.Gn (show Gb ex (Gn (Mf (Gv.set k Ξ)) (.ok (.nx (Gv.set k (Γ (.lst Δ (OK.map .int))))))) (Fk X.K B Dn) from Mq);have hA:H' a=Γ (.Gy {cls:=.type "list",data:=.seq its.toArray n} XU):=m2.same a _ (show upd B.H a _ a=_ from gk);obtain⟨v2,fx,g2,k1,k2,k3,k4⟩:=m2.HA.at zk;have OL:G1[k]? = Γ (Γ (.ref a)):=m2.nm k a (by show(G.io == Γ k||(k::G.ln).contains k)=Δ;simp) (d_ rfl);rw[OL]at k1;cases k1;cases k2 with
          |exc hx=>
           obtain⟨TB,its',n',r',Mo⟩:=hx;rw[hA]at Mo;have ei:its=its':=by have:=B_ Mo;injection this with t1 t2;injection t1 with u1 u2 u3 u4;injection u3 with w1 w2;exact congrArg Array.toList w1 |> λz=>by simpa using z
           subst ei;have Wm:¬F2 a:=λz=>by
            rcases m2.out a z with y|y
            ·exact hF (m.HU a y)
            ·rw[show B1.H a=Γ _ from gk]at y;cases y
           have ne2:∀b,F2 b->b≠a:=λb hb z=>Wm (z ▸ hb);have OM:∀b∈f2,b≠a/\B.H b=Ξ:=λb hb=>by
            have y:=m2.own b hb;by_cases e:b=a
            ·rw[e,show B1.H a=Γ _ from gk]at y;cases y
            ·rw[show B1.H b=B.H b from dN e]at y;exact⟨e,y⟩
           have TC:∀b∈g2,b∈f2:=λb hb=>k4.mem_iff.mpr (by simpa using hb);have Rc:∀b (u:LD),F2 b->Rd H' b u.o->F2 b/\Rd (upd H' a (.lst (OK.map .int))) b u.o:=λb u hb rd=>by refine⟨hb,?_⟩;unfold Rd;rw[dN (ne2 b hb)];exact rd
           have L7:∀b xs,HK X.K H' b xs->HK X.K (upd H' a (.lst (OK.map .int))) b xs:=λb xs hx=>hx.elim (λy=>.inl (by
            have:b≠a:=λz=>by subst z;rcases y with y|⟨o,y⟩<;>(rw[hA]at y;cases y)
            unfold Rd;rw[dN this]
            exact y)) .inr
           have r5:=k3.Kx Rc L7 (λb hb nb _=>⟨nb,dN (OM b (TC b hb)).1⟩) gn;have mL:Gu X.K F2 (upd H' a (.lst (OK.map .int))) (.ref a) (.lst Δ (OK.map .int)) (a::[]):=.HG Wm gk ((FZ.Il (K:=X.K) (S:=λ_=>True) (H:=upd H' a (.lst (OK.map .int))) OK).free (by rw[kq];simp[i0]));obtain⟨g3,h5,r6,p6⟩:=r5.put k mL;rw[set_same OL,List.set_set]at r6;have OJ:((a::[])++g2).Nodup:=by rw[aad,q_];exact⟨λz=>(OM a (TC a z)).1 rfl,(g_.mp (k4.nodup_iff.mp m2.He)).2.1⟩
           have YS:∀b∈g3,b=a∨b∈g2:=λb hb=>by simpa using p6.mem_iff.mp (j_ _ hb)
           refine⟨hA,_,TB,r',q4.ok G1 _ F2 g3 ⟨λb hb=>by rw[dN (ne2 b hb)];exact m2.G9 b hb,r6,(g_.mp (p6.nodup_iff.mpr OJ)).1,λb u hu=>?_,λb hb=>(YS b hb).elim (λz=>z ▸ aB) λz=>(OM b (TC b z)).2,m2.HU,λb hb=>?_,λb xs hb=>Rc b xs (m2.pin b xs hb).1 (m2.pin b xs hb).2,λb xs hb=>?_,λj a' e1 e2=>?_⟩⟩
           ·have hb:b≠a:=λz=>by rw[z,aB]at hu;cases hu
            rw[dN hb];exact m2.same b u (by show upd B.H a _ b=_;rw[dN hb];exact hu)
           ·refine(m2.out b hb).elim .inl λz=>.inr ?_;rw[show B1.H b=B.H b from dN (ne2 b hb)]at z;exact z
           ·have y:=m2.KJ b xs hb;cases xs with
            |inl xs=>exact L7 b xs y
            |inr c=>
             have Hn:b≠a:=λz=>by obtain⟨_,_,_,_,w⟩:=m.KJ b _ hb;rw[z,hH]at w;cases w
             obtain⟨w1,w2,w3,w4,w5⟩:=y;exact⟨w1,w2,w3,w4,by rw[dN Hn];exact w5⟩
           ·have e3:(G.io == Γ j||(k::G.ln).contains j)=Δ:=by have e1:(G.io == Γ j||G.ln.contains j)=Δ:=e1;rw[List.contains_cons];rw[L_]at e1 ⊢;exact e1.elim .inl λz=>.inr (by rw[z,Bool.or_true])
            by_cases hj:j=k
            ·have y:=m.nm j a' e1 e2;rw[hj,h1]at y;cases y;rw[hj];exact OL
            ·exact m2.nm j a' e3 (by show(if j=k then Γ a else B.N j)=Γ a';rw[b_ hj];exact e2)
         |_=>exact Mq.no.elim
       |_=>exact Wl.no.elim
      ·cases fl with
       |next=>obtain⟨MY,H1,I2,hA,xs,TB,r',q5⟩:=q3;exact⟨MY,_,I2.Qx hA TB r' h0,q5⟩
       |brk=>obtain⟨_,_,_,z⟩:=q3;exact z.elim
       |cont=>obtain⟨_,_,_,z⟩:=q3;exact z.elim
       |ret v=>obtain⟨_,_,_,_,_,z⟩:=q3;exact z.elim
  |_=>exact q0.no.elim
section
variable {Z:Sg}{CX:II}{cl:Ä}{xp:XK->Hp->EX->Prop}{X:Cx}{ex:EX->Prop}{G:Gm}
def j' (g:Hc Z CX cl xp X ex G){i:Nat}{k e:IR}{x:Str}{p sp pos:Pos}{s v:Expr}(h1:i4 G i x=Δ)(h2:iU s=Δ)(h3:Gw Z G k s=Δ)(h4:Gw Z G e v=Δ) :
  PS X (.Assign [.Subscript (.Name x p) s sp] v pos) (RS X.K G.pn ex (Hy cl (.IE i k e))):=by
 refine iR (uQ (MQ e Θ X ex G v g h4) (AV (j6 g h1) (snd k X ex G s g h3).1 set_list (by intro _;cases s<;>first|rfl|cases h2)) (by cases v<;>rfl) (by cases v<;>rfl) rfl) λDn σ H h=>?_;obtain⟨B,F,τ,f,m,q⟩:=h;refine m.ro (Gb.FW q) λp v H' F' fv f' o hp=>?_;obtain⟨m',hb⟩:=m.ow o;have Pf:Gb ex (match dJ p.2 i with|some (.lst Δ ds)=>(FW (Gs cl k p.2) λ|.int z=>(match JI ds.length z with|some j=>.ok (.nx (p.2.set i (Γ (.lst Δ (ds.set j p.1)))))|none=>Gq)|_=>Gq)|_=>Gq) (Fk X.K B Dn):=hp;cases zs:dJ p.2 i with
 |none=>rw[zs]at Pf;exact Pf.no.elim
 |some d=>
  rw[zs]at Pf
  induction d using zD with
  |lst ow ds=>
   induction ow using zB with
   |false=>exact Pf.no.elim
   |true=>
    obtain⟨l,xs,IJ,hl,hlen⟩:=v5 m'.HA zs;refine⟨.ref l,IJ,m'.rd (Gb.FW Pf) λy w H2 m2 e2 mw hy=>?_⟩
    induction y using zD with
    |int z=>
     cases mw.Ha;have ML:Gb ex (match JI ds.length z with|some j=>.ok (.nx (p.2.set i (Γ (.lst Δ (ds.set j p.1)))))|none=>Gq) (Fk X.K B Dn):=hy;cases hj:JI ds.length z with
     |none=>rw[hj]at ML;exact ML.no.elim
     |some j=>rw[hj]at ML;obtain⟨k1,k2,k3⟩:=kX m'.G9 m'.HA e2;have Wn:Gu X.K F' H2 v p.1 fv:=o.rep.Je k3 λa ha hb=>(g_.mp o.He).2.2 a ha a hb rfl;have MJ:H2 l=Γ (.lst xs):=e2 _ _ hl;obtain⟨Qm,m3⟩:=m2.write (ys:=xs.set j v) (ds':=ds.set j p.1) zs IJ MJ Wn o.He hb λfi hm=>hm.set Wn j;exact⟨l,xs,z,j,rfl,rfl,MJ,by rw[hlen];exact hj,ML.ok _ _ _ _ m3⟩
    |_=>exact hy.no.elim
  |_=>exact Pf.no.elim
def F7 (g:Hc Z CX cl xp X ex G)  (h1:i4 G i x=Δ)(h2:(apos.endLine == G7.line)=Δ)(h3:notStar v=Δ)(h4:Gw Z G e v=Δ) :
  PS X (.Expr (.Call (.Attribute (.Name x p) "append" apos) [v] [] G7) pos) (RS X.K G.pn ex (Hy cl (.app i e))):=by
 have pa:PA X [v] (jT (RO X.K ex (Ho cl Θ e)) qf):=iF (MQ e Θ X ex G v g h4) jn (dM h3 _ _);have Jt:((backTo G7 (Μ [v] X.env)).all (λx=>!x.1)&&(backToKw G7 (keywordEach [] X.env)).all (λx=>x.1.isSome)&&decide ([v].length+([]:List Keyword).length+(if([]:List Keyword).isEmpty then 0 else 1) < 30))=Δ:=by rw[dM h3];rfl
 refine iR (m4 (qj PySem.F.plainAttrs_list PySem.F.slot_list_append PySem.F.type_list_append mj (j6 g h1) pa rfl Jt h2 (dM h3 _ _) rfl)) λDn σ H h=>?_;obtain⟨B,F,τ,f,m,q⟩:=h;have q0:Gb ex (match dJ τ i with|some (.lst _ _)=>(FW (Ho cl Θ e τ) λp=>(match dJ p.2 i with|some (.lst Δ ds)=>Gn (ky ds.length) (.ok (.nx (p.2.set i (Γ (.lst Δ (ds++[p.1]))))))|_=>Gq))|_=>Gq) (Fk X.K B Dn):=q;cases z0:dJ τ i with
 |none=>rw[z0]at q0;exact q0.no.elim
 |some d0=>
  rw[z0]at q0
  induction d0 using zD with
  |lst o0 OD=>
   obtain⟨v0,fv0,g0,a1,a2,a3,a4⟩:=m.HA.at z0;have hq:∃l xs,v0=.ref l/\HJ X.K H l xs:=by
    cases a2 with
    |JD _ b1 _=>exact⟨_,_,rfl,.inl (.inl b1)⟩
    |lstK b1 _=>exact⟨_,_,rfl,b1.sq⟩
    |HG _ b1 _=>exact⟨_,_,rfl,.inl (.inl (.inl b1))⟩
   obtain⟨l,Tf,rfl,hq⟩:=hq;refine⟨.ref l,a1,.inl ⟨rfl,Tf,hq⟩,m.ro (Gb.FW q0) λp v H' F' fv f' o hp=>?_⟩;obtain⟨m',hb⟩:=m.ow o;cases zs:dJ p.2 i with
   |none=>rw[zs]at hp;exact hp.no.elim
   |some d=>
    rw[zs]at hp
    induction d using zD with
    |lst ow ds=>
     induction ow using zB with
     |false=>exact hp.no.elim
     |true=>obtain⟨gd,hp⟩:=Gb.Gn hp;obtain⟨l',xs,IJ,hl,hlen⟩:=v5 m'.HA zs;rw[a1]at IJ;cases IJ;obtain⟨Qm,m3⟩:=m'.write (ys:=xs++[v]) (ds':=ds++[p.1]) zs a1 hl o.rep o.He hb λfi hm=>hm.snoc o.rep;exact⟨l,xs,v,rfl,rfl,hl,by rw[hlen];exact pF gd,hp.ok _ _ _ _ m3⟩
    |_=>exact hp.no.elim
  |_=>exact q0.no.elim
def Fk.Qy {K:Frag}  (m:Hi K B F H σ τ f)(o:Ow K F H f F' H' σ v d fv Gv f'):Out K B.F B.H F' H' v d fv:=by obtain⟨m',hb⟩:=m.ow o;exact⟨m'.G9,m'.same,o.rep,(g_.mp o.He).1,hb,m'.HU,m'.out⟩
def F8 (g:Hc Z CX cl xp X ex G)  (h:Gw Z G e v=Δ):PS X (.Return (Γ v) pos) (RS X.K G.pn ex (Hy cl (.ret e))):=by refine iR (rl (MQ e Δ X ex G v g h)) λDn σ H Gz=>?_;obtain⟨B,F,τ,f,m,q⟩:=Gz;exact m.ro (Gb.FW q) λp v H' F' fv f' o hp=>hp.ok _ _ _ _ (Fk.Qy m o)
def F9 (g:Hc Z CX cl xp X ex G)  (hc:pN v=Δ)(h:Gw Z G e v=Δ):PS X (.Expr v pos) (RS X.K G.pn ex (Hy cl (.exp e))):=by refine iR (m4 (snd e X ex G v g h).1 (by induction v using zE<;>first|rfl|cases hc)) λDn σ H Gz=>?_;obtain⟨B,F,τ,f,m,q⟩:=Gz;exact m.rd (Gb.FW q) λd v H' m' _ _ hd=>hd.ok _ _ _ _ m'
def Gi (hc:PT X c (RT X.K ex (vars t) λτ=>FW (Gs cl t τ) iH))(ha:Ke X x (RS X.K G.pn ex (ix cl a)))(hb:Ke X y (RS X.K G.pn ex (ix cl b))):PS X (.If c x y pos) (RS X.K G.pn ex (Hy cl (.Hl t a b))):=by
 refine iR (zJ hc ha hb) λDn σ H Gz=>?_;obtain⟨B,F,τ,f,m,q⟩:=Gz;refine m.rt (Gb.FW q) λr H' m' _ hr=>?_
 induction r using zB with
 |true=>rw[d_ rfl]at hr ⊢;exact⟨B,F,τ,f,m',hr⟩
 |false=>rw[b_ C_]at hr ⊢;exact⟨B,F,τ,f,m',hr⟩
def FV (g:Hc Z CX cl xp X ex G)(Qz:G.rs=Δ){c:Expr}{x:Ö}{pos:Pos}{t:IR}{a:Æ}(hc:PT X c (RT X.K ex (vars t) λτ=>FW (Gs cl t τ) iH))(ha:Ke X x (RS X.K G.pn ex (ix cl a))):PS X (.While c x [] pos) (RS X.K G.pn ex (Hy cl (.Iu t a))):=by
 refine iR (uR (g.own Qz) hc ha) λDn σ H Gz=>?_;obtain⟨B,F,τ,f,m,q⟩:=Gz;refine⟨λn σ H=>∃F τ f,Hi X.K B F H σ τ f/\Gb ex (i5 (KH cl t) (ix cl a) n τ) (Fk X.K B Dn),⟨oT,F,τ,f,m,q⟩,?_⟩;rintro n σ H ⟨F,τ,f,m,q⟩;cases n with
 |zero=>exact q.no.elim
 |succ n=>
  refine m.rt (Gb.FW q) λr H' m' _ hr=>?_
  induction r using zB with
  |false=>rw[b_ C_]at hr ⊢;exact hr.ok _ _ _ _ m'
  |true=>
   rw[d_ rfl]at hr ⊢;refine⟨λσ H=>∃F τ f,Hi X.K B F H σ τ f/\Gb ex (i5 (KH cl t) (ix cl a) n τ) (Fk X.K B Dn),λG1 H' h=>⟨n,Nat.lt_succ_self n,h⟩,B,F,τ,f,m',(Gb.FW hr).mono λr hr=>?_⟩;cases r with
   |nx Gv=>exact λG1 H' F' f' K2=>⟨F',Gv,f',K2,hr⟩
   |ct Gv=>exact λG1 H' F' f' K2=>⟨F',Gv,f',K2,hr⟩
   |bk Gv=>exact λG1 H' F' f' K2=>hr.ok _ _ _ _ K2
   |rt d=>exact λv H' F' fv o=>hr.ok _ _ _ _ o
   |ri d ks es=>exact hr.ok
   |ro d o=>exact hr.ok
def Hi.less {K:Frag}{io:PN}{B:Bs io}{L:Ψ->LD->Prop}{T:Ψ->Ë ⊕ EX->Prop}{F:Ψ->Prop}{H:Hp}{σ:St}{τ:Ev}{f:È}(m:Hi K (⟨B.F,B.H,λa xs=>B.L a xs∨L a xs,λa xs=>B.T a xs∨T a xs,B.N⟩:Bs io) F H σ τ f):Hi K B F H σ τ f:=
 ⟨m.G9,m.HA,m.He,m.same,m.own,m.HU,m.out,λa xs h=>m.pin a xs (.inl h),λa xs h=>m.KJ a xs (.inl h),m.nm⟩
def qP:∀(ds:Ê) (i:Nat),(Gr ds).drop i=Gr (ds.drop i):=by intro ds i;rw[jv,jv,List.map_drop]
def l9 {J:It}{K:Frag}{io:PN}{B:Bs io}{F:Ψ->Prop}{H:Hp}{σ:St}{τ:Ev}{f:È}{T:Tg}{body:Æ}{its:Ê}{Dn:Ends}(LQ:∀j∈Jw T,pinned io j=Θ)(m:Hi K B F H σ τ f)(w:Jb K F H J its)
  (q:Gb ex (forM (λx τ=>FW (jo T x τ) λGv=>ix cl body Gv) (Gr its) τ) (Fk K B Dn)) :
  ∃W:Nat->Nat->St->Hp->Prop,(∃m,W 0 m σ H)/\∀i m σ H,W i m σ H->(J.stop i H/\Dn.nx σ H)∨(J.go i H/\∃N:St->Hp->Prop,(∀G1 H',N G1 H'->∃m',m' < m/\W (i+1) m' G1 H')/\
   ∀x H',J.MZ i H x H'->gT K T x σ H' λKj H2=>RS K io ex (ix cl body) {Dn with nx:=N,ct:=N,bk:=Dn.nx} Kj H2):=by
 let B':Bs io:=⟨B.F,B.H,λa xs=>B.L a xs∨(F a/\Rd H a xs.o),λa xs=>B.T a xs∨HB K H a xs,B.N⟩
 have m0:Hi K B' F H σ τ f:=⟨m.G9,m.HA,m.He,m.same,m.own,m.HU,m.out,λa xs h=>h.elim (m.pin a xs) id,λa xs h=>h.elim (m.KJ a xs) id,m.nm⟩
 let bd:D->Ev->Res Fl:=λx τ=>FW (jo T x τ) λGv=>ix cl body Gv;refine⟨λi n σ H=>n=its.length - i/\i<=its.length/\∃F τ f,Hi K B' F H σ τ f/\Gb ex (forM bd ((Gr its).drop i) τ) (Fk K B Dn),⟨its.length,by simp,Y_ _,F,τ,f,m0,by rw[List.drop_zero];exact q⟩,?_⟩;rintro i n MY H1 ⟨rfl,hi,F1,Ny,f1,m1,q1⟩;have w1:Jb K F1 H1 J its:=w.step (λa xs h r=>m1.pin a xs (.inr ⟨h,r⟩)) λa xs h=>m1.KJ a xs (.inr h);by_cases HY:i < its.length
 ·refine .inr ⟨w1.go HY,λσ H=>∃F τ f,Hi K B' F H σ τ f/\Gb ex (forM bd ((Gr its).drop (i+1)) τ) (Fk K B Dn),λG1 H' h=>⟨its.length - (i+1),by omega,rfl,HY,h⟩,λx H' y=>?_⟩;obtain⟨eH,mx⟩:=w1.MZ y (d:=its[i]) (by simp[HY]);have m1:=m1.grow eH;have hd:(Gr its).drop i=er its[i]::(Gr its).drop (i+1):=by rw[qP,List.drop_eq_getElem_cons HY,Gr,qP]
  rw[hd]at q1;have q2:=Gb.FW q1;refine m1.gT mx.frozen (by simpa using m1.He) (λa ha=>absurd ha (by simp)) LQ (Gb.FW q2) λGv G1 f' m' h'=>?_;refine⟨B',F1,Gv,f',m',h'.mono λr hr=>?_⟩;cases r with
  |nx Gv=>exact λG1 H' F' f' K2=>⟨F',Gv,f',K2,hr⟩
  |ct Gv=>exact λG1 H' F' f' K2=>⟨F',Gv,f',K2,hr⟩
  |bk Gv=>exact λG1 H' F' f' K2=>hr.ok _ _ _ _ K2.less
  |rt d=>exact λv H' F' fv o=>hr.ok _ _ _ _ o
  |ri d ks es=>exact hr.ok
  |ro d o=>exact hr.ok
 ·have e:i=its.length:=by omega
  subst e;refine .inl ⟨w1.stop rfl,?_⟩;have:(Gr its).drop its.length=[]:=by rw[<- iB its,List.drop_length]
  rw[this]at q1;exact q1.ok _ _ _ _ m1.less
def pT (a b:Int):Gr (iW a b)=iW a b:=by unfold iW;rw[jv,V_];rfl
abbrev Ab (cl:Ä):Sr->Ev->Res (Int×Int)
 |.Hj n,τ=>FW (Gs cl n τ) λ|.int i=>Gn (jk i) (.ok (0,i))|_=>Gq
 |.IV a b,τ=>FW (Gs cl a τ) λx=>FW (Gs cl b τ) λy=>match x,y with|.int i,.int j=>Gn (jk i&&jk j) (.ok (i,j))|_,_=>Gq
 |_,_=>Gq
def YT (K:Frag)(ex:EX->Prop)(is:Ã)(f:Ev->Res (Int×Int)):TI:=λσ H R=>∃S τ,Slots K S H σ τ is/\Gb ex (f τ) λp=>∀H',ip H H'->R (OY p.1 (p.2 - p.1).toNat) H'
abbrev wa:Sr->Bool
 |.Hj _=>Δ
 |.IV _ _=>Δ
 |_=>Θ
def wb (h:wa s=Δ)  (q:Gb ex (kB cl s τ) k):Gb ex (Ab cl s τ) λp=>k (iW p.1 p.2):=by
 cases s with
 |Hj n=>
  refine Gb.mk ((Gb.FW (show Gb ex (FW (Gs cl n τ) λ|.int i=>Gn (jk i) (.ok (iW 0 i))|_=>Gq) k from q)).mono λd hd=>?_)
  induction d using zD with
  |int i=>obtain⟨gd,hd⟩:=Gb.Gn hd;show Gb ex (Gn (jk i) (.ok (0,i))) _;unfold Gn;rw[d_ gd];exact hd.ok
  |_=>exact hd.no.elim
 |IV a b=>
  refine Gb.mk ((Gb.FW (show Gb ex (FW (Gs cl a τ) λx=>FW (Gs cl b τ) λy=>match x,y with|.int i,.int j=>Gn (jk i&&jk j) (.ok (iW i j))|_,_=>Gq) k from q)).mono λd hd=>Gb.mk ((Gb.FW hd).mono λe he=>?_))
  induction d using zD with
  |int i=>
   induction e using zD with
   |int j=>obtain⟨gd,he⟩:=Gb.Gn he;show Gb ex (Gn (jk i&&jk j) (.ok (i,j))) _;unfold Gn;rw[d_ gd];exact he.ok
   |_=>exact he.no.elim
  |_=>induction e using zD<;>exact he.no.elim
 |_=>exists h
def Fy:∀(s:Sr) (X:Cx) (ex:EX->Prop) (G:Gm) (e tg:Expr),Hc Z CX cl xp X ex G->j5 Z G s e=Δ->wa s=Δ->PI X tg e (YT X.K ex (lO s) (Ab cl s)):=by
 intro s X ex G e tg g h hr;cases s with
 |Hj n=>
  induction e using zE with
  |Call fn args Iq pos=>
   induction fn using zE with
   |Name x p=>
    match args,Iq,h with
    |[a],[],h=>
     have h':(x == "range"&&G.gl.contains 15&&notStar a&&Gw Z G n a)=Δ:=h;simp only[a_]at h';have e1:x = "range":=f_ h'.1.1.1;subst e1;obtain⟨k1,k2,_,_⟩:=ja g (show iD[15]? = Γ ("range" : Str) from rfl) h'.1.1.2;refine nv (oH k1 k2 (iF (snd n X ex G a g h'.2).1 jn (dM h'.1.2 _ _)) (dM h'.1.2 _ _)) λσ H Q Gz=>?_;obtain⟨S,τ,hs,q⟩:=Gz;refine iK (.refl _) hs (Gb.FW q) λx v H1 e1 _ m1 q1=>?_
     induction x using zD with
     |int i=>cases m1.Ha;obtain⟨gd,q1⟩:=Gb.Gn q1;have LM : -(2 ^ 62)<=i/\i < 2 ^ 62:=p_ gd;refine⟨i,rfl,LM.1,LM.2,?_⟩;have:=q1.ok _ e1;rw[show(0,i).2 - (0,i).1=i from Int.sub_zero i]at this;exact this
     |_=>exact q1.no.elim
    |[],_,h=>exists h
    |[_],_::_,h=>exists h
    |_::_::_,_,h=>exists h
   |_=>exists h
  |_=>exists h
 |IV a b=>
  induction e using zE with
  |Call fn args Iq pos=>
   induction fn using zE with
   |Name x p=>
    match args,Iq,h with
    |[l,r],[],h=>
     have h':(x == "range"&&G.gl.contains 15&&notStar l&&notStar r&&Gw Z G a l&&Gw Z G b r)=Δ:=h;simp only[a_]at h';have e1:x = "range":=f_ h'.1.1.1.1.1;subst e1;obtain⟨k1,k2,_,_⟩:=ja g (show iD[15]? = Γ ("range" : Str) from rfl) h'.1.1.1.1.2;have hn:=h'.1.1.1.2;have JU:=h'.1.1.2;refine nv (oI k1 k2 (iF (snd a X ex G l g h'.1.2).1 (iF (snd b X ex G r g h'.2).1 jn (dM JU _ _)) (dM hn _ _)) (by rw[dM hn,dM JU];rfl) (dM JU _ _)) λσ H Q Gz=>?_;obtain⟨S,τ,hs,q⟩:=Gz;refine iK (.refl _) hs.left (Gb.FW q) λx v H1 e1 _ m1 q1=>?_;refine iK e1 hs.right (Gb.FW q1) λy w H2 e2 HX m2 q2=>?_
     induction x using zD with
     |int i=>
      induction y using zD with
      |int j=>cases m1.Ha;cases m2.Ha;obtain⟨gd,q2⟩:=Gb.Gn q2;rw[a_]at gd;have g1 : -(2 ^ 62)<=i/\i < 2 ^ 62:=p_ gd.1;have g2 : -(2 ^ 62)<=j/\j < 2 ^ 62:=p_ gd.2;exact⟨i,j,rfl,⟨g1.1,g1.2,g2.1,g2.2⟩,q2.ok _ e2⟩
      |_=>exact q2.no.elim
     |_=>induction y using zD<;>exact q2.no.elim
    |[],_,h=>exists h
    |[_],_,h=>exists h
    |[_,_],_::_,h=>exists h
    |_::_::_::_,_,h=>exists h
   |_=>exists h
  |_=>exists h
 |_=>cases hr
def Ga (g:Hc Z CX cl xp X ex G)  {T:Tg}  (Nu:(G.cm=Δ/\G.rs=Δ)/\i8 G T t=Δ)(Pc:j5 Z G s it=Δ/\mY s t=Δ)(ha:Ke X x (RS X.K G.pn ex (ix cl a))):PS X (.For t it x [] pos) (RS X.K G.pn ex (Hy cl (.HR T s a))):=by
 have hT:=Nu.2;have hs:=Pc.1;by_cases hr:wa s=Δ
 ·refine iR (rA (g.own Nu.1.2) (g.calm Nu.1.1) (Fy s X ex G it t g hs hr) (ND g T t hT) ha (λx=>jW hs X.env x)) λDn σ H Gz=>?_;obtain⟨B,F,τ,f,m,q⟩:=Gz;have q0:Gb ex (FW (qy cl s τ) λp=>forM (λx τ=>FW (jo T x τ) λGv=>ix cl a Gv) p.1 p.2) (Fk X.K B Dn):=q;have base:Gb ex (kB cl s τ) λits=>Gb ex (forM (λx τ=>FW (jo T x τ) λGv=>ix cl a Gv) its τ) (Fk X.K B Dn):=by
   cases s with
   |Hj u=>exact(Gb.FW (show Gb ex (FW (kB cl (.Hj u) τ) λits=>.ok (its,τ)) _ from Gb.FW q0)).mono λits h=>h.ok
   |IV u v=>exact(Gb.FW (show Gb ex (FW (kB cl (.IV u v) τ) λits=>.ok (its,τ)) _ from Gb.FW q0)).mono λits h=>h.ok
   |_=>cases hr
  exact⟨λ_=>True,τ,i9 m.HA,(wb hr base).mono λp hp H1 e1=>l9 (kx T t hT) (m.grow e1) (.Ln p.1 p.2) (by rw[pT];exact hp)⟩
 ·refine iR (rA (g.own Nu.1.2) (g.calm Nu.1.1) (yF s X ex G it t g hs Pc.2) (ND g T t hT) ha (λx=>jW hs X.env x)) λDn σ H Gz=>?_;obtain⟨B,F,τ,f,m,q⟩:=Gz;have q0:Gb ex (FW (qy cl s τ) λp=>forM (λx τ=>FW (jo T x τ) λGv=>ix cl a Gv) p.1 p.2) (Fk X.K B Dn):=q;have q1:=Gb.FW q0;have TF:qy cl s τ=(FW (kB cl s τ) λits=>.ok (Gr its,Gy (lO s) τ)):=by
   cases s with
   |val u=>rfl
   |J4 u=>rfl
   |_=>exact absurd rfl hr
  rw[TF]at q1;obtain⟨F1,gg,b1,b2,b3,b4,b5,b6⟩:=jI (lO s) m.G9 m.HA m.He;refine DM (.refl _) b6 (Gb.FW q1) λits J H1 e1 _ w1 hk=>?_;obtain⟨c1,c2,c3⟩:=grow (λ_=>True) b1 b2 e1;have m2:Hi X.K B (λa=>F1 a∨(True/\H a=Ξ/\H1 a≠Ξ)) H1 σ (Gy (lO s) τ) gg:=m.Je (b4.trans c3 (λx hx=>.inl (b5 x hx))) c1 c2 b3 λa ha=>.inl (b5 a ha);exact l9 (kx T t hT) m2 (w1.step (λa xs h r=>⟨h.elim (λz=>.inl z) λz=>.inr ⟨trivial,z,r.some⟩,r⟩) λa xs h=>h) hk.ok
def Jq (g:Hc Z CX cl xp X ex G){es:Ü}{c0 j i:Nat}{tp yp zp ap cp kp G7 pos:Pos}{z x:Str}{cs:Â}{T:Tg}{b:Ö}{a:Æ}(Hq:G.cm=Δ)(Qz:G.rs=Δ)(hT:i8 G T (.Tuple es c0 tp)=Δ)(O9:G.gl.contains 20=Δ)(h1:i4 G i z=Δ)(hx:Z.JF.contains x=Δ)(hc:cs.all (λc=>Z.HE.contains c)=Δ)(ha:Ke X b (RS X.K G.pn ex (ix cl a))) :
  PS X (.For (.Tuple es c0 tp) (.Call (.Name "enumerate" yp) [.Attribute (.Name z zp) x ap] [⟨Γ "start",.Constant (.int 1) j cp,kp⟩] G7) b [] pos) (RS X.K G.pn ex (Hy cl (.LJ T i x cs a))):=by
 obtain⟨k1,k2,_,_⟩:=ja g (show iD[20]? = Γ ("enumerate" : Str) from rfl) O9;refine iR (rA (g.own Qz) (g.calm Hq) (vj k1 k2 (iF (lX (f:=x) (pos:=ap) (j6 (pos:=zp) g h1) rfl) jn rfl) rfl) (ND g T _ hT) ha (λ_=>rfl)) λDn σ H Gz=>?_;obtain⟨B,F,τ,f,m,q⟩:=Gz;have q0:Gb ex (match dJ τ i with|some (.obj Δ c ks ds)=>Gn (cs.contains c) (match iw ks ds x with|some (.lst Θ es)=>forM (λx τ=>FW (jo T x τ) λGv=>ix cl a Gv) (Gr (jL es)) τ|_=>Gq)|_=>Gq) (Fk X.K B Dn):=q;cases z0:dJ τ i with
 |none=>rw[z0]at q0;exact q0.no.elim
 |some d0=>
  rw[z0]at q0
  induction d0 using zD with
  |obj ow c ks ds=>
   induction ow using zB with
   |false=>exact q0.no.elim
   |true=>
    obtain⟨gd,q1⟩:=Gb.Gn q0;obtain⟨a',C,dx,fs,fi,g',a1,a2,a3,a4,a5,a6,rfl,a8,a9,OI⟩:=jA m.HA z0;have Jc:c∈Z.HE:=List.contains_iff_mem.mp (I_.mp hc c (List.contains_iff_mem.mp gd));obtain⟨n1,n2⟩:=g.KI c Jc C a6;cases zl:iw (fs.map (·.1)) ds x with
    |none=>rw[zl]at q1;exact q1.no.elim
    |some dl=>
     rw[zl]at q1
     induction dl using zD with
     |lst o K8=>
      induction o using zB with
      |true=>exact q1.no.elim
      |false=>
       obtain⟨v0,fx,l1,l2,_⟩:=jS x fs a8 _ zl;have q2:Gb ex (forM (λx τ=>FW (jo T x τ) λGv=>ix cl a Gv) (Gr (jL K8)) τ) (Fk X.K B Dn):=q1;have nl:∀b∈([]:È),F b:=λ_ h=>nomatch h;cases l2 with
       |JD b1 b2 b3=>exact⟨.ref a',a1,a',C,dx,fs,_,rfl,.inl a4,n1,n2 x (List.contains_iff_mem.mp hx),l1,_,_,rfl,.inl (.inl b2),l9 (kx T _ hT) m (.KW (.inl ⟨b1,b2⟩) (b3.read (λ_ z=>z) nl)) q2⟩
       |lstK b1 b3=>exact⟨.ref a',a1,a',C,dx,fs,_,rfl,.inl a4,n1,n2 x (List.contains_iff_mem.mp hx),l1,_,_,rfl,b1.sq,l9 (kx T _ hT) m (.KW (.inr (.inl b1)) (b3.read (λ_ z=>z) nl)) q2⟩
     |_=>exact q1.no.elim
  |_=>exact q0.no.elim
def B3 {k:Nat}(g:Hc Z CX cl xp X ex G):Hc Z CX cl xp X ex {G with ln:=k::G.ln}:=⟨g.N,g.He,g.calm,g.fk,g.un,g.own,g.kd,g.Mm,g.gl,g.Nc,g.df,g.blt,g.cst,g.fns,g.Im,g.JM,g.JN,g.fmt,g.Mn,g.KI,g.O7,g.MI,g.P8⟩
mutual
theorem Wo:∀(a:IS) (X:Cx) (ex:EX->Prop) (G:Gm) (s:Stmt),Hc Z CX cl xp X ex G->vY Z G a s=Δ->PS X s (RS X.K G.pn ex (Hy cl a))
 |.asg tg e,X,ex,G,s,g,h=>by
  induction s using zS with
  |Assign ts v pos=>
   match ts,h with
   |[t],h=>have h':(i8 G tg t&&Gw Z G e v&&(isName t||(isTup t&&notTuple v)))=Δ:=h;simp only[a_]at h';exact F5 g h'.1.1 h'.1.2 h'.2
   |[],h=>exists h
   |_::_::_,h=>exists h
  |_=>exists h
 |.IE i k e,X,ex,G,s,g,h=>by
  have h:LR s (λts v=>Jk ts λt=>Qn t λo ke=>iU ke&&Gw Z G k ke&&Gw Z G e v&&HN (λx=>i4 G i x) o)=Δ:=by induction s using zS<;>exact h
  obtain⟨ts,v,p,rfl,h1⟩:=mO h;obtain⟨t,rfl,h2⟩:=jG h1;obtain⟨o,ke,sp,rfl,h3⟩:=vV h2;simp only[a_]at h3;obtain⟨x,xp,rfl,h4⟩:=iN h3.2;exact j' g h4 h3.1.1.1 h3.1.1.2 h3.1.2
 |.LH j i f m c,X,ex,G,s,g,h=>by
  have h:LR s (λts v=>Jk ts λt=>isName t&&i8 G (.nm j) t&&IG v λfe as cp=>as.isEmpty&&JO fe λo n ap=>n == m&&ap.endLine == cp.line&&Z.JN.contains (f,c,m)&&(Z.HE.contains c&&G.cm)&&HN (λz=>i4 G i z) o)=Δ:=by induction s using zS<;>exact h
  obtain⟨ts,v,p,rfl,h1⟩:=mO h;obtain⟨t,rfl,h2⟩:=jG h1;rw[a_,a_]at h2;obtain⟨fe,as,cp,rfl,h3⟩:=jc h2.2;rw[a_]at h3;obtain⟨o,n,ap,rfl,h4⟩:=kb h3.2;simp only[a_]at h4;obtain⟨⟨⟨⟨e1,hl⟩,hf⟩,hc,Hq⟩,ho⟩:=h4;obtain⟨z,zp,rfl,h6⟩:=iN ho;have e1:=f_ e1;subst e1
  induction as using zL with
  |cons _ _=>exact dH h3.1
  |nil=>
   induction t using zE with
   |Name y py=>exact Jp g h2.1.2 h6 hl (List.contains_iff_mem.mp hf) (List.contains_iff_mem.mp hc) Hq
   |_=>exact dH h2.1.1
 |.Im j f es i es2,X,ex,G,s,g,h=>by
  have h:LR s (λts v=>Jk ts λt=>isName t&&i8 G (.nm j) t&&IG v λfe as _=>HN (λx=>jQ Z G f x&&Z.JM.contains (f,es.length)&&G.cm&&pP Z G i es2 es as) fe)=Δ:=by induction s using zS<;>exact h
  obtain⟨ts,v,p,rfl,h1⟩:=mO h;obtain⟨t,rfl,h2⟩:=jG h1;rw[a_,a_]at h2;obtain⟨fe,as,cp,rfl,h3⟩:=jc h2.2;obtain⟨x,xp,rfl,h4⟩:=iN h3;simp only[a_]at h4
  induction t using zE with
  |Name y py=>exact J' g h2.1.2 h4.1.1.1 (List.contains_iff_mem.mp h4.1.1.2) h4.1.2 h4.2
  |_=>exact dH h2.1.1
 |.Oo i f m c es f2 e b,X,ex,G,s,g,h=>by
  have h:S8 s (λt x y=>y.isEmpty&&(Rj t λv=>IG v λfe as _=>HN (λx=>jQ Z G f2 x&&Z.LY G f2) fe&&Oy as λv1 e2=>sk Z G i f m c es v1&&notStar e2&&Gw Z G e e2)&&jt Z G b x)=Δ:=by induction s using zS<;>exact h
  obtain⟨t,x,y,p,rfl,h1⟩:=BW h;rw[a_,a_]at h1;obtain⟨v,up,rfl,h2⟩:=BZ h1.1.2;obtain⟨fe,as,qp,rfl,h3⟩:=jc h2;rw[a_]at h3;obtain⟨xf,np,rfl,h4⟩:=iN h3.1;obtain⟨v1,e2,rfl,h5⟩:=rX h3.2;simp only[a_]at h4 h5;obtain⟨z,zp,ap,as,cp,rfl,k1,k2,k3,k4,k5,k6,k7⟩:=pO h5.1.1
  induction y using zL with
  |cons _ _=>exact dH h1.1.1
  |nil=>exact Ka g k1 k2 k3 k4 k5 k6 k7 h4.1 h4.2 h5.1.2 h5.2 (qQ b X ex G x g h1.2)
 |.Nx k s,X,ex,G,st,g,h=>by
  have h:vY Z {G with ln:=k::G.ln} s st=Δ:=by induction st using zS<;>exact h
  exact F6 (Wo s X ex {G with ln:=k::G.ln} st (B3 g) h)
 |.JK i k e,X,ex,G,s,g,h=>by
  induction s using zS with
  |Assign ts v pos=>
   induction ts using zL with
   |nil=>exists h
   |cons t ts=>
    induction ts using zL with
    |cons _ _=>cases t<;>first|exact dH h|cases h|(rename_i o _ _;cases o<;>cases h)
    |nil=>
     induction t using zE with
     |Subscript o s sp=>
      induction o using zE with
      |Name x p=>have h':(i4 G i x&&iU s&&Gw Z G k s&&Gw Z G e v&&!(vars e).contains i)=Δ:=h;simp only[a_]at h';exact IH g h'.1.1.1.1 h'.1.1.1.2 h'.1.1.2 h'.1.2 (by simpa using h'.2)
      |_=>exists h
     |_=>exists h
  |_=>exists h
 |.app i e,X,ex,G,s,g,h=>by
  induction s using zS with
  |Expr v pos=>
   induction v using zE with
   |Call fn args Iq G7=>
    induction fn using zE with
    |Attribute o name apos=>
     induction o using zE with
     |Name x p=>
      match args,Iq,h with
      |[v],[],h=>have h':(i4 G i x&&name == "append"&&apos.endLine == G7.line&&notStar v&&Gw Z G e v)=Δ:=h;simp only[a_]at h';have e1:name = "append":=f_ h'.1.1.1.2;subst e1;exact F7 g h'.1.1.1.1 h'.1.1.2 h'.1.2 h'.2
      |[],_,h=>exists h
      |[_],_::_,h=>exists h
      |_::_::_,_,h=>exists h
     |_=>exists h
    |_=>exists h
   |_=>exists h
  |_=>exists h
 |.exp e,X,ex,G,s,g,h=>by
  induction s using zS with
  |Expr v pos=>
   have h':(pN v&&Gw Z G e v)=Δ:=by induction v using zE<;>first|exact h|(rename_i c _ _;cases c<;>exact h)
   simp only[a_]at h';exact F9 g h'.1 h'.2
  |_=>exists h
 |.ret e,X,ex,G,s,g,h=>by
  induction s using zS with
  |Return v pos=>
   induction v using zO with
   |none=>exists h
   |some v=>exact F8 g h
  |_=>exists h
 |.oset i x cs fz e,X,ex,G,s,g,h=>by
  have h:LR s (λts v=>Jk ts λt=>Gw Z G e v&&JO t λo' y _=>HN (λz=>i4 G i z&&y == x&&Z.JF.contains x&&cs.all (λc=>Z.HE.contains c)) o')=Δ:=by induction s using zS<;>exact h
  obtain⟨ts,v,p,rfl,h1⟩:=mO h;obtain⟨t,rfl,h2⟩:=jG h1;rw[a_]at h2;obtain⟨o',y,ap,rfl,h3⟩:=kb h2.2;obtain⟨z,zp,rfl,h4⟩:=iN h3;simp only[a_]at h4;have e1:y=x:=f_ h4.1.1.2;subst e1;exact FX g h4.1.1.1 h4.1.2 h4.2 h2.1
 |.KS i x cs e,X,ex,G,s,g,h=>by
  have h:Qo s (λv=>IG v λfe as cp=>JO fe λo n ap=>n == "append"&&ap.endLine == cp.line&&(Jk as λw=>notStar w&&Gw Z G e w)&&JO o λo' y _=>HN (λz=>i4 G i z&&y == x&&Z.JF.contains x&&cs.all (λc=>Z.HE.contains c)) o')=Δ:=by induction s using zS<;>exact h
  obtain⟨v,ep,rfl,h1⟩:=vW h;obtain⟨fe,as,cp,rfl,h2⟩:=jc h1;obtain⟨o,n,ap,rfl,h3⟩:=kb h2;simp only[a_]at h3;obtain⟨⟨⟨e1,hl⟩,hw⟩,ho⟩:=h3;obtain⟨w,rfl,h4⟩:=jG hw;obtain⟨o',y,YU,rfl,h5⟩:=kb ho;obtain⟨z,zp,rfl,h6⟩:=iN h5;simp only[a_]at h4 h6;have e1:=f_ e1;have e2:y=x:=f_ h6.1.1.2;subst e1 e2;exact Jm g h6.1.1.1 h6.1.2 h6.2 hl h4.1 h4.2
 |.LG j i x cs k,X,ex,G,s,g,h=>by
  have h:LR s (λts v=>Jk ts λt=>isName t&&i8 G (.nm j) t&&Qn v λo ke=>iU ke&&Gw Z G k ke&&JO o λo' y _=>HN (λz=>i4 G i z&&y == x&&Z.JF.contains x&&cs.all (λc=>Z.HE.contains c)) o')=Δ:=by induction s using zS<;>exact h
  obtain⟨ts,v,p,rfl,h1⟩:=mO h;obtain⟨t,rfl,h2⟩:=jG h1;rw[a_,a_]at h2;obtain⟨o,ke,sp,rfl,h3⟩:=vV h2.2;rw[a_,a_]at h3;obtain⟨o',y,ap,rfl,h5⟩:=kb h3.2;obtain⟨z,zp,rfl,h6⟩:=iN h5;simp only[a_]at h6;have e2:y=x:=f_ h6.1.1.2;subst e2
  induction t using zE with
  |Name yy py=>exact Jn g h2.1.2 h6.1.1.1 h6.1.2 h6.2 h3.1.1 h3.1.2
  |_=>exact dH h2.1.1
 |.Nw jj i f m c es,X,ex,G,s,g,h=>by
  induction jj using zO with
  |none=>
   have h:Qo s (λv=>sk Z G i f m c es v)=Δ:=by induction s using zS<;>exact h
   obtain⟨v,ep,rfl,h1⟩:=vW h;obtain⟨z,zp,ap,as,cp,rfl,k1,k2,k3,k4,k5,k6,k7⟩:=pO h1;exact J9 g k1 k2 k3 k4 k5 k6 k7
  |some j=>
   have h:LR s (λts v=>Jk ts λt=>isName t&&i8 G (.nm j) t&&sk Z G i f m c es v)=Δ:=by induction s using zS<;>exact h
   obtain⟨ts,v,p,rfl,h1⟩:=mO h;obtain⟨t,rfl,h2⟩:=jG h1;rw[a_,a_]at h2;obtain⟨z,zp,ap,as,cp,rfl,k1,k2,k3,k4,k5,k6,k7⟩:=pO h2.2
   induction t using zE with
   |Name y py=>exact yJ g h2.1.2 k1 k2 k3 k4 k5 k6 k7
   |_=>exact dH h2.1.1
 |.LI i x cs f m c es,X,ex,G,s,g,h=>by
  have h:Qp s (λv=>IG v λfe as cp=>JO fe λo n ap=>G.io == Γ i&&n == m&&ap.endLine == cp.line&&decide (as.length < 29)&&Z.Im.contains (f,c,m)&&(Z.HE.contains c&&G.cm)&&iz Z G es as&&JO o λo' y _=>HN (λz=>i4 G i z&&y == x&&Z.JF.contains x&&cs.all (λc=>Z.HE.contains c)) o')=Δ:=by induction s using zS<;>exact h
  obtain⟨v,ep,rfl,h1⟩:=vX h;obtain⟨fe,as,cp,rfl,h2⟩:=jc h1;obtain⟨o,n,ap,rfl,h3⟩:=kb h2;simp only[a_]at h3;obtain⟨⟨⟨⟨⟨⟨⟨LQ,e1⟩,hl⟩,hlen⟩,hf⟩,hc,Hq⟩,Hb⟩,ho⟩:=h3;obtain⟨o',y,YU,rfl,h5⟩:=kb ho;obtain⟨z,zp,rfl,h6⟩:=iN h5;simp only[a_]at h6;have e1:=f_ e1;have e2:y=x:=f_ h6.1.1.2;subst e1 e2;exact Jo g (f_ LQ) h6.1.1.1 h6.1.2 h6.2 hl (p_ hlen) (List.contains_iff_mem.mp hf) (List.contains_iff_mem.mp hc) Hq Hb
 |.LJ tg i x cs body,X,ex,G,s,g,h=>by
  have h:S9 s (λt it b=>(G.cm&&G.rs)&&i8 G tg t&&rV t&&G.gl.contains 20&&(Ri it λo=>JO o λo' y _=>HN (λz=>i4 G i z&&y == x&&Z.JF.contains x&&cs.all (λc=>Z.HE.contains c)) o')&&jt Z G body b)=Δ:=by induction s using zS<;>exact h
  obtain⟨t,it,b,p,rfl,h1⟩:=BX h;rw[a_,a_,a_,a_,a_,a_]at h1;obtain⟨⟨⟨⟨⟨⟨Hq,Qz⟩,hT⟩,YV⟩,O9⟩,YW⟩,hb⟩:=h1;obtain⟨yp,o,j,cp,kp,pos,rfl,h2⟩:=BY YW;obtain⟨o',y,ap,rfl,h5⟩:=kb h2;obtain⟨z,zp,rfl,h6⟩:=iN h5;simp only[a_]at h6;have e2:y=x:=f_ h6.1.1.2;subst e2
  induction t using zE with
  |Tuple es c0 tp=>exact Jq g Hq Qz hT O9 h6.1.1.1 h6.1.2 h6.2 (qQ body X ex G b g hb)
  |_=>exact dH YV
 |.Ku i e,X,ex,G,s,g,h=>by
  have h:Qp s (λv=>G.io == Γ i&&Gw Z G e v)=Δ:=by induction s using zS<;>exact h
  obtain⟨v,ep,rfl,h1⟩:=vX h;rw[a_]at h1;exact FY g (f_ h1.1) h1.2
 |.Hl t a b,X,ex,G,s,g,h=>by
  induction s using zS with
  |If c x y pos=>have h':(Gw Z G t c&&jt Z G a x&&jt Z G b y)=Δ:=h;simp only[a_]at h';exact Gi (snd t X ex G c g h'.1.1).2 (qQ a X ex G x g h'.1.2) (qQ b X ex G y g h'.2)
  |_=>exists h
 |.HR tg s body,X,ex,G,st,g,h=>by
  induction st using zS with
  |For t it b TH pos=>
   induction TH using zL with
   |cons _ _=>exists h
   |nil=>have h':(((G.cm&&G.rs)&&i8 G tg t)&&(j5 Z G s it&&mY s t)&&jt Z G body b)=Δ:=h;simp only[a_]at h';exact Ga g h'.1.1 h'.1.2 (qQ body X ex G b g h'.2)
  |_=>exists h
 |.Iu t body,X,ex,G,s,g,h=>by
  induction s using zS with
  |While c b TH pos=>
   induction TH using zL with
   |cons _ _=>exists h
   |nil=>have h':((G.rs&&Gw Z G t c)&&jt Z G body b)=Δ:=h;simp only[a_]at h';exact FV g h'.1.1 (snd t X ex G c g h'.1.2).2 (qQ body X ex G b g h'.2)
  |_=>exists h
 |.brk,X,ex,G,s,g,h=>by cases s<;>exists h
 |.cnt,X,ex,G,s,g,h=>by cases s<;>exists h
 |.pass,X,ex,G,s,g,h=>by cases s<;>exists h
 |.never,X,ex,G,s,g,h=>iR uN λDn σ H ⟨B,F,τ,f,m,q⟩=>q.no.elim
theorem qQ:∀(as:Æ) (X:Cx) (ex:EX->Prop) (G:Gm) (ss:Ö),Hc Z CX cl xp X ex G->jt Z G as ss=Δ->Ke X ss (RS X.K G.pn ex (ix cl as))
 |[],X,ex,G,ss,g,h=>by
  induction ss using zL with
  |nil=>exact pw sI λDn σ H ⟨B,F,τ,f,m,q⟩=>q.ok _ _ _ _ m
  |cons _ _=>exists h
 |a::as,X,ex,G,ss,g,h=>by
  induction ss using zL with
  |nil=>induction a using zT<;>exists h
  |cons s ss=>
   have h':(vY Z G a s&&jt Z G as ss)=Δ:=h;simp only[a_]at h';refine pw (uM (Wo a X ex G s g h'.1) (qQ as X ex G ss g h'.2)) λDn σ H Gz=>?_;obtain⟨B,F,τ,f,m,q⟩:=Gz;refine⟨B,F,τ,f,m,(Gb.FW q).mono λr hr=>?_⟩;cases r with
   |nx Gv=>exact λG1 H' F' f' m'=>⟨B,F',Gv,f',m',hr⟩
   |ct Gv=>exact hr.ok
   |bk Gv=>exact hr.ok
   |rt d=>exact hr.ok
   |ri d ks es=>exact hr.ok
   |ro d o=>exact hr.ok
end
end
def YX (K:Frag){io:PN}(B:Bs io)(ex:EX->Prop)(g:Ev->Res Fl):TS:=λDn σ H=>∃F τ f,Hi K B F H σ τ f/\Gb ex (g τ) (Fk K B Dn)
def JR (P:Β)(w:Α):II:=λ_ _ _ _ _ _=>False
def Mr (K:Frag):XK->Hp->EX->Prop:=λ_ _ _=>False
abbrev tK (Z:Sg)(fn:Fn)(ps:Â)(st:Stmt):Bool:=
 (il st).kind == .function&&!(il st).isCoroutine&&!(il st).isGenerator&&decide (fn.G.N.Nodup)&&fn.G.N.take ps.length == ps
&&ps.all (λx=>(il st).names.lookup x == Γ .local||(il st).names.lookup x == Γ .cell)&&(il st).names.all (λy=>y.2 != .free)
&&(List.range fn.G.N.length).all (λi=>(fn.G.N[i]?).bind ((il st).names.lookup ·) == fn.G.kd[i]?)
&&fn.G.N.all (λx=>!(x == "__debug__")&&!(x == "__classdict__"))
&&fn.G.gl.all (λn=>match Z.name n with|some x=>(il st).names.lookup x == Γ .globalImplicit|none=>Θ)
&&decide (ps.length=fn.np)
abbrev ir (Z:Sg)(fn:Fn)(ps:Â)(st:Stmt):Bool:=tK Z fn ps st&&(!fn.io&&jt Z fn.G fn.body (iC st))
abbrev jh (Z:Sg)(fn:Fn)(ps:Â)(st:Stmt):Bool:=tK Z fn ps st&&(fn.io&&jt Z fn.G fn.body (iC st)&&(match fn.G.io with|some p=>decide (p < fn.np)|none=>Θ)&&!fn.G.tr)
structure Ms (Z:Sg)(fn:Fn)(ps:Â)(st:Stmt):Prop where
 sc:JX fn.G.N ps (il st)
 kd:∀(i:Nat) (x:Str),fn.G.N[i]? = Γ x->(il st).names.lookup x=fn.G.kd[i]?
 Mm:∀x∈fn.G.N,(x == ("__debug__" : Str))=Θ/\(x == ("__classdict__" : Str))=Θ
 gl:∀n∈fn.G.gl,∀x,Z.name n=Γ x->(il st).names.lookup x=Γ .globalImplicit
 np:ps.length=fn.np
structure JS (Z:Sg)(fn:Fn)(ps:Â)(st:Stmt):Prop extends Ms Z fn ps st where
 pl:fn.io=Θ
 body:jt Z fn.G fn.body (iC st)=Δ
structure Ll (Z:Sg)(fn:Fn)(p:Nat)(ps:Â)(st:Stmt):Prop extends Ms Z fn ps st where
 io:fn.io=Δ
 body:jt Z fn.G fn.body (iC st)=Δ
 YY:fn.G.io=Γ p
 pos:p < fn.np
 YZ:fn.G.tr=Θ
def qR {Z:Sg}  {st:Stmt}(h:tK Z fn ps st=Δ):Ms Z fn ps st:=by
 unfold tK at h;simp only[a_]at h;obtain⟨⟨⟨⟨⟨⟨⟨⟨⟨⟨h1,h2⟩,h3⟩,h4⟩,h5⟩,h6⟩,h7⟩,h8⟩,h9⟩,Nr⟩,O1⟩:=h;rw[I_]at h6 h7 h8 h9 Nr;refine⟨⟨f_ h1,by simpa using h2,by simpa using h3,p_ h4,f_ h5,λx hx=>?_,λy hy=>by simpa using h7 y hy⟩,λi x hx=>?_,λx hx=>by simpa using h9 x hx,λn hn x hx=>?_,p_ O1⟩
 ·have:=h6 x hx;rw[L_]at this;exact this.elim (λz=>.inl (f_ z)) λz=>.inr (f_ z)
 ·have HY:i < fn.G.N.length:=(v_.mp hx).1;have:=f_ (h8 i (X_.mpr HY));rw[hx]at this;exact this
 ·have:=Nr n hn;rw[hx]at this;exact f_ this
def n8 {Z:Sg}  {st:Stmt}(h:ir Z fn ps st=Δ):JS Z fn ps st:=by unfold ir at h;rw[a_,a_]at h;exact⟨qR h.1,by simpa using h.2.1,h.2.2⟩
def kG {Z:Sg}  {st:Stmt}(h:jh Z fn ps st=Δ)(hp:fn.G.io=Γ p):Ll Z fn p ps st:=by unfold jh at h;simp only[a_]at h;obtain⟨h1,⟨⟨h2,h3⟩,h5⟩,h6⟩:=h;rw[hp]at h5;exact⟨qR h1,h2,h3,hp,p_ h5,by simpa using h6⟩
structure Ky (K:Frag)(x qual:Str)(st:Stmt)(f:Ψ)(fd:Ν):Prop where
 ex:∃(dV oc:Φ) (od:Option Ψ) (kV doc pm:Φ) (an:Option Ψ) (KA ct:Φ) (N2:Array (Option Φ)),
  fd=PySem.W.fnOf x qual (iI st) (iC st) (il st) dV kV doc pm an KA ct/\K.lookup f=Γ ⟨oc,od,.func fd,N2⟩/\PySem.W.codeIn K KA qual=Δ
 kp:PySem.W.keepIn K (.ref f)=Δ
def j7 {K:Frag}{x qual:Str}{st:Stmt}{f:Ψ}{dV oc:Φ}{od an:Option Ψ}{N2:Array (Option Φ)}{kV doc pm KA ct:Φ}(l:K.lookup f=Γ ⟨oc,od,.func (PySem.W.fnOf x qual (iI st) (iC st) (il st) dV kV doc pm an KA ct),N2⟩)
  (c:PySem.W.codeIn K KA qual=Δ) (k:PySem.W.keepIn K (.ref f)=Δ):Ky K x qual st f (PySem.W.fnOf x qual (iI st) (iC st) (il st) dV kV doc pm an KA ct):=⟨⟨dV,oc,od,kV,doc,pm,an,KA,ct,N2,rfl,l,c⟩,k⟩
structure HC (K:Frag)(Z:Sg)(T:Tb)(f p:Nat)(Pa:Ψ->Prop):Prop where
 ex:∃(fn:Fn) (nm qual:Str) (st:Stmt) (fa:Ψ) (fd:Ν) (ps:Â),T f=Γ fn/\Ky K nm qual st fa fd/\Pa fa/\Binds K fd ps []/\Ll Z fn p ps st
structure Kz (K:Frag)(Z:Sg)(T:Tb)(f:Nat)(Pa:Ψ->Prop):Prop where
 ex:∃(fn:Fn) (nm qual:Str) (st:Stmt) (fa:Ψ) (fd:Ν) (ps:Â),T f=Γ fn/\Ky K nm qual st fa fd/\Pa fa/\Binds K fd ps [.none]/\Ll Z fn 0 ps st
structure JT (K:Frag)(Z:Sg)(T:Tb)(f:Nat)(Pa:Ψ->Prop):Prop where
 ex:∃(fn:Fn) (nm qual:Str) (st:Stmt) (fa:Ψ) (fd:Ν) (ps:Â),T f=Γ fn/\Ky K nm qual st fa fd/\Pa fa/\Binds K fd ps []/\JS Z fn ps st
structure G6 (K:Frag)(mg:Str->Option Φ)(Z:Sg)(T:Tb)(f:Nat)(x:Str):Prop where
 ex:∃(fn:Fn) (st:Stmt) (fa:Ψ) (fd:Ν) (ps:Â),T f=Γ fn/\Ky K x x st fa fd/\mg x=Γ (.ref fa)/\Binds K fd ps []/\JS Z fn ps st
section
variable {P:Β}{w:Α}{K:Frag}{mg:Str->Option Φ}{base:Heap}{Z:Sg}{T:Tb}
structure Jz (K:Frag)(mg:Str->Option Φ)(Z:Sg)(T:Tb):Prop where
 Nc:∀n x,Z.name n=Γ x->x≠"__name__"/\(x == ("__debug__" : Str))=Θ
 blt:∀(n:Nat) (x:Str),iD[n]? = Γ x->mg x=Ξ
 cst:∀n d x,(n,d)∈Z.O5->Z.name n=Γ x->∃u v,mg x=Γ u/\RelV v u/\∀S H,Gk K S H v d
 fns:∀f∈Z.fns,∀x,Z.name f=Γ x->G6 K mg Z T f x
 Im:∀f c m,(f,c,m)∈Z.Im->HC K Z T f 0 (jl K c m)
 JM:∀f p,(f,p)∈Z.JM->∀x,Z.name f=Γ x->HC K Z T f p (λfa=>mg x=Γ (.ref fa)/\PySem.W.keepIn K (.ref fa)=Δ)
 JN:∀f c m,(f,c,m)∈Z.JN->Kz K Z T f (jl K c m)
 fmt:∀f c m,(f,c,m)∈Z.Ox->JT K Z T f (jl K c m)
 Mn:∀n c f x,(n,c,f)∈Z.Jv->Z.name n=Γ x->HC K Z T f 0 (uw K mg c x)
 KI:∀c∈Z.HE,∀C,OC K c C->MG K C/\∀x∈Z.JF,kn K C x
 Wq:∀f∈Z.pl,∀fn,T f=Γ fn->fn.G.cm=Θ
theorem mP:∀ {vs:Ë}{ds:Ê} (n:Nat),FZ K F H vs ds->Hf K F H (vs.map Γ++Ρ n Ξ) ((Gr ds).map Γ++Ρ n Ξ) []
 |[],[],n,.nil=>by
  induction n with
  |zero=>exact .nil
  |succ n ih=>exact .none ih
 |v::vs,d::ds,n,.cons h1 h2=>.some (f:=[]) h1.frozen (mP n h2)
structure Rm (n:Nat)(A:Η):Prop where
 dp:A.depth+3*(2*n+4)+5 < recursionLimit
 un:A.units+16*(2*n+4)+200 < cLine
def Rm.room (r:Rm n A)(hn:n < 490)(h:A.handled=Ξ):Hh (2*n+4) A:=⟨λ_=>h,by have:=r.dp;rw[Nat.mod_eq_of_lt (by omega)];exact this,by have:=r.un;rw[Nat.mod_eq_of_lt (by omega)];exact this⟩
def Rm.Mu (r:Rm n A)(hn:n < 490):Hh (1004+2*n) A:=⟨λz=>by omega,by have:=r.dp;rw[show(1004+2*n) % 1000=2*n+4 by omega];exact this,by have:=r.un;rw[show(1004+2*n) % 1000=2*n+4 by omega];exact this⟩
def Rm.of (r:Hh k A)(h:k % 1000=2*n+4):Rm n A:=⟨by have:=r.dp;rw[h]at this;exact this,by have:=r.un;rw[h]at this;exact this⟩
structure Mv (P:Β)(w:Α)(K:Frag)(mg:Str->Option Φ)(base:Heap)(Z:Sg)(T:Tb)(n:Nat):Prop where
 fns:∀(A:Η),Rm n A->∀f∈Z.fns,(A.handled=Ξ∨f∈Z.pl)->∀x,Z.name f=Γ x->VX P w K mg base (JR P w) A (bB T n) (Mr K) f x
 Im:∀(A:Η),Rm n A->∀f c m,(f,c,m)∈Z.Im->A.handled=Ξ->NB P w K mg base (JR P w) A (bB T n) f 0 (jl K c m)
 JM:∀(A:Η),Rm n A->∀f p,(f,p)∈Z.JM->A.handled=Ξ->∀x,Z.name f=Γ x->NB P w K mg base (JR P w) A (bB T n) f p (λfa=>mg x=Γ (.ref fa)/\PySem.W.keepIn K (.ref fa)=Δ)
 JN:∀(A:Η),Rm n A->∀f c m,(f,c,m)∈Z.JN->A.handled=Ξ->Q9 P w K mg base (JR P w) A (bB T n) f (jl K c m)
 fmt:∀(A:Η),Rm n A->∀f c m,(f,c,m)∈Z.Ox->A.handled=Ξ->VY P w K mg base (JR P w) A (bB T n) (Mr K) f (jl K c m)
 Mn:∀(A:Η),Rm n A->∀i c f x,(i,c,f)∈Z.Jv->A.handled=Ξ->Z.name i=Γ x->NB P w K mg base (JR P w) A (bB T n) f 0 (uw K mg c x)
def Wr {CX:II}{cl:Ä}{xp:XK->Hp->EX->Prop}{X:Cx}{ex:EX->Prop}{G:Gm}(g:Hc Z CX cl xp X ex G)(B:Bs G.pn){as:Æ}{ss:Ö}(h:jt Z G as ss=Δ):Ke X ss (YX X.K B ex (ix cl as)):=
 pw (qQ as X ex G ss g h) λDn σ H ⟨F,τ,f,m,q⟩=>⟨B,F,τ,f,m,q⟩
def nh (t:Jz K mg Z T)  {nm:Str}{st:Stmt}  (hk:k % 1000=2*n+4)(hn:n < 490)(h1:T f=Γ fn)(h2:Ky K nm x st fa fd)(h5:JS Z fn ps st)(hp:k < 1000∨fn.G.cm=Θ)
  (ih:Mv P w K mg base Z T n) :
  Ic P w K mg base (JR P w) (k+1) fa fd ps (M' K (bB T (n+1)) (Mr K) f ps):=by
 have Mw:∀ds,bB T (n+1) f ds=kN (bB T n) fn ds:=λds=>by show(match T f with|some fn=>(match fn.io with|false=>kN (bB T n) fn ds|true=>lu (bB T n) fn ds)|none=>Gq)=_;rw[h1];show(match fn.io with|false=>kN (bB T n) fn ds|true=>lu (bB T n) fn ds)=_;rw[h5.pl]
 obtain⟨dV,oc,od,kV,doc,pm,an,KA,ct,N2,rfl,lk,ME⟩:=h2.ex;refine zN lk ME h5.sc (by omega) (λvs H Q E h=>h.1) λA outer s H vs Q E hr KC=>?_;obtain⟨hl,lt,F,ds,G9,m,q⟩:=KC;have Hq:fn.G.cm=Δ->A.handled=Ξ:=λz=>hp.elim (λh=>hr.hd h) λh=>by rw[h]at z;cases z
 refine⟨_,Wr (Z:=Z) (CX:=JR P w) (cl:=bB T n) (xp:=Mr K) (ex:=Mr K E H) (G:=fn.G) ?_ ⟨F,H,λ_ _=>False,λ_ _=>False,λ_=>Ξ⟩ h5.body,?_⟩
 ·refine⟨rfl,h5.sc.nd,λz=>by show A.handled.isNone=Δ;rw[Hq z];rfl,h5.sc.kind,?_,λ_=>PassesOwn.leaving,λi y hy=>h5.kd i y hy,λi y hy=>h5.Mm y (S_ hy),λm hm y hy=>h5.gl m hm y hy,t.Nc,λ_ _=>rfl,t.blt,t.cst,?_,λf' c m h' z=>ih.Im _ (Rm.of hr hk) f' c m h' (Hq z),λf' p h' z x' Hr=>ih.JM _ (Rm.of hr hk) f' p h' (Hq z) x' Hr,λf' c m h' z=>ih.JN _ (Rm.of hr hk) f' c m h' (Hq z),λf' c m h' z=>ih.fmt _ (Rm.of hr hk) f' c m h' (Hq z),λi' c f' x' h' z Hr=>ih.Mn _ (Rm.of hr hk) i' c f' x' h' (Hq z) Hr,t.KI,⟨λ_ _ _=>False,λpins σ H s e s' _ h=>h.elim,λc H z=>z.elim⟩,λouter H s E e s' x fr h=>h,λH outer s e s' h=>h⟩
  ·have:=hr.un;show(A.deeper _).units+42 < cLine;omega
  ·exact λf' Ni hc x' Hr=>ih.fns _ (Rm.of hr hk) f' Ni (hc.elim (λz=>.inl (Hq z)) .inr) x' Hr
 ·rw[Mw]at q;obtain⟨gd,q⟩:=Gb.Gn q;have LM:(Gr ds).length=fn.np:=p_ gd;have JU:fn.G.N.length - vs.length=fn.G.N.length - fn.np:=by rw[m.length,<- iB ds,LM]
  refine⟨F,(Gr ds).map Γ++Ρ (fn.G.N.length - fn.np) Ξ,[],⟨G9,?_,List.nodup_nil,.refl _,λa ha=>absurd ha (by simp),λa h=>h,λa h=>.inl h,λa xs h=>h.elim,λa xs h=>h.elim,λ_ _ _ z=>by cases z⟩,(Gb.FW q).mono λr hr=>?_⟩
  ·show Hf K F H (start fn.G.N vs) _ [];unfold start;rw[JU];exact mP _ m
  ·cases r with
   |nx Gv=>exact λG1 H' F' f' m'=>hr.ok .Gx H' F' [] ⟨m'.G9,m'.same,.Gx,List.nodup_nil,λa ha=>absurd ha (by simp),m'.HU,m'.out⟩
   |rt d=>exact λv H' F' fv o=>hr.ok v H' F' fv o
   |bk Gv=>exact hr.no.elim
   |ct Gv=>exact hr.no.elim
   |ri d ks es=>exact hr.no.elim
   |ro d o=>exact hr.no.elim
theorem FZ.split {F:Ψ->Prop}{H:Hp}:∀ {w1 ws:Ë}{e1 ds:Ê},w1.length=e1.length->FZ K F H (w1++ws) (e1++ds)->FZ K F H w1 e1/\FZ K F H ws ds
 |[],_,[],_,_,h=>⟨.nil,h⟩
 |_::_,_,[],_,l,_=>by cases l
 |[],_,_::_,_,l,_=>by cases l
 |v::w1,ws,d::e1,ds,l,.cons h1 h2=>⟨.cons h1 (FZ.split (Nat.succ.inj l) h2).1,(FZ.split (Nat.succ.inj l) h2).2⟩
theorem qS (hd:Gu K F H (.ref a) d f0)  (n:Nat)(m:FZ K F H vs ds):∀ {w1:Ë}{e1:Ê},FZ K F H w1 e1->Hf K F H ((w1++V.ref a::vs).map Γ++Ρ n Ξ) ((Gr e1++d::Gr ds).map Γ++Ρ n Ξ) (f0++[])
 |[],[],_=>.some hd (mP n m)
 |_::_,_::_,.cons h1 h2=>.some (f:=[]) h1.frozen (qS hd n m h2)
def qT (t:Jz K mg Z T)  {nm:Str}{st:Stmt}  (hk:k % 1000=2*n+4)(hn:n < 490)(h1:T f=Γ fn)(h2:Ky K nm x st fa fd)(h5:Ll Z fn p0 ps st)(hp:k < 1000)
  (ih:Mv P w K mg base Z T n) :
  Ic P w K mg base (JR P w) (k+1) fa fd ps (Nb K (bB T (n+1)) f p0 ps):=by
 have TJ:=h5.YY;have Qa:=h5.pos;have htr:=h5.YZ;have Mw:∀ds,bB T (n+1) f ds=lu (bB T n) fn ds:=λds=>by show(match T f with|some fn=>(match fn.io with|false=>kN (bB T n) fn ds|true=>lu (bB T n) fn ds)|none=>Gq)=_;rw[h1];show(match fn.io with|false=>kN (bB T n) fn ds|true=>lu (bB T n) fn ds)=_;rw[h5.io]
 obtain⟨dV,oc,od,kV,doc,pm,an,KA,ct,N2,rfl,lk,ME⟩:=h2.ex;refine zN lk ME h5.sc (by omega) (λvs H Q E h=>h.1) λA outer s H vs Q E hr KC=>?_;obtain⟨hl,a,d0,f0,F,w1,e1,ws,ds,rfl,Rh,S3,AI,d,d1,hc,q⟩:=KC;have Hq:A.handled=Ξ:=hr.hd hp;refine⟨_,Wr (Z:=Z) (CX:=JR P w) (cl:=bB T n) (xp:=Mr K) (ex:=Jd) (G:=fn.G) ?_ ⟨F,Iw f0 H,λ_ _=>False,λ_ _=>False,λj=>if j=p0 then Γ a else Ξ⟩ h5.body,?_⟩
 ·refine⟨rfl,h5.sc.nd,λz=>by show A.handled.isNone=Δ;rw[Hq];rfl,h5.sc.kind,?_,λ_=>PassesOwn.leaving,λi y hy=>h5.kd i y hy,λi y hy=>h5.Mm y (S_ hy),λm hm y hy=>h5.gl m hm y hy,t.Nc,λ_ _=>rfl,t.blt,t.cst,λf' Ni hc x' Hr=>ih.fns _ (Rm.of hr hk) f' Ni (.inl Hq) x' Hr,λf' c m h' z=>ih.Im _ (Rm.of hr hk) f' c m h' Hq,λf' p h' z x' Hr=>ih.JM _ (Rm.of hr hk) f' p h' Hq x' Hr,λf' c m h' z=>ih.JN _ (Rm.of hr hk) f' c m h' Hq,λf' c m h' z=>ih.fmt _ (Rm.of hr hk) f' c m h' Hq,λi' c f' x' h' z Hr=>ih.Mn _ (Rm.of hr hk) i' c f' x' h' Hq Hr,t.KI,⟨λ_ _ _=>False,λpins σ H s e s' _ h=>h.elim,λc H z=>z.elim⟩,λouter H s E e s' x fr h=>h,λH outer s e s' h=>h⟩;have:=hr.un;show(A.deeper _).units+42 < cLine;omega
 ·rw[Mw]at hc;unfold lu at hc;obtain⟨gd,hc⟩:=nR hc;have LM:(Gr e1++d0::Gr ds).length=fn.np:=p_ gd;obtain⟨r,Y0,hc⟩:=jF hc;obtain⟨Ws,Wt⟩:=AI.ws.split (Rh.trans S3.symm);have JU:fn.G.N.length - (w1++V.ref a::ws).length=fn.G.N.length - fn.np:=by rw[<- LM,u_,u_,List.length_cons,List.length_cons,iB,iB,Ws.length,Wt.length]
  refine⟨F,(Gr e1++d0::Gr ds).map Γ++Ρ (fn.G.N.length - fn.np) Ξ,f0++[],⟨AI.G9,?_,by simpa using AI.He,sf,λb hb=>lI (by simpa using hb),λb h=>h,λb h=>.inl h,λb xs h=>h.elim,λb xs h=>h.elim,λj b N9 e2=>?_⟩,?_⟩
  ·show Hf K F H (start fn.G.N (w1++.ref a::ws)) _ _;unfold start;rw[JU];exact qS AI.m0 _ Wt Ws
  ·have e2:(if j=p0 then Γ a else Ξ)=Γ b:=e2;by_cases hj:j=p0
   ·rw[d_ hj]at e2;cases e2;show((w1++V.ref a::ws).map Γ++_)[j]? = _;rw[hj,<- Rh,G_,y_,aan (by simp)];simp
   ·rw[b_ hj]at e2;cases e2
  ·rw[Y0];cases r with
   |ro d' o'=>cases hc;intro v Qk Qj fv f1 l hN ot m1 nd h1;have e:=hN p0 a TJ (d_ rfl);subst e;exact q v Qk Qj fv f1 ⟨ot,m1,nd,h1⟩
   |nx Gv=>
    intro G1 Qk Qj f' m';have hc:(match dJ Gv (fn.G.io.getD 0) with|some o=>Gn (iJ o) (.ok (D.tup [.Gx,o]))|none=>Gq:Res D)=.ok (D.tup [d,d1]):=hc;rw[TJ]at hc;have hc:(match dJ Gv p0 with|some o=>Gn (iJ o) (.ok (D.tup [.Gx,o]))|none=>Gq:Res D)=.ok (D.tup [d,d1]):=hc;cases zs:dJ Gv p0 with
    |none=>rw[zs]at hc;cases hc
    |some o=>rw[zs]at hc;obtain⟨go,hc⟩:=nR hc;cases hc;obtain⟨v1,f1,g1,e1,m1,_,e4⟩:=m'.HA.at zs;have NH:=m'.nm p0 a (so TJ) (d_ rfl);rw[e1]at NH;cases NH;have sub:∀b∈f1,b∈f':=λb Hn=>e4.mem_iff.mpr (j_ _ Hn);exact q .Gx Qk Qj [] f1 ⟨⟨m'.G9,m'.same,.Gx,List.nodup_nil,λb hb=>absurd hb (by simp),m'.HU,m'.out⟩,m1,(g_.mp (e4.nodup_iff.mp m'.He)).1,λb hb=>m'.own b (sub b hb)⟩
   |bk _=>cases hc
   |ct _=>cases hc
   |rt _=>cases hc
   |ri _ _ _=>cases hc
def yN {n f:Nat}{fn:Fn}(h1:T f=Γ fn)(h5:fn.io=Θ)(ds:Ê):bB T (n+1) f ds=kN (bB T n) fn ds:=by show(match T f with|some fn=>(match fn.io with|false=>kN (bB T n) fn ds|true=>lu (bB T n) fn ds)|none=>Gq)=_;rw[h1];show(match fn.io with|false=>kN (bB T n) fn ds|true=>lu (bB T n) fn ds)=_;rw[h5]
def pU {n f:Nat}{fn:Fn}(h1:T f=Γ fn)(h5:fn.io=Δ)(ds:Ê):bB T (n+1) f ds=lu (bB T n) fn ds:=by show(match T f with|some fn=>(match fn.io with|false=>kN (bB T n) fn ds|true=>lu (bB T n) fn ds)|none=>Gq)=_;rw[h1];show(match fn.io with|false=>kN (bB T n) fn ds|true=>lu (bB T n) fn ds)=_;rw[h5]
def B4 {f p:Nat}{Pa:Ψ->Prop}{A:Η}(d:HC K Z T f p Pa)(hr:Rm 0 A)(h:A.handled=Ξ):NB P w K mg base (JR P w) A (bB T 0) f p Pa:=by
 obtain⟨fn,nm,qual,st,fa,fd,ps,h1,h2,h3,h4,h5⟩:=d.ex;have no:∀vs H Q E,¬Nb K (bB T 0) f p ps vs H Q E:=λvs H Q E Qt=>by obtain⟨_,a,d0,f0,F,w1,e1,ws,ds,_,_,_,_,d,d1,h,_⟩:=Qt;cases h
 exact⟨3,fa,fd,ps,h3,h4,⟨λvs H Q E h=>h.1,λA outer s H args us vs Q E _ _ _ _ h=>(no _ _ _ _ h).elim⟩,hr.room (by omega) h,by decide,λds r h=>by cases h⟩
def B5 (t:Jz K mg Z T){n f p:Nat}{Pa:Ψ->Prop}{A:Η}(h9:n+1 < 490)(ih:Mv P w K mg base Z T n)(d:HC K Z T f p Pa)(hr:Rm (n+1) A)(h:A.handled=Ξ):NB P w K mg base (JR P w) A (bB T (n+1)) f p Pa:=by obtain⟨fn,nm,qual,st,fa,fd,ps,h1,h2,h3,h4,h5⟩:=d.ex;refine⟨2*n+4+1,fa,fd,ps,h3,h4,qT t (k:=2*n+4) (n:=n) (by omega) (by omega) h1 h2 h5 (by omega) ih,hr.room h9 h,by omega,λds r h=>?_⟩;rw[pU h1 h5.io]at h;obtain⟨gd,_⟩:=nR h;rw[p_ gd,h5.np]
def Fz {f:Nat}{Pa:Ψ->Prop}{A:Η}(d:Kz K Z T f Pa)(hr:Rm 0 A)(h:A.handled=Ξ):Q9 P w K mg base (JR P w) A (bB T 0) f Pa:=by
 obtain⟨fn,nm,qual,st,fa,fd,ps,h1,h2,h3,h4,h5⟩:=d.ex;have no:∀vs H Q E,¬Nb K (bB T 0) f 0 ps vs H Q E:=λvs H Q E Qt=>by obtain⟨_,a,d0,f0,F,w1,e1,ws,ds,_,_,_,_,d,d1,h,_⟩:=Qt;cases h
 exact⟨3,fa,fd,ps,h3,h4,⟨λvs H Q E h=>h.1,λA outer s H args us vs Q E _ _ _ _ h=>(no _ _ _ _ h).elim⟩,hr.room (by omega) h,by decide,λds r h=>by cases h⟩
def FA (t:Jz K mg Z T){n f:Nat}{Pa:Ψ->Prop}{A:Η}(h9:n+1 < 490)(ih:Mv P w K mg base Z T n)(d:Kz K Z T f Pa)(hr:Rm (n+1) A)(h:A.handled=Ξ):Q9 P w K mg base (JR P w) A (bB T (n+1)) f Pa:=by obtain⟨fn,nm,qual,st,fa,fd,ps,h1,h2,h3,h4,h5⟩:=d.ex;refine⟨2*n+4+1,fa,fd,ps,h3,h4,qT t (k:=2*n+4) (n:=n) (by omega) (by omega) h1 h2 h5 (by omega) ih,hr.room h9 h,by omega,λds r h=>?_⟩;rw[pU h1 h5.io]at h;obtain⟨gd,_⟩:=nR h;rw[p_ gd,h5.np]
theorem Ac (t:Jz K mg Z T):∀(n:Nat),n < 490->Mv P w K mg base Z T n
 |0,h9=>by
  refine⟨λA hr f hf hc x hx=>?_,λA hr f c m h hc=>B4 (t.Im f c m h) hr hc,λA hr f p h hc x hx=>B4 (t.JM f p h x hx) hr hc,λA hr f c m h hc=>Fz (t.JN f c m h) hr hc,λA hr f c m h hc=>?_,λA hr i c f x h hc hx=>B4 (t.Mn i c f x h hx) hr hc⟩
  ·obtain⟨fn,st,fa,fd,ps,h1,h2,h3,h4,h5⟩:=(t.fns f hf x hx).ex;have no:∀vs H Q E,¬M' K (bB T 0) (Mr K) f ps vs H Q E:=λvs H Q E ⟨_,_,F,ds,_,_,h⟩=>h;exact⟨1004+2*0,fa,fd,ps,h3,h2.kp,h4,⟨λvs H Q E h=>h.1,λA outer s H args us vs Q E _ _ _ _ h=>(no _ _ _ _ h).elim⟩,hr.Mu h9,λex ds k h=>h.elim⟩
  ·obtain⟨fn,nm,qual,st,fa,fd,ps,h1,h2,h3,h4,h5⟩:=(t.fmt f c m h).ex;have no:∀vs H Q E,¬M' K (bB T 0) (Mr K) f ps vs H Q E:=λvs H Q E ⟨_,_,F,ds,_,_,h⟩=>h;exact⟨1004+2*0,fa,fd,ps,h3,h4,⟨λvs H Q E h=>h.1,λA outer s H args us vs Q E _ _ _ _ h=>(no _ _ _ _ h).elim⟩,hr.Mu h9,λex ds k h=>h.elim⟩
 |n+1,h9=>by
  have ih:=Ac t n (by omega);have hlen:∀ {f:Nat}{fn:Fn}{ps:Â}{st:Stmt},T f=Γ fn->JS Z fn ps st->∀(ex:EX->Prop) ds (k:D->Prop),Gb ex (bB T (n+1) f ds) k->ds.length=ps.length:=λh1 h5 ex ds k h=>by rw[yN h1 h5.pl]at h;obtain⟨gd,_⟩:=Gb.Gn h;rw[p_ gd,h5.np]
  refine⟨λA hr f hf hc x hx=>?_,λA hr f c m h hc=>B5 t h9 ih (t.Im f c m h) hr hc,λA hr f p h hc x hx=>B5 t h9 ih (t.JM f p h x hx) hr hc,λA hr f c m h hc=>FA t h9 ih (t.JN f c m h) hr hc,λA hr f c m h hc=>?_,λA hr i c f x h hc hx=>B5 t h9 ih (t.Mn i c f x h hx) hr hc⟩
  ·obtain⟨fn,st,fa,fd,ps,h1,h2,h3,h4,h5⟩:=(t.fns f hf x hx).ex;by_cases N1:f∈Z.pl
   ·exact⟨1004+2*n+1,fa,fd,ps,h3,h2.kp,h4,nh t (k:=1004+2*n) (n:=n) (by omega) (by omega) h1 h2 h5 (.inr (t.Wq f N1 fn h1)) ih,Hh.less (k:=1004+2*n+1) (show Hh (1004+2*n+1+1) A from hr.Mu h9) (by omega),hlen h1 h5⟩
   ·exact⟨2*n+4+1,fa,fd,ps,h3,h2.kp,h4,nh t (k:=2*n+4) (n:=n) (by omega) (by omega) h1 h2 h5 (.inl (by omega)) ih,Hh.less (k:=2*n+4+1) (show Hh (2*n+4+1+1) A from hr.room h9 (hc.elim id λz=>absurd z N1)) (by omega),hlen h1 h5⟩
  ·obtain⟨fn,nm,qual,st,fa,fd,ps,h1,h2,h3,h4,h5⟩:=(t.fmt f c m h).ex;exact⟨2*n+4+1,fa,fd,ps,h3,h4,nh t (k:=2*n+4) (n:=n) (by omega) (by omega) h1 h2 h5 (.inl (by omega)) ih,Hh.less (k:=2*n+4+1) (show Hh (2*n+4+1+1) A from hr.room h9 hc) (by omega),hlen h1 h5⟩
end
def Pg (K:Frag)(cl:Ä)(f:Nat)(ps:Â):Sp:=λvs H Q E=>vs.length=ps.length/\∃F ds,JP F H/\FZ K F H vs ds/\
 Gb Jd (cl f (Gr ds)) λd=>∀v H' F' fv,Out K F H F' H' v d fv->Q v H'
def wc {K:Frag}{cl:Ä}  (F:Ic P w K mg base (JR P w) k fa fd ps (M' K cl (Mr K) f ps)):Ic P w K mg base (JR P w) k fa fd ps (Pg K cl f ps):=by
 refine⟨λvs H Q E h=>h.1,λA outer s H args us vs Q E hr e0 bd r KC=>?_⟩;obtain⟨hl,Fc,ds,G9,m,q⟩:=KC;have e1:IY P w K mg base A outer s (iA s.heap H):=⟨e0.frames,e0.mod,λb o e=>⟨(e0.bs b o e).1,jb (e0.bs b o e).2⟩,e0.L3,e0.IA,λb hb=>jb (e0.Lo b hb),rR e0.G3,e0.bare⟩
 have hq:Gb (Mr K E (iA s.heap H)) (cl f (Gr ds)) λd=>∀v H' F' fv,Out K Fc H F' H' v d fv->Q v H':=by
  cases z:cl f (Gr ds) with
  |ok d=>rw[z]at q;exact q
  |error er=>
   rw[z]at q;cases er with
   |stuck=>exact q.no.elim
   |exc c=>exact False.elim q
 have hs:M' K cl (Mr K) f ps vs (iA s.heap H) (λv H'=>J6 s.heap H H'->Q v (kO H H')) E:=
  ⟨hl,vD e0.G3,_,ds,λa h=>h.2,tD e0.G3 m,hq.mono λd hd v H' F' fv o p=>hd v _ _ fv (m8 e0.G3 G9 p o)⟩
 refine codeAny_mono (F.run A outer s (iA s.heap H) args us vs _ E hr e1 bd r hs) λr' s' hq=>?_;cases r' with
 |error e=>exact hq
 |ok fl=>
  cases fl with
  |ret u=>obtain⟨v,H',a1,a2,a3,a4,a5,a6⟩:=hq;exact⟨v,kO H H',a1,a2,vF e0.G3 a3,rS e0.G3 a4 (m7 e0.G3 a4 a3) (fs:=Jr outer) (λb o _ e n f=>a3.keep b o e n f (by simp)) e0.Lo,a5,a6 (m7 e0.G3 a4 a3)⟩
  |next=>exact hq
  |brk=>exact hq
  |cont=>exact hq
def B6 {K:Frag}(t:Jz K mg Z T)(n:Nat)(hn:n < 490)  {st:Stmt}  (h1:T f=Γ fn)(h2:Ky K x x st fa fd)(h5:JS Z fn ps st):Ic P w K mg base (JR P w) (2*n+4+1) fa fd ps (Pg K (bB T (n+1)) f ps):=
 wc (nh t (k:=2*n+4) (n:=n) (by omega) hn h1 h2 h5 (.inl (by omega)) (Ac t n hn))
def B7 {K:Frag}{ns:Å}(hS:Ls K H a (ns.map V.int))(hl:bB T n f [.lst Θ (ns.map .int)]=.ok (.bl Δ)) :
  Pg K (bB T n) f [x] [.ref a] H (λv _=>v=.bl Δ) λ_ _ _=>False:=by
 have m:FZ K (λa=>H a≠Ξ) H [.ref a] [.lst Θ (ns.map .int)]:=by
  refine .cons ?_ .nil;rcases hS with hS|hS
  ·exact .lst hS.some hS (FZ.ofInts ns)
  ·exact .lstK hS (FZ.ofInts ns)
 refine⟨rfl,λa=>H a≠Ξ,[.lst Θ (ns.map .int)],λa h=>h,m,?_⟩;have he:Gr [.lst Θ (ns.map .int)]=[D.lst Θ (ns.map .int)]:=by rw[Gr,Gr,er,jv,V_];rfl
 rw[he,hl];intro v H' F' fv o;cases o.rep;rfl
def wd {l:PySem.W.OpenLaw}  {K:Params->Frag}{T:Tb}  (hn:l.most=Γ 63)(PL:d.params.defaults=[])(hr:Hh (2*n+4+1) callerA)
  (hY:∀(w:Α) (h:Heap),YP w h->(K w.params).In h)
  (F:∀(w:Α) (mg:Str->Option Φ) (fa:Ψ) (h:Heap),(K w.params).In h->h.Ns Ζ mg->mg d.name=Γ (.ref fa)->
   ∃fd:Ν,(∀(s:Ω) (u:Φ),BindsTo s fd ⟨[u],[]⟩ [(x,u)])/\∀base:Heap,(K w.params).In base->base.Ns Ζ mg->Ic l.prog w (K w.params) mg base (JR l.prog w) (2*n+4+1) fa fd [x] (Pg (K w.params) (bB T (n+1)) f [x]))
  (hl:∀ns:Å,ns.length<=63->bB T (n+1) f [.lst Θ (ns.map .int)]=.ok (.bl Δ)) :
  PySem.W.WalkO q loose XP YP l.row.toRowW d [] (λf vs=>PySem.call f vs):=
 L2.xT (n:=63) (k:=2*n+4+1) (x:=x) (CX:=λw=>JR l.prog w) (sp:=λw=>Pg (K w.params) (bB T (n+1)) f [x]) hn (by decide) PL hr hY F (λw H a ns h1 _ hS=>B7 hS (hl ns h1)) λ_ _ _ _ _ z=>z
section
variable {α β:Type}{cl:Ä}{τ:Ev}{mv:Bool}
def dP:FW (.ok a) f=f a:=rfl
def dS:Gn Δ x=x:=rfl
def GB:Gs cl (.c d) τ=.ok d:=rfl
def GC:Gs cl (.g n d) τ=.ok d:=rfl
def GD:Gs cl (.v i) τ=(match dJ τ i with|some d=>.ok d|none=>Gq):=rfl
abbrev DU (cl:Ä)(op:Ol)(b:IR)(τ:Ev)(x:D):Res D:=FW (Gs cl b τ) (JL op x)
def bJ:DU cl op b τ x=FW (Gs cl b τ) (JL op x):=rfl
def dU:Gs cl (.bin op a b) τ=FW (Gs cl a τ) (DU cl op b τ):=rfl
abbrev DV:D->Res D
 |.int i=>.ok (.int (-i))
 |_=>Gq
def dW:Gs cl (.neg a) τ=FW (Gs cl a τ) DV:=rfl
def bK:DV (.int i)=.ok (.int (-i)):=rfl
abbrev TK (r:Bool):Res D:=.ok (.bl r)
def dX:TK r=.ok (.bl r):=rfl
abbrev qU (op:Md)(x y:D):Res D:=FW (HV op x y) TK
def ax:qU op x y=FW (HV op x y) TK:=rfl
abbrev DW (cl:Ä)(op:Md)(b:IR)(τ:Ev)(x:D):Res D:=FW (Gs cl b τ) (qU op x)
def bL:DW cl op b τ x=FW (Gs cl b τ) (qU op x):=rfl
def dY:Gs cl (.cmp op a b) τ=FW (Gs cl a τ) (DW cl op b τ):=rfl
abbrev B8 (cl:Ä)(Ih:Md)(c:IR)(τ:Ev)(y:D)(r:Bool):Res D:=if r=Δ then FW (Gs cl c τ) (qU Ih y) else .ok (.bl Θ)
def bM:B8 cl Ih c τ y r=if r=Δ then FW (Gs cl c τ) (qU Ih y) else .ok (.bl Θ):=rfl
abbrev B9 (cl:Ä)(op Ih:Md)(c:IR)(τ:Ev)(x y:D):Res D:=FW (HV op x y) (B8 cl Ih c τ y)
def bN:B9 cl op Ih c τ x y=FW (HV op x y) (B8 cl Ih c τ y):=rfl
abbrev Wu (cl:Ä)(op Ih:Md)(b c:IR)(τ:Ev)(x:D):Res D:=FW (Gs cl b τ) (B9 cl op Ih c τ x)
def dZ:Wu cl op Ih b c τ x=FW (Gs cl b τ) (B9 cl op Ih c τ x):=rfl
def az:Gs cl (.chain op Ih a b c) τ=FW (Gs cl a τ) (Wu cl op Ih b c τ):=rfl
abbrev we (cl:Ä)(b:IR)(τ:Ev)(x:D)(r:Bool):Res D:=if r=Δ then Gs cl b τ else .ok x
def aA:we cl b τ x r=if r=Δ then Gs cl b τ else .ok x:=rfl
abbrev DX (cl:Ä)(b:IR)(τ:Ev)(x:D):Res D:=FW (iH x) (we cl b τ x)
def bP:DX cl b τ x=FW (iH x) (we cl b τ x):=rfl
def d7:Gs cl (.Ie a b) τ=FW (Gs cl a τ) (DX cl b τ):=rfl
abbrev Ca (cl:Ä)(b:IR)(τ:Ev)(x:D)(r:Bool):Res D:=if r=Δ then .ok x else Gs cl b τ
def bQ:Ca cl b τ x r=if r=Δ then .ok x else Gs cl b τ:=rfl
abbrev Wv (cl:Ä)(b:IR)(τ:Ev)(x:D):Res D:=FW (iH x) (Ca cl b τ x)
def eh:Wv cl b τ x=FW (iH x) (Ca cl b τ x):=rfl
def gq:Gs cl (.Kf a b) τ=FW (Gs cl a τ) (Wv cl b τ):=rfl
abbrev wg (r:Bool):Res D:=.ok (.bl !r)
def aC:wg r=.ok (.bl !r):=rfl
abbrev DY (x:D):Res D:=FW (iH x) wg
def bR:DY x=FW (iH x) wg:=rfl
def eA:Gs cl (.HI a) τ=FW (Gs cl a τ) DY:=rfl
abbrev wj (cl:Ä)(a b:IR)(τ:Ev)(r:Bool):Res D:=if r=Δ then Gs cl a τ else Gs cl b τ
def aD:wj cl a b τ r=if r=Δ then Gs cl a τ else Gs cl b τ:=rfl
abbrev DZ (cl:Ä)(a b:IR)(τ:Ev)(x:D):Res D:=FW (iH x) (wj cl a b τ)
def bS:DZ cl a b τ x=FW (iH x) (wj cl a b τ):=rfl
def eB:Gs cl (.ite t a b) τ=FW (Gs cl t τ) (DZ cl a b τ):=rfl
abbrev tupK (ds:Ê):Res D:=Gn (jf ds.length) (.ok (.tup ds))
def bT:tupK ds=Gn (jf ds.length) (.ok (.tup ds)):=rfl
def eC:Gs cl (.tup es) τ=FW (iq cl es τ) tupK:=rfl
abbrev lstK (ds:Ê):Res D:=Gn (jf ds.length) (.ok (.lst Δ ds))
def bU:lstK ds=Gn (jf ds.length) (.ok (.lst Δ ds)):=rfl
def eE:Gs cl (.lst es) τ=FW (iq cl es τ) lstK:=rfl
abbrev D0 (cl:Ä)(i:IR)(τ:Ev)(x:D):Res D:=FW (Gs cl i τ) (lM x)
def bV:D0 cl i τ x=FW (Gs cl i τ) (lM x):=rfl
def eF:Gs cl (.idx a i) τ=FW (Gs cl a τ) (D0 cl i τ):=rfl
abbrev Cb (cl:Ä)(hi:Option IR)(τ:Ev)(x:D)(l:Option Int):Res D:=FW (pC cl hi τ) (qv x l)
def bW:Cb cl hi τ x l=FW (pC cl hi τ) (qv x l):=rfl
abbrev Ww (cl:Ä)(lo hi:Option IR)(τ:Ev)(x:D):Res D:=FW (pC cl lo τ) (Cb cl hi τ x)
def eG {lo:Option IR}:Ww cl lo hi τ x=FW (pC cl lo τ) (Cb cl hi τ x):=rfl
def gr {lo:Option IR}:Gs cl (.sl a lo hi) τ=FW (Gs cl a τ) (Ww cl lo hi τ):=rfl
abbrev Ad (cl:Ä)(f:Nat)(ds:Ê):Res D:=cl f (Gr ds)
def aE:Ad cl f ds=cl f (Gr ds):=rfl
def bX:Gs cl (.call f es) τ=FW (iq cl es τ) (Ad cl f):=rfl
def gu:Gs cl (.bi f es) τ=FW (iq cl es τ) (jZ f):=rfl
abbrev D1 (k:Kd)(x:D):Res D:=Gn (kz x) (.ok (.bl (kA k x)))
def bY:D1 k x=Gn (kz x) (.ok (.bl (kA k x))):=rfl
def gv:kz (.int i)=Δ:=rfl
def gw:kz (.str x)=Δ:=rfl
def gy:kz (.tup ds)=Δ:=rfl
def gz {o:Bool}  : kz (.lst o ds)=Δ:=rfl
def bZ:Gs cl (.IT a) τ=FW (Gs cl a τ) vp:=rfl
def gA {o:Bool}  : vp (.lst o ds)=.ok (.lst Δ ds.reverse):=rfl
abbrev Ae (cl:Ä)(k:IR)(τ:Ev)(x:D):Res D:=FW (Gs cl k τ) (qx x)
def aF {k:IR}{x:D}:Ae cl k τ x=FW (Gs cl k τ) (qx x):=rfl
def b7 {a k:IR}:Gs cl (.J2 a k) τ=FW (Gs cl a τ) (Ae cl k τ):=rfl
def cb {a:IR}{x:Str}{cs:Â}:Gs cl (.IU a x cs) τ=FW (Gs cl a τ) (yh x cs):=rfl
abbrev wk (cl:Ä)(f:Nat)(x:D)(ds:Ê):Res D:=cl f (er x::Gr ds)
def aG {f:Nat}{x:D}{ds:Ê}:wk cl f x ds=cl f (er x::Gr ds):=rfl
abbrev Af (cl:Ä)(f:Nat)(m c:Str)(es:Ç)(τ:Ev)(x:D):Res D:=Gn (jE c m x) (FW (iq cl es τ) (wk cl f x))
def aH {f:Nat}{m c:Str}{es:Ç}{x:D}:Af cl f m c es τ x=Gn (jE c m x) (FW (iq cl es τ) (wk cl f x)):=rfl
def cf {f:Nat}{m c:Str}{a:IR}{es:Ç}:Gs cl (.HM f m c a es) τ=FW (Gs cl a τ) (Af cl f m c es τ):=rfl
def cg {a:IR}:Gs cl (.KR a) τ=FW (Gs cl a τ) sW:=rfl
def cj {es:Ç}:Gs cl (.ID es) τ=FW (iq cl es τ) lstK:=rfl
def ck {a:IR}:Gs cl (.JY a) τ=FW (Gs cl a τ) sV:=rfl
def eJ:Gs cl (.J3 a k) τ=FW (Gs cl a τ) (D1 k):=rfl
abbrev D2 (cl:Ä)(m:Mt)(es:Ç)(τ:Ev)(x:D):Res D:=Gn (kZ x) (FW (iq cl es τ) (oA m x))
def cn:D2 cl m es τ x=Gn (kZ x) (FW (iq cl es τ) (oA m x)):=rfl
def eK {o:IR}  : Gs cl (.Me m o es) τ=FW (Gs cl o τ) (D2 cl m es τ):=rfl
abbrev Cc (ds:Ê):Res D:=.ok (.lst Δ ds)
def cq:Cc ds=.ok (.lst Δ ds):=rfl
abbrev Ag (cl:Ä)(G:Gm)(fr:Ã)(T:Tg)(I:Ç)(E:IR)(τ:Ev)(its:Ê):Res D:=Gn (ky its.length) (FW (Ia (iX (jr cl T I E (K0 G fr τ)) its)) Cc)
def aI {T:Tg}  {its:Ê}:Ag cl G fr T I E τ its=Gn (ky its.length) (FW (Ia (iX (jr cl T I E (K0 G fr τ)) its)) Cc):=rfl
def cu {T:Tg}  : Gs cl (.comp G fr T s I E) τ=FW (kB cl s τ) (Ag cl G fr T I E τ):=rfl
def gB:iq cl [] τ=.ok []:=rfl
abbrev wm (d:D)(ds:Ê):Res (Ê):=.ok (d::ds)
def aJ:wm d ds=.ok (d::ds):=rfl
abbrev Wx (cl:Ä)(es:Ç)(τ:Ev)(d:D):Res (Ê):=FW (iq cl es τ) (wm d)
def eL:Wx cl es τ d=FW (iq cl es τ) (wm d):=rfl
def gC:iq cl (e::es) τ=FW (Gs cl e τ) (Wx cl es τ):=rfl
abbrev D3:D->Res (Option Int)
 |.int i=>.ok (Γ i)
 |_=>Gq
def cv:D3 (.int i)=.ok (Γ i):=rfl
def gD:pC cl Ξ τ=.ok Ξ:=rfl
def gE:pC cl (Γ e) τ=FW (Gs cl e τ) D3:=rfl
def gF:lj cl [] τ=.ok Δ:=rfl
abbrev Wz (cl:Ä)(es:Ç)(τ:Ev)(r:Bool):Res Bool:=if r=Δ then lj cl es τ else .ok Θ
def eQ:Wz cl es τ r=if r=Δ then lj cl es τ else .ok Θ:=rfl
def gG:lj cl (e::es) τ=FW (FW (Gs cl e τ) iH) (Wz cl es τ):=rfl
abbrev Ah:D->Res (Ê)
 |.int i=>Gn (jk i) (.ok (iW 0 i))
 |_=>Gq
abbrev wo:D->D->Res (Ê)
 |.int i,.int j=>Gn (jk i&&jk j) (.ok (iW i j))
 |_,_=>Gq
def aK:Ah (.int i)=Gn (jk i) (.ok (iW 0 i)):=rfl
def aL {i j:Int}:wo (.int i) (.int j)=Gn (jk i&&jk j) (.ok (iW i j)):=rfl
def gH:kB cl (.Hj n) τ=FW (Gs cl n τ) Ah:=rfl
abbrev WA (cl:Ä)(b:IR)(τ:Ev)(x:D):Res (Ê):=FW (Gs cl b τ) (wo x)
def eS {b:IR}{x:D}:WA cl b τ x=FW (Gs cl b τ) (wo x):=rfl
def gI {a b:IR}:kB cl (.IV a b) τ=FW (Gs cl a τ) (WA cl b τ):=rfl
def eU {a:IR}:kB cl (.J4 a) τ=FW (Gs cl a τ) yg:=rfl
def eV:kB cl (.val e) τ=FW (Gs cl e τ) k9:=rfl
def gJ {o:Bool}  : k9 (.lst o ds)=.ok ds:=rfl
def gK:k9 (.tup ds)=.ok ds:=rfl
def gL:k9 (.str x)=Gn (jf x.length) (.ok (jD x)):=rfl
def GF:KH cl t τ=FW (Gs cl t τ) iH:=rfl
def ÿaj:Ho cl mv (.v i) τ=(match dJ τ i with|some d=>if mv=Δ then .ok (d,τ.set i Ξ) else .ok (er d,τ.set i (Γ (er d)))|none=>Gq):=rfl
abbrev Ai (p:Ê×Ev):Res (D×Ev):=Gn (jf p.1.length) (.ok (.tup p.1,p.2))
def aM:Ai p=Gn (jf p.1.length) (.ok (.tup p.1,p.2)):=rfl
def ÿba:Ho cl mv (.tup es) τ=FW (oB cl mv es τ) Ai:=rfl
abbrev Aj (p:Ê×Ev):Res (D×Ev):=Gn (jf p.1.length) (.ok (.lst Δ p.1,p.2))
def aN:Aj p=Gn (jf p.1.length) (.ok (.lst Δ p.1,p.2)):=rfl
def ÿbb:Ho cl mv (.lst es) τ=FW (oB cl mv es τ) Aj:=rfl
abbrev Ak (cl:Ä)(mv:Bool)(a b:IR)(τ:Ev)(r:Bool):Res (D×Ev):=if r=Δ then Ho cl mv a τ else Ho cl mv b τ
def aO {a b:IR}{r:Bool}:Ak cl mv a b τ r=if r=Δ then Ho cl mv a τ else Ho cl mv b τ:=rfl
def ÿbc:Ho cl mv (.ite t a b) τ=FW (KH cl t τ) (Ak cl mv a b τ):=rfl
abbrev pV (es:Ç)(τ:Ev)(d:D):Res (D×Ev):=if i7 d=Δ then .ok (d,τ) else .ok (d,Gy (dI es) τ)
def ae:pV es τ d=if i7 d=Δ then .ok (d,τ) else .ok (d,Gy (dI es) τ):=rfl
abbrev wq (cl:Ä)(f:Nat)(es:Ç)(τ:Ev)(ds:Ê):Res (D×Ev):=FW (cl f (Gr ds)) (pV es τ)
def ak:wq cl f es τ ds=FW (cl f (Gr ds)) (pV es τ):=rfl
def ÿa:Ho cl mv (.call f es) τ=FW (iq cl es τ) (wq cl f es τ):=rfl
abbrev kj (e:IR)(τ:Ev)(d:D):Res (D×Ev):=.ok (iT e d τ)
def aP:kj e τ d=.ok (iT e d τ):=rfl
def GG:Ho cl mv (.c d) τ=FW (Gs cl (.c d) τ) (kj (.c d) τ):=rfl
def GH {n:Nat}{d:D}:Ho cl mv (.g n d) τ=FW (Gs cl (.g n d) τ) (kj (.g n d) τ):=rfl
def eW:Ho cl mv (.bin op a b) τ=FW (Gs cl (.bin op a b) τ) (kj (.bin op a b) τ):=rfl
def eY:Ho cl mv (.cmp op a b) τ=FW (Gs cl (.cmp op a b) τ) (kj (.cmp op a b) τ):=rfl
def eZ:Ho cl mv (.Ie a b) τ=FW (Gs cl (.Ie a b) τ) (kj (.Ie a b) τ):=rfl
def e6:Ho cl mv (.idx a i) τ=FW (Gs cl (.idx a i) τ) (kj (.idx a i) τ):=rfl
def gM {f:Bi}{es:Ç}:Ho cl mv (.bi f es) τ=FW (Gs cl (.bi f es) τ) (kj (.bi f es) τ):=rfl
def cw:Ho cl mv (.IT a) τ=FW (Gs cl (.IT a) τ) (kj (.IT a) τ):=rfl
def ÿaa:Ho cl mv .JE τ=.ok (.G4 Δ [] [],τ):=rfl
def cx {f:Nat}{m c:Str}{a:IR}{es:Ç}:Ho cl mv (.HM f m c a es) τ=FW (Gs cl (.HM f m c a es) τ) (kj (.HM f m c a es) τ):=rfl
def cy {es:Ç}:Ho cl mv (.ID es) τ=FW (Gs cl (.ID es) τ) (kj (.ID es) τ):=rfl
abbrev D4 (cl:Ä)(f:Nat)(c:Str)(es:Ç)(τ:Ev)(ds:Ê):Res (D×Ev):=FW (Ia (cl f (.obj Δ c [] []::Gr ds))) (rP (Gy (dI es) τ))
def cz {f:Nat}{c:Str}{es:Ç}{ds:Ê}:D4 cl f c es τ ds=FW (Ia (cl f (.obj Δ c [] []::Gr ds))) (rP (Gy (dI es) τ)):=rfl
def cA {c:Str}{ks:Â}{vs:Ê}:rP τ (.tup [.Gx,.obj Δ c ks vs])=.ok (.obj Δ c ks vs,τ):=rfl
def ÿbd {n f:Nat}{c:Str}{es:Ç}:Ho cl mv (.Jv n f c es) τ=FW (iq cl es τ) (D4 cl f c es τ):=rfl
def e8 {o:IR}  : Ho cl mv (.Me m o es) τ=FW (Gs cl (.Me m o es) τ) (kj (.Me m o es) τ):=rfl
def cB {T:Tg}  : Ho cl mv (.comp G fr T s I E) τ=FW (Gs cl (.comp G fr T s I E) τ) (kj (.comp G fr T s I E) τ):=rfl
def gN:oB cl mv [] τ=.ok ([],τ):=rfl
abbrev Cd (d:D)(q:Ê×Ev):Res (Ê×Ev):=.ok (d::q.1,q.2)
def cC:Cd d q=.ok (d::q.1,q.2):=rfl
abbrev WB (cl:Ä)(mv:Bool)(es:Ç)(p:D×Ev):Res (Ê×Ev):=FW (oB cl mv es p.2) (Cd p.1)
def e9:WB cl mv es p=FW (oB cl mv es p.2) (Cd p.1):=rfl
def gO:oB cl mv (e::es) τ=FW (Ho cl mv e τ) (WB cl mv es):=rfl
abbrev TL (d:D):Res (À):=.ok (Γ d)
def ff:TL d=.ok (Γ d):=rfl
abbrev Ce (cl:Ä)(E:IR)(τ:Ev)(r:Bool):Res (À):=if r=Δ then FW (Gs cl E τ) TL else .ok Ξ
def cD:Ce cl E τ r=if r=Δ then FW (Gs cl E τ) TL else .ok Ξ:=rfl
abbrev WC (cl:Ä)(I:Ç)(E:IR)(τ:Ev):Res (À):=FW (lj cl I τ) (Ce cl E τ)
def fg:WC cl I E τ=FW (lj cl I τ) (Ce cl E τ):=rfl
def aQ {T:Tg}  : jr cl T I E τ x=FW (jo T x τ) (WC cl I E):=rfl
def cE:K0 G fr τ=fr.map (dJ τ)++Ρ (G.N.length - fr.length) Ξ:=rfl
def GI:iT e (.int i) τ=(.int i,τ):=rfl
def GJ:iT e (.str x) τ=(.str x,τ):=rfl
def GK:iT e (.bl b) τ=(.bl b,τ):=rfl
def GL:iT e .Gx τ=(.Gx,τ):=rfl
abbrev TM (Gv:Ev):Res Fl:=.ok (.nx Gv)
def fq:TM τ=.ok (.nx τ):=rfl
abbrev D5 (tg:Tg)(p:D×Ev):Res Fl:=FW (jo tg p.1 p.2) TM
def cF:D5 tg p=FW (jo tg p.1 p.2) TM:=rfl
def ÿab:Hy cl (.asg tg e) τ=FW (Ho cl Θ e τ) (D5 tg):=rfl
abbrev wt (i:Nat)(p:D×Ev)(ds:Ê):D->Res Fl
 |.int z=>(match JI ds.length z with
  |some j=>.ok (.nx (p.2.set i (Γ (.lst Δ (ds.set j p.1)))))
  |none=>Gq)
 |_=>Gq
abbrev Cf (cl:Ä)(i:Nat)(k:IR)(p:D×Ev):À->Res Fl
 |some (.lst Δ ds)=>FW (Gs cl k p.2) (wt i p ds)
 |_=>Gq
def cG {i:Nat}{k:IR}{p:D×Ev}{ds:Ê}:Cf cl i k p (Γ (.lst Δ ds))=FW (Gs cl k p.2) (wt i p ds):=rfl
def aR {i:Nat}{p:D×Ev}{ds:Ê}{z:Int}:wt i p ds (.int z)=(match JI ds.length z with|some j=>.ok (.nx (p.2.set i (Γ (.lst Δ (ds.set j p.1)))))|none=>Gq):=rfl
abbrev wu (cl:Ä)(i:Nat)(k:IR)(p:D×Ev):Res Fl:=Cf cl i k p (dJ p.2 i)
def aq:wu cl i k p=Cf cl i k p (dJ p.2 i):=rfl
def ÿce {i:Nat}{k e:IR}:Hy cl (.IE i k e) τ=FW (Ho cl Θ e τ) (wu cl i k):=rfl
abbrev Cg (i:Nat)(p:D×Ev):À->Res Fl
 |some (.lst Δ ds)=>Gn (ky ds.length) (.ok (.nx (p.2.set i (Γ (.lst Δ (ds++[p.1]))))))
 |_=>Gq
abbrev Ci (i:Nat)(p:D×Ev):Res Fl:=Cg i p (dJ p.2 i)
def cH:Ci i p=Cg i p (dJ p.2 i):=rfl
abbrev D6 (cl:Ä)(i:Nat)(e:IR)(τ:Ev):À->Res Fl
 |some (.lst _ _)=>FW (Ho cl Θ e τ) (Ci i)
 |_=>Gq
def cI {o:Bool}  : D6 cl i e τ (Γ (.lst o ds))=FW (Ho cl Θ e τ) (Ci i):=rfl
def cJ:Cg i p (Γ (.lst Δ ds))=Gn (ky ds.length) (.ok (.nx (p.2.set i (Γ (.lst Δ (ds++[p.1])))))):=rfl
abbrev yO (i:Nat)(e:IR)(τ:Ev)(d:D)(ks:List Key)(ds:Ê):Option Key->Res Fl
 |some q=>Gn (jU ds&&ky ks.length) (.ok (.nx ((Gy (vars e) τ).set i (Γ (.G4 Δ (nO ks q) (Gr (mV ks ds q d)))))))
 |none=>Gq
abbrev FC (cl:Ä)(i:Nat)(k e:IR)(τ:Ev)(d:D):À->Res Fl
 |some (.G4 Δ ks ds)=>FW (Gs cl k (Gy (vars e) τ)) λy=>yO i e τ d ks ds (nK y)
 |_=>Gq
abbrev D7 (cl:Ä)(i:Nat)(k e:IR)(τ:Ev)(d:D):Res Fl:=FC cl i k e τ d (dJ τ i)
def ÿbg {i:Nat}{k e:IR}:Hy cl (.JK i k e) τ=FW (Gs cl e τ) (D7 cl i k e τ):=by show FW (Gs cl e τ) (λd=>match dJ τ i with|some (.G4 Δ ks ds)=>FW (Gs cl k (Gy (vars e) τ)) λy=>(match nK y with|some q=>Gn (jU ds&&ky ks.length) (.ok (Fl.nx ((Gy (vars e) τ).set i (Γ (.G4 Δ (nO ks q) (Gr (mV ks ds q d)))))))|none=>Gq)|_=>Gq)=_;congr 1
def ÿad:Hy cl (.app i e) τ=D6 cl i e τ (dJ τ i):=rfl
abbrev D8 (τ:Ev)(d:D):Res Fl:=.ok (.nx τ)
def cK:D8 τ d=.ok (.nx τ):=rfl
def ÿaf:Hy cl (.exp e) τ=FW (Gs cl e τ) (D8 τ):=rfl
abbrev WD (p:D×Ev):Res Fl:=.ok (.rt p.1)
def fu:WD p=.ok (.rt p.1):=rfl
def ÿae:Hy cl (.ret e) τ=FW (Ho cl Δ e τ) WD:=rfl
abbrev WE (cl:Ä)(a b:Æ)(τ:Ev)(r:Bool):Res Fl:=if r=Δ then ix cl a τ else ix cl b τ
def fA:WE cl a b τ r=if r=Δ then ix cl a τ else ix cl b τ:=rfl
def ÿbe:Hy cl (.Hl t a b) τ=FW (KH cl t τ) (WE cl a b τ):=rfl
abbrev turn (cl:Ä)(tg:Tg)(body:Æ)(x:D)(τ:Ev):Res Fl:=FW (jo tg x τ) (ix cl body)
def jm:turn cl tg body x τ=FW (jo tg x τ) (ix cl body):=rfl
abbrev D9 (cl:Ä)(tg:Tg)(body:Æ)(p:Ê×Ev):Res Fl:=forM (turn cl tg body) p.1 p.2
def cL:D9 cl tg body p=forM (turn cl tg body) p.1 p.2:=rfl
def ÿb:Hy cl (.HR tg s body) τ=FW (qy cl s τ) (D9 cl tg body):=rfl
def ÿag {t:IR}{body:Æ}:Hy cl (.Iu t body) τ=i5 (KH cl t) (ix cl body) oT τ:=rfl
abbrev Al (i:Nat)(x:Str)(cs:Â)(fz:Bool)(p:D×Ev):Res Fl:=qz i x cs fz p.1 p.2 (dJ p.2 i)
def aT {i:Nat}{x:Str}{cs:Â}{fz:Bool}{d:D}:Al i x cs fz (d,τ)=qz i x cs fz d τ (dJ τ i):=rfl
def aU {i:Nat}{x:Str}{cs:Â}{fz:Bool}{d:D}{c:Str}{ks:Â}{ds:Ê}:qz i x cs fz d τ (Γ (.obj Δ c ks ds))=Gn (cs.contains c&&decide (ks.length < 1000)) (.ok (.nx (τ.set i (Γ (.obj Δ c (jw x ks) (iM x (if fz=Δ then er d else d) ks ds)))))):=rfl
def ÿah {i:Nat}{x:Str}{cs:Â}{fz:Bool}{e:IR}:Hy cl (.oset i x cs fz e) τ=FW (Ho cl Θ e τ) (Al i x cs fz):=rfl
abbrev wx (i:Nat)(x:Str)(cs:Â)(p:D×Ev):Res Fl:=oU i x cs p.1 p.2 (dJ p.2 i)
def aV {i:Nat}{x:Str}{cs:Â}{d:D}:wx i x cs (d,τ)=oU i x cs d τ (dJ τ i):=rfl
def aW {i:Nat}{x:Str}{cs:Â}{d:D}{c:Str}{ks:Â}{ds:Ê}:oU i x cs d τ (Γ (.obj Δ c ks ds))=Gn (cs.contains c) (sX i x c d τ ks ds (iw ks ds x)):=rfl
def aX {i:Nat}{x c:Str}{d:D}{ks:Â}{ds es:Ê}:sX i x c d τ ks ds (Γ (.lst Δ es))=Gn (ky es.length) (.ok (.nx (τ.set i (Γ (.obj Δ c ks (iM x (.lst Δ (es++[er d])) ks ds)))))):=rfl
abbrev Am (cl:Ä)(i:Nat)(x:Str)(cs:Â)(e:IR)(τ:Ev):À->Res Fl
 |some (.obj Δ c ks ds)=>Gn (cs.contains c&&um (iw ks ds x)) (FW (Ho cl Θ e τ) (wx i x cs))
 |_=>Gq
def aY {i:Nat}{x:Str}{cs:Â}{e:IR}{c:Str}{ks:Â}{ds:Ê}:Am cl i x cs e τ (Γ (.obj Δ c ks ds))=Gn (cs.contains c&&um (iw ks ds x)) (FW (Ho cl Θ e τ) (wx i x cs)):=rfl
def ÿbj {i:Nat}{x:Str}{cs:Â}{e:IR}:Hy cl (.KS i x cs e) τ=Am cl i x cs e τ (dJ τ i):=by
 show(match dJ τ i with|some (.obj Δ c ks ds)=>Gn (cs.contains c&&um (iw ks ds x)) (FW (Ho cl Θ e τ) λp=>oU i x cs p.1 p.2 (dJ p.2 i))|_=>Gq)=_;rcases dJ τ i with _|d
 ·rfl
 ·induction d using zD<;>first|rfl|(rename_i o c ks ds;induction o using zB<;>rfl)
abbrev An (cl:Ä)(j:Nat)(x:Str)(cs:Â)(k:IR)(τ:Ev):À->Res Fl
 |some (.obj Δ c ks ds)=>Gn (cs.contains c) (oV cl j k τ (iw ks ds x))
 |_=>Gq
def aZ {j:Nat}{x:Str}{cs:Â}{k:IR}{c:Str}{ks:Â}{ds:Ê}:An cl j x cs k τ (Γ (.obj Δ c ks ds))=Gn (cs.contains c) (oV cl j k τ (iw ks ds x)):=rfl
def a7 {j:Nat}{k:IR}{es:Ê}:oV cl j k τ (Γ (.lst Δ es))=FW (Gs cl k τ) (sY j τ es):=rfl
def aw {j:Nat}{z:Int}{es:Ê}{d:D}(h:Ib es z=Γ d)(hn:lq d=Δ):sY j τ es (.int z)=.ok (.nx (τ.set j (Γ d))):=by show(match Ib es z with|some d=>Gn (lq d) (.ok (Fl.nx (τ.set j (Γ d))))|none=>Gq:Res Fl)=_;rw[h];show Gn (lq d) _=_;rw[hn];rfl
def ÿc {j i:Nat}{x:Str}{cs:Â}{k:IR}:Hy cl (.LG j i x cs k) τ=An cl j x cs k τ (dJ τ i):=by
 show(match dJ τ i with|some (.obj Δ c ks ds)=>Gn (cs.contains c) (oV cl j k τ (iw ks ds x))|_=>Gq)=_;rcases dJ τ i with _|d
 ·rfl
 ·induction d using zD<;>first|rfl|(rename_i o c ks ds;induction o using zB<;>rfl)
abbrev Cj (cl:Ä)(j:É)(i f:Nat)(es:Ç)(τ:Ev)(o:D)(ds:Ê):Res Fl:=FW (Ia (cl f (o::Gr ds))) (ka j i (Gy (dI es) τ))
def cM {j:É}{i f:Nat}{es:Ç}{o:D}{ds:Ê}:Cj cl j i f es τ o ds=FW (Ia (cl f (o::Gr ds))) (ka j i (Gy (dI es) τ)):=rfl
abbrev Ea (cl:Ä)(j:É)(i f:Nat)(m c:Str)(es:Ç)(τ:Ev):À->Res Fl
 |some o=>Gn (iJ o&&jE c m o&&!(dI es).contains i) (FW (iq cl es τ) (Cj cl j i f es τ o))
 |none=>Gq
def cN {j:É}{i f:Nat}{m c:Str}{es:Ç}{o:D}:Ea cl j i f m c es τ (Γ o)=Gn (iJ o&&jE c m o&&!(dI es).contains i) (FW (iq cl es τ) (Cj cl j i f es τ o)):=rfl
def ÿbi {j:É}{i f:Nat}{m c:Str}{es:Ç}:Hy cl (.Nw j i f m c es) τ=Ea cl j i f m c es τ (dJ τ i):=by show(match dJ τ i with|some o=>Gn (iJ o&&jE c m o&&!(dI es).contains i) (FW (iq cl es τ) λds=>FW (Ia (cl f (o::Gr ds))) (ka j i (Gy (dI es) τ)))|none=>Gq)=_;rcases dJ τ i with _|d<;>rfl
abbrev Ao (cl:Ä)(y:Str)(f:Nat)(c0:Str)(ks:Â)(ds:Ê)(o:D)(as:Ê):Res Fl:=FW (Ia (cl f (o::Gr as))) (nQ y c0 ks ds)
def ba {y:Str}{f:Nat}{c0:Str}{ks:Â}{ds:Ê}{o:D}{as:Ê}:Ao cl y f c0 ks ds o as=FW (Ia (cl f (o::Gr as))) (nQ y c0 ks ds):=rfl
def bb {y:Str}{f:Nat}{m c:Str}{es:Ç}{c0:Str}{ks:Â}{ds:Ê}{o:D}:oW cl y f m c es τ c0 ks ds (Γ o)=Gn (iJ o&&jE c m o) (FW (iq cl es τ) (Ao cl y f c0 ks ds o)):=rfl
def bc {y c0:Str}{ks:Â}{ds:Ê}{d:D}{c:Str}{Kv:Â}{ds':Ê}:nQ y c0 ks ds (.tup [d,.obj Δ c Kv ds'])=.ok (.ro d (.obj Δ c0 ks (iM y (.obj Δ c Kv ds') ks ds))):=rfl
abbrev Ap (cl:Ä)(i:Nat)(y:Str)(cs:Â)(f:Nat)(m c:Str)(es:Ç)(τ:Ev):À->Res Fl
 |some (.obj Δ c0 ks ds)=>Gn (cs.contains c0&&!(dI es).contains i) (oW cl y f m c es τ c0 ks ds (iw ks ds y))
 |_=>Gq
def bf {i:Nat}{y:Str}{cs:Â}{f:Nat}{m c:Str}{es:Ç}{c0:Str}{ks:Â}{ds:Ê}:Ap cl i y cs f m c es τ (Γ (.obj Δ c0 ks ds))=Gn (cs.contains c0&&!(dI es).contains i) (oW cl y f m c es τ c0 ks ds (iw ks ds y)):=rfl
def ÿca {i:Nat}{y:Str}{cs:Â}{f:Nat}{m c:Str}{es:Ç}:Hy cl (.LI i y cs f m c es) τ=Ap cl i y cs f m c es τ (dJ τ i):=by
 show(match dJ τ i with|some (.obj Δ c0 ks ds)=>Gn (cs.contains c0&&!(dI es).contains i) (oW cl y f m c es τ c0 ks ds (iw ks ds y))|_=>Gq)=_;rcases dJ τ i with _|d
 ·rfl
 ·induction d using zD<;>first|rfl|(rename_i o c ks ds;induction o using zB<;>rfl)
abbrev Aq (d:D):À->Res Fl
 |some o=>Gn (iJ o) (.ok (.ro d o))
 |none=>Gq
def bg {d o:D}:Aq d (Γ o)=Gn (iJ o) (.ok (.ro d o)):=rfl
def bh {i:Nat}{d:D}:qA i (d,τ)=Aq d (dJ τ i):=by show(match dJ τ i with|some o=>Gn (iJ o) (.ok (Fl.ro d o))|none=>Gq:Res Fl)=_;rcases dJ τ i with _|o<;>rfl
def ÿai {i:Nat}{e:IR}:Hy cl (.Ku i e) τ=FW (Ho cl Δ e τ) (qA i):=rfl
def bD {j i:Nat}{d:D}{c:Str}{ks:Â}{ds:Ê}:ka (Γ j) i τ (.tup [d,.obj Δ c ks ds])=.ok (.nx ((τ.set i (Γ (.obj Δ c ks ds))).set j (Γ d))):=rfl
abbrev Ar (cl:Ä)(j i f:Nat)(m c:Str)(τ:Ev):À->Res Fl
 |some o=>Gn (iJ o&&jE c m o) (FW (Ia (cl f [o,.Gx])) (ka (Γ j) i τ))
 |none=>Gq
def bj {j i f:Nat}{m c:Str}{o:D}:Ar cl j i f m c τ (Γ o)=Gn (iJ o&&jE c m o) (FW (Ia (cl f [o,.Gx])) (ka (Γ j) i τ)):=rfl
def ÿcb {j i f:Nat}{m c:Str}:Hy cl (.LH j i f m c) τ=Ar cl j i f m c τ (dJ τ i):=by show(match dJ τ i with|some o=>Gn (iJ o&&jE c m o) (FW (Ia (cl f [o,.Gx])) (ka (Γ j) i τ))|none=>Gq)=_;rcases dJ τ i with _|d<;>rfl
abbrev wy (cl:Ä)(j i f:Nat)(is:Ã)(τ:Ev)(o:D)(ds KU:Ê):Res Fl:=FW (Ia (cl f (Gr ds++o::Gr KU))) (ka (Γ j) i (Gy is τ))
def bo {j i f:Nat}{is:Ã}{o:D}{ds KU:Ê}:wy cl j i f is τ o ds KU=FW (Ia (cl f (Gr ds++o::Gr KU))) (ka (Γ j) i (Gy is τ)):=rfl
abbrev Ck (cl:Ä)(j i f:Nat)(is:Ã)(es2:Ç)(τ:Ev)(o:D)(ds:Ê):Res Fl:=FW (iq cl es2 τ) (wy cl j i f is τ o ds)
def cO {j i f:Nat}{is:Ã}{es2:Ç}{o:D}{ds:Ê}:Ck cl j i f is es2 τ o ds=FW (iq cl es2 τ) (wy cl j i f is τ o ds):=rfl
abbrev Eb (cl:Ä)(j f:Nat)(es:Ç)(i:Nat)(es2:Ç)(τ:Ev):À->Res Fl
 |some o=>Gn (iJ o&&!(dI es++dI es2).contains i) (FW (iq cl es τ) (Ck cl j i f (dI es++dI es2) es2 τ o))
 |none=>Gq
def cP {j f:Nat}{es:Ç}{i:Nat}{es2:Ç}{o:D}:Eb cl j f es i es2 τ (Γ o)=Gn (iJ o&&!(dI es++dI es2).contains i) (FW (iq cl es τ) (Ck cl j i f (dI es++dI es2) es2 τ o)):=rfl
def ÿbh {j f:Nat}{es:Ç}{i:Nat}{es2:Ç}:Hy cl (.Im j f es i es2) τ=Eb cl j f es i es2 τ (dJ τ i):=by show(match dJ τ i with|some o=>Gn (iJ o&&!(dI es++dI es2).contains i) (FW (iq cl es τ) λds=>FW (iq cl es2 τ) λKU=>FW (Ia (cl f (Gr ds++o::Gr KU))) (ka (Γ j) i (Gy (dI es++dI es2) τ)))|none=>Gq)=_;rcases dJ τ i with _|d<;>rfl
abbrev As (b:Ev->Res Fl)(τ:Ev)(t:Bool):Res Fl:=if t=Δ then .ok (.nx τ) else b τ
def bp {b:Ev->Res Fl}{t:Bool}:As b τ t=if t=Δ then .ok (.nx τ) else b τ:=rfl
def cQ {b:Ev->Res Fl}{r:D}:vv b τ r=FW (iH r) (As b τ):=rfl
abbrev Ec (cl:Ä)(b:Ev->Res Fl)(g:Nat)(d:D)(τ:Ev)(y:D):Res Fl:=FW (cl g [er d,er y]) (vv b τ)
def cR {b:Ev->Res Fl}{g:Nat}{d y:D}:Ec cl b g d τ y=FW (cl g [er d,er y]) (vv b τ):=rfl
def cS {b:Ev->Res Fl}{i g:Nat}{e:IR}{d:D}{c:Str}{ks:Â}{vs:Ê}:qB cl b i g e τ (.tup [d,.obj Δ c ks vs])=Gn (i0 d) (FW (Gs cl e (τ.set i (Γ (.obj Δ c ks vs)))) (Ec cl b g d (τ.set i (Γ (.obj Δ c ks vs))))):=rfl
abbrev Cm (cl:Ä)(i f:Nat)(es:Ç)(g:Nat)(e:IR)(b:Æ)(τ:Ev)(o:D)(ds:Ê):Res Fl:=FW (Ia (cl f (o::Gr ds))) (qB cl (ix cl b) i g e (Gy (dI es) τ))
def cT {i f:Nat}{es:Ç}{g:Nat}{e:IR}{b:Æ}{o:D}{ds:Ê}:Cm cl i f es g e b τ o ds=FW (Ia (cl f (o::Gr ds))) (qB cl (ix cl b) i g e (Gy (dI es) τ)):=rfl
abbrev Ed (cl:Ä)(i f:Nat)(m c:Str)(es:Ç)(g:Nat)(e:IR)(b:Æ)(τ:Ev):À->Res Fl
 |some o=>Gn (iJ o&&jE c m o&&!(dI es).contains i) (FW (iq cl es τ) (Cm cl i f es g e b τ o))
 |none=>Gq
def cU {i f:Nat}{m c:Str}{es:Ç}{g:Nat}{e:IR}{b:Æ}{o:D}:Ed cl i f m c es g e b τ (Γ o)=Gn (iJ o&&jE c m o&&!(dI es).contains i) (FW (iq cl es τ) (Cm cl i f es g e b τ o)):=rfl
def ÿcd {i f:Nat}{m c:Str}{es:Ç}{g:Nat}{e:IR}{b:Æ}:Hy cl (.Oo i f m c es g e b) τ=Ed cl i f m c es g e b τ (dJ τ i):=by show(match dJ τ i with|some o=>Gn (iJ o&&jE c m o&&!(dI es).contains i) (FW (iq cl es τ) λds=>FW (Ia (cl f (o::Gr ds))) (qB cl (ix cl b) i g e (Gy (dI es) τ)))|none=>Gq)=_;rcases dJ τ i with _|d<;>rfl
def ÿac {k:Nat}{s:IS}:Hy cl (.Nx k s) τ=yj k τ (Hy cl s) (dJ τ k):=rfl
def bE {k:Nat}{g:Ev->Res Fl}{ns:Å}:yj k τ g (Γ (.lst Δ (ns.map .int)))=FW (g (τ.set k (Γ (.exc ns)))) (vt k):=by show(match j9 (ns.map D.int) with|some ns=>FW (g (τ.set k (Γ (.exc ns)))) (vt k)|none=>Gq)=_;rw[show j9 (ns.map D.int)=Γ ns from by induction ns with|nil=>rfl|cons n ns ih=>(show(j9 (ns.map D.int)).map (n::·)=_;rw[ih];rfl)]
def bF {k:Nat}:vt k (.nx τ)=yi k τ (dJ τ k):=rfl
def bG {k:Nat}{ns:Å}:yi k τ (Γ (.exc ns))=Gn (Mf (τ.set k Ξ)) (.ok (.nx (τ.set k (Γ (.lst Δ (ns.map .int)))))):=rfl
def cV {a:IR}:Gs cl (.Ks a) τ=FW (Gs cl a τ) λx=>Gn (kz x) (.ok (.bl (lN x))):=rfl
def cW {es:Ç}:Gs cl (.Ja es) τ=FW (iq cl es τ) mW:=rfl
abbrev wz (cl:Ä)(tg:Tg)(body:Æ)(τ:Ev):À->Res Fl
 |some (.lst Θ es)=>forM (λx τ=>FW (jo tg x τ) λGv=>ix cl body Gv) (Gr (jL es)) τ
 |_=>Gq
def bq {tg:Tg}{body:Æ}{es:Ê}:wz cl tg body τ (Γ (.lst Θ es))=forM (turn cl tg body) (Gr (jL es)) τ:=rfl
abbrev Au (cl:Ä)(tg:Tg)(x:Str)(cs:Â)(body:Æ)(τ:Ev):À->Res Fl
 |some (.obj Δ c ks ds)=>Gn (cs.contains c) (wz cl tg body τ (iw ks ds x))
 |_=>Gq
def br {tg:Tg}{x:Str}{cs:Â}{body:Æ}{c:Str}{ks:Â}{ds:Ê}:Au cl tg x cs body τ (Γ (.obj Δ c ks ds))=Gn (cs.contains c) (wz cl tg body τ (iw ks ds x)):=rfl
def ÿcc {tg:Tg}{i:Nat}{x:Str}{cs:Â}{body:Æ}:Hy cl (.LJ tg i x cs body) τ=Au cl tg x cs body τ (dJ τ i):=by
 show(match dJ τ i with
  |some (.obj Δ c ks ds)=>Gn (cs.contains c) (match iw ks ds x with
   |some (.lst Θ es)=>forM (λx τ=>FW (jo tg x τ) λGv=>ix cl body Gv) (Gr (jL es)) τ
   |_=>Gq)
  |_=>Gq:Res Fl)=_
 rcases dJ τ i with _|d
 ·rfl
 ·induction d using zD<;>first|rfl|(rename_i o c ks ds;induction o using zB<;>first|rfl|(show Gn _ _=Gn _ _;congr 1;rcases iw ks ds x with _|e<;>first|rfl|(induction e using zD<;>first|rfl|(rename_i o es;induction o using zB<;>rfl))))
def yQ {o:Bool}{c:Str}{ks:Â}{ds:Ê}:er (.obj o c ks ds)=.obj Θ c ks (Gr ds):=by rw[er]
def bt {o:Bool}{c:Str}{ks:Â}{ds:Ê}:iJ (.obj o c ks ds)=o:=rfl
def bH {o:Bool}{c m c':Str}{ks:Â}{ds:Ê}:jE c m (.obj o c' ks ds)=(c == c'&&!ks.contains m):=rfl
def cX {o:Bool}{ds:Ê}:um (Γ (.lst o ds))=Δ:=rfl
def bC {o:Bool}{x:Str}{cs:Â}{c:Str}{ks:Â}{ds:Ê}{d:D}(h1:cs.contains c=Δ)(h2:iw ks ds x=Γ d):yh x cs (.obj o c ks ds)=.ok d:=by show Gn (cs.contains c) (match iw ks ds x with|some d=>.ok d|none=>Gq)=_;rw[h1,h2];rfl
def Cn:i7 (.int i)=Δ:=by rw[i7]
def Ee:i7 (.str i)=Δ:=by rw[i7]
def Ef:i7 (.bl i)=Δ:=by rw[i7]
def Eg:i7 (.tup ds)=ju ds:=by rw[i7]
def Co {o:Bool}  : i7 (.lst o ds)=(o&&ju ds):=by rw[i7]
def wA:ju []=Δ:=by rw[ju]
def wB:ju (d::ds)=(i7 d&&ju ds):=by rw[ju]
abbrev wC (f:Ev->Res Fl):Fl->Res Fl
 |.nx Gv=>f Gv
 |.ct Gv=>.ok (.ct Gv)
 |.bk Gv=>.ok (.bk Gv)
 |.rt d=>.ok (.rt d)
 |.ri d ks vs=>.ok (.ri d ks vs)
 |.ro d o=>.ok (.ro d o)
def gP:ix cl [] τ=.ok (.nx τ):=rfl
def gm:ix cl (s::r) τ=FW (Hy cl s τ) (wC (ix cl r)):=rfl
def dO:wC f (.nx τ)=f τ:=rfl
def fB {f:Ev->Res Fl}{d o:D}:wC f (.ro d o)=.ok (.ro d o):=rfl
def fC:wC f (.rt d)=.ok (.rt d):=rfl
abbrev Eh (τ:Ev)(its:Ê):Res (Ê×Ev):=.ok (its,τ)
def cY {its:Ê}:Eh τ its=.ok (its,τ):=rfl
abbrev wF (e:IR)(τ:Ev)(its:Ê):Res (Ê×Ev):=.ok (Gr its,Gy (vars e) τ)
def bu {its:Ê}:wF e τ its=.ok (Gr its,Gy (vars e) τ):=rfl
def fD:qy cl (.Hj n) τ=FW (kB cl (.Hj n) τ) (Eh τ):=rfl
def fE {e:IR}:qy cl (.J4 e) τ=FW (kB cl (.J4 e) τ) (wF e τ):=rfl
def fF:qy cl (.val e) τ=FW (kB cl (.val e) τ) (wF e τ):=rfl
abbrev Ei (body:D->Ev->Res Fl)(xs:Ê):Fl->Res Fl
 |.nx Gv=>forM body xs Gv
 |.ct Gv=>forM body xs Gv
 |.bk Gv=>.ok (.nx Gv)
 |.rt d=>.ok (.rt d)
 |.ri d ks vs=>.ok (.ri d ks vs)
 |.ro d o=>.ok (.ro d o)
def fG {body:D->Ev->Res Fl}:forM body [] τ=.ok (.nx τ):=rfl
def dQ:forM body (x::xs) τ=FW (body x τ) (Ei body xs):=rfl
def dR:Ei body xs (.nx τ)=forM body xs τ:=rfl
def gp:jo (.nm i) d τ=.ok (τ.set i (Γ d)):=rfl
def gQ:jo (.tp ts) (.tup ds) τ=Gn (decide (ds.length=ts.length)) (kU ts ds τ):=rfl
def gR {ts:List Tg}{o:Bool}{ds:Ê}:jo (.tp ts) (.lst o ds) τ=Gn (decide (ds.length=ts.length)) (kU ts ds τ):=rfl
def fH:kU [] [] τ=.ok τ:=rfl
def fI:kU (t::ts) (d::ds) τ=FW (jo t d τ) (kU ts ds):=rfl
def fJ {o p:À}:(o::τ).set 0 p=p::τ:=rfl
def fK {o p:À}{i:Nat}:(o::τ).set (i+1) p=o::τ.set i p:=rfl
def fL:JL .add (.int a) (.int b)=.ok (.int (a+b)):=rfl
def bI:JL .add (.str a) (.str b)=Gn (jf (a.length+b.length)) (.ok (.str (a++b))):=rfl
def cZ {o:Bool}:JL .add (.lst o a) (.lst o' b)=Gn (jf (a.length+b.length)) (.ok (.lst Δ (a++b))):=rfl
def fM:JL .sub (.int a) (.int b)=.ok (.int (a - b)):=rfl
def Ej:JL .mul (.int a) (.int b)=Gn (decide (-(2 ^ 64) < a/\a < 2 ^ 64)||decide (-(2 ^ 64) < b/\b < 2 ^ 64)) (.ok (.int (a*b))):=rfl
def Ek:JL .mod (.int a) (.int b)=Gn (decide (0 < b)) (.ok (.int (a % b))):=rfl
def Y1 {o:Bool}  : lM (.lst o ds) (.int i)=(match Ib ds i with|some d=>.ok d|none=>Gq):=rfl
def GN {ds:Ê}{i:Int}:lM (.tup ds) (.int i)=(match Ib ds i with|some d=>.ok d|none=>Gq):=rfl
def Y2:lM (.str z) (.int i)=Gn (jf z.length) (match Ib z.cps.toList i with|some c=>.ok (.str ⟨#[c]⟩)|none=>Gq):=rfl
def gU {o:Bool}  {lo:Option Int}:qv (.lst o ds) lo hi=.ok (.lst Δ (nJ ds lo hi)):=rfl
def gV {lo:Option Int}:qv (.str z) lo hi=Gn (jf z.length) (.ok (.str (Txt.slice z lo hi))):=rfl
def ÿbf:iH (.bl b)=.ok b:=rfl
def El:HV .eq a b=HS 40 a b:=by cases a<;>cases b<;>rfl
abbrev Cp (r:Bool):Res Bool:=.ok !r
def da:Cp r=.ok !r:=rfl
def Em:HV .ne a b=FW (HS 40 a b) Cp:=by cases a<;>cases b<;>rfl
def gW:HS (n+1) (.int a) (.int b)=.ok (a == b):=rfl
def gX:HS (n+1) (.str a) (.str b)=.ok (a == b):=rfl
def gY {n:Nat}{a b:Bool}:HS (n+1) (.bl a) (.bl b)=.ok (a == b):=rfl
def gZ {o:Bool}:HS (n+1) (.lst o a) (.lst o' b)=jP (HS n) a b:=rfl
def g4 {f:D->D->Res Bool}:jP f [] []=.ok Δ:=rfl
def g5 {f:D->D->Res Bool}{b:D}{s:Ê}:jP f [] (b::s)=.ok Θ:=rfl
def g6:HV .lt (.int a) (.int b)=.ok (decide (a < b)):=rfl
def g7:HV .le (.int a) (.int b)=.ok (decide (a<=b)):=rfl
def g8:HV .gt (.int a) (.int b)=.ok (decide (b < a)):=rfl
def fN:HV .JA (.str y) (.str x)=.ok (qw x y):=rfl
def Av {o:Bool}  : HV .JA a (.lst o ds)=Ht a ds:=by cases a<;>rfl
def wG {o:Bool}  : HV .J1 a (.lst o ds)=FW (Ht a ds) Cp:=by cases a<;>rfl
def En:HV .MK a .Gx=.ok (kT a):=by cases a<;>rfl
def GO:kT .Gx=Δ:=rfl
def GP {i:Int}:kT (.int i)=Θ:=rfl
def GQ {o:Bool}  : kT (.lst o ds)=Θ:=rfl
def g9:Ht d []=.ok Θ:=rfl
abbrev Cq (x y:Bool):Res Bool:=.ok (x||y)
def dg:Cq x y=.ok (x||y):=rfl
abbrev WG (d:D)(r:Ê)(x:Bool):Res Bool:=FW (Ht d r) (Cq x)
def fO:WG d r x=FW (Ht d r) (Cq x):=rfl
def hG:Ht d (e::r)=FW (HS 40 e d) (WG d r):=rfl
def fP:jZ .len [.str x]=Gn (jf x.length) (.ok (.int x.length)):=rfl
def fQ {o:Bool}  : jZ .len [.lst o ds]=.ok (.int ds.length):=rfl
def dh:jZ .min2 [.int a,.int b]=.ok (.int (if b < a then b else a)):=rfl
def di:jZ .max2 [.int a,.int b]=.ok (.int (if b > a then b else a)):=rfl
def bw {o:Bool}{ds:Ê}:jZ .tuple [.lst o ds]=.ok (.tup ds):=rfl
def ar {o:Bool}{ds:Ê}:jZ .list [.lst o ds]=.ok (.lst Δ ds):=rfl
def au {o:Bool}{ks:List Key}{ds:Ê}:jZ .list [.G4 o ks ds]=.ok (.lst Δ (ks.map yf)):=rfl
def wH (ns:Â):jC (ns.map .str)=Γ ns:=by
 induction ns with
 |nil=>rfl
 |cons n ns ih=>show(jC (ns.map .str)).map (n::·)=_;rw[ih];rfl
def yR (ns:List Bool):kc (ns.map .bl)=Γ ns:=by
 induction ns with
 |nil=>rfl
 |cons n ns ih=>show(kc (ns.map .bl)).map (n::·)=_;rw[ih];rfl
def wI {o:Bool}{bs:List Bool}:jZ .all [.lst o (bs.map .bl)]=.ok (.bl (bs.all id)):=by
 show(match kc (bs.map .bl) with|some bs=>.ok (.bl (bs.all id))|none=>Gq)=(_:Res D)
 rw[yR]
def yS {o:Bool}  (h:(ys.map (·.length)).sum+ys.length*x.length<=16777216):oA .join (.str x) [.lst o (ys.map .str)]=.ok (.str (Txt.join x ys)):=by
 show(match jC (ys.map .str) with|some ys=>Gn (decide ((ys.map (λy:Str=>y.length)).sum+ys.length*x.length<=16777216)) (.ok (.str (Txt.join x ys)))|none=>Gq)=(_:Res D)
 rw[wH];show Gn (decide _) _=_;rw[A_ h];rfl
def fR:kZ (.str x)=Δ:=rfl
def dj:kA .str (.str x)=Δ:=rfl
def dm:kA .int (.int x)=Δ:=rfl
def dn:kA .bool (.int x)=Θ:=rfl
def dq:kA .tuple (.tup x)=Δ:=rfl
def av {i:Int}:kA .str (.int i)=Θ:=rfl
def af {i:Int}:kA .list (.int i)=Θ:=rfl
def ah {x:Str}:kA .list (.str x)=Θ:=rfl
def ai:kA .list (.tup ds)=Θ:=rfl
def aj {o:Bool}  : kA .list (.lst o ds)=Δ:=rfl
def aa {x:Str}:kA .tuple (.str x)=Θ:=rfl
def kR (ns:Å):iy (ns.map .int)=Δ:=by rw[kq,List.all_map,I_];intro x _;rfl
def qV (ns:Â):iy (ns.map .str)=Δ:=by rw[kq,List.all_map,I_];intro x _;rfl
def hI:er (.int i)=.int i:=by rw[er]
def hJ:er (.str i)=.str i:=by rw[er]
def hU:er (.bl i)=.bl i:=by rw[er]
def ia:er .Gx=.Gx:=by rw[er]
def ib {ds:Ê}:er (.tup ds)=.tup (Gr ds):=by rw[er]
def ic {o:Bool}  : er (.lst o ds)=.lst Θ (Gr ds):=by rw[er]
def fS:Gr []=[]:=by rw[Gr]
def fT:Gr (d::ds)=er d::Gr ds:=by rw[Gr]
def sx (ns:Å):Gr (ns.map .int)=ns.map .int:=kr (kR ns)
def sy (ns:Â):Gr (ns.map .str)=ns.map .str:=kr (qV ns)
def fU:i0 (.int i)=Δ:=rfl
def fV:i0 (.str i)=Δ:=rfl
def fW {ds:Ê}:i0 (.tup ds)=iy ds:=rfl
def fX {o:Bool}{ds:Ê}:i0 (.lst o ds)=Θ:=rfl
def du:iy []=Δ:=rfl
def dv:iy (d::ds)=(i0 d&&iy ds):=rfl
abbrev wJ:Fl->Res D
 |.nx _=>.ok .Gx
 |.rt d=>.ok d
 |_=>Gq
def run (h:ds.length=fn.np):kN cl fn ds=FW (ix cl fn.body (ds.map Γ++Ρ (fn.G.N.length - fn.np) Ξ)) wJ:=by unfold kN;rw[A_ h];rfl
def dz:wJ (.nx τ)=.ok .Gx:=rfl
def dA:wJ (.rt d)=.ok d:=rfl
def call {T:Tb}  (h:T f=Γ fn)(h0:fn.io=Θ):bB T (n+1) f ds=kN (bB T n) fn ds:=by show(match T f with|some fn=>(match fn.io with|false=>kN (bB T n) fn ds|true=>lu (bB T n) fn ds)|none=>Gq)=_;rw[h];show(match fn.io with|false=>kN (bB T n) fn ds|true=>lu (bB T n) fn ds)=_;rw[h0]
abbrev TN:À->Res D
 |some o=>Gn (iJ o) (.ok (.tup [.Gx,o]))
 |none=>Gq
def fY {o:D}:TN (Γ o)=Gn (iJ o) (.ok (.tup [.Gx,o])):=rfl
abbrev TQ (p:Nat):Fl->Res D
 |.ro d o=>.ok (.tup [d,o])
 |.nx τ=>TN (dJ τ p)
 |_=>Gq
def fZ {p:Nat}{d o:D}:TQ p (.ro d o)=.ok (.tup [d,o]):=rfl
def gb {p:Nat}:TQ p (.nx τ)=TN (dJ τ p):=rfl
def ON {T:Tb}  (h:T f=Γ fn)(h0:fn.io=Δ)(hp:fn.G.io.getD 0=p)(h1:fn.np=m)(h2:fn.G.N.length=k)(h3:fn.body=body)(hl:ds.length=m) :
  bB T (n+1) f ds=FW (ix (bB T n) body (ds.map Γ++Ρ (k - m) Ξ)) (TQ p):=by
 rw[pU h h0];unfold lu;rw[A_ (show ds.length=fn.np by rw[hl,h1]),h1,h2,h3,hp];show FW _ _=FW _ _;congr 1
def go {T:Tb}  (h:T f=Γ fn)(h0:fn.io=Θ)(h1:fn.np=m)(h2:fn.G.N.length=k)(h3:fn.body=body)(hl:ds.length=m) :
  bB T (n+1) f ds=FW (ix (bB T n) body (ds.map Γ++Ρ (k - m) Ξ)) wJ:=by
 rw[call h h0,run (by rw[hl,h1]),h1,h2,h3]
end
def line:Ε=16777216:=sizeLine_eq
def wL (h1 : -18446744073709551616 < a)(h2:a < 18446744073709551616):JL .mul (.int a) (.int b)=.ok (.int (a*b)):=by rw[Ej,A_ (show -(2 ^ 64) < a/\a < 2 ^ 64 from⟨by omega,by omega⟩)];rfl
def Aw (h1:0 < b):JL .mod (.int a) (.int b)=.ok (.int (a % b)):=by rw[Ek,A_ h1];rfl
def pW (h:n<=16777216):jf n=Δ:=A_ (by rw[line];exact h)
def sA (h:n < 16777216):ky n=Δ:=A_ (by rw[line];exact h)
def tL (h1 : -4611686018427387904<=i)(h2:i < 4611686018427387904):jk i=Δ:=A_ ⟨by omega,by omega⟩
def yT (f:α->β)(xs:List α)(i:Int):Ib (xs.map f) i=(Ib xs i).map f:=by
 unfold Ib;rw[h_];cases JI xs.length i with
 |none=>rfl
 |some j=>exact z_ ..
def lK (d:α)(h0:0<=i)(h1:i < xs.length):Ib xs i=Γ (xs.getD i.toNat d):=by
 unfold Ib JI;rw[d_ h0,d_ h1];show xs[i.toNat]? = _;have:i.toNat < xs.length:=by omega
 rw[aaa,K_ this];rfl
def LU {o:Bool}{xs:Å}{i:Int}(h0:0<=i)(h1:i < xs.length):lM (.lst o (xs.map .int)) (.int i)=.ok (.int (xs.getD i.toNat 0)):=by rw[Y1,yT,lK 0 h0 h1];rfl
def TU (h0:0<=i)(h1:i < z.length)(hz:z.length<=16777216):lM (.str z) (.int i)=.ok (.str ⟨#[z.cps.toList.getD i.toNat 0]⟩):=by
 rw[Y2,pW hz];have hl:z.cps.toList.length=z.length:=by simp[Str.length]
 rw[lK 0 h0 (by rw[hl];exact h1)];rfl
def ma (f:α->β)(xs:List α)(lo hi:Option Int):nJ (xs.map f) lo hi=(nJ xs lo hi).map f:=by unfold nJ;rw[h_,List.map_take,List.map_drop]
def sC {α:Type}(xs:List α){m:Int}(h:0<=m):nJ xs Ξ (Γ m)=xs.take m.toNat:=by
 unfold nJ HT.JH;simp only[List.drop_zero,Nat.sub_zero];rw[b_ (by omega)];by_cases hm:m.toNat<=xs.length
 ·rw[show min m.toNat xs.length=m.toNat from Nat.min_eq_left hm]
 ·rw[show min m.toNat xs.length=xs.length from Nat.min_eq_right (by omega),List.take_length,List.take_of_length_le (by omega)]
abbrev fz:Bool->À->À
 |true,Γ d=>Γ (er d)
 |true,Ξ=>Ξ
 |false,o=>o
def ie:fz Δ (Γ d)=Γ (er d):=rfl
def ig {o:À}:fz Θ o=o:=rfl
def Ax {o:À}  : mC is k (o::τ)=fz (is.contains k) o::mC is (k+1) τ:=by show(if is.contains k then o.map er else o)::mC is (k+1) τ=_;cases is.contains k<;>induction o using zO<;>rfl
def ij:vars (.c d)=[]:=rfl
def ik:vars (.v i)=[i]:=rfl
def dB {o:Ol}  : vars (.bin o a b)=vars a++vars b:=rfl
def dC:vars (.tup es)=dI es:=rfl
def dD:vars (.lst es)=dI es:=rfl
def bx:vars (.call f es)=dI es:=rfl
def gc:vars (.bi f es)=dI es:=rfl
def dE:vars (.idx a i)=vars a++vars i:=rfl
def gf:dI []=[]:=rfl
def gh:dI (e::es)=vars e++dI es:=rfl
def bz:iS (.comp G fr t s i e)=Δ:=rfl
def dF:iS (.bin .add a b)=Δ:=rfl
def bA {es:Ç}:iS (.bi .list es)=Δ:=rfl
def dG:iS (.idx a i)=Θ:=rfl
def Eo {o:Bool}  : iT e (.lst o ds) τ=cond (iS e) (cond (iy ds) (.lst Δ ds,τ) (.lst Δ (Gr ds),Gy (vars e) τ)) (.lst Θ (Gr ds),Gy (vars e) τ):=by
 unfold iT;rw[b_ (show ¬i0 (.lst o ds)=Δ by intro z;cases z)];cases iS e
 ·exact Prod.ext (by show er (.lst o ds)=_;rw[er];rfl) rfl
 ·show(if iy ds=Δ then _ else _)=_;cases iy ds<;>rfl
def Ep:iT e (.tup ds) τ=cond (iy ds) (.tup ds,τ) (.tup (Gr ds),Gy (vars e) τ):=by
 unfold iT;cases h:iy ds with
 |true=>rw[d_ (show i0 (.tup ds)=Δ from h)];rfl
 |false=>rw[b_ (show ¬i0 (.tup ds)=Δ by intro z;rw[show i0 (.tup ds)=iy ds from rfl,h]at z;cases z)];cases iS e<;>exact Prod.ext (by show er (.tup ds)=_;rw[er];rfl) rfl
theorem tM (P:Nat->Ev->Prop):∀(its:Ê) (k:Nat) (τ:Ev),P k τ->(∀(i:Nat) (x:D) (τ:Ev),its[i]? = Γ x->P (k+i) τ->∃Gv,body x τ=.ok (.nx Gv)/\P (k+i+1) Gv)->∃Gv,forM body its τ=.ok (.nx Gv)/\P (k+its.length) Gv
 |[],k,τ,h,_=>⟨τ,rfl,h⟩
 |x::xs,k,τ,h,hb=>by
  obtain⟨Ny,e1,h1⟩:=hb 0 x τ rfl h;obtain⟨Y3,e2,h2⟩:=tM P xs (k+1) Ny h1 λi y σ hy hp=>by obtain⟨Gv,e',h'⟩:=hb (i+1) y σ (by simpa using hy) (by rw[show k+(i+1)=k+1+i by omega];exact hp);exact⟨Gv,e',by rw[show k+1+i+1=k+(i+1)+1 by omega];exact h'⟩
  refine⟨Y3,?_,by rw[List.length_cons,show k+(xs.length+1)=k+1+xs.length by omega];exact h2⟩;rw[dQ,e1,dP,dR,e2]
def j8 (P:Nat->Ev->Prop){its:Ê}  (h:P 0 τ)(hb:∀(i:Nat)(x:D)(τ:Ev),its[i]? = Γ x->P i τ->∃Gv,body x τ=.ok (.nx Gv)/\P (i+1) Gv):∃Gv,forM body its τ=.ok (.nx Gv)/\P its.length Gv:=by
 obtain⟨Gv,h1,h2⟩:=tM P its 0 τ h λi x τ hx hp=>by rw[Nat.zero_add]at hp ⊢;exact hb i x τ hx hp
 exact⟨Gv,h1,by rw[Nat.zero_add]at h2;exact h2⟩
theorem jd {α β:Type}{g:D->Res (À)}(Mx:α->D)(out:α->β)(OO:β->D):∀(xs:List α),(∀x∈xs,g (Mx x)=.ok (Γ (OO (out x))))->iX g (xs.map Mx)=.ok ((xs.map out).map OO)
 |[],_=>rfl
 |x::xs,h=>by show FW (g (Mx x)) _=_;rw[h x (by simp)];show FW (iX g (xs.map Mx)) _=_;rw[jd Mx out OO xs λy hy=>h y (H_ _ hy)];rfl
def gj:Ia (.ok a:Res α)=.ok a:=rfl
def qW (a b:Int):iW a b=((List.range (b - a).toNat).map λk=>a+(k:Nat)).map .int:=by unfold iW;rw[V_];rfl
def GR {o:À}  : dJ (o::τ) 0=o:=rfl
def GS {o:À}  : dJ (o::τ) (i+1)=dJ τ i:=rfl
def Nj:FW (.ok a) f=f a:=rfl
def GU:mC is k []=[]:=rfl
def GV {a k:Nat}{l:Ã}:List.contains (a::l) k=((k == a)||l.contains k):=rfl
def GW {k:Nat}:List.contains [] k=Θ:=rfl
def GX:fz b (Γ (.int i))=Γ (.int i):=by cases b<;>rfl
def GY:fz b (Γ (.str i))=Γ (.str i):=by cases b<;>rfl
def GZ:fz b Ξ=Ξ:=by cases b<;>rfl
open PySem
def Zaa {a b:Prop}(x:a)(y:b):a/\b:=⟨x,y⟩
abbrev G0:=(Zaa (Zaa (Zaa (Zaa (Zaa @ÿbg (Zaa @ÿbj @ÿc)) (Zaa @ÿbi (Zaa @ÿca @ÿcb))) (Zaa (Zaa @ÿbh (Zaa @ÿcd @ÿcc)) (Zaa (Zaa @yQ @Cn) (Zaa @Ee @Ef)))) (Zaa (Zaa (Zaa @Eg (Zaa @Co @wA)) (Zaa (Zaa @wB @El) (Zaa @Em @Av))) (Zaa (Zaa @wG (Zaa @En @wI)) (Zaa (Zaa @sx @sy) (Zaa @wL @Aw))))) (Zaa (Zaa (Zaa (Zaa @pW (Zaa @sA @tL)) (Zaa (Zaa @LU @TU) (Zaa @Ax @Eo))) (Zaa (Zaa @Ep (Zaa @kR @qV)) (Zaa (Zaa @Bool.or_false @Bool.or_true) (Zaa @List.replicate_succ.{0} @List.replicate_zero.{0})))) (Zaa (Zaa (Zaa @List.length_cons.{0} (Zaa @List.length_nil.{0} @Nat.zero_add)) (Zaa (Zaa @decide_true @Bool.and_self) (Zaa @Bool.not_true @Bool.not_false))) (Zaa (Zaa @Bool.and_true (Zaa @Bool.true_and @Bool.and_false)) (Zaa (Zaa @beq_self_eq_true.{0} @if_true.{1}) (Zaa @if_false.{1} @Bool.false_eq_true))))))
end L2
local macro_rules | `(tactic| simp! [$xs,*]) =>do
 let a ← ("Nat.reduceBEq Nat.reduceSub Nat.reduceAdd reduceIte cond_true cond_false List.map_cons List.map_nil List.cons_append List.nil_append Bool.true_or Bool.false_or".splitOn " "++("GR GS fJ fK GU GV GW hI hJ hU ia ib ic fS fT ij ik dB bx gf gh dC dD gc dE bJ dX ax bL bM bN dZ aA bP bQ eh aC bR aD bS bT bU bV bW eG aE bY aF aG aH cn cq aI aJ eL eQ eS aM aN aO ae ak aP cz cA cC e9 ff cD fg fq cF aq cH cK fu fA cL aT aU aV aW aX aY aZ a7 aw cM cN ba bb bc bf bg bh bj bo cO cP bp cQ cR cS cT cU bE bF bG bq br bt bH cX bC cY bu da dg fO fY fZ gj dP dS GB GC GD dU dW bK dY az d7 gq eA eB eC eE eF gr bX gu gv gw gy gz bZ gA b7 cb cf cg cj ck eJ eK cu gB gC cv gD gE gF gG aK aL gH gI eU eV gJ gK gL GF ÿaj ÿba ÿbb ÿbc ÿa GG GH eW eY eZ e6 gM cw ÿaa cx cy ÿbd e8 cB gN gO aQ cE GI GJ GK GL ÿab cG aR ÿce cI cJ ÿad ÿaf ÿae ÿbe ÿb ÿag ÿah ÿai bD ÿac cV cW gP gm dO fB fC fD fE fF fG dQ dR gp gQ gR fH fI fL bI cZ fM GN gU gV ÿbf gW gX gY gZ g4 g5 g6 g7 g8 fN GO GP GQ g9 hG fP fQ dh di bw ar au fR dj dm dn dq av af ah ai aj aa fU fV fW fX du dv dz dA gb ie ig bz dF bA dG".splitOn " ").map ("L2."++·)).toArray.mapM λs =>`(Lean.Parser.Tactic.simpLemma| $(Lean.mkIdent s.toName):ident)
 `(tactic| simp (disch :=omega) only [L2.G0,$a,*,↓L2.GX,↓L2.GY,↓L2.GZ,$xs,*])
local macro_rules | `(tactic| simp_all! [$xs,*]) =>do
 let a ← ("Nat.reduceBEq Nat.reduceSub Nat.reduceAdd reduceIte GR GS fJ fK GU GV GW cond_true cond_false List.map_cons List.map_nil List.cons_append List.nil_append Bool.true_or Bool.false_or hI hJ hU ia ib ic fS fT ij ik dB bx gf gh dC dD gc dE bJ dX ax bL bM bN dZ aA bP bQ eh aC bR aD bS bT bU bV bW eG aE bY aF aG aH cn cq aI aJ eL eQ eS aM aN aO ae ak aP cz cA cC e9 ff cD fg fq cF aq cH cK fu fA cL aT aU aV aW aX aY aZ a7 aw cM cN ba bb bc bf bg bh bj bo cO cP bp cQ cR cS cT cU bE bF bG bq br bt bH cX bC cY bu da dg fO fY fZ gj dP dS GB GC GD dU dW bK dY az d7 gq eA eB eC eE eF gr bX gu gv gw gy gz bZ gA b7 cb cf cg cj ck eJ eK cu gB gC cv gD gE gF gG aK aL gH gI eU eV gJ gK gL GF ÿaj ÿba ÿbb ÿbc ÿa GG GH eW eY eZ e6 gM cw ÿaa cx cy ÿbd e8 cB gN gO aQ cE GI GJ GK GL ÿab cG aR ÿce cI cJ ÿad ÿaf ÿae ÿbe ÿb ÿag ÿah ÿai bD ÿac cV cW gP gm dO fB fC fD fE fF fG dQ dR gp gQ gR fH fI fL bI cZ fM GN gU gV ÿbf gW gX gY gZ g4 g5 g6 g7 g8 fN GO GP GQ g9 hG fP fQ dh di bw ar au fR dj dm dn dq av af ah ai aj aa fU fV fW fX du dv dz dA gb ie ig bz dF bA dG".splitOn " ").toArray.mapM λs =>`(Lean.Parser.Tactic.simpLemma| $(Lean.mkIdent s.toName):ident)
 `(tactic| simp -implicitDefEqProofs (disch :=omega) only [L2.G0,$a,*,↓L2.GX,↓L2.GY,↓L2.GZ,$xs,*])
namespace Law
open PySem L2
abbrev top (i:Nat):Stmt:=PySem.Challenge.pw_flagroll_k74_moments_in_a_tree.main.body.getD i (.Pass ⟨0,0,0,0⟩)
abbrev K4 (i j:Nat):Stmt:=match top i with
 |.ClassDef _ _ _ b _ _ _ _ _ _ _=>b.getD j (.Pass ⟨0,0,0,0⟩)
 |s=>s
abbrev Z:Sg:={nm:=(["LETTERS","PLACES","SALT_LENGTH","DEEDS","DEEDS_ON_A_SWITCH","is_whole","is_text_of","own_copy","check_salt","allot_new","switch_checked","check_new","check_switch_there","check_groups","check_holdouts","check_switches","tied_names","check_rings","house_checked","names_of","check_deed","pairs_with","new_entry","entry_after","switches_after"]:Â)++(["house_after","check_parents","depths_by_machine","_law_by","_law_many","_law_names","_law_salt","_law_whole","_law_alike","_law_parents","_law_lost","_law_way","_law_right","_law_turned","law","Book.__init__","Book.change","Book.moment","Tree.__init__","Tree.check_machine","Tree.change","Tree.turn","Tree.depth_of","Tree.moment_of","Book"]:Â)++(["Tree"]:Â),O5:=[(21,(.str "abcdefghijklmnopqrstuvwxyz")),(22,(.int 10007)),(23,(.int 12)),(24,(.tup [.str "group",.str "put",.str "rules",.str "needs",.str "shares",.str "stop",.str "go",.str "hold",.str "free",.str "drop"])),(25,(.tup [.str "rules",.str "needs",.str "shares",.str "stop",.str "go",.str "drop"]))],fns:=[26,27,28,29,30,31,32,33,34,35,36,37,38,39,40,41,42,43,44,45,46,47,48,49,50,51,52,53,54,55,56,57,58,60],cls:=[],xt:=[],pl:=[],rc:=[],xm:=[],JM:=[(59,2)],JN:=[(67,"Tree","turn")],Im:=[(62,"Book","change"),(66,"Tree","change"),(67,"Tree","turn")],Ox:=[(63,"Book","moment"),(65,"Tree","check_machine"),(68,"Tree","depth_of"),(69,"Tree","moment_of")],Jv:=[(70,"Book",61),(71,"Tree",64)],HE:=["Book","Tree"],JF:=["deeds","houses","parents","depths","book","moments"]}
abbrev Rn:Æ:=[.asg (.nm 5) (.call 56 [.v 0,.v 1,.bi .len [.v 3]]),.asg (.nm 6) (.bin .add (.v 5) (.sl (.v 5) Ξ (Γ (.call 49 [.v 0,.v 1,.c (.int 3)])))),.Hl (.cmp .eq (.call 49 [.v 0,.bin .add (.v 1) (.c (.int 10)),.c (.int 2)]) (.c (.int 0))) [.asg (.nm 6) (.IT (.v 6))] []]
abbrev Ro:Æ:=[.asg (.nm 7) (.bi .list [.v 6]),.asg (.nm 8) (.c .Gx),.Hl (.Ie (.cmp .eq (.v 5) (.lst [])) (.cmp .eq (.call 49 [.v 0,.bin .add (.v 1) (.c (.int 11)),.c (.int 3)]) (.c (.int 0)))) [.LH 8 2 67 "turn" "Tree"] [.Hl (.Ie (.cmp .eq (.v 5) (.lst [])) (.cmp .eq (.call 49 [.v 0,.bin .add (.v 1) (.c (.int 11)),.c (.int 3)]) (.c (.int 1)))) [.Nw (Γ 8) 2 67 "turn" "Tree" [.c .Gx]] [.Nx 6 (.Nw (Γ 8) 2 67 "turn" "Tree" [.v 6])]]]
abbrev Rp:Æ:=[.Hl (.cmp .JA (.bin .add (.v 10) (.c (.int 1))) (.v 5)) [.app 9 (.idx (.v 4) (.bin .add (.v 10) (.c (.int 1))))] [.app 9 (.idx (.v 4) (.idx (.v 3) (.v 10)))]]
abbrev QA:Æ:=[.Hl (.Kf (.cmp .Om (.v 8) (.c .Gx)) (.cmp .ne (.v 6) (.v 7))) [.Ku 2 (.c .Gx)] [],.app 6 (.c (.int 0)),.asg (.nm 9) (.lst [.idx (.v 4) (.c (.int 0))]),.HR (.nm 10) (.Hj (.bi .len [.v 3])) Rp,.Ku 2 (.v 9)]
abbrev TV:Æ:=
 [.ret (.Ie (.J3 (.v 0) .int) (.HI (.J3 (.v 0) .bool)))]
abbrev TX:Fn:={np:=1,G:={N:=["thing"],kd:=[.local],gl:=[14,8,16],df:=Δ},body:=TV}
abbrev TY:Æ:=
 [.Hl (.HI (.J3 (.v 0) .str)) [.ret (.c (.bl Θ))] [],.Hl (.HI (.chain .le .le (.v 2) (.bi .len [.v 0]) (.v 3))) [.ret (.c (.bl Θ))] [],.ret (.bi .all [.comp {N:=["signs","sign"],kd:=[.cell,.local],gl:=[],df:=Θ} [1] (.nm 1) (.val (.v 0)) [] (.cmp .JA (.v 1) (.v 0))])]
abbrev TZ:Fn:={np:=4,G:={N:=["thing","signs","least","most"],kd:=[.local,.cell,.local,.local],gl:=[14,11,0,9],df:=Δ},body:=TY}
abbrev Nk:Æ:=
 [.Hl (.J3 (.v 0) .list) [.ret (.comp {N:=["part"],kd:=[.local],gl:=[28],df:=Θ} [] (.nm 0) (.val (.v 0)) [] (.call 28 [.v 0]))] [],.Hl (.J3 (.v 0) .tuple) [.ret (.bi .tuple [.comp {N:=["part"],kd:=[.local],gl:=[28],df:=Θ} [] (.nm 0) (.val (.v 0)) [] (.call 28 [.v 0])])] [],.ret (.v 0)]
abbrev Ph:Fn:={np:=1,G:={N:=["thing"],kd:=[.local],gl:=[14,5,6],df:=Δ},body:=Nk}
abbrev T1:Æ:=
 [.Hl (.HI (.call 27 [.v 0,.g 21 (.str "abcdefghijklmnopqrstuvwxyz"),.c (.int 1),.g 23 (.int 12)])) [.never] []]
abbrev T2:Fn:={np:=1,G:={N:=["salt"],kd:=[.local],gl:=[27,21,23],df:=Δ},body:=T1}
abbrev T3:Æ:=
 [.Hl (.cmp .lt (.JY (.v 0)) (.bi .len [.v 0])) [.never] [],.ret (.tup [.comp {N:=["face"],kd:=[.local],gl:=[],df:=Θ} [] (.nm 0) (.val (.v 0)) [] (.tup [.v 0,.lst []]),.lst [.tup [.c (.int 0),.g 22 (.int 10007)]]])]
abbrev T4:Fn:={np:=1,G:={N:=["faces"],kd:=[.local],gl:=[0,12,22],df:=Δ},body:=T3}
abbrev T5:Æ:=
 [.exp (.call 29 [.idx (.v 1) (.c (.int 0))]),.HR (.tp [.nm 2,.nm 3]) (.val (.idx (.v 1) (.c (.int 2)))) [.never,.never],.ret (.c (.bl Δ))]
abbrev T6:Fn:={np:=2,G:={N:=["names","switch","conds","outcome","cond"],kd:=[.local,.local,.local,.local,.local],gl:=[29],df:=Δ},body:=T5}
abbrev T7:Æ:=
 [.Hl (.cmp .JA (.v 0) (.v 1)) [.never] []]
abbrev T8:Fn:={np:=2,G:={N:=["name","names_ahead"],kd:=[.local,.local],gl:=[],df:=Δ},body:=T7}
abbrev T9:Æ:=
 [.Hl (.cmp .J1 (.v 0) (.v 1)) [.never] []]
abbrev T':Fn:={np:=2,G:={N:=["name","names"],kd:=[.local,.local],gl:=[],df:=Δ},body:=T9}
abbrev Ua:Æ:=
 [.asg (.nm 1) (.lst []),.HR (.tp [.nm 2,.nm 3]) (.val (.v 0)) [.never,.never,.never]]
abbrev Ub:Fn:={np:=1,G:={N:=["groups","names_ahead","name","rows","row","cond"],kd:=[.local,.local,.local,.local,.local,.local],gl:=[],df:=Δ},body:=Ua}
abbrev Uc:Æ:=
 [.asg (.nm 2) (.lst []),.HR (.tp [.nm 3,.nm 4,.nm 5,.nm 6]) (.val (.v 0)) [.never,.never,.never,.never,.never,.never]]
abbrev Ud:Fn:={np:=2,G:={N:=["holdouts","switch_names","names_ahead","name","salt","places","names","told_names","told_name"],kd:=[.local,.local,.local,.local,.local,.local,.local,.local,.local],gl:=[],df:=Δ},body:=Uc}
abbrev Ue:Æ:=
 [.asg (.nm 3) (.lst []),.HR (.tp [.nm 4,.nm 5]) (.val (.v 0)) [.exp (.call 32 [.v 4,.v 3]),.app 3 (.v 4),.exp (.call 31 [.v 1,.idx (.v 5) (.c (.int 0))]),.HR (.tp [.nm 6,.nm 7]) (.val (.idx (.v 5) (.c (.int 1)))) [.never]]]
abbrev Ug:Fn:={np:=3,G:={N:=["switches","group_names","switch_names","names_ahead","name","entry","needed","face"],kd:=[.local,.local,.local,.local,.local,.local,.local,.local],gl:=[32,31],df:=Δ},body:=Ue}
abbrev Uh:Æ:=
 [.asg (.nm 1) (.bi .list [.v 0]),.Iu (.c (.bl Δ)) [.asg (.nm 2) (.comp {N:=["needs","tied","name"],kd:=[.cell,.cell,.local],gl:=[10],df:=Θ} [0,1] (.nm 2) (.val (.v 1)) [.bi .any [.comp {N:=["tied","needed"],kd:=[.cell,.local],gl:=[],df:=Θ} [1] (.nm 1) (.val (.J2 (.v 0) (.v 2))) [] (.cmp .JA (.v 1) (.v 0))]] (.v 2)),.Hl (.cmp .eq (.v 2) (.v 1)) [.ret (.v 1)] [],.asg (.nm 1) (.v 2)]]
abbrev Ui:Fn:={np:=1,G:={N:=["needs","tied","left"],kd:=[.cell,.cell,.local],gl:=[5],df:=Δ},body:=Uh}
abbrev Uj:Æ:=
 [.asg (.nm 1) .JE,.HR (.tp [.nm 2,.nm 3]) (.val (.v 0)) [.JK 1 (.v 2) (.comp {N:=["needed","face"],kd:=[.local,.local],gl:=[],df:=Θ} [] (.tp [.nm 0,.nm 1]) (.val (.idx (.v 3) (.c (.int 1)))) [] (.v 0))],.asg (.nm 4) (.call 37 [.v 1]),.Hl (.cmp .ne (.v 4) (.lst [])) [.never] []]
abbrev Uk:Fn:={np:=1,G:={N:=["switches","needs","name","entry","tied"],kd:=[.local,.local,.local,.local,.local],gl:=[37],df:=Δ},body:=Uj}
abbrev Ul:Æ:=
 [.asg (.nm 1) (.comp {N:=["name","entry"],kd:=[.local,.local],gl:=[],df:=Θ} [] (.tp [.nm 0,.nm 1]) (.val (.idx (.v 0) (.c (.int 2)))) [] (.v 0)),.exp (.call 34 [.idx (.v 0) (.c (.int 0))]),.exp (.call 35 [.idx (.v 0) (.c (.int 1)),.v 1]),.exp (.call 36 [.idx (.v 0) (.c (.int 2)),.comp {N:=["name","rows"],kd:=[.local,.local],gl:=[],df:=Θ} [] (.tp [.nm 0,.nm 1]) (.val (.idx (.v 0) (.c (.int 0)))) [] (.v 0),.v 1]),.exp (.call 38 [.idx (.v 0) (.c (.int 2))]),.ret (.c (.bl Δ))]
abbrev Um:Fn:={np:=1,G:={N:=["house","switch_names"],kd:=[.local,.local],gl:=[34,35,36,38],df:=Δ},body:=Ul}
abbrev QB:Æ:=
 [.ret (.comp {N:=["row"],kd:=[.local],gl:=[],df:=Θ} [] (.nm 0) (.val (.v 0)) [] (.idx (.v 0) (.c (.int 0))))]
abbrev Rq:Fn:={np:=1,G:={N:=["rows"],kd:=[.local],gl:=[],df:=Δ},body:=QB}
abbrev QC:Æ:=
 [.asg (.nm 2) (.idx (.v 1) (.c (.int 0))),.Hl (.cmp .J1 (.v 2) (.g 24 (.tup [.str "group",.str "put",.str "rules",.str "needs",.str "shares",.str "stop",.str "go",.str "hold",.str "free",.str "drop"]))) [.never] [],.asg (.nm 3) (.idx (.v 1) (.c (.int 1))),.Hl (.cmp .eq (.v 2) (.c (.str "put"))) [.exp (.call 32 [.v 3,.call 40 [.idx (.v 0) (.c (.int 2))]])] [],.Hl (.cmp .eq (.v 2) (.c (.str "hold"))) [.never] [],.Hl (.cmp .JA (.v 2) (.g 25 (.tup [.str "rules",.str "needs",.str "shares",.str "stop",.str "go",.str "drop"]))) [.exp (.call 33 [.v 3,.call 40 [.idx (.v 0) (.c (.int 2))]])] [],.Hl (.Ie (.cmp .eq (.v 2) (.c (.str "free"))) (.cmp .J1 (.v 3) (.call 40 [.idx (.v 0) (.c (.int 1))]))) [.never] []]
abbrev Rr:Fn:={np:=2,G:={N:=["house","deed","word","name"],kd:=[.local,.local,.local,.local],gl:=[24,32,40,25,33],df:=Δ},body:=QC}
abbrev Uo:Æ:=
 [.Hl (.cmp .J1 (.v 1) (.call 40 [.v 0])) [.never] [],.ret (.comp {N:=["name","value","pair"],kd:=[.cell,.cell,.local],gl:=[],df:=Θ} [1,2] (.nm 2) (.val (.v 0)) [] (.ite (.cmp .eq (.idx (.v 2) (.c (.int 0))) (.v 0)) (.tup [.idx (.v 2) (.c (.int 0)),.v 1]) (.v 2)))]
abbrev Up:Fn:={np:=3,G:={N:=["pairs","name","value"],kd:=[.local,.cell,.cell],gl:=[40],df:=Δ},body:=Uo}
abbrev Uq:Æ:=
 [.ret (.tup [.tup [.v 0,.v 1,.lst [],.call 30 [.v 2]],.lst [],.c (.bl Θ)])]
abbrev Ur:Fn:={np:=3,G:={N:=["salt","rest","faces"],kd:=[.local,.local,.local],gl:=[30],df:=Δ},body:=Uq}
abbrev Us:Æ:=
 [.asg (.nm 2) (.idx (.v 0) (.c (.int 0))),.asg (.nm 3) (.idx (.v 1) (.c (.int 0))),.Hl (.cmp .eq (.v 3) (.c (.str "rules"))) [.never] [],.Hl (.cmp .eq (.v 3) (.c (.str "shares"))) [.never] [],.Hl (.cmp .eq (.v 3) (.c (.str "needs"))) [.never] [],.ret (.tup [.v 2,.idx (.v 0) (.c (.int 1)),.cmp .eq (.v 3) (.c (.str "stop"))])]
abbrev Ut:Fn:={np:=2,G:={N:=["entry","deed","switch","word"],kd:=[.local,.local,.local,.local],gl:=[],df:=Δ},body:=Us}
abbrev QD:Æ:=
 [.asg (.nm 2) (.idx (.v 1) (.c (.int 1))),.Hl (.cmp .eq (.idx (.v 1) (.c (.int 0))) (.c (.str "put"))) [.ret (.bin .add (.v 0) (.lst [.tup [.v 2,.call 43 [.idx (.v 1) (.c (.int 2)),.idx (.v 1) (.c (.int 3)),.idx (.v 1) (.c (.int 4))]]]))] [],.Hl (.cmp .eq (.idx (.v 1) (.c (.int 0))) (.c (.str "drop"))) [.never] [],.ret (.call 42 [.v 0,.v 2,.call 44 [.J2 (.KR (.v 0)) (.v 2),.v 1]])]
abbrev Rt:Fn:={np:=2,G:={N:=["switches","deed","name"],kd:=[.local,.local,.local],gl:=[43,42,44,19],df:=Δ},body:=QD}
abbrev QE:Æ:=
 [.asg (.nm 2) (.idx (.v 1) (.c (.int 0))),.Hl (.cmp .eq (.v 2) (.c (.str "group"))) [.never] [],.Hl (.cmp .eq (.v 2) (.c (.str "hold"))) [.never] [],.Hl (.cmp .eq (.v 2) (.c (.str "free"))) [.never] [],.ret (.tup [.idx (.v 0) (.c (.int 0)),.idx (.v 0) (.c (.int 1)),.call 45 [.idx (.v 0) (.c (.int 2)),.v 1]])]
abbrev Ru:Fn:={np:=2,G:={N:=["house","deed","word"],kd:=[.local,.local,.local],gl:=[45],df:=Δ},body:=QE}
abbrev Uu:Æ:=
 [.HR (.tp [.nm 1,.nm 2]) (.J4 (.v 0)) [.Hl (.Kf (.HI (.call 26 [.v 2])) (.Kf (.cmp .lt (.v 2) (.c (.int 0))) (.cmp .gt (.v 2) (.v 1)))) [.never] []]]
abbrev Uv:Fn:={np:=1,G:={N:=["parents","place","parent"],kd:=[.local,.local,.local],gl:=[20,26],df:=Δ},body:=Uu}
abbrev Uw:Æ:=
 [.asg (.nm 1) (.lst [.c (.int 0)]),.HR (.nm 2) (.val (.v 0)) [.app 1 (.bin .add (.idx (.v 1) (.v 2)) (.c (.int 1)))],.ret (.v 1)]
abbrev Ux:Fn:={np:=1,G:={N:=["parents","depths","parent"],kd:=[.local,.local,.local],gl:=[],df:=Δ},body:=Uw}
abbrev Uy:Æ:=
 [.asg (.nm 3) (.c (.int 0)),.Hl (.cmp .gt (.bi .len [.v 0]) (.c (.int 0))) [.asg (.nm 3) (.bin .mod (.idx (.v 0) (.bin .mod (.v 1) (.bi .len [.v 0]))) (.c (.int 999983)))] [],.asg (.nm 4) (.bin .mod (.bin .mul (.bin .add (.bin .add (.v 3) (.bin .mul (.c (.int 17)) (.v 1))) (.c (.int 5))) (.bin .add (.c (.int 48271)) (.bin .mul (.bin .mul (.c (.int 613)) (.v 1)) (.v 1)))) (.c (.int 999983))),.ret (.bin .mod (.bin .mod (.bin .mul (.v 4) (.bin .add (.c (.int 16807)) (.bin .mul (.c (.int 271)) (.v 1)))) (.c (.int 1000003))) (.v 2))]
abbrev Uz:Fn:={np:=3,G:={N:=["_law_script","_law_k","_law_many_here","_law_cell","_law_mixed"],kd:=[.local,.local,.local,.local,.local],gl:=[0],df:=Δ},body:=Uy}
abbrev UA:Æ:=
 [.ret (.bi .max2 [.bi .min2 [.bi .len [.v 0],.v 1],.call 49 [.v 0,.c (.int 98),.bin .add (.v 1) (.c (.int 1))]])]
abbrev UB:Fn:={np:=2,G:={N:=["_law_script","_law_most"],kd:=[.local,.local],gl:=[3,2,0,49],df:=Δ},body:=UA}
abbrev QF:Æ:=
 [.asg (.nm 3) (.c (.str "abcdefghijklmnopqrstuvwxyz")),.asg (.nm 4) (.Me .join (.c (.str "")) [.comp {N:=["_law_letters","_law_script","_law_k","_law_j"],kd:=[.cell,.cell,.cell,.local],gl:=[49],df:=Θ} [3,0,1] (.nm 3) (.Hj (.c (.int 8))) [] (.idx (.v 0) (.call 49 [.v 1,.bin .add (.v 2) (.v 3),.c (.int 26)]))]),.asg (.nm 5) (.call 49 [.v 0,.bin .add (.v 1) (.c (.int 8)),.v 2]),.asg (.nm 6) (.comp {N:=["_law_word","_law_j"],kd:=[.cell,.local],gl:=[],df:=Θ} [4] (.nm 1) (.Hj (.v 2)) [] (.sl (.v 0) Ξ (Γ (.bin .add (.v 1) (.c (.int 1)))))),.Hl (.cmp .eq (.call 49 [.v 0,.bin .add (.v 1) (.c (.int 9)),.c (.int 2)]) (.c (.int 0))) [.asg (.nm 7) (.bin .add (.c (.int 1)) (.call 49 [.v 0,.bin .add (.v 1) (.c (.int 10)),.c (.int 8)])),.asg (.nm 8) (.call 49 [.v 0,.bin .add (.v 1) (.c (.int 11)),.v 7]),.asg (.nm 9) (.comp {N:=["_law_letters","_law_script","_law_k","_law_j"],kd:=[.cell,.cell,.cell,.local],gl:=[49],df:=Θ} [3,0,1] (.nm 3) (.Hj (.v 2)) [] (.idx (.v 0) (.bin .mod (.bin .add (.call 49 [.v 1,.bin .add (.v 2) (.c (.int 12)),.c (.int 26)]) (.bin .mul (.c (.int 7)) (.v 3))) (.c (.int 26))))),.asg (.nm 6) (.comp {N:=["_law_word","_law_place","_law_size","_law_sign"],kd:=[.cell,.cell,.cell,.local],gl:=[],df:=Θ} [4,8,7] (.nm 3) (.val (.v 9)) [] (.bin .add (.bin .add (.sl (.v 0) Ξ (Γ (.v 1))) (.v 3)) (.sl (.v 0) (Γ (.bin .add (.v 1) (.c (.int 1)))) (Γ (.v 2)))))] [],.ret (.bin .add (.sl (.v 6) (Γ (.v 5)) Ξ) (.sl (.v 6) Ξ (Γ (.v 5))))]
abbrev Rv:Fn:={np:=3,G:={N:=["_law_script","_law_k","_law_count","_law_letters","_law_word","_law_turn","_law_names_here","_law_size","_law_place","_law_signs"],kd:=[.cell,.cell,.local,.cell,.cell,.local,.local,.cell,.cell,.local],gl:=[15,49],df:=Δ},body:=QF}
abbrev UC:Æ:=
 [.asg (.nm 2) (.c (.str "abcdefghijklmnopqrstuvwxyz")),.ret (.Me .join (.c (.str "")) [.comp {N:=["_law_letters","_law_script","_law_k","_law_j"],kd:=[.cell,.cell,.cell,.local],gl:=[49],df:=Θ} [2,0,1] (.nm 3) (.Hj (.bin .add (.c (.int 1)) (.call 49 [.v 0,.bin .add (.v 1) (.c (.int 13)),.c (.int 12)]))) [] (.idx (.v 0) (.call 49 [.v 1,.bin .add (.v 2) (.v 3),.c (.int 26)]))])]
abbrev UD:Fn:={np:=2,G:={N:=["_law_script","_law_k","_law_letters"],kd:=[.cell,.cell,.cell],gl:=[15,49],df:=Δ},body:=UC}
abbrev UE:Æ:=
 [.ret (.Ie (.J3 (.v 0) .int) (.HI (.J3 (.v 0) .bool)))]
abbrev UG:Fn:={np:=1,G:={N:=["_law_thing"],kd:=[.local],gl:=[14,8,16],df:=Δ},body:=UE}
abbrev QG:Æ:=
 [.Hl (.Ks (.v 1)) [.Hl (.Kf (.HI (.Ks (.v 0))) (.cmp .ne (.J3 (.v 0) .list) (.J3 (.v 1) .list))) [.ret (.c (.bl Θ))] [],.Hl (.cmp .ne (.bi .len [.v 0]) (.bi .len [.v 1])) [.ret (.c (.bl Θ))] [],.ret (.cmp .J1 (.c (.bl Θ)) (.comp {N:=["_law_found","_law_due","_law_k"],kd:=[.cell,.cell,.local],gl:=[54],df:=Θ} [0,1] (.nm 2) (.Hj (.bi .len [.v 1])) [] (.call 54 [.idx (.v 0) (.v 2),.idx (.v 1) (.v 2)])))] [],.Hl (.cmp .MK (.v 1) (.c .Gx)) [.ret (.cmp .MK (.v 0) (.c .Gx))] [],.Hl (.J3 (.v 1) .bool) [.ret (.Ie (.J3 (.v 0) .bool) (.cmp .eq (.v 0) (.v 1)))] [],.Hl (.J3 (.v 1) .str) [.ret (.Ie (.J3 (.v 0) .str) (.cmp .eq (.v 0) (.v 1)))] [],.ret (.Ie (.call 53 [.v 0]) (.cmp .eq (.v 0) (.v 1)))]
abbrev Rw:Fn:={np:=2,G:={N:=["_law_found","_law_due"],kd:=[.cell,.cell],gl:=[14,5,6,0,15,16,11,53],df:=Δ},body:=QG}
abbrev UH:Æ:=
 [.ret (.comp {N:=["_law_script","_law_j"],kd:=[.cell,.local],gl:=[49],df:=Θ} [0] (.nm 1) (.Hj (.idx (.lst [.c (.int 3),.c (.int 6),.c (.int 0),.c (.int 1),.c (.int 2),.c (.int 9)]) (.call 49 [.v 0,.c (.int 309),.c (.int 6)]))) [] (.call 49 [.v 0,.bin .add (.c (.int 310)) (.v 1),.bin .add (.v 1) (.c (.int 1))]))]
abbrev UI:Fn:={np:=1,G:={N:=["_law_script"],kd:=[.cell],gl:=[15,49],df:=Δ},body:=UH}
abbrev UJ:Æ:=
 [.ret (.comp {N:=["_law_script","_law_k","_law_machine"],kd:=[.cell,.cell,.local],gl:=[49],df:=Θ} [0,1] (.nm 2) (.IV (.c (.int 1)) (.bin .add (.v 2) (.c (.int 1)))) [.cmp .eq (.call 49 [.v 0,.bin .add (.v 1) (.v 2),.c (.int 3)]) (.c (.int 0))] (.v 2))]
abbrev UK:Fn:={np:=3,G:={N:=["_law_script","_law_k","_law_many_here"],kd:=[.cell,.cell,.local],gl:=[15],df:=Δ},body:=UJ}
abbrev UL:Æ:=
 [.asg (.nm 2) (.lst []),.Iu (.cmp .gt (.v 1) (.c (.int 0))) [.app 2 (.v 1),.asg (.nm 1) (.idx (.v 0) (.bin .sub (.v 1) (.c (.int 1))))],.ret (.v 2)]
abbrev UM:Fn:={np:=2,G:={N:=["_law_parents_here","_law_machine","_law_way_here"],kd:=[.local,.local,.local],gl:=[],df:=Δ},body:=UL}
abbrev UN:Æ:=
 [.asg (.nm 5) (.bi .len [.v 3]),.asg (.nm 6) (.call 49 [.v 0,.v 1,.bin .add (.v 5) (.c (.int 1))]),.HR (.nm 7) (.val (.bin .add (.Ja [.v 6,.bin .add (.v 5) (.c (.int 1))]) (.Ja [.v 6]))) [.Hl (.HI (.call 54 [.HM 69 "moment_of" "Tree" (.v 2) [.v 7],.idx (.v 4) (.v 7)])) [.ret (.c (.bl Θ))] []],.ret (.c (.bl Δ))]
abbrev UO:Fn:={np:=5,G:={N:=["_law_script","_law_k","_law_tree","_law_parents_here","_law_moments","_law_many_here","_law_turn","_law_machine"],kd:=[.local,.local,.local,.local,.local,.local,.local,.local],gl:=[0,49,5,15,54],df:=Δ},body:=UN}
abbrev UP:Æ:=
 Rn++(Ro++QA)
abbrev NI:Fn:={np:=5,G:={N:=["_law_script","_law_k","_law_tree","_law_parents_here","_law_moments","_law_lost_here","_law_handed","_law_kept","_law_told","_law_fresh","_law_place"],kd:=[.local,.local,.local,.local,.local,.local,.local,.local,.local,.local,.local],gl:=[56,0,49,5,18,15],df:=Δ,io:=Γ 2},body:=UP,io:=Δ}
abbrev Y4:Æ:=
 [.asg (.nm 1) (.call 55 [.v 0]),.asg (.nm 2) (.bi .list [.v 1]),.Nx 2 (.asg (.nm 3) (.Jv 71 64 "Tree" [.v 2])),.Hl (.cmp .ne (.v 2) (.v 1)) [.ret (.c (.bl Θ))] [],.HR (.nm 4) (.Hj (.bi .len [.v 1])) [.IE 2 (.v 4) (.c (.int 0))],.asg (.nm 5) (.Jv 71 64 "Tree" [.bi .list [.v 1]]),.asg (.tp [.nm 6,.nm 7]) (.call 51 [.v 0,.c (.int 100),.c (.int 2)]),.asg (.nm 8) (.comp {N:=["_law_k"],kd:=[.local],gl:=[],df:=Θ} [] (.nm 0) (.Hj (.bin .add (.bi .len [.v 1]) (.c (.int 1)))) [] (.c (.int 0))),.asg (.nm 9) (.comp {N:=["_law_parents_here","_law_machine"],kd:=[.cell,.local],gl:=[0,57],df:=Θ} [1] (.nm 1) (.Hj (.bin .add (.bi .len [.v 1]) (.c (.int 1)))) [] (.bi .len [.call 57 [.v 0,.v 1]])),.Hl (.HI (.call 58 [.v 0,.c (.int 320),.v 3,.v 1,.v 8])) [.ret (.c (.bl Θ))] [],.asg (.nm 10) (.c (.int 0)),.HR (.nm 11) (.Hj (.call 50 [.v 0,.c (.int 40)])) [.Hl (.Kf (.cmp .eq (.v 10) (.c (.int 0))) (.cmp .eq (.call 49 [.v 0,.bin .add (.c (.int 400)) (.v 11),.c (.int 2)]) (.c (.int 0)))) [.asg (.nm 12) (.tup [.idx (.lst [.c (.str "stop"),.c (.str "go")]) (.call 49 [.v 0,.bin .add (.c (.int 450)) (.v 11),.c (.int 2)]),.v 6]),.Hl (.cmp .eq (.v 10) (.c (.int 0))) [.asg (.nm 12) (.tup [.c (.str "put"),.v 6,.call 52 [.v 0,.c (.int 140)],.v 7,.lst []])] [],.asg (.nm 10) (.bin .add (.v 10) (.c (.int 1))),.IE 8 (.c (.int 0)) (.v 10),.Oo 3 66 "change" "Tree" [.v 12] 54 (.v 10) [.ret (.c (.bl Θ))]] [.Im 8 59 [.v 0,.bin .add (.c (.int 500)) (.bin .mul (.c (.int 20)) (.v 11))] 3 [.v 1,.v 8]],.Hl (.Kf (.cmp .MK (.v 8) (.c .Gx)) (.HI (.call 58 [.v 0,.bin .add (.c (.int 360)) (.v 11),.v 3,.v 1,.v 8]))) [.ret (.c (.bl Θ))] []],.Hl (.HI (.call 58 [.v 0,.c (.int 321),.v 5,.v 1,.bin .mul (.lst [.c (.int 0)]) (.bi .len [.v 9])])) [.ret (.c (.bl Θ))] [],.ret (.call 54 [.comp {N:=["_law_tree","_law_machine"],kd:=[.cell,.local],gl:=[],df:=Θ} [3] (.nm 1) (.Hj (.bi .len [.v 9])) [] (.HM 68 "depth_of" "Tree" (.v 0) [.v 1]),.v 9])]
abbrev NJ:Fn:={np:=1,G:={N:=["_law_script","_law_parents_here","_law_handed","_law_tree","_law_place","_law_still","_law_name","_law_face","_law_moments","_law_depths","_law_deeds","_law_j","_law_deed"],kd:=[.local,.cell,.local,.cell,.local,.local,.local,.local,.local,.local,.local,.local,.local],gl:=[55,5,71,15,0,51,58,50,49,52,54,59],df:=Δ},body:=Y4}
abbrev UQ:Æ:=
 [.oset 0 "deeds" [Ο "Book"] Θ (.lst []),.oset 0 "houses" [Ο "Book"] Θ (.ID [.tup [.lst [],.lst [],.lst []]])]
abbrev NK:Fn:={np:=1,G:={N:=["self"],kd:=[.local],gl:=[],df:=Δ,io:=Γ 0},body:=UQ,io:=Δ}
abbrev UR:Æ:=
 [.LG 2 0 "houses" [Ο "Book"] (.neg (.c (.int 1))),.exp (.call 41 [.v 2,.v 1]),.exp (.call 39 [.call 46 [.v 2,.v 1]]),.asg (.nm 3) (.call 28 [.v 1]),.KS 0 "houses" [Ο "Book"] (.call 46 [.v 2,.v 3]),.KS 0 "deeds" [Ο "Book"] (.v 3),.Ku 0 (.HM 63 "moment" "Book" (.v 0) [])]
abbrev NL:Fn:={np:=2,G:={N:=["self","deed","house","own_deed"],kd:=[.local,.local,.local,.local],gl:=[41,39,46,28],df:=Δ,io:=Γ 0},body:=UR,io:=Δ}
abbrev US:Æ:=
 [.ret (.bi .len [.IU (.v 0) "deeds" [Ο "Book"]])]
abbrev UT:Fn:={np:=1,G:={N:=["self"],kd:=[.local],gl:=[0],df:=Δ},body:=US}
abbrev UU:Æ:=
 [.exp (.call 47 [.v 1]),.oset 0 "parents" [Ο "Tree"] Δ (.bi .list [.v 1]),.oset 0 "depths" [Ο "Tree"] Δ (.call 48 [.v 1]),.oset 0 "book" [Ο "Tree"] Θ (.Jv 70 61 "Book" []),.oset 0 "moments" [Ο "Tree"] Δ (.bin .mul (.lst [.c (.int 0)]) (.bi .len [.v 1]))]
abbrev NO:Fn:={np:=2,G:={N:=["self","parents"],kd:=[.local,.local],gl:=[47,5,48,70,0],df:=Δ,io:=Γ 0},body:=UU,io:=Δ}
abbrev UW:Æ:=
 [.Hl (.Kf (.cmp .lt (.v 1) (.v 2)) (.cmp .gt (.v 1) (.bi .len [.IU (.v 0) "parents" [Ο "Tree"]]))) [.never] []]
abbrev UX:Fn:={np:=3,G:={N:=["self","machine","least"],kd:=[.local,.local,.local],gl:=[0],df:=Δ},body:=UW}
abbrev UY:Æ:=
 [.LI 0 "book" [Ο "Tree"] 62 "change" "Book" [.v 1]]
abbrev NP:Fn:={np:=2,G:={N:=["self","deed"],kd:=[.local,.local],gl:=[],df:=Δ,io:=Γ 0},body:=UY,io:=Δ}
abbrev QH:Æ:=
 [.asg (.nm 2) (.ite (.cmp .MK (.v 1) (.c .Gx)) (.lst []) (.v 1)),.HR (.nm 3) (.val (.v 2)) [.exp (.HM 65 "check_machine" "Tree" (.v 0) [.v 3,.c (.int 1)])],.asg (.nm 4) (.bin .add (.lst [.HM 63 "moment" "Book" (.IU (.v 0) "book" [Ο "Tree"]) []]) (.IU (.v 0) "moments" [Ο "Tree"])),.asg (.nm 5) (.lst []),.LJ (.tp [.nm 3,.nm 6]) 0 "parents" [Ο "Tree"] [.app 5 (.ite (.cmp .JA (.v 3) (.v 2)) (.idx (.v 4) (.v 3)) (.idx (.v 4) (.v 6)))],.oset 0 "moments" [Ο "Tree"] Δ (.v 5)]
abbrev Lm:Fn:={np:=2,G:={N:=["self","lost","lost_links","machine","begun","moments","parent"],kd:=[.local,.local,.local,.local,.local,.local,.local],gl:=[20],df:=Δ,io:=Γ 0},body:=QH,io:=Δ}
abbrev UZ:Æ:=
 [.exp (.HM 65 "check_machine" "Tree" (.v 0) [.v 1,.c (.int 0)]),.ret (.idx (.IU (.v 0) "depths" [Ο "Tree"]) (.v 1))]
abbrev U0:Fn:={np:=2,G:={N:=["self","machine"],kd:=[.local,.local],gl:=[],df:=Δ},body:=UZ}
abbrev QI:Æ:=
 [.exp (.HM 65 "check_machine" "Tree" (.v 0) [.v 1,.c (.int 0)]),.ret (.ite (.cmp .eq (.v 1) (.c (.int 0))) (.HM 63 "moment" "Book" (.IU (.v 0) "book" [Ο "Tree"]) []) (.idx (.IU (.v 0) "moments" [Ο "Tree"]) (.bin .sub (.v 1) (.c (.int 1)))))]
abbrev Rx:Fn:={np:=2,G:={N:=["self","machine"],kd:=[.local,.local],gl:=[],df:=Δ},body:=QI}
abbrev T:Tb:=λn=>match n with
 |26=>Γ TX
 |27=>Γ TZ
 |28=>Γ Ph
 |29=>Γ T2
 |30=>Γ T4
 |31=>Γ T6
 |32=>Γ T8
 |33=>Γ T'
 |34=>Γ Ub
 |35=>Γ Ud
 |36=>Γ Ug
 |37=>Γ Ui
 |38=>Γ Uk
 |39=>Γ Um
 |40=>Γ Rq
 |41=>Γ Rr
 |42=>Γ Up
 |43=>Γ Ur
 |44=>Γ Ut
 |45=>Γ Rt
 |46=>Γ Ru
 |47=>Γ Uv
 |48=>Γ Ux
 |49=>Γ Uz
 |50=>Γ UB
 |51=>Γ Rv
 |52=>Γ UD
 |53=>Γ UG
 |54=>Γ Rw
 |55=>Γ UI
 |56=>Γ UK
 |57=>Γ UM
 |58=>Γ UO
 |59=>Γ NI
 |60=>Γ NJ
 |61=>Γ NK
 |62=>Γ NL
 |63=>Γ UT
 |64=>Γ NO
 |65=>Γ UX
 |66=>Γ NP
 |67=>Γ Lm
 |68=>Γ U0
 |69=>Γ Rx
 |_=>Ξ
def c26:ir Z TX ["thing"] (top 22)=Δ:=∅
def c27:ir Z TZ ["thing","signs","least","most"] (top 23)=Δ:=∅
def c28:ir Z Ph ["thing"] (top 24)=Δ:=∅
def c29:ir Z T2 ["salt"] (top 28)=Δ:=∅
def c30:ir Z T4 ["faces"] (top 34)=Δ:=∅
def c31:ir Z T6 ["names","switch"] (top 53)=Δ:=∅
def c32:ir Z T8 ["name","names_ahead"] (top 55)=Δ:=∅
def c33:ir Z T' ["name","names"] (top 56)=Δ:=∅
def c34:ir Z Ub ["groups"] (top 58)=Δ:=∅
def c35:ir Z Ud ["holdouts","switch_names"] (top 59)=Δ:=∅
def c36:ir Z Ug ["switches","group_names","switch_names"] (top 60)=Δ:=∅
def c37:ir Z Ui ["needs"] (top 61)=Δ:=∅
def c38:ir Z Uk ["switches"] (top 63)=Δ:=∅
def c39:ir Z Um ["house"] (top 64)=Δ:=∅
def c40:ir Z Rq ["rows"] (top 68)=Δ:=∅
def c41:ir Z Rr ["house","deed"] (top 69)=Δ:=∅
def c42:ir Z Up ["pairs","name","value"] (top 70)=Δ:=∅
def c43:ir Z Ur ["salt","rest","faces"] (top 72)=Δ:=∅
def c44:ir Z Ut ["entry","deed"] (top 73)=Δ:=∅
def c45:ir Z Rt ["switches","deed"] (top 74)=Δ:=∅
def c46:ir Z Ru ["house","deed"] (top 75)=Δ:=∅
def c47:ir Z Uv ["parents"] (top 78)=Δ:=∅
def c48:ir Z Ux ["parents"] (top 79)=Δ:=∅
def c49:ir Z Uz ["_law_script","_law_k","_law_many_here"] (top 82)=Δ:=∅
def c50:ir Z UB ["_law_script","_law_most"] (top 83)=Δ:=∅
def c51:ir Z Rv ["_law_script","_law_k","_law_count"] (top 84)=Δ:=∅
def c52:ir Z UD ["_law_script","_law_k"] (top 85)=Δ:=∅
def c53:ir Z UG ["_law_thing"] (top 86)=Δ:=∅
def c54:ir Z Rw ["_law_found","_law_due"] (top 87)=Δ:=∅
def c55:ir Z UI ["_law_script"] (top 88)=Δ:=∅
def c56:ir Z UK ["_law_script","_law_k","_law_many_here"] (top 89)=Δ:=∅
def c57:ir Z UM ["_law_parents_here","_law_machine"] (top 90)=Δ:=∅
def c58:ir Z UO ["_law_script","_law_k","_law_tree","_law_parents_here","_law_moments"] (top 91)=Δ:=∅
def c59:jh Z NI ["_law_script","_law_k","_law_tree","_law_parents_here","_law_moments"] (top 92)=Δ:=∅
def WH:ir Z NJ ["_law_script"] (top 93)=Δ:=∅
def c61:jh Z NK ["self"] (K4 76 0)=Δ:=∅
def c62:jh Z NL ["self","deed"] (K4 76 1)=Δ:=∅
def c63:ir Z UT ["self"] (K4 76 2)=Δ:=∅
def c64:jh Z NO ["self","parents"] (K4 80 0)=Δ:=∅
def c65:ir Z UX ["self","machine","least"] (K4 80 1)=Δ:=∅
def c66:jh Z NP ["self","deed"] (K4 80 2)=Δ:=∅
def c67:jh Z Lm ["self","lost"] (K4 80 3)=Δ:=∅
def c68:ir Z U0 ["self","machine"] (K4 80 4)=Δ:=∅
def c69:ir Z Rx ["self","machine"] (K4 80 5)=Δ:=∅
def Cr:∀n x,Z.name n=Γ x->x≠"__name__"/\(x == ("__debug__" : Str))=Θ:=by
 have h:(iD++Z.nm).all (λx=>!(x == "__name__")&&!(x == "__debug__"))=Δ:=∅
 intro n x hx;have:=I_.mp h x (S_ hx);simpa using this
@[elab_as_elim]def Kg {P:List Φ->Prop}  (us:List Φ) (e:us.length=n+1) (h:∀(x:Φ) (us:List Φ),us.length=n->P (x::us)):P us:=by
 cases us with
 |nil=>cases e
 |cons x us=>exact h x us (Nat.succ.inj e)
@[elab_as_elim]def OP {P:List Φ->Prop} (us:List Φ) (e:us.length=0) (h:P []):P us:=by
 cases us with
 |nil=>exact h
 |cons x us=>cases e
def ln1 {ps:Â}(h:∀x0:Φ,bindArgs fd ⟨[x0],[]⟩=pure (ps.zip [x0]))(us:List Φ)(e:us.length=1):bindArgs fd ⟨us,[]⟩=pure (ps.zip us):=Kg us e λx0 us e=>OP us e (h x0)
def ln2 {ps:Â}(h:∀x0 x1:Φ,bindArgs fd ⟨[x0,x1],[]⟩=pure (ps.zip [x0,x1]))(us:List Φ)(e:us.length=2):bindArgs fd ⟨us,[]⟩=pure (ps.zip us):=Kg us e λx0 us e=>Kg us e λx1 us e=>OP us e (h x0 x1)
def ln3 {ps:Â}(h:∀x0 x1 x2:Φ,bindArgs fd ⟨[x0,x1,x2],[]⟩=pure (ps.zip [x0,x1,x2]))(us:List Φ)(e:us.length=3):bindArgs fd ⟨us,[]⟩=pure (ps.zip us):=Kg us e λx0 us e=>Kg us e λx1 us e=>Kg us e λx2 us e=>OP us e (h x0 x1 x2)
def ln4 {ps:Â}(h:∀x0 x1 x2 x3:Φ,bindArgs fd ⟨[x0,x1,x2,x3],[]⟩=pure (ps.zip [x0,x1,x2,x3]))(us:List Φ)(e:us.length=4):bindArgs fd ⟨us,[]⟩=pure (ps.zip us):=Kg us e λx0 us e=>Kg us e λx1 us e=>Kg us e λx2 us e=>Kg us e λx3 us e=>OP us e (h x0 x1 x2 x3)
def ln5 {ps:Â}(h:∀x0 x1 x2 x3 x4:Φ,bindArgs fd ⟨[x0,x1,x2,x3,x4],[]⟩=pure (ps.zip [x0,x1,x2,x3,x4]))(us:List Φ)(e:us.length=5):bindArgs fd ⟨us,[]⟩=pure (ps.zip us):=Kg us e λx0 us e=>Kg us e λx1 us e=>Kg us e λx2 us e=>Kg us e λx3 us e=>Kg us e λx4 us e=>OP us e (h x0 x1 x2 x3 x4)
def dfo {st:Stmt}  {kV:Φ}(c:ir Z fn ps st=Δ)(hT:T f=Γ fn)(b:∀(kV dc pm:Φ)(an:Option Ψ)(cd ct:Φ)(us:List Φ),us.length=ps.length->bindArgs (W.fnOf x x (iI st) (iC st) (il st) .none kV dc pm an cd ct) ⟨us,[]⟩=pure (ps.zip us))(X:K.In h)(G:h.Ns Ζ mg)
  (a:W.nsIn K Ζ x=Γ (Γ (.ref fa))) (l:K.lookup fa=Γ ⟨oc,od,.func (W.fnOf x x (iI st) (iC st) (il st) .none kV dc pm an cd ct),sl⟩) (e:W.codeIn K cd x=Δ) (k:W.keepIn K (.ref fa)=Δ):G6 K mg Z T f x:=⟨fn,st,fa,_,ps,hT,j7 l e k,W.mg_of X G a,.all (b _ _ _ _ _ _),n8 c⟩
def FD {f p0:Nat}{x:Str}{fn:Fn}{st:Stmt}{fa:Ψ}{ps:Â}{K:W.Frag}{h:Heap}{mg:Str->Option Φ}{oc:Φ}{od an:Option Ψ}{sl:Array (Option Φ)}{kV dc pm cd ct:Φ}(c:jh Z fn ps st=Δ)(hT:T f=Γ fn)(hi:fn.G.io=Γ p0)(b:∀(kV dc pm:Φ)(an:Option Ψ)(cd ct:Φ)(us:List Φ),us.length=ps.length->bindArgs (W.fnOf x x (iI st) (iC st) (il st) .none kV dc pm an cd ct) ⟨us,[]⟩=pure (ps.zip us))(X:K.In h)(G:h.Ns Ζ mg)
  (a:W.nsIn K Ζ x=Γ (Γ (.ref fa))) (l:K.lookup fa=Γ ⟨oc,od,.func (W.fnOf x x (iI st) (iC st) (il st) .none kV dc pm an cd ct),sl⟩) (e:W.codeIn K cd x=Δ) (k:W.keepIn K (.ref fa)=Δ):HC K Z T f p0 (λfa=>mg x=Γ (.ref fa)/\W.keepIn K (.ref fa)=Δ):=⟨fn,x,x,st,fa,_,ps,hT,j7 l e k,⟨W.mg_of X G a,k⟩,.all (b _ _ _ _ _ _),kG c hi⟩
def pX {K:W.Frag}{y x:Str}{C fa:Ψ}(u:W.nsIn K Ζ y=Γ (Γ (.ref C)))(m:W.findIn K (.ref C) x=Γ (Γ (.ref fa)))(i:W.isFn K (.ref fa)=Δ)(k:W.keepIn K (.ref fa)=Δ):jl K y x fa:=λC' o=>by have h:=o.1;rw[u]at h;cases h;exact⟨m,i,k⟩
def Er {f:Nat}{x q y:Str}{fn:Fn}{st:Stmt}{fa C:Ψ}{ps:Â}{K:W.Frag}{oc dV:Φ}{od an:Option Ψ}{sl:Array (Option Φ)}{kV dc pm cd ct:Φ}(c:jh Z fn ps st=Δ)(hT:T f=Γ fn)(hi:fn.G.io=Γ 0)(b:Binds K (W.fnOf x q (iI st) (iC st) (il st) dV kV dc pm an cd ct) ps [.none])
  (l:K.lookup fa=Γ ⟨oc,od,.func (W.fnOf x q (iI st) (iC st) (il st) dV kV dc pm an cd ct),sl⟩) (e:W.codeIn K cd q=Δ) (k:W.keepIn K (.ref fa)=Δ) (u:W.nsIn K Ζ y=Γ (Γ (.ref C))) (m:W.findIn K (.ref C) x=Γ (Γ (.ref fa))) (i:W.isFn K (.ref fa)=Δ):Kz K Z T f (jl K y x):=⟨fn,x,q,st,fa,_,ps,hT,j7 l e k,pX u m i k,b,kG c hi⟩
def dfm {f:Nat}{x q y:Str}{fn:Fn}{st:Stmt}{fa C:Ψ}{ps:Â}{K:W.Frag}{oc:Φ}{od an:Option Ψ}{sl:Array (Option Φ)}{kV dc pm cd ct:Φ}(c:ir Z fn ps st=Δ)(hT:T f=Γ fn)(b:∀(kV dc pm:Φ)(an:Option Ψ)(cd ct:Φ)(us:List Φ),us.length=ps.length->bindArgs (W.fnOf x q (iI st) (iC st) (il st) .none kV dc pm an cd ct) ⟨us,[]⟩=pure (ps.zip us))
  (l:K.lookup fa=Γ ⟨oc,od,.func (W.fnOf x q (iI st) (iC st) (il st) .none kV dc pm an cd ct),sl⟩) (e:W.codeIn K cd q=Δ) (k:W.keepIn K (.ref fa)=Δ) (u:W.nsIn K Ζ y=Γ (Γ (.ref C))) (m:W.findIn K (.ref C) x=Γ (Γ (.ref fa))) (i:W.isFn K (.ref fa)=Δ):JT K Z T f (jl K y x):=⟨fn,x,q,st,fa,_,ps,hT,j7 l e k,pX u m i k,.all (b _ _ _ _ _ _),n8 c⟩
def Es {f:Nat}{x q y:Str}{fn:Fn}{st:Stmt}{fa C:Ψ}{ps:Â}{K:W.Frag}{oc:Φ}{od an:Option Ψ}{sl:Array (Option Φ)}{kV dc pm cd ct:Φ}(c:jh Z fn ps st=Δ)(hT:T f=Γ fn)(hi:fn.G.io=Γ 0)(b:∀(kV dc pm:Φ)(an:Option Ψ)(cd ct:Φ)(us:List Φ),us.length=ps.length->bindArgs (W.fnOf x q (iI st) (iC st) (il st) .none kV dc pm an cd ct) ⟨us,[]⟩=pure (ps.zip us))
  (l:K.lookup fa=Γ ⟨oc,od,.func (W.fnOf x q (iI st) (iC st) (il st) .none kV dc pm an cd ct),sl⟩) (e:W.codeIn K cd q=Δ) (k:W.keepIn K (.ref fa)=Δ) (u:W.nsIn K Ζ y=Γ (Γ (.ref C))) (m:W.findIn K (.ref C) x=Γ (Γ (.ref fa))) (i:W.isFn K (.ref fa)=Δ):HC K Z T f 0 (jl K y x):=⟨fn,x,q,st,fa,_,ps,hT,j7 l e k,pX u m i k,.all (b _ _ _ _ _ _),kG c hi⟩
def Cs {f:Nat}{x q y:Str}{fn:Fn}{st:Stmt}{fa C:Ψ}{ps:Â}{K:W.Frag}{oc dV:Φ}{od an:Option Ψ}{sl:Array (Option Φ)}{kV dc pm cd ct:Φ}(c:jh Z fn ps st=Δ)(hT:T f=Γ fn)(hi:fn.G.io=Γ 0)(b:Binds K (W.fnOf x q (iI st) (iC st) (il st) dV kV dc pm an cd ct) ps [])
  (l:K.lookup fa=Γ ⟨oc,od,.func (W.fnOf x q (iI st) (iC st) (il st) dV kV dc pm an cd ct),sl⟩) (e:W.codeIn K cd q=Δ) (k:W.keepIn K (.ref fa)=Δ) (u:W.nsIn K Ζ y=Γ (Γ (.ref C))) (m:W.findIn K (.ref C) x=Γ (Γ (.ref fa))) (i:W.isFn K (.ref fa)=Δ):HC K Z T f 0 (jl K y x):=⟨fn,x,q,st,fa,_,ps,hT,j7 l e k,pX u m i k,b,kG c hi⟩
def dfk {f:Nat}{x q y:Str}{fn:Fn}{st:Stmt}{fa C:Ψ}{ps:Â}{K:W.Frag}{oc:Φ}{od an:Option Ψ}{sl:Array (Option Φ)}{kV dc pm cd ct:Φ}{h:Heap}{mg:Str->Option Φ}(c:jh Z fn ps st=Δ)(hT:T f=Γ fn)(hi:fn.G.io=Γ 0)(b:∀(kV dc pm:Φ)(an:Option Ψ)(cd ct:Φ)(us:List Φ),us.length=ps.length->bindArgs (W.fnOf x q (iI st) (iC st) (il st) .none kV dc pm an cd ct) ⟨us,[]⟩=pure (ps.zip us))(X:K.In h)(G:h.Ns Ζ mg)
  (l:K.lookup fa=Γ ⟨oc,od,.func (W.fnOf x q (iI st) (iC st) (il st) .none kV dc pm an cd ct),sl⟩) (e:W.codeIn K cd q=Δ) (k:W.keepIn K (.ref fa)=Δ) (u:W.nsIn K Ζ y=Γ (Γ (.ref C))) (m:W.findIn K (.ref C) x=Γ (Γ (.ref fa))) (i:W.isFn K (.ref fa)=Δ) (n:nameIn K C=Γ y) (j:W.makesIn K C=Δ) (p:W.keepIn K (.ref C)=Δ) (hx:x = "__init__":=by rfl):HC K Z T f 0 (uw K mg y y):=by
 subst hx;exact⟨fn,_,q,st,fa,_,ps,hT,j7 l e k,⟨C,⟨u,n⟩,W.mg_of X G u,⟨j,m,i,p⟩⟩,.all (b _ _ _ _ _ _),kG c hi⟩
def FE {K:W.Frag}{kV dc pm cd ct:Φ}{an od:Option Ψ}{T:Ψ}{oc:Φ}{n:Nat}{sl:Array (Option Φ)}(ho:K.lookup T=Γ ⟨oc,od,.seq #[.none] n,sl⟩):Binds K (W.fnOf "turn" "Tree.turn" (iI (K4 80 3)) (iC (K4 80 3)) (il (K4 80 3)) (.ref T) kV dc pm an cd ct) ["self","lost"] []:=λs us X hl=>by rw[R_]at *;exact Kg us hl λx0 us hl=>Kg us hl λx1 us hl=>OP us hl (W.binds_K X rfl ho rfl rfl rfl)
def FF {K:W.Frag}{kV dc pm cd ct:Φ}{an od:Option Ψ}{T:Ψ}{oc:Φ}{n:Nat}{sl:Array (Option Φ)}(ho:K.lookup T=Γ ⟨oc,od,.seq #[.none] n,sl⟩):Binds K (W.fnOf "turn" "Tree.turn" (iI (K4 80 3)) (iC (K4 80 3)) (il (K4 80 3)) (.ref T) kV dc pm an cd ct) ["self","lost"] [.none]:=λs us X hl=>by
 have hl:us.length+1=2:=by simpa using hl
 have hl:us.length=1:=Nat.succ.inj hl;exact Kg us hl λx1 us hl=>OP us hl (W.binds_K X rfl ho rfl rfl rfl)
abbrev Ct:Nat:=60
abbrev yU:Str:="_law_script"
def all_mk {l:PySem.W.OpenLaw}  (X:K.In h)(G:h.Ns Ζ mg)(Y5:mg "law" = Γ (.ref fa))
  (Y6:G6 K mg Z T 26 "is_whole")
  (Y7:G6 K mg Z T 27 "is_text_of")
  (Y8:G6 K mg Z T 28 "own_copy")
  (Y9:G6 K mg Z T 29 "check_salt")
  (Y':G6 K mg Z T 30 "allot_new")
  (Za:G6 K mg Z T 31 "switch_checked")
  (Zb:G6 K mg Z T 32 "check_new")
  (Zc:G6 K mg Z T 33 "check_switch_there")
  (Zd:G6 K mg Z T 34 "check_groups")
  (Ze:G6 K mg Z T 35 "check_holdouts")
  (Zf:G6 K mg Z T 36 "check_switches")
  (Zg:G6 K mg Z T 37 "tied_names")
  (Zh:G6 K mg Z T 38 "check_rings")
  (Zi:G6 K mg Z T 39 "house_checked")
  (Zj:G6 K mg Z T 40 "names_of")
  (Zk:G6 K mg Z T 41 "check_deed")
  (Zl:G6 K mg Z T 42 "pairs_with")
  (Zm:G6 K mg Z T 43 "new_entry")
  (Zn:G6 K mg Z T 44 "entry_after")
  (Zo:G6 K mg Z T 45 "switches_after")
  (Zq:G6 K mg Z T 46 "house_after")
  (Zr:G6 K mg Z T 47 "check_parents")
  (Zt:G6 K mg Z T 48 "depths_by_machine")
  (Zu:G6 K mg Z T 49 "_law_by")
  (Zv:G6 K mg Z T 50 "_law_many")
  (Zw:G6 K mg Z T 51 "_law_names")
  (Zx:G6 K mg Z T 52 "_law_salt")
  (Zy:G6 K mg Z T 53 "_law_whole")
  (Zz:G6 K mg Z T 54 "_law_alike")
  (ZA:G6 K mg Z T 55 "_law_parents")
  (ZC:G6 K mg Z T 56 "_law_lost")
  (ZD:G6 K mg Z T 57 "_law_way")
  (ZE:G6 K mg Z T 58 "_law_right")
  (ZF:HC K Z T 59 2 (λfa=>mg "_law_turned" = Γ (.ref fa)/\W.keepIn K (.ref fa)=Δ))
  (ZG:HC K Z T 61 0 (uw K mg "Book" "Book"))
  (ZH:HC K Z T 62 0 (jl K "Book" "change"))
  (ZI:JT K Z T 63 (jl K "Book" "moment"))
  (ZJ:HC K Z T 64 0 (uw K mg "Tree" "Tree"))
  (ZK:JT K Z T 65 (jl K "Tree" "check_machine"))
  (ZL:HC K Z T 66 0 (jl K "Tree" "change"))
  (ZM:HC K Z T 67 0 (jl K "Tree" "turn"))
  (U1:Kz K Z T 67 (jl K "Tree" "turn"))
  (ZN:JT K Z T 68 (jl K "Tree" "depth_of"))
  (ZO:JT K Z T 69 (jl K "Tree" "moment_of"))
  (a60:W.nsIn K Ζ "law" = Γ (Γ (.ref WI))) (l60:K.lookup WI=Γ ⟨ZP,ZQ,.func (W.fnOf "law" "law" (iI (top 93)) (iC (top 93)) (il (top 93)) .none U2 U3 U4 U5 QJ U6),ZR⟩) (e60:W.codeIn K QJ "law" = Δ) (k60:W.keepIn K (.ref WI)=Δ)
  (q21:W.nsIn K Ζ "LETTERS" = Γ (Γ (.str "abcdefghijklmnopqrstuvwxyz" t21)))
  (q22:W.nsIn K Ζ "PLACES" = Γ (Γ (.int 10007 t22)))
  (q23:W.nsIn K Ζ "SALT_LENGTH" = Γ (Γ (.int 12 t23)))
  (q24:W.nsIn K Ζ "DEEDS" = Γ (Γ (.ref ZT))) (r24:K.lookup ZT=Γ ⟨.type "tuple",ZU,.seq #[.str "group" WJ,.str "put" WK,.str "rules" WL,.str "needs" WM,.str "shares" WN,.str "stop" WO,.str "go" WQ,.str "hold" WR,.str "free" WT,.str "drop" WU] ZV,ZW⟩)
  (q25:W.nsIn K Ζ "DEEDS_ON_A_SWITCH" = Γ (Γ (.ref ZX))) (r25:K.lookup ZX=Γ ⟨.type "tuple",ZY,.seq #[.str "rules" WV,.str "needs" WX,.str "shares" WY,.str "stop" W0,.str "go" W2,.str "drop" W3] Z0,Z2⟩)
  (oc70:W.nsIn K Ζ "Book" = Γ (Γ (.ref MR)))
  (oc71:W.nsIn K Ζ "Tree" = Γ (Γ (.ref MT)))
  (pg70:W.plainGet K MR Str.empty=Δ)
  (hd70:W.hasDictIn K MR=Δ)
  (po70:W.plainOver K MR=Δ)
  (sa70:W.findIn K (.ref MR) "__setattr__" = Γ (Γ (.builtin "object.__setattr__")))
  (nadeeds_70:W.findIn K (.ref MR) "deeds" = Γ Ξ)
  (nahouses_70:W.findIn K (.ref MR) "houses" = Γ Ξ)
  (naparents_70:W.findIn K (.ref MR) "parents" = Γ Ξ)
  (nadepths_70:W.findIn K (.ref MR) "depths" = Γ Ξ)
  (nabook_70:W.findIn K (.ref MR) "book" = Γ Ξ)
  (namoments_70:W.findIn K (.ref MR) "moments" = Γ Ξ)
  (pg71:W.plainGet K MT Str.empty=Δ)
  (hd71:W.hasDictIn K MT=Δ)
  (po71:W.plainOver K MT=Δ)
  (sa71:W.findIn K (.ref MT) "__setattr__" = Γ (Γ (.builtin "object.__setattr__")))
  (nadeeds_71:W.findIn K (.ref MT) "deeds" = Γ Ξ)
  (nahouses_71:W.findIn K (.ref MT) "houses" = Γ Ξ)
  (naparents_71:W.findIn K (.ref MT) "parents" = Γ Ξ)
  (nadepths_71:W.findIn K (.ref MT) "depths" = Γ Ξ)
  (nabook_71:W.findIn K (.ref MT) "book" = Γ Ξ)
  (namoments_71:W.findIn K (.ref MT) "moments" = Γ Ξ)
  (z0:W.nsIn K Ζ "len" = Γ Ξ)
  (z1:W.nsIn K Ζ "sum" = Γ Ξ)
  (z2:W.nsIn K Ζ "min" = Γ Ξ)
  (z3:W.nsIn K Ζ "max" = Γ Ξ)
  (z4:W.nsIn K Ζ "sorted" = Γ Ξ)
  (z5:W.nsIn K Ζ "list" = Γ Ξ)
  (z6:W.nsIn K Ζ "tuple" = Γ Ξ)
  (z7:W.nsIn K Ζ "ord" = Γ Ξ)
  (z8:W.nsIn K Ζ "int" = Γ Ξ)
  (z9:W.nsIn K Ζ "all" = Γ Ξ)
  (z10:W.nsIn K Ζ "any" = Γ Ξ)
  (z11:W.nsIn K Ζ "str" = Γ Ξ)
  (z12:W.nsIn K Ζ "set" = Γ Ξ)
  (z13:W.nsIn K Ζ "abs" = Γ Ξ)
  (z14:W.nsIn K Ζ "isinstance" = Γ Ξ)
  (z15:W.nsIn K Ζ "range" = Γ Ξ)
  (z16:W.nsIn K Ζ "bool" = Γ Ξ)
  (z17:W.nsIn K Ζ "zip" = Γ Ξ)
  (z18:W.nsIn K Ζ "reversed" = Γ Ξ)
  (z19:W.nsIn K Ζ "dict" = Γ Ξ)
  (z20:W.nsIn K Ζ "enumerate" = Γ Ξ) :
  ∃fd:Ν,(∀(s:Ω) (v:Φ),BindsTo s fd ⟨[v],[]⟩ [(yU,v)])/\∀base:Heap,K.In base->base.Ns Ζ mg->Ic l.prog w K mg base (JR l.prog w) (2*16+4+1) fa fd [yU] (Pg K (bB T (16+1)) Ct [yU]):=by
 have e:=Y5.symm.trans (PySem.W.mg_of X G a60);cases e;have t:Jz K mg Z T:=by
  constructor
  case Nc=>
   exact Cr
  case blt=>
   exact λn x hx=>by
    have key:∀y∈iD,mg y=Ξ:=by
     intro y hy;simp only[iD,l_,E_,or_false]at hy;rcases hy with rfl|rfl|rfl|rfl|rfl|rfl|rfl|rfl|rfl|rfl|rfl|rfl|rfl|rfl|rfl|rfl|rfl|rfl|rfl|rfl|rfl
     ·exact F_ X G z0
     ·exact F_ X G z1
     ·exact F_ X G z2
     ·exact F_ X G z3
     ·exact F_ X G z4
     ·exact F_ X G z5
     ·exact F_ X G z6
     ·exact F_ X G z7
     ·exact F_ X G z8
     ·exact F_ X G z9
     ·exact F_ X G z10
     ·exact F_ X G z11
     ·exact F_ X G z12
     ·exact F_ X G z13
     ·exact F_ X G z14
     ·exact F_ X G z15
     ·exact F_ X G z16
     ·exact F_ X G z17
     ·exact F_ X G z18
     ·exact F_ X G z19
     ·exact F_ X G z20
    exact key x (S_ hx)
  case cst=>
   exact λn d x hm hx=>by
    have J7:(n,d)∈([(21,(.str "abcdefghijklmnopqrstuvwxyz")),(22,(.int 10007)),(23,(.int 12)),(24,(.tup [.str "group",.str "put",.str "rules",.str "needs",.str "shares",.str "stop",.str "go",.str "hold",.str "free",.str "drop"])),(25,(.tup [.str "rules",.str "needs",.str "shares",.str "stop",.str "go",.str "drop"]))]:List (Nat×D)):=hm;simp only[l_,E_,or_false,Prod.mk.injEq]at J7;rcases J7 with⟨rfl,rfl⟩|⟨rfl,rfl⟩|⟨rfl,rfl⟩|⟨rfl,rfl⟩|⟨rfl,rfl⟩
    ·cases hx;exact⟨_,.str _,PySem.W.mg_of X G q21,⟨_,rfl⟩,λ_ _=>.str _⟩
    ·cases hx;exact⟨_,.int _,PySem.W.mg_of X G q22,⟨_,rfl⟩,λ_ _=>.int _⟩
    ·cases hx;exact⟨_,.int _,PySem.W.mg_of X G q23,⟨_,rfl⟩,λ_ _=>.int _⟩
    ·cases hx;exact⟨_,.ref _,PySem.W.mg_of X G q24,rfl,λ_ _=>.tup (sS [("group",_),("put",_),("rules",_),("needs",_),("shares",_),("stop",_),("go",_),("hold",_),("free",_),("drop",_)] r24 (Nat.le_of_ble_eq_true rfl)) (.cons (.str _) (.cons (.str _) (.cons (.str _) (.cons (.str _) (.cons (.str _) (.cons (.str _) (.cons (.str _) (.cons (.str _) (.cons (.str _) (.cons (.str _) .nil))))))))))⟩
    ·cases hx;exact⟨_,.ref _,PySem.W.mg_of X G q25,rfl,λ_ _=>.tup (sS [("rules",_),("needs",_),("shares",_),("stop",_),("go",_),("drop",_)] r25 (Nat.le_of_ble_eq_true rfl)) (.cons (.str _) (.cons (.str _) (.cons (.str _) (.cons (.str _) (.cons (.str _) (.cons (.str _) .nil))))))⟩
  case fns=>
   exact λf hf x hx=>by
    have Ni:f∈([26,27,28,29,30,31,32,33,34,35,36,37,38,39,40,41,42,43,44,45,46,47,48,49,50,51,52,53,54,55,56,57,58,60]:Ã):=hf;simp only[l_,E_,or_false]at Ni;rcases Ni with rfl|rfl|rfl|rfl|rfl|rfl|rfl|rfl|rfl|rfl|rfl|rfl|rfl|rfl|rfl|rfl|rfl|rfl|rfl|rfl|rfl|rfl|rfl|rfl|rfl|rfl|rfl|rfl|rfl|rfl|rfl|rfl|rfl|rfl<;>cases hx<;>first|assumption|exact Y6|exact Y7|exact Y8|exact Y9|exact Y'|exact Za|exact Zb|exact Zc|exact Zd|exact Ze|exact Zf|exact Zg|exact Zh|exact Zi|exact Zj|exact Zk|exact Zl|exact Zm|exact Zn|exact Zo|exact Zq|exact Zr|exact Zt|exact Zu|exact Zv|exact Zw|exact Zx|exact Zy|exact Zz|exact ZA|exact ZC|exact ZD|exact ZE|exact dfo WH rfl (λ_ _ _ _ _ _=>ln1 λ_=>rfl) X G a60 l60 e60 k60
  case Im=>
   exact λf c m hm=>by
    have J7:(f,c,m)∈([(62,"Book","change"),(66,"Tree","change"),(67,"Tree","turn")]:List (Nat×Str×Str)):=hm;simp only[l_,E_,or_false,Prod.mk.injEq]at J7;rcases J7 with⟨rfl,rfl,rfl⟩|⟨rfl,rfl,rfl⟩|⟨rfl,rfl,rfl⟩
    ·exact ZH
    ·exact ZL
    ·exact ZM
  case JM=>
   exact λf p hf x hx=>by
    have Ni:(f,p)∈([(59,2)]:List (Nat×Nat)):=hf;simp only[l_,E_,or_false,Prod.mk.injEq]at Ni;rcases Ni with⟨rfl,rfl⟩
    ·cases hx;exact ZF
  case JN=>
   exact λf c m hm=>by
    have J7:(f,c,m)∈([(67,"Tree","turn")]:List (Nat×Str×Str)):=hm;simp only[l_,E_,or_false,Prod.mk.injEq]at J7;rcases J7 with⟨rfl,rfl,rfl⟩
    ·exact U1
  case fmt=>
   exact λf c m hm=>by
    have J7:(f,c,m)∈([(63,"Book","moment"),(65,"Tree","check_machine"),(68,"Tree","depth_of"),(69,"Tree","moment_of")]:List (Nat×Str×Str)):=hm;simp only[l_,E_,or_false,Prod.mk.injEq]at J7;rcases J7 with⟨rfl,rfl,rfl⟩|⟨rfl,rfl,rfl⟩|⟨rfl,rfl,rfl⟩|⟨rfl,rfl,rfl⟩
    ·exact ZI
    ·exact ZK
    ·exact ZN
    ·exact ZO
  case Mn=>
   exact λn c f x hm hx=>by
    have J7:(n,c,f)∈([(70,Ο "Book",61),(71,Ο "Tree",64)]:List (Nat×Str×Nat)):=hm;simp only[l_,E_,or_false,Prod.mk.injEq]at J7;rcases J7 with⟨rfl,rfl,rfl⟩|⟨rfl,rfl,rfl⟩
    ·cases hx;exact ZG
    ·cases hx;exact ZJ
  case KI=>
   exact λc hc C o=>by
    have L5:c∈(["Book","Tree"]:Â):=hc;simp only[l_,E_,or_false]at L5;rcases L5 with rfl|rfl
    ·have h:=o.1;rw[oc70]at h;cases h;refine⟨⟨pg70,hd70,po70,sa70⟩,λx hx=>?_⟩;have Hr:x∈(["deeds","houses","parents","depths","book","moments"]:Â):=hx;simp only[l_,E_,or_false]at Hr;rcases Hr with rfl|rfl|rfl|rfl|rfl|rfl
     ·exact nadeeds_70
     ·exact nahouses_70
     ·exact naparents_70
     ·exact nadepths_70
     ·exact nabook_70
     ·exact namoments_70
    ·have h:=o.1;rw[oc71]at h;cases h;refine⟨⟨pg71,hd71,po71,sa71⟩,λx hx=>?_⟩;have Hr:x∈(["deeds","houses","parents","depths","book","moments"]:Â):=hx;simp only[l_,E_,or_false]at Hr;rcases Hr with rfl|rfl|rfl|rfl|rfl|rfl
     ·exact nadeeds_71
     ·exact nahouses_71
     ·exact naparents_71
     ·exact nadepths_71
     ·exact nabook_71
     ·exact namoments_71
  case Wq=>
   exact λf hf=>absurd (show f∈([]:Ã) from hf) (by simp)
 exact⟨PySem.W.fnOf "law" "law" (iI (top 93)) (iC (top 93)) (il (top 93)) .none U2 U3 U4 U5 QJ U6,λs v=>.of_eq rfl,λbase _ _=>B6 t 16 (by decide) (f:=60) (fn:=NJ) rfl (j7 (st:=top 93) l60 e60 k60) (n8 WH)⟩
end Law
namespace L2
open PySem PySem.Spec PyProof.Rows PySem.SeqAt
namespace Fr
abbrev one (c:Nat):Str:=⟨#[c]⟩
abbrev Hd (cs:Ã):Str:=⟨cs.toArray⟩
def low (c:Nat):Prop:=97<=c/\c<=122
def wM:(Ο "abcdefghijklmnopqrstuvwxyz").cps.toList=List.range' 97 26:=∅
def tN:(Ο "abcdefghijklmnopqrstuvwxyz").length=26:=∅
def wN (h0:0<=i)(h1:i < 26):lM (.str "abcdefghijklmnopqrstuvwxyz") (.int i)=.ok (.str (one (97+i.toNat))):=by
 rw[TU h0 (by rw[tN];exact h1) (by rw[tN];decide),wM];have:(List.range' 97 26).getD i.toNat 0=97+i.toNat:=by rw[aaa,List.getElem?_range' (by omega)];show 97+1*i.toNat=_;omega
 rw[this];rfl
def ni (cs:Ã):(Hd cs).length=cs.length:=by unfold Hd Str.length;simp
def yV (c:Nat):(one c).length=1:=rfl
theorem o8:∀(cs:Ã) (acc:Array Nat),(cs.map one).foldl (λacc p=>acc++(Ο "").cps++p.cps) acc=acc++cs.toArray
 |[],acc=>by simp
 |c::cs,acc=>by
  have e:(Ο "").cps = #[]:=∅
  rw[c_,List.foldl_cons,o8 cs,e];show acc++#[]++#[c]++cs.toArray=_;simp
def join_one (cs:Ã):Txt.join "" (cs.map one)=Hd cs:=by
 show(⟨((cs.map one).drop 1).foldl (λacc p=>acc++(Ο "").cps++p.cps) ((cs.map one).headD Str.empty).cps⟩:Str)=_;cases cs with
 |nil=>rfl
 |cons c cs=>rw[c_,List.drop_succ_cons,List.drop_zero,List.headD_cons,o8];unfold Hd one;simp
def yW (cs:Ã):((cs.map one).map (λy:Str=>y.length)).sum=cs.length:=by
 induction cs with
 |nil=>rfl
 |cons c cs ih=>rw[c_,c_,List.sum_cons,ih,List.length_cons,yV];omega
def tO {o:Bool}  (h:cs.length<=1000):oA .join (.str "") [.lst o ((cs.map one).map .str)]=.ok (.str (Hd cs)):=by
 have e:(Ο "").length=0:=∅
 rw[yS (by rw[yW,h_,e];omega),join_one]
def qX (h0:0<=j)(h1:j<=cs.length):Txt.slice (Hd cs) Ξ (Γ j)=Hd (cs.take j.toNat):=by
 have:=StrLaws.sliceText_to (x:=Hd cs) (j:=j) ⟨h0,by show j<=(cs.toArray.toList.length:Nat);simpa using h1⟩;refine this.trans ?_;show(⟨((cs.toArray.toList.drop 0).take (j - 0).toNat).toArray⟩:Str)=⟨(cs.take j.toNat).toArray⟩
 rw[List.toList_toArray,List.drop_zero,Int.sub_zero]
def uB {cs:Ã}{i j:Int}(h0:0<=i)(h1:i<=j)(h2:j<=cs.length):Txt.slice (Hd cs) (Γ i) (Γ j)=Hd ((cs.drop i.toNat).take (j - i).toNat):=by have:=StrLaws.sliceText_plain (x:=Hd cs) (i:=i) (j:=j) ⟨h0,h1,by show j<=(cs.toArray.toList.length:Nat);simpa using h2⟩;refine this.trans ?_;show(⟨((cs.toArray.toList.drop i.toNat).take (j - i).toNat).toArray⟩:Str)=_;rw[List.toList_toArray];rfl
def yX (a b:Ã):Hd a++Hd b=Hd (a++b):=by
 show(⟨a.toArray++b.toArray⟩:Str)=⟨(a++b).toArray⟩
 rw[List.append_toArray]
def tP (h:a.length+b.length<=1000):JL .add (.str (Hd a)) (.str (Hd b))=.ok (.str (Hd (a++b))):=by rw[bI,pW (by rw[ni,ni];omega),yX];rfl
def o9 (cs:Ã):jD (Hd cs)=(cs.map one).map .str:=by unfold jD Hd one;rw[V_];rfl
def Cu (h:low c):qw "abcdefghijklmnopqrstuvwxyz" (one c)=Δ:=by
 have:∀k,k < 26->qw "abcdefghijklmnopqrstuvwxyz" (one (97+k))=Δ:=∅
 obtain⟨h1,h2⟩:=h;rw[show c=97+(c - 97) by omega];exact this _ (by omega)
end Fr
end L2
namespace Law
open PySem PySem.Spec L2 L2.Fr PyProof.Rows
def gx {n:Nat}{ds:Ê}(f:Nat)(fn:Fn)(m k:Nat)(body:Æ)(h:T f=Γ fn)(h0:fn.io=Θ)(h1:fn.np=m)(h2:fn.G.N.length=k)(h3:fn.body=body)(hl:ds.length=m):bB T (n+1) f ds=FW (ix (bB T n) body (ds.map Γ++Ρ (k - m) Ξ)) wJ:=go h h0 h1 h2 h3 hl
abbrev NQ (ns:Å)(k:Int):Int:=if 0 < ns.length then ns.getD (k % (ns.length:Int)).toNat 0 % 999983 else 0
abbrev dr (ns:Å)(k m:Int):Int:=(NQ ns k+17*k+5)*(48271+613*k*k) % 999983*(16807+271*k) % 1000003 % m
def Et (ns:Å)(k:Int):0<=NQ ns k/\NQ ns k < 999983:=by
 unfold NQ;split
 ·exact⟨Int.emod_nonneg _ (by decide),Int.emod_lt_of_pos _ (by decide)⟩
 ·decide
def mZ (ns:Å)(k:Int)  (h:0 < m):0<=dr ns k m:=Int.emod_nonneg _ (by omega)
def oE (ns:Å)(k:Int)  (h:0 < m):dr ns k m < m:=Int.emod_lt_of_pos _ h
def jK (n:Nat)(ns:Å)(k m:Int)(h0:0<=k)(h1:k<=5000)(hm:0 < m):bB T (n+1) 49 [.lst Θ (ns.map .int),.int k,.int m]=.ok (.int (dr ns k m)):=by
 rw[gx 49 Uz 3 5 Uy rfl rfl rfl rfl rfl rfl];unfold Uy;obtain⟨b0,b1⟩:=Et ns k;unfold dr;have lm:(ns.map D.int).length=ns.length:=h_ _;by_cases h:0 < ns.length
 ·have hd:decide ((0:Int) < (ns.length:Int))=Δ:=A_ (by omega);have c0:=Int.emod_nonneg k (show(ns.length:Int)≠0 by omega);have c1:=Int.emod_lt_of_pos k (show(0:Int) < (ns.length:Int) by omega);have ec:ns.getD (k % (ns.length:Int)).toNat 0 % 999983=NQ ns k:=by unfold NQ;rw[d_ h]
  simp![lm,hd,ec]
 ·have hd:decide ((0:Int) < (ns.length:Int))=Θ:=x_ (by omega);have ec:NQ ns k=0:=by unfold NQ;rw[b_ h]
  rw[ec];simp![lm,hd]
def Sl (cs:Ã):Prop:=1<=cs.length/\cs.length<=12/\∀c∈cs,low c
def yY (n:Nat)  (h:Sl cs):bB T (n+1) 27 [.str (Hd cs),.str "abcdefghijklmnopqrstuvwxyz",.int 1,.int 12]=.ok (.bl Δ):=by
 rw[gx 27 TZ 4 4 TY rfl rfl rfl rfl rfl rfl];unfold TY;obtain⟨h1,h2,h3⟩:=h;have e1:iX (jr (bB T n) (.nm 1) [] (.cmp .JA (.v 1) (.v 0)) [Γ (.str "abcdefghijklmnopqrstuvwxyz"),Ξ]) (jD (Hd cs))=.ok ((cs.map λc=>Δ).map .bl):=by rw[o9,V_];refine jd (λc:Nat=>D.str (one c)) (λc=>Δ) .bl _ λc hc=>?_;have:=Cu (h3 c hc);simp![this]
 have ea:(cs.map λ_=>Δ).all id=Δ:=by rw[List.all_map];simp
 have lc:(jD (Hd cs)).length=cs.length:=by rw[o9,h_,h_]
 have d1:decide ((1:Int)<=(cs.length:Int))=Δ:=A_ (by omega);have d2:decide ((cs.length:Int)<=12)=Δ:=A_ (by omega);have sl:=ni cs;simp![d1,d2,e1,ea,lc,sl]
def sD (n:Nat)  (h:Sl cs):bB T (n+2) 29 [.str (Hd cs)]=.ok .Gx:=by have e:=yY n h;rw[gx 29 T2 1 1 T1 rfl rfl rfl rfl rfl rfl];unfold T1;simp![e]
abbrev zs (m:Int):Å:=(List.range (m - 0).toNat).map λk=>(0:Int)+((k:Nat):Int)
def kH {m x:Int}(h:x∈zs m):0<=x/\x < m:=by obtain⟨k,hk,rfl⟩:=List.mem_map.mp h;have:=X_.mp hk;omega
def jY (m:Int):(zs m).length=m.toNat:=by unfold zs;rw[h_,U_,Int.sub_zero]
def lL (m:Int):iW 0 m=(zs m).map .int:=qW 0 m
abbrev lt (ns:Å)(k:Int)(j:Int):Nat:=97+(dr ns (k+j) 26).toNat
def wO (ns:Å)(k j:Int):low (lt ns k j):=by have b0:=mZ ns (k+j) (m:=26) (by decide);have b1:=oE ns (k+j) (m:=26) (by decide);unfold lt low;omega
def Ay (n:Nat)(ns:Å){k m:Int}(h0:0<=k)(h1:k<=2000)(hm:m<=100):iX (jr (bB T (n+1)) (.nm 3) [] (.idx (.v 0) (.call 49 [.v 1,.bin .add (.v 2) (.v 3),.c (.int 26)])) [Γ (.str "abcdefghijklmnopqrstuvwxyz"),Γ (.lst Θ (ns.map .int)),Γ (.int k),Ξ]) ((zs m).map .int)=.ok ((((zs m).map (lt ns k)).map one).map .str):=by rw[V_ (f:=lt ns k) (g:=one)];refine jd .int (one ∘ lt ns k) .str _ λj hj=>?_;have:=kH hj;have d:=jK n ns (k+j) 26 (by omega) (by omega) (by decide);have ab:=wN (mZ ns (k+j) (m:=26) (by decide)) (oE ns (k+j) (m:=26) (by decide));show _=Except.ok (Γ (D.str (one (97+(dr ns (k+j) 26).toNat))));simp![d,ab]
def yZ (n:Nat)(ns:Å)  (h0:0<=k)(h1:k<=1900):∃cs:Ã,bB T (n+2) 52 [.lst Θ (ns.map .int),.int k]=.ok (.str (Hd cs))/\Sl cs:=by
 have d0:=jK n ns (k+13) 12 (by omega) (by omega) (by decide);have a0:=mZ ns (k+13) (m:=12) (by decide);have a1:=oE ns (k+13) (m:=12) (by decide);generalize dr ns (k+13) 12=r at *;have fm:=Ay n ns (m:=1+r) h0 (by omega) (by omega);have zl:=jY (1+r);have ln:((zs (1+r)).map (lt ns k)).length=(1+r).toNat:=by rw[h_,zl]
 have U7:∀c∈(zs (1+r)).map (lt ns k),low c:=λc hc=>by obtain⟨j,_,rfl⟩:=List.mem_map.mp hc;exact wO ns k j
 have rz:=lL (1+r);have lz:((zs (1+r)).map D.int).length=(1+r).toNat:=by rw[h_,zl]
 generalize(zs (1+r)).map (lt ns k)=cs at *;refine⟨cs,?_,by omega,by omega,U7⟩;have je:=tO (o:=Δ) (cs:=cs) (by omega);rw[gx 52 UD 2 3 UC rfl rfl rfl rfl rfl rfl];unfold UC;simp![d0,rz,lz,fm,je]
def tQ (h:Hd a=Hd b):a=b:=by have:=congrArg (λs:Str=>s.cps.toList) h;simpa[Hd] using this
def qY (xs:List α)  (h:0<=m):nJ xs (Γ m) Ξ=xs.drop m.toNat:=by
 unfold nJ HT.JH;dsimp only;rw[b_ (by omega)];by_cases hm:m.toNat<=xs.length
 ·rw[show min m.toNat xs.length=m.toNat from Nat.min_eq_left hm,List.take_of_length_le (by rw[List.length_drop];omega)]
 ·rw[show min m.toNat xs.length=xs.length from Nat.min_eq_right (by omega),List.drop_of_length_le (n_ _),List.drop_of_length_le (by omega),List.take_nil]
theorem pY {α β:Type}(f:α->β):∀ {l:List α},l.Nodup->(∀x∈l,∀y∈l,f x=f y->x=y)->(l.map f).Nodup
 |[],_,_=>List.nodup_nil
 |a::l,h,hf=>by rw[q_]at h;rw[c_,q_];refine⟨λhm=>?_,pY f h.2 λx hx y hy=>hf x (H_ _ hx) y (H_ _ hy)⟩;obtain⟨b,hb,e⟩:=List.mem_map.mp hm;exact h.1 (hf b (H_ _ hb) a aai e ▸ hb)
def Az (m:Int):(zs m).Nodup:=pY _ List.nodup_range λx _ y _ e=>by omega
structure QK (m:Int)(fs:Â):Prop where
 len:fs.length=m.toNat
 nd:fs.Nodup
 lo:∀f∈fs,∃cs:Ã,f=Hd cs/\1<=cs.length/\cs.length<=8/\∀c∈cs,low c
def tR {m t:Int}{fs:Â}(h:QK m fs):QK m (fs.drop t.toNat++fs.take t.toNat):=by have p:(fs.drop t.toNat++fs.take t.toNat).Perm fs:=W_.trans (by rw[List.take_append_drop]);exact⟨p.length_eq.trans h.len,p.nodup_iff.mpr h.nd,λf hf=>h.lo f (p.mem_iff.mp hf)⟩
def wQ (n:Nat)(ns:Å)  (h0:0<=k)(h1:k<=1900)(hm:1<=m)(hm8:m<=8):∃fs:Â,bB T (n+2) 51 [.lst Θ (ns.map .int),.int k,.int m]=.ok (.lst Δ (fs.map .str))/\QK m fs:=by
 have fw:=Ay n ns (k:=k) (m:=8) h0 (by omega) (by decide);have W4:=jY 8;have lw:((zs 8).map (lt ns k)).length=8:=by rw[h_,W4];rfl
 have U8:∀c∈(zs 8).map (lt ns k),low c:=λc hc=>by obtain⟨j,_,rfl⟩:=List.mem_map.mp hc;exact wO ns k j
 have W5:=lL 8;have W6:((zs 8).map D.int).length=8:=by rw[h_,W4];rfl
 generalize(zs 8).map (lt ns k)=cs at *;have je:=tO (o:=Δ) (cs:=cs) (by omega);have d8:=jK n ns (k+8) m (by omega) (by omega) (by omega);have t0:=mZ ns (k+8) (m:=m) (by omega);generalize dr ns (k+8) m=t at *;have W7:=lL m;have Ry:=jY m;have W8:((zs m).map D.int).length=m.toNat:=by rw[h_,Ry]
 have sl:=ni cs
 -- MF OQ of MF word
 have f1:iX (jr (bB T (n+1)) (.nm 1) [] (.sl (.v 0) Ξ (Γ (.bin .add (.v 1) (.c (.int 1))))) [Γ (.str (Hd cs)),Ξ]) ((zs m).map .int)=.ok (((zs m).map λj=>Hd (cs.take (j+1).toNat)).map .str):=by refine jd .int (λj=>Hd (cs.take (j+1).toNat)) .str _ λj hj=>?_;have:=kH hj;have s:=qX (cs:=cs) (j:=j+1) (by omega) (by omega);simp![s,sl]
 have n1:QK m ((zs m).map λj=>Hd (cs.take (j+1).toNat)):=by
  refine⟨by rw[h_,Ry],pY _ (Az m) λx hx y hy e=>?_,λf hf=>?_⟩
  ·have:=congrArg List.length (tQ e);rw[O_,O_]at this;have:=kH hx;have:=kH hy;omega
  ·obtain⟨j,hj,rfl⟩:=List.mem_map.mp hf;have:=kH hj;exact⟨_,rfl,by rw[O_];omega,by rw[O_];omega,λc hc=>U8 c (List.mem_of_mem_take hc)⟩
 generalize(zs m).map (λj=>Hd (cs.take (j+1).toNat))=My at *;have Rz:iy (My.map D.str)=Δ:=qV My;have d9:=jK n ns (k+9) 2 (by omega) (by omega) (by decide);generalize dr ns (k+9) 2=q at *;cases hq:(q == 0) with
 |false=>
  have rn:=tR (t:=t) n1;have l1:My.length=m.toNat:=n1.len;have c1:=qY My t0;have c2:=sC My t0;have la:(My.drop t.toNat).length<=8:=by rw[List.length_drop];omega
  have lb:(My.take t.toNat).length<=8:=by rw[O_];omega
  refine⟨My.drop t.toNat++My.take t.toNat,?_,rn⟩;generalize My.drop t.toNat=A,My.take t.toNat=B at *;have lA:(A.map D.str).length=A.length:=h_ _;have lB:(B.map D.str).length=B.length:=h_ _;have Pj:iy (A.map D.str++B.map D.str)=Δ:=by rw[<- G_];exact qV _
  rw[gx 51 Rv 3 10 QF rfl rfl rfl rfl rfl rfl];unfold QF;simp![W5,W6,fw,je,d8,W7,W8,f1,d9,hq,ma,c1,c2,lA,lB,Pj,G_]
 |true=>
  have Z3:=jK n ns (k+10) 8 (by omega) (by omega) (by decide);have a0:=mZ ns (k+10) (m:=8) (by decide);have a1:=oE ns (k+10) (m:=8) (by decide);generalize dr ns (k+10) 8=r at *;have Z4:=jK n ns (k+11) (1+r) (by omega) (by omega) (by omega);have p0:=mZ ns (k+11) (m:=1+r) (by omega);have p1:=oE ns (k+11) (m:=1+r) (by omega);generalize dr ns (k+11) (1+r)=p at *;have Z5:=jK n ns (k+12) 26 (by omega) (by omega) (by decide);generalize dr ns (k+12) 26=st at *;have f2:iX (jr (bB T (n+1)) (.nm 3) [] (.idx (.v 0) (.bin .mod (.bin .add (.call 49 [.v 1,.bin .add (.v 2) (.c (.int 12)),.c (.int 26)]) (.bin .mul (.c (.int 7)) (.v 3))) (.c (.int 26)))) [Γ (.str "abcdefghijklmnopqrstuvwxyz"),Γ (.lst Θ (ns.map .int)),Γ (.int k),Ξ]) ((zs m).map .int)=.ok (((zs m).map λj=>one (97+((st+7*j) % 26).toNat)).map .str):=by refine jd .int (λj=>one (97+((st+7*j) % 26).toNat)) .str _ λj hj=>?_;have ab:=wN (Int.emod_nonneg (st+7*j) (show(26:Int)≠0 by decide)) (Int.emod_lt_of_pos (st+7*j) (show(0:Int) < 26 by decide));simp![Z5,ab]
  have s1:=qX (cs:=cs) (j:=p) p0 (by omega);have s2:=uB (cs:=cs) (i:=p+1) (j:=1+r) (by omega) (by omega) (by omega);have l1:(cs.take p.toNat).length=p.toNat:=by rw[O_];omega
  have l2:((cs.drop (p+1).toNat).take (1+r - (p+1)).toNat).length=(1+r - (p+1)).toNat:=by rw[O_,List.length_drop];omega
  have lo1:∀c∈cs.take p.toNat,low c:=λc hc=>U8 c (List.mem_of_mem_take hc);have Z6:∀c∈(cs.drop (p+1).toNat).take (1+r - (p+1)).toNat,low c:=λc hc=>U8 c (List.mem_of_mem_drop (List.mem_of_mem_take hc));generalize cs.take p.toNat=X,(cs.drop (p+1).toNat).take (1+r - (p+1)).toNat=Y at *;have f3:iX (jr (bB T (n+1)) (.nm 3) [] (.bin .add (.bin .add (.sl (.v 0) Ξ (Γ (.v 1))) (.v 3)) (.sl (.v 0) (Γ (.bin .add (.v 1) (.c (.int 1)))) (Γ (.v 2)))) [Γ (.str (Hd cs)),Γ (.int p),Γ (.int (1+r)),Ξ]) (((zs m).map λj=>one (97+((st+7*j) % 26).toNat)).map .str)=.ok (((zs m).map λj=>Hd (X++[97+((st+7*j) % 26).toNat]++Y)).map .str):=by rw[V_ (g:=D.str) (f:=λj=>one (97+((st+7*j) % 26).toNat))];refine jd _ (λj=>Hd (X++[97+((st+7*j) % 26).toNat]++Y)) .str _ λj hj=>?_;have q1:=tP (a:=X) (b:=[97+((st+7*j) % 26).toNat]) (by rw[aaj];omega);have q2:=tP (a:=X++[97+((st+7*j) % 26).toNat]) (b:=Y) (by rw[u_,aaj];omega);show jr _ _ _ _ _ (D.str (Hd [97+((st+7*j) % 26).toNat]))=_;simp![s1,s2,sl,q1,q2]
  have n2:QK m ((zs m).map λj=>Hd (X++[97+((st+7*j) % 26).toNat]++Y)):=by
   refine⟨by rw[h_,Ry],pY _ (Az m) λx hx y hy e=>?_,λf hf=>?_⟩
   ·have h1:=List.append_cancel_right (tQ e);have h2:=List.append_cancel_left h1;have h3:97+((st+7*x) % 26).toNat=97+((st+7*y) % 26).toNat:=List.head_eq_of_cons_eq h2;have:=kH hx;have:=kH hy;omega
   ·obtain⟨j,hj,rfl⟩:=List.mem_map.mp hf;refine⟨_,rfl,by simp only[u_,aaj];omega,by simp only[u_,aaj];omega,λc hc=>?_⟩;rcases t_.mp hc with hc|hc
    ·rcases t_.mp hc with hc|hc
     ·exact lo1 c hc
     ·rw[Z_.mp hc];unfold low;omega
    ·exact Z6 c hc
  have Z7:Gr (((zs m).map λj=>one (97+((st+7*j) % 26).toNat)).map D.str)=((zs m).map λj=>one (97+((st+7*j) % 26).toNat)).map D.str:=sy _;have l3:((zs m).map λj=>one (97+((st+7*j) % 26).toNat)).length=m.toNat:=by rw[h_,Ry]
  generalize(zs m).map (λj=>one (97+((st+7*j) % 26).toNat))=gs,(zs m).map (λj=>Hd (X++[97+((st+7*j) % 26).toNat]++Y))=Mz at *;have lg:iy (gs.map D.str)=Δ:=qV gs;have Z8:(gs.map D.str).length=m.toNat:=by rw[h_,l3]
  have lf2:iy (Mz.map D.str)=Δ:=qV Mz;have rn:=tR (t:=t) n2;have l4:Mz.length=m.toNat:=n2.len;have c1:=qY Mz t0;have c2:=sC Mz t0;have la:(Mz.drop t.toNat).length<=8:=by rw[List.length_drop];omega
  have lb:(Mz.take t.toNat).length<=8:=by rw[O_];omega
  refine⟨Mz.drop t.toNat++Mz.take t.toNat,?_,rn⟩;generalize Mz.drop t.toNat=A,Mz.take t.toNat=B at *;have lA:(A.map D.str).length=A.length:=h_ _;have lB:(B.map D.str).length=B.length:=h_ _;have Pj:iy (A.map D.str++B.map D.str)=Δ:=by rw[<- G_];exact qV _
  rw[gx 51 Rv 3 10 QF rfl rfl rfl rfl rfl rfl];unfold QF;simp![W5,W6,fw,je,d8,W7,W8,f1,d9,hq,Z3,Z4,f2,Z8,Z7,f3,ma,c1,c2,lA,lB,Pj,G_]
theorem wR (w:Str):∀ws:Â,Ht (.str w) (ws.map .str)=.ok (decide (w∈ws))
 |[]=>rfl
 |v::ws=>by
  have e:decide (w∈v::ws)=((v == w)||decide (w∈ws)):=by
   by_cases h:v=w
   ·subst h;simp
   ·have h':¬w=v:=λz=>h z.symm;simp[h,h',beq_eq_false_iff_ne.mpr h]
  rw[e,c_];have ih:=wR w ws;simp![ih]
abbrev U9 {β:Type}(d:β)(r:List β):Res (List β):=.ok (d::r)
def pd {β:Type}{d:β}{r:List β}:U9 d r=.ok (d::r):=rfl
abbrev U' {α β:Type}(g:α->Res (Option β))(xs:List α):Option β->Res (List β)
 |some d=>FW (iX g xs) (U9 d)
 |none=>iX g xs
def n9 {α β:Type}{g:α->Res (Option β)}{xs:List α}{d:β}:U' g xs (Γ d)=FW (iX g xs) (U9 d):=rfl
def oa {α β:Type}{g:α->Res (Option β)}{xs:List α}:U' g xs Ξ=iX g xs:=rfl
def og {α β:Type}{g:α->Res (Option β)}:iX g []=.ok []:=rfl
def sE {α β:Type}{g:α->Res (Option β)}{x:α}{xs:List α}:iX g (x::xs)=FW (g x) (U' g xs):=by show FW (g x) _=_;congr 1
abbrev eD (s f:Str)(b:Bool):D:=.tup [.tup [.str s,.str f,.lst Θ [],.tup [.lst Θ [],.lst Θ [.tup [.int 0,.int 10007]]]],.lst Θ [],.bl b]
abbrev wD (x s f:Str)(b:Bool):D:=.tup [.str x,eD s f b]
abbrev hD (ws:Ê):D:=.tup [.lst Θ [],.lst Θ [],.lst Θ ws]
def LV {a:D}{l:Ê}:Ib (a::l) 0=Γ a:=(lK (xs:=a::l) (i:=0) .Gx (by decide) (by rw[List.length_cons];omega)).trans rfl
def MU {a b:D}{l:Ê}:Ib (a::b::l) 1=Γ b:=(lK (xs:=a::b::l) (i:=1) .Gx (by decide) (by rw[List.length_cons,List.length_cons];omega)).trans rfl
def at2 {a b c:D}{l:Ê}:Ib (a::b::c::l) 2=Γ c:=(lK (xs:=a::b::c::l) (i:=2) .Gx (by decide) (by rw[List.length_cons,List.length_cons,List.length_cons];omega)).trans rfl
def Eu (n:Nat){cs:Ã}(h:Sl cs)(f:Str):bB T (n+3) 31 [.lst Θ [],.tup [.str (Hd cs),.str f,.lst Θ [],.tup [.lst Θ [],.lst Θ [.tup [.int 0,.int 10007]]]]]=.ok (.bl Δ):=by have e:=sD n h;rw[gx 31 T6 2 5 T5 rfl rfl rfl rfl rfl rfl];unfold T5;simp![e,LV,at2]
def AA (n:Nat){o:Bool}{x:Str}:bB T (n+1) 32 [.str x,.lst o []]=.ok .Gx:=by rw[gx 32 T8 2 2 T7 rfl rfl rfl rfl rfl rfl];unfold T7;simp![G0]
def y0 (n:Nat){o:Bool}{x:Str}:bB T (n+1) 33 [.str x,.lst o [.str x]]=.ok .Gx:=by rw[gx 33 T' 2 2 T9 rfl rfl rfl rfl rfl rfl];unfold T9;simp![G0]
def uC (n:Nat):bB T (n+1) 34 [.lst Θ []]=.ok .Gx:=by rw[gx 34 Ub 1 6 Ua rfl rfl rfl rfl rfl rfl];unfold Ua;rfl
def wU (n:Nat)(d:D):bB T (n+1) 35 [.lst Θ [],d]=.ok .Gx:=by rw[gx 35 Ud 2 9 Uc rfl rfl rfl rfl rfl rfl];unfold Uc;rfl
def Cv (n:Nat){cs:Ã}(h:Sl cs)(x f:Str)(b:Bool):bB T (n+4) 36 [.lst Θ [wD x (Hd cs) f b],.lst Θ [],.lst Θ [.str x]]=.ok .Gx:=by have e1:=AA (n+2) (o:=Θ) (x:=x);have e2:=Eu n h f;unfold wD eD;rw[gx 36 Ug 3 8 Ue rfl rfl rfl rfl rfl rfl];unfold Ue;simp![e1,e2,LV,MU,jm]
abbrev wK (t:Ev->Res Bool)(b:Ev->Res Fl)(n:Nat):Fl->Res Fl
 |.nx Gv=>i5 t b n Gv
 |.ct Gv=>i5 t b n Gv
 |.bk Gv=>.ok (.nx Gv)
 |.rt d=>.ok (.rt d)
 |.ri d ks vs=>.ok (.ri d ks vs)
 |.ro d o=>.ok (.ro d o)
def AB {t:Ev->Res Bool}{b:Ev->Res Fl}{n:Nat}{τ:Ev}:wK t b n (.nx τ)=i5 t b n τ:=rfl
def Ew {t:Ev->Res Bool}{b:Ev->Res Fl}{n:Nat}{d:D}:wK t b n (.rt d)=.ok (.rt d):=rfl
def Cw {t:Ev->Res Bool}{b:Ev->Res Fl}{n:Nat}{τ:Ev}(h:t τ=.ok Δ):i5 t b (n+1) τ=FW (b τ) (wK t b n):=by
 unfold i5;rw[h];have e:(λx=>match x with|Fl.nx Gv=>i5 t b n Gv|Fl.ct Gv=>i5 t b n Gv|Fl.bk Gv=>Except.ok (Fl.nx Gv)|Fl.rt d=>Except.ok (Fl.rt d)|Fl.ri d ks vs=>Except.ok (Fl.ri d ks vs)|Fl.ro d o=>Except.ok (Fl.ro d o))=wK t b n:=by funext fl;cases fl<;>rfl
 rw[<- e];rfl
def FG {t:Ev->Res Bool}{b:Ev->Res Fl}{n:Nat}{τ:Ev}(h:t τ=.ok Θ):i5 t b (n+1) τ=.ok (.nx τ):=by unfold i5;rw[h];rfl
abbrev Pk:Æ:=[.asg (.nm 2) (.comp {N:=["needs","tied","name"],kd:=[.cell,.cell,.local],gl:=[10],df:=Θ} [0,1] (.nm 2) (.val (.v 1)) [.bi .any [.comp {N:=["tied","needed"],kd:=[.cell,.local],gl:=[],df:=Θ} [1] (.nm 1) (.val (.J2 (.v 0) (.v 2))) [] (.cmp .JA (.v 1) (.v 0))]] (.v 2)),.Hl (.cmp .eq (.v 2) (.v 1)) [.ret (.v 1)] [],.asg (.nm 1) (.v 2)]
def AD {o:Bool}{x:Str}{d:D}:qx (.G4 o [.inr x] [d]) (.str x)=.ok d:=by
 show(match look [.inr x] [d] (.inr x) with|some d=>.ok d|none=>Gq)=(_:Res D)
 rw[show look [.inr x] [d] (.inr x)=Γ d from d_ rfl]
def Ex {o:Bool}{x:Str}{d:D}:sW (.lst o [.tup [.str x,d]])=.ok (.G4 Δ [.inr x] [d]):=rfl
def Ey {o:Bool}:jZ .any [.lst o []]=.ok (.bl Θ):=rfl
def FH (n:Nat)(x:Str)(o:Bool)(y:À):ix (bB T n) Pk [Γ (.G4 Θ [.inr x] [.lst Θ []]),Γ (.lst o [.str x]),y]=.ok (.nx [Γ (.G4 Θ [.inr x] [.lst Θ []]),Γ (.lst Θ []),Γ (.lst Θ [])]):=by unfold Pk;simp![AD,Ey,og,sE,n9,oa,pd]
def FI (n:Nat)(x:Str)(o:Bool)(y:À):ix (bB T n) Pk [Γ (.G4 Θ [.inr x] [.lst Θ []]),Γ (.lst o []),y]=.ok (.rt (.lst o [])):=by unfold Pk;simp![og]
def y2 (n:Nat)(x:Str):bB T (n+1) 37 [.G4 Θ [.inr x] [.lst Θ []]]=.ok (.lst Θ []):=by
 have e:i5 (KH (bB T n) (.c (.bl Δ))) (ix (bB T n) Pk) oT [Γ (.G4 Θ [.inr x] [.lst Θ []]),Γ (.lst Δ [.str x]),Ξ]=.ok (.rt (.lst Θ [])):=by show i5 _ _ (999998+1+1) _=_;rw[Cw rfl,FH,Nj,AB,Cw rfl,FI,Nj,Ew]
 unfold Pk at e;rw[gx 37 Ui 1 3 Uh rfl rfl rfl rfl rfl rfl];unfold Uh;have eu:yf (.inr x)=.str x:=rfl;simp![eu,e]
def FJ {cl:Ä}{e:IR}(hv:vars e=[3]){A z:À}{x:Str}{ent d:D} :
  D7 cl 1 (.v 2) e [A,Γ (.G4 Δ [] []),Γ (.str x),Γ ent,z] d=.ok (.nx [A,Γ (.G4 Δ [.inr x] [er d]),Γ (.str x),Γ (er ent),z]):=by
 show FW (Gs cl (.v 2) (Gy (vars e) [A,Γ (.G4 Δ [] []),Γ (.str x),Γ ent,z])) (λy=>yO 1 e [A,Γ (.G4 Δ [] []),Γ (.str x),Γ ent,z] d [] [] (nK y))=_;rw[hv];show yO 1 e [A,Γ (.G4 Δ [] []),Γ (.str x),Γ ent,z] d [] [] (Γ (.inr x))=_;unfold yO;rw[hv,sA (by decide)];rfl
def Z9 {o:Bool}{ks:List Key}{ds:Ê}:er (.G4 o ks ds)=.G4 Θ ks (Gr ds):=by rw[er]
def wV (n:Nat)(x s f:Str)(b:Bool):bB T (n+2) 38 [.lst Θ [wD x s f b]]=.ok .Gx:=by have e:=y2 n x;have e2:HV .ne (.lst Θ []) (.lst Δ [])=.ok Θ:=rfl;unfold wD eD;rw[gx 38 Uk 1 5 Uj rfl rfl rfl rfl rfl rfl];unfold Uj;simp![e,e2,Z9,LV,MU,jm,og,FJ (show vars (.comp _ [] _ (.val (.idx (.v 3) (.c (.int 1)))) [] _)=[3] from rfl)]
def qZ (n:Nat){cs:Ã}(h:Sl cs)(x f:Str)(b:Bool):bB T (n+5) 39 [hD [wD x (Hd cs) f b]]=.ok (.bl Δ):=by have e1:=uC (n+3);have e2:=wU (n+3) (.lst Θ [.str x]);have e3:=Cv n h x f b;have e4:=wV (n+2) x (Hd cs) f b;unfold hD;unfold wD eD at *;rw[gx 39 Um 1 2 Ul rfl rfl rfl rfl rfl rfl];unfold Ul;simp![e1,e2,e3,e4,LV,MU,at2,og,sE,n9,oa,pd]
abbrev DE:D:=.tup [.str "group",.str "put",.str "rules",.str "needs",.str "shares",.str "stop",.str "go",.str "hold",.str "free",.str "drop"]
abbrev DS:D:=.tup [.str "rules",.str "needs",.str "shares",.str "stop",.str "go",.str "drop"]
structure Wd (w:Str)(b:Bool):Prop where
 put:(w == "put")=Θ
 hold:(w == "hold")=Θ
 free:(w == "free")=Θ
 group:(w == "group")=Θ
 drop:(w == "drop")=Θ
 rules:(w == "rules")=Θ
 OR:(w == "shares")=Θ
 QL:(w == "needs")=Θ
 stop:(w == "stop")=b
 J1:HV .J1 (.str w) DE=.ok Θ
 HU:HV .JA (.str w) DS=.ok Δ
def sF {w:Str}{ws:Â}(h:decide (w∈ws)=Δ):HV .J1 (.str w) (.tup (ws.map .str))=.ok Θ:=by show FW (Ht (.str w) (ws.map .str)) _=_;rw[wR,h];rfl
def in_of {w:Str}{ws:Â}{b:Bool}(h:decide (w∈ws)=b):HV .JA (.str w) (.tup (ws.map .str))=.ok b:=by show Ht (.str w) (ws.map .str)=_;rw[wR,h]
def y7:Wd "stop" Δ:=⟨∅,∅,∅,∅,∅,∅,∅,∅,∅,sF (ws:=["group","put","rules","needs","shares","stop","go","hold","free","drop"]) ∅,in_of (ws:=["rules","needs","shares","stop","go","drop"]) ∅⟩
def Ez:Wd "go" Θ:=⟨∅,∅,∅,∅,∅,∅,∅,∅,∅,sF (ws:=["group","put","rules","needs","shares","stop","go","hold","free","drop"]) ∅,in_of (ws:=["rules","needs","shares","stop","go","drop"]) ∅⟩
def tS (n:Nat){o:Bool}(x:Str)(d:D)(hd:er d=d):bB T (n+1) 40 [.lst o [.tup [.str x,d]]]=.ok (.lst Δ [.str x]):=by rw[gx 40 Rq 1 1 QB rfl rfl rfl rfl rfl rfl];unfold QB;simp![LV,og,sE,n9,oa,pd]
def y9 (n:Nat){o:Bool}:bB T (n+1) 40 [.lst o []]=.ok (.lst Δ []):=by rw[gx 40 Rq 1 1 QB rfl rfl rfl rfl rfl rfl];unfold QB;simp![og]
def ra (s f:Str)(b:Bool):er (eD s f b)=eD s f b:=by unfold eD;simp![G0]
def Cz (n:Nat){w x s f:Str}{b b':Bool}(hw:Wd w b'):bB T (n+2) 41 [hD [wD x s f b],.tup [.str w,.str x]]=.ok .Gx:=by have e1:=tS n (o:=Θ) x (eD s f b) (ra s f b);have e2:=y0 n (o:=Θ) (x:=x);have h1:=hw.J1;have h2:=hw.HU;unfold DE at h1;unfold DS at h2;unfold hD;unfold wD;have ee:=ra s f b;generalize eD s f b=E at *;rw[gx 41 Rr 2 4 QC rfl rfl rfl rfl rfl rfl];unfold QC;simp![LV,MU,at2,h1,h2,hw.put,hw.hold,hw.free,e1,e2,ee]
abbrev putD (x s f:Str):D:=.tup [.str "put",.str x,.str s,.str f,.lst Θ []]
def rb:(Ο "put" == Ο "hold")=Θ/\(Ο "put" == Ο "free")=Θ/\(Ο "put" == Ο "group")=Θ:=∅
def EA:HV .J1 (.str "put") DE=.ok Θ:=sF (ws:=["group","put","rules","needs","shares","stop","go","hold","free","drop"]) ∅
def FK:HV .JA (.str "put") DS=.ok Θ:=in_of (ws:=["rules","needs","shares","stop","go","drop"]) ∅
def CA (n:Nat)(x s f:Str):bB T (n+2) 41 [hD [],putD x s f]=.ok .Gx:=by have e1:=y9 n (o:=Θ);have e2:=AA n (o:=Θ) (x:=x);have h1:=EA;have h2:=FK;unfold DE at h1;unfold DS at h2;unfold hD putD;rw[gx 41 Rr 2 4 QC rfl rfl rfl rfl rfl rfl];unfold QC;simp![LV,MU,at2,h1,h2,rb.1,rb.2.1,e1,e2]
def Z' {a b c d:D}{l:Ê}:Ib (a::b::c::d::l) 3=Γ d:=(lK (xs:=a::b::c::d::l) (i:=3) .Gx (by decide) (by simp only[List.length_cons];omega)).trans rfl
def at4 {a b c d e:D}{l:Ê}:Ib (a::b::c::d::e::l) 4=Γ e:=(lK (xs:=a::b::c::d::e::l) (i:=4) .Gx (by decide) (by simp only[List.length_cons];omega)).trans rfl
def anew (n:Nat):bB T (n+1) 30 [.lst Θ []]=.ok (.tup [.lst Δ [],.lst Δ [.tup [.int 0,.int 10007]]]):=by have e:sV (.lst Θ [])=.ok (.int 0):=rfl;have d0:decide ((0:Int) < 0)=Θ:=rfl;have l0:((0:Nat):Int)=0:=rfl;rw[gx 30 T4 1 1 T3 rfl rfl rfl rfl rfl rfl];unfold T3;simp![e,og,l0,d0]
def za (n:Nat)(s f:Str):∃d,bB T (n+2) 43 [.str s,.str f,.lst Θ []]=.ok d/\er d=eD s f Θ:=by
 have e:=anew n;refine⟨.tup [.tup [.str s,.str f,.lst Δ [],.tup [.lst Δ [],.lst Δ [.tup [.int 0,.int 10007]]]],.lst Δ [],.bl Θ],?_,?_⟩
 ·rw[gx 43 Ur 3 3 Uq rfl rfl rfl rfl rfl rfl];unfold Uq;simp![e]
 ·unfold eD;simp![G0]
def EB (n:Nat)(x s f:Str):bB T (n+3) 45 [.lst Θ [],putD x s f]=.ok (.lst Δ [wD x s f Θ]):=by
 obtain⟨d,e,h⟩:=za n s f;have h':i0 d=Θ:=by
  cases z:i0 d with
  |false=>rfl
  |true=>rw[qt z]at h;rw[h]at z;unfold eD at z;cases z
 unfold putD wD;rw[gx 45 Rt 2 3 QD rfl rfl rfl rfl rfl rfl];unfold QD;simp![LV,MU,at2,Z',at4,e,h,h']
def zb (n:Nat)(x s f:Str):bB T (n+4) 46 [hD [],putD x s f]=.ok (.tup [.lst Θ [],.lst Θ [],.lst Δ [wD x s f Θ]]):=by have e:=EB n x s f;unfold hD;unfold putD at *;have QM:i7 (.lst Δ [wD x s f Θ])=Θ:=rfl;rw[gx 46 Ru 2 3 QE rfl rfl rfl rfl rfl rfl];unfold QE;simp![LV,MU,at2,rb.1,rb.2.1,rb.2.2,e,QM]
def EC (n:Nat){w x s f:Str}{b b':Bool}(hw:Wd w b'):bB T (n+1) 44 [eD s f b,.tup [.str w,.str x]]=.ok (eD s f b'):=by unfold eD;rw[gx 44 Ut 2 4 Us rfl rfl rfl rfl rfl rfl];unfold Us;simp![LV,MU,at2,hw.rules,hw.OR,hw.QL,hw.stop]
def ze (n:Nat)(x:Str){d d':D}(hd:er d=d)(Pr:er d'=d')(hl:i0 d'=Θ):bB T (n+2) 42 [.lst Θ [.tup [.str x,d]],.str x,d']=.ok (.lst Δ [.tup [.str x,d']]):=by
 have e:=tS n (o:=Θ) x d hd;have e2:HV .J1 (.str x) (.lst Δ [.str x])=.ok Θ:=by simp![G0]
 rw[gx 42 Up 3 3 Uo rfl rfl rfl rfl rfl rfl];unfold Uo;simp![LV,e,e2,hd,Pr,og,sE,n9,oa,pd,hl]
def ED (n:Nat){w x s f:Str}{b b':Bool}(hw:Wd w b'):bB T (n+3) 45 [.lst Θ [wD x s f b],.tup [.str w,.str x]]=.ok (.lst Δ [wD x s f b']):=by have e1:=EC (n+1) (x:=x) (s:=s) (f:=f) (b:=b) hw;have e2:=ze n x (ra s f b) (ra s f b') rfl;have ee:=ra s f b;have ee':=ra s f b';have QM:i7 (eD s f b')=Θ:=rfl;unfold wD;generalize eD s f b=E,eD s f b'=E' at *;rw[gx 45 Rt 2 3 QD rfl rfl rfl rfl rfl rfl];unfold QD;simp![LV,MU,hw.put,hw.drop,Ex,AD,ee,ee',e1,e2,QM]
def zg (n:Nat){w x s f:Str}{b b':Bool}(hw:Wd w b'):bB T (n+4) 46 [hD [wD x s f b],.tup [.str w,.str x]]=.ok (.tup [.lst Θ [],.lst Θ [],.lst Δ [wD x s f b']]):=by
 have e:=ED n (x:=x) (s:=s) (f:=f) (b:=b) hw;unfold hD;have QM:i7 (.lst Δ [wD x s f b'])=Θ:=rfl;have ew:er (wD x s f b)=wD x s f b:=by unfold wD;simp![ra]
 generalize wD x s f b=W at *;rw[gx 46 Ru 2 3 QE rfl rfl rfl rfl rfl rfl];unfold QE;simp![LV,MU,at2,hw.group,hw.hold,hw.free,e,QM,ew]
def mQ (n:Nat)(x:Str):bB T (n+1) 28 [.str x]=.ok (.str x):=by rw[gx 28 Ph 1 1 Nk rfl rfl rfl rfl rfl rfl];unfold Nk;simp![G0]
def CB (n:Nat):bB T (n+1) 28 [.lst Θ []]=.ok (.lst Δ []):=by rw[gx 28 Ph 1 1 Nk rfl rfl rfl rfl rfl rfl];unfold Nk;simp![og]
def CC (n:Nat)(w x:Str):bB T (n+2) 28 [.tup [.str w,.str x]]=.ok (.tup [.str w,.str x]):=by have e1:=mQ n w;have e2:=mQ n x;rw[gx 28 Ph 1 1 Nk rfl rfl rfl rfl rfl rfl];unfold Nk;simp![e1,e2,og,sE,n9,oa,pd]
def CD (n:Nat)(x s f:Str):bB T (n+2) 28 [putD x s f]=.ok (putD x s f):=by have e1:=mQ n x;have e2:=mQ n s;have e3:=mQ n f;have e4:=mQ n "put";have e5:=CB n;unfold putD;rw[gx 28 Ph 1 1 Nk rfl rfl rfl rfl rfl rfl];unfold Nk;simp![e1,e2,e3,e4,e5,og,sE,n9,oa,pd]
abbrev Hg (o:Bool)(dl hl:Ê):D:=.obj o "Book" ["deeds","houses"] [.lst o dl,.lst o hl]
def kI (c:Str):([c]:Â).contains c=Δ:=by show(c == c||false)=Δ;rw[beq_self_eq_true];rfl
def EE {a b:D}:iw ["deeds","houses"] [a,b] "deeds" = Γ a:=rfl
def FL {a b:D}:iw ["deeds","houses"] [a,b] "houses" = Γ b:=by show(if Ο "deeds" = Ο "houses" then Γ a else if Ο "houses" = Ο "houses" then Γ b else Ξ)=_;rw[b_ ∅,d_ rfl]
def EF {a b d:D}:iM "deeds" d ["deeds","houses"] [a,b]=[d,b]:=rfl
def Li {a b d:D}:iM "houses" d ["deeds","houses"] [a,b]=[a,d]:=by show(if Ο "deeds" = Ο "houses" then d::[b] else a::(if Ο "houses" = Ο "houses" then d::[] else b::[d]))=_;rw[b_ ∅,d_ rfl]
def kL (n:Nat)(dl hl:Ê):bB T (n+1) 63 [Hg Θ dl hl]=.ok (.int dl.length):=by unfold Hg;rw[gx 63 UT 1 1 US rfl rfl rfl rfl rfl rfl];unfold US;simp![bC (kI _) EE]
def zh (l:Ê)(d:D):Ib (l++[d]) (-1)=Γ d:=by unfold Ib JI;rw[u_,aaj,b_ (by decide),d_ (by omega),show(-1+((l.length+1:Nat):Int)).toNat=l.length by omega];show(l++[d])[l.length]? = Γ d;rw[aan (n_ _),Nat.sub_self];rfl
def zj:(["deeds","houses"]:Â).contains "moment" = Θ:=∅
def zm (a b:Ê):Gr (a++b)=Gr a++Gr b:=by rw[jv,jv,jv,G_]
mutual
theorem tT:∀d:D,lq (er d)=Δ
 |.Gx=>rfl
 |.bl _=>rfl
 |.int _=>rfl
 |.str _=>rfl
 |.exc _=>rfl
 |.tup ds=>by rw[er];exact kl ds
 |.lst _ ds=>by rw[er];exact kl ds
 |.G4 _ ks ds=>by rw[er];exact kl ds
 |.obj _ c ks ds=>by rw[er];exact kl ds
theorem kl:∀ds:Ê,jU (Gr ds)=Δ
 |[]=>rfl
 |d::ds=>by rw[Gr];show(lq (er d)&&jU (Gr ds))=Δ;rw[tT d,kl ds];rfl
end
def oh (n:Nat)(dl hl:Ê)(h Iy h1 h2:D)(hh:er h=h)(hd:er Iy=Iy)(ls:dl.length < 1000)(lh:hl.length < 1000)
  (e1:bB T (n+5) 41 [h,Iy]=.ok .Gx) (e2:bB T (n+5) 46 [h,Iy]=.ok h1) (e3:bB T (n+5) 39 [er h1]=.ok (.bl Δ)) (e4:bB T (n+5) 28 [Iy]=.ok Iy) :
  bB T (n+6) 62 [Hg Δ dl (hl++[h]),Iy]=.ok (.tup [.int ((dl.length+1:Nat):Int),Hg Δ (dl++[Iy]) (hl++[h]++[er h1])]):=by
 have a:=zh hl h;have nw:lq h=Δ:=by rw[<- hh];exact tT h
 have em:=kL (n+4) (Gr (dl++[Iy])) (Gr (hl++[h]++[er h1]));have le:(Gr (dl++[Iy])).length=dl.length+1:=by rw[iB,u_];rfl
 rw[le]at em;unfold Hg at *;have l1:(hl++[h]).length < 16777216:=by rw[u_];show hl.length+1 < _;omega
 generalize hl++[h]=HL at *;generalize hl=X at *;have aac:(-1:Int) = -1:=rfl;rw[ON (show T 62=Γ NL from rfl) (show NL.io=Δ from rfl) (show NL.G.io.getD 0=0 from rfl) (show NL.np=2 from rfl) (show NL.G.N.length=4 from rfl) (show NL.body=UR from rfl) rfl];unfold UR;simp![kI,EE,FL,EF,Li,aw a nw,hh,hd,e1,e2,e3,e4,em,zj,vn,ite_self]
def EG (ws:Ê)(h:Gr ws=ws):er (hD ws)=hD ws:=by unfold hD;simp![h]
def EH (x s f:Str)(b:Bool):er (wD x s f b)=wD x s f b:=by unfold wD;simp![ra]
def EI {d:D}(h:er d=d):Gr [d]=[d]:=by rw[Gr,h];rfl
def pZ (x s f:Str)(b:Bool):er (.tup [.lst Θ [],.lst Θ [],.lst Δ [wD x s f b]])=hD [wD x s f b]:=by unfold hD;simp![EH]
def wW (n:Nat){cs:Ã}(hc:Sl cs)(x f:Str):bB T (n+6) 62 [Hg Δ [] [hD []],putD x (Hd cs) f]=.ok (.tup [.int 1,Hg Δ [putD x (Hd cs) f] [hD [],hD [wD x (Hd cs) f Θ]]]):=by have e:=oh n [] [] (hD []) (putD x (Hd cs) f) _ .Gx (EG [] rfl) (by unfold putD;simp![G0]) (by decide) (by decide) (CA (n+3) x (Hd cs) f) (zb (n+1) x (Hd cs) f) (by rw[pZ];exact qZ n hc x f Θ) (CD (n+3) x (Hd cs) f);rw[pZ]at e;exact e
def wX (n:Nat){cs:Ã}(hc:Sl cs){w x f:Str}{b b':Bool}(hw:Wd w b')(dl hl:Ê)(l1:dl.length < 1000)(l2:hl.length < 1000) :
  bB T (n+6) 62 [Hg Δ dl (hl++[hD [wD x (Hd cs) f b]]),.tup [.str w,.str x]]=.ok (.tup [.int ((dl.length+1:Nat):Int),Hg Δ (dl++[.tup [.str w,.str x]]) (hl++[hD [wD x (Hd cs) f b]]++[hD [wD x (Hd cs) f b']])]):=by
 have e:=oh n dl hl (hD [wD x (Hd cs) f b]) (.tup [.str w,.str x]) _ .Gx (EG _ (EI (EH _ _ _ _))) (by simp![G0]) l1 l2 (Cz (n+3) hw) (zg (n+1) hw) (by rw[pZ];exact qZ n hc x f b') (CC (n+3) w x);rw[pZ]at e;exact e
abbrev Hu (o:Bool)(ps ds:Å)(bk:D)(ms:Å):D:=.obj o "Tree" ["parents","depths","book","moments"] [.lst Θ (ps.map .int),.lst Θ (ds.map .int),bk,.lst Θ (ms.map .int)]
def ne1:¬Ο "parents" = Ο "depths":=∅
def ne2:¬Ο "parents" = Ο "book":=∅
def ne3:¬Ο "parents" = Ο "moments":=∅
def ne4:¬Ο "depths" = Ο "book":=∅
def ne5:¬Ο "depths" = Ο "moments":=∅
def QN:¬Ο "book" = Ο "moments":=∅
def CF {a b c d:D}:iw ["parents","depths","book","moments"] [a,b,c,d] "parents" = Γ a:=by simp only[iw,if_true]
def Gp:iw ["parents","depths","book","moments"] [a,b,c,d] "book" = Γ c:=by simp only[iw,if_true,b_ ne2,b_ ne4]
def zo {a b c d:D}:iw ["parents","depths","book","moments"] [a,b,c,d] "moments" = Γ d:=by simp only[iw,if_true,b_ ne3,b_ ne5,b_ QN]
def FN {a b c d e:D}:iM "book" e ["parents","depths","book","moments"] [a,b,c,d]=[a,b,e,d]:=by simp only[iM,if_true,b_ ne2,b_ ne4]
def EJ {a b c d e:D}:iM "moments" e ["parents","depths","book","moments"] [a,b,c,d]=[a,b,c,e]:=by simp only[iM,if_true,b_ ne3,b_ ne5,b_ QN]
def EK:jw "moments" ["parents","depths","book","moments"]=(["parents","depths","book","moments"]:Â):=by simp only[jw,if_true,b_ ne3,b_ ne5,b_ QN]
def EL:(["parents","depths","book","moments"]:Â).contains "change" = Θ:=∅
def zq:(["parents","depths","book","moments"]:Â).contains "turn" = Θ:=∅
def zr:(["parents","depths","book","moments"]:Â).contains "check_machine" = Θ:=∅
def FO:(["parents","depths","book","moments"]:Â).contains "moment_of" = Θ:=∅
def EM:(["deeds","houses"]:Â).contains "change" = Θ:=∅
def ji (l:Å):Gr (l.map .int)=l.map D.int:=sx l
def rf (o:Bool)(ps ds:Å)(bk:D)(ms:Å):er (Hu o ps ds bk ms)=Hu Θ ps ds (er bk) ms:=by unfold Hu;simp![yQ,ji]
def pf (o:Bool)(dl hl:Ê):er (Hg o dl hl)=Hg Θ (Gr dl) (Gr hl):=by unfold Hg;simp![yQ]
def oj (n:Nat)(ps ds:Å)(bk:D)(ms:Å)(k l:Int)(h1:l<=k)(h2:k<=ps.length):bB T (n+1) 65 [Hu Θ ps ds bk ms,.int k,.int l]=.ok .Gx:=by have d1:decide (k < l)=Θ:=x_ (by omega);have d2:decide ((ps.length:Int) < k)=Θ:=x_ (by omega);have lp:(ps.map D.int).length=ps.length:=h_ _;unfold Hu;rw[gx 65 UX 3 3 UW rfl rfl rfl rfl rfl rfl];unfold UW;simp![bC (kI _) CF,d1,d2,lp]
abbrev mo (h:Int)(ms:Å)(k:Int):Int:=(h::ms).getD k.toNat 0
def uD (n:Nat)(ps ds:Å)(dl hl:Ê)(ms:Å)(k:Int)(h1:0<=k)(h2:k<=ps.length)(hm:ms.length=ps.length):bB T (n+2) 69 [Hu Θ ps ds (Hg Θ dl hl) ms,.int k]=.ok (.int (mo dl.length ms k)):=by
 have e1:=oj n ps ds (Hg Θ (Gr dl) (Gr hl)) ms k 0 h1 h2;have e2:=kL n (Gr dl) (Gr hl);rw[iB]at e2;have et:=rf Θ ps ds (Hg Θ dl hl) ms;have eb:=pf Θ dl hl;by_cases hk:k=0
 ·subst hk;have h0:((0:Int) == 0)=Δ:=rfl;have hm0:mo dl.length ms 0=dl.length:=rfl;rw[hm0];unfold Hu at *;unfold Hg at *;rw[gx 69 Rx 2 2 QI rfl rfl rfl rfl rfl rfl];unfold QI;simp![bC (kI _) Gp,bC (kI _) zo,e1,e2,et,eb,h0,zr,zj]
 ·have h0:(k == 0)=Θ:=by simpa using hk
  have hmk:ms.getD (k - 1).toNat 0=mo dl.length ms k:=by unfold mo;rw[show k.toNat=(k - 1).toNat+1 by omega,List.getD_cons_succ]
  unfold Hu at *;unfold Hg at *;rw[gx 69 Rx 2 2 QI rfl rfl rfl rfl rfl rfl];unfold QI;simp![bC (kI _) Gp,bC (kI _) zo,e1,et,eb,h0,zr,hmk]
def tU (n:Nat)(ps ds:Å)(bk Va:D)(ms:Å)(Iy r:D)(dl hl Ti Ld:Ê)(e0:bk=Hg Δ dl hl)(e1:Va=Hg Δ Ti Ld)(hd:er Iy=Iy)(e:bB T n 62 [bk,Iy]=.ok (.tup [r,Va])):bB T (n+1) 66 [Hu Δ ps ds bk ms,Iy]=.ok (.tup [r,Hu Δ ps ds Va ms]):=by subst e0 e1;unfold Hu Hg at *;rw[ON (show T 66=Γ NP from rfl) (show NP.io=Δ from rfl) (show NP.G.io.getD 0=0 from rfl) (show NP.np=2 from rfl) (show NP.G.N.length=2 from rfl) (show NP.body=UY from rfl) rfl];unfold UY;simp![kI,Gp,FN,EM,e,hd]
theorem tV (w:Int):∀ws:Å,Ht (.int w) (ws.map .int)=.ok (decide (w∈ws))
 |[]=>rfl
 |v::ws=>by
  have e:decide (w∈v::ws)=((v == w)||decide (w∈ws)):=by
   by_cases h:v=w
   ·subst h;simp
   ·have h':¬w=v:=λz=>h z.symm;simp[h,h',beq_eq_false_iff_ne.mpr h]
  rw[e,c_];have ih:=tV w ws;simp![ih]
abbrev nm (h:Int)(ps ms ls:Å)(i:Nat):Int:=if((i:Int)+1)∈ls then mo h ms ((i:Int)+1) else mo h ms (ps.getD i 0)
abbrev nM (h:Int)(ps ms ls:Å):Å:=(List.range ps.length).map (nm h ps ms ls)
def Pa (ps:Å):Prop:=∀i,i < ps.length->0<=ps.getD i 0/\ps.getD i 0<=(i:Int)
def zt (ps:Å)(i:Nat)(x:D)(h:(Gr (jL (ps.map .int)))[i]? = Γ x):i < ps.length/\x=.tup [.int ((i:Int)+1),.int (ps.getD i 0)]:=by
 rw[jv,z_]at h;obtain⟨y,hy,rfl⟩:=M_.mp h;unfold jL at hy;rw[List.getElem?_zipWith]at hy;have hi:i < ps.length:=by apply Classical.byContradiction;intro z;rw[List.getElem?_eq_none (by rw[U_,h_];omega)]at hy;cases hy
 rw[List.getElem?_range (by rw[h_];exact hi),z_,K_ hi]at hy;cases hy;refine⟨hi,?_⟩;rw[aaa,K_ hi];simp![G0];rfl
def wY (ps:Å):(Gr (jL (ps.map .int))).length=ps.length:=by rw[iB];unfold jL;rw[List.length_zipWith,U_,h_,Nat.min_self]
def CG (ps:Å)(i:Nat)(x:D)(h:(Gr (mB (ps.map .int)))[i]? = Γ x):i < ps.length/\x=.tup [.int (i:Int),.int (ps.getD i 0)]:=by
 rw[jv,z_]at h;obtain⟨y,hy,rfl⟩:=M_.mp h;unfold mB at hy;rw[List.getElem?_zipWith]at hy;have hi:i < ps.length:=by apply Classical.byContradiction;intro z;rw[List.getElem?_eq_none (by rw[U_,h_];omega)]at hy;cases hy
 rw[List.getElem?_range (by rw[h_];exact hi),z_,K_ hi]at hy;cases hy;refine⟨hi,?_⟩;rw[aaa,K_ hi];simp![G0];rfl
def zu (n:Nat)(i:Int):bB T (n+1) 26 [.int i]=.ok (.bl Δ):=by rw[gx 26 TX 1 1 TV rfl rfl rfl rfl rfl rfl];unfold TV;simp![G0]
def w8 (n:Nat):bB T (n+1) 61 [.obj Δ "Book" [] []]=.ok (.tup [.Gx,Hg Δ [] [hD []]]):=by
 have p1:jw "deeds" []=(["deeds"]:Â):=rfl;have p2:jw "houses" (["deeds"]:Â)=(["deeds","houses"]:Â):=by show(if Ο "deeds" = Ο "houses" then [Ο "deeds"] else [Ο "deeds",Ο "houses"])=_;rw[b_ ∅]
 have q1:∀d:D,iM "deeds" d [] []=[d]:=λ_=>rfl;have q2:∀a d:D,iM "houses" d (["deeds"]:Â) [a]=[a,d]:=λa d=>by show(if Ο "deeds" = Ο "houses" then [d] else [a,d])=_;rw[b_ ∅]
 unfold Hg hD;rw[ON (show T 61=Γ NK from rfl) (show NK.io=Δ from rfl) (show NK.G.io.getD 0=0 from rfl) (show NK.np=1 from rfl) (show NK.G.N.length=1 from rfl) (show NK.body=UQ from rfl) rfl];unfold UQ;simp![kI,p1,p2,q1,q2,show iS (.ID [.tup [.lst [],.lst [],.lst []]])=Δ from rfl,show vars (.ID [.tup [.lst [],.lst [],.lst []]])=[] from rfl,show decide ((0:Nat) < 1000)=Δ from rfl,show decide ((1:Nat) < 1000)=Δ from rfl]
theorem QO:∀ds:Å,ju (ds.map D.int)=Δ
 |[]=>by rw[List.map_nil,wA]
 |d::ds=>by rw[c_,wB,Cn,QO ds];rfl
def EN (k:Nat):List.flatten (Ρ k [D.int 0])=(Ρ k (0:Int)).map D.int:=by
 induction k with
 |zero=>rfl
 |succ k ih=>rw[List.replicate_succ,List.flatten_cons,ih,List.replicate_succ];rfl
def mul_0 (k:Nat)(h:k<=1000):JL .mul (D.lst Δ [.int 0]) (.int (k:Int))=.ok (.lst Δ ((Ρ k (0:Int)).map D.int)):=by show Gn (decide (0<=(k:Int)/\(k:Int)<=16000/\([D.int 0]:Ê).length<=1000)) (.ok (D.lst Δ (List.flatten (Ρ (k:Int).toNat [D.int 0]))))=_;rw[A_ (by refine⟨by omega,by omega,by decide⟩),Int.toNat_natCast,EN];rfl
abbrev par (ps:Å)(k:Int):Int:=ps.getD (k - 1).toNat 0
def w9 {ps:Å}(hp:Pa ps){k:Int}(h0:0 < k)(h1:k<=ps.length):0<=par ps k/\par ps k < k:=by have:=hp (k - 1).toNat (by omega);unfold par;omega
abbrev way (ps:Å):Nat->Int->Å
 |0,_=>[]
 |f+1,k=>if 0 < k then k::way ps f (par ps k) else []
theorem xa {ps:Å}(hp:Pa ps):∀(f:Nat) (k:Int),k<=ps.length->k.toNat<=f->way ps f k=way ps k.toNat k
 |0,k,_,h=>by rw[show k.toNat=0 by omega]
 |f+1,k,h1,h=>by
  by_cases h0:0 < k
  ·obtain⟨p0,p1⟩:=w9 hp h0 h1;have e:k.toNat=(k.toNat - 1)+1:=by omega
   rw[e];show(if 0 < k then k::way ps f (par ps k) else [])=(if 0 < k then k::way ps (k.toNat - 1) (par ps k) else [])
   rw[d_ h0,d_ h0,xa hp f (par ps k) (by omega) (by omega),<- xa hp (k.toNat - 1) (par ps k) (by omega) (by omega)]
  ·rw[show k.toNat=0 by omega];show(if 0 < k then k::way ps f (par ps k) else [])=[]
   rw[b_ h0]
abbrev Wy (ps:Å)(k:Int):Å:=way ps k.toNat k
def FP {ps:Å}(hp:Pa ps){k:Int}(h0:0 < k)(h1:k<=ps.length):Wy ps k=k::Wy ps (par ps k):=by obtain⟨p0,p1⟩:=w9 hp h0 h1;unfold Wy;rw[show k.toNat=(k.toNat - 1)+1 by omega];show(if 0 < k then k::way ps (k.toNat - 1) (par ps k) else [])=_;rw[d_ h0,xa hp (k.toNat - 1) (par ps k) (by omega) (by omega)]
def xb (h:Int)(ps ms ls:Å):(nM h ps ms ls).length=ps.length:=by unfold nM;rw[h_,U_]
def xc {m:Int}{β:Type}(f:Int->β)(d:β){k:Int}(h0:0<=k)(h1:k < m):((zs m).map f).getD k.toNat d=f k:=by unfold zs;rw[aaa,z_,z_,List.getElem?_range (by omega)];show f (0+((k.toNat:Nat):Int))=f k;congr 1;omega
theorem xg {α:Type}{g:D->Res (À)}(Mx:α->D)(p:α->Bool):∀xs:List α,(∀x∈xs,g (Mx x)=.ok (if p x=Δ then Γ (Mx x) else Ξ))->iX g (xs.map Mx)=.ok ((xs.filter p).map Mx)
 |[],_=>rfl
 |x::xs,h=>by
  have ih:=xg Mx p xs λy hy=>h y (H_ _ hy);have h0:=h x aai;rw[c_,sE,h0,List.filter_cons];by_cases hp:p x=Δ
  ·rw[d_ hp,d_ hp,Nj,n9,ih];rfl
  ·rw[b_ hp,b_ hp,Nj,oa,ih]
def zv (n:Nat)(ns:Å):∃m:Int,bB T (n+2) 50 [.lst Θ (ns.map .int),.int 40]=.ok (.int m)/\0<=m/\m<=40:=by have d:=jK n ns 98 (40+1) (by decide) (by decide) (by decide);have b0:=mZ ns 98 (m:=40+1) (by decide);have b1:=oE ns 98 (m:=40+1) (by decide);generalize dr ns 98 (40+1)=r at *;have lm:(ns.map D.int).length=ns.length:=h_ _;refine⟨_,by rw[gx 50 UB 2 2 UA rfl rfl rfl rfl rfl rfl];unfold UA;simp![d,lm];rfl,?_,?_⟩<;>(repeat' split)<;>omega
def xh (n:Nat)(ns:Å):∃ps:Å,bB T (n+2) 55 [.lst Θ (ns.map .int)]=.ok (.lst Δ (ps.map .int))/\Pa ps/\ps.length<=9:=by
 have d:=jK n ns 309 6 (by decide) (by decide) (by decide);have b0:=mZ ns 309 (m:=6) (by decide);have b1:=oE ns 309 (m:=6) (by decide);generalize dr ns 309 6=q at *;obtain⟨m,hm,m0,m9⟩:∃m:Int,(∀o,lM (.lst o [.int 3,.int 6,.int 0,.int 1,.int 2,.int 9]) (.int q)=.ok (.int m))/\0<=m/\m<=9:=by
  rcases(show q=0∨q=1∨q=2∨q=3∨q=4∨q=5 by omega) with rfl|rfl|rfl|rfl|rfl|rfl
  ·exact⟨3,λ_=>rfl,by decide,by decide⟩
  ·exact⟨6,λ_=>rfl,by decide,by decide⟩
  ·exact⟨0,λ_=>rfl,by decide,by decide⟩
  ·exact⟨1,λ_=>rfl,by decide,by decide⟩
  ·exact⟨2,λ_=>rfl,by decide,by decide⟩
  ·exact⟨9,λ_=>rfl,by decide,by decide⟩
 have fm:iX (jr (bB T (n+1)) (.nm 1) [] (.call 49 [.v 0,.bin .add (.c (.int 310)) (.v 1),.bin .add (.v 1) (.c (.int 1))]) [Γ (.lst Θ (ns.map .int)),Ξ]) ((zs m).map .int)=.ok (((zs m).map λj=>dr ns (310+j) (j+1)).map .int):=by refine jd .int (λj=>dr ns (310+j) (j+1)) .int _ λj hj=>?_;have:=kH hj;have e:=jK n ns (310+j) (j+1) (by omega) (by omega) (by omega);simp![e]
 have ll:((zs m).map λj=>dr ns (310+j) (j+1)).length=m.toNat:=by rw[h_,jY]
 have hP:Pa ((zs m).map λj=>dr ns (310+j) (j+1)):=λi hi=>by rw[ll]at hi;have:=xc (m:=m) (λj=>dr ns (310+j) (j+1)) 0 (k:=(i:Int)) (by omega) (by omega);rw[Int.toNat_natCast]at this;rw[this];have b0:=mZ ns (310+(i:Int)) (m:=(i:Int)+1) (by omega);have b1:=oE ns (310+(i:Int)) (m:=(i:Int)+1) (by omega);omega
 have rz:=lL m;have lz:((zs m).map D.int).length=m.toNat:=by rw[h_,jY]
 refine⟨_,?_,hP,by omega⟩;generalize((zs m).map λj=>dr ns (310+j) (j+1))=ps at *;have lP:=kR ps;rw[gx 55 UI 1 1 UH rfl rfl rfl rfl rfl rfl];unfold UH;simp![d,hm,rz,lz,fm,lP]
abbrev os (m:Int):Å:=(List.range (m+1 - 1).toNat).map λk=>(1:Int)+((k:Nat):Int)
def AE {m x:Int}(h:x∈os m):1<=x/\x<=m:=by obtain⟨k,hk,rfl⟩:=List.mem_map.mp h;have:=X_.mp hk;omega
def xj (m:Int):(os m).length=m.toNat:=by unfold os;rw[h_,U_];omega
def CH (m:Int):iW 1 (m+1)=(os m).map .int:=qW 1 (m+1)
def zw (n:Nat)(ns:Å){k:Int}{m:Nat}(h0:0<=k)(h1:k<=3000)(hm:m<=9):∃ls:Å,bB T (n+2) 56 [.lst Θ (ns.map .int),.int k,.int (m:Int)]=.ok (.lst Δ (ls.map .int))/\(∀l∈ls,1<=l/\l<=(m:Int))/\ls.length<=9:=by
 have fm:iX (jr (bB T (n+1)) (.nm 2) [.cmp .eq (.call 49 [.v 0,.bin .add (.v 1) (.v 2),.c (.int 3)]) (.c (.int 0))] (.v 2) [Γ (.lst Θ (ns.map .int)),Γ (.int k),Ξ]) ((os m).map .int)=.ok (((os m).filter λj=>dr ns (k+j) 3 == 0).map .int):=by
  refine xg .int (λj=>dr ns (k+j) 3 == 0) _ λj hj=>?_;have:=AE hj;have e:=jK n ns (k+j) 3 (by omega) (by omega) (by decide);cases hq:(dr ns (k+j) 3 == 0)
  ·simp![e,hq]
  ·simp![e,hq]
 have MA:∀l∈(os m).filter (λj=>dr ns (k+j) 3 == 0),1<=l/\l<=(m:Int):=λl hl=>AE (List.mem_filter.mp hl).1;have hle:((os m).filter (λj=>dr ns (k+j) 3 == 0)).length<=9:=Q_ (List.length_filter_le _ _) (by rw[xj];omega);refine⟨_,?_,MA,hle⟩;generalize((os m).filter λj=>dr ns (k+j) 3 == 0)=ls at *;have rz:=CH m;have lz:((os m).map D.int).length=m:=by rw[h_,xj];rfl
 have lP:=kR ls;rw[gx 56 UK 3 3 UJ rfl rfl rfl rfl rfl rfl];unfold UJ;simp_all![rz,lz,fm,lP]
abbrev RB:Æ:=[.app 2 (.v 1),.asg (.nm 1) (.idx (.v 0) (.bin .sub (.v 1) (.c (.int 1))))]
theorem xk (n:Nat){ps:Å}(hp:Pa ps):∀(f:Nat) (k:Int) (acc:Å) (q:Nat),k.toNat<=f->0<=k->k<=ps.length->acc.length+f<=1000->
  ∃k',i5 (KH (bB T n) (.cmp .gt (.v 1) (.c (.int 0)))) (ix (bB T n) RB) (f+1+q) [Γ (.lst Θ (ps.map .int)),Γ (.int k),Γ (.lst Δ (acc.map .int))]=.ok (.nx [Γ (.lst Θ (ps.map .int)),Γ (.int k'),Γ (.lst Δ ((acc++way ps f k).map .int))])
 |f,k,acc,q,hf,h0,h1,ha=>by
  by_cases hk:0 < k
  ·obtain⟨f',rfl⟩:∃f',f=f' + 1:=⟨f - 1,by omega⟩
   obtain⟨p0,p1⟩:=w9 hp hk h1;obtain⟨k',ih⟩:=xk n hp f' (par ps k) (acc++[k]) q (by omega) p0 (by omega) (by rw[u_];show acc.length+1+f'<=1000;omega);refine⟨k',?_⟩;have ht:KH (bB T n) (.cmp .gt (.v 1) (.c (.int 0))) [Γ (.lst Θ (ps.map .int)),Γ (.int k),Γ (.lst Δ (acc.map .int))]=.ok Δ:=by have d:decide ((0:Int) < k)=Δ:=A_ hk;unfold KH;simp![d]
   have hb:ix (bB T n) RB [Γ (.lst Θ (ps.map .int)),Γ (.int k),Γ (.lst Δ (acc.map .int))]=.ok (.nx [Γ (.lst Θ (ps.map .int)),Γ (.int (par ps k)),Γ (.lst Δ ((acc++[k]).map .int))]):=by have la:(acc.map D.int).length=acc.length:=h_ _;unfold RB par;simp![la,G_]
   rw[show f' + 1+1+q=(f' + 1+q)+1 by omega,Cw ht,hb,Nj,AB,ih];show _=Except.ok (Fl.nx [_,_,Γ (D.lst Δ ((acc++(if 0 < k then k::way ps f' (par ps k) else [])).map .int))]);rw[d_ hk,y_];rfl
  ·have ht:KH (bB T n) (.cmp .gt (.v 1) (.c (.int 0))) [Γ (.lst Θ (ps.map .int)),Γ (.int k),Γ (.lst Δ (acc.map .int))]=.ok Θ:=by have d:decide ((0:Int) < k)=Θ:=x_ hk;unfold KH;simp![d]
   have hw:way ps f k=[]:=by
    cases f with
    |zero=>rfl
    |succ f=>exact b_ hk
   refine⟨k,?_⟩;rw[show f+1+q=(f+q)+1 by omega,FG ht,hw,R_]
def CI (n:Nat){ps:Å}(hp:Pa ps){k:Int}(h0:0<=k)(h1:k<=ps.length)(hl:ps.length<=9):bB T (n+1) 57 [.lst Θ (ps.map .int),.int k]=.ok (.lst Δ ((Wy ps k).map .int)):=by obtain⟨k',e⟩:=xk n hp k.toNat k [] (1000000 - (k.toNat+1)) (n_ _) h0 h1 (by rw[List.length_nil];omega);rw[show k.toNat+1+(1000000 - (k.toNat+1))=oT by show _=1000000;omega,List.nil_append]at e;unfold Wy;generalize(way ps k.toNat k)=w at *;unfold RB at e;have e':i5 (KH (bB T n) (.cmp .gt (.v 1) (.c (.int 0)))) (ix (bB T n) [.app 2 (.v 1),.asg (.nm 1) (.idx (.v 0) (.bin .sub (.v 1) (.c (.int 1))))]) oT [Γ (.lst Θ (ps.map .int)),Γ (.int k),Γ (.lst Δ [])]=_:=e;rw[gx 57 UM 2 3 UL rfl rfl rfl rfl rfl rfl];unfold UL;simp![e']
structure La (X:D)(ls:Å):Prop where
 er:er X=X
 it:k9 X=.ok (ls.map .int)
 en:yg X=.ok (mB (ls.map .int))
 ln:jZ .len [X]=.ok (.int ls.length)
 li:jZ .list [X]=.ok (.lst Δ (ls.map .int))
 HU:∀i,HV .JA (.int i) X=.ok (decide (i∈ls))
 Om:HV .MK X .Gx=.ok Θ
def La.MN (ls:Å):La (.exc ls) ls:=⟨by rw[L2.er],rfl,rfl,by show Except.ok (D.int (ls.map D.int).length)=_;rw[h_],rfl,λi=>tV i ls,rfl⟩
def La.Gy (ls:Å):La (.lst Θ (ls.map .int)) ls:=⟨by rw[L2.er,ji],rfl,rfl,by show Except.ok (D.int (ls.map D.int).length)=_;rw[h_],rfl,λi=>tV i ls,rfl⟩
abbrev Vb:Æ:=[.exp (.HM 65 "check_machine" "Tree" (.v 0) [.v 3,.c (.int 1)])]
abbrev QP:Æ:=[.app 5 (.ite (.cmp .JA (.v 3) (.v 2)) (.idx (.v 4) (.v 3)) (.idx (.v 4) (.v 6)))]
def rg (n:Nat)(ps ds:Å)(dl hl:Ê)(ms ls:Å)(hp:Pa ps)(hm:ms.length=ps.length)(Lx:ps.length<=1000){X:D}(hx:La X ls)(Y:D)(x3:À) :
  ∃y3 y6,forM (turn (bB T (n+1)) (.tp [.nm 3,.nm 6]) QP) (Gr (jL (ps.map .int))) [Γ (Hu Δ ps ds (Hg Δ dl hl) ms),Γ Y,Γ X,x3,Γ (.lst Δ (((dl.length:Int)::ms).map D.int)),Γ (.lst Δ []),Ξ]=.ok (.nx [Γ (Hu Δ ps ds (Hg Δ dl hl) ms),Γ Y,Γ X,y3,Γ (.lst Δ (((dl.length:Int)::ms).map D.int)),Γ (.lst Δ ((nM dl.length ps ms ls).map .int)),y6]):=by
 obtain⟨Gv,K5,y3,y6,rfl⟩:=j8 (its:=Gr (jL (ps.map .int))) (τ:=[Γ (Hu Δ ps ds (Hg Δ dl hl) ms),Γ Y,Γ X,x3,Γ (.lst Δ (((dl.length:Int)::ms).map D.int)),Γ (.lst Δ []),Ξ]) (body:=turn (bB T (n+1)) (.tp [.nm 3,.nm 6]) QP)
  (λi τ=>∃y3 y6,τ=[Γ (Hu Δ ps ds (Hg Δ dl hl) ms),Γ Y,Γ X,y3,Γ (.lst Δ (((dl.length:Int)::ms).map D.int)),Γ (.lst Δ (((List.range i).map (nm dl.length ps ms ls)).map .int)),y6]) ⟨x3,Ξ,rfl⟩ (by
   rintro i x τ Hr ⟨y3,y6,rfl⟩;obtain⟨hi,rfl⟩:=zt ps i x Hr;obtain⟨p0,p1⟩:=hp i hi;generalize hq:ps.getD i 0=p at *;refine⟨_,?_,Γ (.int ((i:Int)+1)),Γ (.int p),rfl⟩;have lr:(((List.range i).map (nm dl.length ps ms ls)).map D.int).length=i:=by rw[h_,h_,U_]
   have lb:((dl.length:Int)::ms).length=ms.length+1:=rfl;have ei:=hx.HU ((i:Int)+1);have OS:((List.range (i+1)).map (nm dl.length ps ms ls)).map D.int=((List.range i).map (nm dl.length ps ms ls)).map D.int++[.int (nm dl.length ps ms ls i)]:=by rw[List.range_succ,G_,G_];rfl
   rw[OS];have x1:=LU (o:=Δ) (xs:=(dl.length:Int)::ms) (i:=(i:Int)+1) (by omega) (by rw[lb];omega);have x2:=LU (o:=Δ) (xs:=(dl.length:Int)::ms) (i:=p) p0 (by rw[lb];omega);generalize((List.range i).map (nm dl.length ps ms ls)).map D.int=R,((dl.length:Int)::ms).map D.int=B at *;clear OS;unfold nm;rw[hq];unfold mo;unfold QP;by_cases MA:(i:Int)+1∈ls
   ·rw[A_ MA]at ei;rw[d_ MA];simp![jm,ei,x1,lr]
   ·rw[x_ MA]at ei;rw[b_ MA]
    simp![jm,ei,x2,lr])
 rw[wY]at K5;exact⟨y3,y6,K5⟩
def zx (n:Nat)(ps ds:Å)(dl hl:Ê)(ms ls:Å)(hp:Pa ps)(hm:ms.length=ps.length)(Lx:ps.length<=1000)(RC:∀l∈ls,1<=l/\l<=ps.length){X:D}(hx:La X ls) :
  bB T (n+2) 67 [Hu Δ ps ds (Hg Δ dl hl) ms,X]=.ok (.tup [.Gx,Hu Δ ps ds (Hg Δ dl hl) (nM dl.length ps ms ls)]):=by
 have et:=rf Δ ps ds (Hg Δ dl hl) ms;have eb:=pf Δ dl hl;have e2:=kL n (Gr dl) (Gr hl);rw[iB]at e2;have ml:((D.int dl.length::ms.map D.int))=(((dl.length:Int)::ms).map D.int):=rfl;have lm:(ms.map D.int).length=ms.length:=h_ _;have eI:=ji ls;have h1:=hx.er;have h2:=hx.it;have h3:=hx.Om
 -- MF links Ta are told
 obtain⟨Gv,ea,x3,rfl⟩:=j8 (its:=ls.map D.int) (τ:=[Γ (Hu Δ ps ds (Hg Δ dl hl) ms),Γ X,Γ X,Ξ,Ξ,Ξ,Ξ]) (body:=turn (bB T (n+1)) (.nm 3) Vb)
  (λi τ=>∃x3,τ=[Γ (Hu Δ ps ds (Hg Δ dl hl) ms),Γ X,Γ X,x3,Ξ,Ξ,Ξ]) ⟨Ξ,rfl⟩ (by
   rintro i x τ Hr ⟨x3,rfl⟩;rw[z_]at Hr;obtain⟨l,Ld,rfl⟩:=M_.mp Hr;have hb:=RC l (S_ Ld);refine⟨_,?_,Γ (.int l),rfl⟩;have ec:=oj n ps ds (er (Hg Δ dl hl)) ms l 1 hb.1 hb.2;unfold Hu at *;unfold Vb
   simp![jm,zr,ec])
 obtain⟨y3,y6,K5⟩:=rg n ps ds dl hl ms ls hp hm Lx hx X x3;have en:=ji (nM dl.length ps ms ls);generalize nM dl.length ps ms ls=NM at *;unfold Hu at *;unfold Hg at *;unfold Vb at ea;unfold QP at K5;rw[<- ml]at K5;have l1:1+ms.length<=16777216:=by omega
 have Rz:iy (ms.map D.int)=Δ:=kR ms;rw[ON (show T 67=Γ Lm from rfl) (show Lm.io=Δ from rfl) (show Lm.G.io.getD 0=0 from rfl) (show Lm.np=2 from rfl) (show Lm.G.N.length=7 from rfl) (show Lm.body=QH from rfl) rfl];unfold QH;simp![h1,h2,h3,eI,ea,bC (kI _) Gp,bC (kI _) zo,zj,eb,e2,lm,Rz,kI,CF,K5,EK,EJ,en,show decide ((4:Nat) < 1000)=Δ from rfl]
def xl (n:Nat)(ps ds:Å)(dl hl:Ê)(ms:Å)(hp:Pa ps)(hm:ms.length=ps.length)(Lx:ps.length<=1000) :
  bB T (n+2) 67 [Hu Δ ps ds (Hg Δ dl hl) ms,.Gx]=.ok (.tup [.Gx,Hu Δ ps ds (Hg Δ dl hl) (nM dl.length ps ms [])]):=by
 have et:=rf Δ ps ds (Hg Δ dl hl) ms;have eb:=pf Δ dl hl;have e2:=kL n (Gr dl) (Gr hl);rw[iB]at e2;have ml:((D.int dl.length::ms.map D.int))=(((dl.length:Int)::ms).map D.int):=rfl;have lm:(ms.map D.int).length=ms.length:=h_ _;obtain⟨y3,y6,K5⟩:=rg n ps ds dl hl ms [] hp hm Lx (La.Gy []) .Gx Ξ;rw[List.map_nil]at K5;have en:=ji (nM dl.length ps ms []);generalize nM dl.length ps ms []=NM at *;unfold Hu at *;unfold Hg at *;unfold QP at K5;rw[<- ml]at K5;have l1:1+ms.length<=16777216:=by omega
 have Rz:iy (ms.map D.int)=Δ:=kR ms;rw[ON (show T 67=Γ Lm from rfl) (show Lm.io=Δ from rfl) (show Lm.G.io.getD 0=0 from rfl) (show Lm.np=2 from rfl) (show Lm.G.N.length=7 from rfl) (show Lm.body=QH from rfl) rfl];unfold QH;simp![bC (kI _) Gp,bC (kI _) zo,zj,eb,e2,lm,Rz,kI,CF,K5,EK,EJ,en,show decide ((4:Nat) < 1000)=Δ from rfl]
abbrev Vc:Æ:=[.Hl (.Kf (.HI (.call 26 [.v 2])) (.Kf (.cmp .lt (.v 2) (.c (.int 0))) (.cmp .gt (.v 2) (.v 1)))) [.never] []]
def sG (n:Nat)(ps:Å)(hp:Pa ps)(hl:ps.length<=1000){X:D}(hx:La X ps):bB T (n+2) 47 [X]=.ok .Gx:=by
 have h1:=hx.er;have h2:=hx.en;obtain⟨Gv,ea,x1,x2,rfl⟩:=j8 (its:=Gr (mB (ps.map .int))) (τ:=[Γ X,Ξ,Ξ]) (body:=turn (bB T (n+1)) (.tp [.nm 1,.nm 2]) Vc)
  (λi τ=>∃x1 x2,τ=[Γ X,x1,x2]) ⟨Ξ,Ξ,rfl⟩ (by
   rintro i x τ Hr ⟨x1,x2,rfl⟩;obtain⟨hi,rfl⟩:=CG ps i x Hr;obtain⟨p0,p1⟩:=hp i hi;generalize ps.getD i 0=p at *;refine⟨_,?_,Γ (.int (i:Int)),Γ (.int p),rfl⟩;have e:=zu n p;have d1:decide (p < 0)=Θ:=x_ (by omega);have d2:decide ((i:Int) < p)=Θ:=x_ (by omega);unfold Vc
   simp![jm,e,d1,d2])
 unfold Vc at ea;rw[gx 47 Uv 1 3 Uu rfl rfl rfl rfl rfl rfl];unfold Uu;simp![h1,h2,ea]
abbrev dep (ps:Å)(k:Int):Int:=((Wy ps k).length:Nat)
abbrev HF (ps:Å):Å:=(zs ((ps.length:Int)+1)).map (dep ps)
def FQ (i:Nat):zs (((i+1:Nat):Int)+1)=zs ((i:Int)+1)++[(i:Int)+1]:=by unfold zs;rw[show(((i+1:Nat):Int)+1 - 0).toNat=((i:Int)+1 - 0).toNat+1 by omega,List.range_succ,G_];congr 1;show [(0:Int)+((((i:Int)+1 - 0).toNat:Nat):Int)]=_;congr 1;omega
abbrev Vd:Æ:=[.app 1 (.bin .add (.idx (.v 1) (.v 2)) (.c (.int 1)))]
def uE (n:Nat)(ps:Å)(hp:Pa ps)(hl:ps.length<=1000){X:D}(hx:La X ps):bB T (n+1) 48 [X]=.ok (.lst Δ ((HF ps).map .int)):=by
 have eI:=ji ps;have h1:=hx.er;have h2:=hx.it;obtain⟨Gv,ea,x2,rfl⟩:=j8 (its:=ps.map .int) (τ:=[Γ X,Γ (.lst Δ ([(0:Int)].map .int)),Ξ]) (body:=turn (bB T n) (.nm 2) Vd)
  (λi τ=>∃(x2:À),τ=[Γ X,Γ (.lst Δ (((zs ((i:Int)+1)).map (dep ps)).map .int)),x2]) ⟨Ξ,rfl⟩ (by
   rintro i x τ Hr ⟨x2,rfl⟩;rw[z_]at Hr;obtain⟨p,hq,rfl⟩:=M_.mp Hr;have hi:i < ps.length:=(v_.mp hq).1;obtain⟨p0,p1⟩:=hp i hi;rw[aaa,hq]at p0 p1;have W9:0<=p:=p0;have p1':p<=(i:Int):=p1;refine⟨_,?_,Γ (.int p),rfl⟩;have lz:((zs ((i:Int)+1)).map (dep ps)).length=i+1:=by rw[h_,jY];omega
   have lz':(((zs ((i:Int)+1)).map (dep ps)).map D.int).length=i+1:=by rw[h_,lz]
   have xi:=LU (o:=Δ) (xs:=(zs ((i:Int)+1)).map (dep ps)) (i:=p) W9 (by rw[lz];omega);rw[xc (dep ps) 0 W9 (by omega)]at xi;have pe:par ps ((i:Int)+1)=p:=by unfold par;rw[show((i:Int)+1 - 1).toNat=i by omega,aaa,hq];rfl
   have de:dep ps p+1=dep ps ((i:Int)+1):=by unfold dep;rw[FP hp (k:=(i:Int)+1) (by omega) (by omega),pe,List.length_cons];omega
   rw[FQ,G_,G_];show _=Except.ok (Fl.nx [Γ X,Γ (D.lst Δ (((zs ((i:Int)+1)).map (dep ps)).map D.int++[.int (dep ps ((i:Int)+1))])),Γ (.int p)]);rw[<- de];generalize((zs ((i:Int)+1)).map (dep ps)).map D.int=Zs at *;unfold Vd
   simp![jm,xi,lz'])
 rw[h_]at ea;unfold HF;unfold Vd at ea;rw[show([(0:Int)].map D.int)=[.int 0] from rfl]at ea;rw[gx 48 Ux 1 3 Uw rfl rfl rfl rfl rfl rfl];unfold Uw;simp![h1,h2,eI,ea]
def rh (n:Nat)(ps:Å)(hp:Pa ps)(hl:ps.length<=1000){X:D}(hx:La X ps):bB T (n+3) 64 [.obj Δ "Tree" [] [],X]=.ok (.tup [.Gx,Hu Δ ps (HF ps) (Hg Δ [] [hD []]) (Ρ ps.length 0)]):=by
 have e1:=uE (n+1) ps hp hl hx;have e0:=sG n ps hp hl hx;have e2:=w8 (n+1);have h1:=hx.er;have h2:=hx.ln;have h3:=hx.li;have eI:=ji ps;generalize HF ps=ds at *;have eD':=ji ds;have ao:i7 (.lst Δ (ds.map D.int))=Δ:=by rw[Co];exact QO ds
 have em:=mul_0 ps.length hl;have eR:=ji (Ρ ps.length 0);have lR:=kR (Ρ ps.length 0);have lP:=kR ps;have k1:jw "parents" []=(["parents"]:Â):=rfl;have k2:jw "depths" (["parents"]:Â)=(["parents","depths"]:Â):=by simp only[jw,b_ ne1]
 have k3:jw "book" (["parents","depths"]:Â)=(["parents","depths","book"]:Â):=by simp only[jw,b_ ne2,b_ ne4]
 have k4:jw "moments" (["parents","depths","book"]:Â)=(["parents","depths","book","moments"]:Â):=by simp only[jw,b_ ne3,b_ ne5,b_ QN]
 have q1:∀d:D,iM "parents" d [] []=[d]:=λ_=>rfl;have q2:∀a d:D,iM "depths" d (["parents"]:Â) [a]=[a,d]:=λa d=>by simp only[iM,b_ ne1]
 have q3:∀a b d:D,iM "book" d (["parents","depths"]:Â) [a,b]=[a,b,d]:=λa b d=>by simp only[iM,b_ ne2,b_ ne4]
 have q4:∀a b c d:D,iM "moments" d (["parents","depths","book"]:Â) [a,b,c]=[a,b,c,d]:=λa b c d=>by simp only[iM,b_ ne3,b_ ne5,b_ QN]
 unfold Hu;unfold Hg at *;generalize(Ρ ps.length (0:Int)).map D.int=R,hD []=HD at *;rw[ON (show T 64=Γ NO from rfl) (show NO.io=Δ from rfl) (show NO.G.io.getD 0=0 from rfl) (show NO.np=2 from rfl) (show NO.G.N.length=2 from rfl) (show NO.body=UU from rfl) rfl];unfold UU;simp![e0,e1,e2,h1,h2,h3,eI,eD',ao,em,eR,lR,lP,kI,k1,k2,k3,k4,q1,q2,q3,q4,show ∀a b,iS (.bin .mul a b)=Δ from λ_ _=>rfl,show decide ((0:Nat) < 1000)=Δ from rfl,show decide ((1:Nat) < 1000)=Δ from rfl,show decide ((2:Nat) < 1000)=Δ from rfl,show decide ((3:Nat) < 1000)=Δ from rfl]
theorem AF:∀l:Å,Ht (.bl Θ) ((l.map λ_=>Δ).map .bl)=.ok Θ
 |[]=>rfl
 |v::l=>by have ih:=AF l;rw[c_,c_];have e:(Δ == Θ)=Θ:=rfl;simp![ih,e]
def CJ (n:Nat)(i:Int):bB T (n+1) 53 [.int i]=.ok (.bl Δ):=by rw[gx 53 UG 1 1 UE rfl rfl rfl rfl rfl rfl];unfold UE;simp![G0]
def nj (n:Nat)(i:Int):bB T (n+2) 54 [.int i,.int i]=.ok (.bl Δ):=by have e:=CJ n i;have h1:∀j:Int,lN (.int j)=Θ:=λ_=>rfl;rw[gx 54 Rw 2 2 QG rfl rfl rfl rfl rfl rfl];unfold QG;simp![e,h1,beq_self_eq_true]
def zA (n:Nat){o o':Bool}(xs:Å)(hl:xs.length<=1000):bB T (n+3) 54 [.lst o (xs.map .int),.lst o' (xs.map .int)]=.ok (.bl Δ):=by
 have h1:∀o ds,lN (.lst o ds)=Δ:=λ_ _=>rfl;have lm:(xs.map D.int).length=xs.length:=h_ _;have rz:=lL xs.length;have zl:=jY xs.length;have lz:((zs xs.length).map D.int).length=xs.length:=by rw[h_,zl];omega
 have fm:iX (jr (bB T (n+2)) (.nm 2) [] (.call 54 [.idx (.v 0) (.v 2),.idx (.v 1) (.v 2)]) [Γ (.lst o (xs.map .int)),Γ (.lst o' (xs.map .int)),Ξ]) ((zs xs.length).map .int)=.ok (((zs xs.length).map λ_=>Δ).map .bl):=by refine jd .int (λ_=>Δ) .bl _ λj hj=>?_;have:=kH hj;have x1:=LU (o:=o) (xs:=xs) (i:=j) (by omega) (by omega);have x2:=LU (o:=o') (xs:=xs) (i:=j) (by omega) (by omega);have e:=nj n (xs.getD j.toNat 0);generalize xs.map D.int=X,xs.getD j.toNat 0=v at *;simp![x1,x2,e]
 have ab:∀o,HV .J1 (.bl Θ) (.lst o (((zs xs.length).map λ_=>Δ).map .bl))=.ok Δ:=λo=>by show FW (Ht (.bl Θ) (((zs xs.length).map λ_=>Δ).map .bl)) _=_;rw[AF];rfl
 generalize xs.map D.int=X,(((zs xs.length).map λ_=>Δ).map D.bl)=BB at *;rw[gx 54 Rw 2 2 QG rfl rfl rfl rfl rfl rfl];unfold QG;simp_all![h1,lm,rz,lz,fm,ab,beq_self_eq_true]
structure Ob (X:D)(ps:Å)(h:Int)(ms:Å):Prop where
 er:er X=X
 ob:jE "Tree" "moment_of" X=Δ
 mo:∀(n:Nat) (k:Int),0<=k->k<=ps.length->bB T (n+2) 69 [X,.int k]=.ok (.int (mo h ms k))
abbrev MB (ps ds:Å)(dl hl:Ê)(ms:Å):D:=Hu Θ ps ds (Hg Θ (Gr dl) (Gr hl)) ms
def zC (ps ds:Å)(dl hl:Ê)(ms:Å):er (Hu Δ ps ds (Hg Δ dl hl) ms)=MB ps ds dl hl ms:=by rw[rf,pf];rfl
def EO {ps ds:Å}{dl hl:Ê}{ms:Å}(hm:ms.length=ps.length):Ob (MB ps ds dl hl ms) ps dl.length ms:=by
 unfold MB;refine⟨by rw[rf,pf,L2.jO,L2.jO],?_,λn k h0 h1=>?_⟩
 ·unfold Hu;rw[bH,FO,beq_self_eq_true];rfl
 ·have:=uD n ps ds (Gr dl) (Gr hl) ms k h0 h1 hm;rw[iB]at this;exact this
def FR {a b c d:D}:iw ["parents","depths","book","moments"] [a,b,c,d] "depths" = Γ b:=by simp only[iw,if_true,b_ ne1]
def xn (n:Nat)(ps ds:Å)(dl hl:Ê)(ms:Å)(k:Int)(h1:0<=k)(h2:k<=ps.length)(hd:ds.length=ps.length+1):bB T (n+2) 68 [MB ps ds dl hl ms,.int k]=.ok (.int (ds.getD k.toNat 0)):=by
 have e1:=oj n ps ds (Hg Θ (Gr dl) (Gr hl)) ms k 0 h1 h2;have ee:=(L2.vn (Hu Δ ps ds (Hg Δ dl hl) ms))
 rw[zC]at ee;have xi:=LU (o:=Θ) (xs:=ds) (i:=k) h1 (by omega);unfold MB at *;have eb:er (Hg Θ (Gr dl) (Gr hl))=Hg Θ (Gr dl) (Gr hl):=by rw[pf,L2.jO,L2.jO]
 generalize Hg Θ (Gr dl) (Gr hl)=BK at *;unfold Hu at *;generalize ds.map D.int=DD,ds.getD k.toNat 0=v at *;rw[gx 68 U0 2 2 UZ rfl rfl rfl rfl rfl rfl];unfold UZ;simp![bC (kI _) FR,e1,ee,eb,zr,xi]
abbrev Ve:Æ:=[.Hl (.HI (.call 54 [.HM 69 "moment_of" "Tree" (.v 2) [.v 7],.idx (.v 4) (.v 7)])) [.ret (.c (.bl Θ))] []]
def xo (a b:Int){i:Nat}{x:D}(h:(iW a b)[i]? = Γ x):∃k:Int,x=.int k/\a<=k/\k < b:=by have hi:=(v_.mp h).1;rw[jy]at hi;unfold iW at h;rw[z_,List.getElem?_range hi]at h;exact⟨_,(B_ h).symm,by omega,by omega⟩
def om (n:Nat)(ns:Å){k:Int}(k0:0<=k)(k1:k<=5000){X:D}{ps:Å}{h:Int}{ms:Å}(ob:Ob X ps h ms)(hm:ms.length=ps.length)(hl:ps.length<=9){o o':Bool} :
  bB T (n+4) 58 [.lst Θ (ns.map .int),.int k,X,.lst o (ps.map .int),.lst o' ((h::ms).map .int)]=.ok (.bl Δ):=by
 have d:=jK (n+2) ns k ((ps.length:Int)+1) k0 k1 (by omega);have b0:=mZ ns k (m:=(ps.length:Int)+1) (by omega);have b1:=oE ns k (m:=(ps.length:Int)+1) (by omega);generalize dr ns k ((ps.length:Int)+1)=t at *;have lP:(ps.map D.int).length=ps.length:=h_ _;have q1:mW [.int t,.int ((ps.length:Int)+1)]=.ok (.lst Δ (iW t ((ps.length:Int)+1))):=by show Gn (decide (0<=t/\t<=1000/\-1000<=(ps.length:Int)+1/\(ps.length:Int)+1<=1000)) _=_;rw[A_ (by omega)];rfl
 have q2:mW [.int t]=.ok (.lst Δ (iW 0 t)):=by show Gn (decide (-1000<=t/\t<=1000)) _=_;rw[A_ (by omega)];rfl
 have l1:(iW t ((ps.length:Int)+1)).length<=10:=by rw[jy];omega
 have l2:(iW 0 t).length<=10:=by rw[jy];omega
 have OS:Gr (iW t ((ps.length:Int)+1)++iW 0 t)=iW t ((ps.length:Int)+1)++iW 0 t:=by rw[zm,L2.pT,L2.pT]
 have eX:=ob.er;have eO:=ob.ob;obtain⟨Gv,ea,x7,rfl⟩:=j8 (its:=iW t ((ps.length:Int)+1)++iW 0 t) (τ:=[Γ (.lst Θ (ns.map .int)),Γ (.int k),Γ X,Γ (.lst o (ps.map .int)),Γ (.lst o' ((h::ms).map .int)),Γ (.int ps.length),Γ (.int t),Ξ]) (body:=turn (bB T (n+3)) (.nm 7) Ve)
  (λi τ=>∃x7,τ=[Γ (.lst Θ (ns.map .int)),Γ (.int k),Γ X,Γ (.lst o (ps.map .int)),Γ (.lst o' ((h::ms).map .int)),Γ (.int ps.length),Γ (.int t),x7]) ⟨Ξ,rfl⟩ (by
   rintro i x τ hx ⟨x7,rfl⟩;obtain⟨j,rfl,j0,j1⟩:∃j:Int,x=.int j/\0<=j/\j<=ps.length:=by
    rcases t_.mp (S_ hx) with hm|hm
    ·obtain⟨i',KG⟩:=List.getElem?_of_mem hm;obtain⟨j,e,j0,j1⟩:=xo _ _ KG;exact⟨j,e,by omega,by omega⟩
    ·obtain⟨i',KG⟩:=List.getElem?_of_mem hm;obtain⟨j,e,j0,j1⟩:=xo _ _ KG;exact⟨j,e,by omega,by omega⟩
   refine⟨_,?_,Γ (.int j),rfl⟩;have xi:=LU (o:=o') (xs:=h::ms) (i:=j) j0 (by rw[List.length_cons];omega);have em:=ob.mo (n+1) j j0 j1;have ea:=nj (n+1) (mo h ms j);have em':(h::ms).getD j.toNat 0=mo h ms j:=rfl;rw[em']at xi;generalize(h::ms).map D.int=M,mo h ms j=v,ps.map D.int=P,ns.map D.int=N at *;unfold Ve
   simp![jm,eX,eO,em,xi,ea])
 have eN:=ji ns;have eP:=ji ps;have lmM:((h::ms).map D.int).length=ps.length+1:=by rw[h_,List.length_cons,hm]
 generalize(h::ms).map D.int=M,iW t ((ps.length:Int)+1)=R1,iW 0 t=R2,ps.map D.int=P,ns.map D.int=N at *;unfold Ve at ea;rw[gx 58 UO 5 8 UN rfl rfl rfl rfl rfl rfl];unfold UN;have vl:∀es:Ç,vars (.Ja es)=dI es:=λ_=>rfl;simp![d,lP,eN,q1,q2,OS,vl,ea]
def CK {τ:Ev}:Mf (Ξ::τ)=Mf τ:=rfl
def CL {d:D}{τ:Ev}:Mf (Γ d::τ)=(Jg d&&Mf τ):=rfl
def CM:Mf []=Δ:=rfl
def CN {o:Bool}{ds:Ê}:Jg (.lst o ds)=iY ds:=by rw[Jg]
def p5 {i:Int}:Jg (.int i)=Δ:=by rw[Jg]<;>nofun
def sH:Jg .Gx=Δ:=by rw[Jg]<;>nofun
theorem p7:∀l:Å,iY (l.map .int)=Δ
 |[]=>by rw[List.map_nil,iY]
 |n::l=>by rw[c_,iY,p7 l,p5];rfl
theorem xq:∀a b:Ê,iY (a++b)=(iY a&&iY b)
 |[],b=>by rw[List.nil_append,iY];rfl
 |d::a,b=>by rw[e_,iY,iY,xq a b,Bool.and_assoc]
def AG (o:Bool)(ps ds:Å){dl hl:Ê}(ms:Å)(h1:iY dl=Δ)(h2:iY hl=Δ):Jg (Hu o ps ds (Hg Δ dl hl) ms)=Δ:=by unfold Hu Hg;simp only[Jg,iY,p7,h1,h2,Bool.and_true,Bool.true_and]
theorem AH (n:Nat):∀l:Å,jP (HS (n+1)) (l.map .int) (l.map .int)=.ok Δ
 |[]=>rfl
 |i::l=>by show FW (HS (n+1) (.int i) (.int i)) (λx=>FW (jP (HS (n+1)) (l.map .int) (l.map .int)) λy=>.ok (x&&y))=_;rw[AH n l];show FW (.ok (i == i)) _=_;rw[beq_self_eq_true];rfl
def AJ {o o':Bool}(l:Å):HV .ne (.lst o (l.map .int)) (.lst o' (l.map .int))=.ok Θ:=by show FW (jP (HS (38+1)) (l.map .int) (l.map .int)) _=_;rw[AH];rfl
def eq_0 {o o':Bool}(l:Å):HV .eq (.lst o (l.map .int)) (.lst o' [])=.ok (decide (l=[])):=by
 cases l with
 |nil=>rfl
 |cons i l=>rw[x_ (by simp)];rfl
def xr (h:Int)(ps ms:Å){a b:Å}(e:∀x,x∈a↔x∈b):nM h ps ms a=nM h ps ms b:=by
 unfold nM;refine List.map_congr_left λi _=>?_;unfold nm;by_cases hx:((i:Int)+1)∈a
 ·rw[d_ hx,d_ ((e _).mp hx)]
 ·rw[b_ hx,b_ λz=>hx ((e _).mpr z)]
def xu (n:Nat)(h:Int)(ps ms ls:Å)(hp:Pa ps)(hm:ms.length=ps.length)(Iz:ps.length<=9)(A B C E F G:À) :
  ∃OT,forM (turn (bB T n) (.nm 10) Rp) (iW 0 ps.length) [A,B,C,Γ (.lst Θ (ps.map .int)),Γ (.lst Θ ((h::ms).map .int)),Γ (.lst Δ (ls.map .int)),E,F,G,Γ (.lst Δ ([h].map .int)),Ξ]=.ok (.nx [A,B,C,Γ (.lst Θ (ps.map .int)),Γ (.lst Θ ((h::ms).map .int)),Γ (.lst Δ (ls.map .int)),E,F,G,Γ (.lst Δ ((h::nM h ps ms ls).map .int)),OT]):=by
 obtain⟨Gv,K5,OT,rfl⟩:=j8 (its:=iW 0 ps.length) (τ:=[A,B,C,Γ (.lst Θ (ps.map .int)),Γ (.lst Θ ((h::ms).map .int)),Γ (.lst Δ (ls.map .int)),E,F,G,Γ (.lst Δ ([h].map .int)),Ξ]) (body:=turn (bB T n) (.nm 10) Rp)
  (λi τ=>∃OT,τ=[A,B,C,Γ (.lst Θ (ps.map .int)),Γ (.lst Θ ((h::ms).map .int)),Γ (.lst Δ (ls.map .int)),E,F,G,Γ (.lst Δ ((h::(List.range i).map (nm h ps ms ls)).map .int)),OT]) ⟨Ξ,rfl⟩ (by
   rintro i x τ Hr ⟨OT,rfl⟩;have hi:i < ps.length:=by have:=(v_.mp Hr).1;rw[jy]at this;omega
   unfold iW at Hr;rw[z_,List.getElem?_range (by omega)]at Hr;have Hr:D.int (0+(i:Nat))=x:=B_ Hr;subst Hr;obtain⟨p0,p1⟩:=hp i hi;have xp:=LU (o:=Θ) (xs:=ps) (i:=0+(i:Int)) (by omega) (by omega);rw[show(0+(i:Int)).toNat=i by omega]at xp;generalize hq:ps.getD i 0=p at *;refine⟨_,?_,Γ (.int (0+(i:Int))),rfl⟩;have lr:((h::(List.range i).map (nm h ps ms ls)).map D.int).length=i+1:=by rw[h_,List.length_cons,h_,U_]
   have lb:(h::ms).length=ms.length+1:=rfl;have ei:HV .JA (.int (0+(i:Int)+1)) (.lst Δ (ls.map .int))=.ok (decide (((i:Int)+1)∈ls)):=by rw[show(0+(i:Int)+1)=(i:Int)+1 by omega];exact tV _ ls
   have OS:(h::(List.range (i+1)).map (nm h ps ms ls)).map D.int=(h::(List.range i).map (nm h ps ms ls)).map D.int++[.int (nm h ps ms ls i)]:=by rw[List.range_succ,G_,c_,c_,G_];rfl
   rw[OS];have x1:=LU (o:=Θ) (xs:=h::ms) (i:=0+(i:Int)+1) (by omega) (by rw[lb];omega);rw[show(0+(i:Int)+1).toNat=((i:Int)+1).toNat by omega]at x1;have x2:=LU (o:=Θ) (xs:=h::ms) (i:=p) p0 (by rw[lb];omega);generalize(h::(List.range i).map (nm h ps ms ls)).map D.int=R,(h::ms).map D.int=M at *;clear OS;unfold nm;rw[hq];unfold mo;unfold Rp;generalize(0+(i:Int))=z,ps.map D.int=P at *;by_cases MA:(i:Int)+1∈ls
   ·rw[A_ MA]at ei;rw[d_ MA];simp![jm,ei,x1,lr]
   ·rw[x_ MA]at ei;rw[b_ MA]
    simp![jm,ei,xp,x2,lr])
 rw[jy]at K5;rw[show((ps.length:Int) - 0).toNat=ps.length by omega]at K5;exact⟨OT,K5⟩
def zF (n:Nat)(NS:Ê)(k:Int)(h:Int)(ps ms ls hd:Å)(hh:hd.length<=100)(hp:Pa ps)(hm:ms.length=ps.length)(Iz:ps.length<=9){c:Str}{fs:Â}{vs:Ê} :
  ix (bB T n) QA [Γ (.lst Θ NS),Γ (.int k),Γ (.obj Δ c fs vs),Γ (.lst Θ (ps.map .int)),Γ (.lst Θ ((h::ms).map .int)),Γ (.lst Δ (ls.map .int)),Γ (.lst Δ (hd.map .int)),Γ (.lst Δ (hd.map .int)),Γ .Gx,Ξ,Ξ]=.ok (.ro (.lst Δ ((h::nM h ps ms ls).map .int)) (.obj Δ c fs vs)):=by
 obtain⟨OT,ef⟩:=xu n h ps ms ls hp hm Iz (Γ (.lst Θ NS)) (Γ (.int k)) (Γ (.obj Δ c fs vs)) (Γ (.lst Δ (hd.map .int++[.int 0]))) (Γ (.lst Δ (hd.map .int))) (Γ .Gx);have e1:=AJ (o:=Δ) (o':=Δ) hd;have x0:=LU (o:=Θ) (xs:=h::ms) (i:=0) (by decide) (by rw[List.length_cons];omega);have x0':(h::ms).getD (0:Int).toNat 0=h:=rfl;rw[x0']at x0;have lh:(hd.map D.int).length=hd.length:=h_ _;have lP:(ps.map D.int).length=ps.length:=h_ _;have h1:([h].map D.int)=[.int h]:=rfl;rw[h1]at ef;generalize(h::ms).map D.int=M,(h::nM h ps ms ls).map D.int=NN,hd.map D.int=HH,ps.map D.int=P,ls.map D.int=LL at *;have vl:∀es,vars (.Ja es)=dI es:=λ_=>rfl;have es:HV .Om .Gx .Gx=.ok Θ:=rfl;unfold QA;simp_all![e1,es,x0,lh,lP,ef]
theorem xw {cl:Ä}:∀(a b:Æ) (τ:Ev),ix cl (a++b) τ=FW (ix cl a τ) (wC (ix cl b))
 |[],b,τ=>rfl
 |s::a,b,τ=>by
  rw[e_,gm,gm];cases h:Hy cl s τ with
  |ok f=>
   cases f with
   |nx Gv=>exact xw a b Gv
   |_=>rfl
  |_=>rfl
def oq {cl:Ä}{a b:Æ}{τ Gv:Ev}(h:ix cl a τ=.ok (.nx Gv)):ix cl (a++b) τ=ix cl b Gv:=by rw[xw,h];rfl
def ER (n:Nat)(ns:Å){k:Int}(k0:0<=k)(k1:k<=2900){m:Nat}(hm:m<=9){P:Ê}(lP:P.length=m)(O M:D):∃ls hd:Å,ix (bB T (n+2)) Rn [Γ (.lst Θ (ns.map .int)),Γ (.int k),Γ O,Γ (.lst Θ P),Γ M,Ξ,Ξ,Ξ,Ξ,Ξ,Ξ]=.ok (.nx [Γ (.lst Θ (ns.map .int)),Γ (.int k),Γ O,Γ (.lst Θ P),Γ M,Γ (.lst Δ (ls.map .int)),Γ (.lst Δ (hd.map .int)),Ξ,Ξ,Ξ,Ξ])/\(∀l∈ls,1<=l/\l<=(m:Int))/\hd.length<=18/\(∀x,x∈hd↔x∈ls):=by
 obtain⟨ls,e1,hb,hl⟩:=zw n ns (k:=k) (m:=m) k0 (by omega) hm;have d3:=jK (n+1) ns k 3 k0 (by omega) (by decide);have t0:=mZ ns k (m:=3) (by decide);generalize dr ns k 3=t at *;have d2:=jK (n+1) ns (k+10) 2 (by omega) (by omega) (by decide);generalize dr ns (k+10) 2=q at *;have c2:=sC ls t0;have la:(ls.take t.toNat).length<=9:=by rw[O_];omega
 have mem:∀x,x∈ls++ls.take t.toNat↔x∈ls:=λx=>by rw[t_];exact⟨λh=>h.elim id List.mem_of_mem_take,.inl⟩
 have len:(ls++ls.take t.toNat).length<=18:=by rw[u_];omega
 have lA:(ls.map D.int).length=ls.length:=h_ _;have lB:((ls.take t.toNat).map D.int).length=(ls.take t.toNat).length:=h_ _;have Pj:iy (ls.map D.int++(ls.take t.toNat).map D.int)=Δ:=by rw[<- G_];exact kR _
 have Vf:iy (ls.map D.int++(ls.take t.toNat).map D.int).reverse=Δ:=by rw[<- G_,<- List.map_reverse];exact kR _
 have nw:iS (.IT (.v 6))=Δ:=rfl;have eN:=ji ns;have ao:=QO ls;cases hq:(q == 0) with
 |false=>refine⟨ls,ls++ls.take t.toNat,?_,hb,len,mem⟩;rw[G_];generalize ns.map D.int=N at *;unfold Rn;simp_all![lP,e1,ao,d3,eN,ma,c2,lA,lB,Pj,d2,hq]
 |true=>refine⟨ls,(ls++ls.take t.toNat).reverse,?_,hb,by rw[List.length_reverse];exact len,λx=>by rw[List.mem_reverse];exact mem x⟩;rw[List.map_reverse,G_];generalize ns.map D.int=N at *;unfold Rn;simp_all![lP,e1,ao,d3,eN,ma,c2,lA,lB,Pj,Vf,nw,d2,hq]
def ES (n:Nat)(ns:Å)  (k0:0<=k)(k1:k<=2900)(ps ds:Å)(dl hl:Ê)(ms ls hd:Å)(hp:Pa ps)(hm:ms.length=ps.length)(Iz:ps.length<=9)(n1:iY dl=Δ)(n2:iY hl=Δ)(hb:∀l∈ls,1<=l/\l<=(ps.length:Int))(hh:hd.length<=18)(he:∀x,x∈hd↔x∈ls)  (W':iY M=Δ) :
  ix (bB T (n+2)) Ro [Γ (.lst Θ (ns.map .int)),Γ (.int k),Γ (Hu Δ ps ds (Hg Δ dl hl) ms),Γ (.lst Θ (ps.map .int)),Γ (.lst Θ M),Γ (.lst Δ (ls.map .int)),Γ (.lst Δ (hd.map .int)),Ξ,Ξ,Ξ,Ξ]=.ok (.nx [Γ (.lst Θ (ns.map .int)),Γ (.int k),Γ (Hu Δ ps ds (Hg Δ dl hl) (nM dl.length ps ms ls)),Γ (.lst Θ (ps.map .int)),Γ (.lst Θ M),Γ (.lst Δ (ls.map .int)),Γ (.lst Δ (hd.map .int)),Γ (.lst Δ (hd.map .int)),Γ .Gx,Ξ,Ξ]):=by
 have d3:=jK (n+1) ns (k+11) 3 (by omega) (by omega) (by decide);generalize dr ns (k+11) 3=q at *;have e0:HS 40 (.lst Δ (ls.map .int)) (.lst Δ [])=.ok (decide (ls=[])):=eq_0 (o:=Δ) (o':=Δ) ls;have eN:=ji ns;have nN:=p7 ns;have nP:=p7 ps;have nL:=p7 ls;have nH:=p7 hd;have n0:iY []=Δ:=by rw[iY]
 have RE:=QO hd;have RF:=kR hd;have la:=La.MN hd;have t1:=zx n ps ds dl hl ms hd hp hm (by omega) (λl h=>hb l ((he l).mp h)) la;rw[xr (dl.length:Int) ps ms he]at t1;have t2:=xl n ps ds dl hl ms hp hm (by omega);have ex:=la.er;have nt:=AG Δ ps ds (nM dl.length ps ms ls) n1 n2;have lx:kz (.exc hd)=Θ:=rfl;generalize Hg Δ dl hl=BK at *;unfold Hu at *;generalize ps.map D.int=P,ds.map D.int=DD,ms.map D.int=MS at *;generalize hN:(nM dl.length ps ms ls).map D.int=NM at *;unfold Ro;by_cases RC:ls=[]
 ·subst RC;rw[hN]at t2;rw[A_ rfl]at e0;cases hq:(q == 0) with
  |true=>generalize ns.map D.int=N,hd.map D.int=HD at *;simp![e0,d3,eN,hq,RE,RF,zq,t2]
  |false=>
   cases Xa:(q == 1) with
   |true=>generalize ns.map D.int=N,hd.map D.int=HD at *;simp![e0,d3,eN,hq,Xa,RE,RF,zq,t2]
   |false=>generalize ns.map D.int=N at *;simp![e0,d3,eN,hq,Xa,RE,RF,zq,t1,ex,bD,bE,bF,bG,CK,CL,CM,CN,p5,sH,nN,nP,nL,nH,n0,W',nt]
 ·rw[x_ RC]at e0;generalize ns.map D.int=N,ls.map D.int=LL at *;simp![e0,eN,RE,RF,zq,t1,ex,bD,bE,bF,bG,CK,CL,CM,CN,p5,sH,nN,nP,nL,nH,n0,W',nt]
def uF (n:Nat)(ns:Å){k:Int}(k0:0<=k)(k1:k<=2900)(ps ds:Å)(dl hl:Ê)(ms:Å)(hp:Pa ps)(hm:ms.length=ps.length)(Iz:ps.length<=9)(n1:iY dl=Δ)(n2:iY hl=Δ) :
  ∃ls,bB T (n+3) 59 [.lst Θ (ns.map .int),.int k,Hu Δ ps ds (Hg Δ dl hl) ms,.lst Θ (ps.map .int),.lst Θ (((dl.length:Int)::ms).map .int)]=.ok (.tup [.lst Δ (((dl.length:Int)::nM dl.length ps ms ls).map .int),Hu Δ ps ds (Hg Δ dl hl) (nM dl.length ps ms ls)]):=by
 obtain⟨ls,hd,e1,hb,hh,he⟩:=ER n ns k0 k1 (m:=ps.length) Iz (P:=ps.map D.int) (h_ _) (Hu Δ ps ds (Hg Δ dl hl) ms) (.lst Θ (((dl.length:Int)::ms).map .int));have e2:=ES n ns k0 k1 ps ds dl hl ms ls hd hp hm Iz n1 n2 hb hh he (M:=((dl.length:Int)::ms).map .int) (p7 _);have e3:=zF (n+2) (ns.map D.int) k dl.length ps ms ls hd (by omega) hp hm Iz (c:=Ο "Tree") (fs:=["parents","depths","book","moments"]) (vs:=[.lst Θ (ps.map .int),.lst Θ (ds.map .int),Hg Δ dl hl,.lst Θ ((nM dl.length ps ms ls).map .int)]);refine⟨ls,?_⟩;rw[ON (show T 59=Γ NI from rfl) (show NI.io=Δ from rfl) (show NI.G.io.getD 0=2 from rfl) (show NI.np=5 from rfl) (show NI.G.N.length=11 from rfl) (show NI.body=UP from rfl) rfl];unfold UP;have N9:=oq (b:=Ro++QA) e1;have HX:=oq (b:=QA) e2;have r:([.lst Θ (ns.map D.int),.int k,Hu Δ ps ds (Hg Δ dl hl) ms,.lst Θ (ps.map D.int),.lst Θ (((dl.length:Int)::ms).map D.int)]:Ê).map Γ++Ρ (11 - 5) Ξ=[Γ (.lst Θ (ns.map .int)),Γ (.int k),Γ (Hu Δ ps ds (Hg Δ dl hl) ms),Γ (.lst Θ (ps.map .int)),Γ (.lst Θ (((dl.length:Int)::ms).map .int)),Ξ,Ξ,Ξ,Ξ,Ξ,Ξ]:=rfl;rw[r,N9,HX];unfold Hu at *;rw[e3];rfl
def CO (x s f:Str):Jg (putD x s f)=Δ:=by unfold putD;simp only[Jg,iY,Bool.and_true]
def FT (w x:Str):Jg (.tup [.str w,.str x])=Δ:=by simp only[Jg,iY,Bool.and_true]
def xx:Jg (hD [])=Δ:=by unfold hD;simp only[Jg,iY,Bool.and_true]
def ET (x s f:Str)(b:Bool):Jg (hD [wD x s f b])=Δ:=by unfold hD wD eD;simp only[Jg,iY,Bool.and_true]
def xy {d:D}(h:Jg d=Δ):iY [d]=Δ:=by rw[iY,h,iY];rfl
def EU (n:Nat):JI (n+1) 0=Γ 0:=by unfold JI;rw[d_ (Int.le_refl 0),d_ (by omega)];rfl
abbrev St (ns ps:Å)(x f:Str)(A B C:À)(dl hl:Ê)(ms:Å)(K6 Ik:À):Ev:=
 [Γ (.lst Θ (ns.map .int)),Γ (.lst Θ (ps.map .int)),A,Γ (Hu Δ ps (HF ps) (Hg Δ dl hl) ms),B,C,Γ (.str x),Γ (.str f),Γ (.lst Δ (((dl.length:Int)::ms).map .int)),Γ (.lst Δ ((HF ps).map .int)),Γ (.int dl.length),K6,Ik]
abbrev OU:Æ:=[.asg (.nm 12) (.tup [.idx (.lst [.c (.str "stop"),.c (.str "go")]) (.call 49 [.v 0,.bin .add (.c (.int 450)) (.v 11),.c (.int 2)]),.v 6]),.Hl (.cmp .eq (.v 10) (.c (.int 0))) [.asg (.nm 12) (.tup [.c (.str "put"),.v 6,.call 52 [.v 0,.c (.int 140)],.v 7,.lst []])] [],.asg (.nm 10) (.bin .add (.v 10) (.c (.int 1))),.IE 8 (.c (.int 0)) (.v 10),.Oo 3 66 "change" "Tree" [.v 12] 54 (.v 10) [.ret (.c (.bl Θ))]]
abbrev QQ:Æ:=[.Im 8 59 [.v 0,.bin .add (.c (.int 500)) (.bin .mul (.c (.int 20)) (.v 11))] 3 [.v 1,.v 8]]
abbrev Pl:IS:=(.Hl (.Kf (.cmp .eq (.v 10) (.c (.int 0))) (.cmp .eq (.call 49 [.v 0,.bin .add (.c (.int 400)) (.v 11),.c (.int 2)]) (.c (.int 0)))) OU QQ)
abbrev Pm:Æ:=[.Hl (.Kf (.cmp .MK (.v 8) (.c .Gx)) (.HI (.call 58 [.v 0,.bin .add (.c (.int 360)) (.v 11),.v 3,.v 1,.v 8]))) [.ret (.c (.bl Θ))] []]
def rj (ns:Å){j:Int}(j0:0<=j)(j1:j<=100):∃(q:Int) (w:Str) (b':Bool),bB T 16 49 [.lst Θ (ns.map .int),.int (450+j),.int 2]=.ok (.int q)/\Wd w b'/\∀o,lM (.lst o [.str "stop",.str "go"]) (.int q)=.ok (.str w):=by
 have d:=jK 15 ns (450+j) 2 (by omega) (by omega) (by decide);have b0:=mZ ns (450+j) (m:=2) (by decide);have b1:=oE ns (450+j) (m:=2) (by decide);generalize dr ns (450+j) 2=q at *;rcases(show q=0∨q=1 by omega) with rfl|rfl
 ·exact⟨0,"stop",Δ,d,y7,λ_=>rfl⟩
 ·exact⟨1,"go",Θ,d,Ez,λ_=>rfl⟩
def CP (ns ps:Å){x f:Str}{cs:Ã}(hc:Sl cs)(e4:bB T 16 52 [.lst Θ (ns.map .int),.int 140]=.ok (.str (Hd cs)))(A B C:À)(ms:Å){j:Int}(Ik:À)(j0:0<=j)(j1:j<=100) :
  ∃QR,ix (bB T 16) OU (St ns ps x f A B C [] [hD []] ms (Γ (.int j)) Ik)=.ok (.nx (St ns ps x f A B C [putD x (Hd cs) f] [hD [],hD [wD x (Hd cs) f Θ]] ms (Γ (.int j)) QR)):=by
 obtain⟨q,w,b',d,hw,hx⟩:=rj ns j0 j1;have e:=wW 9 hc x f;have e2:=tU 15 ps (HF ps) _ _ ms _ _ [] [hD []] _ _ rfl rfl (by unfold putD;simp![G0]) e;have ea:=nj 14 1;refine⟨Γ (putD x (Hd cs) f),?_⟩;unfold St;have eI:=ji ns;have l1:([putD x (Hd cs) f]:Ê).length=1:=rfl;rw[l1];unfold putD at *;have c0:((0:Nat):Int)=0:=rfl;have c1:((1:Nat):Int)=1:=rfl;generalize ns.map D.int=NS,Hg Δ [] [hD []]=BK,Hg Δ [D.tup [.str "put",.str x,.str (Hd cs),.str f,.lst Θ []]] [hD [],hD [wD x (Hd cs) f Θ]]=BK',ms.map D.int=MS at *;generalize MC:(HF ps).map D.int=DD at *;unfold Hu at *;rw[MC]at e2;generalize ps.map D.int=PP at *;unfold OU;have z1:(0:Int)+1=1:=rfl;rw[MC];simp![d,hx,e4,e2,ea,EL,eI,c0,c1,z1,EU,List.set_cons_zero]
def CQ (ns ps:Å){x f:Str}{cs:Ã}(hc:Sl cs)(A B C:À)(dl hl:Ê)(h1:1<=dl.length)(l1:dl.length < 1000)(l2:hl.length < 1000)(b:Bool)(ms:Å){j:Int}(Ik:À)(j0:0<=j)(j1:j<=100) :
  ∃(w:Str) (b':Bool) (QR:À),ix (bB T 16) OU (St ns ps x f A B C dl (hl++[hD [wD x (Hd cs) f b]]) ms (Γ (.int j)) Ik)=.ok (.nx (St ns ps x f A B C (dl++[.tup [.str w,.str x]]) (hl++[hD [wD x (Hd cs) f b]]++[hD [wD x (Hd cs) f b']]) ms (Γ (.int j)) QR)):=by
 obtain⟨q,w,b',d,hw,hx⟩:=rj ns j0 j1;have e:=wX 9 hc (x:=x) (f:=f) (b:=b) hw dl hl l1 l2;have e2:=tU 15 ps (HF ps) _ _ ms _ _ dl (hl++[hD [wD x (Hd cs) f b]]) _ _ rfl rfl (by simp![G0]) e;have ea:=nj 14 ((dl.length:Int)+1);refine⟨w,b',Γ (.tup [.str w,.str x]),?_⟩;unfold St;have eI:=ji ns;have l5:((dl++[D.tup [.str w,.str x]]).length:Int)=(dl.length:Int)+1:=by rw[u_];rfl
 have c5:((dl.length+1:Nat):Int)=(dl.length:Int)+1:=rfl;have hz:((dl.length:Int) == 0)=Θ:=beq_eq_false_iff_ne.mpr (by omega);rw[l5];rw[c5]at e2;generalize(dl.length:Int)=h,dl++[D.tup [.str w,.str x]]=DL,hl++[hD [wD x (Hd cs) f b]]++[hD [wD x (Hd cs) f b']]=HL' at *;generalize hl++[hD [wD x (Hd cs) f b]]=HL,ns.map D.int=NS at *;generalize Hg Δ dl HL=BK,Hg Δ DL HL'=BK' at *;generalize MC:(HF ps).map D.int=DD at *;unfold Hu at *;rw[MC]at e2;rw[MC];generalize ps.map D.int=PP,ms.map D.int=MS at *;unfold OU;simp![d,hx,hz,e2,ea,EL,eI,EU,List.set_cons_zero]
def zG (ns ps:Å)(hp:Pa ps)(Iz:ps.length<=9){x f:Str}(A B C:À)(dl hl:Ê)(n1:iY dl=Δ)(n2:iY hl=Δ)(ms:Å)(hm:ms.length=ps.length){j:Int}(Ik:À)(j0:0<=j)(j1:j<=100) :
  ∃ls,ix (bB T 16) QQ (St ns ps x f A B C dl hl ms (Γ (.int j)) Ik)=.ok (.nx (St ns ps x f A B C dl hl (nM dl.length ps ms ls) (Γ (.int j)) Ik)):=by
 obtain⟨ls,e⟩:=uF 13 ns (k:=500+20*j) (by omega) (by omega) ps (HF ps) dl hl ms hp hm Iz n1 n2;refine⟨ls,?_⟩;have eN:=ji ns;have eP:=ji ps;have eM:=ji ((dl.length:Int)::ms);unfold St;generalize((dl.length:Int)::ms).map D.int=MM,((dl.length:Int)::nM dl.length ps ms ls).map D.int=MM',ns.map D.int=NS,Hg Δ dl hl=BK at *;generalize MC:(HF ps).map D.int=DD at *;unfold Hu at *;rw[MC]at e;rw[MC];generalize ps.map D.int=PP,ms.map D.int=MS at *;unfold QQ;simp_all![e,eN,eP,eM,bD]
def zH (ns ps:Å)(Iz:ps.length<=9){x f:Str}(A B C:À)(dl hl:Ê)(ms:Å)(hm:ms.length=ps.length){j:Int}(Ik:À)(j0:0<=j)(j1:j<=100) :
  ix (bB T 16) Pm (St ns ps x f A B C dl hl ms (Γ (.int j)) Ik)=.ok (.nx (St ns ps x f A B C dl hl ms (Γ (.int j)) Ik)):=by
 have e:=om 12 ns (k:=360+j) (by omega) (by omega) (EO (ds:=HF ps) (dl:=dl) (hl:=hl) hm) hm Iz (o:=Θ) (o':=Θ);have eT:=zC ps (HF ps) dl hl ms;have eN:=ji ns;have eP:=ji ps;have eM:=ji ((dl.length:Int)::ms);unfold St Pm;generalize Hu Δ ps (HF ps) (Hg Δ dl hl) ms=TR,MB ps (HF ps) dl hl ms=RT,((dl.length:Int)::ms).map D.int=MM,ns.map D.int=NS,ps.map D.int=PP at *;simp![eT,eP,eN,eM,e]
def Gd (ns ps:Å)(x f:Str)(cs:Ã)(A B C:À)(i:Nat)(τ:Ev):Prop:=
 ∃(dl hl:Ê) (ms:Å) (K6 Ik:À),τ=St ns ps x f A B C dl hl ms K6 Ik/\ms.length=ps.length/\iY dl=Δ/\iY hl=Δ/\dl.length<=i/\hl.length<=i+1/\((dl=[]/\hl=[hD []])∨(1<=dl.length/\∃Ld b,hl=Ld++[hD [wD x (Hd cs) f b]]))
def EV {ns ps:Å}{x f:Str}{A B C:À}{dl hl:Ê}{ms:Å}{K6 Ik y:À}:(St ns ps x f A B C dl hl ms K6 Ik).set 11 y=St ns ps x f A B C dl hl ms y Ik:=rfl
def CS {a:Ê}{d:D}(h1:iY a=Δ)(h2:Jg d=Δ):iY (a++[d])=Δ:=by rw[xq,h1,xy h2];rfl
def FU (ns ps:Å){x f:Str}{A B C:À}{dl hl:Ê}{ms:Å}{j:Int}{Ik:À}(j0:0<=j)(j1:j<=100):Hy (bB T 16) Pl (St ns ps x f A B C dl hl ms (Γ (.int j)) Ik)=if(((dl.length:Int) == 0)||(dr ns (400+j) 2 == 0))=Δ then ix (bB T 16) OU (St ns ps x f A B C dl hl ms (Γ (.int j)) Ik) else ix (bB T 16) QQ (St ns ps x f A B C dl hl ms (Γ (.int j)) Ik):=by
 have d:=jK 15 ns (400+j) 2 (by omega) (by omega) (by decide);generalize dr ns (400+j) 2=q at *;have eN:=ji ns;unfold Pl;unfold St;generalize OU=LD;generalize QQ=LT;generalize(dl.length:Int)=h;generalize ns.map D.int=NS at *;cases hh:(h == 0)
 ·cases hq:(q == 0)
  ·simp_all![d,hh,hq,eN]
  ·simp_all![d,hh,hq,eN]
 ·simp_all![d,hh,eN]
def uG (ns ps:Å)(hp:Pa ps)(Iz:ps.length<=9){x f:Str}{cs:Ã}(hc:Sl cs)(e4:bB T 16 52 [.lst Θ (ns.map .int),.int 140]=.ok (.str (Hd cs)))(A B C:À)(i:Nat)(hi:i < 40)(τ:Ev)(h:Gd ns ps x f cs A B C i τ):∃Gv,turn (bB T 16) (.nm 11) (Pl::Pm) (.int (0+(i:Nat))) τ=.ok (.nx Gv)/\Gd ns ps x f cs A B C (i+1) Gv:=by
 obtain⟨dl,hl,ms,K6,Ik,rfl,hm,n1,n2,l1,l2,L5⟩:=h;have j0:(0:Int)<=0+(i:Int):=by omega
 have j1:(0:Int)+(i:Int)<=100:=by omega
 rw[jm,gp,Nj,EV,gm,FU ns ps j0 j1];have tl:=λ(dl hl:Ê) (ms:Å) (hm:ms.length=ps.length) (Ik:À)=>zH ns ps Iz (x:=x) (f:=f) A B C dl hl ms hm Ik j0 j1;rcases L5 with⟨rfl,rfl⟩|⟨d1,Ld,b,rfl⟩
 ·obtain⟨QR,e⟩:=CP ns ps hc (x:=x) (f:=f) e4 A B C ms Ik j0 j1;have hz:((([]:Ê).length:Int) == 0||dr ns (400+(0+(i:Int))) 2 == 0)=Δ:=by rw[show((([]:Ê).length:Int) == 0)=Δ from rfl,Bool.true_or]
  rw[d_ hz,e,Nj,dO,tl _ _ ms hm];exact⟨_,rfl,[putD x (Hd cs) f],[hD [],hD [wD x (Hd cs) f Θ]],ms,_,_,rfl,hm,xy (CO _ _ _),CS (a:=[hD []]) (xy xx) (ET _ _ _ _),by show 1<=_;omega,by show 2<=_;omega,.inr ⟨n_ _,[hD []],Θ,rfl⟩⟩
 ·have hz:((dl.length:Int) == 0)=Θ:=beq_eq_false_iff_ne.mpr (by omega);have Lx:Ld.length < 1000:=by rw[u_]at l2;omega
  rw[hz,Bool.false_or];cases hq:(dr ns (400+(0+(i:Int))) 2 == 0) with
  |true=>obtain⟨w,b',QR,e⟩:=CQ ns ps hc (x:=x) (f:=f) A B C dl Ld d1 (by omega) Lx b ms Ik j0 j1;rw[d_ rfl,e,Nj,dO,tl _ _ ms hm];exact⟨_,rfl,_,_,ms,_,_,rfl,hm,CS n1 (FT _ _),CS n2 (ET _ _ _ _),by rw[u_];show dl.length+1<=_;omega,by rw[u_];show _+1<=_;omega,.inr ⟨by rw[u_];omega,_,b',rfl⟩⟩
  |false=>obtain⟨ls,e⟩:=zG ns ps hp Iz (x:=x) (f:=f) A B C dl (Ld++[hD [wD x (Hd cs) f b]]) n1 n2 ms hm Ik j0 j1;rw[b_ (by simp),e,Nj,dO,tl _ _ _ (xb _ _ _ _)];exact⟨_,rfl,dl,_,_,_,_,rfl,xb _ _ _ _,n1,n2,by omega,by omega,.inr ⟨d1,Ld,b,rfl⟩⟩
abbrev w1:Æ:=[.asg (.nm 1) (.call 55 [.v 0]),.asg (.nm 2) (.bi .list [.v 1]),.Nx 2 (.asg (.nm 3) (.Jv 71 64 "Tree" [.v 2])),.Hl (.cmp .ne (.v 2) (.v 1)) [.ret (.c (.bl Θ))] []]
abbrev wZ:Æ:=[.IE 2 (.v 4) (.c (.int 0))]
abbrev w2:Æ:=[.HR (.nm 4) (.Hj (.bi .len [.v 1])) wZ]
abbrev w3:Æ:=[.asg (.nm 5) (.Jv 71 64 "Tree" [.bi .list [.v 1]]),.asg (.tp [.nm 6,.nm 7]) (.call 51 [.v 0,.c (.int 100),.c (.int 2)]),.asg (.nm 8) (.comp {N:=["_law_k"],kd:=[.local],gl:=[],df:=Θ} [] (.nm 0) (.Hj (.bin .add (.bi .len [.v 1]) (.c (.int 1)))) [] (.c (.int 0))),.asg (.nm 9) (.comp {N:=["_law_parents_here","_law_machine"],kd:=[.cell,.local],gl:=[0,57],df:=Θ} [1] (.nm 1) (.Hj (.bin .add (.bi .len [.v 1]) (.c (.int 1)))) [] (.bi .len [.call 57 [.v 0,.v 1]]))]
abbrev w4:Æ:=[.Hl (.HI (.call 58 [.v 0,.c (.int 320),.v 3,.v 1,.v 8])) [.ret (.c (.bl Θ))] [],.asg (.nm 10) (.c (.int 0))]
abbrev w5:Æ:=[.HR (.nm 11) (.Hj (.call 50 [.v 0,.c (.int 40)])) (Pl::Pm)]
abbrev w6:Æ:=[.Hl (.HI (.call 58 [.v 0,.c (.int 321),.v 5,.v 1,.bin .mul (.lst [.c (.int 0)]) (.bi .len [.v 9])])) [.ret (.c (.bl Θ))] [],.ret (.call 54 [.comp {N:=["_law_tree","_law_machine"],kd:=[.cell,.local],gl:=[],df:=Θ} [3] (.nm 1) (.Hj (.bi .len [.v 9])) [] (.HM 68 "depth_of" "Tree" (.v 0) [.v 1]),.v 9])]
def xA:NJ.body=w1++(w2++(w3++(w4++(w5++w6)))):=rfl
abbrev Kc (ps:Å):D:=Hu Δ ps (HF ps) (Hg Δ [] [hD []]) (Ρ ps.length 0)
def CT (ps:Å):Jg (Kc ps)=Δ:=AG Δ ps (HF ps) (Ρ ps.length 0) (by rw[iY]) (xy xx)
def EW (ns ps:Å)(e1:bB T 16 55 [.lst Θ (ns.map .int)]=.ok (.lst Δ (ps.map .int)))(hp:Pa ps)(Iz:ps.length<=9) :
  ix (bB T 16) w1 [Γ (.lst Θ (ns.map .int)),Ξ,Ξ,Ξ,Ξ,Ξ,Ξ,Ξ,Ξ,Ξ,Ξ,Ξ,Ξ]=.ok (.nx [Γ (.lst Θ (ns.map .int)),Γ (.lst Δ (ps.map .int)),Γ (.lst Δ (ps.map .int)),Γ (Kc ps),Ξ,Ξ,Ξ,Ξ,Ξ,Ξ,Ξ,Ξ,Ξ]):=by
 have e2:=rh 13 ps hp (by omega) (La.MN ps);have ex:=(La.MN ps).er;have nt:=CT ps;have nN:=p7 ns;have nP:=p7 ps;have n0:iY []=Δ:=by rw[iY]
 have eN:=ji ns;have ao:=QO ps;have lf:=kR ps;have en:HV .ne (.lst Δ (ps.map D.int)) (.lst Δ (ps.map D.int))=.ok Θ:=AJ ps;unfold Kc at *;generalize ns.map D.int=NS,Hg Δ [] [hD []]=BK,(Ρ ps.length (0:Int)).map D.int=MS,(HF ps).map D.int=DD at *;unfold Hu at *;unfold w1;simp_all![e1,e2,ex,ao,lf,en,eN,bE,bF,bG,CK,CL,CM,CN,p5,sH,nN,nP,n0,nt]
def EY {n:Nat}{i:Nat}(h:i < n):JI n (0+(i:Nat))=Γ i:=by unfold JI;rw[d_ (by omega),d_ (by omega),show((0:Int)+(i:Nat)).toNat=i by omega]
def EZ (NS:Ê)(ps:Å)(Iz:ps.length<=9)(O:D):∃(zs:Å) (y4:À),ix (bB T 16) w2 [Γ (.lst Θ NS),Γ (.lst Δ (ps.map .int)),Γ (.lst Δ (ps.map .int)),Γ O,Ξ,Ξ,Ξ,Ξ,Ξ,Ξ,Ξ,Ξ,Ξ]=.ok (.nx [Γ (.lst Θ NS),Γ (.lst Δ (ps.map .int)),Γ (.lst Δ (zs.map .int)),Γ O,y4,Ξ,Ξ,Ξ,Ξ,Ξ,Ξ,Ξ,Ξ]):=by
 obtain⟨Gv,ea,zs,y4,hz,rfl⟩:=j8 (its:=iW 0 ps.length) (τ:=[Γ (.lst Θ NS),Γ (.lst Δ (ps.map .int)),Γ (.lst Δ (ps.map .int)),Γ O,Ξ,Ξ,Ξ,Ξ,Ξ,Ξ,Ξ,Ξ,Ξ]) (body:=turn (bB T 16) (.nm 4) wZ)
  (λ_ τ=>∃(zs:Å) (y4:À),zs.length=ps.length/\τ=[Γ (.lst Θ NS),Γ (.lst Δ (ps.map .int)),Γ (.lst Δ (zs.map .int)),Γ O,y4,Ξ,Ξ,Ξ,Ξ,Ξ,Ξ,Ξ,Ξ]) ⟨ps,Ξ,rfl,rfl⟩ (by
   rintro i x τ Hr ⟨zs,y4,hz,rfl⟩;have hi:i < ps.length:=by have:=(v_.mp Hr).1;rw[jy]at this;omega
   unfold iW at Hr;rw[z_,List.getElem?_range (by omega)]at Hr;have Hr:D.int (0+(i:Nat))=x:=B_ Hr;subst Hr;refine⟨_,?_,zs.set i 0,Γ (.int (0+(i:Nat))),by rw[List.length_set];exact hz,rfl⟩;have e1:(zs.set i 0).map D.int=(zs.map D.int).set i (.int 0):=by rw[List.map_set]
   have lz:(zs.map D.int).length=ps.length:=by rw[h_,hz]
   have ii:=EY hi;rw[e1];generalize zs.map D.int=ZZ,ps.map D.int=PP at *;unfold wZ
   simp_all![jm,lz,ii])
 refine⟨zs,y4,?_⟩;have lP:(ps.map D.int).length=ps.length:=h_ _;generalize zs.map D.int=ZZ,ps.map D.int=PP at *;unfold w2;generalize wZ=WZ at *;simp_all![lP,ea]
def zz (m:Nat):(zs ((m:Int)+1)).map (λ_=>(0:Int))=0::Ρ m 0:=by rw[List.map_const',jY,show((m:Int)+1).toNat=m+1 by omega];rfl
def p8 (ps:Å):(HF ps).length=ps.length+1:=by unfold HF;rw[h_,jY];omega
def E0 (ns ps:Å)(hp:Pa ps)(Iz:ps.length<=9){x f:Str}(e3:bB T 16 51 [.lst Θ (ns.map .int),.int 100,.int 2]=.ok (.lst Δ [.str x,.str f]))(A B:À) :
  ix (bB T 16) w3 [Γ (.lst Θ (ns.map .int)),Γ (.lst Δ (ps.map .int)),A,Γ (Kc ps),B,Ξ,Ξ,Ξ,Ξ,Ξ,Ξ,Ξ,Ξ]=.ok (.nx [Γ (.lst Θ (ns.map .int)),Γ (.lst Θ (ps.map .int)),A,Γ (Kc ps),B,Γ (Kc ps),Γ (.str x),Γ (.str f),Γ (.lst Δ (((0:Int)::Ρ ps.length 0).map .int)),Γ (.lst Δ ((HF ps).map .int)),Ξ,Ξ,Ξ]):=by
 have e2:=rh 13 ps hp (by omega) (La.Gy ps);have f1:iX (jr (bB T 16) (.nm 0) [] (.c (.int 0)) [Ξ]) ((zs ((ps.length:Int)+1)).map .int)=.ok (((zs ((ps.length:Int)+1)).map λ_=>(0:Int)).map .int):=by refine jd .int (λ_=>(0:Int)) .int _ λj hj=>?_;simp![G0]
 rw[zz]at f1;have f2:iX (jr (bB T 16) (.nm 1) [] (.bi .len [.call 57 [.v 0,.v 1]]) [Γ (.lst Θ (ps.map .int)),Ξ]) ((zs ((ps.length:Int)+1)).map .int)=.ok (((zs ((ps.length:Int)+1)).map (dep ps)).map .int):=by refine jd .int (dep ps) .int _ λj hj=>?_;have:=kH hj;have ew:=CI 15 hp (k:=j) (by omega) (by omega) Iz;have eP:=ji ps;have lw:((Wy ps j).map D.int).length=(Wy ps j).length:=h_ _;unfold dep;generalize hW:(Wy ps j).length=L,(Wy ps j).map D.int=WW,ps.map D.int=PP at *;simp_all![ew,eP,lw]
 have hd:(zs ((ps.length:Int)+1)).map (dep ps)=HF ps:=rfl;rw[hd]at f2;have rz:=lL ((ps.length:Int)+1);have lz:((zs ((ps.length:Int)+1)).map D.int).length=ps.length+1:=by rw[h_,jY];omega
 have lP:(ps.map D.int).length=ps.length:=h_ _;have eP:=ji ps;have eN:=ji ns;have lfP:=kR ps;have lf0:=kR ((0:Int)::Ρ ps.length 0);have lfD:=kR (HF ps);unfold Kc;generalize Hg Δ [] [hD []]=BK,((0:Int)::Ρ ps.length 0).map D.int=Z1,(Ρ ps.length (0:Int)).map D.int=MS at *;generalize MC:(HF ps).map D.int=DD,(zs ((ps.length:Int)+1)).map D.int=ZS,ns.map D.int=NS at *;unfold Hu at *;rw[MC]at e2;rw[MC];generalize(Ρ ps.length (0:Int)).map D.int=MS,ps.map D.int=PP at *;unfold w3;simp_all![e2,e3,f1,f2,rz,lz,lP,eP,eN,lfP,lf0,lfD]
def xB (ps:Å):er (Kc ps)=MB ps (HF ps) [] [hD []] (Ρ ps.length 0):=zC ps (HF ps) [] [hD []] _
def E1 (ps:Å):Ob (MB ps (HF ps) [] [hD []] (Ρ ps.length 0)) ps 0 (Ρ ps.length 0):=EO (ps:=ps) (ds:=HF ps) (dl:=[]) (hl:=[hD []]) List.length_replicate
def E2 (ns ps:Å)(Iz:ps.length<=9){x f:Str}(A B:À) :
  ix (bB T 16) w4 [Γ (.lst Θ (ns.map .int)),Γ (.lst Θ (ps.map .int)),A,Γ (Kc ps),B,Γ (Kc ps),Γ (.str x),Γ (.str f),Γ (.lst Δ (((0:Int)::Ρ ps.length 0).map .int)),Γ (.lst Δ ((HF ps).map .int)),Ξ,Ξ,Ξ]=.ok (.nx (St ns ps x f A B (Γ (Kc ps)) [] [hD []] (Ρ ps.length 0) Ξ Ξ)):=by
 have e:=om 12 ns (k:=320) (by decide) (by decide) (E1 ps) List.length_replicate Iz (o:=Θ) (o':=Θ);have eT:=xB ps;have eN:=ji ns;have eP:=ji ps;have eM:=ji ((0:Int)::Ρ ps.length 0);have hs:St ns ps x f A B (Γ (Kc ps)) [] [hD []] (Ρ ps.length 0) Ξ Ξ=[Γ (.lst Θ (ns.map .int)),Γ (.lst Θ (ps.map .int)),A,Γ (Kc ps),B,Γ (Kc ps),Γ (.str x),Γ (.str f),Γ (.lst Δ (((0:Int)::Ρ ps.length 0).map .int)),Γ (.lst Δ ((HF ps).map .int)),Γ (.int 0),Ξ,Ξ]:=rfl;rw[hs];clear hs;generalize Kc ps=TR,MB ps (HF ps) [] [hD []] (Ρ ps.length 0)=RT,((0:Int)::Ρ ps.length 0).map D.int=MM,ns.map D.int=NS,ps.map D.int=PP at *;unfold w4;simp![eT,eP,eN,eM,e]
def E3 (ns ps:Å)(hp:Pa ps)(Iz:ps.length<=9){x f:Str}{cs:Ã}(hc:Sl cs)(e4:bB T 16 52 [.lst Θ (ns.map .int),.int 140]=.ok (.str (Hd cs)))(A B C:À) :
  ∃(dl hl:Ê) (ms:Å) (K6 Ik:À),ms.length=ps.length/\ix (bB T 16) w5 (St ns ps x f A B C [] [hD []] (Ρ ps.length 0) Ξ Ξ)=.ok (.nx (St ns ps x f A B C dl hl ms K6 Ik)):=by
 obtain⟨m,e7,m0,m40⟩:=zv 14 ns;obtain⟨Gv,ea,dl,hl,ms,K6,Ik,rfl,hm,_⟩:=j8 (its:=iW 0 m) (τ:=St ns ps x f A B C [] [hD []] (Ρ ps.length 0) Ξ Ξ) (body:=turn (bB T 16) (.nm 11) (Pl::Pm)) (Gd ns ps x f cs A B C)
  ⟨[],[hD []],Ρ ps.length 0,Ξ,Ξ,rfl,List.length_replicate,by rw[iY],xy xx,n_ _,n_ _,.inl ⟨rfl,rfl⟩⟩ (by
   intro i y τ hx hg;have hi:i < m.toNat:=by have:=(v_.mp hx).1;rw[jy]at this;omega
   unfold iW at hx;rw[z_,List.getElem?_range (by omega)]at hx;have Hr:D.int (0+(i:Nat))=y:=B_ hx;subst Hr
   exact uG ns ps hp Iz hc e4 A B C i (by omega) τ hg)
 refine⟨dl,hl,ms,K6,Ik,hm,?_⟩;unfold w5;generalize(Pl::Pm)=LB,St ns ps x f A B C dl hl ms K6 Ik=S' at *;unfold St at *;generalize((([]:Ê).length:Int)::Ρ ps.length 0).map D.int=MM at *;have eN:=ji ns;generalize ns.map D.int=NS,((([]:Ê).length:Nat):Int)=L0 at *;simp![e7,eN,ea]
def E4 (ns ps:Å)(Iz:ps.length<=9){x f:Str}(A B:À)(dl hl:Ê)(ms:Å)(hm:ms.length=ps.length)(K6 Ik:À) :
  ix (bB T 16) w6 (St ns ps x f A B (Γ (Kc ps)) dl hl ms K6 Ik)=.ok (.rt (.bl Δ)):=by
 have e:=om 12 ns (k:=321) (by decide) (by decide) (E1 ps) List.length_replicate Iz (o:=Θ) (o':=Θ);have eT0:=xB ps;have eT:=zC ps (HF ps) dl hl ms;have f1:iX (jr (bB T 16) (.nm 1) [] (.HM 68 "depth_of" "Tree" (.v 0) [.v 1]) [Γ (Hu Δ ps (HF ps) (Hg Δ dl hl) ms),Ξ]) ((zs ((ps.length:Int)+1)).map .int)=.ok (((zs ((ps.length:Int)+1)).map (dep ps)).map .int):=by
  refine jd .int (dep ps) .int _ λj hj=>?_;have:=kH hj;have ed:=xn 14 ps (HF ps) dl hl ms j (by omega) (by omega) (p8 ps);have ez:(HF ps).getD j.toNat 0=dep ps j:=xc (dep ps) 0 (by omega) (by omega);rw[ez]at ed;have To:jE "Tree" "depth_of" (Hu Δ ps (HF ps) (Hg Δ dl hl) ms)=Δ:=by unfold Hu;rw[bH];decide
  generalize dep ps j=v,Hu Δ ps (HF ps) (Hg Δ dl hl) ms=TR,MB ps (HF ps) dl hl ms=RT at *;simp![eT,To,ed]
 have hd:(zs ((ps.length:Int)+1)).map (dep ps)=HF ps:=rfl;rw[hd]at f1;have rz:=lL ((ps.length:Int)+1);have lz:((zs ((ps.length:Int)+1)).map D.int).length=ps.length+1:=by rw[h_,jY];omega
 have lD:((HF ps).map D.int).length=ps.length+1:=by rw[h_,p8]
 have mu:=mul_0 (ps.length+1) (by omega);have c1:((ps.length+1:Nat):Int)=(ps.length:Int)+1:=rfl;rw[c1]at mu;have rp:Ρ (ps.length+1) (0:Int)=0::Ρ ps.length 0:=rfl;rw[rp]at mu;have al:=zA 13 (o:=Θ) (o':=Θ) (HF ps) (by rw[p8];omega);have eN:=ji ns;have eP:=ji ps;have eD:=ji (HF ps);have eM:=ji ((0:Int)::Ρ ps.length 0);unfold St;generalize Kc ps=T0,Hu Δ ps (HF ps) (Hg Δ dl hl) ms=TR,MB ps (HF ps) [] [hD []] (Ρ ps.length 0)=R0,((0:Int)::Ρ ps.length 0).map D.int=ZZ,((dl.length:Int)::ms).map D.int=MM,(HF ps).map D.int=DD,ns.map D.int=NS,ps.map D.int=PP,(zs ((ps.length:Int)+1)).map D.int=ZS at *;unfold w6;simp_all![e,eT0,f1,rz,lz,lD,mu,c1,al,eN,eP,eD,eM]
def holds:∀ns:Å,ns.length<=63->bB T 17 Ct [.lst Θ (ns.map .int)]=.ok (.bl Δ):=by
 intro ns _;obtain⟨ps,e1,hp,Iz⟩:=xh 14 ns;obtain⟨fs,e3,nms⟩:=wQ 14 ns (k:=100) (m:=2) (by decide) (by decide) (by decide) (by decide);obtain⟨x,f,rfl⟩:∃x f,fs=[x,f]:=by
  have:=nms.len
  match fs,this with
  |[x,f],_=>exact⟨x,f,rfl⟩
 obtain⟨cs,e4,hc⟩:=yZ 14 ns (k:=140) (by decide) (by decide);have a1:=EW ns ps e1 hp Iz;obtain⟨zs,y4,a2⟩:=EZ (ns.map D.int) ps Iz (Kc ps);have a3:=E0 ns ps hp Iz (x:=x) (f:=f) e3 (Γ (.lst Δ (zs.map .int))) y4;have a4:=E2 ns ps Iz (x:=x) (f:=f) (Γ (.lst Δ (zs.map .int))) y4;obtain⟨dl,hl,ms,K6,Ik,hm,a5⟩:=E3 ns ps hp Iz (x:=x) (f:=f) hc e4 (Γ (.lst Δ (zs.map .int))) y4 (Γ (Kc ps));have a6:=E4 ns ps Iz (x:=x) (f:=f) (Γ (.lst Δ (zs.map .int))) y4 dl hl ms hm K6 Ik;show bB T (16+1) 60 [.lst Θ (ns.map .int)]=_;rw[go (show T 60=Γ NJ from rfl) (show NJ.io=Θ from rfl) (show NJ.np=1 from rfl) (show NJ.G.N.length=13 from rfl) xA rfl];have r:([.lst Θ (ns.map D.int)]:Ê).map Γ++Ρ (13 - 1) Ξ=[Γ (.lst Θ (ns.map .int)),Ξ,Ξ,Ξ,Ξ,Ξ,Ξ,Ξ,Ξ,Ξ,Ξ,Ξ,Ξ]:=rfl;rw[r,oq a1,oq a2,oq a3,oq a4,oq a5,a6];rfl
end Law
namespace PySem.W.Fast
def tw17249562602808505573:True:=⟨⟩
def tw1330742318173769240:True:=⟨⟩
def tw1759940661232029784:True:=⟨⟩
def tw3698681577629311590:True:=⟨⟩
def tw16557812080066036876:True:=⟨⟩
def tw2868058250209125005:True:=⟨⟩
def tw3149968894301734053:True:=⟨⟩
def tw2815966502109229775:True:=⟨⟩
def tw11306543977843964093:True:=⟨⟩
def tw6253070397289460963:True:=⟨⟩
def tw4373965067609888952:True:=⟨⟩
def tw14168177146699333409:True:=⟨⟩
def tw17566866004107987420:True:=⟨⟩
def tw5813521670380729945:True:=⟨⟩
def tw6837725849056553530:True:=⟨⟩
def tw17197666530871476932:True:=⟨⟩
def tw4234308672123206758:True:=⟨⟩
def tw5555769535478315985:True:=⟨⟩
def tw6839643465149409894:True:=⟨⟩
def tw7342666133041723096:True:=⟨⟩
def tw16445205527507369266:True:=⟨⟩
def tw14675869259489703516:True:=⟨⟩
def tw7552147981021599785:True:=⟨⟩
def tw10792587007251682034:True:=⟨⟩
def tw14755175922742694130:True:=⟨⟩
def tw11027165328010905886:True:=⟨⟩
def tw14470857170296757108:True:=⟨⟩
def tw11672141605167839421:True:=⟨⟩
def tw345810575503613146:True:=⟨⟩
def tw9244819031465957490:True:=⟨⟩
def tw3727362792267554182:True:=⟨⟩
def tw6274069279711739150:True:=⟨⟩
def tw17505299280938597553:True:=⟨⟩
def tw5040446009335626093:True:=⟨⟩
def tw11488832051829578477:True:=⟨⟩
def tw10713836051743376409:True:=⟨⟩
def tw1859661439872783962:True:=⟨⟩
def tw17825359647129363455:True:=⟨⟩
def tw1635515272220949256:True:=⟨⟩
def tw17633887497494665380:True:=⟨⟩
def tw17312312320531421385:True:=⟨⟩
def tw9414259209991634871:True:=⟨⟩
def tw10484841413766011872:True:=⟨⟩
def tw7931875982497487768:True:=⟨⟩
def tw16099600600273331009:True:=⟨⟩
def tw59942490629268097:True:=⟨⟩
def tw17447183738855719597:True:=⟨⟩
def tw15699991782287210909:True:=⟨⟩
def tw14628421504004689714:True:=⟨⟩
def tw7819965836644845044:True:=⟨⟩
def tw6345935933173768117:True:=⟨⟩
def tw17633870329607401839:True:=⟨⟩
def tw16900037726266327039:True:=⟨⟩
def tw3916869083688571579:True:=⟨⟩
def tw7504307319116994806:True:=⟨⟩
def tw12449492223184965740:True:=⟨⟩
def tw7314439822812774051:True:=⟨⟩
def tw2701995258497405488:True:=⟨⟩
def tw6028748739906267050:True:=⟨⟩
def tw14117413371239007122:True:=⟨⟩
def tw2385535314318176228:True:=⟨⟩
def tw10863350719848159913:True:=⟨⟩
def tw17211899903169406381:True:=⟨⟩
def tw1322956017885310055:True:=⟨⟩
def tw2452661265734374806:True:=⟨⟩
def tw9326837586807257153:True:=⟨⟩
def tw3292561334334833406:True:=⟨⟩
def tw4273651113421672875:True:=⟨⟩
def tw2491093904460347346:True:=⟨⟩
def tw9326514981531677299:True:=⟨⟩
def tw6106688468058042580:True:=⟨⟩
def tw4993565192972460718:True:=⟨⟩
def tw13560838870090829165:True:=⟨⟩
def tw17361875248295817936:True:=⟨⟩
def tw4702429553305766097:True:=⟨⟩
def tw5687361580352236502:True:=⟨⟩
def tw2797702264307783718:True:=⟨⟩
def tw4182132512385485484:True:=⟨⟩
def tw3411193461912283216:True:=⟨⟩
def tw16263335087550983479:True:=⟨⟩
def tw11544647952570170922:True:=⟨⟩
def tw5704812568834256576:True:=⟨⟩
def tw17078415803686084340:True:=⟨⟩
def tw11411573994959157266:True:=⟨⟩
def tw279555630843514373:True:=⟨⟩
def tw890830395575793118:True:=⟨⟩
def tw10704209352698127089:True:=⟨⟩
def tw6695414431494013624:True:=⟨⟩
def tw1862576348157939200:True:=⟨⟩
def tw6913340230807483836:True:=⟨⟩
def tw14045757411108078840:True:=⟨⟩
def tw894843907619163550:True:=⟨⟩
def tw4641394090392936732:True:=⟨⟩
def tw14273549518863056835:True:=⟨⟩
def tw11684480125077344644:True:=⟨⟩
def tw4928503760876964760:True:=⟨⟩
def tw12448210077770234398:True:=⟨⟩
def tw11695576932347790932:True:=⟨⟩
def tw7980504273227168957:True:=⟨⟩
def tw7418518634355800908:True:=⟨⟩
def tw3106203916557246575:True:=⟨⟩
def tw9801934855678183241:True:=⟨⟩
def tw10070741855354560293:True:=⟨⟩
def tw7580718938280989098:True:=⟨⟩
def tw2297425534331882871:True:=⟨⟩
def tw1864874869436502698:True:=⟨⟩
def tw5486891853723670991:True:=⟨⟩
def tw2614312087351884329:True:=⟨⟩
def tw5017359093810848378:True:=⟨⟩
def tw2656985550662171841:True:=⟨⟩
def tw8136403476963930623:True:=⟨⟩
def tw12887312910624068057:True:=⟨⟩
def tw9483958320177407533:True:=⟨⟩
def tw9485737298340274380:True:=⟨⟩
def tw14811927822125311534:True:=⟨⟩
def tw9781088669372101526:True:=⟨⟩
def tw4920860832573112093:True:=⟨⟩
def tw13478853127697827471:True:=⟨⟩
def tw15021044147228538033:True:=⟨⟩
def tw14548936357811340088:True:=⟨⟩
def tw3100658277145605248:True:=⟨⟩
def tw7615449086858027187:True:=⟨⟩
def tw288584783149382458:True:=⟨⟩
def tw7110369433994344792:True:=⟨⟩
def tw15487234246610534188:True:=⟨⟩
def tw11411526128069919023:True:=⟨⟩
def tw13657676940444182828:True:=⟨⟩
def tw15024311502958245566:True:=⟨⟩
def tw15097133605961016283:True:=⟨⟩
def tw6070787094100302753:True:=⟨⟩
def tw2517554411419637243:True:=⟨⟩
def tw9401271630847483034:True:=⟨⟩
def tw17154945354832672235:True:=⟨⟩
def tw8584280260458396249:True:=⟨⟩
def tw15113368604391501505:True:=⟨⟩
def tw10601989616256901385:True:=⟨⟩
def tw15894158236721188525:True:=⟨⟩
def tw15792604115527537709:True:=⟨⟩
def tw8162698613318894955:True:=⟨⟩
def tw11459921140892426916:True:=⟨⟩
def tw8306564466590647427:True:=⟨⟩
def tw1322477158608017308:True:=⟨⟩
def tw115576202067931009:True:=⟨⟩
def tw15285632953944459242:True:=⟨⟩
def tw11044936235586112736:True:=⟨⟩
def tw7224300737143846212:True:=⟨⟩
def tw15945298247513590654:True:=⟨⟩
def tw17198446951429616885:True:=⟨⟩
def tw14009189653226636011:True:=⟨⟩
def tw503715382275280370:True:=⟨⟩
def tw15027397316989454399:True:=⟨⟩
def tw12252114316504160287:True:=⟨⟩
def tw6577986062142688215:True:=⟨⟩
def tw1613486925286375317:True:=⟨⟩
def tw2153937705180120565:True:=⟨⟩
def tw7533057965790136532:True:=⟨⟩
def tw16549219678607868302:True:=⟨⟩
def tw9017664025377540051:True:=⟨⟩
def tw16423858683840152447:True:=⟨⟩
def tw11067392381896175840:True:=⟨⟩
def tw1211960499451026670:True:=⟨⟩
def tw3495367674228848668:True:=⟨⟩
def tw10599907799550556691:True:=⟨⟩
def tw18408581709635871836:True:=⟨⟩
def tw10540560311692590109:True:=⟨⟩
def tw11084587859086656112:True:=⟨⟩
def tw3664442512246348751:True:=⟨⟩
def tw8885210914539368344:True:=⟨⟩
def tw17932012035139086584:True:=⟨⟩
def tw15907601027856346955:True:=⟨⟩
def tw7723953215854767816:True:=⟨⟩
def tw18076261643793532216:True:=⟨⟩
def tw15689000916091434138:True:=⟨⟩
def tw8064019757341440191:True:=⟨⟩
def tw6242445887409608819:True:=⟨⟩
def tw8929375522633895989:True:=⟨⟩
def tw12264325325337188966:True:=⟨⟩
def tw3601681672678222200:True:=⟨⟩
def tw17059582461100412346:True:=⟨⟩
def tw11319234651215640991:True:=⟨⟩
def tw1756002124890164385:True:=⟨⟩
def tw1267591882657978118:True:=⟨⟩
def tw15324243111792148811:True:=⟨⟩
def tw9961709284534582750:True:=⟨⟩
def tw18048890937400148827:True:=⟨⟩
def tw11822808156088073131:True:=⟨⟩
def tw3133116852886027850:True:=⟨⟩
def tw253738808541494043:True:=⟨⟩
def tw12902929831488324904:True:=⟨⟩
def tw8964550683805604479:True:=⟨⟩
def tw49659116344911133:True:=⟨⟩
def tw13226131308468353779:True:=⟨⟩
def tw1613962982234755121:True:=⟨⟩
def tw6564157877015896330:True:=⟨⟩
def tw999560626781993506:True:=⟨⟩
def tw5545387977788766128:True:=⟨⟩
def tw15214301510136590803:True:=⟨⟩
def tw6317505238246338745:True:=⟨⟩
def tw1025605596163232923:True:=⟨⟩
def tw3205628360488069661:True:=⟨⟩
def tw13809401664094409231:True:=⟨⟩
def tw7346080472043115006:True:=⟨⟩
def tw8304511440790222246:True:=⟨⟩
def tw9701012570188016952:True:=⟨⟩
def tw16638098913833288901:True:=⟨⟩
def tw7426660527359360348:True:=⟨⟩
def tw13521712191180577911:True:=⟨⟩
def tw8301222893628388610:True:=⟨⟩
def tw11619192381463661590:True:=⟨⟩
def tw18209282854301508151:True:=⟨⟩
def tw12405355467477017028:True:=⟨⟩
def tw2565159837587752806:True:=⟨⟩
def tw12911298578789714334:True:=⟨⟩
def tw12369455782114168354:True:=⟨⟩
def tw17824035071362916140:True:=⟨⟩
def tw2513459194761428071:True:=⟨⟩
def tw15962829683980131443:True:=⟨⟩
def tw14295020936885291348:True:=⟨⟩
def tw12427698229700520389:True:=⟨⟩
def tw1253701843065006782:True:=⟨⟩
def tw7125692049130058960:True:=⟨⟩
def tw14732019293692579421:True:=⟨⟩
def tw9990895968574618381:True:=⟨⟩
def tw9925360978062673277:True:=⟨⟩
def tw9905615131929571108:True:=⟨⟩
def tw8391482170377438540:True:=⟨⟩
def tw782434563967058956:True:=⟨⟩
def tw7308326742889929737:True:=⟨⟩
def tw6691870619131264570:True:=⟨⟩
def tw4077778127719026811:True:=⟨⟩
def tw1966028381093056307:True:=⟨⟩
def tw17214739698410096402:True:=⟨⟩
def tw14502852732721974892:True:=⟨⟩
def tw13333167613407128391:True:=⟨⟩
def tw13236259121952842950:True:=⟨⟩
def tw12333367306312192423:True:=⟨⟩
def tw11250113533228277861:True:=⟨⟩
def tw9114281783298187592:True:=⟨⟩
def tw9464061578207562222:True:=⟨⟩
def tw12939279229302376860:True:=⟨⟩
def tw3892526291066220157:True:=⟨⟩
def tw3324893069996571837:True:=⟨⟩
def tw2672595273774827639:True:=⟨⟩
def tw17270505676121148673:True:=⟨⟩
def tw5535983463087105826:True:=⟨⟩
def tw15070407462381336440:True:=⟨⟩
def tw12532639643770154213:True:=⟨⟩
def tw11272630174529581188:True:=⟨⟩
def tw8419595446966517972:True:=⟨⟩
def tw5641392310752263154:True:=⟨⟩
def tw4607889506294788769:True:=⟨⟩
def tw9952923121055252913:True:=⟨⟩
def tw859312484345748237:True:=⟨⟩
def tw8414797281713350721:True:=⟨⟩
def tw5900393306926459019:True:=⟨⟩
def tw2719377313371666757:True:=⟨⟩
def tw2440870263225209646:True:=⟨⟩
def tw11793890816893465421:True:=⟨⟩
def tw12821114330864657027:True:=⟨⟩
def tw5140041003665589099:True:=⟨⟩
def tw9352019787419685590:True:=⟨⟩
def tw16424425299307369398:True:=⟨⟩
def tw4585973056721537914:True:=⟨⟩
def tw17133184885837896922:True:=⟨⟩
def tw3375012133014915091:True:=⟨⟩
def tw16016615539660297766:True:=⟨⟩
def tw11742141697851332492:True:=⟨⟩
def tw10813864868310680692:True:=⟨⟩
def tw3338197206446493165:True:=⟨⟩
def tw9300454008340656110:True:=⟨⟩
def tw8505428744864586226:True:=⟨⟩
def tw8421566169429205510:True:=⟨⟩
def tw4229783650846198790:True:=⟨⟩
def tw1905112020592208835:True:=⟨⟩
def tw16188332168522648995:True:=⟨⟩
def tw15049353792871334189:True:=⟨⟩
def tw10301815994783666483:True:=⟨⟩
def tw10157069191239295396:True:=⟨⟩
def tw7854759468957325345:True:=⟨⟩
def tw4566683047804016717:True:=⟨⟩
def tw2849698760890392412:True:=⟨⟩
def tw1993893522648683516:True:=⟨⟩
def tw18427382915323717515:True:=⟨⟩
def tw16720323417559332931:True:=⟨⟩
def tw16328978243114308660:True:=⟨⟩
def tw16292581501254425845:True:=⟨⟩
def tw1207541615425920065:True:=⟨⟩
def tw11526286476612781145:True:=⟨⟩
def tw11333897839010172741:True:=⟨⟩
def tw4209611804450425116:True:=⟨⟩
def tw16451337840605349005:True:=⟨⟩
def tw3005961346369483998:True:=⟨⟩
def tw17939261320795177325:True:=⟨⟩
def tw15919055199864346506:True:=⟨⟩
def tw15048016046199592312:True:=⟨⟩
def tw4851148148549257677:True:=⟨⟩
def tw15419897317372655176:True:=⟨⟩
def tw14522118099147750237:True:=⟨⟩
def tw7828943098406810741:True:=⟨⟩
def tw1788653156559023039:True:=⟨⟩
def tw9243085313756287029:True:=⟨⟩
def tw7912383062190265820:True:=⟨⟩
def tw4647134044728716586:True:=⟨⟩
def tw327484883649613657:True:=⟨⟩
def tw235287423429949539:True:=⟨⟩
def tw14785341515453818720:True:=⟨⟩
def tw113315448005186783:True:=⟨⟩
def tw100926744070078682:True:=⟨⟩
def tw14404839984934571311:True:=⟨⟩
def tw4737365391771525012:True:=⟨⟩
def tw728497896937918792:True:=⟨⟩
def tw14689546748179499:True:=⟨⟩
def tw14855001520398739057:True:=⟨⟩
def tw9448310402293036358:True:=⟨⟩
def tw660175436110161006:True:=⟨⟩
def tw15455892229573647544:True:=⟨⟩
def tw3148163588721122444:True:=⟨⟩
def tw9529149925503544272:True:=⟨⟩
def tw8214102041016221926:True:=⟨⟩
def tw7898191479312616096:True:=⟨⟩
def tw5816257193921874843:True:=⟨⟩
def tw4124067595209009862:True:=⟨⟩
def tw3280585245745432713:True:=⟨⟩
def tw2622874811362007288:True:=⟨⟩
def tw16752432894331707132:True:=⟨⟩
def tw16305275040593245098:True:=⟨⟩
def tw1558133404768365512:True:=⟨⟩
def tw12945969223084533058:True:=⟨⟩
def tw11878336171299128268:True:=⟨⟩
def tw11672342722984225688:True:=⟨⟩
def tw11397745805910918484:True:=⟨⟩
def tw2993283264875745165:True:=⟨⟩
def tw11819399018364219871:True:=⟨⟩
def tw3239590953061542683:True:=⟨⟩
def tw16381582399618553291:True:=⟨⟩
def tw10681902627529530502:True:=⟨⟩
def tw9906279856051531432:True:=⟨⟩
def tw7821980627528010695:True:=⟨⟩
def tw6307849163005084706:True:=⟨⟩
def tw4831530241055999764:True:=⟨⟩
def tw2407012853947921335:True:=⟨⟩
def tw17295960030226334036:True:=⟨⟩
def tw15888251350782210174:True:=⟨⟩
def tw15501089308481737880:True:=⟨⟩
def tw15330097676104812213:True:=⟨⟩
def tw17274297708396065077:True:=⟨⟩
def tw998505905825515952:True:=⟨⟩
def tw8458821654349681672:True:=⟨⟩
def tw651051030347409687:True:=⟨⟩
def tw527917682584255583:True:=⟨⟩
def tw523884523446662874:True:=⟨⟩
def tw4779660995994988364:True:=⟨⟩
def tw4378390674242050320:True:=⟨⟩
def tw15152781217690257210:True:=⟨⟩
def tw11817473003834358942:True:=⟨⟩
def tw11451203845127475077:True:=⟨⟩
def tw2113501894329990221:True:=⟨⟩
def tw14994508540050375894:True:=⟨⟩
def tw10038929127177253948:True:=⟨⟩
def tw9791916031104539165:True:=⟨⟩
def tw9506402620047267366:True:=⟨⟩
def tw9300888005776172562:True:=⟨⟩
def tw8870835878718913676:True:=⟨⟩
def tw8725502695921048232:True:=⟨⟩
def tw8683566799328667902:True:=⟨⟩
def tw8487633756441734509:True:=⟨⟩
def tw8195662483957291283:True:=⟨⟩
def tw8023023640081463153:True:=⟨⟩
def tw7420714148943828493:True:=⟨⟩
def tw7260985255716778300:True:=⟨⟩
def tw7091322915189599740:True:=⟨⟩
def tw6977759510270751105:True:=⟨⟩
def tw6849760428511164845:True:=⟨⟩
def tw6842181284356017713:True:=⟨⟩
def tw5935910843037354768:True:=⟨⟩
def tw5719055496891310894:True:=⟨⟩
def tw5228618441957708421:True:=⟨⟩
def tw4385900070183105155:True:=⟨⟩
def tw4014212209975896398:True:=⟨⟩
def tw3995885257139064107:True:=⟨⟩
def tw3994699013243775442:True:=⟨⟩
def tw3873067369270069763:True:=⟨⟩
def tw3636653678917968800:True:=⟨⟩
def tw2609927779016866533:True:=⟨⟩
def tw2203647549289332677:True:=⟨⟩
def tw18293207452933550732:True:=⟨⟩
def tw18176135830804543496:True:=⟨⟩
def tw18035064560175502781:True:=⟨⟩
def tw17966225092835764159:True:=⟨⟩
def tw17691367365098684652:True:=⟨⟩
def tw17361129492068758514:True:=⟨⟩
def tw16725346238365813132:True:=⟨⟩
def tw16447853031971055952:True:=⟨⟩
def tw15859696473970238906:True:=⟨⟩
def tw15850444040182096903:True:=⟨⟩
def tw14847548594775510585:True:=⟨⟩
def tw14635382787033491806:True:=⟨⟩
def tw1460393510341121586:True:=⟨⟩
def tw1333884908290807973:True:=⟨⟩
def tw13319376665959139777:True:=⟨⟩
def tw13284398798600232488:True:=⟨⟩
def tw13115430595349465042:True:=⟨⟩
def tw12638655255297397938:True:=⟨⟩
def tw11637983700639748373:True:=⟨⟩
def tw10641191592063978285:True:=⟨⟩
def tw10577514627232702120:True:=⟨⟩
def tw3673383111269325750:True:=⟨⟩
def tw2446788330770312947:True:=⟨⟩
def tw14799014977201583190:True:=⟨⟩
def tw4078294191001171536:True:=⟨⟩
def tw9766766127256835893:True:=⟨⟩
def tw7452231344795471464:True:=⟨⟩
def tw5750049875531350070:True:=⟨⟩
def tw4967538777709426349:True:=⟨⟩
def tw2468250129000917419:True:=⟨⟩
def tw1970391770943377530:True:=⟨⟩
def tw16748743402019342555:True:=⟨⟩
def tw16518620265830157686:True:=⟨⟩
def tw15813310770874079263:True:=⟨⟩
def tw15447053786817767748:True:=⟨⟩
def tw1482486706584938769:True:=⟨⟩
def tw13954968535726041831:True:=⟨⟩
def tw12617271344319855550:True:=⟨⟩
def tw11155281531249786973:True:=⟨⟩
def tw4585589426832172604:True:=⟨⟩
def tw4220627456584729271:True:=⟨⟩
def tw3804982222343168340:True:=⟨⟩
def tw15849575996846157333:True:=⟨⟩
def tw1533656661348709482:True:=⟨⟩
def tw14780383921031260616:True:=⟨⟩
def tw14775344237722008507:True:=⟨⟩
def tw2688972701563074569:True:=⟨⟩
def tw1938995658017603117:True:=⟨⟩
def tw14072475873343568787:True:=⟨⟩
def tw13550716259924611251:True:=⟨⟩
def tw6643390451290637666:True:=⟨⟩
def tw13149901608009265207:True:=⟨⟩
def tw15100516641151600464:True:=⟨⟩
def tw14192070116874946584:True:=⟨⟩
def tw9803783630997845250:True:=⟨⟩
def tw6445102932533748631:True:=⟨⟩
def tw15452749804616128801:True:=⟨⟩
def tw16251003855903615640:True:=⟨⟩
def tw9726251795870758515:True:=⟨⟩
def tw9034947292378017972:True:=⟨⟩
def tw8266367294683603049:True:=⟨⟩
def tw8259351528245907478:True:=⟨⟩
def tw4249787527795664283:True:=⟨⟩
def tw18108644704773784525:True:=⟨⟩
def tw18078908319406202606:True:=⟨⟩
def tw18046480106598646009:True:=⟨⟩
def tw17201607191084287052:True:=⟨⟩
def tw16956899889345071067:True:=⟨⟩
def tw14014404788758050146:True:=⟨⟩
def tw11913246365207052012:True:=⟨⟩
def tw10638242908345325882:True:=⟨⟩
def tw17820279073619974888:True:=⟨⟩
def tw12872776296180522306:True:=⟨⟩
def tw10747333762171436791:True:=⟨⟩
def tw5306195652035093281:True:=⟨⟩
def tw9320817420043860647:True:=⟨⟩
def tw9184294306776257793:True:=⟨⟩
def tw7078572463183882456:True:=⟨⟩
def tw645420471669109672:True:=⟨⟩
def tw6031619029603656680:True:=⟨⟩
def tw4972726598237840943:True:=⟨⟩
def tw4049621479317065460:True:=⟨⟩
def tw2629894446565013755:True:=⟨⟩
def tw2082568179863679703:True:=⟨⟩
def tw17518245928848630047:True:=⟨⟩
def tw16799337599682970523:True:=⟨⟩
def tw14552943172026431286:True:=⟨⟩
def tw12409553210304354690:True:=⟨⟩
def tw11258926433337508776:True:=⟨⟩
def tw11171603352022219873:True:=⟨⟩
def tw1046077032080973489:True:=⟨⟩
def tw8991636193204192132:True:=⟨⟩
def tw872872174394472319:True:=⟨⟩
def tw5261655201208222378:True:=⟨⟩
def tw5075523073286592000:True:=⟨⟩
def tw3047806723808325994:True:=⟨⟩
def tw2272638801775544778:True:=⟨⟩
def tw18178220963273571508:True:=⟨⟩
def tw17653174971364892584:True:=⟨⟩
def tw16283187107131556133:True:=⟨⟩
def tw14238185493642684884:True:=⟨⟩
def tw11287433394193464769:True:=⟨⟩
def tw5183049591208560679:True:=⟨⟩
def tw13871297278681149723:True:=⟨⟩
def tw6435151263400819527:True:=⟨⟩
def tw2484104884788523644:True:=⟨⟩
def tw14087580973873149311:True:=⟨⟩
def tw6151313972233165307:True:=⟨⟩
def tw5553454252300967851:True:=⟨⟩
def tw3923861976282414383:True:=⟨⟩
def tw1994731910653706032:True:=⟨⟩
def tw9725089515616988638:True:=⟨⟩
def tw9329457211262171349:True:=⟨⟩
def tw872217323268700814:True:=⟨⟩
def tw8221435872343051520:True:=⟨⟩
def tw7864920101812495907:True:=⟨⟩
def tw7435379917179556831:True:=⟨⟩
def tw6526002912638642774:True:=⟨⟩
def tw17740549127847839992:True:=⟨⟩
def tw16826289689281158624:True:=⟨⟩
def tw1619238600210352139:True:=⟨⟩
def tw15945913079614721103:True:=⟨⟩
def tw14689434680481204840:True:=⟨⟩
def tw6974793016079527448:True:=⟨⟩
def tw10289528779352291895:True:=⟨⟩
def tw9805652930755741099:True:=⟨⟩
def tw902493836960266380:True:=⟨⟩
def tw8626496606861930541:True:=⟨⟩
def tw8218786292715081062:True:=⟨⟩
def tw7405738581450286007:True:=⟨⟩
def tw6911491930901030864:True:=⟨⟩
def tw5448595744135108609:True:=⟨⟩
def tw4421915436775194782:True:=⟨⟩
def tw3486269865142371582:True:=⟨⟩
def tw3100363088248219113:True:=⟨⟩
def tw16560082587931791029:True:=⟨⟩
def tw16159216549369490236:True:=⟨⟩
def tw15871651193343843905:True:=⟨⟩
def tw15589750369265361953:True:=⟨⟩
def tw15364352283591978912:True:=⟨⟩
def tw12985505300528135816:True:=⟨⟩
def tw12688184224738413977:True:=⟨⟩
def tw9407254436673652247:True:=⟨⟩
def tw9366378322398696044:True:=⟨⟩
def tw8059100821289389033:True:=⟨⟩
def tw6721149829384623653:True:=⟨⟩
def tw6710117653825778413:True:=⟨⟩
def tw6112424971104216970:True:=⟨⟩
def tw3758642235294252699:True:=⟨⟩
def tw3514490749628713087:True:=⟨⟩
def tw2943993440905256412:True:=⟨⟩
def tw1784483365922870130:True:=⟨⟩
def tw17749977483323696859:True:=⟨⟩
def tw15741182347196152538:True:=⟨⟩
def tw1573383890703222197:True:=⟨⟩
def tw15434075247895376364:True:=⟨⟩
def tw13822881957509687905:True:=⟨⟩
def tw11060398320454706440:True:=⟨⟩
def tw1070201322352690186:True:=⟨⟩
def tw10642103469293739148:True:=⟨⟩
def tw9984843847119492948:True:=⟨⟩
def tw995741260824280641:True:=⟨⟩
def tw9840518281203535418:True:=⟨⟩
def tw9783243486535627448:True:=⟨⟩
def tw965125216504236739:True:=⟨⟩
def tw9650940382689517698:True:=⟨⟩
def tw957979913300054308:True:=⟨⟩
def tw9441051227712413257:True:=⟨⟩
def tw9382152677587935272:True:=⟨⟩
def tw9366626267420993570:True:=⟨⟩
def tw9296710910589214532:True:=⟨⟩
def tw9260750943522817101:True:=⟨⟩
def tw8911979718216981407:True:=⟨⟩
def tw8576133621332430642:True:=⟨⟩
def tw8445641241358816464:True:=⟨⟩
def tw8280155584252345138:True:=⟨⟩
def tw8279908471540709847:True:=⟨⟩
def tw8258026570368091090:True:=⟨⟩
def tw8171832423596617690:True:=⟨⟩
def tw8020360016602349380:True:=⟨⟩
def tw7962796412223032485:True:=⟨⟩
def tw7904837662300516745:True:=⟨⟩
def tw7885634100911659556:True:=⟨⟩
def tw7823611669518773664:True:=⟨⟩
def tw763980459789731529:True:=⟨⟩
def tw7113766301656719307:True:=⟨⟩
def tw7083209856813512917:True:=⟨⟩
def tw6932070184519059589:True:=⟨⟩
def tw6926248841453734979:True:=⟨⟩
def tw6809531535683726218:True:=⟨⟩
def tw673425055578244597:True:=⟨⟩
def tw6578121497439215117:True:=⟨⟩
def tw6202857383334266831:True:=⟨⟩
def tw5861156884620496724:True:=⟨⟩
def tw5790034022456622414:True:=⟨⟩
def tw5760699538996562038:True:=⟨⟩
def tw5760488045569370490:True:=⟨⟩
def tw5703906216667112621:True:=⟨⟩
def tw5473181487366854278:True:=⟨⟩
def tw5180165564179142146:True:=⟨⟩
def tw5177620411524081113:True:=⟨⟩
def tw4997151985497775206:True:=⟨⟩
def tw4990822633104720293:True:=⟨⟩
def tw4882831680859355033:True:=⟨⟩
def tw4874785688121841429:True:=⟨⟩
def tw486166605269346133:True:=⟨⟩
def tw4842462164969096083:True:=⟨⟩
def tw472928801460612458:True:=⟨⟩
def tw4569130449975101617:True:=⟨⟩
def tw4521152708566739673:True:=⟨⟩
def tw4479112063197188278:True:=⟨⟩
def tw4337911181976283819:True:=⟨⟩
def tw4213261350797683585:True:=⟨⟩
def tw4168493714247421281:True:=⟨⟩
def tw4106489637081466197:True:=⟨⟩
def tw407833214848787591:True:=⟨⟩
def tw3958817202853229239:True:=⟨⟩
def tw391782188371457144:True:=⟨⟩
def tw3894254563037765910:True:=⟨⟩
def tw3875992737708624573:True:=⟨⟩
def tw3844630795729334232:True:=⟨⟩
def tw3722958326893222048:True:=⟨⟩
def tw371250884814458207:True:=⟨⟩
def tw3490493243779056219:True:=⟨⟩
def tw3224845095712020928:True:=⟨⟩
def tw3030814561550782078:True:=⟨⟩
def tw2590393255188012056:True:=⟨⟩
def tw2525951560528833414:True:=⟨⟩
def tw24669003581961642:True:=⟨⟩
def tw2397559688783277796:True:=⟨⟩
def tw2345792935988753622:True:=⟨⟩
def tw2325550923842899591:True:=⟨⟩
def tw2314062786484336552:True:=⟨⟩
def tw2284553102135582738:True:=⟨⟩
def tw2256482236273514688:True:=⟨⟩
def tw2036818359490334340:True:=⟨⟩
def tw1952786669070873927:True:=⟨⟩
def tw1872307058948221637:True:=⟨⟩
def tw18342330422558140635:True:=⟨⟩
def tw18317700717729524059:True:=⟨⟩
def tw18165593953670679144:True:=⟨⟩
def tw18069439596199763898:True:=⟨⟩
def tw17929054552631253492:True:=⟨⟩
def tw17890657183671876904:True:=⟨⟩
def tw17883665715667836827:True:=⟨⟩
def tw17835718700340800613:True:=⟨⟩
def tw17722313266543283011:True:=⟨⟩
def tw17656384640522179254:True:=⟨⟩
def tw17532293675689380409:True:=⟨⟩
def tw17466628343527359515:True:=⟨⟩
def tw17293492804331517802:True:=⟨⟩
def tw17086782395656457560:True:=⟨⟩
def tw17075992755949856246:True:=⟨⟩
def tw16967815128806306871:True:=⟨⟩
def tw16874005862371390627:True:=⟨⟩
def tw1680744732300433237:True:=⟨⟩
def tw16561878663542765414:True:=⟨⟩
def tw16424107223931344235:True:=⟨⟩
def tw1635931768358955401:True:=⟨⟩
def tw16330472928415681624:True:=⟨⟩
def tw1630686088121352406:True:=⟨⟩
def tw16289863390090253050:True:=⟨⟩
def tw16193234495661623614:True:=⟨⟩
def tw16161110583633981570:True:=⟨⟩
def tw16113565065302446653:True:=⟨⟩
def tw16073474156229012942:True:=⟨⟩
def tw16036593119556795269:True:=⟨⟩
def tw15924541793350787169:True:=⟨⟩
def tw15904751603177711026:True:=⟨⟩
def tw15773464460854448944:True:=⟨⟩
def tw15736168079112164414:True:=⟨⟩
def tw15713864874199230268:True:=⟨⟩
def tw15652915459710270042:True:=⟨⟩
def tw15389608170280649859:True:=⟨⟩
def tw15352316608850623402:True:=⟨⟩
def tw15313569861783983355:True:=⟨⟩
def tw15311371007216051386:True:=⟨⟩
def tw15083980832307607518:True:=⟨⟩
def tw15008096322668810057:True:=⟨⟩
def tw14951214379281540633:True:=⟨⟩
def tw14888874672518360777:True:=⟨⟩
def tw14842670924238292303:True:=⟨⟩
def tw1480743025383407423:True:=⟨⟩
def tw14573728204134745858:True:=⟨⟩
def tw14302344225903663974:True:=⟨⟩
def tw14089484112679342713:True:=⟨⟩
def tw14050424181689055884:True:=⟨⟩
def tw13812439358361402445:True:=⟨⟩
def tw13561310451749363538:True:=⟨⟩
def tw13374389559955309114:True:=⟨⟩
def tw13220987608528154738:True:=⟨⟩
def tw1317859663007600307:True:=⟨⟩
def tw12894038460460528087:True:=⟨⟩
def tw12685674629966258826:True:=⟨⟩
def tw12657985228539170683:True:=⟨⟩
def tw12449293859952368347:True:=⟨⟩
def tw12355329122775601741:True:=⟨⟩
def tw12336825417938875021:True:=⟨⟩
def tw12288058305507350712:True:=⟨⟩
def tw12278621302572498791:True:=⟨⟩
def tw12240741873238161286:True:=⟨⟩
def tw121801175611860362:True:=⟨⟩
def tw12080780065711741001:True:=⟨⟩
def tw11971526097475982954:True:=⟨⟩
def tw11561172834247476552:True:=⟨⟩
def tw11454695214224793385:True:=⟨⟩
def tw11324020883641354124:True:=⟨⟩
def tw1112312144214617833:True:=⟨⟩
def tw10949955049306101404:True:=⟨⟩
def tw10902330885046027574:True:=⟨⟩
def tw10871763560759887717:True:=⟨⟩
def tw10228636311889194976:True:=⟨⟩
def tw10077574580597340094:True:=⟨⟩
def tw10059731477458906848:True:=⟨⟩
end PySem.W.Fast
open PySem PySem.W PyProof.Rows
set_option maxRecDepth 100000 in
set_option maxHeartbeats 0 in
theorem PySem.Challenge.cw_flagroll_k74_moments_in_a_tree_holds : PySem.Challenge.rw_flagroll_k74_moments_in_a_tree.Holds := by
  w_on; o_law; k_head; (case hw =>w_witness2)
  k_fill
  refine L2.wd (l :=PySem.Challenge.rw_flagroll_k74_moments_in_a_tree) (T :=Law.T) (n :=16) (f :=Law.Ct) (x :=Law.yU) rfl rfl ⟨fun _ =>rfl,by decide,by decide⟩ (fun w h Y =>PySem.W.kIn_of Y) ?F Law.holds
  case F =>
    intro w mg fa h KX G hmg
    refine' Law.all_mk KX G hmg (Law.dfo Law.c26 rfl (fun _ _ _ _ _ _ =>Law.ln1 fun _ =>rfl) KX G ?a26 ?l26 ?e26 ?k26) (Law.dfo Law.c27 rfl (fun _ _ _ _ _ _ =>Law.ln4 fun _ _ _ _ =>rfl) KX G ?a27 ?l27 ?e27 ?k27) (Law.dfo Law.c28 rfl (fun _ _ _ _ _ _ =>Law.ln1 fun _ =>rfl) KX G ?a28 ?l28 ?e28 ?k28) (Law.dfo Law.c29 rfl (fun _ _ _ _ _ _ =>Law.ln1 fun _ =>rfl) KX G ?a29 ?l29 ?e29 ?k29) (Law.dfo Law.c30 rfl (fun _ _ _ _ _ _ =>Law.ln1 fun _ =>rfl) KX G ?a30 ?l30 ?e30 ?k30) (Law.dfo Law.c31 rfl (fun _ _ _ _ _ _ =>Law.ln2 fun _ _ =>rfl) KX G ?a31 ?l31 ?e31 ?k31) (Law.dfo Law.c32 rfl (fun _ _ _ _ _ _ =>Law.ln2 fun _ _ =>rfl) KX G ?a32 ?l32 ?e32 ?k32) (Law.dfo Law.c33 rfl (fun _ _ _ _ _ _ =>Law.ln2 fun _ _ =>rfl) KX G ?a33 ?l33 ?e33 ?k33) (Law.dfo Law.c34 rfl (fun _ _ _ _ _ _ =>Law.ln1 fun _ =>rfl) KX G ?a34 ?l34 ?e34 ?k34) (Law.dfo Law.c35 rfl (fun _ _ _ _ _ _ =>Law.ln2 fun _ _ =>rfl) KX G ?a35 ?l35 ?e35 ?k35) (Law.dfo Law.c36 rfl (fun _ _ _ _ _ _ =>Law.ln3 fun _ _ _ =>rfl) KX G ?a36 ?l36 ?e36 ?k36) (Law.dfo Law.c37 rfl (fun _ _ _ _ _ _ =>Law.ln1 fun _ =>rfl) KX G ?a37 ?l37 ?e37 ?k37) (Law.dfo Law.c38 rfl (fun _ _ _ _ _ _ =>Law.ln1 fun _ =>rfl) KX G ?a38 ?l38 ?e38 ?k38) (Law.dfo Law.c39 rfl (fun _ _ _ _ _ _ =>Law.ln1 fun _ =>rfl) KX G ?a39 ?l39 ?e39 ?k39) (Law.dfo Law.c40 rfl (fun _ _ _ _ _ _ =>Law.ln1 fun _ =>rfl) KX G ?a40 ?l40 ?e40 ?k40) (Law.dfo Law.c41 rfl (fun _ _ _ _ _ _ =>Law.ln2 fun _ _ =>rfl) KX G ?a41 ?l41 ?e41 ?k41) (Law.dfo Law.c42 rfl (fun _ _ _ _ _ _ =>Law.ln3 fun _ _ _ =>rfl) KX G ?a42 ?l42 ?e42 ?k42) (Law.dfo Law.c43 rfl (fun _ _ _ _ _ _ =>Law.ln3 fun _ _ _ =>rfl) KX G ?a43 ?l43 ?e43 ?k43) (Law.dfo Law.c44 rfl (fun _ _ _ _ _ _ =>Law.ln2 fun _ _ =>rfl) KX G ?a44 ?l44 ?e44 ?k44) (Law.dfo Law.c45 rfl (fun _ _ _ _ _ _ =>Law.ln2 fun _ _ =>rfl) KX G ?a45 ?l45 ?e45 ?k45) (Law.dfo Law.c46 rfl (fun _ _ _ _ _ _ =>Law.ln2 fun _ _ =>rfl) KX G ?a46 ?l46 ?e46 ?k46) (Law.dfo Law.c47 rfl (fun _ _ _ _ _ _ =>Law.ln1 fun _ =>rfl) KX G ?a47 ?l47 ?e47 ?k47) (Law.dfo Law.c48 rfl (fun _ _ _ _ _ _ =>Law.ln1 fun _ =>rfl) KX G ?a48 ?l48 ?e48 ?k48) (Law.dfo Law.c49 rfl (fun _ _ _ _ _ _ =>Law.ln3 fun _ _ _ =>rfl) KX G ?a49 ?l49 ?e49 ?k49) (Law.dfo Law.c50 rfl (fun _ _ _ _ _ _ =>Law.ln2 fun _ _ =>rfl) KX G ?a50 ?l50 ?e50 ?k50) (Law.dfo Law.c51 rfl (fun _ _ _ _ _ _ =>Law.ln3 fun _ _ _ =>rfl) KX G ?a51 ?l51 ?e51 ?k51) (Law.dfo Law.c52 rfl (fun _ _ _ _ _ _ =>Law.ln2 fun _ _ =>rfl) KX G ?a52 ?l52 ?e52 ?k52) (Law.dfo Law.c53 rfl (fun _ _ _ _ _ _ =>Law.ln1 fun _ =>rfl) KX G ?a53 ?l53 ?e53 ?k53) (Law.dfo Law.c54 rfl (fun _ _ _ _ _ _ =>Law.ln2 fun _ _ =>rfl) KX G ?a54 ?l54 ?e54 ?k54) (Law.dfo Law.c55 rfl (fun _ _ _ _ _ _ =>Law.ln1 fun _ =>rfl) KX G ?a55 ?l55 ?e55 ?k55) (Law.dfo Law.c56 rfl (fun _ _ _ _ _ _ =>Law.ln3 fun _ _ _ =>rfl) KX G ?a56 ?l56 ?e56 ?k56) (Law.dfo Law.c57 rfl (fun _ _ _ _ _ _ =>Law.ln2 fun _ _ =>rfl) KX G ?a57 ?l57 ?e57 ?k57) (Law.dfo Law.c58 rfl (fun _ _ _ _ _ _ =>Law.ln5 fun _ _ _ _ _ =>rfl) KX G ?a58 ?l58 ?e58 ?k58) (Law.FD Law.c59 rfl rfl (fun _ _ _ _ _ _ =>Law.ln5 fun _ _ _ _ _ =>rfl) KX G ?a59 ?l59 ?e59 ?k59) (Law.dfk Law.c61 rfl rfl (fun _ _ _ _ _ _ =>Law.ln1 fun _ =>rfl) KX G ?l61 ?e61 ?k61 ?u61 ?m61 ?i61 ?n61 ?j61 ?p61) (Law.Es Law.c62 rfl rfl (fun _ _ _ _ _ _ =>Law.ln2 fun _ _ =>rfl) ?l62 ?e62 ?k62 ?u62 ?m62 ?i62) (Law.dfm Law.c63 rfl (fun _ _ _ _ _ _ =>Law.ln1 fun _ =>rfl) ?l63 ?e63 ?k63 ?u63 ?m63 ?i63) (Law.dfk Law.c64 rfl rfl (fun _ _ _ _ _ _ =>Law.ln2 fun _ _ =>rfl) KX G ?l64 ?e64 ?k64 ?u64 ?m64 ?i64 ?n64 ?j64 ?p64) (Law.dfm Law.c65 rfl (fun _ _ _ _ _ _ =>Law.ln3 fun _ _ _ =>rfl) ?l65 ?e65 ?k65 ?u65 ?m65 ?i65) (Law.Es Law.c66 rfl rfl (fun _ _ _ _ _ _ =>Law.ln2 fun _ _ =>rfl) ?l66 ?e66 ?k66 ?u66 ?m66 ?i66) (Law.Cs Law.c67 rfl rfl (Law.FE ?s67) ?l67 ?e67 ?k67 ?u67 ?m67 ?i67) (Law.Er Law.c67 rfl rfl (Law.FF ?s67) ?l67 ?e67 ?k67 ?u67 ?m67 ?i67) (Law.dfm Law.c68 rfl (fun _ _ _ _ _ _ =>Law.ln2 fun _ _ =>rfl) ?l68 ?e68 ?k68 ?u68 ?m68 ?i68) (Law.dfm Law.c69 rfl (fun _ _ _ _ _ _ =>Law.ln2 fun _ _ =>rfl) ?l69 ?e69 ?k69 ?u69 ?m69 ?i69) ?a60 ?l60 ?e60 ?k60 ?q21 ?q22 ?q23 ?q24 ?r24 ?q25 ?r25 ?oc70 ?oc71 ?pg70 ?hd70 ?po70 ?sa70 ?nadeeds_70 ?nahouses_70 ?naparents_70 ?nadepths_70 ?nabook_70 ?namoments_70 ?pg71 ?hd71 ?po71 ?sa71 ?nadeeds_71 ?nahouses_71 ?naparents_71 ?nadepths_71 ?nabook_71 ?namoments_71 ?z0 ?z1 ?z2 ?z3 ?z4 ?z5 ?z6 ?z7 ?z8 ?z9 ?z10 ?z11 ?z12 ?z13 ?z14 ?z15 ?z16 ?z17 ?z18 ?z19 ?z20
    (case a26|l26|e26|k26|a27|l27|e27|k27|a28|l28|e28|k28|a29|l29|e29|k29|a30|l30|e30|k30|a31|l31|e31|k31|a32|l32|e32|k32|a33|l33|e33|k33|a34|l34|e34|k34|a35|l35|e35|k35|a36|l36|e36|k36|a37|l37|e37|k37|a38|l38|e38|k38|a39|l39|e39|k39|a40|l40|e40|k40|a41|l41|e41|k41|a42|l42|e42|k42|a43|l43|e43|k43|a44|l44|e44|k44|a45|l45|e45|k45|a46|l46|e46|k46|a47|l47|e47|k47|a48|l48|e48|k48|a49|l49|e49|k49|a50|l50|e50|k50|a51|l51|e51|k51|a52|l52|e52|k52|a53|l53|e53|k53|a54|l54|e54|k54|a55|l55|e55|k55|a56|l56|e56|k56|a57|l57|e57|k57|a58|l58|e58|k58|a59|l59|e59|k59|u61|m61|l61|e61|k61|i61|u62|m62|l62|e62|k62|i62|u63|m63|l63|e63|k63|i63|u64|m64|l64|e64|k64|i64|u65|m65|l65|e65|k65|i65|u66|m66|l66|e66|k66|i66|u67|m67|l67|s67|e67|k67|i67|u68|m68|l68|e68|k68|i68|u69|m69|l69|e69|k69|i69=>k_is)
    (case n61=>kernel_rfl)
    (case j61=>kernel_rfl)
    (case p61=>kernel_rfl)
    (case n64=>kernel_rfl)
    (case j64=>kernel_rfl)
    (case p64=>kernel_rfl)
    (case a60|l60|e60|k60|q21|q22|q23|q24|r24|q25|r25|oc70|oc71=>k_is)
    (case pg70=>kernel_rfl)
    (case hd70=>kernel_rfl)
    (case po70=>kernel_rfl)
    (case sa70=>kernel_rfl)
    (case nadeeds_70=>kernel_rfl)
    (case nahouses_70=>kernel_rfl)
    (case naparents_70=>kernel_rfl)
    (case nadepths_70=>kernel_rfl)
    (case nabook_70=>kernel_rfl)
    (case namoments_70=>kernel_rfl)
    (case pg71=>kernel_rfl)
    (case hd71=>kernel_rfl)
    (case po71=>kernel_rfl)
    (case sa71=>kernel_rfl)
    (case nadeeds_71=>kernel_rfl)
    (case nahouses_71=>kernel_rfl)
    (case naparents_71=>kernel_rfl)
    (case nadepths_71=>kernel_rfl)
    (case nabook_71=>kernel_rfl)
    (case namoments_71=>kernel_rfl)
    (case z0|z1|z2|z3|z4|z5|z6|z7|z8|z9|z10|z11|z12|z13|z14|z15|z16|z17|z18|z19|z20=>k_is)
#print axioms PySem.Challenge.cw_flagroll_k74_moments_in_a_tree_holds
