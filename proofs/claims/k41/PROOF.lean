import PyProof.Rows.All
import Wide.All
import OpenK.AllK
import Wide.FinOn
import Lean
import PyProof.EqAt
import PyProof.EqKinds
import PyProof.TupleCall
import PyProof.NeKinds
import KE.KRevIter
import KE.KSortTup
import Wide.Txt2
import PyProof.FString4
import KE.KIntText
import PyProof.ZipIter
import PyProof.TupleIter
import PyProof.WalksMore
import PyProof.Rows.SortShell
import KE.KDictSum
import PyProof.Rows.SortStr
import PyProof.Rows.SetFrom
import PyProof.FactsAll.subtypes_4
import PyProof.DictUpdate
import KE.KDictOf
import PyProof.AttrMissSeq
import KE.KDictList
import KE.KDictIter
import PyProof.Rows.SortWalk
import PyProof.EnumMake
import PyProof.EnumFor
import PyProof.Rows.EnumRows
import PyProof.MeetsSeq
import PyProof.ListRange
import KE.KIsAll
import PyProof.ExcArgsOwn
import PyProof.ExcAttrAll.ValueError
import OpenK.KDescr
import PyProof.ExcInit
import PyProof.ExcClass2
import PyProof.InstStoreFacts
import PyProof.StationsW
import OpenK.KMake
import OpenK.KOwn
import KE.KTryMore
import OpenK.KRaise
import PyProof.RulesDel
import PyProof.RulesAs
import PyProof.Rows.Catch
import PySem.Challenge.RW_flagroll_k41_all_answers
set_option genSizeOf false
set_option genInjectivity false
set_option bootstrap.genMatcherCode false
set_option compiler.extract_closed false
set_option linter.all false
local macro_rules | `(tactic| omega) => `(tactic| first | lia | omega (splitDisjunctions := true))
local macro_rules | `(tactic| let $d:letDecl) => `(tactic| have $d:letDecl)
local macro_rules | `(tactic| let ⟨$a,*⟩ := $e) => do
 let rec go : Nat → Lean.Syntax → Lean.MacroM Lean.Syntax := fun n s => match n with
  | 0 => Lean.Macro.throwUnsupported
  | n + 1 => if s.isIdent then `(rcasesPat| $(⟨s⟩):ident) else if s.getKind == ``Lean.Parser.Term.hole then `(rcasesPat| _) else do
   let y : Array (Lean.TSyntax `rcasesPat) := (← s[1].getSepArgs.mapM (go n)).map (⟨·⟩)
   `(rcasesPat| ⟨$[$y:rcasesPat],*⟩)
 let y : Array (Lean.TSyntax `rcasesPat) := (← a.getElems.mapM fun x => go 9 x).map (⟨·⟩)
 `(tactic| obtain ⟨$[$y:rcasesPat],*⟩ := $e)
local macro_rules | `(tactic| cases $t:term using $z:ident $a:inductionAlts) => `(tactic| induction $t:term using $z:ident $a:inductionAlts)
local macro_rules | `(∅) =>`(by decide +kernel)
local macro_rules | `(abbrev $i:declId $s:optDeclSig $v:declVal) =>`(noncomputable def $i:declId $s:optDeclSig $v:declVal)
local macro_rules | `(⋯) => `(by omega)
local macro_rules | `(nofun) => `(by decide)
open PySem.W (Frag)
def a_:=@List.map_cons
def b_:=@PySem.wpAny_bind
def c_:=@List.cons_append
def d_:=@if_neg
def e_:=@if_pos
def f_:=@PySem.wpAny_pure
def g_:=@Bool.and_eq_true
def h_:=@LawfulBEq.eq_of_beq
def i_:=@List.length_map
def j_:=@PySem.Heap.lt_size
def k_:=@List.mem_cons
def l_:=@Bool.and_eq_true_iff
def m_:=@PySem.Heap.get?_push_of_some
def n_:=@Nat.ne_of_lt
def o_:=@Nat.le_refl
def p_:=@Bool.false_ne_true
def q_:=@List.length_append
def r_:=@List.mem_singleton
def s_:=@List.nodup_append
def t_:=@of_decide_eq_true
def u_:=@List.mem_append_left
def v_:=@List.getElem?_eq_some_iff
def w_:=@List.mem_append
def x_:=@List.mem_append_right
def y_:=@List.getElem?_eq_getElem
def z_:=@List.map_map
def A_:=@PySem.Heap.get?_push_size
def B_:=@decide_eq_true
def C_:=@List.size_toArray
def D_:=@List.getElem?_map
def E_:=@Nat.lt_of_lt_of_le
def F_:=@List.nodup_cons
def G_:=@List.append_assoc
def H_:=@Option.some.inj
def I_:=@List.map_append
def J_:=@List.mem_cons_of_mem
def K_:=@PySem.W.mg_none_of
def L_:=@PySem.wpAny_holding
def M_:=@List.all_eq_true
def N_:=@decide_eq_false
def O_:=@PySem.wpAny_field
def P_:=@List.not_mem_nil
def Q_:=@Nat.le_trans
def R_:=@List.length_range
def S_:=@List.map_congr_left
def T_:=@Array.length_toList
def U_:=@Nat.ne_of_gt
def V_:=@List.length_singleton
def W_:=@PySem.Heap.size_push
def X_:=@List.mem_range
def Y_:=@List.append_nil
def Z_:=@List.mem_of_getElem?
def aaa:=@Nat.zero_le
def aac:=@Nat.lt_irrefl
def aad:=@PySem.wpAny_seqItems
def aae:=@Int.toNat_natCast
def aaf:=@Bool.or_eq_true
def aah:=@List.foldl_cons
def aak:=@PySem.wpAny_call_entry
def aal:=@PySem.wpAny_setField_rec
def aam:=@List.getD_eq_getElem?_getD
def aao:=@List.mem_iff_getElem?
def aap:=@PySem.wpAny_Call_Name_kw
def aas:=@List.length_drop
def aat:=@PySem.Heap.get?_update_other
def aau:=@List.getElem_mem
def aav:=@List.singleton_append
def aax:=@PyProof.Rows.callWith_type1
def aay:=@Array.getElem?_toList
def aaz:=@Nat.le_add_right
def aaD:=@List.getElem?_set_ne
def aaG:=@List.length_take
def aaH:=@List.getElem?_append_left
def aaI:=@PySem.Heap.get?_update_self
def aaJ:=@PySem.wpAny_newObj_type
def aaK:=@Bool.false_eq_true
def aaL:=@PySem.wpAny_pyIter_list
def aaM:=@List.Perm.append_left
def aaN:=@List.perm_append_comm
def aaO:=@Option.map_eq_some_iff
def aaP:=@PySem.Heap.SameBut.update
def aaQ:=@List.lookup_cons
def aaR:=@List.mem_cons_self
def aaS:=@List.getElem?_append_right
def aaT:=@PySem.Around.under_plainId
def aaU:=@List.getElem?_cons_succ
open Option renaming some → Δ
open Bool renaming true → Θ
open Bool renaming false → Ξ
open Option renaming none → Φ
open PySem renaming Value → Ψ
open PySem renaming Addr → Ω
open PySem renaming Shared → Α
open PySem renaming World → Β
open PySem renaming Program → Ε
open PySem renaming sizeLine → Ζ
open PySem renaming mainGlobals → Η
open PySem renaming Around → Ι
open PySem renaming wpAny → Κ
open PySem renaming model → Μ
open PySem renaming starEach → Ν
open PySem renaming FuncData → Ο
open PySem.Str renaming ofString → Ρ
open List renaming replicate → Τ
open PySem.NameKind renaming free → Υ
open PySem.Builtin.List renaming listExtendWith → Χ
open PySem.Builtin.SmallTypes renaming nextOf → ζ
open PySem.Builtin.SmallTypes renaming ownedTupleIsFree → η
open PySem.Value renaming ref → θ
open PySem.Obj renaming mapSeq → ι
namespace L2
def zE:type_of% @PySem.Expr.casesOn.{0}:=@PySem.Expr.casesOn.{0}
def zS:type_of% @PySem.Stmt.casesOn.{0}:=@PySem.Stmt.casesOn.{0}
def zL:type_of% @List.casesOn.{0,0}:=@List.casesOn.{0,0}
def zO:type_of% @Option.casesOn.{0,0}:=@Option.casesOn.{0,0}
def zB:type_of% @Bool.casesOn.{0}:=@Bool.casesOn.{0}
end L2
set_option maxHeartbeats 8000000
set_option Elab.async false
set_option maxRecDepth 100000
namespace L2
open PySem PySem.Spec PyProof.Rows
@[reducible]def Key:=Sum Int Str
abbrev pC:Key->Ψ->Bool
 |.inl k,v=>Value.isInt k v
 |.inr x,v=>Value.isStrOf x v
abbrev JY (w:Β):Key->Int
 |.inl k=>hashInt k
 |.inr x=>hashStr w x
def iV:∀ {k:Key}{v:Ψ},pC k v=Θ->(∃i t,k=Sum.inl i/\v=Value.int i t)∨(∃x t,k=Sum.inr x/\v=Value.str x t)
 |.inl i,v,h=>by let⟨t,e⟩:=Value.isInt_shape (k:=i) (v:=v) h;exact .inl ⟨i,t,rfl,e⟩
 |.inr x,v,h=>by let⟨t,e⟩:=Value.isStrOf_shape (x:=x) (v:=v) h;exact .inr ⟨x,t,rfl,e⟩
def wC (i:Int)(t:Tok):pC (.inl i) (.int i t)=Θ:=by simp[pC,Value.isInt]
def wF (x:Str)(t:Tok):pC (.inr x) (.str x t)=Θ:=by simp[pC,Value.isStrOf]
def EA (a b:Int):decide ((Sum.inl a:Key)=Sum.inl b)=(a == b):=by
 by_cases e:a=b
 ·subst e;simp
 ·let h:¬(Sum.inl a:Key)=Sum.inl b:=λq=>e (Sum.inl.inj q);rw[N_ h];exact(beq_eq_false_iff_ne.mpr e).symm
def EB (a b:Str):decide ((Sum.inr a:Key)=Sum.inr b)=decide (a=b):=by
 by_cases e:a=b
 ·subst e;simp
 ·let h:¬(Sum.inr a:Key)=Sum.inr b:=λq=>e (Sum.inr.inj q);rw[N_ h,N_ e]
def EC (a:Int)(b:Str):decide ((Sum.inl a:Key)=Sum.inr b)=Ξ:=N_ (λq=>nomatch q)
def ED (a:Str)(b:Int):decide ((Sum.inr a:Key)=Sum.inl b)=Ξ:=N_ (λq=>nomatch q)
abbrev i7 (prog:Ε)(w:Β):PySem.KeyKind prog w Key where
 is:=pC
 hash:=JY w
 inj:=λv a b g c=>by
  rcases iV g with⟨i,t,rfl,rfl⟩|⟨x,t,rfl,rfl⟩
  ·rcases iV c with⟨j,u,rfl,e⟩|⟨y,u,rfl,e⟩
   ·injection e with E _;rw[E]
   ·exact nomatch e
  ·rcases iV c with⟨j,u,rfl,e⟩|⟨y,u,rfl,e⟩
   ·exact nomatch e
   ·injection e with E _;rw[E]
 byValue:=λk v h=>by rcases iV h with⟨i,t,rfl,rfl⟩|⟨x,t,rfl,rfl⟩<;>rfl
 pyHash:=λH h=>by
  rcases iV H with⟨i,t,rfl,rfl⟩|⟨x,t,rfl,rfl⟩
  ·exact wpAny_pyHash_int h
  ·exact wpAny_pyHash_str h
 eqBool:=λf H h=>by
  rcases iV f with⟨i,t,rfl,rfl⟩|⟨x,t,rfl,rfl⟩
  ·rcases iV H with⟨j,u,rfl,rfl⟩|⟨y,u,rfl,rfl⟩
   ·rw[EA]at h;exact wpAny_eqBool_int h
   ·rw[EC]at h;exact SeqAt.EqAt.int_str i t y u _ _ _ _ h
  ·rcases iV H with⟨j,u,rfl,rfl⟩|⟨y,u,rfl,rfl⟩
   ·rw[ED]at h;exact SeqAt.EqAt.str_int x t j u _ _ _ _ h
   ·rw[EB]at h;exact wpAny_eqBool_str h
 «strs»:=λk x t v h=>by
  rcases iV h with⟨i,u,rfl,e⟩|⟨y,u,rfl,e⟩
  ·exact nomatch e
  ·injection e with E _;subst E;cases v<;>rfl
def qZ (prog:Ε)(w:Β)(i:Int)(t:Tok):(i7 prog w).is (.inl i) (.int i t)=Θ:=wC i t
def ra (prog:Ε)(w:Β)(x:Str)(t:Tok):(i7 prog w).is (.inr x) (.str x t)=Θ:=wF x t
inductive V where
 | L|b (b:Bool)|i (i:Int)|s (x:Str)|V (b:Array UInt8)|Y (b:UInt64)|r (a:Ω)|t (n:String)
 deriving DecidableEq
def RelV:V->Ψ->Prop
 |.L,u=>u=Value.none
 |.b b,u=>u=Value.bool b
 |.i i,u=>∃t,u=Value.int i t
 |.s x,u=>∃t,u=Value.str x t
 |.V b,u=>∃t,u=Value.bytes b t
 |.Y b,u=>∃t,u=Value.float b t
 |.r a,u=>u=θ a
 |.t n,u=>u=Value.type n
@[reducible]def _root_.Í:=List Ψ
@[reducible]def _root_.Ï:=List V
@[reducible]def Vals:Ï->Í->Prop:=Paired RelV
theorem Vals.length (r:Vals x u):x.length=u.length:=Paired.length r
theorem Vals.get:∀ {X:Ï}{U:Í}{i:Nat}{x:V},Vals X U->X[i]? = Δ x->∃u,U[i]? = Δ u/\RelV x u
 |_,_,_,_,.nil,e=>by simp at e
 |_,_,0,_,.cons r _,e=>by simp at e;subst e;exact⟨_,rfl,r⟩
 |_,_,i+1,x,.cons _ t,e=>by let⟨u,H,h⟩:=Vals.get (i:=i) (x:=x) t (by simpa using e);exact⟨u,by simpa using H,h⟩
theorem Vals.set (r:RelV x u):∀ {X:Ï}{U:Í} (i:Nat),Vals X U->Vals (X.set i x) (U.set i u)
 |_,_,_,.nil=>.nil
 |_,_,0,.cons _ t=>.cons r t
 |_,_,i+1,.cons q t=>.cons q (Vals.set r i t)
theorem Vals.append:∀ {x ys:Ï}{u ws:Í},Vals x u->Vals ys ws->Vals (x++ys) (u++ws)
 |_,_,_,_,.nil,s=>s
 |_,_,_,_,.cons r t,s=>.cons r (Vals.append t s)
theorem Vals.take:∀ {x:Ï}{u:Í} (n:Nat),Vals x u->Vals (x.take n) (u.take n)
 |_,_,0,_=>.nil
 |_,_,_+1,.nil=>.nil
 |_,_,n+1,.cons r t=>.cons r (Vals.take n t)
theorem Vals.drop:∀ {x:Ï}{u:Í} (n:Nat),Vals x u->Vals (x.drop n) (u.drop n)
 |_,_,0,r=>r
 |_,_,_+1,.nil=>.nil
 |_,_,n+1,.cons _ t=>Vals.drop n t
def o5:Option V->Option Ψ->Prop
 |some v,Δ u=>RelV v u
 |none,Φ=>True
 |_,_=>False
def KV {a:Type}:List (a×V)->List (a×Ψ)->Prop:=Paired λ(p:a×V) (q:a×Ψ)=>p.1=q.1/\RelV p.2 q.2
abbrev kV:Key->V
 |.inl i=>.i i
 |.inr x=>.s x
inductive HO where
 | l (xs:Ï)
 | t (xs:Ï)
 | d (kvs:List (Key×V))|D (kvs:List (List Key×V))
 | s (S:Int->Bool) (n:Nat)
 | i (C dx:Ω) (fs:List (Str×V))
 | o (x:Ω)
 | x (fs:List (Str×V))
 | m (f x:Ω)
 | Q (lo hi:Int)
 | L (o:Obj) (u:HO)
 | S (ps:Array Ψ)
 | e (φ:Heap->Prop)
@[reducible]def Hp:=Ω->Option HO
abbrev upd (H:Hp)(a:Ω)(o:HO):Hp:=λb=>if b=a then Δ o else H b
def iq {o:HO}:upd H a o a=Δ o:=by unfold upd;rw[e_ rfl]
def ik {o:HO}(h:b≠a):upd H a o b=H b:=by unfold upd;rw[d_ h]
def Hm {H:Hp}  (h:H a=Δ o)(h':H b=Δ u)(d:o≠u):a≠b:=by intro e;subst e;rw[h]at h';exact d (H_ h')
def iO {H:Hp}  {o:HO}(h:H a=Δ o)(h':H b=Φ):a≠b:=by intro e;subst e;rw[h]at h';cases h'
section
variable (P:Ε)(w:Β)
def iR (H:Hp)(h:Heap)(a:Ω):HO->Prop
 |.l X=>X.length<=Ζ/\∃(I:Í) (n:Nat),Vals X I/\h.get? a=Δ {cls:=.type "list",data:=.seq I.toArray n}
 |.t X=>X.length<=Ζ/\∃I:Í,Vals X I/\IsTup h a I.toArray
 |.d k=>k.length<=Ζ/\(a == sysModules)=Ξ/\∃vs,KV k vs/\h.DictOf (i7 P w) a vs
 |.D k=>k.length<=Ζ/\(a == sysModules)=Ξ/\∃X:List (List Key×Ω×Ψ),
   Paired (λ(p:List Key×V) (q:List Key×Ω×Ψ)=>p.1=q.1/\H q.2.1=Δ (.t (p.1.map kV))/\RelV p.2 q.2.2) k X/\
   ∃o E y,h.get? a=Δ o/\o.ExactDict/\o.data=.dict E y/\E.toList=X.map (entryOfKey (tupleKind (i7 P w)))/\(X.map (·.1)).Nodup
 |.s S n=>h.SetOf (intKind P w) a S n
 |.i C b fs=>H b=Δ (.o a)/\fs.length<=1000/\b≠a/\h.get? a=Δ (PySem.W.instObj C b)/\
   ∃M,h.Ns1 b M/\(∀f,o5 (fs.lookup f) (M f))/\PySem.Within M (fs.map (·.1))
 |.o _=>∃o,h.get? a=Δ o
 |.x fs=>∃M,h.Ns1 a M/\∀f,o5 (fs.lookup f) (M f)
 |.Q lo hi=>∃t u v,h.get? a=Δ {cls:=.type "range",data:=.fields #[.int lo t,.int hi u,.int 1 v]}
 |.L o u=>h.get? a=Δ o/\iR H h a u
 |.S r=>h.get? a=Δ {cls:=.none,data:=.fields r}
 |.m f x=>h.get? a=Δ (PySem.W.methodObj (.ref f) (.ref x))
 |.e c=>c h/\(∃o,h.get? a=Δ o)/\∀j g:Heap,c j->(∀o,j.get? a=Δ o->g.get? a=Δ o)->c g
def Mp (H:Hp)(h:Heap):Prop:=∀a o,H a=Δ o->iR P w H h a o
end
theorem iR.lt (x:iR P w H h a o):a < h.objs.size:=by
 cases o with
 |l X=>let⟨_,_,_,_,e⟩:=x;exact j_ e
 |t X=>let⟨_,_,_,p⟩:=x;exact p.lt
 |d k=>let⟨_,_,_,_,o,_,_,e,_⟩:=x;exact j_ e
 |D k=>let⟨_,_,_,_,o,_,_,e,_⟩:=x;exact j_ e
 |s S n=>let⟨o,_,_,_,e,_⟩:=x;exact j_ e
 |i C g fs=>let⟨_,_,_,e,_⟩:=x;exact j_ e
 |o y=>let⟨_,e⟩:=x;exact j_ e
 |x fs=>let⟨_,⟨_,_,_,e,_⟩,_⟩:=x;exact j_ e
 |Q lo hi=>let⟨_,_,_,e⟩:=x;exact j_ e
 |L O u=>let⟨e,_⟩:=x;exact j_ e
 |S c=>exact j_ (show h.get? a=Δ _ from x)
 |m f y=>exact j_ (show h.get? a=Δ _ from x)
 |e b=>let⟨_,⟨_,e⟩,_⟩:=x;exact j_ e
theorem Paired.Ta:∀ {L:List e}{l:List c},Paired F L l->(∀a b,F a b->G a b)->Paired G L l
 |_,_,.nil,_=>.nil
 |_,_,.cons r t,f=>.cons (f _ _ r) (Paired.Ta t f)
def iR.Nx (x:iR P w H h a o)(k:∀b u,(b=a∨H b=Δ (.o a))->h.get? b=Δ u->h'.get? b=Δ u)
  (J:∀b,H b=Δ (.o a)->H' b=Δ (.o a)) (G:∀b X,H b=Δ (.t X)->H' b=Δ (.t X)):iR P w H' h' a o:=by
 induction o with
 |l X=>let⟨z,I,n,r,e⟩:=x;exact⟨z,I,n,r,k _ _ (.inl rfl) e⟩
 |t X=>let⟨z,I,r,O,e,c⟩:=x;exact⟨z,I,r,O,k _ _ (.inl rfl) e,c⟩
 |d A=>let⟨z,y,vs,r,O,E,g,e,c⟩:=x;exact⟨z,y,vs,r,O,E,g,k _ _ (.inl rfl) e,c⟩
 |D A=>let⟨z,y,X,r,O,E,g,e,c⟩:=x;exact⟨z,y,X,Paired.Ta r λp q z=>⟨z.1,G _ _ z.2.1,z.2.2⟩,O,E,g,k _ _ (.inl rfl) e,c⟩
 |s S n=>let⟨O,E,g,t,e,c⟩:=x;exact⟨O,E,g,t,k _ _ (.inl rfl) e,c⟩
 |i C U fs=>let⟨d,z,ne,e,M,⟨j,E,g,N,c⟩,r⟩:=x;exact⟨J _ d,z,ne,k _ _ (.inl rfl) e,M,⟨j,E,g,k _ _ (.inr d) N,c⟩,r⟩
 |o y=>let⟨O,e⟩:=x;exact⟨O,k _ _ (.inl rfl) e⟩
 |x fs=>let⟨M,⟨j,E,g,e,c⟩,r⟩:=x;exact⟨M,⟨j,E,g,k _ _ (.inl rfl) e,c⟩,r⟩
 |Q lo hi=>let⟨t,u,v,e⟩:=x;exact⟨t,u,v,k _ _ (.inl rfl) e⟩
 |L O u F=>let⟨e,q⟩:=x;exact⟨k _ _ (.inl rfl) e,F q⟩
 |S B=>let e:h.get? a=Δ {cls:=.none,data:=.fields B}:=x;show h'.get? a=Δ {cls:=.none,data:=.fields B};exact k a _ (.inl rfl) e
 |m f y=>let e:h.get? a=Δ (PySem.W.methodObj (.ref f) (.ref y)):=x;show h'.get? a=Δ (PySem.W.methodObj (.ref f) (.ref y));exact k a _ (.inl rfl) e
 |e R=>let⟨p,⟨o,e⟩,st⟩:=x;exact⟨st _ _ p λo q=>k _ _ (.inl rfl) q,⟨o,k _ _ (.inl rfl) e⟩,st⟩
theorem Mp.lt (x:Mp P w H h)(e:H a=Δ o):a < h.objs.size:=(x a o e).lt
def Mp.fresh (x:Mp P w H h)(e:h.objs.size<=a):H a=Φ:=by
 cases q:H a with
 |none=>rfl
 |some u=>exact absurd (E_ (x.lt q) e) (aac _)
def Mp.kept (x:Mp P w H h)(k:∀b u,h.get? b=Δ u->h'.get? b=Δ u):Mp P w H h':=λa o e=>
 (x a o e).Nx (λb u _ q=>k b u q) (λ_ q=>q) λ_ _ q=>q
def Mp.laid (x:Mp P w H h)(k:∀b u,h.get? b=Δ u->h'.get? b=Δ u)(g:h.objs.size<=a)(new:iR P w (upd H a o) h' a o):Mp P w (upd H a o) h':=λb u e=>by
 let hn:=x.fresh g;by_cases f:b=a
 ·subst f;rw[iq]at e;cases e;exact new
 ·rw[ik f]at e;exact(x b u e).Nx (λc v _ q=>k c v q) (λc q=>by rw[ik (iO q hn)];exact q) λc X q=>by rw[ik (iO q hn)];exact q
def Rd (H:Hp)(a:Ω)(u:HO):Prop:=H a=Δ u∨∃o,H a=Δ (.L o u)
def Rd.ok (r:Rd H a u)(x:Mp P w H h):iR P w H h a u:=by
 rcases r with r|⟨o,r⟩
 ·exact x a u r
 ·let⟨_,q⟩:=x a _ r;exact q
def Vs:Option HO->Prop
 |some (.l _)=>True
 |some (.d _)=>True
 |some (.D _)=>True
 |some (.s _ _)=>True
 |some (.i _ _ _)=>True
 |some (.e _)=>True
 |_=>False
def Mp.write (ok:Mp P w H h)(m:Vs (H x))(i:e=x∨H e=Δ (.o x))(k:∀b u,b≠e->h.get? b=Δ u->h'.get? b=Δ u)(U:∃u,h'.get? e=Δ u)
  (new:iR P w (upd H x O) h' x O):Mp P w (upd H x O) h':=λb u q=>by
 let j:∀c y,H c=Δ (.o y)->c≠x:=λc y r z=>by subst z;rw[r]at m;exact m
 let Y:∀c X,H c=Δ (.t X)->c≠x:=λc X r z=>by subst z;rw[r]at m;exact m
 by_cases f:b=x
 ·subst f;rw[iq]at q;cases q;exact new
 ·rw[ik f]at q;by_cases g:b=e
  ·let Q:H b=Δ (.o x):=by
    rcases i with z|z
    ·exact absurd (g.trans z) f
    ·rw[g];exact z
   rw[q]at Q;cases Q;let⟨v,l⟩:=U;exact⟨v,by rw[g];exact l⟩
  ·refine(ok b u q).Nx (λc v a r=>k c v ?_ r) (λc r=>by rw[ik (j c b r)];exact r) λc X r=>by rw[ik (Y c X r)];exact r
   rcases a with rfl|a
   ·exact g
   ·rintro rfl;rcases i with z|z
    ·exact j c b a z
    ·rw[a]at z;cases z;exact f rfl
@[reducible]def _root_.Ì:=List Ω
structure Un (fs ex:Ì)(H H':Hp)(h h':Heap):Prop where
 keep:∀b o,h.get? b=Δ o->H b=Φ->b∉fs->b∉ex->h'.get? b=Δ o
 slot:∀b o,h.get? b=Δ o->H b=Φ->b∈fs->b∉ex->∃sl,h'.get? b=Δ {o with slots:=sl}
 free:∀b o,h.get? b=Δ o->H b=Φ->b∉ex->H' b=Φ
 there:∀b o,h.get? b=Δ o->b∉ex->∃o',h'.get? b=Δ o'
 Ny:∀b xs,H b=Δ (.t xs)->H' b=Δ (.t xs)
 M6:∀b o u,H b=Δ (.L o u)->H' b=Δ (.L o u)
 Om:∀b ps,H b=Δ (.S ps)->∃more,H' b=Δ (.S (ps++more))
def Un.any (u:Un fs ex H f h e)  (q:h.get? b=Δ O)(n:H b=Φ)(a:b∉ex):∃sl,e.get? b=Δ {O with slots:=sl}:=by
 by_cases c:b∈fs
 ·exact u.slot b O q n c a
 ·exact⟨O.slots,u.keep b O q n c a⟩
def Un.kept (k:∀b u,h.get? b=Δ u->h'.get? b=Δ u):Un fs ex H H h h':=
 ⟨λb O q _ _ _=>k b O q,λb O q _ _ _=>⟨O.slots,k b O q⟩,λ_ _ _ n _=>n,λb O q _=>⟨O,k b O q⟩,λ_ _ q=>q,λ_ _ _ q=>q,λ_ p q=>⟨#[],by rw[q];simp⟩⟩
def Un.refl:Un fs ex H H h h:=Un.kept λ_ _ q=>q
def Un.laid {fs ex:Ì}{H:Hp}{h h':Heap}{a:Ω}{o:HO}(k:∀b u,h.get? b=Δ u->h'.get? b=Δ u)(c:h.objs.size<=a)(hn:H a=Φ):Un fs ex H (upd H a o) h h' where
 keep:=λb u q _ _ _=>k b u q
 slot:=λb u q _ _ _=>⟨u.slots,k b u q⟩
 free:=λb u q n _=>by rw[ik (n_ (E_ (j_ q) c))];exact n
 there:=λb u q _=>⟨u,k b u q⟩
 Ny:=λb x q=>by rw[ik (iO q hn)];exact q
 M6:=λb u x q=>by rw[ik (iO q hn)];exact q
 Om:=λb p q=>⟨#[],by rw[ik (iO q hn),q];simp⟩
def Un.write (m:Vs (H x))(i:e=x∨H e=Δ (.o x))(k:∀b u,b≠e->h.get? b=Δ u->h'.get? b=Δ u)(U:∃u,h'.get? e=Δ u):Un fs ex H (upd H x o) h h':=by
 let c:∀b,H b=Φ->b≠x:=λb n z=>by subst z;rw[n]at m;exact m
 let f:∀b,H b=Φ->b≠e:=λb n z=>by
  subst z;rcases i with r|r
  ·exact c b n r
  ·rw[n]at r;cases r
 let a:∀b u,H b=Δ u->¬Vs (Δ u)->b≠x:=λb u q nm z=>by subst z;rw[q]at m;exact nm m
 refine⟨λb u q n _ _=>k b u (f b n) q,λb u q n _ _=>⟨u.slots,k b u (f b n) q⟩,λb u q n _=>by rw[ik (c b n)];exact n,λb u q _=>?_,
  λb X q=>by rw[ik (a b _ q λz=>z)];exact q,λb u X q=>by rw[ik (a b _ q λz=>z)];exact q,λb p q=>⟨#[],by rw[ik (a b _ q λz=>z),q];simp⟩⟩
 by_cases g:b=e
 ·subst g;exact U
 ·exact⟨u,k b u g q⟩
abbrev Xx (h:Heap)(H:Hp):Ì:=(List.range h.objs.size).filter λa=>(H a).isSome
abbrev qa (h:Heap)(H:Hp):Heap:=PySem.W.hideAll h (Xx h H)
def wG (h:Heap)(H:Hp):(qa h H).objs.size=h.objs.size:=PySem.W.hideAll_size _ _
def xE {o:Obj}(e:h.get? b=Δ o)(n:H b=Φ):(qa h H).get? b=Δ o:=
 PySem.W.hideAll_get _ e λa=>by let q:(H b).isSome=Θ:=(List.mem_filter.mp a).2;rw[n]at q;simp at q
def BK {o:Obj}(e:(qa h H).get? b=Δ o):h.get? b=Δ o/\H b=Φ:=by
 let E:h.get? b=Δ o:=PySem.W.of_hideAll (Xx h H) e;refine⟨E,?_⟩;cases q:H b with
 |none=>rfl
 |some x=>let a:b∈Xx h H:=List.mem_filter.mpr ⟨X_.mpr (j_ E),by simp[q]⟩;let z:(qa h H).get? b=Φ:=PySem.W.hideAll_none (Xx h H) a;rw[z]at e;cases e
structure Mod (K:Frag)(mg:Str->Option Ψ)(base:Heap):Prop where
 UQ:K.In base
 glob:base.Ns Η mg
 blt:∃mb,base.Ns builtinsNs mb/\∀x:Str,x≠"__name__"->mb x=bootBuiltins x
 nolimit:base.NoLimit
@[reducible]def _root_.Ö:=Ψ->Α->Prop
@[reducible]def _root_.Ü:=List (Ω×Obj)
@[reducible]def _root_.Æ:=List Str
structure Cx where
 prog:Ε
 w:Β
 K:Frag
 mg:Str->Option Ψ
 base:Heap
 A:Ι
 N:Æ
 Mq:Α
 P9:Hp
 env:Env
 outer:List Env
 stack:List Env
 ex:Ì
 fn:Str->Bool
 calm:Bool
 pn:Ü
 xe:Ö
abbrev NP (l:List Env):Ì:=l.filterMap (·.frame)
noncomputable abbrev Cx.fs (X:Cx):Ì:=NP X.outer
def Vu (sc:Scope)(x:Str):Prop:=sc.names.lookup x=Δ .local∨sc.names.lookup x=Δ .cell∨sc.names.lookup x=Δ .free
def Loc (sc:Scope)(x:Str):Prop:=sc.names.lookup x=Δ .local∨sc.names.lookup x=Δ .cell
def Look (env:Env)(h:Heap)(m:Str->Option Ψ)(x:Str)(u:Ψ):Prop:=
 (env.kindOf x=Δ .local/\m x=Δ u)∨((env.kindOf x=Δ .cell∨env.kindOf x=Δ .free)/\∃c,env.cells.lookup x=Δ c/\h.IsCell c (Δ u))
structure Cx.Ok (X:Cx):Prop where
 mod:Mod X.K X.mg X.base
 kind:X.env.scope.kind=.function
 glob:X.env.globals=Η
 blt:X.env.builtins=builtinsNs
 above:X.Mq.heap.objs.size<=X.env.locals
 inj:∀x y c,X.env.cells.lookup x=Δ c->X.env.cells.lookup y=Δ c->x=y
 has:∀x,(X.env.kindOf x=Δ .cell∨X.env.kindOf x=Δ .free)->∃c,X.env.cells.lookup x=Δ c
 Xy:∀x c,X.fn x=Θ->X.env.cells.lookup x=Δ c->X.Mq.heap.objs.size<=c
 hd:X.calm=Θ->X.A.handled=Φ
 frames:X.A.frames=Δ X.stack
 LP:X.stack=X.outer∨(X.stack=X.env::X.outer/\X.env.frame=Δ X.env.locals)
 Y6:∀b∈X.ex,b≠X.env.locals/\∀x c,X.env.cells.lookup x=Δ c->c≠b
 bs:∀b o,X.base.get? b=Δ o->X.Mq.heap.get? b=Δ o/\X.P9 b=Φ
 Q2:X.base.objs.size<=X.Mq.heap.objs.size
 Rv:∀b o,X.base.get? b=Δ o->b∉X.ex
 Rw:∀b∈X.ex,b∉X.fs
 Np:X.Mq.heap.FunFrames X.base X.outer
 P':∀b∈X.fs,X.P9 b=Φ
structure Inv (X:Cx)(pins:Ü)(σ:List (Option V))(H:Hp)(s:Α):Prop where
 ok:X.Ok
 os:s.os=X.Mq.os
 bare:AllBare s.gens
 base:Un X.fs X.ex X.P9 H X.Mq.heap s.heap
 loc:∃m,s.heap.Ns X.env.locals m/\∀(i:Nat) (x:Str) (v:V),X.N[i]? = Δ x->σ[i]? = Δ (Δ v)->Vu X.env.scope x->∃u,RelV v u/\Look X.env s.heap m x u
 cell:∀x c,X.env.cells.lookup x=Δ c->∃v,s.heap.IsCell c v
 free:H X.env.locals=Φ
 M4:∀x c,X.env.cells.lookup x=Δ c->H c=Φ
 pin:∀p∈X.pn++pins,s.heap.get? p.1=Δ p.2/\H p.1=Φ/\p.1≠X.env.locals/\p.1∉X.fs/\∀v,p.2.data≠.cell v
 L1:Mp X.prog X.w H s.heap
 len:σ.length=X.N.length
def Cx.Ok.Y7 {X:Cx}(ok:X.Ok)  {o:Obj}(e:X.base.get? b=Δ o):b∉X.fs:=λh=>by have:=(ok.Np.mem h).1;rw[e]at this;cases this
theorem Inv.bs (I:Inv X p a H s):∀b o,X.base.get? b=Δ o->s.heap.get? b=Δ o/\H b=Φ:=λb o e=>
 ⟨I.base.keep b o (I.ok.bs b o e).1 (I.ok.bs b o e).2 (I.ok.Y7 e) (I.ok.Rv b o e),I.base.free b o (I.ok.bs b o e).1 (I.ok.bs b o e).2 (I.ok.Rv b o e)⟩
def Inv.bk (I:Inv X p a H s):∀b o,X.base.get? b=Δ o->s.heap.get? b=Δ o:=λb o e=>(I.bs b o e).1
theorem Inv.mod (I:Inv X p a H s):Mod X.K X.mg X.base:=I.ok.mod
def Inv.Oo (I:Inv X p a H s):X.K.In s.heap:=I.ok.mod.UQ.keeps I.bk
theorem Inv.lt (I:Inv X p a H s):X.env.locals < s.heap.objs.size:=let ⟨_,hn,_⟩:=I.loc;hn.lt
def Inv.sz (I:Inv X p a H s):X.Mq.heap.objs.size<=s.heap.objs.size:=Q_ I.ok.above (Nat.le_of_lt I.lt)
def Inv.Y8 (I:Inv X p e H s)  (h:s.heap.objs.size<=a):a∉X.fs:=λc=>by let⟨_,o,b,_⟩:=I.ok.Np.mem c;exact absurd (E_ (j_ b) (Q_ I.sz h)) (aac _)
def Inv.Td (I:Inv X p b H s):∀x c,X.env.cells.lookup x=Δ c->c≠X.env.locals:=λx c e z=>by let⟨v,o,a,hd⟩:=I.cell x c e;let⟨m,⟨O,E,f,Q,h,_⟩,_⟩:=I.loc;rw[z,Q]at a;cases a;rw[h]at hd;cases hd
theorem Inv.Np (I:Inv X p n H s):s.heap.FunFrames X.base X.outer:=by
 let all:∀(l:List Env),(∀b∈NP l,b∈X.fs)->X.Mq.heap.FunFrames X.base l->s.heap.FunFrames X.base l:=by
  intro l
  induction l with
  |nil=>intro _ _;trivial
  |cons env r i=>intro f k;let⟨m,⟨L,o,h,hn,j,hd⟩,g⟩:=k;let c:L∈X.fs:=f L (by unfold NP;rw[List.filterMap_cons,h];exact aaR);let⟨sl,e⟩:=I.base.slot L o j (I.ok.P' L c) c λz=>I.ok.Rw L z c;exact⟨m,⟨L,_,h,hn,e,hd⟩,i (λb a=>f b (by unfold NP;rw[List.filterMap_cons,h];exact J_ _ a)) g⟩
 exact all X.outer (λ_ a=>a) I.ok.Np
theorem Inv.stack (I:Inv X p a H s):s.heap.FunFrames X.base X.stack:=by
 rcases I.ok.LP with e|⟨e,h⟩
 ·rw[e];exact I.Np
 ·rw[e];let⟨m,hn,_⟩:=I.loc;refine .cons (by rw[I.ok.kind];decide) h hn ?_ I.Np;exact Heap.get?_none_of_le (Q_ I.ok.Q2 I.ok.above)
def Inv.Pd (I:Inv X p c H s):∀b∈NP X.stack,b∈X.env.locals::X.fs:=λb h=>by
 rcases I.ok.LP with e|⟨e,a⟩
 ·rw[e]at h;exact J_ _ h
 ·rw[e]at h;unfold NP at h;rw[List.filterMap_cons,a]at h;exact h
def Inv.PF (I:Inv X p c H s):∀b∈NP X.stack,H b=Φ:=λb h=>by
 rcases k_.mp (I.Pd b h) with e|h
 ·rw[e];exact I.free
 ·let⟨_,o,a,_⟩:=I.ok.Np.mem h;exact I.base.free b o a (I.ok.P' b h) λz=>I.ok.Rw b z h
def Inv.step {X:Cx}{P:Ü}{F:List (Option V)}{H H':Hp}{s:Α}{h':Heap}{g':Array GenState}{t':Nat}{d':Drawn}{ch:Ì}(I:Inv X P F H s)
  (Q:∀b∈ch,(b∈X.ex∨X.Mq.heap.objs.size<=b)/\b≠X.env.locals/\(∀x c,X.env.cells.lookup x=Δ c->c≠b)/\∀p∈X.pn++P,p.1≠b)
  (keep:∀b o,b≠X.env.locals->b∉X.fs->b∉ch->s.heap.get? b=Δ o->H b=Φ->h'.get? b=Δ o)
  (slot:∀b o,b≠X.env.locals->b∈X.fs->b∉ch->s.heap.get? b=Δ o->H b=Φ->∃sl,h'.get? b=Δ {o with slots:=sl}) (free:∀b o,b∉ch->s.heap.get? b=Δ o->H b=Φ->H' b=Φ)
  (there:∀b o,b∉ch->s.heap.get? b=Δ o->∃O,h'.get? b=Δ O)
  (Ny:∀b a,H b=Δ (.t a)->H' b=Δ (.t a)) (M6:∀b o u,H b=Δ (.L o u)->H' b=Δ (.L o u)) (Om:∀b y,H b=Δ (.S y)->∃M,H' b=Δ (.S (y++M)))
  (ns:∀m,s.heap.Ns X.env.locals m->h'.Ns X.env.locals m) (L1:Mp X.prog X.w H' h') (Y:AllBare g') :
  Inv X P F H' {s with heap:=h',gens:=g',drawn:=d',toks:=t'}:=by
 let N:∀b o,X.Mq.heap.get? b=Δ o->b≠X.env.locals:=λb o e=>n_ (E_ (j_ e) I.ok.above);let A:∀b o,X.Mq.heap.get? b=Δ o->b∉X.ex->b∉ch:=λb o e h f=>by
  rcases(Q b f).1 with z|z
  ·exact h z
  ·exact absurd (E_ (j_ e) z) (aac _)
 let C:∀x c,X.env.cells.lookup x=Δ c->∀v,s.heap.IsCell c v->h'.IsCell c v:=λx c e v ⟨o,g,hd⟩=>by
  let w:c∉ch:=λz=>(Q c z).2.2.1 x c e rfl;by_cases J:c∈X.fs
  ·let⟨sl,q⟩:=slot c o (I.Td x c e) J w g (I.M4 x c e);exact⟨_,q,hd⟩
  ·exact⟨o,keep c o (I.Td x c e) J w g (I.M4 x c e),hd⟩
 refine⟨I.ok,I.os,Y,⟨λb o e n f h=>?_,λb o e n f h=>?_,λb o e n h=>?_,λb o e h=>?_,λb a e=>Ny b a (I.base.Ny b a e),λb o a e=>M6 b o a (I.base.M6 b o a e),λb y e=>?_⟩,?_,λx c e=>?_,?_,λx c e=>?_,λp G=>?_,L1,I.len⟩
 ·exact keep b o (N b o e) f (A b o e h) (I.base.keep b o e n f h) (I.base.free b o e n h)
 ·let⟨sl,E⟩:=I.base.slot b o e n f h;let⟨B,j⟩:=slot b _ (N b o e) f (A b o e h) E (I.base.free b o e n h);exact⟨B,j⟩
 ·let⟨O,E⟩:=I.base.there b o e h;exact free b O (A b o e h) E (I.base.free b o e n h)
 ·let⟨O,E⟩:=I.base.there b o e h;exact there b O (A b o e h) E
 ·let⟨U,E⟩:=I.base.Om b y e;let⟨R,j⟩:=Om b _ E;exact⟨U++R,by rw[j,Array.append_assoc]⟩
 ·let⟨m,hn,W⟩:=I.loc;refine⟨m,ns m hn,λi x v E j e3=>?_⟩;let⟨u,r,l⟩:=W i x v E j e3;refine⟨u,r,?_⟩;rcases l with l|⟨k,c,e,z⟩
  ·exact .inl l
  ·exact .inr ⟨k,c,e,C x c e _ z⟩
 ·let⟨v,z⟩:=I.cell x c e;exact⟨v,C x c e v z⟩
 ·let⟨m,⟨o,_,_,g,_⟩,_⟩:=I.loc;exact free _ o (λz=>(Q _ z).2.1 rfl) g I.free
 ·let⟨v,o,g,hd⟩:=I.cell x c e;exact free c o (λz=>(Q c z).2.2.1 x c e rfl) g (I.M4 x c e)
 ·let⟨e,n,ne,nf,d⟩:=I.pin p G;let w:p.1∉ch:=λz=>(Q p.1 z).2.2.2 p G rfl;exact⟨keep p.1 p.2 ne nf w e n,free p.1 p.2 w e n,ne,nf,d⟩
def Inv.un (I:Inv X p c H s)(u:Un X.fs [] H H' s.heap h')(L1:Mp X.prog X.w H' h'):Inv X p c H' {s with heap:=h',toks:=t'}:=by
 let⟨m,⟨o,i,j,a,r⟩,_⟩:=id I.loc;let⟨sl,g⟩:=u.any a I.free (by simp)
 exact I.step (g':=s.gens) (d':=s.drawn) (ch:=[]) (λ_ z=>nomatch z) (λb o _ h _ e n=>u.keep b o e n h (by simp)) (λb o _ h _ e n=>u.slot b o e n h (by simp)) (λb o _ e n=>u.free b o e n (by simp)) (λb o _ e=>u.there b o e (by simp)) u.Ny u.M6 u.Om (λM f=>by
  let⟨O,E,Y,Q,R⟩:=f;rw[a]at Q;cases Q
  exact⟨_,E,Y,g,R⟩) L1 I.bare
def Inv.call (I:Inv X P g H s)(u:Un (NP X.stack) ch H H' s.heap h')(L1:Mp X.prog X.w H' h')(j:AllBare g')
  (Q:∀b∈ch,(b∈X.ex∨X.Mq.heap.objs.size<=b)/\b≠X.env.locals/\(∀x c,X.env.cells.lookup x=Δ c->c≠b)/\∀p∈X.pn++P,p.1≠b) :
  Inv X P g H' {s with heap:=h',gens:=g',drawn:=d',toks:=t'}:=by
 let⟨m,⟨o,l,v,f,r⟩,_⟩:=id I.loc;let⟨sl,a⟩:=u.any f I.free λz=>(Q _ z).2.1 rfl
 exact I.step (ch:=ch) Q (λb o a k h e n=>u.keep b o e n (λz=>(k_.mp (I.Pd b z)).elim a k) h) (λb o _ _ h e n=>u.any e n h) (λb o h e n=>u.free b o e n h) (λb o h e=>u.there b o e h) u.Ny u.M6 u.Om (λM i=>by
  let⟨O,E,Y,q,R⟩:=i;rw[f]at q;cases q
  exact⟨_,E,Y,a,R⟩) L1 j
def Inv.turned (I:Inv X P f H s)(k:∀b o,b≠i->s.heap.get? b=Δ o->h'.get? b=Δ o)(hn:H i=Φ)(a:i≠X.env.locals)
  (A:i∈X.ex∨X.Mq.heap.objs.size<=i) (y:∀x c,X.env.cells.lookup x=Δ c->c≠i) (w:∀p∈X.pn++P,p.1≠i):Inv X P f H {s with heap:=h',toks:=t'}:=by
 let S:∀b u,H b=Δ u->b≠i:=λb u e z=>by rw[z,hn]at e;cases e
 refine I.step (g':=s.gens) (d':=s.drawn) (ch:=[i]) (λb l=>?_) (λb o _ _ h e _=>k b o (λz=>h (by simp[z])) e) (λb o _ _ h e _=>⟨o.slots,k b o (λz=>h (by simp[z])) e⟩) (λ_ _ _ _ n=>n)
  (λb o h e=>⟨o,k b o (λz=>h (by simp[z])) e⟩) (λ_ _ e=>e) (λ_ _ _ e=>e) (λb C e=>⟨#[],by rw[e];simp⟩) (λm j=>?_) (λb u e=>?_) I.bare
 ·let e:b=i:=by simpa using l
  subst e;exact⟨A,a,y,w⟩
 ·let⟨o,E,B,g,r⟩:=j;exact⟨o,E,B,k _ o (Ne.symm a) g,r⟩
 ·refine(I.L1 b u e).Nx (λc v h q=>k c v ?_ q) (λ_ q=>q) λ_ _ q=>q;rcases h with z|z
  ·rw[z];exact S b u e
  ·exact S c _ z
def Inv.tok (I:Inv X p a H s)(t:Nat):Inv X p a H {s with toks:=t}:=I.un (h':=s.heap) (t':=t) Un.refl I.L1
theorem Inv.kept (I:Inv X p a H s)(k:∀b u,s.heap.get? b=Δ u->h'.get? b=Δ u):Inv X p a H {s with heap:=h',toks:=t'}:=I.un (Un.kept k) (I.L1.kept k)
theorem Inv.laid {o:HO}  (I:Inv X p c H s)(k:∀b u,s.heap.get? b=Δ u->h'.get? b=Δ u)(h:s.heap.objs.size<=a)(new:iR X.prog X.w (upd H a o) h' a o) :
  Inv X p c (upd H a o) {s with heap:=h',toks:=t'}:=I.un (Un.laid k h (I.L1.fresh h)) (I.L1.laid k h new)
theorem Inv.write {o:HO}  (I:Inv X p a H s)(m:Vs (H x))(h:e=x∨H e=Δ (.o x))(k:∀b u,b≠e->s.heap.get? b=Δ u->h'.get? b=Δ u)(U:∃u,h'.get? e=Δ u)
  (new:iR X.prog X.w (upd H x o) h' x o):Inv X p a (upd H x o) {s with heap:=h',toks:=t'}:=I.un (Un.write m h k U) (I.L1.write m h k U new)
def Inv.PH (I:Inv X P a H s)(h:∀p∈c,s.heap.get? p.1=Δ p.2/\H p.1=Φ/\p.1≠X.env.locals/\p.1∉X.fs/\∀v,p.2.data≠.cell v):Inv X c a H s:=
 ⟨I.ok,I.os,I.bare,I.base,I.loc,I.cell,I.free,I.M4,λp b=>(w_.mp b).elim (λz=>I.pin p (u_ _ z)) (h p),I.L1,I.len⟩
def rb {N:Æ}(h:N.Nodup){i j:Nat}{x:Str}(a:N[i]? = Δ x)(b:N[j]? = Δ x):i=j:=by let⟨c,E⟩:=v_.mp a;let⟨H,e⟩:=v_.mp b;exact(List.getElem_inj h).mp (E.trans e.symm)
def pE (I:Inv X P σ H s)(hN:X.N.Nodup)(hi:X.N[i]? = Δ x)(B:Loc X.env.scope x)(r:RelV v u)
  (h:∀Y,Inv X P (σ.set i (Δ v)) H Y->(∃a,Heap.SameBut a s.heap Y.heap/\(a=X.env.locals∨X.env.cells.lookup x=Δ a))->Q () Y) (hf:X.fn x=Θ∨X.env.scope.names.lookup x=Δ .local:=by first|exact .inl rfl|exact .inr rfl|assumption):Κ M A (storeName X.env x u) Q E s:=by
 let⟨m,hn,hl⟩:=id I.loc;let Y':(X.env.scope.kind == .class||(X.env.scope.kind == .module&&X.env.locals != X.env.globals))=Ξ:=by rw[I.ok.kind];rfl
 let Vx:i < σ.length:=by rw[I.len];exact(v_.mp hi).1
 let Td:=I.Td;let g:∀ {a:Ω}{L:Heap},(∃o,s.heap.get? a=Δ o/\H a=Φ)->Heap.SameBut a s.heap L->Mp X.prog X.w H L:=λ{a L} ha f b ob e=>by
  let⟨_,_,PJ⟩:=ha;refine(I.L1 b ob e).Nx (λc W w q=>(f.2 c ?_).trans q) (λ_ q=>q) λ_ _ q=>q;rintro rfl;rcases w with rfl|w
  ·rw[PJ]at e;cases e
  ·rw[PJ]at w;cases w
 rcases B with F|F
 ·refine wpAny_storeName_local F hn (λL Nz f=>?_) Y';let⟨oL,_,_,hoL,_⟩:=id hn;refine h _ ⟨I.ok,I.os,I.bare,⟨λb o e n J B=>?_,λb o e n J B=>?_,I.base.free,λb o e B=>?_,I.base.Ny,I.base.M6,I.base.Om⟩,⟨_,Nz,λj y S l C e3=>?_⟩,λy c e=>?_,I.free,I.M4,λp hp=>?_,g ⟨oL,hoL,I.free⟩ f,by simpa using I.len⟩ ⟨_,f,.inl rfl⟩
  ·exact(f.2 b (n_ (E_ (j_ e) I.ok.above))).trans (I.base.keep b o e n J B)
  ·let⟨sl,l⟩:=I.base.slot b o e n J B;exact⟨sl,(f.2 b (n_ (E_ (j_ e) I.ok.above))).trans l⟩
  ·let⟨o',l⟩:=I.base.there b o e B;exact⟨o',(f.2 b (n_ (E_ (j_ e) I.ok.above))).trans l⟩
  ·by_cases G:j=i
   ·subst G;rw[hi]at l;cases l;rw[List.getElem?_set_self Vx]at C;cases C;exact⟨u,r,.inl ⟨F,by simp⟩⟩
   ·rw[aaD (Ne.symm G)]at C;let⟨U,r',q⟩:=hl j y S l C e3;refine⟨U,r',?_⟩;rcases q with⟨k,e⟩|⟨k,c,e,z⟩
    ·refine .inl ⟨k,?_⟩;have:y≠x:=λe=>G (rb hN l (e ▸ hi));simp[this,e]
    ·exact .inr ⟨k,c,e,z.sameBut f (Td y c e)⟩
  ·let⟨W,z⟩:=I.cell y c e;exact⟨W,z.sameBut f (Td y c e)⟩
  ·let⟨e,n,ne,nf,d⟩:=I.pin p hp;exact⟨(f.2 p.1 ne).trans e,n,ne,nf,d⟩
 ·let Qz:X.fn x=Θ:=by
   rcases hf with z|z
   ·exact z
   ·rw[z]at F;cases F
  let⟨c,w⟩:=I.ok.has x (.inl F);let⟨W,z⟩:=I.cell x c w;refine wpAny_storeName_cell I.ok.kind F w z (λL UR f=>?_);let⟨oc,N,Za⟩:=id z;refine h {s with heap:=L} ⟨I.ok,I.os,I.bare,⟨λb o e n J B=>?_,λb o e n J B=>?_,I.base.free,λb o e B=>?_,I.base.Ny,I.base.M6,I.base.Om⟩,⟨m,hn.sameBut f (Ne.symm (Td x c w)),λj y S l C e3=>?_⟩,λy R e=>?_,I.free,I.M4,λp hp=>?_,g ⟨oc,N,I.M4 x c w⟩ f,by simpa using I.len⟩ ⟨c,f,.inr w⟩
  ·exact(f.2 b (n_ (E_ (j_ e) (I.ok.Xy x c Qz w)))).trans (I.base.keep b o e n J B)
  ·let⟨sl,l⟩:=I.base.slot b o e n J B;exact⟨sl,(f.2 b (n_ (E_ (j_ e) (I.ok.Xy x c Qz w)))).trans l⟩
  ·let⟨o',l⟩:=I.base.there b o e B;exact⟨o',(f.2 b (n_ (E_ (j_ e) (I.ok.Xy x c Qz w)))).trans l⟩
  ·by_cases G:j=i
   ·subst G;rw[hi]at l;cases l;rw[List.getElem?_set_self Vx]at C;cases C;exact⟨u,r,.inr ⟨.inl F,c,w,UR⟩⟩
   ·rw[aaD (Ne.symm G)]at C;let⟨U,r',q⟩:=hl j y S l C e3;refine⟨U,r',?_⟩;rcases q with q|⟨k,R,e,z'⟩
    ·exact .inl q
    ·refine .inr ⟨k,R,e,z'.sameBut f ?_⟩;rintro rfl;exact G (rb hN l (I.ok.inj _ _ _ e w ▸ hi))
  ·by_cases O:R=c
   ·subst O;exact⟨_,UR⟩
   ·let⟨w2,z2⟩:=I.cell y R e;exact⟨w2,z2.sameBut f O⟩
  ·let⟨e,n,ne,nf,d⟩:=I.pin p hp;refine⟨(f.2 p.1 ?_).trans e,n,ne,nf,d⟩;intro q;rw[q,N]at e;let q':oc=p.2:=H_ e;exact d W (by rw[<- q'];exact Za)
def rf (I:Inv X p a H s)(e:X.N.Nodup)(hi:X.N[i]? = Δ x)(b:Loc X.env.scope x)(r:RelV v u)
  (h:∀S,Inv X p (a.set i (Δ v)) H S->Q () S) (c:X.fn x=Θ∨X.env.scope.names.lookup x=Δ .local:=by first|exact .inl rfl|exact .inr rfl|assumption):Κ M A (storeName X.env x u) Q E s:=
 pE I e hi b r (λS f _=>h S f) c
def Inv.Vy (I:Inv X P a H s)(h:S.os=s.os)(u:Un (NP X.stack) ch H H' s.heap S.heap)(L1:Mp X.prog X.w H' S.heap)(g:AllBare S.gens)
  (Q:∀b∈ch,(b∈X.ex∨X.Mq.heap.objs.size<=b)/\b≠X.env.locals/\(∀x c,X.env.cells.lookup x=Δ c->c≠b)/\∀p∈X.pn++P,p.1≠b):Inv X P a H' S:=by
 let⟨j,G,i,f,O⟩:=S;let e:O=s.os:=h;subst e;exact I.call (g':=G) (t':=f) (d':=i) u L1 g Q
@[reducible]def XK:=Ψ->Option Ω->Hp->Prop
@[reducible]def St:=List (Option V)
@[reducible]def VK:=V->Hp->Prop
@[reducible]def TE:=St->Hp->VK->Prop
@[reducible]def TT:=St->Hp->(Bool->Hp->Prop)->Prop
@[reducible]def TA:=St->Hp->(Ï->Hp->Prop)->Prop
structure Ends where
 nx:St->Hp->Prop
 rt:VK
 bk:St->Hp->Prop:=λ_ _=>False
 ct:St->Hp->Prop:=λ_ _=>False
@[reducible]def TS:=Ends->St->Hp->Prop
def EP (X:Cx)(p:Ü)(a:St)(Q:VK)(u:Ψ)(s:Α):Prop:=∃v H,Inv X p a H s/\RelV v u/\Q v H
def TP (X:Cx)(p:Ü)(a:St)(Q:Bool->Hp->Prop)(b:Bool)(s:Α):Prop:=∃H,Inv X p a H s/\Q b H
def AP (X:Cx)(p:Ü)(a:St)(Q:Ï->Hp->Prop)(u:Í)(s:Α):Prop:=∃vs H,Inv X p a H s/\Vals vs u/\Q vs H
def SP (X:Cx)(p:Ü)(D:Ends)(f:Flow)(s:Α):Prop:=
 match f with
 |.next=>∃L H,Inv X p L H s/\D.nx L H
 |.brk=>∃L H,Inv X p L H s/\D.bk L H
 |.cont=>∃L H,Inv X p L H s/\D.ct L H
 |.ret u=>∃v L H,Inv X p L H s/\RelV v u/\D.rt v H
def PE (X:Cx)(e:Expr)(t:TE):Prop:=
 ∀(p:Ü) (s:Α) (a:St) (H:Hp) (Q:VK),Inv X p a H s->t a H Q->Κ (Μ X.prog X.w) X.A (eval e X.env) (EP X p a Q) X.xe s
def PT (X:Cx)(e:Expr)(t:TT):Prop:=
 ∀(p:Ü) (s:Α) (a:St) (H:Hp) (Q:Bool->Hp->Prop),Inv X p a H s->t a H Q->Κ (Μ X.prog X.w) X.A (isTrue e X.env (eval e X.env)) (TP X p a Q) X.xe s
def PW (X:Cx)(e:Expr)(t:TT):Prop:=
 ∀(w:Sem Ψ) (p:Ü) (s:Α) (a:St) (H:Hp) (Q:Bool->Hp->Prop),Inv X p a H s->t a H Q->Κ (Μ X.prog X.w) X.A (isTrue e X.env w) (TP X p a Q) X.xe s
def PW.pt (h:PW X e t):PT X e t:=h _
@[reducible]def _root_.Á:=List Expr
def PA (X:Cx)(e:Á)(t:TA):Prop:=
 ∀(pos:Pos) (p:Ü) (s:Α) (a:St) (H:Hp) (Q:Ï->Hp->Prop),Inv X p a H s->t a H Q->Κ (Μ X.prog X.w) X.A (spliced (backTo pos (Ν e X.env))) (AP X p a Q) X.xe s
def PS (X:Cx)(st:Stmt)(t:TS):Prop:=
 ∀(p:Ü) (s:Α) (a:St) (H:Hp) (D:Ends),Inv X p a H s->t D a H->Κ (Μ X.prog X.w) X.A (exec st X.env) (SP X p D) X.xe s
@[reducible]def _root_.À:=List Stmt
def OB (X:Cx)(st:À)(t:TS):Prop:=
 ∀(p:Ü) (s:Α) (a:St) (H:Hp) (D:Ends),Inv X p a H s->t D a H->Κ (Μ X.prog X.w) X.A (execs st X.env) (SP X p D) X.xe s
def L4 (h:Κ M A t Q E s)(H:∀a s,Q a s->q a s):Κ M A t q E s:=wpAny_mono h H λ_ _ x=>x
def BL (i:Nat):TE:=λa H Q=>∃v,a[i]? = Δ (Δ v)/\Q v H
def tC (v:V):TE:=λ_ H Q=>Q v H
def xF (q:X.N[i]? = Δ x)(j:Vu X.env.scope x)(hd:(x == ("__debug__" : Str))=Ξ:=by decide) (w:(x == ("__classdict__" : Str))=Ξ:=by decide):PE X (.Name x pos) (BL i):=by
 intro p s g H Q I h;let⟨v,e,h⟩:=h;let⟨m,hn,n⟩:=I.loc;let⟨u,r,l⟩:=n i x v q e j;let f:EP X p g Q u s:=⟨v,H,I,r,h⟩
 rcases l with⟨a,k⟩|⟨a,c,b,S⟩
 ·exact wpAny_Name (wpAny_loadName_local I.ok.kind a hn k f) hd
 ·rcases a with a|a
  ·exact wpAny_Name (wpAny_loadName_cell I.ok.kind a b S f) hd
  ·exact wpAny_Name (wpAny_loadName_free I.ok.kind a b S f w) hd
def EE {i j pos}:PE X (.Constant (.int i) j pos) (tC (.i i)):=λ_ _ _ H _ I h=>wpAny_Constant_int ⟨.i i,H,I.tok _,⟨_,rfl⟩,h⟩
def Hn {b j pos}:PE X (.Constant (.bool b) j pos) (tC (.b b)):=λ_ _ _ H _ I h=>Constant_bool ⟨.b b,H,I,rfl,h⟩
def EF {j pos}:PE X (.Constant .none j pos) (tC .L):=λ_ _ _ H _ I h=>Constant_none ⟨.L,H,I,rfl,h⟩
def EG {x j pos}:PE X (.Constant (.str x) j pos) (tC (.s x)):=λ_ _ _ H _ I h=>Calls.Constant_str ⟨.s x,H,I.tok _,⟨_,rfl⟩,h⟩
def Gl (X:Cx)(x:Str):Prop:=X.env.kindOf x=Δ .globalImplicit
def mi (I:Inv X p c H s)(b:Gl X x)(a:X.mg x=Δ u)(h:Q u s)
  (hd:(x == ("__debug__" : Str))=Ξ:=by decide):Κ (Μ X.prog X.w) X.A (eval (.Name x pos) X.env) Q E s:=
 Calls.Name_function_global I.ok.kind b (Calls.loadGlobal_global (by rw[I.ok.glob];exact I.mod.glob.keeps I.bk) a h) hd
def jP (I:Inv X p g H s)(c:Gl X x)(b:X.mg x=Φ)(a:bootBuiltins x=Δ u)(h:Q u s)
  (hn:x≠"__name__":=by decide) (hd:(x == ("__debug__" : Str))=Ξ:=by decide):Κ (Μ X.prog X.w) X.A (eval (.Name x pos) X.env) Q E s:=by
 let⟨m,f,e⟩:=I.mod.blt;exact Calls.Name_function_global I.ok.kind c (Calls.loadGlobal_builtin (by rw[I.ok.glob];exact I.mod.glob.keeps I.bk) b (by rw[I.ok.blt];exact f.keeps I.bk) ((e x hn).trans a) h) hd
def BM (b:Gl X x)(a:X.mg x=Δ u)(r:RelV v u)(hd:(x == ("__debug__" : Str))=Ξ:=by decide):PE X (.Name x pos) (tC v):=
 λ_ _ _ H _ I h=>mi I b a ⟨v,H,I,r,h⟩ hd
def BN (c:Gl X x)(b:X.mg x=Φ)(a:bootBuiltins x=Δ u)(r:RelV v u)(hn:x≠"__name__":=by decide) (hd:(x == ("__debug__" : Str))=Ξ:=by decide):PE X (.Name x pos) (tC v):=
 λ_ _ _ H _ I h=>jP I c b a ⟨v,H,I,r,h⟩ hn hd
def PC (X:Cx)(O:CmpOp)(a b:Expr)(t:TE):Prop:=
 ∀(p:Ü) (s:Α) (c:St) (H:Hp) (Q:VK),Inv X p c H s->t c H Q->
  Κ (Μ X.prog X.w) X.A (eval a X.env) (λv L=>Κ (Μ X.prog X.w) X.A (eval b X.env) (λu e=>Κ (Μ X.prog X.w) X.A (compareOp O v u) (EP X p c Q) X.xe e) X.xe L) X.xe s
def tB (t:TE):TT:=λa H Q=>t a H λx h=>∃c,x=.b c/\Q c h
def xG (h:PC X O a b t)(f:behindInMarks O b=Ξ:=by first|exact q _ nofun nofun|rfl):PE X (.Compare a [O] [b] pos) t:=λp s c H Q I e=>wpAny_Compare1 (h p s c H Q I e) f
def xH (h:PC X O a b t)(e:behindInMarks O b=Ξ:=by first|exact w _ nofun nofun|rfl):PT X (.Compare a [O] [b] pos) (tB t):=by intro p s f H Q I i;refine wpAny_isTrue_Compare1 (L4 (h p s f H _ I i) λv n e=>L4 e λu m j=>L4 j λc S ⟨x,l,k,r,g⟩=>?_) e;let⟨d,rfl,q⟩:=g;cases r;exact wpAny_truthy_bool ⟨l,k,q⟩
def Hq (t u:TT):TT:=λa H Q=>t a H λc h=>if c=Θ then u a h Q else Q Ξ h
def tOr (t u:TT):TT:=λa H Q=>t a H λc h=>if c=Θ then Q Θ h else u a h Q
def JZ (t:TT):TT:=λa H Q=>t a H λc h=>Q (!c) h
def BO (f:PT X a tA):PW X (.BoolOp .And [a] pos) tA:=by
 intro w p s b H Q I h;refine isTrue_and (L4 (f p s b H Q I h) λc S e=>?_);cases c with
 |true=>exact isTrue_and_nil e
 |false=>exact e
def EH (f:PT X a tA):PW X (.BoolOp .Or [a] pos) tA:=by
 intro w p s b H Q I h;refine isTrue_or (L4 (f p s b H Q I h) λc S e=>?_);cases c with
 |false=>exact isTrue_or_nil e
 |true=>exact e
def EI {rest:Á}(j:PT X a tA)(g:PW X (.BoolOp .And (b::rest) pos) z):PW X (.BoolOp .And (a::b::rest) pos) (Hq tA z):=by
 intro w p s e H Q I h;refine isTrue_and (L4 (j p s e H _ I h) λc S ⟨f,i,q⟩=>?_);cases c with
 |true=>exact g w p S e f Q i q
 |false=>exact⟨f,i,q⟩
def Hr {rest:Á}(j:PT X a tA)(g:PW X (.BoolOp .Or (b::rest) pos) z):PW X (.BoolOp .Or (a::b::rest) pos) (tOr tA z):=by
 intro w p s e H Q I h;refine isTrue_or (L4 (j p s e H _ I h) λc S ⟨f,i,q⟩=>?_);cases c with
 |true=>exact⟨f,i,q⟩
 |false=>exact g w p S e f Q i q
def EJ (e:PT X a tA):PT X (.UnaryOp .Not a pos) (JZ tA):=by intro p s b H Q I h;exact isTrue_not (e p s b H (λc f=>Q (!c) f) I h)
def xI {O}  (h:PE X a t):PE X (.BoolOp O [a] pos) t:=λp s b H Q I c=>BoolOp_one (h p s b H Q I c)
def tIf (t:TT)(b tb:TE):TE:=λa H Q=>t a H λc h=>if c=Θ then b a h Q else tb a h Q
def rh (j:PT X c tA)(l:PE X a g)(k:PE X b tb):PE X (.IfExp c a b pos) (tIf tA g tb):=by
 intro p s e H Q I h;refine wpAny_IfExp (L4 (j p s e H _ I h) λd S ⟨f,i,q⟩=>?_);cases d with
 |true=>exact l p S e f Q i q
 |false=>exact k p S e f Q i q
def MR (K:Frag)(H:Hp)(a:Ω)(x:Ï):Prop:=
 Rd H a (.l x)∨
  ∃(o:Obj) (i:Array Ψ) (n:Nat),K.lookup a=Δ o/\o.cls=.type "list"/\o.dict=Φ/\o.data=.seq i n/\i.size<=Ζ/\Vals x i.toList
def Md (K:Frag)(H:Hp)(a:Ω)(x:Ï):Prop:=
 Rd H a (.t x)∨
  ∃(o:Obj) (i:Array Ψ) (n:Nat),K.lookup a=Δ o/\o.cls=.type "tuple"/\o.data=.seq i n/\i.size<=Ζ/\Vals x i.toList
abbrev J0:Ψ->Option V
 |.none=>Δ .L
 |.bool b=>Δ (.b b)
 |.int i _=>Δ (.i i)
 |.str x _=>Δ (.s x)
 |.bytes b _=>Δ (.V b)
 |.float b _=>Δ (.Y b)
 |.ref a=>Δ (.r a)
 |.type n=>Δ (.t n)
 |_=>Φ
def RelV.abs (r:RelV x u):J0 u=Δ x:=by
 cases x with
 |L=>cases r;rfl
 |b _=>cases r;rfl
 |i _=>let⟨t,rfl⟩:=r;rfl
 |s _=>let⟨t,rfl⟩:=r;rfl
 |V _=>let⟨t,rfl⟩:=r;rfl
 |Y _=>let⟨t,rfl⟩:=r;rfl
 |r _=>cases r;rfl
 |t _=>cases r;rfl
def RelV.inj (r:RelV x u)(q:RelV y u):x=y:=H_ (r.abs.symm.trans q.abs)
theorem Vals.inj:∀ {x ys:Ï}{u:Í},Vals x u->Vals ys u->x=ys
 |_,_,_,.nil,.nil=>rfl
 |_,_,_,.cons r t,.cons R a=>by rw[r.inj R,Vals.inj t a]
def Md.of {K:Frag}(h:H a=Δ (.t x)):Md K H a x:=.inl (.inl h)
def Inv.list (I:Inv X p g H s)(h:MR X.K H a x):∃its:Í,Vals x its/\PlainL s.heap a its.toArray/\x.length<=Ζ:=by
 rcases h with h|⟨o,its,n,c,f,hd,b,i,r⟩
 ·let⟨z,its,n,r,e⟩:=h.ok I.L1;exact⟨its,r,⟨_,n,e,rfl,rfl,rfl⟩,z⟩
 ·refine⟨its.toList,r,⟨o,n,I.Oo a o c,f,hd,by simpa using b⟩,?_⟩;let e:=r.length;simp only[T_]at e;omega
def Inv.tuple (I:Inv X P g H s)(h:Md X.K H a x):∃its:Í,Vals x its/\IsTup s.heap a its.toArray/\x.length<=Ζ:=by
 rcases h with h|⟨o,its,n,c,f,b,i,r⟩
 ·let⟨z,its,r,p⟩:=h.ok I.L1;exact⟨its,r,p,z⟩
 ·refine⟨its.toList,r,⟨o,I.Oo a o c,f,n,by simpa using b⟩,?_⟩;let e:=r.length;simp only[T_]at e;omega
def Inv.My (I:Inv X p g H s)(h:MR X.K H a x)(h':MR X.K H a ys):x=ys:=by
 let⟨b,r,⟨o,n,e,_,_,d⟩,_⟩:=I.list h;let⟨i,R,⟨O,N,E,_,_,c⟩,_⟩:=I.list h';rw[e]at E;cases E;rw[d]at c;injection c with f _;have:b=i:=by simpa using congrArg Array.toList f
 subst this;exact r.inj R
def Inv.Nq (I:Inv X p g H s)(h:Md X.K H a x)(h':Md X.K H a ys):x=ys:=by
 let⟨b,r,⟨o,e,_,n,d⟩,_⟩:=I.tuple h;let⟨i,R,⟨O,E,_,N,c⟩,_⟩:=I.tuple h';rw[e]at E;cases E;rw[d]at c;injection c with f _;have:b=i:=by simpa using congrArg Array.toList f
 subst this;exact r.inj R
def Hs:TS:=λD a H=>D.nx a H
def J1 (t u:TS):TS:=λD a H=>t {D with nx:=u D} a H
def qb:OB X [] Hs:=λ_ _ a H _ I h=>wpAny_execs_nil ⟨a,H,I,h⟩
def kH {X:Cx}{st:Stmt}{rest:À}{t u:TS}(c:PS X st t)(b:OB X rest u):OB X (st::rest) (J1 t u):=by
 intro p s a H D I h;refine wpAny_execs_cons (L4 (c p s a H {D with nx:=u D} I h) λf S q=>?_);cases f with
 |next=>let⟨L,e,i,q⟩:=q;exact b p S L e D i q
 |ret v=>exact q
 |brk=>exact q
 |cont=>exact q
def Inv.quiet (I:Inv X p a H s):interactive X.env=Ξ:=by simp[interactive,I.ok.kind]
def Ht (b:TE):TS:=λD a H=>b a H λ_ h=>D.nx a h
def mj (c:PE X e b)(hs:swapsWith e Φ pos.line X.env=pure Ξ:=by rfl):PS X (.Expr e pos) (Ht b):=by intro p s a H D I h;exact wpAny_Expr_any (L4 (c p s a H _ I h) λv S ⟨x,f,i,r,q⟩=>⟨a,f,i,q⟩) I.quiet hs
def J2 (b:TE):TS:=λD a H=>b a H D.rt
def tw (c:PE X e b):PS X (.Return (Δ e) pos) (J2 b):=by intro p s a H D I h;exact wpAny_Return_some (L4 (c p s a H _ I h) λv S ⟨x,f,i,r,q⟩=>⟨x,a,f,i,r,q⟩)
def J3 (c:TT)(t u:TS):TS:=λD a H=>c a H λb h=>if b=Θ then t D a h else u D a h
def xJ (j:PT X c g)(l:OB X a t)(k:OB X b u):PS X (.If c a b pos) (J3 g t u):=by
 intro p s e H D I h;refine wpAny_If (L4 (j p s e H _ I h) λd S ⟨f,i,q⟩=>?_);cases d with
 |true=>exact l p S e f D i q
 |false=>exact k p S e f D i q
def EK:TS:=λ_ _ _=>False
def xK {X:Cx}{st:Stmt}:PS X st EK:=λ_ _ _ _ _ _ h=>h.elim
@[reducible]def TG:=V->St->Hp->(St->Hp->Prop)->Prop
@[reducible]def UT:=Ï->St->Hp->(St->Hp->Prop)->Prop
def PG (X:Cx)(a:Expr)(t:TG):Prop:=
 ∀(p:Ü) (s:Α) (b:St) (H:Hp) (v:V) (u:Ψ) (Q:St->Hp->Prop),Inv X p b H s->RelV v u->t v b H Q->
  Κ (Μ X.prog X.w) X.A (assign a X.env u) (λ_ S=>∃L h,Inv X p L h S/\Q L h) X.xe s
def Vz (X:Cx)(ts:Á)(t:UT):Prop:=
 ∀(p:Ü) (s:Α) (a:St) (H:Hp) (vs:Ï) (u:Í) (Q:St->Hp->Prop),Inv X p a H s->Vals vs u->t vs a H Q->
  Κ (Μ X.prog X.w) X.A (assignInOrder ((assignEach ts X.env).map (·.2)) u) (λ_ S=>∃L h,Inv X p L h S/\Q L h) X.xe s
@[reducible]def EL:=V->V->V->Hp->(Hp->Prop)->Prop
def EM (X:Cx)(t:EL):Prop:=
 ∀(p:Ü) (s:Α) (a:St) (H:Hp) (o i v:V) (O I u:Ψ) (Q:Hp->Prop),Inv X p a H s->RelV o O->RelV i I->RelV v u->t o i v H Q->
  Κ (Μ X.prog X.w) X.A (setItem O I u) (λ_ S=>∃h,Inv X p a h S/\Q h) X.xe s
def xM (i:Nat):TG:=λv a H Q=>Q (a.set i (Δ v)) H
def BQ (c:X.N.Nodup)(hi:X.N[i]? = Δ x)(a:Loc X.env.scope x)(b:X.fn x=Θ∨X.env.scope.names.lookup x=Δ .local:=by first|exact .inl rfl|exact .inr rfl|assumption):PG X (.Name x pos) (xM i):=by intro p s f H v u Q I r h;exact wpAny_assign_Name (rf I c hi a r (λS e=>⟨_,H,e,h⟩) b)
def Hu:UT:=λvs a H Q=>vs=[]/\Q a H
def DK (t:TG)(u:UT):UT:=λvs a H Q=>∃v r,vs=v::r/\t v a H λL h=>u r L h Q
def BR:Vz X [] Hu:=by intro p s a H vs u Q I r h;let⟨e,h⟩:=h;subst e;cases r;exact assignInOrder_nil ⟨a,H,I,h⟩
def xN (f:PG X e t)(c:Vz X E u)
  (hs:(assignEach (e::E) X.env).map (·.2)=assign e X.env::(assignEach E X.env).map (·.2):=by rfl):Vz X (e::E) (DK t u):=by
 intro p s b H vs U Q I r h;let⟨v,k,g,h⟩:=h;subst g;cases r with
 |cons r R=>rw[hs];refine assignInOrder_cons (L4 (f p s b H _ _ _ I r h) λ_ S ⟨a,j,i,q⟩=>?_);exact c p S a j _ _ Q i R q
def Hv (to b:TE)(t:EL):TG:=λv a H Q=>to a H λo e=>b a e λi c=>t o i v c λh=>Q a h
def EN {o:Expr}(k:PE X o to)(hi:PE X i c)(hs:EM X t)
  (l:∀v,assign (.Subscript o i pos) X.env v=(do
   let O <- holding [v] (eval o X.env);let a <- holding [v,O] (eval i X.env)
   standAt pos
   holding [v,O,a] (setItem O a v)
   release [v,O,a] []):=by intro _;rfl):PG X (.Subscript o i pos) (Hv to c t):=by
 intro p s b H v u Q I r h;rw[l];refine b_ (L_ (L4 (k p s b H _ I h) λO e ⟨x,B,w,f,j⟩=>?_));refine b_ (L_ (L4 (hi p e b B _ w j) λa S ⟨y,A,n,R,g⟩=>?_));refine b_ (wpAny_standAt (b_ (L_ (L4 (hs p S b A x y v O a u _ n f R r g) λ_ C ⟨z,m,q⟩=>?_))));exact wpAny_release ⟨b,z,m,q⟩
def BU (b:TE)(g:TG):TS:=λD a H=>b a H λx h=>g x a h D.nx
def xO (j:PE X e c)(i:PG X a g)(hs:swapsWithSole [a] e pos.line X.env=pure Ξ:=by rfl)(f:swappedStores [a] e X.env=pure Φ:=by rfl)
  (k:(assignEach [a] X.env).map (·.2)=[assign a X.env]:=by rfl):PS X (.Assign [a] e pos) (BU c g):=by
 intro p s b H D I h;refine wpAny_Assign_stores (L4 (j p s b H _ I h) λv S ⟨x,m,l,r,Q⟩=>?_) hs f;rw[k];exact L4 (i p S b m x v _ l r Q) λ_ n q=>q
def qc (j:X.N.Nodup)(hi:X.N[i]? = Δ x)(c:Loc X.env.scope x)(g:PE X e b)(hs:swapsWith e (Δ (.Name x p)) pos.line X.env=pure Ξ:=by rfl)(f:X.fn x=Θ∨X.env.scope.names.lookup x=Δ .local:=by first|exact .inl rfl|exact .inr rfl|assumption) :
  PS X (.Assign [.Name x p] e pos) (BU b (xM i)):=by
 intro P s a H D I h;refine wpAny_Assign_Name (L4 (g P s a H _ I h) λv n ⟨y,m,l,r,q⟩=>?_) hs;exact rf l j hi c r (λS k=>⟨_,m,k,q⟩) f
structure It where
 go:Nat->Hp->Prop
 Q3:Nat->Hp->V->Hp->Prop
 stop:Nat->Hp->Prop
def lj (X:Cx)(P:Ü)(H:Hp)(b:Ω):Prop:=
 H b=Φ/\b≠X.env.locals/\b∉X.fs/\(b∈X.ex∨X.Mq.heap.objs.size<=b)/\(∀x c,X.env.cells.lookup x=Δ c->c≠b)/\∀p∈X.pn++P,p.1≠b
def Inv.Pe (I:Inv X P f H s)(h:s.heap.objs.size<=b)(hn:H' b=Φ):lj X P H' b:=by
 refine⟨hn,U_ (E_ I.lt h),I.Y8 h,.inr (Q_ I.sz h),λx c e z=>?_,λp a z=>?_⟩
 ·let⟨v,q⟩:=I.cell x c e;exact absurd (E_ q.lt (by rw[z];exact h)) (aac _)
 ·exact absurd (E_ (j_ (I.pin p a).1) (by rw[z];exact h)) (aac _)
structure Turn (P:Ε)(w:Β)(K:Frag)(tg:Expr)(J:It)(fp:Ì)(it:Ω)(tn:Nat->Heap->Prop):Prop where
 mem:it∈fp
 obj:∀i h,tn i h->∀b∈fp,∃o,h.get? b=Δ o/\∀v,o.data≠.cell v
 keep:∀i h h',tn i h->(∀b∈fp,∀o,h.get? b=Δ o->h'.get? b=Δ o)->tn i h'
 item:∀(X:Cx),X.prog=P->X.w=w->X.K=K->X.calm=Θ->∀(i:Nat) (pins:Ü) (s:Α) (σ:St) (H:Hp) (E:Ö),Inv X pins σ H s->(∀b∈fp,lj X pins H b)->tn i s.heap->J.go i H->
  Κ (Μ P w) X.A (pyNext (.ref it)) (λr s1=>∃u,r=Δ u/\
   Κ (Μ P w) X.A (letOwnedTupleGo tg (.ref it) u) (λ_ s2=>∃x H',Inv X pins σ H' s2/\RelV x u/\J.Q3 i H x H'/\tn (i+1) s2.heap/\∀b∈fp,H' b=Φ) E s1) E s
 done:∀(X:Cx),X.prog=P->X.w=w->X.K=K->X.calm=Θ->∀(i:Nat) (pins:Ü) (s:Α) (σ:St) (H:Hp) (E:Ö),Inv X pins σ H s->(∀b∈fp,lj X pins H b)->tn i s.heap->J.stop i H->
  Κ (Μ P w) X.A (pyNext (.ref it)) (λr s1=>r=Φ/\Inv X pins σ H s1) E s
 self:∀(A:Ι) (i:Nat) (s:Α) (Q:Ö) (E:Ö),tn i s.heap->Q (.ref it) s->Κ (Μ P w) A (pyIter (.ref it)) Q E s
@[reducible]def TI:=St->Hp->(It->Hp->Prop)->Prop
def UU (X:Cx)(p:Ü)(c:St)(e:Expr)(R:It->Hp->Prop)(x:Ψ)(s:Α):Prop:=
 ∃(i:Ω) (f:Ì) (a:Nat->Heap->Prop) (J:It) (H:Hp),x=.ref i/\Inv X p c H s/\Turn X.prog X.w X.K e J f i a/\a 0 s.heap/\(∀b∈f,lj X p H b)/\R J H
def PI (X:Cx)(b iter:Expr)(w:TI):Prop:=
 ∀(p:Ü) (s:Α) (a:St) (H:Hp) (R:It->Hp->Prop),Inv X p a H s->w a H R->
  Κ (Μ X.prog X.w) X.A (eval iter X.env) (λv S=>Κ (Μ X.prog X.w) X.A (pyIter v) (UU X p a b R) X.xe S) X.xe s
def uN {o : Obj}  (b : s.heap.get? i = Δ o)(c : o.cls = .type n)(hd : o.data = .fields vs)
    (hn : ["enumerate", "zip", "dict_itemiterator", "dict_reverseitemiterator", "odict_iterator", "itertools.zip_longest", "itertools.pairwise"].contains n = Ξ) (H : Q () s) : Κ M A (letOwnedTupleGo a (.ref i) u) Q E s :=by
  unfold letOwnedTupleGo;cases a <;> first
    | exact f_ H
    | (cases u <;> first
        | exact f_ H
        | (refine b_ (wpAny_load b ?_)
           rw [c,hd];show Κ M A (if(["enumerate", "zip", "dict_itemiterator", "dict_reverseitemiterator", "odict_iterator", "itertools.zip_longest", "itertools.pairwise"].contains n&&vs[0]? == Δ (rawInt _)) = Θ then _ else _) Q E s;rw [d_ (by intro h; rw [hn,Bool.false_and]at h; cases h)]
           exact f_ H))
abbrev XB (K:Frag)(a:Ω):It:=
 ⟨λi H=>∃X x,MR K H a X/\X[i]? = Δ x,λi H x h=>h=H/\∀X,MR K H a X->X[i]? = Δ x,λi H=>∃X,MR K H a X/\X.length<=i⟩
abbrev Zc (K:Frag)(a:Ω):It:=
 ⟨λi H=>∃X x,Md K H a X/\X[i]? = Δ x,λi H x h=>h=H/\∀X,Md K H a X->X[i]? = Δ x,λi H=>∃X,Md K H a X/\X.length<=i⟩
abbrev VA (lo:Int)(n:Nat):It:=⟨λi _=>i < n,λi H x h=>h=H/\x=.i (lo+i),λi _=>n<=i⟩
def wH {P:Ε}{w:Β}{K:Frag}{U:Expr}(a g:Ω):Turn P w K U (XB K a) [g] g (λi h=>h.IsListIter g a i) where
 mem:=by simp
 obj:=λi h st b j=>by
  let e:b=g:=by simpa using j
  subst e;let⟨o,e,c,d⟩:=st;exact⟨o,e,λv z=>by rw[d]at z;cases z⟩
 keep:=λi h n st k=>st.at λo e=>k g (by simp) o e
 item:=by intro X C A F Q i f s O H E I m st B;subst C A F;let⟨S,x,l,y⟩:=B;let⟨q,r,p,Y⟩:=I.list l;let⟨u,hu,W⟩:=r.get y;let⟨N,M,f2,L,J,G⟩:=m g (by simp);refine wpAny_pyNext_list_item st p.isList (x:=u) (by simpa using hu) λn R sb=>?_;let I1:Inv X f O H {s with heap:=n}:=I.turned (t':=s.toks) (λb o j e=>(sb.2 b j).trans e) N M L J G;let⟨o,e,c,d⟩:=id R;exact⟨u,rfl,uN (s:={s with heap:=n}) e c d nofun ⟨x,H,I1,W,⟨rfl,λys hy=>by rw[I.My hy l];exact y⟩,R,λb j=>(m b j).1⟩⟩
 done:=by intro X C A F Q i f s O H E I m st B;subst C A F;let⟨S,l,y⟩:=B;let⟨q,r,p,Y⟩:=I.list l;let⟨N,M,f2,L,J,G⟩:=m g (by simp);let hl:=r.length;exact wpAny_pyNext_list_end (I.ok.hd Q) st p.isList (by simp;omega) λn eb=>⟨rfl,I.turned (t':=s.toks) (λb o j e=>eb b o j e) N M L J G⟩
 self:=λ_ _ _ _ _ st h=>wpAny_pyIter_listiter st h
def tx {P:Ε}{w:Β}{K:Frag}{U:Expr}(a j:Ω):Turn P w K U (Zc K a) [j] j (λi h=>h.IsTupleIter j a i) where
 mem:=by simp
 obj:=λi h st b l=>by
  let e:b=j:=by simpa using l
  subst e;let⟨o,e,c,d⟩:=st;exact⟨o,e,λv z=>by rw[d]at z;cases z⟩
 keep:=λi h q st k=>st.at λo e=>k j (by simp) o e
 item:=by intro X C A F Q i f s O H E I n st B;subst C A F;let⟨S,x,m,y⟩:=B;let⟨g,r,p,Y⟩:=I.tuple m;let⟨u,hu,W⟩:=r.get y;let⟨N,M,f2,L,J,G⟩:=n j (by simp);refine wpAny_pyNext_tuple_item st (show s.heap.IsTuple a g.toArray from p) (x:=u) (by simpa using hu) λq R sb=>?_;let I1:Inv X f O H {s with heap:=q}:=I.turned (t':=s.toks) (λb o l e=>(sb.2 b l).trans e) N M L J G;let⟨o,e,c,d⟩:=id R;exact⟨u,rfl,uN (s:={s with heap:=q}) e c d nofun ⟨x,H,I1,W,⟨rfl,λys hy=>by rw[I.Nq hy m];exact y⟩,R,λb l=>(n b l).1⟩⟩
 done:=by intro X C A F Q i f s O H E I n st B;subst C A F;let⟨S,m,y⟩:=B;let⟨g,r,p,Y⟩:=I.tuple m;let⟨N,M,f2,L,J,G⟩:=n j (by simp);let hl:=r.length;exact wpAny_pyNext_tuple_end (I.ok.hd Q) st (show s.heap.IsTuple a g.toArray from p) (by simp;omega) λq eb=>⟨rfl,I.turned (t':=s.toks) (λb o l e=>eb b o l e) N M L J G⟩
 self:=λ_ _ _ _ _ st h=>wpAny_pyIter_tupleiter st h
def tD {P:Ε}{w:Β}{K:Frag}{J:Expr}(a:Ω)(lo:Int)(n:Nat):Turn P w K J (VA lo n) [a] a (λi h=>IsRangeIter h a (lo+(i:Nat)*1) ((n:Int) - (i:Nat)) 1) where
 mem:=by simp
 obj:=λi h st b c=>by
  let e:b=a:=by simpa using c
  subst e
  exact⟨_,st,λv z=>by
   let G:Data.fields _=Data.cell v:=z
   cases G⟩
 keep:=λi h g st k=>k a (by simp) _ st
 item:=by intro X q j r m i p s B H E I f st l;subst q j r;let⟨A,y,N,x,u,F⟩:=f a (by simp);let W:=Walks.range (prog:=X.prog) (w:=X.w) (I.ok.hd m) a lo 1 n;refine W.item i s _ _ l st λv g C M Q L=>?_;let⟨t,rfl⟩:=M;let R:Inv X p B H {s with heap:=g,toks:=C}:=I.turned (λb o c e=>L b o (by simpa using c) e) A y x u F;refine⟨_,rfl,uN (s:={s with heap:=g,toks:=C}) (n:="range_iterator") Q rfl rfl nofun ⟨.i (lo+i),H,R,⟨t,?_⟩,⟨rfl,rfl⟩,Q,λb c=>(f b c).1⟩⟩;rw[Int.mul_one]
 done:=by intro X q j r m i p s B H E I f st l;subst q j r;let⟨A,y,N,x,u,F⟩:=f a (by simp);exact wpAny_pyNext_range_end (I.ok.hd m) st (by have:n<=i:=l;omega) λg O=>⟨rfl,I.turned (t':=s.toks) (λb o c e=>O b o c e) A y x u F⟩
 self:=λ_ _ _ _ _ st h=>wpAny_pyIter_rangeiter st h
def xP {lo:Int}(I:Inv X p a H s)(k : -(2 ^ 62)<=lo)(j:lo < 2 ^ 62)(g : -(2 ^ 62)<=hi)(f:hi < 2 ^ 62)
  (q:R (VA lo (hi - lo).toNat) H):Κ (Μ X.prog X.w) X.A (pyIter (.ref s.heap.objs.size)) (UU X p a n R) E {s with heap:=s.heap.push {cls:=.type "range",data:=.fields #[.int lo t,.int hi u,.int 1 v]},toks:=c}:=by
 refine wpAny_pyIter_range (IsRange.new ..) (small_one k j g f) ?_;let i:Inv X p a H {s with heap:=s.heap.push {cls:=.type "range",data:=.fields #[.int lo t,.int hi u,.int 1 v]},toks:=c}:=I.kept λb o e=>m_ _ e
 refine⟨(s.heap.push {cls:=.type "range",data:=.fields #[.int lo t,.int hi u,.int 1 v]}).objs.size,[(s.heap.push {cls:=.type "range",data:=.fields #[.int lo t,.int hi u,.int 1 v]}).objs.size],_,_,H,rfl,
  i.kept (t':=c) λb o e=>m_ _ e,tD _ lo (hi - lo).toNat,?_,λb h=>?_,q⟩
 ·let m:lo+((0:Nat):Int)*1=lo:=by simp
  let l:(((hi - lo).toNat:Nat):Int) - ((0:Nat):Int)=Builtin.Range.rangeSize lo hi 1:=by rw[rangeSize_one];split<;>omega
  show IsRangeIter _ _ (lo+((0:Nat):Int)*1) ((((hi - lo).toNat:Nat):Int) - ((0:Nat):Int)) 1;rw[m,l];exact A_ _ rfl
 ·let e:b=(s.heap.push {cls:=.type "range",data:=.fields #[.int lo t,.int hi u,.int 1 v]}).objs.size:=by simpa using h
  subst e;exact i.Pe (o_ _) (i.L1.fresh (o_ _))
def Hw (b:TA):TI:=λa H R=>b a H λvs h=>∃j:Int,vs=[.i j]/\-(2 ^ 62)<=j/\j < 2 ^ 62/\R (VA 0 j.toNat) h
def pF (l:Gl X "range") (k:X.mg "range" = Φ) (m:PA X [a] c) (hs:Ν [a] X.env=[(Ξ,eval a X.env)]:=by rfl):PI X v (.Call (.Name "range" p) [a] [] pos) (Hw c):=by
 intro P s b H R I h;refine Call_ (jP I l k boot_range (aax (L4 (m pos P s b H _ I h) λu S ⟨vs,w,n,g,Q⟩=>?_) hs rfl));let⟨j,e,Q,i,q⟩:=Q;subst e;cases g with
 |cons r f=>cases f;let⟨t,rfl⟩:=r;exact call_range_1 (xP n ⋯ ⋯ Q i (by simpa using q))
def J4 (w:TI)(g:TG)(tb:TS):TS:=λD a H=>w a H λJ c=>∃W:Nat->Nat->St->Hp->Prop,(∃m,W 0 m a c)/\∀i m a H,W i m a H->
 (J.stop i H/\D.nx a H)∨(J.go i H/\∃N:St->Hp->Prop,(∀L h,N L h->∃M,M < m/\W (i+1) M L h)/\∀x h,J.Q3 i H x h->g x a h λO b=>tb {D with nx:=N,ct:=N,bk:=D.nx} O b)
abbrev mO (f:Ì)(h:Heap):Ü:=f.filterMap λb=>(h.get? b).map λo=>(b,o)
def ku {o:Obj}(H:b∈f)(e:h.get? b=Δ o):(b,o)∈mO f h:=List.mem_filterMap.mpr ⟨b,H,by rw[e];rfl⟩
def wI (H:p∈mO f h):p.1∈f/\h.get? p.1=Δ p.2:=by
 let⟨b,a,e⟩:=List.mem_filterMap.mp H;cases q:h.get? b with
 |none=>rw[q]at e;cases e
 |some o=>rw[q]at e;let E:(b,o)=p:=H_ e;subst E;exact⟨a,q⟩
def Inv.pinned (I:Inv X P a H s)(i:∀b∈f,lj X P H b)(g:∀b∈f,∃o,s.heap.get? b=Δ o/\∀v,o.data≠.cell v):Inv X (P++mO f s.heap) a H s:=
 I.PH λp c=>(w_.mp c).elim (λz=>I.pin p (x_ _ z)) λz=>by let⟨h,e⟩:=wI z;let⟨k,j,F,_⟩:=i p.1 h;let⟨o,E,d⟩:=g p.1 h;rw[e]at E;cases E;exact⟨e,k,j,F,d⟩
def Inv.Nf (I:Inv X (P++pl) a H s):Inv X P a H s:=I.PH λp h=>I.pin p (x_ _ (u_ _ h))
def xQ (w:PassesOwn (Μ X.prog X.w) X.A X.env X.xe)(hc:X.calm=Θ)(hi:PI X R iter wi)(hg:PG X R g)(a:OB X body tb)
  (hs:∀x,foldedSetIterable iter X.env x=pure x:=by intro _;rfl):PS X (.For R iter body [] pos) (J4 wi g tb):=by
 intro p s M H D I h;refine wpAny_For (L4 (hi p s M H _ I h) λv s1 h1=>L4 h1 λXA s2 h2=>?_) hs;let⟨it,y,O,J,H2,e,I2,T,Q4,f2,W,⟨m0,w0⟩,turn⟩:=h2;subst e
 -- Zd stays Θ of Te Tf objects through Te loop
 let P:∀ {k:Hp},(∀b∈y,k b=Φ)->∀b∈y,lj X p k b:=λhn b a=>⟨hn b a,(f2 b a).2⟩
 refine codeAny_forLoop_any (λn s'=>∃i L k,Inv X p L k s'/\O i s'.heap/\(∀b∈y,k b=Φ)/\W i n L k) ?_ m0 ⟨0,M,H2,I2,Q4,λb a=>(f2 b a).1,w0⟩;rintro n Y ⟨i,z,A,I3,S,F,w3⟩;rcases turn i n z A w3 with⟨stop,qn⟩|⟨go,N,hN,step⟩
 ·refine wpAny_passesOwn w (L4 (T.done X rfl rfl rfl hc i p Y z A X.xe I3 (P F) S stop) λr s4 ⟨C,I4⟩=>?_);subst C;exact wpAny_execs_nil ⟨z,A,I4,qn⟩
 ·refine wpAny_passesOwn w (L4 (T.item X rfl rfl rfl hc i p Y z A X.xe I3 (P F) S go) λr s4 ⟨u,C,h4⟩=>?_);subst C;refine wpAny_passesOwn w (L4 h4 λ_ U ⟨x,H5,I5,r5,y5,E,Ze⟩=>?_);let G:=I5.pinned (P Ze) (T.obj _ _ E);refine wpAny_passesOwn w (L4 (hg _ U z H5 x u _ G r5 (step x H5 y5)) λ_ s6 ⟨Th,H6,I6,q6⟩=>?_);refine wpAny_passesOwn w (L4 (a _ s6 Th H6 _ I6 q6) λf B q=>?_);let again:∀ {Q:St}{j:Hp},Inv X (p++mO y U.heap) Q j B->N Q j->∃m,m < n/\∃i L k,Inv X p L k B/\O i B.heap/\(∀b∈y,k b=Φ)/\W i m L k:=λ{Q j} c l=>by let⟨m',hm,w7⟩:=hN Q j l;refine⟨m',hm,i+1,Q,j,c.Nf,T.keep _ _ _ E λb a o e=>(c.pin (b,o) (x_ _ (x_ _ (ku a e)))).1,λb a=>?_,w7⟩;let⟨o,e,d⟩:=T.obj _ _ E b a;exact(c.pin (b,o) (x_ _ (x_ _ (ku a e)))).2.1
  cases f with
  |next=>let⟨Q,j,c,l⟩:=q;exact again c l
  |cont=>let⟨Q,j,c,l⟩:=q;exact again c l
  |brk=>let⟨Q,j,c,q⟩:=q;exact⟨Q,j,c.Nf,q⟩
  |ret v=>let⟨x7,Q,j,c,r7,q⟩:=q;exact⟨x7,Q,j,c.Nf,r7,q⟩
@[reducible]def R2:=V->V->Hp->VK->Prop
def N1 (X:Cx)(f:Ψ->Ψ->Sem Ψ)(r:R2):Prop:=
 ∀(p:Ü) (s:Α) (a:St) (H:Hp) (x y:V) (v u:Ψ) (Q:VK),Inv X p a H s->RelV x v->RelV y u->r x y H Q->
  Κ (Μ X.prog X.w) X.A (f v u) (EP X p a Q) X.xe s
def Zf (X:Cx)(f:Ψ->Sem Ψ)(r:V->Hp->VK->Prop):Prop:=
 ∀(p:Ü) (s:Α) (a:St) (H:Hp) (x:V) (v:Ψ) (Q:VK),Inv X p a H s->RelV x v->r x H Q->
  Κ (Μ X.prog X.w) X.A (f v) (EP X p a Q) X.xe s
def jS (X:Cx)(f:Ψ)(r:Ï->Hp->VK->Prop):Prop:=
 ∀(p:Ü) (s:Α) (a:St) (H:Hp) (x:Ï) (u:Í) (Q:VK),Inv X p a H s->Vals x u->r x H Q->
  Κ (Μ X.prog X.w) X.A (call f u) (EP X p a Q) X.xe s
def XC (r:R2)(b tb:TE):TE:=λa H Q=>b a H λx c=>tb a c λy h=>r x y h Q
def tUn (r:V->Hp->VK->Prop)(b:TE):TE:=λa H Q=>b a H λx h=>r x h Q
def rI (C:Int->Int->Prop)(g:Int->Int->V):R2:=λx y H Q=>∃i j,x=.i i/\y=.i j/\C i j/\Q (g i j) H
def Zg (g:Int->Int->V):R2:=λx y H Q=>∃i j,x=.i i/\y=.i j/\Q (g i j) H
def rU (g:Int->V):V->Hp->VK->Prop:=λx H Q=>∃i,x=.i i/\Q (g i) H
def EO (w:PE X a i)(n:PE X b tb)  {R:V->V->Hp->Prop}(I:Inv X p e H s)
  (h:i e H λx g=>tb e g λy c=>R x y c)  {f:Ψ->Ψ->Sem Ψ}
  (m:∀v u S x y c,Inv X p e c S->RelV x v->RelV y u->R x y c->Κ (Μ X.prog X.w) X.A (f v u) Q X.xe S) :
  Κ (Μ X.prog X.w) X.A (eval a X.env) (λv z=>Κ (Μ X.prog X.w) X.A (eval b X.env) (λu O=>Κ (Μ X.prog X.w) X.A (f v u) Q X.xe O) X.xe z) X.xe s:=by
 refine L4 (w p s e H _ I h) λv j L=>?_;let⟨x,g,B,k,l⟩:=L;refine L4 (n p j e g _ B l) λu S L=>?_;let⟨y,c,A,r,q⟩:=L;exact m v u S x y c A k r q
def uO (g:N1 X (binaryOp O) r)(j:PE X a e)(i:PE X b tb):PE X (.BinOp a O b pos) (XC r e tb):=by intro p s c H Q I h;exact wpAny_BinOp (EO j i I h λv u S x y l k f R q=>g p S c l x y v u Q k f R q)
def Hx (e:Zf X (unaryOp O) r)(f:PE X a c):PE X (.UnaryOp O a pos) (tUn r c):=by intro p s b H Q I h;exact UnaryOp_ (L4 (f p s b H _ I h) λv S ⟨x,g,i,R,q⟩=>e p S b g x v Q i R q)
def XD {g:Int->Int->Int}
  (rule:∀(i j:Int) (t u:Tok) (s:Α) (Q:Ö) (E:Ö),C i j->Q (.int (g i j) s.toks) {s with toks:=s.toks+1}->Κ (Μ X.prog X.w) X.A (f (.int i t) (.int j u)) Q E s) :
  N1 X f (rI C λi j=>.i (g i j)):=by
 intro p s c H x y v u Q I R r h;let⟨i,j,rfl,rfl,b,q⟩:=h;let⟨t,rfl⟩:=R;let⟨a,rfl⟩:=r;exact rule i j t a s _ _ b ⟨.i (g i j),H,I.tok _,⟨_,rfl⟩,q⟩
def Hy {g:Int->Int->Int}
  (rule:∀(i j:Int) (t u:Tok) (s:Α) (Q:Ö) (E:Ö),Q (.int (g i j) s.toks) {s with toks:=s.toks+1}->Κ (Μ X.prog X.w) X.A (f (.int i t) (.int j u)) Q E s) :
  N1 X f (Zg λi j=>.i (g i j)):=by
 intro p s b H x y v u Q I R r h;let⟨i,j,rfl,rfl,q⟩:=h;let⟨t,rfl⟩:=R;let⟨a,rfl⟩:=r;exact rule i j t a s _ _ ⟨.i (g i j),H,I.tok _,⟨_,rfl⟩,q⟩
def J5 (i j:Int):Prop:=0 < j/\j < 1073741824
def J6 (i j:Int):Prop:=0<=j/\j<=1000000/\i.natAbs < 2 ^ 64
def ER (i j:Int):Prop:=(-(2 ^ 64) < i/\i < 2 ^ 64)∨(-(2 ^ 64) < j/\j < 2 ^ 64)
def ER.ok (h:ER i j):IntMulOk i j:=by
 rcases h with⟨a,H⟩|⟨a,H⟩
 ·exact .of_left (intBits_le_64 a H)
 ·exact .of_right (intBits_le_64 a H)
def ES:N1 X (binaryOp .Add) (Zg λi j=>.i (i+j)):=Hy λ_ _ _ _ _ _ _ q=>add_int q
def ET:N1 X (binaryOp .Sub) (Zg λi j=>.i (i - j)):=Hy λ_ _ _ _ _ _ _ q=>sub_int q
def EU:N1 X (binaryOp .Mult) (rI ER λi j=>.i (i*j)):=XD λ_ _ _ _ _ _ _ h q=>mul_int q h.ok
def BV:N1 X (binaryOp .FloorDiv) (rI J5 λi j=>.i (i / j)):=XD λi j _ _ _ _ _ h q=>by let a:(0:Int) < j:=h.1;let H:j < 1073741824:=h.2;exact floordiv_int ⋯ (by rw[Int.fdiv_eq_ediv_of_nonneg i ⋯];exact q) (.inl (PyProof.noPylong_small ⋯))
def EV:N1 X (binaryOp .Mod) (rI (λ_ j=>0 < j) λi j=>.i (i % j)):=XD λi j _ _ _ _ _ h q=>by let H:(0:Int) < j:=h;exact mod_int' ⋯ (by rw[Int.fmod_eq_emod_of_nonneg i ⋯];exact q)
def EW:N1 X (binaryOp .Pow) (rI J6 λi j=>.i (i ^ j.toNat)):=XD λ_ _ _ _ _ _ _ h q=>pow_int_small h.1 h.2.1 h.2.2 q
def unI {g:Int->Int}
  (rule:∀(i:Int) (t:Tok) (s:Α) (Q:Ö) (E:Ö),Q (.int (g i) s.toks) {s with toks:=s.toks+1}->Κ (Μ X.prog X.w) X.A (f (.int i t)) Q E s) :
  Zf X f (rU λi=>.i (g i)):=by
 intro p s a H x v Q I r h;let⟨i,rfl,q⟩:=h;let⟨t,rfl⟩:=r;exact rule i t s _ _ ⟨.i (g i),H,I.tok _,⟨_,rfl⟩,q⟩
def EX:Zf X (unaryOp .USub) (rU λi=>.i (-i)):=unI λ_ _ _ _ _ q=>neg_int q
def EY (b:Expr)  (h:O≠.In:=by decide)(H:O≠.NotIn:=by decide):behindInMarks O b=Ξ:=by
 let E:(O == CmpOp.In)=Ξ:=by cases O<;>first|rfl|exact absurd rfl h
 let e:(O == CmpOp.NotIn)=Ξ:=by cases O<;>first|rfl|exact absurd rfl H
 cases b<;>simp[behindInMarks,E,e]
def BW (g:N1 X (compareOp O) r)(k:PE X a e)(j:PE X b tb)(i:behindInMarks O b=Ξ):PE X (.Compare a [O] [b] pos) (XC r e tb):=by intro p s c H Q I h;exact wpAny_Compare1 (EO k j I h λv u S x y m l f R q=>g p S c m x y v u Q l f R q) i
def DL (t:TE):TT:=λa H Q=>t a H λx h=>∃k,x=.b k/\Q k h
def uP (w:N1 X (compareOp O) r)(C:PE X a g)(B:PE X b tb)(A:behindInMarks O b=Ξ):PT X (.Compare a [O] [b] pos) (DL (XC r g tb)):=by
 intro p s f H Q I h
 refine wpAny_isTrue_Compare1 (L4 (C p s f H _ I h) λv i ⟨x,M,G,l,n⟩=>L4 (B p i f M _ G n) λu S ⟨y,L,F,j,m⟩=>
  L4 (w p S f L x y v u _ F l j m) λc N ⟨z,J,E,R,k,e,q⟩=>?_) A
 subst e;cases R;exact wpAny_truthy_bool ⟨J,E,q⟩
def xR (r R:R2)(e tb c:TE):TE:=λa H Q=>e a H λx i=>tb a i λy g=>r x y g λz h=>∃k,z=.b k/\
 (if k=Θ then c a h λw f=>R y w f Q else Q (.b Ξ) h)
def xS (P:N1 X (compareOp O) r)(Qa:N1 X (compareOp M) G)(ha:PE X a m)(Y:PE X b tb)(W:PE X c l)
  (U:lastMarks [O,M] [b,c]=Ξ:=by with_unfolding_all rfl):PE X (.Compare a [O,M] [b,c] pos) (xR r G m tb l):=by
 intro p s f H Q I h
 refine Compare_chain (L4 (ha p s f H _ I h) λv B ⟨x,H1,I1,F,N⟩=>chain_link (L4 (Y p B f H1 _ I1 N) λu A ⟨y,H2,I2,R,L⟩=>
  L4 (P p A f H2 x y v u _ I2 F R L) λd n ⟨z,g,i,E,k,e,q⟩=>?_)) U
 subst e;cases E;refine wpAny_truthy_bool ?_;cases k with
 |false=>exact ite_ff ⟨.b Ξ,g,i,rfl,q⟩
 |true=>exact ite_tt (chain_last (L4 (W p n f g _ i q) λw S ⟨j,H4,I4,C,J⟩=>Qa p S f H4 y j u w Q I4 R C J))
def xT (W:N1 X (compareOp O) r)(Qa:N1 X (compareOp M) G)(ha:PE X a m)(hb:PE X b tb)(hc:PE X c l)
  (Y:lastMarks [O,M] [b,c]=Ξ:=by with_unfolding_all rfl):PT X (.Compare a [O,M] [b,c] pos) (DL (xR r G m tb l)):=by
 intro p s f H Q I h
 refine isTrue_chain (L4 (ha p s f H _ I h) λv B ⟨x,H1,I1,F,P⟩=>test_link (L4 (hb p B f H1 _ I1 P) λu A ⟨y,H2,I2,R,N⟩=>
  L4 (W p A f H2 x y v u _ I2 F R N) λd n ⟨z,g,i,E,k,e,q⟩=>?_)) Y
 subst e;cases E;refine wpAny_truthy_bool ?_;cases k with
 |false=>let⟨k',e',U⟩:=q;cases e';exact ite_ff ⟨g,i,U⟩
 |true=>refine ite_tt (test_last (L4 (hc p n f g _ i q) λw S ⟨j,H4,I4,C,L⟩=>L4 (Qa p S f H4 y j u w _ I4 R C L) λd' s5 ⟨z2,H5,I5,r5,k2,e2,J⟩=>?_));subst e2;cases r5;exact wpAny_truthy_bool ⟨H5,I5,J⟩
def nQ:(Ζ:Nat) < 2 ^ 63:=by rw[sizeLine_eq];decide
def tJ:N1 X (binaryOp .Add) (λx y H Q=>∃i j,x=.s i/\y=.s j/\i.length+j.length<=Ζ/\Q (.s (i++j)) H):=by intro p s c H x y v u Q I R r h;let⟨i,j,rfl,rfl,b,q⟩:=h;let⟨t,rfl⟩:=R;let⟨a,rfl⟩:=r;exact add_str (λa e=>⟨.s (i++j),H,I.tok _,⟨_,rfl⟩,q⟩) b
def vals1 (r:Vals [x] U):∃u,U=[u]/\RelV x u:=by
 cases r with
 |cons a R=>cases R;exact⟨_,rfl,a⟩
def vals2 (r:Vals [x,y] U):∃u w,U=[u,w]/\RelV x u/\RelV y w:=by
 cases r with
 |cons c b=>
  cases b with
  |cons a R=>cases R;exact⟨_,_,rfl,c,a⟩
def wJ (b:X.calm=Θ):jS X (.builtin "max") (λx H Q=>∃i j,x=[.i i,.i j]/\Q (.i (if j > i then j else i)) H):=by
 intro p s c H x U Q I r h;let⟨i,j,rfl,q⟩:=h;let⟨u,w,rfl,⟨t,rfl⟩,⟨f,rfl⟩⟩:=vals2 r;refine max_two_ints (I.ok.hd b) λg e k=>⟨_,H,I.kept k,?_,q⟩
 by_cases a:j > i
 ·rw[e_ a,e_ a];exact⟨_,rfl⟩
 ·rw[d_ a,d_ a];exact⟨_,rfl⟩
def wK (b:X.calm=Θ):jS X (.builtin "min") (λx H Q=>∃i j,x=[.i i,.i j]/\Q (.i (if j < i then j else i)) H):=by
 intro p s c H x U Q I r h;let⟨i,j,rfl,q⟩:=h;let⟨u,w,rfl,⟨t,rfl⟩,⟨f,rfl⟩⟩:=vals2 r;refine min_two_ints (I.ok.hd b) λg e k=>⟨_,H,I.kept k,?_,q⟩
 by_cases a:j < i
 ·rw[e_ a,e_ a];exact⟨_,rfl⟩
 ·rw[d_ a,d_ a];exact⟨_,rfl⟩
def xU:jS X (.builtin "ord") (λa H Q=>∃x,a=[.s x]/\x.length=1/\Q (.i (x.cps.getD 0 0:Nat)) H):=by intro p s c H a U Q I r h;let⟨x,rfl,b,q⟩:=h;let⟨u,rfl,t,rfl⟩:=vals1 r;exact ord_of_one b ⟨.i _,H,I.tok _,⟨_,rfl⟩,q⟩
def J7 (K:Frag)(x:V)(H:Hp)(n:Nat):Prop:=
 match x with
 |.s y=>y.length<=Ζ/\n=y.length
 |.V y=>y.size<=Ζ/\n=y.size
 |.r p=>(∃X,MR K H p X/\n=X.length)∨∃X,Md K H p X/\n=X.length
 |_=>False
def nR:jS X (.builtin "len") (λa H Q=>∃x n,a=[x]/\J7 X.K x H n/\Q (.i n) H):=by
 intro P s l H a U Q I r h;let⟨x,n,rfl,e,q⟩:=h;let⟨u,rfl,R⟩:=vals1 r;let v:=nQ;let m:Ζ=16777216:=sizeLine_eq;cases x with
 |s y=>let⟨t,rfl⟩:=R;obtain⟨k,E⟩:y.length<=Ζ/\n=y.length:=e;subst E;exact len_str ⋯ ⟨.i _,H,I.tok _,⟨_,rfl⟩,q⟩
 |V y=>let⟨t,rfl⟩:=R;obtain⟨k,E⟩:y.size<=Ζ/\n=y.size:=e;subst E;exact PySem.W.len_bytes ⋯ ⟨.i _,H,I.tok _,⟨_,rfl⟩,q⟩
 |r p=>
  cases R;let E:(∃a,MR X.K H p a/\n=a.length)∨∃a,Md X.K H p a/\n=a.length:=e;rcases E with⟨a,g,E⟩|⟨a,g,E⟩
  ·subst E;let⟨f,c,pl,j⟩:=I.list g;let b:=c.length;exact Calls.call_len_list pl.isList (by simp only[C_];omega) ⟨.i a.length,H,I.tok _,⟨_,by simp only[C_];rw[b]⟩,q⟩
  ·subst E;let⟨f,c,pl,j⟩:=I.tuple g;let b:=c.length;exact len_tuple pl (by simp only[C_];omega) ⟨.i a.length,H,I.tok _,⟨_,by simp only[C_];rw[b]⟩,q⟩
 |_=>exact(show False from e).elim
def o5.some_of (r:o5 (Δ v) o):∃u,o=Δ u/\RelV v u:=by
 cases o with
 |none=>exact(show False from r).elim
 |some u=>exact⟨u,rfl,r⟩
structure MU (k:Nat)(A:Ι):Prop where
 hd:k < 1000->A.handled=Φ
 dp:A.depth+3*(k % 1000)+5 < recursionLimit
 un:A.units+16*(k % 1000)+200 < cLine
theorem MU.deeper (r:MU (k+1) A)(env:Env)(h:k % 1000≠999):MU k (A.deeper env):=
 ⟨λz=>r.hd ⋯,by have:=r.dp;show A.depth+1+3*(k % 1000)+5 < _;omega,by have:=r.un;show A.units+3+16*(k % 1000)+200 < _;omega⟩
theorem MU.depth (r:MU k A):A.depth < recursionLimit:=by have:=r.dp;omega
def o6:TA:=λ_ H Q=>Q [] H
def kg (b:TE)(tr:TA):TA:=λa H Q=>b a H λx c=>tr a c λX h=>Q (x::X) h
def iZ:PA X [] o6:=λ_ _ _ _ H Q I h=>Calls.spliced_nil ⟨[],H,I,.nil,h⟩
def iH (i:PE X e c)(g:PA X E t)(hs:Ν (e::E) X.env=(Ξ,eval e X.env)::Ν E X.env:=by rfl):PA X (e::E) (kg c t):=by intro pos p s a H Q I h;rw[hs];show Κ _ _ (spliced ((Ξ,eval e X.env)::backTo pos (Ν E X.env))) _ _ s;refine Calls.spliced_cons (L4 (i p s a H _ I h) λu S ⟨x,m,k,R,f⟩=>?_);exact L4 (g pos p S a m _ k f) λU n ⟨b,l,j,r,q⟩=>⟨x::b,l,j,.cons R r,q⟩
def J8 (t:TA):TE:=λa H Q=>t a H λx h=>x.length<=Ζ/\∀p,h p=Φ->Q (.r p) (upd h p (.t x))
def Hz (t:TA):TE:=λa H Q=>t a H λx h=>x.length<=Ζ/\∀p,h p=Φ->Q (.r p) (upd h p (.l x))
def xV {f}(h:PA X E t):PE X (.Tuple E f pos) (J8 t):=by intro p s c H Q I g;refine wpAny_Tuple_spliced (L4 (h pos p s c H _ I g) λU S ⟨x,a,i,r,z,q⟩=>⟨by rw[<- r.length];exact z,?_⟩);let j:a S.heap.objs.size=Φ:=i.L1.fresh (o_ _);refine⟨.r S.heap.objs.size,upd a S.heap.objs.size (.t x),i.laid (t':=S.toks) (λb u e=>m_ _ e) (o_ _) ?_,rfl,q _ j⟩;exact⟨z,U,r,⟨_,A_ _ rfl,rfl,_,rfl⟩⟩
def nT (h:PA X E t):PE X (.List E pos) (Hz t):=by intro p s c H Q I f;refine wpAny_List_spliced (L4 (h pos p s c H _ I f) λU S ⟨x,a,i,r,z,q⟩=>⟨by rw[<- r.length];exact z,?_⟩);let g:a S.heap.objs.size=Φ:=i.L1.fresh (o_ _);refine⟨.r S.heap.objs.size,upd a S.heap.objs.size (.l x),i.laid (t':=S.toks) (λb u e=>m_ _ e) (o_ _) ?_,rfl,q _ g⟩;exact⟨z,U,0,r,A_ _ rfl⟩
@[reducible]def Sp:=Ï->Hp->VK->XK->Prop
@[reducible]def PK:=List Env->Hp->Α->XK->Ö
structure Pg (P:Ε)(w:Β)(K:Frag)(mg:Str->Option Ψ)(base:Heap)(A:Ι)(outer:List Env)(s:Α)(H:Hp):Prop where
 frames:A.frames=Δ outer
 mod:Mod K mg base
 bs:∀b o,base.get? b=Δ o->s.heap.get? b=Δ o/\H b=Φ
 Q2:base.objs.size<=s.heap.objs.size
 Np:s.heap.FunFrames base outer
 P':∀b∈NP outer,H b=Φ
 L1:Mp P w H s.heap
 bare:AllBare s.gens
def CE (outer:List Env)(P:Ε)(w:Β)(H:Hp)(s:Α)(Q:VK)(u:Ψ)(S:Α):Prop:=
 ∃v h,S.os=s.os/\AllBare S.gens/\Un (NP outer) [] H h s.heap S.heap/\Mp P w h S.heap/\RelV v u/\Q v h
def CR (CX:PK)(outer:List Env)(P:Ε)(w:Β)(H:Hp)(s:Α)(Q:VK)(E:XK)(r:Result)(S:Α):Prop:=
 match r with
 |.ok (.ret u)=>CE outer P w H s Q u S
 |.ok _=>False
 |.error e=>CX outer H s E e S
structure Ng (P:Ε)(w:Β)(K:Frag)(mg:Str->Option Ψ)(base:Heap)(CX:PK)(k:Nat)(f:Ω)(fd:Ο)(ps:Æ)(sp:Sp):Prop where
 len:∀vs H Q E,sp vs H Q E->vs.length=ps.length
 run:∀(A:Ι) (outer:List Env) (s:Α) (H:Hp) (args:Args) (us:Í) (vs:Ï) (Q:VK) (E:XK),MU k A->Pg P w K mg base A outer s H->BindsTo s fd args (ps.zip us)->Vals vs us->sp vs H Q E->
  codeAny (Μ P w) A (.call (.ref f) args) (CR CX outer P w H s Q E) s
def Inv.NQ (I:Inv X p a H s):Pg X.prog X.w X.K X.mg X.base X.A X.stack s H:=
 ⟨I.ok.frames,I.ok.mod,I.bs,Q_ I.ok.Q2 I.sz,I.stack,I.PF,I.L1,I.bare⟩
def Inv.after (I:Inv X p a H s)(h:CE X.stack X.prog X.w H s Q u S):EP X p a Q u S:=by let⟨v,f,os,bare,un,L1,r,q⟩:=h;let⟨c,g,d,t,e⟩:=S;obtain rfl:e=s.os:=os;exact⟨v,f,I.call (h':=c) (g':=g) (d':=d) (t':=t) (ch:=[]) un L1 bare (λb z=>absurd z (by simp)),r,q⟩
def Binds (K:Frag)(f:Ο)(p:Æ)(a:Í):Prop:=
 ∀(s:Α) (u:Í),K.In s.heap->(u++a).length=p.length->BindsTo s f ⟨u,[]⟩ (p.zip (u++a))
def Binds.all {K:Frag}  (h:∀u:Í,u.length=p.length->bindArgs f ⟨u,[]⟩=pure (p.zip u)):Binds K f p []:=λs u _ H=>by rw[Y_]at H ⊢;exact .of_eq (h u H)
def Passes (CX:PK)(X:Cx)(E:XK):Prop:=∀(p:Ü) (a:St) (H:Hp) (s:Α) (e:Ψ) (S:Α),Inv X p a H s->CX X.stack H s E e S->X.xe e S
structure Oq (N P:Æ)(sc:Scope):Prop where
 kind:sc.kind=.function
 co:sc.isCoroutine=Ξ
 gen:sc.isGenerator=Ξ
 nd:N.Nodup
 pre:N.take P.length=P
 par:∀x∈P,sc.names.lookup x=Δ .local∨sc.names.lookup x=Δ .cell
 Ti:∀y∈sc.names,y.2≠.free
theorem pG {kindOf:Str->Option NameKind}  : ∀ {binds:List (Str×Ψ)}{m:Str->Option Ψ},(∀v,(x,v)∉binds)->bindL kindOf binds m x=m x
 |[],_,_=>rfl
 | (n,v)::r,m,h=>by
  unfold bindL;rw[pG λw H=>h w (J_ _ H)];split
  ·have:x≠n:=by rintro rfl;exact h v aaR
   simp[this]
  ·rfl
theorem pH {kindOf:Str->Option NameKind}  : ∀ {binds:List (Str×Ψ)}{m:Str->Option Ψ},(∀v,(x,v)∉binds)->bindC kindOf binds m x=m x
 |[],_,_=>rfl
 | (n,v)::r,m,h=>by
  unfold bindC;rw[pH λw H=>h w (J_ _ H)];split
  ·rfl
  ·have:x≠n:=by rintro rfl;exact h v aaR
   simp[this]
theorem pI {kindOf:Str->Option NameKind}{x:Str}  : ∀ {P:Æ}{vs:Í}{i:Nat}{m:Str->Option Ψ},P.Nodup->P[i]? = Δ x->vs[i]? = Δ v->kindOf x=Δ .local->
  bindL kindOf (P.zip vs) m x=Δ v
 |[],_,_,_,_,h,_,_=>by simp at h
 |_::_,[],_,_,_,_,h,_=>by simp at h
 |p::P,w::vs,0,m,nd,a,H,b=>by simp at a H;subst a;subst H;show bindL kindOf ((p,w)::P.zip vs) m p=_;unfold bindL;rw[pG λv c=>(F_.mp nd).1 (List.of_mem_zip c).1,e_ b];simp
 |p::P,w::vs,i+1,m,nd,a,H,b=>by show bindL kindOf ((p,w)::P.zip vs) m x=_;unfold bindL;exact pI (i:=i) (F_.mp nd).2 (by simpa using a) (by simpa using H) b
theorem pJ {kindOf:Str->Option NameKind}{x:Str}  : ∀ {P:Æ}{vs:Í}{i:Nat}{m:Str->Option Ψ},P.Nodup->P[i]? = Δ x->vs[i]? = Δ v->kindOf x≠Δ .local->
  bindC kindOf (P.zip vs) m x=Δ v
 |[],_,_,_,_,h,_,_=>by simp at h
 |_::_,[],_,_,_,_,h,_=>by simp at h
 |p::P,w::vs,0,m,nd,a,H,b=>by simp at a H;subst a;subst H;show bindC kindOf ((p,w)::P.zip vs) m p=_;unfold bindC;rw[pH λv c=>(F_.mp nd).1 (List.of_mem_zip c).1,d_ b];simp
 |p::P,w::vs,i+1,m,nd,a,H,b=>by show bindC kindOf ((p,w)::P.zip vs) m x=_;unfold bindC;exact pJ (i:=i) (F_.mp nd).2 (by simpa using a) (by simpa using H) b
abbrev start (N:Æ)(vs:Ï):St:=vs.map Δ++Τ (N.length - vs.length) Φ
abbrev xW (CX:PK)(P:Ε)(w:Β)(K:Frag)(mg:Str->Option Ψ)(base:Heap)(N:Æ)(q:Str)(S:Scope)(f:Ω)(c:Ψ)(A:Ι)(outer:List Env)(s:Α)(H:Hp)(E:XK):Cx where
 prog:=P
 w:=w
 K:=K
 mg:=mg
 base:=base
 A:=A.deeper (envOfC q S s.heap.objs.size f c)
 N:=N
 Mq:=s
 P9:=H
 env:=envOfC q S s.heap.objs.size f c
 outer:=outer
 stack:=envOfC q S s.heap.objs.size f c::outer
 ex:=[]
 calm:=A.handled.isNone
 fn:=λ_=>Θ
 pn:=[]
 xe:=λe a=>Κ (Μ P w) (A.deeper (envOfC q S s.heap.objs.size f c)) (leaving (envOfC q S s.heap.objs.size f c) e) (λ_ Q=>CX outer H s E e Q) (λb Q=>CX outer H s E b Q) a
def rj {sc:Scope}  (h:sc.names.lookup x=Δ .cell):∃c,(cellsFrom n sc.names []).lookup x=Δ c:=by let q:=PySem.W.cellsFrom_some sc.names n [] (.inl h);exact Option.isSome_iff_exists.mp q
def wL {K:Frag}
  (S:Oq N B g) (l:Pg P w K mg base A outer s H) (Y:vs.length=B.length) (r:Vals vs U)
  (x:InCallC s s.heap.objs.size (bindL (envOfC Q g s.heap.objs.size f I).kindOf (B.zip U) λ_=>Φ) (cellsFrom (s.heap.objs.size+1) g.names []) (bindC (envOfC Q g s.heap.objs.size f I).kindOf (B.zip U) λ_=>Φ) O) :
  Inv (xW CX P w K mg base N Q g f I A outer s H E) [] (start N vs) H O:=by
 let Tj:B.length<=N.length:=by have:=congrArg List.length S.pre;rw[aaG]at this;omega
 let⟨G,X,rfl,M⟩:=x.done;let J:∀b:Ω,b∉(xW CX P w K mg base N Q g f I A outer s H E).ex:=λb z=>absurd (show b∈([]:Ì) from z) (by simp)
 refine⟨⟨l.mod,S.kind,rfl,rfl,o_ _,λy z c G j=>?_,λy m=>?_,λy c _ h=>?_,λh=>Option.isNone_iff_eq_none.mp h,Around.frames_deeper l.frames,.inr ⟨rfl,rfl⟩,λb z=>absurd z (J b),l.bs,l.Q2,λb _ _=>J b,λb z=>absurd z (J b),l.Np,l.P'⟩,
  rfl,l.bare,Un.kept M,⟨_,x.toInCall.ns,λi y v G j h3=>?_⟩,λy c h=>⟨_,x.cell y c h⟩,l.L1.fresh (o_ _),λy c h=>?_,λp F=>absurd (show p∈([]:Ü) from F) (by simp),l.L1.kept M,?_⟩
 ·exact name_of_addr x.apart (PySem.mem_of_lookup G) (PySem.mem_of_lookup j)
 ·let m:g.names.lookup y=Δ .cell∨g.names.lookup y=Δ .free:=m;rcases m with m|m
  ·exact rj m
  ·exact absurd rfl (S.Ti _ (PySem.mem_of_lookup m))
 ·exact Nat.le_of_lt (x.above y c (PySem.mem_of_lookup h))
 ·let hi:i < vs.length:=by
   unfold start at j;by_cases hi:i < vs.length
   ·exact hi
   ·rw[aaS (by simpa using hi)]at j;rw[List.getElem?_replicate]at j;split at j<;>cases j
  let W:vs[i]? = Δ v:=by
   unfold start at j;rw[aaH (by simpa using hi),D_]at j;cases e:vs[i]? with
   |none=>rw[e]at j;cases j
   |some a=>rw[e]at j;cases j;rfl
  let⟨u,L,R⟩:=r.get W;let F:B[i]? = Δ y:=by rw[<- S.pre,List.getElem?_take_of_lt ⋯];exact G
  let C:B.Nodup:=by rw[<- S.pre];exact S.nd.sublist (List.take_sublist _ _)
  refine⟨u,R,?_⟩;rcases S.par y (Z_ F) with k|k
  ·exact .inl ⟨k,pI C F L k⟩
  ·let⟨c,e⟩:=rj (n:=s.heap.objs.size+1) k;refine .inr ⟨.inl k,c,e,?_⟩;let q:=x.cell y c e;rw[pJ C F L (by show g.names.lookup y≠_;rw[k];decide)]at q;exact q
 ·exact l.L1.fresh (Nat.le_of_lt (x.above y c (PySem.mem_of_lookup h)))
 ·unfold start;show _=N.length;rw[q_,i_,List.length_replicate];omega
def DM {K:Frag}  {name:Str}{kV:Ψ}
 (Y:K.lookup f=Δ ⟨oc,od,.func (PySem.W.fnOf name c p body a dV kV B pm an O ct),Rx⟩) (QA:PySem.W.codeIn K O c=Θ) (S:Oq N j a)
  (z:k % 1000≠999) (len:∀vs H Q E,sp vs H Q E->vs.length=j.length)
  (VF:∀(A:Ι) (outer:List Env) (s:Α) (H:Hp) (vs:Ï) (Q:VK) (E:XK),MU k (A.deeper (envOfC c a s.heap.objs.size f O))->sp vs H Q E->
   ∃t,OB (xW CX P w K mg base N c a f O A outer s H E) body t/\t {nx:=λ_ H'=>Q .L H',rt:=Q} (start N vs) H) :
  Ng P w K mg base CX (k+1) f (PySem.W.fnOf name c p body a dV kV B pm an O ct) j sp:=by
 refine⟨len,λA outer s H M X vs Q E G g hb r U=>?_⟩;let hl:=len _ _ _ _ U;let W:K.In s.heap:=g.mod.UQ.keeps λb o e=>(g.bs b o e).1;let m:s.heap.NoLimit:=g.mod.nolimit.keeps λb o e=>(g.bs b o e).1;let VG:∀y∈j.zip X,a.names.lookup y.1=Δ .local∨(a.names.lookup y.1=Δ .cell/\((cellsFrom (s.heap.objs.size+1) a.names []).lookup y.1).isSome=Θ):=λ⟨n,v⟩ hy=>by
  rcases S.par n (List.of_mem_zip hy).1 with q|q
  ·exact .inl q
  ·exact .inr ⟨q,PySem.W.cellsFrom_some _ _ _ (.inl q)⟩
 refine codeAny_call_function G.depth (W _ _ Y) rfl S.co S.gen rfl (PySem.W.codeRec_of W QA) (hb _ _ _ _ ?_);refine wpAny_newFunctionEnv_cells S.kind VG λenv he C x=>?_;subst he;refine⟨m.keeps x.toInCall.keep,codeAny_func ?_⟩;let⟨t,ht,hq⟩:=VF A outer s H vs Q E (G.deeper _ z) U;let I:Inv (xW CX P w K mg base N c a f O A outer s H E) [] (start N vs) H C:=wL S g hl r x;refine wpAny_mono (ht [] C (start N vs) H _ I hq) (λfl i h=>?_) λe i h=>h;let F:∀ {l:St}{H':Hp}{v:V}{u:Ψ},Inv (xW CX P w K mg base N c a f O A outer s H E) [] l H' i->RelV v u->Q v H'->CE outer P w H s Q u i:=
  λ{l H' v u} J R q=>⟨v,H',J.os,J.bare,J.base,J.L1,R,q⟩
 cases fl with
 |ret u=>let⟨v,l,H',J,R,q⟩:=h;exact F J R q
 |next=>let⟨l,H',J,q⟩:=h;exact F (v:=V.L) (u:=Value.none) J rfl q
 |brk=>let⟨_,_,_,q⟩:=h;exact False.elim q
 |cont=>let⟨_,_,_,q⟩:=h;exact False.elim q
def Zi (r:Ï->Hp->VK->Prop)(t:TA):TE:=λa H Q=>t a H λvs h=>r vs h Q
def nU {id:String}(i:jS X (.builtin id) r)(f:Gl X x)(c:X.mg x=Φ)(b:bootBuiltins x=Δ (.builtin id))(j:PA X (e::E) t)(hn:x≠"__name__":=by decide) (z:(x == ("__debug__" : Str))=Ξ:=by decide)
  (g:Ν (e::E) X.env=(Ξ,eval e X.env)::Ν E X.env:=by rfl) (k:(backTo pos (Ν E X.env)).any (·.1)=Ξ:=by rfl):PE X (.Call (.Name x p) (e::E) [] pos) (Zi r t):=by
 intro P s a H Q I h;refine aap (jP I f c b ?_ hn z);exact PyProof.Rows.callWith_builtin1 (L4 (j pos P s a H _ I h) λu S ⟨vs,m,l,R,q⟩=>i P S a m vs u Q l R q) g k
def mP (i:jS X (.type T) r)(f:Gl X x)(c:X.mg x=Φ)(b:bootBuiltins x=Δ (.type T))(j:PA X (e::E) t)(hn:x≠"__name__":=by decide) (z:(x == ("__debug__" : Str))=Ξ:=by decide)
  (g:Ν (e::E) X.env=(Ξ,eval e X.env)::Ν E X.env:=by rfl) (k:(backTo pos (Ν E X.env)).any (·.1)=Ξ:=by rfl):PE X (.Call (.Name x p) (e::E) [] pos) (Zi r t):=by
 intro P s a H Q I h;refine aap (jP I f c b ?_ hn z);exact aax (L4 (j pos P s a H _ I h) λu S ⟨vs,m,l,R,q⟩=>i P S a m vs u Q l R q) g k
end L2
namespace HT
open PySem PyProof.Rows
abbrev N2 (n d:Nat):Option Int->Nat
 |none=>d
 |some v=>if v < 0 then(v+(n:Int)).toNat else min v.toNat n
def QG (n d:Nat):N2 n d Φ=d:=rfl
def Ry (n d k:Nat):N2 n d (Δ (k:Int))=min k n:=by show(if(k:Int) < 0 then((k:Int)+(n:Int)).toNat else min (k:Int).toNat n)=min k n;rw[d_ ⋯,aae]
end HT
namespace L2
open PySem PySem.Spec PyProof.Rows
@[reducible]def TO:=St->Hp->(Option Int->Hp->Prop)->Prop
def PO (X:Cx)(e:Option Expr)(t:TO):Prop:=
 ∀(p:Ü) (s:Α) (a:St) (H:Hp) (Q:Option Int->Hp->Prop),Inv X p a H s->t a H Q->
  Κ (Μ X.prog X.w) X.A (evalPart e X.env) (λu S=>∃o h,Inv X p a h S/\IsPart u o/\Q o h) X.xe s
def BX:TO:=λ_ H Q=>Q Φ H
def HA (t:TE):TO:=λa H Q=>t a H λx h=>∃i,x=.i i/\Q (Δ i) h
def intsAre_of:∀ {u:Í},Vals (ns.map V.i) u->IntsAre u ns:=by
 induction ns with
 |nil=>intro u r;rw[List.map_nil]at r;cases r;exact .nil
 |cons n ns i=>
  intro u r;rw[a_]at r;cases r with
  |cons a R=>let⟨t,e⟩:=a;subst e;exact .cons n t (i R)
def BY:PO X Φ BX:=by intro p s a H Q I h;rw[evalPart_none];exact f_ ⟨Φ,H,I,.none,h⟩
def BZ (h:PE X e b):PO X (Δ e) (HA b):=by intro p s a H Q I f;rw[evalPart_some];refine L4 (h p s a H _ I f) λu S L=>?_;let⟨x,j,g,r,c⟩:=L;let⟨i,rfl,q⟩:=c;let⟨t,rfl⟩:=r;exact⟨Δ i,j,g,.int i t,q⟩
def XF (X:Cx)(r:V->Option Int->Option Int->Hp->VK->Prop):Prop:=
 ∀(p:Ü) (s:Α) (a:St) (H:Hp) (x:V) (v c b:Ψ) (lo hi:Option Int) (sl:Ω) (Q:VK),Inv X p a H s->RelV x v->s.heap.IsSliceOf sl c b .none->IsPart c lo->IsPart b hi->r x lo hi H Q->
  ∃T id,typeLookup (.type T) "__getitem__" = pure (Δ (.builtin id))/\s.TypeIs v T/\Κ (Μ X.prog X.w) X.A (getItem v (.ref sl)) (EP X p a Q) X.xe s
def tSl (r:V->Option Int->Option Int->Hp->VK->Prop)(e:TE)(b c:TO):TE:=λa H Q=>e a H λx g=>b a g λl f=>c a f λu h=>r x l u h Q
def rl {lo:Option Expr}(E:XF X r)(J:PE X e k)(F:PO X lo i)(B:PO X hi j):PE X (.Subscript e (.Slice lo hi Φ A) pos) (tSl r k i j):=by intro p s a H Q I h;refine Subscript_ (L4 (J p s a H _ I h) λv n ⟨x,Y,U,R,z⟩=>?_);refine wpAny_Slice (L4 (F p n a Y _ U z) λf m ⟨l,W,O,pl,y⟩=>L4 (B p m a W _ O y) λc S ⟨u,g,N,P,w⟩=>?_);rw[evalPart_none];refine f_ ?_;let M:Inv X p a g {S with heap:=S.heap.push {cls:=.type "slice",data:=.fields #[f,c,.none]}}:=N.kept (t':=S.toks) λb ob q=>m_ _ q;let⟨T,id,L,C,G⟩:=E p {S with heap:=S.heap.push {cls:=.type "slice",data:=.fields #[f,c,.none]}} a g x v f c l u S.heap.objs.size Q M R (Heap.IsSliceOf.new ..) pl P w;show Κ (Μ X.prog X.w) X.A (subscriptTail e (.Slice lo hi Φ A) v (.ref S.heap.objs.size)) (EP X p a Q) X.xe {S with heap:=S.heap.push {cls:=.type "slice",data:=.fields #[f,c,.none]}};exact tail_any (ops:=[.ref S.heap.objs.size,v]) C L G (by with_unfolding_all rfl)
abbrev wM (x:Ï)(lo hi:Option Int):Ï:=(x.drop (HT.N2 x.length 0 lo)).take (HT.N2 x.length x.length hi - HT.N2 x.length 0 lo)
def rp (x:Ï)(lo hi:Option Int):(wM x lo hi).length<=x.length:=by unfold wM;rw[aaG,aas];omega
@[reducible]def _root_.Â:=Option Nat
abbrev NT (n:Nat)(i:Int):Â:=if 0<=i then(if i < n then Δ i.toNat else Φ) else if -(n:Int)<=i then Δ (i+n).toNat else Φ
abbrev M5 {a:Type}(x:List a)(i:Int):Option a:=(NT x.length i).bind λj=>x[j]?
def qd (h:NT n i=Δ j):seqIndex? i n=Δ j/\j < n/\-(n:Int)<=i/\i < n:=by
 unfold NT at h;by_cases a:0<=i
 ·rw[e_ a]at h;by_cases H:i < n
  ·rw[e_ H]at h;let e:i.toNat=j:=H_ h;exact⟨by rw[seqIndex_of a H,e],⋯,⋯,H⟩
  ·rw[d_ H]at h;cases h
 ·rw[d_ a]at h;by_cases H : -(n:Int)<=i
  ·rw[e_ H]at h;let e:(i+n).toNat=j:=H_ h;exact⟨by rw[seqIndex_neg ⋯ H,e],⋯,H,⋯⟩
  ·rw[d_ H]at h;cases h
def qe (h:M5 x i=Δ v):∃j,seqIndex? i x.length=Δ j/\x[j]? = Δ v/\j < x.length/\-(x.length:Int)<=i/\i < x.length:=by
 unfold M5 at h;cases e:NT x.length i with
 |none=>rw[e]at h;cases h
 |some j=>rw[e]at h;let⟨c,b,a,H⟩:=qd e;exact⟨j,c,h,b,a,H⟩
def uQ (b:Expr):Prop:=∀o i,subscripted b Ξ o i=operate [o,i] (getItem o i)
def Q5 (X:Cx)(r:R2):Prop:=
 ∀(a S:Expr) (p:Ü) (s:Α) (b:St) (H:Hp) (x y:V) (v u:Ψ) (Q:VK),Inv X p b H s->RelV x v->RelV y u->r x y H Q->
  subscripted S Ξ v u=operate [v,u] (getItem v u)->Κ (Μ X.prog X.w) X.A (subscriptTail a S v u) (EP X p b Q) X.xe s
def Zk (X:Cx)(id:String)(r:V->Ï->Hp->VK->Prop):Prop:=
 ∀(p:Ü) (s:Α) (a:St) (H:Hp) (x:V) (b:Ï) (v:Ψ) (u:Í) (Q:VK),Inv X p a H s->RelV x v->Vals b u->r x b H Q->
  Κ (Μ X.prog X.w) X.A (call (.builtin id) (v::u)) (EP X p a Q) X.xe s
def Q5.or (h:Q5 X r)(h':Q5 X f):Q5 X (λx y H Q=>r x y H Q∨f x y H Q):=by
 intro a S p s b H x y v u Q I c R q e;rcases q with q|q
 ·exact h a S p s b H x y v u Q I c R q e
 ·exact h' a S p s b H x y v u Q I c R q e
def xX (g:Q5 X r)(j:PE X a e)(i:PE X b tb)(hs:uQ b):PE X (.Subscript a b pos) (XC r e tb):=by intro p s c H Q I h;exact Subscript_ (EO j i I h λv u S x y l k f R q=>g a b p S c l x y v u Q k f R q (hs _ _))
def HC (K:Frag):R2:=λx y H Q=>∃p X i v,x=.r p/\y=.i i/\MR K H p X/\M5 X i=Δ v/\Q v H
def HE (K:Frag):R2:=λx y H Q=>∃p X i v,x=.r p/\y=.i i/\Md K H p X/\M5 X i=Δ v/\Q v H
def HF:R2:=λx y H Q=>∃z i c,x=.s z/\y=.i i/\z.length<=Ζ/\M5 z.cps.toList i=Δ c/\Q (.s ⟨#[c]⟩) H
def uR:Q5 X (HC X.K):=by
 intro b S P s g H x y v u Q I n R h k;let⟨p,M,i,z,rfl,rfl,A,C,q⟩:=h;cases n;let⟨t,rfl⟩:=R;let⟨c,r,pl,N⟩:=I.list A;let⟨j,a,J,O,G,F⟩:=qe C;let⟨w,E,L⟩:=r.get J;let B:=r.length;let hn:=nQ;let f:EP X P g Q w s:=⟨z,H,I,L,q⟩
 by_cases l:0<=i
 ·let e:i.toNat=j:=by rw[seqIndex_of l F]at a;exact H_ a
  exact item_listR pl.isList l ⋯ (by rw[e];simpa using E) f k
 ·let e:(i+(c.toArray.size:Int)).toNat=j:=by rw[seqIndex_neg ⋯ G]at a;rw[C_,<- B];exact H_ a
  exact subscriptTail_builtinR (x:=w) pl.isList.typeIs slot_list_getitem.lookup
   (wpAny_getItem_list_neg (Q:=λr m=>r=w/\EP X P g Q r m) pl.isList ⋯ (by rw[C_]<;>omega) ⋯ (by rw[e];simpa using E) ⟨rfl,f⟩) k
def EZ:Q5 X (HE X.K):=by
 intro a S P s b H x y v u Q I e R h k;let⟨p,F,i,z,rfl,rfl,l,n,q⟩:=h;cases e;let⟨t,rfl⟩:=R;let⟨g,r,pl,G⟩:=I.tuple l;let⟨j,B,A,M,L,J⟩:=qe n;let⟨w,E,C⟩:=r.get A;let m:=r.length;let hn:=nQ;let f:EP X P b Q w s:=⟨z,H,I,C,q⟩
 exact subscriptTail_builtinR (x:=w) pl.typeIs slot_tuple_getitem.lookup
  (getItem_tuple (j:=j) (Q:=λr c=>r=w/\EP X P b Q r c) pl ⋯ ⋯ (by rw[C_,<- m];exact B) (by simpa using E) ⟨rfl,f⟩) k
def E0:Q5 X HF:=by
 intro a S p s w H x y v u Q I R r h e;let⟨z,i,c,rfl,rfl,B,g,q⟩:=h;let⟨t,rfl⟩:=R;let⟨A,rfl⟩:=r;let⟨j,b,m,C,l,k⟩:=qe g;let f:z.cps.toList.length=z.length:=by simp[Str.length]
 rw[f]at b l k;let hn:=nQ
 exact tail_any (typeIs_str s z t) slot_str_getitem.lookup (getItem_str (c:=c) (by
  let n:decide (i < -(2 ^ 63:Int))=Ξ:=N_ ⋯;let E:decide (i >= 2 ^ 63)=Ξ:=N_ ⋯
  rw[n,E,Bool.or_false]) (by rw[b];simpa using m) ⟨.s ⟨#[c]⟩,H,I.tok _,⟨_,rfl⟩,q⟩) e
def rIx (K:Frag):R2:=λx y H Q=>HC K x y H Q∨HE K x y H Q∨HF x y H Q
def E1:Q5 X (rIx X.K):=uR.or (EZ.or E0)
def tL (its:Í)(n j:Nat)(u:Ψ):ι (·.setIfInBounds j u) {cls:=.type "list",data:=.seq its.toArray n} = {cls:=.type "list",data:=.seq (its.set j u).toArray n}:=by simp[ι]
theorem Inv.lst (I:Inv X P a H s)(h:H p=Δ (.l x)) :
  ∃(its:Í) (n:Nat),Vals x its/\s.heap.get? p=Δ {cls:=.type "list",data:=.seq its.toArray n}/\x.length<=Ζ:=by
 let⟨z,its,n,r,e⟩:=I.L1 p _ h;exact⟨its,n,r,e,z⟩
def Inv.To {its:Í}(I:Inv X P c H s)(h:H p=Δ (.l j))
  (g:s.heap.get? p=Δ {cls:=.type "list",data:=.seq its.toArray n}) (a:f {cls:=.type "list",data:=.seq its.toArray n} = {cls:=.type "list",data:=.seq its'.toArray N}) (r:Vals ys its') (hz:ys.length<=Ζ) (t:Nat) :
  Inv X P c (upd H p (.l ys)) {s with heap:=s.heap.update p f,toks:=t}:=by
 let e:(s.heap.update p f).get? p=Δ {cls:=.type "list",data:=.seq its'.toArray N}:=by rw[aaI f g (by rw[a]<;>rfl),a]
 refine I.write (x:=p) (e:=p) (by rw[h];trivial) (.inl rfl) (λb u i q=>(aat _ _ (Ne.symm i)).trans q) ⟨_,e⟩ ?_;exact⟨hz,its',N,r,e⟩
def HG:V->V->V->Hp->(Hp->Prop)->Prop:=λo i v H Q=>∃p x k j,o=.r p/\i=.i k/\H p=Δ (.l x)/\NT x.length k=Δ j/\Q (upd H p (.l (x.set j v)))
def set_list:EM X HG:=by
 intro P s z H o i v O F u Q I ro B R h;let⟨p,A,k,j,rfl,rfl,g,E,q⟩:=h;cases ro;let⟨t,rfl⟩:=B;let⟨a,n,r,c,C⟩:=I.lst g;let⟨b,G,w,m⟩:=qd E;let e:=r.length;let hn:=nQ;let y:Inv X P z (upd H p (.l (A.set j v))) {s with heap:=s.heap.update p (ι (·.setIfInBounds j u))}:=
  I.To g c (tL a n j u) (r.set R j) (by rw[List.length_set];exact C) s.toks
 by_cases x:0<=k
 ·let f:k.toNat=j:=by rw[seqIndex_of x m]at b;exact H_ b
  exact PySem.W.ki_setAt c x ⋯ (by rw[C_,<- e];exact m) (by rw[f];exact⟨_,y,q⟩)
 ·let f:(k+(a.toArray.size:Int)).toNat=j:=by rw[seqIndex_neg ⋯ w]at b;rw[C_,<- e];exact H_ b
  exact PySem.W.ki_setBack c ⋯ (by rw[C_,<- e];exact w) ⋯ (by rw[f];exact⟨_,y,q⟩)
def qf (lo hi:Option Int)(n:Nat):(sliceBounds lo hi Φ n).1=((HT.N2 n 0 lo:Nat):Int)/\(sliceBounds lo hi Φ n).2.1=((HT.N2 n n hi:Nat):Int)/\(sliceBounds lo hi Φ n).2.2=1:=by
 refine⟨?_,?_,rfl⟩
 ·cases lo with
  |none=>simp[sliceBounds,HT.N2]
  |some i=>
   simp only[sliceBounds,HT.N2,Option.getD_none,show(1:Int) > 0 by decide,if_true];by_cases h:i < 0
   ·simp only[h,if_true]<;>omega
   ·simp only[h,if_false]<;>omega
 ·cases hi with
  |none=>simp[sliceBounds,HT.N2]
  |some i=>
   simp only[sliceBounds,HT.N2,Option.getD_none,show(1:Int) > 0 by decide,if_true];by_cases h:i < 0
   ·simp only[h,if_true]<;>omega
   ·simp only[h,if_false]<;>omega
def o7 (its:Í)(lo hi:Option Int):slicePick its.toArray lo hi Φ=((its.drop (HT.N2 its.length 0 lo)).take (HT.N2 its.length its.length hi - HT.N2 its.length 0 lo)).toArray:=by let⟨a,H,h⟩:=qf lo hi its.toArray.size;unfold slicePick;rw[a,H,h];simp only[sliceRange_one,pick_run,C_]<;>rfl
def J9 (K:Frag):V->Option Int->Option Int->Hp->VK->Prop:=λx lo hi H Q=>∃a X,x=.r a/\MR K H a X/\∀p,H p=Φ->Q (.r p) (upd H p (.l (wM X lo hi)))
def uS:XF X (J9 X.K):=by intro p s m H x v u n lo hi sl Q I R k pl P h;let⟨a,c,rfl,j,q⟩:=h;cases R;let⟨i,r,f,g⟩:=I.list j;let e:=r.length;refine⟨"list",_,slot_list_getitem.lookup,f.isList.typeIs,?_⟩;refine wpAny_getItem_list_slice f.isList k pl P .none (by simp) ?_ (by rw[C_]<;>omega);rw[o7,<- e];refine⟨.r s.heap.objs.size,_,I.laid (t':=s.toks) (o:=.l (wM c lo hi)) (λb O q=>m_ _ q) (o_ _) ?_,rfl,q _ (I.L1.fresh (o_ _))⟩;exact⟨Q_ (rp c lo hi) g,_,0,(r.drop (HT.N2 c.length 0 lo)).take (HT.N2 c.length c.length hi - HT.N2 c.length 0 lo),A_ _ rfl⟩
def ml:jS X (.type "list") (λx H Q=>∃p ys,x=[.r p]/\(MR X.K H p ys∨Md X.K H p ys)/\∀l,H l=Φ->Q (.r l) (upd H l (.l ys))):=by
 intro P s v H x U Q I r h;let⟨p,ys,rfl,g,q⟩:=h;let⟨u,rfl,w⟩:=vals1 r;cases w;let F:∀(i:Í),Vals ys i->ys.length<=Ζ->∀(a:Heap) (c:Nat),(∀b O,s.heap.get? b=Δ O->a.get? b=Δ O)->
   a.get? s.heap.objs.size=Δ {cls:=.type "list",dict:=Φ,data:=.seq i.toArray c,slots:=#[]}->EP X P v Q (.ref s.heap.objs.size) {s with heap:=a}:=λi R f a c kp e=>
  ⟨.r s.heap.objs.size,_,I.laid (t':=s.toks) kp (o_ _) (show iR X.prog X.w _ a _ (.l ys) from⟨f,i,c,R,e⟩),rfl,q _ (I.L1.fresh (o_ _))⟩
 rcases g with g|g
 ·let⟨i,R,pl,f⟩:=I.list g;let j:=R.length;let⟨o,k,m,n,hd⟩:=pl.isList;exact call_list_seq p (.inl rfl) k m hd (λa c kp e=>F i R f a c kp e) (by simp only[C_]<;>omega)
 ·let⟨i,R,pl,f⟩:=I.tuple g;let j:=R.length;let⟨o,k,m,n,hd⟩:=pl;exact call_list_seq p (.inr rfl) k m hd (λa c kp e=>F i R f a c kp e) (by simp only[C_]<;>omega)
def pf:jS X (.type "tuple") (λx H Q=>∃p ys,x=[.r p]/\((MR X.K H p ys/\∀l,H l=Φ->Q (.r l) (upd H l (.t ys)))∨(Md X.K H p ys/\Q (.r p) H))):=by
 intro P s f H x U Q I r h;let⟨p,ys,rfl,h⟩:=h;let⟨u,rfl,m⟩:=vals1 r;cases m;rcases h with⟨c,q⟩|⟨c,q⟩
 ·let⟨i,R,pl,g⟩:=I.list c;let j:=R.length;refine call_tuple_list pl.isList (λa kp=>?_) (by simp only[C_]<;>omega);let k:Inv X P f H {s with heap:=a}:=I.kept (t':=s.toks) kp;let n:Inv X P f (upd H a.objs.size (.t ys)) {s with heap:=a.push {cls:=.type "tuple",data:=.seq i.toArray}}:=
   k.laid (t':=s.toks) (λb o e=>m_ _ e) (o_ _) (show iR X.prog X.w _ _ _ (.t ys) from⟨g,i,R,IsTup.new _ _⟩)
  exact⟨.r a.objs.size,_,n,rfl,q _ (k.L1.fresh (o_ _))⟩
 ·let⟨i,R,pl,g⟩:=I.tuple c;exact call_tuple_same pl ⟨.r p,H,I,rfl,q⟩
def tyV (K:Frag)(T:String)(x:V)(H:Hp):Prop:=match x with
 |.s _=>T = "str"
 |.i _=>T = "int"
 |.r p=>(T = "list"/\∃X,MR K H p X)∨(T = "tuple"/\∃o,K.lookup p=Δ o/\o.cls=.type "tuple"/\o.dict=Φ)∨
   (T = "dict"/\((∃k,H p=Δ (.d k))∨∃k,H p=Δ (.D k)))∨(T = "set"/\∃S n,H p=Δ (.s S n))
 |_=>False
def E2 {T:String}  (I:Inv X P l H s)(r:RelV x v)(b:tyV X.K T x H) :
  s.TypeIs v T/\∀a,v=.ref a->∃O,s.heap.get? a=Δ O/\O.dict=Φ:=by
 cases x with
 |s z=>let⟨t,rfl⟩:=r;cases(show T = "str" from b);exact⟨typeIs_str s z t,λ_ e=>nomatch e⟩
 |i i=>let⟨t,rfl⟩:=r;cases(show T = "int" from b);exact⟨typeIs_int s i t,λ_ e=>nomatch e⟩
 |r p=>
  cases r;rcases b with⟨rfl,m,g⟩|⟨rfl,o,h,j,hd⟩|⟨rfl,h⟩|⟨rfl,S,n,h⟩
  ·let⟨f,_,pl,_⟩:=I.list g;refine⟨pl.isList.typeIs,λa e=>?_⟩;cases e;let⟨o,n,e,c,hd,_⟩:=pl;exact⟨o,e,hd⟩
  ·refine⟨⟨o,I.Oo p o h,j⟩,λa e=>?_⟩;cases e;exact⟨o,I.Oo _ o h,hd⟩
  ·let z:∃o,s.heap.get? p=Δ o/\o.ExactDict:=by
    rcases h with⟨k,h⟩|⟨k,h⟩
    ·let⟨_,_,_,_,o,_,_,e,ex,_⟩:=I.L1 p _ h;exact⟨o,e,ex⟩
    ·let⟨_,_,_,_,o,_,_,e,ex,_⟩:=I.L1 p _ h;exact⟨o,e,ex⟩
   let⟨o,e,ex⟩:=z;refine⟨⟨o,e,ex.1⟩,λa E=>?_⟩;cases E;exact⟨o,e,ex.2.1⟩
  ·let⟨o,_,_,_,e,ex,_⟩:=I.L1 p _ h;refine⟨⟨o,e,ex.1⟩,λa E=>?_⟩;cases E;exact⟨o,e,ex.2.1⟩
 |_=>exact False.elim b
def tBM (K:Frag)(T:String)(r:V->Ï->Hp->VK->Prop)(to:TE)(t:TA):TE:=λa H Q=>to a H λx h=>tyV K T x h/\t a h λX b=>r x X b Q
def ni {id:String}(P:PlainAttrs T)(slot:Slot T name id)(U:typeOf (.builtin id)=pure (.type "method_descriptor")) (m:Zk X id r) (l:PE X o to) (n:PA X (e::E) t)
  (B:attributeBase o name X.env (eval o X.env)=eval o X.env:=by rfl)
  (N:((backTo L (Ν (e::E) X.env)).all (λx=>!x.1)&&(backToKw L (keywordEach [] X.env)).all (λx=>x.1.isSome)
  &&decide ((e::E).length+([]:List Keyword).length+(if([]:List Keyword).isEmpty then 0 else 1) < 30))=Θ:=by rfl)
  (z:(a.endLine == L.line)=Θ:=by rfl) (hs:Ν (e::E) X.env=(Ξ,eval e X.env)::Ν E X.env:=by rfl) (A:(backTo L (Ν E X.env)).any (·.1)=Ξ:=by rfl) :
  PE X (.Call (.Attribute o name a) (e::E) [] L) (tBM X.K T r to t):=by
 intro p s b H Q I h;refine wpAny_Call_method_late B N z rfl (L4 (l p s b H _ I h) λv g ⟨x,G,i,R,f,k⟩=>?_);let⟨y,w⟩:=E2 i R f;refine⟨T,id,P,slot,U,y,w,?_⟩;let c:=n L p g b G _ i k;rw[hs]at c ⊢;refine Calls.callWith_builtin (by show(Ξ||(backTo L (Ν E X.env)).any (·.1))=Ξ;rw[A]<;>rfl) (Calls.evalArgs_plain ?_);exact L4 c λu S ⟨vs,F,C,j,q⟩=>m p S b F x vs v u Q C R j q
def Zl (X:Cx)(id:String)(r:V->Ï->Hp->VK->Prop):Prop:=
 ∀(p:Ü) (s:Α) (a:St) (H:Hp) (x:V) (b:Ï) (v:Ψ) (u:Í) (Q:VK),Inv X p a H s->RelV x v->Vals b u->r x b H Q->
  Κ (Μ X.prog X.w) X.A (call (.builtin id) (v::u)) (EP X p a Q) X.xe s
def Vals.one:∀ {x:V}{U:Í},Vals [x] U->∃u,U=[u]/\RelV x u
 |_,_,.cons r .nil=>⟨_,rfl,r⟩
theorem Vals.eraseIdx:∀ {x:Ï}{u:Í} (i:Nat),Vals x u->Vals (x.eraseIdx i) (u.eraseIdx i)
 |_,_,_,.nil=>.nil
 |_,_,0,.cons _ t=>t
 |_,_,i+1,.cons r t=>.cons r (Vals.eraseIdx i t)
theorem Vals.rep (h:Vals x u):∀k:Nat,Vals (Τ k x).flatten (Τ k u).flatten
 |0=>.nil
 |k+1=>by rw[List.replicate_succ,List.replicate_succ,List.flatten_cons,List.flatten_cons];exact Vals.append h (Vals.rep h k)
theorem pK {a:Type}:∀(l:List a) (i:Nat),(l.eraseIdx i).length<=l.length
 |[],_=>o_ _
 |_::_,0=>Nat.le_succ _
 |_::r,i+1=>Nat.succ_le_succ (pK r i)
theorem foldl_rep (its:Í):∀(k:Nat) (a:Í),
  List.foldl (λX x=>X++x) a.toArray (Τ k its.toArray)=(a++(Τ k its).flatten).toArray
 |0,a=>by simp
 |k+1,a=>by
  let e:a.toArray++its.toArray=(a++its).toArray:=by simp
  let E:(a++its)++(Τ k its).flatten=a++(Τ (k+1) its).flatten:=by rw[List.replicate_succ,List.flatten_cons,G_]
  rw[<- E,<- foldl_rep its k (a++its),<- e,List.replicate_succ,aah]
def Inv.Tq {its:Í}(I:Inv X p a H s)(i:H l=Δ (.l j))
  (e:s.heap.get? l=Δ {cls:=.type "list",data:=.seq its.toArray n}) (c:f its.toArray=its'.toArray) (h:Vals ys its') (hz:ys.length<=Ζ) :
  Inv X p a (upd H l (.l ys)) {s with heap:=s.heap.update l (ι f),toks:=t'}:=by
 let q:=PySem.IsL.update e f;rw[c]at q;refine I.write (x:=l) (e:=l) (by rw[i];exact trivial) (.inl rfl) (λB u g b=>(aat s.heap (ι f) (Ne.symm g)).trans b) ⟨_,q⟩ ?_;exact⟨hz,its',_,h,q⟩
def Inv.Tt {its:Í}  (I:Inv X p a H s)(h:Vals ys its)(hz:ys.length<=Ζ) :
  Inv X p a (upd H s.heap.objs.size (.l ys)) {s with heap:=s.heap.push {cls:=.type "list",data:=.seq its.toArray},toks:=t'}:=
 I.laid (λ_ _ q=>m_ _ q) (o_ _) ⟨hz,its,0,h,A_ _ rfl⟩
theorem Inv.fresh (I:Inv X p a H s):H s.heap.objs.size=Φ:=I.L1.fresh (o_ _)
def Inv.Tu (I:Inv X p a H s)(h:H l=Δ (.l x)):x.length<=Ζ/\∃(its:Í) (n:Nat),Vals x its/\x.length=its.length/\s.heap.get? l=Δ {cls:=.type "list",data:=.seq its.toArray n}:=by let⟨z,its,n,r,e⟩:=I.L1 l _ h;exact⟨z,its,n,r,r.length,e⟩
def xY (h:n<=Ζ):Builtin.List.listTooLong n=Ξ:=by unfold Builtin.List.listTooLong;exact N_ ⋯
def B0:V->Ï->Hp->VK->Prop:=λx vs H Q=>∃l X y,x=.r l/\vs=[y]/\H l=Δ (.l X)/\X.length < Ζ/\Q .L (upd H l (.l (X++[y])))
def kP:Zl X "list.append" B0:=by intro p s f H x vs v U Q I R b h;let⟨l,g,y,rfl,rfl,a,j,q⟩:=h;cases R;let⟨u,rfl,c⟩:=b.one;let⟨z,i,n,r,k,e⟩:=I.Tu a;refine call_meets F.slot_list_append ⟨_,e,rfl⟩ F.entry_list_append (F.args_list_append_2 _ _) (PySem.list_append l i.toArray n u (by rw[C_];omega)) ⟨e,?_⟩;refine⟨.L,_,I.Tq (its':=i++[u]) a e (by simp) (r.append (.cons c .nil)) ?_,rfl,q⟩;rw[q_,V_];omega
def E3:V->Ï->Hp->VK->Prop:=λx vs H Q=>∃l X i k y,x=.r l/\vs=[.i i]/\H l=Δ (.l X)/\-(2 ^ 63)<=i/\i < 2 ^ 63/\seqIndex? i X.length=Δ k/\X[k]? = Δ y/\Q y (upd H l (.l (X.eraseIdx k)))
def xZ:Zl X "list.pop" E3:=by
 intro p s J H x vs v U Q I R f h;let⟨l,c,i,k,y,rfl,rfl,b,E,C,B,j,q⟩:=h;cases R;let⟨u,rfl,g⟩:=f.one;let⟨t,rfl⟩:=g;let⟨z,a,n,r,A,e⟩:=I.Tu b;let⟨w,m,G⟩:=r.get j;refine call_meets F.slot_list_pop ⟨_,e,rfl⟩ F.entry_list_pop (F.args_list_pop_2 _ _)
  (MeetsSeq.list_pop_at l a.toArray n i t k w (fitsIndex_both E C) (by rw[C_,<- A];exact B) (by rw[<- aay];exact m) (by rw[C_];omega)) ⟨e,?_⟩
 refine⟨y,_,I.Tq (its':=a.eraseIdx k) b e ?_ (r.eraseIdx k) ?_,G,q⟩
 ·show a.toArray.eraseIdxIfInBounds k=(a.eraseIdx k).toArray;rw[List.eraseIdxIfInBounds_toArray]
 ·have:=pK c k;omega
def len_rep {a:Type}(x:List a)(k:Nat):(Τ k x).flatten.length=k*x.length:=by
 induction k with
 |zero=>simp
 |succ k i=>rw[List.replicate_succ,List.flatten_cons,q_,i,Nat.succ_mul,Nat.add_comm]
end L2
namespace Att
open PySem PySem.W PySem.Calls PyProof.Rows
@[reducible]def _root_.È:=List Int
def nt:∀(ns:È) (vs:Í),WellAll P h vs (ns.map WData.int)->IntsAre vs ns:=by
 intro ns
 induction ns with
 |nil=>intro vs w;rw[List.map_nil]at w;cases w;exact .nil
 |cons n ns i=>
  intro vs w;rw[a_]at w;cases w with
  |cons a b=>cases a;exact .cons _ _ (i _ b)
def wN {l:OpenLaw}  (hn:l.most=Δ n)
  (R:l.row.toRowW.claim.pre A=Θ) (z:WellAll P h vals A) :
  ∃a vs ns,vals=[θ a]/\A=[WData.list (ns.map WData.int)]/\h.get? a=Δ {cls:=.type "list",data:=.seq vs.toArray}/\IntsAre vs ns/\ns.length<=n:=by
 let e:WShape.hasAll [] A [.list .int]=Θ:=(pre_splitW R).1;let f:l.pre.holds [] {args:=A} = Θ:=(pre_splitW R).2;let⟨d,r,rfl,k,j⟩:=hasAllW_cons e;obtain rfl:=hasAllW_nil j;let⟨x,rfl,i⟩:=hasW_list k;let⟨ns,rfl⟩:=items_int i;let H:ns.length<=n:=by
  unfold OpenLaw.pre at f;let c:(WTm.not (.lt (.lit (.int (n:Int))) (.len (.arg 0)))).holds [] {args:=[.list (ns.map .int)]} = Θ:=by let c:=(holds_andW f).1;rw[hn]at c;exact c
  let b:=condW_of c (w_not (w_lt w_lit (w_len_list (w_arg rfl))));rw[i_]at b;refine Nat.le_of_not_lt λq=>?_;let Q:(n:Int) < ((ns.length:Nat):Int):=⋯
  first
   | (rw[B_ Q]at b;exact absurd b nofun)
   | (simp at b;omega)
 cases z with
 |cons W w=>
  cases w;cases W with
  |list g p=>exact⟨_,_,ns,rfl,rfl,g,nt ns _ p,H⟩
def wO (l:OpenLaw)(a:List WData):l.row.toRowW.claim.post a (.bool Θ) a=Θ:=
 postW_of (r:=l.row.toRowW) (X:=(Θ == Θ))
  (show WShape.has [] (.bool Θ) .bool=Θ by first|rfl|decide|simp[WShape.has,WShape.arms,WShape.armsAll])
  (show(WTm.eq .res (.lit (.bool Θ))).value [] {args:=a,res:=Δ (.bool Θ),after:=a} = Δ (.bool (Θ == Θ)) from w_eq_bool (w_res rfl) w_lit) rfl
def OM {l:OpenLaw}
  (hn:l.most=Δ n) (J:d.params.defaults=[])
  (call:∀(w:Β) (Mq L:Α) (mg m:Str->Option Ψ) (F:Ω) (o:Obj) (pm C c:Ψ) (a:Ω) (vs:Í) (ns:È),
   Ground q b [] X w Mq mg m L.heap->I w L.heap->
   L.heap.get? F=Δ o->o.data=.func (docDef d.name d.params d.body d.scope pm C c)->L.heap.CodeRec C d.name->mg d.name=Δ (.ref F)->
   L.heap.get? a=Δ {cls:=.type "list",data:=.seq vs.toArray}->IntsAre vs ns->ns.length<=n->L.gens = #[]->
   codeAny (Μ l.prog w) callerA (.call (.ref F) ⟨[.ref a],[]⟩) (λr s=>r=.ok (.ret (.bool Θ))/\OldK L.heap s.heap/\s.os=L.os/\AllBare s.gens) L) :
  WalkO q b X I l.row.toRowW d [] (λf vs=>PySem.call f vs):=by
 intro w Mq L mg m G Y F o pm C c z kV k hd Q g e u A vals as R B i E S;obtain rfl:z=.none:=Dflts.none g J;obtain rfl:kV=.none:=Dflts.noKw g;let⟨a,vs,ns,rfl,rfl,M,h,H⟩:=wN hn R E;refine enter_call (codeAny_mono (call w Mq L mg m F o pm C c a vs ns G Y k (fd_plain hd) Q e M h H u) λr s j=>?_);let⟨rfl,y,x,v⟩:=j;exact⟨.inl ⟨.bool Θ,.bool Θ,[],rfl,λ_=>rfl,.bool Θ,wO l _,λ_=>⟨List.Pairwise.nil,λ_ p=>(nomatch p)⟩⟩,y,x,v⟩
end Att
namespace L2
open PySem PySem.Spec PyProof.Rows
def KL (K:Frag)(a:Ω)(x:Ï):Prop:=
 ∃(i:Í) (n:Nat),K.lookup a=Δ {cls:=.type "list",data:=.seq i.toArray n}/\i.length<=Ζ/\Vals x i
def Ls (K:Frag)(H:Hp)(a:Ω)(x:Ï):Prop:=Rd H a (.l x)∨KL K a x
theorem pL:∀ {vs:Í}{ns:È},IntsAre vs ns->Vals (ns.map V.i) vs
 |_,_,.nil=>.nil
 |_,_,.cons n t h=>.cons ⟨t,rfl⟩ (pL h)
def E4 (H:Hp):Prop:=∀b,H b=Φ∨∃o x,H b=Δ (.L o (.l x))
def x9 {K:Frag}
  (W:K.In c.heap) (Q:c.heap.Ns Η mg) (f:c.heap.Ns builtinsNs M) (A:∀x:Str,x≠"__name__"->M x=bootBuiltins x) (Zn:c.heap.NoLimit) (hg:c.gens = #[])
  (p:c.heap.get? a=Δ {cls:=.type "list",data:=.seq vs.toArray}) (hi:IntsAre vs ns) (G:ns.length<=Ζ) (hr:MU k callerA)
  (F:∀base:Heap,K.In base->base.Ns Η mg->Ng P w K mg base CX k N fd [x] sp) (VJ:∀(s:Α) (u:Ψ),BindsTo s fd ⟨[u],[]⟩ [(x,u)])
  (OC:∀H:Hp,E4 H->Ls K H a (ns.map V.i)->sp [.r a] H (λv _=>v=.b Θ) λ_ _ _=>False)
  (Zo:∀H e S,CX [] H c (λ_ _ _=>False) e S->False) :
  codeAny (Μ P w) callerA (.call (.ref N) ⟨[.ref a],[]⟩) (λr S=>r=.ok (.ret (.bool Θ))/\OldK c.heap S.heap/\S.os=c.os/\AllBare S.gens) c:=by
 let R:=pL hi;let Zq:=hi.length
 -- from an abstract heap in aci nothing but Te Tx may be tracked
 let C:∀H:Hp,E4 H->Ls K H a (ns.map V.i)->Mp P w H c.heap->(∀b,H b≠Φ->b=a)->(H a≠Φ->K.lookup a=Φ)->
   codeAny (Μ P w) callerA (.call (.ref N) ⟨[.ref a],[]⟩) (λr S=>r=.ok (.ret (.bool Θ))/\OldK c.heap S.heap/\S.os=c.os/\AllBare S.gens) c:=by
  intro H I hS L1 J hK;let U:∀ {b:Ω}{o:Obj},c.heap.get? b=Δ o->H b=Φ->(qa c.heap H).get? b=Δ o:=λe n=>xE e n;let VE:∀ {b:Ω}{o:Obj}{E:Array DictEntry}{j:Nat},c.heap.get? b=Δ o->o.data=.dict E j->H b=Φ:=λ{b o E j} e d=>by
   cases q:H b with
   |none=>rfl
   |some u=>let B:b=a:=J b (by rw[q];simp);subst B;rw[p]at e;cases e;let d':Data.seq vs.toArray _=Data.dict E j:=d;cases d'
  let X:∀ {b:Ω}{m:Str->Option Ψ},c.heap.Ns b m->(qa c.heap H).Ns b m:=λ{b m} ⟨o,E,j,e,d,r⟩=>⟨o,E,j,U e (VE e d),d,r⟩
  let i:K.In (qa c.heap H):=λb o e=>U (W b o e) (by
   cases q:H b with
   |none=>rfl
   |some u=>
    let B:b=a:=J b (by rw[q];simp);subst B
    rw[hK (by rw[q];simp)]at e;cases e)
  let hM:Mod K mg (qa c.heap H):=⟨i,X Q,⟨M,X f,A⟩,let ⟨mc,h1,h2⟩:=Zn;⟨mc,X h1,h2⟩⟩
  let e0:Pg P w K mg (qa c.heap H) callerA [] c H:=⟨rfl,hM,λb o e=>BK e,Nat.le_of_eq (wG _ _),trivial,λb f=>absurd (show b∈([]:Ì) from f) (by simp),L1,.of_eq hg⟩
  refine codeAny_mono ((F _ i (X Q)).run callerA [] c H ⟨[.ref a],[]⟩ [.ref a] [.r a] _ _ hr e0 (VJ c (.ref a)) (.cons rfl .nil) (OC H I hS)) λr S h=>?_;cases r with
  |error e=>exact(Zo H e S h).elim
  |ok fl=>
   cases fl with
   |next=>exact False.elim h
   |brk=>exact False.elim h
   |cont=>exact False.elim h
   |ret u=>
    let⟨v,H',os,bare,un,Zr,r',q⟩:=h;let q':v=.b Θ:=q;subst q';obtain rfl:u=Value.bool Θ:=r';refine⟨rfl,OldK.of_keep λb o e=>?_,os,bare⟩;cases q:H b with
    |none=>exact un.keep b o e q (by intro z;exact absurd (show b∈([]:Ì) from z) (by simp)) (by simp)
    |some u=>
     rcases I b with z|⟨ob,xs,z⟩
     ·rw[q]at z;cases z
     ·let Y:=un.M6 b ob _ z;let⟨O,_⟩:=L1 b _ z;let⟨e2,_⟩:=Zr b _ Y;rw[e]at O;cases O;exact e2
 cases y:K.lookup a with
 |some o=>
  -- Te Tx is one of Te VL own objects
  let e:=W a o y;rw[p]at e;cases e;refine C (λ_=>Φ) (λ_=>.inl rfl) (.inr ⟨vs,_,y,by rw[Zq];exact G,R⟩) (λb u z=>by let g:(Φ:Option HO)=Δ u:=z;cases g) (λb z=>absurd rfl z) λz=>absurd rfl z
 |none=>
  refine C (λb=>if b=a then Δ (.L {cls:=.type "list",data:=.seq vs.toArray} (.l (ns.map V.i))) else Φ) (λb=>?_) (.inl (.inr ⟨{cls:=.type "list",data:=.seq vs.toArray},e_ rfl⟩)) (λb u z=>?_) (λb z=>?_) λ_=>y
  ·by_cases f:b=a
   ·exact .inr ⟨_,_,e_ f⟩
   ·exact .inl (d_ f)
  ·by_cases f:b=a
   ·let g:=(e_ f).symm.trans z;cases g;subst f;exact⟨p,by rw[i_];exact G,vs,_,R,p⟩
   ·let g:=(d_ f).symm.trans z;cases g
  ·by_cases f:b=a
   ·exact f
   ·exact absurd (d_ f) z
def B3 {l:PySem.W.OpenLaw}{n k:Nat}{q:Ε}{L:Æ}{X:(Str->Option Ψ)->Heap->Prop}{y:Β->Heap->Prop}{d:DefRec}{K:Params->Frag}{CX:Β->PK}{sp:Β->Sp}{x:Str}
  (hn:l.most=Δ n) (O:n<=Ζ) (P:d.params.defaults=[]) (z:MU k callerA)
  (C:∀(w:Β) (h:Heap),y w h->(K w.params).In h)
  (F:∀(w:Β) (mg:Str->Option Ψ) (i:Ω) (h:Heap),(K w.params).In h->h.Ns Η mg->mg d.name=Δ (.ref i)->
   ∃m:Ο,(∀(s:Α) (u:Ψ),BindsTo s m ⟨[u],[]⟩ [(x,u)])/\
    ∀base:Heap,(K w.params).In base->base.Ns Η mg->Ng l.prog w (K w.params) mg base (CX w) k i m [x] (sp w))
  (R:∀(w:Β) (H:Hp) (a:Ω) (ns:È),ns.length<=n->E4 H->Ls (K w.params) H a (ns.map V.i)->sp w [.r a] H (λv _=>v=.b Θ) λ_ _ _=>False)
  (N:∀(w:Β) (H:Hp) (s:Α) (e:Ψ) (S:Α),CX w [] H s (λ_ _ _=>False) e S->False) :
  PySem.W.WalkO q L X y l.row.toRowW d [] (λf vs=>PySem.call f vs):=by
 refine Att.OM hn P λw Mq U mg W i o pm cd M a vs ns G Y ho hd QA j Q g c A=>?_;let p:=C w _ Y;let⟨m,B,J⟩:=F w mg i _ p G.T.g j;exact x9 p G.T.g G.T.b G.T.builtins G.T.nolimit A Q g (Q_ c O) z J B (λH I E=>R w H a ns c I E) λH e S=>N w H U e S
abbrev jI (s:Stmt):Arguments:=match s with
 |.FunctionDef _ a _ _ _ _ _ _ _ _=>a
 |_=>{posonlyargs:=[],args:=[],vararg:=Φ,kwonlyargs:=[],kw_defaults:=[],kwarg:=Φ,defaults:=[]}
abbrev jb (s:Stmt):À:=match s with
 |.FunctionDef _ _ b _ _ _ _ _ _ _=>b
 |_=>[]
abbrev iG (s:Stmt):Scope:=match s with
 |.FunctionDef _ _ _ _ _ _ sc _ _ _=>sc
 |_=>{kind:=.function,names:=[],isGenerator:=Ξ,isCoroutine:=Ξ}
structure Su (K:Frag)(x qual:Str)(st:Stmt)(f:Ω)(fd:Ο):Prop where
 ex:∃(oc:Ψ) (od:Option Ω) (kV doc pm:Ψ) (an:Option Ω) (Ot ct:Ψ) (Rx:Array (Option Ψ)),
  fd=PySem.W.fnOf x qual (jI st) (jb st) (iG st) .none kV doc pm an Ot ct/\K.lookup f=Δ ⟨oc,od,.func fd,Rx⟩/\PySem.W.codeIn K Ot qual=Θ
 kp:PySem.W.keepIn K (.ref f)=Θ
def Su.binds {K:Frag}{st:Stmt}  (F:Su K x q st f b)
  (h:∀(kV a pm:Ψ) (A:Option Ω) (O ct:Ψ) (u:Í),u.length=p.length->bindArgs (PySem.W.fnOf x q (jI st) (jb st) (iG st) .none kV a pm A O ct) ⟨u,[]⟩=pure (p.zip u)):Binds K b p []:=by
 let⟨e,c,kV,a,pm,A,O,ct,R,rfl,l,Q⟩:=F.ex;exact .all (h kV a pm A O ct)
def nV {K:Frag}{st:Stmt}  {kV:Ψ}(l:K.lookup f=Δ ⟨e,b,.func (PySem.W.fnOf x q (jI st) (jb st) (iG st) .none kV a pm A O ct),R⟩)
  (c:PySem.W.codeIn K O q=Θ) (k:PySem.W.keepIn K (.ref f)=Θ):Su K x q st f (PySem.W.fnOf x q (jI st) (jb st) (iG st) .none kV a pm A O ct):=⟨⟨e,b,kV,a,pm,A,O,ct,R,rfl,l,c⟩,k⟩
def ir (H H':Hp):Prop:=∀b o,H b=Δ o->H' b=Δ o
def ir.refl (H:Hp):ir H H:=λ_ _ h=>h
def ir.trans (a:ir H f)(b:ir f e):ir H e:=λc o h=>b c o (a c o h)
def ir.free (e:ir H H')  (h:H' l=Option.none):H l=Option.none:=by
 cases q:H l with
 |none=>rfl
 |some o=>rw[e l o q]at h;cases h
def ir.seq {K:Frag}  (e:ir H H')(h:MR K H a x):MR K H' a x:=by
 rcases h with(h|⟨o,h⟩)|h
 ·exact .inl (.inl (e _ _ h))
 ·exact .inl (.inr ⟨o,e _ _ h⟩)
 ·exact .inr h
def iy (h:PE X e t)(m:∀a H Q,t' a H Q->t a H Q):PE X e t':=λp s a H Q I q=>h p s a H Q I (m a H Q q)
def lQ (h:PT X e t)(m:∀a H Q,t' a H Q->t a H Q):PT X e t':=λp s a H Q I q=>h p s a H Q I (m a H Q q)
def qg (h:PA X e t)(m:∀a H Q,t' a H Q->t a H Q):PA X e t':=λpos p s a H Q I q=>h pos p s a H Q I (m a H Q q)
def jg (h:PS X e t)(m:∀D a H,t' D a H->t D a H):PS X e t':=λp s a H D I q=>h p s a H D I (m D a H q)
def nv (h:OB X e t)(m:∀D a H,t' D a H->t D a H):OB X e t':=λp s a H D I q=>h p s a H D I (m D a H q)
def qh (h:PI X b e t)(m:∀a H Q,t' a H Q->t a H Q):PI X b e t':=λp s a H Q I q=>h p s a H Q I (m a H Q q)
def PN (X:Cx)(s:Scope)(cl:List (Str×Ω))(N:Æ)(C:Ω)(S:Α)(H:Hp)(f:Ì)(xe:Ö:=λ_ _=>False):Cx:=
 {X with N:=N,Mq:=S,P9:=H,env:=compEnvC s cl C X.env,outer:=X.stack,ex:=f,fn:=λ_=>Ξ,pn:=[],xe:=xe}
structure Nr (X:Cx)(scope:Scope)(cl:List (Str×Ω))(Fr:List (Str×Nat))(Tg:Æ):Prop where
 VM:closureFor scope X.env=pure cl
 kind:scope.kind=.function
 Ou:∀y∈scope.names,y.2≠.cell
 loc:∀y∈scope.names,y.2=.local->scope.names.lookup y.1=Δ .local
 sub:∀x c,cl.lookup x=Δ c->X.env.cells.lookup x=Δ c
 has:∀x,((relabel scope X.env).names.lookup x=Δ .cell∨(relabel scope X.env).names.lookup x=Δ .free)->∃c,cl.lookup x=Δ c
 out:∀p∈Fr,X.N[p.2]? = Δ p.1/\(X.env.kindOf p.1=Δ .cell∨X.env.kindOf p.1=Δ .free)/\((relabel scope X.env).names.lookup p.1=Δ .cell∨(relabel scope X.env).names.lookup p.1=Δ .free)
abbrev stC (Fr:List (Str×Nat))(Tg:Æ)(a:St):St:=Fr.map (λp=>(a[p.2]?).join)++Τ Tg.length Φ
section
variable {X:Cx}{s:Scope}{cl:List (Str×Ω)}{Fr:List (Str×Nat)}{Tg:Æ}{a:Ü}{g:St}{H:Hp}{f:Α}{j:Ì}
theorem E5 (S:Nr X s cl Fr Tg)(I:Inv X a g H f)(k:∀b∈j,lj X a H b)(n:∀b∈j,b < f.heap.objs.size)(N:Æ)(xe:Ö):(PN X s cl N f.heap.objs.size f H j xe).Ok where
 mod:=I.ok.mod
 kind:=S.kind
 glob:=I.ok.glob
 blt:=I.ok.blt
 above:=o_ _
 inj:=λx y c m l=>I.ok.inj x y c (S.sub x c m) (S.sub y c l)
 has:=λx h=>S.has x h
 Xy:=λx c h _=>absurd (show Ξ=Θ from h) nofun
 hd:=I.ok.hd
 frames:=I.ok.frames
 LP:=.inl rfl
 Y6:=λb i=>⟨n_ (n b i),λx c e z=>(k b i).2.2.2.2.1 x c (S.sub x c e) z⟩
 bs:=I.bs
 Q2:=Q_ I.ok.Q2 I.sz
 Rv:=λb o e i=>by
  rcases(k b i).2.2.2.1 with z|z
  ·exact I.ok.Rv b o e z
  ·exact absurd (E_ (j_ e) (Q_ I.ok.Q2 z)) (aac _)
 Rw:=λb i z=>by
  rcases k_.mp (I.Pd b z) with z|z
  ·exact(k b i).2.1 z
  ·exact(k b i).2.2.1 z
 Np:=I.stack
 P':=I.PF
theorem wQ (S:Nr X s cl Fr Tg)(I:Inv X a g H f)(P:∀b∈j,lj X a H b)(W:∀b∈j,b < f.heap.objs.size){h':Heap}{G:Nat}
  (Tw:h'.Ns f.heap.objs.size (λ_=>Φ)) (n:∀b o,f.heap.get? b=Δ o->h'.get? b=Δ o) (xe:Ö) :
  Inv (PN X s cl (Fr.map (·.1)++Tg) f.heap.objs.size f H j xe) [] (stC Fr Tg g) H {f with heap:=h',toks:=G} where
 ok:=E5 S I P W _ _
 os:=rfl
 bare:=I.bare
 base:=Un.kept n
 loc:=by
  refine⟨_,Tw,λi x v U E e3=>?_⟩;let hi:i < Fr.length:=by
   by_cases hi:i < Fr.length
   ·exact hi
   ·unfold stC at E;rw[aaS (by simpa using hi),List.getElem?_replicate]at E;split at E<;>cases E
  let F:(Fr.map (·.1))[i]? = Δ x:=by rw[<- U];exact(aaH (by simpa using hi)).symm
  let M:(Fr.map (λp=>(g[p.2]?).join))[i]? = Δ (Δ v):=by rw[<- E];exact(aaH (by simpa using hi)).symm
  rw[D_]at F M;let⟨p,h,rfl⟩:=aaO.mp F;rw[h]at M;let R:(g[p.2]?).join=Δ v:=H_ M;let Q:g[p.2]? = Δ (Δ v):=by
   cases q:g[p.2]? with
   |none=>rw[q]at R;cases R
   |some y=>rw[q]at R;rw[show y=Δ v from R]
  let⟨J,O,A⟩:=S.out p (Z_ h);let⟨m,hn,N⟩:=I.loc;let L:Vu X.env.scope p.1:=by
   rcases O with O|O
   ·exact .inr (.inl O)
   ·exact .inr (.inr O)
  let⟨u,r,l⟩:=N p.2 p.1 v J Q L;refine⟨u,r,.inr ⟨A,?_⟩⟩;let⟨c,B⟩:=S.has p.1 A;refine⟨c,B,?_⟩;let Y:=S.sub _ _ B;rcases l with⟨k,_⟩|⟨_,c2,C,z⟩
  ·rcases O with O|O<;>(rw[k]at O;cases O)
  ·rw[Y]at C;cases C;let⟨o,w,hd⟩:=z;exact⟨o,n _ _ w,hd⟩
 cell:=λx c e=>by let⟨v,o,w,hd⟩:=I.cell x c (S.sub x c e);exact⟨v,o,n _ _ w,hd⟩
 free:=I.L1.fresh (o_ _)
 M4:=λx c e=>I.M4 x c (S.sub x c e)
 pin:=λp h=>absurd (show p∈([]:Ü) from h) (by simp)
 L1:=I.L1.kept n
 len:=by unfold stC;show _=(Fr.map (·.1)++Tg).length;simp
end
def RC (X:Cx)(i:Á)(t:TT):Prop:=
 ∀(p:Ü) (s:Α) (a:St) (H:Hp) (Q:Bool->Hp->Prop),Inv X p a H s->t a H Q->
  Κ (Μ X.prog X.w) X.A (forIn i Θ λc r=>if r=Θ then do let ok <- isTrue c X.env (eval c X.env);pure (ForInStep.yield ok) else pure (ForInStep.yield r)) (TP X p a Q) X.xe s
theorem nj (h:Q Ξ s):∀i:Á,
  Κ M A (forIn i Ξ λc r=>if r=Θ then do let ok <- isTrue c env (eval c env);pure (ForInStep.yield ok) else pure (ForInStep.yield r)) Q E s
 |[]=>by rw[List.forIn_nil];exact f_ h
 |c::cs=>by rw[List.forIn_cons];rw[d_ p_];exact b_ (f_ (nj h cs))
def B4:RC X [] (λ_ H Q=>Q Θ H):=λp s a H Q I q=>by rw[List.forIn_nil];exact f_ ⟨H,I,q⟩
def ya (g:PT X c t)(f:RC X cs u):RC X (c::cs) (Hq t u):=λp s a H Q I q=>by
 rw[List.forIn_cons,e_ rfl];refine b_ (b_ (L4 (g p s a H _ I q) λb S ⟨h,i,e⟩=>f_ ?_))
 cases b using zB with
 |true=>exact f p S a h Q i e
 |false=>exact nj ⟨h,i,e⟩ cs
def yb (w:TI)(start:St->St)(g:TG)(k:TT)(n:TE):TE:=λa H Q=>w a H λJ j=>∀D,j D=Φ->∃W:Nat->Nat->St->Hp->Prop,(∃m,W 0 m (start a) (upd j D (.l [])))/\
 ∀i m L h,W i m L h->(J.stop i h/\Q (.r D) h)∨(J.go i h/\∀x f,J.Q3 i h x f->g x L f λO p=>k O p λb e=>
  if b=Θ then n O e λv c=>∃y,c D=Δ (.l y)/\y.length < Ζ/\∃M,M < m/\W (i+1) M O (upd c D (.l (y++[v])))
  else ∃M,M < m/\W (i+1) M O e)
def qi (s:Scope)(pos:Pos)(I a:Ψ)(env:Env) :
  compTurn (.ListComp e [⟨b,iter,i,0⟩] s pos) 0 I a env=(do
   standAt iter.pos
   match <- pyNext I with
   |none=>pure (.done .next)
   |some v=>
    letOwnedTupleGo b I v
    assign b env v
    let ok <- forIn i Θ λc r=>if r=Θ then do let ok <- isTrue c env (eval c env);pure (ForInStep.yield ok) else pure (ForInStep.yield r)
    if ok=Θ then
     (do let _ <- call (.builtin "list.append") [a,<- eval e env])
    again (.compLoop (.ListComp e [⟨b,iter,i,0⟩] s pos) 0 I a env)):=by rfl
def nW {Fr:List (Str×Nat)}{XE:Ω->Α->Hp->Ì->Ö}(hc:X.calm=Θ)(S:Nr X a cl Fr Tg)
  (hg:∀C s H f,PG (PN X a cl (Fr.map (·.1)++Tg) C s H f (XE C s H f)) tg g) (ht:∀C s H f,RC (PN X a cl (Fr.map (·.1)++Tg) C s H f (XE C s H f)) N tt)
  (he:∀C s H f,PE (PN X a cl (Fr.map (·.1)++Tg) C s H f (XE C s H f)) O te)
   {Q:VK} (I2:Inv X P σ F M) (T:Turn X.prog X.w X.K tg J f it tn) (Q4:tn 0 M.heap)
  (f2:∀b∈f,lj X P F b)
  (q:∀D,F D=Φ->∃W:Nat->Nat->St->Hp->Prop,(∃m,W 0 m (stC Fr Tg σ) (upd F D (.l [])))/\
   ∀i m I H',W i m I H'->(J.stop i H'/\Q (.r D) H')∨(J.go i H'/\∀x F,J.Q3 i H' x F->g x I F λOL H3=>tt OL H3 λb H4=>
    if b=Θ then te OL H4 λv A=>∃ys,A D=Δ (.l ys)/\ys.length < Ζ/\∃U,U < m/\W (i+1) U OL (upd A D (.l (ys++[v])))
    else ∃U,U < m/\W (i+1) U OL H4))
   {RR:Ψ->Env->Result->Α->Prop}
  (hR:∀D C j H',(∃m,j.heap.Ns C m)->Inv X P σ H' j->lj X P H' C->Q (.r D) H'->∀V:Env,V.locals=C->V.frame=X.env.frame->RR (.ref D) V (.ok .next) j)
  (hX:∀D C w H3,(∀B RE A,Inv (PN X a cl (Fr.map (·.1)++Tg) C w H3 f (XE C w H3 f)) [] RE A B->(∃m,B.heap.Ns C m)/\Inv X P σ A B/\lj X P A C)->∀e j,XE C w H3 f e j->
   notedBy (Μ X.prog X.w) X.A (compEnvC a cl C X.env) (λx QF=>∀V:Env,V.locals=C->V.frame=X.env.frame->RR (.ref D) V (.error x) QF) e j) :
  Κ (Μ X.prog X.w) X.A (newList []) (λacc RF=>Κ (Μ X.prog X.w) X.A (newFunctionEnv a X.env.globals cl [] X.env.qual Φ .none (Δ X.env)) (λVN Zt=>
   codeAny (Μ X.prog X.w) X.A (.compStart (.ListComp O [⟨tg,iter,N,0⟩] a pos) 0 (.ref it) acc {VN with scope:=relabel a X.env}) (RR acc VN) Zt) E RF) E M:=by
 let fsz:∀b∈f,b < M.heap.objs.size:=λb k=>by let⟨o,e,_⟩:=T.obj _ _ Q4 b k;exact j_ e
 -- Te Sy
 refine aaJ ?_;let I3:Inv X P σ (upd F M.heap.objs.size (.l [])) {M with heap:=M.heap.push {cls:=.type "list",data:=.seq ([]:Í).toArray},toks:=M.toks}:=I2.Tt (ys:=[]) (its:=[]) .nil (aaa _);generalize hD:M.heap.objs.size=D at I3 ⊢;let hDn:F D=Φ:=by rw[<- hD];exact I2.fresh
 generalize XJ:({M with heap:=M.heap.push {cls:=.type "list",data:=.seq ([]:Í).toArray},toks:=M.toks}:Α)=w at I3;let k3:∀b o,M.heap.get? b=Δ o->w.heap.get? b=Δ o:=λb o e=>by rw[<- XJ];exact m_ _ e
 let sz3:w.heap.objs.size=D+1:=by rw[<- XJ,<- hD];exact W_ ..
 let VO:∀b∈f,b < D:=λb k=>by rw[<- hD];exact fsz b k
 let Zu:∀b∈f,b < w.heap.objs.size:=λb k=>by rw[sz3];exact Nat.lt_succ_of_lt (VO b k)
 let f3:∀b∈f,lj X P (upd F D (.l [])) b:=λb k=>by let⟨a1,a2⟩:=f2 b k;refine⟨?_,a2⟩;rw[ik (n_ (VO b k))];exact a1
 let⟨W,⟨m0,w0⟩,turn⟩:=q D hDn;refine wpAny_newFunctionEnv S.Ou (by intro y hy;simp at hy) (λh4 Tw VP=>codeAny_mono (R:=λr j=>∀V:Env,V.locals=w.heap.objs.size->V.frame=X.env.frame->RR (.ref D) V r j) ?_ λr j z=>z _ rfl rfl) S.kind;let k4:∀b o,w.heap.get? b=Δ o->h4.get? b=Δ o:=λb o e=>
  VP.extBut b o (n_ (j_ e)) (m_ _ e)
 let st4:tn 0 h4:=T.keep _ _ _ Q4 λb k o e=>k4 b o (k3 b o e);let I4:=wQ (j:=f) (h':=h4) (G:=w.toks+([]:List (Str×Ψ)).length) S I3 f3 Zu (by simpa using Tw) k4 (XE w.heap.objs.size w (upd F D (.l [])) f);generalize hC:w.heap.objs.size=C at I4 Tw VP ⊢;let Zv:=hX D C w (upd F D (.l []));generalize hZ:XE C w (upd F D (.l [])) f=Z at I4 Zv;generalize G:PN X a cl (Fr.map (·.1)++Tg) C w (upd F D (.l [])) f Z=Y at I4 Zv;let yP:Y.prog=X.prog:=by rw[<- G];rfl
 let yw:Y.w=X.w:=by rw[<- G];rfl
 let yK:Y.K=X.K:=by rw[<- G];rfl
 let yA:Y.A=X.A:=by rw[<- G];rfl
 let yc:Y.calm=Θ:=by rw[<- G];exact hc
 let yx:Y.xe=Z:=by rw[<- G];rfl
 let ye:Y.env=compEnvC a cl C X.env:=by rw[<- G];rfl
 let VQ:Y.ex=f:=by rw[<- G];rfl
 let ypn:Y.pn=[]:=by rw[<- G];rfl
 let yfs:Y.fs=NP X.stack:=by rw[<- G];rfl
 let yH:Y.P9=upd F D (.l []):=by rw[<- G];rfl
 let SA:Y.Mq=w:=by rw[<- G];rfl
 let hg':PG Y tg g:=by rw[<- G,<- hZ];exact hg _ _ _ _
 let N3:RC Y N tt:=by rw[<- G,<- hZ];exact ht _ _ _ _
 let he':PE Y O te:=by rw[<- G,<- hZ];exact he _ _ _ _
 let Pf:∀ {H':Hp},(∀b∈f,H' b=Φ)->∀b∈f,lj Y [] H' b:=λhn b k=>by let Zw:=I4.ok;refine⟨hn b k,(Zw.Y6 b (by rw[VQ];exact k)).1,Zw.Rw b (by rw[VQ];exact k),.inl (by rw[VQ];exact k),(Zw.Y6 b (by rw[VQ];exact k)).2,λp hp=>absurd hp (by rw[ypn];simp)⟩
 let fr0:∀b∈f,(upd F D (.l [])) b=Φ:=λb k=>(f3 b k).1
 -- back to Te frame
 let back:∀(B:Α) (RE:St) (A:Hp),Inv Y [] RE A B->(∃m,B.heap.Ns C m)/\Inv X P σ A B/\lj X P A C:=by
  intro B RE A I5;let Zx:∃m,B.heap.Ns C m:=by let⟨m,hn,_⟩:=I5.loc;rw[ye]at hn;exact⟨m,hn⟩
  let un5:Un (NP X.stack) f (upd F D (.l [])) A w.heap B.heap:=by let u:=I5.base;rw[yfs,VQ,yH,SA]at u;exact u
  let os5:B.os=w.os:=by have:=I5.os;rw[SA]at this;exact this
  let Zy:Mp X.prog X.w A B.heap:=by have:=I5.L1;rw[yP,yw]at this;exact this
  let Qp:∀b∈f,(b∈X.ex∨X.Mq.heap.objs.size<=b)/\b≠X.env.locals/\(∀x c,X.env.cells.lookup x=Δ c->c≠b)/\∀p∈X.pn++P,p.1≠b:=λb k=>by let⟨_,a1,_,a3,a4,a5⟩:=f3 b k;exact⟨a3,a1,a4,a5⟩
  let VR:A C=Φ:=by have:=I5.free;rw[ye]at this;exact this
  exact⟨Zx,I3.Vy os5 un5 Zy I5.bare Qp,I3.Pe (Nat.le_of_eq hC) VR⟩
 let nz:∀ {α:Type}{t:Sem α}{Q:α->Α->Prop}{s:Α},Κ (Μ X.prog X.w) X.A t Q Z s->Κ (Μ X.prog X.w) X.A t Q (notedBy (Μ X.prog X.w) X.A (compEnvC a cl C X.env) λx QF=>∀V:Env,V.locals=C->V.frame=X.env.frame->RR (.ref D) V (.error x) QF) s:=λh=>wpAny_mono h (λ_ _ z=>z) λe j z=>Zv back e j z;let loop:∀(B:Α) (RE:St) (A:Hp) (i m:Nat),Inv Y [] RE A B->tn i B.heap->(∀b∈f,A b=Φ)->W i m RE A->
   codeAny (Μ X.prog X.w) X.A (.compLoop (.ListComp O [⟨tg,iter,N,0⟩] a pos) 0 (.ref it) (.ref D) (compEnvC a cl C X.env)) (λr j=>∀V:Env,V.locals=C->V.frame=X.env.frame->RR (.ref D) V r j) B:=by
  intro B RE A i m I5 VC Ze w5;refine codeAny_loop rfl (λn j=>∃i I H',Inv Y [] I H' j/\tn i j.heap/\(∀b∈f,H' b=Φ)/\W i n I H') ?_ m ⟨i,RE,A,I5,VC,Ze,w5⟩;rintro n s6 ⟨i,Th,H6,I6,st6,fr6,w6⟩;show Κ _ X.A ((compTurn (.ListComp O [⟨tg,iter,N,0⟩] a pos) 0 (.ref it) (.ref D) (compEnvC a cl C X.env)).onRaise (λx=>do noteFrame x (compEnvC a cl C X.env);theTreesLotGoes x)) _ _ s6;refine wpAny_noted ?_;rw[qi];refine b_ (wpAny_standAt (b_ ?_));let nx:∀ {α:Type}{t:Sem α}{Q:α->Α->Prop}{E':Ö}{s:Α},Κ (Μ X.prog X.w) X.A t Q (λ_ _=>False) s->Κ (Μ X.prog X.w) X.A t Q E' s:=λh=>wpAny_mono h (λ_ _ z=>z) λ_ _ z=>z.elim;rcases turn i n Th H6 w6 with⟨stop,qn⟩|⟨go,step⟩
  ·let h:=T.done Y yP yw yK yc i [] s6 Th H6 (λ_ _=>False) I6 (Pf fr6) st6 stop;rw[yA]at h;refine nx (L4 h λr s7 ⟨hr,I7⟩=>?_);subst hr;refine f_ ?_;let⟨b1,b2,b3⟩:=back s7 Th H6 I7;exact hR D C s7 H6 b1 b2 b3 qn
  ·let h:=T.item Y yP yw yK yc i [] s6 Th H6 (λ_ _=>False) I6 (Pf fr6) st6 go;rw[yA]at h;refine nx (L4 h λr s7 ⟨u,hr,h7⟩=>?_);subst hr;refine b_ (nx (L4 h7 λ_ s8 ⟨x,H8,I8,r8,y8,Zz,fr8⟩=>?_));let I8':=I8.pinned (Pf fr8) (T.obj _ _ Zz);let h9:=hg' _ s8 Th H8 x u _ I8' r8 (step x H8 y8);rw[yP,yw,yA,yx,ye]at h9;refine b_ (nz (L4 h9 λ_ s9 ⟨ZA,H9,I9,q9⟩=>?_));let Q6:=N3 _ s9 ZA H9 _ I9 q9;rw[yP,yw,yA,yx,ye]at Q6;refine b_ (nz (L4 Q6 λok PQ ⟨H10,I10,UX⟩=>?_));let again:∀ {I:St}{H':Hp}{j:Α},Inv Y ([]++mO f s8.heap) I H' j->(∃U,U < n/\W (i+1) U I H')->∃m,m < n/\∃i I H',Inv Y [] I H' j/\tn i j.heap/\(∀b∈f,H' b=Φ)/\W i m I H':=λ{I H' j} I' ⟨U,hm,w'⟩=>by refine⟨U,hm,i+1,I,H',I'.Nf,T.keep _ _ _ Zz λb k o e=>(I'.pin (b,o) (x_ _ (x_ _ (ku k e)))).1,λb k=>?_,w'⟩;let⟨o,e,d⟩:=T.obj _ _ Zz b k;exact(I'.pin (b,o) (x_ _ (x_ _ (ku k e)))).2.1
   cases ok using zB with
   |false=>rw[d_ p_]at UX;refine b_ (f_ (f_ ⟨rfl,again I10 UX⟩))
   |true=>rw[e_ rfl]at UX;let SE:=he' _ PQ ZA H10 _ I10 UX;rw[yP,yw,yA,yx,ye]at SE;refine b_ (b_ (nz (L4 SE λy UY ⟨v,H11,I11,r11,ys,ey,zy,q11⟩=>?_)));let Tz:=kP (X:=Y) ([]++mO f s8.heap) UY ZA H11 (.r D) [v] (.ref D) [y] (λv' H'=>v'=.L/\H'=upd H11 D (.l (ys++[v]))) I11 rfl (.cons r11 .nil) ⟨D,ys,v,rfl,rfl,ey,zy,rfl,rfl⟩;rw[yP,yw,yA,yx]at Tz;refine b_ (nz (L4 Tz λz RH ⟨v12,H12,I12,r12,e12,ZC⟩=>?_));subst ZC;exact f_ (f_ ⟨rfl,again I12 q11⟩)
 let start:=loop {w with heap:=h4,toks:=w.toks+([]:List (Str×Ψ)).length} (stC Fr Tg σ) (upd F D (.l [])) 0 m0 I4 st4 fr0 w0;let e5:∀(j:Α),j = {w with heap:=h4,toks:=w.toks+([]:List (Str×Ψ)).length}->codeAny (Μ X.prog X.w) X.A (.compLoop (.ListComp O [⟨tg,iter,N,0⟩] a pos) 0 (.ref it) (.ref D) (compEnvC a cl C X.env)) (λr j=>∀V:Env,V.locals=C->V.frame=X.env.frame->RR (.ref D) V r j) j:=by rintro _ rfl;exact start
 exact codeAny_compStart_list (e5 _ rfl) (T.self _ _ _ _ _ st4 (e5 _ rfl))
def qj {Fr:List (Str×Nat)}(G:X.calm=Θ)(S:Nr X a cl Fr Tg)(hi:PI X j iter w)
  (y:∀C s H f,PG (PN X a cl (Fr.map (·.1)++Tg) C s H f) j g) (v:∀C s H f,RC (PN X a cl (Fr.map (·.1)++Tg) C s H f) i k)
  (B:∀C s H f,PE (PN X a cl (Fr.map (·.1)++Tg) C s H f) E l) (hs:∀x,foldedSetIterable iter X.env x=pure x:=by intro _;rfl) :
  PE X (.ListComp E [⟨j,iter,i,0⟩] a pos) (yb w (stC Fr Tg) g k l):=by
 intro p s c H Q I h;rw[eval_ListComp];refine wpAny_comprehension_free (use:=Φ) rfl hs S.VM S.kind S.loc (L4 (hi p s c H _ I h) λxv s1 O=>L4 O λXA s2 N=>?_);let⟨it,f,tn,J,H2,rfl,I2,T,Q4,F,q⟩:=N;refine nW (XE:=λ_ _ _ _ _ _=>False) (RR:=λA V=>compPost (Μ X.prog X.w) X.A X.xe Φ (EP X p c Q) A V.locals) G S y v B I2 T Q4 F q ?_ λ_ _ _ _ _ _ _ z=>z.elim;intro D C n H' LX I' F' u V M _;let⟨m,hn⟩:=LX;subst M;let⟨Y,W,F,U,R,P⟩:=F';exact⟨m,hn,λh' sb=>⟨.r D,H',I'.turned (t':=n.toks) (λb o L e=>(sb.2 b L).trans e) Y W U R P,rfl,u⟩⟩
def B5 {Fr:List (Str×Nat)}(hc:X.calm=Θ)(hN:X.N.Nodup)(w:X.N[i]? = Δ y)(N:X.env.kindOf y=Δ .local)(S:Nr X c cl Fr Tg)(hi:PI X n iter W)
  (hg:∀C s H F,PG (PN X c cl (Fr.map (·.1)++Tg) C s H F) n g) (ht:∀C s H F,RC (PN X c cl (Fr.map (·.1)++Tg) C s H F) f Y)
  (he:∀C s H F,PE (PN X c cl (Fr.map (·.1)++Tg) C s H F) E te)
  (VS:swapsWith (.ListComp E [⟨n,iter,f,0⟩] c pos) (Δ (.Name y P)) k.line X.env=pure Θ) (hs:∀x,foldedSetIterable iter X.env x=pure x:=by intro _;rfl) :
  PS X (.Assign [.Name y P] (.ListComp E [⟨n,iter,f,0⟩] c pos) k) (λD j H=>yb W (stC Fr Tg) g Y te j H λv H'=>D.nx (j.set i (Δ v)) H'):=by
 intro p s j H D I h;rw[exec_Assign_Name_used _ _ _ _ VS];refine b_ (wpAny_standAt (b_ ?_));show Κ _ X.A (do let _ <- comprehension (.ListComp E [⟨n,iter,f,0⟩] c pos) c X.env _ (newList []) Ξ (eval iter X.env) (Δ (assign (.Name y P) X.env))) _ _ s
 refine b_ (L4 (wpAny_comprehension_free (use:=Δ (assign (.Name y P) X.env)) (Q:=λ_ l=>SP X p D .next l) rfl hs S.VM S.kind S.loc
  (L4 (hi p s j H _ I h) λxv s1 h1=>L4 h1 λXA s2 h2=>?_)) λ_ l hq=>f_ (f_ hq))
 let⟨it,F,tn,J,H2,rfl,I2,T,Q4,R,q⟩:=h2;refine nW (Q:=λv H'=>D.nx (j.set i (Δ v)) H') (XE:=λ_ _ _ _ _ _=>False) (RR:=λG V=>compPost (Μ X.prog X.w) X.A X.xe (Δ (assign (.Name y P) X.env)) (λ_ l=>SP X p D .next l) G V.locals) hc S hg ht he I2 T Q4 R q ?_ λ_ _ _ _ _ _ _ z=>z.elim;intro M C l H' LX I' F' q' V hV _;let⟨m,hn⟩:=LX;subst hV;let⟨f0,U,R,f3,O,f5⟩:=F';show Κ _ X.A (assign (.Name y P) X.env (.ref M)) _ _ _;refine wpAny_assign_Name (pE I' hN w (.inl N) (show RelV (.r M) (.ref M) from rfl) (λQF L ⟨a,sb,A⟩=>?_) (.inr N));let B:V.locals≠a:=by
  rcases A with rfl|A
  ·exact U
  ·exact λz=>O y a A z.symm
 refine⟨m,hn.sameBut sb B,λh' u=>⟨_,H',L.turned (t':=QF.toks) (λb o hb e=>(u.2 b hb).trans e) f0 U f3 O f5,q'⟩⟩
open PySem.SeqAt
def tM:typeLookup (.type "list_reverseiterator") "__len__" = pure Φ:=by rw[typeLookup_type,builtinLookup_eq_fast];kernel_rfl
def yd:typeLookup (.type "list_reverseiterator") "__length_hint__" = pure (Δ (.builtin "list_reverseiterator.__length_hint__")):=by rw[typeLookup_type,builtinLookup_eq_fast];kernel_rfl
def nX (hit:s.heap.IsRevIter I l i)(h:Q Ξ s):Κ (Μ prog w) A (Builtin.List.listLengthHint (.ref I)) Q E s:=by
 unfold Builtin.List.listLengthHint;refine b_ (wpAny_specialOf hit.typeIs tM ?_);show Κ _ A (specialOf (θ I) (Ρ "__length_hint__") >>= _) _ _ _;refine b_ (wpAny_specialOf hit.typeIs yd ?_);generalize Q7:("list_reverseiterator.__length_hint__" : String)=ZD
 wp_delta
 rw[show splitId ZD=Δ ("list_reverseiterator","__length_hint__") from by subst Q7;decide +kernel];subst Q7;refine b_ (wpAny_isInstance (T:="list_reverseiterator") (b:=Θ) hit.typeIs (by rw[isSubtype_type];kernel_rfl) ?_);refine wpAny_ite_split (λQb=>absurd Qb nofun) (λ_=>?_);refine wpAny_ite_split (λ_=>?_) (λQb=>absurd ∅ Qb);refine wpAny_ite_split (λQb=>absurd Qb ∅) (λ_=>?_);exact f_ h
def mQ {prog:Ε}{w:Β}{A:Ι}{s:Α}{R:Result->Α->Prop}(hh:A.handled=Φ)(I l S:Ω)(a:Array Ψ)(P:l≠I)(r:Ψ)(c:Nat)(h:s.heap.IsRevIter I l ((a.size:Int) - 1))(u:s.heap.IsList l a)(j:S≠I)(k:S≠l)
  (y:s.heap.get? S=Δ {cls:=.type "list",data:=.seq #[] c})
  (z:∀h' q M C,(∀b o,b≠S->b≠I->s.heap.get? b=Δ o->h'.get? b=Δ o)->h'.get? S=Δ {cls:=.type "list",dict:=Φ,data:=.seq M C,slots:=#[]}->
   ItemsOf (λi v=>a[a.size - 1 - i]? = Δ v) M a.size->R (.ok (.ret r)) {s with heap:=h',toks:=q}) (hn:a.size<=Ζ) :
  Κ (Μ prog w) A.in1 (Χ (.ref S) (.ref I) r)
   (λn g=>match n with|.done f=>R (.ok f) g|.again C=>C.quiet=Θ/\codeAny (Μ prog w) A C R g) (λe g=>R (.error e) g) s:=by
 let m:S∉[I,l]:=λH=>by
  rcases k_.mp H with e|H
  ·exact j e
  ·exact k (r_.mp H)
 unfold Χ;refine b_ (wpAny_typeOf h.typeIs ?_);let G:Builtin.List.listSameRef (.ref S) (.ref I)=Ξ:=by simp[Builtin.List.listSameRef,j]
 let E:(Value.type "list_reverseiterator" == Value.type "list")=Ξ:= nofun
 let B:(Value.type "list_reverseiterator" == Value.type "tuple")=Ξ:= nofun
 simp only[G,E,B,Bool.or_false,aaK,if_false];refine b_ (wpAny_pyIter_revIter h ?_);refine b_ (L_ (nX h ?_));refine wpAny_ite_split (λQ=>absurd Q nofun) (λ_=>?_);let W:=(Walks.listRev (prog:=prog) (w:=w) (A:=A.in1) hh I l P a).toS;refine f_ ⟨plainId_quiet F.plain_extend_loop _,codeAny_extend_loopS W hn S m r a.size 0 _ #[] c rfl (aaa _) ⟨aaa _,by simpa using h,u⟩ y (ItemsOf.nil _) λg M C H N L=>?_⟩;rw[Moved.eq_with H];refine z g.heap g.toks M C (λb o x O e=>H.heap b o (λp=>?_) e) N L;rcases k_.mp p with J|p
 ·exact x J
 ·exact O (r_.mp p)
def ph (hh:A.handled=Φ)(I l:Ω)(a:Array Ψ)(u:l≠I)(h:s.heap.IsRevIter I l ((a.size:Int) - 1))(g:s.heap.IsList l a)
  (m:∀h' c M C,(∀b o,b≠I->s.heap.get? b=Δ o->h'.get? b=Δ o)->
   h'.get? s.heap.objs.size=Δ {cls:=.type "list",dict:=Φ,data:=.seq M C,slots:=#[]}->ItemsOf (λi v=>a[a.size - 1 - i]? = Δ v) M a.size->Q (.ref s.heap.objs.size) {s with heap:=h',toks:=c}) (hn:a.size<=Ζ) :
  Κ (Μ prog w) A (call (.type "list") [.ref I]) Q E s:=by
 let L:I < s.heap.objs.size:=by let⟨o,e,_⟩:=h;exact j_ e
 let X:l < s.heap.objs.size:=by let⟨o,e,_⟩:=g;exact j_ e
 refine callType_codes (Q₁:=λobj j=>obj=.ref s.heap.objs.size/\j = {s with heap:=s.heap.push {cls:=.type "list",data:=.seq #[]}}) F.called_list (F.typeCall_list_1 _) F.entry_list_init
  (code_list_new _ ⟨rfl,rfl⟩) λobj j p=>?_
 let⟨rfl,rfl⟩:=p;let H:(s.heap.push {cls:=.type "list",data:=.seq #[]}).get? s.heap.objs.size=Δ {cls:=.type "list",data:=.seq #[]}:=A_ _ rfl;refine⟨⟨_,H,rfl⟩,F.args_list_init_2 _ _,?_⟩;show Κ _ _ (do let O <- Builtin.List.listItems (.ref s.heap.objs.size);Builtin.List.listUpdate (.ref s.heap.objs.size) (λ_=>#[]);letGo O.toList.reverse;Χ (.ref s.heap.objs.size) (.ref I) .none) _ _ _;refine b_ ?_;unfold Builtin.List.listItems;refine b_ (aad H rfl (f_ ?_));show Κ _ _ (updateSeq s.heap.objs.size (λ_=>#[]) >>= λ_=>letGo (#[]:Array Ψ).toList.reverse >>= λ_=>Χ (.ref s.heap.objs.size) (.ref I) .none) _ _ _;refine b_ (wpAny_updateSeq H rfl ?_);let n:=aaI (ι (λ_=>(#[]:Array Ψ))) H rfl;let N:∀b o,b≠s.heap.objs.size->s.heap.get? b=Δ o->((s.heap.push {cls:=.type "list",data:=.seq #[]}).update s.heap.objs.size (ι (λ_=>(#[]:Array Ψ)))).get? b=Δ o:=
  λb o f e=>(aat _ _ (Ne.symm f)).trans (m_ _ e)
 refine b_ (wpAny_letGo ?_);refine mQ (A:=A.in1) hh I l _ a u .none _ (h.at λo e=>N I o (n_ L) e) (g.at λo e=>N l o (n_ X) e) (U_ L) (U_ X) n (λh' c M C k q r=>?_) hn;exact⟨rfl,m h' c M C (λb o f e=>k b o (n_ (j_ e)) f (N b o (n_ (j_ e)) e)) q r⟩
theorem Vals.rev:∀ {X:Ï}{U:Í},Vals X U->Vals X.reverse U.reverse
 |[],[],_=>.nil
 |x::X,u::U,.cons r rs=>by rw[List.reverse_cons,List.reverse_cons];exact(Vals.rev rs).append (.cons r .nil)
def B6 (hc:X.calm=Θ)(g1:Gl X "list") (W:X.mg "list" = Φ) (g2:Gl X "reversed") (U:X.mg "reversed" = Φ) (he:PE X e t) (L:∀E,Ν (e::E) X.env=(Ξ,eval e X.env)::Ν E X.env) :
  PE X (.Call (.Name "list" p) [.Call (.Name "reversed" B) [e] [] P] [] pos) (λk H Q=>t k H λv c=>∃l ys,v=.r l/\MR X.K c l ys/\∀q,c q=Φ->Q (.r q) (upd c q (.l ys.reverse))):=by
 intro f s k H Q I h;refine aap (jP (u:=.type "list") I g1 W ∅ ?_ nofun nofun);refine aax ?_ rfl rfl;show Κ _ _ (spliced ((Ξ,eval (.Call (.Name "reversed" B) [e] [] P) X.env)::backTo pos (Ν [] X.env))) _ _ s;let w:Κ (Μ X.prog X.w) X.A (eval (.Call (.Name "reversed" B) [e] [] P) X.env) (λu m=>∃S l ys a c,Inv X f k c S/\Vals ys a/\S.heap.IsList l a.toArray/\ys.length<=Ζ/\u=.ref S.heap.objs.size/\m = {S with heap:=S.heap.push (revObj l ((a.toArray.size:Int) - 1))}/\∀q,c q=Φ->Q (.r q) (upd c q (.l ys.reverse))) X.xe s:=by refine aap (jP (u:=.type "reversed") I g2 U ∅ ?_ nofun nofun);refine aax ?_ (L []) rfl;rw[L []];show Κ _ _ (spliced ((Ξ,eval e X.env)::backTo P (Ν [] X.env))) _ _ s;refine Calls.spliced_cons (L4 (he f s k H _ I h) λu m ⟨x,c,j,N,l,ys,ex,Y,n⟩=>?_);subst ex;cases N;refine Calls.spliced_nil ?_;let⟨a,O,pl,y⟩:=j.list Y;exact call_reversed_list pl.isList ⟨m,l,ys,a,c,j,O,pl.isList,y,rfl,rfl,n⟩
 refine Calls.spliced_cons (L4 w λu m ⟨S,l,ys,a,c,j,R,F,y,eu,E,n⟩=>?_);subst eu E;refine Calls.spliced_nil ?_;let C:=R.length;let XM:l < S.heap.objs.size:=by let⟨o,e,_⟩:=F;exact j_ e
 let z:(S.heap.push (revObj l ((a.toArray.size:Int) - 1))).IsRevIter S.heap.objs.size l ((a.toArray.size:Int) - 1):=⟨_,A_ _ rfl,rfl,rfl⟩
 let VT:(S.heap.push (revObj l ((a.toArray.size:Int) - 1))).IsList l a.toArray:=F.at λo e=>m_ _ e;let g:(S.heap.push (revObj l ((a.toArray.size:Int) - 1))).objs.size=S.heap.objs.size+1:=W_ ..;refine ph (s:={S with heap:=S.heap.push (revObj l ((a.toArray.size:Int) - 1))}) (show X.A.handled=Φ from I.ok.hd hc) S.heap.objs.size l a.toArray (n_ XM) z VT (λh' J G c' kp e M=>?_) (by simp only[C_]<;>omega);let ha:G=(a.reverse).toArray:=by
  apply Array.ext
  ·rw[M.1];simp
  ·intro i A h2;have:=M.2 i G[i] (Array.getElem?_eq_getElem A);rw[M.1]at A;let h3:i < a.length:=by simpa using A
   simp only[C_,List.getElem?_toArray]at this;rw[y_ ⋯]at this;have:=H_ this;rw[<- this];simp[List.getElem_reverse]
 subst ha;exact⟨.r _,_,j.laid (t':=J) (λb o e=>kp b o (n_ (j_ e)) (m_ _ e)) (by show S.heap.objs.size<=(S.heap.push _).objs.size;rw[g];exact Nat.le_succ _) (show iR X.prog X.w _ h' _ (.l ys.reverse) from⟨by simpa using y,a.reverse,c',R.rev,e⟩),rfl,n _ (j.L1.fresh (by show S.heap.objs.size<=(S.heap.push _).objs.size;rw[g];exact Nat.le_succ _))⟩
def rq (a : -16000<=n)(H:n<=16000)(h:x.length<=1000):MulOk x n:=by
 refine⟨?_,λhn _=>?_,λhn _=>?_⟩
 ·rw[Bool.or_eq_false_iff];exact⟨N_ ⋯,N_ ⋯⟩
 ·have:(1000:Int)<=(2 ^ 63 - 1) / n:=Int.le_ediv_of_mul_le ⋯ ⋯;omega
 ·have:x.length*n.toNat<=1000*16000:=Nat.mul_le_mul h ⋯;unfold Builtin.Str.tooLong;exact N_ (by rw[sizeLine_eq];omega)
def tO:N1 X (binaryOp .Mult) (λx y H Q=>∃i j,x=.s i/\y=.i j/\-16000<=j/\j<=16000/\i.length<=1000/\Q (.s (Txt.mul i j)) H):=by intro p s f H x y v u Q I R r h;let⟨i,j,rfl,rfl,e,c,b,q⟩:=h;let⟨t,rfl⟩:=R;let⟨a,rfl⟩:=r;exact SB.mul (rq e c b) λa g=>⟨.s (Txt.mul i j),H,I.tok _,⟨_,rfl⟩,q⟩
open PySem.W
section
variable {a:Type} [DecidableEq a]
abbrev mR (kvs:List (a×V))(k:a):Option V:=(kvs.find? λb=>decide (b.1=k)).map (·.2)
abbrev putK (kvs:List (a×V))(k:a)(v:V):List (a×V):=
 if(kvs.any λb=>decide (b.1=k))=Θ then kvs.map (λb=>if b.1=k then(b.1,v) else b) else kvs++[(k,v)]
def nY {p:a×V}{r:List (a×V)}{k:a}(e:p.1=k):mR (p::r) k=Δ p.2:=by simp[mR,List.find?_cons,e]
def nZ {p:a×V}{r:List (a×V)}{k:a}(e:¬p.1=k):mR (p::r) k=mR r k:=by simp[mR,List.find?_cons,e]
theorem rz (k:a):∀kvs:List (a×V),(kvs.any λb=>decide (b.1=k))=(mR kvs k).isSome
 |[]=>rfl
 |p::r=>by
  rw[List.any_cons];by_cases e:p.1=k
  ·simp only[nY e,B_ e,Bool.true_or,Option.isSome_some]
  ·rw[nZ e,N_ e,Bool.false_or];exact rz k r
def nk (kvs:List (a×V))(k:a)(v:V):(putK kvs k v).length<=kvs.length+1:=by
 unfold putK;split
 ·rw[i_];omega
 ·rw[q_,List.length_cons,List.length_nil];omega
def o5.MG (r:o5 o u):o.isSome=u.isSome:=by
 cases o with
 |none=>cases u with
  |none=>rfl
  |some _=>exact(show False from r).elim
 |some _=>cases u with
  |none=>exact(show False from r).elim
  |some _=>rfl
def KV.val (r:KV kvs vs)(k:a):o5 (mR kvs k) (valueAt vs k):=by
 unfold KV at r
 induction r with
 |nil=>exact True.intro
 | @cons p q P Q h t i=>
  let⟨H,c⟩:=h;by_cases e:p.1=k
  ·let E:q.1=k:=H.symm.trans e;let b:valueAt (q::Q) k=Δ q.2:=by simp[valueAt,List.find?_cons,E]
   rw[nY e,b];exact c
  ·let E:¬q.1=k:=λz=>e (H.trans z);let b:valueAt (q::Q) k=valueAt Q k:=by simp[valueAt,List.find?_cons,E]
   rw[nZ e,b];exact i
theorem KV.any (r:KV kvs vs)(k:a):(kvs.any λb=>decide (b.1=k))=vs.any λb=>decide (b.1=k):=by
 unfold KV at r
 induction r with
 |nil=>rfl
 |cons h t i=>rw[List.any_cons,List.any_cons,i,h.1]
def KV.TC (r:KV kvs vs)(k:a)  (R:RelV y u) :
  KV (kvs.map λb=>if b.1=k then(b.1,y) else b) (vs.map λb=>if b.1=k then(b.1,u) else b):=by
 unfold KV at r ⊢
 induction r with
 |nil=>exact .nil
 | @cons p q P Q h t i=>
  rw[a_,a_];refine .cons ?_ i;let⟨H,c⟩:=h;by_cases e:p.1=k
  ·rw[e_ e,e_ (H.symm.trans e)];exact⟨H,R⟩
  ·rw[d_ e,d_ (λz=>e (H.trans z))];exact⟨H,c⟩
def KV.put (r:KV kvs vs)(k:a)  (R:RelV y u):KV (putK kvs k y) (stored vs k u):=by
 unfold putK stored;rw[r.any k];by_cases e:(vs.any λb=>decide (b.1=k))=Θ
 ·rw[e_ e,e_ e];exact r.TC k R
 ·rw[d_ e,d_ e];exact Paired.snoc r ⟨rfl,R⟩
theorem KV.length {kvs:List (a×V)}{vs:List (a×Ψ)}(r:KV kvs vs):kvs.length=vs.length:=Paired.length r
end
def rA (r:RelV (kV k) u):(i7 P w).is k u=Θ:=by
 cases k with
 |inl i=>let⟨t,e⟩:=(show ∃t,u=Value.int i t from r);subst e;exact qZ P w i t
 |inr x=>let⟨t,e⟩:=(show ∃t,u=Value.str x t from r);subst e;exact ra P w x t
theorem pM:∀ {ks:List Key}{u:Í},Vals (ks.map kV) u->ItemsAre (i7 P w) ks u
 |[],_,r=>by rw[List.map_nil]at r;cases r;exact .nil
 |k::ks,_,r=>by
  rw[a_]at r;cases r with
  |cons h t=>exact .cons (rA h) (pM t)
@[reducible]def KT (H:Hp):List (List Key×V)->List (List Key×Ω×Ψ)->Prop:=Paired λp q=>p.1=q.1/\H q.2.1=Δ (.t (p.1.map kV))/\RelV p.2 q.2.2
def KT.val (r:KT H kvs x)(k:List Key):o5 (mR kvs k) ((atKey x k).map (·.2)):=by
 induction r with
 |nil=>exact True.intro
 | @cons p q P Q h t i=>
  let⟨a,_,c⟩:=h;by_cases e:p.1=k
  ·let E:q.1=k:=a.symm.trans e;let b:atKey (q::Q) k=Δ q.2:=by simp[atKey,List.find?_cons,E]
   rw[nY e,b];exact c
  ·let E:¬q.1=k:=λz=>e (a.trans z);let b:atKey (q::Q) k=atKey Q k:=by simp[atKey,List.find?_cons,E]
   rw[nZ e,b];exact i
def KT.TC (r:KT H kvs x)(k:List Key)  (R:RelV y u) :
  KT H (kvs.map λb=>if b.1=k then(b.1,y) else b) (x.map (putAt k u)):=by
 induction r with
 |nil=>exact .nil
 | @cons p q P Q h t i=>
  rw[a_,a_];refine .cons ?_ i;let⟨a,c,f⟩:=h;unfold putAt;by_cases e:p.1=k
  ·rw[e_ e,e_ (a.symm.trans e)];exact⟨a,c,R⟩
  ·rw[d_ e,d_ (λz=>e (a.trans z))];exact⟨a,c,f⟩
def KT.put (r:KT H kvs x)(k:List Key)  (h:H b=Δ (.t (k.map kV)))(R:RelV y u) :
  KT H (putK kvs k y) (storedH x k b u):=by
 let e:(kvs.any λa=>decide (a.1=k))=(atKey x k).isSome:=by rw[rz,(r.val k).MG,Option.isSome_map]
 unfold putK storedH;rw[e];by_cases q:(atKey x k).isSome=Θ
 ·rw[e_ q,e_ q];exact r.TC k R
 ·rw[d_ q,d_ q];exact Paired.snoc r ⟨rfl,h,R⟩
def KT.keeps (r:KT H kvs x)(h:∀b ys,H b=Δ (.t ys)->H' b=Δ (.t ys)):KT H' kvs x:=
 Paired.Ta r λ_ _ z=>⟨z.1,h _ _ z.2.1,z.2.2⟩
def DN (ok:Mp P w H h)(e:Rd H a u):iR P w H h a u:=e.ok ok
def rB (ok:Mp P w H h)(e:Rd H a (.d kvs)):kvs.length<=Ζ/\(a == sysModules)=Ξ/\∃vs,KV kvs vs/\h.DictOf (i7 P w) a vs:=
 show iR P w H h a (.d kvs) from DN ok e
def HJ (ok:Mp P w H h)(e:H a=Δ (.d kvs)):kvs.length<=Ζ/\(a == sysModules)=Ξ/\∃vs,KV kvs vs/\h.DictOf (i7 P w) a vs:=rB ok (.inl e)
def n0 (ok:Mp P w H h)(e:H a=Δ (.t (ks.map kV))):(tupleKind (i7 P w)).is h ks a:=by
 let⟨_,i,r,o,f,c,n,b⟩:=(show iR P w H h a (.t (ks.map kV)) from ok a _ e)
 exact⟨o,i.toArray,n,f,c,b,by simpa using pM r⟩
def rC (ok:Mp P w H h)(e:Rd H a (.D kvs)):kvs.length<=Ζ/\(a == sysModules)=Ξ/\
  ∃X,KT H kvs X/\h.DictOfH (tupleKind (i7 P w)) a X:=by
 let⟨z,y,X,r,o,E,s,n,k,j,g,f⟩:=(show iR P w H h a (.D kvs) from DN ok e)
 refine⟨z,y,X,r,o,E,s,n,k,j,g,λx b=>?_,f⟩;let all:∀ {l:List (List Key×V)}{m:List (List Key×Ω×Ψ)},KT H l m->∀x∈m,(tupleKind (i7 P w)).is h x.1 x.2.1:=by
  intro l m q
  induction q with
  |nil=>intro x b;exact nomatch b
  | @cons p q u Q c t i=>
   intro x b;rcases k_.mp b with e|b
   ·subst e;exact n0 ok (by rw[<- c.1];exact c.2.1)
   ·exact i x b
 exact all r x b
def HK (ok:Mp P w H h)(e:H a=Δ (.D kvs)):kvs.length<=Ζ/\(a == sysModules)=Ξ/\
  ∃x,KT H kvs x/\h.DictOfH (tupleKind (i7 P w)) a x:=rC ok (.inl e)
def ql (H:Hp)(a:Ω)(y:V)(r:Option V):Prop:=
 (∃c k,Rd H a (.d c)/\y=kV k/\r=mR c k)∨∃c k b,Rd H a (.D c)/\y=.r b/\H b=Δ (.t (k.map kV))/\r=mR c k
def HL (H:Hp)(a:Ω)(y v:V)(H':Hp):Prop:=
 (∃c k,H a=Δ (.d c)/\y=kV k/\c.length < Ζ/\H'=upd H a (.d (putK c k v)))∨
 ∃c k b,H a=Δ (.D c)/\y=.r b/\H b=Δ (.t (k.map kV))/\c.length < Ζ/\H'=upd H a (.D (putK c k v))
def Inv.big (I:Inv X p a H s):sysModules < s.heap.objs.size:=by let h:Η < s.heap.objs.size:=(I.mod.glob.keeps I.bk).lt;exact Nat.lt_trans nofun h
def wR (m:A.units+1 < cLine)(I:Inv X P j H s)(g:ql H a y (Δ v))(R:RelV y u)(h:∀w S,Inv X P j H S->RelV v w->Q w S) :
  Κ (Μ X.prog X.w) A (getItem (.ref a) u) Q E s:=by
 rcases g with⟨c,k,e,i,l⟩|⟨c,k,b,e,i,B,l⟩
 ·subst i;let⟨z,hd,vs,r,dd⟩:=rB I.L1 e;let⟨w,f,q⟩:=o5.some_of (v:=v) (o:=valueAt vs k) (by rw[l];exact r.val k);exact wpAny_getItem_of (rA R) dd.mapOf f (h w _ (I.tok _) q)
 ·subst i;cases(show u=θ b from R);let⟨z,hd,x,r,dd⟩:=rC I.L1 e;let⟨w,f,q⟩:=o5.some_of (v:=v) (o:=(atKey x k).map (·.2)) (by rw[l];exact r.val k);let⟨p,n,C⟩:=aaO.mp f;refine wpAny_getItem_heap (tupleKind_room_in1 m) (n0 I.L1 B) dd n ?_;rw[C];exact h w _ (I.tok _) q
def Ka (j:A.units+1 < cLine)(I:Inv X p i H s)(g:ql H a y o)(R:RelV y u)(h:∀S,Inv X p i H S->Q (.bool o.isSome) S) :
  Κ (Μ X.prog X.w) A (compareOp .In u (.ref a)) Q E s:=by
 rcases g with⟨c,k,e,f,l⟩|⟨c,k,b,e,f,m,l⟩
 ·subst f;let⟨z,hd,vs,r,dd⟩:=rB I.L1 e;refine wpAny_in_of (rA R) hd dd.mapOf ?_;rw[<- (r.val k).MG,<- l];exact h _ (I.tok _)
 ·subst f;cases(show u=θ b from R);let⟨z,hd,x,r,dd⟩:=rC I.L1 e;refine wpAny_in_heap (tupleKind_room_in1 j) (n0 I.L1 m) hd dd ?_;let q:=(r.val k).MG;rw[Option.isSome_map]at q;rw[<- q,<- l];exact h _ (I.tok _)
def B7 (j:A.units+1 < cLine)(I:Inv X p i H s)(g:ql H a y o)(R:RelV y u)(h:∀S,Inv X p i H S->Q (.bool (!o.isSome)) S) :
  Κ (Μ X.prog X.w) A (compareOp .NotIn u (.ref a)) Q E s:=by
 rcases g with⟨c,k,e,f,l⟩|⟨c,k,b,e,f,m,l⟩
 ·subst f;let⟨z,hd,vs,r,dd⟩:=rB I.L1 e;refine wpAny_notIn_of (rA R) hd dd.mapOf ?_;rw[<- (r.val k).MG,<- l];exact h _ (I.tok _)
 ·subst f;cases(show u=θ b from R);let⟨z,hd,x,r,dd⟩:=rC I.L1 e;refine wpAny_notIn_heap (tupleKind_room_in1 j) (n0 I.L1 m) hd dd ?_;let q:=(r.val k).MG;rw[Option.isSome_map]at q;rw[<- q,<- l];exact h _ (I.tok _)
def uT (I:Inv X p c H s)(m:Vs (H a))(hs:Heap.SameBut a s.heap h')(h:∃q,h'.get? a=Δ q)(new:iR X.prog X.w (upd H a O) h' a O) :
  Inv X p c (upd H a O) {s with heap:=h',toks:=t'}:=
 I.write (x:=a) (e:=a) m (.inl rfl) (λb q f z=>(hs.2 b f).trans z) h new
def E6 (z:kvs.length<=Ζ)(hd:(a == sysModules)=Ξ)(r:KV kvs vs)(dd:h'.DictOf (i7 P w) a vs) :
  iR P w H' h' a (.d kvs):=⟨z,hd,vs,r,dd⟩
def wU (O:A.units+1 < cLine)(I:Inv X p M H s)(g:HL H a y v H')(C:RelV y u)(F:RelV v r)(h:∀S,Inv X p M H' S->Q () S) :
  Κ (Μ X.prog X.w) A (setItem (.ref a) u r) Q E s:=by
 rcases g with⟨f,k,e,w,l,B⟩|⟨f,k,b,e,w,L,l,B⟩
 ·subst w B;let⟨z,hd,vs,R,dd⟩:=HJ I.L1 e;let j:vs.length<=Ζ:=by rw[<- R.length];exact z
  let n:(putK f k v).length<=Ζ:=by have:=nk f k v;omega
  refine wpAny_setItem_pairs (hsz:=j) (rA C) dd λG x m=>h _ ?_;let P:∃q,G.get? a=Δ q:=let ⟨q,_,_,i,_⟩:=x;⟨q,i⟩;exact uT I (by rw[e];exact True.intro) m P (E6 n hd (R.put k F) x)
 ·subst w B;cases(show u=θ b from C);let⟨z,hd,N,R,dd⟩:=HK I.L1 e;let j:N.length<=Ζ:=by rw[<- Paired.length R];exact z
  let n:(putK f k v).length<=Ζ:=by have:=nk f k v;omega
  refine wpAny_setItem_heap (hsz:=j) (tupleKind_room_in1 O) (n0 I.L1 L) dd λG x m=>h _ ?_;let⟨q,es,ep,i,h2,Y,W,_,U⟩:=x;refine uT I (by rw[e];exact True.intro) m ⟨q,i⟩ ⟨n,hd,_,(R.put k L F).keeps λc ys J=>?_,q,es,ep,i,h2,Y,W,U⟩;rw[ik (Hm J e (λz=>nomatch z))];exact J
def HM (i:Expr):Prop:=∀O I,subscripted i Ξ O I=operate [O,I] (getItem O I)
def B8 {id:String}
  (a:typeLookup (.type T) "__getitem__" = pure (Δ (.builtin id))) (hs:HM S)
  (h:Κ (Μ prog w) A (eval v env) (λo L=>Κ (Μ prog w) A (eval S env) (λi O=>O.TypeIs o T/\Κ (Μ prog w) A (getItem o i) Q E O) E L) E s) :
  Κ (Μ prog w) A (eval (.Subscript v S pos) env) Q E s:=by
 refine Subscript_ (wpAny_mono h (λo L c=>wpAny_mono c (λi O P=>?_) λ_ _ x=>x) λ_ _ x=>x);let⟨H,P⟩:=P;unfold subscriptTail;refine b_ ?_;rw[getitemInPython_of_ne H.not_modules];refine b_ (wpAny_specialOf H a ?_);let f:Κ (Μ prog w) A (subscripted S Ξ o i) (λr R=>Κ (Μ prog w) A (letTemporaryGo v o r >>= λ_=>pure r) Q E R) E O:=by rw[hs o i];exact wpAny_operating (wpAny_mono P (λr R b=>b_ (wpAny_letTemporaryGo (f_ b))) λ_ _ x=>x)
 first
  | exact f_ (b_ f)
  | exact b_ (f_ (b_ f))
  | exact b_ f
def rD (I:Inv X p f H s)(g:ql H a y o):s.TypeIs (.ref a) "dict":=by
 rcases g with⟨c,k,e,_,_⟩|⟨c,k,b,e,_,_,_⟩
 ·let⟨_,_,vs,_,dd⟩:=rB I.L1 e;exact dd.typeIs
 ·let⟨_,_,x,_,dd⟩:=rC I.L1 e;exact dd.typeIs
def HN (e c:TE):TE:=λb H Q=>e b H λx f=>c b f λy h=>∃a v,x=.r a/\ql h a y (Δ v)/\Q v h
def Kb (e f:TE):TE:=λc H Q=>e c H λy g=>f c g λx h=>∃a o,x=.r a/\ql h a y o/\Q (.b o.isSome) h
def B9 (e f:TE):TE:=λc H Q=>e c H λy g=>f c g λx h=>∃a o,x=.r a/\ql h a y o/\Q (.b (!o.isSome)) h
def HP (f c e:TE):TS:=λD b H=>e b H λv j=>f b j λx i=>c b i λy g=>∃a h,x=.r a/\HL g a y v h/\D.nx b h
def Ca (k:X.A.units+1 < cLine)(l:PE X o f)(hi:PE X i e)(hs:HM i):PE X (.Subscript o i pos) (HN f e):=by intro p s b H Q I h;refine B8 PySem.F.slot_dict_getitem.lookup hs (L4 (l p s b H _ I h) λu S ⟨x,A,w,R,j⟩=>L4 (hi p S b A _ w j) λE C ⟨y,z,c,r,a,v,ex,g,q⟩=>?_);subst ex;obtain rfl:u=θ a:=R;exact⟨rD c g,wR k c g r λW B n m=>⟨v,z,n,m,q⟩⟩
def yf (k:X.A.units+1 < cLine)(hi:PE X i e)(l:PE X o f):PC X .In i o (Kb e f):=by intro p s c H Q I h;refine L4 (hi p s c H _ I h) λC S ⟨y,z,v,r,j⟩=>L4 (l p S c z _ v j) λu B L=>?_;let⟨x,w,n,R,a,O,ex,g,q⟩:=L;subst ex;obtain rfl:u=θ a:=R;exact Ka k n g r λA m=>⟨.b O.isSome,w,m,rfl,q⟩
def pN (k:X.A.units+1 < cLine)(hi:PE X i e)(l:PE X o f):PC X .NotIn i o (B9 e f):=by intro p s c H Q I h;refine L4 (hi p s c H _ I h) λC S ⟨y,z,v,r,j⟩=>L4 (l p S c z _ v j) λu B L=>?_;let⟨x,w,n,R,a,O,ex,g,q⟩:=L;subst ex;obtain rfl:u=θ a:=R;exact B7 k n g r λA m=>⟨.b (!O.isSome),w,m,rfl,q⟩
def Cb (z:X.A.units+1 < cLine)(A:PE X o j)(hi:PE X i e)(w:PE X b f)(hs:swapsWith b (Δ (.Subscript o i P)) pos.line X.env=pure Ξ) :
  PS X (.Assign [.Subscript o i P] b pos) (HP j e f):=by
 intro p s c H D I h;refine wpAny_Assign_Subscript (L4 (w p s c H _ I h) λr k ⟨v,L,F,m,n⟩=>L4 (A p k c L _ F n) λu S ⟨x,J,E,l,Q⟩=>L4 (hi p S c J _ E Q) λO N ⟨y,U,C,R,a,G,ex,g,q⟩=>?_) hs;subst ex;obtain rfl:u=θ a:=l;exact wU z C g R m λM B=>⟨c,G,B,q⟩
def yg (h:Heap)(a:sysModules < h.objs.size):iR P w H (h.push {cls:=.type "dict",data:=.dict #[]}) h.objs.size (.d []):=
 ⟨aaa _,beq_eq_false_iff_ne.mpr (Ne.symm (n_ a)),[],.nil,Heap.DictOf.new h⟩
def E7:TE:=λ_ H Q=>∀p,H p=Φ->Q (.r p) (upd H p (.d []))
def n6:PE X (.Dict [] [] pos) E7:=λp s b H Q I h=>
 wpAny_Dict_empty ⟨.r s.heap.objs.size,_,I.laid (a:=s.heap.objs.size) (o:=.d []) (t':=s.toks) (λ_ _ q=>m_ _ q) (o_ _) (yg s.heap I.big),rfl,h _ (I.L1.fresh (o_ _))⟩
open PySem.Builtin PySem.Builtin.Str
end L2
namespace L2.Zp
open PySem
inductive Kq where
 | l|t
def Sq (k:Kq)(h:Heap)(a:Ω)(x:Array Ψ):Prop:=match k with
 |.l=>h.IsList a x
 |.t=>h.IsTuple a x
def It (k:Kq)(h:Heap)(i a:Ω)(n:Nat):Prop:=match k with
 |.l=>h.IsListIter i a n
 |.t=>h.IsTupleIter i a n
def Sq.to (q:Sq k h a x)(e:∀o,h.get? a=Δ o->h'.get? a=Δ o):Sq k h' a x:=by
 cases k with
 |l=>let⟨o,H,r⟩:=q;exact⟨o,e o H,r⟩
 |t=>let⟨o,H,r⟩:=q;exact⟨o,e o H,r⟩
def It.to (q:It k h i a n)(e:∀o,h.get? i=Δ o->h'.get? i=Δ o):It k h' i a n:=by
 cases k with
 |l=>let⟨o,H,r⟩:=q;exact⟨o,e o H,r⟩
 |t=>let⟨o,H,r⟩:=q;exact⟨o,e o H,r⟩
def It.lt (q:It k h i a n):i < h.objs.size:=by
 cases k with
 |l=>let⟨o,H,_⟩:=q;exact j_ H
 |t=>let⟨o,H,_⟩:=q;exact j_ H
def yh (c:s.heap.IsTupleIter i a n)(q:s.heap.IsTuple a X)(h:X[n]? = Δ x)
  (k:∀h',h'.IsTupleIter i a (n+1)->Heap.SameBut i s.heap h'->Q x {s with heap:=h'}):Κ (Μ prog w) A (ζ (.ref i)) Q E s:=by
 let e:=c.typeIs;let⟨O,g,ci,b⟩:=c;let⟨f,G,_,N,da⟩:=q;unfold ζ;refine b_ (wpAny_callSpecial?_slot (name:=Ρ "__next__") e F.slot_tuple_iterator_next (aak F.slot_tuple_iterator_next e F.entry_tuple_iterator_next ?_ (F.args_tuple_iterator_next_1 _)));show Κ _ _ (field (.ref i) 0 >>= _) _ _ s;refine b_ (O_ g b (x:=.ref a) rfl ?_);show Κ _ _ (if(θ a == Value.none)=Θ then _ else _) _ _ s;rw[d_ (by intro z;cases z)];show Κ _ _ (field (.ref i) 1 >>= _) _ _ s;refine b_ (O_ g b (x:=.int n 0) rfl ?_);show Κ _ _ (seqItems? (.ref a) >>= _) _ _ s;refine b_ (aad G da ?_);simp only[aae,h];refine b_ (wpAny_setField g b (by simp) (f_ ⟨x,rfl,f_ (k _ ⟨_,aaI _ g (Obj.isFreed_of_fields (Obj.data_mapFields b _)),(Obj.cls_mapFields ..).trans ci,?_⟩ (aaP ..))⟩));rw[Obj.data_mapFields b];simp[rawInt]
def Cc (hh:A.handled=Φ)(c:s.heap.IsTupleIter i a n)(q:s.heap.IsTuple a xs)(hx:xs[n]? = Φ)
  (k:∀h' e,Heap.ExtBut i s.heap h'->(∃o,h'.get? e=Δ o/\o.cls=.type "StopIteration")->E (.ref e) {s with heap:=h'}):Κ (Μ prog w) A (ζ (.ref i)) Q E s:=by
 let ty:=c.typeIs;let⟨oi,gi,ci,di⟩:=c;let⟨oa,ga,_,na,da⟩:=q;unfold ζ;refine b_ (wpAny_callSpecial?_slot (name:=Ρ "__next__") ty F.slot_tuple_iterator_next (aak F.slot_tuple_iterator_next ty F.entry_tuple_iterator_next ?_ (F.args_tuple_iterator_next_1 _)));show Κ _ _ (field (.ref i) 0 >>= _) _ _ s;refine b_ (O_ gi di (x:=.ref a) rfl ?_);show Κ _ _ (if(θ a == Value.none)=Θ then _ else _) _ _ s;rw[d_ (by intro z;cases z)];show Κ _ _ (field (.ref i) 1 >>= _) _ _ s;refine b_ (O_ gi di (x:=.int n 0) rfl ?_);show Κ _ _ (seqItems? (.ref a) >>= _) _ _ s;refine b_ (aad ga da ?_);simp only[aae,hx];refine b_ (wpAny_rule (b_ (wpAny_setField gi di (by simp) (b_ ?_))));simp only[newExc,newTuple];refine b_ (aaJ (b_ (m:=firstArgMember _ _) (wpAny_of_eq (a:=Value.none) (by first|rfl|(simp only[firstArgMember];rfl)) (aaJ ?_ (by size_fits)))) (by size_fits));simp only[raiseNew];refine b_ (wpAny_handled ?_)
 first|rw[show A.in1.handled=Φ from hh]|rw[hh]
 exact b_ (f_ (wpAny_throw (k _ _ (((aaP ..).extBut.push _).push _) ⟨_,A_ _ rfl,rfl⟩)))
def kQ (c:It k s.heap i a n)(q:Sq k s.heap a X)(h:X[n]? = Δ x)
  (f:∀h',It k h' i a (n+1)->Heap.SameBut i s.heap h'->Q x {s with heap:=h'}):Κ (Μ prog w) A (ζ (.ref i)) Q E s:=by
 cases k with
 |l=>exact wpAny_nextOf_list_item c q h f
 |t=>exact yh c q h f
def qm (hh:A.handled=Φ)(c:It k s.heap i a n)(q:Sq k s.heap a x)(h:x[n]? = Φ)
  (f:∀h' e,Heap.ExtBut i s.heap h'->(∃o,h'.get? e=Δ o/\o.cls=.type "StopIteration")->E (.ref e) {s with heap:=h'}):Κ (Μ prog w) A (ζ (.ref i)) Q E s:=by
 cases k with
 |l=>exact wpAny_nextOf_list_end hh c q h f
 |t=>exact Cc hh c q h f
def Kept (z TO i j:Ω)(h h':Heap):Prop:=∀c o,c≠z->c≠TO->c≠i->c≠j->h.get? c=Δ o->h'.get? c=Δ o
def wV {TI TO:Ω}{Q:Ö}(D:ZipApart z TI TO i j l m)(hz:IsZip s.heap z TI TO .none)(hI:IsPair s.heap TI (.ref i) (.ref j))(hO:IsPair s.heap TO a b)
  (ci:It p s.heap i l n) (cj:It q s.heap j m N) (sl:Sq p s.heap l xs) (sm:Sq q s.heap m ys) (hx:xs[n]? = Δ x) (hy:ys[N]? = Δ y)
  (k:∀h',IsZip h' z TI TO (rawInt s.heap.objs.size)->IsPair h' TO x y->It p h' i l (n+1)->It q h' j m (N + 1)->IsPair h' s.heap.objs.size x y->h'.objs.size=s.heap.objs.size+1->Kept z TO i j s.heap h'->Q (.ref s.heap.objs.size) {s with heap:=h'}) :
  Κ (Μ prog w) A (Builtin.«zip.__next__» ⟨[.ref z],[]⟩) (λI s'=>∃v,I=.done (.ret v)/\Q v s') E s:=by
 show Κ _ _ (field (.ref z) 2 >>= _) _ _ _;refine b_ (O_ hz rfl (x:=.bool Ξ) rfl ?_);show Κ _ _ (field (.ref z) 3 >>= _) _ _ _;refine b_ (O_ hz rfl (x:=.ref TI) rfl (b_ (aad hI rfl ?_)));show Κ _ _ (η (.ref z) >>= _) _ _ _;refine b_ ?_;unfold η;refine b_ (O_ hz rfl (x:=.none) rfl (f_ ?_));simp only[if_true];refine b_ (wpAny_rule (b_ (O_ hz rfl (x:=.ref TO) rfl (b_ (aal hz (by simp) λh1 z1 f=>?_)))));let XO:IsZip h1 z TI TO .ellipsis:=z1;refine b_ ?_;simp only[List.zipIdx_cons,List.zipIdx_nil,List.forIn_cons,List.forIn_nil];refine b_ (b_ (wpAny_onRaise ?_));show Κ _ _ (ζ (.ref i) >>= _) _ _ _;refine b_ (kQ (ci.to λo e=>f.extBut _ _ D.i1z e) (sl.to λo e=>f.extBut _ _ D.l1z e) hx λh2 VU r=>f_ ?_);let O2:IsPair h2 TO a b:=r.extBut _ _ D.TOi1 (f.extBut _ _ D.TOz hO);refine b_ (aad O2 rfl (b_ (wpAny_updateSeq_pair O2 λh3 O3 g=>?_)));let W:IsPair h3 TO x b:=O3;refine b_ (wpAny_letGo (f_ (b_ (b_ (wpAny_onRaise ?_)))));show Κ _ _ (ζ (.ref j) >>= _) _ _ _;refine b_ (kQ (cj.to λo e=>g.extBut _ _ D.TOi2.symm (r.extBut _ _ D.i12.symm (f.extBut _ _ D.i2z e))) (sm.to λo e=>g.extBut _ _ D.l2TO (r.extBut _ _ D.l2i1 (f.extBut _ _ D.l2z e))) hy λh4 P F=>f_ ?_);let O4:IsPair h4 TO x b:=F.extBut _ _ D.TOi2 W;refine b_ (aad O4 rfl (b_ (wpAny_updateSeq_pair O4 λh O5 B=>?_)));let O:IsPair h TO x y:=O5;refine b_ (wpAny_letGo (f_ (f_ (b_ (aad O rfl (b_ (wpAny_newTuple ?_)))))));let sz:h.objs.size=s.heap.objs.size:=by rw[B.1,F.1,g.1,r.1,f.1]
 let X:IsZip h z TI TO .ellipsis:=B.extBut _ _ D.TOz.symm (F.extBut _ _ D.i2z.symm (g.extBut _ _ D.TOz.symm (r.extBut _ _ D.i1z.symm XO)));let k5:Kept z TO i j s.heap h:=λc o C G U S e=>B.extBut _ _ G (F.extBut _ _ S (g.extBut _ _ G (r.extBut _ _ U (f.extBut _ _ C e))));let R:It p h i l (n+1):=VU.to λo e=>B.extBut _ _ D.TOi1.symm (F.extBut _ _ D.i12 (g.extBut _ _ D.TOi1.symm e));let M:It q h j m (N + 1):=P.to λo e=>B.extBut _ _ D.TOi2.symm e;let lz:z < h.objs.size:=j_ X;show Κ _ _ (Builtin.SmallTypes.ownedTupleHandOut (.ref z) (.ref h.objs.size) >>= _) _ _ _;refine b_ ?_;unfold Builtin.SmallTypes.ownedTupleHandOut;let z6:IsZip (h.push {cls:=.type "tuple",data:=.seq #[x,y]}) z TI TO .ellipsis:=m_ _ X;refine b_ (aal z6 (by simp) λh7 z7 L=>aal (show IsZip h7 z TI TO (rawInt h.objs.size) from z7) (by simp) λH z8 J=>?_);let u:IsZip H z TI TO (rawInt h.objs.size):=z8;let up:∀c o,c≠z->h.get? c=Δ o->H.get? c=Δ o:=λc o C e=>J.extBut _ _ C (L.extBut _ _ C (m_ _ e));let Y:IsPair H h.objs.size x y:=J.extBut _ _ (U_ lz) (L.extBut _ _ (U_ lz) (A_ _ rfl));let s8:H.objs.size=h.objs.size+1:=by rw[J.1,L.1,W_]
 rw[sz]at u Y s8;refine f_ ⟨_,rfl,?_⟩;show Q (.ref h.objs.size) _;rw[sz];exact k H u (up _ _ D.TOz O) (R.to λo e=>up _ o D.i1z e) (M.to λo e=>up _ o D.i2z e) Y s8 λc o C G U S e=>up c o C (k5 c o C G U S e)
def wW {TI TO:Ω}(hh:A.handled=Φ)(D:ZipApart z TI TO i j l m)(hz:IsZip s.heap z TI TO .none)(W:IsPair s.heap TI (.ref i) (.ref j))(U:IsPair s.heap TO a b)
  (ci:It p s.heap i l n) (cj:It q s.heap j m N) (sl:Sq p s.heap l X) (sm:Sq q s.heap m ys) (Pk:X[n]? = Φ∨ys[N]? = Φ)
  (k:∀h' e,Kept z TO i j s.heap h'->(∃o,h'.get? e=Δ o/\o.cls=.type "StopIteration")->E (.ref e) {s with heap:=h'}) :
  Κ (Μ prog w) A (Builtin.«zip.__next__» ⟨[.ref z],[]⟩) Q E s:=by
 show Κ _ _ (field (.ref z) 2 >>= _) _ _ _;refine b_ (O_ hz rfl (x:=.bool Ξ) rfl ?_);show Κ _ _ (field (.ref z) 3 >>= _) _ _ _;refine b_ (O_ hz rfl (x:=.ref TI) rfl (b_ (aad W rfl ?_)));show Κ _ _ (η (.ref z) >>= _) _ _ _;refine b_ ?_;unfold η;refine b_ (O_ hz rfl (x:=.none) rfl (f_ ?_));simp only[if_true];refine b_ (wpAny_rule (b_ (O_ hz rfl (x:=.ref TO) rfl (b_ (aal hz (by simp) λh1 R f=>?_)))));let M:IsZip h1 z TI TO .ellipsis:=R;refine b_ ?_;simp only[List.zipIdx_cons,List.zipIdx_nil,List.forIn_cons,List.forIn_nil];refine b_ (b_ (wpAny_onRaise ?_));show Κ _ _ (ζ (.ref i) >>= _) _ _ _;cases H:X[n]? with
 |none=>
  refine b_ (qm hh (ci.to λo e=>f.extBut _ _ D.i1z e) (sl.to λo e=>f.extBut _ _ D.l1z e) H λy e h u=>?_);let⟨O,g,c⟩:=u;let G:IsZip y z TI TO .ellipsis:=h _ _ D.i1z.symm M;let ne:e≠z:=λv=>by rw[v,G]at g;cases g;simp at c
  exact aal G (by simp) λI _ r=>k I e (λd o C _ B _ v=>r.extBut _ _ C (h _ _ B (f.extBut _ _ C v))) ⟨O,r.extBut _ _ ne g,c⟩
 |some x=>
  let S:ys[N]? = Φ:=by
   rcases Pk with v|v
   ·rw[H]at v;cases v
   ·exact v
  refine b_ (kQ (ci.to λo e=>f.extBut _ _ D.i1z e) (sl.to λo e=>f.extBut _ _ D.l1z e) H λy VU h=>f_ ?_);let P:IsPair y TO a b:=h.extBut _ _ D.TOi1 (f.extBut _ _ D.TOz U);refine b_ (aad P rfl (b_ (wpAny_updateSeq_pair P λI O3 r=>b_ (wpAny_letGo (f_ (b_ (b_ (wpAny_onRaise ?_))))))));show Κ _ _ (ζ (.ref j) >>= _) _ _ _;refine b_ (qm hh (cj.to λo e=>r.extBut _ _ D.TOi2.symm (h.extBut _ _ D.i12.symm (f.extBut _ _ D.i2z e))) (sm.to λo e=>r.extBut _ _ D.l2TO (h.extBut _ _ D.l2i1 (f.extBut _ _ D.l2z e))) S λh4 e L u=>?_);let⟨O,g,c⟩:=u;let F:IsZip h4 z TI TO .ellipsis:=L _ _ D.i2z.symm (r.extBut _ _ D.TOz.symm (h.extBut _ _ D.i1z.symm M));let ne:e≠z:=λv=>by rw[v,F]at g;cases g;simp at c
  exact aal F (by simp) λY _ J=>k Y e (λd o C c2 B c4 v=>J.extBut _ _ C (L _ _ c4 (r.extBut _ _ c2 (h.extBut _ _ B (f.extBut _ _ C v))))) ⟨O,J.extBut _ _ ne g,c⟩
abbrev UZ:Kq->Ω->Obj
 |.l,a=>{cls:=.type "list_iterator",data:=.fields #[.ref a,.int 0 0]}
 |.t,a=>{cls:=.type "tuple_iterator",data:=.fields #[.ref a,.int 0 0]}
abbrev Hi (p:Kq)(h:Heap)(l:Ω):Heap:=h.push (UZ p l)
abbrev Hj (p q:Kq)(h:Heap)(l m:Ω):Heap:=(Hi p h l).push (UZ q m)
abbrev HI (p q:Kq)(h:Heap)(l m:Ω):Heap:=(Hj p q h l m).push {cls:=.type "tuple",data:=.seq #[.ref h.objs.size,.ref (Hi p h l).objs.size]}
abbrev HO (p q:Kq)(h:Heap)(l m:Ω):Heap:=(HI p q h l m).push {cls:=.type "tuple",data:=.seq #[.none,.none]}
abbrev HZ (p q:Kq)(h:Heap)(l m:Ω):Heap:=(HO p q h l m).push {cls:=.type "zip",data:=.fields #[.none,.bool Ξ,.bool Ξ,.ref (Hj p q h l m).objs.size,.ref (HI p q h l m).objs.size]}
def E8 (l m:Ω)(xs ys:Array Ψ):Meets (Builtin.«zip.__new__» ⟨[.type "zip",.ref l,.ref m],[]⟩) (λ_ R s=>Sq .l s.heap l xs/\Sq .l s.heap m ys/\R (.ok (.ret (.ref (HO .l .l s.heap l m).objs.size))) {s with heap:=HZ .l .l s.heap l m}):=
 .of_wp λprog w A R s h=>by
  let⟨hp,g,d,tk,os⟩:=s;let⟨q1,q2,h⟩:=h;let sub:=sub_zip;let a1:Heap.IsList (Shared.heap ⟨hp,g,d,tk,os⟩) l xs:=q1;let a2:Heap.IsList (Shared.heap ⟨hp.push {cls:=.type "list_iterator",data:=.fields #[.ref l,.int 0 0]},g,d,tk,os⟩) m ys:=Heap.IsList.push (show hp.IsList m ys from q2) _
  wp_walk using aaL a1,aaL a2
  exact⟨_,rfl,h⟩
def E9 (l m:Ω)(xs ys:Array Ψ):Meets (Builtin.«zip.__new__» ⟨[.type "zip",.ref l,.ref m],[]⟩) (λ_ R s=>Sq .l s.heap l xs/\Sq .t s.heap m ys/\R (.ok (.ret (.ref (HO .l .t s.heap l m).objs.size))) {s with heap:=HZ .l .t s.heap l m}):=
 .of_wp λprog w A R s h=>by
  let⟨hp,g,d,tk,os⟩:=s;let⟨q1,q2,h⟩:=h;let sub:=sub_zip;let a1:Heap.IsList (Shared.heap ⟨hp,g,d,tk,os⟩) l xs:=q1;let a2:Heap.IsTuple (Shared.heap ⟨hp.push {cls:=.type "list_iterator",data:=.fields #[.ref l,.int 0 0]},g,d,tk,os⟩) m ys:=Heap.IsTuple.push (show hp.IsTuple m ys from q2) _
  wp_walk using aaL a1,wpAny_pyIter_tuple a2
  exact⟨_,rfl,h⟩
def Fb (l m:Ω)(xs ys:Array Ψ):Meets (Builtin.«zip.__new__» ⟨[.type "zip",.ref l,.ref m],[]⟩) (λ_ R s=>Sq .t s.heap l xs/\Sq .l s.heap m ys/\R (.ok (.ret (.ref (HO .t .l s.heap l m).objs.size))) {s with heap:=HZ .t .l s.heap l m}):=
 .of_wp λprog w A R s h=>by
  let⟨hp,g,d,tk,os⟩:=s;let⟨q1,q2,h⟩:=h;let sub:=sub_zip;let a1:Heap.IsTuple (Shared.heap ⟨hp,g,d,tk,os⟩) l xs:=q1;let a2:Heap.IsList (Shared.heap ⟨hp.push {cls:=.type "tuple_iterator",data:=.fields #[.ref l,.int 0 0]},g,d,tk,os⟩) m ys:=Heap.IsList.push (show hp.IsList m ys from q2) _
  wp_walk using wpAny_pyIter_tuple a1,aaL a2
  exact⟨_,rfl,h⟩
def Fd (l m:Ω)(xs ys:Array Ψ):Meets (Builtin.«zip.__new__» ⟨[.type "zip",.ref l,.ref m],[]⟩) (λ_ R s=>Sq .t s.heap l xs/\Sq .t s.heap m ys/\R (.ok (.ret (.ref (HO .t .t s.heap l m).objs.size))) {s with heap:=HZ .t .t s.heap l m}):=
 .of_wp λprog w A R s h=>by
  let⟨hp,g,d,tk,os⟩:=s;let⟨q1,q2,h⟩:=h;let sub:=sub_zip;let a1:Heap.IsTuple (Shared.heap ⟨hp,g,d,tk,os⟩) l xs:=q1;let a2:Heap.IsTuple (Shared.heap ⟨hp.push {cls:=.type "tuple_iterator",data:=.fields #[.ref l,.int 0 0]},g,d,tk,os⟩) m ys:=Heap.IsTuple.push (show hp.IsTuple m ys from q2) _
  wp_walk using wpAny_pyIter_tuple a1,wpAny_pyIter_tuple a2
  exact⟨_,rfl,h⟩
def Fe (p q:Kq)(l m:Ω)(x ys:Array Ψ):Meets (Builtin.«zip.__new__» ⟨[.type "zip",.ref l,.ref m],[]⟩) (λ_ R s=>Sq p s.heap l x/\Sq q s.heap m ys/\R (.ok (.ret (.ref (HO p q s.heap l m).objs.size))) {s with heap:=HZ p q s.heap l m}):=by
 cases p<;>cases q
 ·exact E8 l m x ys
 ·exact E9 l m x ys
 ·exact Fb l m x ys
 ·exact Fd l m x ys
def yi {h:Heap}(e:h'.get? i=Δ (UZ k a)):It k h' i a 0:=by
 cases k with
 |l=>exact⟨_,e,rfl,rfl⟩
 |t=>exact⟨_,e,rfl,rfl⟩
def rE (k:Kq)(a:Ω):(UZ k a).isFreed=Ξ:=by cases k<;>rfl
def OP (y:Sq p s.heap l x)(H:Sq q s.heap m ys)
  (k:∀h',IsZip h' (s.heap.objs.size+4) (s.heap.objs.size+2) (s.heap.objs.size+3) .none->IsPair h' (s.heap.objs.size+2) (.ref s.heap.objs.size) (.ref (s.heap.objs.size+1))->IsPair h' (s.heap.objs.size+3) .none .none->
   It p h' s.heap.objs.size l 0->It q h' (s.heap.objs.size+1) m 0->h'.objs.size=s.heap.objs.size+5->(∀c o,s.heap.get? c=Δ o->h'.get? c=Δ o)->Q (.ref (s.heap.objs.size+4)) {s with heap:=h'}) :
  Κ (Μ prog w) A (call (.type "zip") [.ref l,.ref m]) Q E s:=by
 refine callType_new F.called_zip nofun (F.typeCall_zip_2 _ _) (F.newCall_zip_2 _ _) (λobj=>F.args_object_init_3 obj _ _) F.entry_zip_new (Fe p q l m x ys) ⟨y,H,?_⟩;let g:(Hi p s.heap l).objs.size=s.heap.objs.size+1:=W_ ..;let f:(Hj p q s.heap l m).objs.size=s.heap.objs.size+2:=(W_ ..).trans (by rw[g]);let N:(HI p q s.heap l m).objs.size=s.heap.objs.size+3:=(W_ ..).trans (by rw[f]);let n:(HO p q s.heap l m).objs.size=s.heap.objs.size+4:=(W_ ..).trans (by rw[N]);let v:(HZ p q s.heap l m).objs.size=s.heap.objs.size+5:=(W_ ..).trans (by rw[n]);let u:∀c o,(HO p q s.heap l m).get? c=Δ o->(HZ p q s.heap l m).get? c=Δ o:=λc o e=>m_ _ e;let U:∀c o,(HI p q s.heap l m).get? c=Δ o->(HZ p q s.heap l m).get? c=Δ o:=λc o e=>u c o (m_ _ e);let b:∀c o,(Hj p q s.heap l m).get? c=Δ o->(HZ p q s.heap l m).get? c=Δ o:=λc o e=>U c o (m_ _ e);let a:∀c o,(Hi p s.heap l).get? c=Δ o->(HZ p q s.heap l m).get? c=Δ o:=λc o e=>b c o (m_ _ e);let G:(HZ p q s.heap l m).get? (HO p q s.heap l m).objs.size=Δ _:=A_ _ rfl;let i:(HZ p q s.heap l m).get? (HI p q s.heap l m).objs.size=Δ {cls:=.type "tuple",data:=.seq #[.none,.none]}:=u _ _ (A_ _ rfl);let j:(HZ p q s.heap l m).get? (Hj p q s.heap l m).objs.size=Δ {cls:=.type "tuple",data:=.seq #[.ref s.heap.objs.size,.ref (Hi p s.heap l).objs.size]}:=U _ _ (A_ _ rfl);let r:(HZ p q s.heap l m).get? (Hi p s.heap l).objs.size=Δ (UZ q m):=b _ _ (A_ _ (rE q m));let z:(HZ p q s.heap l m).get? s.heap.objs.size=Δ (UZ p l):=a _ _ (A_ _ (rE p l));rw[f,N,n]at G;rw[N]at i;rw[g,f]at j;rw[g]at r;show _/\_;rw[n];exact⟨⟨_,G,rfl⟩,k _ G j i (yi (h:=s.heap) z) (yi (h:=s.heap) r) v λc o e=>a c o (m_ _ e)⟩
def PR {TI TO:Ω}(D:ZipApart z TI TO i j l m)(hz:IsZip s.heap z TI TO .none)(f:IsPair s.heap TI (.ref i) (.ref j))(e:IsPair s.heap TO a b)
  (ci:It p s.heap i l n) (cj:It q s.heap j m N) (sl:Sq p s.heap l X) (sm:Sq q s.heap m ys) (H:X[n]? = Δ x) (h:ys[N]? = Δ y)
  (k:∀h',IsZip h' z TI TO (rawInt s.heap.objs.size)->IsPair h' TO x y->It p h' i l (n+1)->It q h' j m (N + 1)->IsPair h' s.heap.objs.size x y->h'.objs.size=s.heap.objs.size+1->Kept z TO i j s.heap h'->Q (Δ (.ref s.heap.objs.size)) {s with heap:=h'}) :
  Κ (Μ prog w) A (pyNext (.ref z)) Q E s:=by
 let c:s.TypeIs (.ref z) "zip":=⟨_,hz,rfl⟩
 unfold pyNext;refine b_ (wpAny_attempt (wpAny_callSpecial?_slot (name:=Ρ "__next__") c F.slot_zip_next (aak F.slot_zip_next c F.entry_zip_next ?_ (F.args_zip_next_1 _))));exact wV D hz f e ci cj sl sm H h λh' G C B v u r g=>f_ (k h' G C B v u r g)
def PU {TI TO:Ω}(hh:A.handled=Φ)(D:ZipApart z TI TO i j l m)(hz:IsZip s.heap z TI TO .none)(u:IsPair s.heap TI (.ref i) (.ref j))(r:IsPair s.heap TO a b)
  (ci:It p s.heap i l n) (cj:It q s.heap j m N) (sl:Sq p s.heap l x) (sm:Sq q s.heap m ys) (P:x[n]? = Φ∨ys[N]? = Φ)
  (k:∀h',Kept z TO i j s.heap h'->Q Φ {s with heap:=h'}):Κ (Μ prog w) A (pyNext (.ref z)) Q E s:=by
 let f:s.TypeIs (.ref z) "zip":=⟨_,hz,rfl⟩
 unfold pyNext;refine b_ (wpAny_attempt (wpAny_callSpecial?_slot (name:=Ρ "__next__") f F.slot_zip_next (aak F.slot_zip_next f F.entry_zip_next (wW hh D hz u r ci cj sl sm P λh' e h H=>?_) (F.args_zip_next_1 _))));let⟨o,g,c⟩:=H;exact b_ (wpAny_isInstance (T:="StopIteration") (b:=Θ) ⟨o,g,c⟩ isSubtype_stop (f_ (k _ h)))
end L2.Zp
namespace L2
open PySem PySem.Spec PyProof.Rows
def Pl (K:Frag)(H:Hp)(k:Zp.Kq)(a:Ω)(x:Ï):Prop:=match k with
 |.l=>MR K H a x
 |.t=>Md K H a x
section
variable {X:Cx}{f:Ü}{g:St}{H:Hp}{s:Α}{h':Heap}{k:Zp.Kq}{a:Ω}{x ys:Ï}
theorem Inv.SF (I:Inv X f g H s)(h:Pl X.K H k a x):∃its:Í,Vals x its/\Zp.Sq k s.heap a its.toArray:=by
 cases k with
 |l=>let⟨its,r,p,b⟩:=I.list h;exact⟨its,r,p.isList⟩
 |t=>let⟨its,r,p,b⟩:=I.tuple h;exact⟨its,r,p⟩
theorem Inv.PV (I:Inv X f g H s)(h:Pl X.K H k a x)(h':Pl X.K H k a ys):x=ys:=by
 cases k with
 |l=>exact I.My h h'
 |t=>exact I.Nq h h'
theorem Inv.turns {t':Nat}{ch:Ì}(I:Inv X f g H s)(k:∀b o,b∉ch->s.heap.get? b=Δ o->h'.get? b=Δ o)(i:∀b∈ch,lj X f H b):Inv X f g H {s with heap:=h',toks:=t'}:=by
 let S:∀b u,H b=Δ u->b∉ch:=λb u e z=>by rw[(i b z).1]at e;cases e
 refine I.step (g':=s.gens) (d':=s.drawn) (ch:=ch) (λb p=>?_) (λb o _ _ h e _=>k b o h e) (λb o _ _ h e _=>⟨o.slots,k b o h e⟩) (λ_ _ _ _ n=>n)
  (λb o h e=>⟨o,k b o h e⟩) (λ_ _ e=>e) (λ_ _ _ e=>e) (λb P e=>⟨#[],by rw[e];simp⟩) (λm l=>?_) (λb u e=>?_) I.bare
 ·let⟨G,A,C,y,w,F⟩:=i b p;exact⟨y,A,w,F⟩
 ·let⟨o,E,B,j,r⟩:=l;exact⟨o,E,B,k _ o (λz=>(i _ z).2.1 rfl) j,r⟩
 ·refine(I.L1 b u e).Nx (λc v h q=>k c v ?_ q) (λ_ q=>q) λ_ _ q=>q;rcases h with z|z
  ·rw[z];exact S b u e
  ·exact S c _ z
theorem Inv.QI {t':Nat}{ch:Ì}{T:Ω}{i:HO}(I:Inv X f g H s)(k:∀b o,b∉ch->s.heap.get? b=Δ o->h'.get? b=Δ o)(l:∀b∈ch,lj X f H b)(p:s.heap.objs.size<=T)(new:iR X.prog X.w (upd H T i) h' T i):Inv X f g (upd H T i) {s with heap:=h',toks:=t'}:=by
 let S:∀b u,H b=Δ u->b∉ch:=λb u e z=>by rw[(l b z).1]at e;cases e
 let hn:H T=Φ:=I.L1.fresh p;refine I.step (g':=s.gens) (d':=s.drawn) (ch:=ch) (λb j=>?_) (λb o _ _ h e _=>k b o h e) (λb o _ _ h e _=>⟨o.slots,k b o h e⟩) (λb o _ e n=>by rw[ik (n_ (E_ (j_ e) p))];exact n)
  (λb o h e=>⟨o,k b o h e⟩) (λb x q=>by rw[ik (iO q hn)];exact q) (λb u x q=>by rw[ik (iO q hn)];exact q) (λb P q=>⟨#[],by rw[ik (iO q hn),q];simp⟩) (λm w=>?_) (λb u e=>?_) I.bare
 ·let⟨J,B,G,A,y,F⟩:=l b j;exact⟨A,B,y,F⟩
 ·let⟨o,E,C,i,r⟩:=w;exact⟨o,E,C,k _ o (λz=>(l _ z).2.1 rfl) i,r⟩
 ·by_cases j:b=T
  ·subst j;rw[iq]at e;cases e;exact new
  ·rw[ik j]at e;refine(I.L1 b u e).Nx (λc v h q=>k c v ?_ q) (λc q=>by rw[ik (iO q hn)];exact q) λc x q=>by rw[ik (iO q hn)];exact q
   rcases h with z|z
   ·rw[z];exact S b u e
   ·exact S c _ z
end
abbrev ZF (K:Frag)(p q:Zp.Kq)(l m:Ω):It:=
 ⟨λi H=>∃X Y x y,Pl K H p l X/\Pl K H q m Y/\X[i]? = Δ x/\Y[i]? = Δ y,
  λi H v h=>∃T a b,v=.r T/\H T=Φ/\h=upd H T (.t [a,b])/\∀X Y,Pl K H p l X->Pl K H q m Y->X[i]? = Δ a/\Y[i]? = Δ b,
  λi H=>∃X Y,Pl K H p l X/\Pl K H q m Y/\(X.length<=i∨Y.length<=i)⟩
def Zp.It.obj (c:Zp.It k h i a n):∃o,h.get? i=Δ o/\∀v,o.data≠.cell v:=by
 cases k with
 |l=>let⟨o,e,c,d⟩:=c;exact⟨o,e,λv z=>by rw[d]at z;cases z⟩
 |t=>let⟨o,e,c,d⟩:=c;exact⟨o,e,λv z=>by rw[d]at z;cases z⟩
def yj {P:Ε}{w:Β}{K:Frag}{es:Á}{c:Nat}{pos:Pos}(p q:Zp.Kq)(z TI TO i j l m:Ω)(D:ZipApart z TI TO i j l m) :
  Turn P w K (.Tuple es c pos) (ZF K p q l m) [z,TI,TO,i,j] z (λn h=>IsZip h z TI TO .none/\IsPair h TI (.ref i) (.ref j)/\(∃a b,IsPair h TO a b)/\Zp.It p h i l n/\Zp.It q h j m n) where
 mem:=by simp
 obj:=λn h st b f=>by
  let⟨A,g,⟨a,J,B⟩,ci,cj⟩:=st;simp only[k_,P_,or_false]at f;rcases f with rfl|rfl|rfl|rfl|rfl
  ·exact⟨_,A,λv z=>by cases z⟩
  ·exact⟨_,g,λv z=>by cases z⟩
  ·exact⟨_,B,λv z=>by cases z⟩
  ·exact ci.obj
  ·exact cj.obj
 keep:=λn h h' st k=>by let⟨A,g,⟨a,J,B⟩,ci,cj⟩:=st;exact⟨k z (by simp) _ A,k TI (by simp) _ g,⟨a,J,k TO (by simp) _ B⟩,ci.to λo e=>k i (by simp) o e,cj.to λo e=>k j (by simp) o e⟩
 item:=by
  intro X hP W hK hc n u s σ H E I G st hg;subst hP W hK;let⟨A,g,⟨a,J,B⟩,ci,cj⟩:=st;let⟨xs,ys,x,y,M,L,C,hy⟩:=hg;let⟨OQ,Qc,S⟩:=I.SF M;let⟨MH,Ob,Q⟩:=I.SF L;let⟨N,ZG,ZH⟩:=Qc.get C;let⟨U,Y,R⟩:=Ob.get hy;refine Zp.PR D A g B ci cj S Q (x:=N) (y:=U) (by simpa using ZG) (by simpa using Y) λh1 a1 a2 a3 a4 a5 a6 F=>?_;refine⟨_,rfl,?_⟩;let lz:z < s.heap.objs.size:=j_ A;let hTz:s.heap.objs.size≠z:=U_ lz;refine wpAny_letOwnedTupleGo_zip (s:={s with heap:=h1}) a1 λh2 VV O=>?_;let kk:∀b o,b∉[z,TI,TO,i,j]->s.heap.get? b=Δ o->h2.get? b=Δ o:=λb o f e=>by simp only[k_,P_,or_false,not_or]at f;exact O.extBut _ _ f.1 (F b o f.1 f.2.2.1 f.2.2.2.1 f.2.2.2.2 e)
  let hT:IsPair h2 s.heap.objs.size N U:=O.extBut _ _ hTz a5;let I2:Inv X u σ (upd H s.heap.objs.size (.t [x,y])) {s with heap:=h2}:=I.QI (t':=s.toks) kk G (o_ _) ⟨by show 2<=Ζ;decide,[N,U],.cons ZH (.cons R .nil),⟨_,hT,rfl,_,rfl⟩⟩;refine⟨.r s.heap.objs.size,_,I2,rfl,⟨_,x,y,rfl,I.L1.fresh (o_ _),rfl,λU0 ys' g1 g2=>by rw[I.PV g1 M,I.PV g2 L];exact⟨C,hy⟩⟩,⟨VV,O.extBut _ _ D.TIz (F _ _ D.TIz D.TITO D.TIi1 D.TIi2 g),⟨_,_,O.extBut _ _ D.TOz a2⟩,a3.to λo e=>O.extBut _ _ D.i1z e,a4.to λo e=>O.extBut _ _ D.i2z e⟩,λb f=>?_⟩;let OE:b < s.heap.objs.size:=by
   simp only[k_,P_,or_false]at f;rcases f with rfl|rfl|rfl|rfl|rfl
   ·exact lz
   ·exact j_ g
   ·exact j_ B
   ·exact ci.lt
   ·exact cj.lt
  rw[ik (n_ OE)];exact(G b f).1
 done:=by
  intro X hP W hK hc n u s σ H E I G st hg;subst hP W hK;let⟨A,g,⟨a,J,B⟩,ci,cj⟩:=st;let⟨xs,ys,M,L,C⟩:=hg;let⟨OQ,Qc,S⟩:=I.SF M;let⟨MH,Ob,Q⟩:=I.SF L;let l1:=Qc.length;let l2:=Ob.length
  refine Zp.PU (I.ok.hd hc) D A g B ci cj S Q (by
   rcases C with C|C
   ·exact .inl (Array.getElem?_eq_none (by simp;omega))
   ·exact .inr (Array.getElem?_eq_none (by simp;omega))) λh1 F=>⟨rfl,I.turns (t':=s.toks) (ch:=[z,TI,TO,i,j]) (λb o f e=>?_) G⟩
  simp only[k_,P_,or_false,not_or]at f;exact F b o f.1 f.2.2.1 f.2.2.2.1 f.2.2.2.2 e
 self:=λ_ _ _ _ _ st h=>wpAny_pyIter_zip st.1 h
def Kc (K:Frag)(b:TA):TI:=λa H R=>b a H λvs h=>∃p q l m x y,vs=[.r l,.r m]/\Pl K h p l x/\Pl K h q m y/\R (ZF K p q l m) h
def Zp.Sq.lt (q:Zp.Sq k h a x):a < h.objs.size:=by
 cases k with
 |l=>let⟨o,e,_⟩:=q;exact j_ e
 |t=>let⟨o,e,_⟩:=q;exact j_ e
def rF (N l m:Nat)(H:l < N)(h:m < N):ZipApart (N+4) (N+2) (N+3) N (N+1) l m:=by constructor<;>(intro e;let E:(_:Nat)=(_:Nat):=e;omega)
def Ff (E:Gl X "zip") (C:X.mg "zip" = Φ) (F:PA X [a,b] v) (hs:Ν [a,b] X.env=[(Ξ,eval a X.env),(Ξ,eval b X.env)]) (O:Ν [b] X.env=[(Ξ,eval b X.env)]) :
  PI X (.Tuple es c tp) (.Call (.Name "zip" p) [a,b] [] pos) (Kc X.K v):=by
 intro P s u H R I h;refine Call_ (jP I E C boot_zip (aax (L4 (F pos P s u H _ I h) λus S ⟨vs,H1,i,w,Q⟩=>?_) (by rw[hs,O]) (by rw[O];rfl)));let⟨A,z,l,m,xs,ys,e,M,J,q⟩:=Q;subst e;cases w with
 |cons r f=>
  cases f with
  |cons x f=>
   cases f;cases r;cases x;let⟨OQ,Qc,j⟩:=i.SF M;let⟨MH,Ob,g⟩:=i.SF J;let y:=j.lt;let L:=g.lt;refine Zp.OP j g λG B b2 Y W U b6 N=>?_;refine wpAny_pyIter_zip (s:={S with heap:=G}) B ?_;refine⟨S.heap.objs.size+4,[S.heap.objs.size+4,S.heap.objs.size+2,S.heap.objs.size+3,S.heap.objs.size,S.heap.objs.size+1],_,_,H1,rfl,i.kept (t':=S.toks) N,yj A z _ _ _ _ _ l m (rF _ l m y L),⟨B,b2,⟨_,_,Y⟩,W,U⟩,λb k=>?_,q⟩;let n:S.heap.objs.size<=b:=by
    simp only[k_,P_,or_false]at k;rcases k with rfl|rfl|rfl|rfl|rfl
    ·exact aaz _ _
    ·exact aaz _ _
    ·exact aaz _ _
    ·exact o_ _
    ·exact aaz _ _
   exact i.Pe n (i.L1.fresh n)
end L2
namespace L2.Zp
open PySem
@[reducible]def jQ (h:Heap)(z TI TO T:Ω)(f:Bool):Prop:=
 h.get? z=Δ {cls:=.type "zip",dict:=Φ,data:=.fields #[rawInt T,.bool f,.bool Ξ,.ref TI,.ref TO],slots:=#[]}
def alive (H:s.heap.get? a=Δ o)(h:Q (Δ o) s):Κ (Μ prog w) A (loadIfAlive a) Q E s:=by
 let b:Q (s.heap.get? a) s:=by rw[H];exact h
 exact λ_ _ _=>b
def pO {TI TO:Ω}(hz:jQ s.heap z TI TO T f)(h:s.heap.get? T=Δ O)
  (k:∀h',jQ h' z TI TO T Θ->Heap.SameBut z s.heap h'->Q Ξ {s with heap:=h'}):Κ (Μ prog w) A (η (.ref z)) Q E s:=by
 unfold η;refine b_ (O_ hz rfl (x:=rawInt T) rfl ?_);show Κ _ _ (loadIfAlive ((T:Int).toNat) >>= _) _ _ _;rw[aae];refine b_ (alive h ?_);simp only[Option.isNone_some,aaK,if_false];refine b_ (O_ hz rfl (x:=.bool f) rfl ?_)
 cases f using zB with
 |true=>rw[d_ (show ¬((Value.bool Θ != Value.bool Θ)=Θ) from p_)];exact f_ (k s.heap hz (Heap.SameBut.refl _ _))
 |false=>rw[e_ (show(Value.bool Ξ != Value.bool Θ)=Θ from rfl)];refine b_ (aal hz (by simp) λb a v=>?_);exact f_ (k b a v)
def tV {TI TO:Ω}{Q:Ö}(D:ZipApart z TI TO i j l m)(hz:jQ s.heap z TI TO T f)(G:s.heap.get? T=Δ P)(I:IsPair s.heap TI (.ref i) (.ref j))
  (ci:It p s.heap i l n) (cj:It q s.heap j m N) (sl:Sq p s.heap l X) (sm:Sq q s.heap m ys) (B:X[n]? = Δ x) (H:ys[N]? = Δ y)
  (k:∀h',jQ h' z TI TO T Θ->It p h' i l (n+1)->It q h' j m (N + 1)->IsPair h' s.heap.objs.size x y->h'.objs.size=s.heap.objs.size+1->(∀c o,c≠z->c≠i->c≠j->s.heap.get? c=Δ o->h'.get? c=Δ o)->Q (.ref s.heap.objs.size) {s with heap:=h'}) :
  Κ (Μ prog w) A (Builtin.«zip.__next__» ⟨[.ref z],[]⟩) (λF S=>∃v,F=.done (.ret v)/\Q v S) E s:=by
 show Κ _ _ (field (.ref z) 2 >>= _) _ _ _;refine b_ (O_ hz rfl (x:=.bool Ξ) rfl ?_);show Κ _ _ (field (.ref z) 3 >>= _) _ _ _;refine b_ (O_ hz rfl (x:=.ref TI) rfl (b_ (aad I rfl ?_)));show Κ _ _ (η (.ref z) >>= _) _ _ _;refine b_ (pO hz G λU u a=>?_);simp only[aaK,if_false];refine b_ ?_;rw[<- Array.forIn_toList];simp only[List.forIn_cons,List.forIn_nil];refine b_ (b_ (L_ ?_));show Κ _ _ (ζ (.ref i) >>= _) _ _ _;refine b_ (kQ (ci.to λo e=>a.extBut _ _ D.i1z e) (sl.to λo e=>a.extBut _ _ D.l1z e) B λR O b=>f_ (f_ (b_ (b_ (L_ ?_)))));show Κ _ _ (ζ (.ref j) >>= _) _ _ _;refine b_ (kQ (cj.to λo e=>b.extBut _ _ D.i12.symm (a.extBut _ _ D.i2z e)) (sm.to λo e=>b.extBut _ _ D.l2i1 (a.extBut _ _ D.l2z e)) H λh C g=>f_ (f_ (f_ (b_ (wpAny_newTuple ?_ (hsz:=by show 2<=Ζ;decide))))));let sz:h.objs.size=s.heap.objs.size:=by rw[g.1,b.1,a.1]
 let r:jQ h z TI TO T Θ:=g.extBut _ _ D.i2z.symm (b.extBut _ _ D.i1z.symm u);refine f_ ⟨_,rfl,?_⟩;show Q (.ref h.objs.size) _;rw[sz];let up:∀c o,h.get? c=Δ o->(h.push {cls:=.type "tuple",data:=.seq #[x,y]}).get? c=Δ o:=λc o e=>m_ _ e;refine k _ (up _ _ r) ((O.to λo e=>g.extBut _ _ D.i12 e).to λo e=>up _ o e) (C.to λo e=>up _ o e) ?_ (by rw[W_,sz]) λc o M L J e=>up c o (g.extBut _ _ J (b.extBut _ _ L (a.extBut _ _ M e)));show(h.push _).get? s.heap.objs.size=_;rw[<- sz];exact A_ _ rfl
def tW {TI TO:Ω}(hh:A.handled=Φ)(D:ZipApart z TI TO i j l m)(hz:jQ s.heap z TI TO T f)(B:s.heap.get? T=Δ O)(F:IsPair s.heap TI (.ref i) (.ref j))
  (ci:It p s.heap i l n) (cj:It q s.heap j m N) (sl:Sq p s.heap l X) (sm:Sq q s.heap m ys) (P:X[n]? = Φ∨ys[N]? = Φ)
  (k:∀h' e,(∀c o,c≠z->c≠i->c≠j->s.heap.get? c=Δ o->h'.get? c=Δ o)->(∃o,h'.get? e=Δ o/\o.cls=.type "StopIteration")->E (.ref e) {s with heap:=h'}) :
  Κ (Μ prog w) A (Builtin.«zip.__next__» ⟨[.ref z],[]⟩) Q E s:=by
 show Κ _ _ (field (.ref z) 2 >>= _) _ _ _;refine b_ (O_ hz rfl (x:=.bool Ξ) rfl ?_);show Κ _ _ (field (.ref z) 3 >>= _) _ _ _;refine b_ (O_ hz rfl (x:=.ref TI) rfl (b_ (aad F rfl ?_)));show Κ _ _ (η (.ref z) >>= _) _ _ _;refine b_ (pO hz B λL J a=>?_);simp only[aaK,if_false];refine b_ ?_;rw[<- Array.forIn_toList];simp only[List.forIn_cons,List.forIn_nil];refine b_ (b_ (L_ ?_));show Κ _ _ (ζ (.ref i) >>= _) _ _ _;cases h:X[n]? with
 |none=>refine b_ (qm hh (ci.to λo e=>a.extBut _ _ D.i1z e) (sl.to λo e=>a.extBut _ _ D.l1z e) h λu e b H=>?_);exact k u e (λc o r C v g=>b _ _ C (a.extBut _ _ r g)) H
 |some x=>let y:ys[N]? = Φ:=P.resolve_left (by rw[h];simp);refine b_ (kQ (ci.to λo e=>a.extBut _ _ D.i1z e) (sl.to λo e=>a.extBut _ _ D.l1z e) h λu M b=>f_ (f_ (b_ (b_ (L_ ?_)))));show Κ _ _ (ζ (.ref j) >>= _) _ _ _;refine b_ (qm hh (cj.to λo e=>b.extBut _ _ D.i12.symm (a.extBut _ _ D.i2z e)) (sm.to λo e=>b.extBut _ _ D.l2i1 (a.extBut _ _ D.l2z e)) y λG e I H=>?_);exact k G e (λc o r C v g=>I _ _ v (b.extBut _ _ C (a.extBut _ _ r g))) H
def yk {TI TO:Ω}(D:ZipApart z TI TO i j l m)(hz:jQ s.heap z TI TO T f)(b:s.heap.get? T=Δ O)(e:IsPair s.heap TI (.ref i) (.ref j))
  (ci:It p s.heap i l n) (cj:It q s.heap j m N) (sl:Sq p s.heap l X) (sm:Sq q s.heap m ys) (H:X[n]? = Δ x) (h:ys[N]? = Δ y)
  (k:∀h',jQ h' z TI TO T Θ->It p h' i l (n+1)->It q h' j m (N + 1)->IsPair h' s.heap.objs.size x y->h'.objs.size=s.heap.objs.size+1->(∀c o,c≠z->c≠i->c≠j->s.heap.get? c=Δ o->h'.get? c=Δ o)->Q (Δ (.ref s.heap.objs.size)) {s with heap:=h'}) :
  Κ (Μ prog w) A (pyNext (.ref z)) Q E s:=by
 let a:s.TypeIs (.ref z) "zip":=⟨_,hz,rfl⟩
 unfold pyNext;refine b_ (wpAny_attempt (wpAny_callSpecial?_slot (name:=Ρ "__next__") a F.slot_zip_next (aak F.slot_zip_next a F.entry_zip_next ?_ (F.args_zip_next_1 _))));exact tV D hz b e ci cj sl sm H h λh' C B v u r g=>f_ (k h' C B v u r g)
def yl {TI TO:Ω}(hh:A.handled=Φ)(D:ZipApart z TI TO i j l m)(hz:jQ s.heap z TI TO T f)(r:s.heap.get? T=Δ O)(u:IsPair s.heap TI (.ref i) (.ref j))
  (ci:It p s.heap i l n) (cj:It q s.heap j m N) (sl:Sq p s.heap l x) (sm:Sq q s.heap m ys) (P:x[n]? = Φ∨ys[N]? = Φ)
  (k:∀h',(∀c o,c≠z->c≠i->c≠j->s.heap.get? c=Δ o->h'.get? c=Δ o)->Q Φ {s with heap:=h'}):Κ (Μ prog w) A (pyNext (.ref z)) Q E s:=by
 let a:s.TypeIs (.ref z) "zip":=⟨_,hz,rfl⟩
 unfold pyNext;refine b_ (wpAny_attempt (wpAny_callSpecial?_slot (name:=Ρ "__next__") a F.slot_zip_next (aak F.slot_zip_next a F.entry_zip_next (tW hh D hz r u ci cj sl sm P λh' e h H=>?_) (F.args_zip_next_1 _))));let⟨o,g,c⟩:=H;exact b_ (wpAny_isInstance (T:="StopIteration") (b:=Θ) ⟨o,g,c⟩ isSubtype_stop (f_ (k _ h)))
structure St (z TI TO i j l m:Ω)(p q:Kq)(xs ys:Array Ψ)(n:Nat)(b:Nat)(Ts:Ì)(h:Heap):Prop where
 zp:IsZip h z TI TO .none∨∃T f,jQ h z TI TO T f/\T∈Ts
 I:IsPair h TI (.ref i) (.ref j)
 O:∃a b,IsPair h TO a b
 ci:It p h i l n
 cj:It q h j m n
 sl:Sq p h l xs
 sm:Sq q h m ys
 len:Ts.length=n
 nd:Ts.Nodup
 at_:∀(k:Nat) (T:Ω),Ts[k]? = Δ T->b<=T/\∃x y,xs[k]? = Δ x/\ys[k]? = Δ y/\IsPair h T x y
def loop {prog:Ε}{w:Β}{A:Ι}{p q:Kq}{z TI TO i j l m S:Ω}{X ys:Array Ψ}{R:Result->Α->Prop}{b:Nat}(hh:A.handled=Φ)(D:ZipApart z TI TO i j l m)(C:Ψ)(hn:min X.size ys.size<=Ζ)(bz:z < b)(bI:TI < b)(bO:TO < b)(bi:i < b)(bj:j < b)(bl:l < b)(bm:m < b)(bS:S < b)(Sz:S≠z)(SI:S≠TI)(SO:S≠TO)(Si:S≠i)(Sj:S≠j)(Sl:S≠l)(Sm:S≠m) :
  ∀(k n:Nat) (s:Α) (g:Ì) (c:Nat),min X.size ys.size - n=k->n<=min X.size ys.size->St z TI TO i j l m p q X ys n b g s.heap->b<=s.heap.objs.size->s.heap.get? S=Δ {cls:=.type "list",dict:=Φ,data:=.seq (g.map θ).toArray c,slots:=#[]}->
  (∀(h':Heap) (tk:Nat) (U:Ì) (P:Nat),(∀a o,a≠z->a≠TO->a≠i->a≠j->a≠S->s.heap.get? a=Δ o->h'.get? a=Δ o)->h'.get? S=Δ {cls:=.type "list",dict:=Φ,data:=.seq (U.map θ).toArray P,slots:=#[]}->U.length=min X.size ys.size->U.Nodup->(∀(k:Nat) (T:Ω),U[k]? = Δ T->b<=T/\∃x y,X[k]? = Δ x/\ys[k]? = Δ y/\IsPair h' T x y)->R (.ok (.ret C)) {s with heap:=h',toks:=tk})->
  codeAny (Μ prog w) A (.builtin "list.extend.loop" ⟨[.ref S,.ref z,C],[]⟩) R s:=by
 intro k
 induction k with
 |zero=>
  intro n s g c hk hi st Y hS hR;let NZ:n=min X.size ys.size:=⋯
  subst NZ;refine codeAny_builtin F.entry_extend_loop ?_;rw[aaT F.plain_extend_loop _];show Κ _ A.in1 (pyNext (.ref z) >>= _) _ _ s;let he:X[min X.size ys.size]? = Φ∨ys[min X.size ys.size]? = Φ:=by
   by_cases h:X.size<=ys.size
   ·exact .inl (Array.getElem?_eq_none ⋯)
   ·exact .inr (Array.getElem?_eq_none ⋯)
  let r:∀h',(∀a o,a≠z->a≠TO->a≠i->a≠j->s.heap.get? a=Δ o->h'.get? a=Δ o)->R (.ok (.ret C)) {s with heap:=h'}:=λh' kp=>by
   refine hR h' s.toks g c (λa o B J v u _ e=>kp a o B J v u e) (kp S _ Sz SO Si Sj hS) st.len st.nd λk T e=>?_;let⟨L,x,y,t2,t3,t4⟩:=st.at_ k T e;let ne:∀a,a < b->T≠a:=λa ha z=>by rw[z]at L;omega
   exact⟨L,x,y,t2,t3,kp T _ (ne z bz) (ne TO bO) (ne i bi) (ne j bj) t4⟩
  let⟨a,b',G⟩:=st.O;rcases st.zp with H|⟨T,f,H,E⟩
  ·refine b_ (PU (A:=A.in1) hh D H st.I G st.ci st.cj st.sl st.sm he λh' kp=>?_);exact f_ (r h' λa o B J v u e=>kp a o B J v u e)
  ·let⟨k,RK⟩:=aao.mp E;let⟨_,x,y,_,_,TH⟩:=st.at_ k T RK;refine b_ (yl (A:=A.in1) hh D H TH st.I st.ci st.cj st.sl st.sm he λh' kp=>?_);exact f_ (r h' λa o B _ v u e=>kp a o B v u e)
 |succ k ih=>
  intro n s g c hk hi st Y hS hR;let Mi:n < min X.size ys.size:=⋯
  let b1:n < X.size:=E_ Mi (Nat.min_le_left ..);let b2:n < ys.size:=E_ Mi (Nat.min_le_right ..);let g1:=Array.getElem?_eq_getElem b1;let g2:=Array.getElem?_eq_getElem b2;refine codeAny_builtin F.entry_extend_loop ?_;rw[aaT F.plain_extend_loop _];show Κ _ A.in1 (pyNext (.ref z) >>= _) _ _ s;let ZI:s.heap.objs.size∉g:=λhm=>by let⟨k,RK⟩:=aao.mp hm;let⟨_,x,y,_,_,TH⟩:=st.at_ k _ RK;exact absurd (j_ TH) (aac _)
  let r:∀h',(jQ h' z TI TO s.heap.objs.size Ξ∨∃T f,jQ h' z TI TO T f/\T∈g)->(∃a b,IsPair h' TO a b)->It p h' i l (n+1)->It q h' j m (n+1)->IsPair h' s.heap.objs.size X[n] ys[n]->h'.objs.size=s.heap.objs.size+1->(∀a o,a≠z->a≠TO->a≠i->a≠j->s.heap.get? a=Δ o->h'.get? a=Δ o)->
    Κ (Μ prog w) A.in1 (updateSeq S (·.push (.ref s.heap.objs.size)) >>= λ_=>again (.builtin "list.extend.loop" ⟨[.ref S,.ref z,C],[]⟩)) (λr s'=>match r with|.done f=>R (.ok f) s'|.again P=>P.quiet=Θ/\codeAny (Μ prog w) A P R s') (λe s'=>R (.error e) s') {s with heap:=h'}:=by
   intro h' H G ci cj E sz kp;let Nu:=kp S _ Sz SO Si Sj hS;let W:(g.map θ).toArray.size=n:=by simp[st.len]
   refine b_ (wpAny_updateSeq Nu rfl (f_ ⟨plainId_quiet F.plain_extend_loop _,?_⟩) (by rw[W];omega) (by show((g.map θ).toArray.push _).size<=Ζ+1;rw[Array.size_push,W];omega));let XT:(h'.update S (ι λx=>x.push (θ s.heap.objs.size))).get? S=Δ (ι (λx=>x.push (θ s.heap.objs.size)) {cls:=.type "list",dict:=Φ,data:=.seq (g.map θ).toArray c,slots:=#[]}):=aaI _ Nu rfl;let ar:(g.map θ).toArray.push (θ s.heap.objs.size)=((g++[s.heap.objs.size]).map θ).toArray:=by simp
   obtain⟨I,hS3⟩:∃I,(h'.update S (ι λx=>x.push (θ s.heap.objs.size))).get? S=Δ {cls:=.type "list",dict:=Φ,data:=.seq (((g++[s.heap.objs.size]).map θ).toArray) I,slots:=#[]}:=⟨_,by rw[XT,<- ar];rfl⟩
   let Q:∀a o,a≠S->h'.get? a=Δ o->(h'.update S (ι λx=>x.push (θ s.heap.objs.size))).get? a=Δ o:=λa o ha e=>(aat _ _ (Ne.symm ha)).trans e;let VY:(h'.update S (ι λx=>x.push (θ s.heap.objs.size))).objs.size=h'.objs.size:=(aaP ..).1;let nS:∀T:Ω,b<=T->T≠S:=λT TJ z=>aac _ (E_ bS (z ▸ TJ:b<=S));refine ih (n+1) _ (g++[s.heap.objs.size]) I ⋯ Mi ⟨?_,Q _ _ SI.symm (kp _ _ D.TIz D.TITO D.TIi1 D.TIi2 st.I),?_,ci.to λo e=>Q _ o Si.symm e,cj.to λo e=>Q _ o Sj.symm e,?_,?_,by rw[q_,st.len];rfl,?_,λk T e=>?_⟩ (by show b<=(h'.update S _).objs.size;rw[VY,sz];omega) hS3 λVZ tk U P ZJ B J v u=>?_
   ·rcases H with H|⟨T,f,H,E⟩
    ·exact .inr ⟨_,Ξ,Q _ _ Sz.symm H,x_ _ (r_.mpr rfl)⟩
    ·exact .inr ⟨T,f,Q _ _ Sz.symm H,u_ _ E⟩
   ·let⟨a,b',G⟩:=G;exact⟨a,b',Q _ _ SO.symm G⟩
   ·exact(st.sl.to λo e=>kp _ o D.l1z D.l1TO D.l1i1 D.l1i2 e).to λo e=>Q _ o Sl.symm e
   ·exact(st.sm.to λo e=>kp _ o D.l2z D.l2TO D.l2i1 D.l2i2 e).to λo e=>Q _ o Sm.symm e
   ·refine s_.mpr ⟨st.nd,by simp,λa ha b Y e=>?_⟩;rw[r_.mp Y]at e;exact ZI (e ▸ ha)
   ·by_cases U1:k < g.length
    ·rw[aaH U1]at e;let⟨L,x,y,t2,t3,t4⟩:=st.at_ k T e;let ne:∀a,a < b->T≠a:=λa ha z=>by rw[z]at L;omega
     exact⟨L,x,y,t2,t3,Q _ _ (nS T L) (kp T _ (ne z bz) (ne TO bO) (ne i bi) (ne j bj) t4)⟩
    ·rw[aaS ⋯]at e;let hk2:k=n:=by have:=(v_.mp e).1;rw[V_]at this;have:=st.len;omega
     rw[show k - g.length=0 by have:=st.len;omega]at e;let e':s.heap.objs.size=T:=H_ e;subst e';rw[hk2];exact⟨Y,_,_,g1,g2,Q _ _ (nS _ Y) E⟩
   ·exact hR VZ tk U P (λa o O I N M c5 e=>ZJ a o O I N M c5 (Q a o c5 (kp a o O I N M e))) B J v u
  let⟨a,b',G⟩:=st.O;rcases st.zp with H|⟨T,f,H,E⟩
  ·refine b_ (PR (A:=A.in1) D H st.I G st.ci st.cj st.sl st.sm g1 g2 λh' B J v u a5 a6 kp=>?_);exact r h' (.inl B) ⟨_,_,J⟩ v u a5 a6 λa o O I N M e=>kp a o O I N M e
  ·let⟨k',RK⟩:=aao.mp E;let⟨_,x,y,_,_,TH⟩:=st.at_ k' T RK;refine b_ (yk (A:=A.in1) D H TH st.I st.ci st.cj st.sl st.sm g1 g2 λh' B v u a5 a6 kp=>?_);exact r h' (.inr ⟨T,Θ,B,E⟩) ⟨a,b',kp TO _ D.TOz D.TOi1 D.TOi2 G⟩ v u a5 a6 λa o O _ N M e=>kp a o O N M e
def tX:typeLookup (.type "zip") "__len__" = pure Φ:=by rw[typeLookup_type,builtinLookup_eq_fast];kernel_rfl
def rG:typeLookup (.type "zip") "__length_hint__" = pure Φ:=by rw[typeLookup_type,builtinLookup_eq_fast];kernel_rfl
def tY {TI TO:Ω}(hh:A.handled=Φ)(D:ZipApart z TI TO i j l m)(res:Ψ)(c₀:Nat)(hz:IsZip s.heap z TI TO .none)(hI:IsPair s.heap TI (.ref i) (.ref j))(hO:∃a b,IsPair s.heap TO a b)(ci:It p s.heap i l 0)(cj:It q s.heap j m 0)(sl:Sq p s.heap l xs)(sm:Sq q s.heap m ys)
  (hS:s.heap.get? S=Δ {cls:=.type "list",data:=.seq #[] c₀}) (hn:min xs.size ys.size<=Ζ) (Sz:S≠z) (SI:S≠TI) (SO:S≠TO) (Si:S≠i) (Sj:S≠j) (Sl:S≠l) (Sm:S≠m)
  (hR:∀(h':Heap) (tk:Nat) (Of:Ì) (c':Nat),(∀a o,a≠z->a≠TO->a≠i->a≠j->a≠S->s.heap.get? a=Δ o->h'.get? a=Δ o)->h'.get? S=Δ {cls:=.type "list",dict:=Φ,data:=.seq (Of.map θ).toArray c',slots:=#[]}->Of.length=min xs.size ys.size->Of.Nodup->(∀(k:Nat) (T:Ω),Of[k]? = Δ T->s.heap.objs.size<=T/\∃x y,xs[k]? = Δ x/\ys[k]? = Δ y/\IsPair h' T x y)->R (.ok (.ret res)) {s with heap:=h',toks:=tk}) :
  Κ (Μ prog w) A.in1 (Χ (.ref S) (.ref z) res)
   (λfin s'=>match fin with|.done f=>R (.ok f) s'|.again c'=>c'.quiet=Θ/\codeAny (Μ prog w) A c' R s') (λe s'=>R (.error e) s') s:=by
 let ty:s.TypeIs (.ref z) "zip":=⟨_,hz,rfl⟩
 unfold Χ;refine b_ (wpAny_typeOf ty ?_);let h1:Builtin.List.listSameRef (.ref S) (.ref z)=Ξ:=by simp[Builtin.List.listSameRef,Sz]
 let h2:(Value.type "zip" == Value.type "list")=Ξ:= nofun
 let h3:(Value.type "zip" == Value.type "tuple")=Ξ:= nofun
 simp only[h1,h2,h3,Bool.or_false,aaK,if_false];refine b_ (wpAny_pyIter_zip hz ?_);refine b_ (L_ ?_);unfold Builtin.List.listLengthHint;refine b_ (wpAny_specialOf ty tX ?_);show Κ _ A.in1 (specialOf (θ z) (Ρ "__length_hint__") >>= _) _ _ _;refine b_ (wpAny_specialOf ty rG (f_ ?_))
 show Κ _ A.in1 (rule "list.extend.makes-room" >>= λ_=>Builtin.List.listTouch (.ref S) >>= λ_=>
  again (.builtin "list.extend.loop" ⟨[.ref S,.ref z,res],[]⟩)) _ _ _
 refine b_ (wpAny_rule ?_);refine b_ ?_;show Κ _ A.in1 (updateSeq S (·.push .none) >>= λ_=>updateSeq S (·.pop)) _ _ _;refine b_ (wpAny_updateSeq hS rfl ?_);let Oa:=aaI (ι (·.push Value.none)) hS rfl;refine wpAny_updateSeq (hz:=by seq_fits) Oa rfl ?_;let V0:=aaI (ι (·.pop)) Oa rfl;let Nh:∀b o,b≠S->s.heap.get? b=Δ o->((s.heap.update S (ι (·.push Value.none))).update S (ι (·.pop))).get? b=Δ o:=
  λb o hb e=>(aat _ _ (Ne.symm hb)).trans ((aat _ _ (Ne.symm hb)).trans e)
 let VY:((s.heap.update S (ι (·.push Value.none))).update S (ι (·.pop))).objs.size=s.heap.objs.size:=((aaP ..).1).trans (aaP ..).1;let⟨a,b',hO⟩:=hO
 refine f_ ⟨plainId_quiet F.plain_extend_loop _,loop (b:=s.heap.objs.size) hh D res hn (j_ hz) (j_ hI) (j_ hO) ci.lt cj.lt sl.lt sm.lt (j_ hS) Sz SI SO Si Sj Sl Sm _ 0 _ [] _ rfl (aaa _)
  ⟨.inl (Nh _ _ Sz.symm hz),Nh _ _ SI.symm hI,⟨a,b',Nh _ _ SO.symm hO⟩,ci.to λo e=>Nh _ o Si.symm e,cj.to λo e=>Nh _ o Sj.symm e,sl.to λo e=>Nh _ o Sl.symm e,sm.to λo e=>Nh _ o Sm.symm e,rfl,List.nodup_nil,λk T e=>by simp at e⟩ (by show s.heap.objs.size<=((s.heap.update S _).update S _).objs.size;rw[VY];exact o_ _) V0 λh' tk Of c' kp a1 a2 a3 a4=>?_⟩
 exact hR h' tk Of c' (λa o c1 c2 c3 c4 c5 e=>kp a o c1 c2 c3 c4 c5 (Nh a o c5 e)) a1 a2 a3 a4
def N4 {TI TO:Ω}(hh:A.handled=Φ)(D:ZipApart z TI TO i j l m)(hz:IsZip s.heap z TI TO .none)(u:IsPair s.heap TI (.ref i) (.ref j))(H:∃a b,IsPair s.heap TO a b)(ci:It p s.heap i l 0)(cj:It q s.heap j m 0)(sl:Sq p s.heap l X)(sm:Sq q s.heap m ys)(hn:min X.size ys.size<=Ζ)
  (I:∀(h':Heap) (f:Nat) (O:Ì) (C:Nat),(∀a o,a≠z->a≠TO->a≠i->a≠j->s.heap.get? a=Δ o->h'.get? a=Δ o)->h'.get? s.heap.objs.size=Δ {cls:=.type "list",dict:=Φ,data:=.seq (O.map θ).toArray C,slots:=#[]}->O.length=min X.size ys.size->O.Nodup->(∀(k:Nat) (T:Ω),O[k]? = Δ T->s.heap.objs.size < T/\∃x y,X[k]? = Δ x/\ys[k]? = Δ y/\IsPair h' T x y)->Q (.ref s.heap.objs.size) {s with heap:=h',toks:=f}) :
  Κ (Μ prog w) A (call (.type "list") [.ref z]) Q E s:=by
 let⟨a0,S,H⟩:=H;let L:z < s.heap.objs.size:=j_ hz;let r:TI < s.heap.objs.size:=j_ u;let n:TO < s.heap.objs.size:=j_ H;refine callType_codes (Q₁:=λobj v=>obj=.ref s.heap.objs.size/\v = {s with heap:=s.heap.push {cls:=.type "list",data:=.seq #[]}}) F.called_list (F.typeCall_list_1 _) F.entry_list_init
  (code_list_new _ ⟨rfl,rfl⟩) λobj v ON=>?_
 let⟨rfl,rfl⟩:=ON;let h:(s.heap.push {cls:=.type "list",data:=.seq #[]}).get? s.heap.objs.size=Δ {cls:=.type "list",data:=.seq #[]}:=A_ _ rfl;refine⟨⟨_,h,rfl⟩,F.args_list_init_2 _ _,?_⟩;show Κ _ _ (do let g <- Builtin.List.listItems (.ref s.heap.objs.size);Builtin.List.listUpdate (.ref s.heap.objs.size) (λ_=>#[]);letGo g.toList.reverse;Χ (.ref s.heap.objs.size) (.ref z) .none) _ _ _;refine b_ ?_;unfold Builtin.List.listItems;refine b_ (aad h rfl (f_ ?_));show Κ _ _ (updateSeq s.heap.objs.size (λ_=>#[]) >>= λ_=>letGo (#[]:Array Ψ).toList.reverse >>= λ_=>Χ (.ref s.heap.objs.size) (.ref z) .none) _ _ _;refine b_ (wpAny_updateSeq h rfl ?_);let Oa:=aaI (ι (λ_=>(#[]:Array Ψ))) h rfl;let N:∀b o,b≠s.heap.objs.size->s.heap.get? b=Δ o->((s.heap.push {cls:=.type "list",data:=.seq #[]}).update s.heap.objs.size (ι (λ_=>(#[]:Array Ψ)))).get? b=Δ o:=
  λb o G e=>(aat _ _ (Ne.symm G)).trans (m_ _ e)
 let VY:((s.heap.push {cls:=.type "list",data:=.seq #[]}).update s.heap.objs.size (ι (λ_=>(#[]:Array Ψ)))).objs.size=s.heap.objs.size+1:=((aaP ..).1).trans (W_ ..);refine b_ (wpAny_letGo ?_);refine tY (A:=A.in1) hh D .none _ (N _ _ (n_ L) hz) (N _ _ (n_ r) u) ⟨a0,S,N _ _ (n_ n) H⟩ (ci.to λo e=>N _ o (n_ ci.lt) e) (cj.to λo e=>N _ o (n_ cj.lt) e) (sl.to λo e=>N _ o (n_ sl.lt) e) (sm.to λo e=>N _ o (n_ sm.lt) e) Oa hn (U_ L) (U_ r) (U_ n) (U_ ci.lt) (U_ cj.lt) (U_ sl.lt) (U_ sm.lt) λh' f O C kp a1 Y W U=>?_;refine⟨rfl,I h' f O C (λa o R P M J e=>kp a o R P M J (n_ (j_ e)) (N a o (n_ (j_ e)) e)) a1 Y W λk T e=>?_⟩;let⟨c,B⟩:=U k T e;let c:((s.heap.push {cls:=.type "list",data:=.seq #[]}).update s.heap.objs.size (ι (λ_=>(#[]:Array Ψ)))).objs.size<=T:=c;rw[VY]at c;exact⟨c,B⟩
end L2.Zp
namespace L2
open PySem PySem.Spec PyProof.Rows
abbrev qo (H:Hp):List (Ω×HO)->Hp
 |[]=>H
 |p::L=>upd (qo H L) p.1 p.2
theorem rH:∀ {L:List (Ω×HO)},a∉L.map (·.1)->qo H L a=H a
 |[],_=>rfl
 |p::L,h=>by rw[a_,k_,not_or]at h;show upd (qo H L) p.1 p.2 a=_;rw[ik h.1,rH h.2]
theorem qr:∀ {L:List (Ω×HO)},(L.map (·.1)).Nodup->(a,o)∈L->qo H L a=Δ o
 |[],_,h=>by simp at h
 |p::L,nd,h=>by
  rw[a_,F_]at nd;show upd (qo H L) p.1 p.2 a=_;rcases k_.mp h with rfl|h
  ·exact iq
  ·have:a≠p.1:=λz=>nd.1 (z ▸ List.mem_map.mpr ⟨(a,o),h,rfl⟩);rw[ik this,qr nd.2 h]
def wX (h:qo H L a=Δ u)(n:H a=Φ):∃p∈L,p.1=a/\p.2=u:=by
 induction L with
 |nil=>rw[show qo H [] a=H a from rfl,n]at h;cases h
 |cons p L i=>
  let h:upd (qo H L) p.1 p.2 a=Δ u:=h;by_cases e:a=p.1
  ·rw[e,iq]at h;exact⟨p,.head _,e.symm,H_ h⟩
  ·rw[ik e]at h;let⟨q,b,c⟩:=i h;exact⟨q,.tail _ b,c⟩
def Inv.TK (I:Inv X p g H s)(k:∀b o,s.heap.get? b=Δ o->h'.get? b=Δ o)(S:∀b,b < s.heap.objs.size->H' b=H b)(new:∀b u,s.heap.objs.size<=b->H' b=Δ u->iR X.prog X.w H' h' b u):Inv X p g H' {s with heap:=h',toks:=t'}:=by
 let h:∀b u,H b=Δ u->H' b=Δ u:=λb u q=>by rw[S b (Nat.lt_of_not_le λz=>by rw[I.L1.fresh z]at q;cases q)];exact q
 refine I.step (g':=s.gens) (d':=s.drawn) (ch:=[]) (λb a=>by simp at a) (λb o _ _ f e _=>k b o e) (λb o _ _ f e _=>⟨o.slots,k b o e⟩) (λb o _ e n=>by rw[S b (j_ e)];exact n)
  (λb o f e=>⟨o,k b o e⟩) (λb x q=>h _ _ q) (λb u x q=>h _ _ q) (λb P q=>⟨#[],by rw[h _ _ q];simp⟩) (λm j=>?_) (λb u e=>?_) I.bare
 ·let⟨o,E,l,i,r⟩:=j;exact⟨o,E,l,k _ o i,r⟩
 ·by_cases a:s.heap.objs.size<=b
  ·exact new b u a e
  ·rw[S b (Nat.lt_of_not_le a)]at e;exact(I.L1 b u e).Nx (λc v f q=>k c v q) (λc q=>h _ _ q) λc x q=>h _ _ q
theorem rJ:∀a:Ì,Vals (a.map V.r) (a.map θ)
 |[]=>.nil
 |T::a=>.cons rfl (rJ a)
def HQ (K:Frag)(e:TA):TE:=λc H Q=>e c H λvs h=>∃p q l m X Y,vs=[.r l,.r m]/\Pl K h p l X/\Pl K h q m Y/\min X.length Y.length<=Ζ/\
 ∀(b:Ì) (A:Ω) (a:Hp),ir h a->h A=Φ->a A=Δ (.l (b.map V.r))->b.length=min X.length Y.length->(∀(k:Nat) (T:Ω),b[k]? = Δ T->∃x y,X[k]? = Δ x/\Y[k]? = Δ y/\a T=Δ (.t [x,y]))->Q (.r A) a
def Cd (hc:X.calm=Θ)(g1:Gl X "list") (m1:X.mg "list" = Φ) (hg:Gl X "zip") (hm:X.mg "zip" = Φ) (ha:PA X [a,b] ta) (hs:Ν [a,b] X.env=[(Ξ,eval a X.env),(Ξ,eval b X.env)]) (Oe:Ν [b] X.env=[(Ξ,eval b X.env)]) :
  PE X (.Call (.Name "list" p) [.Call (.Name "zip" p') [a,b] [] P] [] pos) (HQ X.K ta):=by
 intro A s σ H Q I h;refine aap (jP (u:=.type "list") I g1 m1 ∅ ?_ nofun nofun);refine aax ?_ rfl rfl;show Κ _ _ (spliced ((Ξ,eval (.Call (.Name "zip" p') [a,b] [] P) X.env)::backTo pos (Ν [] X.env))) _ _ s;refine Calls.spliced_cons ?_;refine Call_ (jP I hg hm boot_zip (aax (L4 (ha P A s σ H _ I h) λus S ⟨vs,H1,E,F,q1⟩=>?_) (by rw[hs,Oe]) (by rw[Oe];rfl)));let⟨k1,k2,l,m,i,Y,e,g1,g2,V1,q⟩:=q1;subst e;cases F with
 |cons r R=>
  cases R with
  |cons r' R=>
   cases R;cases r;cases r';let⟨OQ,Qc,J⟩:=E.SF g1;let⟨MH,Ob,G⟩:=E.SF g2;let l1:=J.lt;let l2:=G.lt;refine Zp.OP J G λj b1 b2 b3 b4 b5 b6 b7=>?_;refine Calls.spliced_nil ?_;let M:=Qc.length;let L:=Ob.length;let g:min OQ.toArray.size MH.toArray.size=min i.length Y.length:=by simp[M,L]
   refine Zp.N4 (s:={S with heap:=j}) (show X.A.handled=Φ from I.ok.hd hc) (rF _ l m l1 l2) b1 b2 ⟨_,_,b3⟩ b4 b5 (J.to λo e=>b7 _ o e) (G.to λo e=>b7 _ o e) (by rw[g];exact V1) λC tk f c' kp a1 a2 a3 a4=>?_;let a1:C.get? j.objs.size=Δ {cls:=.type "list",dict:=Φ,data:=.seq (f.map θ).toArray c',slots:=#[]}:=a1;let N:∀b o,S.heap.get? b=Δ o->C.get? b=Δ o:=λb o e=>by let lt:=j_ e;exact kp b o (n_ (E_ lt (aaz _ _))) (n_ (E_ lt (aaz _ _))) (n_ lt) (n_ (E_ lt (aaz _ _))) (b7 b o e)
   let tT:∀T∈f,j.objs.size < T:=λT hT=>by let⟨k,v⟩:=aao.mp hT;exact(a4 k T v).1
   let B:min OQ.toArray.size MH.toArray.size=f.length:=a2.symm;let lM:((i.zip Y).map λc:V×V=>HO.t [c.1,c.2]).length=f.length:=by rw[i_,List.length_zip,<- g,B]
   let n:((f.zip ((i.zip Y).map λc:V×V=>HO.t [c.1,c.2])).map (·.1))=f:=List.map_fst_zip (by rw[lM];exact o_ _);let O:∀(T:Ω) (o:HO),(T,o)∈f.zip ((i.zip Y).map λc:V×V=>HO.t [c.1,c.2])->∃(k:Nat) (x y:V),f[k]? = Δ T/\i[k]? = Δ x/\Y[k]? = Δ y/\o=.t [x,y]:=λT o hm=>by let⟨k,v⟩:=aao.mp hm;let⟨h1,j⟩:=List.getElem?_zip_eq_some.mp v;rw[D_]at j;let⟨c,h3,h4⟩:=aaO.mp j;let⟨h5,h6⟩:=List.getElem?_zip_eq_some.mp h3;exact⟨k,c.1,c.2,h1,h5,h6,h4.symm⟩
   let nd:(((j.objs.size,HO.l (f.map V.r))::f.zip ((i.zip Y).map λc:V×V=>HO.t [c.1,c.2])).map (·.1)).Nodup:=by rw[a_,n,F_];exact⟨λz=>aac _ (tT _ z),a3⟩
   let fresh:∀b,S.heap.objs.size<=b->H1 b=Φ:=λb w=>E.L1.fresh w;let hA:S.heap.objs.size<=j.objs.size:=by rw[b6];exact aaz _ _
   let Ss:∀b,b < S.heap.objs.size->qo H1 ((j.objs.size,HO.l (f.map V.r))::f.zip ((i.zip Y).map λc:V×V=>HO.t [c.1,c.2])) b=H1 b:=λb w=>rH (by
    rw[a_,n,k_,not_or]
    exact⟨n_ (E_ w hA),λz=>aac _ (E_ w (Q_ hA (Nat.le_of_lt (tT _ z))))⟩)
   let I2:=E.TK (t':=tk) N Ss λb u w hu=>by
    let⟨pr,hp,e1,e2⟩:=wX hu (fresh b w);subst e1 e2;rcases k_.mp hp with rfl|hp
    ·exact(show iR X.prog X.w _ C j.objs.size (.l (f.map V.r)) from⟨by rw[i_,<- B,g];exact V1,f.map θ,c',rJ f,a1⟩)
    ·let⟨T,o⟩:=pr;let⟨k,x,y,t1,t2,t3,rfl⟩:=O T o hp;let⟨_,u1,u2,u3,u4,u5⟩:=a4 k T t1;let⟨v1,hv1,F⟩:=Qc.get t2;let⟨v2,W,r2⟩:=Ob.get t3;rw[List.getElem?_toArray,hv1]at u3;rw[List.getElem?_toArray,W]at u4;cases u3;cases u4;exact(show iR X.prog X.w _ C T (.t [x,y]) from⟨by show 2<=Ζ;decide,[_,_],.cons F (.cons r2 .nil),⟨_,u5,rfl,_,rfl⟩⟩)
   refine⟨.r _,_,I2,rfl,q f j.objs.size _ (λb u e=>?_) (fresh _ hA) (qr nd (.head _)) (by rw[<- B,g]) λk T v=>?_⟩
   ·rw[Ss b (Nat.lt_of_not_le λz=>by rw[fresh b z]at e;cases e)];exact e
   ·let U:k < f.length:=(v_.mp v).1;let hx:k < i.length:=by rw[<- B,g]at U;exact E_ U (Nat.min_le_left ..)
    let hy:k < Y.length:=by rw[<- B,g]at U;exact E_ U (Nat.min_le_right ..)
    refine⟨i[k],Y[k],y_ hx,y_ hy,qr nd (.tail _ ?_)⟩;refine aao.mpr ⟨k,List.getElem?_zip_eq_some.mpr ⟨v,?_⟩⟩;rw[D_,show(i.zip Y)[k]? = Δ (i[k],Y[k]) from List.getElem?_zip_eq_some.mpr ⟨y_ hx,y_ hy⟩];rfl
end L2
namespace L2.Se
open PySem
structure Cut (xs:Array Nat)(j p:Nat):Prop where
 le:p<=xs.size
 lo:∀i x:Nat,i < p->xs[i]? = Δ x->x < j
 hi:∀i x:Nat,p<=i->xs[i]? = Δ x->j<=x
def Up (X:Array Nat):Prop:=∀i k x y:Nat,i < k->X[i]? = Δ x->X[k]? = Δ y->x < y
def ym (u:Up X):∀(F lo hi:Nat),hi<=lo+F->lo<=hi->hi<=X.size->(∀i x,i < lo->X[i]? = Δ x->x < j)->(∀i x,hi<=i->X[i]? = Δ x->j<=x)->Cut X j (SetTable.below.go X j F lo hi):=by
 intro F
 induction F with
 |zero=>
  intro lo hi m l c b H;let e:lo=hi:=⋯
  subst e;exact⟨c,b,H⟩
 |succ f I=>
  intro lo hi m l c b H;unfold SetTable.below.go;by_cases k:lo < hi
  ·rw[e_ k];let g:(lo+hi) / 2 < X.size:=⋯
   let e:X[(lo+hi) / 2]? = Δ X[(lo+hi) / 2]:=by simp[g]
   let E:X.getD ((lo+hi) / 2) j=X[(lo+hi) / 2]:=by simp[Array.getD,g]
   dsimp only;rw[E];by_cases h:X[(lo+hi) / 2] < j
   ·rw[e_ h];refine I _ _ ⋯ ⋯ c (λi x O a=>?_) H;by_cases z:i=(lo+hi) / 2
    ·subst z;rw[e]at a;cases a;exact h
    ·exact Nat.lt_trans (u i _ x _ ⋯ a e) h
   ·rw[d_ h];refine I _ _ ⋯ ⋯ ⋯ b (λi x O a=>?_);by_cases z:i=(lo+hi) / 2
    ·subst z;rw[e]at a;cases a;omega
    ·have:=u _ i _ x ⋯ e a;omega
  ·rw[d_ k];let e:lo=hi:=⋯
   subst e;exact⟨c,b,H⟩
def mS (u:Up X)(j:Nat):Cut X j (SetTable.below X j):=
 ym u X.size 0 X.size ⋯ (aaa _) (o_ _) (λi x h=>absurd h (Nat.not_lt_zero i)) (λi x h H=>by
  have:=(Array.getElem?_eq_some_iff.mp H).1
  omega)
def Ce (b:p<=X.size)(i:Nat):(SetTable.insertAt X p x)[i]? = if i < p then X[i]? else if i=p then Δ x else X[i - 1]?:=by
 rw[<- aay,SetTable.toList_insertAt];by_cases h:i < p
 ·rw[e_ h,aaH (by simp;omega),List.getElem?_take,e_ h,aay]
 ·rw[d_ h,aaS (by simp;omega)];let a:(X.toList.take p).length=p:=by simp;omega
  rw[a];by_cases H:i=p
  ·subst H;rw[e_ rfl,Nat.sub_self];rfl
  ·rw[d_ H];obtain⟨k,rfl⟩:∃k,i=p+k+1:=⟨i - p - 1,⋯⟩
   rw[show p+k+1 - p=k+1 by omega,aaU,List.getElem?_drop,aay];rfl
def Fg (u:Up X)(c:Cut X j p)(hn:X[p]?≠Δ j):Up (SetTable.insertAt X p j):=by
 intro i k x y q H h;rw[Ce c.le]at H h;let U:∀m z,p<=m->X[m]? = Δ z->j < z:=λm z n a=>by
  let s:=c.hi m z n a;by_cases e:m=p
  ·subst e;have:j≠z:=λe=>hn (by rw[a,e]);omega
  ·let M:m < X.size:=(Array.getElem?_eq_some_iff.mp a).1;let l:p < X.size:=⋯
   let E:X[p]? = Δ X[p]:=by simp[l]
   let r:=c.hi p _ (o_ _) E;have:=u p m _ z ⋯ E a;omega
 by_cases A:i < p
 ·rw[e_ A]at H;let b:=c.lo i x A H;by_cases f:k < p
  ·rw[e_ f]at h;exact u i k x y q H h
  ·rw[d_ f]at h;by_cases B:k=p
   ·rw[e_ B]at h;cases h;exact b
   ·rw[d_ B]at h;have:=U (k - 1) y ⋯ h;omega
 ·rw[d_ A]at H;by_cases g:i=p
  ·rw[e_ g]at H;cases H;rw[d_ ⋯,d_ ⋯]at h;exact U (k - 1) y ⋯ h
  ·rw[d_ g]at H;rw[d_ ⋯,d_ ⋯]at h;exact u (i - 1) (k - 1) x y ⋯ H h
def yn (n:Nat):Up (Array.range n):=by intro i k x y h a H;let⟨c,E⟩:=Array.getElem?_eq_some_iff.mp a;let⟨b,e⟩:=Array.getElem?_eq_some_iff.mp H;simp at E e;omega
structure Tb (led:Bool)(t:SetTable):Prop where
 up:Up t.place
 dm:t.dummies = #[]
 ld:t.led=led
def tZ {t:SetTable}  (h:t.slot j=.empty):t.place[SetTable.below t.place j]?≠Δ j:=by intro e;unfold SetTable.slot at h;dsimp only at h;rw[e_ (by rw[e];exact beq_self_eq_true _)]at h;cases h
def has_none (j:Nat):SetTable.has #[] j=Ξ:=by unfold SetTable.has;rw[show(#[]:Array Nat)[SetTable.below #[] j]? = Φ by simp];rfl
def t5 {t:SetTable}(hd:t.dummies = #[])(j:Nat):t.slot j≠.dummy:=by
 intro h;unfold SetTable.slot at h;dsimp only at h;rw[hd,has_none]at h;split at h
 ·cases h
 ·rw[d_ p_]at h;cases h
def wY (t:SetTable)(p:SetTable.Probe):(t.advance p).dummy=p.dummy:=by unfold SetTable.advance;split<;>rfl
def yo (hd:t.dummies = #[])  (hh:∀i,(f i == h)=Ξ):∀(F:Nat) (p:SetTable.Probe) (m:SetTable.Met),p.dummy=Φ->SetTable.probe.go t f h F p=Δ m->∃j,m=.empty j Φ/\t.slot j=.empty:=by
 intro F
 induction F with
 |zero=>intro p m _ e;cases e
 |succ n I=>
  intro p m a e;unfold SetTable.probe.go at e;cases H:t.slot p.j with
  |empty=>rw[H]at e;dsimp only at e;rw[a]at e;cases e;exact⟨_,rfl,H⟩
  |dummy=>exact absurd H (t5 hd _)
  |live i=>rw[H]at e;dsimp only at e;rw[hh,d_ p_]at e;exact I _ m (by rw[wY];exact a) e
def wZ {t:SetTable}(hd:t.dummies = #[])  (e:t.freeSlot h=Δ (j,b)):t.slot j=.empty/\b=Ξ:=by
 unfold SetTable.freeSlot at e;cases q:t.probe (λ_=>h+1) h (t.probeStart h) with
 |none=>rw[q]at e;cases e
 |some m=>let⟨J,rfl,H⟩:=yo hd (f:=λ_=>h+1) (h:=h) (λi=>by rw[beq_eq_false_iff_ne];omega) _ _ m rfl q;rw[q]at e;cases e;exact⟨H,rfl⟩
def mq (T:Tb l t)(n:Nat):Tb l (t.standIn n):=⟨yn n,rfl,T.ld⟩
def HR (T:Tb l t)(n:Nat):Tb l (t.orStandIn n):=by
 unfold SetTable.orStandIn;split
 ·exact T
 ·exact mq T n
def Fh (T:Tb l t)  (hs:t.slot j=.empty):Tb l (t.put j).1:=by refine⟨Fg T.up (mS T.up j) (tZ hs),?_,T.ld⟩;show(if SetTable.has t.dummies j then _ else t.dummies) = #[];rw[T.dm,has_none];rfl
def Fi (T:Tb l t)(e:Array (Int×Ψ))(h:Int)(x:Ψ):Tb l (layNew t e h x).2.1:=by
 unfold layNew;cases q:t.freeSlot h with
 |none=>exact mq T _
 |some p=>let⟨j,b⟩:=p;exact HR (Fh T (wZ T.dm q).1) _
@[reducible]def _root_.Ç:=List Nat
def yp (o:Nat->Â)(l:Ç):((l.filterMap λj=>(o j).map (j,·)).map (·.1))=l.filter λj=>(o j).isSome:=by
 induction l with
 |nil=>rfl
 |cons a l i=>
  rw[List.filterMap_cons,List.filter_cons];cases o a with
  |none=>simpa using i
  |some b=>simpa using i
def Cf {l:Ç}(h:l.Pairwise (· < ·)):Up l.toArray:=by
 intro i k x y z a H;let N:l[i]? = Δ x:=by simpa using a
 let R:l[k]? = Δ y:=by simpa using H
 let⟨c,E⟩:=v_.mp N;let⟨b,e⟩:=v_.mp R;have:=List.pairwise_iff_getElem.mp h i k c b z;omega
def Cg {plain:Bool}(e:SetTable.laid m f M l plain hs=Δ (t,o)):Tb l t:=by
 unfold SetTable.laid at e;cases q:SetTable.layClean m hs with
 |none=>rw[q]at e;cases e
 |some ow=>rw[q]at e;let E:=H_ e;cases E;refine⟨?_,rfl,rfl⟩;show Up (List.toArray (List.map _ (List.filterMap _ _)));rw[yp];exact Cf (List.Pairwise.sublist List.filter_sublist List.pairwise_lt_range)
def yq (T:Tb l t)(e:Array (Int×Ψ))(n:Nat):Tb l (relayAll t e n).2.1:=by
 unfold relayAll;cases q:t.relaid (e.map (·.1)) n with
 |none=>exact mq T _
 |some p=>
  let⟨a,o⟩:=p;dsimp only;split
  ·have:=Cg q;rw[T.ld]at this;exact this
  ·exact mq T _
def yr (T:Tb l t)(b:Bool):Tb l {t with plain:=b}:=⟨T.up,T.dm,T.ld⟩
def yu (f m:Nat)(l:Bool):Tb l (SetTable.fresh f m l):=⟨λi k x y _ h=>by simp[SetTable.fresh]at h,rfl,rfl⟩
open PyProof.Rows
structure Ky (prog:Ε)(w:Β)(α:Type) [DecidableEq α] where
 knd:PySem.KeyKind prog w α
 mv:α->Tok->Ψ
 is:∀k t,knd.is k (mv k t)=Θ
 sc:∀k t,(mv k t).scannable=Θ
inductive Ar {α:Type}(mk:α->Tok->Ψ):Í->List α->Prop
 | nil:Ar mk [] []
 | cons (n:α) (t:Tok) {vs:Í}{ns:List α}:Ar mk vs ns->Ar mk (mk n t::vs) (n::ns)
theorem Ar.length (h:Ar mk vs ns):vs.length=ns.length:=by
 induction h with
 |nil=>rfl
 |cons _ _ _ i=>rw[List.length_cons,List.length_cons,i]
theorem Ar.at [Inhabited a]  : ∀ {vs:Í}{ns:List a},Ar mk vs ns->∀(i:Nat) (v:Ψ),vs[i]? = Δ v->∃t,v=mk (ns.getD i default) t
 |_,_,.nil,i,v,h=>by simp at h
 |_,_,.cons n t H,0,v,h=>by simp at h;exact⟨t,by rw[<- h];rfl⟩
 |_,_,.cons n t H,i+1,v,h=>by simp only[aaU]at h;let⟨b,e⟩:=Ar.at H i v h;exact⟨b,by rw[e];rfl⟩
section
variable {prog:Ε}{w:Β}{α:Type} [DecidableEq α] [Inhabited α]{ky:Ky prog w α}{A:Ι}{E:Ö}{s:Α}
noncomputable abbrev vals (e:Array (Int×Ψ)):Í:=e.toList.map (·.2)
structure M1 {prog:Ε}{w:Β}{α:Type} [DecidableEq α](ky:Ky prog w α)(led:Bool)(σ:List α)(o:Obj)(es:Array (Int×Ψ))(ep:Nat)(t:SetTable):Prop where
 ex:o.ExactSet
 da:o.data=.set es ep t
 el:ElemsOf ky.knd es.toList
 sb:es.size < scanBound
 fi:t.fits es.size=Θ
 tb:Tb led t
 pm:∃ks,Ar ky.mv (vals es) ks/\ks.Perm σ
def kI {prog:Ε}{w:Β}{α:Type} [DecidableEq α](ky:Ky prog w α)(h:Heap)(a:Ω)(l:Bool)(b:List α):Prop:=∃o e c t,h.get? a=Δ o/\M1 ky l b o e c t
def mr (p:z.Perm vs)(h:Ar ky.mv vs ks):∃M,Ar ky.mv z M/\M.Perm ks:=by
 induction p generalizing ks with
 |nil=>exact⟨ks,h,.refl _⟩
 |cons x _ I=>
  cases h with
  |cons n t h=>let⟨M,a,H⟩:=I h;exact⟨n::M,.cons n t a,.cons n H⟩
 |swap x y l=>
  cases h with
  |cons n t h=>
   cases h with
   |cons m u h=>exact⟨m::n::_,.cons m u (.cons n t h),.swap n m _⟩
 |trans _ _ i Q=>let⟨f,e,B⟩:=Q h;let⟨k,c,b⟩:=i e;exact⟨k,c,b.trans B⟩
def yy (h:Ar ky.mv vs ks):Ar ky.mv (vs++[ky.mv k t]) (ks++[k]):=by
 induction h with
 |nil=>exact .cons k t .nil
 |cons n u _ i=>exact .cons n u i
def yz {a:List (Int×Ψ)}  (h:Ar ky.mv (a.map (·.2)) ks):a.any (λe=>ky.knd.is k e.2)=ks.any (· == k):=by
 induction a generalizing ks with
 |nil=>cases h;rfl
 |cons e a i=>
  let⟨c,v⟩:=e;cases h with
  |cons n t h=>
   rw[List.any_cons,List.any_cons,i h,KeyKind.is_eq_decide (ky.is n t) k];congr 1;by_cases q:k=n
   ·subst q;simp
   ·simp[q,show ¬n=k from λz=>q z.symm]
def store {h:Heap}  (H:h.get? a=Δ o)(D:M1 ky l c o f b t)
  (el:ElemsOf ky.knd es'.toList) (sb:es'.size < scanBound) (fi:t'.fits es'.size=Θ) (tb:Tb l t') (pm:∃ks,Ar ky.mv (vals es') ks/\ks.Perm L) :
  (h.update a (Obj.putSet es' t')).get? a=Δ {o with data:=.set es' (b+1) t'}/\M1 ky l L {o with data:=.set es' (b+1) t'} es' (b+1) t':=
 ⟨(SetOf_store (knd:=ky.knd) (S':=λk=>es'.toList.any λe=>ky.knd.is k e.2) H D.ex D.da el (λk=>by rw[List.any_eq_true]) sb fi).1,D.ex,rfl,el,sb,fi,tb,pm⟩
def rK {a:Ω}{l:Bool}{k L:List α}{o:Obj}{y M:Array (Int×Ψ)}{z:Nat}{t c:SetTable}{b:Bool}{g:Bool->Sem Unit}(v:∀(b:Bool)(i:Α)(Q:Unit->Α->Prop),Q () i->Κ (Μ prog w) A (g b) Q E i)
  (H:s.heap.get? a=Δ o) (D:M1 ky l k o y z t) (el:ElemsOf ky.knd M.toList) (sb:M.size < scanBound) (fi:c.fits M.size=Θ) (tb:Tb l c) (pm:∃ks,Ar ky.mv (vals M) ks/\ks.Perm L)
  {R:Option Bool->Α->Prop} (h:∀h',Heap.SameBut a s.heap h'->kI ky h' a l L->R (Δ Θ) {s with heap:=h'}) :
  Κ (Μ prog w) A (do
    storeSet a M c
    if(!b&&c.tooFull)=Θ then do
      g (relayAll c M (SetTable.grown M.size)).2.2
      storeSet a (relayAll c M (SetTable.grown M.size)).1 (relayAll c M (SetTable.grown M.size)).2.1
      pure (Δ Θ)
     else pure (Δ Θ)) R E s:=by
 let⟨G,j⟩:=store H D el sb fi tb pm;let B:=aaP s.heap a (Obj.putSet M c);refine b_ (wpAny_storeSet_of H D.da ?_ (fits_of_scanBound sb));split
 ·let p:=relayAll_perm c M (SetTable.grown M.size);let f:=relayAll_fits c M (SetTable.grown M.size);let u:=yq tb M (SetTable.grown M.size);generalize relayAll c M (SetTable.grown M.size)=Z at p f u ⊢;let⟨e,I,J⟩:=Z;dsimp only at p f u ⊢;let sz:e.size=M.size:=by rw[<- T_,p.length_eq,T_]
  let S:e.size < scanBound:=by rw[sz];exact sb
  let⟨ks,r,q⟩:=pm;let⟨C,n,m⟩:=mr (p.map (·.2)) r;let⟨x,F⟩:=store G j (el.perm p) S f u ⟨C,n,m.trans q⟩;refine b_ (v _ _ _ (b_ (wpAny_storeSet_of G rfl ?_ (fits_of_scanBound S))));exact f_ (h _ (B.trans (aaP _ a _)) ⟨_,_,_,_,x,F⟩)
 ·exact f_ (h _ B ⟨_,_,_,_,G,j⟩)
def add_int (hS:kI ky s.heap a l f)(X:f.length+1 < scanBound)
  (h:∀h',Heap.SameBut a s.heap h'->kI ky h' a l (step_dedup f k)->∀b,Q b {s with heap:=h'}) :
  Κ (Μ prog w) A (setAddHashed a (ky.mv k c) (ky.knd.hash k)) Q E s:=by
 let⟨o,g,ep,t,i,D⟩:=hS;let⟨ks,G,C⟩:=D.pm;let R:g.size=ks.length:=by have:=Ar.length G;rw[i_,T_]at this;exact this
 let O:g.toList.any (λe=>ky.knd.is k e.2)=f.any (· == k):=(yz G).trans (C.any_eq);unfold setAddHashed setAddHashedIn;refine L_ (b_ (wpAny_setState_of i D.da D.fi ?_));dsimp only;rw[byScan_of (x:=ky.mv k c) (ky.sc k c) D.sb D.el,e_ rfl];unfold setAddByScan;refine b_ (b_ (wpAny_rule (b_ (wpAny_setScan_of (ky.is k c) i D.da D.fi D.el ?_))));cases H:List.findIdx? (λe=>ky.knd.is k e.2) g.toList with
 |some j=>
  dsimp only;let⟨Y,I,_⟩:=List.findIdx?_eq_some_iff_getElem.mp H;let NZ:f.any (· == k)=Θ:=by rw[<- O,List.any_eq_true];exact⟨_,aau Y,I⟩
  let J:step_dedup f k=f:=by unfold step_dedup;rw[e_ NZ]
  refine f_ (f_ ?_);let z:=h s.heap (Heap.SameBut.refl a s.heap) (by rw[J];exact⟨o,g,ep,t,i,D⟩) Ξ;cases s;exact z
 |none=>
  dsimp only;let ZN:f.any (· == k)=Ξ:=by rw[<- O,List.any_eq_false];intro e he;have:=List.findIdx?_eq_none_iff.mp H e he;rw[this];exact p_
  let J:step_dedup f k=f++[k]:=by unfold step_dedup;rw[d_ (by rw[ZN];exact p_)]
  let p:=layNew_perm t g (ky.knd.hash k) (ky.mv k c);let n:=layNew_fits t g (ky.knd.hash k) (ky.mv k c);let u:=Fi D.tb g (ky.knd.hash k) (ky.mv k c);generalize layNew t g (ky.knd.hash k) (ky.mv k c)=L at p n u ⊢;let⟨M,t1,wd,gv⟩:=L;dsimp only at p n u ⊢;rw[Array.toList_push]at p;let q:ElemsOf ky.knd M.toList:=(D.el.push (ky.is k c) (ky.sc k c)).perm p;let B:M.size=g.size+1:=by rw[<- T_,p.length_eq,q_,T_];rfl
  let S:M.size < scanBound:=by rw[B,R,C.length_eq];exact X
  let P:∃y,Ar ky.mv (vals M) y/\y.Perm (step_dedup f k):=by let⟨y,W,U⟩:=mr (p.map (·.2)) (by rw[I_];exact yy (k:=k) (t:=c) G);exact⟨y,W,U.trans (by rw[J];exact C.append_right _)⟩
  refine b_ ((show ∀(b:Bool) (v:Α) (r:Unit->Α->Prop),r () v->Κ (Μ prog w) A (match b with|true=>rule "set.scan.the-table-gave-way" |false=>pure ()) r E v from λb v r H=>by induction b using zB<;>first|exact f_ H|exact wpAny_rule H) _ _ _ ?_);let F:∀h',Heap.SameBut a s.heap h'->kI ky h' a l (step_dedup f k)->Κ (Μ prog w) A (pure Θ) Q E {s with heap:=h'}:=λh' m N=>f_ (h h' m N Θ);split
  ·rw[hashByValue_scannable 8 (x:=ky.mv k c) (ky.sc k c)];refine b_ (f_ (rK ?_ i D q S ?_ ?_ P λh' m N=>?_))
   ·intro b v r H;induction b using zB<;>first|exact f_ H|exact wpAny_rule H
   ·split
    ·exact n
    ·exact SetTable.fits_plain_off n
   ·split
    ·exact u
    ·exact yr u _
   ·exact F h' m N
  ·refine b_ (f_ ?_);rw[e_ rfl];refine rK ?_ i D q S n u P λh' m N=>F h' m N;intro b v r H;induction b using zB<;>first|exact f_ H|exact wpAny_rule H
end
noncomputable abbrev i8 (w:Β):Bool:=w.params.followText "set-order"
section
variable {prog:Ε}{w:Β}{c:Type} [DecidableEq c] [Inhabited c]{ky:Ky prog w c}{A:Ι}{E:Ö}{s:Α}{R:Result->Α->Prop}{I:Ω}{j f:Ì}{G:Array GenState->Array GenState->Prop}{n:Nat}{P:Nat->Ψ->Prop}{St:Nat->Α->Prop}
def kI.moved (e:kI ky h a l b)(k:∀o,h.get? a=Δ o->h'.get? a=Δ o):kI ky h' a l b:=by let⟨o,g,i,t,H,D⟩:=e;exact⟨o,g,i,t,k o H,D⟩
def MY (l:List c):∀a:List c,(l.foldl step_dedup a).length<=a.length+l.length:=λa=>foldl_step_dedup_length_le a l
def loop (W:WalksS prog w A.in1 I j f G n P St)(a:Ω)(r:a∉j){l:Bool}{ns:List c}(y:∀i v,P i v->∃t,v=ky.mv (ns.getD i default) t)(hn:ns.length=n)(m:n+1 < scanBound) :
  ∀(k i:Nat) (s:Α),n - i=k->i<=n->St i s->kI ky s.heap a l ((ns.take i).foldl step_dedup [])->
   (∀S,Moved (a::f) G s S->kI ky S.heap a l (ns.foldl step_dedup [])->R (.ok (.ret .none)) S)->
   codeAny (Μ prog w) A (.builtin "set.update.loop" ⟨[.ref a,.ref I],[]⟩) R s:=by
 let g:a∉f:=λz=>r (W.sub _ z);let sub:∀b∈f,b∈a::f:=λb z=>J_ _ z;intro k
 induction k with
 |zero=>
  intro i s B hi L p q;let e:i=n:=⋯
  subst e;rw[<- hn,List.take_length]at p;refine codeAny_builtin F.entry_set_update_loop ?_;rw[aaT F.plain_set_update_loop _];show Κ _ A.in1 (pyNext (.ref I) >>= _) _ _ s;exact b_ (W.done s _ _ L λS h=>show Κ _ A.in1 (ret Value.none) _ _ S from f_ (q S (h.mono sub) (p.moved λo e=>h.heap a o g e)))
 |succ k x=>
  intro i s B hi L p q;let M:i < n:=⋯
  refine codeAny_builtin F.entry_set_update_loop ?_;rw[aaT F.plain_set_update_loop _];show Κ _ A.in1 (pyNext (.ref I) >>= _) _ _ s;refine b_ (W.item i s _ _ M L λv S C Me h=>?_);let⟨t,rfl⟩:=y i v C;let Q:kI ky S.heap a l ((ns.take i).foldl step_dedup []):=p.moved λo e=>h.heap a o g e;show Κ _ A.in1 (holding [ky.mv (ns.getD i default) t] (setAdd a (ky.mv (ns.getD i default) t)) >>= _) _ _ S;unfold setAdd;refine b_ (L_ (L_ (b_ (ky.knd.pyHash (ky.is _ _) ?_))));let H:=MY (ns.take i) [];rw[aaG,List.length_nil]at H;refine add_int (s:={S with toks:=S.toks+1}) Q ⋯ λh' u X b=>?_;let J:(ns.take (i+1)).foldl step_dedup []=step_dedup ((ns.take i).foldl step_dedup []) (ns.getD i default):=by
   let O:i < ns.length:=⋯
   rw[List.take_succ,List.foldl_append,y_ O,aam,y_ O];rfl
  rw[<- J]at X;refine f_ ⟨plainId_quiet F.plain_set_update_loop _,x (i+1) _ ⋯ M (W.frame _ S _ _ Me (Nat.le_succ _) λb m o e=>?_) X λY U N=>?_⟩
  ·rw[u.2 b λz=>r (z ▸ m)];exact e
  ·refine q Y (Moved.trans W.gtrans ((h.mono sub).then_heap (Nat.le_succ _) λb o m e=>?_) U) N;rw[u.2 b λz=>m (z ▸ aaR)];exact e
def yB (x:Ψ)  (h:Q1 (.ref s.heap.objs.size) {s with heap:=s.heap.push {cls:=.type "set",dict:=Φ,data:=.set #[] 0 (.fresh 0 0 (!i8 w))}}) :
  codeAny (Μ prog w) A (.call (.builtin "set.__new__") ⟨[.type "set",x],[]⟩) (wants Q1 E) s:=by
 refine codeAny_of_tree (show Κ _ A.in1 (do checkBuiltinCall "set.__new__" ⟨[.type "set",x],[]⟩;again (.builtin "set.__new__" ⟨[.type "set",x],[]⟩)) _ _ s from b_ (wpAny_of_eq (F.newCall_set_1 x) (f_ ⟨plainId_quiet F.plain_set_new _,codeAny_builtin F.entry_set_new ?_⟩)));rw[aaT F.plain_set_new _];unfold Builtin.«set.__new__» Builtin.Frozenset.newClass;let hs1:=sub_set_self;let⟨hp,g,d,tk,os⟩:=s;dsimp only
 wp_walk
 refine wpAny_askSetting (f_ ?_);dsimp only;simp only[newObj];exact b_ (wpAny_alloc (f_ (f_ h)))
end
section
variable {prog:Ε}{w:Β}{a:Type} [DecidableEq a] [Inhabited a]{ky:Ky prog w a}{A:Ι}{E:Ö}{s:Α}
noncomputable abbrev oS (w:Β):Obj:={cls:=.type "set",dict:=Φ,data:=.set #[] 0 (.fresh 0 0 (!i8 w))}
def w8 (h:Heap):kI ky (h.push (oS w)) h.objs.size (!i8 w) []:=
 ⟨_,#[],0,_,A_ _ rfl,⟨rfl,rfl,rfl⟩,rfl,λe H=>by simp at H, nofun,rfl,yu _ _ _,[],.nil,.refl _⟩
def yC {l:Ω}{items:Array Ψ}{ns:List a}{Q:Ö}(hh:A.handled=Φ)(hl:s.heap.IsList l items)(hi:Ar ky.mv items.toList ns)(hb:items.size+1 < scanBound)
  (h:∀(h':Heap) (tk:Nat),kI ky h' s.heap.objs.size (!i8 w) (ns.foldl step_dedup [])->(∀b o,b < s.heap.objs.size->s.heap.get? b=Δ o->h'.get? b=Δ o)->Q (.ref s.heap.objs.size) {s with heap:=h',toks:=tk}) :
  Κ (Μ prog w) A (call (.type "set") [.ref l]) Q E s:=by
 let⟨c,tl,mro⟩:=F.called_set.mro;let made:=F.called_set.made;let sub:=F.called_set.sub;refine wpAny_call (codeAny_of_tree (show Κ _ _ (callAny (.type "set") _) _ _ _ from f_ ⟨Code.quiet_builtin _ ∅,codeAny_builtin F.entry_type_call ?_⟩));rw[Around.under_plain (weight_type_call_type "set" [.ref l] []) rfl];let n1:=F.called_set.notType;let n2:=F.called_set.canCreate;let n3:=F.typeCall_set_1 (.ref l)
 repeat (any_goals (first|assumption|wp_step))
 refine codeAny_mono (yB (.ref l) (E:=E) (Q1:=λobj s1=>obj=.ref s.heap.objs.size/\s1 = {s with heap:=s.heap.push (oS w)}) ⟨rfl,rfl⟩) λr s1 hr=>?_;cases r with
 |error e=>exact hr
 |ok fl=>
  cases fl with
  |ret obj=>
   let⟨rfl,rfl⟩:=hr;let gS:(s.heap.push (oS w)).get? s.heap.objs.size=Δ (oS w):=A_ _ rfl;let hT:Shared.TypeIs {s with heap:=s.heap.push (oS w)} (.ref s.heap.objs.size) "set":=⟨_,gS,rfl⟩
   let i1:=F.called_set.init.lookup;let i2:=F.called_set.init.bind (.ref s.heap.objs.size)
   repeat (any_goals (first|assumption|wp_step))
   refine codeAny_mono (codeAny_call_builtin (R:=wants (λr s2=>r=.none/\∃h' tk,s2 = {s with heap:=h',toks:=tk}/\kI ky h' s.heap.objs.size (!i8 w) (ns.foldl step_dedup [])/\
     (∀b o,b < s.heap.objs.size->s.heap.get? b=Δ o->h'.get? b=Δ o)) E) F.called_set.init.plain F.entry_set_init (check_set_init_1 hT ?_)) λr2 s2 ZQ=>?_
   ·let⟨ol,hol,V4,nl,hdl⟩:=hl;let⟨afa,V5,acJ,TN⟩:=ol;simp only at V4 hdl;subst V4;subst hdl;let ZT:(s.heap.push (oS w)).get? l=Δ {cls:=.type "list",dict:=V5,data:=.seq items nl,slots:=TN}:=m_ _ hol;let w1:=F.sub_list_set;let w2:=F.sub_list_frozenset;let w3:(Value.type "list" == Value.type "dict")=Ξ:= nofun
    let Q8:(s.heap.push (oS w)).IsList l items:=⟨_,ZT,rfl,nl,rfl⟩
    unfold Builtin.«set.__init__» noKeywords Builtin.Frozenset.updateFrom;generalize hPI:pyIter=PI
    wp_walk
    subst hPI;refine aaL Q8 (b_ (wpAny_runValue ?_));let lS:l < s.heap.objs.size:=j_ hol;let nI:l≠(s.heap.push (oS w)).objs.size:=by rw[W_];exact n_ (Nat.lt_succ_of_lt lS)
    let aS:s.heap.objs.size∉[(s.heap.push (oS w)).objs.size,l]:=by
     rw[W_];intro z;rcases k_.mp z with z|z
     ·exact n_ (Nat.lt_succ_self _) z
     ·exact U_ lS (r_.mp z)
    let hlen:ns.length=items.size:=by have:=Ar.length hi;rw[T_]at this;exact this.symm
    refine loop ((Walks.list (show A.in1.in1.in1.handled=Φ by simp[hh]) _ l nI items).toS) s.heap.objs.size aS (ns:=ns) (λi v hv=>Ar.at hi i v (by rw[aay];exact hv)) hlen hb (items.size - 0) 0 _ ⋯ (aaa _)
     ⟨⟨_,A_ _ rfl,rfl,rfl⟩,(Q8.push _)⟩ ((w8 s.heap).moved λo e=>m_ _ e) ?_
    intro s' hm Nu;let⟨h',g',d',ZU,Zh⟩:=s';let eg:g'=s.gens:=hm.gens;let ed:d'=s.drawn:=hm.drawn;let eo:Zh=s.os:=hm.os;subst eg ed eo;show Κ _ _ _ _ _ _;refine f_ (show Κ _ _ (ret Value.none) _ _ _ from f_ ⟨rfl,h',ZU,rfl,Nu,λb o hb e=>?_⟩);refine hm.heap b o (λz=>?_) (m_ _ (m_ _ e));rcases k_.mp z with z|z
    ·exact n_ hb z
    ·have:=r_.mp z;rw[W_]at this;exact n_ (Nat.lt_succ_of_lt hb) this
   ·cases r2 with
    |error e=>exact ZQ
    |ok fl2=>
     cases fl2 with
     |ret r=>
      let⟨rfl,h',tk,rfl,Nu,RK⟩:=ZQ
      repeat (any_goals (first|assumption|wp_step))
      exact h _ _ Nu RK
     |_=>exact ZQ.elim
  |_=>exact hr.elim
end
def iC:Slot "set_iterator" "__next__" "set_iterator.__next__":=.of (owner:="set_iterator") (n:="__next__")
 (by rw[typeLookup_type,builtinLookup_eq_fast];kernel_rfl) ∅ ∅ ∅ (by first|exact .inl ∅|exact .inr ∅) (by rw[isSubtype_type];kernel_rfl)
def lE:Slot "set_iterator" "__iter__" "set_iterator.__iter__":=.of (owner:="set_iterator") (n:="__iter__")
 (by rw[typeLookup_type,builtinLookup_eq_fast];kernel_rfl) ∅ ∅ ∅ (by first|exact .inl ∅|exact .inr ∅) (by rw[isSubtype_type];kernel_rfl)
def jv:entryFor table "set_iterator.__next__" = Δ Builtin.«set_iterator.__next__»:=entryFor_of_tree (by kernel_rfl)
def jJ (a:Ψ):argsOk "set_iterator.__next__" ⟨[a],[]⟩:=by unfold argsOk;kernel_rfl
def qt:entryFor table "set.__iter__" = Δ Builtin.«frozenset.__iter__»:=
 entryFor_alias (id':="frozenset.__iter__") (by kernel_rfl) (by first|rfl|decide +kernel|(unfold String.splitOn;simp +decide [String.splitOnAux])) ∅ (by kernel_rfl)
section
variable {prog:Ε}{w:Β}{b:Type} [DecidableEq b] [Inhabited b]{ky:Ky prog w b}{A:Ι}{E:Ö}{s:Α}
noncomputable abbrev QL (first:Ψ)(i n:Nat)(a:Ω)(e:Nat):Obj:={cls:=.type "set_iterator",data:=.fields #[first,rawInt i,.ref a,rawInt n,rawInt e]}
def nB (h:Q (i8 w) s):Κ (Μ prog w) A setsByText Q E s:=by unfold setsByText;exact b_ (wpAny_askSetting (f_ h))
def xb {a:Ω}{f:List b}{o:Obj}{e:Array (Int×Ψ)}{c:Nat}{t:SetTable}{l:Bool}{Q:Array (Int×Ψ)->Α->Prop}(g:i8 w=Θ)(H:s.heap.get? a=Δ o)(D:M1 ky l f o e c t)
  (h:Q (pickOrder (w.params.setOrder a c) e) s):Κ (Μ prog w) A (setWalk a) Q E s:=by
 unfold setWalk;refine b_ (wpAny_setState_of H D.da D.fi ?_);dsimp only;refine b_ (nB ?_);rw[g,e_ rfl];exact b_ (wpAny_askSetting (f_ h))
def pP {a:Ω}{j:List b}{o:Obj}{g:Array (Int×Ψ)}{c slot i:Nat}{t:SetTable}{l:Bool}{Q:Option (Ψ×Nat)->Α->Prop}(f:i8 w=Θ)(H:s.heap.get? a=Δ o)(D:M1 ky l j o g c t)
  (h:Q (((pickOrder (w.params.setOrder a c) g)[i]?).map λe=>(e.2,slot)) s):Κ (Μ prog w) A (setNext a slot i c) Q E s:=by
 unfold setNext;refine b_ (wpAny_setState_of H D.da D.fi ?_);dsimp only;refine b_ (nB ?_);rw[f,e_ rfl];rw[d_ (by rw[bne_self_eq_false];exact p_)];exact b_ (xb f H D (f_ h))
def n8 {a:Ω}{f:List b}{o:Obj}{e:Array (Int×Ψ)}{c slot i:Nat}{t:SetTable}{Q:Option (Ψ×Nat)->Α->Prop}(H:i8 w=Ξ)(g:s.heap.get? a=Δ o)(D:M1 ky (!i8 w) f o e c t)
  (hd:(!t.plain&&decide (e.size > 1))=Ξ)
  (h:Q (match e[SetTable.below t.place slot]?,t.place[SetTable.below t.place slot]? with
   |some (_,x),Δ j=>Δ (x,j+1)
   |_,_=>Φ) s):Κ (Μ prog w) A (setNext a slot i c) Q E s:=by
 unfold setNext;refine b_ (wpAny_setState_of g D.da D.fi ?_);dsimp only;refine b_ (nB ?_);rw[H,d_ p_];refine b_ (f_ ?_);show Κ _ _ (if(!t.plain&&decide (e.size > 1))=Θ then _ else _) _ _ _;rw[hd,d_ p_];let k:t.led=Θ:=by rw[D.tb.ld,H];rfl
 show Κ _ _ ((if(!t.led&&!e.isEmpty)=Θ then _ else _) >>= _) _ _ _;rw[k];exact b_ (f_ (f_ h))
end
section
variable {prog:Ε}{w:Β}{g:Type} [DecidableEq g] [Inhabited g]{ky:Ky prog w g}{A:Ι}{E:Ö}{s:Α}{c a:Ω}{i n f slot:Nat}{p:List g}{o:Obj}{j:Array (Int×Ψ)}{t:SetTable}{l:Bool}
theorem stop {M:Model}{A:Ι}{h:Heap}{hh:A.handled=Φ}{R:Fin->Α->Prop}{R':Ö}(hQ:∀h' e,(∀b o,s.heap.get? b=Δ o->h'.get? b=Δ o)->(∃o,h'.get? e=Δ o/\o.cls=.type "StopIteration")->R' (.ref e) {s with heap:=h'}) :
  Κ M A (do raiseNew (<- newExc (.type "StopIteration") [])) R R' s:=by
 refine b_ ?_;simp only[newExc,newTuple];refine b_ (aaJ ?_ (by size_fits));refine b_ (m:=firstArgMember _ _) (wpAny_of_eq (a:=Value.none) (by first|rfl|(simp only[firstArgMember];rfl)) (aaJ ?_ (by size_fits)));simp only[raiseNew];refine b_ (wpAny_handled ?_);rw[hh];exact b_ (f_ (wpAny_throw (hQ _ _ (λb o e=>m_ _ (m_ _ e)) ⟨_,A_ _ rfl,rfl⟩)))
theorem uU {nx:Nat}{x:Ψ}(H:s.heap.get? c=Δ (QL (rawInt slot) i n a f))(e:s.heap.get? a=Δ o)(D:M1 ky l p o j f t)(hn:j.size=n)
  (hs:∀(v:Ι) (u:Ö) (q:Option (Ψ×Nat)->Α->Prop),q (Δ (x,nx)) s->Κ (Μ prog w) v (setNext a slot i f) q u s) {Q:Option Ψ->Α->Prop}
  (h:∀h',h'.get? c=Δ (QL (rawInt nx) (i+1) n a f)->Heap.SameBut c s.heap h'->Q (Δ x) {s with heap:=h'}):Κ (Μ prog w) A (pyNext (.ref c)) Q E s:=by
 let b:s.TypeIs (.ref c) "set_iterator":=⟨_,H,rfl⟩
 unfold pyNext;refine b_ (wpAny_attempt (wpAny_callSpecial?_slot (name:=Ρ "__next__") b iC (aak iC b jv ?_ (jJ _))));show Κ _ _ (fieldsOf (.ref c) >>= _) _ _ s;refine b_ (wpAny_fieldsOf H rfl ?_);show Κ _ _ (setEntries a >>= _) _ _ s;refine b_ (wpAny_setEntries_of e D.da D.fi ?_);rw[d_ (by rw[hn];simp)];show Κ _ _ (setNext a slot i f >>= _) _ _ s;refine b_ (hs _ _ _ ?_);show Κ _ _ (setField (.ref c) 0 (rawInt nx) >>= _) _ _ s;refine b_ (aal H (by simp) λy m r=>?_);refine b_ (aal m (by simp) λk G B=>?_);exact f_ ⟨x,rfl,f_ (h k G (r.trans B))⟩
theorem uV (hh:A.handled=Φ)(H:s.heap.get? c=Δ (QL (rawInt slot) i n a f))(u:s.heap.get? a=Δ o)(D:M1 ky l p o j f t)(hn:j.size=n)
  (hs:∀(z:Ι) (y:Ö) (r:Option (Ψ×Nat)->Α->Prop),r Φ s->Κ (Μ prog w) z (setNext a slot i f) r y s) {Q:Option Ψ->Α->Prop}
  (h:∀h',(∀b o,b≠c->s.heap.get? b=Δ o->h'.get? b=Δ o)->Q Φ {s with heap:=h'}):Κ (Μ prog w) A (pyNext (.ref c)) Q E s:=by
 let m:s.TypeIs (.ref c) "set_iterator":=⟨_,H,rfl⟩
 unfold pyNext;refine b_ (wpAny_attempt (wpAny_callSpecial?_slot (name:=Ρ "__next__") m iC (aak iC m jv ?_ (jJ _))));show Κ _ _ (fieldsOf (.ref c) >>= _) _ _ s;refine b_ (wpAny_fieldsOf H rfl ?_);show Κ _ _ (setEntries a >>= _) _ _ s;refine b_ (wpAny_setEntries_of u D.da D.fi ?_);rw[d_ (by rw[hn];simp)];show Κ _ _ (setNext a slot i f >>= _) _ _ s;refine b_ (hs _ _ _ ?_);show Κ _ _ (setField (.ref c) 2 .none >>= _) _ _ s;refine b_ (aal H (by simp) λq G B=>?_);refine stop (h:=q) (hh:=show A.in1.handled=Φ from hh) (s:={s with heap:=q}) λh' e k v=>?_;let⟨O,ge,C⟩:=v;refine b_ (wpAny_isInstance (T:="StopIteration") (b:=Θ) ⟨_,ge,C⟩ isSubtype_stop ?_);exact f_ (h h' λb o x e=>k b o (B.extBut b o x e))
end
section
variable {prog:Ε}{w:Β}{q:Type} [DecidableEq q] [Inhabited q]{ky:Ky prog w q}{A:Ι}{E:Ö}{s:Α}{g a T:Ω}{i n r slot:Nat}{z:List q}{o:Obj}{v:Array (Int×Ψ)}{t:SetTable}{u:Bool}
noncomputable abbrev TQ (p:Ç):Obj:={cls:=.type "tuple",data:=.seq (p.map λ(k:Nat)=>rawInt k).toArray}
theorem t6 {pl:Nat}{c:Int}{x:Ψ}{Q:Ö}(H:s.heap.get? a=Δ o)(D:M1 ky u z o v r t)(b:v[pl]? = Δ (c,x))(h:Q x s):Κ (Μ prog w) A (setNextDrawn a pl r) Q E s:=by unfold setNextDrawn;refine b_ (wpAny_setState_of H D.da D.fi ?_);dsimp only;rw[d_ (by rw[bne_self_eq_false];exact p_)];rw[b];exact f_ h
theorem yD {p:Ç}{pl:Nat}{c:Int}{x:Ψ}(H:s.heap.get? g=Δ (QL (.ref T) i n a r))(m:s.heap.get? T=Δ (TQ p))(b:s.heap.get? a=Δ o)(D:M1 ky u z o v r t)(hn:v.size=n)
  (j:p[i]? = Δ pl) (l:v[pl]? = Δ (c,x)) {Q:Option Ψ->Α->Prop}
  (h:∀h',h'.get? g=Δ (QL (.ref T) (i+1) n a r)->Heap.SameBut g s.heap h'->Q (Δ x) {s with heap:=h'}):Κ (Μ prog w) A (pyNext (.ref g)) Q E s:=by
 let f:s.TypeIs (.ref g) "set_iterator":=⟨_,H,rfl⟩
 unfold pyNext;refine b_ (wpAny_attempt (wpAny_callSpecial?_slot (name:=Ρ "__next__") f iC (aak iC f jv ?_ (jJ _))));show Κ _ _ (fieldsOf (.ref g) >>= _) _ _ s;refine b_ (wpAny_fieldsOf H rfl ?_);show Κ _ _ (setEntries a >>= _) _ _ s;refine b_ (wpAny_setEntries_of b D.da D.fi ?_);rw[d_ (by rw[hn];simp)];show Κ _ _ (seqItems? (.ref T) >>= _) _ _ s;refine b_ (aad m rfl ?_);dsimp only;let e:((p.map λ(k:Nat)=>rawInt k).toArray)[((i:Nat):Int).toNat]? = Δ (rawInt pl):=by simp[j]
 rw[e];show Κ _ _ (setNextDrawn a pl r >>= _) _ _ s;refine b_ (t6 b D l ?_);refine b_ (aal H (by simp) λy G B=>?_);exact f_ ⟨x,rfl,f_ (h y G B)⟩
theorem yE {p:Ç}(hh:A.handled=Φ)(H:s.heap.get? g=Δ (QL (.ref T) i n a r))(y:s.heap.get? T=Δ (TQ p))(m:s.heap.get? a=Δ o)(D:M1 ky u z o v r t)(hn:v.size=n)
  (l:p[i]? = Φ) {Q:Option Ψ->Α->Prop}
  (h:∀h',(∀b o,b≠g->s.heap.get? b=Δ o->h'.get? b=Δ o)->Q Φ {s with heap:=h'}):Κ (Μ prog w) A (pyNext (.ref g)) Q E s:=by
 let j:s.TypeIs (.ref g) "set_iterator":=⟨_,H,rfl⟩
 unfold pyNext;refine b_ (wpAny_attempt (wpAny_callSpecial?_slot (name:=Ρ "__next__") j iC (aak iC j jv ?_ (jJ _))));show Κ _ _ (fieldsOf (.ref g) >>= _) _ _ s;refine b_ (wpAny_fieldsOf H rfl ?_);show Κ _ _ (setEntries a >>= _) _ _ s;refine b_ (wpAny_setEntries_of m D.da D.fi ?_);rw[d_ (by rw[hn];simp)];show Κ _ _ (seqItems? (.ref T) >>= _) _ _ s;refine b_ (aad y rfl ?_);dsimp only;let e:((p.map λ(k:Nat)=>rawInt k).toArray)[((i:Nat):Int).toNat]? = Φ:=by have:=l;simp at this ⊢;exact this
 rw[e];show Κ _ _ (setField (.ref g) 0 (rawInt 0) >>= _) _ _ s;refine b_ (aal H (by simp) λI G F=>?_);refine b_ (aal G (by simp) λf J B=>?_);refine stop (h:=f) (hh:=show A.in1.handled=Φ from hh) (s:={s with heap:=f}) λh' e k x=>?_;let⟨O,ge,C⟩:=x;refine b_ (wpAny_isInstance (T:="StopIteration") (b:=Θ) ⟨_,ge,C⟩ isSubtype_stop ?_);exact f_ (h h' λb o c e=>k b o (B.extBut b o c (F.extBut b o c e)))
theorem n9 (l:List q):∀(j:Nat) (h:j < l.length),(l[j]::l.eraseIdx j).Perm l:=by
 induction l with
 |nil=>intro j h;cases h
 |cons a l I=>
  intro j h;cases j with
  |zero=>exact .refl _
  |succ j=>
   let H:j < l.length:=by simpa using h
   exact(List.Perm.swap a l[j] (l.eraseIdx j)).trans (List.Perm.cons a (I j H))
theorem xc (f:Nat->Nat):∀(F k:Nat) (left:List q) (out:Array q),left.length<=F->(pickOrder.go f F k left out).toList.Perm (out.toList++left):=by
 intro F
 induction F with
 |zero=>intro k left out h;have:left=[]:=List.length_eq_zero_iff.mp ⋯;subst this;unfold pickOrder.go;rw[Y_]
 |succ n I=>
  intro k left out h;unfold pickOrder.go
  cases left using zL with
  |nil=>simp
  |cons y l=>let M:f k % (y::l).length < (y::l).length:=Nat.mod_lt _ (by simp);generalize f k % (y::l).length=j at M;rw[y_ M];dsimp only;refine(I (k+1) _ _ (by rw[List.length_eraseIdx_of_lt M];simp at h ⊢;omega)).trans ?_;rw[Array.toList_push,G_];refine aaM _ ?_;exact(n9 _ _ M)
theorem mB (f:Nat->Nat)(x:Array q):(pickOrder f x).toList.Perm x.toList:=by have:=xc f x.size 0 x.toList #[] (by simp);rw[show(#[]:Array q).toList++x.toList=x.toList by simp]at this;exact this
theorem xg (H:m≠0)(h:∀k d,k < m->Q k {s with drawn:=d}):Κ (Μ prog w) A (choose S m) Q E s:=λΓ p b=>
 show m≠0/\Q _ _ from⟨H,h _ _ (Nat.mod_lt _ (Nat.pos_of_ne_zero H))⟩
theorem Ci:∀(m:Nat) (x:List q) (s:Α),x.length=m->(∀ys d,ys.Perm x->Q ys {s with drawn:=d})->Κ (Μ prog w) A (drawOrder m x) Q E s:=by
 intro m
 induction m generalizing Q with
 |zero=>intro x s H h;have:x=[]:=List.length_eq_zero_iff.mp H;subst this;exact f_ (by cases s;exact h [] _ (.refl _))
 |succ m I=>
  intro x s H h
  cases x using zL with
  |nil=>cases H
  |cons y l=>unfold drawOrder;refine b_ (xg (by simp) λk d b=>?_);rw[y_ b];dsimp only;refine b_ (I _ _ (by rw[List.length_eraseIdx_of_lt b];simp at H ⊢;omega) λys e c=>f_ ?_);exact h _ e ((List.Perm.cons _ c).trans (n9 _ _ b))
end
def og:entryFor table "set_iterator.__iter__" = Δ Builtin.«dict_keyiterator.__iter__»:=
 entryFor_alias (id':="dict_keyiterator.__iter__") (by kernel_rfl) (by first|rfl|decide +kernel|(unfold String.splitOn;simp +decide [String.splitOnAux])) ∅ (by kernel_rfl)
def pj (a:Ψ):argsOk "set_iterator.__iter__" ⟨[a],[]⟩:=by unfold argsOk;kernel_rfl
section
variable {prog:Ε}{w:Β}{B:Type} [DecidableEq B] [Inhabited B]{ky:Ky prog w B}{A:Ι}{E:Ö}{s:Α}{m a T:Ω}{i n r slot:Nat}{C:List B}{o:Obj}{l:Array (Int×Ψ)}{t:SetTable}{y:Bool}
theorem oh (H:s.heap.get? m=Δ (QL f i n a r))(h:Q (.ref m) s):Κ (Μ prog w) A (pyIter (.ref m)) Q E s:=by
 let b:s.TypeIs (.ref m) "set_iterator":=⟨_,H,rfl⟩
 refine wpAny_pyIter_slot b lE (aak lE b og ?_ (pj _));exact f_ ⟨_,rfl,"set_iterator",_,b,iC.lookup,h⟩
theorem uW (b:Cut x j p)(H:Cut x j q):p=q:=by
 let k:∀p q:Nat,Cut x j p->Cut x j q->¬p < q:=λp q b H h=>by
  let c:p < x.size:=E_ h H.le;let e:x[p]? = Δ x[p]:=by simp[c]
  have:=H.lo p _ h e;have:=b.hi p _ (o_ _) e;omega
 have:=k p q b H;have:=k q p H b;omega
theorem HU (hh:A.handled=Φ)(f:i8 w=Θ)(D:M1 ky y C o l r t)(M:a≠m) :
  Walks prog w A m [m,a] [m] l.size (λi v=>((pickOrder (w.params.setOrder a r) l).toList.map (·.2))[i]? = Δ v) (λi h=>h.get? m=Δ (QL (rawInt 0) i l.size a r)/\h.get? a=Δ o) where
 sub:=λb f=>by rw[r_.mp f];exact aaR
 frame:=λ_ _ _ st k=>⟨k m (by simp) _ st.1,k a (by simp) _ st.2⟩
 item:=λi s Q E hi st H=>by
  let j:(pickOrder (w.params.setOrder a r) l).size=l.size:=by rw[<- T_,(mB _ l).length_eq,T_]
  let e:(pickOrder (w.params.setOrder a r) l)[i]? = Δ (pickOrder (w.params.setOrder a r) l)[i]:=by simp[j,hi]
  refine uU (x:=(pickOrder (w.params.setOrder a r) l)[i].2) (nx:=0) st.1 st.2 D rfl (λI G F q=>pP f st.2 D (by rw[e];exact q)) λu g b=>?_;exact H _ u s.toks (by rw[D_,aay,e];rfl) ⟨g,b.extBut a o M st.2⟩ λc o p e=>b.extBut c o (λz=>p (by simp[z])) e
 done:=λs Q E st H=>by
  let j:(pickOrder (w.params.setOrder a r) l).size=l.size:=by rw[<- T_,(mB _ l).length_eq,T_]
  let e:(pickOrder (w.params.setOrder a r) l)[l.size]? = Φ:=by simp[j]
  exact uV hh st.1 st.2 D rfl (λI G F q=>pP f st.2 D (by rw[e];exact q)) λu k=>H u s.toks λc o p e=>k c o (λz=>p (by simp[z])) e
 self:=λ_ _ _ _ st H=>oh st.1 H
abbrev pQ (t:SetTable):Nat->Nat
 |0=>0
 |i+1=>t.place.getD i 0+1
theorem pR (u:Up t.place)(hi:i<=t.place.size):Cut t.place (pQ t i) i:=by
 cases i with
 |zero=>exact⟨hi,λi x h=>absurd h (Nat.not_lt_zero i),λi x _ _=>aaa _⟩
 |succ k=>
  let b:k < t.place.size:=⋯
  let e:t.place[k]? = Δ t.place[k]:=by simp[b]
  let c:t.place.getD k 0=t.place[k]:=by simp[Array.getD,b]
  refine⟨hi,λj x f H=>?_,λj x f H=>?_⟩
  ·show x < t.place.getD k 0+1;rw[c];by_cases q:j=k
   ·subst q;rw[e]at H;cases H;omega
   ·have:=u j k x _ ⋯ H e;omega
  ·show t.place.getD k 0+1<=x;rw[c];have:=u k j _ x ⋯ e H;omega
theorem HV (hh:A.handled=Φ)(f:i8 w=Ξ)(D:M1 ky (!i8 w) C o l r t)(hd:(!t.plain&&decide (l.size > 1))=Ξ)(N:a≠m) :
  Walks prog w A m [m,a] [m] l.size (λi v=>(vals l)[i]? = Δ v) (λi h=>h.get? m=Δ (QL (rawInt (pQ t i)) i l.size a r)/\h.get? a=Δ o) where
 sub:=λb f=>by rw[r_.mp f];exact aaR
 frame:=λ_ _ _ st k=>⟨k m (by simp) _ st.1,k a (by simp) _ st.2⟩
 item:=λi s Q E hi st H=>by
  let I:t.place.size=l.size:=by have:=D.fi;unfold SetTable.fits at this;rw[g_]at this;exact h_ this.1
  let p:i < t.place.size:=⋯
  let G:SetTable.below t.place (pQ t i)=i:=uW (mS D.tb.up _) (pR D.tb.up (Nat.le_of_lt p));let j:l[i]? = Δ (l[i].1,l[i].2):=by simp[hi]
  let L:t.place[i]? = Δ t.place[i]:=by simp[p]
  let J:pQ t (i+1)=t.place[i]+1:=by show t.place.getD i 0+1=_;simp[Array.getD,p]
  refine uU (x:=l[i].2) (nx:=pQ t (i+1)) st.1 st.2 D rfl (λP O M q=>n8 f st.2 D hd (by rw[G,j,L];rw[J]at q;exact q)) λF g b=>?_;exact H _ F s.toks (by rw[D_,aay,j];rfl) ⟨g,b.extBut a o N st.2⟩ λc o u e=>b.extBut c o (λz=>u (by simp[z])) e
 done:=λs Q E st H=>by
  let I:t.place.size=l.size:=by have:=D.fi;unfold SetTable.fits at this;rw[g_]at this;exact h_ this.1
  let G:SetTable.below t.place (pQ t l.size)=l.size:=uW (mS D.tb.up _) (pR D.tb.up ⋯);let j:l[l.size]? = Φ:=by simp
  exact uV hh st.1 st.2 D rfl (λP O M q=>n8 f st.2 D hd (by rw[G,j];exact q)) λF k=>H F s.toks λc o u e=>k c o (λz=>u (by simp[z])) e
 self:=λ_ _ _ _ st H=>oh st.1 H
theorem HW (hh:A.handled=Φ)(D:M1 ky y C o l r t){p:Ç}(f:p.Perm (List.range l.size))(J:a≠m)(j:T≠m) :
  Walks prog w A m [m,a,T] [m] l.size (λi v=>(p.map λk=>(l.getD k (0,.none)).2)[i]? = Δ v) (λi h=>h.get? m=Δ (QL (.ref T) i l.size a r)/\h.get? a=Δ o/\h.get? T=Δ (TQ p)) where
 sub:=λb G=>by rw[r_.mp G];exact aaR
 frame:=λ_ _ _ st k=>⟨k m (by simp) _ st.1,k a (by simp) _ st.2.1,k T (by simp) _ st.2.2⟩
 item:=λi s Q E hi st H=>by
  let F:p.length=l.size:=by rw[f.length_eq,R_]
  let O:i < p.length:=⋯
  let M:p[i] < l.size:=X_.mp (f.mem_iff.mp (aau O));let x:p[i]? = Δ p[i]:=y_ O;let I:l[p[i]]? = Δ (l[p[i]].1,l[p[i]].2):=by simp[M]
  refine yD st.1 st.2.2 st.2.1 D rfl x I λu g b=>?_;exact H _ u s.toks (by rw[D_,x];simp[Array.getD,M]) ⟨g,b.extBut a o J st.2.1,b.extBut T _ j st.2.2⟩ λc o q e=>b.extBut c o (λz=>q (by simp[z])) e
 done:=λs Q E st H=>by
  let F:p.length=l.size:=by rw[f.length_eq,R_]
  exact yE hh st.1 st.2.2 st.2.1 D rfl (by rw[List.getElem?_eq_none];omega) λu k=>H u s.toks λc o q e=>k c o (λz=>q (by simp[z])) e
 self:=λ_ _ _ _ st H=>oh st.1 H
end
section
variable {prog:Ε}{w:Β}{α:Type} [DecidableEq α] [Inhabited α]{ky:Ky prog w α}{A:Ι}{E:Ö}{s:Α}{it a T:Ω}{i n g slot:Nat}{σ:List α}{o:Obj}{c:Array (Int×Ψ)}{t:SetTable}{l:Bool}
structure ZV {prog:Ε}{w:Β}{α:Type} [DecidableEq α](ky:Ky prog w α)(A:Ι)(a:Ω)(σ:List α)(h h1:Heap)(it:Ω)(seq:Í)(n:Nat)(fp:Ì)(St:Nat->Heap->Prop):Prop where
 keep:∀b o,h.get? b=Δ o->h1.get? b=Δ o
 new:h.get? it=Φ
 pm:∃ks,Ar ky.mv seq ks/\ks.Perm σ
 ln:seq.length=n
 wk:Walks prog w A it fp [it] n (λi v=>seq[i]? = Δ v) St
 st:St 0 h1
 fps:∀b∈fp,b=a∨h.get? b=Φ
theorem mC (h:Heap):h.get? h.objs.size=Φ:=by
 cases e:h.get? h.objs.size with
 |none=>rfl
 |some o=>exact absurd (j_ e) (aac _)
theorem rL (h:Heap)(o:Obj):h.get? (h.push o).objs.size=Φ:=by
 cases e:h.get? (h.push o).objs.size with
 |none=>rfl
 |some O=>have:=j_ e;rw[W_]at this;exact absurd this (Nat.not_lt.mpr (Nat.le_succ _))
theorem map_range (c:Array (Int×Ψ)):(List.range c.size).map (λk=>(c.getD k (0,.none)).2)=vals c:=by
 apply List.ext_getElem?;intro j;rw[D_,D_];by_cases h:j < c.size
 ·rw[List.getElem?_range h];simp[Array.getD,h]
 ·rw[List.getElem?_eq_none (by simp;omega)];simp[h]
theorem yF (hh:A.handled=Φ)(hS:kI ky s.heap a (!i8 w) σ){Q:Ö}(h:∀h1 d it seq n fp St,ZV ky A a σ s.heap h1 it seq n fp St->Q (.ref it) {s with heap:=h1,drawn:=d}) :
  Κ (Μ prog w) A (pyIter (.ref a)) Q E s:=by
 let⟨o,c,g,t,ho,D⟩:=hS;let⟨ks,k1,k2⟩:=D.pm;let hT:s.TypeIs (.ref a) "set":=⟨_,ho,D.ex.1⟩
 let alt:a < s.heap.objs.size:=j_ ho;refine wpAny_pyIter_slot hT F.slot_set_iter (aak F.slot_set_iter hT qt ?_ (F.args_set_iter_1 _));show Κ _ _ (Builtin.Frozenset.sizeOf a >>= _) _ _ s;unfold Builtin.Frozenset.sizeOf;refine b_ (b_ (wpAny_setEntries_of ho D.da D.fi (f_ ?_)));let ZW:∀ {f:Ψ}{h1:Heap}{d:Drawn}{x:Ω},h1.get? x=Δ (QL f 0 c.size a g)->Shared.TypeIs {s with heap:=h1,drawn:=d} (.ref x) "set_iterator":=λe=>⟨_,e,rfl⟩
 show Κ _ _ (setDrawn a >>= _) _ _ s;unfold setDrawn;refine b_ (b_ (wpAny_setState_of ho D.da D.fi ?_));dsimp only;refine b_ (nB (f_ ?_));cases hb:i8 w with
 |true=>
  show Κ _ _ (if(!Θ&&_)=Θ then _ else _) _ _ _;rw[Bool.not_true,Bool.false_and,d_ p_];refine b_ (f_ (b_ (wpAny_setEpoch_of ho D.da D.fi (b_ (aaJ ?_ (by size_fits))))));let⟨M8,k3,k4⟩:=mr ((mB (w.params.setOrder a g) c).map (·.2)) k1;let hl:((pickOrder (w.params.setOrder a g) c).toList.map (·.2)).length=c.size:=by rw[i_,(mB _ c).length_eq,T_]
  let W:=HU (A:=A) (m:=s.heap.objs.size) hh hb D (n_ alt)
  exact f_ ⟨_,rfl,"set_iterator",_,ZW (d:=s.drawn) (A_ _ rfl),iC.lookup,h _ s.drawn s.heap.objs.size _ _ _ _
   ⟨λb o e=>m_ _ e,mC _,⟨M8,k3,k4.trans k2⟩,hl,W,⟨A_ _ rfl,m_ _ ho⟩,λb hb=>by
    rcases k_.mp hb with e|hb
    ·rw[e];exact .inr (mC _)
    ·exact .inl (r_.mp hb)⟩⟩
 |false=>
  cases hd:(!t.plain&&decide (c.size > 1)) with
  |false=>
   show Κ _ _ (if(!Ξ&&(!t.plain&&decide (c.size > 1)))=Θ then _ else _) _ _ _;rw[hd,Bool.and_false,d_ p_];refine b_ (f_ (b_ (wpAny_setEpoch_of ho D.da D.fi (b_ (aaJ ?_ (by size_fits))))));let hl:(vals c).length=c.size:=by rw[i_,T_]
   let W:=HV (A:=A) (m:=s.heap.objs.size) hh hb D hd (n_ alt)
   exact f_ ⟨_,rfl,"set_iterator",_,ZW (d:=s.drawn) (A_ _ rfl),iC.lookup,h _ s.drawn s.heap.objs.size _ _ _ _
    ⟨λb o e=>m_ _ e,mC _,⟨ks,k1,k2⟩,hl,W,⟨A_ _ rfl,m_ _ ho⟩,λb hb=>by
     rcases k_.mp hb with e|hb
     ·rw[e];exact .inr (mC _)
     ·exact .inl (r_.mp hb)⟩⟩
  |true=>
   show Κ _ _ (if(!Ξ&&(!t.plain&&decide (c.size > 1)))=Θ then _ else _) _ _ _;rw[hd,Bool.not_false,Bool.and_self,e_ rfl];let hz:=fits_of_scanBound D.sb;refine b_ (Ci _ _ _ R_ λps d hp=>?_);let ZX:ps.length=c.size:=by rw[hp.length_eq,R_]
   let ho1:(s.heap.push (TQ ps)).get? a=Δ o:=m_ _ ho;refine b_ (wpAny_newTuple (b_ (wpAny_setEpoch_of ho1 D.da D.fi (b_ (aaJ ?_ (by size_fits))))) (by rw[i_,ZX];exact hz));let pv:(ps.map λk=>(c.getD k (0,.none)).2).Perm (vals c):=by rw[<- map_range];exact hp.map _
   let⟨M8,k3,k4⟩:=mr pv k1;let hl:(ps.map λk=>(c.getD k (0,.none)).2).length=c.size:=by rw[i_,ZX]
   let hsz:(s.heap.push (TQ ps)).objs.size=s.heap.objs.size+1:=W_ ..;let W:=HW (A:=A) (T:=s.heap.objs.size) (m:=(s.heap.push (TQ ps)).objs.size) hh D hp (by rw[hsz];exact n_ (Nat.lt_succ_of_lt alt)) (by rw[hsz];exact n_ (Nat.lt_succ_self _))
   exact f_ ⟨_,rfl,"set_iterator",_,ZW (d:=d) (A_ _ rfl),iC.lookup,h _ d (s.heap.push (TQ ps)).objs.size _ _ _ _
    ⟨λb o e=>m_ _ (m_ _ e),rL _ _,⟨M8,k3,k4.trans k2⟩,hl,W,
     ⟨A_ _ rfl,m_ _ ho1,m_ _ (A_ _ rfl)⟩,λb hb=>by
     rcases k_.mp hb with e|hb
     ·rw[e];exact .inr (rL _ _)
     ·rcases k_.mp hb with e|hb
      ·exact .inl e
      ·rw[r_.mp hb];exact .inr (mC _)⟩⟩
end
section
variable {prog:Ε}{w:Β}{g:Type} [DecidableEq g] [Inhabited g]{ky:Ky prog w g}{A:Ι}{E:Ö}{s:Α}{a:Ω}{k:List g}
def yG (hT:s.TypeIs (.ref a) "set") (h:Q Ξ s):Κ (Μ prog w) A (Builtin.List.listLengthHint (.ref a)) Q E s:=by
 unfold Builtin.List.listLengthHint;refine b_ (wpAny_specialOf hT PySem.F.slot_set_len.lookup ?_);generalize Q7:("set.__len__" : String)=ZD
 wp_delta
 rw[show splitId ZD=Δ ("set","__len__") from by subst Q7;decide +kernel];subst Q7;refine b_ (wpAny_isInstance (T:="set") (b:=Θ) hT (by rw[isSubtype_type];kernel_rfl) (wpAny_ite_split (λz=>absurd z nofun) λ_=>wpAny_ite_split (λ_=>?_) λz=>absurd ∅ z));exact b_ (wpAny_typeOf hT (f_ h))
def Fj (h:ItemsOf (λi v=>seq[i]? = Δ v) b seq.length):b.toList=seq:=by
 apply List.ext_getElem?;intro j;rw[aay];by_cases H:j < b.size
 ·let e:b[j]? = Δ b[j]:=by simp[H]
  rw[e,h.2 j _ e]
 ·let c:b[j]? = Φ:=by simp;omega
  rw[c,List.getElem?_eq_none (by rw[<- h.1];omega)]
def Cj {R:Result->Α->Prop}(hh:A.handled=Φ)(hS:kI ky s.heap a (!i8 w) k)(S:Ω)(hSa:S≠a)(res:Ψ)(c0:Nat)(hg:s.heap.get? S=Δ {cls:=.type "list",data:=.seq #[] c0}) (hn:k.length<=Ζ)
  (hR:∀h' tk d acc c,(∀b o,b≠S->s.heap.get? b=Δ o->h'.get? b=Δ o)->h'.get? S=Δ {cls:=.type "list",dict:=Φ,data:=.seq acc c,slots:=#[]}->(∃ks,Ar ky.mv acc.toList ks/\ks.Perm k)->R (.ok (.ret res)) {s with heap:=h',toks:=tk,drawn:=d}) :
  Κ (Μ prog w) A.in1 (Χ (.ref S) (.ref a) res)
   (λfin s'=>match fin with|.done f=>R (.ok f) s'|.again c'=>c'.quiet=Θ/\codeAny (Μ prog w) A c' R s') (λe s'=>R (.error e) s') s:=by
 let hT:s.TypeIs (.ref a) "set":=by let⟨o,es,ep,t,ho,D⟩:=hS;exact⟨o,ho,D.ex.1⟩
 unfold Χ;refine b_ (wpAny_typeOf (T:="set") hT ?_);let h1:Builtin.List.listSameRef (.ref S) (.ref a)=Ξ:=by simp[Builtin.List.listSameRef,hSa]
 rw[d_ (by rw[h1];decide)];refine b_ (yF (A:=A.in1) hh hS λh1 d it seq n fp St C=>?_);let hfp:S∉fp:=λz=>(C.fps S z).elim hSa λe=>by rw[hg]at e;cases e
 let hSi:S≠it:=λz=>by rw[z,C.new]at hg;cases hg
 let⟨ks,q1,q2⟩:=C.pm;let hln:n<=Ζ:=by rw[<- C.ln,Ar.length q1,q2.length_eq];exact hn
 let key:∀(h:Heap) (c1 tk:Nat),St 0 h->(∀b o,b≠S->s.heap.get? b=Δ o->h.get? b=Δ o)->h.get? S=Δ {cls:=.type "list",data:=.seq #[] c1}->
   codeAny (Μ prog w) A (.builtin "list.extend.loop" ⟨[.ref S,.ref it,res],[]⟩) R {s with heap:=h,toks:=tk,drawn:=d}:=by
  intro h c1 tk L8 hk ZO;refine codeAny_extend_loopS C.wk.toS hln S hfp res n 0 _ #[] c1 rfl (aaa _) L8 ZO (ItemsOf.nil _) λs' acc c hm Nu Mw=>?_;rw[Moved.eq_with hm];rw[<- C.ln]at Mw;refine hR s'.heap s'.toks d acc c (λb o hb e=>hm.heap b o (λz=>?_) (hk b o hb e)) Nu ⟨ks,by rw[Fj Mw];exact q1,q2⟩;rcases k_.mp z with z|z
  ·exact hb z
  ·rw[r_.mp z,C.new]at e;cases e
 let hT1:Shared.TypeIs {s with heap:=h1,drawn:=d} (.ref a) "set":=by let⟨o,es,ep,t,ho,D⟩:=hS;exact⟨o,C.keep _ _ ho,D.ex.1⟩
 let g1:=C.keep _ _ hg;refine b_ (L_ (yG hT1 (wpAny_ite_split (λ_=>?_) λ_=>f_ ⟨plainId_quiet PySem.F.plain_extend_loop _,key _ c0 _ C.st (λb o _ e=>C.keep b o e) g1⟩)));refine b_ (wpAny_rule (b_ ?_));show Κ _ _ (updateSeq S (·.push .none) >>= λ_=>updateSeq S (·.pop)) _ _ _;let g2:=aaI (ι (·.push Value.none)) g1 rfl;let g3:=aaI (ι (·.pop)) g2 rfl;refine b_ (wpAny_updateSeq g1 rfl (wpAny_updateSeq (hz:=by seq_fits) g2 rfl (f_ ⟨plainId_quiet PySem.F.plain_extend_loop _,key _ _ _ ?_ (λb o hb e=>?_) g3⟩)))
 ·refine C.wk.frame 0 _ _ C.st λb hb o e=>?_;let V7:S≠b:=λz=>hfp (z ▸ hb);exact(aat _ _ V7).trans ((aat _ _ V7).trans e)
 ·let V7:S≠b:=λz=>hb z.symm;exact(aat _ _ V7).trans ((aat _ _ V7).trans (C.keep b o e))
end
section
variable {prog:Ε}{w:Β}{i:Type} [DecidableEq i] [Inhabited i]{ky:Ky prog w i}{A:Ι}{E:Ö}{s:Α}{a:Ω}{g:List i}
def rM {Q:Í->Α->Prop}(hh:A.handled=Φ)(n:kI ky s.heap a (!i8 w) g)(hn:g.length<=Ζ)
  (h:∀h' k d (j:Array Ψ),s.heap.objs.size < h'.objs.size->(∀b o,s.heap.get? b=Δ o->h'.get? b=Δ o)->(∃ks,Ar ky.mv j.toList ks/\ks.Perm g)->Q j.toList {s with heap:=h',toks:=k,drawn:=d}):Κ (Μ prog w) A (collect (.ref a)) Q E s:=by
 let u:a < s.heap.objs.size:=by let⟨o,z,B,t,p,D⟩:=n;exact j_ p
 unfold collect;refine b_ (wpAny_runValue (codeAny_builtin entry_proto_collect' ?_));rw[aaT PySem.F.plain_proto_collect _];refine(show Κ _ A.in1 (newList [] >>= λl=>again (.builtin "list.__iadd__" ⟨[l,.ref a],[]⟩)) _ _ s from b_ (aaJ (f_ ⟨plainId_quiet PySem.F.plain_list_iadd _,codeAny_builtin entry_list_iadd' ?_⟩)));rw[aaT PySem.F.plain_list_iadd _];let G:(s.heap.push {cls:=.type "list",data:=.seq ([]:Í).toArray}).get? s.heap.objs.size=Δ {cls:=.type "list",data:=.seq #[]}:=A_ _ rfl;show Κ _ A.in1 (Χ (.ref s.heap.objs.size) (.ref a) (.ref s.heap.objs.size)) _ _ _;let m:=Cj (A:=A) (s:={s with heap:=s.heap.push {cls:=.type "list",data:=.seq ([]:Í).toArray}})
  (R:=λ(q:Result) (S:Α)=>∃(h':Heap) (k:Nat) (d:Drawn) (j:Array Ψ) (c:Nat),q=.ok (.ret (.ref s.heap.objs.size))/\S = {s with heap:=h',toks:=k,drawn:=d}/\
   (∀b o,s.heap.get? b=Δ o->h'.get? b=Δ o)/\h'.get? s.heap.objs.size=Δ {cls:=.type "list",dict:=Φ,data:=.seq j c,slots:=#[]}/\∃ks,Ar ky.mv j.toList ks/\ks.Perm g)
  hh (n.moved λo e=>m_ _ e) s.heap.objs.size (U_ u) (.ref s.heap.objs.size) 0 G hn
  (λh' k d j c H N M=>⟨h',k,d,j,c,rfl,rfl,λb o e=>H b o (n_ (j_ e)) (m_ _ e),N,M⟩)
 refine wpAny_mono m (λF S x=>?_) λe S x=>?_
 ·cases F with
  |done f=>let⟨h',k,d,j,c,e,rfl,H,N,M⟩:=x;cases e;exact show Κ _ A (load s.heap.objs.size >>= _) _ _ _ from b_ (wpAny_load N (f_ (h h' k d j (j_ N) H M)))
  |again C=>refine⟨x.1,codeAny_mono x.2 λq v y=>?_⟩;let⟨h',k,d,j,c,rfl,rfl,H,N,M⟩:=y;exact show Κ _ A (load s.heap.objs.size >>= _) _ _ _ from b_ (wpAny_load N (f_ (h h' k d j (j_ N) H M)))
 ·let⟨_,_,_,_,_,r,_⟩:=x;cases r
def ua {Q:Ö}(hh:A.handled=Φ)(v:kI ky s.heap a (!i8 w) g)(C:g.length < 64){O:List i->Prop}(S:∀ {A:Ι}{E:Ö}{s:Α}{a:Ω}{vs:Í}{ss:List i}{n:Nat}{P:Fin->Α->Prop},s.heap.get? a=Δ (seqObj "list" vs.toArray n)->Ar ky.mv vs ss->vs.length < 64->
   (∀(out:Array Ψ) (R:List i),Ar ky.mv out.toList R->R.Perm ss->O R->P (.done (.ret .none)) {s with heap:=sortedHeap s.heap a vs out})->Κ (Μ prog w) A (Builtin.«list.sort» ⟨[.ref a],[]⟩) P E s)
  (h:∀h' j d D (out:Array Ψ) c U,(∀b o,s.heap.get? b=Δ o->h'.get? b=Δ o)->s.heap.objs.size<=D->h'.get? D=Δ (seqObj "list" out c)->Ar ky.mv out.toList U->U.Perm g->O U->Q (.ref D) {s with heap:=h',toks:=j,drawn:=d}) :
  Κ (Μ prog w) A (call (.builtin "sorted") [.ref a]) Q E s:=by
 let H:g.length<=Ζ:=by rw[sizeLine_eq];omega
 refine Calls.call_function_entry kind_sorted plain_sorted entry_sorted (args_sorted1 _) ?_;unfold Builtin.«sorted»;refine b_ (m:=checkCount "sorted" 1 1 _) (f_ (b_ (rM (A:=A.in1) hh v H λh' j d f F q M=>?_)));let⟨ks,l,k⟩:=M;let p:f.toList.length=g.length:=by rw[Ar.length l,k.length_eq]
 refine b_ (wpAny_newList ?_ (by rw[p];exact H));let G:(h'.push (seqObj "list" f.toList.toArray 0)).get? h'.objs.size=Δ (seqObj "list" f.toList.toArray 0):=A_ _ rfl;let N:s.heap.get? h'.objs.size=Φ:=by
  cases e:s.heap.get? h'.objs.size with
  |none=>rfl
  |some o=>exact absurd (j_ (q _ _ e)) (aac _)
 refine b_ (L_ (aak (s:={s with heap:=h'.push (seqObj "list" f.toList.toArray 0),toks:=j,drawn:=d}) slot_list_sort ⟨_,G,rfl⟩ entry_list_sort (S (s:={s with heap:=h'.push (seqObj "list" f.toList.toArray 0),toks:=j,drawn:=d}) G l (by rw[p];exact C) λout U B y x=>⟨_,rfl,?_⟩) (args_list_sort _)));let⟨c,u⟩:=sortedHeap_at (out:=out) G;refine f_ ⟨_,rfl,h _ j d _ out c U (λb o e=>?_) (Nat.le_of_lt F) u B (y.trans k) x⟩;let r:=m_ (seqObj "list" f.toList.toArray 0) (q b o e);rw[sortedHeap_old (λz=>by rw[z,N]at e;cases e) (j_ r)];exact r
end
instance:Inhabited Str:=⟨⟨#[]⟩⟩
abbrev V8 (prog:Ε)(w:Β):Ky prog w Int:=⟨intKind prog w,λn t=>.int n t,λn t=>intKind_is prog w n t,λ_ _=>rfl⟩
def Fm:IntsAre vs ns↔Ar (V8 prog w).mv vs ns:=by
 constructor
 ·intro h
  induction h with
  |nil=>exact .nil
  |cons n t _ i=>exact .cons n t i
 ·intro h
  induction h with
  |nil=>exact .nil
  |cons n t _ i=>exact .cons n t i
def Ke (H:s.heap.get? a=Δ (seqObj "list" vs.toArray n)) (b:Ar (V8 prog w).mv vs ss) (r:vs.length < 64)
  (h:∀(out:Array Ψ) (R:È),Ar (V8 prog w).mv out.toList R->R.Perm ss->R.Pairwise (·<=·)->P (.done (.ret .none)) {s with heap:=sortedHeap s.heap a vs out}):Κ (Μ prog w) A (Builtin.«list.sort» ⟨[.ref a],[]⟩) P E s:=
 list_sort_tree H (Fm.mpr b) r λout R f e c=>h out R (Fm.mp f) e c
end L2.Se
namespace L2.Sv
open PySem PyProof.Rows
abbrev ZY (a:Æ)(v:Str):Æ:=if a.any (· == v) then a else a++[v]
def Fo : @step_dedup Str instBEqOfDecidableEq=ZY:=by
 funext a v;unfold step_dedup ZY;let e:(a.any λx=>@BEq.beq Str instBEqOfDecidableEq x v)=a.any (· == v):=by congr 1
 rw[e]
def MY (l:Æ)(a:Æ):(l.foldl ZY a).length<=a.length+l.length:=by rw[<- Fo];exact Se.MY l a
end L2.Sv
namespace L2
open PySem PySem.Spec PyProof.Rows PySem.SeqAt
abbrev dd (ns:È):È:=ns.foldl step_dedup []
def yI (ns:È):(dd ns).length<=ns.length:=by have:=Se.MY ns [];simpa[dd] using this
abbrev XS:HO:=.e λ_=>True
def HX (X:Cx)(a:È)(o:Obj):Prop:=∃e E t,Se.M1 (Se.V8 X.prog X.w) (!Se.i8 X.w) a o e E t
def xh (m:X.calm=Θ):jS X (.type "set") (λx H Q=>∃(p:Ω) (ns:È),x=[.r p]/\MR X.K H p (ns.map V.i)/\ns.length < 64/\∀a o,H a=Φ->HX X (dd ns) o->Q (.r a) (upd H a (.L o XS))):=by intro P s w H x U Q I r h;let⟨p,ns,rfl,l,A,q⟩:=h;let⟨u,rfl,i⟩:=vals1 r;cases i;let⟨j,R,pl,y⟩:=I.list l;let hi:=intsAre_of R;let c:=R.length;rw[i_]at c;refine Se.yC (ky:=Se.V8 X.prog X.w) (I.ok.hd m) pl.isList (Se.Fm.mp (by simpa using hi)) (by rw[C_];unfold scanBound;omega) λz g n k=>?_;let⟨o,E,v,t,f,D⟩:=n;exact⟨.r _,_,I.laid (t':=g) (λb u e=>k b u (j_ e) e) (o_ _) (show iR X.prog X.w _ _ _ (.L o XS) from⟨f,trivial,⟨_,f⟩,λ_ _ _ _=>trivial⟩),rfl,q _ o (I.L1.fresh (o_ _)) ⟨E,v,t,D⟩⟩
def Inv.RQ (I:Inv X p a H s)(d:Drawn):Inv X p a H {s with drawn:=d}:=⟨I.ok,I.os,I.bare,I.base,I.loc,I.cell,I.free,I.M4,I.pin,I.L1,I.len⟩
def qu (m:X.calm=Θ):jS X (.builtin "sorted") (λx H Q=>∃(p:Ω) (o:Obj) (ns:È),x=[.r p]/\H p=Δ (.L o XS)/\HX X ns o/\ns.length < 64/\∀l,H l=Φ->Q (.r l) (upd H l (.l ((PySem.W.sortI ns).map V.i)))):=by
 intro P s z H x U Q I r h;let⟨p,o,ns,rfl,g,⟨E,v,t,D⟩,y,q⟩:=h;let⟨u,rfl,R⟩:=vals1 r;cases R;let j:s.heap.get? p=Δ o:=(I.L1 p _ g).1;refine Se.ua (I.ok.hd m) ⟨o,E,v,t,j,D⟩ y Se.Ke λB f d F out c C k b e a w A=>?_;rw[PySem.W.eq_sortI w A]at a;let S:Vals ((PySem.W.sortI ns).map V.i) out.toList:=by
  generalize PySem.W.sortI ns=M at a;generalize out.toList=vs at a
  induction a with
  |nil=>exact .nil
  |cons n t _ i=>exact .cons ⟨t,rfl⟩ i
 let J:=I.laid (t':=f) (o:=.l ((PySem.W.sortI ns).map V.i)) k b (show iR X.prog X.w _ _ _ (.l _) from⟨by rw[i_,(PySem.W.sortI_perm ns).length_eq,sizeLine_eq];omega,out.toList,c,S,by simpa using e⟩);exact⟨.r _,_,J.RQ d,rfl,q _ (I.L1.fresh b)⟩
def Kf:V->Ï->Hp->VK->Prop:=λx vs H Q=>∃l X i y,x=.r l/\vs=[.i i,y]/\H l=Δ (.l X)/\0<=i/\i.toNat<=X.length/\X.length < Ζ/\Q .L (upd H l (.l (X.take i.toNat++y::X.drop i.toNat)))
def Fp:Zl X "list.insert" Kf:=by
 intro p s m H x vs v U Q I R c h;let⟨l,w,i,y,rfl,rfl,b,E,hi,A,q⟩:=h;cases R;let B:Ζ=16777216:=sizeLine_eq;cases c with
 |cons g S=>
  let⟨t,rfl⟩:=g;let⟨u,rfl,f⟩:=Vals.one S;let⟨z,a,n,r,C,e⟩:=I.Tu b;refine call_meets F.slot_list_insert ⟨_,e,rfl⟩ F.entry_list_insert (F.args_list_insert_3 _ _ _) (AutoSeq1.list_insert_list_int_val_1 l a.toArray n i t u (by rw[fitsIndex_both ⋯ ⋯];decide) (by rw[C_];omega)) ⟨e,?_⟩;refine⟨.L,_,I.Tq (its':=a.take i.toNat++u::a.drop i.toNat) b e ?_ ((r.take i.toNat).append (.cons f (r.drop i.toNat))) ?_,rfl,q⟩
  ·let k:¬i < 0:=⋯
   let j:min i.toNat a.toArray.size=i.toNat:=by rw[C_];omega
   simp only[k,if_false,j];apply Array.ext';simp;rw[List.take_of_length_le (by rw[aas];omega)]
  ·rw[q_,List.length_cons,aaG,aas];omega
end L2
namespace L2.Sx
open PySem PyProof.Rows
end L2.Sx
namespace L2
open PySem PySem.Spec PyProof.Rows
end L2
namespace L2.Dp
open PySem PyProof.Rows
end L2.Dp
namespace L2
open PySem PySem.Spec PyProof.Rows
open PySem.SeqAt
def Inv.K7 (I:Inv X P g H s)(e:Rd H p (.d kvs)):kvs.length<=Ζ/\(p == sysModules)=Ξ/\∃vs o E a,KV kvs vs/\s.heap.get? p=Δ o/\o.data=.dict E a/\s.heap.DictAt (i7 X.prog X.w) p vs a:=by let⟨f,b,vs,k,o,E,a,h,c,hd,r⟩:=e.ok I.L1;exact⟨f,b,vs,o,E,a,k,h,hd,o,E,h,c,hd,r⟩
theorem KV.at:∀ {kvs:List (a×V)}{vs:List (a×Ψ)} (r:KV kvs vs) {i:Nat}{q:a×Ψ},vs[i]? = Δ q->∃v,kvs[i]? = Δ (q.1,v)/\RelV v q.2
 |_,_,.nil,_,_,h=>by simp at h
 | (k,v)::_,Q::_,.cons r _,0,q,h=>by cases h;let⟨R,b⟩:=r;let R:k=Q.1:=R;subst R;exact⟨v,rfl,b⟩
 |_,_,.cons _ r,i+1,q,h=>KV.at r (i:=i) (by simpa using h)
def KV.len (r:KV kvs vs):kvs.length=vs.length:=Paired.length r
def Fq (h:(i7 P w).is k u=Θ):RelV (kV k) u:=by
 rcases iV h with⟨i,t,rfl,rfl⟩|⟨x,t,rfl,rfl⟩
 ·exact⟨t,rfl⟩
 ·exact⟨t,rfl⟩
abbrev ZZ (K:Frag)(l:Ω):It:=
 ⟨λi H=>∃X x,MR K H l X/\X[i]? = Δ x,
  λi H v h=>∃T x,v=.r T/\H T=Φ/\h=upd H T (.t [.i i,x])/\∀X,MR K H l X->X[i]? = Δ x,
  λi H=>∃X,MR K H l X/\X.length<=i⟩
def xj {P:Ε}{w:Β}{K:Frag}{es:Á}{c:Nat}{pos:Pos}(e j l:Ω)(M7:e≠j) :
  Turn P w K (.Tuple es c pos) (ZZ K l) [e,j] e (λn h=>(∃O,IsEnum h e j n O)/\h.IsListIter j l n) where
 mem:=by simp
 obj:=λn h st b a=>by
  let⟨⟨O,f⟩,ci⟩:=st;simp only[k_,P_,or_false]at a;rcases a with rfl|rfl
  ·exact⟨_,f,λv z=>by cases z⟩
  ·let⟨o,e,c,d⟩:=ci;exact⟨o,e,λv z=>by rw[d]at z;cases z⟩
 keep:=λn h h' st k=>by let⟨⟨O,f⟩,ci⟩:=st;exact⟨⟨O,k e (by simp) _ f⟩,ci.at λo q=>k j (by simp) o q⟩
 item:=by
  intro X M C N U n g s S H E I y st G;subst M C N;let⟨⟨O,f⟩,ci⟩:=st;let⟨xs,x,m,B⟩:=G;let⟨A,R,p,hz⟩:=I.list m;let⟨u,hu,ru⟩:=R.get B;refine wpAny_pyNext_enum_item f ci p.isList (x:=u) (by simpa using hu) M7 λY a1 a2 a3 a4 F=>?_;refine⟨_,rfl,?_⟩;let le:e < s.heap.objs.size:=j_ f;let L:s.heap.objs.size≠e:=U_ le;refine wpAny_letOwnedTupleGo_enum (s:={s with heap:=Y,toks:=s.toks+1}) a1 λW J Q=>?_;let kk:∀b o,b∉[e,j]->s.heap.get? b=Δ o->W.get? b=Δ o:=λb o a q=>by simp only[k_,P_,or_false,not_or]at a;exact Q.extBut _ _ a.1 (F b o a.1 a.2 q)
  let hT:=Q.extBut _ _ L a3;let I2:Inv X g S (upd H s.heap.objs.size (.t [.i n,x])) {s with heap:=W,toks:=s.toks+1}:=I.QI (t':=s.toks+1) kk y (o_ _) ⟨by show 2<=Ζ;decide,[.int n s.toks,u],.cons ⟨_,rfl⟩ (.cons ru .nil),⟨_,hT,rfl,_,rfl⟩⟩;refine⟨.r s.heap.objs.size,_,I2,rfl,⟨_,x,rfl,I.L1.fresh (o_ _),rfl,λU0 g1=>by rw[I.My g1 m];exact B⟩,⟨⟨_,by rw[Int.natCast_succ];exact J⟩,a2.at λo q=>Q.extBut _ _ M7.symm q⟩,λb a=>?_⟩;let OE:b < s.heap.objs.size:=by
   simp only[k_,P_,or_false]at a;rcases a with rfl|rfl
   ·exact le
   ·let⟨o,q,_⟩:=ci;exact j_ q
  rw[ik (n_ OE)];exact(y b a).1
 done:=by
  intro X M C N U n g s S H E I y st G;subst M C N;let⟨⟨O,f⟩,ci⟩:=st;let⟨xs,m,B⟩:=G;let⟨A,R,p,hz⟩:=I.list m;let l1:=R.length;refine wpAny_pyNext_enum_end (I.ok.hd U) f ci p.isList (Array.getElem?_eq_none (by simp;omega)) λY F=>⟨rfl,I.turns (t':=s.toks) (ch:=[e,j]) (λb o a q=>?_) y⟩
  simp only[k_,P_,or_false,not_or]at a;exact F b o a.2 q
 self:=λ_ _ _ _ _ st h=>by let⟨⟨O,f⟩,_⟩:=st;exact wpAny_pyIter_enum f h
def Kg (K:Frag)(b:TA):TI:=λa H R=>b a H λvs h=>∃l x,vs=[.r l]/\MR K h l x/\R (ZZ K l) h
def Ck (v:Gl X "enumerate") (n:X.mg "enumerate" = Φ) (w:PA X [a] j) (hs:Ν [a] X.env=[(Ξ,eval a X.env)]) :
  PI X (.Tuple J c E) (.Call (.Name "enumerate" p) [a] [] pos) (Kg X.K j):=by
 intro P s g H R I h;refine Call_ (jP I v n boot_enumerate (aax (L4 (w pos P s g H _ I h) λU S ⟨vs,A,i,k,Q⟩=>?_) hs rfl));let⟨l,C,e,G,q⟩:=Q;subst e;let⟨u,rfl,r⟩:=vals1 k;cases r;let⟨N,M,m,F⟩:=i.list G;refine call_enumerate_list m.isList λx B z L y=>?_;refine wpAny_pyIter_enum (s:={S with heap:=x}) B ?_;refine⟨S.heap.objs.size+1,[S.heap.objs.size+1,S.heap.objs.size],_,_,A,rfl,i.kept (t':=S.toks) y,xj _ _ l (Nat.succ_ne_self _),⟨⟨_,B⟩,z⟩,λb f=>?_,q⟩;let O:S.heap.objs.size<=b:=by
  simp only[k_,P_,or_false]at f;rcases f with rfl|rfl
  ·exact aaz _ _
  ·exact o_ _
 exact i.Pe O (i.L1.fresh O)
abbrev lC (y:Int):È->Â
 |[]=>Φ
 |x::r=>if x=y then Δ 0 else(lC y r).map (· + 1)
theorem nC:∀ {ns:È}{j:Nat},lC y ns=Δ j->ns[j]? = Δ y/\∀i,i < j->∃z,ns[i]? = Δ z/\z≠y
 |x::r,j,h=>by
  unfold lC at h;by_cases e:x=y
  ·rw[e_ e]at h;cases h;exact⟨congrArg Δ e,λi hi=>absurd hi (Nat.not_lt_zero _)⟩
  ·rw[d_ e]at h;let⟨k,H,rfl⟩:=aaO.mp h;let⟨b,a⟩:=nC H
   exact⟨b,λi hi=>match i,hi with
    |0,_=>⟨x,rfl,e⟩
    |i+1,hi=>a i ⋯⟩
 |[],j,h=>by cases h
abbrev isI (y:Int):Ψ->Bool
 |.int z _=>z == y
 |_=>Ξ
def yJ {ns:È}:∀ {u:Í},Vals (ns.map V.i) u->∀(i:Nat) (v:Ψ),u[i]? = Δ v->∃t,v=Value.int (ns.getD i 0) t:=by
 induction ns with
 |nil=>intro u h i v H;cases h;cases H
 |cons n ns I=>
  intro u h i v H;cases h with
  |cons r R=>
   cases i with
   |zero=>cases H;exact r
   |succ i=>exact I R i v H
theorem uX:∀ {vs:Í}{kvs:List (Key×V)},vs.length=kvs.length->(∀(i:Nat) (v:Ψ),vs[i]? = Δ v->∃k x,kvs[i]? = Δ (k,x)/\RelV (kV k) v)->Vals (kvs.map λq=>kV q.1) vs
 |[],[],_,_=>.nil
 |v::vs,q::kvs,H,h=>by let⟨k,x,e,r⟩:=h 0 v rfl;cases e;exact .cons r (uX (by simpa using H) λi u a=>h (i+1) u a)
 |[],_::_,H,_=>by simp at H
 |_::_,[],H,_=>by simp at H
def ub (A:X.calm=Θ):jS X (.type "list") (λb H Q=>∃(p:Ω) (kvs:List (Key×V)),b=[.r p]/\Rd H p (.d kvs)/\∀l,H l=Φ->Q (.r l) (upd H l (.l (kvs.map λq=>kV q.1)))):=by
 intro P s F H b U Q I r h;let⟨p,kvs,rfl,w,q⟩:=h;let⟨u,rfl,R⟩:=vals1 r;cases R;let⟨g,lo,vs,o,N,O,f,G,hd,z⟩:=I.K7 w;let j:=f.len;refine PySem.W.kdl_call (PySem.W.kdl_dict lo) (I.ok.hd A) z (by rw[<- j];exact g) λL m a c k e M=>?_;let n:Vals (kvs.map λq=>kV q.1) a.toList:=uX (by rw[T_,M.1];exact j.symm) λi v hi=>by let⟨k,x,C,B⟩:=M.2 i v (by rw[<- aay];exact hi);let⟨y,E,_⟩:=f.at C;exact⟨k,y,E,Fq B⟩
 let J:=I.laid (t':=m) (o:=.l (kvs.map λq=>kV q.1)) k (o_ _) (show iR X.prog X.w _ _ _ (.l _) from⟨by rw[i_];exact g,a.toList,c,n,by simpa using e⟩);exact⟨.r _,_,J,rfl,q _ (I.L1.fresh (o_ _))⟩
def Cm:Zk X "list.index" (λx g H Q=>∃(l:Ω) (ns:È) (y:Int) (j:Nat),x=.r l/\MR X.K H l (ns.map V.i)/\g=[.i y]/\lC y ns=Δ j/\Q (.i j) H):=by
 intro p s σ H x g v us Q I J rs h;let⟨l,ns,y,j,rfl,S,rfl,U,q⟩:=h;let⟨u,rfl,L⟩:=vals1 rs;let⟨t,rfl⟩:=L;cases J;let⟨a,R,pl,M⟩:=I.list S;let⟨o,n,w,A,hd,k⟩:=pl;let c:=R.length;rw[i_]at c M;let⟨B,W⟩:=nC U;let V9:j < ns.length:=(v_.mp B).1;let at_:∀(i:Nat) (z:Int),ns[i]? = Δ z->∃t,a[i]? = Δ (Value.int z t):=λi z C=>by
  let hi:i < a.length:=by rw[<- c];exact(v_.mp C).1
  let⟨t,e⟩:=yJ R i a[i] (y_ hi);refine⟨t,?_⟩;rw[y_ hi,e,aam,C];rfl
 let Z0:∀Y∈a.toArray,EqAt X.A.in1 s Y (.int y t) (isI y Y):=λY N=>by let⟨i,hi,e⟩:=List.getElem_of_mem (show Y∈a from by simpa using N);let⟨G,e'⟩:=yJ R i a[i] (y_ hi);rw[<- e,e'];exact EqAt.int_int _ G y t
 let f:j < a.toArray.size:=by rw[C_,<- c];exact V9
 let⟨F,ej⟩:=at_ j y B;let⟨oc,od,O,Rx⟩:=o;dsimp only at A hd k;subst A hd k;let P:Ζ=16777216:=sizeLine_eq;refine call_meets PySem.F.slot_list_index ⟨_,w,rfl⟩ PySem.F.entry_list_index (PySem.F.args_list_index_2 _ _)
  (list_indexAt l a.toArray n Φ Rx (.int y t) (isI y) j f ⋯ ?_ λm hm Mi=>?_) ⟨w,Z0,⟨.i j,H,I.tok _,⟨_,rfl⟩,q⟩⟩
 ·have:a.toArray[j]=Value.int y F:=by have:=(v_.mp ej).2;simpa using this
  rw[this];exact beq_self_eq_true y
 ·let⟨z,b,VV⟩:=W m Mi;let⟨E,em⟩:=at_ m z b;have:a.toArray[m]=Value.int z E:=by have:=(v_.mp em).2;simpa using this
  rw[this];exact beq_eq_false_iff_ne.mpr VV
def uY (hc:X.calm=Θ)(g1:Gl X "list") (m1:X.mg "list" = Φ) (g2:Gl X "range") (m2:X.mg "range" = Φ) (he:PE X e t) (U:∀F,Ν (e::F) X.env=(Ξ,eval e X.env)::Ν F X.env) :
  PE X (.Call (.Name "list" p) [.Call (.Name "range" L) [e] [] P] [] pos) (λA H Q=>t A H λv a=>∃n:Nat,v=.i n/\n<=1000/\∀q,a q=Φ->Q (.r q) (upd a q (.l ((List.range n).map λk=>.i (k:Nat))))):=by
 intro c s A H Q I h;refine aap (jP (u:=.type "list") I g1 m1 ∅ ?_ nofun nofun);refine aax ?_ rfl rfl;show Κ _ _ (spliced ((Ξ,eval (.Call (.Name "range" L) [e] [] P) X.env)::backTo pos (Ν [] X.env))) _ _ s;let f:Κ (Μ X.prog X.w) X.A (eval (.Call (.Name "range" L) [e] [] P) X.env) (λu E=>∃S n a C g B G,Inv X c A a S/\n<=1000/\u=.ref S.heap.objs.size/\E = {S with heap:=S.heap.push {cls:=.type "range",data:=.fields #[.int 0 C,.int (n:Nat) g,.int 1 B]},toks:=G}/\∀q,a q=Φ->Q (.r q) (upd a q (.l ((List.range n).map λk=>.i (k:Nat))))) X.xe s:=by refine aap (jP (u:=.type "range") I g2 m2 ∅ ?_ nofun nofun);refine aax ?_ (U []) rfl;rw[U []];show Κ _ _ (spliced ((Ξ,eval e X.env)::backTo P (Ν [] X.env))) _ _ s;refine Calls.spliced_cons (L4 (he c s A H _ I h) λu E ⟨x,a,z,Y,n,ex,hn,J⟩=>?_);subst ex;let⟨g,rfl⟩:=Y;refine Calls.spliced_nil ?_;exact call_range_1 ⟨E,n,a,_,_,_,_,z,hn,rfl,rfl,J⟩
 refine Calls.spliced_cons (L4 f λu E ⟨S,n,a,C,g,B,G,z,hn,eu,F,J⟩=>?_);subst eu F;refine Calls.spliced_nil ?_;let y:(S.heap.push {cls:=.type "range",data:=.fields #[.int 0 C,.int (n:Nat) g,.int 1 B]}).objs.size=S.heap.objs.size+1:=W_ ..;refine call_list_range (s:={S with heap:=S.heap.push {cls:=.type "range",data:=.fields #[.int 0 C,.int (n:Nat) g,.int 1 B]},toks:=G}) (n:=n) (show X.A.handled=Φ from z.ok.hd hc) (IsRange.new ..) (small_one ⋯ ⋯ ⋯ ⋯) (by rw[rangeSize_one];split<;>omega) ⋯ (λh' ZU M c' kp e R=>?_);let W:Vals ((List.range n).map λk=>V.i (k:Nat)) M.toList:=by
  let hl:M.toList.length=n:=by rw[T_,R.1]
  let f:∀(m:Nat) (vs:Í),vs.length<=m->∀j:Nat,(∀(i:Nat) (v:Ψ),vs[i]? = Δ v->∃t,v=.int ((j+i:Nat):Int) t)->Vals ((List.range vs.length).map λk=>V.i ((j+k:Nat):Int)) vs:=by
   intro m
   induction m with
   |zero=>intro vs N j _;have:vs=[]:=List.length_eq_zero_iff.mp ⋯;subst this;exact .nil
   |succ m ih=>
    intro vs N j O;cases vs with
    |nil=>exact .nil
    |cons v vs=>
     let h1:=ih vs (by simpa using N) (j+1) λi w hw=>by let⟨t,e⟩:=O (i+1) w hw;exact⟨t,by rw[e];congr 2;omega⟩
     let e2:((List.range (v::vs).length).map λk=>V.i ((j+k:Nat):Int))=V.i ((j:Nat):Int)::((List.range vs.length).map λk=>V.i ((j+1+k:Nat):Int)):=by rw[List.length_cons,List.range_succ_eq_map,a_,z_];congr 1;exact S_ λk _=>by show V.i ((j+(k+1):Nat):Int)=_;congr 2;omega
     rw[e2];let⟨t,e⟩:=O 0 v rfl;exact .cons ⟨t,e⟩ h1
  have:=f n M.toList ⋯ 0 λi v hi=>by let⟨t,e⟩:=R.2 i v (by rw[<- aay];exact hi);exact⟨t,by rw[e];congr 1;omega⟩
  rw[hl]at this;simpa using this
 exact⟨.r _,_,z.laid (t':=ZU) (o:=.l ((List.range n).map λk=>.i (k:Nat))) (λb o e=>kp b o (m_ _ e)) (by show S.heap.objs.size<=(S.heap.push _).objs.size;rw[y];exact Nat.le_succ _) (show iR X.prog X.w _ h' _ (.l _) from⟨by rw[i_,R_];have:=sizeLine_eq;omega,M.toList,c',W,by simpa using e⟩),rfl,J _ (z.L1.fresh (by show S.heap.objs.size<=(S.heap.push _).objs.size;rw[y];exact Nat.le_succ _))⟩
inductive D where
 | L|b (b:Bool)|i (i:Int)|s (x:Str)|t (ds:List D)|l (own:Bool) (ds:List D)|K (own:Bool) (ks:List Key) (ds:List D)
 deriving Inhabited
@[reducible]def _root_.Î:=List D
mutual
noncomputable def er:D->D
 |.t a=>.t (LM a)
 |.l _ a=>.l Ξ (LM a)
 |.K _ ks a=>.K Ξ ks (LM a)
 |.L=>.L
 |.b b=>.b b
 |.i i=>.i i
 |.s x=>.s x
noncomputable def LM:Î->Î
 |[]=>[]
 |d::a=>er d::LM a
end
mutual
noncomputable def il:D->Bool
 |.t a=>fT a
 |.l _ _=>Ξ
 |.K _ _ _=>Ξ
 |.L=>Θ
 |.b _=>Θ
 |.i _=>Θ
 |.s _=>Θ
noncomputable def fT:Î->Bool
 |[]=>Θ
 |d::a=>il d&&fT a
end
theorem iI:∀a:Î,LM a=a.map er
 |[]=>rfl
 |d::a=>by rw[LM,iI a];rfl
theorem iT:∀a:Î,fT a=a.all il
 |[]=>rfl
 |d::a=>by rw[fT,iT a];rfl
def jB (a:Î):(LM a).length=a.length:=by rw[iI,i_]
mutual
theorem kJ:∀ {d:D},il d=Θ->er d=d
 |.L,_=>rfl
 |.b _,_=>rfl
 |.i _,_=>rfl
 |.s _,_=>rfl
 |.t a,h=>by rw[er,jC (a:=a) h]
 |.l o a,h=>by cases(show Ξ=Θ from h)
 |.K o ks a,h=>by cases(show Ξ=Θ from h)
theorem jC:∀ {a:Î},fT a=Θ->LM a=a
 |[],_=>rfl
 |d::a,h=>by let H:(il d&&fT a)=Θ:=h;rw[g_]at H;rw[LM,kJ H.1,jC H.2]
end
mutual
theorem DO:∀d:D,er (er d)=er d
 |.L=>rfl
 |.b _=>rfl
 |.i _=>rfl
 |.s _=>rfl
 |.t a=>by rw[er,er,MK a]
 |.l _ a=>by rw[er,er,MK a]
 |.K _ ks a=>by rw[er,er,MK a]
theorem MK:∀a:Î,LM (LM a)=LM a
 |[]=>rfl
 |d::a=>by rw[LM,LM,DO d,MK a]
end
inductive Exc where
 | s
@[reducible]def Res (a:Type):=Except Exc a
noncomputable abbrev LP {a:Type}:Res a:=.error .s
abbrev KZ {c b:Type}(x:Res c)(f:c->Res b):Res b:=match x with
 |.ok a=>f a
 |.error e=>.error e
abbrev LK {a:Type}(c:Bool)(x:Res a):Res a:=if c=Θ then x else LP
def K5 {b:Type}(x:Res b)(k:b->Prop):Prop:=match x with
 |.ok a=>k a
 |.error .s=>False
theorem K5.KZ {c b:Type}{x:Res c}{f:c->Res b}{k:b->Prop}(h:K5 (KZ x f) k):K5 x λa=>K5 (f a) k:=by
 cases x with
 |ok a=>exact h
 |error e=>cases e<;>exact h
theorem K5.LK {a:Type}{c:Bool}{x:Res a}{k:a->Prop}(h:K5 (LK c x) k):c=Θ/\K5 x k:=by
 unfold L2.LK at h
 cases c using zB with
 |true=>exact⟨rfl,h⟩
 |false=>exact False.elim h
def K5.mono (h:K5 x k)(m:∀a,k a->b a):K5 x b:=by
 cases x with
 |ok a=>exact m a h
 |error e=>cases e<;>exact h
def K5.mk (h:K5 x λa=>K5 (f a) k):K5 (L2.KZ x f) k:=by
 cases x with
 |ok a=>exact h
 |error e=>cases e<;>exact h
def K5.eq (h:K5 x k):K5 x λa=>x=.ok a/\k a:=by
 cases x with
 |ok a=>exact⟨rfl,h⟩
 |error e=>cases e<;>exact h
theorem K5.ok (h:K5 (.ok a:Res b) k):k a:=h
def K5.no (h:K5 (LP:Res a) k):False:=h
inductive LD where
 | l (xs:Ï)|d (kvs:List (Key×V))
noncomputable abbrev LD.o:LD->HO
 |.l x=>.l x
 |.d k=>.d k
def KL.sq {K:Frag}  (h:KL K a x):MR K H a x:=by let⟨i,n,e,c,b⟩:=h;exact .inr ⟨_,i.toArray,n,e,rfl,rfl,rfl,by simpa using c,by simpa using b⟩
def Inv.ls (I:Inv X p g H s)(h:Ls X.K H a x) :
  x.length<=Ζ/\∃(its:Í) (n:Nat),Vals x its/\s.heap.get? a=Δ {cls:=.type "list",data:=.seq its.toArray n}:=by
 rcases h with h|⟨its,n,f,c,b⟩
 ·let⟨z,its,n,r,e⟩:=h.ok I.L1;exact⟨z,its,n,r,e⟩
 ·exact⟨by rw[b.length];exact c,its,n,b,I.Oo _ _ f⟩
structure Cl (H H':Hp):Prop where
 t:∀b xs,Rd H b (.t xs)->Rd H' b (.t xs)
def Cl.sq {K:Frag}  (k:Cl H H')(h:Md K H a x):Md K H' a x:=h.elim (λh=>.inl (k.t _ _ h)) .inr
@[reducible]def _root_.Å:=Ω->Prop
mutual
inductive K6 (K:Frag)(S:Å)(H:Hp):V->D->Prop where
 | q:K6 K S H .L .L
 | B (b:Bool):K6 K S H (.b b) (.b b)
 | c (i:Int):K6 K S H (.i i) (.i i)
 | k (x:Str):K6 K S H (.s x) (.s x)
 | t {a:Ω}{xs:Ï}{ds:Î}:Md K H a xs->K4 K S H xs ds->K6 K S H (.r a) (.t ds)
 | L {a:Ω}{xs:Ï}{o:Bool}{ds:Î}:S a->Rd H a (.l xs)->K4 K S H xs ds->K6 K S H (.r a) (.l o ds)
 | l {a:Ω}{xs:Ï}{o:Bool}{ds:Î}:KL K a xs->K4 K S H xs ds->K6 K S H (.r a) (.l o ds)
 | p {a:Ω}{kvs:List (Key×V)}{o:Bool}{ks:List Key}{ds:Î}:S a->Rd H a (.d kvs)->kvs.map (·.1)=ks->K4 K S H (kvs.map (·.2)) ds->K6 K S H (.r a) (.K o ks ds)
inductive K4 (K:Frag)(S:Å)(H:Hp):Ï->Î->Prop where
 | nil:K4 K S H [] []
 | cons {v:V}{d:D}{vs:Ï}{ds:Î}:K6 K S H v d->K4 K S H vs ds->K4 K S H (v::vs) (d::ds)
end
mutual
inductive LS (K:Frag)(F:Å)(H:Hp):V->D->Ì->Prop where
 | L:LS K F H .L .L []
 | B (b:Bool):LS K F H (.b b) (.b b) []
 | I (i:Int):LS K F H (.i i) (.i i) []
 | c (x:Str):LS K F H (.s x) (.s x) []
 | t {a:Ω}{xs:Ï}{ds:Î}{f:Ì}:Md K H a xs->K9 K F H xs ds f->LS K F H (.r a) (.t ds) f
 | g {a:Ω}{xs:Ï}{ds:Î}:F a->Rd H a (.l xs)->K9 K F H xs ds []->LS K F H (.r a) (.l Ξ ds) []
 | l {a:Ω}{xs:Ï}{ds:Î}:KL K a xs->K9 K F H xs ds []->LS K F H (.r a) (.l Ξ ds) []
 | M {a:Ω}{xs:Ï}{ds:Î}{f:Ì}:¬F a->H a=Δ (.l xs)->K9 K F H xs ds f->LS K F H (.r a) (.l Θ ds) (a::f)
 | R {a:Ω}{kvs:List (Key×V)}{ks:List Key}{ds:Î}:F a->Rd H a (.d kvs)->kvs.map (·.1)=ks->K9 K F H (kvs.map (·.2)) ds []->LS K F H (.r a) (.K Ξ ks ds) []
 | P {a:Ω}{kvs:List (Key×V)}{ks:List Key}{ds:Î}{f:Ì}:¬F a->H a=Δ (.d kvs)->kvs.map (·.1)=ks->K9 K F H (kvs.map (·.2)) ds f->LS K F H (.r a) (.K Θ ks ds) (a::f)
inductive K9 (K:Frag)(F:Å)(H:Hp):Ï->Î->Ì->Prop where
 | nil:K9 K F H [] [] []
 | cons {v:V}{d:D}{f:Ì}{vs:Ï}{ds:Î}{g:Ì}:LS K F H v d f->K9 K F H vs ds g->K9 K F H (v::vs) (d::ds) (f++g)
end
def ir.rd (e:ir H H')(h:Rd H a u):Rd H' a u:=by
 rcases h with h|⟨o,h⟩
 ·exact .inl (e _ _ h)
 ·exact .inr ⟨o,e _ _ h⟩
def ir.cl (e:ir H H'):Cl H H':=⟨λ_ _ h=>e.rd h⟩
def yL (a:∀x,¬Rd H l (.t x)):Cl H (upd H l O):=by
 refine⟨λb x h=>?_⟩;have:b≠l:=by rintro rfl;exact a x h
 unfold Rd;rw[ik this];exact h
def Md.cl {K:Frag}  (k:Cl H H')(h:Md K H a x):Md K H' a x:=k.sq h
def ir.NB {K:Frag}  (e:ir H H')(h:Md K H a x):Md K H' a x:=h.cl e.cl
def Fs (h:H l=Δ (.l ys)):Cl H (upd H l O):=
 yL λx z=>by rcases z with z|⟨o,z⟩<;>(rw[h]at z;cases z)
theorem Md.upd {K:Frag}{H:Hp}{a l:Ω}{x:Ï}{ys z:Ï}(b:H l=Δ (.l ys))(h:Md K H a x):Md K (upd H l (.l z)) a x:=h.cl (Fs b)
def Rd.some (h:Rd H a u):H a≠Φ:=by rcases h with h|⟨o,h⟩<;>(rw[h];simp)
section
variable {K:Frag}{S S' F m:Å}{H H':Hp}
def K6.step (f:∀a (u:LD),S a->Rd H a u.o->S' a/\Rd H' a u.o)(g:∀a x,Md K H a x->Md K H' a x)  (h:K6 K S H v d):K6 K S' H' v d:=
 K6.rec (motive_1:=λv d _=>K6 K S' H' v d) (motive_2:=λv d _=>K4 K S' H' v d) .q .B .c .k (λb _ i=>.t (g _ _ b) i)
  (λe b _ i=>.L (f _ (.l _) e b).1 (f _ (.l _) e b).2 i) (λb _ i=>.l b i) (λe b n _ i=>.p (f _ (.d _) e b).1 (f _ (.d _) e b).2 n i) .nil (λ_ _ i j=>.cons i j) h
def K4.step (f:∀a (u:LD),S a->Rd H a u.o->S' a/\Rd H' a u.o)(g:∀a x,Md K H a x->Md K H' a x)  (h:K4 K S H v d):K4 K S' H' v d:=
 K4.rec (motive_1:=λv d _=>K6 K S' H' v d) (motive_2:=λv d _=>K4 K S' H' v d) .q .B .c .k (λb _ i=>.t (g _ _ b) i)
  (λe b _ i=>.L (f _ (.l _) e b).1 (f _ (.l _) e b).2 i) (λb _ i=>.l b i) (λe b n _ i=>.p (f _ (.d _) e b).1 (f _ (.d _) e b).2 n i) .nil (λ_ _ i j=>.cons i j) h
def K6.mono (h:K6 K S H v d)(b:∀a,S a->S' a)(e:ir H H'):K6 K S' H' v d:=h.step (λa x s r=>⟨b a s,e.rd r⟩) λa x s=>e.NB s
def K4.mono (h:K4 K S H v d)(b:∀a,S a->S' a)(e:ir H H'):K4 K S' H' v d:=h.step (λa x s r=>⟨b a s,e.rd r⟩) λa x s=>e.NB s
def K4.OS (h:K4 K S H v d):K4 K (λa=>S a/\H a≠Φ) H v d:=h.step (λa x s r=>⟨⟨s,r.some⟩,r⟩) λa x s=>s
def K6.frozen (h:K6 K F H v d):LS K F H v (L2.er d) []:=
 K6.rec (motive_1:=λv d _=>LS K F H v (L2.er d) []) (motive_2:=λv d _=>K9 K F H v (L2.LM d) []) .L .B .I .c (λa _ i=>.t a i) (λb a _ i=>.g b a i) (λa _ i=>.l a i) (λb a e _ i=>.R b a e i) .nil (λ_ _ i j=>.cons (f:=[]) (g:=[]) i j) h
def K4.frozen (h:K4 K F H v d):K9 K F H v (L2.LM d) []:=
 K4.rec (motive_1:=λv d _=>LS K F H v (L2.er d) []) (motive_2:=λv d _=>K9 K F H v (L2.LM d) []) .L .B .I .c (λa _ i=>.t a i) (λb a _ i=>.g b a i) (λa _ i=>.l a i) (λb a e _ i=>.R b a e i) .nil (λ_ _ i j=>.cons (f:=[]) (g:=[]) i j) h
def Co (h:(a&&b)=Θ):a=Θ/\b=Θ:=by rwa [g_]at h
def K6.free (n:il d=Θ)(h:K6 K S H v d):LS K F H v d []:=
 K6.rec (motive_1:=λv d _=>il d=Θ->LS K F H v d []) (motive_2:=λv d _=>fT d=Θ->K9 K F H v d []) (λ_=>.L) (λb _=>.B b) (λb _=>.I b) (λb _=>.c b) (λa _ i n=>.t a (i n)) (λ_ _ _ _ n=>nomatch n) (λ_ _ _ n=>nomatch n) (λ_ _ _ _ _ n=>nomatch n) (λ_=>.nil) (λ_ _ i j n=>.cons (f:=[]) (g:=[]) (i (Co n).1) (j (Co n).2)) h n
def K4.free (n:fT d=Θ)(h:K4 K S H v d):K9 K F H v d []:=
 K4.rec (motive_1:=λv d _=>il d=Θ->LS K F H v d []) (motive_2:=λv d _=>fT d=Θ->K9 K F H v d []) (λ_=>.L) (λb _=>.B b) (λb _=>.I b) (λb _=>.c b) (λa _ i n=>.t a (i n)) (λ_ _ _ _ n=>nomatch n) (λ_ _ _ n=>nomatch n) (λ_ _ _ _ _ n=>nomatch n) (λ_=>.nil) (λ_ _ i j n=>.cons (f:=[]) (g:=[]) (i (Co n).1) (j (Co n).2)) h n
def jt {p:Å}:∀a∈([]:Ì),p a:=λ_ h=>nomatch h
def LS.read {v:V}{d:D}{f:Ì}(x:∀a,F a->S a)(e:∀a∈f,S a)(h:LS K F H v d f):K6 K S H v d:=
 LS.rec (motive_1:=λv d f _=>(∀a∈f,S a)->K6 K S H v d) (motive_2:=λv d f _=>(∀a∈f,S a)->K4 K S H v d) (λ_=>.q) (λb _=>.B b) (λb _=>.c b) (λb _=>.k b) (λn _ i e=>.t n (i e))
  (λw n _ i _=>.L (x _ w) n (i jt)) (λn _ i _=>.l n (i jt)) (λ_ n _ i e=>.L (e _ (.head _)) (.inl n) (i λb r=>e b (.tail _ r))) (λw n u _ i _=>.p (x _ w) n u (i jt)) (λ_ n u _ i e=>.p (e _ (.head _)) (.inl n) u (i λb r=>e b (.tail _ r))) (λ_=>.nil)
  (λ_ _ i j e=>.cons (i λa s=>e a (u_ _ s)) (j λa s=>e a (x_ _ s))) h e
def K9.read {v:Ï}{d:Î}{f:Ì}(w:∀a,F a->S a)(e:∀a∈f,S a)(h:K9 K F H v d f):K4 K S H v d:=
 K9.rec (motive_1:=λv d f _=>(∀a∈f,S a)->K6 K S H v d) (motive_2:=λv d f _=>(∀a∈f,S a)->K4 K S H v d) (λ_=>.q) (λb _=>.B b) (λb _=>.c b) (λb _=>.k b) (λg _ i e=>.t g (i e))
  (λu g _ i _=>.L (w _ u) g (i jt)) (λg _ i _=>.l g (i jt)) (λ_ g _ i e=>.L (e _ (.head _)) (.inl g) (i λb n=>e b (.tail _ n))) (λu g s _ i _=>.p (w _ u) g s (i jt)) (λ_ g s _ i e=>.p (e _ (.head _)) (.inl g) s (i λb n=>e b (.tail _ n))) (λ_=>.nil)
  (λ_ _ i j e=>.cons (i λa r=>e a (u_ _ r)) (j λa r=>e a (x_ _ r))) h e
def j5 {a:Type}{x:Option a}{y:a}(h:x=Δ y):x≠Φ:=λe=>nomatch h.symm.trans e
def LS.step (p:∀a (u:LD),F a->Rd H a u.o->m a/\Rd H' a u.o)(w:∀a x,Md K H a x->Md K H' a x)  (k:∀a∈f,¬F a->H a≠Φ->¬m a/\H' a=H a)
  (h:LS K F H v d f):LS K m H' v d f:=
 LS.rec (motive_1:=λv d f _=>(∀a∈f,¬F a->H a≠Φ->¬m a/\H' a=H a)->LS K m H' v d f) (motive_2:=λv d f _=>(∀a∈f,¬F a->H a≠Φ->¬m a/\H' a=H a)->K9 K m H' v d f) (λ_=>.L) (λb _=>.B b) (λb _=>.I b) (λb _=>.c b)
  (λe _ i k=>.t (w _ _ e) (i k)) (λn e _ i _=>.g (p _ (.l _) n e).1 (p _ (.l _) n e).2 (i jt)) (λe _ i _=>.l e (i jt))
  (λn e _ i k=>.M (k _ (.head _) n (j5 e)).1 ((k _ (.head _) n (j5 e)).2.trans e) (i λb q=>k b (.tail _ q))) (λn e s _ i _=>.R (p _ (.d _) n e).1 (p _ (.d _) n e).2 s (i jt)) (λn e s _ i k=>.P (k _ (.head _) n (j5 e)).1 ((k _ (.head _) n (j5 e)).2.trans e) s (i λb q=>k b (.tail _ q))) (λ_=>.nil)
  (λ_ _ i j k=>.cons (i λa r=>k a (u_ _ r)) (j λa r=>k a (x_ _ r))) h k
def K9.step (p:∀a (u:LD),F a->Rd H a u.o->m a/\Rd H' a u.o)(w:∀a x,Md K H a x->Md K H' a x)  (k:∀a∈f,¬F a->H a≠Φ->¬m a/\H' a=H a)
  (h:K9 K F H v d f):K9 K m H' v d f:=
 K9.rec (motive_1:=λv d f _=>(∀a∈f,¬F a->H a≠Φ->¬m a/\H' a=H a)->LS K m H' v d f) (motive_2:=λv d f _=>(∀a∈f,¬F a->H a≠Φ->¬m a/\H' a=H a)->K9 K m H' v d f) (λ_=>.L) (λb _=>.B b) (λb _=>.I b) (λb _=>.c b)
  (λe _ i k=>.t (w _ _ e) (i k)) (λn e _ i _=>.g (p _ (.l _) n e).1 (p _ (.l _) n e).2 (i jt)) (λe _ i _=>.l e (i jt))
  (λn e _ i k=>.M (k _ (.head _) n (j5 e)).1 ((k _ (.head _) n (j5 e)).2.trans e) (i λb q=>k b (.tail _ q))) (λn e s _ i _=>.R (p _ (.d _) n e).1 (p _ (.d _) n e).2 s (i jt)) (λn e s _ i k=>.P (k _ (.head _) n (j5 e)).1 ((k _ (.head _) n (j5 e)).2.trans e) s (i λb q=>k b (.tail _ q))) (λ_=>.nil)
  (λ_ _ i j k=>.cons (i λa r=>k a (u_ _ r)) (j λa r=>k a (x_ _ r))) h k
def Cp {p:Å}  (h:p x)(i:∀a∈f,p a):∀a∈x::f,p a:=by
 intro b c;rcases k_.mp c with rfl|c
 ·exact h
 ·exact i b c
def HY {p:Å}{f g:Ì}(h:∀a∈f,p a)(i:∀a∈g,p a):∀a∈f++g,p a:=λb c=>(w_.mp c).elim (h b) (i b)
def LS.own (h:LS K F H v d f):∀a∈f,¬F a/\∃u,H a=Δ u:=
 LS.rec (motive_1:=λ_ _ f _=>∀a∈f,¬F a/\∃u,H a=Δ u) (motive_2:=λ_ _ f _=>∀a∈f,¬F a/\∃u,H a=Δ u) jt (λ_=>jt) (λ_=>jt) (λ_=>jt) (λ_ _ i=>i) (λ_ _ _ _=>jt) (λ_ _ _=>jt)
  (λe b _ i=>Cp ⟨e,_,b⟩ i) (λ_ _ _ _ _=>jt) (λe b _ _ i=>Cp ⟨e,_,b⟩ i) jt (λ_ _ i j=>HY i j) h
def K9.own (h:K9 K F H v d f):∀a∈f,¬F a/\∃u,H a=Δ u:=
 K9.rec (motive_1:=λ_ _ f _=>∀a∈f,¬F a/\∃u,H a=Δ u) (motive_2:=λ_ _ f _=>∀a∈f,¬F a/\∃u,H a=Δ u) jt (λ_=>jt) (λ_=>jt) (λ_=>jt) (λ_ _ i=>i) (λ_ _ _ _=>jt) (λ_ _ _=>jt)
  (λc b _ i=>Cp ⟨c,_,b⟩ i) (λ_ _ _ _ _=>jt) (λc b _ _ i=>Cp ⟨c,_,b⟩ i) jt (λ_ _ i j=>HY i j) h
def K4.ind {P:Ï->Î->Prop}(n:P [] [])(c:∀v d vs e,K6 K S H v d->K4 K S H vs e->P vs e->P (v::vs) (d::e))  (h:K4 K S H vs e):P vs e:=
 K4.rec (motive_1:=λ_ _ _=>True) (motive_2:=λv d _=>P v d) trivial (λ_=>trivial) (λ_=>trivial) (λ_=>trivial) (λ_ _ _=>trivial) (λ_ _ _ _=>trivial) (λ_ _ _=>trivial) (λ_ _ _ _ _=>trivial) n (λa b _ j=>c _ _ _ _ a b j) h
def K9.ind {P:Ï->Î->Ì->Prop}(n:P [] [] [])(c:∀v d f vs e g,LS K F H v d f->K9 K F H vs e g->P vs e g->P (v::vs) (d::e) (f++g))  (h:K9 K F H vs e f):P vs e f:=
 K9.rec (motive_1:=λ_ _ _ _=>True) (motive_2:=λv d f _=>P v d f) trivial (λ_=>trivial) (λ_=>trivial) (λ_=>trivial) (λ_ _ _=>trivial) (λ_ _ _ _=>trivial) (λ_ _ _=>trivial) (λ_ _ _ _=>trivial) (λ_ _ _ _ _=>trivial) (λ_ _ _ _ _=>trivial) n (λa b _ j=>c _ _ _ _ _ _ a b j) h
theorem K4.length (h:K4 K S H vs a):vs.length=a.length:=
 K4.ind (P:=λv d=>v.length=d.length) rfl (λ_ _ _ _ _ _ j=>congrArg (· + 1) j) h
def K4.get {i:Nat}{vs:Ï}{b:Î}{d:D}(h:K4 K S H vs b)(e:b[i]? = Δ d):∃v,vs[i]? = Δ v/\K6 K S H v d:=
 K4.ind (P:=λvs b=>∀i d,b[i]? = Δ d->∃v,vs[i]? = Δ v/\K6 K S H v d) (λi d e=>nomatch (show Φ=Δ d from e)) (λv d _ _ a _ j i d e=>by
  cases i with
  |zero=>exact⟨_,rfl,H_ e ▸ a⟩
  |succ i=>exact j i d e) h i d e
def K4.Qd {i:Nat}{vs:Ï}{b:Î}{v:V}(h:K4 K S H vs b)(e:vs[i]? = Δ v):∃d,b[i]? = Δ d/\K6 K S H v d:=
 K4.ind (P:=λvs b=>∀i v,vs[i]? = Δ v->∃d,b[i]? = Δ d/\K6 K S H v d) (λi d e=>nomatch (show Φ=Δ d from e)) (λv d _ _ a _ j i d e=>by
  cases i with
  |zero=>exact⟨_,rfl,H_ e ▸ a⟩
  |succ i=>exact j i d e) h i v e
def K4.append (h:K4 K S H vs b)(h':K4 K S H ws e):K4 K S H (vs++ws) (b++e):=
 K4.ind (P:=λv d=>K4 K S H (v++ws) (d++e)) h' (λ_ _ _ _ a _ j=>.cons a j) h
theorem K4.take (n:Nat)(h:K4 K S H vs b):K4 K S H (vs.take n) (b.take n):=
 K4.ind (P:=λv d=>∀n,K4 K S H (v.take n) (d.take n)) (λn=>by cases n<;>exact .nil) (λ_ _ _ _ a _ j n=>by
  cases n with
  |zero=>exact .nil
  |succ n=>exact .cons a (j n)) h n
theorem K4.drop (n:Nat)(h:K4 K S H vs c):K4 K S H (vs.drop n) (c.drop n):=
 K4.ind (P:=λv d=>∀n,K4 K S H (v.drop n) (d.drop n)) (λn=>by cases n<;>exact .nil) (λ_ _ _ _ a b j n=>by
  cases n with
  |zero=>exact .cons a b
  |succ n=>exact j n) h n
theorem K9.length (h:K9 K F H vs a f):vs.length=a.length:=
 K9.ind (P:=λv d _=>v.length=d.length) rfl (λ_ _ _ _ _ _ _ _ j=>congrArg (· + 1) j) h
def K9.append (h:K9 K F H vs b f)(h':K9 K F H ws e g):K9 K F H (vs++ws) (b++e) (f++g):=
 K9.ind (P:=λv d f=>K9 K F H (v++ws) (d++e) (f++g)) h' (λ_ _ _ _ _ _ a _ j=>by
  rw[G_]
  exact .cons a j) h
def K6.Mr {o:Bool}  (h:K6 K S H v (.l o f)):∃a x,v=.r a/\MR K H a x/\K4 K S H x f:=by
 cases h with
 |L g e b=>exact⟨_,_,rfl,.inl e,b⟩
 |l e b=>exact⟨_,_,rfl,e.sq,b⟩
def K6.RV {o:Bool}  (h:K6 K S H v (.l o f)):∃a x,v=.r a/\Ls K H a x/\K4 K S H x f:=by
 cases h with
 |L g e b=>exact⟨_,_,rfl,.inl e,b⟩
 |l e b=>exact⟨_,_,rfl,.inr e,b⟩
def K6.M3 (h:K6 K S H v (.t f)):∃a x,v=.r a/\Md K H a x/\K4 K S H x f:=by
 cases h with
 |t e b=>exact⟨_,_,rfl,e,b⟩
def K6.L5 (h:K6 K S H v (.i i)):v=.i i:=by cases h;rfl
def K6.Qq (h:K6 K S H v (.b i)):v=.b i:=by cases h;rfl
def K6.Mz (h:K6 K S H v (.s i)):v=.s i:=by cases h;rfl
def K6.NU (h:K6 K S H v .L):v=.L:=by cases h;rfl
def K4.ints {ns:È}(h:K4 K S H vs (ns.map .i)):vs=ns.map .i:=
 K4.ind (P:=λv d=>∀ns:È,d=ns.map .i->v=ns.map .i) (λns e=>by
  cases ns using zL with
  |nil=>rfl
  |cons n ns=>exact nomatch e) (λ_ _ _ _ a _ j ns e=>by
  cases ns using zL with
  |nil=>exact nomatch e
  |cons n ns=>
   let⟨c,b⟩:=List.cons.inj e;subst c;rw[j ns b,a.L5]
   rfl) h ns rfl
def K4.strs {ns:Æ}(h:K4 K S H vs (ns.map .s)):vs=ns.map .s:=
 K4.ind (P:=λv d=>∀ns:Æ,d=ns.map .s->v=ns.map .s) (λns e=>by
  cases ns using zL with
  |nil=>rfl
  |cons n ns=>exact nomatch e) (λ_ _ _ _ a _ j ns e=>by
  cases ns using zL with
  |nil=>exact nomatch e
  |cons n ns=>
   let⟨c,b⟩:=List.cons.inj e;subst c;rw[j ns b,a.Mz]
   rfl) h ns rfl
def K4.bls {ns:List Bool}(h:K4 K S H vs (ns.map .b)):vs=ns.map .b:=
 K4.ind (P:=λv d=>∀ns:List Bool,d=ns.map .b->v=ns.map .b) (λns e=>by
  cases ns using zL with
  |nil=>rfl
  |cons n ns=>exact nomatch e) (λ_ _ _ _ a _ j ns e=>by
  cases ns using zL with
  |nil=>exact nomatch e
  |cons n ns=>
   let⟨f,c⟩:=List.cons.inj e;subst f;rw[j ns c,a.Qq]
   rfl) h ns rfl
theorem K4.ofInts:∀(ns:È),K4 K S H (ns.map .i) (ns.map .i)
 |[]=>.nil
 |n::ns=>.cons (.c n) (K4.ofInts ns)
end
theorem ir.upd {H:Hp}{a:Ω}{o:HO}(h:H a=Φ):ir H (upd H a o):=λb u e=>by rw[ik (iO e h)];exact e
def zD:type_of% @D.casesOn.{0}:=@D.casesOn.{0}
inductive TR where
 | a|s|m|f|M|p
 deriving DecidableEq
inductive QM where
 | e|n|l|L|G|g|P|T|Q|O
 deriving DecidableEq
inductive Kd where
 | s|i|b|l|t
 deriving DecidableEq
inductive Bi where
 | l|M|m|L|t|o|a|A
 deriving DecidableEq
inductive Mt where
 | j|s
 deriving DecidableEq
inductive Tg where
 | n (i:Nat)|t (ts:List Tg)
structure Gm where
 N:Æ
 kd:List NameKind
 gl:Ç
 df:Bool
 cm:Bool:=Θ
 rs:Bool:=Θ
 tr:Bool:=Ξ
 io:Â:=Φ
mutual
inductive IR where
 | c (d:D)
 | g (n:Nat) (d:D)
 | v (i:Nat)
 | b (op:TR) (a b:IR)
 | n (a:IR)
 | a (op:QM) (a b:IR)
 | e (op MT:QM) (a b c:IR)
 | M (a b:IR)
 | O (a b:IR)
 | f (a:IR)
 | I (t a b:IR)
 | t (es:List IR)
 | l (es:List IR)
 | i (a i:IR)
 | S (a:IR) (lo hi:Option IR)
 | C (f:Nat) (es:List IR)
 | B (f:Bi) (es:List IR)
 | o
 | m (a k:IR)
 | T (n:Bool) (k a:IR)
 | N (a:IR) (k:Kd)
 | h (a:IR)
 | j (a:IR)
 | k (a b:IR)
 | s (a:IR)
 | p (a e:IR)
 | P (m:Mt) (o:IR) (es:List IR)
 | d (G:Gm) (fr:Ç) (tg:Tg) (src:Sr) (ifs:List IR) (elt:IR)
inductive Sr where
 | M (n:IR)|v (e:IR)|z (a b:IR)|N (e:IR)
end
@[reducible]def _root_.Ë:=List IR
inductive IS where
 | a (tg:Tg) (e:IR)
 | A (i:Nat) (e:IR)
 | V (f:Nat) (es:Ë)
 | N (i:Nat) (e:IR)
 | R (i j:Nat) (e c x v w:IR)
 | U (j:Nat) (G:Gm) (fr:Ç) (t:Nat) (s:Sr)
 | c (i:Nat) (k:IR) (f:Nat) (es:Ë)
 | P (f:Nat) (es:Ë) (i:Nat) (k e:IR) (a b:List IS)
 | i (i:Nat) (k e:IR)
 | S (j f:Nat) (es:Ë) (i:Nat)
 | e (e:IR)
 | r (e:IR)
 | L (t:IR) (a b:List IS)
 | b (tg:Tg) (src:Sr) (body:List IS)
 | B|C|p
 | n
 | Q (i j:Nat) (e:IR)
@[reducible]def _root_.Ê:=List IS
@[reducible]def _root_.Ã:=Option D
@[reducible]def Ev:=List (Ã)
inductive Fl where
 | n (τ:Ev)|r (d:D)|b (τ:Ev)|c (τ:Ev)|R (d:D) (ks:List Key) (vs:Î)
abbrev jK {a:Type}(x:List a)(lo hi:Option Int):List a:=(x.drop (HT.N2 x.length 0 lo)).take (HT.N2 x.length x.length hi - HT.N2 x.length 0 lo)
abbrev jh (n:Nat):Bool:=decide (n<=Ζ)
abbrev jf (n:Nat):Bool:=decide (n < Ζ)
abbrev NG:TR->D->D->Res D
 |.a,.i a,.i b=>.ok (.i (a+b))
 |.a,.s a,.s b=>LK (jh (a.length+b.length)) (.ok (.s (a++b)))
 |.a,.l _ a,.l _ b=>LK (jh (a.length+b.length)) (.ok (.l Θ (a++b)))
 |.s,.i a,.i b=>.ok (.i (a - b))
 |.m,.i a,.i b=>LK (decide (-(2 ^ 64) < a/\a < 2 ^ 64)||decide (-(2 ^ 64) < b/\b < 2 ^ 64)) (.ok (.i (a*b)))
 |.m,.s a,.i b=>LK (decide (-16000<=b/\b<=16000/\a.length<=1000)) (.ok (.s (Txt.mul a b)))
 |.f,.i a,.i b=>LK (decide (0 < b/\b < 1073741824)) (.ok (.i (a / b)))
 |.M,.i a,.i b=>LK (decide (0 < b)) (.ok (.i (a % b)))
 |.p,.i a,.i b=>LK (decide (0<=b/\b<=1000000/\a.natAbs < 2 ^ 64)) (.ok (.i (a ^ b.toNat)))
 |_,_,_=>LP
abbrev iw:D->D->Res D
 |.l _ a,.i i=>match M5 a i with
  |some d=>.ok d
  |none=>LP
 |.t a,.i i=>match M5 a i with
  |some d=>.ok d
  |none=>LP
 |.s z,.i i=>LK (jh z.length) (match M5 z.cps.toList i with
  |some c=>.ok (.s ⟨#[c]⟩)
  |none=>LP)
 |_,_=>LP
abbrev rN:D->Option Int->Option Int->Res D
 |.l _ a,lo,hi=>.ok (.l Θ (jK a lo hi))
 |.s z,lo,hi=>LK (jh z.length) (.ok (.s (Txt.slice z lo hi)))
 |_,_,_=>LP
abbrev iN:D->Res Bool
 |.b b=>.ok b
 |_=>LP
abbrev kK (f:D->D->Res Bool):Î->Î->Res Bool
 |[],[]=>.ok Θ
 |a::r,b::t=>KZ (f a b) λx=>KZ (kK f r t) λy=>.ok (x&&y)
 |_,_=>.ok Ξ
abbrev MP:Nat->D->D->Res Bool
 |0,_,_=>LP
 |_+1,.K _ _ _,_=>LP
 |_+1,_,.K _ _ _=>LP
 |_+1,.L,.L=>.ok Θ
 |_+1,.L,_=>.ok Ξ
 |_+1,.b a,.b b=>.ok (a == b)
 |_+1,.b a,.i b=>.ok ((if a then 1 else 0) == b)
 |_+1,.b _,_=>.ok Ξ
 |_+1,.i a,.b b=>.ok (a == (if b then 1 else 0))
 |_+1,.i a,.i b=>.ok (a == b)
 |_+1,.i _,_=>.ok Ξ
 |_+1,.s a,.s b=>.ok (a == b)
 |_+1,.s _,_=>.ok Ξ
 |n+1,.t a,.t b=>kK (MP n) a b
 |_+1,.t _,_=>.ok Ξ
 |n+1,.l _ a,.l _ b=>kK (MP n) a b
 |_+1,.l _ _,_=>.ok Ξ
abbrev MW (d:D):Î->Res Bool
 |[]=>.ok Ξ
 |e::r=>KZ (MP 40 e d) λx=>KZ (MW d r) λy=>.ok (x||y)
abbrev uZ (x y:Str):Bool:=!(Builtin.Str.occurrences x y 0 x.length 1).isEmpty
abbrev kD:D->Bool
 |.L=>Θ
 |_=>Ξ
abbrev oq:D->Bool
 |.K _ _ _=>Ξ
 |_=>Θ
abbrev MN:QM->D->D->Res Bool
 |.e,a,b=>MP 40 a b
 |.n,a,b=>KZ (MP 40 a b) λr=>.ok !r
 |.l,.i a,.i b=>.ok (decide (a < b))
 |.L,.i a,.i b=>.ok (decide (a<=b))
 |.G,.i a,.i b=>.ok (decide (b < a))
 |.g,.i a,.i b=>.ok (decide (b<=a))
 |.P,.s y,.s x=>.ok (uZ x y)
 |.P,a,.l _ c=>MW a c
 |.T,a,.l _ c=>KZ (MW a c) λr=>.ok !r
 |.P,a,.t c=>MW a c
 |.T,a,.t c=>KZ (MW a c) λr=>.ok !r
 |.Q,a,.L=>.ok (kD a)
 |.O,a,.L=>.ok (!kD a)
 |.O,.b a,.b b=>.ok (a != b)
 |.O,.L,.b _=>.ok Θ
 |_,_,_=>LP
abbrev i6:Î->Option (È)
 |[]=>Δ []
 |.i i::r=>(i6 r).map (i::·)
 |_::_=>Φ
abbrev j9:Î->Option (Æ)
 |[]=>Δ []
 |.s i::r=>(j9 r).map (i::·)
 |_::_=>Φ
abbrev jL:Î->Option (List Bool)
 |[]=>Δ []
 |.b i::r=>(jL r).map (i::·)
 |_::_=>Φ
abbrev kh:Kd->D->Bool
 |.s,.s _=>Θ
 |.i,.i _=>Θ
 |.i,.b _=>Θ
 |.b,.b _=>Θ
 |.l,.l _ _=>Θ
 |.t,.t _=>Θ
 |_,_=>Ξ
abbrev kc (x:Str):Î:=x.cps.toList.map λc=>.s ⟨#[c]⟩
abbrev jT:Bi->Î->Res D
 |.l,[.s x]=>LK (jh x.length) (.ok (.i x.length))
 |.l,[.t c]=>.ok (.i c.length)
 |.l,[.l _ c]=>.ok (.i c.length)
 |.M,[.i a,.i b]=>.ok (.i (if b < a then b else a))
 |.m,[.i a,.i b]=>.ok (.i (if b > a then b else a))
 |.o,[.s x]=>LK (decide (x.length=1)) (.ok (.i (x.cps.getD 0 0:Nat)))
 |.L,[.l _ c]=>.ok (.l Θ c)
 |.t,[.l _ c]=>.ok (.t c)
 |.a,[.l _ c]=>match jL c with
  |some bs=>.ok (.b (bs.all id))
  |none=>LP
 |.A,[.l _ c]=>match jL c with
  |some bs=>.ok (.b (bs.any id))
  |none=>LP
 |_,_=>LP
abbrev mT:D->Option Key
 |.i i=>Δ (.inl i)
 |.s x=>Δ (.inr x)
 |_=>Φ
abbrev look:List Key->Î->Key->Ã
 |k::ks,d::a,q=>if k=q then Δ d else look ks a q
 |_,_,_=>Φ
abbrev rO (ks:List Key)(q:Key):Bool:=ks.any λk=>decide (k=q)
abbrev ou (ks:List Key)(q:Key):List Key:=if rO ks q=Θ then ks else ks++[q]
abbrev lF (ks:List Key)(a:Î)(q:Key)(d:D):Î:=if rO ks q=Θ then List.zipWith (λk e=>if k=q then d else e) ks a else a++[d]
abbrev rP:D->D->Res D
 |.K _ ks a,y=>match mT y with
  |some q=>(match look ks a q with
   |some d=>.ok d
   |none=>LP)
  |none=>LP
 |_,_=>LP
abbrev rQ (n:Bool):D->D->Res D
 |.K _ ks a,y=>match mT y with
  |some q=>.ok (.b (n != (look ks a q).isSome))
  |none=>LP
 |_,_=>LP
abbrev lU:D->Bool
 |.s _=>Θ
 |_=>Ξ
abbrev ox:Mt->D->Î->Res D
 |.j,.s x,[.l _ a]=>match j9 a with
  |some Y=>LK (decide ((Y.map (·.length)).sum+Y.length*x.length<=16777216)) (.ok (.s (Txt.join x Y)))
  |none=>LP
 |.s,.s x,[.s y]=>.ok (.b (Txt.startswith x y))
 |_,_,_=>LP
abbrev kL:D->Res (Î)
 |.l _ a=>.ok a
 |.t a=>.ok a
 |.s x=>LK (jh x.length) (.ok (kc x))
 |_=>LP
abbrev pq:D->Res (Î)
 |.l _ a=>.ok a
 |.t a=>.ok a
 |_=>LP
abbrev jU (c e:Î):Î:=List.zipWith (λa b=>.t [a,b]) c e
abbrev lV (a:Î):Î:=List.zipWith (λ(k:Nat) d=>.t [.i k,d]) (List.range a.length) a
abbrev Cq:D->Res (Î)
 |.l _ a=>.ok (lV a)
 |_=>LP
abbrev oy (x y:D):Res (Î):=KZ (pq x) λa=>KZ (pq y) λe=>.ok (jU a e)
abbrev u0 (x y:D):Res D:=KZ (oy x y) λa=>LK (jh a.length) (.ok (.l Θ a))
abbrev iQ (a b:Int):Î:=(List.range (b - a).toNat).map λk=>.i (a+(k:Nat))
abbrev Cr:D->Res D
 |.l _ a=>.ok (.l Θ a.reverse)
 |_=>LP
abbrev u6:D->Res D
 |.l _ a=>match i6 a with
  |some ns=>LK (decide (ns.length < 64)) (.ok (.l Θ ((PySem.W.sortI (dd ns)).map .i)))
  |none=>LP
 |_=>LP
abbrev uc:D->Bool
 |.l _ _=>Θ
 |_=>Ξ
abbrev rR:D->D->Res D
 |.l _ a,.i y=>match i6 a with
  |some ns=>(match lC y ns with
   |some j=>.ok (.i j)
   |none=>LP)
  |none=>LP
 |_,_=>LP
abbrev rS:D->Res D
 |.i n=>LK (decide (0<=n/\n<=1000)) (.ok (.l Θ ((List.range n.toNat).map λk=>.i (k:Nat))))
 |_=>LP
abbrev nq (i:Int):Bool:=decide (-(2 ^ 62)<=i/\i < 2 ^ 62)
abbrev iD {b a:Type}(f:b->Res (Option a)):List b->Res (List a)
 |[]=>.ok []
 |x::X=>KZ (f x) λ
  |some d=>KZ (iD f X) λr=>.ok (d::r)
  |none=>iD f X
mutual
noncomputable def ju:Tg->D->Ev->Res Ev
 |.n i,d,a=>.ok (a.set i (Δ d))
 |.t ts,.t b,a=>LK (decide (b.length=ts.length)) (mE ts b a)
 |.t ts,.l _ b,a=>LK (decide (b.length=ts.length)) (mE ts b a)
 |.t _,_,_=>LP
noncomputable def mE:List Tg->Î->Ev->Res Ev
 |t::ts,d::c,b=>KZ (ju t d b) λa=>mE ts c a
 |[],[],b=>.ok b
 |_,_,_=>LP
end
abbrev ic (a:Ev)(i:Nat):Ã:=(a[i]?).join
mutual
noncomputable def vars:IR->Ç
 |.c _=>[]
 |.g _ _=>[]
 |.v i=>[i]
 |.b _ a b=>vars a++vars b
 |.n a=>vars a
 |.a _ a b=>vars a++vars b
 |.e _ _ a b c=>vars a++vars b++vars c
 |.M a b=>vars a++vars b
 |.O a b=>vars a++vars b
 |.f a=>vars a
 |.I t a b=>vars t++vars a++vars b
 |.t E=>ij E
 |.l E=>ij E
 |.i a i=>vars a++vars i
 |.S a lo hi=>vars a++yM lo++yM hi
 |.C _ E=>ij E
 |.B _ E=>ij E
 |.o=>[]
 |.m a k=>vars a++vars k
 |.T _ k a=>vars k++vars a
 |.N a _=>vars a
 |.h a=>vars a
 |.j a=>vars a
 |.k a b=>vars a++vars b
 |.s a=>vars a
 |.p a e=>vars a++vars e
 |.P _ o E=>vars o++ij E
 |.d _ fr _ q _ _=>fr++j6 q
noncomputable def ij:Ë->Ç
 |[]=>[]
 |e::E=>vars e++ij E
noncomputable def yM:Option IR->Ç
 |none=>[]
 |some e=>vars e
noncomputable def j6:Sr->Ç
 |.M n=>vars n
 |.v e=>vars e
 |.z a b=>vars a++vars b
 |.N a=>vars a
end
@[reducible]def _root_.Ä:=Nat->Î->Res D
mutual
noncomputable def K8 (cl:Ä):IR->Ev->Res D
 |.c d,_=>.ok d
 |.g _ d,_=>.ok d
 |.v i,q=>match ic q i with
  |some d=>.ok d
  |none=>LP
 |.b w a b,q=>KZ (K8 cl a q) λx=>KZ (K8 cl b q) λy=>NG w x y
 |.n a,q=>KZ (K8 cl a q) λ
  |.i i=>.ok (.i (-i))
  |_=>LP
 |.a w a b,q=>KZ (K8 cl a q) λx=>KZ (K8 cl b q) λy=>KZ (MN w x y) λr=>.ok (.b r)
 |.e w U a b c,q=>KZ (K8 cl a q) λx=>KZ (K8 cl b q) λy=>KZ (MN w x y) λr=>
  if r=Θ then KZ (K8 cl c q) λz=>KZ (MN U y z) λR=>.ok (.b R) else .ok (.b Ξ)
 |.M a b,q=>KZ (K8 cl a q) λx=>KZ (iN x) λr=>if r=Θ then K8 cl b q else .ok x
 |.O a b,q=>KZ (K8 cl a q) λx=>KZ (iN x) λr=>if r=Θ then .ok x else K8 cl b q
 |.f a,q=>KZ (K8 cl a q) λx=>KZ (iN x) λr=>.ok (.b !r)
 |.I t a b,q=>KZ (K8 cl t q) λx=>KZ (iN x) λr=>if r=Θ then K8 cl a q else K8 cl b q
 |.t E,q=>KZ (iJ cl E q) λu=>LK (jh u.length) (.ok (.t u))
 |.l E,q=>KZ (iJ cl E q) λu=>LK (jh u.length) (.ok (.l Θ u))
 |.i a i,q=>KZ (K8 cl a q) λx=>KZ (K8 cl i q) λy=>iw x y
 |.S a lo hi,q=>KZ (K8 cl a q) λx=>KZ (qv cl lo q) λl=>KZ (qv cl hi q) λh=>rN x l h
 |.C f E,q=>KZ (iJ cl E q) λu=>cl f (LM u)
 |.B f E,q=>KZ (iJ cl E q) λu=>jT f u
 |.o,_=>.ok (.K Θ [] [])
 |.m a k,q=>KZ (K8 cl a q) λx=>KZ (K8 cl k q) λy=>rP x y
 |.T n k a,q=>KZ (K8 cl k q) λy=>KZ (K8 cl a q) λx=>rQ n x y
 |.N a k,q=>KZ (K8 cl a q) λx=>LK (oq x) (.ok (.b (kh k x)))
 |.h a,q=>KZ (K8 cl a q) Cr
 |.j a,q=>KZ (K8 cl a q) rS
 |.k a b,q=>KZ (K8 cl a q) λx=>KZ (K8 cl b q) λy=>u0 x y
 |.s a,q=>KZ (K8 cl a q) u6
 |.p a e,q=>KZ (K8 cl a q) λx=>LK (uc x) (KZ (K8 cl e q) λy=>rR x y)
 |.P m o E,q=>KZ (K8 cl o q) λx=>LK (lU x) (KZ (iJ cl E q) λu=>ox m x u)
 |.d G fr L F H J,q=>KZ (jY cl F q) λA=>LK (jf A.length) (KZ ((iD (λx=>KZ (ju L x (fr.map (ic q)++Τ (G.N.length - fr.length) Φ)) λQ=>
   KZ (kE cl H Q) λr=>if r=Θ then KZ (K8 cl J Q) λd=>.ok (Δ d) else .ok Φ) A)) λu=>.ok (.l Θ u))
noncomputable def iJ (cl:Ä):Ë->Ev->Res (Î)
 |[],_=>.ok []
 |e::E,a=>KZ (K8 cl e a) λd=>KZ (iJ cl E a) λb=>.ok (d::b)
noncomputable def qv (cl:Ä):Option IR->Ev->Res (Option Int)
 |none,_=>.ok Φ
 |some e,a=>KZ (K8 cl e a) λ
  |.i i=>.ok (Δ i)
  |_=>LP
noncomputable def kE (cl:Ä):Ë->Ev->Res Bool
 |[],_=>.ok Θ
 |e::E,a=>KZ (KZ (K8 cl e a) iN) λr=>if r=Θ then kE cl E a else .ok Ξ
noncomputable def jY (cl:Ä):Sr->Ev->Res (Î)
 |.M n,c=>KZ (K8 cl n c) λ
  |.i i=>LK (nq i) (.ok (iQ 0 i))
  |_=>LP
 |.v e,c=>KZ (K8 cl e c) kL
 |.z a b,c=>KZ (K8 cl a c) λx=>KZ (K8 cl b c) λy=>oy x y
 |.N a,c=>KZ (K8 cl a c) Cq
end
abbrev Wa (cl:Ä)(t:IR)(a:Ev):Res Bool:=KZ (K8 cl t a) iN
abbrev mU (is:Ç):Nat->Ev->Ev
 |_,[]=>[]
 |k,o::a=>(if is.contains k then o.map er else o)::mU is (k+1) a
noncomputable abbrev LZ (is:Ç)(a:Ev):Ev:=mU is 0 a
abbrev iS : IR->Bool
 |.b .a _ _=>Θ
 |.b .m _ _=>Θ
 |.S _ _ _=>Θ
 |.B .L _=>Θ
 |.d _ _ _ _ _ _=>Θ
 |.j _=>Θ
 |_=>Ξ
abbrev iE (e:IR)(d:D)(a:Ev):D×Ev:=
 if il d=Θ then(d,a)
 else match iS e,d with
  |true,.l _ b=>if fT b=Θ then(.l Θ b,a) else(.l Θ (LM b),LZ (vars e) a)
  |_,_=>(er d,LZ (vars e) a)
mutual
noncomputable def Ml (cl:Ä)(mv:Bool):IR->Ev->Res (D×Ev)
 |.v i,c=>match ic c i with
  |some d=>if mv=Θ then .ok (d,c.set i Φ) else .ok (er d,c.set i (Δ (er d)))
  |none=>LP
 |.t E,c=>KZ (pw cl mv E c) λp=>LK (jh p.1.length) (.ok (.t p.1,p.2))
 |.l E,c=>KZ (pw cl mv E c) λp=>LK (jh p.1.length) (.ok (.l Θ p.1,p.2))
 |.o,c=>.ok (.K Θ [] [],c)
 |.I t a b,c=>KZ (Wa cl t c) λr=>if r=Θ then Ml cl mv a c else Ml cl mv b c
 |.C f E,c=>KZ (iJ cl E c) λg=>KZ (cl f (LM g)) λd=>if il d=Θ then .ok (d,c) else .ok (d,LZ (ij E) c)
 |e,c=>KZ (K8 cl e c) λd=>.ok (iE e d c)
noncomputable def pw (cl:Ä)(mv:Bool):Ë->Ev->Res (Î×Ev)
 |[],a=>.ok ([],a)
 |e::E,a=>KZ (Ml cl mv e a) λp=>KZ (pw cl mv E p.2) λq=>.ok (p.1::q.1,q.2)
end
abbrev forM (body:D->Ev->Res Fl):Î->Ev->Res Fl
 |[],e=>.ok (.n e)
 |x::X,e=>KZ (body x e) λ
  |.n a=>forM body X a
  |.c a=>forM body X a
  |.b a=>.ok (.n a)
  |.r d=>.ok (.r d)
  |.R d ks vs=>.ok (.R d ks vs)
abbrev rT (cl:Ä)(s:Sr)(a:Ev):Res (Î×Ev):=KZ (jY cl s a) λi=>match s with
 |.M _=>.ok (i,a)
 |s=>.ok (LM i,LZ (j6 s) a)
abbrev yN (j i:Nat)(a:Ev):D->Res Fl
 |.t [d,.K Ξ ks vs]=>LK (fT vs) (.ok (.n ((a.set i (Δ (.K Θ ks vs))).set j (Δ d))))
 |_=>LP
abbrev ud:D->Res Fl
 |.t [d,.K Ξ _ vs]=>LK (fT vs) (.ok (.r d))
 |_=>LP
abbrev Cs (j:Nat)(a:Ev)(its:Î):Res Fl:=LK (jf its.length) (.ok (.n (a.set j (Δ (.l Θ (Τ (its.length+1) (.l Θ [])))))))
abbrev ue:Ev->Nat->Bool
 |[],_=>Ξ
 |_::_,0=>Θ
 |_::a,j+1=>ue a j
abbrev Ct (i j k:Nat)(b e:Î)(a:Ev)(d:D):D->Res Fl
 |.i z=>(match NT e.length z with
  |some t=>LK (il d) (.ok (.n ((a.set i (Δ (.l Θ (b.set k (.l Θ (e.set t d)))))).set j Φ)))
  |none=>LP)
 |_=>LP
abbrev Ft (i j k:Nat)(b e:Î)(a:Ev)(d:D):Res Fl:=LK (il d&&jf e.length) (.ok (.n ((a.set i (Δ (.l Θ (b.set k (.l Θ (e++[d])))))).set j Φ)))
abbrev xk (cl:Ä)(i j k:Nat)(x v w:IR)(b e:Î)(a:Ev)(r:Bool):Res Fl:=
 if r=Θ then KZ (K8 cl v (a.set j (Δ (.l Θ e)))) λd=>KZ (K8 cl x (a.set j (Δ (.l Θ e)))) (Ct i j k b e a d)
 else KZ (K8 cl w (a.set j (Δ (.l Θ e)))) (Ft i j k b e a)
abbrev uf (cl:Ä)(i j:Nat)(c x v w:IR)(b:Î)(a:Ev):Â->Res Fl
 |some k=>(match b[k]? with
  |some (.l Θ e)=>LK (fT e&&ue a j) (KZ (KZ (K8 cl c (a.set j (Δ (.l Θ e)))) iN) (xk cl i j k x v w b e a))
  |_=>LP)
 |none=>LP
abbrev Cu (cl:Ä)(i j:Nat)(c x v w:IR)(a:Î)(b:Ev):D->Res Fl
 |.i z=>uf cl i j c x v w a b (NT a.length z)
 |_=>LP
abbrev yO (cl:Ä)(i j:Nat)(e c x v w:IR)(a:Ev):Ã->Res Fl
 |some (.l Θ b)=>KZ (K8 cl e a) (Cu cl i j c x v w b a)
 |_=>LP
abbrev rV (i:Nat)(q:D×Ev):Res Fl:=match ic q.2 i with
 |some (.K Θ ks vs)=>LK (fT vs) (.ok (.R q.1 ks vs))
 |_=>LP
abbrev DP (i:Nat)(a:Ev)(d:D)(ks:List Key)(vs:Î):Option Key->Res Fl
 |some q=>LK (il d&&jf ks.length) (.ok (.n (a.set i (Δ (.K Θ (ou ks q) (lF ks vs q d))))))
 |none=>LP
abbrev rW (cl:Ä)(i:Nat)(k:IR)(a:Ev):D->Res Fl
 |.t [d,.K Ξ ks vs]=>LK (fT vs) (KZ (K8 cl k (a.set i (Δ (.K Θ ks vs)))) λy=>DP i (a.set i (Δ (.K Θ ks vs))) d ks vs (mT y))
 |_=>LP
abbrev rX (cl:Ä)(i:Nat)(k e:IR)(a:Ev):D->Res (Bool×Ev)
 |.t [d,.K Ξ ks vs]=>LK (fT vs) (KZ (K8 cl k (a.set i (Δ (.K Θ ks vs)))) λy=>KZ (iw d y) λx=>KZ (K8 cl e (a.set i (Δ (.K Θ ks vs)))) λz=>KZ (MN .n x z) λr=>.ok (r,a.set i (Δ (.K Θ ks vs))))
 |_=>LP
abbrev yQ (i j:Nat)(e:Î)(a:Ev)(z:Int):Option (È)->Res Fl
 |some ns=>LK (decide (0<=z/\z.toNat < ns.length/\ns.length<=1000)&&jf e.length&&(i != j)) (.ok (.n ((a.set j (Δ (.l Θ ((ns.eraseIdx z.toNat).map .i)))).set i (Δ (.l Θ (e++[.i (ns.getD z.toNat 0)]))))))
 |none=>LP
abbrev u7 (i j:Nat)(e b:Î)(a:Ev):D->Res Fl
 |.i z=>yQ i j e a z (i6 b)
 |_=>LP
abbrev u9 (cl:Ä)(i j:Nat)(e:IR)(a:Ev):Ã->Ã->Res Fl
 |some (.l Θ E),Δ (.l Θ b)=>KZ (K8 cl e a) (u7 i j E b a)
 |_,_=>LP
mutual
noncomputable def Ms (cl:Ä):IS->Ev->Res Fl
 |.a q e,g=>KZ (Ml cl Ξ e g) λp=>KZ (ju q p.1 p.2) λm=>.ok (.n m)
 |.A i e,g=>match ic g i with
  |some (.l _ _)=>KZ (Ml cl Ξ e g) λp=>(match ic p.2 i with
   |some (.l Θ h)=>LK (jf h.length) (.ok (.n (p.2.set i (Δ (.l Θ (h++[p.1]))))))
   |_=>LP)
  |_=>LP
 |.N i e,g=>KZ (Ml cl Θ e g) (rV i)
 |.U j _ _ _ s,g=>KZ (jY cl s g) (Cs j g)
 |.R i j e c x v w,g=>yO cl i j e c x v w g (ic g i)
 |.c i k f E,g=>match ic g i with
  |some (.K Θ ks vs)=>LK (fT vs) (KZ (iJ cl E g) λh=>KZ ((cl f (LM h++[.K Ξ ks vs]))) (rW cl i k (LZ (ij E) g)))
  |_=>LP
 |.P f E i k e a b,g=>match ic g i with
  |some (.K Θ ks vs)=>LK (fT vs) (KZ (iJ cl E g) λh=>KZ ((cl f (LM h++[.K Ξ ks vs]))) λd=>KZ (rX cl i k e (LZ (ij E) g) d) λp=>if p.1=Θ then iz cl a p.2 else iz cl b p.2)
  |_=>LP
 |.V f E,g=>KZ (iJ cl E g) λh=>KZ ((cl f (LM h++[.K Ξ [] []]))) ud
 |.i i k e,g=>match ic g i with
  |some (.l _ _)=>KZ (K8 cl k g) λy=>KZ (Ml cl Ξ e g) λp=>(match y,ic p.2 i with
   |.i z,Δ (.l Θ h)=>LK (decide (0<=z/\z.toNat<=h.length)&&jf h.length) (.ok (.n (p.2.set i (Δ (.l Θ (h.take z.toNat++p.1::h.drop z.toNat))))))
   |_,_=>LP)
  |_=>LP
 |.S j f E i,g=>match ic g i with
  |some (.K Θ ks vs)=>LK (fT vs) (KZ (iJ cl E g) λh=>KZ ((cl f (LM h++[.K Ξ ks vs]))) (yN j i (LZ (ij E) g)))
  |_=>LP
 |.e e,g=>KZ (K8 cl e g) λ_=>.ok (.n g)
 |.r e,g=>KZ (Ml cl Θ e g) λp=>.ok (.r p.1)
 |.L t a b,g=>KZ (Wa cl t g) λr=>if r=Θ then iz cl a g else iz cl b g
 |.b q s body,g=>KZ (rT cl s g) λp=>forM (λx g=>KZ (ju q x g) λm=>iz cl body m) p.1 p.2
 |.B,g=>.ok (.b g)
 |.C,g=>.ok (.c g)
 |.p,g=>.ok (.n g)
 |.n,_=>LP
 |.Q i j e,g=>u9 cl i j e g (ic g i) (ic g j)
noncomputable def iz (cl:Ä):Ê->Ev->Res Fl
 |[],e=>.ok (.n e)
 |s::r,e=>KZ (Ms cl s e) λ
  |.n a=>iz cl r a
  |.c a=>.ok (.c a)
  |.b a=>.ok (.b a)
  |.r d=>.ok (.r d)
  |.R d ks vs=>.ok (.R d ks vs)
end
structure Fn where
 np:Nat
 G:Gm
 body:Ê
 io:Bool:=Ξ
abbrev kF (cl:Ä)(fn:Fn)(a:Î):Res D:=
 LK (decide (a.length=fn.np)) (KZ (iz cl fn.body (a.map Δ++Τ (fn.G.N.length - fn.np) Φ)) λ
  |.n _=>.ok .L
  |.r d=>.ok d
  |_=>LP)
abbrev Kh:D->D
 |.K _ ks vs=>.K Θ ks vs
 |d=>d
abbrev yR:Î->Î
 |[]=>[]
 |[d]=>[Kh d]
 |d::a=>d::yR a
abbrev kG (cl:Ä)(fn:Fn)(a:Î):Res D:=
 LK (decide (a.length=fn.np)) (KZ (iz cl fn.body ((yR a).map Δ++Τ (fn.G.N.length - fn.np) Φ)) λ
  |.R d ks vs=>.ok (.t [d,.K Ξ ks vs])
  |_=>LP)
@[reducible]def Tb:=Nat->Option Fn
abbrev ba (T:Tb):Nat->Ä
 |0,_,_=>LP
 |n+1,f,a=>match T f with
  |some fn=>(match fn.io with
   |false=>kF (ba T n) fn a
   |true=>kG (ba T n) fn a)
  |none=>LP
def H0 {cl:Ä}  : K8 cl (.v i) a=(match ic a i with|some d=>.ok d|none=>LP):=rfl
def Ia {cl:Ä}  : Ml cl mv (.v i) a=(match ic a i with|some d=>if mv=Θ then .ok (d,a.set i Φ) else .ok (er d,a.set i (Δ (er d)))|none=>LP):=rfl
def zI:type_of% @IR.casesOn.{0}:=@IR.casesOn.{0}
def zT:type_of% @IS.casesOn.{0}:=@IS.casesOn.{0}
section
variable {X:Cx}{f:Ü}{g:St}{H:Hp}{S:Å}{s:Α}
theorem Inv.Nj (I:Inv X f g H s)  (j:MR X.K H a x)(h:Md X.K H a ys):False:=by let⟨b,_,⟨o,n,e,c,_⟩,_⟩:=I.list j;let⟨i,_,⟨O,E,C,_⟩,_⟩:=I.tuple h;rw[e]at E;cases E;rw[c]at C;injection C with C;exact absurd C nofun
theorem Inv.QN (I:Inv X f g H s)  (h:Rd H a (.d kvs)):∃o E b,s.heap.get? a=Δ o/\o.data=.dict E b:=by let⟨_,_,vs,_,o,E,b,e,c,d,_⟩:=h.ok I.L1;exact⟨o,E,b,e,d⟩
theorem Inv.PZ (I:Inv X f g H s)  (h:Rd H a (.d kvs))(k:Md X.K H a x):False:=by let⟨o,c,j,e,d⟩:=I.QN h;let⟨i,_,⟨O,E,C,n,b⟩,_⟩:=I.tuple k;rw[e]at E;cases E;rw[d]at b;cases b
theorem Inv.NJ (I:Inv X f g H s)  (h:Rd H a (.d kvs))(k:MR X.K H a x):False:=by let⟨o,c,j,e,d⟩:=I.QN h;let⟨i,_,⟨O,n,E,C,N,b⟩,_⟩:=I.list k;rw[e]at E;cases E;rw[d]at b;cases b
theorem Rd.dk (h:Rd H a (.d u))(k:Rd H a (.d v)):u=v:=by rcases h with h|⟨o,h⟩<;>rcases k with k|⟨O,k⟩<;>(rw[h]at k;cases k;try rfl)
mutual
theorem K6.one (I:Inv X f g H s):∀ {v:V}{d e:D},K6 X.K S H v d->K6 X.K S H v e->er d=er e
 |_,_,_,.q,h=>by cases h;rfl
 |_,_,_,.B b,h=>by cases h;rfl
 |_,_,_,.c i,h=>by cases h;rfl
 |_,_,_,.k x,h=>by cases h;rfl
 |_,_,_,.t m n,h=>by
  cases h with
  |t a j=>let e:=I.Nq m a;subst e;rw[er,er,K4.one I n j]
  |L r a j=>exact(I.Nj (.inl a) m).elim
  |l a j=>exact(I.Nj a.sq m).elim
  |p r a j u=>exact(I.PZ a m).elim
 |_,_,_,.L y m n,h=>by
  cases h with
  |t a j=>exact(I.Nj (.inl m) a).elim
  |L r a j=>let e:=I.My (.inl m) (.inl a);subst e;rw[er,er,K4.one I n j]
  |l a j=>let e:=I.My (.inl m) a.sq;subst e;rw[er,er,K4.one I n j]
  |p r a j u=>exact(I.NJ a (.inl m)).elim
 |_,_,_,.l m n,h=>by
  cases h with
  |t a j=>exact(I.Nj m.sq a).elim
  |L r a j=>let e:=I.My m.sq (.inl a);subst e;rw[er,er,K4.one I n j]
  |l a j=>let e:=I.My m.sq a.sq;subst e;rw[er,er,K4.one I n j]
  |p r a j u=>exact(I.NJ a m.sq).elim
 |_,_,_,.p y m n w,h=>by
  cases h with
  |t a j=>exact(I.PZ m a).elim
  |L r a j=>exact(I.NJ m (.inl a)).elim
  |l a j=>exact(I.NJ m a.sq).elim
  |p r a j u=>let e:=Rd.dk m a;subst e;rw[er,er,K4.one I w u,<- n,<- j]
theorem K4.one (I:Inv X f g H s):∀ {vs:Ï}{a e:Î},K4 X.K S H vs a->K4 X.K S H vs e->LM a=LM e
 |_,_,_,.nil,h=>by cases h;rfl
 |_,_,_,.cons i c,h=>by
  cases h with
  |cons b k=>rw[LM,LM,K6.one I i b,K4.one I c k]
end
end
def jV (h:KZ x f=.ok b):∃a,x=.ok a/\f a=.ok b:=by
 cases x with
 |error e=>cases h
 |ok a=>exact⟨a,rfl,h⟩
def ug (h:LK c x=.ok b):c=Θ/\x=.ok b:=by
 unfold LK at h
 cases c using zB with
 |true=>exact⟨rfl,h⟩
 |false=>cases h
theorem ki (H:∀d e r,f d e=.ok r->er d=er e->r=Θ):∀ {c E:Î}{r:Bool},kK f c E=.ok r->LM c=LM E->r=Θ
 |[],[],r,h,_=>by cases h;rfl
 |[],_::_,_,_,h=>by rw[LM,LM]at h;cases h
 |_::_,[],_,_,h=>by rw[LM,LM]at h;cases h
 |a::c,b::E,r,h,g=>by rw[LM,LM]at g;injection g with l k;let⟨x,j,h⟩:=jV (show KZ (f a b) (λx=>KZ (kK f c E) λy=>.ok (x&&y))=.ok r from h);let⟨y,i,h⟩:=jV h;cases h;rw[H a b x j l,ki H i k];rfl
theorem mG:∀(n:Nat) (d e:D) (r:Bool),MP n d e=.ok r->er d=er e->r=Θ
 |0,_,_,_,h,_=>by cases h
 |n+1,d,e,r,h,H=>by
  cases d using zD with
  |t c=>
   cases e using zD with
   |t a=>rw[er,er]at H;injection H with E;exact ki (mG n) h E
   |L=>rw[er,er]at H;cases H
   |b _=>rw[er,er]at H;cases H
   |i _=>rw[er,er]at H;cases H
   |s _=>rw[er,er]at H;cases H
   |l _ _=>rw[er,er]at H;cases H
   |K _ _ _=>cases h
  |l o c=>
   cases e using zD with
   |l O a=>rw[er,er]at H;injection H with _ E;exact ki (mG n) h E
   |L=>rw[er,er]at H;cases H
   |b _=>rw[er,er]at H;cases H
   |i _=>rw[er,er]at H;cases H
   |s _=>rw[er,er]at H;cases H
   |t _=>rw[er,er]at H;cases H
   |K _ _ _=>cases h
  |K _ _ _=>induction e using zD<;>cases h
  |L=>induction e using zD<;>first|(cases h;done)|(cases h;rfl)|(exfalso;simp[er]at H)
  |b b=>induction e using zD<;>first|(simp only[er]at H;cases H;cases h;simp)|(exfalso;simp[er]at H)
  |i b=>induction e using zD<;>first|(simp only[er]at H;cases H;cases h;simp)|(exfalso;simp[er]at H)
  |s b=>induction e using zD<;>first|(simp only[er]at H;cases H;cases h;simp)|(exfalso;simp[er]at H)
theorem rY:∀ {c e:Î}{r:Bool},kK f c e=.ok r->c.length≠e.length->r=Ξ
 |[],[],_,_,h=>absurd rfl h
 |[],_::_,_,h,_=>by cases h;rfl
 |_::_,[],_,h,_=>by cases h;rfl
 |a::c,b::e,r,h,n=>by let⟨x,g,h⟩:=jV (show KZ (f a b) (λx=>KZ (kK f c e) λy=>.ok (x&&y))=.ok r from h);let⟨y,H,h⟩:=jV h;cases h;rw[rY H (λz=>n (by rw[List.length_cons,List.length_cons,z]))];simp
theorem vd:∀ {c E:Î}{r:Bool},kK f c E=.ok r->c.length=E.length->
  ∃e:Nat->Bool,(∀j a b,c[j]? = Δ a->E[j]? = Δ b->f a b=.ok (e j))/\r=(List.range c.length).all e
 |[],[],r,h,_=>by cases h;exact⟨λ_=>Θ,λj a b h=>by simp at h,rfl⟩
 |[],_::_,_,_,h=>by cases h
 |_::_,[],_,_,h=>by cases h
 |a::c,b::E,r,h,n=>by
  let⟨x,l,h⟩:=jV (show KZ (f a b) (λx=>KZ (kK f c E) λy=>.ok (x&&y))=.ok r from h);let⟨y,H,h⟩:=jV h;cases h;let⟨e,p,m⟩:=vd H (by simpa using n);refine⟨λj=>match j with|0=>x|k+1=>e k,λj A B i g=>?_,?_⟩
  ·cases j with
   |zero=>simp at i g;subst i g;exact l
   |succ k=>exact p k A B (by simpa using i) (by simpa using g)
  ·rw[m,List.length_cons,List.range_succ_eq_map,List.all_cons,List.all_map];rfl
section
structure SK (A:Ι)(s:Α)(v u:Ψ)(r:Bool):Prop where
 eq:EqAt A s v u r
 rc:RcAt A s v u r
 ne:RcNeAt A s v u (!r)
def rZ {X:Cx}(n:Nat)(A:Ι)(I:∀(x y:V)(v u:Ψ)(d e:D)(r:Bool),K6 X.K S H x d->K6 X.K S H y e->RelV x v->RelV y u->MP n d e=.ok r->EqAt A.in1 s v u r)
   {its:Í} (R:Vals P its) (O:Vals ys its') (N:K4 X.K S H P c) (M:K4 X.K S H ys E) (C:kK (MP n) c E=.ok r) :
  ∃e:Nat->Bool,(∀j (Q:j < its.toArray.size) (f:j < its'.toArray.size),EqAt A.in1 s its.toArray[j] its'.toArray[j] (e j))/\r=((List.range (min its.toArray.size its'.toArray.size)).all e&&its.toArray.size == its'.toArray.size):=by
 let l1:=N.length;let l2:=M.length;let l3:=R.length;let l4:=O.length;let p:∀j (g:j < its.toArray.size) (J:j < its'.toArray.size) (b:Bool) (w:j < c.length) (m:j < E.length),MP n c[j] E[j]=.ok b->EqAt A.in1 s its.toArray[j] its'.toArray[j] b:=by
  intro j g J b w m B;let⟨W,e1,m1⟩:=N.get (i:=j) (d:=c[j]) (by simp);let⟨Y,e2,m2⟩:=M.get (i:=j) (d:=E[j]) (by simp);let⟨L,ev,Qc⟩:=R.get e1;let⟨U,eu,ZH⟩:=O.get e2;let hv:its.toArray[j]=L:=by have:=(v_.mp ev).2;simpa using this
  let XW:its'.toArray[j]=U:=by have:=(v_.mp eu).2;simpa using this
  rw[hv,XW];exact I W Y L U _ _ _ m1 m2 Qc ZH B
 let G:its.toArray.size=c.length:=by simp;omega
 let F:its'.toArray.size=E.length:=by simp;omega
 by_cases z:c.length=E.length
 ·let⟨e,Q,f⟩:=vd C z;refine⟨e,λj g J=>p j g J _ ⋯ ⋯ (Q j _ _ (by simp) (by simp)),?_⟩;rw[f,G,F,z];simp
 ·let TX:=rY C z;let l:∀(c E:Î) (r:Bool),kK (MP n) c E=.ok r->∀j (Q:j < c.length) (f:j < E.length),∃b,MP n c[j] E[j]=.ok b:=by
   intro c
   induction c with
   |nil=>intro E r _ j Q;simp at Q
   |cons a c I=>
    intro E r h j Q f
    cases E using zL with
    |nil=>simp at f
    |cons b E=>
     let⟨x,hx,h⟩:=jV (show KZ (MP n a b) (λx=>KZ (kK (MP n) c E) λy=>.ok (x&&y))=.ok r from h);let⟨y,hy,h⟩:=jV h;cases j with
     |zero=>exact⟨x,hx⟩
     |succ k=>exact I E y hy k (by simpa using Q) (by simpa using f)
  refine⟨λj=>if q:j < c.length/\j < E.length then((match MP n (c[j]'q.1) (E[j]'q.2) with|.ok b=>b|.error _=>Ξ)) else Ξ,λj g J=>?_,?_⟩
  ·let w:j < c.length:=⋯
   let m:j < E.length:=⋯
   let⟨b,B⟩:=l c E r C j w m;let q:=p j g J b w m B;show EqAt A.in1 s its.toArray[j] its'.toArray[j] (dite _ _ _);rw[dif_pos (show j < c.length/\j < E.length from⟨w,m⟩),B];exact q
  ·rw[TX];have:(its.toArray.size == its'.toArray.size)=Ξ:=by rw[beq_eq_false_iff_ne,G,F];exact z
   rw[this,Bool.and_false]
def yS (I:Inv X g O H s)(n:Nat)(A:Ι)(F:∀(x y:V)(v u:Ψ)(d e:D)(r:Bool),K6 X.K S H x d->K6 X.K S H y e->RelV x v->RelV y u->MP n d e=.ok r->EqAt A.in1 s v u r)
   {o:Bool} (J:MR X.K H a w) (G:MR X.K H b ys) (L:K4 X.K S H w m) (C:K4 X.K S H ys E)
  (B:K6 X.K S H (.r a) (.l o m)) (z:K6 X.K S H (.r b) (.l W E)) (j:kK (MP n) m E=.ok r) (M:A.units < cLine):SK A s (.ref a) (.ref b) r:=by
 let⟨c,R,p,_⟩:=I.list J;let⟨i,N,P,_⟩:=I.list G;let⟨e,k,U⟩:=rZ n A F R N L C j;let both:RcAt A s (.ref a) (.ref b) r/\RcNeAt A s (.ref a) (.ref b) (!r):=by
  by_cases h:c.toArray.size=i.toArray.size
  ·let f:r=(List.range c.toArray.size).all e:=by rw[U,<- h,Nat.min_self];simp
   rw[f];exact⟨.lists p.isList P.isList h M k,.lists p.isList P.isList h M k⟩
  ·let q:(c.toArray.size != i.toArray.size)=Θ:=by simpa using h
   let f:r=Ξ:=by
    rw[U];have:(c.toArray.size == i.toArray.size)=Ξ:=by rw[beq_eq_false_iff_ne];exact h
    rw[this,Bool.and_false]
   rw[f];exact⟨.lists_lengths p.isList P.isList q M,.lists_lengths p.isList P.isList q M⟩
 refine⟨?_,both.1,both.2⟩;by_cases Q:a=b
 ·subst Q;let hd:=K6.one I B z;rw[er,er]at hd;injection hd with _ hd;rw[ki (mG n) j hd];exact .same _
 ·exact .of_refs Q both.1
set_option maxHeartbeats 4000000 in
theorem qw (I:Inv X pins σ H s):∀(n:Nat) (A:Ι) (x y:V) (v u:Ψ) (d e:D) (r:Bool),K6 X.K S H x d->K6 X.K S H y e->RelV x v->RelV y u->MP n d e=.ok r->
  A.units+n < cLine->SK A s v u r
 |0,_,_,_,_,_,_,_,_,_,_,_,_,h,_=>by cases h
 |n+1,A,x,y,v,u,d,e,r,j,a,k,R,h,hu=>by
  let M:A.units < cLine:=⋯
  let ZG:A.in1.units+n < cLine:=by show A.units+1+n < cLine;omega
  let ih:∀(x y:V) (v u:Ψ) (d e:D) (r:Bool),K6 X.K S H x d->K6 X.K S H y e->RelV x v->RelV y u->MP n d e=.ok r->EqAt A.in1 s v u r:=
   λx y v u d e r J c a3 a4 a5=>(qw I n A.in1 x y v u d e r J c a3 a4 a5 ZG).eq
  cases d using zD with
  |L=>
   cases j.NU;cases k
   cases e using zD with
   |L=>cases a.NU;cases R;cases h;exact⟨.same _,.none_none,.none_none⟩
   |b F=>cases a.Qq;cases R;cases h;exact⟨.none_bool _,.none_bool _,.none_bool _⟩
   |i C=>cases a.L5;let⟨f,rfl⟩:=R;cases h;exact⟨.none_int _ _,.none_int _ _,.none_int _ _⟩
   |s w=>cases a.Mz;let⟨f,rfl⟩:=R;cases h;exact⟨.none_str _ _,.none_str _ _,.none_str _ _⟩
   |t E=>let⟨c,Q,rfl,q,m⟩:=a.M3;cases R;let⟨g,O,p,_⟩:=I.tuple q;cases h;exact⟨.none_tuple p M,.none_tuple p M,.none_tuple p M⟩
   |l B E=>let⟨c,Q,rfl,q,m⟩:=a.Mr;cases R;let⟨g,O,p,_⟩:=I.list q;cases h;exact⟨.none_list p.isList M,.none_list p.isList M,.none_list p.isList M⟩
   |K _ _ _=>cases h
  |b b=>
   cases j.Qq;cases k
   cases e using zD with
   |L=>cases a.NU;cases R;cases h;exact⟨.bool_none _,.bool_none _,.bool_none _⟩
   |b F=>cases a.Qq;cases R;cases h;exact⟨.bool_bool _ _,.bool_bool _ _,.bool_bool _ _⟩
   |i C=>cases a.L5;let⟨f,rfl⟩:=R;cases h;exact⟨.bool_int _ _ _,.bool_int _ _ _,.bool_int _ _ _⟩
   |s w=>cases a.Mz;let⟨f,rfl⟩:=R;cases h;exact⟨.bool_str _ _ _,.bool_str _ _ _,.bool_str _ _ _⟩
   |t E=>let⟨c,Q,rfl,q,m⟩:=a.M3;cases R;let⟨g,O,p,_⟩:=I.tuple q;cases h;exact⟨.bool_tuple _ p M,.bool_tuple _ p M,.bool_tuple _ p M⟩
   |l B E=>let⟨c,Q,rfl,q,m⟩:=a.Mr;cases R;let⟨g,O,p,_⟩:=I.list q;cases h;exact⟨.bool_list _ p.isList M,.bool_list _ p.isList M,.bool_list _ p.isList M⟩
   |K _ _ _=>cases h
  |i i=>
   cases j.L5;let⟨t1,rfl⟩:=k
   cases e using zD with
   |L=>cases a.NU;cases R;cases h;exact⟨.int_none _ _,.int_none _ _,.int_none _ _⟩
   |b F=>cases a.Qq;cases R;cases h;exact⟨.int_bool _ _ _,.int_bool _ _ _,.int_bool _ _ _⟩
   |i C=>cases a.L5;let⟨f,rfl⟩:=R;cases h;exact⟨.int_int _ _ _ _,.int_int _ _ _ _,.int_int _ _ _ _⟩
   |s w=>cases a.Mz;let⟨f,rfl⟩:=R;cases h;exact⟨.int_str _ _ _ _,.int_str _ _ _ _,.int_str _ _ _ _⟩
   |t E=>let⟨c,Q,rfl,q,m⟩:=a.M3;cases R;let⟨g,O,p,_⟩:=I.tuple q;cases h;exact⟨.int_tuple _ _ p M,.int_tuple _ _ p M,.int_tuple _ _ p M⟩
   |l B E=>let⟨c,Q,rfl,q,m⟩:=a.Mr;cases R;let⟨g,O,p,_⟩:=I.list q;cases h;exact⟨.int_list _ _ p.isList M,.int_list _ _ p.isList M,.int_list _ _ p.isList M⟩
   |K _ _ _=>cases h
  |s z=>
   cases j.Mz;let⟨t1,rfl⟩:=k
   cases e using zD with
   |L=>cases a.NU;cases R;cases h;exact⟨.str_none _ _,.str_none _ _,.str_none _ _⟩
   |b F=>cases a.Qq;cases R;cases h;exact⟨.str_bool _ _ _,.str_bool _ _ _,.str_bool _ _ _⟩
   |i C=>cases a.L5;let⟨f,rfl⟩:=R;cases h;exact⟨.str_int _ _ _ _,.str_int _ _ _ _,.str_int _ _ _ _⟩
   |s w=>cases a.Mz;let⟨f,rfl⟩:=R;cases h;exact⟨.str_str _ _ _ _,.str_str _ _ _ _,.str_str _ _ _ _⟩
   |t E=>let⟨c,Q,rfl,q,m⟩:=a.M3;cases R;let⟨g,O,p,_⟩:=I.tuple q;cases h;exact⟨.str_tuple _ _ p M,.str_tuple _ _ p M,.str_tuple _ _ p M⟩
   |l B E=>let⟨c,Q,rfl,q,m⟩:=a.Mr;cases R;let⟨g,O,p,_⟩:=I.list q;cases h;exact⟨.str_list _ _ p.isList M,.str_list _ _ p.isList M,.str_list _ _ p.isList M⟩
   |K _ _ _=>cases h
  |t ds=>
   let⟨J,N,rfl,G,U⟩:=j.M3;cases k;let⟨OQ,Qc,P,_⟩:=I.tuple G
   cases e using zD with
   |L=>cases a.NU;cases R;cases h;exact⟨.tuple_none P M,.tuple_none P M,.tuple_none P M⟩
   |b F=>cases a.Qq;cases R;cases h;exact⟨.tuple_bool _ P M,.tuple_bool _ P M,.tuple_bool _ P M⟩
   |i C=>cases a.L5;let⟨f,rfl⟩:=R;cases h;exact⟨.tuple_int _ _ P M,.tuple_int _ _ P M,.tuple_int _ _ P M⟩
   |s w=>cases a.Mz;let⟨f,rfl⟩:=R;cases h;exact⟨.tuple_str _ _ P M,.tuple_str _ _ P M,.tuple_str _ _ P M⟩
   |t E=>
    let Nc:=j;let RL:=a;let⟨c,Q,rfl,q,m⟩:=a.M3;cases R;let⟨g,O,p,_⟩:=I.tuple q;let hr:kK (MP n) ds E=.ok r:=h;let⟨e,W,Y⟩:=rZ n A ih Qc O U m hr;refine⟨?_,?_,?_⟩
    ·by_cases Qb:J=c
     ·subst Qb;let hd:=K6.one I Nc RL;rw[er,er]at hd;injection hd with hd;rw[ki (mG n) hr hd];exact .same _
     ·rw[Y];exact .of_refs Qb (.tuples P p M W)
    ·rw[Y];exact .tuples P p M W
    ·rw[Y];exact .tuples P p M W
   |l B E=>let⟨c,Q,rfl,q,m⟩:=a.Mr;cases R;let⟨g,O,p,_⟩:=I.list q;cases h;exact⟨.tuple_list P p.isList M,.tuple_list P p.isList M,.tuple_list P p.isList M⟩
   |K _ _ _=>cases h
  |l o ds=>
   let⟨J,N,rfl,G,U⟩:=j.Mr;cases k;let⟨OQ,Qc,P,_⟩:=I.list G
   cases e using zD with
   |L=>cases a.NU;cases R;cases h;exact⟨.list_none P.isList M,.list_none P.isList M,.list_none P.isList M⟩
   |b F=>cases a.Qq;cases R;cases h;exact⟨.list_bool _ P.isList M,.list_bool _ P.isList M,.list_bool _ P.isList M⟩
   |i C=>cases a.L5;let⟨f,rfl⟩:=R;cases h;exact⟨.list_int _ _ P.isList M,.list_int _ _ P.isList M,.list_int _ _ P.isList M⟩
   |s w=>cases a.Mz;let⟨f,rfl⟩:=R;cases h;exact⟨.list_str _ _ P.isList M,.list_str _ _ P.isList M,.list_str _ _ P.isList M⟩
   |t E=>let⟨c,Q,rfl,q,m⟩:=a.M3;cases R;let⟨g,O,p,_⟩:=I.tuple q;cases h;exact⟨.list_tuple P.isList p M,.list_tuple P.isList p M,.list_tuple P.isList p M⟩
   |l B E=>let Nc:=j;let RL:=a;let⟨c,Q,rfl,q,m⟩:=a.Mr;cases R;let⟨g,O,p,_⟩:=I.list q;exact yS I n A ih G q U m Nc RL h M
   |K _ _ _=>cases h
  |K _ _ _=>induction e using zD<;>cases h
end
@[reducible]def nw (S:Å)(H:Hp):Å:=λa=>S a∨H a=Φ
@[reducible]def Kk (K:Frag)(S:Å)(H:Hp)(Q:VK):D->Prop:=λd=>∀w h,ir H h->K6 K (nw S H) h w d->Q w h
theorem K6.nw {K:Frag}{S:Å}{H:Hp}{v:V}{d:D}(h:K6 K S H v d):K6 K (nw S H) H v d:=h.mono (λ_=>.inl) (.refl _)
def Ib {K:Frag}  (a:H p=Φ)(h:K4 K S H vs b):K6 K (nw S H) (upd H p (.t vs)) (.r p) (.t b):=
 .t (.inl (.inl iq)) (h.mono (λ_=>.inl) (.upd a))
def xn {K:Frag}  {o:Bool}(a:H p=Φ)(h:K4 K S H vs b):K6 K (nw S H) (upd H p (.l vs)) (.r p) (.l o b):=
 .L (.inr a) (.inl iq) (h.mono (λ_=>.inl) (.upd a))
abbrev U5:TR->Operator
 |.a=>.Add|.s=>.Sub|.m=>.Mult|.f=>.FloorDiv|.M=>.Mod|.p=>.Pow
abbrev OH:QM->CmpOp
 |.e=>.Eq|.n=>.NotEq|.l=>.Lt|.L=>.LtE|.G=>.Gt|.g=>.GtE|.P=>.In|.T=>.NotIn|.Q=>.Is|.O=>.IsNot
def Ki (K:Frag)(O:TR):R2:=λx y H Q=>∃S d e,K6 K S H x d/\K6 K S H y e/\K5 (NG O d e) (Kk K S H Q)
def Kj (K:Frag)(O:QM):R2:=λx y H Q=>∃S d e,K6 K S H x d/\K6 K S H y e/\K5 (MN O d e) λr=>Q (.b r) H
def jw (h:jh n=Θ):n<=Ζ:=t_ h
def kx (h:jf n=Θ):n < Ζ:=t_ h
def qx:N1 X (binaryOp .Add) (λx y H Q=>∃l b a z,x=.r l/\y=.r b/\Ls X.K H l a/\Ls X.K H b z/\a.length+z.length<=Ζ/\∀p,H p=Φ->Q (.r p) (upd H p (.l (a++z)))):=by
 intro P s m H x y v u Q I f c h;let⟨l,b,a,z,rfl,rfl,g,j,w,q⟩:=h;cases f;cases c;let⟨A,i,n,r,e⟩:=I.ls g;let⟨F,M,N,R,k⟩:=I.ls j;let C:=r.length;let B:=R.length;refine PySem.P.add_list e k ?_ (by rw[C_,C_];omega);let E:i.toArray++M.toArray=(i++M).toArray:=by simp
 rw[E];exact⟨.r _,_,I.Tt (t':=s.toks) (r.append R) (by rw[q_];omega),rfl,q _ I.fresh⟩
def yT {its:Í}(r:Vals vs its):∀k:Nat,Vals (Τ k vs).flatten (Τ k its).flatten:=r.rep
def Cv:N1 X (binaryOp .Mult) (λx y H Q=>∃l k f,x=.r l/\y=.i k/\Ls X.K H l f/\0<=k/\k<=16000/\f.length<=1000/\∀p,H p=Φ->Q (.r p) (upd H p (.l (Τ k.toNat f).flatten))):=by
 intro P s L H x y v u Q I j R h;let⟨l,k,f,rfl,rfl,A,W,O,w,q⟩:=h;cases j;let⟨t,rfl⟩:=R;let⟨N,c,n,r,e⟩:=I.ls A;let el:=r.length;let M:f.length*k.toNat<=1000*16000:=Nat.mul_le_mul w ⋯;let big:1000*16000<=Ζ:= nofun
 let g:c.toArray.size*k.toNat<=Ζ:=by rw[C_,<- el];omega
 let J:¬c.toArray.size*k.toNat > (2 ^ 63 - 1) / 8:=by
  have:(Ζ:Nat)<=(2 ^ 63 - 1) / 8:= nofun
  omega
 let G:¬(!Builtin.List.listFitsIndex k)=Θ:=by rw[fitsIndex_both ⋯ ⋯];exact p_
 let E:¬Builtin.List.listTooLong (c.toArray.size*k.toNat)=Θ:=by rw[xY g];exact p_
 let C:∀m:Nat,List.foldl (λa b=>a++b) #[] (Τ m c.toArray)=(Τ m c).flatten.toArray:=λm=>by let z:=foldl_rep c m [];rw[List.nil_append]at z;exact z
 let B:List.foldl (λa b=>a++b) #[] (Τ (if c.toArray.isEmpty=Θ then 0 else k.toNat) c.toArray)=(Τ k.toNat c).flatten.toArray:=by
  rw[C]
  cases c using zL with
  |nil=>simp
  |cons _ _=>rw[d_ (by simp)]
 refine wpAny_binaryOp_repeat_ref (T:="list") (U:="int") nofun ⟨_,e,rfl⟩ (λS=>typeIs_int S k t) noFill_list_mul F.fills_int_mul F.slot_int_rmul repeat_list F.slot_int_index.lookup (call_meets F.slot_int_rmul (typeIs_int s k t) F.entry_int_rmul (F.args_int_rmul_2 _ _) (int___rmul___int_list k t l c.toArray n) ⟨e,rfl,⟨_,e,rfl⟩,call_meets F.slot_list_mul ⟨_,e,rfl⟩ F.entry_list_mul (F.args_list_mul_2 _ _) (AutoListH.list___mul___list_int_3 l c.toArray n k t G J E) ⟨e,?_⟩⟩);rw[B];exact⟨.r _,_,I.Tt (t':=s.toks) (yT r k.toNat) (by rw[len_rep,Nat.mul_comm];omega),rfl,q _ I.fresh⟩
def Fu (O:TR):N1 X (binaryOp (U5 O)) (Ki X.K O):=by
 intro n s q H x y v u Q I R r h;let⟨S,d,e,A,w,h⟩:=h;let j:∀ {P:Prop},NG O d e=LP->P:=λz=>by rw[z]at h;exact h.no.elim
 cases O with
 |a=>
  cases d using zD with
  |i a=>
   cases e using zD with
   |i b=>cases A.L5;cases w.L5;exact ES n s q H _ _ v u Q I R r ⟨a,b,rfl,rfl,h.ok _ _ (.refl _) (.c _)⟩
   |_=>exact j rfl
  |s a=>
   cases e using zD with
   |s b=>cases A.Mz;cases w.Mz;let⟨g,h⟩:=K5.LK h;exact tJ n s q H _ _ v u Q I R r ⟨a,b,rfl,rfl,jw g,h.ok _ _ (.refl _) (.k _)⟩
   |_=>exact j rfl
  |l o a=>
   cases e using zD with
   |l U b=>let⟨p,F,rfl,L,C⟩:=A.RV;let⟨N,Y,rfl,J,B⟩:=w.RV;let⟨g,h⟩:=K5.LK h;let G:=jw g;let l1:=C.length;let W:=B.length;exact qx n s q H _ _ v u Q I R r ⟨p,N,F,Y,rfl,rfl,L,J,⋯,λz E=>h.ok _ _ (.upd E) (xn E (C.append B))⟩
   |_=>exact j rfl
  |_=>exact j rfl
 |s=>
  cases d using zD with
  |i a=>
   cases e using zD with
   |i b=>cases A.L5;cases w.L5;exact ET n s q H _ _ v u Q I R r ⟨a,b,rfl,rfl,h.ok _ _ (.refl _) (.c _)⟩
   |_=>exact j rfl
  |_=>exact j rfl
 |m=>
  cases d using zD with
  |i a=>
   cases e using zD with
   |i b=>cases A.L5;cases w.L5;let⟨g,h⟩:=K5.LK h;rw[aaf]at g;exact EU n s q H _ _ v u Q I R r ⟨a,b,rfl,rfl,g.elim (λz=>.inl (t_ z)) (λz=>.inr (t_ z)),h.ok _ _ (.refl _) (.c _)⟩
   |_=>exact j rfl
  |s a=>
   cases e using zD with
   |i b=>cases A.Mz;cases w.L5;let⟨g,h⟩:=K5.LK h;let G:=t_ g;exact tO n s q H _ _ v u Q I R r ⟨a,b,rfl,rfl,G.1,G.2.1,G.2.2,h.ok _ _ (.refl _) (.k _)⟩
   |_=>exact j rfl
  |l _ _=>cases e<;>exact j rfl
  |_=>exact j rfl
 |f=>
  cases d using zD with
  |i a=>
   cases e using zD with
   |i b=>cases A.L5;cases w.L5;let⟨g,h⟩:=K5.LK h;exact BV n s q H _ _ v u Q I R r ⟨a,b,rfl,rfl,show 0 < b/\b < 1073741824 from t_ g,h.ok _ _ (.refl _) (.c _)⟩
   |_=>exact j rfl
  |_=>exact j rfl
 |M=>
  cases d using zD with
  |i a=>
   cases e using zD with
   |i b=>cases A.L5;cases w.L5;let⟨g,h⟩:=K5.LK h;exact EV n s q H _ _ v u Q I R r ⟨a,b,rfl,rfl,t_ g,h.ok _ _ (.refl _) (.c _)⟩
   |_=>exact j rfl
  |_=>exact j rfl
 |p=>
  cases d using zD with
  |i a=>
   cases e using zD with
   |i b=>cases A.L5;cases w.L5;let⟨g,h⟩:=K5.LK h;exact EW n s q H _ _ v u Q I R r ⟨a,b,rfl,rfl,show 0<=b/\b<=1000000/\a.natAbs < 2 ^ 64 from t_ g,h.ok _ _ (.refl _) (.c _)⟩
   |_=>exact j rfl
  |_=>exact j rfl
theorem K5.MP (h:K5 (L2.MP n d e) k):∃r,L2.MP n d e=.ok r/\k r:=by
 cases q:L2.MP n d e with
 |ok r=>rw[q]at h;exact⟨r,rfl,h⟩
 |error z=>rw[q]at h;cases z;exact h.no.elim
theorem K5.MW:∀ {a:Î}{k:Bool->Prop},K5 (L2.MW d a) k->∃f:Nat->Bool,(∀i e,a[i]? = Δ e->L2.MP 40 e d=.ok (f i))/\k ((List.range a.length).any f)
 |[],k,h=>⟨λ_=>Ξ,λi e z=>by simp at z,h⟩
 |e::r,k,h=>by
  let⟨x,E,c⟩:=K5.MP (K5.KZ h);let⟨f,b,H⟩:=K5.MW (K5.KZ c);refine⟨λi=>match i with|0=>x|j+1=>f j,λi g z=>?_,?_⟩
  ·cases i with
   |zero=>simp at z;subst z;exact E
   |succ j=>exact b j g (by simpa using z)
  ·rw[List.length_cons,List.range_succ_eq_map,List.any_cons,List.any_map];exact H
def uh (its:Í)(f:Nat->Bool)(h:∀i u,its[i]? = Δ u->EqAt A s u v (f i)) :
  ∃e:Ψ->Bool,(∀y,y∈its.toArray->EqAt A s y v (e y))/\its.toArray.any e=(List.range its.length).any f:=by
 classical
 refine⟨λy=>decide (∃i,its[i]? = Δ y/\f i=Θ),λy H=>?_,?_⟩
 ·let R:y∈its:=by simpa using H
  let⟨j,a⟩:=List.getElem?_of_mem R;show EqAt A s y v (decide (∃i,its[i]? = Δ y/\f i=Θ));by_cases q:∃i,its[i]? = Δ y/\f i=Θ
  ·rw[B_ q];let⟨i,hi,fi⟩:=q;have:=h i y hi;rw[fi]at this;exact this
  ·rw[N_ q];have:=h j y a;let F:f j=Ξ:=by
    cases z:f j with
    |false=>rfl
    |true=>exact absurd ⟨j,a,z⟩ q
   rw[F]at this;exact this
 ·rw[Bool.eq_iff_iff];simp only[List.any_toArray,List.any_eq_true,X_,decide_eq_true_eq];constructor
  ·rintro⟨y,H,i,hi,fi⟩;exact⟨i,(v_.mp hi).1,fi⟩
  ·rintro⟨i,hi,fi⟩;exact⟨its[i],aau hi,i,by simp[hi],fi⟩
def kR (E:X.A.units+42 < cLine)  (I:Inv X p B H s)(R:RelV x v)(l:K6 X.K S H x d)
   {its:Í}  (r:Vals c its) (m:K4 X.K S H c a) (h:K5 (MW d a) k) :
  ∃e:Ψ->Bool,(∀y,y∈its.toArray->EqAt X.A.in1 s y v (e y))/\k (its.toArray.any e):=by
 let⟨f,z,w⟩:=K5.MW h;let C:=r.length;let L:=m.length;let⟨e,q,n⟩:=uh (A:=X.A.in1) (s:=s) (v:=v) its f λi u hi=>by let F:i < its.length:=(v_.mp hi).1;let⟨y,j,M⟩:=m.get (i:=i) (d:=a[i]'⋯) (by simp);let⟨U,b,g⟩:=r.get j;rw[hi]at b;cases b;exact(qw I 40 X.A.in1 y x u v _ d _ M l g R (z i _ (by simp)) (by show X.A.units+1+40 < cLine;omega)).eq
 refine⟨e,q,?_⟩;rw[n,show its.length=a.length by omega];exact w
def lW (hu:X.A.units+42 < cLine)(op:QM):N1 X (compareOp (OH op)) (Kj X.K op):=by
 intro U s σ H x y v u Q I R m h;let⟨S,d,e,j,w,h⟩:=h;let f:∀ {P:Prop},MN op d e=LP->P:=λz=>by rw[z]at h;exact h.no.elim
 let F:∀ {b:Bool},Q (.b b) H->EP X U σ Q (.bool b) s:=λq=>⟨.b _,H,I,rfl,q⟩
 cases op with
 |e=>let⟨r,C,A⟩:=K5.MP h;exact(qw I 40 X.A x y v u d e r j w R m C ⋯).rc _ _ _ _ (F A)
 |n=>let⟨r,C,A⟩:=K5.MP (K5.KZ h);exact(qw I 40 X.A x y v u d e r j w R m C ⋯).ne _ _ _ _ (F A.ok)
 |l=>
  cases d using zD with
  |i a=>
   cases e using zD with
   |i b=>cases j.L5;cases w.L5;let⟨t,rfl⟩:=R;let⟨t',rfl⟩:=m;exact lt_int (F h.ok)
   |_=>exact f rfl
  |_=>exact f rfl
 |L=>
  cases d using zD with
  |i a=>
   cases e using zD with
   |i b=>cases j.L5;cases w.L5;let⟨t,rfl⟩:=R;let⟨t',rfl⟩:=m;exact le_int (F h.ok)
   |_=>exact f rfl
  |_=>exact f rfl
 |G=>
  cases d using zD with
  |i a=>
   cases e using zD with
   |i b=>cases j.L5;cases w.L5;let⟨t,rfl⟩:=R;let⟨t',rfl⟩:=m;exact gt_int (F h.ok)
   |_=>exact f rfl
  |_=>exact f rfl
 |g=>
  cases d using zD with
  |i a=>
   cases e using zD with
   |i b=>cases j.L5;cases w.L5;let⟨t,rfl⟩:=R;let⟨t',rfl⟩:=m;exact ge_int (F h.ok)
   |_=>exact f rfl
  |_=>exact f rfl
 |P=>
  cases e using zD with
  |s b=>
   cases d using zD with
   |s a=>cases j.Mz;cases w.Mz;let⟨t,rfl⟩:=R;let⟨t',rfl⟩:=m;exact in_str (F h.ok)
   |_=>exact f rfl
  |l o Y=>let⟨a,xs,rfl,J,M⟩:=w.Mr;cases m;let⟨N,E,pl,_⟩:=I.list J;let⟨e,C,A⟩:=kR hu I R j E M (by induction d using zD<;>exact h);exact in_listAt e pl.isList C (F A)
  |t Y=>let⟨a,xs,rfl,J,M⟩:=w.M3;cases m;let⟨N,E,pl,_⟩:=I.tuple J;let⟨e,C,A⟩:=kR hu I R j E M (by induction d using zD<;>exact h);exact in_tupleAt e pl C (F A)
  |L=>induction d using zD<;>exact f rfl
  |b _=>induction d using zD<;>exact f rfl
  |i _=>induction d using zD<;>exact f rfl
  |K _ _ _=>induction d using zD<;>exact f rfl
 |T=>
  cases e using zD with
  |s _=>induction d using zD<;>exact f rfl
  |l o Y=>let⟨a,xs,rfl,J,M⟩:=w.Mr;cases m;let⟨N,E,pl,_⟩:=I.list J;let⟨e,C,A⟩:=kR (k:=λr=>Q (.b !r) H) hu I R j E M ((K5.KZ (show K5 (KZ (MW d Y) λr=>.ok !r) (λr=>Q (.b r) H) by induction d using zD<;>exact h)).mono λ_ z=>z);exact notIn_listAt e pl.isList C (F A)
  |t Y=>let⟨a,xs,rfl,J,M⟩:=w.M3;cases m;let⟨N,E,pl,_⟩:=I.tuple J;let⟨e,C,A⟩:=kR (k:=λr=>Q (.b !r) H) hu I R j E M ((K5.KZ (show K5 (KZ (MW d Y) λr=>.ok !r) (λr=>Q (.b r) H) by induction d using zD<;>exact h)).mono λ_ z=>z);exact notIn_tupleAt e pl C (F A)
  |L=>induction d using zD<;>exact f rfl
  |b _=>induction d using zD<;>exact f rfl
  |i _=>induction d using zD<;>exact f rfl
  |K _ _ _=>induction d using zD<;>exact f rfl
 |Q=>
  cases e using zD with
  |L=>
   cases w.NU;cases m;let ev:kD d=(v == Value.none):=by
    cases j with
    |q=>cases R;rfl
    |B b=>cases R;rfl
    |c i=>let⟨t,rfl⟩:=R;rfl
    |k z=>let⟨t,rfl⟩:=R;rfl
    |t _ _=>cases R;rfl
    |L _ _ _=>cases R;rfl
    |l _ _=>cases R;rfl
    |p _ _ _ _=>cases R;rfl
   let W:Q (.b (kD d)) H:=by induction d using zD<;>exact h
   rw[ev]at W;exact is_none_gen (F W)
  |_=>induction d using zD<;>exact f rfl
 |O=>
  cases e using zD with
  |L=>
   cases w.NU;cases m;let ev:kD d=(v == Value.none):=by
    cases j with
    |q=>cases R;rfl
    |B b=>cases R;rfl
    |c i=>let⟨t,rfl⟩:=R;rfl
    |k z=>let⟨t,rfl⟩:=R;rfl
    |t _ _=>cases R;rfl
    |L _ _ _=>cases R;rfl
    |l _ _=>cases R;rfl
    |p _ _ _ _=>cases R;rfl
   let W:Q (.b (!kD d)) H:=by induction d using zD<;>exact h
   rw[ev]at W;exact isnot_none_gen (F W)
  |b b'=>
   cases w.Qq;cases m
   cases d using zD with
   |b b=>
    cases j.Qq;cases R;let ee:(!(Value.bool b == Value.bool b'))=(b != b'):=by induction b using zB<;>induction b' using zB<;>rfl
    exact wpAny_isNot_plain rfl (by rw[ee];exact F h)
   |L=>cases j.NU;cases R;exact wpAny_isNot_plain rfl (F h)
   |_=>exact f rfl
  |_=>induction d using zD<;>exact f rfl
def nE (I:Inv X p a H s)(r:RelV x v)(c:K6 X.K S H x d)(h:K5 (iN d) λb=>Q b H) :
  Κ (Μ X.prog X.w) X.A (truthy v) (TP X p a Q) X.xe s:=by
 cases d using zD with
 |b b=>cases c.Qq;cases r;exact wpAny_truthy_bool ⟨H,I,h⟩
 |_=>exact h.no.elim
def vf {K:Frag}  (m:K4 K S H vs a)(h:M5 a i=Δ d):∃v,M5 vs i=Δ v/\K6 K S H v d:=by
 unfold M5 at h ⊢;rw[m.length];cases q:NT a.length i with
 |none=>rw[q]at h;cases h
 |some j=>rw[q]at h;exact m.get h
def Kl (K:Frag):R2:=λx y H Q=>∃S d e,K6 K S H x d/\K6 K S H y e/\K5 (iw d e) (Kk K S H Q)
def vi:Q5 X (Kl X.K):=by
 intro j n p s C H x y v u Q I F R h J;let⟨S,d,e,B,G,h⟩:=h;refine E1 j n p s C H x y v u Q I F R ?_ J;let b:∀ {P:Prop},iw d e=LP->P:=λz=>by rw[z]at h;exact h.no.elim
 cases e using zD with
 |i i=>
  cases G.L5
  cases d using zD with
  |l o r=>
   let⟨a,A,rfl,q,m⟩:=B.Mr;let f:K5 (match M5 r i with|some d=>.ok d|none=>LP) (Kk X.K S H Q):=h;cases z:M5 r i with
   |none=>rw[z]at f;exact f.no.elim
   |some d=>rw[z]at f;let⟨w,E,M⟩:=vf m z;exact .inl ⟨a,A,i,w,rfl,rfl,q,E,f.ok _ _ (.refl _) M.nw⟩
  |t r=>
   let⟨a,A,rfl,q,m⟩:=B.M3;let f:K5 (match M5 r i with|some d=>.ok d|none=>LP) (Kk X.K S H Q):=h;cases z:M5 r i with
   |none=>rw[z]at f;exact f.no.elim
   |some d=>rw[z]at f;let⟨w,E,M⟩:=vf m z;exact .inr (.inl ⟨a,A,i,w,rfl,rfl,q,E,f.ok _ _ (.refl _) M.nw⟩)
  |s z=>
   cases B.Mz;let⟨g,h⟩:=K5.LK h;cases q:M5 z.cps.toList i with
   |none=>rw[q]at h;exact h.no.elim
   |some c=>rw[q]at h;exact .inr (.inr ⟨z,i,c,rfl,rfl,jw g,q,h.ok _ _ (.refl _) (.k _)⟩)
  |_=>exact b rfl
 |_=>induction d using zD<;>exact b rfl
def Km (K:Frag):V->Option Int->Option Int->Hp->VK->Prop:=λx lo hi H Q=>∃S d,K6 K S H x d/\K5 (rN d lo hi) (Kk K S H Q)
def Fv:XF X (λx lo hi H Q=>∃z,x=.s z/\z.length<=Ζ/\Q (.s (Txt.slice z lo hi)) H):=by
 intro p s c H x v g e lo hi sl Q I r n pl P h;let⟨z,rfl,m,q⟩:=h;let⟨t,rfl⟩:=r;refine⟨"str",_,F.slot_str_getitem.lookup,typeIs_str s z t,?_⟩;let f:∀(l u:Option (Int×Tok)),g=partValue l->e=partValue u->l.map (·.1)=lo->u.map (·.1)=hi->Κ (Μ X.prog X.w) X.A (getItem (.str z t) (.ref sl)) (EP X p c Q) X.xe s:=by intro l u A y w E;subst A y w E;refine wpAny_getItem_str_slice (l:=l) (u:=u) (st:=Φ) n rfl ?_;exact post_val_or_str ⟨Q_ (Txt.slice_le z _ _) m,λa k=>⟨.s _,H,I.tok _,⟨_,rfl⟩,q⟩⟩
 cases pl with
 |none=>
  cases P with
  |none=>exact f Φ Φ rfl rfl rfl rfl
  |int j a=>exact f Φ (Δ (j,a)) rfl rfl rfl rfl
 |int i a=>
  cases P with
  |none=>exact f (Δ (i,a)) Φ rfl rfl rfl rfl
  |int j b=>exact f (Δ (i,a)) (Δ (j,b)) rfl rfl rfl rfl
open PySem.W
section
open Builtin Builtin.ObjectAttr Builtin.Getset_descriptor in
end
def vj {K:Frag}  (lo hi:Option Int)(m:K4 K S H vs a):K4 K S H (wM vs lo hi) (jK a lo hi):=by unfold wM jK;rw[m.length];exact(m.drop _).take _
def Cw:XF X (Km X.K):=by
 intro P s b H x v e c lo hi sl Q I r j pl f h;let⟨S,d,i,h⟩:=h
 cases d using zD with
 |l o w=>let⟨a,u,rfl,q,m⟩:=i.Mr;exact uS P s b H _ v e c lo hi sl Q I r j pl f ⟨a,u,rfl,q,λp n=>h.ok _ _ (.upd n) (xn n (vj lo hi m))⟩
 |s z=>cases i.Mz;let⟨g,h⟩:=K5.LK h;exact Fv P s b H _ v e c lo hi sl Q I r j pl f ⟨z,rfl,jw g,h.ok _ _ (.refl _) (.k _)⟩
 |_=>exact h.no.elim
def r6:∀ {u:Í},Vals (ns.map V.s) u->StrsAre u ns:=by
 induction ns with
 |nil=>intro u r;rw[List.map_nil]at r;cases r;exact .nil
 |cons n ns i=>
  intro u r;rw[a_]at r;cases r with
  |cons a R=>let⟨t,e⟩:=a;subst e;exact .cons n t (i R)
theorem kz:∀ {a:Î}{ns:È},i6 a=Δ ns->a=ns.map .i
 |[],ns,h=>by cases h;rfl
 |.i i::r,ns,h=>by
  let H:(i6 r).map (i::·)=Δ ns:=h;cases q:i6 r with
  |none=>rw[q]at H;cases H
  |some m=>rw[q]at H;cases H;rw[kz q];rfl
 |.L::_,_,h=>by cases h
 |.b _::_,_,h=>by cases h
 |.s _::_,_,h=>by cases h
 |.t _::_,_,h=>by cases h
 |.l _ _::_,_,h=>by cases h
theorem oz:∀ {a:Î}{ns:Æ},j9 a=Δ ns->a=ns.map .s
 |[],ns,h=>by cases h;rfl
 |.s i::r,ns,h=>by
  let H:(j9 r).map (i::·)=Δ ns:=h;cases q:j9 r with
  |none=>rw[q]at H;cases H
  |some m=>rw[q]at H;cases H;rw[oz q];rfl
 |.L::_,_,h=>by cases h
 |.b _::_,_,h=>by cases h
 |.i _::_,_,h=>by cases h
 |.t _::_,_,h=>by cases h
 |.l _ _::_,_,h=>by cases h
theorem mV:∀ {a:Î}{ns:List Bool},jL a=Δ ns->a=ns.map .b
 |[],ns,h=>by cases h;rfl
 |.b i::r,ns,h=>by
  let H:(jL r).map (i::·)=Δ ns:=h;cases q:jL r with
  |none=>rw[q]at H;cases H
  |some m=>rw[q]at H;cases H;rw[mV q];rfl
 |.L::_,_,h=>by cases h
 |.s _::_,_,h=>by cases h
 |.i _::_,_,h=>by cases h
 |.t _::_,_,h=>by cases h
 |.l _ _::_,_,h=>by cases h
def xp (G:X.calm=Θ):jS X (.builtin "all") (λg H Q=>∃(p:Ω) (bs:List Bool),g=[.r p]/\MR X.K H p (bs.map V.b)/\Q (.b (bs.all id)) H):=by
 intro P s N H g U Q I r h;let⟨p,bs,rfl,E,q⟩:=h;let⟨u,rfl,y⟩:=vals1 r;cases y;let⟨a,R,pl,W⟩:=I.list E;let k:=R.length;rw[i_]at k;let M:p < s.heap.objs.size:=by let⟨o,e,_⟩:=pl.isList;exact j_ e
 refine call_all_walk (aaL pl.isList ?_);refine⟨s.heap.objs.size,_,_,_,_,_,λi=>bs.getD i Θ,rfl,Walks.list (A:=X.A.in1) (show X.A.in1.handled=Φ from I.ok.hd G) s.heap.objs.size p (n_ M) a.toArray,⟨⟨_,A_ _ rfl,rfl,rfl⟩,?_⟩,?_,?_⟩
 ·let⟨o,e,c,n,d⟩:=pl.isList;exact⟨o,m_ _ e,c,n,d⟩
 ·intro i v S Q' E' C J;let l:a[i]? = Δ v:=by simpa using C
  let m:i < bs.length:=by have:=(v_.mp l).1;omega
  let⟨u,j,B⟩:=R.get (i:=i) (x:=.b bs[i]) (by rw[D_,y_ m];rfl);rw[l]at j;cases j;cases B;refine wpAny_truthy_bool ?_;let e:bs.getD i Θ=bs[i]:=by simp[List.getD,m]
  rw[<- e];exact J
 ·intro Y w kp;let L:(List.range a.toArray.size).all (λi=>bs.getD i Θ)=bs.all id:=by
   rw[show a.toArray.size=bs.length by simp[k]];rw[Bool.eq_iff_iff,M_,M_];constructor
   ·intro z b f;let⟨i,hi,rfl⟩:=List.getElem_of_mem f;have:=z i (X_.mpr hi);simpa[List.getD,hi] using this
   ·intro z i hi;let O:=X_.mp hi;have:=z bs[i] (aau O);simpa[List.getD,O] using this
  rw[L];refine⟨.b (bs.all id),H,I.kept (t':=w) λb o e=>kp b o ?_ (m_ _ e),rfl,q⟩;intro F;let f:b=s.heap.objs.size:=by simpa using F
  subst f;exact absurd (j_ e) (aac _)
def xq (G:X.calm=Θ):jS X (.builtin "any") (λg H Q=>∃(p:Ω) (bs:List Bool),g=[.r p]/\MR X.K H p (bs.map V.b)/\Q (.b (bs.any id)) H):=by
 intro P s N H g U Q I r h;let⟨p,bs,rfl,E,q⟩:=h;let⟨u,rfl,y⟩:=vals1 r;cases y;let⟨a,R,pl,W⟩:=I.list E;let k:=R.length;rw[i_]at k;let M:p < s.heap.objs.size:=by let⟨o,e,_⟩:=pl.isList;exact j_ e
 refine call_any_walk (aaL pl.isList ?_);refine⟨s.heap.objs.size,_,_,_,_,_,λi=>bs.getD i Ξ,rfl,Walks.list (A:=X.A.in1) (show X.A.in1.handled=Φ from I.ok.hd G) s.heap.objs.size p (n_ M) a.toArray,⟨⟨_,A_ _ rfl,rfl,rfl⟩,?_⟩,?_,?_⟩
 ·let⟨o,e,c,n,d⟩:=pl.isList;exact⟨o,m_ _ e,c,n,d⟩
 ·intro i v S Q' E' C J;let l:a[i]? = Δ v:=by simpa using C
  let m:i < bs.length:=by have:=(v_.mp l).1;omega
  let⟨u,j,B⟩:=R.get (i:=i) (x:=.b bs[i]) (by rw[D_,y_ m];rfl);rw[l]at j;cases j;cases B;refine wpAny_truthy_bool ?_;let e:bs.getD i Ξ=bs[i]:=by simp[List.getD,m]
  rw[<- e];exact J
 ·intro Y w kp;let L:(List.range a.toArray.size).any (λi=>bs.getD i Ξ)=bs.any id:=by
   rw[show a.toArray.size=bs.length by simp[k]];rw[Bool.eq_iff_iff,List.any_eq_true,List.any_eq_true];constructor
   ·rintro⟨i,hi,z⟩;let O:=X_.mp hi;exact⟨bs[i],aau O,by simpa[List.getD,O] using z⟩
   ·rintro⟨b,f,z⟩;let⟨i,hi,rfl⟩:=List.getElem_of_mem f;exact⟨i,X_.mpr hi,by simpa[List.getD,hi] using z⟩
  rw[L];refine⟨.b (bs.any id),H,I.kept (t':=w) λb o e=>kp b o ?_ (m_ _ e),rfl,q⟩;intro F;let f:b=s.heap.objs.size:=by simpa using F
  subst f;exact absurd (j_ e) (aac _)
abbrev lX:Bi->Str
 |.l=>"len" |.M=>"min" |.m=>"max" |.L=>"list" |.t=>"tuple" |.o=>"ord" |.a=>"all" |.A=>"any"
abbrev Ic:Bi->Bool
 |.L=>Θ|.t=>Θ
 |_=>Ξ
abbrev Ie:Bi->String
 |.l=>"len" |.M=>"min" |.m=>"max" |.L=>"list" |.t=>"tuple" |.o=>"ord" |.a=>"all" |.A=>"any"
abbrev yU (f:Bi):Ψ:=if Ic f=Θ then .type (Ie f) else .builtin (Ie f)
def vk (f:Bi):bootBuiltins (lX f)=Δ (yU f):=by cases f<;>decide +kernel
def rBi (K:Frag)(f:Bi):Ï->Hp->VK->Prop:=λx H Q=>∃S a,K4 K S H x a/\K5 (jT f a) (Kk K S H Q)
def K4.TZ {K:Frag}  (h:K4 K S H X [d]):∃x,X=[x]/\K6 K S H x d:=by
 cases h with
 |cons b a=>cases a;exact⟨_,rfl,b⟩
def K4.Z1 {K:Frag}  (h:K4 K S H X [d,e]):∃x y,X=[x,y]/\K6 K S H x d/\K6 K S H y e:=by
 cases h with
 |cons f c=>
  cases c with
  |cons b a=>cases a;exact⟨_,_,rfl,f,b⟩
def Cy (E:X.calm=Θ)(f:Bi):jS X (yU f) (rBi X.K f):=by
 intro k s u H J U Q I r h;let⟨S,n,w,h⟩:=h;let j:∀ {P:Prop},jT f n=LP->P:=λz=>by rw[z]at h;exact h.no.elim
 let one:∀ {d e:D}{R:Î},n=d::e::R->¬(f=.M∨f=.m)->jT f n=LP:=by intro d e R z nf;subst z;cases f<;>first|rfl|(exfalso;exact nf (.inl rfl))|(exfalso;exact nf (.inr rfl))|(induction d using zD<;>rfl)
 let F:∀ {d e g:D}{R:Î},n=d::e::g::R->jT f n=LP:=by intro d e g R z;subst z;cases f<;>first|rfl|(induction d using zD<;>rfl)|(induction d using zD<;>induction e using zD<;>rfl)
 let nil:n=[]->jT f n=LP:=by intro z;subst z;cases f<;>rfl
 match n,w with
 |[],w=>exact j (nil rfl)
 |d::e::g::R,w=>exact j (F rfl)
 |[d,e],w=>
  by_cases nf:f=.M∨f=.m
  ·let⟨x,y,rfl,hd,G⟩:=w.Z1;rcases nf with rfl|rfl
   ·cases d using zD with
    |i a=>
     cases e using zD with
     |i b=>cases hd.L5;cases G.L5;exact wK E k s u H _ U Q I r ⟨a,b,rfl,h.ok _ _ (.refl _) (.c _)⟩
     |_=>exact j rfl
    |_=>exact j rfl
   ·cases d using zD with
    |i a=>
     cases e using zD with
     |i b=>cases hd.L5;cases G.L5;exact wJ E k s u H _ U Q I r ⟨a,b,rfl,h.ok _ _ (.refl _) (.c _)⟩
     |_=>exact j rfl
    |_=>exact j rfl
  ·exact j (one rfl nf)
 |[d],w=>
  let⟨x,rfl,hd⟩:=w.TZ;cases f with
  |l=>
   cases d using zD with
   |s z=>cases hd.Mz;let⟨g,h⟩:=K5.LK h;exact nR k s u H _ U Q I r ⟨_,_,rfl,⟨jw g,rfl⟩,h.ok _ _ (.refl _) (.c _)⟩
   |t n=>let⟨a,Y,rfl,q,m⟩:=hd.M3;exact nR k s u H _ U Q I r ⟨_,n.length,rfl,.inr ⟨Y,q,m.length.symm⟩,h.ok _ _ (.refl _) (.c _)⟩
   |l o n=>let⟨a,Y,rfl,q,m⟩:=hd.Mr;exact nR k s u H _ U Q I r ⟨_,n.length,rfl,.inl ⟨Y,q,m.length.symm⟩,h.ok _ _ (.refl _) (.c _)⟩
   |_=>exact j rfl
  |a=>
   cases d using zD with
   |l o n=>
    let⟨a,Y,rfl,q,m⟩:=hd.Mr;let v:K5 (match jL n with|some bs=>.ok (.b (bs.all id))|none=>LP) (Kk X.K S H Q):=h;cases z:jL n with
    |none=>rw[z]at v;exact v.no.elim
    |some ns=>rw[z]at v;rw[mV z]at m;rw[m.bls]at q;exact xp E k s u H _ U Q I r ⟨a,ns,rfl,q,v.ok _ _ (.refl _) (.B _)⟩
   |_=>exact j rfl
  |A=>
   cases d using zD with
   |l o n=>
    let⟨a,Y,rfl,q,m⟩:=hd.Mr;let v:K5 (match jL n with|some bs=>.ok (.b (bs.any id))|none=>LP) (Kk X.K S H Q):=h;cases z:jL n with
    |none=>rw[z]at v;exact v.no.elim
    |some ns=>rw[z]at v;rw[mV z]at m;rw[m.bls]at q;exact xq E k s u H _ U Q I r ⟨a,ns,rfl,q,v.ok _ _ (.refl _) (.B _)⟩
   |_=>exact j rfl
  |o=>
   cases d using zD with
   |s z=>cases hd.Mz;let⟨g,h⟩:=K5.LK h;exact xU k s u H _ U Q I r ⟨z,rfl,t_ g,h.ok _ _ (.refl _) (.c _)⟩
   |_=>exact j rfl
  |L=>
   cases d using zD with
   |l o n=>let⟨a,Y,rfl,q,m⟩:=hd.Mr;exact ml k s u H _ U Q I r ⟨a,Y,rfl,.inl q,λp C=>h.ok _ _ (.upd C) (xn C m)⟩
   |_=>exact j rfl
  |M=>induction d using zD<;>exact j rfl
  |m=>induction d using zD<;>exact j rfl
  |t=>
   cases d using zD with
   |l o n=>let⟨a,Y,rfl,q,m⟩:=hd.Mr;exact pf k s u H _ U Q I r ⟨a,Y,rfl,.inl ⟨q,λp C=>h.ok _ _ (.upd C) (Ib C m)⟩⟩
   |_=>exact j rfl
abbrev mW:Kd->Str
 |.s=>"str" |.i=>"int" |.b=>"bool" |.l=>"list" |.t=>"tuple"
abbrev yV:Kd->Ψ
 |.s=>.type "str" |.i=>.type "int" |.b=>.type "bool" |.l=>.type "list" |.t=>.type "tuple"
def Cz (k:Kd):bootBuiltins (mW k)=Δ (yV k):=by cases k<;>decide +kernel
abbrev dTy:D->Ψ
 |.L=>.type "NoneType" |.b _=>.type "bool" |.i _=>.type "int" |.s _=>.type "str" |.t _=>.type "tuple" |.l _ _=>.type "list" |.K _ _ _=>.none
def CA (K:Frag)(k:Kd)(d:D)(hn:oq d=Θ):PySem.W.kitOne K (dTy d) (yV k)=Δ (kh k d):=by cases k<;>induction d using zD<;>first|rfl|cases hn
def CB (I:Inv X p u H s)(r:RelV x v)(c:K6 X.K S H x d)(k:Kd)(hn:oq d=Θ)(h:Q (.b (kh k d)) H) :
  Κ (Μ X.prog X.w) X.A (call (.builtin "isinstance") [v,yV k]) (EP X p u Q) X.xe s:=by
 let e:=CA X.K k d hn;let f:∀w,EP X p u Q (.bool (kh k d)) {s with toks:=w}:=λw=>⟨.b _,H,I.tok _,rfl,h⟩
 cases d using zD with
 |L=>cases c.NU;cases r;exact PySem.W.kia_one PySem.W.kitx_none I.Oo True.intro e (λz=>nomatch z) f
 |b b=>cases c.Qq;cases r;exact PySem.W.kia_one PySem.W.kitx_bool I.Oo True.intro e (λz=>nomatch z) f
 |i b=>cases c.L5;let⟨t,rfl⟩:=r;exact PySem.W.kia_one PySem.W.kitx_int I.Oo True.intro e (λz=>nomatch z) f
 |s b=>cases c.Mz;let⟨t,rfl⟩:=r;exact PySem.W.kia_one PySem.W.kitx_str I.Oo True.intro e (λz=>nomatch z) f
 |t y=>let⟨a,Y,rfl,q,m⟩:=c.M3;cases r;let⟨g,_,⟨o,n,j,_⟩,_⟩:=I.tuple q;exact PySem.W.kia_one PySem.W.kitx_tuple I.Oo ⟨o,n,j⟩ e (λz=>nomatch z) f
 |l o y=>let⟨a,Y,rfl,q,m⟩:=c.Mr;cases r;let⟨g,_,pl,_⟩:=I.list q;let⟨o,n,j,_⟩:=pl.isList;exact PySem.W.kia_one PySem.W.kitx_list I.Oo ⟨o,n,j⟩ e (λz=>nomatch z) f
 |K o ks y=>cases hn
abbrev qy:Mt->Str
 |.j=>"join" |.s=>"startswith"
abbrev Ko:Mt->String
 |.j=>"str.join" |.s=>"str.startswith"
def rMt (K:Frag)(m:Mt):V->Ï->Hp->VK->Prop:=λx X H Q=>∃S d a,K6 K S H x d/\K4 K S H X a/\K5 (ox m d a) (Kk K S H Q)
def yW (h:K5 (ox m d a) k):∃x,d=.s x:=by cases m<;>induction d using zD<;>first|exact⟨_,rfl⟩|exact h.no.elim
def vn (m:Mt):Zk X (Ko m) (rMt X.K m):=by
 intro p s J H x L v U Q I C rs h;let⟨S,d,i,G,n,h⟩:=h;let⟨z,rfl⟩:=yW h;cases G.Mz;let⟨t,rfl⟩:=C;let c:∀ {P:Prop},ox m (.s z) i=LP->P:=λz=>by rw[z]at h;exact h.no.elim
 match i,n with
 |[],_=>cases m<;>exact c rfl
 |d::e::r,_=>cases m<;>induction d using zD<;>exact c rfl
 |[d],n=>
  let⟨y,rfl,hd⟩:=n.TZ;let⟨u,rfl,R⟩:=vals1 rs;cases m with
  |j=>
   cases d using zD with
   |l o i=>
    let⟨a,Y,rfl,q,m⟩:=hd.Mr;cases R;let f:K5 (match j9 i with|some Y=>LK (decide ((Y.map (·.length)).sum+Y.length*z.length<=16777216)) (.ok (.s (Txt.join z Y)))|none=>LP) (Kk X.K S H Q):=h;cases w:j9 i with
    |none=>rw[w]at f;exact f.no.elim
    |some ns=>rw[w]at f;let⟨g,f⟩:=K5.LK f;rw[oz w]at m;rw[m.strs]at q;let⟨F,E,pl,_⟩:=I.list q;exact join_list pl.isList (by simpa using r6 E) (t_ g) λA k=>⟨.s _,H,I.tok _,⟨_,rfl⟩,f.ok _ _ (.refl _) (.k _)⟩
   |_=>exact c rfl
  |s=>
   cases d using zD with
   |s y=>cases hd.Mz;let⟨A,rfl⟩:=R;exact SC.startswith ⟨.b _,H,I,rfl,K5.ok h _ _ (.refl _) (.B _)⟩
   |_=>exact c rfl
abbrev Z2 (x:Str):It:=⟨λi _=>i < x.cps.size,λi H v h=>h=H/\∃c,x.cps[i]? = Δ c/\v=.s ⟨#[c]⟩,λi _=>x.cps.size<=i⟩
def yX {P:Ε}{w:Β}{K:Frag}{tg:Expr}{a:Ω}{x:Str}{t:Tok}{g:String}(U:g = "str_ascii_iterator"∨g = "str_iterator")
  (W:∀A':Ι,A'.handled=Φ->Walks P w A' a [a] [a] x.cps.size (SignAt x) (λi h=>h.IsStrIter a g x t i)):Turn P w K tg (Z2 x) [a] a (λi h=>i<=x.cps.size/\h.IsStrIter a g x t i) where
 mem:=by simp
 obj:=λi h st b f=>by
  let e:b=a:=by simpa using f
  subst e;let⟨_,o,e,c,d⟩:=st;exact⟨o,e,λv z=>by rw[d]at z;cases z⟩
 keep:=λi h q st k=>by let⟨l,o,e,c,d⟩:=st;exact⟨l,o,k a (by simp) o e,c,d⟩
 item:=by intro X G B J F i p s S H E I m st j;subst G B J;let⟨R,O,f2,N,M,L⟩:=m a (by simp);refine(W X.A (I.ok.hd F)).item i s _ _ j st.2 λv q r hv Y y=>?_;let⟨c,u,C,rfl⟩:=hv;let I1:Inv X p S H {s with heap:=q,toks:=r}:=I.turned (λb o f e=>y b o (by simpa using f) e) R O N M L;let⟨o,e,cc,d⟩:=id Y;refine⟨_,rfl,uN (s:={s with heap:=q,toks:=r}) (n:=g) e cc d (by rcases U with rfl|rfl<;>decide) ⟨.s ⟨#[c]⟩,H,I1,⟨u,rfl⟩,⟨rfl,c,C,rfl⟩,⟨j,Y⟩,λb f=>(m b f).1⟩⟩
 done:=by intro X G B J F i p s S H E I m st j;subst G B J;let⟨R,O,f2,N,M,L⟩:=m a (by simp);let e:i=x.cps.size:=Nat.le_antisymm st.1 j;refine(W X.A (I.ok.hd F)).done s _ _ (by rw[<- e];exact st.2) λq r y=>⟨rfl,I.turned (λb o f e=>y b o (by simpa using f) e) R O N M L⟩
 self:=λA i s Q E st h=>by
  let⟨_,st⟩:=st;rcases U with rfl|rfl
  ·exact wpAny_pyIter_striter_ascii st h
  ·exact wpAny_pyIter_striter_wide st h
def Fw (I:Inv X p g H s)(q:R (Z2 x) H):Κ (Μ X.prog X.w) X.A (pyIter (.str x t)) (UU X p g k R) X.xe s:=by
 let f:∀a,(a = "str_ascii_iterator"∨a = "str_iterator")->(∀A:Ι,A.handled=Φ->Walks X.prog X.w A s.heap.objs.size [s.heap.objs.size] [s.heap.objs.size] x.cps.size (SignAt x) (λi h=>h.IsStrIter s.heap.objs.size a x t i))->
   UU X p g k R (.ref s.heap.objs.size) {s with heap:=s.heap.push {cls:=.type a,data:=.fields #[.str x t,.int 0 0]}}:=λa U W=>by
  refine⟨s.heap.objs.size,[s.heap.objs.size],_,_,H,rfl,I.kept (t':=s.toks) λb o e=>m_ _ e,yX U W,⟨aaa _,_,A_ _ rfl,rfl,rfl⟩,λb l=>?_,q⟩;let e:b=s.heap.objs.size:=by simpa using l
  subst e;exact I.Pe (o_ _) (I.L1.fresh (o_ _))
 cases j:x.cps.all (· < 128)
 ·exact wpAny_pyIter_wide j (f _ (.inr rfl) λA c=>Walks.strWide c _ x t)
 ·exact wpAny_pyIter_ascii j (f _ (.inl rfl) λA c=>Walks.strAscii c _ x t)
end L2
namespace PySem
open Sem (wp)
end PySem
namespace L2
open PySem PySem.Spec PyProof.Rows PySem.SeqAt
def iR.at {o:HO}(x:iR P w H h a o):∃O,h.get? a=Δ O:=by
 cases o with
 |l X=>let⟨_,_,_,_,e⟩:=x;exact⟨_,e⟩
 |t X=>let⟨_,_,_,O,e,_⟩:=x;exact⟨_,e⟩
 |d k=>let⟨_,_,_,_,o,_,_,e,_⟩:=x;exact⟨_,e⟩
 |D k=>let⟨_,_,_,_,o,_,_,e,_⟩:=x;exact⟨_,e⟩
 |s S n=>let⟨o,_,_,_,e,_⟩:=x;exact⟨_,e⟩
 |i C c fs=>let⟨_,_,_,e,_⟩:=x;exact⟨_,e⟩
 |o y=>exact x
 |x fs=>let⟨_,⟨_,_,_,e,_⟩,_⟩:=x;exact⟨_,e⟩
 |Q lo hi=>let⟨_,_,_,e⟩:=x;exact⟨_,e⟩
 |L O u=>exact⟨_,x.1⟩
 |S p=>exact⟨_,x⟩
 |m f y=>exact⟨_,x⟩
 |e b=>exact x.2.1
abbrev indep:HO->Bool
 |.l _=>Θ
 |.t _=>Θ
 |.e _=>Θ
 |.d _=>Θ
 |_=>Ξ
def mH (i:indep u=Θ)(x:iR P w H h a u):iR P w H' h a u:=by
 cases u with
 |l _=>exact x
 |t _=>exact x
 |e _=>exact x
 |d _=>exact x
 |_=>cases i
abbrev iL (h:Heap)(H:Hp):Hp:=λb=>match H b with
 |some (.l x)=>(h.get? b).map λo=>.L o (.l x)
 |some (.d k)=>(h.get? b).map λo=>.L o (.d k)
 |some (.t x)=>Δ (.t x)
 |some (.L o u)=>if indep u=Θ then Δ (.L o u) else Φ
 |_=>Φ
abbrev kj (H H':Hp):Hp:=λb=>match H b with
 |some o=>Δ o
 |none=>H' b
def LTH (H:Hp):Prop:=∀b o,H b=Δ o->(∃O u,o=.L O u)∨∃x,o=.t x
def yY (h:Heap)(H:Hp):LTH (iL h H):=λb o e=>by
 unfold iL at e;split at e
 ·let⟨O,_,rfl⟩:=aaO.mp e;exact .inl ⟨_,_,rfl⟩
 ·let⟨O,_,rfl⟩:=aaO.mp e;exact .inl ⟨_,_,rfl⟩
 ·cases e;exact .inr ⟨_,rfl⟩
 ·split at e
  ·cases e;exact .inl ⟨_,_,rfl⟩
  ·cases e
 ·cases e
structure N6 (h:Heap)(Hc H':Hp):Prop where
 M6:∀b o u,Hc b=Δ (.L o u)->H' b=Δ (.L o u)
 Ny:∀b xs,Hc b=Δ (.t xs)->H' b=Δ (.t xs)
 free:∀b o,h.get? b=Δ o->Hc b=Φ->H' b=Φ
inductive Bk (h:Heap)(H H':Hp)(b:Ω):HO->Prop where
 | l {xs:Ï}{ob:Obj}:h.get? b=Δ ob->H' b=Δ (.L ob (.l xs))->Bk h H H' b (.l xs)
 | d {xs:List (Key×V)}{ob:Obj}:h.get? b=Δ ob->H' b=Δ (.L ob (.d xs))->Bk h H H' b (.d xs)
 | t {xs:Ï}:H' b=Δ (.t xs)->Bk h H H' b (.t xs)
 | L {o:Obj}{u:HO}:indep u=Θ->H' b=Δ (.L o u)->Bk h H H' b (.L o u)
 | N {o:HO}{ob:Obj}:h.get? b=Δ ob->iL h H b=Φ->H' b=Φ->(∀xs,o≠.l xs)->(∀xs,o≠.t xs)->(∀xs,o≠.d xs)->Bk h H H' b o
section
variable {P:Ε}{w:Β}{H H':Hp}{h g:Heap}
def r9 (x:Mp P w H h)(p:N6 h (iL h H) H')  {o:HO}(e:H b=Δ o):Bk h H H' b o:=by
 let⟨f,c⟩:=(x b o e).at
 let a:iL h H b=(match(Δ o:Option HO) with
  |some (.l X)=>(h.get? b).map λo=>.L o (.l X)
  |some (.d k)=>(h.get? b).map λo=>.L o (.d k)
  |some (.t X)=>Δ (.t X)
  |some (.L o u)=>if indep u=Θ then Δ (.L o u) else Φ
  |_=>Φ):=by unfold iL;rw[e]
 cases o with
 |l X=>let a:iL h H b=(h.get? b).map λo=>.L o (.l X):=a;rw[c]at a;exact .l c (p.M6 _ _ _ a)
 |d X=>let a:iL h H b=(h.get? b).map λo=>.L o (.d X):=a;rw[c]at a;exact .d c (p.M6 _ _ _ a)
 |t X=>exact .t (p.Ny _ _ a)
 |L O u=>
  let a:iL h H b=if indep u=Θ then Δ (.L O u) else Φ:=a
  by_cases i:indep u=Θ
  ·rw[e_ i]at a;exact .L i (p.M6 _ _ _ a)
  ·rw[d_ i]at a;exact .N c a (p.free _ _ c a) (λ_ z=>by cases z) (λ_ z=>by cases z) (λ_ z=>by cases z)
 |_=>exact .N c a (p.free _ _ c a) (λ_ z=>by cases z) (λ_ z=>by cases z) (λ_ z=>by cases z)
def ui (x:Mp P w H h):Mp P w (iL h H) h:=λb o e=>by
 cases q:H b with
 |none=>unfold iL at e;rw[q]at e;cases e
 |some u=>
  let y:=x b u q;unfold iL at e;rw[q]at e;cases u with
  |l X=>
   let⟨O,a⟩:=y.at
   let e:(h.get? b).map (λo=>HO.L o (.l X))=Δ o:=e;rw[a]at e;cases e;exact⟨a,y⟩
  |d X=>
   let⟨O,a⟩:=y.at
   let e:(h.get? b).map (λo=>HO.L o (.d X))=Δ o:=e;rw[a]at e;cases e;exact⟨a,y⟩
  |t X=>cases e;exact y
  |L c u=>
   let e:(if indep u=Θ then Δ (HO.L c u) else Φ)=Δ o:=e;by_cases i:indep u=Θ
   ·rw[e_ i]at e;cases e;exact⟨y.1,mH i y.2⟩
   ·rw[d_ i]at e;cases e
  |_=>cases e
def jx (e:H a=Φ):iL h H a=Φ:=by unfold iL;rw[e]
def res_some {o:HO}(e:H b=Δ o):kj H H' b=Δ o:=by unfold kj;rw[e]
def res_none (e:H b=Φ):kj H H' b=H' b:=by unfold kj;rw[e]
def yZ:ir H (kj H H'):=λb o e=>res_some e
def uj (x:Mp P w H h)(y:Mp P w H' g)(p:N6 h (iL h H) H'){fs:Ì}(keep:∀b o,H b≠Φ->h.get? b=Δ o->iL h H b=Φ->b∉fs->g.get? b=Δ o)(fr:∀b∈fs,H b=Φ):Mp P w (kj H H') g:=by
 let m:∀c X,H' c=Δ (.t X)->kj H H' c=Δ (.t X):=λc X e=>by
  cases q:H c with
  |none=>rw[res_none q];exact e
  |some o=>
   rw[res_some q];cases r9 x p q with
   |l _ z=>rw[z]at e;cases e
   |d _ z=>rw[z]at e;cases e
   |t z=>rw[z]at e;exact e
   |L _ z=>rw[z]at e;cases e
   |N _ _ z _ _ _=>rw[z]at e;cases e
 intro b o e;cases q:H b with
 |some O=>
  rw[res_some q]at e;cases e;cases r9 x p q with
  |l j z=>let f:=(y b _ z).1;let⟨s,I,n,r,A⟩:=x b _ q;rw[j]at A;exact⟨s,I,n,r,by rw[f,<- A]⟩
  |d j z=>exact mH rfl (y b _ z).2
  |t z=>exact y b _ z
  |L i z=>exact⟨(y b _ z).1,mH i (y b _ z).2⟩
  |N j f z C B v=>
   refine(x b _ q).Nx (λc u a k=>?_) (λc a=>res_some a) λc X a=>res_some a;rcases a with rfl|a
   ·exact keep _ _ (by rw[q];simp) k f λz=>by rw[fr _ z]at q;cases q
   ·refine keep _ _ (by rw[a];simp) k ?_ λz=>by rw[fr _ z]at a;cases a
    unfold iL;rw[a]
 |none=>
  rw[res_none q]at e;refine(y b o e).Nx (λ_ _ _ z=>z) (λc a=>?_) m;cases Q:H c with
  |none=>rw[res_none Q];exact a
  |some O=>
   exfalso;cases r9 x p Q with
   |l _ z=>rw[z]at a;cases a
   |d _ z=>rw[z]at a;cases a
   |t z=>rw[z]at a;cases a
   |L _ z=>rw[z]at a;cases a
   |N _ _ z _ _ _=>rw[z]at a;cases a
def nG {fs:Ì}(u:Un fs [] (iL h H) H' h g):N6 h (iL h H) H':=⟨u.M6,u.Ny,λb o e n=>u.free b o e n (by simp)⟩
def y3 {fs:Ì}(x:Mp P w H h)(u:Un fs [] (iL h H) H' h g):Un fs [] H (kj H H') h g where
 keep:=λb o e n f i=>u.keep b o e (jx n) f i
 slot:=λb o e n f i=>u.slot b o e (jx n) f i
 free:=λb o e n i=>by rw[res_none n];exact u.free b o e (jx n) i
 there:=u.there
 Ny:=λb X e=>res_some e
 M6:=λb o v e=>res_some e
 Om:=λb p e=>⟨#[],by rw[res_some e];simp⟩
end
def Fx:Cl H (iL h H):=by
 refine⟨λb x e=>?_⟩
 ·rcases e with e|⟨o,e⟩
  ·exact .inl (by unfold iL;rw[e])
  ·exact .inr ⟨o,by unfold iL;rw[e];rfl⟩
def Fy (x:Mp P w H h)(p:N6 h (iL h H) H'):Cl H' (kj H H'):=by
 refine⟨λb X e=>?_⟩
 ·cases q:H b with
  |none=>unfold Rd;rw[res_none q];exact e
  |some u=>
   unfold Rd;rw[res_some q];let k:=r9 x p q;cases k with
   |l c a=>rcases e with e|⟨o,e⟩<;>(rw[e]at a;cases a)
   |d c a=>rcases e with e|⟨o,e⟩<;>(rw[e]at a;cases a)
   |t a=>rcases e with e|⟨o,e⟩<;>(rw[e]at a;cases a);exact .inl rfl
   |L c a=>rcases e with e|⟨o,e⟩<;>(rw[e]at a;cases a);exact .inr ⟨_,rfl⟩
   |N c a f=>rcases e with e|⟨o,e⟩<;>(rw[e]at f;cases f)
abbrev iU:Æ:=["len","sum","min","max","sorted","list","tuple","ord","int","all","any","str","set","abs","isinstance","range","bool","zip","reversed","dict","enumerate"]
abbrev vq:Bi->Nat
 |.l=>0|.M=>2|.m=>3|.L=>5|.t=>6|.o=>7|.a=>9|.A=>10
abbrev y6:Kd->Nat
 |.s=>11|.i=>8|.b=>16|.l=>5|.t=>6
def y7 (f:Bi):iU[vq f]? = Δ (lX f):=by cases f<;>rfl
def Fz (f:Kd):iU[y6 f]? = Δ (mW f):=by cases f<;>rfl
mutual
noncomputable def y9:D->D->Bool
 |.L,.L=>Θ
 |.b a,.b b=>a == b
 |.i a,.i b=>a == b
 |.s a,.s b=>a == b
 |.t a,.t b=>oA a b
 |.l o a,.l O b=>o == O&&oA a b
 |_,_=>Ξ
noncomputable def oA:Î->Î->Bool
 |[],[]=>Θ
 |a::r,b::s=>y9 a b&&oA r s
 |_,_=>Ξ
end
mutual
theorem vt:∀ {a b:D},y9 a b=Θ->a=b
 |.L,b,h=>by cases b<;>first|rfl|cases h
 |.b a,b,h=>by cases b<;>first|(rw[h_ (show(a == _)=Θ from h)])|cases h
 |.i a,b,h=>by cases b<;>first|(rw[h_ (show(a == _)=Θ from h)])|cases h
 |.s a,b,h=>by cases b<;>first|(rw[h_ (show(a == _)=Θ from h)])|cases h
 |.t a,b,h=>by
  cases b using zD with
  |t b=>rw[oB (show oA a b=Θ from h)]
  |_=>cases h
 |.l o a,b,h=>by
  cases b using zD with
  |l O b=>let H:(o == O&&oA a b)=Θ:=h;rw[g_]at H;rw[h_ H.1,oB H.2]
  |_=>cases h
theorem oB:∀ {a b:Î},oA a b=Θ->a=b
 |[],b,h=>by cases b<;>first|rfl|cases h
 |a::r,b,h=>by
  cases b using zL with
  |nil=>cases h
  |cons b s=>let H:(y9 a b&&oA r s)=Θ:=h;rw[g_]at H;rw[vt H.1,oB H.2]
end
structure Sg where
 nm:Æ
 Wb:List (Nat×D)
 fns:Ç
 cls:Ç:=[]
 xt:List (Str×Nat×Bool):=[]
 pl:Ç:=[]
 rc:List (Nat×Str×Str):=[]
 xm:List (Str×Nat):=[]
 Nk:Ç:=[]
abbrev Sg.name (Z:Sg)(n:Nat):Option Str:=(iU++Z.nm)[n]?
abbrev Gm.N7 (G:Gm)(n:Nat):Bool:=G.cm&&G.gl.contains n
def mX {G:Gm}  (h:G.N7 n=Θ):G.gl.contains n=Θ:=by unfold Gm.N7 at h;rw[g_]at h;exact h.2
def mY {G:Gm}  (h:G.N7 n=Θ):G.cm=Θ:=by unfold Gm.N7 at h;rw[g_]at h;exact h.1
abbrev Sg.U6 (Z:Sg)(G:Gm)(f:Nat):Bool:=Z.fns.contains f&&(G.cm||Z.pl.contains f)
def qz {Z:Sg}{G:Gm}  (h:Z.U6 G f=Θ):f∈Z.fns/\(G.cm=Θ∨f∈Z.pl):=by unfold Sg.U6 at h;rw[g_,aaf]at h;exact⟨by simpa using h.1,h.2.elim .inl λz=>.inr (by simpa using z)⟩
abbrev notStar:Expr->Bool
 |.Starred ..=>Ξ
 |_=>Θ
abbrev iW:Expr->Bool
 |.Slice ..=>Ξ
 |_=>Θ
abbrev sd:Expr->Bool
 |.Call _ [] [] _=>Ξ
 |_=>Θ
abbrev ke (G:Gm)(i:Nat)(x:Str):Bool:=G.N[i]? == Δ x&&(G.kd[i]? == Δ .local||G.kd[i]? == Δ .cell||G.kd[i]? == Δ .free)
abbrev jZ (Z:Sg)(G:Gm)(n:Nat)(x:Str):Bool:=Z.name n == Δ x&&G.gl.contains n
abbrev Ig:D->Const->Bool
 |.i i,.int j=>i == j
 |.s x,.str y=>x == y
 |.b a,.bool b=>a == b
 |.L,.none=>Θ
 |_,_=>Ξ
mutual
noncomputable def jM (G:Gm):Tg->Expr->Bool
 |.n i,.Name x _=>(G.N[i]? == Δ x&&(G.kd[i]? == Δ .local||(G.df&&G.kd[i]? == Δ .cell)))&&G.io != Δ i
 |.t ts,.Tuple e _ _=>G.cm&&lG G ts e
 |_,_=>Ξ
noncomputable def lG (G:Gm):List Tg->Á->Bool
 |[],[]=>Θ
 |t::ts,e::E=>notStar e&&jM G t e&&lG G ts E
 |_,_=>Ξ
end
mutual
noncomputable def N8:Tg->Ç
 |.n i=>[i]
 |.t ts=>sf ts
noncomputable def sf:List Tg->Ç
 |[]=>[]
 |t::ts=>N8 t++sf ts
end
abbrev jW (Z : Sg)(G : Gm)(s : Scope)(g : Gm)(fr : Ç) : Bool :=
  (G.cm&&s.kind == .function)&&!g.tr&&!g.df&&g.kd.length == g.N.length
 &&s.names.all (λy =>y.2 != .cell)&&s.names.all (λy =>y.2 != .local||s.names.lookup y.1 == Δ .local)
 &&s.names.all (λy =>y.2 != .free||(List.range G.N.length).any λi =>G.N[i]? == Δ y.1&&(G.kd[i]? == Δ .cell||G.kd[i]? == Δ .free))
 &&(List.range fr.length).all (λj =>g.N[j]? == (fr[j]?).bind (G.N[·]?)&&((g.N[j]?).bind (s.names.lookup ·) == Δ .free)&&((fr[j]?).bind (G.kd[·]?) == Δ .cell||(fr[j]?).bind (G.kd[·]?) == Δ .free)
     &&(g.kd[j]? == Δ (if((fr[j]?).bind (G.kd[·]?) == Δ .cell) then .cell else .free)))
 &&decide (fr.length <= g.N.length)
 &&((List.range g.N.length).drop fr.length).all (λj =>(g.N[j]?).bind (s.names.lookup ·) == Δ .local&&g.kd[j]? == Δ .local)
 &&g.N.all (λx =>!(x == "__debug__")&&!(x == "__classdict__"))
 &&decide (g.N.Nodup)
 &&g.gl.all (λn =>match Z.name n with|some x =>s.names.lookup x == Δ .globalImplicit|none =>Ξ)
def iF {P:Prop}(h:Ξ=Θ):P:=by cases h
abbrev zb:List Comprehension->(Expr->Expr->Á->Bool)->Bool
 |[⟨t,i,fs,0⟩],k=>k t i fs
 |_,_=>Ξ
local macro_rules | `(tactic| exists $h) =>`(tactic| first | exact L2.iF $h | cases($h))
def nH (h:zb g k=Θ):∃t i fs,g=[⟨t,i,fs,0⟩]/\k t i fs=Θ:=by
 unfold zb at h;split at h
 ·exact⟨_,_,_,rfl,h⟩
 ·cases h
abbrev Ov (k:Str->Bool):Expr->Bool
 |.Name z _=>k z
 |_=>Ξ
def ji (h:Ov k e=Θ):∃z p,e=.Name z p/\k z=Θ:=by
 cases e using zE with
 |Name z p=>exact⟨z,p,rfl,h⟩
 |_=>exact iF h
abbrev NK {b:Type}:List b->(b->Bool)->Bool
 |a::r,k=>r.isEmpty&&k a
 |[],_=>Ξ
def i5 (h:NK l k=Θ):∃a,l=[a]/\k a=Θ:=by
 cases l using zL with
 |nil=>exact iF h
 |cons a r=>
  cases r using zL with
  |nil=>exact⟨a,rfl,h⟩
  |cons b r=>exact iF h
abbrev P0:Expr->(Expr->Á->Pos->Bool)->Bool
 |.Call f as ks p,k=>ks.isEmpty&&k f as p
 |_,_=>Ξ
def jX (h:P0 e k=Θ):∃f as p,e=.Call f as [] p/\k f as p=Θ:=by
 cases e using zE with
 |Call f as ks p=>
  cases ks using zL with
  |nil=>exact⟨f,as,p,rfl,h⟩
  |cons b r=>exact iF h
 |_=>exact iF h
abbrev zd:Expr->Bool
 |.Tuple _ _ _=>Θ
 |_=>Ξ
abbrev qB:Sr->Expr->Bool
 |.z _ _,t=>zd t
 |.N _,t=>zd t
 |_,_=>Θ
abbrev xr:Bool->CmpOp
 |true=>.NotIn
 |false=>.In
abbrev SM:Expr->Bool
 |.Dict ks vs _=>ks.isEmpty&&vs.isEmpty
 |_=>Ξ
def uk (h:SM e=Θ):∃p,e=.Dict [] [] p:=by
 cases e using zE with
 |Dict ks vs p=>
  let H:=l_.mp (show(ks.isEmpty&&vs.isEmpty)=Θ from h)
  cases ks using zL with
  |cons _ _=>exact iF H.1
  |nil=>
   cases vs using zL with
   |cons _ _=>exact iF H.2
   |nil=>exact⟨p,rfl⟩
 |_=>exact iF h
abbrev XX:Expr->(Expr->Expr->Bool)->Bool
 |.Subscript o s _,k=>k o s
 |_,_=>Ξ
def FA (h:XX e k=Θ):∃o s p,e=.Subscript o s p/\k o s=Θ:=by
 unfold XX at h;split at h
 ·exact⟨_,_,_,rfl,h⟩
 ·cases h
abbrev Wc:Expr->(Expr->CmpOp->Expr->Bool)->Bool
 |.Compare l [o] [r] _,k=>k l o r
 |_,_=>Ξ
def ze (h:Wc e k=Θ):∃l o r p,e=.Compare l [o] [r] p/\k l o r=Θ:=by
 unfold Wc at h;split at h
 ·exact⟨_,_,_,_,rfl,h⟩
 ·cases h
abbrev SN (e:Expr)(k:Str->Str->Expr->Bool):Bool:=P0 e λf as _=>Ov (λx=>NK as λa=>P0 a λg bs _=>Ov (λy=>NK bs λb=>k x y b) g) f
def qC (h:SN e k=Θ):∃x p y P E Q q,e=.Call (.Name x p) [.Call (.Name y P) [E] [] Q] [] q/\k x y E=Θ:=by let⟨f,as,q,rfl,m⟩:=jX h;let⟨x,p,rfl,l⟩:=ji m;let⟨a,rfl,j⟩:=i5 l;let⟨g,bs,Q,rfl,i⟩:=jX j;let⟨y,P,rfl,c⟩:=ji i;let⟨b,rfl,H⟩:=i5 c;exact⟨_,_,_,_,_,_,_,rfl,H⟩
abbrev U7:Á->(Expr->Expr->Bool)->Bool
 |a::r,k=>NK r (k a)
 |[],_=>Ξ
def oC (h:U7 l k=Θ):∃a b,l=[a,b]/\k a b=Θ:=by
 cases l using zL with
 |nil=>exact iF h
 |cons a r=>let⟨b,rfl,h⟩:=i5 (show NK r (k a)=Θ from h);exact⟨a,b,rfl,h⟩
abbrev Z3 (e:Expr)(k:Str->Str->Expr->Expr->Bool):Bool:=P0 e λf as _=>Ov (λx=>NK as λa=>P0 a λg bs _=>Ov (λy=>U7 bs λb c=>k x y b c) g) f
def FC (h:Z3 e k=Θ):∃x p y P a b Q q,e=.Call (.Name x p) [.Call (.Name y P) [a,b] [] Q] [] q/\k x y a b=Θ:=by let⟨f,as,q,rfl,n⟩:=jX h;let⟨x,p,rfl,m⟩:=ji n;let⟨a,rfl,l⟩:=i5 m;let⟨g,bs,Q,rfl,j⟩:=jX l;let⟨y,P,rfl,i⟩:=ji j;let⟨b,c,rfl,H⟩:=oC i;exact⟨_,_,_,_,_,_,_,_,rfl,H⟩
abbrev isNm:Expr->Bool
 |.Name ..=>Θ
 |_=>Ξ
abbrev XY:Expr->(Expr->Str->Bool->Expr->Bool)->Bool
 |.Call (.Attribute o name A) [a] [] L,k=>k o name (A.endLine == L.line) a
 |_,_=>Ξ
def FE (h:XY e k=Θ):∃o name A a L,e=.Call (.Attribute o name A) [a] [] L/\k o name (A.endLine == L.line) a=Θ:=by
 unfold XY at h;split at h
 ·exact⟨_,_,_,_,_,rfl,h⟩
 ·cases h
abbrev XZ:Expr->(Á->Bool)->Bool
 |.List e _,k=>k e
 |_,_=>Ξ
def qD (h:XZ e k=Θ):∃E p,e=.List E p/\k E=Θ:=by
 cases e using zE with
 |List E p=>exact⟨E,p,rfl,h⟩
 |_=>exact iF h
abbrev T2:Expr->(Expr->Expr->Bool)->Bool
 |.Subscript a b _,k=>k a b
 |_,_=>Ξ
def l5 (h:T2 e k=Θ):∃a b p,e=.Subscript a b p/\k a b=Θ:=by
 cases e using zE with
 |Subscript a b p=>exact⟨a,b,p,rfl,h⟩
 |_=>exact iF h
abbrev RY:Expr->(Expr->Str->Pos->Bool)->Bool
 |.Attribute o n p,k=>k o n p
 |_,_=>Ξ
def mZ (h:RY e k=Θ):∃o n p,e=.Attribute o n p/\k o n p=Θ:=by
 cases e using zE with
 |Attribute o n p=>exact⟨o,n,p,rfl,h⟩
 |_=>exact iF h
abbrev QP (e:Expr)(k:Str->Á->Bool):Bool:=P0 e λf as _=>Ov (λx=>k x as) f
def jD {e:Expr}{k:Str->Á->Bool}(h:QP e k=Θ):∃x q as p,e=.Call (.Name x q) as [] p/\k x as=Θ:=by let⟨f,as,p,rfl,h⟩:=jX h;let⟨x,q,rfl,h⟩:=ji h;exact⟨x,q,as,p,rfl,h⟩
abbrev Z4:Expr->(Expr->List CmpOp->Á->Bool)->Bool
 |.Compare l o r _,k=>k l o r
 |_,_=>Ξ
def zg {e:Expr}{k:Expr->List CmpOp->Á->Bool}(h:Z4 e k=Θ):∃l o r p,e=.Compare l o r p/\k l o r=Θ:=by
 cases e using zE with
 |Compare l o r p=>exact⟨l,o,r,p,rfl,h⟩
 |_=>exact iF h
abbrev ctx:Expr->(Const->Bool)->Bool
 |.Constant c _ _,k=>k c
 |_,_=>Ξ
def FF {e:Expr}{k:Const->Bool}(h:ctx e k=Θ):∃c j p,e=.Constant c j p/\k c=Θ:=by
 cases e using zE with
 |Constant c j p=>exact⟨c,j,p,rfl,h⟩
 |_=>exact iF h
abbrev bix:Expr->(Expr->Operator->Expr->Bool)->Bool
 |.BinOp l o r _,k=>k l o r
 |_,_=>Ξ
def um {e:Expr}{k:Expr->Operator->Expr->Bool}(h:bix e k=Θ):∃l o r p,e=.BinOp l o r p/\k l o r=Θ:=by
 cases e using zE with
 |BinOp l o r p=>exact⟨l,o,r,p,rfl,h⟩
 |_=>exact iF h
abbrev Z5:Expr->(BoolOp->Á->Pos->Bool)->Bool
 |.BoolOp o e p,k=>k o e p
 |_,_=>Ξ
def zh {e:Expr}{k:BoolOp->Á->Pos->Bool}(h:Z5 e k=Θ):∃o E p,e=.BoolOp o E p/\k o E p=Θ:=by
 cases e using zE with
 |BoolOp o E p=>exact⟨o,E,p,rfl,h⟩
 |_=>exact iF h
abbrev Z6:Expr->(UnaryOp->Expr->Bool)->Bool
 |.UnaryOp o a _,k=>k o a
 |_,_=>Ξ
def zk {e:Expr}{k:UnaryOp->Expr->Bool}(h:Z6 e k=Θ):∃o a p,e=.UnaryOp o a p/\k o a=Θ:=by
 cases e using zE with
 |UnaryOp o a p=>exact⟨o,a,p,rfl,h⟩
 |_=>exact iF h
abbrev iex:Expr->(Expr->Expr->Expr->Bool)->Bool
 |.IfExp c x y _,k=>k c x y
 |_,_=>Ξ
def zl {e:Expr}{k:Expr->Expr->Expr->Bool}(h:iex e k=Θ):∃c x y p,e=.IfExp c x y p/\k c x y=Θ:=by
 cases e using zE with
 |IfExp c x y p=>exact⟨c,x,y,p,rfl,h⟩
 |_=>exact iF h
abbrev slx:Expr->(Option Expr->Option Expr->Option Expr->Bool)->Bool
 |.Slice l u s _,k=>k l u s
 |_,_=>Ξ
def zm {e:Expr}{k:Option Expr->Option Expr->Option Expr->Bool}(h:slx e k=Θ):∃l u s p,e=.Slice l u s p/\k l u s=Θ:=by
 cases e using zE with
 |Slice l u s p=>exact⟨l,u,s,p,rfl,h⟩
 |_=>exact iF h
abbrev lcx:Expr->(Expr->List Comprehension->Scope->Bool)->Bool
 |.ListComp a g s _,k=>k a g s
 |_,_=>Ξ
def zo {e:Expr}{k:Expr->List Comprehension->Scope->Bool}(h:lcx e k=Θ):∃a g s p,e=.ListComp a g s p/\k a g s=Θ:=by
 cases e using zE with
 |ListComp a g s p=>exact⟨a,g,s,p,rfl,h⟩
 |_=>exact iF h
abbrev tpw:Expr->(Á->Bool)->Bool
 |.Tuple a _ _,k=>k a
 |_,_=>Ξ
def zq {e:Expr}{k:Á->Bool}(h:tpw e k=Θ):∃a c p,e=.Tuple a c p/\k a=Θ:=by
 cases e using zE with
 |Tuple a c p=>exact⟨a,c,p,rfl,h⟩
 |_=>exact iF h
abbrev zr (a b:Expr->Bool)(o:BoolOp)(p:Pos):Á->Bool
 |e::E::r=>a e&&b (if r.isEmpty then E else .BoolOp o (E::r) p)
 |_=>Ξ
def sh {a b:Expr->Bool}{o:BoolOp}{p:Pos}{c:Á}(h:zr a b o p c=Θ):∃e E r,c=e::E::r/\a e=Θ/\b (if r.isEmpty then E else .BoolOp o (E::r) p)=Θ:=by
 cases c using zL with
 |nil=>exact iF h
 |cons e r=>
  cases r using zL with
  |nil=>exact iF h
  |cons E r=>exact⟨e,E,r,rfl,l_.mp h⟩
mutual
noncomputable def LV (Z:Sg)(G:Gm):IR->Expr->Bool
 |.c d,e=>ctx e (Ig d)
 |.g n d,e=>Ov (λx=>jZ Z G n x&&Z.Wb.any λp=>p.1 == n&&y9 p.2 d) e
 |.v i,e=>Ov (ke G i) e
 |.b u a b,e=>bix e λl o r=>o == U5 u&&LV Z G a l&&LV Z G b r
 |.n a,e=>Z6 e λo e=>o == .USub&&LV Z G a e
 |.a u a b,e=>Wc e λl o r=>o == OH u&&LV Z G a l&&LV Z G b r&&!behindInMarks o r
 |.e u W a b c,e=>Z4 e λl os rs=>os == [OH u,OH W]&&U7 rs λm r=>LV Z G a l&&LV Z G b m&&LV Z G c r&&!lastMarks [OH u,OH W] [m,r]
 |.M a b,e=>Z5 e λo E p=>o == .And&&zr (LV Z G a) (LV Z G b) o p E
 |.O a b,e=>Z5 e λo E p=>o == .Or&&zr (LV Z G a) (LV Z G b) o p E
 |.f a,e=>Z6 e λo e=>o == .Not&&LV Z G a e
 |.I t a b,e=>iex e λc x y=>LV Z G t c&&LV Z G a x&&LV Z G b y
 |.t E,e=>tpw e (iX Z G E)
 |.l E,e=>XZ e (iX Z G E)
 |.S a lo hi,e=>T2 e λe s=>slx s λl h t=>t.isNone&&(LV Z G a e&&FG Z G lo l&&FG Z G hi h)
 |.i a i,e=>T2 e λe s=>iW s&&LV Z G a e&&LV Z G i s
 |.C f E,e=>QP e λx A=>jZ Z G f x&&Z.U6 G f&&iX Z G E A
 |.B f E,e=>QP e λx A=>x == lX f&&G.N7 (vq f)&&iX Z G E A&&!A.isEmpty
 |.N a k,e=>QP e λx as=>U7 as λe y=>Ov (λy=>x == "isinstance"&&G.gl.contains 14&&y == mW k&&G.gl.contains (y6 k)&&notStar e&&LV Z G a e) y
 |.o,e=>SM e
 |.m a k,e=>XX e λo s=>iW s&&LV Z G a o&&LV Z G k s
 |.T n k a,e=>Wc e λl o r=>o == xr n&&LV Z G k l&&LV Z G a r&&!behindInMarks o r
 |.j a,e=>SN e λx y e=>x == "list"&&G.N7 5&&y == "range"&&G.gl.contains 15&&notStar e&&LV Z G a e
 |.h a,e=>SN e λx y e=>x == "list"&&G.N7 5&&y == "reversed"&&G.gl.contains 18&&notStar e&&LV Z G a e
 |.k a b,e=>Z3 e λx y e U=>x == "list"&&G.N7 5&&y == "zip"&&G.gl.contains 17&&(notStar e&&notStar U)&&LV Z G a e&&LV Z G b U
 |.s a,e=>SN e λx y e=>x == "sorted"&&G.gl.contains 4&&y == "set"&&G.gl.contains 12&&(notStar e&&G.cm)&&LV Z G a e
 |.p a b,e=>XY e λo y l s=>y == "index"&&isNm o&&l&&notStar s&&LV Z G a o&&LV Z G b s
 |.P m o E,e=>P0 e λf as Y=>RY f λR name F=>name == qy m&&sd R&&F.endLine == Y.line&&decide (as.length < 29)&&LV Z G o R&&iX Z G E as&&!as.isEmpty
 |.d H fr Q w J L,e=>lcx e λe z q=>zb z λt X fs=>jW Z G q H fr&&jM H Q t&&(N8 Q).all (λi=>decide (fr.length<=i))&&(kM Z G w X&&qB w t)&&iX Z H J fs&&LV Z H L e
noncomputable def iX (Z:Sg)(G:Gm):Ë->Á->Bool
 |[],[]=>Θ
 |a::E,e::l=>notStar e&&LV Z G a e&&iX Z G E l
 |_,_=>Ξ
noncomputable def FG (Z:Sg)(G:Gm):Option IR->Option Expr->Bool
 |none,Φ=>Θ
 |some a,Δ e=>LV Z G a e
 |_,_=>Ξ
noncomputable def kM (Z:Sg)(G:Gm):Sr->Expr->Bool
 |.M n,e=>QP e λx as=>NK as λe=>x == "range"&&G.gl.contains 15&&notStar e&&LV Z G n e
 |.z a b,e=>QP e λx as=>U7 as λe E=>x == "zip"&&G.gl.contains 17&&notStar e&&notStar E&&LV Z G a e&&LV Z G b E
 |.N a,e=>QP e λx as=>NK as λe=>x == "enumerate"&&G.gl.contains 20&&notStar e&&LV Z G a e
 |.v a,e=>LV Z G a e
end
def Og (F:Å)(H:Hp):Prop:=∀a,F a->H a≠Φ
structure Out (K:Frag)(F:Å)(H:Hp)(F':Å)(H':Hp)(v:V)(d:D)(fv:Ì):Prop where
 L6:Og F' H'
 same:ir H H'
 rep:LS K F' H' v d fv
 Mm:fv.Nodup
 new:∀a∈fv,H a=Φ
 MZ:∀a,F a->F' a
 out:∀a,F' a->F a∨H a=Φ
def T3 (K:Frag)(cl:Ä)(f:Nat)(p:Æ):Sp:=λvs H Q E=>vs.length=p.length/\LTH H/\∃F a,Og F H/\K4 K F H vs a/\
 K5 (cl f (LM a)) λd=>∀v h c b,Out K F H c h v d b->Q v h
structure Wd (P:Ε)(w:Β)(K:Frag)(mg:Str->Option Ψ)(base:Heap)(CX:PK)(A:Ι)(cl:Ä)(f:Nat)(x:Str):Prop where
 ex:∃(k:Nat) (fa:Ω) (fd:Ο) (ps:Æ),mg x=Δ (.ref fa)/\PySem.W.keepIn K (.ref fa)=Θ/\Binds K fd ps []/\Ng P w K mg base CX k fa fd ps (T3 K cl f ps)/\MU k A/\
  ∀ds (k:D->Prop),K5 (cl f ds) k->ds.length=ps.length
abbrev rm (a:Ω)(H:Hp):Hp:=λb=>if b=a then Φ else H b
structure RZ (K:Frag)(a:Ω)(F:Å)(H:Hp)(F':Å)(H':Hp)(v:V)(d:D)(fv:Ì)(Mu:List (Key×V))(M8:List Key)(es':Î):Prop where
 out:Out K F (rm a H) F' H' v d fv
 nF:¬F' a
 nf:a∉fv
 at_:H' a=Δ (.d Mu)
 ks:Mu.map (·.1)=M8
 vs:K4 K F' H' (Mu.map (·.2)) es'
structure We (K:Frag)(a:Ω)(F:Å)(H:Hp)(ws:Ï)(ds:Î)(kvs:List (Key×V))(es:Î):Prop where
 L6:Og F H
 nF:¬F a
 at_:H a=Δ (.d kvs)
 ws:K4 K F H ws ds
 vs:K4 K F H (kvs.map (·.2)) es
 lf:fT es=Θ
def Wg (K:Frag)(cl:Ä)(f:Nat)(p:Æ):Sp:=λvs H Q _=>vs.length=p.length/\∃a F ws b k E,vs=ws++[.r a]/\We K a F H ws b k E/\
 ∃d M e,cl f (LM b++[.K Ξ (k.map (·.1)) E])=.ok (.t [d,.K Ξ M e])/\fT e=Θ/\∀v h g c m,RZ K a F H g h v d c m M e->Q v h
structure X0 (P:Ε)(w:Β)(K:Frag)(mg:Str->Option Ψ)(base:Heap)(CX:PK)(A:Ι)(cl:Ä)(f:Nat)(x:Str):Prop where
 ex:∃(k:Nat) (fa:Ω) (fd:Ο) (ps:Æ),mg x=Δ (.ref fa)/\PySem.W.keepIn K (.ref fa)=Θ/\Binds K fd ps []/\Ng P w K mg base CX k fa fd ps (Wg K cl f ps)/\MU k A/\
  ∀ds r,cl f ds=.ok r->ds.length=ps.length
structure Mf (Z:Sg)(CX:PK)(cl:Ä)(X:Cx)(G:Gm):Prop where
 N:X.N=G.N
 Mm:G.N.Nodup
 calm:G.cm=Θ->X.calm=Θ
 fk:X.env.scope.kind=.function
 un:X.A.units+42 < cLine
 own:G.rs=Θ->PassesOwn (Μ X.prog X.w) X.A X.env X.xe
 kd:∀(i:Nat) (x:Str),G.N[i]? = Δ x->X.env.kindOf x=G.kd[i]?
 Rb:∀(i:Nat) (x:Str),G.N[i]? = Δ x->(x == ("__debug__" : Str))=Ξ/\(x == ("__classdict__" : Str))=Ξ
 gl:∀n∈G.gl,∀x,Z.name n=Δ x->Gl X x
 SQ:∀n x,Z.name n=Δ x->x≠"__name__"/\(x == ("__debug__" : Str))=Ξ
 df:G.df=Θ->∀x,X.fn x=Θ
 blt:∀(n:Nat) (x:Str),iU[n]? = Δ x->X.mg x=Φ
 cst:∀n d x,(n,d)∈Z.Wb->Z.name n=Δ x->∃u v,X.mg x=Δ u/\RelV v u/\∀S H,K6 X.K S H v d
 fns:∀f∈Z.fns,(G.cm=Θ∨f∈Z.pl)->∀x,Z.name f=Δ x->Wd X.prog X.w X.K X.mg X.base CX X.A cl f x
 Nk:∀f∈Z.Nk,G.cm=Θ->∀x,Z.name f=Δ x->X0 X.prog X.w X.K X.mg X.base CX X.A cl f x
 Wh:∃E:XK,Passes CX X E
 Q7:∀(outer:List Env) (H:Hp) (s:Α) (E:XK) (e:Ψ) (s':Α),Mp X.prog X.w H s.heap->(∀b∈NP outer,H b=Φ)->CX outer (iL s.heap H) s E e s'->CX outer H s E e s'
 X1:∀(H:Hp) (outer:List Env) (s:Α) (e:Ψ) (s':Α),¬CX outer H s (λ_ _ _=>False) e s'
def qE {K:Frag}(x:Mp P w H h)(m:K4 K Fc H vs c):K4 K (λa=>Fc a/\iL h H a≠Φ) (iL h H) vs c:=by
 refine(m.step (S':=Fc) (H':=iL h H) (λa X f r=>⟨f,?_⟩) λa X r=>?_).OS
 ·rcases r with r|⟨o,r⟩
  ·let⟨O,b⟩:=(x a _ r).at
   refine .inr ⟨O,?_⟩;unfold iL;rw[r];cases X with
   |l y=>show(h.get? a).map _=_;rw[b];rfl
   |d y=>show(h.get? a).map _=_;rw[b];rfl
  ·refine .inr ⟨o,?_⟩;unfold iL;rw[r];cases X<;>rfl
 ·exact r.cl Fx
def si (x:Mp P w H h)(p:N6 h (iL h H) H')  (n:iL h H a=Φ)(e:H' a≠Φ):H a=Φ:=by
 cases q:H a with
 |none=>rfl
 |some o=>
  let⟨O,b⟩:=(x a o q).at
  exact absurd (p.free a O b n) e
def nJ {K:Frag}(x:Mp P w H h)(L6:Og Fc H)(p:N6 h (iL h H) H')(o:Out K (λa=>Fc a/\iL h H a≠Φ) (iL h H) F H' v d fv):Out K Fc H (λa=>Fc a∨F a) (kj H H') v d fv:=by
 let new:∀a∈fv,H a=Φ:=λa b=>si x p (o.new a b) (by let⟨_,X,e⟩:=o.rep.own a b;rw[e];simp);refine⟨λa b=>?_,yZ,o.rep.step (λa X f r=>⟨.inr f,?_⟩) (λa X r=>?_) λa b nf hn=>⟨λz=>?_,res_none (new a b)⟩,o.Mm,new,λa b=>.inl b,λa b=>?_⟩
 ·cases q:H a with
  |some u=>rw[res_some q];simp
  |none=>
   rw[res_none q];rcases b with b|b
   ·exact absurd q (L6 a b)
   ·exact o.L6 a b
 ·cases q:H a with
  |none=>unfold Rd;rw[res_none q];exact r
  |some u=>
   unfold Rd;rw[res_some q];cases r9 x p q with
   |l _ z=>
    cases X with
    |l y=>
     rcases r with r|⟨O,r⟩
     ·rw[z]at r;cases r
     ·rw[z]at r;cases r;exact .inl rfl
    |d y=>rcases r with r|⟨O,r⟩<;>(rw[z]at r;cases r)
   |d _ z=>
    cases X with
    |d y=>
     rcases r with r|⟨O,r⟩
     ·rw[z]at r;cases r
     ·rw[z]at r;cases r;exact .inl rfl
    |l y=>rcases r with r|⟨O,r⟩<;>(rw[z]at r;cases r)
   |t z=>cases X<;>rcases r with r|⟨O,r⟩<;>(rw[z]at r;cases r)
   |L _ z=>
    cases X with
    |l y=>
     rcases r with r|⟨O,r⟩
     ·rw[z]at r;cases r
     ·rw[z]at r;cases r;exact .inr ⟨_,rfl⟩
    |d y=>
     rcases r with r|⟨O,r⟩
     ·rw[z]at r;cases r
     ·rw[z]at r;cases r;exact .inr ⟨_,rfl⟩
   |N _ _ z _ _ _=>exact absurd z r.some
 ·exact r.cl (Fy x p)
 ·rcases z with z|z
  ·exact L6 a z (new a b)
  ·exact nf z
 ·rcases b with b|b
  ·exact .inl b
  ·rcases o.out a b with z|z
   ·exact .inl z.1
   ·exact .inr (si x p z (o.L6 a b))
def Inv.Wi (I:Inv X p a H s):Pg X.prog X.w X.K X.mg X.base X.A X.stack s (iL s.heap H):=
 ⟨I.NQ.frames,I.NQ.mod,λb o e=>⟨(I.NQ.bs b o e).1,jx (I.NQ.bs b o e).2⟩,I.NQ.Q2,I.NQ.Np,λb h=>jx (I.NQ.P' b h),ui I.L1,I.NQ.bare⟩
def vw
  (F:Ng X.prog X.w X.K X.mg X.base CX k J G c (T3 X.K cl f c)) (y:MU k X.A) (z:Binds X.K G c []) (x:Passes CX X E)
  (hh:∀(outer:List Env) (H:Hp) (s:Α) (E:XK) (e:Ψ) (S:Α),Mp X.prog X.w H s.heap->(∀b∈NP outer,H b=Φ)->CX outer (iL s.heap H) s E e S->CX outer H s E e S)
  (I:Inv X P i H s) (r:Vals vs U) (j:vs.length=c.length) (L6:Og Fc H) (m:K4 X.K Fc H vs l)
  (q:K5 (cl f (LM l)) λd=>∀v H' w fv,Out X.K Fc H w H' v d fv->Q v H'):Κ (Μ X.prog X.w) X.A (call (.ref J) U) (EP X P i Q) X.xe s:=by
 let OC:T3 X.K cl f c vs (iL s.heap H) (λv H'=>N6 s.heap (iL s.heap H) H'->Q v (kj H H')) E:=
  ⟨j,yY _ _,_,l,λa h=>h.2,qE I.L1 m,q.mono λd hd v H' w fv o p=>hd v _ _ fv (nJ I.L1 L6 p o)⟩
 let Y:(U++([]:Í)).length=c.length:=by rw[Y_,<- r.length];exact j
 let B:=z s U I.Oo Y;rw[Y_]at B;refine wpAny_call (codeAny_mono (F.run X.A X.stack s (iL s.heap H) ⟨U,[]⟩ U vs _ E y I.Wi B r OC) λR S g=>?_);cases R with
 |error e=>exact x P i H s e S I (hh X.stack H s E e S I.L1 I.NQ.P' g)
 |ok C=>
  cases C with
  |ret u=>let⟨v,H',W,O,A,N,M,L⟩:=g;exact I.after (Q:=Q) ⟨v,kj H H',W,O,y3 I.L1 A,uj I.L1 N (nG A) (fs:=NP X.stack) (λb o _ e n f=>A.keep b o e n f (by simp)) I.NQ.P',M,L (nG A)⟩
  |next=>exact False.elim g
  |brk=>exact False.elim g
  |cont=>exact False.elim g
def Slots (K:Frag)(S:Å)(H:Hp)(b:St)(a:Ev)(is:Ç):Prop:=∀i∈is,∀d,ic a i=Δ d->∃v,b[i]? = Δ (Δ v)/\K6 K S H v d
def Slots.sub {K:Frag}  (h:Slots K S H b a is)(s:∀i∈j,i∈is):Slots K S H b a j:=λi hi d e=>h i (s i hi) d e
def Slots.left {K:Frag}  (h:Slots K S H b a (is++j)):Slots K S H b a is:=h.sub λ_ hi=>u_ _ hi
def Slots.right {K:Frag}  (h:Slots K S H b a (is++j)):Slots K S H b a j:=h.sub λ_ hi=>x_ _ hi
def Slots.go {K:Frag}  (h:Slots K S H b a is)(e:ir H H'):Slots K (nw S H) H' b a is:=λi hi d z=>by let⟨v,f,c⟩:=h i hi d z;exact⟨v,f,c.mono (λ_=>.inl) e⟩
def RD (K:Frag)(is:Ç)(f:Ev->Res D):TE:=λb H Q=>∃S a,Slots K S H b a is/\K5 (f a) (Kk K S H Q)
def RT (K:Frag)(is:Ç)(f:Ev->Res Bool):TT:=λc H Q=>∃S a,Slots K S H c a is/\K5 (f a) λb=>∀h,ir H h->Q b h
def RA (K:Frag)(is:Ç)(f:Ev->Res (Î)):TA:=λb H Q=>∃S a,Slots K S H b a is/\K5 (f a) λc=>∀vs h,ir H h->K4 K (nw S H) h vs c->Q vs h
def U8 (K:Frag)(is:Ç)(f:Ev->Res (Option Int)):TO:=λb H Q=>∃S a,Slots K S H b a is/\K5 (f a) λo=>∀h,ir H h->Q o h
def WS (K:Frag)(S:Å)(H:Hp)(k:Zp.Kq)(a:Ω)(x:Ï):Prop:=match k with
 |.l=>(S a/\Rd H a (.l x))∨KL K a x
 |.t=>Md K H a x
theorem WS.sq {K:Frag}  (h:WS K S H k a x):Pl K H k a x:=by
 cases k with
 |l=>exact h.elim (λz=>.inl z.2) λz=>z.sq
 |t=>exact h
inductive NN (K:Frag)(S:Å)(H:Hp):It->Î->Prop where
 | L {a:Ω}{xs:Ï}{ds:Î}:S a->Rd H a (.l xs)->K4 K S H xs ds->NN K S H (XB K a) ds
 | l {a:Ω}{xs:Ï}{ds:Î}:KL K a xs->K4 K S H xs ds->NN K S H (XB K a) ds
 | t {a:Ω}{xs:Ï}{ds:Î}:Md K H a xs->K4 K S H xs ds->NN K S H (Zc K a) ds
 | Q (lo hi:Int):NN K S H (VA lo (hi - lo).toNat) (iQ lo hi)
 | f (x:Str):NN K S H (Z2 x) (kc x)
 | Z {p q:Zp.Kq}{l m:Ω}{xs ys:Ï}{ds es:Î}:WS K S H p l xs->WS K S H q m ys->K4 K S H xs ds->K4 K S H ys es->NN K S H (ZF K p q l m) (jU ds es)
 | N {l:Ω}{xs:Ï}{ds:Î}:WS K S H .l l xs->K4 K S H xs ds->NN K S H (ZZ K l) (lV ds)
def RI (K:Frag)(is:Ç)(f:Ev->Res (Î)):TI:=λb H R=>∃S a,Slots K S H b a is/\K5 (f a) λc=>∀J h,ir H h->NN K (nw S H) h J c->R J h
def pS (e:ir H b):∀a,nw (nw S H) b a->nw S H a:=λa h=>by
 rcases h with h|h
 ·exact h
 ·exact .inr (e.free h)
def Kk.fit {K:Frag}  (e:ir H a)(h:Kk K S H Q d):Kk K (nw S H) a Q d:=λw b E m=>h w b (e.trans E) (m.mono (pS e) (.refl _))
def sj (g:Mf Z CX cl X G)  (h:jZ Z G n x=Θ):Gl X x/\Z.name n=Δ x/\x≠"__name__"/\(x == ("__debug__" : Str))=Ξ:=by unfold jZ at h;rw[g_]at h;let e:Z.name n=Δ x:=h_ h.1;exact⟨g.gl n (by simpa using h.2) x e,e,g.SQ n x e⟩
def DQ (Z:Sg)  (h:iU[n]? = Δ x):Z.name n=Δ x:=by unfold Sg.name;rw[aaH (v_.mp h).1];exact h
def jA (g:Mf Z CX cl X G)  (h:iU[n]? = Δ x)(H:G.gl.contains n=Θ):Gl X x/\X.mg x=Φ/\x≠"__name__"/\(x == ("__debug__" : Str))=Ξ:=
 ⟨g.gl n (by simpa using H) x (DQ Z h),g.blt n x h,g.SQ n x (DQ Z h)⟩
def fS (h:notStar e=Θ)(E:Á)(env:Env):Ν (e::E) env=(Ξ,eval e env)::Ν E env:=by
 induction e using zE<;>first|rfl|cases h
theorem jq (Z:Sg)(G:Gm):∀ {E:Ë}{l:Á} (p:Pos) (env:Env),iX Z G E l=Θ->(backTo p (Ν l env)).any (·.1)=Ξ
 |[],[],_,_,_=>rfl
 |a::E,e::l,p,env,h=>by let H:(notStar e&&LV Z G a e&&iX Z G E l)=Θ:=h;simp only[g_]at H;rw[fS H.1.1];let i:=jq Z G (E:=E) (l:=l) p env H.2;show(Ξ||(backTo p (Ν l env)).any (·.1))=Ξ;rw[i];rfl
 |[],_::_,_,_,h=>by cases h
 |_::_,[],_,_,h=>by cases h
def zt {X:Cx}(h:∀S H,K6 X.K S H v d)  (q:RD X.K is (λ_=>.ok d) b H Q):Q v H:=by let⟨S,a,_,q⟩:=q;exact q.ok _ _ (.refl _) (h _ _)
def Ih (h:PE X e (RD X.K is f))(k:∀w,isTrue e X.env w=(do let v <- w;standAt e.pos;holding [v] (truthy v))):PT X e (RT X.K is λc=>KZ (f c) iN):=by intro p s i H Q I g;let⟨S,c,j,g⟩:=g;refine isTrue_plain (L4 (h p s i H (λv a=>∃d,ir H a/\K6 X.K (nw S H) a v d/\K5 (iN d) λb=>∀a,ir H a->Q b a) I ⟨S,c,j,(K5.KZ g).mono λd hd v a e m=>⟨d,e,m,hd⟩⟩) λv q ⟨x,n,l,r,d,e,m,hd⟩=>?_) (k _);exact nE l r m (hd.mono λb z=>z n e)
def iK {K:Frag}(e:ir H c)(hs:Slots K S H g b is)(h:K5 (f b) Kt)(k:∀x v a,ir H a->ir c a->K6 K (nw S H) a v x->Kt x->Q v a):RD K is f g c Q:=
 ⟨nw S H,b,hs.go e,h.mono λx i v a E m=>k x v a (e.trans E) E (m.mono (pS e) (.refl _)) i⟩
def lD {K:Frag}(e:ir H c)(hs:Slots K S H g b is)(h:K5 (f b) Kt)(k:∀x a,ir H a->ir c a->Kt x->Q x a):RT K is f g c Q:=
 ⟨nw S H,b,hs.go e,h.mono λx i a E=>k x a (e.trans E) E i⟩
def sr {K:Frag}(e:ir H c)(hs:Slots K S H g b is)(h:K5 (f b) Kt)(k:∀x v a,ir H a->ir c a->K4 K (nw S H) a v x->Kt x->Q v a):RA K is f g c Q:=
 ⟨nw S H,b,hs.go e,h.mono λx i v a E m=>k x v a (e.trans E) E (m.mono (pS e) (.refl _)) i⟩
def CC {K:Frag}(e:ir H c)(hs:Slots K S H g b is)(h:K5 (f b) Kt)(k:∀x a,ir H a->ir c a->Kt x->Q x a):U8 K is f g c Q:=
 ⟨nw S H,b,hs.go e,h.mono λx i a E=>k x a (e.trans E) E i⟩
def K6.later {K:Frag}(h:K6 K (L2.nw S H) b v d)(e:ir b a):K6 K (L2.nw S H) a v d:=h.mono (λ_ z=>z) e
def K4.later {K:Frag}(h:K4 K (L2.nw S H) b v d)(e:ir b a):K4 K (L2.nw S H) a v d:=h.mono (λ_ z=>z) e
def s_v (g:Mf Z CX cl X G)  (h:ke G i x=Θ):PE X (.Name x pos) (RD X.K [i] (K8 cl (.v i))):=by
 unfold ke at h;rw[g_]at h;let b:G.N[i]? = Δ x:=h_ h.1;let c:=g.kd i x b;let f:Vu X.env.scope x:=by
  let a:=h.2;rw[aaf,aaf]at a;rcases a with(a|a)|a
  ·exact .inl (c.trans (h_ a))
  ·exact .inr (.inl (c.trans (h_ a)))
  ·exact .inr (.inr (c.trans (h_ a)))
 refine iy (xF (i:=i) (by rw[g.N];exact b) f (g.Rb i x b).1 (g.Rb i x b).2) λl H Q q=>?_;let⟨S,e,j,q⟩:=q;rw[H0]at q;cases z:ic e i with
 |none=>rw[z]at q;exact q.no.elim
 |some d=>rw[z]at q;let⟨v,k,a⟩:=j i (by simp) d z;exact⟨v,k,q.ok _ _ (.refl _) a.nw⟩
def s_c (h:Ig d k=Θ):PE X (.Constant k j pos) (RD X.K [] (K8 cl (.c d))):=by
 cases d using zD with
 |L=>
  cases k with
  |none=>exact iy EF λf H Q q=>zt (λ_ _=>.q) q
  |_=>cases h
 |b b=>
  cases k with
  |bool a=>let e:b=a:=h_ h;subst e;exact iy Hn λf H Q q=>zt (λ_ _=>.B _) q
  |_=>cases h
 |i b=>
  cases k with
  |int a=>let e:b=a:=h_ h;subst e;exact iy EE λf H Q q=>zt (λ_ _=>.c _) q
  |_=>cases h
 |s b=>
  cases k with
  |str a=>let e:b=a:=h_ h;subst e;exact iy EG λf H Q q=>zt (λ_ _=>.k _) q
  |_=>cases h
 |t _=>cases k<;>cases h
 |l _ _=>cases k<;>cases h
 |K o ks g=>cases k<;>cases h
def s_g (g:Mf Z CX cl X G)  (h:jZ Z G n x=Θ)(a:Z.Wb.any (λp=>p.1 == n&&y9 p.2 d)=Θ):PE X (.Name x pos) (RD X.K [] (K8 cl (.g n d))):=by let⟨k,j,w,i⟩:=sj g h;rw[List.any_eq_true]at a;let⟨⟨m,b⟩,f,a⟩:=a;rw[g_]at a;let l:m=n:=h_ a.1;let E:b=d:=vt a.2;subst l E;let⟨u,v,c,r,e⟩:=g.cst m b x f j;exact iy (BM k c r i) λs H Q q=>zt e q
def Ii (k:PE X a (RD X.K f l))(j:PE X b (RD X.K e F)) :
  PE X (.BinOp a (U5 O) b pos) (RD X.K (f++e) λc=>KZ (l c) λx=>KZ (F c) λy=>NG O x y):=by
 refine iy (uO (Fu O) k j) λr H Q L=>?_;let⟨S,c,h,q⟩:=L;refine iK (.refl _) h.left (K5.KZ q) λx v u n _ M i=>?_;refine iK n h.right (K5.KZ i) λy w s E p m g=>?_;exact⟨nw S H,x,y,M.later p,m,g.mono λd hd=>hd.fit E⟩
def Ij (g:PE X a (RD X.K f F)) :
  PE X (.UnaryOp .USub a pos) (RD X.K f λb=>KZ (F b) λ|.i i=>.ok (.i (-i))|_=>LP):=by
 refine iy (Hx EX g) λj H Q L=>?_;let⟨S,b,h,q⟩:=L;refine iK (.refl _) h (K5.KZ q) λx v k E _ m e=>?_
 cases x using zD with
 |i i=>cases m.L5;exact⟨i,rfl,e.ok _ _ E (.c _)⟩
 |_=>exact e.no.elim
def Ik (g:Mf Z CX cl X G)  (s:PE X a (RD X.K l u))(p:PE X b (RD X.K k F))(n:behindInMarks (OH O) b=Ξ) :
  PE X (.Compare a [OH O] [b] pos) (RD X.K (l++k) λc=>KZ (u c) λx=>KZ (F c) λy=>KZ (MN O x y) λr=>.ok (.b r))/\
  PT X (.Compare a [OH O] [b] pos) (RT X.K (l++k) λc=>KZ (KZ (u c) λx=>KZ (F c) λy=>KZ (MN O x y) λr=>.ok (.b r)) iN):=by
 refine⟨iy (BW (lW g.un O) s p n) λA H Q ⟨S,c,h,q⟩=>?_,lQ (uP (lW g.un O) s p n) λA H Q ⟨S,c,h,q⟩=>?_⟩
 ·refine iK (.refl _) h.left (K5.KZ q) λx v C i _ M f=>?_;refine iK i h.right (K5.KZ f) λy w z E j m e=>?_;exact⟨nw S H,x,y,M.later j,m,(K5.KZ e).mono λd hd=>hd.ok _ _ E (.B _)⟩
 ·refine iK (.refl _) h.left (K5.KZ (K5.KZ q)) λx v C i _ M f=>?_;refine iK i h.right (K5.KZ f) λy w z E j m e=>?_;exact⟨nw S H,x,y,M.later j,m,(K5.KZ e).mono λd hd=>⟨d,rfl,hd.ok.ok z E⟩⟩
def CF (g:Mf Z CX cl X G)  (L:PE X a (RD X.K C W))(J:PE X b (RD X.K A U))(I:PE X c (RD X.K u N))
  (F:lastMarks [OH O,OH M] [b,c]=Ξ) :
  PE X (.Compare a [OH O,OH M] [b,c] pos) (RD X.K (C++A++u) λe=>KZ (W e) λx=>KZ (U e) λy=>KZ (MN O x y) λr=>if r=Θ then KZ (N e) λz=>KZ (MN M y z) λR=>.ok (.b R) else .ok (.b Ξ))/\
  PT X (.Compare a [OH O,OH M] [b,c] pos) (RT X.K (C++A++u) λe=>KZ (KZ (W e) λx=>KZ (U e) λy=>KZ (MN O x y) λr=>if r=Θ then KZ (N e) λz=>KZ (MN M y z) λR=>.ok (.b R) else .ok (.b Ξ)) iN):=by
 refine⟨iy (xS (lW g.un O) (lW g.un M) L J I F) λY H Q ⟨S,e,h,q⟩=>?_,lQ (xT (lW g.un O) (lW g.un M) L J I F) λY H Q ⟨S,e,h,q⟩=>?_⟩
 ·refine iK (.refl _) h.left.left (K5.KZ q) λx v H1 p _ l j=>?_;refine iK p h.left.right (K5.KZ j) λy w H2 E s m i=>?_;refine⟨nw S H,x,y,l.later s,m,(K5.KZ i).mono λd hd=>⟨d,rfl,?_⟩⟩
  cases d using zB with
  |false=>rw[d_ p_]at hd ⊢;exact hd.ok _ _ E (.B _)
  |true=>rw[e_ rfl]at hd ⊢;refine iK E h.right (K5.KZ hd) λz w' H3 n P k f=>?_;exact⟨nw S H,y,z,m.later P,k,(K5.KZ f).mono λd hd=>hd.ok _ _ n (.B _)⟩
 ·refine iK (.refl _) h.left.left (K5.KZ (K5.KZ q)) λx v H1 p _ l j=>?_;refine iK p h.left.right (K5.KZ j) λy w H2 E s m i=>?_;refine⟨nw S H,x,y,l.later s,m,(K5.KZ i).mono λd hd=>⟨d,rfl,?_⟩⟩
  cases d using zB with
  |false=>rw[d_ p_]at hd ⊢;exact⟨Ξ,rfl,hd.ok.ok _ E⟩
  |true=>rw[e_ rfl]at hd ⊢;refine iK E h.right (K5.KZ hd) λz w' H3 n P k f=>?_;exact⟨nw S H,y,z,m.later P,k,(K5.KZ f).mono λd hd=>⟨d,rfl,hd.ok.ok _ n⟩⟩
def DR {rest:Á}  (J:PE X a (RD X.K A L))(G:PE X (.BoolOp .And (b::rest) pos) (RD X.K u F)) :
  PE X (.BoolOp .And (a::b::rest) pos) (RD X.K (A++u) λe=>KZ (L e) λx=>KZ (iN x) λr=>if r=Θ then F e else .ok x):=by
 intro p s j H Q I h;let⟨S,e,k,q⟩:=h;refine BoolOp_and (L4 (J p s j H (λv g=>∃d,ir H g/\K6 X.K (nw S H) g v d/\_) I (iK (.refl _) k.left (K5.KZ q) λx v n E _ m i=>⟨x,E,m,i⟩)) λv W ⟨x,n,U,R,d,E,m,i⟩=>?_);refine L4 (nE (Q:=λb g=>g=n/\K5 (if b=Θ then F e else .ok d) (Kk X.K S H Q)) U R m ((K5.KZ i).mono λb z=>⟨rfl,z⟩)) λc B P=>?_;let⟨H2,l,O,f⟩:=P;subst O
 cases c using zB with
 |true=>rw[e_ rfl]at f ⊢;exact G p B j _ Q l (iK E k.right f λy w Y N _ M C=>C _ _ N M)
 |false=>rw[d_ p_]at f ⊢;exact⟨x,_,l,R,f.ok _ _ E m⟩
def Il {rest:Á}  (J:PE X a (RD X.K A L))(G:PE X (.BoolOp .Or (b::rest) pos) (RD X.K u F)) :
  PE X (.BoolOp .Or (a::b::rest) pos) (RD X.K (A++u) λe=>KZ (L e) λx=>KZ (iN x) λr=>if r=Θ then .ok x else F e):=by
 intro p s j H Q I h;let⟨S,e,k,q⟩:=h;refine BoolOp_or (L4 (J p s j H (λv g=>∃d,ir H g/\K6 X.K (nw S H) g v d/\_) I (iK (.refl _) k.left (K5.KZ q) λx v n E _ m i=>⟨x,E,m,i⟩)) λv W ⟨x,n,U,R,d,E,m,i⟩=>?_);refine L4 (nE (Q:=λb g=>g=n/\K5 (if b=Θ then .ok d else F e) (Kk X.K S H Q)) U R m ((K5.KZ i).mono λb z=>⟨rfl,z⟩)) λc B P=>?_;let⟨H2,l,O,f⟩:=P;subst O
 cases c using zB with
 |false=>rw[d_ p_]at f ⊢;exact G p B j _ Q l (iK E k.right f λy w Y N _ M C=>C _ _ N M)
 |true=>rw[e_ rfl]at f ⊢;exact⟨x,_,l,R,f.ok _ _ E m⟩
def Im (C:PE X a (RD X.K g F))(y:PT X a (RT X.K g λe=>KZ (F e) iN)) :
  PE X (.UnaryOp .Not a pos) (RD X.K g λe=>KZ (F e) λx=>KZ (iN x) λr=>.ok (.b !r))/\PT X (.UnaryOp .Not a pos) (RT X.K g λe=>KZ (KZ (F e) λx=>KZ (iN x) λr=>.ok (.b !r)) iN):=by
 constructor
 ·intro p s n H Q I h;let⟨S,e,j,q⟩:=h;refine UnaryOp_ (L4 (C p s n H (λv f=>∃d,ir H f/\K6 X.K (nw S H) f v d/\_) I (iK (.refl _) j (K5.KZ q) λx v N E _ m i=>⟨x,E,m,i⟩)) λv P ⟨x,N,M,R,d,E,m,i⟩=>?_);refine not_of (L4 (nE (Q:=λb f=>Q (.b !b) f) M R m ((K5.KZ i).mono λb z=>z.ok _ _ E (.B _))) λc O ⟨l,J,u⟩=>⟨.b !c,l,J,rfl,u⟩)
 ·refine lQ (EJ y) λn H Q L=>?_;let⟨S,e,j,q⟩:=L;exact lD (.refl _) j (K5.mk ((K5.KZ (K5.KZ q)).mono λx w=>(K5.KZ w).mono λr A=>A.ok.ok)) λx l G _ k=>k l G
def zu {X:Cx}{e:Expr}{pos:Pos}{O:BoolOp}{E:Á}{t:TT}(h:PT X (.BoolOp O E pos) t):PW X (.BoolOp O E pos) t:=λ_ p s a H Q I q=>h p s a H Q I q
def DS {rest:Á}  {F f:Ev->Res D}(n:PT X a (RT X.K j λc=>KZ (F c) iN))(m:PW X (.BoolOp .And (b::rest) pos) (RT X.K v λc=>KZ (f c) iN)) :
  PT X (.BoolOp .And (a::b::rest) pos) (RT X.K (j++v) λc=>KZ (KZ (F c) λx=>KZ (iN x) λr=>if r=Θ then f c else .ok x) iN):=by
 refine lQ (EI n m).pt λw H Q L=>?_;let⟨S,c,e,q⟩:=L;refine lD (.refl _) e.left (Kt:=λr=>K5 (if r=Θ then KZ (f c) iN else .ok Ξ) λb=>∀i,ir H i->Q b i) (K5.mk ((K5.KZ (K5.KZ q)).mono λx l=>(K5.KZ l).eq.mono λr h=>?_)) λr u E _ k=>?_
 ·let⟨er,h⟩:=h
  cases r using zB with
  |true=>rw[e_ rfl]at h ⊢;exact K5.mk h
  |false=>rw[d_ p_]at h ⊢;let g:K5 (iN x) _:=h;rw[er]at g;exact g
 ·cases r using zB with
  |true=>rw[e_ rfl]at k ⊢;exact lD E e.right k λb s p _ z=>z s p
  |false=>rw[d_ p_]at k ⊢;exact k.ok u E
def Io {rest:Á}  {F f:Ev->Res D}(n:PT X a (RT X.K j λc=>KZ (F c) iN))(m:PW X (.BoolOp .Or (b::rest) pos) (RT X.K v λc=>KZ (f c) iN)) :
  PT X (.BoolOp .Or (a::b::rest) pos) (RT X.K (j++v) λc=>KZ (KZ (F c) λx=>KZ (iN x) λr=>if r=Θ then .ok x else f c) iN):=by
 refine lQ (Hr n m).pt λw H Q L=>?_;let⟨S,c,e,q⟩:=L;refine lD (.refl _) e.left (Kt:=λr=>K5 (if r=Θ then .ok Θ else KZ (f c) iN) λb=>∀i,ir H i->Q b i) (K5.mk ((K5.KZ (K5.KZ q)).mono λx l=>(K5.KZ l).eq.mono λr h=>?_)) λr u E _ k=>?_
 ·let⟨er,h⟩:=h
  cases r using zB with
  |false=>rw[d_ p_]at h ⊢;exact K5.mk h
  |true=>rw[e_ rfl]at h ⊢;let g:K5 (iN x) _:=h;rw[er]at g;exact g
 ·cases r using zB with
  |false=>rw[d_ p_]at k ⊢;exact lD E e.right k λb s p _ z=>z s p
  |true=>rw[e_ rfl]at k ⊢;exact k.ok u E
def Ip {B:Ev->Res D}(L:PT X c (RT X.K G λe=>KZ (B e) iN))(Y:PE X a (RD X.K n l))(W:PE X b (RD X.K v F))
  (U:PT X a (RT X.K n λe=>KZ (l e) iN)) (tb:PT X b (RT X.K v λe=>KZ (F e) iN)) :
  PE X (.IfExp c a b pos) (RD X.K (G++n++v) λe=>KZ (B e) λx=>KZ (iN x) λr=>if r=Θ then l e else F e)/\
  PT X (.IfExp c a b pos) (RT X.K (G++n++v) λe=>KZ (KZ (B e) λx=>KZ (iN x) λr=>if r=Θ then l e else F e) iN):=by
 constructor
 ·refine iy (rh L Y W) λi H Q LX=>?_;let⟨S,e,f,q⟩:=LX;refine lD (.refl _) f.left.left (K5.mk ((K5.KZ q).mono λx A=>K5.KZ A)) λr C m _ k=>?_
  cases r using zB with
  |true=>rw[e_ rfl]at k ⊢;exact iK m f.left.right k λy w g E _ M u=>u _ _ E M
  |false=>rw[d_ p_]at k ⊢;exact iK m f.right k λy w g E _ M u=>u _ _ E M
 ·intro p s i H Q I h;let⟨S,e,f,q⟩:=h
  refine isTrue_IfExp (L4 (L p s i H (λr C=>ir H C/\K5 (if r=Θ then l e else F e) λd=>K5 (iN d) λb=>∀R,ir H R->Q b R) I
   (lD (.refl _) f.left.left (K5.mk ((K5.KZ (K5.KZ q)).mono λx A=>K5.KZ A)) λr C m _ k=>⟨m,k⟩)) λd J ⟨P,O,N,j⟩=>?_)
  cases d using zB with
  |true=>rw[e_ rfl]at j;exact U p J i P Q O (lD N f.left.right (K5.mk j) λb g E _ z=>z g E)
  |false=>rw[d_ p_]at j;exact tb p J i P Q O (lD N f.right (K5.mk j) λb g E _ z=>z g E)
def Iq (h:PA X i (RA X.K v F)):PE X (.Tuple i n pos) (RD X.K v λc=>KZ (F c) λb=>LK (jh b.length) (.ok (.t b))):=by refine iy (xV h) λj H Q L=>?_;let⟨S,c,f,q⟩:=L;refine sr (.refl _) f (K5.KZ q) λb vs k E _ m a=>?_;let⟨g,a⟩:=K5.LK a;exact⟨by rw[m.length];exact jw g,λp e=>a.ok _ _ (E.trans (.upd e)) ((Ib e m).mono (pS E) (.refl _))⟩
def Ir (h:PA X i (RA X.K v F)):PE X (.List i pos) (RD X.K v λc=>KZ (F c) λb=>LK (jh b.length) (.ok (.l Θ b))):=by refine iy (nT h) λj H Q L=>?_;let⟨S,c,f,q⟩:=L;refine sr (.refl _) f (K5.KZ q) λb vs k E _ m a=>?_;let⟨g,a⟩:=K5.LK a;exact⟨by rw[m.length];exact jw g,λp e=>a.ok _ _ (E.trans (.upd e)) ((xn e m).mono (pS E) (.refl _))⟩
def Iu (n:PE X a (RD X.K f p))(l:PE X b (RD X.K e F))(k:iW b=Θ) :
  PE X (.Subscript a b pos) (RD X.K (f++e) λc=>KZ (p c) λx=>KZ (F c) λy=>iw x y):=by
 refine iy (xX (vi) n l λo i=>by cases b<;>first|rfl|cases k) λu H Q L=>?_;let⟨S,c,h,q⟩:=L;refine iK (.refl _) h.left (K5.KZ q) λx v A r _ M j=>?_;refine iK r h.right (K5.KZ j) λy w z E s m g=>?_;exact⟨nw S H,x,y,M.later s,m,g.mono λd hd=>hd.fit E⟩
def Kp {lo:Option Expr}(p:PE X a (RD X.K g s))(n:PO X lo (U8 X.K e F))(hh:PO X hi (U8 X.K f r)) :
  PE X (.Subscript a (.Slice lo hi Φ z) pos) (RD X.K (g++e++f) λb=>KZ (s b) λx=>KZ (F b) λl=>KZ (r b) λh=>rN x l h):=by
 refine iy (rl (Cw) p n hh) λy H Q L=>?_;let⟨S,b,c,q⟩:=L;refine iK (.refl _) c.left.left (K5.KZ q) λx v C w _ m k=>?_;refine CC w c.left.right (K5.KZ k) λl B u M j=>?_;refine CC u c.right (K5.KZ j) λh A E P i=>?_;exact⟨nw S H,x,m.later (M.trans P),i.mono λd hd=>hd.fit E⟩
def s_call (g:Mf Z CX cl X G)  (h1:jZ Z G f x=Θ)(R:Z.U6 G f=Θ)(N:iX Z G i A=Θ)(h:PA X A (RA X.K (ij i) (iJ cl i))) :
  PE X (.Call (.Name x p) A [] pos) (RD X.K (ij i) λC=>KZ (iJ cl i C) λb=>cl f (LM b)):=by
 let⟨k1,Y,k3,W⟩:=sj g h1;let⟨k,U9,fd,ps,hm,U,hb,F,hr,w⟩:=(g.fns f (qz R).1 (qz R).2 x Y).ex;let⟨E,hP⟩:=g.Wh;intro P s J H Q I q;let⟨S,C,hs,q⟩:=q;let y:∀(u:Í) (n:Α) (vs:Ï) (c:Hp) (b:Î),Inv X P J c n->Vals vs u->ir H c->K4 X.K (nw S H) c vs b->K5 (cl f (LM b)) (Kk X.K S H Q)->Κ (Μ X.prog X.w) X.A (call (.ref U9) u) (EP X P J Q) X.xe n:=by
  intro u n vs c b B r e m j;let O:=w _ _ j;rw[jB]at O;refine vw F hr hb hP g.Q7 B r (by rw[m.length];exact O) (Fc:=λa=>nw S H a/\c a≠Φ) (λa z=>z.2) m.OS ?_;cases z:cl f (LM b) with
  |error er=>rw[z]at j;cases er;exact j.no.elim
  |ok d=>
   rw[z]at j;intro v H' F' fv o;refine j.ok _ _ (e.trans o.same) (o.rep.read (λa L=>?_) λa L=>?_)
   ·rcases o.out a L with z|z
    ·exact z.1
    ·exact .inr (e.free z)
   ·exact .inr (e.free (o.new a L))
 refine aap (mi I k1 hm ?_ W)
 cases A using zL with
 |nil=>
  cases i using zL with
  |cons _ _=>cases N
  |nil=>exact PySem.W.callWith_K0 I.Oo U (y [] s [] H [] I .nil (.refl _) .nil q)
 |cons e l=>
  cases i using zL with
  |nil=>cases N
  |cons a i=>let M:(notStar e&&LV Z G a e&&iX Z G i l)=Θ:=N;simp only[g_]at M;refine PySem.W.callWith_K (h₀:=X.base) I.ok.mod.UQ U (L4 (h pos P s J H (λvs c=>∃b,ir H c/\K4 X.K (nw S H) c vs b/\K5 (cl f (LM b)) (Kk X.K S H Q)) I ⟨S,C,hs,(K5.KZ q).mono λb hd vs c e m=>⟨b,e,m,hd⟩⟩) λu n ⟨vs,c,B,r,b,e,m,j⟩=>⟨B.Oo,?_⟩) (fS M.1.1 l X.env) (jq Z G (E:=i) pos X.env M.2);exact y u n vs c b B r e m j
def Kr (g:Mf Z CX cl X G)  (u:G.N7 (vq f)=Θ)(L:iX Z G e (a::A)=Θ)(h:PA X (a::A) (RA X.K (ij e) (iJ cl e))) :
  PE X (.Call (.Name (lX f) p) (a::A) [] pos) (RD X.K (ij e) λk=>KZ (iJ cl e k) λj=>jT f j):=by
 let⟨s,r,n,m⟩:=jA g (y7 f) (mX u)
 cases e using zL with
 |nil=>cases L
 |cons b e=>
  let M:(notStar a&&LV Z G b a&&iX Z G e A)=Θ:=L;simp only[g_]at M;let mono:∀l H Q,RD X.K (ij (b::e)) (λk=>KZ (iJ cl (b::e) k) λj=>jT f j) l H Q->Zi (rBi X.K f) (RA X.K (ij (b::e)) (iJ cl (b::e))) l H Q:=by rintro l H Q ⟨S,k,x,q⟩;refine sr (.refl _) x (K5.KZ q) λj vs y E _ w v=>?_;exact⟨nw S H,j,w,v.mono λd hd=>hd.fit E⟩
  refine iy ?_ mono;let c:=vk f;let i:=Cy (X:=X) (g.calm (mY u)) f;unfold yU at c i;cases z:Ic f with
  |true=>rw[z,e_ rfl]at c i;exact mP i s r c h n m (fS M.1.1 A X.env) (jq Z G (E:=e) pos X.env M.2)
  |false=>rw[z,d_ p_]at c i;exact nU i s r c h n m (fS M.1.1 A X.env) (jq Z G (E:=e) pos X.env M.2)
abbrev Z7:Kd->V
 |.s=>.t "str" |.i=>.t "int" |.b=>.t "bool" |.l=>.t "list" |.t=>.t "tuple"
def vy (k:Kd):RelV (Z7 k) (yV k):=by cases k<;>rfl
def zv (k:Kd):jS X (.builtin "isinstance") (λa H Q=>∃S x d,a=[x,Z7 k]/\K6 X.K S H x d/\oq d=Θ/\Q (.b (kh k d)) H):=by
 intro p s f H a U Q I r h;let⟨S,x,d,rfl,m,hn,q⟩:=h;let⟨u,w,rfl,c,R⟩:=vals2 r;let e:w=yV k:=by have:=R.abs;let g:=(vy k).abs;cases k<;>(revert R;intro R;exact R)
 subst e;exact CB I c m k hn q
def Iw (g:Mf Z CX cl X G)  (z:G.gl.contains 14=Θ)(y:G.gl.contains (y6 k)=Θ)(hn:notStar e=Θ)(A:PE X e (RD X.K f F)) :
  PE X (.Call (.Name "isinstance" p) [e,.Name (mW k) h] [] pos) (RD X.K f λc=>KZ (F c) λx=>LK (oq x) (.ok (.b (kh k x)))):=by
 let⟨n,l,j,i⟩:=jA g (show iU[14]? = Δ ("isinstance" : Str) from rfl) z;let⟨u,s,r,J⟩:=jA g (Fz k) y;let P:PA X [e,.Name (mW k) h] (kg (RD X.K f F) (kg (tC (Z7 k)) o6)):=iH A (iH (BN u s (Cz k) (vy k) r J) iZ rfl) (fS hn _ _);refine iy (nU (zv k) n l PyProof.Rows.boot_isinstance P j i (fS hn _ _) rfl) λI H Q L=>?_;let⟨S,c,w,q⟩:=L;refine iK (.refl _) w (K5.KZ q) λx v M E _ m a=>?_;let⟨C,a⟩:=K5.LK a;exact⟨nw S H,v,x,rfl,m,C,a.ok _ _ E (.B _)⟩
theorem K4.rev {K:Frag}  : ∀ {vs:Ï}{a:Î},K4 K S H vs a->K4 K S H vs.reverse a.reverse
 |[],[],_=>.nil
 |v::vs,d::a,.cons h t=>by rw[List.reverse_cons,List.reverse_cons];exact(K4.rev t).append (.cons h .nil)
def FH (g:Mf Z CX cl X G)  (F:G.gl.contains 4=Θ)(C:G.gl.contains 12=Θ)(hn:notStar e=Θ)(N:G.cm=Θ)(B:PE X e (RD X.K n Y)) :
  PE X (.Call (.Name "sorted" p) [.Call (.Name "set" s) [e] [] P] [] pos) (RD X.K n λc=>KZ (Y c) u6):=by
 let⟨w,u,k3,k4⟩:=jA g (show iU[4]? = Δ ("sorted" : Str) from rfl) F;let⟨x,J,j3,j4⟩:=jA g (show iU[12]? = Δ ("set" : Str) from rfl) C;let cc:=xh (g.calm N);let cs:=qu (g.calm N);let y:=mP (p:=s) (pos:=P) cc x J ∅ (iH B iZ (fS hn _ _)) nofun nofun (fS hn _ _) rfl;let I:=nU (p:=p) (pos:=pos) cs w u ∅ (iH y iZ rfl) nofun nofun rfl rfl;refine iy I λσ H Q LX=>?_;let⟨S,c,A,q⟩:=LX;refine iK (.refl _) A (K5.KZ q) λd v H1 E _ M h=>?_
 cases d using zD with
 |l o k=>
  let⟨a,ys,rfl,f,m⟩:=M.Mr;let b:K5 (match i6 k with|some ns=>LK (decide (ns.length < 64)) (.ok (.l Θ ((PySem.W.sortI (dd ns)).map .i)))|none=>LP) (Kk X.K S H Q):=h;cases z:i6 k with
  |none=>rw[z]at b;exact b.no.elim
  |some ns=>rw[z]at b;let⟨W,r⟩:=K5.LK b;let R:ns.length < 64:=t_ W;rw[kz z]at m;rw[m.ints]at f;refine⟨a,ns,rfl,f,R,λa' O U Qa=>⟨a',O,dd ns,rfl,iq,Qa,Nat.lt_of_le_of_lt (yI ns) R,λl j=>?_⟩⟩;let Q8:H1 l=Φ:=(ir.upd U).free j;exact r.ok _ _ ((E.trans (.upd U)).trans (.upd j)) (.L (.inr (E.free Q8)) (.inl iq) (K4.ofInts _))
 |_=>exact h.no.elim
def FI (g:Mf Z CX cl X G)  (f:G.N7 5=Θ)(w:G.gl.contains 18=Θ)(hn:notStar e=Θ)(u:PE X e (RD X.K i F)) :
  PE X (.Call (.Name "list" p) [.Call (.Name "reversed" B) [e] [] P] [] pos) (RD X.K i λb=>KZ (F b) Cr):=by
 let⟨n,k,I,C⟩:=jA g (show iU[5]? = Δ ("list" : Str) from rfl) (mX f);let⟨r,J,O,N⟩:=jA g (show iU[18]? = Δ ("reversed" : Str) from rfl) w;refine iy (B6 (g.calm (mY f)) n k r J u λE=>fS hn E X.env) λA H Q L=>?_;let⟨S,b,s,q⟩:=L;refine iK (.refl _) s (K5.KZ q) λx v U z _ M c=>?_
 cases x using zD with
 |l o R=>let⟨a,y,rfl,j,m⟩:=M.Mr;exact⟨a,y,rfl,j,λl h=>Kk.fit z c _ _ (.upd h) (xn h m.rev)⟩
 |_=>exact c.no.elim
def uo (h:lU d=Θ):∃x,d=.s x:=by
 induction d using zD<;>first|exact⟨_,rfl⟩|cases h
def Iy (g:Mf Z CX cl X G)  {o:Expr}  (hn:sd o=Θ)(I:(p.endLine == L.line)=Θ)(l:(a::A).length < 29)
  (J:iX Z G e (a::A)=Θ) (E:PE X o (RD X.K u F)) (h:PA X (a::A) (RA X.K (ij e) (iJ cl e))) :
  PE X (.Call (.Attribute o (qy m) p) (a::A) [] L) (RD X.K (u++ij e) λi=>KZ (F i) λx=>LK (lU x) (KZ (iJ cl e i) λn=>ox m x n)):=by
 cases e using zL with
 |nil=>cases J
 |cons b e=>
  let M:(notStar a&&LV Z G b a&&iX Z G e A)=Θ:=J;simp only[g_]at M;let c:=jq Z G (E:=e) L X.env M.2;let mono:∀r H Q,RD X.K (u++ij (b::e)) (λi=>KZ (F i) λx=>LK (lU x) (KZ (iJ cl (b::e) i) λn=>ox m x n)) r H Q->tBM X.K "str" (rMt X.K m) (RD X.K u F) (RA X.K (ij (b::e)) (iJ cl (b::e))) r H Q:=by rintro r H Q ⟨S,i,C,q⟩;refine iK (.refl _) C.left (K5.KZ q) λx v H1 e1 _ U w=>?_;let⟨Y,w⟩:=K5.LK w;let⟨z,rfl⟩:=uo Y;cases U.Mz;refine⟨rfl,sr e1 C.right (K5.KZ w) λn vs H2 e2 MF R O=>?_⟩;exact⟨nw S H,.s z,n,.k z,R,O.mono λd hd=>hd.fit e2⟩
  let P:attributeBase o (qy m) X.env (eval o X.env)=eval o X.env:=by
   cases o using zE with
   |Call f A B pos=>
    cases A using zL with
    |nil=>
     cases B using zL with
     |nil=>cases hn
     |cons _ _=>cases f<;>rfl
    |cons _ _=>cases f<;>rfl
   |_=>rfl
  let Z8:(backTo L (Ν (a::A) X.env)).all (λx=>!x.1)=Θ:=by rw[fS M.1.1];show(Θ&&(backTo L (Ν A X.env)).all (λx=>!x.1))=Θ;rw[Bool.true_and,M_];intro y W;have:=List.any_eq_false.mp c y W;simpa using this
  let N:((backTo L (Ν (a::A) X.env)).all (λx=>!x.1)&&(backToKw L (keywordEach [] X.env)).all (λx=>x.1.isSome)&&decide ((a::A).length+([]:List Keyword).length+(if([]:List Keyword).isEmpty then 0 else 1) < 30))=Θ:=by rw[Z8];have:decide ((a::A).length+([]:List Keyword).length+(if([]:List Keyword).isEmpty then 0 else 1) < 30)=Θ:=B_ (by simp at l ⊢;omega);rw[this];rfl
  refine iy ?_ mono;cases m with
  |j=>exact ni PySem.F.plainAttrs_str PySem.F.slot_str_join PySem.F.type_str_join (vn .j) E h P N I (fS M.1.1 A X.env) c
  |s=>exact ni PySem.F.plainAttrs_str PySem.F.slot_str_startswith PySem.F.type_str_startswith (vn .s) E h P N I (fS M.1.1 A X.env) c
def nK {K:Frag}  (m:K6 K S H w y)(h:mT y=Δ q):w=kV q:=by
 cases y using zD with
 |i i=>cases h;cases m.L5;rfl
 |s x=>cases h;cases m.Mz;rfl
 |_=>cases h
def oE {K:Frag}  (q:Key):∀(kvs:List (Key×V)) (a:Î),K4 K S H (kvs.map (·.2)) a->
  (∀d,look (kvs.map (·.1)) a q=Δ d->∃v,mR kvs q=Δ v/\K6 K S H v d)/\(look (kvs.map (·.1)) a q).isSome=(mR kvs q).isSome:=by
 intro kvs
 induction kvs with
 |nil=>intro a _;exact⟨λd h=>(by cases h),rfl⟩
 |cons p kvs c=>
  intro a m;rw[a_]at m
  cases a using zL with
  |nil=>exact absurd m.length (by simp)
  |cons d a=>
   cases m with
   |cons b M=>
    let⟨I,i⟩:=c a M;let e:look ((p::kvs).map (·.1)) (d::a) q=if p.1=q then Δ d else look (kvs.map (·.1)) a q:=rfl
    rw[e];unfold mR at I i ⊢;rw[List.find?_cons];by_cases h:p.1=q
    ·rw[e_ h,B_ h];exact⟨λf z=>⟨p.2,rfl,by cases z;exact b⟩,rfl⟩
    ·rw[d_ h,N_ h];exact⟨I,i⟩
def K6.T4 {K:Frag}  (h:K6 K S H v (.K o ks g)):∃a kvs,v=.r a/\Rd H a (.d kvs)/\kvs.map (·.1)=ks/\K4 K S H (kvs.map (·.2)) g:=by
 cases h with
 |p i f e b=>exact⟨_,_,rfl,f,e,b⟩
def FJ:PE X (.Dict [] [] pos) (RD X.K [] (K8 cl .o)):=by refine iy n6 λb H Q ⟨S,a,c,q⟩=>λp h=>?_;exact q.ok _ _ (.upd h) (.p (kvs:=[]) (.inr h) (.inl iq) rfl .nil)
def FK (g:Mf Z CX cl X G)  (E:PE X a (RD X.K s L))(C:PE X b (RD X.K r J))(B:iW b=Θ) :
  PE X (.Subscript a b pos) (RD X.K (s++r) λf=>KZ (L f) λx=>KZ (J f) λy=>rP x y):=by
 let W:=g.un;refine iy (Ca ⋯ E C λo i=>by cases b<;>first|rfl|cases B) λU H Q R=>?_;let⟨S,f,n,q⟩:=R;refine iK (.refl _) n.left (K5.KZ q) λx v H1 O _ z u=>?_;refine iK O n.right (K5.KZ u) λy w Y N P M m=>?_
 cases x using zD with
 |K o ks l=>
  let c:K5 (match mT y with|some q=>(match look ks l q with|some d=>.ok d|none=>LP)|none=>LP) (Kk X.K S H Q):=m;cases j:mT y with
  |none=>rw[j]at c;exact c.no.elim
  |some k=>
   simp only[j]at c;let⟨p,e,rfl,I,rfl,F⟩:=(z.later P).T4;cases h:look (e.map (·.1)) l k with
   |none=>rw[h]at c;exact c.no.elim
   |some d=>rw[h]at c;let⟨v,A,mv⟩:=(oE k e l F).1 d h;exact⟨p,v,rfl,.inl ⟨e,k,I,nK M j,A.symm⟩,c.ok _ _ N mv⟩
 |_=>exact m.no.elim
def j7 {X:Cx}(h:RD X.K is f b H Q)(m:∀v H',Q v H'->g v H'):RD X.K is f b H g:=by let⟨S,a,c,q⟩:=h;exact⟨S,a,c,q.mono λd hd w H' e r=>m w H' (hd w H' e r)⟩
def su {X:Cx}(h:RD X.K (z++A) (λf=>KZ (I f) λy=>KZ (J f) λx=>rQ n x y) j H Q) :
  RD X.K z I j H λy u=>RD X.K A J j u λx i=>∃a o,x=.r a/\ql i a y o/\Q (.b (n != o.isSome)) i:=by
 let⟨S,f,m,q⟩:=h;refine iK (.refl _) m.left (K5.KZ q) λy w u N _ E C=>?_;refine iK N m.right (K5.KZ C) λx v i L O M l=>?_
 cases x using zD with
 |K o ks s=>
  let c:K5 (match mT y with|some q=>.ok (.b (n != (look ks s q).isSome))|none=>LP) (Kk X.K S H Q):=l;cases g:mT y with
  |none=>rw[g]at c;exact c.no.elim
  |some k=>simp only[g]at c;let⟨p,e,rfl,G,rfl,F⟩:=M.T4;rw[(oE k e s F).2]at c;exact⟨p,_,rfl,.inl ⟨e,k,G,nK (E.later O) g,rfl⟩,c.ok _ _ L (.B _)⟩
 |_=>exact l.no.elim
def pT {X:Cx}(h:RT X.K (A++B) (λi=>KZ (KZ (I i) λy=>KZ (J i) λx=>rQ n x y) iN) s H Q) :
  RD X.K A I s H λy z=>RD X.K B J s z λx m=>∃a o,x=.r a/\ql m a y o/\∃c,V.b (n != o.isSome)=.b c/\Q c m:=by
 let⟨S,i,u,q⟩:=h;refine iK (.refl _) u.left (K5.KZ (K5.KZ q)) λy w z N _ E C=>?_;refine iK N u.right (K5.KZ C) λx v m L O M e=>?_
 cases x using zD with
 |K o ks f=>
  cases l:mT y with
  |none=>
   let j:rQ n (.K o ks f) y=LP:=by show((match mT y with|some q=>.ok (.b (n != (look ks f q).isSome))|none=>LP:Res D))=_;rw[l]
   rw[j]at e;exact e.no.elim
  |some k=>
   let j:rQ n (.K o ks f) y=.ok (.b (n != (look ks f k).isSome)):=by show((match mT y with|some q=>.ok (.b (n != (look ks f q).isSome))|none=>LP:Res D))=_;rw[l]
   rw[j]at e;let⟨p,g,rfl,G,rfl,F⟩:=M.T4;rw[(oE k g f F).2]at e;exact⟨p,_,rfl,.inl ⟨g,k,G,nK (E.later O) l,rfl⟩,_,rfl,(e.ok).ok _ L⟩
 |_=>exact e.no.elim
def Iz (g:Mf Z CX cl X G)  (i:PE X b (RD X.K v F))(j:PE X a (RD X.K r s))(f:behindInMarks (xr n) a=Ξ) :
  PE X (.Compare b [xr n] [a] pos) (RD X.K (v++r) λc=>KZ (F c) λy=>KZ (s c) λx=>rQ n x y)/\
  PT X (.Compare b [xr n] [a] pos) (RT X.K (v++r) λc=>KZ (KZ (F c) λy=>KZ (s c) λx=>rQ n x y) iN):=by
 let u:=g.un
 cases n using zB with
 |false=>
  refine⟨iy (xG (yf ⋯ i j) f) λk H Q h=>?_,lQ (xH (yf ⋯ i j) f) λk H Q h=>?_⟩
  ·refine j7 (su h) λy m z=>j7 z λx l ⟨p,o,e,d,q⟩=>⟨p,o,e,d,?_⟩
   rw[show(Ξ != o.isSome)=o.isSome by cases o.isSome<;>rfl]at q;exact q
  ·refine j7 (pT h) λy m z=>j7 z λx l ⟨p,o,e,d,q⟩=>⟨p,o,e,d,?_⟩
   rw[show(Ξ != o.isSome)=o.isSome by cases o.isSome<;>rfl]at q;exact q
 |true=>
  refine⟨iy (xG (pN ⋯ i j) f) λk H Q h=>?_,lQ (xH (pN ⋯ i j) f) λk H Q h=>?_⟩
  ·refine j7 (su h) λy m z=>j7 z λx l ⟨p,o,e,d,q⟩=>⟨p,o,e,d,?_⟩
   rw[show(Θ != o.isSome) = !o.isSome by cases o.isSome<;>rfl]at q;exact q
  ·refine j7 (pT h) λy m z=>j7 z λx l ⟨p,o,e,d,q⟩=>⟨p,o,e,d,?_⟩
   rw[show(Θ != o.isSome) = !o.isSome by cases o.isSome<;>rfl]at q;exact q
def FL (g:Mf Z CX cl X G)  (hn:isNm o=Θ)(J:(A.endLine == L.line)=Θ)(p:notStar s=Θ)(O:PE X o (RD X.K E U))(N:PE X s (RD X.K r F)) :
  PE X (.Call (.Attribute o "index" A) [s] [] L) (RD X.K (E++r) λf=>KZ (U f) λx=>LK (uc x) (KZ (F f) λy=>rR x y)):=by
 let n:backTo L (Ν [s] X.env)=[(Ξ,eval s X.env)]:=by rw[fS p];rfl
 let P:PA X [s] (kg (RD X.K r F) o6):=iH N iZ (fS p _ _);refine iy (ni PySem.F.plainAttrs_list PySem.F.slot_list_index PySem.F.type_list_index Cm O P (by cases o<;>first|rfl|cases hn) (by rw[n];rfl) J (fS p [] X.env) rfl) λσ H Q LX=>?_;let⟨S,f,B,q⟩:=LX;refine iK (.refl _) B.left (K5.KZ q) λx v H1 Y _ I k=>?_;let⟨R,k⟩:=K5.LK k
 cases x using zD with
 |l o C=>
  let⟨a,ys,rfl,e,m⟩:=I.Mr;refine⟨.inl ⟨rfl,_,e⟩,iK Y B.right (K5.KZ k) λy w H2 W MF M u=>?_⟩
  cases y using zD with
  |i y=>
   cases M.L5;let b:K5 (match i6 C with|some ns=>(match lC y ns with|some j=>.ok (.i j)|none=>LP)|none=>LP) (Kk X.K S H Q):=u;cases z:i6 C with
   |none=>rw[z]at b;exact b.no.elim
   |some ns=>
    rw[z]at b;let b:K5 (match lC y ns with|some j=>.ok (.i j)|none=>LP) (Kk X.K S H Q):=b;cases h:lC y ns with
    |none=>rw[h]at b;exact b.no.elim
    |some j=>
     rw[h]at b;rw[kz z]at m;rw[m.ints]at e;refine⟨a,ns,y,j,rfl,?_,rfl,h,b.ok _ _ W (.c _)⟩;rcases e with e|e
     ·exact .inl (MF.rd e)
     ·exact .inr e
  |_=>exact u.no.elim
 |_=>cases R
def mI (n:Nat):((List.range n).map λk=>V.i (k:Nat))=(((List.range n).map λk:Nat=>(k:Int)).map V.i)/\((List.range n).map λk=>D.i (k:Nat))=(((List.range n).map λk:Nat=>(k:Int)).map D.i):=by rw[z_,z_];exact⟨rfl,rfl⟩
def FN (g:Mf Z CX cl X G)  (c:G.N7 5=Θ)(w:G.gl.contains 15=Θ)(hn:notStar e=Θ)(u:PE X e (RD X.K f F)) :
  PE X (.Call (.Name "list" p) [.Call (.Name "range" C) [e] [] P] [] pos) (RD X.K f λb=>KZ (F b) rS):=by
 let⟨j,k,M,I⟩:=jA g (show iU[5]? = Δ ("list" : Str) from rfl) (mX c);let⟨r,J,O,N⟩:=jA g (show iU[15]? = Δ ("range" : Str) from rfl) w;refine iy (uY (g.calm (mY c)) j k r J u λE=>fS hn E X.env) λB H Q L=>?_;let⟨S,b,s,q⟩:=L;refine iK (.refl _) s (K5.KZ q) λx v R z _ m a=>?_
 cases x using zD with
 |i n=>cases m.L5;let⟨y,a⟩:=K5.LK a;let A:0<=n/\n<=1000:=t_ y;refine⟨n.toNat,by rw[Int.toNat_of_nonneg A.1],⋯,λl h=>Kk.fit z a _ _ (.upd h) (xn h ?_)⟩;rw[(mI _).1,(mI _).2];exact K4.ofInts _
 |_=>exact a.no.elim
theorem pU {K:Frag}  : ∀(vs:Ï) (b:Î),vs.length=b.length->(∀(k:Nat) v d,vs[k]? = Δ v->b[k]? = Δ d->K6 K S H v d)->K4 K S H vs b
 |[],[],_,_=>.nil
 |v::vs,d::b,a,h=>.cons (h 0 v d rfl rfl) (pU vs b (by simpa using a) λk v d e c=>h (k+1) v d (by rw[aaU];exact e) (by rw[aaU];exact c))
 |[],_::_,a,_=>by cases a
 |_::_,[],a,_=>by cases a
def vz {K:Frag}  (h:K6 K S H v x)(e:pq x=.ok b):∃k a X,v=.r a/\Pl K H k a X/\K4 K S H X b:=by
 cases x using zD with
 |l o E=>cases e;let⟨a,X,rfl,q,m⟩:=h.Mr;exact⟨.l,a,X,rfl,q,m⟩
 |t E=>cases e;let⟨a,X,rfl,q,m⟩:=h.M3;exact⟨.t,a,X,rfl,q,m⟩
 |_=>cases e
def FO (g:Mf Z CX cl X G)  (M:G.N7 5=Θ)(h2:G.gl.contains 17=Θ)(hn:notStar a=Θ)(R:notStar b=Θ)(ha:PE X a (RD X.K va fa))(hb:PE X b (RD X.K W fb)) :
  PE X (.Call (.Name "list" p) [.Call (.Name "zip" p') [a,b] [] P] [] pos) (RD X.K (va++W) λn=>KZ (fa n) λx=>KZ (fb n) λy=>u0 x y):=by
 let⟨k1,k2,k3,k4⟩:=jA g (show iU[5]? = Δ ("list" : Str) from rfl) (mX M);let⟨j1,j2,j3,j4⟩:=jA g (show iU[17]? = Δ ("zip" : Str) from rfl) h2;let C:Ν [b] X.env=[(Ξ,eval b X.env)]:=fS R [] X.env;refine iy (Cd (g.calm (mY M)) k1 k2 j1 j2 (iH ha (iH hb iZ (fS R _ _)) (fS hn _ _)) (by rw[fS hn,C]) C) λσ H Q LX=>?_;let⟨S,n,J,q⟩:=LX;refine iK (.refl _) J.left (K5.KZ q) λx v H1 e1 _ m1 q1=>?_;refine iK e1 J.right (K5.KZ q1) λy w H2 O MF m2 q2=>?_;let f:=K5.KZ (show K5 (KZ (oy x y) λc=>LK (jh c.length) (.ok (D.l Θ c))) (Kk X.K S H Q) from q2);cases j:pq x with
 |error er=>
  induction x using zD<;>first|(cases j;done)|(rw[show oy _ y=LP from rfl]at f;exact f.no.elim)
 |ok c=>
  cases h:pq y with
  |error er=>
   have:oy x y=LP:=by
    unfold oy;rw[j,h]
    induction y using zD<;>first|(cases h;done)|(cases h;rfl)
   rw[this]at f;exact f.no.elim
  |ok E=>
   let hz:oy x y=.ok (jU c E):=by unfold oy;rw[j,h];rfl
   rw[hz]at f;let⟨gd,q4⟩:=K5.LK f.ok;let⟨ka,l,U,rfl,g1,s⟩:=vz (m1.later MF) j;let⟨kb,m,Y,rfl,g2,N⟩:=vz m2 h;let F:(jU c E).length=min c.length E.length:=by unfold jU;rw[List.length_zipWith]
   refine⟨ka,kb,l,m,U,Y,rfl,g1,g2,by rw[s.length,N.length,<- F];exact jw gd,λTs A H' e hA R0 i hT=>?_⟩;refine q4.ok (.r A) H' (O.trans e) (.L (.inr (O.free hA)) (.inl R0) (pU _ _ (by rw[i_,i,F,s.length,N.length]) λk v d I hd=>?_));rw[D_]at I;let⟨T,ht,rfl⟩:=aaO.mp I;let⟨x',y',Nc,RL,TH⟩:=hT k T ht;let⟨d1,B,r1⟩:=s.Qd Nc;let⟨d2,u,r2⟩:=N.Qd RL;have:(jU c E)[k]? = Δ (.t [d1,d2]):=by unfold jU;rw[List.getElem?_zipWith,B,u]
   rw[this]at hd;cases hd;exact .t (.inl (.inl TH)) (.cons (r1.mono (λ_ z=>z) e) (.cons (r2.mono (λ_ z=>z) e) .nil))
theorem oF (m:t≠a):∀(n i:Nat) (s:Α) (Q:Í->Α->Prop),s.heap.IsListIter a t i->s.heap.IsList t I->i+n<=I.size->
  (∀h',h'.IsListIter a t (i+n)->Heap.SameBut a s.heap h'->Q ((I.toList.drop i).take n) {s with heap:=h'})->Κ (Μ prog w) A (draw (.ref a) n) Q E s
 |0,i,s,Q,h,_,_,H=>by show Κ _ _ (pure []) Q E s;exact f_ (by simpa using H s.heap h (Heap.SameBut.refl ..))
 |n+1,i,s,Q,h,b,c,H=>by
  let M:i < I.size:=⋯
  show Κ _ _ (pyNext (.ref a) >>= _) Q E s;refine b_ (wpAny_pyNext_list_item h b (x:=I[i]) (by simp[M]) λf P O=>?_);refine b_ (L_ (oF m n (i+1) _ _ P (b.extBut O.extBut m) ⋯ λp e W=>f_ ?_));let hd:I.toList.drop i=I[i]::I.toList.drop (i+1):=by simp[List.drop_eq_getElem_cons,M]
  have:=H p (by rw[show i+(n+1)=i+1+n by omega];exact e) (O.trans W);rw[hd,List.take_succ_cons]at this;exact this
def m7 (hh:A.handled=Φ)(h:s.heap.IsList t i)
  (g:∀h',Heap.ExtBut s.heap.objs.size s.heap h'->Q i.toList {s with heap:=h'}):Κ (Μ prog w) A (unpackItems (.ref t) i.size Φ) Q E s:=by
 let M:t≠s.heap.objs.size:=by let⟨o,f,_⟩:=h;exact n_ (j_ f)
 let push:∀o,(s.heap.push o).IsList t i:=λo=>by let⟨a,e,c,n,d⟩:=h;exact⟨a,m_ _ e,c,n,d⟩
 unfold unpackItems;refine b_ ?_
 ·unfold notIterableAtAll;refine b_ (wpAny_specialOf h.typeIs slot_list_iter.lookup ?_);refine f_ ?_;simp only[aaK,if_false];refine b_ (L_ (aaL h ?_));refine b_ (L_ (oF M i.size 0 _ _ ⟨_,A_ _ rfl,rfl,rfl⟩ (push _) ⋯ λl P O=>?_));let k:List.take i.size (List.drop 0 i.toList)=i.toList:=by rw[List.drop_zero];exact List.take_of_length_le (by simp)
  rw[k];rw[d_ (by simp)];let j:l.IsList t i:=(push _).extBut O.extBut M;refine b_ (L_ (wpAny_pyNext_list_end hh P j (by simp) λp W=>?_));simp only[Option.isSome_none,aaK,if_false];refine f_ (g p λb o H e=>W b o H (O.extBut b o H (m_ _ e)))
def IA (K:Frag)(n:Nat)(t:UT):TG:=λv b H Q=>∃a x,v=.r a/\(Md K H a x∨MR K H a x)/\x.length=n/\t x b H Q
def FP (y:X.calm=Θ)(h:Vz X E t)(hn:(assignEach E X.env).length=n)(L:(assignEach E X.env).findIdx? (·.1)=Φ):PG X (.Tuple E k pos) (IA X.K n t):=by
 intro p s g H v u Q I r j;let⟨a,x,B,c,w,j⟩:=j;subst B;cases r;rcases c with c|c
 ·let⟨i,R,A,z⟩:=I.tuple c;refine assign_Tuple_tuple (I.ok.hd y) A (by simp[hn,<- w,R.length]) L λm l=>?_;let q:Inv X p g H {s with heap:=m}:=I.kept (t':=s.toks) λb o e=>l b o (n_ (j_ e)) e;exact h p _ g H x _ Q q (by simpa using R) j
 ·let⟨i,R,pl,z⟩:=I.list c;rw[assign_Tuple];refine b_ (wpAny_standAt ?_);unfold unpack;let f:(assignEach E X.env).length=i.toArray.size:=by simp[hn,<- w,R.length]
  rw[f,L];refine b_ (L_ (m7 (I.ok.hd y) pl.isList λm l=>?_));let q:Inv X p g H {s with heap:=m}:=I.kept (t':=s.toks) λb o e=>l b o (n_ (j_ e)) e;exact h p _ g H x _ Q q (by simpa using R) j
mutual
def gT (K:Frag):Tg->TG
 |.n i=>xM i
 |.t ts=>IA K ts.length (Wm K ts)
def Wm (K:Frag):List Tg->UT
 |[]=>Hu
 |t::ts=>DK (gT K t) (Wm K ts)
end
def mJ (h:notStar e=Θ)(E:Á)(env:Env):assignEach (e::E) env=(Ξ,assign e env)::assignEach E env:=by
 induction e using zE<;>first|rfl|cases h
section
variable {Z:Sg}{CX:PK}{cl:Ä}{X:Cx}{G:Gm}
theorem oG (G:Gm):∀ {ts:List Tg}{E:Á} (env:Env),lG G ts E=Θ->(assignEach E env).length=ts.length/\(assignEach E env).findIdx? (·.1)=Φ
 |[],[],_,_=>⟨rfl,rfl⟩
 |t::ts,e::E,env,h=>by let H:(notStar e&&jM G t e&&lG G ts E)=Θ:=h;simp only[g_]at H;let⟨b,a⟩:=oG G (ts:=ts) (E:=E) env H.2;rw[mJ H.1.1];refine⟨by rw[List.length_cons,b,List.length_cons],?_⟩;rw[List.findIdx?_cons,d_ (by simp),a];rfl
 |[],_::_,_,h=>by cases h
 |_::_,[],_,h=>by cases h
mutual
theorem SR (g:Mf Z CX cl X G):∀(t:Tg) (e:Expr),jM G t e=Θ->PG X e (gT X.K t)
 |.n i,e,h=>by
  cases e using zE with
  |Name x pos=>
   let a:(G.N[i]? == Δ x&&(G.kd[i]? == Δ .local||(G.df&&G.kd[i]? == Δ .cell)))=Θ:=(l_.mp h).1;rw[g_,aaf,g_]at a;let⟨c,H⟩:=a;let j:G.N[i]? = Δ x:=h_ c;let b:=g.kd i x j;refine BQ (by rw[g.N];exact g.Mm) (by rw[g.N];exact j) ?_ ?_
   ·rcases H with H|H
    ·exact .inl (b.trans (h_ H))
    ·exact .inr (b.trans (h_ H.2))
   ·rcases H with H|H
    ·exact .inr (b.trans (h_ H))
    ·exact .inl (g.df H.1 x)
  |_=>cases h
 |.t ts,e,h=>by
  cases e using zE with
  |Tuple E k pos=>let f:(G.cm&&lG G ts E)=Θ:=h;rw[g_]at f;let a:=f.2;let⟨c,H⟩:=oG G X.env a;exact FP (g.calm f.1) (IB g ts E a) c H
  |_=>cases h
theorem IB (g:Mf Z CX cl X G):∀(ts:List Tg) (E:Á),lG G ts E=Θ->Vz X E (Wm X.K ts)
 |[],[],_=>BR
 |t::ts,e::E,h=>by let H:(notStar e&&jM G t e&&lG G ts E)=Θ:=h;simp only[g_]at H;exact xN (SR g t e H.1.2) (IB g ts E H.2) (by rw[mJ H.1.1];rfl)
 |[],_::_,h=>by cases h
 |_::_,[],h=>by cases h
end
end
mutual
theorem mK {G:Gm}:∀(t:Tg) (e:Expr),jM G t e=Θ->∀j∈N8 t,G.io≠Δ j
 |.n i,e,h,j,H=>by
  cases e using zE with
  |Name x pos=>
   let b:=(l_.mp (show((G.N[i]? == Δ x&&(G.kd[i]? == Δ .local||(G.df&&G.kd[i]? == Δ .cell)))&&G.io != Δ i)=Θ from h)).2;let e:j=i:=by simpa[N8] using H
   subst e;simpa using b
  |_=>cases h
 |.t ts,e,h,j,H=>by
  cases e using zE with
  |Tuple E k pos=>let a:(G.cm&&lG G ts E)=Θ:=h;exact sv ts E (l_.mp a).2 j H
  |_=>cases h
theorem sv {G:Gm}:∀(ts:List Tg) (E:Á),lG G ts E=Θ->∀j∈sf ts,G.io≠Δ j
 |[],_,_,j,H=>by cases H
 |t::ts,[],h,_,_=>by cases h
 |t::ts,e::E,h,j,H=>by
  let a:(notStar e&&jM G t e&&lG G ts E)=Θ:=h;simp only[g_]at a;rcases w_.mp (show j∈N8 t++sf ts from H) with H|H
  ·exact mK t e a.1.2 j H
  ·exact sv ts E a.2 j H
end
def Va (K:Frag)(S:Å)(H:Hp)(b:St)(a:Ev):Prop:=a.length=b.length/\∀i d,ic a i=Δ d->∃v,b[i]? = Δ (Δ v)/\K6 K S H v d
def kS {o:Ã}:ic (a.set i o) j=if i=j/\i < a.length then o else ic a j:=by
 unfold ic;rw[List.getElem?_set];by_cases h:i=j
 ·subst h;by_cases H:i < a.length
  ·simp[H]
  ·rw[e_ rfl,d_ H,d_ ⋯];rw[List.getElem?_eq_none ⋯]
 ·rw[d_ h,d_ ⋯]
section
variable {K:Frag}{S:Å}{H:Hp}
mutual
theorem vA:∀(t:Tg) {b:St}{f:Ev}{v:V}{d:D}{Kt:Ev->Prop}{Q:St->Hp->Prop},Va K S H b f->K6 K S H v d->K5 (ju t d f) Kt->
  (∀τ' L,Va K S H L τ'->L.length=b.length->(∀j,j∉N8 t->L[j]? = b[j]?)->Kt τ'->Q L H)->gT K t v b H Q
 |.n i,b,f,v,d,Kt,Q,c,m,h,k=>by
  refine k (f.set i (Δ d)) (b.set i (Δ v)) ⟨by rw[List.length_set,List.length_set,c.1],λj e z=>?_⟩ (by rw[List.length_set]) (λj u=>?_) h.ok
  ·rw[kS]at z;by_cases q:i=j/\i < f.length
   ·rw[e_ q]at z;let⟨rfl,q⟩:=q;cases z;exact⟨v,by rw[List.getElem?_set_self (by rw[<- c.1];exact q)],m⟩
   ·rw[d_ q]at z;let⟨w,s,y⟩:=c.2 j e z;refine⟨w,?_,y⟩;by_cases r:i=j
    ·subst r;exfalso;have:i < b.length:=by have:=(v_.mp s).1;exact this
     exact q ⟨rfl,by rw[c.1];exact this⟩
    ·rw[aaD r];exact s
  ·have:i≠j:=λz=>u (by subst z;simp[N8]);rw[aaD this]
 |.t ts,b,f,v,d,Kt,Q,c,m,h,k=>by
  cases d using zD with
  |t p=>let⟨a,x,rfl,q,M⟩:=m.M3;let⟨g,h⟩:=K5.LK h;let G:p.length=ts.length:=t_ g;exact⟨a,x,rfl,.inl q,by rw[M.length,G],oH ts c M h k⟩
  |l o p=>let⟨a,x,rfl,q,M⟩:=m.Mr;let⟨g,h⟩:=K5.LK h;let G:p.length=ts.length:=t_ g;exact⟨a,x,rfl,.inr q,by rw[M.length,G],oH ts c M h k⟩
  |_=>exact h.no.elim
theorem oH:∀(ts:List Tg) {a:St}{b:Ev}{vs:Ï}{c:Î}{Kt:Ev->Prop}{Q:St->Hp->Prop},Va K S H a b->K4 K S H vs c->K5 (mE ts c b) Kt->
  (∀τ' L,Va K S H L τ'->L.length=a.length->(∀j,j∉sf ts->L[j]? = a[j]?)->Kt τ'->Q L H)->Wm K ts vs a H Q
 |[],a,b,vs,c,Kt,Q,e,m,h,k=>by
  cases m with
  |nil=>exact⟨rfl,k b a e rfl (λ_ _=>rfl) h.ok⟩
  |cons _ _=>exact h.no.elim
 |t::ts,a,b,vs,c,Kt,Q,e,m,h,k=>by
  cases m with
  |nil=>exact h.no.elim
  |cons f M=>
   refine⟨_,_,rfl,vA t e f (K5.KZ h) λτ' L r hn g l=>?_⟩;refine oH ts r M l λq p n N R v=>k q p n (N.trans hn) (λj i=>?_) v;let X:j∉N8 t/\j∉sf ts:=by constructor<;>(intro z;apply i;simp[sf,z])
   rw[R j X.2,g j X.1]
end
end
section
variable {K:Frag}{S S':Å}{H H':Hp}{J:It}{g:Î}
def WS.step (c:∀a (u:LD),S a->Rd H a u.o->S' a/\Rd H' a u.o)(b:∀a x,Md K H a x->Md K H' a x)  (h:WS K S H k a x):WS K S' H' k a x:=by
 cases k with
 |l=>exact h.elim (λz=>.inl (c _ (.l _) z.1 z.2)) λz=>.inr z
 |t=>exact b _ _ h
def sy (g:Î):(lV g).length=g.length:=by unfold lV;rw[List.length_zipWith,R_,Nat.min_self]
def sA (g e:Î):(jU g e).length=min g.length e.length:=by unfold jU;rw[List.length_zipWith]
theorem NN.step (b:∀a (u:LD),S a->Rd H a u.o->S' a/\Rd H' a u.o)(c:∀a X,Md K H a X->Md K H' a X)(h:NN K S H J g):NN K S' H' J g:=by
 cases h with
 |L j e i=>exact .L (b _ (.l _) j e).1 (b _ (.l _) j e).2 (i.step b c)
 |l e i=>exact .l e (i.step b c)
 |t e i=>exact .t (c _ _ e) (i.step b c)
 |Q lo hi=>exact .Q lo hi
 |f x=>exact .f x
 |Z e i m k=>exact .Z (e.step b c) (i.step b c) (m.step b c) (k.step b c)
 |N e i=>exact .N (e.step b c) (i.step b c)
def NN.mono (h:NN K S H J g)(b:∀a,S a->S' a)(e:ir H H'):NN K S' H' J g:=h.step (λa x s r=>⟨b a s,e.rd r⟩) λa x s=>e.NB s
def oI (x:Str):(kc x).length=x.cps.size:=by unfold kc;simp
def jN (a b:Int):(iQ a b).length=(b - a).toNat:=by unfold iQ;simp
theorem NN.stop (h:NN K S H J g)  (hi:g.length=i):J.stop i H:=by
 cases h with
 |L j b a=>exact⟨_,.inl b,by rw[a.length];omega⟩
 |l b a=>exact⟨_,b.sq,by rw[a.length];omega⟩
 |t b a=>exact⟨_,b,by rw[a.length];omega⟩
 |Q lo O=>rw[jN]at hi;exact Nat.le_of_eq hi
 |f x=>rw[oI]at hi;exact Nat.le_of_eq hi
 |Z b a e c=>exact⟨_,_,b.sq,a.sq,by rw[sA]at hi;rw[e.length,c.length];omega⟩
 |N b a=>exact⟨_,b.sq,by rw[sy]at hi;rw[a.length];omega⟩
theorem NN.go (h:NN K S H J g)  (hi:i < g.length):J.go i H:=by
 cases h with
 |L n c b=>let⟨v,a,_⟩:=b.get (i:=i) (d:=g[i]) (by simp[hi]);exact⟨_,v,.inl c,a⟩
 |l c b=>let⟨v,a,_⟩:=b.get (i:=i) (d:=g[i]) (by simp[hi]);exact⟨_,v,c.sq,a⟩
 |t c b=>let⟨v,a,_⟩:=b.get (i:=i) (d:=g[i]) (by simp[hi]);exact⟨_,v,c,a⟩
 |Q lo O=>rw[jN]at hi;exact hi
 |f x=>rw[oI]at hi;exact hi
 |Z c b m k=>
  rename_i e E
  rw[sA]at hi;let⟨v,a,_⟩:=m.get (i:=i) (d:=e[i]) (by rw[y_]);let⟨u,j,_⟩:=k.get (i:=i) (d:=E[i]) (by rw[y_]);exact⟨_,_,v,u,c.sq,b.sq,a,j⟩
 |N c b=>
  rename_i e
  rw[sy]at hi;let⟨v,a,_⟩:=b.get (i:=i) (d:=e[i]) (by rw[y_]);exact⟨_,v,c.sq,a⟩
theorem NN.Q3 (h:NN K S H J g)  (y:J.Q3 i H x u)  (hd:g[i]? = Δ d):ir H u/\K6 K S u x d:=by
 let F:∀ {X:Ï},K4 K S H X g->X[i]? = Δ x->K6 K S H x d:=λm e=>by let⟨d',s,A⟩:=m.Qd e;rw[hd]at s;cases s;exact A
 cases h with
 |L U j n=>let⟨e,y⟩:=y;subst e;exact⟨.refl _,F n (y _ (.inl j))⟩
 |l j n=>let⟨e,y⟩:=y;subst e;exact⟨.refl _,F n (y _ j.sq)⟩
 |t j n=>let⟨e,y⟩:=y;subst e;exact⟨.refl _,F n (y _ j)⟩
 |Z j n C B=>let⟨T,a,b,p,r,E,q⟩:=y;subst p E;let⟨Y,v⟩:=q _ _ j.sq n.sq;let⟨O,G,M⟩:=C.Qd Y;let⟨W,I,w⟩:=B.Qd v;unfold jU at hd;rw[List.getElem?_zipWith,G,I]at hd;cases hd;let e:ir H (upd H T (.t [a,b])):=.upd r;exact⟨e,.t (Md.of iq) (.cons (M.mono (λ_ z=>z) e) (.cons (w.mono (λ_ z=>z) e) .nil))⟩
 |N j n=>let⟨T,a,p,r,E,q⟩:=y;subst p E;let Y:=q _ j.sq;let⟨O,G,M⟩:=n.Qd Y;unfold lV at hd;let R:=(v_.mp G).1;rw[List.getElem?_zipWith,G,List.getElem?_range R]at hd;cases hd;let e:ir H (upd H T (.t [.i i,a])):=.upd r;exact⟨e,.t (Md.of iq) (.cons (.c _) (.cons (M.mono (λ_ z=>z) e) .nil))⟩
 |Q lo P=>
  let⟨p,E⟩:=y;subst p;refine⟨.refl _,?_⟩;subst E;unfold iQ at hd;rw[D_]at hd;let hi:i < (P - lo).toNat:=by
   have:=(aaO.mp hd)
   let⟨z,j,_⟩:=this;have:=(v_.mp j).1;simpa using this
  rw[List.getElem?_range hi]at hd;cases hd;exact .c _
 |f x=>
  let⟨p,c,j,E⟩:=y;subst p;refine⟨.refl _,?_⟩;subst E;unfold kc at hd;rw[D_]at hd;let n:x.cps.toList[i]? = Δ c:=by simpa using j
  rw[n]at hd;cases hd;exact .k _
end
def FQ {K:Frag}(e:ir H g)(hs:Slots K S H i b is)(h:K5 (f b) Kt)(k:∀c J a,ir H a->ir g a->NN K (nw S H) a J c->Kt c->R J a):RI K is f i g R:=
 ⟨nw S H,b,hs.go e,h.mono λx j J a E m=>k x J a (e.trans E) E (m.mono (pS e) (.refl _)) j⟩
def vB (I:Inv X P c H s)(h:MR X.K H a x)(q:R (XB X.K a) H):Κ (Μ X.prog X.w) X.A (pyIter (.ref a)) (UU X P c g R) X.xe s:=by
 let⟨i,r,p,j⟩:=I.list h;refine aaL p.isList ?_;refine⟨s.heap.objs.size,[s.heap.objs.size],_,_,H,rfl,I.kept (t':=s.toks) λb o e=>m_ _ e,wH a _,⟨_,A_ _ rfl,rfl,rfl⟩,λb f=>?_,q⟩;let e:b=s.heap.objs.size:=by simpa using f
 subst e;exact I.Pe (o_ _) (I.L1.fresh (o_ _))
def zw (I:Inv X P c H s)(h:Md X.K H a x)(q:R (Zc X.K a) H):Κ (Μ X.prog X.w) X.A (pyIter (.ref a)) (UU X P c g R) X.xe s:=by
 let⟨i,r,p,j⟩:=I.tuple h;refine wpAny_pyIter_tuple (show s.heap.IsTuple a i.toArray from p) ?_;refine⟨s.heap.objs.size,[s.heap.objs.size],_,_,H,rfl,I.kept (t':=s.toks) λb o e=>m_ _ e,tx a _,⟨_,A_ _ rfl,rfl,rfl⟩,λb f=>?_,q⟩;let e:b=s.heap.objs.size:=by simpa using f
 subst e;exact I.Pe (o_ _) (I.L1.fresh (o_ _))
def IC (w:PE X e (RD X.K n F)):PI X J e (RI X.K n λg=>KZ (F g) kL):=by
 intro p s k H R I h;let⟨S,g,u,q⟩:=h;refine L4 (w p s k H (λv j=>∃d,ir H j/\K6 X.K (nw S H) j v d/\_) I (iK (.refl _) u (K5.KZ q) λx v C E _ m Q=>⟨x,E,m,Q⟩)) λv M B=>?_;let⟨x,C,i,r,d,E,m,Q⟩:=B
 cases d using zD with
 |l o A=>
  cases m with
  |L y b c=>cases r;exact vB i (.inl b) (Q.ok _ _ E (.L y b c))
  |l b c=>cases r;exact vB i b.sq (Q.ok _ _ E (.l b c))
 |t A=>let⟨a,G,rfl,b,c⟩:=m.M3;cases r;exact zw i b (Q.ok _ _ E (.t b c))
 |s z=>cases m.Mz;let⟨t,rfl⟩:=r;let⟨_,Q⟩:=K5.LK Q;exact Fw i (Q.ok _ _ E (.f z))
 |_=>exact Q.no.elim
def FT (g:Mf Z CX cl X G)  (j:G.gl.contains 15=Θ)(hn:notStar e=Θ)(l:PE X e (RD X.K c F)) :
  PI X s (.Call (.Name "range" p) [e] [] pos) (RI X.K c λb=>KZ (F b) λ|.i i=>LK (nq i) (.ok (iQ 0 i))|_=>LP):=by
 let⟨f,k,_,_⟩:=jA g (show iU[15]? = Δ ("range" : Str) from rfl) j;refine qh (pF f k (iH l iZ (fS hn _ _)) (fS hn _ _)) λr H Q L=>?_;let⟨S,b,h,q⟩:=L;refine iK (.refl _) h (K5.KZ q) λx v u E _ m a=>?_
 cases x using zD with
 |i i=>cases m.L5;let⟨n,a⟩:=K5.LK a;let P : -(2 ^ 62)<=i/\i < 2 ^ 62:=t_ n;refine⟨i,rfl,P.1,P.2,?_⟩;have:=a.ok _ _ E (.Q 0 i);rw[Int.sub_zero]at this;exact this
 |_=>exact a.no.elim
def ID {K:Frag}{S:Å}{H:Hp}{a:Ω}{v:V}{d:D}{e:Î}(m:K6 K S H v d)(h:pq d=.ok e):∃k a x,v=.r a/\WS K S H k a x/\K4 K S H x e:=by
 cases d using zD with
 |l o E=>
  cases h;cases m with
  |L f c b=>exact⟨.l,_,_,rfl,.inl ⟨f,c⟩,b⟩
  |l c b=>exact⟨.l,_,_,rfl,.inr c,b⟩
 |t E=>cases h;let⟨a,x,rfl,c,b⟩:=m.M3;exact⟨.t,a,x,rfl,c,b⟩
 |_=>cases h
def IE (g:Mf Z CX cl X G)  (O:G.gl.contains 17=Θ)(hn:notStar e=Θ)(N:notStar s=Θ)(U:PE X e (RD X.K C fa))(P:PE X s (RD X.K B fb)) :
  PI X (.Tuple E c tp) (.Call (.Name "zip" p) [e,s] [] pos) (RI X.K (C++B) λj=>KZ (fa j) λx=>KZ (fb j) λy=>oy x y):=by
 let⟨l,k,_,_⟩:=jA g (show iU[17]? = Δ ("zip" : Str) from rfl) O;refine qh (Ff l k (iH U (iH P iZ (fS N _ _)) (fS hn _ _)) (by rw[fS hn,fS N];rfl) (fS N _ _)) λσ H Q LX=>?_;let⟨S,j,r,q⟩:=LX;refine iK (.refl _) r.left (K5.KZ q) λx v H1 e1 _ L J=>?_;refine iK e1 r.right (K5.KZ J) λy w H2 e2 MF M I=>?_;let i:=K5.KZ (show K5 (KZ (pq x) λu=>KZ (pq y) λE=>.ok (jU u E)) _ from I);let m:=L.mono (λ_ z=>z) MF;cases b:pq x with
 |error z=>
  rw[b]at i
  induction x using zD<;>first|(cases b;exact i.no.elim)|cases b
 |ok u=>
  rw[b]at i;let f:=K5.KZ i.ok;cases h:pq y with
  |error z=>
   rw[h]at f
   induction y using zD<;>first|(cases h;exact f.no.elim)|cases h
  |ok es'=>rw[h]at f;let⟨l,a1,A,rfl,n,F⟩:=ID (a:=0) m b;let⟨k,a2,Y,rfl,W,R⟩:=ID (a:=0) M h;exact⟨l,k,a1,a2,A,Y,rfl,n.sq,W.sq,f.ok.ok _ _ e2 (.Z n W F R)⟩
def IF (g:Mf Z CX cl X G)  (s:G.gl.contains 20=Θ)(hn:notStar e=Θ)(u:PE X e (RD X.K j F)) :
  PI X (.Tuple B c A) (.Call (.Name "enumerate" p) [e] [] pos) (RI X.K j λf=>KZ (F f) Cq):=by
 let⟨n,k,_,_⟩:=jA g (show iU[20]? = Δ ("enumerate" : Str) from rfl) s;refine qh (Ck n k (iH u iZ (fS hn _ _)) (fS hn _ _)) λz H Q y=>?_;let⟨S,f,r,q⟩:=y;refine iK (.refl _) r (K5.KZ q) λx v C E _ m a=>?_
 cases x using zD with
 |l o i=>
  cases m with
  |L w h b=>exact⟨_,_,rfl,.inl h,(show K5 (.ok (lV i)) _ from a).ok _ _ E (.N (.inl ⟨w,h⟩) b)⟩
  |l h b=>exact⟨_,_,rfl,h.sq,(show K5 (.ok (lV i)) _ from a).ok _ _ E (.N (.inr h) b)⟩
 |_=>exact a.no.elim
theorem kl {env:Env}  : ∀(N:List (Str×NameKind)),
  (N.map λ(n,k)=>if(k == Υ&&env.scope.kind == .function&&env.kindOf n == Δ .cell) then(n,NameKind.cell) else(n,k)).lookup x =
   (N.lookup x).map λk=>if(k == Υ&&env.scope.kind == .function&&env.kindOf x == Δ .cell) then NameKind.cell else k
 |[]=>rfl
 | (n,k)::r=>by
  let i:=kl (env:=env) (x:=x) r;rw[a_];show List.lookup x ((if(k == Υ&&env.scope.kind == .function&&env.kindOf n == Δ .cell)=Θ then(n,NameKind.cell) else(n,k))::_)=_;by_cases h:(k == Υ&&env.scope.kind == .function&&env.kindOf n == Δ .cell)=Θ
  ·rw[e_ h,aaQ,aaQ];cases H:x == n with
   |true=>let e:x=n:=h_ H;subst e;show Δ NameKind.cell=Δ (if _ then _ else _);rw[e_ h]
   |false=>exact i
  ·rw[d_ h,aaQ,aaQ];cases H:x == n with
   |true=>let e:x=n:=h_ H;subst e;show Δ k=Δ (if _ then _ else _);rw[d_ h]
   |false=>exact i
def uq (h:∀y∈s.names,y.2=.free->∃c,env.cells.lookup y.1=Δ c) :
  ∃M,closureFor s env=pure M/\(∀x c,M.lookup x=Δ c->env.cells.lookup x=Δ c)/\∀y∈s.names,y.2=.free->∃c,M.lookup y.1=Δ c:=by
 let q:∀(n:List (Str×NameKind)) (A:List (Str×Ω)),(∀y∈n,y.2=.free->∃c,env.cells.lookup y.1=Δ c)->(∀x c,A.lookup x=Δ c->env.cells.lookup x=Δ c)->
   ∃M,(forIn n A λ(p:Str×NameKind) (r:List (Str×Ω))=>(if(p.2 == Υ)=Θ then do let a <- cellOf env p.1;pure (ForInStep.yield ((p.1,a)::r)) else pure (ForInStep.yield r):Sem (ForInStep (List (Str×Ω)))))=pure M/\(∀x c,M.lookup x=Δ c->env.cells.lookup x=Δ c)/\
    (∀y∈n,y.2=.free->∃c,M.lookup y.1=Δ c)/\∀x c,A.lookup x=Δ c->∃C,M.lookup x=Δ C:=by
  intro n
  induction n with
  |nil=>intro A _ l;exact⟨A,rfl,l,λy H=>absurd H (by simp),λx c e=>⟨c,e⟩⟩
  |cons p n I=>
   intro A v l;rw[List.forIn_cons];by_cases j:p.2=.free
   ·let⟨c,w⟩:=v p (by simp) j;let u:(p.2 == Υ)=Θ:=by rw[j];rfl
    let B:∀x C,((p.1,c)::A).lookup x=Δ C->env.cells.lookup x=Δ C:=by
     intro x C e;rw[aaQ]at e;cases b:x == p.1 with
     |true=>rw[b]at e;cases e;rw[h_ b];exact w
     |false=>rw[b]at e;exact l x C e
    let⟨M,i,g,f,E⟩:=I ((p.1,c)::A) (λy H=>v y (J_ _ H)) B;refine⟨M,?_,g,λy H k=>?_,λx C e=>?_⟩
    ·rw[e_ u];have:cellOf env p.1=pure c:=by unfold cellOf;rw[w]
     rw[this];exact i
    ·rcases k_.mp H with rfl|H
     ·exact E y.1 c (by rw[aaQ];simp)
     ·exact f y H k
    ·rcases b:x == p.1 with _|_
     ·exact E x C (by rw[aaQ,b];exact e)
     ·exact E x c (by rw[aaQ,b])
   ·let u:¬(p.2 == Υ)=Θ:=λz=>j (h_ z);let⟨M,i,g,f,E⟩:=I A (λy H=>v y (J_ _ H)) l;refine⟨M,?_,g,λy H k=>?_,E⟩
    ·rw[d_ u];exact i
    ·rcases k_.mp H with rfl|H
     ·exact absurd k j
     ·exact f y H k
 let⟨M,i,g,f,_⟩:=q s.names [] h (λx c e=>by cases e);refine⟨M,?_,g,f⟩;unfold closureFor;exact congrArg (λ(m:Sem (List (Str×Ω)))=>m >>= λr=>pure r) i
structure Pt (Z:Sg)(G:Gm)(scope:Scope)(G':Gm)(fr:Ç):Prop where
 cm:G.cm=Θ
 kind:scope.kind=.function
 tr:G'.tr=Ξ
 df:G'.df=Ξ
 kdl:G'.kd.length=G'.N.length
 Ou:∀y∈scope.names,y.2≠.cell
 loc:∀y∈scope.names,y.2=.local->scope.names.lookup y.1=Δ .local
 fre:∀y∈scope.names,y.2=.free->∃i:Nat,G.N[i]? = Δ y.1/\(G.kd[i]? = Δ .cell∨G.kd[i]? = Δ .free)
 NP:∀(j:Nat) (i:Nat),fr[j]? = Δ i->∃x,G.N[i]? = Δ x/\G'.N[j]? = Δ x/\scope.names.lookup x=Δ .free/\(G.kd[i]? = Δ .cell∨G.kd[i]? = Δ .free)/\G'.kd[j]? = Δ (if(G.kd[i]? == Δ .cell)=Θ then .cell else .free)
 X3:fr.length<=G'.N.length
 N8:∀(j:Nat) (x:Str),fr.length<=j->G'.N[j]? = Δ x->scope.names.lookup x=Δ .local/\G'.kd[j]? = Δ .local
 Rb:∀x∈G'.N,(x == ("__debug__" : Str))=Ξ/\(x == ("__classdict__" : Str))=Ξ
 Mm:G'.N.Nodup
 gl:∀n∈G'.gl,∃x,Z.name n=Δ x/\scope.names.lookup x=Δ .globalImplicit
def nL {Z:Sg}  (h:jW Z G s g fr=Θ):Pt Z G s g fr:=by
 unfold jW at h;simp only[g_]at h;let⟨⟨⟨⟨⟨⟨⟨⟨⟨⟨⟨⟨⟨E,C⟩,M⟩,B⟩,A⟩,m⟩,l⟩,k⟩,f⟩,w⟩,c⟩,Q⟩,S⟩,p⟩:=h;rw[M_]at m l k f c Q p;refine⟨E,h_ C,by simpa using M,by simpa using B,h_ A,λy H=>by simpa using m y H,λy H e=>?_,λy H e=>?_,λj i e=>?_,t_ w,λj x b e=>?_,λx r=>by simpa using Q x r,t_ S,λn hn=>?_⟩
 ·have:=l y H;rw[e]at this;simpa using this
 ·have:=k y H;rw[e]at this;simp only[bne_self_eq_false,Bool.false_or,List.any_eq_true,g_,aaf]at this;let⟨i,_,hi,v⟩:=this;exact⟨i,h_ hi,v.elim (λz=>.inl (h_ z)) λz=>.inr (h_ z)⟩
 ·let b:j < fr.length:=(v_.mp e).1;have:=f j (X_.mpr b);simp only[e,Option.bind_some,g_,aaf]at this;let⟨⟨⟨L,J⟩,I⟩,F⟩:=this;let a:=h_ L;let X:=h_ J;cases q:g.N[j]? with
  |none=>rw[q]at X;cases X
  |some x=>rw[q]at X a;exact⟨x,a.symm,rfl,X,I.elim (λz=>.inl (h_ z)) λz=>.inr (h_ z),h_ F⟩
 ·let N:j < g.N.length:=(v_.mp e).1;let u:j∈(List.range g.N.length).drop fr.length:=by rw[List.mem_drop_iff_getElem];exact⟨j - fr.length,by simp;omega,by simp;omega⟩
  have:=c j u;rw[e]at this;simp only[Option.bind_some,g_]at this;exact⟨h_ this.1,h_ this.2⟩
 ·have:=p n hn;cases q:Z.name n with
  |none=>rw[q]at this;cases this
  |some x=>rw[q]at this;exact⟨x,rfl,h_ this⟩
abbrev Qh (G:Gm)(fr:Ç):List (Str×Nat):=fr.map λi=>(G.N.getD i "",i)
def IG (s:Pt Z G S g fr):(Qh G fr).map (·.1)++g.N.drop fr.length=g.N:=by
 let e:(Qh G fr).map (·.1)=g.N.take fr.length:=by
  apply List.ext_getElem?;intro j;unfold Qh;rw[z_,D_,List.getElem?_take];cases q:fr[j]? with
  |none=>
   have:¬j < fr.length:=by intro z;rw[y_ z]at q;cases q
   rw[d_ this];rfl
  |some i=>have:j < fr.length:=(v_.mp q).1;rw[e_ this];let⟨x,H,h,_⟩:=s.NP j i q;rw[h];show Δ (G.N.getD i "")=Δ x;rw[aam,H];rfl
 rw[e,List.take_append_drop]
def kU (g:Mf Z CX cl X G)(ok:X.Ok)  (s:Pt Z G S I fr):∃M,Nr X S M (Qh G fr) (I.N.drop fr.length):=by
 let P:∀y∈S.names,y.2=.free->∃c,X.env.cells.lookup y.1=Δ c:=λy r v=>by let⟨i,e,n⟩:=s.fre y r v;let h:=g.kd i y.1 e;exact ok.has y.1 (n.elim (λz=>.inl (h.trans z)) λz=>.inr (h.trans z))
 let⟨M,C,B,E⟩:=uq P;refine⟨M,C,s.kind,s.Ou,s.loc,B,λx H=>?_,λp f=>?_⟩
 ·let b:=kl (env:=X.env) (x:=x) S.names;let N:((S.names.lookup x).map λk=>if(k == Υ&&X.env.scope.kind == .function&&X.env.kindOf x == Δ .cell)=Θ then NameKind.cell else k)=Δ .cell∨
    ((S.names.lookup x).map λk=>if(k == Υ&&X.env.scope.kind == .function&&X.env.kindOf x == Δ .cell)=Θ then NameKind.cell else k)=Δ .free:=by
   rcases H with H|H
   ·exact .inl (b.symm.trans H)
   ·exact .inr (b.symm.trans H)
  cases q:S.names.lookup x with
  |none=>rw[q]at N;rcases N with z|z<;>cases z
  |some k=>
   let l:(x,k)∈S.names:=PySem.mem_of_lookup q;let h:k=.free:=by
    rw[q]at N;rcases N with z|z
    ·let a:(if(k == Υ&&X.env.scope.kind == .function&&X.env.kindOf x == Δ .cell)=Θ then NameKind.cell else k)=.cell:=H_ z;split at a
     ·rename_i m
      simp only[g_]at m;exact h_ m.1.1
     ·exact absurd a (s.Ou _ l)
    ·let a:(if(k == Υ&&X.env.scope.kind == .function&&X.env.kindOf x == Δ .cell)=Θ then NameKind.cell else k)=.free:=H_ z;split at a
     ·cases a
     ·exact a
   exact E (x,k) l h
 ·unfold Qh at f;rw[List.mem_map]at f;let⟨i,hi,rfl⟩:=f;let⟨j,u⟩:=List.getElem?_of_mem hi;let⟨x,e,n,A,w,J⟩:=s.NP j i u;let hn:G.N.getD i "" = x:=by rw[aam,e];rfl
  show X.N[i]? = Δ (G.N.getD i "")/\_;rw[hn];let h:=g.kd i x e;refine⟨by rw[g.N];exact e,w.elim (λz=>.inl (h.trans z)) λz=>.inr (h.trans z),?_⟩;let b:=kl (env:=X.env) (x:=x) S.names;rw[A]at b;let F:(relabel S X.env).names.lookup x=Δ (if(Υ == Υ&&X.env.scope.kind == .function&&X.env.kindOf x == Δ .cell)=Θ then NameKind.cell else Υ):=b;rw[F];split
  ·exact .inl rfl
  ·exact .inr rfl
def jj {Z:Sg}{CX:PK}{cl:Ä}{X:Cx}{G:Gm}(g:Mf Z CX cl X G){S:Scope}{l:Gm}{fr:Ç}(s:Pt Z G S l fr)(M:List (Str×Ω))(C:Ω)(m:Α)(w:Hp)(F:Ì) :
  Mf Z CX cl (PN X S M ((Qh G fr).map (·.1)++l.N.drop fr.length) C m w F) l where
 N:=IG s
 Mm:=s.Mm
 calm:=λ_=>g.calm s.cm
 fk:=s.kind
 un:=g.un
 own:=λ_=>PassesOwn.never
 kd:=λj x a=>by
  show(relabel S X.env).names.lookup x=_;let b:=kl (env:=X.env) (x:=x) S.names;by_cases r:j < fr.length
  ·let⟨y,i,c,v,E,u⟩:=s.NP j fr[j] (by simp[r]);rw[a]at c;cases c;rw[v]at b;rw[u];refine b.trans ?_;let q:=g.kd fr[j] x i;show Δ (if(Υ == Υ&&X.env.scope.kind == .function&&X.env.kindOf x == Δ .cell)=Θ then NameKind.cell else Υ)=_;rw[q,g.fk];rfl
  ·let⟨i,c⟩:=s.N8 j x ⋯ a;rw[i]at b;rw[c];exact b
 Rb:=λj x a=>s.Rb x (Z_ a)
 gl:=λn hn x e=>by let⟨y,i,c⟩:=s.gl n hn;rw[e]at i;cases i;show(relabel S X.env).names.lookup x=_;let b:=kl (env:=X.env) (x:=x) S.names;rw[c]at b;exact b
 SQ:=g.SQ
 df:=λz=>by rw[s.df]at z;cases z
 blt:=g.blt
 cst:=g.cst
 fns:=λf k _ x a=>g.fns f k (.inl s.cm) x a
 Nk:=λf k _ x a=>g.Nk f k s.cm x a
 Wh:=⟨λ_ _ _=>False,λp A H s e B _ h=>(g.X1 _ _ _ _ _ h).elim⟩
 Q7:=g.Q7
 X1:=g.X1
section
variable {K:Frag}{S:Å}{H:Hp}{g:St}{f:Ev}{cl:Ä}{G c:Gm}{fr:Ç}
abbrev Pu (c:Gm)(fr:Ç)(f:Ev):Ev:=fr.map (ic f)++Τ (c.N.length - fr.length) Φ
def CG (h:fr.length<=c.N.length):(Pu c fr f).length=c.N.length:=by unfold Pu;rw[q_,i_,List.length_replicate];omega
def CH (Tg:Æ)(g:St):(stC (Qh G fr) Tg g).length=fr.length+Tg.length:=by unfold stC Qh;rw[q_,i_,i_,List.length_replicate]
def zx (h:ic (Pu c fr f) j=Δ d):∃i,fr[j]? = Δ i/\ic f i=Δ d:=by
 unfold ic Pu at h;by_cases a:j < fr.length
 ·rw[aaH (by simpa using a),D_,y_ a]at h;exact⟨fr[j],by simp[a],h⟩
 ·rw[aaS (by simpa using a),List.getElem?_replicate]at h;split at h<;>cases h
def CI (b:fr.length<=c.N.length)(hs:Slots K S H g f (fr++vs))(hn:L.length=c.N.length)(M:∀j,j < fr.length->L[j]? = (stC (Qh G fr) (c.N.drop fr.length) g)[j]?):Va K S H L (Pu c fr f):=by refine⟨by rw[CG b,hn],λj d h=>?_⟩;let⟨i,hi,hd⟩:=zx h;let a:j < fr.length:=(v_.mp hi).1;let⟨v,k,e⟩:=hs i (u_ _ (Z_ hi)) d hd;refine⟨v,?_,e⟩;rw[M j a];unfold stC Qh;rw[aaH (by simpa using a),D_,D_,hi];show Δ ((g[i]?).join)=Δ (Δ v);rw[k];rfl
abbrev iP (cl:Ä)(T:Tg)(I:Ë)(E:IR)(a:Ev)(x:D):Res (Ã):=KZ (ju T x a) λQ=>KZ (kE cl I Q) λr=>if r=Θ then KZ (K8 cl E Q) λd=>.ok (Δ d) else .ok Φ
def kW {vs:Ç}{fs:Ev->Res (Î)}{T:Tg}{I:Ë}{E:IR}{Kt:D->Prop}{Q:VK}(hl:fr.length<=c.N.length)(ha:∀i∈N8 T,fr.length<=i)(hs:Slots K S H g f (fr++vs))
  (q:K5 (KZ (fs f) λits=>LK (jf its.length) (KZ ((iD (iP cl T I E (Pu c fr f)) its)) λn=>.ok (.l Θ n))) Kt)
  (fin:∀A ys n H',ir H H'->H A=Φ->H' A=Δ (.l ys)->K4 K (λa=>nw S H a/\a≠A) H' ys n->Kt (.l Θ n)->Q (.r A) H') :
  yb (RI K vs fs) (stC (Qh G fr) (c.N.drop fr.length)) (gT K T) (RT K (ij I) (kE cl I)) (RD K (vars E) (K8 cl E)) g H Q:=by
 refine FQ (.refl _) hs.right (K5.KZ q) λits J H1 Y _ w1 q1 A U=>?_;let⟨gd,q1⟩:=K5.LK q1;let q2:=K5.KZ q1;let hsz:=kx gd;let hHA:H A=Φ:=Y.free U
 -- Zd is read aab apart from Te new list
 let OS:∀a,nw S H a->H1 a≠Φ->nw S H a/\a≠A:=λa L F=>⟨L,λz=>F (by rw[z];exact U)⟩
 let w2:NN K (λa=>nw S H a/\a≠A) H1 J its:=w1.step (λa X h r=>⟨OS a h r.some,r⟩) λa X h=>h;let Oe:Slots K (λa=>nw S H a/\a≠A) H1 g f (fr++vs):=λi hi d z=>by let⟨v,L,F⟩:=(hs.go Y) i hi d z;exact⟨v,L,F.step (λa X h r=>⟨OS a h r.some,r⟩) λa X h=>h⟩
 refine⟨λi m LW H'=>m=its.length - i/\i<=its.length/\∃ys k,H' A=Δ (.l ys)/\K4 K (λa=>nw S H a/\a≠A) H' ys k/\ys.length<=i/\ir H1 H'/\LW.length=c.N.length/\
   (∀j,j < fr.length->LW[j]? = (stC (Qh G fr) (c.N.drop fr.length) g)[j]?)/\K5 (iD (iP cl T I E (Pu c fr f)) (its.drop i)) λn=>Kt (.l Θ (k++n)),⟨its.length,by simp,aaa _,[],[],iq,.nil,o_ _,.upd U,?_,λ_ _=>rfl,?_⟩,?_⟩
 ·rw[CH,aas];omega
 ·rw[List.drop_zero];exact q2.mono λn z=>z.ok
 ·rintro i m LW H' ⟨rfl,hi,ys,k,s,M,ly,p,hn,MC,R⟩;by_cases N:i < its.length
  ·refine .inr ⟨(w2.mono (λ_ z=>z) p).go N,λx H2 hy2=>?_⟩;let⟨eH,mx⟩:=(w2.mono (λ_ z=>z) p).Q3 hy2 (d:=its[i]) (by simp[N]);let s:=eH _ _ s;let M:=M.mono (λ_ z=>z) eH;let p:=p.trans eH;let hd:its.drop i=its[i]::its.drop (i+1):=List.drop_eq_getElem_cons N;rw[hd]at R;let P:=K5.KZ R;let q5:K5 (ju T its[i] (Pu c fr f)) _:=K5.KZ P
   let sl:Va K (λa=>nw S H a/\a≠A) H2 LW (Pu c fr f):=CI (G:=G) (vs:=vs) (g:=g) hl (λi hi d z=>by
    let⟨v,L,F⟩:=Oe i hi d z
    exact⟨v,L,F.mono (λ_ z=>z) p⟩) hn MC
   refine vA T sl mx q5 λτ' OL sl2 Nz hk q6=>?_;let XH:OL.length=c.N.length:=Nz.trans hn;let QR:∀j,j < fr.length->OL[j]? = (stC (Qh G fr) (c.N.drop fr.length) g)[j]?:=λj hj=>by rw[hk j (λz=>by have:=ha j z;omega)];exact MC j hj
   let w:∀is,Slots K (λa=>nw S H a/\a≠A) H2 OL τ' is:=λis i _ d z=>sl2.2 i d z;refine lD (.refl _) (w _) (K5.KZ q6) λr H4 W _ O=>?_
   cases r using zB with
   |false=>rw[d_ p_]at O ⊢;let q8:K5 (iD (iP cl T I E (Pu c fr f)) (its.drop (i+1))) λn=>Kt (.l Θ (k++n)):=O;refine⟨its.length - (i+1),⋯,rfl,N,ys,k,W _ _ s,M.mono (λ_ z=>z) W,⋯,p.trans W,XH,QR,q8⟩
   |true=>
    rw[e_ rfl]at O ⊢;refine iK W (w _) (K5.KZ O) λd v u e5 e5' m5 q8=>?_;let q9:K5 (KZ (iD (iP cl T I E (Pu c fr f)) (its.drop (i+1))) λr=>.ok (d::r)) λn=>Kt (.l Θ (k++n)):=q8;let UX:=K5.KZ q9;let y:u A=Δ (.l ys):=e5 _ _ s;refine⟨ys,y,⋯,its.length - (i+1),⋯,rfl,N,ys++[v],k++[d],iq,?_,by rw[q_,V_];omega,?_,XH,QR,?_⟩
    ·let C:∀a (X:LD),(nw S H a/\a≠A)->Rd u a X.o->(nw S H a/\a≠A)/\Rd (upd u A (.l (ys++[v]))) a X.o:=λa X h r=>by refine⟨h,?_⟩;unfold Rd;rw[ik h.2];exact r
     let B:∀a X,Md K u a X->Md K (upd u A (.l (ys++[v]))) a X:=λa X h=>h.upd y
     let m6:K6 K (λa=>nw S H a/\a≠A) u v d:=m5.step (λa X h r=>⟨by
      rcases h with h|h
      ·exact h
      ·have:H a=Φ:=Y.free (p.free h)
       exact⟨.inr this,λz=>by rw[z,s]at h;cases h⟩,r⟩) λa X h=>h
     exact(((M.mono (λ_ z=>z) e5).step C B)).append (.cons (m6.step C B) .nil)
    ·exact λb o hb=>by
      have:b≠A:=by rintro rfl;rw[U]at hb;cases hb
      rw[ik this];exact e5 _ _ (p _ _ hb)
    ·refine UX.mono λn z=>?_;let z':=z.ok;rw[G_];exact z'
  ·let e:i=its.length:=⋯
   subst e;refine .inl ⟨(w2.mono (λ_ z=>z) p).stop rfl,?_⟩;rw[List.drop_length]at R;let P:=R.ok;rw[Y_]at P;exact fin A ys k H' (Y.trans p) hHA s M P
end
def oJ {T:Tg}  : K8 cl (.d G fr T s I E)=λa=>KZ (jY cl s a) λits=>LK (jf its.length) (KZ ((iD (iP cl T I E (Pu G fr a)) its)) λb=>.ok (.l Θ b)):=rfl
def FU (g:Mf Z CX cl X G)  {T:Tg}  (hs:Pt Z G a n fr)(J:jM n T l=Θ)(F:∀i∈N8 T,fr.length<=i)
  (hi:PI X l iter (RI X.K (j6 s) (jY cl s))) (w:∀b,Mf Z CX cl b n->RC b c (RT b.K (ij I) (kE cl I))) (B:∀b,Mf Z CX cl b n->PE b j (RD b.K (vars E) (K8 cl E)))
  (y:∀x,foldedSetIterable iter X.env x=pure x):PE X (.ListComp j [⟨l,iter,c,0⟩] a pos) (RD X.K (fr++j6 s) (K8 cl (.d n fr T s I E))):=by
 intro P v u H Q r h;let⟨M,S⟩:=kU g r.ok hs;let p:=qj (pos:=pos) (E:=j) (i:=c) (j:=l) (g:=gT X.K T) (k:=RT X.K (ij I) (kE cl I)) (l:=RD X.K (vars E) (K8 cl E)) (g.calm hs.cm) S hi (λC s H f=>SR (jj g hs M C s H f) T l J) (λC s H f=>w _ (jj g hs M C s H f)) (λC s H f=>B _ (jj g hs M C s H f)) y;refine p P v u H Q r ?_;let⟨S0,U,O,q⟩:=h;rw[oJ]at q;exact kW hs.X3 F O q λA Y W H' e N R m k=>k _ _ e (.L (.inr N) (.inl R) (m.mono (λ_ z=>z.1) (.refl _)))
section
variable {Z:Sg}{CX:PK}{cl:Ä}
def xu (h:LV Z G a e=Θ)(env:Env)(x:Ψ):foldedSetIterable e env x=pure x:=by
 induction e using zE<;>first|rfl|(induction a using zI<;>cases h)
def jE (h:kM Z G a e=Θ)(env:Env)(x:Ψ):foldedSetIterable e env x=pure x:=by
 cases a with
 |v a=>exact xu (show LV Z G a e=Θ from h) env x
 |_=>induction e using zE<;>first|rfl|cases h
def both (h:PE X e (RD X.K is f))(H:∀w,isTrue e X.env w=(do let v <- w;standAt e.pos;holding [v] (truthy v)):=by intro _;rfl) :
  PE X e (RD X.K is f)/\PT X e (RT X.K is λa=>KZ (f a) iN):=⟨h,Ih h H⟩
mutual
theorem snd:∀(a:IR) (X:Cx) (G:Gm) (e:Expr),Mf Z CX cl X G->LV Z G a e=Θ->PE X e (RD X.K (vars a) (K8 cl a))/\PT X e (RT X.K (vars a) λτ=>KZ (K8 cl a τ) iN)
 |.c d,X,G,e,g,h=>by let⟨k,j,pos,rfl,H⟩:=FF h;exact both (s_c H)
 |.g n d,X,G,e,g,h=>by let⟨x,pos,rfl,H⟩:=ji h;rw[g_]at H;exact both (s_g g H.1 H.2)
 |.v i,X,G,e,g,h=>by let⟨x,pos,rfl,H⟩:=ji h;exact both (s_v g H)
 |.b op a b,X,G,e,g,h=>by let⟨l,o,r,pos,rfl,H⟩:=um h;simp only[g_]at H;let E:o=U5 op:=h_ H.1.1;subst E;exact both (Ii (snd a X G l g H.1.2).1 (snd b X G r g H.2).1)
 |.n a,X,G,e,g,h=>by let⟨o,l,pos,rfl,H⟩:=zk h;rw[g_]at H;let E:o=.USub:=h_ H.1;subst E;exact both (Ij (snd a X G l g H.2).1)
 |.a op a b,X,G,e,g,h=>by let⟨l,o,r,pos,rfl,H⟩:=ze h;simp only[g_]at H;let E:o=OH op:=h_ H.1.1.1;subst E;exact Ik g (snd a X G l g H.1.1.2).1 (snd b X G r g H.1.2).1 (by simpa using H.2)
 |.e op MT a b c,X,G,e,g,h=>by let⟨l,os,rs,pos,rfl,H⟩:=zg h;let⟨z,w⟩:=l_.mp H;let E:os=[OH op,OH MT]:=h_ z;subst E;let⟨m,r,rfl,h4⟩:=oC w;simp only[g_]at h4;exact CF g (snd a X G l g h4.1.1.1).1 (snd b X G m g h4.1.1.2).1 (snd c X G r g h4.1.2).1 (by simpa using h4.2)
 |.M a b,X,G,e,g,h=>by
  let⟨o,L,pos,rfl,H⟩:=zh h;let⟨z,w⟩:=l_.mp H;let E:o=.And:=h_ z;subst E;let⟨l,l',r,rfl,ha,hb⟩:=sh w;let⟨U,R⟩:=snd a X G l g ha;let⟨pb,tb⟩:=snd b X G _ g hb
  cases r using zL with
  |nil=>exact⟨DR U (xI pb),DS R (BO tb)⟩
  |cons r' r=>exact⟨DR U pb,DS R (zu (e:=l) tb)⟩
 |.O a b,X,G,e,g,h=>by
  let⟨o,L,pos,rfl,H⟩:=zh h;let⟨z,w⟩:=l_.mp H;let E:o=.Or:=h_ z;subst E;let⟨l,l',r,rfl,ha,hb⟩:=sh w;let⟨U,R⟩:=snd a X G l g ha;let⟨pb,tb⟩:=snd b X G _ g hb
  cases r using zL with
  |nil=>exact⟨Il U (xI pb),Io R (EH tb)⟩
  |cons r' r=>exact⟨Il U pb,Io R (zu (e:=l) tb)⟩
 |.f a,X,G,e,g,h=>by let⟨o,l,pos,rfl,H⟩:=zk h;let⟨z,w⟩:=l_.mp H;let E:o=.Not:=h_ z;subst E;let⟨U,R⟩:=snd a X G l g w;exact Im U R
 |.I t a b,X,G,e,g,h=>by let⟨c,x,y,pos,rfl,H⟩:=zl h;simp only[g_]at H;let⟨U,R⟩:=snd a X G x g H.1.2;let⟨pb,tb⟩:=snd b X G y g H.2;exact Ip (snd t X G c g H.1.1).2 U pb R tb
 |.t L,X,G,e,g,h=>by let⟨l,n,pos,rfl,H⟩:=zq h;exact both (Iq (sC L X G l g H))
 |.l L,X,G,e,g,h=>by let⟨l,pos,rfl,H⟩:=qD h;exact both (Ir (sC L X G l g H))
 |.i a i,X,G,e,g,h=>by let⟨o,s,pos,rfl,H⟩:=l5 h;simp only[g_]at H;exact both (Iu (snd a X G o g H.1.2).1 (snd i X G s g H.2).1 H.1.1)
 |.S a lo hi,X,G,e,g,h=>by let⟨o,s,pos,rfl,H⟩:=l5 h;let⟨l,u,st,p,rfl,z⟩:=zm H;simp only[g_]at z;let E:st=Φ:=Option.isNone_iff_eq_none.mp z.1;subst E;exact both (Kp (snd a X G o g z.2.1.1).1 (CJ lo X G l g z.2.1.2) (CJ hi X G u g z.2.2))
 |.C f L,X,G,e,g,h=>by let⟨x,p,A,pos,rfl,H⟩:=jD h;simp only[g_]at H;exact both (s_call g H.1.1 H.1.2 H.2 (sC L X G A g H.2))
 |.B f L,X,G,e,g,h=>by
  let⟨x,p,A,pos,rfl,H⟩:=jD h;let⟨z,w⟩:=l_.mp H;simp only[g_]at z;let E:x=lX f:=h_ z.1.1;subst E
  cases A using zL with
  |nil=>exact iF w
  |cons a A=>exact both (Kr g z.1.2 z.2 (sC L X G _ g z.2))
 |.N a k,X,G,e,g,h=>by let⟨x,p,A,pos,rfl,H⟩:=jD h;let⟨o,y,rfl,z⟩:=oC H;let⟨y,p',rfl,w⟩:=ji z;simp only[g_]at w;let E:x = "isinstance":=h_ w.1.1.1.1.1;let W:y=mW k:=h_ w.1.1.1.2;subst E W;exact both (Iw g w.1.1.1.1.2 w.1.1.2 w.1.2 (snd a X G o g w.2).1)
 |.P m o L,X,G,e,g,h=>by
  let⟨f,A,pos,rfl,H⟩:=jX h;let⟨oe,name,apos,rfl,z⟩:=mZ H;let⟨w,h4⟩:=l_.mp z;simp only[g_]at w;let E:name=qy m:=h_ w.1.1.1.1.1;subst E
  cases A using zL with
  |nil=>exact iF h4
  |cons a A=>exact both (Iy g w.1.1.1.1.2 w.1.1.1.2 (t_ w.1.1.2) w.2 (snd o X G oe g w.1.2).1 (sC L X G _ g w.2))
 |.j a,X,G,e,g,h=>by let h:SN e (λx y e=>x == "list"&&G.N7 5&&y == "range"&&G.gl.contains 15&&notStar e&&LV Z G a e)=Θ:=h;let⟨x,p,y,p',F,Y,pos,rfl,h⟩:=qC h;let h:(x == "list"&&G.N7 5&&y == "range"&&G.gl.contains 15&&notStar F&&LV Z G a F)=Θ:=h;simp only[g_]at h;let E:x = "list":=h_ h.1.1.1.1.1;let W:y = "range":=h_ h.1.1.1.2;subst E W;exact both (FN g h.1.1.1.1.2 h.1.1.2 h.1.2 (snd a X G F g h.2).1)
 |.h a,X,G,e,g,h=>by let h:SN e (λx y e=>x == "list"&&G.N7 5&&y == "reversed"&&G.gl.contains 18&&notStar e&&LV Z G a e)=Θ:=h;let⟨x,p,y,p',F,Y,pos,rfl,h⟩:=qC h;let h:(x == "list"&&G.N7 5&&y == "reversed"&&G.gl.contains 18&&notStar F&&LV Z G a F)=Θ:=h;simp only[g_]at h;let E:x = "list":=h_ h.1.1.1.1.1;let W:y = "reversed":=h_ h.1.1.1.2;subst E W;exact both (FI g h.1.1.1.1.2 h.1.1.2 h.1.2 (snd a X G F g h.2).1)
 |.k a b,X,G,e,g,h=>by let h:Z3 e (λx y e F=>x == "list"&&G.N7 5&&y == "zip"&&G.gl.contains 17&&(notStar e&&notStar F)&&LV Z G a e&&LV Z G b F)=Θ:=h;let⟨x,p,y,p',ea,eb,Y,pos,rfl,J⟩:=FC h;simp only[g_]at J;let⟨⟨⟨⟨⟨⟨hx,h5⟩,hy⟩,h17⟩,hn,Nz⟩,ha⟩,hb⟩:=J;let E:x = "list":=h_ hx;let W:y = "zip":=h_ hy;subst E W;exact both (FO g h5 h17 hn Nz (snd a X G ea g ha).1 (snd b X G eb g hb).1)
 |.o,X,G,e,g,h=>by let h:SM e=Θ:=h;let⟨pos,rfl⟩:=uk h;exact both FJ
 |.m a k,X,G,e,g,h=>by let h:XX e (λo s=>iW s&&LV Z G a o&&LV Z G k s)=Θ:=h;let⟨o,s,pos,rfl,Q⟩:=FA h;simp only[g_]at Q;exact both (FK g (snd a X G o g Q.1.2).1 (snd k X G s g Q.2).1 Q.1.1)
 |.T n k a,X,G,e,g,h=>by let h:Wc e (λl o r=>o == xr n&&LV Z G k l&&LV Z G a r&&!behindInMarks o r)=Θ:=h;let⟨l,o,r,pos,rfl,q3⟩:=ze h;simp only[g_]at q3;let E:o=xr n:=h_ q3.1.1.1;subst E;exact Iz g (snd k X G l g q3.1.1.2).1 (snd a X G r g q3.1.2).1 (by simpa using q3.2)
 |.s a,X,G,e,g,h=>by let h:SN e (λx y e=>x == "sorted"&&G.gl.contains 4&&y == "set"&&G.gl.contains 12&&(notStar e&&G.cm)&&LV Z G a e)=Θ:=h;let⟨x,p,y,p',F,q',q,rfl,h⟩:=qC h;let h:(x == "sorted"&&G.gl.contains 4&&y == "set"&&G.gl.contains 12&&(notStar F&&G.cm)&&LV Z G a F)=Θ:=h;simp only[g_]at h;let E:x = "sorted":=h_ h.1.1.1.1.1;let W:y = "set":=h_ h.1.1.1.2;subst E W;exact both (FH g h.1.1.1.1.2 h.1.1.2 h.1.2.1 h.1.2.2 (snd a X G F g h.2).1)
 |.p a b,X,G,e,g,h=>by let h:XY e (λo y l s=>y == "index"&&isNm o&&l&&notStar s&&LV Z G a o&&LV Z G b s)=Θ:=h;let⟨o,y,apos,s,LY,rfl,Q⟩:=FE h;simp only[g_]at Q;let E:y = "index":=h_ Q.1.1.1.1.1;subst E;exact both (FL g Q.1.1.1.1.2 Q.1.1.1.2 Q.1.1.2 (snd a X G o g Q.1.2).1 (snd b X G s g Q.2).1)
 |.d G' fr tg src ifs elt,X,G,e,g,h=>by
  let⟨el,gens,scope,pos,rfl,h⟩:=zo h;let⟨t,it,fs,rfl,h⟩:=nH h;let J:(jW Z G scope G' fr&&jM G' tg t&&(N8 tg).all (λi=>decide (fr.length<=i))&&(kM Z G src it&&qB src t)&&iX Z G' ifs fs&&LV Z G' elt el)=Θ:=h;simp only[g_]at J
  exact both (FU g (nL J.1.1.1.1.1) J.1.1.1.1.2 (λi hi=>t_ (M_.mp J.1.1.1.2 i hi)) (zC src X G it t g J.1.1.2.1 J.1.1.2.2)
   (λX' g'=>zA ifs X' G' fs g' J.1.2) (λX' g'=>(snd elt X' G' el g' J.2).1) (λx=>jE J.1.1.2.1 X.env x))
theorem sC:∀(as:Ë) (X:Cx) (G:Gm) (l:Á),Mf Z CX cl X G->iX Z G as l=Θ->PA X l (RA X.K (ij as) (iJ cl as))
 |[],X,G,l,g,h=>by
  cases l using zL with
  |nil=>exact qg iZ λi H Q ⟨S,f,c,q⟩=>q.ok _ _ (.refl _) .nil
  |cons _ _=>exists h
 |a::as,X,G,l,g,h=>by
  cases l using zL with
  |nil=>exists h
  |cons e l=>let b:(notStar e&&LV Z G a e&&iX Z G as l)=Θ:=h;simp only[g_]at b;refine qg (iH (snd a X G e g b.1.2).1 (sC as X G l g b.2) (fS b.1.1 _ _)) λi H Q L=>?_;let⟨S,f,c,q⟩:=L;refine iK (.refl _) c.left (K5.KZ q) λx v u n _ M k=>?_;refine sr n c.right (K5.KZ k) λr vs s E p m j=>?_;exact j.ok _ _ E (.cons (M.later p) m)
theorem CJ:∀(o:Option IR) (X:Cx) (G:Gm) (e:Option Expr),Mf Z CX cl X G->FG Z G o e=Θ->PO X e (U8 X.K (yM o) (qv cl o))
 |none,X,G,e,g,h=>by
  cases e using zO with
  |none=>intro p s b H Q I L;let⟨S,j,f,q⟩:=L;exact BY p s b H Q I (q.ok H (.refl _))
  |some _=>exists h
 |some a,X,G,e,g,h=>by
  cases e using zO with
  |none=>exists h
  |some e=>
   intro p s b H Q I L;let⟨S,j,f,q⟩:=L;refine BZ (snd a X G e g h).1 p s b H Q I ?_;refine iK (.refl _) f (K5.KZ q) λx v k E _ m c=>?_
   cases x using zD with
   |i i=>cases m.L5;exact⟨i,rfl,c.ok _ E⟩
   |_=>exact c.no.elim
theorem zA:∀(as:Ë) (X:Cx) (G:Gm) (l:Á),Mf Z CX cl X G->iX Z G as l=Θ->RC X l (RT X.K (ij as) (kE cl as))
 |[],X,G,l,g,h=>by
  cases l using zL with
  |nil=>intro p s c H Q I ⟨S,j,f,q⟩;exact B4 p s c H Q I (q.ok H (.refl _))
  |cons _ _=>exists h
 |a::as,X,G,l,g,h=>by
  cases l using zL with
  |nil=>exists h
  |cons e l=>
   let i:(notStar e&&LV Z G a e&&iX Z G as l)=Θ:=h;simp only[g_]at i;intro p s c H Q I L;let⟨S,j,f,q⟩:=L;refine ya (snd a X G e g i.1.2).2 (zA as X G l g i.2) p s c H Q I ?_;refine lD (.refl _) f.left (K5.KZ q) λr u E _ k=>?_
   cases r using zB with
   |true=>rw[e_ rfl]at k ⊢;exact lD E f.right k λb n m _ z=>z n m
   |false=>rw[d_ p_]at k ⊢;exact k.ok u E
theorem zC:∀(s:Sr) (X:Cx) (G:Gm) (e c:Expr),Mf Z CX cl X G->kM Z G s e=Θ->qB s c=Θ->PI X c e (RI X.K (j6 s) (jY cl s))
 |.M n,X,G,e,c,g,h,f=>by let⟨x,p,A,pos,rfl,i⟩:=jD h;let⟨k,rfl,H⟩:=i5 i;simp only[g_]at H;let E:x = "range":=h_ H.1.1.1;subst E;exact FT g H.1.1.2 H.1.2 (snd n X G k g H.2).1
 |.v a,X,G,e,c,g,h,f=>IC (snd a X G e g h).1
 |.N a,X,G,e,c,g,h,f=>by
  cases c using zE with
  |Tuple j q m=>let⟨x,p,A,pos,rfl,i⟩:=jD h;let⟨k,rfl,H⟩:=i5 i;simp only[g_]at H;let E:x = "enumerate":=h_ H.1.1.1;subst E;exact IF g H.1.1.2 H.1.2 (snd a X G k g H.2).1
  |_=>exact iF f
 |.z a b,X,G,e,c,g,h,f=>by
  cases c using zE with
  |Tuple j q m=>let⟨x,p,A,pos,rfl,i⟩:=jD h;let⟨l,r,rfl,H⟩:=oC i;simp only[g_]at H;let E:x = "zip":=h_ H.1.1.1.1.1;subst E;exact IE g H.1.1.1.1.2 H.1.1.1.2 H.1.1.2 (snd a X G l g H.1.2).1 (snd b X G r g H.2).1
  |_=>exact iF f
end
end
inductive Mc (K:Frag)(F:Å)(H:Hp):St->Ev->Ì->Prop where
 | nil:Mc K F H [] [] []
 | none {o:Option V}{σ:St}{τ:Ev}{f:Ì}:Mc K F H σ τ f->Mc K F H (o::σ) (.none::τ) f
 | some {v:V}{d:D}{f:Ì}{σ:St}{τ:Ev}{g:Ì}:LS K F H v d f->Mc K F H σ τ g->Mc K F H (.some v::σ) (.some d::τ) (f++g)
section
variable {K:Frag}{F l:Å}{H H':Hp}{p:St}{j:Ev}{f:Ì}
theorem Mc.len:∀ {p:St}{j:Ev}{f:Ì},Mc K F H p j f->p.length=j.length
 |_,_,_,.nil=>rfl
 |_,_,_,.none h=>by rw[List.length_cons,List.length_cons,Mc.len h]
 |_,_,_,.some _ h=>by rw[List.length_cons,List.length_cons,Mc.len h]
theorem Mc.step (c:∀a (u:LD),F a->Rd H a u.o->l a/\Rd H' a u.o)(b:∀a x,Md K H a x->Md K H' a x):∀ {p:St}{j:Ev}{f:Ì},(∀a∈f,¬F a->H a≠Option.none->¬l a/\H' a=H a)->Mc K F H p j f->Mc K l H' p j f
 |_,_,_,_,.nil=>.nil
 |_,_,_,k,.none h=>.none (Mc.step c b k h)
 |_,_,_,k,.some m h=>.some (m.step c b λa e=>k a (u_ _ e)) (Mc.step c b (λa e=>k a (x_ _ e)) h)
theorem Mc.own:∀ {p:St}{j:Ev}{f:Ì},Mc K F H p j f->∀a∈f,¬F a/\∃u,H a=.some u
 |_,_,_,.nil=>λ_ h=>absurd h (by simp)
 |_,_,_,.none h=>Mc.own h
 |_,_,_,.some m h=>λa b=>by
  rcases w_.mp b with b|b
  ·exact m.own a b
  ·exact Mc.own h a b
def jo {o:Ã}  : ic (o::j) (i+1)=ic j i:=by unfold ic;simp
def jF {o:Ã}  : ic (o::j) 0=o:=by unfold ic;simp
theorem Mc.at:∀ {p:St}{j:Ev}{f:Ì}{i:Nat}{d:D},Mc K F H p j f->ic j i=.some d->∃v fv g,p[i]? = .some (.some v)/\LS K F H v d fv/\Mc K F H p (j.set i .none) g/\f.Perm (fv++g)
 |_,_,_,i,d,.nil,h=>by simp[ic]at h
 |_,_,_,0,d,.none _,h=>by rw[jF]at h;cases h
 |_,_,_,0,d,.some m a,h=>by rw[jF]at h;cases h;exact⟨_,_,_,rfl,m,.none a,.refl _⟩
 |_,_,_,i+1,d,.none a,h=>by rw[jo]at h;let⟨v,fv,g,k,e,c,b⟩:=Mc.at a h;exact⟨v,fv,g,by simpa using k,e,.none c,b⟩
 |_,_,_,i+1,d,.some (f:=n) m a,h=>by rw[jo]at h;let⟨v,fv,g,k,e,c,b⟩:=Mc.at a h;refine⟨v,fv,n++g,by simpa using k,e,.some m c,?_⟩;refine(aaM n b).trans ?_;rw[<- G_,<- G_];exact List.Perm.append_right g aaN
theorem Mc.put:∀ {p:St}{j:Ev}{f:Ì} (i:Nat) {v:V}{d:D}{fv:Ì},Mc K F H p j f->LS K F H v d fv->∃g h,Mc K F H (p.set i (.some v)) (j.set i (.some d)) g/\(g++h).Perm (fv++f)
 |_,_,_,i,v,d,fv,.nil,m=>⟨[],_,.nil,.refl _⟩
 |_,_,_,0,v,d,fv,.none h,m=>⟨_,[],.some m h,by rw[Y_]⟩
 |_,_,_,0,v,d,fv,.some (f:=a) (g:=G) M h,m=>⟨_,a,.some m h,by rw[G_];exact aaM _ aaN⟩
 |_,_,_,i+1,v,d,fv,.none h,m=>by let⟨g,e,c,b⟩:=Mc.put i h m;exact⟨g,e,.none c,b⟩
 |_,_,_,i+1,v,d,fv,.some (f:=a) (g:=G) M h,m=>by let⟨g,e,c,b⟩:=Mc.put i h m;refine⟨a++g,e,.some M c,?_⟩;rw[G_];refine(aaM a b).trans ?_;rw[<- G_,<- G_];exact List.Perm.append_right G aaN
def Mc.slots (h:Mc K F H p j f)(e:∀a,F a->S a)(b:∀a∈f,S a):Slots K S H p j is:=λi hi d z=>by let⟨v,r,g,n,m,q,k⟩:=h.at z;exact⟨v,n,m.read e λa c=>b a (k.mem_iff.mpr (u_ _ c))⟩
theorem Mc.freeze (is:Ç):∀ {p:St}{j:Ev}{f:Ì} (k:Nat),Mc K F H p j f->∃fi g,f.Perm (fi++g)/\(∀l:Å,(∀a,F a->l a)->(∀a∈fi,l a)->(∀a∈g,¬F a->¬l a)->Mc K l H p (mU is k j) g)/\
  ∀l:Å,(∀a,F a->l a)->(∀a∈fi,l a)->∀i,is.contains (k+i)=Θ->∀d,ic j i=.some d->∃v,p[i]? = .some (.some v)/\K6 K l H v d
 |_,_,_,k,.nil=>⟨[],[],.refl _,λ_ _ _ _=>.nil,λ_ _ _ i _ d z=>by simp[ic]at z⟩
 |_,_,_,k,.none h=>by
  let⟨fi,g,A,y,w⟩:=Mc.freeze is (k+1) h;refine⟨fi,g,A,λl a b c=>?_,λl a b i hi d z=>?_⟩
  ·unfold mU;let e:(if is.contains k=Θ then Option.map er (Option.none:Ã) else Option.none)=Option.none:=by split<;>rfl
   rw[e];exact .none (y l a b c)
  ·cases i with
   |zero=>rw[jF]at z;cases z
   |succ i=>rw[jo]at z;let⟨v,u,Q⟩:=w l a b i (by rw[show k+1+i=k+(i+1) by omega];exact hi) d z;exact⟨v,by simpa using u,Q⟩
 |_,_,_,k,.some (v:=v) (d:=E) (f:=C) (g:=G) m h=>by
  let⟨fi,g,A,y,w⟩:=Mc.freeze is (k+1) h;by_cases B:is.contains k=Θ
  ·refine⟨C++fi,g,by rw[G_];exact aaM _ A,λl a b c=>?_,λl a b i hi d z=>?_⟩
   ·unfold mU;rw[e_ B];exact .some (f:=[]) ((m.read a λx s=>b x (u_ _ s)).frozen) (y l a (λx s=>b x (x_ _ s)) c)
   ·cases i with
    |zero=>rw[jF]at z;cases z;exact⟨v,rfl,m.read a λx s=>b x (u_ _ s)⟩
    |succ i=>rw[jo]at z;let⟨v,u,Q⟩:=w l a (λx s=>b x (x_ _ s)) i (by rw[show k+1+i=k+(i+1) by omega];exact hi) d z;exact⟨v,by simpa using u,Q⟩
  ·refine⟨fi,C++g,?_,λl a b c=>?_,λl a b i hi d z=>?_⟩
   ·refine(aaM C A).trans ?_;rw[<- G_,<- G_];exact List.Perm.append_right g aaN
   ·unfold mU;rw[d_ B];exact .some (m.step (λx X q r=>⟨a x q,r⟩) (λx X q=>q) λx s n _=>⟨c x (u_ _ s) n,rfl⟩) (y l a b λx s=>c x (x_ _ s))
   ·cases i with
    |zero=>exact absurd hi B
    |succ i=>rw[jo]at z;let⟨v,u,Q⟩:=w l a b i (by rw[show k+1+i=k+(i+1) by omega];exact hi) d z;exact⟨v,by simpa using u,Q⟩
end
structure Pw (F:Å)(H:Hp)(f:Ì)(F':Å)(H':Hp):Prop where
 same:ir H H'
 MZ:∀a,F a->F' a
 out:∀a,F' a->F a∨a∈f∨H a=Φ
structure Ow (K:Frag)(F:Å)(H:Hp)(f:Ì)(F':Å)(H':Hp)(σ:St)(v:V)(d:D)(fv:Ì)(τ':Ev)(f':Ì):Prop where
 N9:Pw F H f F' H'
 L6:Og F' H'
 rep:LS K F' H' v d fv
 Mv:Mc K F' H' σ τ' f'
 Mm:(fv++f').Nodup
 mem:∀a∈fv++f',a∈f∨H a=Φ
structure Ows (K:Frag)(F:Å)(H:Hp)(f:Ì)(F':Å)(H':Hp)(σ:St)(v:Ï)(d:Î)(fv:Ì)(τ':Ev)(f':Ì):Prop where
 N9:Pw F H f F' H'
 L6:Og F' H'
 rep:K9 K F' H' v d fv
 Mv:Mc K F' H' σ τ' f'
 Mm:(fv++f').Nodup
 mem:∀a∈fv++f',a∈f∨H a=Φ
theorem Pw.refl:Pw F H f F H:=⟨.refl _,λ_ h=>h,λ_ h=>.inl h⟩
theorem Pw.trans (a:Pw F H f j H')(b:Pw j H' i e c)(g:∀x∈i,x∈f∨H x=Φ):Pw F H f e c:=⟨a.same.trans b.same,λx h=>b.MZ x (a.MZ x h),λx h=>by
 rcases b.out x h with h|h|h
 ·exact a.out x h
 ·rcases g x h with h|h
  ·exact .inr (.inl h)
  ·exact .inr (.inr h)
 ·exact .inr (.inr (a.same.free h))⟩
def LS.N9 {K:Frag}(m:LS K F H v d fv)(s:Pw F H f i H')(h:∀a∈fv,a∉f):LS K i H' v d fv:=
 m.step (λa x q r=>⟨s.MZ a q,s.same.rd r⟩) (λa x q=>s.same.NB q) λa b n hn=>by
  let⟨_,x,e⟩:=m.own a b;refine⟨λz=>?_,(s.same _ _ e).trans e.symm⟩;rcases s.out a z with z|z|z
  ·exact n z
  ·exact h a b z
  ·exact hn z
def K9.N9 {K:Frag}(m:K9 K F H v d fv)(s:Pw F H f c H')(h:∀a∈fv,a∉f):K9 K c H' v d fv:=
 m.step (λa x q r=>⟨s.MZ a q,s.same.rd r⟩) (λa x q=>s.same.NB q) λa b n hn=>by
  let⟨_,x,e⟩:=m.own a b;refine⟨λz=>?_,(s.same _ _ e).trans e.symm⟩;rcases s.out a z with z|z|z
  ·exact n z
  ·exact h a b z
  ·exact hn z
def RO (K:Frag)(g:Ev->Res (D×Ev)):TE:=λb H Q=>∃F a f,Og F H/\Mc K F H b a f/\f.Nodup/\K5 (g a) λp=>∀v h i c e,Ow K F H f i h b v p.1 c p.2 e->Q v h
def Vb (K:Frag)(g:Ev->Res (Î×Ev)):TA:=λb H Q=>∃F a f,Og F H/\Mc K F H b a f/\f.Nodup/\K5 (g a) λp=>∀v h i c e,Ows K F H f i h b v p.1 c p.2 e->Q v h
@[reducible]def Kn (K:Frag)(S:Å)(H:Hp)(Q:VK):Î->Prop:=λb=>∀p y h,ir H h->H p=Φ->h p=Δ (.l y)->K4 K (λa=>nw S H a/\a≠p) h y b->Q (.r p) h
def RN (K:Frag)(is:Ç)(f:Ev->Res (Î)):TE:=λb H Q=>∃S a,Slots K S H b a is/\K5 (f a) (Kn K S H Q)
abbrev kN:D->Res (Î)
 |.l _ a=>.ok a
 |_=>LP
def FV {K:Frag}(m:K4 K (nw S H) c vs e)(b:c p=Φ):K4 K (λa=>nw S H a/\a≠p) (upd c p (.l ws)) vs e:=
 m.step (λa x h r=>by
  let M:a≠p:=λz=>r.some (by rw[z];exact b);refine⟨⟨h,M⟩,?_⟩;unfold Rd;rw[ik M]
  exact r) λa x h=>(ir.upd b).NB h
def grow {K:Frag}(P:Å)(L6:Og F H)(r:Mc K F H c b f)(e:ir H H') :
  Og (λa=>F a∨(P a/\H a=Φ/\H' a≠Φ)) H'/\Mc K (λa=>F a∨(P a/\H a=Φ/\H' a≠Φ)) H' c b f/\Pw F H f (λa=>F a∨(P a/\H a=Φ/\H' a≠Φ)) H':=by
 refine⟨λa h=>?_,r.step (λa x q rd=>⟨.inl q,e.rd rd⟩) (λa x q=>e.NB q) λa g n hn=>⟨λz=>?_,?_⟩,⟨e,λa h=>.inl h,λa h=>?_⟩⟩
 ·rcases h with h|h
  ·intro z;exact L6 a h (e.free z)
  ·exact h.2.2
 ·rcases z with z|z
  ·exact n z
  ·exact hn z.2.1
 ·let⟨_,x,q⟩:=r.own a g;exact(e _ _ q).trans q.symm
 ·rcases h with h|h
  ·exact .inl h
  ·exact .inr (.inr h.2.1)
def mL {K:Frag}(L6:Og F H)(r:Mc K F H c b f)(e:ir H H'):Og F H'/\Mc K F H' c b f/\Pw F H f F H':=by refine⟨λa h z=>L6 a h (e.free z),r.step (λa x q rd=>⟨q,e.rd rd⟩) (λa x q=>e.NB q) λa g n hn=>⟨n,?_⟩,⟨e,λa h=>h,λa h=>.inl h⟩⟩;let⟨_,x,q⟩:=r.own a g;exact(e _ _ q).trans q.symm
def kA {K:Frag}(is:Ç)(L6:Og F H)(r:Mc K F H l k f)(nd:f.Nodup):∃c g,Og c H/\Mc K c H l (LZ is k) g/\g.Nodup/\Pw F H f c H/\(∀a∈g,a∈f)/\Slots K c H l k is:=by
 let⟨fi,g,j,s,p⟩:=r.freeze is 0;let R:(fi++g).Nodup:=j.nodup_iff.mp nd;let v:∀a∈g,a∉fi:=λa b m=>(s_.mp R).2.2 a m a b rfl;let I:∀a∈fi,a∈f:=λa b=>j.mem_iff.mpr (u_ _ b);let e:∀a∈g,a∈f:=λa b=>j.mem_iff.mpr (x_ _ b);refine⟨λa=>F a∨a∈fi,g,λa h=>?_,s _ (λa h=>.inl h) (λa h=>.inr h) (λa b n z=>?_),(s_.mp R).2.1,⟨.refl _,λa h=>.inl h,λa h=>?_⟩,e,λi hi d z=>?_⟩
 ·rcases h with h|h
  ·exact L6 a h
  ·let⟨_,x,q⟩:=r.own a (I a h);rw[q];simp
 ·rcases z with z|z
  ·exact n z
  ·exact v a b z
 ·rcases h with h|h
  ·exact .inl h
  ·exact .inr (.inl (I a h))
 ·exact p _ (λa h=>.inl h) (λa h=>.inr h) i (by simpa using hi) d z
def i9 {K:Frag}(r:Mc K F H b a f):Slots K (λ_=>True) H b a is:=r.slots (λ_ _=>trivial) λ_ _=>trivial
def K6.fix {K:Frag}(m:K6 K (L2.nw F H) H' v d):K6 K (λa=>F a∨(True/\H a=Φ/\H' a≠Φ)) H' v d:=m.step (λa x h r=>⟨h.elim (λz=>.inl z) λz=>.inr ⟨trivial,z,r.some⟩,r⟩) λa x h=>h
def La (C:PE X e (BL i))(mv:Bool):PE X e (RO X.K (Ml cl mv (.v i))):=by
 refine iy C λl H Q S=>?_;let⟨F,k,f,L6,r,nd,q⟩:=S;rw[Ia]at q;cases z:ic k i with
 |none=>rw[z]at q;exact q.no.elim
 |some d=>
  rw[z]at q;let⟨v,c,g,p,u,A,m⟩:=r.at z;let R:(c++g).Nodup:=m.nodup_iff.mp nd
  cases mv using zB with
  |true=>let s:=(show K5 (.ok (d,k.set i Φ):Res (D×Ev)) _ from q).ok;exact⟨v,p,s v H F c g ⟨.refl,L6,u,A,R,λa b=>.inl (m.mem_iff.mpr b)⟩⟩
  |false=>
   let s:=(show K5 (.ok (er d,k.set i (Δ (er d))):Res (D×Ev)) _ from q).ok;let J:∀a∈g,a∉c:=λa b E=>(s_.mp R).2.2 a E a b rfl;let M:LS X.K (λa=>F a∨a∈c) H v (er d) []:=(u.read (λa h=>.inl h) (λa h=>.inr h)).frozen;let B:Mc X.K (λa=>F a∨a∈c) H l (k.set i Φ) g:=A.step (λa x h r=>⟨.inl h,r⟩) (λa x h=>h) λa b n _=>⟨λz=>z.elim n (J a b),rfl⟩
   let⟨G,I,w,P⟩:=B.put i M;let O:l.set i (Δ v)=l:=by
    apply List.ext_getElem?;intro j;rw[List.getElem?_set];by_cases y:i=j
    ·subst y;let N:i < l.length:=(v_.mp p).1;rw[e_ rfl,e_ N,p]
    ·rw[d_ y]
   rw[O,List.set_set]at w;rw[List.nil_append]at P;let L:(G++I).Nodup:=P.nodup_iff.mpr (s_.mp R).2.1;refine⟨v,p,s v H _ [] G ⟨⟨.refl _,λa h=>.inl h,λa h=>?_⟩,λa h=>?_,M,w,(s_.mp L).1,λa b=>?_⟩⟩
   ·exact h.elim (λz=>.inl z) λz=>.inr (.inl (m.mem_iff.mpr (u_ _ z)))
   ·rcases h with h|h
    ·exact L6 a h
    ·let⟨_,x,e⟩:=u.own a h;rw[e];simp
   ·have:a∈g:=P.mem_iff.mp (u_ _ (by simpa using b));exact .inl (m.mem_iff.mpr (x_ _ this))
def K0 (h:PA X l (Vb X.K g)):PE X (.Tuple l n pos) (RO X.K λb=>KZ (g b) λp=>LK (jh p.1.length) (.ok (.t p.1,p.2))):=by
 refine iy (xV h) λA H Q ⟨F,b,f,L6,r,nd,q⟩=>⟨F,b,f,L6,r,nd,(K5.KZ q).mono λp c vs i z w y o=>?_⟩
 let⟨G,c⟩:=K5.LK c;refine⟨by rw[o.rep.length];exact jw G,λP R=>c.ok _ _ z w y ?_⟩;let e:ir i (upd i P (.t vs)):=.upd R;let⟨m,j,k⟩:=mL o.L6 o.Mv e;refine⟨o.N9.trans k (λx s=>o.mem x (x_ _ s)),m,.t (.inl (.inl iq)) (o.rep.N9 k λa v u=>(s_.mp o.Mm).2.2 a v a u rfl),j,o.Mm,o.mem⟩
def K1 (h:PA X l (Vb X.K g)):PE X (.List l pos) (RO X.K λc=>KZ (g c) λp=>LK (jh p.1.length) (.ok (.l Θ p.1,p.2))):=by
 refine iy (nT h) λB H Q ⟨F,c,f,L6,r,nd,q⟩=>⟨F,c,f,L6,r,nd,(K5.KZ q).mono λp i vs j A w y o=>?_⟩
 let⟨G,i⟩:=K5.LK i;refine⟨by rw[o.rep.length];exact jw G,λP R=>i.ok _ _ A (P::w) y ?_⟩;let e:ir j (upd j P (.l vs)):=.upd R;let⟨s,n,k⟩:=mL o.L6 o.Mv e;refine⟨o.N9.trans k (λx u=>o.mem x (x_ _ u)),s,.M (λz=>o.L6 _ z R) iq (o.rep.N9 k λa b v=>(s_.mp o.Mm).2.2 a b a v rfl),n,?_,λa b=>?_⟩
 ·rw[c_,F_];refine⟨λz=>?_,o.Mm⟩;rcases w_.mp z with z|z
  ·let⟨_,m,e⟩:=o.rep.own _ z;rw[R]at e;cases e
  ·let⟨_,m,e⟩:=o.Mv.own _ z;rw[R]at e;cases e
 ·rw[c_]at b;rcases k_.mp b with rfl|b
  ·exact .inr (o.N9.same.free R)
  ·exact o.mem a b
def K2 (C:PT X c (RT X.K O I))(i:PE X a (RO X.K L))(G:PE X b (RO X.K J)) :
  PE X (.IfExp c a b pos) (RO X.K λe=>KZ (I e) λr=>if r=Θ then L e else J e):=by
 refine iy (rh C i G) λn H Q M=>?_;let⟨F,e,f,L6,r,nd,q⟩:=M;refine lD (.refl _) (i9 r) (K5.KZ q) λx N E _ k=>?_;let⟨w,u,s⟩:=mL L6 r E;let go:∀ {g:Ev->Res (D×Ev)},K5 (g e) (λp=>∀v h m j l,Ow X.K F H f m h n v p.1 j p.2 l->Q v h)->RO X.K g n N Q:=λB=>
  ⟨F,e,f,w,u,nd,B.mono λp A v h m j l o=>A v h m j l ⟨s.trans o.N9 (λx y=>.inl y),o.L6,o.rep,o.Mv,o.Mm,λa i=>(o.mem a i).elim (λz=>.inl z) λz=>.inr (E.free z)⟩⟩
 cases x using zB with
 |true=>rw[e_ rfl]at k ⊢;exact go k
 |false=>rw[d_ p_]at k ⊢;exact go k
def FW:PA X [] (Vb X.K λb=>.ok ([],b)):=qg iZ λc H Q ⟨F,b,f,L6,r,nd,q⟩=>q.ok [] H F [] f ⟨.refl,L6,.nil,r,nd,λa h=>.inl h⟩
def CK (hn:notStar e=Θ)(h:PE X e (RO X.K G))(u:PA X l (Vb X.K gs)) :
  PA X (e::l) (Vb X.K λg=>KZ (G g) λp=>KZ (gs p.2) λq=>.ok (p.1::q.1,q.2)):=by
 refine qg (iH h u (fS hn _ _)) λE H Q ⟨F,g,f,L6,r,nd,q⟩=>⟨F,g,f,L6,r,nd,(K5.KZ q).mono λp w v J C k m o=>?_⟩
 refine⟨C,p.2,m,o.L6,o.Mv,(s_.mp o.Mm).2.1,(K5.KZ w).mono λP R vs A B j y O=>?_⟩;let n:∀a∈k,a∉m:=λa c i=>(s_.mp o.Mm).2.2 a c a i rfl;let M:=o.rep.N9 O.N9 n;refine R.ok (v::vs) A B (k++j) y ⟨o.N9.trans O.N9 (λx s=>o.mem x (x_ _ s)),O.L6,.cons M O.rep,O.Mv,?_,λa h=>?_⟩
 ·rw[G_];refine s_.mpr ⟨(s_.mp o.Mm).1,O.Mm,λa c b i e=>?_⟩;subst e;rcases O.mem a i with z|z
  ·exact n a c z
  ·let⟨_,I,e⟩:=o.rep.own a c;rw[z]at e;cases e
 ·rw[G_]at h;rcases w_.mp h with h|h
  ·exact o.mem a (u_ _ h)
  ·rcases O.mem a h with z|z
   ·exact o.mem a (x_ _ z)
   ·exact .inr (o.N9.same.free z)
def spP (K:Frag)(cl:Ä)(f:Nat)(vs:Ï)(H:Hp)(Q:VK):Prop:=∃F a,Og F H/\K4 K F H vs a/\K5 (cl f (LM a)) λd=>∀v h c b,Out K F H c h v d b->Q v h
def zF (g:Mf Z CX cl X G)  (h1:jZ Z G f x=Θ)(B:Z.U6 G f=Θ)(L:iX Z G v A=Θ)(h:PA X A t)
  (h0:A=[]->∀b H (Q:Ï->Hp->Prop),t b H Q->Q [] H):PE X (.Call (.Name x p) A [] pos) (λb H Q=>t b H λvs i=>spP X.K cl f vs i Q):=by
 let⟨O,N,k3,J⟩:=sj g h1;let⟨k,U9,fd,ps,U,C,W,F,R,j⟩:=(g.fns f (qz B).1 (qz B).2 x N).ex;let⟨E,Y⟩:=g.Wh;intro P s b H Q I q;let n:∀(u:Í) (S:Α) (vs:Ï) (i:Hp),Inv X P b i S->Vals vs u->spP X.K cl f vs i Q->Κ (Μ X.prog X.w) X.A (call (.ref U9) u) (EP X P b Q) X.xe S:=by
  intro u S vs i w r LX;let⟨Fc,ds,L6,m,c⟩:=LX;let y:=j _ _ c;rw[jB]at y;refine vw F R W Y g.Q7 w r (by rw[m.length];exact y) L6 m ?_;cases z:cl f (LM ds) with
  |error er=>rw[z]at c;cases er;exact c.no.elim
  |ok d=>rw[z]at c;exact c.ok
 refine aap (mi I O U ?_ J)
 cases A using zL with
 |nil=>
  cases v using zL with
  |cons _ _=>cases L
  |nil=>exact PySem.W.callWith_K0 I.Oo C (n [] s [] H I .nil (h0 rfl b H _ q))
 |cons e l=>
  cases v using zL with
  |nil=>cases L
  |cons a v=>let M:(notStar e&&LV Z G a e&&iX Z G v l)=Θ:=L;simp only[g_]at M;refine PySem.W.callWith_K (h₀:=X.base) I.ok.mod.UQ C (L4 (h pos P s b H _ I q) λu S ⟨vs,i,w,r,c⟩=>⟨w.Oo,?_⟩) (fS M.1.1 l X.env) (jq Z G (E:=v) pos X.env M.2);exact n u S vs i w r c
def LS.Qi {K:Frag}  (m:LS K F H v d fv)(n:il d=Θ):LS K f H v d []:=(m.read (S:=λ_=>True) (λ_ _=>trivial) λ_ _=>trivial).free n
def KN (g:Mf Z CX cl X G)  (h1:jZ Z G f x=Θ)(Y:Z.U6 G f=Θ)(L8:iX Z G E A=Θ)(mv:Bool) :
  PE X (.Call (.Name x p) A [] pos) (RO X.K (Ml cl mv (.C f E))):=by
 let pa:=sC E X G A g L8
 let pe:=zF (p:=p) (pos:=pos) g h1 Y L8 pa (λe w H Q ⟨S,i,hs,q⟩=>by
  subst e
  cases E using zL with
  |nil=>exact q.ok [] H (.refl _) .nil
  |cons _ _=>cases L8)
 refine iy pe λw H Q LX=>?_;let⟨F,i,L,L6,r,nd,q⟩:=LX;let O:K5 (KZ (iJ cl E i) λl=>KZ (cl f (LM l)) λd=>if il d=Θ then .ok (d,i) else .ok (d,LZ (ij E) i)) (λp=>∀v c j m I,Ow X.K F H L j c w v p.1 m p.2 I->Q v c):=q
 -- read without aag up
 let B:(∀l,iJ cl E i=.ok l->K5 (cl f (LM l)) λd=>il d=Θ/\∀v c j m I,Ow X.K F H L j c w v d m i I->Q v c)->K5 (iJ cl E i) (λ_=>True)->RA X.K (ij E) (iJ cl E) w H (λvs u=>spP X.K cl f vs u Q):=by intro hk L1;refine sr (.refl _) (i9 r) L1.eq λl vs u P _ R J=>?_;refine⟨λa=>u a≠Φ,l,λa h=>h,R.step (λa y h rd=>⟨rd.some,rd⟩) λa y h=>h,(hk l J.1).mono λd hd v c j m o=>?_⟩;let⟨k1,k2,k3⟩:=mL L6 r (P.trans o.same);exact hd.2 v c F [] L ⟨k3,k1,o.rep.Qi hd.1,k2,by simpa using nd,λa s=>.inl (by simpa using s)⟩
 cases z:iJ cl E i with
 |error er=>rw[z]at O;cases er;exact O.no.elim
 |ok l=>
  rw[z]at O;let J:K5 (KZ (cl f (LM l)) λd=>if il d=Θ then .ok (d,i) else .ok (d,LZ (ij E) i)) (λp=>∀v c j m I,Ow X.K F H L j c w v p.1 m p.2 I->Q v c):=O;cases M:cl f (LM l) with
  |error er=>rw[M]at J;cases er;exact J.no.elim
  |ok d=>
   rw[M]at J;let N:K5 (if il d=Θ then .ok (d,i) else .ok (d,LZ (ij E) i)) (λp=>∀v c j m I,Ow X.K F H L j c w v p.1 m p.2 I->Q v c):=J;by_cases W:il d=Θ
   ·rw[e_ W]at N;exact B (λk h=>by rw[z]at h;cases h;rw[M];exact⟨W,N.ok⟩) (by rw[z];trivial)
   ·rw[d_ W]at N;let⟨F1,gg,b1,b2,b3,b4,b5,b6⟩:=kA (ij E) L6 r nd;refine sr (Kt:=λk=>k=l) (.refl _) b6 (by rw[z];rfl) λk vs u P _ R e=>?_;subst e;let hm:K4 X.K (λa=>F1 a∨(True/\H a=Φ/\u a≠Φ)) u vs k:=R.step (λa y h r=>⟨h.elim (λz=>.inl z) λz=>.inr ⟨trivial,z,r.some⟩,r⟩) λa y h=>h;let⟨c1,c2,c3⟩:=grow (λ_=>True) b1 b2 P;refine⟨_,k,c1,hm,?_⟩;rw[M];intro v c j m o;let s1:Pw (λa=>F1 a∨(True/\H a=Φ/\u a≠Φ)) u gg j c:=⟨o.same,o.MZ,λa h=>(o.out a h).elim (λz=>.inl z) λz=>.inr (.inr z)⟩
    let r2:Mc X.K j c w (LZ (ij E) i) gg:=c2.step (λa y q rd=>⟨o.MZ a q,o.same.rd rd⟩) (λa y q=>o.same.NB q) λa s n hn=>by
     let⟨_,y,e⟩:=c2.own a s;refine⟨λz=>?_,(o.same _ _ e).trans e.symm⟩;rcases o.out a z with z|z
     ·exact n z
     ·exact hn z
    refine N.ok v c j m gg ⟨(b4.trans c3 (λx U=>.inl (b5 x U))).trans s1 (λx U=>.inl (b5 x U)),o.L6,o.rep,r2,?_,λa s=>?_⟩
    ·refine s_.mpr ⟨o.Mm,b3,λa h1 b Y e=>?_⟩;subst e;let⟨_,y,e⟩:=c2.own a Y;rw[o.new a h1]at e;cases e
    ·rcases w_.mp s with s|s
     ·exact .inr (P.free (o.new a s))
     ·exact .inl (b5 a s)
def iY (he:PE X e (RD X.K (vars a) (K8 cl a)))(hN:iS a=Θ->PE X e (RN X.K (vars a) λb=>KZ (K8 cl a b) kN)):PE X e (RO X.K λb=>KZ (K8 cl a b) λd=>.ok (iE a d b)):=by
 intro P s j H Q I h;let⟨F,b,y,L6,r,nd,q⟩:=h
 replace q:K5 (KZ (K8 cl a b) λd=>.ok (iE a d b)) (λp=>∀v c F' W Y,Ow X.K F H y F' c j v p.1 W p.2 Y->Q v c):=q
 let rd:RD X.K (vars a) (K8 cl a) j H Q->Κ (Μ X.prog X.w) X.A (eval e X.env) (EP X P j Q) X.xe s:=λh=>he P s j H Q I h;cases z:K8 cl a b with
 |error er=>rw[z]at q;cases er;exact q.no.elim
 |ok d=>
  rw[z]at q;let i:∀v c F' W Y,Ow X.K F H y F' c j v (iE a d b).1 W (iE a d b).2 Y->Q v c:=q;by_cases u:il d=Θ
  ·unfold iE at i;rw[e_ u]at i;refine rd ⟨λ_=>True,b,i9 r,?_⟩;rw[z];intro v c e m;let⟨N,L,J⟩:=mL L6 r e;exact i v c F [] y ⟨J,N,m.free u,L,by simpa using nd,λa f=>.inl (by simpa using f)⟩
  ·let O:iE a d b=(er d,LZ (vars a) b)->Κ (Μ X.prog X.w) X.A (eval e X.env) (EP X P j Q) X.xe s:=λw=>by rw[w]at i;let⟨E,U,C,A,b3,b4,B,b6⟩:=kA (vars a) L6 r nd;refine rd ⟨E,b,b6,?_⟩;rw[z];intro v c e m;let⟨c1,c2,c3⟩:=grow (λ_=>True) C A e;exact i v c _ [] U ⟨b4.trans c3 (λx S=>.inl (B x S)),c1,m.fix.frozen,c2,by simpa using b3,λa f=>.inl (B a (by simpa using f))⟩
   by_cases hn:iS a=Θ
   ·cases d using zD with
    |l o k=>
     by_cases hi:fT k=Θ
     ·let w:iE a (.l o k) b=(.l Θ k,b):=by unfold iE;rw[d_ u,hn];show(if fT k=Θ then _ else _)=_;rw[e_ hi]
      rw[w]at i;refine hN hn P s j H Q I ⟨λ_=>True,b,i9 r,?_⟩;show K5 (KZ (K8 cl a b) kN) _;rw[z];intro p ys c e n R m;let⟨N,L,J⟩:=mL L6 r e;refine i (.r p) c F [p] y ⟨J,N,.M (λg=>L6 p g n) R (m.free hi),L,?_,λa f=>?_⟩
      ·rw[aav,F_];refine⟨λg=>?_,nd⟩;let⟨_,G,e⟩:=r.own p g;rw[n]at e;cases e
      ·rw[aav]at f;rcases k_.mp f with rfl|f
       ·exact .inr n
       ·exact .inl f
     ·let w:iE a (.l o k) b=(.l Θ (LM k),LZ (vars a) b):=by unfold iE;rw[d_ u,hn];show(if fT k=Θ then _ else _)=_;rw[d_ hi]
      rw[w]at i;let⟨E,U,C,A,b3,b4,B,b6⟩:=kA (vars a) L6 r nd;refine hN hn P s j H Q I ⟨E,b,b6,?_⟩;show K5 (KZ (K8 cl a b) kN) _;rw[z];intro p ys c e n R m;let⟨c1,c2,c3⟩:=grow (λa=>a≠p) C A e;let m2:K4 X.K (λa=>E a∨(a≠p/\H a=Φ/\c a≠Φ)) c ys k:=m.step (λa G h r=>⟨h.1.elim (λz=>.inl z) λz=>.inr ⟨h.2,z,r.some⟩,r⟩) λa G h=>h;refine i (.r p) c _ [p] U ⟨b4.trans c3 (λx S=>.inl (B x S)),c1,.M (λg=>?_) R m2.frozen,c2,?_,λa f=>?_⟩
      ·rcases g with g|g
       ·exact C p g n
       ·exact g.1 rfl
      ·rw[aav,F_];refine⟨λg=>?_,b3⟩;let⟨_,G,e⟩:=A.own p g;rw[n]at e;cases e
      ·rw[aav]at f;rcases k_.mp f with rfl|f
       ·exact .inr n
       ·exact .inl (B a f)
    |_=>refine O ?_;unfold iE;rw[d_ u,hn]
   ·let Nz:iS a=Ξ:=by simpa using hn
    refine O ?_;unfold iE;rw[d_ u,Nz]
def IH (G:PE X a (RD X.K m R))(F:PE X b (RD X.K k O)) :
  PE X (.BinOp a .Add b pos) (RN X.K (m++k) λf=>KZ (KZ (R f) λx=>KZ (O f) λy=>NG .a x y) kN):=by
 refine iy (uO qx G F) λσ H Q LX=>?_;let⟨S,f,j,q⟩:=LX;refine iK (.refl _) j.left (K5.KZ (K5.KZ q)) λx v H1 U _ C u=>?_;refine iK U j.right (K5.KZ u) λy w H2 E M B e=>?_;let c:∀ {P:Prop},NG .a x y=LP->P:=λz=>by rw[z]at e;exact e.no.elim
 cases x using zD with
 |i a=>cases y using zD with
  |i b=>exact e.ok.no.elim
  |_=>exact c rfl
 |s a=>cases y using zD with
  |s b=>exact(K5.LK e).2.ok.no.elim
  |_=>exact c rfl
 |l o a=>cases y using zD with
  |l o' b=>let⟨p,g,rfl,J,N⟩:=C.RV;let⟨A,Y,rfl,I,n⟩:=B.RV;let⟨L,r⟩:=K5.LK e;let g':=jw L;let l1:=N.length;let l2:=n.length;let W:Ls X.K H2 p g:=J.elim (λz=>.inl (M.rd z)) .inr;exact⟨p,A,g,Y,rfl,rfl,W,I,⋯,λz h=>r.ok.ok z _ _ (E.trans (.upd h)) (E.free h) iq (FV ((N.later M).append n) h)⟩
  |_=>exact c rfl
 |_=>exact c rfl
def II (n:PE X a (RD X.K j p))(l:PE X b (RD X.K g F)) :
  PE X (.BinOp a .Mult b pos) (RN X.K (j++g) λf=>KZ (KZ (p f) λx=>KZ (F f) λy=>NG .m x y) kN):=by
 refine iy (uO Cv n l) λr H Q L=>?_;let⟨S,f,h,q⟩:=L;refine iK (.refl _) h.left (K5.KZ (K5.KZ q)) λx v G E _ u k=>?_;refine iK E h.right (K5.KZ k) λy w C A B M e=>?_;let c:∀ {P:Prop},NG .m x y=LP->P:=λz=>by rw[z]at e;exact e.no.elim
 cases y using zD with
 |i b=>
  cases M
  cases x using zD with
  |i a=>exact(K5.LK e).2.ok.no.elim
  |s a=>exact(K5.LK e).2.ok.no.elim
  |_=>exact c rfl
 |_=>induction x using zD<;>exact c rfl
def Ks {lo:Option Expr}(w:PE X a (RD X.K k B))(u:PO X lo (U8 X.K i F))(hh:PO X hi (U8 X.K j A)) :
  PE X (.Subscript a (.Slice lo hi Φ J) pos) (RN X.K (k++i++j) λb=>KZ (KZ (B b) λx=>KZ (F b) λl=>KZ (A b) λh=>rN x l h) kN):=by
 refine iy (rl uS w u hh) λI H Q L=>?_;let⟨S,b,f,q⟩:=L;refine iK (.refl _) f.left.left (K5.KZ (K5.KZ q)) λx v W G _ r n=>?_;refine CC G f.left.right (K5.KZ n) λl U C M m=>?_;refine CC C f.right (K5.KZ m) λh R E P c=>?_
 cases x using zD with
 |l o O=>let⟨p,g,rfl,y,N⟩:=r.Mr;exact⟨p,g,rfl,(M.trans P).seq y,λz e=>c.ok.ok z _ _ (E.trans (.upd e)) (E.free e) iq (FV (vj l h (N.later (M.trans P))) e)⟩
 |s _=>exact(K5.LK c).2.ok.no.elim
 |_=>exact c.no.elim
def pz (b:X.calm=Θ):jS X (.type "list") (λx H Q=>(∃p ys,x=[.r p]/\(MR X.K H p ys∨Md X.K H p ys)/\∀l,H l=Φ->Q (.r l) (upd H l (.l ys)))∨∃(p:Ω) (kvs:List (Key×V)),x=[.r p]/\Rd H p (.d kvs)/\∀l,H l=Φ->Q (.r l) (upd H l (.l (kvs.map λq=>kV q.1)))):=by
 intro P s a H x u Q I r h;rcases h with h|h
 ·exact ml P s a H x u Q I r h
 ·exact ub b P s a H x u Q I r h
def FX (g:Mf Z CX cl X G)  (c:G.N7 5=Θ)(A:G.gl.contains 15=Θ)(hn:notStar e=Θ)(y:PE X e (RD X.K f F)) :
  PE X (.Call (.Name "list" p) [.Call (.Name "range" N) [e] [] P] [] pos) (RN X.K f λb=>KZ (KZ (F b) rS) kN):=by
 let⟨s,r,R,O⟩:=jA g (show iU[5]? = Δ ("list" : Str) from rfl) (mX c);let⟨u,J,W,U⟩:=jA g (show iU[15]? = Δ ("range" : Str) from rfl) A;refine iy (uY (g.calm (mY c)) s r u J y λC=>fS hn C X.env) λM H Q L=>?_;let⟨S,b,w,q⟩:=L;refine iK (.refl _) w (K5.KZ (K5.KZ q)) λx v Y E _ m a=>?_
 cases x using zD with
 |i n=>cases m.L5;let⟨B,a⟩:=K5.LK a;let I:0<=n/\n<=1000:=t_ B;refine⟨n.toNat,by rw[Int.toNat_of_nonneg I.1],⋯,λl h=>?_⟩;let j:Kn X.K S H Q ((List.range n.toNat).map λk=>D.i (k:Nat)):=a.ok;refine j l _ _ (E.trans (.upd h)) (by cases z:H l with|none=>rfl|some o=>rw[E l o z]at h;cases h) iq ?_;rw[(mI _).1,(mI _).2];exact K4.ofInts _
 |_=>exact a.no.elim
def FY (g:Mf Z CX cl X G)  (n:G.N7 (vq .L)=Θ)(r:iX Z G e (a::A)=Θ)(h:PA X (a::A) (RA X.K (ij e) (iJ cl e))) :
  PE X (.Call (.Name (lX .L) p) (a::A) [] pos) (RN X.K (ij e) λk=>KZ (KZ (iJ cl e k) λc=>jT .L c) kN):=by
 let⟨C,B,w,v⟩:=jA g (y7 .L) (mX n)
 cases e using zL with
 |nil=>cases r
 |cons b e=>
  let j:(notStar a&&LV Z G b a&&iX Z G e A)=Θ:=r;simp only[g_]at j;refine iy (mP (pz (g.calm (mY n))) C B (vk .L) h w v (fS j.1.1 A X.env) (jq Z G (E:=e) pos X.env j.2)) λJ H Q I=>?_;let⟨S,k,F,q⟩:=I;refine sr (.refl _) F (K5.KZ (K5.KZ q)) λc vs N E _ M f=>?_;let s:∀ {P:Prop},jT .L c=LP->P:=λz=>by rw[z]at f;exact f.no.elim
  match c,M with
  |[],_=>exact s rfl
  |d::_::_,_=>exact s (by induction d using zD<;>rfl)
  |[d],M=>
   let⟨x,rfl,hd⟩:=M.TZ
   cases d using zD with
   |l o c=>let⟨a,y,rfl,u,m⟩:=hd.Mr;exact .inl ⟨a,y,rfl,.inl u,λz i=>f.ok.ok z _ _ (E.trans (.upd i)) (E.free i) iq (FV m i)⟩
   |_=>exact s rfl
section
variable {Z:Sg}{CX:PK}{cl:Ä}
def lJ (g:Mf Z CX cl X G)  (h:ke G i x=Θ):PE X (.Name x pos) (BL i):=by
 unfold ke at h;rw[g_]at h;let a:G.N[i]? = Δ x:=h_ h.1;let b:=g.kd i x a;let c:Vu X.env.scope x:=by
  let H:=h.2;rw[aaf,aaf]at H;rcases H with(H|H)|H
  ·exact .inl (b.trans (h_ H))
  ·exact .inr (.inl (b.trans (h_ H)))
  ·exact .inr (.inr (b.trans (h_ H)))
 exact xF (i:=i) (by rw[g.N];exact a) c (g.Rb i x a).1 (g.Rb i x a).2
def FZ (g:Mf Z CX cl X G)  {T:Tg}  (hs:Pt Z G b a fr)(J:jM a T j=Θ)(B:∀i∈N8 T,fr.length<=i)
  (hi:kM Z G s iter=Θ/\qB s j=Θ) (w:iX Z a I c=Θ) (z:LV Z a E f=Θ) :
  PE X (.ListComp f [⟨j,iter,c,0⟩] b pos) (RN X.K (vars (.d a fr T s I E)) λl=>KZ (K8 cl (.d a fr T s I E) l) kN):=by
 intro P v u H Q r h;let⟨M,S⟩:=kU g r.ok hs;let p:=qj (pos:=pos) (E:=f) (i:=c) (j:=j) (g:=gT X.K T) (k:=RT X.K (ij I) (kE cl I)) (l:=RD X.K (vars E) (K8 cl E)) (g.calm hs.cm) S (zC s X G iter j g hi.1 hi.2) (λC s H F=>SR (jj g hs M C s H F) T j J)
  (λC s H F=>zA I _ a c (jj g hs M C s H F) w) (λC s H F=>(snd E _ a f (jj g hs M C s H F) z).1) (λx=>jE hi.1 X.env x)
 refine p P v u H Q r ?_;let⟨W,l,O,q⟩:=h;let n:=K5.KZ (show K5 (KZ (K8 cl (.d a fr T s I E) l) kN) _ from q);rw[oJ]at n;exact kW hs.X3 B O n λA y U N e L R m k=>k.ok A y N e L R m
def N0:∀(a:IR) (X:Cx) (G:Gm) (e:Expr),Mf Z CX cl X G->LV Z G a e=Θ->iS a=Θ->PE X e (RN X.K (vars a) λz=>KZ (K8 cl a z) kN):=by
 intro a X G e g h n;cases a with
 |b O a b=>
  cases O with
  |a=>let⟨l,o,r,pos,rfl,H⟩:=um h;simp only[g_]at H;let E:o=U5 .a:=h_ H.1.1;subst E;exact IH (snd a X G l g H.1.2).1 (snd b X G r g H.2).1
  |m=>let⟨l,o,r,pos,rfl,H⟩:=um h;simp only[g_]at H;let E:o=U5 .m:=h_ H.1.1;subst E;exact II (snd a X G l g H.1.2).1 (snd b X G r g H.2).1
  |_=>cases n
 |S a lo hi=>let⟨o,s,pos,rfl,H⟩:=l5 h;let⟨l,u,st,p,rfl,c⟩:=zm H;simp only[g_]at c;let E:st=Φ:=Option.isNone_iff_eq_none.mp c.1;subst E;exact Ks (snd a X G o g c.2.1.1).1 (CJ lo X G l g c.2.1.2) (CJ hi X G u g c.2.2)
 |B f J=>
  cases f with
  |L=>
   let⟨x,p,A,pos,rfl,H⟩:=jD h;let⟨c,F⟩:=l_.mp H;simp only[g_]at c;let E:x=lX .L:=h_ c.1.1;subst E
   cases A using zL with
   |nil=>exact iF F
   |cons a A=>exact FY g c.1.2 c.2 (sC J X G _ g c.2)
  |_=>cases n
 |j a=>let h:SN e (λx y e=>x == "list"&&G.N7 5&&y == "range"&&G.gl.contains 15&&notStar e&&LV Z G a e)=Θ:=h;let⟨x,p,y,R,v,P,pos,rfl,h⟩:=qC h;let h:(x == "list"&&G.N7 5&&y == "range"&&G.gl.contains 15&&notStar v&&LV Z G a v)=Θ:=h;simp only[g_]at h;let E:x = "list":=h_ h.1.1.1.1.1;let N:y = "range":=h_ h.1.1.1.2;subst E N;exact FX g h.1.1.1.1.2 h.1.1.2 h.1.2 (snd a X G v g h.2).1
 |d W fr Q C I M=>let⟨el,w,q,pos,rfl,H⟩:=zo h;let⟨t,U,fs,rfl,k⟩:=nH H;simp only[g_]at k;exact FZ g (nL k.1.1.1.1.1) k.1.1.1.1.2 (λi hi=>t_ (M_.mp k.1.1.1.2 i hi)) k.1.1.2 k.1.2 k.2
 |_=>cases n
def KO (mv:Bool):PE X (.Dict [] [] pos) (RO X.K (Ml cl mv .o)):=by
 refine iy n6 λi H Q ⟨F,g,f,L6,r,nd,q⟩=>λp b=>?_;let j:∀v c x s w,Ow X.K F H f x c i v (.K Θ [] []) s g w->Q v c:=q;let e:ir H (upd H p (.d [])):=.upd b;let⟨m,l,k⟩:=mL L6 r e;let nF:¬F p:=λz=>L6 p z b;let n:p∉f:=λz=>by let⟨_,u,E⟩:=r.own p z;rw[b]at E;cases E
 exact j _ _ F [p] f ⟨k,m,.P (kvs:=[]) nF iq rfl .nil,l,by rw[aav,F_];exact⟨n,nd⟩,λa h=>by
  rcases w_.mp h with h|h
  ·rw[r_.mp h];exact .inr b
  ·exact .inl h⟩
mutual
theorem SU:∀(a:IR) (mv:Bool) (X:Cx) (G:Gm) (e:Expr),Mf Z CX cl X G->LV Z G a e=Θ->PE X e (RO X.K (Ml cl mv a))
 |.v i,mv,X,G,e,g,h=>by let⟨x,pos,rfl,H⟩:=ji h;exact La (lJ g H) mv
 |.t E,mv,X,G,e,g,h=>by let⟨l,n,pos,rfl,H⟩:=zq h;exact K0 (F0 E mv X G l g H)
 |.l E,mv,X,G,e,g,h=>by let⟨l,pos,rfl,H⟩:=qD h;exact K1 (F0 E mv X G l g H)
 |.I t a b,mv,X,G,e,g,h=>by let⟨c,x,y,pos,rfl,H⟩:=zl h;simp only[g_]at H;exact K2 (snd t X G c g H.1.1).2 (SU a mv X G x g H.1.2) (SU b mv X G y g H.2)
 |.C f E,mv,X,G,e,g,h=>by let⟨x,p,A,pos,rfl,H⟩:=jD h;simp only[g_]at H;exact KN g H.1.1 H.1.2 H.2 mv
 |.c d,mv,X,G,e,g,h=>iY (snd _ X G e g h).1 (N0 _ X G e g h)
 |.g n d,mv,X,G,e,g,h=>iY (snd _ X G e g h).1 (N0 _ X G e g h)
 |.b q a b,mv,X,G,e,g,h=>iY (snd _ X G e g h).1 (N0 _ X G e g h)
 |.n a,mv,X,G,e,g,h=>iY (snd _ X G e g h).1 (N0 _ X G e g h)
 |.a q a b,mv,X,G,e,g,h=>iY (snd _ X G e g h).1 (N0 _ X G e g h)
 |.e q F a b c,mv,X,G,e,g,h=>iY (snd _ X G e g h).1 (N0 _ X G e g h)
 |.M a b,mv,X,G,e,g,h=>iY (snd _ X G e g h).1 (N0 _ X G e g h)
 |.O a b,mv,X,G,e,g,h=>iY (snd _ X G e g h).1 (N0 _ X G e g h)
 |.f a,mv,X,G,e,g,h=>iY (snd _ X G e g h).1 (N0 _ X G e g h)
 |.i a i,mv,X,G,e,g,h=>iY (snd _ X G e g h).1 (N0 _ X G e g h)
 |.S a lo hi,mv,X,G,e,g,h=>iY (snd _ X G e g h).1 (N0 _ X G e g h)
 |.B f E,mv,X,G,e,g,h=>iY (snd _ X G e g h).1 (N0 _ X G e g h)
 |.N a k,mv,X,G,e,g,h=>iY (snd _ X G e g h).1 (N0 _ X G e g h)
 |.p a b,mv,X,G,e,g,h=>iY (snd _ X G e g h).1 (N0 _ X G e g h)
 |.m a k,mv,X,G,e,g,h=>iY (snd _ X G e g h).1 (N0 _ X G e g h)
 |.T n k a,mv,X,G,e,g,h=>iY (snd _ X G e g h).1 (N0 _ X G e g h)
 |.s a,mv,X,G,e,g,h=>iY (snd _ X G e g h).1 (N0 _ X G e g h)
 |.o,mv,X,G,e,g,h=>by let h:SM e=Θ:=h;let⟨pos,rfl⟩:=uk h;exact KO mv
 |.h a,mv,X,G,e,g,h=>iY (snd _ X G e g h).1 (N0 _ X G e g h)
 |.j a,mv,X,G,e,g,h=>iY (snd _ X G e g h).1 (N0 _ X G e g h)
 |.k a b,mv,X,G,e,g,h=>iY (snd _ X G e g h).1 (N0 _ X G e g h)
 |.P m o E,mv,X,G,e,g,h=>iY (snd _ X G e g h).1 (N0 _ X G e g h)
 |.d J fr z r u w,mv,X,G,e,g,h=>iY (snd _ X G e g h).1 (N0 _ X G e g h)
theorem F0:∀(as:Ë) (mv:Bool) (X:Cx) (G:Gm) (l:Á),Mf Z CX cl X G->iX Z G as l=Θ->PA X l (Vb X.K (pw cl mv as))
 |[],mv,X,G,l,g,h=>by
  cases l using zL with
  |nil=>exact FW
  |cons _ _=>exists h
 |a::as,mv,X,G,l,g,h=>by
  cases l using zL with
  |nil=>exists h
  |cons e l=>let H:(notStar e&&LV Z G a e&&iX Z G as l)=Θ:=h;simp only[g_]at H;exact CK H.1.1 (SU a mv X G e g H.1.2) (F0 as mv X G l g H.2)
end
end
structure Bs (io:Â) where
 F:Å
 H:Hp
 L:Ω->LD->Prop
 T:Ω->Ï->Prop
 N:Option Ω:=Φ
structure Mj (K:Frag){io:Â}(B:Bs io)(F:Å)(H:Hp)(σ:St)(τ:Ev)(f:Ì):Prop where
 L6:Og F H
 Mv:Mc K F H σ τ f
 Mm:f.Nodup
 same:ir B.H H
 own:∀a∈f,B.H a=Φ
 MZ:∀a,B.F a->F a
 out:∀a,F a->B.F a∨B.H a=Φ
 pin:∀a xs,B.L a xs->F a/\Rd H a xs.o
 Qt:∀a xs,B.T a xs->Md K H a xs
 nm:∀j a,io=Δ j->B.N=Δ a->σ[j]? = Δ (Δ (.r a))
def Fk (K:Frag){io:Â}(B:Bs io)(h:Ends):Fl->Prop
 |.n g=>∀e H F f,Mj K B F H e g f->h.nx e H
 |.b g=>∀e H F f,Mj K B F H e g f->h.bk e H
 |.c g=>∀e H F f,Mj K B F H e g f->h.ct e H
 |.r d=>∀v H F i,Out K B.F B.H F H v d i->h.rt v H
 |.R d ks E=>∀v H F i k a,(∀A,B.N=Δ A->A=a)->Out K B.F B.H F H v d i->¬F a->a∉i->H a=Δ (.d k)->k.map (·.1)=ks->K4 K F H (k.map (·.2)) E->h.rt v H
def RS (K:Frag)(io:Â)(g:Ev->Res Fl):TS:=λc b H=>∃(B:Bs io),∃F a f,Mj K B F H b a f/\K5 (g a) (Fk K B c)
section
variable {K:Frag}{io:Â}{B:Bs io}{F A:Å}{H H':Hp}{c:St}{q τ':Ev}{f y:Ì}
def Mj.N9 (m:Mj K B F H c q f)(s:Pw F H f A H')(L6:Og A H')(r:Mc K A H' c τ' y)(nd:y.Nodup)(b:∀a∈y,a∈f∨H a=Φ):Mj K B A H' c τ' y where
 L6:=L6
 Mv:=r
 Mm:=nd
 same:=m.same.trans s.same
 own:=λa e=>(b a e).elim (m.own a) λz=>m.same.free z
 MZ:=λa h=>s.MZ a (m.MZ a h)
 out:=λa h=>by
  rcases s.out a h with h|h|h
  ·exact m.out a h
  ·exact .inr (m.own a h)
  ·exact .inr (m.same.free h)
 pin:=λa x h=>⟨s.MZ a (m.pin a x h).1,s.same.rd (m.pin a x h).2⟩
 Qt:=λa x h=>s.same.NB (m.Qt a x h)
 nm:=m.nm
def Mj.ow (m:Mj K B F H c q f)(o:Ow K F H f A H' c v d fv τ' y):Mj K B A H' c τ' y/\∀a∈fv,B.H a=Φ:=
 ⟨m.N9 o.N9 o.L6 o.Mv (s_.mp o.Mm).2.1 λa h=>o.mem a (x_ _ h),λa h=>(o.mem a (u_ _ h)).elim (m.own a) λz=>m.same.free z⟩
def Mj.grow (m:Mj K B F H c q f)(e:ir H H'):Mj K B F H' c q f:=by let⟨g,b,k⟩:=mL m.L6 m.Mv e;exact m.N9 k g b m.Mm λa h=>.inl h
def Mj.ro (m:Mj K B F H c q f)(h:K5 (g q) Kt)(k:∀p v H' A fv y,Ow K F H f A H' c v p.1 fv p.2 y->Kt p->Q v H'):RO K g c H Q:=
 ⟨F,q,f,m.L6,m.Mv,m.Mm,h.mono λp a v H' A fv y o=>k p v H' A fv y o a⟩
def Mj.rt (m:Mj K B F H c q f)(h:K5 (g q) Kt)(k:∀b H',Mj K B F H' c q f->ir H H'->Kt b->Q b H'):RT K is g c H Q:=
 lD (.refl _) (i9 m.Mv) h λb i e _ a=>k b i (m.grow e) e a
def Mj.rd (m:Mj K B F H c q f)(h:K5 (g q) Kt)(k:∀d v H',Mj K B F H' c q f->ir H H'->K6 K (nw (λ_=>True) H) H' v d->Kt d->Q v H'):RD K is g c H Q:=
 iK (.refl _) (i9 m.Mv) h λb v i e _ mv a=>k b v i (m.grow e) e mv a
mutual
theorem zG:∀(t:Tg) {c:St}{q:Ev}{f:Ì}{v:V}{d:D}{fv:Ì}{Kt:Ev->Prop}{Q:St->Hp->Prop},Mc K F H c q f->LS K F H v d fv->(fv++f).Nodup->K5 (ju t d q) Kt->
  (∀τ' L y,Mc K F H L τ' y->y.Nodup->(∀a∈y,a∈fv++f)->(∀j,j∉N8 t->L[j]? = c[j]?)->Kt τ'->Q L H)->gT K t v c H Q
 |.n i,c,q,f,v,d,fv,Kt,Q,r,m,nd,h,k=>by let⟨g,E,R,P⟩:=r.put i m;let U:(g++E).Nodup:=P.nodup_iff.mpr nd;exact k (q.set i (Δ d)) (c.set i (Δ v)) g R (s_.mp U).1 (λa w=>P.mem_iff.mp (u_ _ w)) (λj u=>aaD (λz=>u (by rw[<- z];exact r_.mpr rfl))) h.ok
 |.t ts,c,q,f,v,d,fv,Kt,Q,r,m,nd,h,k=>by
  cases m with
  |t e b=>let⟨G,h⟩:=K5.LK h;let p:=t_ G;exact⟨_,_,rfl,.inl e,by rw[b.length];exact p,mM ts r b nd h k⟩
  |g C e b=>let⟨G,h⟩:=K5.LK h;let p:=t_ G;exact⟨_,_,rfl,.inr (.inl e),by rw[b.length];exact p,mM ts r b nd h k⟩
  |l e b=>let⟨G,h⟩:=K5.LK h;let p:=t_ G;exact⟨_,_,rfl,.inr e.sq,by rw[b.length];exact p,mM ts r b nd h k⟩
  |M C e b=>let⟨G,h⟩:=K5.LK h;let p:=t_ G;rw[c_,F_]at nd;exact⟨_,_,rfl,.inr (.inl (.inl e)),by rw[b.length];exact p,mM ts r b nd.2 h λτ' L y S O N I J=>k τ' L y S O (λx s=>by rw[c_];exact J_ _ (N x s)) I J⟩
  |_=>exact h.no.elim
theorem mM:∀(ts:List Tg) {c:St}{q:Ev}{f:Ì}{vs:Ï}{g:Î}{fv:Ì}{Kt:Ev->Prop}{Q:St->Hp->Prop},Mc K F H c q f->K9 K F H vs g fv->(fv++f).Nodup->K5 (mE ts g q) Kt->
  (∀τ' L y,Mc K F H L τ' y->y.Nodup->(∀a∈y,a∈fv++f)->(∀j,j∉sf ts->L[j]? = c[j]?)->Kt τ'->Q L H)->Wm K ts vs c H Q
 |[],c,q,f,vs,g,fv,Kt,Q,r,m,nd,h,k=>by
  cases m with
  |nil=>exact⟨rfl,k q c f r (by simpa using nd) (λa i=>by simpa using i) (λ_ _=>rfl) h.ok⟩
  |cons _ _=>exact h.no.elim
 |t::ts,c,q,f,vs,g,fv,Kt,Q,r,m,nd,h,k=>by
  cases m with
  |nil=>exact h.no.elim
  |cons C M=>
   rename_i v d N vs g J
   let s:(J++(N++f)).Nodup:=by refine(List.Perm.nodup_iff ?_).mp nd;rw[<- G_];exact List.Perm.append_right f aaN
   refine⟨_,_,rfl,zG t r C (s_.mp s).2.1 (K5.KZ h) λτ' L y x n w X I=>?_⟩;refine mM ts x M (s_.mpr ⟨(s_.mp s).1,n,λa G b E e=>(s_.mp s).2.2 a G b (w b E) e⟩) I λU S W R p P l O=>k U S W R p (λa i=>?_) (λj u=>(l j λz=>u (x_ _ z)).trans (X j λz=>u (u_ _ z))) O;rcases w_.mp (P a i) with z|z
   ·exact u_ _ (x_ _ z)
   ·rcases w_.mp (w a z) with z|z
    ·exact u_ _ (u_ _ z)
    ·exact x_ _ z
end
theorem Mj.gT (m:Mj K B F H c q f)(mv:LS K F H v d fv)(nd:(fv++f).Nodup)(i:∀a∈fv,B.H a=Φ)(O:∀j∈N8 t,io≠Δ j)(h:K5 (ju t d q) Kt)
  (k:∀τ' L y,Mj K B F H L τ' y->Kt τ'->Q L H):L2.gT K t v c H Q:=
 zG t m.Mv mv nd h λτ' L y r n b g p=>k τ' L y ⟨m.L6,r,n,m.same,λa l=>(w_.mp (b a l)).elim (i a) (m.own a),m.MZ,m.out,m.pin,m.Qt,λj a e E=>(g j λz=>O j z e).trans (m.nm j a e E)⟩ p
def Mj.write (m:Mj K B F H c q f)(hs:ic q i=Δ (.l Θ ds))(O:c[i]? = Δ (Δ (.r l)))(Y:H l=Δ (.l x))(mw:LS K F H w d fv)(nd:(fv++f).Nodup)(hb:∀a∈fv,B.H a=Φ)
  (hy:∀fi,K9 K F H x ds fi->∃k h,K9 K F H ys ds' k/\(k++h).Perm (fv++fi)):∃y,Mj K B F (upd H l (.l ys)) c (q.set i (Δ (.l Θ ds'))) y:=by
 let⟨v,fs,g,C,s,h3,E⟩:=m.Mv.at hs;rw[O]at C;cases C;cases s with
 | @M a U0 ds0 fi I hH hm=>
  rw[Y]at hH;cases hH;let⟨k,h,T9,W⟩:=hy fi hm;let R:((l::fi)++g).Nodup:=E.nodup_iff.mp m.Mm;let X:(fv++((l::fi)++g)).Nodup:=(aaM fv E).nodup_iff.mp nd;let lg:l∉g:=by rw[c_,F_]at R;exact λz=>R.1 (x_ _ z)
  let G:l∉fi:=by rw[c_,F_]at R;exact λz=>R.1 (u_ _ z)
  let L:l∉fv:=λz=>(s_.mp X).2.2 l z l (by simp) rfl;let J:∀a∈k,a∈fv++fi:=λa p=>W.mem_iff.mp (u_ _ p);let X6:l∉k:=λz=>(w_.mp (J l z)).elim L G;let sl:∀a (u:LD),F a->Rd H a u.o->F a/\Rd (upd H l (.l ys)) a u.o:=λa x h r=>by refine⟨h,?_⟩;have:a≠l:=λz=>I (by rw[<- z];exact h);unfold Rd;rw[ik this];exact r
  let st:∀a x,Md K H a x->Md K (upd H l (.l ys)) a x:=λa x h=>h.upd Y;let r1:Mc K F (upd H l (.l ys)) c (q.set i Φ) g:=h3.step sl st λa p n _=>⟨n,ik λz=>lg (by rw[<- z];exact p)⟩
  let m1:LS K F (upd H l (.l ys)) (.r l) (.l Θ ds') (l::k):=.M I iq (T9.step sl st λa p n _=>⟨n,ik λz=>X6 (by rw[<- z];exact p)⟩);let⟨g',h',P,S⟩:=r1.put i m1;let NW:c.set i (Δ (.r l))=c:=by
   apply List.ext_getElem?;intro j;rw[List.getElem?_set];by_cases hj:i=j
   ·subst hj;let Mi:i < c.length:=(v_.mp O).1;rw[e_ rfl,e_ Mi,O]
   ·rw[d_ hj]
  rw[NW,List.set_set]at P;let N:((l::k)++g).Nodup:=by
   rw[c_,F_];refine⟨λz=>(w_.mp z).elim X6 lg,s_.mpr ⟨?_,(s_.mp R).2.1,λa C b s e=>?_⟩⟩
   ·have:(k++h).Nodup:=W.nodup_iff.mpr (s_.mpr ⟨(s_.mp X).1,(F_.mp (s_.mp R).1).2,λa C b s e=>(s_.mp X).2.2 a C b (u_ _ (J_ _ s)) e⟩);exact(s_.mp this).1
   ·subst e;rcases w_.mp (J a C) with z|z
    ·exact(s_.mp X).2.2 a z a (x_ _ s) rfl
    ·exact(s_.mp R).2.2 a (J_ _ z) a s rfl
  let Rf:(g'++h').Nodup:=S.nodup_iff.mpr N;let U:B.H l=Φ:=m.own l (E.mem_iff.mpr (by simp));refine⟨g',λa h=>?_,P,(s_.mp Rf).1,λb o Q=>?_,λa p=>?_,m.MZ,m.out,λa x h=>⟨(m.pin a x h).1,(sl a x (m.pin a x h).1 (m.pin a x h).2).2⟩,λa x h=>st a x (m.Qt a x h),m.nm⟩
  ·have:a≠l:=λz=>I (by rw[<- z];exact h);rw[ik this];exact m.L6 a h
  ·have:b≠l:=λz=>by rw[z,U]at Q;cases Q
   rw[ik this];exact m.same _ _ Q
  ·have:a∈(l::k)++g:=S.mem_iff.mp (u_ _ p);rcases w_.mp this with z|z
   ·rcases k_.mp z with rfl|z
    ·exact U
    ·rcases w_.mp (J a z) with z|z
     ·exact hb a z
     ·exact m.own a (E.mem_iff.mpr (u_ _ (J_ _ z)))
   ·exact m.own a (E.mem_iff.mpr (x_ _ z))
def K9.snoc (M:LS K F H w d fv)  (m:K9 K F H x b fi):∃a h,K9 K F H (x++[w]) (b++[d]) a/\(a++h).Perm (fv++fi):=
 ⟨fi++(fv++[]),[],m.append (.cons M .nil),by rw[Y_,Y_];exact aaN⟩
end
abbrev notTuple:Expr->Bool
 |.Tuple ..=>Ξ
 |_=>Θ
abbrev vC:Expr->Bool
 |.ListComp ..=>Ξ
 |.SetComp ..=>Ξ
 |.DictComp ..=>Ξ
 |_=>Θ
abbrev isName:Expr->Bool
 |.Name ..=>Θ
 |_=>Ξ
abbrev isTup:Expr->Bool
 |.Tuple ..=>Θ
 |_=>Ξ
abbrev Ua:Stmt->(Á->Expr->Bool)->Bool
 |.Assign ts v _,k=>k ts v
 |_,_=>Ξ
def m8 (h:Ua s k=Θ):∃ts v p,s=.Assign ts v p/\k ts v=Θ:=by
 cases s using zS with
 |Assign ts v p=>exact⟨ts,v,p,rfl,h⟩
 |_=>exact iF h
abbrev isAdd:Operator->Bool
 |.Add=>Θ
 |_=>Ξ
abbrev bnx:Expr->(Expr->Expr->Bool)->Bool
 |.BinOp a o b _,k=>isAdd o&&k a b
 |_,_=>Ξ
def F4 (h:bnx e k=Θ):∃a b p,e=.BinOp a .Add b p/\k a b=Θ:=by
 cases e using zE with
 |BinOp a o b p=>
  cases o with
  |Add=>exact⟨a,b,p,rfl,h⟩
  |_=>exact iF h
 |_=>exact iF h
abbrev X7 (s:Stmt)(k:Expr->Expr->Bool):Bool:=Ua s λts v=>NK ts λt=>bnx v λe r=>XZ r λE=>NK E λz=>XZ z λa=>a.isEmpty&&k t e
def F5 (h:X7 s k=Θ):∃t e lp l b pos,s=.Assign [t] (.BinOp e .Add (.List [.List [] lp] l) b) pos/\k t e=Θ:=by
 let⟨ts,v,p,rfl,j⟩:=m8 h;let⟨t,rfl,i⟩:=i5 j;let⟨e,r,b,rfl,g⟩:=F4 i;let⟨E,l,rfl,f⟩:=qD g;let⟨z,rfl,c⟩:=i5 f;let⟨a,lp,rfl,H⟩:=qD c
 cases a using zL with
 |nil=>exact⟨_,_,_,_,_,_,rfl,H⟩
 |cons _ _=>exact iF H
abbrev alv (s:Stmt)(k:Expr->Str->Expr->Bool):Bool:=Ua s λts v=>NK ts λt=>T2 v λo e=>Ov (λx=>k t x e) o
def F6 (h:alv s k=Θ):∃t x p e sp pos,s=.Assign [t] (.Subscript (.Name x p) e sp) pos/\k t x e=Θ:=by let⟨ts,v,p,rfl,c⟩:=m8 h;let⟨t,rfl,b⟩:=i5 c;let⟨o,e,sp,rfl,a⟩:=l5 b;let⟨x,P,rfl,H⟩:=ji a;exact⟨_,_,_,_,_,_,rfl,H⟩
abbrev X8:Stmt->(Expr->À->À->Bool)->Bool
 |.If c a b _,k=>k c a b
 |_,_=>Ξ
def ur (h:X8 s k=Θ):∃c a b p,s=.If c a b p/\k c a b=Θ:=by
 cases s using zS with
 |If c a b p=>exact⟨c,a,b,p,rfl,h⟩
 |_=>exact iF h
abbrev Ub:Stmt->(Expr->Bool)->Bool
 |.Expr e _,k=>k e
 |_,_=>Ξ
def oK (h:Ub s k=Θ):∃e p,s=.Expr e p/\k e=Θ:=by
 cases s using zS with
 |Expr e p=>exact⟨e,p,rfl,h⟩
 |_=>exact iF h
abbrev X9 {b:Type}:Option b->(b->Bool)->Bool
 |some a,k=>k a
 |none,_=>Ξ
def uu {b:Type}{o:Option b}{k:b->Bool}(h:X9 o k=Θ):∃a,o=Δ a/\k a=Θ:=by
 cases o using zO with
 |none=>exact iF h
 |some a=>exact⟨a,rfl,h⟩
abbrev frx:Stmt->(Expr->Expr->À->À->Bool)->Bool
 |.For t i b e _,k=>k t i b e
 |_,_=>Ξ
def F7 {s:Stmt}{k:Expr->Expr->À->À->Bool}(h:frx s k=Θ):∃t i b e p,s=.For t i b e p/\k t i b e=Θ:=by
 cases s using zS with
 |For t i b e p=>exact⟨t,i,b,e,p,rfl,h⟩
 |_=>exact iF h
abbrev Ya:Stmt->(Option Expr->Bool)->Bool
 |.Return e _,k=>k e
 |_,_=>Ξ
def uv (h:Ya s k=Θ):∃e p,s=.Return e p/\k e=Θ:=by
 cases s using zS with
 |Return e p=>exact⟨e,p,rfl,h⟩
 |_=>exact iF h
abbrev Yb (s:Stmt)(k:Expr->Str->Á->Bool):Bool:=Ua s λts v=>NK ts λt=>QP v λx a=>k t x a
def F8 (h:Yb s k=Θ):∃t X p a q pos,s=.Assign [t] (.Call (.Name X p) a [] q) pos/\k t X a=Θ:=by let⟨ts,v,pos,rfl,h⟩:=m8 h;let⟨t,rfl,h⟩:=i5 h;let⟨x,p,as,q,rfl,h⟩:=jD h;exact⟨t,x,p,as,q,pos,rfl,h⟩
abbrev Yc (s:Stmt)(k:Str->Á->Bool):Bool:=Ya s λe=>X9 e λe=>QP e k
def F9 (h:Yc s k=Θ):∃X p a q pos,s=.Return (Δ (.Call (.Name X p) a [] q)) pos/\k X a=Θ:=by let⟨e,pos,rfl,h⟩:=uv h;let⟨e,rfl,h⟩:=uu h;let⟨x,p,as,q,rfl,h⟩:=jD h;exact⟨x,p,as,q,pos,rfl,h⟩
abbrev Yd (s:Stmt)(k:Str->Expr->Str->Á->Bool):Bool:=Ua s λts v=>NK ts λt=>T2 t λa e=>Ov (λx=>QP v λX A=>k x e X A) a
def Ga (h:Yd s k=Θ):∃x p e sp X P A q pos,s=.Assign [.Subscript (.Name x p) e sp] (.Call (.Name X P) A [] q) pos/\k x e X A=Θ:=by let⟨ts,v,pos,rfl,h⟩:=m8 h;let⟨t,rfl,h⟩:=i5 h;let⟨a,e,sp,rfl,h⟩:=l5 h;let⟨x,p,rfl,h⟩:=ji h;let⟨X,P,as,q,rfl,h⟩:=jD h;exact⟨x,p,e,sp,X,P,as,q,pos,rfl,h⟩
abbrev ifw (s:Stmt)(k:Str->Á->Expr->Expr->À->À->Bool):Bool:=X8 s λc x y=>Z4 c λl os rs=>os == [.NotEq]&&NK rs λr=>T2 l λf e=>QP f λX a=>k X a e r x y
def Gb (h:ifw s k=Θ):∃X p a q e sp r C x y pos,s=.If (.Compare (.Subscript (.Call (.Name X p) a [] q) e sp) [.NotEq] [r] C) x y pos/\k X a e r x y=Θ:=by let⟨c,x,y,pos,rfl,h⟩:=ur h;let⟨l,os,rs,C,rfl,g⟩:=zg h;let⟨H,b⟩:=l_.mp g;let E:os=[.NotEq]:=h_ H;subst E;let⟨r,rfl,h⟩:=i5 b;let⟨f,e,sp,rfl,h⟩:=l5 h;let⟨X,p,as,q,rfl,h⟩:=jD h;exact⟨X,p,as,q,e,sp,r,C,x,y,pos,rfl,h⟩
def nmT {t:Expr}(h:isName t=Θ):∃y p,t=.Name y p:=by
 cases t using zE with
 |Name y p=>exact⟨y,p,rfl⟩
 |_=>exact iF h
def plx {b:Expr}(h:iW b=Θ):uQ b:=λo i=>by induction b using zE<;>first|rfl|exact iF h
def pgs {X:Cx}{o i:Expr}{to a:TE}{t:EL}{pos:Pos}(H:PE X o to)(hi:PE X i a)(hs:EM X t)(h:iW i=Θ):PG X (.Subscript o i pos) (Hv to a t):=EN H hi hs (by intro _;induction i using zE<;>first|rfl|exact iF h)
def psS {X:Cx}{a b e:Expr}{c:TE}{g:TG}{pos p:Pos}(H:PE X e c)(h:PG X (.Subscript a b p) g):PS X (.Assign [.Subscript a b p] e pos) (BU c g):=xO H h (by induction e using zE<;>rfl) (by induction e using zE<;>rfl) rfl
abbrev alt (s:Stmt)(k:Str->Expr->Expr->Bool):Bool:=Ua s λts v=>NK ts λt=>T2 t λo e=>Ov (λx=>k x e v) o
def Gd (h:alt s k=Θ):∃y p e sp v a,s=.Assign [.Subscript (.Name y p) e sp] v a/\k y e v=Θ:=by let⟨ts,v,a,rfl,f⟩:=m8 h;let⟨t,rfl,c⟩:=i5 f;let⟨o,e,sp,rfl,b⟩:=l5 c;let⟨y,p,rfl,H⟩:=ji b;exact⟨_,_,_,_,_,_,rfl,H⟩
abbrev apv (s:Stmt)(k:Str->Str->Bool->Expr->Bool):Bool:=Ub s λb=>P0 b λf ws L=>RY f λo name a=>Ov (λy=>NK ws λw=>k y name (a.endLine == L.line) w) o
def Ge (h:apv s k=Θ):∃y p name a w L e,s=.Expr (.Call (.Attribute (.Name y p) name a) [w] [] L) e/\k y name (a.endLine == L.line) w=Θ:=by let⟨b,e,rfl,c⟩:=oK h;let⟨f,ws,L,rfl,H⟩:=jX c;let⟨o,name,a,rfl,Q⟩:=mZ H;let⟨y,p,rfl,S⟩:=ji Q;let⟨w,rfl,g⟩:=i5 S;exact⟨_,_,_,_,_,_,_,rfl,g⟩
abbrev alx (s:Stmt)(k:Expr->Str->Expr->Expr->Str->Str->Bool->Expr->Bool):Bool:=X8 s λc a b=>NK a λa=>alt a λy e v=>NK b λb=>apv b λY name l w=>k c y e v Y name l w
def Gf (h:alx s k=Θ):∃c y p e sp v f Y P name A w L E pos,s=.If c [.Assign [.Subscript (.Name y p) e sp] v f] [.Expr (.Call (.Attribute (.Name Y P) name A) [w] [] L) E] pos/\k c y e v Y name (A.endLine == L.line) w=Θ:=by let⟨c,a,b,pos,rfl,l⟩:=ur h;let⟨a,rfl,j⟩:=i5 l;let⟨y,p,e,sp,v,f,rfl,i⟩:=Gd j;let⟨b,rfl,g⟩:=i5 i;let⟨Y,P,name,A,w,L,E,rfl,H⟩:=Ge g;exact⟨_,_,_,_,_,_,_,_,_,_,_,_,_,_,_,rfl,H⟩
abbrev vD (Z:Sg)(G:Gm)(i j:Nat)(e c x v w:IR)(s b:Stmt):Bool:=
 (alv s λt X S=>isName t&&jM G (.n j) t&&ke G i X&&iW S&&LV Z G e S&&decide (i≠j)) &&
 alx b λC y S a Y name l W=>LV Z G c C&&ke G j y&&iW S&&LV Z G x S&&LV Z G v a&&ke G j Y&&name == "append"&&l&&notStar W&&LV Z G w W
abbrev pA (Z:Sg)(G:Gm):Ë->Á->Bool
 |[],[e]=>notStar e&&SM e
 |a::E,e::l=>notStar e&&LV Z G a e&&pA Z G E l
 |_,_=>Ξ
mutual
noncomputable def zH (Z:Sg)(G:Gm):IS->Stmt->Bool
 |.a h e,s=>Ua s λts v=>NK ts λt=>jM G h t&&LV Z G e v&&(isName t||(isTup t&&notTuple v))
 |.V f E,s=>Yc s λX g=>G.cm&&(jZ Z G f X&&Z.Nk.contains f)&&pA Z G E g
 |.U j R fr t q,s=>X7 s λh e=>isName h&&jM G (.n j) h&&LV Z G (.d R fr (.n t) q [] (.l [])) e
 |.N i e,s=>Ya s λo=>X9 o λv=>G.io == Δ i&&LV Z G e v
 |.c i k f E,s=>Yd s λx m X g=>ke G i x&&iW m&&LV Z G k m&&G.cm&&(jZ Z G f X&&Z.Nk.contains f)&&iX Z G (E++[.v i]) g&&!(ij E).contains i
 |.P f E i k e a b,s=>ifw s λX g m r x y=>iW m&&LV Z G k m&&LV Z G e r&&G.cm&&(jZ Z G f X&&Z.Nk.contains f)&&iX Z G (E++[.v i]) g&&!(ij E).contains i&&jr Z G a x&&jr Z G b y
 |.i i k e,s=>Ub s λv=>P0 v λF as C=>RY F λo n p=>n == "insert"&&p.endLine == C.line&&Ov (ke G i) o&&U7 as λa b=>notStar a&&notStar b&&LV Z G k a&&LV Z G e b
 |.A i e,s=>Ub s λv=>P0 v λF as C=>RY F λo n p=>n == "append"&&p.endLine == C.line&&Ov (ke G i) o&&NK as λa=>notStar a&&LV Z G e a
 |.S j f E i,s=>Yb s λt X g=>isName t&&jM G (.n j) t&&G.cm&&(jZ Z G f X&&Z.Nk.contains f)&&iX Z G (E++[.v i]) g&&!(ij E).contains i&&decide (i≠j)
 |.e e,s=>Ub s λv=>vC v&&LV Z G e v
 |.r e,s=>Ya s λo=>X9 o λv=>LV Z G e v
 |.L t a b,s=>X8 s λc x y=>LV Z G t c&&jr Z G a x&&jr Z G b y
 |.b h s body,st=>frx st λt I b u=>((G.cm&&G.rs)&&jM G h t)&&(kM Z G s I&&qB s t)&&jr Z G body b&&u.isEmpty
 |.n,_=>Θ
 |.Q i j e,s=>Ub s λv=>P0 v λF as C=>RY F λo n p=>n == "append"&&p.endLine == C.line&&Ov (λx=>ke G i x) o&&NK as λw=>P0 w λM J H=>RY M λO B Y=>B == "pop"&&Y.endLine == H.line&&Ov (λy=>ke G j y) O&&NK J λz=>notStar z&&LV Z G e z
 |_,_=>Ξ
noncomputable def jr (Z:Sg)(G:Gm):Ê->À->Bool
 |[],[]=>Θ
 |.R i j e c x v w::as,s::b::S=>vD Z G i j e c x v w s b&&jr Z G as S
 |a::as,s::S=>zH Z G a s&&jr Z G as S
 |_,_=>Ξ
end
abbrev DT:IS->Bool
 |.R _ _ _ _ _ _ _=>Θ
 |_=>Ξ
def uw (h:DT a=Ξ):jr Z G (a::as) (s::ss)=(zH Z G a s&&jr Z G as ss):=by
 induction a using zT<;>first|rfl|cases h
def DU {X:Cx}(e:jM G a t=Θ)  (h:RS X.K G.io (λb=>KZ (k b) λp=>KZ (ju a p.1 p.2) λτ'=>.ok (.n τ')) l c H):BU (RO X.K k) (gT X.K a) l c H:=by let⟨B,F,b,f,m,q⟩:=h;refine m.ro (K5.KZ q) λp v u w r s o g=>?_;let⟨M,i⟩:=m.ow o;exact M.gT o.rep o.Mm i (mK a t e) (K5.KZ g) λτ' L W R j=>j.ok _ _ _ _ R
def KP (g:Mf Z CX cl X G)  (ht:jM G tg t=Θ)(J:LV Z G e v=Θ)(hc:(isName t||(isTup t&&notTuple v))=Θ):PS X (.Assign [t] v pos) (RS X.K G.io (Ms cl (.a tg e))):=by
 let pe:=SU e Ξ X G v g J;let pg:=SR g tg t ht
 cases t using zE with
 |Name x Y=>
  cases tg with
  |t _=>cases ht
  |n i=>
   let N3:(G.N[i]? == Δ x&&(G.kd[i]? == Δ .local||(G.df&&G.kd[i]? == Δ .cell)))=Θ:=(l_.mp ht).1;rw[g_,aaf,g_]at N3;let hx:G.N[i]? = Δ x:=h_ N3.1;let hk:=g.kd i x hx;let Px:Loc X.env.scope x:=N3.2.elim (λz=>.inl (hk.trans (h_ z))) λz=>.inr (hk.trans (h_ z.2));let Qz:X.fn x=Θ∨X.env.scope.names.lookup x=Δ .local:=N3.2.elim (λz=>.inr (hk.trans (h_ z))) λz=>.inl (g.df z.1 x);let plain:swapsWith v (Δ (.Name x Y)) pos.line X.env=pure Ξ->PS X (.Assign [.Name x Y] v pos) (RS X.K G.io (Ms cl (.a (.n i) e))):=λR=>
    jg (qc (i:=i) (by rw[g.N];exact g.Mm) (by rw[g.N];exact hx) Px pe R Qz) λDn σ H h=>DU ht h
   cases v using zE with
   |ListComp el W c Qj=>
    let VS:swapsWith (.ListComp el W c Qj) (Δ (.Name x Y)) pos.line X.env=pure (X.env.blockKind == .function&&X.env.kindOf x == Δ .local&&Y.line == Qj.line&&!(c.names.any λ(n,k)=>n == x&&(k == .local||k == .cell))):=rfl;cases hb:(X.env.blockKind == .function&&X.env.kindOf x == Δ .local&&Y.line == Qj.line&&!(c.names.any λ(n,k)=>n == x&&(k == .local||k == .cell))) with
    |false=>exact plain (by rw[VS,hb])
    |true=>
     rw[hb]at VS;let hlx:X.env.kindOf x=Δ .local:=by simp only[g_]at hb;exact h_ hb.1.1.2
     cases e with
     |d j fr T b I E=>
      let J:zb W (λt it fs=>jW Z G c j fr&&jM j T t&&(N8 T).all (λi=>decide (fr.length<=i))&&(kM Z G b it&&qB b t)&&iX Z j I fs&&LV Z j E el)=Θ:=J;let⟨t,it,fs,rfl,J⟩:=nH J;let N:(jW Z G c j fr&&jM j T t&&(N8 T).all (λi=>decide (fr.length<=i))&&(kM Z G b it&&qB b t)&&iX Z j I fs&&LV Z j E el)=Θ:=J;simp only[g_]at N;let R:=nL N.1.1.1.1.1;let hT:=N.1.1.1.1.2;let L:∀i∈N8 T,fr.length<=i:=λi hi=>t_ (M_.mp N.1.1.1.2 i hi);intro pins s' σ H Dn Iv h;let⟨MX,S⟩:=kU g Iv.ok R;let p:=B5 (P:=Y) (k:=pos) (i:=i) (pos:=Qj) (E:=el) (f:=fs) (n:=t) (g:=gT X.K T) (Y:=RT X.K (ij I) (kE cl I)) (te:=RD X.K (vars E) (K8 cl E)) (g.calm R.cm) (by rw[g.N];exact g.Mm) (by rw[g.N];exact hx) hlx S (zC b X G it t g N.1.1.2.1 N.1.1.2.2) (λC s H fp=>SR (jj g R MX C s H fp) T t hT)
       (λC s H fp=>zA I _ j fs (jj g R MX C s H fp) N.1.2) (λC s H fp=>(snd E _ j el (jj g R MX C s H fp) N.2).1) VS (λx=>jE N.1.1.2.1 X.env x)
      refine p pins s' σ H Dn Iv ?_;let⟨B,F,y,f,m,q⟩:=h
      -- as one afP is kept
      let q0:K5 (KZ (KZ (K8 cl (.d j fr T b I E) y) λd=>.ok (iE (.d j fr T b I E) d y)) λp=>KZ (ju (.n i) p.1 p.2) λP=>.ok (.n P)) (Fk X.K B Dn):=q;let q1:=K5.KZ (K5.KZ q0);let fin:∀(d:D) (v:V) (O:Hp) (F':Å) (fv f':Ì),Ow X.K F H f F' O σ v (iE (.d j fr T b I E) d y).1 fv (iE (.d j fr T b I E) d y).2 f'->(∀(p:D×Ev),p=iE (.d j fr T b I E) d y->K5 (KZ (ju (.n i) p.1 p.2) λP=>.ok (.n P)) (Fk X.K B Dn))->Dn.nx (σ.set i (Δ v)) O:=by intro d v O F' fv f' o hp;let⟨m',OE⟩:=m.ow o;have:=m'.gT (t:=.n i) (Q:=Dn.nx) o.rep o.Mm OE (mK _ _ ht) (K5.KZ (hp _ rfl)) λP LW Wn R4 N=>N.ok _ _ _ _ R4;exact this
      cases z:K8 cl (.d j fr T b I E) y with
      |error er=>rw[z]at q1;cases er;exact q1.no.elim
      |ok d=>
       rw[z]at q1;let q2:=q1.ok.ok;obtain⟨U,w,rfl⟩:∃o w,d=.l o w:=by let u:=z;rw[oJ]at u;let⟨its,_,u⟩:=jV u;let⟨_,u⟩:=ug u;let⟨w,_,u⟩:=jV u;cases u;exact⟨Θ,w,rfl⟩
       by_cases hi:fT w=Θ
       ·let Qg:iE (.d j fr T b I E) (.l U w) y=(.l Θ w,y):=by unfold iE;rw[d_ (show ¬il (.l U w)=Θ by intro z;cases z)];show(if fT w=Θ then _ else _)=_;rw[e_ hi]
        refine kW (S:=λ_=>True) (f:=y) (Kt:=λd'=>∃Wo,d'=.l Wo w) R.X3 L (i9 m.Mv) ?_ λA ys ds' O e hA R0 mm k=>?_
        ·show K5 (K8 cl (.d j fr T b I E) y) _;rw[z];exact⟨U,rfl⟩
        ·let⟨Wo,k⟩:=k;cases k;let⟨k1,k2,k3⟩:=mL m.L6 m.Mv e;refine fin (.l U w) (.r A) O F [A] f ?_ (λp hp=>by subst hp;exact q2);rw[Qg];refine⟨k3,k1,.M (λu=>m.L6 A u hA) R0 (mm.free hi),k2,?_,λa L=>?_⟩
         ·rw[aav,F_];refine⟨λu=>?_,m.Mm⟩;let⟨_,xs,e⟩:=m.Mv.own A u;rw[hA]at e;cases e
         ·rw[aav]at L;rcases k_.mp L with rfl|L
          ·exact .inr hA
          ·exact .inl L
       ·let Qg:iE (.d j fr T b I E) (.l U w) y=(.l Θ (LM w),LZ (vars (.d j fr T b I E)) y):=by unfold iE;rw[d_ (show ¬il (.l U w)=Θ by intro z;cases z)];show(if fT w=Θ then _ else _)=_;rw[d_ hi]
        let⟨F1,gg,b1,b2,b3,b4,b5,b6⟩:=kA (vars (.d j fr T b I E)) m.L6 m.Mv m.Mm;refine kW (S:=F1) (f:=y) (Kt:=λd'=>∃Wo,d'=.l Wo w) R.X3 L b6 ?_ λA ys ds' O e hA R0 mm k=>?_
        ·show K5 (K8 cl (.d j fr T b I E) y) _;rw[z];exact⟨U,rfl⟩
        ·let⟨Wo,k⟩:=k;cases k;let⟨c1,c2,c3⟩:=grow (λa=>a≠A) b1 b2 e;let m2:K4 X.K (λa=>F1 a∨(a≠A/\H a=Φ/\O a≠Φ)) O ys w:=mm.step (λa xs h r=>⟨h.1.elim (λz=>.inl z) λz=>.inr ⟨h.2,z,r.some⟩,r⟩) λa xs h=>h;refine fin (.l U w) (.r A) O (λa=>F1 a∨(a≠A/\H a=Φ/\O a≠Φ)) [A] gg ?_ (λp hp=>by subst hp;exact q2);rw[Qg];refine⟨b4.trans c3 (λx hx=>.inl (b5 x hx)),c1,.M (λu=>?_) R0 m2.frozen,c2,?_,λa L=>?_⟩
         ·rcases u with u|u
          ·exact b1 A u hA
          ·exact u.1 rfl
         ·rw[aav,F_];refine⟨λu=>?_,b3⟩;let⟨_,xs,e⟩:=b2.own A u;rw[hA]at e;cases e
         ·rw[aav]at L;rcases k_.mp L with rfl|L
          ·exact .inr hA
          ·exact .inl (b5 a L)
     |_=>first|exact iF J|cases J
   |SetComp _ _ _ _=>cases e<;>first|exact iF J|cases J
   |DictComp _ _ _ _ _=>cases e<;>first|exact iF J|cases J
   |_=>exact plain rfl
 |Tuple ts k Y=>
  let UR:notTuple v=Θ:=hc;refine jg (xO pe pg ?_ ?_ rfl) λDn σ H h=>DU ht h
  ·induction v using zE<;>rfl
  ·induction v using zE<;>first|rfl|cases UR
 |_=>cases hc
def Md.aan {K:Frag}  (b:H l=Δ (.d ys))(h:Md K H a x):Md K (L2.upd H l (.d c)) a x:=by exact h.cl (yL λx z=>by rcases z with z|⟨O,z⟩<;>(rw[b]at z;cases z))
def K9.noF {K:Frag}  (h:K9 K F H vs a f)(n:fT a=Θ):f=[]:=by refine K9.rec (motive_1:=λ_ d f _=>il d=Θ->f=[]) (motive_2:=λ_ d f _=>fT d=Θ->f=[]) (λ_=>rfl) (λ_ _=>rfl) (λ_ _=>rfl) (λ_ _=>rfl) (λ_ _ i z=>i z) (λ_ _ _ _ _=>rfl) (λ_ _ _ _=>rfl) (λ_ _ _ _ z=>iF z) (λ_ _ _ _ _ _=>rfl) (λ_ _ _ _ _ z=>iF z) (λ_=>rfl) (λ{v d f vs a g} _ _ i j z=>?_) h n;let b:=l_.mp (show(il d&&fT a)=Θ from z);rw[i b.1,j b.2];rfl
def nM {K:Frag}  (r:Mc K F H c b f)(hs:ic b i=Δ (.K Θ ks j))(n:fT j=Θ) :
  ∃l kvs g,c[i]? = Δ (Δ (.r l))/\¬F l/\H l=Δ (.d kvs)/\kvs.map (·.1)=ks/\K9 K F H (kvs.map (·.2)) j []/\Mc K F H c (b.set i Φ) g/\f.Perm (l::g):=by
 let⟨v,fs,g,w,u,s,q⟩:=r.at hs;cases u with
 | @P a kvs _ _ fi p m k h=>let e:=h.noF n;subst e;exact⟨a,kvs,g,w,p,m,k,h,s,q⟩
def Mj.Uc {K:Frag}  (m:Mj K B F H c e f)(y:c[i]? = Δ (Δ (.r l)))(p:¬F l)(N:H l=Δ (.d kvs))(I:Mc K F H c (e.set i Φ) g)(q:f.Perm (l::g))
  (O:M.map (·.1)=A) (J:K9 K F H (M.map (·.2)) ds' []):∃U,Mj K B F (upd H l (.d M)) c (e.set i (Δ (.K Θ A ds'))) U:=by
 let w:(l::g).Nodup:=q.nodup_iff.mp m.Mm;let lg:l∉g:=(F_.mp w).1;let sl:∀a (u:LD),F a->Rd H a u.o->F a/\Rd (upd H l (.d M)) a u.o:=λa x h r=>by refine⟨h,?_⟩;have:a≠l:=λz=>p (by rw[<- z];exact h);unfold Rd;rw[ik this];exact r
 let st:∀a x,Md K H a x->Md K (upd H l (.d M)) a x:=λa x h=>h.aan N;let C:Mc K F (upd H l (.d M)) c (e.set i Φ) g:=I.step sl st λa k n _=>⟨n,ik λz=>lg (by rw[<- z];exact k)⟩
 let E:LS K F (upd H l (.d M)) (.r l) (.K Θ A ds') [l]:=.P p iq O (J.step sl st jt);let⟨G,S,R,s⟩:=C.put i E;let X:c.set i (Δ (.r l))=c:=by
  apply List.ext_getElem?;intro j;rw[List.getElem?_set];by_cases v:i=j
  ·subst v;rw[e_ rfl,e_ (v_.mp y).1,y]
  ·rw[d_ v]
 rw[X,List.set_set]at R;let W:(G++S).Nodup:=s.nodup_iff.mpr w;let L:B.H l=Φ:=m.own l (q.mem_iff.mpr (by simp));refine⟨G,λa h=>?_,R,(s_.mp W).1,λb o Q=>?_,λa k=>m.own a (q.mem_iff.mpr (s.mem_iff.mp (u_ _ k))),m.MZ,m.out,λa x h=>⟨(m.pin a x h).1,(sl a x (m.pin a x h).1 (m.pin a x h).2).2⟩,λa x h=>st a x (m.Qt a x h),m.nm⟩
 ·have:a≠l:=λz=>p (by rw[<- z];exact h);rw[ik this];exact m.L6 a h
 ·have:b≠l:=λz=>by rw[z,L]at Q;cases Q
  rw[ik this];exact m.same _ _ Q
def has_any (kvs:List (Key×V))(q:Key):(kvs.any λk=>decide (k.1=q))=rO (kvs.map (·.1)) q:=by unfold rO;rw[List.any_map];rfl
def IJ (kvs:List (Key×V))(q:Key)(v:V):(putK kvs q v).map (·.1)=ou (kvs.map (·.1)) q:=by
 unfold putK ou;rw[has_any];by_cases h:rO (kvs.map (·.1)) q=Θ
 ·rw[e_ h,e_ h,z_];refine S_ λk _=>?_;show(if k.1=q then(k.1,v) else k).1=k.1;split<;>rfl
 ·rw[d_ h,d_ h,I_];rfl
def IK {K:Frag}(q:Key)  (mv:K6 K S H v d)  (m:K4 K S H (kvs.map (·.2)) a):K4 K S H ((putK kvs q v).map (·.2)) (lF (kvs.map (·.1)) a q d):=by
 unfold putK lF;rw[has_any];by_cases h:rO (kvs.map (·.1)) q=Θ
 ·rw[e_ h,e_ h,z_];clear h
  induction kvs generalizing a with
  |nil=>cases m;exact .nil
  |cons p kvs i=>
   rw[a_]at m
   cases a using zL with
   |nil=>exact absurd m.length (by simp)
   |cons e a=>
    cases m with
    |cons b M=>
     rw[a_,a_,List.zipWith_cons_cons];refine .cons ?_ (i M);show K6 K S H (if p.1=q then(p.1,v) else p).2 (if p.1=q then d else e);split
     ·exact mv
     ·exact b
 ·rw[d_ h,d_ h,I_];exact m.append (.cons mv .nil)
def Gg (H:fT f=Θ)(c:il d=Θ):fT (lF ks f q d)=Θ:=by
 unfold lF;rw[iT]at H;rw[iT,M_];rw[M_]at H;intro x h;split at h
 ·rw[aao]at h;let⟨i,hi⟩:=h;rw[List.getElem?_zipWith]at hi;split at hi
  ·rename_i a b E e
   cases hi;split
   ·exact c
   ·exact H _ (Z_ e)
  ·cases hi
 ·rcases w_.mp h with h|h
  ·exact H x h
  ·rw[r_.mp h];exact c
theorem l6 (is:Ç):∀(a:Ev) (k i:Nat),is.contains (k+i)=Ξ->ic (mU is k a) i=ic a i
 |[],k,i,h=>rfl
 |o::a,k,0,h=>by unfold mU;rw[jF,jF,d_ (by rw[show k=k+0 from rfl,h];simp)]
 |o::a,k,i+1,h=>by unfold mU;rw[jo,jo];exact l6 is a (k+1) i (by rw[<- h];congr 1;omega)
def LS.parts {K:Frag}(h:LS K F H v (.l o E) fv):∃b z j h',v=.r b/\MR K H b z/\K9 K F H z E j/\(j++h').Perm fv:=by
 cases h with
 |g k i e=>exact⟨_,_,[],[],rfl,.inl i,e,.refl _⟩
 |l i e=>exact⟨_,_,[],[],rfl,i.sq,e,.refl _⟩
 | @M a x m f k i e=>exact⟨a,_,f,[a],rfl,.inl (.inl i),e,aaN (l₁:=f) (l₂:=[a])⟩
def K9.split {K:Frag}(n:Nat)  (h:K9 K F H vs i f):∃e c,K9 K F H (vs.take n) (i.take n) e/\K9 K F H (vs.drop n) (i.drop n) c/\e++c=f:=by
 revert n;refine K9.ind (P:=λvs i f=>∀n,∃e c,K9 K F H (vs.take n) (i.take n) e/\K9 K F H (vs.drop n) (i.drop n) c/\e++c=f) (λn=>⟨[],[],by rw[List.take_nil,List.take_nil];exact .nil,by rw[List.drop_nil,List.drop_nil];exact .nil,rfl⟩) (λv d f vs i g a b j n=>?_) h;cases n with
 |zero=>exact⟨[],f++g,.nil,.cons a b,rfl⟩
 |succ n=>let⟨e,c,m,l,k⟩:=j n;exact⟨f++e,c,.cons a m,l,by rw[G_,k]⟩
def l7 {K:Frag}  (r:Mc K F H b a f)(hs:ic a i=Δ (.l Θ k)):∃l x,b[i]? = Δ (Δ (.r l))/\H l=Δ (.l x)/\x.length=k.length:=by
 let⟨v,fs,g,j,e,p,n⟩:=r.at hs;cases e with
 |M m c h=>exact⟨_,_,j,c,h.length⟩
def Oy (g:Mf Z CX cl X G)  (h1:ke G i x=Θ)(h2:(A.endLine == N.line)=Θ)(J:notStar s=Θ)(j:notStar v=Θ)(h4:LV Z G k s=Θ)(h5:LV Z G e v=Θ) :
  PS X (.Expr (.Call (.Attribute (.Name x p) "insert" A) [s,v] [] N) pos) (RS X.K G.io (Ms cl (.i i k e))):=by
 let pa:PA X [s,v] (kg (RD X.K (vars k) (K8 cl k)) (kg (RO X.K (Ml cl Ξ e)) o6)):=iH (snd k X G s g h4).1 (iH (SU e Ξ X G v g h5) iZ (fS j _ _)) (fS J _ _);let NA:((backTo N (Ν [s,v] X.env)).all (λx=>!x.1)&&(backToKw N (keywordEach [] X.env)).all (λx=>x.1.isSome)&&decide ([s,v].length+([]:List Keyword).length+(if([]:List Keyword).isEmpty then 0 else 1) < 30))=Θ:=by rw[fS J,fS j];rfl
 refine jg (mj (ni PySem.F.plainAttrs_list PySem.F.slot_list_insert PySem.F.type_list_insert Fp (lJ g h1) pa rfl NA h2 (fS J _ _) (by rw[fS j];rfl))) λDn σ H h=>?_;let⟨B,F,u,f,m,q⟩:=h;let Q:K5 (match ic u i with|some (.l _ _)=>(KZ (K8 cl k u) λy=>KZ (Ml cl Ξ e u) λp=>(match y,ic p.2 i with|.i z,Δ (.l Θ c)=>LK (decide (0<=z/\z.toNat<=c.length)&&jf c.length) (.ok (.n (p.2.set i (Δ (.l Θ (c.take z.toNat++p.1::c.drop z.toNat))))))|_,_=>LP))|_=>LP) (Fk X.K B Dn):=q;cases E:ic u i with
 |none=>rw[E]at Q;exact Q.no.elim
 |some d0=>
  rw[E]at Q
  cases d0 using zD with
  |l o0 ds0=>
   let⟨v0,fv0,g0,M,a2,a3,a4⟩:=m.Mv.at E;let⟨l,Yi,_,_,rfl,hq,_⟩:=a2.parts;refine⟨.r l,M,.inl ⟨rfl,Yi,hq⟩,m.rd (K5.KZ Q) λy w H1 O e1 mw q1=>?_⟩;refine O.ro (K5.KZ q1) λp v H' F' fv f' o a=>?_;let⟨P,hb⟩:=O.ow o
   cases y using zD with
   |i z=>
    cases mw.L5;cases C:ic p.2 i with
    |none=>simp only[C]at a;exact a.no.elim
    |some d=>
     simp only[C]at a
     cases d using zD with
     |l ow c=>
      cases ow using zB with
      |false=>exact a.no.elim
      |true=>
       let⟨L,a⟩:=K5.LK a;rw[g_]at L;let S:0<=z/\z.toNat<=c.length:=t_ L.1;let⟨l',I,U,R,b⟩:=l7 P.Mv C;rw[M]at U;cases U;let⟨Wn,m3⟩:=P.write (ys:=I.take z.toNat++v::I.drop z.toNat) (ds':=c.take z.toNat++p.1::c.drop z.toNat) C M R o.rep o.Mm hb λfi hm=>by let⟨f1,f2,s1,Y,W⟩:=hm.split z.toNat;refine⟨f1++(fv++f2),[],s1.append (.cons o.rep Y),?_⟩;rw[Y_,<- W,<- G_,<- G_];exact List.Perm.append_right _ aaN
       exact⟨l,I,z,v,rfl,rfl,R,S.1,by rw[b];exact S.2,by rw[b];exact kx L.2,a.ok _ _ _ _ m3⟩
     |_=>exact a.no.elim
   |_=>exact a.no.elim
  |_=>exact Q.no.elim
theorem ux {K:Frag}  : ∀ {ns:È}{x:Ï}{fi:Ì},K9 K F H x (ns.map .i) fi->x=ns.map .i/\fi=[]
 |[],_,_,h=>by cases h;exact⟨rfl,rfl⟩
 |n::ns,_,_,h=>by
  cases h with
  |cons b a=>cases b;let⟨rfl,rfl⟩:=ux a;exact⟨rfl,rfl⟩
theorem zJ {K:Frag}  : ∀ns:È,K9 K F H (ns.map .i) (ns.map .i) []
 |[]=>.nil
 |n::ns=>.cons (.I n) (zJ ns)
theorem pV {b c:Type}(f:b->c):∀(l:List b) (k:Nat),(l.map f).eraseIdx k=(l.eraseIdx k).map f
 |[],_=>rfl
 |_::_,0=>rfl
 |a::l,k+1=>congrArg (f a::·) (pV f l k)
def C' (g:Mf Z CX cl X G)  (h1:ke G i x=Θ)(T8:ke G j y=Θ)(h2:(E.endLine == LY.line)=Θ)(Z':(U.endLine == O.line)=Θ)(h3:notStar v=Θ)(h4:LV Z G e v=Θ) :
  PS X (.Expr (.Call (.Attribute (.Name x p) "append" E) [.Call (.Attribute (.Name y P) "pop" U) [v] [] O] [] LY) pos) (RS X.K G.io (Ms cl (.Q i j e))):=by
 let pa:PA X [v] (kg (RD X.K (vars e) (K8 cl e)) o6):=iH (snd e X G v g h4).1 iZ (fS h3 _ _);let NA:((backTo O (Ν [v] X.env)).all (λx=>!x.1)&&(backToKw O (keywordEach [] X.env)).all (λx=>x.1.isSome)&&decide ([v].length+([]:List Keyword).length+(if([]:List Keyword).isEmpty then 0 else 1) < 30))=Θ:=by rw[fS h3];rfl
 let n:=ni PySem.F.plainAttrs_list PySem.F.slot_list_pop PySem.F.type_list_pop xZ (lJ (pos:=P) g T8) pa rfl NA Z' (fS h3 _ _) rfl;let h5:notStar (.Call (.Attribute (.Name y P) "pop" U) [v] [] O)=Θ:=rfl;let pa':=iH n iZ (fS h5 [] X.env);let Wq:((backTo LY (Ν [.Call (.Attribute (.Name y P) "pop" U) [v] [] O] X.env)).all (λx=>!x.1)&&(backToKw LY (keywordEach [] X.env)).all (λx=>x.1.isSome)&&decide ([Expr.Call (.Attribute (.Name y P) "pop" U) [v] [] O].length+([]:List Keyword).length+(if([]:List Keyword).isEmpty then 0 else 1) < 30))=Θ:=by rw[fS h5];rfl
 refine jg (mj (ni PySem.F.plainAttrs_list PySem.F.slot_list_append PySem.F.type_list_append kP (lJ g h1) pa' rfl Wq h2 (fS h5 _ _) rfl)) λDn σ H h=>?_;let⟨B,F,c,f,m,q⟩:=h;let b:K5 (u9 cl i j e c (ic c i) (ic c j)) (Fk X.K B Dn):=q;cases J:ic c i with
 |none=>rw[J]at b;exact b.no.elim
 |some di=>
  rw[J]at b
  cases di using zD with
  |l oi S=>
   cases oi using zB with
   |false=>exact b.no.elim
   |true=>
    cases k:ic c j with
    |none=>rw[k]at b;exact b.no.elim
    |some dj=>
     rw[k]at b
     cases dj using zD with
     |l oj ds=>
      cases oj using zB with
      |false=>exact b.no.elim
      |true=>
       let q1:K5 (KZ (K8 cl e c) (u7 i j S ds c)) (Fk X.K B Dn):=b;let⟨l,xs,MC,hl,hlen⟩:=l7 m.Mv J;let⟨l',U0,Y,VT,adb⟩:=l7 m.Mv k;refine⟨.r l,MC,.inl ⟨rfl,xs,.inl (.inl hl)⟩,.r l',Y,.inl ⟨rfl,U0,.inl (.inl VT)⟩,m.rd (K5.KZ q1) λd w H1 R e1 mw q2=>?_⟩
       cases d using zD with
       |i z=>
        cases mw.L5;let N:K5 (yQ i j S c z (i6 ds)) (Fk X.K B Dn):=q2;cases za:i6 ds with
        |none=>rw[za]at N;exact N.no.elim
        |some ns=>
         rw[za]at N;let⟨gd,q4⟩:=K5.LK N;simp only[g_]at gd;let⟨⟨W,Wr⟩,gd3⟩:=gd;let W:0<=z/\z.toNat < ns.length/\ns.length<=1000:=t_ W;let Ws:i≠j:=by simpa using gd3
         rw[kz za]at k;let⟨l2,Qf,QR,Qs,ade⟩:=l7 R.Mv k;rw[Y]at QR;cases QR;let Wt:Qf=ns.map .i:=by
          let⟨v0,fv0,g0,c1,c2,c3,c4⟩:=R.Mv.at k;rw[Y]at c1;cases c1;cases c2 with
          |M hF hH A=>rw[Qs]at hH;cases hH;exact(ux A).1
         subst Wt;let⟨f2,m2⟩:=R.write (w:=.L) (d:=.L) (fv:=[]) (ys:=(ns.eraseIdx z.toNat).map .i) (ds':=(ns.eraseIdx z.toNat).map .i) k Y Qs .L (by simpa using R.Mm) (λa ha=>by cases ha) λfi A=>by let⟨_,rfl⟩:=ux A;exact⟨[],[],zJ _,.refl _⟩
         let s:ic (c.set j (Δ (.l Θ ((ns.eraseIdx z.toNat).map .i)))) i=Δ (.l Θ S):=by rw[<- J];unfold ic;rw[aaD (λh=>Ws h.symm)]
         let⟨l3,u,Wu,C,Wv⟩:=l7 m2.Mv s;rw[MC]at Wu;cases Wu;let⟨f3,m3⟩:=m2.write (w:=.i (ns.getD z.toNat 0)) (d:=.i (ns.getD z.toNat 0)) (fv:=[]) (ys:=u++[.i (ns.getD z.toNat 0)]) (ds':=S++[.i (ns.getD z.toNat 0)]) s MC C (.I _) (by simpa using m2.Mm) (λa ha=>by cases ha) λfi A=>A.snoc (.I _);refine⟨l',_,z,z.toNat,.i (ns.getD z.toNat 0),rfl,rfl,Qs,⋯,⋯,?_,?_,?_⟩
         ·rw[i_];refine(qd ?_).1;unfold NT;rw[e_ W.1,e_ ⋯]
         ·rw[D_,aam,y_ W.2.1];rfl
         ·rw[pV];exact⟨l,u,_,rfl,rfl,C,by rw[Wv];exact kx Wr,q4.ok _ _ _ _ m3⟩
       |_=>exact q2.no.elim
     |_=>exact b.no.elim
  |_=>cases ic c j<;>exact b.no.elim
theorem sD {K:Frag}  : ∀ {a:St}{n:Nat},a.length=n->Mc K F H a (Τ n Φ) []
 |[],0,_=>.nil
 |_::a,n+1,h=>.none (sD (by simpa using h))
theorem Mj.put {X:Cx}{io:Â}{B:Bs io}{F:Å}{H:Hp}{e:St}{c:Ev}{f fv:Ì}{v:V}{d:D}(i:Nat)(m:Mj X.K B F H e c f)(mv:LS X.K F H v d fv)(nd:(fv++f).Nodup)(h:∀a∈fv,B.H a=Φ)(O:io≠Δ i):∃l,Mj X.K B F H (e.set i (Δ v)) (c.set i (Δ d)) l:=by let⟨g,k,r,p⟩:=m.Mv.put i mv;let R:(g++k).Nodup:=p.nodup_iff.mpr nd;exact⟨g,m.L6,r,(s_.mp R).1,m.same,λb q=>(w_.mp (p.subset (u_ _ q))).elim (h b) (m.own b),m.MZ,m.out,m.pin,m.Qt,λj a E n=>(aaD (λz=>O (by rw[z];exact E))).trans (m.nm j a E n)⟩
def jd (h:b≠a):rm a H b=H b:=d_ h
def j8:rm a H a=Φ:=e_ rfl
def vE (h:rm a H b=Δ u):H b=Δ u/\b≠a:=by
 by_cases e:b=a
 ·rw[e,j8]at h;cases h
 ·rw[jd e]at h;exact⟨h,e⟩
def IL:ir (rm a H) H:=λb u h=>(vE h).1
def DV (x:Mp P w H h)(e:H a=Δ (.d kvs)):Mp P w (rm a H) h:=λb o q=>by
 let⟨Q,f⟩:=vE q;refine(x b o Q).Nx (λ_ _ _ z=>z) (λc z=>?_) λc X z=>?_
 ·rw[jd (by rintro rfl;rw[e]at z;cases z)];exact z
 ·rw[jd (by rintro rfl;rw[e]at z;cases z)];exact z
def DW (x:Mp P w H h)(n:H a=Φ)(y:iR P w H' h a (.d kvs)):Mp P w (upd H a (.d kvs)) h:=λb o q=>by
 by_cases e:b=a
 ·subst e;rw[iq]at q;cases q;exact mH rfl y
 ·rw[ik e]at q;exact(x b o q).Nx (λ_ _ _ z=>z) (λc z=>by rw[ik (iO z n)];exact z) λc X z=>by rw[ik (iO z n)];exact z
def DX (n:H a=Φ):rm a (upd H a (.d kvs))=H:=by
 funext b;by_cases h:b=a
 ·rw[h,j8,n]
 ·rw[jd h,ik h]
def qF {K:Frag}(e:H a=Δ (.d kvs))  (h:Md K H b x):Md K (rm a H) b x:=by
 refine h.cl ⟨λb x z=>?_⟩
 ·have:b≠a:=by rintro rfl;rcases z with z|⟨o,z⟩<;>(rw[e]at z;cases z)
  unfold Rd;rw[jd this];exact z
def vF (n:b≠a)(h:Rd H b u):Rd (rm a H) b u:=by unfold Rd;rw[jd n];exact h
def zK {K:Frag}(o:Out K F H f H' v d fv)(hs:ir H (rm a H'))(nF:¬f a)(nf:a∉fv)(e:H' a=Δ (.d kvs)):Out K F H f (rm a H') v d fv:=by let ne:∀b,f b->b≠a:=λb h z=>nF (z ▸ h);refine⟨λb h=>by rw[jd (ne b h)];exact o.L6 b h,hs,o.rep.step (λb u h r=>⟨h,vF (ne b h) r⟩) (λb x r=>qF e r) λb h n N=>⟨n,jd λz=>nf (z ▸ h)⟩,o.Mm,o.new,o.MZ,o.out⟩
def Gh {K:Frag}(o:Out K F H f H' v d fv)(n:H' a=Φ):Out K F H f (upd H' a (.d kvs)) v d fv:=by let e:ir H' (upd H' a (.d kvs)):=.upd n;refine⟨λb h z=>o.L6 b h (e.free z),o.same.trans e,o.rep.step (λb u h r=>⟨h,e.rd r⟩) (λb x r=>e.NB r) λb h c N=>⟨c,ik λz=>N (z ▸ n)⟩,o.Mm,o.new,o.MZ,o.out⟩
def K4.lf {K:Frag}  (h:K4 K S H vs a)(s:fT a=Θ):K4 K S' H vs a:=
 (K4.free (F:=S') s h).read (λ_ z=>z) λ_ z=>absurd z (by simp)
def zM {K:Frag}  (x:Mp P w H h)(L6:Og Fc H)(p:N6 h (iL h H) H')(o:Out K (λa=>Fc a/\iL h H a≠Φ) (iL h H) F H' v d fv)  (m:K4 K F H' vs c)(s:fT c=Θ) :
  K4 K (λa=>Fc a∨F a) (kj H H') vs c:=by
 revert s;refine K4.ind (P:=λvs c=>fT c=Θ->K4 K (λa=>Fc a∨F a) (kj H H') vs c) (λ_=>.nil) (λv d vs c a b j s=>?_) m;let e:(il d&&fT c)=Θ:=s;rw[g_]at e;exact .cons ((nJ x L6 p ⟨o.L6,o.same,K6.free e.1 a,List.nodup_nil,λa f=>absurd f (by simp),o.MZ,o.out⟩).rep.read (λ_ z=>z) λ_ z=>absurd z (by simp)) (j e.2)
def Ww (K:Frag)(cl:Ä)(i:Nat):Ë->TA
 |[]=>kg (BL i) o6
 |e::E=>kg (RD K (vars e) (K8 cl e)) (Ww K cl i E)
theorem zN {K:Frag}  (p:l[i]? = Δ (Δ n)):∀(E:Ë) {c:Hp}{Kt:Î->Prop}{Q:Ï->Hp->Prop},ir H c->Slots K S H l g (ij E)->K5 (iJ cl E g) Kt->
  (∀b vs f,ir H f->ir c f->K4 K (nw S H) f vs b->Kt b->Q (vs++[n]) f)->Ww K cl i E l c Q
 |[],c,Kt,Q,e,j,h,k=>⟨n,p,k [] [] c e (.refl _) .nil h.ok⟩
 |a::E,c,Kt,Q,e,j,h,k=>by refine iK e j.left (K5.KZ (show K5 (KZ (K8 cl a g) λd=>KZ (iJ cl E g) λb=>.ok (d::b)) Kt from h)) λx v f u w m q=>?_;exact zN p E u j.right (K5.KZ q) λb vs y s P M r=>k (x::b) (v::vs) y s (w.trans P) (.cons (m.mono (λ_ z=>z) P) M) r.ok
theorem DY (g:Mf Z CX cl X G)  : ∀(E:Ë) (A:Á),iX Z G (E++[.v i]) A=Θ->PA X A (Ww X.K cl i E)
 |[],A,h=>by
  match A,h with
  |[e],h=>
   let H:(notStar e&&LV Z G (.v i) e&&iX Z G [] [])=Θ:=h;simp only[g_]at H
   cases e using zE with
   |Name x p=>exact iH (lJ g H.1.2) iZ (fS H.1.1 _ _)
   |_=>exact iF H.1.2
  |[],h=>cases h
  |_::_::_,h=>let H:=(l_.mp h).2;cases H
 |a::E,A,h=>by
  match A,h with
  |e::l,h=>let H:(notStar e&&LV Z G a e&&iX Z G (E++[.v i]) l)=Θ:=h;simp only[g_]at H;exact iH (snd a X G e g H.1.2).1 (DY g E l H.2) (fS H.1.1 _ _)
  |[],h=>cases h
def Yj (K:Frag)(cl:Ä)(f:Nat)(vs:Ï)(H:Hp)(Q:VK):Prop:=∃a F ws b k E,vs=ws++[.r a]/\We K a F H ws b k E/\
 ∃d M e,cl f (LM b++[.K Ξ (k.map (·.1)) E])=.ok (.t [d,.K Ξ M e])/\fT e=Θ/\∀v h g c m,RZ K a F H g h v d c m M e->Q v h
def sE (g:Mf Z CX cl X G)
  (F:Ng X.prog X.w X.K X.mg X.base CX k fa fd P (Wg X.K cl f P)) (hr:MU k X.A) (c:Binds X.K fd P []) (J:∀l r,cl f l=.ok r->l.length=P.length)
  (I:Inv X y σ H s) (r:Vals vs U) (q:Yj X.K cl f vs H Q):Κ (Μ X.prog X.w) X.A (call (.ref fa) U) (EP X y σ Q) X.xe s:=by
 let⟨a,R,ws,l,i,es,rfl,A,d,M8,O,hc,C,q⟩:=q;let hl:(ws++[V.r a]).length=P.length:=by have:=J _ _ hc;rw[q_,jB]at this;rw[q_,A.ws.length];exact this
 let x:Mp X.prog X.w (rm a H) s.heap:=DV I.L1 A.at_;let Y:iL s.heap (rm a H) a=Φ:=jx j8;let x2:Mp X.prog X.w (upd (iL s.heap (rm a H)) a (.d i)) s.heap:=DW (ui x) Y (I.L1 a _ A.at_);let N:∀b,H b=Φ->upd (iL s.heap (rm a H)) a (.d i) b=Φ:=λb e=>by
  let c:b≠a:=by rintro rfl;rw[A.at_]at e;cases e
  rw[ik c];exact jx (by rw[jd c];exact e)
 let E:=I.NQ;let env:Pg X.prog X.w X.K X.mg X.base X.A X.stack s (upd (iL s.heap (rm a H)) a (.d i)):=⟨E.frames,E.mod,λb o e=>⟨(E.bs b o e).1,N b (E.bs b o e).2⟩,E.Q2,E.Np,λb c=>N b (E.P' b c),x2,E.bare⟩
 let Yk:∀b,R b->b≠a:=λb c z=>A.nF (z ▸ c);let Wx:∀ {vs:Ï}{l:Î},K4 X.K R H vs l->K4 X.K (λb=>R b/\iL s.heap (rm a H) b≠Φ) (upd (iL s.heap (rm a H)) a (.d i)) vs l:=λm=>
  (qE x (m.step (S':=R) (H':=rm a H) (λb u c rd=>⟨c,vF (Yk b c) rd⟩) λb xs h=>qF A.at_ h)).mono (λ_ h=>h) (.upd Y)
 let Qs:(U++([]:Í)).length=P.length:=by rw[Y_,<- r.length];exact hl
 let bd:=c s U I.Oo Qs;rw[Y_]at bd;let OC:Wg X.K cl f P (ws++[.r a]) (upd (iL s.heap (rm a H)) a (.d i)) (λv j=>∃S L M,RZ X.K a (λb=>R b/\iL s.heap (rm a H) b≠Φ) (upd (iL s.heap (rm a H)) a (.d i)) S j v d L M M8 O) (λ_ _ _=>False):=
  ⟨hl,a,_,ws,l,i,es,rfl,⟨λb c=>by rw[ik (Yk b c.1)];exact c.2,λz=>A.nF z.1,iq,Wx A.ws,Wx A.vs,A.lf⟩,d,M8,O,hc,C,λv j S L M o=>⟨S,L,M,o⟩⟩
 refine wpAny_call (codeAny_mono (F.run X.A X.stack s _ ⟨U,[]⟩ U _ _ _ hr env bd r OC) λr' s' B=>?_);cases r' with
 |error e=>exact(g.X1 _ _ _ _ _ B).elim
 |ok fl=>
  cases fl with
  |ret u=>
   let⟨v,j,a1,a2,w,a4,a5,S,L,M,o⟩:=B;let W:=o.out;rw[DX Y]at W;let Yl:ir (iL s.heap (rm a H)) (rm a j):=λb u e=>by
    let c:b≠a:=by rintro rfl;rw[Y]at e;cases e
    rw[jd c];exact W.same b u e
   let p:N6 s.heap (iL s.heap (rm a H)) (rm a j):=⟨λb o u e=>Yl _ _ e,λb xs e=>Yl _ _ e,λb o e n=>by
    by_cases c:b=a
    ·rw[c];exact j8
    ·rw[jd c]
     exact w.free b o e (by rw[ik c];exact n) (by simp)⟩
   let o2:=nJ x (λb c=>by rw[jd (Yk b c)];exact A.L6 b c) p (zK W Yl o.nF o.nf o.at_);let nr:kj (rm a H) (rm a j) a=Φ:=by rw[res_none j8];exact j8
   let o3:=Gh (kvs:=M) o2 nr;let hE:∀b,b≠a->H b=Φ->j b=upd (kj (rm a H) (rm a j)) a (.d M) b:=λb c e=>by rw[ik c,res_none (by rw[jd c];exact e),jd c]
   let Wy:∀b,H b=Φ->b≠a:=λb e z=>by rw[z,A.at_]at e;cases e
   let un:Un (NP X.stack) [] H (upd (kj (rm a H) (rm a j)) a (.d M)) s.heap s'.heap:=⟨λb o e n=>w.keep b o e (N b n),λb o e n=>w.slot b o e (N b n),λb o e n hx=>by
    rw[<- hE b (Wy b n) n]
    exact w.free b o e (N b n) hx,w.there,λb xs e=>?_,λb o u e=>?_,λb P e=>⟨#[],?_⟩⟩
   ·let L1:Mp X.prog X.w (upd (kj (rm a H) (rm a j)) a (.d M)) s'.heap:=
     DW (uj x (DV a4 o.at_) p (fs:=NP X.stack) (λb o hH e n f=>w.keep b o e (by
      let c:b≠a:=by rintro rfl;exact hH j8
      rw[ik c];exact n) f (by simp)) λb c=>by rw[jd (Wy b (E.P' b c))];exact E.P' b c) nr (a4 a _ o.at_)
    refine I.after (Q:=Q) ⟨v,_,a1,a2,un,L1,a5,q v _ _ L M ⟨o3,λz=>z.elim A.nF o.nF,o.nf,iq,o.ks,?_⟩⟩;exact(zM x (λb c=>by rw[jd (Yk b c)];exact A.L6 b c) p (zK W Yl o.nF o.nf o.at_) (o.vs.step (S':=S) (H':=rm a j) (λb u c r=>⟨c,vF (λ(z:b=a)=>o.nF (z ▸ c)) r⟩) λb xs r=>qF o.at_ r) C).mono (λ_ z=>z) (.upd nr)
   ·rw[ik (by rintro rfl;rw[A.at_]at e;cases e),res_some (by rw[jd (by rintro rfl;rw[A.at_]at e;cases e)];exact e)]
   ·rw[ik (by rintro rfl;rw[A.at_]at e;cases e),res_some (by rw[jd (by rintro rfl;rw[A.at_]at e;cases e)];exact e)]
   ·rw[ik (by rintro rfl;rw[A.at_]at e;cases e),res_some (by rw[jd (by rintro rfl;rw[A.at_]at e;cases e)];exact e)];simp
  |next=>exact False.elim B
  |brk=>exact False.elim B
  |cont=>exact False.elim B
def oM (g:Mf Z CX cl X G)  (O:jZ Z G f x=Θ)(C:f∈Z.Nk)(S:G.cm=Θ)(L:iX Z G (E++[.v i]) A=Θ) :
  PE X (.Call (.Name x p) A [] pos) (λb H Q=>Ww X.K cl i E b H λvs j=>Yj X.K cl f vs j Q):=by
 let⟨y,w,k3,u⟩:=sj g O;let⟨k,U9,fd,Y,B,R,N,F,z,h⟩:=(g.Nk f C S x w).ex;intro P s b H Q I q;let n:=DY g E A L;refine aap (mi I y B ?_ u);obtain⟨a,r,J⟩:∃a r,E++[.v i]=a::r:=by cases E<;>exact⟨_,_,rfl⟩
 rw[J]at L
 cases A using zL with
 |nil=>cases L
 |cons e l=>let M:(notStar e&&LV Z G a e&&iX Z G r l)=Θ:=L;simp only[g_]at M;refine PySem.W.callWith_K (h₀:=X.base) I.ok.mod.UQ R (L4 (n pos P s b H _ I q) λU W ⟨vs,j,c,r,m⟩=>⟨c.Oo,?_⟩) (fS M.1.1 l X.env) (jq Z G (E:=r) pos X.env M.2);exact sE g F z N h c r m
def CL {X:Cx}(m:Mj X.K B s g f S O)(Y:f[i]? = Δ (Δ (.r a)))(Ym:¬s a)
  (Wz:g a=Δ (.d kvs)) (w:Mc X.K s g f (S.set i Φ) G) (E:O.Perm (a::G)) (o:RZ X.K a s g F H' v d fv R5 k M) (Oz:fT M=Θ) :
  ∃g',Mj X.K B F H' f (S.set i (Δ (.K Θ k M))) g'/\(fv++g').Nodup/\∀b∈fv,B.H b=Φ:=by
 let Q:(a::G).Nodup:=E.nodup_iff.mp m.Mm;let ag:a∉G:=(F_.mp Q).1;let L:∀b (u:LD),(s b)->Rd g b u.o->F b/\Rd H' b u.o:=λb u H r=>⟨o.out.MZ b H,o.out.same.rd (vF (λz=>Ym (z ▸ H)) r)⟩
 let J:∀b x,Md X.K g b x->Md X.K H' b x:=λb x h=>o.out.same.NB (qF Wz h);let r3:Mc X.K F H' f (S.set i Φ) G:=w.step L J λb H n1 n2=>by
  let l:b≠a:=λz=>ag (z ▸ H);refine⟨λz=>?_,?_⟩
  ·rcases o.out.out b z with z|z
   ·exact n1 z
   ·rw[jd l]at z;exact n2 z
  ·let⟨_,u,p⟩:=w.own b H;rw[p];exact o.out.same b u (by rw[jd l];exact p)
 let m1:LS X.K F H' (.r a) (.K Θ k M) [a]:=.P o.nF o.at_ o.ks (K4.free Oz o.vs);let⟨g',h',R,C⟩:=r3.put i m1;let A:f.set i (Δ (.r a))=f:=by
  apply List.ext_getElem?;intro j;rw[List.getElem?_set];by_cases N:i=j
  ·subst N;rw[e_ rfl,e_ (v_.mp Y).1,Y]
  ·rw[d_ N]
 rw[A,List.set_set]at R;let n:(g'++h').Nodup:=C.nodup_iff.mpr Q;let I:∀b∈g',b=a∨b∈G:=λb H=>k_.mp (C.mem_iff.mp (u_ _ H));let U:∀b,b=a∨b∈G->B.H b=Φ/\∃u,g b=Δ u:=λb H=>by let q:b∈O:=E.mem_iff.mpr (k_.mpr H);exact⟨m.own b q,(m.Mv.own b q).2⟩
 let mF:Mj X.K B F H' f (S.set i (Δ (.K Θ k M))) g':=⟨o.out.L6,R,(s_.mp n).1,λb u e=>o.out.same b u (by
   rw[jd (λz=>by rw[z,(U a (.inl rfl)).1]at e;cases e)]
   exact m.same b u e),λb H=>(U b (I b H)).1,λb H=>o.out.MZ b (m.MZ b H),λb H=>by
   rcases o.out.out b H with z|z
   ·exact m.out b z
   ·let l:b≠a:=λy=>o.nF (by rw[<- y];exact H);rw[jd l]at z
    exact .inr (m.same.free z),λb x H=>L b x (m.pin b x H).1 (m.pin b x H).2,λb x H=>J b x (m.Qt b x H),m.nm⟩
 let W:∀b∈fv,g b=Φ:=λb H=>by
  have:=o.out.new b H;let l:b≠a:=λz=>o.nf (by rw[<- z];exact H)
  rwa [jd l]at this
 refine⟨g',mF,s_.mpr ⟨o.out.Mm,(s_.mp n).1,λb h1 c h2 e=>?_⟩,λb H=>m.same.free (W b H)⟩;subst e;let⟨u,p⟩:=(U b (I b h2)).2;rw[W b h1]at p;cases p
def qG {X:Cx}(P6:(ij e).contains i=Ξ)(m:Mj X.K B F H l c fo)(P:ic c i=Δ (.K Θ ks q))(g:fT q=Θ)
  (q1:K5 (iJ cl e c) λs=>∃d k M,cl f (LM s++[.K Ξ ks q])=.ok (.t [d,.K Ξ k M])/\fT M=Θ/\∀v H' j fv g',Mj X.K B j H' l ((LZ (ij e) c).set i (Δ (.K Θ k M))) g'->LS X.K j H' v d fv->(fv++g').Nodup->(∀b∈fv,B.H b=Φ)->Q v H') :
  Ww X.K cl i e l H λvs H1=>Yj X.K cl f vs H1 Q:=by
 let⟨F1,gg,b1,J,b3,b4,I,b6⟩:=kA (ij e) m.L6 m.Mv m.Mm;let w:ic (LZ (ij e) c) i=Δ (.K Θ ks q):=(l6 (ij e) c 0 i (by rw[Nat.zero_add];exact P6)).trans P;let⟨a,n,g1,u,hF1,p,Ue,hmv,_,_⟩:=nM J w g;refine zN u e (.refl _) b6 q1 λs ws L y _ ms q2=>?_;let⟨G,C,c3⟩:=grow (λ_=>True) b1 J y;let⟨a',Mu,g0,N,Y,W,afT,A,r0,p0⟩:=nM C w g;rw[u]at N;cases N;let E:=y _ _ p;rw[W]at E;cases E;let m2:Mj X.K B (λb=>F1 b∨(True/\H b=Φ/\L b≠Φ)) L l (LZ (ij e) c) gg:=m.N9 (b4.trans c3 (λx hx=>.inl (I x hx))) G C b3 λb hb=>.inl (I b hb);let⟨d,k,M,R,O,q3⟩:=q2;refine⟨a,_,ws,s,n,q,rfl,⟨G,Y,W,ms.step (λb U h r=>⟨h.elim (λz=>.inl z) λz=>.inr ⟨trivial,z,r.some⟩,r⟩) λb U h=>h,(A.read (S:=λ_=>True) (λ_ _=>trivial) λ_ _=>trivial).lf g,g⟩,d,k,M,by rw[Ue];exact R,O,λv H' j fv R5 o=>?_⟩;let⟨g',mF,WB,WC⟩:=CL m2 u Y W r0 p0 o O;exact q3 v H' j fv g' mF o.out.rep WB WC
def zP (h:ic a i=Δ d):ic (a.set i o) i=o:=by
 rw[kS];by_cases H:i < a.length
 ·rw[e_ ⟨rfl,H⟩]
 ·unfold ic at h;rw[List.getElem?_eq_none ⋯]at h;cases h
def qH {cl:Ä}{f:Nat}{R:D->Res Fl}{a:Î}{ks:List Key}{b:Î}{Kt:Fl->Prop}(H:∀r,(∃d k M,r=.t [d,.K Ξ k M])∨R r=LP)(q:K5 (KZ ((cl f (LM a++[.K Ξ ks b]))) R) Kt) :
  ∃d k M,cl f (LM a++[.K Ξ ks b])=.ok (.t [d,.K Ξ k M])/\K5 (R (.t [d,.K Ξ k M])) Kt:=by
 cases z:cl f (LM a++[.K Ξ ks b]) with
 |error er=>rw[z]at q;exact q.no.elim
 |ok c=>
  rw[z]at q;let Q:K5 (R c) Kt:=q;rcases H c with⟨d,k,M,rfl⟩|h
  ·exact⟨d,k,M,rfl,Q⟩
  ·rw[h]at Q;exact Q.no.elim
def qI {R:List Key->Î->Res Fl}  (q:K5 (match ic a i with|some (.K Θ ks vs)=>LK (fT vs) (R ks vs)|_=>LP) Kt) :
  ∃ks vs,ic a i=Δ (.K Θ ks vs)/\fT vs=Θ/\K5 (R ks vs) Kt:=by
 cases z:ic a i with
 |none=>rw[z]at q;exact q.no.elim
 |some dd=>
  rw[z]at q
  cases dd using zD with
  |K ow ks b=>
   cases ow using zB with
   |false=>exact q.no.elim
   |true=>let⟨g,Q⟩:=K5.LK q;exact⟨ks,b,rfl,g,Q⟩
  |_=>exact q.no.elim
def qJ {R:D->Res Fl}(h:∀r,(∀d k M,r≠.t [d,.K Ξ k M])->R r=LP)(r:D):(∃d k M,r=.t [d,.K Ξ k M])∨R r=LP:=by
 by_cases e:∃d k M,r=.t [d,.K Ξ k M]
 ·exact .inl e
 ·exact .inr (h r λd k M z=>e ⟨d,k,M,z⟩)
def M' (g:Mf Z CX cl X G)  {st:Stmt}(h:Yb st (λt x a=>isName t&&jM G (.n j) t&&G.cm&&(jZ Z G f x&&Z.Nk.contains f)&&iX Z G (e++[.v i]) a&&!(ij e).contains i&&decide (i≠j))=Θ) :
  PS X st (RS X.K G.io (Ms cl (.S j f e i))):=by
 let⟨t,x,p,a,Q,pos,rfl,u⟩:=F8 h;simp only[g_]at u;let⟨⟨⟨⟨⟨⟨hn,s⟩,NO⟩,W,R6⟩,L8⟩,P⟩,Ws⟩:=u
 cases t using zE with
 |Name y py=>
  let N:(G.N[j]? == Δ y&&(G.kd[j]? == Δ .local||(G.df&&G.kd[j]? == Δ .cell)))=Θ:=(l_.mp s).1;let WE:G.io≠Δ j:=by simpa using(l_.mp s).2
  rw[g_,aaf,g_]at N;let l:G.N[j]? = Δ y:=h_ N.1;let c:=g.kd j y l;let Px:Loc X.env.scope y:=N.2.elim (λz=>.inl (c.trans (h_ z))) λz=>.inr (c.trans (h_ z.2));let Qz:X.fn y=Θ∨X.env.scope.names.lookup y=Δ .local:=N.2.elim (λz=>.inr (c.trans (h_ z))) λz=>.inl (g.df z.1 y);let P:(ij e).contains i=Ξ:=by simpa using P
  refine jg (qc (i:=j) (by rw[g.N];exact g.Mm) (by rw[g.N];exact l) Px (oM (p:=p) (pos:=Q) g W (by simpa using R6) NO L8) rfl Qz) λDn σ H U=>?_;let⟨B,F,b,fo,m,q⟩:=U;let⟨ks,Qk,A,Y,L⟩:=qI (R:=λks vs=>KZ (iJ cl e b) λw=>KZ ((cl f (LM w++[D.K Ξ ks vs]))) (yN j i (LZ (ij e) b))) q;refine qG P m A Y ((K5.KZ L).mono λw J=>?_);let⟨d,k,M,C,I⟩:=qH (qJ λr n=>by unfold yN;split;(exact absurd rfl (n _ _ _));rfl) J;let⟨Oz,E⟩:=K5.LK (show K5 (LK (fT M) (.ok (.n (((LZ (ij e) b).set i (Δ (.K Θ k M))).set j (Δ d))))) (Fk X.K B Dn) from I);refine⟨d,k,M,C,Oz,λv H' F' fv g' mF mv WB WC=>?_⟩;let⟨f5,O⟩:=mF.put j mv WB WC WE;exact E.ok _ _ _ _ O
 |_=>cases hn
def M0 (g:Mf Z CX cl X G)  {st:Stmt}(h:Yd st (λx C xf A=>ke G i x&&iW C&&LV Z G k C&&G.cm&&(jZ Z G f xf&&Z.Nk.contains f)&&iX Z G (e++[.v i]) A&&!(ij e).contains i)=Θ) :
  PS X st (RS X.K G.io (Ms cl (.c i k f e))):=by
 let⟨x,p,C,sp,xf,p',A,qp,pos,rfl,h0⟩:=Ga h;simp only[g_]at h0;let⟨⟨⟨⟨⟨⟨h1,h2⟩,h3⟩,NO⟩,hf,R6⟩,L8⟩,P⟩:=h0;let P:(ij e).contains i=Ξ:=by simpa using P
 let hu:=g.un;refine jg (Cb ⋯ (lJ g h1) (snd k X G C g h3).1 (oM (p:=p') (pos:=qp) g hf (by simpa using R6) NO L8) rfl) λDn σ H hh=>?_;let⟨B,F,j,fo,m,q⟩:=hh;let⟨ks,Qk,U,gd,q1⟩:=qI (R:=λks vs=>KZ (iJ cl e j) λds=>KZ ((cl f (LM ds++[D.K Ξ ks vs]))) (rW cl i k (LZ (ij e) j))) q;refine qG P m U gd ((K5.KZ q1).mono λds q2=>?_);let⟨d,a,M,zc,q3⟩:=qH (qJ λr n=>by unfold rW;split;(exact absurd rfl (n _ _ _));rfl) q2;let⟨O,q4⟩:=K5.LK (show K5 (LK (fT M) (KZ (K8 cl k ((LZ (ij e) j).set i (Δ (.K Θ a M)))) λy=>DP i ((LZ (ij e) j).set i (Δ (.K Θ a M))) d a M (mT y))) (Fk X.K B Dn) from q3);refine⟨d,a,M,zc,O,λw H' F' fv g' mF mw WB WC=>?_⟩;let Y:ic ((LZ (ij e) j).set i (Δ (.K Θ a M))) i=Δ (.K Θ a M):=zP ((l6 (ij e) j 0 i (by rw[Nat.zero_add];exact P)).trans U);obtain⟨u,s,_⟩:∃u,σ[i]? = Δ (Δ u)/\True:=by let⟨u,_,_,h,_⟩:=mF.Mv.at Y;exact⟨u,h,trivial⟩
 refine⟨u,s,mF.rd (K5.KZ q4) λy w2 N m2 e2 I E=>?_⟩;cases L:mT y with
 |none=>rw[L]at E;exact E.no.elim
 |some Q=>
  rw[L]at E;let⟨W,q6⟩:=K5.LK (show K5 (LK (il d&&jf a.length) (.ok (.n (((LZ (ij e) j).set i (Δ (.K Θ a M))).set i (Δ (.K Θ (ou a Q) (lF a M Q d))))))) (Fk X.K B Dn) from E);rw[g_]at W;let⟨l,b,g0,MC,hF,hl,Ue,hm,hr,hp⟩:=nM m2.Mv Y O;rw[s]at MC;cases MC;subst Ue;let P7:K4 X.K (λ_=>True) N (b.map (·.2)) M:=hm.read (λ_ _=>trivial) λ_ _=>trivial;let J:K6 X.K (λ_=>True) N w d:=(mw.read (S:=λ_=>True) (λ_ _=>trivial) λ_ _=>trivial).mono (λ_ _=>trivial) e2;let OX:K9 X.K F' N ((putK b Q w).map (·.2)) (lF (b.map (·.1)) M Q d) []:=(IK Q J P7).free (Gg O W.1);let⟨f',m3⟩:=m2.Uc s hF hl hr hp (IJ b Q w) OX;let z:b.length < Ζ:=by
   have:=kx W.2
   rwa [i_]at this
  exact⟨l,_,rfl,.inl ⟨b,Q,hl,nK I L,z,rfl⟩,q6.ok _ _ _ _ m3⟩
def Nl (g:Mf Z CX cl X G)  (hs:iW s=Θ)(h1:LV Z G k s=Θ)(h2:LV Z G e r=Θ)(NO:G.cm=Θ)(hf:jZ Z G f O=Θ)(R6:f∈Z.Nk)(L8:iX Z G (E++[.v i]) A=Θ)(P6:(ij E).contains i=Ξ)
  (ha:OB X x (RS X.K G.io (iz cl a))) (hb:OB X y (RS X.K G.io (iz cl b))):PS X (.If (.Compare (.Subscript (.Call (.Name O p) A [] q) s sp) [.NotEq] [r] cp) x y pos) (RS X.K G.io (Ms cl (.P f E i k e a b))):=by
 let p1:=xX (pos:=sp) (vi) (oM (p:=p) (pos:=q) g hf R6 NO L8) (snd k X G s g h1).1 (λo i=>by cases s<;>first|rfl|cases hs);let p2:=uP (pos:=cp) (lW g.un .n) p1 (snd e X G r g h2).1 (EY r);refine jg (xJ p2 ha hb) λDn σ H hh=>?_;let⟨B,F,z,fo,m,q⟩:=hh;let⟨ks,Qk,J,gd,q1⟩:=qI (R:=λks vs=>KZ (iJ cl E z) λI=>KZ ((cl f (LM I++[D.K Ξ ks vs]))) λd=>KZ (rX cl i k e (LZ (ij E) z) d) λp=>if p.1=Θ then iz cl a p.2 else iz cl b p.2) q;refine qG P6 m J gd ((K5.KZ q1).mono λI q2=>?_);let⟨d,u,Ma,L,q3⟩:=qH (qJ λr n=>by unfold rX;split;(exact absurd rfl (n _ _ _));rfl) q2;let⟨Oz,q4⟩:=K5.LK (K5.KZ q3);refine⟨d,u,Ma,L,Oz,λw H' F' fv g' mF mw WB WC=>?_⟩;refine mF.rd (K5.KZ q4) λY w1 H1 l e1 j q5=>?_;let M:K6 X.K (λ_=>True) H1 w d:=(mw.read (S:=λ_=>True) (λ_ _=>trivial) λ_ _=>trivial).mono (λ_ _=>trivial) e1;refine⟨λ_=>True,d,Y,M,j.mono (λ_ _=>trivial) (.refl _),(K5.KZ q5).mono λQ W vx H1' XI mx=>?_⟩;let l:=l.grow XI;refine l.rd (K5.KZ W) λN w2 H2 C e2 c U=>?_;refine⟨λ_=>True,Q,N,mx.mono (λ_ _=>trivial) e2,c.mono (λ_ _=>trivial) (.refl _),(K5.KZ U).mono λr h=>⟨r,rfl,?_⟩⟩;let h:=h.ok
 cases r using zB with
 |true=>exact⟨B,_,_,_,C,h⟩
 |false=>exact⟨B,_,_,_,C,h⟩
def tDn:TE:=λa H Q=>∀p,H p=Φ->Q (.r p) (upd H p (.d []))
def CM (K:Frag)(cl:Ä):Ë->TA
 |[]=>kg tDn o6
 |e::E=>kg (RD K (vars e) (K8 cl e)) (CM K cl E)
theorem vG {K:Frag}  : ∀(E:Ë) {f:Hp}{Kt:Î->Prop}{Q:Ï->Hp->Prop},ir H f->Slots K S H l g (ij E)->K5 (iJ cl E g) Kt->
  (∀b vs c p,ir H c->ir f c->K4 K (nw S H) c vs b->Kt b->c p=Φ->Q (vs++[.r p]) (upd c p (.d [])))->CM K cl E l f Q
 |[],f,Kt,Q,e,i,h,k=>λp j=>k [] [] f p e (.refl _) .nil h.ok j
 |a::E,f,Kt,Q,e,i,h,k=>by refine iK e i.left (K5.KZ (show K5 (KZ (K8 cl a g) λd=>KZ (iJ cl E g) λb=>.ok (d::b)) Kt from h)) λx v c u w m q=>?_;exact vG E u i.right (K5.KZ q) λb vs y p s P M n j=>k (x::b) (v::vs) y p s (w.trans P) (.cons (m.mono (λ_ z=>z) P) M) n.ok j
theorem zQ (g:Mf Z CX cl X G):∀(E:Ë) (A:Á),pA Z G E A=Θ->PA X A (CM X.K cl E)
 |[],A,h=>by
  match A,h with
  |[e],h=>let b:=l_.mp (show(notStar e&&SM e)=Θ from h);let⟨p,rfl⟩:=uk b.2;exact iH (λP s c H Q I q=>n6 P s c H Q I q) iZ (fS b.1 _ _)
  |[],h=>cases h
  |_::_::_,h=>cases h
 |a::E,A,h=>by
  match A,h with
  |e::l,h=>let b:(notStar e&&LV Z G a e&&pA Z G E l)=Θ:=h;simp only[g_]at b;exact iH (snd a X G e g b.1.2).1 (zQ g E l b.2) (fS b.1.1 _ _)
  |[],h=>cases h
theorem zR (Z:Sg)(G:Gm):∀ {E:Ë}{l:Á} (p:Pos) (env:Env),pA Z G E l=Θ->(backTo p (Ν l env)).any (·.1)=Ξ
 |[],[e],p,env,h=>by let H:=l_.mp (show(notStar e&&SM e)=Θ from h);rw[fS H.1];rfl
 |a::E,e::l,p,env,h=>by let H:(notStar e&&LV Z G a e&&pA Z G E l)=Θ:=h;simp only[g_]at H;rw[fS H.1.1];let i:=zR Z G (E:=E) (l:=l) p env H.2;show(Ξ||(backTo p (Ν l env)).any (·.1))=Ξ;rw[i];rfl
 |[],[],_,_,h=>by cases h
 |[],_::_::_,_,_,h=>by cases h
 |_::_,[],_,_,h=>by cases h
def zU (g:Mf Z CX cl X G)  (i:jZ Z G f x=Θ)(C:f∈Z.Nk)(R:G.cm=Θ)(L:pA Z G E A=Θ) :
  PE X (.Call (.Name x p) A [] pos) (λc H Q=>CM X.K cl E c H λvs m=>Yj X.K cl f vs m Q):=by
 let⟨y,w,k3,v⟩:=sj g i;let⟨k,U,fd,Y,B,O,J,F,z,h⟩:=(g.Nk f C R x w).ex;intro P s c H Q I q;let u:=zQ g E A L;refine aap (mi I y B ?_ v);let b:∀(e:Expr) (l:Á),A=e::l->notStar e=Θ->(backTo pos (Ν l X.env)).any (·.1)=Ξ->Κ (Μ X.prog X.w) X.A (callWith pos (.ref U) [] (backTo pos (Ν A X.env)) []) (EP X P c Q) X.xe s:=by rintro e l rfl i N;refine PySem.W.callWith_K (h₀:=X.base) I.ok.mod.UQ O (L4 (u pos P s c H _ I q) λS W ⟨vs,m,j,r,n⟩=>⟨j.Oo,?_⟩) (fS i l X.env) N;exact sE g F z J h j r n
 match E,A,L with
 |[],[e],L=>exact b e [] rfl (l_.mp (show(notStar e&&SM e)=Θ from L)).1 rfl
 |a::E,e::l,L=>let M:(notStar e&&LV Z G a e&&pA Z G E l)=Θ:=L;simp only[g_]at M;exact b e l rfl M.1.1 (zR Z G (E:=E) pos X.env M.2)
 |[],[],L=>cases L
 |[],_::_::_,L=>cases L
 |_::_,[],L=>cases L
def KQ (g:Mf Z CX cl X G)  {st:Stmt}(h:Yc st (λJ A=>G.cm&&(jZ Z G f J&&Z.Nk.contains f)&&pA Z G E A)=Θ) :
  PS X st (RS X.K G.io (Ms cl (.V f E))):=by
 let⟨J,p,A,U,pos,rfl,L⟩:=F9 h;simp only[g_]at L;let⟨⟨NO,hf,R6⟩,L8⟩:=L;refine jg (tw (zU (p:=p) (pos:=U) g hf (by simpa using R6) NO L8)) λs P H hh=>?_;let⟨B,F,I,fo,m,q⟩:=hh;let W:K5 (KZ (iJ cl E I) λj=>KZ ((cl f (LM j++[D.K Ξ [] []]))) ud) (Fk X.K B s):=q;let⟨n,gg,b1,b2,b3,b4,N,b6⟩:=kA (ij E) m.L6 m.Mv m.Mm;refine vG E (.refl _) b6 (K5.KZ W) λj ws e a e2 _ Y i y=>?_;let⟨C,c2,c3⟩:=grow (λ_=>True) b1 b2 e2;let M:Mj X.K B (λb=>n b∨(True/\H b=Φ/\e b≠Φ)) e P (LZ (ij E) I) gg:=m.N9 (b4.trans c3 (λx hx=>.inl (N x hx))) C c2 b3 λb c=>.inl (N b c);cases u:cl f (LM j++[D.K Ξ [] []]) with
 |error er=>rw[u]at i;exact i.no.elim
 |ok R=>
  rw[u]at i;let Q:K5 (ud R) (Fk X.K B s):=i;obtain⟨d,k,l,rfl⟩:∃d k l,R=.t [d,.K Ξ k l]:=by
   unfold ud at Q;split at Q
   ·exact⟨_,_,_,rfl⟩
   ·exact Q.no.elim
  let⟨Oz,w⟩:=K5.LK (show K5 (LK (fT l) (.ok (.r d))) (Fk X.K B s) from Q);let w:Fk X.K B s (.r d):=w.ok;let nF:¬(n a∨(True/\H a=Φ/\e a≠Φ)):=λz=>C a z y;let up:ir e (upd e a (.d [])):=.upd y;refine⟨a,λb=>n b∨(True/\H b=Φ/\e b≠Φ),ws,j,[],[],rfl,⟨λb c z=>C b c (up.free z),nF,iq,(Y.step (S':=λb=>n b∨(True/\H b=Φ/\e b≠Φ)) (H':=e) (λb S h r=>⟨h.elim (λz=>.inl z) λz=>.inr ⟨trivial,z,r.some⟩,r⟩) λb S h=>h).mono (λ_ z=>z) up,.nil,rfl⟩,d,k,l,u,Oz,λv H' F' fv R5 o=>?_⟩;let O:=o.out;rw[DX y]at O;exact w v H' F' fv ⟨O.L6,M.same.trans O.same,O.rep,O.Mm,λb c=>M.same.free (O.new b c),λb c=>O.MZ b (M.MZ b c),λb c=>(O.out b c).elim (M.out b) λz=>.inr (M.same.free z)⟩
def Gi {a:St}  (M:a[i]? = Δ (Δ v)):a.set i (Δ v)=a:=by
 apply List.ext_getElem?;intro j;rw[List.getElem?_set];by_cases h:i=j
 ·subst h;rw[e_ rfl,e_ (v_.mp M).1,M]
 ·rw[d_ h]
def K9.part {K:Frag}  : ∀(e:Î) (k:Nat) (vs:Ï) (f:Ì),K9 K F H vs e f->e[k]? = Δ (.l Θ E)->∃l x fi p q,vs[k]? = Δ (.r l)/\¬F l/\H l=Δ (.l x)/\K9 K F H x E fi/\f=p++((l::fi)++q)/\
  ∀(H':Hp) (es':Î),(∀a (u:LD),F a->Rd H a u.o->F a/\Rd H' a u.o)->(∀a x,Md K H a x->Md K H' a x)->(∀a∈p++q,H' a=H a)->LS K F H' (.r l) (.l Θ es') (l::fi)->K9 K F H' vs (e.set k (.l Θ es')) f:=by
 intro e
 induction e with
 |nil=>intro k vs f h c;simp at c
 |cons d e I=>
  intro k vs f h c;cases h with
  | @cons v _ A P _ G j i=>
   cases k with
   |zero=>
    rw[List.getElem?_cons_zero]at c;cases c;cases j with
    | @M a x _ fi y w s=>refine⟨a,x,fi,[],G,rfl,y,w,s,rfl,λH' es' sl st k m=>?_⟩;exact .cons m (i.step sl st λb g n _=>⟨n,k b (by simpa using g)⟩)
   |succ k=>rw[aaU]at c;let⟨l,x,fi,p,q,O,N,L,J,C,B⟩:=I k P G i c;refine⟨l,x,fi,A++p,q,by rw[aaU];exact O,N,L,J,by rw[C,G_],λH' es' sl st k m=>?_⟩;exact .cons (j.step sl st λb g n _=>⟨n,k b (u_ _ (u_ _ g))⟩) (B H' es' sl st (λb g=>k b ((w_.mp g).elim (λz=>u_ _ (x_ _ z)) λz=>x_ _ z)) m)
def Mj.QT {K:Frag}  (m:Mj K B F H s j f)(c:ic j i=Δ (.l Θ e))(hk:e[k]? = Δ (.l Θ E))(lf:fT E=Θ)(L:fT es'=Θ) :
  ∃a l x ys,s[i]? = Δ (Δ (.r a))/\H a=Δ (.l x)/\x[k]? = Δ (.r l)/\x.length=e.length/\H l=Δ (.l ys)/\ys.length=E.length/\K4 K (λ_=>True) H ys E/\
   ∀c,K4 K (λ_=>True) H c es'->∃f',Mj K B F (upd H l (.l c)) s (j.set i (Δ (.l Θ (e.set k (.l Θ es'))))) f':=by
 let⟨v,fs,g,U,h2,hr,y⟩:=m.Mv.at c;cases h2 with
 | @M a x ds0 fi hF I G=>
  let⟨l,ys,fj,p,q,b1,C,O,A,b5,put⟩:=K9.part e k x fi G hk;let ej:=A.noF lf;subst ej;refine⟨a,l,x,ys,U,I,b1,G.length,O,A.length,A.read (λ_ _=>trivial) λ_ _=>trivial,λc hz=>?_⟩;subst b5;let S:((a::(p++([l]++q)))++g).Nodup:=y.nodup_iff.mp m.Mm;let pm:((a::(p++([l]++q)))++g).Perm (l::(a::(p++q++g))):=by simp only[c_,G_,List.nil_append];refine(List.Perm.cons a List.perm_middle).trans ?_;exact List.Perm.swap _ _ _
  let N:l∉a::(p++q++g):=(F_.mp (pm.nodup_iff.mp S)).1;let al:a≠l:=λz=>N (by rw[z];exact k_.mpr (.inl rfl));let sl:∀b (u:LD),F b->Rd H b u.o->F b/\Rd (upd H l (.l c)) b u.o:=λb x h r=>by refine⟨h,?_⟩;have:b≠l:=λz=>C (by rw[<- z];exact h);unfold Rd;rw[ik this];exact r
  let st:∀b x,Md K H b x->Md K (upd H l (.l c)) b x:=λb x h=>h.upd O;let W:Mc K F (upd H l (.l c)) s (j.set i Φ) g:=hr.step sl st λb w n _=>⟨n,ik λz=>N (by rw[<- z];exact J_ _ (x_ _ w))⟩
  let X:K9 K F (upd H l (.l c)) c es' []:=(K4.free L hz).step sl st jt;let m0:LS K F (upd H l (.l c)) (.r l) (.l Θ es') [l]:=.M C iq X;let Y:LS K F (upd H l (.l c)) (.r a) (.l Θ (e.set k (.l Θ es'))) (a::(p++([l]++q))):=.M hF (by rw[ik al];exact I) (put _ _ sl st (λb hb=>ik λz=>N (by rw[<- z];exact J_ _ (u_ _ hb))) m0);let⟨J,h',R,P⟩:=W.put i Y;rw[Gi U,List.set_set]at R;let Rf:(J++h').Nodup:=P.nodup_iff.mpr S;let lB:B.H l=Φ:=m.own l (y.mem_iff.mpr (by simp));refine⟨J,λb h=>?_,R,(s_.mp Rf).1,λb o Q=>?_,λb w=>?_,m.MZ,m.out,λb x h=>⟨(m.pin b x h).1,(sl b x (m.pin b x h).1 (m.pin b x h).2).2⟩,λb x h=>st b x (m.Qt b x h),m.nm⟩
  ·have:b≠l:=λz=>C (by rw[<- z];exact h);rw[ik this];exact m.L6 b h
  ·have:b≠l:=λz=>by rw[z,lB]at Q;cases Q
   rw[ik this];exact m.same _ _ Q
  ·exact m.own b (y.mem_iff.mpr (P.mem_iff.mp (u_ _ w)))
section
variable {K:Frag}{io:Â}{B:Bs io}{F:Å}{H:Hp}{c:St}{b:Ev}{f:Ì}
def mN (r:Mc K F H c b f)  (k:K6 K (λ_=>True) H v d)(j:Nat):Slots K (λ_=>True) H (c.set j (Δ v)) (b.set j (Δ d)) is:=λa p n z=>by
 by_cases g:j=a
 ·subst g;rw[kS]at z;by_cases e:j < b.length
  ·rw[e_ ⟨rfl,e⟩]at z;cases z;exact⟨v,List.getElem?_set_self (by rw[r.len];exact e),k⟩
  ·rw[d_ (λz=>e z.2)]at z;let⟨_,_,_,h,_⟩:=r.at z;have:=(v_.mp h).1;rw[r.len]at this;exact absurd this e
 ·rw[kS,d_ (λz=>g z.1)]at z;let⟨i,m,l⟩:=i9 (is:=[a]) r a (r_.mpr rfl) n z;exact⟨i,by rw[aaD g];exact m,l⟩
theorem Mc.forget:∀ {c:St}{b:Ev}{f:Ì} (j:Nat) (o:Option V),Mc K F H c b f->∃g h,Mc K F H (c.set j o) (b.set j Option.none) g/\(g++h).Perm f
 |_,_,_,_,_,.nil=>⟨[],[],.nil,.refl _⟩
 |_,_,_,0,_,.none h=>⟨_,[],.none h,by rw[Y_]⟩
 |_,_,_,0,_,.some (f:=a) (g:=G) m h=>⟨G,a,.none h,aaN⟩
 |_,_,_,j+1,o,.none h=>by let⟨g,k,i,e⟩:=Mc.forget j o h;exact⟨g,k,.none i,e⟩
 |_,_,_,j+1,o,.some (f:=a) (g:=G) m h=>by let⟨g,k,i,e⟩:=Mc.forget j o h;exact⟨a++g,k,.some m i,by rw[G_];exact aaM a e⟩
theorem Mj.forget (m:Mj K B F H c b f)(j:Nat)(o:Option V)(i:io≠Δ j):∃l,Mj K B F H (c.set j o) (b.set j Φ) l:=by
 let⟨g,h,r,p⟩:=m.Mv.forget j o;let nd:(g++h).Nodup:=p.nodup_iff.mpr m.Mm
 exact⟨g,m.L6,r,(s_.mp nd).1,m.same,λa k=>m.own a (p.mem_iff.mp (u_ _ k)),m.MZ,m.out,m.pin,m.Qt,λJ a e E=>by
  rw[aaD (λz=>i (by rw[z];exact e))]
  exact m.nm J a e E⟩
end
theorem vH:∀ {a:Ev}{j:Nat},ue a j=Θ->j < a.length
 |[],_,h=>by cases h
 |_::_,0,_=>Nat.succ_pos _
 |_::a,j+1,h=>Nat.succ_lt_succ (vH (a:=a) h)
theorem K4.WG {K:Frag}  (a:K6 K S H v d):∀ {vs:Ï}{c:Î} (t:Nat),K4 K S H vs c->K4 K S H (vs.set t v) (c.set t d)
 |_,_,_,.nil=>.nil
 |_,_,0,.cons b h=>.cons a h
 |_,_,t+1,.cons b h=>.cons b (K4.WG a t h)
theorem vI (hd:il d=Θ):∀ {a:Î} (t:Nat),fT a=Θ->fT (a.set t d)=Θ
 |[],_,h=>h
 |e::a,0,h=>by let H:=l_.mp (show(il e&&fT a)=Θ from h);show(il d&&fT a)=Θ;rw[hd,H.2];rfl
 |e::a,t+1,h=>by let H:=l_.mp (show(il e&&fT a)=Θ from h);show(il e&&fT (a.set t d))=Θ;rw[H.1,vI hd t H.2];rfl
def zV (hd:il d=Θ)  (h:fT a=Θ):fT (a++[d])=Θ:=by rw[iT]at h ⊢;rw[List.all_append,h];show(il d&&Θ)=Θ;rw[hd];rfl
def CN (g:Mf Z CX cl X G)  (h:vD Z G i j e c x v w s s'=Θ)(hr:OB X ss (RS X.K G.io (iz cl as))):OB X (s::s'::ss) (RS X.K G.io (iz cl (.R i j e c x v w::as))):=by
 unfold vD at h;rw[g_]at h;let⟨ha,hb⟩:=h;let⟨t,xi,p1,se,sp,aaw,rfl,U'⟩:=F6 ha;let⟨ce,y,p2,sx,sp2,ve,vp,y',p3,name,apos,we,LY,ep,afX,rfl,OE⟩:=Gf hb;simp only[g_]at U' OE;let⟨⟨⟨⟨⟨hn,hT⟩,hi⟩,hse⟩,he⟩,Ws⟩:=U';let⟨⟨⟨⟨⟨⟨⟨⟨⟨hc,hj1⟩,hsx⟩,hx⟩,hv⟩,R7⟩,Py⟩,hli⟩,L8⟩,hw⟩:=OE;let Ws:i≠j:=t_ Ws;let en:=h_ Py;subst en;let⟨Y,py,rfl⟩:=nmT hn;let N3:(G.N[j]? == Δ Y&&(G.kd[j]? == Δ .local||(G.df&&G.kd[j]? == Δ .cell)))=Θ:=(l_.mp hT).1;let WE:G.io≠Δ j:=by simpa using(l_.mp hT).2
 rw[g_,aaf,g_]at N3;let hxn:G.N[j]? = Δ Y:=h_ N3.1;let hk:=g.kd j Y hxn;let Px:Loc X.env.scope Y:=N3.2.elim (λz=>.inl (hk.trans (h_ z))) λz=>.inr (hk.trans (h_ z.2));let Qz:X.fn Y=Θ∨X.env.scope.names.lookup Y=Δ .local:=N3.2.elim (λz=>.inr (hk.trans (h_ z))) λz=>.inl (g.df z.1 Y);let P1:PS X (.Assign [.Name Y py] (.Subscript (.Name xi p1) se sp) aaw) _:=qc (i:=j) (by rw[g.N];exact g.Mm) (by rw[g.N];exact hxn) Px (xX uR (lJ g hi) (snd e X G se g he).1 (plx hse)) rfl Qz;let Pa:PS X (.Assign [.Subscript (.Name y p2) sx sp2] ve vp) _:=psS (snd v X G ve g hv).1 (pgs (lJ g hj1) (snd x X G sx g hx).1 set_list hsx);let pa:PA X [we] (kg (RD X.K (vars w) (K8 cl w)) o6):=iH (snd w X G we g hw).1 iZ (fS L8 _ _);let NA:((backTo LY (Ν [we] X.env)).all (λx=>!x.1)&&(backToKw LY (keywordEach [] X.env)).all (λx=>x.1.isSome)&&decide ([we].length+([]:List Keyword).length+(if([]:List Keyword).isEmpty then 0 else 1) < 30))=Θ:=by rw[fS L8];rfl
 let Pb:PS X (.Expr (.Call (.Attribute (.Name y' p3) "append" apos) [we] [] LY) ep) _:=mj (ni PySem.F.plainAttrs_list PySem.F.slot_list_append PySem.F.type_list_append kP (lJ g R7) pa rfl NA hli (fS L8 _ _) rfl);refine nv (kH P1 (kH (xJ (snd c X G ce g hc).2 (kH Pa qb) (kH Pb qb)) hr)) λDn σ H LX=>?_;let⟨B,F,u,f,m,q⟩:=LX;let q00:=K5.KZ (show K5 (KZ (yO cl i j e c x v w u (ic u i)) λfl=>match fl with|.n p=>iz cl as p|.c p=>.ok (.c p)|.b p=>.ok (.b p)|.r d=>.ok (.r d)|.R d ks vs=>.ok (.R d ks vs)) (Fk X.K B Dn) from q);obtain⟨KK,hKK,U⟩:∃KK:Fl->Prop,(∀p,KK (.n p)->K5 (iz cl as p) (Fk X.K B Dn))/\K5 (yO cl i j e c x v w u (ic u i)) KK:=⟨_,λp z=>z,q00⟩
 cases zs:ic u i with
 |none=>rw[zs]at U;exact U.no.elim
 |some dd=>
  rw[zs]at U
  cases dd using zD with
  |l ow I=>
   cases ow using zB with
   |false=>exact U.no.elim
   |true=>
    let q1:=K5.KZ (show K5 (KZ (K8 cl e u) (Cu cl i j c x v w I u)) KK from U);let⟨l0,Yi,MC,ZX,hlen⟩:=l7 m.Mv zs;refine⟨.r l0,MC,m.rd q1 λyv wv H1 m1 e1 mw Q=>?_⟩
    cases yv using zD with
    |i z=>
     cases mw.L5;let Q:K5 (uf cl i j c x v w I u (NT I.length z)) KK:=Q;cases J:NT I.length z with
     |none=>rw[J]at Q;exact Q.no.elim
     |some k=>
      rw[J]at Q;cases Yn:I[k]? with
      |none=>unfold uf at Q;simp only[Yn]at Q;exact Q.no.elim
      |some dk=>
       let q3:K5 (match(Δ dk:Ã) with|some (.l Θ E)=>LK (fT E&&ue u j) (KZ (KZ (K8 cl c (u.set j (Δ (.l Θ E)))) iN) (xk cl i j k x v w I E u))|_=>LP) KK:=by unfold uf at Q;simp only[Yn]at Q;exact Q
       cases dk using zD with
       |l ow E=>
        cases ow using zB with
        |false=>exact q3.no.elim
        |true=>
         let⟨M,q4⟩:=K5.LK q3;rw[g_]at M;let WH:=M.1;let V9:j < σ.length:=by rw[m.Mv.len];exact vH M.2
         let⟨a,l,xs,O,b1,b2,b3,b4,b5,b6,b7,_⟩:=m1.QT (es':=E) zs Yn WH WH;rw[MC]at b1;cases b1;let hrl:K6 X.K (λ_=>True) H1 (.r l) (.l Θ E):=.L trivial (.inl b5) b7;refine⟨l0,xs,z,.r l,rfl,rfl,.inl (.inl b2),?_,?_⟩
         ·unfold M5;rw[b4,J];exact b3
         ·let q5:=K5.KZ q4;refine lD (.refl _) (mN m1.Mv hrl j) q5 λr H2 W _ S=>?_;let m2:=m1.grow W;let Ug:K6 X.K (λ_=>True) H2 (.r l) (.l Θ E):=hrl.mono (λ_ z=>z) W;let Qs:H2 l=Δ (.l O):=W _ _ b5;let fin:∀(N:Hp) (A:ir H2 N) (C:Î) (Yo:Ï),fT C=Θ->K4 X.K (λ_=>True) N Yo C->K5 (iz cl as ((u.set i (Δ (.l Θ (I.set k (.l Θ C))))).set j Φ)) (Fk X.K B Dn)->RS X.K G.io (iz cl as) Dn (σ.set j (Δ (.r l))) (upd N l (.l Yo)):=by intro N A C Yo lf' hz hq;let m3:=m2.grow A;let⟨a',l',U0,ys',c1,c2,c3,c4,c5,c6,c7,wr⟩:=m3.QT (es':=C) zs Yn WH lf';rw[MC]at c1;cases c1;rw[A _ _ (W _ _ b2)]at c2;cases c2;rw[b3]at c3;cases c3;let⟨f4,m4⟩:=wr Yo hz;let⟨f5,m5⟩:=m4.forget j (Δ (.r l)) WE;exact⟨B,F,_,f5,m5,hq⟩
          let hjn:(σ.set j (Δ (.r l)))[j]? = Δ (Δ (V.r l)):=List.getElem?_set_self V9
          cases r using zB with
          |true=>
           let S:K5 (KZ (K8 cl v (u.set j (Δ (.l Θ E)))) λd=>KZ (K8 cl x (u.set j (Δ (.l Θ E)))) (Ct i j k I E u d)) KK:=S;refine iK (.refl _) (mN m2.Mv Ug j) (K5.KZ S) λd vv N A _ mv q7=>?_;let m3:=m2.grow A;refine⟨.r l,hjn,iK (.refl _) (mN m3.Mv (Ug.mono (λ_ z=>z) A) j) (K5.KZ q7) λy4 w4 H4 e4 _ mw4 P=>?_⟩
           cases y4 using zD with
           |i z4=>
            cases mw4.L5;unfold Ct at P;cases Uh:NT E.length z4 with
            |none=>simp only[Uh]at P;exact P.no.elim
            |some t=>simp only[Uh]at P;let⟨lfd,q9⟩:=K5.LK P;refine⟨l,O,z4,t,rfl,rfl,e4 _ _ (A _ _ Qs),by rw[b6];exact Uh,?_⟩;exact fin H4 (A.trans e4) (E.set t d) (O.set t vv) (vI lfd t WH) (K4.WG (mv.mono (λ_ _=>trivial) e4) t (b7.mono (λ_ z=>z) (W.trans (A.trans e4)))) (hKK _ q9.ok)
           |_=>exact P.no.elim
          |false=>let S:K5 (KZ (K8 cl w (u.set j (Δ (.l Θ E)))) (Ft i j k I E u)) KK:=S;refine⟨.r l,hjn,.inl ⟨rfl,O,.inl (.inl Qs)⟩,iK (.refl _) (mN m2.Mv Ug j) (K5.KZ S) λd vv N A _ mv q7=>?_⟩;let⟨gd,q9⟩:=K5.LK (show K5 (LK (il d&&jf E.length) (.ok (.n ((u.set i (Δ (.l Θ (I.set k (.l Θ (E++[d])))))).set j Φ)))) KK from q7);rw[g_]at gd;refine⟨l,O,vv,rfl,rfl,A _ _ Qs,by rw[b6];exact kx gd.2,?_⟩;exact fin N A (E++[d]) (O++[vv]) (zV gd.1 WH) ((b7.mono (λ_ z=>z) (W.trans A)).append (.cons (mv.mono (λ_ _=>trivial) (.refl _)) .nil)) (hKK _ q9.ok)
       |_=>exact q3.no.elim
    |_=>exact Q.no.elim
  |_=>exact U.no.elim
theorem pW {K:Frag}  : ∀(P:Ì),(∀p∈P,¬F p/\H p=Δ (.l []))->K9 K F H (P.map V.r) (Τ P.length (.l Θ [])) P
 |[],_=>.nil
 |p::P,h=>by let a:=h p (.head _);exact .cons (f:=[p]) (.M a.1 a.2 .nil) (pW P λq b=>h q (.tail _ b))
def tLs (K:Frag)(cl:Ä)(s:Sr):TE:=λb H Q=>∃S a,Slots K S H b a (j6 s)/\K5 (jY cl s a) λi=>i.length < Ζ/\
 ∀(A:Ω) (P:Ì) (h:Hp),ir H h->H A=Φ->h A=Δ (.l (P.map V.r))->P.Nodup->A∉P->(∀p∈P,H p=Φ/\h p=Δ (.l []))->P.length=i.length->Q (.r A) h
def zW (g:Mf Z CX cl X G)  (hs:Pt Z G f G' fr)(hT:jM G' (.n t) M=Θ)
  (hi:PI X M iter (RI X.K (j6 s) (jY cl s))) (hf:∀x,foldedSetIterable iter X.env x=pure x):PE X (.ListComp (.List [] lp) [⟨M,iter,[],0⟩] f pos) (tLs X.K cl s):=by
 intro B s' σ H Q Iv h;let⟨MX,S⟩:=kU g Iv.ok hs;let p:=qj (pos:=pos) (E:=.List [] lp) (i:=[]) (j:=M) (g:=gT X.K (.n t)) (k:=RT X.K (ij []) (kE cl [])) (l:=Hz o6) (g.calm hs.cm) S hi (λC s H N=>SR (jj g hs MX C s H N) (.n t) M hT) (λC s H N=>zA [] _ G' [] (jj g hs MX C s H N) rfl) (λC s H N=>nT iZ) hf;refine p B s' σ H Q Iv ?_;let⟨S0,τ,Ox,q⟩:=h;refine FQ (.refl _) Ox q λI J H1 e1 _ W R A hA=>?_;let⟨hsz,R⟩:=R;let hHA:H A=Φ:=e1.free hA;refine⟨λi m LW L=>m=I.length - i/\i<=I.length/\∃P:Ì,L A=Δ (.l (P.map V.r))/\P.length=i/\P.Nodup/\A∉P/\(∀p∈P,H1 p=Φ/\L p=Δ (.l []))/\ir H1 L,⟨I.length,by simp,aaa _,[],iq,rfl,List.nodup_nil,by simp,λp r=>by simp at r,.upd hA⟩,?_⟩;rintro i m LW L ⟨rfl,hi,P,a1,a2,a3,a4,F,u⟩;by_cases Mi:i < I.length
 ·refine .inr ⟨(W.mono (λ_ z=>z) u).go Mi,λx H2 U=>?_⟩;let⟨E,mx⟩:=(W.mono (λ_ z=>z) u).Q3 U (d:=I[i]) (by simp[Mi]);show RT X.K (ij []) (kE cl []) (LW.set t (Δ x)) H2 _;refine lD (S:=λ_=>True) (b:=[]) (.refl _) (λk hk=>by simp[ij]at hk) (show K5 (kE cl [] []) (λb=>b=Θ) from rfl) λb H4 v _ c=>?_;subst c;rw[e_ rfl];let eA:=v _ _ (E _ _ a1);refine⟨by simp,λq j=>?_⟩;let O:q≠A:=λz=>by rw[z,eA]at j;cases j
  let w:q∉P:=λz=>by rw[v _ _ (E _ _ (F q z).2)]at j;cases j
  refine⟨P.map V.r,by rw[ik (Ne.symm O)];exact eA,by rw[i_,a2];omega,I.length - (i+1),⋯,rfl,Mi,P++[q],?_,by rw[q_,a2];rfl,?_,?_,λp r=>?_,?_⟩
  ·rw[iq,I_];rfl
  ·refine s_.mpr ⟨a3,by simp,λa ha b c e=>?_⟩;rw[r_.mp c]at e;exact w (e ▸ ha)
  ·intro z;rcases w_.mp z with z|z
   ·exact a4 z
   ·exact O (r_.mp z).symm
  ·let Y:p≠A:=by
    rcases w_.mp r with z|z
    ·exact λy=>a4 (y ▸ z)
    ·rw[r_.mp z];exact O
   rw[ik Y];rcases w_.mp r with z|z
   ·rw[ik (λ(y:p=q)=>w (y ▸ z))];exact⟨(F p z).1,v _ _ (E _ _ (F p z).2)⟩
   ·rw[r_.mp z,iq];exact⟨u.free (E.free (v.free j)),rfl⟩
  ·intro b o c;let hbA:b≠A:=by rintro rfl;rw[hA]at c;cases c
   let hbq:b≠q:=by rintro rfl;rw[v _ _ (E _ _ (u _ _ c))]at j;cases j
   rw[ik hbA,ik hbq];exact v _ _ (E _ _ (u _ _ c))
 ·let e:i=I.length:=⋯
  subst e;exact .inl ⟨(W.mono (λ_ z=>z) u).stop rfl,R A P L (e1.trans u) hHA a1 a3 a4 (λp r=>⟨e1.free (F p r).1,(F p r).2⟩) a2⟩
def KR (g:Mf Z CX cl X G)  {st:Stmt}(h:X7 st (λtg e=>isName tg&&jM G (.n j) tg&&LV Z G (.d R fr (.n t) s [] (.l [])) e)=Θ) :
  PS X st (RS X.K G.io (Ms cl (.U j R fr t s))):=by
 let⟨tgt,e,lp,lq,bp,pos,rfl,h0⟩:=F5 h;simp only[g_]at h0;let⟨⟨hn,hT⟩,hc⟩:=h0
 cases e using zE with
 |ListComp el O S Qj=>
  let hv:zb O (λt' it fs=>jW Z G S R fr&&jM R (.n t) t'&&(N8 (.n t)).all (λi=>decide (fr.length<=i))&&(kM Z G s it&&qB s t')&&iX Z R [] fs&&LV Z R (.l []) el)=Θ:=hc;let⟨t',it,fs,rfl,Ra⟩:=nH hv;simp only[g_]at Ra;let⟨⟨⟨⟨⟨k1,k2⟩,k3⟩,k4,k5⟩,k6⟩,k7⟩:=Ra
  cases fs using zL with
  |cons _ _=>exact iF k6
  |nil=>
  cases el using zE with
  |List l aaA=>
   cases l using zL with
   |cons _ _=>exact iF k7
   |nil=>
   cases tgt using zE with
   |Name y py=>
    let N3:(G.N[j]? == Δ y&&(G.kd[j]? == Δ .local||(G.df&&G.kd[j]? == Δ .cell)))=Θ:=(l_.mp hT).1;let WE:G.io≠Δ j:=by simpa using(l_.mp hT).2
    rw[g_,aaf,g_]at N3;let hx:G.N[j]? = Δ y:=h_ N3.1;let hk:=g.kd j y hx;let Px:Loc X.env.scope y:=N3.2.elim (λz=>.inl (hk.trans (h_ z))) λz=>.inr (hk.trans (h_ z.2));let Qz:X.fn y=Θ∨X.env.scope.names.lookup y=Δ .local:=N3.2.elim (λz=>.inr (hk.trans (h_ z))) λz=>.inl (g.df z.1 y);let pe:=zW (lp:=aaA) (pos:=Qj) g (nL k1) k2 (zC s X G it t' g k4 k5) (λx=>jE k4 X.env x);refine jg (qc (i:=j) (by rw[g.N];exact g.Mm) (by rw[g.N];exact hx) Px (uO (pos:=bp) qx pe (nT (pos:=lq) (iH (nT (pos:=lp) iZ) iZ (fS (e:=.List [] lp) rfl _ _)))) rfl Qz) λDn σ H hh=>?_;let⟨B,F,Y,f,m,q⟩:=hh;let q0:K5 (KZ (jY cl s Y) (Cs j Y)) (Fk X.K B Dn):=q;refine⟨λ_=>True,Y,i9 m.Mv,(K5.KZ q0).mono λI q1=>?_⟩;let⟨gd,q1⟩:=K5.LK (show K5 (LK (jf I.length) (.ok (.n (Y.set j (Δ (.l Θ (Τ (I.length+1) (.l Θ [])))))))) (Fk X.K B Dn) from q1);let hsz:=kx gd;refine⟨hsz,λA P w e1 hA hA1 nd nA W v=>?_⟩;refine⟨aaa _,λr hr=>⟨(by show 1<=Ζ;decide),λJ hA2=>?_⟩⟩;let Q:ir w (upd w r (.l [])):=.upd hr;let E:ir (upd w r (.l [])) (upd (upd w r (.l [])) J (.l [.r r])):=.upd hA2;refine⟨A,J,P.map V.r,[.r r],rfl,rfl,.inl (.inl (E _ _ (Q _ _ hA1))),.inl (.inl iq),by rw[i_,v];show I.length+1<=_;omega,λc C=>?_⟩;let e4:ir (upd (upd w r (.l [])) J (.l [.r r])) (upd (upd (upd w r (.l [])) J (.l [.r r])) c (.l (P.map V.r++[.r r]))):=.upd C;let aaB:=e1.trans (Q.trans (E.trans e4));let m1:=m.grow aaB;let L:H r=Φ:=e1.free hr;let N:H c=Φ:=(e1.trans (Q.trans E)).free C;let nF:∀b,H b=Φ->¬F b:=λb k z=>m.L6 b z k;let rH1:r∉P:=λz=>by rw[(W r z).2]at hr;cases hr
    let aaC:c∉P:=λz=>by rw[E _ _ (Q _ _ (W c z).2)]at C;cases C
    let a3r:c≠r:=λz=>by rw[z,E _ _ iq]at C;cases C
    let mv:LS X.K F (upd (upd (upd w r (.l [])) J (.l [.r r])) c (.l (P.map V.r++[.r r]))) (.r c) (.l Θ (Τ (I.length+1) (.l Θ []))) (c::(P++[r])):=by
     refine .M (nF c N) iq ?_;have:=pW (K:=X.K) (F:=F) (H:=upd (upd (upd w r (.l [])) J (.l [.r r])) c (.l (P.map V.r++[.r r]))) (P++[r]) λp hp=>by
      rcases w_.mp hp with z|z
      ·exact⟨nF p (W p z).1,e4 _ _ (E _ _ (Q _ _ (W p z).2))⟩
      ·rw[r_.mp z];exact⟨nF r L,e4 _ _ (E _ _ iq)⟩
     rw[I_,q_,v]at this;exact this
    let SX:∀b∈c::(P++[r]),H b=Φ:=λb k=>by
     rcases k_.mp k with rfl|k
     ·exact N
     ·rcases w_.mp k with z|z
      ·exact(W b z).1
      ·rw[r_.mp z];exact L
    let nd1:(c::(P++[r])).Nodup:=by rw[F_];refine⟨λz=>(w_.mp z).elim aaC λz=>a3r (r_.mp z),s_.mpr ⟨nd,by simp,λa ha b k e=>?_⟩⟩;rw[r_.mp k]at e;exact rH1 (e ▸ ha)
    let⟨f5,m5⟩:=m1.put j mv (s_.mpr ⟨nd1,m.Mm,λa ha b k e=>by
     subst e;let⟨_,u,hu⟩:=m.Mv.own a k;rw[SX a ha]at hu
     cases hu⟩) (λb k=>m.same.free (SX b k)) WE
    exact q1.ok _ _ _ _ m5
   |_=>cases hn
  |_=>exact iF k7
 |_=>exact iF hc
section
variable {Z:Sg}{CX:PK}{cl:Ä}{X:Cx}{G:Gm}
def KS (g:Mf Z CX cl X G)  (h1:ke G i x=Θ)(Y:(j.endLine == L.line)=Θ)(C:notStar v=Θ)(W:LV Z G e v=Θ) :
  PS X (.Expr (.Call (.Attribute (.Name x p) "append" j) [v] [] L) pos) (RS X.K G.io (Ms cl (.A i e))):=by
 let P:PA X [v] (kg (RO X.K (Ml cl Ξ e)) o6):=iH (SU e Ξ X G v g W) iZ (fS C _ _);let NA:((backTo L (Ν [v] X.env)).all (λx=>!x.1)&&(backToKw L (keywordEach [] X.env)).all (λx=>x.1.isSome)&&decide ([v].length+([]:List Keyword).length+(if([]:List Keyword).isEmpty then 0 else 1) < 30))=Θ:=by rw[fS C];rfl
 refine jg (mj (ni PySem.F.plainAttrs_list PySem.F.slot_list_append PySem.F.type_list_append kP (lJ g h1) P rfl NA Y (fS C _ _) rfl)) λDn σ H h=>?_;let⟨B,F,u,f,m,q⟩:=h;let Q:K5 (match ic u i with|some (.l _ _)=>(KZ (Ml cl Ξ e u) λp=>(match ic p.2 i with|some (.l Θ s)=>LK (jf s.length) (.ok (.n (p.2.set i (Δ (.l Θ (s++[p.1]))))))|_=>LP))|_=>LP) (Fk X.K B Dn):=q;cases w:ic u i with
 |none=>rw[w]at Q;exact Q.no.elim
 |some d0=>
  rw[w]at Q
  cases d0 using zD with
  |l o0 ds0=>
   let⟨O,fv0,g0,E,a2,a3,a4⟩:=m.Mv.at w;let y:∃l k,O=.r l/\MR X.K H l k:=by
    cases a2 with
    |g _ c _=>exact⟨_,_,rfl,.inl c⟩
    |l c _=>exact⟨_,_,rfl,c.sq⟩
    |M _ c _=>exact⟨_,_,rfl,.inl (.inl c)⟩
   let⟨l,Yi,rfl,y⟩:=y;refine⟨.r l,E,.inl ⟨rfl,Yi,y⟩,m.ro (K5.KZ Q) λp v H' F' fv f' o a=>?_⟩;let⟨I,U⟩:=m.ow o;cases z:ic p.2 i with
   |none=>rw[z]at a;exact a.no.elim
   |some d=>
    rw[z]at a
    cases d using zD with
    |l ow s=>
     cases ow using zB with
     |false=>exact a.no.elim
     |true=>let⟨gd,a⟩:=K5.LK a;let⟨l',k,N,J,b⟩:=l7 I.Mv z;rw[E]at N;cases N;let⟨Wn,R⟩:=I.write (ys:=k++[v]) (ds':=s++[p.1]) z E J o.rep o.Mm U λfi S=>S.snoc o.rep;exact⟨l,k,v,rfl,rfl,J,by rw[b];exact kx gd,a.ok _ _ _ _ R⟩
    |_=>exact a.no.elim
  |_=>exact Q.no.elim
def Fk.SY {K:Frag}  (m:Mj K B F H a c f)(o:Ow K F H f b H' a v d fv τ' e):Out K B.F B.H b H' v d fv:=by let⟨M,h⟩:=m.ow o;exact⟨M.L6,M.same,o.rep,(s_.mp o.Mm).1,h,M.MZ,M.out⟩
def KU (g:Mf Z CX cl X G)  (h:LV Z G e v=Θ):PS X (.Return (Δ v) pos) (RS X.K G.io (Ms cl (.r e))):=by refine jg (tw (SU e Θ X G v g h)) λn c H L=>?_;let⟨B,F,b,f,m,q⟩:=L;exact m.ro (K5.KZ q) λp v k l i j o a=>a.ok _ _ _ _ (Fk.SY m o)
def J' (g:Mf Z CX cl X G)  (O:G.io=Δ i)(h:LV Z G e v=Θ):PS X (.Return (Δ v) pos) (RS X.K G.io (Ms cl (.N i e))):=by
 refine jg (tw (SU e Θ X G v g h)) λC I H L=>?_;let⟨B,F,n,f,m,q⟩:=L;let Q:K5 (KZ (Ml cl Θ e n) (rV i)) (Fk X.K B C):=q;refine m.ro (K5.KZ Q) λp v y A w Y o a=>?_;unfold rV at a;split at a
 ·rename_i ks vs r
  let⟨j,a⟩:=K5.LK a;let⟨M,R⟩:=m.ow o;let⟨l,k,W,x,u,s,U,c,J,b⟩:=nM M.Mv r j;refine a.ok v y A w k l (λa' E=>?_) (Fk.SY m o) u (λz=>?_) s U ((c.read (S:=λ_=>True) (λ_ _=>trivial) λ_ _=>trivial).lf j)
  ·let P:=M.nm _ _ O E;rw[x]at P;cases P;rfl
  ·exact(s_.mp o.Mm).2.2 _ z _ (b.mem_iff.mpr (k_.mpr (.inl rfl))) rfl
 ·exact a.no.elim
def KW (g:Mf Z CX cl X G)  (a:vC v=Θ)(h:LV Z G e v=Θ):PS X (.Expr v pos) (RS X.K G.io (Ms cl (.e e))):=by refine jg (mj (snd e X G v g h).1 (by induction v using zE<;>first|rfl|cases a)) λj c H L=>?_;let⟨B,F,b,f,m,q⟩:=L;exact m.rd (K5.KZ q) λd v i M _ _ hd=>hd.ok _ _ _ _ M
def K3 (g:PT X c (RT X.K (vars t) λe=>KZ (K8 cl t e) iN))(j:OB X x (RS X.K G.io (iz cl a)))(i:OB X y (RS X.K G.io (iz cl b))):PS X (.If c x y pos) (RS X.K G.io (Ms cl (.L t a b))):=by
 refine jg (xJ g j i) λp k H l=>?_;let⟨B,F,e,f,m,q⟩:=l;refine m.rt (K5.KZ q) λr n M _ h=>?_
 cases r using zB with
 |true=>rw[e_ rfl]at h ⊢;exact⟨B,F,e,f,M,h⟩
 |false=>rw[d_ p_]at h ⊢;exact⟨B,F,e,f,M,h⟩
def Mj.less {K:Frag}{io:Â}{B:Bs io}{L:Ω->LD->Prop}{T:Ω->Ï->Prop}{F:Å}{H:Hp}{c:St}{b:Ev}{f:Ì}(m:Mj K (⟨B.F,B.H,λa x=>B.L a x∨L a x,λa x=>B.T a x∨T a x,B.N⟩:Bs io) F H c b f):Mj K B F H c b f:=
 ⟨m.L6,m.Mv,m.Mm,m.same,m.own,m.MZ,m.out,λa x h=>m.pin a x (.inl h),λa x h=>m.Qt a x (.inl h),m.nm⟩
def sF:∀(a:Î) (i:Nat),(LM a).drop i=LM (a.drop i):=by intro a i;rw[iI,iI,List.map_drop]
def sG {J:It}{K:Frag}{io:Â}{B:Bs io}{F:Å}{H:Hp}{l:St}{g:Ev}{f:Ì}{T:Tg}{body:Ê}{its:Î}{s:Ends}(OV:∀j∈N8 T,io≠Δ j)(m:Mj K B F H l g f)(w:NN K F H J its)
  (q:K5 (forM (λx g=>KZ (ju T x g) λτ'=>iz cl body τ') (LM its) g) (Fk K B s)) :
  ∃W:Nat->Nat->St->Hp->Prop,(∃m,W 0 m l H)/\∀i m l H,W i m l H->(J.stop i H/\s.nx l H)∨(J.go i H/\∃N:St->Hp->Prop,(∀L H',N L H'->∃C,C < m/\W (i+1) C L H')/\
   ∀x H',J.Q3 i H x H'->gT K T x l H' λOL H2=>RS K io (iz cl body) {s with nx:=N,ct:=N,bk:=s.nx} OL H2):=by
 letI I:Bs io:=⟨B.F,B.H,λa k=>B.L a k∨(F a/\Rd H a k.o),λa k=>B.T a k∨Md K H a k,B.N⟩
 let m0:Mj K I F H l g f:=⟨m.L6,m.Mv,m.Mm,m.same,m.own,m.MZ,m.out,λa k h=>h.elim (m.pin a k) id,λa k h=>h.elim (m.Qt a k) id,m.nm⟩
 letI P:D->Ev->Res Fl:=λx g=>KZ (ju T x g) λτ'=>iz cl body τ';refine⟨λi n l H=>n=its.length - i/\i<=its.length/\∃F g f,Mj K I F H l g f/\K5 (forM P ((LM its).drop i) g) (Fk K B s),⟨its.length,by simp,aaa _,F,g,f,m0,by rw[List.drop_zero];exact q⟩,?_⟩;rintro i n U H1 ⟨rfl,hi,S,Q9,f1,M,Q⟩;let O:NN K S H1 J its:=w.step (λa k h r=>M.pin a k (.inr ⟨h,r⟩)) λa k h=>M.Qt a k (.inr h);by_cases E:i < its.length
 ·refine .inr ⟨O.go E,λl H=>∃F g f,Mj K I F H l g f/\K5 (forM P ((LM its).drop (i+1)) g) (Fk K B s),λL H' h=>⟨its.length - (i+1),⋯,rfl,E,h⟩,λx H' y=>?_⟩;let⟨eH,mx⟩:=O.Q3 y (d:=its[i]) (by simp[E]);let M:=M.grow eH;let hd:(LM its).drop i=er its[i]::(LM its).drop (i+1):=by rw[sF,List.drop_eq_getElem_cons E,LM,sF]
  rw[hd]at Q;let Y:=K5.KZ Q;refine M.gT mx.frozen (by simpa using M.Mm) (λa ha=>absurd ha (by simp)) OV (K5.KZ Y) λτ' L p C h'=>?_;refine⟨I,S,τ',p,C,h'.mono λr u=>?_⟩;cases r with
  |n τ'=>exact λL H' A p z=>⟨A,τ',p,z,u⟩
  |c τ'=>exact λL H' A p z=>⟨A,τ',p,z,u⟩
  |b τ'=>exact λL H' A p z=>u.ok _ _ _ _ z.less
  |r d=>exact λv H' A fv o=>u.ok _ _ _ _ o
  |R d ks es=>exact u.ok
 ·let e:i=its.length:=⋯
  subst e;refine .inl ⟨O.stop rfl,?_⟩;have:(LM its).drop its.length=[]:=by rw[<- jB its,List.drop_length]
  rw[this]at Q;exact Q.ok _ _ _ _ M.less
def CO (a b:Int):LM (iQ a b)=iQ a b:=by unfold iQ;rw[iI,z_];rfl
abbrev DZ (cl:Ä):Sr->Ev->Res (Int×Int)
 |.M n,a=>KZ (K8 cl n a) λ|.i i=>LK (nq i) (.ok (0,i))|_=>LP
 |_,_=>LP
def RIr (K:Frag)(is:Ç)(f:Ev->Res (Int×Int)):TI:=λb H R=>∃S a,Slots K S H b a is/\K5 (f a) λp=>∀h,ir H h->R (VA p.1 (p.2 - p.1).toNat) h
abbrev zX:Sr->Bool
 |.M _=>Θ
 |_=>Ξ
def zY (h:zX s=Θ)  (q:K5 (jY cl s a) k):K5 (DZ cl s a) λp=>k (iQ p.1 p.2):=by
 cases s with
 |M n=>
  refine K5.mk ((K5.KZ (show K5 (KZ (K8 cl n a) λ|.i i=>LK (nq i) (.ok (iQ 0 i))|_=>LP) k from q)).mono λd hd=>?_)
  cases d using zD with
  |i i=>let⟨g,hd⟩:=K5.LK hd;show K5 (LK (nq i) (.ok (0,i))) _;unfold LK;rw[e_ g];exact hd.ok
  |_=>exact hd.no.elim
 |_=>exists h
def Ku:∀(s:Sr) (X:Cx) (G:Gm) (e f:Expr),Mf Z CX cl X G->kM Z G s e=Θ->zX s=Θ->PI X f e (RIr X.K (j6 s) (DZ cl s)):=by
 intro s X G e f g h r;cases s with
 |M n=>
  let⟨x,p,A,pos,rfl,u⟩:=jD h;let⟨a,rfl,b⟩:=i5 u;simp only[g_]at b;let E:x = "range":=h_ b.1.1.1;subst E;let⟨j,k,_,_⟩:=jA g (show iU[15]? = Δ ("range" : Str) from rfl) b.1.1.2;refine qh (pF j k (iH (snd n X G a g b.2).1 iZ (fS b.1.2 _ _)) (fS b.1.2 _ _)) λz H Q L=>?_;let⟨S,y,l,q⟩:=L;refine iK (.refl _) l (K5.KZ q) λx v B E _ m c=>?_
  cases x using zD with
  |i i=>cases m.L5;let⟨w,c⟩:=K5.LK c;let P : -(2 ^ 62)<=i/\i < 2 ^ 62:=t_ w;refine⟨i,rfl,P.1,P.2,?_⟩;have:=c.ok _ E;rw[show(0,i).2 - (0,i).1=i from Int.sub_zero i]at this;exact this
  |_=>exact c.no.elim
 |_=>cases r
def KY (g:Mf Z CX cl X G)  {T:Tg}  (j:(G.cm=Θ/\G.rs=Θ)/\jM G T t=Θ)(U:kM Z G s I=Θ/\qB s t=Θ)(n:OB X x (RS X.K G.io (iz cl a))):PS X (.For t I x [] pos) (RS X.K G.io (Ms cl (.b T s a))):=by
 let w:=j.2;let k:=U.1;by_cases l:zX s=Θ
 ·refine jg (xQ (g.own j.1.2) (g.calm j.1.1) (Ku s X G I t g k l) (SR g T t w) n (λx=>jE k X.env x)) λy P H L=>?_;let⟨B,F,c,f,m,q⟩:=L;let A:K5 (KZ (rT cl s c) λp=>forM (λx c=>KZ (ju T x c) λe=>iz cl a e) p.1 p.2) (Fk X.K B y):=q;let base:K5 (jY cl s c) λi=>K5 (forM (λx c=>KZ (ju T x c) λe=>iz cl a e) i c) (Fk X.K B y):=by
   cases s with
   |M u=>exact(K5.KZ (show K5 (KZ (jY cl (.M u) c) λi=>.ok (i,c)) _ from K5.KZ A)).mono λi h=>h.ok
   |_=>cases l
  exact⟨λ_=>True,c,i9 m.Mv,(zY l base).mono λp hp O E=>sG (mK T t w) (m.grow E) (.Q p.1 p.2) (by rw[CO];exact hp)⟩
 ·refine jg (xQ (g.own j.1.2) (g.calm j.1.1) (zC s X G I t g k U.2) (SR g T t w) n (λx=>jE k X.env x)) λy P H L=>?_;let⟨B,F,c,f,m,q⟩:=L;let A:K5 (KZ (rT cl s c) λp=>forM (λx c=>KZ (ju T x c) λe=>iz cl a e) p.1 p.2) (Fk X.K B y):=q;let R:=K5.KZ A;let C:rT cl s c=(KZ (jY cl s c) λi=>.ok (LM i,LZ (j6 s) c)):=by
   cases s with
   |v u=>rfl
   |z u v=>rfl
   |N u=>rfl
   |_=>exact absurd rfl l
  rw[C]at R;let⟨F1,gg,b1,b2,b3,b4,S,b6⟩:=kA (j6 s) m.L6 m.Mv m.Mm;refine FQ (.refl _) b6 (K5.KZ R) λi J O E _ Y hk=>?_;let⟨c1,c2,c3⟩:=grow (λ_=>True) b1 b2 E;let m2:Mj X.K B (λa=>F1 a∨(True/\H a=Φ/\O a≠Φ)) O P (LZ (j6 s) c) gg:=m.N9 (b4.trans c3 (λx hx=>.inl (S x hx))) c1 c2 b3 λa n=>.inl (S a n);exact sG (mK T t w) m2 (Y.step (λa W h r=>⟨h.elim (λz=>.inl z) λz=>.inr ⟨trivial,z,r.some⟩,r⟩) λa W h=>h) hk.ok
mutual
theorem snS:∀(a:IS) (X:Cx) (G:Gm) (s:Stmt),Mf Z CX cl X G->zH Z G a s=Θ->PS X s (RS X.K G.io (Ms cl a))
 |.a tg e,X,G,s,g,h=>by let⟨ts,v,pos,rfl,u⟩:=m8 h;let⟨t,rfl,I⟩:=i5 u;simp only[g_]at I;exact KP g I.1.1 I.1.2 I.2
 |.N i e,X,G,s,g,h=>by let⟨o,pos,rfl,u⟩:=uv h;let⟨v,rfl,I⟩:=uu u;rw[g_]at I;exact J' g (h_ I.1) I.2
 |.c i k f M,X,G,s,g,h=>by let u:Yd s (λx sx O E=>ke G i x&&iW sx&&LV Z G k sx&&G.cm&&(jZ Z G f O&&Z.Nk.contains f)&&iX Z G (M++[.v i]) E&&!(ij M).contains i)=Θ:=h;exact M0 g u
 |.P f M i k e a b,X,G,s,g,h=>by let u:ifw s (λO E sx r x y=>iW sx&&LV Z G k sx&&LV Z G e r&&G.cm&&(jZ Z G f O&&Z.Nk.contains f)&&iX Z G (M++[.v i]) E&&!(ij M).contains i&&jr Z G a x&&jr Z G b y)=Θ:=h;let⟨O,p,E,q,sx,sp,r,cp,x,y,pos,rfl,h0⟩:=Gb u;simp only[g_]at h0;let⟨⟨⟨⟨⟨⟨⟨⟨hs,hk⟩,he⟩,NO⟩,hf,R6⟩,L8⟩,P6⟩,ha⟩,hb⟩:=h0;exact Nl g hs hk he NO hf (by simpa using R6) L8 (by simpa using P6) (sH a X G x g ha) (sH b X G y g hb)
 |.U j G' fr t src,X,G,s,g,h=>by let u:X7 s (λtg e=>isName tg&&jM G (.n j) tg&&LV Z G (.d G' fr (.n t) src [] (.l [])) e)=Θ:=h;exact KR g u
 |.R i j e c x v w,X,G,s,g,h=>iF h
 |.V f M,X,G,s,g,h=>by let u:Yc s (λO E=>G.cm&&(jZ Z G f O&&Z.Nk.contains f)&&pA Z G M E)=Θ:=h;exact KQ g u
 |.i i k e,X,G,s,g,h=>by let⟨v,pos,rfl,u⟩:=oK h;let⟨fe,as,cp,rfl,I⟩:=jX u;let⟨o,n,ap,rfl,h3⟩:=mZ I;let⟨h4,h5⟩:=l_.mp h3;let⟨h6,h7⟩:=l_.mp h4;let⟨h8,h9⟩:=l_.mp h6;let⟨x,p,rfl,b1⟩:=ji h7;let⟨s,v,rfl,J⟩:=oC h5;simp only[g_]at J;let W:n = "insert":=h_ h8;subst W;exact Oy g b1 h9 J.1.1.1 J.1.1.2 J.1.2 J.2
 |.A i e,X,G,s,g,h=>by let⟨v,pos,rfl,u⟩:=oK h;let⟨fe,as,cp,rfl,I⟩:=jX u;let⟨o,n,ap,rfl,h3⟩:=mZ I;let⟨h4,h5⟩:=l_.mp h3;let⟨h6,h7⟩:=l_.mp h4;let⟨h8,h9⟩:=l_.mp h6;let⟨x,p,rfl,b1⟩:=ji h7;let⟨v,rfl,J⟩:=i5 h5;rw[g_]at J;let W:n = "append":=h_ h8;subst W;exact KS g b1 h9 J.1 J.2
 |.S j f M i,X,G,s,g,h=>by let u:Yb s (λt O E=>isName t&&jM G (.n j) t&&G.cm&&(jZ Z G f O&&Z.Nk.contains f)&&iX Z G (M++[.v i]) E&&!(ij M).contains i&&decide (i≠j))=Θ:=h;exact M' g u
 |.e e,X,G,s,g,h=>by let⟨v,pos,rfl,u⟩:=oK h;rw[g_]at u;exact KW g u.1 u.2
 |.r e,X,G,s,g,h=>by let⟨o,pos,rfl,u⟩:=uv h;let⟨v,rfl,I⟩:=uu u;exact KU g I
 |.L t a b,X,G,s,g,h=>by let⟨c,x,y,pos,rfl,u⟩:=ur h;simp only[g_]at u;exact K3 (snd t X G c g u.1.1).2 (sH a X G x g u.1.2) (sH b X G y g u.2)
 |.b tg s body,X,G,st,g,h=>by let⟨t,it,b,els,pos,rfl,u⟩:=F7 h;let⟨I,h3⟩:=l_.mp u;let W:els=[]:=List.isEmpty_iff.mp h3;subst W;simp only[g_]at I;exact KY g I.1.1 I.1.2 (sH body X G b g I.2)
 |.B,X,G,s,g,h=>iF h
 |.C,X,G,s,g,h=>iF h
 |.p,X,G,s,g,h=>iF h
 |.n,X,G,s,g,h=>jg xK λDn σ H ⟨B,F,τ,f,m,q⟩=>q.no.elim
 |.Q i j e,X,G,s,g,h=>by let h:Ub s (λv=>P0 v λfe as cp=>RY fe λo n ap=>n == "append"&&ap.endLine == cp.line&&Ov (λx=>ke G i x) o&&NK as λw=>P0 w λYe Yf Yg=>RY Ye λo' n' Yh=>n' == "pop"&&Yh.endLine == Yg.line&&Ov (λy=>ke G j y) o'&&NK Yf λz=>notStar z&&LV Z G e z)=Θ:=h;let⟨v,pos,rfl,h⟩:=oK h;let⟨fe,as,cp,rfl,h⟩:=jX h;let⟨o,n,ap,rfl,h⟩:=mZ h;let h:=l_.mp h;let⟨WJ,Y⟩:=h;simp only[g_]at WJ;let⟨⟨a1,a2⟩,a3⟩:=WJ;let⟨x,p,rfl,b1⟩:=ji a3;let⟨w,rfl,Y⟩:=i5 Y;let⟨Ye,Yf,Yg,rfl,Y⟩:=jX Y;let⟨o',n',Yh,rfl,Y⟩:=mZ Y;let⟨WK,c4⟩:=l_.mp Y;simp only[g_]at WK;let⟨⟨J,c2⟩,c3⟩:=WK;let⟨y,p',rfl,b2⟩:=ji c3;let⟨z,rfl,c4⟩:=i5 c4;let c4:=l_.mp c4;let W:n = "append":=h_ a1;let e2:n' = "pop":=h_ J;subst W e2;exact C' g b1 b2 a2 c2 c4.1 c4.2
theorem sH:∀(as:Ê) (X:Cx) (G:Gm) (ss:À),Mf Z CX cl X G->jr Z G as ss=Θ->OB X ss (RS X.K G.io (iz cl as))
 |[],X,G,ss,g,h=>by
  cases ss using zL with
  |nil=>exact nv qb λI A H ⟨B,F,y,f,m,q⟩=>q.ok _ _ _ _ m
  |cons _ _=>exists h
 |a::as,X,G,ss,g,h=>by
  cases ss using zL with
  |nil=>induction a using zT<;>exists h
  |cons s ss=>
   cases u:DT a with
   |true=>
    cases a with
    |R i j e c x v w=>
     cases ss using zL with
     |nil=>
      let k:(zH Z G (.R i j e c x v w) s&&jr Z G as [])=Θ:=h;let z:=(l_.mp k).1
      induction s using zS<;>first|exact iF z|cases z
     |cons S ss=>let k:=l_.mp (show(vD Z G i j e c x v w s S&&jr Z G as ss)=Θ from h);exact CN g k.1 (sH as X G ss g k.2)
    |_=>cases u
   |false=>
    let k:(zH Z G a s&&jr Z G as ss)=Θ:=by rw[<- uw u];exact h
    simp only[g_]at k;refine nv (kH (snS a X G s g k.1) (sH as X G ss g k.2)) λI A H L=>?_;let⟨B,F,y,f,m,q⟩:=L;refine⟨B,F,y,f,m,(K5.KZ q).mono λr p=>?_⟩;cases r with
    |n l=>exact λN O E C M=>⟨B,E,l,C,M,p⟩
    |c l=>exact p.ok
    |b l=>exact p.ok
    |r d=>exact p.ok
    |R d ks J=>exact p.ok
end
end
def RSB (K:Frag){io:Â}(B:Bs io)(g:Ev->Res Fl):TS:=λc b H=>∃F a f,Mj K B F H b a f/\K5 (g a) (Fk K B c)
def OY (P:Ε)(w:Β):PK:=λ_ _ _ _ _ _=>False
abbrev vJ (Z:Sg)(fn:Fn)(p:Æ)(st:Stmt):Bool:=
 (iG st).kind == .function&&!(iG st).isCoroutine&&!(iG st).isGenerator&&decide (fn.G.N.Nodup)&&fn.G.N.take p.length == p
&&p.all (λx=>(iG st).names.lookup x == Δ .local||(iG st).names.lookup x == Δ .cell)&&(iG st).names.all (λy=>y.2 != .free)
&&(List.range fn.G.N.length).all (λi=>(fn.G.N[i]?).bind ((iG st).names.lookup ·) == fn.G.kd[i]?)
&&fn.G.N.all (λx=>!(x == "__debug__")&&!(x == "__classdict__"))
&&fn.G.gl.all (λn=>match Z.name n with|some x=>(iG st).names.lookup x == Δ .globalImplicit|none=>Ξ)
&&decide (p.length=fn.np)
abbrev ip (Z:Sg)(fn:Fn)(p:Æ)(st:Stmt):Bool:=vJ Z fn p st&&(!fn.io&&jr Z fn.G fn.body (jb st))
abbrev kX (Z:Sg)(fn:Fn)(p:Æ)(st:Stmt):Bool:=vJ Z fn p st&&(fn.io&&jr Z fn.G fn.body (jb st)&&fn.G.io == Δ (fn.np - 1)&&decide (0 < fn.np)&&!fn.G.tr)
structure QU (Z:Sg)(fn:Fn)(ps:Æ)(st:Stmt):Prop where
 sc:Oq fn.G.N ps (iG st)
 kd:∀(i:Nat) (x:Str),fn.G.N[i]? = Δ x->(iG st).names.lookup x=fn.G.kd[i]?
 Rb:∀x∈fn.G.N,(x == ("__debug__" : Str))=Ξ/\(x == ("__classdict__" : Str))=Ξ
 gl:∀n∈fn.G.gl,∀x,Z.name n=Δ x->(iG st).names.lookup x=Δ .globalImplicit
 np:ps.length=fn.np
structure P8 (Z:Sg)(fn:Fn)(ps:Æ)(st:Stmt):Prop extends QU Z fn ps st where
 pl:fn.io=Ξ
 body:jr Z fn.G fn.body (jb st)=Θ
structure QV (Z:Sg)(fn:Fn)(ps:Æ)(st:Stmt):Prop extends QU Z fn ps st where
 io:fn.io=Θ
 body:jr Z fn.G fn.body (jb st)=Θ
 gio:fn.G.io=Δ (fn.np - 1)
 pos:0 < fn.np
 ntr:fn.G.tr=Ξ
def sI {Z:Sg}  {st:Stmt}(h:vJ Z fn p st=Θ):QU Z fn p st:=by
 unfold vJ at h;simp only[g_]at h;let⟨⟨⟨⟨⟨⟨⟨⟨⟨⟨m,l⟩,k⟩,j⟩,g⟩,e⟩,c⟩,b⟩,a⟩,Q⟩,S⟩:=h;rw[M_]at e c b a Q;refine⟨⟨h_ m,by simpa using l,by simpa using k,t_ j,h_ g,λx H=>?_,λy f=>by simpa using c y f⟩,λi x H=>?_,λx H=>by simpa using a x H,λn hn x H=>?_,t_ S⟩
 ·have:=e x H;rw[aaf]at this;exact this.elim (λz=>.inl (h_ z)) λz=>.inr (h_ z)
 ·let M:i < fn.G.N.length:=(v_.mp H).1;have:=h_ (b i (X_.mpr M));rw[H]at this;exact this
 ·have:=Q n hn;rw[H]at this;exact h_ this
def sJ {Z:Sg}  {st:Stmt}(h:ip Z fn p st=Θ):P8 Z fn p st:=by unfold ip at h;rw[g_,g_]at h;exact⟨sI h.1,by simpa using h.2.1,h.2.2⟩
def zZ {Z:Sg}  {st:Stmt}(h:kX Z fn p st=Θ):QV Z fn p st:=by unfold kX at h;simp only[g_]at h;let⟨f,⟨⟨⟨e,c⟩,b⟩,a⟩,H⟩:=h;exact⟨sI f,e,c,h_ b,t_ a,by simpa using H⟩
structure OZ (K:Frag)(mg:Str->Option Ψ)(Z:Sg)(T:Tb)(f:Nat)(x:Str):Prop where
 ex:∃(fn:Fn) (st:Stmt) (fa:Ω) (fd:Ο) (ps:Æ),T f=Δ fn/\Su K x x st fa fd/\mg x=Δ (.ref fa)/\Binds K fd ps []/\QV Z fn ps st
structure LN (K:Frag)(mg:Str->Option Ψ)(Z:Sg)(T:Tb)(f:Nat)(x:Str):Prop where
 ex:∃(fn:Fn) (st:Stmt) (fa:Ω) (fd:Ο) (ps:Æ),T f=Δ fn/\Su K x x st fa fd/\mg x=Δ (.ref fa)/\Binds K fd ps []/\P8 Z fn ps st
structure Oi (K:Frag)(mg:Str->Option Ψ)(Z:Sg)(T:Tb):Prop where
 SQ:∀n x,Z.name n=Δ x->x≠"__name__"/\(x == ("__debug__" : Str))=Ξ
 blt:∀(n:Nat) (x:Str),iU[n]? = Δ x->mg x=Φ
 cst:∀n d x,(n,d)∈Z.Wb->Z.name n=Δ x->∃u v,mg x=Δ u/\RelV v u/\∀S H,K6 K S H v d
 fns:∀f∈Z.fns,∀x,Z.name f=Δ x->LN K mg Z T f x
 Nk:∀f∈Z.Nk,∀x,Z.name f=Δ x->OZ K mg Z T f x
 Nm:∀f∈Z.pl,∀fn,T f=Δ fn->fn.G.cm=Ξ
theorem pX {K:Frag}:∀ {vs:Ï}{a:Î} (n:Nat),K4 K F H vs a->Mc K F H (vs.map Δ++Τ n Φ) ((LM a).map Δ++Τ n Φ) []
 |[],[],n,.nil=>by
  induction n with
  |zero=>exact .nil
  |succ n i=>exact .none i
 |v::vs,d::a,n,.cons b h=>.some (f:=[]) b.frozen (pX n h)
structure Rm (n:Nat)(A:Ι):Prop where
 dp:A.depth+3*(n+2)+5 < recursionLimit
 un:A.units+16*(n+2)+200 < cLine
def Rm.room (r:Rm n A)(hn:n < 900)(h:A.handled=Φ):MU (n+2) A:=⟨λ_=>h,by have:=r.dp;rw[Nat.mod_eq_of_lt ⋯];exact this,by have:=r.un;rw[Nat.mod_eq_of_lt ⋯];exact this⟩
def Rm.S1 (r:Rm n A)(hn:n < 900):MU (1002+n) A:=⟨λz=>⋯,by have:=r.dp;rw[show(1002+n) % 1000=n+2 by omega];exact this,by have:=r.un;rw[show(1002+n) % 1000=n+2 by omega];exact this⟩
def Rm.of (r:MU k A)(h:k % 1000=n+2):Rm n A:=⟨by have:=r.dp;rw[h]at this;exact this,by have:=r.un;rw[h]at this;exact this⟩
def snI (g:Mf Z CX cl X G)(B:Bs G.io)  (h:jr Z G as ss=Θ):OB X ss (RSB X.K B (iz cl as)):=
 nv (sH as X G ss g h) λc b H ⟨F,a,f,m,q⟩=>⟨B,F,a,f,m,q⟩
def qK {K:Frag}(t:Oi K mg Z T)  {st:Stmt}  (hk:k % 1000=n+2)(hn:n < 900)(h1:T f=Δ fn)(h2:Su K x x st fa fd)(l:P8 Z fn W st)(hp:k < 1000∨fn.G.cm=Ξ)
  (ih:∀(A:Ι),Rm n A->∀f∈Z.fns,(A.handled=Φ∨f∈Z.pl)->∀x,Z.name f=Δ x->Wd P w K mg base (OY P w) A (ba T n) f x)
  (QK:∀(A:Ι),Rm n A->∀f∈Z.Nk,A.handled=Φ->∀x,Z.name f=Δ x->X0 P w K mg base (OY P w) A (ba T n) f x) :
  Ng P w K mg base (OY P w) (k+1) fa fd W (T3 K (ba T (n+1)) f W):=by
 let NX:∀g,ba T (n+1) f g=kF (ba T n) fn g:=λg=>by show(match T f with|some fn=>(match fn.io with|false=>kF (ba T n) fn g|true=>kG (ba T n) fn g)|none=>LP)=_;rw[h1];show(match fn.io with|false=>kF (ba T n) fn g|true=>kG (ba T n) fn g)=_;rw[l.pl]
 let⟨oc,od,kV,doc,pm,an,Ot,ct,Rx,rfl,lk,QA⟩:=h2.ex;refine DM lk QA l.sc ⋯ (λvs H Q E h=>h.1) λA outer s H vs Q E j OC=>?_;let⟨hl,lt,F,g,L6,m,q⟩:=OC;let J:fn.G.cm=Θ->A.handled=Φ:=λz=>hp.elim (λh=>j.hd h) λh=>by rw[h]at z;cases z
 refine⟨_,snI (Z:=Z) (CX:=OY P w) (cl:=ba T n) (G:=fn.G) ?_ ⟨F,H,λ_ _=>False,λ_ _=>False,Φ⟩ l.body,?_⟩
 ·refine⟨rfl,l.sc.nd,λz=>by show A.handled.isNone=Θ;rw[J z];rfl,l.sc.kind,?_,λ_=>PassesOwn.leaving,λi y u=>l.kd i y u,λi y u=>l.Rb y (Z_ u),λm hm y u=>l.gl m hm y u,t.SQ,λ_ _=>rfl,t.blt,t.cst,?_,λB I z X N=>QK _ (Rm.of j hk) B I (J z) X N,⟨λ_ _ _=>False,λY σ H s e U _ h=>h.elim⟩,λouter H s E e U x fr h=>h,λH outer s e U h=>h⟩
  ·have:=j.un;show(A.deeper _).units+42 < cLine;omega
  ·exact λB I hc X N=>ih _ (Rm.of j hk) B I (hc.elim (λz=>.inl (J z)) .inr) X N
 ·rw[NX]at q;let⟨gd,q⟩:=K5.LK q;let P4:(LM g).length=fn.np:=t_ gd;let Nz:fn.G.N.length - vs.length=fn.G.N.length - fn.np:=by rw[m.length,<- jB g,P4]
  refine⟨F,(LM g).map Δ++Τ (fn.G.N.length - fn.np) Φ,[],⟨L6,?_,List.nodup_nil,.refl _,λa C=>absurd C (by simp),λa h=>h,λa h=>.inl h,λa xs h=>h.elim,λa xs h=>h.elim,λ_ _ _ z=>by cases z⟩,(K5.KZ q).mono λr j=>?_⟩
  ·show Mc K F H (start fn.G.N vs) _ [];unfold start;rw[Nz];exact pX _ m
  ·cases r with
   |n p=>exact λLW O S B M=>j.ok .L O S [] ⟨M.L6,M.same,.L,List.nodup_nil,λa C=>absurd C (by simp),M.MZ,M.out⟩
   |r d=>exact λv O S fv o=>j.ok v O S fv o
   |b p=>exact j.no.elim
   |c p=>exact j.no.elim
   |R d ks es=>exact j.no.elim
theorem sL {K:Frag}(hd:LS K F H (.r a) d [a]):∀ {vs:Ï}{b:Î} (n:Nat),K4 K F H vs b->Mc K F H ((vs++[V.r a]).map Δ++Τ n Φ) ((LM b++[d]).map Δ++Τ n Φ) [a]
 |[],[],n,.nil=>by let e:Mc K F H (Τ n Φ) (Τ n Φ) []:=sD (by simp);exact .some (f:=[a]) (g:=[]) hd e
 |v::vs,d::b,n,.cons c h=>.some (f:=[]) c.frozen (sL hd n h)
theorem pY (o:Bool)(ks:List Key)(e:Î):∀a:Î,yR (a++[.K o ks e])=a++[.K Θ ks e]
 |[]=>rfl
 |[d]=>rfl
 |d::b::a=>by show d::yR (b::a++[.K o ks e])=_;rw[pY o ks e (b::a)];rfl
def Aa {K:Frag}(t:Oi K mg Z T)  {st:Stmt}  (hk:k % 1000=n+2)(hn:n < 900)(h1:T f=Δ fn)(h2:Su K x x st fa fd)(p:QV Z fn ps st)(hp:k < 1000)
  (ih:∀(A:Ι),Rm n A->∀f∈Z.fns,(A.handled=Φ∨f∈Z.pl)->∀x,Z.name f=Δ x->Wd P w K mg base (OY P w) A (ba T n) f x)
  (QK:∀(A:Ι),Rm n A->∀f∈Z.Nk,A.handled=Φ->∀x,Z.name f=Δ x->X0 P w K mg base (OY P w) A (ba T n) f x) :
  Ng P w K mg base (OY P w) (k+1) fa fd ps (Wg K (ba T (n+1)) f ps):=by
 let S:=p.gio;let Y:=p.pos;let htr:=p.ntr;let NX:∀u,ba T (n+1) f u=kG (ba T n) fn u:=λu=>by show(match T f with|some fn=>(match fn.io with|false=>kF (ba T n) fn u|true=>kG (ba T n) fn u)|none=>LP)=_;rw[h1];show(match fn.io with|false=>kF (ba T n) fn u|true=>kG (ba T n) fn u)=_;rw[p.io]
 let⟨oc,od,kV,doc,pm,an,Ot,ct,Rx,rfl,lk,QA⟩:=h2.ex;refine DM lk QA p.sc ⋯ (λvs H Q E h=>h.1) λA outer s H vs Q E L OC=>?_;let⟨hl,a,F,ws,u,B,W,rfl,C,d,M8,es',g,hlf,q⟩:=OC;let NO:A.handled=Φ:=L.hd hp;refine⟨_,snI (Z:=Z) (CX:=OY P w) (cl:=ba T n) (G:=fn.G) ?_ ⟨F,rm a H,λ_ _=>False,λ_ _=>False,Δ a⟩ p.body,?_⟩
 ·refine⟨rfl,p.sc.nd,λz=>by show A.handled.isNone=Θ;rw[NO];rfl,p.sc.kind,?_,λ_=>PassesOwn.leaving,λi y I=>p.kd i y I,λi y I=>p.Rb y (Z_ I),λm hm y I=>p.gl m hm y I,t.SQ,λ_ _=>rfl,t.blt,t.cst,λU Pz g X Nc=>ih _ (Rm.of L hk) U Pz (.inl NO) X Nc,λU Pz z X Nc=>QK _ (Rm.of L hk) U Pz NO X Nc,⟨λ_ _ _=>False,λpins σ H s e s' _ h=>h.elim⟩,λouter H s E e s' x fr h=>h,λH outer s e s' h=>h⟩;have:=L.un;show(A.deeper _).units+42 < cLine;omega
 ·rw[NX]at g;unfold kG at g;let⟨gd,g⟩:=ug g;let P4:(LM u++[D.K Ξ (B.map (·.1)) W]).length=fn.np:=t_ gd;rw[pY]at g;let⟨r,N,g⟩:=jV g;let J:ws.length=fn.np - 1:=by rw[q_,jB]at P4;rw[C.ws.length,<- P4];simp
  let Nz:fn.G.N.length - (ws++[V.r a]).length=fn.G.N.length - fn.np:=by rw[q_,J];show fn.G.N.length - (fn.np - 1+1)=_;rw[Nat.sub_add_cancel Y]
  let m0:LS K F H (.r a) (.K Θ (B.map (·.1)) W) [a]:=.P C.nF C.at_ rfl (K4.free C.lf C.vs);refine⟨F,(LM u++[D.K Θ (B.map (·.1)) W]).map Δ++Τ (fn.G.N.length - fn.np) Φ,[a],⟨C.L6,?_,by simp,IL,λb hb=>by rw[r_.mp hb];exact j8,λb h=>h,λb h=>.inl h,λb xs h=>h.elim,λb xs h=>h.elim,λj b e1 e2=>?_⟩,?_⟩
  ·show Mc K F H (start fn.G.N (ws++[.r a])) _ [a];unfold start;rw[Nz];exact sL m0 _ C.ws
  ·rw[S]at e1;cases e1;cases e2;show(start fn.G.N (ws++[.r a]))[fn.np - 1]? = _;unfold start;rw[<- J,I_,G_,aaS (by simp)];simp
  ·rw[N];cases r with
   |R d1 ks1 Ma=>cases g;intro v H'' F'' fv R5 l hN ot hF O hH Ue M;let e:=hN a rfl;subst e;exact q v H'' F'' fv R5 ⟨ot,hF,O,hH,Ue,M⟩
   |n _=>cases g
   |b _=>cases g
   |c _=>cases g
   |r _=>cases g
theorem oN {K:Frag}(t:Oi K mg Z T):∀(n:Nat),n < 900->(∀(A:Ι),Rm n A->∀f∈Z.fns,(A.handled=Φ∨f∈Z.pl)->∀x,Z.name f=Δ x->Wd P w K mg base (OY P w) A (ba T n) f x)/\
  ∀(A:Ι),Rm n A->∀f∈Z.Nk,A.handled=Φ->∀x,Z.name f=Δ x->X0 P w K mg base (OY P w) A (ba T n) f x
 |0,C=>by
  refine⟨λA i f y B x v=>?_,λA i f y B x v=>?_⟩
  ·let⟨fn,st,u,q,p,g,c,m,l,e⟩:=(t.fns f y x v).ex;let no:∀vs H Q E,¬T3 K (ba T 0) f p vs H Q E:=λvs H Q E ⟨_,_,F,b,_,_,h⟩=>h;exact⟨1002+0,u,q,p,m,c.kp,l,⟨λvs H Q E h=>h.1,λA outer s H G U vs Q E _ _ _ _ h=>(no _ _ _ _ h).elim⟩,i.S1 C,λb k h=>h.elim⟩
  ·let⟨fn,st,u,q,p,g,c,m,l,e⟩:=(t.Nk f y x v).ex;let no:∀vs H Q E,¬Wg K (ba T 0) f p vs H Q E:=λvs H Q E I=>by let⟨_,a,F,ws,b,R,W,_,_,d,X,S,h,_⟩:=I;cases h
   exact⟨0+2,u,q,p,m,c.kp,l,⟨λvs H Q E h=>h.1,λA outer s H G U vs Q E _ _ _ _ h=>(no _ _ _ _ h).elim⟩,i.room C B,λb r h=>by cases h⟩
 |n+1,C=>by
  let⟨J,M⟩:=oN t n ⋯;refine⟨λA i f y B x v=>?_,λA i f y B x v=>?_⟩
  ·let⟨fn,st,u,q,p,g,c,m,l,e⟩:=(t.fns f y x v).ex;let j:∀b (k:D->Prop),K5 (ba T (n+1) f b) k->b.length=p.length:=λb k h=>by
    let N:ba T (n+1) f b=kF (ba T n) fn b:=by show(match T f with|some fn=>(match fn.io with|false=>kF (ba T n) fn b|true=>kG (ba T n) fn b)|none=>LP)=_;rw[g];show(match fn.io with|false=>kF (ba T n) fn b|true=>kG (ba T n) fn b)=_;rw[e.pl]
    rw[N]at h;let⟨L,_⟩:=K5.LK h;rw[t_ L,e.np]
   by_cases O:f∈Z.pl
   ·exact⟨1002+n+1,u,q,p,m,c.kp,l,qK t (k:=1002+n) (n:=n) ⋯ ⋯ g c e (.inr (t.Nm f O fn g)) J M,i.S1 C,j⟩
   ·exact⟨n+2+1,u,q,p,m,c.kp,l,qK t (k:=n+2) (n:=n) ⋯ ⋯ g c e (.inl ⋯) J M,i.room C (B.elim id λz=>absurd z O),j⟩
  ·let⟨fn,st,u,q,p,g,c,m,l,e⟩:=(t.Nk f y x v).ex;refine⟨n+2+1,u,q,p,m,c.kp,l,Aa t (k:=n+2) (n:=n) ⋯ ⋯ g c e ⋯ J M,i.room C B,λb r h=>?_⟩;let N:ba T (n+1) f b=kG (ba T n) fn b:=by show(match T f with|some fn=>(match fn.io with|false=>kF (ba T n) fn b|true=>kG (ba T n) fn b)|none=>LP)=_;rw[g];show(match fn.io with|false=>kF (ba T n) fn b|true=>kG (ba T n) fn b)=_;rw[e.io]
   rw[N]at h;let⟨L,_⟩:=ug h;rw[t_ L,e.np]
def CP {K:Frag}(t:Oi K mg Z T)(n:Nat)(hn:n < 900):∀(A:Ι),Rm n A->∀f∈Z.fns,(A.handled=Φ∨f∈Z.pl)->∀x,Z.name f=Δ x->Wd P w K mg base (OY P w) A (ba T n) f x:=(oN t n hn).1
def Vf (K:Frag)(cl:Ä)(f:Nat)(p:Æ):Sp:=λvs H Q E=>vs.length=p.length/\∃F a,Og F H/\K4 K F H vs a/\
 K5 (cl f (LM a)) λd=>∀v h c b,Out K F H c h v d b->Q v h
def Ab {K:Frag}{cl:Ä}  (F:Ng P w K mg base (OY P w) k O N l (T3 K cl f l)):Ng P w K mg base (OY P w) k O N l (Vf K cl f l):=by
 refine⟨λvs H Q E h=>h.1,λA outer s H j U vs Q E I c W r OC=>?_⟩;let⟨J,Fc,B,L6,m,q⟩:=OC;let S:Pg P w K mg base A outer s (iL s.heap H):=⟨c.frames,c.mod,λb o e=>⟨(c.bs b o e).1,jx (c.bs b o e).2⟩,c.Q2,c.Np,λb L=>jx (c.P' b L),ui c.L1,c.bare⟩
 let i:K5 (cl f (LM B)) λd=>∀v g C y,Out K Fc H C g v d y->Q v g:=by
  cases z:cl f (LM B) with
  |ok d=>rw[z]at q;exact q
  |error er=>rw[z]at q;cases er;exact q.no.elim
 let G:T3 K cl f l vs (iL s.heap H) (λv g=>N6 s.heap (iL s.heap H) g->Q v (kj H g)) E:=
  ⟨J,yY _ _,_,B,λa h=>h.2,qE c.L1 m,i.mono λd hd v g C y o p=>hd v _ _ y (nJ c.L1 L6 p o)⟩
 refine codeAny_mono (F.run A outer s (iL s.heap H) j U vs _ E I S W r G) λR s' i=>?_;cases R with
 |error e=>exact i
 |ok M=>
  cases M with
  |ret u=>let⟨v,g,a1,a2,x,a4,Y,X⟩:=i;exact⟨v,kj H g,a1,a2,y3 c.L1 x,uj c.L1 a4 (nG x) (fs:=NP outer) (λb o _ e n f=>x.keep b o e n f (by simp)) c.P',Y,X (nG x)⟩
  |next=>exact i
  |brk=>exact i
  |cont=>exact i
def Gj {K:Frag}(t:Oi K mg Z T)(n:Nat)(hn:n < 900)  {st:Stmt}  (a:T f=Δ fn)(H:Su K x x st b F)(h:P8 Z fn p st):Ng P w K mg base (OY P w) (n+2+1) b F p (Vf K (ba T (n+1)) f p):=
 Ab (qK t (k:=n+2) (n:=n) ⋯ hn a H h (.inl ⋯) (CP t n hn) (oN t n hn).2)
def Gk {K:Frag}{ns:È}(c:Ls K H a (ns.map V.i))(e:ba T n f [.l Ξ (ns.map .i)]=.ok (.b Θ)) :
  Vf K (ba T n) f [x] [.r a] H (λv _=>v=.b Θ) λ_ _ _=>False:=by
 let m:K4 K (λa=>H a≠Φ) H [.r a] [.l Ξ (ns.map .i)]:=by
  refine .cons ?_ .nil;rcases c with c|c
  ·exact .L c.some c (K4.ofInts ns)
  ·exact .l c (K4.ofInts ns)
 refine⟨rfl,λa=>H a≠Φ,[.l Ξ (ns.map .i)],λa h=>h,m,?_⟩;let g:LM [.l Ξ (ns.map .i)]=[D.l Ξ (ns.map .i)]:=by rw[LM,LM,er,iI,z_];rfl
 rw[g,e];intro v j k F o;cases o.rep;rfl
def Ac {l:PySem.W.OpenLaw}  {K:Params->Frag}{T:Tb}  (hn:l.most=Δ 63)(v:d.params.defaults=[])(g:MU (n+2+1) callerA)
  (m:∀(w:Β) (h:Heap),Y w h->(K w.params).In h)
  (F:∀(w:Β) (mg:Str->Option Ψ) (e:Ω) (h:Heap),(K w.params).In h->h.Ns Η mg->mg d.name=Δ (.ref e)->
   ∃c:Ο,(∀(s:Α) (u:Ψ),BindsTo s c ⟨[u],[]⟩ [(x,u)])/\∀base:Heap,(K w.params).In base->base.Ns Η mg->Ng l.prog w (K w.params) mg base (OY l.prog w) (n+2+1) e c [x] (Vf (K w.params) (ba T (n+1)) f [x]))
  (j:∀ns:È,ns.length<=63->ba T (n+1) f [.l Ξ (ns.map .i)]=.ok (.b Θ)) :
  PySem.W.WalkO q L X Y l.row.toRowW d [] (λf vs=>PySem.call f vs):=
 L2.B3 (n:=63) (k:=n+2+1) (x:=x) (CX:=λw=>OY l.prog w) (sp:=λw=>Vf (K w.params) (ba T (n+1)) f [x]) hn nofun v g m F (λw H a ns r _ p=>Gk p (j ns r)) λ_ _ _ _ _ z=>z
def dv:KZ (.ok a) f=f a:=rfl
def dw:LK Θ x=x:=rfl
def Lb:K8 cl (.c d) a=.ok d:=rfl
def Lc:K8 cl (.g n d) a=.ok d:=rfl
def Ld:K8 cl (.v i) a=(match ic a i with|some d=>.ok d|none=>LP):=rfl
abbrev IM (cl:Ä)(O:TR)(b:IR)(a:Ev)(x:D):Res D:=KZ (K8 cl b a) (NG O x)
def bf:IM cl O b a x=KZ (K8 cl b a) (NG O x):=rfl
def dy:K8 cl (.b O a b) c=KZ (K8 cl a c) (IM cl O b c):=rfl
abbrev IP:D->Res D
 |.i i=>.ok (.i (-i))
 |_=>LP
def dz:K8 cl (.n a) b=KZ (K8 cl a b) IP:=rfl
def bg:IP (.i i)=.ok (.i (-i)):=rfl
abbrev blK (r:Bool):Res D:=.ok (.b r)
def dA:blK r=.ok (.b r):=rfl
abbrev sM (O:QM)(x y:D):Res D:=KZ (MN O x y) blK
def aB:sM O x y=KZ (MN O x y) blK:=rfl
abbrev IQ (cl:Ä)(O:QM)(b:IR)(a:Ev)(x:D):Res D:=KZ (K8 cl b a) (sM O x)
def bo:IQ cl O b a x=KZ (K8 cl b a) (sM O x):=rfl
def dB:K8 cl (.a O a b) c=KZ (K8 cl a c) (IQ cl O b c):=rfl
abbrev Gn (cl:Ä)(M:QM)(c:IR)(a:Ev)(y:D)(r:Bool):Res D:=if r=Θ then KZ (K8 cl c a) (sM M y) else .ok (.b Ξ)
def bq:Gn cl M c a y r=if r=Θ then KZ (K8 cl c a) (sM M y) else .ok (.b Ξ):=rfl
abbrev Gq (cl:Ä)(O M:QM)(c:IR)(a:Ev)(x y:D):Res D:=KZ (MN O x y) (Gn cl M c a y)
def br:Gq cl O M c a x y=KZ (MN O x y) (Gn cl M c a y):=rfl
abbrev chK (cl:Ä)(O M:QM)(b c:IR)(a:Ev)(x:D):Res D:=KZ (K8 cl b a) (Gq cl O M c a x)
def dC:chK cl O M b c a x=KZ (K8 cl b a) (Gq cl O M c a x):=rfl
def aC:K8 cl (.e O M a b c) f=KZ (K8 cl a f) (chK cl O M b c f):=rfl
abbrev Ad (cl:Ä)(b:IR)(a:Ev)(x:D)(r:Bool):Res D:=if r=Θ then K8 cl b a else .ok x
def aD:Ad cl b a x r=if r=Θ then K8 cl b a else .ok x:=rfl
abbrev IT (cl:Ä)(b:IR)(a:Ev)(x:D):Res D:=KZ (iN x) (Ad cl b a x)
def bt:IT cl b a x=KZ (iN x) (Ad cl b a x):=rfl
def dD:K8 cl (.M a b) c=KZ (K8 cl a c) (IT cl b c):=rfl
abbrev Gr (cl:Ä)(b:IR)(a:Ev)(x:D)(r:Bool):Res D:=if r=Θ then .ok x else K8 cl b a
def bu:Gr cl b a x r=if r=Θ then .ok x else K8 cl b a:=rfl
abbrev orK (cl:Ä)(b:IR)(a:Ev)(x:D):Res D:=KZ (iN x) (Gr cl b a x)
def dE:orK cl b a x=KZ (iN x) (Gr cl b a x):=rfl
def fU:K8 cl (.O a b) c=KZ (K8 cl a c) (orK cl b c):=rfl
abbrev Ae (r:Bool):Res D:=.ok (.b !r)
def aE:Ae r=.ok (.b !r):=rfl
abbrev IU (x:D):Res D:=KZ (iN x) Ae
def bw:IU x=KZ (iN x) Ae:=rfl
def dF:K8 cl (.f a) b=KZ (K8 cl a b) IU:=rfl
abbrev Af (cl:Ä)(a b:IR)(c:Ev)(r:Bool):Res D:=if r=Θ then K8 cl a c else K8 cl b c
def aF:Af cl a b c r=if r=Θ then K8 cl a c else K8 cl b c:=rfl
abbrev IV (cl:Ä)(a b:IR)(c:Ev)(x:D):Res D:=KZ (iN x) (Af cl a b c)
def bx:IV cl a b c x=KZ (iN x) (Af cl a b c):=rfl
def dG:K8 cl (.I t a b) c=KZ (K8 cl t c) (IV cl a b c):=rfl
abbrev tupK (a:Î):Res D:=LK (jh a.length) (.ok (.t a))
def bA:tupK a=LK (jh a.length) (.ok (.t a)):=rfl
def dH:K8 cl (.t e) a=KZ (iJ cl e a) tupK:=rfl
abbrev lstK (a:Î):Res D:=LK (jh a.length) (.ok (.l Θ a))
def bB:lstK a=LK (jh a.length) (.ok (.l Θ a)):=rfl
def dI:K8 cl (.l e) a=KZ (iJ cl e a) lstK:=rfl
abbrev IW (cl:Ä)(i:IR)(a:Ev)(x:D):Res D:=KZ (K8 cl i a) (iw x)
def bC:IW cl i a x=KZ (K8 cl i a) (iw x):=rfl
def dJ:K8 cl (.i a i) b=KZ (K8 cl a b) (IW cl i b):=rfl
abbrev Gs (cl:Ä)(hi:Option IR)(a:Ev)(x:D)(l:Option Int):Res D:=KZ (qv cl hi a) (rN x l)
def bD:Gs cl hi a x l=KZ (qv cl hi a) (rN x l):=rfl
abbrev slK (cl:Ä)(lo hi:Option IR)(a:Ev)(x:D):Res D:=KZ (qv cl lo a) (Gs cl hi a x)
def dM {lo:Option IR}:slK cl lo hi a x=KZ (qv cl lo a) (Gs cl hi a x):=rfl
def fV {lo:Option IR}:K8 cl (.S a lo hi) b=KZ (K8 cl a b) (slK cl lo hi b):=rfl
abbrev D3 (cl:Ä)(f:Nat)(a:Î):Res D:=cl f (LM a)
def aG:D3 cl f a=cl f (LM a):=rfl
def bE:K8 cl (.C f e) a=KZ (iJ cl e a) (D3 cl f):=rfl
def fW:K8 cl (.B f e) a=KZ (iJ cl e a) (jT f):=rfl
abbrev IX (k:Kd)(x:D):Res D:=LK (oq x) (.ok (.b (kh k x)))
def bF:IX k x=LK (oq x) (.ok (.b (kh k x))):=rfl
def fX:oq (.i i)=Θ:=rfl
def fY:oq (.s x)=Θ:=rfl
def fZ:oq (.t a)=Θ:=rfl
def f6 {o:Bool}  : oq (.l o a)=Θ:=rfl
def bG:K8 cl (.k a b) c=KZ (K8 cl a c) λx=>KZ (K8 cl b c) λy=>u0 x y:=rfl
def bH:K8 cl (.j a) b=KZ (K8 cl a b) rS:=rfl
def aH:rS (.i n)=LK (decide (0<=n/\n<=1000)) (.ok (.l Θ ((List.range n.toNat).map λk=>.i (k:Nat)))):=rfl
def bJ:K8 cl (.h a) b=KZ (K8 cl a b) Cr:=rfl
def f7 {o:Bool}  : Cr (.l o a)=.ok (.l Θ a.reverse):=rfl
abbrev D4 (cl:Ä)(k:IR)(a:Ev)(x:D):Res D:=KZ (K8 cl k a) (rP x)
def aI:D4 cl k a x=KZ (K8 cl k a) (rP x):=rfl
def bK:K8 cl (.m a k) b=KZ (K8 cl a b) (D4 cl k b):=rfl
abbrev Gu (n:Bool)(y x:D):Res D:=rQ n x y
def bL:Gu n (.s x) (.K o ks a)=.ok (.b (n != (look ks a (.inr x)).isSome)):=rfl
abbrev IY (cl:Ä)(n:Bool)(a:IR)(b:Ev)(y:D):Res D:=KZ (K8 cl a b) (Gu n y)
def bM:IY cl n a b y=KZ (K8 cl a b) (Gu n y):=rfl
def dN:K8 cl (.T n k a) b=KZ (K8 cl k b) (IY cl n a b):=rfl
abbrev D5 (cl:Ä)(e:IR)(a:Ev)(x:D):Res D:=LK (uc x) (KZ (K8 cl e a) (rR x))
def aJ:D5 cl e a (.l o b)=KZ (K8 cl e a) (rR (.l o b)):=rfl
def bN:K8 cl (.p a e) b=KZ (K8 cl a b) (D5 cl e b):=rfl
def bP:K8 cl (.s a) b=KZ (K8 cl a b) u6:=rfl
def dO:K8 cl (.N a k) b=KZ (K8 cl a b) (IX k):=rfl
abbrev IZ (cl:Ä)(m:Mt)(e:Ë)(a:Ev)(x:D):Res D:=LK (lU x) (KZ (iJ cl e a) (ox m x))
def bQ:IZ cl m e a x=LK (lU x) (KZ (iJ cl e a) (ox m x)):=rfl
def dP {o:IR}  : K8 cl (.P m o e) a=KZ (K8 cl o a) (IZ cl m e a):=rfl
abbrev Gv (a:Î):Res D:=.ok (.l Θ a)
def bR:Gv a=.ok (.l Θ a):=rfl
abbrev D6 (cl:Ä)(G:Gm)(fr:Ç)(T:Tg)(I:Ë)(E:IR)(a:Ev)(its:Î):Res D:=LK (jf its.length) (KZ ((iD (iP cl T I E (Pu G fr a)) its)) Gv)
def aK {T:Tg}  {its:Î}:D6 cl G fr T I E a its=LK (jf its.length) (KZ ((iD (iP cl T I E (Pu G fr a)) its)) Gv):=rfl
def bT {T:Tg}  : K8 cl (.d G fr T s I E) a=KZ (jY cl s a) (D6 cl G fr T I E a):=rfl
def f9:iJ cl [] a=.ok []:=rfl
abbrev Ag (d:D)(a:Î):Res (Î):=.ok (d::a)
def aL:Ag d a=.ok (d::a):=rfl
abbrev rsK (cl:Ä)(e:Ë)(a:Ev)(d:D):Res (Î):=KZ (iJ cl e a) (Ag d)
def dQ:rsK cl e a d=KZ (iJ cl e a) (Ag d):=rfl
def gb:iJ cl (e::E) a=KZ (K8 cl e a) (rsK cl E a):=rfl
abbrev I0:D->Res (Option Int)
 |.i i=>.ok (Δ i)
 |_=>LP
def bU:I0 (.i i)=.ok (Δ i):=rfl
def gc:qv cl Φ a=.ok Φ:=rfl
def gf:qv cl (Δ e) a=KZ (K8 cl e a) I0:=rfl
def gh:kE cl [] a=.ok Θ:=rfl
abbrev tsK (cl:Ä)(e:Ë)(a:Ev)(r:Bool):Res Bool:=if r=Θ then kE cl e a else .ok Ξ
def dR:tsK cl e a r=if r=Θ then kE cl e a else .ok Ξ:=rfl
def gk:kE cl (e::E) a=KZ (KZ (K8 cl e a) iN) (tsK cl E a):=rfl
abbrev D7:D->Res (Î)
 |.i i=>LK (nq i) (.ok (iQ 0 i))
 |_=>LP
def aM:D7 (.i i)=LK (nq i) (.ok (iQ 0 i)):=rfl
def gm:jY cl (.M n) a=KZ (K8 cl n a) D7:=rfl
abbrev Ja (cl:Ä)(a:Ev)(b:IR)(x:D):Res (Î):=KZ (K8 cl b a) λy=>oy x y
abbrev Ah (x y:D):Res (Î):=oy x y
def bV:Ja cl a b x=KZ (K8 cl b a) (Ah x):=rfl
def aq:Ah (.l o a) (.l O e)=.ok (jU a e):=rfl
def au:Ah (.t a) (.t e)=.ok (jU a e):=rfl
def bW:Cq (.l o a)=.ok (lV a):=rfl
def dS:jY cl (.N a) b=KZ (K8 cl a b) Cq:=rfl
def dU:jY cl (.z a b) c=KZ (K8 cl a c) (Ja cl c b):=rfl
def dW:jY cl (.v e) a=KZ (K8 cl e a) kL:=rfl
def gq {o:Bool}  : kL (.l o a)=.ok a:=rfl
def gu:kL (.t a)=.ok a:=rfl
def gA:kL (.s x)=LK (jh x.length) (.ok (kc x)):=rfl
def Le:Wa cl t a=KZ (K8 cl t a) iN:=rfl
def ÿbd:Ml cl mv (.v i) a=(match ic a i with|some d=>if mv=Θ then .ok (d,a.set i Φ) else .ok (er d,a.set i (Δ (er d)))|none=>LP):=rfl
abbrev D8 (p:Î×Ev):Res (D×Ev):=LK (jh p.1.length) (.ok (.t p.1,p.2))
def aN:D8 p=LK (jh p.1.length) (.ok (.t p.1,p.2)):=rfl
def ÿab:Ml cl mv (.t e) a=KZ (pw cl mv e a) D8:=rfl
abbrev D9 (p:Î×Ev):Res (D×Ev):=LK (jh p.1.length) (.ok (.l Θ p.1,p.2))
def aO:D9 p=LK (jh p.1.length) (.ok (.l Θ p.1,p.2)):=rfl
def ÿac:Ml cl mv (.l e) a=KZ (pw cl mv e a) D9:=rfl
abbrev Ea (cl:Ä)(mv:Bool)(a b:IR)(c:Ev)(r:Bool):Res (D×Ev):=if r=Θ then Ml cl mv a c else Ml cl mv b c
def aP:Ea cl mv a b c r=if r=Θ then Ml cl mv a c else Ml cl mv b c:=rfl
def ÿad:Ml cl mv (.I t a b) c=KZ (Wa cl t c) (Ea cl mv a b c):=rfl
abbrev qL (e:Ë)(a:Ev)(d:D):Res (D×Ev):=if il d=Θ then .ok (d,a) else .ok (d,LZ (ij e) a)
def ae:qL e a d=if il d=Θ then .ok (d,a) else .ok (d,LZ (ij e) a):=rfl
abbrev Ai (cl:Ä)(f:Nat)(e:Ë)(a:Ev)(b:Î):Res (D×Ev):=KZ (cl f (LM b)) (qL e a)
def av:Ai cl f e a b=KZ (cl f (LM b)) (qL e a):=rfl
def ÿaf:Ml cl mv (.C f e) a=KZ (iJ cl e a) (Ai cl f e a):=rfl
abbrev jO (e:IR)(a:Ev)(d:D):Res (D×Ev):=.ok (iE e d a)
def aQ:jO e a d=.ok (iE e d a):=rfl
def Lf:Ml cl mv (.c d) a=KZ (K8 cl (.c d) a) (jO (.c d) a):=rfl
def dX:Ml cl mv (.b O a b) c=KZ (K8 cl (.b O a b) c) (jO (.b O a b) c):=rfl
def dY:Ml cl mv (.a O a b) c=KZ (K8 cl (.a O a b) c) (jO (.a O a b) c):=rfl
def dZ:Ml cl mv (.M a b) c=KZ (K8 cl (.M a b) c) (jO (.M a b) c):=rfl
def gB:Ml cl mv (.O a b) c=KZ (K8 cl (.O a b) c) (jO (.O a b) c):=rfl
def d6:Ml cl mv (.f a) b=KZ (K8 cl (.f a) b) (jO (.f a) b):=rfl
def ek:Ml cl mv (.i a i) b=KZ (K8 cl (.i a i) b) (jO (.i a i) b):=rfl
def gC {lo:Option IR}:Ml cl mv (.S a lo hi) b=KZ (K8 cl (.S a lo hi) b) (jO (.S a lo hi) b):=rfl
def gD:Ml cl mv (.B f e) a=KZ (K8 cl (.B f e) a) (jO (.B f e) a):=rfl
def bX:Ml cl mv (.k a b) c=KZ (K8 cl (.k a b) c) (jO (.k a b) c):=rfl
def bY:Ml cl mv (.j a) b=KZ (K8 cl (.j a) b) (jO (.j a) b):=rfl
def bZ:Ml cl mv (.h a) b=KZ (K8 cl (.h a) b) (jO (.h a) b):=rfl
def ÿag:Ml cl mv .o a=.ok (.K Θ [] [],a):=rfl
def cb:Ml cl mv (.m a k) b=KZ (K8 cl (.m a k) b) (jO (.m a k) b):=rfl
def cf:Ml cl mv (.s a) b=KZ (K8 cl (.s a) b) (jO (.s a) b):=rfl
def eB {o:IR}  : Ml cl mv (.P m o e) a=KZ (K8 cl (.P m o e) a) (jO (.P m o e) a):=rfl
def cg {T:Tg}  : Ml cl mv (.d G fr T s I E) a=KZ (K8 cl (.d G fr T s I E) a) (jO (.d G fr T s I E) a):=rfl
def gE:pw cl mv [] a=.ok ([],a):=rfl
abbrev Gw (d:D)(q:Î×Ev):Res (Î×Ev):=.ok (d::q.1,q.2)
def ck:Gw d q=.ok (d::q.1,q.2):=rfl
abbrev osK (cl:Ä)(mv:Bool)(e:Ë)(p:D×Ev):Res (Î×Ev):=KZ (pw cl mv e p.2) (Gw p.1)
def eC:osK cl mv e p=KZ (pw cl mv e p.2) (Gw p.1):=rfl
def gG:pw cl mv (e::E) a=KZ (Ml cl mv e a) (osK cl mv E):=rfl
abbrev smK (d:D):Res (Ã):=.ok (Δ d)
def eE:smK d=.ok (Δ d):=rfl
abbrev Gx (cl:Ä)(E:IR)(a:Ev)(r:Bool):Res (Ã):=if r=Θ then KZ (K8 cl E a) smK else .ok Φ
def cq:Gx cl E a r=if r=Θ then KZ (K8 cl E a) smK else .ok Φ:=rfl
abbrev bdK (cl:Ä)(I:Ë)(E:IR)(a:Ev):Res (Ã):=KZ (kE cl I a) (Gx cl E a)
def eF:bdK cl I E a=KZ (kE cl I a) (Gx cl E a):=rfl
def aR {T:Tg}  : iP cl T I E a x=KZ (ju T x a) (bdK cl I E):=rfl
def cu:Pu G fr a=fr.map (ic a)++Τ (G.N.length - fr.length) Φ:=rfl
def Lg:iE e (.i i) a=(.i i,a):=rfl
def Lh:iE e (.s x) a=(.s x,a):=rfl
def Li:iE e (.b b) a=(.b b,a):=rfl
def Lj:iE e .L a=(.L,a):=rfl
abbrev nxK (τ':Ev):Res Fl:=.ok (.n τ')
def eI:nxK a=.ok (.n a):=rfl
abbrev Jb (a:Tg)(p:D×Ev):Res Fl:=KZ (ju a p.1 p.2) nxK
def cv:Jb a p=KZ (ju a p.1 p.2) nxK:=rfl
def ÿah:Ms cl (.a c e) b=KZ (Ml cl Ξ e b) (Jb c):=rfl
abbrev Gy (i:Nat)(p:D×Ev):Ã->Res Fl
 |some (.l Θ a)=>LK (jf a.length) (.ok (.n (p.2.set i (Δ (.l Θ (a++[p.1]))))))
 |_=>LP
abbrev Gz (i:Nat)(p:D×Ev):Res Fl:=Gy i p (ic p.2 i)
def cw:Gz i p=Gy i p (ic p.2 i):=rfl
abbrev Jc (cl:Ä)(i:Nat)(e:IR)(a:Ev):Ã->Res Fl
 |some (.l _ _)=>KZ (Ml cl Ξ e a) (Gz i)
 |_=>LP
def cx {o:Bool}  : Jc cl i e a (Δ (.l o b))=KZ (Ml cl Ξ e a) (Gz i):=rfl
def cy:Gy i p (Δ (.l Θ a))=LK (jf a.length) (.ok (.n (p.2.set i (Δ (.l Θ (a++[p.1])))))):=rfl
abbrev CQ (i:Nat)(p:D×Ev)(z:Int):Ã->Res Fl
 |some (.l Θ a)=>LK (decide (0<=z/\z.toNat<=a.length)&&jf a.length) (.ok (.n (p.2.set i (Δ (.l Θ (a.take z.toNat++p.1::a.drop z.toNat))))))
 |_=>LP
def cz:CQ i p z (Δ (.l Θ a))=LK (decide (0<=z/\z.toNat<=a.length)&&jf a.length) (.ok (.n (p.2.set i (Δ (.l Θ (a.take z.toNat++p.1::a.drop z.toNat)))))):=rfl
abbrev GA (i:Nat):D->D×Ev->Res Fl
 |.i z,p=>CQ i p z (ic p.2 i)
 |_,_=>LP
def cA:GA i (.i z) p=CQ i p z (ic p.2 i):=rfl
abbrev GB (cl:Ä)(i:Nat)(e:IR)(a:Ev)(y:D):Res Fl:=KZ (Ml cl Ξ e a) (GA i y)
def cB:GB cl i e a y=KZ (Ml cl Ξ e a) (GA i y):=rfl
abbrev Jd (cl:Ä)(i:Nat)(k e:IR)(a:Ev):Ã->Res Fl
 |some (.l _ _)=>KZ (K8 cl k a) (GB cl i e a)
 |_=>LP
def cC:Jd cl i k e a (Δ (.l o b))=KZ (K8 cl k a) (GB cl i e a):=rfl
def ÿbh:Ms cl (.i i k e) c=Jd cl i k e c (ic c i):=by
 show(match ic c i with|some (.l _ _)=>(KZ (K8 cl k c) λy=>KZ (Ml cl Ξ e c) λp=>(match y,ic p.2 i with|.i z,Δ (.l Θ a)=>LK (decide (0<=z/\z.toNat<=a.length)&&jf a.length) (.ok (Fl.n (p.2.set i (Δ (.l Θ (a.take z.toNat++p.1::a.drop z.toNat))))))|_,_=>LP))|_=>LP)=_;cases ic c i with
 |none=>rfl
 |some d=>
  cases d using zD with
  |l o a=>
   refine congrArg (KZ (K8 cl k c)) (funext λy=>congrArg (KZ (Ml cl Ξ e c)) (funext λp=>?_))
   cases y using zD with
   |i z=>
    show(match D.i z,ic p.2 i with|.i z,Δ (.l Θ a)=>LK (decide (0<=z/\z.toNat<=a.length)&&jf a.length) (.ok (.n (p.2.set i (Δ (.l Θ (a.take z.toNat++p.1::a.drop z.toNat))))))|_,_=>LP)=CQ i p z (ic p.2 i);cases ic p.2 i with
    |none=>rfl
    |some f=>induction f using zD<;>first|rfl|(rename_i b _;induction b using zB<;>rfl)
   |_=>rfl
  |_=>rfl
abbrev Je (cl:Ä)(f:Nat)(a:Î):Res Fl:=KZ ((cl f (LM a++[.K Ξ [] []]))) ud
def cD:Je cl f a=KZ ((cl f (LM a++[.K Ξ [] []]))) ud:=rfl
def cE:ud (.t [d,.K Ξ ks vs])=LK (fT vs) (.ok (.r d)):=rfl
abbrev Eb (d:D):Ã->Res Fl
 |some (.K Θ ks vs)=>LK (fT vs) (.ok (.R d ks vs))
 |_=>LP
def aT:Eb d (Δ (.K Θ ks vs))=LK (fT vs) (.ok (.R d ks vs)):=rfl
def aU:rV i (d,a)=Eb d (ic a i):=rfl
def cF {its:Î}:Cs j a its=LK (jf its.length) (.ok (.n (a.set j (Δ (.l Θ (Τ (its.length+1) (.l Θ []))))))):=rfl
def ÿaj:Ms cl (.U j G fr t s) a=KZ (jY cl s a) (Cs j a):=rfl
def cG:Ms cl (.R i j e c x v w) a=yO cl i j e c x v w a (ic a i):=rfl
def cH:yO cl i j e c x v w a (Δ (.l Θ b))=KZ (K8 cl e a) (Cu cl i j c x v w b a):=rfl
def cI:Cu cl i j c x v w a b (.i z)=uf cl i j c x v w a b (NT a.length z):=rfl
def ÿaa:Ms cl (.N i e) a=KZ (Ml cl Θ e a) (rV i):=rfl
abbrev Ec (cl:Ä)(i:Nat)(k:IR)(f:Nat)(e:Ë)(a:Ev):Ã->Res Fl
 |some (.K Θ ks vs)=>LK (fT vs) (KZ (iJ cl e a) λb=>KZ ((cl f (LM b++[D.K Ξ ks vs]))) (rW cl i k (LZ (ij e) a)))
 |_=>LP
def ÿbf:Ms cl (.c i k f e) a=Ec cl i k f e a (ic a i):=by
 show(match ic a i with|some (.K Θ ks vs)=>LK (fT vs) (KZ (iJ cl e a) λb=>KZ ((cl f (LM b++[D.K Ξ ks vs]))) (rW cl i k (LZ (ij e) a)))|_=>LP)=_;rcases ic a i with _|d
 ·rfl
 ·induction d using zD<;>first|rfl|(rename_i o ks b;induction o using zB<;>rfl)
abbrev Jf (cl:Ä)(a b:Ê)(p:Bool×Ev):Res Fl:=if p.1=Θ then iz cl a p.2 else iz cl b p.2
abbrev Jg (cl:Ä)(i:Nat)(k e:IR)(a b:Ê)(c:Ev)(d:D):Res Fl:=KZ (rX cl i k e c d) (Jf cl a b)
abbrev Jh (cl:Ä)(f:Nat)(E:Ë)(i:Nat)(k e:IR)(a b:Ê)(c:Ev):Ã->Res Fl
 |some (.K Θ ks vs)=>LK (fT vs) (KZ (iJ cl E c) λg=>KZ ((cl f (LM g++[D.K Ξ ks vs]))) (Jg cl i k e a b (LZ (ij E) c)))
 |_=>LP
def ÿbg:Ms cl (.P f E i k e a b) c=Jh cl f E i k e a b c (ic c i):=by
 show(match ic c i with|some (.K Θ ks vs)=>LK (fT vs) (KZ (iJ cl E c) λg=>KZ ((cl f (LM g++[D.K Ξ ks vs]))) λd=>KZ (rX cl i k e (LZ (ij E) c) d) λp=>if p.1=Θ then iz cl a p.2 else iz cl b p.2)|_=>LP)=_;rcases ic c i with _|d
 ·rfl
 ·induction d using zD<;>first|rfl|(rename_i o ks g;induction o using zB<;>rfl)
def ÿai:Ms cl (.V f e) a=KZ (iJ cl e a) (Je cl f):=rfl
abbrev GC (cl:Ä)(j f:Nat)(e:Ë)(i:Nat)(a:Ev):Ã->Res Fl
 |some (.K Θ ks vs)=>LK (fT vs) (KZ (iJ cl e a) λb=>KZ ((cl f (LM b++[D.K Ξ ks vs]))) (yN j i (LZ (ij e) a)))
 |_=>LP
def ÿbe:Ms cl (.S j f e i) a=GC cl j f e i a (ic a i):=by
 show(match ic a i with|some (.K Θ ks vs)=>LK (fT vs) (KZ (iJ cl e a) λb=>KZ ((cl f (LM b++[D.K Ξ ks vs]))) (yN j i (LZ (ij e) a)))|_=>LP)=_;rcases ic a i with _|d
 ·rfl
 ·induction d using zD<;>first|rfl|(rename_i o ks b;induction o using zB<;>rfl)
def ÿb:Ms cl (.A i e) a=Jc cl i e a (ic a i):=rfl
abbrev Ji (a:Ev)(d:D):Res Fl:=.ok (.n a)
def cJ:Ji a d=.ok (.n a):=rfl
def ÿbb:Ms cl (.e e) a=KZ (K8 cl e a) (Ji a):=rfl
abbrev rtK (p:D×Ev):Res Fl:=.ok (.r p.1)
def eJ:rtK p=.ok (.r p.1):=rfl
def ÿba:Ms cl (.r e) a=KZ (Ml cl Θ e a) rtK:=rfl
abbrev ifK (cl:Ä)(a b:Ê)(c:Ev)(r:Bool):Res Fl:=if r=Θ then iz cl a c else iz cl b c
def eK:ifK cl a b c r=if r=Θ then iz cl a c else iz cl b c:=rfl
def ÿae:Ms cl (.L t a b) c=KZ (Wa cl t c) (ifK cl a b c):=rfl
abbrev turn (cl:Ä)(b:Tg)(body:Ê)(x:D)(a:Ev):Res Fl:=KZ (ju b x a) (iz cl body)
def ie:turn cl b body x a=KZ (ju b x a) (iz cl body):=rfl
abbrev Jj (cl:Ä)(a:Tg)(body:Ê)(p:Î×Ev):Res Fl:=forM (turn cl a body) p.1 p.2
def cK:Jj cl a body p=forM (turn cl a body) p.1 p.2:=rfl
def ÿbc:Ms cl (.b c s body) a=KZ (rT cl s a) (Jj cl c body):=rfl
def ÿa:Ms cl (.Q i j e) a=u9 cl i j e a (ic a i) (ic a j):=rfl
def aV:u9 cl i j e a (Δ (.l Θ E)) (Δ (.l Θ b))=KZ (K8 cl e a) (u7 i j E b a):=rfl
abbrev CU (f:Ev->Res Fl):Fl->Res Fl
 |.n a=>f a
 |.c a=>.ok (.c a)
 |.b a=>.ok (.b a)
 |.r d=>.ok (.r d)
 |.R d ks vs=>.ok (.R d ks vs)
def gH:iz cl [] a=.ok (.n a):=rfl
def gI:iz cl (s::r) a=KZ (Ms cl s a) (CU (iz cl r)):=rfl
def eL:CU f (.n a)=f a:=rfl
def eM:CU f (.R d ks vs)=.ok (.R d ks vs):=rfl
def eN:CU f (.r d)=.ok (.r d):=rfl
abbrev Jk (a:Ev)(its:Î):Res (Î×Ev):=.ok (its,a)
def cL {its:Î}:Jk a its=.ok (its,a):=rfl
abbrev Aj (e:IR)(a:Ev)(its:Î):Res (Î×Ev):=.ok (LM its,LZ (vars e) a)
def aW {its:Î}:Aj e a its=.ok (LM its,LZ (vars e) a):=rfl
def eU:rT cl (.M n) a=KZ (jY cl (.M n) a) (Jk a):=rfl
def ff:rT cl (.N e) a=KZ (jY cl (.N e) a) (Aj e a):=rfl
def fg:rT cl (.v e) a=KZ (jY cl (.v e) a) (Aj e a):=rfl
abbrev Jl (body:D->Ev->Res Fl)(x:Î):Fl->Res Fl
 |.n a=>forM body x a
 |.c a=>forM body x a
 |.b a=>.ok (.n a)
 |.r d=>.ok (.r d)
 |.R d ks vs=>.ok (.R d ks vs)
def dt:forM body (x::X) a=KZ (body x a) (Jl body X):=rfl
def Ed:Jl body x (.n a)=forM body x a:=rfl
def gJ:ju (.n i) d a=.ok (a.set i (Δ d)):=rfl
def gK:ju (.t ts) (.t a) b=LK (decide (a.length=ts.length)) (mE ts a b):=rfl
def fq:mE [] [] a=.ok a:=rfl
def ft:mE (t::ts) (d::b) a=KZ (ju t d a) (mE ts b):=rfl
def fu {a:Ev}{o p:Ã}:(o::a).set 0 p=p::a:=rfl
def fw {a:Ev}{o p:Ã}{i:Nat}:(o::a).set (i+1) p=o::a.set i p:=rfl
def fx:NG .a (.i a) (.i b)=.ok (.i (a+b)):=rfl
def bc:NG .a (.s a) (.s b)=LK (jh (a.length+b.length)) (.ok (.s (a++b))):=rfl
def cM {o:Bool}:NG .a (.l o a) (.l O b)=LK (jh (a.length+b.length)) (.ok (.l Θ (a++b))):=rfl
def fy:NG .s (.i a) (.i b)=.ok (.i (a - b)):=rfl
def Ee:NG .m (.i a) (.i b)=LK (decide (-(2 ^ 64) < a/\a < 2 ^ 64)||decide (-(2 ^ 64) < b/\b < 2 ^ 64)) (.ok (.i (a*b))):=rfl
def cN:NG .m (.s a) (.i b)=LK (decide (-16000<=b/\b<=16000/\a.length<=1000)) (.ok (.s (Txt.mul a b))):=rfl
def GF:NG .f (.i a) (.i b)=LK (decide (0 < b/\b < 1073741824)) (.ok (.i (a / b))):=rfl
def Jm:NG .M (.i a) (.i b)=LK (decide (0 < b)) (.ok (.i (a % b))):=rfl
def fA:NG .p (.i a) (.i b)=LK (decide (0<=b/\b<=1000000/\a.natAbs < 2 ^ 64)) (.ok (.i (a ^ b.toNat))):=rfl
def Yp {o:Bool}  : iw (.l o a) (.i i)=(match M5 a i with|some d=>.ok d|none=>LP):=rfl
def Lk:iw (.t a) (.i i)=(match M5 a i with|some d=>.ok d|none=>LP):=rfl
def x_s:iw (.s z) (.i i)=LK (jh z.length) (match M5 z.cps.toList i with|some c=>.ok (.s ⟨#[c]⟩)|none=>LP):=rfl
def gM {o:Bool}  {lo:Option Int}:rN (.l o a) lo hi=.ok (.l Θ (jK a lo hi)):=rfl
def gN {lo:Option Int}:rN (.s z) lo hi=LK (jh z.length) (.ok (.s (Txt.slice z lo hi))):=rfl
def gO:iN (.b b)=.ok b:=rfl
def Jn:MN .e a b=MP 40 a b:=by cases a<;>cases b<;>rfl
abbrev Jo (r:Bool):Res Bool:=.ok !r
def cO:Jo r=.ok !r:=rfl
def Jp:MN .n a b=KZ (MP 40 a b) Jo:=by cases a<;>cases b<;>rfl
def gP:MP (n+1) (.i a) (.i b)=.ok (a == b):=rfl
def gQ:MP (n+1) (.s a) (.s b)=.ok (a == b):=rfl
def gR:MP (n+1) (.b a) (.b b)=.ok (a == b):=rfl
def gU:MP (n+1) (.t a) (.t b)=kK (MP n) a b:=rfl
def gV {o:Bool}:MP (n+1) (.l o a) (.l O b)=kK (MP n) a b:=rfl
def gW:MN .l (.i a) (.i b)=.ok (decide (a < b)):=rfl
def gX:MN .L (.i a) (.i b)=.ok (decide (a<=b)):=rfl
def gY:MN .g (.i a) (.i b)=.ok (decide (b<=a)):=rfl
def gZ:MN .G (.i a) (.i b)=.ok (decide (b < a)):=rfl
def fB:MN .P (.s y) (.s x)=.ok (uZ x y):=rfl
def Jq:MN .Q a .L=.ok (kD a):=by cases a<;>rfl
def Ef:MN .O a .L=.ok (!kD a):=by cases a<;>rfl
def Ll:kD .L=Θ:=rfl
def Lm:kD (.s i)=Ξ:=rfl
def Ln:kD (.t a)=Ξ:=rfl
def Lo {o:Bool}  : kD (.l o a)=Ξ:=rfl
def cP:jT .o [.s x]=LK (decide (x.length=1)) (.ok (.i (x.cps.getD 0 0:Nat))):=rfl
def fC:jT .l [.s x]=LK (jh x.length) (.ok (.i x.length)):=rfl
def fD:jT .l [.t a]=.ok (.i a.length):=rfl
def fE {o:Bool}  : jT .l [.l o a]=.ok (.i a.length):=rfl
def cQ:jT .M [.i a,.i b]=.ok (.i (if b < a then b else a)):=rfl
def cR:jT .m [.i a,.i b]=.ok (.i (if b > a then b else a)):=rfl
def aX:jT .t [.l o a]=.ok (.t a):=rfl
def aw:jT .L [.l o a]=.ok (.l Θ a):=rfl
def sN (ns:È):i6 (ns.map .i)=Δ ns:=by
 induction ns with
 |nil=>rfl
 |cons n ns I=>show(i6 (ns.map .i)).map (n::·)=_;rw[I];rfl
def Ak (ns:Æ):j9 (ns.map .s)=Δ ns:=by
 induction ns with
 |nil=>rfl
 |cons n ns i=>show(j9 (ns.map .s)).map (n::·)=_;rw[i];rfl
def vK (ns:List Bool):jL (ns.map .b)=Δ ns:=by
 induction ns with
 |nil=>rfl
 |cons n ns i=>show(jL (ns.map .b)).map (n::·)=_;rw[i];rfl
def Am {bs:List Bool}:jT .A [.l o (bs.map .b)]=.ok (.b (bs.any id)):=by
 show(match jL (bs.map .b) with|some bs=>.ok (.b (bs.any id))|none=>LP)=(_:Res D)
 rw[vK]
def Ao {o:Bool}{bs:List Bool}:jT .a [.l o (bs.map .b)]=.ok (.b (bs.all id)):=by
 show(match jL (bs.map .b) with|some bs=>.ok (.b (bs.all id))|none=>LP)=(_:Res D)
 rw[vK]
def af:ox .s (.s x) [.s y]=.ok (.b (Txt.startswith x y)):=rfl
def CV {o:Bool}  (h:(ys.map (·.length)).sum+ys.length*x.length<=16777216):ox .j (.s x) [.l o (ys.map .s)]=.ok (.s (Txt.join x ys)):=by
 show(match j9 (ys.map .s) with|some ys=>LK (decide ((ys.map (λy:Str=>y.length)).sum+ys.length*x.length<=16777216)) (.ok (.s (Txt.join x ys)))|none=>LP)=(_:Res D)
 rw[Ak];show LK (decide _) _=_;rw[B_ h];rfl
def fF:lU (.s x)=Θ:=rfl
def cS:kh .s (.s x)=Θ:=rfl
def cT:kh .i (.i x)=Θ:=rfl
def cU:kh .t (.t x)=Θ:=rfl
def ax:kh .s (.t a)=Ξ:=rfl
def ay:kh .s (.l o a)=Ξ:=rfl
def az:kh .i (.t a)=Ξ:=rfl
def aA:kh .i (.l o a)=Ξ:=rfl
def ah:kh .b (.t a)=Ξ:=rfl
def aj:kh .b (.l o a)=Ξ:=rfl
def ak:kh .l (.t a)=Ξ:=rfl
def ao {o:Bool}  : kh .l (.l o a)=Θ:=rfl
def aa:kh .t (.l o a)=Ξ:=rfl
def uy (ns:È):fT (ns.map .i)=Θ:=by rw[iT,List.all_map,M_];intro x _;rfl
def nu (ns:Æ):fT (ns.map .s)=Θ:=by rw[iT,List.all_map,M_];intro x _;rfl
def g6:er (.i i)=.i i:=by rw[er]
def g7:er (.s i)=.s i:=by rw[er]
def g8:er .L=.L:=by rw[er]
def g9 {a:Î}:er (.t a)=.t (LM a):=by rw[er]
def hG {o:Bool}  : er (.l o a)=.l Ξ (LM a):=by rw[er]
def fG:LM []=[]:=by rw[LM]
def fH:LM (d::a)=er d::LM a:=by rw[LM]
def iB (ns:È):LM (ns.map .i)=ns.map .i:=jC (uy ns)
def iA (ns:Æ):LM (ns.map .s)=ns.map .s:=jC (nu ns)
def fI:il (.i i)=Θ:=rfl
def fJ:il (.s i)=Θ:=rfl
def fK:il (.b i)=Θ:=rfl
def fL:il .L=Θ:=rfl
def fM:il (.t a)=fT a:=rfl
def fN:il (.l o a)=Ξ:=rfl
def cV:fT []=Θ:=rfl
def cW:fT (d::a)=(il d&&fT a):=rfl
abbrev Ap:Fl->Res D
 |.n _=>.ok .L
 |.r d=>.ok d
 |_=>LP
def Jr {cl:Ä}{fn:Fn}{a:Î}(h:a.length=fn.np):kF cl fn a=KZ (iz cl fn.body (a.map Δ++Τ (fn.G.N.length - fn.np) Φ)) Ap:=by unfold kF;rw[B_ h];rfl
def cX:Ap (.n a)=.ok .L:=rfl
def cY:Ap (.r d)=.ok d:=rfl
def call {T:Tb}  (h:T f=Δ fn)(H:fn.io=Ξ):ba T (n+1) f a=kF (ba T n) fn a:=by show(match T f with|some fn=>(match fn.io with|false=>kF (ba T n) fn a|true=>kG (ba T n) fn a)|none=>LP)=_;rw[h];show(match fn.io with|false=>kF (ba T n) fn a|true=>kG (ba T n) fn a)=_;rw[H]
abbrev ioK:Fl->Res D
 |.R d ks vs=>.ok (.t [d,.K Ξ ks vs])
 |_=>LP
def du:ioK (.R d ks vs)=.ok (.t [d,.K Ξ ks vs]):=rfl
def goI {T:Tb}  (h:T f=Δ fn)(g:fn.io=Θ)(H:fn.np=m)(e:fn.G.N.length=k)(c:fn.body=body)(b:a.length=m) :
  ba T (n+1) f a=KZ (iz (ba T n) body ((yR a).map Δ++Τ (k - m) Φ)) ioK:=by
 show(match T f with|some fn=>(match fn.io with|false=>kF (ba T n) fn a|true=>kG (ba T n) fn a)|none=>LP)=_;rw[h];show(match fn.io with|false=>kF (ba T n) fn a|true=>kG (ba T n) fn a)=_;rw[g];show kG (ba T n) fn a=_;unfold kG;rw[B_ (show a.length=fn.np by rw[b,H]),H,e,c];show KZ _ _=KZ _ _;congr 1
def go {T:Tb}  (h:T f=Δ fn)(g:fn.io=Ξ)(H:fn.np=m)(e:fn.G.N.length=k)(c:fn.body=body)(b:a.length=m) :
  ba T (n+1) f a=KZ (iz (ba T n) body (a.map Δ++Τ (k - m) Φ)) Ap:=by
 rw[call h g,Jr (by rw[b,H]),H,e,c]
def line:Ζ=16777216:=sizeLine_eq
def Aq (H : -18446744073709551616 < a)(h:a < 18446744073709551616):NG .m (.i a) (.i b)=.ok (.i (a*b)):=by rw[Ee,B_ (show -(2 ^ 64) < a/\a < 2 ^ 64 from⟨⋯,⋯⟩)];rfl
def As (H : -18446744073709551616 < b)(h:b < 18446744073709551616):NG .m (.i a) (.i b)=.ok (.i (a*b)):=by rw[Ee,B_ (show -(2 ^ 64) < b/\b < 2 ^ 64 from⟨⋯,⋯⟩),Bool.or_true];rfl
def Au (H:0 < b)(h:b < 1073741824):NG .f (.i a) (.i b)=.ok (.i (a / b)):=by rw[GF,B_ ⟨H,h⟩];rfl
def Eg (h:0 < b):NG .M (.i a) (.i b)=.ok (.i (a % b)):=by rw[Jm,B_ h];rfl
def m9 (h:n<=16777216):jh n=Θ:=B_ (by rw[line];exact h)
def kB (h:n < 16777216):jf n=Θ:=B_ (by rw[line];exact h)
def vL (H : -4611686018427387904<=i)(h:i < 4611686018427387904):nq i=Θ:=B_ ⟨⋯,⋯⟩
def vM (f:a->b)(x:List a)(i:Int):M5 (x.map f) i=(M5 x i).map f:=by
 unfold M5;rw[i_];cases NT x.length i with
 |none=>rfl
 |some j=>exact D_ ..
def qM (d:a)(H:0<=i)(h:i < x.length):M5 x i=Δ (x.getD i.toNat d):=by
 unfold M5 NT;rw[e_ H,e_ h];show x[i.toNat]? = _;have:i.toNat < x.length:=⋯
 rw[aam,y_ this];rfl
def Ui {o:Bool}{x:È}{i:Int}(H:0<=i)(h:i < x.length):iw (.l o (x.map .i)) (.i i)=.ok (.i (x.getD i.toNat 0)):=by rw[Yp,vM,qM 0 H h];rfl
def GG {o:Bool}{x:Æ}{i:Int}(H:0<=i)(h:i < x.length):iw (.l o (x.map .s)) (.i i)=.ok (.s (x.getD i.toNat ⟨#[]⟩)):=by rw[Yp,vM,qM ⟨#[]⟩ H h];rfl
def WL (a:0<=i)(H:i < z.length)(hz:z.length<=16777216):iw (.s z) (.i i)=.ok (.s ⟨#[z.cps.toList.getD i.toNat 0]⟩):=by
 rw[x_s,m9 hz];let h:z.cps.toList.length=z.length:=by simp[Str.length]
 rw[qM 0 a (by rw[h];exact H)];rfl
abbrev fz:Bool->Ã->Ã
 |true,Δ d=>Δ (er d)
 |true,Φ=>Φ
 |false,o=>o
def hJ:fz Θ (Δ d)=Δ (er d):=rfl
def hU {o:Ã}:fz Ξ o=o:=rfl
def Eh {o:Ã}  : mU is k (o::a)=fz (is.contains k) o::mU is (k+1) a:=by show(if is.contains k then o.map er else o)::mU is (k+1) a=_;cases is.contains k<;>induction o using zO<;>rfl
def hW:vars (.c d)=[]:=rfl
def ia:vars (.g n d)=[]:=rfl
def ib:vars (.v i)=[i]:=rfl
def cZ {o:TR}  : vars (.b o a b)=vars a++vars b:=rfl
def de:vars (.t e)=ij e:=rfl
def dg:vars (.l e)=ij e:=rfl
def aY:vars (.C f e)=ij e:=rfl
def fO:vars (.B f e)=ij e:=rfl
def dh:vars (.i a i)=vars a++vars i:=rfl
def fP:ij []=[]:=rfl
def fQ:ij (e::E)=vars e++ij E:=rfl
def aZ:iS (.d G fr t s i e)=Θ:=rfl
def dn:iS (.b .a a b)=Θ:=rfl
def fR:iS (.S a b c)=Θ:=rfl
def CW {ns:È}  (c:0<=z)(b:z.toNat < ns.length)(f:ns.length<=1000)(H:e.length < 16777216)(h:(i != j)=Θ):u7 i j e (ns.map .i) a (.i z)=.ok (.n ((a.set j (Δ (.l Θ ((ns.eraseIdx z.toNat).map .i)))).set i (Δ (.l Θ (e++[.i (ns.getD z.toNat 0)]))))):=by show yQ i j e a z (i6 (ns.map .i))=_;rw[sN];show LK (decide (0<=z/\z.toNat < ns.length/\ns.length<=1000)&&jf e.length&&(i != j)) _=_;rw[B_ ⟨c,b,f⟩,show jf e.length=Θ from B_ (by rw[sizeLine_eq];exact H),h];rfl
def dq:iS (.i a i)=Ξ:=rfl
def Js {o:Bool}  : iE e (.l o a) b=cond (iS e) (cond (fT a) (.l Θ a,b) (.l Θ (LM a),LZ (vars e) b)) (.l Ξ (LM a),LZ (vars e) b):=by
 unfold iE;rw[d_ (show ¬il (.l o a)=Θ by intro z;cases z)];cases iS e
 ·exact Prod.ext (by show er (.l o a)=_;rw[er];rfl) rfl
 ·show(if fT a=Θ then _ else _)=_;cases fT a<;>rfl
def Jt:iE e (.t a) b=cond (fT a) (.t a,b) (.t (LM a),LZ (vars e) b):=by
 unfold iE;cases h:fT a with
 |true=>rw[e_ (show il (.t a)=Θ from h)];rfl
 |false=>rw[d_ (show ¬il (.t a)=Θ by intro z;rw[show il (.t a)=fT a from rfl,h]at z;cases z)];cases iS e<;>exact Prod.ext (by show er (.t a)=_;rw[er];rfl) rfl
theorem vN (P:Nat->Ev->Prop):∀(its:Î) (k:Nat) (a:Ev),P k a->(∀(i:Nat) (x:D) (a:Ev),its[i]? = Δ x->P (k+i) a->∃τ',body x a=.ok (.n τ')/\P (k+i+1) τ')->∃τ',forM body its a=.ok (.n τ')/\P (k+its.length) τ'
 |[],k,a,h,_=>⟨a,rfl,h⟩
 |x::X,k,a,h,H=>by
  let⟨Q,l,g⟩:=H 0 x a rfl h;let⟨S,E,f⟩:=vN P X (k+1) Q g λi y b c e=>by let⟨τ',m,j⟩:=H (i+1) y b (by simpa using c) (by rw[show k+(i+1)=k+1+i by omega];exact e);exact⟨τ',m,by rw[show k+1+i+1=k+(i+1)+1 by omega];exact j⟩
  refine⟨S,?_,by rw[List.length_cons,show k+(X.length+1)=k+1+X.length by omega];exact f⟩;rw[dt,l,dv,Ed,E]
def jl (P:Nat->Ev->Prop){its:Î}  (h:P 0 a)(e:∀(i:Nat)(x:D)(a:Ev),its[i]? = Δ x->P i a->∃τ',body x a=.ok (.n τ')/\P (i+1) τ'):∃τ',forM body its a=.ok (.n τ')/\P its.length τ':=by
 let⟨τ',f,b⟩:=vN P its 0 a h λi x a c H=>by rw[Nat.zero_add]at H ⊢;exact e i x a c H
 exact⟨τ',f,by rw[Nat.zero_add]at b;exact b⟩
theorem sO {e c:Type}{body:D->Ev->Res Fl}(f:c->e->c)(O:e->D)(st:c->Ev->Prop):∀(X:List e) (b:c) (a:Ev),st b a->(∀(x:e) (b:c) (a:Ev),x∈X->st b a->∃τ',body (O x) a=.ok (.n τ')/\st (f b x) τ')->
  ∃τ',forM body (X.map O) a=.ok (.n τ')/\st (X.foldl f b) τ'
 |[],b,a,h,_=>⟨a,rfl,h⟩
 |x::X,b,a,h,H=>by let⟨Q,m,l⟩:=H x b a (by simp) h;let⟨S,E,k⟩:=sO f O st X (f b x) Q l λy b g i j=>H y b g (J_ _ i) j;refine⟨S,?_,k⟩;rw[a_,dt,m,dv,Ed,E]
theorem jk {a b:Type}{g:D->Res (Ã)}(O:a->D)(out:a->b)(U:b->D):∀(X:List a),(∀x∈X,g (O x)=.ok (Δ (U (out x))))->iD g (X.map O)=.ok ((X.map out).map U)
 |[],_=>rfl
 |x::X,h=>by show KZ (g (O x)) _=_;rw[h x (by simp)];show KZ (iD g (X.map O)) _=_;rw[jk O out U X λy H=>h y (J_ _ H)];rfl
def oO (a b:Int):iQ a b=((List.range (b - a).toNat).map λk=>a+(k:Nat)).map .i:=by unfold iQ;rw[z_];rfl
def Lp {o:Ã}  : ic (o::a) 0=o:=rfl
def Lq {o:Ã}  : ic (o::a) (i+1)=ic a i:=rfl
def Lr:mU is k []=[]:=rfl
def Lu {a k:Nat}{l:Ç}:List.contains (a::l) k=((k == a)||l.contains k):=rfl
def Lv {k:Nat}:List.contains [] k=Ξ:=rfl
def Lw:fz b (Δ (.i i))=Δ (.i i):=by cases b<;>rfl
def Lx:fz b (Δ (.s i))=Δ (.s i):=by cases b<;>rfl
def Ly:fz b Φ=Φ:=by cases b<;>rfl
open PySem
def Lz {P:D}:iw (.t [P]) (.i 0)=.ok P:=rfl
def LA {P Q:D}:iw (.t [P,Q]) (.i 0)=.ok P:=rfl
def LB {P Q:D}:iw (.t [P,Q]) (.i 1)=.ok Q:=rfl
def LC {P Q R:D}:iw (.t [P,Q,R]) (.i 0)=.ok P:=rfl
def LF {P Q R:D}:iw (.t [P,Q,R]) (.i 1)=.ok Q:=rfl
def LG {P Q R:D}:iw (.t [P,Q,R]) (.i 2)=.ok R:=rfl
def LH {o:Bool}{P Q:D}:iw (.l o [P,Q]) (.i 0)=.ok P:=rfl
def LI {o:Bool}{P Q:D}:iw (.l o [P,Q]) (.i 1)=.ok Q:=rfl
def Zaa {a b:Prop}(x:a)(y:b):a/\b:=⟨x,y⟩
abbrev LJ:=(Zaa (Zaa (Zaa (Zaa (Zaa @ÿbh @ÿbf) (Zaa @ÿbg (Zaa @ÿbe @Jn))) (Zaa (Zaa @Jp (Zaa @Jq @Ef)) (Zaa @Am (Zaa @Ao @iB)))) (Zaa (Zaa (Zaa @iA @Aq) (Zaa @As (Zaa @Au @Eg))) (Zaa (Zaa @m9 (Zaa @kB @vL)) (Zaa @Ui (Zaa @GG @WL))))) (Zaa (Zaa (Zaa (Zaa @Eh @Js) (Zaa @Jt (Zaa @uy @nu))) (Zaa (Zaa @Bool.or_false (Zaa @Bool.or_true @List.replicate_succ.{0})) (Zaa @List.replicate_zero.{0} (Zaa @List.length_cons.{0} @List.length_nil.{0})))) (Zaa (Zaa (Zaa @Nat.zero_add @decide_true) (Zaa @Bool.and_self (Zaa @Bool.not_true @Bool.not_false))) (Zaa (Zaa @Bool.and_true (Zaa @Bool.and_false @beq_self_eq_true.{0})) (Zaa @if_true.{1} (Zaa @if_false.{1} @aaK))))))
namespace Fr
open PySem
abbrev Av (f:Nat):Gm:={N:=["_law_own","_law_part"],kd:=[.local,.local],gl:=[f],df:=Ξ}
abbrev QW (f:Nat):Ê:=
 [.L (.a .Q (.v 1) (.c .L)) [.r (.a .Q (.v 0) (.c .L))] [],.L (.O (.N (.v 1) .b) (.N (.v 0) .b)) [.r (.M (.N (.v 1) .b) (.M (.N (.v 0) .b) (.a .e (.v 0) (.v 1))))] [],.L (.N (.v 1) .s) [.r (.M (.N (.v 0) .s) (.a .e (.v 0) (.v 1)))] [],.L (.N (.v 1) .i) [.r (.M (.N (.v 0) .i) (.a .e (.v 0) (.v 1)))] [],.L (.N (.v 1) .t) [.L (.f (.N (.v 0) .t)) [.r (.c (.b Ξ))] []] [.L (.f (.N (.v 0) .l)) [.r (.c (.b Ξ))] []],.L (.a .n (.B .l [.v 0]) (.B .l [.v 1])) [.r (.c (.b Ξ))] [],.r (.B .a [.d (Av f) [] (.t [.n 0,.n 1]) (.z (.v 0) (.v 1)) [] (.C f [.v 0,.v 1])])]
abbrev vO (f:Nat)(x:Str):Gm:={N:=[x],kd:=[.local],gl:=[f],df:=Ξ}
abbrev QX (f:Nat)(x:Str):Ê:=
 [.L (.N (.v 0) .l) [.r (.d (vO f x) [] (.n 0) (.v (.v 0)) [] (.C f [.v 0]))] [],.L (.N (.v 0) .t) [.r (.B .t [.d (vO f x) [] (.n 0) (.v (.v 0)) [] (.C f [.v 0])])] [],.r (.v 0)]
end Fr
end L2
local macro_rules | `(tactic| simp! [$xs,*]) =>do
 let a ← ("Nat.reduceBEq Nat.reduceSub Nat.reduceAdd reduceIte cond_true cond_false List.map_cons List.map_nil List.cons_append List.nil_append Bool.true_or Bool.false_or".splitOn " "++("Lp Lq fu fw Lr Lu Lv g6 g7 g8 g9 hG fG fH hW ib cZ aY fP fQ de dg fO dh bf dA aB bo bq br dC aD bt bu dE aE bw aF bx bA bB bC bD dM aG bF aH aI bM aJ bQ bR aK aL dQ dR bV aN aO aP ae av aQ ck eC eE cq eF eI cv cw cB cD aT aU cF cH cI cJ eJ eK cK aV cL aW cO du dv dw Lb Lc Ld dy dz bg dB aC dD fU dF dG dH dI dJ fV bE fW fX fY fZ f6 bG bH bJ f7 bK bL dN bN bP dO dP bT f9 gb bU gc gf gh gk aM gm aq au bW dS dU dW gq gu gA Le ÿbd ÿab ÿac ÿad ÿaf Lf dX dY dZ gB d6 ek gC gD bX bY bZ ÿag cb cf eB cg gE gG aR cu Lg Lh Li Lj ÿah cx cy cz cA cC cE ÿaj cG ÿaa ÿai ÿb ÿbb ÿba ÿae ÿbc ÿa gH gI eL eM eN eU ff fg dt gJ gK fq ft fx bc cM fy cN fA Lk gM gN gO gP gQ gR gU gV gW gX gY gZ fB Ll Lm Ln Lo cP fC fD fE cQ cR aX aw af fF cS cT cU ax ay az aA ah aj ak ao aa fI fJ fK fL fM fN cV cW cX cY hJ hU ia aZ dn fR dq".splitOn " ").map ("L2."++·)).toArray.mapM λs =>`(Lean.Parser.Tactic.simpLemma| $(Lean.mkIdent s.toName):ident)
 `(tactic| simp (disch :=omega) only [L2.LJ,$a,*,↓L2.Lw,↓L2.Lx,↓L2.Ly,↓L2.Lz,↓L2.LA,↓L2.LB,↓L2.LC,↓L2.LF,↓L2.LG,↓L2.LH,↓L2.LI,$xs,*])
local macro_rules | `(tactic| simp_all! [$xs,*]) =>do
 let a ← ("Nat.reduceBEq Nat.reduceSub Nat.reduceAdd reduceIte Lp Lq fu fw Lr Lu Lv cond_true cond_false List.map_cons List.map_nil List.cons_append List.nil_append Bool.true_or Bool.false_or g6 g7 g8 g9 hG fG fH hW ib cZ aY fP fQ de dg fO dh bf dA aB bo bq br dC aD bt bu dE aE bw aF bx bA bB bC bD dM aG bF aH aI bM aJ bQ bR aK aL dQ dR bV aN aO aP ae av aQ ck eC eE cq eF eI cv cw cB cD aT aU cF cH cI cJ eJ eK cK aV cL aW cO du dv dw Lb Lc Ld dy dz bg dB aC dD fU dF dG dH dI dJ fV bE fW fX fY fZ f6 bG bH bJ f7 bK bL dN bN bP dO dP bT f9 gb bU gc gf gh gk aM gm aq au bW dS dU dW gq gu gA Le ÿbd ÿab ÿac ÿad ÿaf Lf dX dY dZ gB d6 ek gC gD bX bY bZ ÿag cb cf eB cg gE gG aR cu Lg Lh Li Lj ÿah cx cy cz cA cC cE ÿaj cG ÿaa ÿai ÿb ÿbb ÿba ÿae ÿbc ÿa gH gI eL eM eN eU ff fg dt gJ gK fq ft fx bc cM fy cN fA Lk gM gN gO gP gQ gR gU gV gW gX gY gZ fB Ll Lm Ln Lo cP fC fD fE cQ cR aX aw af fF cS cT cU ax ay az aA ah aj ak ao aa fI fJ fK fL fM fN cV cW cX cY hJ hU ia aZ dn fR dq".splitOn " ").toArray.mapM λs =>`(Lean.Parser.Tactic.simpLemma| $(Lean.mkIdent s.toName):ident)
 `(tactic| simp -implicitDefEqProofs (disch :=omega) only [L2.LJ,$a,*,↓L2.Lw,↓L2.Lx,↓L2.Ly,↓L2.Lz,↓L2.LA,↓L2.LB,↓L2.LC,↓L2.LF,↓L2.LG,↓L2.LH,↓L2.LI,$xs,*])
namespace Law
open PySem L2
abbrev top (i:Nat):Stmt:=PySem.Challenge.pw_flagroll_k41_all_answers.main.body.getD i (.Pass ⟨0,0,0,0⟩)
abbrev Z:Sg:={nm:=(["LETTERS","PLACES","SALT_LENGTH","is_whole","is_text_of","check_salt","folded","lot_keys","place_of","run_index","face_at","mark_of","mark_holds","cond_holds","conds_hold","in_rows","in_group","share_at","outcome_face","rules_holding","decided_among","decide","_law_draw","_law_names","_law_salt"]:Æ)++(["_law_place","_law_visitor_number","_law_allot","_law_stem","_law_text","_law_center","_law_number","_law_thing","_law_cond","_law_groups","_law_stages","_law_outcome","_law_rules","_law_marks","_law_cond_holds","_law_share","_law_face","_law_decided","_law_same","_law_copy","entry_of","first_holdout","first_unmet_need","reckoned_answer","answer_once"]:Æ)++(["answer_all","_law_needs","_law_holdouts","_law_house","_law_entry","_law_answer","law"]:Æ),Wb:=[(21,(.s "abcdefghijklmnopqrstuvwxyz")),(22,(.i 10007)),(23,(.i 12))],fns:=[24,25,32,33,34,35,36,37,26,27,28,29,30,31,38,39,40,41,42,66,67,71,43,44,45,46,47,48,49,50,51,52,53,54,55,56,57,58,59,72,73,74,60,61,62,63,75,76,64,65,77],cls:=[],xt:=[],pl:=[],rc:=[],xm:=[],Nk:=[70,68,69]}
abbrev oW (x y:Str):IR:=(.O (.a .e (.v 7) (.c (.s x))) (.a .e (.v 7) (.c (.s y))))
abbrev cB1:Ê:=[.a (.n 9) (.d {N:=["_law_script","_law_k","_law_stem_here","_law_center_here","_law_j"],kd:=[.cell,.cell,.cell,.cell,.local],gl:=[53],df:=Ξ} [0,1,4,5] (.n 4) (.M (.b .a (.c (.i 1)) (.C 43 [.v 0,.b .a (.v 1) (.c (.i 2)),.c (.i 2)]))) [] (.C 53 [.v 0,.b .a (.b .a (.v 1) (.c (.i 3))) (.b .m (.c (.i 5)) (.v 4)),.v 2,.v 3]))]
abbrev cB2:Ê:=[.a (.n 9) (.d {N:=["_law_script","_law_k","_law_stem_here","_law_j"],kd:=[.cell,.cell,.cell,.local],gl:=[50],df:=Ξ} [0,1,4] (.n 3) (.M (.b .a (.c (.i 1)) (.C 43 [.v 0,.b .a (.v 1) (.c (.i 2)),.c (.i 2)]))) [] (.C 50 [.v 0,.b .a (.b .a (.v 1) (.c (.i 3))) (.b .m (.c (.i 5)) (.v 3)),.v 2])),.a (.n 9) (.d {N:=["_law_stem_here","_law_thing_here"],kd:=[.cell,.local],gl:=[],df:=Ξ} [4] (.n 1) (.v (.v 9)) [] (.I (.a .n (.v 1) (.c (.s ""))) (.v 1) (.S (.v 0) Φ (Δ (.c (.i 1))))))]
abbrev cB3:Ê:=[.a (.n 9) (.l [.C 52 [.v 0,.b .a (.v 1) (.c (.i 3)),.v 5]])]
abbrev cB4:Ê:=[.a (.n 8) (.i (.v 3) (.C 43 [.v 0,.b .a (.v 1) (.c (.i 2)),.B .l [.v 3]]))]
abbrev WM:Ê:=[.L (oW "is" "not") cB1 [],.L (.a .e (.v 7) (.c (.s "begins"))) cB2 [],.L (oW "least" "most") cB3 [],.L (oW "in" "out") cB4 [],.r (.t [.v 8,.v 7,.v 9])]
abbrev gGr:Gm:={N:=["_law_script","_law_k","_law_g","_law_marks_here","_law_stem_here","_law_center_here","_law_j"],kd:=[.cell,.cell,.cell,.cell,.cell,.cell,.local],gl:=[54],df:=Ξ}
abbrev WN:Ê:=[.a (.n 8) (.d gGr [0,1,7,2,3,4] (.n 6) (.M (.c (.i 2))) [] (.C 54 [.v 0,.b .a (.b .a (.b .a (.v 1) (.c (.i 70))) (.b .m (.c (.i 30)) (.v 2))) (.b .m (.c (.i 14)) (.v 6)),.v 3,.l [],.v 4,.v 5])),.a (.n 9) (.i (.l [.l [],.l [.l []],.l [.S (.v 8) Φ (Δ (.c (.i 1)))],.l [.v 8],.l [.S (.v 8) Φ (Δ (.c (.i 1))),.S (.v 8) (Δ (.c (.i 1))) Φ],.l [.l [],.S (.v 8) Φ (Δ (.c (.i 1)))]]) (.C 43 [.v 0,.b .a (.b .a (.v 1) (.c (.i 6))) (.v 7),.c (.i 6)])),.A 5 (.t [.i (.v 6) (.v 7),.v 9])]
abbrev Yq:Ê:=[.a (.n 7) (.l [.c (.i 0),.c (.i 10007),.v 2,.b .a (.v 2) (.c (.i 1)),.v 2,.C 43 [.v 0,.b .a (.b .a (.v 1) (.c (.i 2))) (.v 6),.c (.i 10008)]]),.A 4 (.t [.v 5,.i (.v 7) (.C 43 [.v 0,.b .a (.b .a (.v 1) (.c (.i 5))) (.v 6),.c (.i 6)])]),.a (.n 5) (.b .a (.b .a (.v 5) (.c (.i 1))) (.C 43 [.v 0,.b .a (.b .a (.v 1) (.c (.i 8))) (.v 6),.c (.i 3)]))]
abbrev WO:Ê:=[.A 11 (.C 54 [.v 0,.b .a (.b .a (.b .a (.v 1) (.c (.i 6))) (.b .m (.c (.i 60)) (.v 10))) (.b .m (.c (.i 14)) (.v 12)),.v 2,.v 3,.v 5,.v 6])]
abbrev WQ:Ê:=[.a (.n 11) (.l []),.b (.n 12) (.M (.C 43 [.v 0,.b .a (.b .a (.v 1) (.c (.i 1))) (.v 10),.c (.i 3)])) WO,.A 9 (.t [.v 11,.C 57 [.v 0,.b .a (.b .a (.v 1) (.c (.i 40))) (.b .m (.c (.i 60)) (.v 10)),.v 4,.v 7,.v 8]])]
abbrev mB1:Ê:=[.a (.n 8) (.i (.l [.b .p (.c (.i 10)) (.c (.i 9)),.b .s (.c (.i 0)) (.b .p (.c (.i 10)) (.c (.i 9))),.b .a (.v 4) (.c (.i 3))]) (.C 43 [.v 0,.b .a (.b .a (.v 1) (.c (.i 2))) (.b .m (.c (.i 8)) (.v 6)),.c (.i 3)]))]
abbrev mB2:Ê:=[.a (.n 8) (.C 50 [.v 0,.b .a (.b .a (.v 1) (.c (.i 3))) (.b .m (.c (.i 8)) (.v 6)),.v 3])]
abbrev mB3:Ê:=[.a (.n 8) (.S (.b .a (.v 8) (.v 3)) Φ (Δ (.c (.i 12))))]
abbrev Yr:IS:=(.L (.a .G (.v 7) (.c (.i 0))) [.i 5 (.C 43 [.v 0,.b .a (.b .a (.v 1) (.c (.i 6))) (.b .m (.c (.i 8)) (.v 6)),.b .a (.B .l [.v 5]) (.c (.i 1))]) (.t [.i (.v 2) (.v 6),.v 8])] [])
abbrev Ys:Ê:=(.L (.a .e (.v 7) (.c (.i 1))) mB1 [])::(.L (.O (.a .e (.v 7) (.c (.i 2))) (.a .e (.v 7) (.c (.i 3)))) mB2 [])::(.L (.a .e (.v 7) (.c (.i 3))) mB3 [])::[Yr]
abbrev WR:Ê:=(.a (.n 7) (.C 43 [.v 0,.b .a (.v 1) (.b .m (.c (.i 8)) (.v 6)),.c (.i 5)]))::(.a (.n 8) (.C 52 [.v 0,.b .a (.b .a (.v 1) (.c (.i 1))) (.b .m (.c (.i 8)) (.v 6)),.v 4]))::Ys
abbrev cA0:IR:=(.a .e (.C 43 [.v 0,.b .a (.v 1) (.c (.i 7)),.c (.i 2)]) (.c (.i 0)))
abbrev Vg:IR:=(.M (.a .n (.v 10) (.l [])) (.a .e (.i (.i (.v 10) (.n (.c (.i 1)))) (.c (.i 1))) (.v 8)))
abbrev WT:IR:=(.n (.c (.i 1)))
abbrev WU:IR:=(.t [.i (.i (.v 10) (.n (.c (.i 1)))) (.c (.i 0)),.v 9])
abbrev Yt:IR:=(.t [.v 8,.v 9])
abbrev Vh:Ê:=[.a (.t [.n 8,.n 9]) (.i (.v 5) (.v 7)),.R 6 10 (.C 43 [.v 0,.b .a (.b .a (.v 1) (.c (.i 8))) (.v 7),.B .l [.v 6]]) Vg WT WU Yt]
abbrev tA3:Ê:=[.U 6 {N:=["_law_face_here"],kd:=[.local],gl:=[],df:=Ξ} [] 0 (.v (.v 2)),.b (.n 7) (.M (.B .l [.v 5])) Vh,.r (.t [.d {N:=["_law_faces","_law_runs","_law_j"],kd:=[.cell,.cell,.local],gl:=[],df:=Ξ} [2,6] (.n 2) (.M (.B .l [.v 2])) [] (.t [.i (.v 0) (.v 2),.i (.v 1) (.v 2)]),.i (.v 6) (.B .l [.v 2])])]
abbrev WV:Ê:=(.L cA0 [.a (.n 5) (.h (.v 5))] [])::tA3
abbrev WX:Ê:=[.Q 13 12 (.C 43 [.v 0,.b .a (.c (.i 410)) (.v 14),.B .l [.v 12]])]
abbrev Vi:Ê:=[.a (.n 17) (.b .a (.c (.i 1000)) (.b .m (.c (.i 330)) (.v 16))),.a (.n 18) (.i (.v 9) (.C 43 [.v 0,.v 17,.c (.i 2)])),.a (.n 19) (.C 46 [.v 18,.v 1]),.a (.n 20) (.C 58 [.v 0,.b .a (.v 17) (.c (.i 20)),.v 3,.v 8,.v 4,.v 5,.v 6,.v 19,.v 2]),.a (.n 21) (.t [.v 18,.i (.v 4) (.C 43 [.v 0,.b .a (.v 17) (.c (.i 1)),.c (.i 4)]),.v 20,.C 48 [.v 0,.b .a (.v 17) (.c (.i 2)),.S (.v 4) Φ (Δ (.c (.i 3))),.v 19]]),.a (.n 22) (.C 72 [.v 0,.b .a (.v 17) (.c (.i 322)),.v 13,.v 16,.v 11,.v 4]),.A 15 (.t [.i (.v 11) (.v 16),.t [.v 21,.v 22,.a .e (.C 43 [.v 0,.b .a (.v 17) (.c (.i 328)),.c (.i 6)]) (.c (.i 0))]])]
abbrev tH:Ê:=[.L (.M (.O (.a .Q (.v 6) (.c .L)) (.a .P (.v 2) (.v 6))) (.a .l (.C 29 [.v 4,.i (.v 1) (.c (.i 0))]) (.v 5))) [.r (.v 3)] []]
abbrev tU:Ê:=[.P 70 [.v 0,.v 1,.v 2,.v 5] 4 (.c (.i 0)) (.v 6) [.N 4 (.v 5)] []]
abbrev Yu:Ê:=[.L (.a .O (.v 8) (.c .L)) [.N 4 (.t [.i (.v 6) (.c (.i 1)),.t [.c (.s "needs"),.v 8]])] [],.a (.n 9) (.C 42 [.i (.v 0) (.c (.i 0)),.v 6,.v 1,.v 2]),.L (.a .e (.i (.v 9) (.c (.i 1))) (.B .l [.i (.v 6) (.c (.i 2))])) [.N 4 (.t [.i (.v 9) (.c (.i 0)),.t [.c (.s "rest")]])] [],.N 4 (.t [.i (.v 9) (.c (.i 0)),.t [.c (.s "rule"),.i (.v 9) (.c (.i 1))]])]
abbrev Vj:Ê:=[.S 7 70 [.v 0,.v 1,.v 2,.v 5] 3,.A 4 (.t [.v 5,.i (.v 7) (.c (.i 0)),.i (.v 7) (.c (.i 1))])]
abbrev Yv:IS:=(.L (.a .e (.C 43 [.v 0,.c (.i 399),.c (.i 8)]) (.c (.i 0))) [.a (.n 3) (.t [.i (.v 3) (.c (.i 0)),.l [],.l []])] [])
abbrev WY:Ê:=[.a (.t [.n 14,.n 15]) (.C 76 [.v 3,.v 2,.v 10,.v 12]),.A 11 (.t [.v 12,.v 14,.v 15])]
abbrev Yw:Ê:=[.a (.n 16) (.C 71 [.v 7,.v 2,.C 65 [.v 10]]),.L (.f (.C 64 [.v 16,.v 11])) [.r (.c (.b Ξ))] [],.i 16 (.c (.i 0)) (.t [.c (.s "a"),.c (.s "b"),.t [.c (.s "rest")]])]
abbrev WZ:Ê:=(.a (.n 10) (.t [.v 9,.C 59 [.v 0,.b .a (.c (.i 640)) (.b .m (.c (.i 25)) (.v 8)),.v 4,.v 5,.v 6]]))::(.a (.n 11) (.l []))::(.b (.t [.n 12,.n 13]) (.v (.i (.v 3) (.c (.i 2)))) WY)::Yw
abbrev W0:Ê:=(.a (.n 9) (.v 1))::(.L (.a .e (.v 8) (.c (.i 1))) [.a (.n 9) (.C 47 [.v 0,.c (.i 620)])] [])::WZ
abbrev gRw:Gm:={N:=["_law_marks_here","_law_row"],kd:=[.cell,.local],gl:=[9],df:=Ξ}
abbrev Yx:Gm:={N:=["_law_marks_here","_law_other"],kd:=[.cell,.local],gl:=[60],df:=Ξ}
abbrev Uk:Ê:=[.L (.a .e (.v 7) (.v 3)) [.a (.n 6) (.B .A [.d gRw [2] (.n 1) (.v (.v 8)) [] (.B .a [.d Yx [0] (.n 1) (.v (.v 1)) [] (.C 60 [.l [],.v 1,.v 0])])])] []]
abbrev Ul:Ê:=[.L (.a .e (.v 7) (.v 3)) [.a (.n 9) (.v 10)] []]
abbrev gBg:Gm:={N:=["_law_thing_here","_law_other"],kd:=[.cell,.local],gl:=[],df:=Ξ}
abbrev W2:Ê:=[.L (.O (.a .e (.v 4) (.c (.s "is"))) (.a .e (.v 4) (.c (.s "not")))) [.r (.a .e (.a .P (.v 9) (.v 5)) (.a .e (.v 4) (.c (.s "is"))))] [],.L (.a .e (.v 4) (.c (.s "begins"))) [.r (.M (.N (.v 9) .s) (.B .A [.d gBg [9] (.n 1) (.v (.v 5)) [] (.P .s (.v 0) [.v 1])]))] [],.L (.a .e (.v 4) (.c (.s "least"))) [.r (.M (.N (.v 9) .i) (.a .g (.v 9) (.i (.v 5) (.c (.i 0)))))] [],.L (.a .e (.v 4) (.c (.s "most"))) [.r (.M (.N (.v 9) .i) (.a .L (.v 9) (.i (.v 5) (.c (.i 0)))))] [],.r (.a .e (.a .O (.v 9) (.c .L)) (.a .e (.v 4) (.c (.s "has"))))]
abbrev Yy:Ê:=(.a (.t [.n 3,.n 4,.n 5]) (.v 1))::(.L (.O (.a .e (.v 4) (.c (.s "in"))) (.a .e (.v 4) (.c (.s "out")))) [.a (.n 6) (.c (.b Ξ)),.b (.t [.n 7,.n 8]) (.v (.v 0)) Uk,.r (.a .e (.v 6) (.a .e (.v 4) (.c (.s "in"))))] [])::(.a (.n 9) (.c .L))::(.b (.t [.n 7,.n 10]) (.v (.v 2)) Ul)::W2
abbrev tP:Ê:=[.L (.e .L .l (.v 6) (.v 2) (.v 7)) [.r (.v 4)] []]
abbrev tQ:Ê:=[.b (.t [.n 6,.n 7]) (.v (.v 5)) tP]
abbrev W3:Ê:=[.L (.a .e (.i (.v 0) (.c (.i 0))) (.c (.s "face"))) [.r (.i (.v 0) (.c (.i 1)))] [],.L (.a .e (.i (.v 0) (.c (.i 0))) (.c (.s "share"))) [.L (.a .l (.v 2) (.C 61 [.i (.v 0) (.c (.i 2)),.v 3])) [.r (.i (.v 0) (.c (.i 1)))] [],.r (.c .L)] [],.b (.t [.n 4,.n 5]) (.v (.i (.v 1) (.c (.i 0)))) tQ,.r (.c .L)]
abbrev Yz:Gm:={N:=["_law_groups_here","_law_visitor","_law_cond_here"],kd:=[.cell,.cell,.local],gl:=[60],df:=Ξ}
abbrev QY:Ê:=[.L (.B .a [.d Yz [0,3] (.n 2) (.v (.i (.v 9) (.c (.i 0)))) [] (.C 60 [.v 0,.v 2,.i (.v 1) (.c (.i 1))])]) [.a (.n 10) (.C 62 [.i (.v 9) (.c (.i 1)),.v 7,.C 46 [.v 4,.i (.v 3) (.c (.i 0))],.v 2]),.L (.a .O (.v 10) (.c .L)) [.r (.t [.v 10,.v 8])] []] []]
abbrev bDc:Ê:=[.a (.t [.n 4,.n 5,.n 6,.n 7]) (.v 1),.b (.t [.n 8,.n 9]) (.N (.v 6)) QY,.r (.t [.v 5,.B .l [.v 6]])]
abbrev R8:Ê:=[.L (.M (.O (.a .Q (.v 10) (.c .L)) (.a .P (.v 3) (.v 10))) (.a .l (.C 46 [.v 8,.i (.v 2) (.c (.i 0))]) (.v 9))) [.r (.t [.i (.v 4) (.c (.i 1)),.t [.c (.s "held"),.v 7]])] []]
abbrev R9:Ê:=[.L (.a .n (.i (.C 76 [.v 0,.v 1,.v 2,.v 11]) (.c (.i 0))) (.v 12)) [.r (.t [.i (.v 4) (.c (.i 1)),.t [.c (.s "needs"),.v 11]])] []]
abbrev W4:Ê:=[.a (.t [.n 12,.n 13]) (.C 63 [.i (.v 0) (.c (.i 0)),.v 4,.v 1,.v 2]),.L (.a .e (.v 13) (.B .l [.i (.v 4) (.c (.i 2))])) [.r (.t [.v 12,.t [.c (.s "rest")]])] [],.r (.t [.v 12,.t [.c (.s "rule"),.v 13]])]
abbrev bLa:Ê:=(.a (.t [.n 4,.n 5,.n 6]) (.C 75 [.v 0,.v 3]))::(.L (.v 6) [.r (.t [.i (.v 4) (.c (.i 1)),.t [.c (.s "stopped")]])] [])::(.b (.t [.n 7,.n 8,.n 9,.n 10]) (.v (.i (.v 0) (.c (.i 1)))) R8)::(.b (.t [.n 11,.n 12]) (.v (.v 5)) R9)::W4
abbrev YA:Ê:=[.a (.n 2) (.c (.i 0)),.b (.t [.n 3,.n 4]) (.v (.v 0)) [.L (.a .L (.v 3) (.v 1)) [.a (.n 2) (.v 4)] []],.r (.v 2)]
abbrev b24:Ê:=
 [.r (.M (.N (.v 0) .i) (.f (.N (.v 0) .b)))]
abbrev d24:Fn:={np:=1,G:={N:=["thing"],kd:=[.local],gl:=[14,8,16],df:=Θ},body:=b24}
abbrev b25:Ê:=
 [.L (.f (.N (.v 0) .s)) [.r (.c (.b Ξ))] [],.L (.f (.e .L .L (.v 2) (.B .l [.v 0]) (.v 3))) [.r (.c (.b Ξ))] [],.r (.B .a [.d {N:=["signs","sign"],kd:=[.cell,.local],gl:=[],df:=Ξ} [1] (.n 1) (.v (.v 0)) [] (.a .P (.v 1) (.v 0))])]
abbrev d25:Fn:={np:=4,G:={N:=["thing","signs","least","most"],kd:=[.local,.cell,.local,.local],gl:=[14,11,0,9],df:=Θ},body:=b25}
abbrev W5:Ê:=
 [.b (.t [.n 2,.n 3]) (.v (.v 0)) [.L (.a .e (.v 2) (.v 1)) [.r (.v 3)] []],.r (.c .L)]
abbrev YB:Fn:={np:=2,G:={N:=["marks","name","mark_name","thing"],kd:=Τ 4 .local,gl:=[],df:=Θ},body:=W5}
abbrev W6:Ê:=
 [.L (.a .e (.v 0) (.c (.s "is"))) [.r (.M (.a .O (.v 2) (.c .L)) (.a .P (.v 2) (.v 1)))] [],.L (.a .e (.v 0) (.c (.s "not"))) [.r (.O (.a .Q (.v 2) (.c .L)) (.a .T (.v 2) (.v 1)))] [],.L (.a .e (.v 0) (.c (.s "begins"))) [.r (.M (.N (.v 2) .s) (.B .A [.d {N:=["mark","thing"],kd:=[.cell,.local],gl:=[],df:=Ξ} [2] (.n 1) (.v (.v 1)) [] (.P .s (.v 0) [.v 1])]))] [],.L (.a .e (.v 0) (.c (.s "least"))) [.r (.M (.C 24 [.v 2]) (.a .g (.v 2) (.i (.v 1) (.c (.i 0)))))] [],.L (.a .e (.v 0) (.c (.s "most"))) [.r (.M (.C 24 [.v 2]) (.a .L (.v 2) (.i (.v 1) (.c (.i 0)))))] [],.L (.a .e (.v 0) (.c (.s "has"))) [.r (.a .O (.v 2) (.c .L))] [],.r (.a .Q (.v 2) (.c .L))]
abbrev d33:Fn:={np:=3,G:={N:=["word","things","mark"],kd:=[.local,.local,.cell],gl:=[14,11,10,24],df:=Θ},body:=W6}
abbrev Um:Ê:=
 [.a (.n 3) (.i (.v 1) (.c (.i 0))),.a (.n 4) (.i (.v 1) (.c (.i 1))),.L (.a .e (.v 4) (.c (.s "in"))) [.r (.C 37 [.v 0,.v 3,.v 2])] [],.L (.a .e (.v 4) (.c (.s "out"))) [.r (.f (.C 37 [.v 0,.v 3,.v 2]))] [],.r (.C 33 [.v 4,.i (.v 1) (.c (.i 2)),.C 32 [.v 2,.v 3]])]
abbrev W8:Fn:={np:=3,G:={N:=["groups","cond","marks","name","word"],kd:=Τ 5 .local,gl:=[37,33,32],df:=Θ},body:=Um}
abbrev Xa:Ê:=
 [.b (.n 3) (.v (.v 1)) [.L (.f (.C 34 [.v 0,.v 3,.v 2])) [.r (.c (.b Ξ))] []],.r (.c (.b Θ))]
abbrev YC:Fn:={np:=3,G:={N:=["groups","conds","marks","cond"],kd:=Τ 4 .local,gl:=[34],df:=Θ},body:=Xa}
abbrev Xb:Ê:=
 [.b (.n 3) (.v (.v 1)) [.L (.C 35 [.v 0,.v 3,.v 2]) [.r (.c (.b Θ))] []],.r (.c (.b Ξ))]
abbrev YD:Fn:={np:=3,G:={N:=["groups","rows","marks","row"],kd:=Τ 4 .local,gl:=[35],df:=Θ},body:=Xb}
abbrev Xc:Ê:=
 [.b (.t [.n 3,.n 4]) (.v (.v 0)) [.L (.a .e (.v 3) (.v 1)) [.r (.C 36 [.v 0,.v 4,.v 2])] []],.r (.c (.b Ξ))]
abbrev YE:Fn:={np:=3,G:={N:=["groups","name","marks","group_name","rows"],kd:=Τ 5 .local,gl:=[36],df:=Θ},body:=Xc}
abbrev b26:Ê:=
 [.L (.f (.C 25 [.v 0,.g 21 (.s "abcdefghijklmnopqrstuvwxyz"),.c (.i 1),.g 23 (.i 12)])) [.n] []]
abbrev d26:Fn:={np:=1,G:={N:=["salt"],kd:=[.local],gl:=[25,21,23],df:=Θ},body:=b26}
abbrev b27:Ê:=
 [.a (.n 3) (.c (.i 0)),.b (.n 4) (.v (.v 0)) [.a (.n 3) (.b .M (.b .a (.b .m (.v 3) (.v 1)) (.B .o [.v 4])) (.v 2))],.r (.v 3)]
abbrev d27:Fn:={np:=3,G:={N:=["salt","factor","modulus","key","sign"],kd:=Τ 5 .local,gl:=[7],df:=Θ},body:=b27}
abbrev b28:Ê:=
 [.e (.C 26 [.v 0]),.a (.n 1) (.b .a (.c (.i 1)) (.C 27 [.v 0,.c (.i 31),.b .s (.g 22 (.i 10007)) (.c (.i 1))])),.a (.n 2) (.C 27 [.v 0,.c (.i 37),.g 22 (.i 10007)]),.r (.t [.v 1,.v 2])]
abbrev d28:Fn:={np:=1,G:={N:=["salt","a","b"],kd:=Τ 3 .local,gl:=[26,27,22],df:=Θ},body:=b28}
abbrev b29:Ê:=
 [.a (.n 2) (.C 28 [.v 0]),.r (.b .M (.b .a (.b .m (.i (.v 2) (.c (.i 0))) (.v 1)) (.i (.v 2) (.c (.i 1)))) (.g 22 (.i 10007)))]
abbrev d29:Fn:={np:=2,G:={N:=["salt","number","keys"],kd:=Τ 3 .local,gl:=[28,22],df:=Θ},body:=b29}
abbrev Xd:Ê:=
 [.a (.n 2) (.c (.i 0)),.b (.t [.n 3,.n 4]) (.v (.v 0)) [.L (.e .L .l (.v 3) (.v 1) (.v 4)) [.r (.b .s (.b .a (.v 2) (.v 1)) (.v 3))] [],.a (.n 2) (.b .s (.b .a (.v 2) (.v 4)) (.v 3))],.r (.c .L)]
abbrev YF:Fn:={np:=2,G:={N:=["run","place","ahead","low","high"],kd:=Τ 5 .local,gl:=[],df:=Θ},body:=Xd}
abbrev Xe:Ê:=
 [.b (.t [.n 2,.n 3]) (.v (.i (.v 0) (.c (.i 0)))) [.L (.a .O (.C 30 [.v 3,.v 1]) (.c .L)) [.r (.v 2)] []],.r (.c .L)]
abbrev YG:Fn:={np:=2,G:={N:=["allot","place","face","run"],kd:=Τ 4 .local,gl:=[30],df:=Θ},body:=Xe}
abbrev b38:Ê:=
 YA
abbrev d38:Fn:={np:=2,G:={N:=["stages","day","share","first_day","places"],kd:=Τ 5 .local,gl:=[],df:=Θ},body:=b38}
abbrev Sa:Ê:=
 [.L (.a .e (.i (.v 0) (.c (.i 0))) (.c (.s "face"))) [.r (.i (.v 0) (.c (.i 1)))] [],.L (.a .e (.i (.v 0) (.c (.i 0))) (.c (.s "share"))) [.r (.I (.a .l (.v 3) (.C 38 [.i (.v 0) (.c (.i 2)),.v 2])) (.i (.v 0) (.c (.i 1))) (.c .L))] [],.r (.C 31 [.v 1,.v 3])]
abbrev Vk:Fn:={np:=4,G:={N:=["outcome","allot","day","place"],kd:=Τ 4 .local,gl:=[38,31],df:=Θ},body:=Sa}
abbrev b40:Ê:=
 [.r (.d {N:=["groups","marks","number","rule"],kd:=[.cell,.cell,.local,.local],gl:=[35],df:=Ξ} [0,2] (.t [.n 2,.n 3]) (.N (.i (.v 1) (.c (.i 2)))) [.C 35 [.v 0,.i (.v 3) (.c (.i 0)),.v 1]] (.v 2))]
abbrev d40:Fn:={np:=3,G:={N:=["groups","switch","marks"],kd:=[.cell,.local,.cell],gl:=[20],df:=Θ},body:=b40}
abbrev Xf:Ê:=
 [.b (.n 4) (.v (.v 2)) [.a (.n 5) (.C 39 [.i (.i (.i (.v 0) (.c (.i 2))) (.v 4)) (.c (.i 1)),.i (.v 0) (.c (.i 3)),.v 1,.v 3]),.L (.a .O (.v 5) (.c .L)) [.r (.t [.v 5,.v 4])] []],.r (.t [.i (.v 0) (.c (.i 1)),.B .l [.i (.v 0) (.c (.i 2))]])]
abbrev YH:Fn:={np:=4,G:={N:=["switch","day","numbers","place","number","face"],kd:=Τ 6 .local,gl:=[39,0],df:=Θ},body:=Xf}
abbrev b42:Ê:=
 [.a (.n 4) (.C 40 [.v 0,.v 1,.i (.v 3) (.c (.i 1))]),.r (.C 41 [.v 1,.v 2,.v 4,.C 29 [.i (.v 1) (.c (.i 0)),.i (.v 3) (.c (.i 0))]])]
abbrev d42:Fn:={np:=4,G:={N:=["groups","switch","day","visitor","numbers"],kd:=Τ 5 .local,gl:=[40,41,29],df:=Θ},body:=b42}
abbrev b66:Ê:=
 [.b (.t [.n 2,.n 3]) (.v (.i (.v 0) (.c (.i 2)))) [.L (.a .e (.v 2) (.v 1)) [.r (.v 3)] []],.n]
abbrev d66:Fn:={np:=2,G:={N:=["house","name","switch_name","entry"],kd:=Τ 4 .local,gl:=[],df:=Θ},body:=b66}
abbrev b67:Ê:=
 [.b (.t [.n 3,.n 4,.n 5,.n 6]) (.v (.i (.v 0) (.c (.i 1)))) tH,.r (.c .L)]
abbrev d67:Fn:={np:=3,G:={N:=["house","visitor","name","holdout_name","salt","places","names"],kd:=Τ 7 .local,gl:=[29],df:=Θ},body:=b67}
abbrev YI:Ê:=
 [.b (.t [.n 5,.n 6]) (.v (.v 3)) tU,.N 4 (.c .L)]
abbrev Uo:Fn:={np:=5,G:={N:=["house","day","visitor","needs","told","name","face"],kd:=Τ 7 .local,gl:=[70],df:=Θ,io:=Δ 4},body:=YI,io:=Θ}
abbrev Xg:Ê:=
 (.a (.n 5) (.C 66 [.v 0,.v 3]))::(.a (.n 6) (.i (.v 5) (.c (.i 0))))::(.L (.i (.v 5) (.c (.i 2))) [.N 4 (.t [.i (.v 6) (.c (.i 1)),.t [.c (.s "stopped")]])] [])::(.a (.n 7) (.C 67 [.v 0,.v 2,.v 3]))::(.L (.a .O (.v 7) (.c .L)) [.N 4 (.t [.i (.v 6) (.c (.i 1)),.t [.c (.s "held"),.v 7]])] [])::(.S 8 68 [.v 0,.v 1,.v 2,.i (.v 5) (.c (.i 1))] 4)::Yu
abbrev Uq:Fn:={np:=5,G:={N:=["house","day","visitor","name","told","entry","switch","holdout_name","needed","decided"],kd:=Τ 10 .local,gl:=[66,67,68,42,0],df:=Θ,io:=Δ 4},body:=Xg,io:=Θ}
abbrev YJ:Ê:=
 [.L (.T Θ (.v 3) (.v 4)) [.c 4 (.v 3) 69 [.v 0,.v 1,.v 2,.v 3]] [],.N 4 (.m (.v 4) (.v 3))]
abbrev Ur:Fn:={np:=5,G:={N:=["house","day","visitor","name","told"],kd:=Τ 5 .local,gl:=[69],df:=Θ,io:=Δ 4},body:=YJ,io:=Θ}
abbrev b71:Ê:=
 [.a (.n 3) .o,.a (.n 4) (.l []),.b (.t [.n 5,.n 6]) (.v (.i (.v 0) (.c (.i 2)))) Vj,.r (.v 4)]
abbrev d71:Fn:={np:=3,G:={N:=["house","day","visitor","told","answers","name","entry","answered"],kd:=Τ 8 .local,gl:=[70],df:=Θ},body:=b71}
abbrev b43:Ê:=
 [.a (.n 3) (.c (.i 0)),.L (.a .G (.B .l [.v 0]) (.c (.i 0))) [.a (.n 3) (.b .M (.i (.v 0) (.b .M (.v 1) (.B .l [.v 0]))) (.c (.i 2147483647)))] [],.a (.n 4) (.b .a (.b .m (.v 3) (.b .a (.c (.i 742938285)) (.b .m (.b .m (.c (.i 9973)) (.v 1)) (.v 1)))) (.b .m (.v 1) (.c (.i 630360016)))),.r (.b .M (.b .f (.b .M (.v 4) (.c (.i 2147483647))) (.c (.i 97))) (.v 2))]
abbrev d43:Fn:={np:=3,G:={N:=["_law_script","_law_k","_law_many","_law_cell","_law_mixed"],kd:=Τ 5 .local,gl:=[0],df:=Θ},body:=b43}
abbrev Xh:Ê:=
 [.a (.n 3) (.c (.s "abcdefghijklmnopqrstuvwxyz")),.a (.n 4) (.C 43 [.v 0,.v 1,.c (.i 26)]),.L (.a .e (.C 43 [.v 0,.b .a (.v 1) (.c (.i 1)),.c (.i 5)]) (.c (.i 0))) [.r (.d {N:=["_law_letters","_law_start","_law_j"],kd:=[.cell,.cell,.local],gl:=[],df:=Ξ} [3,4] (.n 2) (.M (.v 2)) [] (.b .m (.i (.v 0) (.v 1)) (.b .a (.c (.i 1)) (.v 2))))] [],.a (.n 5) (.c (.s "")),.b (.n 6) (.M (.C 43 [.v 0,.b .a (.v 1) (.c (.i 2)),.c (.i 8)])) [.a (.n 5) (.b .a (.v 5) (.i (.v 3) (.C 43 [.v 0,.b .a (.b .a (.v 1) (.c (.i 40))) (.v 6),.c (.i 26)])))],.a (.n 7) (.C 43 [.v 0,.b .a (.v 1) (.c (.i 3)),.b .a (.B .l [.v 5]) (.c (.i 1))]),.a (.n 8) (.i (.l [.c (.i 1),.c (.i 7),.c (.i 25),.c (.i 11)]) (.C 43 [.v 0,.b .a (.v 1) (.c (.i 1)),.c (.i 4)])),.r (.d {N:=["_law_body","_law_at","_law_letters","_law_start","_law_step","_law_j"],kd:=[.cell,.cell,.cell,.cell,.cell,.local],gl:=[],df:=Ξ} [5,7,3,4,8] (.n 5) (.M (.v 2)) [] (.b .a (.b .a (.S (.v 0) Φ (Δ (.v 1))) (.i (.v 2) (.b .M (.b .a (.v 3) (.b .m (.v 4) (.v 5))) (.c (.i 26))))) (.S (.v 0) (Δ (.v 1)) Φ)))]
abbrev YK:Fn:={np:=3,G:={N:=["_law_script","_law_k","_law_many","_law_letters","_law_start","_law_body","_law_j","_law_at","_law_step"],kd:=[.local,.local,.local,.cell,.cell,.cell,.local,.cell,.cell],gl:=[43,15,0],df:=Θ},body:=Xh}
abbrev b45:Ê:=
 [.a (.n 2) (.c (.s "abcdefghijklmnopqrstuvwxyz")),.a (.n 3) (.c (.s "")),.b (.n 4) (.M (.C 43 [.v 0,.v 1,.c (.i 12)])) [.a (.n 3) (.b .a (.v 3) (.i (.v 2) (.C 43 [.v 0,.b .a (.b .a (.v 1) (.c (.i 2))) (.v 4),.c (.i 26)])))],.a (.n 5) (.C 43 [.v 0,.b .a (.v 1) (.c (.i 1)),.b .a (.B .l [.v 3]) (.c (.i 1))]),.r (.b .a (.b .a (.S (.v 3) Φ (Δ (.v 5))) (.i (.v 2) (.C 43 [.v 0,.b .a (.v 1) (.c (.i 14)),.c (.i 26)]))) (.S (.v 3) (Δ (.v 5)) Φ))]
abbrev d45:Fn:={np:=2,G:={N:=["_law_script","_law_k","_law_letters","_law_body","_law_j","_law_at"],kd:=Τ 6 .local,gl:=[15,43,0],df:=Θ},body:=b45}
abbrev b46:Ê:=
 [.a (.n 2) (.c (.i 0)),.a (.n 3) (.c (.i 0)),.b (.n 4) (.v (.v 0)) [.a (.n 2) (.b .M (.b .a (.b .m (.v 2) (.c (.i 31))) (.B .o [.v 4])) (.c (.i 10006))),.a (.n 3) (.b .M (.b .a (.b .m (.v 3) (.c (.i 37))) (.B .o [.v 4])) (.c (.i 10007)))],.r (.b .M (.b .a (.b .m (.b .a (.c (.i 1)) (.v 2)) (.v 1)) (.v 3)) (.c (.i 10007)))]
abbrev d46:Fn:={np:=2,G:={N:=["_law_salt_here","_law_number_here","_law_first","_law_second","_law_sign"],kd:=Τ 5 .local,gl:=[7],df:=Θ},body:=b46}
abbrev Us:Ê:=
 [.a (.n 2) (.C 43 [.v 0,.v 1,.c (.i 6)]),.L (.a .l (.v 2) (.c (.i 2))) [.r (.i (.l [.c (.i 0),.b .p (.c (.i 10)) (.c (.i 9))]) (.v 2))] [],.r (.b .a (.b .m (.C 43 [.v 0,.b .a (.v 1) (.c (.i 1)),.c (.i 31600)]) (.c (.i 31600))) (.C 43 [.v 0,.b .a (.v 1) (.c (.i 2)),.c (.i 31600)]))]
abbrev Xi:Fn:={np:=2,G:={N:=["_law_script","_law_k","_law_way"],kd:=Τ 3 .local,gl:=[43],df:=Θ},body:=Us}
abbrev Xj:Ê:=
 (.a (.n 4) (.b .a (.l [.c (.i 0),.v 3,.b .a (.v 3) (.c (.i 1))]) (.d {N:=["_law_script","_law_k","_law_j"],kd:=[.cell,.cell,.local],gl:=[43],df:=Ξ} [0,1] (.n 2) (.M (.C 43 [.v 0,.b .a (.v 1) (.c (.i 6)),.c (.i 5)])) [] (.C 43 [.v 0,.b .a (.v 1) (.v 2),.c (.i 10007)]))))::(.a (.n 4) (.s (.d {N:=["_law_cut"],kd:=[.local],gl:=[],df:=Ξ} [] (.n 0) (.v (.v 4)) [.a .l (.v 0) (.c (.i 10007))] (.v 0))))::(.a (.n 5) (.k (.v 4) (.b .a (.S (.v 4) (Δ (.c (.i 1))) Φ) (.l [.c (.i 10007)]))))::WV
abbrev d48:Fn:={np:=4,G:={N:=["_law_script","_law_k","_law_faces","_law_place_here","_law_cuts","_law_ranges","_law_runs","_law_j","_law_low","_law_high","_law_run"],kd:=[.cell,.cell,.cell,.local,.local,.local,.cell,.local,.local,.local,.local],gl:=[15,43,4,12,5,17,18,0],df:=Θ},body:=Xj}
abbrev Xk:Ê:=
 [.a (.n 2) (.c (.s "abcdefghijklmnopqrstuvwxyz0123456789")),.a (.n 3) (.v 2),.L (.a .e (.C 43 [.v 0,.v 1,.c (.i 2)]) (.c (.i 0))) [.a (.n 3) (.S (.S (.v 2) (Δ (.C 43 [.v 0,.b .a (.v 1) (.c (.i 1)),.c (.i 34)])) Φ) Φ (Δ (.c (.i 2))))] [],.r (.P .j (.c (.s "")) [.d {N:=["_law_some","_law_script","_law_k","_law_j"],kd:=[.cell,.cell,.cell,.local],gl:=[43,0],df:=Ξ} [3,0,1] (.n 3) (.M (.c (.i 12))) [] (.i (.v 0) (.C 43 [.v 1,.b .a (.b .a (.v 2) (.c (.i 2))) (.v 3),.B .l [.v 0]]))])]
abbrev YL:Fn:={np:=2,G:={N:=["_law_script","_law_k","_law_signs","_law_some"],kd:=[.cell,.cell,.local,.cell],gl:=[43,15],df:=Θ},body:=Xk}
abbrev Ut:Ê:=
 [.a (.n 3) (.S (.v 2) Φ (Δ (.C 43 [.v 0,.v 1,.c (.i 9)]))),.L (.M (.a .n (.v 3) (.c (.s ""))) (.a .e (.C 43 [.v 0,.b .a (.v 1) (.c (.i 1)),.c (.i 3)]) (.c (.i 0)))) [.a (.n 3) (.b .a (.S (.v 3) Φ (Δ (.n (.c (.i 1))))) (.i (.c (.s "abcdefghijklmnopqrstuvwxyz0123456789")) (.C 43 [.v 0,.b .a (.v 1) (.c (.i 2)),.c (.i 36)])))] [],.r (.v 3)]
abbrev Xl:Fn:={np:=3,G:={N:=["_law_script","_law_k","_law_stem_here","_law_text_here"],kd:=Τ 4 .local,gl:=[43],df:=Θ},body:=Ut}
abbrev b51:Ê:=
 [.a (.n 2) (.b .s (.b .a (.b .m (.C 43 [.v 0,.v 1,.c (.i 20000)]) (.c (.i 100000))) (.C 43 [.v 0,.b .a (.v 1) (.c (.i 1)),.c (.i 100000)])) (.b .p (.c (.i 10)) (.c (.i 9)))),.r (.B .M [.B .m [.v 2,.b .s (.c (.i 0)) (.c (.i 999999990))],.c (.i 999999990)])]
abbrev d51:Fn:={np:=2,G:={N:=["_law_script","_law_k","_law_number_here"],kd:=Τ 3 .local,gl:=[43,2,3],df:=Θ},body:=b51}
abbrev Xm:Ê:=
 [.a (.n 3) (.C 43 [.v 0,.v 1,.c (.i 8)]),.L (.a .l (.v 3) (.c (.i 5))) [.r (.b .s (.b .a (.v 2) (.v 3)) (.c (.i 2)))] [],.r (.i (.l [.c (.i 999999999),.b .s (.c (.i 0)) (.c (.i 999999999)),.c (.i 0)]) (.b .s (.v 3) (.c (.i 5))))]
abbrev YM:Fn:={np:=3,G:={N:=["_law_script","_law_k","_law_center_here","_law_way"],kd:=Τ 4 .local,gl:=[43],df:=Θ},body:=Xm}
abbrev Xn:Ê:=
 [.L (.a .e (.C 43 [.v 0,.v 1,.c (.i 2)]) (.c (.i 0))) [.r (.C 52 [.v 0,.b .a (.v 1) (.c (.i 1)),.v 3])] [],.r (.C 50 [.v 0,.b .a (.v 1) (.c (.i 2)),.v 2])]
abbrev YN:Fn:={np:=4,G:={N:=["_law_script","_law_k","_law_stem_here","_law_center_here"],kd:=Τ 4 .local,gl:=[43,52,50],df:=Θ},body:=Xn}
abbrev YO:Ê:=
 (.a (.n 6) (.l [.c (.s "is"),.c (.s "not"),.c (.s "begins"),.c (.s "least"),.c (.s "most"),.c (.s "has"),.c (.s "lacks")]))::(.L (.a .n (.v 3) (.l [])) [.a (.n 6) (.b .a (.v 6) (.l [.c (.s "in"),.c (.s "out")]))] [])::(.a (.n 7) (.i (.v 6) (.C 43 [.v 0,.v 1,.B .l [.v 6]])))::(.a (.n 8) (.i (.v 2) (.C 43 [.v 0,.b .a (.v 1) (.c (.i 1)),.B .l [.v 2]])))::(.a (.n 9) (.l []))::WM
abbrev d54:Fn:={np:=6,G:={N:=["_law_script","_law_k","_law_marks_here","_law_groups_here","_law_stem_here","_law_center_here","_law_words","_law_word","_law_name","_law_things"],kd:=[.cell,.cell,.local,.local,.cell,.cell,.local,.local,.local,.local],gl:=[43,0,15,52],df:=Θ},body:=YO}
abbrev b55:Ê:=
 [.a (.n 5) (.l []),.a (.n 6) (.i (.l [.C 44 [.v 0,.v 1,.c (.i 2)],.B .L [.v 2]]) (.C 43 [.v 0,.b .a (.v 1) (.c (.i 4)),.c (.i 2)])),.b (.n 7) (.M (.C 43 [.v 0,.b .a (.v 1) (.c (.i 5)),.c (.i 3)])) WN,.r (.v 5)]
abbrev d55:Fn:={np:=5,G:={N:=["_law_script","_law_k","_law_marks_here","_law_stem_here","_law_center_here","_law_groups_here","_law_names_here","_law_g","_law_ones","_law_rows"],kd:=[.cell,.cell,.cell,.cell,.cell,.local,.local,.cell,.local,.local],gl:=[44,5,43,15],df:=Θ},body:=b55}
abbrev b56:Ê:=
 [.a (.n 4) (.l []),.a (.n 5) (.B .m [.c (.i 0),.b .s (.v 3) (.C 43 [.v 0,.v 1,.c (.i 4)])]),.b (.n 6) (.M (.C 43 [.v 0,.b .a (.v 1) (.c (.i 1)),.c (.i 4)])) Yq,.r (.v 4)]
abbrev d56:Fn:={np:=4,G:={N:=["_law_script","_law_k","_law_place_here","_law_day","_law_stages_here","_law_first","_law_j","_law_some"],kd:=Τ 8 .local,gl:=[3,43,15],df:=Θ},body:=b56}
abbrev Uu:Ê:=
 [.a (.n 5) (.i (.v 2) (.C 43 [.v 0,.b .a (.v 1) (.c (.i 1)),.B .l [.v 2]])),.a (.n 6) (.C 43 [.v 0,.v 1,.c (.i 3)]),.L (.a .e (.v 6) (.c (.i 0))) [.r (.t [.c (.s "face"),.v 5])] [],.L (.a .e (.v 6) (.c (.i 1))) [.r (.t [.c (.s "share"),.v 5,.C 56 [.v 0,.b .a (.v 1) (.c (.i 2)),.v 3,.v 4]])] [],.r (.t [.c (.s "lot")])]
abbrev Xo:Fn:={np:=5,G:={N:=["_law_script","_law_k","_law_faces","_law_place_here","_law_day","_law_face_here","_law_way"],kd:=Τ 7 .local,gl:=[43,0,56],df:=Θ},body:=Uu}
abbrev b58:Ê:=
 [.a (.n 9) (.l []),.b (.n 10) (.M (.C 43 [.v 0,.v 1,.c (.i 5)])) WQ,.r (.v 9)]
abbrev d58:Fn:={np:=9,G:={N:=["_law_script","_law_k","_law_marks_here","_law_groups_here","_law_faces","_law_stem_here","_law_center_here","_law_place_here","_law_day","_law_rules_here","_law_i","_law_conds","_law_j"],kd:=Τ 13 .local,gl:=[15,43,54,57],df:=Θ},body:=b58}
abbrev b59:Ê:=
 [.a (.n 5) (.l []),.b (.n 6) (.M (.B .l [.v 2])) WR,.r (.v 5)]
abbrev d59:Fn:={np:=5,G:={N:=["_law_script","_law_k","_law_names_here","_law_stem_here","_law_center_here","_law_marks_here","_law_j","_law_way","_law_thing_here"],kd:=Τ 9 .local,gl:=[15,0,43,52,50],df:=Θ},body:=b59}
abbrev b72:Ê:=
 [.a (.n 6) (.S (.v 2) (Δ (.b .a (.p (.v 2) (.v 3)) (.c (.i 1)))) Φ),.a (.n 7) (.l []),.b (.n 8) (.M (.C 43 [.v 0,.v 1,.c (.i 3)])) [.L (.a .n (.v 6) (.l [])) [.a (.n 9) (.i (.v 6) (.C 43 [.v 0,.b .a (.b .a (.v 1) (.c (.i 1))) (.v 8),.B .l [.v 6]])),.A 7 (.t [.i (.v 4) (.v 9),.i (.v 5) (.C 43 [.v 0,.b .a (.b .a (.v 1) (.c (.i 3))) (.v 8),.B .l [.v 5]])])] []],.r (.v 7)]
abbrev d72:Fn:={np:=6,G:={N:=["_law_script","_law_k","_law_order","_law_s","_law_names_here","_law_faces","_law_behind","_law_needs_here","_law_j","_law_other"],kd:=Τ 10 .local,gl:=[15,43,0],df:=Θ},body:=b72}
abbrev Uv:Ê:=
 [.a (.n 5) (.C 44 [.v 0,.v 1,.c (.i 3)]),.L (.M (.a .G (.B .l [.v 3]) (.c (.i 2))) (.a .e (.C 43 [.v 0,.b .a (.v 1) (.c (.i 4)),.c (.i 2)]) (.c (.i 0)))) [.a (.n 5) (.h (.v 3))] [],.a (.n 6) (.l []),.b (.n 7) (.M (.C 43 [.v 0,.b .a (.v 1) (.c (.i 5)),.c (.i 4)])) [.a (.n 8) (.i (.v 2) (.C 43 [.v 0,.b .a (.b .a (.v 1) (.c (.i 6))) (.v 7),.c (.i 3)])),.a (.n 9) (.C 46 [.v 8,.v 4]),.a (.n 10) (.d {N:=["_law_script","_law_k","_law_h","_law_j","_law_name"],kd:=[.cell,.cell,.cell,.local,.local],gl:=[43],df:=Ξ} [0,1,7] (.t [.n 3,.n 4]) (.N (.v 3)) [.a .e (.C 43 [.v 0,.b .a (.b .a (.b .a (.v 1) (.c (.i 50))) (.b .m (.c (.i 20)) (.v 2))) (.v 3),.c (.i 2)]) (.c (.i 0))] (.v 4)),.L (.a .e (.C 43 [.v 0,.b .a (.b .a (.v 1) (.c (.i 10))) (.v 7),.c (.i 3)]) (.c (.i 0))) [.a (.n 10) (.c .L)] [],.A 6 (.t [.i (.v 5) (.v 7),.v 8,.i (.l [.c (.i 0),.v 9,.b .a (.v 9) (.c (.i 1)),.c (.i 10007)]) (.C 43 [.v 0,.b .a (.b .a (.v 1) (.c (.i 14))) (.v 7),.c (.i 4)]),.v 10])],.r (.v 6)]
abbrev Xp:Fn:={np:=5,G:={N:=["_law_script","_law_k","_law_salts","_law_names_here","_law_number_here","_law_own","_law_found","_law_h","_law_salt_here","_law_place_here","_law_some"],kd:=[.cell,.cell,.local,.local,.local,.local,.local,.cell,.local,.local,.local],gl:=[44,0,43,5,18,15,46,20],df:=Θ},body:=Uv}
abbrev b74:Ê:=
 [.a (.n 3) (.C 44 [.v 0,.c (.i 0),.c (.i 3)]),.a (.n 4) (.C 44 [.v 0,.c (.i 50),.c (.i 4)]),.a (.n 5) (.C 49 [.v 0,.c (.i 130)]),.a (.n 6) (.C 51 [.v 0,.c (.i 145)]),.a (.n 7) (.C 55 [.v 0,.c (.i 150),.v 3,.v 5,.v 6]),.a (.n 8) (.d {N:=["_law_group"],kd:=[.local],gl:=[],df:=Ξ} [] (.n 0) (.v (.v 7)) [] (.i (.v 0) (.c (.i 0)))),.a (.n 9) (.l [.C 45 [.v 0,.c (.i 100)],.C 45 [.v 0,.c (.i 115)],.C 45 [.v 0,.c (.i 285)]]),.a (.n 10) (.b .a (.c (.i 1)) (.C 43 [.v 0,.c (.i 148),.c (.i 5)])),.a (.n 11) (.C 44 [.v 0,.c (.i 400),.v 10]),.a (.n 12) (.j (.v 10)),.a (.n 13) (.l []),.b (.n 14) (.M (.v 10)) WX,.a (.n 15) (.l []),.b (.n 16) (.M (.v 10)) Vi,.r (.t [.v 7,.C 73 [.v 0,.c (.i 500),.v 9,.v 11,.v 1],.v 15])]
abbrev d74:Fn:={np:=3,G:={N:=["_law_script","_law_number_here","_law_day","_law_marks_here","_law_faces","_law_stem_here","_law_center_here","_law_groups_here","_law_told","_law_salts","_law_many","_law_names_here","_law_left","_law_order","_law_j","_law_switches","_law_s","_law_k","_law_salt_here","_law_place_here","_law_rules_here","_law_switch","_law_needs_here"],kd:=Τ 23 .local,gl:=[44,49,51,55,45,43,5,15,0,46,58,48,72,73],df:=Θ},body:=b74}
abbrev b60:Ê:=
 Yy
abbrev QZ:Fn:={np:=3,G:={N:=["_law_groups_here","_law_cond_here","_law_marks_here","_law_name","_law_word","_law_things","_law_inside","_law_own","_law_rows","_law_thing_here","_law_value"],kd:=[.local,.local,.cell,.local,.local,.local,.local,.local,.local,.cell,.local],gl:=[10,14,11,8],df:=Θ},body:=b60}
abbrev b61:Ê:=
 YA
abbrev d61:Fn:={np:=2,G:={N:=["_law_stages_here","_law_day","_law_share_here","_law_begin","_law_places"],kd:=Τ 5 .local,gl:=[],df:=Θ},body:=b61}
abbrev b62:Ê:=
 W3
abbrev Uw:Fn:={np:=4,G:={N:=["_law_outcome_here","_law_allot_here","_law_place_here","_law_day","_law_face_here","_law_run","_law_low","_law_high"],kd:=Τ 8 .local,gl:=[61],df:=Θ},body:=b62}
abbrev b63:Ê:=
 bDc
abbrev Ux:Fn:={np:=4,G:={N:=["_law_groups_here","_law_switch","_law_day","_law_visitor","_law_salt_here","_law_rest","_law_rules_here","_law_allot_here","_law_number_here","_law_rule","_law_face_here"],kd:=[.cell,.local,.local,.cell,.local,.local,.local,.local,.local,.local,.local],gl:=[20,9,62,46,0],df:=Θ},body:=b63}
abbrev b75:Ê:=
 [.b (.t [.n 2,.n 3]) (.v (.i (.v 0) (.c (.i 2)))) [.L (.a .e (.v 2) (.v 1)) [.r (.v 3)] []],.r (.c .L)]
abbrev d75:Fn:={np:=2,G:={N:=["_law_house_here","_law_name","_law_own","_law_entry_here"],kd:=Τ 4 .local,gl:=[],df:=Θ},body:=b75}
abbrev b76:Ê:=
 bLa
abbrev Uy:Fn:={np:=4,G:={N:=["_law_house_here","_law_day","_law_visitor","_law_name","_law_switch","_law_needs_here","_law_stopped","_law_own","_law_salt_here","_law_places","_law_names_here","_law_other","_law_face_here","_law_number_here"],kd:=Τ 14 .local,gl:=[75,46,76,63,0],df:=Θ},body:=b76}
abbrev b64:Ê:=
 L2.Fr.QW 64
abbrev d64:Fn:={np:=2,G:={N:=["_law_found","_law_due"],kd:=[.local,.local],gl:=[14,16,11,8,6,5,0,9,17],df:=Θ},body:=b64}
abbrev b65:Ê:=
 L2.Fr.QX 65 "_law_part"
abbrev d65:Fn:={np:=1,G:={N:=["_law_thing_here"],kd:=[.local],gl:=[14,5,6],df:=Θ},body:=b65}
abbrev b77:Ê:=
 [.a (.n 1) (.C 47 [.v 0,.c (.i 120)]),.a (.n 2) (.C 43 [.v 0,.c (.i 147),.c (.i 1000)]),.a (.n 3) (.C 74 [.v 0,.v 1,.v 2]),Yv,.a (.n 4) (.C 44 [.v 0,.c (.i 0),.c (.i 3)]),.a (.n 5) (.C 49 [.v 0,.c (.i 130)]),.a (.n 6) (.C 51 [.v 0,.c (.i 145)]),.a (.n 7) (.C 65 [.v 3]),.b (.n 8) (.M (.c (.i 3))) W0,.r (.C 64 [.v 7,.v 3])]
abbrev YQ:Fn:={np:=1,G:={N:=["_law_script","_law_number_here","_law_day","_law_house_here","_law_marks_here","_law_stem_here","_law_center_here","_law_handed","_law_j","_law_who","_law_visitor","_law_due","_law_name","_law_entry_here","_law_face_here","_law_reason","_law_found"],kd:=Τ 17 .local,gl:=[47,43,74,44,49,51,65,15,59,76,71,64],df:=Θ},body:=b77}
abbrev T:Tb:=λn=>match n with
 |24=>Δ d24
 |25=>Δ d25
 |32=>Δ YB
 |33=>Δ d33
 |34=>Δ W8
 |35=>Δ YC
 |36=>Δ YD
 |37=>Δ YE
 |26=>Δ d26
 |27=>Δ d27
 |28=>Δ d28
 |29=>Δ d29
 |30=>Δ YF
 |31=>Δ YG
 |38=>Δ d38
 |39=>Δ Vk
 |40=>Δ d40
 |41=>Δ YH
 |42=>Δ d42
 |66=>Δ d66
 |67=>Δ d67
 |68=>Δ Uo
 |69=>Δ Uq
 |70=>Δ Ur
 |71=>Δ d71
 |43=>Δ d43
 |44=>Δ YK
 |45=>Δ d45
 |46=>Δ d46
 |47=>Δ Xi
 |48=>Δ d48
 |49=>Δ YL
 |50=>Δ Xl
 |51=>Δ d51
 |52=>Δ YM
 |53=>Δ YN
 |54=>Δ d54
 |55=>Δ d55
 |56=>Δ d56
 |57=>Δ Xo
 |58=>Δ d58
 |59=>Δ d59
 |72=>Δ d72
 |73=>Δ Xp
 |74=>Δ d74
 |60=>Δ QZ
 |61=>Δ d61
 |62=>Δ Uw
 |63=>Δ Ux
 |75=>Δ d75
 |76=>Δ Uy
 |64=>Δ d64
 |65=>Δ d65
 |77=>Δ YQ
 |_=>Φ
def c24:ip Z d24 ["thing"] (top 6)=Θ:=∅
def c25:ip Z d25 ["thing","signs","least","most"] (top 7)=Θ:=∅
def c32:ip Z YB ["marks","name"] (top 9)=Θ:=∅
def c33:ip Z d33 ["word","things","mark"] (top 11)=Θ:=∅
def c34:ip Z W8 ["groups","cond","marks"] (top 12)=Θ:=∅
def c35:ip Z YC ["groups","conds","marks"] (top 13)=Θ:=∅
def c36:ip Z YD ["groups","rows","marks"] (top 14)=Θ:=∅
def c37:ip Z YE ["groups","name","marks"] (top 15)=Θ:=∅
def c26:ip Z d26 ["salt"] (top 19)=Θ:=∅
def c27:ip Z d27 ["salt","factor","modulus"] (top 20)=Θ:=∅
def c28:ip Z d28 ["salt"] (top 21)=Θ:=∅
def c29:ip Z d29 ["salt","number"] (top 22)=Θ:=∅
def c30:ip Z YF ["run","place"] (top 24)=Θ:=∅
def c31:ip Z YG ["allot","place"] (top 26)=Θ:=∅
def c38:ip Z d38 ["stages","day"] (top 28)=Θ:=∅
def c39:ip Z Vk ["outcome","allot","day","place"] (top 29)=Θ:=∅
def c40:ip Z d40 ["groups","switch","marks"] (top 30)=Θ:=∅
def c41:ip Z YH ["switch","day","numbers","place"] (top 31)=Θ:=∅
def c42:ip Z d42 ["groups","switch","day","visitor"] (top 32)=Θ:=∅
def c66:ip Z d66 ["house","name"] (top 34)=Θ:=∅
def c67:ip Z d67 ["house","visitor","name"] (top 35)=Θ:=∅
def c68:kX Z Uo ["house","day","visitor","needs","told"] (top 36)=Θ:=∅
def c69:kX Z Uq ["house","day","visitor","name","told"] (top 37)=Θ:=∅
def c70:kX Z Ur ["house","day","visitor","name","told"] (top 38)=Θ:=∅
def c71:ip Z d71 ["house","day","visitor"] (top 39)=Θ:=∅
def c43:ip Z d43 ["_law_script","_law_k","_law_many"] (top 41)=Θ:=∅
def c44:ip Z YK ["_law_script","_law_k","_law_many"] (top 42)=Θ:=∅
def c45:ip Z d45 ["_law_script","_law_k"] (top 43)=Θ:=∅
def c46:ip Z d46 ["_law_salt_here","_law_number_here"] (top 44)=Θ:=∅
def c47:ip Z Xi ["_law_script","_law_k"] (top 45)=Θ:=∅
def c48:ip Z d48 ["_law_script","_law_k","_law_faces","_law_place_here"] (top 46)=Θ:=∅
def c49:ip Z YL ["_law_script","_law_k"] (top 47)=Θ:=∅
def c50:ip Z Xl ["_law_script","_law_k","_law_stem_here"] (top 48)=Θ:=∅
def c51:ip Z d51 ["_law_script","_law_k"] (top 49)=Θ:=∅
def c52:ip Z YM ["_law_script","_law_k","_law_center_here"] (top 50)=Θ:=∅
def c53:ip Z YN ["_law_script","_law_k","_law_stem_here","_law_center_here"] (top 51)=Θ:=∅
def c54:ip Z d54 ["_law_script","_law_k","_law_marks_here","_law_groups_here","_law_stem_here","_law_center_here"] (top 52)=Θ:=∅
def c55:ip Z d55 ["_law_script","_law_k","_law_marks_here","_law_stem_here","_law_center_here"] (top 53)=Θ:=∅
def c56:ip Z d56 ["_law_script","_law_k","_law_place_here","_law_day"] (top 54)=Θ:=∅
def c57:ip Z Xo ["_law_script","_law_k","_law_faces","_law_place_here","_law_day"] (top 55)=Θ:=∅
def c58:ip Z d58 ["_law_script","_law_k","_law_marks_here","_law_groups_here","_law_faces","_law_stem_here","_law_center_here","_law_place_here","_law_day"] (top 56)=Θ:=∅
def c59:ip Z d59 ["_law_script","_law_k","_law_names_here","_law_stem_here","_law_center_here"] (top 57)=Θ:=∅
def c72:ip Z d72 ["_law_script","_law_k","_law_order","_law_s","_law_names_here","_law_faces"] (top 58)=Θ:=∅
def c73:ip Z Xp ["_law_script","_law_k","_law_salts","_law_names_here","_law_number_here"] (top 59)=Θ:=∅
def c74:ip Z d74 ["_law_script","_law_number_here","_law_day"] (top 60)=Θ:=∅
def c60:ip Z QZ ["_law_groups_here","_law_cond_here","_law_marks_here"] (top 61)=Θ:=∅
def c61:ip Z d61 ["_law_stages_here","_law_day"] (top 62)=Θ:=∅
def c62:ip Z Uw ["_law_outcome_here","_law_allot_here","_law_place_here","_law_day"] (top 63)=Θ:=∅
def c63:ip Z Ux ["_law_groups_here","_law_switch","_law_day","_law_visitor"] (top 64)=Θ:=∅
def c75:ip Z d75 ["_law_house_here","_law_name"] (top 65)=Θ:=∅
def c76:ip Z Uy ["_law_house_here","_law_day","_law_visitor","_law_name"] (top 66)=Θ:=∅
def c64:ip Z d64 ["_law_found","_law_due"] (top 67)=Θ:=∅
def c65:ip Z d65 ["_law_thing_here"] (top 68)=Θ:=∅
def c77:ip Z YQ ["_law_script"] (top 69)=Θ:=∅
def GH:∀n x,Z.name n=Δ x->x≠"__name__"/\(x == ("__debug__" : Str))=Ξ:=by
 let h:(iU++Z.nm).all (λx=>!(x == "__name__")&&!(x == "__debug__"))=Θ:=∅
 intro n x H;have:=M_.mp h x (Z_ H);simpa using this
@[elab_as_elim]def Nd {P:Í->Prop}  (u:Í) (e:u.length=n+1) (h:∀(x:Ψ) (u:Í),u.length=n->P (x::u)):P u:=by
 cases u with
 |nil=>cases e
 |cons x u=>exact h x u (Nat.succ.inj e)
@[elab_as_elim]def Uz {P:Í->Prop} (u:Í) (e:u.length=0) (h:P []):P u:=by
 cases u with
 |nil=>exact h
 |cons x u=>cases e
def ln1 {ps:Æ}(h:∀x0:Ψ,bindArgs fd ⟨[x0],[]⟩=pure (ps.zip [x0]))(us:Í)(e:us.length=1):bindArgs fd ⟨us,[]⟩=pure (ps.zip us):=Nd us e λx0 us e=>Uz us e (h x0)
def ln2 {ps:Æ}(h:∀x0 x1:Ψ,bindArgs fd ⟨[x0,x1],[]⟩=pure (ps.zip [x0,x1]))(us:Í)(e:us.length=2):bindArgs fd ⟨us,[]⟩=pure (ps.zip us):=Nd us e λx0 us e=>Nd us e λx1 us e=>Uz us e (h x0 x1)
def ln3 {ps:Æ}(h:∀x0 x1 x2:Ψ,bindArgs fd ⟨[x0,x1,x2],[]⟩=pure (ps.zip [x0,x1,x2]))(us:Í)(e:us.length=3):bindArgs fd ⟨us,[]⟩=pure (ps.zip us):=Nd us e λx0 us e=>Nd us e λx1 us e=>Nd us e λx2 us e=>Uz us e (h x0 x1 x2)
def ln4 {ps:Æ}(h:∀x0 x1 x2 x3:Ψ,bindArgs fd ⟨[x0,x1,x2,x3],[]⟩=pure (ps.zip [x0,x1,x2,x3]))(us:Í)(e:us.length=4):bindArgs fd ⟨us,[]⟩=pure (ps.zip us):=Nd us e λx0 us e=>Nd us e λx1 us e=>Nd us e λx2 us e=>Nd us e λx3 us e=>Uz us e (h x0 x1 x2 x3)
def ln5 {ps:Æ}(h:∀x0 x1 x2 x3 x4:Ψ,bindArgs fd ⟨[x0,x1,x2,x3,x4],[]⟩=pure (ps.zip [x0,x1,x2,x3,x4]))(us:Í)(e:us.length=5):bindArgs fd ⟨us,[]⟩=pure (ps.zip us):=Nd us e λx0 us e=>Nd us e λx1 us e=>Nd us e λx2 us e=>Nd us e λx3 us e=>Nd us e λx4 us e=>Uz us e (h x0 x1 x2 x3 x4)
def ln6 {ps:Æ}(h:∀x0 x1 x2 x3 x4 x5:Ψ,bindArgs fd ⟨[x0,x1,x2,x3,x4,x5],[]⟩=pure (ps.zip [x0,x1,x2,x3,x4,x5]))(us:Í)(e:us.length=6):bindArgs fd ⟨us,[]⟩=pure (ps.zip us):=Nd us e λx0 us e=>Nd us e λx1 us e=>Nd us e λx2 us e=>Nd us e λx3 us e=>Nd us e λx4 us e=>Nd us e λx5 us e=>Uz us e (h x0 x1 x2 x3 x4 x5)
def ln9 {ps:Æ}(h:∀x0 x1 x2 x3 x4 x5 x6 x7 x8:Ψ,bindArgs fd ⟨[x0,x1,x2,x3,x4,x5,x6,x7,x8],[]⟩=pure (ps.zip [x0,x1,x2,x3,x4,x5,x6,x7,x8]))(us:Í)(e:us.length=9):bindArgs fd ⟨us,[]⟩=pure (ps.zip us):=Nd us e λx0 us e=>Nd us e λx1 us e=>Nd us e λx2 us e=>Nd us e λx3 us e=>Nd us e λx4 us e=>Nd us e λx5 us e=>Nd us e λx6 us e=>Nd us e λx7 us e=>Nd us e λx8 us e=>Uz us e (h x0 x1 x2 x3 x4 x5 x6 x7 x8)
def dfo {st:Stmt}  {kV:Ψ}(c:ip Z fn ps st=Θ)(hT:T f=Δ fn)(b:∀(kV dc pm:Ψ)(an:Option Ω)(cd ct:Ψ)(us:Í),us.length=ps.length->bindArgs (W.fnOf x x (jI st) (jb st) (iG st) .none kV dc pm an cd ct) ⟨us,[]⟩=pure (ps.zip us))(X:K.In h)(G:h.Ns Η mg)
  (a:W.nsIn K Η x=Δ (Δ (.ref fa))) (l:K.lookup fa=Δ ⟨oc,od,.func (W.fnOf x x (jI st) (jb st) (iG st) .none kV dc pm an cd ct),sl⟩) (e:W.codeIn K cd x=Θ) (k:W.keepIn K (.ref fa)=Θ):LN K mg Z T f x:=⟨fn,st,fa,_,ps,hT,nV l e k,W.mg_of X G a,(nV l e k).binds b,sJ c⟩
def GI {st:Stmt}  {kV:Ψ}(c:kX Z fn p st=Θ)(H:T f=Δ fn)(b:∀(kV g pm:Ψ)(A:Option Ω)(C ct:Ψ)(u:Í),u.length=p.length->bindArgs (W.fnOf x x (jI st) (jb st) (iG st) .none kV g pm A C ct) ⟨u,[]⟩=pure (p.zip u))(X:K.In h)(G:h.Ns Η mg)
  (a:W.nsIn K Η x=Δ (Δ (.ref F))) (l:K.lookup F=Δ ⟨i,O,.func (W.fnOf x x (jI st) (jb st) (iG st) .none kV g pm A C ct),sl⟩) (e:W.codeIn K C x=Θ) (k:W.keepIn K (.ref F)=Θ):OZ K mg Z T f x:=⟨fn,st,F,_,p,H,nV l e k,W.mg_of X G a,(nV l e k).binds b,zZ c⟩
abbrev GJ:Nat:=77
abbrev CY:Str:="_law_script"
def all_mk {l:PySem.W.OpenLaw}  (X:K.In h)(G:h.Ns Η mg)(hfa:mg "law" = Δ (.ref fa))
  (t24:LN K mg Z T 24 "is_whole")
  (t25:LN K mg Z T 25 "is_text_of")
  (t32:LN K mg Z T 32 "mark_of")
  (t33:LN K mg Z T 33 "mark_holds")
  (t34:LN K mg Z T 34 "cond_holds")
  (t35:LN K mg Z T 35 "conds_hold")
  (t36:LN K mg Z T 36 "in_rows")
  (t37:LN K mg Z T 37 "in_group")
  (t26:LN K mg Z T 26 "check_salt")
  (t27:LN K mg Z T 27 "folded")
  (t28:LN K mg Z T 28 "lot_keys")
  (t29:LN K mg Z T 29 "place_of")
  (t30:LN K mg Z T 30 "run_index")
  (t31:LN K mg Z T 31 "face_at")
  (t38:LN K mg Z T 38 "share_at")
  (t39:LN K mg Z T 39 "outcome_face")
  (t40:LN K mg Z T 40 "rules_holding")
  (t41:LN K mg Z T 41 "decided_among")
  (t42:LN K mg Z T 42 "decide")
  (t66:LN K mg Z T 66 "entry_of")
  (t67:LN K mg Z T 67 "first_holdout")
  (t68:OZ K mg Z T 68 "first_unmet_need")
  (t69:OZ K mg Z T 69 "reckoned_answer")
  (t70:OZ K mg Z T 70 "answer_once")
  (t71:LN K mg Z T 71 "answer_all")
  (t43:LN K mg Z T 43 "_law_draw")
  (t44:LN K mg Z T 44 "_law_names")
  (t45:LN K mg Z T 45 "_law_salt")
  (t46:LN K mg Z T 46 "_law_place")
  (t47:LN K mg Z T 47 "_law_visitor_number")
  (t48:LN K mg Z T 48 "_law_allot")
  (t49:LN K mg Z T 49 "_law_stem")
  (t50:LN K mg Z T 50 "_law_text")
  (t51:LN K mg Z T 51 "_law_center")
  (t52:LN K mg Z T 52 "_law_number")
  (t53:LN K mg Z T 53 "_law_thing")
  (t54:LN K mg Z T 54 "_law_cond")
  (t55:LN K mg Z T 55 "_law_groups")
  (t56:LN K mg Z T 56 "_law_stages")
  (t57:LN K mg Z T 57 "_law_outcome")
  (t58:LN K mg Z T 58 "_law_rules")
  (t59:LN K mg Z T 59 "_law_marks")
  (t72:LN K mg Z T 72 "_law_needs")
  (t73:LN K mg Z T 73 "_law_holdouts")
  (t74:LN K mg Z T 74 "_law_house")
  (t60:LN K mg Z T 60 "_law_cond_holds")
  (t61:LN K mg Z T 61 "_law_share")
  (t62:LN K mg Z T 62 "_law_face")
  (t63:LN K mg Z T 63 "_law_decided")
  (t75:LN K mg Z T 75 "_law_entry")
  (t76:LN K mg Z T 76 "_law_answer")
  (t64:LN K mg Z T 64 "_law_same")
  (t65:LN K mg Z T 65 "_law_copy")
  (a77:W.nsIn K Η "law" = Δ (Δ (.ref f77))) (l77:K.lookup f77=Δ ⟨aht,ahu,.func (W.fnOf "law" "law" (jI (top 69)) (jb (top 69)) (iG (top 69)) .none abD abE abF abG Xq abH),ahv⟩) (e77:W.codeIn K Xq "law" = Θ) (k77:W.keepIn K (.ref f77)=Θ)
  (q21:W.nsIn K Η "LETTERS" = Δ (Δ (.str "abcdefghijklmnopqrstuvwxyz" t21)))
  (q22:W.nsIn K Η "PLACES" = Δ (Δ (.int 10007 t22)))
  (q23:W.nsIn K Η "SALT_LENGTH" = Δ (Δ (.int 12 t23)))
  (z0:W.nsIn K Η "len" = Δ Φ)
  (z1:W.nsIn K Η "sum" = Δ Φ)
  (z2:W.nsIn K Η "min" = Δ Φ)
  (z3:W.nsIn K Η "max" = Δ Φ)
  (z4:W.nsIn K Η "sorted" = Δ Φ)
  (z5:W.nsIn K Η "list" = Δ Φ)
  (z6:W.nsIn K Η "tuple" = Δ Φ)
  (z7:W.nsIn K Η "ord" = Δ Φ)
  (z8:W.nsIn K Η "int" = Δ Φ)
  (z9:W.nsIn K Η "all" = Δ Φ)
  (z10:W.nsIn K Η "any" = Δ Φ)
  (z11:W.nsIn K Η "str" = Δ Φ)
  (z12:W.nsIn K Η "set" = Δ Φ)
  (z13:W.nsIn K Η "abs" = Δ Φ)
  (z14:W.nsIn K Η "isinstance" = Δ Φ)
  (z15:W.nsIn K Η "range" = Δ Φ)
  (z16:W.nsIn K Η "bool" = Δ Φ)
  (z17:W.nsIn K Η "zip" = Δ Φ)
  (z18:W.nsIn K Η "reversed" = Δ Φ)
  (z19:W.nsIn K Η "dict" = Δ Φ)
  (z20:W.nsIn K Η "enumerate" = Δ Φ) :
  ∃fd:Ο,(∀(s:Α) (v:Ψ),BindsTo s fd ⟨[v],[]⟩ [(CY,v)])/\∀base:Heap,K.In base->base.Ns Η mg->Ng l.prog w K mg base (OY l.prog w) (40+2+1) fa fd [CY] (Vf K (ba T (40+1)) GJ [CY]):=by
 let e:=hfa.symm.trans (PySem.W.mg_of X G a77);cases e;let t:Oi K mg Z T:=by
  constructor
  case SQ=>
   exact GH
  case blt=>
   exact λn x hx=>by
    let key:∀y∈iU,mg y=Φ:=by
     intro y hy;simp only[iU,k_,P_,or_false]at hy;rcases hy with rfl|rfl|rfl|rfl|rfl|rfl|rfl|rfl|rfl|rfl|rfl|rfl|rfl|rfl|rfl|rfl|rfl|rfl|rfl|rfl|rfl
     ·exact K_ X G z0
     ·exact K_ X G z1
     ·exact K_ X G z2
     ·exact K_ X G z3
     ·exact K_ X G z4
     ·exact K_ X G z5
     ·exact K_ X G z6
     ·exact K_ X G z7
     ·exact K_ X G z8
     ·exact K_ X G z9
     ·exact K_ X G z10
     ·exact K_ X G z11
     ·exact K_ X G z12
     ·exact K_ X G z13
     ·exact K_ X G z14
     ·exact K_ X G z15
     ·exact K_ X G z16
     ·exact K_ X G z17
     ·exact K_ X G z18
     ·exact K_ X G z19
     ·exact K_ X G z20
    exact key x (Z_ hx)
  case cst=>
   exact λn d x hm hx=>by
    let T9:(n,d)∈([(21,(.s "abcdefghijklmnopqrstuvwxyz")),(22,(.i 10007)),(23,(.i 12))]:List (Nat×D)):=hm;simp only[k_,P_,or_false,Prod.mk.injEq]at T9;rcases T9 with⟨rfl,rfl⟩|⟨rfl,rfl⟩|⟨rfl,rfl⟩
    ·cases hx;exact⟨_,.s _,PySem.W.mg_of X G q21,⟨_,rfl⟩,λ_ _=>.k _⟩
    ·cases hx;exact⟨_,.i _,PySem.W.mg_of X G q22,⟨_,rfl⟩,λ_ _=>.c _⟩
    ·cases hx;exact⟨_,.i _,PySem.W.mg_of X G q23,⟨_,rfl⟩,λ_ _=>.c _⟩
  case fns=>
   exact λf hf x hx=>by
    let Pz:f∈([24,25,32,33,34,35,36,37,26,27,28,29,30,31,38,39,40,41,42,66,67,71,43,44,45,46,47,48,49,50,51,52,53,54,55,56,57,58,59,72,73,74,60,61,62,63,75,76,64,65,77]:Ç):=hf;simp only[k_,P_,or_false]at Pz;rcases Pz with rfl|rfl|rfl|rfl|rfl|rfl|rfl|rfl|rfl|rfl|rfl|rfl|rfl|rfl|rfl|rfl|rfl|rfl|rfl|rfl|rfl|rfl|rfl|rfl|rfl|rfl|rfl|rfl|rfl|rfl|rfl|rfl|rfl|rfl|rfl|rfl|rfl|rfl|rfl|rfl|rfl|rfl|rfl|rfl|rfl|rfl|rfl|rfl|rfl|rfl|rfl<;>cases hx<;>first|assumption|exact dfo c77 rfl (λ_ _ _ _ _ _=>ln1 λ_=>rfl) X G a77 l77 e77 k77
  case Nk=>
   exact λf hf x hx=>by
    let Pz:f∈([70,68,69]:Ç):=hf;simp only[k_,P_,or_false]at Pz;rcases Pz with rfl|rfl|rfl<;>cases hx<;>assumption
  case Nm=>
   exact λf hf=>absurd (show f∈([]:Ç) from hf) (by simp)
 exact⟨PySem.W.fnOf "law" "law" (jI (top 69)) (jb (top 69)) (iG (top 69)) .none abD abE abF abG Xq abH,λs v=>.of_eq rfl,λbase _ _=>Gj t 40 nofun (f:=77) (fn:=YQ) rfl (nV (st:=top 69) l77 e77 k77) (sJ c77)⟩
end Law
namespace L2
open PySem PySem.Spec PyProof.Rows PySem.SeqAt
namespace Fr
abbrev one (c:Nat):Str:=⟨#[c]⟩
abbrev LQ (cs:Ç):Str:=⟨cs.toArray⟩
def low (c:Nat):Prop:=97<=c/\c<=122
def Aw:(Ρ "abcdefghijklmnopqrstuvwxyz").cps.toList=List.range' 97 26:=∅
def vP:(Ρ "abcdefghijklmnopqrstuvwxyz").length=26:=∅
def oP (H:0<=i)(h:i < 26):iw (.s "abcdefghijklmnopqrstuvwxyz") (.i i)=.ok (.s (one (97+i.toNat))):=by
 rw[WL H (by rw[vP];exact h) (by rw[vP];decide),Aw];have:(List.range' 97 26).getD i.toNat 0=97+i.toNat:=by rw[aam,List.getElem?_range' ⋯];show 97+1*i.toNat=_;omega
 rw[this];rfl
def jy (cs:Ç):(LQ cs).length=cs.length:=by unfold LQ Str.length;simp
def qN (c:Nat):(one c).length=1:=rfl
def sP (H:0<=j)(h:j<=cs.length):Txt.slice (LQ cs) Φ (Δ j)=LQ (cs.take j.toNat):=by
 have:=StrLaws.sliceText_to (x:=LQ cs) (j:=j) ⟨H,by show j<=(cs.toArray.toList.length:Nat);simpa using h⟩;refine this.trans ?_;show(⟨((cs.toArray.toList.drop 0).take (j - 0).toNat).toArray⟩:Str)=⟨(cs.take j.toNat).toArray⟩
 rw[List.toList_toArray,List.drop_zero,Int.sub_zero]
def oQ (H:0<=i)(h:i<=cs.length):Txt.slice (LQ cs) (Δ i) Φ=LQ (cs.drop i.toNat):=by
 have:=StrLaws.sliceText_from (x:=LQ cs) (i:=i) ⟨H,by show i<=(cs.toArray.toList.length:Nat);simpa using h⟩;refine this.trans ?_;show(⟨((cs.toArray.toList.drop i.toNat).take ((cs.toArray.toList.length:Int) - i).toNat).toArray⟩:Str)=⟨(cs.drop i.toNat).toArray⟩
 rw[List.toList_toArray,List.take_of_length_le (by rw[aas];omega)]
def CZ (a b:Ç):LQ a++LQ b=LQ (a++b):=by
 show(⟨a.toArray++b.toArray⟩:Str)=⟨(a++b).toArray⟩
 rw[List.append_toArray]
def nN (c:Nat):one c=LQ [c]:=rfl
def kY (h:a.length+b.length<=1000):NG .a (.s (LQ a)) (.s (LQ b))=.ok (.s (LQ (a++b))):=by rw[bc,m9 (by rw[jy,jy];omega),CZ];rfl
def kZ (cs:Ç):kc (LQ cs)=(cs.map one).map .s:=by unfold kc LQ one;rw[z_];rfl
def Ju {e:Type}{body:D->Ev->Res Fl}(f:e->Nat->e)(st:e->Ev->Prop)(cs:Ç)(b:e)(a:Ev)(h:st b a)(H:∀(c:Nat)(b:e)(a:Ev),c∈cs->st b a->∃τ',body (.s (one c)) a=.ok (.n τ')/\st (f b c) τ') :
  ∃τ',forM body ((cs.map one).map .s) a=.ok (.n τ')/\st (cs.foldl f b) τ':=by
 have:=sO (body:=body) f (λc:Nat=>D.s (one c)) st cs b a h H;rw[show(cs.map one).map D.s=cs.map λc=>D.s (one c) by rw[z_];rfl];exact this
def GK (h:low c):uZ "abcdefghijklmnopqrstuvwxyz" (one c)=Θ:=by
 have:∀k,k < 26->uZ "abcdefghijklmnopqrstuvwxyz" (one (97+k))=Θ:=∅
 let⟨a,H⟩:=h;rw[show c=97+(c - 97) by omega];exact this _ ⋯
abbrev kf (a m:Int)(k:Int)(c:Nat):Int:=(k*a+(c:Nat)) % m
def vQ (c:Nat):decide ((one c).length=1)=Θ:=rfl
def vR (c:Nat):(one c).cps.getD 0 0=c:=rfl
end Fr
end L2
namespace Law
open PySem PySem.Spec L2 L2.Fr PyProof.Rows
def gx {n:Nat}{a:Î}(f:Nat)(fn:Fn)(m k:Nat)(body:Ê)(H:a.length=m)(h:T f=Δ fn:=by rfl)(g:fn.io=Ξ:=by rfl)(e:fn.np=m:=by rfl)(c:fn.G.N.length=k:=by rfl)(b:fn.body=body:=by rfl):ba T (n+1) f a=KZ (iz (ba T n) body (a.map Δ++Τ (k - m) Φ)) Ap:=go h g e c b H
abbrev S2 (ns:È)(k:Int):Int:=if 0 < ns.length then ns.getD (k % (ns.length:Int)).toNat 0 % 2147483647 else 0
abbrev dr (ns:È)(k m:Int):Int:=(S2 ns k*(742938285+9973*k*k)+k*630360016) % 2147483647 / 97 % m
def Jv (ns:È)(k:Int):0<=S2 ns k/\S2 ns k < 2147483647:=by
 unfold S2;split
 ·exact⟨Int.emod_nonneg _ nofun,Int.emod_lt_of_pos _ nofun⟩
 ·decide
def km (ns:È)(k:Int)  (h:0 < m):0<=dr ns k m:=Int.emod_nonneg _ ⋯
def kn (ns:È)(k:Int)  (h:0 < m):dr ns k m < m:=Int.emod_lt_of_pos _ h
def iM (n:Nat)(ns:È)(k m:Int)(b:0<=k)(a:k<=5000)(H:0 < m):ba T (n+1) 43 [.l Ξ (ns.map .i),.i k,.i m]=.ok (.i (dr ns k m)):=by
 rw[gx 43 d43 3 5 b43 rfl];unfold b43;let⟨f,B⟩:=Jv ns k;unfold dr;let lm:(ns.map D.i).length=ns.length:=i_ _;by_cases h:0 < ns.length
 ·let hd:decide ((0:Int) < (ns.length:Int))=Θ:=B_ ⋯;let C:=Int.emod_nonneg k (show(ns.length:Int)≠0 by omega);let c:=Int.emod_lt_of_pos k (show(0:Int) < (ns.length:Int) by omega);let e:ns.getD (k % (ns.length:Int)).toNat 0 % 2147483647=S2 ns k:=by unfold S2;rw[e_ h]
  simp![lm,hd,e]
 ·let hd:decide ((0:Int) < (ns.length:Int))=Ξ:=N_ ⋯;let e:S2 ns k=0:=by unfold S2;rw[d_ h]
  rw[e];simp![lm,hd]
def Nw (n:Nat)(ns:È)(k m:Int)(a:0<=k)(H:k<=5000)(h:0 < m):∃r:Int,ba T (n+1) 43 [.l Ξ (ns.map .i),.i k,.i m]=.ok (.i r)/\0<=r/\r < m:=⟨_,iM n ns k m a H h,km ns k h,kn ns k h⟩
def Sl (cs:Ç):Prop:=1<=cs.length/\cs.length<=12/\∀c∈cs,low c
abbrev Nm (cs:Ç)(m:Int):Int:=((1+cs.foldl (kf 31 10006) 0)*m+cs.foldl (kf 37 10007) 0) % 10007
def C0 (n:Nat)  (h:Sl cs):ba T (n+1) 25 [.s (LQ cs),.s "abcdefghijklmnopqrstuvwxyz",.i 1,.i 12]=.ok (.b Θ):=by
 rw[gx 25 d25 4 4 b25 rfl];unfold b25;let⟨m,k,e⟩:=h;let f:iD (iP (ba T n) (.n 1) [] (.a .P (.v 1) (.v 0)) [Δ (.s "abcdefghijklmnopqrstuvwxyz"),Φ]) (kc (LQ cs))=.ok ((cs.map λc=>Θ).map .b):=by rw[kZ,z_];refine jk (λc:Nat=>D.s (one c)) (λc=>Θ) .b _ λc H=>?_;have:=GK (e c H);simp![this]
 let E:(cs.map λ_=>Θ).all id=Θ:=by rw[List.all_map];simp
 let l:(kc (LQ cs)).length=cs.length:=by rw[kZ,i_,i_]
 let j:decide ((1:Int)<=(cs.length:Int))=Θ:=B_ ⋯;let g:decide ((cs.length:Int)<=12)=Θ:=B_ ⋯;let sl:=jy cs;simp![j,g,f,E,l,sl]
def uz (n:Nat)  (h:Sl cs):ba T (n+2) 26 [.s (LQ cs)]=.ok .L:=by let e:=C0 n h;rw[gx 26 d26 1 1 b26 rfl];unfold b26;simp![e]
abbrev Ax:Ê:=[.a (.n 3) (.b .M (.b .a (.b .m (.v 3) (.v 1)) (.B .o [.v 4])) (.v 2))]
def Ay (n:Nat)(cs:Ç)(h:cs.length<=12)(a m:Int)(j:0 < m)(g:0<=a)(U:a < 18446744073709551616):ba T (n+1) 27 [.s (LQ cs),.i a,.i m]=.ok (.i (cs.foldl (kf a m) 0)):=by
 let⟨f,e,S,rfl⟩:=Ju (body:=turn (ba T n) (.n 4) Ax) (kf a m) (λk b=>∃S,b=[Δ (.s (LQ cs)),Δ (.i a),Δ (.i m),Δ (.i k),S]) cs 0 [Δ (.s (LQ cs)),Δ (.i a),Δ (.i m),Δ (.i 0),Φ] ⟨Φ,rfl⟩ (by
  rintro c k b H ⟨S,rfl⟩;refine⟨[Δ (.s (LQ cs)),Δ (.i a),Δ (.i m),Δ (.i (kf a m k c)),Δ (.s (one c))],?_,_,rfl⟩;unfold Ax kf
  simp![ie,vQ,vR])
 unfold Ax at e;rw[gx 27 d27 3 5 b27 rfl];unfold b27;simp![kZ,jy,e]
def Az (n:Nat)  (h:Sl cs):ba T (n+3) 28 [.s (LQ cs)]=.ok (.t [.i (1+cs.foldl (kf 31 10006) 0),.i (cs.foldl (kf 37 10007) 0)]):=by let a:=uz n h;let E:=Ay (n+1) cs h.2.1 31 10006 nofun nofun nofun;let e:=Ay (n+1) cs h.2.1 37 10007 nofun nofun nofun;rw[gx 28 d28 1 3 b28 rfl];unfold b28;simp![a,E,e,Int.reduceSub]
def sQ (n:Nat)  (h:Sl cs)(m:Int)(a:0<=m)(M:m<=1000000000):ba T (n+4) 29 [.s (LQ cs),.i m]=.ok (.i (Nm cs m)):=by let e:=Az n h;rw[gx 29 d29 2 3 b29 rfl];unfold b29;unfold Nm;simp![e]
abbrev Xr (p:Int×Int)(c:Nat):Int×Int:=(kf 31 10006 p.1 c,kf 37 10007 p.2 c)
theorem AE:∀(cs:Ç) (a b:Int),cs.foldl Xr (a,b)=(cs.foldl (kf 31 10006) a,cs.foldl (kf 37 10007) b)
 |[],a,b=>rfl
 |c::cs,a,b=>by rw[aah,aah,aah];exact AE cs _ _
abbrev tPl:Ê:=[.a (.n 2) (.b .M (.b .a (.b .m (.v 2) (.c (.i 31))) (.B .o [.v 4])) (.c (.i 10006))),.a (.n 3) (.b .M (.b .a (.b .m (.v 3) (.c (.i 37))) (.B .o [.v 4])) (.c (.i 10007)))]
def k8 (n:Nat)(cs:Ç)(H:cs.length<=12)(m:Int)(h:0<=m)(M:m<=1000000000):ba T (n+1) 46 [.s (LQ cs),.i m]=.ok (.i (Nm cs m)):=by
 let⟨g,e,S,rfl⟩:=Ju (body:=turn (ba T n) (.n 4) tPl) Xr (λp f=>∃S,f=[Δ (.s (LQ cs)),Δ (.i m),Δ (.i p.1),Δ (.i p.2),S]) cs (0,0) [Δ (.s (LQ cs)),Δ (.i m),Δ (.i 0),Δ (.i 0),Φ] ⟨Φ,rfl⟩ (by
  rintro c ⟨a,b⟩ f j ⟨S,rfl⟩;refine⟨[Δ (.s (LQ cs)),Δ (.i m),Δ (.i (Xr (a,b) c).1),Δ (.i (Xr (a,b) c).2),Δ (.s (one c))],?_,_,rfl⟩;unfold tPl Xr kf
  simp![ie,vQ,vR])
 rw[AE]at e;unfold tPl at e;unfold Nm;rw[gx 46 d46 2 5 b46 rfl];unfold b46;simp![kZ,jy,e]
end Law
namespace L2
open PySem PySem.Spec PyProof.Rows PySem.SeqAt
namespace Fr
mutual
noncomputable def pl:Nat->D->Bool
 |n+1,.t a=>Ol n a&&decide (a.length < 1000)
 |n+1,.l o a=>!o&&(Ol n a&&decide (a.length < 1000))
 |_+1,.K _ _ _=>Ξ
 |0,_=>Ξ
 |_+1,_=>Θ
noncomputable def Ol:Nat->Î->Bool
 |_,[]=>Θ
 |n,d::a=>pl n d&&Ol n a
end
theorem qO:∀ {a:Î},Ol n a=Θ->∀d∈a,pl n d=Θ
 |[],_,d,hd=>by simp at hd
 |e::a,h,d,hd=>by
  let H:=l_.mp (show(pl n e&&Ol n a)=Θ from h);rcases k_.mp hd with rfl|hd
  ·exact H.1
  ·exact qO H.2 d hd
def AF:∀(n:Nat) (d:D),pl n d=Θ->er d=d:=by
 intro n
 induction n with
 |zero=>intro d h;cases d<;>cases h
 |succ n i=>
  let all:∀a:Î,Ol n a=Θ->LM a=a:=by
   intro a
   induction a with
   |nil=>intro _;rfl
   |cons e a Q=>intro h;let H:=l_.mp (show(pl n e&&Ol n a)=Θ from h);show er e::LM a=_;rw[i e H.1,Q H.2]
  intro d h;cases d with
  |t a=>let H:=l_.mp (show(Ol n a&&decide (a.length < 1000))=Θ from h);rw[er,all a H.1]
  |l o a=>
   let H:=l_.mp (show(!o&&(Ol n a&&decide (a.length < 1000)))=Θ from h);let c:=l_.mp H.2;let b:o=Ξ:=by simpa using H.1
   subst b;rw[er,all a c.1]
  |K _ _ _=>cases h
  |_=>rfl
theorem AG:∀ {a:Î},Ol n a=Θ->LM a=a
 |[],_=>rfl
 |e::a,h=>by let H:=l_.mp (show(pl n e&&Ol n a)=Θ from h);show er e::LM a=_;rw[AF n e H.1,AG H.2]
def oR (b:Î):jU b b=b.map λa=>.t [a,a]:=by
 unfold jU
 induction b with
 |nil=>rfl
 |cons d b i=>rw[List.zipWith_cons_cons,i];rfl
theorem sR:∀n:Nat,jL (Τ n (D.b Θ))=Δ (Τ n Θ)
 |0=>rfl
 |n+1=>by rw[List.replicate_succ,List.replicate_succ];show(jL _).map _=_;rw[sR n];rfl
def all_true (o:Bool)(n:Nat):jT .a [.l o (Τ n (D.b Θ))]=.ok (.b Θ):=by show(match jL (Τ n (D.b Θ)) with|some bs=>.ok (.b (bs.all id))|none=>LP:Res D)=_;rw[sR];simp
def C1 (u:T f=Δ fn)(O:fn.io=Ξ)(A:fn.np=2)(y:fn.G.N.length=2)(w:fn.body=QW f):∀(n k:Nat) (d:D),pl n d=Θ->ba T (n+k) f [d,d]=.ok (.b Θ):=by
 intro n
 induction n with
 |zero=>intro k d h;cases d<;>cases h
 |succ n I=>
  intro k d h;let F:∀c:Î,Ol n c=Θ->iD (iP (ba T (n+k)) (.t [.n 0,.n 1]) [] (.C f [.v 0,.v 1]) [Φ,Φ]) (jU c c)=.ok (Τ c.length (D.b Θ)):=by
   intro c p;rw[oR];refine(jk (λa:D=>D.t [a,a]) (λ_=>D.b Θ) id c λx m=>?_).trans (by rw[List.map_id,List.map_const']);let N:=qO p x m;let r:=I k x N;let j:=AF n x N;let G:LM [x,x]=[x,x]:=by show [er x,er x]=_;rw[j]
   simp![ie,r,G,j,id]
  rw[show n+1+k=(n+k)+1 by omega,go u O A y w rfl];unfold QW;cases d with
  |L=>rfl
  |b b=>exact congrArg (λz:Bool=>(Except.ok (D.b z):Res D)) (beq_self_eq_true b)
  |i i=>exact congrArg (λz:Bool=>(Except.ok (D.b z):Res D)) (beq_self_eq_true i)
  |s x=>exact congrArg (λz:Bool=>(Except.ok (D.b z):Res D)) (beq_self_eq_true x)
  |t c=>
   let H:=l_.mp (show(Ol n c&&decide (c.length < 1000))=Θ from h);let q:c.length < 1000:=t_ H.2;let g:(jU c c).length=c.length:=by rw[oR,i_]
   let e:=F c H.1;let E:=all_true Θ c.length;unfold Av;simp![e,E,g]
  |l o c=>
   let B:=l_.mp (show(!o&&(Ol n c&&decide (c.length < 1000)))=Θ from h);let H:=l_.mp B.2;let q:c.length < 1000:=t_ H.2;let g:(jU c c).length=c.length:=by rw[oR,i_]
   let e:=F c H.1;let E:=all_true Θ c.length;unfold Av;simp![e,E,g]
  |K _ _ _=>cases h
def MK:∀a:Î,LM (LM a)=LM a:=by intro a;rw[iI,iI,z_];exact S_ λd _=>DO d
theorem vS:∀(X:Î),(∀x∈X,∃y,g x=.ok (Δ y)/\er y=er x)->∃ys,iD g X=.ok ys/\LM ys=LM X/\ys.length=X.length
 |[],_=>⟨[],rfl,rfl,rfl⟩
 |x::X,h=>by let⟨y,f,e⟩:=h x (by simp);let⟨ys,c,b,a⟩:=vS X λz H=>h z (J_ _ H);refine⟨y::ys,?_,by show er y::LM ys=er x::LM X;rw[e,b],by rw[List.length_cons,List.length_cons,a]⟩;show KZ (g x) _=_;rw[f];show KZ (iD g X) _=_;rw[c];rfl
def C2 (J:T f=Δ fn)(O:fn.io=Ξ)(r:fn.np=1)(q:fn.G.N.length=1)(p:fn.body=QX f x):∀(n k:Nat) (d:D),pl n d=Θ->∃d',ba T (n+k) f [d]=.ok d'/\er d'=d:=by
 intro n
 induction n with
 |zero=>intro k d h;cases d<;>cases h
 |succ n I=>
  intro k d h;let F:∀a:Î,Ol n a=Θ->∃Y,iD (iP (ba T (n+k)) (.n 0) [] (.C f [.v 0]) [Φ]) a=.ok Y/\LM Y=a/\Y.length=a.length:=by
   intro a u;let⟨Y,r,q,p⟩:=vS (g:=iP (ba T (n+k)) (.n 0) [] (.C f [.v 0]) [Φ]) a λx A=>by
    let N:=qO u x A;let⟨y,G,H⟩:=I k x N;let m:=AF n x N;let M:LM [x]=[x]:=by show [er x]=_;rw[m]
    refine⟨y,?_,H.trans m.symm⟩;simp![ie,G,M,m]
   exact⟨Y,r,q.trans (AG u),p⟩
  rw[show n+1+k=(n+k)+1 by omega,go J O r q p rfl];unfold QX;cases d with
  |L=>exact⟨.L,rfl,rfl⟩
  |b b=>exact⟨.b b,rfl,rfl⟩
  |i i=>exact⟨.i i,rfl,rfl⟩
  |s z=>exact⟨.s z,rfl,rfl⟩
  |t a=>
   let c:=l_.mp (show(Ol n a&&decide (a.length < 1000))=Θ from h);let E:a.length < 1000:=t_ c.2;let⟨Y,e,H,j⟩:=F a c.1;unfold vO;cases lf:fT Y with
   |true=>refine⟨.t Y,?_,by rw[er,H]⟩;simp![e,lf]
   |false=>refine⟨.t (LM Y),?_,by rw[er,MK,H]⟩;simp![e,lf]
  |l o a=>
   let w:=l_.mp (show(!o&&(Ol n a&&decide (a.length < 1000)))=Θ from h);let c:=l_.mp w.2;let B:o=Ξ:=by simpa using w.1
   subst B;let E:a.length < 1000:=t_ c.2;let⟨Y,e,H,j⟩:=F a c.1;unfold vO;cases lf:fT Y with
   |true=>refine⟨.l Θ Y,?_,by rw[er,H]⟩;simp![e,lf]
   |false=>refine⟨.l Θ (LM Y),?_,by rw[er,MK,H]⟩;simp![e,lf]
  |K _ _ _=>cases h
end Fr
end L2
namespace Law
open PySem PySem.Spec L2 L2.Fr
def same (n k:Nat)  (h:pl n d=Θ):ba T (n+k) 64 [d,d]=.ok (.b Θ):=C1 (fn:=d64) rfl rfl rfl rfl rfl n k d h
def copy (n k:Nat)  (h:pl n d=Θ):∃d',ba T (n+k) 65 [d]=.ok d'/\er d'=d:=C2 (fn:=d65) (x:="_law_part") rfl rfl rfl rfl rfl n k d h
open PyProof.Rows
def AH:Ρ "" = LQ []:=∅
abbrev tS:Ê:=[.a (.n 3) (.b .a (.v 3) (.i (.v 2) (.C 43 [.v 0,.b .a (.b .a (.v 1) (.c (.i 2))) (.v 4),.c (.i 26)])))]
def qP (n:Nat)(ns:È)  (z:0<=k)(J:k<=4900):∃cs:Ç,ba T (n+2) 45 [.l Ξ (ns.map .i),.i k]=.ok (.s (LQ cs))/\Sl cs:=by
 let⟨r,E,O,M⟩:=Nw n ns k 12 z ⋯ nofun;let⟨u,e,cs,Y,rfl,f,H⟩:=jl (its:=iQ 0 r) (a:=[Δ (.l Ξ (ns.map .i)),Δ (.i k),Δ (.s "abcdefghijklmnopqrstuvwxyz"),Δ (.s (LQ [])),Φ,Φ]) (body:=turn (ba T (n+1)) (.n 4) tS)
  (λi m=>∃(cs:Ç) (X:Ã),m=[Δ (.l Ξ (ns.map .i)),Δ (.i k),Δ (.s "abcdefghijklmnopqrstuvwxyz"),Δ (.s (LQ cs)),X,Φ]/\cs.length=i/\∀c∈cs,low c)
  ⟨[],Φ,rfl,rfl,λc h=>by simp at h⟩ (by
   rintro i x m H ⟨cs,X,rfl,f,W⟩;let hi:i < r.toNat:=by have:=(v_.mp H).1;rw[jN]at this;omega
   unfold iQ at H;rw[D_,List.getElem?_range ⋯]at H;let N:D.i (0+(i:Nat))=x:=H_ H;subst N;let⟨q,g,B,p⟩:=Nw n ns (k+2+(0+(i:Int))) 26 ⋯ ⋯ nofun;refine⟨[Δ (.l Ξ (ns.map .i)),Δ (.i k),Δ (.s "abcdefghijklmnopqrstuvwxyz"),Δ (.s (LQ (cs++[97+q.toNat]))),Δ (.i (0+(i:Nat))),Φ],?_,_,_,rfl,by rw[q_,f];rfl,λc h=>?_⟩
   ·let S:=kY (a:=cs) (b:=[97+q.toNat]) (by rw[f,V_];omega);let A:=oP B p;rw[nN]at A;unfold tS;simp![ie,g,A,S]
   ·rcases w_.mp h with h|h
    ·exact W c h
    ·rw[r_.mp h];constructor<;>omega)
 rw[jN]at f;let⟨t,g,B,p⟩:=Nw n ns (k+1) ((cs.length:Int)+1) ⋯ ⋯ ⋯;let⟨q,C,G,F⟩:=Nw n ns (k+14) 26 ⋯ ⋯ nofun;let A:=oP G F;rw[nN]at A;let w:=sP (cs:=cs) (j:=t) B ⋯;let v:=oQ (cs:=cs) (i:=t) B ⋯;let I:(cs.take t.toNat).length<=12:=by rw[aaG];omega
 let L:(cs.drop t.toNat).length<=12:=by rw[aas];omega
 let y:=kY (a:=cs.take t.toNat) (b:=[97+q.toNat]) (by rw[V_];omega);let P:=kY (a:=cs.take t.toNat++[97+q.toNat]) (b:=cs.drop t.toNat) (by rw[q_,V_];omega);refine⟨cs.take t.toNat++[97+q.toNat]++cs.drop t.toNat,?_,?_,?_,λc h=>?_⟩
 ·unfold tS at e;let sl:=jy cs;rw[gx 45 d45 2 6 b45 rfl];unfold b45;simp![AH,E,e,sl,g,C,A,w,v,y,P]
 ·rw[q_,q_,V_];omega
 ·have:(cs.take t.toNat).length+(cs.drop t.toNat).length=cs.length:=by rw[<- q_,List.take_append_drop]
  rw[q_,q_,V_];omega
 ·rcases w_.mp h with h|h
  ·rcases w_.mp h with h|h
   ·exact H c (List.mem_of_mem_take h)
   ·rw[r_.mp h];constructor<;>omega
  ·exact H c (List.mem_of_mem_drop h)
def AJ (n:Nat)(ns:È)  (H:0<=k)(e:k<=4900):∃m:Int,ba T (n+2) 47 [.l Ξ (ns.map .i),.i k]=.ok (.i m)/\0<=m/\m<=1000000000:=by
 let⟨r,a,j,A⟩:=Nw n ns k 6 H ⋯ nofun;let⟨s,c,g,B⟩:=Nw n ns (k+1) 31600 ⋯ ⋯ nofun;let⟨t,b,f,C⟩:=Nw n ns (k+2) 31600 ⋯ ⋯ nofun;let p:∀x:Res D,LK (decide ((0:Int)<=9/\(9:Int)<=1000000/\Int.natAbs 10 < 2 ^ 64)) x=x:=λ_=>rfl;by_cases h:r < 2
 ·let hd:decide (r < 2)=Θ:=B_ h;rcases(show r=0∨r=1 by omega) with rfl|rfl
  ·refine⟨0,?_, nofun, nofun⟩;rw[gx 47 Xi 2 3 Us rfl];unfold Us;simp![a,hd,p]
  ·refine⟨10 ^ Int.toNat 9,?_, nofun, nofun⟩;rw[gx 47 Xi 2 3 Us rfl];unfold Us;simp![a,hd,p]
 ·let hd:decide (r < 2)=Ξ:=N_ h;refine⟨s*31600+t,?_,⋯,⋯⟩;rw[gx 47 Xi 2 3 Us rfl];unfold Us;simp![a,hd,c,b]
def vT (h:LQ a=LQ b):a=b:=by have:=congrArg (λs:Str=>s.cps.toList) h;simpa[LQ] using this
theorem vU (c:Nat):∀(k:Nat) (a:Array Nat),(Τ k (one c).cps).foldl (λX x=>X++x) a=a++(Τ k c).toArray
 |0,a=>by simp
 |k+1,a=>by rw[List.replicate_succ,aah,vU c k,List.replicate_succ];show a++#[c]++(Τ k c).toArray=a++(c::Τ k c).toArray;rw[Array.append_assoc];exact congrArg (a++·) (List.append_toArray [c] (Τ k c))
def qQ (c:Nat)  (h:1<=j):Txt.mul (one c) j=LQ (Τ j.toNat c):=by
 unfold Txt.mul;split
 ·omega
 ·split
  ·rename_i a H
   rw[qN]at H;have:j=1:=by simpa using H
   rw[this];rfl
  ·unfold LQ;rw[vU];simp
abbrev tN:Ê:=[.a (.n 5) (.b .a (.v 5) (.i (.v 3) (.C 43 [.v 0,.b .a (.b .a (.v 1) (.c (.i 40))) (.v 6),.c (.i 26)])))]
abbrev jc (c:Int):È:=(List.range (c - 0).toNat).map λk=>(0:Int)+((k:Nat):Int)
def pZ (h:x∈jc c):0<=x/\x < c:=by let⟨k,H,rfl⟩:=List.mem_map.mp h;have:=X_.mp H;omega
def Ei {c:Int}{f:Int->Str}(h:∀x y,0<=x->x < c->0<=y->y < c->f x=f y->x=y):((jc c).map f).Nodup:=by unfold jc;rw[z_];refine List.pairwise_map.mpr (List.Pairwise.imp_of_mem (λ{a b} g e hn H=>hn ?_) List.nodup_range);let A:=X_.mp g;let B:=X_.mp e;have:=h (0+(a:Int)) (0+(b:Int)) ⋯ ⋯ ⋯ ⋯ H;omega
def oU (c:Int):(jc c).length=c.toNat:=by unfold jc;rw[i_,R_];omega
def Jw:∀(d:Fin 39),∀s∈([1,7,25,11]:È),(s*((d.val:Int) - 19)) % 26=0->d.val=19:=∅
def Kv {st:Int}(s:sp∈([1,7,25,11]:È))(c:0<=x)(X:x < 20)(b:0<=y)(Y:y < 20)(h:(st+sp*x) % 26=(st+sp*y) % 26):x=y:=by let H:=Int.emod_eq_emod_iff_emod_sub_eq_zero.mp h;rw[show st+sp*x - (st+sp*y)=sp*(x - y) by rw[Int.mul_sub];omega]at H;let a:=Jw ⟨(x - y+19).toNat,⋯⟩ sp s (by rw[show(((⟨(x - y+19).toNat,⋯⟩:Fin 39).val:Nat):Int) - 19=x - y by show(((x - y+19).toNat:Nat):Int) - 19=x - y;omega];exact H);let e:(x - y+19).toNat=19:=a;omega
def ko (n:Nat)(ns:È)  (k0:0<=k)(k1:k<=4000)  (c0':0<=c)(c1':c<=20):∃fs:Æ,ba T (n+2) 44 [.l Ξ (ns.map .i),.i k,.i c]=.ok (.l Θ (fs.map .s))/\fs.length=c.toNat/\fs.Nodup/\∀f∈fs,f.length<=100:=by
 let⟨st,N,a0,a1⟩:=Nw n ns k 26 k0 ⋯ nofun;let z:=iM n ns (k+1) 5 ⋯ ⋯ nofun;generalize dr ns (k+1) 5=q at *;let A:=oP a0 a1;let R:iQ 0 c=(jc c).map .i:=oO 0 c;let ln:((jc c).map D.i).length=c.toNat:=by rw[i_,oU]
 cases I:(q == 0) with
 |true=>
  let F:iD (iP (ba T (n+1)) (.n 2) [] (.b .m (.i (.v 0) (.v 1)) (.b .a (.c (.i 1)) (.v 2))) [Δ (.s "abcdefghijklmnopqrstuvwxyz"),Δ (.i st),Φ]) ((jc c).map .i)=.ok (((jc c).map λj=>Txt.mul (one (97+st.toNat)) (1+j)).map .s):=by refine jk .i (λj=>Txt.mul (one (97+st.toNat)) (1+j)) .s _ λj H=>?_;have:=pZ H;let ol:=qN (97+st.toNat);let gd:decide (-16000<=1+j/\1+j<=16000/\(one (97+st.toNat)).length<=1000)=Θ:=B_ (by rw[ol];omega);simp![A,gd]
  refine⟨(jc c).map λj=>Txt.mul (one (97+st.toNat)) (1+j),?_,by rw[i_,oU],Ei λx y G x1 Y y1 e=>?_,λf C=>?_⟩
  ·rw[gx 44 YK 3 9 Xh rfl];unfold Xh;generalize(jc c).map (λj=>Txt.mul (one (97+st.toNat)) (1+j))=L at *;simp![N,z,I,R,ln,F]
  ·rw[qQ _ ⋯,qQ _ ⋯]at e;have:=congrArg List.length (vT e);rw[List.length_replicate,List.length_replicate]at this;omega
  ·let⟨j,H,rfl⟩:=List.mem_map.mp C;have:=pZ H;rw[qQ _ ⋯];rw[jy,List.length_replicate];omega
 |false=>
  let⟨r,d2,U,Q⟩:=Nw n ns (k+2) 8 ⋯ ⋯ nofun;let⟨W,e,cs,y4,rfl,w,Ss⟩:=jl (its:=iQ 0 r) (a:=[Δ (.l Ξ (ns.map .i)),Δ (.i k),Δ (.i c),Δ (.s "abcdefghijklmnopqrstuvwxyz"),Δ (.i st),Δ (.s (LQ [])),Φ,Φ,Φ]) (body:=turn (ba T (n+1)) (.n 6) tN)
   (λi E=>∃(cs:Ç) (X:Ã),E=[Δ (.l Ξ (ns.map .i)),Δ (.i k),Δ (.i c),Δ (.s "abcdefghijklmnopqrstuvwxyz"),Δ (.i st),Δ (.s (LQ cs)),X,Φ,Φ]/\cs.length=i/\∀c∈cs,low c)
   ⟨[],Φ,rfl,rfl,λc h=>by simp at h⟩ (by
    rintro i x E p ⟨cs,X,rfl,w,Wt⟩;let hi:i < r.toNat:=by have:=(v_.mp p).1;rw[jN]at this;omega
    unfold iQ at p;rw[D_,List.getElem?_range ⋯]at p;let Nc:D.i (0+(i:Nat))=x:=H_ p;subst Nc;let⟨q,z,U,Q⟩:=Nw n ns (k+40+(0+(i:Int))) 26 ⋯ ⋯ nofun
    refine⟨[Δ (.l Ξ (ns.map .i)),Δ (.i k),Δ (.i c),Δ (.s "abcdefghijklmnopqrstuvwxyz"),Δ (.i st),Δ (.s (LQ (cs++[97+q.toNat]))),Δ (.i (0+(i:Nat))),Φ,Φ],?_,_,_,rfl,by rw[q_,w];rfl,λc h=>by
     rcases w_.mp h with h|h
     ·exact Wt c h
     ·rw[r_.mp h];constructor<;>omega⟩
    let sa:=kY (a:=cs) (b:=[97+q.toNat]) (by rw[w,V_];omega);let A:=oP U Q;rw[nN]at A;unfold tN
    simp![ie,z,A,sa])
  rw[jN]at w;unfold tN at e;let⟨t,d3,J,g1⟩:=Nw n ns (k+3) ((cs.length:Int)+1) ⋯ ⋯ ⋯;let⟨u,d4,f0,f1⟩:=Nw n ns (k+1) 4 ⋯ ⋯ nofun;obtain⟨g,OC,B⟩:∃g:Int,(∀o,iw (.l o [.i 1,.i 7,.i 25,.i 11]) (.i u)=.ok (.i g))/\g∈([1,7,25,11]:È):=by
   rcases(show u=0∨u=1∨u=2∨u=3 by omega) with rfl|rfl|rfl|rfl
   ·exact⟨1,λ_=>rfl, nofun⟩
   ·exact⟨7,λ_=>rfl, nofun⟩
   ·exact⟨25,λ_=>rfl, nofun⟩
   ·exact⟨11,λ_=>rfl, nofun⟩
  let s1:=sP (cs:=cs) (j:=t) J ⋯;let s2:=oQ (cs:=cs) (i:=t) J ⋯;let l1:(cs.take t.toNat).length<=12:=by rw[aaG];omega
  let l2:(cs.drop t.toNat).length<=12:=by rw[aas];omega
  let sl:=jy cs;let F:iD (iP (ba T (n+1)) (.n 5) [] (.b .a (.b .a (.S (.v 0) Φ (Δ (.v 1))) (.i (.v 2) (.b .M (.b .a (.v 3) (.b .m (.v 4) (.v 5))) (.c (.i 26))))) (.S (.v 0) (Δ (.v 1)) Φ)) [Δ (.s (LQ cs)),Δ (.i t),Δ (.s "abcdefghijklmnopqrstuvwxyz"),Δ (.i st),Δ (.i g),Φ]) ((jc c).map .i)=.ok (((jc c).map λj=>LQ (cs.take t.toNat++[97+((st+g*j) % 26).toNat]++cs.drop t.toNat)).map .s):=by refine jk .i (λj=>LQ (cs.take t.toNat++[97+((st+g*j) % 26).toNat]++cs.drop t.toNat)) .s _ λj H=>?_;have:=pZ H;let P:=Int.emod_nonneg (st+g*j) (show(26:Int)≠0 by decide);let O:=Int.emod_lt_of_pos (st+g*j) (show(0:Int) < 26 by decide);let A:=oP P O;rw[nN]at A;let p1:=kY (a:=cs.take t.toNat) (b:=[97+((st+g*j) % 26).toNat]) (by rw[V_];omega);let p2:=kY (a:=cs.take t.toNat++[97+((st+g*j) % 26).toNat]) (b:=cs.drop t.toNat) (by rw[q_,V_];omega);simp![s1,s2,sl,A,p1,p2]
  refine⟨(jc c).map λj=>LQ (cs.take t.toNat++[97+((st+g*j) % 26).toNat]++cs.drop t.toNat),?_,by rw[i_,oU],Ei λx y G x1 Y y1 e=>?_,λf C=>?_⟩
  ·rw[gx 44 YK 3 9 Xh rfl];unfold Xh;generalize(jc c).map (λj=>LQ (cs.take t.toNat++[97+((st+g*j) % 26).toNat]++cs.drop t.toNat))=L at *;simp![AH,N,z,I,d2,e,sl,d3,d4,OC,R,ln,F]
  ·let h1:=List.append_cancel_right (vT e);let h2:=List.append_cancel_left h1;let h3:97+((st+g*x) % 26).toNat=97+((st+g*y) % 26).toNat:=List.head_eq_of_cons_eq h2;let n1:=Int.emod_nonneg (st+g*x) (show(26:Int)≠0 by decide);let n2:=Int.emod_nonneg (st+g*y) (show(26:Int)≠0 by decide);exact Kv (st:=st) B G ⋯ Y ⋯ ⋯
  ·let⟨j,H,rfl⟩:=List.mem_map.mp C;let P:=Int.emod_nonneg (st+g*j) (show(26:Int)≠0 by decide);let O:=Int.emod_lt_of_pos (st+g*j) (show(0:Int) < 26 by decide);rw[jy,q_,q_,V_];omega
def nc {g:D->Res (Ã)}{x y:D}{X ys:Î}(h:g x=.ok (Δ y))(k:iD g X=.ok ys):iD g (x::X)=.ok (y::ys):=by show KZ (g x) _=_;rw[h];show KZ (iD g X) _=_;rw[k];rfl
inductive Tn where
 | i (n:Int)|s (x:Str)
abbrev Tn.d:Tn->D
 |.i n=>.i n
 |.s x=>.s x
def uA:(Ρ "abcdefghijklmnopqrstuvwxyz0123456789").length=36:=∅
def k9 (x:Str)(lo hi:Option Int):(Txt.slice x lo hi).length<=x.length:=by
 have:=indices_len_le lo hi x.length;unfold Txt.slice;split
 ·exact o_ _
 ·refine Q_ ?_ this;show(List.filterMap _ _).toArray.size<=_;rw[C_];exact List.length_filterMap_le ..
def vV (x y:Str):(x++y).length=x.length+y.length:=by show(x.cps++y.cps).size=_;rw[Array.size_append];rfl
def GO (H:0<=i)(h:i < z.length)(hz:z.length<=1000):∃y:Str,iw (.s z) (.i i)=.ok (.s y)/\y.length=1:=⟨_,WL H h ⋯,rfl⟩
def nO (n:Nat)(ns:È)  (j:0<=k)(u:k<=4900){st:Str}(hs:st.length<=100):∃x:Str,ba T (n+2) 50 [.l Ξ (ns.map .i),.i k,.s st]=.ok (.s x)/\x.length<=101:=by
 let c:=iM n ns k 9 j ⋯ nofun;let e:=iM n ns (k+1) 3 ⋯ ⋯ nofun;let p:=iM n ns (k+2) 36 ⋯ ⋯ nofun;let B:=km ns (k+2) (m:=36) nofun;let C:=kn ns (k+2) (m:=36) nofun;let⟨y,g,r⟩:=GO (z:=Ρ "abcdefghijklmnopqrstuvwxyz0123456789") (i:=dr ns (k+2) 36) B (by rw[uA];exact C) (by rw[uA];decide);let f:=k9 st Φ (Δ (dr ns k 9));let L:=k9 (Txt.slice st Φ (Δ (dr ns k 9))) Φ (Δ (-1));obtain⟨a,h⟩:∃a,Txt.slice st Φ (Δ (dr ns k 9))=a:=⟨_,rfl⟩
 rw[h]at f L;obtain⟨b,H⟩:∃b,Txt.slice a Φ (Δ (-1))=b:=⟨_,rfl⟩
 rw[H]at L;let A:=vV b y;cases q:(a == Ρ "") with
 |true=>refine⟨a,?_,⋯⟩;rw[gx 50 Xl 3 4 Ut rfl];unfold Ut;simp![c,q,h]
 |false=>
  cases Q:(dr ns (k+1) 3 == 0) with
  |true=>refine⟨b++y,?_,⋯⟩;rw[gx 50 Xl 3 4 Ut rfl];unfold Ut;simp![c,e,p,q,Q,g,h,H]
  |false=>refine⟨a,?_,⋯⟩;rw[gx 50 Xl 3 4 Ut rfl];unfold Ut;simp![c,e,q,Q,h]
def ng (n:Nat)(ns:È)  (b:0<=k)(e:k<=4900)(c:Int):∃x:Int,ba T (n+2) 52 [.l Ξ (ns.map .i),.i k,.i c]=.ok (.i x):=by
 let⟨r,a,B,C⟩:=Nw n ns k 8 b ⋯ nofun;by_cases h:r < 5
 ·let hd:decide (r < 5)=Θ:=B_ h;refine⟨c+r - 2,?_⟩;rw[gx 52 YM 3 4 Xm rfl];unfold Xm;simp![a,hd]
 ·let hd:decide (r < 5)=Ξ:=N_ h;let H:iw (.l Θ [.i 999999999,.i (0 - 999999999),.i 0]) (.i (r - 5))=.ok (.i ([999999999,0 - 999999999,0].getD (r - 5).toNat 0)):=Ui (o:=Θ) (x:=[999999999,0 - 999999999,0]) ⋯ (by show r - 5 < 3;omega);refine⟨([999999999,0 - 999999999,0]:È).getD (r - 5).toNat 0,?_⟩;rw[gx 52 YM 3 4 Xm rfl];unfold Xm;simp![a,hd,H]
def AK (n:Nat)(ns:È)  (h:0<=k)(H:k<=4800){st:Str}(hs:st.length<=100)(c:Int):∃t:Tn,ba T (n+3) 53 [.l Ξ (ns.map .i),.i k,.s st,.i c]=.ok t.d:=by
 let a:=iM (n+1) ns k 2 h ⋯ nofun;let⟨x,ex⟩:=ng n ns (k:=k+1) ⋯ ⋯ c;let⟨y,e,_⟩:=nO n ns (k:=k+2) ⋯ ⋯ hs;cases q:(dr ns k 2 == 0) with
 |true=>refine⟨.i x,?_⟩;unfold Tn.d;rw[gx 53 YN 4 4 Xn rfl];unfold Xn;simp![a,q,ex]
 |false=>refine⟨.s y,?_⟩;unfold Tn.d;rw[gx 53 YN 4 4 Xn rfl];unfold Xn;simp![a,q,e]
theorem p5:∀(cs:Ç) (a:Array Nat),(cs.map one).foldl (λa p=>a++(Ρ "").cps++p.cps) a=a++cs.toArray
 |[],a=>by simp
 |c::cs,a=>by
  let e:(Ρ "").cps = #[]:=∅
  rw[a_,aah,p5 cs,e];show a++#[]++#[c]++cs.toArray=_;simp
def join_one (cs:Ç):Txt.join "" (cs.map one)=LQ cs:=by
 show(⟨((cs.map one).drop 1).foldl (λa p=>a++(Ρ "").cps++p.cps) ((cs.map one).headD Str.empty).cps⟩:Str)=_;cases cs with
 |nil=>rfl
 |cons c cs=>rw[a_,List.drop_succ_cons,List.drop_zero,List.headD_cons,p5];unfold LQ one;simp
def C3 (cs:Ç):((cs.map one).map (λy:Str=>y.length)).sum=cs.length:=by
 induction cs with
 |nil=>rfl
 |cons c cs i=>rw[a_,a_,List.sum_cons,i,List.length_cons,qN];omega
def vW {o:Bool}  (h:cs.length<=1000):ox .j (.s "") [.l o ((cs.map one).map .s)]=.ok (.s (LQ cs)):=by
 let e:(Ρ "").length=0:=∅
 rw[CV (by rw[C3,i_,e];omega),join_one]
def p6 (n:Nat)(ns:È)  (H:0<=k)(g:k<=4900):∃c:Int,ba T (n+2) 51 [.l Ξ (ns.map .i),.i k]=.ok (.i c):=by
 let f:=iM n ns k 20000 H ⋯ nofun;let e:=iM n ns (k+1) 100000 ⋯ ⋯ nofun;let B:=km ns k (m:=20000) nofun;let C:=kn ns k (m:=20000) nofun;let h:NG .p (.i 10) (.i 9)=.ok (.i 1000000000):=by kernel_rfl
 generalize dr ns k 20000=a,dr ns (k+1) 100000=b at *;refine⟨if 999999990 < (if 0 - 999999990 > a*100000+b - 1000000000 then 0 - 999999990 else a*100000+b - 1000000000) then 999999990 else(if 0 - 999999990 > a*100000+b - 1000000000 then 0 - 999999990 else a*100000+b - 1000000000),?_⟩;rw[gx 51 d51 2 3 b51 rfl];unfold b51;simp![f,e,h]
theorem sS {g:D->Res (Ã)}:∀(its:Î),(∀x∈its,∃y:Nat,g x=.ok (Δ (.s (one y))))->∃ys:Ç,iD g its=.ok ((ys.map one).map .s)/\ys.length=its.length
 |[],_=>⟨[],rfl,rfl⟩
 |x::its,h=>by let⟨y,a⟩:=h x (by simp);let⟨ys,e,b⟩:=sS its λz H=>h z (J_ _ H);exact⟨y::ys,nc a e,by rw[List.length_cons,List.length_cons,b]⟩
theorem nh {g:D->Res (Ã)}:∀(its:Î),(∀x∈its,∃y:Str,g x=.ok (Δ (.s y)))->∃ys:Æ,iD g its=.ok (ys.map .s)/\ys.length=its.length
 |[],_=>⟨[],rfl,rfl⟩
 |x::its,h=>by let⟨y,a⟩:=h x (by simp);let⟨ys,e,b⟩:=nh its λz H=>h z (J_ _ H);exact⟨y::ys,nc a e,by rw[List.length_cons,List.length_cons,b]⟩
def qR (h:x∈iQ 0 a):∃j:Int,x=.i j/\0<=j/\j < a:=by unfold iQ at h;let⟨k,H,rfl⟩:=List.mem_map.mp h;rw[X_]at H;exact⟨0+(k:Int),rfl,⋯,⋯⟩
def vX (n:Nat)(ns:È)  (w:0<=k)(u:k<=4900)  (q:0 < z.length)(p:z.length<=100) :
  ∃ys:Ç,iD (iP (ba T (n+1)) (.n 3) [] (.i (.v 0) (.C 43 [.v 1,.b .a (.b .a (.v 2) (.c (.i 2))) (.v 3),.B .l [.v 0]])) [Δ (.s z),Δ (.l Ξ (ns.map .i)),Δ (.i k),Φ]) (iQ 0 12)=.ok ((ys.map one).map .s)/\ys.length=12:=by
 let⟨ys,e,f⟩:=sS (g:=iP (ba T (n+1)) (.n 3) [] (.i (.v 0) (.C 43 [.v 1,.b .a (.b .a (.v 2) (.c (.i 2))) (.v 3),.B .l [.v 0]])) [Δ (.s z),Δ (.l Ξ (ns.map .i)),Δ (.i k),Φ]) (iQ 0 12) (by
  intro x H;let⟨j,rfl,r,J⟩:=qR H;let d:=iM n ns (k+2+j) (z.length:Int) ⋯ ⋯ ⋯;let b:=km ns (k+2+j) (m:=(z.length:Int)) ⋯;let c:=kn ns (k+2+j) (m:=(z.length:Int)) ⋯;let h:=WL (z:=z) b c ⋯;refine⟨z.cps.toList.getD (dr ns (k+2+j) (z.length:Int)).toNat 0,?_⟩;unfold one
  simp![ie,d,h])
 exact⟨ys,e,f.trans (by rw[jN];rfl)⟩
abbrev sg:Str:=Ρ "abcdefghijklmnopqrstuvwxyz0123456789"
def GP:∀d:Fin 34,0 < (Txt.slice (Txt.slice sg (Δ ((d:Nat):Int)) Φ) Φ (Δ 2)).length:=∅
def nP:sg.length=36:=uA
def vY (n:Nat)(ns:È)  (h:0<=k)(p:k<=4800):∃x:Str,ba T (n+2) 49 [.l Ξ (ns.map .i),.i k]=.ok (.s x)/\x.length<=100:=by
 let b:=iM n ns k 2 h ⋯ nofun;let a:=iM n ns (k+1) 34 ⋯ ⋯ nofun;let B:=km ns (k+1) (m:=34) nofun;let C:=kn ns (k+1) (m:=34) nofun;let lr:(iQ 0 12).length=12:=by rw[jN];rfl
 cases q:(dr ns k 2 == 0) with
 |false=>let⟨y,e,f⟩:=vX n ns h ⋯ (z:=sg) (by rw[nP];decide) (by rw[nP];decide);let J:=vW (o:=Θ) (cs:=y) ⋯;refine⟨LQ y,?_,by rw[jy];omega⟩;unfold sg at e;rw[gx 49 YL 2 4 Xk rfl];unfold Xk;simp![b,q,e,J,lr]
 |true=>let⟨j,g⟩:=Int.eq_ofNat_of_zero_le B;let H:=GP ⟨j,⋯⟩;let L:=k9 sg (Δ ((j:Nat):Int)) Φ;let c:=k9 (Txt.slice sg (Δ ((j:Nat):Int)) Φ) Φ (Δ 2);rw[nP]at L;let X:0 < (Txt.slice (Txt.slice sg (Δ ((j:Nat):Int)) Φ) Φ (Δ 2)).length:=H;let⟨y,e,f⟩:=vX n ns h ⋯ (z:=Txt.slice (Txt.slice sg (Δ ((j:Nat):Int)) Φ) Φ (Δ 2)) X ⋯;let J:=vW (o:=Θ) (cs:=y) ⋯;refine⟨LQ y,?_,by rw[jy];omega⟩;rw[g]at a;let sl:=nP;unfold sg at e L c sl;rw[gx 49 YL 2 4 Xk rfl];unfold Xk;simp![b,a,q,e,J,sl,lr]
structure Cn where
 m:Str
 w:Str
 ts:List Tn
abbrev Cn.d (c:Cn):D:=.t [.s c.m,.s c.w,.l Ξ (c.ts.map Tn.d)]
abbrev teq:Tn->Tn->Bool
 |.i a,.i b=>a == b
 |.s a,.s b=>a == b
 |_,_=>Ξ
abbrev mD:Option Tn->D
 |none=>.L
 |some t=>t.d
abbrev UA (x:Option Tn)(ts:List Tn):Bool:=match x with
 |none=>Ξ
 |some t=>ts.any λu=>teq u t
def Kw (u:Tn)(x:Option Tn):MP 40 u.d (mD x)=.ok (match x with|none=>Ξ|some t=>teq u t):=by
 rcases x with _|t
 ·cases u<;>rfl
 ·cases u<;>cases t<;>rfl
theorem AM (x:Option Tn):∀ts:List Tn,MW (mD x) (ts.map Tn.d)=.ok (UA x ts)
 |[]=>by cases x<;>rfl
 |u::ts=>by show KZ (MP 40 u.d (mD x)) (λa=>KZ (MW (mD x) (ts.map Tn.d)) λb=>.ok (a||b))=_;rw[Kw,AM x ts];cases x<;>rfl
def Jx (o:Bool)(x:Option Tn)(ts:List Tn):MN .P (mD x) (.l o (ts.map Tn.d))=.ok (UA x ts):=by
 have:=AM x ts;rcases x with _|t
 ·exact this
 ·cases t<;>exact this
def Jy (o:Bool)(x:Option Tn)(ts:List Tn):MN .T (mD x) (.l o (ts.map Tn.d))=.ok (!UA x ts):=by
 have:=AM x ts;let e:MN .T (mD x) (.l o (ts.map Tn.d))=KZ (MW (mD x) (ts.map Tn.d)) λr=>.ok !r:=by
  rcases x with _|t
  ·rfl
  ·cases t<;>rfl
 rw[e,this];rfl
def Kx (x:Option Tn):MN .Q (mD x) .L=.ok (!x.isSome):=by rcases x with _|t;rfl;cases t<;>rfl
def Ej (x:Option Tn):MN .O (mD x) .L=.ok x.isSome:=by rcases x with _|t;rfl;cases t<;>rfl
abbrev S3 (y:Str):Tn->Bool
 |.s z=>Txt.startswith y z
 |_=>Ξ
abbrev Jz (x:Option Tn)(ts:List Tn):Bool:=match x with
 |some (.s y)=>ts.any (S3 y)
 |_=>Ξ
abbrev leB (x:Option Tn)(ts:List Tn):Bool:=match x,ts with
 |some (.i a),.i b::_=>decide (b<=a)
 |_,_=>Ξ
abbrev Xs (x:Option Tn)(ts:List Tn):Bool:=match x,ts with
 |some (.i a),.i b::_=>decide (a<=b)
 |_,_=>Ξ
abbrev kq (w:Str)(ts:List Tn)(x:Option Tn):Bool:=
 if(w == Ρ "is")=Θ then UA x ts else if(w == Ρ "not")=Θ then !UA x ts else if(w == Ρ "begins")=Θ then Jz x ts
 else if(w == Ρ "least")=Θ then leB x ts else if(w == Ρ "most")=Θ then Xs x ts else if(w == Ρ "has")=Θ then x.isSome else !x.isSome
structure Wf (c:Cn):Prop where
 len:c.ts.length<=100
 beg:(c.w == Ρ "begins")=Θ->∀t∈c.ts,∃z,t=.s z
 lm:(c.w == Ρ "least")=Θ∨(c.w == Ρ "most")=Θ->∃z r,c.ts=.i z::r
def AN (n:Nat)(x:Option Tn):ba T (n+1) 24 [mD x]=.ok (.b (match x with|some (.i _)=>Θ|_=>Ξ)):=by
 rcases x with _|t
 ·rfl
 ·cases t with
  |i a=>rfl
  |s a=>rfl
def JA (x:Option Tn):er (mD x)=mD x:=by rcases x with _|t;rfl;cases t<;>rfl
def AO (ts:List Tn):fT (ts.map Tn.d)=Θ:=by rw[iT,List.all_map];exact M_.mpr λt _=>by cases t<;>rfl
def AQ (ts:List Tn):LM (ts.map Tn.d)=ts.map Tn.d:=jC (AO ts)
theorem uB (cl:Ä)(y:Str):∀ts:List Tn,(∀t∈ts,∃z,t=.s z)->iD (iP cl (.n 1) [] (.P .s (.v 0) [.v 1]) [Δ (.s y),Φ]) (ts.map Tn.d)=.ok ((ts.map (S3 y)).map .b)
 |[],_=>rfl
 |t::ts,h=>by let⟨z,rfl⟩:=h _ (.head _);refine nc ?_ (uB cl y ts λu H=>h u (.tail _ H));show iP cl (.n 1) [] (.P .s (.v 0) [.v 1]) [Δ (.s y),Φ] (.s z)=.ok (Δ (.b (Txt.startswith y z)));simp![ie]
def AR (y:Str)(ts:List Tn):(ts.map (S3 y)).any id=ts.any (S3 y):=by rw[List.any_map];rfl
def lK (e:K8 cl c a=.ok (.b b))(H:b=Θ->Ms cl s a=.ok (.r (.b f)))(h:b=Ξ->iz cl r a=.ok (.r (.b B))):iz cl (.L c [s] []::r) a=.ok (.r (.b (if b=Θ then f else B))):=by
 cases b with
 |true=>let H:=H rfl;rw[e_ rfl];simp![e,H]
 |false=>let h:=h rfl;rw[d_ p_];simp![e,h]
def sk (h:K8 cl c e=.ok (.b Ξ)):iz cl (.L c a []::r) e=iz cl r e:=by simp![h]
def Sb (h:K8 cl c f=.ok (.b Θ))(e:iz cl a f=.ok (.n τ')):iz cl (.L c a []::r) f=iz cl r τ':=by simp![h,e]
def sT (h:Ms cl s a=.ok (.n F)):iz cl [s] a=.ok (.n F):=by simp![h]
def vZ (H:ic e i=Δ (mD x))(f:ic e j=Δ (.l Ξ (ts.map Tn.d)))(h:∃z r,ts=.i z::r) :
  (x.bind (λt=>match t with|.i a=>Δ a|_=>Φ)).isSome=Θ->K8 cl (.a .g (.v i) (.i (.v j) (.c (.i 0)))) e=.ok (.b (leB x ts))/\K8 cl (.a .L (.v i) (.i (.v j) (.c (.i 0)))) e=.ok (.b (Xs x ts)):=by
 intro k;let⟨z,r,rfl⟩:=h;let I:iw (.l Ξ ((Tn.i z::r).map Tn.d)) (.i 0)=.ok (.i z):=by rw[Yp,qM .L nofun (by rw[a_,List.length_cons];omega)];rfl
 rcases x with _|(a|a)
 ·cases k
 ·let H:ic e i=Δ (.i a):=H;generalize(Tn.i z::r).map Tn.d=TS at *;constructor
  ·show _=Except.ok (D.b (decide (z<=a)));simp![H,f,I]
  ·show _=Except.ok (D.b (decide (a<=z)));simp![H,f,I]
 ·cases k
def uC (n:Nat)(c:Cn)(wf:Wf c)(x:Option Tn):ba T (n+2) 33 [.s c.w,.l Ξ (c.ts.map Tn.d),mD x]=.ok (.b (kq c.w c.ts x)):=by
 let⟨cm,w,ts⟩:=c;let m:ts.length<=100:=wf.len;show ba T (n+2) 33 [.s w,.l Ξ (ts.map Tn.d),mD x]=.ok (.b (kq w ts x));let k:=Jx Ξ x ts;let h:=Jy Ξ x ts;let E:=Kx x;let e:=Ej x;let ex:=JA x;let W:=AN n x;let H:iz (ba T (n+1)) W6 [Δ (.s w),Δ (.l Ξ (ts.map Tn.d)),Δ (mD x)]=.ok (.r (.b (kq w ts x))):=by
  unfold W6 kq;refine lK rfl (λ_=>?_) λ_=>lK rfl (λ_=>?_) λ_=>lK rfl (λq=>?_) λ_=>lK rfl (λq=>?_) λ_=>lK rfl (λq=>?_) λ_=>lK rfl (λ_=>?_) λ_=>?_
  ·rcases x with _|t
   ·rfl
   ·generalize mD (Δ t)=X,ts.map Tn.d=TS at *;simp![e,k,Option.isSome_some]
  ·rcases x with _|t
   ·rfl
   ·generalize mD (Δ t)=X,ts.map Tn.d=TS at *;simp![E,h,Option.isSome_some]
  ·rcases x with _|(a|a)
   ·rfl
   ·rfl
   ·show _=Except.ok (Fl.r (D.b (ts.any (S3 a))));let f:=uB (ba T (n+1)) a ts (wf.beg q);let A:=AR a ts;let lt:(ts.map Tn.d).length=ts.length:=i_ _;show Ms _ _ [Δ (.s w),Δ (.l Ξ (ts.map Tn.d)),Δ (.s a)]=_;generalize ts.map Tn.d=TS,ts.map (S3 a)=u at *;simp![f,A,lt]
  ·rcases x with _|(a|a)
   ·let W:ba T (n+1) 24 [.L]=.ok (.b Ξ):=W;show Ms _ _ [Δ (.s w),Δ (.l Ξ (ts.map Tn.d)),Δ .L]=Except.ok (Fl.r (D.b Ξ));generalize ts.map Tn.d=TS at *;simp![W]
   ·let W:ba T (n+1) 24 [.i a]=.ok (.b Θ):=W;let l:=(vZ (cl:=ba T (n+1)) (i:=2) (j:=1) (e:=[Δ (.s w),Δ (.l Ξ (ts.map Tn.d)),Δ (.i a)]) (x:=Δ (.i a)) rfl rfl (wf.lm (.inl q)) rfl).1;show Ms _ _ [Δ (.s w),Δ (.l Ξ (ts.map Tn.d)),Δ (.i a)]=_;generalize leB (Δ (.i a)) ts=L,ts.map Tn.d=TS,IR.a .g (.v 2) (.i (.v 1) (.c (.i 0)))=K at *;simp![W,l]
   ·let W:ba T (n+1) 24 [.s a]=.ok (.b Ξ):=W;show Ms _ _ [Δ (.s w),Δ (.l Ξ (ts.map Tn.d)),Δ (.s a)]=Except.ok (Fl.r (D.b Ξ));generalize ts.map Tn.d=TS at *;simp![W]
  ·rcases x with _|(a|a)
   ·let W:ba T (n+1) 24 [.L]=.ok (.b Ξ):=W;show Ms _ _ [Δ (.s w),Δ (.l Ξ (ts.map Tn.d)),Δ .L]=Except.ok (Fl.r (D.b Ξ));generalize ts.map Tn.d=TS at *;simp![W]
   ·let W:ba T (n+1) 24 [.i a]=.ok (.b Θ):=W;let l:=(vZ (cl:=ba T (n+1)) (i:=2) (j:=1) (e:=[Δ (.s w),Δ (.l Ξ (ts.map Tn.d)),Δ (.i a)]) (x:=Δ (.i a)) rfl rfl (wf.lm (.inr q)) rfl).2;show Ms _ _ [Δ (.s w),Δ (.l Ξ (ts.map Tn.d)),Δ (.i a)]=_;generalize Xs (Δ (.i a)) ts=L,ts.map Tn.d=TS,IR.a .L (.v 2) (.i (.v 1) (.c (.i 0)))=K at *;simp![W,l]
   ·let W:ba T (n+1) 24 [.s a]=.ok (.b Ξ):=W;show Ms _ _ [Δ (.s w),Δ (.l Ξ (ts.map Tn.d)),Δ (.s a)]=Except.ok (Fl.r (D.b Ξ));generalize ts.map Tn.d=TS at *;simp![W]
  ·generalize mD x=X,ts.map Tn.d=TS at *;simp![e]
  ·generalize mD x=X,ts.map Tn.d=TS at *;simp![E]
 rw[gx 33 d33 3 3 W6 rfl];generalize kq w ts x=p,mD x=X,ts.map Tn.d=TS,W6=B at *;simp![H]
abbrev MJ (p:Str×Tn):D:=.t [.s p.1,p.2.d]
abbrev l8 (ms:List (Str×Tn))(x:Str):Option Tn:=(ms.find? λp=>p.1 == x).map (·.2)
def AU (t:Tn):er t.d=t.d:=by cases t<;>rfl
def JB (t:Tn):il t.d=Θ:=by cases t<;>rfl
def oV (ms:List (Str×Tn)):LM (ms.map MJ)=ms.map MJ:=by rw[iI,z_];exact S_ λp _=>by show D.t [.s p.1,er p.2.d]=_;rw[AU];rfl
abbrev tK:Ê:=[.L (.a .e (.v 2) (.v 1)) [.r (.v 3)] []]
theorem AV (cl:Ä)(x:Str)(a:Ã):∀(ms:List (Str×Tn)) (b c:Ã),
  (∀t,l8 ms x=Δ t->forM (turn cl (.t [.n 2,.n 3]) tK) (ms.map MJ) [a,Δ (.s x),b,c]=.ok (.r t.d))/\
  (l8 ms x=Φ->∃B C,forM (turn cl (.t [.n 2,.n 3]) tK) (ms.map MJ) [a,Δ (.s x),b,c]=.ok (.n [a,Δ (.s x),B,C]))
 |[],b,c=>⟨λt h=>(by cases h),λ_=>⟨b,c,rfl⟩⟩
 |p::ms,b,c=>by
  let e:turn cl (.t [.n 2,.n 3]) tK (MJ p) [a,Δ (.s x),b,c]=if(p.1 == x)=Θ then .ok (.r p.2.d) else .ok (.n [a,Δ (.s x),Δ (.s p.1),Δ p.2.d]):=by unfold tK MJ;generalize p.2.d=E;cases h:(p.1 == x)<;>simp![ie,h]
  rw[a_,dt,e];unfold l8;rw[List.find?_cons];cases h:(p.1 == x) with
  |true=>exact⟨λt z=>(by cases z;rfl),λz=>(by cases z)⟩
  |false=>exact AV cl x a ms (Δ (.s p.1)) (Δ p.2.d)
def C4 (n:Nat)(ms:List (Str×Tn))(x:Str):ba T (n+1) 32 [.l Ξ (ms.map MJ),.s x]=.ok (mD (l8 ms x)):=by
 let h:=AV (ba T n) x (Δ (.l Ξ (ms.map MJ))) ms Φ Φ;let E:=oV ms;unfold tK at h;cases H:l8 ms x with
 |some t=>let e:=h.1 t H;show _=Except.ok t.d;rw[gx 32 YB 2 4 W5 rfl];unfold W5;generalize ms.map MJ=M,t.d=a at *;simp![E,e]
 |none=>let⟨b,c,e⟩:=h.2 H;show _=Except.ok D.L;rw[gx 32 YB 2 4 W5 rfl];unfold W5;generalize ms.map MJ=M at *;simp![E,e]
def lN (c:Cn):er c.d=c.d:=by show D.t [.s c.m,.s c.w,.l Ξ (LM (c.ts.map Tn.d))]=_;rw[AQ];rfl
abbrev MA (r:List Cn):D:=.l Ξ (r.map Cn.d)
def AW (r:List Cn):LM (r.map Cn.d)=r.map Cn.d:=by rw[iI,z_];exact S_ λc _=>lN c
def sU (r:List Cn):er (MA r)=MA r:=by show D.l Ξ (LM (r.map Cn.d))=_;rw[AW];rfl
def oX (rs:List (List Cn)):LM (rs.map MA)=rs.map MA:=by rw[iI,z_];exact S_ λc _=>sU c
structure Gp where
 nm:Str
 rows:List (List Cn)
abbrev Gp.d (g:Gp):D:=.t [.s g.nm,.l Ξ (g.rows.map MA)]
def JC (g:Gp):er g.d=g.d:=by show D.t [.s g.nm,.l Ξ (LM (g.rows.map MA))]=_;rw[oX];rfl
def ma (gs:List Gp):LM (gs.map Gp.d)=gs.map Gp.d:=by rw[iI,z_];exact S_ λc _=>JC c
abbrev O7 (w:Str):Bool:=(w == Ρ "in")||(w == Ρ "out")
def AX (n:Nat)  (wf:Wf c)(hi:O7 c.w=Ξ)  (h:er g=g)(ms:List (Str×Tn)):ba T (n+3) 34 [g,c.d,.l Ξ (ms.map MJ)]=.ok (.b (kq c.w c.ts (l8 ms c.m))):=by let f:=C4 (n+1) ms c.m;let a:=uC n c wf (l8 ms c.m);let ex:=JA (l8 ms c.m);let E:=oV ms;let e:=AQ c.ts;let⟨cm,w,ts⟩:=c;let hi:((w == Ρ "in")||(w == Ρ "out"))=Ξ:=hi;rw[Bool.or_eq_false_iff]at hi;let⟨Q,q⟩:=hi;show ba T (n+3) 34 [g,.t [.s cm,.s w,.l Ξ (ts.map Tn.d)],.l Ξ (ms.map MJ)]=_;generalize l8 ms cm=O at *;generalize kq w ts O=B,mD O=X,ms.map MJ=M,ts.map Tn.d=TS at *;rw[gx 34 W8 3 5 Um rfl];unfold Um;simp![Q,q,h,E,e,ex,f,a]
abbrev tC:Ê:=[.L (.f (.C 34 [.v 0,.v 3,.v 2])) [.r (.c (.b Ξ))] []]
theorem AY (n:Nat)  (i:er g=g)(f:er m=m)(p:Cn->Bool)(a:Ã):∀(cs:List Cn) (b:Ã),(∀c∈cs,ba T n 34 [g,c.d,m]=.ok (.b (p c)))->
  (cs.all p=Θ->∃B,forM (turn (ba T n) (.n 3) tC) (cs.map Cn.d) [Δ g,a,Δ m,b]=.ok (.n [Δ g,a,Δ m,B]))/\
  (cs.all p=Ξ->forM (turn (ba T n) (.n 3) tC) (cs.map Cn.d) [Δ g,a,Δ m,b]=.ok (.r (.b Ξ)))
 |[],b,_=>⟨λ_=>⟨b,rfl⟩,λh=>(by cases h)⟩
 |c::cs,b,h=>by
  let e:=h c (.head _);let j:=lN c;let E:turn (ba T n) (.n 3) tC c.d [Δ g,a,Δ m,b]=if p c=Θ then .ok (.n [Δ g,a,Δ m,Δ c.d]) else .ok (.r (.b Ξ)):=by unfold tC;generalize c.d=C at *;cases H:p c<;>rw[H]at e<;>simp![ie,i,f,j,e]
  rw[a_,dt,E,List.all_cons];cases H:p c with
  |true=>exact AY n i f p a cs (Δ c.d) λd hd=>h d (.tail _ hd)
  |false=>exact⟨λh=>(by cases h),λ_=>rfl⟩
def v7 (n:Nat)  (f:er g=g)(a:er m=m)(p:Cn->Bool)(cs:List Cn)(h:∀c∈cs,ba T n 34 [g,c.d,m]=.ok (.b (p c))):ba T (n+1) 35 [g,MA cs,m]=.ok (.b (cs.all p)):=by
 let l:=AY n f a p (Δ (MA cs)) cs Φ h;let E:=AW cs;unfold MA at l ⊢;cases H:cs.all p with
 |true=>let⟨b,e⟩:=l.1 H;unfold tC at e;rw[gx 35 YC 3 4 Xa rfl];unfold Xa;generalize cs.map Cn.d=C at *;simp![E,e]
 |false=>let e:=l.2 H;unfold tC at e;rw[gx 35 YC 3 4 Xa rfl];unfold Xa;generalize cs.map Cn.d=C at *;simp![E,e]
abbrev tR:Ê:=[.L (.C 35 [.v 0,.v 3,.v 2]) [.r (.c (.b Θ))] []]
theorem AZ (n:Nat)  (f:er g=g)(c:er m=m)(p:Cn->Bool)(a:Ã):∀(rs:List (List Cn)) (b:Ã),(∀r∈rs,ba T n 35 [g,MA r,m]=.ok (.b (r.all p)))->
  (rs.any (·.all p)=Ξ->∃B,forM (turn (ba T n) (.n 3) tR) (rs.map MA) [Δ g,a,Δ m,b]=.ok (.n [Δ g,a,Δ m,B]))/\
  (rs.any (·.all p)=Θ->forM (turn (ba T n) (.n 3) tR) (rs.map MA) [Δ g,a,Δ m,b]=.ok (.r (.b Θ)))
 |[],b,_=>⟨λ_=>⟨b,rfl⟩,λh=>(by cases h)⟩
 |r::rs,b,h=>by
  let e:=h r (.head _);let i:=sU r;let E:turn (ba T n) (.n 3) tR (MA r) [Δ g,a,Δ m,b]=if r.all p=Θ then .ok (.r (.b Θ)) else .ok (.n [Δ g,a,Δ m,Δ (MA r)]):=by unfold tR;generalize MA r=C at *;cases H:r.all p<;>rw[H]at e<;>simp![ie,f,c,i,e]
  rw[a_,dt,E,List.any_cons];cases H:r.all p with
  |false=>exact AZ n f c p a rs (Δ (MA r)) λd hd=>h d (.tail _ hd)
  |true=>exact⟨λh=>(by cases h),λ_=>rfl⟩
def GQ (n:Nat)  (c:er g=g)(a:er m=m)(p:Cn->Bool)(rs:List (List Cn))(h:∀r∈rs,ba T n 35 [g,MA r,m]=.ok (.b (r.all p))):ba T (n+1) 36 [g,.l Ξ (rs.map MA),m]=.ok (.b (rs.any (·.all p))):=by
 let l:=AZ n c a p (Δ (.l Ξ (rs.map MA))) rs Φ h;let E:=oX rs;cases H:rs.any (·.all p) with
 |false=>let⟨b,e⟩:=l.1 H;unfold tR at e;rw[gx 36 YD 3 4 Xb rfl];unfold Xb;generalize rs.map MA=C at *;simp![E,e]
 |true=>let e:=l.2 H;unfold tR at e;rw[gx 36 YD 3 4 Xb rfl];unfold Xb;generalize rs.map MA=C at *;simp![E,e]
abbrev md (p:Cn->Bool)(gs:List Gp)(x:Str):Bool:=match gs.find? λg=>g.nm == x with
 |some g=>g.rows.any (·.all p)
 |none=>Ξ
abbrev tG:Ê:=[.L (.a .e (.v 3) (.v 1)) [.r (.C 36 [.v 0,.v 4,.v 2])] []]
theorem A0 (n:Nat)  (f:er G=G)(a:er m=m)(p:Cn->Bool)(x:Str):∀(gs:List Gp) (b c:Ã),(∀g∈gs,ba T n 36 [G,.l Ξ (g.rows.map MA),m]=.ok (.b (g.rows.any (·.all p))))->
  (∀g,gs.find? (λg=>g.nm == x)=Δ g->forM (turn (ba T n) (.t [.n 3,.n 4]) tG) (gs.map Gp.d) [Δ G,Δ (.s x),Δ m,b,c]=.ok (.r (.b (g.rows.any (·.all p)))))/\
  (gs.find? (λg=>g.nm == x)=Φ->∃B C,forM (turn (ba T n) (.t [.n 3,.n 4]) tG) (gs.map Gp.d) [Δ G,Δ (.s x),Δ m,b,c]=.ok (.n [Δ G,Δ (.s x),Δ m,B,C]))
 |[],b,c,_=>⟨λg h=>(by cases h),λ_=>⟨b,c,rfl⟩⟩
 |g::gs,b,c,h=>by
  let e:=h g (.head _);let i:=oX g.rows;let E:turn (ba T n) (.t [.n 3,.n 4]) tG g.d [Δ G,Δ (.s x),Δ m,b,c]=if(g.nm == x)=Θ then .ok (.r (.b (g.rows.any (·.all p)))) else .ok (.n [Δ G,Δ (.s x),Δ m,Δ (.s g.nm),Δ (.l Ξ (g.rows.map MA))]):=by unfold tG Gp.d;generalize g.rows.map MA=j at *;cases H:(g.nm == x)<;>simp![ie,f,a,i,e,H]
  rw[a_,dt,E,List.find?_cons];cases H:(g.nm == x) with
  |true=>exact⟨λq z=>(by cases z;rfl),λz=>(by cases z)⟩
  |false=>exact A0 n f a p x gs _ _ λd hd=>h d (.tail _ hd)
def C5 (n:Nat)  (a:er m=m)(p:Cn->Bool)(x:Str)(gs:List Gp)(h:∀g∈gs,ba T n 36 [.l Ξ (gs.map Gp.d),.l Ξ (g.rows.map MA),m]=.ok (.b (g.rows.any (·.all p)))):ba T (n+1) 37 [.l Ξ (gs.map Gp.d),.s x,m]=.ok (.b (md p gs x)):=by
 let f:er (.l Ξ (gs.map Gp.d))=.l Ξ (gs.map Gp.d):=by show D.l Ξ (LM _)=_;rw[ma]
 let l:=A0 n f a p x gs Φ Φ h;let E:=ma gs;unfold md;cases H:gs.find? (λg=>g.nm == x) with
 |some g=>let e:=l.1 g H;unfold tG at e;show _=Except.ok (D.b (g.rows.any (·.all p)));rw[gx 37 YE 3 5 Xc rfl];unfold Xc;generalize gs.map Gp.d=C at *;simp![E,e]
 |none=>let⟨b,c,e⟩:=l.2 H;unfold tG at e;show _=Except.ok (D.b Ξ);rw[gx 37 YE 3 5 Xc rfl];unfold Xc;generalize gs.map Gp.d=C at *;simp![E,e]
abbrev pB (ms:List (Str×Tn))(c:Cn):Bool:=kq c.w c.ts (l8 ms c.m)
abbrev jn (gs:List Gp)(ms:List (Str×Tn))(c:Cn):Bool:=if(c.w == Ρ "in")=Θ then md (pB ms) gs c.m else if(c.w == Ρ "out")=Θ then !md (pB ms) gs c.m else pB ms c
def Vl (gs:List Gp):Prop:=∀g∈gs,∀r∈g.rows,∀c∈r,Wf c/\O7 c.w=Ξ
abbrev Mk (gs:List Gp):D:=.l Ξ (gs.map Gp.d)
abbrev MB (ms:List (Str×Tn)):D:=.l Ξ (ms.map MJ)
def jz (gs:List Gp):er (Mk gs)=Mk gs:=by show D.l Ξ (LM _)=_;rw[ma];rfl
def jR (ms:List (Str×Tn)):er (MB ms)=MB ms:=by show D.l Ξ (LM _)=_;rw[oV];rfl
def A1 (n:Nat)  (H:Vl gs)(ms:List (Str×Tn))(x:Str):ba T (n+6) 37 [Mk gs,.s x,MB ms]=.ok (.b (md (pB ms) gs x)):=
 C5 (n+5) (jR ms) (pB ms) x gs λg Q=>GQ (n+4) (jz gs) (jR ms) (pB ms) g.rows λr h=>v7 (n+3) (jz gs) (jR ms) (pB ms) r λc a=>AX n (H g Q r h c a).1 (H g Q r h c a).2 (jz gs) ms
def C6 (n:Nat)  (H:Vl gs)(ms:List (Str×Tn))  (wf:Wf c):ba T (n+7) 34 [Mk gs,c.d,MB ms]=.ok (.b (jn gs ms c)):=by
 cases hi:O7 c.w with
 |false=>have:=AX (n+4) wf hi (jz gs) ms;let h:=Bool.or_eq_false_iff.mp (show((c.w == Ρ "in")||(c.w == Ρ "out"))=Ξ from hi);unfold jn;rw[d_ (by rw[h.1];exact p_),d_ (by rw[h.2];exact p_)];exact this
 |true=>
  let e:=A1 n H ms c.m;let a:=jz gs;let E:=jR ms;unfold jn;let⟨cm,w,ts⟩:=c;show ba T (n+7) 34 [Mk gs,.t [.s cm,.s w,.l Ξ (ts.map Tn.d)],MB ms]=.ok (.b (if(w == Ρ "in")=Θ then md (pB ms) gs cm else if(w == Ρ "out")=Θ then !md (pB ms) gs cm else pB ms ⟨cm,w,ts⟩));let e:ba T (n+6) 37 [Mk gs,.s cm,MB ms]=.ok (.b (md (pB ms) gs cm)):=e;generalize md (pB ms) gs cm=B,Mk gs=G,MB ms=M,ts.map Tn.d=TS at *;cases q:(w == Ρ "in") with
  |true=>rw[e_ rfl];rw[gx 34 W8 3 5 Um rfl];unfold Um;simp![q,a,E,e]
  |false=>
   let Q:(w == Ρ "out")=Θ:=by let hi:((w == Ρ "in")||(w == Ρ "out"))=Θ:=hi;rw[q]at hi;exact hi
   rw[d_ p_,Q,e_ rfl];rw[gx 34 W8 3 5 Um rfl];unfold Um;simp![q,Q,a,E,e]
def A4 (n:Nat)  (h:Vl gs)(ms:List (Str×Tn))  (wf:∀c∈cs,Wf c):ba T (n+8) 35 [Mk gs,MA cs,MB ms]=.ok (.b (cs.all (jn gs ms))):=
 v7 (n+7) (jz gs) (jR ms) (jn gs ms) cs λc H=>C6 n h ms (wf c H)
abbrev LU (p:Int×Int):D:=.t [.i p.1,.i p.2]
@[reducible]def _root_.É:=List (Int×Int)
def ja (l:É):LM (l.map LU)=l.map LU:=by rw[iI,z_];rfl
abbrev YR (a:Int)(s:Int)(p:Int×Int):Int:=if decide (p.1<=a)=Θ then p.2 else s
abbrev shr (st:É)(a:Int):Int:=st.foldl (YR a) 0
abbrev YT:Ê:=[.L (.a .L (.v 3) (.v 1)) [.a (.n 2) (.v 4)] []]
theorem A5 (cl:Ä)(a:Ã)(e:Int):∀(st:É) (s:Int) (b c:Ã),∃B C,forM (turn cl (.t [.n 3,.n 4]) YT) (st.map LU) [a,Δ (.i e),Δ (.i s),b,c]=.ok (.n [a,Δ (.i e),Δ (.i (st.foldl (YR e) s)),B,C])
 |[],s,b,c=>⟨b,c,rfl⟩
 |p::st,s,b,c=>by
  let E:turn cl (.t [.n 3,.n 4]) YT (LU p) [a,Δ (.i e),Δ (.i s),b,c]=.ok (.n [a,Δ (.i e),Δ (.i (YR e s p)),Δ (.i p.1),Δ (.i p.2)]):=by unfold YT LU YR;cases h:decide (p.1<=e)<;>simp![ie,h]
  rw[a_,dt,E,aah];exact A5 cl a e st _ _ _
def v8 (h:T f=Δ fn)(O:fn.io=Ξ)(j:fn.np=2)(g:fn.G.N.length=5)(H:fn.body=YA)(n:Nat)(st:É)(a:Int):ba T (n+1) f [.l Ξ (st.map LU),.i a]=.ok (.i (shr st a)):=by let⟨b,c,e⟩:=A5 (ba T n) (Δ (.l Ξ (st.map LU))) a st 0 Φ Φ;let E:=ja st;unfold YT at e;rw[go h O j g H rfl];unfold YA shr;generalize st.map LU=ST at *;simp![E,e]
def A6 (n:Nat)(st:É)(a:Int):ba T (n+1) 38 [.l Ξ (st.map LU),.i a]=.ok (.i (shr st a)):=v8 (fn:=d38) rfl rfl rfl rfl rfl n st a
def xw (n:Nat)(st:É)(a:Int):ba T (n+1) 61 [.l Ξ (st.map LU),.i a]=.ok (.i (shr st a)):=v8 (fn:=d61) rfl rfl rfl rfl rfl n st a
abbrev UB (z:Int)(p:Int×Int):Bool:=decide (p.1<=z)&&decide (z < p.2)
abbrev inR (z:Int)(run:É):Bool:=run.any (UB z)
abbrev tI:Ê:=[.L (.e .L .l (.v 3) (.v 1) (.v 4)) [.r (.b .s (.b .a (.v 2) (.v 1)) (.v 3))] [],.a (.n 2) (.b .s (.b .a (.v 2) (.v 4)) (.v 3))]
theorem A7 (cl:Ä)(a:Ã)(z:Int):∀(run:É) (s:Int) (b c:Ã),
  (inR z run=Θ->∃i:Int,forM (turn cl (.t [.n 3,.n 4]) tI) (run.map LU) [a,Δ (.i z),Δ (.i s),b,c]=.ok (.r (.i i)))/\
  (inR z run=Ξ->∃S B C,forM (turn cl (.t [.n 3,.n 4]) tI) (run.map LU) [a,Δ (.i z),Δ (.i s),b,c]=.ok (.n [a,Δ (.i z),S,B,C]))
 |[],s,b,c=>⟨λh=>(by cases h),λ_=>⟨_,b,c,rfl⟩⟩
 |p::run,s,b,c=>by
  let e:turn cl (.t [.n 3,.n 4]) tI (LU p) [a,Δ (.i z),Δ (.i s),b,c]=if UB z p=Θ then .ok (.r (.i (s+z - p.1))) else .ok (.n [a,Δ (.i z),Δ (.i (s+p.2 - p.1)),Δ (.i p.1),Δ (.i p.2)]):=by unfold tI LU UB;cases h:decide (p.1<=z)<;>cases H:decide (z < p.2)<;>simp![ie,h,H,Bool.and_true,Bool.and_false,Bool.true_and,Bool.false_and]
  rw[a_,dt,e];unfold inR;rw[List.any_cons];cases h:UB z p with
  |true=>exact⟨λ_=>⟨_,rfl⟩,λz=>(by cases z)⟩
  |false=>exact A7 cl a z run _ _ _
def GR (n:Nat)(run:É)(z:Int):∃d,ba T (n+1) 30 [.l Ξ (run.map LU),.i z]=.ok d/\MN .O d .L=.ok (inR z run):=by
 let l:=A7 (ba T n) (Δ (.l Ξ (run.map LU))) z run 0 Φ Φ;let E:=ja run;cases h:inR z run with
 |true=>let⟨i,e⟩:=l.1 h;unfold tI at e;refine⟨.i i,?_,rfl⟩;rw[gx 30 YF 2 5 Xd rfl];unfold Xd;generalize run.map LU=ST at *;simp![E,e]
 |false=>let⟨s,b,c,e⟩:=l.2 h;unfold tI at e;refine⟨.L,?_,rfl⟩;rw[gx 30 YF 2 5 Xd rfl];unfold Xd;generalize run.map LU=ST at *;simp![E,e]
@[reducible]def Al:=List (Str×É)
abbrev Na (p:Str×É):D:=.t [.s p.1,.l Ξ (p.2.map LU)]
abbrev Mx (al:Al)(fr:É):D:=.t [.l Ξ (al.map Na),.l Ξ (fr.map LU)]
def JD (p:Str×É):er (Na p)=Na p:=by show D.t [.s p.1,.l Ξ (LM (p.2.map LU))]=_;rw[ja];rfl
def qS (al:Al):LM (al.map Na)=al.map Na:=by rw[iI,z_];exact S_ λp _=>JD p
def p7 (al:Al)(fr:É):er (Mx al fr)=Mx al fr:=by show D.t [.l Ξ (LM (al.map Na)),.l Ξ (LM (fr.map LU))]=_;rw[qS,ja];rfl
abbrev PB (al:Al)(z:Int):Option Str:=(al.find? λp=>inR z p.2).map (·.1)
abbrev oD:Option Str->D
 |some x=>.s x
 |none=>.L
abbrev tF:Ê:=[.L (.a .O (.C 30 [.v 3,.v 1]) (.c .L)) [.r (.v 2)] []]
theorem A8 (n:Nat)(a:Ã)(z:Int):∀(al:Al) (b c:Ã),
  (∀x,PB al z=Δ x->forM (turn (ba T (n+1)) (.t [.n 2,.n 3]) tF) (al.map Na) [a,Δ (.i z),b,c]=.ok (.r (.s x)))/\
  (PB al z=Φ->∃B C,forM (turn (ba T (n+1)) (.t [.n 2,.n 3]) tF) (al.map Na) [a,Δ (.i z),b,c]=.ok (.n [a,Δ (.i z),B,C]))
 |[],b,c=>⟨λx h=>(by cases h),λ_=>⟨b,c,rfl⟩⟩
 |p::al,b,c=>by
  let⟨d,g,e⟩:=GR n p.2 z;let f:=ja p.2;let E:turn (ba T (n+1)) (.t [.n 2,.n 3]) tF (Na p) [a,Δ (.i z),b,c]=if inR z p.2=Θ then .ok (.r (.s p.1)) else .ok (.n [a,Δ (.i z),Δ (.s p.1),Δ (.l Ξ (p.2.map LU))]):=by unfold tF Na;generalize p.2.map LU=P at *;cases h:inR z p.2<;>rw[h]at e<;>simp![ie,f,g,e]
  rw[a_,dt,E];unfold PB;rw[List.find?_cons];cases h:inR z p.2 with
  |true=>exact⟨λx z=>(by cases z;rfl),λz=>(by cases z)⟩
  |false=>exact A8 n a z al _ _
def C7 (n:Nat)(al:Al)(fr:É)(z:Int):ba T (n+2) 31 [Mx al fr,.i z]=.ok (oD (PB al z)):=by
 let l:=A8 n (Δ (Mx al fr)) z al Φ Φ;let X:iw (Mx al fr) (.i 0)=.ok (.l Ξ (al.map Na)):=rfl;let a:=p7 al fr;let E:=qS al;unfold tF at l;cases h:PB al z with
 |some x=>let e:=l.1 x h;show _=Except.ok (D.s x);rw[gx 31 YG 2 4 Xe rfl];unfold Xe;generalize Mx al fr=A,al.map Na=F at *;simp![X,a,E,e]
 |none=>let⟨b,c,e⟩:=l.2 h;show _=Except.ok D.L;rw[gx 31 YG 2 4 Xe rfl];unfold Xe;generalize Mx al fr=A,al.map Na=F at *;simp![X,a,E,e]
inductive Oc where
 | F (f:Str)|s (f:Str) (st:É)|U
abbrev Oc.d:Oc->D
 |.F f=>.t [.s "face",.s f]
 |.s f st=>.t [.s "share",.s f,.l Ξ (st.map LU)]
 |.U=>.t [.s "lot"]
def A9 (o:Oc):er o.d=o.d:=by
 cases o with
 |s f st=>show D.t [.s "share",.s f,.l Ξ (LM (st.map LU))]=_;rw[ja];rfl
 |_=>rfl
abbrev Xt (al:Al)(a z:Int):Oc->Option Str
 |.F f=>Δ f
 |.s f st=>if decide (z < shr st a)=Θ then Δ f else Φ
 |.U=>PB al z
def YU:(Ρ "share" == Ρ "face")=Ξ:=∅
def l_f:(Ρ "lot" == Ρ "face")=Ξ:=∅
def l_s:(Ρ "lot" == Ρ "share")=Ξ:=∅
def outcome (n:Nat)(o:Oc)(al:Al)(fr:É)(a z:Int):ba T (n+3) 39 [o.d,Mx al fr,.i a,.i z]=.ok (oD (Xt al a z o)):=by
 let c:=C7 n al fr z;let b:=p7 al fr;cases o with
 |F f=>show ba T (n+3) 39 [.t [.s "face",.s f],Mx al fr,.i a,.i z]=.ok (.s f);generalize Mx al fr=A at *;rw[gx 39 Vk 4 4 Sa rfl];unfold Sa;simp![LJ]
 |s f st=>
  let E:=A6 (n+1) st a;let e:=ja st;show ba T (n+3) 39 [.t [.s "share",.s f,.l Ξ (st.map LU)],Mx al fr,.i a,.i z]=.ok (oD (if decide (z < shr st a)=Θ then Δ f else Φ));generalize Mx al fr=A,st.map LU=P at *;cases h:decide (z < shr st a) with
  |true=>rw[e_ rfl];show _=Except.ok (D.s f);rw[gx 39 Vk 4 4 Sa rfl];unfold Sa;simp![YU,e,E,h]
  |false=>rw[d_ p_];show _=Except.ok D.L;rw[gx 39 Vk 4 4 Sa rfl];unfold Sa;simp![YU,e,E,h]
 |U=>
  show ba T (n+3) 39 [.t [.s "lot"],Mx al fr,.i a,.i z]=.ok (oD (PB al z));let lo:il (oD (PB al z))=Θ:=by cases PB al z<;>rfl
  generalize Mx al fr=A,oD (PB al z)=O at *;rw[gx 39 Vk 4 4 Sa rfl];unfold Sa;simp![l_f,l_s,b,c,lo]
structure Rl where
 cs:List Cn
 o:Oc
abbrev Rl.d (r:Rl):D:=.t [MA r.cs,r.o.d]
def Ek (r:Rl):er r.d=r.d:=by show D.t [er (MA r.cs),er r.o.d]=_;rw[sU,A9];rfl
def uD (rs:List Rl):LM (rs.map Rl.d)=rs.map Rl.d:=by rw[iI,z_];exact S_ λr _=>Ek r
abbrev idx (rs:List Rl):List (Nat×Rl):=(List.range rs.length).zip rs
abbrev inD (q:Nat×Rl):D:=.t [.i (q.1:Nat),q.2.d]
def Ba (rs:List Rl):lV (rs.map Rl.d)=(idx rs).map inD:=by unfold lV idx;rw[i_,List.zipWith_map_right,List.zip,List.map_zipWith];rfl
def uE (h:q∈idx rs):rs[q.1]? = Δ q.2/\q.2∈rs/\q.1 < rs.length:=by let⟨k,c⟩:=aao.mp h;let⟨e,b⟩:=List.getElem?_zip_eq_some.mp c;let⟨a,H⟩:=v_.mp e;rw[List.getElem_range]at H;rw[<- H];exact⟨b,Z_ b,by rw[R_]at a;exact a⟩
abbrev MQ (S rest:Str)(rs:List Rl)(al:Al)(fr:É):D:=.t [.s S,.s rest,.l Ξ (rs.map Rl.d),Mx al fr]
def qT (S rest:Str)(rs:List Rl)(al:Al)(fr:É):er (MQ S rest rs al fr)=MQ S rest rs al fr:=by show D.t [.s S,.s rest,.l Ξ (LM (rs.map Rl.d)),er (Mx al fr)]=_;rw[uD,p7];rfl
theorem uF {a:Type}{g:D->Res (Ã)}(O:a->D)(p:a->Bool)(out:a->D):∀X:List a,(∀x∈X,g (O x)=.ok (if p x=Θ then Δ (out x) else Φ))->iD g (X.map O)=.ok ((X.filter p).map out)
 |[],_=>rfl
 |x::X,h=>by
  let i:=uF O p out X λy H=>h y (J_ _ H);rw[a_,List.filter_cons];show KZ (g (O x)) _=_;rw[h x (.head _)];cases p x with
  |true=>show KZ (iD _ _) _=_;rw[i];rfl
  |false=>exact i
abbrev O0 (q:Nat×Rl):D:=.i (q.1:Nat)
def C8 (n:Nat)  (a:Vl gs)(ms:List (Str×Tn))(s rest:Str)  (al:Al)(fr:É)(wf:∀r∈rs,∀c∈r.cs,Wf c)(j:rs.length<=100) :
  ba T (n+9) 40 [Mk gs,MQ s rest rs al fr,MB ms]=.ok (.l Θ (((idx rs).filter λq=>q.2.cs.all (jn gs ms)).map O0)):=by
 let x:iw (MQ s rest rs al fr) (.i 2)=.ok (.l Ξ (rs.map Rl.d)):=rfl;let E:=Ba rs;let g:=jz gs;let b:=jR ms;let f:iD (iP (ba T (n+8)) (.t [.n 2,.n 3]) [.C 35 [.v 0,.i (.v 3) (.c (.i 0)),.v 1]] (.v 2) [Δ (Mk gs),Δ (MB ms),Φ,Φ]) ((idx rs).map inD)=.ok (((idx rs).filter λq=>q.2.cs.all (jn gs ms)).map O0):=by refine uF inD (λq=>q.2.cs.all (jn gs ms)) O0 (idx rs) λq H=>?_;let e:=A4 n a ms (wf q.2 (uE H).2.1);let X:iw q.2.d (.i 0)=.ok (MA q.2.cs):=rfl;let Y:=sU q.2.cs;unfold inD O0;generalize Mk gs=G,MB ms=M,q.2.d=RD,MA q.2.cs=W at *;cases h:q.2.cs.all (jn gs ms)<;>rw[h]at e<;>simp![ie,g,b,Y,X,e]
 let le:((idx rs).map inD).length<=100:=by rw[<- E];unfold lV;rw[List.length_zipWith,R_,i_];omega
 let lf:fT (((idx rs).filter λq=>q.2.cs.all (jn gs ms)).map O0)=Θ:=by rw[iT,List.all_map];exact M_.mpr λ_ _=>rfl
 rw[gx 40 d40 3 3 b40 rfl];unfold b40;generalize MQ s rest rs al fr=S,((idx rs).filter λq=>q.2.cs.all (jn gs ms)).map O0=N,(idx rs).map inD=I,rs.map Rl.d=RS,Mk gs=G,MB ms=M at *;simp![x,E,f,lf]
abbrev tA:Ê:=[.a (.n 5) (.C 39 [.i (.i (.i (.v 0) (.c (.i 2))) (.v 4)) (.c (.i 1)),.i (.v 0) (.c (.i 3)),.v 1,.v 3]),.L (.a .O (.v 5) (.c .L)) [.r (.t [.v 5,.v 4])] []]
abbrev fst (al:Al)(a z:Int)(l:List (Nat×Rl)):Option (Str×Nat):=match l with
 |[]=>Φ
 |q::l=>match Xt al a z q.2.o with
  |some f=>Δ (f,q.1)
  |none=>fst al a z l
theorem Bb (n:Nat)(a rest:Str)  (al:Al)(fr:É)(g z:Int)(N:Ã):∀(l:List (Nat×Rl)),(∀q∈l,q∈idx rs)->∀(b c:Ã),
  (∀f i,fst al g z l=Δ (f,i)->forM (turn (ba T (n+3)) (.n 4) tA) (l.map O0) [Δ (MQ a rest rs al fr),Δ (.i g),N,Δ (.i z),b,c]=.ok (.r (.t [.s f,.i (i:Nat)])))/\
  (fst al g z l=Φ->∃B C,forM (turn (ba T (n+3)) (.n 4) tA) (l.map O0) [Δ (MQ a rest rs al fr),Δ (.i g),N,Δ (.i z),b,c]=.ok (.n [Δ (MQ a rest rs al fr),Δ (.i g),N,Δ (.i z),B,C]))
 |[],_,b,c=>⟨λf i h=>(by cases h),λ_=>⟨b,c,rfl⟩⟩
 |q::l,k,b,c=>by
  let H:=uE (k q (.head _));let e:=outcome n q.2.o al fr g z;let j:iw (MQ a rest rs al fr) (.i 2)=.ok (.l Ξ (rs.map Rl.d)):=rfl;let X:iw (MQ a rest rs al fr) (.i 3)=.ok (Mx al fr):=rfl;let x:iw (.l Ξ (rs.map Rl.d)) (.i (q.1:Nat))=.ok q.2.d:=by rw[Yp];unfold M5 NT;rw[e_ (Int.natCast_nonneg _),e_ (by rw[i_];have:=H.2.2;omega)];show(match(rs.map Rl.d)[((q.1:Nat):Int).toNat]? with|some d=>_|none=>_)=_;rw[aae,D_,H.1];rfl
  let y:iw q.2.d (.i 1)=.ok q.2.o.d:=rfl;let m:=A9 q.2.o;let p:=p7 al fr;unfold O0;rw[a_,dt];show(∀f i,fst al g z (q::l)=Δ (f,i)->KZ (turn (ba T (n+3)) (.n 4) tA (.i (q.1:Nat)) _) _=_)/\(fst al g z (q::l)=Φ->∃B C,KZ (turn (ba T (n+3)) (.n 4) tA (.i (q.1:Nat)) _) _=_)
  unfold fst;cases h:Xt al g z q.2.o with
  |some f=>
   rw[h]at e;let e:ba T (n+3) 39 [q.2.o.d,Mx al fr,.i g,.i z]=.ok (.s f):=e;let E:turn (ba T (n+3)) (.n 4) tA (.i (q.1:Nat)) [Δ (MQ a rest rs al fr),Δ (.i g),N,Δ (.i z),b,c]=.ok (.r (.t [.s f,.i (q.1:Nat)])):=by unfold tA;generalize MQ a rest rs al fr=S,rs.map Rl.d=RS,q.2.d=Q,q.2.o.d=O,Mx al fr=A at *;simp![ie,j,X,x,y,m,p,e]
   rw[E];exact⟨λf i z=>(by cases z;rfl),λz=>(by cases z)⟩
  |none=>
   rw[h]at e;let e:ba T (n+3) 39 [q.2.o.d,Mx al fr,.i g,.i z]=.ok .L:=e;let E:turn (ba T (n+3)) (.n 4) tA (.i (q.1:Nat)) [Δ (MQ a rest rs al fr),Δ (.i g),N,Δ (.i z),b,c]=.ok (.n [Δ (MQ a rest rs al fr),Δ (.i g),N,Δ (.i z),Δ (.i (q.1:Nat)),Δ .L]):=by unfold tA;generalize MQ a rest rs al fr=S,rs.map Rl.d=RS,q.2.d=Q,q.2.o.d=O,Mx al fr=A at *;simp![ie,j,X,x,y,m,p,e]
   rw[E];exact Bb n a rest al fr g z N l (λq H=>k q (.tail _ H)) _ _
abbrev dcD (rest:Str)(k:Nat):Option (Str×Nat)->D
 |some (f,i)=>.t [.s f,.i (i:Nat)]
 |none=>.t [.s rest,.i (k:Nat)]
def Bc (l:List (Nat×Rl)):LM (l.map O0)=l.map O0:=by rw[iI,z_];rfl
def among (n:Nat)(g rest:Str)  (al:Al)(fr:É)(j z:Int)(l:List (Nat×Rl))(H:∀q∈l,q∈idx rs) :
  ba T (n+4) 41 [MQ g rest rs al fr,.i j,.l Ξ (l.map O0),.i z]=.ok (dcD rest rs.length (fst al j z l)):=by
 let a:=Bb n g rest al fr j z (Δ (.l Ξ (l.map O0))) l H Φ Φ;let E:=Bc l;let X:iw (MQ g rest rs al fr) (.i 1)=.ok (.s rest):=rfl;let x:iw (MQ g rest rs al fr) (.i 2)=.ok (.l Ξ (rs.map Rl.d)):=rfl;let ln:(rs.map Rl.d).length=rs.length:=i_ _;unfold tA at a;cases h:fst al j z l with
 |some p=>let⟨f,i⟩:=p;let e:=a.1 f i h;show _=Except.ok (D.t [.s f,.i (i:Nat)]);rw[gx 41 YH 4 6 Xf rfl];unfold Xf;generalize MQ g rest rs al fr=S,l.map O0=L at *;simp![E,e]
 |none=>let⟨b,c,e⟩:=a.2 h;show _=Except.ok (D.t [.s rest,.i (rs.length:Nat)]);rw[gx 41 YH 4 6 Xf rfl];unfold Xf;generalize MQ g rest rs al fr=S,l.map O0=L,rs.map Rl.d=RS at *;simp![E,e,X,x,ln]
abbrev Mn (m:Int)(ms:List (Str×Tn)):D:=.t [.i m,MB ms]
def v9 (m:Int)(ms:List (Str×Tn)):er (Mn m ms)=Mn m ms:=by show D.t [.i m,er (MB ms)]=_;rw[jR];rfl
abbrev told (gs:List Gp)(ms:List (Str×Tn))(rest:Str)(rs:List Rl)(al:Al)(a z:Int):D:=dcD rest rs.length (fst al a z ((idx rs).filter λq=>q.2.cs.all (jn gs ms)))
def xx (n:Nat)  (f:Vl gs)(ms:List (Str×Tn))  (g:Sl cs)(rest:Str)  (al:Al)(fr:É)(wf:∀r∈rs,∀c∈r.cs,Wf c)(H:rs.length<=100)(a:Int)  (e:0<=m)(M:m<=1000000000) :
  ba T (n+10) 42 [Mk gs,MQ (LQ cs) rest rs al fr,.i a,Mn m ms]=.ok (told gs ms rest rs al a (Nm cs m)):=by
 let y:=C8 n f ms (LQ cs) rest al fr wf H;let w:=sQ (n+5) g m e M;let u:=among (n+5) (LQ cs) rest (rs:=rs) al fr a (Nm cs m) ((idx rs).filter λq=>q.2.cs.all (jn gs ms)) λq h=>(List.mem_filter.mp h).1;let k:=Bc ((idx rs).filter λq=>q.2.cs.all (jn gs ms));let lf:fT (((idx rs).filter λq=>q.2.cs.all (jn gs ms)).map O0)=Θ:=by rw[iT,List.all_map];exact M_.mpr λ_ _=>rfl
 let x:iw (MQ (LQ cs) rest rs al fr) (.i 0)=.ok (.s (LQ cs)):=rfl;let b:iw (Mn m ms) (.i 0)=.ok (.i m):=rfl;let v:iw (Mn m ms) (.i 1)=.ok (MB ms):=rfl;let p:=jz gs;let l:=jR ms;let j:=qT (LQ cs) rest rs al fr;let E:=v9 m ms;let lt:il (told gs ms rest rs al a (Nm cs m))=Θ:=by unfold told;cases fst al a (Nm cs m) ((idx rs).filter λq=>q.2.cs.all (jn gs ms))<;>rfl
 unfold told at *;generalize z:dcD rest rs.length (fst al a (Nm cs m) ((idx rs).filter λq=>q.2.cs.all (jn gs ms)))=R at *;rw[gx 42 d42 4 5 b42 rfl];unfold b42;generalize MQ (LQ cs) rest rs al fr=S,((idx rs).filter λq=>q.2.cs.all (jn gs ms)).map O0=N,Mk gs=G,MB ms=B,Mn m ms=A at *;generalize LQ cs=Q at *;simp![y,w,u,k,lf,x,b,v,p,l,j,E,lt]
abbrev mF (x:Str)(o:Option Tn)(p:Str×Tn):Option Tn:=if(p.1 == x)=Θ then Δ p.2 else o
theorem El (x:Str):∀(ms:List (Str×Tn)) (o:Option Tn),x∉ms.map (·.1)->ms.foldl (mF x) o=o
 |[],o,_=>rfl
 |p::ms,o,h=>by
  rw[a_,k_,not_or]at h;rw[aah];have:mF x o p=o:=by unfold mF;rw[d_ (λz=>h.1 (by simpa using z:p.1=x).symm)]
  rw[this];exact El x ms o h.2
theorem Em (x:Str):∀(ms:List (Str×Tn)),(ms.map (·.1)).Nodup->ms.foldl (mF x) Φ=l8 ms x
 |[],_=>rfl
 |p::ms,h=>by
  rw[a_,F_]at h;rw[aah];unfold l8;rw[List.find?_cons];unfold mF;cases q:(p.1 == x) with
  |true=>
   let e:p.1=x:=by simpa using q
   rw[e_ rfl];exact El x ms (Δ p.2) (e ▸ h.1)
  |false=>rw[d_ p_];exact Em x ms h.2
theorem Bd (cl:Ä)(x:Str)(j i g f e A a:Ã):∀(ms:List (Str×Tn)) (o:Option Tn) (b c:Ã),∃B C,forM (turn cl (.t [.n 7,.n 10]) Ul) (ms.map MJ) [j,i,g,Δ (.s x),f,e,A,b,a,Δ (mD o),c]=.ok (.n [j,i,g,Δ (.s x),f,e,A,B,a,Δ (mD (ms.foldl (mF x) o)),C])
 |[],o,b,c=>⟨b,c,rfl⟩
 |p::ms,o,b,c=>by
  let E:turn cl (.t [.n 7,.n 10]) Ul (MJ p) [j,i,g,Δ (.s x),f,e,A,b,a,Δ (mD o),c]=.ok (.n [j,i,g,Δ (.s x),f,e,A,Δ (.s p.1),a,Δ (mD (mF x o p)),Δ p.2.d]):=by
   let E:=AU p.2;let m:mD (Δ p.2)=p.2.d:=rfl;unfold Ul MJ mF;cases h:(p.1 == x) with
   |true=>rw[e_ rfl,m];generalize p.2.d=P,mD o=O at *;simp![ie,h,E]
   |false=>rw[d_ p_];generalize p.2.d=P,mD o=O at *;simp![ie,h,E]
  rw[a_,dt,E,aah];exact Bd cl x j i g f e A a ms _ _ _
def Be:QZ.body=Yy:=rfl
def JE (cl:Ä)(y u p n m k A M:Ã)  (wf:Wf c)(x:Option Tn):iz cl W2 [y,u,p,n,Δ (.s c.w),Δ (.l Ξ (c.ts.map Tn.d)),m,k,A,Δ (mD x),M]=.ok (.r (.b (kq c.w c.ts x))):=by
 let⟨cm,w,ts⟩:=c;let W:ts.length<=100:=wf.len;show iz cl W2 [y,u,p,n,Δ (.s w),Δ (.l Ξ (ts.map Tn.d)),m,k,A,Δ (mD x),M]=.ok (.r (.b (kq w ts x)));let B:=Jx Ξ x ts;let I:=Ej x;let eq:kq w ts x=if((w == Ρ "is")||(w == Ρ "not"))=Θ then(UA x ts == (w == Ρ "is")) else if(w == Ρ "begins")=Θ then Jz x ts
  else if(w == Ρ "least")=Θ then leB x ts else if(w == Ρ "most")=Θ then Xs x ts else(x.isSome == (w == Ρ "has")):=by
  unfold kq;cases(w == Ρ "is")<;>cases(w == Ρ "not")<;>cases(w == Ρ "has")<;>cases UA x ts<;>cases x.isSome<;>rfl
 let H:∀z:Ev,ic z 4=Δ (.s w)->K8 cl (.O (.a .e (.v 4) (.c (.s "is"))) (.a .e (.v 4) (.c (.s "not")))) z=.ok (.b ((w == Ρ "is")||(w == Ρ "not"))):=λz h=>by
  cases q:(w == Ρ "is") with
  |true=>simp![h,q]
  |false=>simp![h,q]
 rw[eq];unfold W2;refine lK (H _ rfl) (λ_=>?_) λ_=>lK rfl (λq=>?_) λ_=>lK rfl (λq=>?_) λ_=>lK rfl (λq=>?_) λ_=>?_
 ·generalize mD x=X,ts.map Tn.d=TS at *;simp![B]
 ·rcases x with _|(a|a)
  ·rfl
  ·rfl
  ·let f:=uB cl a ts (wf.beg q);let C:=AR a ts;let lt:(ts.map Tn.d).length=ts.length:=i_ _;show Ms _ _ [y,u,p,n,Δ (.s w),Δ (.l Ξ (ts.map Tn.d)),m,k,A,Δ (.s a),M]=Except.ok (Fl.r (D.b (ts.any (S3 a))));unfold gBg;generalize ts.map Tn.d=TS,ts.map (S3 a)=E at *;simp![f,C,lt]
 ·rcases x with _|(a|a)
  ·rfl
  ·let l:=(vZ (cl:=cl) (i:=9) (j:=5) (e:=[y,u,p,n,Δ (.s w),Δ (.l Ξ (ts.map Tn.d)),m,k,A,Δ (.i a),M]) (x:=Δ (.i a)) rfl rfl (wf.lm (.inl q)) rfl).1;show Ms _ _ [y,u,p,n,Δ (.s w),Δ (.l Ξ (ts.map Tn.d)),m,k,A,Δ (.i a),M]=_;generalize leB (Δ (.i a)) ts=L,ts.map Tn.d=TS,IR.a .g (.v 9) (.i (.v 5) (.c (.i 0)))=K at *;simp![l]
  ·rfl
 ·rcases x with _|(a|a)
  ·rfl
  ·let l:=(vZ (cl:=cl) (i:=9) (j:=5) (e:=[y,u,p,n,Δ (.s w),Δ (.l Ξ (ts.map Tn.d)),m,k,A,Δ (.i a),M]) (x:=Δ (.i a)) rfl rfl (wf.lm (.inr q)) rfl).2;show Ms _ _ [y,u,p,n,Δ (.s w),Δ (.l Ξ (ts.map Tn.d)),m,k,A,Δ (.i a),M]=_;generalize Xs (Δ (.i a)) ts=L,ts.map Tn.d=TS,IR.a .L (.v 9) (.i (.v 5) (.c (.i 0)))=K at *;simp![l]
  ·rfl
 ·generalize mD x=X,ts.map Tn.d=TS at *;simp![I]
def wb (n:Nat)  (wf:Wf c)(hi:O7 c.w=Ξ)(g:D)  (nd:(ms.map (·.1)).Nodup):ba T (n+1) 60 [g,c.d,MB ms]=.ok (.b (pB ms c)):=by let⟨b,C,e⟩:=Bd (ba T n) c.m (Δ g) (Δ c.d) (Δ (MB ms)) (Δ (.s c.w)) (Δ (.l Ξ (c.ts.map Tn.d))) Φ Φ ms Φ Φ Φ;rw[Em c.m ms nd]at e;let h:=JE (ba T n) (Δ g) (Δ c.d) (Δ (MB ms)) (Δ (.s c.m)) Φ b Φ C wf (l8 ms c.m);unfold pB;let f:=lN c;generalize kq c.w c.ts (l8 ms c.m)=H,mD (l8 ms c.m)=X at *;let hi:((c.w == Ρ "in")||(c.w == Ρ "out"))=Ξ:=hi;rw[Bool.or_eq_false_iff]at hi;let⟨P,p⟩:=hi;let st:ju (.t [.n 3,.n 4,.n 5]) c.d [Δ g,Δ c.d,Δ (MB ms),Φ,Φ,Φ,Φ,Φ,Φ,Φ,Φ]=.ok [Δ g,Δ c.d,Δ (MB ms),Δ (.s c.m),Δ (.s c.w),Δ (.l Ξ (c.ts.map Tn.d)),Φ,Φ,Φ,Φ,Φ]:=rfl;let v:kL (MB ms)=.ok (ms.map MJ):=rfl;let a:=oV ms;let E:=jR ms;let e:forM (turn (ba T n) (.t [.n 7,.n 10]) Ul) (ms.map MJ) [Δ g,Δ c.d,Δ (MB ms),Δ (.s c.m),Δ (.s c.w),Δ (.l Ξ (c.ts.map Tn.d)),Φ,Φ,Φ,Δ .L,Φ]=.ok (.n [Δ g,Δ c.d,Δ (MB ms),Δ (.s c.m),Δ (.s c.w),Δ (.l Ξ (c.ts.map Tn.d)),Φ,b,Φ,Δ X,C]):=e;rw[go (show T 60=Δ QZ from rfl) (show QZ.io=Ξ from rfl) (show QZ.np=3 from rfl) (show QZ.G.N.length=11 from rfl) Be rfl];unfold Yy;generalize c.d=q,MB ms=m,ms.map MJ=M,c.ts.map Tn.d=TS,Ul=i,Uk=k,W2=j at *;simp![P,p,f,st,v,a,E,e,h]
abbrev gF (p:Cn->Bool)(x:Str)(b:Bool)(g:Gp):Bool:=if(g.nm == x)=Θ then g.rows.any (·.all p) else b
theorem En (p:Cn->Bool)(x:Str):∀(gs:List Gp) (b:Bool),x∉gs.map (·.nm)->gs.foldl (gF p x) b=b
 |[],b,_=>rfl
 |g::gs,b,h=>by
  rw[a_,k_,not_or]at h;rw[aah];have:gF p x b g=b:=by unfold gF;rw[d_ (λz=>h.1 (by simpa using z:g.nm=x).symm)]
  rw[this];exact En p x gs b h.2
theorem Eo (p:Cn->Bool)(x:Str):∀(gs:List Gp),(gs.map (·.nm)).Nodup->gs.foldl (gF p x) Ξ=md p gs x
 |[],_=>rfl
 |g::gs,h=>by
  rw[a_,F_]at h;rw[aah];unfold md;rw[List.find?_cons];unfold gF;cases q:(g.nm == x) with
  |true=>
   let e:g.nm=x:=by simpa using q
   rw[e_ rfl];exact En p x gs _ (e ▸ h.1)
  |false=>rw[d_ p_];exact Eo p x gs h.2
def GU (p:Cn->Bool)(r:List Cn):(r.map p).all id=r.all p:=by rw[List.all_map];rfl
def C9 (p:Cn->Bool)(rs:List (List Cn)):(rs.map λr=>r.all p).any id=rs.any (·.all p):=by rw[List.any_map];rfl
def Kz (n:Nat)  (p:Cn->Bool)(r:List Cn)(h:∀c∈r,ba T n 60 [.l Ξ [],c.d,MB ms]=.ok (.b (p c))):iD (iP (ba T n) (.n 1) [] (.C 60 [.l [],.v 1,.v 0]) [Δ (MB ms),Φ]) (r.map Cn.d)=.ok ((r.map p).map .b):=by refine jk Cn.d p .b r λc H=>?_;let e:=h c H;let a:=lN c;let E:=jR ms;generalize c.d=f,MB ms=M at *;simp![ie,a,E,e]
def KA (n:Nat)  (p:Cn->Bool)(rs:List (List Cn))(f:∀r∈rs,r.length<=100)(h:∀r∈rs,∀c∈r,ba T n 60 [.l Ξ [],c.d,MB ms]=.ok (.b (p c))):iD (iP (ba T n) (.n 1) [] (.B .a [.d Yx [0] (.n 1) (.v (.v 1)) [] (.C 60 [.l [],.v 1,.v 0])]) [Δ (MB ms),Φ]) (rs.map MA)=.ok ((rs.map λr=>r.all p).map .b):=by refine jk MA (λr=>r.all p) .b rs λr H=>?_;let e:=Kz n p r (h r H);let A:=GU p r;let lr:(r.map Cn.d).length=r.length:=i_ _;let L:=f r H;unfold Yx MA;generalize r.map Cn.d=RD,r.map p=g,MB ms=M at *;simp![ie,e,A,lr]
theorem wc (n:Nat)  (p:Cn->Bool)(x:Str)(j i f A a M:Ã):∀(gs:List Gp) (b:Bool) (c d:Ã),(∀g∈gs,g.rows.length<=100/\(∀r∈g.rows,r.length<=100)/\∀r∈g.rows,∀c∈r,ba T n 60 [.l Ξ [],c.d,MB ms]=.ok (.b (p c)))->
  ∃C d',forM (turn (ba T n) (.t [.n 7,.n 8]) Uk) (gs.map Gp.d) [j,i,Δ (MB ms),Δ (.s x),f,A,Δ (.b b),c,d,a,M]=.ok (.n [j,i,Δ (MB ms),Δ (.s x),f,A,Δ (.b (gs.foldl (gF p x) b)),C,d',a,M])
 |[],b,c,d,_=>⟨c,d,rfl⟩
 |g::gs,b,c,d,h=>by
  let⟨v,m,k⟩:=h g (.head _);let e:=KA n p g.rows m k;let u:=C9 p g.rows;let lr:(g.rows.map MA).length=g.rows.length:=i_ _;let Y:=oX g.rows;let E:turn (ba T n) (.t [.n 7,.n 8]) Uk g.d [j,i,Δ (MB ms),Δ (.s x),f,A,Δ (.b b),c,d,a,M]=.ok (.n [j,i,Δ (MB ms),Δ (.s x),f,A,Δ (.b (gF p x b g)),Δ (.s g.nm),Δ (.l Ξ (g.rows.map MA)),a,M]):=by
   unfold Uk Gp.d gF gRw;generalize g.rows.map MA=RD,(g.rows.map λr=>r.all p)=B,g.rows.any (·.all p)=y,MB ms=w,Yx=go at *;cases q:(g.nm == x) with
   |true=>rw[e_ rfl];simp![ie,q,e,u,lr]
   |false=>rw[d_ p_];simp![ie,q]
  rw[a_,dt,E,aah];exact wc n p x j i f A a M gs _ _ _ λg H=>h g (.tail _ H)
structure O1 (gs:List Gp):Prop where
 ok:Vl gs
 nd:(gs.map (·.nm)).Nodup
 len:∀g∈gs,g.rows.length<=100/\∀r∈g.rows,r.length<=100
def Bf (n:Nat)  (h:O1 gs)  (nd:(ms.map (·.1)).Nodup)  (wf:Wf c):ba T (n+2) 60 [Mk gs,c.d,MB ms]=.ok (.b (jn gs ms c)):=by
 cases hi:O7 c.w with
 |false=>have:=wb (n+1) wf hi (Mk gs) nd;let j:=Bool.or_eq_false_iff.mp (show((c.w == Ρ "in")||(c.w == Ρ "out"))=Ξ from hi);unfold jn;rw[d_ (by rw[j.1];exact p_),d_ (by rw[j.2];exact p_)];exact this
 |true=>
  let⟨x,u,e⟩:=wc (n+1) (ms:=ms) (pB ms) c.m (Δ (Mk gs)) (Δ c.d) (Δ (.s c.w)) (Δ (.l Ξ (c.ts.map Tn.d))) Φ Φ gs Ξ Φ Φ λg Q=>⟨(h.len g Q).1,(h.len g Q).2,λr f c i=>wb n (h.ok g Q r f c i).1 (h.ok g Q r f c i).2 (.l Ξ []) nd⟩
  rw[Eo (pB ms) c.m gs h.nd]at e;let m:=lN c;let k:=ma gs;let v:kL (Mk gs)=.ok (gs.map Gp.d):=rfl;let E:=jz gs;let p:=jR ms;unfold jn;let⟨cm,w,ts⟩:=c;let st:ju (.t [.n 3,.n 4,.n 5]) (Cn.d ⟨cm,w,ts⟩) [Δ (Mk gs),Δ (Cn.d ⟨cm,w,ts⟩),Δ (MB ms),Φ,Φ,Φ,Φ,Φ,Φ,Φ,Φ]=.ok [Δ (Mk gs),Δ (Cn.d ⟨cm,w,ts⟩),Δ (MB ms),Δ (.s cm),Δ (.s w),Δ (.l Ξ (ts.map Tn.d)),Φ,Φ,Φ,Φ,Φ]:=rfl;show ba T (n+2) 60 [Mk gs,Cn.d ⟨cm,w,ts⟩,MB ms]=.ok (.b (if(w == Ρ "in")=Θ then md (pB ms) gs cm else if(w == Ρ "out")=Θ then !md (pB ms) gs cm else pB ms ⟨cm,w,ts⟩));let e:forM (turn (ba T (n+1)) (.t [.n 7,.n 8]) Uk) (gs.map Gp.d) [Δ (Mk gs),Δ (Cn.d ⟨cm,w,ts⟩),Δ (MB ms),Δ (.s cm),Δ (.s w),Δ (.l Ξ (ts.map Tn.d)),Δ (.b Ξ),Φ,Φ,Φ,Φ]=.ok (.n [Δ (Mk gs),Δ (Cn.d ⟨cm,w,ts⟩),Δ (MB ms),Δ (.s cm),Δ (.s w),Δ (.l Ξ (ts.map Tn.d)),Δ (.b (md (pB ms) gs cm)),x,u,Φ,Φ]):=e;rw[go (show T 60=Δ QZ from rfl) (show QZ.io=Ξ from rfl) (show QZ.np=3 from rfl) (show QZ.G.N.length=11 from rfl) Be rfl];unfold Yy;generalize md (pB ms) gs cm=B,Cn.d ⟨cm,w,ts⟩=C,Mk gs=A,gs.map Gp.d=G,MB ms=M,ts.map Tn.d=TS,Uk=z,Ul=y at *;cases q:(w == Ρ "in") with
  |true=>
   rw[e_ rfl];let H:(B == Θ)=B:=by cases B<;>rfl
   simp![q,m,st,v,k,E,e,H]
  |false=>
   let a:(w == Ρ "out")=Θ:=by let hi:((w == Ρ "in")||(w == Ρ "out"))=Θ:=hi;rw[q]at hi;exact hi
   rw[d_ p_,a,e_ rfl];let H:(B == Ξ) = !B:=by cases B<;>rfl
   simp![q,a,m,st,v,k,E,e,H]
theorem Bg (cl:Ä)(g e A a:Ã)(f:Str)(z:Int):∀(run:É) (b c:Ã),
  (inR z run=Θ->forM (turn cl (.t [.n 6,.n 7]) tP) (run.map LU) [g,e,Δ (.i z),A,Δ (.s f),a,b,c]=.ok (.r (.s f)))/\
  (inR z run=Ξ->∃B C,forM (turn cl (.t [.n 6,.n 7]) tP) (run.map LU) [g,e,Δ (.i z),A,Δ (.s f),a,b,c]=.ok (.n [g,e,Δ (.i z),A,Δ (.s f),a,B,C]))
 |[],b,c=>⟨λh=>(by cases h),λ_=>⟨b,c,rfl⟩⟩
 |p::run,b,c=>by
  let E:turn cl (.t [.n 6,.n 7]) tP (LU p) [g,e,Δ (.i z),A,Δ (.s f),a,b,c]=if UB z p=Θ then .ok (.r (.s f)) else .ok (.n [g,e,Δ (.i z),A,Δ (.s f),a,Δ (.i p.1),Δ (.i p.2)]):=by unfold tP LU UB;cases h:decide (p.1<=z)<;>cases H:decide (z < p.2)<;>simp![ie,h,H,Bool.and_true,Bool.and_false,Bool.true_and,Bool.false_and]
  rw[a_,dt,E];unfold inR;rw[List.any_cons];cases h:UB z p with
  |true=>exact⟨λ_=>rfl,λz=>(by cases z)⟩
  |false=>exact Bg cl g e A a f z run _ _
theorem Bh (cl:Ä)(b A a:Ã)(z:Int):∀(al:Al) (g f c B:Ã),
  (∀x,PB al z=Δ x->forM (turn cl (.t [.n 4,.n 5]) tQ) (al.map Na) [b,A,Δ (.i z),a,g,f,c,B]=.ok (.r (.s x)))/\
  (PB al z=Φ->∃u q j C,forM (turn cl (.t [.n 4,.n 5]) tQ) (al.map Na) [b,A,Δ (.i z),a,g,f,c,B]=.ok (.n [b,A,Δ (.i z),a,u,q,j,C]))
 |[],g,f,c,B=>⟨λx h=>(by cases h),λ_=>⟨_,_,_,_,rfl⟩⟩
 |p::al,g,f,c,B=>by
  let l:=Bg cl b A a (Δ (.l Ξ (p.2.map LU))) p.1 z p.2 c B;let k:=ja p.2;rw[a_,dt];unfold PB;rw[List.find?_cons];cases h:inR z p.2 with
  |true=>
   let e:=l.1 h;let E:turn cl (.t [.n 4,.n 5]) tQ (Na p) [b,A,Δ (.i z),a,g,f,c,B]=.ok (.r (.s p.1)):=by unfold tQ Na;generalize p.2.map LU=P,tP=m at *;simp![ie,k,e]
   rw[E];exact⟨λx z=>(by cases z;rfl),λz=>(by cases z)⟩
  |false=>
   let⟨j,C,e⟩:=l.2 h;let E:turn cl (.t [.n 4,.n 5]) tQ (Na p) [b,A,Δ (.i z),a,g,f,c,B]=.ok (.n [b,A,Δ (.i z),a,Δ (.s p.1),Δ (.l Ξ (p.2.map LU)),j,C]):=by unfold tQ Na;generalize p.2.map LU=P,tP=m at *;simp![ie,k,e]
   rw[E];exact Bh cl b A a z al _ _ _ _
def GV:Uw.body=W3:=rfl
def Bj (n:Nat)(o:Oc)(al:Al)(fr:É)(a z:Int):ba T (n+2) 62 [o.d,Mx al fr,.i z,.i a]=.ok (oD (Xt al a z o)):=by
 let g:=p7 al fr;let go:∀X Y:D,ba T (n+2) 62 [X,Y,.i z,.i a]=_:=λX Y=>go (show T 62=Δ Uw from rfl) (show Uw.io=Ξ from rfl) (show Uw.np=4 from rfl) (show Uw.G.N.length=8 from rfl) GV rfl;cases o with
 |F f=>show ba T (n+2) 62 [.t [.s "face",.s f],Mx al fr,.i z,.i a]=.ok (.s f);rw[go];unfold W3;generalize Mx al fr=A,tQ=b at *;simp![LJ]
 |s f st=>
  let j:=xw n st a;let E:=ja st;show ba T (n+2) 62 [.t [.s "share",.s f,.l Ξ (st.map LU)],Mx al fr,.i z,.i a]=.ok (oD (if decide (z < shr st a)=Θ then Δ f else Φ));rw[go];unfold W3;generalize Mx al fr=A,st.map LU=P,tQ=b at *;cases h:decide (z < shr st a) with
  |true=>rw[e_ rfl];show _=Except.ok (D.s f);simp![YU,E,j,h]
  |false=>rw[d_ p_];show _=Except.ok D.L;simp![YU,E,j,h]
 |U=>
  let y:iw (Mx al fr) (.i 0)=.ok (.l Ξ (al.map Na)):=rfl;let c:=qS al;let l:=Bh (ba T (n+1)) (Δ (.t [.s "lot"])) (Δ (Mx al fr)) (Δ (.i a)) z al Φ Φ Φ Φ;show ba T (n+2) 62 [.t [.s "lot"],Mx al fr,.i z,.i a]=.ok (oD (PB al z));rw[go];unfold W3;cases h:PB al z with
  |some x=>let e:=l.1 x h;show _=Except.ok (D.s x);generalize Mx al fr=A,al.map Na=k,tQ=b at *;simp![y,l_f,l_s,g,c,e]
  |none=>let⟨q,p,m,C,e⟩:=l.2 h;show _=Except.ok D.L;generalize Mx al fr=A,al.map Na=k,tQ=b at *;simp![y,l_f,l_s,g,c,e]
def GW:Ux.body=bDc:=rfl
def Dc (p:Cn->Bool)(r:List Cn):(r.map p).all id=r.all p:=by rw[List.all_map];rfl
def KC (n:Nat)  (h:O1 gs)  (nd:(ms.map (·.1)).Nodup)(m:Int)(r:List Cn)(wf:∀c∈r,Wf c):iD (iP (ba T (n+2)) (.n 2) [] (.C 60 [.v 0,.v 2,.i (.v 1) (.c (.i 1))]) [Δ (Mk gs),Δ (Mn m ms),Φ]) (r.map Cn.d)=.ok ((r.map (jn gs ms)).map .b):=by refine jk Cn.d (jn gs ms) .b r λc H=>?_;let e:=Bf n h nd (wf c H);let g:=lN c;let E:=jR ms;let f:=jz gs;let a:iw (Mn m ms) (.i 1)=.ok (MB ms):=rfl;generalize c.d=k,MB ms=M,Mk gs=G,Mn m ms=j at *;simp![ie,g,E,f,a,e]
theorem wg (n:Nat)  (C:O1 gs)  (nd:(ms.map (·.1)).Nodup)  (F:Sl cs)(al:Al)(fr:É)(a:Int)  (w:0<=m)(M:m<=1000000000)(g e A:Ã):∀(l:List (Nat×Rl)),(∀q∈l,(∀c∈q.2.cs,Wf c)/\q.2.cs.length<=100)->∀(B b N:Ã),
  (∀f i,fst al a (Nm cs m) (l.filter λq=>q.2.cs.all (jn gs ms))=Δ (f,i)->forM (turn (ba T (n+2)) (.t [.n 8,.n 9]) QY) (l.map inD) [Δ (Mk gs),g,Δ (.i a),Δ (Mn m ms),Δ (.s (LQ cs)),e,A,Δ (Mx al fr),B,b,N]=.ok (.r (.t [.s f,.i (i:Nat)])))/\
  (fst al a (Nm cs m) (l.filter λq=>q.2.cs.all (jn gs ms))=Φ->∃c8 X ME,forM (turn (ba T (n+2)) (.t [.n 8,.n 9]) QY) (l.map inD) [Δ (Mk gs),g,Δ (.i a),Δ (Mn m ms),Δ (.s (LQ cs)),e,A,Δ (Mx al fr),B,b,N]=.ok (.n [Δ (Mk gs),g,Δ (.i a),Δ (Mn m ms),Δ (.s (LQ cs)),e,A,Δ (Mx al fr),c8,X,ME]))
 |[],_,B,b,N=>⟨λf i h=>(by cases h),λ_=>⟨B,b,N,rfl⟩⟩
 |q::l,x,B,b,N=>by
  let⟨wf,wl⟩:=x q (.head _);let I:=λB b N=>wg n C nd F al fr a w M g e A l (λq W=>x q (.tail _ W)) B b N;let u:=KC n C nd m q.2.cs wf;let k:=Dc (jn gs ms) q.2.cs;let p:(q.2.cs.map Cn.d).length=q.2.cs.length:=i_ _;let E:=Bj n q.2.o al fr a (Nm cs m);let O:=k8 (n+1) cs F.2.1 m w M;let y:iw q.2.d (.i 0)=.ok (.l Ξ (q.2.cs.map Cn.d)):=rfl;let Y:iw q.2.d (.i 1)=.ok q.2.o.d:=rfl;let v:iw (Mn m ms) (.i 0)=.ok (.i m):=rfl;let G:=A9 q.2.o;let J:=p7 al fr;rw[a_,dt,List.filter_cons];cases H:q.2.cs.all (jn gs ms) with
  |false=>
   rw[H]at k;let j:turn (ba T (n+2)) (.t [.n 8,.n 9]) QY (inD q) [Δ (Mk gs),g,Δ (.i a),Δ (Mn m ms),Δ (.s (LQ cs)),e,A,Δ (Mx al fr),B,b,N]=.ok (.n [Δ (Mk gs),g,Δ (.i a),Δ (Mn m ms),Δ (.s (LQ cs)),e,A,Δ (Mx al fr),Δ (.i (q.1:Nat)),Δ q.2.d,N]):=by unfold QY inD Yz;generalize q.2.cs.map Cn.d=S,q.2.cs.map (jn gs ms)=U,q.2.d=Q,Mk gs=R,Mn m ms=P at *;simp![ie,y,u,k,p]
   rw[j,d_ p_];exact I _ _ _
  |true=>
   rw[H]at k;rw[e_ rfl];unfold fst;cases h:Xt al a (Nm cs m) q.2.o with
   |some f=>
    rw[h]at E;let E:ba T (n+2) 62 [q.2.o.d,Mx al fr,.i (Nm cs m),.i a]=.ok (.s f):=E;let j:turn (ba T (n+2)) (.t [.n 8,.n 9]) QY (inD q) [Δ (Mk gs),g,Δ (.i a),Δ (Mn m ms),Δ (.s (LQ cs)),e,A,Δ (Mx al fr),B,b,N]=.ok (.r (.t [.s f,.i (q.1:Nat)])):=by unfold QY inD Yz;generalize q.2.cs.map Cn.d=S,q.2.cs.map (jn gs ms)=U,q.2.d=Q,q.2.o.d=OD,Mk gs=R,Mn m ms=P,Mx al fr=AD,LQ cs=SD at *;simp![ie,y,Y,v,u,k,p,G,J,O,E]
    rw[j];exact⟨λf i z=>(by cases z;rfl),λz=>(by cases z)⟩
   |none=>
    rw[h]at E;let E:ba T (n+2) 62 [q.2.o.d,Mx al fr,.i (Nm cs m),.i a]=.ok .L:=E;let j:turn (ba T (n+2)) (.t [.n 8,.n 9]) QY (inD q) [Δ (Mk gs),g,Δ (.i a),Δ (Mn m ms),Δ (.s (LQ cs)),e,A,Δ (Mx al fr),B,b,N]=.ok (.n [Δ (Mk gs),g,Δ (.i a),Δ (Mn m ms),Δ (.s (LQ cs)),e,A,Δ (Mx al fr),Δ (.i (q.1:Nat)),Δ q.2.d,Δ .L]):=by unfold QY inD Yz;generalize q.2.cs.map Cn.d=S,q.2.cs.map (jn gs ms)=U,q.2.d=Q,q.2.o.d=OD,Mk gs=R,Mn m ms=P,Mx al fr=AD,LQ cs=SD at *;simp![ie,y,Y,v,u,k,p,G,J,O,E]
    rw[j];exact I _ _ _
def Dd (n:Nat)  (v:O1 gs)  (nd:(ms.map (·.1)).Nodup)  (w:Sl cs)(rest:Str)  (al:Al)(fr:É)(wf:∀r∈rs,(∀c∈r.cs,Wf c)/\r.cs.length<=100)(a:Int)  (u:0<=m)(M:m<=1000000000) :
  ba T (n+3) 63 [Mk gs,MQ (LQ cs) rest rs al fr,.i a,Mn m ms]=.ok (told gs ms rest rs al a (Nm cs m)):=by
 let l:=wg n v nd w al fr a u M (Δ (MQ (LQ cs) rest rs al fr)) (Δ (.s rest)) (Δ (.l Ξ (rs.map Rl.d))) (idx rs) (λq H=>wf q.2 (uE H).2.1) Φ Φ Φ;let st:ju (.t [.n 4,.n 5,.n 6,.n 7]) (MQ (LQ cs) rest rs al fr) [Δ (Mk gs),Δ (MQ (LQ cs) rest rs al fr),Δ (.i a),Δ (Mn m ms),Φ,Φ,Φ,Φ,Φ,Φ,Φ]=.ok [Δ (Mk gs),Δ (MQ (LQ cs) rest rs al fr),Δ (.i a),Δ (Mn m ms),Δ (.s (LQ cs)),Δ (.s rest),Δ (.l Ξ (rs.map Rl.d)),Δ (Mx al fr),Φ,Φ,Φ]:=rfl;let g:=qT (LQ cs) rest rs al fr;let j:=Ba rs;let k:LM ((idx rs).map inD)=(idx rs).map inD:=by rw[iI,z_];exact S_ λq _=>by show D.t [.i (q.1:Nat),er q.2.d]=_;rw[Ek];rfl
 let ln:(rs.map Rl.d).length=rs.length:=i_ _;let E:=uD rs;rw[go (show T 63=Δ Ux from rfl) (show Ux.io=Ξ from rfl) (show Ux.np=4 from rfl) (show Ux.G.N.length=11 from rfl) GW rfl];unfold bDc told;cases h:fst al a (Nm cs m) ((idx rs).filter λq=>q.2.cs.all (jn gs ms)) with
 |some p=>let⟨f,i⟩:=p;let e:=l.1 f i h;show _=Except.ok (D.t [.s f,.i (i:Nat)]);generalize MQ (LQ cs) rest rs al fr=S,(idx rs).map inD=I,rs.map Rl.d=RS,Mk gs=G,Mn m ms=x,Mx al fr=A,QY=b at *;simp![g,st,j,k,E,e]
 |none=>let⟨y,C,z,e⟩:=l.2 h;show _=Except.ok (D.t [.s rest,.i (rs.length:Nat)]);generalize MQ (LQ cs) rest rs al fr=S,(idx rs).map inD=I,rs.map Rl.d=RS,Mk gs=G,Mn m ms=x,Mx al fr=A,QY=b at *;simp![g,st,j,k,E,e,ln]
abbrev Cn.t (c:Cn):D:=.t [.s c.m,.s c.w,.l Θ (c.ts.map Tn.d)]
def Bl (c:Cn):er c.t=c.d:=by show D.t [.s c.m,.s c.w,.l Ξ (LM (c.ts.map Tn.d))]=_;rw[AQ];rfl
abbrev W7:Æ:=[Ρ "is",Ρ "not",Ρ "begins",Ρ "least",Ρ "most",Ρ "has",Ρ "lacks"]
abbrev W9:Æ:=W7++[Ρ "in",Ρ "out"]
abbrev tst (w:Str):List Bool:=[(w == Ρ "is")||(w == Ρ "not"),w == Ρ "begins",(w == Ρ "least")||(w == Ρ "most"),(w == Ρ "in")||(w == Ρ "out")]
abbrev rows:List (List Bool):=[[Θ,Ξ,Ξ,Ξ],[Ξ,Θ,Ξ,Ξ],[Ξ,Ξ,Θ,Ξ],[Ξ,Ξ,Ξ,Θ],[Ξ,Ξ,Ξ,Ξ]]
def t9:∀w∈W9,tst w∈rows:=∅
def t7:∀w∈W7,O7 w=Ξ:=∅
theorem wj:∀(its:Î),(∀x∈its,∃t:Tn,g x=.ok (Δ t.d))->∃ts:List Tn,iD g its=.ok (ts.map Tn.d)/\ts.length=its.length
 |[],_=>⟨[],rfl,rfl⟩
 |x::its,h=>by let⟨y,a⟩:=h x (by simp);let⟨Y,e,b⟩:=wj its λz H=>h z (J_ _ H);exact⟨y::Y,nc a e,by rw[List.length_cons,List.length_cons,b]⟩
def me (a:Int):(iQ 0 a).length=a.toNat:=by unfold iQ;rw[i_,R_];omega
section
variable (n:Nat)(ns:È){k:Int}(h:0<=k)(f:k<=4000){st:Str}(hs:st.length<=100)(c:Int)
include h f hs in
theorem De (d:Int)(u:0<=d)(r:d < 2):∃ts:List Tn,iD (iP (ba T (n+3)) (.n 4) [] (.C 53 [.v 0,.b .a (.b .a (.v 1) (.c (.i 3))) (.b .m (.c (.i 5)) (.v 4)),.v 2,.v 3]) [Δ (.l Ξ (ns.map .i)),Δ (.i k),Δ (.s st),Δ (.i c),Φ]) (iQ 0 (1+d))=.ok (ts.map Tn.d)/\ts.length<=2:=by
 let⟨ts,e,p⟩:=wj (g:=iP (ba T (n+3)) (.n 4) [] (.C 53 [.v 0,.b .a (.b .a (.v 1) (.c (.i 3))) (.b .m (.c (.i 5)) (.v 4)),.v 2,.v 3]) [Δ (.l Ξ (ns.map .i)),Δ (.i k),Δ (.s st),Δ (.i c),Φ]) (iQ 0 (1+d)) λx H=>by let⟨j,rfl,q,J⟩:=qR H;let⟨t,e⟩:=AK n ns (k:=k+3+5*j) ⋯ ⋯ hs c;let E:=iB ns;refine⟨t,?_⟩;generalize ns.map D.i=N,t.d=w at *;simp![ie,E,e]
 exact⟨ts,e,by rw[p,me];omega⟩
include h f hs in
theorem GX (d:Int)(u:0<=d)(r:d < 2):∃ys:Æ,iD (iP (ba T (n+3)) (.n 3) [] (.C 50 [.v 0,.b .a (.b .a (.v 1) (.c (.i 3))) (.b .m (.c (.i 5)) (.v 3)),.v 2]) [Δ (.l Ξ (ns.map .i)),Δ (.i k),Δ (.s st),Φ]) (iQ 0 (1+d))=.ok (ys.map .s)/\ys.length<=2:=by
 let⟨ts,e,p⟩:=nh (g:=iP (ba T (n+3)) (.n 3) [] (.C 50 [.v 0,.b .a (.b .a (.v 1) (.c (.i 3))) (.b .m (.c (.i 5)) (.v 3)),.v 2]) [Δ (.l Ξ (ns.map .i)),Δ (.i k),Δ (.s st),Φ]) (iQ 0 (1+d)) λx H=>by let⟨j,rfl,q,J⟩:=qR H;let⟨t,e,_⟩:=nO (n+1) ns (k:=k+3+5*j) ⋯ ⋯ hs;let E:=iB ns;refine⟨t,?_⟩;generalize ns.map D.i=N at *;simp![ie,E,e]
 exact⟨ts,e,by rw[p,me];omega⟩
include hs in
theorem GY (cl:Ä)(ys:Æ):∃z:Æ,iD (iP cl (.n 1) [] (.I (.a .n (.v 1) (.c (.s ""))) (.v 1) (.S (.v 0) Φ (Δ (.c (.i 1))))) [Δ (.s st),Φ]) (ys.map .s)=.ok (z.map .s)/\z.length=ys.length:=by
 let⟨z,e,b⟩:=nh (g:=iP cl (.n 1) [] (.I (.a .n (.v 1) (.c (.s ""))) (.v 1) (.S (.v 0) Φ (Δ (.c (.i 1))))) [Δ (.s st),Φ]) (ys.map .s) λx H=>by
  let⟨y,_,rfl⟩:=List.mem_map.mp H;cases q:(y == Ρ "") with
  |true=>exact⟨Txt.slice st Φ (Δ 1),by simp![ie,q]⟩
  |false=>exact⟨y,by simp![ie,q]⟩
 exact⟨z,e,by rw[b,i_]⟩
end
def ne_nil (o:Bool)(ls:Î):MN .n (.l o ls) (.l Θ [])=.ok (!ls.isEmpty):=by cases ls<;>rfl
def jm {fs:Æ}  (a:0<=i)(H:i < (fs.length:Int)):∃y,(∀o,iw (.l o (fs.map .s)) (.i i)=.ok (.s y))/\fs[i.toNat]? = Δ y:=by
 let h:i.toNat < fs.length:=⋯
 refine⟨fs[i.toNat],λo=>?_,y_ h⟩;rw[GG a H,aam,y_ h];rfl
def GZ (z:Æ):z.map D.s=(z.map Tn.s).map Tn.d:=by rw[z_];rfl
def G0 (cl:Ä)(x y w:Str)(k j i g f e c a S:Ã):K8 cl (oW x y) [k,j,i,g,f,e,c,Δ (.s w),a,S]=.ok (.b ((w == x)||(w == y))):=by
 unfold oW;cases h:(w == x) with
 |true=>simp![h]
 |false=>simp![h]
def wo (n:Nat)(ns:È)  (k0:0<=k)(k1:k<=4000)  (Sd:gs.length<=20){st:Str}(hs:st.length<=100)(c:Int)(M w:Str)(w9:tst w∈rows)(OV:gs=[]->O7 w=Ξ)(g S:Ã) :
  ∃P:Cn,iz (ba T (n+3)) WM [Δ (.l Ξ (ns.map .i)),Δ (.i k),g,Δ (.l Ξ (gs.map .s)),Δ (.s st),Δ (.i c),S,Δ (.s w),Δ (.s M),Δ (.l Θ [])]=.ok (.r P.t)/\Wf P/\P.w=w:=by
 let E:=iB ns;let eg:=iA gs;let lg:(gs.map D.s).length=gs.length:=i_ _;let⟨d,r2,d0,d1⟩:=Nw (n+2) ns (k+2) 2 ⋯ ⋯ nofun;let lr:=me (1+d);let J:∀(X W U R:Bool),tst w=[X,W,U,R]->((w == Ρ "is")||(w == Ρ "not"))=X/\(w == Ρ "begins")=W/\((w == Ρ "least")||(w == Ρ "most"))=U/\O7 w=R:=λX W U R h=>by injection h with h1 h;injection h with h2 h;injection h with h3 h;injection h with h4 h;exact⟨h1,h2,h3,h4⟩
 let N:∀ {b:Bool},((w == Ρ "least")||(w == Ρ "most"))=Ξ->(w == Ρ "least")=Θ∨(w == Ρ "most")=Θ->b=Θ:=λh C=>by rcases C with C|C<;>rw[C]at h<;>simp at h
 let q:=λA y=>G0 (ba T (n+3)) "is" "not" w (Δ (.l Ξ (ns.map .i))) (Δ (.i k)) g (Δ (.l Ξ (gs.map .s))) (Δ (.s st)) (Δ (.i c)) S A y;let p:∀A y:Ã,K8 (ba T (n+3)) (.a .e (.v 7) (.c (.s "begins"))) [Δ (.l Ξ (ns.map .i)),Δ (.i k),g,Δ (.l Ξ (gs.map .s)),Δ (.s st),Δ (.i c),S,Δ (.s w),A,y]=.ok (.b (w == Ρ "begins")):=λ_ _=>rfl;let j:=λA y=>G0 (ba T (n+3)) "least" "most" w (Δ (.l Ξ (ns.map .i))) (Δ (.i k)) g (Δ (.l Ξ (gs.map .s))) (Δ (.s st)) (Δ (.i c)) S A y;let H:=λA y=>G0 (ba T (n+3)) "in" "out" w (Δ (.l Ξ (ns.map .i))) (Δ (.i k)) g (Δ (.l Ξ (gs.map .s))) (Δ (.s st)) (Δ (.i c)) S A y;let f:∀(x:Str) (TS:Î),iz (ba T (n+3)) [.r (.t [.v 8,.v 7,.v 9])] [Δ (.l Ξ (ns.map .i)),Δ (.i k),g,Δ (.l Ξ (gs.map .s)),Δ (.s st),Δ (.i c),S,Δ (.s w),Δ (.s x),Δ (.l Θ TS)]=.ok (.r (.t [.s x,.s w,.l Θ TS])):=λ_ _=>rfl;let iu:((w == Ρ "in")||(w == Ρ "out"))=O7 w:=rfl;simp only[rows,k_,P_,or_false]at w9;rcases w9 with h|h|h|h|h<;>let⟨q1,B,Q,F⟩:=J _ _ _ _ h<;>rw[q1]at q<;>rw[B]at p<;>rw[Q]at j<;>rw[iu,F]at H<;>unfold WM
 ·let⟨ts,eT,lT⟩:=De n ns k0 k1 hs c d d0 d1;let I:=AO ts;refine⟨⟨M,w,ts⟩,?_,⟨(by show ts.length<=100;omega),λh=>(by rw[B]at h;cases h),λh=>absurd (N (b:=Ξ) Q h) nofun⟩,rfl⟩;rw[Sb (q _ _) (τ':=[Δ (.l Ξ (ns.map .i)),Δ (.i k),g,Δ (.l Ξ (gs.map .s)),Δ (.s st),Δ (.i c),S,Δ (.s w),Δ (.s M),Δ (.l Θ (ts.map Tn.d))]) ?_,sk (p _ _),sk (j _ _),sk (H _ _),f]
  ·rfl
  clear q p j H f;unfold cB1;generalize ns.map D.i=NS,gs.map D.s=GS,ts.map Tn.d=TS at *;simp![E,r2,lr,eT,I]
 ·let⟨Y,eY,lY⟩:=GX n ns k0 k1 hs d d0 d1;let⟨u,eZ,lZ⟩:=GY hs (ba T (n+3)) Y;let L:fT (u.map D.s)=Θ:=nu u;let G:fT (Y.map D.s)=Θ:=nu Y;let lys:(Y.map D.s).length<=2:=by rw[i_];exact lY
  let ny:=iA Y;refine⟨⟨M,w,u.map Tn.s⟩,?_,⟨(by show(u.map Tn.s).length<=100;rw[i_,lZ];omega),λ_ t ht=>(by let⟨z,_,rfl⟩:=List.mem_map.mp ht;exact⟨z,rfl⟩),λh=>absurd (N (b:=Ξ) Q h) nofun⟩,rfl⟩;rw[sk (q _ _),Sb (p _ _) (τ':=[Δ (.l Ξ (ns.map .i)),Δ (.i k),g,Δ (.l Ξ (gs.map .s)),Δ (.s st),Δ (.i c),S,Δ (.s w),Δ (.s M),Δ (.l Θ (u.map .s))]) ?_,sk (j _ _),sk (H _ _),f]
  ·show _=Except.ok (Fl.r (D.t [.s M,.s w,.l Θ ((u.map Tn.s).map Tn.d)]));rw[<- GZ u]
  clear q p j H f;unfold cB2;generalize ns.map D.i=NS,gs.map D.s=GS,Y.map D.s=YS,u.map D.s=ZS at *;simp![E,r2,lr,eY,eZ,G,L,ny]
 ·let⟨x,eX⟩:=ng (n+1) ns (k:=k+3) ⋯ ⋯ c;refine⟨⟨M,w,[.i x]⟩,?_,⟨(by show 1<=100;omega),λh=>(by rw[B]at h;cases h),λ_=>⟨x,[],rfl⟩⟩,rfl⟩;rw[sk (q _ _),sk (p _ _),Sb (j _ _) (τ':=[Δ (.l Ξ (ns.map .i)),Δ (.i k),g,Δ (.l Ξ (gs.map .s)),Δ (.s st),Δ (.i c),S,Δ (.s w),Δ (.s M),Δ (.l Θ [.i x])]) ?_,sk (H _ _),f]
  ·rfl
  clear q p j H f;unfold cB3;generalize ns.map D.i=NS,gs.map D.s=GS at *;simp![E,eX]
 ·let g0:0 < gs.length:=by
   cases gs with
   |nil=>rw[OV rfl]at F;cases F
   |cons=>simp
  let rg:=iM (n+2) ns (k+2) (gs.length:Int) ⋯ ⋯ ⋯;let⟨gn,O,_⟩:=jm (fs:=gs) (km ns (k+2) (m:=(gs.length:Int)) ⋯) (kn ns (k+2) ⋯);generalize dr ns (k+2) (gs.length:Int)=ig at *;refine⟨⟨gn,w,[]⟩,?_,⟨(by show 0<=100;omega),λh=>(by rw[B]at h;cases h),λh=>absurd (N (b:=Ξ) Q h) nofun⟩,rfl⟩;rw[sk (q _ _),sk (p _ _),sk (j _ _),Sb (H _ _) (τ':=[Δ (.l Ξ (ns.map .i)),Δ (.i k),g,Δ (.l Ξ (gs.map .s)),Δ (.s st),Δ (.i c),S,Δ (.s w),Δ (.s gn),Δ (.l Θ [])]) ?_,f]
  ·rfl
  clear q p j H f;unfold cB4;generalize ns.map D.i=NS,gs.map D.s=GS at *;simp![E,eg,lg,rg,O]
 ·refine⟨⟨M,w,[]⟩,?_,⟨(by show 0<=100;omega),λh=>(by rw[B]at h;cases h),λh=>absurd (N (b:=Ξ) Q h) nofun⟩,rfl⟩;rw[sk (q _ _),sk (p _ _),sk (j _ _),sk (H _ _),f];rfl
def wq (n:Nat)(ns:È)  (a:0<=k)(q:k<=4000){ms:Æ}(X:0 < ms.length)(P7:ms.length<=20)(S:gs.length<=20){st:Str}(hs:st.length<=100)(c:Int) :
  ∃C:Cn,ba T (n+4) 54 [.l Ξ (ns.map .i),.i k,.l Ξ (ms.map .s),.l Ξ (gs.map .s),.s st,.i c]=.ok C.t/\Wf C/\(gs=[]->O7 C.w=Ξ):=by
 let v:=iB ns;let u:=iA ms;let x:=iA gs;let lm:(ms.map D.s).length=ms.length:=i_ _;let R:=iM (n+2) ns (k+1) (ms.length:Int) ⋯ ⋯ ⋯;let⟨M,H,_⟩:=jm (fs:=ms) (km ns (k+1) (m:=(ms.length:Int)) ⋯) (kn ns (k+1) ⋯);generalize dr ns (k+1) (ms.length:Int)=U at *;let go:ba T (n+4) 54 [.l Ξ (ns.map .i),.i k,.l Ξ (ms.map .s),.l Ξ (gs.map .s),.s st,.i c]=_:=gx 54 d54 6 10 YO rfl rfl rfl rfl rfl rfl;let y:((7:Nat):Int)=7:=rfl;let F:((9:Nat):Int)=9:=rfl;let L:([D.s "is",.s "not",.s "begins",.s "least",.s "most",.s "has",.s "lacks"]).length=7:=rfl;cases f:gs.isEmpty with
 |true=>
  let r:=iM (n+2) ns k 7 a ⋯ nofun;let⟨w,b,G⟩:=jm (fs:=W7) (km ns k (m:=7) nofun) (by have:=kn ns k (m:=7) nofun;exact this);generalize dr ns k 7=I at *;let W:=Z_ G;let⟨C,e,wf,E⟩:=wo n ns a q S hs c M w (t9 w (u_ _ W)) (λ_=>t7 w W) (Δ (.l Ξ (ms.map .s))) (Δ (.l Θ (W7.map .s)));refine⟨C,?_,wf,λ_=>by rw[E];exact t7 w W⟩;let A:W7.map D.s=[D.s "is",.s "not",.s "begins",.s "least",.s "most",.s "has",.s "lacks"]:=rfl;rw[A]at b e;rw[go];unfold YO;let N:∀o,MN .n (.l o (gs.map .s)) (.l Θ [])=.ok Ξ:=λo=>by rw[ne_nil,List.isEmpty_map,f];rfl
  generalize C.t=Q,ns.map D.i=J,ms.map D.s=O,gs.map D.s=P,WM=j at *;simp![v,u,x,lm,r,R,H,b,N,y,L,e]
 |false=>
  let r:=iM (n+2) ns k 9 a ⋯ nofun;let⟨w,b,G⟩:=jm (fs:=W9) (km ns k (m:=9) nofun) (by have:=kn ns k (m:=9) nofun;exact this);generalize dr ns k 9=I at *;let W:=Z_ G;let z:gs=[]->False:=λh=>by rw[h]at f;cases f
  let⟨C,e,wf,E⟩:=wo n ns a q S hs c M w (t9 w W) (λh=>(z h).elim) (Δ (.l Ξ (ms.map .s))) (Δ (.l Θ (W9.map .s)));refine⟨C,?_,wf,λh=>(z h).elim⟩;let g:[D.s "is",.s "not",.s "begins",.s "least",.s "most",.s "has",.s "lacks"]++[D.s "in",.s "out"]=W9.map D.s:=rfl;let B:(W9.map D.s).length=9:=rfl;let p:fT (W9.map D.s)=Θ:=nu W9;rw[go];unfold YO;let N:∀o,MN .n (.l o (gs.map .s)) (.l Θ [])=.ok Θ:=λo=>by rw[ne_nil,List.isEmpty_map,f];rfl
  generalize W9.map D.s=Y,C.t=Q,ns.map D.i=J,ms.map D.s=O,gs.map D.s=P,WM=j at *;simp![v,u,x,lm,r,R,H,b,N,y,F,g,B,L,p,e]
def JF (C b:Cn)  (f:0<=r)(H:r < 6):∃(R:D) (rs:List (List Cn)),iw (.l Θ [.l Θ [],.l Θ [.l Θ []],.l Θ [.l Θ [C.d]],.l Θ [.l Θ [C.d,b.d]],.l Θ [.l Θ [C.d],.l Θ [b.d]],.l Θ [.l Θ [],.l Θ [C.d]]]) (.i r)=.ok R/\er R=.l Ξ (rs.map MA)/\il R=Ξ/\rs.length<=2/\∀a∈rs,a.length<=2/\∀c∈a,c=C∨c=b:=by
 let e:=lN C;let E:=lN b;rcases(show r=0∨r=1∨r=2∨r=3∨r=4∨r=5 by omega) with rfl|rfl|rfl|rfl|rfl|rfl
 ·exact⟨_,[],rfl,rfl,rfl,by simp,λa h=>by simp at h⟩
 ·exact⟨_,[[]],rfl,rfl,rfl,by simp,λa h=>by rw[r_.mp h];simp⟩
 ·exact⟨_,[[C]],rfl,(by show D.l Ξ [.l Ξ [er C.d]]=_;rw[e];rfl),rfl,by simp,λa h=>by rw[r_.mp h];simp⟩
 ·exact⟨_,[[C,b]],rfl,(by show D.l Ξ [.l Ξ [er C.d,er b.d]]=_;rw[e,E];rfl),rfl,by simp,λa h=>by rw[r_.mp h];simp⟩
 ·exact⟨_,[[C],[b]],rfl,(by show D.l Ξ [.l Ξ [er C.d],.l Ξ [er b.d]]=_;rw[e,E];rfl),rfl,by simp,λa h=>by
   simp only[k_,P_,or_false]at h
   rcases h with rfl|rfl<;>simp⟩
 ·exact⟨_,[[],[C]],rfl,(by show D.l Ξ [.l Ξ [],.l Ξ [er C.d]]=_;rw[e];rfl),rfl,by simp,λa h=>by
   simp only[k_,P_,or_false]at h
   rcases h with rfl|rfl<;>simp⟩
def Df (n:Nat)(ns:È)  (y:0<=k)(x:k<=3600){ms:Æ}(H:0 < ms.length)(P:ms.length<=20){st:Str}(hs:st.length<=100)(c:Int)  (A:0<=g)(G:g < 2) :
  ∃p h:Cn,iD (iP (ba T (n+4)) (.n 6) [] (.C 54 [.v 0,.b .a (.b .a (.b .a (.v 1) (.c (.i 70))) (.b .m (.c (.i 30)) (.v 2))) (.b .m (.c (.i 14)) (.v 6)),.v 3,.l [],.v 4,.v 5]) [Δ (.l Ξ (ns.map .i)),Δ (.i k),Δ (.i g),Δ (.l Ξ (ms.map .s)),Δ (.s st),Δ (.i c),Φ]) (iQ 0 2)=.ok [p.t,h.t]/\(Wf p/\O7 p.w=Ξ)/\(Wf h/\O7 h.w=Ξ):=by
 let q:=iB ns;let E:=iA ms;let one:∀j:Int,0<=j->j < 2->∃f:Cn,iP (ba T (n+4)) (.n 6) [] (.C 54 [.v 0,.b .a (.b .a (.b .a (.v 1) (.c (.i 70))) (.b .m (.c (.i 30)) (.v 2))) (.b .m (.c (.i 14)) (.v 6)),.v 3,.l [],.v 4,.v 5]) [Δ (.l Ξ (ns.map .i)),Δ (.i k),Δ (.i g),Δ (.l Ξ (ms.map .s)),Δ (.s st),Δ (.i c),Φ] (.i j)=.ok (Δ f.t)/\Wf f/\O7 f.w=Ξ:=by intro j z J;let⟨f,e,wf,io⟩:=wq n ns (k:=k+70+30*g+14*j) ⋯ ⋯ H P (gs:=[]) (by simp) hs c;let e:ba T (n+4) 54 [.l Ξ (ns.map .i),.i (k+70+30*g+14*j),.l Ξ (ms.map .s),.l Ξ [],.s st,.i c]=.ok f.t:=e;refine⟨f,?_,wf,io rfl⟩;generalize ns.map D.i=N,ms.map D.s=M,f.t=B at *;simp![ie,q,E,e]
 let⟨p,u,W⟩:=one 0 nofun nofun;let⟨h,r,w⟩:=one 1 nofun nofun;exact⟨p,h,nc u (nc r rfl),W,w⟩
def Dg (n:Nat)(ns:È)  (k0:0<=k)(Y:k<=3600){ms:Æ}(hm:0 < ms.length)(P7:ms.length<=20){st:Str}(hs:st.length<=100)(c:Int)  (A:0<=g)(g1:g < 2){fs:Æ}(hf:2<=fs.length)  (hgl:gs.length<=10)(b7 p B:Ã) :
  ∃(G:Gp) (c8 c9:Ã),turn (ba T (n+4)) (.n 7) WN (.i g) [Δ (.l Ξ (ns.map .i)),Δ (.i k),Δ (.l Ξ (ms.map .s)),Δ (.s st),Δ (.i c),Δ (.l Θ (gs.map Gp.d)),Δ (.l Ξ (fs.map .s)),b7,p,B]=.ok (.n [Δ (.l Ξ (ns.map .i)),Δ (.i k),Δ (.l Ξ (ms.map .s)),Δ (.s st),Δ (.i c),Δ (.l Θ ((gs++[G]).map Gp.d)),Δ (.l Ξ (fs.map .s)),Δ (.i g),c8,c9])/\fs[g.toNat]? = Δ G.nm/\G.rows.length<=2/\∀h∈G.rows,h.length<=2/\∀c∈h,Wf c/\O7 c.w=Ξ:=by
 let⟨f,e,e0,J,W⟩:=Df n ns k0 Y hm P7 hs c A g1;let d1:=iM (n+3) ns (k+6+g) 6 ⋯ ⋯ nofun;let⟨R,rs,e1,I,x,L,H⟩:=JF f e (km ns (k+6+g) (m:=6) nofun) (kn ns (k+6+g) nofun);generalize dr ns (k+6+g) 6=r at *;let⟨y,hy,gy⟩:=jm (fs:=fs) A ⋯;let w:=iB ns;let F:=iA ms;let ef:=iA fs;let O:=Bl f;let N:=Bl e;let u:LM [f.t,e.t]=[f.d,e.d]:=by show [er f.t,er e.t]=_;rw[O,N]
 let U:fT [f.t,e.t]=Ξ:=rfl;let Q:jK [f.d,e.d] Φ (Δ 1)=[f.d]:=rfl;let P:jK [f.d,e.d] (Δ 1) Φ=[e.d]:=rfl;let X:(iQ 0 2).length=2:=rfl;let j:=lN f;let E:=lN e;let lg:(gs.map Gp.d).length=gs.length:=i_ _;let kp:iE (.d gGr [0,1,7,2,3,4] (.n 6) (.M (.c (.i 2))) [] (.C 54 [.v 0,.b .a (.b .a (.b .a (.v 1) (.c (.i 70))) (.b .m (.c (.i 30)) (.v 2))) (.b .m (.c (.i 14)) (.v 6)),.v 3,.l [],.v 4,.v 5])) (.l Θ [f.t,e.t]) [Δ (.l Ξ (ns.map .i)),Δ (.i k),Δ (.l Ξ (ms.map .s)),Δ (.s st),Δ (.i c),Δ (.l Θ (gs.map Gp.d)),Δ (.l Ξ (fs.map .s)),Δ (.i g),p,B]=(.l Θ [f.d,e.d],[Δ (.l Ξ (ns.map .i)),Δ (.i k),Δ (.l Ξ (ms.map .s)),Δ (.s st),Δ (.i c),Δ (.l Θ (gs.map Gp.d)),Δ (.l Ξ (fs.map .s)),Δ (.i g),p,B]):=by show(D.l Θ (LM [f.t,e.t]),[Δ (.l Ξ (LM (ns.map .i))),Δ (.i k),Δ (.l Ξ (LM (ms.map .s))),Δ (.s st),Δ (.i c),Δ (.l Θ (gs.map Gp.d)),Δ (.l Ξ (fs.map .s)),Δ (.i g),p,B])=_;rw[u,w,F]
 let ZJ:iE (.i (.l [.l [],.l [.l []],.l [.S (.v 8) Φ (Δ (.c (.i 1)))],.l [.v 8],.l [.S (.v 8) Φ (Δ (.c (.i 1))),.S (.v 8) (Δ (.c (.i 1))) Φ],.l [.l [],.S (.v 8) Φ (Δ (.c (.i 1)))]]) (.C 43 [.v 0,.b .a (.b .a (.v 1) (.c (.i 6))) (.v 7),.c (.i 6)])) R [Δ (.l Ξ (ns.map .i)),Δ (.i k),Δ (.l Ξ (ms.map .s)),Δ (.s st),Δ (.i c),Δ (.l Θ (gs.map Gp.d)),Δ (.l Ξ (fs.map .s)),Δ (.i g),Δ (.l Θ [f.d,e.d]),B]=(.l Ξ (rs.map MA),[Δ (.l Ξ (ns.map .i)),Δ (.i k),Δ (.l Ξ (ms.map .s)),Δ (.s st),Δ (.i c),Δ (.l Θ (gs.map Gp.d)),Δ (.l Ξ (fs.map .s)),Δ (.i g),Δ (.l Ξ [f.d,e.d]),B]):=by unfold iE;rw[d_ (by rw[x];simp)];show(er R,[Δ (.l Ξ (LM (ns.map .i))),Δ (.i k),Δ (.l Ξ (ms.map .s)),Δ (.s st),Δ (.i c),Δ (.l Θ (gs.map Gp.d)),Δ (.l Ξ (fs.map .s)),Δ (.i g),Δ (.l Ξ [er f.d,er e.d]),B])=_;rw[I,w,j,E]
 refine⟨⟨y,rs⟩,Δ (.l Ξ [f.d,e.d]),Δ (.l Ξ (rs.map MA)),?_,gy,L,λh z=>⟨(H h z).1,λc hc=>?_⟩⟩
 ·let OX:(gs++[(⟨y,rs⟩:Gp)]).map Gp.d=gs.map Gp.d++[.t [.s y,.l Ξ (rs.map MA)]]:=by rw[I_];rfl
  rw[OX];unfold WN;unfold gGr at *;let q:=oX rs;generalize ns.map D.i=NS,ms.map D.s=MS,fs.map D.s=FS,gs.map Gp.d=GS,rs.map MA=RS,f.t=T0,e.t=T1,f.d=D0,e.d=D1 at *;simp![ie,w,F,ef,X,e0,kp,ZJ,Q,P,d1,e1,I,x,hy,j,E,lg,q]
 ·rcases(H h z).2 c hc with rfl|rfl
  ·exact J
  ·exact W
def oY (h:(iQ 0 r)[i]? = Δ x):i < r.toNat/\x=.i (i:Nat):=by let hi:=(v_.mp h).1;rw[me]at hi;unfold iQ at h;rw[D_,List.getElem?_range ⋯]at h;let H:D.i (0+(i:Nat))=x:=H_ h;exact⟨hi,by rw[<- H,Int.zero_add]⟩
def xA (n:Nat)(ns:È)  (I:0<=k)(X:k<=3600){ms:Æ}(hm:2<=ms.length)(P7:ms.length<=20)(S4:ms.Nodup){st:Str}(hs:st.length<=100)(c:Int) :
  ∃gs:List Gp,ba T (n+5) 55 [.l Ξ (ns.map .i),.i k,.l Ξ (ms.map .s),.s st,.i c]=.ok (.l Θ (gs.map Gp.d))/\O1 gs/\gs.length<=2/\∀g∈gs,g.rows.length<=2/\∀R∈g.rows,R.length<=2:=by
 let⟨A,eA,W,N,_⟩:=ko (n+2) ns (k:=k) I ⋯ (c:=2) nofun nofun;let⟨r,d1,a0,a1⟩:=Nw (n+3) ns (k+4) 2 ⋯ ⋯ nofun;obtain⟨fs,hf,lf,R3⟩:∃fs:Æ,(∀o,iw (.l o [.l Θ (A.map .s),.l Θ (ms.map .s)]) (.i r)=.ok (.l Θ (fs.map .s)))/\2<=fs.length/\fs.Nodup:=by
  rcases(show r=0∨r=1 by omega) with rfl|rfl
  ·exact⟨A,λ_=>rfl,by rw[W];decide,N⟩
  ·exact⟨ms,λ_=>rfl,hm,S4⟩
 let⟨q,d2,b0,b1⟩:=Nw (n+3) ns (k+5) 3 ⋯ ⋯ nofun;let⟨S,e,gs,Q,z,y,rfl,gl,G⟩:=jl (its:=iQ 0 q) (a:=[Δ (.l Ξ (ns.map .i)),Δ (.i k),Δ (.l Ξ (ms.map .s)),Δ (.s st),Δ (.i c),Δ (.l Θ []),Δ (.l Ξ (fs.map .s)),Φ,Φ,Φ]) (body:=turn (ba T (n+4)) (.n 7) WN)
  (λi F=>∃(gs:List Gp) (Q z y:Ã),F=[Δ (.l Ξ (ns.map .i)),Δ (.i k),Δ (.l Ξ (ms.map .s)),Δ (.s st),Δ (.i c),Δ (.l Θ (gs.map Gp.d)),Δ (.l Ξ (fs.map .s)),Q,z,y]/\gs.length=i/\∀(j:Nat) (g:Gp),gs[j]? = Δ g->fs[j]? = Δ g.nm/\g.rows.length<=2/\∀R∈g.rows,R.length<=2/\∀c∈R,Wf c/\O7 c.w=Ξ)
  ⟨[],Φ,Φ,Φ,rfl,rfl,λj g h=>by simp at h⟩ (by
   rintro i x F Y ⟨gs,u,p,m,rfl,hl,E⟩;let⟨hi,rfl⟩:=oY Y;let⟨J,z,y,e,g1,g2,g3⟩:=Dg n ns I X ⋯ P7 hs c (g:=(i:Int)) ⋯ ⋯ lf (gs:=gs) ⋯ u p m;refine⟨_,e,gs++[J],_,z,y,rfl,by rw[q_,hl];rfl,λj g H=>?_⟩;by_cases V9:j < gs.length
   ·rw[aaH V9]at H;exact E j g H
   ·rw[aaS ⋯]at H;let R7:j=i:=by have:=(v_.mp H).1;rw[V_]at this;omega
    rw[show j - gs.length=0 by omega]at H;let h':J=g:=H_ H;subst h';rw[R7]
    exact⟨by rw[<- g1];congr 1,g2,g3⟩)
 rw[me]at gl;let O:=iB ns;let M:=iA ms;let P:=iA fs;let NZ:∀g∈gs,g.rows.length<=2/\∀R∈g.rows,R.length<=2/\∀c∈R,Wf c/\O7 c.w=Ξ:=λg f=>by let⟨j,H⟩:=aao.mp f;exact(G j g H).2
 refine⟨gs,?_,⟨λg f R w c hc=>((NZ g f).2 R w).2 c hc,?_,λg f=>⟨Q_ (NZ g f).1 nofun,λR w=>Q_ ((NZ g f).2 R w).1 nofun⟩⟩,⋯,λg f=>⟨(NZ g f).1,λR w=>((NZ g f).2 R w).1⟩⟩
 ·let go:ba T (n+5) 55 [.l Ξ (ns.map .i),.i k,.l Ξ (ms.map .s),.s st,.i c]=_:=gx 55 d55 5 10 b55 rfl rfl rfl rfl rfl rfl;rw[go];unfold b55;let kp:∀u p m:Ã,iE (.i (.l [.C 44 [.v 0,.v 1,.c (.i 2)],.B .L [.v 2]]) (.C 43 [.v 0,.b .a (.v 1) (.c (.i 4)),.c (.i 2)])) (.l Θ (fs.map .s)) [Δ (.l Ξ (ns.map .i)),Δ (.i k),Δ (.l Ξ (ms.map .s)),Δ (.s st),Δ (.i c),Δ (.l Θ []),Φ,u,p,m]=(.l Ξ (fs.map .s),[Δ (.l Ξ (ns.map .i)),Δ (.i k),Δ (.l Ξ (ms.map .s)),Δ (.s st),Δ (.i c),Δ (.l Θ []),Φ,u,p,m]):=λu p m=>by show(D.l Ξ (LM (fs.map .s)),[Δ (.l Ξ (LM (ns.map .i))),Δ (.i k),Δ (.l Ξ (LM (ms.map .s))),Δ (.s st),Δ (.i c),Δ (.l Θ []),Φ,u,p,m])=_;rw[O,M,P]
  generalize ns.map D.i=NS,ms.map D.s=MS,fs.map D.s=FS,A.map D.s=AS,gs.map Gp.d=GS,WN=U at *;simp![O,M,P,eA,d1,d2,hf,kp,e]
 ·have:gs.map (·.nm)=fs.take gs.length:=by
   apply List.ext_getElem?;intro j;rw[D_];by_cases H:j < gs.length
   ·rw[List.getElem?_take_of_lt H,y_ H];exact(G j gs[j] (y_ H)).1.symm
   ·rw[List.getElem?_eq_none ⋯,List.getElem?_eq_none (by rw[aaG];omega)];rfl
  rw[this];exact List.Nodup.sublist (List.take_sublist _ _) R3
def xB (n:Nat)(ns:È)  (r:0<=k)(R:k<=4000)(pl b:Int):∃sg:É,ba T (n+2) 56 [.l Ξ (ns.map .i),.i k,.i pl,.i b]=.ok (.l Θ (sg.map LU))/\sg.length<=3:=by
 let N:=iM n ns k 4 r ⋯ nofun;let L:=iM n ns (k+1) 4 ⋯ ⋯ nofun;let Y:=km ns (k+1) (m:=4) nofun;let X:=kn ns (k+1) (m:=4) nofun;generalize dr ns k 4=a,dr ns (k+1) 4=q at *;let E:=iB ns;obtain⟨M,H⟩:∃M:Int,jT .m [.i 0,.i (b - a)]=.ok (.i M):=⟨_,rfl⟩
 let⟨j,e,sg,f,g,C,rfl,gl⟩:=jl (its:=iQ 0 q) (a:=[Δ (.l Ξ (ns.map .i)),Δ (.i k),Δ (.i pl),Δ (.i b),Δ (.l Θ []),Δ (.i M),Φ,Φ]) (body:=turn (ba T (n+1)) (.n 6) Yq)
  (λi c=>∃(sg:É) (f:Int) (g C:Ã),c=[Δ (.l Ξ (ns.map .i)),Δ (.i k),Δ (.i pl),Δ (.i b),Δ (.l Θ (sg.map LU)),Δ (.i f),g,C]/\sg.length=i)
  ⟨[],M,Φ,Φ,rfl,rfl⟩ (by
   rintro i x c s ⟨sg,f,W,U,rfl,B⟩;let⟨hi,rfl⟩:=oY s;let J:=iM n ns (k+2+(i:Int)) 10008 ⋯ ⋯ nofun;let I:=iM n ns (k+5+(i:Int)) 6 ⋯ ⋯ nofun;let P:=km ns (k+5+(i:Int)) (m:=6) nofun;let O:=kn ns (k+5+(i:Int)) (m:=6) nofun;let G:=iM n ns (k+8+(i:Int)) 3 ⋯ ⋯ nofun;generalize dr ns (k+2+(i:Int)) 10008=u,dr ns (k+5+(i:Int)) 6=v,dr ns (k+8+(i:Int)) 3=w at *;let h:=Ui (o:=Θ) (x:=[0,10007,pl,pl+1,pl,u]) (i:=v) P (by show v < 6;exact O);let h:iw (.l Θ [.i 0,.i 10007,.i pl,.i (pl+1),.i pl,.i u]) (.i v)=.ok (.i ([0,10007,pl,pl+1,pl,u].getD v.toNat 0)):=h;generalize([0,10007,pl,pl+1,pl,u]:È).getD v.toNat 0=y at *;let lg:(sg.map LU).length=sg.length:=i_ _;refine⟨[Δ (.l Ξ (ns.map .i)),Δ (.i k),Δ (.i pl),Δ (.i b),Δ (.l Θ ((sg++[(f,y)]).map LU)),Δ (.i (f+1+w)),Δ (.i (i:Nat)),Δ (.l Θ [.i 0,.i 10007,.i pl,.i (pl+1),.i pl,.i u])],?_,sg++[(f,y)],_,_,_,rfl,by rw[q_,B];rfl⟩;let z:(sg++[(f,y)]).map LU=sg.map LU++[.t [.i f,.i y]]:=by rw[I_];rfl
   rw[z];unfold Yq;generalize ns.map D.i=Q,sg.map LU=S at *
   simp![ie,E,J,I,G,h,lg])
 rw[me]at gl;refine⟨sg,?_,⋯⟩;let go:ba T (n+2) 56 [.l Ξ (ns.map .i),.i k,.i pl,.i b]=_:=gx 56 d56 4 8 b56 rfl rfl rfl rfl rfl rfl;rw[go];unfold b56;let A:(if b - a > 0 then b - a else 0)=M:=by have:(.ok (.i (if b - a > 0 then b - a else 0)):Res D)=.ok (.i M):=H;injection this with F;injection F
 generalize ns.map D.i=Q,sg.map LU=S,Yq=p at *;simp![E,N,L,H,A,e]
abbrev Oc.t:Oc->D
 |.F f=>.t [.s "face",.s f]
 |.s f st=>.t [.s "share",.s f,.l Θ (st.map LU)]
 |.U=>.t [.s "lot"]
def JG (o:Oc):er o.t=o.d:=by
 cases o with
 |s f st=>show D.t [.s "share",.s f,.l Ξ (LM (st.map LU))]=_;rw[ja];rfl
 |_=>rfl
def uG (n:Nat)(ns:È)  (r:0<=k)(u:k<=3990){fs:Æ}(v:0 < fs.length)(y:fs.length<=20)(pl a:Int):∃o:Oc,ba T (n+3) 57 [.l Ξ (ns.map .i),.i k,.l Ξ (fs.map .s),.i pl,.i a]=.ok o.t/\∀f sg,o=.s f sg->sg.length<=3:=by
 let E:=iB ns;let b:=iA fs;let lf:(fs.map D.s).length=fs.length:=i_ _;let g:=iM (n+1) ns (k+1) (fs.length:Int) ⋯ ⋯ ⋯;let⟨f,H,_⟩:=jm (fs:=fs) (km ns (k+1) (m:=(fs.length:Int)) ⋯) (kn ns (k+1) ⋯);generalize dr ns (k+1) (fs.length:Int)=I at *;let c:=iM (n+1) ns k 3 r ⋯ nofun;generalize dr ns k 3=q at *;let⟨sg,e,L⟩:=xB n ns (k:=k+2) ⋯ ⋯ pl a;cases Q:(q == 0) with
 |true=>refine⟨.F f,?_,λf sg h=>by cases h⟩;show _=Except.ok (D.t [.s "face",.s f]);rw[gx 57 Xo 5 7 Uu rfl];unfold Uu;generalize ns.map D.i=N,fs.map D.s=p at *;simp![E,b,lf,g,H,c,Q]
 |false=>
  cases j:(q == 1) with
  |true=>refine⟨.s f sg,?_,λw S h=>by cases h;exact L⟩;show _=Except.ok (D.t [.s "share",.s f,.l Θ (sg.map LU)]);rw[gx 57 Xo 5 7 Uu rfl];unfold Uu;generalize ns.map D.i=N,fs.map D.s=p,sg.map LU=x at *;simp![E,b,lf,g,H,c,Q,j,e]
  |false=>refine⟨.U,?_,λf sg h=>by cases h⟩;show _=Except.ok (D.t [.s "lot"]);rw[gx 57 Xo 5 7 Uu rfl];unfold Uu;generalize ns.map D.i=N,fs.map D.s=p at *;simp![E,b,lf,g,H,c,Q,j]
def G1 (cs:List Cn):LM (cs.map Cn.t)=cs.map Cn.d:=by rw[iI,z_];exact S_ λc _=>Bl c
abbrev Rl.t (r:Rl):D:=.t [MA r.cs,r.o.t]
def JH (r:Rl):er r.t=r.d:=by show D.t [er (MA r.cs),er r.o.t]=_;rw[sU,JG];rfl
def G2 (rs:List Rl):LM (rs.map Rl.t)=rs.map Rl.d:=by rw[iI,z_];exact S_ λc _=>JH c
def Dh (n:Nat)(ns:È)  (B:0<=k)(z:k<=3400){ms gn fs:Æ}(r:0 < ms.length)(P:ms.length<=20)(S:gn.length<=20)(G:0 < fs.length)(I:fs.length<=20){st:Str}(hs:st.length<=100)(c pl a:Int)(A:Ã)(i:Nat)(hi:i < 5)  (y:0<=q)(Q:q < 3)(O:Ã) :
  ∃(cs:List Cn) (N:Ã),forM (turn (ba T (n+4)) (.n 12) WO) (iQ 0 q) [Δ (.l Ξ (ns.map .i)),Δ (.i k),Δ (.l Ξ (ms.map .s)),Δ (.l Ξ (gn.map .s)),Δ (.l Ξ (fs.map .s)),Δ (.s st),Δ (.i c),Δ (.i pl),Δ (.i a),A,Δ (.i (i:Nat)),Δ (.l Θ []),O]=.ok (.n [Δ (.l Ξ (ns.map .i)),Δ (.i k),Δ (.l Ξ (ms.map .s)),Δ (.l Ξ (gn.map .s)),Δ (.l Ξ (fs.map .s)),Δ (.s st),Δ (.i c),Δ (.i pl),Δ (.i a),A,Δ (.i (i:Nat)),Δ (.l Θ (cs.map Cn.t)),N])/\cs.length<=2/\∀c∈cs,Wf c:=by
 let u:=iB ns;let E:=iA ms;let v:=iA gn;let⟨m,e,cs,N,rfl,f,b⟩:=jl (its:=iQ 0 q) (a:=[Δ (.l Ξ (ns.map .i)),Δ (.i k),Δ (.l Ξ (ms.map .s)),Δ (.l Ξ (gn.map .s)),Δ (.l Ξ (fs.map .s)),Δ (.s st),Δ (.i c),Δ (.i pl),Δ (.i a),A,Δ (.i (i:Nat)),Δ (.l Θ []),O]) (body:=turn (ba T (n+4)) (.n 12) WO)
  (λj g=>∃(cs:List Cn) (N:Ã),g=[Δ (.l Ξ (ns.map .i)),Δ (.i k),Δ (.l Ξ (ms.map .s)),Δ (.l Ξ (gn.map .s)),Δ (.l Ξ (fs.map .s)),Δ (.s st),Δ (.i c),Δ (.i pl),Δ (.i a),A,Δ (.i (i:Nat)),Δ (.l Θ (cs.map Cn.t)),N]/\cs.length=j/\∀c∈cs,Wf c)
  ⟨[],O,rfl,rfl,λc h=>by simp at h⟩ (by
   rintro j x g p ⟨cs,N,rfl,f,b⟩;let⟨F,rfl⟩:=oY p;let⟨C,e,wf,_⟩:=wq n ns (k:=k+6+60*(i:Int)+14*(j:Int)) ⋯ ⋯ r P (gs:=gn) S hs c;let L:il C.t=Ξ:=rfl;let ll:(cs.map Cn.t).length=cs.length:=i_ _;refine⟨[Δ (.l Ξ (ns.map .i)),Δ (.i k),Δ (.l Ξ (ms.map .s)),Δ (.l Ξ (gn.map .s)),Δ (.l Ξ (fs.map .s)),Δ (.s st),Δ (.i c),Δ (.i pl),Δ (.i a),A,Δ (.i (i:Nat)),Δ (.l Θ ((cs++[C]).map Cn.t)),Δ (.i (j:Nat))],?_,cs++[C],_,rfl,by rw[q_,f];rfl,λc H=>?_⟩
   ·let w:(cs++[C]).map Cn.t=cs.map Cn.t++[C.t]:=by rw[I_];rfl
    rw[w];unfold WO;generalize ns.map D.i=J,ms.map D.s=M,gn.map D.s=R,fs.map D.s=U,cs.map Cn.t=X,C.t=W at *;simp![ie,u,E,v,e,L,ll]
   ·rcases w_.mp H with H|H
    ·exact b c H
    ·rw[r_.mp H];exact wf)
 rw[me]at f;exact⟨cs,N,e,⋯,b⟩
def Di (n:Nat)(ns:È)  (p:0<=k)(m:k<=3400){ms gn fs:Æ}(v:0 < ms.length)(P:ms.length<=20)(S:gn.length<=20)(h:0 < fs.length)(Q:fs.length<=20){st:Str}(hs:st.length<=100)(c pl a:Int)(i:Nat)(hi:i < 5)  (H:rs.length<=10)(F Y O:Ã) :
  ∃(r:Rl) (C N:Ã),turn (ba T (n+4)) (.n 10) WQ (.i (i:Nat)) [Δ (.l Ξ (ns.map .i)),Δ (.i k),Δ (.l Ξ (ms.map .s)),Δ (.l Ξ (gn.map .s)),Δ (.l Ξ (fs.map .s)),Δ (.s st),Δ (.i c),Δ (.i pl),Δ (.i a),Δ (.l Θ (rs.map Rl.t)),F,Y,O]=.ok (.n [Δ (.l Ξ (ns.map .i)),Δ (.i k),Δ (.l Ξ (ms.map .s)),Δ (.l Ξ (gn.map .s)),Δ (.l Ξ (fs.map .s)),Δ (.s st),Δ (.i c),Δ (.i pl),Δ (.i a),Δ (.l Θ ((rs++[r]).map Rl.t)),Δ (.i (i:Nat)),C,N])/\(∀c∈r.cs,Wf c)/\r.cs.length<=2/\∀f sg,r.o=.s f sg->sg.length<=3:=by
 let⟨q,z,j,g⟩:=Nw (n+3) ns (k+1+(i:Int)) 3 ⋯ ⋯ nofun;let⟨cs,N,e,L,wf⟩:=Dh n ns p m v P S h Q hs c pl a (Δ (.l Θ (rs.map Rl.t))) i hi j g O;let⟨o,y,u⟩:=uG (n+1) ns (k:=k+40+60*(i:Int)) ⋯ ⋯ h Q pl a;let E:=iB ns;let w:=iA fs;let x:=G1 cs;let ll:(rs.map Rl.t).length=rs.length:=i_ _;refine⟨⟨cs,o⟩,Δ (.l Ξ (cs.map Cn.d)),N,?_,wf,L,u⟩;let A:(rs++[(⟨cs,o⟩:Rl)]).map Rl.t=rs.map Rl.t++[.t [.l Ξ (cs.map Cn.d),o.t]]:=by rw[I_];rfl
 rw[A];unfold WQ;generalize ns.map D.i=G,ms.map D.s=M,gn.map D.s=I,fs.map D.s=J,cs.map Cn.t=R,cs.map Cn.d=U,rs.map Rl.t=RT,o.t=B,WO=b at *;cases lo:il B<;>simp![ie,E,w,z,e,x,y,lo,ll]
def Bm (n:Nat)(ns:È)  (w:0<=k)(A:k<=3400){ms gn fs:Æ}(C:0 < ms.length)(P:ms.length<=20)(S:gn.length<=20)(E:0 < fs.length)(Q:fs.length<=20){st:Str}(hs:st.length<=100)(c pl a:Int):∃rs:List Rl,ba T (n+5) 58 [.l Ξ (ns.map .i),.i k,.l Ξ (ms.map .s),.l Ξ (gn.map .s),.l Ξ (fs.map .s),.s st,.i c,.i pl,.i a]=.ok (.l Θ (rs.map Rl.t))/\rs.length<=4/\∀r∈rs,(∀c∈r.cs,Wf c)/\r.cs.length<=2/\∀f sg,r.o=.s f sg->sg.length<=3:=by
 let⟨q,I,L,J⟩:=Nw (n+3) ns k 5 w ⋯ nofun;let G:=iB ns;let⟨y,e,rs,M,b,N,rfl,m,g⟩:=jl (its:=iQ 0 q) (a:=[Δ (.l Ξ (ns.map .i)),Δ (.i k),Δ (.l Ξ (ms.map .s)),Δ (.l Ξ (gn.map .s)),Δ (.l Ξ (fs.map .s)),Δ (.s st),Δ (.i c),Δ (.i pl),Δ (.i a),Δ (.l Θ []),Φ,Φ,Φ]) (body:=turn (ba T (n+4)) (.n 10) WQ)
  (λj v=>∃(rs:List Rl) (M b N:Ã),v=[Δ (.l Ξ (ns.map .i)),Δ (.i k),Δ (.l Ξ (ms.map .s)),Δ (.l Ξ (gn.map .s)),Δ (.l Ξ (fs.map .s)),Δ (.s st),Δ (.i c),Δ (.i pl),Δ (.i a),Δ (.l Θ (rs.map Rl.t)),M,b,N]/\rs.length=j/\∀r∈rs,(∀c∈r.cs,Wf c)/\r.cs.length<=2/\∀f sg,r.o=.s f sg->sg.length<=3)
  ⟨[],Φ,Φ,Φ,rfl,rfl,λc h=>by simp at h⟩ (by
   rintro j x v B ⟨rs,M,b,N,rfl,m,g⟩;let⟨O,rfl⟩:=oY B;let⟨r,u,p,e,F⟩:=Di n ns w A C P S E Q hs c pl a j ⋯ (rs:=rs) ⋯ M b N;refine⟨_,e,rs++[r],_,u,p,rfl,by rw[q_,m];rfl,λR H=>?_⟩;rcases w_.mp H with H|H
   ·exact g R H
   ·rw[r_.mp H];exact F)
 rw[me]at m;refine⟨rs,?_,⋯,g⟩;let go:ba T (n+5) 58 [.l Ξ (ns.map .i),.i k,.l Ξ (ms.map .s),.l Ξ (gn.map .s),.l Ξ (fs.map .s),.s st,.i c,.i pl,.i a]=_:=gx 58 d58 9 13 b58 rfl rfl rfl rfl rfl rfl;rw[go];unfold b58;generalize ns.map D.i=U,ms.map D.s=W,gn.map D.s=X,fs.map D.s=Y,rs.map Rl.t=RT,WQ=z at *;simp![G,I,e]
section
variable (n:Nat)(ns:È){k:Int}(g:0<=k)(f:k<=4000){fs:Æ}(Q:fs.length<=20)(b a:Ã)(j:Nat)(p:j < fs.length){ms:List (Str×Tn)}(h:ms.length<=20)
include g f Q h in
theorem KD {w:Int}(W:0<=w)(t:Tn):∃m:List (Str×Tn),Ms (ba T (n+3)) Yr [Δ (.l Ξ (ns.map .i)),Δ (.i k),Δ (.l Ξ (fs.map .s)),b,a,Δ (.l Θ (ms.map MJ)),Δ (.i (j:Nat)),Δ (.i w),Δ t.d]=.ok (.n [Δ (.l Ξ (ns.map .i)),Δ (.i k),Δ (.l Ξ (fs.map .s)),b,a,Δ (.l Θ (m.map MJ)),Δ (.i (j:Nat)),Δ (.i w),Δ t.d])/\(m=ms∨∃(q:Nat) (t:Tn),m=ms.take q++(fs[j],t)::ms.drop q):=by
 let r:=iB ns;let u:=iA fs;let E:=AU t;let lt:=JB t;let⟨q,v,B,z⟩:=Nw (n+2) ns (k+6+8*(j:Int)) ((ms.length:Int)+1) ⋯ ⋯ ⋯;let⟨nm,P,Y⟩:=jm (fs:=fs) (i:=(j:Int)) ⋯ ⋯;let N:nm=fs[j]:=by rw[aae,y_ p]at Y;exact(H_ Y).symm
 let lm:(ms.map MJ).length=ms.length:=i_ _;let G:decide (0<=q/\q.toNat<=ms.length)=Θ:=B_ ⋯;let A:(ms.take q.toNat++(fs[j],t)::ms.drop q.toNat).map MJ=(ms.map MJ).take q.toNat++.t [.s nm,t.d]::(ms.map MJ).drop q.toNat:=by rw[I_,a_,List.map_take,List.map_drop,N];rfl
 unfold Yr;cases H:decide (0 < w) with
 |false=>refine⟨ms,?_,.inl rfl⟩;generalize ns.map D.i=y,fs.map D.s=F,ms.map MJ=M,t.d=x at *;simp![H]
 |true=>
  refine⟨ms.take q.toNat++(fs[j],t)::ms.drop q.toNat,?_,.inr ⟨_,_,rfl⟩⟩;rw[A];let L:il (.t [.s nm,t.d])=Θ:=by show(Θ&&(il t.d&&Θ))=Θ;rw[lt];rfl
  generalize ns.map D.i=y,fs.map D.s=F,ms.map MJ=M at *;let kp:∀e c,iE e (.t [.s nm,t.d]) c=(.t [.s nm,t.d],c):=λe c=>by unfold iE;rw[e_ L]
  generalize t.d=x at *;simp![H,r,u,P,v,lm,G,kp,lt,L,E]
include g f in
theorem KG (R:j<=20)(c:Int){st:Str}(hs:st.length<=100){w:Int}(I:0<=w)(W:w < 5)(x:Int)(q S:Ã):∃t:Tn,∀F,Ms (ba T (n+3)) Yr [Δ (.l Ξ (ns.map .i)),Δ (.i k),q,Δ (.s st),Δ (.i c),S,Δ (.i (j:Nat)),Δ (.i w),Δ t.d]=.ok (.n F)->iz (ba T (n+3)) Ys [Δ (.l Ξ (ns.map .i)),Δ (.i k),q,Δ (.s st),Δ (.i c),S,Δ (.i (j:Nat)),Δ (.i w),Δ (.i x)]=.ok (.n F):=by
 let v:=iB ns;unfold Ys;rcases(show w=0∨w=1∨w=2∨w=3∨w=4 by omega) with rfl|rfl|rfl|rfl|rfl
 ·refine⟨.i x,λF e=>?_⟩;rw[sk rfl,sk rfl,sk rfl];exact sT e
 ·let A:=iM (n+2) ns (k+2+8*(j:Int)) 3 ⋯ ⋯ nofun;let H:=Ui (o:=Θ) (x:=[1000000000,0 - 1000000000,c+3]) (i:=dr ns (k+2+8*(j:Int)) 3) (km ns _ nofun) (kn ns (k+2+8*(j:Int)) (m:=3) nofun);generalize dr ns (k+2+8*(j:Int)) 3=u at *;let H:iw (.l Θ [.i 1000000000,.i (0 - 1000000000),.i (c+3)]) (.i u)=.ok (.i ([1000000000,0 - 1000000000,c+3].getD u.toNat 0)):=H;generalize([1000000000,0 - 1000000000,c+3]:È).getD u.toNat 0=y at *;let r:decide ((0:Int)<=9/\(9:Int)<=1000000/\Int.natAbs 10 < 2 ^ 64)=Θ:= nofun
  let G:((10:Int) ^ Int.toNat 9)=1000000000:= nofun
  refine⟨.i y,λF e=>?_⟩;rw[Sb rfl (τ':=[Δ (.l Ξ (ns.map .i)),Δ (.i k),q,Δ (.s st),Δ (.i c),S,Δ (.i (j:Nat)),Δ (.i 1),Δ (.i y)]) ?_,sk rfl,sk rfl]
  ·exact sT e
  clear e;unfold mB1;generalize ns.map D.i=N at *;simp![v,A,r,G,H]
 ·let⟨z,E,L⟩:=nO (n+1) ns (k:=k+3+8*(j:Int)) ⋯ ⋯ hs;refine⟨.s z,λF e=>?_⟩;rw[sk rfl,Sb rfl (τ':=[Δ (.l Ξ (ns.map .i)),Δ (.i k),q,Δ (.s st),Δ (.i c),S,Δ (.i (j:Nat)),Δ (.i 2),Δ (.s z)]) ?_,sk rfl]
  ·exact sT e
  clear e;unfold mB2;generalize ns.map D.i=N at *;simp![v,E]
 ·let⟨z,E,L⟩:=nO (n+1) ns (k:=k+3+8*(j:Int)) ⋯ ⋯ hs;let C:(z++st).length<=300:=by rw[vV];omega
  let B:z.length+st.length<=300:=⋯
  refine⟨.s (Txt.slice (z++st) Φ (Δ 12)),λF e=>?_⟩;rw[sk rfl,Sb rfl (τ':=[Δ (.l Ξ (ns.map .i)),Δ (.i k),q,Δ (.s st),Δ (.i c),S,Δ (.i (j:Nat)),Δ (.i 3),Δ (.s z)]) ?_,Sb rfl (τ':=[Δ (.l Ξ (ns.map .i)),Δ (.i k),q,Δ (.s st),Δ (.i c),S,Δ (.i (j:Nat)),Δ (.i 3),Δ (.s (Txt.slice (z++st) Φ (Δ 12)))]) ?_]
  ·exact sT e
  ·clear e;unfold mB3;generalize ns.map D.i=N at *;simp![LJ]
  ·clear e;unfold mB2;generalize ns.map D.i=N at *;simp![v,E]
 ·refine⟨.i x,λF e=>?_⟩;rw[sk rfl,sk rfl,sk rfl];exact sT e
end
def Dj (n:Nat)(ns:È)  (b:0<=k)(a:k<=4000){fs:Æ}(z:fs.length<=20){st:Str}(hs:st.length<=100)(c:Int)(j:Nat)(m:j < fs.length)  (g:ms.length<=20)(y v B:Ã) :
  ∃(Q:List (Str×Tn)) (u C:Ã),turn (ba T (n+3)) (.n 6) WR (.i (j:Nat)) [Δ (.l Ξ (ns.map .i)),Δ (.i k),Δ (.l Ξ (fs.map .s)),Δ (.s st),Δ (.i c),Δ (.l Θ (ms.map MJ)),y,v,B]=.ok (.n [Δ (.l Ξ (ns.map .i)),Δ (.i k),Δ (.l Ξ (fs.map .s)),Δ (.s st),Δ (.i c),Δ (.l Θ (Q.map MJ)),Δ (.i (j:Nat)),u,C])/\(Q=ms∨∃(q:Nat) (t:Tn),Q=ms.take q++(fs[j],t)::ms.drop q):=by
 let E:=iB ns;let⟨w,r,W,f⟩:=Nw (n+2) ns (k+8*(j:Int)) 5 ⋯ ⋯ nofun;let⟨x,ex⟩:=ng (n+1) ns (k:=k+1+8*(j:Int)) ⋯ ⋯ c;let⟨t,h⟩:=KG n ns b a j ⋯ c hs W f x (Δ (.l Ξ (fs.map .s))) (Δ (.l Θ (ms.map MJ)));let⟨Q,e,H⟩:=KD n ns b a z (Δ (.s st)) (Δ (.i c)) j m g W t;let p:=h _ e;refine⟨Q,Δ (.i w),Δ t.d,?_,H⟩;unfold WR;generalize ns.map D.i=N,fs.map D.s=I,ms.map MJ=G,Q.map MJ=M,Ys=A,t.d=F at *;simp![ie,E,r,ex,p]
def Bn (n:Nat)(ns:È)  (B:0<=k)(w:k<=4000){fs:Æ}(N:fs.length<=20)(S:fs.Nodup){st:Str}(hs:st.length<=100)(c:Int) :
  ∃ms:List (Str×Tn),ba T (n+4) 59 [.l Ξ (ns.map .i),.i k,.l Ξ (fs.map .s),.s st,.i c]=.ok (.l Θ (ms.map MJ))/\(ms.map (·.1)).Nodup/\ms.length<=20:=by
 let I:=iB ns;let J:=iA fs;let lf:(fs.map D.s).length=fs.length:=i_ _;let⟨u,e,ms,f,b,C,rfl,A,NZ,m⟩:=jl (its:=iQ 0 (fs.length:Int)) (a:=[Δ (.l Ξ (ns.map .i)),Δ (.i k),Δ (.l Ξ (fs.map .s)),Δ (.s st),Δ (.i c),Δ (.l Θ []),Φ,Φ,Φ]) (body:=turn (ba T (n+3)) (.n 6) WR)
  (λj g=>∃(ms:List (Str×Tn)) (f b C:Ã),g=[Δ (.l Ξ (ns.map .i)),Δ (.i k),Δ (.l Ξ (fs.map .s)),Δ (.s st),Δ (.i c),Δ (.l Θ (ms.map MJ)),f,b,C]/\(ms.map (·.1)).Nodup/\(∀p∈ms,p.1∈fs.take j)/\ms.length<=j)
  ⟨[],Φ,Φ,Φ,rfl,List.nodup_nil,λp h=>by simp at h,by simp⟩ (by
   rintro j x g G ⟨ms,f,b,C,rfl,hn,NZ,m⟩;let⟨a,rfl⟩:=oY G;let a:j < fs.length:=⋯
   let⟨Q,M,L,e,h⟩:=Dj n ns B w N hs c j a (ms:=ms) ⋯ f b C;let sub:∀y,y∈fs.take j->y∈fs.take (j+1):=λy F=>by rw[List.take_succ_eq_append_getElem a];exact u_ _ F
   refine⟨_,e,Q,_,M,L,rfl,?_⟩;rcases h with rfl|⟨q,t,rfl⟩
   ·exact⟨hn,λp H=>sub _ (NZ p H),⋯⟩
   ·let pm:(ms.take q++(fs[j],t)::ms.drop q).Perm ((fs[j],t)::ms):=by refine List.perm_middle.trans ?_;rw[List.take_append_drop]
    refine⟨(pm.map (·.1)).nodup_iff.mpr ?_,λp H=>?_,?_⟩
    ·rw[a_,F_];refine⟨λz=>?_,hn⟩;let⟨p,H,e⟩:=List.mem_map.mp z;let r:=NZ p H;rw[e]at r;let⟨i,hi,E⟩:=List.mem_iff_getElem.mp r;rw[aaG]at hi;rw[List.getElem_take]at E;exact List.pairwise_iff_getElem.mp S i j ⋯ a ⋯ E
    ·rcases k_.mp (pm.mem_iff.mp H) with rfl|H
     ·rw[List.take_succ_eq_append_getElem a];exact x_ _ (r_.mpr rfl)
     ·exact sub _ (NZ p H)
    ·rw[pm.length_eq,List.length_cons];omega)
 rw[me]at m;refine⟨ms,?_,A,⋯⟩;let go:ba T (n+4) 59 [.l Ξ (ns.map .i),.i k,.l Ξ (fs.map .s),.s st,.i c]=_:=gx 59 d59 5 9 b59 rfl rfl rfl rfl rfl rfl;rw[go];unfold b59;generalize ns.map D.i=O,fs.map D.s=R,ms.map MJ=P,WR=v at *;simp_all![I,J,lf,e]
def qU {b:Type}(f:b->D)(o:Bool){x:List b}{i:Int}{a:b}(H:0<=i)(h:x[i.toNat]? = Δ a):iw (.l o (x.map f)) (.i i)=.ok (f a):=by
 let c:i.toNat < x.length:=(v_.mp h).1;let e:M5 (x.map f) i=Δ (f a):=by unfold M5 NT;rw[e_ H,e_ (show i < ((x.map f).length:Nat) by rw[i_];omega)];show(x.map f)[i.toNat]? = _;rw[D_,h];rfl
 show(match M5 (x.map f) i with|some d=>.ok d|none=>LP:Res D)=_;rw[e]
def Dk (o:Bool)(r:Î)(p:D):iw (.l o (r++[p])) (.i (-1))=.ok p:=by
 let e:M5 (r++[p]) (-1)=Δ p:=by unfold M5 NT;rw[d_ nofun,q_,V_,e_ ⋯];show(r++[p])[((-1:Int)+((r.length+1:Nat):Int)).toNat]? = _;rw[show((-1:Int)+((r.length+1:Nat):Int)).toNat=r.length by omega];simp
 show(match M5 (r++[p]) (-1) with|some d=>.ok d|none=>LP:Res D)=_;rw[e]
def Rn (b:Nat)(r:É):Prop:=r.length<=b/\∀p∈r,p.1<=p.2
def Rn.le (h:Rn b r)(l:b<=c):Rn c r:=⟨Q_ h.1 l,h.2⟩
def Rn.add (h:Rn b q)(a:p.1<=p.2):Rn (b+1) (q++[p]):=⟨by rw[q_];exact Nat.succ_le_succ h.1,λx H=>by
 rcases w_.mp H with H|H
 ·exact h.2 x H
 ·rw[r_.mp H];exact a⟩
abbrev Nb (r:É):D:=.l Θ (r.map LU)
abbrev rnF (r:É):D:=.l Ξ (r.map LU)
def G3 (rs:List (É)):LM (rs.map Nb)=rs.map rnF:=by rw[iI,z_];refine S_ λp _=>?_;show D.l Ξ (LM (p.map LU))=_;rw[ja];rfl
def G4 (r:É):fT (r.map LU)=Θ:=by rw[iT,List.all_map];exact M_.mpr λ_ _=>rfl
def G5 (h:b[k]? = Δ (.l Θ e))(f:fT e=Θ)(H:ue a j=Θ) :
  uf cl i j c x v w b a (Δ k)=KZ (KZ (K8 cl c (a.set j (Δ (.l Θ e)))) iN) (xk cl i j k x v w b e a):=by
 show(match b[k]? with|some (.l Θ e)=>LK (fT e&&ue a j) (KZ (KZ (K8 cl c (a.set j (Δ (.l Θ e)))) iN) (xk cl i j k x v w b e a))|_=>LP)=_;rw[h];show LK (fT e&&ue a j) _=_;rw[f,H];rfl
def Dl (cl:Ä)(m j g e c S s A:Ã)(low H:Int){rs:List (É)}  (E:k < rs.length)(N:b<=100)(lh:low<=H)(C:∀r∈rs,Rn b r) :
  ∃B:List (É),uf cl 6 10 Vg WT WU Yt (rs.map Nb) [m,j,g,e,c,S,Δ (.l Θ (rs.map Nb)),s,Δ (.i low),Δ (.i H),A] (Δ k)=.ok (.n [m,j,g,e,c,S,Δ (.l Θ (B.map Nb)),s,Δ (.i low),Δ (.i H),Φ])/\B.length=rs.length/\∀r∈B,Rn (b+1) r:=by
 let I:(rs.map Nb)[k]? = Δ (.l Θ (rs[k].map LU)):=by rw[D_,y_ E];rfl
 let v:=C _ (aau E);generalize rs[k]=r at *;let u:∀R:É,Rn (b+1) R->∀x∈rs.set k R,Rn (b+1) x:=λR h x y=>by
  rcases List.mem_or_eq_of_mem_set y with y|rfl
  ·exact(C x y).le (Nat.le_succ b)
  ·exact h
 let out:∀R:É,(rs.set k R).map Nb=(rs.map Nb).set k (.l Θ (R.map LU)):=λR=>by rw[List.map_set];rfl
 let add:Ft 6 10 k (rs.map Nb) (r.map LU) [m,j,g,e,c,S,Δ (.l Θ (rs.map Nb)),s,Δ (.i low),Δ (.i H),A] (.t [.i low,.i H])=.ok (.n [m,j,g,e,c,S,Δ (.l Θ ((rs.set k (r++[(low,H)])).map Nb)),s,Δ (.i low),Δ (.i H),Φ]):=by let F:jf (r.map LU).length=Θ:=kB (by rw[i_];have:=v.1;omega);show LK (Θ&&jf (r.map LU).length) _=_;rw[F,out,I_];rfl
 rw[G5 I (G4 r) rfl];rcases List.eq_nil_or_concat r with rfl|⟨q,⟨p,P⟩,rfl⟩
 ·refine⟨rs.set k ([]++[(low,H)]),?_,List.length_set,u _ (v.add lh)⟩;rw[<- add];generalize rs.map Nb=RS at *;let z:K8 cl Vg ([m,j,g,e,c,S,Δ (.l Θ RS),s,Δ (.i low),Δ (.i H),A].set 10 (Δ (.l Θ (([]:É).map LU))))=.ok (.b Ξ):=rfl;rw[z];rfl
 ·rw[List.concat_eq_append]at *;let w:iw (.l Θ ((q++[(p,P)]).map LU)) (.i (-1))=.ok (.t [.i p,.i P]):=by rw[I_];exact Dk Θ _ _
  let M:∀f:D->D->Res Bool,kK f ((q++[(p,P)]).map LU) []=.ok Ξ:=λf=>by
   rw[I_];cases q with
   |nil=>rfl
   |cons a q=>rfl
  let L:((q++[(p,P)]).map LU).length=q.length+1:=by rw[i_,q_];rfl
  cases z:(P == low) with
  |true=>
   let F:p<=P:=v.2 (p,P) (x_ _ (r_.mpr rfl));let O:P=low:=by simpa using z
   let J:Rn b q:=⟨Q_ (by rw[q_];exact aaz _ _) v.1,λx y=>v.2 x (u_ _ y)⟩
   refine⟨rs.set k (q++[(p,H)]),?_,List.length_set,u _ (J.add (by show p<=H;omega))⟩;let G:Ct 6 10 k (rs.map Nb) ((q++[(p,P)]).map LU) [m,j,g,e,c,S,Δ (.l Θ (rs.map Nb)),s,Δ (.i low),Δ (.i H),A] (.t [.i p,.i H]) (.i (-1))=.ok (.n [m,j,g,e,c,S,Δ (.l Θ ((rs.set k (q++[(p,H)])).map Nb)),s,Δ (.i low),Δ (.i H),Φ]):=by
    let hi:NT ((q++[(p,P)]).map LU).length (-1)=Δ q.length:=by rw[L];unfold NT;rw[d_ nofun,e_ ⋯];congr 1;omega
    show(match NT ((q++[(p,P)]).map LU).length (-1) with
     |some t=>LK Θ (.ok (.n [m,j,g,e,c,S,Δ (.l Θ ((rs.map Nb).set k (.l Θ (((q++[(p,P)]).map LU).set t (.t [.i p,.i H]))))),s,Δ (.i low),Δ (.i H),Φ]))
     |none=>LP:Res Fl)=_
    rw[hi];show Except.ok (Fl.n [m,j,g,e,c,S,Δ (.l Θ ((rs.map Nb).set k (.l Θ (((q++[(p,P)]).map LU).set q.length (.t [.i p,.i H]))))),s,Δ (.i low),Δ (.i H),Φ])=_;rw[out,I_,I_];have:(q.map LU++[(p,P)].map LU).set q.length (.t [.i p,.i H])=q.map LU++[(p,H)].map LU:=by rw[List.set_append_right _ _ (by rw[i_];exact o_ _),i_,Nat.sub_self];rfl
    rw[this]
   rw[<- G];generalize rs.map Nb=RS,(q++[(p,P)]).map LU=Q at *;unfold Vg WT WU xk;simp![w,M,z]
  |false=>refine⟨rs.set k ((q++[(p,P)])++[(low,H)]),?_,List.length_set,u _ (v.add lh)⟩;rw[<- add];generalize rs.map Nb=RS,(q++[(p,P)]).map LU=Q at *;unfold Vg WT WU Yt xk;simp![w,M,z]
def Dm (n:Nat)(ns:È)  (L:0<=k)(J:k<=4000)(c S s g f P:Ã){z:É}  (h:j < z.length)(hz:z.length<=100)(G:∀p∈z,p.1<=p.2)(m:Ã){rs:List (É)}(M:0 < rs.length)(w:∀r∈rs,Rn j r) :
  ∃(Q:List (É)) (F C:Ã),turn (ba T (n+1)) (.n 7) Vh (.i (j:Nat)) [Δ (.l Ξ (ns.map .i)),Δ (.i k),c,S,s,Δ (.l Ξ (z.map LU)),Δ (.l Θ (rs.map Nb)),m,g,f,P]=.ok (.n [Δ (.l Ξ (ns.map .i)),Δ (.i k),c,S,s,Δ (.l Ξ (z.map LU)),Δ (.l Θ (Q.map Nb)),Δ (.i (j:Nat)),F,C,Φ])/\Q.length=rs.length/\∀r∈Q,Rn (j+1) r:=by
 let E:=iB ns;let lr:(rs.map Nb).length=rs.length:=i_ _;let⟨q,B,v,u⟩:=Nw n ns (k+8+(j:Int)) (rs.length:Int) ⋯ ⋯ ⋯;let H:iw (.l Ξ (z.map LU)) (.i (j:Int))=.ok (.t [.i (z[j]).1,.i (z[j]).2]):=qU LU Ξ (a:=z[j]) ⋯ (by rw[aae,y_ h]);let lh:=G _ (aau h);generalize(z[j]).1=lo,(z[j]).2=hi at *;let x:NT rs.length q=Δ q.toNat:=by unfold NT;rw[e_ v,e_ u]
 let⟨Q,e,A,y⟩:=Dl (ba T (n+1)) (Δ (.l Ξ (ns.map .i))) (Δ (.i k)) c S s (Δ (.l Ξ (z.map LU))) (Δ (.i (j:Nat))) P lo hi (rs:=rs) (k:=q.toNat) (b:=j) ⋯ ⋯ lh w;refine⟨Q,Δ (.i lo),Δ (.i hi),?_,A,y⟩;unfold Vh;generalize Vg=N,WT=X,WU=I,Yt=W,ns.map D.i=U,z.map LU=O,rs.map Nb=RS,Q.map Nb=R at *;simp![ie,E,lr,H,B,x,e]
theorem wt {g:D->Res (Ã)}{P:Int->Prop}:∀(X:È),(∀x∈X,g (.i x)=.ok (Δ (.i x))/\P x∨g (.i x)=.ok Φ)->∃ys:È,iD g (X.map .i)=.ok (ys.map .i)/\ys.length<=X.length/\∀y∈ys,P y
 |[],_=>⟨[],rfl,o_ _,λy H=>by cases H⟩
 |x::X,h=>by
  let⟨ys,e,c,b⟩:=wt (P:=P) X λz f=>h z (J_ _ f);rcases h x (.head _) with⟨a,p⟩|a
  ·refine⟨x::ys,by rw[a_];unfold iD;rw[a];show KZ (iD g (X.map .i)) _=_;rw[e];rfl,Nat.succ_le_succ c,λy H=>?_⟩;rcases k_.mp H with rfl|H
   ·exact p
   ·exact b y H
  ·exact⟨ys,by rw[a_];unfold iD;rw[a];exact e,Nat.le_succ_of_le c,b⟩
abbrev Xu (p:Str×É):D:=.t [.s p.1,.l Θ (p.2.map LU)]
def G6 (al:Al):LM (al.map Xu)=al.map Na:=by rw[iI,z_];refine S_ λp _=>?_;show D.t [.s p.1,.l Ξ (LM (p.2.map LU))]=_;rw[ja];rfl
def sV (f:a->b)(x:List a)(lo hi:Option Int):jK (x.map f) lo hi=(jK x lo hi).map f:=by unfold jK;rw[i_,<- List.map_drop,<- List.map_take]
def Dq (x:List a)(lo hi:Option Int):(jK x lo hi).length<=x.length:=by unfold jK;rw[aaG,aas];omega
theorem Ep:∀X:È,i6 (X.map .i)=Δ X
 |[]=>rfl
 |x::X=>by show(i6 (X.map .i)).map (x::·)=_;rw[Ep X];rfl
theorem wu:∀(X s:È) {y:Int},y∈X.foldl step_dedup s->y∈s∨y∈X
 |[],s,y,h=>.inl h
 |x::X,s,y,h=>by
  rcases wu X _ h with h|h
  ·unfold step_dedup at h;split at h
   ·exact .inl h
   ·rcases w_.mp h with h|h
    ·exact .inl h
    ·rw[r_.mp h];exact .inr (.head _)
  ·exact .inr (.tail _ h)
def G7 (h:y∈dd x):y∈x:=(wu x [] h).resolve_left (by simp)
def G8 {x:È}(h:x.length < 64):∃ys:È,u6 (.l o (x.map .i))=.ok (.l Θ (ys.map .i))/\ys.length<=x.length/\ys.Pairwise (·<=·)/\∀y∈ys,y∈x:=by refine⟨PySem.W.sortI (dd x),?_,by rw[(PySem.W.sortI_perm _).length_eq];exact yI x,PySem.W.sortI_rises _,λy H=>G7 ((PySem.W.sortI_perm _).mem_iff.mp H)⟩;show(match i6 (x.map .i) with|some ns=>LK (decide (ns.length < 64)) (.ok (.l Θ ((PySem.W.sortI (dd ns)).map .i)))|none=>LP:Res D)=_;rw[Ep];show LK (decide (x.length < 64)) _=_;rw[B_ h];rfl
theorem Er:∀(X ys:È),jU (X.map .i) (ys.map .i)=(X.zip ys).map LU
 |[],_=>rfl
 |_::_,[]=>rfl
 |x::X,y::ys=>by have:=Er X ys;unfold jU at this ⊢;rw[a_,a_,List.zipWith_cons_cons,this];rfl
def Bo (x:List a)  (h:0<=m):jK x (Δ m) Φ=x.drop m.toNat:=by
 unfold jK HT.N2;simp only;rw[d_ ⋯];by_cases H:m.toNat<=x.length
 ·rw[show min m.toNat x.length=m.toNat from Nat.min_eq_left H,List.take_of_length_le (by rw[aas];omega)]
 ·rw[show min m.toNat x.length=x.length from Nat.min_eq_right ⋯,List.drop_length,List.take_nil,List.drop_of_length_le ⋯]
theorem Bp (c:Int):∀X:È,X.Pairwise (·<=·)->(∀x∈X,x < c)->∀p∈X.zip (X.drop 1++[c]),p.1<=p.2
 |[],_,_,p,H=>by cases H
 |[x],_,h,p,H=>by have:p=(x,c):=r_.mp H;rw[this];exact Int.le_of_lt (h x (.head _))
 |x::y::r,a,h,p,H=>by
  rcases k_.mp (show p∈(x,y)::(y::r).zip ((y::r).drop 1++[c]) from H) with rfl|H
  ·exact(List.pairwise_cons.mp a).1 y (.head _)
  ·exact Bp c (y::r) (List.pairwise_cons.mp a).2 (λz b=>h z (.tail _ b)) p H
def Dr (fs:Æ)(rs:List (É)):((jc (fs.length:Int)).map λj=>(fs.getD j.toNat (Ρ ""),rs.getD j.toNat [])).map (·.1)=fs:=by
 unfold jc;rw[z_,z_];apply List.ext_getElem?;intro i;rw[D_];by_cases h:i < fs.length
 ·rw[List.getElem?_range ⋯,y_ h];show Δ (fs.getD ((0:Int)+(i:Nat)).toNat _)=_;rw[show((0:Int)+(i:Nat)).toNat=i by omega,aam,y_ h];rfl
 ·rw[List.getElem?_eq_none (by rw[R_];omega),List.getElem?_eq_none ⋯];rfl
def Bq (n:Nat)(ns:È)  (k0:0<=k)(k1:k<=4000){fs:Æ}(hf0:0 < fs.length)(hf:fs.length<=20)(pl:Int) :
  ∃(al:Al) (fr:É),ba T (n+2) 48 [.l Ξ (ns.map .i),.i k,.l Ξ (fs.map .s),.i pl]=.ok (.t [.l Θ (al.map Na),.l Ξ (fr.map LU)])/\al.map (·.1)=fs/\(∀p∈al,p.2.length<=20)/\Rn 20 fr:=by
 let ei:=iB ns;let ef:=iA fs;let YY:(fs.map D.s).length=fs.length:=i_ _;let⟨m,d1,a0,a1⟩:=Nw n ns (k+6) 5 ⋯ ⋯ nofun;let rn:iQ 0 m=(jc m).map .i:=oO 0 m;let ln:((jc m).map D.i).length=m.toNat:=by rw[i_,oU]
 let fm1:iD (iP (ba T (n+1)) (.n 2) [] (.C 43 [.v 0,.b .a (.v 1) (.v 2),.c (.i 10007)]) [Δ (.l Ξ (ns.map .i)),Δ (.i k),Φ]) ((jc m).map .i)=.ok (((jc m).map λj=>dr ns (k+j) 10007).map .i):=by refine jk .i (λj=>dr ns (k+j) 10007) .i _ λj q=>?_;have:=pZ q;let d2:=iM n ns (k+j) 10007 ⋯ ⋯ nofun;generalize ns.map D.i=NS at *;simp![ei,d2]
 let lu:((jc m).map λj=>dr ns (k+j) 10007).length=m.toNat:=by rw[i_,oU]
 generalize((jc m).map λj=>dr ns (k+j) 10007)=U at *;let lus:(U.map D.i).length=m.toNat:=by rw[i_,lu]
 let⟨ws,YZ,lw,abW⟩:=wt (P:=λx=>x < 10007) (g:=iP (ba T (n+1)) (.n 0) [.a .l (.v 0) (.c (.i 10007))] (.v 0) [Φ]) (0::pl::(pl+1)::U) (λx hx=>by
  cases h:decide (x < 10007) with
  |true=>exact .inl ⟨by simp![h],t_ h⟩
  |false=>right;simp![h])
 let YZ:iD (iP (ba T (n+1)) (.n 0) [.a .l (.v 0) (.c (.i 10007))] (.v 0) [Φ]) (.i 0::.i pl::.i (pl+1)::U.map .i)=.ok (ws.map .i):=YZ;rw[List.length_cons,List.length_cons,List.length_cons]at lw;let⟨X,Vm,lx,sx,mx⟩:=G8 (o:=Θ) (x:=ws) ⋯;let Wh:LM (X.map D.i)=X.map D.i:=iB X;let ews:fT (ws.map D.i)=Θ:=uy ws;let hz:jU (X.map .i) (jK (X.map .i) (Δ 1) Φ++[.i 10007])=(X.zip (jK X (Δ 1) Φ++[10007])).map LU:=by rw[sV,<- Er,I_];rfl
 let abX:(jK (X.map D.i) (Δ 1) Φ).length<=20:=by have:=Dq (X.map D.i) (Δ 1) Φ;rw[i_]at this;omega
 let lz:(X.zip (jK X (Δ 1) Φ++[10007])).length<=10:=by rw[List.length_zip];omega
 let L:∀p∈X.zip (jK X (Δ 1) Φ++[10007]),p.1<=p.2:=by rw[Bo X nofun];exact Bp 10007 X sx λx hx=>abW x (mx x hx)
 generalize(X.zip (jK X (Δ 1) Φ++[10007]))=z at *;let lzs:jh (z.map LU).length=Θ:=m9 (by rw[i_];omega);let ez:=ja z;let ezr:LM (z.map LU).reverse=z.reverse.map LU:=by rw[<- List.map_reverse];exact ja _
 let d3:=iM n ns (k+7) 2 ⋯ ⋯ nofun;generalize dr ns (k+7) 2=w at *;let f:∀Y:É,Y.length<=10->(∀p∈Y,p.1<=p.2)->∀J:Ã,∃(rs:List (É)) (E A u I:Ã),forM (turn (ba T (n+1)) (.n 7) Vh) (iQ 0 (Y.length:Int)) [Δ (.l Ξ (ns.map .i)),Δ (.i k),Δ (.l Ξ (fs.map .s)),Δ (.i pl),J,Δ (.l Ξ (Y.map LU)),Δ (.l Θ (.l Θ []::Τ fs.length (.l Θ []))),Φ,Φ,Φ,Φ]=.ok (.n [Δ (.l Ξ (ns.map .i)),Δ (.i k),Δ (.l Ξ (fs.map .s)),Δ (.i pl),J,Δ (.l Ξ (Y.map LU)),Δ (.l Θ (rs.map Nb)),E,A,u,I])/\rs.length=fs.length+1/\(∀r∈rs,Rn 20 r):=by
  intro Y hy L J;let⟨τ',e,rs,E,A,u,I,rfl,Q,H⟩:=jl (its:=iQ 0 (Y.length:Int)) (a:=[Δ (.l Ξ (ns.map .i)),Δ (.i k),Δ (.l Ξ (fs.map .s)),Δ (.i pl),J,Δ (.l Ξ (Y.map LU)),Δ (.l Θ (.l Θ []::Τ fs.length (.l Θ []))),Φ,Φ,Φ,Φ]) (body:=turn (ba T (n+1)) (.n 7) Vh)
   (λj τ=>∃(rs:List (É)) (E A u I:Ã),τ=[Δ (.l Ξ (ns.map .i)),Δ (.i k),Δ (.l Ξ (fs.map .s)),Δ (.i pl),J,Δ (.l Ξ (Y.map LU)),Δ (.l Θ (rs.map Nb)),E,A,u,I]/\rs.length=fs.length+1/\∀r∈rs,Rn j r)
   ⟨[]::Τ fs.length [],Φ,Φ,Φ,Φ,by rw[a_,List.map_replicate];rfl,by simp,λr H=>by
    let e:r=[]:=by
     rcases k_.mp H with rfl|H
     ·rfl
     ·exact List.eq_of_mem_replicate H
    rw[e]
    exact⟨o_ _,λp O=>by cases O⟩⟩ (by
    rintro j x τ hx ⟨rs,E,A,u,I,rfl,Q,H⟩;let⟨q,rfl⟩:=oY hx;let⟨Qv,d8,d9,e,h1,h2⟩:=Dm n ns k0 k1 (Δ (.l Ξ (fs.map .s))) (Δ (.i pl)) J A u I (z:=Y) (j:=j) ⋯ ⋯ L E (rs:=rs) ⋯ H
    exact⟨_,e,Qv,_,d8,d9,Φ,rfl,⋯,h2⟩)
  refine⟨rs,E,A,u,I,e,Q,λr h=>?_⟩;have:=H r h;rw[me]at this;exact this.le ⋯
 let F:∀rs:List (É),rs.length=fs.length+1->(∀r∈rs,Rn 20 r)->∃(al:Al) (fr:É),(∀o o',iD (iP (ba T (n+1)) (.n 2) [] (.t [.i (.v 0) (.v 2),.i (.v 1) (.v 2)]) [Δ (.l o (fs.map .s)),Δ (.l o' (rs.map Nb)),Φ]) (iQ 0 (fs.length:Int))=.ok (al.map Xu))/\(∀o,iw (.l o (LM (rs.map Nb))) (.i (fs.length:Int))=.ok (.l Ξ (fr.map LU)))/\al.map (·.1)=fs/\(∀p∈al,p.2.length<=20)/\Rn 20 fr:=by
  intro rs Q H;let W:fs.length < rs.length:=⋯
  let gj:∀ {j:Int},j∈jc (fs.length:Int)->rs.getD j.toNat []∈rs/\rs[j.toNat]? = Δ (rs.getD j.toNat []):=λ{j} q=>by
   let R7:=pZ q;let R:j.toNat < rs.length:=⋯
   rw[aam,y_ R];exact⟨aau R,rfl⟩
  refine⟨(jc (fs.length:Int)).map λj=>(fs.getD j.toNat (Ρ ""),rs.getD j.toNat []),rs[fs.length],λo o'=>?_,λo=>by
   rw[G3]
   exact qU rnF o (a:=rs[fs.length]) ⋯ (by rw[aae,y_ W]),Dr fs rs,λp O=>?_,H _ (aau W)⟩
  ·rw[oO 0 (fs.length:Int)];refine jk .i (λj=>(fs.getD j.toNat (Ρ ""),rs.getD j.toNat [])) Xu (jc (fs.length:Int)) λj q=>?_;let R7:=pZ q;let⟨nm,Py,YX⟩:=jm (fs:=fs) (i:=j) R7.1 R7.2;let hx2:∀o,iw (.l o (rs.map Nb)) (.i j)=.ok (.l Θ ((rs.getD j.toNat []).map LU)):=λo=>qU Nb o R7.1 (gj q).2;let en:fs.getD j.toNat (Ρ "")=nm:=by rw[aam,YX];rfl
   show _=Except.ok (Δ (D.t [.s (fs.getD j.toNat (Ρ "")),.l Θ ((rs.getD j.toNat []).map LU)]));rw[en];generalize(rs.getD j.toNat []).map LU=RJ,rs.map Nb=RS,fs.map D.s=FS at *;simp![Py,hx2]
  ·let⟨j,q,rfl⟩:=List.mem_map.mp O;exact(H _ (gj q).1).1
 let nl1:∀a b,iS (.k a b)=Ξ:=λ_ _=>rfl;let nl2:∀a,iS (.s a)=Ξ:=λ_=>rfl;let nl3:∀a,iS (.h a)=Ξ:=λ_=>rfl;let v1:vars (.k (.v 4) (.b .a (.S (.v 4) (Δ (.c (.i 1))) Φ) (.l [.c (.i 10007)])))=[4,4]:=rfl;let v2:∀a,vars (.s a)=vars a:=λ_=>rfl;let v3:∀a,vars (.h a)=vars a:=λ_=>rfl;let v4:∀G fr t s i e,vars (.d G fr t s i e)=fr++j6 s:=λ_ _ _ _ _ _=>rfl;let v5:j6 (.v (.v 4))=[4]:=rfl;let v6:j6 (.M (.B .l [.v 2]))=[2]:=rfl;let eus:fT (U.map D.i)=Θ:=uy U;let gz:∀x y:Î,u0 (.l Ξ x) (.l Θ y)=LK (jh (jU x y).length) (.ok (.l Θ (jU x y))):=λ_ _=>rfl;let lap:jh ((jK (X.map D.i) (Δ 1) Φ).length+1)=Θ:=m9 ⋯;let lfs:jf fs.length=Θ:=kB ⋯;let lrn:(iQ 0 (fs.length:Int)).length=fs.length:=by rw[me];omega
 let lfr:∀al:Al,al.map (·.1)=fs->fT (al.map Xu)=Ξ:=λal h=>by
  cases al with
  |nil=>rw[<- h]at hf0;exact absurd hf0 nofun
  |cons=>rfl
 let N:∀Y:É,Y.length<=10->(∀p∈Y,p.1<=p.2)->∃(al:Al) (fr:É),iz (ba T (n+1)) tA3 [Δ (.l Ξ (ns.map .i)),Δ (.i k),Δ (.l Ξ (fs.map .s)),Δ (.i pl),Δ (.l Ξ (X.map .i)),Δ (.l Ξ (Y.map LU)),Φ,Φ,Φ,Φ,Φ]=.ok (.r (.t [.l Θ (al.map Na),.l Ξ (fr.map LU)]))/\al.map (·.1)=fs/\(∀p∈al,p.2.length<=20)/\Rn 20 fr:=λY hy L=>by let⟨rs,E,A,u,I,e,Q,H⟩:=f Y hy L (Δ (.l Ξ (X.map .i)));let⟨al,fr,fm3,hi,h1,h2,h3⟩:=F rs Q H;refine⟨al,fr,?_,h1,h2,h3⟩;let ea:=G6 al;let lfa:=lfr al h1;let efr:=ja fr;let lzl:(Y.map LU).length=Y.length:=i_ _;let ez:=ja Y;clear f F fm1 YZ;unfold tA3;generalize ns.map D.i=NS,fs.map D.s=FS,X.map D.i=XS,Y.map LU=ZS,rs.map Nb=RS,al.map Xu=AT,al.map Na=AD,fr.map LU=FR,Vh=tal at *;simp_all![ei,ef,YY,ez,v4,v6,lfs,lrn,e,fm3,hi,ea,lfa,efr,lzl]
 let hd:iz (ba T (n+1)) Xj [Δ (.l Ξ (ns.map .i)),Δ (.i k),Δ (.l Ξ (fs.map .s)),Δ (.i pl),Φ,Φ,Φ,Φ,Φ,Φ,Φ]=iz (ba T (n+1)) WV [Δ (.l Ξ (ns.map .i)),Δ (.i k),Δ (.l Ξ (fs.map .s)),Δ (.i pl),Δ (.l Ξ (X.map .i)),Δ (.l Ξ (z.map LU)),Φ,Φ,Φ,Φ,Φ]:=by unfold Xj;clear f F N;let lw2:jf (m.toNat+1+1+1)=Θ:=kB ⋯;generalize ns.map D.i=NS,fs.map D.s=FS,U.map D.i=US,ws.map D.i=WS,X.map D.i=XS,(jc m).map D.i=JS,z.map LU=ZS,WV=ta at *;simp![ei,ef,YY,d1,rn,ln,fm1,lus,YZ,Vm,Wh,ews,hz,lzs,ez,nl1,nl2,v1,v2,v4,v5,eus,gz,lap]
 let hc:K8 (ba T (n+1)) cA0 [Δ (.l Ξ (ns.map .i)),Δ (.i k),Δ (.l Ξ (fs.map .s)),Δ (.i pl),Δ (.l Ξ (X.map .i)),Δ (.l Ξ (z.map LU)),Φ,Φ,Φ,Φ,Φ]=.ok (.b (w == 0)):=by clear f F N hd;unfold cA0;generalize ns.map D.i=NS,fs.map D.s=FS,X.map D.i=XS,z.map LU=ZS at *;simp![ei,d3]
 let abZ:∃(al:Al) (fr:É),iz (ba T (n+1)) WV [Δ (.l Ξ (ns.map .i)),Δ (.i k),Δ (.l Ξ (fs.map .s)),Δ (.i pl),Δ (.l Ξ (X.map .i)),Δ (.l Ξ (z.map LU)),Φ,Φ,Φ,Φ,Φ]=.ok (.r (.t [.l Θ (al.map Na),.l Ξ (fr.map LU)]))/\al.map (·.1)=fs/\(∀p∈al,p.2.length<=20)/\Rn 20 fr:=by
  unfold WV;cases hw:(w == 0) with
  |false=>rw[hw]at hc;rw[sk hc];exact N z ⋯ L
  |true=>
   rw[hw]at hc;rw[Sb hc (τ':=[Δ (.l Ξ (ns.map .i)),Δ (.i k),Δ (.l Ξ (fs.map .s)),Δ (.i pl),Δ (.l Ξ (X.map .i)),Δ (.l Ξ (z.reverse.map LU)),Φ,Φ,Φ,Φ,Φ]) ?_]
   ·exact N z.reverse (by rw[List.length_reverse];omega) (λp O=>L p (List.mem_reverse.mp O))
   let ezz:=ja z.reverse;rw[<- List.map_reverse]at ezr;let erv:(z.map LU).reverse=z.reverse.map LU:=(List.map_reverse).symm;clear f F N hd hc;generalize ns.map D.i=NS,fs.map D.s=FS,X.map D.i=XS,z.reverse.map LU=ZR,z.map LU=ZS at *;simp![ez,nl3,v3,ezz,erv]
 let⟨al,fr,e,h1⟩:=abZ;refine⟨al,fr,?_,h1⟩;rw[gx 48 d48 4 11 Xj rfl];unfold Xj;exact congrArg (λr=>KZ r _) (hd.trans e)
theorem Br {a:Type}{n:Nat}{e:a->D}:∀(X:List a),(∀x∈X,pl n (e x)=Θ)->Ol n (X.map e)=Θ
 |[],_=>rfl
 |x::X,h=>by show(pl n (e x)&&Ol n (X.map e))=Θ;rw[h x (.head _),Br X λy H=>h y (.tail _ H)];rfl
def jG {a:Type}  {e:a->D}{X:List a}(H:X.length<=100)(h:∀x∈X,pl n (e x)=Θ):pl (n+1) (.l Ξ (X.map e))=Θ:=by let b:decide ((X.map e).length < 1000)=Θ:=B_ (by rw[i_];omega);show(Θ&&(Ol n (X.map e)&&decide ((X.map e).length < 1000)))=Θ;rw[Br X h,b];rfl
def JI (wf:Wf c):pl (n+7) c.d=Θ:=by
 let h:=jG (n:=n+5) (e:=Tn.d) (X:=c.ts) wf.len λt _=>by cases t<;>rfl
 show((Θ&&(Θ&&(pl (n+6) (.l Ξ (c.ts.map Tn.d))&&Θ)))&&Θ)=Θ;rw[h];rfl
def Es (H:r.length<=100)(h:∀c∈r,Wf c):pl (n+8) (MA r)=Θ:=jG H λc a=>JI (h c a)
def JJ (H:O1 gs)(b:gs.length<=100):pl 14 (Mk gs)=Θ:=jG b λg Q=>by let h:=jG (n:=11) (e:=MA) (X:=g.rows) (H.len g Q).1 λr a=>Es ((H.len g Q).2 r a) λc f=>(H.ok g Q r a c f).1;show((Θ&&(pl 12 (.l Ξ (g.rows.map MA))&&Θ))&&Θ)=Θ;rw[h];rfl
def uH (n:Nat){l:É}(h:l.length<=100):pl (n+3) (.l Ξ (l.map LU))=Θ:=jG h λ_ _=>rfl
def JK {r:Rl}(h:(∀c∈r.cs,Wf c)/\r.cs.length<=2/\∀f sg,r.o=.s f sg->sg.length<=3):pl 9 r.d=Θ:=by
 let e:=Es (n:=0) (r:=r.cs) ⋯ h.1;let b:pl 8 r.o.d=Θ:=by
  cases H:r.o with
  |F f=>rfl
  |s f sg=>have:=h.2.2 f sg H;let a:=uH 4 (l:=sg) ⋯;show((Θ&&(Θ&&(pl 7 (.l Ξ (sg.map LU))&&Θ)))&&Θ)=Θ;rw[a];rfl
  |U=>rfl
 show((pl 8 (MA r.cs)&&(pl 8 r.o.d&&Θ))&&Θ)=Θ;rw[e,b];rfl
def JL (b:al.length<=100)(a:∀p∈al,p.2.length<=20)(h:fr.length<=20):pl 10 (Mx al fr)=Θ:=by
 let c:=jG (n:=8) (e:=Na) b λp H=>by have:=a p H;let h:=uH 4 (l:=p.2) ⋯;show((Θ&&(pl 7 (.l Ξ (p.2.map LU))&&Θ))&&Θ)=Θ;rw[h];rfl
 let A:=uH 6 (l:=fr) ⋯;show((pl 9 (.l Ξ (al.map Na))&&(pl 9 (.l Ξ (fr.map LU))&&Θ))&&Θ)=Θ;rw[c,A];rfl
def JM {rest:Str}(h:rs.length<=100)(wf:∀r∈rs,(∀c∈r.cs,Wf c)/\r.cs.length<=2/\∀f sg,r.o=.s f sg->sg.length<=3)  (b:al.length<=100)(a:∀p∈al,p.2.length<=20)(H:fr.length<=20):pl 11 (MQ S rest rs al fr)=Θ:=by let g:=jG (n:=9) (e:=Rl.d) h λr h=>JK (wf r h);let A:=JL b a H;show((Θ&&(Θ&&(pl 10 (.l Ξ (rs.map Rl.d))&&(pl 10 (Mx al fr)&&Θ))))&&Θ)=Θ;rw[g,A];rfl
def JN (m:Int)  (h:ms.length<=100):pl 5 (Mn m ms)=Θ:=by
 let a:=jG (n:=3) (e:=MJ) h λp _=>by
  rcases p with⟨_,t⟩
  cases t<;>rfl
 show((Θ&&(pl 4 (.l Ξ (ms.map MJ))&&Θ))&&Θ)=Θ;rw[a];rfl
def Bt (gs:List Gp)(ms:List (Str×Tn))(rest:Str)(rs:List Rl)(al:Al)(a z:Int):∃(f:Str) (i:Int),told gs ms rest rs al a z=.t [.s f,.i i]:=by
 unfold told;cases fst al a z ((idx rs).filter λq=>q.2.cs.all (jn gs ms)) with
 |none=>exact⟨_,_,rfl⟩
 |some q=>exact⟨_,_,rfl⟩
@[reducible]def Ps:=List (Str×Str)
abbrev pD (p:Str×Str):D:=.t [.s p.1,.s p.2]
structure Sw where
 nm:Str
 cs:Ç
 rest:Str
 rs:List Rl
 al:Al
 fr:É
 nd:Ps
 st:Bool
abbrev Sw.d (q:Sw):D:=MQ (LQ q.cs) q.rest q.rs q.al q.fr
abbrev eD (q:Sw):D:=.t [q.d,.l Ξ (q.nd.map pD),.b q.st]
abbrev wD (q:Sw):D:=.t [.s q.nm,eD q]
abbrev Qm (L:List Sw):Æ:=L.map (·.nm)
def Bu (q:Sw):er q.d=q.d:=qT _ _ _ _ _
def G9 (P:Ps):fT (P.map pD)=Θ:=by rw[iT,List.all_map,M_];intro p _;rfl
def sW (p:Ps):LM (p.map pD)=p.map pD:=jC (G9 p)
def Bv (q:Sw):er (eD q)=eD q:=by show D.t [er q.d,.l Ξ (LM (q.nd.map pD)),.b q.st]=_;rw[sW,Bu];rfl
def sX (L:List Sw):LM (L.map wD)=L.map wD:=by rw[iI,z_];exact S_ λq _=>by show D.t [.s q.nm,er (eD q)]=_;rw[Bv];rfl
theorem qV:∀ {X:È}{j:Nat}{o:Int},X.Nodup->X[j]? = Δ o->lC o X=Δ j
 |x::X,0,o,_,h=>by let h:x=o:=H_ h;unfold lC;rw[e_ h]
 |x::X,j+1,o,nd,h=>by let h:X[j]? = Δ o:=h;let nd:=F_.mp nd;unfold lC;let M:x≠o:=λz=>nd.1 (by rw[z];exact Z_ h);rw[d_ M,qV nd.2 h];rfl
def Ha {x:È}  (h:i < x.length):jK (x.map D.i) (Δ ((i:Int)+1)) Φ=(x.drop (i+1)).map .i:=by unfold jK;rw[show((i:Int)+1)=((i+1:Nat):Int) by omega,HT.Ry,HT.QG,i_,Nat.min_eq_left ⋯,<- List.map_drop];rw[List.take_of_length_le (by rw[i_,aas];omega)]
def ne_ni (x:È):MN .n (.l o (x.map .i)) (.l O [])=.ok (!x.isEmpty):=by cases x<;>rfl
abbrev Y0:Ê:=[.L (.a .n (.v 6) (.l [])) [.a (.n 9) (.i (.v 6) (.C 43 [.v 0,.b .a (.b .a (.v 1) (.c (.i 1))) (.v 8),.B .l [.v 6]])),.A 7 (.t [.i (.v 4) (.v 9),.i (.v 5) (.C 43 [.v 0,.b .a (.b .a (.v 1) (.c (.i 3))) (.v 8),.B .l [.v 5]])])] []]
def Bw (n:Nat)(ns:È)  (S:0<=k)(k1:k<=4900)  (lo:O.length<=20)  (hi:lC s O=Δ i){nm fs:Æ}(hn:∀o∈O,0<=o/\o < nm.length)(hf:0 < fs.length)(Ql:fs.length<=20) :
  ∃P:Ps,ba T (n+2) 72 [.l Ξ (ns.map .i),.i k,.l Ξ (O.map .i),.i s,.l Ξ (nm.map .s),.l Ξ (fs.map .s)]=.ok (.l Θ (P.map pD))/\P.length<=2/\∀p∈P,∃o∈O.drop (i+1),nm[o.toNat]? = Δ p.1:=by
 let E:=iB ns;let eo:LM (O.map D.i)=O.map D.i:=iB O;let en:=iA nm;let ef:=iA fs;let c:i < O.length:=(v_.mp (nC hi).1).1;let ct:=Ha c;let U:rR (.l Ξ (O.map .i)) (.i s)=.ok (.i (i:Nat)):=by show(match i6 (O.map .i) with|some ns=>_|none=>_)=_;rw[sN];show(match lC s O with|some j=>_|none=>_)=_;rw[hi]
 let hd:∀o∈O.drop (i+1),0<=o/\o < nm.length:=λo h=>hn o (List.mem_of_mem_drop h);let hbl:(O.drop (i+1)).length<=20:=by rw[aas];omega
 generalize O.drop (i+1)=b at *;let eb:LM (b.map D.i)=b.map D.i:=iB b;let R:fT (b.map D.i)=Θ:=uy b;let L:(b.map D.i).length=b.length:=i_ _;let X6:(fs.map D.s).length=fs.length:=i_ _;let ne:=ne_ni (o:=Θ) (O:=Θ) b;let⟨q,d1,q0,q1⟩:=Nw n ns k 3 S ⋯ nofun;let⟨J,e,P,A,C,rfl,z,a⟩:=jl (its:=iQ 0 q) (a:=[Δ (.l Ξ (ns.map .i)),Δ (.i k),Δ (.l Ξ (O.map .i)),Δ (.i s),Δ (.l Ξ (nm.map .s)),Δ (.l Ξ (fs.map .s)),Δ (.l Θ (b.map .i)),Δ (.l Θ []),Φ,Φ]) (body:=turn (ba T (n+1)) (.n 8) Y0)
  (λj r=>∃(P:Ps) (A C:Ã),r=[Δ (.l Ξ (ns.map .i)),Δ (.i k),Δ (.l Ξ (O.map .i)),Δ (.i s),Δ (.l Ξ (nm.map .s)),Δ (.l Ξ (fs.map .s)),Δ (.l Θ (b.map .i)),Δ (.l Θ (P.map pD)),A,C]/\P.length<=j/\∀p∈P,∃o∈b,nm[o.toNat]? = Δ p.1)
  ⟨[],Φ,Φ,rfl,o_ _,λp h=>by simp at h⟩ (by
   rintro j x r Y ⟨P,b8,b9,rfl,z,a⟩;let⟨hj,rfl⟩:=oY Y;cases g:b.isEmpty with
   |true=>rw[g]at ne;refine⟨_,?_,P,Δ (.i (j:Nat)),b9,rfl,⋯,a⟩;unfold Y0;generalize ns.map D.i=N,O.map D.i=B,nm.map D.s=F,fs.map D.s=G,b.map D.i=I,P.map pD=PS at *;simp![ie,ne]
   |false=>
    rw[g]at ne;let hb0:0 < b.length:=by cases b with|nil=>cases g|cons=>simp
    let⟨u,e1,a0,a1⟩:=Nw n ns (k+1+(j:Int)) (b.length:Int) ⋯ ⋯ ⋯;let X:=Ui (o:=Θ) (x:=b) a0 a1;let w:b.getD u.toNat 0∈b:=by
     have:u.toNat < b.length:=⋯
     rw[aam,y_ this];exact aau this
    generalize b.getD u.toNat 0=o at *;let⟨Q,M⟩:=hd o w;let⟨y,W,gy⟩:=jm (fs:=nm) Q M;let e2:=iM n ns (k+3+(j:Int)) (fs.length:Int) ⋯ ⋯ ⋯;let⟨f,Pz,_⟩:=jm (fs:=fs) (km ns (k+3+(j:Int)) (m:=(fs.length:Int)) ⋯) (kn ns (k+3+(j:Int)) ⋯);generalize dr ns (k+3+(j:Int)) (fs.length:Int)=v at *;let lp:(P.map pD).length=P.length:=i_ _;refine⟨[Δ (.l Ξ (ns.map .i)),Δ (.i k),Δ (.l Ξ (O.map .i)),Δ (.i s),Δ (.l Ξ (nm.map .s)),Δ (.l Ξ (fs.map .s)),Δ (.l Θ (b.map .i)),Δ (.l Θ ((P++[(y,f)]).map pD)),Δ (.i (j:Nat)),Δ (.i o)],?_,P++[(y,f)],_,_,rfl,by rw[q_];show P.length+1<=_;omega,λp H=>?_⟩
    ·let OX:(P++[(y,f)]).map pD=P.map pD++[.t [.s y,.s f]]:=by rw[I_];rfl
     rw[OX];unfold Y0;generalize ns.map D.i=N,O.map D.i=B,nm.map D.s=F,fs.map D.s=G,b.map D.i=I,P.map pD=PS at *;simp![ie,ne,E,en,ef,L,X6,e1,e2,X,W,Pz,lp]
    ·rcases w_.mp H with H|H
     ·exact a p H
     ·rw[r_.mp H];exact⟨o,w,gy⟩)
 rw[me]at z;refine⟨P,?_,⋯,a⟩;let lp:=G9 P;unfold Y0 at e;rw[gx 72 d72 6 10 b72 rfl];unfold b72;generalize ns.map D.i=N,O.map D.i=B,nm.map D.s=F,fs.map D.s=G,b.map D.i=I,P.map pD=PS at *;simp![E,eo,U,ct,eb,R,d1,e,lp]
structure Ho where
 nm:Str
 sl:Ç
 pl:Int
 sm:Option (Æ)
abbrev Qw:Option (Æ)->D
 |none=>.L
 |some x=>.l Ξ (x.map .s)
abbrev Ho.d (q:Ho):D:=.t [.s q.nm,.s (LQ q.sl),.i q.pl,Qw q.sm]
def JO (s:Option (Æ)):er (Qw s)=Qw s:=by
 cases s with
 |none=>rfl
 |some x=>show D.l Ξ (LM _)=_;rw[iA];rfl
def JP (q:Ho):er q.d=q.d:=by show D.t [.s q.nm,.s (LQ q.sl),.i q.pl,er (Qw q.sm)]=_;rw[JO];rfl
def qW (hs:List Ho):LM (hs.map Ho.d)=hs.map Ho.d:=by rw[iI,z_];exact S_ λq _=>JP q
structure Vo (hs:List Ho):Prop where
 sl:∀q∈hs,Sl q.sl
 sm:∀q∈hs,∀xs,q.sm=Δ xs->xs.length<=20
abbrev ids (x:Æ):List (Nat×Str):=(List.range x.length).zip x
abbrev idD (q:Nat×Str):D:=.t [.i (q.1:Nat),.s q.2]
def Et (x:Æ):lV (x.map .s)=(ids x).map idD:=by unfold lV ids;rw[i_,List.zipWith_map_right,List.zip,List.map_zipWith];rfl
def Hb (h:q∈ids x):q.2∈x/\q.1 < x.length:=by let⟨k,b⟩:=aao.mp h;let⟨e,c⟩:=List.getElem?_zip_eq_some.mp b;let⟨a,H⟩:=v_.mp e;rw[List.getElem_range]at H;rw[<- H];exact⟨Z_ c,by rw[R_]at a;exact a⟩
def Ds (n:Nat)(ns:È)  (j:0<=k)(g:k<=4000)  (u:0<=h)(r:h < 3){nm:Æ}(p:nm.length<=20) :
  ∃x:Æ,iD (iP (ba T (n+1)) (.t [.n 3,.n 4]) [.a .e (.C 43 [.v 0,.b .a (.b .a (.b .a (.v 1) (.c (.i 50))) (.b .m (.c (.i 20)) (.v 2))) (.v 3),.c (.i 2)]) (.c (.i 0))] (.v 4) [Δ (.l Ξ (ns.map .i)),Δ (.i k),Δ (.i h),Φ,Φ]) (lV (nm.map .s))=.ok (x.map .s)/\x.length<=20:=by
 let E:=iB ns;rw[Et];refine⟨((ids nm).filter λq=>dr ns (k+50+20*h+(q.1:Nat)) 2 == 0).map (·.2),?_,?_⟩
 ·rw[z_];refine uF idD (λq=>dr ns (k+50+20*h+(q.1:Nat)) 2 == 0) (λq=>D.s q.2) (ids nm) λq f=>?_;have:=(Hb f).2;let e:=iM n ns (k+50+20*h+(q.1:Nat)) 2 ⋯ ⋯ nofun;unfold idD;generalize ns.map D.i=N at *;cases H:(dr ns (k+50+20*h+(q.1:Nat)) 2 == 0)<;>simp![ie,E,e,H]
 ·rw[i_];refine Q_ (List.length_filter_le _ _) ?_;unfold ids;rw[List.length_zip,R_];omega
def wx {ss:List (Ç)}  (H:0<=i)(a:i < (ss.length:Int)):∃y,(∀o,iw (.l o (ss.map λy=>.s (LQ y))) (.i i)=.ok (.s (LQ y)))/\y∈ss:=by
 let h:i.toNat < ss.length:=⋯
 exact⟨ss[i.toNat],λo=>qU (λy=>D.s (LQ y)) o H (y_ h),aau h⟩
abbrev Xv:Gm:={N:=["_law_script","_law_k","_law_h","_law_j","_law_name"],kd:=[.cell,.cell,.cell,.local,.local],gl:=[43],df:=Ξ}
abbrev UD:Ê:=[.a (.n 8) (.i (.v 2) (.C 43 [.v 0,.b .a (.b .a (.v 1) (.c (.i 6))) (.v 7),.c (.i 3)])),.a (.n 9) (.C 46 [.v 8,.v 4]),.a (.n 10) (.d Xv [0,1,7] (.t [.n 3,.n 4]) (.N (.v 3)) [.a .e (.C 43 [.v 0,.b .a (.b .a (.b .a (.v 1) (.c (.i 50))) (.b .m (.c (.i 20)) (.v 2))) (.v 3),.c (.i 2)]) (.c (.i 0))] (.v 4)),.L (.a .e (.C 43 [.v 0,.b .a (.b .a (.v 1) (.c (.i 10))) (.v 7),.c (.i 3)]) (.c (.i 0))) [.a (.n 10) (.c .L)] [],.A 6 (.t [.i (.v 5) (.v 7),.v 8,.i (.l [.c (.i 0),.v 9,.b .a (.v 9) (.c (.i 1)),.c (.i 10007)]) (.C 43 [.v 0,.b .a (.b .a (.v 1) (.c (.i 14))) (.v 7),.c (.i 4)]),.v 10])]
section
variable (n:Nat)(ns:È){k:Int}(a:0<=k)(g:k<=3000){ss:List (Ç)}(sl:ss.length=3)(O:∀c∈ss,Sl c){nm:Æ}(hn:nm.length<=20){m:Int}(f:0<=m)(b:m<=1000000000){ow:Æ}(r:3<=ow.length)
include a g sl O hn f b r in
theorem Dt (A:Bool){j:Nat}(hj:j < 3){hs:List Ho}(hl:hs.length<=20)(b7 b8 b9 N':Ã) :
  ∃(q:Ho) (W S ME:Ã),turn (ba T (n+1)) (.n 7) UD (.i (j:Nat)) [Δ (.l Ξ (ns.map .i)),Δ (.i k),Δ (.l Ξ (ss.map λy=>.s (LQ y))),Δ (.l Ξ (nm.map .s)),Δ (.i m),Δ (.l A (ow.map .s)),Δ (.l Θ (hs.map Ho.d)),b7,b8,b9,N']=.ok (.n [Δ (.l Ξ (ns.map .i)),Δ (.i k),Δ (.l Ξ (ss.map λy=>.s (LQ y))),Δ (.l Ξ (nm.map .s)),Δ (.i m),Δ (.l A (ow.map .s)),Δ (.l Θ ((hs++[q]).map Ho.d)),Δ (.i (j:Nat)),W,S,ME])/\Sl q.sl/\∀x,q.sm=Δ x->x.length<=20:=by
 let G:=iB ns;let P:=iM n ns (k+6+(j:Int)) 3 ⋯ ⋯ nofun;let⟨cs,Y,cm⟩:=wx (ss:=ss) (km ns (k+6+(j:Int)) (m:=3) nofun) (by rw[sl];exact kn ns (k+6+(j:Int)) (m:=3) nofun);generalize dr ns (k+6+(j:Int)) 3=u1 at *;let p:=O cs cm;let J:=k8 n cs p.2.1 m f b;generalize Nm cs m=z at *;let⟨x,I,X⟩:=Ds n ns a ⋯ (h:=(j:Int)) ⋯ ⋯ hn;let N:=iM n ns (k+10+(j:Int)) 3 ⋯ ⋯ nofun;let M:=iM n ns (k+14+(j:Int)) 4 ⋯ ⋯ nofun;let c0:=km ns (k+14+(j:Int)) (m:=4) nofun;let c1:=kn ns (k+14+(j:Int)) (m:=4) nofun;generalize dr ns (k+10+(j:Int)) 3=U,dr ns (k+14+(j:Int)) 4=u at *;let H:iw (.l Θ [.i 0,.i z,.i (z+1),.i 10007]) (.i u)=.ok (.i ([0,z,z+1,10007].getD u.toNat 0)):=Ui (o:=Θ) (x:=[0,z,z+1,10007]) (i:=u) c0 (by show u < 4;exact c1);generalize([0,z,z+1,10007]:È).getD u.toNat 0=y at *;let⟨w,C,gw⟩:=jm (fs:=ow) (i:=(j:Int)) ⋯ ⋯;let lh:(hs.map Ho.d).length=hs.length:=i_ _;let ex:=iA x;let F:=iA nm;let E:=iA ow;let B:=nu x;let e:(lV (nm.map D.s)).length<=20:=by rw[Et,i_];unfold ids;rw[List.length_zip,R_];omega
 let R:LM (ss.map λy=>D.s (LQ y))=ss.map λy=>D.s (LQ y):=by rw[iI,z_];rfl
 cases Q:(U == 0) with
 |true=>
  refine⟨⟨w,cs,y,Φ⟩,Δ (.s (LQ cs)),Δ (.i z),Δ .L,?_,p,λx h=>by cases h⟩;let v:(hs++[(⟨w,cs,y,Φ⟩:Ho)]).map Ho.d=hs.map Ho.d++[.t [.s w,.s (LQ cs),.i y,.L]]:=by rw[I_];rfl
  rw[v];unfold UD Xv;generalize ns.map D.i=NS,(ss.map λy=>D.s (LQ y))=SS,nm.map D.s=NM,ow.map D.s=OW,hs.map Ho.d=HS,x.map D.s=XS,LQ cs=SC at *;simp![ie,G,F,E,R,P,Y,J,I,e,B,N,Q,C,H,M,lh]
 |false=>
  refine⟨⟨w,cs,y,Δ x⟩,Δ (.s (LQ cs)),Δ (.i z),Δ (.l Ξ (x.map .s)),?_,p,λU0 h=>by cases h;exact X⟩;let v:(hs++[(⟨w,cs,y,Δ x⟩:Ho)]).map Ho.d=hs.map Ho.d++[.t [.s w,.s (LQ cs),.i y,.l Ξ (x.map .s)]]:=by rw[I_];rfl
  rw[v];unfold UD Xv;generalize ns.map D.i=NS,(ss.map λy=>D.s (LQ y))=SS,nm.map D.s=NM,ow.map D.s=OW,hs.map Ho.d=HS,x.map D.s=XS,LQ cs=SC at *;simp![ie,G,F,E,R,P,Y,J,I,e,B,N,Q,C,H,M,lh,ex]
include a g sl O hn f b in
theorem Du (v:Bool){ow:Æ}(r:3<=ow.length){q:Int}(R:0<=q)(Q:q < 4):∃(hs:List Ho) (w u C M:Ã),forM (turn (ba T (n+1)) (.n 7) UD) (iQ 0 q) [Δ (.l Ξ (ns.map .i)),Δ (.i k),Δ (.l Ξ (ss.map λy=>.s (LQ y))),Δ (.l Ξ (nm.map .s)),Δ (.i m),Δ (.l v (ow.map .s)),Δ (.l Θ []),Φ,Φ,Φ,Φ]=.ok (.n [Δ (.l Ξ (ns.map .i)),Δ (.i k),Δ (.l Ξ (ss.map λy=>.s (LQ y))),Δ (.l Ξ (nm.map .s)),Δ (.i m),Δ (.l v (ow.map .s)),Δ (.l Θ (hs.map Ho.d)),w,u,C,M])/\hs.length<=3/\Vo hs:=by
 let⟨F,e,hs,w,u,C,M,rfl,B,A⟩:=jl (its:=iQ 0 q) (a:=[Δ (.l Ξ (ns.map .i)),Δ (.i k),Δ (.l Ξ (ss.map λy=>.s (LQ y))),Δ (.l Ξ (nm.map .s)),Δ (.i m),Δ (.l v (ow.map .s)),Δ (.l Θ []),Φ,Φ,Φ,Φ]) (body:=turn (ba T (n+1)) (.n 7) UD)
  (λj E=>∃(hs:List Ho) (w u C M:Ã),E=[Δ (.l Ξ (ns.map .i)),Δ (.i k),Δ (.l Ξ (ss.map λy=>.s (LQ y))),Δ (.l Ξ (nm.map .s)),Δ (.i m),Δ (.l v (ow.map .s)),Δ (.l Θ (hs.map Ho.d)),w,u,C,M]/\hs.length=j/\∀q∈hs,Sl q.sl/\∀X,q.sm=Δ X->X.length<=20)
  ⟨[],Φ,Φ,Φ,Φ,rfl,rfl,λp h=>by simp at h⟩ (by
   rintro j x E G ⟨hs,N,L,J,P,rfl,B,A⟩;let⟨S,rfl⟩:=oY G;let⟨y,u,C,M,e,I⟩:=Dt n ns a g sl O hn f b r v (j:=j) ⋯ (hs:=hs) ⋯ N L J P;refine⟨_,e,hs++[y],_,u,C,M,rfl,by rw[q_,B];rfl,λz H=>?_⟩
   ·rcases w_.mp H with H|H
    ·exact A z H
    ·rw[r_.mp H];exact I)
 rw[me]at B;exact⟨hs,w,u,C,M,e,⋯,λz H=>(A z H).1,λz H=>(A z H).2⟩
include a g sl O hn f b in
theorem Dv:∃hs:List Ho,ba T (n+3) 73 [.l Ξ (ns.map .i),.i k,.l Ξ (ss.map λy=>.s (LQ y)),.l Ξ (nm.map .s),.i m]=.ok (.l Θ (hs.map Ho.d))/\hs.length<=3/\Vo hs:=by
 let w:=iB ns;let⟨A,x,I,_⟩:=ko n ns (k:=k) a ⋯ (c:=3) nofun nofun;let I:A.length=3:=I;let F:=iM (n+1) ns (k+4) 2 ⋯ ⋯ nofun;let C:=iM (n+1) ns (k+5) 4 ⋯ ⋯ nofun;let W:=km ns (k+5) (m:=4) nofun;let U:=kn ns (k+5) (m:=4) nofun;generalize dr ns (k+4) 2=u,dr ns (k+5) 4=q at *;let E:=iA nm;let L:=nu A;let lm:(nm.map D.s).length=nm.length:=i_ _;let j:=λ(X:Bool) (ow:Æ) (H:3<=ow.length)=>Du (n+1) ns a g sl O hn f b X H W U;by_cases J:2 < nm.length/\u=0
 ·let B:decide ((2:Int) < (nm.length:Int))=Θ:=B_ ⋯;let G:(u == 0)=Θ:=by rw[J.2];rfl
  let⟨hs,c7,c8,c9,ME,e,H,p⟩:=j Ξ nm.reverse (by rw[List.length_reverse];omega);refine⟨hs,?_,H,p⟩;let R:(nm.map D.s).reverse=nm.reverse.map .s:=by rw[List.map_reverse]
  let lr:=nu nm.reverse;let Y:iS (.h (.v 3))=Ξ:=rfl;let vs:vars (.h (.v 3))=[3]:=rfl;let YV:=iA nm.reverse;unfold UD Xv at e;rw[gx 73 Xp 5 11 Uv rfl];unfold Uv;generalize ns.map D.i=N,(ss.map λy=>D.s (LQ y))=S,nm.reverse.map D.s=NR,nm.map D.s=M,A.map D.s=Q,hs.map Ho.d=P at *;simp![w,E,x,L,lm,B,F,G,R,lr,Y,vs,YV,C,e]
 ·let⟨hs,c7,c8,c9,ME,e,H,p⟩:=j Θ A ⋯;refine⟨hs,?_,H,p⟩;unfold UD Xv at e;cases B:decide ((2:Int) < (nm.length:Int)) with
  |false=>rw[gx 73 Xp 5 11 Uv rfl];unfold Uv;generalize ns.map D.i=N,(ss.map λy=>D.s (LQ y))=S,nm.map D.s=M,A.map D.s=Q,hs.map Ho.d=P at *;simp![w,E,x,L,lm,B,F,C,e]
  |true=>let G:(u == 0)=Ξ:=beq_eq_false_iff_ne.mpr λz=>J ⟨by have:=t_ B;omega,z⟩;rw[gx 73 Xp 5 11 Uv rfl];unfold Uv;generalize ns.map D.i=N,(ss.map λy=>D.s (LQ y))=S,nm.map D.s=M,A.map D.s=Q,hs.map Ho.d=P at *;simp![w,E,x,L,lm,B,F,G,C,e]
end
abbrev OI (m:Nat):È:=(List.range m).map λ(k:Nat)=>(k:Int)
theorem wy:∀(l:È) (i:Nat) (h:i < l.length),(l[i]::l.eraseIdx i).Perm l
 |x::l,0,h=>.refl _
 |x::l,i+1,h=>by have:=wy l i (Nat.lt_of_succ_lt_succ h);show(l[i]'(Nat.lt_of_succ_lt_succ h)::x::l.eraseIdx i).Perm (x::l);exact(List.Perm.swap x _ _).trans (this.cons x)
def Dw (n:Nat)(ns:È){m:Nat}(hm:m<=20)(p k h g f c b A a M S R Q w v s r q u U:Ã) :
  ∃(O:È) (N:Ã),forM (turn (ba T (n+1)) (.n 14) WX) (iQ 0 (m:Int)) [Δ (.l Ξ (ns.map .i)),p,k,h,g,f,c,b,A,a,M,S,Δ (.l Θ ((OI m).map .i)),Δ (.l Θ []),R,Q,w,v,s,r,q,u,U]=.ok (.n [Δ (.l Ξ (ns.map .i)),p,k,h,g,f,c,b,A,a,M,S,Δ (.l Θ []),Δ (.l Θ (O.map .i)),N,Q,w,v,s,r,q,u,U])/\O.Perm (OI m):=by
 let L:=iB ns;let⟨F,e,l,O,N,rfl,E,C,B⟩:=jl (its:=iQ 0 (m:Int)) (a:=[Δ (.l Ξ (ns.map .i)),p,k,h,g,f,c,b,A,a,M,S,Δ (.l Θ ((OI m).map .i)),Δ (.l Θ []),R,Q,w,v,s,r,q,u,U]) (body:=turn (ba T (n+1)) (.n 14) WX)
  (λj y=>∃(l O:È) (N:Ã),y=[Δ (.l Ξ (ns.map .i)),p,k,h,g,f,c,b,A,a,M,S,Δ (.l Θ (l.map .i)),Δ (.l Θ (O.map .i)),N,Q,w,v,s,r,q,u,U]/\l.length+j=m/\O.length=j/\(O++l).Perm (OI m))
  ⟨OI m,[],R,rfl,by unfold OI;rw[i_,R_];rfl,rfl,.refl _⟩ (by
   rintro j x y I ⟨l,O,N,rfl,E,C,B⟩;let⟨J,rfl⟩:=oY I;rw[aae]at J;let⟨z,P,G,Y⟩:=Nw n ns (410+(j:Int)) (l.length:Int) ⋯ ⋯ ⋯;let ll:(l.map D.i).length=l.length:=i_ _;let H:z.toNat < l.length:=⋯
   let W:=λy=>CW (i:=13) (j:=12) (e:=O.map .i) (ns:=l) (z:=z) (a:=y) G H ⋯ (by rw[i_];omega) rfl;refine⟨[Δ (.l Ξ (ns.map .i)),p,k,h,g,f,c,b,A,a,M,S,Δ (.l Θ ((l.eraseIdx z.toNat).map .i)),Δ (.l Θ ((O++[l.getD z.toNat 0]).map .i)),Δ (.i (j:Nat)),Q,w,v,s,r,q,u,U],?_,l.eraseIdx z.toNat,O++[l.getD z.toNat 0],_,rfl,by rw[List.length_eraseIdx_of_lt H];omega,by rw[q_,C];rfl,?_⟩
   ·let X:(O++[l.getD z.toNat 0]).map D.i=O.map .i++[.i (l.getD z.toNat 0)]:=by rw[I_];rfl
    rw[X];unfold WX;generalize ns.map D.i=NS,l.map D.i=LL,O.map D.i=OD at *;simp![ie,L,ll,P,W]
   ·refine .trans ?_ B;rw[G_];refine aaM O ?_;rw[aam,y_ H]
    exact wy l _ H)
 rw[me,aae]at E C;have:l=[]:=List.length_eq_zero_iff.mp ⋯;subst this;rw[Y_]at B;exact⟨O,N,e,B⟩
structure SwOk (q:Sw):Prop where
 sl:Sl q.cs
 wf:∀r∈q.rs,(∀c∈r.cs,Wf c)/\r.cs.length<=2/\∀f sg,r.o=.s f sg->sg.length<=3
 lr:q.rs.length<=4
 la:q.al.length<=20
 lp:∀p∈q.al,p.2.length<=20
 lf:q.fr.length<=20
 nd:q.nd.length<=2
def KH {fs:Æ}(h:fs.length=4):(jK fs Φ (Δ 3)).length=3:=by rcases fs with _|⟨b,_|⟨a,_|⟨F,_|⟨f,fs⟩⟩⟩⟩<;>simp at h;subst h;rfl
def Dx (n:Nat)(ns:È){m:Int}(m0:0<=m)(m1:m<=1000000000)(a:Int){ms fs:Æ}(lm:ms.length=3)(lf:fs.length=4){st:Str}(hs:st.length<=100)(c:Int){gn:Æ}(lg:gn.length<=20){ss:List (Ç)}(sl:ss.length=3)(Ox:∀c∈ss,Sl c){nm:Æ}(hn:nm.length<=5){O:È}(Qn:∀o∈O,0<=o/\o < nm.length)(lo:O.length<=20){s i:Nat}(hsn:s < nm.length)(hi:lC (s:Int) O=Δ i){L:List Sw}(hL:L.length<=20)(o3 Y X J Ri Rj:Bool)(M U Q R UE UG UH UI UJ UK UL:Ã) :
  ∃(q:Sw) (Rk Ro Rp Rq Rr Rt:Ã),turn (ba T (n+5)) (.n 16) Vi (.i (s:Nat)) [Δ (.l Ξ (ns.map .i)),Δ (.i m),Δ (.i a),Δ (.l o3 (ms.map .s)),Δ (.l Y (fs.map .s)),Δ (.s st),Δ (.i c),M,Δ (.l X (gn.map .s)),Δ (.l J (ss.map λy=>.s (LQ y))),U,Δ (.l Ri (nm.map .s)),Q,Δ (.l Rj (O.map .i)),R,Δ (.l Θ (L.map wD)),UE,UG,UH,UI,UJ,UK,UL]=.ok (.n [Δ (.l Ξ (ns.map .i)),Δ (.i m),Δ (.i a),Δ (.l Ξ (ms.map .s)),Δ (.l Ξ (fs.map .s)),Δ (.s st),Δ (.i c),M,Δ (.l Ξ (gn.map .s)),Δ (.l J (ss.map λy=>.s (LQ y))),U,Δ (.l Ξ (nm.map .s)),Q,Δ (.l Ξ (O.map .i)),R,Δ (.l Θ ((L++[q]).map wD)),Δ (.i (s:Nat)),Rk,Ro,Rp,Rq,Rr,Rt])/\nm[s]? = Δ q.nm/\(∀p∈q.nd,∃o∈O.drop (i+1),nm[o.toNat]? = Δ p.1)/\SwOk q:=by
 let ei:=iB ns;let eo:LM (O.map D.i)=O.map D.i:=iB O;let em:=iA ms;let ef:=iA fs;let eg:=iA gn;let en:=iA nm;let d1:=iM (n+4) ns (1000+330*(s:Int)) 2 ⋯ ⋯ nofun;let⟨cs,Y1,cm⟩:=wx (ss:=ss) (km ns (1000+330*(s:Int)) (m:=2) nofun) (by rw[sl];have:=kn ns (1000+330*(s:Int)) (m:=2) nofun;omega);generalize dr ns (1000+330*(s:Int)) 2=u1 at *;let N:=Ox cs cm;let e1:=k8 (n+4) cs N.2.1 m m0 m1;generalize Nm cs m=z at *;let⟨rs,e2,lr,W⟩:=Bm n ns (k:=1000+330*(s:Int)+20) ⋯ ⋯ (ms:=ms) (gn:=gn) (fs:=fs) ⋯ ⋯ lg ⋯ ⋯ hs c z a;let d2:=iM (n+4) ns (1000+330*(s:Int)+1) 4 ⋯ ⋯ nofun;let⟨rest,hr,_⟩:=jm (fs:=fs) (km ns (1000+330*(s:Int)+1) (m:=4) nofun) (by rw[lf];exact kn ns (1000+330*(s:Int)+1) (m:=4) nofun);generalize dr ns (1000+330*(s:Int)+1) 4=u2 at *;let I:jK (fs.map D.s) Φ (Δ 3)=(jK fs Φ (Δ 3)).map .s:=sV _ _ _ _;let abX:=KH lf;generalize jK fs Φ (Δ 3)=f at *;let G:=iA f;let r:=nu f;let⟨al,fr,e3,w,h2,H⟩:=Bq (n+3) ns (k:=1000+330*(s:Int)+2) ⋯ ⋯ (fs:=f) ⋯ ⋯ z;let h1:al.length=f.length:=by rw[<- w,i_]
 let⟨P,e4,lp,hp⟩:=Bw (n+3) ns (k:=1000+330*(s:Int)+322) ⋯ ⋯ lo hi (nm:=nm) (fs:=fs) Qn ⋯ ⋯;let⟨y,hy,gy⟩:=jm (fs:=nm) (i:=(s:Int)) ⋯ ⋯;let d3:=iM (n+4) ns (1000+330*(s:Int)+328) 6 ⋯ ⋯ nofun;generalize dr ns (1000+330*(s:Int)+328) 6=u at *;let lL:(L.map wD).length=L.length:=i_ _;let x:=G2 rs;let A:=uD rs;let F:=qS al;let B:=ja fr;let C:=sW P;let j:=G9 P;refine⟨⟨y,cs,rest,rs,al,fr,P,u == 0⟩,Δ (.i (1000+330*(s:Int))),Δ (.s (LQ cs)),Δ (.i z),Δ (.l Ξ (rs.map Rl.d)),Δ (MQ (LQ cs) rest rs al fr),Δ (.l Ξ (P.map pD)),?_,by rw[<- gy];rfl,hp,N,W,lr,by show al.length<=20;omega,h2,H.1,lp⟩;let OX:(L++[(⟨y,cs,rest,rs,al,fr,P,u == 0⟩:Sw)]).map wD=L.map wD++[.t [.s y,.t [MQ (LQ cs) rest rs al fr,.l Ξ (P.map pD),.b (u == 0)]]]:=by rw[I_];rfl
 rw[OX];let g:D.t [.s (LQ cs),.s rest,.l Ξ (rs.map Rl.d),.t [.l Ξ (al.map Na),.l Ξ (fr.map LU)]]=MQ (LQ cs) rest rs al fr:=rfl;let E:=qT (LQ cs) rest rs al fr;let h:il (MQ (LQ cs) rest rs al fr)=Ξ:=rfl;let e:vars (.S (.v 4) Φ (Δ (.c (.i 3))))=[4]:=rfl;generalize MQ (LQ cs) rest rs al fr=SW at *;unfold Vi;generalize ns.map D.i=NS,O.map D.i=OD,ms.map D.s=MS,fs.map D.s=FS,gn.map D.s=GN,nm.map D.s=NM,f.map D.s=F3,(ss.map λy=>D.s (LQ y))=SS,rs.map Rl.t=RT,rs.map Rl.d=RD,al.map Na=AL,fr.map LU=FR,P.map pD=PS,L.map wD=WW,LQ cs=SC at *;simp![ie,ei,eo,em,ef,eg,en,d1,Y1,e1,e2,d2,hr,I,G,r,e3,e4,hy,d3,lL,x,A,F,B,C,j,g,E,h,e]
def qX:o∈OI m↔0<=o/\o < m:=by
 unfold OI;rw[List.mem_map];constructor
 ·rintro⟨k,h,rfl⟩;rw[X_]at h;omega
 ·rintro⟨a,H⟩;exact⟨o.toNat,X_.mpr ⋯,⋯⟩
def Bx (m:Nat):(OI m).Nodup:=by unfold OI;refine List.pairwise_map.mpr (List.Pairwise.imp (λh e=>h ⋯) (List.nodup_range (n:=m)))
def Y2 (nm:Æ)(O:È)(q:Sw):Prop:=∃s i:Nat,nm[s]? = Δ q.nm/\lC (s:Int) O=Δ i/\(∀p∈q.nd,∃o∈O.drop (i+1),nm[o.toNat]? = Δ p.1)/\SwOk q
def Dy (n:Nat)(ns:È)  (m0:0<=m)(m1:m<=1000000000)(a:Int){ms fs:Æ}(lm:ms.length=3)(lf:fs.length=4){st:Str}(hs:st.length<=100)(c:Int){gn:Æ}(lg:gn.length<=20){ss:List (Ç)}(sl:ss.length=3)(Ox:∀c∈ss,Sl c)  {M:Nat}(Py:nm.length=M)(hn:M<=5)  (Q:O.Perm (OI M))(Y X W U f P:Bool)(F J G I:Ã) :
  ∃(L:List Sw) (r k g b E C:Bool) (N B A w v u R:Ã),forM (turn (ba T (n+5)) (.n 16) Vi) (iQ 0 (M:Int)) [Δ (.l Ξ (ns.map .i)),Δ (.i m),Δ (.i a),Δ (.l Y (ms.map .s)),Δ (.l X (fs.map .s)),Δ (.s st),Δ (.i c),F,Δ (.l W (gn.map .s)),Δ (.l U (ss.map λy=>.s (LQ y))),J,Δ (.l f (nm.map .s)),G,Δ (.l P (O.map .i)),I,Δ (.l Θ []),Φ,Φ,Φ,Φ,Φ,Φ,Φ]=.ok (.n [Δ (.l Ξ (ns.map .i)),Δ (.i m),Δ (.i a),Δ (.l r (ms.map .s)),Δ (.l k (fs.map .s)),Δ (.s st),Δ (.i c),F,Δ (.l g (gn.map .s)),Δ (.l b (ss.map λy=>.s (LQ y))),J,Δ (.l E (nm.map .s)),G,Δ (.l C (O.map .i)),I,Δ (.l Θ (L.map wD)),N,B,A,w,v,u,R])/\Qm L=nm/\∀q∈L,Y2 nm O q:=by
 let hm:∀o∈O,0<=o/\o < nm.length:=λo h=>by rw[Py];exact qX.mp (Q.mem_iff.mp h)
 let lo:O.length<=20:=by rw[Q.length_eq];unfold OI;rw[i_,R_];omega
 let ond:O.Nodup:=Q.nodup_iff.mpr (Bx M);let⟨τ',e,L,r,k,g,b,E,C,N,B,A,w,v,u,R,rfl,hl,S,hv⟩:=jl (its:=iQ 0 (M:Int)) (a:=[Δ (.l Ξ (ns.map .i)),Δ (.i m),Δ (.i a),Δ (.l Y (ms.map .s)),Δ (.l X (fs.map .s)),Δ (.s st),Δ (.i c),F,Δ (.l W (gn.map .s)),Δ (.l U (ss.map λy=>.s (LQ y))),J,Δ (.l f (nm.map .s)),G,Δ (.l P (O.map .i)),I,Δ (.l Θ []),Φ,Φ,Φ,Φ,Φ,Φ,Φ]) (body:=turn (ba T (n+5)) (.n 16) Vi)
  (λj τ=>∃(L:List Sw) (r k g b E C:Bool) (N B A w v u R:Ã),τ=[Δ (.l Ξ (ns.map .i)),Δ (.i m),Δ (.i a),Δ (.l r (ms.map .s)),Δ (.l k (fs.map .s)),Δ (.s st),Δ (.i c),F,Δ (.l g (gn.map .s)),Δ (.l b (ss.map λy=>.s (LQ y))),J,Δ (.l E (nm.map .s)),G,Δ (.l C (O.map .i)),I,Δ (.l Θ (L.map wD)),N,B,A,w,v,u,R]/\L.length=j/\Qm L=nm.take j/\∀q∈L,Y2 nm O q)
  ⟨[],Y,X,W,U,f,P,Φ,Φ,Φ,Φ,Φ,Φ,Φ,rfl,rfl,rfl,λp h=>by simp at h⟩ (by
   rintro j x τ hx ⟨L,r,k,g,b,E,C,N,B,A,w,v,u,R,rfl,hl,S,hv⟩;let⟨hj,rfl⟩:=oY hx;rw[aae]at hj;let⟨i,hi⟩:=aao.mp (Q.mem_iff.mpr (qX.mpr ⟨⋯,⋯⟩):(j:Int)∈O);let hi:=qV ond hi;let⟨q,d17,d18,d19,d20,d21,d22,e,g1,g2,g3⟩:=Dx n ns m0 m1 a lm lf hs c lg sl Ox (nm:=nm) ⋯ hm lo (s:=j) (i:=i) ⋯ hi (L:=L) ⋯ r k g b E C F J G I N B A w v u R;refine⟨_,e,L++[q],Ξ,Ξ,Ξ,b,Ξ,Ξ,_,d17,d18,d19,d20,d21,d22,rfl,by rw[q_,hl];rfl,?_,λz H=>?_⟩
   ·unfold Qm at S ⊢;rw[I_,S,List.take_succ,g1];rfl
   ·rcases w_.mp H with H|H
    ·exact hv z H
    ·rw[r_.mp H];exact⟨j,i,g1,hi,g2,g3⟩)
 refine⟨L,r,k,g,b,E,C,N,B,A,w,v,u,R,e,?_,hv⟩;rw[S,me,aae,<- Py,List.take_length]
abbrev at_ (ns:Æ)(x:Str):Nat:=open Classical in if h:∃i,ns[i]? = Δ x then Classical.choose h else 0
def Eu (nd:ns.Nodup)  (h:ns[i]? = Δ x):at_ ns x=i:=by
 unfold at_;let ex:∃i,ns[i]? = Δ x:=⟨i,h⟩
 rw[dif_pos ex];let H:=Classical.choose_spec ex;exact List.getElem?_inj (v_.mp H).1 nd |>.mp (H.trans h.symm)
abbrev Xw (nm:Æ)(O:È)(x:Str):Nat:=O.length - (lC (at_ nm x:Int) O).getD 0
def JQ (nd:nm.Nodup)  (a:O.Nodup)(l:∀o∈O,0<=o)  (h:Y2 nm O q):∀p∈q.nd,Xw nm O p.1 < Xw nm O q.nm:=by intro p e;let⟨s,i,k,c,f,_⟩:=h;let⟨o,H,g⟩:=f p e;let⟨j,b⟩:=aao.mp H;rw[List.getElem?_drop]at b;let z:=l o (List.mem_of_mem_drop H);let E:=qV a b;let m:=(v_.mp (nC c).1).1;unfold Xw;rw[Eu nd k,Eu nd g,c,show((o.toNat:Nat):Int)=o by omega,E];show O.length - (i+1+j) < O.length - i;omega
structure O6 (gs:List Gp)(hs:List Ho)(L:List Sw)(ro:Str->Nat):Prop where
 g:O1 gs
 lg:gs.length<=2
 h:Vo hs
 lh:hs.length<=3
 nd:(Qm L).Nodup
 ll:L.length<=5
 sw:∀q∈L,SwOk q
 MZ:∀q∈L,∀p∈q.nd,p.1∈Qm L
 rk:∀q∈L,∀p∈q.nd,ro p.1 < ro q.nm
 r5:∀x,ro x<=5
def JR (e:O1 gs)(gl:gs.length<=2)(hh:Vo hs)(lh:hs.length<=3)(hn:Qm L=nm)(P:nm.length=m)(j:m<=5)(nd:nm.Nodup)(Q:O.Perm (OI m))(a:∀q∈L,Y2 nm O q):O6 gs hs L (Xw nm O):=by
 refine⟨e,gl,hh,lh,by rw[hn];exact nd,?_,λq H=>?_,λq H p b=>?_,λq H=>JQ nd (Q.nodup_iff.mpr (Bx m)) (λo c=>(qX.mp (Q.mem_iff.mp c)).1) (a q H),λx=>?_⟩
 ·rw[<- hn]at P;unfold Qm at P;rw[i_]at P;omega
 ·let⟨s,i,_,_,_,h⟩:=a q H;exact h
 ·let⟨s,i,l,k,f,_⟩:=a q H;let⟨o,_,g⟩:=f p b;rw[hn];exact Z_ g
 ·have:O.length=m:=by rw[Q.length_eq];unfold OI;rw[i_,R_]
  unfold Xw;omega
def By (n:Nat)(ns:È)  (R:0<=m)(Q:m<=1000000000)(e:Int) :
  ∃(gs:List Gp) (hs:List Ho) (L:List Sw) (rk:Str->Nat),ba T (n+6) 74 [.l Ξ (ns.map .i),.i m,.i e]=.ok (.t [.l Θ (gs.map Gp.d),.l Θ (hs.map Ho.d),.l Θ (L.map wD)])/\O6 gs hs L rk:=by
 let ei:=iB ns;let⟨f,e1,E,r,_⟩:=ko (n+3) ns (k:=0) nofun nofun (c:=3) nofun nofun;let⟨fs,e2,C,Rf,_⟩:=ko (n+3) ns (k:=50) nofun nofun (c:=4) nofun nofun;let E:f.length=3:=E;let C:fs.length=4:=C;let⟨st,e3,X⟩:=vY (n+3) ns (k:=130) nofun nofun;let⟨c,e4⟩:=p6 (n+3) ns (k:=145) nofun nofun;let⟨gs,e5,hg,lg,_⟩:=xA n ns (k:=150) nofun nofun (ms:=f) ⋯ ⋯ r X c;let fm:iD (iP (ba T (n+5)) (.n 0) [] (.i (.v 0) (.c (.i 0))) [Φ]) (gs.map Gp.d)=.ok ((gs.map (·.nm)).map .s):=jk Gp.d (·.nm) .s gs λg _=>by let Y:iw g.d (.i 0)=.ok (.s g.nm):=rfl;generalize g.d=G at *;simp![Y]
 let z:(gs.map Gp.d).length=gs.length:=i_ _;let⟨b,e6,H⟩:=qP (n+3) ns (k:=100) nofun nofun;let⟨a,e7,Oe⟩:=qP (n+3) ns (k:=115) nofun nofun;let⟨S,e8,XJ⟩:=qP (n+3) ns (k:=285) nofun nofun;let W:∀c∈[b,a,S],Sl c:=λc h=>by
  simp only[k_,P_,or_false]at h;rcases h with rfl|rfl|rfl
  ·exact H
  ·exact Oe
  ·exact XJ
 let⟨u,d1,q0,q1⟩:=Nw (n+4) ns 148 5 nofun nofun nofun;obtain⟨M,F⟩:∃M:Nat,1+u=(M:Int):=⟨(1+u).toNat,⋯⟩
 let⟨nm,e9,A,q,_⟩:=ko (n+3) ns (k:=400) nofun nofun (c:=(M:Int)) ⋯ ⋯;rw[aae]at A;let YY:=nu nm;let⟨od,NH,P,U⟩:=Dw (n+4) ns (m:=M) ⋯ (Δ (.i m)) (Δ (.i e)) (Δ (.l Ξ (f.map .s))) (Δ (.l Θ (fs.map .s))) (Δ (.s st)) (Δ (.i c)) (Δ (.l Θ (gs.map Gp.d))) (Δ (.l Θ ((gs.map (·.nm)).map .s))) (Δ (.l Θ ([b,a,S].map λy=>.s (LQ y)))) (Δ (.i (M:Nat))) (Δ (.l Θ (nm.map .s))) Φ Φ Φ Φ Φ Φ Φ Φ Φ;let⟨L,o3,o4,o8,o9,Ri,Rj,NI,Rk,Ro,Rp,Rq,Rr,Rt,O,hL,hv⟩:=Dy n ns R Q e E C X c (gn:=gs.map (·.nm)) (by rw[i_];omega) (ss:=[b,a,S]) rfl W (nm:=nm) A ⋯ U Ξ Θ Θ Θ Θ Θ (Δ (.l Θ (gs.map Gp.d))) (Δ (.i (M:Nat))) (Δ (.l Θ [])) NH;let⟨hs,J,lh,hh⟩:=Dv (n+2) ns (k:=500) nofun nofun (ss:=[b,a,S]) rfl W (nm:=nm) ⋯ R Q;refine⟨gs,hs,L,_,?_,JR hg lg hh lh hL A ⋯ q U hv⟩;let em:=iA f;let ef:=iA fs;let en:=iA nm;let eg:=ma gs;let x:=nu (gs.map (·.nm));let I:=iA (gs.map (·.nm));let gr:decide (0<=(M:Int)/\(M:Int)<=1000)=Θ:=B_ ⋯;let rg:(List.range (M:Int).toNat).map (λk=>D.i (k:Nat))=(OI M).map .i:=by unfold OI;rw[z_,aae];rfl
 let w:=uy (OI M);let Vm:LM ([b,a,S].map λy=>D.s (LQ y))=[b,a,S].map λy=>D.s (LQ y):=rfl;let N:iS (.j (.v 10))=Θ:=rfl;let B:([b,a,S].map λy=>D.s (LQ y)).length=3:=rfl;let p:[D.s (LQ b),.s (LQ a),.s (LQ S)]=[b,a,S].map λy=>D.s (LQ y):=rfl;let go:ba T (n+6) 74 [.l Ξ (ns.map .i),.i m,.i e]=_:=gx 74 d74 3 23 b74 rfl rfl rfl rfl rfl rfl;rw[go];unfold b74;show _=Except.ok (D.t [.l Θ (gs.map Gp.d),.l Θ (hs.map Ho.d),.l Θ (L.map wD)]);generalize ns.map D.i=NS,f.map D.s=MS,fs.map D.s=FS,(gs.map (·.nm)).map D.s=GN,gs.map Gp.d=GD,nm.map D.s=NM,([b,a,S].map λy=>D.s (LQ y))=SS,od.map D.i=OD,(OI M).map D.i=RG,hs.map Ho.d=HH,L.map wD=LL,WX=tod,Vi=ths at *;simp_all![ei,em,ef,en,eg,x,I,e1,e2,e3,e4,e5,fm,z,e6,e7,e8,d1,F,e9,YY,gr,rg,w,p,B,Vm,N,P,O,J]
end Law
namespace L2
open PySem PySem.Spec PyProof.Rows PySem.SeqAt
namespace Fr
theorem kO {b:Type}{body:D->Ev->Res Fl}(O:b->D)(p:b->Bool)(out:b->D)(st:Ev->Prop):∀(X:List b) (a:Ev),st a->(∀x∈X,∀a,st a->(p x=Θ->body (O x) a=.ok (.r (out x)))/\(p x=Ξ->∃τ',body (O x) a=.ok (.n τ')/\st τ'))->
  (∀x,X.find? p=Δ x->forM body (X.map O) a=.ok (.r (out x)))/\(X.find? p=Φ->∃τ',forM body (X.map O) a=.ok (.n τ')/\st τ')
 |[],a,h,_=>⟨λx h=>(by cases h),λ_=>⟨a,rfl,h⟩⟩
 |x::X,a,h,f=>by
  rw[a_,dt,List.find?_cons];let H:=f x (.head _) a h;cases c:p x with
  |true=>rw[H.1 c];exact⟨λy h=>(by cases h;rfl),λh=>(by cases h)⟩
  |false=>let⟨τ',e,i⟩:=H.2 c;rw[e];exact kO O p out st X τ' i λy g=>f y (.tail _ g)
end Fr
end L2
namespace Law
open PySem PySem.Spec L2 L2.Fr PyProof.Rows
abbrev Mh (gs:List Gp)(hs:List Ho)(L:List Sw):D:=.t [Mk gs,.l Ξ (hs.map Ho.d),.l Ξ (L.map wD)]
def kC (gs:List Gp)(hs:List Ho)(L:List Sw):er (Mh gs hs L)=Mh gs hs L:=by show D.t [er (Mk gs),.l Ξ (LM (hs.map Ho.d)),.l Ξ (LM (L.map wD))]=_;rw[jz,qW,sX];rfl
abbrev Ru (L:List Sw)(x:Str):Option Sw:=L.find? λq=>q.nm == x
abbrev tE:Ê:=[.L (.a .e (.v 2) (.v 1)) [.r (.v 3)] []]
def wz (j:T f=Δ fn)(O:fn.io=Ξ)(p:fn.np=2)(m:fn.G.N.length=4)(k:fn.body=(.b (.t [.n 2,.n 3]) (.v (.i (.v 0) (.c (.i 2)))) tE)::r)(n:Nat)(gs:List Gp)(hs:List Ho)  (h:Ru L x=Δ q):ba T (n+1) f [Mh gs hs L,.s x]=.ok (eD q):=by
 let e:=(kO (body:=turn (ba T n) (.t [.n 2,.n 3]) tE) wD (λq=>q.nm == x) eD (λg=>∃b c:Ã,g=[Δ (Mh gs hs L),Δ (.s x),b,c]) L _ ⟨Φ,Φ,rfl⟩ (by
  rintro q _ _ ⟨b,c,rfl⟩;let u:=Bv q;refine⟨λa=>?_,λa=>⟨[Δ (Mh gs hs L),Δ (.s x),Δ (.s q.nm),Δ (eD q)],?_,_,_,rfl⟩⟩
  all_goals
   unfold tE wD;generalize eD q=E at *
   simp![ie,a,u])).1 q h
 let X:iw (Mh gs hs L) (.i 2)=.ok (.l Ξ (L.map wD)):=rfl;let y:=kC gs hs L;let w:=sX L;rw[go j O p m k rfl];generalize Mh gs hs L=H,L.map wD=W,tE=z at *;simp![X,y,w,e]
def Bz (n:Nat)(gs:List Gp)(hs:List Ho)  (h:Ru L x=Δ q):ba T (n+1) 66 [Mh gs hs L,.s x]=.ok (eD q):=wz (fn:=d66) rfl rfl rfl rfl rfl n gs hs h
def Hd (n:Nat)(gs:List Gp)(hs:List Ho)  (h:Ru L x=Δ q):ba T (n+1) 75 [Mh gs hs L,.s x]=.ok (eD q):=wz (fn:=d75) rfl rfl rfl rfl rfl n gs hs h
abbrev NZ (x:Str):Option (Æ)->Bool
 |none=>Θ
 |some l=>l.any (· == x)
abbrev UM (x:Str)(m:Int)(h:Ho):Bool:=NZ x h.sm&&decide (Nm h.sl m < h.pl)
abbrev held (hs:List Ho)(x:Str)(m:Int):Option Str:=(hs.find? (UM x m)).map (·.nm)
theorem Ew (w:Str):∀ws:Æ,MW (.s w) (ws.map .s)=.ok (ws.any (· == w))
 |[]=>rfl
 |x::ws=>by show KZ (.ok (x == w)) (λa=>KZ (MW (.s w) (ws.map .s)) λb=>.ok (a||b))=_;rw[Ew w ws];rfl
def Ex (x:Str):∀s:Option (Æ),(∃b,MN .Q (Qw s) .L=.ok b/\(b=Θ/\NZ x s=Θ∨b=Ξ/\MN .P (.s x) (Qw s)=.ok (NZ x s)))
 |none=>⟨Θ,rfl,.inl ⟨rfl,rfl⟩⟩
 |some l=>⟨Ξ,rfl,.inr ⟨rfl,Ew x l⟩⟩
abbrev Sf:Option Str->D
 |some y=>.s y
 |none=>.L
def BA (n:Nat)(gs:List Gp)  (w:Vo hs)(L:List Sw)(x:Str)  (r:0<=m)(M:m<=1000000000)(ms:List (Str×Tn)):ba T (n+5) 67 [Mh gs hs L,Mn m ms,.s x]=.ok (Sf (held hs x m)):=by
 let v:iw (Mn m ms) (.i 0)=.ok (.i m):=rfl
 let l:=kO (body:=turn (ba T (n+4)) (.t [.n 3,.n 4,.n 5,.n 6]) tH) Ho.d (UM x m) (λh=>.s h.nm) (λp=>∃a b c d:Ã,p=[Δ (Mh gs hs L),Δ (Mn m ms),Δ (.s x),a,b,c,d]) hs _ ⟨Φ,Φ,Φ,Φ,rfl⟩ (by
  rintro h y _ ⟨a,b,c,d,rfl⟩;let z:=sQ n (w.sl h y) m r M;let⟨b,u,g⟩:=Ex x h.sm;generalize Mh gs hs L=H,Mn m ms=V at *;refine⟨λf=>?_,λf=>⟨[Δ H,Δ V,Δ (.s x),Δ (.s h.nm),Δ (.s (LQ h.sl)),Δ (.i h.pl),Δ (Qw h.sm)],?_,_,_,_,_,rfl⟩⟩
  all_goals
   unfold UM at f;unfold tH Ho.d;generalize Qw h.sm=S,LQ h.sl=A at *
   cases hd:decide (Nm h.sl m < h.pl)<;>cases hi:NZ x h.sm<;>rw[hd,hi]at f<;>rw[hi]at g<;>first|(cases f;done)|rcases g with⟨rfl,I⟩|⟨rfl,I⟩<;>first|(cases I;done)|simp![ie,z,v,hd,u,I])
 let X:iw (Mh gs hs L) (.i 1)=.ok (.l Ξ (hs.map Ho.d)):=rfl;let k:=kC gs hs L;let E:=qW hs;let go:ba T (n+5) 67 [Mh gs hs L,Mn m ms,.s x]=_:=gx 67 d67 3 7 b67 rfl rfl rfl rfl rfl rfl;rw[go];unfold b67;unfold held;cases j:hs.find? (UM x m) with
 |some h=>let e:=l.1 h j;show _=Except.ok (D.s h.nm);generalize Mh gs hs L=H,Mn m ms=V,hs.map Ho.d=W,tH=q at *;simp![X,k,E,e]
 |none=>let⟨_,e,a,b,c,d,rfl⟩:=l.2 j;show _=Except.ok D.L;generalize Mh gs hs L=H,Mn m ms=V,hs.map Ho.d=W,tH=q at *;simp![X,k,E,e]
end Law
namespace L2
open PySem PySem.Spec PyProof.Rows PySem.SeqAt
namespace Fr
def BB (hs:ic a i=Δ (.K Θ ks vs))(h:fT vs=Θ)(c:iJ cl e a=.ok b)(H:cl f (LM b++[.K Ξ ks vs])=.ok (.t [d,.K Ξ k v]))(Q:fT v=Θ) :
  Ms cl (.S j f e i) a=.ok (.n (((LZ (ij e) a).set i (Δ (.K Θ k v))).set j (Δ d))):=by
 rw[ÿbe,hs];show LK (fT vs) _=_;rw[h];show KZ (iJ cl e a) _=_;rw[c];show KZ (cl f (LM b++[.K Ξ ks vs])) _=_;rw[H];show LK (fT v) _=_;rw[Q];rfl
def Dz (hs:ic b i=Δ (.K Θ ks vs))(h:fT vs=Θ)(m:iJ cl e b=.ok g)(l:cl f (LM g++[.K Ξ ks vs])=.ok (.t [d,.K Ξ a v]))(Q:fT v=Θ)
  (j:K8 cl k ((LZ (ij e) b).set i (Δ (.K Θ a v)))=.ok (.s x)) (H:(il d&&jf a.length)=Θ) :
  Ms cl (.c i k f e) b=.ok (.n (((LZ (ij e) b).set i (Δ (.K Θ a v))).set i (Δ (.K Θ (ou a (.inr x)) (lF a v (.inr x) d))))):=by
 rw[ÿbf,hs];show LK (fT vs) _=_;rw[h];show KZ (iJ cl e b) _=_;rw[m];show KZ (cl f (LM g++[.K Ξ ks vs])) _=_;rw[l];show LK (fT v) _=_;rw[Q];show KZ (K8 cl k _) _=_;rw[j];show LK (il d&&jf a.length) _=_;rw[H];rfl
def DA (hs:ic g i=Δ (.K Θ ks vs))(H:fT vs=Θ)(s:iJ cl E g=.ok h)(q:cl f (LM h++[.K Ξ ks vs])=.ok (.t [d,.K Ξ c v]))(Q:fT v=Θ)
  (p:K8 cl k ((LZ (ij E) g).set i (Δ (.K Θ c v)))=.ok y) (m:iw d y=.ok x) (l:K8 cl e ((LZ (ij E) g).set i (Δ (.K Θ c v)))=.ok z) (j:MN .n x z=.ok r) :
  Ms cl (.P f E i k e a b) g=if r=Θ then iz cl a ((LZ (ij E) g).set i (Δ (.K Θ c v))) else iz cl b ((LZ (ij E) g).set i (Δ (.K Θ c v))):=by
 rw[ÿbg,hs];show LK (fT vs) _=_;rw[H];show KZ (iJ cl E g) _=_;rw[s];show KZ (cl f (LM h++[.K Ξ ks vs])) _=_;rw[q];show KZ (LK (fT v) _) _=_;rw[Q];show KZ (KZ (K8 cl k _) _) _=_;rw[p];show KZ (KZ (iw d y) _) _=_;rw[m];show KZ (KZ (K8 cl e _) _) _=_;rw[l];show KZ (KZ (MN .n x z) _) _=_;rw[j];rfl
abbrev kT (u:Æ):List Key:=u.map Sum.inr
theorem uI (A:Str->D)(x:Str):∀U:Æ,look (kT U) (U.map A) (.inr x)=if U.any (· == x)=Θ then Δ (A x) else Φ
 |[]=>rfl
 |u::U=>by
  show(if(Sum.inr u:Key)=Sum.inr x then Δ (A u) else look (kT U) (U.map A) (.inr x))=_;rw[List.any_cons];cases h:(u == x) with
  |true=>
   let e:u=x:=by simpa using h
   rw[e_ (by rw[e]),e];rfl
  |false=>
   let e:u≠x:=by simpa using h
   rw[d_ (λz=>e (Sum.inr.inj z)),uI A x U];rfl
def Ey (x:Str)(U:Æ):rO (kT U) (.inr x)=U.any (· == x):=by
 unfold rO kT;rw[List.any_map];congr 1;funext u;show decide ((Sum.inr u:Key)=Sum.inr x)=(u == x)
 cases h:(u == x) with
 |true=>
  let e:u=x:=by simpa using h
  exact B_ (by rw[e])
 |false=>
  let e:u≠x:=by simpa using h
  exact N_ λz=>e (Sum.inr.inj z)
abbrev mf (u:Æ)(x:Str):Æ:=if u.any (· == x)=Θ then u else u++[x]
def He (x:Str)(u:Æ):ou (kT u) (.inr x)=kT (mf u x):=by
 unfold ou mf;rw[Ey];cases u.any (· == x) with
 |true=>rfl
 |false=>show kT u++[Sum.inr x]=kT (u++[x]);unfold kT;rw[I_];rfl
theorem BC (A:Str->D)(x:Str):∀U:Æ,List.zipWith (λk e=>if k=(Sum.inr x:Key) then A x else e) (kT U) (U.map A)=U.map A
 |[]=>rfl
 |u::U=>by
  show(if(Sum.inr u:Key)=Sum.inr x then A x else A u)::List.zipWith _ (kT U) (U.map A)=_;rw[BC A x U];by_cases h:u=x
  ·rw[h,e_ rfl];rfl
  ·rw[d_ (λz=>h (Sum.inr.inj z))];rfl
def Hf (A:Str->D)(x:Str)(u:Æ):lF (kT u) (u.map A) (.inr x) (A x)=(mf u x).map A:=by
 unfold lF mf;rw[Ey];cases u.any (· == x) with
 |true=>exact BC A x u
 |false=>show u.map A++[A x]=(u++[x]).map A;rw[I_];rfl
def lP (h:∀x,il (A x)=Θ)(U:Æ):fT (U.map A)=Θ:=by rw[iT,List.all_map];exact M_.mpr λu _=>h u
structure Tr (fs us:Æ):Prop where
 nd:us.Nodup
 sub:∀u∈us,u∈fs
def Tr.nil (fs:Æ):Tr fs []:=⟨List.nodup_nil,λu h=>by simp at h⟩
def Tr.put (t:Tr fs U)(h:x∈fs):Tr fs (mf U x):=by
 unfold mf;cases q:U.any (· == x) with
 |true=>exact t
 |false=>
  let hn:x∉U:=λc=>by have:U.any (λy=>y == x)=Θ:=List.any_eq_true.mpr ⟨x,c,beq_self_eq_true x⟩;rw[q]at this;cases this
  refine⟨s_.mpr ⟨t.nd,by simp,λa g b f e=>?_⟩,λu H=>?_⟩
  ·rw[r_.mp f]at e;exact hn (e ▸ g)
  ·rcases w_.mp H with H|H
   ·exact t.sub u H
   ·rw[r_.mp H];exact h
def BE {fs U:Æ}(h:U.Nodup)(s:∀u∈U,u∈fs):U.length<=fs.length:=by
 induction U generalizing fs with
 |nil=>simp
 |cons u U i=>
  rw[F_]at h;let⟨a,b,e⟩:=List.append_of_mem (s u (.head _));subst e;have:=i (fs:=a++b) h.2 λv H=>by
   let R:=s v (.tail _ H);let M:v≠u:=λz=>h.1 (z ▸ H);rcases w_.mp R with z|z
   ·exact u_ _ z
   ·rcases k_.mp z with z|z
    ·exact absurd z M
    ·exact x_ _ z
  rw[q_]at this;rw[q_,List.length_cons,List.length_cons];omega
def Tr.len (t:Tr fs u):u.length<=fs.length:=BE t.nd t.sub
end Fr
end L2
namespace Law
open PySem PySem.Spec L2 L2.Fr PyProof.Rows
abbrev oZ:D->Option Str
 |.t [.s f,_]=>Δ f
 |_=>Φ
abbrev kr (A:Str->D)(l:Ps):Option Str:=(l.find? λp=>oZ (A p.1) != Δ p.2).map (·.1)
abbrev uJ (A:Str->D)(h:Option Str)(f:Str)(i:Int)(q:Sw):D:=
 if q.st=Θ then .t [.s q.rest,.t [.s "stopped"]]
 else match h with
  |some y=>.t [.s q.rest,.t [.s "held",.s y]]
  |none=>match kr A q.nd with
   |some y=>.t [.s q.rest,.t [.s "needs",.s y]]
   |none=>if(i == (q.rs.length:Int))=Θ then .t [.s f,.t [.s "rest"]] else .t [.s f,.t [.s "rule",.i i]]
def DB (A:Str->D)(h:Option Str)(f:Str)(i:Int)(q:Sw):∃g t,uJ A h f i q=.t [.s g,t]/\il t=Θ/\pl 2 t=Θ:=by
 unfold uJ;split
 ·exact⟨_,_,rfl,rfl,rfl⟩
 ·split
  ·exact⟨_,_,rfl,rfl,rfl⟩
  ·split
   ·exact⟨_,_,rfl,rfl,rfl⟩
   ·split<;>exact⟨_,_,rfl,rfl,rfl⟩
def Once (H V:D)(a:Int)(fs:Æ)(A:Str->D)(k:Nat)(x:Str):Prop:=∀u,Tr fs u->∃L,Tr fs L/\ba T k 70 [H,.i a,V,.s x,.K Ξ (kT u) (u.map A)]=.ok (.t [A x,.K Ξ (kT L) (L.map A)])
def xC (H:A y=.t [.s g,t])(l:Ps):kr A ((y,f)::l)=if(g != f)=Θ then Δ y else kr A l:=by
 unfold kr;rw[List.find?_cons];have:(oZ (A y) != Δ f)=(g != f):=by rw[H];show(Δ g != Δ f)=_;cases h:(g != f)<;>simp_all
 show Option.map _ (match(oZ (A y) != Δ f) with|true=>Δ (y,f)|false=>_)=_;rw[this];cases g != f<;>rfl
section
variable {fs:Æ}{A:Str->D}{H V:D}(q:er H=H)(m:er V=V){j:Int}(lf:∀x,il (A x)=Θ)
include q m lf in
theorem Hg {k:Nat}{y f g:Str}{t:D}(F:A y=.t [.s g,t]){u L:Æ}(e:ba T k 70 [H,.i j,V,.s y,.K Ξ (kT u) (u.map A)]=.ok (.t [A y,.K Ξ (kT L) (L.map A)]))(h a b:Ã) :
  turn (ba T k) (.t [.n 5,.n 6]) tU (pD (y,f)) [Δ H,Δ (.i j),Δ V,h,Δ (.K Θ (kT u) (u.map A)),a,b]=if(g != f)=Θ then .ok (.R (.s y) (kT L) (L.map A)) else .ok (.n [Δ H,Δ (.i j),Δ V,h,Δ (.K Θ (kT L) (L.map A)),Δ (.s y),Δ (.s f)]):=by
 let C:=lP lf u;let p:=lP lf L;rw[F]at e;generalize u.map A=W,L.map A=w,kT u=K,kT L=l at *;let fz:(LZ (ij [.v 0,.v 1,.v 2,.v 5]) [Δ H,Δ (.i j),Δ V,h,Δ (.K Θ K W),Δ (.s y),Δ (.s f)]).set 4 (Δ (.K Θ l w))=[Δ H,Δ (.i j),Δ V,h,Δ (.K Θ l w),Δ (.s y),Δ (.s f)]:=by show [Δ (er H),Δ (.i j),Δ (er V),h,Δ (.K Θ l w),Δ (.s y),Δ (.s f)]=_;rw[q,m]
 let E:=DA (cl:=ba T k) (g:=[Δ H,Δ (.i j),Δ V,h,Δ (.K Θ K W),Δ (.s y),Δ (.s f)]) (f:=70) (E:=[.v 0,.v 1,.v 2,.v 5]) (i:=4) (k:=.c (.i 0)) (e:=.v 6) (a:=[.N 4 (.v 5)]) (b:=[]) (ks:=K) (vs:=W) (h:=[H,.i j,V,.s y]) (d:=.t [.s g,t]) (c:=l) (v:=w) (x:=.s g) (y:=.i 0) (z:=.s f) (r:=g != f) rfl C rfl (by
  show ba T k 70 [er H,.i j,er V,.s y,.K Ξ K W]=_
  rw[q,m];exact e) p (by rw[fz];rfl) rfl (by rw[fz];rfl) rfl
 rw[fz]at E;unfold tU pD;cases B:(g != f) with
 |true=>rw[B,e_ rfl]at E;simp![ie,E,p]
 |false=>rw[B,d_ p_]at E;simp![ie,E]
include q m lf in
theorem BF {k:Nat}(N:Ã):∀(l:Ps) (u:Æ) (a b:Ã),(∀p∈l,Once H V j fs A k p.1/\∃g t,A p.1=.t [.s g,t])->Tr fs u->
  (∀y,kr A l=Δ y->∃L,Tr fs L/\forM (turn (ba T k) (.t [.n 5,.n 6]) tU) (l.map pD) [Δ H,Δ (.i j),Δ V,N,Δ (.K Θ (kT u) (u.map A)),a,b]=.ok (.R (.s y) (kT L) (L.map A)))/\
  (kr A l=Φ->∃L F C,Tr fs L/\forM (turn (ba T k) (.t [.n 5,.n 6]) tU) (l.map pD) [Δ H,Δ (.i j),Δ V,N,Δ (.K Θ (kT u) (u.map A)),a,b]=.ok (.n [Δ H,Δ (.i j),Δ V,N,Δ (.K Θ (kT L) (L.map A)),F,C]))
 |[],u,a,b,_,t=>⟨λy h=>(by cases h),λ_=>⟨u,a,b,t,rfl⟩⟩
 | (y,f)::l,u,a,b,h,t=>by
  let⟨w,g,G,r⟩:=h (y,f) (.head _);let⟨Y,e,B⟩:=w u t;let E:=Hg q m lf (f:=f) r B N a b;rw[a_,dt,E,xC r];cases g != f with
  |true=>exact⟨λz c=>(by cases c;exact⟨Y,e,rfl⟩),λc=>(by cases c)⟩
  |false=>let I:=BF N l Y (Δ (.s y)) (Δ (.s f)) (λp v=>h p (.tail _ v)) e;exact I
include q m lf in
theorem JT (k:Nat)(l:Ps)(u:Æ)(h:∀p∈l,Once H V j fs A k p.1/\∃g t,A p.1=.t [.s g,t])(t:Tr fs u) :
  ∃L,Tr fs L/\ba T (k+1) 68 [H,.i j,V,.l Ξ (l.map pD),.K Ξ (kT u) (u.map A)]=.ok (.t [Sf (kr A l),.K Ξ (kT L) (L.map A)]):=by
 let c:=BF (k:=k) q m lf (Δ (.l Ξ (l.map pD))) l u Φ Φ h t;let go:∀W:D,ba T (k+1) 68 [H,.i j,V,.l Ξ (l.map pD),W]=_:=λW=>goI (show T 68=Δ Uo from rfl) (show Uo.io=Θ from rfl) (show Uo.np=5 from rfl) (show Uo.G.N.length=7 from rfl) (show Uo.body=YI from rfl) rfl;let el:=sW l;cases b:kr A l with
 |some y=>let⟨L,a,e⟩:=c.1 y b;refine⟨L,a,?_⟩;rw[go];unfold YI;show KZ (iz _ _ [Δ H,Δ (.i j),Δ V,Δ (.l Ξ (l.map pD)),Δ (.K Θ (kT u) (u.map A)),Φ,Φ]) _=_;generalize l.map pD=N,tU=f at *;simp![el,e,du];rfl
 |none=>let⟨L,r,B,a,e⟩:=c.2 b;let n:=lP lf L;refine⟨L,a,?_⟩;rw[go];unfold YI;show KZ (iz _ _ [Δ H,Δ (.i j),Δ V,Δ (.l Ξ (l.map pD)),Δ (.K Θ (kT u) (u.map A)),Φ,Φ]) _=_;generalize l.map pD=N,tU=f at *;simp![el,e,du,n];rfl
end
section
variable {fs:Æ}{A:Str->D}{H V:D}(u:er H=H)(r:er V=V){a:Int}(lf:∀x,il (A x)=Θ)
include u r lf in
theorem KI (n:Nat){q:Sw}{x:Str}{h:Option Str}{f:Str}{i:Int}{G:D}(J:ba T (n+5) 66 [H,.s x]=.ok (eD q))(k:ba T (n+5) 67 [H,V,.s x]=.ok (Sf h))(x0:iw H (.i 0)=.ok G)(eG:er G=G)(e4:ba T (n+5) 42 [G,q.d,.i a,V]=.ok (.t [.s f,.i i]))(hn:∀p∈q.nd,Once H V a fs A (n+4) p.1/\∃g t,A p.1=.t [.s g,t])(U:Æ)(t:Tr fs U) :
  ∃e,Tr fs e/\ba T (n+6) 69 [H,.i a,V,.s x,.K Ξ (kT U) (U.map A)]=.ok (.t [uJ A h f i q,.K Ξ (kT e) (e.map A)]):=by
 let z:=Bu q;let B:=Bv q;let F:iw (eD q) (.i 0)=.ok q.d:=rfl;let w:iw (eD q) (.i 1)=.ok (.l Ξ (q.nd.map pD)):=rfl;let m:iw (eD q) (.i 2)=.ok (.b q.st):=rfl;let I:iw q.d (.i 1)=.ok (.s q.rest):=rfl;let X:iw q.d (.i 2)=.ok (.l Ξ (q.rs.map Rl.d)):=rfl;let le:il (eD q)=Ξ:=rfl;let ls:il q.d=Ξ:=rfl;let kp:∀O:Ev,iE (.i (.v 5) (.c (.i 0))) q.d O=(q.d,LZ [5] O):=λO=>by show(er q.d,_)=_;rw[z];rfl
 let Q:=lP lf U;let go:∀W:D,ba T (n+6) 69 [H,.i a,V,.s x,W]=_:=λW=>goI (show T 69=Δ Uq from rfl) (show Uq.io=Θ from rfl) (show Uq.np=5 from rfl) (show Uq.G.N.length=10 from rfl) (show Uq.body=Xg from rfl) rfl;unfold uJ;cases L8:q.st with
 |true=>refine⟨U,t,?_⟩;rw[go];unfold Xg;rw[L8]at m;show KZ (iz _ _ [Δ H,Δ (.i a),Δ V,Δ (.s x),Δ (.K Θ (kT U) (U.map A)),Φ,Φ,Φ,Φ,Φ]) _=_;generalize eD q=E,q.d=S,Yu=tk at *;simp![J,u,r,z,B,F,w,m,I,le,ls,kp,Q,du]
 |false=>
  rw[L8]at m;rw[d_ p_];cases h with
  |some y=>refine⟨U,t,?_⟩;rw[go];unfold Xg;show KZ (iz _ _ [Δ H,Δ (.i a),Δ V,Δ (.s x),Δ (.K Θ (kT U) (U.map A)),Φ,Φ,Φ,Φ,Φ]) _=_;let k:ba T (n+5) 67 [H,V,.s x]=.ok (.s y):=k;generalize eD q=E,q.d=S,Yu=tk at *;simp![J,k,u,r,z,B,F,w,m,I,le,ls,kp,Q,du]
  |none=>
   let k:ba T (n+5) 67 [H,V,.s x]=.ok .L:=k;let⟨e,t',e3⟩:=JT u r lf (n+4) q.nd U hn t;let P:=lP lf e;refine⟨e,t',?_⟩;rw[go];unfold Xg;show KZ (iz _ _ [Δ H,Δ (.i a),Δ V,Δ (.s x),Δ (.K Θ (kT U) (U.map A)),Φ,Φ,Φ,Φ,Φ]) _=_;let lr:(q.rs.map Rl.d).length=q.rs.length:=i_ _;generalize eD q=E,q.d=S,q.rs.map Rl.d=R,U.map A=W,e.map A=M,kT U=K,kT e=N at *;let fz:((LZ (ij [.v 0,.v 1,.v 2,.i (.v 5) (.c (.i 1))]) [Δ H,Δ (.i a),Δ V,Δ (.s x),Δ (.K Θ K W),Δ E,Δ S,Δ .L,Φ,Φ]).set 4 (Δ (.K Θ N M))).set 8 (Δ (Sf (kr A q.nd)))=[Δ H,Δ (.i a),Δ V,Δ (.s x),Δ (.K Θ N M),Δ E,Δ S,Δ .L,Δ (Sf (kr A q.nd)),Φ]:=by show [Δ (er H),Δ (.i a),Δ (er V),Δ (.s x),Δ (.K Θ N M),Δ (er E),Δ S,Δ .L,Δ (Sf (kr A q.nd)),Φ]=_;rw[u,r,B]
   let el:=sW q.nd;let C:GC (ba T (n+5)) 8 68 [.v 0,.v 1,.v 2,.i (.v 5) (.c (.i 1))] 4 [Δ H,Δ (.i a),Δ V,Δ (.s x),Δ (.K Θ K W),Δ E,Δ S,Δ .L,Φ,Φ] (Δ (.K Θ K W))=.ok (.n [Δ H,Δ (.i a),Δ V,Δ (.s x),Δ (.K Θ N M),Δ E,Δ S,Δ .L,Δ (Sf (kr A q.nd)),Φ]):=by
    have:=BB (cl:=ba T (n+5)) (a:=[Δ H,Δ (.i a),Δ V,Δ (.s x),Δ (.K Θ K W),Δ E,Δ S,Δ .L,Φ,Φ]) (j:=8) (f:=68) (e:=[.v 0,.v 1,.v 2,.i (.v 5) (.c (.i 1))]) (i:=4) (b:=[H,.i a,V,.l Ξ (q.nd.map pD)]) rfl Q (by simp![w]) (by
     show ba T (n+5) 68 [er H,.i a,er V,.l Ξ (LM (q.nd.map pD)),.K Ξ K W]=_
     rw[u,r,el];exact e3) P
    rw[fz,ÿbe]at this;exact this
   generalize q.nd.map pD=NL at *;unfold Yu;cases Y:kr A q.nd with
   |some y=>rw[Y]at C;unfold Sf at C;simp![J,k,u,r,z,B,F,w,m,I,X,le,ls,kp,C,P,du]
   |none=>rw[Y]at C;unfold Sf at C;cases hb:(i == (q.rs.length:Int))<;>simp![J,k,x0,eG,e4,hb,lr,u,r,z,B,F,w,m,I,X,le,ls,kp,C,P,du]
theorem DC (U:Æ)(x:Str):(Θ != (look (kT U) (U.map A) (.inr x)).isSome) = !U.any (· == x):=by rw[uI];cases U.any (· == x)<;>rfl
theorem sY (U:Æ)(x:Str)(h:U.any (· == x)=Θ):rP (.K Θ (kT U) (U.map A)) (.s x)=.ok (A x):=by show(match look (kT U) (U.map A) (.inr x) with|some d=>Except.ok d|none=>LP)=_;rw[uI,e_ h]
theorem DD (U:Æ)(x:Str):(mf U x).any (· == x)=Θ:=by
 unfold mf;cases h:U.any (· == x) with
 |true=>exact h
 |false=>show(U++[x]).any (· == x)=Θ;rw[List.any_append];simp
include u r lf in
theorem once (n:Nat){x:Str}(y:x∈fs)(z:fs.length<=1000)(w:∀U,Tr fs U->∃L,Tr fs L/\ba T (n+6) 69 [H,.i a,V,.s x,.K Ξ (kT U) (U.map A)]=.ok (.t [A x,.K Ξ (kT L) (L.map A)])):Once H V a fs A (n+7) x:=by
 intro U t;let e:=lP lf U;let l:=lf x;let I:=DC (A:=A) U x;let go:∀W:D,ba T (n+7) 70 [H,.i a,V,.s x,W]=_:=λW=>goI (show T 70=Δ Ur from rfl) (show Ur.io=Θ from rfl) (show Ur.np=5 from rfl) (show Ur.G.N.length=5 from rfl) (show Ur.body=YJ from rfl) rfl;cases h:U.any (· == x) with
 |true=>
  rw[h]at I;let I:(Θ != (look (kT U) (U.map A) (.inr x)).isSome)=Ξ:=I;let g:=sY (A:=A) U x h;refine⟨U,t,?_⟩;rw[go];show KZ (iz _ _ [Δ H,Δ (.i a),Δ V,Δ (.s x),Δ (.K Θ (kT U) (U.map A))]) _=_;generalize A x=X,U.map A=W,kT U=K at *;let kp:∀b:Ev,iE (.m (.v 4) (.v 3)) X b=(X,b):=λb=>by unfold iE;rw[e_ l]
  unfold YJ;simp![I,g,kp,l,e,du]
 |false=>
  rw[h]at I;let I:(Θ != (look (kT U) (U.map A) (.inr x)).isSome)=Θ:=I;let⟨L,c,E⟩:=w U t;let q:=lP lf L;let j:=lP lf (mf L x);let g:=sY (A:=A) (mf L x) x (DD L x);refine⟨mf L x,c.put y,?_⟩;rw[go];show KZ (iz _ _ [Δ H,Δ (.i a),Δ V,Δ (.s x),Δ (.K Θ (kT U) (U.map A))]) _=_;let B:(kT L).length<=1000:=by unfold kT;rw[i_];have:=c.len;omega
  let p:=He x L;let P:=Hf A x L;let fz:(LZ (ij [.v 0,.v 1,.v 2,.v 3]) [Δ H,Δ (.i a),Δ V,Δ (.s x),Δ (.K Θ (kT U) (U.map A))]).set 4 (Δ (.K Θ (kT L) (L.map A)))=[Δ H,Δ (.i a),Δ V,Δ (.s x),Δ (.K Θ (kT L) (L.map A))]:=by show [Δ (er H),Δ (.i a),Δ (er V),Δ (.s x),Δ (.K Θ (kT L) (L.map A))]=_;rw[u,r]
  let C:Ec (ba T (n+6)) 4 (.v 3) 69 [.v 0,.v 1,.v 2,.v 3] [Δ H,Δ (.i a),Δ V,Δ (.s x),Δ (.K Θ (kT U) (U.map A))] (Δ (.K Θ (kT U) (U.map A)))=.ok (.n [Δ H,Δ (.i a),Δ V,Δ (.s x),Δ (.K Θ (kT (mf L x)) ((mf L x).map A))]):=by
   have:=Dz (cl:=ba T (n+6)) (b:=[Δ H,Δ (.i a),Δ V,Δ (.s x),Δ (.K Θ (kT U) (U.map A))]) (i:=4) (k:=.v 3) (f:=69) (e:=[.v 0,.v 1,.v 2,.v 3]) (g:=[H,.i a,V,.s x]) (x:=x) rfl e rfl (by
    show ba T (n+6) 69 [er H,.i a,er V,.s x,.K Ξ (kT U) (U.map A)]=_
    rw[u,r];exact E) q (by rw[fz];rfl) (by rw[l,kB ⋯];rfl)
   rw[fz,ÿbf,p,P]at this;exact this
  generalize A x=X,U.map A=W,(mf L x).map A=F,kT U=K,kT (mf L x)=G at *;let kp:∀b:Ev,iE (.m (.v 4) (.v 3)) X b=(X,b):=λb=>by unfold iE;rw[e_ l]
  unfold YJ;simp![I,g,C,kp,l,j,du]
abbrev jH (A:Str->D)(q:Sw):D:=match A q.nm with
 |.t [f,t]=>.t [.s q.nm,f,t]
 |_=>.L
include u r lf in
theorem BG {k:Nat}{q:Sw}{g:Str}{t:D}(B:A q.nm=.t [.s g,t]){U L:Æ}(e:ba T k 70 [H,.i a,V,.s q.nm,.K Ξ (kT U) (U.map A)]=.ok (.t [A q.nm,.K Ξ (kT L) (L.map A)])){b:Î}(Q:b.length<=1000)(P O p:Ã) :
  turn (ba T k) (.t [.n 5,.n 6]) Vj (wD q) [Δ H,Δ (.i a),Δ V,Δ (.K Θ (kT U) (U.map A)),Δ (.l Θ b),P,O,p]=.ok (.n [Δ H,Δ (.i a),Δ V,Δ (.K Θ (kT L) (L.map A)),Δ (.l Θ (b++[jH A q])),Δ (.s q.nm),Δ (eD q),Δ (A q.nm)]):=by
 let G:=lP lf U;let F:=lP lf L;let I:jf b.length=Θ:=kB ⋯;let J:jH A q=.t [.s q.nm,.s g,t]:=by unfold jH;rw[B]
 let lt:il t=Θ:=by let h:=lf q.nm;rw[B]at h;let h:(Θ&&(il t&&Θ))=Θ:=h;exact(l_.mp (l_.mp h).2).1
 let R:=Bv q;let M:=kJ lt;rw[B]at e ⊢;rw[J];let C:iw (.t [.s g,t]) (.i 0)=.ok (.s g):=rfl;let Y:iw (.t [.s g,t]) (.i 1)=.ok t:=rfl;let kp:∀m:Ev,iE (.i (.v 7) (.c (.i 1))) t m=(t,m):=λm=>by unfold iE;rw[e_ lt]
 let z:∀m:Ev,iE (.i (.v 7) (.c (.i 0))) (.s g) m=(.s g,m):=λm=>rfl;unfold Vj wD;generalize U.map A=W,L.map A=w,kT U=K,kT L=y,eD q=E at *;let fz:((LZ (ij [.v 0,.v 1,.v 2,.v 5]) [Δ H,Δ (.i a),Δ V,Δ (.K Θ K W),Δ (.l Θ b),Δ (.s q.nm),Δ E,p]).set 3 (Δ (.K Θ y w))).set 7 (Δ (.t [.s g,t]))=[Δ H,Δ (.i a),Δ V,Δ (.K Θ y w),Δ (.l Θ b),Δ (.s q.nm),Δ E,Δ (.t [.s g,t])]:=by show [Δ (er H),Δ (.i a),Δ (er V),Δ (.K Θ y w),Δ (.l Θ b),Δ (.s q.nm),Δ E,Δ (.t [.s g,t])]=_;rw[u,r]
 let N:GC (ba T k) 7 70 [.v 0,.v 1,.v 2,.v 5] 3 [Δ H,Δ (.i a),Δ V,Δ (.K Θ K W),Δ (.l Θ b),Δ (.s q.nm),Δ E,p] (Δ (.K Θ K W))=.ok (.n [Δ H,Δ (.i a),Δ V,Δ (.K Θ y w),Δ (.l Θ b),Δ (.s q.nm),Δ E,Δ (.t [.s g,t])]):=by
  have:=BB (cl:=ba T k) (a:=[Δ H,Δ (.i a),Δ V,Δ (.K Θ K W),Δ (.l Θ b),Δ (.s q.nm),Δ E,p]) (j:=7) (f:=70) (e:=[.v 0,.v 1,.v 2,.v 5]) (i:=3) (b:=[H,.i a,V,.s q.nm]) rfl G rfl (by
   show ba T k 70 [er H,.i a,er V,.s q.nm,.K Ξ K W]=_
   rw[u,r];exact e) F
  rw[fz,ÿbe]at this;exact this
 generalize ba T k=cl,q.nm=nm at *;simp![ie,N,C,Y,kp,z,M,I]
include u r lf in
theorem sZ {k:Nat}:∀(l:List Sw) (U:Æ) (b:Î) (f e c:Ã),(∀q∈l,Once H V a fs A k q.nm/\∃g t,A q.nm=.t [.s g,t])->Tr fs U->b.length+l.length<=1000->
  ∃L w v m,forM (turn (ba T k) (.t [.n 5,.n 6]) Vj) (l.map wD) [Δ H,Δ (.i a),Δ V,Δ (.K Θ (kT U) (U.map A)),Δ (.l Θ b),f,e,c]=.ok (.n [Δ H,Δ (.i a),Δ V,Δ (.K Θ (kT L) (L.map A)),Δ (.l Θ (b++l.map (jH A))),w,v,m])
 |[],U,b,f,e,c,_,t,_=>⟨U,f,e,c,by rw[List.map_nil,List.map_nil,Y_];rfl⟩
 |q::l,U,b,f,e,c,h,t,F=>by rw[List.length_cons]at F;let⟨C,g,O,z⟩:=h q (.head _);let⟨Y,y,I⟩:=C U t;let G:=BG u r lf z I (b:=b) ⋯ f e c;let⟨j,N,M,J,E⟩:=sZ l Y (b++[jH A q]) (Δ (.s q.nm)) (Δ (eD q)) (Δ (A q.nm)) (λp B=>h p (.tail _ B)) y (by rw[q_,V_];omega);refine⟨j,N,M,J,?_⟩;rw[a_,dt,G,a_];rw[G_,aav]at E;exact E
include u r lf in
theorem xD {k:Nat}{L:List Sw}(p:L.length<=100)(X:iw H (.i 2)=.ok (.l Ξ (L.map wD)))(h:∀q∈L,Once H V a fs A k q.nm/\∃g t,A q.nm=.t [.s g,t]):ba T (k+1) 71 [H,.i a,V]=.ok (.l Θ (L.map (jH A))):=by let⟨b,m,j,f,e⟩:=sZ u r lf L [] [] Φ Φ Φ h (Tr.nil fs) (by rw[List.length_nil];omega);let e:forM (turn (ba T k) (.t [.n 5,.n 6]) Vj) (L.map wD) [Δ H,Δ (.i a),Δ V,Δ (.K Θ [] []),Δ (.l Θ []),Φ,Φ,Φ]=.ok (.n [Δ H,Δ (.i a),Δ V,Δ (.K Θ (kT b) (b.map A)),Δ (.l Θ (L.map (jH A))),m,j,f]):=e;let E:=sX L;rw[gx 71 d71 3 8 b71 rfl];unfold b71;generalize L.map wD=v,L.map (jH A)=R,kT b=K,b.map A=W,Vj=c,ba T k=cl at *;simp![u,r,X,E,e]
end
abbrev fi (gs:List Gp)(ms:List (Str×Tn))(a m:Int)(q:Sw):Str×Int:=match told gs ms q.rest q.rs q.al a (Nm q.cs m) with
 |.t [.s f,.i i]=>(f,i)
 |_=>(q.rest,0)
def wA (gs:List Gp)(ms:List (Str×Tn))(a m:Int)(q:Sw):told gs ms q.rest q.rs q.al a (Nm q.cs m)=.t [.s (fi gs ms a m q).1,.i (fi gs ms a m q).2]:=by let⟨f,i,h⟩:=Bt gs ms q.rest q.rs q.al a (Nm q.cs m);unfold fi;rw[h]
def uK (h:∀p∈l,A p.1=B p.1):kr A l=kr B l:=by
 unfold kr
 induction l with
 |nil=>rfl
 |cons p l i=>
  rw[List.find?_cons,List.find?_cons,h p (.head _)];cases oZ (B p.1) != Δ p.2 with
  |true=>rfl
  |false=>exact i λq H=>h q (.tail _ H)
section
variable (gs:List Gp)(hs:List Ho)(L:List Sw)(ms:List (Str×Tn))(a m:Int)
abbrev Vp (A:Str->D)(q:Sw):D:=uJ A (held hs q.nm m) (fi gs ms a m q).1 (fi gs ms a m q).2 q
abbrev An:Nat->Str->D
 |0,_=>.t [.s "",.L]
 |k+1,x=>match Ru L x with
  |some q=>Vp gs hs ms a m (An k) q
  |none=>.t [.s "",.L]
theorem mh:∀(k:Nat) (x:Str),∃g t,An gs hs L ms a m k x=.t [.s g,t]/\il t=Θ/\pl 2 t=Θ
 |0,x=>⟨_,_,rfl,rfl,rfl⟩
 |k+1,x=>by
  unfold An;cases Ru L x with
  |some q=>exact DB _ _ _ _ _
  |none=>exact⟨_,_,rfl,rfl,rfl⟩
theorem Ez (k:Nat)(x:Str):il (An gs hs L ms a m k x)=Θ:=by let⟨g,t,e,h,_⟩:=mh gs hs L ms a m k x;rw[e];show(Θ&&(il t&&Θ))=Θ;rw[h];rfl
variable {gs hs L}{rk:Str->Nat}(ok:O6 gs hs L rk)
include ok in
theorem qY {q:Sw}(H:q∈L):Ru L q.nm=Δ q:=by
 let nd:=ok.nd;clear ok;unfold Ru;unfold Qm at nd
 induction L with
 |nil=>cases H
 |cons p L i=>
  rw[a_,F_]at nd;rw[List.find?_cons];rcases k_.mp H with rfl|H
  ·rw[beq_self_eq_true]
  ·have:(p.nm == q.nm)=Ξ:=by
    cases h:p.nm == q.nm with
    |false=>rfl
    |true=>exact absurd (List.mem_map.mpr ⟨q,H,(h_ h).symm⟩) nd.1
   rw[this];exact i H nd.2
include ok in
theorem BI:∀(k:Nat) (q:Sw),q∈L->rk q.nm < k->An gs hs L ms a m k q.nm=An gs hs L ms a m (k+1) q.nm
 |k+1,q,H,h=>by
  let e:=qY ok H;show(match Ru L q.nm with|some q=>_|none=>_)=(match Ru L q.nm with|some q=>_|none=>_)
  rw[e];show Vp gs hs ms a m _ q=Vp gs hs ms a m _ q;unfold Vp uJ;rw[uK λp b=>?_];let⟨Q,R,E⟩:=List.mem_map.mp (ok.MZ q H p b);have:=ok.rk q H p b;rw[<- E]at this ⊢;exact BI k Q R ⋯
include ok in
theorem BJ {q:Sw}(h:q∈L):An gs hs L ms a m 6 q.nm=Vp gs hs ms a m (An gs hs L ms a m 6) q:=by have:=ok.r5 q.nm;rw[BI ms a m ok 6 q h ⋯];show(match Ru L q.nm with|some q=>_|none=>_)=_;rw[qY ok h]
include ok in
theorem tf (b:0<=m)(M:m<=1000000000):∀(r:Nat) (q:Sw),q∈L->rk q.nm<=r->∀k:Nat,Once (Mh gs hs L) (Mn m ms) a (Qm L) (An gs hs L ms a m 6) (3*r+k+12) q.nm
 |r,q,H,h,k=>by
  let lf:=Ez gs hs L ms a m 6;let S:=ok.sw q H;let e:=xx (3*r+k) ok.g.ok ms S.sl q.rest q.al q.fr (λr c=>(S.wf r c).1) (by have:=S.lr;omega) a b M;rw[wA]at e;let NZ:q.nm∈Qm L:=List.mem_map.mpr ⟨q,H,rfl⟩;let l:(Qm L).length<=1000:=by show(L.map Sw.nm).length<=1000;rw[i_];have:=ok.ll;omega
  let hn:∀p∈q.nd,Once (Mh gs hs L) (Mn m ms) a (Qm L) (An gs hs L ms a m 6) (3*r+k+9) p.1/\∃g t,An gs hs L ms a m 6 p.1=.t [.s g,t]:=λp f=>by
   let⟨Q,R,y⟩:=List.mem_map.mp (ok.MZ q H p f);let c:=ok.rk q H p f;rw[<- y]at c ⊢;let⟨g,t,e,_⟩:=mh gs hs L ms a m 6 Q.nm;refine⟨?_,g,t,e⟩;cases r with
   |zero=>omega
   |succ r=>rw[show 3*(r+1)+k+9=3*r+k+12 by omega];exact tf b M r Q R ⋯ k
  let n:=BJ ms a m ok H;let w:=Bz (3*r+k+9) gs hs (qY ok H);let v:=BA (3*r+k+5) gs ok.h L q.nm b M ms;let j:=kC gs hs L;let E:=v9 m ms;let X:iw (Mh gs hs L) (.i 0)=.ok (Mk gs):=rfl;generalize Mh gs hs L=B,Mn m ms=z,An gs hs L ms a m 6=A,3*r+k=N at *;exact once j E (a:=a) lf (N+5) (x:=q.nm) NZ l λu t=>by rw[n];exact KI j E lf (N+5) w v (G:=Mk gs) X (jz gs) e hn u t
include ok in
theorem uL (b:0<=m)(M:m<=1000000000):ba T 40 71 [Mh gs hs L,.i a,Mn m ms]=.ok (.l Θ (L.map (jH (An gs hs L ms a m 6)))):=
 xD (kC gs hs L) (v9 m ms) (Ez gs hs L ms a m 6) (fs:=Qm L) (k:=39) (by have:=ok.ll;omega) rfl λq h=>⟨tf ms a m ok b M 5 q h (ok.r5 q.nm) 12,by
  let⟨g,t,e,_⟩:=mh gs hs L ms a m 6 q.nm
  exact⟨g,t,e⟩⟩
end
def Hh:Uy.body=bLa:=rfl
section
variable {H V:D}(w:er H=H)(u:er V=V){j m:Int}(n:Nat){S:D}(v:er S=S){rest:Str}(q:iw S (.i 1)=.ok (.s rest))
include v q in
theorem DE (G:iw V (.i 0)=.ok (.i m))(L:0<=m)(J:m<=1000000000){hs:List Ho}(O:Vo hs)(x:Str)(z p k g:Ã) :
  (∀y,held hs x m=Δ y->forM (turn (ba T (n+1)) (.t [.n 7,.n 8,.n 9,.n 10]) R8) (hs.map Ho.d) [z,p,Δ V,Δ (.s x),Δ S,k,g,Φ,Φ,Φ,Φ,Φ,Φ,Φ]=.ok (.r (.t [.s rest,.t [.s "held",.s y]])))/\
  (held hs x m=Φ->∃W U R X,forM (turn (ba T (n+1)) (.t [.n 7,.n 8,.n 9,.n 10]) R8) (hs.map Ho.d) [z,p,Δ V,Δ (.s x),Δ S,k,g,Φ,Φ,Φ,Φ,Φ,Φ,Φ]=.ok (.n [z,p,Δ V,Δ (.s x),Δ S,k,g,W,U,R,X,Φ,Φ,Φ])):=by
 let l:=kO (body:=turn (ba T (n+1)) (.t [.n 7,.n 8,.n 9,.n 10]) R8) Ho.d (UM x m) (λh=>.t [.s rest,.t [.s "held",.s h.nm]]) (λF=>∃a b c d:Ã,F=[z,p,Δ V,Δ (.s x),Δ S,k,g,a,b,c,d,Φ,Φ,Φ]) hs _ ⟨Φ,Φ,Φ,Φ,rfl⟩ (by
  rintro h P _ ⟨a,b,c,d,rfl⟩;let Q:=k8 n h.sl (O.sl h P).2.1 m L J;let⟨b,N,C⟩:=Ex x h.sm;refine⟨λB=>?_,λB=>⟨[z,p,Δ V,Δ (.s x),Δ S,k,g,Δ (.s h.nm),Δ (.s (LQ h.sl)),Δ (.i h.pl),Δ (Qw h.sm),Φ,Φ,Φ],?_,_,_,_,_,rfl⟩⟩
  all_goals
   unfold UM at B;unfold R8 Ho.d;generalize Qw h.sm=M,LQ h.sl=A at *
   cases hd:decide (Nm h.sl m < h.pl)<;>cases hi:NZ x h.sm<;>rw[hd,hi]at B<;>rw[hi]at C<;>first|(cases B;done)|rcases C with⟨rfl,I⟩|⟨rfl,I⟩<;>first|(cases I;done)|simp![ie,Q,G,hd,N,I,q])
 unfold held;cases E:hs.find? (UM x m) with
 |some h=>exact⟨λy f=>(by cases f;exact l.1 h E),λf=>(by cases f)⟩
 |none=>let⟨_,e,a,b,c,d,rfl⟩:=l.2 E;exact⟨λy f=>(by cases f),λ_=>⟨a,b,c,d,e⟩⟩
include w u v q in
theorem DF {A:Str->D}(F E C B z x M:Ã){l:Ps}(hn:∀p∈l,ba T n 76 [H,.i j,V,.s p.1]=.ok (A p.1)/\∃g t,A p.1=.t [.s g,t]) :
  (∀y,kr A l=Δ y->forM (turn (ba T n) (.t [.n 11,.n 12]) R9) (l.map pD) [Δ H,Δ (.i j),Δ V,F,Δ S,E,C,B,z,x,M,Φ,Φ,Φ]=.ok (.r (.t [.s rest,.t [.s "needs",.s y]])))/\
  (kr A l=Φ->∃Y O,forM (turn (ba T n) (.t [.n 11,.n 12]) R9) (l.map pD) [Δ H,Δ (.i j),Δ V,F,Δ S,E,C,B,z,x,M,Φ,Φ,Φ]=.ok (.n [Δ H,Δ (.i j),Δ V,F,Δ S,E,C,B,z,x,M,Y,O,Φ])):=by
 let k:=kO (body:=turn (ba T n) (.t [.n 11,.n 12]) R9) pD (λp=>oZ (A p.1) != Δ p.2) (λp=>.t [.s rest,.t [.s "needs",.s p.1]]) (λL=>∃a b:Ã,L=[Δ H,Δ (.i j),Δ V,F,Δ S,E,C,B,z,x,M,a,b,Φ]) l _ ⟨Φ,Φ,rfl⟩ (by
  rintro⟨y,f⟩ N _ ⟨a,b,rfl⟩;let⟨e,g,t,J⟩:=hn _ N;rw[J]at e;let I:(oZ (A y) != Δ f)=(g != f):=by rw[J];show(Δ g != Δ f)=_;cases h:(g != f)<;>simp_all
  let X:iw (.t [.s g,t]) (.i 0)=.ok (.s g):=rfl;refine⟨λG=>?_,λG=>⟨[Δ H,Δ (.i j),Δ V,F,Δ S,E,C,B,z,x,M,Δ (.s y),Δ (.s f),Φ],?_,_,_,rfl⟩⟩
  all_goals
   let G:(!(g == f))=_:=I.symm.trans G;unfold R9 pD;generalize D.t [.s g,t]=Q at *
   simp![ie,e,w,u,X,G,q])
 unfold kr;cases I:l.find? (λp=>oZ (A p.1) != Δ p.2) with
 |some p=>exact⟨λy c=>(by cases c;exact k.1 p I),λc=>(by cases c)⟩
 |none=>let⟨_,e,a,b,rfl⟩:=k.2 I;exact⟨λy c=>(by cases c),λ_=>⟨a,b,e⟩⟩
end
section
variable {gs:List Gp}{hs:List Ho}{L:List Sw}{rk:Str->Nat}(ok:O6 gs hs L rk){ms:List (Str×Tn)}(nd:(ms.map (·.1)).Nodup)(a:Int){m:Int}(j:0<=m)(c:m<=1000000000)
include ok nd j c in
theorem JU:∀(r:Nat) (q:Sw),q∈L->rk q.nm<=r->∀k:Nat,ba T (r+4+k) 76 [Mh gs hs L,.i a,Mn m ms,.s q.nm]=.ok (An gs hs L ms a m 6 q.nm)
 |r,q,z,h,k=>by
  let B:=kC gs hs L;let eV:=v9 m ms;let O:=ok.sw q z;let w:=Hd (r+2+k) gs hs (qY ok z);let G:=Dd (r+k) ok.g nd O.sl q.rest q.al q.fr (λr C=>⟨(O.wf r C).1,by have:=(O.wf r C).2.1;omega⟩) a j c;rw[wA]at G;let hn:∀p∈q.nd,ba T (r+3+k) 76 [Mh gs hs L,.i a,Mn m ms,.s p.1]=.ok (An gs hs L ms a m 6 p.1)/\∃g t,An gs hs L ms a m 6 p.1=.t [.s g,t]:=λp Y=>by
   let⟨W,RX,e'⟩:=List.mem_map.mp (ok.MZ q z p Y);let C:=ok.rk q z p Y;rw[<- e']at C ⊢;let⟨g,t,e,_⟩:=mh gs hs L ms a m 6 W.nm;refine⟨?_,g,t,e⟩;cases r with
   |zero=>omega
   |succ r=>rw[show r+1+3+k=r+4+k by omega];exact JU r W RX ⋯ k
  rw[BJ ms a m ok z];let R:=Bu q;let lh:=DE (r+2+k) R (rest:=q.rest) rfl (V:=Mn m ms) (m:=m) rfl j c ok.h q.nm (Δ (Mh gs hs L)) (Δ (.i a)) (Δ (.l Ξ (q.nd.map pD))) (Δ (.b q.st));let ln:=λM J I N=>DF B eV (r+3+k) R (rest:=q.rest) rfl (Δ (.s q.nm)) (Δ (.l Ξ (q.nd.map pD))) (Δ (.b q.st)) M J I N hn;let st:ju (.t [.n 4,.n 5,.n 6]) (eD q) [Δ (Mh gs hs L),Δ (.i a),Δ (Mn m ms),Δ (.s q.nm),Φ,Φ,Φ,Φ,Φ,Φ,Φ,Φ,Φ,Φ]=.ok [Δ (Mh gs hs L),Δ (.i a),Δ (Mn m ms),Δ (.s q.nm),Δ q.d,Δ (.l Ξ (q.nd.map pD)),Δ (.b q.st),Φ,Φ,Φ,Φ,Φ,Φ,Φ]:=rfl;let x0:iw (Mh gs hs L) (.i 0)=.ok (Mk gs):=rfl;let X:iw (Mh gs hs L) (.i 1)=.ok (.l Ξ (hs.map Ho.d)):=rfl;let s1:iw q.d (.i 1)=.ok (.s q.rest):=rfl;let s2:iw q.d (.i 2)=.ok (.l Ξ (q.rs.map Rl.d)):=rfl;let lr:(q.rs.map Rl.d).length=q.rs.length:=i_ _;let le:il (eD q)=Ξ:=rfl;let U:=qW hs;let F:=Bv q;let ep:=sW q.nd;let eg:=jz gs;let w:ba T (r+3+k) 75 [Mh gs hs L,.s q.nm]=.ok (eD q):=by rw[show r+3+k=r+2+k+1 by omega];exact w
  let G:ba T (r+3+k) 63 [Mk gs,q.d,.i a,Mn m ms]=.ok (.t [.s (fi gs ms a m q).1,.i (fi gs ms a m q).2]):=by rw[show r+3+k=r+k+3 by omega];exact G
  let Q4:∀(P Q:D) (a0 a1 a2 a3 a4 a5 a6 M J I N S5 OJ Sh:Ã),ju (.t [.n 12,.n 13]) (.t [P,Q]) [a0,a1,a2,a3,a4,a5,a6,M,J,I,N,S5,OJ,Sh]=.ok [a0,a1,a2,a3,a4,a5,a6,M,J,I,N,S5,Δ P,Δ Q]:=λ_ _ _ _ _ _ _ _ _ _ _ _ _ _ _ _=>rfl;rw[show r+2+k+1=r+3+k by omega]at lh;rw[show r+4+k=r+3+k+1 by omega,go (show T 76=Δ Uy from rfl) (show Uy.io=Ξ from rfl) (show Uy.np=4 from rfl) (show Uy.G.N.length=14 from rfl) Hh rfl];unfold bLa Vp uJ;generalize ba T (r+3+k)=cl,Mh gs hs L=H,Mn m ms=V,eD q=E,q.d=S,q.nd.map pD=ND,hs.map Ho.d=HH,Mk gs=GD,(fi gs ms a m q).1=f,(fi gs ms a m q).2=i,q.rs.map Rl.d=RD at *;cases L8:q.st with
  |true=>rw[L8]at st;generalize R8=v,R9=u,W4=x at *;simp![w,B,F,le,st,s1]
  |false=>
   rw[L8]at st lh ln;cases hh:held hs q.nm m with
   |some y=>let lh:=lh.1 y hh;generalize R8=v,R9=u,W4=x at *;simp![w,B,F,le,st,X,U,lh]
   |none=>
    let⟨b7,b8,b9,N',lh⟩:=lh.2 hh;let ln:=ln b7 b8 b9 N';generalize An gs hs L ms a m 6=A at *;cases hl:kr A q.nd with
    |some y=>let ln:=ln.1 y hl;generalize R8=v,R9=u,W4=x at *;simp![w,B,F,le,st,X,U,lh,ep,ln]
    |none=>let⟨YW,O8,ln⟩:=ln.2 hl;generalize R8=v,R9=u at *;unfold W4;cases hb:(i == (q.rs.length:Int))<;>simp![w,B,eV,F,le,R,st,Q4,x0,X,U,lh,ep,ln,eg,G,s2,lr,hb]
end
def JV {h:Ho}(hs:∀x,h.sm=Δ x->x.length<=20):pl 13 h.d=Θ:=by
 let a:pl 12 (Qw h.sm)=Θ:=by
  cases H:h.sm with
  |none=>rfl
  |some x=>exact jG (by have:=hs x H;omega) λ_ _=>rfl
 show((Θ&&(Θ&&(Θ&&(pl 12 (Qw h.sm)&&Θ))))&&Θ)=Θ;rw[a];rfl
def KJ (h:SwOk q):pl 13 (wD q)=Θ:=by let a:=JM (S:=LQ q.cs) (rest:=q.rest) (rs:=q.rs) (by have:=h.lr;omega) h.wf (al:=q.al) (fr:=q.fr) (by have:=h.la;omega) h.lp h.lf;let H:pl 11 (.l Ξ (q.nd.map pD))=Θ:=jG (by have:=h.nd;omega) λ_ _=>rfl;show((Θ&&(((pl 11 (MQ (LQ q.cs) q.rest q.rs q.al q.fr)&&(pl 11 (.l Ξ (q.nd.map pD))&&(Θ&&Θ)))&&Θ)&&Θ))&&Θ)=Θ;rw[a,H];rfl
def Hk (ok:O6 gs hs L rk):pl 15 (Mh gs hs L)=Θ:=by let e:=JJ ok.g (by have:=ok.lg;omega);let c:pl 14 (.l Ξ (hs.map Ho.d))=Θ:=jG (by have:=ok.lh;omega) λh a=>JV (ok.h.sm h a);let b:pl 14 (.l Ξ (L.map wD))=Θ:=jG (by have:=ok.ll;omega) λq H=>KJ (ok.sw q H);show((pl 14 (Mk gs)&&(pl 14 (.l Ξ (hs.map Ho.d))&&(pl 14 (.l Ξ (L.map wD))&&Θ)))&&Θ)=Θ;rw[e,c,b];rfl
section
variable {gs:List Gp}{hs:List Ho}{L:List Sw}{rk:Str->Nat}(ok:O6 gs hs L rk)(a:Int)
theorem uM (A:Str->D)(q:Sw){g:Str}{t:D}(h:A q.nm=.t [.s g,t]):jH A q=.t [.s q.nm,.s g,t]:=by unfold jH;rw[h]
theorem DG {k:Nat}{ms:List (Str×Tn)}{m:Int}(l:List Sw):LM (l.map (jH (An gs hs L ms a m k)))=l.map (jH (An gs hs L ms a m k)):=by rw[iI,z_];refine S_ λq _=>kJ ?_;let⟨g,t,e,lt,_⟩:=mh gs hs L ms a m k q.nm;rw[uM _ q e];show(Θ&&(Θ&&(il t&&Θ)))=Θ;rw[lt];rfl
theorem DH {k:Nat}{ms:List (Str×Tn)}{m:Int}{l:List Sw}(h:l.length<=100):pl 4 (.l Ξ (l.map (jH (An gs hs L ms a m k))))=Θ:=by refine jG h λq _=>?_;let⟨g,t,e,_,pt⟩:=mh gs hs L ms a m k q.nm;rw[uM _ q e];show((Θ&&(Θ&&(pl 2 t&&Θ)))&&Θ)=Θ;rw[pt];rfl
include ok in
theorem DI {ms:List (Str×Tn)}(nd:(ms.map (·.1)).Nodup){m:Int}(r:0<=m)(f:m<=1000000000){q:Sw}(B:q∈L){R:D}(F:er R=Mn m ms){A:Î}(W:A.length<=1000)(y x v p k j h b O J M I U:Ã) :
  ∃N P:Ã,turn (ba T 40) (.t [.n 12,.n 13]) WY (wD q) [y,x,Δ (.i a),Δ (Mh gs hs L),v,p,k,j,h,b,Δ R,Δ (.l Θ A),O,J,M,I,U]=.ok (.n [y,x,Δ (.i a),Δ (Mh gs hs L),v,p,k,j,h,b,Δ R,Δ (.l Θ (A++[jH (An gs hs L ms a m 6) q])),Δ (.s q.nm),Δ (eD q),N,P,U]):=by
 let G:=kC gs hs L;let e:=JU ok nd a r f 5 q B (ok.r5 q.nm) 31;let⟨g,t,z,lt,pt⟩:=mh gs hs L ms a m 6 q.nm;let e:ba T 40 76 [Mh gs hs L,.i a,Mn m ms,.s q.nm]=_:=e;rw[uM _ q z];rw[z]at e;let C:=kJ lt;let Q:jf A.length=Θ:=kB ⋯;let ll:il (.t [.s g,t])=Θ:=by show(Θ&&(il t&&Θ))=Θ;rw[lt];rfl
 refine⟨Δ (.s g),Δ t,?_⟩;unfold WY wD;generalize ba T 40=cl,Mh gs hs L=H,Mn m ms=V,eD q=E,q.nm=nm at *;simp![ie,G,F,e,C,lt,ll,Q]
include ok in
theorem wB {ms:List (Str×Tn)}(nd:(ms.map (·.1)).Nodup){m:Int}(r:0<=m)(f:m<=1000000000){R:D}(H:er R=Mn m ms)(B z y x v k j g C:Ã):∀(l:List Sw) (A:Î) (O b e U:Ã),(∀q∈l,q∈L)->A.length+l.length<=1000->
  ∃G E F Q,forM (turn (ba T 40) (.t [.n 12,.n 13]) WY) (l.map wD) [B,z,Δ (.i a),Δ (Mh gs hs L),y,x,v,k,j,g,Δ R,Δ (.l Θ A),O,b,e,U,C]=.ok (.n [B,z,Δ (.i a),Δ (Mh gs hs L),y,x,v,k,j,g,Δ R,Δ (.l Θ (A++l.map (jH (An gs hs L ms a m 6)))),G,E,F,Q,C])
 |[],A,O,b,e,U,_,_=>⟨O,b,e,U,by rw[List.map_nil,List.map_nil,Y_];rfl⟩
 |q::l,A,O,b,e,U,h,M=>by rw[List.length_cons]at M;let⟨W,P,N⟩:=DI ok a nd r f (h q (.head _)) H (A:=A) ⋯ B z y x v k j g O b e U C;let⟨G,E,F,Q,I⟩:=wB nd r f H B z y x v k j g C l (A++[jH (An gs hs L ms a m 6) q]) (Δ (.s q.nm)) (Δ (eD q)) W P (λp J=>h p (.tail _ J)) (by rw[q_,V_];omega);refine⟨G,E,F,Q,?_⟩;rw[a_,dt,N,a_];rw[G_,aav]at I;exact I
include ok in
theorem JW {ms:List (Str×Tn)}(lm:ms.length<=100){m:Int}(r:0<=m)(f:m<=1000000000){P R:D}(F:er P=Mh gs hs L)(E:er R=Mn m ms)(y x v q p j h g C B A z N:Ã) :
  ∃(Q X U W:D),iz (ba T 40) Yw [y,x,Δ (.i a),v,q,p,j,Δ P,h,g,Δ R,Δ (.l Θ (L.map (jH (An gs hs L ms a m 6)))),C,B,A,z,N]=.ok (.n [y,x,Δ (.i a),v,q,p,j,Δ Q,h,g,Δ X,Δ U,C,B,A,z,Δ W])/\er Q=Mh gs hs L:=by
 let M:=uL ms a m ok r f;let⟨Y,e,J⟩:=copy 5 35 (JN m (ms:=ms) lm);let e:ba T 40 65 [Mn m ms]=_:=e;let el:=DG (gs:=gs) (hs:=hs) (L:=L) a (k:=6) (ms:=ms) (m:=m) L;let I:ba T 40 64 [.l Ξ (L.map (jH (An gs hs L ms a m 6))),.l Ξ (L.map (jH (An gs hs L ms a m 6)))]=.ok (.b Θ):=same 4 36 (DH a (by have:=ok.ll;omega));let O:jf (L.map (jH (An gs hs L ms a m 6))).length=Θ:=kB (by rw[i_];have:=ok.ll;omega);let G:decide ((0:Int)<=0/\(0:Int).toNat<=(L.map (jH (An gs hs L ms a m 6))).length)=Θ:=B_ ⟨ nofun,aaa _⟩;refine⟨Mh gs hs L,Mn m ms,.l Θ (L.map (jH (An gs hs L ms a m 6))),.l Θ (List.take (Int.toNat 0) (L.map (jH (An gs hs L ms a m 6)))++.t [.s "a",.s "b",.t [.s "rest"]]::List.drop (Int.toNat 0) (L.map (jH (An gs hs L ms a m 6)))),?_,kC gs hs L⟩;unfold Yw;generalize L.map (jH (An gs hs L ms a m 6))=RR,ba T 40=cl,Mh gs hs L=H,Mn m ms=V at *;simp![F,E,M,e,J,el,I,O,G]
variable (ns:È){fs:Æ}(u:fs.length<=20)(S:fs.Nodup){st:Str}(w:st.length<=100)(c:Int){m:Int}(r:0<=m)(f:m<=1000000000)
include ok u S w in
theorem JX {v:Int}(y:0<=v)(x:v<=1000000000){j:Nat}(hj:j < 4){P:D}(eP:er P=Mh gs hs L)(o:Bool)(b PQ UY I G F C g:Ã) :
  ∃(Q:D) (q N Nn Qy NH Pc p:Ã),iz (ba T 40) WZ [Δ (.l Ξ (ns.map .i)),b,Δ (.i a),Δ (Mh gs hs L),Δ (.l o (fs.map .s)),Δ (.s st),Δ (.i c),Δ P,Δ (.i (j:Nat)),Δ (.i v),PQ,UY,I,G,F,C,g]=.ok (.n [Δ (.l Ξ (ns.map .i)),b,Δ (.i a),Δ (Mh gs hs L),Δ (.l Ξ (fs.map .s)),Δ (.s st),Δ (.i c),Δ Q,Δ (.i (j:Nat)),Δ (.i v),q,N,Nn,Qy,NH,Pc,p])/\er Q=Mh gs hs L:=by
 let Y:=iB ns;let ef:=iA fs;let⟨M,z,nd,lm⟩:=Bn 36 ns (k:=640+25*(j:Int)) ⋯ ⋯ u S w c;rw[show(36+4:Nat)=40 from rfl]at z;let E:=oV M;let A:er (.t [.i v,.l Θ (M.map MJ)])=Mn v M:=by show D.t [.i v,.l Ξ (LM (M.map MJ))]=_;rw[E];rfl
 let⟨O,B,R,J,e⟩:=wB ok a nd y x A (Δ (.l Ξ (ns.map .i))) b (Δ (.l Ξ (fs.map .s))) (Δ (.s st)) (Δ (.i c)) (Δ P) (Δ (.i (j:Nat))) (Δ (.i v)) g L [] I G F C (λ_ h=>h) (by rw[List.length_nil];have:=ok.ll;omega);let⟨Q,q,N,p,e2,eQ⟩:=JW ok a (ms:=M) ⋯ y x eP A (Δ (.l Ξ (ns.map .i))) b (Δ (Mh gs hs L)) (Δ (.l Ξ (fs.map .s))) (Δ (.s st)) (Δ (.i c)) (Δ (.i (j:Nat))) (Δ (.i v)) O B R J g;refine⟨Q,Δ q,Δ N,O,B,R,J,Δ p,?_,eQ⟩;rw[List.nil_append]at e;let X:iw (Mh gs hs L) (.i 2)=.ok (.l Ξ (L.map wD)):=rfl;let eH:=kC gs hs L;let eW:=sX L;unfold WZ;generalize L.map (jH (An gs hs L M a v 6))=RR,M.map MJ=MS,ns.map D.i=NS,fs.map D.s=FS,Mh gs hs L=H,L.map wD=LL,WY=W,Yw=U,ba T 40=cl at *;simp_all![Y,ef,z,X,eH,eW,e,e2]
include ok u S w r f in
theorem DJ {j:Nat}(hj:j < 4){P:D}(eP:er P=Mh gs hs L)(o:Bool)(Y X O U R J I G F:Ã) :
  ∃(Q:D) (c8 c9 M g N q y p x:Ã),turn (ba T 40) (.n 8) W0 (.i (j:Nat)) [Δ (.l Ξ (ns.map .i)),Δ (.i m),Δ (.i a),Δ (Mh gs hs L),Δ (.l o (fs.map .s)),Δ (.s st),Δ (.i c),Δ P,Y,X,O,U,R,J,I,G,F]=.ok (.n [Δ (.l Ξ (ns.map .i)),Δ (.i m),Δ (.i a),Δ (Mh gs hs L),Δ (.l Ξ (fs.map .s)),Δ (.s st),Δ (.i c),Δ Q,c8,c9,M,g,N,q,y,p,x])/\er Q=Mh gs hs L:=by
 let C:=iB ns;let⟨v,E,A,z⟩:=AJ 38 ns (k:=620) nofun nofun;rw[show(38+2:Nat)=40 from rfl]at E;let b:=λ(v:Int) (A:0<=v) (z:v<=1000000000)=>JX ok a ns u S w c A z hj eP o (Δ (.i m)) O U R J I G F;unfold W0;cases B:((j:Int) == 1) with
 |true=>let⟨Q,M,g,N,q,y,p,x,e,h⟩:=b v A z;refine⟨Q,Δ (.i (j:Nat)),Δ (.i v),M,g,N,q,y,p,x,?_,h⟩;generalize Mh gs hs L=H,ns.map D.i=NS,fs.map D.s=FS,WZ=W,ba T 40=cl at *;simp_all![ie,C,B,E,e]
 |false=>let⟨Q,M,g,N,q,y,p,x,e,h⟩:=b m r f;refine⟨Q,Δ (.i (j:Nat)),Δ (.i m),M,g,N,q,y,p,x,?_,h⟩;generalize Mh gs hs L=H,ns.map D.i=NS,fs.map D.s=FS,WZ=W,ba T 40=cl at *;simp_all![ie,C,B,e]
end
def hif (ns:È){gs:List Gp}{hs:List Ho}{L:List Sw}{rk:Str->Nat}(ok:O6 gs hs L rk)(S s:Ã):∃(Q:List Ho) (f:List Sw) (O:D),O6 gs Q f rk/\er O=Mh gs Q f/\il O=Ξ/\Ms (ba T 40) Yv [Δ (.l Ξ (ns.map .i)),S,s,Δ (.t [.l Θ (gs.map Gp.d),.l Θ (hs.map Ho.d),.l Θ (L.map wD)]),Φ,Φ,Φ,Φ,Φ,Φ,Φ,Φ,Φ,Φ,Φ,Φ,Φ]=.ok (.n [Δ (.l Ξ (ns.map .i)),S,s,Δ O,Φ,Φ,Φ,Φ,Φ,Φ,Φ,Φ,Φ,Φ,Φ,Φ,Φ]):=by
 let e:=iB ns;let b:=iM 39 ns 399 8 nofun nofun nofun;rw[show(39+1:Nat)=40 from rfl]at b;generalize dr ns 399 8=y at *;let E:=ma gs;unfold Yv;cases H:(y == 0) with
 |true=>
  refine⟨[],[],.t [Mk gs,.l Θ [],.l Θ []],⟨ok.g,ok.lg,⟨λ_ h=>(by cases h),λ_ h=>(by cases h)⟩, nofun,List.nodup_nil, nofun,λ_ h=>(by cases h),λ_ h=>(by cases h),λ_ h=>(by cases h),ok.r5⟩,?_,rfl,?_⟩
  ·show D.t [er (Mk gs),.l Ξ [],.l Ξ []]=_;rw[jz];rfl
  ·let kp:∀a:Ev,iE (.i (.v 3) (.c (.i 0))) (.l Θ (gs.map Gp.d)) a=(Mk gs,LZ [3] a):=λa=>by show(D.l Ξ (LM (gs.map Gp.d)),_)=_;rw[E];rfl
   let x:iw (.t [.l Θ (gs.map Gp.d),.l Θ (hs.map Ho.d),.l Θ (L.map wD)]) (.i 0)=.ok (.l Θ (gs.map Gp.d)):=rfl;generalize gs.map Gp.d=G,Mk gs=j,ns.map D.i=N,ba T 40=cl at *;generalize D.t [.l Θ G,.l Θ (hs.map Ho.d),.l Θ (L.map wD)]=g at *;simp![e,b,H,x,kp]
 |false=>
  refine⟨hs,L,.t [.l Θ (gs.map Gp.d),.l Θ (hs.map Ho.d),.l Θ (L.map wD)],ok,?_,rfl,?_⟩
  rotate_left
  ·generalize ns.map D.i=N,ba T 40=cl,D.t [.l Θ (gs.map Gp.d),.l Θ (hs.map Ho.d),.l Θ (L.map wD)]=g at *;simp![e,b,H]
  ·show D.t [.l Ξ (LM (gs.map Gp.d)),.l Ξ (LM (hs.map Ho.d)),.l Ξ (LM (L.map wD))]=_;rw[ma,qW,sX];rfl
def Hl (ns:È):ba T (40+1) 77 [.l Ξ (ns.map .i)]=.ok (.b Θ):=by
 let⟨m,e1,m0,m1⟩:=AJ 38 ns (k:=120) nofun nofun;let d1:=iM 39 ns 147 1000 nofun nofun nofun;generalize dr ns 147 1000=a at *;let⟨g,f,L0,rk,e2,w⟩:=By 34 ns m0 m1 a;let⟨h,L,O',ok,eO,lO,E⟩:=hif ns w (Δ (.i m)) (Δ (.i a));let⟨fs,e3,l3,y,_⟩:=ko 38 ns (k:=0) nofun nofun (c:=3) nofun nofun;let l3:fs.length=3:=l3;let⟨st,e4,L8⟩:=vY 38 ns (k:=130) nofun nofun;let⟨c,e5⟩:=p6 38 ns (k:=145) nofun nofun;let Y:=Hk ok;let⟨H,G,F⟩:=copy 15 25 Y;let G:ba T 40 65 [Mh g h L]=.ok H:=G;let e7:ba T 40 64 [Mh g h L,Mh g h L]=.ok (.b Θ):=same 15 25 Y;rw[show(38+2:Nat)=40 from rfl]at e1 e3 e4 e5;rw[show(39+1:Nat)=40 from rfl]at d1;rw[show(34+6:Nat)=40 from rfl]at e2;let⟨_,e8,Q,o,p,C,M,r,N,q,v,P,u,rfl,B⟩:=jl (its:=iQ 0 3) (a:=[Δ (.l Ξ (ns.map .i)),Δ (.i m),Δ (.i a),Δ (Mh g h L),Δ (.l Θ (fs.map .s)),Δ (.s st),Δ (.i c),Δ H,Φ,Φ,Φ,Φ,Φ,Φ,Φ,Φ,Φ]) (body:=turn (ba T 40) (.n 8) W0)
  (λj τ=>∃(Q:D) (o:Bool) (p C M r N q v P u:Ã),τ=[Δ (.l Ξ (ns.map .i)),Δ (.i m),Δ (.i a),Δ (Mh g h L),Δ (.l o (fs.map .s)),Δ (.s st),Δ (.i c),Δ Q,p,C,M,r,N,q,v,P,u]/\er Q=Mh g h L)
  ⟨H,Θ,Φ,Φ,Φ,Φ,Φ,Φ,Φ,Φ,Φ,rfl,F⟩ (by
   rintro j x _ hx ⟨Q,o,p,C,M,r,N,q,v,P,u,rfl,B⟩;let⟨hj,rfl⟩:=oY hx;let⟨Q',d8,d9,X,W,U,S,R,J,I,e,A⟩:=DJ ok a ns (fs:=fs) ⋯ y L8 c m0 m1 (j:=j) ⋯ B o p C M r N q v P u
   exact⟨_,e,Q',Ξ,d8,d9,X,W,U,S,R,J,I,rfl,A⟩)
 let ei:=iB ns;let eD:=kC g h L;let lH:il H=Ξ:=by
  cases z:il H with
  |false=>rfl
  |true=>have:H=Mh g h L:=(kJ z).symm.trans F;rw[this]at z;cases z
 let l0:il (.t [.l Θ (g.map Gp.d),.l Θ (f.map Ho.d),.l Θ (L0.map wD)])=Ξ:=rfl;rw[gx 77 YQ 1 17 b77 rfl];unfold b77;generalize D.t [.l Θ (g.map Gp.d),.l Θ (f.map Ho.d),.l Θ (L0.map wD)]=O,Mh g h L=HD,ns.map D.i=NS,fs.map D.s=FS,W0=tlw,Yv=aiQ,ba T 40=cl at *;simp_all![ei,e1,d1,e2,l0,E,eO,lO,e3,e4,e5,eD,G,lH,F,e8,B,e7]
def holds (ns:È)(h:ns.length<=63):ba T (40+1) GJ [.l Ξ (ns.map .i)]=.ok (.b Θ):=Hl ns
end Law
structure PySem.W.Fast:Prop where
 (tw6580118894302568795 tw6595417714181372635 tw10858521757936374646 tw14052074269519117283 tw2668809372676858310 tw516689607666801724 tw9938554571913724336 tw6879784444364116467 tw3840158278290042762 tw10660626069089446054 tw14564440234037864747 tw10321454383534986500 tw819251304796727437 tw13187663968418745240 tw12096796630154078879 tw4636358164772633216 tw3350323374374205479 tw9802720693145098011 tw5641360404793839108 tw3757624935131090807 tw7738628563896505219 tw12435002180627165536 tw9063292016841919841 tw16011146022680952873 tw13172219845003919644 tw5811928420605078168 tw6976174446117039460 tw8191932634281940377 tw8924950832903043421 tw5379180912496830595 tw16442324069424478435 tw2320224773933846293 tw8344984640023321801 tw16144455145733650857 tw9494976823809551503 tw13605881655341308951 tw7050800705337703027 tw7198369203025809764 tw1257035919315498704 tw16339457933510816306 tw10997917415942163935 tw13013051068966531299 tw1656973740672089083 tw15291827572068327996 tw13663368921983190667 tw8909543236360834181 tw3407657614827719650 tw6995996864244907055 tw6027775885075477733 tw6532467573211886500 tw4813986555325897286 tw4968053648876055381 tw5237304429188844707 tw1704784465734829733 tw11828699072896020594 tw15197371338393062953 tw9226596084367496566 tw981200498373844724 tw17570627181679702060 tw16461020475146046662 tw4301585764801078055 tw6565311145101220018 tw16104728251901128760 tw15439317333440297688 tw5464058324951457680 tw15802663276415848814 tw4571980262115968551 tw16472039220409724696 tw16804242501266626702 tw9647436581802857333 tw6785757587726992861 tw16723264419510743280 tw2725864145498347201 tw8467935221437394502 tw14890414069970598334 tw809686419873801711 tw16572054872202042423 tw5431494474496466848 tw8821754366900537207 tw15162903712043462592 tw7014069534496222580 tw1789688828868096008 tw7510361554220769149 tw16271749805215819325 tw17307093285117267545 tw5103612923162733993 tw2789268455418531388 tw6995081613616621886 tw12067480024589368165 tw12523402189535543259 tw9310569733751253824 tw5578788783266525891 tw3132841329795107711 tw4826179326958435430 tw14505973822843545210 tw95368345121201371 tw17761756615362992125 tw81945666774862819 tw7556432630838216048 tw12215603820609054773 tw12823038058626974011 tw4184925416343965650 tw509076443878534089 tw10271533234753021215 tw10381068521749141884 tw10879392080174099032 tw1117652820626826806 tw10467306447088796294 tw9775712204218239514 tw9376468801255189975 tw6109285408306222731 tw9491554858186664473 tw16757374936779613565 tw907971264917936270 tw17608217356440467961 tw4656866446735004764 tw12437204238886621675 tw5627657822662268846 tw16535246731609181608 tw2894173715689669160 tw8617056431338261644 tw2136389318007352052 tw4834877264208127550 tw12816252834277662136 tw1534403046527116180 tw8332266786028995632 tw7891948530787491762 tw17345076090408011794 tw8241290343920687035 tw8527272488425908971 tw6063125891727166393 tw4817264508599689783 tw8673609457598826224 tw17498809825142256530 tw14233964233107550146 tw11882880919579929184 tw14589998444682953429 tw11493248702087499462 tw12250705843598275457 tw3642283647423926951 tw11700465991779119599 tw10510498222847777209 tw16775977010803969629 tw13914255202300884005 tw13627164762404733717 tw959622983739729886 tw10349194711230773107 tw11898835054104593498 tw599933017208445983 tw15407619748212196108 tw3294241300236322968 tw4828411644509005711 tw11236289106293268802 tw8739209083223766541 tw7848120081395216980 tw4209327571722471621 tw6221150677124741086 tw9265611232063322918 tw15822131450235171463 tw2419537363484172911 tw9485281078245713866 tw5270474342709141782 tw8998668416743749768 tw5884057396271135133 tw16368147967413536428 tw11852336945509351150 tw8806263990171751632 tw2976529716458574367 tw5926851665483711469 tw5562369016343977502 tw16862863360398082783 tw5727853852787166168 tw15443706503838881156 tw16616648405519379901 tw14360867214981694590 tw1655870081879634703 tw13346069825999900573 tw4812537622134247534 tw9378892507683918258 tw15653451668284977051 tw361681736542238834 tw7315680480093759590 tw5471070155473847718 tw4783884872469390182 tw16647218816017238990 tw15165565325065871478 tw6673232363866771739 tw181506379252914200 tw14648338051580650819 tw10997492241037389556 tw15777413784824568754 tw11549751582215306728 tw3601806050495504588 tw9891896925338035850 tw14108289540630101305 tw12038923124417945675 tw6594235358245923467 tw4268845055456841713 tw14697730503973564404 tw12678500101590688629 tw7254348122910786775 tw4258413373520774436 tw13967604136893566801 tw6205546555066187143 tw5714585400493635065 tw3231184168451654856 tw13290553930133970971 tw982185856327514957 tw5479112637222726811 tw3371947277186694975 tw16432523227728338383 tw15257122554553875288 tw14105231887330490363 tw12057008162087059147 tw11701643968010177305 tw8495398190976970175 tw8152484547923691320 tw4762291275048722527 tw4695447736455525830 tw18057932784652924361 tw16221129371520272676 tw15404725727194656532 tw1494226924014351985 tw13879421316545075782 tw12069029159799631781 tw11625366681045876243 tw89568510836323369 tw8472641174307553665 tw5719799359508260499 tw5619185674507920289 tw4622503657526641202 tw4185054826994129639 tw4080943076484334689 tw3894789625317987500 tw1898166332781327275 tw16524648110931178628 tw14862430505177048398 tw14205610507761501378 tw13954538215959793517 tw13159069783572817107 tw12803753630863939552 tw12487424213697854570 tw11603305905908124516 tw11013896863612611014 tw1091761842652359567 tw10001254779899480430 tw7656253654882200121 tw6865841066131976629 tw4850164704646580629 tw464442627141505883 tw18144589832703437870 tw8923211487261575187 tw4747840888561494858 tw5936545421664489947 tw7057720711370245222 tw18413648023973358503 tw15910435047823036737 tw436616095975927302 tw10189418533388081609 tw5667994744771508930 tw5123256322426397773 tw7294704574218454525 tw11146317785932198953 tw10617523021531419431 tw7802815162970155736 tw17107289664551913713 tw14835484562242921515 tw13534951609903149207 tw1234794758362130391 tw11985038670152290143 tw10649178419295191828 tw992702144623965650 tw9779283146787380999 tw9438633935191063066 tw8908616460495962101 tw8695926660344361373 tw8279910671646581375 tw8222281991155013254 tw8218939995194024465 tw759216446371695911 tw7530522699274878146 tw7429232795174621046 tw7178790771979888312 tw7084900133969792845 tw6961575177601575438 tw6647398278456566230 tw6438566845371250198 tw6436085712901819655 tw6398286813569233769 tw6267063228799616260 tw6223613952137567692 tw619574416252114480 tw579011222635923504 tw5564561882567353924 tw5373733129238731483 tw4869702288555177121 tw4715016213836116419 tw4439322385188184648 tw442873040039988623 tw4105412152420832353 tw3983036114138829691 tw391262779103481486 tw3889124066281559777 tw3708152142424723526 tw3687933256613867751 tw3437370898742552314 tw3437075648517798103 tw2894221278459339500 tw2651267565031932900 tw2617172264752293726 tw2408643598670939672 tw2399779664481796944 tw1869690621234510742 tw18013004481422586396 tw18007722249331528477 tw17997418920207328115 tw17980354952242653939 tw17570851632264740271 tw17024128219109230283 tw16757118534411506363 tw16572066795193354408 tw16499630938662940830 tw16385360670194070877 tw16055893685190763688 tw16040149686594680177 tw15789852030407413990 tw15782593223162008567 tw15670151863617370444 tw1541332947007806476 tw15003659539679816389 tw14841781604745482839 tw14835495506984475806 tw14779143424018611356 tw14545974021141471456 tw14407565146767842607 tw14381958539432240757 tw143295660309494408 tw14234238989089722026 tw14178898219009057875 tw13971575048701330022 tw13725761824462769167 tw13689081223639058836 tw13549667369281635542 tw1350691260956617250 tw13267387168998105734 tw1323615155485444499 tw13106057036935628228 tw13078648000600556932 tw13073661503715176366 tw12980288210978145470 tw12710917106796943618 tw12570819138620269109 tw12267199366174357789 tw11875549551292723684 tw11852532270897064680 tw11833621953959535926 tw11627529634597333970 tw11304905852471517434 tw1118148599414808216 tw10849006537541087749 tw10809225948901877906 tw10781577026282944785 tw10693376001963268902 tw1020596023156373803 tw10158181212188970157 tw10085774732927507544 tw10017078248597959130:True)
open PySem PySem.W PyProof.Rows
set_option maxRecDepth 100000 in
set_option maxHeartbeats 0 in
theorem PySem.Challenge.cw_flagroll_k41_all_answers_holds : PySem.Challenge.rw_flagroll_k41_all_answers.Holds := by
  w_on; o_law; k_head; (case hw =>w_witness2)
  k_fill
  refine L2.Ac (l :=PySem.Challenge.rw_flagroll_k41_all_answers) (T :=Law.T) (n :=40) (f :=Law.GJ) (x :=Law.CY) rfl rfl ⟨fun _ =>rfl,by decide,by decide⟩ (fun w h Y =>PySem.W.kIn_of Y) ?F Law.holds
  case F =>
    intro w mg fa h KX G hmg
    refine' Law.all_mk KX G hmg (Law.dfo Law.c24 rfl (fun _ _ _ _ _ _ =>Law.ln1 fun _ =>rfl) KX G ?a24 ?l24 ?e24 ?k24) (Law.dfo Law.c25 rfl (fun _ _ _ _ _ _ =>Law.ln4 fun _ _ _ _ =>rfl) KX G ?a25 ?l25 ?e25 ?k25) (Law.dfo Law.c32 rfl (fun _ _ _ _ _ _ =>Law.ln2 fun _ _ =>rfl) KX G ?a32 ?l32 ?e32 ?k32) (Law.dfo Law.c33 rfl (fun _ _ _ _ _ _ =>Law.ln3 fun _ _ _ =>rfl) KX G ?a33 ?l33 ?e33 ?k33) (Law.dfo Law.c34 rfl (fun _ _ _ _ _ _ =>Law.ln3 fun _ _ _ =>rfl) KX G ?a34 ?l34 ?e34 ?k34) (Law.dfo Law.c35 rfl (fun _ _ _ _ _ _ =>Law.ln3 fun _ _ _ =>rfl) KX G ?a35 ?l35 ?e35 ?k35) (Law.dfo Law.c36 rfl (fun _ _ _ _ _ _ =>Law.ln3 fun _ _ _ =>rfl) KX G ?a36 ?l36 ?e36 ?k36) (Law.dfo Law.c37 rfl (fun _ _ _ _ _ _ =>Law.ln3 fun _ _ _ =>rfl) KX G ?a37 ?l37 ?e37 ?k37) (Law.dfo Law.c26 rfl (fun _ _ _ _ _ _ =>Law.ln1 fun _ =>rfl) KX G ?a26 ?l26 ?e26 ?k26) (Law.dfo Law.c27 rfl (fun _ _ _ _ _ _ =>Law.ln3 fun _ _ _ =>rfl) KX G ?a27 ?l27 ?e27 ?k27) (Law.dfo Law.c28 rfl (fun _ _ _ _ _ _ =>Law.ln1 fun _ =>rfl) KX G ?a28 ?l28 ?e28 ?k28) (Law.dfo Law.c29 rfl (fun _ _ _ _ _ _ =>Law.ln2 fun _ _ =>rfl) KX G ?a29 ?l29 ?e29 ?k29) (Law.dfo Law.c30 rfl (fun _ _ _ _ _ _ =>Law.ln2 fun _ _ =>rfl) KX G ?a30 ?l30 ?e30 ?k30) (Law.dfo Law.c31 rfl (fun _ _ _ _ _ _ =>Law.ln2 fun _ _ =>rfl) KX G ?a31 ?l31 ?e31 ?k31) (Law.dfo Law.c38 rfl (fun _ _ _ _ _ _ =>Law.ln2 fun _ _ =>rfl) KX G ?a38 ?l38 ?e38 ?k38) (Law.dfo Law.c39 rfl (fun _ _ _ _ _ _ =>Law.ln4 fun _ _ _ _ =>rfl) KX G ?a39 ?l39 ?e39 ?k39) (Law.dfo Law.c40 rfl (fun _ _ _ _ _ _ =>Law.ln3 fun _ _ _ =>rfl) KX G ?a40 ?l40 ?e40 ?k40) (Law.dfo Law.c41 rfl (fun _ _ _ _ _ _ =>Law.ln4 fun _ _ _ _ =>rfl) KX G ?a41 ?l41 ?e41 ?k41) (Law.dfo Law.c42 rfl (fun _ _ _ _ _ _ =>Law.ln4 fun _ _ _ _ =>rfl) KX G ?a42 ?l42 ?e42 ?k42) (Law.dfo Law.c66 rfl (fun _ _ _ _ _ _ =>Law.ln2 fun _ _ =>rfl) KX G ?a66 ?l66 ?e66 ?k66) (Law.dfo Law.c67 rfl (fun _ _ _ _ _ _ =>Law.ln3 fun _ _ _ =>rfl) KX G ?a67 ?l67 ?e67 ?k67) (Law.GI Law.c68 rfl (fun _ _ _ _ _ _ =>Law.ln5 fun _ _ _ _ _ =>rfl) KX G ?a68 ?l68 ?e68 ?k68) (Law.GI Law.c69 rfl (fun _ _ _ _ _ _ =>Law.ln5 fun _ _ _ _ _ =>rfl) KX G ?a69 ?l69 ?e69 ?k69) (Law.GI Law.c70 rfl (fun _ _ _ _ _ _ =>Law.ln5 fun _ _ _ _ _ =>rfl) KX G ?a70 ?l70 ?e70 ?k70) (Law.dfo Law.c71 rfl (fun _ _ _ _ _ _ =>Law.ln3 fun _ _ _ =>rfl) KX G ?a71 ?l71 ?e71 ?k71) (Law.dfo Law.c43 rfl (fun _ _ _ _ _ _ =>Law.ln3 fun _ _ _ =>rfl) KX G ?a43 ?l43 ?e43 ?k43) (Law.dfo Law.c44 rfl (fun _ _ _ _ _ _ =>Law.ln3 fun _ _ _ =>rfl) KX G ?a44 ?l44 ?e44 ?k44) (Law.dfo Law.c45 rfl (fun _ _ _ _ _ _ =>Law.ln2 fun _ _ =>rfl) KX G ?a45 ?l45 ?e45 ?k45) (Law.dfo Law.c46 rfl (fun _ _ _ _ _ _ =>Law.ln2 fun _ _ =>rfl) KX G ?a46 ?l46 ?e46 ?k46) (Law.dfo Law.c47 rfl (fun _ _ _ _ _ _ =>Law.ln2 fun _ _ =>rfl) KX G ?a47 ?l47 ?e47 ?k47) (Law.dfo Law.c48 rfl (fun _ _ _ _ _ _ =>Law.ln4 fun _ _ _ _ =>rfl) KX G ?a48 ?l48 ?e48 ?k48) (Law.dfo Law.c49 rfl (fun _ _ _ _ _ _ =>Law.ln2 fun _ _ =>rfl) KX G ?a49 ?l49 ?e49 ?k49) (Law.dfo Law.c50 rfl (fun _ _ _ _ _ _ =>Law.ln3 fun _ _ _ =>rfl) KX G ?a50 ?l50 ?e50 ?k50) (Law.dfo Law.c51 rfl (fun _ _ _ _ _ _ =>Law.ln2 fun _ _ =>rfl) KX G ?a51 ?l51 ?e51 ?k51) (Law.dfo Law.c52 rfl (fun _ _ _ _ _ _ =>Law.ln3 fun _ _ _ =>rfl) KX G ?a52 ?l52 ?e52 ?k52) (Law.dfo Law.c53 rfl (fun _ _ _ _ _ _ =>Law.ln4 fun _ _ _ _ =>rfl) KX G ?a53 ?l53 ?e53 ?k53) (Law.dfo Law.c54 rfl (fun _ _ _ _ _ _ =>Law.ln6 fun _ _ _ _ _ _ =>rfl) KX G ?a54 ?l54 ?e54 ?k54) (Law.dfo Law.c55 rfl (fun _ _ _ _ _ _ =>Law.ln5 fun _ _ _ _ _ =>rfl) KX G ?a55 ?l55 ?e55 ?k55) (Law.dfo Law.c56 rfl (fun _ _ _ _ _ _ =>Law.ln4 fun _ _ _ _ =>rfl) KX G ?a56 ?l56 ?e56 ?k56) (Law.dfo Law.c57 rfl (fun _ _ _ _ _ _ =>Law.ln5 fun _ _ _ _ _ =>rfl) KX G ?a57 ?l57 ?e57 ?k57) (Law.dfo Law.c58 rfl (fun _ _ _ _ _ _ =>Law.ln9 fun _ _ _ _ _ _ _ _ _ =>rfl) KX G ?a58 ?l58 ?e58 ?k58) (Law.dfo Law.c59 rfl (fun _ _ _ _ _ _ =>Law.ln5 fun _ _ _ _ _ =>rfl) KX G ?a59 ?l59 ?e59 ?k59) (Law.dfo Law.c72 rfl (fun _ _ _ _ _ _ =>Law.ln6 fun _ _ _ _ _ _ =>rfl) KX G ?a72 ?l72 ?e72 ?k72) (Law.dfo Law.c73 rfl (fun _ _ _ _ _ _ =>Law.ln5 fun _ _ _ _ _ =>rfl) KX G ?a73 ?l73 ?e73 ?k73) (Law.dfo Law.c74 rfl (fun _ _ _ _ _ _ =>Law.ln3 fun _ _ _ =>rfl) KX G ?a74 ?l74 ?e74 ?k74) (Law.dfo Law.c60 rfl (fun _ _ _ _ _ _ =>Law.ln3 fun _ _ _ =>rfl) KX G ?a60 ?l60 ?e60 ?k60) (Law.dfo Law.c61 rfl (fun _ _ _ _ _ _ =>Law.ln2 fun _ _ =>rfl) KX G ?a61 ?l61 ?e61 ?k61) (Law.dfo Law.c62 rfl (fun _ _ _ _ _ _ =>Law.ln4 fun _ _ _ _ =>rfl) KX G ?a62 ?l62 ?e62 ?k62) (Law.dfo Law.c63 rfl (fun _ _ _ _ _ _ =>Law.ln4 fun _ _ _ _ =>rfl) KX G ?a63 ?l63 ?e63 ?k63) (Law.dfo Law.c75 rfl (fun _ _ _ _ _ _ =>Law.ln2 fun _ _ =>rfl) KX G ?a75 ?l75 ?e75 ?k75) (Law.dfo Law.c76 rfl (fun _ _ _ _ _ _ =>Law.ln4 fun _ _ _ _ =>rfl) KX G ?a76 ?l76 ?e76 ?k76) (Law.dfo Law.c64 rfl (fun _ _ _ _ _ _ =>Law.ln2 fun _ _ =>rfl) KX G ?a64 ?l64 ?e64 ?k64) (Law.dfo Law.c65 rfl (fun _ _ _ _ _ _ =>Law.ln1 fun _ =>rfl) KX G ?a65 ?l65 ?e65 ?k65) ?a77 ?l77 ?e77 ?k77 ?q21 ?q22 ?q23 ?z0 ?z1 ?z2 ?z3 ?z4 ?z5 ?z6 ?z7 ?z8 ?z9 ?z10 ?z11 ?z12 ?z13 ?z14 ?z15 ?z16 ?z17 ?z18 ?z19 ?z20
    (case a24|l24|e24|k24|a25|l25|e25|k25|a32|l32|e32|k32|a33|l33|e33|k33|a34|l34|e34|k34|a35|l35|e35|k35|a36|l36|e36|k36|a37|l37|e37|k37|a26|l26|e26|k26|a27|l27|e27|k27|a28|l28|e28|k28|a29|l29|e29|k29|a30|l30|e30|k30|a31|l31|e31|k31|a38|l38|e38|k38|a39|l39|e39|k39|a40|l40|e40|k40|a41|l41|e41|k41|a42|l42|e42|k42|a66|l66|e66|k66|a67|l67|e67|k67|a68|l68|e68|k68|a69|l69|e69|k69|a70|l70|e70|k70|a71|l71|e71|k71|a43|l43|e43|k43|a44|l44|e44|k44|a45|l45|e45|k45|a46|l46|e46|k46|a47|l47|e47|k47|a48|l48|e48|k48|a49|l49|e49|k49|a50|l50|e50|k50|a51|l51|e51|k51|a52|l52|e52|k52|a53|l53|e53|k53|a54|l54|e54|k54|a55|l55|e55|k55|a56|l56|e56|k56|a57|l57|e57|k57|a58|l58|e58|k58|a59|l59|e59|k59|a72|l72|e72|k72|a73|l73|e73|k73|a74|l74|e74|k74|a60|l60|e60|k60|a61|l61|e61|k61|a62|l62|e62|k62|a63|l63|e63|k63|a75|l75|e75|k75|a76|l76|e76|k76|a64|l64|e64|k64|a65|l65|e65|k65|a77|l77|e77|k77|q21|q22|q23|z0|z1|z2|z3|z4|z5|z6|z7|z8|z9|z10|z11|z12|z13|z14|z15|z16|z17|z18|z19|z20=>k_is)
#print axioms PySem.Challenge.cw_flagroll_k41_all_answers_holds
