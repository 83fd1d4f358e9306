import PyProof.Rows.All
import Wide.All
import OpenK.AllK
import Wide.FinOn
import Lean
import PyProof.EqAt
import PyProof.EqKinds
import PyProof.TupleCall
import PyProof.NeKinds
import KE.KRevIter
import KE.KSortTup
import Wide.Txt2
import PyProof.FString4
import KE.KIntText
import PyProof.ZipIter
import PyProof.TupleIter
import PyProof.WalksMore
import PyProof.Rows.SortShell
import KE.KDictSum
import PyProof.Rows.SortStr
import PyProof.Rows.SetFrom
import PyProof.DictUpdate
import KE.KDictOf
import PyProof.AttrMissSeq
import KE.KDictList
import KE.KDictIter
import PyProof.Rows.SortWalk
import PyProof.EnumMake
import PyProof.EnumFor
import PyProof.Rows.EnumRows
import KE.KIsAll
import PyProof.ExcArgsOwn
import PyProof.ExcAttrAll.ValueError
import OpenK.KDescr
import PyProof.StationsW
import OpenK.KOwn
import KE.KTryMore
import OpenK.KRaise
import PyProof.RulesDel
import PyProof.RulesAs
import PyProof.Rows.Catch
import PyProof.Rows.StrReprFit
import PySem.Challenge.RW_flagroll_k33_switch_refused
set_option genSizeOf false
set_option genInjectivity false
local macro_rules | `(∅) =>`(by decide +kernel)
local macro_rules | `(abbrev $i:declId $s:optDeclSig $v:declVal) =>`(noncomputable def $i:declId $s:optDeclSig $v:declVal)
local macro_rules | `(⋯) => `(by omega)
local macro_rules | `(nofun) => `(by decide)
open PySem.W (Frag)
def a_:=@PySem.wpAny_bind
def b_:=@List.map_cons
def c_:=@List.cons_append
def d_:=@Bool.and_eq_true
def e_:=@PySem.wpAny_pure
def f_:=@if_neg
def g_:=@LawfulBEq.eq_of_beq
def h_:=@if_pos
def i_:=@List.length_map
def j_:=@PySem.Heap.lt_size
def k_:=@List.mem_cons
def l_:=@of_decide_eq_true
def m_:=@PySem.Heap.get?_push_of_some
def n_:=@List.nodup_append
def o_:=@Nat.ne_of_lt
def p_:=@List.mem_append_left
def q_:=@Nat.le_refl
def r_:=@List.mem_append_right
def s_:=@Bool.and_eq_true_iff
def t_:=@List.mem_append
def u_:=@List.length_append
def v_:=@List.mem_singleton
def w_:=@PySem.Heap.get?_push_size
def x_:=@List.getElem?_eq_some_iff
def y_:=@decide_eq_true
def z_:=@List.all_eq_true
def A_:=@Bool.false_ne_true
def B_:=@Nat.lt_of_lt_of_le
def C_:=@List.getElem?_eq_getElem
def D_:=@List.getElem?_map
def E_:=@List.append_assoc
def F_:=@List.size_toArray
def G_:=@List.nodup_cons
def H_:=@List.mem_cons_of_mem
def I_:=@Option.some.inj
def J_:=@Bool.or_eq_true
def K_:=@List.map_map
def L_:=@PySem.wpAny_holding
def M_:=@PySem.wpAny_field
def N_:=@Nat.le_trans
def O_:=@List.not_mem_nil
def P_:=@List.append_nil
def Q_:=@List.getElem?_set_ne
def R_:=@Nat.zero_le
def S_:=@Nat.lt_irrefl
def T_:=@Array.length_toList
def U_:=@Nat.ne_of_gt
def V_:=@List.length_singleton
def W_:=@PySem.Heap.size_push
def X_:=@List.map_append
def Y_:=@List.mem_of_getElem?
def Z_:=@PySem.wpAny_seqItems
def aaa:=@PySem.wpAny_call_entry
def aab:=@List.length_take
def aac:=@PySem.wpAny_newObj_type
def aad:=@PySem.wpAny_setField_rec
def aae:=@decide_eq_false
def aaf:=@List.mem_cons_self
def aag:=@List.mem_range
def aah:=@PySem.Heap.get?_update_other
def aai:=@List.getElem_mem
def aaj:=@List.getD_eq_getElem?_getD
def aak:=@List.Perm.append_left
def aal:=@List.perm_append_comm
def aam:=@List.map_congr_left
def aan:=@List.length_drop
def aao:=@PySem.Heap.get?_update_self
def aap:=@Bool.false_eq_true
def aaq:=@PySem.wpAny_pyIter_list
def aaD:=@Nat.le_add_right
def aaE:=@List.getElem?_cons_succ
def aaF:=@List.lookup_cons
def aaG:=@List.singleton_append
def aaH:=@List.getElem?_append_right
def aaI:=@List.getElem?_append_left
def aaJ:=@PySem.wpAny_Call_Name_kw
def aaK:=@PySem.Heap.SameBut.update
def aaL:=@PyProof.Rows.callWith_type1
def aaM:=@Array.getElem?_toList
def aaN:=@PySem.Around.under_plainId
def aaO:=@List.mem_iff_getElem?
open Option renaming some → Δ
open Bool renaming true → Θ
open Bool renaming false → Ξ
open Option renaming none → Φ
open PySem renaming Value → Ψ
open PySem renaming Addr → Ω
open PySem renaming Shared → Α
open PySem renaming World → Β
open PySem renaming Program → Ε
open PySem renaming sizeLine → Ζ
open PySem renaming mainGlobals → Η
open PySem renaming Around → Ι
open PySem renaming wpAny → Κ
open PySem renaming model → Μ
open PySem renaming starEach → Ν
open PySem renaming FuncData → Ο
open PySem.Str renaming ofString → Ρ
open List renaming replicate → Τ
open PySem.NameKind renaming free → Υ
open PySem.Builtin.List renaming listExtendWith → Χ
open PySem.Builtin.SmallTypes renaming nextOf → ζ
open PySem.Builtin.SmallTypes renaming ownedTupleIsFree → η
open PySem.Value renaming ref → θ
open PySem.Obj renaming mapSeq → ι
namespace L2
def zE:type_of% @PySem.Expr.casesOn.{0}:=@PySem.Expr.casesOn.{0}
def zS:type_of% @PySem.Stmt.casesOn.{0}:=@PySem.Stmt.casesOn.{0}
def zL:type_of% @List.casesOn.{0,0}:=@List.casesOn.{0,0}
def zO:type_of% @Option.casesOn.{0,0}:=@Option.casesOn.{0,0}
def zB:type_of% @Bool.casesOn.{0}:=@Bool.casesOn.{0}
end L2
set_option maxHeartbeats 8000000
set_option Elab.async false
set_option linter.all false
set_option maxRecDepth 100000
namespace L2
open PySem PySem.Spec PyProof.Rows
inductive V where
 | JF|bl (b:Bool)|int (i:Int)|str (x:Str)|ref (a:Ω)|ty (n:String)
 deriving DecidableEq
def RelV:V->Ψ->Prop
 |.JF,u=>u=Value.none
 |.bl b,u=>u=Value.bool b
 |.int i,u=>∃t,u=Value.int i t
 |.str x,u=>∃t,u=Value.str x t
 |.ref a,u=>u=θ a
 |.ty n,u=>u=Value.type n
@[reducible]def _root_.Ï:=List Ψ
@[reducible]def _root_.Ñ:=List V
@[reducible]def Vals:Ñ->Ï->Prop:=Paired RelV
theorem Vals.length (r:Vals xs us):xs.length=us.length:=Paired.length r
theorem Vals.get:∀ {xs:Ñ}{us:Ï}{i:Nat}{x:V},Vals xs us->xs[i]? = Δ x->∃u,us[i]? = Δ u/\RelV x u
 |_,_,_,_,.nil,e=>by simp at e
 |_,_,0,_,.cons r _,e=>by simp at e;subst e;exact⟨_,rfl,r⟩
 |_,_,i+1,x,.cons _ t,e=>by obtain⟨u,h1,h2⟩:=Vals.get (i:=i) (x:=x) t (by simpa using e);exact⟨u,by simpa using h1,h2⟩
theorem Vals.set (r:RelV x u):∀ {xs:Ñ}{us:Ï} (i:Nat),Vals xs us->Vals (xs.set i x) (us.set i u)
 |_,_,_,.nil=>.nil
 |_,_,0,.cons _ t=>.cons r t
 |_,_,i+1,.cons q t=>.cons q (Vals.set r i t)
theorem Vals.append:∀ {xs ys:Ñ}{us ws:Ï},Vals xs us->Vals ys ws->Vals (xs++ys) (us++ws)
 |_,_,_,_,.nil,s=>s
 |_,_,_,_,.cons r t,s=>.cons r (Vals.append t s)
theorem Vals.take:∀ {xs:Ñ}{us:Ï} (n:Nat),Vals xs us->Vals (xs.take n) (us.take n)
 |_,_,0,_=>.nil
 |_,_,_+1,.nil=>.nil
 |_,_,n+1,.cons r t=>.cons r (Vals.take n t)
theorem Vals.drop:∀ {xs:Ñ}{us:Ï} (n:Nat),Vals xs us->Vals (xs.drop n) (us.drop n)
 |_,_,0,r=>r
 |_,_,_+1,.nil=>.nil
 |_,_,n+1,.cons _ t=>Vals.drop n t
inductive HO where
 | lst (xs:Ñ)
 | tup (xs:Ñ)
 | own (x:Ω)
 | NU (lo hi:Int)
 | JQ (o:Obj) (u:HO)
 | PK (ps:Array Ψ)
 | ext (φ:Heap->Prop)
@[reducible]def Hp:=Ω->Option HO
abbrev upd (H:Hp)(a:Ω)(o:HO):Hp:=λb=>if b=a then Δ o else H b
def il:upd H a o a=Δ o:=by unfold upd;rw[h_ rfl]
def ib (h:b≠a):upd H a o b=H b:=by unfold upd;rw[f_ h]
def iH {H:Hp}  (h:H a=Δ o)(h':H b=Φ):a≠b:=by intro e;subst e;rw[h]at h';cases h'
def ji (H:Hp)(h:Heap)(a:Ω):HO->Prop
 |.lst xs=>xs.length<=Ζ/\∃(its:Ï) (n:Nat),Vals xs its/\h.get? a=Δ {cls:=.type "list",data:=.seq its.toArray n}
 |.tup xs=>xs.length<=Ζ/\∃its:Ï,Vals xs its/\IsTup h a its.toArray
 |.own _=>∃o,h.get? a=Δ o
 |.NU lo hi=>∃t u v,h.get? a=Δ {cls:=.type "range",data:=.fields #[.int lo t,.int hi u,.int 1 v]}
 |.JQ o u=>h.get? a=Δ o/\ji H h a u
 |.PK ps=>h.get? a=Δ {cls:=.none,data:=.fields ps}
 |.ext φ=>φ h/\(∃o,h.get? a=Δ o)/\∀h1 h2:Heap,φ h1->(∀o,h1.get? a=Δ o->h2.get? a=Δ o)->φ h2
def Kw (H:Hp)(h:Heap):Prop:=∀a o,H a=Δ o->ji H h a o
theorem ji.lt (x:ji H h a o):a < h.objs.size:=by
 cases o with
 |lst xs=>obtain⟨_,_,_,_,e⟩:=x;exact j_ e
 |tup xs=>obtain⟨_,_,_,p⟩:=x;exact p.lt
 |own y=>obtain⟨_,e⟩:=x;exact j_ e
 |NU lo hi=>obtain⟨_,_,_,e⟩:=x;exact j_ e
 |JQ ob u=>obtain⟨e,_⟩:=x;exact j_ e
 |PK ps=>exact j_ (show h.get? a=Δ _ from x)
 |ext φ=>obtain⟨_,⟨_,e⟩,_⟩:=x;exact j_ e
def ji.Li (x:ji H h a o)(k:∀b u,(b=a∨H b=Δ (.own a))->h.get? b=Δ u->h'.get? b=Δ u)
  (ho:∀b,H b=Δ (.own a)->H' b=Δ (.own a)) (ht:∀b xs,H b=Δ (.tup xs)->H' b=Δ (.tup xs)):ji H' h' a o:=by
 induction o with
 |lst xs=>obtain⟨z,its,n,r,e⟩:=x;exact⟨z,its,n,r,k _ _ (.inl rfl) e⟩
 |tup xs=>obtain⟨z,its,r,ob,e,c⟩:=x;exact⟨z,its,r,ob,k _ _ (.inl rfl) e,c⟩
 |own y=>obtain⟨ob,e⟩:=x;exact⟨ob,k _ _ (.inl rfl) e⟩
 |NU lo hi=>obtain⟨t,u,v,e⟩:=x;exact⟨t,u,v,k _ _ (.inl rfl) e⟩
 |JQ ob u ih=>obtain⟨e,q⟩:=x;exact⟨k _ _ (.inl rfl) e,ih q⟩
 |PK ps=>have e:h.get? a=Δ {cls:=.none,data:=.fields ps}:=x;show h'.get? a=Δ {cls:=.none,data:=.fields ps};exact k a _ (.inl rfl) e
 |ext φ=>obtain⟨p,⟨o,e⟩,st⟩:=x;exact⟨st _ _ p λo q=>k _ _ (.inl rfl) q,⟨o,k _ _ (.inl rfl) e⟩,st⟩
theorem Kw.lt (x:Kw H h)(e:H a=Δ o):a < h.objs.size:=(x a o e).lt
def Kw.fresh (x:Kw H h)(e:h.objs.size<=a):H a=Φ:=by
 cases q:H a with
 |none=>rfl
 |some u=>exact absurd (B_ (x.lt q) e) (S_ _)
def Kw.kept (x:Kw H h)(k:∀b u,h.get? b=Δ u->h'.get? b=Δ u):Kw H h':=λa o e=>
 (x a o e).Li (λb u _ q=>k b u q) (λ_ q=>q) λ_ _ q=>q
def Kw.laid (x:Kw H h)(k:∀b u,h.get? b=Δ u->h'.get? b=Δ u)(hp:h.objs.size<=a)(new:ji (upd H a o) h' a o):Kw (upd H a o) h':=λb u e=>by
 have hn:=x.fresh hp;by_cases hb:b=a
 ·subst hb;rw[il]at e;cases e;exact new
 ·rw[ib hb]at e;exact(x b u e).Li (λc v _ q=>k c v q) (λc q=>by rw[ib (iH q hn)];exact q) λc xs q=>by rw[ib (iH q hn)];exact q
def Rd (H:Hp)(a:Ω)(u:HO):Prop:=H a=Δ u∨∃o,H a=Δ (.JQ o u)
def Rd.ok (r:Rd H a u)(x:Kw H h):ji H h a u:=by
 rcases r with r|⟨o,r⟩
 ·exact x a u r
 ·obtain⟨_,q⟩:=x a _ r;exact q
def UX:Option HO->Prop
 |some (.lst _)=>True
 |some (.ext _)=>True
 |_=>False
def Kw.write (ok:Kw H h)(mu:UX (H x))(he:e=x∨H e=Δ (.own x))(k:∀b u,b≠e->h.get? b=Δ u->h'.get? b=Δ u)(Rt:∃u,h'.get? e=Δ u)
  (new:ji (upd H x o') h' x o'):Kw (upd H x o') h':=λb u q=>by
 have jH:∀c y,H c=Δ (.own y)->c≠x:=λc y r z=>by subst z;rw[r]at mu;exact mu
 have VY:∀c xs,H c=Δ (.tup xs)->c≠x:=λc xs r z=>by subst z;rw[r]at mu;exact mu
 by_cases hb:b=x
 ·subst hb;rw[il]at q;cases q;exact new
 ·rw[ib hb]at q;by_cases Ql:b=e
  ·have q':H b=Δ (.own x):=by
    rcases he with z|z
    ·exact absurd (Ql.trans z) hb
    ·rw[Ql];exact z
   rw[q]at q';cases q';obtain⟨v,hv⟩:=Rt;exact⟨v,by rw[Ql];exact hv⟩
  ·refine(ok b u q).Li (λc v hc r=>k c v ?_ r) (λc r=>by rw[ib (jH c b r)];exact r) λc xs r=>by rw[ib (VY c xs r)];exact r
   rcases hc with rfl|hc
   ·exact Ql
   ·rintro rfl;rcases he with z|z
    ·exact jH c b hc z
    ·rw[hc]at z;cases z;exact hb rfl
@[reducible]def _root_.Î:=List Ω
structure Un (fs ex:Î)(H H':Hp)(h h':Heap):Prop where
 keep:∀b o,h.get? b=Δ o->H b=Φ->b∉fs->b∉ex->h'.get? b=Δ o
 slot:∀b o,h.get? b=Δ o->H b=Φ->b∈fs->b∉ex->∃sl,h'.get? b=Δ {o with slots:=sl}
 free:∀b o,h.get? b=Δ o->H b=Φ->b∉ex->H' b=Φ
 there:∀b o,h.get? b=Δ o->b∉ex->∃o',h'.get? b=Δ o'
 KD:∀b xs,H b=Δ (.tup xs)->H' b=Δ (.tup xs)
 Kr:∀b o u,H b=Δ (.JQ o u)->H' b=Δ (.JQ o u)
 LK:∀b ps,H b=Δ (.PK ps)->∃more,H' b=Δ (.PK (ps++more))
def Un.any (u:Un fs ex H H1 h h1)  (q:h.get? b=Δ ob)(n:H b=Φ)(hx:b∉ex):∃sl,h1.get? b=Δ {ob with slots:=sl}:=by
 by_cases hb:b∈fs
 ·exact u.slot b ob q n hb hx
 ·exact⟨ob.slots,u.keep b ob q n hb hx⟩
def Un.kept (k:∀b u,h.get? b=Δ u->h'.get? b=Δ u):Un fs ex H H h h':=
 ⟨λb ob q _ _ _=>k b ob q,λb ob q _ _ _=>⟨ob.slots,k b ob q⟩,λ_ _ _ n _=>n,λb ob q _=>⟨ob,k b ob q⟩,λ_ _ q=>q,λ_ _ _ q=>q,λ_ ps q=>⟨#[],by rw[q];simp⟩⟩
def Un.refl:Un fs ex H H h h:=Un.kept λ_ _ q=>q
def Un.laid {fs ex:Î}{H:Hp}{h h':Heap}{a:Ω}{o:HO}(k:∀b u,h.get? b=Δ u->h'.get? b=Δ u)(hp:h.objs.size<=a)(hn:H a=Φ):Un fs ex H (upd H a o) h h' where
 keep:=λb u q _ _ _=>k b u q
 slot:=λb u q _ _ _=>⟨u.slots,k b u q⟩
 free:=λb u q n _=>by rw[ib (o_ (B_ (j_ q) hp))];exact n
 there:=λb u q _=>⟨u,k b u q⟩
 KD:=λb xs q=>by rw[ib (iH q hn)];exact q
 Kr:=λb u xs q=>by rw[ib (iH q hn)];exact q
 LK:=λb ps q=>⟨#[],by rw[ib (iH q hn),q];simp⟩
def Un.write (mu:UX (H x))(he:e=x∨H e=Δ (.own x))(k:∀b u,b≠e->h.get? b=Δ u->h'.get? b=Δ u)(Rt:∃u,h'.get? e=Δ u):Un fs ex H (upd H x o) h h':=by
 have hx:∀b,H b=Φ->b≠x:=λb n z=>by subst z;rw[n]at mu;exact mu
 have hb:∀b,H b=Φ->b≠e:=λb n z=>by
  subst z;rcases he with r|r
  ·exact hx b n r
  ·rw[n]at r;cases r
 have hm:∀b u,H b=Δ u->¬UX (Δ u)->b≠x:=λb u q nm z=>by subst z;rw[q]at mu;exact nm mu
 refine⟨λb u q n _ _=>k b u (hb b n) q,λb u q n _ _=>⟨u.slots,k b u (hb b n) q⟩,λb u q n _=>by rw[ib (hx b n)];exact n,λb u q _=>?_,
  λb xs q=>by rw[ib (hm b _ q λz=>z)];exact q,λb u xs q=>by rw[ib (hm b _ q λz=>z)];exact q,λb ps q=>⟨#[],by rw[ib (hm b _ q λz=>z),q];simp⟩⟩
 by_cases Ql:b=e
 ·subst Ql;exact Rt
 ·exact⟨u,k b u Ql q⟩
abbrev Qm (h:Heap)(H:Hp):Î:=(List.range h.objs.size).filter λa=>(H a).isSome
abbrev p8 (h:Heap)(H:Hp):Heap:=PySem.W.hideAll h (Qm h H)
def u7 (h:Heap)(H:Hp):(p8 h H).objs.size=h.objs.size:=PySem.W.hideAll_size _ _
def vX (e:h.get? b=Δ o)(n:H b=Φ):(p8 h H).get? b=Δ o:=
 PySem.W.hideAll_get _ e λhm=>by have q:(H b).isSome=Θ:=(List.mem_filter.mp hm).2;rw[n]at q;simp at q
def zM (e:(p8 h H).get? b=Δ o):h.get? b=Δ o/\H b=Φ:=by
 have e':h.get? b=Δ o:=PySem.W.of_hideAll (Qm h H) e;refine⟨e',?_⟩;cases q:H b with
 |none=>rfl
 |some x=>have hm:b∈Qm h H:=List.mem_filter.mpr ⟨aag.mpr (j_ e'),by simp[q]⟩;have z:(p8 h H).get? b=Φ:=PySem.W.hideAll_none (Qm h H) hm;rw[z]at e;cases e
structure Mod (K:Frag)(mg:Str->Option Ψ)(base:Heap):Prop where
 Qn:K.In base
 glob:base.Ns Η mg
 blt:∃mb,base.Ns builtinsNs mb/\∀x:Str,x≠"__name__"->mb x=bootBuiltins x
 nolimit:base.NoLimit
@[reducible]def _root_.Ü:=Ψ->Α->Prop
@[reducible]def _root_.É:=List (Ω×Obj)
@[reducible]def _root_.È:=List Str
structure Cx where
 prog:Ε
 w:Β
 K:Frag
 mg:Str->Option Ψ
 base:Heap
 A:Ι
 N:È
 J6:Α
 KJ:Hp
 env:Env
 outer:List Env
 stack:List Env
 ex:Î
 fn:Str->Bool
 calm:Bool
 pn:É
 xe:Ü
abbrev KC (l:List Env):Î:=l.filterMap (·.frame)
noncomputable abbrev Cx.fs (X:Cx):Î:=KC X.outer
def SJ (sc:Scope)(x:Str):Prop:=sc.names.lookup x=Δ .local∨sc.names.lookup x=Δ .cell∨sc.names.lookup x=Δ .free
def Loc (sc:Scope)(x:Str):Prop:=sc.names.lookup x=Δ .local∨sc.names.lookup x=Δ .cell
def Look (env:Env)(h:Heap)(m:Str->Option Ψ)(x:Str)(u:Ψ):Prop:=
 (env.kindOf x=Δ .local/\m x=Δ u)∨((env.kindOf x=Δ .cell∨env.kindOf x=Δ .free)/\∃c,env.cells.lookup x=Δ c/\h.IsCell c (Δ u))
structure Cx.Ok (X:Cx):Prop where
 mod:Mod X.K X.mg X.base
 kind:X.env.scope.kind=.function
 glob:X.env.globals=Η
 blt:X.env.builtins=builtinsNs
 above:X.J6.heap.objs.size<=X.env.locals
 inj:∀x y c,X.env.cells.lookup x=Δ c->X.env.cells.lookup y=Δ c->x=y
 has:∀x,(X.env.kindOf x=Δ .cell∨X.env.kindOf x=Δ .free)->∃c,X.env.cells.lookup x=Δ c
 OZ:∀x c,X.fn x=Θ->X.env.cells.lookup x=Δ c->X.J6.heap.objs.size<=c
 hd:X.calm=Θ->X.A.handled=Φ
 frames:X.A.frames=Δ X.stack
 JE:X.stack=X.outer∨(X.stack=X.env::X.outer/\X.env.frame=Δ X.env.locals)
 PL:∀b∈X.ex,b≠X.env.locals/\∀x c,X.env.cells.lookup x=Δ c->c≠b
 bs:∀b o,X.base.get? b=Δ o->X.J6.heap.get? b=Δ o/\X.KJ b=Φ
 Nc:X.base.objs.size<=X.J6.heap.objs.size
 Ma:∀b o,X.base.get? b=Δ o->b∉X.ex
 Mb:∀b∈X.ex,b∉X.fs
 Ks:X.J6.heap.FunFrames X.base X.outer
 ME:∀b∈X.fs,X.KJ b=Φ
structure Inv (X:Cx)(pins:É)(σ:List (Option V))(H:Hp)(s:Α):Prop where
 ok:X.Ok
 os:s.os=X.J6.os
 bare:AllBare s.gens
 base:Un X.fs X.ex X.KJ H X.J6.heap s.heap
 loc:∃m,s.heap.Ns X.env.locals m/\∀(i:Nat) (x:Str) (v:V),X.N[i]? = Δ x->σ[i]? = Δ (Δ v)->SJ X.env.scope x->∃u,RelV v u/\Look X.env s.heap m x u
 cell:∀x c,X.env.cells.lookup x=Δ c->∃v,s.heap.IsCell c v
 free:H X.env.locals=Φ
 J4:∀x c,X.env.cells.lookup x=Δ c->H c=Φ
 pin:∀p∈X.pn++pins,s.heap.get? p.1=Δ p.2/\H p.1=Φ/\p.1≠X.env.locals/\p.1∉X.fs/\∀v,p.2.data≠.cell v
 JO:Kw H s.heap
 len:σ.length=X.N.length
def Cx.Ok.VZ {X:Cx}(ok:X.Ok)  (e:X.base.get? b=Δ o):b∉X.fs:=λhb=>by have:=(ok.Ks.mem hb).1;rw[e]at this;cases this
theorem Inv.bs (I:Inv X pins σ H s):∀b o,X.base.get? b=Δ o->s.heap.get? b=Δ o/\H b=Φ:=λb o e=>
 ⟨I.base.keep b o (I.ok.bs b o e).1 (I.ok.bs b o e).2 (I.ok.VZ e) (I.ok.Ma b o e),I.base.free b o (I.ok.bs b o e).1 (I.ok.bs b o e).2 (I.ok.Ma b o e)⟩
def Inv.bk (I:Inv X pins σ H s):∀b o,X.base.get? b=Δ o->s.heap.get? b=Δ o:=λb o e=>(I.bs b o e).1
theorem Inv.mod (I:Inv X pins σ H s):Mod X.K X.mg X.base:=I.ok.mod
def Inv.LV (I:Inv X pins σ H s):X.K.In s.heap:=I.ok.mod.Qn.keeps I.bk
theorem Inv.lt (I:Inv X pins σ H s):X.env.locals < s.heap.objs.size:=let ⟨_,hn,_⟩:=I.loc;hn.lt
def Inv.sz (I:Inv X pins σ H s):X.J6.heap.objs.size<=s.heap.objs.size:=N_ I.ok.above (Nat.le_of_lt I.lt)
def Inv.V0 (I:Inv X pins σ H s)  (h:s.heap.objs.size<=a):a∉X.fs:=λhb=>by obtain⟨_,o,ho,_⟩:=I.ok.Ks.mem hb;exact absurd (B_ (j_ ho) (N_ I.sz h)) (S_ _)
def Inv.N8 (I:Inv X pins σ H s):∀x c,X.env.cells.lookup x=Δ c->c≠X.env.locals:=λx c e z=>by obtain⟨v,o,ho,hd⟩:=I.cell x c e;obtain⟨m,⟨o',es,ep,KZ,hd',_⟩,_⟩:=I.loc;rw[z,KZ]at ho;cases ho;rw[hd']at hd;cases hd
theorem Inv.Ks (I:Inv X pins σ H s):s.heap.FunFrames X.base X.outer:=by
 have all:∀(l:List Env),(∀b∈KC l,b∈X.fs)->X.J6.heap.FunFrames X.base l->s.heap.FunFrames X.base l:=by
  intro l
  induction l with
  |nil=>intro _ _;trivial
  |cons env r ih=>intro hs hl;obtain⟨hk,⟨L,o,hf,hn,ho,hd⟩,hr⟩:=hl;have hL:L∈X.fs:=hs L (by unfold KC;rw[List.filterMap_cons,hf];exact aaf);obtain⟨sl,e⟩:=I.base.slot L o ho (I.ok.ME L hL) hL λz=>I.ok.Mb L z hL;exact⟨hk,⟨L,_,hf,hn,e,hd⟩,ih (λb hb=>hs b (by unfold KC;rw[List.filterMap_cons,hf];exact H_ _ hb)) hr⟩
 exact all X.outer (λ_ hb=>hb) I.ok.Ks
theorem Inv.stack (I:Inv X pins σ H s):s.heap.FunFrames X.base X.stack:=by
 rcases I.ok.JE with e|⟨e,hf⟩
 ·rw[e];exact I.Ks
 ·rw[e];obtain⟨m,hn,_⟩:=I.loc;refine .cons (by rw[I.ok.kind];decide) hf hn ?_ I.Ks;exact Heap.get?_none_of_le (N_ I.ok.Nc I.ok.above)
def Inv.MN (I:Inv X pins σ H s):∀b∈KC X.stack,b∈X.env.locals::X.fs:=λb hb=>by
 rcases I.ok.JE with e|⟨e,hf⟩
 ·rw[e]at hb;exact H_ _ hb
 ·rw[e]at hb;unfold KC at hb;rw[List.filterMap_cons,hf]at hb;exact hb
def Inv.Mc (I:Inv X pins σ H s):∀b∈KC X.stack,H b=Φ:=λb hb=>by
 rcases k_.mp (I.MN b hb) with e|hb
 ·rw[e];exact I.free
 ·obtain⟨_,o,ho,_⟩:=I.ok.Ks.mem hb;exact I.base.free b o ho (I.ok.ME b hb) λz=>I.ok.Mb b z hb
def Inv.step {X:Cx}{pins:É}{σ:List (Option V)}{H H':Hp}{s:Α}{h':Heap}{g':Array GenState}{t':Nat}{d':Drawn}{ch:Î}(I:Inv X pins σ H s)
  (NV:∀b∈ch,(b∈X.ex∨X.J6.heap.objs.size<=b)/\b≠X.env.locals/\(∀x c,X.env.cells.lookup x=Δ c->c≠b)/\∀p∈X.pn++pins,p.1≠b)
  (keep:∀b o,b≠X.env.locals->b∉X.fs->b∉ch->s.heap.get? b=Δ o->H b=Φ->h'.get? b=Δ o)
  (slot:∀b o,b≠X.env.locals->b∈X.fs->b∉ch->s.heap.get? b=Δ o->H b=Φ->∃sl,h'.get? b=Δ {o with slots:=sl}) (free:∀b o,b∉ch->s.heap.get? b=Δ o->H b=Φ->H' b=Φ)
  (there:∀b o,b∉ch->s.heap.get? b=Δ o->∃o',h'.get? b=Δ o')
  (KD:∀b xs,H b=Δ (.tup xs)->H' b=Δ (.tup xs)) (Kr:∀b o u,H b=Δ (.JQ o u)->H' b=Δ (.JQ o u)) (LK:∀b ps,H b=Δ (.PK ps)->∃more,H' b=Δ (.PK (ps++more)))
  (ns:∀m,s.heap.Ns X.env.locals m->h'.Ns X.env.locals m) (JO:Kw H' h') (hg:AllBare g') :
  Inv X pins σ H' {s with heap:=h',gens:=g',drawn:=d',toks:=t'}:=by
 have YA:∀b o,X.J6.heap.get? b=Δ o->b≠X.env.locals:=λb o e=>o_ (B_ (j_ e) I.ok.above);have UY:∀b o,X.J6.heap.get? b=Δ o->b∉X.ex->b∉ch:=λb o e hx hb=>by
  rcases(NV b hb).1 with z|z
  ·exact hx z
  ·exact absurd (B_ (j_ e) z) (S_ _)
 have cellK:∀x c,X.env.cells.lookup x=Δ c->∀v,s.heap.IsCell c v->h'.IsCell c v:=λx c e v ⟨o,ho,hd⟩=>by
  have SK:c∉ch:=λz=>(NV c z).2.2.1 x c e rfl;by_cases hc:c∈X.fs
  ·obtain⟨sl,q⟩:=slot c o (I.N8 x c e) hc SK ho (I.J4 x c e);exact⟨_,q,hd⟩
  ·exact⟨o,keep c o (I.N8 x c e) hc SK ho (I.J4 x c e),hd⟩
 refine⟨I.ok,I.os,hg,⟨λb o e n hb hx=>?_,λb o e n hb hx=>?_,λb o e n hx=>?_,λb o e hx=>?_,λb xs e=>KD b xs (I.base.KD b xs e),λb o xs e=>Kr b o xs (I.base.Kr b o xs e),λb ps e=>?_⟩,?_,λx c e=>?_,?_,λx c e=>?_,λp hp=>?_,JO,I.len⟩
 ·exact keep b o (YA b o e) hb (UY b o e hx) (I.base.keep b o e n hb hx) (I.base.free b o e n hx)
 ·obtain⟨sl,e1⟩:=I.base.slot b o e n hb hx;obtain⟨PM,e2⟩:=slot b _ (YA b o e) hb (UY b o e hx) e1 (I.base.free b o e n hx);exact⟨PM,e2⟩
 ·obtain⟨o',e1⟩:=I.base.there b o e hx;exact free b o' (UY b o e hx) e1 (I.base.free b o e n hx)
 ·obtain⟨o',e1⟩:=I.base.there b o e hx;exact there b o' (UY b o e hx) e1
 ·obtain⟨m1,e1⟩:=I.base.LK b ps e;obtain⟨m2,e2⟩:=LK b _ e1;exact⟨m1++m2,by rw[e2,Array.append_assoc]⟩
 ·obtain⟨m,hn,hl⟩:=I.loc;refine⟨m,ns m hn,λi x v e1 e2 e3=>?_⟩;obtain⟨u,r,l⟩:=hl i x v e1 e2 e3;refine⟨u,r,?_⟩;rcases l with l|⟨k,c,e,z⟩
  ·exact .inl l
  ·exact .inr ⟨k,c,e,cellK x c e _ z⟩
 ·obtain⟨v,z⟩:=I.cell x c e;exact⟨v,cellK x c e v z⟩
 ·obtain⟨m,⟨o,_,_,ho,_⟩,_⟩:=I.loc;exact free _ o (λz=>(NV _ z).2.1 rfl) ho I.free
 ·obtain⟨v,o,ho,hd⟩:=I.cell x c e;exact free c o (λz=>(NV c z).2.2.1 x c e rfl) ho (I.J4 x c e)
 ·obtain⟨e,n,ne,nf,d⟩:=I.pin p hp;have SK:p.1∉ch:=λz=>(NV p.1 z).2.2.2 p hp rfl;exact⟨keep p.1 p.2 ne nf SK e n,free p.1 p.2 SK e n,ne,nf,d⟩
def Inv.un (I:Inv X pins σ H s)(u:Un X.fs [] H H' s.heap h')(JO:Kw H' h'):Inv X pins σ H' {s with heap:=h',toks:=t'}:=by
 obtain⟨m,⟨o,es,ep,ho,r⟩,_⟩:=id I.loc;obtain⟨sl,hL⟩:=u.any ho I.free (by simp)
 exact I.step (g':=s.gens) (d':=s.drawn) (ch:=[]) (λ_ z=>nomatch z) (λb o _ hb _ e n=>u.keep b o e n hb (by simp)) (λb o _ hb _ e n=>u.slot b o e n hb (by simp)) (λb o _ e n=>u.free b o e n (by simp)) (λb o _ e=>u.there b o e (by simp)) u.KD u.Kr u.LK (λm' hm=>by
  obtain⟨o',es',V1,KZ,r'⟩:=hm;rw[ho]at KZ;cases KZ
  exact⟨_,es',V1,hL,r'⟩) JO I.bare
def Inv.call (I:Inv X pins σ H s)(u:Un (KC X.stack) ch H H' s.heap h')(JO:Kw H' h')(hg:AllBare g')
  (NV:∀b∈ch,(b∈X.ex∨X.J6.heap.objs.size<=b)/\b≠X.env.locals/\(∀x c,X.env.cells.lookup x=Δ c->c≠b)/\∀p∈X.pn++pins,p.1≠b) :
  Inv X pins σ H' {s with heap:=h',gens:=g',drawn:=d',toks:=t'}:=by
 obtain⟨m,⟨o,es,ep,ho,r⟩,_⟩:=id I.loc;obtain⟨sl,hL⟩:=u.any ho I.free λz=>(NV _ z).2.1 rfl
 exact I.step (ch:=ch) NV (λb o hL hb hc e n=>u.keep b o e n (λz=>(k_.mp (I.MN b z)).elim hL hb) hc) (λb o _ _ hc e n=>u.any e n hc) (λb o hc e n=>u.free b o e n hc) (λb o hc e=>u.there b o e hc) u.KD u.Kr u.LK (λm' hm=>by
  obtain⟨o',es',V1,KZ,r'⟩:=hm;rw[ho]at KZ;cases KZ
  exact⟨_,es',V1,hL,r'⟩) JO hg
def Inv.turned (I:Inv X pins σ H s)(k:∀b o,b≠it->s.heap.get? b=Δ o->h'.get? b=Δ o)(hn:H it=Φ)(hL:it≠X.env.locals)
  (h1:it∈X.ex∨X.J6.heap.objs.size<=it) (h2:∀x c,X.env.cells.lookup x=Δ c->c≠it) (h3:∀p∈X.pn++pins,p.1≠it):Inv X pins σ H {s with heap:=h',toks:=t'}:=by
 have PN:∀b u,H b=Δ u->b≠it:=λb u e z=>by rw[z,hn]at e;cases e
 refine I.step (g':=s.gens) (d':=s.drawn) (ch:=[it]) (λb hb=>?_) (λb o _ _ hc e _=>k b o (λz=>hc (by simp[z])) e) (λb o _ _ hc e _=>⟨o.slots,k b o (λz=>hc (by simp[z])) e⟩) (λ_ _ _ _ n=>n)
  (λb o hc e=>⟨o,k b o (λz=>hc (by simp[z])) e⟩) (λ_ _ e=>e) (λ_ _ _ e=>e) (λb ps e=>⟨#[],by rw[e];simp⟩) (λm hm=>?_) (λb u e=>?_) I.bare
 ·have e:b=it:=by simpa using hb
  subst e;exact⟨h1,hL,h2,h3⟩
 ·obtain⟨o,es,ep,ho,r⟩:=hm;exact⟨o,es,ep,k _ o (Ne.symm hL) ho,r⟩
 ·refine(I.JO b u e).Li (λc v hc q=>k c v ?_ q) (λ_ q=>q) λ_ _ q=>q;rcases hc with z|z
  ·rw[z];exact PN b u e
  ·exact PN c _ z
def Inv.tok (I:Inv X pins σ H s)(t:Nat):Inv X pins σ H {s with toks:=t}:=I.un (h':=s.heap) (t':=t) Un.refl I.JO
theorem Inv.kept (I:Inv X pins σ H s)(k:∀b u,s.heap.get? b=Δ u->h'.get? b=Δ u):Inv X pins σ H {s with heap:=h',toks:=t'}:=I.un (Un.kept k) (I.JO.kept k)
theorem Inv.laid (I:Inv X pins σ H s)(k:∀b u,s.heap.get? b=Δ u->h'.get? b=Δ u)(hp:s.heap.objs.size<=a)(new:ji (upd H a o) h' a o) :
  Inv X pins σ (upd H a o) {s with heap:=h',toks:=t'}:=I.un (Un.laid k hp (I.JO.fresh hp)) (I.JO.laid k hp new)
theorem Inv.write (I:Inv X pins σ H s)(mu:UX (H x))(he:e=x∨H e=Δ (.own x))(k:∀b u,b≠e->s.heap.get? b=Δ u->h'.get? b=Δ u)(Rt:∃u,h'.get? e=Δ u)
  (new:ji (upd H x o) h' x o):Inv X pins σ (upd H x o) {s with heap:=h',toks:=t'}:=I.un (Un.write mu he k Rt) (I.JO.write mu he k Rt new)
def Inv.Nd (I:Inv X pins σ H s)(h:∀p∈Mn,s.heap.get? p.1=Δ p.2/\H p.1=Φ/\p.1≠X.env.locals/\p.1∉X.fs/\∀v,p.2.data≠.cell v):Inv X Mn σ H s:=
 ⟨I.ok,I.os,I.bare,I.base,I.loc,I.cell,I.free,I.J4,λp hp=>(t_.mp hp).elim (λz=>I.pin p (p_ _ z)) (h p),I.JO,I.len⟩
def nV {N:È}(hN:N.Nodup){i j:Nat}{x:Str}(a:N[i]? = Δ x)(b:N[j]? = Δ x):i=j:=by obtain⟨h1,e1⟩:=x_.mp a;obtain⟨h2,e2⟩:=x_.mp b;exact(List.getElem_inj hN).mp (e1.trans e2.symm)
def pI (I:Inv X pins σ H s)(hN:X.N.Nodup)(hi:X.N[i]? = Δ x)(hx:Loc X.env.scope x)(r:RelV v u)
  (h:∀s',Inv X pins (σ.set i (Δ v)) H s'->(∃a,Heap.SameBut a s.heap s'.heap/\(a=X.env.locals∨X.env.cells.lookup x=Δ a))->Q () s') (hf:X.fn x=Θ∨X.env.scope.names.lookup x=Δ .local:=by first|exact .inl rfl|exact .inr rfl|assumption):Κ M A (storeName X.env x u) Q E s:=by
 obtain⟨m,hn,hl⟩:=id I.loc;have MO:(X.env.scope.kind == .class||(X.env.scope.kind == .module&&X.env.locals != X.env.globals))=Ξ:=by rw[I.ok.kind];rfl
 have O0:i < σ.length:=by rw[I.len];exact(x_.mp hi).1
 have N8:=I.N8;have tracked:∀ {a:Ω}{h':Heap},(∃o,s.heap.get? a=Δ o/\H a=Φ)->Heap.SameBut a s.heap h'->Kw H h':=λ{a h'} ha hs b ob e=>by
  obtain⟨_,_,Nf⟩:=ha;refine(I.JO b ob e).Li (λc w' hc q=>(hs.2 c ?_).trans q) (λ_ q=>q) λ_ _ q=>q;rintro rfl;rcases hc with rfl|hc
  ·rw[Nf]at e;cases e
  ·rw[Nf]at hc;cases hc
 rcases hx with hk|hk
 ·refine wpAny_storeName_local hk hn (λh' LF hs=>?_) MO;obtain⟨oL,_,_,YB,_⟩:=id hn;refine h _ ⟨I.ok,I.os,I.bare,⟨λb o e n hb hx=>?_,λb o e n hb hx=>?_,I.base.free,λb o e hx=>?_,I.base.KD,I.base.Kr,I.base.LK⟩,⟨_,LF,λj y v' e1 e2 e3=>?_⟩,λy c e=>?_,I.free,I.J4,λp hp=>?_,tracked ⟨oL,YB,I.free⟩ hs,by simpa using I.len⟩ ⟨_,hs,.inl rfl⟩
  ·exact(hs.2 b (o_ (B_ (j_ e) I.ok.above))).trans (I.base.keep b o e n hb hx)
  ·obtain⟨sl,e1⟩:=I.base.slot b o e n hb hx;exact⟨sl,(hs.2 b (o_ (B_ (j_ e) I.ok.above))).trans e1⟩
  ·obtain⟨o',e1⟩:=I.base.there b o e hx;exact⟨o',(hs.2 b (o_ (B_ (j_ e) I.ok.above))).trans e1⟩
  ·by_cases hj:j=i
   ·subst hj;rw[hi]at e1;cases e1;rw[List.getElem?_set_self O0]at e2;cases e2;exact⟨u,r,.inl ⟨hk,by simp⟩⟩
   ·rw[Q_ (Ne.symm hj)]at e2;obtain⟨u',r',q⟩:=hl j y v' e1 e2 e3;refine⟨u',r',?_⟩;rcases q with⟨k,e⟩|⟨k,c,e,z⟩
    ·refine .inl ⟨k,?_⟩;have:y≠x:=λe=>hj (nV hN e1 (e ▸ hi));simp[this,e]
    ·exact .inr ⟨k,c,e,z.sameBut hs (N8 y c e)⟩
  ·obtain⟨w',z⟩:=I.cell y c e;exact⟨w',z.sameBut hs (N8 y c e)⟩
  ·obtain⟨e,n,ne,nf,d⟩:=I.pin p hp;exact⟨(hs.2 p.1 ne).trans e,n,ne,nf,d⟩
 ·have N9:X.fn x=Θ:=by
   rcases hf with z|z
   ·exact z
   ·rw[z]at hk;cases hk
  obtain⟨c,hc⟩:=I.ok.has x (.inl hk);obtain⟨w',z⟩:=I.cell x c hc;refine wpAny_storeName_cell I.ok.kind hk hc z (λh' Mo hs=>?_);obtain⟨oc,Ru,V2⟩:=id z;refine h {s with heap:=h'} ⟨I.ok,I.os,I.bare,⟨λb o e n hb hx=>?_,λb o e n hb hx=>?_,I.base.free,λb o e hx=>?_,I.base.KD,I.base.Kr,I.base.LK⟩,⟨m,hn.sameBut hs (Ne.symm (N8 x c hc)),λj y v' e1 e2 e3=>?_⟩,λy c' e=>?_,I.free,I.J4,λp hp=>?_,tracked ⟨oc,Ru,I.J4 x c hc⟩ hs,by simpa using I.len⟩ ⟨c,hs,.inr hc⟩
  ·exact(hs.2 b (o_ (B_ (j_ e) (I.ok.OZ x c N9 hc)))).trans (I.base.keep b o e n hb hx)
  ·obtain⟨sl,e1⟩:=I.base.slot b o e n hb hx;exact⟨sl,(hs.2 b (o_ (B_ (j_ e) (I.ok.OZ x c N9 hc)))).trans e1⟩
  ·obtain⟨o',e1⟩:=I.base.there b o e hx;exact⟨o',(hs.2 b (o_ (B_ (j_ e) (I.ok.OZ x c N9 hc)))).trans e1⟩
  ·by_cases hj:j=i
   ·subst hj;rw[hi]at e1;cases e1;rw[List.getElem?_set_self O0]at e2;cases e2;exact⟨u,r,.inr ⟨.inl hk,c,hc,Mo⟩⟩
   ·rw[Q_ (Ne.symm hj)]at e2;obtain⟨u',r',q⟩:=hl j y v' e1 e2 e3;refine⟨u',r',?_⟩;rcases q with q|⟨k,c',e,z'⟩
    ·exact .inl q
    ·refine .inr ⟨k,c',e,z'.sameBut hs ?_⟩;rintro rfl;exact hj (nV hN e1 (I.ok.inj _ _ _ e hc ▸ hi))
  ·by_cases YC:c'=c
   ·subst YC;exact⟨_,Mo⟩
   ·obtain⟨w2,z2⟩:=I.cell y c' e;exact⟨w2,z2.sameBut hs YC⟩
  ·obtain⟨e,n,ne,nf,d⟩:=I.pin p hp;refine⟨(hs.2 p.1 ?_).trans e,n,ne,nf,d⟩;intro q;rw[q,Ru]at e;have q':oc=p.2:=I_ e;exact d w' (by rw[<- q'];exact V2)
def lU (I:Inv X pins σ H s)(hN:X.N.Nodup)(hi:X.N[i]? = Δ x)(hx:Loc X.env.scope x)(r:RelV v u)
  (h:∀s',Inv X pins (σ.set i (Δ v)) H s'->Q () s') (hf:X.fn x=Θ∨X.env.scope.names.lookup x=Δ .local:=by first|exact .inl rfl|exact .inr rfl|assumption):Κ M A (storeName X.env x u) Q E s:=
 pI I hN hi hx r (λs' I' _=>h s' I') hf
def Inv.N' (I:Inv X pins σ H s)(ho:s'.os=s.os)(u:Un (KC X.stack) ch H H' s.heap s'.heap)(JO:Kw H' s'.heap)(hg:AllBare s'.gens)
  (NV:∀b∈ch,(b∈X.ex∨X.J6.heap.objs.size<=b)/\b≠X.env.locals/\(∀x c,X.env.cells.lookup x=Δ c->c≠b)/\∀p∈X.pn++pins,p.1≠b):Inv X pins σ H' s':=by
 obtain⟨h',g',d',t',o'⟩:=s';have e:o'=s.os:=ho;subst e;exact I.call (g':=g') (t':=t') (d':=d') u JO hg NV
@[reducible]def XK:=Ψ->Option Ω->Hp->Prop
@[reducible]def St:=List (Option V)
@[reducible]def VK:=V->Hp->Prop
@[reducible]def TE:=St->Hp->VK->Prop
@[reducible]def TT:=St->Hp->(Bool->Hp->Prop)->Prop
@[reducible]def TA:=St->Hp->(Ñ->Hp->Prop)->Prop
structure Ends where
 nx:St->Hp->Prop
 rt:VK
 bk:St->Hp->Prop:=λ_ _=>False
 ct:St->Hp->Prop:=λ_ _=>False
@[reducible]def TS:=Ends->St->Hp->Prop
def EP (X:Cx)(pins:É)(σ:St)(Q:VK)(u:Ψ)(s':Α):Prop:=∃v H',Inv X pins σ H' s'/\RelV v u/\Q v H'
def TP (X:Cx)(pins:É)(σ:St)(Q:Bool->Hp->Prop)(b:Bool)(s':Α):Prop:=∃H',Inv X pins σ H' s'/\Q b H'
def AP (X:Cx)(pins:É)(σ:St)(Q:Ñ->Hp->Prop)(us:Ï)(s':Α):Prop:=∃vs H',Inv X pins σ H' s'/\Vals vs us/\Q vs H'
def SP (X:Cx)(pins:É)(D:Ends)(f:Flow)(s':Α):Prop:=
 match f with
 |.next=>∃JD H',Inv X pins JD H' s'/\D.nx JD H'
 |.brk=>∃JD H',Inv X pins JD H' s'/\D.bk JD H'
 |.cont=>∃JD H',Inv X pins JD H' s'/\D.ct JD H'
 |.ret u=>∃v JD H',Inv X pins JD H' s'/\RelV v u/\D.rt v H'
def PE (X:Cx)(e:Expr)(t:TE):Prop:=
 ∀(pins:É) (s:Α) (σ:St) (H:Hp) (Q:VK),Inv X pins σ H s->t σ H Q->Κ (Μ X.prog X.w) X.A (eval e X.env) (EP X pins σ Q) X.xe s
def PT (X:Cx)(e:Expr)(t:TT):Prop:=
 ∀(pins:É) (s:Α) (σ:St) (H:Hp) (Q:Bool->Hp->Prop),Inv X pins σ H s->t σ H Q->Κ (Μ X.prog X.w) X.A (isTrue e X.env (eval e X.env)) (TP X pins σ Q) X.xe s
def PW (X:Cx)(e:Expr)(t:TT):Prop:=
 ∀(whole:Sem Ψ) (pins:É) (s:Α) (σ:St) (H:Hp) (Q:Bool->Hp->Prop),Inv X pins σ H s->t σ H Q->Κ (Μ X.prog X.w) X.A (isTrue e X.env whole) (TP X pins σ Q) X.xe s
def PW.pt (h:PW X e t):PT X e t:=h _
@[reducible]def _root_.Â:=List Expr
def PA (X:Cx)(es:Â)(t:TA):Prop:=
 ∀(pos:Pos) (pins:É) (s:Α) (σ:St) (H:Hp) (Q:Ñ->Hp->Prop),Inv X pins σ H s->t σ H Q->Κ (Μ X.prog X.w) X.A (spliced (backTo pos (Ν es X.env))) (AP X pins σ Q) X.xe s
def PS (X:Cx)(st:Stmt)(t:TS):Prop:=
 ∀(pins:É) (s:Α) (σ:St) (H:Hp) (D:Ends),Inv X pins σ H s->t D σ H->Κ (Μ X.prog X.w) X.A (exec st X.env) (SP X pins D) X.xe s
@[reducible]def _root_.Á:=List Stmt
def LL (X:Cx)(st:Á)(t:TS):Prop:=
 ∀(pins:É) (s:Α) (σ:St) (H:Hp) (D:Ends),Inv X pins σ H s->t D σ H->Κ (Μ X.prog X.w) X.A (execs st X.env) (SP X pins D) X.xe s
def JP (h:Κ M A t Q E s)(hQ:∀a s,Q a s->Q' a s):Κ M A t Q' E s:=wpAny_mono h hQ λ_ _ x=>x
def zN (i:Nat):TE:=λσ H Q=>∃v,σ[i]? = Δ (Δ v)/\Q v H
def tC (v:V):TE:=λ_ H Q=>Q v H
def v7 (hN:X.N[i]? = Δ x)(hv:SJ X.env.scope x)(hd:(x == ("__debug__" : Str))=Ξ:=by decide) (Oa:(x == ("__classdict__" : Str))=Ξ:=by decide):PE X (.Name x pos) (zN i):=by
 intro pins s σ H Q I h;obtain⟨v,e,h⟩:=h;obtain⟨m,hn,hl⟩:=I.loc;obtain⟨u,r,l⟩:=hl i x v hN e hv;have fin:EP X pins σ Q u s:=⟨v,H,I,r,h⟩
 rcases l with⟨hk,hm⟩|⟨hk,c,hc,PQ⟩
 ·exact wpAny_Name (wpAny_loadName_local I.ok.kind hk hn hm fin) hd
 ·rcases hk with hk|hk
  ·exact wpAny_Name (wpAny_loadName_cell I.ok.kind hk hc PQ fin) hd
  ·exact wpAny_Name (wpAny_loadName_free I.ok.kind hk hc PQ fin Oa) hd
def Cu {i j pos}:PE X (.Constant (.int i) j pos) (tC (.int i)):=λ_ _ _ H _ I h=>wpAny_Constant_int ⟨.int i,H,I.tok _,⟨_,rfl⟩,h⟩
def ES {b j pos}:PE X (.Constant (.bool b) j pos) (tC (.bl b)):=λ_ _ _ H _ I h=>Constant_bool ⟨.bl b,H,I,rfl,h⟩
def Cv {j pos}:PE X (.Constant .none j pos) (tC .JF):=λ_ _ _ H _ I h=>Constant_none ⟨.JF,H,I,rfl,h⟩
def rZ {x j pos}:PE X (.Constant (.str x) j pos) (tC (.str x)):=λ_ _ _ H _ I h=>Calls.Constant_str ⟨.str x,H,I.tok _,⟨_,rfl⟩,h⟩
def Gl (X:Cx)(x:Str):Prop:=X.env.kindOf x=Δ .globalImplicit
def kC (I:Inv X pins σ H s)(hg:Gl X x)(hm:X.mg x=Δ u)(h:Q u s)
  (hd:(x == ("__debug__" : Str))=Ξ:=by decide):Κ (Μ X.prog X.w) X.A (eval (.Name x pos) X.env) Q E s:=
 Calls.Name_function_global I.ok.kind hg (Calls.loadGlobal_global (by rw[I.ok.glob];exact I.mod.glob.keeps I.bk) hm h) hd
def kD (I:Inv X pins σ H s)(hg:Gl X x)(hm:X.mg x=Φ)(hv:bootBuiltins x=Δ u)(h:Q u s)
  (hn:x≠"__name__":=by decide) (hd:(x == ("__debug__" : Str))=Ξ:=by decide):Κ (Μ X.prog X.w) X.A (eval (.Name x pos) X.env) Q E s:=by
 obtain⟨mb,h1,h2⟩:=I.mod.blt;exact Calls.Name_function_global I.ok.kind hg (Calls.loadGlobal_builtin (by rw[I.ok.glob];exact I.mod.glob.keeps I.bk) hm (by rw[I.ok.blt];exact h1.keeps I.bk) ((h2 x hn).trans hv) h) hd
def tO (hg:Gl X x)(hm:X.mg x=Δ u)(r:RelV v u)(hd:(x == ("__debug__" : Str))=Ξ:=by decide):PE X (.Name x pos) (tC v):=
 λ_ _ _ H _ I h=>kC I hg hm ⟨v,H,I,r,h⟩ hd
def tP (hg:Gl X x)(hm:X.mg x=Φ)(hv:bootBuiltins x=Δ u)(r:RelV v u)(hn:x≠"__name__":=by decide) (hd:(x == ("__debug__" : Str))=Ξ:=by decide):PE X (.Name x pos) (tC v):=
 λ_ _ _ H _ I h=>kD I hg hm hv ⟨v,H,I,r,h⟩ hn hd
def ET (t u:TT):TT:=λσ H Q=>t σ H λc H1=>if c=Θ then u σ H1 Q else Q Ξ H1
def tOr (t u:TT):TT:=λσ H Q=>t σ H λc H1=>if c=Θ then Q Θ H1 else u σ H1 Q
def Hz (t:TT):TT:=λσ H Q=>t σ H λc H1=>Q (!c) H1
def zP (ha:PT X a tA):PW X (.BoolOp .And [a] pos) tA:=by
 intro wh pins s σ H Q I h;refine isTrue_and (JP (ha pins s σ H Q I h) λc s1 e=>?_);cases c with
 |true=>exact isTrue_and_nil e
 |false=>exact e
def Cw (ha:PT X a tA):PW X (.BoolOp .Or [a] pos) tA:=by
 intro wh pins s σ H Q I h;refine isTrue_or (JP (ha pins s σ H Q I h) λc s1 e=>?_);cases c with
 |false=>exact isTrue_or_nil e
 |true=>exact e
def Cy (ha:PT X a tA)(hb:PW X (.BoolOp .And (b::rest) pos) V3):PW X (.BoolOp .And (a::b::rest) pos) (ET tA V3):=by
 intro wh pins s σ H Q I h;refine isTrue_and (JP (ha pins s σ H _ I h) λc s1 ⟨H1,I1,q1⟩=>?_);cases c with
 |true=>exact hb wh pins s1 σ H1 Q I1 q1
 |false=>exact⟨H1,I1,q1⟩
def EU (ha:PT X a tA)(hb:PW X (.BoolOp .Or (b::rest) pos) V3):PW X (.BoolOp .Or (a::b::rest) pos) (tOr tA V3):=by
 intro wh pins s σ H Q I h;refine isTrue_or (JP (ha pins s σ H _ I h) λc s1 ⟨H1,I1,q1⟩=>?_);cases c with
 |true=>exact⟨H1,I1,q1⟩
 |false=>exact hb wh pins s1 σ H1 Q I1 q1
def Cz (ha:PT X a tA):PT X (.UnaryOp .Not a pos) (Hz tA):=by intro pins s σ H Q I h;exact isTrue_not (ha pins s σ H (λc H1=>Q (!c) H1) I h)
def v8 {op}  (h:PE X a t):PE X (.BoolOp op [a] pos) t:=λpins s σ H Q I hw=>BoolOp_one (h pins s σ H Q I hw)
def tIf (t:TT)(ta tb:TE):TE:=λσ H Q=>t σ H λc H1=>if c=Θ then ta σ H1 Q else tb σ H1 Q
def qL (hc:PT X c tA)(ha:PE X a ta)(hb:PE X b tb):PE X (.IfExp c a b pos) (tIf tA ta tb):=by
 intro pins s σ H Q I h;refine wpAny_IfExp (JP (hc pins s σ H _ I h) λd s1 ⟨H1,I1,q1⟩=>?_);cases d with
 |true=>exact ha pins s1 σ H1 Q I1 q1
 |false=>exact hb pins s1 σ H1 Q I1 q1
def K2 (K:Frag)(H:Hp)(a:Ω)(xs:Ñ):Prop:=
 Rd H a (.lst xs)∨
  ∃(o:Obj) (its:Array Ψ) (n:Nat),K.lookup a=Δ o/\o.cls=.type "list"/\o.dict=Φ/\o.data=.seq its n/\its.size<=Ζ/\Vals xs its.toList
def K0 (K:Frag)(H:Hp)(a:Ω)(xs:Ñ):Prop:=
 Rd H a (.tup xs)∨
  ∃(o:Obj) (its:Array Ψ) (n:Nat),K.lookup a=Δ o/\o.cls=.type "tuple"/\o.data=.seq its n/\its.size<=Ζ/\Vals xs its.toList
abbrev HB:Ψ->Option V
 |.none=>Δ .JF
 |.bool b=>Δ (.bl b)
 |.int i _=>Δ (.int i)
 |.str x _=>Δ (.str x)
 |.ref a=>Δ (.ref a)
 |.type n=>Δ (.ty n)
 |_=>Φ
def RelV.abs (r:RelV x u):HB u=Δ x:=by
 cases x with
 |JF=>cases r;rfl
 |bl _=>cases r;rfl
 |int _=>obtain⟨t,rfl⟩:=r;rfl
 |str _=>obtain⟨t,rfl⟩:=r;rfl
 |ref _=>cases r;rfl
 |ty _=>cases r;rfl
def RelV.inj (r:RelV x u)(q:RelV y u):x=y:=I_ (r.abs.symm.trans q.abs)
theorem Vals.inj:∀ {xs ys:Ñ}{us:Ï},Vals xs us->Vals ys us->xs=ys
 |_,_,_,.nil,.nil=>rfl
 |_,_,_,.cons r t,.cons r' t'=>by rw[r.inj r',Vals.inj t t']
def K0.of {K:Frag}(h:H a=Δ (.tup xs)):K0 K H a xs:=.inl (.inl h)
def Inv.list (I:Inv X pins σ H s)(h:K2 X.K H a xs):∃its:Ï,Vals xs its/\PlainL s.heap a its.toArray/\xs.length<=Ζ:=by
 rcases h with h|⟨o,its,n,hk,hc,hd,hs,hz,r⟩
 ·obtain⟨z,its,n,r,e⟩:=h.ok I.JO;exact⟨its,r,⟨_,n,e,rfl,rfl,rfl⟩,z⟩
 ·refine⟨its.toList,r,⟨o,n,I.LV a o hk,hc,hd,by simpa using hs⟩,?_⟩;have e:=r.length;simp only[T_]at e;omega
def Inv.tuple (I:Inv X pins σ H s)(h:K0 X.K H a xs):∃its:Ï,Vals xs its/\IsTup s.heap a its.toArray/\xs.length<=Ζ:=by
 rcases h with h|⟨o,its,n,hk,hc,hs,hz,r⟩
 ·obtain⟨z,its,r,p⟩:=h.ok I.JO;exact⟨its,r,p,z⟩
 ·refine⟨its.toList,r,⟨o,I.LV a o hk,hc,n,by simpa using hs⟩,?_⟩;have e:=r.length;simp only[T_]at e;omega
def Inv.Ku (I:Inv X pins σ H s)(h:K2 X.K H a xs)(h':K2 X.K H a ys):xs=ys:=by
 obtain⟨its,r,⟨o,n,e,_,_,d⟩,_⟩:=I.list h;obtain⟨its',r',⟨o',n',e',_,_,d'⟩,_⟩:=I.list h';rw[e]at e';cases e';rw[d]at d';injection d' with d1 _;have:its=its':=by simpa using congrArg Array.toList d1
 subst this;exact r.inj r'
def Inv.Lj (I:Inv X pins σ H s)(h:K0 X.K H a xs)(h':K0 X.K H a ys):xs=ys:=by
 obtain⟨its,r,⟨o,e,_,n,d⟩,_⟩:=I.tuple h;obtain⟨its',r',⟨o',e',_,n',d'⟩,_⟩:=I.tuple h';rw[e]at e';cases e';rw[d]at d';injection d' with d1 _;have:its=its':=by simpa using congrArg Array.toList d1
 subst this;exact r.inj r'
noncomputable abbrev Cx.LM (X:Cx)(E:Ü):Cx:={X with xe:=E}
noncomputable abbrev Cx.JW (X:Cx):Cx:=X.LM λ_ _=>False
theorem Cx.Ok.LM {X:Cx}(ok:X.Ok)(E:Ü):(X.LM E).Ok:=
 ⟨ok.mod,ok.kind,ok.glob,ok.blt,ok.above,ok.inj,ok.has,ok.OZ,ok.hd,ok.frames,ok.JE,ok.PL,ok.bs,ok.Nc,ok.Ma,ok.Mb,ok.Ks,ok.ME⟩
def Cx.Ok.J' {X:Cx}  (ok:(X.LM E).Ok):X.Ok:=
 ⟨ok.mod,ok.kind,ok.glob,ok.blt,ok.above,ok.inj,ok.has,ok.OZ,ok.hd,ok.frames,ok.JE,ok.PL,ok.bs,ok.Nc,ok.Ma,ok.Mb,ok.Ks,ok.ME⟩
theorem Inv.LM (I:Inv X pins σ H s)(E:Ü):Inv (X.LM E) pins σ H s:=⟨I.ok.LM E,I.os,I.bare,I.base,I.loc,I.cell,I.free,I.J4,I.pin,I.JO,I.len⟩
theorem Inv.J' (I:Inv (X.LM E) pins σ H s):Inv X pins σ H s:=⟨I.ok.J',I.os,I.bare,I.base,I.loc,I.cell,I.free,I.J4,I.pin,I.JO,I.len⟩
theorem SP.J' (h:SP (X.LM E) pins D f s'):SP X pins D f s':=by
 cases f with
 |next=>obtain⟨JD,H',I,q⟩:=h;exact⟨JD,H',I.J',q⟩
 |brk=>obtain⟨JD,H',I,q⟩:=h;exact⟨JD,H',I.J',q⟩
 |cont=>obtain⟨JD,H',I,q⟩:=h;exact⟨JD,H',I.J',q⟩
 |ret u=>obtain⟨v,JD,H',I,r,q⟩:=h;exact⟨v,JD,H',I.J',r,q⟩
def EV:TS:=λD σ H=>D.nx σ H
def HC (t u:TS):TS:=λD σ H=>t {D with nx:=u D} σ H
def jM:LL X [] EV:=λ_ _ σ H _ I h=>wpAny_execs_nil ⟨σ,H,I,h⟩
def jj {X:Cx}{st:Stmt}{rest:Á}{t u:TS}(h1:PS X st t)(h2:LL X rest u):LL X (st::rest) (HC t u):=by
 intro pins s σ H D I h;refine wpAny_execs_cons (JP (h1 pins s σ H {D with nx:=u D} I h) λf s1 q=>?_);cases f with
 |next=>obtain⟨JD,H',I',q⟩:=q;exact h2 pins s1 JD H' D I' q
 |ret v=>exact q
 |brk=>exact q
 |cont=>exact q
def Inv.quiet (I:Inv X pins σ H s):interactive X.env=Ξ:=by simp[interactive,I.ok.kind]
def EW (te:TE):TS:=λD σ H=>te σ H λ_ H1=>D.nx σ H1
def lV (he:PE X e te)(hs:swapsWith e Φ pos.line X.env=pure Ξ:=by rfl):PS X (.Expr e pos) (EW te):=by intro pins s σ H D I h;exact wpAny_Expr_any (JP (he pins s σ H _ I h) λv s1 ⟨x,H1,I1,r1,q1⟩=>⟨σ,H1,I1,q1⟩) I.quiet hs
def HE (te:TE):TS:=λD σ H=>te σ H D.rt
def CA (he:PE X e te):PS X (.Return (Δ e) pos) (HE te):=by intro pins s σ H D I h;exact wpAny_Return_some (JP (he pins s σ H _ I h) λv s1 ⟨x,H1,I1,r1,q1⟩=>⟨x,σ,H1,I1,r1,q1⟩)
def EX:TS:=λD _ H=>D.rt .JF H
def zQ:PS X (.Return Φ pos) EX:=λ_ _ σ H _ I h=>wpAny_Return_none ⟨.JF,σ,H,I,rfl,h⟩
def HF (c:TT)(t u:TS):TS:=λD σ H=>c σ H λb H1=>if b=Θ then t D σ H1 else u D σ H1
def tQ (hc:PT X c tc)(ha:LL X a t)(hb:LL X b u):PS X (.If c a b pos) (HF tc t u):=by
 intro pins s σ H D I h;refine wpAny_If (JP (hc pins s σ H _ I h) λd s1 ⟨H1,I1,q1⟩=>?_);cases d with
 |true=>exact ha pins s1 σ H1 D I1 q1
 |false=>exact hb pins s1 σ H1 D I1 q1
@[reducible]def TG:=V->St->Hp->(St->Hp->Prop)->Prop
@[reducible]def Rv:=Ñ->St->Hp->(St->Hp->Prop)->Prop
def PG (X:Cx)(target:Expr)(t:TG):Prop:=
 ∀(pins:É) (s:Α) (σ:St) (H:Hp) (v:V) (u:Ψ) (Q:St->Hp->Prop),Inv X pins σ H s->RelV v u->t v σ H Q->
  Κ (Μ X.prog X.w) X.A (assign target X.env u) (λ_ s'=>∃JD H',Inv X pins JD H' s'/\Q JD H') X.xe s
def SN (X:Cx)(ts:Â)(t:Rv):Prop:=
 ∀(pins:É) (s:Α) (σ:St) (H:Hp) (vs:Ñ) (us:Ï) (Q:St->Hp->Prop),Inv X pins σ H s->Vals vs us->t vs σ H Q->
  Κ (Μ X.prog X.w) X.A (assignInOrder ((assignEach ts X.env).map (·.2)) us) (λ_ s'=>∃JD H',Inv X pins JD H' s'/\Q JD H') X.xe s
@[reducible]def CB:=V->V->V->Hp->(Hp->Prop)->Prop
def CC (X:Cx)(t:CB):Prop:=
 ∀(pins:É) (s:Α) (σ:St) (H:Hp) (o i v:V) (ov iv u:Ψ) (Q:Hp->Prop),Inv X pins σ H s->RelV o ov->RelV i iv->RelV v u->t o i v H Q->
  Κ (Μ X.prog X.w) X.A (setItem ov iv u) (λ_ s'=>∃H',Inv X pins σ H' s'/\Q H') X.xe s
def v9 (i:Nat):TG:=λv σ H Q=>Q (σ.set i (Δ v)) H
def zR (hN:X.N.Nodup)(hi:X.N[i]? = Δ x)(hx:Loc X.env.scope x)(hf:X.fn x=Θ∨X.env.scope.names.lookup x=Δ .local:=by first|exact .inl rfl|exact .inr rfl|assumption):PG X (.Name x pos) (v9 i):=by intro pins s σ H v u Q I r h;exact wpAny_assign_Name (lU I hN hi hx r (λs' I'=>⟨_,H,I',h⟩) hf)
def EY:Rv:=λvs σ H Q=>vs=[]/\Q σ H
def BF (t:TG)(u:Rv):Rv:=λvs σ H Q=>∃v r,vs=v::r/\t v σ H λJD H'=>u r JD H' Q
def zU:SN X [] EY:=by intro pins s σ H vs us Q I r h;obtain⟨e,h⟩:=h;subst e;cases r;exact assignInOrder_nil ⟨σ,H,I,h⟩
def wc (h1:PG X e t)(h2:SN X es u)
  (hs:(assignEach (e::es) X.env).map (·.2)=assign e X.env::(assignEach es X.env).map (·.2):=by rfl):SN X (e::es) (BF t u):=by
 intro pins s σ H vs us Q I r h;obtain⟨v,vr,e1,h⟩:=h;subst e1;cases r with
 |cons r rr=>rw[hs];refine assignInOrder_cons (JP (h1 pins s σ H _ _ _ I r h) λ_ s1 ⟨YD,H1,I1,q1⟩=>?_);exact h2 pins s1 YD H1 _ _ Q I1 rr q1
def EZ (to ti:TE)(t:CB):TG:=λv σ H Q=>to σ H λo H1=>ti σ H1 λi H2=>t o i v H2 λH3=>Q σ H3
def CF (ho:PE X o to)(hi:PE X i ti)(hs:CC X t)
  (ha:∀v,assign (.Subscript o i pos) X.env v=(do
   let ov <- holding [v] (eval o X.env);let iv <- holding [v,ov] (eval i X.env)
   standAt pos
   holding [v,ov,iv] (setItem ov iv v)
   release [v,ov,iv] []):=by intro _;rfl):PG X (.Subscript o i pos) (EZ to ti t):=by
 intro pins s σ H v u Q I r h;rw[ha];refine a_ (L_ (JP (ho pins s σ H _ I h) λov s1 ⟨x,H1,I1,r1,q1⟩=>?_));refine a_ (L_ (JP (hi pins s1 σ H1 _ I1 q1) λiv s2 ⟨y,H2,I2,r2,q2⟩=>?_));refine a_ (wpAny_standAt (a_ (L_ (JP (hs pins s2 σ H2 x y v ov iv u _ I2 r1 r2 r q2) λ_ s3 ⟨H3,I3,q3⟩=>?_))));exact wpAny_release ⟨σ,H3,I3,q3⟩
def zV (te:TE)(g:TG):TS:=λD σ H=>te σ H λx H1=>g x σ H1 D.nx
def nY (he:PE X e te)(hg:PG X tg g)(hs:swapsWithSole [tg] e pos.line X.env=pure Ξ:=by rfl)(hw:swappedStores [tg] e X.env=pure Φ:=by rfl)
  (h1:(assignEach [tg] X.env).map (·.2)=[assign tg X.env]:=by rfl):PS X (.Assign [tg] e pos) (zV te g):=by
 intro pins s σ H D I h;refine wpAny_Assign_stores (JP (he pins s σ H _ I h) λv s1 ⟨x,H1,I1,r1,q1⟩=>?_) hs hw;rw[h1];exact JP (hg pins s1 σ H1 x v _ I1 r1 q1) λ_ s2 q=>q
def p9 (hN:X.N.Nodup)(hi:X.N[i]? = Δ x)(hx:Loc X.env.scope x)(he:PE X e te)(hs:swapsWith e (Δ (.Name x pos')) pos.line X.env=pure Ξ:=by rfl)(hf:X.fn x=Θ∨X.env.scope.names.lookup x=Δ .local:=by first|exact .inl rfl|exact .inr rfl|assumption) :
  PS X (.Assign [.Name x pos'] e pos) (zV te (v9 i)):=by
 intro pins s σ H D I h;refine wpAny_Assign_Name (JP (he pins s σ H _ I h) λv s1 ⟨y,H1,I1,r1,q1⟩=>?_) hs;exact lU I1 hN hi hx r1 (λs2 I2=>⟨_,H1,I2,q1⟩) hf
structure It where
 go:Nat->Hp->Prop
 Ob:Nat->Hp->V->Hp->Prop
 stop:Nat->Hp->Prop
def lA (X:Cx)(pins:É)(H:Hp)(b:Ω):Prop:=
 H b=Φ/\b≠X.env.locals/\b∉X.fs/\(b∈X.ex∨X.J6.heap.objs.size<=b)/\(∀x c,X.env.cells.lookup x=Δ c->c≠b)/\∀p∈X.pn++pins,p.1≠b
def Inv.Ny (I:Inv X pins σ H s)(hb:s.heap.objs.size<=b)(hn:H' b=Φ):lA X pins H' b:=by
 refine⟨hn,U_ (B_ I.lt hb),I.V0 hb,.inr (N_ I.sz hb),λx c e z=>?_,λp hp z=>?_⟩
 ·obtain⟨v,q⟩:=I.cell x c e;exact absurd (B_ q.lt (by rw[z];exact hb)) (S_ _)
 ·exact absurd (B_ (j_ (I.pin p hp).1) (by rw[z];exact hb)) (S_ _)
structure Turn (P:Ε)(w:Β)(K:Frag)(tg:Expr)(J:It)(fp:Î)(it:Ω)(tn:Nat->Heap->Prop):Prop where
 mem:it∈fp
 obj:∀i h,tn i h->∀b∈fp,∃o,h.get? b=Δ o/\∀v,o.data≠.cell v
 keep:∀i h h',tn i h->(∀b∈fp,∀o,h.get? b=Δ o->h'.get? b=Δ o)->tn i h'
 item:∀(X:Cx),X.prog=P->X.w=w->X.K=K->X.calm=Θ->∀(i:Nat) (pins:É) (s:Α) (σ:St) (H:Hp) (E:Ü),Inv X pins σ H s->(∀b∈fp,lA X pins H b)->tn i s.heap->J.go i H->
  Κ (Μ P w) X.A (pyNext (.ref it)) (λr s1=>∃u,r=Δ u/\
   Κ (Μ P w) X.A (letOwnedTupleGo tg (.ref it) u) (λ_ s2=>∃x H',Inv X pins σ H' s2/\RelV x u/\J.Ob i H x H'/\tn (i+1) s2.heap/\∀b∈fp,H' b=Φ) E s1) E s
 done:∀(X:Cx),X.prog=P->X.w=w->X.K=K->X.calm=Θ->∀(i:Nat) (pins:É) (s:Α) (σ:St) (H:Hp) (E:Ü),Inv X pins σ H s->(∀b∈fp,lA X pins H b)->tn i s.heap->J.stop i H->
  Κ (Μ P w) X.A (pyNext (.ref it)) (λr s1=>r=Φ/\Inv X pins σ H s1) E s
 self:∀(A:Ι) (i:Nat) (s:Α) (Q:Ü) (E:Ü),tn i s.heap->Q (.ref it) s->Κ (Μ P w) A (pyIter (.ref it)) Q E s
@[reducible]def TI:=St->Hp->(It->Hp->Prop)->Prop
def Rx (X:Cx)(pins:É)(σ:St)(tg:Expr)(R:It->Hp->Prop)(UZ:Ψ)(s2:Α):Prop:=
 ∃(it:Ω) (fp:Î) (tn:Nat->Heap->Prop) (J:It) (H':Hp),UZ=.ref it/\Inv X pins σ H' s2/\Turn X.prog X.w X.K tg J fp it tn/\tn 0 s2.heap/\(∀b∈fp,lA X pins H' b)/\R J H'
def PI (X:Cx)(tg iter:Expr)(wi:TI):Prop:=
 ∀(pins:É) (s:Α) (σ:St) (H:Hp) (R:It->Hp->Prop),Inv X pins σ H s->wi σ H R->
  Κ (Μ X.prog X.w) X.A (eval iter X.env) (λv s1=>Κ (Μ X.prog X.w) X.A (pyIter v) (Rx X pins σ tg R) X.xe s1) X.xe s
def tR (ho : s.heap.get? it = Δ o)(hc : o.cls = .type n)(hd : o.data = .fields vs)
    (hn : ["enumerate", "zip", "dict_itemiterator", "dict_reverseitemiterator", "odict_iterator", "itertools.zip_longest", "itertools.pairwise"].contains n = Ξ) (hQ : Q () s) : Κ M A (letOwnedTupleGo tg (.ref it) u) Q E s :=by
  unfold letOwnedTupleGo;cases tg <;> first
    | exact e_ hQ
    | (cases u <;> first
        | exact e_ hQ
        | (refine a_ (wpAny_load ho ?_)
           rw [hc,hd];show Κ M A (if(["enumerate", "zip", "dict_itemiterator", "dict_reverseitemiterator", "odict_iterator", "itertools.zip_longest", "itertools.pairwise"].contains n&&vs[0]? == Δ (rawInt _)) = Θ then _ else _) Q E s;rw [f_ (by intro h; rw [hn,Bool.false_and]at h; cases h)]
           exact e_ hQ))
abbrev U0 (K:Frag)(a:Ω):It:=
 ⟨λi H=>∃xs x,K2 K H a xs/\xs[i]? = Δ x,λi H x H'=>H'=H/\∀xs,K2 K H a xs->xs[i]? = Δ x,λi H=>∃xs,K2 K H a xs/\xs.length<=i⟩
abbrev V4 (K:Frag)(a:Ω):It:=
 ⟨λi H=>∃xs x,K0 K H a xs/\xs[i]? = Δ x,λi H x H'=>H'=H/\∀xs,K0 K H a xs->xs[i]? = Δ x,λi H=>∃xs,K0 K H a xs/\xs.length<=i⟩
abbrev SQ (lo:Int)(n:Nat):It:=⟨λi _=>i < n,λi H x H'=>H'=H/\x=.int (lo+i),λi _=>n<=i⟩
def u9 {P:Ε}{w:Β}{K:Frag}{tg:Expr}(a it:Ω):Turn P w K tg (U0 K a) [it] it (λi h=>h.IsListIter it a i) where
 mem:=by simp
 obj:=λi h st b hb=>by
  have e:b=it:=by simpa using hb
  subst e;obtain⟨o,e,c,d⟩:=st;exact⟨o,e,λv z=>by rw[d]at z;cases z⟩
 keep:=λi h h' st k=>st.at λo e=>k it (by simp) o e
 item:=by intro X hP hw hK hc i pins s σ H E I hf st hg;subst hP hw hK;obtain⟨xs,x,hq,hx⟩:=hg;obtain⟨its,rv,p,hz⟩:=I.list hq;obtain⟨u,hu,ru⟩:=rv.get hx;obtain⟨f0,f1,f2,f3,f4,f5⟩:=hf it (by simp);refine wpAny_pyNext_list_item st p.isList (x:=u) (by simpa using hu) λh' Oe sb=>?_;have I1:Inv X pins σ H {s with heap:=h'}:=I.turned (t':=s.toks) (λb o hb e=>(sb.2 b hb).trans e) f0 f1 f3 f4 f5;obtain⟨o,e,c,d⟩:=id Oe;exact⟨u,rfl,tR (s:={s with heap:=h'}) e c d nofun ⟨x,H,I1,ru,⟨rfl,λys hy=>by rw[I.Ku hy hq];exact hx⟩,Oe,λb hb=>(hf b hb).1⟩⟩
 done:=by intro X hP hw hK hc i pins s σ H E I hf st hg;subst hP hw hK;obtain⟨xs,hq,hx⟩:=hg;obtain⟨its,rv,p,hz⟩:=I.list hq;obtain⟨f0,f1,f2,f3,f4,f5⟩:=hf it (by simp);have hl:=rv.length;exact wpAny_pyNext_list_end (I.ok.hd hc) st p.isList (by simp;omega) λh' eb=>⟨rfl,I.turned (t':=s.toks) (λb o hb e=>eb b o hb e) f0 f1 f3 f4 f5⟩
 self:=λ_ _ _ _ _ st h=>wpAny_pyIter_listiter st h
def r6 {P:Ε}{w:Β}{K:Frag}{tg:Expr}(a it:Ω):Turn P w K tg (V4 K a) [it] it (λi h=>h.IsTupleIter it a i) where
 mem:=by simp
 obj:=λi h st b hb=>by
  have e:b=it:=by simpa using hb
  subst e;obtain⟨o,e,c,d⟩:=st;exact⟨o,e,λv z=>by rw[d]at z;cases z⟩
 keep:=λi h h' st k=>st.at λo e=>k it (by simp) o e
 item:=by intro X hP hw hK hc i pins s σ H E I hf st hg;subst hP hw hK;obtain⟨xs,x,hq,hx⟩:=hg;obtain⟨its,rv,p,hz⟩:=I.tuple hq;obtain⟨u,hu,ru⟩:=rv.get hx;obtain⟨f0,f1,f2,f3,f4,f5⟩:=hf it (by simp);refine wpAny_pyNext_tuple_item st (show s.heap.IsTuple a its.toArray from p) (x:=u) (by simpa using hu) λh' Oe sb=>?_;have I1:Inv X pins σ H {s with heap:=h'}:=I.turned (t':=s.toks) (λb o hb e=>(sb.2 b hb).trans e) f0 f1 f3 f4 f5;obtain⟨o,e,c,d⟩:=id Oe;exact⟨u,rfl,tR (s:={s with heap:=h'}) e c d nofun ⟨x,H,I1,ru,⟨rfl,λys hy=>by rw[I.Lj hy hq];exact hx⟩,Oe,λb hb=>(hf b hb).1⟩⟩
 done:=by intro X hP hw hK hc i pins s σ H E I hf st hg;subst hP hw hK;obtain⟨xs,hq,hx⟩:=hg;obtain⟨its,rv,p,hz⟩:=I.tuple hq;obtain⟨f0,f1,f2,f3,f4,f5⟩:=hf it (by simp);have hl:=rv.length;exact wpAny_pyNext_tuple_end (I.ok.hd hc) st (show s.heap.IsTuple a its.toArray from p) (by simp;omega) λh' eb=>⟨rfl,I.turned (t':=s.toks) (λb o hb e=>eb b o hb e) f0 f1 f3 f4 f5⟩
 self:=λ_ _ _ _ _ st h=>wpAny_pyIter_tupleiter st h
def sd {P:Ε}{w:Β}{K:Frag}{tg:Expr}(it:Ω)(lo:Int)(n:Nat):Turn P w K tg (SQ lo n) [it] it (λi h=>IsRangeIter h it (lo+(i:Nat)*1) ((n:Int) - (i:Nat)) 1) where
 mem:=by simp
 obj:=λi h st b hb=>by
  have e:b=it:=by simpa using hb
  subst e
  exact⟨_,st,λv z=>by
   have z':Data.fields _=Data.cell v:=z
   cases z'⟩
 keep:=λi h h' st k=>k it (by simp) _ st
 item:=by intro X hP hw hK hc i pins s σ H E I hf st hg;subst hP hw hK;obtain⟨f0,f1,f2,f3,f4,f5⟩:=hf it (by simp);have W:=Walks.range (prog:=X.prog) (w:=X.w) (I.ok.hd hc) it lo 1 n;refine W.item i s _ _ hg st λv h' tk hv Oe kk=>?_;obtain⟨t,rfl⟩:=hv;have I1:Inv X pins σ H {s with heap:=h',toks:=tk}:=I.turned (λb o hb e=>kk b o (by simpa using hb) e) f0 f1 f3 f4 f5;refine⟨_,rfl,tR (s:={s with heap:=h',toks:=tk}) (n:="range_iterator") Oe rfl rfl nofun ⟨.int (lo+i),H,I1,⟨t,?_⟩,⟨rfl,rfl⟩,Oe,λb hb=>(hf b hb).1⟩⟩;rw[Int.mul_one]
 done:=by intro X hP hw hK hc i pins s σ H E I hf st hg;subst hP hw hK;obtain⟨f0,f1,f2,f3,f4,f5⟩:=hf it (by simp);exact wpAny_pyNext_range_end (I.ok.hd hc) st (by have:n<=i:=hg;omega) λh' eb=>⟨rfl,I.turned (t':=s.toks) (λb o hb e=>eb b o hb e) f0 f1 f3 f4 f5⟩
 self:=λ_ _ _ _ _ st h=>wpAny_pyIter_rangeiter st h
def wg {lo:Int}(I:Inv X pins σ H s)(h1 : -(2 ^ 62)<=lo)(h2:lo < 2 ^ 62)(h3 : -(2 ^ 62)<=hi)(h4:hi < 2 ^ 62)
  (q:R (SQ lo (hi - lo).toNat) H):Κ (Μ X.prog X.w) X.A (pyIter (.ref s.heap.objs.size)) (Rx X pins σ tg R) E {s with heap:=s.heap.push {cls:=.type "range",data:=.fields #[.int lo t,.int hi u,.int 1 v]},toks:=tk}:=by
 refine wpAny_pyIter_range (IsRange.new ..) (small_one h1 h2 h3 h4) ?_;have I1:Inv X pins σ H {s with heap:=s.heap.push {cls:=.type "range",data:=.fields #[.int lo t,.int hi u,.int 1 v]},toks:=tk}:=I.kept λb o e=>m_ _ e
 refine⟨(s.heap.push {cls:=.type "range",data:=.fields #[.int lo t,.int hi u,.int 1 v]}).objs.size,[(s.heap.push {cls:=.type "range",data:=.fields #[.int lo t,.int hi u,.int 1 v]}).objs.size],_,_,H,rfl,
  I1.kept (t':=tk) λb o e=>m_ _ e,sd _ lo (hi - lo).toNat,?_,λb hb=>?_,q⟩
 ·have e1:lo+((0:Nat):Int)*1=lo:=by simp
  have e2:(((hi - lo).toNat:Nat):Int) - ((0:Nat):Int)=Builtin.Range.rangeSize lo hi 1:=by rw[rangeSize_one];split<;>omega
  show IsRangeIter _ _ (lo+((0:Nat):Int)*1) ((((hi - lo).toNat:Nat):Int) - ((0:Nat):Int)) 1;rw[e1,e2];exact w_ _ rfl
 ·have e:b=(s.heap.push {cls:=.type "range",data:=.fields #[.int lo t,.int hi u,.int 1 v]}).objs.size:=by simpa using hb
  subst e;exact I1.Ny (q_ _) (I1.JO.fresh (q_ _))
def E0 (ta:TA):TI:=λσ H R=>ta σ H λvs H1=>∃j:Int,vs=[.int j]/\-(2 ^ 62)<=j/\j < 2 ^ 62/\R (SQ 0 j.toNat) H1
def pJ (hg:Gl X "range") (hm:X.mg "range" = Φ) (ha:PA X [a] ta) (hs:Ν [a] X.env=[(Ξ,eval a X.env)]:=by rfl):PI X tg (.Call (.Name "range" p) [a] [] pos) (E0 ta):=by
 intro pins s σ H R I h;refine Call_ (kD I hg hm boot_range (aaL (JP (ha pos pins s σ H _ I h) λus s1 ⟨vs,H1,I1,r1,q1⟩=>?_) hs rfl));obtain⟨j,e,q1,q2,q⟩:=q1;subst e;cases r1 with
 |cons r rr=>cases rr;obtain⟨t,rfl⟩:=r;exact call_range_1 (wg I1 ⋯ ⋯ q1 q2 (by simpa using q))
def HG (wi:TI)(g:TG)(tb:TS):TS:=λD σ H=>wi σ H λJ H1=>∃W:Nat->Nat->St->Hp->Prop,(∃m,W 0 m σ H1)/\∀i m σ H,W i m σ H->
 (J.stop i H/\D.nx σ H)∨(J.go i H/\∃N:St->Hp->Prop,(∀JD H',N JD H'->∃m',m' < m/\W (i+1) m' JD H')/\∀x H',J.Ob i H x H'->g x σ H' λLW H2=>tb {D with nx:=N,ct:=N,bk:=D.nx} LW H2)
abbrev mI (fp:Î)(h:Heap):É:=fp.filterMap λb=>(h.get? b).map λo=>(b,o)
def kE (hb:b∈fp)(e:h.get? b=Δ o):(b,o)∈mI fp h:=List.mem_filterMap.mpr ⟨b,hb,by rw[e];rfl⟩
def vd (hp:p∈mI fp h):p.1∈fp/\h.get? p.1=Δ p.2:=by
 obtain⟨b,hb,e⟩:=List.mem_filterMap.mp hp;cases q:h.get? b with
 |none=>rw[q]at e;cases e
 |some o=>rw[q]at e;have e':(b,o)=p:=I_ e;subst e';exact⟨hb,q⟩
def Inv.pinned (I:Inv X pins σ H s)(hf:∀b∈fp,lA X pins H b)(ho:∀b∈fp,∃o,s.heap.get? b=Δ o/\∀v,o.data≠.cell v):Inv X (pins++mI fp s.heap) σ H s:=
 I.Nd λp hp=>(t_.mp hp).elim (λz=>I.pin p (r_ _ z)) λz=>by obtain⟨hb,e⟩:=vd z;obtain⟨f0,f1,f2,_⟩:=hf p.1 hb;obtain⟨o,e',d⟩:=ho p.1 hb;rw[e]at e';cases e';exact⟨e,f0,f1,f2,d⟩
def Inv.K8 (I:Inv X (pins++pl) σ H s):Inv X pins σ H s:=I.Nd λp hp=>I.pin p (r_ _ (p_ _ hp))
def wj (hp:PassesOwn (Μ X.prog X.w) X.A X.env X.xe)(hc:X.calm=Θ)(hi:PI X tg iter wi)(hg:PG X tg g)(hb:LL X body tb)
  (hs:∀x,foldedSetIterable iter X.env x=pure x:=by intro _;rfl):PS X (.For tg iter body [] pos) (HG wi g tb):=by
 intro pins s σ H D I h;refine wpAny_For (JP (hi pins s σ H _ I h) λv s1 h1=>JP h1 λUZ s2 h2=>?_) hs;obtain⟨it,fp,tn,J,H2,e,I2,T,PR,f2,W,⟨m0,w0⟩,turn⟩:=h2;subst e
 -- SR stays Θ of Of Qo objects through Of loop
 have MP:∀ {H':Hp},(∀b∈fp,H' b=Φ)->∀b∈fp,lA X pins H' b:=λhn b hb=>⟨hn b hb,(f2 b hb).2⟩
 refine codeAny_forLoop_any (λn s'=>∃i JD H',Inv X pins JD H' s'/\tn i s'.heap/\(∀b∈fp,H' b=Φ)/\W i n JD H') ?_ m0 ⟨0,σ,H2,I2,PR,λb hb=>(f2 b hb).1,w0⟩;rintro n s3 ⟨i,SS,H3,I3,YE,YF,w3⟩;rcases turn i n SS H3 w3 with⟨stop,qn⟩|⟨go,N,hN,step⟩
 ·refine wpAny_passesOwn hp (JP (T.done X rfl rfl rfl hc i pins s3 SS H3 X.xe I3 (MP YF) YE stop) λr s4 ⟨hr,I4⟩=>?_);subst hr;exact wpAny_execs_nil ⟨SS,H3,I4,qn⟩
 ·refine wpAny_passesOwn hp (JP (T.item X rfl rfl rfl hc i pins s3 SS H3 X.xe I3 (MP YF) YE go) λr s4 ⟨u,hr,h4⟩=>?_);subst hr;refine wpAny_passesOwn hp (JP h4 λ_ s5 ⟨x,H5,I5,r5,y5,SU,V5⟩=>?_);have I5':=I5.pinned (MP V5) (T.obj _ _ SU);refine wpAny_passesOwn hp (JP (hg _ s5 SS H5 x u _ I5' r5 (step x H5 y5)) λ_ s6 ⟨Qp,H6,I6,q6⟩=>?_);refine wpAny_passesOwn hp (JP (hb _ s6 Qp H6 _ I6 q6) λf s7 q7=>?_);have again:∀ {Og:St}{H7:Hp},Inv X (pins++mI fp s5.heap) Og H7 s7->N Og H7->∃m,m < n/\∃i JD H',Inv X pins JD H' s7/\tn i s7.heap/\(∀b∈fp,H' b=Φ)/\W i m JD H':=λ{Og H7} I7 n7=>by obtain⟨m',hm,w7⟩:=hN Og H7 n7;refine⟨m',hm,i+1,Og,H7,I7.K8,T.keep _ _ _ SU λb hb o e=>(I7.pin (b,o) (r_ _ (r_ _ (kE hb e)))).1,λb hb=>?_,w7⟩;obtain⟨o,e,d⟩:=T.obj _ _ SU b hb;exact(I7.pin (b,o) (r_ _ (r_ _ (kE hb e)))).2.1
  cases f with
  |next=>obtain⟨Og,H7,I7,n7⟩:=q7;exact again I7 n7
  |cont=>obtain⟨Og,H7,I7,n7⟩:=q7;exact again I7 n7
  |brk=>obtain⟨Og,H7,I7,q7⟩:=q7;exact⟨Og,H7,I7.K8,q7⟩
  |ret v=>obtain⟨x7,Og,H7,I7,r7,q7⟩:=q7;exact⟨x7,Og,H7,I7.K8,r7,q7⟩
@[reducible]def R2:=V->V->Hp->VK->Prop
def LR (X:Cx)(f:Ψ->Ψ->Sem Ψ)(r:R2):Prop:=
 ∀(pins:É) (s:Α) (σ:St) (H:Hp) (x y:V) (v u:Ψ) (Q:VK),Inv X pins σ H s->RelV x v->RelV y u->r x y H Q->
  Κ (Μ X.prog X.w) X.A (f v u) (EP X pins σ Q) X.xe s
def V6 (X:Cx)(f:Ψ->Sem Ψ)(r:V->Hp->VK->Prop):Prop:=
 ∀(pins:É) (s:Α) (σ:St) (H:Hp) (x:V) (v:Ψ) (Q:VK),Inv X pins σ H s->RelV x v->r x H Q->
  Κ (Μ X.prog X.w) X.A (f v) (EP X pins σ Q) X.xe s
def jX (X:Cx)(f:Ψ)(r:Ñ->Hp->VK->Prop):Prop:=
 ∀(pins:É) (s:Α) (σ:St) (H:Hp) (xs:Ñ) (us:Ï) (Q:VK),Inv X pins σ H s->Vals xs us->r xs H Q->
  Κ (Μ X.prog X.w) X.A (call f us) (EP X pins σ Q) X.xe s
def U1 (r:R2)(ta tb:TE):TE:=λσ H Q=>ta σ H λx H1=>tb σ H1 λy H2=>r x y H2 Q
def tUn (r:V->Hp->VK->Prop)(ta:TE):TE:=λσ H Q=>ta σ H λx H1=>r x H1 Q
def rI (C:Int->Int->Prop)(g:Int->Int->V):R2:=λx y H Q=>∃i j,x=.int i/\y=.int j/\C i j/\Q (g i j) H
def V7 (g:Int->Int->V):R2:=λx y H Q=>∃i j,x=.int i/\y=.int j/\Q (g i j) H
def rU (g:Int->V):V->Hp->VK->Prop:=λx H Q=>∃i,x=.int i/\Q (g i) H
def CG (ha:PE X a ta)(hb:PE X b tb)  {R:V->V->Hp->Prop}(I:Inv X pins σ H s)
  (h:ta σ H λx H1=>tb σ H1 λy H2=>R x y H2)  {f:Ψ->Ψ->Sem Ψ}
  (hf:∀v u s2 x y H2,Inv X pins σ H2 s2->RelV x v->RelV y u->R x y H2->Κ (Μ X.prog X.w) X.A (f v u) Q X.xe s2) :
  Κ (Μ X.prog X.w) X.A (eval a X.env) (λv JI=>Κ (Μ X.prog X.w) X.A (eval b X.env) (λu V8=>Κ (Μ X.prog X.w) X.A (f v u) Q X.xe V8) X.xe JI) X.xe s:=by
 refine JP (ha pins s σ H _ I h) λv s1 JG=>?_;obtain⟨x,H1,I1,r1,q1⟩:=JG;refine JP (hb pins s1 σ H1 _ I1 q1) λu s2 JG=>?_;obtain⟨y,H2,I2,r2,q2⟩:=JG;exact hf v u s2 x y H2 I2 r1 r2 q2
def wo (ho:LR X (binaryOp op) r)(ha:PE X a ta)(hb:PE X b tb):PE X (.BinOp a op b pos) (U1 r ta tb):=by intro pins s σ H Q I h;exact wpAny_BinOp (CG ha hb I h λv u s2 x y H2 I2 rx ry q=>ho pins s2 σ H2 x y v u Q I2 rx ry q)
def E1 (ho:V6 X (unaryOp op) r)(ha:PE X a ta):PE X (.UnaryOp op a pos) (tUn r ta):=by intro pins s σ H Q I h;exact UnaryOp_ (JP (ha pins s σ H _ I h) λv s1 ⟨x,H1,I1,r1,q1⟩=>ho pins s1 σ H1 x v Q I1 r1 q1)
def U2 {g:Int->Int->Int}
  (rule:∀(i j:Int) (t u:Tok) (s:Α) (Q:Ü) (E:Ü),C i j->Q (.int (g i j) s.toks) {s with toks:=s.toks+1}->Κ (Μ X.prog X.w) X.A (f (.int i t) (.int j u)) Q E s) :
  LR X f (rI C λi j=>.int (g i j)):=by
 intro pins s σ H x y v u Q I rx ry h;obtain⟨i,j,rfl,rfl,hc,q⟩:=h;obtain⟨t,rfl⟩:=rx;obtain⟨t',rfl⟩:=ry;exact rule i j t t' s _ _ hc ⟨.int (g i j),H,I.tok _,⟨_,rfl⟩,q⟩
def E2 {g:Int->Int->Int}
  (rule:∀(i j:Int) (t u:Tok) (s:Α) (Q:Ü) (E:Ü),Q (.int (g i j) s.toks) {s with toks:=s.toks+1}->Κ (Μ X.prog X.w) X.A (f (.int i t) (.int j u)) Q E s) :
  LR X f (V7 λi j=>.int (g i j)):=by
 intro pins s σ H x y v u Q I rx ry h;obtain⟨i,j,rfl,rfl,q⟩:=h;obtain⟨t,rfl⟩:=rx;obtain⟨t',rfl⟩:=ry;exact rule i j t t' s _ _ ⟨.int (g i j),H,I.tok _,⟨_,rfl⟩,q⟩
def HH (i j:Int):Prop:=0 < j/\j < 1073741824
def HJ (i j:Int):Prop:=0<=j/\j<=1000000/\i.natAbs < 2 ^ 64
def CH (i j:Int):Prop:=(-(2 ^ 64) < i/\i < 2 ^ 64)∨(-(2 ^ 64) < j/\j < 2 ^ 64)
def CH.ok (h:CH i j):IntMulOk i j:=by
 rcases h with⟨h1,h2⟩|⟨h1,h2⟩
 ·exact .of_left (intBits_le_64 h1 h2)
 ·exact .of_right (intBits_le_64 h1 h2)
def CI:LR X (binaryOp .Add) (V7 λi j=>.int (i+j)):=E2 λ_ _ _ _ _ _ _ q=>add_int q
def CJ:LR X (binaryOp .Sub) (V7 λi j=>.int (i - j)):=E2 λ_ _ _ _ _ _ _ q=>sub_int q
def CK:LR X (binaryOp .Mult) (rI CH λi j=>.int (i*j)):=U2 λ_ _ _ _ _ _ _ hc q=>mul_int q hc.ok
def zW:LR X (binaryOp .FloorDiv) (rI HH λi j=>.int (i / j)):=U2 λi j _ _ _ _ _ hc q=>by have h1:(0:Int) < j:=hc.1;have h2:j < 1073741824:=hc.2;exact floordiv_int ⋯ (by rw[Int.fdiv_eq_ediv_of_nonneg i ⋯];exact q) (.inl (PyProof.noPylong_small ⋯))
def CL:LR X (binaryOp .Mod) (rI (λ_ j=>0 < j) λi j=>.int (i % j)):=U2 λi j _ _ _ _ _ hc q=>by have h1:(0:Int) < j:=hc;exact mod_int' ⋯ (by rw[Int.fmod_eq_emod_of_nonneg i ⋯];exact q)
def CM:LR X (binaryOp .Pow) (rI HJ λi j=>.int (i ^ j.toNat)):=U2 λ_ _ _ _ _ _ _ hc q=>pow_int_small hc.1 hc.2.1 hc.2.2 q
def unI {g:Int->Int}
  (rule:∀(i:Int) (t:Tok) (s:Α) (Q:Ü) (E:Ü),Q (.int (g i) s.toks) {s with toks:=s.toks+1}->Κ (Μ X.prog X.w) X.A (f (.int i t)) Q E s) :
  V6 X f (rU λi=>.int (g i)):=by
 intro pins s σ H x v Q I rx h;obtain⟨i,rfl,q⟩:=h;obtain⟨t,rfl⟩:=rx;exact rule i t s _ _ ⟨.int (g i),H,I.tok _,⟨_,rfl⟩,q⟩
def CN:V6 X (unaryOp .USub) (rU λi=>.int (-i)):=unI λ_ _ _ _ _ q=>neg_int q
def zX (ho:LR X (compareOp op) r)(ha:PE X a ta)(hb:PE X b tb)(hm:behindInMarks op b=Ξ):PE X (.Compare a [op] [b] pos) (U1 r ta tb):=by intro pins s σ H Q I h;exact wpAny_Compare1 (CG ha hb I h λv u s2 x y H2 I2 rx ry q=>ho pins s2 σ H2 x y v u Q I2 rx ry q) hm
def BG (t:TE):TT:=λσ H Q=>t σ H λx H'=>∃k,x=.bl k/\Q k H'
def zY (ho:LR X (compareOp op) r)(ha:PE X a ta)(hb:PE X b tb)(hm:behindInMarks op b=Ξ):PT X (.Compare a [op] [b] pos) (BG (U1 r ta tb)):=by
 intro pins s σ H Q I h
 refine wpAny_isTrue_Compare1 (JP (ha pins s σ H _ I h) λv s1 ⟨x,H1,I1,r1,q1⟩=>JP (hb pins s1 σ H1 _ I1 q1) λu s2 ⟨y,H2,I2,r2,q2⟩=>
  JP (ho pins s2 σ H2 x y v u _ I2 r1 r2 q2) λc s3 ⟨z,H3,I3,r3,k,e,q3⟩=>?_) hm
 subst e;cases r3;exact wpAny_truthy_bool ⟨H3,I3,q3⟩
def wq (r r':R2)(ta tb tc:TE):TE:=λσ H Q=>ta σ H λx H1=>tb σ H1 λy H2=>r x y H2 λz H3=>∃k,z=.bl k/\
 (if k=Θ then tc σ H3 λw' H4=>r' y w' H4 Q else Q (.bl Ξ) H3)
def wt (ho:LR X (compareOp op) r)(KZ:LR X (compareOp KN) r')(ha:PE X a ta)(hb:PE X b tb)(hc:PE X c tc)
  (hm:lastMarks [op,KN] [b,c]=Ξ:=by with_unfolding_all rfl):PE X (.Compare a [op,KN] [b,c] pos) (wq r r' ta tb tc):=by
 intro pins s σ H Q I h
 refine Compare_chain (JP (ha pins s σ H _ I h) λv s1 ⟨x,H1,I1,r1,q1⟩=>chain_link (JP (hb pins s1 σ H1 _ I1 q1) λu s2 ⟨y,H2,I2,r2,q2⟩=>
  JP (ho pins s2 σ H2 x y v u _ I2 r1 r2 q2) λd s3 ⟨z,H3,I3,r3,k,e,q3⟩=>?_)) hm
 subst e;cases r3;refine wpAny_truthy_bool ?_;cases k with
 |false=>exact ite_ff ⟨.bl Ξ,H3,I3,rfl,q3⟩
 |true=>exact ite_tt (chain_last (JP (hc pins s3 σ H3 _ I3 q3) λw' s4 ⟨z',H4,I4,r4,q4⟩=>KZ pins s4 σ H4 y z' u w' Q I4 r2 r4 q4))
def wu (ho:LR X (compareOp op) r)(KZ:LR X (compareOp KN) r')(ha:PE X a ta)(hb:PE X b tb)(hc:PE X c tc)
  (hm:lastMarks [op,KN] [b,c]=Ξ:=by with_unfolding_all rfl):PT X (.Compare a [op,KN] [b,c] pos) (BG (wq r r' ta tb tc)):=by
 intro pins s σ H Q I h
 refine isTrue_chain (JP (ha pins s σ H _ I h) λv s1 ⟨x,H1,I1,r1,q1⟩=>test_link (JP (hb pins s1 σ H1 _ I1 q1) λu s2 ⟨y,H2,I2,r2,q2⟩=>
  JP (ho pins s2 σ H2 x y v u _ I2 r1 r2 q2) λd s3 ⟨z,H3,I3,r3,k,e,q3⟩=>?_)) hm
 subst e;cases r3;refine wpAny_truthy_bool ?_;cases k with
 |false=>obtain⟨k',e',q'⟩:=q3;cases e';exact ite_ff ⟨H3,I3,q'⟩
 |true=>refine ite_tt (test_last (JP (hc pins s3 σ H3 _ I3 q3) λw' s4 ⟨z',H4,I4,r4,q4⟩=>JP (KZ pins s4 σ H4 y z' u w' _ I4 r2 r4 q4) λd' s5 ⟨z2,H5,I5,r5,k2,e2,q5⟩=>?_));subst e2;cases r5;exact wpAny_truthy_bool ⟨H5,I5,q5⟩
def nZ:(Ζ:Nat) < 2 ^ 63:=by rw[sizeLine_eq];decide
def sf:LR X (binaryOp .Add) (λx y H Q=>∃i j,x=.str i/\y=.str j/\i.length+j.length<=Ζ/\Q (.str (i++j)) H):=by intro pins s σ H x y v u Q I rx ry h;obtain⟨i,j,rfl,rfl,hz,q⟩:=h;obtain⟨t,rfl⟩:=rx;obtain⟨t',rfl⟩:=ry;exact add_str (λt' tk=>⟨.str (i++j),H,I.tok _,⟨_,rfl⟩,q⟩) hz
def vals1 (r:Vals [x] us):∃u,us=[u]/\RelV x u:=by
 cases r with
 |cons r1 r2=>cases r2;exact⟨_,rfl,r1⟩
def vals2 (r:Vals [x,y] us):∃u w',us=[u,w']/\RelV x u/\RelV y w':=by
 cases r with
 |cons r1 r2=>
  cases r2 with
  |cons r3 r4=>cases r4;exact⟨_,_,rfl,r1,r3⟩
def wx:jX X (.builtin "abs") (λxs H Q=>∃i,xs=[.int i]/\Q (.int (if i < 0 then -i else i)) H):=by intro pins s σ H xs us Q I r h;obtain⟨i,rfl,q⟩:=h;obtain⟨u,rfl,t,rfl⟩:=vals1 r;exact call_abs_int λu tk=>⟨.int (if i < 0 then -i else i),H,I.tok _,⟨_,rfl⟩,q⟩
def vf (hc:X.calm=Θ):jX X (.builtin "max") (λxs H Q=>∃i j,xs=[.int i,.int j]/\Q (.int (if j > i then j else i)) H):=by
 intro pins s σ H xs us Q I r h;obtain⟨i,j,rfl,q⟩:=h;obtain⟨u,w',rfl,⟨t,rfl⟩,⟨t',rfl⟩⟩:=vals2 r;refine max_two_ints (I.ok.hd hc) λh' tk k=>⟨_,H,I.kept k,?_,q⟩
 by_cases hj:j > i
 ·rw[h_ hj,h_ hj];exact⟨_,rfl⟩
 ·rw[f_ hj,f_ hj];exact⟨_,rfl⟩
def vg (hc:X.calm=Θ):jX X (.builtin "min") (λxs H Q=>∃i j,xs=[.int i,.int j]/\Q (.int (if j < i then j else i)) H):=by
 intro pins s σ H xs us Q I r h;obtain⟨i,j,rfl,q⟩:=h;obtain⟨u,w',rfl,⟨t,rfl⟩,⟨t',rfl⟩⟩:=vals2 r;refine min_two_ints (I.ok.hd hc) λh' tk k=>⟨_,H,I.kept k,?_,q⟩
 by_cases hj:j < i
 ·rw[h_ hj,h_ hj];exact⟨_,rfl⟩
 ·rw[f_ hj,f_ hj];exact⟨_,rfl⟩
def HK (K:Frag)(x:V)(H:Hp)(n:Nat):Prop:=
 match x with
 |.str y=>y.length<=Ζ/\n=y.length
 |.ref p=>(∃xs,K2 K H p xs/\n=xs.length)∨∃xs,K0 K H p xs/\n=xs.length
 |_=>False
def n6:jX X (.builtin "len") (λxs H Q=>∃x n,xs=[x]/\HK X.K x H n/\Q (.int n) H):=by
 intro pins s σ H xs us Q I r h;obtain⟨x,n,rfl,e,q⟩:=h;obtain⟨u,rfl,rx⟩:=vals1 r;have hl:=nZ;have hs:Ζ=16777216:=sizeLine_eq;cases x with
 |str y=>obtain⟨t,rfl⟩:=rx;obtain⟨hy,e'⟩:y.length<=Ζ/\n=y.length:=e;subst e';exact len_str ⋯ ⟨.int _,H,I.tok _,⟨_,rfl⟩,q⟩
 |ref p=>
  cases rx;have e':(∃xs,K2 X.K H p xs/\n=xs.length)∨∃xs,K0 X.K H p xs/\n=xs.length:=e;rcases e' with⟨xs,hx,e'⟩|⟨xs,hx,e'⟩
  ·subst e';obtain⟨its,r',pl,hz⟩:=I.list hx;have hlen:=r'.length;exact Calls.call_len_list pl.isList (by simp only[F_];omega) ⟨.int xs.length,H,I.tok _,⟨_,by simp only[F_];rw[hlen]⟩,q⟩
  ·subst e';obtain⟨its,r',pl,hz⟩:=I.tuple hx;have hlen:=r'.length;exact len_tuple pl (by simp only[F_];omega) ⟨.int xs.length,H,I.tok _,⟨_,by simp only[F_];rw[hlen]⟩,q⟩
 |_=>exact(show False from e).elim
structure KO (k:Nat)(A:Ι):Prop where
 hd:k < 1000->A.handled=Φ
 dp:A.depth+3*(k % 1000)+5 < recursionLimit
 un:A.units+16*(k % 1000)+200 < cLine
theorem KO.deeper (r:KO (k+1) A)(env:Env)(hk:k % 1000≠999):KO k (A.deeper env):=
 ⟨λz=>r.hd ⋯,by have:=r.dp;show A.depth+1+3*(k % 1000)+5 < _;omega,by have:=r.un;show A.units+3+16*(k % 1000)+200 < _;omega⟩
theorem KO.depth (r:KO k A):A.depth < recursionLimit:=by have:=r.dp;omega
def sh:TA:=λ_ H Q=>Q [] H
def lE (ta:TE)(tr:TA):TA:=λσ H Q=>ta σ H λx H1=>tr σ H1 λxs H2=>Q (x::xs) H2
def i9:PA X [] sh:=λ_ _ _ _ H Q I h=>Calls.spliced_nil ⟨[],H,I,.nil,h⟩
def iB (ha:PE X e te)(hr:PA X es t)(hs:Ν (e::es) X.env=(Ξ,eval e X.env)::Ν es X.env:=by rfl):PA X (e::es) (lE te t):=by intro pos pins s σ H Q I h;rw[hs];show Κ _ _ (spliced ((Ξ,eval e X.env)::backTo pos (Ν es X.env))) _ _ s;refine Calls.spliced_cons (JP (ha pins s σ H _ I h) λu s1 ⟨x,H1,I1,r1,q1⟩=>?_);exact JP (hr pos pins s1 σ H1 _ I1 q1) λus s2 ⟨xs,H2,I2,r2,q2⟩=>⟨x::xs,H2,I2,.cons r1 r2,q2⟩
def HL (t:TA):TE:=λσ H Q=>t σ H λxs H1=>xs.length<=Ζ/\∀p,H1 p=Φ->Q (.ref p) (upd H1 p (.tup xs))
def E3 (t:TA):TE:=λσ H Q=>t σ H λxs H1=>xs.length<=Ζ/\∀p,H1 p=Φ->Q (.ref p) (upd H1 p (.lst xs))
def qa {x1}(h:PA X es t):PE X (.Tuple es x1 pos) (HL t):=by intro pins s σ H Q I hq;refine wpAny_Tuple_spliced (JP (h pos pins s σ H _ I hq) λus s1 ⟨xs,H1,I1,r,z,q⟩=>⟨by rw[<- r.length];exact z,?_⟩);have hf:H1 s1.heap.objs.size=Φ:=I1.JO.fresh (q_ _);refine⟨.ref s1.heap.objs.size,upd H1 s1.heap.objs.size (.tup xs),I1.laid (t':=s1.toks) (λb u e=>m_ _ e) (q_ _) ?_,rfl,q _ hf⟩;exact⟨z,us,r,⟨_,w_ _ rfl,rfl,_,rfl⟩⟩
def n8 (h:PA X es t):PE X (.List es pos) (E3 t):=by intro pins s σ H Q I hq;refine wpAny_List_spliced (JP (h pos pins s σ H _ I hq) λus s1 ⟨xs,H1,I1,r,z,q⟩=>⟨by rw[<- r.length];exact z,?_⟩);have hf:H1 s1.heap.objs.size=Φ:=I1.JO.fresh (q_ _);refine⟨.ref s1.heap.objs.size,upd H1 s1.heap.objs.size (.lst xs),I1.laid (t':=s1.toks) (λb u e=>m_ _ e) (q_ _) ?_,rfl,q _ hf⟩;exact⟨z,us,0,r,w_ _ rfl⟩
@[reducible]def Sp:=Ñ->Hp->VK->XK->Prop
@[reducible]def Mp:=List Env->Hp->Α->XK->Ü
structure Nz (P:Ε)(w:Β)(K:Frag)(mg:Str->Option Ψ)(base:Heap)(A:Ι)(outer:List Env)(s:Α)(H:Hp):Prop where
 frames:A.frames=Δ outer
 mod:Mod K mg base
 bs:∀b o,base.get? b=Δ o->s.heap.get? b=Δ o/\H b=Φ
 Nc:base.objs.size<=s.heap.objs.size
 Ks:s.heap.FunFrames base outer
 ME:∀b∈KC outer,H b=Φ
 JO:Kw H s.heap
 bare:AllBare s.gens
def CE (outer:List Env)(P:Ε)(w:Β)(H:Hp)(s:Α)(Q:VK)(u:Ψ)(s':Α):Prop:=
 ∃v H',s'.os=s.os/\AllBare s'.gens/\Un (KC outer) [] H H' s.heap s'.heap/\Kw H' s'.heap/\RelV v u/\Q v H'
def CR (CX:Mp)(outer:List Env)(P:Ε)(w:Β)(H:Hp)(s:Α)(Q:VK)(E:XK)(r:Result)(s':Α):Prop:=
 match r with
 |.ok (.ret u)=>CE outer P w H s Q u s'
 |.ok _=>False
 |.error e=>CX outer H s E e s'
structure K9 (P:Ε)(w:Β)(K:Frag)(mg:Str->Option Ψ)(base:Heap)(CX:Mp)(k:Nat)(f:Ω)(fd:Ο)(ps:È)(sp:Sp):Prop where
 len:∀vs H Q E,sp vs H Q E->vs.length=ps.length
 run:∀(A:Ι) (outer:List Env) (s:Α) (H:Hp) (args:Args) (us:Ï) (vs:Ñ) (Q:VK) (E:XK),KO k A->Nz P w K mg base A outer s H->BindsTo s fd args (ps.zip us)->Vals vs us->sp vs H Q E->
  codeAny (Μ P w) A (.call (.ref f) args) (CR CX outer P w H s Q E) s
def Inv.LN (I:Inv X pins σ H s):Nz X.prog X.w X.K X.mg X.base X.A X.stack s H:=
 ⟨I.ok.frames,I.ok.mod,I.bs,N_ I.ok.Nc I.sz,I.stack,I.Mc,I.JO,I.bare⟩
def Inv.after (I:Inv X pins σ H s)(h:CE X.stack X.prog X.w H s Q u s'):EP X pins σ Q u s':=by obtain⟨v,H',os,bare,un,JO,r,q⟩:=h;obtain⟨hh,g,d,t,V9⟩:=s';obtain rfl:V9=s.os:=os;exact⟨v,H',I.call (h':=hh) (g':=g) (d':=d) (t':=t) (ch:=[]) un JO bare (λb z=>absurd z (by simp)),r,q⟩
def Binds (K:Frag)(fd:Ο)(ps:È)(ds:Ï):Prop:=
 ∀(s:Α) (us:Ï),K.In s.heap->(us++ds).length=ps.length->BindsTo s fd ⟨us,[]⟩ (ps.zip (us++ds))
def Binds.all {K:Frag}  (h:∀us:Ï,us.length=ps.length->bindArgs fd ⟨us,[]⟩=pure (ps.zip us)):Binds K fd ps []:=λs us _ hl=>by rw[P_]at hl ⊢;exact .of_eq (h us hl)
def Passes (CX:Mp)(X:Cx)(E:XK):Prop:=∀(pins:É) (σ:St) (H:Hp) (s:Α) (e:Ψ) (s':Α),Inv X pins σ H s->CX X.stack H s E e s'->X.xe e s'
structure Md (N P:È)(sc:Scope):Prop where
 kind:sc.kind=.function
 co:sc.isCoroutine=Ξ
 gen:sc.isGenerator=Ξ
 nd:N.Nodup
 pre:N.take P.length=P
 par:∀x∈P,sc.names.lookup x=Δ .local∨sc.names.lookup x=Δ .cell
 Qq:∀y∈sc.names,y.2≠.free
theorem pK {kindOf:Str->Option NameKind}  : ∀ {binds:List (Str×Ψ)}{m:Str->Option Ψ},(∀v,(x,v)∉binds)->bindL kindOf binds m x=m x
 |[],_,_=>rfl
 | (n,v)::r,m,h=>by
  unfold bindL;rw[pK λw hw=>h w (H_ _ hw)];split
  ·have:x≠n:=by rintro rfl;exact h v aaf
   simp[this]
  ·rfl
theorem pL {kindOf:Str->Option NameKind}  : ∀ {binds:List (Str×Ψ)}{m:Str->Option Ψ},(∀v,(x,v)∉binds)->bindC kindOf binds m x=m x
 |[],_,_=>rfl
 | (n,v)::r,m,h=>by
  unfold bindC;rw[pL λw hw=>h w (H_ _ hw)];split
  ·rfl
  ·have:x≠n:=by rintro rfl;exact h v aaf
   simp[this]
theorem pM {kindOf:Str->Option NameKind}{x:Str}  : ∀ {P:È}{vs:Ï}{i:Nat}{m:Str->Option Ψ},P.Nodup->P[i]? = Δ x->vs[i]? = Δ v->kindOf x=Δ .local->
  bindL kindOf (P.zip vs) m x=Δ v
 |[],_,_,_,_,h,_,_=>by simp at h
 |_::_,[],_,_,_,_,h,_=>by simp at h
 |p::P,w::vs,0,m,nd,h1,h2,hk=>by simp at h1 h2;subst h1;subst h2;show bindL kindOf ((p,w)::P.zip vs) m p=_;unfold bindL;rw[pK λv hv=>(G_.mp nd).1 (List.of_mem_zip hv).1,h_ hk];simp
 |p::P,w::vs,i+1,m,nd,h1,h2,hk=>by show bindL kindOf ((p,w)::P.zip vs) m x=_;unfold bindL;exact pM (i:=i) (G_.mp nd).2 (by simpa using h1) (by simpa using h2) hk
theorem pN {kindOf:Str->Option NameKind}{x:Str}  : ∀ {P:È}{vs:Ï}{i:Nat}{m:Str->Option Ψ},P.Nodup->P[i]? = Δ x->vs[i]? = Δ v->kindOf x≠Δ .local->
  bindC kindOf (P.zip vs) m x=Δ v
 |[],_,_,_,_,h,_,_=>by simp at h
 |_::_,[],_,_,_,_,h,_=>by simp at h
 |p::P,w::vs,0,m,nd,h1,h2,hk=>by simp at h1 h2;subst h1;subst h2;show bindC kindOf ((p,w)::P.zip vs) m p=_;unfold bindC;rw[pL λv hv=>(G_.mp nd).1 (List.of_mem_zip hv).1,f_ hk];simp
 |p::P,w::vs,i+1,m,nd,h1,h2,hk=>by show bindC kindOf ((p,w)::P.zip vs) m x=_;unfold bindC;exact pN (i:=i) (G_.mp nd).2 (by simpa using h1) (by simpa using h2) hk
abbrev start (N:È)(vs:Ñ):St:=vs.map Δ++Τ (N.length - vs.length) Φ
abbrev kF (CX:Mp)(P:Ε)(w:Β)(K:Frag)(mg:Str->Option Ψ)(base:Heap)(N:È)(qual:Str)(scope:Scope)(f:Ω)(cd:Ψ)(A:Ι)(outer:List Env)(s:Α)(H:Hp)(E:XK):Cx where
 prog:=P
 w:=w
 K:=K
 mg:=mg
 base:=base
 A:=A.deeper (envOfC qual scope s.heap.objs.size f cd)
 N:=N
 J6:=s
 KJ:=H
 env:=envOfC qual scope s.heap.objs.size f cd
 outer:=outer
 stack:=envOfC qual scope s.heap.objs.size f cd::outer
 ex:=[]
 calm:=A.handled.isNone
 fn:=λ_=>Θ
 pn:=[]
 xe:=λe s'=>Κ (Μ P w) (A.deeper (envOfC qual scope s.heap.objs.size f cd)) (leaving (envOfC qual scope s.heap.objs.size f cd) e) (λ_ Oh=>CX outer H s E e Oh) (λe' Oh=>CX outer H s E e' Oh) s'
def qM {sc:Scope}  (h:sc.names.lookup x=Δ .cell):∃c,(cellsFrom n sc.names []).lookup x=Δ c:=by have q:=PySem.W.cellsFrom_some sc.names n [] (.inl h);exact Option.isSome_iff_exists.mp q
def vi {K:Frag}
  (S:Md N ps scope) (e0:Nz P w K mg base A outer s H) (hl:vs.length=ps.length) (r:Vals vs us)
  (x:InCallC s s.heap.objs.size (bindL (envOfC qual scope s.heap.objs.size f cd).kindOf (ps.zip us) λ_=>Φ) (cellsFrom (s.heap.objs.size+1) scope.names []) (bindC (envOfC qual scope s.heap.objs.size f cd).kindOf (ps.zip us) λ_=>Φ) s1) :
  Inv (kF CX P w K mg base N qual scope f cd A outer s H E) [] (start N vs) H s1:=by
 have MF:ps.length<=N.length:=by have:=congrArg List.length S.pre;rw[aab]at this;omega
 obtain⟨h1,tk,rfl,hk⟩:=x.done;have SV:∀b:Ω,b∉(kF CX P w K mg base N qual scope f cd A outer s H E).ex:=λb z=>absurd (show b∈([]:Î) from z) (by simp)
 refine⟨⟨e0.mod,S.kind,rfl,rfl,q_ _,λy z c h1 h2=>?_,λy hy=>?_,λy c _ h=>?_,λh=>Option.isNone_iff_eq_none.mp h,Around.frames_deeper e0.frames,.inr ⟨rfl,rfl⟩,λb z=>absurd z (SV b),e0.bs,e0.Nc,λb _ _=>SV b,λb z=>absurd z (SV b),e0.Ks,e0.ME⟩,
  rfl,e0.bare,Un.kept hk,⟨_,x.toInCall.ns,λi y v h1 h2 h3=>?_⟩,λy c h=>⟨_,x.cell y c h⟩,e0.JO.fresh (q_ _),λy c h=>?_,λp hp=>absurd (show p∈([]:É) from hp) (by simp),e0.JO.kept hk,?_⟩
 ·exact name_of_addr x.apart (PySem.mem_of_lookup h1) (PySem.mem_of_lookup h2)
 ·have hy:scope.names.lookup y=Δ .cell∨scope.names.lookup y=Δ .free:=hy;rcases hy with hy|hy
  ·exact qM hy
  ·exact absurd rfl (S.Qq _ (PySem.mem_of_lookup hy))
 ·exact Nat.le_of_lt (x.above y c (PySem.mem_of_lookup h))
 ·have hi:i < vs.length:=by
   unfold start at h2;by_cases hi:i < vs.length
   ·exact hi
   ·rw[aaH (by simpa using hi)]at h2;rw[List.getElem?_replicate]at h2;split at h2<;>cases h2
  have ha:vs[i]? = Δ v:=by
   unfold start at h2;rw[aaI (by simpa using hi),D_]at h2;cases e:vs[i]? with
   |none=>rw[e]at h2;cases h2
   |some a=>rw[e]at h2;cases h2;rfl
  obtain⟨u,hu,rv⟩:=r.get ha;have hp:ps[i]? = Δ y:=by rw[<- S.pre,List.getElem?_take_of_lt ⋯];exact h1
  have YG:ps.Nodup:=by rw[<- S.pre];exact S.nd.sublist (List.take_sublist _ _)
  refine⟨u,rv,?_⟩;rcases S.par y (Y_ hp) with k|k
  ·exact .inl ⟨k,pM YG hp hu k⟩
  ·obtain⟨c,e⟩:=qM (n:=s.heap.objs.size+1) k;refine .inr ⟨.inl k,c,e,?_⟩;have q:=x.cell y c e;rw[pN YG hp hu (by show scope.names.lookup y≠_;rw[k];decide)]at q;exact q
 ·exact e0.JO.fresh (Nat.le_of_lt (x.above y c (PySem.mem_of_lookup h)))
 ·unfold start;show _=N.length;rw[u_,i_,List.length_replicate];omega
def BH {K:Frag}
 (lk:K.lookup f=Δ ⟨oc,od,.func (PySem.W.fnOf name qual params body scope dV kV doc pm an LX ct),Qr⟩) (Oa:PySem.W.codeIn K LX qual=Θ) (S:Md N ps scope)
  (hk9:k % 1000≠999) (len:∀vs H Q E,sp vs H Q E->vs.length=ps.length)
  (SX:∀(A:Ι) (outer:List Env) (s:Α) (H:Hp) (vs:Ñ) (Q:VK) (E:XK),KO k (A.deeper (envOfC qual scope s.heap.objs.size f LX))->sp vs H Q E->
   ∃t,LL (kF CX P w K mg base N qual scope f LX A outer s H E) body t/\t {nx:=λ_ H'=>Q .JF H',rt:=Q} (start N vs) H) :
  K9 P w K mg base CX (k+1) f (PySem.W.fnOf name qual params body scope dV kV doc pm an LX ct) ps sp:=by
 refine⟨len,λA outer s H args us vs Q E hr e0 hb r MG=>?_⟩;have hl:=len _ _ _ _ MG;have KX:K.In s.heap:=e0.mod.Qn.keeps λb o e=>(e0.bs b o e).1;have lim:s.heap.NoLimit:=e0.mod.nolimit.keeps λb o e=>(e0.bs b o e).1;have SY:∀y∈ps.zip us,scope.names.lookup y.1=Δ .local∨(scope.names.lookup y.1=Δ .cell/\((cellsFrom (s.heap.objs.size+1) scope.names []).lookup y.1).isSome=Θ):=λ⟨n,v⟩ hy=>by
  rcases S.par n (List.of_mem_zip hy).1 with q|q
  ·exact .inl q
  ·exact .inr ⟨q,PySem.W.cellsFrom_some _ _ _ (.inl q)⟩
 refine codeAny_call_function hr.depth (KX _ _ lk) rfl S.co S.gen rfl (PySem.W.codeRec_of KX Oa) (hb _ _ _ _ ?_);refine wpAny_newFunctionEnv_cells S.kind SY λenv he s1 x=>?_;subst he;refine⟨lim.keeps x.toInCall.keep,codeAny_func ?_⟩;obtain⟨t,ht,hq⟩:=SX A outer s H vs Q E (hr.deeper _ hk9) MG;have I:Inv (kF CX P w K mg base N qual scope f LX A outer s H E) [] (start N vs) H s1:=vi S e0 hl r x;refine wpAny_mono (ht [] s1 (start N vs) H _ I hq) (λfl s' hs=>?_) λe s' hs=>hs;have fin:∀ {JD:St}{H':Hp}{v:V}{u:Ψ},Inv (kF CX P w K mg base N qual scope f LX A outer s H E) [] JD H' s'->RelV v u->Q v H'->CE outer P w H s Q u s':=
  λ{JD H' v u} J rv q=>⟨v,H',J.os,J.bare,J.base,J.JO,rv,q⟩
 cases fl with
 |ret u=>obtain⟨v,JD,H',J,rv,q⟩:=hs;exact fin J rv q
 |next=>obtain⟨JD,H',J,q⟩:=hs;exact fin (v:=V.JF) (u:=Value.none) J rfl q
 |brk=>obtain⟨_,_,_,q⟩:=hs;exact False.elim q
 |cont=>obtain⟨_,_,_,q⟩:=hs;exact False.elim q
def V' (r:Ñ->Hp->VK->Prop)(t:TA):TE:=λσ H Q=>t σ H λvs H1=>r vs H1 Q
def kT {id:String}(hc:jX X (.builtin id) r)(hg:Gl X x)(hm:X.mg x=Φ)(hv:bootBuiltins x=Δ (.builtin id))(ha:PA X (e::es) t)(hn:x≠"__name__":=by decide) (Wa:(x == ("__debug__" : Str))=Ξ:=by decide)
  (he:Ν (e::es) X.env=(Ξ,eval e X.env)::Ν es X.env:=by rfl) (MF:(backTo pos (Ν es X.env)).any (·.1)=Ξ:=by rfl):PE X (.Call (.Name x p) (e::es) [] pos) (V' r t):=by
 intro pins s σ H Q I h;refine aaJ (kD I hg hm hv ?_ hn Wa);exact PyProof.Rows.callWith_builtin1 (JP (ha pos pins s σ H _ I h) λus s1 ⟨vs,H1,I1,r1,q1⟩=>hc pins s1 σ H1 vs us Q I1 r1 q1) he MF
def mJ (hc:jX X (.type T) r)(hg:Gl X x)(hm:X.mg x=Φ)(hv:bootBuiltins x=Δ (.type T))(ha:PA X (e::es) t)(hn:x≠"__name__":=by decide) (Wa:(x == ("__debug__" : Str))=Ξ:=by decide)
  (he:Ν (e::es) X.env=(Ξ,eval e X.env)::Ν es X.env:=by rfl) (MF:(backTo pos (Ν es X.env)).any (·.1)=Ξ:=by rfl):PE X (.Call (.Name x p) (e::es) [] pos) (V' r t):=by
 intro pins s σ H Q I h;refine aaJ (kD I hg hm hv ?_ hn Wa);exact aaL (JP (ha pos pins s σ H _ I h) λus s1 ⟨vs,H1,I1,r1,q1⟩=>hc pins s1 σ H1 vs us Q I1 r1 q1) he MF
end L2
namespace HT
open PySem PyProof.Rows
def O1 (ht:IsTup s.heap t vs.toArray)(hb:IsTup s.heap b ws.toArray)(hv:vs≠[])
  (h1:ws=[]->Q (.ref t) s) (h2:ws≠[]->Q (.ref s.heap.objs.size) {s with heap:=s.heap.push {cls:=.type "tuple",data:=.seq (vs++ws).toArray}})
  (hsz:vs.length+ws.length<=Ζ):Κ (Μ prog w) A (binaryOp .Add (.ref t) (.ref b)) Q E s:=by
 obtain⟨⟨cls,dd,data,sl⟩,ho,hc,n,hd⟩:=id ht;obtain⟨⟨aa1,YH,data2,Ry⟩,O6,O7,n2,hd2⟩:=id hb;simp only at hc hd O7 hd2;subst hc hd O7 hd2;have e:vs.toArray++ws.toArray=(vs++ws).toArray:=by simp
 by_cases hw:ws=[]
 ·exact concat_meets ⟨_,ho,rfl⟩ ⟨_,O6,rfl⟩ noFill_tuple_add seq_tuple_add PySem.F.slot_tuple_add PySem.F.entry_tuple_add (PySem.F.args_tuple_add_2 _ _)
   (tuple_addW1 t b vs.toArray ws.toArray n n2 dd YH sl Ry (by simpa using hv) (by simp[hw])) ⟨ho,O6,h1 hw⟩
 ·refine concat_meets ⟨_,ho,rfl⟩ ⟨_,O6,rfl⟩ noFill_tuple_add seq_tuple_add PySem.F.slot_tuple_add PySem.F.entry_tuple_add (PySem.F.args_tuple_add_2 _ _)
   (tuple_addW2 t b vs.toArray ws.toArray n n2 dd YH sl Ry (by simpa using hv) (by simpa using hw) (by rw[F_,F_];exact hsz)) ⟨ho,O6,?_⟩
  rw[e];exact h2 hw
abbrev J1 (n d:Nat):Option Int->Nat
 |none=>d
 |some v=>if v < 0 then(v+(n:Int)).toNat else min v.toNat n
def CO (n d:Nat)(hd:d<=n)(o:Option Int):J1 n d o<=n:=by
 cases o with
 |none=>exact hd
 |some v=>
  show(if v < 0 then(v+(n:Int)).toNat else min v.toNat n)<=n;by_cases hv:v < 0
  ·rw[h_ hv];omega
  ·rw[f_ hv];exact Nat.min_le_right _ _
def tU (v:Int)(n d:Nat):(if v < 0 then max (v+(n:Int)) 0 else min v (n:Int))=((J1 n d (Δ v):Nat):Int):=by
 show(if v < 0 then max (v+(n:Int)) 0 else min v (n:Int))=(((if v < 0 then(v+(n:Int)).toNat else min v.toNat n):Nat):Int)
 by_cases hv:v < 0
 ·simp only[h_ hv];omega
 ·simp only[f_ hv];omega
def si (lo hi:Option Int)(n:Nat):Builtin.Slice.sliceAdjust lo hi 1 (n:Int)=(((J1 n 0 lo:Nat):Int),((J1 n n hi:Nat):Int)):=by
 have h1:¬((1:Int) < 0):=⋯
 unfold Builtin.Slice.sliceAdjust;simp only[h1,if_false];refine Prod.ext ?_ ?_
 ·cases lo with
  |none=>rfl
  |some v=>exact tU v n 0
 ·cases hi with
  |none=>rfl
  |some v=>exact tU v n n
def sj (i j:Nat):Builtin.Slice.slicePlaces (i:Int) (j:Int) 1=j - i:=by
 unfold Builtin.Slice.slicePlaces;have h1:(1:Int) > 0:=⋯
 simp only[h1,if_true,Int.ediv_one];split<;>omega
def og (p:IsPart v o)(h:Q o s):Κ (Μ prog w) A (Builtin.Slice.slicePartIndex v) Q E s:=by
 cases p with
 |none=>exact slicePart_none h
 |int i t=>exact slicePart_int h
def mK {lo:Option Int}{n:Nat}  (hs:s.heap.IsSliceOf sl vl vu .none)(pl:IsPart vl lo)(pu:IsPart vu hi)
  (h:Q (((J1 n 0 lo:Nat):Int),1,J1 n n hi - J1 n 0 lo) s):Κ (Μ prog w) A (Builtin.Slice.sliceApplied (.ref sl) (pure (n:Int))) Q E s:=by
 obtain⟨os,S1,PU,U3⟩:=id hs;unfold Builtin.Slice.sliceApplied Builtin.Slice.sliceFields;refine a_ (a_ (M_ S1 U3 (x:=vl) rfl (a_ (M_ S1 U3 (x:=vu) rfl (a_ (M_ S1 U3 (x:=.none) rfl (e_ ?_)))))));refine a_ (slicePart_none ?_);show Κ _ _ (if((1:Int) == 0)=Θ then _ else _) _ _ s;rw[f_ nofun];refine a_ (og pl (a_ (og pu (a_ (e_ ?_)))));show Κ _ _ (match Builtin.Slice.sliceAdjust lo hi 1 (n:Int) with|(lo,hi)=>pure (lo,(1:Int),Builtin.Slice.slicePlaces lo hi 1)) _ _ s;rw[si lo hi n];show Κ _ _ (pure (((J1 n 0 lo:Nat):Int),(1:Int),Builtin.Slice.slicePlaces ((J1 n 0 lo:Nat):Int) ((J1 n n hi:Nat):Int) 1)) _ _ s;rw[sj];exact e_ h
def wy (xs:Array Ψ)(i k:Nat):((List.range k).filterMap λ(m:Nat)=>xs[((i:Int)+(m:Int)*1).toNat]?).toArray=((xs.toList.drop i).take k).toArray:=by
 have e:(λ(m:Nat)=>xs[((i:Int)+(m:Int)*1).toNat]?)=λm=>xs[i+m]?:=by
  funext m;have:((i:Int)+(m:Int)*1).toNat=i+m:=⋯
  rw[this]
 rw[e];have:=pick_run xs i k;rw[List.filterMap_map]at this;have e2:((λx=>xs[x]?) ∘ λx=>i+x)=λm=>xs[i+m]?:=rfl;rw[e2]at this;rw[this]
def K' {lo:Option Int}(ht:IsTup s.heap t items)(hs:s.heap.IsSliceOf sl vl vu .none)(pl:IsPart vl lo)(pu:IsPart vu hi)
  (hw:¬(J1 items.size 0 lo=0/\J1 items.size items.size hi=items.size))
  (h:Q (.ref s.heap.objs.size) {s with heap:=s.heap.push {cls:=.type "tuple",data:=.seq ((items.toList.drop (J1 items.size 0 lo)).take (J1 items.size items.size hi - J1 items.size 0 lo)).toArray}})
  (hsz:items.size<=Ζ):Κ (Μ prog w) A (getItem (.ref t) (.ref sl)) Q E s:=by
 have Ng:sizeOk (.seq ((items.toList.drop (J1 items.size 0 lo)).take (J1 items.size items.size hi - J1 items.size 0 lo)).toArray):=by show((items.toList.drop (J1 items.size 0 lo)).take (J1 items.size items.size hi - J1 items.size 0 lo)).toArray.size<=Ζ;rw[F_,aab,aan,T_];omega
 have hj:J1 items.size items.size hi<=items.size:=CO _ _ (q_ _) hi;obtain⟨os,S1,PU,U3⟩:=id hs;have hTs:s.TypeIs (.ref sl) "slice":=⟨os,S1,PU⟩
 unfold getItem
 try with_reducible refine L_ ?_
 first|refine a_ (e_ ?_)|skip
 refine a_ (wpAny_sequenceKey ht.typeIs nofun ?_)
 refine a_ (wpAny_callSpecial?_slot (name:=Ρ "__getitem__") ht.typeIs PyProof.Rows.slot_tuple_getitem
  (aaa PyProof.Rows.slot_tuple_getitem ht.typeIs entry_tuple_getitem ?_ (args_tuple_getitem _ _)))
 show Κ _ _ (Builtin.Tuple.tupleItemsOf (.ref t) >>= _) _ _ s;refine a_ (tupleItemsOf_ ht ?_);refine a_ (wpAny_typeOf hTs ?_);rw[h_ nofun];refine a_ (mK hs pl pu ?_);have hno:¬((((J1 items.size 0 lo:Nat):Int) == 0&&(1:Int) == 1&&(J1 items.size items.size hi - J1 items.size 0 lo) == items.size)=Θ):=by intro q;rw[d_,d_]at q;have q1:((J1 items.size 0 lo:Nat):Int)=0:=g_ q.1.1;have q2:J1 items.size items.size hi - J1 items.size 0 lo=items.size:=g_ q.2;exact hw ⟨⋯,⋯⟩
 show Κ _ _ (if(((J1 items.size 0 lo:Nat):Int) == 0&&(1:Int) == 1&&(J1 items.size items.size hi - J1 items.size 0 lo) == items.size)=Θ then _ else _) _ _ s;rw[f_ hno,wy]
 first
  | exact a_ (m:=Builtin.Tuple.tupleExact _) (aac (e_ ⟨_,rfl,e_ h⟩) Ng)
  | exact a_ (m:=Builtin.Tuple.tupleExact _) (aac (a_ (e_ (e_ ⟨_,rfl,e_ h⟩))) Ng)
  | exact a_ (a_ (m:=Builtin.Tuple.tupleExact _) (aac (e_ (e_ ⟨_,rfl,e_ h⟩)) Ng))
  | exact a_ (a_ (m:=Builtin.Tuple.tupleExact _) (aac (e_ ⟨_,rfl,e_ h⟩) Ng))
end HT
namespace L2
open PySem PySem.Spec PyProof.Rows
@[reducible]def TO:=St->Hp->(Option Int->Hp->Prop)->Prop
def PO (X:Cx)(e:Option Expr)(t:TO):Prop:=
 ∀(pins:É) (s:Α) (σ:St) (H:Hp) (Q:Option Int->Hp->Prop),Inv X pins σ H s->t σ H Q->
  Κ (Μ X.prog X.w) X.A (evalPart e X.env) (λu s'=>∃o H',Inv X pins σ H' s'/\IsPart u o/\Q o H') X.xe s
def zZ:TO:=λ_ H Q=>Q Φ H
def E4 (t:TE):TO:=λσ H Q=>t σ H λx H1=>∃i,x=.int i/\Q (Δ i) H1
def intsAre_of:∀ {us:Ï},Vals (ns.map V.int) us->IntsAre us ns:=by
 induction ns with
 |nil=>intro us r;rw[List.map_nil]at r;cases r;exact .nil
 |cons n ns ih=>
  intro us r;rw[b_]at r;cases r with
  |cons r1 r2=>obtain⟨t,e⟩:=r1;subst e;exact .cons n t (ih r2)
def z9:PO X Φ zZ:=by intro pins s σ H Q I h;rw[evalPart_none];exact e_ ⟨Φ,H,I,.none,h⟩
def Aa (h:PE X e te):PO X (Δ e) (E4 te):=by intro pins s σ H Q I hw;rw[evalPart_some];refine JP (h pins s σ H _ I hw) λu s1 JG=>?_;obtain⟨x,H1,I1,r1,q1⟩:=JG;obtain⟨i,rfl,q⟩:=q1;obtain⟨t,rfl⟩:=r1;exact⟨Δ i,H1,I1,.int i t,q⟩
def S2 (X:Cx)(r:V->Option Int->Option Int->Hp->VK->Prop):Prop:=
 ∀(pins:É) (s:Α) (σ:St) (H:Hp) (x:V) (v vl vu:Ψ) (lo hi:Option Int) (sl:Ω) (Q:VK),Inv X pins σ H s->RelV x v->s.heap.IsSliceOf sl vl vu .none->IsPart vl lo->IsPart vu hi->r x lo hi H Q->
  ∃T id,typeLookup (.type T) "__getitem__" = pure (Δ (.builtin id))/\s.TypeIs v T/\Κ (Μ X.prog X.w) X.A (getItem v (.ref sl)) (EP X pins σ Q) X.xe s
def tSl (r:V->Option Int->Option Int->Hp->VK->Prop)(te:TE)(tl th:TO):TE:=λσ H Q=>te σ H λx H1=>tl σ H1 λl H2=>th σ H2 λu H3=>r x l u H3 Q
def qN {lo:Option Expr}(hr:S2 X r)(he:PE X e te)(hl:PO X lo tl)(hu:PO X hi th):PE X (.Subscript e (.Slice lo hi Φ p2) pos) (tSl r te tl th):=by intro pins s σ H Q I h;refine Subscript_ (JP (he pins s σ H _ I h) λv s1 ⟨x,H1,I1,r1,q1⟩=>?_);refine wpAny_Slice (JP (hl pins s1 σ H1 _ I1 q1) λvl s2 ⟨l,H2,I2,pl,q2⟩=>JP (hu pins s2 σ H2 _ I2 q2) λvu s3 ⟨u,H3,I3,pu,q3⟩=>?_);rw[evalPart_none];refine e_ ?_;have I4:Inv X pins σ H3 {s3 with heap:=s3.heap.push {cls:=.type "slice",data:=.fields #[vl,vu,.none]}}:=I3.kept (t':=s3.toks) λb ob q=>m_ _ q;obtain⟨T,id,hT,ht,hg⟩:=hr pins {s3 with heap:=s3.heap.push {cls:=.type "slice",data:=.fields #[vl,vu,.none]}} σ H3 x v vl vu l u s3.heap.objs.size Q I4 r1 (Heap.IsSliceOf.new ..) pl pu q3;show Κ (Μ X.prog X.w) X.A (subscriptTail e (.Slice lo hi Φ p2) v (.ref s3.heap.objs.size)) (EP X pins σ Q) X.xe {s3 with heap:=s3.heap.push {cls:=.type "slice",data:=.fields #[vl,vu,.none]}};exact tail_any (ops:=[.ref s3.heap.objs.size,v]) ht hT hg (by with_unfolding_all rfl)
abbrev qO (xs:Ñ)(lo hi:Option Int):Ñ:=(xs.drop (HT.J1 xs.length 0 lo)).take (HT.J1 xs.length xs.length hi - HT.J1 xs.length 0 lo)
def nr (xs:Ñ)(lo hi:Option Int):(qO xs lo hi).length<=xs.length:=by unfold qO;rw[aab,aan];omega
def HM (K:Frag):V->Option Int->Option Int->Hp->VK->Prop:=λx lo hi H Q=>∃a xs,x=.ref a/\K0 K H a xs/\
 ¬(HT.J1 xs.length 0 lo=0/\HT.J1 xs.length xs.length hi=xs.length)/\∀p,H p=Φ->Q (.ref p) (upd H p (.tup (qO xs lo hi)))
def MQ:S2 X (HM X.K):=by
 intro pins s σ H x v vl vu lo hi sl Q I rx hs pl pu h;obtain⟨a,xs,rfl,hx,hw,q⟩:=h;cases rx;obtain⟨its,r,ht,hz⟩:=I.tuple hx;have hlen:its.toArray.size=xs.length:=by rw[F_];exact r.length.symm
 refine⟨"tuple",_,PyProof.Rows.slot_tuple_getitem.lookup,ht.typeIs,?_⟩;refine HT.K' ht hs pl pu (by rw[hlen];exact hw) ?_ (by rw[hlen];exact hz);rw[hlen];refine⟨.ref s.heap.objs.size,_,I.laid (t':=s.toks) (o:=.tup (qO xs lo hi)) (λb ob q=>m_ _ q) (q_ _) ?_,rfl,q _ (I.JO.fresh (q_ _))⟩;exact⟨N_ (nr xs lo hi) hz,_,(r.drop (HT.J1 xs.length 0 lo)).take (HT.J1 xs.length xs.length hi - HT.J1 xs.length 0 lo),IsTup.new _ _⟩
def E5 (K:Frag):R2:=λx y H Q=>∃a b xs ys,x=.ref a/\y=.ref b/\K0 K H a xs/\K0 K H b ys/\xs≠[]/\xs.length+ys.length<=Ζ/\
 (ys=[]->Q (.ref a) H)/\(ys≠[]->∀p,H p=Φ->Q (.ref p) (upd H p (.tup (xs++ys))))
def Vals.Me (r:Vals xs us):us=[]↔xs=[]:=by
 cases r with
 |nil=>simp
 |cons _ _=>simp
def Ab:LR X (binaryOp .Add) (E5 X.K):=by intro pins s σ H x y v u Q I rx ry h;obtain⟨a,b,xs,ys,rfl,rfl,ha,hb,hx,hz,q1,q2⟩:=h;cases rx;cases ry;obtain⟨its,r1,p1,_⟩:=I.tuple ha;obtain⟨Ki,r2,p2,_⟩:=I.tuple hb;refine HT.O1 p1 p2 (λz=>hx (r1.Me.mp z)) (λz=>⟨.ref a,H,I,rfl,q1 (r2.Me.mp z)⟩) (λz=>?_) (by rw[<- r1.length,<- r2.length];exact hz);refine⟨.ref s.heap.objs.size,_,I.laid (t':=s.toks) (o:=.tup (xs++ys)) (λb ob q=>m_ _ q) (q_ _) ?_,rfl,q2 (λw=>z (r2.Me.mpr w)) _ (I.JO.fresh (q_ _))⟩;exact⟨by rw[u_];exact hz,_,r1.append r2,IsTup.new _ _⟩
@[reducible]def _root_.Ã:=Option Nat
abbrev Kv (n:Nat)(i:Int):Ã:=if 0<=i then(if i < n then Δ i.toNat else Φ) else if -(n:Int)<=i then Δ (i+n).toNat else Φ
abbrev KQ {α:Type}(xs:List α)(i:Int):Option α:=(Kv xs.length i).bind λj=>xs[j]?
def tV (h:Kv n i=Δ j):seqIndex? i n=Δ j/\j < n/\-(n:Int)<=i/\i < n:=by
 unfold Kv at h;by_cases h0:0<=i
 ·rw[h_ h0]at h;by_cases h1:i < n
  ·rw[h_ h1]at h;have e:i.toNat=j:=I_ h;exact⟨by rw[seqIndex_of h0 h1,e],⋯,⋯,h1⟩
  ·rw[f_ h1]at h;cases h
 ·rw[f_ h0]at h;by_cases h1 : -(n:Int)<=i
  ·rw[h_ h1]at h;have e:(i+n).toNat=j:=I_ h;exact⟨by rw[seqIndex_neg ⋯ h1,e],⋯,h1,⋯⟩
  ·rw[f_ h1]at h;cases h
def qb (h:KQ xs i=Δ v):∃j,seqIndex? i xs.length=Δ j/\xs[j]? = Δ v/\j < xs.length/\-(xs.length:Int)<=i/\i < xs.length:=by
 unfold KQ at h;cases e:Kv xs.length i with
 |none=>rw[e]at h;cases h
 |some j=>rw[e]at h;obtain⟨h1,h2,h3,h4⟩:=tV e;exact⟨j,h1,h,h2,h3,h4⟩
def tW (b:Expr):Prop:=∀o i,subscripted b Ξ o i=operate [o,i] (getItem o i)
def ON (X:Cx)(r:R2):Prop:=
 ∀(value slice:Expr) (pins:É) (s:Α) (σ:St) (H:Hp) (x y:V) (v u:Ψ) (Q:VK),Inv X pins σ H s->RelV x v->RelV y u->r x y H Q->
  subscripted slice Ξ v u=operate [v,u] (getItem v u)->Κ (Μ X.prog X.w) X.A (subscriptTail value slice v u) (EP X pins σ Q) X.xe s
def YI (X:Cx)(id:String)(r:V->Ñ->Hp->VK->Prop):Prop:=
 ∀(pins:É) (s:Α) (σ:St) (H:Hp) (x:V) (xs:Ñ) (v:Ψ) (us:Ï) (Q:VK),Inv X pins σ H s->RelV x v->Vals xs us->r x xs H Q->
  Κ (Μ X.prog X.w) X.A (call (.builtin id) (v::us)) (EP X pins σ Q) X.xe s
def ON.or (h:ON X r)(h':ON X r'):ON X (λx y H Q=>r x y H Q∨r' x y H Q):=by
 intro value slice pins s σ H x y v u Q I rx ry q hs;rcases q with q|q
 ·exact h value slice pins s σ H x y v u Q I rx ry q hs
 ·exact h' value slice pins s σ H x y v u Q I rx ry q hs
def tX (hr:ON X r)(ha:PE X a ta)(hb:PE X b tb)(hs:tW b):PE X (.Subscript a b pos) (U1 r ta tb):=by intro pins s σ H Q I h;exact Subscript_ (CG ha hb I h λv u s2 x y H2 I2 rx ry q=>hr a b pins s2 σ H2 x y v u Q I2 rx ry q (hs _ _))
def E6 (K:Frag):R2:=λx y H Q=>∃p xs i v,x=.ref p/\y=.int i/\K2 K H p xs/\KQ xs i=Δ v/\Q v H
def E7 (K:Frag):R2:=λx y H Q=>∃p xs i v,x=.ref p/\y=.int i/\K0 K H p xs/\KQ xs i=Δ v/\Q v H
def E8:R2:=λx y H Q=>∃z i c,x=.str z/\y=.int i/\z.length<=Ζ/\KQ z.cps.toList i=Δ c/\Q (.str ⟨#[c]⟩) H
def nH:ON X (E6 X.K):=by
 intro value slice pins s σ H x y v u Q I rx ry h hs;obtain⟨p,xs,i,z,rfl,rfl,hq,he,q⟩:=h;cases rx;obtain⟨t,rfl⟩:=ry;obtain⟨its,r,pl,hz⟩:=I.list hq;obtain⟨j,h1,h2,h3,h4,h5⟩:=qb he;obtain⟨w,ew,Wb⟩:=r.get h2;have hl:=r.length;have hn:=nZ;have fin:EP X pins σ Q w s:=⟨z,H,I,Wb,q⟩
 by_cases h0:0<=i
 ·have hj:i.toNat=j:=by rw[seqIndex_of h0 h5]at h1;exact I_ h1
  exact item_listR pl.isList h0 ⋯ (by rw[hj];simpa using ew) fin hs
 ·have hj:(i+(its.toArray.size:Int)).toNat=j:=by rw[seqIndex_neg ⋯ h4]at h1;rw[F_,<- hl];exact I_ h1
  exact subscriptTail_builtinR (x:=w) pl.isList.typeIs slot_list_getitem.lookup
   (wpAny_getItem_list_neg (Q:=λr s'=>r=w/\EP X pins σ Q r s') pl.isList ⋯ (by rw[F_]<;>omega) ⋯ (by rw[hj];simpa using ew) ⟨rfl,fin⟩) hs
def CP:ON X (E7 X.K):=by
 intro value slice pins s σ H x y v u Q I rx ry h hs;obtain⟨p,xs,i,z,rfl,rfl,hq,he,q⟩:=h;cases rx;obtain⟨t,rfl⟩:=ry;obtain⟨its,r,pl,hz⟩:=I.tuple hq;obtain⟨j,h1,h2,h3,h4,h5⟩:=qb he;obtain⟨w,ew,Wb⟩:=r.get h2;have hl:=r.length;have hn:=nZ;have fin:EP X pins σ Q w s:=⟨z,H,I,Wb,q⟩
 exact subscriptTail_builtinR (x:=w) pl.typeIs slot_tuple_getitem.lookup
  (getItem_tuple (j:=j) (Q:=λr s'=>r=w/\EP X pins σ Q r s') pl ⋯ ⋯ (by rw[F_,<- hl];exact h1) (by simpa using ew) ⟨rfl,fin⟩) hs
def CQ:ON X E8:=by
 intro value slice pins s σ H x y v u Q I rx ry h hs;obtain⟨z,i,c,rfl,rfl,hz,he,q⟩:=h;obtain⟨t,rfl⟩:=rx;obtain⟨t',rfl⟩:=ry;obtain⟨j,h1,h2,h3,h4,h5⟩:=qb he;have hl:z.cps.toList.length=z.length:=by simp[Str.length]
 rw[hl]at h1 h4 h5;have hn:=nZ
 exact tail_any (typeIs_str s z t) slot_str_getitem.lookup (getItem_str (c:=c) (by
  have e1:decide (i < -(2 ^ 63:Int))=Ξ:=aae ⋯;have e2:decide (i >= 2 ^ 63)=Ξ:=aae ⋯
  rw[e1,e2,Bool.or_false]) (by rw[h1];simpa using h2) ⟨.str ⟨#[c]⟩,H,I.tok _,⟨_,rfl⟩,q⟩) hs
def rIx (K:Frag):R2:=λx y H Q=>E6 K x y H Q∨E7 K x y H Q∨E8 x y H Q
def CU:ON X (rIx X.K):=nH.or (CP.or CQ)
def so (its:Ï)(n j:Nat)(u:Ψ):ι (·.setIfInBounds j u) {cls:=.type "list",data:=.seq its.toArray n} = {cls:=.type "list",data:=.seq (its.set j u).toArray n}:=by simp[ι]
theorem Inv.lst (I:Inv X pins σ H s)(h:H p=Δ (.lst xs)) :
  ∃(its:Ï) (n:Nat),Vals xs its/\s.heap.get? p=Δ {cls:=.type "list",data:=.seq its.toArray n}/\xs.length<=Ζ:=by
 obtain⟨z,its,n,r,e⟩:=I.JO p _ h;exact⟨its,n,r,e,z⟩
def Inv.Qs {its:Ï}(I:Inv X pins σ H s)(h:H p=Δ (.lst xs))
  (ho:s.heap.get? p=Δ {cls:=.type "list",data:=.seq its.toArray n}) (hf:f {cls:=.type "list",data:=.seq its.toArray n} = {cls:=.type "list",data:=.seq its'.toArray n'}) (r:Vals ys its') (hz:ys.length<=Ζ) (t:Nat) :
  Inv X pins σ (upd H p (.lst ys)) {s with heap:=s.heap.update p f,toks:=t}:=by
 have e:(s.heap.update p f).get? p=Δ {cls:=.type "list",data:=.seq its'.toArray n'}:=by rw[aao f ho (by rw[hf]<;>rfl),hf]
 refine I.write (x:=p) (e:=p) (by rw[h];trivial) (.inl rfl) (λb u hb q=>(aah _ _ (Ne.symm hb)).trans q) ⟨_,e⟩ ?_;exact⟨hz,its',n',r,e⟩
def E9:V->V->V->Hp->(Hp->Prop)->Prop:=λo i v H Q=>∃p xs k j,o=.ref p/\i=.int k/\H p=Δ (.lst xs)/\Kv xs.length k=Δ j/\Q (upd H p (.lst (xs.set j v)))
def set_list:CC X E9:=by
 intro pins s σ H o i v ov iv u Q I ro ri rv h;obtain⟨p,xs,k,j,rfl,rfl,hp,hj,q⟩:=h;cases ro;obtain⟨t,rfl⟩:=ri;obtain⟨its,n,r,ho,hz⟩:=I.lst hp;obtain⟨h1,h2,h3,h4⟩:=tV hj;have hl:=r.length;have hn:=nZ;have I':Inv X pins σ (upd H p (.lst (xs.set j v))) {s with heap:=s.heap.update p (ι (·.setIfInBounds j u))}:=
  I.Qs hp ho (so its n j u) (r.set rv j) (by rw[List.length_set];exact hz) s.toks
 by_cases h0:0<=k
 ·have hk:k.toNat=j:=by rw[seqIndex_of h0 h4]at h1;exact I_ h1
  exact PySem.W.ki_setAt ho h0 ⋯ (by rw[F_,<- hl];exact h4) (by rw[hk];exact⟨_,I',q⟩)
 ·have hk:(k+(its.toArray.size:Int)).toNat=j:=by rw[seqIndex_neg ⋯ h3]at h1;rw[F_,<- hl];exact I_ h1
  exact PySem.W.ki_setBack ho ⋯ (by rw[F_,<- hl];exact h3) ⋯ (by rw[hk];exact⟨_,I',q⟩)
def qc (lo hi:Option Int)(n:Nat):(sliceBounds lo hi Φ n).1=((HT.J1 n 0 lo:Nat):Int)/\(sliceBounds lo hi Φ n).2.1=((HT.J1 n n hi:Nat):Int)/\(sliceBounds lo hi Φ n).2.2=1:=by
 refine⟨?_,?_,rfl⟩
 ·cases lo with
  |none=>simp[sliceBounds,HT.J1]
  |some i=>
   simp only[sliceBounds,HT.J1,Option.getD_none,show(1:Int) > 0 by decide,if_true];by_cases h:i < 0
   ·simp only[h,if_true]<;>omega
   ·simp only[h,if_false]<;>omega
 ·cases hi with
  |none=>simp[sliceBounds,HT.J1]
  |some i=>
   simp only[sliceBounds,HT.J1,Option.getD_none,show(1:Int) > 0 by decide,if_true];by_cases h:i < 0
   ·simp only[h,if_true]<;>omega
   ·simp only[h,if_false]<;>omega
def pj (its:Ï)(lo hi:Option Int):slicePick its.toArray lo hi Φ=((its.drop (HT.J1 its.length 0 lo)).take (HT.J1 its.length its.length hi - HT.J1 its.length 0 lo)).toArray:=by obtain⟨h1,h2,h3⟩:=qc lo hi its.toArray.size;unfold slicePick;rw[h1,h2,h3];simp only[sliceRange_one,pick_run,F_]<;>rfl
def HN (K:Frag):V->Option Int->Option Int->Hp->VK->Prop:=λx lo hi H Q=>∃a xs,x=.ref a/\K2 K H a xs/\∀p,H p=Φ->Q (.ref p) (upd H p (.lst (qO xs lo hi)))
def tY:S2 X (HN X.K):=by intro pins s σ H x v vl vu lo hi sl Q I rx hs pl pu h;obtain⟨a,xs,rfl,hx,q⟩:=h;cases rx;obtain⟨its,r,ht,hz⟩:=I.list hx;have hlen:=r.length;refine⟨"list",_,slot_list_getitem.lookup,ht.isList.typeIs,?_⟩;refine wpAny_getItem_list_slice ht.isList hs pl pu .none (by simp) ?_ (by rw[F_]<;>omega);rw[pj,<- hlen];refine⟨.ref s.heap.objs.size,_,I.laid (t':=s.toks) (o:=.lst (qO xs lo hi)) (λb ob q=>m_ _ q) (q_ _) ?_,rfl,q _ (I.JO.fresh (q_ _))⟩;exact⟨N_ (nr xs lo hi) hz,_,0,(r.drop (HT.J1 xs.length 0 lo)).take (HT.J1 xs.length xs.length hi - HT.J1 xs.length 0 lo),w_ _ rfl⟩
def pk:jX X (.type "tuple") (λxs H Q=>∃p ys,xs=[.ref p]/\((K2 X.K H p ys/\∀l,H l=Φ->Q (.ref l) (upd H l (.tup ys)))∨(K0 X.K H p ys/\Q (.ref p) H))):=by
 intro pins s σ H xs us Q I r h;obtain⟨p,ys,rfl,h⟩:=h;obtain⟨u,rfl,rx⟩:=vals1 r;cases rx;rcases h with⟨hq,q⟩|⟨hq,q⟩
 ·obtain⟨its,r',pl,hz⟩:=I.list hq;have hlen:=r'.length;refine call_tuple_list pl.isList (λh' kp=>?_) (by simp only[F_]<;>omega);have I1:Inv X pins σ H {s with heap:=h'}:=I.kept (t':=s.toks) kp;have I2:Inv X pins σ (upd H h'.objs.size (.tup ys)) {s with heap:=h'.push {cls:=.type "tuple",data:=.seq its.toArray}}:=
   I1.laid (t':=s.toks) (λb o e=>m_ _ e) (q_ _) (show ji _ _ _ (.tup ys) from⟨hz,its,r',IsTup.new _ _⟩)
  exact⟨.ref h'.objs.size,_,I2,rfl,q _ (I1.JO.fresh (q_ _))⟩
 ·obtain⟨its,r',pl,hz⟩:=I.tuple hq;exact call_tuple_same pl ⟨.ref p,H,I,rfl,q⟩
def YJ (K:Frag)(T:String)(x:V)(H:Hp):Prop:=match x with
 |.str _=>T = "str"
 |.int _=>T = "int"
 |.ref p=>(T = "list"/\∃xs,K2 K H p xs)∨(T = "tuple"/\∃o,K.lookup p=Δ o/\o.cls=.type "tuple"/\o.dict=Φ)
 |_=>False
def CW (I:Inv X pins σ H s)(r:RelV x v)(ty:YJ X.K T x H) :
  s.TypeIs v T/\∀a,v=.ref a->∃ob,s.heap.get? a=Δ ob/\ob.dict=Φ:=by
 cases x with
 |str z=>obtain⟨t,rfl⟩:=r;cases(show T = "str" from ty);exact⟨typeIs_str s z t,λ_ e=>nomatch e⟩
 |int i=>obtain⟨t,rfl⟩:=r;cases(show T = "int" from ty);exact⟨typeIs_int s i t,λ_ e=>nomatch e⟩
 |ref p=>
  cases r;rcases ty with⟨rfl,xs,hq⟩|⟨rfl,o,hk,hc,hd⟩
  ·obtain⟨its,_,pl,_⟩:=I.list hq;refine⟨pl.isList.typeIs,λa e=>?_⟩;cases e;obtain⟨o,n,e,c,hd,_⟩:=pl;exact⟨o,e,hd⟩
  ·refine⟨⟨o,I.LV p o hk,hc⟩,λa e=>?_⟩;cases e;exact⟨o,I.LV _ o hk,hd⟩
 |_=>exact False.elim ty
def YK (K:Frag)(T:String)(r:V->Ñ->Hp->VK->Prop)(to:TE)(t:TA):TE:=λσ H Q=>to σ H λx H1=>YJ K T x H1/\t σ H1 λxs H2=>r x xs H2 Q
def wz {id:String}(pa:PlainAttrs T)(slot:Slot T name id)(Rz:typeOf (.builtin id)=pure (.type "method_descriptor")) (hm:YI X id r) (ho:PE X o to) (ha:PA X (e::es) t)
  (Oi:attributeBase o name X.env (eval o X.env)=eval o X.env:=by rfl)
  (MR:((backTo JL (Ν (e::es) X.env)).all (λx=>!x.1)&&(backToKw JL (keywordEach [] X.env)).all (λx=>x.1.isSome)
  &&decide ((e::es).length+([]:List Keyword).length+(if([]:List Keyword).isEmpty then 0 else 1) < 30))=Θ:=by rfl)
  (S3:(apos.endLine == JL.line)=Θ:=by rfl) (hs:Ν (e::es) X.env=(Ξ,eval e X.env)::Ν es X.env:=by rfl) (Qt:(backTo JL (Ν es X.env)).any (·.1)=Ξ:=by rfl) :
  PE X (.Call (.Attribute o name apos) (e::es) [] JL) (YK X.K T r to t):=by
 intro pins s σ H Q I h;refine wpAny_Call_method_late Oi MR S3 rfl (JP (ho pins s σ H _ I h) λv s1 ⟨x,H1,I1,r1,ty,q1⟩=>?_);obtain⟨h1,h2⟩:=CW I1 r1 ty;refine⟨T,id,pa,slot,Rz,h1,h2,?_⟩;have hA:=ha JL pins s1 σ H1 _ I1 q1;rw[hs]at hA ⊢;refine Calls.callWith_builtin (by show(Ξ||(backTo JL (Ν es X.env)).any (·.1))=Ξ;rw[Qt]<;>rfl) (Calls.evalArgs_plain ?_);exact JP hA λus s2 ⟨vs,H2,I2,r2,q2⟩=>hm pins s2 σ H2 x vs v us Q I2 r1 r2 q2
def MtM (X:Cx)(id:String)(r:V->Ñ->Hp->VK->Prop):Prop:=
 ∀(pins:É) (s:Α) (σ:St) (H:Hp) (x:V) (xs:Ñ) (v:Ψ) (us:Ï) (Q:VK),Inv X pins σ H s->RelV x v->Vals xs us->r x xs H Q->
  Κ (Μ X.prog X.w) X.A (call (.builtin id) (v::us)) (EP X pins σ Q) X.xe s
def Vals.one:∀ {x:V}{us:Ï},Vals [x] us->∃u,us=[u]/\RelV x u
 |_,_,.cons r .nil=>⟨_,rfl,r⟩
theorem Vals.rep (h:Vals xs us):∀k:Nat,Vals (Τ k xs).flatten (Τ k us).flatten
 |0=>.nil
 |k+1=>by rw[List.replicate_succ,List.replicate_succ,List.flatten_cons,List.flatten_cons];exact Vals.append h (Vals.rep h k)
theorem foldl_rep (its:Ï):∀(k:Nat) (acc:Ï),
  List.foldl (λx1 x2=>x1++x2) acc.toArray (Τ k its.toArray)=(acc++(Τ k its).flatten).toArray
 |0,acc=>by simp
 |k+1,acc=>by
  have e:acc.toArray++its.toArray=(acc++its).toArray:=by simp
  have e2:(acc++its)++(Τ k its).flatten=acc++(Τ (k+1) its).flatten:=by rw[List.replicate_succ,List.flatten_cons,E_]
  rw[<- e2,<- foldl_rep its k (acc++its),<- e,List.replicate_succ,List.foldl_cons]
def Inv.Wc {its:Ï}(I:Inv X pins σ H s)(hH:H l=Δ (.lst xs))
  (e:s.heap.get? l=Δ {cls:=.type "list",data:=.seq its.toArray n}) (hf:f its.toArray=its'.toArray) (hv:Vals ys its') (hz:ys.length<=Ζ) :
  Inv X pins σ (upd H l (.lst ys)) {s with heap:=s.heap.update l (ι f),toks:=t'}:=by
 have q:=PySem.IsL.update e f;rw[hf]at q;refine I.write (x:=l) (e:=l) (by rw[hH];exact trivial) (.inl rfl) (λb' u hb hu=>(aah s.heap (ι f) (Ne.symm hb)).trans hu) ⟨_,q⟩ ?_;exact⟨hz,its',_,hv,q⟩
def Inv.Qu {its:Ï}  (I:Inv X pins σ H s)(hv:Vals ys its)(hz:ys.length<=Ζ) :
  Inv X pins σ (upd H s.heap.objs.size (.lst ys)) {s with heap:=s.heap.push {cls:=.type "list",data:=.seq its.toArray},toks:=t'}:=
 I.laid (λ_ _ q=>m_ _ q) (q_ _) ⟨hz,its,0,hv,w_ _ rfl⟩
theorem Inv.fresh (I:Inv X pins σ H s):H s.heap.objs.size=Φ:=I.JO.fresh (q_ _)
def Inv.Wd (I:Inv X pins σ H s)(hH:H l=Δ (.lst xs)):xs.length<=Ζ/\∃(its:Ï) (n:Nat),Vals xs its/\xs.length=its.length/\s.heap.get? l=Δ {cls:=.type "list",data:=.seq its.toArray n}:=by obtain⟨z,its,n,r,e⟩:=I.JO l _ hH;exact⟨z,its,n,r,r.length,e⟩
def wA (h:n<=Ζ):Builtin.List.listTooLong n=Ξ:=by unfold Builtin.List.listTooLong;exact aae ⋯
def Ac:V->Ñ->Hp->VK->Prop:=λx vs H Q=>∃l xs y,x=.ref l/\vs=[y]/\H l=Δ (.lst xs)/\xs.length < Ζ/\Q .JF (upd H l (.lst (xs++[y])))
def mL:MtM X "list.append" Ac:=by intro pins s σ H x vs v us Q I rx rv h;obtain⟨l,xs,y,rfl,rfl,hH,hz,q⟩:=h;cases rx;obtain⟨u,rfl,ru⟩:=rv.one;obtain⟨z,its,n,r,hl,e⟩:=I.Wd hH;refine call_meets F.slot_list_append ⟨_,e,rfl⟩ F.entry_list_append (F.args_list_append_2 _ _) (PySem.list_append l its.toArray n u (by rw[F_];omega)) ⟨e,?_⟩;refine⟨.JF,_,I.Wc (its':=its++[u]) hH e (by simp) (r.append (.cons ru .nil)) ?_,rfl,q⟩;rw[u_,V_];omega
def len_rep {α:Type}(xs:List α)(k:Nat):(Τ k xs).flatten.length=k*xs.length:=by
 induction k with
 |zero=>simp
 |succ k ih=>rw[List.replicate_succ,List.flatten_cons,u_,ih,Nat.succ_mul,Nat.add_comm]
end L2
namespace Att
open PySem PySem.W PySem.Calls PyProof.Rows
@[reducible]def _root_.Ë:=List Int
def nE:∀(ns:Ë) (vs:Ï),WellAll P h vs (ns.map WData.int)->IntsAre vs ns:=by
 intro ns
 induction ns with
 |nil=>intro vs w;rw[List.map_nil]at w;cases w;exact .nil
 |cons n ns ih=>
  intro vs w;rw[b_]at w;cases w with
  |cons a b=>cases a;exact .cons _ _ (ih _ b)
def vj {l:OpenLaw}  (hn:l.most=Δ n)
  (O8:l.row.toRowW.claim.pre args=Θ) (We:WellAll P h vals args) :
  ∃a vs ns,vals=[θ a]/\args=[WData.list (ns.map WData.int)]/\h.get? a=Δ {cls:=.type "list",data:=.seq vs.toArray}/\IntsAre vs ns/\ns.length<=n:=by
 have hsh:WShape.hasAll [] args [.list .int]=Θ:=(pre_splitW O8).1;have hc:l.pre.holds [] {args:=args} = Θ:=(pre_splitW O8).2;obtain⟨d,r,rfl,h1,h2⟩:=hasAllW_cons hsh;obtain rfl:=hasAllW_nil h2;obtain⟨xs,rfl,h3⟩:=hasW_list h1;obtain⟨ns,rfl⟩:=items_int h3;have hlen:ns.length<=n:=by
  unfold OpenLaw.pre at hc;have h4:(WTm.not (.lt (.lit (.int (n:Int))) (.len (.arg 0)))).holds [] {args:=[.list (ns.map .int)]} = Θ:=by have h4:=(holds_andW hc).1;rw[hn]at h4;exact h4
  have h5:=condW_of h4 (w_not (w_lt w_lit (w_len_list (w_arg rfl))));rw[i_]at h5;refine Nat.le_of_not_lt λq=>?_;have q':(n:Int) < ((ns.length:Nat):Int):=⋯
  first
   | (rw[y_ q']at h5;exact absurd h5 nofun)
   | (simp at h5;omega)
 cases We with
 |cons w1 w2=>
  cases w2;cases w1 with
  |list ho LY=>exact⟨_,_,ns,rfl,rfl,ho,nE ns _ LY,hlen⟩
def vk (l:OpenLaw)(args:List WData):l.row.toRowW.claim.post args (.bool Θ) args=Θ:=
 postW_of (r:=l.row.toRowW) (X:=(Θ == Θ))
  (show WShape.has [] (.bool Θ) .bool=Θ by first|rfl|decide|simp[WShape.has,WShape.arms,WShape.armsAll])
  (show(WTm.eq .res (.lit (.bool Θ))).value [] {args:=args,res:=Δ (.bool Θ),after:=args} = Δ (.bool (Θ == Θ)) from w_eq_bool (w_res rfl) w_lit) rfl
def Mq {l:OpenLaw}
  (hn:l.most=Δ n) (S4:d.params.defaults=[])
  (call:∀(w:Β) (J6 JI:Α) (mg mb:Str->Option Ψ) (fa:Ω) (o:Obj) (pm cd doc:Ψ) (a:Ω) (vs:Ï) (ns:Ë),
   Ground q loose [] XP w J6 mg mb JI.heap->YP w JI.heap->
   JI.heap.get? fa=Δ o->o.data=.func (docDef d.name d.params d.body d.scope pm cd doc)->JI.heap.CodeRec cd d.name->mg d.name=Δ (.ref fa)->
   JI.heap.get? a=Δ {cls:=.type "list",data:=.seq vs.toArray}->IntsAre vs ns->ns.length<=n->JI.gens = #[]->
   codeAny (Μ l.prog w) callerA (.call (.ref fa) ⟨[.ref a],[]⟩) (λr s'=>r=.ok (.ret (.bool Θ))/\OldK JI.heap s'.heap/\s'.os=JI.os/\AllBare s'.gens) JI) :
  WalkO q loose XP YP l.row.toRowW d [] (λf vs=>PySem.call f vs):=by
 intro w J6 JI mg mb G Y fa o pm cd doc dV kV ho hd Oa hD hmg hg args vals as O8 aa8 hrd We PV;obtain rfl:dV=.none:=Dflts.none hD S4;obtain rfl:kV=.none:=Dflts.noKw hD;obtain⟨a,vs,ns,rfl,rfl,Qv,hints,hlen⟩:=vj hn O8 We;refine enter_call (codeAny_mono (call w J6 JI mg mb fa o pm cd doc a vs ns G Y ho (fd_plain hd) Oa hmg Qv hints hlen hg) λr s' hq=>?_);obtain⟨rfl,h2,h3,h4⟩:=hq;exact⟨.inl ⟨.bool Θ,.bool Θ,[],rfl,λ_=>rfl,.bool Θ,vk l _,λ_=>⟨List.Pairwise.nil,λ_ hm=>(nomatch hm)⟩⟩,h2,h3,h4⟩
end Att
namespace L2
open PySem PySem.Spec PyProof.Rows
def KL (K:Frag)(a:Ω)(xs:Ñ):Prop:=
 ∃(its:Ï) (n:Nat),K.lookup a=Δ {cls:=.type "list",data:=.seq its.toArray n}/\its.length<=Ζ/\Vals xs its
def Ls (K:Frag)(H:Hp)(a:Ω)(xs:Ñ):Prop:=Rd H a (.lst xs)∨KL K a xs
theorem pO:∀ {vs:Ï}{ns:Ë},IntsAre vs ns->Vals (ns.map V.int) vs
 |_,_,.nil=>.nil
 |_,_,.cons n t h=>.cons ⟨t,rfl⟩ (pO h)
def CY (H:Hp):Prop:=∀b,H b=Φ∨∃o xs,H b=Δ (.JQ o (.lst xs))
def wC {K:Frag}
  (KX:K.In JI.heap) (MT:JI.heap.Ns Η mg) (hb:JI.heap.Ns builtinsNs mb) (hbb:∀x:Str,x≠"__name__"->mb x=bootBuiltins x) (Wf:JI.heap.NoLimit) (hg:JI.gens = #[])
  (ha:JI.heap.get? a=Δ {cls:=.type "list",data:=.seq vs.toArray}) (hi:IntsAre vs ns) (hl:ns.length<=Ζ) (hr:KO k callerA)
  (F:∀base:Heap,K.In base->base.Ns Η mg->K9 P w K mg base CX k fa fd [x] sp) (S5:∀(s:Α) (u:Ψ),BindsTo s fd ⟨[u],[]⟩ [(x,u)])
  (MG:∀H:Hp,CY H->Ls K H a (ns.map V.int)->sp [.ref a] H (λv _=>v=.bl Θ) λ_ _ _=>False)
  (Wg:∀H e s',CX [] H JI (λ_ _ _=>False) e s'->False) :
  codeAny (Μ P w) callerA (.call (.ref fa) ⟨[.ref a],[]⟩) (λr s'=>r=.ok (.ret (.bool Θ))/\OldK JI.heap s'.heap/\s'.os=JI.os/\AllBare s'.gens) JI:=by
 have rv:=pO hi;have Wh:=hi.length
 -- from an abstract heap in YL nothing but Of Qw may be tracked
 have core:∀H:Hp,CY H->Ls K H a (ns.map V.int)->Kw H JI.heap->(∀b,H b≠Φ->b=a)->(H a≠Φ->K.lookup a=Φ)->
   codeAny (Μ P w) callerA (.call (.ref fa) ⟨[.ref a],[]⟩) (λr s'=>r=.ok (.ret (.bool Θ))/\OldK JI.heap s'.heap/\s'.os=JI.os/\AllBare s'.gens) JI:=by
  intro H hO hS JO hA hK;have Nh:∀ {b:Ω}{o:Obj},JI.heap.get? b=Δ o->H b=Φ->(p8 JI.heap H).get? b=Δ o:=λe n=>vX e n;have SV:∀ {b:Ω}{o:Obj}{es:Array DictEntry}{ep:Nat},JI.heap.get? b=Δ o->o.data=.dict es ep->H b=Φ:=λ{b o es ep} e d=>by
   cases q:H b with
   |none=>rfl
   |some u=>have e':b=a:=hA b (by rw[q];simp);subst e';rw[ha]at e;cases e;have d':Data.seq vs.toArray _=Data.dict es ep:=d;cases d'
  have U4:∀ {b:Ω}{m:Str->Option Ψ},JI.heap.Ns b m->(p8 JI.heap H).Ns b m:=λ{b m} ⟨o,es,ep,e,d,r⟩=>⟨o,es,ep,Nh e (SV e d),d,r⟩
  have YM:K.In (p8 JI.heap H):=λb o e=>Nh (KX b o e) (by
   cases q:H b with
   |none=>rfl
   |some u=>
    have e':b=a:=hA b (by rw[q];simp);subst e'
    rw[hK (by rw[q];simp)]at e;cases e)
  have hM:Mod K mg (p8 JI.heap H):=⟨YM,U4 MT,⟨mb,U4 hb,hbb⟩,let ⟨mc,h1,h2⟩:=Wf;⟨mc,U4 h1,h2⟩⟩
  have e0:Nz P w K mg (p8 JI.heap H) callerA [] JI H:=⟨rfl,hM,λb o e=>zM e,Nat.le_of_eq (u7 _ _),trivial,λb hb=>absurd (show b∈([]:Î) from hb) (by simp),JO,.of_eq hg⟩
  refine codeAny_mono ((F _ YM (U4 MT)).run callerA [] JI H ⟨[.ref a],[]⟩ [.ref a] [.ref a] _ _ hr e0 (S5 JI (.ref a)) (.cons rfl .nil) (MG H hO hS)) λr s' h=>?_;cases r with
  |error e=>exact(Wg H e s' h).elim
  |ok fl=>
   cases fl with
   |next=>exact False.elim h
   |brk=>exact False.elim h
   |cont=>exact False.elim h
   |ret u=>
    obtain⟨v,H',os,bare,un,Wi,r',q⟩:=h;have q':v=.bl Θ:=q;subst q';obtain rfl:u=Value.bool Θ:=r';refine⟨rfl,OldK.of_keep λb o e=>?_,os,bare⟩;cases q:H b with
    |none=>exact un.keep b o e q (by intro z;exact absurd (show b∈([]:Î) from z) (by simp)) (by simp)
    |some u=>
     rcases hO b with z|⟨ob,xs,z⟩
     ·rw[q]at z;cases z
     ·have z2:=un.Kr b ob _ z;obtain⟨e1,_⟩:=JO b _ z;obtain⟨e2,_⟩:=Wi b _ z2;rw[e]at e1;cases e1;exact e2
 cases hk:K.lookup a with
 |some o=>
  -- Of Qw is one of Of S6 own objects
  have e:=KX a o hk;rw[ha]at e;cases e;refine core (λ_=>Φ) (λ_=>.inl rfl) (.inr ⟨vs,_,hk,by rw[Wh];exact hl,rv⟩) (λb u z=>by have z':(Φ:Option HO)=Δ u:=z;cases z') (λb z=>absurd rfl z) λz=>absurd rfl z
 |none=>
  refine core (λb=>if b=a then Δ (.JQ {cls:=.type "list",data:=.seq vs.toArray} (.lst (ns.map V.int))) else Φ) (λb=>?_) (.inl (.inr ⟨{cls:=.type "list",data:=.seq vs.toArray},h_ rfl⟩)) (λb u z=>?_) (λb z=>?_) λ_=>hk
  ·by_cases hb:b=a
   ·exact .inr ⟨_,_,h_ hb⟩
   ·exact .inl (f_ hb)
  ·by_cases hb:b=a
   ·have z':=(h_ hb).symm.trans z;cases z';subst hb;exact⟨ha,by rw[i_];exact hl,vs,_,rv,ha⟩
   ·have z':=(f_ hb).symm.trans z;cases z'
  ·by_cases hb:b=a
   ·exact hb
   ·exact absurd (f_ hb) z
def Ad {l:PySem.W.OpenLaw}{n k:Nat}{q:Ε}{loose:È}{XP:(Str->Option Ψ)->Heap->Prop}{YP:Β->Heap->Prop}{d:DefRec}{K:Params->Frag}{CX:Β->Mp}{sp:Β->Sp}{x:Str}
  (hn:l.most=Δ n) (Qx:n<=Ζ) (S4:d.params.defaults=[]) (hr:KO k callerA)
  (hY:∀(w:Β) (h:Heap),YP w h->(K w.params).In h)
  (F:∀(w:Β) (mg:Str->Option Ψ) (fa:Ω) (h:Heap),(K w.params).In h->h.Ns Η mg->mg d.name=Δ (.ref fa)->
   ∃fd:Ο,(∀(s:Α) (u:Ψ),BindsTo s fd ⟨[u],[]⟩ [(x,u)])/\
    ∀base:Heap,(K w.params).In base->base.Ns Η mg->K9 l.prog w (K w.params) mg base (CX w) k fa fd [x] (sp w))
  (MG:∀(w:Β) (H:Hp) (a:Ω) (ns:Ë),ns.length<=n->CY H->Ls (K w.params) H a (ns.map V.int)->sp w [.ref a] H (λv _=>v=.bl Θ) λ_ _ _=>False)
  (Wg:∀(w:Β) (H:Hp) (s:Α) (e:Ψ) (s':Α),CX w [] H s (λ_ _ _=>False) e s'->False) :
  PySem.W.WalkO q loose XP YP l.row.toRowW d [] (λf vs=>PySem.call f vs):=by
 refine Att.Mq hn S4 λw J6 JI mg mb fa o pm cd doc a vs ns G Y ho hd Oa hmg Qv hints hlen hg=>?_;have KX:=hY w _ Y;obtain⟨fd,hb,hF⟩:=F w mg fa _ KX G.T.g hmg;exact wC KX G.T.g G.T.b G.T.builtins G.T.nolimit hg Qv hints (N_ hlen Qx) hr hF hb (λH hO hS=>MG w H a ns hlen hO hS) λH e s'=>Wg w H JI e s'
abbrev jN (s:Stmt):Arguments:=match s with
 |.FunctionDef _ a _ _ _ _ _ _ _ _=>a
 |_=>{posonlyargs:=[],args:=[],vararg:=Φ,kwonlyargs:=[],kw_defaults:=[],kwarg:=Φ,defaults:=[]}
abbrev jd (s:Stmt):Á:=match s with
 |.FunctionDef _ _ b _ _ _ _ _ _ _=>b
 |_=>[]
abbrev iy (s:Stmt):Scope:=match s with
 |.FunctionDef _ _ _ _ _ _ sc _ _ _=>sc
 |_=>{kind:=.function,names:=[],isGenerator:=Ξ,isCoroutine:=Ξ}
structure PX (K:Frag)(x qual:Str)(st:Stmt)(f:Ω)(fd:Ο):Prop where
 ex:∃(oc:Ψ) (od:Option Ω) (kV doc pm:Ψ) (an:Option Ω) (LX ct:Ψ) (Qr:Array (Option Ψ)),
  fd=PySem.W.fnOf x qual (jN st) (jd st) (iy st) .none kV doc pm an LX ct/\K.lookup f=Δ ⟨oc,od,.func fd,Qr⟩/\PySem.W.codeIn K LX qual=Θ
 kp:PySem.W.keepIn K (.ref f)=Θ
def PX.binds {K:Frag}{st:Stmt}  (F:PX K x qual st f fd)
  (h:∀(kV doc pm:Ψ) (an:Option Ω) (LX ct:Ψ) (us:Ï),us.length=ps.length->bindArgs (PySem.W.fnOf x qual (jN st) (jd st) (iy st) .none kV doc pm an LX ct) ⟨us,[]⟩=pure (ps.zip us)):Binds K fd ps []:=by
 obtain⟨oc,od,kV,doc,pm,an,LX,ct,Qr,rfl,lk,Oa⟩:=F.ex;exact .all (h kV doc pm an LX ct)
def oh {K:Frag}{st:Stmt}  (l:K.lookup f=Δ ⟨oc,od,.func (PySem.W.fnOf x qual (jN st) (jd st) (iy st) .none kV doc pm an LX ct),Qr⟩)
  (c:PySem.W.codeIn K LX qual=Θ) (k:PySem.W.keepIn K (.ref f)=Θ):PX K x qual st f (PySem.W.fnOf x qual (jN st) (jd st) (iy st) .none kV doc pm an LX ct):=⟨⟨oc,od,kV,doc,pm,an,LX,ct,Qr,rfl,l,c⟩,k⟩
def ik (H H':Hp):Prop:=∀b o,H b=Δ o->H' b=Δ o
def ik.refl (H:Hp):ik H H:=λ_ _ h=>h
def ik.trans (a:ik H H1)(b:ik H1 H2):ik H H2:=λc o h=>b c o (a c o h)
def ik.free (e:ik H H')  (h:H' l=Option.none):H l=Option.none:=by
 cases q:H l with
 |none=>rfl
 |some o=>rw[e l o q]at h;cases h
def ik.seq {K:Frag}  (e:ik H H')(h:K2 K H a xs):K2 K H' a xs:=by
 rcases h with(h|⟨o,h⟩)|h
 ·exact .inl (.inl (e _ _ h))
 ·exact .inl (.inr ⟨o,e _ _ h⟩)
 ·exact .inr h
def iC (h:PE X e t)(m:∀σ H Q,t' σ H Q->t σ H Q):PE X e t':=λpins s σ H Q I q=>h pins s σ H Q I (m σ H Q q)
def oj (h:PT X e t)(m:∀σ H Q,t' σ H Q->t σ H Q):PT X e t':=λpins s σ H Q I q=>h pins s σ H Q I (m σ H Q q)
def qd (h:PA X e t)(m:∀σ H Q,t' σ H Q->t σ H Q):PA X e t':=λpos pins s σ H Q I q=>h pos pins s σ H Q I (m σ H Q q)
def ju (h:PS X e t)(m:∀D σ H,t' D σ H->t D σ H):PS X e t':=λpins s σ H D I q=>h pins s σ H D I (m D σ H q)
def jO (h:LL X e t)(m:∀D σ H,t' D σ H->t D σ H):LL X e t':=λpins s σ H D I q=>h pins s σ H D I (m D σ H q)
def sr (h:PI X tg e t)(m:∀σ H Q,t' σ H Q->t σ H Q):PI X tg e t':=λpins s σ H Q I q=>h pins s σ H Q I (m σ H Q q)
def Ni (X:Cx)(scope:Scope)(cl:List (Str×Ω))(N:È)(C:Ω)(s3:Α)(H3:Hp)(fp:Î)(xe:Ü:=λ_ _=>False):Cx:=
 {X with N:=N,J6:=s3,KJ:=H3,env:=compEnvC scope cl C X.env,outer:=X.stack,ex:=fp,fn:=λ_=>Ξ,pn:=[],xe:=xe}
structure Lk (X:Cx)(scope:Scope)(cl:List (Str×Ω))(Fr:List (Str×Nat))(Tg:È):Prop where
 S7:closureFor scope X.env=pure cl
 kind:scope.kind=.function
 Mf:∀y∈scope.names,y.2≠.cell
 loc:∀y∈scope.names,y.2=.local->scope.names.lookup y.1=Δ .local
 sub:∀x c,cl.lookup x=Δ c->X.env.cells.lookup x=Δ c
 has:∀x,((relabel scope X.env).names.lookup x=Δ .cell∨(relabel scope X.env).names.lookup x=Δ .free)->∃c,cl.lookup x=Δ c
 out:∀p∈Fr,X.N[p.2]? = Δ p.1/\(X.env.kindOf p.1=Δ .cell∨X.env.kindOf p.1=Δ .free)/\((relabel scope X.env).names.lookup p.1=Δ .cell∨(relabel scope X.env).names.lookup p.1=Δ .free)
abbrev stC (Fr:List (Str×Nat))(Tg:È)(σ:St):St:=Fr.map (λp=>(σ[p.2]?).join)++Τ Tg.length Φ
section
variable {X:Cx}{scope:Scope}{cl:List (Str×Ω)}{Fr:List (Str×Nat)}{Tg:È}{pins:É}{σ:St}{H3:Hp}{s3:Α}{fp:Î}
theorem CZ (S:Lk X scope cl Fr Tg)(I:Inv X pins σ H3 s3)(hf:∀b∈fp,lA X pins H3 b)(Wj:∀b∈fp,b < s3.heap.objs.size)(N:È)(xe:Ü):(Ni X scope cl N s3.heap.objs.size s3 H3 fp xe).Ok where
 mod:=I.ok.mod
 kind:=S.kind
 glob:=I.ok.glob
 blt:=I.ok.blt
 above:=q_ _
 inj:=λx y c h1 h2=>I.ok.inj x y c (S.sub x c h1) (S.sub y c h2)
 has:=λx h=>S.has x h
 OZ:=λx c h _=>absurd (show Ξ=Θ from h) nofun
 hd:=I.ok.hd
 frames:=I.ok.frames
 JE:=.inl rfl
 PL:=λb hb=>⟨o_ (Wj b hb),λx c e z=>(hf b hb).2.2.2.2.1 x c (S.sub x c e) z⟩
 bs:=I.bs
 Nc:=N_ I.ok.Nc I.sz
 Ma:=λb o e hb=>by
  rcases(hf b hb).2.2.2.1 with z|z
  ·exact I.ok.Ma b o e z
  ·exact absurd (B_ (j_ e) (N_ I.ok.Nc z)) (S_ _)
 Mb:=λb hb z=>by
  rcases k_.mp (I.MN b z) with z|z
  ·exact(hf b hb).2.1 z
  ·exact(hf b hb).2.2.1 z
 Ks:=I.stack
 ME:=I.Mc
theorem vm (S:Lk X scope cl Fr Tg)(I:Inv X pins σ H3 s3)(hf:∀b∈fp,lA X pins H3 b)(Wj:∀b∈fp,b < s3.heap.objs.size){h':Heap}{tk:Nat}
  (MT:h'.Ns s3.heap.objs.size (λ_=>Φ)) (hk:∀b o,s3.heap.get? b=Δ o->h'.get? b=Δ o) (xe:Ü) :
  Inv (Ni X scope cl (Fr.map (·.1)++Tg) s3.heap.objs.size s3 H3 fp xe) [] (stC Fr Tg σ) H3 {s3 with heap:=h',toks:=tk} where
 ok:=CZ S I hf Wj _ _
 os:=rfl
 bare:=I.bare
 base:=Un.kept hk
 loc:=by
  refine⟨_,MT,λi x v e1 e2 e3=>?_⟩;have hi:i < Fr.length:=by
   by_cases hi:i < Fr.length
   ·exact hi
   ·unfold stC at e2;rw[aaH (by simpa using hi),List.getElem?_replicate]at e2;split at e2<;>cases e2
  have YN:(Fr.map (·.1))[i]? = Δ x:=by rw[<- e1];exact(aaI (by simpa using hi)).symm
  have KR:(Fr.map (λp=>(σ[p.2]?).join))[i]? = Δ (Δ v):=by rw[<- e2];exact(aaI (by simpa using hi)).symm
  rw[D_]at YN KR;obtain⟨p,hp,rfl⟩:=Option.map_eq_some_iff.mp YN;rw[hp]at KR;have O9:(σ[p.2]?).join=Δ v:=I_ KR;have e4:σ[p.2]? = Δ (Δ v):=by
   cases q:σ[p.2]? with
   |none=>rw[q]at O9;cases O9
   |some y=>rw[q]at O9;rw[show y=Δ v from O9]
  obtain⟨o1,o2,o3⟩:=S.out p (Y_ hp);obtain⟨m,hn,hl⟩:=I.loc;have hv:SJ X.env.scope p.1:=by
   rcases o2 with o2|o2
   ·exact .inr (.inl o2)
   ·exact .inr (.inr o2)
  obtain⟨u,r,l⟩:=hl p.2 p.1 v o1 e4 hv;refine⟨u,r,.inr ⟨o3,?_⟩⟩;obtain⟨c,hc⟩:=S.has p.1 o3;refine⟨c,hc,?_⟩;have Mo:=S.sub _ _ hc;rcases l with⟨k,_⟩|⟨_,c2,h2,z⟩
  ·rcases o2 with o2|o2<;>(rw[k]at o2;cases o2)
  ·rw[Mo]at h2;cases h2;obtain⟨o,ho,hd⟩:=z;exact⟨o,hk _ _ ho,hd⟩
 cell:=λx c e=>by obtain⟨v,o,ho,hd⟩:=I.cell x c (S.sub x c e);exact⟨v,o,hk _ _ ho,hd⟩
 free:=I.JO.fresh (q_ _)
 J4:=λx c e=>I.J4 x c (S.sub x c e)
 pin:=λp hp=>absurd (show p∈([]:É) from hp) (by simp)
 JO:=I.JO.kept hk
 len:=by unfold stC;show _=(Fr.map (·.1)++Tg).length;simp
end
def O' (X:Cx)(ifs:Â)(t:TT):Prop:=
 ∀(pins:É) (s:Α) (σ:St) (H:Hp) (Q:Bool->Hp->Prop),Inv X pins σ H s->t σ H Q->
  Κ (Μ X.prog X.w) X.A (forIn ifs Θ λc r=>if r=Θ then do let ok <- isTrue c X.env (eval c X.env);pure (ForInStep.yield ok) else pure (ForInStep.yield r)) (TP X pins σ Q) X.xe s
theorem nt (h:Q Ξ s):∀ifs:Â,
  Κ M A (forIn ifs Ξ λc r=>if r=Θ then do let ok <- isTrue c env (eval c env);pure (ForInStep.yield ok) else pure (ForInStep.yield r)) Q E s
 |[]=>by rw[List.forIn_nil];exact e_ h
 |c::cs=>by rw[List.forIn_cons];rw[f_ A_];exact a_ (e_ (nt h cs))
def Ae:O' X [] (λ_ H Q=>Q Θ H):=λpins s σ H Q I q=>by rw[List.forIn_nil];exact e_ ⟨H,I,q⟩
def wD (hc:PT X c t)(hr:O' X cs u):O' X (c::cs) (ET t u):=λpins s σ H Q I q=>by
 rw[List.forIn_cons,h_ rfl];refine a_ (a_ (JP (hc pins s σ H _ I q) λb s1 ⟨H1,I1,q1⟩=>e_ ?_))
 induction b using zB with
 |true=>exact hr pins s1 σ H1 Q I1 q1
 |false=>exact nt ⟨H1,I1,q1⟩ cs
def tZ (wi:TI)(start:St->St)(g:TG)(tt:TT)(te:TE):TE:=λσ H Q=>wi σ H λJ H1=>∀D,H1 D=Φ->∃W:Nat->Nat->St->Hp->Prop,(∃m,W 0 m (start σ) (upd H1 D (.lst [])))/\
 ∀i m JD H',W i m JD H'->(J.stop i H'/\Q (.ref D) H')∨(J.go i H'/\∀x H2,J.Ob i H' x H2->g x JD H2 λLW H3=>tt LW H3 λb H4=>
  if b=Θ then te LW H4 λv H5=>∃ys,H5 D=Δ (.lst ys)/\ys.length < Ζ/\∃m',m' < m/\W (i+1) m' LW (upd H5 D (.lst (ys++[v])))
  else ∃m',m' < m/\W (i+1) m' LW H4)
def qe (scope:Scope)(pos:Pos)(it acc:Ψ)(env:Env) :
  compTurn (.ListComp elt [⟨tg,iter,ifs,0⟩] scope pos) 0 it acc env=(do
   standAt iter.pos
   match <- pyNext it with
   |none=>pure (.done .next)
   |some v=>
    letOwnedTupleGo tg it v
    assign tg env v
    let ok <- forIn ifs Θ λc r=>if r=Θ then do let ok <- isTrue c env (eval c env);pure (ForInStep.yield ok) else pure (ForInStep.yield r)
    if ok=Θ then
     (do let _ <- call (.builtin "list.append") [acc,<- eval elt env])
    again (.compLoop (.ListComp elt [⟨tg,iter,ifs,0⟩] scope pos) 0 it acc env)):=by rfl
def om {Fr:List (Str×Nat)}{XE:Ω->Α->Hp->Î->Ü}(hc:X.calm=Θ)(S:Lk X scope cl Fr Tg)
  (hg:∀C s H fp,PG (Ni X scope cl (Fr.map (·.1)++Tg) C s H fp (XE C s H fp)) tg g) (ht:∀C s H fp,O' (Ni X scope cl (Fr.map (·.1)++Tg) C s H fp (XE C s H fp)) ifs tt)
  (he:∀C s H fp,PE (Ni X scope cl (Fr.map (·.1)++Tg) C s H fp (XE C s H fp)) elt te)
   {Q:VK} (I2:Inv X pins σ H2 s2) (T:Turn X.prog X.w X.K tg J fp it tn) (PR:tn 0 s2.heap)
  (f2:∀b∈fp,lA X pins H2 b)
  (q:∀D,H2 D=Φ->∃W:Nat->Nat->St->Hp->Prop,(∃m,W 0 m (stC Fr Tg σ) (upd H2 D (.lst [])))/\
   ∀i m JD H',W i m JD H'->(J.stop i H'/\Q (.ref D) H')∨(J.go i H'/\∀x H2,J.Ob i H' x H2->g x JD H2 λLW H3=>tt LW H3 λb H4=>
    if b=Θ then te LW H4 λv H5=>∃ys,H5 D=Δ (.lst ys)/\ys.length < Ζ/\∃m',m' < m/\W (i+1) m' LW (upd H5 D (.lst (ys++[v])))
    else ∃m',m' < m/\W (i+1) m' LW H4))
   {RR:Ψ->Env->Result->Α->Prop}
  (hR:∀D C s' H',(∃m,s'.heap.Ns C m)->Inv X pins σ H' s'->lA X pins H' C->Q (.ref D) H'->∀V:Env,V.locals=C->V.frame=X.env.frame->RR (.ref D) V (.ok .next) s')
  (hX:∀D C s3 H3,(∀s5 Pc H5,Inv (Ni X scope cl (Fr.map (·.1)++Tg) C s3 H3 fp (XE C s3 H3 fp)) [] Pc H5 s5->(∃m,s5.heap.Ns C m)/\Inv X pins σ H5 s5/\lA X pins H5 C)->∀e s',XE C s3 H3 fp e s'->
   notedBy (Μ X.prog X.w) X.A (compEnvC scope cl C X.env) (λx Oh=>∀V:Env,V.locals=C->V.frame=X.env.frame->RR (.ref D) V (.error x) Oh) e s') :
  Κ (Μ X.prog X.w) X.A (newList []) (λacc Wk=>Κ (Μ X.prog X.w) X.A (newFunctionEnv scope X.env.globals cl [] X.env.qual Φ .none (Δ X.env)) (λS8 Wl=>
   codeAny (Μ X.prog X.w) X.A (.compStart (.ListComp elt [⟨tg,iter,ifs,0⟩] scope pos) 0 (.ref it) acc {S8 with scope:=relabel scope X.env}) (RR acc S8) Wl) E Wk) E s2:=by
 have fsz:∀b∈fp,b < s2.heap.objs.size:=λb hb=>by obtain⟨o,e,_⟩:=T.obj _ _ PR b hb;exact j_ e
 -- Of PY
 refine aac ?_;have I3:Inv X pins σ (upd H2 s2.heap.objs.size (.lst [])) {s2 with heap:=s2.heap.push {cls:=.type "list",data:=.seq ([]:Ï).toArray},toks:=s2.toks}:=I2.Qu (ys:=[]) (its:=[]) .nil (R_ _);generalize hD:s2.heap.objs.size=D at I3 ⊢;have hDn:H2 D=Φ:=by rw[<- hD];exact I2.fresh
 generalize YO:({s2 with heap:=s2.heap.push {cls:=.type "list",data:=.seq ([]:Ï).toArray},toks:=s2.toks}:Α)=s3 at I3;have k3:∀b o,s2.heap.get? b=Δ o->s3.heap.get? b=Δ o:=λb o e=>by rw[<- YO];exact m_ _ e
 have sz3:s3.heap.objs.size=D+1:=by rw[<- YO,<- hD];exact W_ ..
 have S9:∀b∈fp,b < D:=λb hb=>by rw[<- hD];exact fsz b hb
 have Wm:∀b∈fp,b < s3.heap.objs.size:=λb hb=>by rw[sz3];exact Nat.lt_succ_of_lt (S9 b hb)
 have f3:∀b∈fp,lA X pins (upd H2 D (.lst [])) b:=λb hb=>by obtain⟨a1,a2⟩:=f2 b hb;refine⟨?_,a2⟩;rw[ib (o_ (S9 b hb))];exact a1
 obtain⟨W,⟨m0,w0⟩,turn⟩:=q D hDn;refine wpAny_newFunctionEnv S.Mf (by intro y hy;simp at hy) (λh4 MT Ta=>codeAny_mono (R:=λr s'=>∀V:Env,V.locals=s3.heap.objs.size->V.frame=X.env.frame->RR (.ref D) V r s') ?_ λr s' z=>z _ rfl rfl) S.kind;have k4:∀b o,s3.heap.get? b=Δ o->h4.get? b=Δ o:=λb o e=>
  Ta.extBut b o (o_ (j_ e)) (m_ _ e)
 have YQ:tn 0 h4:=T.keep _ _ _ PR λb hb o e=>k4 b o (k3 b o e);have I4:=vm (fp:=fp) (h':=h4) (tk:=s3.toks+([]:List (Str×Ψ)).length) S I3 f3 Wm (by simpa using MT) k4 (XE s3.heap.objs.size s3 (upd H2 D (.lst [])) fp);generalize hC:s3.heap.objs.size=C at I4 MT Ta ⊢;have Wn:=hX D C s3 (upd H2 D (.lst []));generalize hZ:XE C s3 (upd H2 D (.lst [])) fp=Z at I4 Wn;generalize hY:Ni X scope cl (Fr.map (·.1)++Tg) C s3 (upd H2 D (.lst [])) fp Z=Y at I4 Wn;have yP:Y.prog=X.prog:=by rw[<- hY];rfl
 have yw:Y.w=X.w:=by rw[<- hY];rfl
 have yK:Y.K=X.K:=by rw[<- hY];rfl
 have yA:Y.A=X.A:=by rw[<- hY];rfl
 have yc:Y.calm=Θ:=by rw[<- hY];exact hc
 have yx:Y.xe=Z:=by rw[<- hY];rfl
 have ye:Y.env=compEnvC scope cl C X.env:=by rw[<- hY];rfl
 have Tc:Y.ex=fp:=by rw[<- hY];rfl
 have ypn:Y.pn=[]:=by rw[<- hY];rfl
 have yfs:Y.fs=KC X.stack:=by rw[<- hY];rfl
 have yH:Y.KJ=upd H2 D (.lst []):=by rw[<- hY];rfl
 have PZ:Y.J6=s3:=by rw[<- hY];rfl
 have Wo:PG Y tg g:=by rw[<- hY,<- hZ];exact hg _ _ _ _
 have LG:O' Y ifs tt:=by rw[<- hY,<- hZ];exact ht _ _ _ _
 have he':PE Y elt te:=by rw[<- hY,<- hZ];exact he _ _ _ _
 have MP:∀ {H':Hp},(∀b∈fp,H' b=Φ)->∀b∈fp,lA Y [] H' b:=λhn b hb=>by have Wq:=I4.ok;refine⟨hn b hb,(Wq.PL b (by rw[Tc];exact hb)).1,Wq.Mb b (by rw[Tc];exact hb),.inl (by rw[Tc];exact hb),(Wq.PL b (by rw[Tc];exact hb)).2,λp hp=>absurd hp (by rw[ypn];simp)⟩
 have fr0:∀b∈fp,(upd H2 D (.lst [])) b=Φ:=λb hb=>(f3 b hb).1
 -- back to Of frame
 have back:∀(s5:Α) (Pc:St) (H5:Hp),Inv Y [] Pc H5 s5->(∃m,s5.heap.Ns C m)/\Inv X pins σ H5 s5/\lA X pins H5 C:=by
  intro s5 Pc H5 I5;have Wr:∃m,s5.heap.Ns C m:=by obtain⟨m,hn,_⟩:=I5.loc;rw[ye]at hn;exact⟨m,hn⟩
  have un5:Un (KC X.stack) fp (upd H2 D (.lst [])) H5 s3.heap s5.heap:=by have u:=I5.base;rw[yfs,Tc,yH,PZ]at u;exact u
  have os5:s5.os=s3.os:=by have:=I5.os;rw[PZ]at this;exact this
  have Ws:Kw H5 s5.heap:=I5.JO;have NV:∀b∈fp,(b∈X.ex∨X.J6.heap.objs.size<=b)/\b≠X.env.locals/\(∀x c,X.env.cells.lookup x=Δ c->c≠b)/\∀p∈X.pn++pins,p.1≠b:=λb hb=>by obtain⟨_,a1,_,a3,a4,a5⟩:=f3 b hb;exact⟨a3,a1,a4,a5⟩
  have Td:H5 C=Φ:=by have:=I5.free;rw[ye]at this;exact this
  exact⟨Wr,I3.N' os5 un5 Ws I5.bare NV,I3.Ny (Nat.le_of_eq hC) Td⟩
 have nz:∀ {α:Type}{t:Sem α}{Q:α->Α->Prop}{s:Α},Κ (Μ X.prog X.w) X.A t Q Z s->Κ (Μ X.prog X.w) X.A t Q (notedBy (Μ X.prog X.w) X.A (compEnvC scope cl C X.env) λx Oh=>∀V:Env,V.locals=C->V.frame=X.env.frame->RR (.ref D) V (.error x) Oh) s:=λh=>wpAny_mono h (λ_ _ z=>z) λe s' z=>Wn back e s' z;have loop:∀(s5:Α) (Pc:St) (H5:Hp) (i m:Nat),Inv Y [] Pc H5 s5->tn i s5.heap->(∀b∈fp,H5 b=Φ)->W i m Pc H5->
   codeAny (Μ X.prog X.w) X.A (.compLoop (.ListComp elt [⟨tg,iter,ifs,0⟩] scope pos) 0 (.ref it) (.ref D) (compEnvC scope cl C X.env)) (λr s'=>∀V:Env,V.locals=C->V.frame=X.env.frame->RR (.ref D) V r s') s5:=by
  intro s5 Pc H5 i m I5 SU V5 w5;refine codeAny_loop rfl (λn s'=>∃i JD H',Inv Y [] JD H' s'/\tn i s'.heap/\(∀b∈fp,H' b=Φ)/\W i n JD H') ?_ m ⟨i,Pc,H5,I5,SU,V5,w5⟩;rintro n s6 ⟨i,Qp,H6,I6,YR,YT,w6⟩;show Κ _ X.A ((compTurn (.ListComp elt [⟨tg,iter,ifs,0⟩] scope pos) 0 (.ref it) (.ref D) (compEnvC scope cl C X.env)).onRaise (λx=>do noteFrame x (compEnvC scope cl C X.env);theTreesLotGoes x)) _ _ s6;refine wpAny_noted ?_;rw[qe];refine a_ (wpAny_standAt (a_ ?_));have nx:∀ {α:Type}{t:Sem α}{Q:α->Α->Prop}{E':Ü}{s:Α},Κ (Μ X.prog X.w) X.A t Q (λ_ _=>False) s->Κ (Μ X.prog X.w) X.A t Q E' s:=λh=>wpAny_mono h (λ_ _ z=>z) λ_ _ z=>z.elim;rcases turn i n Qp H6 w6 with⟨stop,qn⟩|⟨go,step⟩
  ·have h:=T.done Y yP yw yK yc i [] s6 Qp H6 (λ_ _=>False) I6 (MP YT) YR stop;rw[yA]at h;refine nx (JP h λr s7 ⟨hr,I7⟩=>?_);subst hr;refine e_ ?_;obtain⟨b1,b2,b3⟩:=back s7 Qp H6 I7;exact hR D C s7 H6 b1 b2 b3 qn
  ·have h:=T.item Y yP yw yK yc i [] s6 Qp H6 (λ_ _=>False) I6 (MP YT) YR go;rw[yA]at h;refine nx (JP h λr s7 ⟨u,hr,h7⟩=>?_);subst hr;refine a_ (nx (JP h7 λ_ s8 ⟨x,H8,I8,r8,y8,Wt,fr8⟩=>?_));have I8':=I8.pinned (MP fr8) (T.obj _ _ Wt);have h9:=Wo _ s8 Qp H8 x u _ I8' r8 (step x H8 y8);rw[yP,yw,yA,yx,ye]at h9;refine a_ (nz (JP h9 λ_ s9 ⟨Wu,H9,I9,q9⟩=>?_));have OO:=LG _ s9 Wu H9 _ I9 q9;rw[yP,yw,yA,yx,ye]at OO;refine a_ (nz (JP OO λok La ⟨H10,YU,P0⟩=>?_));have again:∀ {JD:St}{H':Hp}{s':Α},Inv Y ([]++mI fp s8.heap) JD H' s'->(∃m',m' < n/\W (i+1) m' JD H')->∃m,m < n/\∃i JD H',Inv Y [] JD H' s'/\tn i s'.heap/\(∀b∈fp,H' b=Φ)/\W i m JD H':=λ{JD H' s'} I' ⟨m',hm,w'⟩=>by refine⟨m',hm,i+1,JD,H',I'.K8,T.keep _ _ _ Wt λb hb o e=>(I'.pin (b,o) (r_ _ (r_ _ (kE hb e)))).1,λb hb=>?_,w'⟩;obtain⟨o,e,d⟩:=T.obj _ _ Wt b hb;exact(I'.pin (b,o) (r_ _ (r_ _ (kE hb e)))).2.1
   induction ok using zB with
   |false=>rw[f_ A_]at P0;refine a_ (e_ (e_ ⟨rfl,again YU P0⟩))
   |true=>rw[h_ rfl]at P0;have P2:=he' _ La Wu H10 _ YU P0;rw[yP,yw,yA,yx,ye]at P2;refine a_ (a_ (nz (JP P2 λy LS ⟨v,YV,I11,r11,ys,ey,zy,q11⟩=>?_)));have Qy:=mL (X:=Y) ([]++mI fp s8.heap) LS Wu YV (.ref D) [v] (.ref D) [y] (λv' H'=>v'=.JF/\H'=upd YV D (.lst (ys++[v]))) I11 rfl (.cons r11 .nil) ⟨D,ys,v,rfl,rfl,ey,zy,rfl,rfl⟩;rw[yP,yw,yA,yx]at Qy;refine a_ (nz (JP Qy λz Pd ⟨v12,H12,I12,r12,e12,Wv⟩=>?_));subst Wv;exact e_ (e_ ⟨rfl,again I12 q11⟩)
 have start:=loop {s3 with heap:=h4,toks:=s3.toks+([]:List (Str×Ψ)).length} (stC Fr Tg σ) (upd H2 D (.lst [])) 0 m0 I4 YQ fr0 w0;have e5:∀(s':Α),s' = {s3 with heap:=h4,toks:=s3.toks+([]:List (Str×Ψ)).length}->codeAny (Μ X.prog X.w) X.A (.compLoop (.ListComp elt [⟨tg,iter,ifs,0⟩] scope pos) 0 (.ref it) (.ref D) (compEnvC scope cl C X.env)) (λr s'=>∀V:Env,V.locals=C->V.frame=X.env.frame->RR (.ref D) V r s') s':=by rintro _ rfl;exact start
 exact codeAny_compStart_list (e5 _ rfl) (T.self _ _ _ _ _ YQ (e5 _ rfl))
def nJ {Fr:List (Str×Nat)}(hc:X.calm=Θ)(S:Lk X scope cl Fr Tg)(hi:PI X tg iter wi)
  (hg:∀C s H fp,PG (Ni X scope cl (Fr.map (·.1)++Tg) C s H fp) tg g) (ht:∀C s H fp,O' (Ni X scope cl (Fr.map (·.1)++Tg) C s H fp) ifs tt)
  (he:∀C s H fp,PE (Ni X scope cl (Fr.map (·.1)++Tg) C s H fp) elt te) (hs:∀x,foldedSetIterable iter X.env x=pure x:=by intro _;rfl) :
  PE X (.ListComp elt [⟨tg,iter,ifs,0⟩] scope pos) (tZ wi (stC Fr Tg) g tt te):=by
 intro pins s σ H Q I h;rw[eval_ListComp];refine wpAny_comprehension_free (use:=Φ) rfl hs S.S7 S.kind S.loc (JP (hi pins s σ H _ I h) λxv s1 h1=>JP h1 λUZ s2 h2=>?_);obtain⟨it,fp,tn,J,H2,rfl,I2,T,PR,f2,q⟩:=h2;refine om (XE:=λ_ _ _ _ _ _=>False) (RR:=λacc V=>compPost (Μ X.prog X.w) X.A X.xe Φ (EP X pins σ Q) acc V.locals) hc S hg ht he I2 T PR f2 q ?_ λ_ _ _ _ _ _ _ z=>z.elim;intro D C s' H' JG I' F' q' V hV _;obtain⟨m,hn⟩:=JG;subst hV;obtain⟨f0,f1,f2,f3,f4,f5⟩:=F';exact⟨m,hn,λh' sb=>⟨.ref D,H',I'.turned (t':=s'.toks) (λb o hb e=>(sb.2 b hb).trans e) f0 f1 f3 f4 f5,rfl,q'⟩⟩
def Af {Fr:List (Str×Nat)}(hc:X.calm=Θ)(hN:X.N.Nodup)(YW:X.N[i]? = Δ y)(hy:X.env.kindOf y=Δ .local)(S:Lk X scope cl Fr Tg)(hi:PI X tg iter wi)
  (hg:∀C s H fp,PG (Ni X scope cl (Fr.map (·.1)++Tg) C s H fp) tg g) (ht:∀C s H fp,O' (Ni X scope cl (Fr.map (·.1)++Tg) C s H fp) ifs tt)
  (he:∀C s H fp,PE (Ni X scope cl (Fr.map (·.1)++Tg) C s H fp) elt te)
  (Qz:swapsWith (.ListComp elt [⟨tg,iter,ifs,0⟩] scope pos) (Δ (.Name y py)) spos.line X.env=pure Θ) (hs:∀x,foldedSetIterable iter X.env x=pure x:=by intro _;rfl) :
  PS X (.Assign [.Name y py] (.ListComp elt [⟨tg,iter,ifs,0⟩] scope pos) spos) (λD σ H=>tZ wi (stC Fr Tg) g tt te σ H λv H'=>D.nx (σ.set i (Δ v)) H'):=by
 intro pins s σ H D I h;rw[exec_Assign_Name_used _ _ _ _ Qz];refine a_ (wpAny_standAt (a_ ?_));show Κ _ X.A (do let _ <- comprehension (.ListComp elt [⟨tg,iter,ifs,0⟩] scope pos) scope X.env _ (newList []) Ξ (eval iter X.env) (Δ (assign (.Name y py) X.env))) _ _ s
 refine a_ (JP (wpAny_comprehension_free (use:=Δ (assign (.Name y py) X.env)) (Q:=λ_ s'=>SP X pins D .next s') rfl hs S.S7 S.kind S.loc
  (JP (hi pins s σ H _ I h) λxv s1 h1=>JP h1 λUZ s2 h2=>?_)) λ_ s' hq=>e_ (e_ hq))
 obtain⟨it,fp,tn,J,H2,rfl,I2,T,PR,f2,q⟩:=h2;refine om (Q:=λv H'=>D.nx (σ.set i (Δ v)) H') (XE:=λ_ _ _ _ _ _=>False) (RR:=λacc V=>compPost (Μ X.prog X.w) X.A X.xe (Δ (assign (.Name y py) X.env)) (λ_ s'=>SP X pins D .next s') acc V.locals) hc S hg ht he I2 T PR f2 q ?_ λ_ _ _ _ _ _ _ z=>z.elim;intro D' C s' H' JG I' F' q' V hV _;obtain⟨m,hn⟩:=JG;subst hV;obtain⟨f0,f1,f2,f3,f4,f5⟩:=F';show Κ _ X.A (assign (.Name y py) X.env (.ref D')) _ _ _;refine wpAny_assign_Name (pI I' hN YW (.inl hy) (show RelV (.ref D') (.ref D') from rfl) (λOh I'' ⟨a,sb,ha⟩=>?_) (.inr hy));have hCa:V.locals≠a:=by
  rcases ha with rfl|ha
  ·exact f1
  ·exact λz=>f4 y a ha z.symm
 refine⟨m,hn.sameBut sb hCa,λh' sb'=>⟨_,H',I''.turned (t':=Oh.toks) (λb o hb e=>(sb'.2 b hb).trans e) f0 f1 f3 f4 f5,q'⟩⟩
open PySem.SeqAt
def su:typeLookup (.type "list_reverseiterator") "__len__" = pure Φ:=by rw[typeLookup_type,builtinLookup_eq_fast];kernel_rfl
def wF:typeLookup (.type "list_reverseiterator") "__length_hint__" = pure (Δ (.builtin "list_reverseiterator.__length_hint__")):=by rw[typeLookup_type,builtinLookup_eq_fast];kernel_rfl
def oo (hit:s.heap.IsRevIter I l i)(h:Q Ξ s):Κ (Μ prog w) A (Builtin.List.listLengthHint (.ref I)) Q E s:=by
 unfold Builtin.List.listLengthHint;refine a_ (wpAny_specialOf hit.typeIs su ?_);show Κ _ A (specialOf (θ I) (Ρ "__length_hint__") >>= _) _ _ _;refine a_ (wpAny_specialOf hit.typeIs wF ?_);generalize MH:("list_reverseiterator.__length_hint__" : String)=Ww
 wp_delta
 rw[show splitId Ww=Δ ("list_reverseiterator","__length_hint__") from by subst MH;decide +kernel];subst MH;refine a_ (wpAny_isInstance (T:="list_reverseiterator") (b:=Θ) hit.typeIs (by rw[isSubtype_type];kernel_rfl) ?_);refine wpAny_ite_split (λNA=>absurd NA nofun) (λ_=>?_);refine wpAny_ite_split (λ_=>?_) (λNA=>absurd ∅ NA);refine wpAny_ite_split (λNA=>absurd NA ∅) (λ_=>?_);exact e_ h
def mM {prog:Ε}{w:Β}{A:Ι}{s:Α}{R:Result->Α->Prop}(hh:A.handled=Φ)(I l S:Ω)(items:Array Ψ)(LH:l≠I)(res:Ψ)(c₀:Nat)(hit:s.heap.IsRevIter I l ((items.size:Int) - 1))(hl:s.heap.IsList l items)(YX:S≠I)(hSl:S≠l)
  (hS:s.heap.get? S=Δ {cls:=.type "list",data:=.seq #[] c₀})
  (hR:∀h' tk Lw c',(∀b o,b≠S->b≠I->s.heap.get? b=Δ o->h'.get? b=Δ o)->h'.get? S=Δ {cls:=.type "list",dict:=Φ,data:=.seq Lw c',slots:=#[]}->
   ItemsOf (λi v=>items[items.size - 1 - i]? = Δ v) Lw items.size->R (.ok (.ret res)) {s with heap:=h',toks:=tk}) (hn:items.size<=Ζ) :
  Κ (Μ prog w) A.in1 (Χ (.ref S) (.ref I) res)
   (λfin s'=>match fin with|.done f=>R (.ok f) s'|.again c'=>c'.quiet=Θ/\codeAny (Μ prog w) A c' R s') (λe s'=>R (.error e) s') s:=by
 have hSf:S∉[I,l]:=λhm=>by
  rcases k_.mp hm with e|hm
  ·exact YX e
  ·exact hSl (v_.mp hm)
 unfold Χ;refine a_ (wpAny_typeOf hit.typeIs ?_);have h1:Builtin.List.listSameRef (.ref S) (.ref I)=Ξ:=by simp[Builtin.List.listSameRef,YX]
 have h2:(Value.type "list_reverseiterator" == Value.type "list")=Ξ:= nofun
 have h3:(Value.type "list_reverseiterator" == Value.type "tuple")=Ξ:= nofun
 simp only[h1,h2,h3,Bool.or_false,aap,if_false];refine a_ (wpAny_pyIter_revIter hit ?_);refine a_ (L_ (oo hit ?_));refine wpAny_ite_split (λNA=>absurd NA nofun) (λ_=>?_);have W:=(Walks.listRev (prog:=prog) (w:=w) (A:=A.in1) hh I l LH items).toS;refine e_ ⟨plainId_quiet F.plain_extend_loop _,codeAny_extend_loopS W hn S hSf res items.size 0 _ #[] c₀ rfl (R_ _) ⟨R_ _,by simpa using hit,hl⟩ hS (ItemsOf.nil _) λs' Lw c' hm Lp KG=>?_⟩;rw[Moved.eq_with hm];refine hR s'.heap s'.toks Lw c' (λb o hb Nj e=>hm.heap b o (λQA=>?_) e) Lp KG;rcases k_.mp QA with e'|QA
 ·exact hb e'
 ·exact Nj (v_.mp QA)
def pA (hh:A.handled=Φ)(I l:Ω)(items:Array Ψ)(LH:l≠I)(hit:s.heap.IsRevIter I l ((items.size:Int) - 1))(hl:s.heap.IsList l items)
  (hQ:∀h' tk Lw c',(∀b o,b≠I->s.heap.get? b=Δ o->h'.get? b=Δ o)->
   h'.get? s.heap.objs.size=Δ {cls:=.type "list",dict:=Φ,data:=.seq Lw c',slots:=#[]}->ItemsOf (λi v=>items[items.size - 1 - i]? = Δ v) Lw items.size->Q (.ref s.heap.objs.size) {s with heap:=h',toks:=tk}) (hn:items.size<=Ζ) :
  Κ (Μ prog w) A (call (.type "list") [.ref I]) Q E s:=by
 have ltI:I < s.heap.objs.size:=by obtain⟨o,e,_⟩:=hit;exact j_ e
 have U5:l < s.heap.objs.size:=by obtain⟨o,e,_⟩:=hl;exact j_ e
 refine callType_codes (Q₁:=λobj JI=>obj=.ref s.heap.objs.size/\JI = {s with heap:=s.heap.push {cls:=.type "list",data:=.seq #[]}}) F.called_list (F.typeCall_list_1 _) F.entry_list_init
  (code_list_new _ ⟨rfl,rfl⟩) λobj JI NB=>?_
 obtain⟨rfl,rfl⟩:=NB;have hS:(s.heap.push {cls:=.type "list",data:=.seq #[]}).get? s.heap.objs.size=Δ {cls:=.type "list",data:=.seq #[]}:=w_ _ rfl;refine⟨⟨_,hS,rfl⟩,F.args_list_init_2 _ _,?_⟩;show Κ _ _ (do let old <- Builtin.List.listItems (.ref s.heap.objs.size);Builtin.List.listUpdate (.ref s.heap.objs.size) (λ_=>#[]);letGo old.toList.reverse;Χ (.ref s.heap.objs.size) (.ref I) .none) _ _ _;refine a_ ?_;unfold Builtin.List.listItems;refine a_ (Z_ hS rfl (e_ ?_));show Κ _ _ (updateSeq s.heap.objs.size (λ_=>#[]) >>= λ_=>letGo (#[]:Array Ψ).toList.reverse >>= λ_=>Χ (.ref s.heap.objs.size) (.ref I) .none) _ _ _;refine a_ (wpAny_updateSeq hS rfl ?_);have L5:=aao (ι (λ_=>(#[]:Array Ψ))) hS rfl;have K6:∀b o,b≠s.heap.objs.size->s.heap.get? b=Δ o->((s.heap.push {cls:=.type "list",data:=.seq #[]}).update s.heap.objs.size (ι (λ_=>(#[]:Array Ψ)))).get? b=Δ o:=
  λb o hb e=>(aah _ _ (Ne.symm hb)).trans (m_ _ e)
 refine a_ (wpAny_letGo ?_);refine mM (A:=A.in1) hh I l _ items LH .none _ (hit.at λo e=>K6 I o (o_ ltI) e) (hl.at λo e=>K6 l o (o_ U5) e) (U_ ltI) (U_ U5) L5 (λh' tk Lw c' hk Lp KG=>?_) hn;exact⟨rfl,hQ h' tk Lw c' (λb o hb e=>hk b o (o_ (j_ e)) hb (K6 b o (o_ (j_ e)) e)) Lp KG⟩
def Vals.rev {xs:Ñ}{us:Ï}(h:Vals xs us):Vals xs.reverse us.reverse:=by
 induction h with
 |nil=>exact .nil
 |cons r _ ih=>rw[List.reverse_cons,List.reverse_cons];exact ih.append (.cons r .nil)
def Ag (hc:X.calm=Θ)(g1:Gl X "list") (m1:X.mg "list" = Φ) (g2:Gl X "reversed") (m2:X.mg "reversed" = Φ) (he:PE X e t) (JY:∀es,Ν (e::es) X.env=(Ξ,eval e X.env)::Ν es X.env) :
  PE X (.Call (.Name "list" p) [.Call (.Name "reversed" p') [e] [] pos'] [] pos) (λσ H Q=>t σ H λv H1=>∃l ys,v=.ref l/\K2 X.K H1 l ys/\∀q,H1 q=Φ->Q (.ref q) (upd H1 q (.lst ys.reverse))):=by
 intro pins s σ H Q I h;refine aaJ (kD (u:=.type "list") I g1 m1 ∅ ?_ nofun nofun);refine aaL ?_ rfl rfl;show Κ _ _ (spliced ((Ξ,eval (.Call (.Name "reversed" p') [e] [] pos') X.env)::backTo pos (Ν [] X.env))) _ _ s;have key:Κ (Μ X.prog X.w) X.A (eval (.Call (.Name "reversed" p') [e] [] pos') X.env) (λu s1=>∃s0 l ys its H1,Inv X pins σ H1 s0/\Vals ys its/\s0.heap.IsList l its.toArray/\ys.length<=Ζ/\u=.ref s0.heap.objs.size/\s1 = {s0 with heap:=s0.heap.push (revObj l ((its.toArray.size:Int) - 1))}/\∀q,H1 q=Φ->Q (.ref q) (upd H1 q (.lst ys.reverse))) X.xe s:=by refine aaJ (kD (u:=.type "reversed") I g2 m2 ∅ ?_ nofun nofun);refine aaL ?_ (JY []) rfl;rw[JY []];show Κ _ _ (spliced ((Ξ,eval e X.env)::backTo pos' (Ν [] X.env))) _ _ s;refine Calls.spliced_cons (JP (he pins s σ H _ I h) λu s1 ⟨x,H1,I1,r1,l,ys,ex,hq,q1⟩=>?_);subst ex;cases r1;refine Calls.spliced_nil ?_;obtain⟨its,r',pl,hz⟩:=I1.list hq;exact call_reversed_list pl.isList ⟨s1,l,ys,its,H1,I1,r',pl.isList,hz,rfl,rfl,q1⟩
 refine Calls.spliced_cons (JP key λu s1 ⟨s0,l,ys,its,H1,I1,rv,hl,hz,eu,es,q1⟩=>?_);subst eu es;refine Calls.spliced_nil ?_;have hlen:=rv.length;have U5:l < s0.heap.objs.size:=by obtain⟨o,e,_⟩:=hl;exact j_ e
 have hit:(s0.heap.push (revObj l ((its.toArray.size:Int) - 1))).IsRevIter s0.heap.objs.size l ((its.toArray.size:Int) - 1):=⟨_,w_ _ rfl,rfl,rfl⟩
 have Wx:(s0.heap.push (revObj l ((its.toArray.size:Int) - 1))).IsList l its.toArray:=hl.at λo e=>m_ _ e;have hsz:(s0.heap.push (revObj l ((its.toArray.size:Int) - 1))).objs.size=s0.heap.objs.size+1:=W_ ..;refine pA (s:={s0 with heap:=s0.heap.push (revObj l ((its.toArray.size:Int) - 1))}) (show X.A.handled=Φ from I.ok.hd hc) s0.heap.objs.size l its.toArray (o_ U5) hit Wx (λh' tk Lw c' kp e KG=>?_) (by simp only[F_]<;>omega);have ha:Lw=(its.reverse).toArray:=by
  apply Array.ext
  ·rw[KG.1];simp
  ·intro i h1 h2;have:=KG.2 i Lw[i] (Array.getElem?_eq_getElem h1);rw[KG.1]at h1;have h3:i < its.length:=by simpa using h1
   simp only[F_,List.getElem?_toArray]at this;rw[C_ ⋯]at this;have:=I_ this;rw[<- this];simp[List.getElem_reverse]
 subst ha;exact⟨.ref _,_,I1.laid (t':=tk) (λb o e=>kp b o (o_ (j_ e)) (m_ _ e)) (by show s0.heap.objs.size<=(s0.heap.push _).objs.size;rw[hsz];exact Nat.le_succ _) (show ji _ h' _ (.lst ys.reverse) from⟨by simpa using hz,its.reverse,c',rv.rev,e⟩),rfl,q1 _ (I1.JO.fresh (by show s0.heap.objs.size<=(s0.heap.push _).objs.size;rw[hsz];exact Nat.le_succ _))⟩
def qP (h0 : -16000<=n)(h1:n<=16000)(hx:x.length<=1000):MulOk x n:=by
 refine⟨?_,λhn _=>?_,λhn _=>?_⟩
 ·rw[Bool.or_eq_false_iff];exact⟨aae ⋯,aae ⋯⟩
 ·have:(1000:Int)<=(2 ^ 63 - 1) / n:=Int.le_ediv_of_mul_le ⋯ ⋯;omega
 ·have:x.length*n.toNat<=1000*16000:=Nat.mul_le_mul hx ⋯;unfold Builtin.Str.tooLong;exact aae (by rw[sizeLine_eq];omega)
def sv:LR X (binaryOp .Mult) (λx y H Q=>∃i j,x=.str i/\y=.int j/\-16000<=j/\j<=16000/\i.length<=1000/\Q (.str (Txt.mul i j)) H):=by intro pins s σ H x y v u Q I rx ry h;obtain⟨i,j,rfl,rfl,h0,h1,hz,q⟩:=h;obtain⟨t,rfl⟩:=rx;obtain⟨t',rfl⟩:=ry;exact SB.mul (qP h0 h1 hz) λt' tk=>⟨.str (Txt.mul i j),H,I.tok _,⟨_,rfl⟩,q⟩
open PySem.W
open PySem.Builtin PySem.Builtin.Str
def Ah (hx:x.length<=1000)(h:PE X e t) :
  PE X (.JoinedStr [.Constant (.str x) j p,.FormattedValue e 114 Φ q] pos) (λσ H Q=>t σ H λv H'=>∃z,v=.str z/\x.length+(reprText z).length<=Ζ/\Q (.str (x++reprText z)) H'):=by
 intro pins s σ H Q I hq;have hs:Ζ=16777216:=sizeLine_eq;refine JoinedStr_many (joinParts_cons (JP (rZ (X:=X) (x:=x) (j:=j) (pos:=p) pins s σ H (λv H'=>v=.str x/\H'=H) I ⟨rfl,rfl⟩) λv s1 ⟨y,H1,I1,r1,e1,e2⟩=>?_));subst e1 e2;obtain⟨t1,rfl⟩:=r1;have ex:Str.empty++x=x:=Str.empty_append x;refine⟨by rw[ex];omega,?_⟩;rw[ex];refine joinParts_cons (wpAny_FormattedValue_repr (JP (h pins s1 σ _ _ I1 hq) λv s2 ⟨y,H2,I2,r2,z,e2,hz,q2⟩=>?_));subst e2;obtain⟨t2,rfl⟩:=r2;refine pyReprObj_str ?_ ⋯;refine formatField_str (λt' tk=>⟨by rw[strLen_append];exact hz,?_⟩) ⋯;exact joinParts_nil ⟨.str _,H2,(I2.tok _).tok _,⟨_,rfl⟩,q2⟩ (by rw[strLen_append];exact hz)
theorem mO:∀l:List (Str×Tok),Vals ((l.map (·.1)).map V.str) (strValues l)
 |[]=>.nil
 |p::r=>.cons ⟨p.2,rfl⟩ (mO r)
def t5 {K:Frag}  (l:List (Str×Tok))(h:K.lookup a=Δ ⟨.type "tuple",od,.seq (strValues l).toArray n,sl⟩) (hz:l.length<=1000):K0 K H a ((l.map (·.1)).map V.str):=by
 have hs:Ζ=16777216:=sizeLine_eq;refine .inr ⟨_,_,_,h,rfl,rfl,?_,mO l⟩;have e:(strValues l).length=l.length:=by rw[<- (mO l).length,i_,i_]
 show(strValues l).toArray.size<=Ζ;rw[F_];omega
end L2
namespace L2.Zp
open PySem
inductive Kq where
 | l|t
def Sq (k:Kq)(h:Heap)(a:Ω)(xs:Array Ψ):Prop:=match k with
 |.l=>h.IsList a xs
 |.t=>h.IsTuple a xs
def It (k:Kq)(h:Heap)(i a:Ω)(n:Nat):Prop:=match k with
 |.l=>h.IsListIter i a n
 |.t=>h.IsTupleIter i a n
def Sq.to (q:Sq k h a xs)(e:∀o,h.get? a=Δ o->h'.get? a=Δ o):Sq k h' a xs:=by
 cases k with
 |l=>obtain⟨o,ho,r⟩:=q;exact⟨o,e o ho,r⟩
 |t=>obtain⟨o,ho,r⟩:=q;exact⟨o,e o ho,r⟩
def It.to (q:It k h i a n)(e:∀o,h.get? i=Δ o->h'.get? i=Δ o):It k h' i a n:=by
 cases k with
 |l=>obtain⟨o,ho,r⟩:=q;exact⟨o,e o ho,r⟩
 |t=>obtain⟨o,ho,r⟩:=q;exact⟨o,e o ho,r⟩
def It.lt (q:It k h i a n):i < h.objs.size:=by
 cases k with
 |l=>obtain⟨o,ho,_⟩:=q;exact j_ ho
 |t=>obtain⟨o,ho,_⟩:=q;exact j_ ho
def wG (c:s.heap.IsTupleIter i a n)(q:s.heap.IsTuple a xs)(hx:xs[n]? = Δ x)
  (k:∀h',h'.IsTupleIter i a (n+1)->Heap.SameBut i s.heap h'->Q x {s with heap:=h'}):Κ (Μ prog w) A (ζ (.ref i)) Q E s:=by
 have ty:=c.typeIs;obtain⟨oi,gi,ci,di⟩:=c;obtain⟨oa,ga,_,na,da⟩:=q;unfold ζ;refine a_ (wpAny_callSpecial?_slot (name:=Ρ "__next__") ty F.slot_tuple_iterator_next (aaa F.slot_tuple_iterator_next ty F.entry_tuple_iterator_next ?_ (F.args_tuple_iterator_next_1 _)));show Κ _ _ (field (.ref i) 0 >>= _) _ _ s;refine a_ (M_ gi di (x:=.ref a) rfl ?_);show Κ _ _ (if(θ a == Value.none)=Θ then _ else _) _ _ s;rw[f_ (by intro z;cases z)];show Κ _ _ (field (.ref i) 1 >>= _) _ _ s;refine a_ (M_ gi di (x:=.int n 0) rfl ?_);show Κ _ _ (seqItems? (.ref a) >>= _) _ _ s;refine a_ (Z_ ga da ?_);simp only[Int.toNat_natCast,hx];refine a_ (wpAny_setField gi di (by simp) (e_ ⟨x,rfl,e_ (k _ ⟨_,aao _ gi (Obj.isFreed_of_fields (Obj.data_mapFields di _)),(Obj.cls_mapFields ..).trans ci,?_⟩ (aaK ..))⟩));rw[Obj.data_mapFields di];simp[rawInt]
def Ai (hh:A.handled=Φ)(c:s.heap.IsTupleIter i a n)(q:s.heap.IsTuple a xs)(hx:xs[n]? = Φ)
  (k:∀h' e,Heap.ExtBut i s.heap h'->(∃o,h'.get? e=Δ o/\o.cls=.type "StopIteration")->E (.ref e) {s with heap:=h'}):Κ (Μ prog w) A (ζ (.ref i)) Q E s:=by
 have ty:=c.typeIs;obtain⟨oi,gi,ci,di⟩:=c;obtain⟨oa,ga,_,na,da⟩:=q;unfold ζ;refine a_ (wpAny_callSpecial?_slot (name:=Ρ "__next__") ty F.slot_tuple_iterator_next (aaa F.slot_tuple_iterator_next ty F.entry_tuple_iterator_next ?_ (F.args_tuple_iterator_next_1 _)));show Κ _ _ (field (.ref i) 0 >>= _) _ _ s;refine a_ (M_ gi di (x:=.ref a) rfl ?_);show Κ _ _ (if(θ a == Value.none)=Θ then _ else _) _ _ s;rw[f_ (by intro z;cases z)];show Κ _ _ (field (.ref i) 1 >>= _) _ _ s;refine a_ (M_ gi di (x:=.int n 0) rfl ?_);show Κ _ _ (seqItems? (.ref a) >>= _) _ _ s;refine a_ (Z_ ga da ?_);simp only[Int.toNat_natCast,hx];refine a_ (wpAny_rule (a_ (wpAny_setField gi di (by simp) (a_ ?_))));simp only[newExc,newTuple];refine a_ (aac (a_ (m:=firstArgMember _ _) (wpAny_of_eq (a:=Value.none) (by first|rfl|(simp only[firstArgMember];rfl)) (aac ?_ (by size_fits)))) (by size_fits));simp only[raiseNew];refine a_ (wpAny_handled ?_)
 first|rw[show A.in1.handled=Φ from hh]|rw[hh]
 exact a_ (e_ (wpAny_throw (k _ _ (((aaK ..).extBut.push _).push _) ⟨_,w_ _ rfl,rfl⟩)))
def lh (c:It k s.heap i a n)(q:Sq k s.heap a xs)(hx:xs[n]? = Δ x)
  (f:∀h',It k h' i a (n+1)->Heap.SameBut i s.heap h'->Q x {s with heap:=h'}):Κ (Μ prog w) A (ζ (.ref i)) Q E s:=by
 cases k with
 |l=>exact wpAny_nextOf_list_item c q hx f
 |t=>exact wG c q hx f
def qf (hh:A.handled=Φ)(c:It k s.heap i a n)(q:Sq k s.heap a xs)(hx:xs[n]? = Φ)
  (f:∀h' e,Heap.ExtBut i s.heap h'->(∃o,h'.get? e=Δ o/\o.cls=.type "StopIteration")->E (.ref e) {s with heap:=h'}):Κ (Μ prog w) A (ζ (.ref i)) Q E s:=by
 cases k with
 |l=>exact wpAny_nextOf_list_end hh c q hx f
 |t=>exact Ai hh c q hx f
def Kept (z TO i j:Ω)(h h':Heap):Prop:=∀c o,c≠z->c≠TO->c≠i->c≠j->h.get? c=Δ o->h'.get? c=Δ o
def vn {TI TO:Ω}{Q:Ü}(D:ZipApart z TI TO i j l m)(hz:IsZip s.heap z TI TO .none)(hI:IsPair s.heap TI (.ref i) (.ref j))(hO:IsPair s.heap TO a b)
  (ci:It p s.heap i l n) (cj:It q s.heap j m n') (sl:Sq p s.heap l xs) (sm:Sq q s.heap m ys) (hx:xs[n]? = Δ x) (hy:ys[n']? = Δ y)
  (k:∀h',IsZip h' z TI TO (rawInt s.heap.objs.size)->IsPair h' TO x y->It p h' i l (n+1)->It q h' j m (n' + 1)->IsPair h' s.heap.objs.size x y->h'.objs.size=s.heap.objs.size+1->Kept z TO i j s.heap h'->Q (.ref s.heap.objs.size) {s with heap:=h'}) :
  Κ (Μ prog w) A (Builtin.«zip.__next__» ⟨[.ref z],[]⟩) (λfin s'=>∃v,fin=.done (.ret v)/\Q v s') E s:=by
 show Κ _ _ (field (.ref z) 2 >>= _) _ _ _;refine a_ (M_ hz rfl (x:=.bool Ξ) rfl ?_);show Κ _ _ (field (.ref z) 3 >>= _) _ _ _;refine a_ (M_ hz rfl (x:=.ref TI) rfl (a_ (Z_ hI rfl ?_)));show Κ _ _ (η (.ref z) >>= _) _ _ _;refine a_ ?_;unfold η;refine a_ (M_ hz rfl (x:=.none) rfl (e_ ?_));simp only[if_true];refine a_ (wpAny_rule (a_ (M_ hz rfl (x:=.ref TO) rfl (a_ (aad hz (by simp) λh1 z1 e1=>?_)))));have U6:IsZip h1 z TI TO .ellipsis:=z1;refine a_ ?_;simp only[List.zipIdx_cons,List.zipIdx_nil,List.forIn_cons,List.forIn_nil];refine a_ (a_ (wpAny_onRaise ?_));show Κ _ _ (ζ (.ref i) >>= _) _ _ _;refine a_ (lh (ci.to λo e=>e1.extBut _ _ D.i1z e) (sl.to λo e=>e1.extBut _ _ D.l1z e) hx λh2 Te e2=>e_ ?_);have O2:IsPair h2 TO a b:=e2.extBut _ _ D.TOi1 (e1.extBut _ _ D.TOz hO);refine a_ (Z_ O2 rfl (a_ (wpAny_updateSeq_pair O2 λh3 O3 e3=>?_)));have O3':IsPair h3 TO x b:=O3;refine a_ (wpAny_letGo (e_ (a_ (a_ (wpAny_onRaise ?_)))));show Κ _ _ (ζ (.ref j) >>= _) _ _ _;refine a_ (lh (cj.to λo e=>e3.extBut _ _ D.TOi2.symm (e2.extBut _ _ D.i12.symm (e1.extBut _ _ D.i2z e))) (sm.to λo e=>e3.extBut _ _ D.l2TO (e2.extBut _ _ D.l2i1 (e1.extBut _ _ D.l2z e))) hy λh4 cj4 e4=>e_ ?_);have O4:IsPair h4 TO x b:=e4.extBut _ _ D.TOi2 O3';refine a_ (Z_ O4 rfl (a_ (wpAny_updateSeq_pair O4 λh5 O5 e5=>?_)));have YY:IsPair h5 TO x y:=O5;refine a_ (wpAny_letGo (e_ (e_ (a_ (Z_ YY rfl (a_ (wpAny_newTuple ?_)))))));have sz:h5.objs.size=s.heap.objs.size:=by rw[e5.1,e4.1,e3.1,e2.1,e1.1]
 have z5:IsZip h5 z TI TO .ellipsis:=e5.extBut _ _ D.TOz.symm (e4.extBut _ _ D.i2z.symm (e3.extBut _ _ D.TOz.symm (e2.extBut _ _ D.i1z.symm U6)));have k5:Kept z TO i j s.heap h5:=λc o c1 c2 c3 c4 e=>e5.extBut _ _ c2 (e4.extBut _ _ c4 (e3.extBut _ _ c2 (e2.extBut _ _ c3 (e1.extBut _ _ c1 e))));have ci5:It p h5 i l (n+1):=Te.to λo e=>e5.extBut _ _ D.TOi1.symm (e4.extBut _ _ D.i12 (e3.extBut _ _ D.TOi1.symm e));have cj5:It q h5 j m (n' + 1):=cj4.to λo e=>e5.extBut _ _ D.TOi2.symm e;have lz:z < h5.objs.size:=j_ z5;show Κ _ _ (Builtin.SmallTypes.ownedTupleHandOut (.ref z) (.ref h5.objs.size) >>= _) _ _ _;refine a_ ?_;unfold Builtin.SmallTypes.ownedTupleHandOut;have z6:IsZip (h5.push {cls:=.type "tuple",data:=.seq #[x,y]}) z TI TO .ellipsis:=m_ _ z5;refine a_ (aad z6 (by simp) λh7 z7 e7=>aad (show IsZip h7 z TI TO (rawInt h5.objs.size) from z7) (by simp) λh8 z8 e8=>?_);have YZ:IsZip h8 z TI TO (rawInt h5.objs.size):=z8;have up:∀c o,c≠z->h5.get? c=Δ o->h8.get? c=Δ o:=λc o c1 e=>e8.extBut _ _ c1 (e7.extBut _ _ c1 (m_ _ e));have t8:IsPair h8 h5.objs.size x y:=e8.extBut _ _ (U_ lz) (e7.extBut _ _ (U_ lz) (w_ _ rfl));have s8:h8.objs.size=h5.objs.size+1:=by rw[e8.1,e7.1,W_]
 rw[sz]at YZ t8 s8;refine e_ ⟨_,rfl,?_⟩;show Q (.ref h5.objs.size) _;rw[sz];exact k h8 YZ (up _ _ D.TOz YY) (ci5.to λo e=>up _ o D.i1z e) (cj5.to λo e=>up _ o D.i2z e) t8 s8 λc o c1 c2 c3 c4 e=>up c o c1 (k5 c o c1 c2 c3 c4 e)
def vq {TI TO:Ω}(hh:A.handled=Φ)(D:ZipApart z TI TO i j l m)(hz:IsZip s.heap z TI TO .none)(hI:IsPair s.heap TI (.ref i) (.ref j))(hO:IsPair s.heap TO a b)
  (ci:It p s.heap i l n) (cj:It q s.heap j m n') (sl:Sq p s.heap l xs) (sm:Sq q s.heap m ys) (MU:xs[n]? = Φ∨ys[n']? = Φ)
  (k:∀h' e,Kept z TO i j s.heap h'->(∃o,h'.get? e=Δ o/\o.cls=.type "StopIteration")->E (.ref e) {s with heap:=h'}) :
  Κ (Μ prog w) A (Builtin.«zip.__next__» ⟨[.ref z],[]⟩) Q E s:=by
 show Κ _ _ (field (.ref z) 2 >>= _) _ _ _;refine a_ (M_ hz rfl (x:=.bool Ξ) rfl ?_);show Κ _ _ (field (.ref z) 3 >>= _) _ _ _;refine a_ (M_ hz rfl (x:=.ref TI) rfl (a_ (Z_ hI rfl ?_)));show Κ _ _ (η (.ref z) >>= _) _ _ _;refine a_ ?_;unfold η;refine a_ (M_ hz rfl (x:=.none) rfl (e_ ?_));simp only[if_true];refine a_ (wpAny_rule (a_ (M_ hz rfl (x:=.ref TO) rfl (a_ (aad hz (by simp) λh1 z1 e1=>?_)))));have U6:IsZip h1 z TI TO .ellipsis:=z1;refine a_ ?_;simp only[List.zipIdx_cons,List.zipIdx_nil,List.forIn_cons,List.forIn_nil];refine a_ (a_ (wpAny_onRaise ?_));show Κ _ _ (ζ (.ref i) >>= _) _ _ _;cases hx:xs[n]? with
 |none=>
  refine a_ (qf hh (ci.to λo e=>e1.extBut _ _ D.i1z e) (sl.to λo e=>e1.extBut _ _ D.l1z e) hx λh2 e e2 he=>?_);obtain⟨oe,g,c⟩:=he;have z2:IsZip h2 z TI TO .ellipsis:=e2 _ _ D.i1z.symm U6;have ne:e≠z:=λv=>by rw[v,z2]at g;cases g;simp at c
  exact aad z2 (by simp) λh3 _ e3=>k h3 e (λd o c1 _ c3 _ v=>e3.extBut _ _ c1 (e2 _ _ c3 (e1.extBut _ _ c1 v))) ⟨oe,e3.extBut _ _ ne g,c⟩
 |some x=>
  have hy:ys[n']? = Φ:=by
   rcases MU with v|v
   ·rw[hx]at v;cases v
   ·exact v
  refine a_ (lh (ci.to λo e=>e1.extBut _ _ D.i1z e) (sl.to λo e=>e1.extBut _ _ D.l1z e) hx λh2 Te e2=>e_ ?_);have O2:IsPair h2 TO a b:=e2.extBut _ _ D.TOi1 (e1.extBut _ _ D.TOz hO);refine a_ (Z_ O2 rfl (a_ (wpAny_updateSeq_pair O2 λh3 O3 e3=>a_ (wpAny_letGo (e_ (a_ (a_ (wpAny_onRaise ?_))))))));show Κ _ _ (ζ (.ref j) >>= _) _ _ _;refine a_ (qf hh (cj.to λo e=>e3.extBut _ _ D.TOi2.symm (e2.extBut _ _ D.i12.symm (e1.extBut _ _ D.i2z e))) (sm.to λo e=>e3.extBut _ _ D.l2TO (e2.extBut _ _ D.l2i1 (e1.extBut _ _ D.l2z e))) hy λh4 e e4 he=>?_);obtain⟨oe,g,c⟩:=he;have z4:IsZip h4 z TI TO .ellipsis:=e4 _ _ D.i2z.symm (e3.extBut _ _ D.TOz.symm (e2.extBut _ _ D.i1z.symm U6));have ne:e≠z:=λv=>by rw[v,z4]at g;cases g;simp at c
  exact aad z4 (by simp) λh5 _ e5=>k h5 e (λd o c1 c2 c3 c4 v=>e5.extBut _ _ c1 (e4 _ _ c4 (e3.extBut _ _ c2 (e2.extBut _ _ c3 (e1.extBut _ _ c1 v))))) ⟨oe,e5.extBut _ _ ne g,c⟩
abbrev RB:Kq->Ω->Obj
 |.l,a=>{cls:=.type "list_iterator",data:=.fields #[.ref a,.int 0 0]}
 |.t,a=>{cls:=.type "tuple_iterator",data:=.fields #[.ref a,.int 0 0]}
abbrev Hi (p:Kq)(h:Heap)(l:Ω):Heap:=h.push (RB p l)
abbrev Hj (p q:Kq)(h:Heap)(l m:Ω):Heap:=(Hi p h l).push (RB q m)
abbrev HI (p q:Kq)(h:Heap)(l m:Ω):Heap:=(Hj p q h l m).push {cls:=.type "tuple",data:=.seq #[.ref h.objs.size,.ref (Hi p h l).objs.size]}
abbrev HO (p q:Kq)(h:Heap)(l m:Ω):Heap:=(HI p q h l m).push {cls:=.type "tuple",data:=.seq #[.none,.none]}
abbrev HZ (p q:Kq)(h:Heap)(l m:Ω):Heap:=(HO p q h l m).push {cls:=.type "zip",data:=.fields #[.none,.bool Ξ,.bool Ξ,.ref (Hj p q h l m).objs.size,.ref (HI p q h l m).objs.size]}
def C0 (l m:Ω)(xs ys:Array Ψ):Meets (Builtin.«zip.__new__» ⟨[.type "zip",.ref l,.ref m],[]⟩) (λ_ R s=>Sq .l s.heap l xs/\Sq .l s.heap m ys/\R (.ok (.ret (.ref (HO .l .l s.heap l m).objs.size))) {s with heap:=HZ .l .l s.heap l m}):=
 .of_wp λprog w A R s h=>by
  obtain⟨hp,g,d,tk,os⟩:=s;obtain⟨q1,q2,h⟩:=h;have sub:=sub_zip;have a1:Heap.IsList (Shared.heap ⟨hp,g,d,tk,os⟩) l xs:=q1;have a2:Heap.IsList (Shared.heap ⟨hp.push {cls:=.type "list_iterator",data:=.fields #[.ref l,.int 0 0]},g,d,tk,os⟩) m ys:=Heap.IsList.push (show hp.IsList m ys from q2) _
  wp_walk using aaq a1,aaq a2
  exact⟨_,rfl,h⟩
def C1 (l m:Ω)(xs ys:Array Ψ):Meets (Builtin.«zip.__new__» ⟨[.type "zip",.ref l,.ref m],[]⟩) (λ_ R s=>Sq .l s.heap l xs/\Sq .t s.heap m ys/\R (.ok (.ret (.ref (HO .l .t s.heap l m).objs.size))) {s with heap:=HZ .l .t s.heap l m}):=
 .of_wp λprog w A R s h=>by
  obtain⟨hp,g,d,tk,os⟩:=s;obtain⟨q1,q2,h⟩:=h;have sub:=sub_zip;have a1:Heap.IsList (Shared.heap ⟨hp,g,d,tk,os⟩) l xs:=q1;have a2:Heap.IsTuple (Shared.heap ⟨hp.push {cls:=.type "list_iterator",data:=.fields #[.ref l,.int 0 0]},g,d,tk,os⟩) m ys:=Heap.IsTuple.push (show hp.IsTuple m ys from q2) _
  wp_walk using aaq a1,wpAny_pyIter_tuple a2
  exact⟨_,rfl,h⟩
def C2 (l m:Ω)(xs ys:Array Ψ):Meets (Builtin.«zip.__new__» ⟨[.type "zip",.ref l,.ref m],[]⟩) (λ_ R s=>Sq .t s.heap l xs/\Sq .l s.heap m ys/\R (.ok (.ret (.ref (HO .t .l s.heap l m).objs.size))) {s with heap:=HZ .t .l s.heap l m}):=
 .of_wp λprog w A R s h=>by
  obtain⟨hp,g,d,tk,os⟩:=s;obtain⟨q1,q2,h⟩:=h;have sub:=sub_zip;have a1:Heap.IsTuple (Shared.heap ⟨hp,g,d,tk,os⟩) l xs:=q1;have a2:Heap.IsList (Shared.heap ⟨hp.push {cls:=.type "tuple_iterator",data:=.fields #[.ref l,.int 0 0]},g,d,tk,os⟩) m ys:=Heap.IsList.push (show hp.IsList m ys from q2) _
  wp_walk using wpAny_pyIter_tuple a1,aaq a2
  exact⟨_,rfl,h⟩
def C3 (l m:Ω)(xs ys:Array Ψ):Meets (Builtin.«zip.__new__» ⟨[.type "zip",.ref l,.ref m],[]⟩) (λ_ R s=>Sq .t s.heap l xs/\Sq .t s.heap m ys/\R (.ok (.ret (.ref (HO .t .t s.heap l m).objs.size))) {s with heap:=HZ .t .t s.heap l m}):=
 .of_wp λprog w A R s h=>by
  obtain⟨hp,g,d,tk,os⟩:=s;obtain⟨q1,q2,h⟩:=h;have sub:=sub_zip;have a1:Heap.IsTuple (Shared.heap ⟨hp,g,d,tk,os⟩) l xs:=q1;have a2:Heap.IsTuple (Shared.heap ⟨hp.push {cls:=.type "tuple_iterator",data:=.fields #[.ref l,.int 0 0]},g,d,tk,os⟩) m ys:=Heap.IsTuple.push (show hp.IsTuple m ys from q2) _
  wp_walk using wpAny_pyIter_tuple a1,wpAny_pyIter_tuple a2
  exact⟨_,rfl,h⟩
def C4 (p q:Kq)(l m:Ω)(xs ys:Array Ψ):Meets (Builtin.«zip.__new__» ⟨[.type "zip",.ref l,.ref m],[]⟩) (λ_ R s=>Sq p s.heap l xs/\Sq q s.heap m ys/\R (.ok (.ret (.ref (HO p q s.heap l m).objs.size))) {s with heap:=HZ p q s.heap l m}):=by
 cases p<;>cases q
 ·exact C0 l m xs ys
 ·exact C1 l m xs ys
 ·exact C2 l m xs ys
 ·exact C3 l m xs ys
def wH {h:Heap}(e:h'.get? i=Δ (RB k a)):It k h' i a 0:=by
 cases k with
 |l=>exact⟨_,e,rfl,rfl⟩
 |t=>exact⟨_,e,rfl,rfl⟩
def qQ (k:Kq)(a:Ω):(RB k a).isFreed=Ξ:=by cases k<;>rfl
def Mr (h1:Sq p s.heap l xs)(h2:Sq q s.heap m ys)
  (k:∀h',IsZip h' (s.heap.objs.size+4) (s.heap.objs.size+2) (s.heap.objs.size+3) .none->IsPair h' (s.heap.objs.size+2) (.ref s.heap.objs.size) (.ref (s.heap.objs.size+1))->IsPair h' (s.heap.objs.size+3) .none .none->
   It p h' s.heap.objs.size l 0->It q h' (s.heap.objs.size+1) m 0->h'.objs.size=s.heap.objs.size+5->(∀c o,s.heap.get? c=Δ o->h'.get? c=Δ o)->Q (.ref (s.heap.objs.size+4)) {s with heap:=h'}) :
  Κ (Μ prog w) A (call (.type "zip") [.ref l,.ref m]) Q E s:=by
 refine callType_new F.called_zip nofun (F.typeCall_zip_2 _ _) (F.newCall_zip_2 _ _) (λobj=>F.args_object_init_3 obj _ _) F.entry_zip_new (C4 p q l m xs ys) ⟨h1,h2,?_⟩;have n1:(Hi p s.heap l).objs.size=s.heap.objs.size+1:=W_ ..;have n2:(Hj p q s.heap l m).objs.size=s.heap.objs.size+2:=(W_ ..).trans (by rw[n1]);have n3:(HI p q s.heap l m).objs.size=s.heap.objs.size+3:=(W_ ..).trans (by rw[n2]);have n4:(HO p q s.heap l m).objs.size=s.heap.objs.size+4:=(W_ ..).trans (by rw[n3]);have n5:(HZ p q s.heap l m).objs.size=s.heap.objs.size+5:=(W_ ..).trans (by rw[n4]);have Y0:∀c o,(HO p q s.heap l m).get? c=Δ o->(HZ p q s.heap l m).get? c=Δ o:=λc o e=>m_ _ e;have Y1:∀c o,(HI p q s.heap l m).get? c=Δ o->(HZ p q s.heap l m).get? c=Δ o:=λc o e=>Y0 c o (m_ _ e);have Y2:∀c o,(Hj p q s.heap l m).get? c=Δ o->(HZ p q s.heap l m).get? c=Δ o:=λc o e=>Y1 c o (m_ _ e);have Y3:∀c o,(Hi p s.heap l).get? c=Δ o->(HZ p q s.heap l m).get? c=Δ o:=λc o e=>Y2 c o (m_ _ e);have g5:(HZ p q s.heap l m).get? (HO p q s.heap l m).objs.size=Δ _:=w_ _ rfl;have g4:(HZ p q s.heap l m).get? (HI p q s.heap l m).objs.size=Δ {cls:=.type "tuple",data:=.seq #[.none,.none]}:=Y0 _ _ (w_ _ rfl);have g3:(HZ p q s.heap l m).get? (Hj p q s.heap l m).objs.size=Δ {cls:=.type "tuple",data:=.seq #[.ref s.heap.objs.size,.ref (Hi p s.heap l).objs.size]}:=Y1 _ _ (w_ _ rfl);have g2:(HZ p q s.heap l m).get? (Hi p s.heap l).objs.size=Δ (RB q m):=Y2 _ _ (w_ _ (qQ q m));have g1:(HZ p q s.heap l m).get? s.heap.objs.size=Δ (RB p l):=Y3 _ _ (w_ _ (qQ p l));rw[n2,n3,n4]at g5;rw[n3]at g4;rw[n1,n2]at g3;rw[n1]at g2;show _/\_;rw[n4];exact⟨⟨_,g5,rfl⟩,k _ g5 g3 g4 (wH (h:=s.heap) g1) (wH (h:=s.heap) g2) n5 λc o e=>Y3 c o (m_ _ e)⟩
def Nk {TI TO:Ω}(D:ZipApart z TI TO i j l m)(hz:IsZip s.heap z TI TO .none)(hI:IsPair s.heap TI (.ref i) (.ref j))(hO:IsPair s.heap TO a b)
  (ci:It p s.heap i l n) (cj:It q s.heap j m n') (sl:Sq p s.heap l xs) (sm:Sq q s.heap m ys) (hx:xs[n]? = Δ x) (hy:ys[n']? = Δ y)
  (k:∀h',IsZip h' z TI TO (rawInt s.heap.objs.size)->IsPair h' TO x y->It p h' i l (n+1)->It q h' j m (n' + 1)->IsPair h' s.heap.objs.size x y->h'.objs.size=s.heap.objs.size+1->Kept z TO i j s.heap h'->Q (Δ (.ref s.heap.objs.size)) {s with heap:=h'}) :
  Κ (Μ prog w) A (pyNext (.ref z)) Q E s:=by
 have ty:s.TypeIs (.ref z) "zip":=⟨_,hz,rfl⟩
 unfold pyNext;refine a_ (wpAny_attempt (wpAny_callSpecial?_slot (name:=Ρ "__next__") ty F.slot_zip_next (aaa F.slot_zip_next ty F.entry_zip_next ?_ (F.args_zip_next_1 _))));exact vn D hz hI hO ci cj sl sm hx hy λh' a1 a2 a3 a4 a5 a6 a7=>e_ (k h' a1 a2 a3 a4 a5 a6 a7)
def Nl {TI TO:Ω}(hh:A.handled=Φ)(D:ZipApart z TI TO i j l m)(hz:IsZip s.heap z TI TO .none)(hI:IsPair s.heap TI (.ref i) (.ref j))(hO:IsPair s.heap TO a b)
  (ci:It p s.heap i l n) (cj:It q s.heap j m n') (sl:Sq p s.heap l xs) (sm:Sq q s.heap m ys) (MU:xs[n]? = Φ∨ys[n']? = Φ)
  (k:∀h',Kept z TO i j s.heap h'->Q Φ {s with heap:=h'}):Κ (Μ prog w) A (pyNext (.ref z)) Q E s:=by
 have ty:s.TypeIs (.ref z) "zip":=⟨_,hz,rfl⟩
 unfold pyNext;refine a_ (wpAny_attempt (wpAny_callSpecial?_slot (name:=Ρ "__next__") ty F.slot_zip_next (aaa F.slot_zip_next ty F.entry_zip_next (vq hh D hz hI hO ci cj sl sm MU λh' e hk he=>?_) (F.args_zip_next_1 _))));obtain⟨o,g,c⟩:=he;exact a_ (wpAny_isInstance (T:="StopIteration") (b:=Θ) ⟨o,g,c⟩ isSubtype_stop (e_ (k _ hk)))
end L2.Zp
namespace L2
open PySem PySem.Spec PyProof.Rows
def MV (K:Frag)(H:Hp)(k:Zp.Kq)(a:Ω)(xs:Ñ):Prop:=match k with
 |.l=>K2 K H a xs
 |.t=>K0 K H a xs
section
variable {X:Cx}{pins:É}{σ:St}{H:Hp}{s:Α}{h':Heap}{k:Zp.Kq}{a:Ω}{xs ys:Ñ}
theorem Inv.P4 (I:Inv X pins σ H s)(h:MV X.K H k a xs):∃its:Ï,Vals xs its/\Zp.Sq k s.heap a its.toArray:=by
 cases k with
 |l=>obtain⟨its,rv,p,hz⟩:=I.list h;exact⟨its,rv,p.isList⟩
 |t=>obtain⟨its,rv,p,hz⟩:=I.tuple h;exact⟨its,rv,p⟩
theorem Inv.Nm (I:Inv X pins σ H s)(h:MV X.K H k a xs)(h':MV X.K H k a ys):xs=ys:=by
 cases k with
 |l=>exact I.Ku h h'
 |t=>exact I.Lj h h'
theorem Inv.turns {t':Nat}{ch:Î}(I:Inv X pins σ H s)(k:∀b o,b∉ch->s.heap.get? b=Δ o->h'.get? b=Δ o)(hf:∀b∈ch,lA X pins H b):Inv X pins σ H {s with heap:=h',toks:=t'}:=by
 have PN:∀b u,H b=Δ u->b∉ch:=λb u e z=>by rw[(hf b z).1]at e;cases e
 refine I.step (g':=s.gens) (d':=s.drawn) (ch:=ch) (λb hb=>?_) (λb o _ _ hc e _=>k b o hc e) (λb o _ _ hc e _=>⟨o.slots,k b o hc e⟩) (λ_ _ _ _ n=>n)
  (λb o hc e=>⟨o,k b o hc e⟩) (λ_ _ e=>e) (λ_ _ _ e=>e) (λb ps e=>⟨#[],by rw[e];simp⟩) (λm hm=>?_) (λb u e=>?_) I.bare
 ·obtain⟨f0,f1,f2,f3,f4,f5⟩:=hf b hb;exact⟨f3,f1,f4,f5⟩
 ·obtain⟨o,es,ep,ho,r⟩:=hm;exact⟨o,es,ep,k _ o (λz=>(hf _ z).2.1 rfl) ho,r⟩
 ·refine(I.JO b u e).Li (λc v hc q=>k c v ?_ q) (λ_ q=>q) λ_ _ q=>q;rcases hc with z|z
  ·rw[z];exact PN b u e
  ·exact PN c _ z
theorem Inv.QB {t':Nat}{ch:Î}{T:Ω}{ho:HO}(I:Inv X pins σ H s)(k:∀b o,b∉ch->s.heap.get? b=Δ o->h'.get? b=Δ o)(hf:∀b∈ch,lA X pins H b)(hp:s.heap.objs.size<=T)(new:ji (upd H T ho) h' T ho):Inv X pins σ (upd H T ho) {s with heap:=h',toks:=t'}:=by
 have PN:∀b u,H b=Δ u->b∉ch:=λb u e z=>by rw[(hf b z).1]at e;cases e
 have hn:H T=Φ:=I.JO.fresh hp;refine I.step (g':=s.gens) (d':=s.drawn) (ch:=ch) (λb hb=>?_) (λb o _ _ hc e _=>k b o hc e) (λb o _ _ hc e _=>⟨o.slots,k b o hc e⟩) (λb o _ e n=>by rw[ib (o_ (B_ (j_ e) hp))];exact n)
  (λb o hc e=>⟨o,k b o hc e⟩) (λb xs q=>by rw[ib (iH q hn)];exact q) (λb u xs q=>by rw[ib (iH q hn)];exact q) (λb ps q=>⟨#[],by rw[ib (iH q hn),q];simp⟩) (λm hm=>?_) (λb u e=>?_) I.bare
 ·obtain⟨f0,f1,f2,f3,f4,f5⟩:=hf b hb;exact⟨f3,f1,f4,f5⟩
 ·obtain⟨o,es,ep,ho,r⟩:=hm;exact⟨o,es,ep,k _ o (λz=>(hf _ z).2.1 rfl) ho,r⟩
 ·by_cases hb:b=T
  ·subst hb;rw[il]at e;cases e;exact new
  ·rw[ib hb]at e;refine(I.JO b u e).Li (λc v hc q=>k c v ?_ q) (λc q=>by rw[ib (iH q hn)];exact q) λc xs q=>by rw[ib (iH q hn)];exact q
   rcases hc with z|z
   ·rw[z];exact PN b u e
   ·exact PN c _ z
end
abbrev Wy (K:Frag)(p q:Zp.Kq)(l m:Ω):It:=
 ⟨λi H=>∃xs ys x y,MV K H p l xs/\MV K H q m ys/\xs[i]? = Δ x/\ys[i]? = Δ y,
  λi H v H'=>∃T a b,v=.ref T/\H T=Φ/\H'=upd H T (.tup [a,b])/\∀xs ys,MV K H p l xs->MV K H q m ys->xs[i]? = Δ a/\ys[i]? = Δ b,
  λi H=>∃xs ys,MV K H p l xs/\MV K H q m ys/\(xs.length<=i∨ys.length<=i)⟩
def Zp.It.obj (c:Zp.It k h i a n):∃o,h.get? i=Δ o/\∀v,o.data≠.cell v:=by
 cases k with
 |l=>obtain⟨o,e,c,d⟩:=c;exact⟨o,e,λv z=>by rw[d]at z;cases z⟩
 |t=>obtain⟨o,e,c,d⟩:=c;exact⟨o,e,λv z=>by rw[d]at z;cases z⟩
def wI {P:Ε}{w:Β}{K:Frag}{es:Â}{c:Nat}{pos:Pos}(p q:Zp.Kq)(z TI TO i j l m:Ω)(D:ZipApart z TI TO i j l m) :
  Turn P w K (.Tuple es c pos) (Wy K p q l m) [z,TI,TO,i,j] z (λn h=>IsZip h z TI TO .none/\IsPair h TI (.ref i) (.ref j)/\(∃a b,IsPair h TO a b)/\Zp.It p h i l n/\Zp.It q h j m n) where
 mem:=by simp
 obj:=λn h st b hb=>by
  obtain⟨hz,hI,⟨a,b',hO⟩,ci,cj⟩:=st;simp only[k_,O_,or_false]at hb;rcases hb with rfl|rfl|rfl|rfl|rfl
  ·exact⟨_,hz,λv z=>by cases z⟩
  ·exact⟨_,hI,λv z=>by cases z⟩
  ·exact⟨_,hO,λv z=>by cases z⟩
  ·exact ci.obj
  ·exact cj.obj
 keep:=λn h h' st k=>by obtain⟨hz,hI,⟨a,b',hO⟩,ci,cj⟩:=st;exact⟨k z (by simp) _ hz,k TI (by simp) _ hI,⟨a,b',k TO (by simp) _ hO⟩,ci.to λo e=>k i (by simp) o e,cj.to λo e=>k j (by simp) o e⟩
 item:=by
  intro X hP hw hK hc n pins s σ H E I hf st hg;subst hP hw hK;obtain⟨hz,hI,⟨a,b',hO⟩,ci,cj⟩:=st;obtain⟨xs,ys,x,y,U7,Tf,hx,hy⟩:=hg;obtain⟨MW,NW,p1⟩:=I.P4 U7;obtain⟨Ki,L7,p2⟩:=I.P4 Tf;obtain⟨u1,Wz,WA⟩:=NW.get hx;obtain⟨u2,hu2,ru2⟩:=L7.get hy;refine Zp.Nk D hz hI hO ci cj p1 p2 (x:=u1) (y:=u2) (by simpa using Wz) (by simpa using hu2) λh1 a1 a2 a3 a4 a5 a6 hk=>?_;refine⟨_,rfl,?_⟩;have lz:z < s.heap.objs.size:=j_ hz;have hTz:s.heap.objs.size≠z:=U_ lz;refine wpAny_letOwnedTupleGo_zip (s:={s with heap:=h1}) a1 λh2 hz2 LZ=>?_;have kk:∀b o,b∉[z,TI,TO,i,j]->s.heap.get? b=Δ o->h2.get? b=Δ o:=λb o hb e=>by simp only[k_,O_,or_false,not_or]at hb;exact LZ.extBut _ _ hb.1 (hk b o hb.1 hb.2.2.1 hb.2.2.2.1 hb.2.2.2.2 e)
  have hT:IsPair h2 s.heap.objs.size u1 u2:=LZ.extBut _ _ hTz a5;have I2:Inv X pins σ (upd H s.heap.objs.size (.tup [x,y])) {s with heap:=h2}:=I.QB (t':=s.toks) kk hf (q_ _) ⟨by show 2<=Ζ;decide,[u1,u2],.cons WA (.cons ru2 .nil),⟨_,hT,rfl,_,rfl⟩⟩;refine⟨.ref s.heap.objs.size,_,I2,rfl,⟨_,x,y,rfl,I.JO.fresh (q_ _),rfl,λY4 Th g1 g2=>by rw[I.Nm g1 U7,I.Nm g2 Tf];exact⟨hx,hy⟩⟩,⟨hz2,LZ.extBut _ _ D.TIz (hk _ _ D.TIz D.TITO D.TIi1 D.TIi2 hI),⟨_,_,LZ.extBut _ _ D.TOz a2⟩,a3.to λo e=>LZ.extBut _ _ D.i1z e,a4.to λo e=>LZ.extBut _ _ D.i2z e⟩,λb hb=>?_⟩;have Nj:b < s.heap.objs.size:=by
   simp only[k_,O_,or_false]at hb;rcases hb with rfl|rfl|rfl|rfl|rfl
   ·exact lz
   ·exact j_ hI
   ·exact j_ hO
   ·exact ci.lt
   ·exact cj.lt
  rw[ib (o_ Nj)];exact(hf b hb).1
 done:=by
  intro X hP hw hK hc n pins s σ H E I hf st hg;subst hP hw hK;obtain⟨hz,hI,⟨a,b',hO⟩,ci,cj⟩:=st;obtain⟨xs,ys,U7,Tf,hx⟩:=hg;obtain⟨MW,NW,p1⟩:=I.P4 U7;obtain⟨Ki,L7,p2⟩:=I.P4 Tf;have l1:=NW.length;have l2:=L7.length
  refine Zp.Nl (I.ok.hd hc) D hz hI hO ci cj p1 p2 (by
   rcases hx with hx|hx
   ·exact .inl (Array.getElem?_eq_none (by simp;omega))
   ·exact .inr (Array.getElem?_eq_none (by simp;omega))) λh1 hk=>⟨rfl,I.turns (t':=s.toks) (ch:=[z,TI,TO,i,j]) (λb o hb e=>?_) hf⟩
  simp only[k_,O_,or_false,not_or]at hb;exact hk b o hb.1 hb.2.2.1 hb.2.2.2.1 hb.2.2.2.2 e
 self:=λ_ _ _ _ _ st h=>wpAny_pyIter_zip st.1 h
def HP (K:Frag)(ta:TA):TI:=λσ H R=>ta σ H λvs H1=>∃p q l m xs ys,vs=[.ref l,.ref m]/\MV K H1 p l xs/\MV K H1 q m ys/\R (Wy K p q l m) H1
def Zp.Sq.lt (q:Zp.Sq k h a xs):a < h.objs.size:=by
 cases k with
 |l=>obtain⟨o,e,_⟩:=q;exact j_ e
 |t=>obtain⟨o,e,_⟩:=q;exact j_ e
def qR (N l m:Nat)(hl:l < N)(hm:m < N):ZipApart (N+4) (N+2) (N+3) N (N+1) l m:=by constructor<;>(intro e;have e':(_:Nat)=(_:Nat):=e;omega)
def C5 (hg:Gl X "zip") (hm:X.mg "zip" = Φ) (ha:PA X [a,b] ta) (hs:Ν [a,b] X.env=[(Ξ,eval a X.env),(Ξ,eval b X.env)]) (LZ:Ν [b] X.env=[(Ξ,eval b X.env)]) :
  PI X (.Tuple es c tp) (.Call (.Name "zip" p) [a,b] [] pos) (HP X.K ta):=by
 intro pins s σ H R I h;refine Call_ (kD I hg hm boot_zip (aaL (JP (ha pos pins s σ H _ I h) λus s1 ⟨vs,H1,I1,r1,q1⟩=>?_) (by rw[hs,LZ]) (by rw[LZ];rfl)));obtain⟨k1,k2,l,m,xs,ys,e,g1,g2,q⟩:=q1;subst e;cases r1 with
 |cons r rr=>
  cases rr with
  |cons r' rr=>
   cases rr;cases r;cases r';obtain⟨MW,NW,p1⟩:=I1.P4 g1;obtain⟨Ki,L7,p2⟩:=I1.P4 g2;have l1:=p1.lt;have l2:=p2.lt;refine Zp.Mr p1 p2 λh2 b1 b2 b3 b4 b5 b6 b7=>?_;refine wpAny_pyIter_zip (s:={s1 with heap:=h2}) b1 ?_;refine⟨s1.heap.objs.size+4,[s1.heap.objs.size+4,s1.heap.objs.size+2,s1.heap.objs.size+3,s1.heap.objs.size,s1.heap.objs.size+1],_,_,H1,rfl,I1.kept (t':=s1.toks) b7,wI k1 k2 _ _ _ _ _ l m (qR _ l m l1 l2),⟨b1,b2,⟨_,_,b3⟩,b4,b5⟩,λb hb=>?_,q⟩;have Nj:s1.heap.objs.size<=b:=by
    simp only[k_,O_,or_false]at hb;rcases hb with rfl|rfl|rfl|rfl|rfl
    ·exact aaD _ _
    ·exact aaD _ _
    ·exact aaD _ _
    ·exact q_ _
    ·exact aaD _ _
   exact I1.Ny Nj (I1.JO.fresh Nj)
end L2
namespace L2.Zp
open PySem
@[reducible]def jV (h:Heap)(z TI TO T:Ω)(f:Bool):Prop:=
 h.get? z=Δ {cls:=.type "zip",dict:=Φ,data:=.fields #[rawInt T,.bool f,.bool Ξ,.ref TI,.ref TO],slots:=#[]}
def alive (ho:s.heap.get? a=Δ o)(h:Q (Δ o) s):Κ (Μ prog w) A (loadIfAlive a) Q E s:=by
 have h':Q (s.heap.get? a) s:=by rw[ho];exact h
 exact λ_ _ _=>h'
def pP {TI TO:Ω}(hz:jV s.heap z TI TO T f)(hT:s.heap.get? T=Δ oT)
  (k:∀h',jV h' z TI TO T Θ->Heap.SameBut z s.heap h'->Q Ξ {s with heap:=h'}):Κ (Μ prog w) A (η (.ref z)) Q E s:=by
 unfold η;refine a_ (M_ hz rfl (x:=rawInt T) rfl ?_);show Κ _ _ (loadIfAlive ((T:Int).toNat) >>= _) _ _ _;rw[Int.toNat_natCast];refine a_ (alive hT ?_);simp only[Option.isNone_some,aap,if_false];refine a_ (M_ hz rfl (x:=.bool f) rfl ?_)
 induction f using zB with
 |true=>rw[f_ (show ¬((Value.bool Θ != Value.bool Θ)=Θ) from A_)];exact e_ (k s.heap hz (Heap.SameBut.refl _ _))
 |false=>rw[h_ (show(Value.bool Ξ != Value.bool Θ)=Θ from rfl)];refine a_ (aad hz (by simp) λWB Ti Tj=>?_);exact e_ (k WB Ti Tj)
def sy {TI TO:Ω}{Q:Ü}(D:ZipApart z TI TO i j l m)(hz:jV s.heap z TI TO T f)(hT:s.heap.get? T=Δ oT)(hI:IsPair s.heap TI (.ref i) (.ref j))
  (ci:It p s.heap i l n) (cj:It q s.heap j m n') (sl:Sq p s.heap l xs) (sm:Sq q s.heap m ys) (hx:xs[n]? = Δ x) (hy:ys[n']? = Δ y)
  (k:∀h',jV h' z TI TO T Θ->It p h' i l (n+1)->It q h' j m (n' + 1)->IsPair h' s.heap.objs.size x y->h'.objs.size=s.heap.objs.size+1->(∀c o,c≠z->c≠i->c≠j->s.heap.get? c=Δ o->h'.get? c=Δ o)->Q (.ref s.heap.objs.size) {s with heap:=h'}) :
  Κ (Μ prog w) A (Builtin.«zip.__next__» ⟨[.ref z],[]⟩) (λfin s'=>∃v,fin=.done (.ret v)/\Q v s') E s:=by
 show Κ _ _ (field (.ref z) 2 >>= _) _ _ _;refine a_ (M_ hz rfl (x:=.bool Ξ) rfl ?_);show Κ _ _ (field (.ref z) 3 >>= _) _ _ _;refine a_ (M_ hz rfl (x:=.ref TI) rfl (a_ (Z_ hI rfl ?_)));show Κ _ _ (η (.ref z) >>= _) _ _ _;refine a_ (pP hz hT λh1 z1 e1=>?_);simp only[aap,if_false];refine a_ ?_;rw[<- Array.forIn_toList];simp only[List.forIn_cons,List.forIn_nil];refine a_ (a_ (L_ ?_));show Κ _ _ (ζ (.ref i) >>= _) _ _ _;refine a_ (lh (ci.to λo e=>e1.extBut _ _ D.i1z e) (sl.to λo e=>e1.extBut _ _ D.l1z e) hx λh2 Te e2=>e_ (e_ (a_ (a_ (L_ ?_)))));show Κ _ _ (ζ (.ref j) >>= _) _ _ _;refine a_ (lh (cj.to λo e=>e2.extBut _ _ D.i12.symm (e1.extBut _ _ D.i2z e)) (sm.to λo e=>e2.extBut _ _ D.l2i1 (e1.extBut _ _ D.l2z e)) hy λh3 cj3 e3=>e_ (e_ (e_ (a_ (wpAny_newTuple ?_ (hsz:=by show 2<=Ζ;decide))))));have sz:h3.objs.size=s.heap.objs.size:=by rw[e3.1,e2.1,e1.1]
 have z3:jV h3 z TI TO T Θ:=e3.extBut _ _ D.i2z.symm (e2.extBut _ _ D.i1z.symm z1);refine e_ ⟨_,rfl,?_⟩;show Q (.ref h3.objs.size) _;rw[sz];have up:∀c o,h3.get? c=Δ o->(h3.push {cls:=.type "tuple",data:=.seq #[x,y]}).get? c=Δ o:=λc o e=>m_ _ e;refine k _ (up _ _ z3) ((Te.to λo e=>e3.extBut _ _ D.i12 e).to λo e=>up _ o e) (cj3.to λo e=>up _ o e) ?_ (by rw[W_,sz]) λc o c1 c2 c3 e=>up c o (e3.extBut _ _ c3 (e2.extBut _ _ c2 (e1.extBut _ _ c1 e)));show(h3.push _).get? s.heap.objs.size=_;rw[<- sz];exact w_ _ rfl
def sA {TI TO:Ω}(hh:A.handled=Φ)(D:ZipApart z TI TO i j l m)(hz:jV s.heap z TI TO T f)(hT:s.heap.get? T=Δ oT)(hI:IsPair s.heap TI (.ref i) (.ref j))
  (ci:It p s.heap i l n) (cj:It q s.heap j m n') (sl:Sq p s.heap l xs) (sm:Sq q s.heap m ys) (MU:xs[n]? = Φ∨ys[n']? = Φ)
  (k:∀h' e,(∀c o,c≠z->c≠i->c≠j->s.heap.get? c=Δ o->h'.get? c=Δ o)->(∃o,h'.get? e=Δ o/\o.cls=.type "StopIteration")->E (.ref e) {s with heap:=h'}) :
  Κ (Μ prog w) A (Builtin.«zip.__next__» ⟨[.ref z],[]⟩) Q E s:=by
 show Κ _ _ (field (.ref z) 2 >>= _) _ _ _;refine a_ (M_ hz rfl (x:=.bool Ξ) rfl ?_);show Κ _ _ (field (.ref z) 3 >>= _) _ _ _;refine a_ (M_ hz rfl (x:=.ref TI) rfl (a_ (Z_ hI rfl ?_)));show Κ _ _ (η (.ref z) >>= _) _ _ _;refine a_ (pP hz hT λh1 z1 e1=>?_);simp only[aap,if_false];refine a_ ?_;rw[<- Array.forIn_toList];simp only[List.forIn_cons,List.forIn_nil];refine a_ (a_ (L_ ?_));show Κ _ _ (ζ (.ref i) >>= _) _ _ _;cases hx:xs[n]? with
 |none=>refine a_ (qf hh (ci.to λo e=>e1.extBut _ _ D.i1z e) (sl.to λo e=>e1.extBut _ _ D.l1z e) hx λh2 e e2 he=>?_);exact k h2 e (λc o c1 c2 c3 g=>e2 _ _ c2 (e1.extBut _ _ c1 g)) he
 |some x=>have hy:ys[n']? = Φ:=MU.resolve_left (by rw[hx];simp);refine a_ (lh (ci.to λo e=>e1.extBut _ _ D.i1z e) (sl.to λo e=>e1.extBut _ _ D.l1z e) hx λh2 Te e2=>e_ (e_ (a_ (a_ (L_ ?_)))));show Κ _ _ (ζ (.ref j) >>= _) _ _ _;refine a_ (qf hh (cj.to λo e=>e2.extBut _ _ D.i12.symm (e1.extBut _ _ D.i2z e)) (sm.to λo e=>e2.extBut _ _ D.l2i1 (e1.extBut _ _ D.l2z e)) hy λh3 e e3 he=>?_);exact k h3 e (λc o c1 c2 c3 g=>e3 _ _ c3 (e2.extBut _ _ c2 (e1.extBut _ _ c1 g))) he
def wJ {TI TO:Ω}(D:ZipApart z TI TO i j l m)(hz:jV s.heap z TI TO T f)(hT:s.heap.get? T=Δ oT)(hI:IsPair s.heap TI (.ref i) (.ref j))
  (ci:It p s.heap i l n) (cj:It q s.heap j m n') (sl:Sq p s.heap l xs) (sm:Sq q s.heap m ys) (hx:xs[n]? = Δ x) (hy:ys[n']? = Δ y)
  (k:∀h',jV h' z TI TO T Θ->It p h' i l (n+1)->It q h' j m (n' + 1)->IsPair h' s.heap.objs.size x y->h'.objs.size=s.heap.objs.size+1->(∀c o,c≠z->c≠i->c≠j->s.heap.get? c=Δ o->h'.get? c=Δ o)->Q (Δ (.ref s.heap.objs.size)) {s with heap:=h'}) :
  Κ (Μ prog w) A (pyNext (.ref z)) Q E s:=by
 have ty:s.TypeIs (.ref z) "zip":=⟨_,hz,rfl⟩
 unfold pyNext;refine a_ (wpAny_attempt (wpAny_callSpecial?_slot (name:=Ρ "__next__") ty F.slot_zip_next (aaa F.slot_zip_next ty F.entry_zip_next ?_ (F.args_zip_next_1 _))));exact sy D hz hT hI ci cj sl sm hx hy λh' a1 a2 a3 a4 a5 a6=>e_ (k h' a1 a2 a3 a4 a5 a6)
def wK {TI TO:Ω}(hh:A.handled=Φ)(D:ZipApart z TI TO i j l m)(hz:jV s.heap z TI TO T f)(hT:s.heap.get? T=Δ oT)(hI:IsPair s.heap TI (.ref i) (.ref j))
  (ci:It p s.heap i l n) (cj:It q s.heap j m n') (sl:Sq p s.heap l xs) (sm:Sq q s.heap m ys) (MU:xs[n]? = Φ∨ys[n']? = Φ)
  (k:∀h',(∀c o,c≠z->c≠i->c≠j->s.heap.get? c=Δ o->h'.get? c=Δ o)->Q Φ {s with heap:=h'}):Κ (Μ prog w) A (pyNext (.ref z)) Q E s:=by
 have ty:s.TypeIs (.ref z) "zip":=⟨_,hz,rfl⟩
 unfold pyNext;refine a_ (wpAny_attempt (wpAny_callSpecial?_slot (name:=Ρ "__next__") ty F.slot_zip_next (aaa F.slot_zip_next ty F.entry_zip_next (sA hh D hz hT hI ci cj sl sm MU λh' e hk he=>?_) (F.args_zip_next_1 _))));obtain⟨o,g,c⟩:=he;exact a_ (wpAny_isInstance (T:="StopIteration") (b:=Θ) ⟨o,g,c⟩ isSubtype_stop (e_ (k _ hk)))
structure St (z TI TO i j l m:Ω)(p q:Kq)(xs ys:Array Ψ)(n:Nat)(b:Nat)(Ts:Î)(h:Heap):Prop where
 zp:IsZip h z TI TO .none∨∃T f,jV h z TI TO T f/\T∈Ts
 I:IsPair h TI (.ref i) (.ref j)
 O:∃a b,IsPair h TO a b
 ci:It p h i l n
 cj:It q h j m n
 sl:Sq p h l xs
 sm:Sq q h m ys
 len:Ts.length=n
 nd:Ts.Nodup
 at_:∀(k:Nat) (T:Ω),Ts[k]? = Δ T->b<=T/\∃x y,xs[k]? = Δ x/\ys[k]? = Δ y/\IsPair h T x y
def loop {prog:Ε}{w:Β}{A:Ι}{p q:Kq}{z TI TO i j l m S:Ω}{xs ys:Array Ψ}{R:Result->Α->Prop}{b:Nat}(hh:A.handled=Φ)(D:ZipApart z TI TO i j l m)(res:Ψ)(hn:min xs.size ys.size<=Ζ)(bz:z < b)(bI:TI < b)(bO:TO < b)(bi:i < b)(bj:j < b)(bl:l < b)(bm:m < b)(bS:S < b)(Sz:S≠z)(SI:S≠TI)(SO:S≠TO)(Si:S≠i)(Sj:S≠j)(Sl:S≠l)(Sm:S≠m) :
  ∀(k n:Nat) (s:Α) (Ts:Î) (c:Nat),min xs.size ys.size - n=k->n<=min xs.size ys.size->St z TI TO i j l m p q xs ys n b Ts s.heap->b<=s.heap.objs.size->s.heap.get? S=Δ {cls:=.type "list",dict:=Φ,data:=.seq (Ts.map θ).toArray c,slots:=#[]}->
  (∀(h':Heap) (tk:Nat) (L8:Î) (c':Nat),(∀a o,a≠z->a≠TO->a≠i->a≠j->a≠S->s.heap.get? a=Δ o->h'.get? a=Δ o)->h'.get? S=Δ {cls:=.type "list",dict:=Φ,data:=.seq (L8.map θ).toArray c',slots:=#[]}->L8.length=min xs.size ys.size->L8.Nodup->(∀(k:Nat) (T:Ω),L8[k]? = Δ T->b<=T/\∃x y,xs[k]? = Δ x/\ys[k]? = Δ y/\IsPair h' T x y)->R (.ok (.ret res)) {s with heap:=h',toks:=tk})->
  codeAny (Μ prog w) A (.builtin "list.extend.loop" ⟨[.ref S,.ref z,res],[]⟩) R s:=by
 intro k
 induction k with
 |zero=>
  intro n s Ts c hk hi st hb hS hR;have To:n=min xs.size ys.size:=⋯
  subst To;refine codeAny_builtin F.entry_extend_loop ?_;rw[aaN F.plain_extend_loop _];show Κ _ A.in1 (pyNext (.ref z) >>= _) _ _ s;have he:xs[min xs.size ys.size]? = Φ∨ys[min xs.size ys.size]? = Φ:=by
   by_cases h:xs.size<=ys.size
   ·exact .inl (Array.getElem?_eq_none ⋯)
   ·exact .inr (Array.getElem?_eq_none ⋯)
  have fin:∀h',(∀a o,a≠z->a≠TO->a≠i->a≠j->s.heap.get? a=Δ o->h'.get? a=Δ o)->R (.ok (.ret res)) {s with heap:=h'}:=λh' kp=>by
   refine hR h' s.toks Ts c (λa o a1 a2 a3 a4 _ e=>kp a o a1 a2 a3 a4 e) (kp S _ Sz SO Si Sj hS) st.len st.nd λk T e=>?_;obtain⟨t1,x,y,t2,t3,t4⟩:=st.at_ k T e;have ne:∀a,a < b->T≠a:=λa ha z=>by rw[z]at t1;omega
   exact⟨t1,x,y,t2,t3,kp T _ (ne z bz) (ne TO bO) (ne i bi) (ne j bj) t4⟩
  obtain⟨a,b',hO⟩:=st.O;rcases st.zp with hz|⟨T,f,hz,hT⟩
  ·refine a_ (Nl (A:=A.in1) hh D hz st.I hO st.ci st.cj st.sl st.sm he λh' kp=>?_);exact e_ (fin h' λa o a1 a2 a3 a4 e=>kp a o a1 a2 a3 a4 e)
  ·obtain⟨k,Nn⟩:=aaO.mp hT;obtain⟨_,x,y,_,_,QC⟩:=st.at_ k T Nn;refine a_ (wK (A:=A.in1) hh D hz QC st.I st.ci st.cj st.sl st.sm he λh' kp=>?_);exact e_ (fin h' λa o a1 _ a3 a4 e=>kp a o a1 a3 a4 e)
 |succ k ih=>
  intro n s Ts c hk hi st hb hS hR;have JZ:n < min xs.size ys.size:=⋯
  have b1:n < xs.size:=B_ JZ (Nat.min_le_left ..);have b2:n < ys.size:=B_ JZ (Nat.min_le_right ..);have g1:=Array.getElem?_eq_getElem b1;have g2:=Array.getElem?_eq_getElem b2;refine codeAny_builtin F.entry_extend_loop ?_;rw[aaN F.plain_extend_loop _];show Κ _ A.in1 (pyNext (.ref z) >>= _) _ _ s;have WC:s.heap.objs.size∉Ts:=λhm=>by obtain⟨k,Nn⟩:=aaO.mp hm;obtain⟨_,x,y,_,_,QC⟩:=st.at_ k _ Nn;exact absurd (j_ QC) (S_ _)
  have fin:∀h',(jV h' z TI TO s.heap.objs.size Ξ∨∃T f,jV h' z TI TO T f/\T∈Ts)->(∃a b,IsPair h' TO a b)->It p h' i l (n+1)->It q h' j m (n+1)->IsPair h' s.heap.objs.size xs[n] ys[n]->h'.objs.size=s.heap.objs.size+1->(∀a o,a≠z->a≠TO->a≠i->a≠j->s.heap.get? a=Δ o->h'.get? a=Δ o)->
    Κ (Μ prog w) A.in1 (updateSeq S (·.push (.ref s.heap.objs.size)) >>= λ_=>again (.builtin "list.extend.loop" ⟨[.ref S,.ref z,res],[]⟩)) (λfin s'=>match fin with|.done f=>R (.ok f) s'|.again c'=>c'.quiet=Θ/\codeAny (Μ prog w) A c' R s') (λe s'=>R (.error e) s') {s with heap:=h'}:=by
   intro h' hz hO ci cj hT sz kp;have Lp:=kp S _ Sz SO Si Sj hS;have hsz:(Ts.map θ).toArray.size=n:=by simp[st.len]
   refine a_ (wpAny_updateSeq Lp rfl (e_ ⟨plainId_quiet F.plain_extend_loop _,?_⟩) (by rw[hsz];omega) (by show((Ts.map θ).toArray.push _).size<=Ζ+1;rw[Array.size_push,hsz];omega));have U8:(h'.update S (ι λx=>x.push (θ s.heap.objs.size))).get? S=Δ (ι (λx=>x.push (θ s.heap.objs.size)) {cls:=.type "list",dict:=Φ,data:=.seq (Ts.map θ).toArray c,slots:=#[]}):=aao _ Lp rfl;have ar:(Ts.map θ).toArray.push (θ s.heap.objs.size)=((Ts++[s.heap.objs.size]).map θ).toArray:=by simp
   obtain⟨c2,hS3⟩:∃c2,(h'.update S (ι λx=>x.push (θ s.heap.objs.size))).get? S=Δ {cls:=.type "list",dict:=Φ,data:=.seq (((Ts++[s.heap.objs.size]).map θ).toArray) c2,slots:=#[]}:=⟨_,by rw[U8,<- ar];rfl⟩
   have Oj:∀a o,a≠S->h'.get? a=Δ o->(h'.update S (ι λx=>x.push (θ s.heap.objs.size))).get? a=Δ o:=λa o ha e=>(aah _ _ (Ne.symm ha)).trans e;have Tp:(h'.update S (ι λx=>x.push (θ s.heap.objs.size))).objs.size=h'.objs.size:=(aaK ..).1;have nS:∀T:Ω,b<=T->T≠S:=λT QD z=>S_ _ (B_ bS (z ▸ QD:b<=S));refine ih (n+1) _ (Ts++[s.heap.objs.size]) c2 ⋯ JZ ⟨?_,Oj _ _ SI.symm (kp _ _ D.TIz D.TITO D.TIi1 D.TIi2 st.I),?_,ci.to λo e=>Oj _ o Si.symm e,cj.to λo e=>Oj _ o Sj.symm e,?_,?_,by rw[u_,st.len];rfl,?_,λk T e=>?_⟩ (by show b<=(h'.update S _).objs.size;rw[Tp,sz];omega) hS3 λQE tk L8 c' kp2 a1 a2 a3 a4=>?_
   ·rcases hz with hz|⟨T,f,hz,hT⟩
    ·exact .inr ⟨_,Ξ,Oj _ _ Sz.symm hz,r_ _ (v_.mpr rfl)⟩
    ·exact .inr ⟨T,f,Oj _ _ Sz.symm hz,p_ _ hT⟩
   ·obtain⟨a,b',hO⟩:=hO;exact⟨a,b',Oj _ _ SO.symm hO⟩
   ·exact(st.sl.to λo e=>kp _ o D.l1z D.l1TO D.l1i1 D.l1i2 e).to λo e=>Oj _ o Sl.symm e
   ·exact(st.sm.to λo e=>kp _ o D.l2z D.l2TO D.l2i1 D.l2i2 e).to λo e=>Oj _ o Sm.symm e
   ·refine n_.mpr ⟨st.nd,by simp,λa ha b hb e=>?_⟩;rw[v_.mp hb]at e;exact WC (e ▸ ha)
   ·by_cases RC:k < Ts.length
    ·rw[aaI RC]at e;obtain⟨t1,x,y,t2,t3,t4⟩:=st.at_ k T e;have ne:∀a,a < b->T≠a:=λa ha z=>by rw[z]at t1;omega
     exact⟨t1,x,y,t2,t3,Oj _ _ (nS T t1) (kp T _ (ne z bz) (ne TO bO) (ne i bi) (ne j bj) t4)⟩
    ·rw[aaH ⋯]at e;have hk2:k=n:=by have:=(x_.mp e).1;rw[V_]at this;have:=st.len;omega
     rw[show k - Ts.length=0 by have:=st.len;omega]at e;have e':s.heap.objs.size=T:=I_ e;subst e';rw[hk2];exact⟨hb,_,_,g1,g2,Oj _ _ (nS _ hb) hT⟩
   ·exact hR QE tk L8 c' (λa o c1 c2 c3 c4 c5 e=>kp2 a o c1 c2 c3 c4 c5 (Oj a o c5 (kp a o c1 c2 c3 c4 e))) a1 a2 a3 a4
  obtain⟨a,b',hO⟩:=st.O;rcases st.zp with hz|⟨T,f,hz,hT⟩
  ·refine a_ (Nk (A:=A.in1) D hz st.I hO st.ci st.cj st.sl st.sm g1 g2 λh' a1 a2 a3 a4 a5 a6 kp=>?_);exact fin h' (.inl a1) ⟨_,_,a2⟩ a3 a4 a5 a6 λa o c1 c2 c3 c4 e=>kp a o c1 c2 c3 c4 e
  ·obtain⟨k',Nn⟩:=aaO.mp hT;obtain⟨_,x,y,_,_,QC⟩:=st.at_ k' T Nn;refine a_ (wJ (A:=A.in1) D hz QC st.I st.ci st.cj st.sl st.sm g1 g2 λh' a1 a3 a4 a5 a6 kp=>?_);exact fin h' (.inr ⟨T,Θ,a1,hT⟩) ⟨a,b',kp TO _ D.TOz D.TOi1 D.TOi2 hO⟩ a3 a4 a5 a6 λa o c1 _ c3 c4 e=>kp a o c1 c3 c4 e
def sC:typeLookup (.type "zip") "__len__" = pure Φ:=by rw[typeLookup_type,builtinLookup_eq_fast];kernel_rfl
def qS:typeLookup (.type "zip") "__length_hint__" = pure Φ:=by rw[typeLookup_type,builtinLookup_eq_fast];kernel_rfl
def sD {TI TO:Ω}(hh:A.handled=Φ)(D:ZipApart z TI TO i j l m)(res:Ψ)(c₀:Nat)(hz:IsZip s.heap z TI TO .none)(hI:IsPair s.heap TI (.ref i) (.ref j))(hO:∃a b,IsPair s.heap TO a b)(ci:It p s.heap i l 0)(cj:It q s.heap j m 0)(sl:Sq p s.heap l xs)(sm:Sq q s.heap m ys)
  (hS:s.heap.get? S=Δ {cls:=.type "list",data:=.seq #[] c₀}) (hn:min xs.size ys.size<=Ζ) (Sz:S≠z) (SI:S≠TI) (SO:S≠TO) (Si:S≠i) (Sj:S≠j) (Sl:S≠l) (Sm:S≠m)
  (hR:∀(h':Heap) (tk:Nat) (L8:Î) (c':Nat),(∀a o,a≠z->a≠TO->a≠i->a≠j->a≠S->s.heap.get? a=Δ o->h'.get? a=Δ o)->h'.get? S=Δ {cls:=.type "list",dict:=Φ,data:=.seq (L8.map θ).toArray c',slots:=#[]}->L8.length=min xs.size ys.size->L8.Nodup->(∀(k:Nat) (T:Ω),L8[k]? = Δ T->s.heap.objs.size<=T/\∃x y,xs[k]? = Δ x/\ys[k]? = Δ y/\IsPair h' T x y)->R (.ok (.ret res)) {s with heap:=h',toks:=tk}) :
  Κ (Μ prog w) A.in1 (Χ (.ref S) (.ref z) res)
   (λfin s'=>match fin with|.done f=>R (.ok f) s'|.again c'=>c'.quiet=Θ/\codeAny (Μ prog w) A c' R s') (λe s'=>R (.error e) s') s:=by
 have ty:s.TypeIs (.ref z) "zip":=⟨_,hz,rfl⟩
 unfold Χ;refine a_ (wpAny_typeOf ty ?_);have h1:Builtin.List.listSameRef (.ref S) (.ref z)=Ξ:=by simp[Builtin.List.listSameRef,Sz]
 have h2:(Value.type "zip" == Value.type "list")=Ξ:= nofun
 have h3:(Value.type "zip" == Value.type "tuple")=Ξ:= nofun
 simp only[h1,h2,h3,Bool.or_false,aap,if_false];refine a_ (wpAny_pyIter_zip hz ?_);refine a_ (L_ ?_);unfold Builtin.List.listLengthHint;refine a_ (wpAny_specialOf ty sC ?_);show Κ _ A.in1 (specialOf (θ z) (Ρ "__length_hint__") >>= _) _ _ _;refine a_ (wpAny_specialOf ty qS (e_ ?_))
 show Κ _ A.in1 (rule "list.extend.makes-room" >>= λ_=>Builtin.List.listTouch (.ref S) >>= λ_=>
  again (.builtin "list.extend.loop" ⟨[.ref S,.ref z,res],[]⟩)) _ _ _
 refine a_ (wpAny_rule ?_);refine a_ ?_;show Κ _ A.in1 (updateSeq S (·.push .none) >>= λ_=>updateSeq S (·.pop)) _ _ _;refine a_ (wpAny_updateSeq hS rfl ?_);have L5:=aao (ι (·.push Value.none)) hS rfl;refine wpAny_updateSeq (hz:=by seq_fits) L5 rfl ?_;have Tq:=aao (ι (·.pop)) L5 rfl;have K6:∀b o,b≠S->s.heap.get? b=Δ o->((s.heap.update S (ι (·.push Value.none))).update S (ι (·.pop))).get? b=Δ o:=
  λb o hb e=>(aah _ _ (Ne.symm hb)).trans ((aah _ _ (Ne.symm hb)).trans e)
 have Tp:((s.heap.update S (ι (·.push Value.none))).update S (ι (·.pop))).objs.size=s.heap.objs.size:=((aaK ..).1).trans (aaK ..).1;obtain⟨a,b',hO⟩:=hO
 refine e_ ⟨plainId_quiet F.plain_extend_loop _,loop (b:=s.heap.objs.size) hh D res hn (j_ hz) (j_ hI) (j_ hO) ci.lt cj.lt sl.lt sm.lt (j_ hS) Sz SI SO Si Sj Sl Sm _ 0 _ [] _ rfl (R_ _)
  ⟨.inl (K6 _ _ Sz.symm hz),K6 _ _ SI.symm hI,⟨a,b',K6 _ _ SO.symm hO⟩,ci.to λo e=>K6 _ o Si.symm e,cj.to λo e=>K6 _ o Sj.symm e,sl.to λo e=>K6 _ o Sl.symm e,sm.to λo e=>K6 _ o Sm.symm e,rfl,List.nodup_nil,λk T e=>by simp at e⟩ (by show s.heap.objs.size<=((s.heap.update S _).update S _).objs.size;rw[Tp];exact q_ _) Tq λh' tk L8 c' kp a1 a2 a3 a4=>?_⟩
 exact hR h' tk L8 c' (λa o c1 c2 c3 c4 c5 e=>kp a o c1 c2 c3 c4 c5 (K6 a o c5 e)) a1 a2 a3 a4
def L0 {TI TO:Ω}(hh:A.handled=Φ)(D:ZipApart z TI TO i j l m)(hz:IsZip s.heap z TI TO .none)(hI:IsPair s.heap TI (.ref i) (.ref j))(hO:∃a b,IsPair s.heap TO a b)(ci:It p s.heap i l 0)(cj:It q s.heap j m 0)(sl:Sq p s.heap l xs)(sm:Sq q s.heap m ys)(hn:min xs.size ys.size<=Ζ)
  (hQ:∀(h':Heap) (tk:Nat) (L8:Î) (c':Nat),(∀a o,a≠z->a≠TO->a≠i->a≠j->s.heap.get? a=Δ o->h'.get? a=Δ o)->h'.get? s.heap.objs.size=Δ {cls:=.type "list",dict:=Φ,data:=.seq (L8.map θ).toArray c',slots:=#[]}->L8.length=min xs.size ys.size->L8.Nodup->(∀(k:Nat) (T:Ω),L8[k]? = Δ T->s.heap.objs.size < T/\∃x y,xs[k]? = Δ x/\ys[k]? = Δ y/\IsPair h' T x y)->Q (.ref s.heap.objs.size) {s with heap:=h',toks:=tk}) :
  Κ (Μ prog w) A (call (.type "list") [.ref z]) Q E s:=by
 obtain⟨a0,b0,hO⟩:=hO;have lz:z < s.heap.objs.size:=j_ hz;have lI:TI < s.heap.objs.size:=j_ hI;have lO:TO < s.heap.objs.size:=j_ hO;refine callType_codes (Q₁:=λobj JI=>obj=.ref s.heap.objs.size/\JI = {s with heap:=s.heap.push {cls:=.type "list",data:=.seq #[]}}) F.called_list (F.typeCall_list_1 _) F.entry_list_init
  (code_list_new _ ⟨rfl,rfl⟩) λobj JI NB=>?_
 obtain⟨rfl,rfl⟩:=NB;have hS:(s.heap.push {cls:=.type "list",data:=.seq #[]}).get? s.heap.objs.size=Δ {cls:=.type "list",data:=.seq #[]}:=w_ _ rfl;refine⟨⟨_,hS,rfl⟩,F.args_list_init_2 _ _,?_⟩;show Κ _ _ (do let old <- Builtin.List.listItems (.ref s.heap.objs.size);Builtin.List.listUpdate (.ref s.heap.objs.size) (λ_=>#[]);letGo old.toList.reverse;Χ (.ref s.heap.objs.size) (.ref z) .none) _ _ _;refine a_ ?_;unfold Builtin.List.listItems;refine a_ (Z_ hS rfl (e_ ?_));show Κ _ _ (updateSeq s.heap.objs.size (λ_=>#[]) >>= λ_=>letGo (#[]:Array Ψ).toList.reverse >>= λ_=>Χ (.ref s.heap.objs.size) (.ref z) .none) _ _ _;refine a_ (wpAny_updateSeq hS rfl ?_);have L5:=aao (ι (λ_=>(#[]:Array Ψ))) hS rfl;have K6:∀b o,b≠s.heap.objs.size->s.heap.get? b=Δ o->((s.heap.push {cls:=.type "list",data:=.seq #[]}).update s.heap.objs.size (ι (λ_=>(#[]:Array Ψ)))).get? b=Δ o:=
  λb o hb e=>(aah _ _ (Ne.symm hb)).trans (m_ _ e)
 have Tp:((s.heap.push {cls:=.type "list",data:=.seq #[]}).update s.heap.objs.size (ι (λ_=>(#[]:Array Ψ)))).objs.size=s.heap.objs.size+1:=((aaK ..).1).trans (W_ ..);refine a_ (wpAny_letGo ?_);refine sD (A:=A.in1) hh D .none _ (K6 _ _ (o_ lz) hz) (K6 _ _ (o_ lI) hI) ⟨a0,b0,K6 _ _ (o_ lO) hO⟩ (ci.to λo e=>K6 _ o (o_ ci.lt) e) (cj.to λo e=>K6 _ o (o_ cj.lt) e) (sl.to λo e=>K6 _ o (o_ sl.lt) e) (sm.to λo e=>K6 _ o (o_ sm.lt) e) L5 hn (U_ lz) (U_ lI) (U_ lO) (U_ ci.lt) (U_ cj.lt) (U_ sl.lt) (U_ sm.lt) λh' tk L8 c' kp a1 a2 a3 a4=>?_;refine⟨rfl,hQ h' tk L8 c' (λa o c1 c2 c3 c4 e=>kp a o c1 c2 c3 c4 (o_ (j_ e)) (K6 a o (o_ (j_ e)) e)) a1 a2 a3 λk T e=>?_⟩;obtain⟨t1,t2⟩:=a4 k T e;have t1:((s.heap.push {cls:=.type "list",data:=.seq #[]}).update s.heap.objs.size (ι (λ_=>(#[]:Array Ψ)))).objs.size<=T:=t1;rw[Tp]at t1;exact⟨t1,t2⟩
end L2.Zp
namespace L2
open PySem PySem.Spec PyProof.Rows
abbrev qg (H:Hp):List (Ω×HO)->Hp
 |[]=>H
 |p::L=>upd (qg H L) p.1 p.2
theorem qT:∀ {L:List (Ω×HO)},a∉L.map (·.1)->qg H L a=H a
 |[],_=>rfl
 |p::L,h=>by rw[b_,k_,not_or]at h;show upd (qg H L) p.1 p.2 a=_;rw[ib h.1,qT h.2]
theorem qh:∀ {L:List (Ω×HO)},(L.map (·.1)).Nodup->(a,o)∈L->qg H L a=Δ o
 |[],_,h=>by simp at h
 |p::L,nd,h=>by
  rw[b_,G_]at nd;show upd (qg H L) p.1 p.2 a=_;rcases k_.mp h with rfl|h
  ·exact il
  ·have:a≠p.1:=λz=>nd.1 (z ▸ List.mem_map.mpr ⟨(a,o),h,rfl⟩);rw[ib this,qh nd.2 h]
def vt (h:qg H L a=Δ u)(n:H a=Φ):∃p∈L,p.1=a/\p.2=u:=by
 induction L with
 |nil=>rw[show qg H [] a=H a from rfl,n]at h;cases h
 |cons p L ih=>
  have h:upd (qg H L) p.1 p.2 a=Δ u:=h;by_cases e:a=p.1
  ·rw[e,il]at h;exact⟨p,.head _,e.symm,I_ h⟩
  ·rw[ib e]at h;obtain⟨q,hq,h1⟩:=ih h;exact⟨q,.tail _ hq,h1⟩
def Inv.QF (I:Inv X pins σ H s)(k:∀b o,s.heap.get? b=Δ o->h'.get? b=Δ o)(PV:∀b,b < s.heap.objs.size->H' b=H b)(new:∀b u,s.heap.objs.size<=b->H' b=Δ u->ji H' h' b u):Inv X pins σ H' {s with heap:=h',toks:=t'}:=by
 have hs:∀b u,H b=Δ u->H' b=Δ u:=λb u q=>by rw[PV b (Nat.lt_of_not_le λz=>by rw[I.JO.fresh z]at q;cases q)];exact q
 refine I.step (g':=s.gens) (d':=s.drawn) (ch:=[]) (λb hb=>by simp at hb) (λb o _ _ hc e _=>k b o e) (λb o _ _ hc e _=>⟨o.slots,k b o e⟩) (λb o _ e n=>by rw[PV b (j_ e)];exact n)
  (λb o hc e=>⟨o,k b o e⟩) (λb xs q=>hs _ _ q) (λb u xs q=>hs _ _ q) (λb ps q=>⟨#[],by rw[hs _ _ q];simp⟩) (λm hm=>?_) (λb u e=>?_) I.bare
 ·obtain⟨o,es,ep,ho,r⟩:=hm;exact⟨o,es,ep,k _ o ho,r⟩
 ·by_cases hb:s.heap.objs.size<=b
  ·exact new b u hb e
  ·rw[PV b (Nat.lt_of_not_le hb)]at e;exact(I.JO b u e).Li (λc v hc q=>k c v q) (λc q=>hs _ _ q) λc xs q=>hs _ _ q
theorem qU:∀Ts:Î,Vals (Ts.map V.ref) (Ts.map θ)
 |[]=>.nil
 |T::Ts=>.cons rfl (qU Ts)
def Fb (K:Frag)(ta:TA):TE:=λσ H Q=>ta σ H λvs H1=>∃p q l m xs ys,vs=[.ref l,.ref m]/\MV K H1 p l xs/\MV K H1 q m ys/\min xs.length ys.length<=Ζ/\
 ∀(Ts:Î) (A:Ω) (H':Hp),ik H1 H'->H1 A=Φ->H' A=Δ (.lst (Ts.map V.ref))->Ts.length=min xs.length ys.length->(∀(k:Nat) (T:Ω),Ts[k]? = Δ T->∃x y,xs[k]? = Δ x/\ys[k]? = Δ y/\H' T=Δ (.tup [x,y]))->Q (.ref A) H'
def Aj (hc:X.calm=Θ)(g1:Gl X "list") (m1:X.mg "list" = Φ) (hg:Gl X "zip") (hm:X.mg "zip" = Φ) (ha:PA X [a,b] ta) (hs:Ν [a,b] X.env=[(Ξ,eval a X.env),(Ξ,eval b X.env)]) (LZ:Ν [b] X.env=[(Ξ,eval b X.env)]) :
  PE X (.Call (.Name "list" p) [.Call (.Name "zip" p') [a,b] [] pos'] [] pos) (Fb X.K ta):=by
 intro pins s σ H Q I h;refine aaJ (kD (u:=.type "list") I g1 m1 ∅ ?_ nofun nofun);refine aaL ?_ rfl rfl;show Κ _ _ (spliced ((Ξ,eval (.Call (.Name "zip" p') [a,b] [] pos') X.env)::backTo pos (Ν [] X.env))) _ _ s;refine Calls.spliced_cons ?_;refine Call_ (kD I hg hm boot_zip (aaL (JP (ha pos' pins s σ H _ I h) λus s1 ⟨vs,H1,I1,r1,q1⟩=>?_) (by rw[hs,LZ]) (by rw[LZ];rfl)));obtain⟨k1,k2,l,m,xs,ys,e,g1,g2,Tr,q⟩:=q1;subst e;cases r1 with
 |cons r rr=>
  cases rr with
  |cons r' rr=>
   cases rr;cases r;cases r';obtain⟨MW,NW,p1⟩:=I1.P4 g1;obtain⟨Ki,L7,p2⟩:=I1.P4 g2;have l1:=p1.lt;have l2:=p2.lt;refine Zp.Mr p1 p2 λh2 b1 b2 b3 b4 b5 b6 b7=>?_;refine Calls.spliced_nil ?_;have lv1:=NW.length;have lv2:=L7.length;have hsz:min MW.toArray.size Ki.toArray.size=min xs.length ys.length:=by simp[lv1,lv2]
   refine Zp.L0 (s:={s1 with heap:=h2}) (show X.A.handled=Φ from I.ok.hd hc) (qR _ l m l1 l2) b1 b2 ⟨_,_,b3⟩ b4 b5 (p1.to λo e=>b7 _ o e) (p2.to λo e=>b7 _ o e) (by rw[hsz];exact Tr) λh' tk Ts c' kp a1 a2 a3 a4=>?_;have a1:h'.get? h2.objs.size=Δ {cls:=.type "list",dict:=Φ,data:=.seq (Ts.map θ).toArray c',slots:=#[]}:=a1;have kp':∀b o,s1.heap.get? b=Δ o->h'.get? b=Δ o:=λb o e=>by have lt:=j_ e;exact kp b o (o_ (B_ lt (aaD _ _))) (o_ (B_ lt (aaD _ _))) (o_ lt) (o_ (B_ lt (aaD _ _))) (b7 b o e)
   have tT:∀T∈Ts,h2.objs.size < T:=λT hT=>by obtain⟨k,hk⟩:=aaO.mp hT;exact(a4 k T hk).1
   have Tt:min MW.toArray.size Ki.toArray.size=Ts.length:=a2.symm;have lM:((xs.zip ys).map λxy:V×V=>HO.tup [xy.1,xy.2]).length=Ts.length:=by rw[i_,List.length_zip,<- hsz,Tt]
   have keys:((Ts.zip ((xs.zip ys).map λxy:V×V=>HO.tup [xy.1,xy.2])).map (·.1))=Ts:=List.map_fst_zip (by rw[lM];exact q_ _);have inL:∀(T:Ω) (o:HO),(T,o)∈Ts.zip ((xs.zip ys).map λxy:V×V=>HO.tup [xy.1,xy.2])->∃(k:Nat) (x y:V),Ts[k]? = Δ T/\xs[k]? = Δ x/\ys[k]? = Δ y/\o=.tup [x,y]:=λT o hm=>by obtain⟨k,hk⟩:=aaO.mp hm;obtain⟨h1,h2⟩:=List.getElem?_zip_eq_some.mp hk;rw[D_]at h2;obtain⟨xy,h3,h4⟩:=Option.map_eq_some_iff.mp h2;obtain⟨h5,h6⟩:=List.getElem?_zip_eq_some.mp h3;exact⟨k,xy.1,xy.2,h1,h5,h6,h4.symm⟩
   have nd:(((h2.objs.size,HO.lst (Ts.map V.ref))::Ts.zip ((xs.zip ys).map λxy:V×V=>HO.tup [xy.1,xy.2])).map (·.1)).Nodup:=by rw[b_,keys,G_];exact⟨λz=>S_ _ (tT _ z),a3⟩
   have fresh:∀b,s1.heap.objs.size<=b->H1 b=Φ:=λb hb=>I1.JO.fresh hb;have hA:s1.heap.objs.size<=h2.objs.size:=by rw[b6];exact aaD _ _
   have PV:∀b,b < s1.heap.objs.size->qg H1 ((h2.objs.size,HO.lst (Ts.map V.ref))::Ts.zip ((xs.zip ys).map λxy:V×V=>HO.tup [xy.1,xy.2])) b=H1 b:=λb hb=>qT (by
    rw[b_,keys,k_,not_or]
    exact⟨o_ (B_ hb hA),λz=>S_ _ (B_ hb (N_ hA (Nat.le_of_lt (tT _ z))))⟩)
   have I2:=I1.QF (t':=tk) kp' PV λb u hb hu=>by
    obtain⟨pr,hp,e1,e2⟩:=vt hu (fresh b hb);subst e1 e2;rcases k_.mp hp with rfl|hp
    ·exact(show ji _ h' h2.objs.size (.lst (Ts.map V.ref)) from⟨by rw[i_,<- Tt,hsz];exact Tr,Ts.map θ,c',qU Ts,a1⟩)
    ·obtain⟨T,o⟩:=pr;obtain⟨k,x,y,t1,t2,t3,rfl⟩:=inL T o hp;obtain⟨_,u1,u2,u3,u4,u5⟩:=a4 k T t1;obtain⟨v1,hv1,r1⟩:=NW.get t2;obtain⟨v2,hv2,r2⟩:=L7.get t3;rw[List.getElem?_toArray,hv1]at u3;rw[List.getElem?_toArray,hv2]at u4;cases u3;cases u4;exact(show ji _ h' T (.tup [x,y]) from⟨by show 2<=Ζ;decide,[_,_],.cons r1 (.cons r2 .nil),⟨_,u5,rfl,_,rfl⟩⟩)
   refine⟨.ref _,_,I2,rfl,q Ts h2.objs.size _ (λb u e=>?_) (fresh _ hA) (qh nd (.head _)) (by rw[<- Tt,hsz]) λk T hk=>?_⟩
   ·rw[PV b (Nat.lt_of_not_le λz=>by rw[fresh b z]at e;cases e)];exact e
   ·have RC:k < Ts.length:=(x_.mp hk).1;have hx:k < xs.length:=by rw[<- Tt,hsz]at RC;exact B_ RC (Nat.min_le_left ..)
    have hy:k < ys.length:=by rw[<- Tt,hsz]at RC;exact B_ RC (Nat.min_le_right ..)
    refine⟨xs[k],ys[k],C_ hx,C_ hy,qh nd (.tail _ ?_)⟩;refine aaO.mpr ⟨k,List.getElem?_zip_eq_some.mpr ⟨hk,?_⟩⟩;rw[D_,show(xs.zip ys)[k]? = Δ (xs[k],ys[k]) from List.getElem?_zip_eq_some.mpr ⟨C_ hx,C_ hy⟩];rfl
end L2
namespace L2.Se
open PySem
structure Cut (xs:Array Nat)(j p:Nat):Prop where
 le:p<=xs.size
 lo:∀i x:Nat,i < p->xs[i]? = Δ x->x < j
 hi:∀i x:Nat,p<=i->xs[i]? = Δ x->j<=x
def Up (xs:Array Nat):Prop:=∀i k x y:Nat,i < k->xs[i]? = Δ x->xs[k]? = Δ y->x < y
def wL (u:Up xs):∀(fuel lo hi:Nat),hi<=lo+fuel->lo<=hi->hi<=xs.size->(∀i x,i < lo->xs[i]? = Δ x->x < j)->(∀i x,hi<=i->xs[i]? = Δ x->j<=x)->Cut xs j (SetTable.below.go xs j fuel lo hi):=by
 intro fuel
 induction fuel with
 |zero=>
  intro lo hi h1 h2 h3 h4 h5;have e:lo=hi:=⋯
  subst e;exact⟨h3,h4,h5⟩
 |succ f ih=>
  intro lo hi h1 h2 h3 h4 h5;unfold SetTable.below.go;by_cases hl:lo < hi
  ·rw[h_ hl];have hm:(lo+hi) / 2 < xs.size:=⋯
   have e:xs[(lo+hi) / 2]? = Δ xs[(lo+hi) / 2]:=by simp[hm]
   have eg:xs.getD ((lo+hi) / 2) j=xs[(lo+hi) / 2]:=by simp[Array.getD,hm]
   dsimp only;rw[eg];by_cases hx:xs[(lo+hi) / 2] < j
   ·rw[h_ hx];refine ih _ _ ⋯ ⋯ h3 (λi x Ms QG=>?_) h5;by_cases NC:i=(lo+hi) / 2
    ·subst NC;rw[e]at QG;cases QG;exact hx
    ·exact Nat.lt_trans (u i _ x _ ⋯ QG e) hx
   ·rw[f_ hx];refine ih _ _ ⋯ ⋯ ⋯ h4 (λi x Ms QG=>?_);by_cases NC:i=(lo+hi) / 2
    ·subst NC;rw[e]at QG;cases QG;omega
    ·have:=u _ i _ x ⋯ e QG;omega
  ·rw[f_ hl];have e:lo=hi:=⋯
   subst e;exact⟨h3,h4,h5⟩
def mP (u:Up xs)(j:Nat):Cut xs j (SetTable.below xs j):=
 wL u xs.size 0 xs.size ⋯ (R_ _) (q_ _) (λi x h=>absurd h (Nat.not_lt_zero i)) (λi x h hx=>by
  have:=(Array.getElem?_eq_some_iff.mp hx).1
  omega)
def Ak (hp:p<=xs.size)(i:Nat):(SetTable.insertAt xs p x)[i]? = if i < p then xs[i]? else if i=p then Δ x else xs[i - 1]?:=by
 rw[<- aaM,SetTable.toList_insertAt];by_cases h1:i < p
 ·rw[h_ h1,aaI (by simp;omega),List.getElem?_take,h_ h1,aaM]
 ·rw[f_ h1,aaH (by simp;omega)];have hl:(xs.toList.take p).length=p:=by simp;omega
  rw[hl];by_cases h2:i=p
  ·subst h2;rw[h_ rfl,Nat.sub_self];rfl
  ·rw[f_ h2];obtain⟨k,rfl⟩:∃k,i=p+k+1:=⟨i - p - 1,⋯⟩
   rw[show p+k+1 - p=k+1 by omega,aaE,List.getElem?_drop,aaM];rfl
def C6 (u:Up xs)(c:Cut xs j p)(hn:xs[p]?≠Δ j):Up (SetTable.insertAt xs p j):=by
 intro i k x y WD hx hy;rw[Ak c.le]at hx hy;have Y5:∀m z,p<=m->xs[m]? = Δ z->j < z:=λm z hm hz=>by
  have h1:=c.hi m z hm hz;by_cases e:m=p
  ·subst e;have:j≠z:=λe=>hn (by rw[hz,e]);omega
  ·have JZ:m < xs.size:=(Array.getElem?_eq_some_iff.mp hz).1;have hp:p < xs.size:=⋯
   have ep:xs[p]? = Δ xs[p]:=by simp[hp]
   have h2:=c.hi p _ (q_ _) ep;have:=u p m _ z ⋯ ep hz;omega
 by_cases a1:i < p
 ·rw[h_ a1]at hx;have hxj:=c.lo i x a1 hx;by_cases b1:k < p
  ·rw[h_ b1]at hy;exact u i k x y WD hx hy
  ·rw[f_ b1]at hy;by_cases b2:k=p
   ·rw[h_ b2]at hy;cases hy;exact hxj
   ·rw[f_ b2]at hy;have:=Y5 (k - 1) y ⋯ hy;omega
 ·rw[f_ a1]at hx;by_cases a2:i=p
  ·rw[h_ a2]at hx;cases hx;rw[f_ ⋯,f_ ⋯]at hy;exact Y5 (k - 1) y ⋯ hy
  ·rw[f_ a2]at hx;rw[f_ ⋯,f_ ⋯]at hy;exact u (i - 1) (k - 1) x y ⋯ hx hy
def wM (n:Nat):Up (Array.range n):=by intro i k x y h hx hy;obtain⟨h1,e1⟩:=Array.getElem?_eq_some_iff.mp hx;obtain⟨h2,e2⟩:=Array.getElem?_eq_some_iff.mp hy;simp at e1 e2;omega
structure Tb (led:Bool)(t:SetTable):Prop where
 up:Up t.place
 dm:t.dummies = #[]
 ld:t.led=led
def sE {t:SetTable}  (h:t.slot j=.empty):t.place[SetTable.below t.place j]?≠Δ j:=by intro e;unfold SetTable.slot at h;dsimp only at h;rw[h_ (by rw[e];exact beq_self_eq_true _)]at h;cases h
def has_none (j:Nat):SetTable.has #[] j=Ξ:=by unfold SetTable.has;rw[show(#[]:Array Nat)[SetTable.below #[] j]? = Φ by simp];rfl
def sF {t:SetTable}(hd:t.dummies = #[])(j:Nat):t.slot j≠.dummy:=by
 intro h;unfold SetTable.slot at h;dsimp only at h;rw[hd,has_none]at h;split at h
 ·cases h
 ·rw[f_ A_]at h;cases h
def vw (t:SetTable)(p:SetTable.Probe):(t.advance p).dummy=p.dummy:=by unfold SetTable.advance;split<;>rfl
def wN (hd:t.dummies = #[])  (hh:∀i,(f i == h)=Ξ):∀(fuel:Nat) (p:SetTable.Probe) (m:SetTable.Met),p.dummy=Φ->SetTable.probe.go t f h fuel p=Δ m->∃j,m=.empty j Φ/\t.slot j=.empty:=by
 intro fuel
 induction fuel with
 |zero=>intro p m _ e;cases e
 |succ n ih=>
  intro p m hp e;unfold SetTable.probe.go at e;cases hs:t.slot p.j with
  |empty=>rw[hs]at e;dsimp only at e;rw[hp]at e;cases e;exact⟨_,rfl,hs⟩
  |dummy=>exact absurd hs (sF hd _)
  |live i=>rw[hs]at e;dsimp only at e;rw[hh,f_ A_]at e;exact ih _ m (by rw[vw];exact hp) e
def vx {t:SetTable}(hd:t.dummies = #[])  (e:t.freeSlot h=Δ (j,b)):t.slot j=.empty/\b=Ξ:=by
 unfold SetTable.freeSlot at e;cases q:t.probe (λ_=>h+1) h (t.probeStart h) with
 |none=>rw[q]at e;cases e
 |some m=>obtain⟨j',rfl,hs⟩:=wN hd (f:=λ_=>h+1) (h:=h) (λi=>by rw[beq_eq_false_iff_ne];omega) _ _ m rfl q;rw[q]at e;cases e;exact⟨hs,rfl⟩
def lW (T:Tb led t)(n:Nat):Tb led (t.standIn n):=⟨wM n,rfl,T.ld⟩
def Fd (T:Tb led t)(n:Nat):Tb led (t.orStandIn n):=by
 unfold SetTable.orStandIn;split
 ·exact T
 ·exact lW T n
def C7 (T:Tb led t)  (hs:t.slot j=.empty):Tb led (t.put j).1:=by refine⟨C6 T.up (mP T.up j) (sE hs),?_,T.ld⟩;show(if SetTable.has t.dummies j then _ else t.dummies) = #[];rw[T.dm,has_none];rfl
def C8 (T:Tb led t)(es:Array (Int×Ψ))(h:Int)(x:Ψ):Tb led (layNew t es h x).2.1:=by
 unfold layNew;cases q:t.freeSlot h with
 |none=>exact lW T _
 |some p=>obtain⟨j,b⟩:=p;exact Fd (C7 T (vx T.dm q).1) _
@[reducible]def _root_.Ê:=List Nat
def wO (o:Nat->Ã)(l:Ê):((l.filterMap λj=>(o j).map (j,·)).map (·.1))=l.filter λj=>(o j).isSome:=by
 induction l with
 |nil=>rfl
 |cons a l ih=>
  rw[List.filterMap_cons,List.filter_cons];cases o a with
  |none=>simpa using ih
  |some b=>simpa using ih
def Am {l:Ê}(h:l.Pairwise (· < ·)):Up l.toArray:=by
 intro i k x y WD hx hy;have KS:l[i]? = Δ x:=by simpa using hx
 have NX:l[k]? = Δ y:=by simpa using hy
 obtain⟨h1,e1⟩:=x_.mp KS;obtain⟨h2,e2⟩:=x_.mp NX;have:=List.pairwise_iff_getElem.mp h i k h1 h2 WD;omega
def An {plain:Bool}(e:SetTable.laid mask finger moves led plain hs=Δ (t,o)):Tb led t:=by
 unfold SetTable.laid at e;cases q:SetTable.layClean mask hs with
 |none=>rw[q]at e;cases e
 |some ow=>rw[q]at e;have e':=I_ e;cases e';refine⟨?_,rfl,rfl⟩;show Up (List.toArray (List.map _ (List.filterMap _ _)));rw[wO];exact Am (List.Pairwise.sublist List.filter_sublist List.pairwise_lt_range)
def wQ (T:Tb led t)(es:Array (Int×Ψ))(n:Nat):Tb led (relayAll t es n).2.1:=by
 unfold relayAll;cases q:t.relaid (es.map (·.1)) n with
 |none=>exact lW T _
 |some p=>
  obtain⟨t',o⟩:=p;dsimp only;split
  ·have:=An q;rw[T.ld]at this;exact this
  ·exact lW T _
def wR (T:Tb led t)(b:Bool):Tb led {t with plain:=b}:=⟨T.up,T.dm,T.ld⟩
def wU (f m:Nat)(led:Bool):Tb led (SetTable.fresh f m led):=⟨λi k x y _ h=>by simp[SetTable.fresh]at h,rfl,rfl⟩
open PyProof.Rows
structure Ky (prog:Ε)(w:Β)(α:Type) [DecidableEq α] where
 knd:PySem.KeyKind prog w α
 mv:α->Tok->Ψ
 is:∀k t,knd.is k (mv k t)=Θ
 sc:∀k t,(mv k t).scannable=Θ
inductive Ar {α:Type}(mk:α->Tok->Ψ):Ï->List α->Prop
 | nil:Ar mk [] []
 | cons (n:α) (t:Tok) {vs:Ï}{ns:List α}:Ar mk vs ns->Ar mk (mk n t::vs) (n::ns)
theorem Ar.length (h:Ar mk vs ns):vs.length=ns.length:=by
 induction h with
 |nil=>rfl
 |cons _ _ _ ih=>rw[List.length_cons,List.length_cons,ih]
theorem Ar.at [Inhabited α]  : ∀ {vs:Ï}{ns:List α},Ar mk vs ns->∀(i:Nat) (v:Ψ),vs[i]? = Δ v->∃t,v=mk (ns.getD i default) t
 |_,_,.nil,i,v,h=>by simp at h
 |_,_,.cons n t hr,0,v,h=>by simp at h;exact⟨t,by rw[<- h];rfl⟩
 |_,_,.cons n t hr,i+1,v,h=>by simp only[aaE]at h;obtain⟨t',e⟩:=Ar.at hr i v h;exact⟨t',by rw[e];rfl⟩
section
variable {prog:Ε}{w:Β}{α:Type} [DecidableEq α] [Inhabited α]{ky:Ky prog w α}{A:Ι}{E:Ü}{s:Α}
noncomputable abbrev vals (es:Array (Int×Ψ)):Ï:=es.toList.map (·.2)
structure KV {prog:Ε}{w:Β}{α:Type} [DecidableEq α](ky:Ky prog w α)(led:Bool)(σ:List α)(o:Obj)(es:Array (Int×Ψ))(ep:Nat)(t:SetTable):Prop where
 ex:o.ExactSet
 da:o.data=.set es ep t
 el:ElemsOf ky.knd es.toList
 sb:es.size < scanBound
 fi:t.fits es.size=Θ
 tb:Tb led t
 pm:∃ks,Ar ky.mv (vals es) ks/\ks.Perm σ
def kU {prog:Ε}{w:Β}{α:Type} [DecidableEq α](ky:Ky prog w α)(h:Heap)(a:Ω)(led:Bool)(σ:List α):Prop:=∃o es ep t,h.get? a=Δ o/\KV ky led σ o es ep t
def lX (p:U9.Perm vs)(h:Ar ky.mv vs ks):∃MX,Ar ky.mv U9 MX/\MX.Perm ks:=by
 induction p generalizing ks with
 |nil=>exact⟨ks,h,.refl _⟩
 |cons x _ ih=>
  cases h with
  |cons n t h=>obtain⟨MX,h1,h2⟩:=ih h;exact⟨n::MX,.cons n t h1,.cons n h2⟩
 |swap x y l=>
  cases h with
  |cons n t h=>
   cases h with
   |cons m u h=>exact⟨m::n::_,.cons m u (.cons n t h),.swap n m _⟩
 |trans _ _ ih1 Ol=>obtain⟨k1,a1,b1⟩:=Ol h;obtain⟨k2,a2,b2⟩:=ih1 a1;exact⟨k2,a2,b2.trans b1⟩
def wV (h:Ar ky.mv vs ks):Ar ky.mv (vs++[ky.mv k t]) (ks++[k]):=by
 induction h with
 |nil=>exact .cons k t .nil
 |cons n u _ ih=>exact .cons n u ih
def wW {es:List (Int×Ψ)}  (h:Ar ky.mv (es.map (·.2)) ks):es.any (λe=>ky.knd.is k e.2)=ks.any (· == k):=by
 induction es generalizing ks with
 |nil=>cases h;rfl
 |cons e es ih=>
  obtain⟨c,v⟩:=e;cases h with
  |cons n t h=>
   rw[List.any_cons,List.any_cons,ih h,KeyKind.is_eq_decide (ky.is n t) k];congr 1;by_cases q:k=n
   ·subst q;simp
   ·simp[q,show ¬n=k from λz=>q z.symm]
def store {h:Heap}  (ho:h.get? a=Δ o)(D:KV ky led σ o es ep t)
  (el:ElemsOf ky.knd es'.toList) (sb:es'.size < scanBound) (fi:t'.fits es'.size=Θ) (tb:Tb led t') (pm:∃ks,Ar ky.mv (vals es') ks/\ks.Perm JD) :
  (h.update a (Obj.putSet es' t')).get? a=Δ {o with data:=.set es' (ep+1) t'}/\KV ky led JD {o with data:=.set es' (ep+1) t'} es' (ep+1) t':=
 ⟨(SetOf_store (knd:=ky.knd) (S':=λk=>es'.toList.any λe=>ky.knd.is k e.2) ho D.ex D.da el (λk=>by rw[List.any_eq_true]) sb fi).1,D.ex,rfl,el,sb,fi,tb,pm⟩
def qV {a:Ω}{led:Bool}{σ JD:List α}{o:Obj}{es Lq:Array (Int×Ψ)}{ep:Nat}{t t2:SetTable}{b:Bool}{g:Bool->Sem Unit}(hg:∀(b:Bool)(JI:Α)(Q':Unit->Α->Prop),Q' () JI->Κ (Μ prog w) A (g b) Q' E JI)
  (ho:s.heap.get? a=Δ o) (D:KV ky led σ o es ep t) (el:ElemsOf ky.knd Lq.toList) (sb:Lq.size < scanBound) (fi:t2.fits Lq.size=Θ) (tb:Tb led t2) (pm:∃ks,Ar ky.mv (vals Lq) ks/\ks.Perm JD)
  {R:Option Bool->Α->Prop} (h:∀h',Heap.SameBut a s.heap h'->kU ky h' a led JD->R (Δ Θ) {s with heap:=h'}) :
  Κ (Μ prog w) A (do
    storeSet a Lq t2
    if(!b&&t2.tooFull)=Θ then do
      g (relayAll t2 Lq (SetTable.grown Lq.size)).2.2
      storeSet a (relayAll t2 Lq (SetTable.grown Lq.size)).1 (relayAll t2 Lq (SetTable.grown Lq.size)).2.1
      pure (Δ Θ)
     else pure (Δ Θ)) R E s:=by
 obtain⟨g1,D1⟩:=store ho D el sb fi tb pm;have b1:=aaK s.heap a (Obj.putSet Lq t2);refine a_ (wpAny_storeSet_of ho D.da ?_ (fits_of_scanBound sb));split
 ·have p2:=relayAll_perm t2 Lq (SetTable.grown Lq.size);have f2:=relayAll_fits t2 Lq (SetTable.grown Lq.size);have u2:=wQ tb Lq (SetTable.grown Lq.size);generalize relayAll t2 Lq (SetTable.grown Lq.size)=Z at p2 f2 u2 ⊢;obtain⟨es2,t3,gv⟩:=Z;dsimp only at p2 f2 u2 ⊢;have sz:es2.size=Lq.size:=by rw[<- T_,p2.length_eq,T_]
  have Y6:es2.size < scanBound:=by rw[sz];exact sb
  obtain⟨ks,k1,k2⟩:=pm;obtain⟨MX,k3,k4⟩:=lX (p2.map (·.2)) k1;obtain⟨g2,D2⟩:=store g1 D1 (el.perm p2) Y6 f2 u2 ⟨MX,k3,k4.trans k2⟩;refine a_ (hg _ _ _ (a_ (wpAny_storeSet_of g1 rfl ?_ (fits_of_scanBound Y6))));exact e_ (h _ (b1.trans (aaK _ a _)) ⟨_,_,_,_,g2,D2⟩)
 ·exact e_ (h _ b1 ⟨_,_,_,_,g1,D1⟩)
def add_int (hS:kU ky s.heap a led σ)(hr:σ.length+1 < scanBound)
  (h:∀h',Heap.SameBut a s.heap h'->kU ky h' a led (step_dedup σ k)->∀b,Q b {s with heap:=h'}) :
  Κ (Μ prog w) A (setAddHashed a (ky.mv k tk) (ky.knd.hash k)) Q E s:=by
 obtain⟨o,es,ep,t,ho,D⟩:=hS;obtain⟨ks,k1,k2⟩:=D.pm;have lk:es.size=ks.length:=by have:=Ar.length k1;rw[i_,T_]at this;exact this
 have Tu:es.toList.any (λe=>ky.knd.is k e.2)=σ.any (· == k):=(wW k1).trans (k2.any_eq);unfold setAddHashed setAddHashedIn;refine L_ (a_ (wpAny_setState_of ho D.da D.fi ?_));dsimp only;rw[byScan_of (x:=ky.mv k tk) (ky.sc k tk) D.sb D.el,h_ rfl];unfold setAddByScan;refine a_ (a_ (wpAny_rule (a_ (wpAny_setScan_of (ky.is k tk) ho D.da D.fi D.el ?_))));cases hq:List.findIdx? (λe=>ky.knd.is k e.2) es.toList with
 |some j=>
  dsimp only;obtain⟨hj,hpj,_⟩:=List.findIdx?_eq_some_iff_getElem.mp hq;have To:σ.any (· == k)=Θ:=by rw[<- Tu,List.any_eq_true];exact⟨_,aai hj,hpj⟩
  have e2:step_dedup σ k=σ:=by unfold step_dedup;rw[h_ To]
  refine e_ (e_ ?_);have z:=h s.heap (Heap.SameBut.refl a s.heap) (by rw[e2];exact⟨o,es,ep,t,ho,D⟩) Ξ;cases s;exact z
 |none=>
  dsimp only;have WE:σ.any (· == k)=Ξ:=by rw[<- Tu,List.any_eq_false];intro e he;have:=List.findIdx?_eq_none_iff.mp hq e he;rw[this];exact A_
  have e2:step_dedup σ k=σ++[k]:=by unfold step_dedup;rw[f_ (by rw[WE];exact A_)]
  have p1:=layNew_perm t es (ky.knd.hash k) (ky.mv k tk);have f1:=layNew_fits t es (ky.knd.hash k) (ky.mv k tk);have u1:=C8 D.tb es (ky.knd.hash k) (ky.mv k tk);generalize layNew t es (ky.knd.hash k) (ky.mv k tk)=L at p1 f1 u1 ⊢;obtain⟨Lq,t1,wd,gv⟩:=L;dsimp only at p1 f1 u1 ⊢;rw[Array.toList_push]at p1;have Y7:ElemsOf ky.knd Lq.toList:=(D.el.push (ky.is k tk) (ky.sc k tk)).perm p1;have sz1:Lq.size=es.size+1:=by rw[<- T_,p1.length_eq,u_,T_];rfl
  have Y8:Lq.size < scanBound:=by rw[sz1,lk,k2.length_eq];exact hr
  have Y9:∃MX,Ar ky.mv (vals Lq) MX/\MX.Perm (step_dedup σ k):=by obtain⟨MX,k3,k4⟩:=lX (p1.map (·.2)) (by rw[X_];exact wV (k:=k) (t:=tk) k1);exact⟨MX,k3,k4.trans (by rw[e2];exact k2.append_right _)⟩
  refine a_ ((show ∀(b:Bool) (JI:Α) (Q':Unit->Α->Prop),Q' () JI->Κ (Μ prog w) A (match b with|true=>rule "set.scan.the-table-gave-way" |false=>pure ()) Q' E JI from λb JI Q' hq=>by induction b using zB<;>first|exact e_ hq|exact wpAny_rule hq) _ _ _ ?_);have fin:∀h',Heap.SameBut a s.heap h'->kU ky h' a led (step_dedup σ k)->Κ (Μ prog w) A (pure Θ) Q E {s with heap:=h'}:=λh' hb Lp=>e_ (h h' hb Lp Θ);split
  ·rw[hashByValue_scannable 8 (x:=ky.mv k tk) (ky.sc k tk)];refine a_ (e_ (qV ?_ ho D Y7 Y8 ?_ ?_ Y9 λh' hb Lp=>?_))
   ·intro b JI Q' hq;induction b using zB<;>first|exact e_ hq|exact wpAny_rule hq
   ·split
    ·exact f1
    ·exact SetTable.fits_plain_off f1
   ·split
    ·exact u1
    ·exact wR u1 _
   ·exact fin h' hb Lp
  ·refine a_ (e_ ?_);rw[h_ rfl];refine qV ?_ ho D Y7 Y8 f1 u1 Y9 λh' hb Lp=>fin h' hb Lp;intro b JI Q' hq;induction b using zB<;>first|exact e_ hq|exact wpAny_rule hq
end
noncomputable abbrev jf (w:Β):Bool:=w.params.followText "set-order"
section
variable {prog:Ε}{w:Β}{α:Type} [DecidableEq α] [Inhabited α]{ky:Ky prog w α}{A:Ι}{E:Ü}{s:Α}{R:Result->Α->Prop}{I:Ω}{fp wr:Î}{G:Array GenState->Array GenState->Prop}{n:Nat}{P:Nat->Ψ->Prop}{St:Nat->Α->Prop}
def kU.moved (hS:kU ky h a led σ)(k:∀o,h.get? a=Δ o->h'.get? a=Δ o):kU ky h' a led σ:=by obtain⟨o,es,ep,t,ho,D⟩:=hS;exact⟨o,es,ep,t,k o ho,D⟩
def KU (l:List α):∀σ:List α,(l.foldl step_dedup σ).length<=σ.length+l.length:=λσ=>foldl_step_dedup_length_le σ l
def loop (W:WalksS prog w A.in1 I fp wr G n P St)(a:Ω)(ha:a∉fp){led:Bool}{ns:List α}(hv:∀i v,P i v->∃t,v=ky.mv (ns.getD i default) t)(hn:ns.length=n)(hb:n+1 < scanBound) :
  ∀(k i:Nat) (s:Α),n - i=k->i<=n->St i s->kU ky s.heap a led ((ns.take i).foldl step_dedup [])->
   (∀s',Moved (a::wr) G s s'->kU ky s'.heap a led (ns.foldl step_dedup [])->R (.ok (.ret .none)) s')->
   codeAny (Μ prog w) A (.builtin "set.update.loop" ⟨[.ref a,.ref I],[]⟩) R s:=by
 have Y':a∉wr:=λz=>ha (W.sub _ z);have sub:∀b∈wr,b∈a::wr:=λb z=>H_ _ z;intro k
 induction k with
 |zero=>
  intro i s hk hi JY hS hR;have e:i=n:=⋯
  subst e;rw[<- hn,List.take_length]at hS;refine codeAny_builtin F.entry_set_update_loop ?_;rw[aaN F.plain_set_update_loop _];show Κ _ A.in1 (pyNext (.ref I) >>= _) _ _ s;exact a_ (W.done s _ _ JY λs' hm=>show Κ _ A.in1 (ret Value.none) _ _ s' from e_ (hR s' (hm.mono sub) (hS.moved λo e=>hm.heap a o Y' e)))
 |succ k ih=>
  intro i s hk hi JY hS hR;have JZ:i < n:=⋯
  refine codeAny_builtin F.entry_set_update_loop ?_;rw[aaN F.plain_set_update_loop _];show Κ _ A.in1 (pyNext (.ref I) >>= _) _ _ s;refine a_ (W.item i s _ _ JZ JY λv s' hP J7 hm=>?_);obtain⟨t,rfl⟩:=hv i v hP;have WG:kU ky s'.heap a led ((ns.take i).foldl step_dedup []):=hS.moved λo e=>hm.heap a o Y' e;show Κ _ A.in1 (holding [ky.mv (ns.getD i default) t] (setAdd a (ky.mv (ns.getD i default) t)) >>= _) _ _ s';unfold setAdd;refine a_ (L_ (L_ (a_ (ky.knd.pyHash (ky.is _ _) ?_))));have hlen:=KU (ns.take i) [];rw[aab,List.length_nil]at hlen;refine add_int (s:={s' with toks:=s'.toks+1}) WG ⋯ λh' Ta U8 b=>?_;have et:(ns.take (i+1)).foldl step_dedup []=step_dedup ((ns.take i).foldl step_dedup []) (ns.getD i default):=by
   have Ms:i < ns.length:=⋯
   rw[List.take_succ,List.foldl_append,C_ Ms,aaj,C_ Ms];rfl
  rw[<- et]at U8;refine e_ ⟨plainId_quiet F.plain_set_update_loop _,ih (i+1) _ ⋯ JZ (W.frame _ s' _ _ J7 (Nat.le_succ _) λb hb o e=>?_) U8 λOh QH WH=>?_⟩
  ·rw[Ta.2 b λz=>ha (z ▸ hb)];exact e
  ·refine hR Oh (Moved.trans W.gtrans ((hm.mono sub).then_heap (Nat.le_succ _) λb o hb e=>?_) QH) WH;rw[Ta.2 b λz=>hb (z ▸ aaf)];exact e
def wX (x:Ψ)  (h:Q1 (.ref s.heap.objs.size) {s with heap:=s.heap.push {cls:=.type "set",dict:=Φ,data:=.set #[] 0 (.fresh 0 0 (!jf w))}}) :
  codeAny (Μ prog w) A (.call (.builtin "set.__new__") ⟨[.type "set",x],[]⟩) (wants Q1 E) s:=by
 refine codeAny_of_tree (show Κ _ A.in1 (do checkBuiltinCall "set.__new__" ⟨[.type "set",x],[]⟩;again (.builtin "set.__new__" ⟨[.type "set",x],[]⟩)) _ _ s from a_ (wpAny_of_eq (F.newCall_set_1 x) (e_ ⟨plainId_quiet F.plain_set_new _,codeAny_builtin F.entry_set_new ?_⟩)));rw[aaN F.plain_set_new _];unfold Builtin.«set.__new__» Builtin.Frozenset.newClass;have WI:=sub_set_self;obtain⟨hp,g,d,tk,os⟩:=s;dsimp only
 wp_walk
 refine wpAny_askSetting (e_ ?_);dsimp only;simp only[newObj];exact a_ (wpAny_alloc (e_ (e_ h)))
end
section
variable {prog:Ε}{w:Β}{α:Type} [DecidableEq α] [Inhabited α]{ky:Ky prog w α}{A:Ι}{E:Ü}{s:Α}
noncomputable abbrev oS (w:Β):Obj:={cls:=.type "set",dict:=Φ,data:=.set #[] 0 (.fresh 0 0 (!jf w))}
def vy (h:Heap):kU ky (h.push (oS w)) h.objs.size (!jf w) []:=
 ⟨_,#[],0,_,w_ _ rfl,⟨rfl,rfl,rfl⟩,rfl,λe he=>by simp at he, nofun,rfl,wU _ _ _,[],.nil,.refl _⟩
def wY {l:Ω}{items:Array Ψ}{ns:List α}{Q:Ü}(hh:A.handled=Φ)(hl:s.heap.IsList l items)(hi:Ar ky.mv items.toList ns)(hb:items.size+1 < scanBound)
  (h:∀(h':Heap) (tk:Nat),kU ky h' s.heap.objs.size (!jf w) (ns.foldl step_dedup [])->(∀b o,b < s.heap.objs.size->s.heap.get? b=Δ o->h'.get? b=Δ o)->Q (.ref s.heap.objs.size) {s with heap:=h',toks:=tk}) :
  Κ (Μ prog w) A (call (.type "set") [.ref l]) Q E s:=by
 obtain⟨c,tl,mro⟩:=F.called_set.mro;have made:=F.called_set.made;have sub:=F.called_set.sub;refine wpAny_call (codeAny_of_tree (show Κ _ _ (callAny (.type "set") _) _ _ _ from e_ ⟨Code.quiet_builtin _ ∅,codeAny_builtin F.entry_type_call ?_⟩));rw[Around.under_plain (weight_type_call_type "set" [.ref l] []) rfl];have n1:=F.called_set.notType;have n2:=F.called_set.canCreate;have n3:=F.typeCall_set_1 (.ref l)
 repeat (any_goals (first|assumption|wp_step))
 refine codeAny_mono (wX (.ref l) (E:=E) (Q1:=λobj s1=>obj=.ref s.heap.objs.size/\s1 = {s with heap:=s.heap.push (oS w)}) ⟨rfl,rfl⟩) λr s1 hr=>?_;cases r with
 |error e=>exact hr
 |ok fl=>
  cases fl with
  |ret obj=>
   obtain⟨rfl,rfl⟩:=hr;have gS:(s.heap.push (oS w)).get? s.heap.objs.size=Δ (oS w):=w_ _ rfl;have hT:Shared.TypeIs {s with heap:=s.heap.push (oS w)} (.ref s.heap.objs.size) "set":=⟨_,gS,rfl⟩
   have i1:=F.called_set.init.lookup;have i2:=F.called_set.init.bind (.ref s.heap.objs.size)
   repeat (any_goals (first|assumption|wp_step))
   refine codeAny_mono (codeAny_call_builtin (R:=wants (λr s2=>r=.none/\∃h' tk,s2 = {s with heap:=h',toks:=tk}/\kU ky h' s.heap.objs.size (!jf w) (ns.foldl step_dedup [])/\
     (∀b o,b < s.heap.objs.size->s.heap.get? b=Δ o->h'.get? b=Δ o)) E) F.called_set.init.plain F.entry_set_init (check_set_init_1 hT ?_)) λr2 s2 QI=>?_
   ·obtain⟨ol,Za,RE,nl,Zb⟩:=hl;obtain⟨abS,Tw,Zc,QJ⟩:=ol;simp only at RE Zb;subst RE;subst Zb;have WJ:(s.heap.push (oS w)).get? l=Δ {cls:=.type "list",dict:=Tw,data:=.seq items nl,slots:=QJ}:=m_ _ Za;have w1:=F.sub_list_set;have w2:=F.sub_list_frozenset;have w3:(Value.type "list" == Value.type "dict")=Ξ:= nofun
    have U':(s.heap.push (oS w)).IsList l items:=⟨_,WJ,rfl,nl,rfl⟩
    unfold Builtin.«set.__init__» noKeywords Builtin.Frozenset.updateFrom;generalize hPI:pyIter=PI
    wp_walk
    subst hPI;refine aaq U' (a_ (wpAny_runValue ?_));have lS:l < s.heap.objs.size:=j_ Za;have nI:l≠(s.heap.push (oS w)).objs.size:=by rw[W_];exact o_ (Nat.lt_succ_of_lt lS)
    have aS:s.heap.objs.size∉[(s.heap.push (oS w)).objs.size,l]:=by
     rw[W_];intro z;rcases k_.mp z with z|z
     ·exact o_ (Nat.lt_succ_self _) z
     ·exact U_ lS (v_.mp z)
    have hlen:ns.length=items.size:=by have:=Ar.length hi;rw[T_]at this;exact this.symm
    refine loop ((Walks.list (show A.in1.in1.in1.handled=Φ by simp[hh]) _ l nI items).toS) s.heap.objs.size aS (ns:=ns) (λi v hv=>Ar.at hi i v (by rw[aaM];exact hv)) hlen hb (items.size - 0) 0 _ ⋯ (R_ _)
     ⟨⟨_,w_ _ rfl,rfl,rfl⟩,(U'.push _)⟩ ((vy s.heap).moved λo e=>m_ _ e) ?_
    intro s' hm Lp;obtain⟨h',g',d',tk',V9⟩:=s';have eg:g'=s.gens:=hm.gens;have ed:d'=s.drawn:=hm.drawn;have eo:V9=s.os:=hm.os;subst eg ed eo;show Κ _ _ _ _ _ _;refine e_ (show Κ _ _ (ret Value.none) _ _ _ from e_ ⟨rfl,h',tk',rfl,Lp,λb o hb e=>?_⟩);refine hm.heap b o (λz=>?_) (m_ _ (m_ _ e));rcases k_.mp z with z|z
    ·exact o_ hb z
    ·have:=v_.mp z;rw[W_]at this;exact o_ (Nat.lt_succ_of_lt hb) this
   ·cases r2 with
    |error e=>exact QI
    |ok fl2=>
     cases fl2 with
     |ret r=>
      obtain⟨rfl,h',tk,rfl,Lp,Nn⟩:=QI
      repeat (any_goals (first|assumption|wp_step))
      exact h _ _ Lp Nn
     |_=>exact QI.elim
  |_=>exact hr.elim
end
def iA:Slot "set_iterator" "__next__" "set_iterator.__next__":=.of (owner:="set_iterator") (n:="__next__")
 (by rw[typeLookup_type,builtinLookup_eq_fast];kernel_rfl) ∅ ∅ ∅ (by first|exact .inl ∅|exact .inr ∅) (by rw[isSubtype_type];kernel_rfl)
def lF:Slot "set_iterator" "__iter__" "set_iterator.__iter__":=.of (owner:="set_iterator") (n:="__iter__")
 (by rw[typeLookup_type,builtinLookup_eq_fast];kernel_rfl) ∅ ∅ ∅ (by first|exact .inl ∅|exact .inr ∅) (by rw[isSubtype_type];kernel_rfl)
def jF:entryFor table "set_iterator.__next__" = Δ Builtin.«set_iterator.__next__»:=entryFor_of_tree (by kernel_rfl)
def jP (a:Ψ):argsOk "set_iterator.__next__" ⟨[a],[]⟩:=by unfold argsOk;kernel_rfl
def qi:entryFor table "set.__iter__" = Δ Builtin.«frozenset.__iter__»:=
 entryFor_alias (id':="frozenset.__iter__") (by kernel_rfl) (by first|rfl|decide +kernel|(unfold String.splitOn;simp +decide [String.splitOnAux])) ∅ (by kernel_rfl)
section
variable {prog:Ε}{w:Β}{α:Type} [DecidableEq α] [Inhabited α]{ky:Ky prog w α}{A:Ι}{E:Ü}{s:Α}
noncomputable abbrev Om (first:Ψ)(i n:Nat)(a:Ω)(ep:Nat):Obj:={cls:=.type "set_iterator",data:=.fields #[first,rawInt i,.ref a,rawInt n,rawInt ep]}
def nK (h:Q (jf w) s):Κ (Μ prog w) A setsByText Q E s:=by unfold setsByText;exact a_ (wpAny_askSetting (e_ h))
def vz {a:Ω}{σ:List α}{o:Obj}{es:Array (Int×Ψ)}{ep:Nat}{t:SetTable}{led:Bool}{Q:Array (Int×Ψ)->Α->Prop}(hb:jf w=Θ)(ho:s.heap.get? a=Δ o)(D:KV ky led σ o es ep t)
  (h:Q (pickOrder (w.params.setOrder a ep) es) s):Κ (Μ prog w) A (setWalk a) Q E s:=by
 unfold setWalk;refine a_ (wpAny_setState_of ho D.da D.fi ?_);dsimp only;refine a_ (nK ?_);rw[hb,h_ rfl];exact a_ (wpAny_askSetting (e_ h))
def pQ {a:Ω}{σ:List α}{o:Obj}{es:Array (Int×Ψ)}{ep slot i:Nat}{t:SetTable}{led:Bool}{Q:Option (Ψ×Nat)->Α->Prop}(hb:jf w=Θ)(ho:s.heap.get? a=Δ o)(D:KV ky led σ o es ep t)
  (h:Q (((pickOrder (w.params.setOrder a ep) es)[i]?).map λe=>(e.2,slot)) s):Κ (Μ prog w) A (setNext a slot i ep) Q E s:=by
 unfold setNext;refine a_ (wpAny_setState_of ho D.da D.fi ?_);dsimp only;refine a_ (nK ?_);rw[hb,h_ rfl];rw[f_ (by rw[bne_self_eq_false];exact A_)];exact a_ (vz hb ho D (e_ h))
def oq {a:Ω}{σ:List α}{o:Obj}{es:Array (Int×Ψ)}{ep slot i:Nat}{t:SetTable}{Q:Option (Ψ×Nat)->Α->Prop}(hb:jf w=Ξ)(ho:s.heap.get? a=Δ o)(D:KV ky (!jf w) σ o es ep t)
  (hd:(!t.plain&&decide (es.size > 1))=Ξ)
  (h:Q (match es[SetTable.below t.place slot]?,t.place[SetTable.below t.place slot]? with
   |some (_,x),Δ j=>Δ (x,j+1)
   |_,_=>Φ) s):Κ (Μ prog w) A (setNext a slot i ep) Q E s:=by
 unfold setNext;refine a_ (wpAny_setState_of ho D.da D.fi ?_);dsimp only;refine a_ (nK ?_);rw[hb,f_ A_];refine a_ (e_ ?_);show Κ _ _ (if(!t.plain&&decide (es.size > 1))=Θ then _ else _) _ _ _;rw[hd,f_ A_];have hl:t.led=Θ:=by rw[D.tb.ld,hb];rfl
 show Κ _ _ ((if(!t.led&&!es.isEmpty)=Θ then _ else _) >>= _) _ _ _;rw[hl];exact a_ (e_ (e_ h))
end
section
variable {prog:Ε}{w:Β}{α:Type} [DecidableEq α] [Inhabited α]{ky:Ky prog w α}{A:Ι}{E:Ü}{s:Α}{it a:Ω}{i n ep slot:Nat}{σ:List α}{o:Obj}{es:Array (Int×Ψ)}{t:SetTable}{led:Bool}
theorem stop {M:Model}{A:Ι}{h:Heap}{hh:A.handled=Φ}{R:Fin->Α->Prop}{R':Ü}(hQ:∀h' e,(∀b o,s.heap.get? b=Δ o->h'.get? b=Δ o)->(∃o,h'.get? e=Δ o/\o.cls=.type "StopIteration")->R' (.ref e) {s with heap:=h'}) :
  Κ M A (do raiseNew (<- newExc (.type "StopIteration") [])) R R' s:=by
 refine a_ ?_;simp only[newExc,newTuple];refine a_ (aac ?_ (by size_fits));refine a_ (m:=firstArgMember _ _) (wpAny_of_eq (a:=Value.none) (by first|rfl|(simp only[firstArgMember];rfl)) (aac ?_ (by size_fits)));simp only[raiseNew];refine a_ (wpAny_handled ?_);rw[hh];exact a_ (e_ (wpAny_throw (hQ _ _ (λb o e=>m_ _ (m_ _ e)) ⟨_,w_ _ rfl,rfl⟩)))
theorem t6 {nx:Nat}{x:Ψ}(hit:s.heap.get? it=Δ (Om (rawInt slot) i n a ep))(ho:s.heap.get? a=Δ o)(D:KV ky led σ o es ep t)(hn:es.size=n)
  (hs:∀(A':Ι) (E':Ü) (Q':Option (Ψ×Nat)->Α->Prop),Q' (Δ (x,nx)) s->Κ (Μ prog w) A' (setNext a slot i ep) Q' E' s) {Q:Option Ψ->Α->Prop}
  (h:∀h',h'.get? it=Δ (Om (rawInt nx) (i+1) n a ep)->Heap.SameBut it s.heap h'->Q (Δ x) {s with heap:=h'}):Κ (Μ prog w) A (pyNext (.ref it)) Q E s:=by
 have hT:s.TypeIs (.ref it) "set_iterator":=⟨_,hit,rfl⟩
 unfold pyNext;refine a_ (wpAny_attempt (wpAny_callSpecial?_slot (name:=Ρ "__next__") hT iA (aaa iA hT jF ?_ (jP _))));show Κ _ _ (fieldsOf (.ref it) >>= _) _ _ s;refine a_ (wpAny_fieldsOf hit rfl ?_);show Κ _ _ (setEntries a >>= _) _ _ s;refine a_ (wpAny_setEntries_of ho D.da D.fi ?_);rw[f_ (by rw[hn];simp)];show Κ _ _ (setNext a slot i ep >>= _) _ _ s;refine a_ (hs _ _ _ ?_);show Κ _ _ (setField (.ref it) 0 (rawInt nx) >>= _) _ _ s;refine a_ (aad hit (by simp) λh1 g1 b1=>?_);refine a_ (aad g1 (by simp) λh2 g2 b2=>?_);exact e_ ⟨x,rfl,e_ (h h2 g2 (b1.trans b2))⟩
theorem ua (hh:A.handled=Φ)(hit:s.heap.get? it=Δ (Om (rawInt slot) i n a ep))(ho:s.heap.get? a=Δ o)(D:KV ky led σ o es ep t)(hn:es.size=n)
  (hs:∀(A':Ι) (E':Ü) (Q':Option (Ψ×Nat)->Α->Prop),Q' Φ s->Κ (Μ prog w) A' (setNext a slot i ep) Q' E' s) {Q:Option Ψ->Α->Prop}
  (h:∀h',(∀b o,b≠it->s.heap.get? b=Δ o->h'.get? b=Δ o)->Q Φ {s with heap:=h'}):Κ (Μ prog w) A (pyNext (.ref it)) Q E s:=by
 have hT:s.TypeIs (.ref it) "set_iterator":=⟨_,hit,rfl⟩
 unfold pyNext;refine a_ (wpAny_attempt (wpAny_callSpecial?_slot (name:=Ρ "__next__") hT iA (aaa iA hT jF ?_ (jP _))));show Κ _ _ (fieldsOf (.ref it) >>= _) _ _ s;refine a_ (wpAny_fieldsOf hit rfl ?_);show Κ _ _ (setEntries a >>= _) _ _ s;refine a_ (wpAny_setEntries_of ho D.da D.fi ?_);rw[f_ (by rw[hn];simp)];show Κ _ _ (setNext a slot i ep >>= _) _ _ s;refine a_ (hs _ _ _ ?_);show Κ _ _ (setField (.ref it) 2 .none >>= _) _ _ s;refine a_ (aad hit (by simp) λh1 g1 b1=>?_);refine stop (h:=h1) (hh:=show A.in1.handled=Φ from hh) (s:={s with heap:=h1}) λh' e k he=>?_;obtain⟨oe,ge,ce⟩:=he;refine a_ (wpAny_isInstance (T:="StopIteration") (b:=Θ) ⟨_,ge,ce⟩ isSubtype_stop ?_);exact e_ (h h' λb o hb e=>k b o (b1.extBut b o hb e))
end
section
variable {prog:Ε}{w:Β}{α:Type} [DecidableEq α] [Inhabited α]{ky:Ky prog w α}{A:Ι}{E:Ü}{s:Α}{it a T:Ω}{i n ep slot:Nat}{σ:List α}{o:Obj}{es:Array (Int×Ψ)}{t:SetTable}{led:Bool}
noncomputable abbrev QK (ps:Ê):Obj:={cls:=.type "tuple",data:=.seq (ps.map λ(k:Nat)=>rawInt k).toArray}
theorem sG {pl:Nat}{c:Int}{x:Ψ}{Q:Ü}(ho:s.heap.get? a=Δ o)(D:KV ky led σ o es ep t)(he:es[pl]? = Δ (c,x))(h:Q x s):Κ (Μ prog w) A (setNextDrawn a pl ep) Q E s:=by unfold setNextDrawn;refine a_ (wpAny_setState_of ho D.da D.fi ?_);dsimp only;rw[f_ (by rw[bne_self_eq_false];exact A_)];rw[he];exact e_ h
theorem wZ {ps:Ê}{pl:Nat}{c:Int}{x:Ψ}(hit:s.heap.get? it=Δ (Om (.ref T) i n a ep))(hT:s.heap.get? T=Δ (QK ps))(ho:s.heap.get? a=Δ o)(D:KV ky led σ o es ep t)(hn:es.size=n)
  (hp:ps[i]? = Δ pl) (he:es[pl]? = Δ (c,x)) {Q:Option Ψ->Α->Prop}
  (h:∀h',h'.get? it=Δ (Om (.ref T) (i+1) n a ep)->Heap.SameBut it s.heap h'->Q (Δ x) {s with heap:=h'}):Κ (Μ prog w) A (pyNext (.ref it)) Q E s:=by
 have Tz:s.TypeIs (.ref it) "set_iterator":=⟨_,hit,rfl⟩
 unfold pyNext;refine a_ (wpAny_attempt (wpAny_callSpecial?_slot (name:=Ρ "__next__") Tz iA (aaa iA Tz jF ?_ (jP _))));show Κ _ _ (fieldsOf (.ref it) >>= _) _ _ s;refine a_ (wpAny_fieldsOf hit rfl ?_);show Κ _ _ (setEntries a >>= _) _ _ s;refine a_ (wpAny_setEntries_of ho D.da D.fi ?_);rw[f_ (by rw[hn];simp)];show Κ _ _ (seqItems? (.ref T) >>= _) _ _ s;refine a_ (Z_ hT rfl ?_);dsimp only;have e:((ps.map λ(k:Nat)=>rawInt k).toArray)[((i:Nat):Int).toNat]? = Δ (rawInt pl):=by simp[hp]
 rw[e];show Κ _ _ (setNextDrawn a pl ep >>= _) _ _ s;refine a_ (sG ho D he ?_);refine a_ (aad hit (by simp) λh1 g1 b1=>?_);exact e_ ⟨x,rfl,e_ (h h1 g1 b1)⟩
theorem w8 {ps:Ê}(hh:A.handled=Φ)(hit:s.heap.get? it=Δ (Om (.ref T) i n a ep))(hT:s.heap.get? T=Δ (QK ps))(ho:s.heap.get? a=Δ o)(D:KV ky led σ o es ep t)(hn:es.size=n)
  (hp:ps[i]? = Φ) {Q:Option Ψ->Α->Prop}
  (h:∀h',(∀b o,b≠it->s.heap.get? b=Δ o->h'.get? b=Δ o)->Q Φ {s with heap:=h'}):Κ (Μ prog w) A (pyNext (.ref it)) Q E s:=by
 have Tz:s.TypeIs (.ref it) "set_iterator":=⟨_,hit,rfl⟩
 unfold pyNext;refine a_ (wpAny_attempt (wpAny_callSpecial?_slot (name:=Ρ "__next__") Tz iA (aaa iA Tz jF ?_ (jP _))));show Κ _ _ (fieldsOf (.ref it) >>= _) _ _ s;refine a_ (wpAny_fieldsOf hit rfl ?_);show Κ _ _ (setEntries a >>= _) _ _ s;refine a_ (wpAny_setEntries_of ho D.da D.fi ?_);rw[f_ (by rw[hn];simp)];show Κ _ _ (seqItems? (.ref T) >>= _) _ _ s;refine a_ (Z_ hT rfl ?_);dsimp only;have e:((ps.map λ(k:Nat)=>rawInt k).toArray)[((i:Nat):Int).toNat]? = Φ:=by have:=hp;simp at this ⊢;exact this
 rw[e];show Κ _ _ (setField (.ref it) 0 (rawInt 0) >>= _) _ _ s;refine a_ (aad hit (by simp) λh1 g1 b1=>?_);refine a_ (aad g1 (by simp) λh2 g2 b2=>?_);refine stop (h:=h2) (hh:=show A.in1.handled=Φ from hh) (s:={s with heap:=h2}) λh' e k he=>?_;obtain⟨oe,ge,ce⟩:=he;refine a_ (wpAny_isInstance (T:="StopIteration") (b:=Θ) ⟨_,ge,ce⟩ isSubtype_stop ?_);exact e_ (h h' λb o hb e=>k b o (b2.extBut b o hb (b1.extBut b o hb e)))
theorem ou (l:List α):∀(j:Nat) (h:j < l.length),(l[j]::l.eraseIdx j).Perm l:=by
 induction l with
 |nil=>intro j h;cases h
 |cons a l ih=>
  intro j h;cases j with
  |zero=>exact .refl _
  |succ j=>
   have h':j < l.length:=by simpa using h
   exact(List.Perm.swap a l[j] (l.eraseIdx j)).trans (List.Perm.cons a (ih j h'))
theorem vA (f:Nat->Nat):∀(fuel k:Nat) (left:List α) (out:Array α),left.length<=fuel->(pickOrder.go f fuel k left out).toList.Perm (out.toList++left):=by
 intro fuel
 induction fuel with
 |zero=>intro k left out h;have:left=[]:=List.length_eq_zero_iff.mp ⋯;subst this;unfold pickOrder.go;rw[P_]
 |succ n ih=>
  intro k left out h;unfold pickOrder.go
  induction left using zL with
  |nil=>simp
  |cons y l=>have JZ:f k % (y::l).length < (y::l).length:=Nat.mod_lt _ (by simp);generalize f k % (y::l).length=j at JZ;rw[C_ JZ];dsimp only;refine(ih (k+1) _ _ (by rw[List.length_eraseIdx_of_lt JZ];simp at h ⊢;omega)).trans ?_;rw[Array.toList_push,E_];refine aak _ ?_;exact(ou _ _ JZ)
theorem l5 (f:Nat->Nat)(xs:Array α):(pickOrder f xs).toList.Perm xs.toList:=by have:=vA f xs.size 0 xs.toList #[] (by simp);rw[show(#[]:Array α).toList++xs.toList=xs.toList by simp]at this;exact this
theorem vB (hm:m≠0)(h:∀k d,k < m->Q k {s with drawn:=d}):Κ (Μ prog w) A (choose src m) Q E s:=λΓ p hΓ=>
 show m≠0/\Q _ _ from⟨hm,h _ _ (Nat.mod_lt _ (Nat.pos_of_ne_zero hm))⟩
theorem Ao:∀(m:Nat) (xs:List α) (s:Α),xs.length=m->(∀ys d,ys.Perm xs->Q ys {s with drawn:=d})->Κ (Μ prog w) A (drawOrder m xs) Q E s:=by
 intro m
 induction m generalizing Q with
 |zero=>intro xs s hx h;have:xs=[]:=List.length_eq_zero_iff.mp hx;subst this;exact e_ (by cases s;exact h [] _ (.refl _))
 |succ m ih=>
  intro xs s hx h
  induction xs using zL with
  |nil=>cases hx
  |cons y l=>unfold drawOrder;refine a_ (vB (by simp) λk d hk=>?_);rw[C_ hk];dsimp only;refine a_ (ih _ _ (by rw[List.length_eraseIdx_of_lt hk];simp at hx ⊢;omega) λys d' hy=>e_ ?_);exact h _ d' ((List.Perm.cons _ hy).trans (ou _ _ hk))
end
def oz:entryFor table "set_iterator.__iter__" = Δ Builtin.«dict_keyiterator.__iter__»:=
 entryFor_alias (id':="dict_keyiterator.__iter__") (by kernel_rfl) (by first|rfl|decide +kernel|(unfold String.splitOn;simp +decide [String.splitOnAux])) ∅ (by kernel_rfl)
def pB (a:Ψ):argsOk "set_iterator.__iter__" ⟨[a],[]⟩:=by unfold argsOk;kernel_rfl
section
variable {prog:Ε}{w:Β}{α:Type} [DecidableEq α] [Inhabited α]{ky:Ky prog w α}{A:Ι}{E:Ü}{s:Α}{it a T:Ω}{i n ep slot:Nat}{σ:List α}{o:Obj}{es:Array (Int×Ψ)}{t:SetTable}{led:Bool}
theorem oA (hit:s.heap.get? it=Δ (Om f i n a ep))(h:Q (.ref it) s):Κ (Μ prog w) A (pyIter (.ref it)) Q E s:=by
 have hT:s.TypeIs (.ref it) "set_iterator":=⟨_,hit,rfl⟩
 refine wpAny_pyIter_slot hT lF (aaa lF hT oz ?_ (pB _));exact e_ ⟨_,rfl,"set_iterator",_,hT,iA.lookup,h⟩
theorem ub (h1:Cut xs j p)(h2:Cut xs j q):p=q:=by
 have key:∀p q:Nat,Cut xs j p->Cut xs j q->¬p < q:=λp q h1 h2 h=>by
  have hl:p < xs.size:=B_ h h2.le;have e:xs[p]? = Δ xs[p]:=by simp[hl]
  have:=h2.lo p _ h e;have:=h1.hi p _ (q_ _) e;omega
 have:=key p q h1 h2;have:=key q p h2 h1;omega
theorem Fe (hh:A.handled=Φ)(hb:jf w=Θ)(D:KV ky led σ o es ep t)(LH:a≠it) :
  Walks prog w A it [it,a] [it] es.size (λi v=>((pickOrder (w.params.setOrder a ep) es).toList.map (·.2))[i]? = Δ v) (λi h=>h.get? it=Δ (Om (rawInt 0) i es.size a ep)/\h.get? a=Δ o) where
 sub:=λb hb=>by rw[v_.mp hb];exact aaf
 frame:=λ_ _ _ st k=>⟨k it (by simp) _ st.1,k a (by simp) _ st.2⟩
 item:=λi s Q E hi st hQ=>by
  have hl:(pickOrder (w.params.setOrder a ep) es).size=es.size:=by rw[<- T_,(l5 _ es).length_eq,T_]
  have e:(pickOrder (w.params.setOrder a ep) es)[i]? = Δ (pickOrder (w.params.setOrder a ep) es)[i]:=by simp[hl,hi]
  refine t6 (x:=(pickOrder (w.params.setOrder a ep) es)[i].2) (nx:=0) st.1 st.2 D rfl (λA' E' Q' q=>pQ hb st.2 D (by rw[e];exact q)) λh' g b=>?_;exact hQ _ h' s.toks (by rw[D_,aaM,e];rfl) ⟨g,b.extBut a o LH st.2⟩ λc o hc e=>b.extBut c o (λz=>hc (by simp[z])) e
 done:=λs Q E st hQ=>by
  have hl:(pickOrder (w.params.setOrder a ep) es).size=es.size:=by rw[<- T_,(l5 _ es).length_eq,T_]
  have e:(pickOrder (w.params.setOrder a ep) es)[es.size]? = Φ:=by simp[hl]
  exact ua hh st.1 st.2 D rfl (λA' E' Q' q=>pQ hb st.2 D (by rw[e];exact q)) λh' k=>hQ h' s.toks λc o hc e=>k c o (λz=>hc (by simp[z])) e
 self:=λ_ _ _ _ st hQ=>oA st.1 hQ
abbrev pR (t:SetTable):Nat->Nat
 |0=>0
 |i+1=>t.place.getD i 0+1
theorem pS (u:Up t.place)(hi:i<=t.place.size):Cut t.place (pR t i) i:=by
 cases i with
 |zero=>exact⟨hi,λi x h=>absurd h (Nat.not_lt_zero i),λi x _ _=>R_ _⟩
 |succ k=>
  have hk:k < t.place.size:=⋯
  have e:t.place[k]? = Δ t.place[k]:=by simp[hk]
  have eg:t.place.getD k 0=t.place[k]:=by simp[Array.getD,hk]
  refine⟨hi,λj x hj hx=>?_,λj x hj hx=>?_⟩
  ·show x < t.place.getD k 0+1;rw[eg];by_cases q:j=k
   ·subst q;rw[e]at hx;cases hx;omega
   ·have:=u j k x _ ⋯ hx e;omega
  ·show t.place.getD k 0+1<=x;rw[eg];have:=u k j _ x ⋯ e hx;omega
theorem Ff (hh:A.handled=Φ)(hb:jf w=Ξ)(D:KV ky (!jf w) σ o es ep t)(hd:(!t.plain&&decide (es.size > 1))=Ξ)(LH:a≠it) :
  Walks prog w A it [it,a] [it] es.size (λi v=>(vals es)[i]? = Δ v) (λi h=>h.get? it=Δ (Om (rawInt (pR t i)) i es.size a ep)/\h.get? a=Δ o) where
 sub:=λb hb=>by rw[v_.mp hb];exact aaf
 frame:=λ_ _ _ st k=>⟨k it (by simp) _ st.1,k a (by simp) _ st.2⟩
 item:=λi s Q E hi st hQ=>by
  have hz:t.place.size=es.size:=by have:=D.fi;unfold SetTable.fits at this;rw[d_]at this;exact g_ this.1
  have hp:i < t.place.size:=⋯
  have eb:SetTable.below t.place (pR t i)=i:=ub (mP D.tb.up _) (pS D.tb.up (Nat.le_of_lt hp));have e1:es[i]? = Δ (es[i].1,es[i].2):=by simp[hi]
  have e2:t.place[i]? = Δ t.place[i]:=by simp[hp]
  have e3:pR t (i+1)=t.place[i]+1:=by show t.place.getD i 0+1=_;simp[Array.getD,hp]
  refine t6 (x:=es[i].2) (nx:=pR t (i+1)) st.1 st.2 D rfl (λA' E' Q' q=>oq hb st.2 D hd (by rw[eb,e1,e2];rw[e3]at q;exact q)) λh' g b=>?_;exact hQ _ h' s.toks (by rw[D_,aaM,e1];rfl) ⟨g,b.extBut a o LH st.2⟩ λc o hc e=>b.extBut c o (λz=>hc (by simp[z])) e
 done:=λs Q E st hQ=>by
  have hz:t.place.size=es.size:=by have:=D.fi;unfold SetTable.fits at this;rw[d_]at this;exact g_ this.1
  have eb:SetTable.below t.place (pR t es.size)=es.size:=ub (mP D.tb.up _) (pS D.tb.up ⋯);have e1:es[es.size]? = Φ:=by simp
  exact ua hh st.1 st.2 D rfl (λA' E' Q' q=>oq hb st.2 D hd (by rw[eb,e1];exact q)) λh' k=>hQ h' s.toks λc o hc e=>k c o (λz=>hc (by simp[z])) e
 self:=λ_ _ _ _ st hQ=>oA st.1 hQ
theorem Fg (hh:A.handled=Φ)(D:KV ky led σ o es ep t){ps:Ê}(hp:ps.Perm (List.range es.size))(LH:a≠it)(hnT:T≠it) :
  Walks prog w A it [it,a,T] [it] es.size (λi v=>(ps.map λk=>(es.getD k (0,.none)).2)[i]? = Δ v) (λi h=>h.get? it=Δ (Om (.ref T) i es.size a ep)/\h.get? a=Δ o/\h.get? T=Δ (QK ps)) where
 sub:=λb hb=>by rw[v_.mp hb];exact aaf
 frame:=λ_ _ _ st k=>⟨k it (by simp) _ st.1,k a (by simp) _ st.2.1,k T (by simp) _ st.2.2⟩
 item:=λi s Q E hi st hQ=>by
  have hl:ps.length=es.size:=by rw[hp.length_eq,List.length_range]
  have Ms:i < ps.length:=⋯
  have JZ:ps[i] < es.size:=aag.mp (hp.mem_iff.mp (aai Ms));have e1:ps[i]? = Δ ps[i]:=C_ Ms;have e2:es[ps[i]]? = Δ (es[ps[i]].1,es[ps[i]].2):=by simp[JZ]
  refine wZ st.1 st.2.2 st.2.1 D rfl e1 e2 λh' g b=>?_;exact hQ _ h' s.toks (by rw[D_,e1];simp[Array.getD,JZ]) ⟨g,b.extBut a o LH st.2.1,b.extBut T _ hnT st.2.2⟩ λc o hc e=>b.extBut c o (λz=>hc (by simp[z])) e
 done:=λs Q E st hQ=>by
  have hl:ps.length=es.size:=by rw[hp.length_eq,List.length_range]
  exact w8 hh st.1 st.2.2 st.2.1 D rfl (by rw[List.getElem?_eq_none];omega) λh' k=>hQ h' s.toks λc o hc e=>k c o (λz=>hc (by simp[z])) e
 self:=λ_ _ _ _ st hQ=>oA st.1 hQ
end
section
variable {prog:Ε}{w:Β}{α:Type} [DecidableEq α] [Inhabited α]{ky:Ky prog w α}{A:Ι}{E:Ü}{s:Α}{it a T:Ω}{i n ep slot:Nat}{σ:List α}{o:Obj}{es:Array (Int×Ψ)}{t:SetTable}{led:Bool}
structure WK {prog:Ε}{w:Β}{α:Type} [DecidableEq α](ky:Ky prog w α)(A:Ι)(a:Ω)(σ:List α)(h h1:Heap)(it:Ω)(seq:Ï)(n:Nat)(fp:Î)(St:Nat->Heap->Prop):Prop where
 keep:∀b o,h.get? b=Δ o->h1.get? b=Δ o
 new:h.get? it=Φ
 pm:∃ks,Ar ky.mv seq ks/\ks.Perm σ
 ln:seq.length=n
 wk:Walks prog w A it fp [it] n (λi v=>seq[i]? = Δ v) St
 st:St 0 h1
 fps:∀b∈fp,b=a∨h.get? b=Φ
theorem l6 (h:Heap):h.get? h.objs.size=Φ:=by
 cases e:h.get? h.objs.size with
 |none=>rfl
 |some o=>exact absurd (j_ e) (S_ _)
theorem qW (h:Heap)(o:Obj):h.get? (h.push o).objs.size=Φ:=by
 cases e:h.get? (h.push o).objs.size with
 |none=>rfl
 |some o'=>have:=j_ e;rw[W_]at this;exact absurd this (Nat.not_lt.mpr (Nat.le_succ _))
theorem map_range (es:Array (Int×Ψ)):(List.range es.size).map (λk=>(es.getD k (0,.none)).2)=vals es:=by
 apply List.ext_getElem?;intro j;rw[D_,D_];by_cases h:j < es.size
 ·rw[List.getElem?_range h];simp[Array.getD,h]
 ·rw[List.getElem?_eq_none (by simp;omega)];simp[h]
theorem xb (hh:A.handled=Φ)(hS:kU ky s.heap a (!jf w) σ){Q:Ü}(h:∀h1 d it seq n fp St,WK ky A a σ s.heap h1 it seq n fp St->Q (.ref it) {s with heap:=h1,drawn:=d}) :
  Κ (Μ prog w) A (pyIter (.ref a)) Q E s:=by
 obtain⟨o,es,ep,t,ho,D⟩:=hS;obtain⟨ks,k1,k2⟩:=D.pm;have hT:s.TypeIs (.ref a) "set":=⟨_,ho,D.ex.1⟩
 have alt:a < s.heap.objs.size:=j_ ho;refine wpAny_pyIter_slot hT F.slot_set_iter (aaa F.slot_set_iter hT qi ?_ (F.args_set_iter_1 _));show Κ _ _ (Builtin.Frozenset.sizeOf a >>= _) _ _ s;unfold Builtin.Frozenset.sizeOf;refine a_ (a_ (wpAny_setEntries_of ho D.da D.fi (e_ ?_)));have WL:∀ {f:Ψ}{h1:Heap}{d:Drawn}{x:Ω},h1.get? x=Δ (Om f 0 es.size a ep)->Shared.TypeIs {s with heap:=h1,drawn:=d} (.ref x) "set_iterator":=λe=>⟨_,e,rfl⟩
 show Κ _ _ (setDrawn a >>= _) _ _ s;unfold setDrawn;refine a_ (a_ (wpAny_setState_of ho D.da D.fi ?_));dsimp only;refine a_ (nK (e_ ?_));cases hb:jf w with
 |true=>
  show Κ _ _ (if(!Θ&&_)=Θ then _ else _) _ _ _;rw[Bool.not_true,Bool.false_and,f_ A_];refine a_ (e_ (a_ (wpAny_setEpoch_of ho D.da D.fi (a_ (aac ?_ (by size_fits))))));obtain⟨MX,k3,k4⟩:=lX ((l5 (w.params.setOrder a ep) es).map (·.2)) k1;have hl:((pickOrder (w.params.setOrder a ep) es).toList.map (·.2)).length=es.size:=by rw[i_,(l5 _ es).length_eq,T_]
  have W:=Fe (A:=A) (it:=s.heap.objs.size) hh hb D (o_ alt)
  exact e_ ⟨_,rfl,"set_iterator",_,WL (d:=s.drawn) (w_ _ rfl),iA.lookup,h _ s.drawn s.heap.objs.size _ _ _ _
   ⟨λb o e=>m_ _ e,l6 _,⟨MX,k3,k4.trans k2⟩,hl,W,⟨w_ _ rfl,m_ _ ho⟩,λb hb=>by
    rcases k_.mp hb with e|hb
    ·rw[e];exact .inr (l6 _)
    ·exact .inl (v_.mp hb)⟩⟩
 |false=>
  cases hd:(!t.plain&&decide (es.size > 1)) with
  |false=>
   show Κ _ _ (if(!Ξ&&(!t.plain&&decide (es.size > 1)))=Θ then _ else _) _ _ _;rw[hd,Bool.and_false,f_ A_];refine a_ (e_ (a_ (wpAny_setEpoch_of ho D.da D.fi (a_ (aac ?_ (by size_fits))))));have hl:(vals es).length=es.size:=by rw[i_,T_]
   have W:=Ff (A:=A) (it:=s.heap.objs.size) hh hb D hd (o_ alt)
   exact e_ ⟨_,rfl,"set_iterator",_,WL (d:=s.drawn) (w_ _ rfl),iA.lookup,h _ s.drawn s.heap.objs.size _ _ _ _
    ⟨λb o e=>m_ _ e,l6 _,⟨ks,k1,k2⟩,hl,W,⟨w_ _ rfl,m_ _ ho⟩,λb hb=>by
     rcases k_.mp hb with e|hb
     ·rw[e];exact .inr (l6 _)
     ·exact .inl (v_.mp hb)⟩⟩
  |true=>
   show Κ _ _ (if(!Ξ&&(!t.plain&&decide (es.size > 1)))=Θ then _ else _) _ _ _;rw[hd,Bool.not_false,Bool.and_self,h_ rfl];have hz:=fits_of_scanBound D.sb;refine a_ (Ao _ _ _ List.length_range λps d hp=>?_);have WM:ps.length=es.size:=by rw[hp.length_eq,List.length_range]
   have Zd:(s.heap.push (QK ps)).get? a=Δ o:=m_ _ ho;refine a_ (wpAny_newTuple (a_ (wpAny_setEpoch_of Zd D.da D.fi (a_ (aac ?_ (by size_fits))))) (by rw[i_,WM];exact hz));have pv:(ps.map λk=>(es.getD k (0,.none)).2).Perm (vals es):=by rw[<- map_range];exact hp.map _
   obtain⟨MX,k3,k4⟩:=lX pv k1;have hl:(ps.map λk=>(es.getD k (0,.none)).2).length=es.size:=by rw[i_,WM]
   have hsz:(s.heap.push (QK ps)).objs.size=s.heap.objs.size+1:=W_ ..;have W:=Fg (A:=A) (T:=s.heap.objs.size) (it:=(s.heap.push (QK ps)).objs.size) hh D hp (by rw[hsz];exact o_ (Nat.lt_succ_of_lt alt)) (by rw[hsz];exact o_ (Nat.lt_succ_self _))
   exact e_ ⟨_,rfl,"set_iterator",_,WL (d:=d) (w_ _ rfl),iA.lookup,h _ d (s.heap.push (QK ps)).objs.size _ _ _ _
    ⟨λb o e=>m_ _ (m_ _ e),qW _ _,⟨MX,k3,k4.trans k2⟩,hl,W,
     ⟨w_ _ rfl,m_ _ Zd,m_ _ (w_ _ rfl)⟩,λb hb=>by
     rcases k_.mp hb with e|hb
     ·rw[e];exact .inr (qW _ _)
     ·rcases k_.mp hb with e|hb
      ·exact .inl e
      ·rw[v_.mp hb];exact .inr (l6 _)⟩⟩
end
section
variable {prog:Ε}{w:Β}{α:Type} [DecidableEq α] [Inhabited α]{ky:Ky prog w α}{A:Ι}{E:Ü}{s:Α}{a:Ω}{σ:List α}
def xc (hT:s.TypeIs (.ref a) "set") (h:Q Ξ s):Κ (Μ prog w) A (Builtin.List.listLengthHint (.ref a)) Q E s:=by
 unfold Builtin.List.listLengthHint;refine a_ (wpAny_specialOf hT PySem.F.slot_set_len.lookup ?_);generalize MH:("set.__len__" : String)=Ww
 wp_delta
 rw[show splitId Ww=Δ ("set","__len__") from by subst MH;decide +kernel];subst MH;refine a_ (wpAny_isInstance (T:="set") (b:=Θ) hT (by rw[isSubtype_type];kernel_rfl) (wpAny_ite_split (λz=>absurd z nofun) λ_=>wpAny_ite_split (λ_=>?_) λz=>absurd ∅ z));exact a_ (wpAny_typeOf hT (e_ h))
def C9 (h:ItemsOf (λi v=>seq[i]? = Δ v) acc seq.length):acc.toList=seq:=by
 apply List.ext_getElem?;intro j;rw[aaM];by_cases hj:j < acc.size
 ·have e:acc[j]? = Δ acc[j]:=by simp[hj]
  rw[e,h.2 j _ e]
 ·have h1:acc[j]? = Φ:=by simp;omega
  rw[h1,List.getElem?_eq_none (by rw[<- h.1];omega)]
def Ap {R:Result->Α->Prop}(hh:A.handled=Φ)(hS:kU ky s.heap a (!jf w) σ)(S:Ω)(Ze:S≠a)(res:Ψ)(c0:Nat)(hg:s.heap.get? S=Δ {cls:=.type "list",data:=.seq #[] c0}) (hn:σ.length<=Ζ)
  (hR:∀h' tk d acc c,(∀b o,b≠S->s.heap.get? b=Δ o->h'.get? b=Δ o)->h'.get? S=Δ {cls:=.type "list",dict:=Φ,data:=.seq acc c,slots:=#[]}->(∃ks,Ar ky.mv acc.toList ks/\ks.Perm σ)->R (.ok (.ret res)) {s with heap:=h',toks:=tk,drawn:=d}) :
  Κ (Μ prog w) A.in1 (Χ (.ref S) (.ref a) res)
   (λfin s'=>match fin with|.done f=>R (.ok f) s'|.again c'=>c'.quiet=Θ/\codeAny (Μ prog w) A c' R s') (λe s'=>R (.error e) s') s:=by
 have hT:s.TypeIs (.ref a) "set":=by obtain⟨o,es,ep,t,ho,D⟩:=hS;exact⟨o,ho,D.ex.1⟩
 unfold Χ;refine a_ (wpAny_typeOf (T:="set") hT ?_);have h1:Builtin.List.listSameRef (.ref S) (.ref a)=Ξ:=by simp[Builtin.List.listSameRef,Ze]
 rw[f_ (by rw[h1];decide)];refine a_ (xb (A:=A.in1) hh hS λh1 d it seq n fp St C=>?_);have Zf:S∉fp:=λz=>(C.fps S z).elim Ze λe=>by rw[hg]at e;cases e
 have hSi:S≠it:=λz=>by rw[z,C.new]at hg;cases hg
 obtain⟨ks,q1,q2⟩:=C.pm;have hln:n<=Ζ:=by rw[<- C.ln,Ar.length q1,q2.length_eq];exact hn
 have key:∀(h:Heap) (c1 tk:Nat),St 0 h->(∀b o,b≠S->s.heap.get? b=Δ o->h.get? b=Δ o)->h.get? S=Δ {cls:=.type "list",data:=.seq #[] c1}->
   codeAny (Μ prog w) A (.builtin "list.extend.loop" ⟨[.ref S,.ref it,res],[]⟩) R {s with heap:=h,toks:=tk,drawn:=d}:=by
  intro h c1 tk JY hk WG;refine codeAny_extend_loopS C.wk.toS hln S Zf res n 0 _ #[] c1 rfl (R_ _) JY WG (ItemsOf.nil _) λs' acc c hm Lp KG=>?_;rw[Moved.eq_with hm];rw[<- C.ln]at KG;refine hR s'.heap s'.toks d acc c (λb o hb e=>hm.heap b o (λz=>?_) (hk b o hb e)) Lp ⟨ks,by rw[C9 KG];exact q1,q2⟩;rcases k_.mp z with z|z
  ·exact hb z
  ·rw[v_.mp z,C.new]at e;cases e
 have hT1:Shared.TypeIs {s with heap:=h1,drawn:=d} (.ref a) "set":=by obtain⟨o,es,ep,t,ho,D⟩:=hS;exact⟨o,C.keep _ _ ho,D.ex.1⟩
 have g1:=C.keep _ _ hg;refine a_ (L_ (xc hT1 (wpAny_ite_split (λ_=>?_) λ_=>e_ ⟨plainId_quiet PySem.F.plain_extend_loop _,key _ c0 _ C.st (λb o _ e=>C.keep b o e) g1⟩)));refine a_ (wpAny_rule (a_ ?_));show Κ _ _ (updateSeq S (·.push .none) >>= λ_=>updateSeq S (·.pop)) _ _ _;have g2:=aao (ι (·.push Value.none)) g1 rfl;have g3:=aao (ι (·.pop)) g2 rfl;refine a_ (wpAny_updateSeq g1 rfl (wpAny_updateSeq (hz:=by seq_fits) g2 rfl (e_ ⟨plainId_quiet PySem.F.plain_extend_loop _,key _ _ _ ?_ (λb o hb e=>?_) g3⟩)))
 ·refine C.wk.frame 0 _ _ C.st λb hb o e=>?_;have TB:S≠b:=λz=>Zf (z ▸ hb);exact(aah _ _ TB).trans ((aah _ _ TB).trans e)
 ·have TB:S≠b:=λz=>hb z.symm;exact(aah _ _ TB).trans ((aah _ _ TB).trans (C.keep b o e))
end
section
variable {prog:Ε}{w:Β}{α:Type} [DecidableEq α] [Inhabited α]{ky:Ky prog w α}{A:Ι}{E:Ü}{s:Α}{a:Ω}{σ:List α}
def qX {Q:Ï->Α->Prop}(hh:A.handled=Φ)(hS:kU ky s.heap a (!jf w) σ)(hn:σ.length<=Ζ)
  (h:∀h' tk d (acc:Array Ψ),s.heap.objs.size < h'.objs.size->(∀b o,s.heap.get? b=Δ o->h'.get? b=Δ o)->(∃ks,Ar ky.mv acc.toList ks/\ks.Perm σ)->Q acc.toList {s with heap:=h',toks:=tk,drawn:=d}):Κ (Μ prog w) A (collect (.ref a)) Q E s:=by
 have JZ:a < s.heap.objs.size:=by obtain⟨o,es,ep,t,ho,D⟩:=hS;exact j_ ho
 unfold collect;refine a_ (wpAny_runValue (codeAny_builtin entry_proto_collect' ?_));rw[aaN PySem.F.plain_proto_collect _];refine(show Κ _ A.in1 (newList [] >>= λl=>again (.builtin "list.__iadd__" ⟨[l,.ref a],[]⟩)) _ _ s from a_ (aac (e_ ⟨plainId_quiet PySem.F.plain_list_iadd _,codeAny_builtin entry_list_iadd' ?_⟩)));rw[aaN PySem.F.plain_list_iadd _];have g1:(s.heap.push {cls:=.type "list",data:=.seq ([]:Ï).toArray}).get? s.heap.objs.size=Δ {cls:=.type "list",data:=.seq #[]}:=w_ _ rfl;show Κ _ A.in1 (Χ (.ref s.heap.objs.size) (.ref a) (.ref s.heap.objs.size)) _ _ _;have key:=Ap (A:=A) (s:={s with heap:=s.heap.push {cls:=.type "list",data:=.seq ([]:Ï).toArray}})
  (R:=λ(q:Result) (s':Α)=>∃(h':Heap) (tk:Nat) (d:Drawn) (acc:Array Ψ) (c:Nat),q=.ok (.ret (.ref s.heap.objs.size))/\s' = {s with heap:=h',toks:=tk,drawn:=d}/\
   (∀b o,s.heap.get? b=Δ o->h'.get? b=Δ o)/\h'.get? s.heap.objs.size=Δ {cls:=.type "list",dict:=Φ,data:=.seq acc c,slots:=#[]}/\∃ks,Ar ky.mv acc.toList ks/\ks.Perm σ)
  hh (hS.moved λo e=>m_ _ e) s.heap.objs.size (U_ JZ) (.ref s.heap.objs.size) 0 g1 hn
  (λh' tk d acc c hk Lp KG=>⟨h',tk,d,acc,c,rfl,rfl,λb o e=>hk b o (o_ (j_ e)) (m_ _ e),Lp,KG⟩)
 refine wpAny_mono key (λfin s' x=>?_) λe s' x=>?_
 ·cases fin with
  |done f=>obtain⟨h',tk,d,acc,c,e,rfl,hk,Lp,KG⟩:=x;cases e;exact show Κ _ A (load s.heap.objs.size >>= _) _ _ _ from a_ (wpAny_load Lp (e_ (h h' tk d acc (j_ Lp) hk KG)))
  |again c1=>refine⟨x.1,codeAny_mono x.2 λq s2 y=>?_⟩;obtain⟨h',tk,d,acc,c,rfl,rfl,hk,Lp,KG⟩:=y;exact show Κ _ A (load s.heap.objs.size >>= _) _ _ _ from a_ (wpAny_load Lp (e_ (h h' tk d acc (j_ Lp) hk KG)))
 ·obtain⟨_,_,_,_,_,e',_⟩:=x;cases e'
def sH {Q:Ü}(hh:A.handled=Φ)(hS:kU ky s.heap a (!jf w) σ)(Pe:σ.length < 64){Od:List α->Prop}(srt:∀ {A:Ι}{E:Ü}{s:Α}{a:Ω}{vs:Ï}{ss:List α}{n:Nat}{P:Fin->Α->Prop},s.heap.get? a=Δ (seqObj "list" vs.toArray n)->Ar ky.mv vs ss->vs.length < 64->
   (∀(out:Array Ψ) (Pf:List α),Ar ky.mv out.toList Pf->Pf.Perm ss->Od Pf->P (.done (.ret .none)) {s with heap:=sortedHeap s.heap a vs out})->Κ (Μ prog w) A (Builtin.«list.sort» ⟨[.ref a],[]⟩) P E s)
  (h:∀h' tk d D (out:Array Ψ) c RF,(∀b o,s.heap.get? b=Δ o->h'.get? b=Δ o)->s.heap.objs.size<=D->h'.get? D=Δ (seqObj "list" out c)->Ar ky.mv out.toList RF->RF.Perm σ->Od RF->Q (.ref D) {s with heap:=h',toks:=tk,drawn:=d}) :
  Κ (Μ prog w) A (call (.builtin "sorted") [.ref a]) Q E s:=by
 have hz:σ.length<=Ζ:=by rw[sizeLine_eq];omega
 refine Calls.call_function_entry kind_sorted plain_sorted entry_sorted (args_sorted1 _) ?_;unfold Builtin.«sorted»;refine a_ (m:=checkCount "sorted" 1 1 _) (e_ (a_ (qX (A:=A.in1) hh hS hz λh' tk d acc JZ hk KG=>?_)));obtain⟨ks,k1,k2⟩:=KG;have hl:acc.toList.length=σ.length:=by rw[Ar.length k1,k2.length_eq]
 refine a_ (wpAny_newList ?_ (by rw[hl];exact hz));have gL:(h'.push (seqObj "list" acc.toList.toArray 0)).get? h'.objs.size=Δ (seqObj "list" acc.toList.toArray 0):=w_ _ rfl;have nD:s.heap.get? h'.objs.size=Φ:=by
  cases e:s.heap.get? h'.objs.size with
  |none=>rfl
  |some o=>exact absurd (j_ (hk _ _ e)) (S_ _)
 refine a_ (L_ (aaa (s:={s with heap:=h'.push (seqObj "list" acc.toList.toArray 0),toks:=tk,drawn:=d}) slot_list_sort ⟨_,gL,rfl⟩ entry_list_sort (srt (s:={s with heap:=h'.push (seqObj "list" acc.toList.toArray 0),toks:=tk,drawn:=d}) gL k1 (by rw[hl];exact Pe) λout RF a1 a2 a3=>⟨_,rfl,?_⟩) (args_list_sort _)));obtain⟨c,hc⟩:=sortedHeap_at (out:=out) gL;refine e_ ⟨_,rfl,h _ tk d _ out c RF (λb o e=>?_) (Nat.le_of_lt JZ) hc a1 (a2.trans k2) a3⟩;have e1:=m_ (seqObj "list" acc.toList.toArray 0) (hk b o e);rw[sortedHeap_old (λz=>by rw[z,nD]at e;cases e) (j_ e1)];exact e1
end
instance:Inhabited Str:=⟨⟨#[]⟩⟩
abbrev TC (prog:Ε)(w:Β):Ky prog w Int:=⟨intKind prog w,λn t=>.int n t,λn t=>intKind_is prog w n t,λ_ _=>rfl⟩
def Dc:IntsAre vs ns↔Ar (TC prog w).mv vs ns:=by
 constructor
 ·intro h
  induction h with
  |nil=>exact .nil
  |cons n t _ ih=>exact .cons n t ih
 ·intro h
  induction h with
  |nil=>exact .nil
  |cons n t _ ih=>exact .cons n t ih
def HQ (ho:s.heap.get? a=Δ (seqObj "list" vs.toArray n)) (hS:Ar (TC prog w).mv vs ss) (Pe:vs.length < 64)
  (h:∀(out:Array Ψ) (Pf:Ë),Ar (TC prog w).mv out.toList Pf->Pf.Perm ss->Pf.Pairwise (·<=·)->P (.done (.ret .none)) {s with heap:=sortedHeap s.heap a vs out}):Κ (Μ prog w) A (Builtin.«list.sort» ⟨[.ref a],[]⟩) P E s:=
 list_sort_tree ho (Dc.mpr hS) Pe λout Pf a1 a2 a3=>h out Pf (Dc.mp a1) a2 a3
end L2.Se
namespace L2.Sv
open PySem PyProof.Rows
abbrev WN (σ:È)(v:Str):È:=if σ.any (· == v) then σ else σ++[v]
def Dd : @step_dedup Str instBEqOfDecidableEq=WN:=by
 funext σ v;unfold step_dedup WN;have e:(σ.any λx=>@BEq.beq Str instBEqOfDecidableEq x v)=σ.any (· == v):=by congr 1
 rw[e]
def KU (l:È)(σ:È):(l.foldl WN σ).length<=σ.length+l.length:=by rw[<- Dd];exact Se.KU l σ
end L2.Sv
namespace L2
open PySem PySem.Spec PyProof.Rows PySem.SeqAt
abbrev dd (ns:Ë):Ë:=ns.foldl step_dedup []
def xd (ns:Ë):(dd ns).length<=ns.length:=by have:=Se.KU ns [];simpa[dd] using this
abbrev XS:HO:=.ext λ_=>True
def Fh (X:Cx)(σ:Ë)(o:Obj):Prop:=∃es ep t,Se.KV (Se.TC X.prog X.w) (!Se.jf X.w) σ o es ep t
def vC (hc:X.calm=Θ):jX X (.type "set") (λxs H Q=>∃(p:Ω) (ns:Ë),xs=[.ref p]/\K2 X.K H p (ns.map V.int)/\ns.length < 64/\∀a o,H a=Φ->Fh X (dd ns) o->Q (.ref a) (upd H a (.JQ o XS))):=by intro pins s σ H xs us Q I r h;obtain⟨p,ns,rfl,hq,Pe,q⟩:=h;obtain⟨u,rfl,rx⟩:=vals1 r;cases rx;obtain⟨its,rv,pl,hz⟩:=I.list hq;have hi:=intsAre_of rv;have hlen:=rv.length;rw[i_]at hlen;refine Se.wY (ky:=Se.TC X.prog X.w) (I.ok.hd hc) pl.isList (Se.Dc.mp (by simpa using hi)) (by rw[F_];unfold scanBound;omega) λh' tk hS k=>?_;obtain⟨o,es,ep,t,ho,D⟩:=hS;exact⟨.ref _,_,I.laid (t':=tk) (λb u e=>k b u (j_ e) e) (q_ _) (show ji _ _ _ (.JQ o XS) from⟨ho,trivial,⟨_,ho⟩,λ_ _ _ _=>trivial⟩),rfl,q _ o (I.JO.fresh (q_ _)) ⟨es,ep,t,D⟩⟩
def Inv.Pg (I:Inv X pins σ H s)(d:Drawn):Inv X pins σ H {s with drawn:=d}:=⟨I.ok,I.os,I.bare,I.base,I.loc,I.cell,I.free,I.J4,I.pin,I.JO,I.len⟩
def qj (hc:X.calm=Θ):jX X (.builtin "sorted") (λxs H Q=>∃(p:Ω) (o:Obj) (ns:Ë),xs=[.ref p]/\H p=Δ (.JQ o XS)/\Fh X ns o/\ns.length < 64/\∀l,H l=Φ->Q (.ref l) (upd H l (.lst ((PySem.W.sortI ns).map V.int)))):=by
 intro pins s σ H xs us Q I r h;obtain⟨p,o,ns,rfl,hp,⟨es,ep,t,D⟩,Pe,q⟩:=h;obtain⟨u,rfl,rx⟩:=vals1 r;cases rx;have ho:s.heap.get? p=Δ o:=(I.JO p _ hp).1;refine Se.sH (I.ok.hd hc) ⟨o,es,ep,t,ho,D⟩ Pe Se.HQ λh' tk d Dn out c RF k hD e a1 a2 a3=>?_;rw[PySem.W.eq_sortI a2 a3]at a1;have RG:Vals ((PySem.W.sortI ns).map V.int) out.toList:=by
  generalize PySem.W.sortI ns=ms at a1;generalize out.toList=vs at a1
  induction a1 with
  |nil=>exact .nil
  |cons n t _ ih=>exact .cons ⟨t,rfl⟩ ih
 have J:=I.laid (t':=tk) (o:=.lst ((PySem.W.sortI ns).map V.int)) k hD (show ji _ _ _ (.lst _) from⟨by rw[i_,(PySem.W.sortI_perm ns).length_eq,sizeLine_eq];omega,out.toList,c,RG,by simpa using e⟩);exact⟨.ref _,_,J.Pg d,rfl,q _ (I.JO.fresh hD)⟩
inductive D where
 | JF|bl (b:Bool)|int (i:Int)|str (x:Str)|tup (ds:List D)|lst (own:Bool) (ds:List D)|exc (c:Str)
 deriving Inhabited
@[reducible]def _root_.Ð:=List D
mutual
noncomputable def er:D->D
 |.tup ds=>.tup (Jz ds)
 |.lst _ ds=>.lst Ξ (Jz ds)
 |.JF=>.JF
 |.bl b=>.bl b
 |.int i=>.int i
 |.str x=>.str x
 |.exc c=>.exc c
noncomputable def Jz:Ð->Ð
 |[]=>[]
 |d::ds=>er d::Jz ds
end
mutual
noncomputable def iw:D->Bool
 |.tup ds=>ij ds
 |.lst _ _=>Ξ
 |.JF=>Θ
 |.bl _=>Θ
 |.int _=>Θ
 |.str _=>Θ
 |.exc _=>Θ
noncomputable def ij:Ð->Bool
 |[]=>Θ
 |d::ds=>iw d&&ij ds
end
mutual
noncomputable def iM:D->Bool
 |.lst o ds=>o&&jg ds
 |.tup ds=>jg ds
 |.JF=>Θ
 |.bl _=>Θ
 |.int _=>Θ
 |.str _=>Θ
 |.exc _=>Θ
noncomputable def jg:Ð->Bool
 |[]=>Θ
 |d::ds=>iM d&&jg ds
end
theorem i8:∀ds:Ð,Jz ds=ds.map er
 |[]=>rfl
 |d::ds=>by rw[Jz,i8 ds];rfl
theorem jw:∀ds:Ð,ij ds=ds.all iw
 |[]=>rfl
 |d::ds=>by rw[ij,jw ds];rfl
def jh (ds:Ð):(Jz ds).length=ds.length:=by rw[i8,i_]
mutual
theorem xg:∀ {d:D},iw d=Θ->er d=d
 |.JF,_=>rfl
 |.bl _,_=>rfl
 |.int _,_=>rfl
 |.str _,_=>rfl
 |.exc _,_=>rfl
 |.tup ds,h=>by rw[er,jJ (ds:=ds) h]
 |.lst o ds,h=>by cases(show Ξ=Θ from h)
theorem jJ:∀ {ds:Ð},ij ds=Θ->Jz ds=ds
 |[],_=>rfl
 |d::ds,h=>by have h':(iw d&&ij ds)=Θ:=h;rw[d_]at h';rw[Jz,xg h'.1,jJ h'.2]
end
inductive Exc where
 | stuck|exc (c:Str)
@[reducible]def Res (α:Type):=Except Exc α
noncomputable abbrev JE {α:Type}:Res α:=.error .stuck
abbrev II {α β:Type}(x:Res α)(f:α->Res β):Res β:=match x with
 |.ok a=>f a
 |.error e=>.error e
abbrev JA {α:Type}(c:Bool)(x:Res α):Res α:=if c=Θ then x else JE
@[reducible]def _root_.Æ:=Str->Prop
def IP {α:Type}(ex:Æ)(x:Res α)(k:α->Prop):Prop:=match x with
 |.ok a=>k a
 |.error (.exc c)=>ex c
 |.error .stuck=>False
theorem IP.II {α β:Type}{ex:Æ}{x:Res α}{f:α->Res β}{k:β->Prop}(h:IP ex (II x f) k):IP ex x λa=>IP ex (f a) k:=by
 cases x with
 |ok a=>exact h
 |error e=>cases e<;>exact h
theorem IP.JA {α:Type}{ex:Æ}{c:Bool}{x:Res α}{k:α->Prop}(h:IP ex (JA c x) k):c=Θ/\IP ex x k:=by
 unfold L2.JA at h
 induction c using zB with
 |true=>exact⟨rfl,h⟩
 |false=>exact False.elim h
def IP.mono (h:IP ex x k)(m:∀a,k a->k' a):IP ex x k':=by
 cases x with
 |ok a=>exact m a h
 |error e=>cases e<;>exact h
def IP.mk (h:IP ex x λa=>IP ex (f a) k):IP ex (L2.II x f) k:=by
 cases x with
 |ok a=>exact h
 |error e=>cases e<;>exact h
def IP.eq (h:IP ex x k):IP ex x λa=>x=.ok a/\k a:=by
 cases x with
 |ok a=>exact⟨rfl,h⟩
 |error e=>cases e<;>exact h
theorem IP.ok (h:IP ex (.ok a:Res α) k):k a:=h
def IP.no (h:IP ex (JE:Res α) k):False:=h
@[reducible]def LD:=Ñ
noncomputable abbrev LD.o (u:LD):HO:=.lst u
def KL.sq {K:Frag}  (h:KL K a xs):K2 K H a xs:=by obtain⟨its,n,h1,h2,h3⟩:=h;exact .inr ⟨_,its.toArray,n,h1,rfl,rfl,rfl,by simpa using h2,by simpa using h3⟩
def Inv.ls (I:Inv X pins σ H s)(h:Ls X.K H a xs) :
  xs.length<=Ζ/\∃(its:Ï) (n:Nat),Vals xs its/\s.heap.get? a=Δ {cls:=.type "list",data:=.seq its.toArray n}:=by
 rcases h with h|⟨its,n,h1,h2,h3⟩
 ·obtain⟨z,its,n,r,e⟩:=h.ok I.JO;exact⟨z,its,n,r,e⟩
 ·exact⟨by rw[h3.length];exact h2,its,n,h3,I.LV _ _ h1⟩
abbrev nameIn (K:Frag)(C:Ω):Option Str:=match K.lookup C with
 |some ⟨_,_,.cls cd,_⟩=>Δ cd.name
 |_=>Φ
abbrev XU:HO:=.ext λ_=>True
def XO (K:Frag)(H:Hp)(a:Ω)(c:Str):Prop:=∃(C:Ω) (o:Obj) (vs:Array Ψ),PySem.W.nsIn K Η c=Δ (Δ (.ref C))/\nameIn K C=Δ c/\H a=Δ (.JQ o XU)/\o.cls=.ref C/\o.data=.fields vs
def J8 (K:Frag)(H:Hp)(a:Ω):Ñ ⊕ Str->Prop
 |.inl xs=>K0 K H a xs
 |.inr c=>XO K H a c
@[reducible]def _root_.Ç:=Ω->Prop
mutual
inductive IU (K:Frag)(S:Ç)(H:Hp):V->D->Prop where
 | JF:IU K S H .JF .JF
 | bl (b:Bool):IU K S H (.bl b) (.bl b)
 | int (i:Int):IU K S H (.int i) (.int i)
 | str (x:Str):IU K S H (.str x) (.str x)
 | exc {a:Ω}{c:Str}:J8 K H a (.inr c)->IU K S H (.ref a) (.exc c)
 | tup {a:Ω}{xs:Ñ}{ds:Ð}:K0 K H a xs->IM K S H xs ds->IU K S H (.ref a) (.tup ds)
 | lst {a:Ω}{xs:Ñ}{o:Bool}{ds:Ð}:S a->Rd H a (.lst xs)->IM K S H xs ds->IU K S H (.ref a) (.lst o ds)
 | lstK {a:Ω}{xs:Ñ}{o:Bool}{ds:Ð}:KL K a xs->IM K S H xs ds->IU K S H (.ref a) (.lst o ds)
inductive IM (K:Frag)(S:Ç)(H:Hp):Ñ->Ð->Prop where
 | nil:IM K S H [] []
 | cons {v:V}{d:D}{vs:Ñ}{ds:Ð}:IU K S H v d->IM K S H vs ds->IM K S H (v::vs) (d::ds)
end
mutual
inductive JB (K:Frag)(F:Ç)(H:Hp):V->D->Î->Prop where
 | JF:JB K F H .JF .JF []
 | bl (b:Bool):JB K F H (.bl b) (.bl b) []
 | int (i:Int):JB K F H (.int i) (.int i) []
 | str (x:Str):JB K F H (.str x) (.str x) []
 | exc {a:Ω}{c:Str}:J8 K H a (.inr c)->JB K F H (.ref a) (.exc c) []
 | tup {a:Ω}{xs:Ñ}{ds:Ð}{f:Î}:K0 K H a xs->IT K F H xs ds f->JB K F H (.ref a) (.tup ds) f
 | Mg {a:Ω}{xs:Ñ}{ds:Ð}:F a->Rd H a (.lst xs)->IT K F H xs ds []->JB K F H (.ref a) (.lst Ξ ds) []
 | lstK {a:Ω}{xs:Ñ}{ds:Ð}:KL K a xs->IT K F H xs ds []->JB K F H (.ref a) (.lst Ξ ds) []
 | JU {a:Ω}{xs:Ñ}{ds:Ð}{f:Î}:¬F a->H a=Δ (.lst xs)->IT K F H xs ds f->JB K F H (.ref a) (.lst Θ ds) (a::f)
inductive IT (K:Frag)(F:Ç)(H:Hp):Ñ->Ð->Î->Prop where
 | nil:IT K F H [] [] []
 | cons {v:V}{d:D}{f:Î}{vs:Ñ}{ds:Ð}{g:Î}:JB K F H v d f->IT K F H vs ds g->IT K F H (v::vs) (d::ds) (f++g)
end
def ik.rd (e:ik H H')(h:Rd H a u):Rd H' a u:=by
 rcases h with h|⟨o,h⟩
 ·exact .inl (e _ _ h)
 ·exact .inr ⟨o,e _ _ h⟩
def ik.KW {K:Frag}  (e:ik H H')(h:J8 K H a xs):J8 K H' a xs:=by
 cases xs with
 |inl xs=>
  rcases h with h|h
  ·exact .inl (e.rd h)
  ·exact .inr h
 |inr c=>obtain⟨C,o,vs,h0,h1,h2,h3⟩:=h;exact⟨C,o,vs,h0,h1,e _ _ h2,h3⟩
theorem J8.upd {K:Frag}{H:Hp}{a l:Ω}{xs:Ñ ⊕ Str}{ys zs:Ñ}(hl:H l=Δ (.lst ys))(h:J8 K H a xs):J8 K (upd H l (.lst zs)) a xs:=by
 cases xs with
 |inl xs=>
  rcases h with h|h
  ·have:a≠l:=by rintro rfl;rcases h with h|⟨o,h⟩<;>(rw[hl]at h;cases h)
   refine .inl ?_;unfold Rd;rw[ib this];exact h
  ·exact .inr h
 |inr c=>
  obtain⟨C,o,vs,h0,h1,h2,h3⟩:=h;have:a≠l:=by rintro rfl;rw[hl]at h2;cases h2
  exact⟨C,o,vs,h0,h1,by rw[ib this];exact h2,h3⟩
def Rd.some (h:Rd H a u):H a≠Φ:=by rcases h with h|⟨o,h⟩<;>(rw[h];simp)
section
variable {K:Frag}{S S' F F':Ç}{H H':Hp}
def IU.step (hl:∀a (u:LD),S a->Rd H a u.o->S' a/\Rd H' a u.o)(ht:∀a xs,J8 K H a xs->J8 K H' a xs)  (h:IU K S H v d):IU K S' H' v d:=
 IU.rec (motive_1:=λv d _=>IU K S' H' v d) (motive_2:=λv d _=>IM K S' H' v d) .JF .bl .int .str (λh=>.exc (ht _ (.inr _) h)) (λh1 _ i=>.tup (ht _ (.inl _) h1) i)
  (λh0 h1 _ i=>.lst (hl _ _ h0 h1).1 (hl _ _ h0 h1).2 i) (λh1 _ i=>.lstK h1 i) .nil (λ_ _ i j=>.cons i j) h
def IM.step (hl:∀a (u:LD),S a->Rd H a u.o->S' a/\Rd H' a u.o)(ht:∀a xs,J8 K H a xs->J8 K H' a xs)  (h:IM K S H v d):IM K S' H' v d:=
 IM.rec (motive_1:=λv d _=>IU K S' H' v d) (motive_2:=λv d _=>IM K S' H' v d) .JF .bl .int .str (λh=>.exc (ht _ (.inr _) h)) (λh1 _ i=>.tup (ht _ (.inl _) h1) i)
  (λh0 h1 _ i=>.lst (hl _ _ h0 h1).1 (hl _ _ h0 h1).2 i) (λh1 _ i=>.lstK h1 i) .nil (λ_ _ i j=>.cons i j) h
def IU.mono (h:IU K S H v d)(hS:∀a,S a->S' a)(e:ik H H'):IU K S' H' v d:=h.step (λa xs s r=>⟨hS a s,e.rd r⟩) λa xs s=>e.KW s
def IM.mono (h:IM K S H v d)(hS:∀a,S a->S' a)(e:ik H H'):IM K S' H' v d:=h.step (λa xs s r=>⟨hS a s,e.rd r⟩) λa xs s=>e.KW s
def IM.Lb (h:IM K S H v d):IM K (λa=>S a/\H a≠Φ) H v d:=h.step (λa xs s r=>⟨⟨s,r.some⟩,r⟩) λa xs s=>s
def IU.frozen (h:IU K F H v d):JB K F H v (L2.er d) []:=
 IU.rec (motive_1:=λv d _=>JB K F H v (L2.er d) []) (motive_2:=λv d _=>IT K F H v (L2.Jz d) []) .JF .bl .int .str (λh=>.exc h) (λh1 _ i=>.tup h1 i) (λh0 h1 _ i=>.Mg h0 h1 i) (λh1 _ i=>.lstK h1 i) .nil (λ_ _ i j=>.cons (f:=[]) (g:=[]) i j) h
def IM.frozen (h:IM K F H v d):IT K F H v (L2.Jz d) []:=
 IM.rec (motive_1:=λv d _=>JB K F H v (L2.er d) []) (motive_2:=λv d _=>IT K F H v (L2.Jz d) []) .JF .bl .int .str (λh=>.exc h) (λh1 _ i=>.tup h1 i) (λh0 h1 _ i=>.Mg h0 h1 i) (λh1 _ i=>.lstK h1 i) .nil (λ_ _ i j=>.cons (f:=[]) (g:=[]) i j) h
def vD (h:(a&&b)=Θ):a=Θ/\b=Θ:=by rwa [d_]at h
def IU.free (n:iw d=Θ)(h:IU K S H v d):JB K F H v d []:=
 IU.rec (motive_1:=λv d _=>iw d=Θ->JB K F H v d []) (motive_2:=λv d _=>ij d=Θ->IT K F H v d []) (λ_=>.JF) (λb _=>.bl b) (λb _=>.int b) (λb _=>.str b) (λh _=>.exc h) (λh1 _ i n=>.tup h1 (i n)) (λ_ _ _ _ n=>nomatch n) (λ_ _ _ n=>nomatch n) (λ_=>.nil) (λ_ _ i j n=>.cons (f:=[]) (g:=[]) (i (vD n).1) (j (vD n).2)) h n
def IM.free (n:ij d=Θ)(h:IM K S H v d):IT K F H v d []:=
 IM.rec (motive_1:=λv d _=>iw d=Θ->JB K F H v d []) (motive_2:=λv d _=>ij d=Θ->IT K F H v d []) (λ_=>.JF) (λb _=>.bl b) (λb _=>.int b) (λb _=>.str b) (λh _=>.exc h) (λh1 _ i n=>.tup h1 (i n)) (λ_ _ _ _ n=>nomatch n) (λ_ _ _ n=>nomatch n) (λ_=>.nil) (λ_ _ i j n=>.cons (f:=[]) (g:=[]) (i (vD n).1) (j (vD n).2)) h n
def jG {p:Ç}:∀a∈([]:Î),p a:=λ_ h=>nomatch h
def JB.read {v:V}{d:D}{f:Î}(hF:∀a,F a->S a)(hf:∀a∈f,S a)(h:JB K F H v d f):IU K S H v d:=
 JB.rec (motive_1:=λv d f _=>(∀a∈f,S a)->IU K S H v d) (motive_2:=λv d f _=>(∀a∈f,S a)->IM K S H v d) (λ_=>.JF) (λb _=>.bl b) (λb _=>.int b) (λb _=>.str b) (λh _=>.exc h) (λh1 _ i hf=>.tup h1 (i hf))
  (λh0 h1 _ i _=>.lst (hF _ h0) h1 (i jG)) (λh1 _ i _=>.lstK h1 (i jG)) (λ_ h1 _ i hf=>.lst (hf _ (.head _)) (.inl h1) (i λb hb=>hf b (.tail _ hb))) (λ_=>.nil)
  (λ_ _ i j hf=>.cons (i λa ha=>hf a (p_ _ ha)) (j λa ha=>hf a (r_ _ ha))) h hf
def IT.read {v:Ñ}{d:Ð}{f:Î}(hF:∀a,F a->S a)(hf:∀a∈f,S a)(h:IT K F H v d f):IM K S H v d:=
 IT.rec (motive_1:=λv d f _=>(∀a∈f,S a)->IU K S H v d) (motive_2:=λv d f _=>(∀a∈f,S a)->IM K S H v d) (λ_=>.JF) (λb _=>.bl b) (λb _=>.int b) (λb _=>.str b) (λh _=>.exc h) (λh1 _ i hf=>.tup h1 (i hf))
  (λh0 h1 _ i _=>.lst (hF _ h0) h1 (i jG)) (λh1 _ i _=>.lstK h1 (i jG)) (λ_ h1 _ i hf=>.lst (hf _ (.head _)) (.inl h1) (i λb hb=>hf b (.tail _ hb))) (λ_=>.nil)
  (λ_ _ i j hf=>.cons (i λa ha=>hf a (p_ _ ha)) (j λa ha=>hf a (r_ _ ha))) h hf
def nL {α:Type}{x:Option α}{y:α}(h:x=Δ y):x≠Φ:=λe=>nomatch h.symm.trans e
def JB.step (hl:∀a (u:LD),F a->Rd H a u.o->F' a/\Rd H' a u.o)(ht:∀a xs,J8 K H a xs->J8 K H' a xs)  (k:∀a∈f,¬F a->H a≠Φ->¬F' a/\H' a=H a)
  (h:JB K F H v d f):JB K F' H' v d f:=
 JB.rec (motive_1:=λv d f _=>(∀a∈f,¬F a->H a≠Φ->¬F' a/\H' a=H a)->JB K F' H' v d f) (motive_2:=λv d f _=>(∀a∈f,¬F a->H a≠Φ->¬F' a/\H' a=H a)->IT K F' H' v d f) (λ_=>.JF) (λb _=>.bl b) (λb _=>.int b) (λb _=>.str b)
  (λh _=>.exc (ht _ (.inr _) h)) (λh1 _ i k=>.tup (ht _ (.inl _) h1) (i k)) (λh0 h1 _ i _=>.Mg (hl _ _ h0 h1).1 (hl _ _ h0 h1).2 (i jG)) (λh1 _ i _=>.lstK h1 (i jG))
  (λh0 h1 _ i k=>.JU (k _ (.head _) h0 (nL h1)).1 ((k _ (.head _) h0 (nL h1)).2.trans h1) (i λb hb=>k b (.tail _ hb))) (λ_=>.nil)
  (λ_ _ i j k=>.cons (i λa ha=>k a (p_ _ ha)) (j λa ha=>k a (r_ _ ha))) h k
def IT.step (hl:∀a (u:LD),F a->Rd H a u.o->F' a/\Rd H' a u.o)(ht:∀a xs,J8 K H a xs->J8 K H' a xs)  (k:∀a∈f,¬F a->H a≠Φ->¬F' a/\H' a=H a)
  (h:IT K F H v d f):IT K F' H' v d f:=
 IT.rec (motive_1:=λv d f _=>(∀a∈f,¬F a->H a≠Φ->¬F' a/\H' a=H a)->JB K F' H' v d f) (motive_2:=λv d f _=>(∀a∈f,¬F a->H a≠Φ->¬F' a/\H' a=H a)->IT K F' H' v d f) (λ_=>.JF) (λb _=>.bl b) (λb _=>.int b) (λb _=>.str b)
  (λh _=>.exc (ht _ (.inr _) h)) (λh1 _ i k=>.tup (ht _ (.inl _) h1) (i k)) (λh0 h1 _ i _=>.Mg (hl _ _ h0 h1).1 (hl _ _ h0 h1).2 (i jG)) (λh1 _ i _=>.lstK h1 (i jG))
  (λh0 h1 _ i k=>.JU (k _ (.head _) h0 (nL h1)).1 ((k _ (.head _) h0 (nL h1)).2.trans h1) (i λb hb=>k b (.tail _ hb))) (λ_=>.nil)
  (λ_ _ i j k=>.cons (i λa ha=>k a (p_ _ ha)) (j λa ha=>k a (r_ _ ha))) h k
def Fi {p:Ç}  (h:p x)(i:∀a∈f,p a):∀a∈x::f,p a:=by
 intro b hb;rcases k_.mp hb with rfl|hb
 ·exact h
 ·exact i b hb
def Fj {p:Ç}{f g:Î}(h:∀a∈f,p a)(i:∀a∈g,p a):∀a∈f++g,p a:=λb hb=>(t_.mp hb).elim (h b) (i b)
def JB.own (h:JB K F H v d f):∀a∈f,¬F a/\∃u,H a=Δ u:=
 JB.rec (motive_1:=λ_ _ f _=>∀a∈f,¬F a/\∃u,H a=Δ u) (motive_2:=λ_ _ f _=>∀a∈f,¬F a/\∃u,H a=Δ u) jG (λ_=>jG) (λ_=>jG) (λ_=>jG) (λ_=>jG) (λ_ _ i=>i) (λ_ _ _ _=>jG) (λ_ _ _=>jG)
  (λh0 h1 _ i=>Fi ⟨h0,_,h1⟩ i) jG (λ_ _ i j=>Fj i j) h
def IT.own (h:IT K F H v d f):∀a∈f,¬F a/\∃u,H a=Δ u:=
 IT.rec (motive_1:=λ_ _ f _=>∀a∈f,¬F a/\∃u,H a=Δ u) (motive_2:=λ_ _ f _=>∀a∈f,¬F a/\∃u,H a=Δ u) jG (λ_=>jG) (λ_=>jG) (λ_=>jG) (λ_=>jG) (λ_ _ i=>i) (λ_ _ _ _=>jG) (λ_ _ _=>jG)
  (λh0 h1 _ i=>Fi ⟨h0,_,h1⟩ i) jG (λ_ _ i j=>Fj i j) h
theorem mQ:∀ {ds:Ð},ds.all iM=Θ->jg ds=Θ
 |[],_=>rfl
 |d::ds,h=>by rw[List.all_cons,d_]at h;show(iM d&&jg ds)=Θ;rw[h.1,mQ h.2];rfl
mutual
theorem JB.Lr:∀ {v:V}{d:D}{f:Î},JB K F H v d f->iM d=Θ->(∀a∈f,¬F' a)->JB K F' H v d f
 |_,_,_,.JF,_,_=>.JF
 |_,_,_,.bl b,_,_=>.bl b
 |_,_,_,.int i,_,_=>.int i
 |_,_,_,.str x,_,_=>.str x
 |_,_,_,.exc h,_,_=>.exc h
 |_,_,_,.tup h1 h2,n,k=>.tup h1 (IT.Lr h2 n k)
 |_,_,_,.Mg _ _ _,n,_=>nomatch n
 |_,_,_,.lstK _ _,n,_=>nomatch n
 |_,_,_,.JU h0 h1 h2,n,k=>.JU (k _ (.head _)) h1 (IT.Lr h2 n λa ha=>k a (.tail _ ha))
theorem IT.Lr:∀ {v:Ñ}{d:Ð}{f:Î},IT K F H v d f->jg d=Θ->(∀a∈f,¬F' a)->IT K F' H v d f
 |_,_,_,.nil,_,_=>.nil
 |_,_,_,.cons h1 h2,n,k=>.cons (JB.Lr h1 (vD n).1 λa ha=>k a (p_ _ ha)) (IT.Lr h2 (vD n).2 λa ha=>k a (r_ _ ha))
end
def IM.ind {P:Ñ->Ð->Prop}(n:P [] [])(c:∀v d vs ds,IU K S H v d->IM K S H vs ds->P vs ds->P (v::vs) (d::ds))  (h:IM K S H vs ds):P vs ds:=
 IM.rec (motive_1:=λ_ _ _=>True) (motive_2:=λv d _=>P v d) trivial (λ_=>trivial) (λ_=>trivial) (λ_=>trivial) (λ_=>trivial) (λ_ _ _=>trivial) (λ_ _ _ _=>trivial) (λ_ _ _=>trivial) n (λa b _ j=>c _ _ _ _ a b j) h
def IT.ind {P:Ñ->Ð->Î->Prop}(n:P [] [] [])(c:∀v d f vs ds g,JB K F H v d f->IT K F H vs ds g->P vs ds g->P (v::vs) (d::ds) (f++g))  (h:IT K F H vs ds f):P vs ds f:=
 IT.rec (motive_1:=λ_ _ _ _=>True) (motive_2:=λv d f _=>P v d f) trivial (λ_=>trivial) (λ_=>trivial) (λ_=>trivial) (λ_=>trivial) (λ_ _ _=>trivial) (λ_ _ _ _=>trivial) (λ_ _ _=>trivial) (λ_ _ _ _=>trivial) n (λa b _ j=>c _ _ _ _ _ _ a b j) h
theorem IM.length (h:IM K S H vs ds):vs.length=ds.length:=
 IM.ind (P:=λv d=>v.length=d.length) rfl (λ_ _ _ _ _ _ j=>congrArg (· + 1) j) h
def IM.get {i:Nat}{vs:Ñ}{ds:Ð}{d:D}(h:IM K S H vs ds)(e:ds[i]? = Δ d):∃v,vs[i]? = Δ v/\IU K S H v d:=
 IM.ind (P:=λvs ds=>∀i d,ds[i]? = Δ d->∃v,vs[i]? = Δ v/\IU K S H v d) (λi d e=>nomatch (show Φ=Δ d from e)) (λv d _ _ a _ j i d e=>by
  cases i with
  |zero=>exact⟨_,rfl,I_ e ▸ a⟩
  |succ i=>exact j i d e) h i d e
def IM.Oo {i:Nat}{vs:Ñ}{ds:Ð}{v:V}(h:IM K S H vs ds)(e:vs[i]? = Δ v):∃d,ds[i]? = Δ d/\IU K S H v d:=
 IM.ind (P:=λvs ds=>∀i v,vs[i]? = Δ v->∃d,ds[i]? = Δ d/\IU K S H v d) (λi d e=>nomatch (show Φ=Δ d from e)) (λv d _ _ a _ j i d e=>by
  cases i with
  |zero=>exact⟨_,rfl,I_ e ▸ a⟩
  |succ i=>exact j i d e) h i v e
def IM.append (h:IM K S H vs ds)(h':IM K S H ws es):IM K S H (vs++ws) (ds++es):=
 IM.ind (P:=λv d=>IM K S H (v++ws) (d++es)) h' (λ_ _ _ _ a _ j=>.cons a j) h
theorem IM.take (n:Nat)(h:IM K S H vs ds):IM K S H (vs.take n) (ds.take n):=
 IM.ind (P:=λv d=>∀n,IM K S H (v.take n) (d.take n)) (λn=>by cases n<;>exact .nil) (λ_ _ _ _ a _ j n=>by
  cases n with
  |zero=>exact .nil
  |succ n=>exact .cons a (j n)) h n
theorem IM.drop (n:Nat)(h:IM K S H vs ds):IM K S H (vs.drop n) (ds.drop n):=
 IM.ind (P:=λv d=>∀n,IM K S H (v.drop n) (d.drop n)) (λn=>by cases n<;>exact .nil) (λ_ _ _ _ a b j n=>by
  cases n with
  |zero=>exact .cons a b
  |succ n=>exact j n) h n
theorem IT.length (h:IT K F H vs ds f):vs.length=ds.length:=
 IT.ind (P:=λv d _=>v.length=d.length) rfl (λ_ _ _ _ _ _ _ _ j=>congrArg (· + 1) j) h
def IT.append (h:IT K F H vs ds f)(h':IT K F H ws es g):IT K F H (vs++ws) (ds++es) (f++g):=
 IT.ind (P:=λv d f=>IT K F H (v++ws) (d++es) (f++g)) h' (λ_ _ _ _ _ _ a _ j=>by
  rw[E_]
  exact .cons a j) h
def IU.Kj (h:IU K S H v (.lst o ds)):∃a xs,v=.ref a/\K2 K H a xs/\IM K S H xs ds:=by
 cases h with
 |lst h0 h1 h2=>exact⟨_,_,rfl,.inl h1,h2⟩
 |lstK h1 h2=>exact⟨_,_,rfl,h1.sq,h2⟩
def IU.Oq (h:IU K S H v (.lst o ds)):∃a xs,v=.ref a/\Ls K H a xs/\IM K S H xs ds:=by
 cases h with
 |lst h0 h1 h2=>exact⟨_,_,rfl,.inl h1,h2⟩
 |lstK h1 h2=>exact⟨_,_,rfl,.inr h1,h2⟩
def IU.Kc (h:IU K S H v (.tup ds)):∃a xs,v=.ref a/\K0 K H a xs/\IM K S H xs ds:=by
 cases h with
 |tup h1 h2=>exact⟨_,_,rfl,h1,h2⟩
def IU.JN (h:IU K S H v (.int i)):v=.int i:=by cases h;rfl
def IU.OP (h:IU K S H v (.bl i)):v=.bl i:=by cases h;rfl
def IU.Kg (h:IU K S H v (.str i)):v=.str i:=by cases h;rfl
def IU.Mh (h:IU K S H v .JF):v=.JF:=by cases h;rfl
def IM.ints {ns:Ë}(h:IM K S H vs (ns.map .int)):vs=ns.map .int:=
 IM.ind (P:=λv d=>∀ns:Ë,d=ns.map .int->v=ns.map .int) (λns e=>by
  induction ns using zL with
  |nil=>rfl
  |cons n ns=>exact nomatch e) (λ_ _ _ _ a _ j ns e=>by
  induction ns using zL with
  |nil=>exact nomatch e
  |cons n ns=>
   obtain⟨h1,h2⟩:=List.cons.inj e;subst h1;rw[j ns h2,a.JN]
   rfl) h ns rfl
def IM.strs {ns:È}(h:IM K S H vs (ns.map .str)):vs=ns.map .str:=
 IM.ind (P:=λv d=>∀ns:È,d=ns.map .str->v=ns.map .str) (λns e=>by
  induction ns using zL with
  |nil=>rfl
  |cons n ns=>exact nomatch e) (λ_ _ _ _ a _ j ns e=>by
  induction ns using zL with
  |nil=>exact nomatch e
  |cons n ns=>
   obtain⟨h1,h2⟩:=List.cons.inj e;subst h1;rw[j ns h2,a.Kg]
   rfl) h ns rfl
def IM.Zg {ns:List Bool}(h:IM K S H vs (ns.map .bl)):vs=ns.map .bl:=
 IM.ind (P:=λv d=>∀ns:List Bool,d=ns.map .bl->v=ns.map .bl) (λns e=>by
  induction ns using zL with
  |nil=>rfl
  |cons n ns=>exact nomatch e) (λ_ _ _ _ a _ j ns e=>by
  induction ns using zL with
  |nil=>exact nomatch e
  |cons n ns=>
   obtain⟨h1,h2⟩:=List.cons.inj e;subst h1;rw[j ns h2,a.OP]
   rfl) h ns rfl
theorem IM.ofInts:∀(ns:Ë),IM K S H (ns.map .int) (ns.map .int)
 |[]=>.nil
 |n::ns=>.cons (.int n) (IM.ofInts ns)
end
theorem ik.upd {H:Hp}{a:Ω}{o:HO}(h:H a=Φ):ik H (upd H a o):=λb u e=>by rw[ib (iH e h)];exact e
def zD:type_of% @D.casesOn.{0}:=@D.casesOn.{0}
inductive RH where
 | add|sub|mul|fdiv|mod|pow
 deriving DecidableEq
inductive Ot where
 | eq|ne|lt|le|gt|Mu|Mi|RK
 deriving DecidableEq
inductive Kd where
 | str|int|bool|list|tuple
 deriving DecidableEq
inductive Bi where
 | len|min2|max2|tuple|all|any|abs
 deriving DecidableEq
inductive Mt where
 | join
 deriving DecidableEq
inductive Tg where
 | nm (i:Nat)|tp (ts:List Tg)
structure Gm where
 N:È
 kd:List NameKind
 gl:Ê
 df:Bool
 cm:Bool:=Θ
 rs:Bool:=Θ
 tr:Bool:=Ξ
 io:Ã:=Φ
mutual
inductive IR where
 | c (d:D)
 | g (n:Nat) (d:D)
 | v (i:Nat)
 | bin (op:RH) (a b:IR)
 | neg (a:IR)
 | cmp (op:Ot) (a b:IR)
 | chain (op KN:Ot) (a b c:IR)
 | J0 (a b:IR)
 | Ll (a b:IR)
 | KH (a:IR)
 | ite (t a b:IR)
 | tup (es:List IR)
 | lst (es:List IR)
 | idx (a i:IR)
 | sl (a:IR) (lo hi:Option IR)
 | call (f:Nat) (es:List IR)
 | bi (f:Bi) (es:List IR)
 | Lu (a:IR) (k:Kd)
 | Mk (a:IR) (ns:Ê) (tb:List (Str×Bool))
 | Lx (a:IR)
 | Ly (a b:IR)
 | sset (a:IR)
 | P5 (x:Str) (a:IR) (y:Option Str)
 | OQ (m:Mt) (o:IR) (es:List IR)
 | comp (G:Gm) (fr:Ê) (tg:Tg) (src:Sr) (ifs:List IR) (elt:IR)
inductive Sr where
 | J3 (n:IR)|val (e:IR)|zip (a b:IR)
end
@[reducible]def _root_.Í:=List IR
inductive IS where
 | asg (tg:Tg) (e:IR)
 | app (i:Nat) (e:IR)
 | Ph (i j:Nat) (e c x v w:IR)
 | RL (j:Nat) (G:Gm) (fr:Ê) (t:Nat) (s:Sr)
 | exp (e:IR)
 | ret (e:IR)
 | JV (t:IR) (a b:List IS)
 | Kl (tg:Tg) (src:Sr) (body:List IS)
 | P6 (f:Nat) (es:Í) (i:Nat) (es2:Í)
 | Ka (n:Nat) (c:Str) (w:Str)
 | K3 (n:Nat) (c:Str) (e:IR)
 | Mv (body:List IS) (n:Nat) (cs:È) (i:Nat) (h:List IS)
@[reducible]def _root_.Ì:=List IS
@[reducible]def _root_.Å:=Option D
@[reducible]def Ev:=List (Å)
inductive Fl where
 | nx (τ:Ev)|rt (d:D)|bk (τ:Ev)|ct (τ:Ev)
abbrev jY {α:Type}(xs:List α)(lo hi:Option Int):List α:=(xs.drop (HT.J1 xs.length 0 lo)).take (HT.J1 xs.length xs.length hi - HT.J1 xs.length 0 lo)
abbrev jb (n:Nat):Bool:=decide (n<=Ζ)
abbrev ke (n:Nat):Bool:=decide (n < Ζ)
abbrev Lm:RH->D->D->Res D
 |.add,.int a,.int b=>.ok (.int (a+b))
 |.add,.str a,.str b=>JA (jb (a.length+b.length)) (.ok (.str (a++b)))
 |.add,.lst _ a,.lst _ b=>JA (jb (a.length+b.length)) (.ok (.lst Θ (a++b)))
 |.add,.tup a,.tup b=>JA (!a.isEmpty&&jb (a.length+b.length)) (.ok (.tup (a++b)))
 |.sub,.int a,.int b=>.ok (.int (a - b))
 |.mul,.int a,.int b=>JA (decide (-(2 ^ 64) < a/\a < 2 ^ 64)||decide (-(2 ^ 64) < b/\b < 2 ^ 64)) (.ok (.int (a*b)))
 |.mul,.str a,.int b=>JA (decide (-16000<=b/\b<=16000/\a.length<=1000)) (.ok (.str (Txt.mul a b)))
 |.mul,.lst _ a,.int b=>JA (decide (0<=b/\b<=16000/\a.length<=1000)) (.ok (.lst Θ (List.flatten (Τ b.toNat a))))
 |.fdiv,.int a,.int b=>JA (decide (0 < b/\b < 1073741824)) (.ok (.int (a / b)))
 |.mod,.int a,.int b=>JA (decide (0 < b)) (.ok (.int (a % b)))
 |.pow,.int a,.int b=>JA (decide (0<=b/\b<=1000000/\a.natAbs < 2 ^ 64)) (.ok (.int (a ^ b.toNat)))
 |_,_,_=>JE
abbrev iO:D->D->Res D
 |.lst _ ds,.int i=>match KQ ds i with
  |some d=>.ok d
  |none=>JE
 |.tup ds,.int i=>match KQ ds i with
  |some d=>.ok d
  |none=>JE
 |.str z,.int i=>JA (jb z.length) (match KQ z.cps.toList i with
  |some c=>.ok (.str ⟨#[c]⟩)
  |none=>JE)
 |_,_=>JE
abbrev mR:D->Option Int->Option Int->Res D
 |.lst _ ds,lo,hi=>.ok (.lst Θ (jY ds lo hi))
 |.tup ds,lo,hi=>JA (!(decide (HT.J1 ds.length 0 lo=0)&&decide (HT.J1 ds.length ds.length hi=ds.length))) (.ok (.tup (jY ds lo hi)))
 |.str z,lo,hi=>JA (jb z.length) (.ok (.str (Txt.slice z lo hi)))
 |_,_,_=>JE
abbrev iK:D->Res Bool
 |.bl b=>.ok b
 |_=>JE
abbrev j7 (f:D->D->Res Bool):Ð->Ð->Res Bool
 |[],[]=>.ok Θ
 |a::r,b::t=>II (f a b) λx=>II (j7 f r t) λy=>.ok (x&&y)
 |_,_=>.ok Ξ
abbrev Ke:Nat->D->D->Res Bool
 |0,_,_=>JE
 |_+1,.exc _,_=>JE
 |_+1,_,.exc _=>JE
 |_+1,.JF,.JF=>.ok Θ
 |_+1,.JF,_=>.ok Ξ
 |_+1,.bl a,.bl b=>.ok (a == b)
 |_+1,.bl a,.int b=>.ok ((if a then 1 else 0) == b)
 |_+1,.bl _,_=>.ok Ξ
 |_+1,.int a,.bl b=>.ok (a == (if b then 1 else 0))
 |_+1,.int a,.int b=>.ok (a == b)
 |_+1,.int _,_=>.ok Ξ
 |_+1,.str a,.str b=>.ok (a == b)
 |_+1,.str _,_=>.ok Ξ
 |n+1,.tup a,.tup b=>j7 (Ke n) a b
 |_+1,.tup _,_=>.ok Ξ
 |n+1,.lst _ a,.lst _ b=>j7 (Ke n) a b
 |_+1,.lst _ _,_=>.ok Ξ
abbrev Kb (d:D):Ð->Res Bool
 |[]=>.ok Ξ
 |e::r=>II (Ke 40 e d) λx=>II (Kb d r) λy=>.ok (x||y)
abbrev jz (x y:Str):Bool:=!(Builtin.Str.occurrences x y 0 x.length 1).isEmpty
abbrev pT:D->Bool
 |.JF=>Θ
 |_=>Ξ
abbrev l7:D->Bool
 |.exc _=>Ξ
 |_=>Θ
abbrev Lc:Ot->D->D->Res Bool
 |.eq,a,b=>Ke 40 a b
 |.ne,a,b=>II (Ke 40 a b) λr=>.ok !r
 |.lt,.int a,.int b=>.ok (decide (a < b))
 |.le,.int a,.int b=>.ok (decide (a<=b))
 |.gt,.int a,.int b=>.ok (decide (b < a))
 |.Mu,.str y,.str x=>.ok (jz x y)
 |.Mi,.str y,.str x=>.ok (!jz x y)
 |.Mu,a,.lst _ ds=>Kb a ds
 |.Mi,a,.lst _ ds=>II (Kb a ds) λr=>.ok !r
 |.Mi,a,.tup ds=>II (Kb a ds) λr=>.ok !r
 |.RK,a,.JF=>.ok (pT a)
 |_,_,_=>JE
abbrev kf:Ð->Option (Ë)
 |[]=>Δ []
 |.int i::r=>(kf r).map (i::·)
 |_::_=>Φ
abbrev kg:Ð->Option (È)
 |[]=>Δ []
 |.str i::r=>(kg r).map (i::·)
 |_::_=>Φ
abbrev jR:Ð->Option (List Bool)
 |[]=>Δ []
 |.bl i::r=>(jR r).map (i::·)
 |_::_=>Φ
abbrev jE:Kd->D->Bool
 |.str,.str _=>Θ
 |.int,.int _=>Θ
 |.int,.bl _=>Θ
 |.bool,.bl _=>Θ
 |.list,.lst _ _=>Θ
 |.tuple,.tup _=>Θ
 |_,_=>Ξ
abbrev De (tb:List (Str×Bool)):D->Res D
 |.exc c=>match tb.lookup c with
  |some b=>.ok (.bl b)
  |none=>JE
 |_=>JE
abbrev jo (x:Str):Ð:=x.cps.toList.map λc=>.str ⟨#[c]⟩
abbrev HR:Bi->D->Res D
 |.len,.str x=>JA (jb x.length) (.ok (.int x.length))
 |.len,.tup ds=>.ok (.int ds.length)
 |.len,.lst _ ds=>.ok (.int ds.length)
 |.all,.lst _ ds=>match jR ds with
  |some bs=>.ok (.bl (bs.all id))
  |none=>JE
 |.any,.lst _ ds=>match jR ds with
  |some bs=>.ok (.bl (bs.any id))
  |none=>JE
 |.abs,.int i=>.ok (.int (if i < 0 then -i else i))
 |_,_=>JE
abbrev HU:Bi->D->D->Res D
 |.min2,.int a,.int b=>.ok (.int (if b < a then b else a))
 |.max2,.int a,.int b=>.ok (.int (if b > a then b else a))
 |_,_,_=>JE
abbrev lC (f:Bi):Ð->Res D
 |[d]=>HR f d
 |[d,e]=>HU f d e
 |_=>JE
abbrev lL:D->Bool
 |.str _=>Θ
 |_=>Ξ
abbrev pC:Mt->D->Ð->Res D
 |.join,.str x,[.lst _ ds]=>match kg ds with
  |some ys=>JA (decide ((ys.map (·.length)).sum+ys.length*x.length<=16777216)) (.ok (.str (Txt.join x ys)))
  |none=>JE
 |_,_,_=>JE
abbrev mS:D->Res (Ð)
 |.lst _ ds=>.ok ds
 |.tup ds=>.ok ds
 |.str x=>JA (jb x.length) (.ok (jo x))
 |_=>JE
abbrev pD:D->Res (Ð)
 |.lst _ ds=>.ok ds
 |.tup ds=>.ok ds
 |_=>JE
abbrev jZ (ds es:Ð):Ð:=List.zipWith (λa b=>.tup [a,b]) ds es
abbrev oC (x y:D):Res (Ð):=II (pD x) λds=>II (pD y) λes=>.ok (jZ ds es)
abbrev uc (x y:D):Res D:=II (oC x y) λds=>JA (jb ds.length) (.ok (.lst Θ ds))
abbrev iU (a b:Int):Ð:=(List.range (b - a).toNat).map λk=>.int (a+(k:Nat))
abbrev Aq:D->Res D
 |.lst _ ds=>.ok (.lst Θ ds.reverse)
 |_=>JE
abbrev ud:D->Res D
 |.lst _ ds=>match kf ds with
  |some ns=>JA (decide (ns.length < 64)) (.ok (.lst Θ ((PySem.W.sortI (dd ns)).map .int)))
  |none=>JE
 |_=>JE
abbrev vE (x:Str)(y:Option Str):D->Res D
 |.str z=>JA (jb (x.length+(reprText z).length+(y.getD Str.empty).length)) (.ok (.str (x++reprText z++y.getD Str.empty)))
 |_=>JE
abbrev nu (i:Int):Bool:=decide (-(2 ^ 62)<=i/\i < 2 ^ 62)
abbrev iz {α β:Type}(f:α->Res (Option β)):List α->Res (List β)
 |[]=>.ok []
 |x::xs=>II (f x) λ
  |some d=>II (iz f xs) λr=>.ok (d::r)
  |none=>iz f xs
abbrev Lv {α:Type}:Res α->Res α
 |.error _=>JE
 |.ok a=>.ok a
mutual
noncomputable def jq:Tg->D->Ev->Res Ev
 |.nm i,d,τ=>.ok (τ.set i (Δ d))
 |.tp ts,.tup ds,τ=>JA (decide (ds.length=ts.length)) (lG ts ds τ)
 |.tp ts,.lst _ ds,τ=>JA (decide (ds.length=ts.length)) (lG ts ds τ)
 |.tp _,_,_=>JE
noncomputable def lG:List Tg->Ð->Ev->Res Ev
 |t::ts,d::ds,τ=>II (jq t d τ) λτ'=>lG ts ds τ'
 |[],[],τ=>.ok τ
 |_,_,_=>JE
end
abbrev ic (τ:Ev)(i:Nat):Å:=(τ[i]?).join
mutual
noncomputable def vars:IR->Ê
 |.c _=>[]
 |.g _ _=>[]
 |.v i=>[i]
 |.bin _ a b=>vars a++vars b
 |.neg a=>vars a
 |.cmp _ a b=>vars a++vars b
 |.chain _ _ a b c=>vars a++vars b++vars c
 |.J0 a b=>vars a++vars b
 |.Ll a b=>vars a++vars b
 |.KH a=>vars a
 |.ite t a b=>vars t++vars a++vars b
 |.tup es=>ie es
 |.lst es=>ie es
 |.idx a i=>vars a++vars i
 |.sl a lo hi=>vars a++xh lo++xh hi
 |.call _ es=>ie es
 |.bi _ es=>ie es
 |.Lu a _=>vars a
 |.Mk a _ _=>vars a
 |.Lx a=>vars a
 |.Ly a b=>vars a++vars b
 |.sset a=>vars a
 |.P5 _ a _=>vars a
 |.OQ _ o es=>vars o++ie es
 |.comp _ fr _ src _ _=>fr++j9 src
noncomputable def ie:Í->Ê
 |[]=>[]
 |e::es=>vars e++ie es
noncomputable def xh:Option IR->Ê
 |none=>[]
 |some e=>vars e
noncomputable def j9:Sr->Ê
 |.J3 n=>vars n
 |.val e=>vars e
 |.zip a b=>vars a++vars b
end
@[reducible]def _root_.Ä:=Nat->Ð->Res D
mutual
noncomputable def IV (cl:Ä):IR->Ev->Res D
 |.c d,_=>.ok d
 |.g _ d,_=>.ok d
 |.v i,τ=>match ic τ i with
  |some d=>.ok d
  |none=>JE
 |.bin op a b,τ=>II (IV cl a τ) λx=>II (IV cl b τ) λy=>Lm op x y
 |.neg a,τ=>II (IV cl a τ) λ
  |.int i=>.ok (.int (-i))
  |_=>JE
 |.cmp op a b,τ=>II (IV cl a τ) λx=>II (IV cl b τ) λy=>II (Lc op x y) λr=>.ok (.bl r)
 |.chain op KN a b c,τ=>II (IV cl a τ) λx=>II (IV cl b τ) λy=>II (Lc op x y) λr=>
  if r=Θ then II (IV cl c τ) λz=>II (Lc KN y z) λr'=>.ok (.bl r') else .ok (.bl Ξ)
 |.J0 a b,τ=>II (IV cl a τ) λx=>II (iK x) λr=>if r=Θ then IV cl b τ else .ok x
 |.Ll a b,τ=>II (IV cl a τ) λx=>II (iK x) λr=>if r=Θ then .ok x else IV cl b τ
 |.KH a,τ=>II (IV cl a τ) λx=>II (iK x) λr=>.ok (.bl !r)
 |.ite t a b,τ=>II (IV cl t τ) λx=>II (iK x) λr=>if r=Θ then IV cl a τ else IV cl b τ
 |.tup es,τ=>II (iG cl es τ) λds=>JA (jb ds.length) (.ok (.tup ds))
 |.lst es,τ=>II (iG cl es τ) λds=>JA (jb ds.length) (.ok (.lst Θ ds))
 |.idx a i,τ=>II (IV cl a τ) λx=>II (IV cl i τ) λy=>iO x y
 |.sl a lo hi,τ=>II (IV cl a τ) λx=>II (qk cl lo τ) λl=>II (qk cl hi τ) λh=>mR x l h
 |.call f es,τ=>II (iG cl es τ) λds=>cl f (Jz ds)
 |.bi f es,τ=>II (iG cl es τ) λds=>lC f ds
 |.Lu a k,τ=>II (IV cl a τ) λx=>JA (l7 x) (.ok (.bl (jE k x)))
 |.Mk a _ tb,τ=>II (IV cl a τ) (De tb)
 |.Lx a,τ=>II (IV cl a τ) Aq
 |.Ly a b,τ=>II (IV cl a τ) λx=>II (IV cl b τ) λy=>uc x y
 |.sset a,τ=>II (IV cl a τ) ud
 |.P5 x a y,τ=>II (IV cl a τ) (vE x y)
 |.OQ m o es,τ=>II (IV cl o τ) λx=>JA (lL x) (II (iG cl es τ) λds=>pC m x ds)
 |.comp G fr tg src ifs elt,τ=>II (kl cl src τ) λits=>JA (ke its.length) (II (Lv (iz (λx=>II (jq tg x (fr.map (ic τ)++Τ (G.N.length - fr.length) Φ)) λPj=>
   II (kj cl ifs Pj) λr=>if r=Θ then II (IV cl elt Pj) λd=>.ok (Δ d) else .ok Φ) its)) λds=>.ok (.lst Θ ds))
noncomputable def iG (cl:Ä):Í->Ev->Res (Ð)
 |[],_=>.ok []
 |e::es,τ=>II (IV cl e τ) λd=>II (iG cl es τ) λds=>.ok (d::ds)
noncomputable def qk (cl:Ä):Option IR->Ev->Res (Option Int)
 |none,_=>.ok Φ
 |some e,τ=>II (IV cl e τ) λ
  |.int i=>.ok (Δ i)
  |_=>JE
noncomputable def kj (cl:Ä):Í->Ev->Res Bool
 |[],_=>.ok Θ
 |e::es,τ=>II (II (IV cl e τ) iK) λr=>if r=Θ then kj cl es τ else .ok Ξ
noncomputable def kl (cl:Ä):Sr->Ev->Res (Ð)
 |.J3 n,τ=>II (IV cl n τ) λ
  |.int i=>JA (nu i) (.ok (iU 0 i))
  |_=>JE
 |.val e,τ=>II (IV cl e τ) mS
 |.zip a b,τ=>II (IV cl a τ) λx=>II (IV cl b τ) λy=>oC x y
end
abbrev ND (cl:Ä)(t:IR)(τ:Ev):Res Bool:=II (IV cl t τ) iK
abbrev mT (is:Ê):Nat->Ev->Ev
 |_,[]=>[]
 |k,o::τ=>(if is.contains k then o.map er else o)::mT is (k+1) τ
noncomputable abbrev JQ (is:Ê)(τ:Ev):Ev:=mT is 0 τ
abbrev iL : IR->Bool
 |.bin .add _ _=>Θ
 |.sl _ _ _=>Θ
 |.comp _ _ _ _ _ _=>Θ
 |_=>Ξ
abbrev isCall:IR->Bool
 |.call _ [.v _]=>Θ
 |_=>Ξ
abbrev kW:IR->Ð->Bool
 |.comp _ _ _ _ _ elt,ds=>isCall elt&&ds.all iM
 |_,_=>Ξ
abbrev As:IR->Bool
 |.comp _ _ _ _ _ elt=>!isCall elt
 |_=>Θ
abbrev Kc (p:D×Ev):Res (D×Ev):=match p.1 with
 |.lst _ ds=>.ok (.tup ds,p.2)
 |_=>JE
abbrev iJ (e:IR)(d:D)(τ:Ev):D×Ev:=
 if iw d=Θ then(d,τ)
 else match iL e,d with
  |true,.lst _ ds=>if ij ds=Θ then(.lst Θ ds,τ) else if kW e ds=Θ then(.lst Θ ds,τ) else(.lst Θ (Jz ds),JQ (vars e) τ)
  |_,_=>(er d,JQ (vars e) τ)
mutual
noncomputable def Kx (cl:Ä)(mv:Bool):IR->Ev->Res (D×Ev)
 |.v i,τ=>match ic τ i with
  |some d=>if mv=Θ then .ok (d,τ.set i Φ) else .ok (er d,τ.set i (Δ (er d)))
  |none=>JE
 |.tup es,τ=>II (pE cl mv es τ) λp=>JA (jb p.1.length) (.ok (.tup p.1,p.2))
 |.lst es,τ=>II (pE cl mv es τ) λp=>JA (jb p.1.length) (.ok (.lst Θ p.1,p.2))
 |.ite t a b,τ=>II (ND cl t τ) λr=>if r=Θ then Kx cl mv a τ else Kx cl mv b τ
 |.call f es,τ=>II (iG cl es τ) λds=>II (cl f (Jz ds)) λd=>if iM d=Θ then .ok (d,τ) else .ok (d,JQ (ie es) τ)
 |.bi .tuple [e],τ=>II (Kx cl mv e τ) Kc
 |e,τ=>II (IV cl e τ) λd=>.ok (iJ e d τ)
noncomputable def pE (cl:Ä)(mv:Bool):Í->Ev->Res (Ð×Ev)
 |[],τ=>.ok ([],τ)
 |e::es,τ=>II (Kx cl mv e τ) λp=>II (pE cl mv es p.2) λq=>.ok (p.1::q.1,q.2)
end
abbrev forM (body:D->Ev->Res Fl):Ð->Ev->Res Fl
 |[],τ=>.ok (.nx τ)
 |x::xs,τ=>II (body x τ) λ
  |.nx τ'=>forM body xs τ'
  |.ct τ'=>forM body xs τ'
  |.bk τ'=>.ok (.nx τ')
  |.rt d=>.ok (.rt d)
abbrev sI (cl:Ä)(s:Sr)(τ:Ev):Res (Ð×Ev):=II (kl cl s τ) λits=>match s with
 |.J3 _=>.ok (its,τ)
 |s=>.ok (Jz its,JQ (j9 s) τ)
mutual
noncomputable def jH:D->Bool
 |.lst o ds=>!o&&iE ds
 |.tup ds=>iE ds
 |_=>Θ
noncomputable def iE:Ð->Bool
 |[]=>Θ
 |d::ds=>jH d&&iE ds
end
abbrev l8:D->D
 |.tup [.lst Θ cs,o]=>.tup [.lst Θ (Jz cs),er o]
 |d=>er d
abbrev qY (i:Nat)(τ:Ev):D->Res Fl
 |.tup [.JF,.lst Θ ds]=>.ok (.nx (τ.set i (Δ (.lst Θ ds))))
 |_=>JE
abbrev Au (j:Nat)(τ:Ev)(its:Ð):Res Fl:=JA (ke its.length) (.ok (.nx (τ.set j (Δ (.lst Θ (Τ (its.length+1) (.lst Θ [])))))))
abbrev nG:Ev->Nat->Bool
 |[],_=>Ξ
 |_::_,0=>Θ
 |_::τ,j+1=>nG τ j
abbrev Av (i j k:Nat)(ds es:Ð)(τ:Ev)(d:D):D->Res Fl
 |.int z=>(match Kv es.length z with
  |some t=>JA (iw d) (.ok (.nx ((τ.set i (Δ (.lst Θ (ds.set k (.lst Θ (es.set t d)))))).set j Φ)))
  |none=>JE)
 |_=>JE
abbrev Df (i j k:Nat)(ds es:Ð)(τ:Ev)(d:D):Res Fl:=JA (iw d&&ke es.length) (.ok (.nx ((τ.set i (Δ (.lst Θ (ds.set k (.lst Θ (es++[d])))))).set j Φ)))
abbrev vF (cl:Ä)(i j k:Nat)(x v w:IR)(ds es:Ð)(τ:Ev)(r:Bool):Res Fl:=
 if r=Θ then II (IV cl v (τ.set j (Δ (.lst Θ es)))) λd=>II (IV cl x (τ.set j (Δ (.lst Θ es)))) (Av i j k ds es τ d)
 else II (IV cl w (τ.set j (Δ (.lst Θ es)))) (Df i j k ds es τ)
abbrev sJ (cl:Ä)(i j:Nat)(c x v w:IR)(ds:Ð)(τ:Ev):Ã->Res Fl
 |some k=>(match ds[k]? with
  |some (.lst Θ es)=>JA (ij es&&nG τ j) (II (II (IV cl c (τ.set j (Δ (.lst Θ es)))) iK) (vF cl i j k x v w ds es τ))
  |_=>JE)
 |none=>JE
abbrev Aw (cl:Ä)(i j:Nat)(c x v w:IR)(ds:Ð)(τ:Ev):D->Res Fl
 |.int z=>sJ cl i j c x v w ds τ (Kv ds.length z)
 |_=>JE
abbrev xj (cl:Ä)(i j:Nat)(e c x v w:IR)(τ:Ev):Å->Res Fl
 |some (.lst Θ ds)=>II (IV cl e τ) (Aw cl i j c x v w ds τ)
 |_=>JE
mutual
noncomputable def K1 (cl:Ä):IS->Ev->Res Fl
 |.asg tg e,τ=>II (Kx cl Ξ e τ) λp=>II (jq tg p.1 p.2) λτ'=>.ok (.nx τ')
 |.app i e,τ=>match ic τ i with
  |some (.lst _ _)=>II (Kx cl Ξ e τ) λp=>(match ic p.2 i with
   |some (.lst Θ ds)=>JA (ke ds.length) (.ok (.nx (p.2.set i (Δ (.lst Θ (ds++[p.1]))))))
   |_=>JE)
  |_=>JE
 |.RL j _ _ _ s,τ=>II (kl cl s τ) (Au j τ)
 |.Ph i j e c x v w,τ=>xj cl i j e c x v w τ (ic τ i)
 |.exp e,τ=>II (IV cl e τ) λ_=>.ok (.nx τ)
 |.ret e,τ=>II (Kx cl Θ e τ) λp=>.ok (.rt p.1)
 |.JV t a b,τ=>II (ND cl t τ) λr=>if r=Θ then iD cl a τ else iD cl b τ
 |.Kl tg s body,τ=>II (sI cl s τ) λp=>forM (λx τ=>II (jq tg x τ) λτ'=>iD cl body τ') p.1 p.2
 |.P6 f es i es2,τ=>match ic τ i with
  |some (.lst Θ ds)=>II (iG cl es τ) λas=>II (iG cl es2 τ) λbs=>II (Lv (cl f (Jz as++.lst Θ (ds.map l8)::Jz bs))) (qY i (JQ (ie es++ie es2) τ))
  |_=>JE
 |.Ka _ c _,_=>.error (.exc c)
 |.K3 _ c e,τ=>II (Lv (IV cl e τ)) λ_=>.error (.exc c)
 |.Mv body _ cs i h,τ=>match iD cl body τ with
  |.ok (.nx τ')=>.ok (.nx τ')
  |.error (.exc c)=>JA (cs.contains c) (II (Lv (iD cl h ((Τ τ.length Φ).set i (Δ (.exc c))))) λ
   |.nx τ'=>.ok (.nx (τ'.set i Φ))
   |_=>JE)
  |_=>JE
noncomputable def iD (cl:Ä):Ì->Ev->Res Fl
 |[],τ=>.ok (.nx τ)
 |s::r,τ=>II (K1 cl s τ) λ
  |.nx τ'=>iD cl r τ'
  |.ct τ'=>.ok (.ct τ')
  |.bk τ'=>.ok (.bk τ')
  |.rt d=>.ok (.rt d)
end
inductive BR where
 | KP (i:Nat) (e:IR)
 | item (tg:Tg) (i:Nat) (e:IR)
 | row (o:Nat) (e:IR)
 | NF (t:IR)
inductive BE where
 | wa (s e:IR)
 | wb (a e:IR)
 | sub (f:Nat) (es es2:Í)
 | ch (t:IR) (pre:List BR) (x y:BE)
structure BK where
 c:Nat
 pre:List BR
 en:BE
@[reducible]def Lz:=Ev×Ã
abbrev jA (τ:Ev)(is:Ê):Bool:=is.all λi=>match ic τ i with
 |some d=>jH d
 |none=>Θ
abbrev OR (n:Nat):D->Ã
 |.int z=>Kv n z
 |_=>Φ
abbrev HV (i:Nat)(e:IR)(p:Lz)(d:D):Res (Option Lz):=JA (iw d||jA p.1 (vars e)) (.ok (Δ (p.1.set i (Δ (er d)),p.2)))
abbrev Ax (tg:Tg)(p:Lz):Å->D->Res (Option Lz)
 |some (.lst Θ ds),y=>(match(OR ds.length y).bind (ds[·]?) with
  |some d=>II (jq tg d p.1) λτ'=>.ok (Δ (τ',p.2))
  |none=>JE)
 |_,_=>JE
abbrev ue (c o:Nat)(p:Lz)(k:Nat):Å->Res (Option Lz)
 |some (.tup [.lst Θ cs,d])=>JA (nG p.1 c) (.ok (Δ ((p.1.set c (Δ (.lst Θ cs))).set o (Δ d),Δ k)))
 |_=>JE
abbrev Ay (c o:Nat)(p:Lz):Å->D->Res (Option Lz)
 |some (.lst Θ ds),y=>(match OR ds.length y with
  |some k=>ue c o p k ds[k]?
  |none=>JE)
 |_,_=>JE
abbrev km (cl:Ä)(c:Nat):BR->Lz->Res (Option Lz)
 |.KP i e,p=>II (IV cl e p.1) (HV i e p)
 |.item tg i e,p=>II (IV cl e p.1) (Ax tg p (ic p.1 i))
 |.row o e,p=>II (IV cl e p.1) (Ay c o p (ic p.1 2))
 |.NF t,p=>II (ND cl t p.1) λb=>.ok (if b=Θ then Φ else Δ p)
abbrev early (p:Lz):Res D:=match ic p.1 2 with
 |some d=>.ok d
 |none=>JE
abbrev Fm (p:Lz)(k:Lz->Res D):Option Lz->Res D
 |none=>early p
 |some p'=>k p'
abbrev jS (cl:Ä)(c:Nat):List BR->(Lz->Res D)->Lz->Res D
 |[],k,p=>k p
 |b::bs,k,p=>II (km cl c b p) (Fm p (jS cl c bs k))
abbrev WO (rows:Ð)(k:Nat)(j x:D)(gd:Bool):Å->Res D
 |some (.tup [.lst Θ cs,o])=>(match OR cs.length j with
  |some m=>JA (gd&&iE cs&&jH o) (.ok (.lst Θ (rows.set k (.tup [.lst Θ (cs.set m x),o]))))
  |none=>JE)
 |_=>JE
abbrev RM (p:Lz)(e:IR)(d j:D):Å->Res D
 |some (.lst Θ rows)=>(match p.2 with
  |some k=>WO rows k j (er d) (iw d||jA p.1 (vars e)) rows[k]?
  |none=>JE)
 |_=>JE
abbrev WQ (rows:Ð)(k:Nat)(x:D)(gd:Bool):Å->Res D
 |some (.tup [.lst Θ cs,o])=>JA (gd&&iE cs&&jH o) (.ok (.lst Θ (rows.set k (.tup [.lst Θ cs,x]))))
 |_=>JE
abbrev RP (p:Lz)(e:IR)(d y:D):Å->Res D
 |some (.lst Θ rows)=>(match p.2 with
  |some k=>WQ rows k (er d) ((iw d||jA p.1 (vars e))&&decide (OR rows.length y=Δ k)) rows[k]?
  |none=>JE)
 |_=>JE
abbrev Dg:D->Res D
 |.tup [.JF,.lst Θ ds]=>.ok (.lst Θ ds)
 |_=>JE
abbrev vG (cl:Ä)(f:Nat)(as bs:Ð)(gd:Bool):Å->Res D
 |some (.lst Θ rows)=>JA gd (II (Lv (cl f (Jz as++.lst Θ rows::Jz bs))) Dg)
 |_=>JE
abbrev j8 (cl:Ä)(c:Nat):BE->Lz->Res D
 |.wa s e,p=>II (IV cl e p.1) λd=>II (IV cl s p.1) λj=>RM p e d j (ic p.1 2)
 |.wb a e,p=>II (IV cl e p.1) λd=>II (IV cl a p.1) λy=>RP p e d y (ic p.1 2)
 |.sub f es es2,p=>II (iG cl es p.1) λas=>II (iG cl es2 p.1) λbs=>vG cl f as bs (jA p.1 (ie es++ie es2)) (ic p.1 2)
 |.ch t pre x y,p=>II (ND cl t p.1) λb=>if b=Θ then jS cl c pre (j8 cl c x) p else j8 cl c y p
structure Fn where
 np:Nat
 G:Gm
 body:Ì
 io:Bool:=Ξ
 KY:BK:=⟨0,[],.sub 0 [] []⟩
abbrev kP (cl:Ä)(fn:Fn)(ds:Ð):Res D:=
 JA (decide (ds.length=fn.np)) (II (iD cl fn.body (ds.map Δ++Τ (fn.G.N.length - fn.np) Φ)) λ
  |.nx _=>.ok .JF
  |.rt d=>.ok d
  |_=>JE)
abbrev kQ (cl:Ä)(fn:Fn)(ds:Ð):Res D:=
 JA (decide (ds.length=fn.np)) (II (jS cl fn.KY.c fn.KY.pre (j8 cl fn.KY.c fn.KY.en) (ds.map Δ++Τ (fn.G.N.length - fn.np) Φ,Φ)) λd=>.ok (.tup [.JF,d]))
@[reducible]def Tb:=Nat->Option Fn
abbrev dj (T:Tb):Nat->Ä
 |0,_,_=>JE
 |n+1,f,ds=>match T f with
  |some fn=>(match fn.io with
   |false=>kP (dj T n) fn ds
   |true=>kQ (dj T n) fn ds)
  |none=>JE
def Fo:IV cl (.v i) τ=(match ic τ i with|some d=>.ok d|none=>JE):=rfl
def Fp:Kx cl mv (.v i) τ=(match ic τ i with|some d=>if mv=Θ then .ok (d,τ.set i Φ) else .ok (er d,τ.set i (Δ (er d)))|none=>JE):=rfl
def zI:type_of% @IR.casesOn.{0}:=@IR.casesOn.{0}
def zT:type_of% @IS.casesOn.{0}:=@IS.casesOn.{0}
section
variable {X:Cx}{pins:É}{σ:St}{H:Hp}{S:Ç}{s:Α}
theorem Inv.Ld (I:Inv X pins σ H s)  (h1:K2 X.K H a xs)(h2:K0 X.K H a ys):False:=by obtain⟨its,_,⟨o,n,e,c,_⟩,_⟩:=I.list h1;obtain⟨its',_,⟨o',e',c',_⟩,_⟩:=I.tuple h2;rw[e]at e';cases e';rw[c]at c';injection c' with c';exact absurd c' nofun
theorem Inv.Ln (I:Inv X pins σ H s)  (h:J8 X.K H a (.inr c)):∃C o vs,PySem.W.nsIn X.K Η c=Δ (Δ (.ref C))/\nameIn X.K C=Δ c/\s.heap.get? a=Δ o/\o.cls=.ref C/\o.data=.fields vs:=by obtain⟨C,o,vs,h0,h1,h2,h3,h4⟩:=h;exact⟨C,o,vs,h0,h1,(I.JO a _ h2).1,h3,h4⟩
theorem Inv.Pk (I:Inv X pins σ H s)  (h:J8 X.K H a (.inr c))(k:J8 X.K H a (.inr c')):c=c':=by obtain⟨C,o,vs,_,n1,e,c1,_⟩:=I.Ln h;obtain⟨C',o',U9,_,n2,e',c2,_⟩:=I.Ln k;rw[e]at e';cases e';rw[c1]at c2;cases c2;rw[n1]at n2;cases n2;rfl
theorem Inv.Np (I:Inv X pins σ H s)  (h:J8 X.K H a (.inr c))(k:K0 X.K H a xs):False:=by obtain⟨C,o,vs,_,_,e,c1,_⟩:=I.Ln h;obtain⟨its',_,⟨o',e',c',_⟩,_⟩:=I.tuple k;rw[e]at e';cases e';rw[c1]at c';cases c'
theorem Inv.LI (I:Inv X pins σ H s)  (h:J8 X.K H a (.inr c))(k:K2 X.K H a xs):False:=by obtain⟨C,o,vs,_,_,e,c1,_⟩:=I.Ln h;obtain⟨its',_,⟨o',n,e',c',_⟩,_⟩:=I.list k;rw[e]at e';cases e';rw[c1]at c';cases c'
mutual
theorem IU.one (I:Inv X pins σ H s):∀ {v:V}{d e:D},IU X.K S H v d->IU X.K S H v e->er d=er e
 |_,_,_,.JF,h=>by cases h;rfl
 |_,_,_,.bl b,h=>by cases h;rfl
 |_,_,_,.int i,h=>by cases h;rfl
 |_,_,_,.str x,h=>by cases h;rfl
 |_,_,_,.exc h0,h=>by
  cases h with
  |exc k1=>exact congrArg D.exc (I.Pk h0 k1)
  |tup k1 k2=>exact(I.Np h0 k1).elim
  |lst k0 k1 k2=>exact(I.LI h0 (.inl k1)).elim
  |lstK k1 k2=>exact(I.LI h0 k1.sq).elim
 |_,_,_,.tup h1 h2,h=>by
  cases h with
  |exc k1=>exact(I.Np k1 h1).elim
  |tup k1 k2=>have e:=I.Lj h1 k1;subst e;rw[er,er,IM.one I h2 k2]
  |lst k0 k1 k2=>exact(I.Ld (.inl k1) h1).elim
  |lstK k1 k2=>exact(I.Ld k1.sq h1).elim
 |_,_,_,.lst h0 h1 h2,h=>by
  cases h with
  |exc k1=>exact(I.LI k1 (.inl h1)).elim
  |tup k1 k2=>exact(I.Ld (.inl h1) k1).elim
  |lst k0 k1 k2=>have e:=I.Ku (.inl h1) (.inl k1);subst e;rw[er,er,IM.one I h2 k2]
  |lstK k1 k2=>have e:=I.Ku (.inl h1) k1.sq;subst e;rw[er,er,IM.one I h2 k2]
 |_,_,_,.lstK h1 h2,h=>by
  cases h with
  |exc k1=>exact(I.LI k1 h1.sq).elim
  |tup k1 k2=>exact(I.Ld h1.sq k1).elim
  |lst k0 k1 k2=>have e:=I.Ku h1.sq (.inl k1);subst e;rw[er,er,IM.one I h2 k2]
  |lstK k1 k2=>have e:=I.Ku h1.sq k1.sq;subst e;rw[er,er,IM.one I h2 k2]
theorem IM.one (I:Inv X pins σ H s):∀ {vs:Ñ}{ds es:Ð},IM X.K S H vs ds->IM X.K S H vs es->Jz ds=Jz es
 |_,_,_,.nil,h=>by cases h;rfl
 |_,_,_,.cons h1 h2,h=>by
  cases h with
  |cons k1 k2=>rw[Jz,Jz,IU.one I h1 k1,IM.one I h2 k2]
end
end
def iP (h:II x f=.ok b):∃a,x=.ok a/\f a=.ok b:=by
 cases x with
 |error e=>cases h
 |ok a=>exact⟨a,rfl,h⟩
def kX (h:JA c x=.ok b):c=Θ/\x=.ok b:=by
 unfold JA at h
 induction c using zB with
 |true=>exact⟨rfl,h⟩
 |false=>cases h
theorem kn (hf:∀d e r,f d e=.ok r->er d=er e->r=Θ):∀ {ds es:Ð}{r:Bool},j7 f ds es=.ok r->Jz ds=Jz es->r=Θ
 |[],[],r,h,_=>by cases h;rfl
 |[],_::_,_,_,h=>by rw[Jz,Jz]at h;cases h
 |_::_,[],_,_,h=>by rw[Jz,Jz]at h;cases h
 |a::ds,b::es,r,h,h'=>by rw[Jz,Jz]at h';injection h' with e1 e2;obtain⟨x,hx,h⟩:=iP (show II (f a b) (λx=>II (j7 f ds es) λy=>.ok (x&&y))=.ok r from h);obtain⟨y,hy,h⟩:=iP h;cases h;rw[hf a b x hx e1,kn hf hy e2];rfl
theorem ma:∀(n:Nat) (d e:D) (r:Bool),Ke n d e=.ok r->er d=er e->r=Θ
 |0,_,_,_,h,_=>by cases h
 |n+1,d,e,r,h,h'=>by
  induction d using zD with
  |tup ds=>
   induction e using zD with
   |tup es=>rw[er,er]at h';injection h' with e1;exact kn (ma n) h e1
   |JF=>rw[er,er]at h';cases h'
   |bl _=>rw[er,er]at h';cases h'
   |int _=>rw[er,er]at h';cases h'
   |str _=>rw[er,er]at h';cases h'
   |lst _ _=>rw[er,er]at h';cases h'
   |exc _=>cases h
  |lst o ds=>
   induction e using zD with
   |lst o' es=>rw[er,er]at h';injection h' with _ e1;exact kn (ma n) h e1
   |JF=>rw[er,er]at h';cases h'
   |bl _=>rw[er,er]at h';cases h'
   |int _=>rw[er,er]at h';cases h'
   |str _=>rw[er,er]at h';cases h'
   |tup _=>rw[er,er]at h';cases h'
   |exc _=>cases h
  |exc _=>cases h
  |JF=>induction e using zD<;>first|(cases h;done)|(cases h;rfl)|(exfalso;simp[er]at h')
  |bl b=>induction e using zD<;>first|(rw[er,er]at h';injection h' with h';subst h';cases h;simp)|(exfalso;simp[er]at h')
  |int b=>induction e using zD<;>first|(rw[er,er]at h';injection h' with h';subst h';cases h;simp)|(exfalso;simp[er]at h')
  |str b=>induction e using zD<;>first|(rw[er,er]at h';injection h' with h';subst h';cases h;simp)|(exfalso;simp[er]at h')
theorem qZ:∀ {ds es:Ð}{r:Bool},j7 f ds es=.ok r->ds.length≠es.length->r=Ξ
 |[],[],_,_,h=>absurd rfl h
 |[],_::_,_,h,_=>by cases h;rfl
 |_::_,[],_,h,_=>by cases h;rfl
 |a::ds,b::es,r,h,n=>by obtain⟨x,hx,h⟩:=iP (show II (f a b) (λx=>II (j7 f ds es) λy=>.ok (x&&y))=.ok r from h);obtain⟨y,hy,h⟩:=iP h;cases h;rw[qZ hy (λz=>n (by rw[List.length_cons,List.length_cons,z]))];simp
theorem uf:∀ {ds es:Ð}{r:Bool},j7 f ds es=.ok r->ds.length=es.length->
  ∃e:Nat->Bool,(∀j a b,ds[j]? = Δ a->es[j]? = Δ b->f a b=.ok (e j))/\r=(List.range ds.length).all e
 |[],[],r,h,_=>by cases h;exact⟨λ_=>Θ,λj a b h=>by simp at h,rfl⟩
 |[],_::_,_,_,h=>by cases h
 |_::_,[],_,_,h=>by cases h
 |a::ds,b::es,r,h,n=>by
  obtain⟨x,hx,h⟩:=iP (show II (f a b) (λx=>II (j7 f ds es) λy=>.ok (x&&y))=.ok r from h);obtain⟨y,hy,h⟩:=iP h;cases h;obtain⟨e,h1,h2⟩:=uf hy (by simpa using n);refine⟨λj=>match j with|0=>x|k+1=>e k,λj a' b' e1 e2=>?_,?_⟩
  ·cases j with
   |zero=>simp at e1 e2;subst e1 e2;exact hx
   |succ k=>exact h1 k a' b' (by simpa using e1) (by simpa using e2)
  ·rw[h2,List.length_cons,List.range_succ_eq_map,List.all_cons,List.all_map];rfl
section
structure P7 (A:Ι)(s:Α)(v u:Ψ)(r:Bool):Prop where
 eq:EqAt A s v u r
 rc:RcAt A s v u r
 ne:RcNeAt A s v u (!r)
def ra {X:Cx}(n:Nat)(A:Ι)(ih:∀(x y:V)(v u:Ψ)(d e:D)(r:Bool),IU X.K S H x d->IU X.K S H y e->RelV x v->RelV y u->Ke n d e=.ok r->EqAt A.in1 s v u r)
   {its:Ï} (rv:Vals xs its) (RG:Vals ys its') (h2:IM X.K S H xs ds) (k2:IM X.K S H ys es) (hr:j7 (Ke n) ds es=.ok r) :
  ∃e:Nat->Bool,(∀j (q1:j < its.toArray.size) (q2:j < its'.toArray.size),EqAt A.in1 s its.toArray[j] its'.toArray[j] (e j))/\r=((List.range (min its.toArray.size its'.toArray.size)).all e&&its.toArray.size == its'.toArray.size):=by
 have l1:=h2.length;have l2:=k2.length;have l3:=rv.length;have l4:=RG.length;have pair:∀j (j1:j < its.toArray.size) (j2:j < its'.toArray.size) (b:Bool) (d1:j < ds.length) (d2:j < es.length),Ke n ds[j] es[j]=.ok b->EqAt A.in1 s its.toArray[j] its'.toArray[j] b:=by
  intro j j1 j2 b d1 d2 hb;obtain⟨x',e1,m1⟩:=h2.get (i:=j) (d:=ds[j]) (by simp);obtain⟨y',e2,m2⟩:=k2.get (i:=j) (d:=es[j]) (by simp);obtain⟨v',ev,NW⟩:=rv.get e1;obtain⟨u',eu,WA⟩:=RG.get e2;have hv:its.toArray[j]=v':=by have:=(x_.mp ev).2;simpa using this
  have Va:its'.toArray[j]=u':=by have:=(x_.mp eu).2;simpa using this
  rw[hv,Va];exact ih x' y' v' u' _ _ _ m1 m2 NW WA hb
 have z1:its.toArray.size=ds.length:=by simp;omega
 have z2:its'.toArray.size=es.length:=by simp;omega
 by_cases hl:ds.length=es.length
 ·obtain⟨e,q1,q2⟩:=uf hr hl;refine⟨e,λj j1 j2=>pair j j1 j2 _ ⋯ ⋯ (q1 j _ _ (by simp) (by simp)),?_⟩;rw[q2,z1,z2,hl];simp
 ·have Ou:=qZ hr hl;have each:∀(ds es:Ð) (r:Bool),j7 (Ke n) ds es=.ok r->∀j (q1:j < ds.length) (q2:j < es.length),∃b,Ke n ds[j] es[j]=.ok b:=by
   intro ds
   induction ds with
   |nil=>intro es r _ j q1;simp at q1
   |cons a ds ih=>
    intro es r h j q1 q2
    induction es using zL with
    |nil=>simp at q2
    |cons b es=>
     obtain⟨x,hx,h⟩:=iP (show II (Ke n a b) (λx=>II (j7 (Ke n) ds es) λy=>.ok (x&&y))=.ok r from h);obtain⟨y,hy,h⟩:=iP h;cases j with
     |zero=>exact⟨x,hx⟩
     |succ k=>exact ih es y hy k (by simpa using q1) (by simpa using q2)
  refine⟨λj=>if q:j < ds.length/\j < es.length then((match Ke n (ds[j]'q.1) (es[j]'q.2) with|.ok b=>b|.error _=>Ξ)) else Ξ,λj j1 j2=>?_,?_⟩
  ·have d1:j < ds.length:=⋯
   have d2:j < es.length:=⋯
   obtain⟨b,hb⟩:=each ds es r hr j d1 d2;have q:=pair j j1 j2 b d1 d2 hb;show EqAt A.in1 s its.toArray[j] its'.toArray[j] (dite _ _ _);rw[dif_pos (show j < ds.length/\j < es.length from⟨d1,d2⟩),hb];exact q
  ·rw[Ou];have:(its.toArray.size == its'.toArray.size)=Ξ:=by rw[beq_eq_false_iff_ne,z1,z2];exact hl
   rw[this,Bool.and_false]
def xk (I:Inv X pins σ H s)(n:Nat)(A:Ι)(ih:∀(x y:V)(v u:Ψ)(d e:D)(r:Bool),IU X.K S H x d->IU X.K S H y e->RelV x v->RelV y u->Ke n d e=.ok r->EqAt A.in1 s v u r)
   (ha:K2 X.K H a xs) (hb:K2 X.K H b ys) (h2:IM X.K S H xs ds) (k2:IM X.K S H ys es)
  (m1:IU X.K S H (.ref a) (.lst o ds)) (m2:IU X.K S H (.ref b) (.lst o' es)) (hr:j7 (Ke n) ds es=.ok r) (J2:A.units < cLine):P7 A s (.ref a) (.ref b) r:=by
 obtain⟨its,rv,p,_⟩:=I.list ha;obtain⟨its',RG,p',_⟩:=I.list hb;obtain⟨e,he,RQ⟩:=ra n A ih rv RG h2 k2 hr;have both:RcAt A s (.ref a) (.ref b) r/\RcNeAt A s (.ref a) (.ref b) (!r):=by
  by_cases hl:its.toArray.size=its'.toArray.size
  ·have QL:r=(List.range its.toArray.size).all e:=by rw[RQ,<- hl,Nat.min_self];simp
   rw[QL];exact⟨.lists p.isList p'.isList hl J2 he,.lists p.isList p'.isList hl J2 he⟩
  ·have LH:(its.toArray.size != its'.toArray.size)=Θ:=by simpa using hl
   have QL:r=Ξ:=by
    rw[RQ];have:(its.toArray.size == its'.toArray.size)=Ξ:=by rw[beq_eq_false_iff_ne];exact hl
    rw[this,Bool.and_false]
   rw[QL];exact⟨.lists_lengths p.isList p'.isList LH J2,.lists_lengths p.isList p'.isList LH J2⟩
 refine⟨?_,both.1,both.2⟩;by_cases NA:a=b
 ·subst NA;have hd:=IU.one I m1 m2;rw[er,er]at hd;injection hd with _ hd;rw[kn (ma n) hr hd];exact .same _
 ·exact .of_refs NA both.1
set_option maxHeartbeats 4000000 in
theorem ql (I:Inv X pins σ H s):∀(n:Nat) (A:Ι) (x y:V) (v u:Ψ) (d e:D) (r:Bool),IU X.K S H x d->IU X.K S H y e->RelV x v->RelV y u->Ke n d e=.ok r->
  A.units+n < cLine->P7 A s v u r
 |0,_,_,_,_,_,_,_,_,_,_,_,_,h,_=>by cases h
 |n+1,A,x,y,v,u,d,e,r,hx,hy,rx,ry,h,hu=>by
  have J2:A.units < cLine:=⋯
  have Wz:A.in1.units+n < cLine:=by show A.units+1+n < cLine;omega
  have ih:∀(x y:V) (v u:Ψ) (d e:D) (r:Bool),IU X.K S H x d->IU X.K S H y e->RelV x v->RelV y u->Ke n d e=.ok r->EqAt A.in1 s v u r:=
   λx y v u d e r a1 a2 a3 a4 a5=>(ql I n A.in1 x y v u d e r a1 a2 a3 a4 a5 Wz).eq
  induction d using zD with
  |JF=>
   cases hx.Mh;cases rx
   induction e using zD with
   |JF=>cases hy.Mh;cases ry;cases h;exact⟨.same _,.none_none,.none_none⟩
   |bl b'=>cases hy.OP;cases ry;cases h;exact⟨.none_bool _,.none_bool _,.none_bool _⟩
   |int i'=>cases hy.JN;obtain⟨t2,rfl⟩:=ry;cases h;exact⟨.none_int _ _,.none_int _ _,.none_int _ _⟩
   |str z'=>cases hy.Kg;obtain⟨t2,rfl⟩:=ry;cases h;exact⟨.none_str _ _,.none_str _ _,.none_str _ _⟩
   |tup es=>obtain⟨a2,Le,rfl,q2,m2⟩:=hy.Kc;cases ry;obtain⟨Ki,L7,p2,_⟩:=I.tuple q2;cases h;exact⟨.none_tuple p2 J2,.none_tuple p2 J2,.none_tuple p2 J2⟩
   |lst o' es=>obtain⟨a2,Le,rfl,q2,m2⟩:=hy.Kj;cases ry;obtain⟨Ki,L7,p2,_⟩:=I.list q2;cases h;exact⟨.none_list p2.isList J2,.none_list p2.isList J2,.none_list p2.isList J2⟩
   |exc _=>cases h
  |bl b=>
   cases hx.OP;cases rx
   induction e using zD with
   |JF=>cases hy.Mh;cases ry;cases h;exact⟨.bool_none _,.bool_none _,.bool_none _⟩
   |bl b'=>cases hy.OP;cases ry;cases h;exact⟨.bool_bool _ _,.bool_bool _ _,.bool_bool _ _⟩
   |int i'=>cases hy.JN;obtain⟨t2,rfl⟩:=ry;cases h;exact⟨.bool_int _ _ _,.bool_int _ _ _,.bool_int _ _ _⟩
   |str z'=>cases hy.Kg;obtain⟨t2,rfl⟩:=ry;cases h;exact⟨.bool_str _ _ _,.bool_str _ _ _,.bool_str _ _ _⟩
   |tup es=>obtain⟨a2,Le,rfl,q2,m2⟩:=hy.Kc;cases ry;obtain⟨Ki,L7,p2,_⟩:=I.tuple q2;cases h;exact⟨.bool_tuple _ p2 J2,.bool_tuple _ p2 J2,.bool_tuple _ p2 J2⟩
   |lst o' es=>obtain⟨a2,Le,rfl,q2,m2⟩:=hy.Kj;cases ry;obtain⟨Ki,L7,p2,_⟩:=I.list q2;cases h;exact⟨.bool_list _ p2.isList J2,.bool_list _ p2.isList J2,.bool_list _ p2.isList J2⟩
   |exc _=>cases h
  |int i=>
   cases hx.JN;obtain⟨t1,rfl⟩:=rx
   induction e using zD with
   |JF=>cases hy.Mh;cases ry;cases h;exact⟨.int_none _ _,.int_none _ _,.int_none _ _⟩
   |bl b'=>cases hy.OP;cases ry;cases h;exact⟨.int_bool _ _ _,.int_bool _ _ _,.int_bool _ _ _⟩
   |int i'=>cases hy.JN;obtain⟨t2,rfl⟩:=ry;cases h;exact⟨.int_int _ _ _ _,.int_int _ _ _ _,.int_int _ _ _ _⟩
   |str z'=>cases hy.Kg;obtain⟨t2,rfl⟩:=ry;cases h;exact⟨.int_str _ _ _ _,.int_str _ _ _ _,.int_str _ _ _ _⟩
   |tup es=>obtain⟨a2,Le,rfl,q2,m2⟩:=hy.Kc;cases ry;obtain⟨Ki,L7,p2,_⟩:=I.tuple q2;cases h;exact⟨.int_tuple _ _ p2 J2,.int_tuple _ _ p2 J2,.int_tuple _ _ p2 J2⟩
   |lst o' es=>obtain⟨a2,Le,rfl,q2,m2⟩:=hy.Kj;cases ry;obtain⟨Ki,L7,p2,_⟩:=I.list q2;cases h;exact⟨.int_list _ _ p2.isList J2,.int_list _ _ p2.isList J2,.int_list _ _ p2.isList J2⟩
   |exc _=>cases h
  |str z=>
   cases hx.Kg;obtain⟨t1,rfl⟩:=rx
   induction e using zD with
   |JF=>cases hy.Mh;cases ry;cases h;exact⟨.str_none _ _,.str_none _ _,.str_none _ _⟩
   |bl b'=>cases hy.OP;cases ry;cases h;exact⟨.str_bool _ _ _,.str_bool _ _ _,.str_bool _ _ _⟩
   |int i'=>cases hy.JN;obtain⟨t2,rfl⟩:=ry;cases h;exact⟨.str_int _ _ _ _,.str_int _ _ _ _,.str_int _ _ _ _⟩
   |str z'=>cases hy.Kg;obtain⟨t2,rfl⟩:=ry;cases h;exact⟨.str_str _ _ _ _,.str_str _ _ _ _,.str_str _ _ _ _⟩
   |tup es=>obtain⟨a2,Le,rfl,q2,m2⟩:=hy.Kc;cases ry;obtain⟨Ki,L7,p2,_⟩:=I.tuple q2;cases h;exact⟨.str_tuple _ _ p2 J2,.str_tuple _ _ p2 J2,.str_tuple _ _ p2 J2⟩
   |lst o' es=>obtain⟨a2,Le,rfl,q2,m2⟩:=hy.Kj;cases ry;obtain⟨Ki,L7,p2,_⟩:=I.list q2;cases h;exact⟨.str_list _ _ p2.isList J2,.str_list _ _ p2.isList J2,.str_list _ _ p2.isList J2⟩
   |exc _=>cases h
  |tup ds=>
   obtain⟨a1,L1,rfl,q1,m1⟩:=hx.Kc;cases rx;obtain⟨MW,NW,p1,_⟩:=I.tuple q1
   induction e using zD with
   |JF=>cases hy.Mh;cases ry;cases h;exact⟨.tuple_none p1 J2,.tuple_none p1 J2,.tuple_none p1 J2⟩
   |bl b'=>cases hy.OP;cases ry;cases h;exact⟨.tuple_bool _ p1 J2,.tuple_bool _ p1 J2,.tuple_bool _ p1 J2⟩
   |int i'=>cases hy.JN;obtain⟨t2,rfl⟩:=ry;cases h;exact⟨.tuple_int _ _ p1 J2,.tuple_int _ _ p1 J2,.tuple_int _ _ p1 J2⟩
   |str z'=>cases hy.Kg;obtain⟨t2,rfl⟩:=ry;cases h;exact⟨.tuple_str _ _ p1 J2,.tuple_str _ _ p1 J2,.tuple_str _ _ p1 J2⟩
   |tup es=>
    have KS:=hx;have NX:=hy;obtain⟨a2,Le,rfl,q2,m2⟩:=hy.Kc;cases ry;obtain⟨Ki,L7,p2,_⟩:=I.tuple q2;have hr:j7 (Ke n) ds es=.ok r:=h;obtain⟨e,he,RQ⟩:=ra n A ih NW L7 m1 m2 hr;refine⟨?_,?_,?_⟩
    ·by_cases NA:a1=a2
     ·subst NA;have hd:=IU.one I KS NX;rw[er,er]at hd;injection hd with hd;rw[kn (ma n) hr hd];exact .same _
     ·rw[RQ];exact .of_refs NA (.tuples p1 p2 J2 he)
    ·rw[RQ];exact .tuples p1 p2 J2 he
    ·rw[RQ];exact .tuples p1 p2 J2 he
   |lst o' es=>obtain⟨a2,Le,rfl,q2,m2⟩:=hy.Kj;cases ry;obtain⟨Ki,L7,p2,_⟩:=I.list q2;cases h;exact⟨.tuple_list p1 p2.isList J2,.tuple_list p1 p2.isList J2,.tuple_list p1 p2.isList J2⟩
   |exc _=>cases h
  |lst o ds=>
   obtain⟨a1,L1,rfl,q1,m1⟩:=hx.Kj;cases rx;obtain⟨MW,NW,p1,_⟩:=I.list q1
   induction e using zD with
   |JF=>cases hy.Mh;cases ry;cases h;exact⟨.list_none p1.isList J2,.list_none p1.isList J2,.list_none p1.isList J2⟩
   |bl b'=>cases hy.OP;cases ry;cases h;exact⟨.list_bool _ p1.isList J2,.list_bool _ p1.isList J2,.list_bool _ p1.isList J2⟩
   |int i'=>cases hy.JN;obtain⟨t2,rfl⟩:=ry;cases h;exact⟨.list_int _ _ p1.isList J2,.list_int _ _ p1.isList J2,.list_int _ _ p1.isList J2⟩
   |str z'=>cases hy.Kg;obtain⟨t2,rfl⟩:=ry;cases h;exact⟨.list_str _ _ p1.isList J2,.list_str _ _ p1.isList J2,.list_str _ _ p1.isList J2⟩
   |tup es=>obtain⟨a2,Le,rfl,q2,m2⟩:=hy.Kc;cases ry;obtain⟨Ki,L7,p2,_⟩:=I.tuple q2;cases h;exact⟨.list_tuple p1.isList p2 J2,.list_tuple p1.isList p2 J2,.list_tuple p1.isList p2 J2⟩
   |lst o' es=>have KS:=hx;have NX:=hy;obtain⟨a2,Le,rfl,q2,m2⟩:=hy.Kj;cases ry;obtain⟨Ki,L7,p2,_⟩:=I.list q2;exact xk I n A ih q1 q2 m1 m2 KS NX h J2
   |exc _=>cases h
  |exc _=>cases h
end
@[reducible]def nw (S:Ç)(H:Hp):Ç:=λa=>S a∨H a=Φ
@[reducible]def Kk (K:Frag)(S:Ç)(H:Hp)(Q:VK):D->Prop:=λd=>∀w H',ik H H'->IU K (nw S H) H' w d->Q w H'
theorem IU.nw {K:Frag}{S:Ç}{H:Hp}{v:V}{d:D}(h:IU K S H v d):IU K (nw S H) H v d:=h.mono (λ_=>.inl) (.refl _)
def Dh {K:Frag}  (hp:H p=Φ)(h:IM K S H vs ds):IU K (nw S H) (upd H p (.tup vs)) (.ref p) (.tup ds):=
 .tup (.inl (.inl il)) (h.mono (λ_=>.inl) (.upd hp))
def xl {K:Frag}  (hp:H p=Φ)(h:IM K S H vs ds):IU K (nw S H) (upd H p (.lst vs)) (.ref p) (.lst o ds):=
 .lst (.inr hp) (.inl il) (h.mono (λ_=>.inl) (.upd hp))
abbrev RU:RH->Operator
 |.add=>.Add|.sub=>.Sub|.mul=>.Mult|.fdiv=>.FloorDiv|.mod=>.Mod|.pow=>.Pow
abbrev Ml:Ot->CmpOp
 |.eq=>.Eq|.ne=>.NotEq|.lt=>.Lt|.le=>.LtE|.gt=>.Gt|.Mu=>.In|.Mi=>.NotIn|.RK=>.Is
def HW (K:Frag)(ex:Æ)(op:RH):R2:=λx y H Q=>∃S d e,IU K S H x d/\IU K S H y e/\IP ex (Lm op d e) (Kk K S H Q)
def HX (K:Frag)(ex:Æ)(op:Ot):R2:=λx y H Q=>∃S d e,IU K S H x d/\IU K S H y e/\IP ex (Lc op d e) λr=>Q (.bl r) H
def jn (h:jb n=Θ):n<=Ζ:=l_ h
def md (h:ke n=Θ):n < Ζ:=l_ h
def qm:LR X (binaryOp .Add) (λx y H Q=>∃l b xs zs,x=.ref l/\y=.ref b/\Ls X.K H l xs/\Ls X.K H b zs/\xs.length+zs.length<=Ζ/\∀p,H p=Φ->Q (.ref p) (upd H p (.lst (xs++zs)))):=by
 intro pins s σ H x y v u Q I rx ry h;obtain⟨l,b,xs,zs,rfl,rfl,hH,hB,hz,q⟩:=h;cases rx;cases ry;obtain⟨hl,its,n,r,e⟩:=I.ls hH;obtain⟨P8,Ki,n2,r2,e'⟩:=I.ls hB;have e1:=r.length;have e2:=r2.length;refine PySem.P.add_list e e' ?_ (by rw[F_,F_];omega);have ea:its.toArray++Ki.toArray=(its++Ki).toArray:=by simp
 rw[ea];exact⟨.ref _,_,I.Qu (t':=s.toks) (r.append r2) (by rw[u_];omega),rfl,q _ I.fresh⟩
def xn {its:Ï}(r:Vals vs its):∀k:Nat,Vals (Τ k vs).flatten (Τ k its).flatten:=r.rep
def Az:LR X (binaryOp .Mult) (λx y H Q=>∃l k xs,x=.ref l/\y=.int k/\Ls X.K H l xs/\0<=k/\k<=16000/\xs.length<=1000/\∀p,H p=Φ->Q (.ref p) (upd H p (.lst (Τ k.toNat xs).flatten))):=by
 intro pins s σ H x y v u Q I rx ry h;obtain⟨l,k,xs,rfl,rfl,hH,h1,h2,hx,q⟩:=h;cases rx;obtain⟨t,rfl⟩:=ry;obtain⟨hl,its,n,r,e⟩:=I.ls hH;have el:=r.length;have hz:xs.length*k.toNat<=1000*16000:=Nat.mul_le_mul hx ⋯;have big:1000*16000<=Ζ:= nofun
 have hsz:its.toArray.size*k.toNat<=Ζ:=by rw[F_,<- el];omega
 have c1:¬its.toArray.size*k.toNat > (2 ^ 63 - 1) / 8:=by
  have:(Ζ:Nat)<=(2 ^ 63 - 1) / 8:= nofun
  omega
 have c2:¬(!Builtin.List.listFitsIndex k)=Θ:=by rw[fitsIndex_both ⋯ ⋯];exact A_
 have c3:¬Builtin.List.listTooLong (its.toArray.size*k.toNat)=Θ:=by rw[wA hsz];exact A_
 have f0:∀m:Nat,List.foldl (λa b=>a++b) #[] (Τ m its.toArray)=(Τ m its).flatten.toArray:=λm=>by have z:=foldl_rep its m [];rw[List.nil_append]at z;exact z
 have f1:List.foldl (λa b=>a++b) #[] (Τ (if its.toArray.isEmpty=Θ then 0 else k.toNat) its.toArray)=(Τ k.toNat its).flatten.toArray:=by
  rw[f0]
  induction its using zL with
  |nil=>simp
  |cons _ _=>rw[f_ (by simp)]
 refine wpAny_binaryOp_repeat_ref (T:="list") (U:="int") nofun ⟨_,e,rfl⟩ (λs'=>typeIs_int s' k t) noFill_list_mul F.fills_int_mul F.slot_int_rmul repeat_list F.slot_int_index.lookup (call_meets F.slot_int_rmul (typeIs_int s k t) F.entry_int_rmul (F.args_int_rmul_2 _ _) (int___rmul___int_list k t l its.toArray n) ⟨e,rfl,⟨_,e,rfl⟩,call_meets F.slot_list_mul ⟨_,e,rfl⟩ F.entry_list_mul (F.args_list_mul_2 _ _) (AutoListH.list___mul___list_int_3 l its.toArray n k t c2 c1 c3) ⟨e,?_⟩⟩);rw[f1];exact⟨.ref _,_,I.Qu (t':=s.toks) (xn r k.toNat) (by rw[len_rep,Nat.mul_comm];omega),rfl,q _ I.fresh⟩
theorem IM.rep {K:Frag}  (m:IM K S H vs ds):∀k:Nat,IM K S H (Τ k vs).flatten (Τ k ds).flatten
 |0=>.nil
 |k+1=>by rw[List.replicate_succ,List.replicate_succ,List.flatten_cons,List.flatten_cons];exact m.append (IM.rep m k)
def Di (op:RH):LR X (binaryOp (RU op)) (HW X.K ex op):=by
 intro pins s σ H x y v u Q I rx ry h;obtain⟨S,d,e,hx,hy,h⟩:=h;have stuck:∀ {P:Prop},Lm op d e=JE->P:=λz=>by rw[z]at h;exact h.no.elim
 cases op with
 |add=>
  induction d using zD with
  |tup a=>
   induction e using zD with
   |tup b=>
    obtain⟨p,xs,rfl,q1,m1⟩:=hx.Kc;obtain⟨p',ys,rfl,q2,m2⟩:=hy.Kc;obtain⟨gd,h⟩:=IP.JA (show IP ex (JA (!a.isEmpty&&jb (a.length+b.length)) (.ok (.tup (a++b)))) (Kk X.K S H Q) from h);rw[d_]at gd;have e1:=m1.length;have e2:=m2.length;have hz:=jn gd.2;have ne:xs≠[]:=λz=>by
     rw[z,List.length_nil]at e1;cases a with
     |nil=>cases gd.1
     |cons _ _=>cases e1
    refine Ab pins s σ H _ _ v u Q I rx ry ⟨p,p',xs,ys,rfl,rfl,q1,q2,ne,⋯,λz=>?_,λ_ l hl=>h.ok _ _ (.upd hl) (Dh hl (m1.append m2))⟩;have zb:b=[]:=by rw[z,List.length_nil]at e2;exact List.eq_nil_of_length_eq_zero e2.symm
    rw[zb,P_]at h;exact h.ok _ _ (.refl _) (.tup q1 (m1.mono (λ_ z=>.inl z) (.refl _)))
   |_=>exact stuck rfl
  |int a=>
   induction e using zD with
   |int b=>cases hx.JN;cases hy.JN;exact CI pins s σ H _ _ v u Q I rx ry ⟨a,b,rfl,rfl,h.ok _ _ (.refl _) (.int _)⟩
   |_=>exact stuck rfl
  |str a=>
   induction e using zD with
   |str b=>cases hx.Kg;cases hy.Kg;obtain⟨g,h⟩:=IP.JA h;exact sf pins s σ H _ _ v u Q I rx ry ⟨a,b,rfl,rfl,jn g,h.ok _ _ (.refl _) (.str _)⟩
   |_=>exact stuck rfl
  |lst o a=>
   induction e using zD with
   |lst o' b=>obtain⟨p,xs,rfl,q1,m1⟩:=hx.Oq;obtain⟨p',ys,rfl,q2,m2⟩:=hy.Oq;obtain⟨g,h⟩:=IP.JA h;have g':=jn g;have l1:=m1.length;have l2:=m2.length;exact qm pins s σ H _ _ v u Q I rx ry ⟨p,p',xs,ys,rfl,rfl,q1,q2,⋯,λz hz=>h.ok _ _ (.upd hz) (xl hz (m1.append m2))⟩
   |_=>exact stuck rfl
  |_=>exact stuck rfl
 |sub=>
  induction d using zD with
  |int a=>
   induction e using zD with
   |int b=>cases hx.JN;cases hy.JN;exact CJ pins s σ H _ _ v u Q I rx ry ⟨a,b,rfl,rfl,h.ok _ _ (.refl _) (.int _)⟩
   |_=>exact stuck rfl
  |_=>exact stuck rfl
 |mul=>
  induction d using zD with
  |int a=>
   induction e using zD with
   |int b=>cases hx.JN;cases hy.JN;obtain⟨g,h⟩:=IP.JA h;rw[J_]at g;exact CK pins s σ H _ _ v u Q I rx ry ⟨a,b,rfl,rfl,g.elim (λz=>.inl (l_ z)) (λz=>.inr (l_ z)),h.ok _ _ (.refl _) (.int _)⟩
   |_=>exact stuck rfl
  |str a=>
   induction e using zD with
   |int b=>cases hx.Kg;cases hy.JN;obtain⟨g,h⟩:=IP.JA h;have g':=l_ g;exact sv pins s σ H _ _ v u Q I rx ry ⟨a,b,rfl,rfl,g'.1,g'.2.1,g'.2.2,h.ok _ _ (.refl _) (.str _)⟩
   |_=>exact stuck rfl
  |lst o a=>
   induction e using zD with
   |int b=>obtain⟨p,xs,rfl,q1,m1⟩:=hx.Oq;cases hy.JN;obtain⟨g,h⟩:=IP.JA h;have g':=l_ g;have l1:=m1.length;exact Az pins s σ H _ _ v u Q I rx ry ⟨p,b,xs,rfl,rfl,q1,g'.1,g'.2.1,by rw[l1];exact g'.2.2,λz hz=>h.ok _ _ (.upd hz) (xl hz (m1.rep _))⟩
   |_=>exact stuck rfl
  |_=>exact stuck rfl
 |fdiv=>
  induction d using zD with
  |int a=>
   induction e using zD with
   |int b=>cases hx.JN;cases hy.JN;obtain⟨g,h⟩:=IP.JA h;exact zW pins s σ H _ _ v u Q I rx ry ⟨a,b,rfl,rfl,show 0 < b/\b < 1073741824 from l_ g,h.ok _ _ (.refl _) (.int _)⟩
   |_=>exact stuck rfl
  |_=>exact stuck rfl
 |mod=>
  induction d using zD with
  |int a=>
   induction e using zD with
   |int b=>cases hx.JN;cases hy.JN;obtain⟨g,h⟩:=IP.JA h;exact CL pins s σ H _ _ v u Q I rx ry ⟨a,b,rfl,rfl,l_ g,h.ok _ _ (.refl _) (.int _)⟩
   |_=>exact stuck rfl
  |_=>exact stuck rfl
 |pow=>
  induction d using zD with
  |int a=>
   induction e using zD with
   |int b=>cases hx.JN;cases hy.JN;obtain⟨g,h⟩:=IP.JA h;exact CM pins s σ H _ _ v u Q I rx ry ⟨a,b,rfl,rfl,show 0<=b/\b<=1000000/\a.natAbs < 2 ^ 64 from l_ g,h.ok _ _ (.refl _) (.int _)⟩
   |_=>exact stuck rfl
  |_=>exact stuck rfl
theorem IP.Ke:∀ {n:Nat}{d e:D}{k:Bool->Prop},IP ex (L2.Ke n d e) k->∃r,L2.Ke n d e=.ok r/\k r:=by
 have no:∀(n:Nat) (d e:D) (c:Str),L2.Ke n d e≠.error (.exc c):=by
  intro n;have WR:∀(f:D->D->Res Bool),(∀d e c,f d e≠.error (.exc c))->∀(ds es:Ð) (c:Str),j7 f ds es≠.error (.exc c):=by
   intro f hf ds
   induction ds with
   |nil=>intro es c h;cases es<;>cases h
   |cons a ds ih=>
    intro es c h
    induction es using zL with
    |nil=>cases h
    |cons b es=>
     have h':L2.II (f a b) (λx=>L2.II (j7 f ds es) λy=>.ok (x&&y))=.error (.exc c):=h;cases q:f a b with
     |error z=>rw[q]at h';exact hf a b c (by rw[q];exact h')
     |ok x=>
      rw[q]at h';have h2:L2.II (j7 f ds es) (λy=>.ok (x&&y))=.error (.exc c):=h';cases q2:j7 f ds es with
      |error z=>rw[q2]at h2;exact ih es c (by rw[q2];exact h2)
      |ok y=>rw[q2]at h2;cases h2
  induction n with
  |zero=>intro d e c h;cases h
  |succ n ih=>
   intro d e c h
   induction d using zD<;>induction e using zD<;>first|cases h|exact WR _ ih _ _ _ h
 intro n d e k h;cases q:L2.Ke n d e with
 |ok r=>rw[q]at h;exact⟨r,rfl,h⟩
 |error z=>
  rw[q]at h;cases z with
  |stuck=>exact h.no.elim
  |exc c=>exact absurd q (no n d e c)
theorem IP.Kb:∀ {ds:Ð}{k:Bool->Prop},IP ex (L2.Kb d ds) k->∃f:Nat->Bool,(∀i e,ds[i]? = Δ e->L2.Ke 40 e d=.ok (f i))/\k ((List.range ds.length).any f)
 |[],k,h=>⟨λ_=>Ξ,λi e z=>by simp at z,h⟩
 |e::r,k,h=>by
  obtain⟨x,Vb,h1⟩:=IP.Ke (IP.II h);obtain⟨f,h2,h3⟩:=IP.Kb (IP.II h1);refine⟨λi=>match i with|0=>x|j+1=>f j,λi e' z=>?_,?_⟩
  ·cases i with
   |zero=>simp at z;subst z;exact Vb
   |succ j=>exact h2 j e' (by simpa using z)
  ·rw[List.length_cons,List.range_succ_eq_map,List.any_cons,List.any_map];exact h3
def sL (its:Ï)(f:Nat->Bool)(h:∀i u,its[i]? = Δ u->EqAt A s u v (f i)) :
  ∃e:Ψ->Bool,(∀y,y∈its.toArray->EqAt A s y v (e y))/\its.toArray.any e=(List.range its.length).any f:=by
 classical
 refine⟨λy=>decide (∃i,its[i]? = Δ y/\f i=Θ),λy hy=>?_,?_⟩
 ·have NX:y∈its:=by simpa using hy
  obtain⟨j,hj⟩:=List.getElem?_of_mem NX;show EqAt A s y v (decide (∃i,its[i]? = Δ y/\f i=Θ));by_cases q:∃i,its[i]? = Δ y/\f i=Θ
  ·rw[y_ q];obtain⟨i,hi,fi⟩:=q;have:=h i y hi;rw[fi]at this;exact this
  ·rw[aae q];have:=h j y hj;have fj:f j=Ξ:=by
    cases z:f j with
    |false=>rfl
    |true=>exact absurd ⟨j,hj,z⟩ q
   rw[fj]at this;exact this
 ·rw[Bool.eq_iff_iff];simp only[List.any_toArray,List.any_eq_true,aag,decide_eq_true_eq];constructor
  ·rintro⟨y,hy,i,hi,fi⟩;exact⟨i,(x_.mp hi).1,fi⟩
  ·rintro⟨i,hi,fi⟩;exact⟨its[i],aai hi,i,by simp[hi],fi⟩
def mU (hu:X.A.units+42 < cLine)  (I:Inv X pins σ H s)(rx:RelV x v)(hx:IU X.K S H x d)
   {its:Ï}  (rv:Vals xs its) (m:IM X.K S H xs ds) (h:IP ex (Kb d ds) k) :
  ∃e:Ψ->Bool,(∀y,y∈its.toArray->EqAt X.A.in1 s y v (e y))/\k (its.toArray.any e):=by
 obtain⟨f,h1,h2⟩:=IP.Kb h;have l1:=rv.length;have l2:=m.length;obtain⟨e,h3,h4⟩:=sL (A:=X.A.in1) (s:=s) (v:=v) its f λi u hi=>by have JZ:i < its.length:=(x_.mp hi).1;obtain⟨y,hy,my⟩:=m.get (i:=i) (d:=ds[i]'⋯) (by simp);obtain⟨u',Va,ru⟩:=rv.get hy;rw[hi]at Va;cases Va;exact(ql I 40 X.A.in1 y x u v _ d _ my hx ru rx (h1 i _ (by simp)) (by show X.A.units+1+40 < cLine;omega)).eq
 refine⟨e,h3,?_⟩;rw[h4,show its.length=ds.length by omega];exact h2
def mV (hu:X.A.units+42 < cLine)(op:Ot):LR X (compareOp (Ml op)) (HX X.K ex op):=by
 intro pins s σ H x y v u Q I rx ry h;obtain⟨S,d,e,hx,hy,h⟩:=h;have stuck:∀ {P:Prop},Lc op d e=JE->P:=λz=>by rw[z]at h;exact h.no.elim
 have fin:∀ {b:Bool},Q (.bl b) H->EP X pins σ Q (.bool b) s:=λq=>⟨.bl _,H,I,rfl,q⟩
 cases op with
 |eq=>obtain⟨r,h1,h2⟩:=IP.Ke h;exact(ql I 40 X.A x y v u d e r hx hy rx ry h1 ⋯).rc _ _ _ _ (fin h2)
 |ne=>obtain⟨r,h1,h2⟩:=IP.Ke (IP.II h);exact(ql I 40 X.A x y v u d e r hx hy rx ry h1 ⋯).ne _ _ _ _ (fin h2.ok)
 |lt=>
  induction d using zD with
  |int a=>
   induction e using zD with
   |int b=>cases hx.JN;cases hy.JN;obtain⟨t,rfl⟩:=rx;obtain⟨t',rfl⟩:=ry;exact lt_int (fin h.ok)
   |_=>exact stuck rfl
  |_=>exact stuck rfl
 |le=>
  induction d using zD with
  |int a=>
   induction e using zD with
   |int b=>cases hx.JN;cases hy.JN;obtain⟨t,rfl⟩:=rx;obtain⟨t',rfl⟩:=ry;exact le_int (fin h.ok)
   |_=>exact stuck rfl
  |_=>exact stuck rfl
 |gt=>
  induction d using zD with
  |int a=>
   induction e using zD with
   |int b=>cases hx.JN;cases hy.JN;obtain⟨t,rfl⟩:=rx;obtain⟨t',rfl⟩:=ry;exact gt_int (fin h.ok)
   |_=>exact stuck rfl
  |_=>exact stuck rfl
 |Mu=>
  induction e using zD with
  |str b=>
   induction d using zD with
   |str a=>cases hx.Kg;cases hy.Kg;obtain⟨t,rfl⟩:=rx;obtain⟨t',rfl⟩:=ry;exact in_str (fin h.ok)
   |_=>exact stuck rfl
  |lst o ds=>obtain⟨a,xs,rfl,q1,m1⟩:=hy.Kj;cases ry;obtain⟨its,rv,pl,_⟩:=I.list q1;obtain⟨e,h1,h2⟩:=mU (ex:=ex) hu I rx hx rv m1 (by induction d using zD<;>exact h);exact in_listAt e pl.isList h1 (fin h2)
  |_=>induction d using zD<;>exact stuck rfl
 |Mi=>
  induction e using zD with
  |str b=>
   induction d using zD with
   |str a=>cases hx.Kg;cases hy.Kg;obtain⟨t,rfl⟩:=rx;obtain⟨t',rfl⟩:=ry;exact notIn_str (fin h.ok)
   |_=>exact stuck rfl
  |lst o ds=>obtain⟨a,xs,rfl,q1,m1⟩:=hy.Kj;cases ry;obtain⟨its,rv,pl,_⟩:=I.list q1;obtain⟨e,h1,h2⟩:=mU (ex:=ex) (k:=λr=>Q (.bl !r) H) hu I rx hx rv m1 ((IP.II (show IP ex (II (Kb d ds) λr=>.ok !r) (λr=>Q (.bl r) H) by induction d using zD<;>exact h)).mono λ_ z=>z);exact notIn_listAt e pl.isList h1 (fin h2)
  |tup ds=>obtain⟨a,xs,rfl,q1,m1⟩:=hy.Kc;cases ry;obtain⟨its,rv,pl,_⟩:=I.tuple q1;obtain⟨e,h1,h2⟩:=mU (ex:=ex) (k:=λr=>Q (.bl !r) H) hu I rx hx rv m1 ((IP.II (show IP ex (II (Kb d ds) λr=>.ok !r) (λr=>Q (.bl r) H) by induction d using zD<;>exact h)).mono λ_ z=>z);exact notIn_tupleAt e pl h1 (fin h2)
  |_=>induction d using zD<;>exact stuck rfl
 |RK=>
  induction e using zD with
  |JF=>
   cases hy.Mh;cases ry;have ev:pT d=(v == Value.none):=by
    cases hx with
    |JF=>cases rx;rfl
    |bl b=>cases rx;rfl
    |int i=>obtain⟨t,rfl⟩:=rx;rfl
    |str z=>obtain⟨t,rfl⟩:=rx;rfl
    |tup _ _=>cases rx;rfl
    |lst _ _ _=>cases rx;rfl
    |lstK _ _=>cases rx;rfl
    |exc _=>cases rx;rfl
   have h':Q (.bl (pT d)) H:=by induction d using zD<;>exact h
   rw[ev]at h';exact is_none_gen (fin h')
  |_=>induction d using zD<;>exact stuck rfl
def nM (I:Inv X pins σ H s)(rx:RelV x v)(hx:IU X.K S H x d)(h:IP ex (iK d) λb=>Q b H) :
  Κ (Μ X.prog X.w) X.A (truthy v) (TP X pins σ Q) X.xe s:=by
 induction d using zD with
 |bl b=>cases hx.OP;cases rx;exact wpAny_truthy_bool ⟨H,I,h⟩
 |_=>exact h.no.elim
def ug {K:Frag}  (m:IM K S H vs ds)(h:KQ ds i=Δ d):∃v,KQ vs i=Δ v/\IU K S H v d:=by
 unfold KQ at h ⊢;rw[m.length];cases q:Kv ds.length i with
 |none=>rw[q]at h;cases h
 |some j=>rw[q]at h;exact m.get h
def HY (K:Frag)(ex:Æ):R2:=λx y H Q=>∃S d e,IU K S H x d/\IU K S H y e/\IP ex (iO d e) (Kk K S H Q)
def AA:ON X (HY X.K ex):=by
 intro value slice pins s σ H x y v u Q I rx ry h hs;obtain⟨S,d,e,hx,hy,h⟩:=h;refine CU value slice pins s σ H x y v u Q I rx ry ?_ hs;have stuck:∀ {P:Prop},iO d e=JE->P:=λz=>by rw[z]at h;exact h.no.elim
 induction e using zD with
 |int i=>
  cases hy.JN
  induction d using zD with
  |lst o ds=>
   obtain⟨a,xs,rfl,q,m⟩:=hx.Kj;have h':IP ex (match KQ ds i with|some d=>.ok d|none=>JE) (Kk X.K S H Q):=h;cases z:KQ ds i with
   |none=>rw[z]at h';exact h'.no.elim
   |some d=>rw[z]at h';obtain⟨w,ew,mw⟩:=ug m z;exact .inl ⟨a,xs,i,w,rfl,rfl,q,ew,h'.ok _ _ (.refl _) mw.nw⟩
  |tup ds=>
   obtain⟨a,xs,rfl,q,m⟩:=hx.Kc;have h':IP ex (match KQ ds i with|some d=>.ok d|none=>JE) (Kk X.K S H Q):=h;cases z:KQ ds i with
   |none=>rw[z]at h';exact h'.no.elim
   |some d=>rw[z]at h';obtain⟨w,ew,mw⟩:=ug m z;exact .inr (.inl ⟨a,xs,i,w,rfl,rfl,q,ew,h'.ok _ _ (.refl _) mw.nw⟩)
  |str z=>
   cases hx.Kg;obtain⟨g,h⟩:=IP.JA h;cases q:KQ z.cps.toList i with
   |none=>rw[q]at h;exact h.no.elim
   |some c=>rw[q]at h;exact .inr (.inr ⟨z,i,c,rfl,rfl,jn g,q,h.ok _ _ (.refl _) (.str _)⟩)
  |_=>exact stuck rfl
 |_=>induction d using zD<;>exact stuck rfl
def Ia (K:Frag)(ex:Æ):V->Option Int->Option Int->Hp->VK->Prop:=λx lo hi H Q=>∃S d,IU K S H x d/\IP ex (mR d lo hi) (Kk K S H Q)
def Dj:S2 X (λx lo hi H Q=>∃z,x=.str z/\z.length<=Ζ/\Q (.str (Txt.slice z lo hi)) H):=by
 intro pins s σ H x v vl vu lo hi sl Q I rx hs pl pu h;obtain⟨z,rfl,hz,q⟩:=h;obtain⟨t,rfl⟩:=rx;refine⟨"str",_,F.slot_str_getitem.lookup,typeIs_str s z t,?_⟩;have fin:∀(l u:Option (Int×Tok)),vl=partValue l->vu=partValue u->l.map (·.1)=lo->u.map (·.1)=hi->Κ (Μ X.prog X.w) X.A (getItem (.str z t) (.ref sl)) (EP X pins σ Q) X.xe s:=by intro l u e1 e2 e3 e4;subst e1 e2 e3 e4;refine wpAny_getItem_str_slice (l:=l) (u:=u) (st:=Φ) hs rfl ?_;exact post_val_or_str ⟨N_ (Txt.slice_le z _ _) hz,λt' k=>⟨.str _,H,I.tok _,⟨_,rfl⟩,q⟩⟩
 cases pl with
 |none=>
  cases pu with
  |none=>exact fin Φ Φ rfl rfl rfl rfl
  |int j t'=>exact fin Φ (Δ (j,t')) rfl rfl rfl rfl
 |int i t'=>
  cases pu with
  |none=>exact fin (Δ (i,t')) Φ rfl rfl rfl rfl
  |int j t''=>exact fin (Δ (i,t')) (Δ (j,t'')) rfl rfl rfl rfl
open PySem.W
section
structure ExcAt (K:Frag)(C:Ω):Prop where
 ga:findIn K (.ref C) "__getattribute__" = Δ (Δ (.builtin "BaseException.__getattribute__"))
 no:findIn K (.ref C) "__getattr__" = Δ Φ
 cl:findIn K (.ref C) "__class__" = Δ (Δ (.builtin "object.__class__"))
 be:mroIn K C (.type "BaseException")=Δ Θ
 ob:mroIn K C (.type "object")=Δ Θ
 is:(clsIn K C).isSome=Θ
def IX (h:Heap)(x C:Ω):Prop:=∃o,h.get? x=Δ o/\o.cls=.ref C
def IX.type (I:IX h x C):Looks M h (typeOf (.ref x)) (.ref C):=by obtain⟨o,h1,h2⟩:=I;exact h2 ▸ (Looks.ld h1).andThen .now
open Builtin Builtin.ObjectAttr Builtin.Getset_descriptor in
def xq {K:Frag}{os:OsState}(X:K.In hh)(I:IX hh x C)(hm:mroIn K C (.type "object")=Δ Θ) (hq:R (.ok (.ret (.ref C))) ⟨hh,g,d,t,os⟩) :
  codeAny (Μ prog w) A (.call (.builtin "getset_descriptor.__get__") ⟨[.builtin "object.__class__",.ref x,tp],[]⟩) R ⟨hh,g,d,t,os⟩:=by
 have y0:=I.type (M:=Μ prog w);have y1:=looks_mroIn (M:=Μ prog w) X hm;refine codeAny_call_builtin KF.slot_gs.plain KF.entry_gs (KF.slot_gs.check _ _ _ _ _ _ _ _ KF.type_class (KF.args_gs _ _ _) ?_);unfold Builtin.«getset_descriptor.__get__» descrGet;rw[dga_obj];refine a_ (e_ ?_);unfold descrGetter descrCheckInstance descrNameAndClass isInstance;simp only[KF.owner_class];repeat lk
 refine⟨Code.quiet_builtin _ ∅,codeAny_builtin KF.entry_class ?_⟩;unfold Builtin.«object.__class__» shownTypeOf
 repeat lk
 exact hq
def vH {K:Frag}{os:OsState}(a:ExcAt K C)  (X:K.In hh)(I:IX hh x C)(hq:Q (.done (.ret (.ref C))) ⟨hh,g,d,t,os⟩) :
  Κ (Μ prog w) A (Builtin.«object.__getattribute__» ⟨[.ref x,.str "__class__" tk],[]⟩) Q E ⟨hh,g,d,t,os⟩:=by
 have y0:=I.type (M:=Μ prog w);have y1:=looks_findIn (M:=Μ prog w) X a.cl;have y5:=F.typeOf_object_class;have y6:=F.slot_gs_get.lookup;have y7:=F.slot_gs_set.lookup
 repeat (any_goals (first|assumption|with_reducible refine Looks.at (by assumption) ?_|wp_step))
 refine xq X I a.ob ?_
 repeat (any_goals (first|assumption|wp_step))
def vI {K:Frag}{os:OsState}(a:ExcAt K C)  (X:K.In hh)(I:IX hh x C)(hq:Q () ⟨hh,g,d,t,os⟩) :
  Κ M A (checkBuiltinCall "BaseException.__getattribute__" ⟨[.ref x,TF],[]⟩) Q E ⟨hh,g,d,t,os⟩:=by
 have e1:builtinKind "BaseException.__getattribute__" = Δ .slot:=∅
 have e2:splitId "BaseException.__getattribute__" = Δ ("BaseException","__getattribute__"):=∅
 have y0:=I.type (M:=M);have y1:=looks_mroIn (M:=M) X a.be;have ha:=F.args_bexc_ga (.ref x) TF;simp only[checkBuiltinCall,e1,e2];refine a_ ?_;unfold isInstance
 repeat (any_goals (first|assumption|with_reducible refine Looks.at (by assumption) ?_|wp_step))
def Dk {K:Frag}{os:OsState}(a:ExcAt K C)  {fill:Bool}  (X:K.In hh)(I:IX hh x C)(hq:Q (.ref C) ⟨hh,g,d,t,os⟩) :
  Κ (Μ prog w) A (getAttrBy (.ref x) (.str "__class__" tk) fill) Q E ⟨hh,g,d,t,os⟩:=by
 have y0:=I.type (M:=Μ prog w);have y1:=looks_findIn (M:=Μ prog w) X a.ga;have y2:=looks_findIn (M:=Μ prog w) X a.no;have f3:=F.attr_ValueError.ga.bind (.ref x);have y4:(onTheHeap (θ C)&&Value.builtin "BaseException.__getattribute__" == Value.builtin "object.__getattribute__")=Ξ:=by rw[show(Value.builtin "BaseException.__getattribute__" == Value.builtin "object.__getattribute__")=Ξ by decide +kernel];rfl
 repeat (any_goals (first|assumption|with_reducible refine Looks.at (by assumption) ?_|wp_step))
 refine codeAny_call_builtin F.attr_ValueError.ga.plain F.entry_bexc_ga (vI a X I (vH a X I ?_))
 repeat (any_goals (first|assumption|wp_step))
def xu {K:Frag}{os:OsState}(a:ExcAt K C)  (X:K.In hh)(I:IX hh x C)(hq:Q (Δ (.ref C)) ⟨hh,g,d,t+1,os⟩) :
  Κ (Μ prog w) A (getAttr? (.ref x) "__class__") Q E ⟨hh,g,d,t,os⟩:=by
 unfold getAttr? getAttrBy?
 repeat (any_goals (first|assumption|with_reducible apply Dk a X I|wp_step))
def rb {K:Frag}{x C:Ω}(a:ExcAt K C):KitX K (.ref x) (.ref C) (λh=>IX h x C) where
 ty:=λ_ _ _ I=>I.type
 it:=λ_ _ X _=>by
  have z:=a.is;unfold clsIn at z;split at z
  ·rename_i ho
   intro A' Q' E' s' k q;unfold isType loadHead;exact a_ (wpAny_loadPart (k _ _ (X _ _ ho)) (e_ q))
  ·cases z
 ne:=λh tp dd its n sl X htp=>by
  have z:=a.is;refine Bool.eq_false_iff.mpr λq=>?_;have e:C=tp:=Value.ref.inj (beq_iff_eq.mp q);subst e;unfold clsIn at z;split at z
  ·rename_i ho
   cases(X _ _ ho).symm.trans htp
  ·cases z
 ca:=λ{_ _ _ _ _ s} X I k=>by obtain⟨hh,g,d,t,os⟩:=s;exact xu a X I k
end
def qo {K:Frag}  (lo hi:Option Int)(m:IM K S H vs ds):IM K S H (qO vs lo hi) (jY ds lo hi):=by unfold qO jY;rw[m.length];exact(m.drop _).take _
def AB:S2 X (Ia X.K ex):=by
 intro pins s σ H x v vl vu lo hi sl Q I rx hs pl pu h;obtain⟨S,d,hx,h⟩:=h
 induction d using zD with
 |lst o ds=>obtain⟨a,xs,rfl,q,m⟩:=hx.Kj;exact tY pins s σ H _ v vl vu lo hi sl Q I rx hs pl pu ⟨a,xs,rfl,q,λp hp=>h.ok _ _ (.upd hp) (xl hp (qo lo hi m))⟩
 |tup ds=>obtain⟨a,xs,rfl,q,m⟩:=hx.Kc;obtain⟨g,h⟩:=IP.JA (show IP ex (JA (!(decide (HT.J1 ds.length 0 lo=0)&&decide (HT.J1 ds.length ds.length hi=ds.length))) (.ok (.tup (jY ds lo hi)))) (Kk X.K S H Q) from h);refine MQ pins s σ H _ v vl vu lo hi sl Q I rx hs pl pu ⟨a,xs,rfl,q,λz=>?_,λp hp=>h.ok _ _ (.upd hp) (Dh hp (qo lo hi m))⟩;rw[m.length]at z;rw[y_ z.1,y_ z.2]at g;cases g
 |str z=>cases hx.Kg;obtain⟨g,h⟩:=IP.JA h;exact Dj pins s σ H _ v vl vu lo hi sl Q I rx hs pl pu ⟨z,rfl,jn g,h.ok _ _ (.refl _) (.str _)⟩
 |_=>exact h.no.elim
def rf:∀ {us:Ï},Vals (ns.map V.str) us->StrsAre us ns:=by
 induction ns with
 |nil=>intro us r;rw[List.map_nil]at r;cases r;exact .nil
 |cons n ns ih=>
  intro us r;rw[b_]at r;cases r with
  |cons r1 r2=>obtain⟨t,e⟩:=r1;subst e;exact .cons n t (ih r2)
theorem oD:∀ {ds:Ð}{ns:Ë},kf ds=Δ ns->ds=ns.map .int
 |[],ns,h=>by cases h;rfl
 |.int i::r,ns,h=>by
  have h':(kf r).map (i::·)=Δ ns:=h;cases q:kf r with
  |none=>rw[q]at h';cases h'
  |some ms=>rw[q]at h';cases h';rw[oD q];rfl
 |.JF::_,_,h=>by cases h
 |.bl _::_,_,h=>by cases h
 |.str _::_,_,h=>by cases h
 |.tup _::_,_,h=>by cases h
 |.lst _ _::_,_,h=>by cases h
theorem oE:∀ {ds:Ð}{ns:È},kg ds=Δ ns->ds=ns.map .str
 |[],ns,h=>by cases h;rfl
 |.str i::r,ns,h=>by
  have h':(kg r).map (i::·)=Δ ns:=h;cases q:kg r with
  |none=>rw[q]at h';cases h'
  |some ms=>rw[q]at h';cases h';rw[oE q];rfl
 |.JF::_,_,h=>by cases h
 |.bl _::_,_,h=>by cases h
 |.int _::_,_,h=>by cases h
 |.tup _::_,_,h=>by cases h
 |.lst _ _::_,_,h=>by cases h
theorem mW:∀ {ds:Ð}{ns:List Bool},jR ds=Δ ns->ds=ns.map .bl
 |[],ns,h=>by cases h;rfl
 |.bl i::r,ns,h=>by
  have h':(jR r).map (i::·)=Δ ns:=h;cases q:jR r with
  |none=>rw[q]at h';cases h'
  |some ms=>rw[q]at h';cases h';rw[mW q];rfl
 |.JF::_,_,h=>by cases h
 |.str _::_,_,h=>by cases h
 |.int _::_,_,h=>by cases h
 |.tup _::_,_,h=>by cases h
 |.lst _ _::_,_,h=>by cases h
def vJ (hc:X.calm=Θ):jX X (.builtin "all") (λxs H Q=>∃(p:Ω) (bs:List Bool),xs=[.ref p]/\K2 X.K H p (bs.map V.bl)/\Q (.bl (bs.all id)) H):=by
 intro pins s σ H xs us Q I r h;obtain⟨p,bs,rfl,hq,q⟩:=h;obtain⟨u,rfl,rx⟩:=vals1 r;cases rx;obtain⟨its,rv,pl,hz⟩:=I.list hq;have hl:=rv.length;rw[i_]at hl;have JZ:p < s.heap.objs.size:=by obtain⟨o,e,_⟩:=pl.isList;exact j_ e
 refine call_all_walk (aaq pl.isList ?_);refine⟨s.heap.objs.size,_,_,_,_,_,λi=>bs.getD i Θ,rfl,Walks.list (A:=X.A.in1) (show X.A.in1.handled=Φ from I.ok.hd hc) s.heap.objs.size p (o_ JZ) its.toArray,⟨⟨_,w_ _ rfl,rfl,rfl⟩,?_⟩,?_,?_⟩
 ·obtain⟨o,e,c,n,d⟩:=pl.isList;exact⟨o,m_ _ e,c,n,d⟩
 ·intro i v s' Q' E' hv WT;have MI:its[i]? = Δ v:=by simpa using hv
  have Ov:i < bs.length:=by have:=(x_.mp MI).1;omega
  obtain⟨u,hu,ru⟩:=rv.get (i:=i) (x:=.bl bs[i]) (by rw[D_,C_ Ov];rfl);rw[MI]at hu;cases hu;cases ru;refine wpAny_truthy_bool ?_;have e:bs.getD i Θ=bs[i]:=by simp[List.getD,Ov]
  rw[<- e];exact WT
 ·intro h' tk kp;have LY:(List.range its.toArray.size).all (λi=>bs.getD i Θ)=bs.all id:=by
   rw[show its.toArray.size=bs.length by simp[hl]];rw[Bool.eq_iff_iff,z_,z_];constructor
   ·intro z b hb;obtain⟨i,hi,rfl⟩:=List.getElem_of_mem hb;have:=z i (aag.mpr hi);simpa[List.getD,hi] using this
   ·intro z i hi;have Ms:=aag.mp hi;have:=z bs[i] (aai Ms);simpa[List.getD,Ms] using this
  rw[LY];refine⟨.bl (bs.all id),H,I.kept (t':=tk) λb o e=>kp b o ?_ (m_ _ e),rfl,q⟩;intro hm;have hb:b=s.heap.objs.size:=by simpa using hm
  subst hb;exact absurd (j_ e) (S_ _)
def vK (hc:X.calm=Θ):jX X (.builtin "any") (λxs H Q=>∃(p:Ω) (bs:List Bool),xs=[.ref p]/\K2 X.K H p (bs.map V.bl)/\Q (.bl (bs.any id)) H):=by
 intro pins s σ H xs us Q I r h;obtain⟨p,bs,rfl,hq,q⟩:=h;obtain⟨u,rfl,rx⟩:=vals1 r;cases rx;obtain⟨its,rv,pl,hz⟩:=I.list hq;have hl:=rv.length;rw[i_]at hl;have JZ:p < s.heap.objs.size:=by obtain⟨o,e,_⟩:=pl.isList;exact j_ e
 refine call_any_walk (aaq pl.isList ?_);refine⟨s.heap.objs.size,_,_,_,_,_,λi=>bs.getD i Ξ,rfl,Walks.list (A:=X.A.in1) (show X.A.in1.handled=Φ from I.ok.hd hc) s.heap.objs.size p (o_ JZ) its.toArray,⟨⟨_,w_ _ rfl,rfl,rfl⟩,?_⟩,?_,?_⟩
 ·obtain⟨o,e,c,n,d⟩:=pl.isList;exact⟨o,m_ _ e,c,n,d⟩
 ·intro i v s' Q' E' hv WT;have MI:its[i]? = Δ v:=by simpa using hv
  have Ov:i < bs.length:=by have:=(x_.mp MI).1;omega
  obtain⟨u,hu,ru⟩:=rv.get (i:=i) (x:=.bl bs[i]) (by rw[D_,C_ Ov];rfl);rw[MI]at hu;cases hu;cases ru;refine wpAny_truthy_bool ?_;have e:bs.getD i Ξ=bs[i]:=by simp[List.getD,Ov]
  rw[<- e];exact WT
 ·intro h' tk kp;have LY:(List.range its.toArray.size).any (λi=>bs.getD i Ξ)=bs.any id:=by
   rw[show its.toArray.size=bs.length by simp[hl]];rw[Bool.eq_iff_iff,List.any_eq_true,List.any_eq_true];constructor
   ·rintro⟨i,hi,z⟩;have Ms:=aag.mp hi;exact⟨bs[i],aai Ms,by simpa[List.getD,Ms] using z⟩
   ·rintro⟨b,hb,z⟩;obtain⟨i,hi,rfl⟩:=List.getElem_of_mem hb;exact⟨i,aag.mpr hi,by simpa[List.getD,hi] using z⟩
  rw[LY];refine⟨.bl (bs.any id),H,I.kept (t':=tk) λb o e=>kp b o ?_ (m_ _ e),rfl,q⟩;intro hm;have hb:b=s.heap.objs.size:=by simpa using hm
  subst hb;exact absurd (j_ e) (S_ _)
abbrev kY:Bi->Str
 |.len=>"len" |.min2=>"min" |.max2=>"max" |.tuple=>"tuple" |.all=>"all" |.any=>"any" |.abs=>"abs"
abbrev Fq:Bi->Bool
 |.tuple=>Θ
 |_=>Ξ
abbrev Fs:Bi->String
 |.len=>"len" |.min2=>"min" |.max2=>"max" |.tuple=>"tuple" |.all=>"all" |.any=>"any" |.abs=>"abs"
abbrev xw (f:Bi):Ψ:=if Fq f=Θ then .type (Fs f) else .builtin (Fs f)
def uh (f:Bi):bootBuiltins (kY f)=Δ (xw f):=by cases f<;>decide +kernel
def Zh (K:Frag)(ex:Æ)(f:Bi):Ñ->Hp->VK->Prop:=λxs H Q=>∃S ds,IM K S H xs ds/\IP ex (lC f ds) (Kk K S H Q)
def IM.TH {K:Frag}  (h:IM K S H xs [d]):∃x,xs=[x]/\IU K S H x d:=by
 cases h with
 |cons h1 h2=>cases h2;exact⟨_,rfl,h1⟩
def IM.WU {K:Frag}  (h:IM K S H xs [d,e]):∃x y,xs=[x,y]/\IU K S H x d/\IU K S H y e:=by
 cases h with
 |cons h1 h2=>
  cases h2 with
  |cons h3 h4=>cases h4;exact⟨_,_,rfl,h1,h3⟩
def AE (hc:X.calm=Θ)(f:Bi):jX X (xw f) (Zh X.K ex f):=by
 intro pins s σ H xs us Q I r h;obtain⟨S,ds,hx,h⟩:=h;have stuck:∀ {P:Prop},lC f ds=JE->P:=λz=>by rw[z]at h;exact h.no.elim
 match ds,hx with
 |[],hx=>exact stuck rfl
 |d::e::g::r',hx=>exact stuck rfl
 |[d,e],hx=>
  obtain⟨x,y,rfl,hd,he⟩:=hx.WU;cases f with
  |min2=>
   induction d using zD with
   |int a=>
    induction e using zD with
    |int b=>cases hd.JN;cases he.JN;exact vg hc pins s σ H _ us Q I r ⟨a,b,rfl,h.ok _ _ (.refl _) (.int _)⟩
    |_=>exact stuck rfl
   |_=>exact stuck rfl
  |max2=>
   induction d using zD with
   |int a=>
    induction e using zD with
    |int b=>cases hd.JN;cases he.JN;exact vf hc pins s σ H _ us Q I r ⟨a,b,rfl,h.ok _ _ (.refl _) (.int _)⟩
    |_=>exact stuck rfl
   |_=>exact stuck rfl
  |_=>exact stuck rfl
 |[d],hx=>
  obtain⟨x,rfl,hd⟩:=hx.TH;cases f with
  |len=>
   induction d using zD with
   |str z=>cases hd.Kg;obtain⟨g,h⟩:=IP.JA h;exact n6 pins s σ H _ us Q I r ⟨_,_,rfl,⟨jn g,rfl⟩,h.ok _ _ (.refl _) (.int _)⟩
   |tup ds=>obtain⟨a,ys,rfl,q,m⟩:=hd.Kc;exact n6 pins s σ H _ us Q I r ⟨_,ds.length,rfl,.inr ⟨ys,q,m.length.symm⟩,h.ok _ _ (.refl _) (.int _)⟩
   |lst o ds=>obtain⟨a,ys,rfl,q,m⟩:=hd.Kj;exact n6 pins s σ H _ us Q I r ⟨_,ds.length,rfl,.inl ⟨ys,q,m.length.symm⟩,h.ok _ _ (.refl _) (.int _)⟩
   |_=>exact stuck rfl
  |all=>
   induction d using zD with
   |lst o ds=>
    obtain⟨a,ys,rfl,q,m⟩:=hd.Kj;have h':IP ex (match jR ds with|some bs=>.ok (.bl (bs.all id))|none=>JE) (Kk X.K S H Q):=h;cases z:jR ds with
    |none=>rw[z]at h';exact h'.no.elim
    |some ns=>rw[z]at h';rw[mW z]at m;rw[m.Zg]at q;exact vJ hc pins s σ H _ us Q I r ⟨a,ns,rfl,q,h'.ok _ _ (.refl _) (.bl _)⟩
   |_=>exact stuck rfl
  |any=>
   induction d using zD with
   |lst o ds=>
    obtain⟨a,ys,rfl,q,m⟩:=hd.Kj;have h':IP ex (match jR ds with|some bs=>.ok (.bl (bs.any id))|none=>JE) (Kk X.K S H Q):=h;cases z:jR ds with
    |none=>rw[z]at h';exact h'.no.elim
    |some ns=>rw[z]at h';rw[mW z]at m;rw[m.Zg]at q;exact vK hc pins s σ H _ us Q I r ⟨a,ns,rfl,q,h'.ok _ _ (.refl _) (.bl _)⟩
   |_=>exact stuck rfl
  |abs=>
   induction d using zD with
   |int i=>cases hd.JN;exact wx pins s σ H _ us Q I r ⟨i,rfl,h.ok _ _ (.refl _) (.int _)⟩
   |_=>exact stuck rfl
  |min2=>induction d using zD<;>exact stuck rfl
  |max2=>induction d using zD<;>exact stuck rfl
  |tuple=>induction d using zD<;>exact stuck rfl
abbrev mX:Kd->Str
 |.str=>"str" |.int=>"int" |.bool=>"bool" |.list=>"list" |.tuple=>"tuple"
abbrev xx:Kd->Ψ
 |.str=>.type "str" |.int=>.type "int" |.bool=>.type "bool" |.list=>.type "list" |.tuple=>.type "tuple"
def AF (k:Kd):bootBuiltins (mX k)=Δ (xx k):=by cases k<;>decide +kernel
abbrev dTy:D->Ψ
 |.JF=>.type "NoneType" |.bl _=>.type "bool" |.int _=>.type "int" |.str _=>.type "str" |.tup _=>.type "tuple" |.lst _ _=>.type "list" |.exc _=>.none
def AG (K:Frag)(k:Kd)(d:D)(hn:l7 d=Θ):PySem.W.kitOne K (dTy d) (xx k)=Δ (jE k d):=by cases k<;>induction d using zD<;>first|rfl|cases hn
def AH (I:Inv X pins σ H s)(rx:RelV x v)(hx:IU X.K S H x d)(k:Kd)(hn:l7 d=Θ)(h:Q (.bl (jE k d)) H) :
  Κ (Μ X.prog X.w) X.A (call (.builtin "isinstance") [v,xx k]) (EP X pins σ Q) X.xe s:=by
 have e:=AG X.K k d hn;have fin:∀tk,EP X pins σ Q (.bool (jE k d)) {s with toks:=tk}:=λtk=>⟨.bl _,H,I.tok _,rfl,h⟩
 induction d using zD with
 |JF=>cases hx.Mh;cases rx;exact PySem.W.kia_one PySem.W.kitx_none I.LV True.intro e (λz=>nomatch z) fin
 |bl b=>cases hx.OP;cases rx;exact PySem.W.kia_one PySem.W.kitx_bool I.LV True.intro e (λz=>nomatch z) fin
 |int b=>cases hx.JN;obtain⟨t,rfl⟩:=rx;exact PySem.W.kia_one PySem.W.kitx_int I.LV True.intro e (λz=>nomatch z) fin
 |str b=>cases hx.Kg;obtain⟨t,rfl⟩:=rx;exact PySem.W.kia_one PySem.W.kitx_str I.LV True.intro e (λz=>nomatch z) fin
 |tup ds=>obtain⟨a,ys,rfl,q,m⟩:=hx.Kc;cases rx;obtain⟨its,_,⟨o,h1,h2,_⟩,_⟩:=I.tuple q;exact PySem.W.kia_one PySem.W.kitx_tuple I.LV ⟨o,h1,h2⟩ e (λz=>nomatch z) fin
 |lst o ds=>obtain⟨a,ys,rfl,q,m⟩:=hx.Kj;cases rx;obtain⟨its,_,pl,_⟩:=I.list q;obtain⟨o,h1,h2,_⟩:=pl.isList;exact PySem.W.kia_one PySem.W.kitx_list I.LV ⟨o,h1,h2⟩ e (λz=>nomatch z) fin
 |exc c=>cases hn
def CV (X:Cx)(x:Str)(v:V):Prop:=(∃C,v=.ref C/\X.mg x=Δ (.ref C))∨(∃T,v=.ty T/\X.mg x=Φ/\bootBuiltins x=Δ (.type T))
abbrev vv:V->Ψ
 |.ref C=>.ref C
 |.ty T=>.type T
 |_=>.none
def CV.rel (h:CV X x v)(r:RelV v u):u=vv v:=by rcases h with⟨C,rfl,_⟩|⟨T,rfl,_⟩<;>exact r
def AJ (I:Inv X pins σ H s)(h:J8 X.K H a (.inr c))(hC:PySem.W.nsIn X.K Η c=Δ (Δ (.ref C)))(hA:ExcAt X.K C)(hk:PySem.W.kitOne X.K (.ref C) cv=Δ b)(q:Q (.bl b) H) :
  Κ (Μ X.prog X.w) X.A (call (.builtin "isinstance") [.ref a,cv]) (EP X pins σ Q) X.xe s:=by
 obtain⟨C',o,vs,h1,_,h3,h4,_⟩:=I.Ln h;rw[hC]at h1;cases h1;exact PySem.W.kia_one (rb hA) I.LV ⟨o,h3,h4⟩ hk (λz=>nomatch z) λtk=>⟨.bl _,H,I.tok _,rfl,q⟩
def AK {X:Cx}{pins:É}{s:Α}{σ:St}{H:Hp}{a p C:Ω}{c:Str}{v1 v2:V}{b:Bool}{Q:VK}{x1 x2:Str}(I:Inv X pins σ H s)(h:J8 X.K H a (.inr c))(hC:PySem.W.nsIn X.K Η c=Δ (Δ (.ref C)))(hA:ExcAt X.K C)(c1:CV X x1 v1)(c2:CV X x2 v2)(hp:K0 X.K H p [v1,v2])(hk:PySem.W.kitAny X.K (.ref C) [vv v1,vv v2]=Δ b)(q:Q (.bl b) H) :
  Κ (Μ X.prog X.w) X.A (call (.builtin "isinstance") [.ref a,.ref p]) (EP X pins σ Q) X.xe s:=by
 obtain⟨C',o,vs,h1,_,h3,h4,_⟩:=I.Ln h;rw[hC]at h1;cases h1;obtain⟨its,rv,⟨ot,e1,e2,e3⟩,_⟩:=I.tuple hp;obtain⟨u1,u2,rfl,r1,r2⟩:=vals2 rv;rw[<- c1.rel r1,<- c2.rel r2]at hk;obtain⟨k1,k2,k3,k4⟩:=ot;dsimp only at e2 e3;subst e2;obtain⟨n,e3⟩:=e3;subst e3;exact PySem.W.kia_tup (rb hA) I.LV ⟨o,h3,h4⟩ e1 hk (λz=>nomatch z) λtk=>⟨.bl _,H,I.tok _,rfl,q⟩
abbrev qp:Mt->Str
 |.join=>"join"
abbrev Ib:Mt->String
 |.join=>"str.join"
def Zi (K:Frag)(ex:Æ)(m:Mt):V->Ñ->Hp->VK->Prop:=λx xs H Q=>∃S d ds,IU K S H x d/\IM K S H xs ds/\IP ex (pC m d ds) (Kk K S H Q)
def xA (h:IP ex (pC m d ds) k):∃x,d=.str x:=by cases m<;>induction d using zD<;>first|exact⟨_,rfl⟩|exact h.no.elim
def AM (m:Mt):YI X (Ib m) (Zi X.K ex m):=by
 intro pins s σ H x xs v us Q I rx rs h;obtain⟨S,d,ds,hx,hs,h⟩:=h;obtain⟨z,rfl⟩:=xA h;cases hx.Kg;obtain⟨t,rfl⟩:=rx;have stuck:∀ {P:Prop},pC m (.str z) ds=JE->P:=λz=>by rw[z]at h;exact h.no.elim
 match ds,hs with
 |[],_=>cases m<;>exact stuck rfl
 |d::e::r,_=>cases m<;>induction d using zD<;>exact stuck rfl
 |[d],hs=>
  obtain⟨y,rfl,hd⟩:=hs.TH;obtain⟨u,rfl,ru⟩:=vals1 rs;cases m with
  |join=>
   induction d using zD with
   |lst o ds=>
    obtain⟨a,ys,rfl,q,m⟩:=hd.Kj;cases ru;have h':IP ex (match kg ds with|some ys=>JA (decide ((ys.map (·.length)).sum+ys.length*z.length<=16777216)) (.ok (.str (Txt.join z ys)))|none=>JE) (Kk X.K S H Q):=h;cases w:kg ds with
    |none=>rw[w]at h';exact h'.no.elim
    |some ns=>rw[w]at h';obtain⟨g,h'⟩:=IP.JA h';rw[oE w]at m;rw[m.strs]at q;obtain⟨its,rv,pl,_⟩:=I.list q;exact join_list pl.isList (by simpa using rf rv) (l_ g) λt' k=>⟨.str _,H,I.tok _,⟨_,rfl⟩,h'.ok _ _ (.refl _) (.str _)⟩
   |_=>exact stuck rfl
abbrev WV (x:Str):It:=⟨λi _=>i < x.cps.size,λi H v H'=>H'=H/\∃c,x.cps[i]? = Δ c/\v=.str ⟨#[c]⟩,λi _=>x.cps.size<=i⟩
def xC {P:Ε}{w:Β}{K:Frag}{tg:Expr}{it:Ω}{x:Str}{t:Tok}{ty:String}(Rz:ty = "str_ascii_iterator"∨ty = "str_iterator")
  (W:∀A':Ι,A'.handled=Φ->Walks P w A' it [it] [it] x.cps.size (SignAt x) (λi h=>h.IsStrIter it ty x t i)):Turn P w K tg (WV x) [it] it (λi h=>i<=x.cps.size/\h.IsStrIter it ty x t i) where
 mem:=by simp
 obj:=λi h st b hb=>by
  have e:b=it:=by simpa using hb
  subst e;obtain⟨_,o,e,c,d⟩:=st;exact⟨o,e,λv z=>by rw[d]at z;cases z⟩
 keep:=λi h h' st k=>by obtain⟨l,o,e,c,d⟩:=st;exact⟨l,o,k it (by simp) o e,c,d⟩
 item:=by intro X hP hw hK hc i pins s σ H E I hf st hg;subst hP hw hK;obtain⟨f0,f1,f2,f3,f4,f5⟩:=hf it (by simp);refine(W X.A (I.ok.hd hc)).item i s _ _ hg st.2 λv h' tk hv Oe kk=>?_;obtain⟨c,u,hcx,rfl⟩:=hv;have I1:Inv X pins σ H {s with heap:=h',toks:=tk}:=I.turned (λb o hb e=>kk b o (by simpa using hb) e) f0 f1 f3 f4 f5;obtain⟨o,e,cc,d⟩:=id Oe;refine⟨_,rfl,tR (s:={s with heap:=h',toks:=tk}) (n:=ty) e cc d (by rcases Rz with rfl|rfl<;>decide) ⟨.str ⟨#[c]⟩,H,I1,⟨u,rfl⟩,⟨rfl,c,hcx,rfl⟩,⟨hg,Oe⟩,λb hb=>(hf b hb).1⟩⟩
 done:=by intro X hP hw hK hc i pins s σ H E I hf st hg;subst hP hw hK;obtain⟨f0,f1,f2,f3,f4,f5⟩:=hf it (by simp);have e:i=x.cps.size:=Nat.le_antisymm st.1 hg;refine(W X.A (I.ok.hd hc)).done s _ _ (by rw[<- e];exact st.2) λh' tk kk=>⟨rfl,I.turned (λb o hb e=>kk b o (by simpa using hb) e) f0 f1 f3 f4 f5⟩
 self:=λA i s Q E st h=>by
  obtain⟨_,st⟩:=st;rcases Rz with rfl|rfl
  ·exact wpAny_pyIter_striter_ascii st h
  ·exact wpAny_pyIter_striter_wide st h
def Dl (I:Inv X pins σ H s)(q:R (WV x) H):Κ (Μ X.prog X.w) X.A (pyIter (.str x t)) (Rx X pins σ tg R) X.xe s:=by
 have fin:∀ty,(ty = "str_ascii_iterator"∨ty = "str_iterator")->(∀A':Ι,A'.handled=Φ->Walks X.prog X.w A' s.heap.objs.size [s.heap.objs.size] [s.heap.objs.size] x.cps.size (SignAt x) (λi h=>h.IsStrIter s.heap.objs.size ty x t i))->
   Rx X pins σ tg R (.ref s.heap.objs.size) {s with heap:=s.heap.push {cls:=.type ty,data:=.fields #[.str x t,.int 0 0]}}:=λty Rz W=>by
  refine⟨s.heap.objs.size,[s.heap.objs.size],_,_,H,rfl,I.kept (t':=s.toks) λb o e=>m_ _ e,xC Rz W,⟨R_ _,_,w_ _ rfl,rfl,rfl⟩,λb hb=>?_,q⟩;have e:b=s.heap.objs.size:=by simpa using hb
  subst e;exact I.Ny (q_ _) (I.JO.fresh (q_ _))
 cases ha:x.cps.all (· < 128)
 ·exact wpAny_pyIter_wide ha (fin _ (.inr rfl) λA' hA=>Walks.strWide hA _ x t)
 ·exact wpAny_pyIter_ascii ha (fin _ (.inl rfl) λA' hA=>Walks.strAscii hA _ x t)
def ji.at (x:ji H h a o):∃ob,h.get? a=Δ ob:=by
 cases o with
 |lst xs=>obtain⟨_,_,_,_,e⟩:=x;exact⟨_,e⟩
 |tup xs=>obtain⟨_,_,_,ob,e,_⟩:=x;exact⟨_,e⟩
 |own y=>exact x
 |NU lo hi=>obtain⟨_,_,_,e⟩:=x;exact⟨_,e⟩
 |JQ ob u=>exact⟨_,x.1⟩
 |PK ps=>exact⟨_,x⟩
 |ext φ=>exact x.2.1
abbrev indep:HO->Bool
 |.lst _=>Θ
 |.tup _=>Θ
 |.ext _=>Θ
 |_=>Ξ
def rh (i:indep u=Θ)(x:ji H h a u):ji H' h a u:=by
 cases u with
 |lst _=>exact x
 |tup _=>exact x
 |ext _=>exact x
 |_=>cases i
abbrev iV (h:Heap)(H:Hp):Hp:=λb=>match H b with
 |some (.lst xs)=>(h.get? b).map λo=>.JQ o (.lst xs)
 |some (.tup xs)=>Δ (.tup xs)
 |some (.JQ o u)=>if indep u=Θ then Δ (.JQ o u) else Φ
 |_=>Φ
abbrev me (H H':Hp):Hp:=λb=>match H b with
 |some o=>Δ o
 |none=>H' b
def Pl (H:Hp):Prop:=∀b o,H b=Δ o->(∃ob u,o=.JQ ob u)∨∃xs,o=.tup xs
def xD (h:Heap)(H:Hp):Pl (iV h H):=λb o e=>by
 unfold iV at e;split at e
 ·obtain⟨ob,_,rfl⟩:=Option.map_eq_some_iff.mp e;exact .inl ⟨_,_,rfl⟩
 ·cases e;exact .inr ⟨_,rfl⟩
 ·split at e
  ·cases e;exact .inl ⟨_,_,rfl⟩
  ·cases e
 ·cases e
structure MY (h:Heap)(Hc H':Hp):Prop where
 Kr:∀b o u,Hc b=Δ (.JQ o u)->H' b=Δ (.JQ o u)
 KD:∀b xs,Hc b=Δ (.tup xs)->H' b=Δ (.tup xs)
 free:∀b o,h.get? b=Δ o->Hc b=Φ->H' b=Φ
inductive Bk (h:Heap)(H H':Hp)(b:Ω):HO->Prop where
 | lst {xs:Ñ}{ob:Obj}:h.get? b=Δ ob->H' b=Δ (.JQ ob (.lst xs))->Bk h H H' b (.lst xs)
 | tup {xs:Ñ}:H' b=Δ (.tup xs)->Bk h H H' b (.tup xs)
 | JQ {o:Obj}{u:HO}:indep u=Θ->H' b=Δ (.JQ o u)->Bk h H H' b (.JQ o u)
 | K6 {o:HO}{ob:Obj}:h.get? b=Δ ob->iV h H b=Φ->H' b=Φ->(∀xs,o≠.lst xs)->(∀xs,o≠.tup xs)->Bk h H H' b o
def pU (x:Kw H h)(p:MY h (iV h H) H')  (e:H b=Δ o):Bk h H H' b o:=by
 obtain⟨ob,he⟩:=(x b o e).at
 have hc:iV h H b=(match(Δ o:Option HO) with
  |some (.lst xs)=>(h.get? b).map λo=>.JQ o (.lst xs)
  |some (.tup xs)=>Δ (.tup xs)
  |some (.JQ o u)=>if indep u=Θ then Δ (.JQ o u) else Φ
  |_=>Φ):=by unfold iV;rw[e]
 cases o with
 |lst xs=>have hc:iV h H b=(h.get? b).map λo=>.JQ o (.lst xs):=hc;rw[he]at hc;exact .lst he (p.Kr _ _ _ hc)
 |tup xs=>exact .tup (p.KD _ _ hc)
 |JQ o' u=>
  have hc:iV h H b=if indep u=Θ then Δ (.JQ o' u) else Φ:=hc
  by_cases i:indep u=Θ
  ·rw[h_ i]at hc;exact .JQ i (p.Kr _ _ _ hc)
  ·rw[f_ i]at hc;exact .K6 he hc (p.free _ _ he hc) (λ_ z=>by cases z) (λ_ z=>by cases z)
 |_=>exact .K6 he hc (p.free _ _ he hc) (λ_ z=>by cases z) (λ_ z=>by cases z)
def xE (x:Kw H h):Kw (iV h H) h:=λb o e=>by
 cases q:H b with
 |none=>unfold iV at e;rw[q]at e;cases e
 |some u=>
  have y:=x b u q;unfold iV at e;rw[q]at e;cases u with
  |lst xs=>
   obtain⟨ob,he⟩:=y.at
   have e:(h.get? b).map (λo=>HO.JQ o (.lst xs))=Δ o:=e;rw[he]at e;cases e;exact⟨he,y⟩
  |tup xs=>cases e;exact y
  |JQ o' u=>
   have e:(if indep u=Θ then Δ (HO.JQ o' u) else Φ)=Δ o:=e;by_cases i:indep u=Θ
   ·rw[h_ i]at e;cases e;exact⟨y.1,rh i y.2⟩
   ·rw[f_ i]at e;cases e
  |_=>cases e
def jT (e:H a=Φ):iV h H a=Φ:=by unfold iV;rw[e]
def res_some (e:H b=Δ o):me H H' b=Δ o:=by unfold me;rw[e]
def res_none (e:H b=Φ):me H H' b=H' b:=by unfold me;rw[e]
def rj:ik H (me H H'):=λb o e=>res_some e
def sM {H H':Hp}{h g:Heap}(x:Kw H h)(y:Kw H' g)(p:MY h (iV h H) H'){fs:Î}(keep:∀b o,H b≠Φ->h.get? b=Δ o->iV h H b=Φ->b∉fs->g.get? b=Δ o)(fr:∀b∈fs,H b=Φ):Kw (me H H') g:=by
 have tp:∀c xs,H' c=Δ (.tup xs)->me H H' c=Δ (.tup xs):=λc xs e=>by
  cases q:H c with
  |none=>rw[res_none q];exact e
  |some o=>
   rw[res_some q];cases pU x p q with
   |lst _ z=>rw[z]at e;cases e
   |tup z=>rw[z]at e;exact e
   |JQ _ z=>rw[z]at e;cases e
   |K6 _ _ z _ _=>rw[z]at e;cases e
 intro b o e;cases q:H b with
 |some o'=>
  rw[res_some q]at e;cases e;cases pU x p q with
  |lst h1 z=>have h2:=(y b _ z).1;obtain⟨a1,its,n,a2,a3⟩:=x b _ q;rw[h1]at a3;exact⟨a1,its,n,a2,by rw[h2,<- a3]⟩
  |tup z=>exact y b _ z
  |JQ i z=>exact⟨(y b _ z).1,rh i (y b _ z).2⟩
  |K6 h1 h2 z n1 n2=>
   refine(x b _ q).Li (λc u hc hu=>?_) (λc hc=>res_some hc) λc xs hc=>res_some hc;rcases hc with rfl|hc
   ·exact keep _ _ (by rw[q];simp) hu h2 λz=>by rw[fr _ z]at q;cases q
   ·refine keep _ _ (by rw[hc];simp) hu ?_ λz=>by rw[fr _ z]at hc;cases hc
    unfold iV;rw[hc]
 |none=>
  rw[res_none q]at e;refine(y b o e).Li (λ_ _ _ z=>z) (λc hc=>?_) tp;cases q':H c with
  |none=>rw[res_none q'];exact hc
  |some o'=>
   exfalso;cases pU x p q' with
   |lst _ z=>rw[z]at hc;cases hc
   |tup z=>rw[z]at hc;cases hc
   |JQ _ z=>rw[z]at hc;cases hc
   |K6 _ _ z _ _=>rw[z]at hc;cases hc
def mf (u:Un fs [] (iV h H) H' h g):MY h (iV h H) H':=⟨u.Kr,u.KD,λb o e n=>u.free b o e n (by simp)⟩
def sN {H H':Hp}{h g:Heap}{fs:Î}(x:Kw H h)(u:Un fs [] (iV h H) H' h g):Un fs [] H (me H H') h g where
 keep:=λb o e n f i=>u.keep b o e (jT n) f i
 slot:=λb o e n f i=>u.slot b o e (jT n) f i
 free:=λb o e n i=>by rw[res_none n];exact u.free b o e (jT n) i
 there:=u.there
 KD:=λb xs e=>res_some e
 Kr:=λb o v e=>res_some e
 LK:=λb ps e=>⟨#[],by rw[res_some e];simp⟩
abbrev H0:Hp:=λ_=>Φ
def KI:Mp:=λouter H s E e s'=>∃(a:Ω) (cls a0:Ψ) (H':Hp) (B:Heap),e=.ref a/\s'.os=s.os/\AllBare s'.gens/\Un (KC outer) [] H H' s.heap s'.heap/\Kw H' B/\ik H H'/\
 (∀b o,s.heap.get? b=Δ o->H b=Φ->b∉KC outer->B.get? b=Δ o)/\Heap.FlyingW B outer a cls a0 s'.heap/\E cls Φ H0
@[reducible]def _root_.Ö:=XK->Hp->Æ
def Mw (K:Frag):Ö:=λE _ c=>∀C,PySem.W.nsIn K Η c=Δ (Δ (.ref C))->E (.ref C) Φ H0
abbrev i7:È:=["len","sum","min","max","sorted","list","tuple","ord","int","all","any","str","set","abs","isinstance","range","bool","zip","reversed","dict","enumerate"]
abbrev rl:Bi->Nat
 |.len=>0|.min2=>2|.max2=>3|.tuple=>6|.all=>9|.any=>10|.abs=>13
abbrev xF:Kd->Nat
 |.str=>11|.int=>8|.bool=>16|.list=>5|.tuple=>6
def xG (f:Bi):i7[rl f]? = Δ (kY f):=by cases f<;>rfl
def Dm (f:Kd):i7[xF f]? = Δ (mX f):=by cases f<;>rfl
mutual
noncomputable def xH:D->D->Bool
 |.JF,.JF=>Θ
 |.bl a,.bl b=>a == b
 |.int a,.int b=>a == b
 |.str a,.str b=>a == b
 |.tup a,.tup b=>oF a b
 |.lst o a,.lst o' b=>o == o'&&oF a b
 |_,_=>Ξ
noncomputable def oF:Ð->Ð->Bool
 |[],[]=>Θ
 |a::r,b::s=>xH a b&&oF r s
 |_,_=>Ξ
end
mutual
theorem ui:∀ {a b:D},xH a b=Θ->a=b
 |.JF,b,h=>by cases b<;>first|rfl|cases h
 |.bl a,b,h=>by cases b<;>first|(rw[g_ (show(a == _)=Θ from h)])|cases h
 |.int a,b,h=>by cases b<;>first|(rw[g_ (show(a == _)=Θ from h)])|cases h
 |.str a,b,h=>by cases b<;>first|(rw[g_ (show(a == _)=Θ from h)])|cases h
 |.tup a,b,h=>by
  induction b using zD with
  |tup b=>rw[oG (show oF a b=Θ from h)]
  |_=>cases h
 |.lst o a,b,h=>by
  induction b using zD with
  |lst o' b=>have h':(o == o'&&oF a b)=Θ:=h;rw[d_]at h';rw[g_ h'.1,oG h'.2]
  |_=>cases h
theorem oG:∀ {a b:Ð},oF a b=Θ->a=b
 |[],b,h=>by cases b<;>first|rfl|cases h
 |a::r,b,h=>by
  induction b using zL with
  |nil=>cases h
  |cons b s=>have h':(xH a b&&oF r s)=Θ:=h;rw[d_]at h';rw[ui h'.1,oG h'.2]
end
structure Sg where
 nm:È
 TJ:List (Nat×D)
 fns:Ê
 cls:Ê:=[]
 xt:List (Str×Nat×Bool):=[]
 pl:Ê:=[]
 rc:List (Nat×Str):=[]
 xm:List (Str×Nat):=[]
 LO:Ê:=[]
abbrev Sg.name (Z:Sg)(n:Nat):Option Str:=(i7++Z.nm)[n]?
abbrev Gm.Nq (G:Gm)(n:Nat):Bool:=G.cm&&G.gl.contains n
def sO {G:Gm}  (h:G.Nq n=Θ):G.gl.contains n=Θ:=by unfold Gm.Nq at h;rw[d_]at h;exact h.2
def sP {G:Gm}  (h:G.Nq n=Θ):G.cm=Θ:=by unfold Gm.Nq at h;rw[d_]at h;exact h.1
abbrev Sg.Pm (Z:Sg)(G:Gm)(f:Nat):Bool:=Z.fns.contains f&&(G.cm||Z.pl.contains f)
def qr {Z:Sg}{G:Gm}  (h:Z.Pm G f=Θ):f∈Z.fns/\(G.cm=Θ∨f∈Z.pl):=by unfold Sg.Pm at h;rw[d_,J_]at h;exact⟨by simpa using h.1,h.2.elim .inl λz=>.inr (by simpa using z)⟩
abbrev notStar:Expr->Bool
 |.Starred ..=>Ξ
 |_=>Θ
abbrev jr:Expr->Bool
 |.Slice ..=>Ξ
 |_=>Θ
abbrev rm:Expr->Bool
 |.Call _ [] [] _=>Ξ
 |_=>Θ
abbrev lD (G:Gm)(i:Nat)(x:Str):Bool:=G.N[i]? == Δ x&&(G.kd[i]? == Δ .local||G.kd[i]? == Δ .cell||G.kd[i]? == Δ .free)
abbrev jl (Z:Sg)(G:Gm)(n:Nat)(x:Str):Bool:=Z.name n == Δ x&&G.gl.contains n
abbrev Ft:D->Const->Bool
 |.int i,.int j=>i == j
 |.str x,.str y=>x == y
 |.bl a,.bool b=>a == b
 |.JF,.none=>Θ
 |_,_=>Ξ
mutual
noncomputable def jI (G:Gm):Tg->Expr->Bool
 |.nm i,.Name x _=>(G.N[i]? == Δ x&&(G.kd[i]? == Δ .local||(G.df&&G.kd[i]? == Δ .cell)))&&G.io != Δ i
 |.tp ts,.Tuple es _ _=>G.cm&&lH G ts es
 |_,_=>Ξ
noncomputable def lH (G:Gm):List Tg->Â->Bool
 |[],[]=>Θ
 |t::ts,e::es=>notStar e&&jI G t e&&lH G ts es
 |_,_=>Ξ
end
mutual
noncomputable def Lf:Tg->Ê
 |.nm i=>[i]
 |.tp ts=>oH ts
noncomputable def oH:List Tg->Ê
 |[]=>[]
 |t::ts=>Lf t++oH ts
end
abbrev kr (Z : Sg)(G : Gm)(scope : Scope)(G' : Gm)(fr : Ê) : Bool :=
  (G.cm&&scope.kind == .function)&&!G'.tr&&!G'.df&&G'.kd.length == G'.N.length
 &&scope.names.all (λy =>y.2 != .cell)&&scope.names.all (λy =>y.2 != .local||scope.names.lookup y.1 == Δ .local)
 &&scope.names.all (λy =>y.2 != .free||(List.range G.N.length).any λi =>G.N[i]? == Δ y.1&&(G.kd[i]? == Δ .cell||G.kd[i]? == Δ .free))
 &&(List.range fr.length).all (λj =>G'.N[j]? == (fr[j]?).bind (G.N[·]?)&&((G'.N[j]?).bind (scope.names.lookup ·) == Δ .free)&&((fr[j]?).bind (G.kd[·]?) == Δ .cell||(fr[j]?).bind (G.kd[·]?) == Δ .free)
     &&(G'.kd[j]? == Δ (if((fr[j]?).bind (G.kd[·]?) == Δ .cell) then .cell else .free)))
 &&decide (fr.length <= G'.N.length)
 &&((List.range G'.N.length).drop fr.length).all (λj =>(G'.N[j]?).bind (scope.names.lookup ·) == Δ .local&&G'.kd[j]? == Δ .local)
 &&G'.N.all (λx =>!(x == "__debug__")&&!(x == "__classdict__"))
 &&decide (G'.N.Nodup)
 &&G'.gl.all (λn =>match Z.name n with|some x =>scope.names.lookup x == Δ .globalImplicit|none =>Ξ)
def ip {P:Prop}(h:Ξ=Θ):P:=by cases h
abbrev xI:List Comprehension->(Expr->Expr->Â->Bool)->Bool
 |[⟨t,it,fs,0⟩],k=>k t it fs
 |_,_=>Ξ
local macro_rules | `(tactic| exists $h) =>`(tactic| first | exact L2.ip $h | cases($h))
def mh (h:xI gens k=Θ):∃t it fs,gens=[⟨t,it,fs,0⟩]/\k t it fs=Θ:=by
 unfold xI at h;split at h
 ·exact⟨_,_,_,rfl,h⟩
 ·cases h
abbrev Lg (k:Str->Bool):Expr->Bool
 |.Name z _=>k z
 |_=>Ξ
def iY (h:Lg k e=Θ):∃z p,e=.Name z p/\k z=Θ:=by
 induction e using zE with
 |Name z p=>exact⟨z,p,rfl,h⟩
 |_=>exact ip h
abbrev LA {α:Type}:List α->(α->Bool)->Bool
 |a::r,k=>r.isEmpty&&k a
 |[],_=>Ξ
def iS (h:LA l k=Θ):∃a,l=[a]/\k a=Θ:=by
 induction l using zL with
 |nil=>exact ip h
 |cons a r=>
  induction r using zL with
  |nil=>exact⟨a,rfl,h⟩
  |cons b r=>exact ip h
abbrev NG:Expr->(Expr->Â->Pos->Bool)->Bool
 |.Call f as ks p,k=>ks.isEmpty&&k f as p
 |_,_=>Ξ
def j5 (h:NG e k=Θ):∃f as p,e=.Call f as [] p/\k f as p=Θ:=by
 induction e using zE with
 |Call f as ks p=>
  induction ks using zL with
  |nil=>exact⟨f,as,p,rfl,h⟩
  |cons b r=>exact ip h
 |_=>exact ip h
abbrev TK (k:Â->Bool):Expr->Bool
 |.Tuple es _ _=>k es
 |_=>Ξ
def qs (h:TK k e=Θ):∃es c p,e=.Tuple es c p/\k es=Θ:=by
 induction e using zE with
 |Tuple es c p=>exact⟨es,c,p,rfl,h⟩
 |_=>exact ip h
abbrev P9:Â->(Expr->Expr->Bool)->Bool
 |a::r,k=>LA r (k a)
 |[],_=>Ξ
def lN (h:P9 l k=Θ):∃a b,l=[a,b]/\k a b=Θ:=by
 induction l using zL with
 |nil=>exact ip h
 |cons a r=>obtain⟨b,rfl,h⟩:=iS (show LA r (k a)=Θ from h);exact⟨a,b,rfl,h⟩
abbrev Fu (k:Expr->Expr->Bool):Â->Bool
 |[a,b]=>k a b
 |_=>Ξ
abbrev BJ (Z:Sg)(G:Gm):Ê->Expr->Bool
 |[n],e=>Lg (λz=>jl Z G n z&&Z.cls.contains n) e
 |[n,m],e=>TK (Fu λa b=>Lg (λz=>jl Z G n z&&Z.cls.contains n) a&&Lg (λy=>jl Z G m y&&Z.cls.contains m) b) e
 |_,_=>Ξ
abbrev Fv (Z:Sg):Ê->Str×Bool->Bool
 |[n],p=>Z.xt.contains (p.1,n,p.2)
 |[n,m],p=>Z.xt.contains (p.1,n,Ξ)&&Z.xt.contains (p.1,m,p.2)
 |_,_=>Ξ
abbrev Dp:Expr->Bool
 |.Tuple _ _ _=>Θ
 |_=>Ξ
abbrev pF:Sr->Expr->Bool
 |.zip _ _,t=>Dp t
 |_,_=>Θ
abbrev TL (e:Expr)(k:Str->Str->Expr->Bool):Bool:=NG e λf as _=>Lg (λx=>LA as λa=>NG a λg bs _=>Lg (λy=>LA bs λb=>k x y b) g) f
def xJ (h:TL e k=Θ):∃x p y p' e' q' q,e=.Call (.Name x p) [.Call (.Name y p') [e'] [] q'] [] q/\k x y e'=Θ:=by obtain⟨f,as,q,rfl,h1⟩:=j5 h;obtain⟨x,p,rfl,h2⟩:=iY h1;obtain⟨a,rfl,h3⟩:=iS h2;obtain⟨g,bs,q',rfl,h4⟩:=j5 h3;obtain⟨y,p',rfl,h5⟩:=iY h4;obtain⟨b,rfl,h6⟩:=iS h5;exact⟨_,_,_,_,_,_,_,rfl,h6⟩
abbrev WX (e:Expr)(k:Str->Str->Expr->Expr->Bool):Bool:=NG e λf as _=>Lg (λx=>LA as λa=>NG a λg bs _=>Lg (λy=>P9 bs λb c=>k x y b c) g) f
def Dq (h:WX e k=Θ):∃x p y p' a b q' q,e=.Call (.Name x p) [.Call (.Name y p') [a,b] [] q'] [] q/\k x y a b=Θ:=by obtain⟨f,as,q,rfl,h1⟩:=j5 h;obtain⟨x,p,rfl,h2⟩:=iY h1;obtain⟨a,rfl,h3⟩:=iS h2;obtain⟨g,bs,q',rfl,h4⟩:=j5 h3;obtain⟨y,p',rfl,h5⟩:=iY h4;obtain⟨b,c,rfl,h6⟩:=lN h5;exact⟨_,_,_,_,_,_,_,_,rfl,h6⟩
abbrev Ve:Expr->(Â->Bool)->Bool
 |.List es _,k=>k es
 |_,_=>Ξ
def qt (h:Ve e k=Θ):∃es p,e=.List es p/\k es=Θ:=by
 induction e using zE with
 |List es p=>exact⟨es,p,rfl,h⟩
 |_=>exact ip h
abbrev RV:Expr->(Expr->Expr->Bool)->Bool
 |.Subscript a b _,k=>k a b
 |_,_=>Ξ
def mY (h:RV e k=Θ):∃a b p,e=.Subscript a b p/\k a b=Θ:=by
 induction e using zE with
 |Subscript a b p=>exact⟨a,b,p,rfl,h⟩
 |_=>exact ip h
abbrev WY:Expr->(Expr->Str->Pos->Bool)->Bool
 |.Attribute o n p,k=>k o n p
 |_,_=>Ξ
def xK (h:WY e k=Θ):∃o n p,e=.Attribute o n p/\k o n p=Θ:=by
 induction e using zE with
 |Attribute o n p=>exact⟨o,n,p,rfl,h⟩
 |_=>exact ip h
abbrev ctx:Expr->(Const->Bool)->Bool
 |.Constant c _ _,k=>k c
 |_,_=>Ξ
def sQ {e:Expr}{k:Const->Bool}(h:ctx e k=Θ):∃c j p,e=.Constant c j p/\k c=Θ:=by
 induction e using zE with
 |Constant c j p=>exact⟨c,j,p,rfl,h⟩
 |_=>exact ip h
abbrev Zj:Expr->(Â->Bool)->Bool
 |.JoinedStr l _,k=>k l
 |_,_=>Ξ
def Dr {e:Expr}{k:Â->Bool}(h:Zj e k=Θ):∃l pos,e=.JoinedStr l pos/\k l=Θ:=by
 induction e using zE with
 |JoinedStr l pos=>exact⟨l,pos,rfl,h⟩
 |_=>exact ip h
abbrev Zk:Expr->(Expr->Bool)->Bool
 |.FormattedValue e n s _,k=>n == 114&&s.isNone&&k e
 |_,_=>Ξ
def Ds {e:Expr}{k:Expr->Bool}(h:Zk e k=Θ):∃a q,e=.FormattedValue a 114 Φ q/\k a=Θ:=by
 induction e using zE with
 |FormattedValue a n s q=>have h:(n == 114&&s.isNone&&k a)=Θ:=h;rw[d_,d_]at h;rw[g_ h.1.1,Option.isNone_iff_eq_none.mp h.1.2];exact⟨a,q,rfl,h.2⟩
 |_=>exact ip h
abbrev WZ (e:Expr)(k:Str->Expr->Bool):Bool:=Zj e λl=>P9 l λa b=>ctx a λ
 |.str x=>Zk b (k x)
 |_=>Ξ
def Dt (h:WZ e k=Θ):∃x e' j p q pos,k x e'=Θ/\e=.JoinedStr [.Constant (.str x) j p,.FormattedValue e' 114 Φ q] pos:=by
 obtain⟨l,pos,rfl,h⟩:=Dr h;obtain⟨a,b,rfl,h⟩:=lN h;obtain⟨c,j,p,rfl,h⟩:=sQ h;cases c with
 |str x=>obtain⟨e',q,rfl,h⟩:=Ds h;exact⟨_,_,_,_,_,_,h,rfl⟩
 |_=>exact ip h
abbrev Zl:Expr->(Expr->Operator->Expr->Bool)->Bool
 |.BinOp l o r _,k=>k l o r
 |_,_=>Ξ
def xM {e:Expr}{k:Expr->Operator->Expr->Bool}(h:Zl e k=Θ):∃l o r p,e=.BinOp l o r p/\k l o r=Θ:=by
 induction e using zE with
 |BinOp l o r p=>exact⟨l,o,r,p,rfl,h⟩
 |_=>exact ip h
abbrev W3:Expr->(Expr->List CmpOp->Â->Bool)->Bool
 |.Compare l o r _,k=>k l o r
 |_,_=>Ξ
def xN {e:Expr}{k:Expr->List CmpOp->Â->Bool}(h:W3 e k=Θ):∃l o r p,e=.Compare l o r p/\k l o r=Θ:=by
 induction e using zE with
 |Compare l o r p=>exact⟨l,o,r,p,rfl,h⟩
 |_=>exact ip h
abbrev W4:Expr->(BoolOp->Â->Pos->Bool)->Bool
 |.BoolOp o es p,k=>k o es p
 |_,_=>Ξ
def xO {e:Expr}{k:BoolOp->Â->Pos->Bool}(h:W4 e k=Θ):∃o es p,e=.BoolOp o es p/\k o es p=Θ:=by
 induction e using zE with
 |BoolOp o es p=>exact⟨o,es,p,rfl,h⟩
 |_=>exact ip h
abbrev W5:Expr->(UnaryOp->Expr->Bool)->Bool
 |.UnaryOp o a _,k=>k o a
 |_,_=>Ξ
def xP {e:Expr}{k:UnaryOp->Expr->Bool}(h:W5 e k=Θ):∃o a p,e=.UnaryOp o a p/\k o a=Θ:=by
 induction e using zE with
 |UnaryOp o a p=>exact⟨o,a,p,rfl,h⟩
 |_=>exact ip h
abbrev Zm:Expr->(Expr->Expr->Expr->Bool)->Bool
 |.IfExp c x y _,k=>k c x y
 |_,_=>Ξ
def xQ {e:Expr}{k:Expr->Expr->Expr->Bool}(h:Zm e k=Θ):∃c x y p,e=.IfExp c x y p/\k c x y=Θ:=by
 induction e using zE with
 |IfExp c x y p=>exact⟨c,x,y,p,rfl,h⟩
 |_=>exact ip h
abbrev Vf:Expr->(Option Expr->Option Expr->Option Expr->Bool)->Bool
 |.Slice l u s _,k=>k l u s
 |_,_=>Ξ
def xR {e:Expr}{k:Option Expr->Option Expr->Option Expr->Bool}(h:Vf e k=Θ):∃l u s p,e=.Slice l u s p/\k l u s=Θ:=by
 induction e using zE with
 |Slice l u s p=>exact⟨l,u,s,p,rfl,h⟩
 |_=>exact ip h
abbrev Zn:Expr->(Expr->List Comprehension->Scope->Bool)->Bool
 |.ListComp a g s _,k=>k a g s
 |_,_=>Ξ
def sR {e:Expr}{k:Expr->List Comprehension->Scope->Bool}(h:Zn e k=Θ):∃a g s p,e=.ListComp a g s p/\k a g s=Θ:=by
 induction e using zE with
 |ListComp a g s p=>exact⟨a,g,s,p,rfl,h⟩
 |_=>exact ip h
abbrev QM (e:Expr)(k:Str->Â->Bool):Bool:=NG e λf as _=>Lg (λx=>k x as) f
def kh {e:Expr}{k:Str->Â->Bool}(h:QM e k=Θ):∃x q as p,e=.Call (.Name x q) as [] p/\k x as=Θ:=by obtain⟨f,as,p,rfl,h⟩:=j5 h;obtain⟨x,q,rfl,h⟩:=iY h;exact⟨x,q,as,p,rfl,h⟩
abbrev xS (a b:Expr->Bool)(o:BoolOp)(p:Pos):Â->Bool
 |e::e'::r=>a e&&b (if r.isEmpty then e' else .BoolOp o (e'::r) p)
 |_=>Ξ
mutual
noncomputable def JK (Z:Sg)(G:Gm):IR->Expr->Bool
 |.c d,e=>ctx e (Ft d)
 |.g n d,e=>Lg (λx=>jl Z G n x&&Z.TJ.any λp=>p.1 == n&&xH p.2 d) e
 |.v i,e=>Lg (lD G i) e
 |.bin op a b,e=>Zl e λl o r=>o == RU op&&JK Z G a l&&JK Z G b r
 |.neg a,e=>W5 e λo e=>o == .USub&&JK Z G a e
 |.cmp op a b,e=>W3 e λl os rs=>LA os λo=>LA rs λr=>o == Ml op&&JK Z G a l&&JK Z G b r&&!behindInMarks o r
 |.chain op KN a b c,e=>W3 e λl os rs=>os == [Ml op,Ml KN]&&P9 rs λm r=>JK Z G a l&&JK Z G b m&&JK Z G c r&&!lastMarks [Ml op,Ml KN] [m,r]
 |.J0 a b,e=>W4 e λo es p=>o == .And&&xS (JK Z G a) (JK Z G b) o p es
 |.Ll a b,e=>W4 e λo es p=>o == .Or&&xS (JK Z G a) (JK Z G b) o p es
 |.KH a,e=>W5 e λo e=>o == .Not&&JK Z G a e
 |.ite t a b,e=>Zm e λc x y=>JK Z G t c&&JK Z G a x&&JK Z G b y
 |.tup es,e=>TK (iZ Z G es) e
 |.lst es,e=>Ve e (iZ Z G es)
 |.sl a lo hi,e=>RV e λe s=>Vf s λl h t=>t.isNone&&(JK Z G a e&&xT Z G lo l&&xT Z G hi h)
 |.idx a i,e=>RV e λe s=>jr s&&JK Z G a e&&JK Z G i s
 |.call f es,e=>QM e λx args=>jl Z G f x&&Z.Pm G f&&iZ Z G es args
 |.bi f es,e=>QM e λx args=>x == kY f&&G.Nq (rl f)&&iZ Z G es args&&!args.isEmpty
 |.Lu a k,e=>QM e λx as=>P9 as λe y=>Lg (λy=>x == "isinstance"&&G.gl.contains 14&&y == mX k&&G.gl.contains (xF k)&&notStar e&&JK Z G a e) y
 |.Mk a ns tb,e=>QM e λx as=>P9 as λe y=>x == "isinstance"&&G.gl.contains 14&&notStar e&&BJ Z G ns y&&tb.all (Fv Z ns)&&JK Z G a e
 |.Lx a,e=>TL e λx y e=>x == "list"&&G.Nq 5&&y == "reversed"&&G.gl.contains 18&&notStar e&&JK Z G a e
 |.Ly a b,e=>WX e λx y e e'=>x == "list"&&G.Nq 5&&y == "zip"&&G.gl.contains 17&&(notStar e&&notStar e')&&JK Z G a e&&JK Z G b e'
 |.sset a,e=>TL e λx y e=>x == "sorted"&&G.gl.contains 4&&y == "set"&&G.gl.contains 12&&(notStar e&&G.cm)&&JK Z G a e
 |.P5 x a y,e=>WZ e λx' e'=>x == x'&&y.isNone&&decide (x.length<=1000)&&JK Z G a e'
 |.OQ m o es,e=>NG e λf as JL=>WY f λoe name apos=>name == qp m&&rm oe&&apos.endLine == JL.line&&decide (as.length < 29)&&JK Z G o oe&&iZ Z G es as&&!as.isEmpty
 |.comp G' fr tg src ifs elt,e=>Zn e λe gens scope=>xI gens λt it fs=>kr Z G scope G' fr&&jI G' tg t&&(Lf tg).all (λi=>decide (fr.length<=i))&&(kM Z G src it&&pF src t)&&iZ Z G' ifs fs&&JK Z G' elt e
noncomputable def iZ (Z:Sg)(G:Gm):Í->Â->Bool
 |[],[]=>Θ
 |a::es,e::l=>notStar e&&JK Z G a e&&iZ Z G es l
 |_,_=>Ξ
noncomputable def xT (Z:Sg)(G:Gm):Option IR->Option Expr->Bool
 |none,Φ=>Θ
 |some a,Δ e=>JK Z G a e
 |_,_=>Ξ
noncomputable def kM (Z:Sg)(G:Gm):Sr->Expr->Bool
 |.J3 n,e=>QM e λx as=>LA as λe=>x == "range"&&G.gl.contains 15&&notStar e&&JK Z G n e
 |.zip a b,e=>QM e λx as=>P9 as λe e'=>x == "zip"&&G.gl.contains 17&&notStar e&&notStar e'&&JK Z G a e&&JK Z G b e'
 |.val a,e=>JK Z G a e
end
abbrev Vg:Ï:=[.type "ValueError",.type "Exception",.type "BaseException",.type "object"]
def LB (F:Ç)(H:Hp):Prop:=∀a,F a->H a≠Φ
structure Out (K:Frag)(F:Ç)(H:Hp)(F':Ç)(H':Hp)(v:V)(d:D)(fv:Î):Prop where
 JM:LB F' H'
 same:ik H H'
 rep:JB K F' H' v d fv
 JX:fv.Nodup
 new:∀a∈fv,H a=Φ
 Lh:∀a,F a->F' a
 out:∀a,F' a->F a∨H a=Φ
def QN (K:Frag)(cl:Ä)(xp:Ö)(f:Nat)(ps:È):Sp:=λvs H Q E=>vs.length=ps.length/\Pl H/\∃F ds,LB F H/\IM K F H vs ds/\
 IP (xp E H) (cl f (Jz ds)) λd=>∀v H' F' fv,Out K F H F' H' v d fv->Q v H'
structure OS (P:Ε)(w:Β)(K:Frag)(mg:Str->Option Ψ)(base:Heap)(CX:Mp)(A:Ι)(cl:Ä)(xp:Ö)(f:Nat)(x:Str):Prop where
 ex:∃(k:Nat) (fa:Ω) (fd:Ο) (ps:È),mg x=Δ (.ref fa)/\PySem.W.keepIn K (.ref fa)=Θ/\Binds K fd ps []/\K9 P w K mg base CX k fa fd ps (QN K cl xp f ps)/\KO k A/\
  ∀(ex:Æ) ds (k:D->Prop),IP ex (cl f ds) k->ds.length=ps.length
structure Pn (K:Frag)(a:Ω)(F:Ç)(H:Hp)(fl:Î)(F':Ç)(H':Hp)(rows':Ð)(L9:Î):Prop where
 JM:LB F' H'
 keep:∀b o,H b=Δ o->H' b=Δ o∨(b∈fl/\∃xs,o=.lst xs)
 rep:JB K F' H' (.ref a) (.lst Θ rows') L9
 JX:L9.Nodup
 old:∀b∈L9,b∈fl∨H b=Φ
 Lh:∀b,F b->F' b
 out:∀b,F' b->F b∨H b=Φ
structure W6 (K:Frag)(a:Ω)(F:Ç)(H:Hp)(ws us:Ñ)(ds Kz rows:Ð)(fl:Î):Prop where
 two:ws.length=2
 JM:LB F H
 ws:IM K F H ws ds
 us:IM K F H us Kz
 rep:JB K F H (.ref a) (.lst Θ rows) fl
 JX:fl.Nodup
def W8 (K:Frag)(cl:Ä)(f:Nat)(vs:Ñ)(H:Hp)(Q:VK):Prop:=∃a F ws us ds Kz rows fl,vs=ws++.ref a::us/\W6 K a F H ws us ds Kz rows fl/\
 ∃rows',cl f (Jz ds++.lst Θ rows::Jz Kz)=.ok (.tup [.JF,.lst Θ rows'])/\∀H' F' L9,Pn K a F H fl F' H' rows' L9->Q .JF H'
def Vh (K:Frag)(cl:Ä)(f:Nat)(ps:È):Sp:=λvs H Q _=>vs.length=ps.length/\W8 K cl f vs H Q
structure Vi (P:Ε)(w:Β)(K:Frag)(mg:Str->Option Ψ)(base:Heap)(CX:Mp)(A:Ι)(cl:Ä)(f:Nat)(x:Str):Prop where
 ex:∃(k:Nat) (fa:Ω) (fd:Ο) (ps:È),mg x=Δ (.ref fa)/\PySem.W.keepIn K (.ref fa)=Θ/\Binds K fd ps []/\K9 P w K mg base CX k fa fd ps (Vh K cl f ps)/\KO k A/\
  ∀ds r,cl f ds=.ok r->ds.length=ps.length
structure W' (Z:Sg)(CX:Mp)(cl:Ä)(xp:Ö)(X:Cx):Prop where
 st:X.stack=X.env::X.outer
 fr:X.env.frame=Δ X.env.locals
 lt:Pl X.KJ
 pl:∀a:Ω,∀f∈Z.fns,f∈Z.pl->∀x,Z.name f=Δ x->OS X.prog X.w X.K X.mg X.base CX (X.A.mark (Δ (.ref a))) cl xp f x
 cx:∀(outer:List Env) (H:Hp) (s:Α) (E:XK) (e:Ψ) (s':Α),CX outer H s E e s'->KI outer H s E e s'
 xp:∀(c:Str) (C:Ω) (H:Hp),PySem.W.nsIn X.K Η c=Δ (Δ (.ref C))->xp (λcls _ _=>cls=.ref C) H c
structure JR (Z:Sg)(CX:Mp)(cl:Ä)(xp:Ö)(X:Cx)(ex:Æ)(G:Gm):Prop where
 N:X.N=G.N
 JX:G.N.Nodup
 calm:G.cm=Θ->X.calm=Θ
 fk:X.env.scope.kind=.function
 un:X.A.units+42 < cLine
 own:G.rs=Θ->PassesOwn (Μ X.prog X.w) X.A X.env X.xe
 kd:∀(i:Nat) (x:Str),G.N[i]? = Δ x->X.env.kindOf x=G.kd[i]?
 MJ:∀(i:Nat) (x:Str),G.N[i]? = Δ x->(x == ("__debug__" : Str))=Ξ/\(x == ("__classdict__" : Str))=Ξ
 gl:∀n∈G.gl,∀x,Z.name n=Δ x->Gl X x
 Nr:∀n x,Z.name n=Δ x->x≠"__name__"/\(x == ("__debug__" : Str))=Ξ
 df:G.df=Θ->∀x,X.fn x=Θ
 blt:∀(n:Nat) (x:Str),i7[n]? = Δ x->X.mg x=Φ
 cst:∀n d x,(n,d)∈Z.TJ->Z.name n=Δ x->∃u v,X.mg x=Δ u/\RelV v u/\∀S H,IU X.K S H v d
 fns:∀f∈Z.fns,(G.cm=Θ∨f∈Z.pl)->∀x,Z.name f=Δ x->OS X.prog X.w X.K X.mg X.base CX X.A cl xp f x
 LO:∀f∈Z.LO,G.cm=Θ->∀x,Z.name f=Δ x->Vi X.prog X.w X.K X.mg X.base CX X.A cl f x
 NH:∀n∈Z.cls,∀x,Z.name n=Δ x->∃v,CV X x v
 MZ:∀c n b x,(c,n,b)∈Z.xt->Z.name n=Δ x->∃C,PySem.W.nsIn X.K Η c=Δ (Δ (.ref C))/\ExcAt X.K C/\∀v,CV X x v->PySem.W.kitOne X.K (.ref C) (vv v)=Δ b
 NI:∀c n x,(c,n)∈Z.xm->Z.name n=Δ x->∃C C',PySem.W.nsIn X.K Η c=Δ (Δ (.ref C))/\PySem.W.nsIn X.K Η x=Δ (Δ (.ref C'))/\nameIn X.K C=Δ c/\X.mg x=Δ (.ref C')/\PySem.W.exmOne X.K (.ref C) (.ref C')=Δ Θ
 Nt:∀n c,(n,c)∈Z.rc->Z.name n=Δ c/\∃C,X.mg c=Δ (.ref C)/\PySem.W.nsIn X.K Η c=Δ (Δ (.ref C))/\PySem.W.excIn X.K C Vg "ValueError.__new__" = Θ
 RW:G.rs=Θ->∀(pins:É) (σ:St) (H:Hp) (s:Α) (c:Str) (C:Ω) (h':Heap) (e:Ω) (vs:Ï),Inv X pins σ H s->ex c->PySem.W.nsIn X.K Η c=Δ (Δ (.ref C))->Heap.MadeExcOf s.heap h' e (.ref C) vs->X.xe (.ref e) {s with heap:=h'}
 tr:G.tr=Θ->W' Z CX cl xp X
 P':∃E:XK,Passes CX X E/\∀c H,ex c->xp E H c
 MH:∀(outer:List Env) (H:Hp) (s:Α) (E:XK) (e:Ψ) (s':Α),Kw H s.heap->(∀b∈KC outer,H b=Φ)->CX outer (iV s.heap H) s E e s'->CX outer H s E e s'
 NY:∀(H:Hp) (outer:List Env) (s:Α) (e:Ψ) (s':Α),¬CX outer H s (λ_ _ _=>False) e s'
def uj {K:Frag}(x:Kw H h)(m:IM K Fc H vs ds):IM K (λa=>Fc a/\iV h H a≠Φ) (iV h H) vs ds:=by
 refine(m.step (S':=Fc) (H':=iV h H) (λa xs f r=>⟨f,?_⟩) λa xs r=>?_).Lb
 ·rcases r with r|⟨o,r⟩
  ·obtain⟨ob,he⟩:=(x a _ r).at
   refine .inr ⟨ob,?_⟩;unfold iV;rw[r];show(h.get? a).map _=_;rw[he];rfl
  ·refine .inr ⟨o,?_⟩;unfold iV;rw[r];rfl
 ·cases xs with
  |inl xs=>
   rcases r with(r|⟨o,r⟩)|r
   ·refine .inl (.inl ?_);unfold iV;rw[r]
   ·refine .inl (.inr ⟨o,?_⟩);unfold iV;rw[r];rfl
   ·exact .inr r
  |inr c=>obtain⟨C,o,vs,h0,h1,h2,h3⟩:=r;refine⟨C,o,vs,h0,h1,?_,h3⟩;unfold iV;rw[h2];rfl
def rp (x:Kw H h)(p:MY h (iV h H) H')  (n:iV h H a=Φ)(e:H' a≠Φ):H a=Φ:=by
 cases q:H a with
 |none=>rfl
 |some o=>
  obtain⟨ob,he⟩:=(x a o q).at
  exact absurd (p.free a ob he n) e
def uk {K:Frag}(x:Kw H h)(JM:LB Fc H)(p:MY h (iV h H) H')(o:Out K (λa=>Fc a/\iV h H a≠Φ) (iV h H) F' H' v d fv):Out K Fc H (λa=>Fc a∨F' a) (me H H') v d fv:=by
 have new:∀a∈fv,H a=Φ:=λa ha=>rp x p (o.new a ha) (by obtain⟨_,xs,e⟩:=o.rep.own a ha;rw[e];simp);refine⟨λa ha=>?_,rj,o.rep.step (λa xs f r=>⟨.inr f,?_⟩) (λa xs r=>?_) λa ha nf hn=>⟨λz=>?_,res_none (new a ha)⟩,o.JX,new,λa ha=>.inl ha,λa ha=>?_⟩
 ·cases q:H a with
  |some u=>rw[res_some q];simp
  |none=>
   rw[res_none q];rcases ha with ha|ha
   ·exact absurd q (JM a ha)
   ·exact o.JM a ha
 ·cases q:H a with
  |none=>unfold Rd;rw[res_none q];exact r
  |some u=>
   unfold Rd;rw[res_some q];cases pU x p q with
   |lst _ z=>
    rcases r with r|⟨o',r⟩
    ·rw[z]at r;cases r
    ·rw[z]at r;cases r;exact .inl rfl
   |tup z=>rcases r with r|⟨o',r⟩<;>(rw[z]at r;cases r)
   |JQ _ z=>
    rcases r with r|⟨o',r⟩
    ·rw[z]at r;cases r
    ·rw[z]at r;cases r;exact .inr ⟨_,rfl⟩
   |K6 _ _ z _ _=>exact absurd z r.some
 ·cases xs with
  |inl xs=>
   rcases r with r|r
   ·refine .inl ?_;cases q:H a with
    |none=>unfold Rd;rw[res_none q];exact r
    |some u=>
     unfold Rd;rw[res_some q];cases pU x p q with
     |lst _ z=>rcases r with r|⟨o',r⟩<;>(rw[z]at r;cases r)
     |tup z=>
      rcases r with r|⟨o',r⟩
      ·rw[z]at r;cases r;exact .inl rfl
      ·rw[z]at r;cases r
     |JQ _ z=>
      rcases r with r|⟨o',r⟩
      ·rw[z]at r;cases r
      ·rw[z]at r;cases r;exact .inr ⟨_,rfl⟩
     |K6 _ _ z _ _=>exact absurd z r.some
   ·exact .inr r
  |inr c=>
   obtain⟨C,ob,vs,h0,h1,h2,h3⟩:=r;refine⟨C,ob,vs,h0,h1,?_,h3⟩;cases q:H a with
   |none=>rw[res_none q];exact h2
   |some u=>
    rw[res_some q];cases pU x p q with
    |lst _ z=>rw[z]at h2;cases h2
    |tup z=>rw[z]at h2;cases h2
    |JQ _ z=>rw[z]at h2;cases h2;rfl
    |K6 _ _ z _ _=>rw[z]at h2;cases h2
 ·rcases z with z|z
  ·exact JM a z (new a ha)
  ·exact nf z
 ·rcases ha with ha|ha
  ·exact .inl ha
  ·rcases o.out a ha with z|z
   ·exact .inl z.1
   ·exact .inr (rp x p z (o.JM a ha))
def Inv.TM (I:Inv X pins σ H s):Nz X.prog X.w X.K X.mg X.base X.A X.stack s (iV s.heap H):=
 ⟨I.LN.frames,I.LN.mod,λb o e=>⟨(I.LN.bs b o e).1,jT (I.LN.bs b o e).2⟩,I.LN.Nc,I.LN.Ks,λb hb=>jT (I.LN.ME b hb),xE I.JO,I.LN.bare⟩
def um
  (F:K9 X.prog X.w X.K X.mg X.base CX k fa fd ps (QN X.K cl xp f ps)) (hr:KO k X.A) (hb:Binds X.K fd ps []) (hx:Passes CX X E)
  (hh:∀(outer:List Env) (H:Hp) (s:Α) (E:XK) (e:Ψ) (s':Α),Kw H s.heap->(∀b∈KC outer,H b=Φ)->CX outer (iV s.heap H) s E e s'->CX outer H s E e s')
  (I:Inv X pins σ H s) (r:Vals vs us) (hl:vs.length=ps.length) (JM:LB Fc H) (m:IM X.K Fc H vs ds)
  (q:IP (xp E (iV s.heap H)) (cl f (Jz ds)) λd=>∀v H' F' fv,Out X.K Fc H F' H' v d fv->Q v H'):Κ (Μ X.prog X.w) X.A (call (.ref fa) us) (EP X pins σ Q) X.xe s:=by
 have MG:QN X.K cl xp f ps vs (iV s.heap H) (λv H'=>MY s.heap (iV s.heap H) H'->Q v (me H H')) E:=
  ⟨hl,xD _ _,_,ds,λa h=>h.2,uj I.JO m,q.mono λd hd v H' F' fv o p=>hd v _ _ fv (uk I.JO JM p o)⟩
 have P8:(us++([]:Ï)).length=ps.length:=by rw[P_,<- r.length];exact hl
 have bd:=hb s us I.LV P8;rw[P_]at bd;refine wpAny_call (codeAny_mono (F.run X.A X.stack s (iV s.heap H) ⟨us,[]⟩ us vs _ E hr I.TM bd r MG) λr' s' hq=>?_);cases r' with
 |error e=>exact hx pins σ H s e s' I (hh X.stack H s E e s' I.JO I.LN.ME hq)
 |ok fl=>
  cases fl with
  |ret u=>obtain⟨v,H',a1,a2,a3,a4,a5,a6⟩:=hq;exact I.after (Q:=Q) ⟨v,me H H',a1,a2,sN I.JO a3,sM I.JO a4 (mf a3) (fs:=KC X.stack) (λb o _ e n f=>a3.keep b o e n f (by simp)) I.LN.ME,a5,a6 (mf a3)⟩
  |next=>exact False.elim hq
  |brk=>exact False.elim hq
  |cont=>exact False.elim hq
def Slots (K:Frag)(S:Ç)(H:Hp)(σ:St)(τ:Ev)(is:Ê):Prop:=∀i∈is,∀d,ic τ i=Δ d->∃v,σ[i]? = Δ (Δ v)/\IU K S H v d
def Slots.sub {K:Frag}  (h:Slots K S H σ τ is)(s:∀i∈js,i∈is):Slots K S H σ τ js:=λi hi d e=>h i (s i hi) d e
def Slots.left {K:Frag}  (h:Slots K S H σ τ (is++js)):Slots K S H σ τ is:=h.sub λ_ hi=>p_ _ hi
def Slots.right {K:Frag}  (h:Slots K S H σ τ (is++js)):Slots K S H σ τ js:=h.sub λ_ hi=>r_ _ hi
def Slots.go {K:Frag}  (h:Slots K S H σ τ is)(e:ik H H'):Slots K (nw S H) H' σ τ is:=λi hi d z=>by obtain⟨v,h1,h2⟩:=h i hi d z;exact⟨v,h1,h2.mono (λ_=>.inl) e⟩
def RD (K:Frag)(ex:Æ)(is:Ê)(f:Ev->Res D):TE:=λσ H Q=>∃S τ,Slots K S H σ τ is/\IP ex (f τ) (Kk K S H Q)
def RT (K:Frag)(ex:Æ)(is:Ê)(f:Ev->Res Bool):TT:=λσ H Q=>∃S τ,Slots K S H σ τ is/\IP ex (f τ) λb=>∀H',ik H H'->Q b H'
def RA (K:Frag)(ex:Æ)(is:Ê)(f:Ev->Res (Ð)):TA:=λσ H Q=>∃S τ,Slots K S H σ τ is/\IP ex (f τ) λds=>∀vs H',ik H H'->IM K (nw S H) H' vs ds->Q vs H'
def RX (K:Frag)(ex:Æ)(is:Ê)(f:Ev->Res (Option Int)):TO:=λσ H Q=>∃S τ,Slots K S H σ τ is/\IP ex (f τ) λo=>∀H',ik H H'->Q o H'
def WS (K:Frag)(S:Ç)(H:Hp)(k:Zp.Kq)(a:Ω)(xs:Ñ):Prop:=match k with
 |.l=>(S a/\Rd H a (.lst xs))∨KL K a xs
 |.t=>K0 K H a xs
theorem WS.sq {K:Frag}  (h:WS K S H k a xs):MV K H k a xs:=by
 cases k with
 |l=>exact h.elim (λz=>.inl z.2) λz=>z.sq
 |t=>exact h
inductive LJ (K:Frag)(S:Ç)(H:Hp):It->Ð->Prop where
 | lst {a:Ω}{xs:Ñ}{ds:Ð}:S a->Rd H a (.lst xs)->IM K S H xs ds->LJ K S H (U0 K a) ds
 | lstK {a:Ω}{xs:Ñ}{ds:Ð}:KL K a xs->IM K S H xs ds->LJ K S H (U0 K a) ds
 | tup {a:Ω}{xs:Ñ}{ds:Ð}:K0 K H a xs->IM K S H xs ds->LJ K S H (V4 K a) ds
 | NU (lo hi:Int):LJ K S H (SQ lo (hi - lo).toNat) (iU lo hi)
 | str (x:Str):LJ K S H (WV x) (jo x)
 | zip {p q:Zp.Kq}{l m:Ω}{xs ys:Ñ}{ds es:Ð}:WS K S H p l xs->WS K S H q m ys->IM K S H xs ds->IM K S H ys es->LJ K S H (Wy K p q l m) (jZ ds es)
def RI (K:Frag)(ex:Æ)(is:Ê)(f:Ev->Res (Ð)):TI:=λσ H R=>∃S τ,Slots K S H σ τ is/\IP ex (f τ) λds=>∀J H',ik H H'->LJ K (nw S H) H' J ds->R J H'
def oI (e:ik H H1):∀a,nw (nw S H) H1 a->nw S H a:=λa h=>by
 rcases h with h|h
 ·exact h
 ·exact .inr (e.free h)
def Kk.fit {K:Frag}  (e:ik H H1)(h:Kk K S H Q d):Kk K (nw S H) H1 Q d:=λw H' e' m=>h w H' (e.trans e') (m.mono (oI e) (.refl _))
def kN (g:JR Z CX cl xp X ex G)  (h:jl Z G n x=Θ):Gl X x/\Z.name n=Δ x/\x≠"__name__"/\(x == ("__debug__" : Str))=Ξ:=by unfold jl at h;rw[d_]at h;have e:Z.name n=Δ x:=g_ h.1;exact⟨g.gl n (by simpa using h.2) x e,e,g.Nr n x e⟩
def BL (Z:Sg)  (h:i7[n]? = Δ x):Z.name n=Δ x:=by unfold Sg.name;rw[aaI (x_.mp h).1];exact h
def kc (g:JR Z CX cl xp X ex G)  (h:i7[n]? = Δ x)(hc:G.gl.contains n=Θ):Gl X x/\X.mg x=Φ/\x≠"__name__"/\(x == ("__debug__" : Str))=Ξ:=
 ⟨g.gl n (by simpa using hc) x (BL Z h),g.blt n x h,g.Nr n x (BL Z h)⟩
def ia (h:notStar e=Θ)(es:Â)(env:Env):Ν (e::es) env=(Ξ,eval e env)::Ν es env:=by
 induction e using zE<;>first|rfl|cases h
theorem jB (Z:Sg)(G:Gm):∀ {es:Í}{l:Â} (p:Pos) (env:Env),iZ Z G es l=Θ->(backTo p (Ν l env)).any (·.1)=Ξ
 |[],[],_,_,_=>rfl
 |a::es,e::l,p,env,h=>by have h':(notStar e&&JK Z G a e&&iZ Z G es l)=Θ:=h;simp only[d_]at h';rw[ia h'.1.1];have ih:=jB Z G (es:=es) (l:=l) p env h'.2;show(Ξ||(backTo p (Ν l env)).any (·.1))=Ξ;rw[ih];rfl
 |[],_::_,_,_,h=>by cases h
 |_::_,[],_,_,h=>by cases h
def xU {X:Cx}(h:∀S H,IU X.K S H v d)  (q:RD X.K ex is (λ_=>.ok d) σ H Q):Q v H:=by obtain⟨S,τ,_,q⟩:=q;exact q.ok _ _ (.refl _) (h _ _)
def Fw (h:PE X e (RD X.K ex is f))(he:∀whole,isTrue e X.env whole=(do let v <- whole;standAt e.pos;holding [v] (truthy v))):PT X e (RT X.K ex is λτ=>II (f τ) iK):=by intro pins s σ H Q I hw;obtain⟨S,τ,hs,hw⟩:=hw;refine isTrue_plain (JP (h pins s σ H (λv H'=>∃d,ik H H'/\IU X.K (nw S H) H' v d/\IP ex (iK d) λb=>∀H',ik H H'->Q b H') I ⟨S,τ,hs,(IP.II hw).mono λd hd v H' e m=>⟨d,e,m,hd⟩⟩) λv s1 ⟨x,H1,I1,r1,d,e,m,hd⟩=>?_) (he _);exact nM I1 r1 m (hd.mono λb z=>z H1 e)
def iQ {K:Frag}(e:ik H H1)(hs:Slots K S H σ τ is)(h:IP ex (f τ) Kt)(k:∀x v H2,ik H H2->ik H1 H2->IU K (nw S H) H2 v x->Kt x->Q v H2):RD K ex is f σ H1 Q:=
 ⟨nw S H,τ,hs.go e,h.mono λx hx v H2 e2 m=>k x v H2 (e.trans e2) e2 (m.mono (oI e) (.refl _)) hx⟩
def kR {K:Frag}(e:ik H H1)(hs:Slots K S H σ τ is)(h:IP ex (f τ) Kt)(k:∀x H2,ik H H2->ik H1 H2->Kt x->Q x H2):RT K ex is f σ H1 Q:=
 ⟨nw S H,τ,hs.go e,h.mono λx hx H2 e2=>k x H2 (e.trans e2) e2 hx⟩
def qu {K:Frag}(e:ik H H1)(hs:Slots K S H σ τ is)(h:IP ex (f τ) Kt)(k:∀x v H2,ik H H2->ik H1 H2->IM K (nw S H) H2 v x->Kt x->Q v H2):RA K ex is f σ H1 Q:=
 ⟨nw S H,τ,hs.go e,h.mono λx hx v H2 e2 m=>k x v H2 (e.trans e2) e2 (m.mono (oI e) (.refl _)) hx⟩
def AN {K:Frag}(e:ik H H1)(hs:Slots K S H σ τ is)(h:IP ex (f τ) Kt)(k:∀x H2,ik H H2->ik H1 H2->Kt x->Q x H2):RX K ex is f σ H1 Q:=
 ⟨nw S H,τ,hs.go e,h.mono λx hx H2 e2=>k x H2 (e.trans e2) e2 hx⟩
def IU.later {K:Frag}(h:IU K (L2.nw S H) H1 v d)(e:ik H1 H2):IU K (L2.nw S H) H2 v d:=h.mono (λ_ z=>z) e
def IM.later {K:Frag}(h:IM K (L2.nw S H) H1 v d)(e:ik H1 H2):IM K (L2.nw S H) H2 v d:=h.mono (λ_ z=>z) e
def s_v (g:JR Z CX cl xp X ex G)  (h:lD G i x=Θ):PE X (.Name x pos) (RD X.K ex [i] (IV cl (.v i))):=by
 unfold lD at h;rw[d_]at h;have hx:G.N[i]? = Δ x:=g_ h.1;have hk:=g.kd i x hx;have hv:SJ X.env.scope x:=by
  have h2:=h.2;rw[J_,J_]at h2;rcases h2 with(h2|h2)|h2
  ·exact .inl (hk.trans (g_ h2))
  ·exact .inr (.inl (hk.trans (g_ h2)))
  ·exact .inr (.inr (hk.trans (g_ h2)))
 refine iC (v7 (i:=i) (by rw[g.N];exact hx) hv (g.MJ i x hx).1 (g.MJ i x hx).2) λσ H Q q=>?_;obtain⟨S,τ,hs,q⟩:=q;rw[Fo]at q;cases z:ic τ i with
 |none=>rw[z]at q;exact q.no.elim
 |some d=>rw[z]at q;obtain⟨v,h1,h2⟩:=hs i (by simp) d z;exact⟨v,h1,q.ok _ _ (.refl _) h2.nw⟩
def s_c (h:Ft d k=Θ):PE X (.Constant k j pos) (RD X.K ex [] (IV cl (.c d))):=by
 induction d using zD with
 |JF=>
  cases k with
  |none=>exact iC Cv λσ H Q q=>xU (λ_ _=>.JF) q
  |_=>cases h
 |bl b=>
  cases k with
  |bool b'=>have e:b=b':=g_ h;subst e;exact iC ES λσ H Q q=>xU (λ_ _=>.bl _) q
  |_=>cases h
 |int b=>
  cases k with
  |int b'=>have e:b=b':=g_ h;subst e;exact iC Cu λσ H Q q=>xU (λ_ _=>.int _) q
  |_=>cases h
 |str b=>
  cases k with
  |str b'=>have e:b=b':=g_ h;subst e;exact iC rZ λσ H Q q=>xU (λ_ _=>.str _) q
  |_=>cases h
 |tup _=>cases k<;>cases h
 |lst _ _=>cases k<;>cases h
 |exc _=>cases k<;>cases h
def s_g (g:JR Z CX cl xp X ex G)  (h:jl Z G n x=Θ)(hk:Z.TJ.any (λp=>p.1 == n&&xH p.2 d)=Θ):PE X (.Name x pos) (RD X.K ex [] (IV cl (.g n d))):=by obtain⟨h1,h2,h3,h4⟩:=kN g h;rw[List.any_eq_true]at hk;obtain⟨⟨m,d'⟩,hm,hk⟩:=hk;rw[d_]at hk;have e1:m=n:=g_ hk.1;have e2:d'=d:=ui hk.2;subst e1 e2;obtain⟨u,v,hu,r,hr⟩:=g.cst m d' x hm h2;exact iC (tO h1 hu r h4) λσ H Q q=>xU hr q
def Fx (ha:PE X a (RD X.K ex va fa))(hb:PE X b (RD X.K ex vb fb)) :
  PE X (.BinOp a (RU op) b pos) (RD X.K ex (va++vb) λτ=>II (fa τ) λx=>II (fb τ) λy=>Lm op x y):=by
 refine iC (wo (Di (ex:=ex) op) ha hb) λσ H Q JG=>?_;obtain⟨S,τ,hs,q⟩:=JG;refine iQ (.refl _) hs.left (IP.II q) λx v H1 e1 _ m1 q1=>?_;refine iQ e1 hs.right (IP.II q1) λy w H2 e2 KR m2 q2=>?_;exact⟨nw S H,x,y,m1.later KR,m2,q2.mono λd hd=>hd.fit e2⟩
def Fy (ha:PE X a (RD X.K ex va fa)) :
  PE X (.UnaryOp .USub a pos) (RD X.K ex va λτ=>II (fa τ) λ|.int i=>.ok (.int (-i))|_=>JE):=by
 refine iC (E1 CN ha) λσ H Q JG=>?_;obtain⟨S,τ,hs,q⟩:=JG;refine iQ (.refl _) hs (IP.II q) λx v H1 e1 _ m1 q1=>?_
 induction x using zD with
 |int i=>cases m1.JN;exact⟨i,rfl,q1.ok _ _ e1 (.int _)⟩
 |_=>exact q1.no.elim
def Fz (g:JR Z CX cl xp X ex G)  (ha:PE X a (RD X.K ex va fa))(hb:PE X b (RD X.K ex vb fb))(hm:behindInMarks (Ml op) b=Ξ) :
  PE X (.Compare a [Ml op] [b] pos) (RD X.K ex (va++vb) λτ=>II (fa τ) λx=>II (fb τ) λy=>II (Lc op x y) λr=>.ok (.bl r))/\
  PT X (.Compare a [Ml op] [b] pos) (RT X.K ex (va++vb) λτ=>II (II (fa τ) λx=>II (fb τ) λy=>II (Lc op x y) λr=>.ok (.bl r)) iK):=by
 refine⟨iC (zX (mV (ex:=ex) g.un op) ha hb hm) λσ H Q ⟨S,τ,hs,q⟩=>?_,oj (zY (mV (ex:=ex) g.un op) ha hb hm) λσ H Q ⟨S,τ,hs,q⟩=>?_⟩
 ·refine iQ (.refl _) hs.left (IP.II q) λx v H1 e1 _ m1 q1=>?_;refine iQ e1 hs.right (IP.II q1) λy w H2 e2 KR m2 q2=>?_;exact⟨nw S H,x,y,m1.later KR,m2,(IP.II q2).mono λd hd=>hd.ok _ _ e2 (.bl _)⟩
 ·refine iQ (.refl _) hs.left (IP.II (IP.II q)) λx v H1 e1 _ m1 q1=>?_;refine iQ e1 hs.right (IP.II q1) λy w H2 e2 KR m2 q2=>?_;exact⟨nw S H,x,y,m1.later KR,m2,(IP.II q2).mono λd hd=>⟨d,rfl,hd.ok.ok H2 e2⟩⟩
def AQ (g:JR Z CX cl xp X ex G)  (ha:PE X a (RD X.K ex va fa))(hb:PE X b (RD X.K ex vb fb))(hc:PE X c (RD X.K ex vc fc))
  (hm:lastMarks [Ml op,Ml KN] [b,c]=Ξ) :
  PE X (.Compare a [Ml op,Ml KN] [b,c] pos) (RD X.K ex (va++vb++vc) λτ=>II (fa τ) λx=>II (fb τ) λy=>II (Lc op x y) λr=>if r=Θ then II (fc τ) λz=>II (Lc KN y z) λr'=>.ok (.bl r') else .ok (.bl Ξ))/\
  PT X (.Compare a [Ml op,Ml KN] [b,c] pos) (RT X.K ex (va++vb++vc) λτ=>II (II (fa τ) λx=>II (fb τ) λy=>II (Lc op x y) λr=>if r=Θ then II (fc τ) λz=>II (Lc KN y z) λr'=>.ok (.bl r') else .ok (.bl Ξ)) iK):=by
 refine⟨iC (wt (mV (ex:=ex) g.un op) (mV (ex:=ex) g.un KN) ha hb hc hm) λσ H Q ⟨S,τ,hs,q⟩=>?_,oj (wu (mV (ex:=ex) g.un op) (mV (ex:=ex) g.un KN) ha hb hc hm) λσ H Q ⟨S,τ,hs,q⟩=>?_⟩
 ·refine iQ (.refl _) hs.left.left (IP.II q) λx v H1 e1 _ m1 q1=>?_;refine iQ e1 hs.left.right (IP.II q1) λy w H2 e2 KR m2 q2=>?_;refine⟨nw S H,x,y,m1.later KR,m2,(IP.II q2).mono λd hd=>⟨d,rfl,?_⟩⟩
  induction d using zB with
  |false=>rw[f_ A_]at hd ⊢;exact hd.ok _ _ e2 (.bl _)
  |true=>rw[h_ rfl]at hd ⊢;refine iQ e2 hs.right (IP.II hd) λz w' H3 e3 Ox m3 q3=>?_;exact⟨nw S H,y,z,m2.later Ox,m3,(IP.II q3).mono λd hd=>hd.ok _ _ e3 (.bl _)⟩
 ·refine iQ (.refl _) hs.left.left (IP.II (IP.II q)) λx v H1 e1 _ m1 q1=>?_;refine iQ e1 hs.left.right (IP.II q1) λy w H2 e2 KR m2 q2=>?_;refine⟨nw S H,x,y,m1.later KR,m2,(IP.II q2).mono λd hd=>⟨d,rfl,?_⟩⟩
  induction d using zB with
  |false=>rw[f_ A_]at hd ⊢;exact⟨Ξ,rfl,hd.ok.ok _ e2⟩
  |true=>rw[h_ rfl]at hd ⊢;refine iQ e2 hs.right (IP.II hd) λz w' H3 e3 Ox m3 q3=>?_;exact⟨nw S H,y,z,m2.later Ox,m3,(IP.II q3).mono λd hd=>⟨d,rfl,hd.ok.ok _ e3⟩⟩
def BM (ha:PE X a (RD X.K ex va fa))(hb:PE X (.BoolOp .And (b::rest) pos) (RD X.K ex vb fb)) :
  PE X (.BoolOp .And (a::b::rest) pos) (RD X.K ex (va++vb) λτ=>II (fa τ) λx=>II (iK x) λr=>if r=Θ then fb τ else .ok x):=by
 intro pins s σ H Q I h;obtain⟨S,τ,hs,q⟩:=h;refine BoolOp_and (JP (ha pins s σ H (λv H'=>∃d,ik H H'/\IU X.K (nw S H) H' v d/\_) I (iQ (.refl _) hs.left (IP.II q) λx v H1 e1 _ m1 q1=>⟨x,e1,m1,q1⟩)) λv s1 ⟨x,H1,I1,r1,d,e1,m1,q1⟩=>?_);refine JP (nM (Q:=λb H'=>H'=H1/\IP ex (if b=Θ then fb τ else .ok d) (Kk X.K S H Q)) I1 r1 m1 ((IP.II q1).mono λb z=>⟨rfl,z⟩)) λc s2 JG=>?_;obtain⟨H2,I2,e2,q2⟩:=JG;subst e2
 induction c using zB with
 |true=>rw[h_ rfl]at q2 ⊢;exact hb pins s2 σ _ Q I2 (iQ e1 hs.right q2 λy w H3 e3 _ m3 q3=>q3 _ _ e3 m3)
 |false=>rw[f_ A_]at q2 ⊢;exact⟨x,_,I2,r1,q2.ok _ _ e1 m1⟩
def FA (ha:PE X a (RD X.K ex va fa))(hb:PE X (.BoolOp .Or (b::rest) pos) (RD X.K ex vb fb)) :
  PE X (.BoolOp .Or (a::b::rest) pos) (RD X.K ex (va++vb) λτ=>II (fa τ) λx=>II (iK x) λr=>if r=Θ then .ok x else fb τ):=by
 intro pins s σ H Q I h;obtain⟨S,τ,hs,q⟩:=h;refine BoolOp_or (JP (ha pins s σ H (λv H'=>∃d,ik H H'/\IU X.K (nw S H) H' v d/\_) I (iQ (.refl _) hs.left (IP.II q) λx v H1 e1 _ m1 q1=>⟨x,e1,m1,q1⟩)) λv s1 ⟨x,H1,I1,r1,d,e1,m1,q1⟩=>?_);refine JP (nM (Q:=λb H'=>H'=H1/\IP ex (if b=Θ then .ok d else fb τ) (Kk X.K S H Q)) I1 r1 m1 ((IP.II q1).mono λb z=>⟨rfl,z⟩)) λc s2 JG=>?_;obtain⟨H2,I2,e2,q2⟩:=JG;subst e2
 induction c using zB with
 |false=>rw[f_ A_]at q2 ⊢;exact hb pins s2 σ _ Q I2 (iQ e1 hs.right q2 λy w H3 e3 _ m3 q3=>q3 _ _ e3 m3)
 |true=>rw[h_ rfl]at q2 ⊢;exact⟨x,_,I2,r1,q2.ok _ _ e1 m1⟩
def FC (ha:PE X a (RD X.K ex va fa))(ht:PT X a (RT X.K ex va λτ=>II (fa τ) iK)) :
  PE X (.UnaryOp .Not a pos) (RD X.K ex va λτ=>II (fa τ) λx=>II (iK x) λr=>.ok (.bl !r))/\PT X (.UnaryOp .Not a pos) (RT X.K ex va λτ=>II (II (fa τ) λx=>II (iK x) λr=>.ok (.bl !r)) iK):=by
 constructor
 ·intro pins s σ H Q I h;obtain⟨S,τ,hs,q⟩:=h;refine UnaryOp_ (JP (ha pins s σ H (λv H'=>∃d,ik H H'/\IU X.K (nw S H) H' v d/\_) I (iQ (.refl _) hs (IP.II q) λx v H1 e1 _ m1 q1=>⟨x,e1,m1,q1⟩)) λv s1 ⟨x,H1,I1,r1,d,e1,m1,q1⟩=>?_);refine not_of (JP (nM (Q:=λb H'=>Q (.bl !b) H') I1 r1 m1 ((IP.II q1).mono λb z=>z.ok _ _ e1 (.bl _))) λc s2 ⟨H2,I2,q2⟩=>⟨.bl !c,H2,I2,rfl,q2⟩)
 ·refine oj (Cz ht) λσ H Q JG=>?_;obtain⟨S,τ,hs,q⟩:=JG;exact kR (.refl _) hs (IP.mk ((IP.II (IP.II q)).mono λx hx=>(IP.II hx).mono λr hr=>hr.ok.ok)) λx H2 e2 _ k=>k H2 e2
def xV {X:Cx}{e:Expr}{pos:Pos}{op:BoolOp}{es:Â}{t:TT}(h:PT X (.BoolOp op es pos) t):PW X (.BoolOp op es pos) t:=λ_ pins s σ H Q I q=>h pins s σ H Q I q
def BN {fa fb:Ev->Res D}(ha:PT X a (RT X.K ex va λτ=>II (fa τ) iK))(hb:PW X (.BoolOp .And (b::rest) pos) (RT X.K ex vb λτ=>II (fb τ) iK)) :
  PT X (.BoolOp .And (a::b::rest) pos) (RT X.K ex (va++vb) λτ=>II (II (fa τ) λx=>II (iK x) λr=>if r=Θ then fb τ else .ok x) iK):=by
 refine oj (Cy ha hb).pt λσ H Q JG=>?_;obtain⟨S,τ,hs,q⟩:=JG;refine kR (.refl _) hs.left (Kt:=λr=>IP ex (if r=Θ then II (fb τ) iK else .ok Ξ) λb=>∀H',ik H H'->Q b H') (IP.mk ((IP.II (IP.II q)).mono λx hx=>(IP.II hx).eq.mono λr hr=>?_)) λr H2 e2 _ k=>?_
 ·obtain⟨er,hr⟩:=hr
  induction r using zB with
  |true=>rw[h_ rfl]at hr ⊢;exact IP.mk hr
  |false=>rw[f_ A_]at hr ⊢;have Ou:IP ex (iK x) _:=hr;rw[er]at Ou;exact Ou
 ·induction r using zB with
  |true=>rw[h_ rfl]at k ⊢;exact kR e2 hs.right k λb H3 e3 _ z=>z H3 e3
  |false=>rw[f_ A_]at k ⊢;exact k.ok H2 e2
def FD {fa fb:Ev->Res D}(ha:PT X a (RT X.K ex va λτ=>II (fa τ) iK))(hb:PW X (.BoolOp .Or (b::rest) pos) (RT X.K ex vb λτ=>II (fb τ) iK)) :
  PT X (.BoolOp .Or (a::b::rest) pos) (RT X.K ex (va++vb) λτ=>II (II (fa τ) λx=>II (iK x) λr=>if r=Θ then .ok x else fb τ) iK):=by
 refine oj (EU ha hb).pt λσ H Q JG=>?_;obtain⟨S,τ,hs,q⟩:=JG;refine kR (.refl _) hs.left (Kt:=λr=>IP ex (if r=Θ then .ok Θ else II (fb τ) iK) λb=>∀H',ik H H'->Q b H') (IP.mk ((IP.II (IP.II q)).mono λx hx=>(IP.II hx).eq.mono λr hr=>?_)) λr H2 e2 _ k=>?_
 ·obtain⟨er,hr⟩:=hr
  induction r using zB with
  |false=>rw[f_ A_]at hr ⊢;exact IP.mk hr
  |true=>rw[h_ rfl]at hr ⊢;have Ou:IP ex (iK x) _:=hr;rw[er]at Ou;exact Ou
 ·induction r using zB with
  |false=>rw[f_ A_]at k ⊢;exact kR e2 hs.right k λb H3 e3 _ z=>z H3 e3
  |true=>rw[h_ rfl]at k ⊢;exact k.ok H2 e2
def FE {fc:Ev->Res D}(hc:PT X c (RT X.K ex vc λτ=>II (fc τ) iK))(ha:PE X a (RD X.K ex va fa))(hb:PE X b (RD X.K ex vb fb))
  (ta:PT X a (RT X.K ex va λτ=>II (fa τ) iK)) (tb:PT X b (RT X.K ex vb λτ=>II (fb τ) iK)) :
  PE X (.IfExp c a b pos) (RD X.K ex (vc++va++vb) λτ=>II (fc τ) λx=>II (iK x) λr=>if r=Θ then fa τ else fb τ)/\
  PT X (.IfExp c a b pos) (RT X.K ex (vc++va++vb) λτ=>II (II (fc τ) λx=>II (iK x) λr=>if r=Θ then fa τ else fb τ) iK):=by
 constructor
 ·refine iC (qL hc ha hb) λσ H Q JG=>?_;obtain⟨S,τ,hs,q⟩:=JG;refine kR (.refl _) hs.left.left (IP.mk ((IP.II q).mono λx hx=>IP.II hx)) λr H2 e2 _ k=>?_
  induction r using zB with
  |true=>rw[h_ rfl]at k ⊢;exact iQ e2 hs.left.right k λy w H3 e3 _ m3 q3=>q3 _ _ e3 m3
  |false=>rw[f_ A_]at k ⊢;exact iQ e2 hs.right k λy w H3 e3 _ m3 q3=>q3 _ _ e3 m3
 ·intro pins s σ H Q I h;obtain⟨S,τ,hs,q⟩:=h
  refine isTrue_IfExp (JP (hc pins s σ H (λr H2=>ik H H2/\IP ex (if r=Θ then fa τ else fb τ) λd=>IP ex (iK d) λb=>∀H',ik H H'->Q b H') I
   (kR (.refl _) hs.left.left (IP.mk ((IP.II (IP.II q)).mono λx hx=>IP.II hx)) λr H2 e2 _ k=>⟨e2,k⟩)) λd s1 ⟨H1,I1,e1,q1⟩=>?_)
  induction d using zB with
  |true=>rw[h_ rfl]at q1;exact ta pins s1 σ H1 Q I1 (kR e1 hs.left.right (IP.mk q1) λb H3 e3 _ z=>z H3 e3)
  |false=>rw[f_ A_]at q1;exact tb pins s1 σ H1 Q I1 (kR e1 hs.right (IP.mk q1) λb H3 e3 _ z=>z H3 e3)
def FF (h:PA X es (RA X.K ex va fa)):PE X (.Tuple es n pos) (RD X.K ex va λτ=>II (fa τ) λds=>JA (jb ds.length) (.ok (.tup ds))):=by refine iC (qa h) λσ H Q JG=>?_;obtain⟨S,τ,hs,q⟩:=JG;refine qu (.refl _) hs (IP.II q) λds vs H1 e1 _ m1 q1=>?_;obtain⟨g,q1⟩:=IP.JA q1;exact⟨by rw[m1.length];exact jn g,λp hp=>q1.ok _ _ (e1.trans (.upd hp)) ((Dh hp m1).mono (oI e1) (.refl _))⟩
def FG (h:PA X es (RA X.K ex va fa)):PE X (.List es pos) (RD X.K ex va λτ=>II (fa τ) λds=>JA (jb ds.length) (.ok (.lst Θ ds))):=by refine iC (n8 h) λσ H Q JG=>?_;obtain⟨S,τ,hs,q⟩:=JG;refine qu (.refl _) hs (IP.II q) λds vs H1 e1 _ m1 q1=>?_;obtain⟨g,q1⟩:=IP.JA q1;exact⟨by rw[m1.length];exact jn g,λp hp=>q1.ok _ _ (e1.trans (.upd hp)) ((xl hp m1).mono (oI e1) (.refl _))⟩
def FH (ha:PE X a (RD X.K ex va fa))(hb:PE X b (RD X.K ex vb fb))(hp:jr b=Θ) :
  PE X (.Subscript a b pos) (RD X.K ex (va++vb) λτ=>II (fa τ) λx=>II (fb τ) λy=>iO x y):=by
 refine iC (tX (AA (ex:=ex)) ha hb λo i=>by cases b<;>first|rfl|cases hp) λσ H Q JG=>?_;obtain⟨S,τ,hs,q⟩:=JG;refine iQ (.refl _) hs.left (IP.II q) λx v H1 e1 _ m1 q1=>?_;refine iQ e1 hs.right (IP.II q1) λy w H2 e2 KR m2 q2=>?_;exact⟨nw S H,x,y,m1.later KR,m2,q2.mono λd hd=>hd.fit e2⟩
def Ic {lo:Option Expr}(ha:PE X a (RD X.K ex va fa))(hl:PO X lo (RX X.K ex vl fl))(hh:PO X hi (RX X.K ex vh fh)) :
  PE X (.Subscript a (.Slice lo hi Φ p2) pos) (RD X.K ex (va++vl++vh) λτ=>II (fa τ) λx=>II (fl τ) λl=>II (fh τ) λh=>mR x l h):=by
 refine iC (qN (AB (ex:=ex)) ha hl hh) λσ H Q JG=>?_;obtain⟨S,τ,hs,q⟩:=JG;refine iQ (.refl _) hs.left.left (IP.II q) λx v H1 e1 _ m1 q1=>?_;refine AN e1 hs.left.right (IP.II q1) λl H2 e2 KR q2=>?_;refine AN e2 hs.right (IP.II q2) λh H3 e3 Ox q3=>?_;exact⟨nw S H,x,m1.later (KR.trans Ox),q3.mono λd hd=>hd.fit e3⟩
def s_call (g:JR Z CX cl xp X ex G)  (h1:jl Z G f x=Θ)(h2:Z.Pm G f=Θ)(JY:iZ Z G es args=Θ)(h:PA X args (RA X.K ex (ie es) (iG cl es))) :
  PE X (.Call (.Name x p) args [] pos) (RD X.K ex (ie es) λτ=>II (iG cl es τ) λds=>cl f (Jz ds)):=by
 obtain⟨k1,k2,k3,k4⟩:=kN g h1;obtain⟨k,Vj,fd,ps,hm,Oy,hb,F,hr,hlen⟩:=(g.fns f (qr h2).1 (qr h2).2 x k2).ex;obtain⟨E,hP,hE⟩:=g.P';intro pins s σ H Q I q;obtain⟨S,τ,hs,q⟩:=q;have fin:∀(us:Ï) (s1:Α) (vs:Ñ) (H1:Hp) (ds:Ð),Inv X pins σ H1 s1->Vals vs us->ik H H1->IM X.K (nw S H) H1 vs ds->IP ex (cl f (Jz ds)) (Kk X.K S H Q)->Κ (Μ X.prog X.w) X.A (call (.ref Vj) us) (EP X pins σ Q) X.xe s1:=by
  intro us s1 vs H1 ds I1 r e m q1;have hl:=hlen ex _ _ q1;rw[jh]at hl;refine um F hr hb hP g.MH I1 r (by rw[m.length];exact hl) (Fc:=λa=>nw S H a/\H1 a≠Φ) (λa z=>z.2) m.Lb ?_;cases z:cl f (Jz ds) with
  |error er=>
   rw[z]at q1;cases er with
   |stuck=>exact q1.no.elim
   |exc c=>exact hE c _ q1
  |ok d=>
   rw[z]at q1;intro v H' F' fv o;refine q1.ok _ _ (e.trans o.same) (o.rep.read (λa ha=>?_) λa ha=>?_)
   ·rcases o.out a ha with z|z
    ·exact z.1
    ·exact .inr (e.free z)
   ·exact .inr (e.free (o.new a ha))
 refine aaJ (kC I k1 hm ?_ k4)
 induction args using zL with
 |nil=>
  induction es using zL with
  |cons _ _=>cases JY
  |nil=>exact PySem.W.callWith_K0 I.LV Oy (fin [] s [] H [] I .nil (.refl _) .nil q)
 |cons e l=>
  induction es using zL with
  |nil=>cases JY
  |cons a es=>have J7:(notStar e&&JK Z G a e&&iZ Z G es l)=Θ:=JY;simp only[d_]at J7;refine PySem.W.callWith_K (h₀:=X.base) I.ok.mod.Qn Oy (JP (h pos pins s σ H (λvs H1=>∃ds,ik H H1/\IM X.K (nw S H) H1 vs ds/\IP ex (cl f (Jz ds)) (Kk X.K S H Q)) I ⟨S,τ,hs,(IP.II q).mono λds hd vs H1 e m=>⟨ds,e,m,hd⟩⟩) λus s1 ⟨vs,H1,I1,r,ds,e,m,q1⟩=>⟨I1.LV,?_⟩) (ia J7.1.1 l X.env) (jB Z G (es:=es) pos X.env J7.2);exact fin us s1 vs H1 ds I1 r e m q1
def Ie (g:JR Z CX cl xp X ex G)  (hg:G.Nq (rl f)=Θ)(JY:iZ Z G es (a::args)=Θ)(h:PA X (a::args) (RA X.K ex (ie es) (iG cl es))) :
  PE X (.Call (.Name (kY f) p) (a::args) [] pos) (RD X.K ex (ie es) λτ=>II (iG cl es τ) λds=>lC f ds):=by
 obtain⟨k1,k2,k3,k4⟩:=kc g (xG f) (sO hg)
 induction es using zL with
 |nil=>cases JY
 |cons b es=>
  have J7:(notStar a&&JK Z G b a&&iZ Z G es args)=Θ:=JY;simp only[d_]at J7;have mono:∀σ H Q,RD X.K ex (ie (b::es)) (λτ=>II (iG cl (b::es) τ) λds=>lC f ds) σ H Q->V' (Zh X.K ex f) (RA X.K ex (ie (b::es)) (iG cl (b::es))) σ H Q:=by rintro σ H Q ⟨S,τ,hs,q⟩;refine qu (.refl _) hs (IP.II q) λds vs H1 e1 _ m1 q1=>?_;exact⟨nw S H,ds,m1,q1.mono λd hd=>hd.fit e1⟩
  refine iC ?_ mono;have hv:=uh f;have hc:=AE (X:=X) (ex:=ex) (g.calm (sP hg)) f;unfold xw at hv hc;cases z:Fq f with
  |true=>rw[z,h_ rfl]at hv hc;exact mJ hc k1 k2 hv h k3 k4 (ia J7.1.1 args X.env) (jB Z G (es:=es) pos X.env J7.2)
  |false=>rw[z,f_ A_]at hv hc;exact kT hc k1 k2 hv h k3 k4 (ia J7.1.1 args X.env) (jB Z G (es:=es) pos X.env J7.2)
abbrev Xa:Kd->V
 |.str=>.ty "str" |.int=>.ty "int" |.bool=>.ty "bool" |.list=>.ty "list" |.tuple=>.ty "tuple"
def uo (k:Kd):RelV (Xa k) (xx k):=by cases k<;>rfl
def xW (k:Kd):jX X (.builtin "isinstance") (λxs H Q=>∃S x d,xs=[x,Xa k]/\IU X.K S H x d/\l7 d=Θ/\Q (.bl (jE k d)) H):=by
 intro pins s σ H xs us Q I r h;obtain⟨S,x,d,rfl,m,hn,q⟩:=h;obtain⟨u,w',rfl,r1,r2⟩:=vals2 r;have e:w'=xx k:=by have:=r2.abs;have h2:=(uo k).abs;cases k<;>(revert r2;intro r2;exact r2)
 subst e;exact AH I r1 m k hn q
def FI (g:JR Z CX cl xp X ex G)  (hg:G.gl.contains 14=Θ)(hk:G.gl.contains (xF k)=Θ)(hn:notStar e=Θ)(ha:PE X e (RD X.K ex va fa)) :
  PE X (.Call (.Name "isinstance" p) [e,.Name (mX k) p'] [] pos) (RD X.K ex va λτ=>II (fa τ) λx=>JA (l7 x) (.ok (.bl (jE k x)))):=by
 obtain⟨k1,k2,k3,k4⟩:=kc g (show i7[14]? = Δ ("isinstance" : Str) from rfl) hg;obtain⟨j1,j2,j3,j4⟩:=kc g (Dm k) hk;have pa:PA X [e,.Name (mX k) p'] (lE (RD X.K ex va fa) (lE (tC (Xa k)) sh)):=iB ha (iB (tP j1 j2 (AF k) (uo k) j3 j4) i9 rfl) (ia hn _ _);refine iC (kT (xW k) k1 k2 PyProof.Rows.boot_isinstance pa k3 k4 (ia hn _ _) rfl) λσ H Q JG=>?_;obtain⟨S,τ,hs,q⟩:=JG;refine iQ (.refl _) hs (IP.II q) λx v H1 e1 _ m1 q1=>?_;obtain⟨gd,q1⟩:=IP.JA q1;exact⟨nw S H,v,x,rfl,m1,gd,q1.ok _ _ e1 (.bl _)⟩
def xX (g:JR Z CX cl xp X ex G)  (h:jl Z G n z=Θ)(hc:Z.cls.contains n=Θ):∃v,CV X z v/\PE X (.Name z p) (tC v):=by
 obtain⟨k1,k2,k3,k4⟩:=kN g h;obtain⟨v,hv⟩:=g.NH n (by simpa using hc) z k2;refine⟨v,hv,?_⟩;rcases hv with⟨C,rfl,h1⟩|⟨T,rfl,h1,h2⟩
 ·exact tO k1 h1 rfl k4
 ·exact tP k1 h1 h2 rfl k3 k4
def rq (h:IP ex (De tb d) k):∃c b,d=.exc c/\tb.lookup c=Δ b/\k (.bl b):=by
 induction d using zD with
 |exc c=>
  have h':IP ex (match tb.lookup c with|some b=>.ok (.bl b)|none=>JE) k:=h;cases z:tb.lookup c with
  |none=>rw[z]at h';exact h'.no.elim
  |some b=>rw[z]at h';exact⟨c,b,rfl,z,h'.ok⟩
 |_=>exact h.no.elim
def IU.TN {K:Frag}  (h:IU K S H v (.exc c)):∃a,v=.ref a/\J8 K H a (.inr c):=by
 cases h with
 |exc h=>exact⟨_,rfl,h⟩
def vL (hv:CV X z v2):jX X (.builtin "isinstance") (λxs H Q=>∃a c C b,xs=[.ref a,v2]/\J8 X.K H a (.inr c)/\PySem.W.nsIn X.K Η c=Δ (Δ (.ref C))/\ExcAt X.K C/\PySem.W.kitOne X.K (.ref C) (vv v2)=Δ b/\Q (.bl b) H):=by intro pins s σ H xs us Q I r h;obtain⟨a,c,C,b,rfl,h1,h2,h3,h4,q⟩:=h;obtain⟨u,w',rfl,r1,r2⟩:=vals2 r;cases r1;rw[hv.rel r2];exact AJ I h1 h2 h3 h4 q
def vM (hv:CV X z v1)(hw:CV X y v2):jX X (.builtin "isinstance") (λxs H Q=>∃a p c C b,xs=[.ref a,.ref p]/\J8 X.K H a (.inr c)/\K0 X.K H p [v1,v2]/\PySem.W.nsIn X.K Η c=Δ (Δ (.ref C))/\ExcAt X.K C/\PySem.W.kitAny X.K (.ref C) [vv v1,vv v2]=Δ b/\Q (.bl b) H):=by intro pins s σ H xs us Q I r h;obtain⟨a,p,c,C,b,rfl,h1,hp,h2,h3,h4,q⟩:=h;obtain⟨u,w',rfl,r1,r2⟩:=vals2 r;cases r1;cases r2;exact AK I h1 h2 h3 hv hw hp h4 q
def lookup_mem {tb:List (Str×Bool)}  (h:tb.lookup c=Δ b):(c,b)∈tb:=by
 induction tb with
 |nil=>cases h
 |cons p r ih=>
  rw[aaF]at h;split at h
  ·rename_i hb
   cases h;have:c=p.1:=g_ hb;subst this;exact aaf ..
  ·exact H_ _ (ih h)
def FJ (g:JR Z CX cl xp X ex G)  (hg:G.gl.contains 14=Θ)(hn:notStar e=Θ)(hc:BJ Z G ns y=Θ)(ht:tb.all (Fv Z ns)=Θ)(ha:PE X e (RD X.K ex va fa)) :
  PE X (.Call (.Name "isinstance" p) [e,y] [] pos) (RD X.K ex va λτ=>II (fa τ) (De tb)):=by
 obtain⟨k1,k2,k3,k4⟩:=kc g (show i7[14]? = Δ ("isinstance" : Str) from rfl) hg;rw[z_]at ht
 induction ns using zL with
 |nil=>exact ip hc
 |cons n r=>
 induction r using zL with
 |nil=>
  obtain⟨z,p',rfl,Mo⟩:=iY (show Lg (λz=>jl Z G n z&&Z.cls.contains n) y=Θ from hc);rw[d_]at Mo;obtain⟨v,hv,pv⟩:=xX (p:=p') g Mo.1 Mo.2;obtain⟨_,j2,_,_⟩:=kN g Mo.1;have pa:PA X [e,.Name z p'] (lE (RD X.K ex va fa) (lE (tC v) sh)):=iB ha (iB pv i9 rfl) (ia hn _ _);refine iC (kT (vL hv) k1 k2 PyProof.Rows.boot_isinstance pa k3 k4 (ia hn _ _) rfl) λσ H Q JG=>?_;obtain⟨S,τ,hs,q⟩:=JG;refine iQ (.refl _) hs (IP.II q) λx w H1 e1 _ m1 q1=>?_;obtain⟨c,b,rfl,hl,q2⟩:=rq q1;obtain⟨a,rfl,hx⟩:=m1.TN;have hm:(c,n,b)∈Z.xt:=by simpa using show Z.xt.contains (c,n,b)=Θ from ht (c,b) (lookup_mem hl)
  obtain⟨C,h1,h2,h3⟩:=g.MZ c n b z hm j2;exact⟨a,c,C,b,rfl,hx,h1,h2,h3 v hv,q2 _ _ e1 (.bl _)⟩
 |cons m r=>
 induction r using zL with
 |cons _ _=>exact ip hc
 |nil=>
  obtain⟨es,tn,Xb,rfl,hc⟩:=qs (show TK (Fu λa b=>Lg (λz=>jl Z G n z&&Z.cls.contains n) a&&Lg (λy=>jl Z G m y&&Z.cls.contains m) b) y=Θ from hc)
  induction es using zL with
  |nil=>exact ip hc
  |cons z1 es=>
  induction es using zL with
  |nil=>exact ip hc
  |cons z2 es=>
  induction es using zL with
  |cons _ _=>exact ip hc
  |nil=>
  obtain⟨Zo,O7⟩:=s_.mp (show(Lg (λz=>jl Z G n z&&Z.cls.contains n) z1&&Lg (λy=>jl Z G m y&&Z.cls.contains m) z2)=Θ from hc);obtain⟨z,p',rfl,OU⟩:=iY Zo;obtain⟨y,p2,rfl,hd2⟩:=iY O7;rw[d_]at OU hd2;obtain⟨v,hv,pv⟩:=xX (p:=p') g OU.1 OU.2;obtain⟨w,hw,pw⟩:=xX (p:=p2) g hd2.1 hd2.2;obtain⟨_,j2,_,_⟩:=kN g OU.1;obtain⟨_,i2,_,_⟩:=kN g hd2.1;have pt:PE X (.Tuple [.Name z p',.Name y p2] tn Xb) _:=qa (iB pv (iB pw i9 rfl) rfl);have pa:=iB ha (iB pt i9 rfl) (ia hn _ _);refine iC (kT (vM hv hw) k1 k2 PyProof.Rows.boot_isinstance pa k3 k4 (ia hn _ _) rfl) λσ H Q JG=>?_;obtain⟨S,τ,hs,q⟩:=JG;refine iQ (.refl _) hs (IP.II q) λx w' H1 e1 _ m1 q1=>?_;obtain⟨c,b,rfl,hl,q2⟩:=rq q1;obtain⟨a,rfl,hx⟩:=m1.TN;have Nu:(Z.xt.contains (c,n,Ξ)&&Z.xt.contains (c,m,b))=Θ:=ht (c,b) (lookup_mem hl);rw[d_]at Nu;obtain⟨C,h1,h2,h3⟩:=g.MZ c n Ξ z (by simpa using Nu.1) j2;obtain⟨C',RY,Zq,h3'⟩:=g.MZ c m b y (by simpa using Nu.2) i2;rw[h1]at RY;cases RY;refine⟨(by decide:2<=Ζ),λpp hp=>⟨a,pp,c,C,b,rfl,(ik.upd hp).KW hx,.inl (.inl il),h1,h2,?_,q2 _ _ (e1.trans (.upd hp)) (.bl _)⟩⟩;have a1:=h3 v hv;have a2:=h3' w hw;unfold PySem.W.kitAny;rw[a1];unfold PySem.W.kitAny;rw[a2]
  induction b using zB<;>rfl
theorem IM.rev {K:Frag}  : ∀ {vs:Ñ}{ds:Ð},IM K S H vs ds->IM K S H vs.reverse ds.reverse
 |[],[],_=>.nil
 |v::vs,d::ds,.cons h t=>by rw[List.reverse_cons,List.reverse_cons];exact(IM.rev t).append (.cons h .nil)
def FK (hx:x.length<=1000)(ha:PE X e' (RD X.K ex va fa)) :
  PE X (.JoinedStr [.Constant (.str x) j p,.FormattedValue e' 114 Φ q] pos) (RD X.K ex va λτ=>II (fa τ) (vE x Φ)):=by
 refine iC (Ah hx ha) λσ H Q JG=>?_;obtain⟨S,τ,hs,q⟩:=JG;refine iQ (.refl _) hs (IP.II q) λd v H1 e1 _ m1 q1=>?_
 induction d using zD with
 |str z=>cases m1.Kg;obtain⟨g,q1⟩:=IP.JA q1;have g:=jn g;have e0:Str.empty.length=0:=rfl;have g:x.length+(reprText z).length+Str.empty.length<=Ζ:=g;have q1:Kk X.K S H Q (.str (x++reprText z++Str.empty)):=q1.ok;rw[Str.append_empty]at q1;exact⟨z,rfl,⋯,q1 _ _ e1 (.str _)⟩
 |_=>exact q1.no.elim
def Du (g:JR Z CX cl xp X ex G)  (h1:G.gl.contains 4=Θ)(h2:G.gl.contains 12=Θ)(hn:notStar e=Θ)(LC:G.cm=Θ)(ha:PE X e (RD X.K ex va fa)) :
  PE X (.Call (.Name "sorted" p) [.Call (.Name "set" p') [e] [] pos'] [] pos) (RD X.K ex va λτ=>II (fa τ) ud):=by
 obtain⟨k1,k2,k3,k4⟩:=kc g (show i7[4]? = Δ ("sorted" : Str) from rfl) h1;obtain⟨j1,j2,j3,j4⟩:=kc g (show i7[12]? = Δ ("set" : Str) from rfl) h2;have cc:=vC (g.calm LC);have cs:=qj (g.calm LC);have i1:=mJ (p:=p') (pos:=pos') cc j1 j2 ∅ (iB ha i9 (ia hn _ _)) nofun nofun (ia hn _ _) rfl;have i2:=kT (p:=p) (pos:=pos) cs k1 k2 ∅ (iB i1 i9 rfl) nofun nofun rfl rfl;refine iC i2 λσ H Q JG=>?_;obtain⟨S,τ,hs,q⟩:=JG;refine iQ (.refl _) hs (IP.II q) λd v H1 e1 _ m1 q1=>?_
 induction d using zD with
 |lst o ds=>
  obtain⟨a,ys,rfl,qq,m⟩:=m1.Kj;have q2:IP ex (match kf ds with|some ns=>JA (decide (ns.length < 64)) (.ok (.lst Θ ((PySem.W.sortI (dd ns)).map .int)))|none=>JE) (Kk X.K S H Q):=q1;cases z:kf ds with
  |none=>rw[z]at q2;exact q2.no.elim
  |some ns=>rw[z]at q2;obtain⟨gd,q3⟩:=IP.JA q2;have Pe:ns.length < 64:=l_ gd;rw[oD z]at m;rw[m.ints]at qq;refine⟨a,ns,rfl,qq,Pe,λa' o' Qa KZ=>⟨a',o',dd ns,rfl,il,KZ,Nat.lt_of_le_of_lt (xd ns) Pe,λl hl=>?_⟩⟩;have U':H1 l=Φ:=(ik.upd Qa).free hl;exact q3.ok _ _ ((e1.trans (.upd Qa)).trans (.upd hl)) (.lst (.inr (e1.free U')) (.inl il) (IM.ofInts _))
 |_=>exact q1.no.elim
def Dv (g:JR Z CX cl xp X ex G)  (h1:G.Nq 5=Θ)(h2:G.gl.contains 18=Θ)(hn:notStar e=Θ)(ha:PE X e (RD X.K ex va fa)) :
  PE X (.Call (.Name "list" p) [.Call (.Name "reversed" p') [e] [] pos'] [] pos) (RD X.K ex va λτ=>II (fa τ) Aq):=by
 obtain⟨k1,k2,k3,k4⟩:=kc g (show i7[5]? = Δ ("list" : Str) from rfl) (sO h1);obtain⟨j1,j2,j3,j4⟩:=kc g (show i7[18]? = Δ ("reversed" : Str) from rfl) h2;refine iC (Ag (g.calm (sP h1)) k1 k2 j1 j2 ha λes=>ia hn es X.env) λσ H Q JG=>?_;obtain⟨S,τ,hs,q⟩:=JG;refine iQ (.refl _) hs (IP.II q) λx v H1 e1 _ m1 q1=>?_
 induction x using zD with
 |lst o ds=>obtain⟨a,ys,rfl,qq,m⟩:=m1.Kj;exact⟨a,ys,rfl,qq,λl hl=>Kk.fit e1 q1 _ _ (.upd hl) (xl hl m.rev)⟩
 |_=>exact q1.no.elim
def sS (h:lL d=Θ):∃x,d=.str x:=by
 induction d using zD<;>first|exact⟨_,rfl⟩|cases h
def FN (g:JR Z CX cl xp X ex G)  (hn:rm o=Θ)(hl:(apos.endLine == JL.line)=Θ)(hlen:(a::args).length < 29)
  (JY:iZ Z G es (a::args)=Θ) (ho:PE X o (RD X.K ex vo fo)) (h:PA X (a::args) (RA X.K ex (ie es) (iG cl es))) :
  PE X (.Call (.Attribute o (qp m) apos) (a::args) [] JL) (RD X.K ex (vo++ie es) λτ=>II (fo τ) λx=>JA (lL x) (II (iG cl es τ) λds=>pC m x ds)):=by
 induction es using zL with
 |nil=>cases JY
 |cons b es=>
  have J7:(notStar a&&JK Z G b a&&iZ Z G es args)=Θ:=JY;simp only[d_]at J7;have star:=jB Z G (es:=es) JL X.env J7.2;have mono:∀σ H Q,RD X.K ex (vo++ie (b::es)) (λτ=>II (fo τ) λx=>JA (lL x) (II (iG cl (b::es) τ) λds=>pC m x ds)) σ H Q->YK X.K "str" (Zi X.K ex m) (RD X.K ex vo fo) (RA X.K ex (ie (b::es)) (iG cl (b::es))) σ H Q:=by rintro σ H Q ⟨S,τ,hs,q⟩;refine iQ (.refl _) hs.left (IP.II q) λx v H1 e1 _ m1 q1=>?_;obtain⟨gd,q1⟩:=IP.JA q1;obtain⟨z,rfl⟩:=sS gd;cases m1.Kg;refine⟨rfl,qu e1 hs.right (IP.II q1) λds vs H2 e2 KR m2 q2=>?_⟩;exact⟨nw S H,.str z,ds,.str z,m2,q2.mono λd hd=>hd.fit e2⟩
  have Oi:attributeBase o (qp m) X.env (eval o X.env)=eval o X.env:=by
   induction o using zE with
   |Call f args Xc pos=>
    induction args using zL with
    |nil=>
     induction Xc using zL with
     |nil=>cases hn
     |cons _ _=>cases f<;>rfl
    |cons _ _=>cases f<;>rfl
   |_=>rfl
  have Xd:(backTo JL (Ν (a::args) X.env)).all (λx=>!x.1)=Θ:=by rw[ia J7.1.1];show(Θ&&(backTo JL (Ν args X.env)).all (λx=>!x.1))=Θ;rw[Bool.true_and,z_];intro y hy;have:=List.any_eq_false.mp star y hy;simpa using this
  have MR:((backTo JL (Ν (a::args) X.env)).all (λx=>!x.1)&&(backToKw JL (keywordEach [] X.env)).all (λx=>x.1.isSome)&&decide ((a::args).length+([]:List Keyword).length+(if([]:List Keyword).isEmpty then 0 else 1) < 30))=Θ:=by rw[Xd];have:decide ((a::args).length+([]:List Keyword).length+(if([]:List Keyword).isEmpty then 0 else 1) < 30)=Θ:=y_ (by simp at hlen ⊢;omega);rw[this];rfl
  refine iC ?_ mono;cases m with
  |join=>exact wz PySem.F.plainAttrs_str PySem.F.slot_str_join PySem.F.type_str_join (AM (ex:=ex) .join) ho h Oi MR hl (ia J7.1.1 args X.env) star
theorem pV {K:Frag}  : ∀(vs:Ñ) (ds:Ð),vs.length=ds.length->(∀(k:Nat) v d,vs[k]? = Δ v->ds[k]? = Δ d->IU K S H v d)->IM K S H vs ds
 |[],[],_,_=>.nil
 |v::vs,d::ds,hl,h=>.cons (h 0 v d rfl rfl) (pV vs ds (by simpa using hl) λk v d h1 h2=>h (k+1) v d (by rw[aaE];exact h1) (by rw[aaE];exact h2))
 |[],_::_,hl,_=>by cases hl
 |_::_,[],hl,_=>by cases hl
def uq {K:Frag}  (h:IU K S H v x)(e:pD x=.ok ds):∃k a xs,v=.ref a/\MV K H k a xs/\IM K S H xs ds:=by
 induction x using zD with
 |lst o es=>cases e;obtain⟨a,xs,rfl,q,m⟩:=h.Kj;exact⟨.l,a,xs,rfl,q,m⟩
 |tup es=>cases e;obtain⟨a,xs,rfl,q,m⟩:=h.Kc;exact⟨.t,a,xs,rfl,q,m⟩
 |_=>cases e
def Dw (g:JR Z CX cl xp X ex G)  (h1:G.Nq 5=Θ)(h2:G.gl.contains 17=Θ)(hn:notStar a=Θ)(LF:notStar b=Θ)(ha:PE X a (RD X.K ex va fa))(hb:PE X b (RD X.K ex vb fb)) :
  PE X (.Call (.Name "list" p) [.Call (.Name "zip" p') [a,b] [] pos'] [] pos) (RD X.K ex (va++vb) λτ=>II (fa τ) λx=>II (fb τ) λy=>uc x y):=by
 obtain⟨k1,k2,k3,k4⟩:=kc g (show i7[5]? = Δ ("list" : Str) from rfl) (sO h1);obtain⟨j1,j2,j3,j4⟩:=kc g (show i7[17]? = Δ ("zip" : Str) from rfl) h2;have s2:Ν [b] X.env=[(Ξ,eval b X.env)]:=ia LF [] X.env;refine iC (Aj (g.calm (sP h1)) k1 k2 j1 j2 (iB ha (iB hb i9 (ia LF _ _)) (ia hn _ _)) (by rw[ia hn,s2]) s2) λσ H Q JG=>?_;obtain⟨S,τ,hs,q⟩:=JG;refine iQ (.refl _) hs.left (IP.II q) λx v H1 e1 _ m1 q1=>?_;refine iQ e1 hs.right (IP.II q1) λy w H2 e2 KR m2 q2=>?_;have q3:=IP.II (show IP ex (II (oC x y) λds=>JA (jb ds.length) (.ok (D.lst Θ ds))) (Kk X.K S H Q) from q2);cases hx:pD x with
 |error er=>
  induction x using zD<;>first|(cases hx;done)|(rw[show oC _ y=JE from rfl]at q3;exact q3.no.elim)
 |ok ds=>
  cases hy:pD y with
  |error er=>
   have:oC x y=JE:=by
    unfold oC;rw[hx,hy]
    induction y using zD<;>first|(cases hy;done)|(cases hy;rfl)
   rw[this]at q3;exact q3.no.elim
  |ok es=>
   have hz:oC x y=.ok (jZ ds es):=by unfold oC;rw[hx,hy];rfl
   rw[hz]at q3;obtain⟨gd,q4⟩:=IP.JA q3.ok;obtain⟨ka,l,xs,rfl,g1,n1⟩:=uq (m1.later KR) hx;obtain⟨kb,m,ys,rfl,g2,n2⟩:=uq m2 hy;have lz:(jZ ds es).length=min ds.length es.length:=by unfold jZ;rw[List.length_zipWith]
   refine⟨ka,kb,l,m,xs,ys,rfl,g1,g2,by rw[n1.length,n2.length,<- lz];exact jn gd,λTs A H' e hA NZ hlen hT=>?_⟩;refine q4.ok (.ref A) H' (e2.trans e) (.lst (.inr (e2.free hA)) (.inl NZ) (pV _ _ (by rw[i_,hlen,lz,n1.length,n2.length]) λk v d hv hd=>?_));rw[D_]at hv;obtain⟨T,ht,rfl⟩:=Option.map_eq_some_iff.mp hv;obtain⟨x',y',KS,NX,QC⟩:=hT k T ht;obtain⟨d1,OU,r1⟩:=n1.Oo KS;obtain⟨d2,hd2,r2⟩:=n2.Oo NX;have:(jZ ds es)[k]? = Δ (.tup [d1,d2]):=by unfold jZ;rw[List.getElem?_zipWith,OU,hd2]
   rw[this]at hd;cases hd;exact .tup (.inl (.inl QC)) (.cons (r1.mono (λ_ z=>z) e) (.cons (r2.mono (λ_ z=>z) e) .nil))
theorem oJ (LH:t≠it):∀(n i:Nat) (s:Α) (Q:Ï->Α->Prop),s.heap.IsListIter it t i->s.heap.IsList t items->i+n<=items.size->
  (∀h',h'.IsListIter it t (i+n)->Heap.SameBut it s.heap h'->Q ((items.toList.drop i).take n) {s with heap:=h'})->Κ (Μ prog w) A (draw (.ref it) n) Q E s
 |0,i,s,Q,hit,_,_,hQ=>by show Κ _ _ (pure []) Q E s;exact e_ (by simpa using hQ s.heap hit (Heap.SameBut.refl ..))
 |n+1,i,s,Q,hit,ht,hle,hQ=>by
  have JZ:i < items.size:=⋯
  show Κ _ _ (pyNext (.ref it) >>= _) Q E s;refine a_ (wpAny_pyNext_list_item hit ht (x:=items[i]) (by simp[JZ]) λNB M0 Mx=>?_);refine a_ (L_ (oJ LH n (i+1) _ _ M0 (ht.extBut Mx.extBut LH) ⋯ λQO QP TQ=>e_ ?_));have hd:items.toList.drop i=items[i]::items.toList.drop (i+1):=by simp[List.drop_eq_getElem_cons,JZ]
  have:=hQ QO (by rw[show i+(n+1)=i+1+n by omega];exact QP) (Mx.trans TQ);rw[hd,List.take_succ_cons]at this;exact this
def mZ (hh:A.handled=Φ)(ht:s.heap.IsList t items)
  (hQ:∀h',Heap.ExtBut s.heap.objs.size s.heap h'->Q items.toList {s with heap:=h'}):Κ (Μ prog w) A (unpackItems (.ref t) items.size Φ) Q E s:=by
 have JZ:t≠s.heap.objs.size:=by obtain⟨o,ho,_⟩:=ht;exact o_ (j_ ho)
 have push:∀o,(s.heap.push o).IsList t items:=λo=>by obtain⟨ob,e,c,n,d⟩:=ht;exact⟨ob,m_ _ e,c,n,d⟩
 unfold unpackItems;refine a_ ?_
 ·unfold notIterableAtAll;refine a_ (wpAny_specialOf ht.typeIs slot_list_iter.lookup ?_);refine e_ ?_;simp only[aap,if_false];refine a_ (L_ (aaq ht ?_));refine a_ (L_ (oJ JZ items.size 0 _ _ ⟨_,w_ _ rfl,rfl,rfl⟩ (push _) ⋯ λNB M0 Mx=>?_));have LY:List.take items.size (List.drop 0 items.toList)=items.toList:=by rw[List.drop_zero];exact List.take_of_length_le (by simp)
  rw[LY];rw[f_ (by simp)];have TR:NB.IsList t items:=(push _).extBut Mx.extBut JZ;refine a_ (L_ (wpAny_pyNext_list_end hh M0 TR (by simp) λQO TU=>?_));simp only[Option.isSome_none,aap,if_false];refine e_ (hQ QO λb o hb e=>TU b o hb (Mx.extBut b o hb (m_ _ e)))
def FO (K:Frag)(n:Nat)(t:Rv):TG:=λv σ H Q=>∃a xs,v=.ref a/\(K0 K H a xs∨K2 K H a xs)/\xs.length=n/\t xs σ H Q
def Dx (hc:X.calm=Θ)(h:SN X es t)(hn:(assignEach es X.env).length=n)(JY:(assignEach es X.env).findIdx? (·.1)=Φ):PG X (.Tuple es k pos) (FO X.K n t):=by
 intro pins s σ H v u Q I r hw;obtain⟨a,xs,e1,hq,hl,hw⟩:=hw;subst e1;cases r;rcases hq with hq|hq
 ·obtain⟨its,rv,ht,hz⟩:=I.tuple hq;refine assign_Tuple_tuple (I.ok.hd hc) ht (by simp[hn,<- hl,rv.length]) JY λh' hx=>?_;have I1:Inv X pins σ H {s with heap:=h'}:=I.kept (t':=s.toks) λb o e=>hx b o (o_ (j_ e)) e;exact h pins _ σ H xs _ Q I1 (by simpa using rv) hw
 ·obtain⟨its,rv,pl,hz⟩:=I.list hq;rw[assign_Tuple];refine a_ (wpAny_standAt ?_);unfold unpack;have hlen:(assignEach es X.env).length=its.toArray.size:=by simp[hn,<- hl,rv.length]
  rw[hlen,JY];refine a_ (L_ (mZ (I.ok.hd hc) pl.isList λh' hx=>?_));have I1:Inv X pins σ H {s with heap:=h'}:=I.kept (t':=s.toks) λb o e=>hx b o (o_ (j_ e)) e;exact h pins _ σ H xs _ Q I1 (by simpa using rv) hw
mutual
def gT (K:Frag):Tg->TG
 |.nm i=>v9 i
 |.tp ts=>FO K ts.length (RZ K ts)
def RZ (K:Frag):List Tg->Rv
 |[]=>EY
 |t::ts=>BF (gT K t) (RZ K ts)
end
def mi (h:notStar e=Θ)(es:Â)(env:Env):assignEach (e::es) env=(Ξ,assign e env)::assignEach es env:=by
 induction e using zE<;>first|rfl|cases h
section
variable {Z:Sg}{CX:Mp}{cl:Ä}{xp:Ö}{X:Cx}{ex:Æ}{G:Gm}
theorem oK (G:Gm):∀ {ts:List Tg}{es:Â} (env:Env),lH G ts es=Θ->(assignEach es env).length=ts.length/\(assignEach es env).findIdx? (·.1)=Φ
 |[],[],_,_=>⟨rfl,rfl⟩
 |t::ts,e::es,env,h=>by have h':(notStar e&&jI G t e&&lH G ts es)=Θ:=h;simp only[d_]at h';obtain⟨h1,h2⟩:=oK G (ts:=ts) (es:=es) env h'.2;rw[mi h'.1.1];refine⟨by rw[List.length_cons,h1,List.length_cons],?_⟩;rw[List.findIdx?_cons,f_ (by simp),h2];rfl
 |[],_::_,_,h=>by cases h
 |_::_,[],_,h=>by cases h
mutual
theorem Oz (g:JR Z CX cl xp X ex G):∀(t:Tg) (e:Expr),jI G t e=Θ->PG X e (gT X.K t)
 |.nm i,e,h=>by
  induction e using zE with
  |Name x pos=>
   have h':(G.N[i]? == Δ x&&(G.kd[i]? == Δ .local||(G.df&&G.kd[i]? == Δ .cell)))=Θ:=(s_.mp h).1;rw[d_,J_,d_]at h';obtain⟨h1,h2⟩:=h';have hx:G.N[i]? = Δ x:=g_ h1;have hk:=g.kd i x hx;refine zR (by rw[g.N];exact g.JX) (by rw[g.N];exact hx) ?_ ?_
   ·rcases h2 with h2|h2
    ·exact .inl (hk.trans (g_ h2))
    ·exact .inr (hk.trans (g_ h2.2))
   ·rcases h2 with h2|h2
    ·exact .inr (hk.trans (g_ h2))
    ·exact .inl (g.df h2.1 x)
  |_=>cases h
 |.tp ts,e,h=>by
  induction e using zE with
  |Tuple es k pos=>have h0:(G.cm&&lH G ts es)=Θ:=h;rw[d_]at h0;have h':=h0.2;obtain⟨h1,h2⟩:=oK G X.env h';exact Dx (g.calm h0.1) (FP g ts es h') h1 h2
  |_=>cases h
theorem FP (g:JR Z CX cl xp X ex G):∀(ts:List Tg) (es:Â),lH G ts es=Θ->SN X es (RZ X.K ts)
 |[],[],_=>zU
 |t::ts,e::es,h=>by have h':(notStar e&&jI G t e&&lH G ts es)=Θ:=h;simp only[d_]at h';exact wc (Oz g t e h'.1.2) (FP g ts es h'.2) (by rw[mi h'.1.1];rfl)
 |[],_::_,h=>by cases h
 |_::_,[],h=>by cases h
end
end
mutual
theorem mj {G:Gm}:∀(t:Tg) (e:Expr),jI G t e=Θ->∀j∈Lf t,G.io≠Δ j
 |.nm i,e,h,j,hj=>by
  induction e using zE with
  |Name x pos=>
   have h':=(s_.mp (show((G.N[i]? == Δ x&&(G.kd[i]? == Δ .local||(G.df&&G.kd[i]? == Δ .cell)))&&G.io != Δ i)=Θ from h)).2;have e:j=i:=by simpa[Lf] using hj
   subst e;simpa using h'
  |_=>cases h
 |.tp ts,e,h,j,hj=>by
  induction e using zE with
  |Tuple es k pos=>have h0:(G.cm&&lH G ts es)=Θ:=h;exact rz ts es (s_.mp h0).2 j hj
  |_=>cases h
theorem rz {G:Gm}:∀(ts:List Tg) (es:Â),lH G ts es=Θ->∀j∈oH ts,G.io≠Δ j
 |[],_,_,j,hj=>by cases hj
 |t::ts,[],h,_,_=>by cases h
 |t::ts,e::es,h,j,hj=>by
  have h':(notStar e&&jI G t e&&lH G ts es)=Θ:=h;simp only[d_]at h';rcases t_.mp (show j∈Lf t++oH ts from hj) with hj|hj
  ·exact mj t e h'.1.2 j hj
  ·exact rz ts es h'.2 j hj
end
def QQ (K:Frag)(S:Ç)(H:Hp)(σ:St)(τ:Ev):Prop:=τ.length=σ.length/\∀i d,ic τ i=Δ d->∃v,σ[i]? = Δ (Δ v)/\IU K S H v d
def jC:ic (τ.set i o) j=if i=j/\i < τ.length then o else ic τ j:=by
 unfold ic;rw[List.getElem?_set];by_cases h:i=j
 ·subst h;by_cases h2:i < τ.length
  ·simp[h2]
  ·rw[h_ rfl,f_ h2,f_ ⋯];rw[List.getElem?_eq_none ⋯]
 ·rw[f_ h,f_ ⋯]
section
variable {K:Frag}{S:Ç}{H:Hp}{ex:Æ}
mutual
theorem qv:∀(t:Tg) {σ:St}{τ:Ev}{v:V}{d:D}{Kt:Ev->Prop}{Q:St->Hp->Prop},QQ K S H σ τ->IU K S H v d->IP ex (jq t d τ) Kt->
  (∀τ' JD,QQ K S H JD τ'->JD.length=σ.length->(∀j,j∉Lf t->JD[j]? = σ[j]?)->Kt τ'->Q JD H)->gT K t v σ H Q
 |.nm i,σ,τ,v,d,Kt,Q,hs,m,h,k=>by
  refine k (τ.set i (Δ d)) (σ.set i (Δ v)) ⟨by rw[List.length_set,List.length_set,hs.1],λj e z=>?_⟩ (by rw[List.length_set]) (λj hj=>?_) h.ok
  ·rw[jC]at z;by_cases q:i=j/\i < τ.length
   ·rw[h_ q]at z;obtain⟨rfl,q⟩:=q;cases z;exact⟨v,by rw[List.getElem?_set_self (by rw[<- hs.1];exact q)],m⟩
   ·rw[f_ q]at z;obtain⟨w,h1,h2⟩:=hs.2 j e z;refine⟨w,?_,h2⟩;by_cases q2:i=j
    ·subst q2;exfalso;have:i < σ.length:=by have:=(x_.mp h1).1;exact this
     exact q ⟨rfl,by rw[hs.1];exact this⟩
    ·rw[Q_ q2];exact h1
  ·have:i≠j:=λz=>hj (by subst z;simp[Lf]);rw[Q_ this]
 |.tp ts,σ,τ,v,d,Kt,Q,hs,m,h,k=>by
  induction d using zD with
  |tup ds=>obtain⟨a,xs,rfl,q,ms⟩:=m.Kc;obtain⟨g,h⟩:=IP.JA h;have g':ds.length=ts.length:=l_ g;exact⟨a,xs,rfl,.inl q,by rw[ms.length,g'],oM ts hs ms h k⟩
  |lst o ds=>obtain⟨a,xs,rfl,q,ms⟩:=m.Kj;obtain⟨g,h⟩:=IP.JA h;have g':ds.length=ts.length:=l_ g;exact⟨a,xs,rfl,.inr q,by rw[ms.length,g'],oM ts hs ms h k⟩
  |_=>exact h.no.elim
theorem oM:∀(ts:List Tg) {σ:St}{τ:Ev}{vs:Ñ}{ds:Ð}{Kt:Ev->Prop}{Q:St->Hp->Prop},QQ K S H σ τ->IM K S H vs ds->IP ex (lG ts ds τ) Kt->
  (∀τ' JD,QQ K S H JD τ'->JD.length=σ.length->(∀j,j∉oH ts->JD[j]? = σ[j]?)->Kt τ'->Q JD H)->RZ K ts vs σ H Q
 |[],σ,τ,vs,ds,Kt,Q,hs,m,h,k=>by
  cases m with
  |nil=>exact⟨rfl,k τ σ hs rfl (λ_ _=>rfl) h.ok⟩
  |cons _ _=>exact h.no.elim
 |t::ts,σ,τ,vs,ds,Kt,Q,hs,m,h,k=>by
  cases m with
  |nil=>exact h.no.elim
  |cons m1 m2=>
   refine⟨_,_,rfl,qv t hs m1 (IP.II h) λτ' JD Qb hn hk h'=>?_⟩;refine oM ts Qb m2 h' λNJ NK QR LF Nn QE=>k NJ NK QR (LF.trans hn) (λj hj=>?_) QE;have Po:j∉Lf t/\j∉oH ts:=by constructor<;>(intro z;apply hj;simp[oH,z])
   rw[Nn j Po.2,hk j Po.1]
end
end
section
variable {K:Frag}{S S':Ç}{H H':Hp}{J:It}{ds:Ð}
def WS.step (hl:∀a (u:LD),S a->Rd H a u.o->S' a/\Rd H' a u.o)(ht:∀a xs,J8 K H a xs->J8 K H' a xs)  (h:WS K S H k a xs):WS K S' H' k a xs:=by
 cases k with
 |l=>exact h.elim (λz=>.inl (hl _ _ z.1 z.2)) λz=>.inr z
 |t=>exact ht _ (.inl _) h
def rA (ds es:Ð):(jZ ds es).length=min ds.length es.length:=by unfold jZ;rw[List.length_zipWith]
theorem LJ.step (hl:∀a (u:LD),S a->Rd H a u.o->S' a/\Rd H' a u.o)(ht:∀a xs,J8 K H a xs->J8 K H' a xs)(h:LJ K S H J ds):LJ K S' H' J ds:=by
 cases h with
 |lst h0 h1 h2=>exact .lst (hl _ _ h0 h1).1 (hl _ _ h0 h1).2 (h2.step hl ht)
 |lstK h1 h2=>exact .lstK h1 (h2.step hl ht)
 |tup h1 h2=>exact .tup (ht _ (.inl _) h1) (h2.step hl ht)
 |NU lo hi=>exact .NU lo hi
 |str x=>exact .str x
 |zip h1 h2 h3 h4=>exact .zip (h1.step hl ht) (h2.step hl ht) (h3.step hl ht) (h4.step hl ht)
def LJ.mono (h:LJ K S H J ds)(hS:∀a,S a->S' a)(e:ik H H'):LJ K S' H' J ds:=h.step (λa xs s r=>⟨hS a s,e.rd r⟩) λa xs s=>e.KW s
def oN (x:Str):(jo x).length=x.cps.size:=by unfold jo;simp
def jU (a b:Int):(iU a b).length=(b - a).toNat:=by unfold iU;simp
theorem LJ.stop (h:LJ K S H J ds)  (hi:ds.length=i):J.stop i H:=by
 cases h with
 |lst h0 h1 h2=>exact⟨_,.inl h1,by rw[h2.length];omega⟩
 |lstK h1 h2=>exact⟨_,h1.sq,by rw[h2.length];omega⟩
 |tup h1 h2=>exact⟨_,h1,by rw[h2.length];omega⟩
 |NU lo Ms=>rw[jU]at hi;exact Nat.le_of_eq hi
 |str x=>rw[oN]at hi;exact Nat.le_of_eq hi
 |zip h1 h2 h3 h4=>exact⟨_,_,h1.sq,h2.sq,by rw[rA]at hi;rw[h3.length,h4.length];omega⟩
theorem LJ.go (h:LJ K S H J ds)  (hi:i < ds.length):J.go i H:=by
 cases h with
 |lst h0 h1 h2=>obtain⟨v,hv,_⟩:=h2.get (i:=i) (d:=ds[i]) (by simp[hi]);exact⟨_,v,.inl h1,hv⟩
 |lstK h1 h2=>obtain⟨v,hv,_⟩:=h2.get (i:=i) (d:=ds[i]) (by simp[hi]);exact⟨_,v,h1.sq,hv⟩
 |tup h1 h2=>obtain⟨v,hv,_⟩:=h2.get (i:=i) (d:=ds[i]) (by simp[hi]);exact⟨_,v,h1,hv⟩
 |NU lo Ms=>rw[jU]at hi;exact hi
 |str x=>rw[oN]at hi;exact hi
 |zip h1 h2 h3 h4=>
  rename_i ds' es'
  rw[rA]at hi;obtain⟨v,hv,_⟩:=h3.get (i:=i) (d:=ds'[i]) (by rw[C_]);obtain⟨u,hu,_⟩:=h4.get (i:=i) (d:=es'[i]) (by rw[C_]);exact⟨_,_,v,u,h1.sq,h2.sq,hv,hu⟩
theorem LJ.Ob (h:LJ K S H J ds)  (y:J.Ob i H x H2)  (hd:ds[i]? = Δ d):ik H H2/\IU K S H2 x d:=by
 have fin:∀ {xs:Ñ},IM K S H xs ds->xs[i]? = Δ x->IU K S H x d:=λm e=>by obtain⟨d',e',m'⟩:=m.Oo e;rw[hd]at e';cases e';exact m'
 cases h with
 |lst h0 h1 h2=>obtain⟨e,y⟩:=y;subst e;exact⟨.refl _,fin h2 (y _ (.inl h1))⟩
 |lstK h1 h2=>obtain⟨e,y⟩:=y;subst e;exact⟨.refl _,fin h2 (y _ h1.sq)⟩
 |tup h1 h2=>obtain⟨e,y⟩:=y;subst e;exact⟨.refl _,fin h2 (y _ h1)⟩
 |zip h1 h2 h3 h4=>obtain⟨T,a,b,e1,hT,e2,hy⟩:=y;subst e1 e2;obtain⟨y1,y2⟩:=hy _ _ h1.sq h2.sq;obtain⟨d1,g1,m1⟩:=h3.Oo y1;obtain⟨d2,g2,m2⟩:=h4.Oo y2;unfold jZ at hd;rw[List.getElem?_zipWith,g1,g2]at hd;cases hd;have e:ik H (upd H T (.tup [a,b])):=.upd hT;exact⟨e,.tup (K0.of il) (.cons (m1.mono (λ_ z=>z) e) (.cons (m2.mono (λ_ z=>z) e) .nil))⟩
 |NU lo Ms=>
  obtain⟨e1,e2⟩:=y;subst e1;refine⟨.refl _,?_⟩;subst e2;unfold iU at hd;rw[D_]at hd;have hi:i < (Ms - lo).toNat:=by
   have:=(Option.map_eq_some_iff.mp hd)
   obtain⟨z,h1,_⟩:=this;have:=(x_.mp h1).1;simpa using this
  rw[List.getElem?_range hi]at hd;cases hd;exact .int _
 |str x=>
  obtain⟨e1,c,h1,e2⟩:=y;subst e1;refine⟨.refl _,?_⟩;subst e2;unfold jo at hd;rw[D_]at hd;have h2:x.cps.toList[i]? = Δ c:=by simpa using h1
  rw[h2]at hd;cases hd;exact .str _
end
def AR {K:Frag}(e:ik H H1)(hs:Slots K S H σ τ is)(h:IP ex (f τ) Kt)(k:∀ds J H2,ik H H2->ik H1 H2->LJ K (nw S H) H2 J ds->Kt ds->R J H2):RI K ex is f σ H1 R:=
 ⟨nw S H,τ,hs.go e,h.mono λx hx J H2 e2 m=>k x J H2 (e.trans e2) e2 (m.mono (oI e) (.refl _)) hx⟩
def ur (I:Inv X pins σ H s)(hq:K2 X.K H a xs)(q:R (U0 X.K a) H):Κ (Μ X.prog X.w) X.A (pyIter (.ref a)) (Rx X pins σ tg R) X.xe s:=by
 obtain⟨its,rv,p,hz⟩:=I.list hq;refine aaq p.isList ?_;refine⟨s.heap.objs.size,[s.heap.objs.size],_,_,H,rfl,I.kept (t':=s.toks) λb o e=>m_ _ e,u9 a _,⟨_,w_ _ rfl,rfl,rfl⟩,λb hb=>?_,q⟩;have e:b=s.heap.objs.size:=by simpa using hb
 subst e;exact I.Ny (q_ _) (I.JO.fresh (q_ _))
def xY (I:Inv X pins σ H s)(hq:K0 X.K H a xs)(q:R (V4 X.K a) H):Κ (Μ X.prog X.w) X.A (pyIter (.ref a)) (Rx X pins σ tg R) X.xe s:=by
 obtain⟨its,rv,p,hz⟩:=I.tuple hq;refine wpAny_pyIter_tuple (show s.heap.IsTuple a its.toArray from p) ?_;refine⟨s.heap.objs.size,[s.heap.objs.size],_,_,H,rfl,I.kept (t':=s.toks) λb o e=>m_ _ e,r6 a _,⟨_,w_ _ rfl,rfl,rfl⟩,λb hb=>?_,q⟩;have e:b=s.heap.objs.size:=by simpa using hb
 subst e;exact I.Ny (q_ _) (I.JO.fresh (q_ _))
def FQ (ha:PE X e (RD X.K ex va fa)):PI X tg e (RI X.K ex va λτ=>II (fa τ) mS):=by
 intro pins s σ H R I h;obtain⟨S,τ,hs,q⟩:=h;refine JP (ha pins s σ H (λv H'=>∃d,ik H H'/\IU X.K (nw S H) H' v d/\_) I (iQ (.refl _) hs (IP.II q) λx v H1 e1 _ m1 q1=>⟨x,e1,m1,q1⟩)) λv s1 JG=>?_;obtain⟨x,H1,I1,r1,d,e1,m1,q1⟩:=JG
 induction d using zD with
 |lst o ds=>
  cases m1 with
  |lst h0 h1 h2=>cases r1;exact ur I1 (.inl h1) (q1.ok _ _ e1 (.lst h0 h1 h2))
  |lstK h1 h2=>cases r1;exact ur I1 h1.sq (q1.ok _ _ e1 (.lstK h1 h2))
 |tup ds=>obtain⟨a,xs,rfl,h1,h2⟩:=m1.Kc;cases r1;exact xY I1 h1 (q1.ok _ _ e1 (.tup h1 h2))
 |str z=>cases m1.Kg;obtain⟨t,rfl⟩:=r1;obtain⟨_,q1⟩:=IP.JA q1;exact Dl I1 (q1.ok _ _ e1 (.str z))
 |_=>exact q1.no.elim
def Dy (g:JR Z CX cl xp X ex G)  (hg:G.gl.contains 15=Θ)(hn:notStar e=Θ)(ha:PE X e (RD X.K ex va fa)) :
  PI X tg (.Call (.Name "range" p) [e] [] pos) (RI X.K ex va λτ=>II (fa τ) λ|.int i=>JA (nu i) (.ok (iU 0 i))|_=>JE):=by
 obtain⟨k1,k2,_,_⟩:=kc g (show i7[15]? = Δ ("range" : Str) from rfl) hg;refine sr (pJ k1 k2 (iB ha i9 (ia hn _ _)) (ia hn _ _)) λσ H Q JG=>?_;obtain⟨S,τ,hs,q⟩:=JG;refine iQ (.refl _) hs (IP.II q) λx v H1 e1 _ m1 q1=>?_
 induction x using zD with
 |int i=>cases m1.JN;obtain⟨gd,q1⟩:=IP.JA q1;have Pp : -(2 ^ 62)<=i/\i < 2 ^ 62:=l_ gd;refine⟨i,rfl,Pp.1,Pp.2,?_⟩;have:=q1.ok _ _ e1 (.NU 0 i);rw[Int.sub_zero]at this;exact this
 |_=>exact q1.no.elim
def FT {K:Frag}{S:Ç}{H:Hp}{a:Ω}{v:V}{d:D}{ds:Ð}(m:IU K S H v d)(h:pD d=.ok ds):∃k a xs,v=.ref a/\WS K S H k a xs/\IM K S H xs ds:=by
 induction d using zD with
 |lst o es=>
  cases h;cases m with
  |lst h0 h1 h2=>exact⟨.l,_,_,rfl,.inl ⟨h0,h1⟩,h2⟩
  |lstK h1 h2=>exact⟨.l,_,_,rfl,.inr h1,h2⟩
 |tup es=>cases h;obtain⟨a,xs,rfl,h1,h2⟩:=m.Kc;exact⟨.t,a,xs,rfl,h1,h2⟩
 |_=>cases h
def FU (g:JR Z CX cl xp X ex G)  (hg:G.gl.contains 17=Θ)(hn:notStar e=Θ)(LF:notStar e'=Θ)(ha:PE X e (RD X.K ex va fa))(hb:PE X e' (RD X.K ex vb fb)) :
  PI X (.Tuple es c tp) (.Call (.Name "zip" p) [e,e'] [] pos) (RI X.K ex (va++vb) λτ=>II (fa τ) λx=>II (fb τ) λy=>oC x y):=by
 obtain⟨k1,k2,_,_⟩:=kc g (show i7[17]? = Δ ("zip" : Str) from rfl) hg;refine sr (C5 k1 k2 (iB ha (iB hb i9 (ia LF _ _)) (ia hn _ _)) (by rw[ia hn,ia LF];rfl) (ia LF _ _)) λσ H Q JG=>?_;obtain⟨S,τ,hs,q⟩:=JG;refine iQ (.refl _) hs.left (IP.II q) λx v H1 e1 _ m1 q1=>?_;refine iQ e1 hs.right (IP.II q1) λy w H2 e2 KR m2 q2=>?_;have q3:=IP.II (show IP ex (II (pD x) λds=>II (pD y) λes=>.ok (jZ ds es)) _ from q2);have m1':=m1.mono (λ_ z=>z) KR;cases hx:pD x with
 |error z=>
  rw[hx]at q3
  induction x using zD<;>first|(cases hx;exact q3.no.elim)|cases hx
 |ok ds=>
  rw[hx]at q3;have q4:=IP.II q3.ok;cases hy:pD y with
  |error z=>
   rw[hy]at q4
   induction y using zD<;>first|(cases hy;exact q4.no.elim)|cases hy
  |ok es'=>rw[hy]at q4;obtain⟨k1,a1,xs,rfl,w1,r1⟩:=FT (a:=0) m1' hx;obtain⟨k2,a2,ys,rfl,w2,r2⟩:=FT (a:=0) m2 hy;exact⟨k1,k2,a1,a2,xs,ys,rfl,w1.sq,w2.sq,q4.ok.ok _ _ e2 (.zip w1 w2 r1 r2)⟩
theorem ku {env:Env}  : ∀(names:List (Str×NameKind)),
  (names.map λ(n,k)=>if(k == Υ&&env.scope.kind == .function&&env.kindOf n == Δ .cell) then(n,NameKind.cell) else(n,k)).lookup x =
   (names.lookup x).map λk=>if(k == Υ&&env.scope.kind == .function&&env.kindOf x == Δ .cell) then NameKind.cell else k
 |[]=>rfl
 | (n,k)::r=>by
  have ih:=ku (env:=env) (x:=x) r;rw[b_];show List.lookup x ((if(k == Υ&&env.scope.kind == .function&&env.kindOf n == Δ .cell)=Θ then(n,NameKind.cell) else(n,k))::_)=_;by_cases hc:(k == Υ&&env.scope.kind == .function&&env.kindOf n == Δ .cell)=Θ
  ·rw[h_ hc,aaF,aaF];cases hx:x == n with
   |true=>have e:x=n:=g_ hx;subst e;show Δ NameKind.cell=Δ (if _ then _ else _);rw[h_ hc]
   |false=>exact ih
  ·rw[f_ hc,aaF,aaF];cases hx:x == n with
   |true=>have e:x=n:=g_ hx;subst e;show Δ k=Δ (if _ then _ else _);rw[f_ hc]
   |false=>exact ih
def sT (h:∀y∈scope.names,y.2=.free->∃c,env.cells.lookup y.1=Δ c) :
  ∃KA,closureFor scope env=pure KA/\(∀x c,KA.lookup x=Δ c->env.cells.lookup x=Δ c)/\∀y∈scope.names,y.2=.free->∃c,KA.lookup y.1=Δ c:=by
 have key:∀(names:List (Str×NameKind)) (acc:List (Str×Ω)),(∀y∈names,y.2=.free->∃c,env.cells.lookup y.1=Δ c)->(∀x c,acc.lookup x=Δ c->env.cells.lookup x=Δ c)->
   ∃KA,(forIn names acc λ(p:Str×NameKind) (r:List (Str×Ω))=>(if(p.2 == Υ)=Θ then do let a <- cellOf env p.1;pure (ForInStep.yield ((p.1,a)::r)) else pure (ForInStep.yield r):Sem (ForInStep (List (Str×Ω)))))=pure KA/\(∀x c,KA.lookup x=Δ c->env.cells.lookup x=Δ c)/\
    (∀y∈names,y.2=.free->∃c,KA.lookup y.1=Δ c)/\∀x c,acc.lookup x=Δ c->∃c',KA.lookup x=Δ c':=by
  intro names
  induction names with
  |nil=>intro acc _ h2;exact⟨acc,rfl,h2,λy hy=>absurd hy (by simp),λx c e=>⟨c,e⟩⟩
  |cons p names ih=>
   intro acc h1 h2;rw[List.forIn_cons];by_cases hp:p.2=.free
   ·obtain⟨c,hc⟩:=h1 p (by simp) hp;have hb:(p.2 == Υ)=Θ:=by rw[hp];rfl
    have Zq:∀x c',((p.1,c)::acc).lookup x=Δ c'->env.cells.lookup x=Δ c':=by
     intro x c' e;rw[aaF]at e;cases hx:x == p.1 with
     |true=>rw[hx]at e;cases e;rw[g_ hx];exact hc
     |false=>rw[hx]at e;exact h2 x c' e
    obtain⟨KA,e1,e2,e3,e4⟩:=ih ((p.1,c)::acc) (λy hy=>h1 y (H_ _ hy)) Zq;refine⟨KA,?_,e2,λy hy hf=>?_,λx c' e=>?_⟩
    ·rw[h_ hb];have:cellOf env p.1=pure c:=by unfold cellOf;rw[hc]
     rw[this];exact e1
    ·rcases k_.mp hy with rfl|hy
     ·exact e4 y.1 c (by rw[aaF];simp)
     ·exact e3 y hy hf
    ·rcases hx:x == p.1 with _|_
     ·exact e4 x c' (by rw[aaF,hx];exact e)
     ·exact e4 x c (by rw[aaF,hx])
   ·have hb:¬(p.2 == Υ)=Θ:=λz=>hp (g_ z);obtain⟨KA,e1,e2,e3,e4⟩:=ih acc (λy hy=>h1 y (H_ _ hy)) h2;refine⟨KA,?_,e2,λy hy hf=>?_,e4⟩
    ·rw[f_ hb];exact e1
    ·rcases k_.mp hy with rfl|hy
     ·exact absurd hf hp
     ·exact e3 y hy hf
 obtain⟨KA,e1,e2,e3,_⟩:=key scope.names [] h (λx c e=>by cases e);refine⟨KA,?_,e2,e3⟩;unfold closureFor;exact congrArg (λ(m:Sem (List (Str×Ω)))=>m >>= λr=>pure r) e1
structure My (Z:Sg)(G:Gm)(scope:Scope)(G':Gm)(fr:Ê):Prop where
 cm:G.cm=Θ
 kind:scope.kind=.function
 tr:G'.tr=Ξ
 df:G'.df=Ξ
 kdl:G'.kd.length=G'.N.length
 Mf:∀y∈scope.names,y.2≠.cell
 loc:∀y∈scope.names,y.2=.local->scope.names.lookup y.1=Δ .local
 fre:∀y∈scope.names,y.2=.free->∃i:Nat,G.N[i]? = Δ y.1/\(G.kd[i]? = Δ .cell∨G.kd[i]? = Δ .free)
 KC:∀(j:Nat) (i:Nat),fr[j]? = Δ i->∃x,G.N[i]? = Δ x/\G'.N[j]? = Δ x/\scope.names.lookup x=Δ .free/\(G.kd[i]? = Δ .cell∨G.kd[i]? = Δ .free)/\G'.kd[j]? = Δ (if(G.kd[i]? == Δ .cell)=Θ then .cell else .free)
 R0:fr.length<=G'.N.length
 Lf:∀(j:Nat) (x:Str),fr.length<=j->G'.N[j]? = Δ x->scope.names.lookup x=Δ .local/\G'.kd[j]? = Δ .local
 MJ:∀x∈G'.N,(x == ("__debug__" : Str))=Ξ/\(x == ("__classdict__" : Str))=Ξ
 JX:G'.N.Nodup
 gl:∀n∈G'.gl,∃x,Z.name n=Δ x/\scope.names.lookup x=Δ .globalImplicit
def ml (h:kr Z G scope G' fr=Θ):My Z G scope G' fr:=by
 unfold kr at h;simp only[d_]at h;obtain⟨⟨⟨⟨⟨⟨⟨⟨⟨⟨⟨⟨⟨h0,h1⟩,RY⟩,h2⟩,h3⟩,h4⟩,h5⟩,h6⟩,h7⟩,h8⟩,h9⟩,OO⟩,P2⟩,Qy⟩:=h;rw[z_]at h4 h5 h6 h7 h9 OO Qy;refine⟨h0,g_ h1,by simpa using RY,by simpa using h2,g_ h3,λy hy=>by simpa using h4 y hy,λy hy e=>?_,λy hy e=>?_,λj i e=>?_,l_ h8,λj x hj e=>?_,λx hx=>by simpa using OO x hx,l_ P2,λn hn=>?_⟩
 ·have:=h5 y hy;rw[e]at this;simpa using this
 ·have:=h6 y hy;rw[e]at this;simp only[bne_self_eq_false,Bool.false_or,List.any_eq_true,d_,J_]at this;obtain⟨i,_,hi,hk⟩:=this;exact⟨i,g_ hi,hk.elim (λz=>.inl (g_ z)) λz=>.inr (g_ z)⟩
 ·have hj:j < fr.length:=(x_.mp e).1;have:=h7 j (aag.mpr hj);simp only[e,Option.bind_some,d_,J_]at this;obtain⟨⟨⟨a1,a2⟩,a3⟩,a4⟩:=this;have Zr:=g_ a1;have Vk:=g_ a2;cases q:G'.N[j]? with
  |none=>rw[q]at Vk;cases Vk
  |some x=>rw[q]at Vk Zr;exact⟨x,Zr.symm,rfl,Vk,a3.elim (λz=>.inl (g_ z)) λz=>.inr (g_ z),g_ a4⟩
 ·have JZ:j < G'.N.length:=(x_.mp e).1;have hm:j∈(List.range G'.N.length).drop fr.length:=by rw[List.mem_drop_iff_getElem];exact⟨j - fr.length,by simp;omega,by simp;omega⟩
  have:=h9 j hm;rw[e]at this;simp only[Option.bind_some,d_]at this;exact⟨g_ this.1,g_ this.2⟩
 ·have:=Qy n hn;cases q:Z.name n with
  |none=>rw[q]at this;cases this
  |some x=>rw[q]at this;exact⟨x,rfl,g_ this⟩
abbrev MK (G:Gm)(fr:Ê):List (Str×Nat):=fr.map λi=>(G.N.getD i "",i)
def FV (s:My Z G scope G' fr):(MK G fr).map (·.1)++G'.N.drop fr.length=G'.N:=by
 have e:(MK G fr).map (·.1)=G'.N.take fr.length:=by
  apply List.ext_getElem?;intro j;unfold MK;rw[K_,D_,List.getElem?_take];cases q:fr[j]? with
  |none=>
   have:¬j < fr.length:=by intro z;rw[C_ z]at q;cases q
   rw[f_ this];rfl
  |some i=>have:j < fr.length:=(x_.mp q).1;rw[h_ this];obtain⟨x,h1,h2,_⟩:=s.KC j i q;rw[h2];show Δ (G.N.getD i "")=Δ x;rw[aaj,h1];rfl
 rw[e,List.take_append_drop]
def kv (g:JR Z CX cl xp X ex G)(ok:X.Ok)  (s:My Z G scope G' fr):∃KA,Lk X scope KA (MK G fr) (G'.N.drop fr.length):=by
 have Nf:∀y∈scope.names,y.2=.free->∃c,X.env.cells.lookup y.1=Δ c:=λy hy hf=>by obtain⟨i,h1,h2⟩:=s.fre y hy hf;have hk:=g.kd i y.1 h1;exact ok.has y.1 (h2.elim (λz=>.inl (hk.trans z)) λz=>.inr (hk.trans z))
 obtain⟨KA,e1,e2,e3⟩:=sT Nf;refine⟨KA,e1,s.kind,s.Mf,s.loc,e2,λx hx=>?_,λp hp=>?_⟩
 ·have hl:=ku (env:=X.env) (x:=x) scope.names;have KS:((scope.names.lookup x).map λk=>if(k == Υ&&X.env.scope.kind == .function&&X.env.kindOf x == Δ .cell)=Θ then NameKind.cell else k)=Δ .cell∨
    ((scope.names.lookup x).map λk=>if(k == Υ&&X.env.scope.kind == .function&&X.env.kindOf x == Δ .cell)=Θ then NameKind.cell else k)=Δ .free:=by
   rcases hx with hx|hx
   ·exact .inl (hl.symm.trans hx)
   ·exact .inr (hl.symm.trans hx)
  cases q:scope.names.lookup x with
  |none=>rw[q]at KS;rcases KS with z|z<;>cases z
  |some k=>
   have hm:(x,k)∈scope.names:=PySem.mem_of_lookup q;have hk:k=.free:=by
    rw[q]at KS;rcases KS with z|z
    ·have z':(if(k == Υ&&X.env.scope.kind == .function&&X.env.kindOf x == Δ .cell)=Θ then NameKind.cell else k)=.cell:=I_ z;split at z'
     ·rename_i hc
      simp only[d_]at hc;exact g_ hc.1.1
     ·exact absurd z' (s.Mf _ hm)
    ·have z':(if(k == Υ&&X.env.scope.kind == .function&&X.env.kindOf x == Δ .cell)=Θ then NameKind.cell else k)=.free:=I_ z;split at z'
     ·cases z'
     ·exact z'
   exact e3 (x,k) hm hk
 ·unfold MK at hp;rw[List.mem_map]at hp;obtain⟨i,hi,rfl⟩:=hp;obtain⟨j,hj⟩:=List.getElem?_of_mem hi;obtain⟨x,h1,h2,h3,h4,h5⟩:=s.KC j i hj;have hn:G.N.getD i "" = x:=by rw[aaj,h1];rfl
  show X.N[i]? = Δ (G.N.getD i "")/\_;rw[hn];have hk:=g.kd i x h1;refine⟨by rw[g.N];exact h1,h4.elim (λz=>.inl (hk.trans z)) λz=>.inr (hk.trans z),?_⟩;have hl:=ku (env:=X.env) (x:=x) scope.names;rw[h3]at hl;have Wx:(relabel scope X.env).names.lookup x=Δ (if(Υ == Υ&&X.env.scope.kind == .function&&X.env.kindOf x == Δ .cell)=Θ then NameKind.cell else Υ):=hl;rw[Wx];split
  ·exact .inl rfl
  ·exact .inr rfl
def i3 {Z:Sg}{CX:Mp}{cl:Ä}{xp:Ö}{X:Cx}{ex:Æ}{G:Gm}(g:JR Z CX cl xp X ex G){scope:Scope}{G':Gm}{fr:Ê}(s:My Z G scope G' fr)(KA:List (Str×Ω))(C:Ω)(s3:Α)(H3:Hp)(fp:Î) :
  JR Z CX cl xp (Ni X scope KA ((MK G fr).map (·.1)++G'.N.drop fr.length) C s3 H3 fp) (λ_=>False) G' where
 N:=FV s
 JX:=s.JX
 calm:=λ_=>g.calm s.cm
 fk:=s.kind
 un:=g.un
 own:=λ_=>PassesOwn.never
 kd:=λj x hx=>by
  show(relabel scope X.env).names.lookup x=_;have hl:=ku (env:=X.env) (x:=x) scope.names;by_cases hj:j < fr.length
  ·obtain⟨y,h1,h2,h3,h4,h5⟩:=s.KC j fr[j] (by simp[hj]);rw[hx]at h2;cases h2;rw[h3]at hl;rw[h5];refine hl.trans ?_;have hk:=g.kd fr[j] x h1;show Δ (if(Υ == Υ&&X.env.scope.kind == .function&&X.env.kindOf x == Δ .cell)=Θ then NameKind.cell else Υ)=_;rw[hk,g.fk];rfl
  ·obtain⟨h1,h2⟩:=s.Lf j x ⋯ hx;rw[h1]at hl;rw[h2];exact hl
 MJ:=λj x hx=>s.MJ x (Y_ hx)
 gl:=λn hn x e=>by obtain⟨y,h1,h2⟩:=s.gl n hn;rw[e]at h1;cases h1;show(relabel scope X.env).names.lookup x=_;have hl:=ku (env:=X.env) (x:=x) scope.names;rw[h2]at hl;exact hl
 Nr:=g.Nr
 df:=λz=>by rw[s.df]at z;cases z
 blt:=g.blt
 cst:=g.cst
 fns:=λf hf _ x hx=>g.fns f hf (.inl s.cm) x hx
 LO:=λf hf _ x hx=>g.LO f hf s.cm x hx
 NH:=g.NH
 MZ:=g.MZ
 NI:=g.NI
 Nt:=g.Nt
 RW:=λ_ pins σ H s c C h' e vs _ z=>z.elim
 tr:=λz=>by rw[s.tr]at z;cases z
 P':=⟨λ_ _ _=>False,λpins σ H s e s' _ h=>(g.NY _ _ _ _ _ h).elim,λc _ z=>z.elim⟩
 MH:=g.MH
 NY:=g.NY
@[reducible]def JW:Æ:=λ_=>False
theorem IP.Lv (h:IP ex (L2.Lv x) k):IP JW x k:=by
 cases x with
 |ok a=>exact h
 |error e=>exact False.elim h
section
variable {K:Frag}{S:Ç}{H:Hp}{σ:St}{τ:Ev}{ex:Æ}{cl:Ä}{G G':Gm}{fr:Ê}
abbrev KY (G':Gm)(fr:Ê)(τ:Ev):Ev:=fr.map (ic τ)++Τ (G'.N.length - fr.length) Φ
def AS (hl:fr.length<=G'.N.length):(KY G' fr τ).length=G'.N.length:=by unfold KY;rw[u_,i_,List.length_replicate];omega
def uu (Tg:È)(σ:St):(stC (MK G fr) Tg σ).length=fr.length+Tg.length:=by unfold stC MK;rw[u_,i_,i_,List.length_replicate]
def xZ (h:ic (KY G' fr τ) j=Δ d):∃i,fr[j]? = Δ i/\ic τ i=Δ d:=by
 unfold ic KY at h;by_cases hj:j < fr.length
 ·rw[aaI (by simpa using hj),D_,C_ hj]at h;exact⟨fr[j],by simp[hj],h⟩
 ·rw[aaH (by simpa using hj),List.getElem?_replicate]at h;split at h<;>cases h
def uv (hl:fr.length<=G'.N.length)(hs:Slots K S H σ τ (fr++vs))(hn:JD.length=G'.N.length)(Km:∀j,j < fr.length->JD[j]? = (stC (MK G fr) (G'.N.drop fr.length) σ)[j]?):QQ K S H JD (KY G' fr τ):=by refine⟨by rw[AS hl,hn],λj d h=>?_⟩;obtain⟨i,hi,hd⟩:=xZ h;have hj:j < fr.length:=(x_.mp hi).1;obtain⟨v,h1,h2⟩:=hs i (p_ _ (Y_ hi)) d hd;refine⟨v,?_,h2⟩;rw[Km j hj];unfold stC MK;rw[aaI (by simpa using hj),D_,D_,hi];show Δ ((σ[i]?).join)=Δ (Δ v);rw[h1];rfl
abbrev iF (cl:Ä)(T:Tg)(I:Í)(E:IR)(τ0:Ev)(x:D):Res (Å):=II (jq T x τ0) λPj=>II (kj cl I Pj) λr=>if r=Θ then II (IV cl E Pj) λd=>.ok (Δ d) else .ok Φ
def kx {vs:Ê}{fs:Ev->Res (Ð)}{T:Tg}{I:Í}{E:IR}{Kt:D->Prop}{Q:VK}(hl:fr.length<=G'.N.length)(ha:∀i∈Lf T,fr.length<=i)(hs:Slots K S H σ τ (fr++vs))
  (q:IP ex (II (fs τ) λits=>JA (ke its.length) (II (Lv (iz (iF cl T I E (KY G' fr τ)) its)) λds=>.ok (.lst Θ ds))) Kt)
  (fin:∀A ys ds H',ik H H'->H A=Φ->H' A=Δ (.lst ys)->IM K (λa=>nw S H a/\a≠A) H' ys ds->Kt (.lst Θ ds)->Q (.ref A) H') :
  tZ (RI K ex vs fs) (stC (MK G fr) (G'.N.drop fr.length)) (gT K T) (RT K JW (ie I) (kj cl I)) (RD K JW (vars E) (IV cl E)) σ H Q:=by
 refine AR (.refl _) hs.right (IP.II q) λits J H1 e1 _ w1 q1 A hA=>?_;obtain⟨gd,q1⟩:=IP.JA q1;have q2:=IP.Lv (IP.II q1);have hsz:=md gd;have TV:H A=Φ:=e1.free hA
 -- SR is read QS apart from Of new list
 have Lb:∀a,nw S H a->H1 a≠Φ->nw S H a/\a≠A:=λa h1 h2=>⟨h1,λz=>h2 (by rw[z];exact hA)⟩
 have w2:LJ K (λa=>nw S H a/\a≠A) H1 J its:=w1.step (λa xs h r=>⟨Lb a h r.some,r⟩) λa xs h=>h;have LZ:Slots K (λa=>nw S H a/\a≠A) H1 σ τ (fr++vs):=λi hi d z=>by obtain⟨v,h1,h2⟩:=(hs.go e1) i hi d z;exact⟨v,h1,h2.step (λa xs h r=>⟨Lb a h r.some,r⟩) λa xs h=>h⟩
 refine⟨λi m JD H'=>m=its.length - i/\i<=its.length/\∃ys acc,H' A=Δ (.lst ys)/\IM K (λa=>nw S H a/\a≠A) H' ys acc/\ys.length<=i/\ik H1 H'/\JD.length=G'.N.length/\
   (∀j,j < fr.length->JD[j]? = (stC (MK G fr) (G'.N.drop fr.length) σ)[j]?)/\IP JW (iz (iF cl T I E (KY G' fr τ)) (its.drop i)) λds=>Kt (.lst Θ (acc++ds)),⟨its.length,by simp,R_ _,[],[],il,.nil,q_ _,.upd hA,?_,λ_ _=>rfl,?_⟩,?_⟩
 ·rw[uu,aan];omega
 ·rw[List.drop_zero];exact q2.mono λds z=>z.ok
 ·rintro i m JD H' ⟨rfl,hi,ys,acc,hy,my,ly,e2,hn,Km,q3⟩;by_cases JZ:i < its.length
  ·refine .inr ⟨(w2.mono (λ_ z=>z) e2).go JZ,λx H2 TX=>?_⟩;obtain⟨eH,mx⟩:=(w2.mono (λ_ z=>z) e2).Ob TX (d:=its[i]) (by simp[JZ]);have hy:=eH _ _ hy;have my:=my.mono (λ_ z=>z) eH;have e2:=e2.trans eH;have hd:its.drop i=its[i]::its.drop (i+1):=List.drop_eq_getElem_cons JZ;rw[hd]at q3;have q4:=IP.II q3;have q5:IP JW (jq T its[i] (KY G' fr τ)) _:=IP.II q4
   have sl:QQ K (λa=>nw S H a/\a≠A) H2 JD (KY G' fr τ):=uv (G:=G) (vs:=vs) (σ:=σ) hl (λi hi d z=>by
    obtain⟨v,h1,h2⟩:=LZ i hi d z
    exact⟨v,h1,h2.mono (λ_ z=>z) e2⟩) hn Km
   refine qv T sl mx q5 λτ' LW Ry LF hk q6=>?_;have Qx:LW.length=G'.N.length:=LF.trans hn;have OA:∀j,j < fr.length->LW[j]? = (stC (MK G fr) (G'.N.drop fr.length) σ)[j]?:=λj hj=>by rw[hk j (λz=>by have:=ha j z;omega)];exact Km j hj
   have QT:∀is,Slots K (λa=>nw S H a/\a≠A) H2 LW τ' is:=λis i _ d z=>Ry.2 i d z;refine kR (.refl _) (QT _) (IP.II q6) λr H4 e4 _ q7=>?_
   induction r using zB with
   |false=>rw[f_ A_]at q7 ⊢;have q8:IP JW (iz (iF cl T I E (KY G' fr τ)) (its.drop (i+1))) λds=>Kt (.lst Θ (acc++ds)):=q7;refine⟨its.length - (i+1),⋯,rfl,JZ,ys,acc,e4 _ _ hy,my.mono (λ_ z=>z) e4,⋯,e2.trans e4,Qx,OA,q8⟩
   |true=>
    rw[h_ rfl]at q7 ⊢;refine iQ e4 (QT _) (IP.II q7) λd v H5 e5 Zs m5 q8=>?_;have q9:IP JW (II (iz (iF cl T I E (KY G' fr τ)) (its.drop (i+1))) λr=>.ok (d::r)) λds=>Kt (.lst Θ (acc++ds)):=q8;have P0:=IP.II q9;have R1:H5 A=Δ (.lst ys):=e5 _ _ hy;refine⟨ys,R1,⋯,its.length - (i+1),⋯,rfl,JZ,ys++[v],acc++[d],il,?_,by rw[u_,V_];omega,?_,Qx,OA,?_⟩
    ·have TY:∀a (xs:LD),(nw S H a/\a≠A)->Rd H5 a xs.o->(nw S H a/\a≠A)/\Rd (upd H5 A (.lst (ys++[v]))) a xs.o:=λa xs h r=>by refine⟨h,?_⟩;unfold Rd;rw[ib h.2];exact r
     have TZ:∀a xs,J8 K H5 a xs->J8 K (upd H5 A (.lst (ys++[v]))) a xs:=λa xs h=>h.upd R1
     have m6:IU K (λa=>nw S H a/\a≠A) H5 v d:=m5.step (λa xs h r=>⟨by
      rcases h with h|h
      ·exact h
      ·have:H a=Φ:=e1.free (e2.free h)
       exact⟨.inr this,λz=>by rw[z,hy]at h;cases h⟩,r⟩) λa xs h=>h
     exact(((my.mono (λ_ z=>z) e5).step TY TZ)).append (.cons (m6.step TY TZ) .nil)
    ·exact λb o hb=>by
      have:b≠A:=by rintro rfl;rw[hA]at hb;cases hb
      rw[ib this];exact e5 _ _ (e2 _ _ hb)
    ·refine P0.mono λds z=>?_;have z':=z.ok;rw[E_];exact z'
  ·have e:i=its.length:=⋯
   subst e;refine .inl ⟨(w2.mono (λ_ z=>z) e2).stop rfl,?_⟩;rw[List.drop_length]at q3;have q4:=q3.ok;rw[P_]at q4;exact fin A ys acc H' (e1.trans e2) TV hy my q4
end
def mr:IV cl (.comp G' fr T s I E)=λτ=>II (kl cl s τ) λits=>JA (ke its.length) (II (Lv (iz (iF cl T I E (KY G' fr τ)) its)) λds=>.ok (.lst Θ ds)):=rfl
def Dz (g:JR Z CX cl xp X ex G)  (hs:My Z G scope G' fr)(hT:jI G' T tg=Θ)(ha:∀i∈Lf T,fr.length<=i)
  (hi:PI X tg iter (RI X.K ex (j9 s) (kl cl s))) (ht:∀X',JR Z CX cl xp X' JW G'->O' X' ifs (RT X'.K JW (ie I) (kj cl I))) (he:∀X',JR Z CX cl xp X' JW G'->PE X' elt (RD X'.K JW (vars E) (IV cl E)))
  (hf:∀x,foldedSetIterable iter X.env x=pure x):PE X (.ListComp elt [⟨tg,iter,ifs,0⟩] scope pos) (RD X.K ex (fr++j9 s) (IV cl (.comp G' fr T s I E))):=by
 intro pins s' σ H Q Iv h;obtain⟨KA,S⟩:=kv g Iv.ok hs;have p:=nJ (pos:=pos) (elt:=elt) (ifs:=ifs) (tg:=tg) (g:=gT X.K T) (tt:=RT X.K JW (ie I) (kj cl I)) (te:=RD X.K JW (vars E) (IV cl E)) (g.calm hs.cm) S hi (λC s H fp=>Oz (i3 g hs KA C s H fp) T tg hT) (λC s H fp=>ht _ (i3 g hs KA C s H fp)) (λC s H fp=>he _ (i3 g hs KA C s H fp)) hf;refine p pins s' σ H Q Iv ?_;obtain⟨S0,τ,OB,q⟩:=h;rw[mr]at q;exact kx hs.R0 ha OB q λA ys ds H' e hA NZ m k=>k _ _ e (.lst (.inr hA) (.inl NZ) (m.mono (λ_ z=>z.1) (.refl _)))
section
variable {Z:Sg}{CX:Mp}{cl:Ä}{xp:Ö}
def vN (h:JK Z G a e=Θ)(env:Env)(x:Ψ):foldedSetIterable e env x=pure x:=by
 induction e using zE<;>first|rfl|(induction a using zI<;>cases h)
def jx (h:kM Z G a e=Θ)(env:Env)(x:Ψ):foldedSetIterable e env x=pure x:=by
 cases a with
 |val a=>exact vN (show JK Z G a e=Θ from h) env x
 |_=>induction e using zE<;>first|rfl|cases h
def both (h:PE X e (RD X.K ex is f))(he:∀whole,isTrue e X.env whole=(do let v <- whole;standAt e.pos;holding [v] (truthy v)):=by intro _;rfl) :
  PE X e (RD X.K ex is f)/\PT X e (RT X.K ex is λτ=>II (f τ) iK):=⟨h,Fw h he⟩
def rB {a b:Expr->Bool}{o:BoolOp}{p:Pos}{es:Â}(h:xS a b o p es=Θ):∃e e' r,es=e::e'::r/\a e=Θ/\b (if r.isEmpty then e' else .BoolOp o (e'::r) p)=Θ:=by
 induction es using zL with
 |nil=>exact ip h
 |cons e r=>
  induction r using zL with
  |nil=>exact ip h
  |cons e' r=>exact⟨e,e',r,rfl,s_.mp h⟩
mutual
theorem snd:∀(a:IR) (X:Cx) (ex:Æ) (G:Gm) (e:Expr),JR Z CX cl xp X ex G->JK Z G a e=Θ->PE X e (RD X.K ex (vars a) (IV cl a))/\PT X e (RT X.K ex (vars a) λτ=>II (IV cl a τ) iK)
 |.c d,X,ex,G,e,g,h=>by obtain⟨k,j,pos,rfl,q1⟩:=sQ h;exact both (s_c q1)
 |.g n d,X,ex,G,e,g,h=>by obtain⟨x,pos,rfl,q1⟩:=iY h;rw[d_]at q1;exact both (s_g g q1.1 q1.2)
 |.v i,X,ex,G,e,g,h=>by obtain⟨x,pos,rfl,q1⟩:=iY h;exact both (s_v g q1)
 |.bin op a b,X,ex,G,e,g,h=>by obtain⟨l,o,r,pos,rfl,q1⟩:=xM h;simp only[d_]at q1;have e1:o=RU op:=g_ q1.1.1;subst e1;exact both (Fx (snd a X ex G l g q1.1.2).1 (snd b X ex G r g q1.2).1)
 |.neg a,X,ex,G,e,g,h=>by obtain⟨o,l,pos,rfl,q1⟩:=xP h;rw[d_]at q1;have e1:o=.USub:=g_ q1.1;subst e1;exact both (Fy (snd a X ex G l g q1.2).1)
 |.cmp op a b,X,ex,G,e,g,h=>by obtain⟨l,os,rs,pos,rfl,q1⟩:=xN h;obtain⟨o,rfl,q2⟩:=iS q1;obtain⟨r,rfl,q3⟩:=iS q2;simp only[d_]at q3;have e1:o=Ml op:=g_ q3.1.1.1;subst e1;exact Fz g (snd a X ex G l g q3.1.1.2).1 (snd b X ex G r g q3.1.2).1 (by simpa using q3.2)
 |.chain op KN a b c,X,ex,G,e,g,h=>by obtain⟨l,os,rs,pos,rfl,q1⟩:=xN h;rw[d_]at q1;have e1:os=[Ml op,Ml KN]:=g_ q1.1;subst e1;obtain⟨m,r,rfl,q2⟩:=lN q1.2;simp only[d_]at q2;exact AQ g (snd a X ex G l g q2.1.1.1).1 (snd b X ex G m g q2.1.1.2).1 (snd c X ex G r g q2.1.2).1 (by simpa using q2.2)
 |.J0 a b,X,ex,G,e,g,h=>by
  obtain⟨o,es,pos,rfl,q1⟩:=xO h;rw[d_]at q1;have e1:o=.And:=g_ q1.1;subst e1;obtain⟨l,l',r,rfl,ha,hb⟩:=rB q1.2;obtain⟨pa,ta⟩:=snd a X ex G l g ha;obtain⟨pb,tb⟩:=snd b X ex G _ g hb
  induction r using zL with
  |nil=>exact⟨BM pa (v8 pb),BN ta (zP tb)⟩
  |cons r' r=>exact⟨BM pa pb,BN ta (xV (e:=l) tb)⟩
 |.Ll a b,X,ex,G,e,g,h=>by
  obtain⟨o,es,pos,rfl,q1⟩:=xO h;rw[d_]at q1;have e1:o=.Or:=g_ q1.1;subst e1;obtain⟨l,l',r,rfl,ha,hb⟩:=rB q1.2;obtain⟨pa,ta⟩:=snd a X ex G l g ha;obtain⟨pb,tb⟩:=snd b X ex G _ g hb
  induction r using zL with
  |nil=>exact⟨FA pa (v8 pb),FD ta (Cw tb)⟩
  |cons r' r=>exact⟨FA pa pb,FD ta (xV (e:=l) tb)⟩
 |.KH a,X,ex,G,e,g,h=>by obtain⟨o,l,pos,rfl,q1⟩:=xP h;rw[d_]at q1;have e1:o=.Not:=g_ q1.1;subst e1;obtain⟨pa,ta⟩:=snd a X ex G l g q1.2;exact FC pa ta
 |.ite t a b,X,ex,G,e,g,h=>by obtain⟨c,x,y,pos,rfl,q1⟩:=xQ h;simp only[d_]at q1;obtain⟨pa,ta⟩:=snd a X ex G x g q1.1.2;obtain⟨pb,tb⟩:=snd b X ex G y g q1.2;exact FE (snd t X ex G c g q1.1.1).2 pa pb ta tb
 |.tup es,X,ex,G,e,g,h=>by obtain⟨l,n,pos,rfl,q1⟩:=qs h;exact both (FF (pG es X ex G l g q1))
 |.lst es,X,ex,G,e,g,h=>by obtain⟨l,pos,rfl,q1⟩:=qt h;exact both (FG (pG es X ex G l g q1))
 |.idx a i,X,ex,G,e,g,h=>by obtain⟨o,s,pos,rfl,q1⟩:=mY h;simp only[d_]at q1;exact both (FH (snd a X ex G o g q1.1.2).1 (snd i X ex G s g q1.2).1 q1.1.1)
 |.sl a lo hi,X,ex,G,e,g,h=>by obtain⟨o,s,pos,rfl,q1⟩:=mY h;obtain⟨l,u,st,p,rfl,q2⟩:=xR q1;simp only[d_]at q2;have e1:st=Φ:=Option.isNone_iff_eq_none.mp q2.1;subst e1;exact both (Ic (snd a X ex G o g q2.2.1.1).1 (AU lo X ex G l g q2.2.1.2) (AU hi X ex G u g q2.2.2))
 |.call f es,X,ex,G,e,g,h=>by obtain⟨x,p,args,pos,rfl,q1⟩:=kh h;simp only[d_]at q1;exact both (s_call g q1.1.1 q1.1.2 q1.2 (pG es X ex G args g q1.2))
 |.bi f es,X,ex,G,e,g,h=>by
  obtain⟨x,p,args,pos,rfl,q1⟩:=kh h;simp only[d_]at q1;have e1:x=kY f:=g_ q1.1.1.1;subst e1
  induction args using zL with
  |nil=>exact ip q1.2
  |cons a args=>exact both (Ie g q1.1.1.2 q1.1.2 (pG es X ex G _ g q1.1.2))
 |.Lx a,X,ex,G,e,g,h=>by have h:TL e (λx y e=>x == "list"&&G.Nq 5&&y == "reversed"&&G.gl.contains 18&&notStar e&&JK Z G a e)=Θ:=h;obtain⟨x,p,y,p',e',pos',pos,rfl,h⟩:=xJ h;have h:(x == "list"&&G.Nq 5&&y == "reversed"&&G.gl.contains 18&&notStar e'&&JK Z G a e')=Θ:=h;simp only[d_]at h;have e1:x = "list":=g_ h.1.1.1.1.1;have e2:y = "reversed":=g_ h.1.1.1.2;subst e1 e2;exact both (Dv g h.1.1.1.1.2 h.1.1.2 h.1.2 (snd a X ex G e' g h.2).1)
 |.Ly a b,X,ex,G,e,g,h=>by have h:WX e (λx y e e'=>x == "list"&&G.Nq 5&&y == "zip"&&G.gl.contains 17&&(notStar e&&notStar e')&&JK Z G a e&&JK Z G b e')=Θ:=h;obtain⟨x,p,y,p',ea,eb,pos',pos,rfl,h'⟩:=Dq h;simp only[d_]at h';obtain⟨⟨⟨⟨⟨⟨hx,h5⟩,hy⟩,h17⟩,hn,LF⟩,ha⟩,hb⟩:=h';have e1:x = "list":=g_ hx;have e2:y = "zip":=g_ hy;subst e1 e2;exact both (Dw g h5 h17 hn LF (snd a X ex G ea g ha).1 (snd b X ex G eb g hb).1)
 |.sset a,X,ex,G,e,g,h=>by have h:TL e (λx y e=>x == "sorted"&&G.gl.contains 4&&y == "set"&&G.gl.contains 12&&(notStar e&&G.cm)&&JK Z G a e)=Θ:=h;obtain⟨x,p,y,p',e',q',q,rfl,h⟩:=xJ h;have h:(x == "sorted"&&G.gl.contains 4&&y == "set"&&G.gl.contains 12&&(notStar e'&&G.cm)&&JK Z G a e')=Θ:=h;simp only[d_]at h;have e1:x = "sorted":=g_ h.1.1.1.1.1;have e2:y = "set":=g_ h.1.1.1.2;subst e1 e2;exact both (Du g h.1.1.1.1.2 h.1.1.2 h.1.2.1 h.1.2.2 (snd a X ex G e' g h.2).1)
 |.P5 x a y,X,ex,G,e,g,h=>by have h:WZ e (λx' e'=>x == x'&&y.isNone&&decide (x.length<=1000)&&JK Z G a e')=Θ:=h;obtain⟨x',e',j,p,q,pos,q1,rfl⟩:=Dt h;simp only[d_]at q1;have e1:=g_ q1.1.1.1;subst e1;rw[Option.isNone_iff_eq_none.mp q1.1.1.2];exact both (FK (l_ q1.1.2) (snd a X ex G e' g q1.2).1)
 |.Mk a ns tb,X,ex,G,e,g,h=>by obtain⟨x,p,args,pos,rfl,q1⟩:=kh h;obtain⟨o,y,rfl,q2⟩:=lN q1;simp only[d_]at q2;have e1:x = "isinstance":=g_ q2.1.1.1.1.1;subst e1;exact both (FJ g q2.1.1.1.1.2 q2.1.1.1.2 q2.1.1.2 q2.1.2 (snd a X ex G o g q2.2).1)
 |.Lu a k,X,ex,G,e,g,h=>by obtain⟨x,p,args,pos,rfl,q1⟩:=kh h;obtain⟨o,y,rfl,q2⟩:=lN q1;obtain⟨y,p',rfl,q3⟩:=iY q2;simp only[d_]at q3;have e1:x = "isinstance":=g_ q3.1.1.1.1.1;have e2:y=mX k:=g_ q3.1.1.1.2;subst e1 e2;exact both (FI g q3.1.1.1.1.2 q3.1.1.2 q3.1.2 (snd a X ex G o g q3.2).1)
 |.OQ m o es,X,ex,G,e,g,h=>by
  obtain⟨f,args,pos,rfl,q1⟩:=j5 h;obtain⟨oe,name,apos,rfl,q2⟩:=xK q1;simp only[d_]at q2;have e1:name=qp m:=g_ q2.1.1.1.1.1.1;subst e1
  induction args using zL with
  |nil=>exact ip q2.2
  |cons a args=>exact both (FN g q2.1.1.1.1.1.2 q2.1.1.1.1.2 (l_ q2.1.1.1.2) q2.1.2 (snd o X ex G oe g q2.1.1.2).1 (pG es X ex G _ g q2.1.2))
 |.comp G' fr tg src ifs elt,X,ex,G,e,g,h=>by
  obtain⟨el,gens,scope,pos,rfl,q1⟩:=sR h;obtain⟨t,it,fs,rfl,q2⟩:=mh q1;simp only[d_]at q2
  exact both (Dz g (ml q2.1.1.1.1.1) q2.1.1.1.1.2 (λi hi=>l_ (z_.mp q2.1.1.1.2 i hi)) (vP src X ex G it t g q2.1.1.2.1 q2.1.1.2.2)
    (λX' g'=>vO ifs X' JW G' fs g' q2.1.2) (λX' g'=>(snd elt X' JW G' el g' q2.2).1) (λx=>jx q2.1.1.2.1 X.env x))
theorem pG:∀(as:Í) (X:Cx) (ex:Æ) (G:Gm) (l:Â),JR Z CX cl xp X ex G->iZ Z G as l=Θ->PA X l (RA X.K ex (ie as) (iG cl as))
 |[],X,ex,G,l,g,h=>by
  induction l using zL with
  |nil=>exact qd i9 λσ H Q ⟨S,τ,hs,q⟩=>q.ok _ _ (.refl _) .nil
  |cons _ _=>exists h
 |a::as,X,ex,G,l,g,h=>by
  induction l using zL with
  |nil=>exists h
  |cons e l=>have h':(notStar e&&JK Z G a e&&iZ Z G as l)=Θ:=h;simp only[d_]at h';refine qd (iB (snd a X ex G e g h'.1.2).1 (pG as X ex G l g h'.2) (ia h'.1.1 _ _)) λσ H Q JG=>?_;obtain⟨S,τ,hs,q⟩:=JG;refine iQ (.refl _) hs.left (IP.II q) λx v H1 e1 _ m1 q1=>?_;refine qu e1 hs.right (IP.II q1) λds vs H2 e2 KR m2 q2=>?_;exact q2.ok _ _ e2 (.cons (m1.later KR) m2)
theorem AU:∀(o:Option IR) (X:Cx) (ex:Æ) (G:Gm) (e:Option Expr),JR Z CX cl xp X ex G->xT Z G o e=Θ->PO X e (RX X.K ex (xh o) (qk cl o))
 |none,X,ex,G,e,g,h=>by
  induction e using zO with
  |none=>intro pins s σ H Q I JG;obtain⟨S,τ,hs,q⟩:=JG;exact z9 pins s σ H Q I (q.ok H (.refl _))
  |some _=>exists h
 |some a,X,ex,G,e,g,h=>by
  induction e using zO with
  |none=>exists h
  |some e=>
   intro pins s σ H Q I JG;obtain⟨S,τ,hs,q⟩:=JG;refine Aa (snd a X ex G e g h).1 pins s σ H Q I ?_;refine iQ (.refl _) hs (IP.II q) λx v H1 e1 _ m1 q1=>?_
   induction x using zD with
   |int i=>cases m1.JN;exact⟨i,rfl,q1.ok _ e1⟩
   |_=>exact q1.no.elim
theorem vO:∀(as:Í) (X:Cx) (ex:Æ) (G:Gm) (l:Â),JR Z CX cl xp X ex G->iZ Z G as l=Θ->O' X l (RT X.K ex (ie as) (kj cl as))
 |[],X,ex,G,l,g,h=>by
  induction l using zL with
  |nil=>intro pins s σ H Q I ⟨S,τ,hs,q⟩;exact Ae pins s σ H Q I (q.ok H (.refl _))
  |cons _ _=>exists h
 |a::as,X,ex,G,l,g,h=>by
  induction l using zL with
  |nil=>exists h
  |cons e l=>
   have h':(notStar e&&JK Z G a e&&iZ Z G as l)=Θ:=h;simp only[d_]at h';intro pins s σ H Q I JG;obtain⟨S,τ,hs,q⟩:=JG;refine wD (snd a X ex G e g h'.1.2).2 (vO as X ex G l g h'.2) pins s σ H Q I ?_;refine kR (.refl _) hs.left (IP.II q) λr H2 e2 _ k=>?_
   induction r using zB with
   |true=>rw[h_ rfl]at k ⊢;exact kR e2 hs.right k λb H3 e3 _ z=>z H3 e3
   |false=>rw[f_ A_]at k ⊢;exact k.ok H2 e2
theorem vP:∀(s:Sr) (X:Cx) (ex:Æ) (G:Gm) (e tg:Expr),JR Z CX cl xp X ex G->kM Z G s e=Θ->pF s tg=Θ->PI X tg e (RI X.K ex (j9 s) (kl cl s))
 |.J3 n,X,ex,G,e,tg,g,h,ht=>by obtain⟨x,p,args,pos,rfl,q1⟩:=kh h;obtain⟨a,rfl,q2⟩:=iS q1;simp only[d_]at q2;have e1:x = "range":=g_ q2.1.1.1;subst e1;exact Dy g q2.1.1.2 q2.1.2 (snd n X ex G a g q2.2).1
 |.val a,X,ex,G,e,tg,g,h,ht=>FQ (snd a X ex G e g h).1
 |.zip a b,X,ex,G,e,tg,g,h,ht=>by
  induction tg using zE with
  |Tuple tes tc tp=>obtain⟨x,p,args,pos,rfl,q1⟩:=kh h;obtain⟨l,r,rfl,q2⟩:=lN q1;simp only[d_]at q2;have e1:x = "zip":=g_ q2.1.1.1.1.1;subst e1;exact FU g q2.1.1.1.1.2 q2.1.1.1.2 q2.1.1.2 (snd a X ex G l g q2.1.2).1 (snd b X ex G r g q2.2).1
  |_=>exact ip ht
end
end
inductive JT (K:Frag)(F:Ç)(H:Hp):St->Ev->Î->Prop where
 | nil:JT K F H [] [] []
 | none {o:Option V}{σ:St}{τ:Ev}{f:Î}:JT K F H σ τ f->JT K F H (o::σ) (.none::τ) f
 | some {v:V}{d:D}{f:Î}{σ:St}{τ:Ev}{g:Î}:JB K F H v d f->JT K F H σ τ g->JT K F H (.some v::σ) (.some d::τ) (f++g)
section
variable {K:Frag}{F F':Ç}{H H':Hp}{σ:St}{τ:Ev}{f:Î}
theorem JT.len:∀ {σ:St}{τ:Ev}{f:Î},JT K F H σ τ f->σ.length=τ.length
 |_,_,_,.nil=>rfl
 |_,_,_,.none h=>by rw[List.length_cons,List.length_cons,JT.len h]
 |_,_,_,.some _ h=>by rw[List.length_cons,List.length_cons,JT.len h]
theorem JT.step (hl:∀a (u:LD),F a->Rd H a u.o->F' a/\Rd H' a u.o)(ht:∀a xs,J8 K H a xs->J8 K H' a xs):∀ {σ:St}{τ:Ev}{f:Î},(∀a∈f,¬F a->H a≠Option.none->¬F' a/\H' a=H a)->JT K F H σ τ f->JT K F' H' σ τ f
 |_,_,_,_,.nil=>.nil
 |_,_,_,k,.none h=>.none (JT.step hl ht k h)
 |_,_,_,k,.some m h=>.some (m.step hl ht λa ha=>k a (p_ _ ha)) (JT.step hl ht (λa ha=>k a (r_ _ ha)) h)
theorem JT.own:∀ {σ:St}{τ:Ev}{f:Î},JT K F H σ τ f->∀a∈f,¬F a/\∃u,H a=.some u
 |_,_,_,.nil=>λ_ h=>absurd h (by simp)
 |_,_,_,.none h=>JT.own h
 |_,_,_,.some m h=>λa ha=>by
  rcases t_.mp ha with ha|ha
  ·exact m.own a ha
  ·exact JT.own h a ha
def jy:ic (o::τ) (i+1)=ic τ i:=by unfold ic;simp
def jK:ic (o::τ) 0=o:=by unfold ic;simp
theorem JT.at:∀ {σ:St}{τ:Ev}{f:Î}{i:Nat}{d:D},JT K F H σ τ f->ic τ i=.some d->∃v fv g,σ[i]? = .some (.some v)/\JB K F H v d fv/\JT K F H σ (τ.set i .none) g/\f.Perm (fv++g)
 |_,_,_,i,d,.nil,h=>by simp[ic]at h
 |_,_,_,0,d,.none _,h=>by rw[jK]at h;cases h
 |_,_,_,0,d,.some m h',h=>by rw[jK]at h;cases h;exact⟨_,_,_,rfl,m,.none h',.refl _⟩
 |_,_,_,i+1,d,.none h',h=>by rw[jy]at h;obtain⟨v,fv,g,h1,h2,h3,h4⟩:=JT.at h' h;exact⟨v,fv,g,by simpa using h1,h2,.none h3,h4⟩
 |_,_,_,i+1,d,.some (f:=f0) m h',h=>by rw[jy]at h;obtain⟨v,fv,g,h1,h2,h3,h4⟩:=JT.at h' h;refine⟨v,fv,f0++g,by simpa using h1,h2,.some m h3,?_⟩;refine(aak f0 h4).trans ?_;rw[<- E_,<- E_];exact List.Perm.append_right g aal
theorem JT.put:∀ {σ:St}{τ:Ev}{f:Î} (i:Nat) {v:V}{d:D}{fv:Î},JT K F H σ τ f->JB K F H v d fv->∃g h,JT K F H (σ.set i (.some v)) (τ.set i (.some d)) g/\(g++h).Perm (fv++f)
 |_,_,_,i,v,d,fv,.nil,m=>⟨[],_,.nil,.refl _⟩
 |_,_,_,0,v,d,fv,.none h,m=>⟨_,[],.some m h,by rw[P_]⟩
 |_,_,_,0,v,d,fv,.some (f:=f0) (g:=g0) m' h,m=>⟨_,f0,.some m h,by rw[E_];exact aak _ aal⟩
 |_,_,_,i+1,v,d,fv,.none h,m=>by obtain⟨g,h',h1,h2⟩:=JT.put i h m;exact⟨g,h',.none h1,h2⟩
 |_,_,_,i+1,v,d,fv,.some (f:=f0) (g:=g0) m' h,m=>by obtain⟨g,h',h1,h2⟩:=JT.put i h m;refine⟨f0++g,h',.some m' h1,?_⟩;rw[E_];refine(aak f0 h2).trans ?_;rw[<- E_,<- E_];exact List.Perm.append_right g0 aal
def JT.slots (h:JT K F H σ τ f)(hF:∀a,F a->S a)(hf:∀a∈f,S a):Slots K S H σ τ is:=λi hi d z=>by obtain⟨v,fv,g,h1,h2,h3,h4⟩:=h.at z;exact⟨v,h1,h2.read hF λa ha=>hf a (h4.mem_iff.mpr (p_ _ ha))⟩
theorem JT.freeze (is:Ê):∀ {σ:St}{τ:Ev}{f:Î} (k:Nat),JT K F H σ τ f->∃fi g,f.Perm (fi++g)/\(∀F':Ç,(∀a,F a->F' a)->(∀a∈fi,F' a)->(∀a∈g,¬F a->¬F' a)->JT K F' H σ (mT is k τ) g)/\
  ∀F':Ç,(∀a,F a->F' a)->(∀a∈fi,F' a)->∀i,is.contains (k+i)=Θ->∀d,ic τ i=.some d->∃v,σ[i]? = .some (.some v)/\IU K F' H v d
 |_,_,_,k,.nil=>⟨[],[],.refl _,λ_ _ _ _=>.nil,λ_ _ _ i _ d z=>by simp[ic]at z⟩
 |_,_,_,k,.none h=>by
  obtain⟨fi,g,h1,h2,h3⟩:=JT.freeze is (k+1) h;refine⟨fi,g,h1,λF' a b c=>?_,λF' a b i hi d z=>?_⟩
  ·unfold mT;have e:(if is.contains k=Θ then Option.map er (Option.none:Å) else Option.none)=Option.none:=by split<;>rfl
   rw[e];exact .none (h2 F' a b c)
  ·cases i with
   |zero=>rw[jK]at z;cases z
   |succ i=>rw[jy]at z;obtain⟨v,q1,q2⟩:=h3 F' a b i (by rw[show k+1+i=k+(i+1) by omega];exact hi) d z;exact⟨v,by simpa using q1,q2⟩
 |_,_,_,k,.some (v:=v) (d:=d0) (f:=f0) (g:=g0) m h=>by
  obtain⟨fi,g,h1,h2,h3⟩:=JT.freeze is (k+1) h;by_cases hc:is.contains k=Θ
  ·refine⟨f0++fi,g,by rw[E_];exact aak _ h1,λF' a b c=>?_,λF' a b i hi d z=>?_⟩
   ·unfold mT;rw[h_ hc];exact .some (f:=[]) ((m.read a λx hx=>b x (p_ _ hx)).frozen) (h2 F' a (λx hx=>b x (r_ _ hx)) c)
   ·cases i with
    |zero=>rw[jK]at z;cases z;exact⟨v,rfl,m.read a λx hx=>b x (p_ _ hx)⟩
    |succ i=>rw[jy]at z;obtain⟨v,q1,q2⟩:=h3 F' a (λx hx=>b x (r_ _ hx)) i (by rw[show k+1+i=k+(i+1) by omega];exact hi) d z;exact⟨v,by simpa using q1,q2⟩
  ·refine⟨fi,f0++g,?_,λF' a b c=>?_,λF' a b i hi d z=>?_⟩
   ·refine(aak f0 h1).trans ?_;rw[<- E_,<- E_];exact List.Perm.append_right g aal
   ·unfold mT;rw[f_ hc];exact .some (m.step (λx xs q r=>⟨a x q,r⟩) (λx xs q=>q) λx hx n _=>⟨c x (p_ _ hx) n,rfl⟩) (h2 F' a b λx hx=>c x (r_ _ hx))
   ·cases i with
    |zero=>exact absurd hi hc
    |succ i=>rw[jy]at z;obtain⟨v,q1,q2⟩:=h3 F' a b i (by rw[show k+1+i=k+(i+1) by omega];exact hi) d z;exact⟨v,by simpa using q1,q2⟩
end
structure M3 (F:Ç)(H:Hp)(f:Î)(F':Ç)(H':Hp):Prop where
 same:ik H H'
 Lh:∀a,F a->F' a
 out:∀a,F' a->F a∨a∈f∨H a=Φ
structure Ow (K:Frag)(F:Ç)(H:Hp)(f:Î)(F':Ç)(H':Hp)(σ:St)(v:V)(d:D)(fv:Î)(τ':Ev)(f':Î):Prop where
 LU:M3 F H f F' H'
 JM:LB F' H'
 rep:JB K F' H' v d fv
 Ko:JT K F' H' σ τ' f'
 JX:(fv++f').Nodup
 mem:∀a∈fv++f',a∈f∨H a=Φ
structure Ows (K:Frag)(F:Ç)(H:Hp)(f:Î)(F':Ç)(H':Hp)(σ:St)(v:Ñ)(d:Ð)(fv:Î)(τ':Ev)(f':Î):Prop where
 LU:M3 F H f F' H'
 JM:LB F' H'
 rep:IT K F' H' v d fv
 Ko:JT K F' H' σ τ' f'
 JX:(fv++f').Nodup
 mem:∀a∈fv++f',a∈f∨H a=Φ
theorem M3.refl:M3 F H f F H:=⟨.refl _,λ_ h=>h,λ_ h=>.inl h⟩
theorem M3.trans (a:M3 F H f F' H')(b:M3 F' H' f' F'' H'')(hf:∀x∈f',x∈f∨H x=Φ):M3 F H f F'' H'':=⟨a.same.trans b.same,λx h=>b.Lh x (a.Lh x h),λx h=>by
 rcases b.out x h with h|h|h
 ·exact a.out x h
 ·rcases hf x h with h|h
  ·exact .inr (.inl h)
  ·exact .inr (.inr h)
 ·exact .inr (.inr (a.same.free h))⟩
def JB.LU {K:Frag}(m:JB K F H v d fv)(s:M3 F H f F' H')(h:∀a∈fv,a∉f):JB K F' H' v d fv:=
 m.step (λa xs q r=>⟨s.Lh a q,s.same.rd r⟩) (λa xs q=>s.same.KW q) λa ha n hn=>by
  obtain⟨_,xs,e⟩:=m.own a ha;refine⟨λz=>?_,(s.same _ _ e).trans e.symm⟩;rcases s.out a z with z|z|z
  ·exact n z
  ·exact h a ha z
  ·exact hn z
def IT.LU {K:Frag}(m:IT K F H v d fv)(s:M3 F H f F' H')(h:∀a∈fv,a∉f):IT K F' H' v d fv:=
 m.step (λa xs q r=>⟨s.Lh a q,s.same.rd r⟩) (λa xs q=>s.same.KW q) λa ha n hn=>by
  obtain⟨_,xs,e⟩:=m.own a ha;refine⟨λz=>?_,(s.same _ _ e).trans e.symm⟩;rcases s.out a z with z|z|z
  ·exact n z
  ·exact h a ha z
  ·exact hn z
def RO (K:Frag)(ex:Æ)(g:Ev->Res (D×Ev)):TE:=λσ H Q=>∃F τ f,LB F H/\JT K F H σ τ f/\f.Nodup/\IP ex (g τ) λp=>∀v H' F' fv f',Ow K F H f F' H' σ v p.1 fv p.2 f'->Q v H'
def R3 (K:Frag)(ex:Æ)(g:Ev->Res (Ð×Ev)):TA:=λσ H Q=>∃F τ f,LB F H/\JT K F H σ τ f/\f.Nodup/\IP ex (g τ) λp=>∀v H' F' fv f',Ows K F H f F' H' σ v p.1 fv p.2 f'->Q v H'
@[reducible]def Kn (K:Frag)(S:Ç)(H:Hp)(Q:VK):Ð->Prop:=λds=>∀p ys H',ik H H'->H p=Φ->H' p=Δ (.lst ys)->IM K (λa=>nw S H a/\a≠p) H' ys ds->Q (.ref p) H'
def RN (K:Frag)(ex:Æ)(is:Ê)(f:Ev->Res (Ð)):TE:=λσ H Q=>∃S τ,Slots K S H σ τ is/\IP ex (f τ) (Kn K S H Q)
def lJ (pd:D->Bool)(K:Frag)(H H':Hp)(p:Ω)(ys:Ñ)(ds:Ð):Prop:=ds.all pd=Θ->∃f,IT K (λ_=>False) H' ys ds f/\f.Nodup/\∀a∈f,H a=Φ/\a≠p
def Xe (K:Frag)(ex:Æ)(is:Ê)(f:Ev->Res (Ð)):TE:=λσ H Q=>∃S τ,Slots K S H σ τ is/\IP ex (f τ) λds=>∀p ys H',ik H H'->H p=Φ->H' p=Δ (.lst ys)->IM K (λa=>nw S H a/\a≠p) H' ys ds->lJ iM K H H' p ys ds->Q (.ref p) H'
abbrev kz:D->Res (Ð)
 |.lst _ ds=>.ok ds
 |_=>JE
def FW {K:Frag}(m:IM K (nw S H) H2 vs ds)(hp:H2 p=Φ):IM K (λa=>nw S H a/\a≠p) (upd H2 p (.lst ws)) vs ds:=
 m.step (λa xs h r=>by
  have LH:a≠p:=λz=>r.some (by rw[z];exact hp);refine⟨⟨h,LH⟩,?_⟩;unfold Rd;rw[ib LH]
  exact r) λa xs h=>(ik.upd hp).KW h
def grow {K:Frag}(P:Ç)(JM:LB F H)(r:JT K F H σ τ f)(e:ik H H') :
  LB (λa=>F a∨(P a/\H a=Φ/\H' a≠Φ)) H'/\JT K (λa=>F a∨(P a/\H a=Φ/\H' a≠Φ)) H' σ τ f/\M3 F H f (λa=>F a∨(P a/\H a=Φ/\H' a≠Φ)) H':=by
 refine⟨λa h=>?_,r.step (λa xs q rd=>⟨.inl q,e.rd rd⟩) (λa xs q=>e.KW q) λa ha n hn=>⟨λz=>?_,?_⟩,⟨e,λa h=>.inl h,λa h=>?_⟩⟩
 ·rcases h with h|h
  ·intro z;exact JM a h (e.free z)
  ·exact h.2.2
 ·rcases z with z|z
  ·exact n z
  ·exact hn z.2.1
 ·obtain⟨_,xs,q⟩:=r.own a ha;exact(e _ _ q).trans q.symm
 ·rcases h with h|h
  ·exact .inl h
  ·exact .inr (.inr h.2.1)
def lK {K:Frag}(JM:LB F H)(r:JT K F H σ τ f)(e:ik H H'):LB F H'/\JT K F H' σ τ f/\M3 F H f F H':=by refine⟨λa h z=>JM a h (e.free z),r.step (λa xs q rd=>⟨q,e.rd rd⟩) (λa xs q=>e.KW q) λa ha n hn=>⟨n,?_⟩,⟨e,λa h=>h,λa h=>.inl h⟩⟩;obtain⟨_,xs,q⟩:=r.own a ha;exact(e _ _ q).trans q.symm
def lj {K:Frag}(is:Ê)(JM:LB F H)(r:JT K F H σ τ f)(nd:f.Nodup):∃F1 g,LB F1 H/\JT K F1 H σ (JQ is τ) g/\g.Nodup/\M3 F H f F1 H/\(∀a∈g,a∈f)/\Slots K F1 H σ τ is:=by
 obtain⟨fi,g,h1,h2,h3⟩:=r.freeze is 0;have M4:(fi++g).Nodup:=h1.nodup_iff.mp nd;have OC:∀a∈g,a∉fi:=λa ha hb=>(n_.mp M4).2.2 a hb a ha rfl;have Zt:∀a∈fi,a∈f:=λa ha=>h1.mem_iff.mpr (p_ _ ha);have inG:∀a∈g,a∈f:=λa ha=>h1.mem_iff.mpr (r_ _ ha);refine⟨λa=>F a∨a∈fi,g,λa h=>?_,h2 _ (λa h=>.inl h) (λa h=>.inr h) (λa ha n z=>?_),(n_.mp M4).2.1,⟨.refl _,λa h=>.inl h,λa h=>?_⟩,inG,λi hi d z=>?_⟩
 ·rcases h with h|h
  ·exact JM a h
  ·obtain⟨_,xs,q⟩:=r.own a (Zt a h);rw[q];simp
 ·rcases z with z|z
  ·exact n z
  ·exact OC a ha z
 ·rcases h with h|h
  ·exact .inl h
  ·exact .inr (.inl (Zt a h))
 ·exact h3 _ (λa h=>.inl h) (λa h=>.inr h) i (by simpa using hi) d z
def iN {K:Frag}(r:JT K F H σ τ f):Slots K (λ_=>True) H σ τ is:=r.slots (λ_ _=>trivial) λ_ _=>trivial
def IU.fix {K:Frag}(m:IU K (L2.nw F H) H' v d):IU K (λa=>F a∨(True/\H a=Φ/\H' a≠Φ)) H' v d:=m.step (λa xs h r=>⟨h.elim (λz=>.inl z) λz=>.inr ⟨trivial,z,r.some⟩,r⟩) λa xs h=>h
def IW (he:PE X e (zN i))(mv:Bool):PE X e (RO X.K ex (Kx cl mv (.v i))):=by
 refine iC he λσ H Q JG=>?_;obtain⟨F,τ,f,JM,r,nd,q⟩:=JG;rw[Fp]at q;cases z:ic τ i with
 |none=>rw[z]at q;exact q.no.elim
 |some d=>
  rw[z]at q;obtain⟨v,fv,g,h1,h2,h3,h4⟩:=r.at z;have M4:(fv++g).Nodup:=h4.nodup_iff.mp nd
  induction mv using zB with
  |true=>have q':=(show IP ex (.ok (d,τ.set i Φ):Res (D×Ev)) _ from q).ok;exact⟨v,h1,q' v H F fv g ⟨.refl,JM,h2,h3,M4,λa ha=>.inl (h4.mem_iff.mpr ha)⟩⟩
  |false=>
   have q':=(show IP ex (.ok (er d,τ.set i (Δ (er d))):Res (D×Ev)) _ from q).ok;have OC:∀a∈g,a∉fv:=λa ha hb=>(n_.mp M4).2.2 a hb a ha rfl;have m1:JB X.K (λa=>F a∨a∈fv) H v (er d) []:=(h2.read (λa h=>.inl h) (λa h=>.inr h)).frozen;have r1:JT X.K (λa=>F a∨a∈fv) H σ (τ.set i Φ) g:=h3.step (λa xs h r=>⟨.inl h,r⟩) (λa xs h=>h) λa ha n _=>⟨λz=>z.elim n (OC a ha),rfl⟩
   obtain⟨g',h',r2,p2⟩:=r1.put i m1;have Km:σ.set i (Δ v)=σ:=by
    apply List.ext_getElem?;intro j;rw[List.getElem?_set];by_cases hj:i=j
    ·subst hj;have JZ:i < σ.length:=(x_.mp h1).1;rw[h_ rfl,h_ JZ,h1]
    ·rw[f_ hj]
   rw[Km,List.set_set]at r2;rw[List.nil_append]at p2;have OD:(g'++h').Nodup:=p2.nodup_iff.mpr (n_.mp M4).2.1;refine⟨v,h1,q' v H _ [] g' ⟨⟨.refl _,λa h=>.inl h,λa h=>?_⟩,λa h=>?_,m1,r2,(n_.mp OD).1,λa ha=>?_⟩⟩
   ·exact h.elim (λz=>.inl z) λz=>.inr (.inl (h4.mem_iff.mpr (p_ _ z)))
   ·rcases h with h|h
    ·exact JM a h
    ·obtain⟨_,xs,e⟩:=h2.own a h;rw[e];simp
   ·have:a∈g:=p2.mem_iff.mp (p_ _ (by simpa using ha));exact .inl (h4.mem_iff.mpr (r_ _ this))
def IJ (h:PA X l (R3 X.K ex g)):PE X (.Tuple l n pos) (RO X.K ex λτ=>II (g τ) λp=>JA (jb p.1.length) (.ok (.tup p.1,p.2))):=by
 refine iC (qa h) λσ H Q ⟨F,τ,f,JM,r,nd,q⟩=>⟨F,τ,f,JM,r,nd,(IP.II q).mono λp hp vs H1 F1 fv f1 o=>?_⟩
 obtain⟨gd,hp⟩:=IP.JA hp;refine⟨by rw[o.rep.length];exact jn gd,λp' Pq=>hp.ok _ _ F1 fv f1 ?_⟩;have e:ik H1 (upd H1 p' (.tup vs)):=.upd Pq;obtain⟨k1,k2,k3⟩:=lK o.JM o.Ko e;refine⟨o.LU.trans k3 (λx hx=>o.mem x (r_ _ hx)),k1,.tup (.inl (.inl il)) (o.rep.LU k3 λa ha hb=>(n_.mp o.JX).2.2 a ha a hb rfl),k2,o.JX,o.mem⟩
def IK (h:PA X l (R3 X.K ex g)):PE X (.List l pos) (RO X.K ex λτ=>II (g τ) λp=>JA (jb p.1.length) (.ok (.lst Θ p.1,p.2))):=by
 refine iC (n8 h) λσ H Q ⟨F,τ,f,JM,r,nd,q⟩=>⟨F,τ,f,JM,r,nd,(IP.II q).mono λp hp vs H1 F1 fv f1 o=>?_⟩
 obtain⟨gd,hp⟩:=IP.JA hp;refine⟨by rw[o.rep.length];exact jn gd,λp' Pq=>hp.ok _ _ F1 (p'::fv) f1 ?_⟩;have e:ik H1 (upd H1 p' (.lst vs)):=.upd Pq;obtain⟨k1,k2,k3⟩:=lK o.JM o.Ko e;refine⟨o.LU.trans k3 (λx hx=>o.mem x (r_ _ hx)),k1,.JU (λz=>o.JM _ z Pq) il (o.rep.LU k3 λa ha hb=>(n_.mp o.JX).2.2 a ha a hb rfl),k2,?_,λa ha=>?_⟩
 ·rw[c_,G_];refine⟨λz=>?_,o.JX⟩;rcases t_.mp z with z|z
  ·obtain⟨_,xs,e⟩:=o.rep.own _ z;rw[Pq]at e;cases e
  ·obtain⟨_,xs,e⟩:=o.Ko.own _ z;rw[Pq]at e;cases e
 ·rw[c_]at ha;rcases k_.mp ha with rfl|ha
  ·exact .inr (o.LU.same.free Pq)
  ·exact o.mem a ha
def FX (hc:PT X c (RT X.K ex vc fc))(ha:PE X a (RO X.K ex fa))(hb:PE X b (RO X.K ex fb)) :
  PE X (.IfExp c a b pos) (RO X.K ex λτ=>II (fc τ) λr=>if r=Θ then fa τ else fb τ):=by
 refine iC (qL hc ha hb) λσ H Q JG=>?_;obtain⟨F,τ,f,JM,r,nd,q⟩:=JG;refine kR (.refl _) (iN r) (IP.II q) λx H2 e2 _ k=>?_;obtain⟨k1,k2,k3⟩:=lK JM r e2;have go:∀ {g:Ev->Res (D×Ev)},IP ex (g τ) (λp=>∀v H' F' fv f',Ow X.K F H f F' H' σ v p.1 fv p.2 f'->Q v H')->RO X.K ex g σ H2 Q:=λhg=>
  ⟨F,τ,f,k1,k2,nd,hg.mono λp hp v H' F' fv f' o=>hp v H' F' fv f' ⟨k3.trans o.LU (λx hx=>.inl hx),o.JM,o.rep,o.Ko,o.JX,λa ha=>(o.mem a ha).elim (λz=>.inl z) λz=>.inr (e2.free z)⟩⟩
 induction x using zB with
 |true=>rw[h_ rfl]at k ⊢;exact go k
 |false=>rw[f_ A_]at k ⊢;exact go k
def DA:PA X [] (R3 X.K ex λτ=>.ok ([],τ)):=qd i9 λσ H Q ⟨F,τ,f,JM,r,nd,q⟩=>q.ok [] H F [] f ⟨.refl,JM,.nil,r,nd,λa ha=>.inl ha⟩
def AV (hn:notStar e=Θ)(ha:PE X e (RO X.K ex ga))(hr:PA X l (R3 X.K ex gs)) :
  PA X (e::l) (R3 X.K ex λτ=>II (ga τ) λp=>II (gs p.2) λq=>.ok (p.1::q.1,q.2)):=by
 refine qd (iB ha hr (ia hn _ _)) λσ H Q ⟨F,τ,f,JM,r,nd,q⟩=>⟨F,τ,f,JM,r,nd,(IP.II q).mono λp hp v H1 F1 fv f1 o=>?_⟩
 refine⟨F1,p.2,f1,o.JM,o.Ko,(n_.mp o.JX).2.1,(IP.II hp).mono λp' Pq vs H2 F2 fvs f2 o2=>?_⟩;have OC:∀a∈fv,a∉f1:=λa h1 h2=>(n_.mp o.JX).2.2 a h1 a h2 rfl;have m2:=o.rep.LU o2.LU OC;refine Pq.ok (v::vs) H2 F2 (fv++fvs) f2 ⟨o.LU.trans o2.LU (λx hx=>o.mem x (r_ _ hx)),o2.JM,.cons m2 o2.rep,o2.Ko,?_,λa ha=>?_⟩
 ·rw[E_];refine n_.mpr ⟨(n_.mp o.JX).1,o2.JX,λa h1 b h2 e=>?_⟩;subst e;rcases o2.mem a h2 with z|z
  ·exact OC a h1 z
  ·obtain⟨_,xs,e⟩:=o.rep.own a h1;rw[z]at e;cases e
 ·rw[E_]at ha;rcases t_.mp ha with ha|ha
  ·exact o.mem a (p_ _ ha)
  ·rcases o2.mem a ha with z|z
   ·exact o.mem a (r_ _ z)
   ·exact .inr (o.LU.same.free z)
def Xf (K:Frag)(ex:Æ)(cl:Ä)(f:Nat)(vs:Ñ)(H:Hp)(Q:VK):Prop:=∃F ds,LB F H/\IM K F H vs ds/\IP ex (cl f (Jz ds)) λd=>∀v H' F' fv,Out K F H F' H' v d fv->Q v H'
def rC (g:JR Z CX cl xp X ex G)  (h1:jl Z G f x=Θ)(h2:Z.Pm G f=Θ)(JY:iZ Z G es args=Θ)(h:PA X args t)
  (h0:args=[]->∀σ H (Q:Ñ->Hp->Prop),t σ H Q->Q [] H):PE X (.Call (.Name x p) args [] pos) (λσ H Q=>t σ H λvs H1=>Xf X.K ex cl f vs H1 Q):=by
 obtain⟨k1,k2,k3,k4⟩:=kN g h1;obtain⟨k,Vj,fd,ps,hm,Oy,hb,F,hr,hlen⟩:=(g.fns f (qr h2).1 (qr h2).2 x k2).ex;obtain⟨E,hP,hE⟩:=g.P';intro pins s σ H Q I q;have fin:∀(us:Ï) (s1:Α) (vs:Ñ) (H1:Hp),Inv X pins σ H1 s1->Vals vs us->Xf X.K ex cl f vs H1 Q->Κ (Μ X.prog X.w) X.A (call (.ref Vj) us) (EP X pins σ Q) X.xe s1:=by
  intro us s1 vs H1 I1 r JG;obtain⟨Fc,ds,JM,m,q1⟩:=JG;have hl:=hlen ex _ _ q1;rw[jh]at hl;refine um F hr hb hP g.MH I1 r (by rw[m.length];exact hl) JM m ?_;cases z:cl f (Jz ds) with
  |error er=>
   rw[z]at q1;cases er with
   |stuck=>exact q1.no.elim
   |exc c=>exact hE c _ q1
  |ok d=>rw[z]at q1;exact q1.ok
 refine aaJ (kC I k1 hm ?_ k4)
 induction args using zL with
 |nil=>
  induction es using zL with
  |cons _ _=>cases JY
  |nil=>exact PySem.W.callWith_K0 I.LV Oy (fin [] s [] H I .nil (h0 rfl σ H _ q))
 |cons e l=>
  induction es using zL with
  |nil=>cases JY
  |cons a es=>have J7:(notStar e&&JK Z G a e&&iZ Z G es l)=Θ:=JY;simp only[d_]at J7;refine PySem.W.callWith_K (h₀:=X.base) I.ok.mod.Qn Oy (JP (h pos pins s σ H _ I q) λus s1 ⟨vs,H1,I1,r,q1⟩=>⟨I1.LV,?_⟩) (ia J7.1.1 l X.env) (jB Z G (es:=es) pos X.env J7.2);exact fin us s1 vs H1 I1 r q1
def IB (g:JR Z CX cl xp X ex G)  (h1:jl Z G f x=Θ)(h2:Z.Pm G f=Θ)(JY:iZ Z G es args=Θ)(mv:Bool) :
  PE X (.Call (.Name x p) args [] pos) (RO X.K ex (Kx cl mv (.call f es))):=by
 have pa:=pG es X ex G args g JY
 have pe:=rC (p:=p) (pos:=pos) g h1 h2 JY pa (λe σ H Q ⟨S,τ,hs,q⟩=>by
  subst e
  induction es using zL with
  |nil=>exact q.ok [] H (.refl _) .nil
  |cons _ _=>cases JY)
 refine iC pe λσ H Q JG=>?_;obtain⟨F,τ,fo,JM,r,nd,q⟩:=JG;have q':IP ex (II (iG cl es τ) λds=>II (cl f (Jz ds)) λd=>if iM d=Θ then .ok (d,τ) else .ok (d,JQ (ie es) τ)) (λp=>∀v H' F' fv f',Ow X.K F H fo F' H' σ v p.1 fv p.2 f'->Q v H'):=q
 -- read without Xg up
 have borrow:(∀ds,iG cl es τ=.ok ds->IP ex (cl f (Jz ds)) λd=>iM d=Θ/\∀v H' F' fv f',Ow X.K F H fo F' H' σ v d fv τ f'->Q v H')->IP ex (iG cl es τ) (λ_=>True)->RA X.K ex (ie es) (iG cl es) σ H (λvs H1=>Xf X.K ex cl f vs H1 Q):=by intro hk JO;refine qu (.refl _) (iN r) JO.eq λds vs H1 e1 _ m1 q1=>?_;refine⟨λa=>H1 a≠Φ,ds,λa h=>h,m1.step (λa xs h rd=>⟨rd.some,rd⟩) λa xs h=>h,(hk ds q1.1).mono λd hd v H' F' fv o=>?_⟩;obtain⟨k1,k2,k3⟩:=lK JM r (e1.trans o.same);have nw:∀a∈fv,H a=Φ:=λa ha=>e1.free (o.new a ha);refine hd.2 v H' F fv fo ⟨k3,k1,o.rep.Lr hd.1 λa ha z=>JM a z (nw a ha),k2,n_.mpr ⟨o.JX,nd,λa h1 b h2 e=>?_⟩,λa ha=>(t_.mp ha).elim (λz=>.inr (nw a z)) .inl⟩;subst e;obtain⟨_,u,hu⟩:=r.own a h2;rw[nw a h1]at hu;cases hu
 cases z:iG cl es τ with
 |error er=>
  rw[z]at q';cases er with
  |stuck=>exact q'.no.elim
  |exc c=>exact borrow (λds h=>by rw[z]at h;cases h) (by rw[z];exact q')
 |ok ds=>
  rw[z]at q';have q1:IP ex (II (cl f (Jz ds)) λd=>if iM d=Θ then .ok (d,τ) else .ok (d,JQ (ie es) τ)) (λp=>∀v H' F' fv f',Ow X.K F H fo F' H' σ v p.1 fv p.2 f'->Q v H'):=q';cases zc:cl f (Jz ds) with
  |error er=>
   rw[zc]at q1;cases er with
   |stuck=>exact q1.no.elim
   |exc c=>exact borrow (λds' h=>by rw[z]at h;cases h;rw[zc];exact q1) (by rw[z];trivial)
  |ok d=>
   rw[zc]at q1;have q2:IP ex (if iM d=Θ then .ok (d,τ) else .ok (d,JQ (ie es) τ)) (λp=>∀v H' F' fv f',Ow X.K F H fo F' H' σ v p.1 fv p.2 f'->Q v H'):=q1;by_cases hl:iM d=Θ
   ·rw[h_ hl]at q2;exact borrow (λds' h=>by rw[z]at h;cases h;rw[zc];exact⟨hl,q2.ok⟩) (by rw[z];trivial)
   ·rw[f_ hl]at q2;obtain⟨F1,gg,b1,b2,b3,b4,b5,b6⟩:=lj (ie es) JM r nd;refine qu (Kt:=λds'=>ds'=ds) (.refl _) b6 (by rw[z];rfl) λds' vs H1 e1 _ m1 e=>?_;subst e;have hm:IM X.K (λa=>F1 a∨(True/\H a=Φ/\H1 a≠Φ)) H1 vs ds':=m1.step (λa xs h r=>⟨h.elim (λz=>.inl z) λz=>.inr ⟨trivial,z,r.some⟩,r⟩) λa xs h=>h;obtain⟨c1,c2,c3⟩:=grow (λ_=>True) b1 b2 e1;refine⟨_,ds',c1,hm,?_⟩;rw[zc];intro v H' F' fv o;have s1:M3 (λa=>F1 a∨(True/\H a=Φ/\H1 a≠Φ)) H1 gg F' H':=⟨o.same,o.Lh,λa h=>(o.out a h).elim (λz=>.inl z) λz=>.inr (.inr z)⟩
    have r2:JT X.K F' H' σ (JQ (ie es) τ) gg:=c2.step (λa xs q rd=>⟨o.Lh a q,o.same.rd rd⟩) (λa xs q=>o.same.KW q) λa ha n hn=>by
     obtain⟨_,xs,e⟩:=c2.own a ha;refine⟨λz=>?_,(o.same _ _ e).trans e.symm⟩;rcases o.out a z with z|z
     ·exact n z
     ·exact hn z
    refine q2.ok v H' F' fv gg ⟨(b4.trans c3 (λx hx=>.inl (b5 x hx))).trans s1 (λx hx=>.inl (b5 x hx)),o.JM,o.rep,r2,?_,λa ha=>?_⟩
    ·refine n_.mpr ⟨o.JX,b3,λa h1 b h2 e=>?_⟩;subst e;obtain⟨_,xs,e⟩:=c2.own a h2;rw[o.new a h1]at e;cases e
    ·rcases t_.mp ha with ha|ha
     ·exact .inr (e1.free (o.new a ha))
     ·exact .inl (b5 a ha)
def iI (he:PE X e (RD X.K ex (vars a) (IV cl a)))(hN:iL a=Θ->PE X e (RN X.K ex (vars a) λτ=>II (IV cl a τ) kz))(hP:∀ds,kW a ds=Θ->PE X e (Xe X.K ex (vars a) λτ=>II (IV cl a τ) kz):=by intro ds h;cases h):PE X e (RO X.K ex λτ=>II (IV cl a τ) λd=>.ok (iJ a d τ)):=by
 intro pins s σ H Q I h;obtain⟨F,τ,fo,JM,r,nd,q⟩:=h
 replace q:IP ex (II (IV cl a τ) λd=>.ok (iJ a d τ)) (λp=>∀v H' F' fv f',Ow X.K F H fo F' H' σ v p.1 fv p.2 f'->Q v H'):=q
 have rd:RD X.K ex (vars a) (IV cl a) σ H Q->Κ (Μ X.prog X.w) X.A (eval e X.env) (EP X pins σ Q) X.xe s:=λh=>he pins s σ H Q I h;cases z:IV cl a τ with
 |error er=>
  rw[z]at q;cases er with
  |stuck=>exact q.no.elim
  |exc c=>exact rd ⟨λ_=>True,τ,iN r,by rw[z];exact q⟩
 |ok d=>
  rw[z]at q;have q1:∀v H' F' fv f',Ow X.K F H fo F' H' σ v (iJ a d τ).1 fv (iJ a d τ).2 f'->Q v H':=q;by_cases hl:iw d=Θ
  ·unfold iJ at q1;rw[h_ hl]at q1;refine rd ⟨λ_=>True,τ,iN r,?_⟩;rw[z];intro v H' e m;obtain⟨k1,k2,k3⟩:=lK JM r e;exact q1 v H' F [] fo ⟨k3,k1,m.free hl,k2,by simpa using nd,λa ha=>.inl (by simpa using ha)⟩
  ·have other:iJ a d τ=(er d,JQ (vars a) τ)->Κ (Μ X.prog X.w) X.A (eval e X.env) (EP X pins σ Q) X.xe s:=λhk=>by rw[hk]at q1;obtain⟨F1,gg,b1,b2,b3,b4,b5,b6⟩:=lj (vars a) JM r nd;refine rd ⟨F1,τ,b6,?_⟩;rw[z];intro v H' e m;obtain⟨c1,c2,c3⟩:=grow (λ_=>True) b1 b2 e;exact q1 v H' _ [] gg ⟨b4.trans c3 (λx hx=>.inl (b5 x hx)),c1,m.fix.frozen,c2,by simpa using b3,λa ha=>.inl (b5 a (by simpa using ha))⟩
   by_cases hn:iL a=Θ
   ·induction d using zD with
    |lst o ds=>
     by_cases hi:ij ds=Θ
     ·have hk:iJ a (.lst o ds) τ=(.lst Θ ds,τ):=by unfold iJ;rw[f_ hl,hn];show(if ij ds=Θ then _ else _)=_;rw[h_ hi]
      rw[hk]at q1;refine hN hn pins s σ H Q I ⟨λ_=>True,τ,iN r,?_⟩;show IP ex (II (IV cl a τ) kz) _;rw[z];intro p ys H' e hp hy m;obtain⟨k1,k2,k3⟩:=lK JM r e;refine q1 (.ref p) H' F [p] fo ⟨k3,k1,.JU (λzz=>JM p zz hp) hy (m.free hi),k2,?_,λa ha=>?_⟩
      ·rw[aaG,G_];refine⟨λzz=>?_,nd⟩;obtain⟨_,xs,e⟩:=r.own p zz;rw[hp]at e;cases e
      ·rw[aaG]at ha;rcases k_.mp ha with rfl|ha
       ·exact .inr hp
       ·exact .inl ha
     ·by_cases hw:kW a ds=Θ
      ·have hk:iJ a (.lst o ds) τ=(.lst Θ ds,τ):=by unfold iJ;rw[f_ hl,hn];show(if ij ds=Θ then _ else if kW a ds=Θ then _ else _)=_;rw[f_ hi,h_ hw]
       rw[hk]at q1;refine hP ds hw pins s σ H Q I ⟨λ_=>True,τ,iN r,?_⟩;show IP ex (II (IV cl a τ) kz) _;rw[z];intro p ys H' e hp hy m np;have LY:ds.all iM=Θ:=by
        cases a with
        |comp _ _ _ _ _ elt=>exact(s_.mp hw).2
        |_=>cases hw
       obtain⟨fi,m1,m2,m3⟩:=np LY;obtain⟨k1,k2,k3⟩:=lK JM r e;have OC:∀b∈p::fi,b∉fo:=λb hb hc=>by
        obtain⟨_,xs,e'⟩:=r.own b hc;rcases k_.mp hb with rfl|hb
        ·rw[hp]at e';cases e'
        ·rw[(m3 b hb).1]at e';cases e'
       refine q1 (.ref p) H' F (p::fi) fo ⟨k3,k1,.JU (λzz=>JM p zz hp) hy (m1.Lr (mQ LY) λb hb zz=>JM b zz (m3 b hb).1),k2,?_,λb hb=>?_⟩
       ·exact n_.mpr ⟨G_.mpr ⟨λzz=>(m3 p zz).2 rfl,m2⟩,nd,λb h1 c h2 e'=>OC b h1 (e' ▸ h2)⟩
       ·rcases t_.mp hb with hb|hb
        ·rcases k_.mp hb with rfl|hb
         ·exact .inr hp
         ·exact .inr (m3 b hb).1
        ·exact .inl hb
      have hk:iJ a (.lst o ds) τ=(.lst Θ (Jz ds),JQ (vars a) τ):=by unfold iJ;rw[f_ hl,hn];show(if ij ds=Θ then _ else if kW a ds=Θ then _ else _)=_;rw[f_ hi,f_ hw]
      rw[hk]at q1;obtain⟨F1,gg,b1,b2,b3,b4,b5,b6⟩:=lj (vars a) JM r nd;refine hN hn pins s σ H Q I ⟨F1,τ,b6,?_⟩;show IP ex (II (IV cl a τ) kz) _;rw[z];intro p ys H' e hp hy m;obtain⟨c1,c2,c3⟩:=grow (λa=>a≠p) b1 b2 e;have m2:IM X.K (λa=>F1 a∨(a≠p/\H a=Φ/\H' a≠Φ)) H' ys ds:=m.step (λa xs h r=>⟨h.1.elim (λz=>.inl z) λz=>.inr ⟨h.2,z,r.some⟩,r⟩) λa xs h=>h;refine q1 (.ref p) H' _ [p] gg ⟨b4.trans c3 (λx hx=>.inl (b5 x hx)),c1,.JU (λzz=>?_) hy m2.frozen,c2,?_,λa ha=>?_⟩
      ·rcases zz with zz|zz
       ·exact b1 p zz hp
       ·exact zz.1 rfl
      ·rw[aaG,G_];refine⟨λzz=>?_,b3⟩;obtain⟨_,xs,e⟩:=b2.own p zz;rw[hp]at e;cases e
      ·rw[aaG]at ha;rcases k_.mp ha with rfl|ha
       ·exact .inr hp
       ·exact .inl (b5 a ha)
    |_=>refine other ?_;unfold iJ;rw[f_ hl,hn]
   ·have LF:iL a=Ξ:=by simpa using hn
    refine other ?_;unfold iJ;rw[f_ hl,LF]
def FY (ha:PE X a (RD X.K ex va fa))(hb:PE X b (RD X.K ex vb fb)) :
  PE X (.BinOp a .Add b pos) (RN X.K ex (va++vb) λτ=>II (II (fa τ) λx=>II (fb τ) λy=>Lm .add x y) kz):=by
 refine iC (wo qm ha hb) λσ H Q JG=>?_;obtain⟨S,τ,hs,q⟩:=JG;refine iQ (.refl _) hs.left (IP.II (IP.II q)) λx v H1 e1 _ m1 q1=>?_;refine iQ e1 hs.right (IP.II q1) λy w H2 e2 KR m2 q2=>?_;have stuck:∀ {P:Prop},Lm .add x y=JE->P:=λz=>by rw[z]at q2;exact q2.no.elim
 induction x using zD with
 |int a=>induction y using zD with
  |int b=>exact q2.ok.no.elim
  |_=>exact stuck rfl
 |str a=>induction y using zD with
  |str b=>exact(IP.JA q2).2.ok.no.elim
  |_=>exact stuck rfl
 |lst o a=>induction y using zD with
  |lst o' b=>obtain⟨p,xs,rfl,h1,n1⟩:=m1.Oq;obtain⟨p',ys,rfl,h2,n2⟩:=m2.Oq;obtain⟨gd,q3⟩:=IP.JA q2;have g':=jn gd;have l1:=n1.length;have l2:=n2.length;have RY:Ls X.K H2 p xs:=h1.elim (λz=>.inl (KR.rd z)) .inr;exact⟨p,p',xs,ys,rfl,rfl,RY,h2,⋯,λz hz=>q3.ok.ok z _ _ (e2.trans (.upd hz)) (e2.free hz) il (FW ((n1.later KR).append n2) hz)⟩
  |_=>exact stuck rfl
 |tup a=>induction y using zD with
  |tup b=>exact(IP.JA q2).2.ok.no.elim
  |_=>exact stuck rfl
 |_=>exact stuck rfl
def Ig {lo:Option Expr}(ha:PE X a (RD X.K ex va fa))(hl:PO X lo (RX X.K ex vl fl))(hh:PO X hi (RX X.K ex vh fh)) :
  PE X (.Subscript a (.Slice lo hi Φ p2) pos) (RN X.K ex (va++vl++vh) λτ=>II (II (fa τ) λx=>II (fl τ) λl=>II (fh τ) λh=>mR x l h) kz):=by
 refine iC (qN tY ha hl hh) λσ H Q JG=>?_;obtain⟨S,τ,hs,q⟩:=JG;refine iQ (.refl _) hs.left.left (IP.II (IP.II q)) λx v H1 e1 _ m1 q1=>?_;refine AN e1 hs.left.right (IP.II q1) λl H2 e2 KR q2=>?_;refine AN e2 hs.right (IP.II q2) λh H3 e3 Ox q3=>?_
 induction x using zD with
 |lst o ds=>obtain⟨p,xs,rfl,h1,n1⟩:=m1.Kj;exact⟨p,xs,rfl,(KR.trans Ox).seq h1,λz hz=>q3.ok.ok z _ _ (e3.trans (.upd hz)) (e3.free hz) il (FW (qo l h (n1.later (KR.trans Ox))) hz)⟩
 |str _=>exact(IP.JA q3).2.ok.no.elim
 |tup _=>exact(IP.JA q3).2.ok.no.elim
 |_=>exact q3.no.elim
def Vl (pd:D->Bool)(K:Frag)(H H':Hp)(v:V)(d:D):Prop:=pd d=Θ->∃fl,fl.Nodup/\(∀a∈fl,H a=Φ)/\JB K (λ_=>False) H' v d fl
def T1 (pd:D->Bool)(K:Frag)(ex:Æ)(is:Ê)(f:Ev->Res D):TE:=λσ H Q=>∃S τ,Slots K S H σ τ is/\IP ex (f τ) λd=>∀v H',ik H H'->IU K (nw S H) H' v d->Vl pd K H H' v d->Q v H'
section
variable {pd:D->Bool}{K:Frag}{S:Ç}{H H1 H':Hp}{σ:St}{τ:Ev}{ex:Æ}
def FZ (e:ik H H1)(hs:Slots K S H σ τ is)(h:IP ex (f τ) Kt)(k:∀x v H2,ik H H2->ik H1 H2->IU K (nw S H) H2 v x->Vl pd K H1 H2 v x->Kt x->Q v H2):T1 pd K ex is f σ H1 Q:=
 ⟨nw S H,τ,hs.go e,h.mono λx hx v H2 e2 m p=>k x v H2 (e.trans e2) e2 (m.mono (oI e) (.refl _)) p hx⟩
def lJ.mono (h:lJ pd K H H1 p ys ds)(e:ik H1 H'):lJ pd K H H' p ys ds:=λz=>by obtain⟨f,h1,h2,h3⟩:=h z;refine⟨f,h1.step (λ_ _ z=>z.elim) (λa xs r=>e.KW r) λa ha _ _=>⟨λz=>z,?_⟩,h2,h3⟩;obtain⟨_,u,hu⟩:=h1.own a ha;exact(e _ _ hu).trans hu.symm
def lJ.snoc (h:lJ pd K H H4 A ys ds)(f0:∀a,H4 a=Φ->H a=Φ)(e:ik H4 H5)(p:Vl pd K H4 H5 v d)(hA:H4 A=Δ (.lst ys))(hy:H5 A=Δ (.lst ys)) :
  lJ pd K H (upd H5 A (.lst (ys++[v]))) A (ys++[v]) (ds++[d]):=λz=>by
 rw[List.all_append,d_]at z;obtain⟨f,h1,h2,h3⟩:=h z.1;obtain⟨fl,Xh,hl,hm⟩:=p (by have:=z.2;rw[List.all_cons,List.all_nil,Bool.and_true]at this;exact this);have Zu:∀l∈fl,l≠A:=λl hm q=>by have:=hl l hm;rw[q,hA]at this;cases this
 have own:∀a∈f,∃u,H4 a=Δ u:=λa ha=>(h1.own a ha).2;have st:∀a xs,J8 K H5 a xs->J8 K (upd H5 A (.lst (ys++[v]))) a xs:=λa xs r=>r.upd hy
 have m1:IT K (λ_=>False) (upd H5 A (.lst (ys++[v]))) ys ds f:=h1.step (λ_ _ z=>z.elim) (λa xs r=>st a xs (e.KW r)) λa ha _ _=>⟨λz=>z,by
  rw[ib (h3 a ha).2];obtain⟨u,hu⟩:=own a ha
  exact(e _ _ hu).trans hu.symm⟩
 have m2:JB K (λ_=>False) (upd H5 A (.lst (ys++[v]))) v d fl:=hm.step (λ_ _ z=>z.elim) st λa ha _ _=>⟨λz=>z,ib (Zu a ha)⟩
 refine⟨f++(fl++[]),m1.append (.cons m2 .nil),n_.mpr ⟨h2,by rw[P_];exact Xh,λa h4 b h5 q=>?_⟩,λa ha=>?_⟩
 ·rw[P_]at h5;subst q;obtain⟨u,hu⟩:=own a h4;rw[hl a h5]at hu;cases hu
 ·rcases t_.mp ha with ha|ha
  ·exact h3 a ha
  ·rw[P_]at ha;exact⟨f0 a (hl a ha),Zu a ha⟩
def sU {pd:D->Bool}{vs:Ê}{fs:Ev->Res (Ð)}{T:Tg}{I:Í}{E:IR}{Kt:D->Prop}{Q:VK}(hl:fr.length<=G'.N.length)(ha:∀i∈Lf T,fr.length<=i)(hs:Slots K S H σ τ (fr++vs))
  (q:IP ex (II (fs τ) λits=>JA (ke its.length) (II (Lv (iz (iF cl T I E (KY G' fr τ)) its)) λds=>.ok (.lst Θ ds))) Kt)
  (fin:∀A ys ds H',ik H H'->H A=Φ->H' A=Δ (.lst ys)->IM K (λa=>nw S H a/\a≠A) H' ys ds->lJ pd K H H' A ys ds->Kt (.lst Θ ds)->Q (.ref A) H') :
  tZ (RI K ex vs fs) (stC (MK G fr) (G'.N.drop fr.length)) (gT K T) (RT K JW (ie I) (kj cl I)) (T1 pd K JW (vars E) (IV cl E)) σ H Q:=by
 refine AR (.refl _) hs.right (IP.II q) λits J H1 e1 _ w1 q1 A hA=>?_;obtain⟨gd,q1⟩:=IP.JA q1;have q2:=IP.Lv (IP.II q1);have hsz:=md gd;have TV:H A=Φ:=e1.free hA
 -- SR is read QS apart from Of new list
 have Lb:∀a,nw S H a->H1 a≠Φ->nw S H a/\a≠A:=λa h1 h2=>⟨h1,λz=>h2 (by rw[z];exact hA)⟩
 have w2:LJ K (λa=>nw S H a/\a≠A) H1 J its:=w1.step (λa xs h r=>⟨Lb a h r.some,r⟩) λa xs h=>h;have LZ:Slots K (λa=>nw S H a/\a≠A) H1 σ τ (fr++vs):=λi hi d z=>by obtain⟨v,h1,h2⟩:=(hs.go e1) i hi d z;exact⟨v,h1,h2.step (λa xs h r=>⟨Lb a h r.some,r⟩) λa xs h=>h⟩
 refine⟨λi m JD H'=>m=its.length - i/\i<=its.length/\∃ys acc,H' A=Δ (.lst ys)/\IM K (λa=>nw S H a/\a≠A) H' ys acc/\lJ pd K H H' A ys acc/\ys.length<=i/\ik H1 H'/\JD.length=G'.N.length/\
   (∀j,j < fr.length->JD[j]? = (stC (MK G fr) (G'.N.drop fr.length) σ)[j]?)/\IP JW (iz (iF cl T I E (KY G' fr τ)) (its.drop i)) λds=>Kt (.lst Θ (acc++ds)),⟨its.length,by simp,R_ _,[],[],il,.nil,λ_=>⟨[],.nil,List.nodup_nil,λ_ z=>nomatch z⟩,q_ _,.upd hA,?_,λ_ _=>rfl,?_⟩,?_⟩
 ·rw[uu,aan];omega
 ·rw[List.drop_zero];exact q2.mono λds z=>z.ok
 ·rintro i m JD H' ⟨rfl,hi,ys,acc,hy,my,np,ly,e2,hn,Km,q3⟩;by_cases JZ:i < its.length
  ·refine .inr ⟨(w2.mono (λ_ z=>z) e2).go JZ,λx H2 TX=>?_⟩;obtain⟨eH,mx⟩:=(w2.mono (λ_ z=>z) e2).Ob TX (d:=its[i]) (by simp[JZ]);have hy:=eH _ _ hy;have my:=my.mono (λ_ z=>z) eH;have np:=np.mono eH;have e2:=e2.trans eH;have hd:its.drop i=its[i]::its.drop (i+1):=List.drop_eq_getElem_cons JZ;rw[hd]at q3;have q4:=IP.II q3;have q5:IP JW (jq T its[i] (KY G' fr τ)) _:=IP.II q4
   have sl:QQ K (λa=>nw S H a/\a≠A) H2 JD (KY G' fr τ):=uv (G:=G) (vs:=vs) (σ:=σ) hl (λi hi d z=>by
    obtain⟨v,h1,h2⟩:=LZ i hi d z
    exact⟨v,h1,h2.mono (λ_ z=>z) e2⟩) hn Km
   refine qv T sl mx q5 λτ' LW Ry LF hk q6=>?_;have Qx:LW.length=G'.N.length:=LF.trans hn;have OA:∀j,j < fr.length->LW[j]? = (stC (MK G fr) (G'.N.drop fr.length) σ)[j]?:=λj hj=>by rw[hk j (λz=>by have:=ha j z;omega)];exact Km j hj
   have QT:∀is,Slots K (λa=>nw S H a/\a≠A) H2 LW τ' is:=λis i _ d z=>Ry.2 i d z;refine kR (.refl _) (QT _) (IP.II q6) λr H4 e4 _ q7=>?_
   induction r using zB with
   |false=>rw[f_ A_]at q7 ⊢;have q8:IP JW (iz (iF cl T I E (KY G' fr τ)) (its.drop (i+1))) λds=>Kt (.lst Θ (acc++ds)):=q7;refine⟨its.length - (i+1),⋯,rfl,JZ,ys,acc,e4 _ _ hy,my.mono (λ_ z=>z) e4,np.mono e4,⋯,e2.trans e4,Qx,OA,q8⟩
   |true=>
    rw[h_ rfl]at q7 ⊢;refine FZ e4 (QT _) (IP.II q7) λd v H5 e5 Zs m5 p5 q8=>?_;have q9:IP JW (II (iz (iF cl T I E (KY G' fr τ)) (its.drop (i+1))) λr=>.ok (d::r)) λds=>Kt (.lst Θ (acc++ds)):=q8;have P0:=IP.II q9;have R1:H5 A=Δ (.lst ys):=e5 _ _ hy;refine⟨ys,R1,⋯,its.length - (i+1),⋯,rfl,JZ,ys++[v],acc++[d],il,?_,?_,by rw[u_,V_];omega,?_,Qx,OA,?_⟩
    ·have TY:∀a (xs:LD),(nw S H a/\a≠A)->Rd H5 a xs.o->(nw S H a/\a≠A)/\Rd (upd H5 A (.lst (ys++[v]))) a xs.o:=λa xs h r=>by refine⟨h,?_⟩;unfold Rd;rw[ib h.2];exact r
     have TZ:∀a xs,J8 K H5 a xs->J8 K (upd H5 A (.lst (ys++[v]))) a xs:=λa xs h=>h.upd R1
     have m6:IU K (λa=>nw S H a/\a≠A) H5 v d:=m5.step (λa xs h r=>⟨by
      rcases h with h|h
      ·exact h
      ·have:H a=Φ:=e1.free (e2.free h)
       exact⟨.inr this,λz=>by rw[z,hy]at h;cases h⟩,r⟩) λa xs h=>h
     exact(((my.mono (λ_ z=>z) e5).step TY TZ)).append (.cons (m6.step TY TZ) .nil)
    ·exact lJ.snoc (np.mono e4) (λa ha=>e1.free (e2.free (e4.free ha))) Zs p5 (e4 _ _ hy) R1
    ·exact λb o hb=>by
      have:b≠A:=by rintro rfl;rw[hA]at hb;cases hb
      rw[ib this];exact e5 _ _ (e2 _ _ hb)
    ·refine P0.mono λds z=>?_;have z':=z.ok;rw[E_];exact z'
  ·have e:i=its.length:=⋯
   subst e;refine .inl ⟨(w2.mono (λ_ z=>z) e2).stop rfl,?_⟩;rw[List.drop_length]at q3;have q4:=q3.ok;rw[P_]at q4;exact fin A ys acc H' (e1.trans e2) TV hy my np q4
end
def AW (g:JR Z CX cl xp X ex G)  (h1:jl Z G f x=Θ)(h2:Z.Pm G f=Θ)(JY:iZ Z G es args=Θ) :
  PE X (.Call (.Name x p) args [] pos) (T1 iM X.K ex (vars (.call f es)) (IV cl (.call f es))):=by
 have pa:=pG es X ex G args g JY
 have pe:=rC (p:=p) (pos:=pos) g h1 h2 JY pa (λe σ H Q ⟨S,τ,hs,q⟩=>by
  subst e
  induction es using zL with
  |nil=>exact q.ok [] H (.refl _) .nil
  |cons _ _=>cases JY)
 refine iC pe λσ H Q JG=>?_;obtain⟨S,τ,hs,q⟩:=JG;have q0:IP ex (II (iG cl es τ) λds=>cl f (Jz ds)) (λd=>∀v H',ik H H'->IU X.K (nw S H) H' v d->Vl iM X.K H H' v d->Q v H'):=q;refine qu (.refl _) hs (IP.II q0) λds vs H1 e1 _ m1 q1=>?_;refine⟨λa=>nw S H a/\H1 a≠Φ,ds,λa h=>h.2,m1.Lb,q1.mono λd hd v H' F' fv o=>?_⟩;refine hd v H' (e1.trans o.same) (o.rep.read (λa ha=>?_) λa ha=>.inr (e1.free (o.new a ha))) λao=>⟨fv,o.JX,λa ha=>e1.free (o.new a ha),o.rep.Lr ao λ_ _ z=>z⟩
 rcases o.out a ha with z|z
 ·exact z.1
 ·exact .inr (e1.free z)
def AX (g:JR Z CX cl xp X ex G)  (hg:G.gl.contains (rl .tuple)=Θ)(hn:notStar a=Θ)(ha:PE X a (RO X.K ex ga)) :
  PE X (.Call (.Name (kY .tuple) p) [a] [] pos) (RO X.K ex λτ=>II (ga τ) Kc):=by
 obtain⟨k1,k2,k3,k4⟩:=kc g (xG .tuple) hg;refine iC (mJ pk k1 k2 (uh .tuple) (iB ha i9 (ia hn _ _)) k3 k4 (ia hn [] X.env) rfl) λσ H Q JG=>?_;obtain⟨F,τ,f,JM,r,nd,q⟩:=JG;refine⟨F,τ,f,JM,r,nd,(IP.II q).mono λpp hp v H1 F1 fv f1 o=>?_⟩;obtain⟨d,Pj⟩:=pp;have T2:=o.rep;unfold Kc at hp;dsimp only at hp T2;split at hp
 ·rename_i ow ds
  have fin:∀(pa:Ω) (ys:Ñ) (gi:Î),K2 X.K H1 pa ys->IT X.K F1 H1 ys ds gi->(∀b∈gi,b∈fv)->gi.Nodup->∃p' Th,[V.ref pa]=[.ref p']/\((K2 X.K H1 p' Th/\∀l,H1 l=Φ->Q (.ref l) (upd H1 l (.tup Th)))∨(K0 X.K H1 p' Th/\Q (.ref p') H1)):=λpa ys gi hq hm T3 Xh=>by refine⟨pa,ys,rfl,.inl ⟨hq,λl hl=>?_⟩⟩;have e:ik H1 (upd H1 l (.tup ys)):=.upd hl;obtain⟨k1,k2,k3⟩:=lK o.JM o.Ko e;have OC:∀b∈gi,b∉f1:=λb hb hc=>(n_.mp o.JX).2.2 b (T3 b hb) b hc rfl;refine hp.ok _ _ F1 gi f1 ⟨o.LU.trans k3 (λx hx=>o.mem x (r_ _ hx)),k1,.tup (.inl (.inl il)) (hm.LU k3 OC),k2,n_.mpr ⟨Xh,(n_.mp o.JX).2.1,λb h1 c h2 e=>OC b h1 (e ▸ h2)⟩,λb hb=>(t_.mp hb).elim (λz=>o.mem b (p_ _ (T3 b z))) λz=>o.mem b (r_ _ z)⟩
  have ndv:=(n_.mp o.JX).1;cases T2 with
  |Mg h0 h1 h2=>exact fin _ _ [] (.inl h1) h2 (λb hb=>nomatch hb) List.nodup_nil
  |lstK h1 h2=>exact fin _ _ [] h1.sq h2 (λb hb=>nomatch hb) List.nodup_nil
  |JU h0 h1 h2=>exact fin _ _ _ (.inl (.inl h1)) h2 (λb hb=>.tail _ hb) (G_.mp ndv).2
 ·exact hp.no.elim
section
variable {Z:Sg}{CX:Mp}{cl:Ä}{xp:Ö}
def kZ (g:JR Z CX cl xp X ex G)  (h:lD G i x=Θ):PE X (.Name x pos) (zN i):=by
 unfold lD at h;rw[d_]at h;have hx:G.N[i]? = Δ x:=g_ h.1;have hk:=g.kd i x hx;have hv:SJ X.env.scope x:=by
  have h2:=h.2;rw[J_,J_]at h2;rcases h2 with(h2|h2)|h2
  ·exact .inl (hk.trans (g_ h2))
  ·exact .inr (.inl (hk.trans (g_ h2)))
  ·exact .inr (.inr (hk.trans (g_ h2)))
 exact v7 (i:=i) (by rw[g.N];exact hx) hv (g.MJ i x hx).1 (g.MJ i x hx).2
def DB (g:JR Z CX cl xp X ex G)  (hs:My Z G scope G' fr)(hT:jI G' T tg=Θ)(ha:∀i∈Lf T,fr.length<=i)
  (hi:kM Z G s iter=Θ/\pF s tg=Θ) (ht:iZ Z G' I ifs=Θ) (he:JK Z G' E elt=Θ) :
  PE X (.ListComp elt [⟨tg,iter,ifs,0⟩] scope pos) (RN X.K ex (vars (.comp G' fr T s I E)) λτ=>II (IV cl (.comp G' fr T s I E) τ) kz):=by
 intro pins s' σ H Q Iv h;obtain⟨KA,S⟩:=kv g Iv.ok hs;have p:=nJ (pos:=pos) (elt:=elt) (ifs:=ifs) (tg:=tg) (g:=gT X.K T) (tt:=RT X.K JW (ie I) (kj cl I)) (te:=RD X.K JW (vars E) (IV cl E)) (g.calm hs.cm) S (vP s X ex G iter tg g hi.1 hi.2) (λC s H fp=>Oz (i3 g hs KA C s H fp) T tg hT)
  (λC s H fp=>vO I _ JW G' ifs (i3 g hs KA C s H fp) ht) (λC s H fp=>(snd E _ JW G' elt (i3 g hs KA C s H fp) he).1) (λx=>jx hi.1 X.env x)
 refine p pins s' σ H Q Iv ?_;obtain⟨S0,τ,OB,q⟩:=h;have q':=IP.II (show IP ex (II (IV cl (.comp G' fr T s I E) τ) kz) _ from q);rw[mr]at q';exact kx hs.R0 ha OB q' λA ys ds H' e hA NZ m k=>k.ok A ys H' e hA NZ m
def Lo:∀(a:IR) (X:Cx) (ex:Æ) (G:Gm) (e:Expr),JR Z CX cl xp X ex G->JK Z G a e=Θ->iL a=Θ->PE X e (RN X.K ex (vars a) λτ=>II (IV cl a τ) kz):=by
 intro a X ex G e g h n;cases a with
 |bin op a b=>
  cases op with
  |add=>obtain⟨l,o,r,pos,rfl,q⟩:=xM h;have h':(o == RU .add&&JK Z G a l&&JK Z G b r)=Θ:=q;simp only[d_]at h';have e1:o=RU .add:=g_ h'.1.1;subst e1;exact FY (snd a X ex G l g h'.1.2).1 (snd b X ex G r g h'.2).1
  |_=>cases n
 |sl a lo hi=>obtain⟨o,s,pos,rfl,q⟩:=mY h;obtain⟨l,u,st,p,rfl,q1⟩:=xR q;rw[d_]at q1;have e1:st=Φ:=Option.isNone_iff_eq_none.mp q1.1;subst e1;have h':(JK Z G a o&&xT Z G lo l&&xT Z G hi u)=Θ:=q1.2;simp only[d_]at h';exact Ig (snd a X ex G o g h'.1.1).1 (AU lo X ex G l g h'.1.2) (AU hi X ex G u g h'.2)
 |comp G' fr tg src ifs elt=>obtain⟨el,gens,scope,pos,rfl,q⟩:=sR h;obtain⟨t,it,fs,rfl,h'⟩:=mh q;simp only[d_]at h';exact DB g (ml h'.1.1.1.1.1) h'.1.1.1.1.2 (λi hi=>l_ (z_.mp h'.1.1.1.2 i hi)) h'.1.1.2 h'.1.2 h'.2
 |_=>cases n
def vQ (hE:isCall E=Θ)(g:JR Z CX cl xp X ex G)(h:JK Z G E e=Θ):PE X e (T1 iM X.K ex (vars E) (IV cl E)):=by
 cases E with
 |call f es=>obtain⟨x,p,args,pos,rfl,q⟩:=kh h;have h':(jl Z G f x&&Z.Pm G f&&iZ Z G es args)=Θ:=q;simp only[d_]at h';exact AW g h'.1.1 h'.1.2 h'.2
 |_=>cases hE
def AY (g:JR Z CX cl xp X ex G)  (hE:isCall E=Θ)(hs:My Z G scope G' fr)(hT:jI G' T tg=Θ)(ha:∀i∈Lf T,fr.length<=i)
  (hi:kM Z G s iter=Θ/\pF s tg=Θ) (ht:iZ Z G' I ifs=Θ) (he:JK Z G' E elt=Θ) :
  PE X (.ListComp elt [⟨tg,iter,ifs,0⟩] scope pos) (Xe X.K ex (vars (.comp G' fr T s I E)) λτ=>II (IV cl (.comp G' fr T s I E) τ) kz):=by
 intro pins s' σ H Q Iv h;obtain⟨KA,S⟩:=kv g Iv.ok hs;have p:=nJ (pos:=pos) (elt:=elt) (ifs:=ifs) (tg:=tg) (g:=gT X.K T) (tt:=RT X.K JW (ie I) (kj cl I)) (te:=T1 iM X.K JW (vars E) (IV cl E)) (g.calm hs.cm) S (vP s X ex G iter tg g hi.1 hi.2) (λC s H fp=>Oz (i3 g hs KA C s H fp) T tg hT)
  (λC s H fp=>vO I _ JW G' ifs (i3 g hs KA C s H fp) ht) (λC s H fp=>vQ hE (i3 g hs KA C s H fp) he) (λx=>jx hi.1 X.env x)
 refine p pins s' σ H Q Iv ?_;obtain⟨S0,τ,OB,q⟩:=h;have q':=IP.II (show IP ex (II (IV cl (.comp G' fr T s I E) τ) kz) _ from q);rw[mr]at q';exact sU hs.R0 ha OB q' λA ys ds H' e hA NZ m np k=>k.ok A ys H' e hA NZ m np
def snP (g:JR Z CX cl xp X ex G)(h:JK Z G (.comp G' fr tg src ifs elt) e=Θ)(ds:Ð)(hw:kW (.comp G' fr tg src ifs elt) ds=Θ):PE X e (Xe X.K ex (vars (.comp G' fr tg src ifs elt)) λτ=>II (IV cl (.comp G' fr tg src ifs elt) τ) kz):=by have hE:isCall elt=Θ:=(s_.mp hw).1;obtain⟨el,gens,scope,pos,rfl,q⟩:=sR h;obtain⟨t,it,fs,rfl,h'⟩:=mh q;simp only[d_]at h';exact AY g hE (ml h'.1.1.1.1.1) h'.1.1.1.1.2 (λi hi=>l_ (z_.mp h'.1.1.1.2 i hi)) h'.1.1.2 h'.1.2 h'.2
mutual
theorem QU:∀(a:IR) (mv:Bool) (X:Cx) (ex:Æ) (G:Gm) (e:Expr),JR Z CX cl xp X ex G->JK Z G a e=Θ->PE X e (RO X.K ex (Kx cl mv a))
 |.v i,mv,X,ex,G,e,g,h=>by obtain⟨x,pos,rfl,q⟩:=iY h;exact IW (kZ g q) mv
 |.tup es,mv,X,ex,G,e,g,h=>by obtain⟨l,n,pos,rfl,q⟩:=qs h;exact IJ (DC es mv X ex G l g q)
 |.lst es,mv,X,ex,G,e,g,h=>by obtain⟨l,pos,rfl,q⟩:=qt h;exact IK (DC es mv X ex G l g q)
 |.ite t a b,mv,X,ex,G,e,g,h=>by obtain⟨c,x,y,pos,rfl,q⟩:=xQ h;have h':(JK Z G t c&&JK Z G a x&&JK Z G b y)=Θ:=q;simp only[d_]at h';exact FX (snd t X ex G c g h'.1.1).2 (QU a mv X ex G x g h'.1.2) (QU b mv X ex G y g h'.2)
 |.call f es,mv,X,ex,G,e,g,h=>by obtain⟨x,p,args,pos,rfl,q⟩:=kh h;have h':(jl Z G f x&&Z.Pm G f&&iZ Z G es args)=Θ:=q;simp only[d_]at h';exact IB g h'.1.1 h'.1.2 h'.2 mv
 |.c d,mv,X,ex,G,e,g,h=>iI (snd _ X ex G e g h).1 (Lo _ X ex G e g h)
 |.g n d,mv,X,ex,G,e,g,h=>iI (snd _ X ex G e g h).1 (Lo _ X ex G e g h)
 |.bin op a b,mv,X,ex,G,e,g,h=>iI (snd _ X ex G e g h).1 (Lo _ X ex G e g h)
 |.neg a,mv,X,ex,G,e,g,h=>iI (snd _ X ex G e g h).1 (Lo _ X ex G e g h)
 |.cmp op a b,mv,X,ex,G,e,g,h=>iI (snd _ X ex G e g h).1 (Lo _ X ex G e g h)
 |.chain op KN a b c,mv,X,ex,G,e,g,h=>iI (snd _ X ex G e g h).1 (Lo _ X ex G e g h)
 |.J0 a b,mv,X,ex,G,e,g,h=>iI (snd _ X ex G e g h).1 (Lo _ X ex G e g h)
 |.Ll a b,mv,X,ex,G,e,g,h=>iI (snd _ X ex G e g h).1 (Lo _ X ex G e g h)
 |.KH a,mv,X,ex,G,e,g,h=>iI (snd _ X ex G e g h).1 (Lo _ X ex G e g h)
 |.idx a i,mv,X,ex,G,e,g,h=>iI (snd _ X ex G e g h).1 (Lo _ X ex G e g h)
 |.sl a lo hi,mv,X,ex,G,e,g,h=>iI (snd _ X ex G e g h).1 (Lo _ X ex G e g h)
 |.bi .tuple [a],mv,X,ex,G,e,g,h=>by
  obtain⟨x,p,args,pos,rfl,q⟩:=kh h
  induction args using zL with
  |nil=>exact ip (s_.mp q).2
  |cons a1 args=>
   have h':(x == kY .tuple&&G.Nq (rl .tuple)&&(notStar a1&&JK Z G a a1&&iZ Z G [] args))=Θ:=(s_.mp q).1;simp only[d_]at h';have e1:x=kY .tuple:=g_ h'.1.1;subst e1
   induction args using zL with
   |nil=>exact AX g (s_.mp h'.1.2).2 h'.2.1.1 (QU a mv X ex G a1 g h'.2.1.2)
   |cons _ _=>cases h'.2.2
 |.bi .len es,mv,X,ex,G,e,g,h=>iI (snd _ X ex G e g h).1 (Lo _ X ex G e g h)
 |.bi .min2 es,mv,X,ex,G,e,g,h=>iI (snd _ X ex G e g h).1 (Lo _ X ex G e g h)
 |.bi .max2 es,mv,X,ex,G,e,g,h=>iI (snd _ X ex G e g h).1 (Lo _ X ex G e g h)
 |.bi .all es,mv,X,ex,G,e,g,h=>iI (snd _ X ex G e g h).1 (Lo _ X ex G e g h)
 |.bi .any es,mv,X,ex,G,e,g,h=>iI (snd _ X ex G e g h).1 (Lo _ X ex G e g h)
 |.bi .abs es,mv,X,ex,G,e,g,h=>iI (snd _ X ex G e g h).1 (Lo _ X ex G e g h)
 |.bi .tuple [],mv,X,ex,G,e,g,h=>iI (snd _ X ex G e g h).1 (Lo _ X ex G e g h)
 |.bi .tuple (_::_::_),mv,X,ex,G,e,g,h=>iI (snd _ X ex G e g h).1 (Lo _ X ex G e g h)
 |.Mk a ns tb,mv,X,ex,G,e,g,h=>iI (snd _ X ex G e g h).1 (Lo _ X ex G e g h)
 |.Lu a k,mv,X,ex,G,e,g,h=>iI (snd _ X ex G e g h).1 (Lo _ X ex G e g h)
 |.P5 x a y,mv,X,ex,G,e,g,h=>iI (snd _ X ex G e g h).1 (Lo _ X ex G e g h)
 |.sset a,mv,X,ex,G,e,g,h=>iI (snd _ X ex G e g h).1 (Lo _ X ex G e g h)
 |.Lx a,mv,X,ex,G,e,g,h=>iI (snd _ X ex G e g h).1 (Lo _ X ex G e g h)
 |.Ly a b,mv,X,ex,G,e,g,h=>iI (snd _ X ex G e g h).1 (Lo _ X ex G e g h)
 |.OQ m o es,mv,X,ex,G,e,g,h=>iI (snd _ X ex G e g h).1 (Lo _ X ex G e g h)
 |.comp G' fr tg src ifs elt,mv,X,ex,G,e,g,h=>iI (snd _ X ex G e g h).1 (Lo _ X ex G e g h) (snP g h)
theorem DC:∀(as:Í) (mv:Bool) (X:Cx) (ex:Æ) (G:Gm) (l:Â),JR Z CX cl xp X ex G->iZ Z G as l=Θ->PA X l (R3 X.K ex (pE cl mv as))
 |[],mv,X,ex,G,l,g,h=>by
  induction l using zL with
  |nil=>exact DA
  |cons _ _=>exists h
 |a::as,mv,X,ex,G,l,g,h=>by
  induction l using zL with
  |nil=>exists h
  |cons e l=>have h':(notStar e&&JK Z G a e&&iZ Z G as l)=Θ:=h;simp only[d_]at h';exact AV h'.1.1 (QU a mv X ex G e g h'.1.2) (DC as mv X ex G l g h'.2)
end
end
structure Bs (io:Ã) where
 F:Ç
 H:Hp
 L:Ω->LD->Prop
 T:Ω->Ñ ⊕ Str->Prop
 N:Option Ω:=Φ
structure Kf (K:Frag){io:Ã}(B:Bs io)(F:Ç)(H:Hp)(σ:St)(τ:Ev)(f:Î):Prop where
 JM:LB F H
 Ko:JT K F H σ τ f
 JX:f.Nodup
 same:ik B.H H
 own:∀a∈f,B.H a=Φ
 Lh:∀a,B.F a->F a
 out:∀a,F a->B.F a∨B.H a=Φ
 pin:∀a xs,B.L a xs->F a/\Rd H a xs.o
 N0:∀a xs,B.T a xs->J8 K H a xs
 nm:∀j a,io=Δ j->B.N=Δ a->σ[j]? = Δ (Δ (.ref a))
def Fk (K:Frag){io:Ã}(B:Bs io)(Dn:Ends):Fl->Prop
 |.nx τ=>∀σ H F f,Kf K B F H σ τ f->Dn.nx σ H
 |.bk τ=>∀σ H F f,Kf K B F H σ τ f->Dn.bk σ H
 |.ct τ=>∀σ H F f,Kf K B F H σ τ f->Dn.ct σ H
 |.rt d=>∀v H F fv,Out K B.F B.H F H v d fv->Dn.rt v H
def RS (K:Frag)(io:Ã)(ex:Æ)(g:Ev->Res Fl):TS:=λDn σ H=>∃(B:Bs io),∃F τ f,Kf K B F H σ τ f/\IP ex (g τ) (Fk K B Dn)
section
variable {K:Frag}{io:Ã}{B:Bs io}{F F':Ç}{H H':Hp}{σ:St}{τ τ':Ev}{f f':Î}{ex:Æ}
def Kf.LU (m:Kf K B F H σ τ f)(s:M3 F H f F' H')(JM:LB F' H')(r:JT K F' H' σ τ' f')(nd:f'.Nodup)(hm:∀a∈f',a∈f∨H a=Φ):Kf K B F' H' σ τ' f' where
 JM:=JM
 Ko:=r
 JX:=nd
 same:=m.same.trans s.same
 own:=λa ha=>(hm a ha).elim (m.own a) λz=>m.same.free z
 Lh:=λa h=>s.Lh a (m.Lh a h)
 out:=λa h=>by
  rcases s.out a h with h|h|h
  ·exact m.out a h
  ·exact .inr (m.own a h)
  ·exact .inr (m.same.free h)
 pin:=λa xs h=>⟨s.Lh a (m.pin a xs h).1,s.same.rd (m.pin a xs h).2⟩
 N0:=λa xs h=>s.same.KW (m.N0 a xs h)
 nm:=m.nm
def Kf.ow (m:Kf K B F H σ τ f)(o:Ow K F H f F' H' σ v d fv τ' f'):Kf K B F' H' σ τ' f'/\∀a∈fv,B.H a=Φ:=
 ⟨m.LU o.LU o.JM o.Ko (n_.mp o.JX).2.1 λa ha=>o.mem a (r_ _ ha),λa ha=>(o.mem a (p_ _ ha)).elim (m.own a) λz=>m.same.free z⟩
def Kf.grow (m:Kf K B F H σ τ f)(e:ik H H'):Kf K B F H' σ τ f:=by obtain⟨k1,k2,k3⟩:=lK m.JM m.Ko e;exact m.LU k3 k1 k2 m.JX λa ha=>.inl ha
def Kf.ro (m:Kf K B F H σ τ f)(h:IP ex (g τ) Kt)(k:∀p v H' F' fv f',Ow K F H f F' H' σ v p.1 fv p.2 f'->Kt p->Q v H'):RO K ex g σ H Q:=
 ⟨F,τ,f,m.JM,m.Ko,m.JX,h.mono λp hp v H' F' fv f' o=>k p v H' F' fv f' o hp⟩
def Kf.rt (m:Kf K B F H σ τ f)(h:IP ex (g τ) Kt)(k:∀b H',Kf K B F H' σ τ f->ik H H'->Kt b->Q b H'):RT K ex is g σ H Q:=
 kR (.refl _) (iN m.Ko) h λb H2 e2 _ hb=>k b H2 (m.grow e2) e2 hb
def Kf.rd (m:Kf K B F H σ τ f)(h:IP ex (g τ) Kt)(k:∀d v H',Kf K B F H' σ τ f->ik H H'->IU K (nw (λ_=>True) H) H' v d->Kt d->Q v H'):RD K ex is g σ H Q:=
 iQ (.refl _) (iN m.Ko) h λb v H2 e2 _ mv hb=>k b v H2 (m.grow e2) e2 mv hb
mutual
theorem ya:∀(t:Tg) {σ:St}{τ:Ev}{f:Î}{v:V}{d:D}{fv:Î}{Kt:Ev->Prop}{Q:St->Hp->Prop},JT K F H σ τ f->JB K F H v d fv->(fv++f).Nodup->IP ex (jq t d τ) Kt->
  (∀τ' JD f',JT K F H JD τ' f'->f'.Nodup->(∀a∈f',a∈fv++f)->(∀j,j∉Lf t->JD[j]? = σ[j]?)->Kt τ'->Q JD H)->gT K t v σ H Q
 |.nm i,σ,τ,f,v,d,fv,Kt,Q,r,m,nd,h,k=>by obtain⟨g,h',r2,p2⟩:=r.put i m;have OD:(g++h').Nodup:=p2.nodup_iff.mpr nd;exact k (τ.set i (Δ d)) (σ.set i (Δ v)) g r2 (n_.mp OD).1 (λa ha=>p2.mem_iff.mp (p_ _ ha)) (λj hj=>Q_ (λz=>hj (by rw[<- z];exact v_.mpr rfl))) h.ok
 |.tp ts,σ,τ,f,v,d,fv,Kt,Q,r,m,nd,h,k=>by
  cases m with
  |tup h1 h2=>obtain⟨gd,h⟩:=IP.JA h;have g':=l_ gd;exact⟨_,_,rfl,.inl h1,by rw[h2.length];exact g',mA ts r h2 nd h k⟩
  |Mg h0 h1 h2=>obtain⟨gd,h⟩:=IP.JA h;have g':=l_ gd;exact⟨_,_,rfl,.inr (.inl h1),by rw[h2.length];exact g',mA ts r h2 nd h k⟩
  |lstK h1 h2=>obtain⟨gd,h⟩:=IP.JA h;have g':=l_ gd;exact⟨_,_,rfl,.inr h1.sq,by rw[h2.length];exact g',mA ts r h2 nd h k⟩
  |JU h0 h1 h2=>obtain⟨gd,h⟩:=IP.JA h;have g':=l_ gd;rw[c_,G_]at nd;exact⟨_,_,rfl,.inr (.inl (.inl h1)),by rw[h2.length];exact g',mA ts r h2 nd.2 h λτ' JD f' a1 a2 a3 a5 a4=>k τ' JD f' a1 a2 (λx hx=>by rw[c_];exact H_ _ (a3 x hx)) a5 a4⟩
  |_=>exact h.no.elim
theorem mA:∀(ts:List Tg) {σ:St}{τ:Ev}{f:Î}{vs:Ñ}{ds:Ð}{fv:Î}{Kt:Ev->Prop}{Q:St->Hp->Prop},JT K F H σ τ f->IT K F H vs ds fv->(fv++f).Nodup->IP ex (lG ts ds τ) Kt->
  (∀τ' JD f',JT K F H JD τ' f'->f'.Nodup->(∀a∈f',a∈fv++f)->(∀j,j∉oH ts->JD[j]? = σ[j]?)->Kt τ'->Q JD H)->RZ K ts vs σ H Q
 |[],σ,τ,f,vs,ds,fv,Kt,Q,r,m,nd,h,k=>by
  cases m with
  |nil=>exact⟨rfl,k τ σ f r (by simpa using nd) (λa ha=>by simpa using ha) (λ_ _=>rfl) h.ok⟩
  |cons _ _=>exact h.no.elim
 |t::ts,σ,τ,f,vs,ds,fv,Kt,Q,r,m,nd,h,k=>by
  cases m with
  |nil=>exact h.no.elim
  |cons m1 m2=>
   rename_i v d f1 vs ds f2
   have M4:(f2++(f1++f)).Nodup:=by refine(List.Perm.nodup_iff ?_).mp nd;rw[<- E_];exact List.Perm.append_right f aal
   refine⟨_,_,rfl,ya t r m1 (n_.mp M4).2.1 (IP.II h) λτ' JD f' r' Xi Nu Po h'=>?_⟩;refine mA ts r' m2 (n_.mpr ⟨(n_.mp M4).1,Xi,λa h1 b h2 e=>(n_.mp M4).2.2 a h1 b (Nu b h2) e⟩) h' λNJ NK Vm r'' Xj QH Xk QE=>k NJ NK Vm r'' Xj (λa ha=>?_) (λj hj=>(Xk j λz=>hj (r_ _ z)).trans (Po j λz=>hj (p_ _ z))) QE;rcases t_.mp (QH a ha) with z|z
   ·exact p_ _ (r_ _ z)
   ·rcases t_.mp (Nu a z) with z|z
    ·exact p_ _ (p_ _ z)
    ·exact r_ _ z
end
theorem Kf.gT (m:Kf K B F H σ τ f)(mv:JB K F H v d fv)(nd:(fv++f).Nodup)(hb:∀a∈fv,B.H a=Φ)(M5:∀j∈Lf t,io≠Δ j)(h:IP ex (jq t d τ) Kt)
  (k:∀τ' JD f',Kf K B F H JD τ' f'->Kt τ'->Q JD H):L2.gT K t v σ H Q:=
 ya t m.Ko mv nd h λτ' JD f' r' Xi hm hj h'=>k τ' JD f' ⟨m.JM,r',Xi,m.same,λa ha=>(t_.mp (hm a ha)).elim (hb a) (m.own a),m.Lh,m.out,m.pin,m.N0,λj a e1 e2=>(hj j λz=>M5 j z e1).trans (m.nm j a e1 e2)⟩ h'
def Kf.write (m:Kf K B F H σ τ f)(hs:ic τ i=Δ (.lst Θ ds))(Km:σ[i]? = Δ (Δ (.ref l)))(hl:H l=Δ (.lst xs))(mw:JB K F H w d fv)(nd:(fv++f).Nodup)(hb:∀a∈fv,B.H a=Φ)
  (hy:∀fi,IT K F H xs ds fi->∃fl h,IT K F H ys ds' fl/\(fl++h).Perm (fv++fi)):∃f',Kf K B F (upd H l (.lst ys)) σ (τ.set i (Δ (.lst Θ ds'))) f':=by
 obtain⟨v,fs,g,h1,h2,h3,h4⟩:=m.Ko.at hs;rw[Km]at h1;cases h1;cases h2 with
 | @JU a Y4 Zv fi hF hH hm=>
  rw[hl]at hH;cases hH;obtain⟨fl,h,Nu,hp⟩:=hy fi hm;have QV:((l::fi)++g).Nodup:=h4.nodup_iff.mp m.JX;have Vn:(fv++((l::fi)++g)).Nodup:=(aak fv h4).nodup_iff.mp nd;have lg:l∉g:=by rw[c_,G_]at QV;exact λz=>QV.1 (r_ _ z)
  have lfi:l∉fi:=by rw[c_,G_]at QV;exact λz=>QV.1 (p_ _ z)
  have lfv:l∉fv:=λz=>(n_.mp Vn).2.2 l z l (by simp) rfl;have QW:∀a∈fl,a∈fv++fi:=λa ha=>hp.mem_iff.mp (p_ _ ha);have Vo:l∉fl:=λz=>(t_.mp (QW l z)).elim lfv lfi;have sl:∀a (u:LD),F a->Rd H a u.o->F a/\Rd (upd H l (.lst ys)) a u.o:=λa xs h r=>by refine⟨h,?_⟩;have:a≠l:=λz=>hF (by rw[<- z];exact h);unfold Rd;rw[ib this];exact r
  have st:∀a xs,J8 K H a xs->J8 K (upd H l (.lst ys)) a xs:=λa xs h=>h.upd hl;have r1:JT K F (upd H l (.lst ys)) σ (τ.set i Φ) g:=h3.step sl st λa ha n _=>⟨n,ib λz=>lg (by rw[<- z];exact ha)⟩
  have m1:JB K F (upd H l (.lst ys)) (.ref l) (.lst Θ ds') (l::fl):=.JU hF il (Nu.step sl st λa ha n _=>⟨n,ib λz=>Vo (by rw[<- z];exact ha)⟩);obtain⟨g',h',r2,p2⟩:=r1.put i m1;have M6:σ.set i (Δ (.ref l))=σ:=by
   apply List.ext_getElem?;intro j;rw[List.getElem?_set];by_cases hj:i=j
   ·subst hj;have JZ:i < σ.length:=(x_.mp Km).1;rw[h_ rfl,h_ JZ,Km]
   ·rw[f_ hj]
  rw[M6,List.set_set]at r2;have ndl:((l::fl)++g).Nodup:=by
   rw[c_,G_];refine⟨λz=>(t_.mp z).elim Vo lg,n_.mpr ⟨?_,(n_.mp QV).2.1,λa h1 b h2 e=>?_⟩⟩
   ·have:(fl++h).Nodup:=hp.nodup_iff.mpr (n_.mpr ⟨(n_.mp Vn).1,(G_.mp (n_.mp QV).1).2,λa h1 b h2 e=>(n_.mp Vn).2.2 a h1 b (p_ _ (H_ _ h2)) e⟩);exact(n_.mp this).1
   ·subst e;rcases t_.mp (QW a h1) with z|z
    ·exact(n_.mp Vn).2.2 a z a (r_ _ h2) rfl
    ·exact(n_.mp QV).2.2 a (H_ _ z) a h2 rfl
  have OD:(g'++h').Nodup:=p2.nodup_iff.mpr ndl;have lB:B.H l=Φ:=m.own l (h4.mem_iff.mpr (by simp));refine⟨g',λa h=>?_,r2,(n_.mp OD).1,λb o QX=>?_,λa ha=>?_,m.Lh,m.out,λa xs h=>⟨(m.pin a xs h).1,(sl a xs (m.pin a xs h).1 (m.pin a xs h).2).2⟩,λa xs h=>st a xs (m.N0 a xs h),m.nm⟩
  ·have:a≠l:=λz=>hF (by rw[<- z];exact h);rw[ib this];exact m.JM a h
  ·have:b≠l:=λz=>by rw[z,lB]at QX;cases QX
   rw[ib this];exact m.same _ _ QX
  ·have:a∈(l::fl)++g:=p2.mem_iff.mp (p_ _ ha);rcases t_.mp this with z|z
   ·rcases k_.mp z with rfl|z
    ·exact lB
    ·rcases t_.mp (QW a z) with z|z
     ·exact hb a z
     ·exact m.own a (h4.mem_iff.mpr (p_ _ (H_ _ z)))
   ·exact m.own a (h4.mem_iff.mpr (r_ _ z))
theorem IT.set (mw:JB K F H w d fv):∀ {xs:Ñ}{ds:Ð}{fi:Î} (j:Nat),IT K F H xs ds fi->∃fl h,IT K F H (xs.set j w) (ds.set j d) fl/\(fl++h).Perm (fv++fi)
 |_,_,_,_,.nil=>⟨[],_,.nil,.refl _⟩
 |_,_,_,0,.cons (f:=f0) (g:=g0) m1 m2=>⟨_,f0,.cons mw m2,by rw[E_];exact aak _ aal⟩
 |_,_,_,j+1,.cons (f:=f0) (g:=g0) m1 m2=>by obtain⟨fl,h,h1,h2⟩:=IT.set mw j m2;refine⟨f0++fl,h,.cons m1 h1,?_⟩;rw[E_];refine(aak f0 h2).trans ?_;rw[<- E_,<- E_];exact List.Perm.append_right g0 aal
def IT.snoc (mw:JB K F H w d fv)  (m:IT K F H xs ds fi):∃fl h,IT K F H (xs++[w]) (ds++[d]) fl/\(fl++h).Perm (fv++fi):=
 ⟨fi++(fv++[]),[],m.append (.cons mw .nil),by rw[P_,P_];exact aal⟩
end
abbrev notTuple:Expr->Bool
 |.Tuple ..=>Ξ
 |_=>Θ
abbrev mB:Expr->Bool
 |.ListComp ..=>Ξ
 |.SetComp ..=>Ξ
 |.DictComp ..=>Ξ
 |_=>Θ
abbrev isName:Expr->Bool
 |.Name ..=>Θ
 |_=>Ξ
abbrev isTup:Expr->Bool
 |.Tuple ..=>Θ
 |_=>Ξ
def Zw {t:Expr}(h:isName t=Θ):∃y p,t=.Name y p:=by
 induction t using zE with
 |Name y p=>exact⟨y,p,rfl⟩
 |_=>exact ip h
def Zx {t:Expr}(h:isTup t=Θ):∃es k p,t=.Tuple es k p:=by
 induction t using zE with
 |Tuple es k p=>exact⟨es,k,p,rfl⟩
 |_=>exact ip h
def Xl {b:Expr}(h:jr b=Θ):tW b:=λo i=>by induction b using zE<;>first|rfl|exact ip h
def Xm {X:Cx}{o i:Expr}{to ti:TE}{t:CB}{pos:Pos}(ho:PE X o to)(hi:PE X i ti)(hs:CC X t)(h:jr i=Θ):PG X (.Subscript o i pos) (EZ to ti t):=CF ho hi hs (by intro _;induction i using zE<;>first|rfl|exact ip h)
def swN {v:Expr}(h:mB v=Θ)(y:Str)(p:Pos)(n:Nat)(e:Env):swapsWith v (Δ (.Name y p)) n e=pure Ξ:=by induction v using zE<;>first|rfl|exact ip h
def Zy {X:Cx}{a b e:Expr}{te:TE}{g:TG}{pos p:Pos}(he:PE X e te)(hg:PG X (.Subscript a b p) g):PS X (.Assign [.Subscript a b p] e pos) (zV te g):=nY he hg (by induction e using zE<;>rfl) (by induction e using zE<;>rfl) rfl
abbrev Xn:Option Expr->(Str->Bool)->Bool
 |none,_=>Ξ
 |some e,k=>NG e λf as _=>Lg (λx=>LA as λa=>ctx a λ
  |.str _=>k x
  |_=>Ξ) f
def DD (h:Xn e k=Θ):∃x np w j p JL,e=Δ (.Call (.Name x np) [.Constant (.str w) j p] [] JL)/\k x=Θ:=by
 cases e with
 |none=>exact ip h
 |some e=>
  obtain⟨f,as,q,rfl,h1⟩:=j5 h;obtain⟨x,p,rfl,h2⟩:=iY h1;obtain⟨a,rfl,h3⟩:=iS h2;obtain⟨c,j,p',rfl,h4⟩:=sQ h3;cases c with
  |str w=>exact⟨_,_,_,_,_,_,rfl,h4⟩
  |_=>exact ip h4
abbrev rev:Stmt->(Option Expr->Bool)->Bool
 |.Raise e Φ _,k=>k e
 |_,_=>Ξ
def DE (h:rev s k=Θ):∃e pos,s=.Raise e Φ pos/\k e=Θ:=by
 induction s using zS with
 |Raise e c pos=>
  cases c with
  |none=>exact⟨_,_,rfl,h⟩
  |some _=>exact ip h
 |_=>exact ip h
abbrev Xo:Option Expr->(Str->Expr->Bool)->Bool
 |none,_=>Ξ
 |some e,k=>NG e λf as _=>Lg (λx=>LA as λa=>k x a) f
def DF (h:Xo e k=Θ):∃x np a JL,e=Δ (.Call (.Name x np) [a] [] JL)/\k x a=Θ:=by
 cases e with
 |none=>exact ip h
 |some e=>obtain⟨f,as,q,rfl,h1⟩:=j5 h;obtain⟨x,p,rfl,h2⟩:=iY h1;obtain⟨a,rfl,h3⟩:=iS h2;exact⟨_,_,_,_,rfl,h3⟩
abbrev T4:Stmt->(Â->Expr->Bool)->Bool
 |.Assign ts v _,k=>k ts v
 |_,_=>Ξ
def qw (h:T4 s k=Θ):∃ts v p,s=.Assign ts v p/\k ts v=Θ:=by
 induction s using zS with
 |Assign ts v p=>exact⟨ts,v,p,rfl,h⟩
 |_=>exact ip h
abbrev isAdd:Operator->Bool
 |.Add=>Θ
 |_=>Ξ
abbrev Zz:Expr->(Expr->Expr->Bool)->Bool
 |.BinOp a o b _,k=>isAdd o&&k a b
 |_,_=>Ξ
def DG (h:Zz e k=Θ):∃a b p,e=.BinOp a .Add b p/\k a b=Θ:=by
 induction e using zE with
 |BinOp a o b p=>
  cases o with
  |Add=>exact⟨a,b,p,rfl,h⟩
  |_=>exact ip h
 |_=>exact ip h
abbrev Vp (s:Stmt)(k:Expr->Expr->Bool):Bool:=T4 s λts v=>LA ts λt=>Zz v λe r=>Ve r λes=>LA es λz=>Ve z λzs=>zs.isEmpty&&k t e
def DH (h:Vp s k=Θ):∃t e lp lq bp pos,s=.Assign [t] (.BinOp e .Add (.List [.List [] lp] lq) bp) pos/\k t e=Θ:=by
 obtain⟨ts,v,p,rfl,h1⟩:=qw h;obtain⟨t,rfl,h2⟩:=iS h1;obtain⟨e,r,bp,rfl,h3⟩:=DG h2;obtain⟨es,lq,rfl,h4⟩:=qt h3;obtain⟨z,rfl,h5⟩:=iS h4;obtain⟨zs,lp,rfl,h6⟩:=qt h5
 induction zs using zL with
 |nil=>exact⟨_,_,_,_,_,_,rfl,h6⟩
 |cons _ _=>exact ip h6
abbrev ZA (s:Stmt)(k:Expr->Str->Expr->Bool):Bool:=T4 s λts v=>LA ts λt=>RV v λo e=>Lg (λx=>k t x e) o
def DI (h:ZA s k=Θ):∃t x p e sp pos,s=.Assign [t] (.Subscript (.Name x p) e sp) pos/\k t x e=Θ:=by obtain⟨ts,v,p,rfl,h1⟩:=qw h;obtain⟨t,rfl,h2⟩:=iS h1;obtain⟨o,e,sp,rfl,h3⟩:=mY h2;obtain⟨x,p',rfl,h4⟩:=iY h3;exact⟨_,_,_,_,_,_,rfl,h4⟩
abbrev T5:Stmt->(Expr->Á->Á->Bool)->Bool
 |.If c a b _,k=>k c a b
 |_,_=>Ξ
def sV (h:T5 s k=Θ):∃c a b p,s=.If c a b p/\k c a b=Θ:=by
 induction s using zS with
 |If c a b p=>exact⟨c,a,b,p,rfl,h⟩
 |_=>exact ip h
abbrev T6:Stmt->(Expr->Bool)->Bool
 |.Expr e _,k=>k e
 |_,_=>Ξ
def sW (h:T6 s k=Θ):∃e p,s=.Expr e p/\k e=Θ:=by
 induction s using zS with
 |Expr e p=>exact⟨e,p,rfl,h⟩
 |_=>exact ip h
abbrev alt (s:Stmt)(k:Str->Expr->Expr->Bool):Bool:=T4 s λts v=>LA ts λt=>RV t λo e=>Lg (λx=>k x e v) o
def DJ (h:alt s k=Θ):∃y p e sp v vp,s=.Assign [.Subscript (.Name y p) e sp] v vp/\k y e v=Θ:=by obtain⟨ts,v,vp,rfl,h3⟩:=qw h;obtain⟨t,rfl,h4⟩:=iS h3;obtain⟨o,e,sp,rfl,h5⟩:=mY h4;obtain⟨y,p,rfl,h6⟩:=iY h5;exact⟨_,_,_,_,_,_,rfl,h6⟩
abbrev ZC (s:Stmt)(k:Str->Str->Bool->Expr->Bool):Bool:=T6 s λb=>NG b λf ws JL=>WY f λo name apos=>Lg (λy'=>LA ws λw=>k y' name (apos.endLine == JL.line) w) o
def DK (h:ZC s k=Θ):∃y' p' name apos w JL ep,s=.Expr (.Call (.Attribute (.Name y' p') name apos) [w] [] JL) ep/\k y' name (apos.endLine == JL.line) w=Θ:=by obtain⟨b,ep,rfl,h8⟩:=sW h;obtain⟨f,ws,JL,rfl,h9⟩:=j5 h8;obtain⟨o,name,apos,rfl,OO⟩:=xK h9;obtain⟨y',p',rfl,P2⟩:=iY OO;obtain⟨w,rfl,Qy⟩:=iS P2;exact⟨_,_,_,_,_,_,_,rfl,Qy⟩
abbrev ZD (s:Stmt)(k:Expr->Str->Expr->Expr->Str->Str->Bool->Expr->Bool):Bool:=T5 s λc a b=>LA a λa=>alt a λy e v=>LA b λb=>ZC b λy' name l w=>k c y e v y' name l w
def DL (h:ZD s k=Θ):∃c y p e sp v vp y' p' name apos w JL ep pos,s=.If c [.Assign [.Subscript (.Name y p) e sp] v vp] [.Expr (.Call (.Attribute (.Name y' p') name apos) [w] [] JL) ep] pos/\k c y e v y' name (apos.endLine == JL.line) w=Θ:=by obtain⟨c,a,b,pos,rfl,h1⟩:=sV h;obtain⟨a,rfl,h2⟩:=iS h1;obtain⟨y,p,e,sp,v,vp,rfl,h3⟩:=DJ h2;obtain⟨b,rfl,h4⟩:=iS h3;obtain⟨y',p',name,apos,w,JL,ep,rfl,h5⟩:=DK h4;exact⟨_,_,_,_,_,_,_,_,_,_,_,_,_,_,_,rfl,h5⟩
abbrev uw (Z:Sg)(G:Gm)(i j:Nat)(e c x v w:IR)(s s':Stmt):Bool:=
 (ZA s λt xi se=>isName t&&jI G (.nm j) t&&lD G i xi&&jr se&&JK Z G e se&&decide (i≠j)) &&
 ZD s' λce y se ve y' name l we=>JK Z G c ce&&lD G j y&&jr se&&JK Z G x se&&JK Z G v ve&&lD G j y'&&name == "append"&&l&&notStar we&&JK Z G w we
mutual
noncomputable def sX (Z:Sg)(G:Gm):IS->Stmt->Bool
 |.P6 f es i es2,s=>T6 s λe=>NG e λfe args _=>Lg (λxf=>jl Z G f xf&&Z.LO.contains f&&G.cm&&iZ Z G (es++.v i::es2) args&&decide (es.length=2)&&!(ie es++ie es2).contains i) fe
 |.asg tg e,.Assign [t] v _=>jI G tg t&&JK Z G e v&&(isName t||(isTup t&&notTuple v))&&As e
 |.RL j G' fr t src,s=>Vp s λtg e=>isName tg&&jI G (.nm j) tg&&JK Z G (.comp G' fr (.nm t) src [] (.lst [])) e
 |.app i e,.Expr (.Call (.Attribute (.Name x _) name apos) [v] [] JL) _=>lD G i x&&name == "append"&&apos.endLine == JL.line&&notStar v&&JK Z G e v
 |.exp e,.Expr v _=>mB v&&JK Z G e v
 |.ret e,.Return (Δ v) _=>JK Z G e v
 |.JV t a b,.If c x y _=>JK Z G t c&&jt Z G a x&&jt Z G b y
 |.Kl tg s body,.For t it b [] _=>((G.cm&&G.rs)&&jI G tg t)&&(kM Z G s it&&pF s t)&&jt Z G body b
 |.K3 n c e,s=>rev s λo=>Xo o λx a=>G.rs&&G.cm&&jl Z G n x&&x == c&&Z.rc.contains (n,c)&&iZ Z {G with rs:=Ξ,tr:=Ξ} [e] [a]
 |.Ka n c _,.Raise e Φ _=>Xn e λx=>G.rs&&G.cm&&jl Z G n x&&x == c&&Z.rc.contains (n,c)
 |_,_=>Ξ
noncomputable def jt (Z:Sg)(G:Gm):Ì->Á->Bool
 |[],[]=>Θ
 |.Ph i j e c x v w::as,s::s'::ss=>uw Z G i j e c x v w s s'&&jt Z G as ss
 |a::as,s::ss=>sX Z G a s&&jt Z G as ss
 |_,_=>Ξ
end
abbrev BO:IS->Bool
 |.Ph _ _ _ _ _ _ _=>Θ
 |_=>Ξ
def sY (h:BO a=Ξ):jt Z G (a::as) (s::ss)=(sX Z G a s&&jt Z G as ss):=by
 induction a using zT<;>first|rfl|cases h
def BP {X:Cx}(ht:jI G tg t=Θ)  (h:RS X.K G.io ex (λτ=>II (ga τ) λp=>II (jq tg p.1 p.2) λτ'=>.ok (.nx τ')) Dn σ H):zV (RO X.K ex ga) (gT X.K tg) Dn σ H:=by obtain⟨B,F,τ,f,m,q⟩:=h;refine m.ro (IP.II q) λp v H' F' fv f' o hp=>?_;obtain⟨m',hb⟩:=m.ow o;exact m'.gT o.rep o.JX hb (mj tg t ht) (IP.II hp) λτ' JD Vm Pr h'=>h'.ok _ _ _ _ Pr
def IC (g:JR Z CX cl xp X ex G)  (ht:jI G tg t=Θ)(hv:JK Z G e v=Θ)(hc:(isName t||(isTup t&&notTuple v))=Θ)(hw:As e=Θ):PS X (.Assign [t] v pos) (RS X.K G.io ex (K1 cl (.asg tg e))):=by
 have pe:=QU e Ξ X ex G v g hv;have pg:=Oz g tg t ht
 induction t using zE with
 |Name x px=>
  cases tg with
  |tp _=>cases ht
  |nm i=>
   have LG:(G.N[i]? == Δ x&&(G.kd[i]? == Δ .local||(G.df&&G.kd[i]? == Δ .cell)))=Θ:=(s_.mp ht).1;rw[d_,J_,d_]at LG;have hx:G.N[i]? = Δ x:=g_ LG.1;have hk:=g.kd i x hx;have M7:Loc X.env.scope x:=LG.2.elim (λz=>.inl (hk.trans (g_ z))) λz=>.inr (hk.trans (g_ z.2));have N9:X.fn x=Θ∨X.env.scope.names.lookup x=Δ .local:=LG.2.elim (λz=>.inr (hk.trans (g_ z))) λz=>.inl (g.df z.1 x);have plain:swapsWith v (Δ (.Name x px)) pos.line X.env=pure Ξ->PS X (.Assign [.Name x px] v pos) (RS X.K G.io ex (K1 cl (.asg (.nm i) e))):=λhs=>
    ju (p9 (i:=i) (by rw[g.N];exact g.JX) (by rw[g.N];exact hx) M7 pe hs N9) λDn σ H h=>BP ht h
   induction v using zE with
   |ListComp el gens scope NL=>
    have Qz:swapsWith (.ListComp el gens scope NL) (Δ (.Name x px)) pos.line X.env=pure (X.env.blockKind == .function&&X.env.kindOf x == Δ .local&&px.line == NL.line&&!(scope.names.any λ(n,k)=>n == x&&(k == .local||k == .cell))):=rfl;cases hb:(X.env.blockKind == .function&&X.env.kindOf x == Δ .local&&px.line == NL.line&&!(scope.names.any λ(n,k)=>n == x&&(k == .local||k == .cell))) with
    |false=>exact plain (by rw[Qz,hb])
    |true=>
     rw[hb]at Qz;have hlx:X.env.kindOf x=Δ .local:=by simp only[d_]at hb;exact g_ hb.1.1.2
     cases e with
     |comp G' fr T src ifs elt=>
      have hv:xI gens (λt it fs=>kr Z G scope G' fr&&jI G' T t&&(Lf T).all (λi=>decide (fr.length<=i))&&(kM Z G src it&&pF src t)&&iZ Z G' ifs fs&&JK Z G' elt el)=Θ:=hv;obtain⟨t,it,fs,rfl,hv⟩:=mh hv;have h':(kr Z G scope G' fr&&jI G' T t&&(Lf T).all (λi=>decide (fr.length<=i))&&(kM Z G src it&&pF src t)&&iZ Z G' ifs fs&&JK Z G' elt el)=Θ:=hv;simp only[d_]at h';have hs:=ml h'.1.1.1.1.1;have hT:=h'.1.1.1.1.2;have ha:∀i∈Lf T,fr.length<=i:=λi hi=>l_ (z_.mp h'.1.1.1.2 i hi);intro pins s' σ H Dn Iv h;obtain⟨KA,S⟩:=kv g Iv.ok hs;have p:=Af (py:=px) (spos:=pos) (i:=i) (pos:=NL) (elt:=el) (ifs:=fs) (tg:=t) (g:=gT X.K T) (tt:=RT X.K JW (ie ifs) (kj cl ifs)) (te:=RD X.K JW (vars elt) (IV cl elt)) (g.calm hs.cm) (by rw[g.N];exact g.JX) (by rw[g.N];exact hx) hlx S (vP src X ex G it t g h'.1.1.2.1 h'.1.1.2.2) (λC s H fp=>Oz (i3 g hs KA C s H fp) T t hT)
       (λC s H fp=>vO ifs _ JW G' fs (i3 g hs KA C s H fp) h'.1.2) (λC s H fp=>(snd elt _ JW G' el (i3 g hs KA C s H fp) h'.2).1) Qz (λx=>jx h'.1.1.2.1 X.env x)
      refine p pins s' σ H Dn Iv ?_;obtain⟨B,F,τ,f,m,q⟩:=h
      -- as one acs is kept
      have q0:IP ex (II (II (IV cl (.comp G' fr T src ifs elt) τ) λd=>.ok (iJ (.comp G' fr T src ifs elt) d τ)) λp=>II (jq (.nm i) p.1 p.2) λτ'=>.ok (.nx τ')) (Fk X.K B Dn):=q;have q1:=IP.II (IP.II q0);have fin:∀(d:D) (v:V) (H':Hp) (F':Ç) (fv f':Î),Ow X.K F H f F' H' σ v (iJ (.comp G' fr T src ifs elt) d τ).1 fv (iJ (.comp G' fr T src ifs elt) d τ).2 f'->(∀(p:D×Ev),p=iJ (.comp G' fr T src ifs elt) d τ->IP ex (II (jq (.nm i) p.1 p.2) λτ'=>.ok (.nx τ')) (Fk X.K B Dn))->Dn.nx (σ.set i (Δ v)) H':=by intro d v H' F' fv f' o hp;obtain⟨m',Nj⟩:=m.ow o;have:=m'.gT (t:=.nm i) (Q:=Dn.nx) o.rep o.JX Nj (mj _ _ ht) (IP.II (hp _ rfl)) λτ' JD Vm Pr h'=>h'.ok _ _ _ _ Pr;exact this
      cases z:IV cl (.comp G' fr T src ifs elt) τ with
      |error er=>
       rw[z]at q1;cases er with
       |stuck=>exact q1.no.elim
       |exc c=>refine kx (S:=λ_=>True) (τ:=τ) (ex:=ex) (Kt:=λ_=>False) hs.R0 ha (iN m.Ko) ?_ λA ys ds H' e hA NZ mm k=>k.elim;show IP ex (IV cl (.comp G' fr T src ifs elt) τ) _;rw[z];exact q1
      |ok d=>
       rw[z]at q1;have q2:=q1.ok.ok;obtain⟨o',ds,rfl⟩:∃o ds,d=.lst o ds:=by have zz:=z;rw[mr]at zz;obtain⟨its,_,zz⟩:=iP zz;obtain⟨_,zz⟩:=kX zz;obtain⟨ds,_,zz⟩:=iP zz;cases zz;exact⟨Θ,ds,rfl⟩
       by_cases hi:ij ds=Θ
       ·have Oy:iJ (.comp G' fr T src ifs elt) (.lst o' ds) τ=(.lst Θ ds,τ):=by unfold iJ;rw[f_ (show ¬iw (.lst o' ds)=Θ by intro z;cases z)];show(if ij ds=Θ then _ else _)=_;rw[h_ hi]
        refine kx (S:=λ_=>True) (τ:=τ) (ex:=ex) (Kt:=λd'=>∃T7,d'=.lst T7 ds) hs.R0 ha (iN m.Ko) ?_ λA ys ds' H' e hA NZ mm k=>?_
        ·show IP ex (IV cl (.comp G' fr T src ifs elt) τ) _;rw[z];exact⟨o',rfl⟩
        ·obtain⟨T7,k⟩:=k;cases k;obtain⟨k1,k2,k3⟩:=lK m.JM m.Ko e;refine fin (.lst o' ds) (.ref A) H' F [A] f ?_ (λp hp=>by subst hp;exact q2);rw[Oy];refine⟨k3,k1,.JU (λzz=>m.JM A zz hA) NZ (mm.free hi),k2,?_,λa ha=>?_⟩
         ·rw[aaG,G_];refine⟨λzz=>?_,m.JX⟩;obtain⟨_,xs,e⟩:=m.Ko.own A zz;rw[hA]at e;cases e
         ·rw[aaG]at ha;rcases k_.mp ha with rfl|ha
          ·exact .inr hA
          ·exact .inl ha
       ·have Oy:iJ (.comp G' fr T src ifs elt) (.lst o' ds) τ=(.lst Θ (Jz ds),JQ (vars (.comp G' fr T src ifs elt)) τ):=by
         unfold iJ;rw[f_ (show ¬iw (.lst o' ds)=Θ by intro z;cases z)];show(if ij ds=Θ then _ else if kW (.comp G' fr T src ifs elt) ds=Θ then _ else _)=_;have hw':isCall elt=Ξ:=by simpa[As] using hw
         rw[f_ hi,f_ (by show ¬(isCall elt&&ds.all iM)=Θ;rw[hw'];simp)]
        obtain⟨F1,gg,b1,b2,b3,b4,b5,b6⟩:=lj (vars (.comp G' fr T src ifs elt)) m.JM m.Ko m.JX;refine kx (S:=F1) (τ:=τ) (ex:=ex) (Kt:=λd'=>∃T7,d'=.lst T7 ds) hs.R0 ha b6 ?_ λA ys ds' H' e hA NZ mm k=>?_
        ·show IP ex (IV cl (.comp G' fr T src ifs elt) τ) _;rw[z];exact⟨o',rfl⟩
        ·obtain⟨T7,k⟩:=k;cases k;obtain⟨c1,c2,c3⟩:=grow (λa=>a≠A) b1 b2 e;have m2:IM X.K (λa=>F1 a∨(a≠A/\H a=Φ/\H' a≠Φ)) H' ys ds:=mm.step (λa xs h r=>⟨h.1.elim (λz=>.inl z) λz=>.inr ⟨h.2,z,r.some⟩,r⟩) λa xs h=>h;refine fin (.lst o' ds) (.ref A) H' (λa=>F1 a∨(a≠A/\H a=Φ/\H' a≠Φ)) [A] gg ?_ (λp hp=>by subst hp;exact q2);rw[Oy];refine⟨b4.trans c3 (λx hx=>.inl (b5 x hx)),c1,.JU (λzz=>?_) NZ m2.frozen,c2,?_,λa ha=>?_⟩
         ·rcases zz with zz|zz
          ·exact b1 A zz hA
          ·exact zz.1 rfl
         ·rw[aaG,G_];refine⟨λzz=>?_,b3⟩;obtain⟨_,xs,e⟩:=b2.own A zz;rw[hA]at e;cases e
         ·rw[aaG]at ha;rcases k_.mp ha with rfl|ha
          ·exact .inr hA
          ·exact .inl (b5 a ha)
     |_=>first|exact ip hv|cases hv
   |SetComp _ _ _ _=>cases e<;>first|exact ip hv|cases hv
   |DictComp _ _ _ _ _=>cases e<;>first|exact ip hv|cases hv
   |_=>exact plain rfl
 |Tuple ts k px=>
  have Mo:notTuple v=Θ:=hc;refine ju (nY pe pg ?_ ?_ rfl) λDn σ H h=>BP ht h
  ·induction v using zE<;>rfl
  ·induction v using zE<;>first|rfl|cases Mo
 |_=>cases hc
def IT.noF {K:Frag}  (h:IT K F H vs ds f)(n:ij ds=Θ):f=[]:=by refine IT.rec (motive_1:=λ_ d f _=>iw d=Θ->f=[]) (motive_2:=λ_ d f _=>ij d=Θ->f=[]) (λ_=>rfl) (λ_ _=>rfl) (λ_ _=>rfl) (λ_ _=>rfl) (λ_ _=>rfl) (λ_ _ i z=>i z) (λ_ _ _ _ _=>rfl) (λ_ _ _ _=>rfl) (λ_ _ _ _ z=>ip z) (λ_=>rfl) (λ{v d f vs ds g} _ _ i j z=>?_) h n;have z':=s_.mp (show(iw d&&ij ds)=Θ from z);rw[i z'.1,j z'.2];rfl
def IT.ZE {K:Frag}  (h:IT K F H vs ds f)(n:iE ds=Θ):f=[]:=by refine IT.rec (motive_1:=λ_ d f _=>jH d=Θ->f=[]) (motive_2:=λ_ d f _=>iE d=Θ->f=[]) (λ_=>rfl) (λ_ _=>rfl) (λ_ _=>rfl) (λ_ _=>rfl) (λ_ _=>rfl) (λ_ _ i z=>i z) (λ_ _ _ _ _=>rfl) (λ_ _ _ _=>rfl) (λ_ _ _ _ z=>ip z) (λ_=>rfl) (λ{v d f vs ds g} _ _ i j z=>?_) h n;have z':=s_.mp (show(jH d&&iE ds)=Θ from z);rw[i z'.1,j z'.2];rfl
theorem oO (is:Ê):∀(τ:Ev) (k i:Nat),is.contains (k+i)=Ξ->ic (mT is k τ) i=ic τ i
 |[],k,i,h=>rfl
 |o::τ,k,0,h=>by unfold mT;rw[jK,jK,f_ (by rw[show k=k+0 from rfl,h];simp)]
 |o::τ,k,i+1,h=>by unfold mT;rw[jy,jy];exact oO is τ (k+1) i (by rw[<- h];congr 1;omega)
def JB.parts {K:Frag}(h:JB K F H v (.lst o es) fv):∃b zs fe h',v=.ref b/\K2 K H b zs/\IT K F H zs es fe/\(fe++h').Perm fv:=by
 cases h with
 |Mg h0 h1 h2=>exact⟨_,_,[],[],rfl,.inl h1,h2,.refl _⟩
 |lstK h1 h2=>exact⟨_,_,[],[],rfl,h1.sq,h2,.refl _⟩
 | @JU a xs ds f h0 h1 h2=>exact⟨a,_,f,[a],rfl,.inl (.inl h1),h2,aal (l₁:=f) (l₂:=[a])⟩
def yb {K:Frag}  (r:JT K F H σ τ f)(hs:ic τ i=Δ (.lst Θ ds)):∃l xs,σ[i]? = Δ (Δ (.ref l))/\H l=Δ (.lst xs)/\xs.length=ds.length:=by
 obtain⟨v,fs,g,h1,h2,h3,h4⟩:=r.at hs;cases h2 with
 |JU hF hH hm=>exact⟨_,_,h1,hH,hm.length⟩
def ux {K:Frag}  (X:K.In h)(q:PySem.W.excIn K C bmB newId=Θ):∃bm N nm qn bs hdct sn sub ab col dd k0 k1 k2 k3 k5 mN,
  h.get? C=Δ (excClassObj nm qn C N bs bm hdct sn sub ab col dd k0 k1 k2 k3 k5 newId)/\h.Ns N mN/\mN "__init__" = Φ/\OwnTail h bmB bm:=by
 unfold PySem.W.excIn at q;split at q
 ·rename_i dd cd sl ho;split at q
  ·rename_i C' bm k0 k1 k2 k3 n k5 hm hs;simp only[d_,beq_iff_eq,Bool.not_eq_true']at q
   obtain⟨⟨⟨⟨⟨rfl,rfl⟩,T8⟩,ht⟩,JO⟩,R4⟩:=q;obtain⟨nm,bs,mro,ns,qn,hd,sn,sub,ab,col,del⟩:=cd;dsimp only at hm T8 JO R4;subst hm T8;obtain⟨l⟩:=sl;have hs:l=[k0,k1,k2,k3,Δ (.builtin n),k5]:=hs;subst hs;exact⟨bm,ns,nm,qn,bs,hd,sn,sub,ab,col,dd,k0,k1,k2,k3,k5,_,X _ _ ho,.of_isNs (PySem.W.isNs_of_in X JO),PySem.W.nsMap_none_of_in X JO R4,PySem.W.tail_of_in X ht⟩
  ·cases q
 ·cases q
def yd (g:JR Z CX cl xp X ex G)  (T9:G.rs=Θ)(LC:G.cm=Θ)(hx:jl Z G n c=Θ)(hc:(n,c)∈Z.rc) :
  PS X (.Raise (Δ (.Call (.Name c np) [.Constant (.str w) j p1] [] JL)) Φ pos) (RS X.K G.io ex (K1 cl (.Ka n c w'))):=by
 obtain⟨k1,k2,k3,k4⟩:=kN g hx;obtain⟨_,C,hm,hn,hq⟩:=g.Nt n c hc;intro pins s σ H Dn I JG;obtain⟨B,F,τ,f,m,q⟩:=JG;have q:ex c:=q;obtain⟨bm,N,nm,qn,bs,hdct,sn,sub,ab,col,dd,k0,Xp,Xq,Xr,k5,mN,e1,e2,e3,e4⟩:=ux I.ok.mod.Qn hq;refine wpAny_Raise_call_subT (C:=C) (nm:=nm) (q:=qn) (N:=N) (bs:=bs) (bm:=bm) (hdct:=hdct) (sn:=sn) (sub:=sub) (ab:=ab) (col:=col) (dd:=dd) (k0:=k0) (k1:=Xp) (k2:=Xq) (k3:=Xr) (k5:=k5)
  PySem.F.excBase_ValueError (mN:=mN) (e4.hasType PySem.F.excBase_ValueError.hasBase) (I.ok.hd (g.calm LC)) rfl e3 (kC I k1 hm ⟨rfl,?_⟩ k4)
 have pa:PA X [.Constant (.str w) j p1] (lE (tC (.str w)) sh):=iB rZ i9 rfl;refine Calls.evalArgs_plain (wpAny_mono (pa JL pins s σ H (λvs H'=>vs=[.str w]) I rfl) (λus s2 ⟨vs,H1,I1,r,hv⟩=>⟨rfl,?_,I1.bk _ _ e1,e2.keeps I1.bk,e4.keeps I1.bk,λh' e hx=>g.RW T9 pins σ H1 s2 c C h' e us I1 q hn hx⟩) λ_ _ y=>y);subst hv;rw[<- r.length];exact(by decide:1<=Ζ)
def DM (I:Inv X pins σ H s)(hN:X.N.Nodup)(hi:X.N[i]? = Δ x)(hk:X.env.kindOf x=Δ .local)(Km:σ[i]? = Δ (Δ v))
  (h:∀s',Inv X pins (σ.set i Φ) H s'->Q () s'):Κ M A (unbindName X.env x) Q E s:=by
 obtain⟨m,hn,hl⟩:=id I.loc;have MO:(X.env.scope.kind == .class||(X.env.scope.kind == .module&&X.env.locals != X.env.globals))=Ξ:=by rw[I.ok.kind];rfl
 have N8:=I.N8;obtain⟨u,_,q⟩:=hl i x v hi Km (.inl hk);have hv:m x=Δ u:=by
  rcases q with⟨_,e⟩|⟨k,_⟩
  ·exact e
  ·rw[hk]at k;rcases k with k|k<;>cases k
 refine wpAny_unbindName_local hk hn hv MO λh' w LF hs=>?_;obtain⟨oL,_,_,YB,_⟩:=id hn;refine h _ ⟨I.ok,I.os,I.bare,⟨λb o e n hb hx=>?_,λb o e n hb hx=>?_,I.base.free,λb o e hx=>?_,I.base.KD,I.base.Kr,I.base.LK⟩,⟨_,LF,λj y v' e1 e2 e3=>?_⟩,λy c e=>?_,I.free,I.J4,λp hp=>?_,λb ob e=>?_,by simpa using I.len⟩
 ·exact(hs.2 b (o_ (B_ (j_ e) I.ok.above))).trans (I.base.keep b o e n hb hx)
 ·obtain⟨sl,e1⟩:=I.base.slot b o e n hb hx;exact⟨sl,(hs.2 b (o_ (B_ (j_ e) I.ok.above))).trans e1⟩
 ·obtain⟨o',e1⟩:=I.base.there b o e hx;exact⟨o',(hs.2 b (o_ (B_ (j_ e) I.ok.above))).trans e1⟩
 ·have hj:j≠i:=by rintro rfl;have JZ:j < σ.length:=(x_.mp Km).1;rw[List.getElem?_set_self JZ]at e2;cases e2
  rw[Q_ (Ne.symm hj)]at e2;obtain⟨u',r',q⟩:=hl j y v' e1 e2 e3;refine⟨u',r',?_⟩;rcases q with⟨k,e⟩|⟨k,c,e,z⟩
  ·refine .inl ⟨k,?_⟩;have:y≠x:=λe=>hj (nV hN e1 (e ▸ hi));simp[this,e]
  ·exact .inr ⟨k,c,e,z.sameBut hs (N8 y c e)⟩
 ·obtain⟨w',z⟩:=I.cell y c e;exact⟨w',z.sameBut hs (N8 y c e)⟩
 ·obtain⟨e,n,ne,nf,d⟩:=I.pin p hp;exact⟨(hs.2 p.1 ne).trans e,n,ne,nf,d⟩
 ·refine(I.JO b ob e).Li (λc w' hc q=>(hs.2 c ?_).trans q) (λ_ q=>q) λ_ _ q=>q;rintro rfl;rcases hc with rfl|hc
  ·rw[I.free]at e;cases e
  ·rw[I.free]at hc;cases hc
def DN (I:Inv X pins σ H s)(hN:X.N.Nodup)(hi:X.N[i]? = Δ x)(hk:X.env.kindOf x=Δ .local)
  (h:∀s',Inv X pins (σ.set i Φ) H s'->Q () s'):Κ M A (do bindName X.env x .none;unbindBehindTheSuite X.env x pos) Q E s:=by
 have O0:i < σ.length:=by rw[I.len];exact(x_.mp hi).1
 unfold bindName unbindBehindTheSuite;refine a_ (a_ (L_ (wpAny_point (a_ (lU (v:=.JF) I hN hi (.inl hk) rfl (λs1 I1=>wpAny_point (wpAny_onRaise (DM I1 hN hi hk (v:=.JF) (by rw[List.getElem?_set_self O0]) λs2 I2=>?_))) (.inr hk))))));rw[List.set_set]at I2;exact h s2 I2
def Inv.Ua (I:Inv X pins σ H s)(ha:s.heap.get? a=Δ o)(n:H a=Φ)(hu:ji (upd H a (.JQ o u)) s.heap a u)(n0:∀ob,X.J6.heap.get? a=Δ ob->X.KJ a=Φ->a∉X.ex->False)
  (Xs:X.KJ a=Φ) (nl:a≠X.env.locals) (nc:∀x c,X.env.cells.lookup x=Δ c->c≠a) (np:∀p∈X.pn++pins,p.1≠a):Inv X pins σ (upd H a (.JQ o u)) s:=by
 refine⟨I.ok,I.os,I.bare,⟨I.base.keep,I.base.slot,λb ob e z hx=>?_,I.base.there,λb xs e=>?_,λb ob v e=>?_,λb ps e=>?_⟩,I.loc,I.cell,?_,λx c e=>?_,λp hp=>?_,λb ob e=>?_,I.len⟩
 ·have:b≠a:=by rintro rfl;exact n0 ob e z hx
  rw[ib this];exact I.base.free b ob e z hx
 ·have:b≠a:=by rintro rfl;rw[Xs]at e;cases e
  rw[ib this];exact I.base.KD b xs e
 ·have:b≠a:=by rintro rfl;rw[Xs]at e;cases e
  rw[ib this];exact I.base.Kr b ob v e
 ·have:b≠a:=by rintro rfl;rw[Xs]at e;cases e
  obtain⟨more,z⟩:=I.base.LK b ps e;exact⟨more,by rw[ib this];exact z⟩
 ·rw[ib (Ne.symm nl)];exact I.free
 ·rw[ib (nc x c e)];exact I.J4 x c e
 ·obtain⟨e,z,r⟩:=I.pin p hp;exact⟨e,by rw[ib (np p hp)];exact z,r⟩
 ·by_cases hb:b=a
  ·subst hb;rw[il]at e;cases e;exact⟨ha,hu⟩
  ·rw[ib hb]at e;exact(I.JO b ob e).Li (λ_ _ _ z=>z) (λc z=>by rw[ib (iH z n)];exact z) λc xs z=>by rw[ib (iH z n)];exact z
def uy {X:Cx}{pins:É}{σ:St}{H1 H':Hp}{s1 s':Α}{B:Heap}{a:Ω}{cls a0:Ψ}{h5:Heap}(I:Inv X pins σ H1 s1)(os:s'.os=s1.os)(bare:AllBare s'.gens)(un:Un (KC X.stack) [] H1 H' s1.heap s'.heap)(hB:Kw H' B)(sm:ik H1 H')
  (kB:∀b o,s1.heap.get? b=Δ o->H1 b=Φ->b∉KC X.stack->B.get? b=Δ o) (fl:Heap.FlyingW B X.stack a cls a0 h5) (up:s'.heap.UpToSlots h5):Inv X pins σ H' {s' with heap:=h5}:=by
 refine I.N' (s':={s' with heap:=h5}) os ⟨λb o e n nf _=>fl.1 _ _ (kB b o e n nf),λb o e n hf _=>?_,un.free,λb o e _=>?_,λb xs e=>sm _ _ e,λb o u e=>sm _ _ e,λb ps e=>⟨#[],by rw[sm _ _ e];simp⟩⟩ (hB.kept fl.1) bare (λb z=>absurd z (by simp))
 ·obtain⟨sl,h1⟩:=un.slot b o e n hf (by simp);obtain⟨_,o',KZ,nf⟩:=I.stack.mem hf;rw[e]at KZ;cases KZ;obtain⟨PM,h2⟩:=up b _ h1 nf;exact⟨PM,h2⟩
 ·cases q:H1 b with
  |none=>
   by_cases hf:b∈KC X.stack
   ·obtain⟨sl,h1⟩:=un.slot b o e q hf (by simp);obtain⟨_,o',KZ,nf⟩:=I.stack.mem hf;rw[e]at KZ;cases KZ;obtain⟨PM,h2⟩:=up b _ h1 nf;exact⟨_,h2⟩
   ·exact⟨_,fl.1 _ _ (kB b o e q hf)⟩
  |some u=>
   obtain⟨ob,ho⟩:=(hB b u (sm _ _ q)).at
   exact⟨_,fl.1 _ _ ho⟩
theorem JT.drop {K:Frag}  : ∀ {σ:St}{τ:Ev}{f:Î} (i:Nat),JT K F H σ τ f->f.Nodup->∃g,JT K F H (σ.set i o) (τ.set i Option.none) g/\g.Nodup/\∀a∈g,a∈f
 |_,_,_,i,.nil,nd=>⟨[],.nil,nd,λ_ h=>h⟩
 |_,_,_,0,.none h,nd=>⟨_,.none h,nd,λ_ h=>h⟩
 |_,_,_,0,.some m h,nd=>⟨_,.none h,(n_.mp nd).2.1,λ_ h=>r_ _ h⟩
 |_,_,_,i+1,.none h,nd=>by obtain⟨g,h1,h2,h3⟩:=JT.drop (o:=o) i h nd;exact⟨g,.none h1,h2,h3⟩
 |_,_,_,i+1,.some (f:=f0) m h,nd=>by obtain⟨QY,OD,nd3⟩:=n_.mp nd;obtain⟨g,h1,h2,h3⟩:=JT.drop (o:=o) i h OD;exact⟨f0++g,.some m h1,n_.mpr ⟨QY,h2,λa ha b hb=>nd3 a ha b (h3 b hb)⟩,λa ha=>(t_.mp ha).elim (p_ _) λz=>r_ _ (h3 a z)⟩
theorem rD {K:Frag}  : ∀ {σ:St}{n:Nat},σ.length=n->JT K F H σ (Τ n Φ) []
 |[],0,_=>.nil
 |_::σ,n+1,h=>.none (rD (by simpa using h))
abbrev lP (X:Cx)(a:Ω):Cx:={X with A:=X.A.mark (Δ (.ref a)),calm:=Ξ,xe:=λ_ _=>False}
def pW (I:Inv X pins σ H s):Inv (lP X a) pins σ H s:=
 ⟨⟨I.ok.mod,I.ok.kind,I.ok.glob,I.ok.blt,I.ok.above,I.ok.inj,I.ok.has,I.ok.OZ,(λz=>nomatch z),I.ok.frames,I.ok.JE,I.ok.PL,I.ok.bs,I.ok.Nc,I.ok.Ma,I.ok.Mb,I.ok.Ks,I.ok.ME⟩,I.os,I.bare,I.base,I.loc,I.cell,I.free,I.J4,I.pin,I.JO,I.len⟩
def rE (ok:X.Ok)(I:Inv (lP X a) pins σ H s):Inv X pins σ H s:=
 ⟨ok,I.os,I.bare,I.base,I.loc,I.cell,I.free,I.J4,I.pin,I.JO,I.len⟩
section
variable {Z:Sg}{CX:Mp}{cl:Ä}{xp:Ö}{X:Cx}{ex:Æ}{G:Gm}{pins:É}{a:Ω}
theorem uz (g:JR Z CX cl xp X ex G):JR Z CX cl xp X.JW JW {G with rs:=Ξ,tr:=Ξ} where
 N:=g.N
 JX:=g.JX
 calm:=g.calm
 fk:=g.fk
 un:=g.un
 own:=λz=>by cases z
 kd:=g.kd
 MJ:=g.MJ
 gl:=g.gl
 Nr:=g.Nr
 df:=g.df
 blt:=g.blt
 cst:=g.cst
 fns:=g.fns
 LO:=g.LO
 NH:=g.NH
 MZ:=g.MZ
 NI:=g.NI
 Nt:=g.Nt
 RW:=λz=>by cases z
 tr:=λz=>by cases z
 P':=⟨λ_ _ _=>False,λpins σ H s e s' _ h=>(g.NY _ _ _ _ _ h).elim,λc _ z=>z.elim⟩
 MH:=g.MH
 NY:=g.NY
theorem vR (g:JR Z CX cl xp X ex G)(MF:∀f∈Z.fns,f∈Z.pl->∀x,Z.name f=Δ x->OS X.prog X.w X.K X.mg X.base CX (X.A.mark (Δ (.ref a))) cl xp f x):JR Z CX cl xp (lP X a) JW {G with cm:=Ξ,rs:=Ξ,tr:=Ξ} where
 N:=g.N
 JX:=g.JX
 calm:=λz=>by cases z
 fk:=g.fk
 un:=g.un
 own:=λz=>by cases z
 kd:=g.kd
 MJ:=g.MJ
 gl:=g.gl
 Nr:=g.Nr
 df:=g.df
 blt:=g.blt
 cst:=g.cst
 fns:=λf hf h x hx=>MF f hf (h.elim (λz=>by cases z) id) x hx
 LO:=λf hf h=>by cases h
 NH:=g.NH
 MZ:=g.MZ
 NI:=g.NI
 Nt:=g.Nt
 RW:=λz=>by cases z
 tr:=λz=>by cases z
 P':=⟨λ_ _ _=>False,λpins σ H s e s' _ h=>(g.NY _ _ _ _ _ h).elim,λc _ z=>z.elim⟩
 MH:=g.MH
 NY:=g.NY
theorem vS (g:JR Z CX cl xp X ex G)  {a:Expr}  (T9:G.rs=Θ)(LC:G.cm=Θ)(hx:jl Z G n c=Θ)(hc:(n,c)∈Z.rc)(JY:iZ Z {G with rs:=Ξ,tr:=Ξ} [e] [a]=Θ) :
  PS X (.Raise (Δ (.Call (.Name c np) [a] [] JL)) Φ pos) (RS X.K G.io ex (K1 cl (.K3 n c e))):=by
 obtain⟨k1,k2,k3,k4⟩:=kN g hx;obtain⟨_,C,hm,hn,hq⟩:=g.Nt n c hc;intro pins s σ H Dn I JG;obtain⟨B,F,τ,f,m,q⟩:=JG;have q:IP ex (II (Lv (IV cl e τ)) λ_=>.error (.exc c)) (Fk X.K B Dn):=q;have pa:=pG [e] X.JW JW _ [a] (uz g) JY;cases z:IV cl e τ with
 |error er=>rw[z]at q;exact q.no.elim
 |ok d=>
  rw[z]at q;have q:ex c:=q;obtain⟨bm,N,nm,qn,bs,hdct,sn,sub,ab,col,dd,k0,Xp,Xq,Xr,k5,mN,e1,e2,e3,e4⟩:=ux I.ok.mod.Qn hq;refine wpAny_Raise_call_subT (C:=C) (nm:=nm) (q:=qn) (N:=N) (bs:=bs) (bm:=bm) (hdct:=hdct) (sn:=sn) (sub:=sub) (ab:=ab) (col:=col) (dd:=dd) (k0:=k0) (k1:=Xp) (k2:=Xq) (k3:=Xr) (k5:=k5)
   PySem.F.excBase_ValueError (mN:=mN) (e4.hasType PySem.F.excBase_ValueError.hasBase) (I.ok.hd (g.calm LC)) (jB Z _ JL X.env JY) e3 (kC I k1 hm ⟨rfl,?_⟩ k4)
  have QZ:RA X.K JW (ie [e]) (iG cl [e]) σ H (λvs _=>vs.length=1):=by refine⟨λ_=>True,τ,iN m.Ko,?_⟩;show IP JW (II (IV cl e τ) λd=>II (iG cl [] τ) λds=>.ok (d::ds)) _;rw[z];intro vs H' _ r;exact r.length
  have J7:(notStar a&&JK Z {G with rs:=Ξ,tr:=Ξ} e a&&iZ Z {G with rs:=Ξ,tr:=Ξ} [] [])=Θ:=JY;simp only[d_]at J7;have e0:=ia J7.1.1 [] X.env;have ZF:=pa JL pins s σ H _ (I.LM _) QZ;rw[show Ν [a] X.JW.env=(Ξ,eval a X.env)::Ν [] X.env from e0]at ZF;rw[e0];refine Calls.evalArgs_plain (wpAny_mono ZF (λus s2 ⟨vs,H1,I1,r,hv⟩=>⟨rfl,?_,I1.J'.bk _ _ e1,e2.keeps I1.J'.bk,e4.keeps I1.J'.bk,λh' e hx=>g.RW T9 pins σ H1 s2 c C h' e us I1.J' q hn hx⟩) λ_ _ y=>y.elim);rw[<- r.length,hv];exact(by decide:1<=Ζ)
end
theorem Kf.put {X:Cx}{io:Ã}{B:Bs io}{F:Ç}{H:Hp}{σ:St}{τ:Ev}{f fv:Î}{v:V}{d:D}(i:Nat)(m:Kf X.K B F H σ τ f)(mv:JB X.K F H v d fv)(nd:(fv++f).Nodup)(hb:∀a∈fv,B.H a=Φ)(M5:io≠Δ i):∃f',Kf X.K B F H (σ.set i (Δ v)) (τ.set i (Δ d)) f':=by obtain⟨g',h',r0,p0⟩:=m.Ko.put i mv;have Vq:(g'++h').Nodup:=p0.nodup_iff.mpr nd;exact⟨g',m.JM,r0,(n_.mp Vq).1,m.same,λb Nj=>(t_.mp (p0.subset (p_ _ Nj))).elim (hb b) (m.own b),m.Lh,m.out,m.pin,m.N0,λj a e1 e2=>(Q_ (λz=>M5 (by rw[z];exact e1))).trans (m.nm j a e1 e2)⟩
def IU.lf {K:Frag}  (h:IU K S H v d)(s:iw d=Θ):IU K S' H v d:=
 (IU.free (F:=S') s h).read (λ_ z=>z) λ_ z=>absurd z (by simp)
def JB.Q0 {K:Frag}  (h:JB K F H v d f)(n:jH d=Θ):f=[]:=by have:=IT.ZE (.cons h .nil) (show(jH d&&Θ)=Θ by rw[n];rfl);simpa using this
theorem IT.getM {K:Frag}:∀ {k:Nat}{vs:Ñ}{ds:Ð}{f:Î},IT K F H vs ds f->ds[k]? = Δ d->∃v f',vs[k]? = Δ v/\JB K F H v d f'
 |_,_,_,_,.nil,h=>by simp at h
 |0,_,_,_,.cons h1 _,h=>by rw[List.getElem?_cons_zero]at h;cases h;exact⟨_,_,rfl,h1⟩
 |k+1,_,_,_,.cons _ h2,h=>by rw[aaE]at h;obtain⟨v,f',e,m⟩:=h2.getM h;exact⟨v,f',by rw[aaE];exact e,m⟩
theorem IT.cutAt {K:Frag}:∀ {k:Nat}{vs:Ñ}{ds:Ð}{f:Î},IT K F H vs ds f->ds[k]? = Δ d->
  ∃L1 v Le M8 Kz f1 fm f2,vs=L1++v::Le/\ds=M8++d::Kz/\L1.length=k/\M8.length=k/\IT K F H L1 M8 f1/\JB K F H v d fm/\IT K F H Le Kz f2/\f=f1++(fm++f2)
 |_,_,_,_,.nil,h=>by simp at h
 |0,_,_,_,.cons h1 h2,h=>by rw[List.getElem?_cons_zero]at h;cases h;exact⟨[],_,_,[],_,[],_,_,rfl,rfl,rfl,rfl,.nil,h1,h2,rfl⟩
 |k+1,_,_,_,.cons h1 h2,h=>by rw[aaE]at h;obtain⟨L1,v,Le,M8,Kz,f1,fm,f2,rfl,rfl,e3,e4,m1,m2,m3,rfl⟩:=h2.cutAt h;exact⟨_::L1,v,Le,_::M8,Kz,_++f1,fm,f2,rfl,rfl,by rw[List.length_cons,e3],by rw[List.length_cons,e4],.cons h1 m1,m2,m3,by rw[E_]⟩
def JB.up {K:Frag}(h:JB K F H v d f)(e:ik H H'):JB K F H' v d f:=
 h.step (λa u z r=>⟨z,e.rd r⟩) (λa xs r=>e.KW r) λa _ n z=>⟨n,by
  cases q:H a with
  |none=>exact absurd q z
  |some o=>exact e _ _ q⟩
def IT.up {K:Frag}(h:IT K F H v d f)(e:ik H H'):IT K F H' v d f:=
 h.step (λa u z r=>⟨z,e.rd r⟩) (λa xs r=>e.KW r) λa _ n z=>⟨n,by
  cases q:H a with
  |none=>exact absurd q z
  |some o=>exact e _ _ q⟩
structure Pt (K:Frag)(F:Ç)(H:Hp)(a:Ω)(rows:Ð)(fl:Î)(k:Nat)(l:Ω):Prop where
 ex:∃(L1 Le:Ñ) (t:Ω) (w:V) (M8 Kz:Ð) (cs:Ð) (o:D) (f1 f2 fc fo:Î),H a=Δ (.lst (L1++.ref t::Le))/\rows=M8++.tup [.lst Θ cs,o]::Kz/\L1.length=k/\M8.length=k/\K0 K H t [.ref l,w]/\
  IT K F H L1 M8 f1/\IT K F H Le Kz f2/\JB K F H (.ref l) (.lst Θ cs) fc/\JB K F H w o fo/\fl=a::(f1++((fc++fo)++f2))
theorem Pt.up {K:Frag}  (h:Pt K F H a rows fl k l)(e:ik H H'):Pt K F H' a rows fl k l:=by obtain⟨L1,Le,t,w,M8,Kz,cs,o,f1,f2,fc,fo,h1,h2,h3,h4,h5,h6,h7,h8,h9,h0⟩:=h.ex;exact⟨L1,Le,t,w,M8,Kz,cs,o,f1,f2,fc,fo,e _ _ h1,h2,h3,h4,e.KW (xs:=.inl _) h5,h6.up e,h7.up e,h8.up e,h9.up e,h0⟩
structure BI (K:Frag)(F0:Ç)(H0:Hp)(a:Ω)(rows:Ð)(fl:Î)(c:Nat)(H:Hp)(σ:St)(p:Lz):Prop where
 JM:LB F0 H0
 JX:fl.Nodup
 nf:∀b∈fl,¬nw F0 H0 b
 same:ik H0 H
 own:JB K (nw F0 H0) H (.ref a) (.lst Θ rows) fl
 ar:σ[2]? = Δ (Δ (.ref a))
 dr:ic p.1 2=Δ (.lst Θ rows)
 len:p.1.length=σ.length
 sl:∀i d,ic p.1 i=Δ d->∃v f,σ[i]? = Δ (Δ v)/\JB K (nw F0 H0) H v d f
 rk:∀k,p.2=Δ k->∃l,σ[c]? = Δ (Δ (.ref l))/\Pt K (nw F0 H0) H a rows fl k l
section
variable {K:Frag}{F0:Ç}{H0 H H':Hp}{a:Ω}{rows:Ð}{fl:Î}{c:Nat}{σ:St}{p:Lz}
theorem BI.up (b:BI K F0 H0 a rows fl c H σ p)(e:ik H H'):BI K F0 H0 a rows fl c H' σ p:=
 ⟨b.JM,b.JX,b.nf,b.same.trans e,b.own.up e,b.ar,b.dr,b.len,λi d z=>by
  obtain⟨v,f,h1,h2⟩:=b.sl i d z;exact⟨v,f,h1,h2.up e⟩,λk z=>by
  obtain⟨l,h1,h2⟩:=b.rk k z
  exact⟨l,h1,h2.up e⟩⟩
def BI.slots (b:BI K F0 H0 a rows fl c H σ p)  : Slots K (λ_=>True) H σ p.1 is:=λi _ d z=>by obtain⟨v,f,h1,h2⟩:=b.sl i d z;exact⟨v,h1,h2.read (λ_ _=>trivial) λ_ _=>trivial⟩
def BI.M9 (b:BI K F0 H0 a rows fl c H σ p)  (n:jA p.1 is=Θ):Slots K (nw F0 H0) H σ p.1 is:=λi hi d z=>by obtain⟨v,f,h1,h2⟩:=b.sl i d z;have:=z_.mp n i hi;rw[z]at this;have e:=h2.Q0 this;subst e;exact⟨v,h1,h2.read (λ_ z=>z) λ_ z=>absurd z (by simp)⟩
def BI.rd (b:BI K F0 H0 a rows fl c H σ p)  (h:f p.1=.ok x)
  (k:∀v H2,ik H H2->((iw x||jA p.1 is)=Θ->JB K (nw F0 H0) H2 v (er x) [])->IU K (λ_=>True) H2 v x->Q v H2):RD K JW is f σ H Q:=by
 have h':IP JW (f p.1) (λy=>y=x):=by rw[h];rfl
 by_cases n:jA p.1 is=Θ
 ·refine iQ (.refl _) (b.M9 n) h' λy v H2 e _ m z=>?_;subst z;exact k v H2 e (λ_=>(m.mono (S':=nw F0 H0) (λa h=>h.elim id λq=>.inr (b.same.free q)) (.refl _)).frozen) (m.mono (λ_ _=>trivial) (.refl _))
 ·refine iQ (.refl _) b.slots h' λy v H2 e _ m z=>?_;subst z;refine k v H2 e (λq=>?_) (m.mono (λ_ _=>trivial) (.refl _));rw[J_]at q;exact(IU.lf (S':=nw F0 H0) m (q.resolve_right n)).frozen
def BI.rt (b:BI K F0 H0 a rows fl c H σ p)  (h:f p.1=.ok x)(k:∀H2,ik H H2->Q x H2):RT K JW is f σ H Q:=by
 have h':IP JW (f p.1) (λy=>y=x):=by rw[h];rfl
 refine kR (.refl _) b.slots h' λy H2 e _ z=>?_;subst z;exact k H2 e
def fx (F0:Ç)(H0 H':Hp):Ç:=λb=>F0 b∨(H0 b=Φ/\H' b≠Φ)
def DO (JM:LB F0 H0)(nf:∀b∈fl,¬nw F0 H0 b)(keep:∀b o,H0 b=Δ o->H' b=Δ o∨(b∈fl/\∃xs,o=.lst xs))(m:JB K (nw F0 H0) H' (.ref a) (.lst Θ rows') L9)(nd:L9.Nodup)(old:∀b∈L9,b∈fl∨H0 b=Φ) :
  Pn K a F0 H0 fl (fx F0 H0 H') H' rows' L9:=by
 refine⟨λb hb=>?_,keep,m.step (λb u h r=>⟨h.elim .inl λz=>.inr ⟨z,r.some⟩,r⟩) (λ_ _ z=>z) λb _ n _=>⟨λz=>n (z.elim .inl λq=>.inr q.1),rfl⟩,nd,old,λb hb=>.inl hb,λb hb=>hb.elim .inl λz=>.inr z.1⟩;rcases hb with hb|hb
 ·cases q:H0 b with
  |none=>exact absurd q (JM b hb)
  |some o=>
   rcases keep b o q with z|z
   ·rw[z];simp
   ·exact absurd (.inl hb) (nf b z.1)
 ·exact hb.2
def BI.out (b:BI K F0 H0 a rows fl c H σ p):Pn K a F0 H0 fl (fx F0 H0 H) H rows fl:=
 DO b.JM b.nf (λx o h=>.inl (b.same x o h)) b.own b.JX λx h=>.inl h
def OE (K:Frag)(F:Ç)(H:Hp)(σ:St)(τ:Ev):Prop:=τ.length=σ.length/\∀i d,ic τ i=Δ d->∃v f,σ[i]? = Δ (Δ v)/\JB K F H v d f
variable {F:Ç}{ex:Æ}
def OE.put (hs:OE K F H σ τ)(m:JB K F H v d f):OE K F H (σ.set i (Δ v)) (τ.set i (Δ d)):=by
 refine⟨by rw[List.length_set,List.length_set,hs.1],λj e z=>?_⟩;rw[jC]at z;by_cases q:i=j/\i < τ.length
 ·rw[h_ q]at z;obtain⟨rfl,q⟩:=q;cases z;exact⟨v,f,by rw[List.getElem?_set_self (by rw[<- hs.1];exact q)],m⟩
 ·rw[f_ q]at z;obtain⟨w,f',h1,h2⟩:=hs.2 j e z;refine⟨w,f',?_,h2⟩;by_cases q2:i=j
  ·subst q2;exact absurd ⟨rfl,by rw[hs.1];exact(x_.mp h1).1⟩ q
  ·rw[Q_ q2];exact h1
mutual
theorem BQ:∀(t:Tg) {σ:St}{τ:Ev}{v:V}{d:D}{f:Î}{Kt:Ev->Prop}{Q:St->Hp->Prop},OE K F H σ τ->JB K F H v d f->IP ex (jq t d τ) Kt->
  (∀τ' JD,OE K F H JD τ'->(∀j,j∉Lf t->JD[j]? = σ[j]?/\ic τ' j=ic τ j)->Kt τ'->Q JD H)->gT K t v σ H Q
 |.nm i,σ,τ,v,d,f,Kt,Q,hs,m,h,k=>by refine k (τ.set i (Δ d)) (σ.set i (Δ v)) (hs.put m) (λj hj=>?_) h.ok;have:i≠j:=λz=>hj (by subst z;simp[Lf]);exact⟨Q_ this,by rw[jC,f_ λz=>this z.1]⟩
 |.tp ts,σ,τ,v,d,f,Kt,Q,hs,m,h,k=>by
  induction d using zD with
  |tup ds=>
   cases m with
   |tup q ms=>obtain⟨g,h⟩:=IP.JA h;exact⟨_,_,rfl,.inl q,by rw[ms.length,l_ g],sZ ts hs ms h k⟩
  |lst o ds=>obtain⟨b,zs,fe,h',rfl,q,ms,_⟩:=m.parts;obtain⟨g,h⟩:=IP.JA h;exact⟨_,_,rfl,.inr q,by rw[ms.length,l_ g],sZ ts hs ms h k⟩
  |_=>exact h.no.elim
theorem sZ:∀(ts:List Tg) {σ:St}{τ:Ev}{vs:Ñ}{ds:Ð}{f:Î}{Kt:Ev->Prop}{Q:St->Hp->Prop},OE K F H σ τ->IT K F H vs ds f->IP ex (lG ts ds τ) Kt->
  (∀τ' JD,OE K F H JD τ'->(∀j,j∉oH ts->JD[j]? = σ[j]?/\ic τ' j=ic τ j)->Kt τ'->Q JD H)->RZ K ts vs σ H Q
 |[],σ,τ,vs,ds,f,Kt,Q,hs,m,h,k=>by
  cases m with
  |nil=>exact⟨rfl,k τ σ hs (λ_ _=>⟨rfl,rfl⟩) h.ok⟩
  |cons _ _=>exact h.no.elim
 |t::ts,σ,τ,vs,ds,f,Kt,Q,hs,m,h,k=>by
  cases m with
  |nil=>exact h.no.elim
  |cons m1 m2=>
   refine⟨_,_,rfl,BQ t hs m1 (IP.II h) λτ' JD Qb hk h'=>?_⟩;refine sZ ts Qb m2 h' λNJ NK QR Nn QE=>k NJ NK QR (λj hj=>?_) QE;have Po:j∉Lf t/\j∉oH ts:=by constructor<;>(intro z;apply hj;simp[oH,z])
   exact⟨(Nn j Po.2).1.trans (hk j Po.1).1,(Nn j Po.2).2.trans (hk j Po.1).2⟩
end
def BI.to (b:BI K F0 H0 a rows fl c H σ p)  (hs:OE K (nw F0 H0) H JD τ')(h2:JD[2]? = σ[2]?)(hc:JD[c]? = σ[c]?)(h3:ic τ' 2=ic p.1 2):BI K F0 H0 a rows fl c H JD (τ',p.2):=
 ⟨b.JM,b.JX,b.nf,b.same,b.own,h2.trans b.ar,h3.trans b.dr,hs.1,hs.2,λk z=>by
  obtain⟨l,h4,h5⟩:=b.rk k z
  exact⟨l,hc.trans h4,h5⟩⟩
def nP (h:OR n d=Δ k):∃z,d=.int z/\Kv n z=Δ k:=by
 unfold OR at h;split at h
 ·exact⟨_,rfl,h⟩
 ·cases h
end
abbrev Xt:Stmt->Bool
 |.Return Φ _=>Θ
 |_=>Ξ
def DP (h:Xt s=Θ):∃p,s=.Return Φ p:=by
 unfold Xt at h;split at h
 ·exact⟨_,rfl⟩
 ·cases h
abbrev R5 (s:Stmt)(k:Expr->Expr->Bool):Bool:=T4 s λts v=>LA ts λt=>k t v
def oP (h:R5 s k=Θ):∃t v p,s=.Assign [t] v p/\k t v=Θ:=by obtain⟨ts,v,p,rfl,h⟩:=qw h;obtain⟨t,rfl,h⟩:=iS h;exact⟨t,v,p,rfl,h⟩
abbrev Ub (e:Expr)(k:Str->Expr->Bool):Bool:=RV e λa s=>Lg (λx=>k x s) a
def qx (h:Ub e k=Θ):∃x p s q,e=.Subscript (.Name x p) s q/\k x s=Θ:=by obtain⟨a,s,q,rfl,h⟩:=mY h;obtain⟨x,p,rfl,h⟩:=iY h;exact⟨x,p,s,q,rfl,h⟩
abbrev yf (Z:Sg)(G:Gm)(c:Nat):BR->Stmt->Bool
 |.KP i e,s=>R5 s λt v=>isName t&&jI G (.nm i) t&&JK Z G e v&&mB v&&decide (i≠2)&&decide (i≠c)
 |.item tg i e,s=>R5 s λt v=>Ub v λx se=>isTup t&&jI G tg t&&lD G i x&&JK Z G e se&&jr se&&!(Lf tg).contains 2&&!(Lf tg).contains c
 |.row o e,s=>R5 s λt v=>Ub v λx se=>isTup t&&jI G (.tp [.nm c,.nm o]) t&&lD G 2 x&&JK Z G e se&&jr se&&decide (c≠2)&&decide (o≠2)&&decide (o≠c)
 |.NF t,s=>T5 s λe a b=>JK Z G t e&&(LA a Xt&&b.isEmpty)
abbrev m7 (Z:Sg)(G:Gm)(c:Nat):List BR->(Á->Bool)->Á->Bool
 |[],k,ss=>k ss
 |b::bs,k,s::ss=>yf Z G c b s&&m7 Z G c bs k ss
 |_::_,_,[]=>Ξ
abbrev mC (Z:Sg)(G:Gm)(c:Nat):BE->Á->Bool
 |.wa s e,ss=>LA ss λst=>R5 st λt v=>Ub t λx sx=>lD G c x&&JK Z G s sx&&jr sx&&JK Z G e v
 |.wb a e,ss=>LA ss λst=>R5 st λt v=>Ub t λx sx=>lD G 2 x&&JK Z G a sx&&jr sx&&TK (λes=>P9 es λy ve=>Lg (λy=>lD G c y) y&&notStar ve&&JK Z G e ve) v
 |.sub f es es2,ss=>LA ss λst=>T6 st λe=>NG e λfe args _=>Lg (λxf=>jl Z G f xf&&Z.LO.contains f&&G.cm&&iZ Z G (es++.v 2::es2) args&&decide (es.length=2)) fe
 |.ch t pre x y,ss=>LA ss λst=>T5 st λe a b=>JK Z G t e&&m7 Z G c pre (mC Z G c x) a&&mC Z G c y b
abbrev yg (Z:Sg)(G:Gm)(B:BK)(ss:Á):Bool:=m7 Z G B.c B.pre (mC Z G B.c B.en) ss
def Vr (K:Frag)(ex:Æ)(cl:Ä)(i:Nat)(es2:Í):Í->TA
 |[]=>lE (zN i) (RA K ex (ie es2) (iG cl es2))
 |e::es=>lE (RD K ex (vars e) (IV cl e)) (Vr K ex cl i es2 es)
theorem td {K:Frag}  (hv:σ[i]? = Δ (Δ v0))(LZ:Slots K S H σ τ (ie es2)):∀(es:Í) {H1:Hp}{Kt:Ð->Ð->Prop}{Q:Ñ->Hp->Prop},ik H H1->Slots K S H σ τ (ie es)->IP ex (iG cl es τ) (λds=>IP ex (iG cl es2 τ) (Kt ds))->
  (∀ds vs Kz us H2,ik H H2->ik H1 H2->IM K (nw S H) H2 vs ds->IM K (nw S H) H2 us Kz->vs.length=es.length->Kt ds Kz->Q (vs++v0::us) H2)->Vr K ex cl i es2 es σ H1 Q
 |[],H1,Kt,Q,e,hs,h,k=>⟨v0,hv,qu e LZ h.ok λKz us H2 e2 KR m2 kt=>k [] [] Kz us H2 e2 KR .nil m2 rfl kt⟩
 |a::es,H1,Kt,Q,e,hs,h,k=>by refine iQ e hs.left (IP.II (show IP ex (II (IV cl a τ) λd=>II (iG cl es τ) λds=>.ok (d::ds)) _ from h)) λx v H2 e2 KR m q=>?_;exact td hv LZ es (Kt:=λds Kz=>Kt (x::ds) Kz) e2 hs.right ((IP.II q).mono λds z=>z.ok) λds vs Kz us H3 e3 Ox ms Uc hl kt=>k (x::ds) (v::vs) Kz us H3 e3 (KR.trans Ox) (.cons (m.mono (λ_ z=>z) Ox) ms) Uc (by rw[List.length_cons,List.length_cons,hl]) kt
theorem BU (g:JR Z CX cl xp X ex G)  : ∀(es:Í) (args:Â),iZ Z G (es++.v i::es2) args=Θ->PA X args (Vr X.K ex cl i es2 es)
 |[],args,h=>by
  match args,h with
  |e::l,h=>
   have h':(notStar e&&JK Z G (.v i) e&&iZ Z G es2 l)=Θ:=h;simp only[d_]at h'
   induction e using zE with
   |Name x p=>exact iB (kZ g h'.1.2) (pG es2 X ex G l g h'.2) (ia h'.1.1 _ _)
   |_=>exact ip h'.1.2
  |[],h=>cases h
 |a::es,args,h=>by
  match args,h with
  |e::l,h=>have h':(notStar e&&JK Z G a e&&iZ Z G (es++.v i::es2) l)=Θ:=h;simp only[d_]at h';exact iB (snd a X ex G e g h'.1.2).1 (BU g es l h'.2) (ia h'.1.1 _ _)
  |[],h=>cases h
def F4 (g:JR Z CX cl xp X ex G)
  (F:K9 X.prog X.w X.K X.mg X.base CX k fa fd ps (Vh X.K cl f ps)) (hr:KO k X.A) (hb:Binds X.K fd ps []) (hlen:∀ds r,cl f ds=.ok r->ds.length=ps.length)
  (I:Inv X pins σ H s) (r:Vals vs us) (q:W8 X.K cl f vs H Q):Κ (Μ X.prog X.w) X.A (call (.ref fa) us) (EP X pins σ Q) X.xe s:=by
 have hl:vs.length=ps.length:=by obtain⟨a,Fc,ws,us2,ds,Kz,rows,fl,rfl,A,rows',hc,_⟩:=q;have:=hlen _ _ hc;rw[u_,List.length_cons,jh,jh]at this;rw[u_,List.length_cons,A.ws.length,A.us.length];exact this
 have P8:(us++([]:Ï)).length=ps.length:=by rw[P_,<- r.length];exact hl
 have bd:=hb s us I.LV P8;rw[P_]at bd;refine wpAny_call (codeAny_mono (F.run X.A X.stack s H ⟨us,[]⟩ us vs Q (λ_ _ _=>False) hr I.LN bd r ⟨hl,q⟩) λr' s' hq=>?_);cases r' with
 |error e=>exact(g.NY _ _ _ _ _ hq).elim
 |ok fl=>
  cases fl with
  |ret u=>exact I.after hq
  |next=>exact False.elim hq
  |brk=>exact False.elim hq
  |cont=>exact False.elim hq
def rF (g:JR Z CX cl xp X ex G)  (h1:jl Z G f x=Θ)(hf:f∈Z.LO)(LC:G.cm=Θ)(JY:iZ Z G (es++.v i::es2) args=Θ) :
  PE X (.Call (.Name x p) args [] pos) (λσ H Q=>Vr X.K ex cl i es2 es σ H λvs H1=>W8 X.K cl f vs H1 Q):=by
 obtain⟨k1,k2,k3,k4⟩:=kN g h1;obtain⟨k,Vj,fd,ps,hm,Oy,hb,F,hr,hlen⟩:=(g.LO f hf LC x k2).ex;intro pins s σ H Q I q;have pa:=BU g es args JY;refine aaJ (kC I k1 hm ?_ k4);obtain⟨a,r,he⟩:∃a r,es++.v i::es2=a::r:=by cases es<;>exact⟨_,_,rfl⟩
 rw[he]at JY
 induction args using zL with
 |nil=>cases JY
 |cons e l=>have J7:(notStar e&&JK Z G a e&&iZ Z G r l)=Θ:=JY;simp only[d_]at J7;refine PySem.W.callWith_K (h₀:=X.base) I.ok.mod.Qn Oy (JP (pa pos pins s σ H _ I q) λus s1 ⟨vs,H1,I1,r,q1⟩=>⟨I1.LV,?_⟩) (ia J7.1.1 l X.env) (jB Z G (es:=r) pos X.env J7.2);exact F4 g F hr hb hlen I1 r q1
def DQ (h:r=.ok x)(k:Kt x):IP JW r Kt:=by rw[h];exact k
def BPo (K:Frag)(F0:Ç)(H0:Hp)(a:Ω)(rows:Ð)(fl:Î)(c:Nat)(Dn:Ends):Option Lz->Prop
 |none=>∀σ H p,BI K F0 H0 a rows fl c H σ p->Dn.rt .JF H
 |some p=>∀σ H,BI K F0 H0 a rows fl c H σ p->Dn.nx σ H
def RBr (K:Frag)(c:Nat)(ev:Lz->Res (Option Lz)):TS:=λDn σ H=>∃F0 H0 a rows fl p o,BI K F0 H0 a rows fl c H σ p/\ev p=.ok o/\BPo K F0 H0 a rows fl c Dn o
def Q2 (K:Frag)(c:Nat)(ev:Lz->Res D):TS:=λDn σ H=>∃F0 H0 a rows fl p d,BI K F0 H0 a rows fl c H σ p/\ev p=.ok d/\
 ∀rows',d=.lst Θ rows'->∀H' F' L9,Pn K a F0 H0 fl F' H' rows' L9->(∀JD,Dn.nx JD H')/\Dn.rt .JF H'
def AZ (h:Ax tg p sl y=.ok o):∃ds k d τ',sl=Δ (.lst Θ ds)/\OR ds.length y=Δ k/\ds[k]? = Δ d/\jq tg d p.1=.ok τ'/\o=Δ (τ',p.2):=by
 unfold Ax at h;split at h
 ·rename_i ds
  split at h
  ·rename_i d hd
   obtain⟨k,hk,hd⟩:=Option.bind_eq_some_iff.mp hd;obtain⟨τ',h1,h2⟩:=iP h;cases h2;exact⟨ds,k,d,τ',rfl,hk,hd,h1,rfl⟩
  ·cases h
 ·cases h
def A0 (h:Ay c q p sl y=.ok o):∃ds k cs d,sl=Δ (.lst Θ ds)/\OR ds.length y=Δ k/\ds[k]? = Δ (.tup [.lst Θ cs,d])/\nG p.1 c=Θ/\o=Δ ((p.1.set c (Δ (.lst Θ cs))).set q (Δ d),Δ k):=by
 unfold Ay at h;split at h
 ·rename_i ds
  split at h
  ·rename_i k hk
   unfold ue at h;split at h
   ·rename_i cs d hd
    obtain⟨gd,h2⟩:=kX h;cases h2;exact⟨ds,k,cs,d,rfl,hk,hd,gd,rfl⟩
   ·cases h
  ·cases h
 ·cases h
def DR (h:RM p e d j (Δ (.lst Θ rows))=.ok x):∃k cs o m,p.2=Δ k/\rows[k]? = Δ (.tup [.lst Θ cs,o])/\OR cs.length j=Δ m/\(iw d||jA p.1 (vars e))=Θ/\iE cs=Θ/\jH o=Θ/\x=.lst Θ (rows.set k (.tup [.lst Θ (cs.set m (er d)),o])):=by
 unfold RM at h;dsimp only at h;split at h
 ·rename_i k hk
  unfold WO at h;split at h
  ·rename_i cs o hr
   split at h
   ·rename_i m hm
    obtain⟨gd,h2⟩:=kX h;cases h2;rw[d_,d_]at gd;exact⟨k,cs,o,m,hk,hr,hm,gd.1.1,gd.1.2,gd.2,rfl⟩
   ·cases h
  ·cases h
 ·cases h
def DS (h:RP p e d y (Δ (.lst Θ rows))=.ok x):∃k cs o,p.2=Δ k/\rows[k]? = Δ (.tup [.lst Θ cs,o])/\OR rows.length y=Δ k/\(iw d||jA p.1 (vars e))=Θ/\iE cs=Θ/\jH o=Θ/\x=.lst Θ (rows.set k (.tup [.lst Θ cs,er d])):=by
 unfold RP at h;dsimp only at h;split at h
 ·rename_i k hk
  unfold WQ at h;split at h
  ·rename_i cs o hr
   obtain⟨gd,h2⟩:=kX h;cases h2;simp only[d_]at gd;exact⟨k,cs,o,hk,hr,l_ gd.1.1.2,gd.1.1.1,gd.1.2,gd.2,rfl⟩
  ·cases h
 ·cases h
def qy {α:Type}{l1 l2:List α}{x y:α}{k:Nat}(h:l1.length=k):(l1++x::l2).set k y=l1++y::l2:=by subst h;rw[List.set_append_right _ _ (q_ _),Nat.sub_self];rfl
def qz {α:Type}{l1 l2:List α}{x:α}{k:Nat}(h:l1.length=k):(l1++x::l2)[k]? = Δ x:=by subst h;rw[aaH (q_ _),Nat.sub_self];rfl
theorem rG:∀ {τ:Ev}{j:Nat},nG τ j=Θ->j < τ.length
 |[],_,h=>by cases h
 |_::_,0,_=>Nat.succ_pos _
 |_::τ,j+1,h=>Nat.succ_lt_succ (rG (τ:=τ) h)
def F5 (g:JR Z CX cl xp X JW G)(b:BR)  (h:yf Z G c b s=Θ):PS X s (RBr X.K c (km cl c b)):=by
 cases b with
 |KP i e=>obtain⟨t,v,pos,rfl,h'⟩:=oP h;clear h;have h:=h';clear h';simp only[d_]at h;obtain⟨⟨⟨⟨⟨hn,hT⟩,he⟩,hnc⟩,NC⟩,Q3⟩:=h;have NC:i≠2:=l_ NC;have Q3:i≠c:=l_ Q3;obtain⟨y,py,rfl⟩:=Zw hn;have LG:(G.N[i]? == Δ y&&(G.kd[i]? == Δ .local||(G.df&&G.kd[i]? == Δ .cell)))=Θ:=(s_.mp hT).1;rw[d_,J_,d_]at LG;have hx:G.N[i]? = Δ y:=g_ LG.1;have hk:=g.kd i y hx;have M7:Loc X.env.scope y:=LG.2.elim (λz=>.inl (hk.trans (g_ z))) λz=>.inr (hk.trans (g_ z.2));have N9:X.fn y=Θ∨X.env.scope.names.lookup y=Δ .local:=LG.2.elim (λz=>.inr (hk.trans (g_ z))) λz=>.inl (g.df z.1 y);have Qz:swapsWith v (Δ (.Name y py)) pos.line X.env=pure Ξ:=swN hnc y py _ _;refine ju (p9 (i:=i) (by rw[g.N];exact g.JX) (by rw[g.N];exact hx) M7 (snd e X JW G v g he).1 Qz N9) λDn σ H JG=>?_;obtain⟨F0,H0,a,rows,fl,p,o,b,hd,q⟩:=JG;obtain⟨d,hx,hd⟩:=iP hd;obtain⟨gd,hd⟩:=kX hd;cases hd;refine b.rd (is:=vars e) hx λw H2 e2 fr _=>?_;have b2:=b.up e2;exact q _ _ (b2.to (OE.put (i:=i) ⟨b2.len,b2.sl⟩ (fr gd)) (Q_ NC) (Q_ Q3) (by rw[jC,f_ λz=>NC z.1]))
 |item tg i e=>
  obtain⟨t,v,pos,rfl,h'⟩:=oP h;clear h;have h:=h';clear h';obtain⟨x,px,se,sp,rfl,h'⟩:=qx h;clear h;have h:=h';clear h';simp only[d_]at h;obtain⟨⟨⟨⟨⟨⟨hn,hT⟩,hi⟩,he⟩,MT⟩,NC⟩,Q3⟩:=h;have NC:2∉Lf tg:=by simpa using NC
  have Q3:c∉Lf tg:=by simpa using Q3
  obtain⟨ts,kk,py,rfl⟩:=Zx hn;refine ju (nY (tX nH (kZ g hi) (snd e X JW G se g he).1 (Xl MT)) (Oz g tg _ hT) rfl rfl rfl) λDn σ H JG=>?_;obtain⟨F0,H0,a,rows,fl,p,o,b,hd,q⟩:=JG;obtain⟨y,hy,hd⟩:=iP hd;obtain⟨ds,k,d,τ',OB,hk,Qc,JY,rfl⟩:=AZ hd;obtain⟨v1,f1,Km,hm⟩:=b.sl i _ OB;cases hm with
  | @JU l xs _ fi hF hH hm=>
   refine⟨.ref l,Km,b.rd (is:=vars e) hy λw H2 e2 _ hw=>?_⟩;obtain⟨z,rfl,hz⟩:=nP hk;cases hw.JN;obtain⟨v2,f2,h3,h4⟩:=hm.getM Qc;refine⟨l,xs,z,v2,rfl,rfl,.inl (.inl (e2 _ _ hH)),?_,?_⟩
   ·unfold KQ;rw[hm.length,hz];exact h3
   ·have b2:=b.up e2;refine BQ (ex:=JW) tg ⟨b2.len,b2.sl⟩ (h4.up e2) (DQ (Kt:=λz=>z=τ') JY rfl) λNJ NK Qb hj hz=>?_;subst hz;exact q _ _ (b2.to Qb (hj 2 NC).1 (hj c Q3).1 (hj 2 NC).2)
 |row o e=>
  obtain⟨t,v,pos,rfl,h'⟩:=oP h;clear h;have h:=h';clear h';obtain⟨x,px,se,sp,rfl,h'⟩:=qx h;clear h;have h:=h';clear h';simp only[d_]at h;obtain⟨⟨⟨⟨⟨⟨⟨hn,hT⟩,hi⟩,he⟩,MT⟩,O7⟩,O6⟩,Ru⟩:=h;have O7:c≠2:=l_ O7;have O6:o≠2:=l_ O6;have Ru:o≠c:=l_ Ru;obtain⟨ts,kk,py,rfl⟩:=Zx hn;refine ju (nY (tX nH (kZ g hi) (snd e X JW G se g he).1 (Xl MT)) (Oz g (.tp [.nm c,.nm o]) _ hT) rfl rfl rfl) λDn σ H JG=>?_;obtain⟨F0,H0,a,rows,fl,p,o',b,hd,q⟩:=JG;obtain⟨y,hy,hd⟩:=iP hd;rw[b.dr]at hd;obtain⟨ds,k,cs,d,OB,hk,Qc,hj,rfl⟩:=A0 hd;cases OB;refine⟨.ref a,b.ar,b.rd (is:=vars e) hy λw H2 e2 _ hw=>?_⟩;obtain⟨z,rfl,hz⟩:=nP hk;cases hw.JN;have b2:=b.up e2;cases b2.own with
  | @JU _ xs _ fi hF hH hm=>
   obtain⟨L1,v,Le,M8,Kz,f1,fm,f2,rfl,rfl,l1,l2,m1,m2,m3,rfl⟩:=hm.cutAt Qc;cases m2 with
   | @tup tt ws _ ff hq ms=>
    cases ms with
    | @cons v1 _ fc ws1 _ g1 mc ms=>
     cases ms with
     | @cons v2 _ fo ws2 _ g2 mo ms=>
      cases ms;cases mc with
      | @JU l ys _ fi ZG ZH Nu=>
       refine⟨a,L1++.ref tt::Le,z,.ref tt,rfl,rfl,.inl (.inl hH),?_,?_⟩
       ·unfold KQ;rw[hm.length,hz];exact qz l1
       ·refine⟨tt,[.ref l,v2],rfl,.inl hq,rfl,_,_,rfl,_,_,rfl,rfl,?_⟩;have WI:=OE.put (i:=o) (OE.put (i:=c) ⟨b2.len,b2.sl⟩ (JB.JU ZG ZH Nu)) mo;refine q _ _ ⟨b2.JM,b2.JX,b2.nf,b2.same,b2.own,?_,?_,WI.1,WI.2,λk' Nn=>?_⟩
        ·show((σ.set c _).set o _)[2]? = _;rw[Q_ O6,Q_ O7];exact b2.ar
        ·show ic ((p.1.set c _).set o _) 2=_;rw[jC,f_ λz=>O6 z.1,jC,f_ λz=>O7 z.1];exact b2.dr
        ·cases Nn;refine⟨l,?_,⟨L1,Le,tt,v2,M8,Kz,cs,d,f1,f2,l::fi,fo,hH,rfl,l1,l2,hq,m1,m3,.JU ZG ZH Nu,mo,by simp⟩⟩;show((σ.set c _).set o _)[c]? = _;rw[Q_ Ru,List.getElem?_set_self (by rw[<- b2.len];exact rG hj)]
 |NF t=>
  obtain⟨e,a,b,pos,rfl,h'⟩:=sV h;clear h;have h:=h';clear h';simp only[d_]at h;obtain⟨ht,ha,hb⟩:=h;obtain⟨s,rfl,Qa⟩:=iS ha;clear ha;have ha:=Qa;clear Qa;obtain⟨ps,rfl⟩:=DP ha
  induction b using zL with
  |nil=>
   refine ju (tQ (snd t X JW G e g ht).2 (jj zQ jM) jM) λDn σ H JG=>?_;obtain⟨F0,H0,a,rows,fl,p,o,b,hd,q⟩:=JG;obtain⟨r,hr,hd⟩:=iP hd;cases hd;refine b.rt hr λH2 e2=>?_
   induction r using zB with
   |true=>exact q σ H2 p (b.up e2)
   |false=>exact q σ H2 (b.up e2)
  |cons _ _=>cases hb
theorem tf (g:JR Z CX cl xp X JW G)  (hk:∀ss,kS ss=Θ->LL X ss (Q2 X.K c ev)):∀(bs:List BR) (ss:Á),m7 Z G c bs kS ss=Θ->LL X ss (Q2 X.K c (jS cl c bs ev))
 |[],ss,h=>hk ss h
 |b::bs,ss,h=>by
  induction ss using zL with
  |nil=>cases h
  |cons s ss=>
   have h':(yf Z G c b s&&m7 Z G c bs kS ss)=Θ:=h;rw[d_]at h';refine jO (jj (F5 g b h'.1) (tf g hk bs ss h'.2)) λDn σ H JG=>?_;obtain⟨F0,H0,a,rows,fl,p,d,bi,hd,q⟩:=JG;obtain⟨o,ho,hd⟩:=iP (show II (km cl c b p) (Fm p (jS cl c bs ev))=.ok d from hd);refine⟨F0,H0,a,rows,fl,p,o,bi,ho,?_⟩;cases o with
   |none=>intro JD H' p' b';have hd:early p=.ok d:=hd;unfold early at hd;rw[bi.dr]at hd;cases hd;exact(q rows rfl H' _ fl b'.out).2
   |some p'=>exact λJD H' b'=>⟨F0,H0,a,rows,fl,p',d,b',hd,q⟩
def uA {K:Frag}  (m:JB K F H (.ref l) (.lst Θ cs) fc)(n:iE cs=Θ):fc=[l]/\¬F l/\∃ys,H l=Δ (.lst ys)/\IT K F H ys cs []:=by
 cases m with
 | @JU _ ys _ fi hF hH hm=>have e:=hm.ZE n;subst e;exact⟨rfl,hF,ys,hH,hm⟩
def F6 (g:JR Z CX cl xp X JW G)  (h:mC Z G c (.wa s e) ss=Θ):LL X ss (Q2 X.K c (j8 cl c (.wa s e))):=by
 obtain⟨st,rfl,h'⟩:=iS h;clear h;have h:=h';clear h';obtain⟨t,v,pos,rfl,h'⟩:=oP h;clear h;have h:=h';clear h';obtain⟨x,px,sx,sp,rfl,h'⟩:=qx h;clear h;have h:=h';clear h';simp only[d_]at h;obtain⟨⟨⟨hx,hs⟩,MT⟩,he⟩:=h;refine jO (jj (Zy (snd e X JW G v g he).1 (Xm (kZ g hx) (snd s X JW G sx g hs).1 set_list MT)) jM) λDn σ H JG=>?_;obtain⟨F0,H0,a,rows,fl,p,d0,b,hd,q⟩:=JG;obtain⟨d,OU,hd⟩:=iP (show II (IV cl e p.1) (λd=>II (IV cl s p.1) λj=>RM p e d j (ic p.1 2))=.ok d0 from hd);obtain⟨j,hj,hd⟩:=iP hd;rw[b.dr]at hd;obtain⟨k,cs,o,m,hk,Ud,hm,gd,PU,ho,rfl⟩:=DR hd;refine b.rd (is:=vars e) OU λvv H1 e1 fr _=>?_;have b1:=b.up e1;obtain⟨l,Km,rk⟩:=b1.rk k hk;refine⟨.ref l,Km,b1.rd (is:=vars s) hj λjv H2 e2 _ R6=>?_⟩;obtain⟨z,rfl,hz⟩:=nP hm;cases R6.JN;have b2:=b1.up e2;obtain⟨L1,Le,tt,w,M8,Kz,cs',o',f1,f2,fc,fo,hH,R7,l1,l2,hq,m1,m2,mc,mo,N1⟩:=(rk.up e2).ex;rw[R7,qz l2]at Ud;cases Ud;obtain⟨rfl,hF,ys,Ue,Vs⟩:=uA mc PU;have e3:=mo.Q0 ho;subst e3;have nd:=b.JX;rw[N1]at nd;have pm:(a::(f1++(([l]++[])++f2))).Perm (l::(a::(f1++f2))):=by simp only[P_,aaG];exact(List.Perm.cons a List.perm_middle).trans (List.Perm.swap _ _ _)
 have nl:l∉a::(f1++f2):=(G_.mp (pm.nodup_iff.mp nd)).1;have al:a≠l:=λz=>nl (by rw[z];exact k_.mpr (.inl rfl));have Vo:l∈fl:=by rw[N1];simp
 refine⟨l,ys,z,m,rfl,rfl,Ue,by rw[Vs.length];exact hz,?_⟩;have sl:∀b (u:LD),nw F0 H0 b->Rd H2 b u.o->nw F0 H0 b/\Rd (upd H2 l (.lst (ys.set m vv))) b u.o:=λb u h r=>by refine⟨h,?_⟩;have:b≠l:=λz=>hF (by rw[<- z];exact h);unfold Rd;rw[ib this];exact r
 have st:∀b xs,J8 X.K H2 b xs->J8 X.K (upd H2 l (.lst (ys.set m vv))) b xs:=λb xs h=>h.upd Ue;have ne:∀b∈f1++f2,b≠l:=λb hb z=>nl (by rw[<- z];exact H_ _ hb);have mv:JB X.K (nw F0 H0) H2 vv (er d) []:=(fr gd).up e2;obtain⟨fq,Tf,mq,pq⟩:=IT.set mv m Vs;have efq:fq=[]:=by have:=pq.length_eq;simp only[u_,List.length_nil]at this;exact List.eq_nil_of_length_eq_zero ⋯
 subst efq;refine(q _ rfl _ _ fl (DO b.JM b.nf (λx u hx=>?_) ?_ b.JX λx hx=>.inl hx)).1 σ
 ·have Pu:=b2.same x u hx;by_cases zx:x=l
  ·subst zx;rw[Ue]at Pu;cases Pu;exact .inr ⟨Vo,_,rfl⟩
  ·exact .inl (by rw[ib zx];exact Pu)
 ·rw[R7,qy l2,N1];have Vt:¬nw F0 H0 a:=b.nf a (by rw[N1];exact aaf ..);refine .JU Vt (by rw[ib al];exact hH) ((m1.step sl st λb hb n _=>⟨n,ib (ne b (p_ _ hb))⟩).append (.cons (.tup (st tt (.inl _) hq) (.cons (.JU hF il (mq.step sl st jG)) (.cons (mo.step sl st jG) .nil))) (m2.step sl st λb hb n _=>⟨n,ib (ne b (r_ _ hb))⟩)))
def F7 (g:JR Z CX cl xp X JW G)  (h:mC Z G c (.wb s e) ss=Θ):LL X ss (Q2 X.K c (j8 cl c (.wb s e))):=by
 obtain⟨st,rfl,h'⟩:=iS h;clear h;have h:=h';clear h';obtain⟨t,v,pos,rfl,h'⟩:=oP h;clear h;have h:=h';clear h';obtain⟨x,px,sx,sp,rfl,h'⟩:=qx h;clear h;have h:=h';clear h';simp only[d_]at h;obtain⟨⟨⟨hx,hs⟩,MT⟩,hv⟩:=h;obtain⟨es,cx,vp,rfl,MI⟩:=qs hv;clear hv;have hv:=MI;clear MI;obtain⟨y,ve,rfl,MI⟩:=lN hv;clear hv;have hv:=MI;clear MI;simp only[d_]at hv;obtain⟨⟨hy,JY⟩,he⟩:=hv;obtain⟨yn,yp,rfl,NX⟩:=iY hy;clear hy;have hy:=NX;clear NX;refine jO (jj (nY (qa (iB (kZ g hy) (iB (snd e X JW G ve g he).1 i9 (ia JY _ _)) rfl)) (Xm (kZ g hx) (snd s X JW G sx g hs).1 set_list MT) rfl rfl rfl) jM) λDn σ H JG=>?_;obtain⟨F0,H0,a,rows,fl,p,d0,b,hd,q⟩:=JG;obtain⟨d,OU,hd⟩:=iP (show II (IV cl e p.1) (λd=>II (IV cl s p.1) λj=>RP p e d j (ic p.1 2))=.ok d0 from hd);obtain⟨j,hj,hd⟩:=iP hd;rw[b.dr]at hd;obtain⟨k,cs,o,hk,Ud,hm,gd,PU,ho,rfl⟩:=DS hd;obtain⟨l,Km,_⟩:=b.rk k hk;refine⟨.ref l,Km,b.rd (is:=vars e) OU λvv H1 e1 fr _=>⟨by show 2<=Ζ;decide,λt' LG=>?_⟩⟩;have b1:=(b.up e1).up (.upd (o:=.tup [.ref l,vv]) LG);refine⟨.ref a,b1.ar,b1.rd (is:=vars s) hj λjv H2 e2 _ R6=>?_⟩;obtain⟨z,rfl,hz⟩:=nP hm;cases R6.JN;have b2:=b1.up e2;obtain⟨l',M6,rk⟩:=b2.rk k hk;rw[Km]at M6;cases M6;obtain⟨L1,Le,tt,w,M8,Kz,cs',o',f1,f2,fc,fo,hH,R7,l1,l2,hq,m1,m2,mc,mo,N1⟩:=rk.ex;rw[R7,qz l2]at Ud;cases Ud;obtain⟨rfl,hF,ys,Ue,Vs⟩:=uA mc PU;have e3:=mo.Q0 ho;subst e3;have nd:=b.JX;rw[N1]at nd;have na:a∉f1++(([l]++[])++f2):=(G_.mp nd).1;have Vt:¬nw F0 H0 a:=b.nf a (by rw[N1];exact aaf ..);have hxl:(L1++V.ref tt::Le).length=rows.length:=by rw[R7,u_,u_,List.length_cons,List.length_cons,m1.length,m2.length]
 refine⟨a,_,z,k,rfl,rfl,hH,by rw[hxl];exact hz,?_⟩;rw[qy l1];have sl:∀b (u:LD),nw F0 H0 b->Rd H2 b u.o->nw F0 H0 b/\Rd (upd H2 a (.lst (L1++V.ref t'::Le))) b u.o:=λb u h r=>by refine⟨h,?_⟩;have:b≠a:=λz=>Vt (by rw[<- z];exact h);unfold Rd;rw[ib this];exact r
 have st:∀b xs,J8 X.K H2 b xs->J8 X.K (upd H2 a (.lst (L1++V.ref t'::Le))) b xs:=λb xs h=>h.upd hH;have ne:∀b∈f1++(([l]++[])++f2),b≠a:=λb hb z=>na (by rw[<- z];exact hb);have mv:JB X.K (nw F0 H0) H2 vv (er d) []:=(fr gd).up ((ik.upd LG).trans e2);have hqt:J8 X.K H2 t' (.inl [.ref l,vv]):=.inl (.inl (e2 _ _ il));refine(q _ rfl _ _ fl (DO b.JM b.nf (λx u hx=>?_) ?_ b.JX λx hx=>.inl hx)).1 σ
 ·have Pu:=b2.same x u hx;by_cases zx:x=a
  ·subst zx;rw[hH]at Pu;cases Pu;exact .inr ⟨by rw[N1];exact aaf ..,_,rfl⟩
  ·exact .inl (by rw[ib zx];exact Pu)
 ·rw[R7,qy l2,N1];refine .JU Vt il ((m1.step sl st λb hb n _=>⟨n,ib (ne b (p_ _ hb))⟩).append (.cons (.tup (st t' (.inl _) hqt) (.cons (.JU hF (by rw[ib (ne l (by simp))];exact Ue) (Vs.step sl st jG)) (.cons (mv.step sl st jG) .nil))) (m2.step sl st λb hb n _=>⟨n,ib (ne b (r_ _ (r_ _ hb)))⟩)))
def A1 (h:vG cl f as bs gd (Δ (.lst Θ rows))=.ok x):gd=Θ/\∃rows',cl f (Jz as++.lst Θ rows::Jz bs)=.ok (.tup [.JF,.lst Θ rows'])/\x=.lst Θ rows':=by
 unfold vG at h;dsimp only at h;obtain⟨gd,h⟩:=kX h;obtain⟨r,hr,h⟩:=iP h;unfold Dg at h;split at h
 ·cases h;refine⟨gd,_,?_,rfl⟩;cases z:cl f (Jz as++.lst Θ rows::Jz bs) with
  |error er=>rw[z]at hr;cases er<;>cases hr
  |ok rr=>rw[z]at hr;cases hr;rfl
 ·cases h
def DT (g:JR Z CX cl xp X JW G)  (h:mC Z G c (.sub f es es2) ss=Θ):LL X ss (Q2 X.K c (j8 cl c (.sub f es es2))):=by obtain⟨st,rfl,h'⟩:=iS h;clear h;have h:=h';clear h';obtain⟨e,pos,rfl,h'⟩:=sW h;clear h;have h:=h';clear h';obtain⟨fe,args,cp,rfl,h'⟩:=j5 h;clear h;have h:=h';clear h';obtain⟨xf,fp,rfl,h'⟩:=iY h;clear h;have h:=h';clear h';simp only[d_]at h;obtain⟨⟨⟨⟨hf,Xu⟩,LC⟩,JY⟩,h2⟩:=h;refine jO (jj (lV (rF (p:=fp) (pos:=cp) (es2:=es2) g hf (by simpa using Xu) LC JY)) jM) λDn σ H JG=>?_;obtain⟨F0,H0,a,rows,fl,p,d0,b,hd,q⟩:=JG;obtain⟨as,has,hd⟩:=iP (show II (iG cl es p.1) (λas=>II (iG cl es2 p.1) λbs=>vG cl f as bs (jA p.1 (ie es++ie es2)) (ic p.1 2))=.ok d0 from hd);obtain⟨bs,hbs,hd⟩:=iP hd;rw[b.dr]at hd;obtain⟨gd,rows',RE,rfl⟩:=A1 hd;refine td (S:=nw F0 H0) (Kt:=λds Kz=>ds=as/\Kz=bs) b.ar (b.M9 gd).right es (.refl _) (b.M9 gd).left (DQ has (DQ hbs ⟨rfl,rfl⟩)) λds ws Kz us H2 e2 _ ms Uc hl JG=>?_;obtain⟨z1,z2⟩:=JG;subst z1;subst z2;have b2:=b.up e2;have Ug:∀ {vs:Ñ}{ds:Ð},IM X.K (nw (nw F0 H0) H) H2 vs ds->IM X.K (fx F0 H0 H2) H2 vs ds:=λm=>m.step (λb' u h r=>⟨h.elim (λy=>y.elim .inl λz=>.inr ⟨z,r.some⟩) λz=>.inr ⟨b.same.free z,r.some⟩,r⟩) λ_ _ z=>z;have bo:=b2.out;refine⟨a,fx F0 H0 H2,ws,us,ds,Kz,rows,fl,rfl,⟨by rw[hl];exact l_ h2,bo.JM,Ug ms,Ug Uc,bo.rep,b.JX⟩,rows',RE,λH' F' L9 o=>?_⟩;exact(q rows' rfl H' F' L9 ⟨o.JM,λx u hx=>o.keep x u (b2.same x u hx),o.rep,o.JX,λx hx=>(o.old x hx).imp_right b2.same.free,λx hx=>o.Lh x (.inl hx),λx hx=>(o.out x hx).elim (λy=>y.imp_right (·.1)) λy=>.inr (b2.same.free y)⟩).1 σ
theorem yh (g:JR Z CX cl xp X JW G):∀(e:BE) (ss:Á),mC Z G c e ss=Θ->LL X ss (Q2 X.K c (j8 cl c e))
 |.wa s e,ss,h=>F6 g h
 |.wb a e,ss,h=>F7 g h
 |.sub f es es2,ss,h=>DT g h
 |.ch t pre x y,ss,h=>by
  have h:LA ss (λst=>T5 st λe a b=>JK Z G t e&&m7 Z G c pre (mC Z G c x) a&&mC Z G c y b)=Θ:=h;obtain⟨st,rfl,h'⟩:=iS h;clear h;have h:=h';clear h';obtain⟨e,a,b,pos,rfl,h'⟩:=sV h;clear h;have h:=h';clear h';simp only[d_]at h;obtain⟨⟨ht,ha⟩,hb⟩:=h;refine jO (jj (tQ (snd t X JW G e g ht).2 (tf g (yh g x) pre a ha) (yh g y b hb)) jM) λDn σ H JG=>?_;obtain⟨F0,H0,aa,rows,fl,p,d,b,hd,q⟩:=JG;obtain⟨r,hr,hd⟩:=iP (show II (ND cl t p.1) (λr=>if r=Θ then jS cl c pre (j8 cl c x) p else j8 cl c y p)=.ok d from hd);refine b.rt hr λH2 e2=>?_
  induction r using zB with
  |true=>exact⟨F0,H0,aa,rows,fl,p,d,b.up e2,hd,q⟩
  |false=>exact⟨F0,H0,aa,rows,fl,p,d,b.up e2,hd,q⟩
def F9 (g:JR Z CX cl xp X JW G)  (h:yg Z G B ss=Θ):LL X ss (Q2 X.K B.c (jS cl B.c B.pre (j8 cl B.c B.en))):=tf g (yh g B.en) B.pre ss h
def A4 {K:Frag}(m:JB K F H v d f)(nd:f.Nodup):∃fl,fl.Sublist f/\JB K (λb=>F b∨(b∈f/\b∉fl)) H v (l8 d) fl:=by
 unfold l8;split
 ·rename_i cs o
  cases m with
  | @tup t xs _ _ hq ms=>
   cases ms with
   | @cons v1 _ fc _ _ g1 mc ms=>
    cases ms with
    | @cons v2 _ fo _ _ g2 mo ms=>
     cases ms;cases mc with
     | @JU l ys _ fi hF hH hm=>
      refine⟨[l],by simp,?_⟩;have hl:l∉fi++(fo++[]):=(G_.mp (show(l::(fi++(fo++[]))).Nodup from nd)).1;refine .tup hq (.cons (f:=[l]) (g:=[]) (.JU (λz=>z.elim hF λy=>y.2 (v_.mpr rfl)) hH ?_) (.cons (f:=[]) (g:=[]) ?_ .nil))
      ·exact(hm.read (λb hb=>.inl hb) λb hb=>.inr ⟨by simp[hb],λy=>hl (by rw[<- v_.mp y];exact p_ _ hb)⟩).frozen
      ·exact(mo.read (λb hb=>.inl hb) λb hb=>.inr ⟨by simp[hb],λy=>hl (by rw[<- v_.mp y];exact r_ _ (p_ _ hb))⟩).frozen
 ·exact⟨[],by simp,(m.read (λb hb=>.inl hb) λb hb=>.inr ⟨hb,by simp⟩).frozen⟩
theorem rH {K:Frag}:∀ {vs:Ñ}{ds:Ð}{f:Î},IT K F H vs ds f->f.Nodup->∃fl,fl.Sublist f/\IT K (λb=>F b∨(b∈f/\b∉fl)) H vs (ds.map l8) fl
 |_,_,_,.nil,_=>⟨[],by simp,.nil⟩
 |_,_,_,.cons (f:=f0) (g:=g0) m ms,nd=>by have M4:=n_.mp nd;obtain⟨Vu,s0,m0⟩:=A4 m M4.1;obtain⟨ZI,s1,m1⟩:=rH ms M4.2.1;have d01:∀b,b∈f0->b∉ZI:=λb h1 h2=>M4.2.2 b h1 b (s1.subset h2) rfl;have d10:∀b,b∈g0->b∉Vu:=λb h1 h2=>M4.2.2 b (s0.subset h2) b h1 rfl;refine⟨Vu++ZI,s0.append s1,.cons (m0.step (λb u h r=>⟨h.imp_right λz=>⟨p_ _ z.1,λy=>(t_.mp y).elim z.2 (d01 b z.1)⟩,r⟩) (λ_ _ z=>z) λb hb n _=>⟨λy=>y.elim (λz=>n (.inl z)) λz=>z.2 (p_ _ hb),rfl⟩) (m1.step (λb u h r=>⟨h.imp_right λz=>⟨r_ _ z.1,λy=>(t_.mp y).elim (d10 b z.1) z.2⟩,r⟩) (λ_ _ z=>z) λb hb n _=>⟨λy=>y.elim (λz=>n (.inl z)) λz=>z.2 (r_ _ hb),rfl⟩)⟩
def A5 (k:∀o,H b=Δ o->H' b=Δ o)(r:Rd H b u):Rd H' b u:=r.imp (k _) λ⟨o,h⟩=>⟨o,k _ h⟩
def yi {K:Frag}(k:∀b o,H b=Δ o->H' b=Δ o∨∃xs,o=.lst xs)  (h:J8 K H b xs):J8 K H' b xs:=by
 cases xs with
 |inl xs=>
  rcases h with h|h
  ·refine .inl ?_;rcases h with h|⟨o,h⟩
   ·exact .inl ((k b _ h).resolve_right λ⟨_,e⟩=>nomatch e)
   ·exact .inr ⟨o,(k b _ h).resolve_right λ⟨_,e⟩=>nomatch e⟩
  ·exact .inr h
 |inr c=>obtain⟨C,o,vs,h0,h1,h2,h3⟩:=h;exact⟨C,o,vs,h0,h1,(k b _ h2).resolve_right (λ⟨_,e⟩=>nomatch e),h3⟩
def set_same {σ:St}  (Km:σ[i]? = Δ (Δ v)):σ.set i (Δ v)=σ:=by
 apply List.ext_getElem?;intro j;rw[List.getElem?_set];by_cases hj:i=j
 ·subst hj;rw[h_ rfl,h_ (x_.mp Km).1,Km]
 ·rw[f_ hj]
def A6 (q:IP ex (II (Lv r0) (qY i τ)) Kt):∃rows',r0=.ok (.tup [.JF,.lst Θ rows'])/\Kt (.nx (τ.set i (Δ (.lst Θ rows')))):=by
 cases zc:r0 with
 |error er=>rw[zc]at q;exact q.no.elim
 |ok rr=>
  rw[zc]at q;have q3:IP ex (qY i τ rr) Kt:=q;unfold qY at q3;split at q3
  ·exact⟨_,rfl,q3.ok⟩
  ·exact q3.no.elim
def LP (g:JR Z CX cl xp X ex G)  {st:Stmt}(h:(T6 st λe=>NG e λfe args _=>Lg (λxf=>jl Z G f xf&&Z.LO.contains f&&G.cm&&iZ Z G (es++.v i::es2) args&&decide (es.length=2)&&!(ie es++ie es2).contains i) fe)=Θ) :
  PS X st (RS X.K G.io ex (K1 cl (.P6 f es i es2))):=by
 obtain⟨e,pos,rfl,h1⟩:=sW h;clear h;obtain⟨fe,args,cp,rfl,h2⟩:=j5 h1;clear h1;obtain⟨xf,fp,rfl,h⟩:=iY h2;clear h2;simp only[d_]at h;obtain⟨⟨⟨⟨⟨hf,Xu⟩,LC⟩,JY⟩,h2⟩,R4⟩:=h;have R4:(ie es++ie es2).contains i=Ξ:=by simpa using R4
 refine ju (lV (rF (p:=fp) (pos:=cp) (es2:=es2) g hf (by simpa using Xu) LC JY)) λDn σ H JG=>?_;obtain⟨B,F,τ,fo,m,q⟩:=JG;have q0:IP ex (match ic τ i with|some (.lst Θ ds)=>II (iG cl es τ) λas=>II (iG cl es2 τ) λbs=>II (Lv (cl f (Jz as++.lst Θ (ds.map l8)::Jz bs))) (qY i (JQ (ie es++ie es2) τ))|_=>JE) (Fk X.K B Dn):=q;clear q;obtain⟨ds,zs,q1⟩:∃ds,ic τ i=Δ (.lst Θ ds)/\IP ex (II (iG cl es τ) λas=>II (iG cl es2 τ) λbs=>II (Lv (cl f (Jz as++.lst Θ (ds.map l8)::Jz bs))) (qY i (JQ (ie es++ie es2) τ))) (Fk X.K B Dn):=by
  cases z:ic τ i with
  |none=>rw[z]at q0;exact q0.no.elim
  |some dd=>
   rw[z]at q0
   induction dd using zD with
   |lst ow ds=>
    induction ow using zB with
    |false=>exact q0.no.elim
    |true=>exact⟨ds,rfl,q0⟩
   |_=>exact q0.no.elim
 obtain⟨F1,gg,b1,b2,b3,b4,b5,b6⟩:=lj (ie es++ie es2) m.JM m.Ko m.JX;have zf:ic (JQ (ie es++ie es2) τ) i=Δ (.lst Θ ds):=(oO (ie es++ie es2) τ 0 i (by rw[Nat.zero_add];exact R4)).trans zs;obtain⟨v0,_,_,Km,_,_,_⟩:=b2.at zf;refine td (Kt:=λas bs=>IP ex (II (Lv (cl f (Jz as++.lst Θ (ds.map l8)::Jz bs))) (qY i (JQ (ie es++ie es2) τ))) (Fk X.K B Dn)) Km b6.right es (.refl _) b6.left ((IP.II q1).mono λas q2=>IP.II q2) λas ws bs us H2 e2 _ ms Uc hl q2=>?_;obtain⟨c1,c2,c3⟩:=grow (λ_=>True) b1 b2 e2;have m2:Kf X.K B (λb=>F1 b∨(True/\H b=Φ/\H2 b≠Φ)) H2 σ (JQ (ie es++ie es2) τ) gg:=m.LU (b4.trans c3 (λx hx=>.inl (b5 x hx))) c1 c2 b3 λb hb=>.inl (b5 b hb);obtain⟨F2,ZJ⟩:∃F2,F2=λb=>F1 b∨(True/\H b=Φ/\H2 b≠Φ):=⟨_,rfl⟩
 have Ug:∀ {vs:Ñ}{ds:Ð},IM X.K (nw F1 H) H2 vs ds->IM X.K F2 H2 vs ds:=λms=>by rw[ZJ];exact ms.step (λb xs h r=>⟨h.elim (λz=>.inl z) λz=>.inr ⟨trivial,z,r.some⟩,r⟩) λb xs h=>h
 rw[<- ZJ]at c1 c2 m2;obtain⟨rows',RE,q3⟩:=A6 q2;obtain⟨v,fv,g1,M6,h3,hr,hp⟩:=c2.at zf;rw[Km]at M6;cases M6;cases h3 with
 | @JU a xs _ fi hF hH hm=>
  have nd:((a::fi)++g1).Nodup:=hp.nodup_iff.mp b3;have QY:=n_.mp nd;have na:=G_.mp QY.1;obtain⟨fl,hs,hmr⟩:=rH hm na.2;have own:=hm.own;have F3a:¬(F2 a∨(a∈fi/\a∉fl)):=λz=>z.elim hF λy=>na.1 y.1;have mg:∀b∈a::fl,b∈a::fi:=λb hb=>(k_.mp hb).elim (λz=>by rw[z];exact aaf ..) λz=>H_ _ (hs.subset z);have up:∀ {vs:Ñ}{ds:Ð},IM X.K F2 H2 vs ds->IM X.K (λb=>F2 b∨(b∈fi/\b∉fl)) H2 vs ds:=λz=>z.mono (λ_ y=>.inl y) (.refl _);refine⟨a,λb=>F2 b∨(b∈fi/\b∉fl),ws,us,as,bs,ds.map l8,a::fl,rfl,⟨by rw[hl];exact l_ h2,λb hb=>?_,up (Ug ms),up (Ug Uc),.JU F3a hH hmr,G_.mpr ⟨λz=>na.1 (hs.subset z),na.2.sublist hs⟩⟩,rows',RE,λH' F' L9 o=>?_⟩
  ·rcases hb with hb|hb
   ·exact c1 b hb
   ·obtain⟨_,u,hu⟩:=own b hb.1;rw[hu];simp
  ·-- Of frame behind Of call
   have Xv:∀b∈a::fi,¬F2 b/\∃u,H2 b=Δ u:=λb hb=>(k_.mp hb).elim (λz=>by rw[z];exact⟨hF,_,hH⟩) λz=>own b z;have kp:∀b,b∉a::fi->∀u,H2 b=Δ u->H' b=Δ u:=λb hb u hu=>(o.keep b u hu).resolve_right λz=>hb (mg b z.1);have nF:∀b,F2 b->b∉a::fi:=λb hb z=>(Xv b z).1 hb;have sl:∀b (u:LD),F2 b->Rd H2 b u.o->F' b/\Rd H' b u.o:=λb u hb r=>⟨o.Lh b (.inl hb),A5 (kp b (nF b hb)) r⟩
   have st:∀b xs,J8 X.K H2 b xs->J8 X.K H' b xs:=λb xs r=>yi (λb u hu=>(o.keep b u hu).imp_right (·.2)) r;have ng:∀b∈g1,b∉a::fi:=λb hb z=>QY.2.2 b z b hb rfl
   have r1:JT X.K F' H' σ ((JQ (ie es++ie es2) τ).set i Φ) g1:=hr.step sl st λb hb n z=>⟨λy=>(o.out b y).elim (λw=>w.elim n λw=>ng b hb (H_ _ w.1)) z,by
    cases hu:H2 b with
    |none=>exact absurd hu z
    |some u=>exact kp b (ng b hb) u hu⟩
   obtain⟨g',h',r2,p2⟩:=r1.put i o.rep;rw[set_same Km,List.set_set]at r2;have nfl:∀b∈L9,b∉g1:=λb hb hg=>(o.old b hb).elim (λz=>ng b hg (mg b z)) λz=>by obtain⟨_,u,hu⟩:=hr.own b hg;rw[z]at hu;cases hu
   have OD:(g'++h').Nodup:=p2.nodup_iff.mpr (n_.mpr ⟨o.JX,QY.2.1,λb h1 c h2 e=>nfl b h1 (e ▸ h2)⟩);have oB:∀b∈a::fi,B.H b=Φ:=λb hb=>m2.own b (hp.mem_iff.mpr (p_ _ hb));refine q3 σ H' F' g' ⟨o.JM,r2,(n_.mp OD).1,λb u hb=>?_,λb hb=>?_,λb hb=>o.Lh b (.inl (m2.Lh b hb)),λb hb=>?_,λb xs hb=>⟨(sl b xs (m2.pin b xs hb).1 (m2.pin b xs hb).2).1,(sl b xs (m2.pin b xs hb).1 (m2.pin b xs hb).2).2⟩,λb xs hb=>st b xs (m2.N0 b xs hb),m2.nm⟩
   ·exact kp b (λz=>by rw[oB b z]at hb;cases hb) u (m2.same b u hb)
   ·rcases t_.mp (p2.mem_iff.mp (p_ _ hb)) with z|z
    ·exact(o.old b z).elim (λy=>oB b (mg b y)) λy=>m2.same.free y
    ·exact m2.own b (hp.mem_iff.mpr (r_ _ z))
   ·rcases o.out b hb with z|z
    ·rcases z with z|z
     ·exact m2.out b z
     ·exact .inr (oB b (H_ _ z.1))
    ·exact .inr (m2.same.free z)
def DU {σ:St}  (Km:σ[i]? = Δ (Δ v)):σ.set i (Δ v)=σ:=by
 apply List.ext_getElem?;intro j;rw[List.getElem?_set];by_cases hj:i=j
 ·subst hj;rw[h_ rfl,h_ (x_.mp Km).1,Km]
 ·rw[f_ hj]
def IT.part {K:Frag}  : ∀(ds:Ð) (k:Nat) (vs:Ñ) (f:Î),IT K F H vs ds f->ds[k]? = Δ (.lst Θ es)->∃l xs fi p q,vs[k]? = Δ (.ref l)/\¬F l/\H l=Δ (.lst xs)/\IT K F H xs es fi/\f=p++((l::fi)++q)/\
  ∀(H':Hp) (es':Ð),(∀a (u:LD),F a->Rd H a u.o->F a/\Rd H' a u.o)->(∀a xs,J8 K H a xs->J8 K H' a xs)->(∀a∈p++q,H' a=H a)->JB K F H' (.ref l) (.lst Θ es') (l::fi)->IT K F H' vs (ds.set k (.lst Θ es')) f:=by
 intro ds
 induction ds with
 |nil=>intro k vs f h hk;simp at hk
 |cons d ds ih=>
  intro k vs f h hk;cases h with
  | @cons v _ f0 U9 _ g0 h1 h2=>
   cases k with
   |zero=>
    rw[List.getElem?_cons_zero]at hk;cases hk;cases h1 with
    | @JU a xs _ fi hF hH hm=>refine⟨a,xs,fi,[],g0,rfl,hF,hH,hm,rfl,λH' es' sl st k m=>?_⟩;exact .cons m (h2.step sl st λb hb n _=>⟨n,k b (by simpa using hb)⟩)
   |succ k=>rw[aaE]at hk;obtain⟨l,xs,fi,p,q,a1,a2,a3,a4,a5,a6⟩:=ih k U9 g0 h2 hk;refine⟨l,xs,fi,f0++p,q,by rw[aaE];exact a1,a2,a3,a4,by rw[a5,E_],λH' es' sl st k m=>?_⟩;exact .cons (h1.step sl st λb hb n _=>⟨n,k b (p_ _ (p_ _ hb))⟩) (a6 H' es' sl st (λb hb=>k b ((t_.mp hb).elim (λz=>p_ _ (r_ _ z)) λz=>r_ _ z)) m)
def Kf.OF {K:Frag}  (m:Kf K B F H σ τ f)(zs:ic τ i=Δ (.lst Θ ds))(hk:ds[k]? = Δ (.lst Θ es))(lf:ij es=Θ)(Xw:ij es'=Θ) :
  ∃a l xs ys,σ[i]? = Δ (Δ (.ref a))/\H a=Δ (.lst xs)/\xs[k]? = Δ (.ref l)/\xs.length=ds.length/\H l=Δ (.lst ys)/\ys.length=es.length/\IM K (λ_=>True) H ys es/\
   ∀zs,IM K (λ_=>True) H zs es'->∃f',Kf K B F (upd H l (.lst zs)) σ (τ.set i (Δ (.lst Θ (ds.set k (.lst Θ es'))))) f':=by
 obtain⟨v,fs,g,Km,h2,hr,h4⟩:=m.Ko.at zs;cases h2 with
 | @JU a xs Zv fi hF hH hm=>
  obtain⟨l,ys,fj,p,q,b1,b2,b3,b4,b5,put⟩:=IT.part ds k xs fi hm hk;have ej:=b4.noF lf;subst ej;refine⟨a,l,xs,ys,Km,hH,b1,hm.length,b3,b4.length,b4.read (λ_ _=>trivial) λ_ _=>trivial,λzs hz=>?_⟩;subst b5;have Vq:((a::(p++([l]++q)))++g).Nodup:=h4.nodup_iff.mp m.JX;have pm:((a::(p++([l]++q)))++g).Perm (l::(a::(p++q++g))):=by simp only[c_,E_,List.nil_append];refine(List.Perm.cons a List.perm_middle).trans ?_;exact List.Perm.swap _ _ _
  have nl:l∉a::(p++q++g):=(G_.mp (pm.nodup_iff.mp Vq)).1;have al:a≠l:=λz=>nl (by rw[z];exact k_.mpr (.inl rfl));have sl:∀b (u:LD),F b->Rd H b u.o->F b/\Rd (upd H l (.lst zs)) b u.o:=λb xs h r=>by refine⟨h,?_⟩;have:b≠l:=λz=>b2 (by rw[<- z];exact h);unfold Rd;rw[ib this];exact r
  have st:∀b xs,J8 K H b xs->J8 K (upd H l (.lst zs)) b xs:=λb xs h=>h.upd b3;have r1:JT K F (upd H l (.lst zs)) σ (τ.set i Φ) g:=hr.step sl st λb ha n _=>⟨n,ib λz=>nl (by rw[<- z];exact H_ _ (r_ _ ha))⟩
  have mz:IT K F (upd H l (.lst zs)) zs es' []:=(IM.free Xw hz).step sl st jG;have m0:JB K F (upd H l (.lst zs)) (.ref l) (.lst Θ es') [l]:=.JU b2 il mz;have m1:JB K F (upd H l (.lst zs)) (.ref a) (.lst Θ (ds.set k (.lst Θ es'))) (a::(p++([l]++q))):=.JU hF (by rw[ib al];exact hH) (put _ _ sl st (λb hb=>ib λz=>nl (by rw[<- z];exact H_ _ (p_ _ hb))) m0);obtain⟨g',h',r2,p2⟩:=r1.put i m1;rw[DU Km,List.set_set]at r2;have OD:(g'++h').Nodup:=p2.nodup_iff.mpr Vq;have lB:B.H l=Φ:=m.own l (h4.mem_iff.mpr (by simp));refine⟨g',λb h=>?_,r2,(n_.mp OD).1,λb o QX=>?_,λb ha=>?_,m.Lh,m.out,λb xs h=>⟨(m.pin b xs h).1,(sl b xs (m.pin b xs h).1 (m.pin b xs h).2).2⟩,λb xs h=>st b xs (m.N0 b xs h),m.nm⟩
  ·have:b≠l:=λz=>b2 (by rw[<- z];exact h);rw[ib this];exact m.JM b h
  ·have:b≠l:=λz=>by rw[z,lB]at QX;cases QX
   rw[ib this];exact m.same _ _ QX
  ·exact m.own b (h4.mem_iff.mpr (p2.mem_iff.mp (p_ _ ha)))
section
variable {K:Frag}{io:Ã}{B:Bs io}{F:Ç}{H:Hp}{σ:St}{τ:Ev}{f:Î}
def mD (r:JT K F H σ τ f)  (hv:IU K (λ_=>True) H v d)(j:Nat):Slots K (λ_=>True) H (σ.set j (Δ v)) (τ.set j (Δ d)) is:=λa ha d' z=>by
 by_cases hj:j=a
 ·subst hj;rw[jC]at z;by_cases hl:j < τ.length
  ·rw[h_ ⟨rfl,hl⟩]at z;cases z;exact⟨v,List.getElem?_set_self (by rw[r.len];exact hl),hv⟩
  ·rw[f_ (λz=>hl z.2)]at z;obtain⟨_,_,_,h,_⟩:=r.at z;have:=(x_.mp h).1;rw[r.len]at this;exact absurd this hl
 ·rw[jC,f_ (λz=>hj z.1)]at z;obtain⟨v',h1,h2⟩:=iN (is:=[a]) r a (v_.mpr rfl) d' z;exact⟨v',by rw[Q_ hj];exact h1,h2⟩
theorem JT.forget:∀ {σ:St}{τ:Ev}{f:Î} (j:Nat) (o:Option V),JT K F H σ τ f->∃g h,JT K F H (σ.set j o) (τ.set j Option.none) g/\(g++h).Perm f
 |_,_,_,_,_,.nil=>⟨[],[],.nil,.refl _⟩
 |_,_,_,0,_,.none h=>⟨_,[],.none h,by rw[P_]⟩
 |_,_,_,0,_,.some (f:=f0) (g:=g0) m h=>⟨g0,f0,.none h,aal⟩
 |_,_,_,j+1,o,.none h=>by obtain⟨g,h',h1,h2⟩:=JT.forget j o h;exact⟨g,h',.none h1,h2⟩
 |_,_,_,j+1,o,.some (f:=f0) (g:=g0) m h=>by obtain⟨g,h',h1,h2⟩:=JT.forget j o h;exact⟨f0++g,h',.some m h1,by rw[E_];exact aak f0 h2⟩
theorem Kf.forget (m:Kf K B F H σ τ f)(j:Nat)(o:Option V)(hj:io≠Δ j):∃f',Kf K B F H (σ.set j o) (τ.set j Φ) f':=by
 obtain⟨g,h,r,p⟩:=m.Ko.forget j o;have nd:(g++h).Nodup:=p.nodup_iff.mpr m.JX
 exact⟨g,m.JM,r,(n_.mp nd).1,m.same,λa ha=>m.own a (p.mem_iff.mp (p_ _ ha)),m.Lh,m.out,m.pin,m.N0,λj' a e1 e2=>by
  rw[Q_ (λz=>hj (by rw[z];exact e1))]
  exact m.nm j' a e1 e2⟩
end
theorem uB:∀ {τ:Ev}{j:Nat},nG τ j=Θ->j < τ.length
 |[],_,h=>by cases h
 |_::_,0,_=>Nat.succ_pos _
 |_::τ,j+1,h=>Nat.succ_lt_succ (uB (τ:=τ) h)
theorem IM.Uh {K:Frag}  (hv:IU K S H v d):∀ {vs:Ñ}{ds:Ð} (t:Nat),IM K S H vs ds->IM K S H (vs.set t v) (ds.set t d)
 |_,_,_,.nil=>.nil
 |_,_,0,.cons h1 h2=>.cons hv h2
 |_,_,t+1,.cons h1 h2=>.cons h1 (IM.Uh hv t h2)
theorem uC (hd:iw d=Θ):∀ {ds:Ð} (t:Nat),ij ds=Θ->ij (ds.set t d)=Θ
 |[],_,h=>h
 |e::ds,0,h=>by have h':=s_.mp (show(iw e&&ij ds)=Θ from h);show(iw d&&ij ds)=Θ;rw[hd,h'.2];rfl
 |e::ds,t+1,h=>by have h':=s_.mp (show(iw e&&ij ds)=Θ from h);show(iw e&&ij (ds.set t d))=Θ;rw[h'.1,uC hd t h'.2];rfl
def yj (hd:iw d=Θ)  (h:ij ds=Θ):ij (ds++[d])=Θ:=by rw[jw]at h ⊢;rw[List.all_append,h];show(iw d&&Θ)=Θ;rw[hd];rfl
def A7 (g:JR Z CX cl xp X ex G)  (h:uw Z G i j e c x v w s s'=Θ)(hr:LL X ss (RS X.K G.io ex (iD cl as))):LL X (s::s'::ss) (RS X.K G.io ex (iD cl (.Ph i j e c x v w::as))):=by
 unfold uw at h;rw[d_]at h;obtain⟨ha,hb⟩:=h;obtain⟨t,xi,p1,se,sp,Xx,rfl,Qa⟩:=DI ha;obtain⟨ce,y,p2,sx,sp2,ve,vp,y',p3,name,apos,we,JL,ep,acM,rfl,Nj⟩:=DL hb;simp only[d_]at Qa Nj;obtain⟨⟨⟨⟨⟨hn,hT⟩,hi⟩,hse⟩,he⟩,ZK⟩:=Qa;obtain⟨⟨⟨⟨⟨⟨⟨⟨⟨hc,hj1⟩,hsx⟩,hx⟩,hv⟩,R8⟩,Q4⟩,hli⟩,JY⟩,hw⟩:=Nj;have ZK:i≠j:=l_ ZK;have en:=g_ Q4;subst en;obtain⟨yt,py,rfl⟩:=Zw hn;have LG:(G.N[j]? == Δ yt&&(G.kd[j]? == Δ .local||(G.df&&G.kd[j]? == Δ .cell)))=Θ:=(s_.mp hT).1;have Xy:G.io≠Δ j:=by simpa using(s_.mp hT).2
 rw[d_,J_,d_]at LG;have ZL:G.N[j]? = Δ yt:=g_ LG.1;have hk:=g.kd j yt ZL;have M7:Loc X.env.scope yt:=LG.2.elim (λz=>.inl (hk.trans (g_ z))) λz=>.inr (hk.trans (g_ z.2));have N9:X.fn yt=Θ∨X.env.scope.names.lookup yt=Δ .local:=LG.2.elim (λz=>.inr (hk.trans (g_ z))) λz=>.inl (g.df z.1 yt);have P1:PS X (.Assign [.Name yt py] (.Subscript (.Name xi p1) se sp) Xx) _:=p9 (i:=j) (by rw[g.N];exact g.JX) (by rw[g.N];exact ZL) M7 (tX nH (kZ g hi) (snd e X ex G se g he).1 (Xl hse)) rfl N9;have Pa:PS X (.Assign [.Subscript (.Name y p2) sx sp2] ve vp) _:=Zy (snd v X ex G ve g hv).1 (Xm (kZ g hj1) (snd x X ex G sx g hx).1 set_list hsx);have pa:PA X [we] (lE (RD X.K ex (vars w) (IV cl w)) sh):=iB (snd w X ex G we g hw).1 i9 (ia JY _ _);have MR:((backTo JL (Ν [we] X.env)).all (λx=>!x.1)&&(backToKw JL (keywordEach [] X.env)).all (λx=>x.1.isSome)&&decide ([we].length+([]:List Keyword).length+(if([]:List Keyword).isEmpty then 0 else 1) < 30))=Θ:=by rw[ia JY];rfl
 have Pb:PS X (.Expr (.Call (.Attribute (.Name y' p3) "append" apos) [we] [] JL) ep) _:=lV (wz PySem.F.plainAttrs_list PySem.F.slot_list_append PySem.F.type_list_append mL (kZ g R8) pa rfl MR hli (ia JY _ _) rfl);refine jO (jj P1 (jj (tQ (snd c X ex G ce g hc).2 (jj Pa jM) (jj Pb jM)) hr)) λDn σ H JG=>?_;obtain⟨B,F,τ,f,m,q⟩:=JG;have q00:=IP.II (show IP ex (II (xj cl i j e c x v w τ (ic τ i)) λfl=>match fl with|.nx τ'=>iD cl as τ'|.ct τ'=>.ok (.ct τ')|.bk τ'=>.ok (.bk τ')|.rt d=>.ok (.rt d)) (Fk X.K B Dn) from q);obtain⟨KK,ZM,q0⟩:∃KK:Fl->Prop,(∀τ',KK (.nx τ')->IP ex (iD cl as τ') (Fk X.K B Dn))/\IP ex (xj cl i j e c x v w τ (ic τ i)) KK:=⟨_,λτ' z=>z,q00⟩
 cases zs:ic τ i with
 |none=>rw[zs]at q0;exact q0.no.elim
 |some dd=>
  rw[zs]at q0
  induction dd using zD with
  |lst ow ds=>
   induction ow using zB with
   |false=>exact q0.no.elim
   |true=>
    have q1:=IP.II (show IP ex (II (IV cl e τ) (Aw cl i j c x v w ds τ)) KK from q0);obtain⟨l0,ZN,Km,WM,hlen⟩:=yb m.Ko zs;refine⟨.ref l0,Km,m.rd q1 λyv wv H1 m1 e1 mw q2=>?_⟩
    induction yv using zD with
    |int z=>
     cases mw.JN;have q2:IP ex (sJ cl i j c x v w ds τ (Kv ds.length z)) KK:=q2;cases Xz:Kv ds.length z with
     |none=>rw[Xz]at q2;exact q2.no.elim
     |some k=>
      rw[Xz]at q2;cases Qc:ds[k]? with
      |none=>unfold sJ at q2;simp only[Qc]at q2;exact q2.no.elim
      |some dk=>
       have q3:IP ex (match(Δ dk:Å) with|some (.lst Θ es)=>JA (ij es&&nG τ j) (II (II (IV cl c (τ.set j (Δ (.lst Θ es)))) iK) (vF cl i j k x v w ds es τ))|_=>JE) KK:=by unfold sJ at q2;simp only[Qc]at q2;exact q2
       induction dk using zD with
       |lst ow es=>
        induction ow using zB with
        |false=>exact q3.no.elim
        |true=>
         obtain⟨XA,q4⟩:=IP.JA q3;rw[d_]at XA;have Ui:=XA.1;have hjl:j < σ.length:=by rw[m.Ko.len];exact uB XA.2
         obtain⟨a,l,xs,ys,b1,b2,b3,b4,b5,b6,b7,_⟩:=m1.OF (es':=es) zs Qc Ui Ui;rw[Km]at b1;cases b1;have XB:IU X.K (λ_=>True) H1 (.ref l) (.lst Θ es):=.lst trivial (.inl b5) b7;refine⟨l0,xs,z,.ref l,rfl,rfl,.inl (.inl b2),?_,?_⟩
         ·unfold KQ;rw[b4,Xz];exact b3
         ·have q5:=IP.II q4;refine kR (.refl _) (mD m1.Ko XB j) q5 λr H2 e2 _ q6=>?_;have m2:=m1.grow e2;have Q5:IU X.K (λ_=>True) H2 (.ref l) (.lst Θ es):=XB.mono (λ_ z=>z) e2;have P8:H2 l=Δ (.lst ys):=e2 _ _ b5;have fin:∀(H3:Hp) (e3:ik H2 H3) (es':Ð) (Vv:Ñ),ij es'=Θ->IM X.K (λ_=>True) H3 Vv es'->IP ex (iD cl as ((τ.set i (Δ (.lst Θ (ds.set k (.lst Θ es'))))).set j Φ)) (Fk X.K B Dn)->RS X.K G.io ex (iD cl as) Dn (σ.set j (Δ (.ref l))) (upd H3 l (.lst Vv)):=by intro H3 e3 es' Vv Xw hz hq;have m3:=m2.grow e3;obtain⟨a',l',Y4,Th,c1,c2,c3,c4,c5,c6,c7,wr⟩:=m3.OF (es':=es') zs Qc Ui Xw;rw[Km]at c1;cases c1;rw[e3 _ _ (e2 _ _ b2)]at c2;cases c2;rw[b3]at c3;cases c3;obtain⟨f4,m4⟩:=wr Vv hz;obtain⟨f5,m5⟩:=m4.forget j (Δ (.ref l)) Xy;exact⟨B,F,_,f5,m5,hq⟩
          have ZO:(σ.set j (Δ (.ref l)))[j]? = Δ (Δ (V.ref l)):=List.getElem?_set_self hjl
          induction r using zB with
          |true=>
           have q6:IP ex (II (IV cl v (τ.set j (Δ (.lst Θ es)))) λd=>II (IV cl x (τ.set j (Δ (.lst Θ es)))) (Av i j k ds es τ d)) KK:=q6;refine iQ (.refl _) (mD m2.Ko Q5 j) (IP.II q6) λd vv H3 e3 _ mv q7=>?_;have m3:=m2.grow e3;refine⟨.ref l,ZO,iQ (.refl _) (mD m3.Ko (Q5.mono (λ_ z=>z) e3) j) (IP.II q7) λy4 w4 H4 e4 _ mw4 q8=>?_⟩
           induction y4 using zD with
           |int z4=>
            cases mw4.JN;unfold Av at q8;cases Q6:Kv es.length z4 with
            |none=>simp only[Q6]at q8;exact q8.no.elim
            |some t=>simp only[Q6]at q8;obtain⟨lfd,q9⟩:=IP.JA q8;refine⟨l,ys,z4,t,rfl,rfl,e4 _ _ (e3 _ _ P8),by rw[b6];exact Q6,?_⟩;exact fin H4 (e3.trans e4) (es.set t d) (ys.set t vv) (uC lfd t Ui) (IM.Uh (mv.mono (λ_ _=>trivial) e4) t (b7.mono (λ_ z=>z) (e2.trans (e3.trans e4)))) (ZM _ q9.ok)
           |_=>exact q8.no.elim
          |false=>have q6:IP ex (II (IV cl w (τ.set j (Δ (.lst Θ es)))) (Df i j k ds es τ)) KK:=q6;refine⟨.ref l,ZO,.inl ⟨rfl,ys,.inl (.inl P8)⟩,iQ (.refl _) (mD m2.Ko Q5 j) (IP.II q6) λd vv H3 e3 _ mv q7=>?_⟩;obtain⟨gd,q9⟩:=IP.JA (show IP ex (JA (iw d&&ke es.length) (.ok (.nx ((τ.set i (Δ (.lst Θ (ds.set k (.lst Θ (es++[d])))))).set j Φ)))) KK from q7);rw[d_]at gd;refine⟨l,ys,vv,rfl,rfl,e3 _ _ P8,by rw[b6];exact md gd.2,?_⟩;exact fin H3 e3 (es++[d]) (ys++[vv]) (yj gd.1 Ui) ((b7.mono (λ_ z=>z) (e2.trans e3)).append (.cons (mv.mono (λ_ _=>trivial) (.refl _)) .nil)) (ZM _ q9.ok)
       |_=>exact q3.no.elim
    |_=>exact q2.no.elim
  |_=>exact q0.no.elim
theorem pX {K:Frag}  : ∀(ps:Î),(∀p∈ps,¬F p/\H p=Δ (.lst []))->IT K F H (ps.map V.ref) (Τ ps.length (.lst Θ [])) ps
 |[],_=>.nil
 |p::ps,h=>by have h1:=h p (.head _);exact .cons (f:=[p]) (.JU h1.1 h1.2 .nil) (pX ps λq hq=>h q (.tail _ hq))
def OV (K:Frag)(ex:Æ)(cl:Ä)(s:Sr):TE:=λσ H Q=>∃S τ,Slots K S H σ τ (j9 s)/\IP ex (kl cl s τ) λits=>its.length < Ζ/\
 ∀(A:Ω) (ps:Î) (H':Hp),ik H H'->H A=Φ->H' A=Δ (.lst (ps.map V.ref))->ps.Nodup->A∉ps->(∀p∈ps,H p=Φ/\H' p=Δ (.lst []))->ps.length=its.length->Q (.ref A) H'
def yk (g:JR Z CX cl xp X ex G)  (hs:My Z G scope G' fr)(hT:jI G' (.nm t) tg=Θ)
  (hi:PI X tg iter (RI X.K ex (j9 s) (kl cl s))) (hf:∀x,foldedSetIterable iter X.env x=pure x):PE X (.ListComp (.List [] lp) [⟨tg,iter,[],0⟩] scope pos) (OV X.K ex cl s):=by
 intro pins s' σ H Q Iv h;obtain⟨KA,S⟩:=kv g Iv.ok hs;have p:=nJ (pos:=pos) (elt:=.List [] lp) (ifs:=[]) (tg:=tg) (g:=gT X.K (.nm t)) (tt:=RT X.K JW (ie []) (kj cl [])) (te:=E3 sh) (g.calm hs.cm) S hi (λC s H fp=>Oz (i3 g hs KA C s H fp) (.nm t) tg hT) (λC s H fp=>vO [] _ JW G' [] (i3 g hs KA C s H fp) rfl) (λC s H fp=>n8 i9) hf;refine p pins s' σ H Q Iv ?_;obtain⟨S0,τ,OB,q⟩:=h;refine AR (.refl _) OB q λits J H1 e1 _ w1 q1 A hA=>?_;obtain⟨hsz,q1⟩:=q1;have TV:H A=Φ:=e1.free hA;refine⟨λi m JD H'=>m=its.length - i/\i<=its.length/\∃ps:Î,H' A=Δ (.lst (ps.map V.ref))/\ps.length=i/\ps.Nodup/\A∉ps/\(∀p∈ps,H1 p=Φ/\H' p=Δ (.lst []))/\ik H1 H',⟨its.length,by simp,R_ _,[],il,rfl,List.nodup_nil,by simp,λp hp=>by simp at hp,.upd hA⟩,?_⟩;rintro i m JD H' ⟨rfl,hi,ps,a1,a2,a3,a4,a5,a6⟩;by_cases JZ:i < its.length
 ·refine .inr ⟨(w1.mono (λ_ z=>z) a6).go JZ,λx H2 TX=>?_⟩;obtain⟨eH,mx⟩:=(w1.mono (λ_ z=>z) a6).Ob TX (d:=its[i]) (by simp[JZ]);show RT X.K JW (ie []) (kj cl []) (JD.set t (Δ x)) H2 _;refine kR (S:=λ_=>True) (τ:=[]) (.refl _) (λk hk=>by simp[ie]at hk) (show IP JW (kj cl [] []) (λb=>b=Θ) from rfl) λb H4 e4 _ hb=>?_;subst hb;rw[h_ rfl];have eA:=e4 _ _ (eH _ _ a1);refine⟨by simp,λq hq=>?_⟩;have qA:q≠A:=λz=>by rw[z,eA]at hq;cases hq
  have ZP:q∉ps:=λz=>by rw[e4 _ _ (eH _ _ (a5 q z).2)]at hq;cases hq
  refine⟨ps.map V.ref,by rw[ib (Ne.symm qA)];exact eA,by rw[i_,a2];omega,its.length - (i+1),⋯,rfl,JZ,ps++[q],?_,by rw[u_,a2];rfl,?_,?_,λp hp=>?_,?_⟩
  ·rw[il,X_];rfl
  ·refine n_.mpr ⟨a3,by simp,λa ha b hb e=>?_⟩;rw[v_.mp hb]at e;exact ZP (e ▸ ha)
  ·intro z;rcases t_.mp z with z|z
   ·exact a4 z
   ·exact qA (v_.mp z).symm
  ·have hpA:p≠A:=by
    rcases t_.mp hp with z|z
    ·exact λy=>a4 (y ▸ z)
    ·rw[v_.mp z];exact qA
   rw[ib hpA];rcases t_.mp hp with z|z
   ·rw[ib (λ(y:p=q)=>ZP (y ▸ z))];exact⟨(a5 p z).1,e4 _ _ (eH _ _ (a5 p z).2)⟩
   ·rw[v_.mp z,il];exact⟨a6.free (eH.free (e4.free hq)),rfl⟩
  ·intro b o hb;have hbA:b≠A:=by rintro rfl;rw[hA]at hb;cases hb
   have hbq:b≠q:=by rintro rfl;rw[e4 _ _ (eH _ _ (a6 _ _ hb))]at hq;cases hq
   rw[ib hbA,ib hbq];exact e4 _ _ (eH _ _ (a6 _ _ hb))
 ·have e:i=its.length:=⋯
  subst e;exact .inl ⟨(w1.mono (λ_ z=>z) a6).stop rfl,q1 A ps H' (e1.trans a6) TV a1 a3 a4 (λp hp=>⟨e1.free (a5 p hp).1,(a5 p hp).2⟩) a2⟩
def ID (g:JR Z CX cl xp X ex G)  {st:Stmt}(h:Vp st (λtg e=>isName tg&&jI G (.nm j) tg&&JK Z G (.comp G' fr (.nm t) src [] (.lst [])) e)=Θ) :
  PS X st (RS X.K G.io ex (K1 cl (.RL j G' fr t src))):=by
 obtain⟨tgt,e,lp,lq,bp,pos,rfl,h0⟩:=DH h;simp only[d_]at h0;obtain⟨⟨hn,hT⟩,hc⟩:=h0
 induction e using zE with
 |ListComp el gens scope NL=>
  have hv:xI gens (λt' it fs=>kr Z G scope G' fr&&jI G' (.nm t) t'&&(Lf (.nm t)).all (λi=>decide (fr.length<=i))&&(kM Z G src it&&pF src t')&&iZ Z G' [] fs&&JK Z G' (.lst []) el)=Θ:=hc;obtain⟨t',it,fs,rfl,MI⟩:=mh hv;simp only[d_]at MI;obtain⟨⟨⟨⟨⟨k1,k2⟩,k3⟩,k4,k5⟩,k6⟩,k7⟩:=MI
  induction fs using zL with
  |cons _ _=>exact ip k6
  |nil=>
  induction el using zE with
  |List l XC=>
   induction l using zL with
   |cons _ _=>exact ip k7
   |nil=>
   induction tgt using zE with
   |Name y py=>
    have LG:(G.N[j]? == Δ y&&(G.kd[j]? == Δ .local||(G.df&&G.kd[j]? == Δ .cell)))=Θ:=(s_.mp hT).1;have Xy:G.io≠Δ j:=by simpa using(s_.mp hT).2
    rw[d_,J_,d_]at LG;have hx:G.N[j]? = Δ y:=g_ LG.1;have hk:=g.kd j y hx;have M7:Loc X.env.scope y:=LG.2.elim (λz=>.inl (hk.trans (g_ z))) λz=>.inr (hk.trans (g_ z.2));have N9:X.fn y=Θ∨X.env.scope.names.lookup y=Δ .local:=LG.2.elim (λz=>.inr (hk.trans (g_ z))) λz=>.inl (g.df z.1 y);have pe:=yk (lp:=XC) (pos:=NL) g (ml k1) k2 (vP src X ex G it t' g k4 k5) (λx=>jx k4 X.env x);refine ju (p9 (i:=j) (by rw[g.N];exact g.JX) (by rw[g.N];exact hx) M7 (wo (pos:=bp) qm pe (n8 (pos:=lq) (iB (n8 (pos:=lp) i9) i9 (ia (e:=.List [] lp) rfl _ _)))) rfl N9) λDn σ H hh=>?_;obtain⟨B,F,τ,f,m,q⟩:=hh;have q0:IP ex (II (kl cl src τ) (Au j τ)) (Fk X.K B Dn):=q;refine⟨λ_=>True,τ,iN m.Ko,(IP.II q0).mono λits q1=>?_⟩;obtain⟨gd,q1⟩:=IP.JA (show IP ex (JA (ke its.length) (.ok (.nx (τ.set j (Δ (.lst Θ (Τ (its.length+1) (.lst Θ [])))))))) (Fk X.K B Dn) from q1);have hsz:=md gd;refine⟨hsz,λA ps H1 e1 hA hA1 nd nA Uj hlen=>?_⟩;refine⟨R_ _,λr hr=>⟨(by show 1<=Ζ;decide),λA2 hA2=>?_⟩⟩;have e2:ik H1 (upd H1 r (.lst [])):=.upd hr;have e3:ik (upd H1 r (.lst [])) (upd (upd H1 r (.lst [])) A2 (.lst [.ref r])):=.upd hA2;refine⟨A,A2,ps.map V.ref,[.ref r],rfl,rfl,.inl (.inl (e3 _ _ (e2 _ _ hA1))),.inl (.inl il),by rw[i_,hlen];show its.length+1<=_;omega,λA3 R9=>?_⟩;have e4:ik (upd (upd H1 r (.lst [])) A2 (.lst [.ref r])) (upd (upd (upd H1 r (.lst [])) A2 (.lst [.ref r])) A3 (.lst (ps.map V.ref++[.ref r]))):=.upd R9;have XD:=e1.trans (e2.trans (e3.trans e4));have m1:=m.grow XD;have ZQ:H r=Φ:=e1.free hr;have ZT:H A3=Φ:=(e1.trans (e2.trans e3)).free R9;have nF:∀b,H b=Φ->¬F b:=λb hb z=>m.JM b z hb;have rH1:r∉ps:=λz=>by rw[(Uj r z).2]at hr;cases hr
    have XF:A3∉ps:=λz=>by rw[e3 _ _ (e2 _ _ (Uj A3 z).2)]at R9;cases R9
    have a3r:A3≠r:=λz=>by rw[z,e3 _ _ il]at R9;cases R9
    have mv:JB X.K F (upd (upd (upd H1 r (.lst [])) A2 (.lst [.ref r])) A3 (.lst (ps.map V.ref++[.ref r]))) (.ref A3) (.lst Θ (Τ (its.length+1) (.lst Θ []))) (A3::(ps++[r])):=by
     refine .JU (nF A3 ZT) il ?_;have:=pX (K:=X.K) (F:=F) (H:=upd (upd (upd H1 r (.lst [])) A2 (.lst [.ref r])) A3 (.lst (ps.map V.ref++[.ref r]))) (ps++[r]) λp hp=>by
      rcases t_.mp hp with z|z
      ·exact⟨nF p (Uj p z).1,e4 _ _ (e3 _ _ (e2 _ _ (Uj p z).2))⟩
      ·rw[v_.mp z];exact⟨nF r ZQ,e4 _ _ (e3 _ _ il)⟩
     rw[X_,u_,hlen]at this;exact this
    have Qd:∀b∈A3::(ps++[r]),H b=Φ:=λb hb=>by
     rcases k_.mp hb with rfl|hb
     ·exact ZT
     ·rcases t_.mp hb with z|z
      ·exact(Uj b z).1
      ·rw[v_.mp z];exact ZQ
    have QY:(A3::(ps++[r])).Nodup:=by rw[G_];refine⟨λz=>(t_.mp z).elim XF λz=>a3r (v_.mp z),n_.mpr ⟨nd,by simp,λa ha b hb e=>?_⟩⟩;rw[v_.mp hb]at e;exact rH1 (e ▸ ha)
    obtain⟨f5,m5⟩:=m1.put j mv (n_.mpr ⟨QY,m.JX,λa ha b hb e=>by
     subst e;obtain⟨_,u,hu⟩:=m.Ko.own a hb;rw[Qd a ha]at hu
     cases hu⟩) (λb hb=>m.same.free (Qd b hb)) Xy
    exact q1.ok _ _ _ _ m5
   |_=>cases hn
  |_=>exact ip k7
 |_=>exact ip hc
section
variable {Z:Sg}{CX:Mp}{cl:Ä}{xp:Ö}{X:Cx}{ex:Æ}{G:Gm}
def IE (g:JR Z CX cl xp X ex G)  (h1:lD G i x=Θ)(h2:(apos.endLine == JL.line)=Θ)(h3:notStar v=Θ)(h4:JK Z G e v=Θ) :
  PS X (.Expr (.Call (.Attribute (.Name x p) "append" apos) [v] [] JL) pos) (RS X.K G.io ex (K1 cl (.app i e))):=by
 have pa:PA X [v] (lE (RO X.K ex (Kx cl Ξ e)) sh):=iB (QU e Ξ X ex G v g h4) i9 (ia h3 _ _);have MR:((backTo JL (Ν [v] X.env)).all (λx=>!x.1)&&(backToKw JL (keywordEach [] X.env)).all (λx=>x.1.isSome)&&decide ([v].length+([]:List Keyword).length+(if([]:List Keyword).isEmpty then 0 else 1) < 30))=Θ:=by rw[ia h3];rfl
 refine ju (lV (wz PySem.F.plainAttrs_list PySem.F.slot_list_append PySem.F.type_list_append mL (kZ g h1) pa rfl MR h2 (ia h3 _ _) rfl)) λDn σ H h=>?_;obtain⟨B,F,τ,f,m,q⟩:=h;have q0:IP ex (match ic τ i with|some (.lst _ _)=>(II (Kx cl Ξ e τ) λp=>(match ic p.2 i with|some (.lst Θ ds)=>JA (ke ds.length) (.ok (.nx (p.2.set i (Δ (.lst Θ (ds++[p.1]))))))|_=>JE))|_=>JE) (Fk X.K B Dn):=q;cases z0:ic τ i with
 |none=>rw[z0]at q0;exact q0.no.elim
 |some d0=>
  rw[z0]at q0
  induction d0 using zD with
  |lst o0 Zv=>
   obtain⟨v0,fv0,g0,a1,a2,a3,a4⟩:=m.Ko.at z0;have hq:∃l xs,v0=.ref l/\K2 X.K H l xs:=by
    cases a2 with
    |Mg _ b1 _=>exact⟨_,_,rfl,.inl b1⟩
    |lstK b1 _=>exact⟨_,_,rfl,b1.sq⟩
    |JU _ b1 _=>exact⟨_,_,rfl,.inl (.inl b1)⟩
   obtain⟨l,ZN,rfl,hq⟩:=hq;refine⟨.ref l,a1,.inl ⟨rfl,ZN,hq⟩,m.ro (IP.II q0) λp v H' F' fv f' o hp=>?_⟩;obtain⟨m',hb⟩:=m.ow o;cases zs:ic p.2 i with
   |none=>rw[zs]at hp;exact hp.no.elim
   |some d=>
    rw[zs]at hp
    induction d using zD with
    |lst ow ds=>
     induction ow using zB with
     |false=>exact hp.no.elim
     |true=>obtain⟨gd,hp⟩:=IP.JA hp;obtain⟨l',xs,Km,hl,hlen⟩:=yb m'.Ko zs;rw[a1]at Km;cases Km;obtain⟨Vm,m3⟩:=m'.write (ys:=xs++[v]) (ds':=ds++[p.1]) zs a1 hl o.rep o.JX hb λfi hm=>hm.snoc o.rep;exact⟨l,xs,v,rfl,rfl,hl,by rw[hlen];exact md gd,hp.ok _ _ _ _ m3⟩
    |_=>exact hp.no.elim
  |_=>exact q0.no.elim
def Fk.Uk {K:Frag}  (m:Kf K B F H σ τ f)(o:Ow K F H f F' H' σ v d fv τ' f'):Out K B.F B.H F' H' v d fv:=by obtain⟨m',hb⟩:=m.ow o;exact⟨m'.JM,m'.same,o.rep,(n_.mp o.JX).1,hb,m'.Lh,m'.out⟩
def IF (g:JR Z CX cl xp X ex G)  (h:JK Z G e v=Θ):PS X (.Return (Δ v) pos) (RS X.K G.io ex (K1 cl (.ret e))):=by refine ju (CA (QU e Θ X ex G v g h)) λDn σ H JG=>?_;obtain⟨B,F,τ,f,m,q⟩:=JG;exact m.ro (IP.II q) λp v H' F' fv f' o hp=>hp.ok _ _ _ _ (Fk.Uk m o)
def IG (g:JR Z CX cl xp X ex G)  (hc:mB v=Θ)(h:JK Z G e v=Θ):PS X (.Expr v pos) (RS X.K G.io ex (K1 cl (.exp e))):=by refine ju (lV (snd e X ex G v g h).1 (by induction v using zE<;>first|rfl|cases hc)) λDn σ H JG=>?_;obtain⟨B,F,τ,f,m,q⟩:=JG;exact m.rd (IP.II q) λd v H' m' _ _ hd=>hd.ok _ _ _ _ m'
def IL (hc:PT X c (RT X.K ex (vars t) λτ=>II (IV cl t τ) iK))(ha:LL X x (RS X.K G.io ex (iD cl a)))(hb:LL X y (RS X.K G.io ex (iD cl b))):PS X (.If c x y pos) (RS X.K G.io ex (K1 cl (.JV t a b))):=by
 refine ju (tQ hc ha hb) λDn σ H JG=>?_;obtain⟨B,F,τ,f,m,q⟩:=JG;refine m.rt (IP.II q) λr H' m' _ hr=>?_
 induction r using zB with
 |true=>rw[h_ rfl]at hr ⊢;exact⟨B,F,τ,f,m',hr⟩
 |false=>rw[f_ A_]at hr ⊢;exact⟨B,F,τ,f,m',hr⟩
def Kf.less {K:Frag}{io:Ã}{B:Bs io}{L:Ω->LD->Prop}{T:Ω->Ñ ⊕ Str->Prop}{F:Ç}{H:Hp}{σ:St}{τ:Ev}{f:Î}(m:Kf K (⟨B.F,B.H,λa xs=>B.L a xs∨L a xs,λa xs=>B.T a xs∨T a xs,B.N⟩:Bs io) F H σ τ f):Kf K B F H σ τ f:=
 ⟨m.JM,m.Ko,m.JX,m.same,m.own,m.Lh,m.out,λa xs h=>m.pin a xs (.inl h),λa xs h=>m.N0 a xs (.inl h),m.nm⟩
def rJ:∀(ds:Ð) (i:Nat),(Jz ds).drop i=Jz (ds.drop i):=by intro ds i;rw[i8,i8,List.map_drop]
def rK {J:It}{K:Frag}{io:Ã}{B:Bs io}{F:Ç}{H:Hp}{σ:St}{τ:Ev}{f:Î}{T:Tg}{body:Ì}{its:Ð}{Dn:Ends}(M5:∀j∈Lf T,io≠Δ j)(m:Kf K B F H σ τ f)(w:LJ K F H J its)
  (q:IP ex (forM (λx τ=>II (jq T x τ) λτ'=>iD cl body τ') (Jz its) τ) (Fk K B Dn)) :
  ∃W:Nat->Nat->St->Hp->Prop,(∃m,W 0 m σ H)/\∀i m σ H,W i m σ H->(J.stop i H/\Dn.nx σ H)∨(J.go i H/\∃N:St->Hp->Prop,(∀JD H',N JD H'->∃m',m' < m/\W (i+1) m' JD H')/\
   ∀x H',J.Ob i H x H'->gT K T x σ H' λLW H2=>RS K io ex (iD cl body) {Dn with nx:=N,ct:=N,bk:=Dn.nx} LW H2):=by
 let B':Bs io:=⟨B.F,B.H,λa xs=>B.L a xs∨(F a/\Rd H a xs.o),λa xs=>B.T a xs∨J8 K H a xs,B.N⟩
 have m0:Kf K B' F H σ τ f:=⟨m.JM,m.Ko,m.JX,m.same,m.own,m.Lh,m.out,λa xs h=>h.elim (m.pin a xs) id,λa xs h=>h.elim (m.N0 a xs) id,m.nm⟩
 let bd:D->Ev->Res Fl:=λx τ=>II (jq T x τ) λτ'=>iD cl body τ';refine⟨λi n σ H=>n=its.length - i/\i<=its.length/\∃F τ f,Kf K B' F H σ τ f/\IP ex (forM bd ((Jz its).drop i) τ) (Fk K B Dn),⟨its.length,by simp,R_ _,F,τ,f,m0,by rw[List.drop_zero];exact q⟩,?_⟩;rintro i n YD H1 ⟨rfl,hi,F1,Pj,f1,m1,q1⟩;have w1:LJ K F1 H1 J its:=w.step (λa xs h r=>m1.pin a xs (.inr ⟨h,r⟩)) λa xs h=>m1.N0 a xs (.inr h);by_cases JZ:i < its.length
 ·refine .inr ⟨w1.go JZ,λσ H=>∃F τ f,Kf K B' F H σ τ f/\IP ex (forM bd ((Jz its).drop (i+1)) τ) (Fk K B Dn),λJD H' h=>⟨its.length - (i+1),⋯,rfl,JZ,h⟩,λx H' y=>?_⟩;obtain⟨eH,mx⟩:=w1.Ob y (d:=its[i]) (by simp[JZ]);have m1:=m1.grow eH;have hd:(Jz its).drop i=er its[i]::(Jz its).drop (i+1):=by rw[rJ,List.drop_eq_getElem_cons JZ,Jz,rJ]
  rw[hd]at q1;have q2:=IP.II q1;refine m1.gT mx.frozen (by simpa using m1.JX) (λa ha=>absurd ha (by simp)) M5 (IP.II q2) λτ' JD f' m' h'=>?_;refine⟨B',F1,τ',f',m',h'.mono λr hr=>?_⟩;cases r with
  |nx τ'=>exact λJD H' F' f' Pr=>⟨F',τ',f',Pr,hr⟩
  |ct τ'=>exact λJD H' F' f' Pr=>⟨F',τ',f',Pr,hr⟩
  |bk τ'=>exact λJD H' F' f' Pr=>hr.ok _ _ _ _ Pr.less
  |rt d=>exact λv H' F' fv o=>hr.ok _ _ _ _ o
 ·have e:i=its.length:=⋯
  subst e;refine .inl ⟨w1.stop rfl,?_⟩;have:(Jz its).drop its.length=[]:=by rw[<- jh its,List.drop_length]
  rw[this]at q1;exact q1.ok _ _ _ _ m1.less
def A8 (a b:Int):Jz (iU a b)=iU a b:=by unfold iU;rw[i8,K_];rfl
abbrev BV (cl:Ä):Sr->Ev->Res (Int×Int)
 |.J3 n,τ=>II (IV cl n τ) λ|.int i=>JA (nu i) (.ok (0,i))|_=>JE
 |_,_=>JE
def RIr (K:Frag)(ex:Æ)(is:Ê)(f:Ev->Res (Int×Int)):TI:=λσ H R=>∃S τ,Slots K S H σ τ is/\IP ex (f τ) λp=>∀H',ik H H'->R (SQ p.1 (p.2 - p.1).toNat) H'
abbrev yl:Sr->Bool
 |.J3 _=>Θ
 |_=>Ξ
def ym (h:yl s=Θ)  (q:IP ex (kl cl s τ) k):IP ex (BV cl s τ) λp=>k (iU p.1 p.2):=by
 cases s with
 |J3 n=>
  refine IP.mk ((IP.II (show IP ex (II (IV cl n τ) λ|.int i=>JA (nu i) (.ok (iU 0 i))|_=>JE) k from q)).mono λd hd=>?_)
  induction d using zD with
  |int i=>obtain⟨gd,hd⟩:=IP.JA hd;show IP ex (JA (nu i) (.ok (0,i))) _;unfold JA;rw[h_ gd];exact hd.ok
  |_=>exact hd.no.elim
 |_=>exists h
def Ih:∀(s:Sr) (X:Cx) (ex:Æ) (G:Gm) (e tg:Expr),JR Z CX cl xp X ex G->kM Z G s e=Θ->yl s=Θ->PI X tg e (RIr X.K ex (j9 s) (BV cl s)):=by
 intro s X ex G e tg g h hr;cases s with
 |J3 n=>
  obtain⟨x,p,args,pos,rfl,q1⟩:=kh h;obtain⟨a,rfl,h'⟩:=iS q1;simp only[d_]at h';have e1:x = "range":=g_ h'.1.1.1;subst e1;obtain⟨k1,k2,_,_⟩:=kc g (show i7[15]? = Δ ("range" : Str) from rfl) h'.1.1.2;refine sr (pJ k1 k2 (iB (snd n X ex G a g h'.2).1 i9 (ia h'.1.2 _ _)) (ia h'.1.2 _ _)) λσ H Q JG=>?_;obtain⟨S,τ,hs,q⟩:=JG;refine iQ (.refl _) hs (IP.II q) λx v H1 e1 _ m1 q1=>?_
  induction x using zD with
  |int i=>cases m1.JN;obtain⟨gd,q1⟩:=IP.JA q1;have Pp : -(2 ^ 62)<=i/\i < 2 ^ 62:=l_ gd;refine⟨i,rfl,Pp.1,Pp.2,?_⟩;have:=q1.ok _ e1;rw[show(0,i).2 - (0,i).1=i from Int.sub_zero i]at this;exact this
  |_=>exact q1.no.elim
 |_=>cases hr
def IH (g:JR Z CX cl xp X ex G)  (QD:(G.cm=Θ/\G.rs=Θ)/\jI G T t=Θ)(Qb:kM Z G s it=Θ/\pF s t=Θ)(ha:LL X x (RS X.K G.io ex (iD cl a))):PS X (.For t it x [] pos) (RS X.K G.io ex (K1 cl (.Kl T s a))):=by
 have hT:=QD.2;have hs:=Qb.1;by_cases hr:yl s=Θ
 ·refine ju (wj (g.own QD.1.2) (g.calm QD.1.1) (Ih s X ex G it t g hs hr) (Oz g T t hT) ha (λx=>jx hs X.env x)) λDn σ H JG=>?_;obtain⟨B,F,τ,f,m,q⟩:=JG;have q0:IP ex (II (sI cl s τ) λp=>forM (λx τ=>II (jq T x τ) λτ'=>iD cl a τ') p.1 p.2) (Fk X.K B Dn):=q;have base:IP ex (kl cl s τ) λits=>IP ex (forM (λx τ=>II (jq T x τ) λτ'=>iD cl a τ') its τ) (Fk X.K B Dn):=by
   cases s with
   |J3 u=>exact(IP.II (show IP ex (II (kl cl (.J3 u) τ) λits=>.ok (its,τ)) _ from IP.II q0)).mono λits h=>h.ok
   |_=>cases hr
  exact⟨λ_=>True,τ,iN m.Ko,(ym hr base).mono λp hp H1 e1=>rK (mj T t hT) (m.grow e1) (.NU p.1 p.2) (by rw[A8];exact hp)⟩
 ·refine ju (wj (g.own QD.1.2) (g.calm QD.1.1) (vP s X ex G it t g hs Qb.2) (Oz g T t hT) ha (λx=>jx hs X.env x)) λDn σ H JG=>?_;obtain⟨B,F,τ,f,m,q⟩:=JG;have q0:IP ex (II (sI cl s τ) λp=>forM (λx τ=>II (jq T x τ) λτ'=>iD cl a τ') p.1 p.2) (Fk X.K B Dn):=q;have q1:=IP.II q0;have XG:sI cl s τ=(II (kl cl s τ) λits=>.ok (Jz its,JQ (j9 s) τ)):=by
   cases s with
   |val u=>rfl
   |zip u v=>rfl
   |_=>exact absurd rfl hr
  rw[XG]at q1;obtain⟨F1,gg,b1,b2,b3,b4,b5,b6⟩:=lj (j9 s) m.JM m.Ko m.JX;refine AR (.refl _) b6 (IP.II q1) λits J H1 e1 _ w1 hk=>?_;obtain⟨c1,c2,c3⟩:=grow (λ_=>True) b1 b2 e1;have m2:Kf X.K B (λa=>F1 a∨(True/\H a=Φ/\H1 a≠Φ)) H1 σ (JQ (j9 s) τ) gg:=m.LU (b4.trans c3 (λx hx=>.inl (b5 x hx))) c1 c2 b3 λa ha=>.inl (b5 a ha);exact rK (mj T t hT) m2 (w1.step (λa xs h r=>⟨h.elim (λz=>.inl z) λz=>.inr ⟨trivial,z,r.some⟩,r⟩) λa xs h=>h) hk.ok
mutual
theorem ZU:∀(a:IS) (X:Cx) (ex:Æ) (G:Gm) (s:Stmt),JR Z CX cl xp X ex G->sX Z G a s=Θ->PS X s (RS X.K G.io ex (K1 cl a))
 |.P6 f es i es2,X,ex,G,s,g,h=>LP g h
 |.asg tg e,X,ex,G,s,g,h=>by
  induction s using zS with
  |Assign ts v pos=>
   match ts,h with
   |[t],h=>have h':(jI G tg t&&JK Z G e v&&(isName t||(isTup t&&notTuple v))&&As e)=Θ:=h;simp only[d_]at h';exact IC g h'.1.1.1 h'.1.1.2 h'.1.2 h'.2
   |[],h=>exists h
   |_::_::_,h=>exists h
  |_=>exists h
 |.RL j G' fr t src,X,ex,G,s,g,h=>by
  have h1:Vp s (λtg e=>isName tg&&jI G (.nm j) tg&&JK Z G (.comp G' fr (.nm t) src [] (.lst [])) e)=Θ:=by induction s using zS<;>exact h
  exact ID g h1
 |.Ph i j e c x v w,X,ex,G,s,g,h=>by induction s using zS<;>exists h
 |.app i e,X,ex,G,s,g,h=>by
  induction s using zS with
  |Expr v pos=>
   induction v using zE with
   |Call fn args Xc JL=>
    induction fn using zE with
    |Attribute o name apos=>
     induction o using zE with
     |Name x p=>
      match args,Xc,h with
      |[v],[],h=>have h':(lD G i x&&name == "append"&&apos.endLine == JL.line&&notStar v&&JK Z G e v)=Θ:=h;simp only[d_]at h';have e1:name = "append":=g_ h'.1.1.1.2;subst e1;exact IE g h'.1.1.1.1 h'.1.1.2 h'.1.2 h'.2
      |[],_,h=>exists h
      |[_],_::_,h=>exists h
      |_::_::_,_,h=>exists h
     |_=>exists h
    |_=>exists h
   |_=>exists h
  |_=>exists h
 |.exp e,X,ex,G,s,g,h=>by
  induction s using zS with
  |Expr v pos=>
   have h':(mB v&&JK Z G e v)=Θ:=by induction v using zE<;>first|exact h|(rename_i c _ _;cases c<;>exact h)
   simp only[d_]at h';exact IG g h'.1 h'.2
  |_=>exists h
 |.ret e,X,ex,G,s,g,h=>by
  induction s using zS with
  |Return v pos=>
   induction v using zO with
   |none=>exists h
   |some v=>exact IF g h
  |_=>exists h
 |.JV t a b,X,ex,G,s,g,h=>by
  induction s using zS with
  |If c x y pos=>have h':(JK Z G t c&&jt Z G a x&&jt Z G b y)=Θ:=h;simp only[d_]at h';exact IL (snd t X ex G c g h'.1.1).2 (rL a X ex G x g h'.1.2) (rL b X ex G y g h'.2)
  |_=>exists h
 |.Kl tg s body,X,ex,G,st,g,h=>by
  induction st using zS with
  |For t it b els pos=>
   induction els using zL with
   |cons _ _=>exists h
   |nil=>have h':(((G.cm&&G.rs)&&jI G tg t)&&(kM Z G s it&&pF s t)&&jt Z G body b)=Θ:=h;simp only[d_]at h';exact IH g h'.1.1 h'.1.2 (rL body X ex G b g h'.2)
  |_=>exists h
 |.Ka n c w,X,ex,G,s,g,h=>by
  induction s using zS with
  |Raise e cause pos=>
   induction cause using zO with
   |some _=>exact ip h
   |none=>have h:Xn e (λx=>G.rs&&G.cm&&jl Z G n x&&x == c&&Z.rc.contains (n,c))=Θ:=h;obtain⟨x,np,w',j,p,JL,rfl,h⟩:=DD h;have h':(G.rs&&G.cm&&jl Z G n x&&x == c&&Z.rc.contains (n,c))=Θ:=h;simp only[d_]at h';have e:=g_ h'.1.2;subst e;exact yd g h'.1.1.1.1 h'.1.1.1.2 h'.1.1.2 (by simpa using h'.2)
  |_=>exact ip h
 |.Mv body n cs i hd,X,ex,G,s,g,h=>by induction s using zS<;>exact ip h
 |.K3 n c e,X,ex,G,s,g,h=>by
  have h1:rev s (λo=>Xo o λx a=>G.rs&&G.cm&&jl Z G n x&&x == c&&Z.rc.contains (n,c)&&iZ Z {G with rs:=Ξ,tr:=Ξ} [e] [a])=Θ:=by induction s using zS<;>exact h
  obtain⟨o,pos,rfl,h2⟩:=DE h1;obtain⟨x,np,a,JL,rfl,h3⟩:=DF h2;simp only[d_]at h3;obtain⟨⟨⟨⟨⟨T9,LC⟩,hx⟩,hxc⟩,hrc⟩,JY⟩:=h3;have e:=g_ hxc;subst e;exact vS g T9 LC hx (by simpa using hrc) JY
theorem rL:∀(as:Ì) (X:Cx) (ex:Æ) (G:Gm) (ss:Á),JR Z CX cl xp X ex G->jt Z G as ss=Θ->LL X ss (RS X.K G.io ex (iD cl as))
 |[],X,ex,G,ss,g,h=>by
  induction ss using zL with
  |nil=>exact jO jM λDn σ H ⟨B,F,τ,f,m,q⟩=>q.ok _ _ _ _ m
  |cons _ _=>exists h
 |a::as,X,ex,G,ss,g,h=>by
  induction ss using zL with
  |nil=>induction a using zT<;>exists h
  |cons s ss=>
   cases ZV:BO a with
   |true=>
    cases a with
    |Ph i j e c x v w=>
     induction ss using zL with
     |nil=>
      have h':(sX Z G (.Ph i j e c x v w) s&&jt Z G as [])=Θ:=h;have h1:=(s_.mp h').1
      induction s using zS<;>first|exact ip h1|cases h1
     |cons s' ss=>have h':=s_.mp (show(uw Z G i j e c x v w s s'&&jt Z G as ss)=Θ from h);exact A7 g h'.1 (rL as X ex G ss g h'.2)
    |_=>cases ZV
   |false=>
    have h':(sX Z G a s&&jt Z G as ss)=Θ:=by rw[<- sY ZV];exact h
    simp only[d_]at h';refine jO (jj (ZU a X ex G s g h'.1) (rL as X ex G ss g h'.2)) λDn σ H JG=>?_;obtain⟨B,F,τ,f,m,q⟩:=JG;refine⟨B,F,τ,f,m,(IP.II q).mono λr hr=>?_⟩;cases r with
    |nx τ'=>exact λJD H' F' f' m'=>⟨B,F',τ',f',m',hr⟩
    |ct τ'=>exact hr.ok
    |bk τ'=>exact hr.ok
    |rt d=>exact hr.ok
end
end
def qB (x:Kw H s.heap)(fr:∀b∈KC outer,H b=Φ)(h:KI outer (iV s.heap H) s E e s'):KI outer H s E e s':=by obtain⟨a,cls,a0,H',B,h1,h2,h3,h4,h5,_,h6,h7,h8⟩:=h;exact⟨a,cls,a0,me H H',B,h1,h2,h3,sN x h4,sM x h5 (mf h4) (λb o _=>h6 b o) fr,rj,λb o e n f=>h6 b o e (jT n) f,h7,h8⟩
def qC:¬KI outer H s (λ_ _ _=>False) e s':=λ⟨_,_,_,_,_,_,_,_,_,_,_,_,_,z⟩=>z
def BW (lt:Pl H)(os:s2.os=s.os)(bare:AllBare s2.gens)(fl:Heap.FlyingW B outer a cls a0 s2.heap)(hB:Kw H' B)
  (kB:∀b o,s.heap.get? b=Δ o->H b=Φ->b∉KC outer->B.get? b=Δ o) (hs:∀b o,s.heap.get? b=Δ o->H b=Φ->b∈KC outer->∃sl,s2.heap.get? b=Δ {o with slots:=sl})
  (fr:∀b o,s.heap.get? b=Δ o->H b=Φ->H' b=Φ) (pz:∀b o u,H b=Δ (.JQ o u)->H' b=Δ (.JQ o u)) (pt:∀b xs,H b=Δ (.tup xs)->H' b=Δ (.tup xs)) (hE:E cls Φ H0):KI outer H s E (.ref a) s2:=by
 refine⟨a,cls,a0,H',B,rfl,os,bare,⟨λb o e n nf _=>fl.1 _ _ (kB b o e n nf),λb o e n hf _=>hs b o e n hf,λb o e n _=>fr b o e n,λb o e _=>?_,pt,pz,λb ps e=>?_⟩,hB,λb o e=>(lt b o e).elim (λ⟨ob,u,z⟩=>by subst z;exact pz _ _ _ e) λ⟨xs,z⟩=>by subst z;exact pt _ _ e,kB,fl,hE⟩
 ·cases q:H b with
  |none=>
   by_cases hf:b∈KC outer
   ·obtain⟨sl,h⟩:=hs b o e q hf;exact⟨_,h⟩
   ·exact⟨_,fl.1 _ _ (kB b o e q hf)⟩
  |some u=>
   have:∃u',H' b=Δ u':=by
    rcases lt b u q with⟨ob,v,rfl⟩|⟨xs,rfl⟩
    ·exact⟨_,pz _ _ _ q⟩
    ·exact⟨_,pt _ _ q⟩
   obtain⟨u',hu⟩:=this;obtain⟨ob,ho⟩:=(hB b u' hu).at
   exact⟨_,fl.1 _ _ ho⟩
 ·rcases lt b _ e with⟨ob,v,z⟩|⟨xs,z⟩<;>cases z
def BX {s:Α}(e:s.heap.get? b=Δ o)(n:b∉KC outer):b∉KC (envOfC qual scope s.heap.objs.size f cd::outer):=λz=>by
 unfold KC at z n;rcases List.mem_filterMap.mp z with⟨env,hm,hf⟩
 rcases k_.mp hm with rfl|hm
 ·have h1:s.heap.objs.size=b:=I_ hf;have h2:=j_ e;rw[h1]at h2;exact S_ _ h2
 ·exact n (List.mem_filterMap.mpr ⟨env,hm,hf⟩)
def A9 {K:Frag}(lt:Pl H){ex:Æ}(hE:∀c C,ex c->PySem.W.nsIn K Η c=Δ (Δ (.ref C))->E (.ref C) Φ H0) :
  Passes KI (kF KI P w K mg base N qual scope f cd A outer s H E) (λcls _ _=>∃c C,ex c/\PySem.W.nsIn K Η c=Δ (Δ (.ref C))/\cls=.ref C):=by
 intro pins σ H1 s1 e s' I JG;obtain⟨a,cls,a0,H',B,he,os,bare,un,hB,_,kB,fl,c,C,hc,hn,MO⟩:=JG;subst he MO;have I':=I.N' os un (hB.kept fl.1) bare (λb z=>absurd z (by simp));show Κ _ _ (leaving _ (.ref a)) _ _ s';refine wpAny_leaves_onW (show(A.deeper (envOfC qual scope s.heap.objs.size f cd)).frames=Δ (envOfC qual scope s.heap.objs.size f cd::outer) from I.ok.frames) rfl fl λh' L9 up=>?_;refine BW lt I'.os I'.bare L9 hB (λb o e n nf=>?_) (λb o e n hf=>?_) (λb o e n=>I'.base.free b o e n (by simp[kF])) I'.base.Kr I'.base.KD (hE c C hc hn)
 ·exact kB b o (I.base.keep b o e n nf (by simp[kF])) (I.base.free b o e n (by simp[kF])) (BX e nf)
 ·obtain⟨sl,h1⟩:=I'.base.slot b o e n hf (by simp[kF]);obtain⟨_,o',KZ,nf⟩:=I.ok.Ks.mem hf;have KZ:s.heap.get? b=Δ o':=KZ;rw[e]at KZ;cases KZ;obtain⟨PM,h2⟩:=up b _ h1 nf;exact⟨PM,h2⟩
def yo {K:Frag}(lt:Pl H)  (hE:E (.ref C) Φ H0)
  (I:Inv (kF KI P w K mg base N qual scope f cd A outer s H E) pins σ H1 s1) (hx:Heap.MadeExcOf s1.heap h' e (.ref C) vs) :
  (kF KI P w K mg base N qual scope f cd A outer s H E).xe (.ref e) {s1 with heap:=h'}:=by
 have To:∀env∈(kF KI P w K mg base N qual scope f cd A outer s H E).stack,∀b,env.frame=Δ b->b∈KC (kF KI P w K mg base N qual scope f cd A outer s H E).stack:=λenv he b hb=>List.mem_filterMap.mpr ⟨env,he,hb⟩;show Κ _ _ (leaving _ (.ref e)) _ _ _;refine wpAny_leaves_madeW (base:=PySem.W.hideAll s1.heap (KC (kF KI P w K mg base N qual scope f cd A outer s H E).stack)) (h:=s1.heap) (show(A.deeper (envOfC qual scope s.heap.objs.size f cd)).frames=Δ (envOfC qual scope s.heap.objs.size f cd::outer) from I.ok.frames) rfl (λb o q=>PySem.W.of_hideAll _ q) (PySem.W.funFrames_hide I.stack To) hx λh2 t fl _ _ up=>?_;have Qm:∀b u o,H1 b=Δ u->s1.heap.get? b=Δ o->(PySem.W.hideAll s1.heap (KC (kF KI P w K mg base N qual scope f cd A outer s H E).stack)).get? b=Δ o:=λb u o hu ho=>PySem.W.hideAll_get _ ho λz=>by rw[I.Mc b z]at hu;cases hu
 refine BW (H':=H1) lt I.os I.bare fl (λb o hb=>?_) (λb o he n nf=>?_) (λb o he n hf=>?_) (λb o e n=>I.base.free b o e n (by simp[kF])) I.base.Kr I.base.KD hE
 ·refine(I.JO b o hb).Li (λc u hc hu=>?_) (λ_ z=>z) λ_ _ z=>z;rcases hc with rfl|hc
  ·exact Qm _ _ _ hb hu
  ·exact Qm _ _ _ hc hu
 ·exact PySem.W.hideAll_get _ (I.base.keep b o he n nf (by simp[kF])) (BX he nf)
 ·obtain⟨sl,h1⟩:=I.base.slot b o he n hf (by simp[kF]);obtain⟨_,o',KZ,nf⟩:=I.ok.Ks.mem hf;have KZ:s.heap.get? b=Δ o':=KZ;rw[he]at KZ;cases KZ;obtain⟨PM,h3⟩:=up b _ (hx.keeps b _ h1) nf;exact⟨PM,h3⟩
abbrev qD (X:Cx)(pins:É)(E:Ü):Cx:={X with xe:=E,pn:=X.pn++pins}
def XH (K:Frag){io:Ã}(B:Bs io)(ex:Æ)(g:Ev->Res Fl):TS:=λDn σ H=>∃F τ f,Kf K B F H σ τ f/\IP ex (g τ) (Fk K B Dn)
def Ba (I:Inv X pins σ H s):Inv (qD X pins E) [] σ H s:=
 ⟨⟨I.ok.mod,I.ok.kind,I.ok.glob,I.ok.blt,I.ok.above,I.ok.inj,I.ok.has,I.ok.OZ,I.ok.hd,I.ok.frames,I.ok.JE,I.ok.PL,I.ok.bs,I.ok.Nc,I.ok.Ma,I.ok.Mb,I.ok.Ks,I.ok.ME⟩,I.os,I.bare,I.base,I.loc,I.cell,I.free,I.J4,λp hp=>I.pin p (by simpa[qD] using hp),I.JO,I.len⟩
def jL (I:Inv (qD X pins E) Mn σ H s):Inv X pins σ H s:=
 ⟨⟨I.ok.mod,I.ok.kind,I.ok.glob,I.ok.blt,I.ok.above,I.ok.inj,I.ok.has,I.ok.OZ,I.ok.hd,I.ok.frames,I.ok.JE,I.ok.PL,I.ok.bs,I.ok.Nc,I.ok.Ma,I.ok.Mb,I.ok.Ks,I.ok.ME⟩,I.os,I.bare,I.base,I.loc,I.cell,I.free,I.J4,λp hp=>I.pin p (p_ _ hp),I.JO,I.len⟩
section
variable {Z:Sg}{CX:Mp}{cl:Ä}{xp:Ö}{X:Cx}{ex:Æ}{G:Gm}{pins:É}{a:Ω}
theorem Bb (g:JR Z CX cl xp X ex G){E:Ü}{Vb:Æ}(hE:∃E':XK,Passes CX (qD X pins E) E'/\∀c H,Vb c->xp E' H c):JR Z CX cl xp (qD X pins E) Vb {G with rs:=Ξ,tr:=Ξ} where
 N:=g.N
 JX:=g.JX
 calm:=g.calm
 fk:=g.fk
 un:=g.un
 own:=λz=>by cases z
 kd:=g.kd
 MJ:=g.MJ
 gl:=g.gl
 Nr:=g.Nr
 df:=g.df
 blt:=g.blt
 cst:=g.cst
 fns:=g.fns
 LO:=g.LO
 NH:=g.NH
 MZ:=g.MZ
 NI:=g.NI
 Nt:=g.Nt
 RW:=λz=>by cases z
 tr:=λz=>by cases z
 P':=hE
 MH:=g.MH
 NY:=g.NY
def qE (X:Cx)(pins:É)(Dn:Ends)(hs:List ExceptHandler):Ü:=λe s1=>
 Κ (Μ X.prog X.w) X.A (noteFrame e X.env) (λ_ s2=>Κ (Μ X.prog X.w) X.A (setFlight e Φ) (λ_ s3=>Κ (Μ X.prog X.w) X.A (handleBy e X.env hs) (SP X pins Dn) X.xe s3) X.xe s2) X.xe s1
theorem yq (g:JR Z KI cl xp X ex G)(JY:X.stack=X.env::X.outer)(Q7:X.env.frame=Δ X.env.locals)(lt:Pl X.KJ)(MF:∀a:Ω,∀f∈Z.fns,f∈Z.pl->∀x,Z.name f=Δ x->OS X.prog X.w X.K X.mg X.base KI (X.A.mark (Δ (.ref a))) cl xp f x)
  {B0:Bs G.io} (Q8:B0.N=Φ) (Sa:B0.H=X.KJ) (Sb:LB B0.F B0.H) (Sd:∀a xs,¬B0.L a xs) (Sf:∀a xs,¬B0.T a xs) {hd:Ì}{n i:Nat}{c x y:Str}{np hpos:Pos}{b0:Stmt}{Mz:Á}{Dn:Ends}{C C':Ω}{N:Nat}
  (h2:jl Z G n x=Θ) (hn:PySem.W.nsIn X.K Η c=Δ (Δ (.ref C))) (Q4:nameIn X.K C=Δ c) (hm:X.mg x=Δ (.ref C')) (hex:PySem.W.exmOne X.K (.ref C) (.ref C')=Δ Θ) (h4:G.N[i]? = Δ y) (h5:G.kd[i]? = Δ .local)
  (h6:jt Z {G with cm:=Ξ,rs:=Ξ,tr:=Ξ} hd (b0::Mz)=Θ) (hN:N=X.N.length) (q:IP ex (II (Lv (iD cl hd ((Τ N Φ).set i (Δ (.exc c))))) λ|.nx τ'=>.ok (.nx (τ'.set i Φ))|_=>JE) (Fk X.K B0 Dn)) :
  Passes KI (qD X pins (qE X pins Dn [.ExceptHandler (Δ (.Name x np)) (Δ y) (b0::Mz) hpos])) (λcls _ _=>cls=.ref C):=by
 intro Mn JD H1 s1 e s' I2 JG;obtain⟨a,cls,a0,H',B,he,os,bare,un,hB,sm,kB,fl,MO⟩:=JG;subst he MO;obtain⟨k1,k2,k3,k4⟩:=kN g h2;have hk:X.env.kindOf y=Δ .local:=(g.kd i y h4).trans h5;have ZW:X.N.Nodup:=by rw[g.N];exact g.JX
 have hi:X.N[i]? = Δ y:=by rw[g.N];exact h4
 have ok:=(jL I2).ok;have Vu:Heap.FlyingW B (X.env::X.outer) a (.ref C) a0 s'.heap:=JY ▸ fl;show Κ (Μ X.prog X.w) X.A (noteFrame (.ref a) X.env) _ X.xe s';refine wpAny_looks_onW (A:=X.A) (by rw[<- JY];exact ok.frames) Q7 Vu λh4' Ul ZX=>?_;refine wpAny_landsW Ul λXI XJ ZY=>?_;have I5:Inv (qD X pins (qE X pins Dn [.ExceptHandler (Δ (.Name x np)) (Δ y) (b0::Mz) hpos])) Mn JD H' {s' with heap:=XI}:=uy I2 os bare un hB sm kB (show Heap.FlyingW B X.stack a (.ref C) a0 XI from JY ▸ XJ) (ZX.trans ZY);have J5:Inv (lP X a) pins JD H' {s' with heap:=XI}:=pW (jL I5);refine wpAny_handleBy_cons (codeAny_handlers_test (kC J5 k1 hm ?_ k4)) (by intro q;cases q);obtain⟨oe5,he5,hc5⟩:=XJ.there;refine(PySem.W.exm_one J5.LV (IX.type ⟨oe5,he5,hc5⟩) hex).here ?_;refine codeAny_handlers_suite_as ?_;refine lands_againW XJ λSh Um up6=>?_;have I6:Inv (qD X pins (qE X pins Dn [.ExceptHandler (Δ (.Name x np)) (Δ y) (b0::Mz) hpos])) Mn JD H' {s' with heap:=Sh}:=uy I2 os bare un hB sm kB (show Heap.FlyingW B X.stack a (.ref C) a0 Sh from JY ▸ Um) ((ZX.trans ZY).trans up6);obtain⟨oe,vs,Uo,hc6,Vw,_⟩:=Um.first
 have na:H' a=Φ:=by
  cases z:H' a with
  |none=>rfl
  |some u=>
   obtain⟨ob,ho⟩:=(hB a u z).at
   rw[Um.2.1]at ho;cases ho
 have ZZ:∀b,b∉X.fs->b≠X.env.locals->b∉KC X.stack:=λb h1 h2 z=>by
  rw[JY]at z;unfold KC at z;rcases List.mem_filterMap.mp z with⟨env,hm,hf⟩
  rcases k_.mp hm with rfl|hm
  ·rw[Q7]at hf;exact h2 (I_ hf).symm
  ·exact h1 (List.mem_filterMap.mpr ⟨env,hm,hf⟩)
 have nl:a≠X.env.locals:=by rintro rfl;obtain⟨m,⟨o,es,ep,ho,hd,_⟩,_⟩:=I6.loc;have ho:Sh.get? X.env.locals=Δ o:=ho;rw[Uo]at ho;cases ho;rw[Vw]at hd;cases hd
 have I6t:Inv (lP X a) pins JD (upd H' a (.JQ oe XU)) {s' with heap:=Sh}:=by
  refine(pW (jL I6)).Ua Uo na ⟨trivial,⟨_,Uo⟩,λ_ _ _ _=>trivial⟩ (λob e z hx=>?_) ?_ nl (λy c e z=>?_) λp hp z=>?_
  ·by_cases hf:a∈X.fs
   ·obtain⟨sl,e1⟩:=I6.base.slot a ob e z hf hx;have e1:Sh.get? a=_:=e1;obtain⟨_,o',KZ,nf⟩:=ok.Ks.mem hf;rw[show X.J6.heap.get? a=_ from e]at KZ;cases KZ;rw[Uo]at e1;cases e1;exact nf _ Vw
   ·have e1:=I2.base.keep a ob e z hf hx;have e2:=I2.base.free a ob e z hx;have:=kB a ob e1 e2 (ZZ a hf nl);rw[Um.2.1]at this;cases this
  ·show X.KJ a=Φ;cases z:X.KJ a with
   |none=>rfl
   |some u=>
    exfalso;rcases lt a u z with⟨ob,v,rfl⟩|⟨xs,rfl⟩
    ·have:=I6.base.Kr a ob v z;rw[na]at this;cases this
    ·have:=I6.base.KD a xs z;rw[na]at this;cases this
  ·subst z;obtain⟨v,o,ho,hd⟩:=I6.cell y c e;have ho:Sh.get? c=Δ o:=ho;rw[Uo]at ho;cases ho;rw[Vw]at hd;cases hd
  ·subst z;obtain⟨e1,e2,e3,e4,_⟩:=I2.pin p (p_ _ hp);have:=kB p.1 p.2 e1 e2 (ZZ _ e4 e3);rw[Um.2.1]at this;cases this
 refine lU (X:=lP X a) (v:=.ref a) I6t ZW hi (.inl hk) rfl (λs7 I7=>?_) (.inr hk);have Z0:ik B0.H (upd H' a (.JQ oe XU)):=by
  rw[Sa];intro b o e;have hb:H' b=Δ o:=by
   rcases lt b o e with⟨ob,v,rfl⟩|⟨xs,rfl⟩
   ·exact I6.base.Kr b ob v e
   ·exact I6.base.KD b xs e
  rw[ib (iH hb na)];exact hb
 have hlen:JD.length=N:=by rw[hN];exact I6.len
 have YW:i < JD.length:=by rw[I6.len];exact(x_.mp hi).1
 have xo:J8 X.K (upd H' a (.JQ oe XU)) a (.inr c):=⟨C,oe,vs,hn,Q4,il,hc6,Vw⟩
 obtain⟨g',h',r0,p0⟩:=(rD (K:=X.K) (F:=B0.F) (H:=upd H' a (.JQ oe XU)) hlen).put i (JB.exc xo);have gn:g'=[]:=by have:=p0.length_eq;simp at this;exact this.1
 subst gn;have frm:Kf X.K B0 B0.F (upd H' a (.JQ oe XU)) (JD.set i (Δ (.ref a))) ((Τ N Φ).set i (Δ (.exc c))) []:=
  ⟨λb hb z=>Sb b hb (Z0.free z),r0,List.nodup_nil,Z0,λ_ z=>absurd z (by simp),λ_ z=>z,λ_ z=>.inl z,λa xs z=>(Sd a xs z).elim,λa xs z=>(Sf a xs z).elim,λj a _ e=>by rw[Q8]at e;cases e⟩
 have q2:IP JW (iD cl hd ((Τ N Φ).set i (Δ (.exc c)))) (Fk X.K B0 {nx:=λXM H8=>∃F8 Uq f8,Kf X.K B0 F8 H8 XM Uq f8/\Fk X.K B0 Dn (.nx (Uq.set i Φ)),rt:=λ_ _=>False}):=by
  cases z:iD cl hd ((Τ N Φ).set i (Δ (.exc c))) with
  |error er=>rw[z]at q;exact q.no.elim
  |ok r=>
   rw[z]at q;cases r with
   |nx Uq=>exact λXM H8 F8 f8 m8=>⟨F8,Uq,f8,m8,q.ok⟩
   |_=>exact q.no.elim
 refine wpAny_mono (rL hd (lP X a) JW {G with cm:=Ξ,rs:=Ξ,tr:=Ξ} (b0::Mz) (vR g (MF a)) h6 pins s7 _ _ _ I7 ⟨B0,B0.F,_,[],frm,q2⟩) (λfw s8 hs=>?_) λ_ _ z=>z.elim;cases fw with
 |next=>obtain⟨XM,H8,I8,F8,Uq,f8,m8,q8⟩:=hs;refine DN (rE ok I8) ZW hi hk λs9 I9=>?_;obtain⟨g8,r9,n9,m9⟩:=JT.drop (o:=Φ) i m8.Ko m8.JX;exact⟨_,_,I9,q8 _ _ F8 g8 ⟨m8.JM,r9,n9,m8.same,λb hb=>m8.own b (m9 b hb),m8.Lh,m8.out,m8.pin,m8.N0,λj a _ e=>by rw[Q8]at e;cases e⟩⟩
 |brk=>obtain⟨_,_,_,z⟩:=hs;exact z.elim
 |cont=>obtain⟨_,_,_,z⟩:=hs;exact z.elim
 |ret u=>obtain⟨_,_,_,_,_,z⟩:=hs;exact z.elim
end
abbrev Z1:List ExceptHandler->(Expr->Str->Á->Bool)->Bool
 |[.ExceptHandler (Δ e) (Δ y) b _],k=>k e y b
 |_,_=>Ξ
abbrev Z2:Stmt->(Á->Str->Str->Stmt->Á->Bool)->Bool
 |.Try b hs o f _,k=>o.isEmpty&&f.isEmpty&&Z1 hs λe y bd=>Lg (λx=>match bd with
  |b0::r=>k b x y b0 r
  |[]=>Ξ) e
 |_,_=>Ξ
def DV (h:Z2 s k=Θ):∃b x np y b0 r hp pos,s=.Try b [.ExceptHandler (Δ (.Name x np)) (Δ y) (b0::r) hp] [] [] pos/\k b x y b0 r=Θ:=by
 induction s using zS with
 |Try b hs o f pos=>
  have h:(o.isEmpty&&f.isEmpty&&Z1 hs λe y bd=>Lg (λx=>match bd with
   |b0::r=>k b x y b0 r
   |[]=>Ξ) e)=Θ:=h
  rw[d_,d_]at h;rw[List.isEmpty_iff.mp h.1.1,List.isEmpty_iff.mp h.1.2];have h:=h.2;cases hs with
  |nil=>exact ip h
  |cons h0 r0=>
   cases h0 with
   |ExceptHandler ty nm bd hp=>
    cases ty with
    |none=>exact ip h
    |some e=>
     cases nm with
     |none=>exact ip h
     |some y=>
      cases r0 with
      |cons _ _=>exact ip h
      |nil=>
       obtain⟨x,np,rfl,h2⟩:=iY h;cases bd with
       |nil=>exact ip h2
       |cons b0 r=>exact⟨_,_,_,_,_,_,_,_,rfl,h2⟩
 |_=>exact ip h
abbrev tj (Z:Sg)(G:Gm):IS->Stmt->Bool
 |.Mv body n cs i hd,s=>Z2 s λb x y b0 r=>jt Z {G with rs:=Ξ,tr:=Ξ} body b&&jl Z G n x&&cs.all (λc=>Z.xm.contains (c,n))&&G.N[i]? == Δ y&&G.kd[i]? == Δ .local&&jt Z {G with cm:=Ξ,rs:=Ξ,tr:=Ξ} hd (b0::r)
 |_,_=>Ξ
abbrev yr:IS->Bool
 |.Mv _ _ _ _ _=>Θ
 |_=>Ξ
abbrev yu (Z:Sg)(G:Gm):Ì->Á->Bool
 |[],[]=>Θ
 |a::as,s::ss=>(if yr a=Θ then tj Z G a s else sX Z G a s)&&yu Z G as ss
 |_,_=>Ξ
section
variable {Z:Sg}{cl:Ä}{X:Cx}{ex:Æ}{G:Gm}
def DW (g:JR Z KI cl (Mw X.K) X ex G)(JY:X.stack=X.env::X.outer)(Q7:X.env.frame=Δ X.env.locals)(lt:Pl X.KJ)(MF:∀a:Ω,∀f∈Z.fns,f∈Z.pl->∀x,Z.name f=Δ x->OS X.prog X.w X.K X.mg X.base KI (X.A.mark (Δ (.ref a))) cl (Mw X.K) f x)
  {B0:Bs G.io} (Q8:B0.N=Φ) (Sa:B0.H=X.KJ) (Sb:LB B0.F B0.H) (Sd:∀a xs,¬B0.L a xs) (Sf:∀a xs,¬B0.T a xs) {a:IS}{st:Stmt} (h:tj Z G a st=Θ):PS X st (XH X.K B0 ex (K1 cl a)):=by
 cases a with
 |Mv body n cs i hd=>
  obtain⟨b,x,np,y,b0,r,hp,pos,rfl,h0⟩:=DV (k:=λb x y b0 r=>jt Z {G with rs:=Ξ,tr:=Ξ} body b&&jl Z G n x&&cs.all (λc=>Z.xm.contains (c,n))&&G.N[i]? == Δ y&&G.kd[i]? == Δ .local&&jt Z {G with cm:=Ξ,rs:=Ξ,tr:=Ξ} hd (b0::r)) h;have h:(jt Z {G with rs:=Ξ,tr:=Ξ} body b&&jl Z G n x&&cs.all (λc=>Z.xm.contains (c,n))&&G.N[i]? == Δ y&&G.kd[i]? == Δ .local&&jt Z {G with cm:=Ξ,rs:=Ξ,tr:=Ξ} hd (b0::r))=Θ:=h0;simp only[d_]at h;obtain⟨⟨⟨⟨⟨h1,h2⟩,h3⟩,h4⟩,h5⟩,h6⟩:=h;have h4:=g_ h4;have h5:=g_ h5;rw[z_]at h3;obtain⟨k1,k2,k3,k4⟩:=kN g h2;intro pins s σ H Dn I JG;obtain⟨F,τ,f,m,q⟩:=JG;have hτ:τ.length=X.N.length:=by rw[<- m.Ko.len];exact I.len
  refine wpAny_Try_except ?_
  have q:IP ex (match iD cl body τ with
   |.ok (.nx τ')=>.ok (.nx τ')
   |.error (.exc c)=>JA (cs.contains c) (II (Lv (iD cl hd ((Τ τ.length Φ).set i (Δ (.exc c))))) λ
    |.nx τ'=>.ok (.nx (τ'.set i Φ))
    |_=>JE)
   |_=>JE) (Fk X.K B0 Dn):=q
  cases z:iD cl body τ with
  |ok rr=>
   rw[z]at q;cases rr with
   |nx τ'=>
    have q:Fk X.K B0 Dn (.nx τ'):=q.ok;refine wpAny_mono (rL body X.JW JW {G with rs:=Ξ,tr:=Ξ} b (uz g) h1 pins s σ H Dn (I.LM _) ⟨B0,F,τ,f,m,by rw[z];exact q⟩) (λfw s' hs=>?_) λ_ _ z=>False.elim z;have hs:=SP.J' hs;cases fw with
    |next=>exact wpAny_execs_nil hs
    |_=>exact hs
   |_=>exact q.no.elim
  |error er=>
   rw[z]at q;cases er with
   |stuck=>exact q.no.elim
   |exc c=>
    obtain⟨PU,q⟩:=IP.JA q;have hc:(c,n)∈Z.xm:=by simpa using h3 c (by simpa using PU)
    obtain⟨C,C',hn,_,Q4,hm,hex⟩:=g.NI c n x hc k2;have ps:=yq (pins:=pins) (np:=np) (hpos:=hp) (Dn:=Dn) g JY Q7 lt MF Q8 Sa Sb Sd Sf h2 hn Q4 hm hex h4 h5 h6 hτ q;have go:JR Z KI cl (Mw X.K) (qD X pins (qE X pins Dn [.ExceptHandler (Δ (.Name x np)) (Δ y) (b0::r) hp])) (λc'=>c'=c) {G with rs:=Ξ,tr:=Ξ}:=
     Bb g ⟨_,ps,λc' H e C'' hC=>by subst e;rw[hn]at hC;cases hC;rfl⟩
    refine wpAny_mono (rL body _ _ {G with rs:=Ξ,tr:=Ξ} b go h1 [] s σ H Dn (Ba I) ⟨B0,F,τ,f,m,by rw[z];exact rfl⟩) (λfw s' hs=>?_) λe s' he=>he;cases fw with
    |next=>obtain⟨JD,H',I',q'⟩:=hs;exact wpAny_execs_nil ⟨JD,H',jL I',q'⟩
    |brk=>obtain⟨JD,H',I',q'⟩:=hs;exact⟨JD,H',jL I',q'⟩
    |cont=>obtain⟨JD,H',I',q'⟩:=hs;exact⟨JD,H',jL I',q'⟩
    |ret u=>obtain⟨v,JD,H',I',rv,q'⟩:=hs;exact⟨v,JD,H',jL I',rv,q'⟩
 |_=>cases h
theorem Z3 (g:JR Z KI cl (Mw X.K) X ex G)(JY:X.stack=X.env::X.outer)(Q7:X.env.frame=Δ X.env.locals)(lt:Pl X.KJ)(MF:∀a:Ω,∀f∈Z.fns,f∈Z.pl->∀x,Z.name f=Δ x->OS X.prog X.w X.K X.mg X.base KI (X.A.mark (Δ (.ref a))) cl (Mw X.K) f x)
  {B0:Bs G.io} (Q8:B0.N=Φ) (Sa:B0.H=X.KJ) (Sb:LB B0.F B0.H) (Sd:∀a xs,¬B0.L a xs) (Sf:∀a xs,¬B0.T a xs):∀(as:Ì) (ss:Á),yu Z G as ss=Θ->LL X ss (XH X.K B0 ex (iD cl as))
 |[],ss,h=>by
  induction ss using zL with
  |nil=>exact jO jM λDn σ H ⟨F,τ,f,m,q⟩=>q.ok _ _ _ _ m
  |cons _ _=>cases h
 |a::as,ss,h=>by
  induction ss using zL with
  |nil=>cases h
  |cons s ss=>
   have h':((if yr a=Θ then tj Z G a s else sX Z G a s)&&yu Z G as ss)=Θ:=h;rw[d_]at h';have p1:PS X s (XH X.K B0 ex (K1 cl a)):=by
    by_cases ht:yr a=Θ
    ·rw[h_ ht]at h';exact DW g JY Q7 lt MF Q8 Sa Sb Sd Sf h'.1
    ·rw[f_ ht]at h';exact ju (ZU a X ex G s g h'.1) λDn σ H ⟨F,τ,f,m,q⟩=>⟨B0,F,τ,f,m,q⟩
   refine jO (jj p1 (Z3 g JY Q7 lt MF Q8 Sa Sb Sd Sf as ss h'.2)) λDn σ H JG=>?_;obtain⟨F,τ,f,m,q⟩:=JG;refine⟨F,τ,f,m,(IP.II q).mono λr hr=>?_⟩;cases r with
   |nx τ'=>exact λJD H' F' f' m'=>⟨F',τ',f',m',hr⟩
   |ct τ'=>exact hr.ok
   |bk τ'=>exact hr.ok
   |rt d=>exact hr.ok
end
abbrev uD (Z:Sg)(fn:Fn)(ps:È)(st:Stmt):Bool:=
 (iy st).kind == .function&&!(iy st).isCoroutine&&!(iy st).isGenerator&&decide (fn.G.N.Nodup)&&fn.G.N.take ps.length == ps
&&ps.all (λx=>(iy st).names.lookup x == Δ .local||(iy st).names.lookup x == Δ .cell)&&(iy st).names.all (λy=>y.2 != .free)
&&(List.range fn.G.N.length).all (λi=>(fn.G.N[i]?).bind ((iy st).names.lookup ·) == fn.G.kd[i]?)
&&fn.G.N.all (λx=>!(x == "__debug__")&&!(x == "__classdict__"))
&&fn.G.gl.all (λn=>match Z.name n with|some x=>(iy st).names.lookup x == Δ .globalImplicit|none=>Ξ)
&&decide (ps.length=fn.np)
abbrev ir (Z:Sg)(fn:Fn)(ps:È)(st:Stmt):Bool:=uD Z fn ps st&&(!fn.io&&yu Z fn.G fn.body (jd st))
abbrev mE (Z:Sg)(fn:Fn)(ps:È)(st:Stmt):Bool:=uD Z fn ps st&&(fn.io&&yg Z fn.G fn.KY (jd st)&&!fn.G.tr)
structure OG (Z:Sg)(fn:Fn)(ps:È)(st:Stmt):Prop where
 sc:Md fn.G.N ps (iy st)
 kd:∀(i:Nat) (x:Str),fn.G.N[i]? = Δ x->(iy st).names.lookup x=fn.G.kd[i]?
 MJ:∀x∈fn.G.N,(x == ("__debug__" : Str))=Ξ/\(x == ("__classdict__" : Str))=Ξ
 gl:∀n∈fn.G.gl,∀x,Z.name n=Δ x->(iy st).names.lookup x=Δ .globalImplicit
 np:ps.length=fn.np
structure Nv (Z:Sg)(fn:Fn)(ps:È)(st:Stmt):Prop extends OG Z fn ps st where
 pl:fn.io=Ξ
 body:yu Z fn.G fn.body (jd st)=Θ
structure OH (Z:Sg)(fn:Fn)(ps:È)(st:Stmt):Prop extends OG Z fn ps st where
 io:fn.io=Θ
 body:yg Z fn.G fn.KY (jd st)=Θ
 ntr:fn.G.tr=Ξ
def rM {st:Stmt}(h:uD Z fn ps st=Θ):OG Z fn ps st:=by
 unfold uD at h;simp only[d_]at h;obtain⟨⟨⟨⟨⟨⟨⟨⟨⟨⟨h1,h2⟩,h3⟩,h4⟩,h5⟩,h6⟩,h7⟩,h8⟩,h9⟩,OO⟩,P2⟩:=h;rw[z_]at h6 h7 h8 h9 OO;refine⟨⟨g_ h1,by simpa using h2,by simpa using h3,l_ h4,g_ h5,λx hx=>?_,λy hy=>by simpa using h7 y hy⟩,λi x hx=>?_,λx hx=>by simpa using h9 x hx,λn hn x hx=>?_,l_ P2⟩
 ·have:=h6 x hx;rw[J_]at this;exact this.elim (λz=>.inl (g_ z)) λz=>.inr (g_ z)
 ·have JZ:i < fn.G.N.length:=(x_.mp hx).1;have:=g_ (h8 i (aag.mpr JZ));rw[hx]at this;exact this
 ·have:=OO n hn;rw[hx]at this;exact g_ this
def rN {st:Stmt}(h:ir Z fn ps st=Θ):Nv Z fn ps st:=by unfold ir at h;rw[d_,d_]at h;exact⟨rM h.1,by simpa using h.2.1,h.2.2⟩
def yy {st:Stmt}(h:mE Z fn ps st=Θ):OH Z fn ps st:=by unfold mE at h;simp only[d_]at h;obtain⟨h1,⟨h2,h3⟩,h6⟩:=h;exact⟨rM h1,h2,h3,by simpa using h6⟩
structure Nw (K:Frag)(mg:Str->Option Ψ)(Z:Sg)(T:Tb)(f:Nat)(x:Str):Prop where
 ex:∃(fn:Fn) (st:Stmt) (fa:Ω) (fd:Ο) (ps:È),T f=Δ fn/\PX K x x st fa fd/\mg x=Δ (.ref fa)/\Binds K fd ps []/\OH Z fn ps st
structure JJ (K:Frag)(mg:Str->Option Ψ)(Z:Sg)(T:Tb)(f:Nat)(x:Str):Prop where
 ex:∃(fn:Fn) (st:Stmt) (fa:Ω) (fd:Ο) (ps:È),T f=Δ fn/\PX K x x st fa fd/\mg x=Δ (.ref fa)/\Binds K fd ps []/\Nv Z fn ps st
def Pw (mg:Str->Option Ψ)(x:Str)(v:V):Prop:=(∃C,v=.ref C/\mg x=Δ (.ref C))∨(∃T,v=.ty T/\mg x=Φ/\bootBuiltins x=Δ (.type T))
structure L' (K:Frag)(mg:Str->Option Ψ)(Z:Sg)(T:Tb):Prop where
 Nr:∀n x,Z.name n=Δ x->x≠"__name__"/\(x == ("__debug__" : Str))=Ξ
 blt:∀(n:Nat) (x:Str),i7[n]? = Δ x->mg x=Φ
 cst:∀n d x,(n,d)∈Z.TJ->Z.name n=Δ x->∃u v,mg x=Δ u/\RelV v u/\∀S H,IU K S H v d
 fns:∀f∈Z.fns,∀x,Z.name f=Δ x->JJ K mg Z T f x
 LO:∀f∈Z.LO,∀x,Z.name f=Δ x->Nw K mg Z T f x
 Z4:∀f∈Z.pl,∀fn,T f=Δ fn->fn.G.cm=Ξ
 NH:∀n∈Z.cls,∀x,Z.name n=Δ x->∃v,Pw mg x v
 MZ:∀c n b x,(c,n,b)∈Z.xt->Z.name n=Δ x->∃C,PySem.W.nsIn K Η c=Δ (Δ (.ref C))/\ExcAt K C/\∀v,Pw mg x v->PySem.W.kitOne K (.ref C) (vv v)=Δ b
 NI:∀c n x,(c,n)∈Z.xm->Z.name n=Δ x->∃C C',PySem.W.nsIn K Η c=Δ (Δ (.ref C))/\PySem.W.nsIn K Η x=Δ (Δ (.ref C'))/\nameIn K C=Δ c/\mg x=Δ (.ref C')/\PySem.W.exmOne K (.ref C) (.ref C')=Δ Θ
 Nt:∀n c,(n,c)∈Z.rc->Z.name n=Δ c/\∃C,mg c=Δ (.ref C)/\PySem.W.nsIn K Η c=Δ (Δ (.ref C))/\PySem.W.excIn K C Vg "ValueError.__new__" = Θ
theorem nh {K:Frag}:∀ {vs:Ñ}{ds:Ð} (n:Nat),IM K F H vs ds->JT K F H (vs.map Δ++Τ n Φ) ((Jz ds).map Δ++Τ n Φ) []
 |[],[],n,.nil=>by
  induction n with
  |zero=>exact .nil
  |succ n ih=>exact .none ih
 |v::vs,d::ds,n,.cons h1 h2=>.some (f:=[]) h1.frozen (nh n h2)
structure Rm (n:Nat)(A:Ι):Prop where
 dp:A.depth+3*n+5 < recursionLimit
 un:A.units+16*n+200 < cLine
def Rm.room (r:Rm n A)(hn:n < 900)(h:A.handled=Φ):KO n A:=⟨λ_=>h,by have:=r.dp;rw[Nat.mod_eq_of_lt ⋯];exact this,by have:=r.un;rw[Nat.mod_eq_of_lt ⋯];exact this⟩
def Rm.Qe (r:Rm n A)(hn:n < 900):KO (1000+n) A:=⟨λz=>⋯,by have:=r.dp;rw[show(1000+n) % 1000=n by omega];exact this,by have:=r.un;rw[show(1000+n) % 1000=n by omega];exact this⟩
def Rm.of (r:KO k A)(h:k % 1000=n):Rm n A:=⟨by have:=r.dp;rw[h]at this;exact this,by have:=r.un;rw[h]at this;exact this⟩
def qF {K:Frag}(t:L' K mg Z T)  {st:Stmt}  (hk:k % 1000=n)(hn:n < 900)(h1:T f=Δ fn)(h2:PX K x x st fa fd)(h5:Nv Z fn ps st)(hp:k < 1000∨fn.G.cm=Ξ)
  (ih:∀(A:Ι),Rm n A->∀f∈Z.fns,(A.handled=Φ∨f∈Z.pl)->∀x,Z.name f=Δ x->OS P w K mg base KI A (dj T n) (Mw K) f x)
  (Ol:∀(A:Ι),Rm n A->∀f∈Z.LO,A.handled=Φ->∀x,Z.name f=Δ x->Vi P w K mg base KI A (dj T n) f x) :
  K9 P w K mg base KI (k+1) fa fd ps (QN K (dj T (n+1)) (Mw K) f ps):=by
 have LQ:∀ds,dj T (n+1) f ds=kP (dj T n) fn ds:=λds=>by show(match T f with|some fn=>(match fn.io with|false=>kP (dj T n) fn ds|true=>kQ (dj T n) fn ds)|none=>JE)=_;rw[h1];show(match fn.io with|false=>kP (dj T n) fn ds|true=>kQ (dj T n) fn ds)=_;rw[h5.pl]
 obtain⟨oc,od,kV,doc,pm,an,LX,ct,Qr,rfl,lk,Oa⟩:=h2.ex;refine BH lk Oa h5.sc ⋯ (λvs H Q E h=>h.1) λA outer s H vs Q E hr MG=>?_;obtain⟨hl,lt,F,ds,JM,m,q⟩:=MG;have LC:fn.G.cm=Θ->A.handled=Φ:=λz=>hp.elim (λh=>hr.hd h) λh=>by rw[h]at z;cases z
 refine⟨_,Z3 (Z:=Z) (cl:=dj T n) (ex:=Mw K E H) (G:=fn.G) (B0:=⟨F,H,λ_ _=>False,λ_ _=>False,Φ⟩) ?_ rfl rfl lt (λa f' MA Q9 x' KS=>ih ((A.deeper (envOfC x (iy st) s.heap.objs.size fa LX)).mark (Δ (.ref a))) ⟨(Rm.of hr hk).dp,(Rm.of hr hk).un⟩ f' MA (.inr Q9) x' KS) rfl rfl JM (λ_ _ z=>z) (λ_ _ z=>z) fn.body (jd st) h5.body,?_⟩
 ·refine⟨rfl,h5.sc.nd,λz=>by show A.handled.isNone=Θ;rw[LC z];rfl,h5.sc.kind,?_,λ_=>PassesOwn.leaving,λi y hy=>h5.kd i y hy,λi y hy=>h5.MJ y (Y_ hy),λm hm y hy=>h5.gl m hm y hy,t.Nr,λ_ _=>rfl,t.blt,t.cst,?_,λf' MA z x' KS=>Ol _ (Rm.of hr hk) f' MA (LC z) x' KS,t.NH,t.MZ,t.NI,t.Nt,?_,?_,?_,?_,?_⟩
  ·have:=hr.un;show(A.deeper _).units+42 < cLine;omega
  ·exact λf' MA hc x' KS=>ih _ (Rm.of hr hk) f' MA (hc.elim (λz=>.inl (LC z)) .inr) x' KS
  ·exact λ_ pins σ H1 s1 c C h' e vs I hex hn hx=>yo lt (hex C hn) I hx
  ·exact λ_=>⟨rfl,rfl,lt,λa f' MA Q9 x' KS=>ih ((A.deeper (envOfC x (iy st) s.heap.objs.size fa LX)).mark (Δ (.ref a))) ⟨(Rm.of hr hk).dp,(Rm.of hr hk).un⟩ f' MA (.inr Q9) x' KS,λ_ _ _ _ _ _ z=>z,λc C H' hC C'' Z5=>by rw[hC]at Z5;cases Z5;rfl⟩
  ·exact⟨_,A9 (ex:=Mw K E H) lt λc C hc hn=>hc C hn,λc H' hc C hn=>⟨c,C,hc,hn,rfl⟩⟩
  ·exact λouter H s E e s' x fr h=>qB x fr h
  ·exact λH outer s e s'=>qC
 ·rw[LQ]at q;obtain⟨gd,q⟩:=IP.JA q;have Pp:(Jz ds).length=fn.np:=l_ gd;have LF:fn.G.N.length - vs.length=fn.G.N.length - fn.np:=by rw[m.length,<- jh ds,Pp]
  refine⟨F,(Jz ds).map Δ++Τ (fn.G.N.length - fn.np) Φ,[],⟨JM,?_,List.nodup_nil,.refl _,λa ha=>absurd ha (by simp),λa h=>h,λa h=>.inl h,λa xs h=>h.elim,λa xs h=>h.elim,λ_ _ _ z=>by cases z⟩,(IP.II q).mono λr hr=>?_⟩
  ·show JT K F H (start fn.G.N vs) _ [];unfold start;rw[LF];exact nh _ m
  ·cases r with
   |nx τ'=>exact λJD H' F' f' m'=>hr.ok .JF H' F' [] ⟨m'.JM,m'.same,.JF,List.nodup_nil,λa ha=>absurd ha (by simp),m'.Lh,m'.out⟩
   |rt d=>exact λv H' F' fv o=>hr.ok v H' F' fv o
   |bk τ'=>exact hr.no.elim
   |ct τ'=>exact hr.no.elim
theorem rO {K:Frag}(hd:JB K F H (.ref a) d fl)  (h2:IM K F H us Kz):∀ {vs:Ñ}{ds:Ð} (n:Nat),IM K F H vs ds->JT K F H ((vs++V.ref a::us).map Δ++Τ n Φ) ((Jz ds++d::Jz Kz).map Δ++Τ n Φ) fl
 |[],[],n,.nil=>by
  have:=JT.some hd (nh n h2)
  rwa [P_]at this
 |v::vs,d::ds,n,.cons h1 h3=>.some (f:=[]) h1.frozen (rO hd h2 n h3)
def yz {K:Frag}(t:L' K mg Z T)  {st:Stmt}  (hk:k % 1000=n)(hn:n < 900)(h1:T f=Δ fn)(h2:PX K x x st fa fd)(h5:OH Z fn ps st)(hp:k < 1000)
  (ih:∀(A:Ι),Rm n A->∀f∈Z.fns,(A.handled=Φ∨f∈Z.pl)->∀x,Z.name f=Δ x->OS P w K mg base KI A (dj T n) (Mw K) f x)
  (Ol:∀(A:Ι),Rm n A->∀f∈Z.LO,A.handled=Φ->∀x,Z.name f=Δ x->Vi P w K mg base KI A (dj T n) f x) :
  K9 P w K mg base KI (k+1) fa fd ps (Vh K (dj T (n+1)) f ps):=by
 have htr:=h5.ntr;have LQ:∀ds,dj T (n+1) f ds=kQ (dj T n) fn ds:=λds=>by show(match T f with|some fn=>(match fn.io with|false=>kP (dj T n) fn ds|true=>kQ (dj T n) fn ds)|none=>JE)=_;rw[h1];show(match fn.io with|false=>kP (dj T n) fn ds|true=>kQ (dj T n) fn ds)=_;rw[h5.io]
 obtain⟨oc,od,kV,doc,pm,an,LX,ct,Qr,rfl,lk,Oa⟩:=h2.ex;refine BH lk Oa h5.sc ⋯ (λvs H Q E h=>h.1) λA outer s H vs Q E hr MG=>?_;obtain⟨hl,a,F,ws,us,ds,Kz,rows,fl,rfl,AI,rows',hc,q⟩:=MG;have LC:A.handled=Φ:=hr.hd hp;refine⟨_,F9 (Z:=Z) (CX:=KI) (cl:=dj T n) (xp:=Mw K) (G:=fn.G) ?_ h5.body,?_⟩
 ·refine⟨rfl,h5.sc.nd,λz=>by show A.handled.isNone=Θ;rw[LC];rfl,h5.sc.kind,?_,λ_=>PassesOwn.leaving,λi y hy=>h5.kd i y hy,λi y hy=>h5.MJ y (Y_ hy),λm hm y hy=>h5.gl m hm y hy,t.Nr,λ_ _=>rfl,t.blt,t.cst,λf' MA hc x' KS=>ih _ (Rm.of hr hk) f' MA (.inl LC) x' KS,λf' MA z x' KS=>Ol _ (Rm.of hr hk) f' MA LC x' KS,t.NH,t.MZ,t.NI,t.Nt,λ_ pins σ H1 s1 c C h' e vs I hex hn hx=>hex.elim,(λz=>by rw[htr]at z;cases z),⟨λ_ _ _=>False,λpins σ H s e s' _ h=>(qC h).elim,λc H z=>z.elim⟩,λouter H s E e s' x fr h=>qB x fr h,λH outer s e s'=>qC⟩;have:=hr.un;show(A.deeper _).units+42 < cLine;omega
 ·rw[LQ]at hc;unfold kQ at hc;obtain⟨gd,hc⟩:=kX hc;have Pp:(Jz ds++D.lst Θ rows::Jz Kz).length=fn.np:=l_ gd;have LF:fn.G.N.length - (ws++V.ref a::us).length=fn.G.N.length - fn.np:=by rw[<- Pp,u_,u_,List.length_cons,List.length_cons,jh,jh,AI.ws.length,AI.us.length]
  have Z6:JT K F H (start fn.G.N (ws++V.ref a::us)) ((Jz ds++D.lst Θ rows::Jz Kz).map Δ++Τ (fn.G.N.length - fn.np) Φ) fl:=by unfold start;rw[LF];exact rO AI.rep AI.us _ AI.ws
  obtain⟨r,hr1,hc⟩:=iP hc;cases hc;have Z7:(Jz ds).length=2:=by rw[jh,<- AI.ws.length];exact AI.two
  have own:=AI.rep.own;have nf:∀b∈fl,¬nw F H b:=λb hb z=>z.elim (own b hb).1 λz=>by obtain⟨u,hu⟩:=(own b hb).2;rw[z]at hu;cases hu
  have toN:∀ {v:V}{d:D}{f:Î},JB K F H v d f->JB K (nw F H) H v d f:=λm=>m.step (λb u z r=>⟨.inl z,r⟩) (λ_ _ z=>z) λb _ n z=>⟨λy=>y.elim n z,rfl⟩
  refine⟨F,H,a,rows,fl,_,_,⟨AI.JM,AI.JX,nf,.refl _,toN AI.rep,?_,?_,?_,λi d z=>?_,λk z=>by cases z⟩,hr1,?_⟩
  ·unfold start;rw[X_,E_,aaH (by rw[i_,AI.two];exact q_ _),i_,AI.two];rfl
  ·show ic ((Jz ds++D.lst Θ rows::Jz Kz).map Δ++_) 2=_;unfold ic;rw[X_,E_,aaH (by rw[i_,Z7];exact q_ _),i_,Z7];rfl
  ·exact Z6.len.symm
  ·obtain⟨v,fv,g,h1,h2,_⟩:=Z6.at z;exact⟨v,fv,h1,toN h2⟩
  ·intro Z8 e H' F' L9 o;cases e;exact⟨λ_=>q H' F' L9 o,q H' F' L9 o⟩
theorem oQ {K:Frag}(t:L' K mg Z T):∀(n:Nat),n < 900->(∀(A:Ι),Rm n A->∀f∈Z.fns,(A.handled=Φ∨f∈Z.pl)->∀x,Z.name f=Δ x->OS P w K mg base KI A (dj T n) (Mw K) f x)/\
  ∀(A:Ι),Rm n A->∀f∈Z.LO,A.handled=Φ->∀x,Z.name f=Δ x->Vi P w K mg base KI A (dj T n) f x
 |0,h9=>by
  refine⟨λA hr f hf hc x hx=>?_,λA hr f hf hc x hx=>?_⟩
  ·obtain⟨fn,st,fa,fd,ps,h1,h2,h3,h4,h5⟩:=(t.fns f hf x hx).ex;have no:∀vs H Q E,¬QN K (dj T 0) (Mw K) f ps vs H Q E:=λvs H Q E ⟨_,_,F,ds,_,_,h⟩=>h;exact⟨1000+0,fa,fd,ps,h3,h2.kp,h4,⟨λvs H Q E h=>h.1,λA outer s H args us vs Q E _ _ _ _ h=>(no _ _ _ _ h).elim⟩,hr.Qe h9,λex ds k h=>h.elim⟩
  ·obtain⟨fn,st,fa,fd,ps,h1,h2,h3,h4,h5⟩:=(t.LO f hf x hx).ex;have no:∀vs H Q E,¬Vh K (dj T 0) f ps vs H Q E:=λvs H Q E ⟨_,a,F,ws,us,ds,Kz,rows,fl,_,_,rows',h,_⟩=>by cases h
   exact⟨0,fa,fd,ps,h3,h2.kp,h4,⟨λvs H Q E h=>h.1,λA outer s H args us vs Q E _ _ _ _ h=>(no _ _ _ _ h).elim⟩,hr.room h9 hc,λds r h=>by cases h⟩
 |n+1,h9=>by
  obtain⟨ih,Ol⟩:=oQ t n ⋯;refine⟨λA hr f hf hc x hx=>?_,λA hr f hf hc x hx=>?_⟩
  ·obtain⟨fn,st,fa,fd,ps,h1,h2,h3,h4,h5⟩:=(t.fns f hf x hx).ex;have hlen:∀(ex:Æ) ds (k:D->Prop),IP ex (dj T (n+1) f ds) k->ds.length=ps.length:=λex ds k h=>by
    have LQ:dj T (n+1) f ds=kP (dj T n) fn ds:=by show(match T f with|some fn=>(match fn.io with|false=>kP (dj T n) fn ds|true=>kQ (dj T n) fn ds)|none=>JE)=_;rw[h1];show(match fn.io with|false=>kP (dj T n) fn ds|true=>kQ (dj T n) fn ds)=_;rw[h5.pl]
    rw[LQ]at h;obtain⟨gd,_⟩:=IP.JA h;rw[l_ gd,h5.np]
   by_cases MF:f∈Z.pl
   ·exact⟨1000+n+1,fa,fd,ps,h3,h2.kp,h4,qF t (k:=1000+n) (n:=n) ⋯ ⋯ h1 h2 h5 (.inr (t.Z4 f MF fn h1)) ih Ol,hr.Qe h9,hlen⟩
   ·exact⟨n+1,fa,fd,ps,h3,h2.kp,h4,qF t (k:=n) (n:=n) ⋯ ⋯ h1 h2 h5 (.inl ⋯) ih Ol,hr.room h9 (hc.elim id λz=>absurd z MF),hlen⟩
  ·obtain⟨fn,st,fa,fd,ps,h1,h2,h3,h4,h5⟩:=(t.LO f hf x hx).ex;refine⟨n+1,fa,fd,ps,h3,h2.kp,h4,yz t (k:=n) (n:=n) ⋯ ⋯ h1 h2 h5 ⋯ ih Ol,hr.room h9 hc,λds r h=>?_⟩;have LQ:dj T (n+1) f ds=kQ (dj T n) fn ds:=by show(match T f with|some fn=>(match fn.io with|false=>kP (dj T n) fn ds|true=>kQ (dj T n) fn ds)|none=>JE)=_;rw[h1];show(match fn.io with|false=>kP (dj T n) fn ds|true=>kQ (dj T n) fn ds)=_;rw[h5.io]
   rw[LQ]at h;obtain⟨gd,_⟩:=kX h;rw[l_ gd,h5.np]
def Bc {K:Frag}(t:L' K mg Z T)(n:Nat)(hn:n < 900):∀(A:Ι),Rm n A->∀f∈Z.fns,(A.handled=Φ∨f∈Z.pl)->∀x,Z.name f=Δ x->OS P w K mg base KI A (dj T n) (Mw K) f x:=(oQ t n hn).1
def Pw.fn (h:Pw mg x v)(h':Pw mg x v'):v=v':=by
 rcases h with⟨C,rfl,h1⟩|⟨T,rfl,h1,h2⟩<;>rcases h' with⟨C',rfl,k1⟩|⟨T',rfl,k1,k2⟩
 ·rw[h1]at k1;cases k1;rfl
 ·rw[h1]at k1;cases k1
 ·rw[h1]at k1;cases k1
 ·rw[h2]at k2;cases k2;rfl
def Sk (K:Frag)(cl:Ä)(f:Nat)(ps:È):Sp:=λvs H Q E=>vs.length=ps.length/\∃F ds,LB F H/\IM K F H vs ds/\
 IP JW (cl f (Jz ds)) λd=>∀v H' F' fv,Out K F H F' H' v d fv->Q v H'
def yB {K:Frag}(F:K9 P w K mg base KI k fa fd ps (QN K cl (Mw K) f ps)):K9 P w K mg base KI k fa fd ps (Sk K cl f ps):=by
 refine⟨λvs H Q E h=>h.1,λA outer s H args us vs Q E hr e0 bd r MG=>?_⟩;obtain⟨hl,Fc,ds,JM,m,q⟩:=MG;have e1:Nz P w K mg base A outer s (iV s.heap H):=⟨e0.frames,e0.mod,λb o e=>⟨(e0.bs b o e).1,jT (e0.bs b o e).2⟩,e0.Nc,e0.Ks,λb hb=>jT (e0.ME b hb),xE e0.JO,e0.bare⟩
 have hq:IP (Mw K E (iV s.heap H)) (cl f (Jz ds)) λd=>∀v H' F' fv,Out K Fc H F' H' v d fv->Q v H':=by
  cases z:cl f (Jz ds) with
  |ok d=>rw[z]at q;exact q
  |error er=>
   rw[z]at q;cases er with
   |stuck=>exact q.no.elim
   |exc c=>exact False.elim q
 have hs:QN K cl (Mw K) f ps vs (iV s.heap H) (λv H'=>MY s.heap (iV s.heap H) H'->Q v (me H H')) E:=
  ⟨hl,xD _ _,_,ds,λa h=>h.2,uj e0.JO m,hq.mono λd hd v H' F' fv o p=>hd v _ _ fv (uk e0.JO JM p o)⟩
 refine codeAny_mono (F.run A outer s (iV s.heap H) args us vs _ E hr e1 bd r hs) λr' s' hq=>?_;cases r' with
 |error e=>exact qB e0.JO e0.ME hq
 |ok fl=>
  cases fl with
  |ret u=>obtain⟨v,H',a1,a2,a3,a4,a5,a6⟩:=hq;exact⟨v,me H H',a1,a2,sN e0.JO a3,sM e0.JO a4 (mf a3) (fs:=KC outer) (λb o _ e n f=>a3.keep b o e n f (by simp)) e0.ME,a5,a6 (mf a3)⟩
  |next=>exact hq
  |brk=>exact hq
  |cont=>exact hq
def DX {K:Frag}(t:L' K mg Z T)(n:Nat)(hn:n < 900)  {st:Stmt}  (h1:T f=Δ fn)(h2:PX K x x st fa fd)(h5:Nv Z fn ps st):K9 P w K mg base KI (n+1) fa fd ps (Sk K (dj T (n+1)) f ps):=
 yB (qF t (k:=n) (n:=n) ⋯ hn h1 h2 h5 (.inl ⋯) (Bc t n hn) (oQ t n hn).2)
def DY {K:Frag}{ns:Ë}(hS:Ls K H a (ns.map V.int))(hl:dj T n f [.lst Ξ (ns.map .int)]=.ok (.bl Θ)) :
  Sk K (dj T n) f [x] [.ref a] H (λv _=>v=.bl Θ) λ_ _ _=>False:=by
 have m:IM K (λa=>H a≠Φ) H [.ref a] [.lst Ξ (ns.map .int)]:=by
  refine .cons ?_ .nil;rcases hS with hS|hS
  ·exact .lst hS.some hS (IM.ofInts ns)
  ·exact .lstK hS (IM.ofInts ns)
 refine⟨rfl,λa=>H a≠Φ,[.lst Ξ (ns.map .int)],λa h=>h,m,?_⟩;have he:Jz [.lst Ξ (ns.map .int)]=[D.lst Ξ (ns.map .int)]:=by rw[Jz,Jz,er,i8,K_];rfl
 rw[he,hl];intro v H' F' fv o;cases o.rep;rfl
def yC {l:PySem.W.OpenLaw}  {K:Params->Frag}  (hn:l.most=Δ 63)(S4:d.params.defaults=[])(hr:KO (n+1) callerA)
  (hY:∀(w:Β) (h:Heap),YP w h->(K w.params).In h)
  (F:∀(w:Β) (mg:Str->Option Ψ) (fa:Ω) (h:Heap),(K w.params).In h->h.Ns Η mg->mg d.name=Δ (.ref fa)->
   ∃fd:Ο,(∀(s:Α) (u:Ψ),BindsTo s fd ⟨[u],[]⟩ [(x,u)])/\∀base:Heap,(K w.params).In base->base.Ns Η mg->K9 l.prog w (K w.params) mg base KI (n+1) fa fd [x] (Sk (K w.params) (dj T (n+1)) f [x]))
  (hl:∀ns:Ë,ns.length<=63->dj T (n+1) f [.lst Ξ (ns.map .int)]=.ok (.bl Θ)) :
  PySem.W.WalkO q loose XP YP l.row.toRowW d [] (λf vs=>PySem.call f vs):=
 L2.Ad (n:=63) (k:=n+1) (x:=x) (CX:=λw=>KI) (sp:=λw=>Sk (K w.params) (dj T (n+1)) f [x]) hn nofun S4 hr hY F (λw H a ns h1 _ hS=>DY hS (hl ns h1)) λ_ _ _ _ _ z=>qC z
section
open PySem.W
variable {K:Frag}{h:Heap}{mg:Str->Option Ψ}{Z:Sg}
abbrev adr (K:Frag)(c:Str):Option Ω:=match nsIn K Η c with
 |some (Δ (.ref C))=>Δ C
 |_=>Φ
def ni (e:adr K c=Δ C):nsIn K Η c=Δ (Δ (.ref C)):=by
 unfold adr at e;split at e
 ·cases e;assumption
 ·cases e
abbrev Vx (x:String):Option (Option Ψ)->Bool
 |some (Δ (.builtin s))=>s == x
 |_=>Ξ
def yD (e:Vx x o=Θ):o=Δ (Δ (.builtin x)):=by
 unfold Vx at e;split at e
 ·rw[g_ e]
 ·cases e
abbrev Vy:Option (Option Ψ)->Bool
 |some Φ=>Θ
 |_=>Ξ
def yE (e:Vy o=Θ):o=Δ Φ:=by
 unfold Vy at e;split at e
 ·rfl
 ·cases e
abbrev DZ (K:Frag)(C:Ω):Bool:=Vx "BaseException.__getattribute__" (findIn K (.ref C) "__getattribute__")&&Vy (findIn K (.ref C) "__getattr__")&&Vx "object.__class__" (findIn K (.ref C) "__class__")&&(mroIn K C (.type "BaseException") == Δ Θ)&&(mroIn K C (.type "object") == Δ Θ)&&(clsIn K C).isSome
def Bd (e:DZ K C=Θ):ExcAt K C:=by unfold DZ at e;simp only[d_]at e;exact⟨yD e.1.1.1.1.1,yE e.1.1.1.1.2,yD e.1.1.1.2,g_ e.1.1.2,g_ e.1.2,e.2⟩
abbrev Vz (K:Frag)(x:Str):Option V:=match nsIn K Η x with
 |some (Δ (.ref C))=>Δ (.ref C)
 |some Φ=>(match bootBuiltins x with
  |some (.type T)=>Δ (.ty T)
  |_=>Φ)
 |_=>Φ
def yF (X:K.In h)(G:h.Ns Η mg)  (e:Vz K x=Δ v):Pw mg x v:=by
 unfold Vz at e;split at e
 ·rename_i C hC
  cases e;exact .inl ⟨C,rfl,mg_of X G hC⟩
 ·rename_i hN
  split at e
  ·rename_i T hT
   cases e;exact .inr ⟨T,rfl,mg_none_of X G hN,hT⟩
  ·cases e
 ·cases e
abbrev xB (K:Frag)(Z:Sg):Bool:=
 Z.cls.all (λn=>match Z.name n with|some x=>(Vz K x).isSome|none=>Θ)
&&Z.xt.all (λp=>match adr K p.1,(Z.name p.2.1).bind (Vz K) with|some C,Δ v=>DZ K C&&(kitOne K (.ref C) (vv v) == Δ p.2.2)|_,_=>Ξ)
&&Z.xm.all (λp=>match adr K p.1,(Z.name p.2).bind (adr K) with|some C,Δ C'=>(nameIn K C == Δ p.1)&&(exmOne K (.ref C) (.ref C') == Δ Θ)|_,_=>Ξ)
&&Z.rc.all (λp=>(Z.name p.1 == Δ p.2)&&(match adr K p.2 with|some C=>excIn K C Vg "ValueError.__new__" |none=>Ξ))
def D0 (X:K.In h)(G:h.Ns Η mg)(e:xB K Z=Θ):∀n∈Z.cls,∀x,Z.name n=Δ x->∃v,Pw mg x v:=λn hn x hx=>by unfold xB at e;simp only[d_]at e;have:=z_.mp e.1.1.1 n hn;rw[hx]at this;obtain⟨v,hv⟩:=Option.isSome_iff_exists.mp this;exact⟨v,yF X G hv⟩
def D3 (X:K.In h)(G:h.Ns Η mg)(e:xB K Z=Θ):∀c n b x,(c,n,b)∈Z.xt->Z.name n=Δ x->∃C,nsIn K Η c=Δ (Δ (.ref C))/\ExcAt K C/\∀v,Pw mg x v->kitOne K (.ref C) (vv v)=Δ b:=λc n b x hm hx=>by
 unfold xB at e;simp only[d_]at e;have:=z_.mp e.1.1.2 _ hm;dsimp only at this;rw[hx]at this;split at this
 ·rename_i C v h1 h2
  rw[d_]at this;refine⟨C,ni h1,Bd this.1,λv' MI=>?_⟩;rw[Pw.fn MI (yF X G h2)];exact g_ this.2
 ·cases this
def D4 (X:K.In h)(G:h.Ns Η mg)(e:xB K Z=Θ):∀c n x,(c,n)∈Z.xm->Z.name n=Δ x->∃C C',nsIn K Η c=Δ (Δ (.ref C))/\nsIn K Η x=Δ (Δ (.ref C'))/\nameIn K C=Δ c/\mg x=Δ (.ref C')/\exmOne K (.ref C) (.ref C')=Δ Θ:=λc n x hm hx=>by
 unfold xB at e;simp only[d_]at e;have:=z_.mp e.1.2 _ hm;dsimp only at this;rw[hx]at this;split at this
 ·rename_i C C' h1 h2
  rw[d_]at this;exact⟨C,C',ni h1,ni h2,g_ this.1,mg_of X G (ni h2),g_ this.2⟩
 ·cases this
def D5 (X:K.In h)(G:h.Ns Η mg)(e:xB K Z=Θ):∀n c,(n,c)∈Z.rc->Z.name n=Δ c/\∃C,mg c=Δ (.ref C)/\nsIn K Η c=Δ (Δ (.ref C))/\excIn K C Vg "ValueError.__new__" = Θ:=λn c hm=>by
 unfold xB at e;simp only[d_]at e;have:=z_.mp e.2 _ hm;rw[d_]at this;obtain⟨h1,h2⟩:=this;dsimp only at h2;split at h2
 ·rename_i C hC
  exact⟨g_ h1,C,mg_of X G (ni hC),ni hC,h2⟩
 ·cases h2
abbrev bB (K:Frag):Bool:=i7.all λy=>Vy (nsIn K Η y)
def Ga (X:K.In h)(G:h.Ns Η mg)(e:bB K=Θ):∀(n:Nat) (x:Str),i7[n]? = Δ x->mg x=Φ:=λn x hx=>mg_none_of X G (yE (z_.mp e x (Y_ hx)))
end
def dt:II (.ok a) f=f a:=rfl
def dw:JA Θ x=x:=rfl
def IY:IV cl (.c d) τ=.ok d:=rfl
def IZ:IV cl (.g n d) τ=.ok d:=rfl
def I0:IV cl (.v i) τ=(match ic τ i with|some d=>.ok d|none=>JE):=rfl
abbrev Gb (cl:Ä)(op:RH)(b:IR)(τ:Ev)(x:D):Res D:=II (IV cl b τ) (Lm op x)
def bh:Gb cl op b τ x=II (IV cl b τ) (Lm op x):=rfl
def dx:IV cl (.bin op a b) τ=II (IV cl a τ) (Gb cl op b τ):=rfl
abbrev Gd:D->Res D
 |.int i=>.ok (.int (-i))
 |_=>JE
def dz:IV cl (.neg a) τ=II (IV cl a τ) Gd:=rfl
def bq:Gd (.int i)=.ok (.int (-i)):=rfl
abbrev VA (r:Bool):Res D:=.ok (.bl r)
def dA:VA r=.ok (.bl r):=rfl
abbrev rP (op:Ot)(x y:D):Res D:=II (Lc op x y) VA
def aL:rP op x y=II (Lc op x y) VA:=rfl
abbrev Ge (cl:Ä)(op:Ot)(b:IR)(τ:Ev)(x:D):Res D:=II (IV cl b τ) (rP op x)
def br:Ge cl op b τ x=II (IV cl b τ) (rP op x):=rfl
def dB:IV cl (.cmp op a b) τ=II (IV cl a τ) (Ge cl op b τ):=rfl
abbrev D6 (cl:Ä)(KN:Ot)(c:IR)(τ:Ev)(y:D)(r:Bool):Res D:=if r=Θ then II (IV cl c τ) (rP KN y) else .ok (.bl Ξ)
def bt:D6 cl KN c τ y r=if r=Θ then II (IV cl c τ) (rP KN y) else .ok (.bl Ξ):=rfl
abbrev D7 (cl:Ä)(op KN:Ot)(c:IR)(τ:Ev)(x y:D):Res D:=II (Lc op x y) (D6 cl KN c τ y)
def bu:D7 cl op KN c τ x y=II (Lc op x y) (D6 cl KN c τ y):=rfl
abbrev Z9 (cl:Ä)(op KN:Ot)(b c:IR)(τ:Ev)(x:D):Res D:=II (IV cl b τ) (D7 cl op KN c τ x)
def dC:Z9 cl op KN b c τ x=II (IV cl b τ) (D7 cl op KN c τ x):=rfl
def aM:IV cl (.chain op KN a b c) τ=II (IV cl a τ) (Z9 cl op KN b c τ):=rfl
abbrev yG (cl:Ä)(b:IR)(τ:Ev)(x:D)(r:Bool):Res D:=if r=Θ then IV cl b τ else .ok x
def aN:yG cl b τ x r=if r=Θ then IV cl b τ else .ok x:=rfl
abbrev Gf (cl:Ä)(b:IR)(τ:Ev)(x:D):Res D:=II (iK x) (yG cl b τ x)
def bw:Gf cl b τ x=II (iK x) (yG cl b τ x):=rfl
def dD:IV cl (.J0 a b) τ=II (IV cl a τ) (Gf cl b τ):=rfl
abbrev D8 (cl:Ä)(b:IR)(τ:Ev)(x:D)(r:Bool):Res D:=if r=Θ then .ok x else IV cl b τ
def bx:D8 cl b τ x r=if r=Θ then .ok x else IV cl b τ:=rfl
abbrev Z' (cl:Ä)(b:IR)(τ:Ev)(x:D):Res D:=II (iK x) (D8 cl b τ x)
def dE:Z' cl b τ x=II (iK x) (D8 cl b τ x):=rfl
def fR:IV cl (.Ll a b) τ=II (IV cl a τ) (Z' cl b τ):=rfl
abbrev yI (r:Bool):Res D:=.ok (.bl !r)
def aO:yI r=.ok (.bl !r):=rfl
abbrev Gg (x:D):Res D:=II (iK x) yI
def bA:Gg x=II (iK x) yI:=rfl
def dF:IV cl (.KH a) τ=II (IV cl a τ) Gg:=rfl
abbrev yJ (cl:Ä)(a b:IR)(τ:Ev)(r:Bool):Res D:=if r=Θ then IV cl a τ else IV cl b τ
def aP:yJ cl a b τ r=if r=Θ then IV cl a τ else IV cl b τ:=rfl
abbrev Gh (cl:Ä)(a b:IR)(τ:Ev)(x:D):Res D:=II (iK x) (yJ cl a b τ)
def bC:Gh cl a b τ x=II (iK x) (yJ cl a b τ):=rfl
def dG:IV cl (.ite t a b) τ=II (IV cl t τ) (Gh cl a b τ):=rfl
abbrev tupK (ds:Ð):Res D:=JA (jb ds.length) (.ok (.tup ds))
def bD:tupK ds=JA (jb ds.length) (.ok (.tup ds)):=rfl
def dH:IV cl (.tup es) τ=II (iG cl es τ) tupK:=rfl
abbrev lstK (ds:Ð):Res D:=JA (jb ds.length) (.ok (.lst Θ ds))
def bE:lstK ds=JA (jb ds.length) (.ok (.lst Θ ds)):=rfl
def dI:IV cl (.lst es) τ=II (iG cl es τ) lstK:=rfl
abbrev Gi (cl:Ä)(i:IR)(τ:Ev)(x:D):Res D:=II (IV cl i τ) (iO x)
def bF:Gi cl i τ x=II (IV cl i τ) (iO x):=rfl
def dJ:IV cl (.idx a i) τ=II (IV cl a τ) (Gi cl i τ):=rfl
abbrev D9 (cl:Ä)(hi:Option IR)(τ:Ev)(x:D)(l:Option Int):Res D:=II (qk cl hi τ) (mR x l)
def bG:D9 cl hi τ x l=II (qk cl hi τ) (mR x l):=rfl
abbrev slK (cl:Ä)(lo hi:Option IR)(τ:Ev)(x:D):Res D:=II (qk cl lo τ) (D9 cl hi τ x)
def dK {lo:Option IR}:slK cl lo hi τ x=II (qk cl lo τ) (D9 cl hi τ x):=rfl
def fS {lo:Option IR}:IV cl (.sl a lo hi) τ=II (IV cl a τ) (slK cl lo hi τ):=rfl
abbrev BY (cl:Ä)(f:Nat)(ds:Ð):Res D:=cl f (Jz ds)
def aQ:BY cl f ds=cl f (Jz ds):=rfl
def bH:IV cl (.call f es) τ=II (iG cl es τ) (BY cl f):=rfl
def fT:IV cl (.bi f es) τ=II (iG cl es τ) (lC f):=rfl
abbrev Gj (k:Kd)(x:D):Res D:=JA (l7 x) (.ok (.bl (jE k x)))
def bJ:Gj k x=JA (l7 x) (.ok (.bl (jE k x))):=rfl
def fU:l7 .JF=Θ:=rfl
def fV:l7 (.bl b)=Θ:=rfl
def fW:l7 (.int i)=Θ:=rfl
def fX:l7 (.str x)=Θ:=rfl
def fY:l7 (.tup ds)=Θ:=rfl
def fZ:l7 (.lst o ds)=Θ:=rfl
def bK:IV cl (.Ly a b) τ=II (IV cl a τ) λx=>II (IV cl b τ) λy=>uc x y:=rfl
def bL:IV cl (.Lx a) τ=II (IV cl a τ) Aq:=rfl
def f6:Aq (.lst o ds)=.ok (.lst Θ ds.reverse):=rfl
def bM:IV cl (.sset a) τ=II (IV cl a τ) ud:=rfl
def dM:IV cl (.Lu a k) τ=II (IV cl a τ) (Gj k):=rfl
abbrev Gk (cl:Ä)(m:Mt)(es:Í)(τ:Ev)(x:D):Res D:=JA (lL x) (II (iG cl es τ) (pC m x))
def bN:Gk cl m es τ x=JA (lL x) (II (iG cl es τ) (pC m x)):=rfl
def dN:IV cl (.OQ m o es) τ=II (IV cl o τ) (Gk cl m es τ):=rfl
abbrev Ea (ds:Ð):Res D:=.ok (.lst Θ ds)
def bP:Ea ds=.ok (.lst Θ ds):=rfl
abbrev BZ (cl:Ä)(G:Gm)(fr:Ê)(T:Tg)(I:Í)(E:IR)(τ:Ev)(its:Ð):Res D:=JA (ke its.length) (II (Lv (iz (iF cl T I E (KY G fr τ)) its)) Ea)
def aR {its:Ð}:BZ cl G fr T I E τ its=JA (ke its.length) (II (Lv (iz (iF cl T I E (KY G fr τ)) its)) Ea):=rfl
def bQ:IV cl (.comp G fr T s I E) τ=II (kl cl s τ) (BZ cl G fr T I E τ):=rfl
def f7:iG cl [] τ=.ok []:=rfl
abbrev yL (d:D)(ds:Ð):Res (Ð):=.ok (d::ds)
def aT:yL d ds=.ok (d::ds):=rfl
abbrev rsK (cl:Ä)(es:Í)(τ:Ev)(d:D):Res (Ð):=II (iG cl es τ) (yL d)
def dO:rsK cl es τ d=II (iG cl es τ) (yL d):=rfl
def f9:iG cl (e::es) τ=II (IV cl e τ) (rsK cl es τ):=rfl
abbrev Gn:D->Res (Option Int)
 |.int i=>.ok (Δ i)
 |_=>JE
def bR:Gn (.int i)=.ok (Δ i):=rfl
def gb:qk cl Φ τ=.ok Φ:=rfl
def gc:qk cl (Δ e) τ=II (IV cl e τ) Gn:=rfl
def gf:kj cl [] τ=.ok Θ:=rfl
abbrev tsK (cl:Ä)(es:Í)(τ:Ev)(r:Bool):Res Bool:=if r=Θ then kj cl es τ else .ok Ξ
def dP:tsK cl es τ r=if r=Θ then kj cl es τ else .ok Ξ:=rfl
def gh:kj cl (e::es) τ=II (II (IV cl e τ) iK) (tsK cl es τ):=rfl
abbrev B1:D->Res (Ð)
 |.int i=>JA (nu i) (.ok (iU 0 i))
 |_=>JE
def aU:B1 (.int i)=JA (nu i) (.ok (iU 0 i)):=rfl
def gk:kl cl (.J3 n) τ=II (IV cl n τ) B1:=rfl
abbrev Gq (cl:Ä)(τ:Ev)(b:IR)(x:D):Res (Ð):=II (IV cl b τ) λy=>oC x y
abbrev yM (x y:D):Res (Ð):=oC x y
def bT:Gq cl τ b x=II (IV cl b τ) (yM x):=rfl
def az:yM (.lst o ds) (.lst o' es)=.ok (jZ ds es):=rfl
def aA:yM (.tup ds) (.tup es)=.ok (jZ ds es):=rfl
def dQ:kl cl (.zip a b) τ=II (IV cl a τ) (Gq cl τ b):=rfl
def dR:kl cl (.val e) τ=II (IV cl e τ) mS:=rfl
def gm:mS (.lst o ds)=.ok ds:=rfl
def gp:mS (.tup ds)=.ok ds:=rfl
def gq:mS (.str x)=JA (jb x.length) (.ok (jo x)):=rfl
def Ja:ND cl t τ=II (IV cl t τ) iK:=rfl
def ÿb:Kx cl mv (.v i) τ=(match ic τ i with|some d=>if mv=Θ then .ok (d,τ.set i Φ) else .ok (er d,τ.set i (Δ (er d)))|none=>JE):=rfl
abbrev B2 (p:Ð×Ev):Res (D×Ev):=JA (jb p.1.length) (.ok (.tup p.1,p.2))
def aV:B2 p=JA (jb p.1.length) (.ok (.tup p.1,p.2)):=rfl
def ÿag:Kx cl mv (.tup es) τ=II (pE cl mv es τ) B2:=rfl
abbrev B3 (p:Ð×Ev):Res (D×Ev):=JA (jb p.1.length) (.ok (.lst Θ p.1,p.2))
def aW:B3 p=JA (jb p.1.length) (.ok (.lst Θ p.1,p.2)):=rfl
def ÿah:Kx cl mv (.lst es) τ=II (pE cl mv es τ) B3:=rfl
abbrev qG (es:Í)(τ:Ev)(d:D):Res (D×Ev):=if iM d=Θ then .ok (d,τ) else .ok (d,JQ (ie es) τ)
def ag:qG es τ d=if iM d=Θ then .ok (d,τ) else .ok (d,JQ (ie es) τ):=rfl
abbrev yN (cl:Ä)(f:Nat)(es:Í)(τ:Ev)(ds:Ð):Res (D×Ev):=II (cl f (Jz ds)) (qG es τ)
def aB:yN cl f es τ ds=II (cl f (Jz ds)) (qG es τ):=rfl
def ÿa:Kx cl mv (.call f es) τ=II (iG cl es τ) (yN cl f es τ):=rfl
abbrev jW (e:IR)(τ:Ev)(d:D):Res (D×Ev):=.ok (iJ e d τ)
def aX:jW e τ d=.ok (iJ e d τ):=rfl
def Jb:Kx cl mv (.c d) τ=II (IV cl (.c d) τ) (jW (.c d) τ):=rfl
def dS:Kx cl mv (.bin op a b) τ=II (IV cl (.bin op a b) τ) (jW (.bin op a b) τ):=rfl
def dT:Kx cl mv (.neg a) τ=II (IV cl (.neg a) τ) (jW (.neg a) τ):=rfl
def dU:Kx cl mv (.cmp op a b) τ=II (IV cl (.cmp op a b) τ) (jW (.cmp op a b) τ):=rfl
def dW:Kx cl mv (.J0 a b) τ=II (IV cl (.J0 a b) τ) (jW (.J0 a b) τ):=rfl
def dX:Kx cl mv (.idx a i) τ=II (IV cl (.idx a i) τ) (jW (.idx a i) τ):=rfl
def gr {lo:Option IR}:Kx cl mv (.sl a lo hi) τ=II (IV cl (.sl a lo hi) τ) (jW (.sl a lo hi) τ):=rfl
def ah:Kx cl mv (.bi .min2 es) τ=II (IV cl (.bi .min2 es) τ) (jW (.bi .min2 es) τ):=rfl
def aj:Kx cl mv (.bi .max2 es) τ=II (IV cl (.bi .max2 es) τ) (jW (.bi .max2 es) τ):=rfl
def aC:Kx cl mv (.bi .all es) τ=II (IV cl (.bi .all es) τ) (jW (.bi .all es) τ):=rfl
def bU:Kc (.lst o ds,τ)=.ok (.tup ds,τ):=rfl
def dY:Kx cl mv (.bi .tuple [e]) τ=II (Kx cl mv e τ) Kc:=rfl
def bV:Kx cl mv (.Ly a b) τ=II (IV cl (.Ly a b) τ) (jW (.Ly a b) τ):=rfl
def bW:Kx cl mv (.Lx a) τ=II (IV cl (.Lx a) τ) (jW (.Lx a) τ):=rfl
def bX:Kx cl mv (.sset a) τ=II (IV cl (.sset a) τ) (jW (.sset a) τ):=rfl
def dZ:Kx cl mv (.OQ m o es) τ=II (IV cl (.OQ m o es) τ) (jW (.OQ m o es) τ):=rfl
def bY:Kx cl mv (.comp G fr T s I E) τ=II (IV cl (.comp G fr T s I E) τ) (jW (.comp G fr T s I E) τ):=rfl
def gu:pE cl mv [] τ=.ok ([],τ):=rfl
abbrev Eb (d:D)(q:Ð×Ev):Res (Ð×Ev):=.ok (d::q.1,q.2)
def bZ:Eb d q=.ok (d::q.1,q.2):=rfl
abbrev osK (cl:Ä)(mv:Bool)(es:Í)(p:D×Ev):Res (Ð×Ev):=II (pE cl mv es p.2) (Eb p.1)
def d7:osK cl mv es p=II (pE cl mv es p.2) (Eb p.1):=rfl
def gy:pE cl mv (e::es) τ=II (Kx cl mv e τ) (osK cl mv es):=rfl
abbrev XN (d:D):Res (Å):=.ok (Δ d)
def ek:XN d=.ok (Δ d):=rfl
abbrev Ec (cl:Ä)(E:IR)(τ:Ev)(r:Bool):Res (Å):=if r=Θ then II (IV cl E τ) XN else .ok Φ
def b8:Ec cl E τ r=if r=Θ then II (IV cl E τ) XN else .ok Φ:=rfl
abbrev bdK (cl:Ä)(I:Í)(E:IR)(τ:Ev):Res (Å):=II (kj cl I τ) (Ec cl E τ)
def eB:bdK cl I E τ=II (kj cl I τ) (Ec cl E τ):=rfl
def aY:iF cl T I E τ x=II (jq T x τ) (bdK cl I E):=rfl
def b9:KY G fr τ=fr.map (ic τ)++Τ (G.N.length - fr.length) Φ:=rfl
def Jc:iJ e (.int i) τ=(.int i,τ):=rfl
def Jd:iJ e (.str x) τ=(.str x,τ):=rfl
def Je:iJ e (.bl b) τ=(.bl b,τ):=rfl
def Jf:iJ e .JF τ=(.JF,τ):=rfl
abbrev XQ (τ':Ev):Res Fl:=.ok (.nx τ')
def eC:XQ τ=.ok (.nx τ):=rfl
abbrev Gr (tg:Tg)(p:D×Ev):Res Fl:=II (jq tg p.1 p.2) XQ
def cb:Gr tg p=II (jq tg p.1 p.2) XQ:=rfl
def ÿaa:K1 cl (.asg tg e) τ=II (Kx cl Ξ e τ) (Gr tg):=rfl
abbrev Gu (i:Nat)(p:D×Ev)(ds:Ð):D->Res Fl
 |.int z=>(match Kv ds.length z with
  |some j=>.ok (.nx (p.2.set i (Δ (.lst Θ (ds.set j p.1)))))
  |none=>JE)
 |_=>JE
abbrev Gv (cl:Ä)(i:Nat)(k:IR)(p:D×Ev):Å->Res Fl
 |some (.lst Θ ds)=>II (IV cl k p.2) (Gu i p ds)
 |_=>JE
abbrev Ed (cl:Ä)(i:Nat)(k:IR)(p:D×Ev):Res Fl:=Gv cl i k p (ic p.2 i)
def aD:Ed cl i k p=Gv cl i k p (ic p.2 i):=rfl
abbrev Ee (i:Nat)(p:D×Ev):Å->Res Fl
 |some (.lst Θ ds)=>JA (ke ds.length) (.ok (.nx (p.2.set i (Δ (.lst Θ (ds++[p.1]))))))
 |_=>JE
abbrev Ef (i:Nat)(p:D×Ev):Res Fl:=Ee i p (ic p.2 i)
def cf:Ef i p=Ee i p (ic p.2 i):=rfl
abbrev Gw (cl:Ä)(i:Nat)(e:IR)(τ:Ev):Å->Res Fl
 |some (.lst _ _)=>II (Kx cl Ξ e τ) (Ef i)
 |_=>JE
def cg:Gw cl i e τ (Δ (.lst o ds))=II (Kx cl Ξ e τ) (Ef i):=rfl
def ck:Ee i p (Δ (.lst Θ ds))=JA (ke ds.length) (.ok (.nx (p.2.set i (Δ (.lst Θ (ds++[p.1])))))):=rfl
def cq {its:Ð}:Au j τ its=JA (ke its.length) (.ok (.nx (τ.set j (Δ (.lst Θ (Τ (its.length+1) (.lst Θ []))))))):=rfl
def ÿab:K1 cl (.RL j G fr t s) τ=II (kl cl s τ) (Au j τ):=rfl
def cu:K1 cl (.Ph i j e c x v w) τ=xj cl i j e c x v w τ (ic τ i):=rfl
def cw:xj cl i j e c x v w τ (Δ (.lst Θ ds))=II (IV cl e τ) (Aw cl i j c x v w ds τ):=rfl
def cy:Aw cl i j c x v w ds τ (.int z)=sJ cl i j c x v w ds τ (Kv ds.length z):=rfl
def ÿac:K1 cl (.app i e) τ=Gw cl i e τ (ic τ i):=rfl
abbrev Gx (τ:Ev)(d:D):Res Fl:=.ok (.nx τ)
def cz:Gx τ d=.ok (.nx τ):=rfl
def ÿae:K1 cl (.exp e) τ=II (IV cl e τ) (Gx τ):=rfl
abbrev rtK (p:D×Ev):Res Fl:=.ok (.rt p.1)
def eD:rtK p=.ok (.rt p.1):=rfl
def ÿad:K1 cl (.ret e) τ=II (Kx cl Θ e τ) rtK:=rfl
abbrev ifK (cl:Ä)(a b:Ì)(τ:Ev)(r:Bool):Res Fl:=if r=Θ then iD cl a τ else iD cl b τ
def eE:ifK cl a b τ r=if r=Θ then iD cl a τ else iD cl b τ:=rfl
def cA:K1 cl (.Ka n c w) τ=.error (.exc c):=rfl
abbrev Gy (c:Str)(d:D):Res Fl:=.error (.exc c)
def cB:Gy c d=.error (.exc c):=rfl
def aZ:K1 cl (.K3 n c e) τ=II (Lv (IV cl e τ)) (Gy c):=rfl
def eF:IV cl (.P5 x a y) τ=II (IV cl a τ) (vE x y):=rfl
def du:vE x y (.str z)=JA (jb (x.length+(reprText z).length+(y.getD Str.empty).length)) (.ok (.str (x++reprText z++y.getD Str.empty))):=rfl
def eG:II (.error (.exc c)) f=.error (.exc c):=rfl
def ÿai:K1 cl (.JV t a b) τ=II (ND cl t τ) (ifK cl a b τ):=rfl
abbrev turn (cl:Ä)(tg:Tg)(body:Ì)(x:D)(τ:Ev):Res Fl:=II (jq tg x τ) (iD cl body)
def iq:turn cl tg body x τ=II (jq tg x τ) (iD cl body):=rfl
abbrev Gz (cl:Ä)(tg:Tg)(body:Ì)(p:Ð×Ev):Res Fl:=forM (turn cl tg body) p.1 p.2
def cC:Gz cl tg body p=forM (turn cl tg body) p.1 p.2:=rfl
def ÿaf:K1 cl (.Kl tg s body) τ=II (sI cl s τ) (Gz cl tg body):=rfl
abbrev Eg (f:Ev->Res Fl):Fl->Res Fl
 |.nx τ'=>f τ'
 |.ct τ'=>.ok (.ct τ')
 |.bk τ'=>.ok (.bk τ')
 |.rt d=>.ok (.rt d)
def gA:iD cl [] τ=.ok (.nx τ):=rfl
def gB:iD cl (s::r) τ=II (K1 cl s τ) (Eg (iD cl r)):=rfl
def eI:Eg f (.nx τ)=f τ:=rfl
def eJ:Eg f (.rt d)=.ok (.rt d):=rfl
abbrev GB (τ:Ev)(its:Ð):Res (Ð×Ev):=.ok (its,τ)
def cD {its:Ð}:GB τ its=.ok (its,τ):=rfl
abbrev B4 (e:IR)(τ:Ev)(its:Ð):Res (Ð×Ev):=.ok (Jz its,JQ (vars e) τ)
def ba {its:Ð}:B4 e τ its=.ok (Jz its,JQ (vars e) τ):=rfl
def eK:sI cl (.J3 n) τ=II (kl cl (.J3 n) τ) (GB τ):=rfl
def eL:sI cl (.val e) τ=II (kl cl (.val e) τ) (B4 e τ):=rfl
abbrev GC (body:D->Ev->Res Fl)(xs:Ð):Fl->Res Fl
 |.nx τ'=>forM body xs τ'
 |.ct τ'=>forM body xs τ'
 |.bk τ'=>.ok (.nx τ')
 |.rt d=>.ok (.rt d)
def dq:forM body (x::xs) τ=II (body x τ) (GC body xs):=rfl
def GD:GC body xs (.nx τ)=forM body xs τ:=rfl
def gC:jq (.nm i) d τ=.ok (τ.set i (Δ d)):=rfl
def gD:jq (.tp ts) (.tup ds) τ=JA (decide (ds.length=ts.length)) (lG ts ds τ):=rfl
def eM:lG [] [] τ=.ok τ:=rfl
def eN:lG (t::ts) (d::ds) τ=II (jq t d τ) (lG ts ds):=rfl
def eO {τ:Ev}{o p:Å}:(o::τ).set 0 p=p::τ:=rfl
def eP {τ:Ev}{o p:Å}{i:Nat}:(o::τ).set (i+1) p=o::τ.set i p:=rfl
def eQ:Lm .add (.int a) (.int b)=.ok (.int (a+b)):=rfl
def bg:Lm .add (.str a) (.str b)=JA (jb (a.length+b.length)) (.ok (.str (a++b))):=rfl
def cE:Lm .add (.lst o a) (.lst o' b)=JA (jb (a.length+b.length)) (.ok (.lst Θ (a++b))):=rfl
def eR:Lm .sub (.int a) (.int b)=.ok (.int (a - b)):=rfl
def B5:Lm .mul (.int a) (.int b)=JA (decide (-(2 ^ 64) < a/\a < 2 ^ 64)||decide (-(2 ^ 64) < b/\b < 2 ^ 64)) (.ok (.int (a*b))):=rfl
def cG:Lm .mul (.str a) (.int b)=JA (decide (-16000<=b/\b<=16000/\a.length<=1000)) (.ok (.str (Txt.mul a b))):=rfl
def Eh:Lm .fdiv (.int a) (.int b)=JA (decide (0 < b/\b < 1073741824)) (.ok (.int (a / b))):=rfl
def GF:Lm .mod (.int a) (.int b)=JA (decide (0 < b)) (.ok (.int (a % b))):=rfl
def eS:Lm .pow (.int a) (.int b)=JA (decide (0<=b/\b<=1000000/\a.natAbs < 2 ^ 64)) (.ok (.int (a ^ b.toNat))):=rfl
def x_l:iO (.lst o ds) (.int i)=(match KQ ds i with|some d=>.ok d|none=>JE):=rfl
def x_s:iO (.str z) (.int i)=JA (jb z.length) (match KQ z.cps.toList i with|some c=>.ok (.str ⟨#[c]⟩)|none=>JE):=rfl
def fO {lo:Option Int}:mR (.lst o ds) lo hi=.ok (.lst Θ (jY ds lo hi)):=rfl
def gE {lo:Option Int}:mR (.str z) lo hi=JA (jb z.length) (.ok (.str (Txt.slice z lo hi))):=rfl
def gF:iK (.bl b)=.ok b:=rfl
def GG:Lc .eq a b=Ke 40 a b:=by cases a<;>cases b<;>rfl
abbrev yO (r:Bool):Res Bool:=.ok !r
def cH:yO r=.ok !r:=rfl
def GH:Lc .ne a b=II (Ke 40 a b) yO:=by cases a<;>cases b<;>rfl
def gG:Ke (n+1) (.int a) (.int b)=.ok (a == b):=rfl
def fP:Ke (n+1) (.str a) (.str b)=.ok (a == b):=rfl
def eU:Ke (n+1) (.str x) (.JF)=.ok Ξ:=rfl
def eV:Ke (n+1) (.str x) (.bl b')=.ok Ξ:=rfl
def e9:Ke (n+1) (.str x) (.int i')=.ok Ξ:=rfl
def fg:Ke (n+1) (.str x) (.tup ds')=.ok Ξ:=rfl
def ft:Ke (n+1) (.str x) (.lst o' ds')=.ok Ξ:=rfl
def gH:Ke (n+1) (.tup a) (.tup b)=j7 (Ke n) a b:=rfl
def gI:Ke (n+1) (.lst o a) (.lst o' b)=j7 (Ke n) a b:=rfl
def gJ:Lc .lt (.int a) (.int b)=.ok (decide (a < b)):=rfl
def gK:Lc .le (.int a) (.int b)=.ok (decide (a<=b)):=rfl
def gM:Lc .gt (.int a) (.int b)=.ok (decide (b < a)):=rfl
def fu:Lc .Mu (.str y) (.str x)=.ok (jz x y):=rfl
def cI:Lc .Mi (.str y) (.str x)=.ok (!jz x y):=rfl
def B6:Lc .Mu a (.lst o ds)=Kb a ds:=by cases a<;>rfl
def yQ:Lc .Mi a (.lst o ds)=II (Kb a ds) yO:=by cases a<;>rfl
def GI:Lc .RK a .JF=.ok (pT a):=by cases a<;>rfl
def Jg:pT (.tup ds)=Ξ:=rfl
def Jh:pT (.lst o ds)=Ξ:=rfl
def yR:Lc .Mi a (.tup ds)=II (Kb a ds) yO:=by cases a<;>rfl
def gN:Kb d []=.ok Ξ:=rfl
abbrev Ei (x y:Bool):Res Bool:=.ok (x||y)
def cJ:Ei x y=.ok (x||y):=rfl
abbrev anK (d:D)(r:Ð)(x:Bool):Res Bool:=II (Kb d r) (Ei x)
def dv:anK d r x=II (Kb d r) (Ei x):=rfl
def fQ:Kb d (e::r)=II (Ke 40 e d) (anK d r):=rfl
def fy:lC .len [.str x]=JA (jb x.length) (.ok (.int x.length)):=rfl
def fA:lC .len [.tup ds]=.ok (.int ds.length):=rfl
def fB:lC .len [.lst o ds]=.ok (.int ds.length):=rfl
def cK:lC .min2 [.int a,.int b]=.ok (.int (if b < a then b else a)):=rfl
def cL:lC .max2 [.int a,.int b]=.ok (.int (if b > a then b else a)):=rfl
def yS (ns:È):kg (ns.map .str)=Δ ns:=by
 induction ns with
 |nil=>rfl
 |cons n ns ih=>show(kg (ns.map .str)).map (n::·)=_;rw[ih];rfl
def uE (ns:List Bool):jR (ns.map .bl)=Δ ns:=by
 induction ns with
 |nil=>rfl
 |cons n ns ih=>show(jR (ns.map .bl)).map (n::·)=_;rw[ih];rfl
def cM:lC .abs [.int i]=.ok (.int (if i < 0 then -i else i)):=rfl
def oR {bs:List Bool}:lC .any [.lst o (bs.map .bl)]=.ok (.bl (bs.any id)):=by
 show(match jR (bs.map .bl) with|some bs=>.ok (.bl (bs.any id))|none=>JE)=(_:Res D)
 rw[uE]
def kG {bs:List Bool}:lC .all [.lst o (bs.map .bl)]=.ok (.bl (bs.all id)):=by
 show(match jR (bs.map .bl) with|some bs=>.ok (.bl (bs.all id))|none=>JE)=(_:Res D)
 rw[uE]
def Be (h:(ys.map (·.length)).sum+ys.length*x.length<=16777216):pC .join (.str x) [.lst o (ys.map .str)]=.ok (.str (Txt.join x ys)):=by
 show(match kg (ys.map .str) with|some ys=>JA (decide ((ys.map (λy:Str=>y.length)).sum+ys.length*x.length<=16777216)) (.ok (.str (Txt.join x ys)))|none=>JE)=(_:Res D)
 rw[yS];show JA (decide _) _=_;rw[y_ h];rfl
def fC:lL (.str x)=Θ:=rfl
def cN:jE .str (.str x)=Θ:=rfl
def cO:jE .int (.int x)=Θ:=rfl
def cP:jE .bool (.int x)=Ξ:=rfl
def cQ:jE .tuple (.tup x)=Θ:=rfl
def aE:jE .str (.tup ds)=Ξ:=rfl
def aF:jE .str (.lst o ds)=Ξ:=rfl
def aG:jE .int (.JF)=Ξ:=rfl
def aH:jE .int (.bl b)=Θ:=rfl
def aI:jE .int (.str x)=Ξ:=rfl
def aJ:jE .int (.tup ds)=Ξ:=rfl
def aK:jE .int (.lst o ds)=Ξ:=rfl
def ak:jE .bool (.JF)=Ξ:=rfl
def aq:jE .bool (.bl b)=Θ:=rfl
def au:jE .bool (.str x)=Ξ:=rfl
def av:jE .bool (.tup ds)=Ξ:=rfl
def aw:jE .bool (.lst o ds)=Ξ:=rfl
def ax:jE .list (.tup ds)=Ξ:=rfl
def ay:jE .list (.lst o ds)=Θ:=rfl
def ae:jE .tuple (.lst o ds)=Ξ:=rfl
def yT (ns:Ë):ij (ns.map .int)=Θ:=by rw[jw,List.all_map,z_];intro x _;rfl
def tq (ns:È):ij (ns.map .str)=Θ:=by rw[jw,List.all_map,z_];intro x _;rfl
def gO:er (.int i)=.int i:=by rw[er]
def gP:er (.str i)=.str i:=by rw[er]
def gQ:er (.bl i)=.bl i:=by rw[er]
def gR:er .JF=.JF:=by rw[er]
def ÿaj {ds:Ð}:er (.tup ds)=.tup (Jz ds):=by rw[er]
def gU:er (.lst o ds)=.lst Ξ (Jz ds):=by rw[er]
def fD:Jz []=[]:=by rw[Jz]
def fE:Jz (d::ds)=er d::Jz ds:=by rw[Jz]
def ja (ns:Ë):Jz (ns.map .int)=ns.map .int:=jJ (yT ns)
def jk (ns:È):Jz (ns.map .str)=ns.map .str:=jJ (tq ns)
def fF:iw (.int i)=Θ:=rfl
def fG:iw (.str i)=Θ:=rfl
def cR:ij []=Θ:=rfl
def cS:ij (d::ds)=(iw d&&ij ds):=rfl
abbrev yU:Fl->Res D
 |.nx _=>.ok .JF
 |.rt d=>.ok d
 |_=>JE
def run (h:ds.length=fn.np):kP cl fn ds=II (iD cl fn.body (ds.map Δ++Τ (fn.G.N.length - fn.np) Φ)) yU:=by unfold kP;rw[y_ h];rfl
def cT:yU (.nx τ)=.ok .JF:=rfl
def cU:yU (.rt d)=.ok d:=rfl
def call (h:T f=Δ fn)(h0:fn.io=Ξ):dj T (n+1) f ds=kP (dj T n) fn ds:=by show(match T f with|some fn=>(match fn.io with|false=>kP (dj T n) fn ds|true=>kQ (dj T n) fn ds)|none=>JE)=_;rw[h];show(match fn.io with|false=>kP (dj T n) fn ds|true=>kQ (dj T n) fn ds)=_;rw[h0]
def cV:kW (.comp G fr t s i (.tup es)) ds=Ξ:=rfl
def gV:iM (.int i)=Θ:=rfl
def gW:iM (.str i)=Θ:=rfl
def gX:iM (.bl i)=Θ:=rfl
def gY:iM (.tup ds)=jg ds:=rfl
def gZ:iM (.lst o ds)=(o&&jg ds):=rfl
def fH:jg []=Θ:=rfl
def fI:jg (d::ds)=(iM d&&jg ds):=rfl
abbrev Ii (d:D):Res D:=.ok (.tup [.JF,d])
def goI (h:T f=Δ fn)(h0:fn.io=Θ)(h1:fn.np=m)(h2:fn.G.N.length=k)(h3:fn.KY=B)(hl:ds.length=m) :
  dj T (n+1) f ds=II (jS (dj T n) B.c B.pre (j8 (dj T n) B.c B.en) (ds.map Δ++Τ (k - m) Φ,Φ)) Ii:=by
 show(match T f with|some fn=>(match fn.io with|false=>kP (dj T n) fn ds|true=>kQ (dj T n) fn ds)|none=>JE)=_;rw[h];show(match fn.io with|false=>kP (dj T n) fn ds|true=>kQ (dj T n) fn ds)=_;rw[h0];show kQ (dj T n) fn ds=_;unfold kQ;rw[y_ (show ds.length=fn.np by rw[hl,h1]),h1,h2,h3];rfl
def dn:jS cl c [] k p=k p:=rfl
abbrev GJ (cl:Ä)(f i:Nat)(es es2:Í)(τ:Ev)(ds as bs:Ð):Res Fl:=II (Lv (cl f (Jz as++.lst Θ (ds.map l8)::Jz bs))) (qY i (JQ (ie es++ie es2) τ))
abbrev GK (cl:Ä)(f i:Nat)(es es2:Í)(τ:Ev)(ds as:Ð):Res Fl:=II (iG cl es2 τ) (GJ cl f i es es2 τ ds as)
def ÿba (h:ic τ i=Δ (.lst Θ ds)):K1 cl (.P6 f es i es2) τ=II (iG cl es τ) (GK cl f i es es2 τ ds):=by show(match ic τ i with|some (.lst Θ ds)=>II (iG cl es τ) (GK cl f i es es2 τ ds)|_=>JE)=_;rw[h]
def go (h:T f=Δ fn)(h0:fn.io=Ξ)(h1:fn.np=m)(h2:fn.G.N.length=k)(h3:fn.body=body)(hl:ds.length=m) :
  dj T (n+1) f ds=II (iD (dj T n) body (ds.map Δ++Τ (k - m) Φ)) yU:=by
 rw[call h h0,run (by rw[hl,h1]),h1,h2,h3]
def line:Ζ=16777216:=sizeLine_eq
def yV (h1 : -18446744073709551616 < a)(h2:a < 18446744073709551616):Lm .mul (.int a) (.int b)=.ok (.int (a*b)):=by rw[B5,y_ (show -(2 ^ 64) < a/\a < 2 ^ 64 from⟨⋯,⋯⟩)];rfl
def yW (h1 : -18446744073709551616 < b)(h2:b < 18446744073709551616):Lm .mul (.int a) (.int b)=.ok (.int (a*b)):=by rw[B5,y_ (show -(2 ^ 64) < b/\b < 2 ^ 64 from⟨⋯,⋯⟩),Bool.or_true];rfl
def yX (h1:0 < b)(h2:b < 1073741824):Lm .fdiv (.int a) (.int b)=.ok (.int (a / b)):=by rw[Eh,y_ ⟨h1,h2⟩];rfl
def B7 (h1:0 < b):Lm .mod (.int a) (.int b)=.ok (.int (a % b)):=by rw[GF,y_ h1];rfl
def kH (h:n<=16777216):jb n=Θ:=y_ (by rw[line];exact h)
def oU (h:n < 16777216):ke n=Θ:=y_ (by rw[line];exact h)
def uF (h1 : -4611686018427387904<=i)(h2:i < 4611686018427387904):nu i=Θ:=y_ ⟨⋯,⋯⟩
def uG (f:α->β)(xs:List α)(i:Int):KQ (xs.map f) i=(KQ xs i).map f:=by
 unfold KQ;rw[i_];cases Kv xs.length i with
 |none=>rfl
 |some j=>exact D_ ..
def tu (d:α)(h0:0<=i)(h1:i < xs.length):KQ xs i=Δ (xs.getD i.toNat d):=by
 unfold KQ Kv;rw[h_ h0,h_ h1];show xs[i.toNat]? = _;have:i.toNat < xs.length:=⋯
 rw[aaj,C_ this];rfl
def VB {o:Bool}{xs:Ë}{i:Int}(h0:0<=i)(h1:i < xs.length):iO (.lst o (xs.map .int)) (.int i)=.ok (.int (xs.getD i.toNat 0)):=by rw[x_l,uG,tu 0 h0 h1];rfl
def Ej {o:Bool}{xs:È}{i:Int}(h0:0<=i)(h1:i < xs.length):iO (.lst o (xs.map .str)) (.int i)=.ok (.str (xs.getD i.toNat ⟨#[]⟩)):=by rw[x_l,uG,tu ⟨#[]⟩ h0 h1];rfl
def Ur (h0:0<=i)(h1:i < z.length)(hz:z.length<=16777216):iO (.str z) (.int i)=.ok (.str ⟨#[z.cps.toList.getD i.toNat 0]⟩):=by
 rw[x_s,kH hz];have hl:z.cps.toList.length=z.length:=by simp[Str.length]
 rw[tu 0 h0 (by rw[hl];exact h1)];rfl
abbrev fz:Bool->Å->Å
 |true,Δ d=>Δ (er d)
 |true,Φ=>Φ
 |false,o=>o
def g6:fz Θ (Δ d)=Δ (er d):=rfl
def g7:fz Ξ o=o:=rfl
def B8:mT is k (o::τ)=fz (is.contains k) o::mT is (k+1) τ:=by show(if is.contains k then o.map er else o)::mT is (k+1) τ=_;cases is.contains k<;>induction o using zO<;>rfl
def g9:vars (.c d)=[]:=rfl
def hJ:vars (.g n d)=[]:=rfl
def hU:vars (.v i)=[i]:=rfl
def cW:vars (.bin o a b)=vars a++vars b:=rfl
def cX:vars (.tup es)=ie es:=rfl
def cY:vars (.lst es)=ie es:=rfl
def bc:vars (.call f es)=ie es:=rfl
def fJ:vars (.bi f es)=ie es:=rfl
def cZ:vars (.idx a i)=vars a++vars i:=rfl
def fK:ie []=[]:=rfl
def fL:ie (e::es)=vars e++ie es:=rfl
def bf:iL (.comp G fr t s i e)=Θ:=rfl
def dg:iL (.bin .add a b)=Θ:=rfl
def fM:iL (.sl a b c)=Θ:=rfl
def dh:iL (.idx a i)=Ξ:=rfl
def Ek:iJ e (.lst o ds) τ=cond (iL e) (cond (ij ds) (.lst Θ ds,τ) (cond (kW e ds) (.lst Θ ds,τ) (.lst Θ (Jz ds),JQ (vars e) τ))) (.lst Ξ (Jz ds),JQ (vars e) τ):=by
 unfold iJ;rw[f_ (show ¬iw (.lst o ds)=Θ by intro z;cases z)];cases iL e
 ·exact Prod.ext (by show er (.lst o ds)=_;rw[er];rfl) rfl
 ·show(if ij ds=Θ then _ else if kW e ds=Θ then _ else _)=_;cases ij ds
  ·cases kW e ds<;>rfl
  ·rfl
def GL:iJ e (.tup ds) τ=cond (ij ds) (.tup ds,τ) (.tup (Jz ds),JQ (vars e) τ):=by
 unfold iJ;cases h:ij ds with
 |true=>rw[h_ (show iw (.tup ds)=Θ from h)];rfl
 |false=>rw[f_ (show ¬iw (.tup ds)=Θ by intro z;rw[show iw (.tup ds)=ij ds from rfl,h]at z;cases z)];cases iL e<;>exact Prod.ext (by show er (.tup ds)=_;rw[er];rfl) rfl
theorem uH (P:Nat->Ev->Prop):∀(its:Ð) (k:Nat) (τ:Ev),P k τ->(∀(i:Nat) (x:D) (τ:Ev),its[i]? = Δ x->P (k+i) τ->∃τ',body x τ=.ok (.nx τ')/\P (k+i+1) τ')->∃τ',forM body its τ=.ok (.nx τ')/\P (k+its.length) τ'
 |[],k,τ,h,_=>⟨τ,rfl,h⟩
 |x::xs,k,τ,h,hb=>by
  obtain⟨Pj,e1,h1⟩:=hb 0 x τ rfl h;obtain⟨τ2,e2,h2⟩:=uH P xs (k+1) Pj h1 λi y σ hy hp=>by obtain⟨τ',e',h'⟩:=hb (i+1) y σ (by simpa using hy) (by rw[show k+(i+1)=k+1+i by omega];exact hp);exact⟨τ',e',by rw[show k+1+i+1=k+(i+1)+1 by omega];exact h'⟩
  refine⟨τ2,?_,by rw[List.length_cons,show k+(xs.length+1)=k+1+xs.length by omega];exact h2⟩;rw[dq,e1,dt,GD,e2]
def kI (P:Nat->Ev->Prop){its:Ð}  (h:P 0 τ)(hb:∀(i:Nat)(x:D)(τ:Ev),its[i]? = Δ x->P i τ->∃τ',body x τ=.ok (.nx τ')/\P (i+1) τ'):∃τ',forM body its τ=.ok (.nx τ')/\P its.length τ':=by
 obtain⟨τ',h1,h2⟩:=uH P its 0 τ h λi x τ hx hp=>by rw[Nat.zero_add]at hp ⊢;exact hb i x τ hx hp
 exact⟨τ',h1,by rw[Nat.zero_add]at h2;exact h2⟩
theorem i4 {α β:Type}{g:D->Res (Å)}(N2:α->D)(out:α->β)(Ra:β->D):∀(xs:List α),(∀x∈xs,g (N2 x)=.ok (Δ (Ra (out x))))->iz g (xs.map N2)=.ok ((xs.map out).map Ra)
 |[],_=>rfl
 |x::xs,h=>by show II (g (N2 x)) _=_;rw[h x (by simp)];show II (iz g (xs.map N2)) _=_;rw[i4 N2 out Ra xs λy hy=>h y (H_ _ hy)];rfl
def fN:Lv (.ok a:Res α)=.ok a:=rfl
def oV (a b:Int):iU a b=((List.range (b - a).toNat).map λk=>a+(k:Nat)).map .int:=by unfold iU;rw[K_];rfl
def Ji:ic (o::τ) 0=o:=rfl
def Jj:ic (o::τ) (i+1)=ic τ i:=rfl
def Jk:mT is k []=[]:=rfl
def Jl {a k:Nat}{l:Ê}:List.contains (a::l) k=((k == a)||l.contains k):=rfl
def Jm {k:Nat}:List.contains [] k=Ξ:=rfl
def Jn:fz b (Δ (.int i))=Δ (.int i):=by cases b<;>rfl
def Jo:fz b (Δ (.str i))=Δ (.str i):=by cases b<;>rfl
def Jp:fz b Φ=Φ:=by cases b<;>rfl
open PySem
def Jr {P:D}:iO (.tup [P]) (.int 0)=.ok P:=rfl
def Js {P Q:D}:iO (.tup [P,Q]) (.int 0)=.ok P:=rfl
def Jt {P Q:D}:iO (.tup [P,Q]) (.int 1)=.ok Q:=rfl
def Ju {P Q R:D}:iO (.tup [P,Q,R]) (.int 0)=.ok P:=rfl
def Jv {P Q R:D}:iO (.tup [P,Q,R]) (.int 1)=.ok Q:=rfl
def Jw {P Q R:D}:iO (.tup [P,Q,R]) (.int 2)=.ok R:=rfl
def Jx {o:Bool}{P Q:D}:iO (.lst o [P,Q]) (.int 0)=.ok P:=rfl
def Jy {o:Bool}{P Q:D}:iO (.lst o [P,Q]) (.int 1)=.ok Q:=rfl
def Zaa {a b:Prop}(x:a)(y:b):a/\b:=⟨x,y⟩
abbrev Jq:=(Zaa (Zaa (Zaa (Zaa (Zaa @GG @GH) (Zaa @B6 (Zaa @yQ @GI))) (Zaa (Zaa @yR (Zaa @oR @kG)) (Zaa @ja (Zaa @jk @ÿba)))) (Zaa (Zaa (Zaa @yV @yW) (Zaa @yX (Zaa @B7 @kH))) (Zaa (Zaa @oU (Zaa @uF @VB)) (Zaa @Ej (Zaa @Ur @B8))))) (Zaa (Zaa (Zaa (Zaa @Ek @GL) (Zaa @yT (Zaa @tq @Bool.or_false))) (Zaa (Zaa @Bool.or_true (Zaa @List.replicate_succ.{0} @List.replicate_zero.{0})) (Zaa @List.length_cons.{0} (Zaa @List.length_nil.{0} @Nat.zero_add)))) (Zaa (Zaa (Zaa @decide_true (Zaa @Bool.and_self @Bool.not_true)) (Zaa @Bool.not_false (Zaa @Bool.and_true @Bool.true_and))) (Zaa (Zaa @Bool.and_false (Zaa @Bool.false_and @beq_self_eq_true.{0})) (Zaa @if_true.{1} (Zaa @if_false.{1} @aap))))))
namespace Fr
open PySem
abbrev yY (f:Nat):Gm:={N:=["_law_own","_law_part"],kd:=[.local,.local],gl:=[f],df:=Ξ}
abbrev OI (f:Nat):Ì:=
 [.JV (.cmp .RK (.v 1) (.c .JF)) [.ret (.cmp .RK (.v 0) (.c .JF))] [],.JV (.Ll (.Lu (.v 1) .bool) (.Lu (.v 0) .bool)) [.ret (.J0 (.Lu (.v 1) .bool) (.J0 (.Lu (.v 0) .bool) (.cmp .eq (.v 0) (.v 1))))] [],.JV (.Lu (.v 1) .str) [.ret (.J0 (.Lu (.v 0) .str) (.cmp .eq (.v 0) (.v 1)))] [],.JV (.Lu (.v 1) .int) [.ret (.J0 (.Lu (.v 0) .int) (.cmp .eq (.v 0) (.v 1)))] [],.JV (.Lu (.v 1) .tuple) [.JV (.KH (.Lu (.v 0) .tuple)) [.ret (.c (.bl Ξ))] []] [.JV (.KH (.Lu (.v 0) .list)) [.ret (.c (.bl Ξ))] []],.JV (.cmp .ne (.bi .len [.v 0]) (.bi .len [.v 1])) [.ret (.c (.bl Ξ))] [],.ret (.bi .all [.comp (yY f) [] (.tp [.nm 0,.nm 1]) (.zip (.v 0) (.v 1)) [] (.call f [.v 0,.v 1])])]
abbrev rQ (f:Nat)(x:Str):Gm:={N:=[x],kd:=[.local],gl:=[f],df:=Ξ}
abbrev OJ (f:Nat)(x:Str):Ì:=
 [.JV (.Lu (.v 0) .list) [.ret (.comp (rQ f x) [] (.nm 0) (.val (.v 0)) [] (.call f [.v 0]))] [],.JV (.Lu (.v 0) .tuple) [.ret (.bi .tuple [.comp (rQ f x) [] (.nm 0) (.val (.v 0)) [] (.call f [.v 0])])] [],.ret (.v 0)]
end Fr
end L2
local macro_rules | `(tactic| simp! [$xs,*]) =>do
 let a ← ("Nat.reduceBEq Nat.reduceSub Nat.reduceAdd reduceIte cond_true cond_false List.map_cons List.map_nil List.cons_append List.nil_append Bool.true_or Bool.false_or".splitOn " "++("Ji Jj eO eP Jk Jl Jm gO gP gQ gR ÿaj gU fD fE g9 hU cW bc fK fL cX cY fJ cZ bh dA aL br bt bu dC aN bw bx dE aO bA aP bC bD bE bF bG dK aQ bJ bN bP aR aT dO dP bT aV aW ag aB aX bU bZ d7 ek b8 eB eC cb aD cf cq cw cy cz eD eE cB cC cD ba cH cJ dv fN dt dw IY IZ I0 dx dz bq dB aM dD fR dF dG dH dI dJ fS bH fT fU fV fW fX fY fZ bK bL f6 bM dM dN bQ f7 f9 bR gb gc gf gh aU gk az aA dQ dR gm gp gq Ja ÿb ÿag ÿah ÿa Jb dS dT dU dW dX gr ah aj aC dY bV bW bX dZ bY gu gy aY b9 Jc Jd Je Jf ÿaa cg ck ÿab cu ÿac ÿae ÿad cA aZ eF du eG ÿai ÿaf gA gB eI eJ eK eL dq gC gD eM eN eQ bg cE eR cG eS fO gE gF gG fP eU eV e9 fg ft gH gI gJ gK gM fu cI Jg Jh gN fQ fy fA fB cK cL cM fC cN cO cP cQ aE aF aG aH aI aJ aK ak aq au av aw ax ay ae fF fG cR cS cT cU cV gV gW gX gY gZ fH fI dn g6 g7 hJ bf dg fM dh".splitOn " ").map ("L2."++·)).toArray.mapM λs =>`(Lean.Parser.Tactic.simpLemma| $(Lean.mkIdent s.toName):ident)
 `(tactic| simp (disch :=omega) only [L2.Jq,$a,*,↓L2.Jn,↓L2.Jo,↓L2.Jp,↓L2.Jr,↓L2.Js,↓L2.Jt,↓L2.Ju,↓L2.Jv,↓L2.Jw,↓L2.Jx,↓L2.Jy,$xs,*])
namespace Law
open PySem L2
abbrev top (i:Nat):Stmt:=PySem.Challenge.pw_flagroll_k33_switch_refused.main.body.getD i (.Pass ⟨0,0,0,0⟩)
abbrev tw:BK:=⟨4,[.row 5 (.v 3),.NF (.cmp .eq (.v 4) (.lst [])),.KP 6 (.call 43 [.v 0,.v 1,.bi .len [.v 4]]),.item (.tp [.nm 7,.nm 8,.nm 9]) 4 (.v 6),.KP 10 (.call 43 [.v 0,.bin .add (.v 1) (.c (.int 1)),.c (.int 4)])],(.ch (.cmp .eq (.v 10) (.c (.int 0))) [] (.wa (.v 6) (.tup [.v 7,.call 42 [.v 0,.bin .add (.v 1) (.c (.int 2))],.v 9])) (.ch (.cmp .eq (.v 10) (.c (.int 1))) [] (.wa (.v 6) (.tup [.c (.str "nogroups"),.idx (.lst [.c (.str "in"),.c (.str "out")]) (.call 43 [.v 0,.bin .add (.v 1) (.c (.int 2)),.c (.int 2)]),.sl (.lst [.c (.int 5)]) Φ (Δ (.call 43 [.v 0,.bin .add (.v 1) (.c (.int 3)),.c (.int 2)]))])) (.ch (.cmp .eq (.v 10) (.c (.int 2))) [.KP 11 (.idx (.lst [.c (.bl Θ),.c .JF,.bin .pow (.c (.int 10)) (.c (.int 9)),.c (.str "abcdefghi"),.c (.str "A"),.lst [.c (.int 1)]]) (.call 43 [.v 0,.bin .add (.v 1) (.c (.int 2)),.c (.int 6)]))] (.wa (.v 6) (.tup [.v 7,.v 8,.bin .add (.v 9) (.lst [.v 11])])) (.wa (.v 6) (.tup [.v 7,.v 8,.idx (.lst [.sl (.v 9) Φ (Δ (.c (.int 0))),.bin .mul (.v 9) (.c (.int 11)),.bin .add (.v 9) (.lst [.c (.int 1),.c (.int 2)])]) (.call 43 [.v 0,.bin .add (.v 1) (.c (.int 2)),.c (.int 3)])])))))⟩
abbrev tB:BK:=⟨4,[.NF (.cmp .eq (.v 2) (.lst [])),.KP 3 (.call 43 [.v 0,.v 1,.bi .len [.v 2]]),.row 5 (.v 3),.KP 6 (.call 43 [.v 0,.bin .add (.v 1) (.c (.int 1)),.c (.int 3)])],(.ch (.cmp .eq (.v 6) (.c (.int 0))) [] (.wb (.v 3) (.bin .add (.tup [.call 42 [.v 0,.bin .add (.v 1) (.c (.int 2))]]) (.sl (.v 5) (Δ (.c (.int 1))) Φ))) (.ch (.cmp .eq (.v 6) (.c (.int 1))) [.KP 7 (.call 43 [.v 0,.bin .add (.v 1) (.c (.int 2)),.c (.int 9)]),.KP 8 (.lst [.tup [.v 7,.c (.int 5)],.tup [.bin .add (.v 7) (.call 43 [.v 0,.bin .add (.v 1) (.c (.int 3)),.c (.int 2)]),.idx (.lst [.c (.int 6),.c (.int 10008),.bin .sub (.c (.int 0)) (.c (.int 1))]) (.call 43 [.v 0,.bin .add (.v 1) (.c (.int 4)),.c (.int 3)])]])] (.wb (.v 3) (.tup [.c (.str "share"),.c (.str "on"),.v 8])) (.sub 55 [.v 0,.bin .add (.v 1) (.c (.int 6))] [.v 3])))⟩
abbrev Z:Sg:={nm:=(["LETTERS","SIGNS","PLACES","SALT_LENGTH","is_text_of","check_salt","WORDS","MOST_THINGS","GREATEST_TOLD","LONGEST_TOLD","OUTCOMES","is_whole","is_told_text","is_told_number","things_go","cond_checked","stages_checked","outcome_checked","switch_checked","_law_whole","_law_short","_law_odd","_law_draw","_law_names","_law_salt"]:È)++(["_law_cond_fault","_law_switch_fault","_law_allot","_law_stem","_law_text","_law_center","_law_number","_law_thing","_law_cond","_law_spoil_cond","_law_stages","_law_outcome","_law_rules","_law_spoil","_law_marks_of","_law_marks_due","law","NoSalt","_law_same","_law_copy","NoWord","NoGroup","BadThings","BadOutcome","BadStage"]:È)++(["BadShare","NoRule","NoSwitch","Ringed","Twice","Unlike","ValueError","RollError"]:È),TJ:=[(21,(.str "abcdefghijklmnopqrstuvwxyz")),(22,(.str "abcdefghijklmnopqrstuvwxyz0123456789")),(23,(.int 10007)),(24,(.int 12)),(27,(.tup [.str "is",.str "not",.str "begins",.str "least",.str "most",.str "has",.str "lacks",.str "in",.str "out"])),(28,(.int 10)),(29,(.int 999999999)),(30,(.int 8)),(31,(.tup [.str "face",.str "share",.str "lot"]))],fns:=[32,25,26,33,34,35,36,37,38,39,43,44,45,48,49,50,51,52,53,54,56,57,58,64,65,42,40,41,46,47,60,61,62],cls:=[69,71,70,68,67,72,63,73,66,74,75,76,77],xt:=([("NoSalt",63),("NoWord",66),("NoGroup",67),("BadThings",68),("BadOutcome",69),("BadStage",70)]:List (Str×Nat)).flatMap λx:Str×Nat=>[69,71,70,68,67,72,63,73,66,74,75,76,77].map λk=>(x.1,k,k==x.2||k==77),pl:=[],rc:=[(63,"NoSalt"),(66,"NoWord"),(67,"NoGroup"),(68,"BadThings"),(69,"BadOutcome"),(70,"BadStage")],xm:=[(Ρ "NoSalt",78),(Ρ "NoWord",78),(Ρ "NoGroup",78),(Ρ "BadThings",78),(Ρ "BadOutcome",78),(Ρ "BadStage",78)],LO:=[55,59]}
abbrev oW (x y:Str):IR:=(.Ll (.cmp .eq (.v 7) (.c (.str x))) (.cmp .eq (.v 7) (.c (.str y))))
abbrev cB1:Ì:=[.asg (.nm 9) (.comp {N:=["_law_script","_law_k","_law_stem_here","_law_center_here","_law_j"],kd:=[.cell,.cell,.cell,.cell,.local],gl:=[53],df:=Ξ} [0,1,4,5] (.nm 4) (.J3 (.bin .add (.c (.int 1)) (.call 43 [.v 0,.bin .add (.v 1) (.c (.int 2)),.c (.int 2)]))) [] (.call 53 [.v 0,.bin .add (.bin .add (.v 1) (.c (.int 3))) (.bin .mul (.c (.int 5)) (.v 4)),.v 2,.v 3]))]
abbrev cB2:Ì:=[.asg (.nm 9) (.comp {N:=["_law_script","_law_k","_law_stem_here","_law_j"],kd:=[.cell,.cell,.cell,.local],gl:=[50],df:=Ξ} [0,1,4] (.nm 3) (.J3 (.bin .add (.c (.int 1)) (.call 43 [.v 0,.bin .add (.v 1) (.c (.int 2)),.c (.int 2)]))) [] (.call 50 [.v 0,.bin .add (.bin .add (.v 1) (.c (.int 3))) (.bin .mul (.c (.int 5)) (.v 3)),.v 2])),.asg (.nm 9) (.comp {N:=["_law_stem_here","_law_thing_here"],kd:=[.cell,.local],gl:=[],df:=Ξ} [4] (.nm 1) (.val (.v 9)) [] (.ite (.cmp .ne (.v 1) (.c (.str ""))) (.v 1) (.sl (.v 0) Φ (Δ (.c (.int 1))))))]
abbrev cB3:Ì:=[.asg (.nm 9) (.lst [.call 52 [.v 0,.bin .add (.v 1) (.c (.int 3)),.v 5]])]
abbrev cB4:Ì:=[.asg (.nm 8) (.idx (.v 3) (.call 43 [.v 0,.bin .add (.v 1) (.c (.int 2)),.bi .len [.v 3]]))]
abbrev Us:Ì:=[.JV (oW "is" "not") cB1 [],.JV (.cmp .eq (.v 7) (.c (.str "begins"))) cB2 [],.JV (oW "least" "most") cB3 [],.JV (oW "in" "out") cB4 [],.ret (.tup [.v 8,.v 7,.v 9])]
abbrev VC:Ì:=[.asg (.nm 7) (.lst [.c (.int 0),.c (.int 10007),.v 2,.bin .add (.v 2) (.c (.int 1)),.v 2,.call 43 [.v 0,.bin .add (.bin .add (.v 1) (.c (.int 2))) (.v 6),.c (.int 10008)]]),.app 4 (.tup [.v 5,.idx (.v 7) (.call 43 [.v 0,.bin .add (.bin .add (.v 1) (.c (.int 5))) (.v 6),.c (.int 6)])]),.asg (.nm 5) (.bin .add (.bin .add (.v 5) (.c (.int 1))) (.call 43 [.v 0,.bin .add (.bin .add (.v 1) (.c (.int 8))) (.v 6),.c (.int 3)]))]
abbrev Ut:Ì:=[.app 11 (.call 54 [.v 0,.bin .add (.bin .add (.bin .add (.v 1) (.c (.int 6))) (.bin .mul (.c (.int 60)) (.v 10))) (.bin .mul (.c (.int 14)) (.v 12)),.v 2,.v 3,.v 5,.v 6])]
abbrev Uu:Ì:=[.asg (.nm 11) (.lst []),.Kl (.nm 12) (.J3 (.call 43 [.v 0,.bin .add (.bin .add (.v 1) (.c (.int 1))) (.v 10),.c (.int 3)])) Ut,.app 9 (.tup [.v 11,.call 57 [.v 0,.bin .add (.bin .add (.v 1) (.c (.int 40))) (.bin .mul (.c (.int 60)) (.v 10)),.v 4,.v 7,.v 8]])]
abbrev XR:IR:=(.cmp .eq (.call 43 [.v 0,.bin .add (.v 1) (.c (.int 7)),.c (.int 2)]) (.c (.int 0)))
abbrev Sn:IR:=(.J0 (.cmp .ne (.v 10) (.lst [])) (.cmp .eq (.idx (.idx (.v 10) (.neg (.c (.int 1)))) (.c (.int 1))) (.v 8)))
abbrev Uv:IR:=(.neg (.c (.int 1)))
abbrev Uw:IR:=(.tup [.idx (.idx (.v 10) (.neg (.c (.int 1)))) (.c (.int 0)),.v 9])
abbrev VD:IR:=(.tup [.v 8,.v 9])
abbrev So:Ì:=[.asg (.tp [.nm 8,.nm 9]) (.idx (.v 5) (.v 7)),.Ph 6 10 (.call 43 [.v 0,.bin .add (.bin .add (.v 1) (.c (.int 8))) (.v 7),.bi .len [.v 6]]) Sn Uv Uw VD]
abbrev XT:Ì:=[.RL 6 {N:=["_law_face"],kd:=[.local],gl:=[],df:=Ξ} [] 0 (.val (.v 2)),.Kl (.nm 7) (.J3 (.bi .len [.v 5])) So,.ret (.tup [.comp {N:=["_law_faces","_law_runs","_law_j"],kd:=[.cell,.cell,.local],gl:=[],df:=Ξ} [2,6] (.nm 2) (.J3 (.bi .len [.v 2])) [] (.tup [.idx (.v 0) (.v 2),.idx (.v 1) (.v 2)]),.idx (.v 6) (.bi .len [.v 2])])]
abbrev Ux:Ì:=(.JV XR [.asg (.nm 5) (.Lx (.v 5))] [])::XT
abbrev hB:Ì:=[.asg (.nm 2) (.lst [.Mk (.v 3) [69] [(Ρ "NoSalt",Ξ),(Ρ "NoWord",Ξ),(Ρ "NoGroup",Ξ),(Ρ "BadThings",Ξ),(Ρ "BadOutcome",Θ),(Ρ "BadStage",Ξ)],.Mk (.v 3) [71] [(Ρ "NoSalt",Ξ),(Ρ "NoWord",Ξ),(Ρ "NoGroup",Ξ),(Ρ "BadThings",Ξ),(Ρ "BadOutcome",Ξ),(Ρ "BadStage",Ξ)],.Mk (.v 3) [70] [(Ρ "NoSalt",Ξ),(Ρ "NoWord",Ξ),(Ρ "NoGroup",Ξ),(Ρ "BadThings",Ξ),(Ρ "BadOutcome",Ξ),(Ρ "BadStage",Θ)],.Mk (.v 3) [68] [(Ρ "NoSalt",Ξ),(Ρ "NoWord",Ξ),(Ρ "NoGroup",Ξ),(Ρ "BadThings",Θ),(Ρ "BadOutcome",Ξ),(Ρ "BadStage",Ξ)]]),.asg (.nm 2) (.bin .add (.v 2) (.lst [.Mk (.v 3) [67] [(Ρ "NoSalt",Ξ),(Ρ "NoWord",Ξ),(Ρ "NoGroup",Θ),(Ρ "BadThings",Ξ),(Ρ "BadOutcome",Ξ),(Ρ "BadStage",Ξ)],.Mk (.v 3) [72] [(Ρ "NoSalt",Ξ),(Ρ "NoWord",Ξ),(Ρ "NoGroup",Ξ),(Ρ "BadThings",Ξ),(Ρ "BadOutcome",Ξ),(Ρ "BadStage",Ξ)],.Mk (.v 3) [63] [(Ρ "NoSalt",Θ),(Ρ "NoWord",Ξ),(Ρ "NoGroup",Ξ),(Ρ "BadThings",Ξ),(Ρ "BadOutcome",Ξ),(Ρ "BadStage",Ξ)],.Mk (.v 3) [73] [(Ρ "NoSalt",Ξ),(Ρ "NoWord",Ξ),(Ρ "NoGroup",Ξ),(Ρ "BadThings",Ξ),(Ρ "BadOutcome",Ξ),(Ρ "BadStage",Ξ)]])),.asg (.nm 2) (.bin .add (.v 2) (.lst [.Mk (.v 3) [66] [(Ρ "NoSalt",Ξ),(Ρ "NoWord",Θ),(Ρ "NoGroup",Ξ),(Ρ "BadThings",Ξ),(Ρ "BadOutcome",Ξ),(Ρ "BadStage",Ξ)],.Mk (.v 3) [74] [(Ρ "NoSalt",Ξ),(Ρ "NoWord",Ξ),(Ρ "NoGroup",Ξ),(Ρ "BadThings",Ξ),(Ρ "BadOutcome",Ξ),(Ρ "BadStage",Ξ)],.Mk (.v 3) [75] [(Ρ "NoSalt",Ξ),(Ρ "NoWord",Ξ),(Ρ "NoGroup",Ξ),(Ρ "BadThings",Ξ),(Ρ "BadOutcome",Ξ),(Ρ "BadStage",Ξ)],.Mk (.v 3) [76] [(Ρ "NoSalt",Ξ),(Ρ "NoWord",Ξ),(Ρ "NoGroup",Ξ),(Ρ "BadThings",Ξ),(Ρ "BadOutcome",Ξ),(Ρ "BadStage",Ξ)]])),.asg (.nm 2) (.bin .add (.v 2) (.lst [.Mk (.v 3) [77] [(Ρ "NoSalt",Θ),(Ρ "NoWord",Θ),(Ρ "NoGroup",Θ),(Ρ "BadThings",Θ),(Ρ "BadOutcome",Θ),(Ρ "BadStage",Θ)]]))]
abbrev Rb:Ì:=[.P6 59 [.v 0,.bin .add (.c (.int 610)) (.bin .mul (.c (.int 12)) (.v 11))] 6 []]
abbrev Ss:Ì:=[.asg (.nm 12) (.tup [.v 8,.v 9,.v 6,.v 10]),.asg (.nm 13) (.call 47 [.v 12,.v 3]),.asg (.nm 14) (.call 65 [.tup [.v 3,.v 12,.v 7]]),.JV (.cmp .eq (.v 13) (.c (.str ""))) [.JV (.KH (.call 64 [.call 39 [.idx (.v 14) (.c (.int 0)),.idx (.v 14) (.c (.int 1))],.c (.bl Θ)])) [.ret (.c (.bl Ξ))] []] [.JV (.cmp .ne (.call 60 [.idx (.v 14) (.c (.int 0)),.idx (.v 14) (.c (.int 1))]) (.call 61 [.v 13])) [.ret (.c (.bl Ξ))] []],.ret (.J0 (.call 64 [.call 39 [.idx (.v 14) (.c (.int 0)),.idx (.v 14) (.c (.int 2))],.c (.bl Θ)]) (.call 64 [.v 14,.tup [.v 3,.v 12,.v 7]]))]
abbrev Su:Ì:=(.JV (.cmp .eq (.call 43 [.v 0,.c (.int 600),.c (.int 8)]) (.c (.int 0))) [.asg (.nm 8) (.call 42 [.v 0,.c (.int 601)])] [])::(.Kl (.nm 11) (.J3 (.call 43 [.v 0,.c (.int 602),.c (.int 4)])) Rb)::Ss
abbrev VE:Ì:=(.asg (.nm 7) (.tup [.call 45 [.v 0,.c (.int 100)],.idx (.v 2) (.c (.int 3)),.v 6,.call 48 [.v 0,.c (.int 280),.sl (.v 2) Φ (Δ (.c (.int 3))),.c (.int 77)]]))::(.asg (.tp [.nm 8,.nm 9,.nm 6,.nm 10]) (.call 65 [.v 7]))::Su
abbrev XW:Ì:=
 [.ret (.J0 (.Lu (.v 0) .int) (.KH (.Lu (.v 0) .bool)))]
abbrev XX:Fn:={np:=1,G:={N:=["thing"],kd:=[.local],gl:=[14,8,16],df:=Θ},body:=XW}
abbrev OK:Ì:=
 [.JV (.KH (.Lu (.v 0) .str)) [.ret (.c (.bl Ξ))] [],.JV (.KH (.chain .le .le (.v 2) (.bi .len [.v 0]) (.v 3))) [.ret (.c (.bl Ξ))] [],.ret (.bi .all [.comp {N:=["signs","sign"],kd:=[.cell,.local],gl:=[],df:=Ξ} [1] (.nm 1) (.val (.v 0)) [] (.cmp .Mu (.v 1) (.v 0))])]
abbrev Rc:Fn:={np:=4,G:={N:=["thing","signs","least","most"],kd:=[.local,.cell,.local,.local],gl:=[14,11,0,9],df:=Θ},body:=OK}
abbrev Rf:Ì:=
 [.JV (.KH (.call 25 [.v 0,.g 21 (.str "abcdefghijklmnopqrstuvwxyz"),.c (.int 1),.g 24 (.int 12)])) [.Ka 63 "NoSalt" "a salt is a text of one to twelve small letters from a to z"] []]
abbrev Uy:Fn:={np:=1,G:={N:=["salt"],kd:=[.local],gl:=[25,21,24,63],df:=Θ},body:=Rf}
abbrev XY:Ì:=
 [.ret (.call 25 [.v 0,.g 22 (.str "abcdefghijklmnopqrstuvwxyz0123456789"),.v 1,.g 30 (.int 8)])]
abbrev XZ:Fn:={np:=2,G:={N:=["thing","least"],kd:=[.local,.local],gl:=[25,22,30],df:=Θ},body:=XY}
abbrev Uz:Ì:=
 [.ret (.J0 (.call 32 [.v 0]) (.cmp .le (.bi .abs [.v 0]) (.g 29 (.int 999999999))))]
abbrev VF:Fn:={np:=1,G:={N:=["thing"],kd:=[.local],gl:=[32,13,29],df:=Θ},body:=Uz}
abbrev MB:Ì:=
 [.JV (.Ll (.cmp .eq (.v 0) (.c (.str "is"))) (.cmp .eq (.v 0) (.c (.str "not")))) [.asg (.nm 2) (.comp {N:=["thing"],kd:=[.local],gl:=[33,34],df:=Ξ} [] (.nm 0) (.val (.v 1)) [] (.Ll (.call 33 [.v 0,.c (.int 0)]) (.call 34 [.v 0]))),.ret (.J0 (.chain .le .le (.c (.int 1)) (.bi .len [.v 1]) (.g 28 (.int 10))) (.bi .all [.v 2]))] [],.JV (.cmp .eq (.v 0) (.c (.str "begins"))) [.ret (.J0 (.chain .le .le (.c (.int 1)) (.bi .len [.v 1]) (.g 28 (.int 10))) (.bi .all [.comp {N:=["thing"],kd:=[.local],gl:=[33],df:=Ξ} [] (.nm 0) (.val (.v 1)) [] (.call 33 [.v 0,.c (.int 1)])]))] [],.JV (.Ll (.cmp .eq (.v 0) (.c (.str "least"))) (.cmp .eq (.v 0) (.c (.str "most")))) [.ret (.J0 (.cmp .eq (.bi .len [.v 1]) (.c (.int 1))) (.call 34 [.idx (.v 1) (.c (.int 0))]))] [],.ret (.cmp .eq (.v 1) (.lst []))]
abbrev OW:Fn:={np:=2,G:={N:=["word","things","fits"],kd:=Τ 3 .local,gl:=[0,28,9,34],df:=Θ},body:=MB}
abbrev L3:Ì:=
 [.asg (.nm 2) (.idx (.v 0) (.c (.int 0))),.asg (.nm 3) (.idx (.v 0) (.c (.int 1))),.JV (.cmp .Mi (.v 3) (.g 27 (.tup [.str "is",.str "not",.str "begins",.str "least",.str "most",.str "has",.str "lacks",.str "in",.str "out"]))) [.Ka 66 "NoWord" "a condition's word is none of the nine"] [],.JV (.J0 (.Ll (.cmp .eq (.v 3) (.c (.str "in"))) (.cmp .eq (.v 3) (.c (.str "out")))) (.cmp .Mi (.v 2) (.v 1))) [.K3 67 "NoGroup" (.P5 "there is no group " (.v 2) Φ)] [],.JV (.KH (.call 35 [.v 3,.idx (.v 0) (.c (.int 2))])) [.K3 68 "BadThings" (.P5 "the things don't go with the word " (.v 3) Φ)] [],.ret (.c (.bl Θ))]
abbrev N3:Fn:={np:=2,G:={N:=["cond","names","name","word"],kd:=Τ 4 .local,gl:=[27,66,67,35,68],df:=Θ},body:=L3}
abbrev UA:Ì:=
 [.asg (.nm 1) (.neg (.c (.int 1))),.Kl (.tp [.nm 2,.nm 3]) (.val (.v 0)) [.JV (.cmp .le (.v 2) (.v 1)) [.Ka 70 "BadStage" "a stage's day is below 0 or no greater than the one ahead of it"] [],.JV (.Ll (.cmp .lt (.v 3) (.c (.int 0))) (.cmp .gt (.v 3) (.g 23 (.int 10007)))) [.Ka 70 "BadStage" "a stage has fewer places than none or more than there are"] [],.asg (.nm 1) (.v 2)],.ret (.c (.bl Θ))]
abbrev VG:Fn:={np:=1,G:={N:=["stages","day_ahead","day","places"],kd:=Τ 4 .local,gl:=[70,23],df:=Θ},body:=UA}
abbrev OL:Ì:=
 [.JV (.cmp .Mi (.idx (.v 0) (.c (.int 0))) (.g 31 (.tup [.str "face",.str "share",.str "lot"]))) [.Ka 69 "BadOutcome" "an outcome's first word is none of the three"] [],.JV (.cmp .eq (.idx (.v 0) (.c (.int 0))) (.c (.str "share"))) [.exp (.call 37 [.idx (.v 0) (.c (.int 2))])] []]
abbrev Rg:Fn:={np:=1,G:={N:=["outcome"],kd:=[.local],gl:=[31,69,37],df:=Θ},body:=OL}
abbrev Rh:Ì:=
 [.exp (.call 26 [.idx (.v 1) (.c (.int 0))]),.Kl (.tp [.nm 2,.nm 3]) (.val (.idx (.v 1) (.c (.int 2)))) [.Kl (.nm 4) (.val (.v 2)) [.exp (.call 36 [.v 4,.v 0])],.exp (.call 38 [.v 3])],.ret (.c (.bl Θ))]
abbrev UB:Fn:={np:=2,G:={N:=["names","switch","conds","outcome","cond"],kd:=Τ 5 .local,gl:=[26,36,38],df:=Θ},body:=Rh}
abbrev X0:Ì:=
 [.asg (.nm 3) (.c (.int 0)),.JV (.cmp .gt (.bi .len [.v 0]) (.c (.int 0))) [.asg (.nm 3) (.bin .mod (.idx (.v 0) (.bin .mod (.v 1) (.bi .len [.v 0]))) (.c (.int 2147483647)))] [],.asg (.nm 4) (.bin .add (.bin .mul (.v 3) (.bin .add (.c (.int 742938285)) (.bin .mul (.bin .mul (.c (.int 9973)) (.v 1)) (.v 1)))) (.bin .mul (.v 1) (.c (.int 630360016)))),.ret (.bin .mod (.bin .fdiv (.bin .mod (.v 4) (.c (.int 2147483647))) (.c (.int 97))) (.v 2))]
abbrev X1:Fn:={np:=3,G:={N:=["_law_script","_law_k","_law_many","_law_cell","_law_mixed"],kd:=Τ 5 .local,gl:=[0],df:=Θ},body:=X0}
abbrev UC:Ì:=
 [.asg (.nm 3) (.c (.str "abcdefghijklmnopqrstuvwxyz")),.asg (.nm 4) (.call 43 [.v 0,.v 1,.c (.int 26)]),.JV (.cmp .eq (.call 43 [.v 0,.bin .add (.v 1) (.c (.int 1)),.c (.int 5)]) (.c (.int 0))) [.ret (.comp {N:=["_law_letters","_law_start","_law_j"],kd:=[.cell,.cell,.local],gl:=[],df:=Ξ} [3,4] (.nm 2) (.J3 (.v 2)) [] (.bin .mul (.idx (.v 0) (.v 1)) (.bin .add (.c (.int 1)) (.v 2))))] [],.asg (.nm 5) (.c (.str "")),.Kl (.nm 6) (.J3 (.call 43 [.v 0,.bin .add (.v 1) (.c (.int 2)),.c (.int 8)])) [.asg (.nm 5) (.bin .add (.v 5) (.idx (.v 3) (.call 43 [.v 0,.bin .add (.bin .add (.v 1) (.c (.int 40))) (.v 6),.c (.int 26)])))],.asg (.nm 7) (.call 43 [.v 0,.bin .add (.v 1) (.c (.int 3)),.bin .add (.bi .len [.v 5]) (.c (.int 1))]),.asg (.nm 8) (.idx (.lst [.c (.int 1),.c (.int 7),.c (.int 25),.c (.int 11)]) (.call 43 [.v 0,.bin .add (.v 1) (.c (.int 1)),.c (.int 4)])),.ret (.comp {N:=["_law_body","_law_at","_law_letters","_law_start","_law_step","_law_j"],kd:=[.cell,.cell,.cell,.cell,.cell,.local],gl:=[],df:=Ξ} [5,7,3,4,8] (.nm 5) (.J3 (.v 2)) [] (.bin .add (.bin .add (.sl (.v 0) Φ (Δ (.v 1))) (.idx (.v 2) (.bin .mod (.bin .add (.v 3) (.bin .mul (.v 4) (.v 5))) (.c (.int 26))))) (.sl (.v 0) (Δ (.v 1)) Φ)))]
abbrev VH:Fn:={np:=3,G:={N:=["_law_script","_law_k","_law_many","_law_letters","_law_start","_law_body","_law_j","_law_at","_law_step"],kd:=[.local,.local,.local,.cell,.cell,.cell,.local,.cell,.cell],gl:=[43,15,0],df:=Θ},body:=UC}
abbrev X2:Ì:=
 [.asg (.nm 2) (.c (.str "abcdefghijklmnopqrstuvwxyz")),.asg (.nm 3) (.c (.str "")),.Kl (.nm 4) (.J3 (.call 43 [.v 0,.v 1,.c (.int 12)])) [.asg (.nm 3) (.bin .add (.v 3) (.idx (.v 2) (.call 43 [.v 0,.bin .add (.bin .add (.v 1) (.c (.int 2))) (.v 4),.c (.int 26)])))],.asg (.nm 5) (.call 43 [.v 0,.bin .add (.v 1) (.c (.int 1)),.bin .add (.bi .len [.v 3]) (.c (.int 1))]),.ret (.bin .add (.bin .add (.sl (.v 3) Φ (Δ (.v 5))) (.idx (.v 2) (.call 43 [.v 0,.bin .add (.v 1) (.c (.int 14)),.c (.int 26)]))) (.sl (.v 3) (Δ (.v 5)) Φ))]
abbrev X3:Fn:={np:=2,G:={N:=["_law_script","_law_k","_law_letters","_law_body","_law_j","_law_at"],kd:=Τ 6 .local,gl:=[15,43,0],df:=Θ},body:=X2}
abbrev UD:Ì:=
 (.asg (.nm 4) (.bin .add (.lst [.c (.int 0),.v 3,.bin .add (.v 3) (.c (.int 1))]) (.comp {N:=["_law_script","_law_k","_law_j"],kd:=[.cell,.cell,.local],gl:=[43],df:=Ξ} [0,1] (.nm 2) (.J3 (.call 43 [.v 0,.bin .add (.v 1) (.c (.int 6)),.c (.int 5)])) [] (.call 43 [.v 0,.bin .add (.v 1) (.v 2),.c (.int 10007)]))))::(.asg (.nm 4) (.sset (.comp {N:=["_law_cut"],kd:=[.local],gl:=[],df:=Ξ} [] (.nm 0) (.val (.v 4)) [.cmp .lt (.v 0) (.c (.int 10007))] (.v 0))))::(.asg (.nm 5) (.Ly (.v 4) (.bin .add (.sl (.v 4) (Δ (.c (.int 1))) Φ) (.lst [.c (.int 10007)]))))::Ux
abbrev X4:Fn:={np:=4,G:={N:=["_law_script","_law_k","_law_faces","_law_place","_law_cuts","_law_ranges","_law_runs","_law_j","_law_low","_law_high","_law_run"],kd:=[.cell,.cell,.cell,.local,.local,.local,.cell,.local,.local,.local,.local],gl:=[15,43,4,12,5,17,18,0],df:=Θ},body:=UD}
abbrev UE:Ì:=
 [.asg (.nm 2) (.c (.str "abcdefghijklmnopqrstuvwxyz0123456789")),.asg (.nm 3) (.v 2),.JV (.cmp .eq (.call 43 [.v 0,.v 1,.c (.int 2)]) (.c (.int 0))) [.asg (.nm 3) (.sl (.sl (.v 2) (Δ (.call 43 [.v 0,.bin .add (.v 1) (.c (.int 1)),.c (.int 34)])) Φ) Φ (Δ (.c (.int 2))))] [],.ret (.OQ .join (.c (.str "")) [.comp {N:=["_law_some","_law_script","_law_k","_law_j"],kd:=[.cell,.cell,.cell,.local],gl:=[43,0],df:=Ξ} [3,0,1] (.nm 3) (.J3 (.c (.int 12))) [] (.idx (.v 0) (.call 43 [.v 1,.bin .add (.bin .add (.v 2) (.c (.int 2))) (.v 3),.bi .len [.v 0]]))])]
abbrev VI:Fn:={np:=2,G:={N:=["_law_script","_law_k","_law_signs","_law_some"],kd:=[.cell,.cell,.local,.cell],gl:=[43,15],df:=Θ},body:=UE}
abbrev Ri:Ì:=
 [.asg (.nm 3) (.sl (.v 2) Φ (Δ (.call 43 [.v 0,.v 1,.c (.int 9)]))),.JV (.J0 (.cmp .ne (.v 3) (.c (.str ""))) (.cmp .eq (.call 43 [.v 0,.bin .add (.v 1) (.c (.int 1)),.c (.int 3)]) (.c (.int 0)))) [.asg (.nm 3) (.bin .add (.sl (.v 3) Φ (Δ (.neg (.c (.int 1))))) (.idx (.c (.str "abcdefghijklmnopqrstuvwxyz0123456789")) (.call 43 [.v 0,.bin .add (.v 1) (.c (.int 2)),.c (.int 36)])))] [],.ret (.v 3)]
abbrev UG:Fn:={np:=3,G:={N:=["_law_script","_law_k","_law_stem_here","_law_text_here"],kd:=Τ 4 .local,gl:=[43],df:=Θ},body:=Ri}
abbrev X5:Ì:=
 [.asg (.nm 2) (.bin .sub (.bin .add (.bin .mul (.call 43 [.v 0,.v 1,.c (.int 20000)]) (.c (.int 100000))) (.call 43 [.v 0,.bin .add (.v 1) (.c (.int 1)),.c (.int 100000)])) (.bin .pow (.c (.int 10)) (.c (.int 9)))),.ret (.bi .min2 [.bi .max2 [.v 2,.bin .sub (.c (.int 0)) (.c (.int 999999990))],.c (.int 999999990)])]
abbrev X6:Fn:={np:=2,G:={N:=["_law_script","_law_k","_law_number_here"],kd:=Τ 3 .local,gl:=[43,2,3],df:=Θ},body:=X5}
abbrev UH:Ì:=
 [.asg (.nm 3) (.call 43 [.v 0,.v 1,.c (.int 8)]),.JV (.cmp .lt (.v 3) (.c (.int 5))) [.ret (.bin .sub (.bin .add (.v 2) (.v 3)) (.c (.int 2)))] [],.ret (.idx (.lst [.c (.int 999999999),.bin .sub (.c (.int 0)) (.c (.int 999999999)),.c (.int 0)]) (.bin .sub (.v 3) (.c (.int 5))))]
abbrev VJ:Fn:={np:=3,G:={N:=["_law_script","_law_k","_law_center_here","_law_way"],kd:=Τ 4 .local,gl:=[43],df:=Θ},body:=UH}
abbrev UI:Ì:=
 [.JV (.cmp .eq (.call 43 [.v 0,.v 1,.c (.int 2)]) (.c (.int 0))) [.ret (.call 52 [.v 0,.bin .add (.v 1) (.c (.int 1)),.v 3])] [],.ret (.call 50 [.v 0,.bin .add (.v 1) (.c (.int 2)),.v 2])]
abbrev VL:Fn:={np:=4,G:={N:=["_law_script","_law_k","_law_stem_here","_law_center_here"],kd:=Τ 4 .local,gl:=[43,52,50],df:=Θ},body:=UI}
abbrev VM:Ì:=
 (.asg (.nm 6) (.lst [.c (.str "is"),.c (.str "not"),.c (.str "begins"),.c (.str "least"),.c (.str "most"),.c (.str "has"),.c (.str "lacks")]))::(.JV (.cmp .ne (.v 3) (.lst [])) [.asg (.nm 6) (.bin .add (.v 6) (.lst [.c (.str "in"),.c (.str "out")]))] [])::(.asg (.nm 7) (.idx (.v 6) (.call 43 [.v 0,.v 1,.bi .len [.v 6]])))::(.asg (.nm 8) (.idx (.v 2) (.call 43 [.v 0,.bin .add (.v 1) (.c (.int 1)),.bi .len [.v 2]])))::(.asg (.nm 9) (.lst []))::Us
abbrev X7:Fn:={np:=6,G:={N:=["_law_script","_law_k","_law_marks","_law_groups","_law_stem_here","_law_center_here","_law_words","_law_word","_law_name","_law_things"],kd:=[.cell,.cell,.local,.local,.cell,.cell,.local,.local,.local,.local],gl:=[43,0,15,52],df:=Θ},body:=VM}
abbrev X8:Ì:=
 [.asg (.nm 4) (.lst []),.asg (.nm 5) (.bi .max2 [.c (.int 0),.bin .sub (.v 3) (.call 43 [.v 0,.v 1,.c (.int 4)])]),.Kl (.nm 6) (.J3 (.call 43 [.v 0,.bin .add (.v 1) (.c (.int 1)),.c (.int 4)])) VC,.ret (.v 4)]
abbrev X9:Fn:={np:=4,G:={N:=["_law_script","_law_k","_law_place","_law_day","_law_stages_here","_law_first","_law_j","_law_some"],kd:=Τ 8 .local,gl:=[3,43,15],df:=Θ},body:=X8}
abbrev Rj:Ì:=
 [.asg (.nm 5) (.idx (.v 2) (.call 43 [.v 0,.bin .add (.v 1) (.c (.int 1)),.bi .len [.v 2]])),.asg (.nm 6) (.call 43 [.v 0,.v 1,.c (.int 3)]),.JV (.cmp .eq (.v 6) (.c (.int 0))) [.ret (.tup [.c (.str "face"),.v 5])] [],.JV (.cmp .eq (.v 6) (.c (.int 1))) [.ret (.tup [.c (.str "share"),.v 5,.call 56 [.v 0,.bin .add (.v 1) (.c (.int 2)),.v 3,.v 4]])] [],.ret (.tup [.c (.str "lot")])]
abbrev UJ:Fn:={np:=5,G:={N:=["_law_script","_law_k","_law_faces","_law_place","_law_day","_law_face","_law_way"],kd:=Τ 7 .local,gl:=[43,0,56],df:=Θ},body:=Rj}
abbrev Ya:Ì:=
 [.asg (.nm 9) (.lst []),.Kl (.nm 10) (.J3 (.call 43 [.v 0,.v 1,.c (.int 5)])) Uu,.ret (.v 9)]
abbrev Yb:Fn:={np:=9,G:={N:=["_law_script","_law_k","_law_marks","_law_groups","_law_faces","_law_stem_here","_law_center_here","_law_place","_law_day","_law_rules_here","_law_i","_law_conds","_law_j"],kd:=Τ 13 .local,gl:=[15,43,54,57],df:=Θ},body:=Ya}
abbrev b64:Ì:=
 L2.Fr.OI 64
abbrev Yc:Fn:={np:=2,G:={N:=["_law_found","_law_due"],kd:=[.local,.local],gl:=[14,16,11,8,6,5,0,9,17],df:=Θ},body:=b64}
abbrev b65:Ì:=
 L2.Fr.OJ 65 "_law_part"
abbrev Yd:Fn:={np:=1,G:={N:=["_law_thing_here"],kd:=[.local],gl:=[14,5,6],df:=Θ},body:=b65}
abbrev Ye:Ì:=
 [.asg (.nm 2) (.lst [.c .JF,.c (.int 7),.c (.bl Θ),.c (.str ""),.c (.str "Is"),.c (.str "is "),.c (.str "face."),.c (.str "ab1"),.c (.str "A"),.lst [.c (.str "is")],.tup [.c (.str "lot"),.c (.str "lot")],.c (.str "abcdefghijklm"),.c (.str "lots"),.lst [],.c (.int 0)]),.ret (.idx (.v 2) (.call 43 [.v 0,.v 1,.c (.int 15)]))]
abbrev Yf:Fn:={np:=2,G:={N:=["_law_script","_law_k","_law_some"],kd:=Τ 3 .local,gl:=[43],df:=Θ},body:=Ye}
abbrev b55:Ì:=
 []
abbrev Rk:Fn:={np:=4,G:={N:=["_law_script","_law_k","_law_rules_here","_law_at","_law_conds","_law_outcome_here","_law_spot","_law_name","_law_word","_law_things","_law_way","_law_more"],kd:=Τ 12 .local,gl:=[43,0,42],df:=Θ},body:=b55,io:=Θ,KY:=tw}
abbrev b59:Ì:=
 []
abbrev Ro:Fn:={np:=3,G:={N:=["_law_script","_law_k","_law_rules_here","_law_at","_law_conds","_law_outcome_here","_law_way","_law_day","_law_stages_here"],kd:=Τ 9 .local,gl:=[43,0,42,55],df:=Θ},body:=b59,io:=Θ,KY:=tB}
abbrev Rp:Ì:=
 [.ret (.J0 (.Lu (.v 0) .int) (.J0 (.KH (.Lu (.v 0) .bool)) (.chain .lt .lt (.bin .sub (.c (.int 0)) (.bin .pow (.c (.int 10)) (.c (.int 9)))) (.v 0) (.bin .pow (.c (.int 10)) (.c (.int 9))))))]
abbrev UK:Fn:={np:=1,G:={N:=["_law_thing_here"],kd:=[.local],gl:=[14,8,16],df:=Θ},body:=Rp}
abbrev Px:Ì:=
 [.JV (.Ll (.KH (.Lu (.v 0) .str)) (.Ll (.cmp .lt (.bi .len [.v 0]) (.v 1)) (.cmp .gt (.bi .len [.v 0]) (.c (.int 8))))) [.ret (.c (.bl Ξ))] [],.ret (.bi .all [.comp {N:=["_law_sign"],kd:=[.local],gl:=[],df:=Ξ} [] (.nm 0) (.val (.v 0)) [] (.cmp .Mu (.v 0) (.c (.str "abcdefghijklmnopqrstuvwxyz0123456789")))])]
abbrev Sw:Fn:={np:=2,G:={N:=["_law_thing_here","_law_least"],kd:=[.local,.local],gl:=[14,11,0,9],df:=Θ},body:=Px}
abbrev MC:Ì:=
 [.asg (.tp [.nm 2,.nm 3,.nm 4]) (.v 0),.JV (.cmp .Mi (.v 3) (.lst [.c (.str "is"),.c (.str "not"),.c (.str "begins"),.c (.str "least"),.c (.str "most"),.c (.str "has"),.c (.str "lacks"),.c (.str "in"),.c (.str "out")])) [.ret (.c (.str "NoWord"))] [],.JV (.J0 (.cmp .Mu (.v 3) (.lst [.c (.str "in"),.c (.str "out")])) (.cmp .Mi (.v 2) (.v 1))) [.ret (.c (.str "NoGroup"))] [],.asg (.nm 5) (.cmp .eq (.v 4) (.lst [])),.JV (.cmp .Mu (.v 3) (.lst [.c (.str "is"),.c (.str "not")])) [.asg (.nm 6) (.comp {N:=["_law_thing_here"],kd:=[.local],gl:=[40,41],df:=Ξ} [] (.nm 0) (.val (.v 4)) [] (.Ll (.call 40 [.v 0]) (.call 41 [.v 0,.c (.int 0)]))),.asg (.nm 5) (.J0 (.chain .le .le (.c (.int 1)) (.bi .len [.v 4]) (.c (.int 10))) (.bi .all [.v 6]))] [],.JV (.cmp .eq (.v 3) (.c (.str "begins"))) [.asg (.nm 5) (.J0 (.chain .le .le (.c (.int 1)) (.bi .len [.v 4]) (.c (.int 10))) (.bi .all [.comp {N:=["_law_thing_here"],kd:=[.local],gl:=[41],df:=Ξ} [] (.nm 0) (.val (.v 4)) [] (.call 41 [.v 0,.c (.int 1)])]))] [],.JV (.cmp .Mu (.v 3) (.lst [.c (.str "least"),.c (.str "most")])) [.asg (.nm 5) (.J0 (.cmp .eq (.bi .len [.v 4]) (.c (.int 1))) (.call 40 [.idx (.v 4) (.c (.int 0))]))] [],.JV (.v 5) [.ret (.c (.str ""))] [],.ret (.c (.str "BadThings"))]
abbrev OX:Fn:={np:=2,G:={N:=["_law_cond_here","_law_names_here","_law_name","_law_word","_law_things","_law_good","_law_kinds"],kd:=Τ 7 .local,gl:=[0,9,40],df:=Θ},body:=MC}
abbrev NO:Ì:=
 [.asg (.tp [.nm 2,.nm 3,.nm 4,.nm 5]) (.v 0),.JV (.Ll (.KH (.Lu (.v 2) .str)) (.KH (.chain .le .le (.c (.int 1)) (.bi .len [.v 2]) (.c (.int 12))))) [.ret (.c (.str "NoSalt"))] [],.JV (.bi .any [.comp {N:=["_law_sign"],kd:=[.local],gl:=[],df:=Ξ} [] (.nm 0) (.val (.v 2)) [] (.cmp .Mi (.v 0) (.c (.str "abcdefghijklmnopqrstuvwxyz")))]) [.ret (.c (.str "NoSalt"))] [],.Kl (.tp [.nm 6,.nm 7]) (.val (.v 4)) [.Kl (.nm 8) (.val (.v 6)) [.JV (.cmp .ne (.call 46 [.v 8,.v 1]) (.c (.str ""))) [.ret (.call 46 [.v 8,.v 1])] []],.JV (.cmp .Mi (.idx (.v 7) (.c (.int 0))) (.lst [.c (.str "face"),.c (.str "share"),.c (.str "lot")])) [.ret (.c (.str "BadOutcome"))] [],.asg (.nm 9) (.bin .sub (.c (.int 0)) (.c (.int 1))),.JV (.cmp .eq (.idx (.v 7) (.c (.int 0))) (.c (.str "share"))) [.Kl (.tp [.nm 10,.nm 11]) (.val (.idx (.v 7) (.c (.int 2)))) [.JV (.Ll (.cmp .le (.v 10) (.v 9)) (.Ll (.cmp .lt (.v 11) (.c (.int 0))) (.cmp .gt (.v 11) (.c (.int 10007))))) [.ret (.c (.str "BadStage"))] [],.asg (.nm 9) (.v 10)]] []],.ret (.c (.str ""))]
abbrev Qf:Fn:={np:=2,G:={N:=["_law_switch","_law_names_here","_law_salt_here","_law_rest","_law_rules_here","_law_allot_here","_law_conds","_law_outcome_here","_law_cond_here","_law_ahead","_law_day","_law_places"],kd:=Τ 12 .local,gl:=[14,11,0,10,46],df:=Θ},body:=NO}
abbrev Yg:Ì:=
 [.asg (.nm 2) (.lst []),.Mv [.exp (.call 39 [.v 0,.v 1])] 78 ["NoSalt","NoWord","NoGroup","BadThings","BadOutcome","BadStage"] 3 hB,.ret (.v 2)]
abbrev Yh:Fn:={np:=2,G:={N:=["_law_names_here","_law_switch","_law_marks","e"],kd:=Τ 4 .local,gl:=[78,39,14,69,71,70,68,67,72,63,73,66,74,75,76,77],df:=Θ},body:=Yg}
abbrev b61:Ì:=
 [.asg (.nm 1) (.lst [.c (.str "BadOutcome"),.c (.str "BadShare"),.c (.str "BadStage"),.c (.str "BadThings"),.c (.str "NoGroup"),.c (.str "NoRule"),.c (.str "NoSalt"),.c (.str "NoSwitch"),.c (.str "NoWord")]),.ret (.bin .add (.comp {N:=["_law_name","_law_own"],kd:=[.cell,.local],gl:=[],df:=Ξ} [0] (.nm 1) (.val (.bin .add (.v 1) (.lst [.c (.str "Ringed"),.c (.str "Twice"),.c (.str "Unlike")]))) [] (.cmp .eq (.v 1) (.v 0))) (.lst [.c (.bl Θ)]))]
abbrev d61:Fn:={np:=1,G:={N:=["_law_name","_law_some"],kd:=[.cell,.local],gl:=[],df:=Θ},body:=b61}
abbrev Yi:Ì:=
 (.asg (.nm 1) (.call 44 [.v 0,.c (.int 0),.c (.int 3)]))::(.asg (.nm 2) (.call 44 [.v 0,.c (.int 50),.c (.int 4)]))::(.asg (.nm 3) (.sl (.lst [.c (.str "inside"),.c (.str "mates")]) Φ (Δ (.call 43 [.v 0,.c (.int 148),.c (.int 3)]))))::(.asg (.nm 4) (.call 49 [.v 0,.c (.int 130)]))::(.asg (.nm 5) (.call 51 [.v 0,.c (.int 145)]))::(.asg (.nm 6) (.call 58 [.v 0,.c (.int 300),.v 1,.v 3,.v 2,.v 4,.v 5,.c (.int 77),.c (.int 9)]))::VE
abbrev VN:Fn:={np:=1,G:={N:=["_law_script","_law_names_here","_law_faces","_law_told","_law_stem_here","_law_center_here","_law_rules_here","_law_good","_law_salt_here","_law_rest","_law_allot_here","_law_j","_law_bad","_law_fault","_law_handed"],kd:=Τ 15 .local,gl:=[44,43,49,51,58,45,48,65,42,15,59,47,64,39,60,61],df:=Θ},body:=Yi}
abbrev T:Tb:=λn=>match n with
 |32=>Δ XX
 |25=>Δ Rc
 |26=>Δ Uy
 |33=>Δ XZ
 |34=>Δ VF
 |35=>Δ OW
 |36=>Δ N3
 |37=>Δ VG
 |38=>Δ Rg
 |39=>Δ UB
 |43=>Δ X1
 |44=>Δ VH
 |45=>Δ X3
 |48=>Δ X4
 |49=>Δ VI
 |50=>Δ UG
 |51=>Δ X6
 |52=>Δ VJ
 |53=>Δ VL
 |54=>Δ X7
 |56=>Δ X9
 |57=>Δ UJ
 |58=>Δ Yb
 |64=>Δ Yc
 |65=>Δ Yd
 |42=>Δ Yf
 |55=>Δ Rk
 |59=>Δ Ro
 |40=>Δ UK
 |41=>Δ Sw
 |46=>Δ OX
 |47=>Δ Qf
 |60=>Δ Yh
 |61=>Δ d61
 |62=>Δ VN
 |_=>Φ
def c32:ir Z XX ["thing"] (top 17)=Θ:=∅
def c25:ir Z Rc ["thing","signs","least","most"] (top 18)=Θ:=∅
def c26:ir Z Uy ["salt"] (top 22)=Θ:=∅
def c33:ir Z XZ ["thing","least"] (top 28)=Θ:=∅
def c34:ir Z VF ["thing"] (top 29)=Θ:=∅
def c35:ir Z OW ["word","things"] (top 30)=Θ:=∅
def c36:ir Z N3 ["cond","names"] (top 31)=Θ:=∅
def c37:ir Z VG ["stages"] (top 34)=Θ:=∅
def c38:ir Z Rg ["outcome"] (top 35)=Θ:=∅
def c39:ir Z UB ["names","switch"] (top 36)=Θ:=∅
def c43:ir Z X1 ["_law_script","_law_k","_law_many"] (top 38)=Θ:=∅
def c44:ir Z VH ["_law_script","_law_k","_law_many"] (top 39)=Θ:=∅
def c45:ir Z X3 ["_law_script","_law_k"] (top 40)=Θ:=∅
def c48:ir Z X4 ["_law_script","_law_k","_law_faces","_law_place"] (top 41)=Θ:=∅
def c49:ir Z VI ["_law_script","_law_k"] (top 42)=Θ:=∅
def c50:ir Z UG ["_law_script","_law_k","_law_stem_here"] (top 43)=Θ:=∅
def c51:ir Z X6 ["_law_script","_law_k"] (top 44)=Θ:=∅
def c52:ir Z VJ ["_law_script","_law_k","_law_center_here"] (top 45)=Θ:=∅
def c53:ir Z VL ["_law_script","_law_k","_law_stem_here","_law_center_here"] (top 46)=Θ:=∅
def c54:ir Z X7 ["_law_script","_law_k","_law_marks","_law_groups","_law_stem_here","_law_center_here"] (top 47)=Θ:=∅
def c56:ir Z X9 ["_law_script","_law_k","_law_place","_law_day"] (top 48)=Θ:=∅
def c57:ir Z UJ ["_law_script","_law_k","_law_faces","_law_place","_law_day"] (top 49)=Θ:=∅
def c58:ir Z Yb ["_law_script","_law_k","_law_marks","_law_groups","_law_faces","_law_stem_here","_law_center_here","_law_place","_law_day"] (top 50)=Θ:=∅
def c64:ir Z Yc ["_law_found","_law_due"] (top 51)=Θ:=∅
def c65:ir Z Yd ["_law_thing_here"] (top 52)=Θ:=∅
def c42:ir Z Yf ["_law_script","_law_k"] (top 53)=Θ:=∅
def c55:mE Z Rk ["_law_script","_law_k","_law_rules_here","_law_at"] (top 54)=Θ:=∅
def c59:mE Z Ro ["_law_script","_law_k","_law_rules_here"] (top 55)=Θ:=∅
def c40:ir Z UK ["_law_thing_here"] (top 56)=Θ:=∅
def c41:ir Z Sw ["_law_thing_here","_law_least"] (top 57)=Θ:=∅
def c46:ir Z OX ["_law_cond_here","_law_names_here"] (top 58)=Θ:=∅
def c47:ir Z Qf ["_law_switch","_law_names_here"] (top 59)=Θ:=∅
def c60:ir Z Yh ["_law_names_here","_law_switch"] (top 60)=Θ:=∅
def c61:ir Z d61 ["_law_name"] (top 61)=Θ:=∅
def c62:ir Z VN ["_law_script"] (top 62)=Θ:=∅
def El:∀n x,Z.name n=Δ x->x≠"__name__"/\(x == ("__debug__" : Str))=Ξ:=by
 have h:(i7++Z.nm).all (λx=>!(x == "__name__")&&!(x == "__debug__"))=Θ:=∅
 intro n x hx;have:=z_.mp h x (Y_ hx);simpa using this
@[elab_as_elim]def K7 {P:Ï->Prop}  (us:Ï) (e:us.length=n+1) (h:∀(x:Ψ) (us:Ï),us.length=n->P (x::us)):P us:=by
 cases us with
 |nil=>cases e
 |cons x us=>exact h x us (Nat.succ.inj e)
@[elab_as_elim]def Rq {P:Ï->Prop} (us:Ï) (e:us.length=0) (h:P []):P us:=by
 cases us with
 |nil=>exact h
 |cons x us=>cases e
def ln1 {ps:È}(h:∀x0:Ψ,bindArgs fd ⟨[x0],[]⟩=pure (ps.zip [x0]))(us:Ï)(e:us.length=1):bindArgs fd ⟨us,[]⟩=pure (ps.zip us):=K7 us e λx0 us e=>Rq us e (h x0)
def ln2 {ps:È}(h:∀x0 x1:Ψ,bindArgs fd ⟨[x0,x1],[]⟩=pure (ps.zip [x0,x1]))(us:Ï)(e:us.length=2):bindArgs fd ⟨us,[]⟩=pure (ps.zip us):=K7 us e λx0 us e=>K7 us e λx1 us e=>Rq us e (h x0 x1)
def ln3 {ps:È}(h:∀x0 x1 x2:Ψ,bindArgs fd ⟨[x0,x1,x2],[]⟩=pure (ps.zip [x0,x1,x2]))(us:Ï)(e:us.length=3):bindArgs fd ⟨us,[]⟩=pure (ps.zip us):=K7 us e λx0 us e=>K7 us e λx1 us e=>K7 us e λx2 us e=>Rq us e (h x0 x1 x2)
def ln4 {ps:È}(h:∀x0 x1 x2 x3:Ψ,bindArgs fd ⟨[x0,x1,x2,x3],[]⟩=pure (ps.zip [x0,x1,x2,x3]))(us:Ï)(e:us.length=4):bindArgs fd ⟨us,[]⟩=pure (ps.zip us):=K7 us e λx0 us e=>K7 us e λx1 us e=>K7 us e λx2 us e=>K7 us e λx3 us e=>Rq us e (h x0 x1 x2 x3)
def ln5 {ps:È}(h:∀x0 x1 x2 x3 x4:Ψ,bindArgs fd ⟨[x0,x1,x2,x3,x4],[]⟩=pure (ps.zip [x0,x1,x2,x3,x4]))(us:Ï)(e:us.length=5):bindArgs fd ⟨us,[]⟩=pure (ps.zip us):=K7 us e λx0 us e=>K7 us e λx1 us e=>K7 us e λx2 us e=>K7 us e λx3 us e=>K7 us e λx4 us e=>Rq us e (h x0 x1 x2 x3 x4)
def ln6 {ps:È}(h:∀x0 x1 x2 x3 x4 x5:Ψ,bindArgs fd ⟨[x0,x1,x2,x3,x4,x5],[]⟩=pure (ps.zip [x0,x1,x2,x3,x4,x5]))(us:Ï)(e:us.length=6):bindArgs fd ⟨us,[]⟩=pure (ps.zip us):=K7 us e λx0 us e=>K7 us e λx1 us e=>K7 us e λx2 us e=>K7 us e λx3 us e=>K7 us e λx4 us e=>K7 us e λx5 us e=>Rq us e (h x0 x1 x2 x3 x4 x5)
def ln9 {ps:È}(h:∀x0 x1 x2 x3 x4 x5 x6 x7 x8:Ψ,bindArgs fd ⟨[x0,x1,x2,x3,x4,x5,x6,x7,x8],[]⟩=pure (ps.zip [x0,x1,x2,x3,x4,x5,x6,x7,x8]))(us:Ï)(e:us.length=9):bindArgs fd ⟨us,[]⟩=pure (ps.zip us):=K7 us e λx0 us e=>K7 us e λx1 us e=>K7 us e λx2 us e=>K7 us e λx3 us e=>K7 us e λx4 us e=>K7 us e λx5 us e=>K7 us e λx6 us e=>K7 us e λx7 us e=>K7 us e λx8 us e=>Rq us e (h x0 x1 x2 x3 x4 x5 x6 x7 x8)
def dfo {st:Stmt}  (c:ir Z fn ps st=Θ)(hT:T f=Δ fn)(b:∀(kV dc pm:Ψ)(an:Option Ω)(cd ct:Ψ)(us:Ï),us.length=ps.length->bindArgs (W.fnOf x x (jN st) (jd st) (iy st) .none kV dc pm an cd ct) ⟨us,[]⟩=pure (ps.zip us))(X:K.In h)(G:h.Ns Η mg)
  (a:W.nsIn K Η x=Δ (Δ (.ref fa))) (l:K.lookup fa=Δ ⟨oc,od,.func (W.fnOf x x (jN st) (jd st) (iy st) .none kV dc pm an cd ct),sl⟩) (e:W.codeIn K cd x=Θ) (k:W.keepIn K (.ref fa)=Θ):JJ K mg Z T f x:=⟨fn,st,fa,_,ps,hT,oh l e k,W.mg_of X G a,(oh l e k).binds b,rN c⟩
def GO {st:Stmt}  (c:mE Z fn ps st=Θ)(hT:T f=Δ fn)(b:∀(kV dc pm:Ψ)(an:Option Ω)(cd ct:Ψ)(us:Ï),us.length=ps.length->bindArgs (W.fnOf x x (jN st) (jd st) (iy st) .none kV dc pm an cd ct) ⟨us,[]⟩=pure (ps.zip us))(X:K.In h)(G:h.Ns Η mg)
  (a:W.nsIn K Η x=Δ (Δ (.ref fa))) (l:K.lookup fa=Δ ⟨oc,od,.func (W.fnOf x x (jN st) (jd st) (iy st) .none kV dc pm an cd ct),sl⟩) (e:W.codeIn K cd x=Θ) (k:W.keepIn K (.ref fa)=Θ):Nw K mg Z T f x:=⟨fn,st,fa,_,ps,hT,oh l e k,W.mg_of X G a,(oh l e k).binds b,yy c⟩
abbrev Em:Nat:=62
abbrev Bf:Str:="_law_script"
def all_mk {l:PySem.W.OpenLaw}  (X:K.In h)(G:h.Ns Η mg)(hfa:mg "law" = Δ (.ref fa))
  (t32:JJ K mg Z T 32 "is_whole")
  (t25:JJ K mg Z T 25 "is_text_of")
  (t26:JJ K mg Z T 26 "check_salt")
  (t33:JJ K mg Z T 33 "is_told_text")
  (t34:JJ K mg Z T 34 "is_told_number")
  (t35:JJ K mg Z T 35 "things_go")
  (t36:JJ K mg Z T 36 "cond_checked")
  (t37:JJ K mg Z T 37 "stages_checked")
  (t38:JJ K mg Z T 38 "outcome_checked")
  (t39:JJ K mg Z T 39 "switch_checked")
  (t43:JJ K mg Z T 43 "_law_draw")
  (t44:JJ K mg Z T 44 "_law_names")
  (t45:JJ K mg Z T 45 "_law_salt")
  (t48:JJ K mg Z T 48 "_law_allot")
  (t49:JJ K mg Z T 49 "_law_stem")
  (t50:JJ K mg Z T 50 "_law_text")
  (t51:JJ K mg Z T 51 "_law_center")
  (t52:JJ K mg Z T 52 "_law_number")
  (t53:JJ K mg Z T 53 "_law_thing")
  (t54:JJ K mg Z T 54 "_law_cond")
  (t56:JJ K mg Z T 56 "_law_stages")
  (t57:JJ K mg Z T 57 "_law_outcome")
  (t58:JJ K mg Z T 58 "_law_rules")
  (t64:JJ K mg Z T 64 "_law_same")
  (t65:JJ K mg Z T 65 "_law_copy")
  (t42:JJ K mg Z T 42 "_law_odd")
  (t55:Nw K mg Z T 55 "_law_spoil_cond")
  (t59:Nw K mg Z T 59 "_law_spoil")
  (t40:JJ K mg Z T 40 "_law_whole")
  (t41:JJ K mg Z T 41 "_law_short")
  (t46:JJ K mg Z T 46 "_law_cond_fault")
  (t47:JJ K mg Z T 47 "_law_switch_fault")
  (t60:JJ K mg Z T 60 "_law_marks_of")
  (t61:JJ K mg Z T 61 "_law_marks_due")
  (a62:W.nsIn K Η "law" = Δ (Δ (.ref f62))) (l62:K.lookup f62=Δ ⟨ad2,ad3,.func (W.fnOf "law" "law" (jN (top 62)) (jd (top 62)) (iy (top 62)) .none Yj Yk Yl Ym UL Yn),ad4⟩) (e62:W.codeIn K UL "law" = Θ) (k62:W.keepIn K (.ref f62)=Θ)
  (q21:W.nsIn K Η "LETTERS" = Δ (Δ (.str "abcdefghijklmnopqrstuvwxyz" t21)))
  (q22:W.nsIn K Η "SIGNS" = Δ (Δ (.str "abcdefghijklmnopqrstuvwxyz0123456789" t22)))
  (q23:W.nsIn K Η "PLACES" = Δ (Δ (.int 10007 t23)))
  (q24:W.nsIn K Η "SALT_LENGTH" = Δ (Δ (.int 12 t24)))
  (q27:W.nsIn K Η "WORDS" = Δ (Δ (.ref g27))) (r27:K.lookup g27=Δ ⟨.type "tuple",ad6,.seq #[.str "is" aar,.str "not" aas,.str "begins" aat,.str "least" aau,.str "most" aav,.str "has" aaw,.str "lacks" aax,.str "in" aay,.str "out" aaz] ad7,ad8⟩)
  (q28:W.nsIn K Η "MOST_THINGS" = Δ (Δ (.int 10 t28)))
  (q29:W.nsIn K Η "GREATEST_TOLD" = Δ (Δ (.int 999999999 t29)))
  (q30:W.nsIn K Η "LONGEST_TOLD" = Δ (Δ (.int 8 t30)))
  (q31:W.nsIn K Η "OUTCOMES" = Δ (Δ (.ref g31))) (r31:K.lookup g31=Δ ⟨.type "tuple",aea,.seq #[.str "face" aaA,.str "share" aaB,.str "lot" aaC] aeb,aec⟩)
  (hx:xB K Z=Θ) (hb:bB K=Θ) :
  ∃fd:Ο,(∀(s:Α) (v:Ψ),BindsTo s fd ⟨[v],[]⟩ [(Bf,v)])/\∀base:Heap,K.In base->base.Ns Η mg->K9 l.prog w K mg base KI (16+1) fa fd [Bf] (Sk K (dj T (16+1)) Em [Bf]):=by
 have e:=hfa.symm.trans (PySem.W.mg_of X G a62);cases e;have t:L' K mg Z T:=by
  constructor
  case Nr=>
   exact El
  case blt=>
   exact Ga X G hb
  case cst=>
   exact λn d x hm hx=>by
    have Nu:(n,d)∈([(21,(.str "abcdefghijklmnopqrstuvwxyz")),(22,(.str "abcdefghijklmnopqrstuvwxyz0123456789")),(23,(.int 10007)),(24,(.int 12)),(27,(.tup [.str "is",.str "not",.str "begins",.str "least",.str "most",.str "has",.str "lacks",.str "in",.str "out"])),(28,(.int 10)),(29,(.int 999999999)),(30,(.int 8)),(31,(.tup [.str "face",.str "share",.str "lot"]))]:List (Nat×D)):=hm;simp only[k_,O_,or_false,Prod.mk.injEq]at Nu;rcases Nu with⟨rfl,rfl⟩|⟨rfl,rfl⟩|⟨rfl,rfl⟩|⟨rfl,rfl⟩|⟨rfl,rfl⟩|⟨rfl,rfl⟩|⟨rfl,rfl⟩|⟨rfl,rfl⟩|⟨rfl,rfl⟩
    ·cases hx;exact⟨_,.str _,PySem.W.mg_of X G q21,⟨_,rfl⟩,λ_ _=>.str _⟩
    ·cases hx;exact⟨_,.str _,PySem.W.mg_of X G q22,⟨_,rfl⟩,λ_ _=>.str _⟩
    ·cases hx;exact⟨_,.int _,PySem.W.mg_of X G q23,⟨_,rfl⟩,λ_ _=>.int _⟩
    ·cases hx;exact⟨_,.int _,PySem.W.mg_of X G q24,⟨_,rfl⟩,λ_ _=>.int _⟩
    ·cases hx;exact⟨_,.ref _,PySem.W.mg_of X G q27,rfl,λ_ _=>.tup (t5 [("is",_),("not",_),("begins",_),("least",_),("most",_),("has",_),("lacks",_),("in",_),("out",_)] r27 (Nat.le_of_ble_eq_true rfl)) (.cons (.str _) (.cons (.str _) (.cons (.str _) (.cons (.str _) (.cons (.str _) (.cons (.str _) (.cons (.str _) (.cons (.str _) (.cons (.str _) .nil)))))))))⟩
    ·cases hx;exact⟨_,.int _,PySem.W.mg_of X G q28,⟨_,rfl⟩,λ_ _=>.int _⟩
    ·cases hx;exact⟨_,.int _,PySem.W.mg_of X G q29,⟨_,rfl⟩,λ_ _=>.int _⟩
    ·cases hx;exact⟨_,.int _,PySem.W.mg_of X G q30,⟨_,rfl⟩,λ_ _=>.int _⟩
    ·cases hx;exact⟨_,.ref _,PySem.W.mg_of X G q31,rfl,λ_ _=>.tup (t5 [("face",_),("share",_),("lot",_)] r31 (Nat.le_of_ble_eq_true rfl)) (.cons (.str _) (.cons (.str _) (.cons (.str _) .nil)))⟩
  case fns=>
   exact λf hf x hx=>by
    have MA:f∈([32,25,26,33,34,35,36,37,38,39,43,44,45,48,49,50,51,52,53,54,56,57,58,64,65,42,40,41,46,47,60,61,62]:Ê):=hf;simp only[k_,O_,or_false]at MA;rcases MA with rfl|rfl|rfl|rfl|rfl|rfl|rfl|rfl|rfl|rfl|rfl|rfl|rfl|rfl|rfl|rfl|rfl|rfl|rfl|rfl|rfl|rfl|rfl|rfl|rfl|rfl|rfl|rfl|rfl|rfl|rfl|rfl|rfl<;>cases hx<;>first|assumption|exact dfo c62 rfl (λ_ _ _ _ _ _=>ln1 λ_=>rfl) X G a62 l62 e62 k62
  case LO=>
   exact λf hf x hx=>by
    have MA:f∈([55,59]:Ê):=hf;simp only[k_,O_,or_false]at MA;rcases MA with rfl|rfl<;>cases hx<;>assumption
  case Z4=>
   exact λf hf=>absurd (show f∈([]:Ê) from hf) (by simp)
  case NH=>
   exact D0 X G hx
  case MZ=>
   exact D3 X G hx
  case NI=>
   exact D4 X G hx
  case Nt=>
   exact D5 X G hx
 exact⟨PySem.W.fnOf "law" "law" (jN (top 62)) (jd (top 62)) (iy (top 62)) .none Yj Yk Yl Ym UL Yn,λs v=>.of_eq rfl,λbase _ _=>DX t 16 nofun (f:=62) (fn:=VN) rfl (oh (st:=top 62) l62 e62 k62) (rN c62)⟩
end Law
namespace L2
open PySem PySem.Spec PyProof.Rows PySem.SeqAt
namespace Fr
abbrev one (c:Nat):Str:=⟨#[c]⟩
abbrev JC (cs:Ê):Str:=⟨cs.toArray⟩
def low (c:Nat):Prop:=97<=c/\c<=122
def yZ:(Ρ "abcdefghijklmnopqrstuvwxyz").cps.toList=List.range' 97 26:=∅
def uI:(Ρ "abcdefghijklmnopqrstuvwxyz").length=26:=∅
def oX (h0:0<=i)(h1:i < 26):iO (.str "abcdefghijklmnopqrstuvwxyz") (.int i)=.ok (.str (one (97+i.toNat))):=by
 rw[Ur h0 (by rw[uI];exact h1) (by rw[uI];decide),yZ];have:(List.range' 97 26).getD i.toNat 0=97+i.toNat:=by rw[aaj,List.getElem?_range' ⋯];show 97+1*i.toNat=_;omega
 rw[this];rfl
def i5 (cs:Ê):(JC cs).length=cs.length:=by unfold JC Str.length;simp
def uJ (c:Nat):(one c).length=1:=rfl
def k8 (h0:0<=j)(h1:j<=cs.length):Txt.slice (JC cs) Φ (Δ j)=JC (cs.take j.toNat):=by
 have:=StrLaws.sliceText_to (x:=JC cs) (j:=j) ⟨h0,by show j<=(cs.toArray.toList.length:Nat);simpa using h1⟩;refine this.trans ?_;show(⟨((cs.toArray.toList.drop 0).take (j - 0).toNat).toArray⟩:Str)=⟨(cs.take j.toNat).toArray⟩
 rw[List.toList_toArray,List.drop_zero,Int.sub_zero]
def oY (h0:0<=i)(h1:i<=cs.length):Txt.slice (JC cs) (Δ i) Φ=JC (cs.drop i.toNat):=by
 have:=StrLaws.sliceText_from (x:=JC cs) (i:=i) ⟨h0,by show i<=(cs.toArray.toList.length:Nat);simpa using h1⟩;refine this.trans ?_;show(⟨((cs.toArray.toList.drop i.toNat).take ((cs.toArray.toList.length:Int) - i).toNat).toArray⟩:Str)=⟨(cs.drop i.toNat).toArray⟩
 rw[List.toList_toArray,List.take_of_length_le (by rw[aan];omega)]
def Bg (a b:Ê):JC a++JC b=JC (a++b):=by
 show(⟨a.toArray++b.toArray⟩:Str)=⟨(a++b).toArray⟩
 rw[List.append_toArray]
def nQ (c:Nat):one c=JC [c]:=rfl
def kJ (h:a.length+b.length<=1000):Lm .add (.str (JC a)) (.str (JC b))=.ok (.str (JC (a++b))):=by rw[bg,kH (by rw[i5,i5];omega),Bg];rfl
def jD (cs:Ê):jo (JC cs)=(cs.map one).map .str:=by unfold jo JC one;rw[K_];rfl
def y3 (h:low c):jz "abcdefghijklmnopqrstuvwxyz" (one c)=Θ:=by
 have:∀k,k < 26->jz "abcdefghijklmnopqrstuvwxyz" (one (97+k))=Θ:=∅
 obtain⟨h1,h2⟩:=h;rw[show c=97+(c - 97) by omega];exact this _ ⋯
abbrev i6 (S x:Str):Bool:=x.cps.toList.all λc=>jz S ⟨#[c]⟩
abbrev K4 (S:Str)(l h:Int):D->Bool
 |.str x=>decide (l<=(x.length:Nat))&&decide (((x.length:Nat):Int)<=h)&&i6 S x
 |_=>Ξ
end Fr
end L2
namespace Law
open PySem PySem.Spec L2 L2.Fr PyProof.Rows
def gx {n:Nat}{ds:Ð}(f:Nat)(fn:Fn)(m k:Nat)(body:Ì)(hl:ds.length=m)(h:T f=Δ fn:=by rfl)(h0:fn.io=Ξ:=by rfl)(h1:fn.np=m:=by rfl)(h2:fn.G.N.length=k:=by rfl)(h3:fn.body=body:=by rfl):dj T (n+1) f ds=II (iD (dj T n) body (ds.map Δ++Τ (k - m) Φ)) yU:=go h h0 h1 h2 h3 hl
abbrev Qg (ns:Ë)(k:Int):Int:=if 0 < ns.length then ns.getD (k % (ns.length:Int)).toNat 0 % 2147483647 else 0
abbrev dr (ns:Ë)(k m:Int):Int:=(Qg ns k*(742938285+9973*k*k)+k*630360016) % 2147483647 / 97 % m
def GP (ns:Ë)(k:Int):0<=Qg ns k/\Qg ns k < 2147483647:=by
 unfold Qg;split
 ·exact⟨Int.emod_nonneg _ nofun,Int.emod_lt_of_pos _ nofun⟩
 ·decide
def ki (ns:Ë)(k:Int)  (h:0 < m):0<=dr ns k m:=Int.emod_nonneg _ ⋯
def kA (ns:Ë)(k:Int)  (h:0 < m):dr ns k m < m:=Int.emod_lt_of_pos _ h
def iR (n:Nat)(ns:Ë)(k m:Int)(h0:0<=k)(h1:k<=5000)(hm:0 < m):dj T (n+1) 43 [.lst Ξ (ns.map .int),.int k,.int m]=.ok (.int (dr ns k m)):=by
 rw[gx 43 X1 3 5 X0 rfl];unfold X0;obtain⟨b0,b1⟩:=GP ns k;unfold dr;have lm:(ns.map D.int).length=ns.length:=i_ _;by_cases h:0 < ns.length
 ·have hd:decide ((0:Int) < (ns.length:Int))=Θ:=y_ ⋯;have c0:=Int.emod_nonneg k (show(ns.length:Int)≠0 by omega);have c1:=Int.emod_lt_of_pos k (show(0:Int) < (ns.length:Int) by omega);have ec:ns.getD (k % (ns.length:Int)).toNat 0 % 2147483647=Qg ns k:=by unfold Qg;rw[h_ h]
  simp![lm,hd,ec]
 ·have hd:decide ((0:Int) < (ns.length:Int))=Ξ:=aae ⋯;have ec:Qg ns k=0:=by unfold Qg;rw[f_ h]
  rw[ec];simp![lm,hd]
def L4 (n:Nat)(ns:Ë)(k m:Int)(h0:0<=k)(h1:k<=5000)(hm:0 < m):∃r:Int,dj T (n+1) 43 [.lst Ξ (ns.map .int),.int k,.int m]=.ok (.int r)/\0<=r/\r < m:=⟨_,iR n ns k m h0 h1 hm,ki ns k hm,kA ns k hm⟩
def Sl (cs:Ê):Prop:=1<=cs.length/\cs.length<=12/\∀c∈cs,low c
def Bh (n:Nat)  (h:Sl cs):dj T (n+1) 25 [.str (JC cs),.str "abcdefghijklmnopqrstuvwxyz",.int 1,.int 12]=.ok (.bl Θ):=by
 rw[gx 25 Rc 4 4 OK rfl];unfold OK;obtain⟨h1,h2,h3⟩:=h;have e1:iz (iF (dj T n) (.nm 1) [] (.cmp .Mu (.v 1) (.v 0)) [Δ (.str "abcdefghijklmnopqrstuvwxyz"),Φ]) (jo (JC cs))=.ok ((cs.map λc=>Θ).map .bl):=by rw[jD,K_];refine i4 (λc:Nat=>D.str (one c)) (λc=>Θ) .bl _ λc hc=>?_;have:=y3 (h3 c hc);simp![this]
 have ea:(cs.map λ_=>Θ).all id=Θ:=by rw[List.all_map];simp
 have lc:(jo (JC cs)).length=cs.length:=by rw[jD,i_,i_]
 have d1:decide ((1:Int)<=(cs.length:Int))=Θ:=y_ ⋯;have d2:decide ((cs.length:Int)<=12)=Θ:=y_ ⋯;have sl:=i5 cs;simp![d1,d2,e1,ea,lc,sl]
def En (n:Nat)  (h:Sl cs):dj T (n+2) 26 [.str (JC cs)]=.ok .JF:=by have e:=Bh n h;rw[gx 26 Uy 1 1 Rf rfl];unfold Rf;simp![e]
end Law
namespace L2
open PySem PySem.Spec PyProof.Rows PySem.SeqAt
namespace Fr
mutual
noncomputable def pl:Nat->D->Bool
 |n+1,.tup ds=>Kh n ds&&decide (ds.length < 4000)
 |n+1,.lst o ds=>!o&&(Kh n ds&&decide (ds.length < 4000))
 |_+1,.exc _=>Ξ
 |0,_=>Ξ
 |_+1,_=>Θ
noncomputable def Kh:Nat->Ð->Bool
 |_,[]=>Θ
 |n,d::ds=>pl n d&&Kh n ds
end
theorem jQ:∀ {ds:Ð},Kh n ds=Θ->∀d∈ds,pl n d=Θ
 |[],_,d,hd=>by simp at hd
 |e::ds,h,d,hd=>by
  have h':=s_.mp (show(pl n e&&Kh n ds)=Θ from h);rcases k_.mp hd with rfl|hd
  ·exact h'.1
  ·exact jQ h'.2 d hd
def jm:∀(n:Nat) (d:D),pl n d=Θ->er d=d:=by
 intro n
 induction n with
 |zero=>intro d h;cases d<;>cases h
 |succ n ih=>
  have all:∀ds:Ð,Kh n ds=Θ->Jz ds=ds:=by
   intro ds
   induction ds with
   |nil=>intro _;rfl
   |cons e ds Ol=>intro h;have h':=s_.mp (show(pl n e&&Kh n ds)=Θ from h);show er e::Jz ds=_;rw[ih e h'.1,Ol h'.2]
  intro d h;cases d with
  |tup ds=>have h':=s_.mp (show(Kh n ds&&decide (ds.length < 4000))=Θ from h);rw[er,all ds h'.1]
  |lst o ds=>
   have h':=s_.mp (show(!o&&(Kh n ds&&decide (ds.length < 4000)))=Θ from h);have h2:=s_.mp h'.2;have ho:o=Ξ:=by simpa using h'.1
   subst ho;rw[er,all ds h2.1]
  |exc _=>cases h
  |_=>rfl
theorem lQ:∀ {ds:Ð},Kh n ds=Θ->Jz ds=ds
 |[],_=>rfl
 |e::ds,h=>by have h':=s_.mp (show(pl n e&&Kh n ds)=Θ from h);show er e::Jz ds=_;rw[jm n e h'.1,lQ h'.2]
def oZ (ds:Ð):jZ ds ds=ds.map λa=>.tup [a,a]:=by
 unfold jZ
 induction ds with
 |nil=>rfl
 |cons d ds ih=>rw[List.zipWith_cons_cons,ih];rfl
theorem rR:∀n:Nat,jR (Τ n (D.bl Θ))=Δ (Τ n Θ)
 |0=>rfl
 |n+1=>by rw[List.replicate_succ,List.replicate_succ];show(jR _).map _=_;rw[rR n];rfl
def all_true (o:Bool)(n:Nat):lC .all [.lst o (Τ n (D.bl Θ))]=.ok (.bl Θ):=by show(match jR (Τ n (D.bl Θ)) with|some bs=>.ok (.bl (bs.all id))|none=>JE:Res D)=_;rw[rR];simp
def Bl (hT:T f=Δ fn)(M5:fn.io=Ξ)(h1:fn.np=2)(h2:fn.G.N.length=2)(h3:fn.body=OI f):∀(n k:Nat) (d:D),pl n d=Θ->dj T (n+k) f [d,d]=.ok (.bl Θ):=by
 intro n
 induction n with
 |zero=>intro k d h;cases d<;>cases h
 |succ n ih=>
  intro k d h;have fm:∀ds:Ð,Kh n ds=Θ->iz (iF (dj T (n+k)) (.tp [.nm 0,.nm 1]) [] (.call f [.v 0,.v 1]) [Φ,Φ]) (jZ ds ds)=.ok (Τ ds.length (D.bl Θ)):=by
   intro ds hp;rw[oZ];refine(i4 (λa:D=>D.tup [a,a]) (λ_=>D.bl Θ) id ds λx hx=>?_).trans (by rw[List.map_id,List.map_const']);have KS:=jQ hp x hx;have hc:=ih k x KS;have he:=jm n x KS;have e2:Jz [x,x]=[x,x]:=by show [er x,er x]=_;rw[he]
   simp![iq,hc,e2,he,id]
  rw[show n+1+k=(n+k)+1 by omega,go hT M5 h1 h2 h3 rfl];unfold OI;cases d with
  |JF=>rfl
  |bl b=>exact congrArg (λz:Bool=>(Except.ok (D.bl z):Res D)) (beq_self_eq_true b)
  |int i=>exact congrArg (λz:Bool=>(Except.ok (D.bl z):Res D)) (beq_self_eq_true i)
  |str x=>exact congrArg (λz:Bool=>(Except.ok (D.bl z):Res D)) (beq_self_eq_true x)
  |tup ds=>
   have h':=s_.mp (show(Kh n ds&&decide (ds.length < 4000))=Θ from h);have hl:ds.length < 4000:=l_ h'.2;have hz:(jZ ds ds).length=ds.length:=by rw[oZ,i_]
   have e:=fm ds h'.1;have ea:=all_true Θ ds.length;unfold yY;simp![e,ea,hz]
  |lst o ds=>
   have h0:=s_.mp (show(!o&&(Kh n ds&&decide (ds.length < 4000)))=Θ from h);have h':=s_.mp h0.2;have hl:ds.length < 4000:=l_ h'.2;have hz:(jZ ds ds).length=ds.length:=by rw[oZ,i_]
   have e:=fm ds h'.1;have ea:=all_true Θ ds.length;unfold yY;simp![e,ea,hz]
  |exc _=>cases h
mutual
noncomputable def ow:D->D
 |.lst _ ds=>.lst Θ (ows ds)
 |.tup ds=>.tup (ows ds)
 |.JF=>.JF
 |.bl b=>.bl b
 |.int i=>.int i
 |.str x=>.str x
 |.exc c=>.exc c
noncomputable def ows:Ð->Ð
 |[]=>[]
 |d::ds=>ow d::ows ds
end
theorem nR:∀ds:Ð,ows ds=ds.map ow
 |[]=>rfl
 |d::ds=>by rw[ows,b_,nR ds]
mutual
theorem nv:∀d:D,er (ow d)=er d
 |.lst _ ds=>by rw[ow,er,er,o5 ds]
 |.tup ds=>by rw[ow,er,er,o5 ds]
 |.JF=>rfl
 |.bl _=>rfl
 |.int _=>rfl
 |.str _=>rfl
 |.exc _=>rfl
theorem o5:∀ds:Ð,Jz (ows ds)=Jz ds
 |[]=>rfl
 |d::ds=>by rw[ows,Jz,Jz,nv d,o5 ds]
end
def tD:∀(n:Nat) (d:D),pl n d=Θ->iM (ow d)=Θ:=by
 intro n
 induction n with
 |zero=>intro d h;cases d<;>cases h
 |succ n ih=>
  have all:∀ds:Ð,Kh n ds=Θ->jg (ows ds)=Θ:=λds hp=>mQ (by
   rw[nR,List.all_map,z_]
   exact λx hx=>ih x (jQ hp x hx))
  intro d h;cases d with
  |tup ds=>exact all ds (s_.mp (show(Kh n ds&&decide (ds.length < 4000))=Θ from h)).1
  |lst o ds=>exact all ds (s_.mp (s_.mp (show(!o&&(Kh n ds&&decide (ds.length < 4000)))=Θ from h)).2).1
  |exc _=>cases h
  |_=>rfl
theorem y9 (h:D->D):∀(xs:Ð),(∀x∈xs,g x=.ok (Δ (h x)))->iz g xs=.ok (xs.map h)
 |[],_=>rfl
 |x::xs,k=>by show II (g x) _=_;rw[k x (by simp)];show II (iz g xs) _=_;rw[y9 h xs λz hz=>k z (H_ _ hz)];rfl
def Bm (hT:T f=Δ fn)(M5:fn.io=Ξ)(h1:fn.np=1)(h2:fn.G.N.length=1)(h3:fn.body=OJ f x):∀(n k:Nat) (d:D),pl n d=Θ->dj T (n+k) f [d]=.ok (ow d):=by
 intro n
 induction n with
 |zero=>intro k d h;cases d<;>cases h
 |succ n ih=>
  intro k d h;have fm:∀ds:Ð,Kh n ds=Θ->iz (iF (dj T (n+k)) (.nm 0) [] (.call f [.v 0]) [Φ]) ds=.ok (ows ds)/\(ows ds).all iM=Θ:=by
   intro ds hp;rw[nR];refine⟨y9 ow ds λx hx=>?_,by rw[List.all_map,z_];exact λx hx=>tD n x (jQ hp x hx)⟩;have KS:=jQ hp x hx;have hc:=ih k x KS;have he:=jm n x KS;have e2:Jz [x]=[x]:=by show [er x]=_;rw[he]
   simp![iq,hc,e2,he]
  have kp:∀(ys:Ð) (τ:Ev),ys.all iM=Θ->iJ (.comp (rQ f x) [] (.nm 0) (.val (.v 0)) [] (.call f [.v 0])) (.lst Θ ys) τ=(.lst Θ ys,τ):=by intro ys τ ha;rw[Ek];show cond (ij ys) (D.lst Θ ys,τ) (cond (Θ&&ys.all iM) (.lst Θ ys,τ) _)=_;rw[ha];cases ij ys<;>rfl
  rw[show n+1+k=(n+k)+1 by omega,go hT M5 h1 h2 h3 rfl];unfold OJ;cases d with
  |JF=>rfl
  |bl b=>rfl
  |int i=>rfl
  |str z=>rfl
  |tup ds=>have h':=s_.mp (show(Kh n ds&&decide (ds.length < 4000))=Θ from h);have hl:ds.length < 4000:=l_ h'.2;obtain⟨e,ha⟩:=fm ds h'.1;have kq:=kp (ows ds) [Δ (.tup ds)] ha;unfold rQ at kq ⊢;simp![e,kq];rfl
  |lst o ds=>
   have h0:=s_.mp (show(!o&&(Kh n ds&&decide (ds.length < 4000)))=Θ from h);have h':=s_.mp h0.2;have ho:o=Ξ:=by simpa using h0.1
   subst ho;have hl:ds.length < 4000:=l_ h'.2;obtain⟨e,ha⟩:=fm ds h'.1;have kq:=kp (ows ds) [Δ (.lst Ξ ds)] ha;unfold rQ at kq ⊢;simp![e,kq];rfl
  |exc _=>cases h
end Fr
end L2
namespace Law
open PySem PySem.Spec L2 L2.Fr
def same (n k:Nat)  (h:pl n d=Θ):dj T (n+k) 64 [d,d]=.ok (.bl Θ):=Bl (fn:=Yc) rfl rfl rfl rfl rfl n k d h
def copy (n k:Nat)  (h:pl n d=Θ):dj T (n+k) 65 [d]=.ok (ow d):=Bm (fn:=Yd) (x:="_law_part") rfl rfl rfl rfl rfl n k d h
open PyProof.Rows
def za:Ρ "" = JC []:=∅
abbrev tS:Ì:=[.asg (.nm 3) (.bin .add (.v 3) (.idx (.v 2) (.call 43 [.v 0,.bin .add (.bin .add (.v 1) (.c (.int 2))) (.v 4),.c (.int 26)])))]
def Bn (n:Nat)(ns:Ë)  (h0:0<=k)(h1:k<=4900):∃cs:Ê,dj T (n+2) 45 [.lst Ξ (ns.map .int),.int k]=.ok (.str (JC cs))/\Sl cs:=by
 obtain⟨r,d0,a0,a1⟩:=L4 n ns k 12 h0 ⋯ nofun;obtain⟨τ',e,cs,y4,rfl,hl,hx⟩:=kI (its:=iU 0 r) (τ:=[Δ (.lst Ξ (ns.map .int)),Δ (.int k),Δ (.str "abcdefghijklmnopqrstuvwxyz"),Δ (.str (JC [])),Φ,Φ]) (body:=turn (dj T (n+1)) (.nm 4) tS)
  (λi τ=>∃(cs:Ê) (x4:Å),τ=[Δ (.lst Ξ (ns.map .int)),Δ (.int k),Δ (.str "abcdefghijklmnopqrstuvwxyz"),Δ (.str (JC cs)),x4,Φ]/\cs.length=i/\∀c∈cs,low c)
  ⟨[],Φ,rfl,rfl,λc hc=>by simp at hc⟩ (by
   rintro i x τ hx ⟨cs,x4,rfl,hl,Yo⟩;have hi:i < r.toNat:=by have:=(x_.mp hx).1;rw[jU]at this;omega
   unfold iU at hx;rw[D_,List.getElem?_range ⋯]at hx;have KS:D.int (0+(i:Nat))=x:=I_ hx;subst KS;obtain⟨q,d1,b0,b1⟩:=L4 n ns (k+2+(0+(i:Int))) 26 ⋯ ⋯ nofun;refine⟨[Δ (.lst Ξ (ns.map .int)),Δ (.int k),Δ (.str "abcdefghijklmnopqrstuvwxyz"),Δ (.str (JC (cs++[97+q.toNat]))),Δ (.int (0+(i:Nat))),Φ],?_,_,_,rfl,by rw[u_,hl];rfl,λc hc=>?_⟩
   ·have sa:=kJ (a:=cs) (b:=[97+q.toNat]) (by rw[hl,V_];omega);have ab:=oX b0 b1;rw[nQ]at ab;unfold tS;simp![iq,d1,ab,sa]
   ·rcases t_.mp hc with hc|hc
    ·exact Yo c hc
    ·rw[v_.mp hc];constructor<;>omega)
 rw[jU]at hl;obtain⟨t,d1,b0,b1⟩:=L4 n ns (k+1) ((cs.length:Int)+1) ⋯ ⋯ ⋯;obtain⟨q,d2,c0,c1⟩:=L4 n ns (k+14) 26 ⋯ ⋯ nofun;have ab:=oX c0 c1;rw[nQ]at ab;have s1:=k8 (cs:=cs) (j:=t) b0 ⋯;have s2:=oY (cs:=cs) (i:=t) b0 ⋯;have l1:(cs.take t.toNat).length<=12:=by rw[aab];omega
 have l2:(cs.drop t.toNat).length<=12:=by rw[aan];omega
 have p1:=kJ (a:=cs.take t.toNat) (b:=[97+q.toNat]) (by rw[V_];omega);have p2:=kJ (a:=cs.take t.toNat++[97+q.toNat]) (b:=cs.drop t.toNat) (by rw[u_,V_];omega);refine⟨cs.take t.toNat++[97+q.toNat]++cs.drop t.toNat,?_,?_,?_,λc hc=>?_⟩
 ·unfold tS at e;have sl:=i5 cs;rw[gx 45 X3 2 6 X2 rfl];unfold X2;simp![za,d0,e,sl,d1,d2,ab,s1,s2,p1,p2]
 ·rw[u_,u_,V_];omega
 ·have:(cs.take t.toNat).length+(cs.drop t.toNat).length=cs.length:=by rw[<- u_,List.take_append_drop]
  rw[u_,u_,V_];omega
 ·rcases t_.mp hc with hc|hc
  ·rcases t_.mp hc with hc|hc
   ·exact hx c (List.mem_of_mem_take hc)
   ·rw[v_.mp hc];constructor<;>omega
  ·exact hx c (List.mem_of_mem_drop hc)
def Bo (h:JC a=JC b):a=b:=by have:=congrArg (λs:Str=>s.cps.toList) h;simpa[JC] using this
abbrev tN:Ì:=[.asg (.nm 5) (.bin .add (.v 5) (.idx (.v 3) (.call 43 [.v 0,.bin .add (.bin .add (.v 1) (.c (.int 40))) (.v 6),.c (.int 26)])))]
abbrev jc (c:Int):Ë:=(List.range (c - 0).toNat).map λk=>(0:Int)+((k:Nat):Int)
def rS (h:x∈jc c):0<=x/\x < c:=by obtain⟨k,hk,rfl⟩:=List.mem_map.mp h;have:=aag.mp hk;omega
def nj (c:Int):(jc c).length=c.toNat:=by unfold jc;rw[i_,List.length_range];omega
def rT (n:Nat)(ns:Ë)  (k0:0<=k)(k1:k<=4000)  (c0':0<=c)(c1':c<=20):∃fs:È,dj T (n+2) 44 [.lst Ξ (ns.map .int),.int k,.int c]=.ok (.lst Θ (fs.map .str))/\fs.length=c.toNat:=by
 obtain⟨st,d0,a0,a1⟩:=L4 n ns k 26 k0 ⋯ nofun;have d1:=iR n ns (k+1) 5 ⋯ ⋯ nofun;generalize dr ns (k+1) 5=q at *;have ab:=oX a0 a1;have rn:iU 0 c=(jc c).map .int:=oV 0 c;have ln:((jc c).map D.int).length=c.toNat:=by rw[i_,nj]
 cases hq:(q == 0) with
 |true=>
  have fm:iz (iF (dj T (n+1)) (.nm 2) [] (.bin .mul (.idx (.v 0) (.v 1)) (.bin .add (.c (.int 1)) (.v 2))) [Δ (.str "abcdefghijklmnopqrstuvwxyz"),Δ (.int st),Φ]) ((jc c).map .int)=.ok (((jc c).map λj=>Txt.mul (one (97+st.toNat)) (1+j)).map .str):=by refine i4 .int (λj=>Txt.mul (one (97+st.toNat)) (1+j)) .str _ λj hj=>?_;have:=rS hj;have ol:=uJ (97+st.toNat);have gd:decide (-16000<=1+j/\1+j<=16000/\(one (97+st.toNat)).length<=1000)=Θ:=y_ (by rw[ol];omega);simp![ab,gd]
  refine⟨(jc c).map λj=>Txt.mul (one (97+st.toNat)) (1+j),?_,by rw[i_,nj]⟩
  ·rw[gx 44 VH 3 9 UC rfl];unfold UC;generalize(jc c).map (λj=>Txt.mul (one (97+st.toNat)) (1+j))=L at *;simp![d0,d1,hq,rn,ln,fm]
 |false=>
  obtain⟨r,d2,b0,b1⟩:=L4 n ns (k+2) 8 ⋯ ⋯ nofun;obtain⟨τ',e,cs,y4,rfl,hl,PV⟩:=kI (its:=iU 0 r) (τ:=[Δ (.lst Ξ (ns.map .int)),Δ (.int k),Δ (.int c),Δ (.str "abcdefghijklmnopqrstuvwxyz"),Δ (.int st),Δ (.str (JC [])),Φ,Φ,Φ]) (body:=turn (dj T (n+1)) (.nm 6) tN)
   (λi τ=>∃(cs:Ê) (x4:Å),τ=[Δ (.lst Ξ (ns.map .int)),Δ (.int k),Δ (.int c),Δ (.str "abcdefghijklmnopqrstuvwxyz"),Δ (.int st),Δ (.str (JC cs)),x4,Φ,Φ]/\cs.length=i/\∀c∈cs,low c)
   ⟨[],Φ,rfl,rfl,λc hc=>by simp at hc⟩ (by
    rintro i x τ hx ⟨cs,x4,rfl,hl,Yo⟩;have hi:i < r.toNat:=by have:=(x_.mp hx).1;rw[jU]at this;omega
    unfold iU at hx;rw[D_,List.getElem?_range ⋯]at hx;have KS:D.int (0+(i:Nat))=x:=I_ hx;subst KS;obtain⟨q,d1,b0,b1⟩:=L4 n ns (k+40+(0+(i:Int))) 26 ⋯ ⋯ nofun
    refine⟨[Δ (.lst Ξ (ns.map .int)),Δ (.int k),Δ (.int c),Δ (.str "abcdefghijklmnopqrstuvwxyz"),Δ (.int st),Δ (.str (JC (cs++[97+q.toNat]))),Δ (.int (0+(i:Nat))),Φ,Φ],?_,_,_,rfl,by rw[u_,hl];rfl,λc hc=>by
     rcases t_.mp hc with hc|hc
     ·exact Yo c hc
     ·rw[v_.mp hc];constructor<;>omega⟩
    have sa:=kJ (a:=cs) (b:=[97+q.toNat]) (by rw[hl,V_];omega);have ab:=oX b0 b1;rw[nQ]at ab;unfold tN
    simp![iq,d1,ab,sa])
  rw[jU]at hl;unfold tN at e;obtain⟨t,d3,g0,g1⟩:=L4 n ns (k+3) ((cs.length:Int)+1) ⋯ ⋯ ⋯;obtain⟨u,d4,f0,f1⟩:=L4 n ns (k+1) 4 ⋯ ⋯ nofun;obtain⟨sp,MG,spc⟩:∃sp:Int,(∀o,iO (.lst o [.int 1,.int 7,.int 25,.int 11]) (.int u)=.ok (.int sp))/\sp∈([1,7,25,11]:Ë):=by
   rcases(show u=0∨u=1∨u=2∨u=3 by omega) with rfl|rfl|rfl|rfl
   ·exact⟨1,λ_=>rfl, nofun⟩
   ·exact⟨7,λ_=>rfl, nofun⟩
   ·exact⟨25,λ_=>rfl, nofun⟩
   ·exact⟨11,λ_=>rfl, nofun⟩
  have s1:=k8 (cs:=cs) (j:=t) g0 ⋯;have s2:=oY (cs:=cs) (i:=t) g0 ⋯;have l1:(cs.take t.toNat).length<=12:=by rw[aab];omega
  have l2:(cs.drop t.toNat).length<=12:=by rw[aan];omega
  have sl:=i5 cs;have fm:iz (iF (dj T (n+1)) (.nm 5) [] (.bin .add (.bin .add (.sl (.v 0) Φ (Δ (.v 1))) (.idx (.v 2) (.bin .mod (.bin .add (.v 3) (.bin .mul (.v 4) (.v 5))) (.c (.int 26))))) (.sl (.v 0) (Δ (.v 1)) Φ)) [Δ (.str (JC cs)),Δ (.int t),Δ (.str "abcdefghijklmnopqrstuvwxyz"),Δ (.int st),Δ (.int sp),Φ]) ((jc c).map .int)=.ok (((jc c).map λj=>JC (cs.take t.toNat++[97+((st+sp*j) % 26).toNat]++cs.drop t.toNat)).map .str):=by refine i4 .int (λj=>JC (cs.take t.toNat++[97+((st+sp*j) % 26).toNat]++cs.drop t.toNat)) .str _ λj hj=>?_;have:=rS hj;have c0:=Int.emod_nonneg (st+sp*j) (show(26:Int)≠0 by decide);have c1:=Int.emod_lt_of_pos (st+sp*j) (show(0:Int) < 26 by decide);have ab:=oX c0 c1;rw[nQ]at ab;have p1:=kJ (a:=cs.take t.toNat) (b:=[97+((st+sp*j) % 26).toNat]) (by rw[V_];omega);have p2:=kJ (a:=cs.take t.toNat++[97+((st+sp*j) % 26).toNat]) (b:=cs.drop t.toNat) (by rw[u_,V_];omega);simp![s1,s2,sl,ab,p1,p2]
  refine⟨(jc c).map λj=>JC (cs.take t.toNat++[97+((st+sp*j) % 26).toNat]++cs.drop t.toNat),?_,by rw[i_,nj]⟩
  ·rw[gx 44 VH 3 9 UC rfl];unfold UC;generalize(jc c).map (λj=>JC (cs.take t.toNat++[97+((st+sp*j) % 26).toNat]++cs.drop t.toNat))=L at *;simp![za,d0,d1,hq,d2,e,sl,d3,d4,MG,rn,ln,fm]
def tE {g:D->Res (Å)}{x y:D}{xs ys:Ð}(h:g x=.ok (Δ y))(k:iz g xs=.ok ys):iz g (x::xs)=.ok (y::ys):=by show II (g x) _=_;rw[h];show II (iz g xs) _=_;rw[k];rfl
inductive Tn where
 | i (n:Int)|s (x:Str)
abbrev Tn.d:Tn->D
 |.i n=>.int n
 |.s x=>.str x
def Eo:(Ρ "abcdefghijklmnopqrstuvwxyz0123456789").length=36:=∅
theorem pY:∀(cs:Ê) (acc:Array Nat),(cs.map one).foldl (λacc p=>acc++(Ρ "").cps++p.cps) acc=acc++cs.toArray
 |[],acc=>by simp
 |c::cs,acc=>by
  have e:(Ρ "").cps = #[]:=∅
  rw[b_,List.foldl_cons,pY cs,e];show acc++#[]++#[c]++cs.toArray=_;simp
def join_one (cs:Ê):Txt.join "" (cs.map one)=JC cs:=by
 show(⟨((cs.map one).drop 1).foldl (λacc p=>acc++(Ρ "").cps++p.cps) ((cs.map one).headD Str.empty).cps⟩:Str)=_;cases cs with
 |nil=>rfl
 |cons c cs=>rw[b_,List.drop_succ_cons,List.drop_zero,List.headD_cons,pY];unfold JC one;simp
def Bp (cs:Ê):((cs.map one).map (λy:Str=>y.length)).sum=cs.length:=by
 induction cs with
 |nil=>rfl
 |cons c cs ih=>rw[b_,b_,List.sum_cons,ih,List.length_cons,uJ];omega
def uK (h:cs.length<=1000):pC .join (.str "") [.lst o ((cs.map one).map .str)]=.ok (.str (JC cs)):=by
 have e:(Ρ "").length=0:=∅
 rw[Be (by rw[Bp,i_,e];omega),join_one]
abbrev sg:Str:=Ρ "abcdefghijklmnopqrstuvwxyz0123456789"
def kK:sg.length=36:=Eo
def ok (c:Nat):Prop:=jz sg (one c)=Θ
def zd:∀c∈sg.cps.toList,ok c:=by
 have h:sg.cps.toList.all (λc=>jz sg (one c))=Θ:=∅
 exact λc hc=>z_.mp h c hc
def pZ (x:Str)(lo hi:Option Int)  (h:c∈(Txt.slice x lo hi).cps.toList):c∈x.cps.toList:=by
 unfold Txt.slice at h;split at h
 ·exact h
 ·have h:c∈(List.filterMap _ _).toArray.toList:=h;rw[List.toList_toArray]at h;obtain⟨a,_,ha⟩:=List.mem_filterMap.mp h;have:=Array.mem_of_getElem? ha;simpa using this
def ze (h:0 < xs.length):Txt.slice (JC xs) Φ (Δ (-1))=JC (xs.take (xs.length - 1)):=by have e:=StrLaws.sliceText_neg_hi (JC xs) Φ (j:=-1) nofun (by rw[i5];omega);refine(show Txt.slice (JC xs) Φ (Δ (-1))=Txt.slice (JC xs) Φ (Δ (-1+((JC xs).length:Int))) from e).trans ?_;rw[i5,k8 ⋯ ⋯];congr 2;omega
def uL:Ρ "" = JC []:=∅
def uM (xs:Ê):(JC xs == Ρ "")=xs.isEmpty:=by
 cases xs with
 |nil=>rw[uL];exact beq_self_eq_true _
 |cons c xs=>rw[uL];refine beq_eq_false_iff_ne.mpr λh=>?_;have:=Bo h;cases this
structure Sm (ys:Ê):Prop where
 len:ys.length=12
 ok:∀c∈ys,ok c
def Tx (xs:Ê):Prop:=xs.length<=8/\∀c∈xs,ok c
def uN (n:Nat)(ns:Ë)  (h0:0<=k)(h1:k<=4900)  (hs:Sm ys):∃xs:Ê,dj T (n+2) 50 [.lst Ξ (ns.map .int),.int k,.str (JC ys)]=.ok (.str (JC xs))/\Tx xs:=by
 obtain⟨r,d1,a0,a1⟩:=L4 n ns k 9 h0 ⋯ nofun;have d2:=iR n ns (k+1) 3 ⋯ ⋯ nofun;generalize dr ns (k+1) 3=q at *;obtain⟨i,d3,b3,c3⟩:=L4 n ns (k+2) 36 ⋯ ⋯ nofun;have hl:=hs.len;have s1:=k8 (cs:=ys) (j:=r) a0 ⋯;have sl:=i5 ys;have l1:(ys.take r.toNat).length<=8:=by rw[aab];omega
 have o1:∀c∈ys.take r.toNat,ok c:=λc hc=>hs.ok c (List.mem_of_mem_take hc);generalize ys.take r.toNat=xs at *;have sn:=uM xs;have Vf:=i5 xs;cases q1:xs.isEmpty with
 |true=>rw[q1]at sn;refine⟨xs,?_,l1,o1⟩;rw[gx 50 UG 3 4 Ri rfl];unfold Ri;simp![d1,sn,s1,sl]
 |false=>
  rw[q1]at sn;have h0':0 < xs.length:=by
   cases xs with
   |nil=>cases q1
   |cons=>simp
  cases q2:(q == 0) with
  |true=>
   have hy:=Ur (z:=sg) b3 (by rw[kK];exact c3) (by rw[kK];decide);have s2:=ze h0'
   have oy:ok (sg.cps.toList.getD i.toNat 0):=zd _ (by
    have JZ:i.toNat < sg.cps.toList.length:=by have:sg.cps.toList.length=36:=kK;omega
    rw[aaj,C_ JZ]
    exact aai JZ)
   generalize sg.cps.toList.getD i.toNat 0=y at *;have hy:iO (.str sg) (.int i)=.ok (.str (JC [y])):=hy;have sa:=kJ (a:=xs.take (xs.length - 1)) (b:=[y]) (by rw[aab,V_];omega);refine⟨xs.take (xs.length - 1)++[y],?_,by rw[u_,aab,V_];omega,λc hc=>?_⟩
   ·unfold sg at hy;rw[gx 50 UG 3 4 Ri rfl];unfold Ri;simp![d1,d2,d3,sn,q2,hy,s1,s2,sl,Vf,sa]
   ·rcases t_.mp hc with hc|hc
    ·exact o1 c (List.mem_of_mem_take hc)
    ·rw[v_.mp hc];exact oy
  |false=>refine⟨xs,?_,l1,o1⟩;rw[gx 50 UG 3 4 Ri rfl];unfold Ri;simp![d1,d2,sn,q2,s1,sl]
def Nb (x:Int):Prop:=-999999999<=x/\x<=999999999
def Ce (c:Int):Prop:=-999999990<=c/\c<=999999990
def p4 (n:Nat)(ns:Ë)  (h0:0<=k)(h1:k<=4900)  (hc:Ce c):∃x:Int,dj T (n+2) 52 [.lst Ξ (ns.map .int),.int k,.int c]=.ok (.int x)/\Nb x:=by
 obtain⟨r,d1,b1,c1⟩:=L4 n ns k 8 h0 ⋯ nofun;obtain⟨hc0,Zo⟩:=hc;by_cases h:r < 5
 ·have hd:decide (r < 5)=Θ:=y_ h;refine⟨c+r - 2,?_,⋯,⋯⟩;rw[gx 52 VJ 3 4 UH rfl];unfold UH;simp![d1,hd]
 ·have hd:decide (r < 5)=Ξ:=aae h;have hx:iO (.lst Θ [.int 999999999,.int (0 - 999999999),.int 0]) (.int (r - 5))=.ok (.int ([999999999,0 - 999999999,0].getD (r - 5).toNat 0)):=VB (o:=Θ) (xs:=[999999999,0 - 999999999,0]) ⋯ (by show r - 5 < 3;omega);refine⟨([999999999,0 - 999999999,0]:Ë).getD (r - 5).toNat 0,?_,?_⟩
  ·rw[gx 52 VJ 3 4 UH rfl];unfold UH;simp![d1,hd,hx]
  ·rcases(show r=5∨r=6∨r=7 by omega) with rfl|rfl|rfl<;>(unfold Nb;decide)
def Tv:Tn->Prop
 |.i n=>Nb n
 |.s x=>∃xs,x=JC xs/\Tx xs
def zg (n:Nat)(ns:Ë)  (h0:0<=k)(h1:k<=4800)  (hs:Sm ys)  (hc:Ce c):∃t:Tn,dj T (n+3) 53 [.lst Ξ (ns.map .int),.int k,.str (JC ys),.int c]=.ok t.d/\Tv t:=by
 have d1:=iR (n+1) ns k 2 h0 ⋯ nofun;obtain⟨x,ex,nx⟩:=p4 n ns (k:=k+1) ⋯ ⋯ hc;obtain⟨y,ey,ty⟩:=uN n ns (k:=k+2) ⋯ ⋯ hs;cases q:(dr ns k 2 == 0) with
 |true=>refine⟨.i x,?_,nx⟩;unfold Tn.d;rw[gx 53 VL 4 4 UI rfl];unfold UI;simp![d1,q,ex]
 |false=>refine⟨.s (JC y),?_,y,rfl,ty⟩;unfold Tn.d;rw[gx 53 VL 4 4 UI rfl];unfold UI;simp![d1,q,ey]
def vU (n:Nat)(ns:Ë)  (h0:0<=k)(h1:k<=4900):∃c:Int,dj T (n+2) 51 [.lst Ξ (ns.map .int),.int k]=.ok (.int c)/\Ce c:=by
 have d1:=iR n ns k 20000 h0 ⋯ nofun;have d2:=iR n ns (k+1) 100000 ⋯ ⋯ nofun;have b1:=ki ns k (m:=20000) nofun;have c1:=kA ns k (m:=20000) nofun;have hp:Lm .pow (.int 10) (.int 9)=.ok (.int 1000000000):=by kernel_rfl
 generalize dr ns k 20000=a,dr ns (k+1) 100000=b at *;refine⟨if 999999990 < (if 0 - 999999990 > a*100000+b - 1000000000 then 0 - 999999990 else a*100000+b - 1000000000) then 999999990 else(if 0 - 999999990 > a*100000+b - 1000000000 then 0 - 999999990 else a*100000+b - 1000000000),?_,?_⟩
 ·rw[gx 51 X6 2 3 X5 rfl];unfold X5;simp![d1,d2,hp]
 ·unfold Ce;split<;>split at *<;>omega
def qH (h:x∈iU 0 a):∃j:Int,x=.int j/\0<=j/\j < a:=by unfold iU at h;obtain⟨k,hk,rfl⟩:=List.mem_map.mp h;rw[aag]at hk;exact⟨0+(k:Int),rfl,⋯,⋯⟩
theorem rV {P:Nat->Prop}{g:D->Res (Å)}:∀(its:Ð),(∀x∈its,∃y:Nat,g x=.ok (Δ (.str (one y)))/\P y)->∃ys:Ê,iz g its=.ok ((ys.map one).map .str)/\ys.length=its.length/\∀y∈ys,P y
 |[],_=>⟨[],rfl,rfl,λy hy=>by cases hy⟩
 |x::its,h=>by obtain⟨y,hy,py⟩:=h x (by simp);obtain⟨ys,e,hl,hp⟩:=rV its λz hz=>h z (H_ _ hz);exact⟨y::ys,tE hy e,by rw[List.length_cons,List.length_cons,hl],λz hz=>by rcases k_.mp hz with rfl|hz;exact py;exact hp z hz⟩
theorem nk {P:Æ}{g:D->Res (Å)}:∀(its:Ð),(∀x∈its,∃y:Str,g x=.ok (Δ (.str y))/\P y)->∃ys:È,iz g its=.ok (ys.map .str)/\ys.length=its.length/\∀y∈ys,P y
 |[],_=>⟨[],rfl,rfl,λy hy=>by cases hy⟩
 |x::its,h=>by obtain⟨y,hy,py⟩:=h x (by simp);obtain⟨ys,e,hl,hp⟩:=nk its λz hz=>h z (H_ _ hz);exact⟨y::ys,tE hy e,by rw[List.length_cons,List.length_cons,hl],λz hz=>by rcases k_.mp hz with rfl|hz;exact py;exact hp z hz⟩
def uO (n:Nat)(ns:Ë)  (h0:0<=k)(h1:k<=4900)  (z0:0 < z.length)(z1:z.length<=100)(hz:∀c∈z.cps.toList,ok c) :
  ∃ys:Ê,iz (iF (dj T (n+1)) (.nm 3) [] (.idx (.v 0) (.call 43 [.v 1,.bin .add (.bin .add (.v 2) (.c (.int 2))) (.v 3),.bi .len [.v 0]])) [Δ (.str z),Δ (.lst Ξ (ns.map .int)),Δ (.int k),Φ]) (iU 0 12)=.ok ((ys.map one).map .str)/\Sm ys:=by
 obtain⟨ys,e,hl,hp⟩:=rV (P:=ok) (g:=iF (dj T (n+1)) (.nm 3) [] (.idx (.v 0) (.call 43 [.v 1,.bin .add (.bin .add (.v 2) (.c (.int 2))) (.v 3),.bi .len [.v 0]])) [Δ (.str z),Δ (.lst Ξ (ns.map .int)),Δ (.int k),Φ]) (iU 0 12) (by
  intro x hx;obtain⟨j,rfl,j0,j1⟩:=qH hx;have d:=iR n ns (k+2+j) (z.length:Int) ⋯ ⋯ ⋯;have b:=ki ns (k+2+j) (m:=(z.length:Int)) ⋯;have c:=kA ns (k+2+j) (m:=(z.length:Int)) ⋯;have hy:=Ur (z:=z) b c ⋯;refine⟨z.cps.toList.getD (dr ns (k+2+j) (z.length:Int)).toNat 0,?_,hz _ ?_⟩
  ·unfold one;simp![iq,d,hy]
  ·have JZ:(dr ns (k+2+j) (z.length:Int)).toNat < z.cps.toList.length:=by have:z.cps.toList.length=z.length:=rfl;omega
   rw[aaj,C_ JZ]
   exact aai JZ)
 exact⟨ys,e,hl.trans (by rw[jU];rfl),hp⟩
def Ep:∀d:Fin 34,0 < (Txt.slice (Txt.slice sg (Δ ((d:Nat):Int)) Φ) Φ (Δ 2)).length:=∅
def p6 (x:Str)(lo hi:Option Int):(Txt.slice x lo hi).length<=x.length:=by
 have:=indices_len_le lo hi x.length;unfold Txt.slice;split
 ·exact q_ _
 ·refine N_ ?_ this;show(List.filterMap _ _).toArray.size<=_;rw[F_];exact List.length_filterMap_le ..
def Bq (n:Nat)(ns:Ë)  (h0:0<=k)(h1:k<=4800):∃ys:Ê,dj T (n+2) 49 [.lst Ξ (ns.map .int),.int k]=.ok (.str (JC ys))/\Sm ys:=by
 have d1:=iR n ns k 2 h0 ⋯ nofun;have d2:=iR n ns (k+1) 34 ⋯ ⋯ nofun;have b2:=ki ns (k+1) (m:=34) nofun;have c2:=kA ns (k+1) (m:=34) nofun;have lr:(iU 0 12).length=12:=by rw[jU];rfl
 cases q:(dr ns k 2 == 0) with
 |false=>obtain⟨ys,e,hs⟩:=uO n ns h0 ⋯ (z:=sg) (by rw[kK];decide) (by rw[kK];decide) zd;have hl:=hs.len;have je:=uK (o:=Θ) (cs:=ys) ⋯;refine⟨ys,?_,hs⟩;unfold sg at e;rw[gx 49 VI 2 4 UE rfl];unfold UE;simp![d1,q,e,je,lr]
 |true=>obtain⟨j,hj⟩:=Int.eq_ofNat_of_zero_le b2;have hz:=Ep ⟨j,⋯⟩;have l1:=p6 sg (Δ ((j:Nat):Int)) Φ;have l2:=p6 (Txt.slice sg (Δ ((j:Nat):Int)) Φ) Φ (Δ 2);rw[kK]at l1;have hz':0 < (Txt.slice (Txt.slice sg (Δ ((j:Nat):Int)) Φ) Φ (Δ 2)).length:=hz;obtain⟨ys,e,hs⟩:=uO n ns h0 ⋯ (z:=Txt.slice (Txt.slice sg (Δ ((j:Nat):Int)) Φ) Φ (Δ 2)) hz' ⋯ λc hc=>zd c (pZ _ _ _ (pZ _ _ _ hc));have hl:=hs.len;have je:=uK (o:=Θ) (cs:=ys) ⋯;refine⟨ys,?_,hs⟩;rw[hj]at d2;have sl:=kK;unfold sg at e l1 l2 sl;rw[gx 49 VI 2 4 UE rfl];unfold UE;simp![d1,d2,q,e,je,sl,lr]
structure Cn where
 m:Str
 w:Str
 ts:List Tn
abbrev Cn.d (c:Cn):D:=.tup [.str c.m,.str c.w,.lst Ξ (c.ts.map Tn.d)]
def zh (ts:List Tn):ij (ts.map Tn.d)=Θ:=by rw[jw,List.all_map];exact z_.mpr λt _=>by cases t<;>rfl
def B9 (ts:List Tn):Jz (ts.map Tn.d)=ts.map Tn.d:=jJ (zh ts)
def sk (h:IV cl c τ=.ok (.bl Ξ)):iD cl (.JV c a []::r) τ=iD cl r τ:=by simp![h]
def UM (h:IV cl c τ=.ok (.bl Θ))(e:iD cl a τ=.ok (.nx τ')):iD cl (.JV c a []::r) τ=iD cl r τ':=by simp![h,e]
def GQ (c:Cn):er c.d=c.d:=by show D.tup [.str c.m,.str c.w,.lst Ξ (Jz (c.ts.map Tn.d))]=_;rw[B9];rfl
abbrev Sx (r:List Cn):D:=.lst Ξ (r.map Cn.d)
def Er (r:List Cn):Jz (r.map Cn.d)=r.map Cn.d:=by rw[i8,K_];exact aam λc _=>GQ c
def GR (r:List Cn):er (Sx r)=Sx r:=by show D.lst Ξ (Jz (r.map Cn.d))=_;rw[Er];rfl
structure Gp where
 nm:Str
 rows:List (List Cn)
abbrev Gp.d (g:Gp):D:=.tup [.str g.nm,.lst Ξ (g.rows.map Sx)]
abbrev Py (w:Str):Bool:=(w == Ρ "in")||(w == Ρ "out")
abbrev JH (p:Int×Int):D:=.tup [.int p.1,.int p.2]
@[reducible]def _root_.À:=List (Int×Int)
def j6 (l:À):Jz (l.map JH)=l.map JH:=by rw[i8,K_];rfl
@[reducible]def Al:=List (Str×À)
abbrev ML (p:Str×À):D:=.tup [.str p.1,.lst Ξ (p.2.map JH)]
abbrev OY (al:Al)(fr:À):D:=.tup [.lst Ξ (al.map ML),.lst Ξ (fr.map JH)]
def GU (p:Str×À):er (ML p)=ML p:=by show D.tup [.str p.1,.lst Ξ (Jz (p.2.map JH))]=_;rw[j6];rfl
def zi (al:Al):Jz (al.map ML)=al.map ML:=by rw[i8,K_];exact aam λp _=>GU p
inductive Oc where
 | face (f:Str)|share (f:Str) (st:À)|MD
abbrev Oc.d:Oc->D
 |.face f=>.tup [.str "face",.str f]
 |.share f st=>.tup [.str "share",.str f,.lst Ξ (st.map JH)]
 |.MD=>.tup [.str "lot"]
structure Rl where
 cs:List Cn
 o:Oc
abbrev Rl.d (r:Rl):D:=.tup [Sx r.cs,r.o.d]
abbrev Cn.t (c:Cn):D:=.tup [.str c.m,.str c.w,.lst Θ (c.ts.map Tn.d)]
def GV (c:Cn):er c.t=c.d:=by show D.tup [.str c.m,.str c.w,.lst Ξ (Jz (c.ts.map Tn.d))]=_;rw[B9];rfl
abbrev W7:È:=[Ρ "is",Ρ "not",Ρ "begins",Ρ "least",Ρ "most",Ρ "has",Ρ "lacks"]
abbrev W9:È:=W7++[Ρ "in",Ρ "out"]
abbrev tst (w:Str):List Bool:=[(w == Ρ "is")||(w == Ρ "not"),w == Ρ "begins",(w == Ρ "least")||(w == Ρ "most"),(w == Ρ "in")||(w == Ρ "out")]
abbrev rows:List (List Bool):=[[Θ,Ξ,Ξ,Ξ],[Ξ,Θ,Ξ,Ξ],[Ξ,Ξ,Θ,Ξ],[Ξ,Ξ,Ξ,Θ],[Ξ,Ξ,Ξ,Ξ]]
def t9:∀w∈W9,tst w∈rows:=∅
def t7:∀w∈W7,Py w=Ξ:=∅
theorem uP {P:Tn->Prop}  : ∀(its:Ð),(∀x∈its,∃t:Tn,g x=.ok (Δ t.d)/\P t)->∃ts:List Tn,iz g its=.ok (ts.map Tn.d)/\ts.length=its.length/\∀t∈ts,P t
 |[],_=>⟨[],rfl,rfl,λt ht=>by cases ht⟩
 |x::its,h=>by obtain⟨y,hy,py⟩:=h x (by simp);obtain⟨ys,e,hl,hp⟩:=uP its λz hz=>h z (H_ _ hz);exact⟨y::ys,tE hy e,by rw[List.length_cons,List.length_cons,hl],λz hz=>by rcases k_.mp hz with rfl|hz;exact py;exact hp z hz⟩
structure Vc (gn:È)(c:Cn):Prop where
 w:c.w∈W9
 a:((c.w == Ρ "is")||(c.w == Ρ "not"))=Θ->1<=c.ts.length/\∀t∈c.ts,Tv t
 b:(c.w == Ρ "begins")=Θ->1<=c.ts.length/\∀t∈c.ts,∃xs,t=.s (JC xs)/\1<=xs.length/\Tx xs
 l:((c.w == Ρ "least")||(c.w == Ρ "most"))=Θ->∃z,c.ts=[.i z]/\Nb z
 o:((c.w == Ρ "is")||(c.w == Ρ "not"))=Ξ->(c.w == Ρ "begins")=Ξ->((c.w == Ρ "least")||(c.w == Ρ "most"))=Ξ->c.ts=[]
 g:Py c.w=Θ->c.m∈gn
 len:c.ts.length<=2
def pH (a:Int):(iU 0 a).length=a.toNat:=by unfold iU;rw[i_,List.length_range];omega
section
variable (n:Nat)(ns:Ë){k:Int}(k0:0<=k)(k1:k<=4000){Kp:Ê}(hs:Sm Kp){c:Int}(hc:Ce c)
include k0 k1 hs hc in
theorem Br (d:Int)(d0:0<=d)(d1:d < 2):∃ts:List Tn,iz (iF (dj T (n+3)) (.nm 4) [] (.call 53 [.v 0,.bin .add (.bin .add (.v 1) (.c (.int 3))) (.bin .mul (.c (.int 5)) (.v 4)),.v 2,.v 3]) [Δ (.lst Ξ (ns.map .int)),Δ (.int k),Δ (.str (JC Kp)),Δ (.int c),Φ]) (iU 0 (1+d))=.ok (ts.map Tn.d)/\(1<=ts.length/\ts.length<=2)/\∀t∈ts,Tv t:=by
 obtain⟨ts,e,hl,hp⟩:=uP (P:=Tv) (g:=iF (dj T (n+3)) (.nm 4) [] (.call 53 [.v 0,.bin .add (.bin .add (.v 1) (.c (.int 3))) (.bin .mul (.c (.int 5)) (.v 4)),.v 2,.v 3]) [Δ (.lst Ξ (ns.map .int)),Δ (.int k),Δ (.str (JC Kp)),Δ (.int c),Φ]) (iU 0 (1+d)) λx hx=>by obtain⟨j,rfl,j0,j1⟩:=qH hx;obtain⟨t,e,tv⟩:=zg n ns (k:=k+3+5*j) ⋯ ⋯ hs hc;have ei:=ja ns;refine⟨t,?_,tv⟩;generalize ns.map D.int=NS,t.d=TD at *;simp![iq,ei,e]
 exact⟨ts,e,by rw[hl,pH];omega,hp⟩
include k0 k1 hs in
theorem Es (d:Int)(d0:0<=d)(d1:d < 2):∃ys:È,iz (iF (dj T (n+3)) (.nm 3) [] (.call 50 [.v 0,.bin .add (.bin .add (.v 1) (.c (.int 3))) (.bin .mul (.c (.int 5)) (.v 3)),.v 2]) [Δ (.lst Ξ (ns.map .int)),Δ (.int k),Δ (.str (JC Kp)),Φ]) (iU 0 (1+d))=.ok (ys.map .str)/\(1<=ys.length/\ys.length<=2)/\∀y∈ys,∃xs,y=JC xs/\Tx xs:=by
 obtain⟨ts,e,hl,hp⟩:=nk (P:=λy=>∃xs,y=JC xs/\Tx xs) (g:=iF (dj T (n+3)) (.nm 3) [] (.call 50 [.v 0,.bin .add (.bin .add (.v 1) (.c (.int 3))) (.bin .mul (.c (.int 5)) (.v 3)),.v 2]) [Δ (.lst Ξ (ns.map .int)),Δ (.int k),Δ (.str (JC Kp)),Φ]) (iU 0 (1+d)) λx hx=>by obtain⟨j,rfl,j0,j1⟩:=qH hx;obtain⟨t,e,tx⟩:=uN (n+1) ns (k:=k+3+5*j) ⋯ ⋯ hs;have ei:=ja ns;refine⟨JC t,?_,t,rfl,tx⟩;generalize ns.map D.int=NS at *;simp![iq,ei,e]
 exact⟨ts,e,by rw[hl,pH];omega,hp⟩
include hs in
theorem Et (cl:Ä){ys:È}(hy:∀y∈ys,∃xs,y=JC xs/\Tx xs):∃zs:È,iz (iF cl (.nm 1) [] (.ite (.cmp .ne (.v 1) (.c (.str ""))) (.v 1) (.sl (.v 0) Φ (Δ (.c (.int 1))))) [Δ (.str (JC Kp)),Φ]) (ys.map .str)=.ok (zs.map .str)/\zs.length=ys.length/\∀z∈zs,∃xs,z=JC xs/\1<=xs.length/\Tx xs:=by
 have sl:=i5 Kp;have hl:=hs.len;have s1:=k8 (cs:=Kp) (j:=1) nofun ⋯;obtain⟨zs,e,hl,hp⟩:=nk (P:=λz=>∃xs,z=JC xs/\1<=xs.length/\Tx xs) (g:=iF cl (.nm 1) [] (.ite (.cmp .ne (.v 1) (.c (.str ""))) (.v 1) (.sl (.v 0) Φ (Δ (.c (.int 1))))) [Δ (.str (JC Kp)),Φ]) (ys.map .str) λx hx=>by
  obtain⟨y,hym,rfl⟩:=List.mem_map.mp hx;obtain⟨xs,rfl,tx⟩:=hy y hym;have q:=uM xs;cases xs with
  |nil=>have q:(JC [] == Ρ "")=Θ:=q;exact⟨JC (Kp.take (1:Int).toNat),by simp![iq,q,s1,sl],_,rfl,by rw[aab];show 1<=min 1 _;omega,by rw[aab];show min 1 _<=8;omega,λc hc=>hs.ok c (List.mem_of_mem_take hc)⟩
  |cons c xs=>have q:(JC (c::xs) == Ρ "")=Ξ:=q;exact⟨_,by simp![iq,q],c::xs,rfl,by simp,tx⟩
 exact⟨zs,e,by rw[hl,i_],hp⟩
end
def ne_nil (o:Bool)(ls:Ð):Lc .ne (.lst o ls) (.lst Θ [])=.ok (!ls.isEmpty):=by cases ls<;>rfl
def kL {fs:È}  (h0:0<=i)(h1:i < (fs.length:Int)):∃y,(∀o,iO (.lst o (fs.map .str)) (.int i)=.ok (.str y))/\fs[i.toNat]? = Δ y:=by
 have hl:i.toNat < fs.length:=⋯
 refine⟨fs[i.toNat],λo=>?_,C_ hl⟩;rw[Ej h0 h1,aaj,C_ hl];rfl
def Eu (zs:È):zs.map D.str=(zs.map Tn.s).map Tn.d:=by rw[K_];rfl
def Ew (cl:Ä)(x y w:Str)(s0 s1 s2 s3 s4 s5 s6 s8 s9:Å):IV cl (oW x y) [s0,s1,s2,s3,s4,s5,s6,Δ (.str w),s8,s9]=.ok (.bl ((w == x)||(w == y))):=by
 unfold oW;cases h:(w == x) with
 |true=>simp![h]
 |false=>simp![h]
def uQ (n:Nat)(ns:Ë)  (k0:0<=k)(k1:k<=4000)  (Pz:gs.length<=20)  (hs:Sm Kp)  (hc:Ce c)(mn w:Str)(ww:w∈W9)(M5:gs=[]->Py w=Ξ)(s2 s6:Å) :
  ∃cn:Cn,iD (dj T (n+3)) Us [Δ (.lst Ξ (ns.map .int)),Δ (.int k),s2,Δ (.lst Ξ (gs.map .str)),Δ (.str (JC Kp)),Δ (.int c),s6,Δ (.str w),Δ (.str mn),Δ (.lst Θ [])]=.ok (.rt cn.t)/\Vc gs cn/\cn.w=w:=by
 have w9:=t9 w ww;have ei:=ja ns;have eg:=jk gs;have lg:(gs.map D.str).length=gs.length:=i_ _;obtain⟨d,r2,d0,d1⟩:=L4 (n+2) ns (k+2) 2 ⋯ ⋯ nofun;have lr:=pH (1+d);have key:∀(b1 b2 b3 b4:Bool),tst w=[b1,b2,b3,b4]->((w == Ρ "is")||(w == Ρ "not"))=b1/\(w == Ρ "begins")=b2/\((w == Ρ "least")||(w == Ρ "most"))=b3/\Py w=b4:=λb1 b2 b3 b4 h=>by injection h with h1 h;injection h with h2 h;injection h with h3 h;injection h with h4 h;exact⟨h1,h2,h3,h4⟩
 have H1:=λs8 s9=>Ew (dj T (n+3)) "is" "not" w (Δ (.lst Ξ (ns.map .int))) (Δ (.int k)) s2 (Δ (.lst Ξ (gs.map .str))) (Δ (.str (JC Kp))) (Δ (.int c)) s6 s8 s9;have H2:∀s8 s9:Å,IV (dj T (n+3)) (.cmp .eq (.v 7) (.c (.str "begins"))) [Δ (.lst Ξ (ns.map .int)),Δ (.int k),s2,Δ (.lst Ξ (gs.map .str)),Δ (.str (JC Kp)),Δ (.int c),s6,Δ (.str w),s8,s9]=.ok (.bl (w == Ρ "begins")):=λ_ _=>rfl;have H3:=λs8 s9=>Ew (dj T (n+3)) "least" "most" w (Δ (.lst Ξ (ns.map .int))) (Δ (.int k)) s2 (Δ (.lst Ξ (gs.map .str))) (Δ (.str (JC Kp))) (Δ (.int c)) s6 s8 s9;have H4:=λs8 s9=>Ew (dj T (n+3)) "in" "out" w (Δ (.lst Ξ (ns.map .int))) (Δ (.int k)) s2 (Δ (.lst Ξ (gs.map .str))) (Δ (.str (JC Kp))) (Δ (.int c)) s6 s8 s9;have fin:∀(x:Str) (TS:Ð),iD (dj T (n+3)) [.ret (.tup [.v 8,.v 7,.v 9])] [Δ (.lst Ξ (ns.map .int)),Δ (.int k),s2,Δ (.lst Ξ (gs.map .str)),Δ (.str (JC Kp)),Δ (.int c),s6,Δ (.str w),Δ (.str x),Δ (.lst Θ TS)]=.ok (.rt (.tup [.str x,.str w,.lst Θ TS])):=λ_ _=>rfl;have iu:((w == Ρ "in")||(w == Ρ "out"))=Py w:=rfl;simp only[rows,k_,O_,or_false]at w9;rcases w9 with h|h|h|h|h<;>obtain⟨q1,q2,q3,q4⟩:=key _ _ _ _ h<;>rw[q1]at H1<;>rw[q2]at H2<;>rw[q3]at H3<;>rw[iu,q4]at H4<;>unfold Us
 ·obtain⟨ts,eT,lT,vT⟩:=Br n ns k0 k1 hs hc d d0 d1;have lfT:=zh ts;refine⟨⟨mn,w,ts⟩,?_,⟨ww,λ_=>⟨lT.1,vT⟩,λh=>(by rw[q2]at h;cases h),λh=>(by rw[q3]at h;cases h),λh=>(by rw[q1]at h;cases h),λh=>(by rw[q4]at h;cases h),lT.2⟩,rfl⟩;rw[UM (H1 _ _) (τ':=[Δ (.lst Ξ (ns.map .int)),Δ (.int k),s2,Δ (.lst Ξ (gs.map .str)),Δ (.str (JC Kp)),Δ (.int c),s6,Δ (.str w),Δ (.str mn),Δ (.lst Θ (ts.map Tn.d))]) ?_,sk (H2 _ _),sk (H3 _ _),sk (H4 _ _),fin]
  ·rfl
  clear H1 H2 H3 H4 fin;unfold cB1;generalize ns.map D.int=NS,gs.map D.str=GS,ts.map Tn.d=TS at *;simp![ei,r2,lr,eT,lfT]
 ·obtain⟨ys,eY,lY,vY⟩:=Es n ns k0 k1 hs d d0 d1;obtain⟨zs,eZ,lZ,vZ⟩:=Et hs (dj T (n+3)) vY;have lfZ:ij (zs.map D.str)=Θ:=tq zs;have lfY:ij (ys.map D.str)=Θ:=tq ys;have lys:(ys.map D.str).length<=2:=by rw[i_];exact lY.2
  have ny:=jk ys;refine⟨⟨mn,w,zs.map Tn.s⟩,?_,⟨ww,λh=>(by rw[q1]at h;cases h),λ_=>⟨(by show 1<=(zs.map Tn.s).length;rw[i_,lZ];exact lY.1),λt ht=>(by obtain⟨z,hz,rfl⟩:=List.mem_map.mp ht;obtain⟨xs,rfl,x1,x2⟩:=vZ z hz;exact⟨xs,rfl,x1,x2⟩)⟩,λh=>(by rw[q3]at h;cases h),λ_ h=>(by rw[q2]at h;cases h),λh=>(by rw[q4]at h;cases h),(by show(zs.map Tn.s).length<=2;rw[i_,lZ];exact lY.2)⟩,rfl⟩;rw[sk (H1 _ _),UM (H2 _ _) (τ':=[Δ (.lst Ξ (ns.map .int)),Δ (.int k),s2,Δ (.lst Ξ (gs.map .str)),Δ (.str (JC Kp)),Δ (.int c),s6,Δ (.str w),Δ (.str mn),Δ (.lst Θ (zs.map .str))]) ?_,sk (H3 _ _),sk (H4 _ _),fin]
  ·show _=Except.ok (Fl.rt (D.tup [.str mn,.str w,.lst Θ ((zs.map Tn.s).map Tn.d)]));rw[<- Eu zs]
  clear H1 H2 H3 H4 fin;unfold cB2;generalize ns.map D.int=NS,gs.map D.str=GS,ys.map D.str=YS,zs.map D.str=ZS at *;simp![ei,r2,lr,eY,eZ,lfY,lfZ,ny]
 ·obtain⟨x,eX,nX⟩:=p4 (n+1) ns (k:=k+3) ⋯ ⋯ hc;refine⟨⟨mn,w,[.i x]⟩,?_,⟨ww,λh=>(by rw[q1]at h;cases h),λh=>(by rw[q2]at h;cases h),λ_=>⟨x,rfl,nX⟩,λ_ _ h=>(by rw[q3]at h;cases h),λh=>(by rw[q4]at h;cases h),(by show 1<=2;omega)⟩,rfl⟩;rw[sk (H1 _ _),sk (H2 _ _),UM (H3 _ _) (τ':=[Δ (.lst Ξ (ns.map .int)),Δ (.int k),s2,Δ (.lst Ξ (gs.map .str)),Δ (.str (JC Kp)),Δ (.int c),s6,Δ (.str w),Δ (.str mn),Δ (.lst Θ [.int x])]) ?_,sk (H4 _ _),fin]
  ·rfl
  clear H1 H2 H3 H4 fin;unfold cB3;generalize ns.map D.int=NS,gs.map D.str=GS at *;simp![ei,eX]
 ·have g0:0 < gs.length:=by
   cases gs with
   |nil=>rw[M5 rfl]at q4;cases q4
   |cons=>simp
  have rg:=iR (n+2) ns (k+2) (gs.length:Int) ⋯ ⋯ ⋯;obtain⟨gn,hgn,ggn⟩:=kL (fs:=gs) (ki ns (k+2) (m:=(gs.length:Int)) ⋯) (kA ns (k+2) ⋯);generalize dr ns (k+2) (gs.length:Int)=ig at *;refine⟨⟨gn,w,[]⟩,?_,⟨ww,λh=>(by rw[q1]at h;cases h),λh=>(by rw[q2]at h;cases h),λh=>(by rw[q3]at h;cases h),λ_ _ _=>rfl,λ_=>Y_ ggn,(by show 0<=2;omega)⟩,rfl⟩;rw[sk (H1 _ _),sk (H2 _ _),sk (H3 _ _),UM (H4 _ _) (τ':=[Δ (.lst Ξ (ns.map .int)),Δ (.int k),s2,Δ (.lst Ξ (gs.map .str)),Δ (.str (JC Kp)),Δ (.int c),s6,Δ (.str w),Δ (.str gn),Δ (.lst Θ [])]) ?_,fin]
  ·rfl
  clear H1 H2 H3 H4 fin;unfold cB4;generalize ns.map D.int=NS,gs.map D.str=GS at *;simp![ei,eg,lg,rg,hgn]
 ·refine⟨⟨mn,w,[]⟩,?_,⟨ww,λh=>(by rw[q1]at h;cases h),λh=>(by rw[q2]at h;cases h),λh=>(by rw[q3]at h;cases h),λ_ _ _=>rfl,λh=>(by rw[q4]at h;cases h),(by show 0<=2;omega)⟩,rfl⟩;rw[sk (H1 _ _),sk (H2 _ _),sk (H3 _ _),sk (H4 _ _),fin];rfl
def Bt (n:Nat)(ns:Ë)  (k0:0<=k)(k1:k<=4000){ms:È}(hm:0 < ms.length)(Sy:ms.length<=20)(Pz:gs.length<=20)  (hs:Sm Kp)  (hc:Ce c) :
  ∃cn:Cn,dj T (n+4) 54 [.lst Ξ (ns.map .int),.int k,.lst Ξ (ms.map .str),.lst Ξ (gs.map .str),.str (JC Kp),.int c]=.ok cn.t/\Vc gs cn/\(gs=[]->Py cn.w=Ξ):=by
 have ei:=ja ns;have em:=jk ms;have eg:=jk gs;have lm:(ms.map D.str).length=ms.length:=i_ _;have r1:=iR (n+2) ns (k+1) (ms.length:Int) ⋯ ⋯ ⋯;obtain⟨mn,hmn,_⟩:=kL (fs:=ms) (ki ns (k+1) (m:=(ms.length:Int)) ⋯) (kA ns (k+1) ⋯);generalize dr ns (k+1) (ms.length:Int)=i1 at *;have go:dj T (n+4) 54 [.lst Ξ (ns.map .int),.int k,.lst Ξ (ms.map .str),.lst Ξ (gs.map .str),.str (JC Kp),.int c]=_:=gx 54 X7 6 10 VM rfl rfl rfl rfl rfl rfl;have c7:((7:Nat):Int)=7:=rfl;have c9:((9:Nat):Int)=9:=rfl;have l7':([D.str "is",.str "not",.str "begins",.str "least",.str "most",.str "has",.str "lacks"]).length=7:=rfl;cases hq:gs.isEmpty with
 |true=>
  have r0:=iR (n+2) ns k 7 k0 ⋯ nofun;obtain⟨w,hw,gw⟩:=kL (fs:=W7) (ki ns k (m:=7) nofun) (by have:=kA ns k (m:=7) nofun;exact this);generalize dr ns k 7=i0 at *;have wm:=Y_ gw;obtain⟨cn,e,wf,ew⟩:=uQ n ns k0 k1 Pz hs hc mn w (p_ _ wm) (λ_=>t7 w wm) (Δ (.lst Ξ (ms.map .str))) (Δ (.lst Θ (W7.map .str)));refine⟨cn,?_,wf,λ_=>by rw[ew];exact t7 w wm⟩;have w7:W7.map D.str=[D.str "is",.str "not",.str "begins",.str "least",.str "most",.str "has",.str "lacks"]:=rfl;rw[w7]at hw e;rw[go];unfold VM;have nn:∀o,Lc .ne (.lst o (gs.map .str)) (.lst Θ [])=.ok Ξ:=λo=>by rw[ne_nil,List.isEmpty_map,hq];rfl
  generalize cn.t=CT,ns.map D.int=NS,ms.map D.str=MS,gs.map D.str=GS,Us=tco at *;simp![ei,em,eg,lm,r0,r1,hmn,hw,nn,c7,l7',e]
 |false=>
  have r0:=iR (n+2) ns k 9 k0 ⋯ nofun;obtain⟨w,hw,gw⟩:=kL (fs:=W9) (ki ns k (m:=9) nofun) (by have:=kA ns k (m:=9) nofun;exact this);generalize dr ns k 9=i0 at *;have wm:=Y_ gw;have LH:gs=[]->False:=λh=>by rw[h]at hq;cases hq
  obtain⟨cn,e,wf,ew⟩:=uQ n ns k0 k1 Pz hs hc mn w wm (λh=>(LH h).elim) (Δ (.lst Ξ (ms.map .str))) (Δ (.lst Θ (W9.map .str)));refine⟨cn,?_,wf,λh=>(LH h).elim⟩;have w9e:[D.str "is",.str "not",.str "begins",.str "least",.str "most",.str "has",.str "lacks"]++[D.str "in",.str "out"]=W9.map D.str:=rfl;have l9:(W9.map D.str).length=9:=rfl;have lfw:ij (W9.map D.str)=Θ:=tq W9;rw[go];unfold VM;have nn:∀o,Lc .ne (.lst o (gs.map .str)) (.lst Θ [])=.ok Θ:=λo=>by rw[ne_nil,List.isEmpty_map,hq];rfl
  generalize W9.map D.str=WW,cn.t=CT,ns.map D.int=NS,ms.map D.str=MS,gs.map D.str=GS,Us=tco at *;simp![ei,em,eg,lm,r0,r1,hmn,hw,nn,c7,c9,w9e,l9,l7',lfw,e]
structure aeo (gs:List Gp):Prop where
 ok:∀g∈gs,∀r∈g.rows,∀c∈r,Vc [] c/\Py c.w=Ξ
 nd:(gs.map (·.nm)).Nodup
 len:∀g∈gs,g.rows.length<=100/\∀r∈g.rows,r.length<=100
def zj (h:(iU 0 r)[i]? = Δ x):i < r.toNat/\x=.int (i:Nat):=by have hi:=(x_.mp h).1;rw[pH]at hi;unfold iU at h;rw[D_,List.getElem?_range ⋯]at h;have h':D.int (0+(i:Nat))=x:=I_ h;exact⟨hi,by rw[<- h',Int.zero_add]⟩
def Sg (a:Int):À->Prop
 |[]=>True
 |p::sg=>a < p.1/\0<=p.2/\p.2<=10007/\Sg p.1 sg
theorem zk:∀(sg:À) (a:Int),Sg a sg->(∀p∈sg,p.1 < f)->a < f->0<=y/\y<=10007->Sg a (sg++[(f,y)])
 |[],a,_,_,h,hy=>⟨h,hy.1,hy.2,trivial⟩
 |p::sg,a,h,hf,_,hy=>⟨h.1,h.2.1,h.2.2.1,zk sg p.1 h.2.2.2 (λq hq=>hf q (.tail _ hq)) (hf p (.head _)) hy⟩
def vV (n:Nat)(ns:Ë)  (k0:0<=k)(k1:k<=4000){pl:Int}(p0:0<=pl)(p1:pl < 10007)(day:Int):∃sg:À,dj T (n+2) 56 [.lst Ξ (ns.map .int),.int k,.int pl,.int day]=.ok (.lst Θ (sg.map JH))/\sg.length<=3/\Sg (-1) sg:=by
 have d1:=iR n ns k 4 k0 ⋯ nofun;have d2:=iR n ns (k+1) 4 ⋯ ⋯ nofun;have b0:=ki ns (k+1) (m:=4) nofun;have b1:=kA ns (k+1) (m:=4) nofun;generalize dr ns k 4=a,dr ns (k+1) 4=q at *;have ei:=ja ns;obtain⟨mx,hmx,m0⟩:∃mx:Int,lC .max2 [.int 0,.int (day - a)]=.ok (.int mx)/\0<=mx:=⟨_,rfl,by show(0:Int)<=if day - a > 0 then day - a else 0;split<;>omega⟩
 obtain⟨τ',e,sg,f,c6,c7,rfl,gl,hv⟩:=kI (its:=iU 0 q) (τ:=[Δ (.lst Ξ (ns.map .int)),Δ (.int k),Δ (.int pl),Δ (.int day),Δ (.lst Θ []),Δ (.int mx),Φ,Φ]) (body:=turn (dj T (n+1)) (.nm 6) VC)
  (λi τ=>∃(sg:À) (f:Int) (c6 c7:Å),τ=[Δ (.lst Ξ (ns.map .int)),Δ (.int k),Δ (.int pl),Δ (.int day),Δ (.lst Θ (sg.map JH)),Δ (.int f),c6,c7]/\sg.length=i/\(∀p∈sg,0<=p.2/\p.2<=10007)/\0<=f/\Sg (-1) sg/\∀p∈sg,p.1 < f)
  ⟨[],mx,Φ,Φ,rfl,rfl,λp h=>by simp at h,m0,trivial,λp h=>by simp at h⟩ (by
   rintro i x τ hx ⟨sg,f,b6,b7,rfl,hl,hv,f0,hs,hf⟩;obtain⟨hi,rfl⟩:=zj hx;have e1:=iR n ns (k+2+(i:Int)) 10008 ⋯ ⋯ nofun;have e2:=iR n ns (k+5+(i:Int)) 6 ⋯ ⋯ nofun;have c0:=ki ns (k+5+(i:Int)) (m:=6) nofun;have c1:=kA ns (k+5+(i:Int)) (m:=6) nofun;have e3:=iR n ns (k+8+(i:Int)) 3 ⋯ ⋯ nofun;have u0:=ki ns (k+2+(i:Int)) (m:=10008) nofun;have u1:=kA ns (k+2+(i:Int)) (m:=10008) nofun;have w0:=ki ns (k+8+(i:Int)) (m:=3) nofun;generalize dr ns (k+2+(i:Int)) 10008=u,dr ns (k+5+(i:Int)) 6=v,dr ns (k+8+(i:Int)) 3=w at *;have Yp:=VB (o:=Θ) (xs:=[0,10007,pl,pl+1,pl,u]) (i:=v) c0 (by show v < 6;exact c1);have Yp:iO (.lst Θ [.int 0,.int 10007,.int pl,.int (pl+1),.int pl,.int u]) (.int v)=.ok (.int ([0,10007,pl,pl+1,pl,u].getD v.toNat 0)):=Yp;have hy:0<=([0,10007,pl,pl+1,pl,u]:Ë).getD v.toNat 0/\([0,10007,pl,pl+1,pl,u]:Ë).getD v.toNat 0<=10007:=by
    rcases(show v=0∨v=1∨v=2∨v=3∨v=4∨v=5 by omega) with rfl|rfl|rfl|rfl|rfl|rfl
    ·exact⟨(by decide:(0:Int)<=0),(by decide:(0:Int)<=10007)⟩
    ·exact⟨(by decide:(0:Int)<=10007),(by decide:(10007:Int)<=10007)⟩
    ·exact(show 0<=pl/\pl<=10007 by omega)
    ·exact(show 0<=pl+1/\pl+1<=10007 by omega)
    ·exact(show 0<=pl/\pl<=10007 by omega)
    ·exact(show 0<=u/\u<=10007 by omega)
   generalize([0,10007,pl,pl+1,pl,u]:Ë).getD v.toNat 0=y at *;have lg:(sg.map JH).length=sg.length:=i_ _;refine⟨[Δ (.lst Ξ (ns.map .int)),Δ (.int k),Δ (.int pl),Δ (.int day),Δ (.lst Θ ((sg++[(f,y)]).map JH)),Δ (.int (f+1+w)),Δ (.int (i:Nat)),Δ (.lst Θ [.int 0,.int 10007,.int pl,.int (pl+1),.int pl,.int u])],?_,sg++[(f,y)],_,_,_,rfl,by rw[u_,hl];rfl,λp hp=>(t_.mp hp).elim (hv p) λhp=>by rw[v_.mp hp];exact hy,⋯,zk sg (-1) hs hf ⋯ hy,λp hp=>(t_.mp hp).elim (λhp=>by have:=hf p hp;omega) λhp=>by rw[v_.mp hp];show f < _;omega⟩;have hm:(sg++[(f,y)]).map JH=sg.map JH++[.tup [.int f,.int y]]:=by rw[X_];rfl
   rw[hm];unfold VC;generalize ns.map D.int=NS,sg.map JH=SG at *
   simp![iq,ei,e1,e2,e3,Yp,lg])
 rw[pH]at gl;refine⟨sg,?_,⋯,hv.2.2.1⟩;have go:dj T (n+2) 56 [.lst Ξ (ns.map .int),.int k,.int pl,.int day]=_:=gx 56 X9 4 8 X8 rfl rfl rfl rfl rfl rfl;rw[go];unfold X8;have Yq:(if day - a > 0 then day - a else 0)=mx:=by have:(.ok (.int (if day - a > 0 then day - a else 0)):Res D)=.ok (.int mx):=hmx;injection this with h1;injection h1
 generalize ns.map D.int=NS,sg.map JH=SG,VC=tsg at *;simp![ei,d1,d2,hmx,Yq,e]
abbrev Oc.t:Oc->D
 |.face f=>.tup [.str "face",.str f]
 |.share f st=>.tup [.str "share",.str f,.lst Θ (st.map JH)]
 |.MD=>.tup [.str "lot"]
def GW (o:Oc):er o.t=o.d:=by
 cases o with
 |share f st=>show D.tup [.str "share",.str f,.lst Ξ (Jz (st.map JH))]=_;rw[j6];rfl
 |_=>rfl
theorem tF:∀r:À,jg (r.map JH)=Θ
 |[]=>rfl
 |p::r=>tF r
def tG (n:Nat)(ns:Ë)  (k0:0<=k)(k1:k<=3990){fs:È}(hf:0 < fs.length)(SA:fs.length<=20){pl:Int}(p0:0<=pl)(p1:pl < 10007)(day:Int):∃o:Oc,dj T (n+3) 57 [.lst Ξ (ns.map .int),.int k,.lst Ξ (fs.map .str),.int pl,.int day]=.ok o.t/\∀f sg,o=.share f sg->sg.length<=3/\Sg (-1) sg:=by
 have ei:=ja ns;have ef:=jk fs;have lf:(fs.map D.str).length=fs.length:=i_ _;have d1:=iR (n+1) ns (k+1) (fs.length:Int) ⋯ ⋯ ⋯;obtain⟨f,Yr,_⟩:=kL (fs:=fs) (ki ns (k+1) (m:=(fs.length:Int)) ⋯) (kA ns (k+1) ⋯);generalize dr ns (k+1) (fs.length:Int)=i1 at *;have d2:=iR (n+1) ns k 3 k0 ⋯ nofun;generalize dr ns k 3=q at *;obtain⟨sg,e,lsg⟩:=vV n ns (k:=k+2) ⋯ ⋯ p0 p1 day;cases q0:(q == 0) with
 |true=>refine⟨.face f,?_,λf sg h=>by cases h⟩;show _=Except.ok (D.tup [.str "face",.str f]);rw[gx 57 UJ 5 7 Rj rfl];unfold Rj;generalize ns.map D.int=NS,fs.map D.str=FS at *;simp![ei,ef,lf,d1,Yr,d2,q0]
 |false=>
  cases q1:(q == 1) with
  |true=>refine⟨.share f sg,?_,λf' sg' h=>by cases h;exact lsg⟩;show _=Except.ok (D.tup [.str "share",.str f,.lst Θ (sg.map JH)]);rw[gx 57 UJ 5 7 Rj rfl];unfold Rj;generalize ns.map D.int=NS,fs.map D.str=FS at *;have ha:=tF sg;generalize sg.map JH=SG at *;simp![ei,ef,lf,d1,Yr,d2,q0,q1,e,ha]
  |false=>refine⟨.MD,?_,λf sg h=>by cases h⟩;show _=Except.ok (D.tup [.str "lot"]);rw[gx 57 UJ 5 7 Rj rfl];unfold Rj;generalize ns.map D.int=NS,fs.map D.str=FS at *;simp![ei,ef,lf,d1,Yr,d2,q0,q1]
def Ex (cs:List Cn):Jz (cs.map Cn.t)=cs.map Cn.d:=by rw[i8,K_];exact aam λc _=>GV c
abbrev Rl.t (r:Rl):D:=.tup [Sx r.cs,r.o.t]
def GX (r:Rl):er r.t=r.d:=by show D.tup [er (Sx r.cs),er r.o.t]=_;rw[GR,GW];rfl
def Ey (rs:List Rl):Jz (rs.map Rl.t)=rs.map Rl.d:=by rw[i8,K_];exact aam λc _=>GX c
theorem zl:∀ts:List Tn,jg (ts.map Tn.d)=Θ
 |[]=>rfl
 |.i _::ts=>zl ts
 |.s _::ts=>zl ts
def GY (c:Cn):iM c.t=Θ:=by show(jg (c.ts.map Tn.d)&&Θ)=Θ;rw[zl];rfl
def GZ (o:Oc):iM o.t=Θ:=by
 cases o with
 |share f sg=>show(jg (sg.map JH)&&Θ)=Θ;rw[tF];rfl
 |_=>rfl
def Bu (n:Nat)(ns:Ë)  (k0:0<=k)(k1:k<=3400){ms fs:È}(hm:0 < ms.length)(Sy:ms.length<=20)(Pz:gn.length<=20)(hf:0 < fs.length)(SA:fs.length<=20)  (hs:Sm Kp)  (hc:Ce c){pl:Int}(p0:0<=pl)(p1:pl < 10007)(day:Int)(a9:Å)(i:Nat)(hi:i < 5)  (q0:0<=q)(q1:q < 3)(SD:Å) :
  ∃(cs:List Cn) (M':Å),forM (turn (dj T (n+4)) (.nm 12) Ut) (iU 0 q) [Δ (.lst Ξ (ns.map .int)),Δ (.int k),Δ (.lst Ξ (ms.map .str)),Δ (.lst Ξ (gn.map .str)),Δ (.lst Ξ (fs.map .str)),Δ (.str (JC Kp)),Δ (.int c),Δ (.int pl),Δ (.int day),a9,Δ (.int (i:Nat)),Δ (.lst Θ []),SD]=.ok (.nx [Δ (.lst Ξ (ns.map .int)),Δ (.int k),Δ (.lst Ξ (ms.map .str)),Δ (.lst Ξ (gn.map .str)),Δ (.lst Ξ (fs.map .str)),Δ (.str (JC Kp)),Δ (.int c),Δ (.int pl),Δ (.int day),a9,Δ (.int (i:Nat)),Δ (.lst Θ (cs.map Cn.t)),M'])/\cs.length<=2/\∀c∈cs,Vc gn c:=by
 have ei:=ja ns;have em:=jk ms;have eg:=jk gn;obtain⟨τ',e,cs,M',rfl,hl,hw⟩:=kI (its:=iU 0 q) (τ:=[Δ (.lst Ξ (ns.map .int)),Δ (.int k),Δ (.lst Ξ (ms.map .str)),Δ (.lst Ξ (gn.map .str)),Δ (.lst Ξ (fs.map .str)),Δ (.str (JC Kp)),Δ (.int c),Δ (.int pl),Δ (.int day),a9,Δ (.int (i:Nat)),Δ (.lst Θ []),SD]) (body:=turn (dj T (n+4)) (.nm 12) Ut)
  (λj τ=>∃(cs:List Cn) (M':Å),τ=[Δ (.lst Ξ (ns.map .int)),Δ (.int k),Δ (.lst Ξ (ms.map .str)),Δ (.lst Ξ (gn.map .str)),Δ (.lst Ξ (fs.map .str)),Δ (.str (JC Kp)),Δ (.int c),Δ (.int pl),Δ (.int day),a9,Δ (.int (i:Nat)),Δ (.lst Θ (cs.map Cn.t)),M']/\cs.length=j/\∀c∈cs,Vc gn c)
  ⟨[],SD,rfl,rfl,λc h=>by simp at h⟩ (by
   rintro j x τ hx ⟨cs,M',rfl,hl,hw⟩;obtain⟨hj,rfl⟩:=zj hx;obtain⟨cn,e,wf,_⟩:=Bt n ns (k:=k+6+60*(i:Int)+14*(j:Int)) ⋯ ⋯ hm Sy (gs:=gn) Pz hs hc;have lc:=GY cn;have ll:(cs.map Cn.t).length=cs.length:=i_ _;refine⟨[Δ (.lst Ξ (ns.map .int)),Δ (.int k),Δ (.lst Ξ (ms.map .str)),Δ (.lst Ξ (gn.map .str)),Δ (.lst Ξ (fs.map .str)),Δ (.str (JC Kp)),Δ (.int c),Δ (.int pl),Δ (.int day),a9,Δ (.int (i:Nat)),Δ (.lst Θ ((cs++[cn]).map Cn.t)),Δ (.int (j:Nat))],?_,cs++[cn],_,rfl,by rw[u_,hl];rfl,λc hc=>?_⟩
   ·have Ys:(cs++[cn]).map Cn.t=cs.map Cn.t++[cn.t]:=by rw[X_];rfl
    rw[Ys];unfold Ut;generalize ns.map D.int=NS,ms.map D.str=MS,gn.map D.str=GN,fs.map D.str=FS,cs.map Cn.t=CS,cn.t=CT at *;simp![iq,ei,em,eg,e,lc,ll]
   ·rcases t_.mp hc with hc|hc
    ·exact hw c hc
    ·rw[v_.mp hc];exact wf)
 rw[pH]at hl;exact⟨cs,M',e,⋯,hw⟩
def Bv (n:Nat)(ns:Ë)  (k0:0<=k)(k1:k<=3400){ms fs:È}(hm:0 < ms.length)(Sy:ms.length<=20)(Pz:gn.length<=20)(hf:0 < fs.length)(SA:fs.length<=20)  (hs:Sm Kp)  (hc:Ce c){pl:Int}(p0:0<=pl)(p1:pl < 10007)(day:Int)(i:Nat)(hi:i < 5)  (XB:rs.length<=10)(b10 b11 SD:Å) :
  ∃(r:Rl) (SE M':Å),turn (dj T (n+4)) (.nm 10) Uu (.int (i:Nat)) [Δ (.lst Ξ (ns.map .int)),Δ (.int k),Δ (.lst Ξ (ms.map .str)),Δ (.lst Ξ (gn.map .str)),Δ (.lst Ξ (fs.map .str)),Δ (.str (JC Kp)),Δ (.int c),Δ (.int pl),Δ (.int day),Δ (.lst Θ (rs.map Rl.t)),b10,b11,SD]=.ok (.nx [Δ (.lst Ξ (ns.map .int)),Δ (.int k),Δ (.lst Ξ (ms.map .str)),Δ (.lst Ξ (gn.map .str)),Δ (.lst Ξ (fs.map .str)),Δ (.str (JC Kp)),Δ (.int c),Δ (.int pl),Δ (.int day),Δ (.lst Θ ((rs++[r]).map Rl.t)),Δ (.int (i:Nat)),SE,M'])/\(∀c∈r.cs,Vc gn c)/\r.cs.length<=2/\∀f sg,r.o=.share f sg->sg.length<=3/\Sg (-1) sg:=by
 obtain⟨q,d1,q0,q1⟩:=L4 (n+3) ns (k+1+(i:Int)) 3 ⋯ ⋯ nofun;obtain⟨cs,M',e,lcs,wf⟩:=Bu n ns k0 k1 hm Sy Pz hf SA hs hc p0 p1 day (Δ (.lst Θ (rs.map Rl.t))) i hi q0 q1 SD;obtain⟨o,e2,ho⟩:=tG (n+1) ns (k:=k+40+60*(i:Int)) ⋯ ⋯ hf SA p0 p1 day;have ei:=ja ns;have ef:=jk fs;have ec:=Ex cs;have ll:(rs.map Rl.t).length=rs.length:=i_ _;refine⟨⟨cs,o⟩,Δ (.lst Ξ (cs.map Cn.d)),M',?_,wf,lcs,ho⟩;have Ys:(rs++[(⟨cs,o⟩:Rl)]).map Rl.t=rs.map Rl.t++[.tup [.lst Ξ (cs.map Cn.d),o.t]]:=by rw[X_];rfl
 rw[Ys];unfold Uu;generalize ns.map D.int=NS,ms.map D.str=MS,gn.map D.str=GN,fs.map D.str=FS,cs.map Cn.t=CT,cs.map Cn.d=CD,rs.map Rl.t=RT at *;have lo:=GZ o;generalize o.t=OT,Ut=tin at *;simp![iq,ei,ef,d1,e,ec,e2,lo,ll]
def zm (n:Nat)(ns:Ë)  (k0:0<=k)(k1:k<=3400){ms fs:È}(hm:0 < ms.length)(Sy:ms.length<=20)(Pz:gn.length<=20)(hf:0 < fs.length)(SA:fs.length<=20)  (hs:Sm Kp)  (hc:Ce c){pl:Int}(p0:0<=pl)(p1:pl < 10007)(day:Int):∃rs:List Rl,dj T (n+5) 58 [.lst Ξ (ns.map .int),.int k,.lst Ξ (ms.map .str),.lst Ξ (gn.map .str),.lst Ξ (fs.map .str),.str (JC Kp),.int c,.int pl,.int day]=.ok (.lst Θ (rs.map Rl.t))/\rs.length<=4/\∀r∈rs,(∀c∈r.cs,Vc gn c)/\r.cs.length<=2/\∀f sg,r.o=.share f sg->sg.length<=3/\Sg (-1) sg:=by
 obtain⟨q,d1,q0,q1⟩:=L4 (n+3) ns k 5 k0 ⋯ nofun;have ei:=ja ns;obtain⟨τ',e,rs,NP,SE,M',rfl,hl,hw⟩:=kI (its:=iU 0 q) (τ:=[Δ (.lst Ξ (ns.map .int)),Δ (.int k),Δ (.lst Ξ (ms.map .str)),Δ (.lst Ξ (gn.map .str)),Δ (.lst Ξ (fs.map .str)),Δ (.str (JC Kp)),Δ (.int c),Δ (.int pl),Δ (.int day),Δ (.lst Θ []),Φ,Φ,Φ]) (body:=turn (dj T (n+4)) (.nm 10) Uu)
  (λj τ=>∃(rs:List Rl) (NP SE M':Å),τ=[Δ (.lst Ξ (ns.map .int)),Δ (.int k),Δ (.lst Ξ (ms.map .str)),Δ (.lst Ξ (gn.map .str)),Δ (.lst Ξ (fs.map .str)),Δ (.str (JC Kp)),Δ (.int c),Δ (.int pl),Δ (.int day),Δ (.lst Θ (rs.map Rl.t)),NP,SE,M']/\rs.length=j/\∀r∈rs,(∀c∈r.cs,Vc gn c)/\r.cs.length<=2/\∀f sg,r.o=.share f sg->sg.length<=3/\Sg (-1) sg)
  ⟨[],Φ,Φ,Φ,rfl,rfl,λc h=>by simp at h⟩ (by
   rintro j x τ hx ⟨rs,NP,SE,M',rfl,hl,hw⟩;obtain⟨hj,rfl⟩:=zj hx;obtain⟨r,d11,d12,e,h1⟩:=Bv n ns k0 k1 hm Sy Pz hf SA hs hc p0 p1 day j ⋯ (rs:=rs) ⋯ NP SE M';refine⟨_,e,rs++[r],_,d11,d12,rfl,by rw[u_,hl];rfl,λr' hr=>?_⟩;rcases t_.mp hr with hr|hr
   ·exact hw r' hr
   ·rw[v_.mp hr];exact h1)
 rw[pH]at hl;refine⟨rs,?_,⋯,hw⟩;have go:dj T (n+5) 58 [.lst Ξ (ns.map .int),.int k,.lst Ξ (ms.map .str),.lst Ξ (gn.map .str),.lst Ξ (fs.map .str),.str (JC Kp),.int c,.int pl,.int day]=_:=gx 58 Yb 9 13 Ya rfl rfl rfl rfl rfl rfl;rw[go];unfold Ya;generalize ns.map D.int=NS,ms.map D.str=MS,gn.map D.str=GN,fs.map D.str=FS,rs.map Rl.t=RT,Uu=tou at *;simp![ei,d1,e]
def tH {α:Type}(f:α->D)(o:Bool){xs:List α}{i:Int}{a:α}(h0:0<=i)(h:xs[i.toNat]? = Δ a):iO (.lst o (xs.map f)) (.int i)=.ok (f a):=by
 have hl:i.toNat < xs.length:=(x_.mp h).1;have e:KQ (xs.map f) i=Δ (f a):=by unfold KQ Kv;rw[h_ h0,h_ (show i < ((xs.map f).length:Nat) by rw[i_];omega)];show(xs.map f)[i.toNat]? = _;rw[D_,h];rfl
 show(match KQ (xs.map f) i with|some d=>.ok d|none=>JE:Res D)=_;rw[e]
def Bw (o:Bool)(r:Ð)(p:D):iO (.lst o (r++[p])) (.int (-1))=.ok p:=by
 have e:KQ (r++[p]) (-1)=Δ p:=by unfold KQ Kv;rw[f_ nofun,u_,V_,h_ ⋯];show(r++[p])[((-1:Int)+((r.length+1:Nat):Int)).toNat]? = _;rw[show((-1:Int)+((r.length+1:Nat):Int)).toNat=r.length by omega];simp
 show(match KQ (r++[p]) (-1) with|some d=>.ok d|none=>JE:Res D)=_;rw[e]
def Rn (b:Nat)(r:À):Prop:=r.length<=b
def Rn.le (h:Rn b r)(l:b<=c):Rn c r:=N_ h l
def Rn.add (h:Rn b q):Rn (b+1) (q++[p]):=by show(q++[p]).length<=b+1;rw[u_];exact Nat.succ_le_succ h
abbrev K5 (r:À):D:=.lst Θ (r.map JH)
abbrev rnF (r:À):D:=.lst Ξ (r.map JH)
def Ez (rs:List (À)):Jz (rs.map K5)=rs.map rnF:=by rw[i8,K_];refine aam λp _=>?_;show D.lst Ξ (Jz (p.map JH))=_;rw[j6];rfl
def EA (r:À):ij (r.map JH)=Θ:=by rw[jw,List.all_map];exact z_.mpr λ_ _=>rfl
def EB (h:ds[k]? = Δ (.lst Θ es))(hf:ij es=Θ)(hj:nG τ j=Θ) :
  sJ cl i j c x v w ds τ (Δ k)=II (II (IV cl c (τ.set j (Δ (.lst Θ es)))) iK) (vF cl i j k x v w ds es τ):=by
 show(match ds[k]? with|some (.lst Θ es)=>JA (ij es&&nG τ j) (II (II (IV cl c (τ.set j (Δ (.lst Θ es)))) iK) (vF cl i j k x v w ds es τ))|_=>JE)=_;rw[h];show JA (ij es&&nG τ j) _=_;rw[hf,hj];rfl
def Bx (cl:Ä)(s0 s1 s2 s3 s4 s5 s7 La:Å)(low high:Int){rs:List (À)}  (hk:k < rs.length)(hb:b<=100)(hr:∀r∈rs,Rn b r) :
  ∃J9:List (À),sJ cl 6 10 Sn Uv Uw VD (rs.map K5) [s0,s1,s2,s3,s4,s5,Δ (.lst Θ (rs.map K5)),s7,Δ (.int low),Δ (.int high),La] (Δ k)=.ok (.nx [s0,s1,s2,s3,s4,s5,Δ (.lst Θ (J9.map K5)),s7,Δ (.int low),Δ (.int high),Φ])/\J9.length=rs.length/\∀r∈J9,Rn (b+1) r:=by
 have hg:(rs.map K5)[k]? = Δ (.lst Θ (rs[k].map JH)):=by rw[D_,C_ hk];rfl
 have hm:=hr _ (aai hk);generalize rs[k]=r at *;have key:∀r':À,Rn (b+1) r'->∀x∈rs.set k r',Rn (b+1) x:=λr' h x hx=>by
  rcases List.mem_or_eq_of_mem_set hx with hx|rfl
  ·exact(hr x hx).le (Nat.le_succ b)
  ·exact h
 have out:∀r':À,(rs.set k r').map K5=(rs.map K5).set k (.lst Θ (r'.map JH)):=λr'=>by rw[List.map_set];rfl
 have add:Df 6 10 k (rs.map K5) (r.map JH) [s0,s1,s2,s3,s4,s5,Δ (.lst Θ (rs.map K5)),s7,Δ (.int low),Δ (.int high),La] (.tup [.int low,.int high])=.ok (.nx [s0,s1,s2,s3,s4,s5,Δ (.lst Θ ((rs.set k (r++[(low,high)])).map K5)),s7,Δ (.int low),Δ (.int high),Φ]):=by have h2:ke (r.map JH).length=Θ:=oU (by rw[i_];have:r.length<=b:=hm;omega);show JA (Θ&&ke (r.map JH).length) _=_;rw[h2,out,X_];rfl
 rw[EB hg (EA r) rfl];rcases List.eq_nil_or_concat r with rfl|⟨q,⟨p1,p2⟩,rfl⟩
 ·refine⟨rs.set k ([]++[(low,high)]),?_,List.length_set,key _ hm.add⟩;rw[<- add];generalize rs.map K5=RS at *;have hc:IV cl Sn ([s0,s1,s2,s3,s4,s5,Δ (.lst Θ RS),s7,Δ (.int low),Δ (.int high),La].set 10 (Δ (.lst Θ (([]:À).map JH))))=.ok (.bl Ξ):=rfl;rw[hc];rfl
 ·rw[List.concat_eq_append]at *;have hx1:iO (.lst Θ ((q++[(p1,p2)]).map JH)) (.int (-1))=.ok (.tup [.int p1,.int p2]):=by rw[X_];exact Bw Θ _ _
  have LH:∀f:D->D->Res Bool,j7 f ((q++[(p1,p2)]).map JH) []=.ok Ξ:=λf=>by
   rw[X_];cases q with
   |nil=>rfl
   |cons a q=>rfl
  have lq:((q++[(p1,p2)]).map JH).length=q.length+1:=by rw[i_,u_];rfl
  cases hc:(p2 == low) with
  |true=>
   have h4:Rn b q:=N_ (by rw[u_];exact aaD _ _) hm;refine⟨rs.set k (q++[(p1,high)]),?_,List.length_set,key _ h4.add⟩;have hs:Av 6 10 k (rs.map K5) ((q++[(p1,p2)]).map JH) [s0,s1,s2,s3,s4,s5,Δ (.lst Θ (rs.map K5)),s7,Δ (.int low),Δ (.int high),La] (.tup [.int p1,.int high]) (.int (-1))=.ok (.nx [s0,s1,s2,s3,s4,s5,Δ (.lst Θ ((rs.set k (q++[(p1,high)])).map K5)),s7,Δ (.int low),Δ (.int high),Φ]):=by
    have hi:Kv ((q++[(p1,p2)]).map JH).length (-1)=Δ q.length:=by rw[lq];unfold Kv;rw[f_ nofun,h_ ⋯];congr 1;omega
    show(match Kv ((q++[(p1,p2)]).map JH).length (-1) with
     |some t=>JA Θ (.ok (.nx [s0,s1,s2,s3,s4,s5,Δ (.lst Θ ((rs.map K5).set k (.lst Θ (((q++[(p1,p2)]).map JH).set t (.tup [.int p1,.int high]))))),s7,Δ (.int low),Δ (.int high),Φ]))
     |none=>JE:Res Fl)=_
    rw[hi];show Except.ok (Fl.nx [s0,s1,s2,s3,s4,s5,Δ (.lst Θ ((rs.map K5).set k (.lst Θ (((q++[(p1,p2)]).map JH).set q.length (.tup [.int p1,.int high]))))),s7,Δ (.int low),Δ (.int high),Φ])=_;rw[out,X_,X_];have:(q.map JH++[(p1,p2)].map JH).set q.length (.tup [.int p1,.int high])=q.map JH++[(p1,high)].map JH:=by rw[List.set_append_right _ _ (by rw[i_];exact q_ _),i_,Nat.sub_self];rfl
    rw[this]
   rw[<- hs];generalize rs.map K5=RS,(q++[(p1,p2)]).map JH=Q at *;unfold Sn Uv Uw vF;simp![hx1,LH,hc]
  |false=>refine⟨rs.set k ((q++[(p1,p2)])++[(low,high)]),?_,List.length_set,key _ hm.add⟩;rw[<- add];generalize rs.map K5=RS,(q++[(p1,p2)]).map JH=Q at *;unfold Sn Uv Uw VD vF;simp![hx1,LH,hc]
def By (n:Nat)(ns:Ë)  (k0:0<=k)(k1:k<=4000)(s2 s3 s4 s8 s9 La:Å){zs:À}  (hj:j < zs.length)(hz:zs.length<=100)(s7:Å){rs:List (À)}(h0:0 < rs.length)(hr:∀r∈rs,Rn j r) :
  ∃(J9:List (À)) (c8 c9:Å),turn (dj T (n+1)) (.nm 7) So (.int (j:Nat)) [Δ (.lst Ξ (ns.map .int)),Δ (.int k),s2,s3,s4,Δ (.lst Ξ (zs.map JH)),Δ (.lst Θ (rs.map K5)),s7,s8,s9,La]=.ok (.nx [Δ (.lst Ξ (ns.map .int)),Δ (.int k),s2,s3,s4,Δ (.lst Ξ (zs.map JH)),Δ (.lst Θ (J9.map K5)),Δ (.int (j:Nat)),c8,c9,Φ])/\J9.length=rs.length/\∀r∈J9,Rn (j+1) r:=by
 have ei:=ja ns;have lr:(rs.map K5).length=rs.length:=i_ _;obtain⟨q,d1,q0,q1⟩:=L4 n ns (k+8+(j:Int)) (rs.length:Int) ⋯ ⋯ ⋯;have hx:iO (.lst Ξ (zs.map JH)) (.int (j:Int))=.ok (.tup [.int (zs[j]).1,.int (zs[j]).2]):=tH JH Ξ (a:=zs[j]) ⋯ (by rw[Int.toNat_natCast,C_ hj]);generalize(zs[j]).1=lo,(zs[j]).2=hi at *;have hq:Kv rs.length q=Δ q.toNat:=by unfold Kv;rw[h_ q0,h_ q1]
 obtain⟨J9,e,h1,h2⟩:=Bx (dj T (n+1)) (Δ (.lst Ξ (ns.map .int))) (Δ (.int k)) s2 s3 s4 (Δ (.lst Ξ (zs.map JH))) (Δ (.int (j:Nat))) La lo hi (rs:=rs) (k:=q.toNat) (b:=j) ⋯ ⋯ hr;refine⟨J9,Δ (.int lo),Δ (.int hi),?_,h1,h2⟩;unfold So;generalize Sn=ca,Uv=xa,Uw=va,VD=wa,ns.map D.int=NS,zs.map JH=ZS,rs.map K5=RS,J9.map K5=RS' at *;simp![iq,ei,lr,hx,d1,hq,e]
theorem uR {g:D->Res (Å)}:∀(xs:Ë),(∀x∈xs,g (.int x)=.ok (Δ (.int x))∨g (.int x)=.ok Φ)->∃ys:Ë,iz g (xs.map .int)=.ok (ys.map .int)/\ys.length<=xs.length
 |[],_=>⟨[],rfl,q_ _⟩
 |x::xs,h=>by
  obtain⟨ys,e,hl⟩:=uR xs λz hz=>h z (H_ _ hz);rcases h x (.head _) with hx|hx
  ·exact⟨x::ys,by rw[b_];unfold iz;rw[hx];show II (iz g (xs.map .int)) _=_;rw[e];rfl,Nat.succ_le_succ hl⟩
  ·exact⟨ys,by rw[b_];unfold iz;rw[hx];exact e,Nat.le_succ_of_le hl⟩
abbrev UN (p:Str×À):D:=.tup [.str p.1,.lst Θ (p.2.map JH)]
def EC (al:Al):Jz (al.map UN)=al.map ML:=by rw[i8,K_];refine aam λp _=>?_;show D.tup [.str p.1,.lst Ξ (Jz (p.2.map JH))]=_;rw[j6];rfl
def zo (f:α->β)(xs:List α)(lo hi:Option Int):jY (xs.map f) lo hi=(jY xs lo hi).map f:=by unfold jY;rw[i_,<- List.map_drop,<- List.map_take]
def Bz (xs:List α)(lo hi:Option Int):(jY xs lo hi).length<=xs.length:=by unfold jY;rw[aab,aan];omega
theorem Ca:∀xs:Ë,kf (xs.map .int)=Δ xs
 |[]=>rfl
 |x::xs=>by show(kf (xs.map .int)).map (x::·)=_;rw[Ca xs];rfl
def ED {xs:Ë}(h:xs.length < 64):∃ys:Ë,ud (.lst o (xs.map .int))=.ok (.lst Θ (ys.map .int))/\ys.length<=xs.length:=by refine⟨PySem.W.sortI (dd xs),?_,by rw[(PySem.W.sortI_perm _).length_eq];exact xd xs⟩;show(match kf (xs.map .int) with|some ns=>JA (decide (ns.length < 64)) (.ok (.lst Θ ((PySem.W.sortI (dd ns)).map .int)))|none=>JE:Res D)=_;rw[Ca];show JA (decide (xs.length < 64)) _=_;rw[y_ h];rfl
theorem Cb:∀(xs ys:Ë),jZ (xs.map .int) (ys.map .int)=(xs.zip ys).map JH
 |[],_=>rfl
 |_::_,[]=>rfl
 |x::xs,y::ys=>by have:=Cb xs ys;unfold jZ at this ⊢;rw[b_,b_,List.zipWith_cons_cons,this];rfl
def zq (xs:List α)  (h:0<=m):jY xs (Δ m) Φ=xs.drop m.toNat:=by
 unfold jY HT.J1;simp only;rw[f_ ⋯];by_cases hm:m.toNat<=xs.length
 ·rw[show min m.toNat xs.length=m.toNat from Nat.min_eq_left hm,List.take_of_length_le (by rw[aan];omega)]
 ·rw[show min m.toNat xs.length=xs.length from Nat.min_eq_right ⋯,List.drop_length,List.take_nil,List.drop_of_length_le ⋯]
def zr (n:Nat)(ns:Ë)  (k0:0<=k)(k1:k<=4000){fs:È}(hf0:0 < fs.length)(hf:fs.length<=20)(pl:Int) :
  ∃(al:Al) (fr:À),dj T (n+2) 48 [.lst Ξ (ns.map .int),.int k,.lst Ξ (fs.map .str),.int pl]=.ok (.tup [.lst Θ (al.map ML),.lst Ξ (fr.map JH)])/\al.length=fs.length/\(∀p∈al,p.2.length<=20)/\Rn 20 fr:=by
 have ei:=ja ns;have ef:=jk fs;have lfn:(fs.map D.str).length=fs.length:=i_ _;obtain⟨m,d1,a0,a1⟩:=L4 n ns (k+6) 5 ⋯ ⋯ nofun;have rn:iU 0 m=(jc m).map .int:=oV 0 m;have ln:((jc m).map D.int).length=m.toNat:=by rw[i_,nj]
 have fm1:iz (iF (dj T (n+1)) (.nm 2) [] (.call 43 [.v 0,.bin .add (.v 1) (.v 2),.c (.int 10007)]) [Δ (.lst Ξ (ns.map .int)),Δ (.int k),Φ]) ((jc m).map .int)=.ok (((jc m).map λj=>dr ns (k+j) 10007).map .int):=by refine i4 .int (λj=>dr ns (k+j) 10007) .int _ λj hj=>?_;have:=rS hj;have d2:=iR n ns (k+j) 10007 ⋯ ⋯ nofun;generalize ns.map D.int=NS at *;simp![ei,d2]
 have lu:((jc m).map λj=>dr ns (k+j) 10007).length=m.toNat:=by rw[i_,nj]
 generalize((jc m).map λj=>dr ns (k+j) 10007)=us at *;have lus:(us.map D.int).length=m.toNat:=by rw[i_,lu]
 obtain⟨ws,VO,lw⟩:=uR (g:=iF (dj T (n+1)) (.nm 0) [.cmp .lt (.v 0) (.c (.int 10007))] (.v 0) [Φ]) (0::pl::(pl+1)::us) (λx hx=>by
  cases h:decide (x < 10007) with
  |true=>left;simp![h]
  |false=>right;simp![h])
 have VO:iz (iF (dj T (n+1)) (.nm 0) [.cmp .lt (.v 0) (.c (.int 10007))] (.v 0) [Φ]) (.int 0::.int pl::.int (pl+1)::us.map .int)=.ok (ws.map .int):=VO;rw[List.length_cons,List.length_cons,List.length_cons]at lw;obtain⟨xs,ess,lx⟩:=ED (o:=Θ) (xs:=ws) ⋯;have P':Jz (xs.map D.int)=xs.map D.int:=ja xs;have ews:ij (ws.map D.int)=Θ:=yT ws;have hz:jZ (xs.map .int) (jY (xs.map .int) (Δ 1) Φ++[.int 10007])=(xs.zip (jY xs (Δ 1) Φ++[10007])).map JH:=by rw[zo,<- Cb,X_];rfl
 have aex:(jY (xs.map D.int) (Δ 1) Φ).length<=20:=by have:=Bz (xs.map D.int) (Δ 1) Φ;rw[i_]at this;omega
 have lz:(xs.zip (jY xs (Δ 1) Φ++[10007])).length<=10:=by rw[List.length_zip];omega
 generalize(xs.zip (jY xs (Δ 1) Φ++[10007]))=zs at *;have lzs:jb (zs.map JH).length=Θ:=kH (by rw[i_];omega);have ez:=j6 zs;have ezr:Jz (zs.map JH).reverse=zs.reverse.map JH:=by rw[<- List.map_reverse];exact j6 _
 have d3:=iR n ns (k+7) 2 ⋯ ⋯ nofun;generalize dr ns (k+7) 2=w at *;have main:∀ys:À,ys.length<=10->∀s4:Å,∃(rs:List (À)) (c7 c8 c9 NP:Å),forM (turn (dj T (n+1)) (.nm 7) So) (iU 0 (ys.length:Int)) [Δ (.lst Ξ (ns.map .int)),Δ (.int k),Δ (.lst Ξ (fs.map .str)),Δ (.int pl),s4,Δ (.lst Ξ (ys.map JH)),Δ (.lst Θ (.lst Θ []::Τ fs.length (.lst Θ []))),Φ,Φ,Φ,Φ]=.ok (.nx [Δ (.lst Ξ (ns.map .int)),Δ (.int k),Δ (.lst Ξ (fs.map .str)),Δ (.int pl),s4,Δ (.lst Ξ (ys.map JH)),Δ (.lst Θ (rs.map K5)),c7,c8,c9,NP])/\rs.length=fs.length+1/\(∀r∈rs,Rn 20 r):=by
  intro ys hy s4;obtain⟨τ',e,rs,c7,c8,c9,NP,rfl,hl,hr⟩:=kI (its:=iU 0 (ys.length:Int)) (τ:=[Δ (.lst Ξ (ns.map .int)),Δ (.int k),Δ (.lst Ξ (fs.map .str)),Δ (.int pl),s4,Δ (.lst Ξ (ys.map JH)),Δ (.lst Θ (.lst Θ []::Τ fs.length (.lst Θ []))),Φ,Φ,Φ,Φ]) (body:=turn (dj T (n+1)) (.nm 7) So)
   (λj τ=>∃(rs:List (À)) (c7 c8 c9 NP:Å),τ=[Δ (.lst Ξ (ns.map .int)),Δ (.int k),Δ (.lst Ξ (fs.map .str)),Δ (.int pl),s4,Δ (.lst Ξ (ys.map JH)),Δ (.lst Θ (rs.map K5)),c7,c8,c9,NP]/\rs.length=fs.length+1/\∀r∈rs,Rn j r)
   ⟨[]::Τ fs.length [],Φ,Φ,Φ,Φ,by rw[b_,List.map_replicate];rfl,by simp,λr hr=>by
    have e:r=[]:=by
     rcases k_.mp hr with rfl|hr
     ·rfl
     ·exact List.eq_of_mem_replicate hr
    rw[e]
    exact q_ _⟩ (by
    rintro j x τ hx ⟨rs,c7,c8,c9,NP,rfl,hl,hr⟩;obtain⟨hj,rfl⟩:=zj hx;obtain⟨J9,d8,d9,e,h1,h2⟩:=By n ns k0 k1 (Δ (.lst Ξ (fs.map .str))) (Δ (.int pl)) s4 c8 c9 NP (zs:=ys) (j:=j) ⋯ ⋯ c7 (rs:=rs) ⋯ hr
    exact⟨_,e,J9,_,d8,d9,Φ,rfl,⋯,h2⟩)
  refine⟨rs,c7,c8,c9,NP,e,hl,λr h=>?_⟩;have:=hr r h;rw[pH]at this;exact this.le ⋯
 have fin:∀rs:List (À),rs.length=fs.length+1->(∀r∈rs,Rn 20 r)->∃(al:Al) (fr:À),(∀o o',iz (iF (dj T (n+1)) (.nm 2) [] (.tup [.idx (.v 0) (.v 2),.idx (.v 1) (.v 2)]) [Δ (.lst o (fs.map .str)),Δ (.lst o' (rs.map K5)),Φ]) (iU 0 (fs.length:Int))=.ok (al.map UN))/\(∀o,iO (.lst o (Jz (rs.map K5))) (.int (fs.length:Int))=.ok (.lst Ξ (fr.map JH)))/\al.length=fs.length/\(∀p∈al,p.2.length<=20)/\Rn 20 fr:=by
  intro rs hl hr;have N1:fs.length < rs.length:=⋯
  have gj:∀ {j:Int},j∈jc (fs.length:Int)->rs.getD j.toNat []∈rs/\rs[j.toNat]? = Δ (rs.getD j.toNat []):=λ{j} hj=>by
   have R8:=rS hj;have R6:j.toNat < rs.length:=⋯
   rw[aaj,C_ R6];exact⟨aai R6,rfl⟩
  refine⟨(jc (fs.length:Int)).map λj=>(fs.getD j.toNat (Ρ ""),rs.getD j.toNat []),rs[fs.length],λo o'=>?_,λo=>by
   rw[Ez]
   exact tH rnF o (a:=rs[fs.length]) ⋯ (by rw[Int.toNat_natCast,C_ N1]),by rw[i_,nj];omega,λp hp=>?_,hr _ (aai N1)⟩
  ·rw[oV 0 (fs.length:Int)];refine i4 .int (λj=>(fs.getD j.toNat (Ρ ""),rs.getD j.toNat [])) UN (jc (fs.length:Int)) λj hj=>?_;have R8:=rS hj;obtain⟨nm,Q4,gnm⟩:=kL (fs:=fs) (i:=j) R8.1 R8.2;have Pu:∀o,iO (.lst o (rs.map K5)) (.int j)=.ok (.lst Θ ((rs.getD j.toNat []).map JH)):=λo=>tH K5 o R8.1 (gj hj).2;have en:fs.getD j.toNat (Ρ "")=nm:=by rw[aaj,gnm];rfl
   show _=Except.ok (Δ (D.tup [.str (fs.getD j.toNat (Ρ "")),.lst Θ ((rs.getD j.toNat []).map JH)]));rw[en];generalize(rs.getD j.toNat []).map JH=RJ,rs.map K5=RS,fs.map D.str=FS at *;simp![Q4,Pu]
  ·obtain⟨j,hj,rfl⟩:=List.mem_map.mp hp;exact hr _ (gj hj).1
 have nl1:∀a b,iL (.Ly a b)=Ξ:=λ_ _=>rfl;have nl2:∀a,iL (.sset a)=Ξ:=λ_=>rfl;have nl3:∀a,iL (.Lx a)=Ξ:=λ_=>rfl;have v1:vars (.Ly (.v 4) (.bin .add (.sl (.v 4) (Δ (.c (.int 1))) Φ) (.lst [.c (.int 10007)])))=[4,4]:=rfl;have v2:∀a,vars (.sset a)=vars a:=λ_=>rfl;have v3:∀a,vars (.Lx a)=vars a:=λ_=>rfl;have v4:∀G fr t s i e,vars (.comp G fr t s i e)=fr++j9 s:=λ_ _ _ _ _ _=>rfl;have v5:j9 (.val (.v 4))=[4]:=rfl;have v6:j9 (.J3 (.bi .len [.v 2]))=[2]:=rfl;have eus:ij (us.map D.int)=Θ:=yT us;have gz:∀x y:Ð,uc (.lst Ξ x) (.lst Θ y)=JA (jb (jZ x y).length) (.ok (.lst Θ (jZ x y))):=λ_ _=>rfl;have lap:jb ((jY (xs.map D.int) (Δ 1) Φ).length+1)=Θ:=kH ⋯;have lfs:ke fs.length=Θ:=oU ⋯;have lrn:(iU 0 (fs.length:Int)).length=fs.length:=by rw[pH];omega
 have lfr:∀al:Al,al.length=fs.length->ij (al.map UN)=Ξ:=λal h=>by
  cases al with
  |nil=>rw[<- h]at hf0;exact absurd hf0 nofun
  |cons=>rfl
 have tl:∀ys:À,ys.length<=10->∃(al:Al) (fr:À),iD (dj T (n+1)) XT [Δ (.lst Ξ (ns.map .int)),Δ (.int k),Δ (.lst Ξ (fs.map .str)),Δ (.int pl),Δ (.lst Ξ (xs.map .int)),Δ (.lst Ξ (ys.map JH)),Φ,Φ,Φ,Φ,Φ]=.ok (.rt (.tup [.lst Θ (al.map ML),.lst Ξ (fr.map JH)]))/\al.length=fs.length/\(∀p∈al,p.2.length<=20)/\Rn 20 fr:=λys hy=>by obtain⟨rs,c7,c8,c9,NP,e,hl,hr⟩:=main ys hy (Δ (.lst Ξ (xs.map .int)));obtain⟨al,fr,fm3,hi,h1,h2,h3⟩:=fin rs hl hr;refine⟨al,fr,?_,h1,h2,h3⟩;have ea:=EC al;have lfa:=lfr al h1;have Yt:=j6 fr;have lzl:(ys.map JH).length=ys.length:=i_ _;have ez:=j6 ys;clear main fin fm1 VO;unfold XT;generalize ns.map D.int=NS,fs.map D.str=FS,xs.map D.int=XS,ys.map JH=ZS,rs.map K5=RS,al.map UN=AT,al.map ML=AD,fr.map JH=FR,So=tal at *;simp -implicitDefEqProofs (disch:=omega) only[Jq,Nat.reduceBEq,Nat.reduceSub,Nat.reduceAdd,reduceIte,Ji,Jj,eO,eP,↓Jn,↓Jo,↓Jp,Jk,Jl,Jm,cond_true,cond_false,b_,List.map_nil,c_,List.nil_append,Bool.true_or,Bool.false_or,gO,gP,gQ,gR,ÿaj,gU,fD,fE,g9,hU,cW,bc,fK,fL,cX,cY,fJ,cZ,bh,dA,aL,br,bt,bu,dC,aN,bw,bx,dE,aO,bA,aP,bC,bD,bE,bF,bG,dK,aQ,bJ,bN,bP,aR,aT,dO,dP,bT,aV,aW,ag,aB,aX,bU,bZ,d7,ek,b8,eB,eC,cb,aD,cf,cq,cw,cy,cz,eD,eE,cB,cC,cD,ba,cH,cJ,dv,fN,dt,dw,IY,IZ,I0,dx,dz,bq,dB,aM,dD,fR,dF,dG,dH,dI,dJ,fS,bH,fT,fU,fV,fW,fX,fY,fZ,bK,bL,f6,bM,dM,dN,bQ,f7,f9,bR,gb,gc,gf,gh,aU,gk,az,aA,dQ,dR,gm,gp,gq,Ja,ÿb,ÿag,ÿah,ÿa,Jb,dS,dT,dU,dW,dX,gr,ah,aj,aC,dY,bV,bW,bX,dZ,bY,gu,gy,aY,b9,Jc,Jd,Je,Jf,ÿaa,cg,ck,ÿab,cu,ÿac,ÿae,ÿad,cA,aZ,eF,du,eG,ÿai,ÿaf,gA,gB,eI,eJ,eK,eL,dq,gC,gD,eM,eN,eQ,bg,cE,eR,cG,eS,fO,gE,gF,gG,fP,eU,eV,e9,fg,ft,gH,gI,gJ,gK,gM,fu,cI,Jg,Jh,gN,fQ,fy,fA,fB,cK,cL,cM,fC,cN,cO,cP,cQ,aE,aF,aG,aH,aI,aJ,aK,ak,aq,au,av,aw,ax,ay,ae,fF,fG,cR,cS,cT,cU,cV,gV,gW,gX,gY,gZ,fH,fI,dn,g6,g7,hJ,bf,dg,fM,dh,ei,ef,lfn,ez,v4,v6,lfs,lrn,e,fm3,hi,ea,lfa,Yt,lzl]
 have hd:iD (dj T (n+1)) UD [Δ (.lst Ξ (ns.map .int)),Δ (.int k),Δ (.lst Ξ (fs.map .str)),Δ (.int pl),Φ,Φ,Φ,Φ,Φ,Φ,Φ]=iD (dj T (n+1)) Ux [Δ (.lst Ξ (ns.map .int)),Δ (.int k),Δ (.lst Ξ (fs.map .str)),Δ (.int pl),Δ (.lst Ξ (xs.map .int)),Δ (.lst Ξ (zs.map JH)),Φ,Φ,Φ,Φ,Φ]:=by unfold UD;clear main fin tl;have lw2:ke (m.toNat+1+1+1)=Θ:=oU ⋯;generalize ns.map D.int=NS,fs.map D.str=FS,us.map D.int=US,ws.map D.int=WS,xs.map D.int=XS,(jc m).map D.int=JS,zs.map JH=ZS,Ux=ta at *;simp![ei,ef,lfn,d1,rn,ln,fm1,lus,VO,ess,P',ews,hz,lzs,ez,nl1,nl2,v1,v2,v4,v5,eus,gz,lap]
 have hc:IV (dj T (n+1)) XR [Δ (.lst Ξ (ns.map .int)),Δ (.int k),Δ (.lst Ξ (fs.map .str)),Δ (.int pl),Δ (.lst Ξ (xs.map .int)),Δ (.lst Ξ (zs.map JH)),Φ,Φ,Φ,Φ,Φ]=.ok (.bl (w == 0)):=by clear main fin tl hd;unfold XR;generalize ns.map D.int=NS,fs.map D.str=FS,xs.map D.int=XS,zs.map JH=ZS at *;simp![ei,d3]
 have Yu:∃(al:Al) (fr:À),iD (dj T (n+1)) Ux [Δ (.lst Ξ (ns.map .int)),Δ (.int k),Δ (.lst Ξ (fs.map .str)),Δ (.int pl),Δ (.lst Ξ (xs.map .int)),Δ (.lst Ξ (zs.map JH)),Φ,Φ,Φ,Φ,Φ]=.ok (.rt (.tup [.lst Θ (al.map ML),.lst Ξ (fr.map JH)]))/\al.length=fs.length/\(∀p∈al,p.2.length<=20)/\Rn 20 fr:=by
  unfold Ux;cases hw:(w == 0) with
  |false=>rw[hw]at hc;rw[sk hc];exact tl zs ⋯
  |true=>
   rw[hw]at hc;rw[UM hc (τ':=[Δ (.lst Ξ (ns.map .int)),Δ (.int k),Δ (.lst Ξ (fs.map .str)),Δ (.int pl),Δ (.lst Ξ (xs.map .int)),Δ (.lst Ξ (zs.reverse.map JH)),Φ,Φ,Φ,Φ,Φ]) ?_]
   ·exact tl zs.reverse (by rw[List.length_reverse];omega)
   have ezz:=j6 zs.reverse;rw[<- List.map_reverse]at ezr;have erv:(zs.map JH).reverse=zs.reverse.map JH:=(List.map_reverse).symm;clear main fin tl hd hc;generalize ns.map D.int=NS,fs.map D.str=FS,xs.map D.int=XS,zs.reverse.map JH=ZR,zs.map JH=ZS at *;simp![ez,nl3,v3,ezz,erv]
 obtain⟨al,fr,e,h1⟩:=Yu;refine⟨al,fr,?_,h1⟩;rw[gx 48 X4 4 11 UD rfl];unfold UD;exact congrArg (λr=>II r _) (hd.trans e)
def qI (x:Str):JC x.cps.toList=x:=by cases x;unfold JC;simp
def nU (cs:Ê):(JC cs).cps.toList=cs:=by unfold JC;simp
abbrev tm:D->Bool
 |.str x=>decide (x.length<=1000)
 |.exc _=>Ξ
 |_=>Θ
def EE (h:tm d=Θ):l7 d=Θ:=by cases d<;>first|rfl|cases h
abbrev SG:Str:="abcdefghijklmnopqrstuvwxyz0123456789"
abbrev nB:D->Bool
 |.int i=>decide ((if i < 0 then -i else i)<=999999999)
 |_=>Ξ
abbrev wh:D->Bool
 |.int _=>Θ
 |_=>Ξ
def zt (S:Str)(cs:Ê):(cs.map λc=>jz S (one c)).all id=i6 S (JC cs):=by unfold i6;rw[List.all_map,nU];rfl
def Cc (n:Nat)(S:Str)(l:Int)  (hh:h<=1000)  (hm:tm d=Θ):dj T (n+1) 25 [d,.str S,.int l,.int h]=.ok (.bl (K4 S l h d)):=by
 have hx:=EE hm;cases q:jE .str d with
 |false=>
  have:K4 S l h d=Ξ:=by cases d<;>first|rfl|cases q
  rw[this];rw[gx 25 Rc 4 4 OK rfl];unfold OK;simp![q,hx]
 |true=>
  obtain⟨x,rfl⟩:∃x,d=.str x:=by cases d<;>first|exact⟨_,rfl⟩|cases q
  obtain⟨cs,rfl⟩:∃cs,x=JC cs:=⟨_,(qI x).symm⟩
  have e1:iz (iF (dj T n) (.nm 1) [] (.cmp .Mu (.v 1) (.v 0)) [Δ (.str S),Φ]) (jo (JC cs))=.ok ((cs.map λc=>jz S (one c)).map .bl):=by rw[jD,K_];refine i4 (λc:Nat=>D.str (one c)) (λc=>jz S (one c)) .bl _ λc hc=>?_;simp![Jq]
  have al:=zt S cs;have lc:(jo (JC cs)).length=cs.length:=by rw[jD,i_,i_]
  have sl:=i5 cs;have s9:(JC cs).length<=1000:=l_ hm;show _=Except.ok (D.bl (decide (l<=(((JC cs).length:Nat):Int))&&decide ((((JC cs).length:Nat):Int)<=h)&&i6 S (JC cs)));generalize(cs.map λc=>jz S (one c))=BS,i6 S (JC cs)=bb at *;cases d0:decide (l<=(((JC cs).length:Nat):Int)) with
  |false=>rw[gx 25 Rc 4 4 OK rfl];unfold OK;simp![d0]
  |true=>
   cases d1:decide ((((JC cs).length:Nat):Int)<=h) with
   |false=>rw[gx 25 Rc 4 4 OK rfl];unfold OK;simp![d0,d1]
   |true=>
    have l16:cs.length<=1000:=by have:=l_ d1;omega
    rw[gx 25 Rc 4 4 OK rfl];unfold OK;simp![d0,d1,e1,lc,kG,al]
def Cd (n:Nat)(l:Int)  (hm:tm d=Θ)(he:er d=d):dj T (n+2) 33 [d,.int l]=.ok (.bl (K4 SG l 8 d)):=by have key:=Cc n SG l (h:=8) nofun hm;unfold SG at key ⊢;rw[gx 33 XZ 2 2 XY rfl];unfold XY;simp![he,key]
def G0 (n:Nat)  (hm:tm d=Θ):dj T (n+1) 32 [d]=.ok (.bl (wh d)):=by
 cases d with
 |exc _=>cases hm
 |_=>rw[gx 32 XX 1 1 XW rfl];unfold XW;simp![Jq];first|rfl|skip
def Cf (n:Nat)  (hm:tm d=Θ)(he:er d=d):dj T (n+2) 34 [d]=.ok (.bl (nB d)):=by
 have w:=G0 n hm;cases q:wh d with
 |false=>
  rw[q]at w;have:nB d=Ξ:=by cases d<;>first|rfl|cases q
  rw[this];rw[gx 34 VF 1 1 Uz rfl];unfold Uz;simp![he,w]
 |true=>
  obtain⟨i,rfl⟩:∃i,d=.int i:=by cases d<;>first|exact⟨_,rfl⟩|cases q
  have w:dj T (n+1) 32 [.int i]=.ok (.bl Θ):=w;unfold nB;rw[gx 34 VF 1 1 Uz rfl];unfold Uz;simp![w]
def Cg (n:Nat)  (hm:tm d=Θ):dj T (n+1) 40 [d]=.ok (.bl (nB d)):=by
 cases d with
 |exc _=>cases hm
 |int i=>
  have hp:Lm .pow (.int 10) (.int 9)=.ok (.int 1000000000):=by kernel_rfl
  have:nB (.int i)=(decide (0 - 1000000000 < i)&&decide (i < 1000000000)):=by unfold nB;rw[Bool.eq_iff_iff,d_,decide_eq_true_iff,decide_eq_true_iff,decide_eq_true_iff];split<;>omega
  rw[this];cases d0:decide (0 - 1000000000 < i) with
  |false=>rw[gx 40 UK 1 1 Rp rfl];unfold Rp;simp![d0,hp]
  |true=>rw[gx 40 UK 1 1 Rp rfl];unfold Rp;simp![d0,hp]
 |_=>rw[gx 40 UK 1 1 Rp rfl];unfold Rp;simp![Jq];first|rfl|skip
def Ci (n:Nat)(l:Int)  (hm:tm d=Θ):dj T (n+1) 41 [d,.int l]=.ok (.bl (K4 SG l 8 d)):=by
 have hx:=EE hm;cases q:jE .str d with
 |false=>
  have:K4 SG l 8 d=Ξ:=by cases d<;>first|rfl|cases q
  rw[this];rw[gx 41 Sw 2 2 Px rfl];unfold Px;simp![q,hx]
 |true=>
  obtain⟨x,rfl⟩:∃x,d=.str x:=by cases d<;>first|exact⟨_,rfl⟩|cases q
  obtain⟨cs,rfl⟩:∃cs,x=JC cs:=⟨_,(qI x).symm⟩
  have e1:iz (iF (dj T n) (.nm 0) [] (.cmp .Mu (.v 0) (.c (.str SG))) [Φ]) (jo (JC cs))=.ok ((cs.map λc=>jz SG (one c)).map .bl):=by rw[jD,K_];refine i4 (λc:Nat=>D.str (one c)) (λc=>jz SG (one c)) .bl _ λc hc=>?_;simp![Jq]
  have al:=zt SG cs;have lc:(jo (JC cs)).length=cs.length:=by rw[jD,i_,i_]
  have sl:=i5 cs;have s9:(JC cs).length<=1000:=l_ hm;have n0:decide ((((JC cs).length:Nat):Int) < l) = !decide (l<=(((JC cs).length:Nat):Int)):=by rw[Bool.eq_iff_iff];simp
  have n1:decide ((8:Int) < (((JC cs).length:Nat):Int)) = !decide ((((JC cs).length:Nat):Int)<=8):=by rw[Bool.eq_iff_iff];simp
  show _=Except.ok (D.bl (decide (l<=(((JC cs).length:Nat):Int))&&decide ((((JC cs).length:Nat):Int)<=8)&&i6 SG (JC cs)));generalize(cs.map λc=>jz SG (one c))=BS,i6 SG (JC cs)=bb at *;unfold SG at e1;cases d0:decide (l<=(((JC cs).length:Nat):Int)) with
  |false=>rw[d0]at n0;rw[gx 41 Sw 2 2 Px rfl];unfold Px;simp![n0]
  |true=>
   rw[d0]at n0;cases d1:decide ((((JC cs).length:Nat):Int)<=8) with
   |false=>rw[d1]at n1;rw[gx 41 Sw 2 2 Px rfl];unfold Px;simp![n0,n1]
   |true=>
    rw[d1]at n1;have l16:cs.length<=1000:=by have:=l_ d1;omega
    rw[gx 41 Sw 2 2 Px rfl];unfold Px;simp![n0,n1,e1,lc,kG,al]
def p7 (he:Jz ts=ts):∀d∈ts,er d=d:=by
 induction ts with
 |nil=>intro d hd;exact absurd hd (by simp)
 |cons a ts ih=>
  rw[Jz]at he;injection he with h1 h2;intro d hd;rcases k_.mp hd with rfl|hd
  ·exact h1
  ·exact ih h2 d hd
def zu (bs:List Bool):ij (bs.map D.bl)=Θ:=by rw[jw,List.all_map,z_];intro x _;rfl
def mF (ds:Ð):j7 f ds []=.ok ds.isEmpty:=by cases ds<;>rfl
abbrev t0 (d:D):Bool:=K4 SG 0 8 d||nB d
abbrev OM (b:Bool)(ts:Ð):Bool:=decide ((1:Int)<=((ts.length:Nat):Int))&&(decide (((ts.length:Nat):Int)<=10)&&b)
abbrev kd (w:Str):Nat:=cond (w == "is") 0 (cond (w == "not") 0 (cond (w == "begins") 1 (cond (w == "least") 2 (cond (w == "most") 2 3))))
abbrev UO:Nat->Ð->Bool
 |0,ts=>OM (ts.all t0) ts
 |1,ts=>OM (ts.all λd=>K4 SG 1 8 d) ts
 |2,ts=>(((ts.length:Nat):Int) == 1)&&nB (ts.getD 0 .JF)
 |_,ts=>ts.isEmpty
abbrev NQ (w:Str)(ts:Ð):Bool:=UO (kd w) ts
abbrev N4 (w:Str):Bool:=(Ρ "is" == w)||((Ρ "not" == w)||((Ρ "begins" == w)||((Ρ "least" == w)||((Ρ "most" == w)||((Ρ "has" == w)||((Ρ "lacks" == w)||((Ρ "in" == w)||(Ρ "out" == w))))))))
abbrev N5:Ì:=[.JV (.cmp .Mu (.v 3) (.lst [.c (.str "is"),.c (.str "not")])) [.asg (.nm 6) (.comp {N:=["_law_thing_here"],kd:=[.local],gl:=[40,41],df:=Ξ} [] (.nm 0) (.val (.v 4)) [] (.Ll (.call 40 [.v 0]) (.call 41 [.v 0,.c (.int 0)]))),.asg (.nm 5) (.J0 (.chain .le .le (.c (.int 1)) (.bi .len [.v 4]) (.c (.int 10))) (.bi .all [.v 6]))] [],.JV (.cmp .eq (.v 3) (.c (.str "begins"))) [.asg (.nm 5) (.J0 (.chain .le .le (.c (.int 1)) (.bi .len [.v 4]) (.c (.int 10))) (.bi .all [.comp {N:=["_law_thing_here"],kd:=[.local],gl:=[41],df:=Ξ} [] (.nm 0) (.val (.v 4)) [] (.call 41 [.v 0,.c (.int 1)])]))] [],.JV (.cmp .Mu (.v 3) (.lst [.c (.str "least"),.c (.str "most")])) [.asg (.nm 5) (.J0 (.cmp .eq (.bi .len [.v 4]) (.c (.int 1))) (.call 40 [.idx (.v 4) (.c (.int 0))]))] [],.JV (.v 5) [.ret (.c (.str ""))] [],.ret (.c (.str "BadThings"))]
def G1:MC=(.asg (.tp [.nm 2,.nm 3,.nm 4]) (.v 0))::(.JV (.cmp .Mi (.v 3) (.lst [.c (.str "is"),.c (.str "not"),.c (.str "begins"),.c (.str "least"),.c (.str "most"),.c (.str "has"),.c (.str "lacks"),.c (.str "in"),.c (.str "out")])) [.ret (.c (.str "NoWord"))] [])::(.JV (.J0 (.cmp .Mu (.v 3) (.lst [.c (.str "in"),.c (.str "out")])) (.cmp .Mi (.v 2) (.v 1))) [.ret (.c (.str "NoGroup"))] [])::(.asg (.nm 5) (.cmp .eq (.v 4) (.lst [])))::N5:=rfl
section
variable {w:Str}{ts:Ð}(hm:∀d∈ts,tm d=Θ)(he:Jz ts=ts)(hl:ts.length<=4000)
include hm he hl
theorem G2 (n:Nat):dj T (n+3) 35 [.str w,.lst Ξ ts]=.ok (.bl (NQ w ts)):=by
 have e1:iz (iF (dj T (n+2)) (.nm 0) [] (.Ll (.call 33 [.v 0,.c (.int 0)]) (.call 34 [.v 0])) [Φ]) ts=.ok ((ts.map t0).map .bl):=by
  have:=i4 (g:=iF (dj T (n+2)) (.nm 0) [] (.Ll (.call 33 [.v 0,.c (.int 0)]) (.call 34 [.v 0])) [Φ]) (λd:D=>d) t0 .bl ts λd hd=>by
   have e:=p7 he d hd;have t1:=Cd n 0 (hm d hd) e;have t2:=Cf n (hm d hd) e;unfold t0;cases q:K4 SG 0 8 d with
   |true=>rw[q]at t1;simp![e,t1]
   |false=>rw[q]at t1;simp![e,t1,t2]
  rwa [List.map_id']at this
 have e2:iz (iF (dj T (n+2)) (.nm 0) [] (.call 33 [.v 0,.c (.int 1)]) [Φ]) ts=.ok ((ts.map λd=>K4 SG 1 8 d).map .bl):=by
  have:=i4 (g:=iF (dj T (n+2)) (.nm 0) [] (.call 33 [.v 0,.c (.int 1)]) [Φ]) (λd:D=>d) (λd=>K4 SG 1 8 d) .bl ts λd hd=>by have e:=p7 he d hd;have t1:=Cd n 1 (hm d hd) e;simp![e,t1]
  rwa [List.map_id']at this
 have lf:=zu (ts.map t0);have al:(ts.map t0).all id=ts.all t0:=by rw[List.all_map];rfl
 have Yv:(ts.map λd=>K4 SG 1 8 d).all id=ts.all λd=>K4 SG 1 8 d:=by rw[List.all_map];rfl
 have en:=mF (f:=Ke 39) ts;have e3:(((ts.length:Nat):Int) == 1)=Θ->∃d,iO (.lst Ξ ts) (.int 0)=.ok d/\er d=d/\dj T (n+2) 34 [d]=.ok (.bl (nB (ts.getD 0 .JF))):=λd1=>by
  have l1:ts.length=1:=by have:=g_ d1;omega
  obtain⟨d,rfl⟩:=List.length_eq_one_iff.mp l1;have e:=p7 he d (by simp);exact⟨d,rfl,e,Cf n (hm d (by simp)) e⟩
 have k0:UO 0 ts=OM (ts.all t0) ts:=rfl;have k1:UO 1 ts=OM (ts.all λd=>K4 SG 1 8 d) ts:=rfl;have k2:UO 2 ts=((((ts.length:Nat):Int) == 1)&&nB (ts.getD 0 .JF)):=rfl;have k3:UO 3 ts=ts.isEmpty:=rfl;unfold NQ kd;unfold OM at *;generalize nB (ts.getD 0 .JF)=nb,ts.map t0=BS,(ts.map λd=>K4 SG 1 8 d)=BS2,ts.all t0=b1,(ts.all λd=>K4 SG 1 8 d)=b2 at *;cases q1:(w == Ρ "is") with
 |true=>
  cases d1:decide ((1:Int)<=((ts.length:Nat):Int)) with
  |false=>rw[gx 35 OW 2 3 MB rfl];unfold MB;simp![q1,e1,lf,he,d1,k0]
  |true=>cases d2:decide (((ts.length:Nat):Int)<=10)<;>(rw[gx 35 OW 2 3 MB rfl];unfold MB;simp![q1,e1,lf,he,d1,d2,kG,al,k0])
 |false=>
  cases q2:(w == Ρ "not") with
  |true=>
   cases d1:decide ((1:Int)<=((ts.length:Nat):Int)) with
   |false=>rw[gx 35 OW 2 3 MB rfl];unfold MB;simp![q1,q2,e1,lf,he,d1,k0]
   |true=>cases d2:decide (((ts.length:Nat):Int)<=10)<;>(rw[gx 35 OW 2 3 MB rfl];unfold MB;simp![q1,q2,e1,lf,he,d1,d2,kG,al,k0])
  |false=>
   cases q3:(w == Ρ "begins") with
   |true=>
    cases d1:decide ((1:Int)<=((ts.length:Nat):Int)) with
    |false=>rw[gx 35 OW 2 3 MB rfl];unfold MB;simp![q1,q2,q3,d1,k1]
    |true=>cases d2:decide (((ts.length:Nat):Int)<=10)<;>(rw[gx 35 OW 2 3 MB rfl];unfold MB;simp![q1,q2,q3,e2,d1,d2,kG,Yv,k1])
   |false=>
    cases d1:(((ts.length:Nat):Int) == 1) with
    |false=>cases q4:(w == Ρ "least")<;>cases q5:(w == Ρ "most")<;>(rw[gx 35 OW 2 3 MB rfl];unfold MB;simp![q1,q2,q3,q4,q5,d1,en,k2,k3])
    |true=>obtain⟨d,ix,e,t2⟩:=e3 d1;cases q4:(w == Ρ "least")<;>cases q5:(w == Ρ "most")<;>(rw[gx 35 OW 2 3 MB rfl];unfold MB;simp![q1,q2,q3,q4,q5,d1,ix,e,t2,en,k2,k3])
theorem G3 (n:Nat){P NN:Å}{nm:Str}{a1 a2 a4 a5:Bool}(r1:(Ρ "is" == w)=a1) (r2:(Ρ "not" == w)=a2) (r4:(Ρ "least" == w)=a4) (r5:(Ρ "most" == w)=a5)
  {k:Nat} (hk:kd w=k) (hA:(a1||a2)=decide (k=0)) (hB:(w == Ρ "begins")=decide (k=1)) (hC:(a4||a5)=decide (k=2)) (h4:k < 4):iD (dj T (n+1)) N5 [P,NN,Δ (.str nm),Δ (.str w),Δ (.lst Ξ ts),Δ (.bl ts.isEmpty),Φ]=.ok (.rt (.str (cond (NQ w ts) "" "BadThings"))):=by
 have e1:iz (iF (dj T (n+1)) (.nm 0) [] (.Ll (.call 40 [.v 0]) (.call 41 [.v 0,.c (.int 0)])) [Φ]) ts=.ok ((ts.map t0).map .bl):=by
  have:=i4 (g:=iF (dj T (n+1)) (.nm 0) [] (.Ll (.call 40 [.v 0]) (.call 41 [.v 0,.c (.int 0)])) [Φ]) (λd:D=>d) t0 .bl ts λd hd=>by
   have e:=p7 he d hd;have t1:=Ci n 0 (hm d hd);have t2:=Cg n (hm d hd);unfold t0;cases q:nB d with
   |true=>rw[q]at t2;simp![e,t2]
   |false=>rw[q]at t2;simp![e,t1,t2]
  rwa [List.map_id']at this
 have e2:iz (iF (dj T (n+1)) (.nm 0) [] (.call 41 [.v 0,.c (.int 1)]) [Φ]) ts=.ok ((ts.map λd=>K4 SG 1 8 d).map .bl):=by
  have:=i4 (g:=iF (dj T (n+1)) (.nm 0) [] (.call 41 [.v 0,.c (.int 1)]) [Φ]) (λd:D=>d) (λd=>K4 SG 1 8 d) .bl ts λd hd=>by have e:=p7 he d hd;have t1:=Ci n 1 (hm d hd);simp![e,t1]
  rwa [List.map_id']at this
 have lf:=zu (ts.map t0);have al:(ts.map t0).all id=ts.all t0:=by rw[List.all_map];rfl
 have Yv:(ts.map λd=>K4 SG 1 8 d).all id=ts.all λd=>K4 SG 1 8 d:=by rw[List.all_map];rfl
 have en:=mF (f:=Ke 39) ts;have e3:(((ts.length:Nat):Int) == 1)=Θ->∃d,iO (.lst Ξ ts) (.int 0)=.ok d/\er d=d/\dj T (n+1) 40 [d]=.ok (.bl (nB (ts.getD 0 .JF))):=λd1=>by
  have l1:ts.length=1:=by have:=g_ d1;omega
  obtain⟨d,rfl⟩:=List.length_eq_one_iff.mp l1;exact⟨d,rfl,p7 he d (by simp),Cg n (hm d (by simp))⟩
 unfold NQ;rw[hk];have Yw:k=0∨k=1∨k=2∨k=3:=⋯
 rcases Yw with rfl|rfl|rfl|rfl
 ·show _=Except.ok (Fl.rt (D.str (cond (OM (ts.all t0) ts) "" "BadThings")));simp only[decide_true,decide_false,Nat.reduceEqDiff]at hA hB hC;unfold OM;generalize ts.map t0=BS,ts.all t0=b1,ts.isEmpty=te at *;cases d1:decide ((1:Int)<=((ts.length:Nat):Int)) with
  |false=>unfold N5;simp![r1,r2,r4,r5,hA,hB,hC,e1,lf,he,d1,en]
  |true=>
   cases d2:decide (((ts.length:Nat):Int)<=10) with
   |false=>unfold N5;simp![r1,r2,r4,r5,hA,hB,hC,e1,lf,he,d1,d2,en]
   |true=>cases b1<;>(unfold N5;simp![r1,r2,r4,r5,hA,hB,hC,e1,lf,he,d1,d2,kG,al,en])
 ·show _=Except.ok (Fl.rt (D.str (cond (OM (ts.all λd=>K4 SG 1 8 d) ts) "" "BadThings")));simp only[decide_true,decide_false,Nat.reduceEqDiff]at hA hB hC;unfold OM;generalize(ts.map λd=>K4 SG 1 8 d)=BS,(ts.all λd=>K4 SG 1 8 d)=b1,ts.isEmpty=te at *;cases d1:decide ((1:Int)<=((ts.length:Nat):Int)) with
  |false=>unfold N5;simp![r1,r2,r4,r5,hA,hB,hC,he,d1,en]
  |true=>
   cases d2:decide (((ts.length:Nat):Int)<=10) with
   |false=>unfold N5;simp![r1,r2,r4,r5,hA,hB,hC,he,d1,d2,en]
   |true=>cases b1<;>(unfold N5;simp![r1,r2,r4,r5,hA,hB,hC,e2,he,d1,d2,kG,Yv,en])
 ·show _=Except.ok (Fl.rt (D.str (cond ((((ts.length:Nat):Int) == 1)&&nB (ts.getD 0 .JF)) "" "BadThings")));simp only[decide_true,decide_false,Nat.reduceEqDiff]at hA hB hC;generalize ts.isEmpty=te,nB (ts.getD 0 .JF)=nb at *;cases d1:(((ts.length:Nat):Int) == 1) with
  |false=>unfold N5;simp![r1,r2,r4,r5,hA,hB,hC,he,d1,en]
  |true=>obtain⟨d,ix,e,t2⟩:=e3 d1;cases nb<;>(unfold N5;simp![r1,r2,r4,r5,hA,hB,hC,he,d1,ix,e,t2,en])
 ·show _=Except.ok (Fl.rt (D.str (cond ts.isEmpty "" "BadThings")));simp only[decide_true,decide_false,Nat.reduceEqDiff]at hA hB hC;generalize ts.isEmpty=te at *;cases te<;>(unfold N5;simp![r1,r2,r4,r5,hA,hB,hC,he,en])
theorem G4 (n:Nat){o:Bool}{N:Ð}{nm:Str}{a1 a2 a4 a5 i1 i2:Bool}(hO:N4 w=Θ)(r1:(Ρ "is" == w)=a1) (r2:(Ρ "not" == w)=a2) (r4:(Ρ "least" == w)=a4) (r5:(Ρ "most" == w)=a5) (j1:(Ρ "in" == w)=i1) (j2:(Ρ "out" == w)=i2)
  (hg:(i1||i2)=Θ->Kb (.str nm) N=.ok Θ) {k:Nat} (hk:kd w=k) (hA:(a1||a2)=decide (k=0)) (hB:(w == Ρ "begins")=decide (k=1)) (hC:(a4||a5)=decide (k=2)) (h4:k < 4):dj T (n+2) 46 [.tup [.str nm,.str w,.lst Ξ ts],.lst o N]=.ok (.str (cond (NQ w ts) "" "BadThings")):=by
 have Wo:(if(i1||i2)=Θ then II (II (Kb (.str nm) N) yO) VA else Except.ok (D.bl (i1||i2)))=Except.ok (D.bl Ξ):=by
  cases q:(i1||i2) with
  |false=>rfl
  |true=>rw[hg q];rfl
 have lt:=G3 hm he hl n (P:=Δ (.tup [.str nm,.str w,.lst Ξ ts])) (NN:=Δ (.lst o N)) (nm:=nm) r1 r2 r4 r5 hk hA hB hC h4;have en:=mF (f:=Ke 39) ts;unfold N4 at hO;rw[r1,r2,r4,r5,j1,j2]at hO;rw[gx 46 OX 2 7 MC rfl rfl rfl rfl rfl rfl,G1];generalize N5=tl,NQ w ts=gv,ts.isEmpty=te at *;cases te<;>simp![r1,r2,r4,r5,j1,j2,hO,Wo,he,en,lt]
end
abbrev NR (w:Str):Bool:=(Ρ "in" == w)||(Ρ "out" == w)
abbrev uS (gn:È)(nm:Str)(wd:D)(ts:Ð):Option Str:=match wd with
 |.str w=>cond (N4 w) (cond (NR w&&!(gn.any λg=>g == nm)) (Δ "NoGroup") (cond (NQ w ts) Φ (Δ "BadThings"))) (Δ "NoWord")
 |_=>Δ "NoWord"
abbrev VP:Option Str->Res D
 |none=>.ok (.bl Θ)
 |some c=>.error (.exc c)
structure Vd (C:D)(N:Ð)(F:Option Str):Prop where
 p:∀(n:Nat) (o:Bool),dj T (n+4) 36 [C,.lst o N]=VP F
 l:∀(n:Nat) (o:Bool),dj T (n+2) 46 [C,.lst o N]=.ok (.str (F.getD ""))
theorem zv (x:Str):∀gs:È,Kb (.str x) (gs.map .str)=.ok (gs.any λg=>g == x)
 |[]=>rfl
 |g::gs=>by rw[b_,fQ,fP,dt,dv,zv x gs];rfl
def EF (h:N4 w=Θ):w∈W9:=by unfold N4 at h;simp only[J_,beq_iff_eq]at h;rcases h with rfl|rfl|rfl|rfl|rfl|rfl|rfl|rfl|rfl<;>decide +kernel
def EG:∀w∈W9,(reprText w).length<=1000:=∅
abbrev kdB (w:Str):Bool:=(((Ρ "is" == w)||(Ρ "not" == w)) == decide (kd w=0))&&((w == Ρ "begins") == decide (kd w=1))&&(((Ρ "least" == w)||(Ρ "most" == w)) == decide (kd w=2))&&decide (kd w < 4)
def G5:∀w∈W9,kdB w=Θ:=∅
section
variable {nm:Str}{ts:Ð}(gn:È)(hm:∀d∈ts,tm d=Θ)(he:Jz ts=ts)(hl:ts.length<=4000)
include hm he hl
theorem cnd {wd:D}(hR:∀w,wd=.str w->NR w=Θ->(reprText nm).length<=1000)(hw:tm wd=Θ)(SF:er wd=wd):Vd (.tup [.str nm,wd,.lst Ξ ts]) (gn.map .str) (uS gn nm wd ts):=by
 have ai:=zv nm gn;have i0:iO (.tup [.str nm,wd,.lst Ξ ts]) (.int 0)=.ok (.str nm):=rfl;have i1:iO (.tup [.str nm,wd,.lst Ξ ts]) (.int 1)=.ok wd:=rfl;have i2:iO (.tup [.str nm,wd,.lst Ξ ts]) (.int 2)=.ok (.lst Ξ ts):=rfl;have nl:iL (.idx (.v 0) (.c (.int 1)))=Ξ:=rfl;cases wd with
 |exc _=>cases hw
 |JF=>exact⟨λn o=>by show _=Except.error _;rw[gx 36 N3 2 4 L3 rfl];unfold L3;simp![i0,i1],λn o=>by show _=Except.ok (D.str "NoWord");rw[gx 46 OX 2 7 MC rfl];unfold MC;simp![he]⟩
 |bl b=>exact⟨λn o=>by show _=Except.error _;rw[gx 36 N3 2 4 L3 rfl];unfold L3;simp![i0,i1],λn o=>by show _=Except.ok (D.str "NoWord");rw[gx 46 OX 2 7 MC rfl];unfold MC;simp![he]⟩
 |int b=>exact⟨λn o=>by show _=Except.error _;rw[gx 36 N3 2 4 L3 rfl];unfold L3;simp![i0,i1],λn o=>by show _=Except.ok (D.str "NoWord");rw[gx 46 OX 2 7 MC rfl];unfold MC;simp![he]⟩
 |tup ds=>
  have hd:Jz ds=ds:=by rw[er]at SF;injection SF
  exact⟨λn o=>by show _=Except.error _;cases lf:ij ds<;>(rw[gx 36 N3 2 4 L3 rfl];unfold L3;simp![i0,i1,lf,hd,he]),λn o=>by show _=Except.ok (D.str "NoWord");rw[gx 46 OX 2 7 MC rfl];unfold MC;simp![he,hd]⟩
 |lst o' ds=>
  have hd:Jz ds=ds:=by rw[er]at SF;injection SF
  have ho:o'=Ξ:=by rw[er]at SF;injection SF with h1;exact h1.symm
  subst ho;exact⟨λn o=>by show _=Except.error _;rw[gx 36 N3 2 4 L3 rfl];unfold L3;simp![i0,i1,nl,hd,he],λn o=>by show _=Except.ok (D.str "NoWord");rw[gx 46 OX 2 7 MC rfl];unfold MC;simp![he,hd]⟩
 |str w=>
  have go:=λn=>G2 (w:=w) hm he hl n;have hF:uS gn nm (.str w) ts=cond (N4 w) (cond (NR w&&!(gn.any λg=>g == nm)) (Δ (Ρ "NoGroup")) (cond (NQ w ts) Φ (Δ (Ρ "BadThings")))) (Δ (Ρ "NoWord")):=rfl;rw[hF];cases hO:N4 w with
  |false=>unfold N4 at hO;exact⟨λn o=>by show _=Except.error _;rw[gx 36 N3 2 4 L3 rfl];unfold L3;simp![i0,i1,hO],λn o=>by show _=Except.ok (D.str "NoWord");rw[gx 46 OX 2 7 MC rfl];unfold MC;simp![he,hO]⟩
  |true=>
   have wm:=EF hO;have hR2:=EG w wm;have kb:=G5 w wm;unfold kdB at kb;simp only[d_,beq_iff_eq]at kb;have lw:=λ(n:Nat) (o:Bool) (hg:NR w=Θ->Kb (.str nm) (gn.map .str)=.ok Θ)=>G4 (o:=o) (N:=gn.map .str) (nm:=nm) hm he hl n hO rfl rfl rfl rfl rfl rfl hg rfl kb.1.1.1 kb.1.1.2 kb.1.2 (l_ kb.2);have g18:(Ρ "there is no group ").length=18:=∅
   have g34:(Ρ "the things don't go with the word ").length<=40:=∅
   have g0:(Option.getD (Φ:Option Str) Str.empty).length=0:=rfl;have f1:NR w=Θ->vE "there is no group " Φ (.str nm)=.ok (.str (Ρ "there is no group "++reprText nm++Option.getD Φ Str.empty)):=λz=>by have:=hR w rfl z;rw[du,kH ⋯];rfl
   have f2:vE "the things don't go with the word " Φ (.str w)=.ok (.str (Ρ "the things don't go with the word "++reprText w++Option.getD Φ Str.empty)):=by rw[du,kH ⋯];rfl
   generalize Ρ "there is no group "++reprText nm++Option.getD Φ Str.empty=M1,Ρ "the things don't go with the word "++reprText w++Option.getD Φ Str.empty=M2 at *;obtain⟨k1,s1⟩:∃k1,(Ρ "in" == w)=k1:=⟨_,rfl⟩
   obtain⟨k2,s2⟩:∃k2,(Ρ "out" == w)=k2:=⟨_,rfl⟩
   have VQ:(w == Ρ "in")=k1:=by rw[BEq.comm];exact s1
   have VR:(w == Ρ "out")=k2:=by rw[BEq.comm];exact s2
   have M5:NR w=(k1||k2):=by unfold NR;rw[s1,s2]
   have PB:=hO;unfold N4 at PB;rw[s1,s2]at PB;rw[M5];generalize(gn.any λg=>g == nm)=Lh,gn.map D.str=N,NQ w ts=gv at *;cases Lh with
   |false=>
    cases hk:(k1||k2) with
    |true=>
     refine⟨λn o=>?_,λn o=>?_⟩
     ·show _=Except.error _;have f1:=f1 (by rw[M5,hk]);cases k1 with
      |true=>rw[gx 36 N3 2 4 L3 rfl];unfold L3;simp![i0,i1,i2,s1,s2,VQ,VR,PB,ai,f1]
      |false=>have hk:k2=Θ:=hk;subst hk;rw[gx 36 N3 2 4 L3 rfl];unfold L3;simp![i0,i1,i2,s1,s2,VQ,VR,PB,ai,f1]
     ·show _=Except.ok (D.str "NoGroup");rw[gx 46 OX 2 7 MC rfl];unfold MC;simp![he,s1,s2,PB,hk,ai]
    |false=>rw[Bool.or_eq_false_iff]at hk;obtain⟨rfl,rfl⟩:=hk;simp only[Bool.or_false]at PB;refine⟨λn o=>?_,λn o=>(lw n o λz=>by rw[M5]at z;cases z).trans (by cases gv<;>rfl)⟩;have go:=go n;cases gv<;>(rw[gx 36 N3 2 4 L3 rfl];unfold L3;simp![i0,i1,i2,s1,s2,VQ,VR,PB,he,go,f2];rfl)
   |true=>refine⟨λn o=>?_,λn o=>(lw n o λz=>ai).trans (by cases gv<;>cases(k1||k2)<;>rfl)⟩;have go:=go n;cases gv<;>cases k1<;>cases k2<;>(try simp only[Bool.or_false]at PB)<;>(rw[gx 36 N3 2 4 L3 rfl];unfold L3;simp![i0,i1,i2,s1,s2,VQ,VR,PB,ai,he,go,f2];rfl)
end
abbrev ox (b:Bool)(c:Str):Res Fl:=cond b (.ok (.rt (.str c))) (.error (.exc c))
def Hm (b:Bool)(F:Option Str)(r:Res Fl)(st:Ev->Prop):Prop:=match F with
 |none=>∃τ',r=.ok (.nx τ')/\st τ'
 |some c=>r=ox b c
theorem o6 {b:Bool}{body:D->Ev->Res Fl}{α:Type}(N2:α->D)(F:α->Option Str)(st:Ev->Prop):∀(xs:List α) (τ:Ev),st τ->(∀x∈xs,∀τ,st τ->Hm b (F x) (body (N2 x) τ) st)->Hm b (xs.findSome? F) (forM body (xs.map N2) τ) st
 |[],τ,h,_=>⟨τ,rfl,h⟩
 |x::xs,τ,h,k=>by
  have h1:=k x (.head _) τ h;rw[b_,List.findSome?_cons];cases hF:F x with
  |none=>rw[hF]at h1;obtain⟨τ',e,h'⟩:=h1;show Hm b (xs.findSome? F) (II (body (N2 x) τ) _) st;rw[e];exact o6 N2 F st xs τ' h' λy hy=>k y (.tail _ hy)
  |some c=>rw[hF]at h1;have h1:body (N2 x) τ=ox b c:=h1;show II (body (N2 x) τ) _=ox b c;rw[h1];cases b<;>rfl
structure Gc where
 m:Str
 w:D
 ts:Ð
abbrev Gc.d (c:Gc):D:=.tup [.str c.m,c.w,.lst Ξ c.ts]
structure Gc.ok (B:Nat)(c:Gc):Prop where
 r:∀w,c.w=.str w->NR w=Θ->(reprText c.m).length<=1000
 w:tm c.w=Θ
 pw:pl 2 c.w=Θ
 t:∀d∈c.ts,tm d=Θ
 pt:Kh 2 c.ts=Θ
 l:c.ts.length<=B
inductive Go where
 | odd (x:D) (r:Ð)
 | face (f:Str)
 | share (f:Str) (sg:À)
 | MD
abbrev Go.d:Go->D
 |.odd x r=>.tup (x::r)
 |.face f=>.tup [.str "face",.str f]
 |.share f sg=>.tup [.str "share",.str f,.lst Ξ (sg.map JH)]
 |.MD=>.tup [.str "lot"]
def Go.ok:Go->Prop
 |.odd x r=>Kb x [.str "face",.str "share",.str "lot"]=.ok Ξ/\pl 2 x=Θ/\Kh 3 r=Θ/\r.length<=10
 |.share _ sg=>sg.length<=10
 |_=>True
abbrev MM:Int->À->Option Str
 |_,[]=>Φ
 |a,p::r=>cond (decide (p.1<=a)||(decide (p.2 < 0)||decide ((10007:Int) < p.2))) (Δ (Ρ "BadStage")) (MM p.1 r)
abbrev outF:Go->Option Str
 |.odd _ _=>Δ (Ρ "BadOutcome")
 |.share _ sg=>MM (-1) sg
 |_=>Φ
structure Gl where
 cs:List Gc
 o:Go
abbrev Gl.d (r:Gl):D:=.tup [.lst Ξ (r.cs.map Gc.d),r.o.d]
structure Gl.ok (B:Nat)(r:Gl):Prop where
 c:∀c∈r.cs,c.ok B
 l:r.cs.length<=10
 o:r.o.ok
abbrev cF (gn:È)(c:Gc):Option Str:=uS gn c.m c.w c.ts
abbrev o7 (gn:È)(r:Gl):Option Str:=(r.cs.findSome? (cF gn)).or (outF r.o)
def zw {c:Gc}(h:c.ok B):er c.d=c.d:=by show D.tup [.str c.m,er c.w,.lst Ξ (Jz c.ts)]=_;rw[jm 2 _ h.pw,lQ h.pt];rfl
theorem lR:∀ {cs:List Gc},(∀c∈cs,c.ok B)->Jz (cs.map Gc.d)=cs.map Gc.d
 |[],_=>rfl
 |c::cs,h=>by rw[b_,Jz,zw (h c (.head _)),lR λx hx=>h x (.tail _ hx)]
theorem rW:∀sg:À,Jz (sg.map JH)=sg.map JH
 |[]=>rfl
 |p::sg=>by rw[b_,Jz,rW sg];rfl
def o8 {o:Go}(h:o.ok):er o.d=o.d:=by
 cases o with
 |odd x r=>show D.tup (er x::Jz r)=_;rw[jm 2 _ h.2.1,lQ h.2.2.1];rfl
 |share f sg=>show D.tup [.str "share",.str f,.lst Ξ (Jz (sg.map JH))]=_;rw[rW];rfl
 |_=>rfl
def G6 {r:Gl}(h:r.ok B):er r.d=r.d:=by show D.tup [.lst Ξ (Jz (r.cs.map Gc.d)),er r.o.d]=_;rw[lR h.c,o8 h.o];rfl
theorem k9:∀ {rs:List Gl},(∀r∈rs,r.ok B)->Jz (rs.map Gl.d)=rs.map Gl.d
 |[],_=>rfl
 |c::cs,h=>by rw[b_,Jz,G6 (h c (.head _)),k9 λx hx=>h x (.tail _ hx)]
abbrev PC:Ì:=[.JV (.cmp .le (.v 2) (.v 1)) [.Ka 70 "BadStage" "a stage's day is below 0 or no greater than the one ahead of it"] [],.JV (.Ll (.cmp .lt (.v 3) (.c (.int 0))) (.cmp .gt (.v 3) (.g 23 (.int 10007)))) [.Ka 70 "BadStage" "a stage has fewer places than none or more than there are"] [],.asg (.nm 1) (.v 2)]
abbrev OV:Ì:=[.JV (.Ll (.cmp .le (.v 10) (.v 9)) (.Ll (.cmp .lt (.v 11) (.c (.int 0))) (.cmp .gt (.v 11) (.c (.int 10007))))) [.ret (.c (.str "BadStage"))] [],.asg (.nm 9) (.v 10)]
theorem G7 (cl:Ä)(a0:Å):∀(sg:À) (a:Int) (b c:Å),Hm Ξ (MM a sg) (forM (turn cl (.tp [.nm 2,.nm 3]) PC) (sg.map JH) [a0,Δ (.int a),b,c]) (λτ=>∃x y z,τ=[a0,x,y,z])
 |[],a,b,c=>⟨_,rfl,_,_,_,rfl⟩
 |p::sg,a,b,c=>by
  unfold MM;rw[b_,dq];cases e1:decide (p.1<=a) with
  |true=>
   have et:turn cl (.tp [.nm 2,.nm 3]) PC (JH p) [a0,Δ (.int a),b,c]=.error (.exc "BadStage"):=by unfold PC JH;simp![iq,e1]
   rw[et];rfl
  |false=>
   cases e2:(decide (p.2 < 0)||decide ((10007:Int) < p.2)) with
   |true=>
    have et:turn cl (.tp [.nm 2,.nm 3]) PC (JH p) [a0,Δ (.int a),b,c]=.error (.exc "BadStage"):=by
     unfold PC JH;cases e3:decide (p.2 < 0) with
     |true=>simp![iq,e1,e3]
     |false=>rw[e3]at e2;have e2:decide ((10007:Int) < p.2)=Θ:=e2;simp![iq,e1,e3,e2]
    rw[et];rfl
   |false=>
    rw[Bool.or_eq_false_iff]at e2;obtain⟨e3,e4⟩:=e2;have et:turn cl (.tp [.nm 2,.nm 3]) PC (JH p) [a0,Δ (.int a),b,c]=.ok (.nx [a0,Δ (.int p.1),Δ (.int p.1),Δ (.int p.2)]):=by unfold PC JH;simp![iq,e1,e3,e4]
    rw[et];exact G7 cl a0 sg p.1 _ _
theorem G8 (cl:Ä)(s0 s1 s2 s3 s4 s5 s6 s7 s8:Å):∀(sg:À) (a:Int) (b c:Å),Hm Θ (MM a sg) (forM (turn cl (.tp [.nm 10,.nm 11]) OV) (sg.map JH) [s0,s1,s2,s3,s4,s5,s6,s7,s8,Δ (.int a),b,c]) (λτ=>∃x y z,τ=[s0,s1,s2,s3,s4,s5,s6,s7,s8,x,y,z])
 |[],a,b,c=>⟨_,rfl,_,_,_,rfl⟩
 |p::sg,a,b,c=>by
  unfold MM;rw[b_,dq];cases e0:(decide (p.1<=a)||(decide (p.2 < 0)||decide ((10007:Int) < p.2))) with
  |true=>
   have et:turn cl (.tp [.nm 10,.nm 11]) OV (JH p) [s0,s1,s2,s3,s4,s5,s6,s7,s8,Δ (.int a),b,c]=.ok (.rt (.str "BadStage")):=by
    unfold OV JH;cases e1:decide (p.1<=a) with
    |true=>simp![iq,e1]
    |false=>
     rw[e1]at e0;cases e3:decide (p.2 < 0) with
     |true=>simp![iq,e1,e3]
     |false=>rw[e3]at e0;have e0:decide ((10007:Int) < p.2)=Θ:=e0;simp![iq,e1,e3,e0]
   rw[et];rfl
  |false=>
   rw[Bool.or_eq_false_iff,Bool.or_eq_false_iff]at e0;obtain⟨e1,e3,e4⟩:=e0;have et:turn cl (.tp [.nm 10,.nm 11]) OV (JH p) [s0,s1,s2,s3,s4,s5,s6,s7,s8,Δ (.int a),b,c]=.ok (.nx [s0,s1,s2,s3,s4,s5,s6,s7,s8,Δ (.int p.1),Δ (.int p.1),Δ (.int p.2)]):=by unfold OV JH;simp![iq,e1,e3,e4]
   rw[et];exact G8 cl s0 s1 s2 s3 s4 s5 s6 s7 s8 sg p.1 _ _
abbrev Yx:Option Str->Res D
 |none=>.ok .JF
 |some c=>.error (.exc c)
def zA (n:Nat)(sg:À):dj T (n+1) 37 [.lst Ξ (sg.map JH)]=VP (MM (-1) sg):=by
 have e:=G7 (dj T n) (Δ (.lst Ξ (sg.map JH))) sg (-1) Φ Φ;have ep:=rW sg;cases hF:MM (-1) sg with
 |none=>rw[hF]at e;obtain⟨_,e,x,y,z,rfl⟩:=e;show _=Except.ok (D.bl Θ);unfold PC at e;rw[gx 37 VG 1 4 UA rfl];unfold UA;generalize sg.map JH=SG at *;simp![ep,e]
 |some c=>rw[hF]at e;have e:forM _ _ _=Except.error (.exc c):=e;show _=Except.error _;unfold PC at e;rw[gx 37 VG 1 4 UA rfl];unfold UA;generalize sg.map JH=SG at *;simp![ep,e]
abbrev NT:Go->Bool×Bool
 |.odd _ _=>(Ξ,Ξ)
 |.share _ _=>(Θ,Θ)
 |_=>(Θ,Ξ)
def G9 (x:D)(r:Ð):iO (.tup (x::r)) (.int 0)=.ok x:=by
 have h:Kv (x::r).length 0=Δ 0:=by unfold Kv;simp
 unfold iO;simp only[KQ,h];rfl
def Cj (h:o.ok):∃x,iO o.d (.int 0)=.ok x/\er x=x/\iw x=iw x/\Kb x [.str "face",.str "share",.str "lot"]=.ok (NT o).1/\((NT o).1=Θ->Ke 40 x (.str "share")=.ok (NT o).2):=by
 cases o with
 |odd x r=>exact⟨x,G9 x r,jm 2 _ h.2.1,rfl,h.1,λz=>by cases z⟩
 |face f=>exact⟨.str "face",rfl,rfl,rfl,by kernel_rfl,λ_=>by kernel_rfl⟩
 |share f sg=>exact⟨.str "share",rfl,rfl,rfl,by kernel_rfl,λ_=>by kernel_rfl⟩
 |MD=>exact⟨.str "lot",rfl,rfl,rfl,by kernel_rfl,λ_=>by kernel_rfl⟩
def vW (n:Nat)  (h:o.ok):dj T (n+2) 38 [o.d]=Yx (outF o):=by
 obtain⟨x,x0,xe,_,xa,xs⟩:=Cj h;have eo:=o8 h;cases o with
 |odd y r=>show _=Except.error _;generalize Go.d (.odd y r)=O at *;rw[gx 38 Rg 1 1 OL rfl];unfold OL;simp![x0,xa,NT]
 |face f=>have xs:=xs rfl;show _=Except.ok D.JF;generalize Go.d (.face f)=O at *;rw[gx 38 Rg 1 1 OL rfl];unfold OL;simp![x0,xa,xs,NT]
 |MD=>have xs:=xs rfl;show _=Except.ok D.JF;generalize Go.d .MD=O at *;rw[gx 38 Rg 1 1 OL rfl];unfold OL;simp![x0,xa,xs,NT]
 |share f sg=>
  have xs:=xs rfl;have x2:iO (Go.d (.share f sg)) (.int 2)=.ok (.lst Ξ (sg.map JH)):=rfl;have e:=zA n sg;have ep:=rW sg;show _=Yx (MM (-1) sg);generalize Go.d (.share f sg)=O,sg.map JH=SG at *;cases hF:MM (-1) sg with
  |none=>rw[hF]at e;have e:dj T (n+1) 37 [.lst Ξ SG]=.ok (.bl Θ):=e;show _=Except.ok D.JF;rw[gx 38 Rg 1 1 OL rfl];unfold OL;simp![x0,x2,xa,xs,ep,e,NT]
  |some c=>rw[hF]at e;have e:dj T (n+1) 37 [.lst Ξ SG]=.error (.exc c):=e;show _=Except.error _;rw[gx 38 Rg 1 1 OL rfl];unfold OL;simp![x0,x2,xa,xs,ep,e,NT]
abbrev UP:Ì:=[.exp (.call 36 [.v 4,.v 0])]
abbrev VS:Ì:=[.Kl (.nm 4) (.val (.v 2)) UP,.exp (.call 38 [.v 3])]
def c_v (hB:B<=4000)(gn:È)  (h:c.ok B):Vd c.d (gn.map .str) (cF gn c):=cnd gn h.t (lQ h.pt) (N_ h.l hB) h.r h.w (jm 2 _ h.pw)
def Ij (hB:B<=4000)(n:Nat)(gn:È)(a1 a2 a3 b:Å){cs:List Gc}(h:∀c∈cs,c.ok B):Hm Ξ (cs.findSome? (cF gn)) (forM (turn (dj T (n+4)) (.nm 4) UP) (cs.map Gc.d) [Δ (.lst Ξ (gn.map .str)),a1,a2,a3,b]) (λτ=>∃x,τ=[Δ (.lst Ξ (gn.map .str)),a1,a2,a3,x]):=by
 refine o6 Gc.d (cF gn) _ cs _ ⟨b,rfl⟩ ?_;rintro c hc τ ⟨b,rfl⟩;have e:=(c_v hB gn (h c hc)).p n Ξ;have ec:=zw (h c hc);have eg:=jk gn;unfold UP;generalize c.d=C,gn.map D.str=GN at *;cases hF:cF gn c with
 |none=>rw[hF]at e;have e:dj T (n+4) 36 [C,.lst Ξ GN]=.ok (.bl Θ):=e;refine⟨_,?_,Δ C,rfl⟩;simp![iq,ec,eg,e]
 |some c=>rw[hF]at e;have e:dj T (n+4) 36 [C,.lst Ξ GN]=.error (.exc c):=e;show _=Except.error _;simp![iq,ec,eg,e]
def Ik (hB:B<=4000)(n:Nat)(gn:È)(a1 a b c:Å){rs:List Gl}(h:∀r∈rs,r.ok B):Hm Ξ (rs.findSome? (o7 gn)) (forM (turn (dj T (n+4)) (.tp [.nm 2,.nm 3]) VS) (rs.map Gl.d) [Δ (.lst Ξ (gn.map .str)),a1,a,b,c]) (λτ=>∃x y z,τ=[Δ (.lst Ξ (gn.map .str)),a1,x,y,z]):=by
 refine o6 Gl.d (o7 gn) _ rs _ ⟨a,b,c,rfl⟩ ?_;rintro r hr τ ⟨a,b,c,rfl⟩;have hr:=h r hr;have e:=vW (n+2) hr.o;have e2:=Ij hB n gn a1 (Δ (.lst Ξ (r.cs.map Gc.d))) (Δ r.o.d) c hr.c;have eo:=o8 hr.o;have ew:=lR hr.c;show Hm Ξ ((r.cs.findSome? (cF gn)).or (outF r.o)) (turn (dj T (n+4)) (.tp [.nm 2,.nm 3]) VS (.tup [.lst Ξ (r.cs.map Gc.d),r.o.d]) _) _;unfold VS;generalize r.o.d=O,r.cs.map Gc.d=CS,gn.map D.str=GN,UP=tsi at *;cases hF:r.cs.findSome? (cF gn) with
 |some c=>rw[hF]at e2;have e2:forM _ _ _=Except.error (.exc c):=e2;show _=Except.error _;simp![iq,eo,ew,e2]
 |none=>
  rw[hF]at e2;obtain⟨_,e2,x,rfl⟩:=e2;cases hG:outF r.o with
  |none=>rw[hG]at e;have e:dj T (n+2+2) 38 [O]=.ok .JF:=e;refine⟨[Δ (.lst Ξ GN),a1,Δ (.lst Ξ CS),Δ O,x],?_,_,_,x,rfl⟩;simp![iq,eo,ew,e,e2]
  |some c=>rw[hG]at e;have e:dj T (n+2+2) 38 [O]=.error (.exc c):=e;show _=Except.error _;simp![iq,eo,ew,e,e2]
structure Gs where
 s:D
 r:Str
 rs:List Gl
 a:D
abbrev Gs.d (g:Gs):D:=.tup [g.s,.str g.r,.lst Ξ (g.rs.map Gl.d),g.a]
structure Gs.ok (B:Nat)(g:Gs):Prop where
 s:tm g.s=Θ
 ps:pl 2 g.s=Θ
 rs:∀r∈g.rs,r.ok B
 a:pl 6 g.a=Θ
 l:g.rs.length<=10
abbrev Qh (d:D):Option Str:=cond (K4 "abcdefghijklmnopqrstuvwxyz" 1 12 d) Φ (Δ (Ρ "NoSalt"))
abbrev Nx (gn:È)(g:Gs):Option Str:=(Qh g.s).or (g.rs.findSome? (o7 gn))
def uT {g:Gs}(h:g.ok B):er g.d=g.d:=by show D.tup [er g.s,.str g.r,.lst Ξ (Jz (g.rs.map Gl.d)),er g.a]=_;rw[jm 2 _ h.ps,k9 h.rs,jm 6 _ h.a];rfl
def EH (hB:B<=4000)(n:Nat)(gn:È)  (h:g.ok B):dj T (n+5) 39 [.lst Ξ (gn.map .str),g.d]=VP (Nx gn g):=by
 have e1:dj T (n+4) 26 [g.s]=Yx (Qh g.s):=by
  have k:=Cc (n+2) "abcdefghijklmnopqrstuvwxyz" 1 (h:=12) nofun h.s;have es:=jm 2 _ h.ps;unfold Qh;generalize g.s=S at *;cases q:K4 "abcdefghijklmnopqrstuvwxyz" 1 12 S with
  |true=>rw[q]at k;show _=Except.ok D.JF;rw[gx 26 Uy 1 1 Rf rfl];unfold Rf;simp![es,k]
  |false=>rw[q]at k;show _=Except.error _;rw[gx 26 Uy 1 1 Rf rfl];unfold Rf;simp![es,k]
 have e2:=Ik hB n gn (Δ g.d) Φ Φ Φ h.rs;have x0:iO g.d (.int 0)=.ok g.s:=rfl;have x2:iO g.d (.int 2)=.ok (.lst Ξ (g.rs.map Gl.d)):=rfl;have N6:=k9 h.rs;have VT:=uT h;have es:=jm 2 _ h.ps;unfold Nx;unfold VS UP at e2;generalize g.d=SW,g.rs.map Gl.d=RS,gn.map D.str=GN,g.s=SC at *;cases hS:Qh SC with
 |some c=>rw[hS]at e1;have e1:dj T (n+4) 26 [SC]=.error (.exc c):=e1;show _=Except.error _;rw[gx 39 UB 2 5 Rh rfl];unfold Rh;simp![x0,es,e1]
 |none=>
  rw[hS]at e1;have e1:dj T (n+4) 26 [SC]=.ok .JF:=e1;cases hR:g.rs.findSome? (o7 gn) with
  |none=>rw[hR]at e2;obtain⟨_,e2,x,y,z,rfl⟩:=e2;show _=Except.ok (D.bl Θ);rw[gx 39 UB 2 5 Rh rfl];unfold Rh;simp![x0,x2,es,N6,VT,e1,e2]
  |some c=>rw[hR]at e2;have e2:forM _ _ _=Except.error (.exc c):=e2;show _=Except.error _;rw[gx 39 UB 2 5 Rh rfl];unfold Rh;simp![x0,x2,es,N6,VT,e1,e2]
abbrev NM:È:=[Ρ "NoSalt",Ρ "NoWord",Ρ "NoGroup",Ρ "BadThings",Ρ "BadOutcome",Ρ "BadStage"]
def Ck:∀c∈NM,(c == Ρ "")=Ξ:=∅
def Ha:Ρ "NoWord"∈NM:=∅
def Cm (h:cF gn c=Δ x):x∈NM:=by
 unfold cF uS at h;split at h
 ·rename_i w _
  cases hO:N4 w with
  |false=>rw[hO]at h;cases h;exact Ha
  |true=>
   rw[hO]at h;cases hg:(NR w&&!(gn.any λg=>g == c.m)) with
   |true=>rw[hg]at h;cases h;decide +kernel
   |false=>
    rw[hg]at h;cases hv:NQ w c.ts with
    |true=>rw[hv]at h;cases h
    |false=>rw[hv]at h;cases h;decide +kernel
 ·cases h;exact Ha
def uU {α:Type}{F:α->Option Str}{xs:List α}  (hF:∀a y,F a=Δ y->y∈NM)(h:xs.findSome? F=Δ x):x∈NM:=by obtain⟨a,_,h⟩:=List.exists_of_findSome?_eq_some h;exact hF a x h
theorem zC:∀ {sg:À}{a:Int}{x:Str},MM a sg=Δ x->x∈NM
 |[],a,x,h=>by cases h
 |p::sg,a,x,h=>by
  unfold MM at h;cases hq:(decide (p.1<=a)||(decide (p.2 < 0)||decide ((10007:Int) < p.2))) with
  |true=>rw[hq]at h;cases h;decide +kernel
  |false=>rw[hq]at h;exact zC h
def BA (r:Gl)(x:Str)(h:o7 gn r=Δ x):x∈NM:=by
 unfold o7 at h;cases hc:r.cs.findSome? (cF gn) with
 |some y=>rw[hc]at h;cases h;exact uU (λa y=>Cm) hc
 |none=>
  rw[hc]at h;have h:outF r.o=Δ x:=h;cases ho:r.o with
  |odd _ _=>rw[ho]at h;cases h;decide +kernel
  |share _ sg=>rw[ho]at h;exact zC h
  |face _=>rw[ho]at h;cases h
  |MD=>rw[ho]at h;cases h
def tI (h:Nx gn g=Δ x):x∈NM:=by
 unfold Nx Qh at h;cases hs:K4 "abcdefghijklmnopqrstuvwxyz" 1 12 g.s with
 |false=>rw[hs]at h;cases h;decide +kernel
 |true=>rw[hs]at h;exact uU BA h
abbrev UQ:Ì:=[.JV (.cmp .ne (.call 46 [.v 8,.v 1]) (.c (.str ""))) [.ret (.call 46 [.v 8,.v 1])] []]
abbrev VU:Ì:=[.Kl (.nm 8) (.val (.v 6)) UQ,.JV (.cmp .Mi (.idx (.v 7) (.c (.int 0))) (.lst [.c (.str "face"),.c (.str "share"),.c (.str "lot")])) [.ret (.c (.str "BadOutcome"))] [],.asg (.nm 9) (.bin .sub (.c (.int 0)) (.c (.int 1))),.JV (.cmp .eq (.idx (.v 7) (.c (.int 0))) (.c (.str "share"))) [.Kl (.tp [.nm 10,.nm 11]) (.val (.idx (.v 7) (.c (.int 2)))) OV] []]
def Il (hB:B<=4000)(n:Nat)(gn:È)(s0 s2 s3 s4 s5 s6 s7 b s9 La LS:Å){cs:List Gc}(h:∀c∈cs,c.ok B):Hm Θ (cs.findSome? (cF gn)) (forM (turn (dj T (n+2)) (.nm 8) UQ) (cs.map Gc.d) [s0,Δ (.lst Ξ (gn.map .str)),s2,s3,s4,s5,s6,s7,b,s9,La,LS]) (λτ=>∃x,τ=[s0,Δ (.lst Ξ (gn.map .str)),s2,s3,s4,s5,s6,s7,x,s9,La,LS]):=by
 refine o6 Gc.d (cF gn) _ cs _ ⟨b,rfl⟩ ?_;rintro c hc τ ⟨b,rfl⟩;have e:=(c_v hB gn (h c hc)).l n Ξ;have ec:=zw (h c hc);have eg:=jk gn;have ee:(Ρ "" == Ρ "")=Θ:=∅
 unfold UQ;generalize c.d=C,gn.map D.str=GN at *;cases hF:cF gn c with
 |none=>rw[hF]at e;have e:dj T (n+2) 46 [C,.lst Ξ GN]=.ok (.str ""):=e;refine⟨_,?_,Δ C,rfl⟩;simp![iq,ec,eg,e,ee]
 |some x=>have hx:=Ck x (Cm hF);rw[hF]at e;have e:dj T (n+2) 46 [C,.lst Ξ GN]=.ok (.str x):=e;show _=Except.ok (Fl.rt (.str x));simp![iq,ec,eg,e,hx]
def Im (hB:B<=4000)(n:Nat)(gn:È)(s0 s2 s3 s4 s5 s6 s7 s8 s9 La LS:Å){rs:List Gl}(h:∀r∈rs,r.ok B):Hm Θ (rs.findSome? (o7 gn)) (forM (turn (dj T (n+2)) (.tp [.nm 6,.nm 7]) VU) (rs.map Gl.d) [s0,Δ (.lst Ξ (gn.map .str)),s2,s3,s4,s5,s6,s7,s8,s9,La,LS]) (λτ=>∃x6 x7 x8 x9 x10 Mm,τ=[s0,Δ (.lst Ξ (gn.map .str)),s2,s3,s4,s5,x6,x7,x8,x9,x10,Mm]):=by
 refine o6 Gl.d (o7 gn) _ rs _ ⟨s6,s7,s8,s9,La,LS,rfl⟩ ?_;rintro r hr τ ⟨s6,s7,s8,s9,La,LS,rfl⟩;have hr:=h r hr;have ho:=hr.o;have e2:=Il hB n gn s0 s2 s3 s4 s5 (Δ (.lst Ξ (r.cs.map Gc.d))) (Δ r.o.d) s8 s9 La LS hr.c;have eo:=o8 hr.o;have ew:=lR hr.c;show Hm Θ ((r.cs.findSome? (cF gn)).or (outF r.o)) (turn (dj T (n+2)) (.tp [.nm 6,.nm 7]) VU (.tup [.lst Ξ (r.cs.map Gc.d),r.o.d]) _) _;unfold VU;generalize r.cs.map Gc.d=CS,gn.map D.str=GN,UQ=tli at *;cases hF:r.cs.findSome? (cF gn) with
 |some c=>rw[hF]at e2;have e2:forM _ _ _=Except.ok (Fl.rt (.str c)):=e2;show _=Except.ok (Fl.rt (.str c));generalize r.o.d=O at *;simp![iq,eo,ew,e2]
 |none=>
  rw[hF]at e2;obtain⟨_,e2,x,rfl⟩:=e2;show Hm Θ (outF r.o) _ _;generalize r.o=o at *;obtain⟨y,x0,xe,_,xa,xs⟩:=Cj ho;cases o with
  |odd a b=>show _=Except.ok (Fl.rt (.str "BadOutcome"));generalize Go.d (.odd a b)=O at *;simp![iq,eo,ew,e2,x0,xa,NT]
  |face f=>have xs:=xs rfl;generalize Go.d (.face f)=O at *;refine⟨[s0,Δ (.lst Ξ GN),s2,s3,s4,s5,Δ (.lst Ξ CS),Δ O,x,Δ (.int (0 - 1)),La,LS],?_,_,_,_,_,_,_,rfl⟩;simp![iq,eo,ew,e2,x0,xa,xs,NT]
  |MD=>have xs:=xs rfl;generalize Go.d .MD=O at *;refine⟨[s0,Δ (.lst Ξ GN),s2,s3,s4,s5,Δ (.lst Ξ CS),Δ O,x,Δ (.int (0 - 1)),La,LS],?_,_,_,_,_,_,_,rfl⟩;simp![iq,eo,ew,e2,x0,xa,xs,NT]
  |share f sg=>
   have xs:=xs rfl;have x2:iO (Go.d (.share f sg)) (.int 2)=.ok (.lst Ξ (sg.map JH)):=rfl;have e:=G8 (dj T (n+2)) s0 (Δ (.lst Ξ GN)) s2 s3 s4 s5 (Δ (.lst Ξ CS)) (Δ (Go.d (.share f sg))) x sg (0 - 1) La LS;have ep:=rW sg;show Hm Θ (MM (0 - 1) sg) _ _;generalize Go.d (.share f sg)=O,sg.map JH=SG,OV=tls at *;cases hS:MM (0 - 1) sg with
   |none=>rw[hS]at e;obtain⟨_,e,a,b,c,rfl⟩:=e;refine⟨[s0,Δ (.lst Ξ GN),s2,s3,s4,s5,Δ (.lst Ξ CS),Δ O,x,a,b,c],?_,_,_,_,_,_,_,rfl⟩;simp![iq,eo,ew,e2,x0,x2,xa,xs,ep,e,NT]
   |some c=>rw[hS]at e;have e:forM _ _ _=Except.ok (Fl.rt (.str c)):=e;show _=Except.ok (Fl.rt (.str c));simp![iq,eo,ew,e2,x0,x2,xa,xs,ep,e,NT]
def Io (hB:B<=4000)(n:Nat)(gn:È)  (h:g.ok B):dj T (n+3) 47 [g.d,.lst Ξ (gn.map .str)]=.ok (.str ((Nx gn g).getD "")):=by
 have e2:=Im hB n gn (Δ g.d) (Δ g.s) (Δ (.str g.r)) (Δ (.lst Ξ (g.rs.map Gl.d))) (Δ g.a) Φ Φ Φ Φ Φ Φ h.rs;have N6:=k9 h.rs;have VT:=uT h;have es:=jm 2 _ h.ps;have ea:=jm 6 _ h.a;have hs:=h.s;have PD:g.d=.tup [g.s,.str g.r,.lst Ξ (g.rs.map Gl.d),g.a]:=rfl;unfold Nx Qh;unfold VU UQ OV at e2;rw[PD]at e2 VT ⊢;clear PD;generalize g.rs.map Gl.d=RS,gn.map D.str=GN,g.s=SC,g.a=AL at *;cases q:jE .str SC with
 |false=>
  have hx:=EE hs;have:K4 "abcdefghijklmnopqrstuvwxyz" 1 12 SC=Ξ:=by cases SC<;>first|rfl|cases q
  rw[this];show _=Except.ok (D.str "NoSalt");rw[gx 47 Qf 2 12 NO rfl];unfold NO;simp![q,hx,es,ea,N6]
 |true=>
  obtain⟨x,rfl⟩:∃x,SC=.str x:=by cases SC<;>first|exact⟨_,rfl⟩|cases q
  obtain⟨cs,rfl⟩:∃cs,x=JC cs:=⟨_,(qI x).symm⟩
  have e1:iz (iF (dj T (n+2)) (.nm 0) [] (.cmp .Mi (.v 0) (.c (.str "abcdefghijklmnopqrstuvwxyz"))) [Φ]) (jo (JC cs))=.ok ((cs.map λc=>!jz "abcdefghijklmnopqrstuvwxyz" (one c)).map .bl):=by rw[jD,K_];refine i4 (λc:Nat=>D.str (one c)) (λc=>!jz "abcdefghijklmnopqrstuvwxyz" (one c)) .bl _ λc hc=>?_;simp![Jq]
  have al:(cs.map λc=>!jz "abcdefghijklmnopqrstuvwxyz" (one c)).any id = !i6 "abcdefghijklmnopqrstuvwxyz" (JC cs):=by unfold i6;rw[List.any_map,nU];exact(List.not_all_eq_any_not ..).symm
  have lc:(jo (JC cs)).length=cs.length:=by rw[jD,i_,i_]
  have sl:=i5 cs;have s9:(JC cs).length<=1000:=l_ hs;rw[show K4 "abcdefghijklmnopqrstuvwxyz" 1 12 (.str (JC cs))=(decide ((1:Int)<=(((JC cs).length:Nat):Int))&&decide ((((JC cs).length:Nat):Int)<=12)&&i6 "abcdefghijklmnopqrstuvwxyz" (JC cs)) from rfl];generalize(cs.map λc=>!jz "abcdefghijklmnopqrstuvwxyz" (one c))=BS,i6 "abcdefghijklmnopqrstuvwxyz" (JC cs)=bb at *;cases d0:decide ((1:Int)<=(((JC cs).length:Nat):Int)) with
  |false=>show _=Except.ok (D.str "NoSalt");rw[gx 47 Qf 2 12 NO rfl];unfold NO;simp![d0,ea,N6]
  |true=>
   cases d1:decide ((((JC cs).length:Nat):Int)<=12) with
   |false=>show _=Except.ok (D.str "NoSalt");rw[gx 47 Qf 2 12 NO rfl];unfold NO;simp![d0,d1,ea,N6]
   |true=>
    cases bb with
    |false=>show _=Except.ok (D.str "NoSalt");rw[gx 47 Qf 2 12 NO rfl];unfold NO;simp![d0,d1,ea,N6,e1,lc,oR,al]
    |true=>
     cases hR:g.rs.findSome? (o7 gn) with
     |none=>rw[hR]at e2;obtain⟨_,e2,x6,x7,x8,x9,x10,Mm,rfl⟩:=e2;show _=Except.ok (D.str "");rw[gx 47 Qf 2 12 NO rfl];unfold NO;simp![d0,d1,ea,N6,e1,lc,oR,al,e2]
     |some c=>rw[hR]at e2;have e2:forM _ _ _=Except.ok (Fl.rt (.str c)):=e2;show _=Except.ok (D.str c);rw[gx 47 Qf 2 12 NO rfl];unfold NO;simp![d0,d1,ea,N6,e1,lc,oR,al,e2]
def Hb (h:iD cl body τ=.error (.exc c))(hc:cs.contains c=Θ)
  (hh:iD cl hb ((Τ τ.length Φ).set i (Δ (.exc c)))=.ok (.nx τ')):K1 cl (.Mv body n cs i hb) τ=.ok (.nx (τ'.set i Φ)):=by
 rw[K1,h];show JA (cs.contains c) _=_;rw[hc,hh];rfl
abbrev N7 (c:Str):Ð:=(["BadOutcome","BadShare","BadStage","BadThings","NoGroup","NoRule","NoSalt","NoSwitch","NoWord","Ringed","Twice","Unlike"].map λx:String=>D.bl (Ρ x == c))++[.bl Θ]
abbrev cNM:È:=["NoSalt","NoWord","NoGroup","BadThings","BadOutcome","BadStage"]
def uV (n:Nat)  (h:c∈NM):iD (dj T n) hB [Φ,Φ,Φ,Δ (.exc c)]=.ok (.nx [Φ,Φ,Δ (.lst Θ (N7 c)),Δ (.exc c)])/\cNM.contains c=Θ/\dj T (n+1) 61 [.str c]=.ok (.lst Θ (N7 c))/\Ke 40 (.lst Θ (N7 c)) (.lst Θ (N7 c))=.ok Θ/\jg (N7 c)=Θ:=by unfold NM at h;simp only[k_,O_,or_false]at h;rcases h with rfl|rfl|rfl|rfl|rfl|rfl<;>exact⟨by kernel_rfl,∅,by kernel_rfl,by kernel_rfl,by kernel_rfl⟩
def zF (n:Nat)  (h:c∈NM)(ha:er A=A)(hb:er B=B)(e:dj T (n+1) 39 [A,B]=.error (.exc c)):dj T (n+2) 60 [A,B]=.ok (.lst Θ (N7 c)):=by
 obtain⟨h1,h2,_⟩:=uV (n+1) h;have h2:(["NoSalt","NoWord","NoGroup","BadThings","BadOutcome","BadStage"]:È).contains c=Θ:=h2;have e1:iD (dj T (n+1)) [.exp (.call 39 [.v 0,.v 1])] [Δ A,Δ B,Δ (.lst Θ []),Φ]=.error (.exc c):=by simp![ha,hb,e]
 have e2:K1 (dj T (n+1)) (.Mv [.exp (.call 39 [.v 0,.v 1])] 78 ["NoSalt","NoWord","NoGroup","BadThings","BadOutcome","BadStage"] 3 hB) [Δ A,Δ B,Δ (.lst Θ []),Φ]=.ok (.nx [Φ,Φ,Δ (.lst Θ (N7 c)),Φ]):=Hb (c:=c) (τ':=[Φ,Φ,Δ (.lst Θ (N7 c)),Δ (.exc c)]) e1 h2 h1;rw[gx 60 Yh 2 4 Yg rfl];unfold Yg;generalize hB=Nj,N7 c=M at *;simp![e2]
def tJ (h0:0<=i)(h1:i < ds.length):∃d,iO (.lst o ds) (.int i)=.ok d/\d∈ds:=by
 have hl:i.toNat < ds.length:=⋯
 refine⟨ds[i.toNat],?_,aai _⟩;have h:Kv ds.length i=Δ i.toNat:=by unfold Kv;rw[h_ h0,h_ h1]
 unfold iO;simp only[KQ,h,Option.bind_some,C_ hl]
abbrev Ip:Ð:=[.str "face",.str "share",.str "lot"]
abbrev okB:Res Bool->Bool
 |.ok b=>!b
 |_=>Ξ
def Hd (h:okB r=Θ):r=.ok Ξ:=by
 cases r with
 |error _=>cases h
 |ok b=>cases b<;>first|rfl|cases h
abbrev ioN:D->Bool
 |.str w=>!NR w
 |_=>Θ
abbrev UR (d:D):Bool:=(tm d&&pl 2 d&&okB (Kb d Ip))&&ioN d
abbrev VV:Ð:=[.JF,.int 7,.bl Θ,.str "",.str "Is",.str "is ",.str "face.",.str "ab1",.str "A",.lst Θ [.str "is"],.tup [.str "lot",.str "lot"],.str "abcdefghijklm",.str "lots",.lst Θ [],.int 0]
def EI:VV.all (λd=>UR (er d))=Θ:=∅
def He (h:iw d=Θ):er d=d:=by have:=jJ (ds:=[d]) (by show(iw d&&Θ)=Θ;rw[h];rfl);rw[Jz]at this;injection this
def BB (e:IR)(hn:iL e=Ξ)(d:D)(τ:Ev):∃τ',iJ e d τ=(er d,τ'):=by
 unfold iJ;by_cases h:iw d=Θ
 ·rw[h_ h,He h];exact⟨_,rfl⟩
 ·rw[f_ h,hn];cases d<;>exact⟨_,rfl⟩
def tK (n:Nat)(ns:Ë)  (h0:0<=k)(h1:k<=4000):∃d,dj T (n+2) 42 [.lst Ξ (ns.map .int),.int k]=.ok d/\UR d=Θ:=by have d1:=iR n ns k 15 h0 ⋯ nofun;have ei:=ja ns;obtain⟨d,ix,hd⟩:=tJ (o:=Θ) (ds:=VV) (ki ns k (m:=15) nofun) (by have:=kA ns k (m:=15) nofun;exact this);generalize dr ns k 15=q at *;refine⟨er d,?_,z_.mp EI d hd⟩;obtain⟨τ',kq⟩:=BB (.idx (.v 2) (.call 43 [.v 0,.v 1,.c (.int 15)])) rfl d [Δ (.lst Ξ (ns.map .int)),Δ (.int k),Δ (.lst Θ VV)];have hL:VV=[.JF,.int 7,.bl Θ,.str "",.str "Is",.str "is ",.str "face.",.str "ab1",.str "A",.lst Θ [.str "is"],.tup [.str "lot",.str "lot"],.str "abcdefghijklm",.str "lots",.lst Θ [],.int 0]:=rfl;rw[hL]at ix kq;generalize ns.map D.int=NS at *;rw[gx 42 Yf 2 3 Ye rfl];unfold Ye;simp![ei,d1,ix,kq]
def kO (h:km cl c b p=.ok (Δ p')):jS cl c (b::bs) k p=jS cl c bs k p':=by show II (km cl c b p) _=_;rw[h];rfl
def Co (h:km cl c b (τ,ko)=.ok Φ)(hd:ic τ 2=Δ d):jS cl c (b::bs) k (τ,ko)=.ok d:=by show II (km cl c b (τ,ko)) _=_;rw[h];show early (τ,ko)=_;unfold early;show(match ic τ 2 with|some d=>Except.ok d|none=>JE)=_;rw[hd]
def o9 (h:IV cl e τ=.ok d)(g:(iw d||jA τ (vars e))=Θ):km cl c (.KP i e) (τ,ko)=.ok (Δ (τ.set i (Δ (er d)),ko)):=by show II (IV cl e τ) _=_;rw[h];show JA (iw d||jA τ (vars e)) _=_;rw[g];rfl
def Cp {rows:Ð}(h:IV cl e τ=.ok (.int z))(hr:ic τ 2=Δ (.lst Θ rows))(hk:Kv rows.length z=Δ k)(hd:rows[k]? = Δ (.tup [.lst Θ cs,d]))(hj:nG τ c=Θ):km cl c (.row o e) (τ,ko)=.ok (Δ ((τ.set c (Δ (.lst Θ cs))).set o (Δ d),Δ k)):=by show II (IV cl e τ) (Ay c o (τ,ko) (ic τ 2))=_;rw[h,hr];show(match Kv rows.length z with|some k=>ue c o (τ,ko) k rows[k]?|none=>JE)=_;rw[hk];show ue c o (τ,ko) k rows[k]? = _;rw[hd];show JA (nG τ c) _=_;rw[hj];rfl
def EJ (h:IV cl e τ=.ok (.int z))(hr:ic τ i=Δ (.lst Θ ds))(hk:Kv ds.length z=Δ k)(hd:ds[k]? = Δ d)(hs:jq tg d τ=.ok τ'):km cl c (.item tg i e) (τ,ko)=.ok (Δ (τ',ko)):=by show II (IV cl e τ) (Ax tg (τ,ko) (ic τ i))=_;rw[h,hr];show(match(Kv ds.length z).bind (ds[·]?) with|some d=>II (jq tg d τ) λτ'=>.ok (Δ (τ',ko))|none=>JE)=_;rw[hk];show(match ds[k]? with|some d=>II (jq tg d τ) λτ'=>.ok (Δ (τ',ko))|none=>JE)=_;rw[hd];show II (jq tg d τ) _=_;rw[hs];rfl
def Cq (h:ND cl t τ=.ok b):km cl c (.NF t) (τ,ko)=.ok (if b=Θ then Φ else Δ (τ,ko)):=by show II (ND cl t τ) _=_;rw[h];rfl
def BC {rows:Ð}(h:IV cl e τ=.ok d)(hs:IV cl s τ=.ok (.int z))(hr:ic τ 2=Δ (.lst Θ rows))(hd:rows[k]? = Δ (.tup [.lst Θ cs,o]))(hm:Kv cs.length z=Δ m)(g:(iw d||jA τ (vars e))=Θ)(g1:iE cs=Θ)(g2:jH o=Θ) :
  j8 cl c (.wa s e) (τ,Δ k)=.ok (.lst Θ (rows.set k (.tup [.lst Θ (cs.set m (er d)),o]))):=by
 show II (IV cl e τ) (λd=>II (IV cl s τ) λj=>RM (τ,Δ k) e d j (ic τ 2))=_;rw[h];show II (IV cl s τ) (λj=>RM (τ,Δ k) e d j (ic τ 2))=_;rw[hs,hr];show WO rows k (.int z) (er d) (iw d||jA τ (vars e)) rows[k]? = _;rw[hd,g];show(match Kv cs.length z with|some m=>JA (Θ&&iE cs&&jH o) (.ok (D.lst Θ (rows.set k (.tup [.lst Θ (cs.set m (er d)),o]))))|none=>JE)=_;rw[hm,g1,g2];rfl
def Hf {rows:Ð}(h:IV cl e τ=.ok d)(hs:IV cl a τ=.ok (.int z))(hr:ic τ 2=Δ (.lst Θ rows))(hk:Kv rows.length z=Δ k)(hd:rows[k]? = Δ (.tup [.lst Θ cs,o]))(g:(iw d||jA τ (vars e))=Θ)(g1:iE cs=Θ)(g2:jH o=Θ) :
  j8 cl c (.wb a e) (τ,Δ k)=.ok (.lst Θ (rows.set k (.tup [.lst Θ cs,er d]))):=by
 show II (IV cl e τ) (λd=>II (IV cl a τ) λj=>RP (τ,Δ k) e d j (ic τ 2))=_;rw[h];show II (IV cl a τ) (λj=>RP (τ,Δ k) e d j (ic τ 2))=_;rw[hs,hr];show WQ rows k (er d) ((iw d||jA τ (vars e))&&decide (Kv rows.length z=Δ k)) rows[k]? = _;rw[hd,g,y_ hk];show JA (Θ&&iE cs&&jH o) _=_;rw[g1,g2];rfl
def UT (h:ND cl t τ=.ok Θ):j8 cl c (.ch t pre x y) (τ,ko)=jS cl c pre (j8 cl c x) (τ,ko):=by show II (ND cl t τ) _=_;rw[h];rfl
def PF (h:ND cl t τ=.ok Ξ):j8 cl c (.ch t pre x y) (τ,ko)=j8 cl c y (τ,ko):=by show II (ND cl t τ) _=_;rw[h];rfl
def Hg {rows:Ð}(h:iG cl es τ=.ok as)(h2:iG cl es2 τ=.ok bs)(hr:ic τ 2=Δ (.lst Θ rows))(g:jA τ (ie es++ie es2)=Θ)(hc:cl f (Jz as++.lst Θ rows::Jz bs)=.ok (.tup [.JF,.lst Θ rows'])):j8 cl c (.sub f es es2) (τ,ko)=.ok (.lst Θ rows'):=by show II (iG cl es τ) (λas=>II (iG cl es2 τ) λbs=>vG cl f as bs (jA τ (ie es++ie es2)) (ic τ 2))=_;rw[h];show II (iG cl es2 τ) (λbs=>vG cl f as bs (jA τ (ie es++ie es2)) (ic τ 2))=_;rw[h2,hr];show JA (jA τ (ie es++ie es2)) (II (Lv (cl f (Jz as++.lst Θ rows::Jz bs))) Dg)=_;rw[g,hc];rfl
def mG:∀(n:Nat) (d:D),pl n d=Θ->jH d=Θ:=by
 intro n
 induction n with
 |zero=>intro d h;cases d<;>cases h
 |succ n ih=>
  have all:∀ds:Ð,Kh n ds=Θ->iE ds=Θ:=by
   intro ds
   induction ds with
   |nil=>intro _;rfl
   |cons d ds ihd=>intro hp;have hp:=s_.mp (show(pl n d&&Kh n ds)=Θ from hp);show(jH d&&iE ds)=Θ;rw[ih d hp.1,ihd hp.2];rfl
  intro d h;cases d with
  |tup ds=>exact all ds (s_.mp (show(Kh n ds&&decide (ds.length < 4000))=Θ from h)).1
  |lst o ds=>have h0:=s_.mp (show(!o&&(Kh n ds&&decide (ds.length < 4000)))=Θ from h);show(!o&&iE ds)=Θ;rw[h0.1,all ds (s_.mp h0.2).1];rfl
  |exc _=>cases h
  |_=>rfl
theorem mH:∀ {ds:Ð},Kh n ds=Θ->iE ds=Θ
 |[],_=>rfl
 |d::ds,h=>by have hp:=s_.mp (show(pl n d&&Kh n ds)=Θ from h);show(jH d&&iE ds)=Θ;rw[mG n d hp.1,mH hp.2];rfl
abbrev Gl.t (r:Gl):D:=.tup [.lst Θ (r.cs.map Gc.d),r.o.d]
def BD {c:Gc}(h:c.ok B):jH c.d=Θ:=by show(jH c.w&&(iE c.ts&&Θ))=Θ;rw[mG 2 _ h.pw,mH h.pt];rfl
theorem pf:∀ {cs:List Gc},(∀c∈cs,c.ok B)->iE (cs.map Gc.d)=Θ
 |[],_=>rfl
 |c::cs,h=>by show(jH c.d&&iE (cs.map Gc.d))=Θ;rw[BD (h c (.head _)),pf λx hx=>h x (.tail _ hx)];rfl
theorem nq:∀ns:Ë,iE (ns.map D.int)=Θ
 |[]=>rfl
 |i::ns=>nq ns
theorem rX:∀sg:À,iE (sg.map JH)=Θ
 |[]=>rfl
 |p::sg=>rX sg
def uW {o:Go}(h:o.ok):jH o.d=Θ:=by
 cases o with
 |odd x r=>show(jH x&&iE r)=Θ;rw[mG 2 _ h.2.1,mH h.2.2.1];rfl
 |share f sg=>show(iE (sg.map JH)&&Θ)=Θ;rw[rX];rfl
 |_=>rfl
def Gc.ok.mono {c:Gc}(h:c.ok B)(l:B<=B'):c.ok B':=⟨h.r,h.w,h.pw,h.t,h.pt,N_ h.l l⟩
theorem Gl.ok.mono {r:Gl}(h:r.ok B)(l:B<=B'):r.ok B':=⟨λc hc=>(h.c c hc).mono l,h.l,h.o⟩
def Hh {rs:List Gl}{r:Gl}  : (rs.map Gl.t).set a (.tup [.lst Θ ((r.cs.map Gc.d).set m c.d),r.o.d])=(rs.set a ⟨r.cs.set m c,r.o⟩).map Gl.t:=by rw[List.map_set];show _=(rs.map Gl.t).set a (.tup [.lst Θ ((r.cs.set m c).map Gc.d),r.o.d]);rw[List.map_set]
def Iq {rs:List Gl}(h:∀r∈rs,r.ok B){r:Gl}(hr:r∈rs)  {c:Gc}(hc:c.ok B):∀x∈rs.set a ⟨r.cs.set m c,r.o⟩,x.ok B:=λx hx=>by
 rcases List.mem_or_eq_of_mem_set hx with hx|rfl
 ·exact h x hx
 ·refine⟨λy hy=>?_,?_,(h r hr).o⟩
  ·rcases List.mem_or_eq_of_mem_set hy with hy|rfl
   ·exact(h r hr).c y hy
   ·exact hc
  ·show(r.cs.set m c).length<=10;rw[List.length_set];exact(h r hr).l
def zG (h:k < n):Kv n (k:Nat)=Δ k:=by unfold Kv;rw[h_ ⋯,h_ ⋯];simp
theorem uX:∀ {xs ys:Ð},Kh n xs=Θ->Kh n ys=Θ->Kh n (xs++ys)=Θ
 |[],ys,_,h=>h
 |x::xs,ys,h,h2=>by have hp:=s_.mp (show(pl n x&&Kh n xs)=Θ from h);show(pl n x&&Kh n (xs++ys))=Θ;rw[hp.1,uX hp.2 h2];rfl
def ph (h:∀d∈ds,pl n d=Θ):Kh n ds=Θ:=by
 induction ds with
 |nil=>rfl
 |cons d ds ih=>show(pl n d&&Kh n ds)=Θ;rw[h d (.head _),ih λx hx=>h x (.tail _ hx)];rfl
abbrev L6:Ð:=[.bl Θ,.JF,.int 1000000000,.str "abcdefghi",.str "A",.lst Θ [.int 1]]
def Hk:L6.all (λd=>tm (er d)&&pl 2 (er d))=Θ:=∅
def nog:(reprText (Ρ "nogroups")).length<=1000:=∅
def EK (n:Nat)(ns:Ë)  (k0:0<=k)(k1:k<=3900)  (hB:11*B+2<=4000){rs:List Gl}(h:∀r∈rs,r.ok B)  (ha:a < rs.length) :
  ∃J9:List Gl,dj T (n+4) 55 [.lst Ξ (ns.map .int),.int k,.lst Θ (rs.map Gl.t),.int (a:Nat)]=.ok (.tup [.JF,.lst Θ (J9.map Gl.t)])/\(∀r∈J9,r.ok (11*B+2))/\J9.length=rs.length:=by
 suffices hs:∃J9:List Gl,jS (dj T (n+3)) 4 tw.pre (j8 (dj T (n+3)) 4 tw.en) ([Δ (.lst Ξ (ns.map .int)),Δ (.int k),Δ (.lst Θ (rs.map Gl.t)),Δ (.int (a:Nat)),Φ,Φ,Φ,Φ,Φ,Φ,Φ,Φ],Φ)=.ok (.lst Θ (J9.map Gl.t))/\(∀r∈J9,r.ok (11*B+2))/\J9.length=rs.length by obtain⟨J9,e,h1,h2⟩:=hs;refine⟨J9,?_,h1,h2⟩;rw[goI (show T 55=Δ Rk from rfl) (show Rk.io=Θ from rfl) (show Rk.np=4 from rfl) (show Rk.G.N.length=12 from rfl) (show Rk.KY=tw from rfl) rfl];show II (jS (dj T (n+3)) 4 tw.pre (j8 (dj T (n+3)) 4 tw.en) ([Δ (.lst Ξ (ns.map .int)),Δ (.int k),Δ (.lst Θ (rs.map Gl.t)),Δ (.int (a:Nat)),Φ,Φ,Φ,Φ,Φ,Φ,Φ,Φ],Φ)) _=_;rw[e];rfl
 have hm:=λ(r:Gl) hr=>(h r hr).mono (show B<=11*B+2 by omega);obtain⟨r,QZ⟩:∃r,rs[a]? = Δ r:=⟨_,C_ ha⟩
 have hr:=Y_ QZ;have Qi:=h r hr;have PH:(rs.map Gl.t)[a]? = Δ (.tup [.lst Θ (r.cs.map Gc.d),r.o.d]):=by rw[D_,QZ];rfl
 have UU:Kv (rs.map Gl.t).length (a:Nat)=Δ a:=zG (by rw[i_];exact ha);have ei:=ja ns;have e1:km (dj T (n+3)) 4 (.row 5 (.v 3)) ([Δ (.lst Ξ (ns.map .int)),Δ (.int k),Δ (.lst Θ (rs.map Gl.t)),Δ (.int (a:Nat)),Φ,Φ,Φ,Φ,Φ,Φ,Φ,Φ],Φ)=.ok (Δ ([Δ (.lst Ξ (ns.map .int)),Δ (.int k),Δ (.lst Θ (rs.map Gl.t)),Δ (.int (a:Nat)),Δ (.lst Θ (r.cs.map Gc.d)),Δ r.o.d,Φ,Φ,Φ,Φ,Φ,Φ],Δ a)):=Cp (z:=(a:Nat)) rfl rfl UU PH rfl;have en:=mF (f:=Ke 39) (r.cs.map Gc.d)
 have e2:=Cq (cl:=dj T (n+3)) (c:=4) (ko:=Δ a) (t:=.cmp .eq (.v 4) (.lst [])) (τ:=[Δ (.lst Ξ (ns.map .int)),Δ (.int k),Δ (.lst Θ (rs.map Gl.t)),Δ (.int (a:Nat)),Δ (.lst Θ (r.cs.map Gc.d)),Δ r.o.d,Φ,Φ,Φ,Φ,Φ,Φ]) (b:=(r.cs.map Gc.d).isEmpty) (by
  generalize r.cs.map Gc.d=CS at *
  simp![en])
 unfold tw;dsimp only;rw[kO e1];cases PJ:(r.cs.map Gc.d).isEmpty with
 |true=>rw[PJ]at e2;exact⟨rs,Co e2 rfl,hm,rfl⟩
 |false=>
  rw[PJ]at e2;rw[kO e2];have hc0:0 < r.cs.length:=by
   cases q:r.cs with
   |nil=>rw[q]at PJ;cases PJ
   |cons _ _=>simp
  obtain⟨q,d1,q0,q1⟩:=L4 (n+2) ns k (r.cs.length:Int) k0 ⋯ ⋯;obtain⟨m,rfl⟩:∃m:Nat,q=(m:Nat):=⟨q.toNat,⋯⟩
  have hmc:m < r.cs.length:=⋯
  obtain⟨c,LC⟩:∃c,r.cs[m]? = Δ c:=⟨_,C_ hmc⟩
  have hc:=Qi.c c (Y_ LC);have hdm:(r.cs.map Gc.d)[m]? = Δ (.tup [.str c.m,c.w,.lst Ξ c.ts]):=by rw[D_,LC];rfl
  have UW:Kv (r.cs.map Gc.d).length (m:Nat)=Δ m:=zG (by rw[i_];exact hmc);have lc:(r.cs.map Gc.d).length=r.cs.length:=i_ _;have aeV:=Qi.l;obtain⟨w,d2,w0,w1⟩:=L4 (n+2) ns (k+1) 4 ⋯ ⋯ nofun;have nC:=pf Qi.c;have nO:=uW Qi.o;have nW:=mG 2 _ hc.pw;have nT:=mH hc.pt;have eW:=jm 2 _ hc.pw;have eT:=lQ hc.pt;have lT:=hc.l;have nN:=nq ns
  -- a SH in Of place of VW
  have fin:∀(c':Gc) (d:D),er d=c'.d->c'.ok (11*B+2)->∃J9:List Gl,(Except.ok (D.lst Θ ((rs.map Gl.t).set a (.tup [.lst Θ ((r.cs.map Gc.d).set m (er d)),r.o.d]))):Res D)=.ok (.lst Θ (J9.map Gl.t))/\(∀r∈J9,r.ok (11*B+2))/\J9.length=rs.length:=λc' d hd Mo=>⟨rs.set a ⟨r.cs.set m c',r.o⟩,by rw[hd,Hh],Iq hm hr Mo,List.length_set⟩
  generalize hRT:rs.map Gl.t=RT at *;generalize hCT:r.cs.map Gc.d=CT,r.o.d=O at *;have d3:=iR (n+2) ns (k+2) 2 ⋯ ⋯ nofun;have d4:=iR (n+2) ns (k+3) 2 ⋯ ⋯ nofun;have d6:=iR (n+2) ns (k+2) 6 ⋯ ⋯ nofun;have d5:=iR (n+2) ns (k+2) 3 ⋯ ⋯ nofun;obtain⟨od,Rr,Na⟩:=tK (n+1) ns (k:=k+2) ⋯ ⋯;have a1:=ki ns (k+2) (m:=2) nofun;have a2:=kA ns (k+2) (m:=2) nofun;have a3:=ki ns (k+3) (m:=2) nofun;have a4:=kA ns (k+3) (m:=2) nofun;have a5:=ki ns (k+2) (m:=6) nofun;have a6:=kA ns (k+2) (m:=6) nofun;have a7:=ki ns (k+2) (m:=3) nofun;have a8:=kA ns (k+2) (m:=3) nofun;generalize dr ns (k+2) 2=v2,dr ns (k+3) 2=v3,dr ns (k+2) 6=v6,dr ns (k+2) 3=v5,ns.map D.int=NS at *;have e3:km (dj T (n+3)) 4 (.KP 6 (.call 43 [.v 0,.v 1,.bi .len [.v 4]])) ([Δ (.lst Ξ NS),Δ (.int k),Δ (.lst Θ RT),Δ (.int (a:Nat)),Δ (.lst Θ CT),Δ O,Φ,Φ,Φ,Φ,Φ,Φ],Δ a)=.ok (Δ ([Δ (.lst Ξ NS),Δ (.int k),Δ (.lst Θ RT),Δ (.int (a:Nat)),Δ (.lst Θ CT),Δ O,Δ (.int (m:Nat)),Φ,Φ,Φ,Φ,Φ],Δ a)):=o9 (d:=.int (m:Nat)) (by simp![ei,d1,lc]) rfl;have e4:km (dj T (n+3)) 4 (.item (.tp [.nm 7,.nm 8,.nm 9]) 4 (.v 6)) ([Δ (.lst Ξ NS),Δ (.int k),Δ (.lst Θ RT),Δ (.int (a:Nat)),Δ (.lst Θ CT),Δ O,Δ (.int (m:Nat)),Φ,Φ,Φ,Φ,Φ],Δ a)=.ok (Δ ([Δ (.lst Ξ NS),Δ (.int k),Δ (.lst Θ RT),Δ (.int (a:Nat)),Δ (.lst Θ CT),Δ O,Δ (.int (m:Nat)),Δ (.str c.m),Δ c.w,Δ (.lst Ξ c.ts),Φ,Φ],Δ a)):=EJ (z:=(m:Nat)) rfl rfl UW hdm rfl;have e5:km (dj T (n+3)) 4 (.KP 10 (.call 43 [.v 0,.bin .add (.v 1) (.c (.int 1)),.c (.int 4)])) ([Δ (.lst Ξ NS),Δ (.int k),Δ (.lst Θ RT),Δ (.int (a:Nat)),Δ (.lst Θ CT),Δ O,Δ (.int (m:Nat)),Δ (.str c.m),Δ c.w,Δ (.lst Ξ c.ts),Φ,Φ],Δ a)=.ok (Δ ([Δ (.lst Ξ NS),Δ (.int k),Δ (.lst Θ RT),Δ (.int (a:Nat)),Δ (.lst Θ CT),Δ O,Δ (.int (m:Nat)),Δ (.str c.m),Δ c.w,Δ (.lst Ξ c.ts),Δ (.int w),Φ],Δ a)):=o9 (d:=.int w) (by simp![ei,d2]) rfl;rw[kO e3,kO e4,kO e5,dn];have hw4:w=0∨w=1∨w=2∨w=3:=⋯
  rcases hw4 with rfl|rfl|rfl|rfl
  ·rw[UT rfl,dn];simp only[UR,d_]at Na;have eo:=jm 2 _ Na.1.1.2;rw[BC (d:=.tup [.str c.m,od,.lst Ξ c.ts]) (z:=(m:Nat)) (by simp![ei,Rr]) rfl rfl PH UW (by rw[J_];refine .inr ?_;show(Θ&&((!Ξ&&iE NS)&&(Θ&&((!Ξ&&iE c.ts)&&Θ))))=Θ;rw[nN,nT];rfl) nC nO];exact fin ⟨c.m,od,c.ts⟩ _ (by show D.tup [.str c.m,er od,.lst Ξ (Jz c.ts)]=_;rw[eo,eT];rfl) ⟨λx hx hi=>(by have hn:=Na.2;rw[show od=.str x from hx]at hn;have hn:(!NR x)=Θ:=hn;rw[hi]at hn;cases hn),Na.1.1.1,Na.1.1.2,hc.t,hc.pt,by show c.ts.length<=_;omega⟩
  ·rw[PF rfl,UT rfl,dn];obtain⟨W,iW,hW⟩:∃W:Str,iO (.lst Θ [.str "in",.str "out"]) (.int v2)=.ok (.str W)/\decide (W.length<=1000)=Θ:=by
    have:v2=0∨v2=1:=⋯
    rcases this with rfl|rfl
    ·exact⟨"in",rfl,∅⟩
    ·exact⟨"out",rfl,∅⟩
   obtain⟨TS,iT,hT⟩:∃TS:Ð,mR (.lst Θ [.int 5]) Φ (Δ v3)=.ok (.lst Θ TS)/\(TS=[]∨TS=[.int 5]):=by
    have:v3=0∨v3=1:=⋯
    rcases this with rfl|rfl
    ·exact⟨[],rfl,.inl rfl⟩
    ·exact⟨[.int 5],rfl,.inr rfl⟩
   rw[BC (d:=.tup [.str "nogroups",.str W,.lst Θ TS]) (z:=(m:Nat)) (by simp![ei,d3,d4,iW,iT]) rfl rfl PH UW (by rw[J_];refine .inr ?_;show((!Ξ&&iE NS)&&(Θ&&((!Ξ&&iE NS)&&(Θ&&Θ))))=Θ;rw[nN];rfl) nC nO];refine fin ⟨"nogroups",.str W,TS⟩ _ (by rcases hT with rfl|rfl<;>rfl) ⟨λ_ _ _=>nog,hW,rfl,?_,?_,?_⟩<;>rcases hT with rfl|rfl
   ·intro d hd;exact absurd hd (by simp)
   ·intro d hd;rw[v_.mp hd];rfl
   ·rfl
   ·rfl
   ·exact R_ _
   ·show 1<=_;omega
  ·rw[PF rfl,PF rfl,UT rfl];have hp:Lm .pow (.int 10) (.int 9)=.ok (.int 1000000000):=by kernel_rfl
   obtain⟨x,ix,hx⟩:=tJ (o:=Θ) (ds:=L6) a5 a6;have hx:=z_.mp Hk x hx;rw[d_]at hx;have ix:iO (.lst Θ [.bl Θ,.JF,.int 1000000000,.str "abcdefghi",.str "A",.lst Θ [.int 1]]) (.int v6)=.ok x:=ix;have e6:=o9 (cl:=dj T (n+3)) (c:=4) (ko:=Δ a) (i:=11) (e:=(.idx (.lst [.c (.bl Θ),.c .JF,.bin .pow (.c (.int 10)) (.c (.int 9)),.c (.str "abcdefghi"),.c (.str "A"),.lst [.c (.int 1)]]) (.call 43 [.v 0,.bin .add (.v 1) (.c (.int 2)),.c (.int 6)]))) (τ:=[Δ (.lst Ξ NS),Δ (.int k),Δ (.lst Θ RT),Δ (.int (a:Nat)),Δ (.lst Θ CT),Δ O,Δ (.int (m:Nat)),Δ (.str c.m),Δ c.w,Δ (.lst Ξ c.ts),Δ (.int 2),Φ]) (d:=x) (by simp![ei,d6,hp,ix]) (by rw[J_];refine .inr ?_;show((!Ξ&&iE NS)&&(Θ&&Θ))=Θ;rw[nN];rfl);rw[kO e6,dn];simp only[List.set_cons_succ,List.set_cons_zero];have ex:=jm 2 _ hx.2;have nx:=mG 2 _ hx.2;generalize er x=y at *;rw[BC (τ:=[Δ (.lst Ξ NS),Δ (.int k),Δ (.lst Θ RT),Δ (.int (a:Nat)),Δ (.lst Θ CT),Δ O,Δ (.int (m:Nat)),Δ (.str c.m),Δ c.w,Δ (.lst Ξ c.ts),Δ (.int 2),Δ y]) (d:=.tup [.str c.m,c.w,.lst Θ (c.ts++[y])]) (z:=(m:Nat)) (by simp![Jq]) rfl rfl PH UW (by rw[J_];refine .inr ?_;show(Θ&&(jH c.w&&((!Ξ&&iE c.ts)&&(jH y&&Θ))))=Θ;rw[nW,nT,nx];rfl) nC nO];refine fin ⟨c.m,c.w,c.ts++[y]⟩ _ ?_ ⟨hc.r,hc.w,hc.pw,λd hd=>?_,uX hc.pt ?_,?_⟩
   ·show D.tup [.str c.m,er c.w,.lst Ξ (Jz (c.ts++[y]))]=_;rw[eW,i8,X_,<- i8,eT];show D.tup [.str c.m,c.w,.lst Ξ (c.ts++[er y])]=_;rw[ex];rfl
   ·rcases t_.mp hd with hd|hd
    ·exact hc.t d hd
    ·rw[v_.mp hd];exact hx.1
   ·show(pl 2 y&&Θ)=Θ;rw[hx.2];rfl
   ·show(c.ts++[y]).length<=_;rw[u_];show c.ts.length+1<=_;omega
  ·rw[PF rfl,PF rfl,PF rfl];obtain⟨X,iX,hX⟩:=tJ (o:=Θ) (ds:=[.lst Θ [],.lst Θ (Τ 11 c.ts).flatten,.lst Θ (c.ts++[.int 1,.int 2])]) a7 a8;have s0:mR (.lst Ξ c.ts) Φ (Δ 0)=.ok (.lst Θ []):=by rw[fO,show jY c.ts Φ (Δ 0)=[] by unfold jY HT.J1;simp]
   have s1:Lm .mul (.lst Ξ c.ts) (.int 11)=.ok (.lst Θ (Τ 11 c.ts).flatten):=by show JA (decide ((0:Int)<=11/\(11:Int)<=16000/\c.ts.length<=1000)) _=_;rw[y_ ⟨ nofun, nofun,⋯⟩];rfl
   generalize hFL:(Τ 11 c.ts).flatten=FL at *;rw[BC (d:=.tup [.str c.m,c.w,X]) (z:=(m:Nat)) (by simp![ei,d5,s0,s1,iX]) rfl rfl PH UW (by rw[J_];refine .inr ?_;show(Θ&&(jH c.w&&((!Ξ&&iE c.ts)&&((!Ξ&&iE c.ts)&&((!Ξ&&iE c.ts)&&((!Ξ&&iE NS)&&(Θ&&Θ)))))))=Θ;rw[nW,nT,nN];rfl) nC nO];obtain⟨us,rfl,hu,lu⟩:∃us,X=.lst Θ us/\(∀d∈us,d∈c.ts∨d=.int 1∨d=.int 2)/\us.length<=11*B+2:=by
    simp only[k_,O_,or_false]at hX;rcases hX with rfl|rfl|rfl
    ·exact⟨_,rfl,λd hd=>absurd hd (by simp),R_ _⟩
    ·subst hFL;refine⟨_,rfl,λd hd=>.inl ?_,?_⟩
     ·obtain⟨l,hl,hd⟩:=List.mem_flatten.mp hd;rw[List.eq_of_mem_replicate hl]at hd;exact hd
     ·rw[List.length_flatten,List.map_replicate,List.sum_replicate_nat];omega
    ·refine⟨_,rfl,λd hd=>?_,?_⟩
     ·rcases t_.mp hd with hd|hd
      ·exact .inl hd
      ·simp only[k_,O_,or_false]at hd;exact .inr hd
     ·rw[u_];show c.ts.length+2<=_;omega
   have hp:∀d∈us,tm d=Θ/\pl 2 d=Θ:=λd hd=>by
    rcases hu d hd with hd|rfl|rfl
    ·exact⟨hc.t d hd,jQ hc.pt d hd⟩
    ·exact⟨rfl,rfl⟩
    ·exact⟨rfl,rfl⟩
   have pu:Kh 2 us=Θ:=ph λd hd=>(hp d hd).2;exact fin ⟨c.m,c.w,us⟩ _ (by show D.tup [.str c.m,er c.w,.lst Ξ (Jz us)]=_;rw[eW,lQ pu];rfl) ⟨hc.r,hc.w,hc.pw,λd hd=>(hp d hd).1,pu,lu⟩
def Hl {rs:List Gl}{r:Gl}  : (rs.map Gl.t).set a (.tup [.lst Θ (r.cs.map Gc.d),o.d])=(rs.set a ⟨r.cs,o⟩).map Gl.t:=by rw[List.map_set];rfl
def Ir {rs:List Gl}(h:∀r∈rs,r.ok B){r:Gl}(hr:r∈rs)  {o:Go}(ho:o.ok):∀x∈rs.set a ⟨r.cs,o⟩,x.ok B:=λx hx=>by
 rcases List.mem_or_eq_of_mem_set hx with hx|rfl
 ·exact h x hx
 ·exact⟨(h r hr).c,(h r hr).l,ho⟩
theorem tL:∀sg:À,Kh 2 (sg.map JH)=Θ
 |[]=>rfl
 |p::sg=>tL sg
def EL {o:Go}(h:o.ok):∃x r,o.d=.tup (x::r)/\Kh 3 r=Θ/\r.length<=10:=by
 cases o with
 |odd x r=>exact⟨x,r,rfl,h.2.2.1,h.2.2.2⟩
 |face f=>exact⟨_,_,rfl,rfl,by show 1<=10;decide⟩
 |share f sg=>
  refine⟨_,_,rfl,?_,by show 2<=10;decide⟩;show(Θ&&((!Ξ&&(Kh 2 (sg.map JH)&&decide ((sg.map JH).length < 4000)))&&Θ))=Θ;have:(sg.map JH).length<=10:=by rw[i_];exact h
  rw[tL,y_ ⋯];rfl
 |MD=>exact⟨_,_,rfl,rfl, nofun⟩
def MQ (x:D)(r:Ð):mR (.tup (x::r)) (Δ 1) Φ=.ok (.tup r):=by
 have h1:HT.J1 (x::r).length 0 (Δ 1)=1:=by unfold HT.J1;simp
 show JA (!(decide (HT.J1 (x::r).length 0 (Δ 1)=0)&&_)) (.ok (D.tup (jY (x::r) (Δ 1) Φ)))=_;rw[h1,zq _ nofun];rfl
def Hn (n:Nat)(ns:Ë)  (k0:0<=k)(k1:k<=3800)  (hB:11*B+2<=4000){rs:List Gl}(h:∀r∈rs,r.ok B)(hl:rs.length<=10) :
  ∃J9:List Gl,dj T (n+5) 59 [.lst Ξ (ns.map .int),.int k,.lst Θ (rs.map Gl.t)]=.ok (.tup [.JF,.lst Θ (J9.map Gl.t)])/\(∀r∈J9,r.ok (11*B+2))/\J9.length=rs.length:=by
 suffices hs:∃J9:List Gl,jS (dj T (n+4)) 4 tB.pre (j8 (dj T (n+4)) 4 tB.en) ([Δ (.lst Ξ (ns.map .int)),Δ (.int k),Δ (.lst Θ (rs.map Gl.t)),Φ,Φ,Φ,Φ,Φ,Φ],Φ)=.ok (.lst Θ (J9.map Gl.t))/\(∀r∈J9,r.ok (11*B+2))/\J9.length=rs.length by obtain⟨J9,e,h1,h2⟩:=hs;refine⟨J9,?_,h1,h2⟩;rw[goI (show T 59=Δ Ro from rfl) (show Ro.io=Θ from rfl) (show Ro.np=3 from rfl) (show Ro.G.N.length=9 from rfl) (show Ro.KY=tB from rfl) rfl];show II (jS (dj T (n+4)) 4 tB.pre (j8 (dj T (n+4)) 4 tB.en) ([Δ (.lst Ξ (ns.map .int)),Δ (.int k),Δ (.lst Θ (rs.map Gl.t)),Φ,Φ,Φ,Φ,Φ,Φ],Φ)) _=_;rw[e];rfl
 have hm:=λ(r:Gl) hr=>(h r hr).mono (show B<=11*B+2 by omega);have ei:=ja ns;have en:=mF (f:=Ke 39) (rs.map Gl.t)
 have e1:=Cq (cl:=dj T (n+4)) (c:=4) (ko:=Φ) (t:=.cmp .eq (.v 2) (.lst [])) (τ:=[Δ (.lst Ξ (ns.map .int)),Δ (.int k),Δ (.lst Θ (rs.map Gl.t)),Φ,Φ,Φ,Φ,Φ,Φ]) (b:=(rs.map Gl.t).isEmpty) (by
  generalize rs.map Gl.t=RT at *
  simp![en])
 unfold tB;dsimp only;cases PJ:(rs.map Gl.t).isEmpty with
 |true=>rw[PJ]at e1;exact⟨rs,Co e1 rfl,hm,rfl⟩
 |false=>
  rw[PJ]at e1;rw[kO e1];have hc0:0 < rs.length:=by
   cases q:rs with
   |nil=>rw[q]at PJ;cases PJ
   |cons _ _=>simp
  obtain⟨q,d1,q0,q1⟩:=L4 (n+3) ns k (rs.length:Int) k0 ⋯ ⋯;obtain⟨a,rfl⟩:∃a:Nat,q=(a:Nat):=⟨q.toNat,⋯⟩
  have ha:a < rs.length:=⋯
  obtain⟨rs2,es2,LZ,ls2⟩:=EK n ns (k:=k+6) ⋯ ⋯ hB h ha;obtain⟨r,QZ⟩:∃r,rs[a]? = Δ r:=⟨_,C_ ha⟩
  have hr:=Y_ QZ;have Qi:=h r hr;have PH:(rs.map Gl.t)[a]? = Δ (.tup [.lst Θ (r.cs.map Gc.d),r.o.d]):=by rw[D_,QZ];rfl
  have UU:Kv (rs.map Gl.t).length (a:Nat)=Δ a:=zG (by rw[i_];exact ha);have lr:(rs.map Gl.t).length=rs.length:=i_ _;obtain⟨w,d2,w0,w1⟩:=L4 (n+3) ns (k+1) 3 ⋯ ⋯ nofun;have nC:=pf Qi.c;have nO:=uW Qi.o;have nN:=nq ns;obtain⟨x0,xr,hO,px,lx⟩:=EL Qi.o;have fin:∀(o:Go) (d:D),er d=o.d->o.ok->∃J9:List Gl,(Except.ok (D.lst Θ ((rs.map Gl.t).set a (.tup [.lst Θ (r.cs.map Gc.d),er d]))):Res D)=.ok (.lst Θ (J9.map Gl.t))/\(∀r∈J9,r.ok (11*B+2))/\J9.length=rs.length:=λo d hd ho=>⟨rs.set a ⟨r.cs,o⟩,by rw[hd,Hl],Ir hm hr ho,List.length_set⟩
  generalize hRT:rs.map Gl.t=RT at *;generalize hCT:r.cs.map Gc.d=CT,r.o.d=O at *;obtain⟨od,Rr,Na⟩:=tK (n+2) ns (k:=k+2) ⋯ ⋯;have d3:=iR (n+3) ns (k+2) 9 ⋯ ⋯ nofun;have d4:=iR (n+3) ns (k+3) 2 ⋯ ⋯ nofun;have d5:=iR (n+3) ns (k+4) 3 ⋯ ⋯ nofun;have a5:=ki ns (k+4) (m:=3) nofun;have a6:=kA ns (k+4) (m:=3) nofun;generalize dr ns (k+2) 9=dy,dr ns (k+3) 2=de,dr ns (k+4) 3=v5,ns.map D.int=NS at *;have e2:km (dj T (n+4)) 4 (.KP 3 (.call 43 [.v 0,.v 1,.bi .len [.v 2]])) ([Δ (.lst Ξ NS),Δ (.int k),Δ (.lst Θ RT),Φ,Φ,Φ,Φ,Φ,Φ],Φ)=.ok (Δ ([Δ (.lst Ξ NS),Δ (.int k),Δ (.lst Θ RT),Δ (.int (a:Nat)),Φ,Φ,Φ,Φ,Φ],Φ)):=o9 (d:=.int (a:Nat)) (by simp![ei,d1,lr]) rfl;have e3:km (dj T (n+4)) 4 (.row 5 (.v 3)) ([Δ (.lst Ξ NS),Δ (.int k),Δ (.lst Θ RT),Δ (.int (a:Nat)),Φ,Φ,Φ,Φ,Φ],Φ)=.ok (Δ ([Δ (.lst Ξ NS),Δ (.int k),Δ (.lst Θ RT),Δ (.int (a:Nat)),Δ (.lst Θ CT),Δ O,Φ,Φ,Φ],Δ a)):=Cp (z:=(a:Nat)) rfl rfl UU PH rfl;have e4:km (dj T (n+4)) 4 (.KP 6 (.call 43 [.v 0,.bin .add (.v 1) (.c (.int 1)),.c (.int 3)])) ([Δ (.lst Ξ NS),Δ (.int k),Δ (.lst Θ RT),Δ (.int (a:Nat)),Δ (.lst Θ CT),Δ O,Φ,Φ,Φ],Δ a)=.ok (Δ ([Δ (.lst Ξ NS),Δ (.int k),Δ (.lst Θ RT),Δ (.int (a:Nat)),Δ (.lst Θ CT),Δ O,Δ (.int w),Φ,Φ],Δ a)):=o9 (d:=.int w) (by simp![ei,d2]) rfl;rw[kO e2,kO e3,kO e4,dn];have hw3:w=0∨w=1∨w=2:=⋯
  rcases hw3 with rfl|rfl|rfl
  ·rw[UT rfl,dn];simp only[UR,d_]at Na;have eo:=jm 2 _ Na.1.1.2;have st:=MQ x0 xr;rw[<- hO]at st;have ad:Lm .add (.tup [od]) (.tup xr)=.ok (.tup (od::xr)):=by show JA (Θ&&jb (1+xr.length)) _=_;rw[kH ⋯];rfl
   rw[Hf (d:=.tup (od::xr)) (z:=(a:Nat)) (by simp![ei,Rr,st,ad]) rfl rfl UU PH (by rw[J_];refine .inr ?_;show((!Ξ&&iE NS)&&(Θ&&(jH O&&Θ)))=Θ;rw[nN,nO];rfl) nC nO];exact fin (.odd od xr) _ (by show D.tup (er od::Jz xr)=_;rw[eo,lQ px];rfl) ⟨Hd Na.1.2,Na.1.1.2,px,lx⟩
  ·rw[PF rfl,UT rfl];obtain⟨v,iv⟩:∃v:Int,iO (.lst Θ [.int 6,.int 10008,.int (0 - 1)]) (.int v5)=.ok (.int v):=by
    have:v5=0∨v5=1∨v5=2:=⋯
    rcases this with rfl|rfl|rfl
    ·exact⟨6,rfl⟩
    ·exact⟨10008,rfl⟩
    ·exact⟨0 - 1,rfl⟩
   have e5:km (dj T (n+4)) 4 (.KP 7 (.call 43 [.v 0,.bin .add (.v 1) (.c (.int 2)),.c (.int 9)])) ([Δ (.lst Ξ NS),Δ (.int k),Δ (.lst Θ RT),Δ (.int (a:Nat)),Δ (.lst Θ CT),Δ O,Δ (.int 1),Φ,Φ],Δ a)=.ok (Δ ([Δ (.lst Ξ NS),Δ (.int k),Δ (.lst Θ RT),Δ (.int (a:Nat)),Δ (.lst Θ CT),Δ O,Δ (.int 1),Δ (.int dy),Φ],Δ a)):=o9 (d:=.int dy) (by simp![ei,d3]) rfl;have e6:km (dj T (n+4)) 4 (.KP 8 (.lst [.tup [.v 7,.c (.int 5)],.tup [.bin .add (.v 7) (.call 43 [.v 0,.bin .add (.v 1) (.c (.int 3)),.c (.int 2)]),.idx (.lst [.c (.int 6),.c (.int 10008),.bin .sub (.c (.int 0)) (.c (.int 1))]) (.call 43 [.v 0,.bin .add (.v 1) (.c (.int 4)),.c (.int 3)])]])) ([Δ (.lst Ξ NS),Δ (.int k),Δ (.lst Θ RT),Δ (.int (a:Nat)),Δ (.lst Θ CT),Δ O,Δ (.int 1),Δ (.int dy),Φ],Δ a)=.ok (Δ ([Δ (.lst Ξ NS),Δ (.int k),Δ (.lst Θ RT),Δ (.int (a:Nat)),Δ (.lst Θ CT),Δ O,Δ (.int 1),Δ (.int dy),Δ (.lst Ξ [.tup [.int dy,.int 5],.tup [.int (dy+de),.int v]])],Δ a)):=o9 (d:=.lst Θ [.tup [.int dy,.int 5],.tup [.int (dy+de),.int v]]) (by simp![ei,d4,d5,iv]) (by rw[J_];refine .inr ?_;show(Θ&&(Θ&&((!Ξ&&iE NS)&&(Θ&&((!Ξ&&iE NS)&&(Θ&&Θ))))))=Θ;rw[nN];rfl);rw[kO e5,kO e6,dn];rw[Hf (d:=.tup [.str "share",.str "on",.lst Ξ [.tup [.int dy,.int 5],.tup [.int (dy+de),.int v]]]) (z:=(a:Nat)) (by simp![Jq]) rfl rfl UU PH rfl nC nO];exact fin (.share "on" [(dy,5),(dy+de,v)]) _ rfl (by show 2<=10;decide)
  ·rw[PF rfl,PF rfl];refine⟨rs2,?_,LZ,ls2⟩;refine Hg (as:=[.lst Ξ NS,.int (k+6)]) (bs:=[.int (a:Nat)]) (by simp![Jq]) rfl rfl (by show((!Ξ&&iE NS)&&(Θ&&(Θ&&Θ)))=Θ;rw[nN];rfl) ?_;show dj T (n+4) 55 [.lst Ξ (Jz NS),.int (k+6),.lst Θ RT,.int (a:Nat)]=_;rw[ei];exact es2
abbrev Cn.g (c:Cn):Gc:=⟨c.m,.str c.w,c.ts.map Tn.d⟩
abbrev Oc.g:Oc->Go
 |.face f=>.face f
 |.share f st=>.share f st
 |.MD=>.MD
abbrev Rl.g (r:Rl):Gl:=⟨r.cs.map Cn.g,r.o.g⟩
def Iu (o:Oc):o.g.d=o.d:=by cases o<;>rfl
def Iw (r:Rl):r.g.d=r.d:=by show D.tup [.lst Ξ ((r.cs.map Cn.g).map Gc.d),r.o.g.d]=_;rw[K_,Iu];rfl
def Ho (rs:List Rl):rs.map Rl.d=(rs.map Rl.g).map Gl.d:=by rw[K_];exact aam λr _=>(Iw r).symm
def Hq {xs:Ê}(h:Tx xs){l:Int}(hl:l<=xs.length):K4 SG l 8 (.str (JC xs))=Θ:=by show(decide (l<=(((JC xs).length:Nat):Int))&&decide ((((JC xs).length:Nat):Int)<=8)&&i6 SG (JC xs))=Θ;rw[i5,y_ hl,y_ (by have:=h.1;omega)];show i6 SG (JC xs)=Θ;unfold i6;rw[nU,z_];exact λc hc=>h.2 c hc
def Hr (h:Nb z):nB (.int z)=Θ:=by obtain⟨h1,h2⟩:=h;unfold nB;rw[decide_eq_true_iff];split<;>omega
abbrev wB (w:Str):Bool:=N4 w&&(NR w == Py w)&&(((w == Ρ "is")||(w == Ρ "not")) == decide (kd w=0))&&((w == Ρ "begins") == decide (kd w=1))&&(((w == Ρ "least")||(w == Ρ "most")) == decide (kd w=2))&&decide (kd w < 4)&&decide (w.length<=1000)
def Iy:∀w∈W9,wB w=Θ:=∅
abbrev told:È:=[Ρ "inside",Ρ "mates"]
def zH:∀x∈told,(reprText x).length<=1000:=∅
def EM (h:Tv t):tm t.d=Θ/\t0 t.d=Θ/\pl 2 t.d=Θ:=by
 cases t with
 |i z=>refine⟨rfl,?_,rfl⟩;show(K4 SG 0 8 (.int z)||nB (.int z))=Θ;rw[Hr h];rfl
 |s x=>obtain⟨xs,rfl,tx⟩:=h;refine⟨y_ (by rw[i5];have:=tx.1;omega),?_,rfl⟩;show(K4 SG 0 8 (.str (JC xs))||nB (.str (JC xs)))=Θ;rw[Hq tx ⋯];rfl
def Hs (hb:b=Θ)(h1:1<=ts.length)(h2:ts.length<=10):OM b ts=Θ:=by unfold OM;rw[hb,y_ ⋯,y_ ⋯];rfl
def Cr (hg:∀x∈gn,x∈told)  (v:Vc gn c):cF gn c.g=Φ/\c.g.ok 2:=by
 have wb:=Iy c.w v.w;unfold wB at wb;simp only[d_,beq_iff_eq]at wb;obtain⟨⟨⟨⟨⟨⟨w1,w2⟩,w3⟩,w4⟩,w5⟩,w6⟩,w7⟩:=wb;have lt:(c.ts.map Tn.d).length=c.ts.length:=i_ _;have vl:=v.len;have key:(∀t∈c.ts,Tv t)/\NQ c.w (c.ts.map Tn.d)=Θ:=by
  have Yw:kd c.w=0∨kd c.w=1∨kd c.w=2∨kd c.w=3:=by have:=l_ w6;omega
  unfold NQ;rcases Yw with k|k|k|k<;>rw[k]at w3 w4 w5 ⊢<;>simp only[decide_true,decide_false,Nat.reduceEqDiff]at w3 w4 w5
  ·obtain⟨h1,h2⟩:=v.a w3;refine⟨h2,Hs ?_ ⋯ ⋯⟩;rw[List.all_map,z_];exact λt ht=>(EM (h2 t ht)).2.1
  ·obtain⟨h1,h2⟩:=v.b w4;refine⟨λt ht=>?_,Hs ?_ ⋯ ⋯⟩
   ·obtain⟨xs,rfl,_,tx⟩:=h2 t ht;exact⟨xs,rfl,tx⟩
   ·rw[List.all_map,z_];intro t ht;obtain⟨xs,rfl,x1,tx⟩:=h2 t ht;exact Hq tx ⋯
  ·obtain⟨z,hz,nb⟩:=v.l w5;rw[hz];refine⟨λt ht=>by rw[v_.mp ht];exact nb,?_⟩;show(Θ&&nB (.int z))=Θ;rw[Hr nb];rfl
  ·rw[v.o w3 w4 w5];exact⟨λt ht=>by simp at ht,rfl⟩
 refine⟨?_,⟨λw hw hi=>?_,w7,rfl,λd hd=>?_,ph λd hd=>?_,?_⟩⟩
 ·show cond (N4 c.w) (cond (NR c.w&&!(gn.any λg=>g == c.m)) (Δ (Ρ "NoGroup")) (cond (NQ c.w (c.ts.map Tn.d)) Φ (Δ (Ρ "BadThings")))) (Δ (Ρ "NoWord"))=Φ;rw[w1,key.2,w2];cases hi:Py c.w with
  |false=>rfl
  |true=>have:(gn.any λg=>g == c.m)=Θ:=List.any_eq_true.mpr ⟨c.m,v.g hi,beq_self_eq_true _⟩;rw[this];rfl
 ·cases hw;rw[w2]at hi;exact zH _ (hg _ (v.g hi))
 ·obtain⟨t,ht,rfl⟩:=List.mem_map.mp hd;exact(EM (key.1 t ht)).1
 ·obtain⟨t,ht,rfl⟩:=List.mem_map.mp hd;exact(EM (key.1 t ht)).2.2
 ·show(c.ts.map Tn.d).length<=2;omega
theorem uY:∀ {sg:À}{a:Int},Sg a sg->MM a sg=Φ
 |[],_,_=>rfl
 |p::sg,a,h=>by obtain⟨h1,h2,h3,h4⟩:=h;unfold MM;rw[aae ⋯,aae ⋯,aae ⋯];exact uY h4
def Cs (hg:∀x∈gn,x∈told){r:Rl}(h:(∀c∈r.cs,Vc gn c)/\r.cs.length<=2/\∀f sg,r.o=.share f sg->sg.length<=3/\Sg (-1) sg):o7 gn r.g=Φ/\r.g.ok 2:=by
 obtain⟨h1,h2,h3⟩:=h;have hf:(r.cs.map Cn.g).findSome? (cF gn)=Φ:=by rw[List.findSome?_eq_none_iff];intro c hc;obtain⟨c,Mo,rfl⟩:=List.mem_map.mp hc;exact(Cr hg (h1 c Mo)).1
 refine⟨?_,⟨λc hc=>?_,?_,?_⟩⟩
 ·show((r.cs.map Cn.g).findSome? (cF gn)).or (outF r.o.g)=Φ;rw[hf];show outF r.o.g=Φ;cases ho:r.o with
  |face f=>rfl
  |MD=>rfl
  |share f sg=>exact uY (h3 f sg ho).2
 ·obtain⟨c,Mo,rfl⟩:=List.mem_map.mp hc;exact(Cr hg (h1 c Mo)).2
 ·show(r.cs.map Cn.g).length<=10;rw[i_];omega
 ·show r.o.g.ok;cases ho:r.o with
  |face f=>trivial
  |MD=>trivial
  |share f sg=>exact N_ (h3 f sg ho).1 nofun
def uZ (h:Sl cs):Qh (.str (JC cs))=Φ/\tm (.str (JC cs))=Θ:=by
 obtain⟨h1,h2,h3⟩:=h;have:K4 "abcdefghijklmnopqrstuvwxyz" 1 12 (.str (JC cs))=Θ:=by show(decide ((1:Int)<=(((JC cs).length:Nat):Int))&&decide ((((JC cs).length:Nat):Int)<=12)&&i6 "abcdefghijklmnopqrstuvwxyz" (JC cs))=Θ;rw[i5,y_ ⋯,y_ ⋯];show i6 "abcdefghijklmnopqrstuvwxyz" (JC cs)=Θ;unfold i6;rw[nU,z_];exact λc hc=>y3 (h3 c hc)
 refine⟨?_,y_ (by rw[i5];omega)⟩;unfold Qh;rw[this];rfl
def rY:∀(n:Nat) (d:D),pl n d=Θ->pl (n+1) d=Θ:=by
 intro n
 induction n with
 |zero=>intro d h;cases d<;>cases h
 |succ n ih=>
  have all:∀ds:Ð,Kh n ds=Θ->Kh (n+1) ds=Θ:=λds hp=>ph λd hd=>ih d (jQ hp d hd);intro d h;cases d with
  |tup ds=>have h':=s_.mp (show(Kh n ds&&decide (ds.length < 4000))=Θ from h);show(Kh (n+1) ds&&decide (ds.length < 4000))=Θ;rw[all ds h'.1,h'.2];rfl
  |lst o ds=>have h0:=s_.mp (show(!o&&(Kh n ds&&decide (ds.length < 4000)))=Θ from h);have h':=s_.mp h0.2;show(!o&&(Kh (n+1) ds&&decide (ds.length < 4000)))=Θ;rw[h0.1,all ds h'.1,h'.2];rfl
  |exc _=>cases h
  |_=>rfl
def u6 (l:n<=m)  (h:pl n d=Θ):pl m d=Θ:=by
 induction l with
 |refl=>exact h
 |step _ ih=>exact rY _ d ih
def la (h:∀d∈ds,pl n d=Θ)(l:ds.length < 4000):pl (n+1) (.tup ds)=Θ:=by show(Kh n ds&&decide (ds.length < 4000))=Θ;rw[ph h,y_ l];rfl
def lb (h:∀d∈ds,pl n d=Θ)(l:ds.length < 4000):pl (n+1) (.lst Ξ ds)=Θ:=by show(!Ξ&&(Kh n ds&&decide (ds.length < 4000)))=Θ;rw[ph h,y_ l];rfl
def Ht (hB:B < 4000){c:Gc}(h:c.ok B):pl 4 c.d=Θ:=by
 refine la (λd hd=>?_) (by show 3 < 4000;decide);simp only[k_,O_,or_false]at hd;rcases hd with rfl|rfl|rfl
 ·rfl
 ·exact rY 2 _ h.pw
 ·exact lb (λd hd=>jQ h.pt d hd) (Nat.lt_of_le_of_lt h.l hB)
def qJ (sg:À):∀d∈sg.map JH,pl 2 d=Θ:=jQ (tL sg)
def Hu {o:Go}(h:o.ok):pl 5 o.d=Θ:=by
 cases o with
 |odd x r=>
  refine la (λd hd=>?_) (by show r.length+1 < 4000;have:=h.2.2.2;omega);rcases k_.mp hd with rfl|hd
  ·exact u6 nofun h.2.1
  ·exact rY 3 _ (jQ h.2.2.1 d hd)
 |face f=>rfl
 |MD=>rfl
 |share f sg=>
  refine la (λd hd=>?_) (by show 3 < 4000;decide);simp only[k_,O_,or_false]at hd;rcases hd with rfl|rfl|rfl
  ·rfl
  ·rfl
  ·exact rY 3 _ (lb (qJ sg) (by rw[i_];have:sg.length<=10:=h;omega))
def zJ (hB:B < 4000){g:Gs}(h:g.ok B):pl 8 g.d=Θ:=by
 refine la (λd hd=>?_) (by show 4 < 4000;decide);simp only[k_,O_,or_false]at hd;rcases hd with rfl|rfl|rfl|rfl
 ·exact u6 nofun h.ps
 ·rfl
 ·refine lb (λd hd=>?_) (by rw[i_];have:=h.l;omega);obtain⟨r,hr,rfl⟩:=List.mem_map.mp hd;have hr:=h.rs r hr;refine la (λd hd=>?_) (by show 2 < 4000;decide);simp only[k_,O_,or_false]at hd;rcases hd with rfl|rfl
  ·refine lb (λd hd=>?_) (by rw[i_];have:=hr.l;omega);obtain⟨c,hc,rfl⟩:=List.mem_map.mp hd;exact Ht hB (hr.c c hc)
  ·exact Hu hr.o
 ·exact rY 6 _ h.a
def Hv (h1:al.length<=100)(h2:∀p∈al,p.2.length<=20)(h3:fr.length<=20):pl 6 (OY al fr)=Θ:=by
 refine la (λd hd=>?_) (by show 2 < 4000;decide);simp only[k_,O_,or_false]at hd;rcases hd with rfl|rfl
 ·refine lb (λd hd=>?_) (by rw[i_];omega);obtain⟨p,hp,rfl⟩:=List.mem_map.mp hd;refine la (λd hd=>?_) (by show 2 < 4000;decide);simp only[k_,O_,or_false]at hd;rcases hd with rfl|rfl
  ·rfl
  ·exact lb (qJ p.2) (by rw[i_];have:=h2 p hp;omega)
 ·exact u6 nofun (lb (qJ fr) (by rw[i_];omega))
def EN (hB:B < 4000)  (lg:gn.length<=10){g:Gs}(hg:g.ok B)(hh:h.ok B)(hn:Nx gn h=Φ)  (hd:Jz ds=g.rs.map Gl.d)  (hG:er G=h.d)(hS:er S=g.s)(hA:er A=g.a)(o3:Bool)(s0 s1 s2 s4 s5 LS:Å) :
  iD (dj T 16) Ss [s0,s1,s2,Δ (.lst o3 (gn.map .str)),s4,s5,Δ (.lst Θ ds),Δ G,Δ S,Δ (.str g.r),Δ A,LS,Φ,Φ,Φ]=.ok (.rt (.bl Θ)):=by
 have eb:=uT hg;have eh:=uT hh;have eg:=jk gn;have f1:=Io (Nat.le_of_lt hB) 13 gn hg;have p1:=EH (Nat.le_of_lt hB) 11 gn hg;have p2:=EH (Nat.le_of_lt hB) 11 gn hh;rw[hn]at p2;have p2:dj T (11+5) 39 [.lst Ξ (gn.map .str),h.d]=.ok (.bl Θ):=p2;have hH:pl 9 (.tup [.lst Ξ (gn.map .str),g.d,h.d])=Θ:=by
  refine la (λd hd=>?_) (by show 3 < 4000;decide);simp only[k_,O_,or_false]at hd;rcases hd with rfl|rfl|rfl
  ·refine u6 (show 2<=8 by decide) (lb (λd hd=>?_) (by rw[i_];omega));obtain⟨x,_,rfl⟩:=List.mem_map.mp hd;rfl
  ·exact zJ hB hg
  ·exact zJ hB hh
 have c1:dj T 16 65 [.tup [.lst Ξ (gn.map .str),g.d,h.d]]=_:=copy 9 7 hH;have c2:dj T 16 64 [.tup [.lst Ξ (gn.map .str),g.d,h.d],.tup [.lst Ξ (gn.map .str),g.d,h.d]]=_:=same 9 7 hH;have c3:dj T 16 64 [.bl Θ,.bl Θ]=_:=same 1 15 (d:=.bl Θ) rfl;have ao:=tD 9 _ hH;have x0:iO (ow (.tup [.lst Ξ (gn.map .str),g.d,h.d])) (.int 0)=.ok (ow (.lst Ξ (gn.map .str))):=rfl;have x1:iO (ow (.tup [.lst Ξ (gn.map .str),g.d,h.d])) (.int 1)=.ok (ow g.d):=rfl;have x2:iO (ow (.tup [.lst Ξ (gn.map .str),g.d,h.d])) (.int 2)=.ok (ow h.d):=rfl;have o0:er (ow (.lst Ξ (gn.map .str)))=.lst Ξ (gn.map .str):=by rw[nv,er,eg]
 have o1:er (ow g.d)=g.d:=by rw[nv,eb]
 have o2:er (ow h.d)=h.d:=by rw[nv,eh]
 have o4:er (ow (.tup [.lst Ξ (gn.map .str),g.d,h.d]))=.tup [.lst Ξ (gn.map .str),g.d,h.d]:=by rw[nv];exact jm 9 _ hH
 have PD:g.d=.tup [g.s,.str g.r,.lst Ξ (g.rs.map Gl.d),g.a]:=rfl;have es:er g.s=g.s:=jm 2 _ hg.ps;have ea:er g.a=g.a:=jm 6 _ hg.a;have N6:=k9 hg.rs;have VX:∀c,Nx gn g=Δ c->dj T 16 60 [.lst Ξ (gn.map .str),g.d]=.ok (.lst Θ (N7 c)):=λc hc=>by have p1:=EH (Nat.le_of_lt hB) 10 gn hg;rw[hc]at p1;exact zF 14 (tI hc) (by rw[er,eg]) eb p1
 have p1:dj T 16 39 [.lst Ξ (gn.map .str),g.d]=VP (Nx gn g):=p1;have p2:dj T 16 39 [.lst Ξ (gn.map .str),h.d]=.ok (.bl Θ):=p2;have f1:dj T 16 47 [g.d,.lst Ξ (gn.map .str)]=.ok (.str ((Nx gn g).getD "")):=f1;clear hH eb;generalize ow (.tup [.lst Ξ (gn.map .str),g.d,h.d])=W,ow (.lst Ξ (gn.map .str))=W0,ow g.d=W1,ow h.d=W2 at *;generalize h.d=HD at *;rw[PD]at c1 c2 o1 o4 p1 f1;simp only[PD]at VX;clear PD;generalize g.rs.map Gl.d=RS,gn.map D.str=GN at *;unfold Ss;cases hF:Nx gn g with
 |none=>
  rw[hF]at f1 p1;have f1:dj T 16 47 [.tup [g.s,.str g.r,.lst Ξ RS,g.a],.lst Ξ GN]=.ok (.str ""):=f1;have p1:dj T 16 39 [.lst Ξ GN,.tup [g.s,.str g.r,.lst Ξ RS,g.a]]=.ok (.bl Θ):=p1;have ee:(Ρ "" == Ρ "")=Θ:=∅
  clear VX;generalize dj T 16=cl,g.s=GS,g.a=GA at *;simp![hS,hd,hA,es,ea,N6,eg,hG,f1,c1,ao,ee,x0,x1,x2,o0,o1,o2,o4,p1,p2,c2,c3]
 |some c=>have p3:=VX c hF;have nc:=Ck c (tI hF);obtain⟨_,_,m1,m2,m3⟩:=uV 15 (tI hF);have m1:dj T 16 61 [.str c]=.ok (.lst Θ (N7 c)):=m1;rw[hF]at f1;have f1:dj T 16 47 [.tup [g.s,.str g.r,.lst Ξ RS,g.a],.lst Ξ GN]=.ok (.str c):=f1;clear VX p1;generalize dj T 16=cl,N7 c=M,g.s=GS,g.a=GA at *;simp![hS,hd,hA,es,ea,N6,eg,hG,f1,c1,ao,nc,x0,x1,x2,o0,o1,o2,o4,p3,m1,m2,p2,c2,c3]
def Hw (h:ic τ i=Δ (.lst Θ ds))(ha:iG cl es τ=.ok as)(hc:cl f (Jz as++[.lst Θ (ds.map l8)])=.ok (.tup [.JF,.lst Θ rows'])):K1 cl (.P6 f es i []) τ=.ok (.nx ((JQ (ie es++ie []) τ).set i (Δ (.lst Θ rows')))):=by rw[ÿba h,ha];show II (Lv (cl f (Jz as++[.lst Θ (ds.map l8)]))) _=_;rw[hc];rfl
abbrev Bj:Nat->Nat
 |0=>2
 |j+1=>11*Bj j+2
def Ct:∀ {i j:Nat},i<=j->Bj i<=Bj j:=by
 intro i j h
 induction h with
 |refl=>exact q_ _
 |step _ ih=>show Bj i<=11*Bj _+2;omega
structure Rw (j:Nat)(ds:Ð)(rs:List Gl):Prop where
 t:ds.map l8=rs.map Gl.t
 d:Jz ds=rs.map Gl.d
 k:∀r∈rs,r.ok (Bj j)
 l:rs.length<=10
def Hx {r:Gl}(h:r.ok B):l8 r.t=r.t:=by show D.tup [.lst Θ (Jz (r.cs.map Gc.d)),er r.o.d]=_;rw[lR h.c,o8 h.o];rfl
def IQ {B:Nat}{r:Gl}(h:r.ok B):er r.t=r.d:=by show D.tup [.lst Ξ (Jz (r.cs.map Gc.d)),er r.o.d]=_;rw[lR h.c,o8 h.o];rfl
def Iz (h:∀r∈rs,r.ok (Bj j))(l:rs.length<=10):Rw j (rs.map Gl.t) rs:=by
 refine⟨?_,?_,h,l⟩
 ·rw[K_];exact aam λr hr=>Hx (h r hr)
 ·rw[i8,K_];exact aam λr hr=>IQ (h r hr)
def IA (h:∀r∈rs,r.ok 2)(l:rs.length<=10):Rw 0 (ows (rs.map Gl.d)) rs:=by
 refine⟨?_,?_,h,l⟩
 ·rw[nR,K_,K_];refine aam λr hr=>?_;show D.tup [.lst Θ (Jz (ows (r.cs.map Gc.d))),er (ow r.o.d)]=_;rw[o5,nv,lR (h r hr).c,o8 (h r hr).o];rfl
 ·rw[o5];exact k9 h
def Hy (ns:Ë)  (q0:0<=q)(q1:q < 4)  (h:Rw 0 ds rs)(s1 s2 s3 s4 s5 s7 s8 s9 La LS Pd Qj Qk:Å) :
  ∃ds' J9 Mm,forM (turn (dj T 16) (.nm 11) Rb) (iU 0 q) [Δ (.lst Ξ (ns.map .int)),s1,s2,s3,s4,s5,Δ (.lst Θ ds),s7,s8,s9,La,LS,Pd,Qj,Qk]=.ok (.nx [Δ (.lst Ξ (ns.map .int)),s1,s2,s3,s4,s5,Δ (.lst Θ ds'),s7,s8,s9,La,Mm,Pd,Qj,Qk])/\Rw 3 ds' J9:=by
 have ei:=ja ns;obtain⟨τ',e,ds',J9,Mm,rfl,hr⟩:=kI (its:=iU 0 q) (τ:=[Δ (.lst Ξ (ns.map .int)),s1,s2,s3,s4,s5,Δ (.lst Θ ds),s7,s8,s9,La,LS,Pd,Qj,Qk]) (body:=turn (dj T 16) (.nm 11) Rb)
  (λj τ=>∃ds rs Mm,τ=[Δ (.lst Ξ (ns.map .int)),s1,s2,s3,s4,s5,Δ (.lst Θ ds),s7,s8,s9,La,Mm,Pd,Qj,Qk]/\Rw j ds rs)
  ⟨ds,rs,LS,rfl,h⟩ (by
   rintro j x τ hx ⟨ds,rs,Mm,rfl,hr⟩;obtain⟨hj,rfl⟩:=zj hx;have hb:11*Bj j+2<=4000:=N_ (Ct (show j+1<=3 by omega)) nofun;obtain⟨J9,e,h1,h2⟩:=Hn 11 ns (k:=610+12*(j:Int)) ⋯ ⋯ hb hr.k hr.l;refine⟨[Δ (.lst Ξ (ns.map .int)),s1,s2,s3,s4,s5,Δ (.lst Θ (J9.map Gl.t)),s7,s8,s9,La,Δ (.int (j:Nat)),Pd,Qj,Qk],?_,J9.map Gl.t,J9,_,rfl,Iz h1 (by rw[h2];exact hr.l)⟩;have hl:K1 (dj T 16) (.P6 59 [.v 0,.bin .add (.c (.int 610)) (.bin .mul (.c (.int 12)) (.v 11))] 6 []) [Δ (.lst Ξ (ns.map .int)),s1,s2,s3,s4,s5,Δ (.lst Θ ds),s7,s8,s9,La,Δ (.int (j:Nat)),Pd,Qj,Qk]=.ok (.nx [Δ (.lst Ξ (ns.map .int)),s1,s2,s3,s4,s5,Δ (.lst Θ (J9.map Gl.t)),s7,s8,s9,La,Δ (.int (j:Nat)),Pd,Qj,Qk]):=by
    rw[Hw (ds:=ds) (as:=[.lst Ξ (ns.map .int),.int (610+12*(j:Int))]) (rows':=J9.map Gl.t) rfl (by generalize dj T 16=cl;simp![Jq]) (by
     show dj T 16 59 [.lst Ξ (Jz (ns.map .int)),.int (610+12*(j:Int)),.lst Θ (ds.map l8)]=_;rw[ei,hr.t]
     exact e)]
    show Except.ok (Fl.nx [Δ (D.lst Ξ (Jz (ns.map D.int))),s1,s2,s3,s4,s5,Δ (.lst Θ (J9.map Gl.t)),s7,s8,s9,La,Δ (.int (j:Nat)),Pd,Qj,Qk])=_;rw[ei]
   unfold Rb;generalize dj T 16=cl at *
   simp![iq,hl])
 rw[pH]at hr;refine⟨ds',J9,Mm,e,hr.t,hr.d,λr hq=>(hr.k r hq).mono (Ct ⋯),hr.l⟩
def EO (ns:Ë)  (lg:gn.length<=10)  (hh:h.ok 2)(hn:Nx gn h=Φ)  (hG:er G=h.d)(o3:Bool)(s1 s2 s4 s5:Å) :
  iD (dj T 16) Su [Δ (.lst Ξ (ns.map .int)),s1,s2,Δ (.lst o3 (gn.map .str)),s4,s5,Δ (.lst Θ (ows (h.rs.map Gl.d))),Δ G,Δ (ow h.s),Δ (.str h.r),Δ (ow h.a),Φ,Φ,Φ,Φ]=.ok (.rt (.bl Θ)):=by
 have ei:=ja ns;have d1:dj T 16 43 _=_:=iR 15 ns 600 8 nofun nofun nofun;have d2:dj T 16 43 _=_:=iR 15 ns 602 4 nofun nofun nofun;have q0:=ki ns 602 (m:=4) nofun;have q1:=kA ns 602 (m:=4) nofun;obtain⟨od,Rr,Na⟩:=tK 14 ns (k:=601) nofun nofun;have Rr:dj T 16 42 _=_:=Rr;generalize dr ns 600 8=w,dr ns 602 4=q at *;have hB:Bj 3 < 4000:= nofun
 have r0:=IA hh.rs hh.l;simp only[UR,d_]at Na;have eo:=jm 2 _ Na.1.1.2;have key:∀(S s:D),er S=s->tm s=Θ->pl 2 s=Θ->∀(LS:Å),∃ds' Mm,forM (turn (dj T 16) (.nm 11) Rb) (iU 0 q) [Δ (.lst Ξ (ns.map .int)),s1,s2,Δ (.lst o3 (gn.map .str)),s4,s5,Δ (.lst Θ (ows (h.rs.map Gl.d))),Δ G,Δ S,Δ (.str h.r),Δ (ow h.a),LS,Φ,Φ,Φ]=.ok (.nx [Δ (.lst Ξ (ns.map .int)),s1,s2,Δ (.lst o3 (gn.map .str)),s4,s5,Δ (.lst Θ ds'),Δ G,Δ S,Δ (.str h.r),Δ (ow h.a),Mm,Φ,Φ,Φ])/\iD (dj T 16) Ss [Δ (.lst Ξ (ns.map .int)),s1,s2,Δ (.lst o3 (gn.map .str)),s4,s5,Δ (.lst Θ ds'),Δ G,Δ S,Δ (.str h.r),Δ (ow h.a),Mm,Φ,Φ,Φ]=.ok (.rt (.bl Θ)):=λS s hS t1 t2 LS=>by obtain⟨ds',J9,Mm,e,hr⟩:=Hy ns q0 q1 r0 s1 s2 (Δ (.lst o3 (gn.map .str))) s4 s5 (Δ G) (Δ S) (Δ (.str h.r)) (Δ (ow h.a)) LS Φ Φ Φ;exact⟨ds',Mm,e,EN hB lg (g:=⟨s,h.r,J9,h.a⟩) (h:=h) ⟨t1,t2,hr.k,hh.a,hr.l⟩ ⟨hh.s,hh.ps,λr hr=>(hh.rs r hr).mono nofun,hh.a,hh.l⟩ hn hr.d hG hS (by rw[nv];exact jm 6 _ hh.a) o3 _ s1 s2 s4 s5 Mm⟩
 have hw:Jz [D.lst Ξ (ns.map .int),.int 601]=[D.lst Ξ (ns.map .int),.int 601]:=by show [D.lst Ξ (Jz (ns.map .int)),D.int 601]=_;rw[ei]
 cases q8:(w == 0) with
 |true=>unfold Su;have hk:∀S,er S=od->∃ds' Mm,_:=λS hS=>key S od hS Na.1.1.1 Na.1.1.2 Φ;obtain⟨ds',Mm,e,e3⟩:=hk od eo;generalize ns.map D.int=NS,gn.map D.str=GN,ows (h.rs.map Gl.d)=RS,ow h.s=HS,ow h.a=HA,Rb=tlp,Ss=tl,dj T 16=cl at *;cases ao:iM od<;>simp![ei,d1,q8,Rr,ao,d2,e,e3]
 |false=>unfold Su;obtain⟨ds',Mm,e,e3⟩:=key (ow h.s) h.s (by rw[nv];exact jm 2 _ hh.ps) hh.s hh.ps Φ;generalize ns.map D.int=NS,gn.map D.str=GN,ows (h.rs.map Gl.d)=RS,ow h.s=HS,ow h.a=HA,Rb=tlp,Ss=tl,dj T 16=cl at *;simp![ei,d1,q8,d2,e,e3]
theorem qK:∀fs:È,jg (fs.map .str)=Θ
 |[]=>rfl
 |f::fs=>qK fs
def zK (h0:0<=q)(h1:q < 3):∃gn:È,mR (.lst Θ [.str "inside",.str "mates"]) Φ (Δ q)=.ok (.lst Θ (gn.map .str))/\gn.length<=10/\∀x∈gn,x∈told:=by
 rcases(show q=0∨q=1∨q=2 by omega) with rfl|rfl|rfl
 ·exact⟨[],rfl, nofun,λx hx=>absurd hx (by simp)⟩
 ·exact⟨[Ρ "inside"],rfl, nofun,λx hx=>by rw[v_.mp hx];exact .head _⟩
 ·exact⟨told,rfl, nofun,λx hx=>hx⟩
def ER (ns:Ë):dj T (16+1) 62 [.lst Ξ (ns.map .int)]=.ok (.bl Θ):=by
 have ei:=ja ns;obtain⟨ms,e1,lm⟩:=rT 14 ns (k:=0) (c:=3) nofun nofun nofun nofun;obtain⟨fs,e2,lf⟩:=rT 14 ns (k:=50) (c:=4) nofun nofun nofun nofun;have lm:ms.length=3:=lm;have lf:fs.length=4:=lf;have d3:dj T 16 43 _=_:=iR 15 ns 148 3 nofun nofun nofun;obtain⟨gn,sl,lg,hg⟩:=zK (ki ns 148 (m:=3) nofun) (kA ns 148 (m:=3) nofun);generalize dr ns 148 3=q at *;obtain⟨Kp,e4,hs⟩:=Bq 14 ns (k:=130) nofun nofun;obtain⟨c,e5,hc⟩:=vU 14 ns (k:=145) nofun nofun;obtain⟨rs,e6,lr,hr⟩:=zm 11 ns (k:=300) nofun nofun (ms:=ms) (gn:=gn) (fs:=fs) ⋯ ⋯ ⋯ ⋯ ⋯ hs hc (pl:=77) nofun nofun 9;obtain⟨sc,e7,Yy⟩:=Bn 14 ns (k:=100) nofun nofun;obtain⟨rest,ix,_⟩:=kL (fs:=fs) (i:=3) nofun ⋯;have l3:(fs.take 3).length=3:=by rw[aab];omega
 obtain⟨al,fr,e8,h1,h2,h3⟩:=zr 14 ns (k:=280) nofun nofun (fs:=fs.take 3) ⋯ ⋯ 77;have lal:al.length<=100:=⋯
 have hh:Gs.ok 2 ⟨.str (JC sc),rest,rs.map Rl.g,OY al fr⟩:=⟨(uZ Yy).2,rfl,λr Ou=>by
  obtain⟨r,QI,rfl⟩:=List.mem_map.mp Ou
  exact(Cs hg (hr r QI)).2,Hv lal h2 h3,by show(rs.map Rl.g).length<=10;rw[i_];omega⟩
 have hn:Nx gn ⟨.str (JC sc),rest,rs.map Rl.g,OY al fr⟩=Φ:=by unfold Nx;rw[(uZ Yy).1];show(rs.map Rl.g).findSome? (o7 gn)=Φ;rw[List.findSome?_eq_none_iff];intro r Ou;obtain⟨r,QI,rfl⟩:=List.mem_map.mp Ou;exact(Cs hg (hr r QI)).1
 have hH:=zJ (show 2 < 4000 by decide) hh;have c1:dj T 16 65 [Gs.d ⟨.str (JC sc),rest,rs.map Rl.g,OY al fr⟩]=.ok (.tup [.str (JC sc),.str rest,.lst Θ (ows ((rs.map Rl.g).map Gl.d)),ow (OY al fr)]):=copy 8 8 hH;have ac:iM (.tup [.str (JC sc),.str rest,.lst Θ (ows ((rs.map Rl.g).map Gl.d)),ow (OY al fr)])=Θ:=tD 8 _ hH;have hG:er (.tup [.str (JC sc),.str rest,.lst Ξ ((rs.map Rl.g).map Gl.d),.tup [.lst Θ (al.map ML),.lst Ξ (fr.map JH)]])=Gs.d ⟨.str (JC sc),rest,rs.map Rl.g,OY al fr⟩:=by show D.tup [.str (JC sc),.str rest,.lst Ξ (Jz ((rs.map Rl.g).map Gl.d)),.tup [.lst Ξ (Jz (al.map ML)),.lst Ξ (Jz (fr.map JH))]]=_;rw[k9 hh.rs,zi,j6];rfl
 have t2:=λo3 s1 s2 s4 s5=>EO ns lg hh hn hG o3 s1 s2 s4 s5;have t2:∀(o3:Bool) (s1 s2 s4 s5:Å),iD (dj T 16) Su [Δ (.lst Ξ (ns.map .int)),s1,s2,Δ (.lst o3 (gn.map .str)),s4,s5,Δ (.lst Θ (ows ((rs.map Rl.g).map Gl.d))),Δ (.tup [.str (JC sc),.str rest,.lst Ξ ((rs.map Rl.g).map Gl.d),.tup [.lst Θ (al.map ML),.lst Ξ (fr.map JH)]]),Δ (.str (JC sc)),Δ (.str rest),Δ (ow (OY al fr)),Φ,Φ,Φ,Φ]=.ok (.rt (.bl Θ)):=t2;have em:=jk ms;have ef:=jk fs;have eg:=jk gn;have am:=qK ms;have af:=qK fs;have lfg:=tq gn;have ert:Jz (rs.map Rl.t)=(rs.map Rl.g).map Gl.d:=by rw[Ey,Ho]
 have erd:=k9 hh.rs;have Yz:Jz ((rs.map Rl.g).map Gl.d)=(rs.map Rl.g).map Gl.d:=erd;have eal:=zi al;have Yt:=j6 fr;have QT:∀o,mR (.lst o (fs.map D.str)) Φ (Δ 3)=.ok (.lst Θ ((fs.take 3).map .str)):=λo=>by rw[fO];congr 2;unfold jY HT.J1;simp[lf,List.map_take]
 have ef3:=jk (fs.take 3);have PD:Gs.d ⟨.str (JC sc),rest,rs.map Rl.g,OY al fr⟩=.tup [.str (JC sc),.str rest,.lst Ξ ((rs.map Rl.g).map Gl.d),.tup [.lst Ξ (al.map ML),.lst Ξ (fr.map JH)]]:=rfl;rw[PD]at c1;clear hG PD hH hn hr h2 h3 Yy erd hh;have e1:dj T 16 44 [.lst Ξ (ns.map .int),.int 0,.int 3]=.ok (.lst Θ (ms.map .str)):=e1;have e2:dj T 16 44 [.lst Ξ (ns.map .int),.int 50,.int 4]=.ok (.lst Θ (fs.map .str)):=e2;have e4:dj T 16 49 [.lst Ξ (ns.map .int),.int 130]=.ok (.str (JC Kp)):=e4;have e5:dj T 16 51 [.lst Ξ (ns.map .int),.int 145]=.ok (.int c):=e5;have e6:dj T 16 58 [.lst Ξ (ns.map .int),.int 300,.lst Ξ (ms.map .str),.lst Ξ (gn.map .str),.lst Ξ (fs.map .str),.str (JC Kp),.int c,.int 77,.int 9]=.ok (.lst Θ (rs.map Rl.t)):=e6;have e7:dj T 16 45 [.lst Ξ (ns.map .int),.int 100]=.ok (.str (JC sc)):=e7;have e8:dj T 16 48 [.lst Ξ (ns.map .int),.int 280,.lst Ξ ((fs.take 3).map .str),.int 77]=.ok (.tup [.lst Θ (al.map ML),.lst Ξ (fr.map JH)]):=e8;have tM:∀(o2 o3:Bool) (s1 s4 s5:Å),iD (dj T 16) VE [Δ (.lst Ξ (ns.map .int)),s1,Δ (.lst o2 (fs.map .str)),Δ (.lst o3 (gn.map .str)),s4,s5,Δ (.lst Θ (rs.map Rl.t)),Φ,Φ,Φ,Φ,Φ,Φ,Φ,Φ]=.ok (.rt (.bl Θ)):=by intro o2 o3 s1 s4 s5;have vs:vars (.sl (.v 2) Φ (Δ (.c (.int 3))))=[2]:=rfl;unfold VE;clear e1 am e2 af d3 sl e4 e5 e6;generalize(fs.take 3).map D.str=F3,fs.map D.str=FS,ms.map D.str=MS,gn.map D.str=GN,ns.map D.int=NS,rs.map Rl.t=RT,ows ((rs.map Rl.g).map Gl.d)=RO at *;generalize(rs.map Rl.g).map Gl.d=RD,ow (OY al fr)=AO,al.map ML=AT,fr.map JH=FR,JC sc=SC,JC Kp=SM,Su=tl,dj T 16=cl at *;simp![vs,ei,ef,eg,lfg,e7,ix,ert,Yz,QT,ef3,e8,eal,Yt,c1,ac,t2]
 clear t2;rw[gx 62 VN 1 15 Yi rfl];unfold Yi;generalize fs.map D.str=FS,ms.map D.str=MS,gn.map D.str=GN,ns.map D.int=NS,rs.map Rl.t=RT,JC Kp=SM,VE=tl,dj T 16=cl at *;cases ar:jg RT<;>simp -implicitDefEqProofs (disch:=omega) only[Jq,Nat.reduceBEq,Nat.reduceSub,Nat.reduceAdd,reduceIte,Ji,Jj,eO,eP,↓Jn,↓Jo,↓Jp,Jk,Jl,Jm,cond_true,cond_false,b_,List.map_nil,c_,List.nil_append,Bool.true_or,Bool.false_or,gO,gP,gQ,gR,ÿaj,gU,fD,fE,g9,hU,cW,bc,fK,fL,cX,cY,fJ,cZ,bh,dA,aL,br,bt,bu,dC,aN,bw,bx,dE,aO,bA,aP,bC,bD,bE,bF,bG,dK,aQ,bJ,bN,bP,aR,aT,dO,dP,bT,aV,aW,ag,aB,aX,bU,bZ,d7,ek,b8,eB,eC,cb,aD,cf,cq,cw,cy,cz,eD,eE,cB,cC,cD,ba,cH,cJ,dv,fN,dt,dw,IY,IZ,I0,dx,dz,bq,dB,aM,dD,fR,dF,dG,dH,dI,dJ,fS,bH,fT,fU,fV,fW,fX,fY,fZ,bK,bL,f6,bM,dM,dN,bQ,f7,f9,bR,gb,gc,gf,gh,aU,gk,az,aA,dQ,dR,gm,gp,gq,Ja,ÿb,ÿag,ÿah,ÿa,Jb,dS,dT,dU,dW,dX,gr,ah,aj,aC,dY,bV,bW,bX,dZ,bY,gu,gy,aY,b9,Jc,Jd,Je,Jf,ÿaa,cg,ck,ÿab,cu,ÿac,ÿae,ÿad,cA,aZ,eF,du,eG,ÿai,ÿaf,gA,gB,eI,eJ,eK,eL,dq,gC,gD,eM,eN,eQ,bg,cE,eR,cG,eS,fO,gE,gF,gG,fP,eU,eV,e9,fg,ft,gH,gI,gJ,gK,gM,fu,cI,Jg,Jh,gN,fQ,fy,fA,fB,cK,cL,cM,fC,cN,cO,cP,cQ,aE,aF,aG,aH,aI,aJ,aK,ak,aq,au,av,aw,ax,ay,ae,fF,fG,cR,cS,cT,cU,cV,gV,gW,gX,gY,gZ,fH,fI,dn,g6,g7,hJ,bf,dg,fM,dh,ei,e1,am,e2,af,d3,sl,lfg,e4,e5,em,ef,eg,e6,ar,tM]
def holds (ns:Ë)(h:ns.length<=63):dj T (16+1) Em [.lst Ξ (ns.map .int)]=.ok (.bl Θ):=ER ns
end Law
structure PySem.W.Fast:Prop where
 (tw15287326528623251431 tw11940966414502097338 tw3606964300499993207 tw1686501018304898975 tw15666176911579183369 tw2195153812269840886 tw11277169305565659069 tw12515065820420681523 tw16013991315860234323 tw12674615140183822732 tw5665116303745757966 tw15570688321183985971 tw2689049731596404986 tw1865227189220399168 tw5155639854546271553 tw4582873216097902608 tw12925808249322548026 tw12720783598341748542 tw6809111971869792324 tw7219580323955739636 tw449050822164152756 tw239616595727906522 tw3819972218933079247 tw16276636009382157938 tw12501150456666509457 tw15793951815359209869 tw1898570200030125958 tw6421126928633072336 tw17555106646635156009 tw7710035171863395421 tw4176242914062909795 tw12088653809627896683 tw15450448952468071487 tw5168998910004913248 tw14025100787943647634 tw7895689118198743140 tw8600453641343206799 tw3198196049989088996 tw607941440484108865 tw4855478272189603417 tw3071019975113263673 tw17761308164507605533 tw8357355078059086285 tw10772010248761321514 tw3629181927967051968 tw15270595661626681355 tw12860886122603473767 tw17777518847540173135 tw6210225409610464827 tw14305398281402740297 tw12103880236370679194 tw4404956586021961522 tw5768073444947858784 tw17602969343903022078 tw12062303685008811339 tw7768680154717281362 tw3181921267591204688 tw10716273440995087843 tw17611155528660101804 tw10748429556527949633 tw2269165883325898346 tw14238950908036895729 tw10317138588541145146 tw9059935485435274946 tw1852280730457820315 tw12320855473756941859 tw9342570826642957976 tw13095345797983588963 tw9335961970342297767 tw5804258002579989501 tw402041236606414242 tw1415996425953415324 tw15926369212530624760 tw1173977123337288100 tw6971355482247087679 tw3807666844731750552 tw13422607827980428593 tw978981989843058072 tw8085201016644573607 tw10883395092866625149 tw18215297127666994799 tw5567727560742559634 tw8584697880011671598 tw18276982439457265055 tw4456371932588299238 tw2270224935718945655 tw2916425780488857220 tw6302657176611625222 tw703985546762641501 tw715215812822811113 tw15546677609609460616 tw13403536876766634053 tw6437513538208057193 tw13263476806727574300 tw17723616577038396773 tw7330244195914433086 tw12462369561812102184 tw8914460134617072878 tw9137874808384275878 tw12281915209529007697 tw7264238813187642246 tw8718021186822152200 tw7035135513572512917 tw11006535784599562461 tw15002613453804028776 tw2739992276939185545 tw3840961500496704241 tw6224631236875281685 tw688195348663640488 tw15586610353372886255 tw2500489893417329475 tw11793504847904183757 tw9204502547853652188 tw16778745720597845999 tw4141164744158744568 tw2038123199722637102 tw14128220466186041982 tw1449203434302530463 tw7822051190309036315 tw9748398703214681197 tw9160755563006717934 tw950213071443094733 tw10867070104429785920 tw9587294443266055158 tw5983606806857152495 tw5666553809715066133 tw2611927860245863135 tw18266272193117527119 tw1495489354494816735 tw12482138272811936746:True)
open PySem PySem.W PyProof.Rows
set_option maxRecDepth 100000 in
set_option maxHeartbeats 0 in
theorem PySem.Challenge.cw_flagroll_k33_switch_refused_holds : PySem.Challenge.rw_flagroll_k33_switch_refused.Holds := by
  w_on; o_law; k_head; (case hw =>w_witness2)
  k_fill
  refine L2.yC (l :=PySem.Challenge.rw_flagroll_k33_switch_refused) (T :=Law.T) (n :=16) (f :=Law.Em) (x :=Law.Bf) rfl rfl ⟨fun _ =>rfl,by decide,by decide⟩ (fun w h Y =>PySem.W.kIn_of Y) ?F Law.holds
  case F =>
    intro w mg fa h KX G hmg
    refine' Law.all_mk KX G hmg (Law.dfo Law.c32 rfl (fun _ _ _ _ _ _ =>Law.ln1 fun _ =>rfl) KX G ?a32 ?l32 ?e32 ?k32) (Law.dfo Law.c25 rfl (fun _ _ _ _ _ _ =>Law.ln4 fun _ _ _ _ =>rfl) KX G ?a25 ?l25 ?e25 ?k25) (Law.dfo Law.c26 rfl (fun _ _ _ _ _ _ =>Law.ln1 fun _ =>rfl) KX G ?a26 ?l26 ?e26 ?k26) (Law.dfo Law.c33 rfl (fun _ _ _ _ _ _ =>Law.ln2 fun _ _ =>rfl) KX G ?a33 ?l33 ?e33 ?k33) (Law.dfo Law.c34 rfl (fun _ _ _ _ _ _ =>Law.ln1 fun _ =>rfl) KX G ?a34 ?l34 ?e34 ?k34) (Law.dfo Law.c35 rfl (fun _ _ _ _ _ _ =>Law.ln2 fun _ _ =>rfl) KX G ?a35 ?l35 ?e35 ?k35) (Law.dfo Law.c36 rfl (fun _ _ _ _ _ _ =>Law.ln2 fun _ _ =>rfl) KX G ?a36 ?l36 ?e36 ?k36) (Law.dfo Law.c37 rfl (fun _ _ _ _ _ _ =>Law.ln1 fun _ =>rfl) KX G ?a37 ?l37 ?e37 ?k37) (Law.dfo Law.c38 rfl (fun _ _ _ _ _ _ =>Law.ln1 fun _ =>rfl) KX G ?a38 ?l38 ?e38 ?k38) (Law.dfo Law.c39 rfl (fun _ _ _ _ _ _ =>Law.ln2 fun _ _ =>rfl) KX G ?a39 ?l39 ?e39 ?k39) (Law.dfo Law.c43 rfl (fun _ _ _ _ _ _ =>Law.ln3 fun _ _ _ =>rfl) KX G ?a43 ?l43 ?e43 ?k43) (Law.dfo Law.c44 rfl (fun _ _ _ _ _ _ =>Law.ln3 fun _ _ _ =>rfl) KX G ?a44 ?l44 ?e44 ?k44) (Law.dfo Law.c45 rfl (fun _ _ _ _ _ _ =>Law.ln2 fun _ _ =>rfl) KX G ?a45 ?l45 ?e45 ?k45) (Law.dfo Law.c48 rfl (fun _ _ _ _ _ _ =>Law.ln4 fun _ _ _ _ =>rfl) KX G ?a48 ?l48 ?e48 ?k48) (Law.dfo Law.c49 rfl (fun _ _ _ _ _ _ =>Law.ln2 fun _ _ =>rfl) KX G ?a49 ?l49 ?e49 ?k49) (Law.dfo Law.c50 rfl (fun _ _ _ _ _ _ =>Law.ln3 fun _ _ _ =>rfl) KX G ?a50 ?l50 ?e50 ?k50) (Law.dfo Law.c51 rfl (fun _ _ _ _ _ _ =>Law.ln2 fun _ _ =>rfl) KX G ?a51 ?l51 ?e51 ?k51) (Law.dfo Law.c52 rfl (fun _ _ _ _ _ _ =>Law.ln3 fun _ _ _ =>rfl) KX G ?a52 ?l52 ?e52 ?k52) (Law.dfo Law.c53 rfl (fun _ _ _ _ _ _ =>Law.ln4 fun _ _ _ _ =>rfl) KX G ?a53 ?l53 ?e53 ?k53) (Law.dfo Law.c54 rfl (fun _ _ _ _ _ _ =>Law.ln6 fun _ _ _ _ _ _ =>rfl) KX G ?a54 ?l54 ?e54 ?k54) (Law.dfo Law.c56 rfl (fun _ _ _ _ _ _ =>Law.ln4 fun _ _ _ _ =>rfl) KX G ?a56 ?l56 ?e56 ?k56) (Law.dfo Law.c57 rfl (fun _ _ _ _ _ _ =>Law.ln5 fun _ _ _ _ _ =>rfl) KX G ?a57 ?l57 ?e57 ?k57) (Law.dfo Law.c58 rfl (fun _ _ _ _ _ _ =>Law.ln9 fun _ _ _ _ _ _ _ _ _ =>rfl) KX G ?a58 ?l58 ?e58 ?k58) (Law.dfo Law.c64 rfl (fun _ _ _ _ _ _ =>Law.ln2 fun _ _ =>rfl) KX G ?a64 ?l64 ?e64 ?k64) (Law.dfo Law.c65 rfl (fun _ _ _ _ _ _ =>Law.ln1 fun _ =>rfl) KX G ?a65 ?l65 ?e65 ?k65) (Law.dfo Law.c42 rfl (fun _ _ _ _ _ _ =>Law.ln2 fun _ _ =>rfl) KX G ?a42 ?l42 ?e42 ?k42) (Law.GO Law.c55 rfl (fun _ _ _ _ _ _ =>Law.ln4 fun _ _ _ _ =>rfl) KX G ?a55 ?l55 ?e55 ?k55) (Law.GO Law.c59 rfl (fun _ _ _ _ _ _ =>Law.ln3 fun _ _ _ =>rfl) KX G ?a59 ?l59 ?e59 ?k59) (Law.dfo Law.c40 rfl (fun _ _ _ _ _ _ =>Law.ln1 fun _ =>rfl) KX G ?a40 ?l40 ?e40 ?k40) (Law.dfo Law.c41 rfl (fun _ _ _ _ _ _ =>Law.ln2 fun _ _ =>rfl) KX G ?a41 ?l41 ?e41 ?k41) (Law.dfo Law.c46 rfl (fun _ _ _ _ _ _ =>Law.ln2 fun _ _ =>rfl) KX G ?a46 ?l46 ?e46 ?k46) (Law.dfo Law.c47 rfl (fun _ _ _ _ _ _ =>Law.ln2 fun _ _ =>rfl) KX G ?a47 ?l47 ?e47 ?k47) (Law.dfo Law.c60 rfl (fun _ _ _ _ _ _ =>Law.ln2 fun _ _ =>rfl) KX G ?a60 ?l60 ?e60 ?k60) (Law.dfo Law.c61 rfl (fun _ _ _ _ _ _ =>Law.ln1 fun _ =>rfl) KX G ?a61 ?l61 ?e61 ?k61) ?a62 ?l62 ?e62 ?k62 ?q21 ?q22 ?q23 ?q24 ?q27 ?r27 ?q28 ?q29 ?q30 ?q31 ?r31 ?hx ?hb
    (case a32 | l32 | e32 | k32 | a25 | l25 | e25 | k25 | a26 | l26 | e26 | k26 | a33 | l33 | e33 | k33 | a34 | l34 | e34 | k34 | a35 | l35 | e35 | k35 | a36 | l36 | e36 | k36 | a37 | l37 | e37 | k37 | a38 | l38 | e38 | k38 | a39 | l39 | e39 | k39 | a43 | l43 | e43 | k43 | a44 | l44 | e44 | k44 | a45 | l45 | e45 | k45 | a48 | l48 | e48 | k48 | a49 | l49 | e49 | k49 | a50 | l50 | e50 | k50 | a51 | l51 | e51 | k51 | a52 | l52 | e52 | k52 | a53 | l53 | e53 | k53 | a54 | l54 | e54 | k54 | a56 | l56 | e56 | k56 | a57 | l57 | e57 | k57 | a58 | l58 | e58 | k58 | a64 | l64 | e64 | k64 | a65 | l65 | e65 | k65 | a42 | l42 | e42 | k42 | a55 | l55 | e55 | k55 | a59 | l59 | e59 | k59 | a40 | l40 | e40 | k40 | a41 | l41 | e41 | k41 | a46 | l46 | e46 | k46 | a47 | l47 | e47 | k47 | a60 | l60 | e60 | k60 | a61 | l61 | e61 | k61 | a62 | l62 | e62 | k62 | q21 | q22 | q23 | q24 | q27 | r27 | q28 | q29 | q30 | q31 | r31 =>k_is)
    (case hx | hb =>kernel_rfl)
#print axioms PySem.Challenge.cw_flagroll_k33_switch_refused_holds
