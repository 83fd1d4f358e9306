import PyProof.Rows.All
import Wide.All
import OpenK.AllK
import Wide.FinOn
import Lean
import PyProof.EqAt
import PyProof.EqKinds
import PyProof.TupleCall
import PyProof.NeKinds
import KE.KRevIter
import KE.KSortTup
import Wide.Txt2
import PyProof.FString4
import KE.KIntText
import PyProof.ZipIter
import PyProof.TupleIter
import PyProof.WalksMore
import PyProof.Rows.SortShell
import KE.KDictSum
import PyProof.Rows.SortStr
import PyProof.Rows.SetFrom
import PyProof.DictUpdate
import KE.KDictOf
import PyProof.AttrMissSeq
import KE.KDictList
import KE.KDictIter
import PyProof.Rows.SortWalk
import PyProof.EnumMake
import PyProof.EnumFor
import PyProof.Rows.EnumRows
import KE.KIsAll
import PyProof.ExcArgsOwn
import PyProof.ExcAttrAll.ValueError
import OpenK.KDescr
import PyProof.StationsW
import OpenK.KOwn
import KE.KTryMore
import OpenK.KRaise
import PyProof.RulesDel
import PyProof.RulesAs
import PyProof.Rows.Catch
import PySem.Challenge.RW_flagroll_k32_nobody_loses
local macro_rules | `(⋯) => `(by omega)
local macro_rules | `(nofun) => `(by decide)
open PySem.W (Frag)
def a_:=@PySem.wpAny_bind
def b_:=@List.map_cons
def c_:=@List.cons_append
def d_:=@if_neg
def e_:=@PySem.wpAny_pure
def f_:=@if_pos
def g_:=@Bool.and_eq_true
def h_:=@LawfulBEq.eq_of_beq
def i_:=@List.length_map
def j_:=@PySem.Heap.lt_size
def k_:=@List.mem_cons
def l_:=@PySem.Heap.get?_push_of_some
def m_:=@Nat.le_refl
def n_:=@Nat.ne_of_lt
def o_:=@List.length_append
def p_:=@Bool.false_ne_true
def q_:=@of_decide_eq_true
def r_:=@List.mem_append_left
def s_:=@List.mem_append_right
def t_:=@List.nodup_append
def u_:=@List.mem_singleton
def v_:=@List.mem_append
def w_:=@PySem.Heap.get?_push_size
def x_:=@List.getElem?_eq_some_iff
def y_:=@List.getElem?_eq_getElem
def z_:=@Bool.and_eq_true_iff
def A_:=@List.getElem?_map
def B_:=@List.append_assoc
def C_:=@Nat.lt_of_lt_of_le
def D_:=@Option.some.inj
def E_:=@List.size_toArray
def F_:=@decide_eq_true
def G_:=@List.map_append
def H_:=@List.map_map
def I_:=@List.mem_cons_of_mem
def J_:=@PySem.W.mg_none_of
def K_:=@List.nodup_cons
def L_:=@List.length_take
def M_:=@PySem.wpAny_holding
def N_:=@PySem.wpAny_field
def O_:=@Nat.le_trans
def P_:=@Array.length_toList
def Q_:=@Nat.ne_of_gt
def R_:=@List.not_mem_nil
def S_:=@decide_eq_false
def T_:=@Nat.lt_irrefl
def U_:=@PySem.Heap.size_push
def V_:=@List.all_eq_true
def W_:=@List.length_singleton
def X_:=@PySem.wpAny_seqItems
def Y_:=@Bool.or_eq_true
def Z_:=@List.mem_range
def aaa:=@List.length_drop
def aab:=@Nat.zero_le
def aac:=@PySem.wpAny_call_entry
def aad:=@PySem.wpAny_setField_rec
def aae:=@List.mem_of_getElem?
def aaf:=@PySem.Heap.get?_update_other
def aag:=@List.perm_append_comm
def aah:=@List.map_congr_left
def aai:=@List.append_nil
def aaj:=@Nat.le_add_right
def aak:=@List.getElem_mem
def aal:=@List.Perm.append_left
def aam:=@List.length_range
def aan:=@List.getElem?_append_left
def aao:=@PySem.Heap.get?_update_self
def aap:=@PySem.wpAny_newObj_type
def aaq:=@Bool.false_eq_true
def aar:=@Array.getElem?_toList
def aas:=@PySem.wpAny_pyIter_list
def aat:=@List.getD_eq_getElem?_getD
def aau:=@List.getElem?_set_ne
def aav:=@PyProof.Rows.callWith_type1
def aaw:=@List.getElem?_append_right
def aax:=@Int.toNat_natCast
def aay:=@PySem.Heap.SameBut.update
def aaz:=@List.mem_iff_getElem?
def aaA:=@List.lookup_cons
def aaB:=@List.singleton_append
def aaC:=@List.mem_cons_self
def aaD:=@PySem.wpAny_Call_Name_kw
def aaE:=@Option.map_eq_some_iff
def aaF:=@PySem.Around.under_plainId
def aaG:=@List.getElem?_cons_succ
open Option renaming some → Δ
open Bool renaming true → Θ
open Bool renaming false → Ξ
open Option renaming none → Φ
open PySem renaming Value → Ψ
open PySem renaming Addr → Ω
open PySem renaming Shared → Α
open PySem renaming World → Β
open PySem renaming Program → Ε
open PySem renaming sizeLine → Ζ
open PySem renaming mainGlobals → Η
open PySem renaming Around → Ι
open PySem renaming wpAny → Κ
open PySem renaming model → Μ
open PySem renaming starEach → Ν
open PySem renaming FuncData → Ο
open PySem.Str renaming ofString → Ρ
open List renaming replicate → Τ
open PySem.NameKind renaming free → Υ
open PySem.Builtin.List renaming listExtendWith → Χ
open PySem.Builtin.SmallTypes renaming nextOf → ζ
open PySem.Builtin.SmallTypes renaming ownedTupleIsFree → η
open PySem.Value renaming ref → θ
open PySem.Obj renaming mapSeq → ι
namespace L2
theorem zE:type_of% @PySem.Expr.casesOn.{0}:=@PySem.Expr.casesOn.{0}
theorem zS:type_of% @PySem.Stmt.casesOn.{0}:=@PySem.Stmt.casesOn.{0}
theorem zL:type_of% @List.casesOn.{0,0}:=@List.casesOn.{0,0}
theorem zO:type_of% @Option.casesOn.{0,0}:=@Option.casesOn.{0,0}
theorem zB:type_of% @Bool.casesOn.{0}:=@Bool.casesOn.{0}
end L2
set_option maxHeartbeats 8000000
set_option Elab.async false
set_option linter.all false
set_option maxRecDepth 100000
namespace L2
open PySem PySem.Spec PyProof.Rows
abbrev Key:=Sum Int Str
noncomputable def xT:Key->Ψ->Bool
 | .inl k,v=>Value.isInt k v
 | .inr x,v=>Value.isStrOf x v
noncomputable def EL (w:Β):Key->Int
 | .inl k=>hashInt k
 | .inr x=>hashStr w x
theorem cW:∀ {k:Key}{v:Ψ},xT k v=Θ->(∃ i t,k=Sum.inl i/\v=Value.int i t)∨(∃ x t,k=Sum.inr x/\v=Value.str x t)
 | .inl i,v,h=>by obtain⟨t,e⟩:=Value.isInt_shape (k:=i) (v:=v) h;exact .inl ⟨i,t,rfl,e⟩
 | .inr x,v,h=>by obtain⟨t,e⟩:=Value.isStrOf_shape (x:=x) (v:=v) h;exact .inr ⟨x,t,rfl,e⟩
theorem zJ (a b:Int):decide ((Sum.inl a:Key)=Sum.inl b)=(a == b):=by
 by_cases e:a=b
 ·subst e;simp
 ·have h:¬ (Sum.inl a:Key)=Sum.inl b:=fun q=>e (Sum.inl.inj q);rw[S_ h];exact(beq_eq_false_iff_ne.mpr e).symm
theorem zK (a b:Str):decide ((Sum.inr a:Key)=Sum.inr b)=decide (a=b):=by
 by_cases e:a=b
 ·subst e;simp
 ·have h:¬ (Sum.inr a:Key)=Sum.inr b:=fun q=>e (Sum.inr.inj q);rw[S_ h,S_ e]
theorem zM (a:Int)(b:Str):decide ((Sum.inl a:Key)=Sum.inr b)=Ξ:=S_ (fun q=>nomatch q)
theorem zN (a:Str)(b:Int):decide ((Sum.inr a:Key)=Sum.inl b)=Ξ:=S_ (fun q=>nomatch q)
noncomputable def ik (prog:Ε)(w:Β):PySem.KeyKind prog w Key where
 is:=xT
 hash:=EL w
 inj:=fun v a b ha hb=>by
  rcases cW ha with ⟨i,t,rfl,rfl⟩|⟨x,t,rfl,rfl⟩
  ·rcases cW hb with ⟨j,u,rfl,e⟩|⟨y,u,rfl,e⟩
   ·injection e with e1 _;rw[e1]
   ·exact nomatch e
  ·rcases cW hb with ⟨j,u,rfl,e⟩|⟨y,u,rfl,e⟩
   ·exact nomatch e
   ·injection e with e1 _;rw[e1]
 byValue:=fun k v h=>by rcases cW h with ⟨i,t,rfl,rfl⟩|⟨x,t,rfl,rfl⟩<;>rfl
 pyHash:=fun hv h=>by
  rcases cW hv with ⟨i,t,rfl,rfl⟩|⟨x,t,rfl,rfl⟩
  ·exact wpAny_pyHash_int h
  ·exact wpAny_pyHash_str h
 eqBool:=fun hu hv h=>by
  rcases cW hu with ⟨i,t,rfl,rfl⟩|⟨x,t,rfl,rfl⟩
  ·rcases cW hv with ⟨j,u,rfl,rfl⟩|⟨y,u,rfl,rfl⟩
   ·rw[zJ] at h;exact wpAny_eqBool_int h
   ·rw[zM] at h;exact SeqAt.EqAt.int_str i t y u _ _ _ _ h
  ·rcases cW hv with ⟨j,u,rfl,rfl⟩|⟨y,u,rfl,rfl⟩
   ·rw[zN] at h;exact SeqAt.EqAt.str_int x t j u _ _ _ _ h
   ·rw[zK] at h;exact wpAny_eqBool_str h
 «strs»:=fun k x t v h=>by
  rcases cW h with ⟨i,u,rfl,e⟩|⟨y,u,rfl,e⟩
  ·exact nomatch e
  ·injection e with e1 _;subst e1;cases v<;>rfl
inductive V where
 | F4|bl (b:Bool)|int (i:Int)|str (x:Str)|Mu (b:Array UInt8)|Rc (b:UInt64)|ref (a:Ω)|ty (n:String)
 deriving DecidableEq
def RelV:V->Ψ->Prop
 | .F4,u=>u=Value.none
 | .bl b,u=>u=Value.bool b
 | .int i,u=>∃ t,u=Value.int i t
 | .str x,u=>∃ t,u=Value.str x t
 | .Mu b,u=>∃ t,u=Value.bytes b t
 | .Rc b,u=>∃ t,u=Value.float b t
 | .ref a,u=>u=θ a
 | .ty n,u=>u=Value.type n
abbrev Vals:List V->List Ψ->Prop:=Paired RelV
theorem Vals.length {xs:List V}{us:List Ψ}(r:Vals xs us):xs.length=us.length:=Paired.length r
theorem Vals.get:∀ {xs:List V}{us:List Ψ}{i:Nat}{x:V},Vals xs us->xs[i]? = Δ x->∃ u,us[i]? = Δ u/\RelV x u
 | _,_,_,_,.nil,e=>by simp at e
 | _,_,0,_,.cons r _,e=>by simp at e;subst e;exact⟨_,rfl,r⟩
 | _,_,i+1,x,.cons _ t,e=>by obtain⟨u,h1,h2⟩:=Vals.get (i:=i) (x:=x) t (by simpa using e);exact⟨u,by simpa using h1,h2⟩
theorem Vals.set {x:V}{u:Ψ}(r:RelV x u):∀ {xs:List V}{us:List Ψ} (i:Nat),Vals xs us->Vals (xs.set i x) (us.set i u)
 | _,_,_,.nil=>.nil
 | _,_,0,.cons _ t=>.cons r t
 | _,_,i+1,.cons q t=>.cons q (Vals.set r i t)
theorem Vals.append:∀ {xs ys:List V}{us ws:List Ψ},Vals xs us->Vals ys ws->Vals (xs++ys) (us++ws)
 | _,_,_,_,.nil,s=>s
 | _,_,_,_,.cons r t,s=>.cons r (Vals.append t s)
theorem Vals.take:∀ {xs:List V}{us:List Ψ} (n:Nat),Vals xs us->Vals (xs.take n) (us.take n)
 | _,_,0,_=>.nil
 | _,_,_+1,.nil=>.nil
 | _,_,n+1,.cons r t=>.cons r (Vals.take n t)
theorem Vals.drop:∀ {xs:List V}{us:List Ψ} (n:Nat),Vals xs us->Vals (xs.drop n) (us.drop n)
 | _,_,0,r=>r
 | _,_,_+1,.nil=>.nil
 | _,_,n+1,.cons _ t=>Vals.drop n t
def B3:Option V->Option Ψ->Prop
 | some v,Δ u=>RelV v u
 | none,Φ=>True
 | _,_=>False
def KV {κ:Type}:List (κ×V)->List (κ×Ψ)->Prop:=Paired fun (p:κ×V) (q:κ×Ψ)=>p.1=q.1/\RelV p.2 q.2
noncomputable def kV:Key->V
 | .inl i=>.int i
 | .inr x=>.str x
inductive HO where
 | lst (xs:List V)
 | tup (xs:List V)
 | dK (Gd:List (Key×V))|dT (Gd:List (List Key×V))
 | set (S:Int->Bool) (n:Nat)
 | ins (C dx:Ω) (fs:List (Str×V))
 | own (x:Ω)
 | xd (fs:List (Str×V))
 | met (f x:Ω)
 | Ks (lo hi:Int)
 | Gh (o:Obj) (u:HO)
 | LV (ps:Array Ψ)
 | ext (φ:Heap->Prop)
abbrev Hp:=Ω->Option HO
noncomputable def upd (H:Hp)(a:Ω)(o:HO):Hp:=fun b=>if b=a then Δ o else H b
theorem cv {H:Hp}{a:Ω}{o:HO}:upd H a o a=Δ o:=by unfold upd;rw[f_ rfl]
theorem cu {H:Hp}{a b:Ω}{o:HO}(h:b≠a):upd H a o b=H b:=by unfold upd;rw[d_ h]
theorem cP {H:Hp}{a b:Ω}{o:HO}(h:H a=Δ o)(h':H b=Φ):a≠b:=by intro e;subst e;rw[h] at h';cases h'
section
variable (P:Ε)(w:Β)
def cY (H:Hp)(h:Heap)(a:Ω):HO->Prop
 | .lst xs=>xs.length<=Ζ/\∃ (its:List Ψ) (n:Nat),Vals xs its/\h.get? a=Δ {cls:=.type "list",data:=.seq its.toArray n}
 | .tup xs=>xs.length<=Ζ/\∃ its:List Ψ,Vals xs its/\IsTup h a its.toArray
 | .dK Gd=>Gd.length<=Ζ/\(a == sysModules)=Ξ/\∃ vs,KV Gd vs/\h.DictOf (ik P w) a vs
 | .dT Gd=>Gd.length<=Ζ/\(a == sysModules)=Ξ/\∃ xs:List (List Key×Ω×Ψ),
   Paired (fun (p:List Key×V) (q:List Key×Ω×Ψ)=>p.1=q.1/\H q.2.1=Δ (.tup (p.1.map kV))/\RelV p.2 q.2.2) Gd xs/\
   ∃ o es ep,h.get? a=Δ o/\o.ExactDict/\o.data=.dict es ep/\es.toList=xs.map (entryOfKey (tupleKind (ik P w)))/\(xs.map (·.1)).Nodup
 | .set S n=>h.SetOf (intKind P w) a S n
 | .ins C dx fs=>H dx=Δ (.own a)/\fs.length<=1000/\dx≠a/\h.get? a=Δ (PySem.W.instObj C dx)/\
   ∃ mA,h.Ns1 dx mA/\(∀ f,B3 (fs.lookup f) (mA f))/\PySem.Within mA (fs.map (·.1))
 | .own _=>∃ o,h.get? a=Δ o
 | .xd fs=>∃ mA,h.Ns1 a mA/\∀ f,B3 (fs.lookup f) (mA f)
 | .Ks lo hi=>∃ t u v,h.get? a=Δ {cls:=.type "range",data:=.fields #[.int lo t,.int hi u,.int 1 v]}
 | .Gh o u=>h.get? a=Δ o/\cY H h a u
 | .LV ps=>h.get? a=Δ {cls:=.none,data:=.fields ps}
 | .met f x=>h.get? a=Δ (PySem.W.methodObj (.ref f) (.ref x))
 | .ext φ=>φ h/\(∃ o,h.get? a=Δ o)/\∀ h1 h2:Heap,φ h1->(∀ o,h1.get? a=Δ o->h2.get? a=Δ o)->φ h2
def GW (H:Hp)(h:Heap):Prop:=∀ a o,H a=Δ o->cY P w H h a o
end
section
variable {P:Ε}{w:Β}{H H':Hp}{h h':Heap}{a:Ω}{o:HO}
theorem cY.lt (x:cY P w H h a o):a < h.objs.size:=by
 cases o with
 | lst xs=>obtain⟨_,_,_,_,e⟩:=x;exact j_ e
 | tup xs=>obtain⟨_,_,_,p⟩:=x;exact p.lt
 | dK Gd=>obtain⟨_,_,_,_,o,_,_,e,_⟩:=x;exact j_ e
 | dT Gd=>obtain⟨_,_,_,_,o,_,_,e,_⟩:=x;exact j_ e
 | set S n=>obtain⟨o,_,_,_,e,_⟩:=x;exact j_ e
 | ins C dx fs=>obtain⟨_,_,_,e,_⟩:=x;exact j_ e
 | own y=>obtain⟨_,e⟩:=x;exact j_ e
 | xd fs=>obtain⟨_,⟨_,_,_,e,_⟩,_⟩:=x;exact j_ e
 | Ks lo hi=>obtain⟨_,_,_,e⟩:=x;exact j_ e
 | Gh ob u=>obtain⟨e,_⟩:=x;exact j_ e
 | LV ps=>exact j_ (show h.get? a=Δ _ from x)
 | met f y=>exact j_ (show h.get? a=Δ _ from x)
 | ext φ=>obtain⟨_,⟨_,e⟩,_⟩:=x;exact j_ e
theorem Paired.N0 {α β:Type}{F G:α->β->Prop}:∀ {l₁:List α}{l₂:List β},Paired F l₁ l₂->(∀ a b,F a b->G a b)->Paired G l₁ l₂
 | _,_,.nil,_=>.nil
 | _,_,.cons r t,f=>.cons (f _ _ r) (Paired.N0 t f)
theorem cY.HX (x:cY P w H h a o)(k:∀ b u,(b=a∨H b=Δ (.own a))->h.get? b=Δ u->h'.get? b=Δ u)
  (ho:∀ b,H b=Δ (.own a)->H' b=Δ (.own a)) (ht:∀ b xs,H b=Δ (.tup xs)->H' b=Δ (.tup xs)):cY P w H' h' a o:=by
 induction o with
 | lst xs=>obtain⟨z,its,n,r,e⟩:=x;exact⟨z,its,n,r,k _ _ (.inl rfl) e⟩
 | tup xs=>obtain⟨z,its,r,ob,e,c⟩:=x;exact⟨z,its,r,ob,k _ _ (.inl rfl) e,c⟩
 | dK Gd=>obtain⟨z,y,vs,r,ob,es,ep,e,c⟩:=x;exact⟨z,y,vs,r,ob,es,ep,k _ _ (.inl rfl) e,c⟩
 | dT Gd=>obtain⟨z,y,xs,r,ob,es,ep,e,c⟩:=x;exact⟨z,y,xs,Paired.N0 r fun p q z=>⟨z.1,ht _ _ z.2.1,z.2.2⟩,ob,es,ep,k _ _ (.inl rfl) e,c⟩
 | set S n=>obtain⟨ob,es,ep,t,e,c⟩:=x;exact⟨ob,es,ep,t,k _ _ (.inl rfl) e,c⟩
 | ins C dx fs=>obtain⟨d,z,ne,e,mA,⟨od,es,ep,e2,c⟩,r⟩:=x;exact⟨ho _ d,z,ne,k _ _ (.inl rfl) e,mA,⟨od,es,ep,k _ _ (.inr d) e2,c⟩,r⟩
 | own y=>obtain⟨ob,e⟩:=x;exact⟨ob,k _ _ (.inl rfl) e⟩
 | xd fs=>obtain⟨mA,⟨od,es,ep,e,c⟩,r⟩:=x;exact⟨mA,⟨od,es,ep,k _ _ (.inl rfl) e,c⟩,r⟩
 | Ks lo hi=>obtain⟨t,u,v,e⟩:=x;exact⟨t,u,v,k _ _ (.inl rfl) e⟩
 | Gh ob u ih=>obtain⟨e,q⟩:=x;exact⟨k _ _ (.inl rfl) e,ih q⟩
 | LV ps=>have e:h.get? a=Δ {cls:=.none,data:=.fields ps}:=x;show h'.get? a=Δ {cls:=.none,data:=.fields ps};exact k a _ (.inl rfl) e
 | met f y=>have e:h.get? a=Δ (PySem.W.methodObj (.ref f) (.ref y)):=x;show h'.get? a=Δ (PySem.W.methodObj (.ref f) (.ref y));exact k a _ (.inl rfl) e
 | ext φ=>obtain⟨p,⟨o,e⟩,st⟩:=x;exact⟨st _ _ p fun o q=>k _ _ (.inl rfl) q,⟨o,k _ _ (.inl rfl) e⟩,st⟩
theorem GW.lt (x:GW P w H h)(e:H a=Δ o):a < h.objs.size:=(x a o e).lt
theorem GW.fresh (x:GW P w H h)(e:h.objs.size<=a):H a=Φ:=by
 cases q:H a with
 | none=>rfl
 | some u=>exact absurd (C_ (x.lt q) e) (T_ _)
theorem GW.kept (x:GW P w H h)(k:∀ b u,h.get? b=Δ u->h'.get? b=Δ u):GW P w H h':=fun a o e=>
 (x a o e).HX (fun b u _ q=>k b u q) (fun _ q=>q) fun _ _ q=>q
theorem GW.laid (x:GW P w H h)(k:∀ b u,h.get? b=Δ u->h'.get? b=Δ u)(hp:h.objs.size<=a)(new:cY P w (upd H a o) h' a o):GW P w (upd H a o) h':=fun b u e=>by
 have hn:=x.fresh hp;by_cases hb:b=a
 ·subst hb;rw[cv] at e;cases e;exact new
 ·rw[cu hb] at e;exact(x b u e).HX (fun c v _ q=>k c v q) (fun c q=>by rw[cu (cP q hn)];exact q) fun c xs q=>by rw[cu (cP q hn)];exact q
end
def Rd (H:Hp)(a:Ω)(u:HO):Prop:=H a=Δ u∨∃ o,H a=Δ (.Gh o u)
theorem Rd.ok {P:Ε}{w:Β}{H:Hp}{h:Heap}{a:Ω}{u:HO}(r:Rd H a u)(x:GW P w H h):cY P w H h a u:=by
 rcases r with r|⟨o,r⟩
 ·exact x a u r
 ·obtain⟨_,q⟩:=x a _ r;exact q
def P5:Option HO->Prop
 | some (.lst _)=>True
 | some (.dK _)=>True
 | some (.dT _)=>True
 | some (.set _ _)=>True
 | some (.ins _ _ _)=>True
 | some (.ext _)=>True
 | _=>False
section
variable {P:Ε}{w:Β}{H:Hp}{h h':Heap}{x e:Ω}{o':HO}
theorem GW.write (ok:GW P w H h)(mu:P5 (H x))(he:e=x∨H e=Δ (.own x))(k:∀ b u,b≠e->h.get? b=Δ u->h'.get? b=Δ u)(Nm:∃ u,h'.get? e=Δ u)
  (new:cY P w (upd H x o') h' x o'):GW P w (upd H x o') h':=fun b u q=>by
 have N1:∀ c y,H c=Δ (.own y)->c≠x:=fun c y r z=>by subst z;rw[r] at mu;exact mu
 have Rf:∀ c xs,H c=Δ (.tup xs)->c≠x:=fun c xs r z=>by subst z;rw[r] at mu;exact mu
 by_cases hb:b=x
 ·subst hb;rw[cv] at q;cases q;exact new
 ·rw[cu hb] at q;by_cases Mv:b=e
  ·have q':H b=Δ (.own x):=by
    rcases he with z|z
    ·exact absurd (Mv.trans z) hb
    ·rw[Mv];exact z
   rw[q] at q';cases q';obtain⟨v,hv⟩:=Nm;exact⟨v,by rw[Mv];exact hv⟩
  ·refine(ok b u q).HX (fun c v hc r=>k c v ?_ r) (fun c r=>by rw[cu (N1 c b r)];exact r) fun c xs r=>by rw[cu (Rf c xs r)];exact r
   rcases hc with rfl|hc
   ·exact Mv
   ·rintro rfl;rcases he with z|z
    ·exact N1 c b hc z
    ·rw[hc] at z;cases z;exact hb rfl
end
structure Un (fs ex:List Ω)(H H':Hp)(h h':Heap):Prop where
 keep:∀ b o,h.get? b=Δ o->H b=Φ->b∉fs->b∉ex->h'.get? b=Δ o
 slot:∀ b o,h.get? b=Δ o->H b=Φ->b∈fs->b∉ex->∃ sl,h'.get? b=Δ {o with slots:=sl}
 free:∀ b o,h.get? b=Δ o->H b=Φ->b∉ex->H' b=Φ
 there:∀ b o,h.get? b=Δ o->b∉ex->∃ o',h'.get? b=Δ o'
 Hs:∀ b xs,H b=Δ (.tup xs)->H' b=Δ (.tup xs)
 G6:∀ b o u,H b=Δ (.Gh o u)->H' b=Δ (.Gh o u)
 IE:∀ b ps,H b=Δ (.LV ps)->∃ more,H' b=Δ (.LV (ps++more))
section
variable {fs fs' ex Ve:List Ω}{H H1 H2:Hp}{h h1 h2 h':Heap}{a x e:Ω}{o:HO}
theorem Un.any (u:Un fs ex H H1 h h1){b:Ω}{ob:Obj}(q:h.get? b=Δ ob)(n:H b=Φ)(hx:b∉ex):∃ sl,h1.get? b=Δ {ob with slots:=sl}:=by
 by_cases hb:b∈fs
 ·exact u.slot b ob q n hb hx
 ·exact⟨ob.slots,u.keep b ob q n hb hx⟩
theorem Un.kept (k:∀ b u,h.get? b=Δ u->h'.get? b=Δ u):Un fs ex H H h h':=
 ⟨fun b ob q _ _ _=>k b ob q,fun b ob q _ _ _=>⟨ob.slots,k b ob q⟩,fun _ _ _ n _=>n,fun b ob q _=>⟨ob,k b ob q⟩,fun _ _ q=>q,fun _ _ _ q=>q,fun _ ps q=>⟨#[],by rw[q];simp⟩⟩
theorem Un.refl:Un fs ex H H h h:=Un.kept fun _ _ q=>q
theorem Un.laid (k:∀ b u,h.get? b=Δ u->h'.get? b=Δ u)(hp:h.objs.size<=a)(hn:H a=Φ):Un fs ex H (upd H a o) h h' where
 keep:=fun b u q _ _ _=>k b u q
 slot:=fun b u q _ _ _=>⟨u.slots,k b u q⟩
 free:=fun b u q n _=>by rw[cu (n_ (C_ (j_ q) hp))];exact n
 there:=fun b u q _=>⟨u,k b u q⟩
 Hs:=fun b xs q=>by rw[cu (cP q hn)];exact q
 G6:=fun b u xs q=>by rw[cu (cP q hn)];exact q
 IE:=fun b ps q=>⟨#[],by rw[cu (cP q hn),q];simp⟩
theorem Un.write (mu:P5 (H x))(he:e=x∨H e=Δ (.own x))(k:∀ b u,b≠e->h.get? b=Δ u->h'.get? b=Δ u)(Nm:∃ u,h'.get? e=Δ u):Un fs ex H (upd H x o) h h':=by
 have hx:∀ b,H b=Φ->b≠x:=fun b n z=>by subst z;rw[n] at mu;exact mu
 have hb:∀ b,H b=Φ->b≠e:=fun b n z=>by
  subst z;rcases he with r|r
  ·exact hx b n r
  ·rw[n] at r;cases r
 have hm:∀ b u,H b=Δ u->¬ P5 (Δ u)->b≠x:=fun b u q nm z=>by subst z;rw[q] at mu;exact nm mu
 refine⟨fun b u q n _ _=>k b u (hb b n) q,fun b u q n _ _=>⟨u.slots,k b u (hb b n) q⟩,fun b u q n _=>by rw[cu (hx b n)];exact n,fun b u q _=>?_,
  fun b xs q=>by rw[cu (hm b _ q fun z=>z)];exact q,fun b u xs q=>by rw[cu (hm b _ q fun z=>z)];exact q,fun b ps q=>⟨#[],by rw[cu (hm b _ q fun z=>z),q];simp⟩⟩
 by_cases Mv:b=e
 ·subst Mv;exact Nm
 ·exact⟨u,k b u Mv q⟩
end
noncomputable def Mw (h:Heap)(H:Hp):List Ω:=(List.range h.objs.size).filter fun a=>(H a).isSome
noncomputable def kz (h:Heap)(H:Hp):Heap:=PySem.W.hideAll h (Mw h H)
theorem qe (h:Heap)(H:Hp):(kz h H).objs.size=h.objs.size:=PySem.W.hideAll_size _ _
theorem qR {h:Heap}{H:Hp}{b:Ω}{o:Obj}(e:h.get? b=Δ o)(n:H b=Φ):(kz h H).get? b=Δ o:=
 PySem.W.hideAll_get _ e fun hm=>by have q:(H b).isSome=Θ:=(List.mem_filter.mp hm).2;rw[n] at q;simp at q
theorem vN {h:Heap}{H:Hp}{b:Ω}{o:Obj}(e:(kz h H).get? b=Δ o):h.get? b=Δ o/\H b=Φ:=by
 have e':h.get? b=Δ o:=PySem.W.of_hideAll (Mw h H) e;refine⟨e',?_⟩;cases q:H b with
 | none=>rfl
 | some x=>have hm:b∈Mw h H:=List.mem_filter.mpr ⟨Z_.mpr (j_ e'),by simp[q]⟩;have z:(kz h H).get? b=Φ:=PySem.W.hideAll_none (Mw h H) hm;rw[z] at e;cases e
structure Mod (K:Frag)(mg:Str->Option Ψ)(base:Heap):Prop where
 P6:K.In base
 glob:base.Ns Η mg
 blt:∃ mb,base.Ns builtinsNs mb/\∀ x:Str,x≠"__name__"->mb x=bootBuiltins x
 nolimit:base.NoLimit
structure Cx where
 prog:Ε
 w:Β
 K:Frag
 mg:Str->Option Ψ
 base:Heap
 A:Ι
 N:List Str
 Gz:Α
 IF:Hp
 env:Env
 outer:List Env
 stack:List Env
 ex:List Ω
 fn:Str->Bool
 calm:Bool
 pn:List (Ω×Obj)
 xe:Ψ->Α->Prop
noncomputable def Ha (l:List Env):List Ω:=l.filterMap (·.frame)
noncomputable abbrev Cx.fs (X:Cx):List Ω:=Ha X.outer
def N2 (sc:Scope)(x:Str):Prop:=sc.names.lookup x=Δ .local∨sc.names.lookup x=Δ .cell∨sc.names.lookup x=Δ .free
def Loc (sc:Scope)(x:Str):Prop:=sc.names.lookup x=Δ .local∨sc.names.lookup x=Δ .cell
def Look (env:Env)(h:Heap)(m:Str->Option Ψ)(x:Str)(u:Ψ):Prop:=
 (env.kindOf x=Δ .local/\m x=Δ u)∨((env.kindOf x=Δ .cell∨env.kindOf x=Δ .free)/\∃ c,env.cells.lookup x=Δ c/\h.IsCell c (Δ u))
structure Cx.Ok (X:Cx):Prop where
 mod:Mod X.K X.mg X.base
 kind:X.env.scope.kind=.function
 glob:X.env.globals=Η
 blt:X.env.builtins=builtinsNs
 above:X.Gz.heap.objs.size<=X.env.locals
 inj:∀ x y c,X.env.cells.lookup x=Δ c->X.env.cells.lookup y=Δ c->x=y
 has:∀ x,(X.env.kindOf x=Δ .cell∨X.env.kindOf x=Δ .free)->∃ c,X.env.cells.lookup x=Δ c
 P7:∀ x c,X.fn x=Θ->X.env.cells.lookup x=Δ c->X.Gz.heap.objs.size<=c
 hd:X.calm=Θ->X.A.handled=Φ
 frames:X.A.frames=Δ X.stack
 F5:X.stack=X.outer∨(X.stack=X.env::X.outer/\X.env.frame=Δ X.env.locals)
 Rg:∀ b∈X.ex,b≠X.env.locals/\∀ x c,X.env.cells.lookup x=Δ c->c≠b
 bs:∀ b o,X.base.get? b=Δ o->X.Gz.heap.get? b=Δ o/\X.IF b=Φ
 Lj:X.base.objs.size<=X.Gz.heap.objs.size
 Lk:∀ b o,X.base.get? b=Δ o->b∉X.ex
 Ll:∀ b∈X.ex,b∉X.fs
 Ht:X.Gz.heap.FunFrames X.base X.outer
 KH:∀ b∈X.fs,X.IF b=Φ
structure Inv (X:Cx)(pins:List (Ω×Obj))(σ:List (Option V))(H:Hp)(s:Α):Prop where
 ok:X.Ok
 os:s.os=X.Gz.os
 bare:AllBare s.gens
 base:Un X.fs X.ex X.IF H X.Gz.heap s.heap
 loc:∃ m,s.heap.Ns X.env.locals m/\∀ (i:Nat) (x:Str) (v:V),X.N[i]? = Δ x->σ[i]? = Δ (Δ v)->N2 X.env.scope x->∃ u,RelV v u/\Look X.env s.heap m x u
 cell:∀ x c,X.env.cells.lookup x=Δ c->∃ v,s.heap.IsCell c v
 free:H X.env.locals=Φ
 Hf:∀ x c,X.env.cells.lookup x=Δ c->H c=Φ
 pin:∀ p∈X.pn++pins,s.heap.get? p.1=Δ p.2/\H p.1=Φ/\p.1≠X.env.locals/\p.1∉X.fs/\∀ v,p.2.data≠.cell v
 Ge:GW X.prog X.w H s.heap
 len:σ.length=X.N.length
section
variable {X:Cx}{pins:List (Ω×Obj)}{σ:List (Option V)}{H H':Hp}{s:Α}{h':Heap}
theorem Cx.Ok.Rh (ok:X.Ok){b:Ω}{o:Obj}(e:X.base.get? b=Δ o):b∉X.fs:=fun hb=>by have:=(ok.Ht.mem hb).1;rw[e] at this;cases this
theorem Inv.bs (I:Inv X pins σ H s):∀ b o,X.base.get? b=Δ o->s.heap.get? b=Δ o/\H b=Φ:=fun b o e=>
 ⟨I.base.keep b o (I.ok.bs b o e).1 (I.ok.bs b o e).2 (I.ok.Rh e) (I.ok.Lk b o e),I.base.free b o (I.ok.bs b o e).1 (I.ok.bs b o e).2 (I.ok.Lk b o e)⟩
theorem Inv.bk (I:Inv X pins σ H s):∀ b o,X.base.get? b=Δ o->s.heap.get? b=Δ o:=fun b o e=>(I.bs b o e).1
theorem Inv.mod (I:Inv X pins σ H s):Mod X.K X.mg X.base:=I.ok.mod
theorem Inv.Jl (I:Inv X pins σ H s):X.K.In s.heap:=I.ok.mod.P6.keeps I.bk
theorem Inv.lt (I:Inv X pins σ H s):X.env.locals < s.heap.objs.size:=let ⟨_,hn,_⟩:=I.loc;hn.lt
theorem Inv.sz (I:Inv X pins σ H s):X.Gz.heap.objs.size<=s.heap.objs.size:=O_ I.ok.above (Nat.le_of_lt I.lt)
theorem Inv.Ri (I:Inv X pins σ H s){a:Ω}(h:s.heap.objs.size<=a):a∉X.fs:=fun hb=>by obtain⟨_,o,ho,_⟩:=I.ok.Ht.mem hb;exact absurd (C_ (j_ ho) (O_ I.sz h)) (T_ _)
theorem Inv.Mx (I:Inv X pins σ H s):∀ x c,X.env.cells.lookup x=Δ c->c≠X.env.locals:=fun x c e z=>by obtain⟨v,o,ho,hd⟩:=I.cell x c e;obtain⟨m,⟨o',es,ep,HY,Xt,_⟩,_⟩:=I.loc;rw[z,HY] at ho;cases ho;rw[Xt] at hd;cases hd
theorem Inv.Ht (I:Inv X pins σ H s):s.heap.FunFrames X.base X.outer:=by
 have all:∀ (l:List Env),(∀ b∈Ha l,b∈X.fs)->X.Gz.heap.FunFrames X.base l->s.heap.FunFrames X.base l:=by
  intro l
  induction l with
  | nil=>intro _ _;trivial
  | cons env r ih=>intro hs hl;obtain⟨hk,⟨L,o,hf,hn,ho,hd⟩,hr⟩:=hl;have hL:L∈X.fs:=hs L (by unfold Ha;rw[List.filterMap_cons,hf];exact aaC);obtain⟨sl,e⟩:=I.base.slot L o ho (I.ok.KH L hL) hL fun z=>I.ok.Ll L z hL;exact⟨hk,⟨L,_,hf,hn,e,hd⟩,ih (fun b hb=>hs b (by unfold Ha;rw[List.filterMap_cons,hf];exact I_ _ hb)) hr⟩
 exact all X.outer (fun _ hb=>hb) I.ok.Ht
theorem Inv.stack (I:Inv X pins σ H s):s.heap.FunFrames X.base X.stack:=by
 rcases I.ok.F5 with e|⟨e,hf⟩
 ·rw[e];exact I.Ht
 ·rw[e];obtain⟨m,hn,_⟩:=I.loc;refine .cons (by rw[I.ok.kind];decide) hf hn ?_ I.Ht;exact Heap.get?_none_of_le (O_ I.ok.Lj I.ok.above)
theorem Inv.Js (I:Inv X pins σ H s):∀ b∈Ha X.stack,b∈X.env.locals::X.fs:=fun b hb=>by
 rcases I.ok.F5 with e|⟨e,hf⟩
 ·rw[e] at hb;exact I_ _ hb
 ·rw[e] at hb;unfold Ha at hb;rw[List.filterMap_cons,hf] at hb;exact hb
theorem Inv.IG (I:Inv X pins σ H s):∀ b∈Ha X.stack,H b=Φ:=fun b hb=>by
 rcases k_.mp (I.Js b hb) with e|hb
 ·rw[e];exact I.free
 ·obtain⟨_,o,ho,_⟩:=I.ok.Ht.mem hb;exact I.base.free b o ho (I.ok.KH b hb) fun z=>I.ok.Ll b z hb
theorem Inv.step {g':Array GenState}{t':Nat}{d':Drawn}{ch:List Ω}(I:Inv X pins σ H s)
  (Ku:∀ b∈ch,(b∈X.ex∨X.Gz.heap.objs.size<=b)/\b≠X.env.locals/\(∀ x c,X.env.cells.lookup x=Δ c->c≠b)/\∀ p∈X.pn++pins,p.1≠b)
  (keep:∀ b o,b≠X.env.locals->b∉X.fs->b∉ch->s.heap.get? b=Δ o->H b=Φ->h'.get? b=Δ o)
  (slot:∀ b o,b≠X.env.locals->b∈X.fs->b∉ch->s.heap.get? b=Δ o->H b=Φ->∃ sl,h'.get? b=Δ {o with slots:=sl}) (free:∀ b o,b∉ch->s.heap.get? b=Δ o->H b=Φ->H' b=Φ)
  (there:∀ b o,b∉ch->s.heap.get? b=Δ o->∃ o',h'.get? b=Δ o')
  (Hs:∀ b xs,H b=Δ (.tup xs)->H' b=Δ (.tup xs)) (G6:∀ b o u,H b=Δ (.Gh o u)->H' b=Δ (.Gh o u)) (IE:∀ b ps,H b=Δ (.LV ps)->∃ more,H' b=Δ (.LV (ps++more)))
  (ns:∀ m,s.heap.Ns X.env.locals m->h'.Ns X.env.locals m) (Ge:GW X.prog X.w H' h') (hg:AllBare g') :
  Inv X pins σ H' {s with heap:=h',gens:=g',drawn:=d',toks:=t'}:=by
 have Vf:∀ b o,X.Gz.heap.get? b=Δ o->b≠X.env.locals:=fun b o e=>n_ (C_ (j_ e) I.ok.above);have P8:∀ b o,X.Gz.heap.get? b=Δ o->b∉X.ex->b∉ch:=fun b o e hx hb=>by
  rcases (Ku b hb).1 with z|z
  ·exact hx z
  ·exact absurd (C_ (j_ e) z) (T_ _)
 have cellK:∀ x c,X.env.cells.lookup x=Δ c->∀ v,s.heap.IsCell c v->h'.IsCell c v:=fun x c e v ⟨o,ho,hd⟩=>by
  have N3:c∉ch:=fun z=>(Ku c z).2.2.1 x c e rfl;by_cases hc:c∈X.fs
  ·obtain⟨sl,q⟩:=slot c o (I.Mx x c e) hc N3 ho (I.Hf x c e);exact⟨_,q,hd⟩
  ·exact⟨o,keep c o (I.Mx x c e) hc N3 ho (I.Hf x c e),hd⟩
 refine⟨I.ok,I.os,hg,⟨fun b o e n hb hx=>?_,fun b o e n hb hx=>?_,fun b o e n hx=>?_,fun b o e hx=>?_,fun b xs e=>Hs b xs (I.base.Hs b xs e),fun b o xs e=>G6 b o xs (I.base.G6 b o xs e),fun b ps e=>?_⟩,?_,fun x c e=>?_,?_,fun x c e=>?_,fun p hp=>?_,Ge,I.len⟩
 ·exact keep b o (Vf b o e) hb (P8 b o e hx) (I.base.keep b o e n hb hx) (I.base.free b o e n hx)
 ·obtain⟨sl,e1⟩:=I.base.slot b o e n hb hx;obtain⟨N4,e2⟩:=slot b _ (Vf b o e) hb (P8 b o e hx) e1 (I.base.free b o e n hx);exact⟨N4,e2⟩
 ·obtain⟨o',e1⟩:=I.base.there b o e hx;exact free b o' (P8 b o e hx) e1 (I.base.free b o e n hx)
 ·obtain⟨o',e1⟩:=I.base.there b o e hx;exact there b o' (P8 b o e hx) e1
 ·obtain⟨m1,e1⟩:=I.base.IE b ps e;obtain⟨m2,e2⟩:=IE b _ e1;exact⟨m1++m2,by rw[e2,Array.append_assoc]⟩
 ·obtain⟨m,hn,hl⟩:=I.loc;refine⟨m,ns m hn,fun i x v e1 e2 e3=>?_⟩;obtain⟨u,r,l⟩:=hl i x v e1 e2 e3;refine⟨u,r,?_⟩;rcases l with l|⟨k,c,e,z⟩
  ·exact .inl l
  ·exact .inr ⟨k,c,e,cellK x c e _ z⟩
 ·obtain⟨v,z⟩:=I.cell x c e;exact⟨v,cellK x c e v z⟩
 ·obtain⟨m,⟨o,_,_,ho,_⟩,_⟩:=I.loc;exact free _ o (fun z=>(Ku _ z).2.1 rfl) ho I.free
 ·obtain⟨v,o,ho,hd⟩:=I.cell x c e;exact free c o (fun z=>(Ku c z).2.2.1 x c e rfl) ho (I.Hf x c e)
 ·obtain⟨e,n,ne,nf,d⟩:=I.pin p hp;have N3:p.1∉ch:=fun z=>(Ku p.1 z).2.2.2 p hp rfl;exact⟨keep p.1 p.2 ne nf N3 e n,free p.1 p.2 N3 e n,ne,nf,d⟩
theorem Inv.un {t':Nat}(I:Inv X pins σ H s)(u:Un X.fs [] H H' s.heap h')(Ge:GW X.prog X.w H' h'):Inv X pins σ H' {s with heap:=h',toks:=t'}:=by
 obtain⟨m,⟨o,es,ep,ho,r⟩,_⟩:=id I.loc;obtain⟨sl,hL⟩:=u.any ho I.free (by simp)
 exact I.step (g':=s.gens) (d':=s.drawn) (ch:=[]) (fun _ z=>nomatch z) (fun b o _ hb _ e n=>u.keep b o e n hb (by simp)) (fun b o _ hb _ e n=>u.slot b o e n hb (by simp)) (fun b o _ e n=>u.free b o e n (by simp)) (fun b o _ e=>u.there b o e (by simp)) u.Hs u.G6 u.IE (fun m' hm=>by
  obtain⟨o',es',Rj,HY,r'⟩:=hm;rw[ho] at HY;cases HY
  exact⟨_,es',Rj,hL,r'⟩) Ge I.bare
theorem Inv.call {g':Array GenState}{t':Nat}{d':Drawn}{ch:List Ω}(I:Inv X pins σ H s)(u:Un (Ha X.stack) ch H H' s.heap h')(Ge:GW X.prog X.w H' h')(hg:AllBare g')
  (Ku:∀ b∈ch,(b∈X.ex∨X.Gz.heap.objs.size<=b)/\b≠X.env.locals/\(∀ x c,X.env.cells.lookup x=Δ c->c≠b)/\∀ p∈X.pn++pins,p.1≠b) :
  Inv X pins σ H' {s with heap:=h',gens:=g',drawn:=d',toks:=t'}:=by
 obtain⟨m,⟨o,es,ep,ho,r⟩,_⟩:=id I.loc;obtain⟨sl,hL⟩:=u.any ho I.free fun z=>(Ku _ z).2.1 rfl
 exact I.step (ch:=ch) Ku (fun b o hL hb hc e n=>u.keep b o e n (fun z=>(k_.mp (I.Js b z)).elim hL hb) hc) (fun b o _ _ hc e n=>u.any e n hc) (fun b o hc e n=>u.free b o e n hc) (fun b o hc e=>u.there b o e hc) u.Hs u.G6 u.IE (fun m' hm=>by
  obtain⟨o',es',Rj,HY,r'⟩:=hm;rw[ho] at HY;cases HY
  exact⟨_,es',Rj,hL,r'⟩) Ge hg
theorem Inv.turned {t':Nat}{it:Ω}(I:Inv X pins σ H s)(k:∀ b o,b≠it->s.heap.get? b=Δ o->h'.get? b=Δ o)(hn:H it=Φ)(hL:it≠X.env.locals)
  (h1:it∈X.ex∨X.Gz.heap.objs.size<=it) (h2:∀ x c,X.env.cells.lookup x=Δ c->c≠it) (h3:∀ p∈X.pn++pins,p.1≠it):Inv X pins σ H {s with heap:=h',toks:=t'}:=by
 have LW:∀ b u,H b=Δ u->b≠it:=fun b u e z=>by rw[z,hn] at e;cases e
 refine I.step (g':=s.gens) (d':=s.drawn) (ch:=[it]) (fun b hb=>?_) (fun b o _ _ hc e _=>k b o (fun z=>hc (by simp[z])) e) (fun b o _ _ hc e _=>⟨o.slots,k b o (fun z=>hc (by simp[z])) e⟩) (fun _ _ _ _ n=>n)
  (fun b o hc e=>⟨o,k b o (fun z=>hc (by simp[z])) e⟩) (fun _ _ e=>e) (fun _ _ _ e=>e) (fun b ps e=>⟨#[],by rw[e];simp⟩) (fun m hm=>?_) (fun b u e=>?_) I.bare
 ·have e:b=it:=by simpa using hb
  subst e;exact⟨h1,hL,h2,h3⟩
 ·obtain⟨o,es,ep,ho,r⟩:=hm;exact⟨o,es,ep,k _ o (Ne.symm hL) ho,r⟩
 ·refine(I.Ge b u e).HX (fun c v hc q=>k c v ?_ q) (fun _ q=>q) fun _ _ q=>q;rcases hc with z|z
  ·rw[z];exact LW b u e
  ·exact LW c _ z
theorem Inv.tok (I:Inv X pins σ H s)(t:Nat):Inv X pins σ H {s with toks:=t}:=I.un (h':=s.heap) (t':=t) Un.refl I.Ge
theorem Inv.kept {t':Nat}(I:Inv X pins σ H s)(k:∀ b u,s.heap.get? b=Δ u->h'.get? b=Δ u):Inv X pins σ H {s with heap:=h',toks:=t'}:=I.un (Un.kept k) (I.Ge.kept k)
theorem Inv.laid {a:Ω}{o:HO}{t':Nat}(I:Inv X pins σ H s)(k:∀ b u,s.heap.get? b=Δ u->h'.get? b=Δ u)(hp:s.heap.objs.size<=a)(new:cY X.prog X.w (upd H a o) h' a o) :
  Inv X pins σ (upd H a o) {s with heap:=h',toks:=t'}:=I.un (Un.laid k hp (I.Ge.fresh hp)) (I.Ge.laid k hp new)
theorem Inv.write {x e:Ω}{o:HO}{t':Nat}(I:Inv X pins σ H s)(mu:P5 (H x))(he:e=x∨H e=Δ (.own x))(k:∀ b u,b≠e->s.heap.get? b=Δ u->h'.get? b=Δ u)(Nm:∃ u,h'.get? e=Δ u)
  (new:cY X.prog X.w (upd H x o) h' x o):Inv X pins σ (upd H x o) {s with heap:=h',toks:=t'}:=I.un (Un.write mu he k Nm) (I.Ge.write mu he k Nm new)
theorem Inv.JJ {LX:List (Ω×Obj)}(I:Inv X pins σ H s)(h:∀ p∈LX,s.heap.get? p.1=Δ p.2/\H p.1=Φ/\p.1≠X.env.locals/\p.1∉X.fs/\∀ v,p.2.data≠.cell v):Inv X LX σ H s:=
 ⟨I.ok,I.os,I.bare,I.base,I.loc,I.cell,I.free,I.Hf,fun p hp=>(v_.mp hp).elim (fun z=>I.pin p (r_ _ z)) (h p),I.Ge,I.len⟩
theorem lX {N:List Str}(hN:N.Nodup){i j:Nat}{x:Str}(a:N[i]? = Δ x)(b:N[j]? = Δ x):i=j:=by obtain⟨h1,e1⟩:=x_.mp a;obtain⟨h2,e2⟩:=x_.mp b;exact(List.getElem_inj hN).mp (e1.trans e2.symm)
theorem jG {M:Model}{A:Ι}{E:Ψ->Α->Prop}{i:Nat}{x:Str}{v:V}{u:Ψ}{Q:Unit->Α->Prop}(I:Inv X pins σ H s)(hN:X.N.Nodup)(hi:X.N[i]? = Δ x)(hx:Loc X.env.scope x)(r:RelV v u)
  (h:∀ s',Inv X pins (σ.set i (Δ v)) H s'->(∃ a,Heap.SameBut a s.heap s'.heap/\(a=X.env.locals∨X.env.cells.lookup x=Δ a))->Q () s') (hf:X.fn x=Θ∨X.env.scope.names.lookup x=Δ .local:=by first|exact .inl rfl|exact .inr rfl|assumption):Κ M A (storeName X.env x u) Q E s:=by
 obtain⟨m,hn,hl⟩:=id I.loc;have My:(X.env.scope.kind == .class||(X.env.scope.kind == .module&&X.env.locals != X.env.globals))=Ξ:=by rw[I.ok.kind];rfl
 have N5:i < σ.length:=by rw[I.len];exact(x_.mp hi).1
 have Mx:=I.Mx;have tracked:∀ {a:Ω}{h':Heap},(∃ o,s.heap.get? a=Δ o/\H a=Φ)->Heap.SameBut a s.heap h'->GW X.prog X.w H h':=fun {a h'} ha hs b ob e=>by
  obtain⟨_,_,JK⟩:=ha;refine(I.Ge b ob e).HX (fun c w' hc q=>(hs.2 c ?_).trans q) (fun _ q=>q) fun _ _ q=>q;rintro rfl;rcases hc with rfl|hc
  ·rw[JK] at e;cases e
  ·rw[JK] at hc;cases hc
 rcases hx with hk|hk
 ·refine wpAny_storeName_local hk hn (fun h' Ir hs=>?_) My;obtain⟨oL,_,_,Xu,_⟩:=id hn;refine h _ ⟨I.ok,I.os,I.bare,⟨fun b o e n hb hx=>?_,fun b o e n hb hx=>?_,I.base.free,fun b o e hx=>?_,I.base.Hs,I.base.G6,I.base.IE⟩,⟨_,Ir,fun j y v' e1 e2 e3=>?_⟩,fun y c e=>?_,I.free,I.Hf,fun p hp=>?_,tracked ⟨oL,Xu,I.free⟩ hs,by simpa using I.len⟩ ⟨_,hs,.inl rfl⟩
  ·exact(hs.2 b (n_ (C_ (j_ e) I.ok.above))).trans (I.base.keep b o e n hb hx)
  ·obtain⟨sl,e1⟩:=I.base.slot b o e n hb hx;exact⟨sl,(hs.2 b (n_ (C_ (j_ e) I.ok.above))).trans e1⟩
  ·obtain⟨o',e1⟩:=I.base.there b o e hx;exact⟨o',(hs.2 b (n_ (C_ (j_ e) I.ok.above))).trans e1⟩
  ·by_cases hj:j=i
   ·subst hj;rw[hi] at e1;cases e1;rw[List.getElem?_set_self N5] at e2;cases e2;exact⟨u,r,.inl ⟨hk,by simp⟩⟩
   ·rw[aau (Ne.symm hj)] at e2;obtain⟨u',r',q⟩:=hl j y v' e1 e2 e3;refine⟨u',r',?_⟩;rcases q with ⟨k,e⟩|⟨k,c,e,z⟩
    ·refine .inl ⟨k,?_⟩;have:y≠x:=fun e=>hj (lX hN e1 (e ▸ hi));simp[this,e]
    ·exact .inr ⟨k,c,e,z.sameBut hs (Mx y c e)⟩
  ·obtain⟨w',z⟩:=I.cell y c e;exact⟨w',z.sameBut hs (Mx y c e)⟩
  ·obtain⟨e,n,ne,nf,d⟩:=I.pin p hp;exact⟨(hs.2 p.1 ne).trans e,n,ne,nf,d⟩
 ·have Lm:X.fn x=Θ:=by
   rcases hf with z|z
   ·exact z
   ·rw[z] at hk;cases hk
  obtain⟨c,hc⟩:=I.ok.has x (.inl hk);obtain⟨w',z⟩:=I.cell x c hc;refine wpAny_storeName_cell I.ok.kind hk hc z (fun h' Nn hs=>?_);obtain⟨oc,Vg,Rk⟩:=id z;refine h {s with heap:=h'} ⟨I.ok,I.os,I.bare,⟨fun b o e n hb hx=>?_,fun b o e n hb hx=>?_,I.base.free,fun b o e hx=>?_,I.base.Hs,I.base.G6,I.base.IE⟩,⟨m,hn.sameBut hs (Ne.symm (Mx x c hc)),fun j y v' e1 e2 e3=>?_⟩,fun y c' e=>?_,I.free,I.Hf,fun p hp=>?_,tracked ⟨oc,Vg,I.Hf x c hc⟩ hs,by simpa using I.len⟩ ⟨c,hs,.inr hc⟩
  ·exact(hs.2 b (n_ (C_ (j_ e) (I.ok.P7 x c Lm hc)))).trans (I.base.keep b o e n hb hx)
  ·obtain⟨sl,e1⟩:=I.base.slot b o e n hb hx;exact⟨sl,(hs.2 b (n_ (C_ (j_ e) (I.ok.P7 x c Lm hc)))).trans e1⟩
  ·obtain⟨o',e1⟩:=I.base.there b o e hx;exact⟨o',(hs.2 b (n_ (C_ (j_ e) (I.ok.P7 x c Lm hc)))).trans e1⟩
  ·by_cases hj:j=i
   ·subst hj;rw[hi] at e1;cases e1;rw[List.getElem?_set_self N5] at e2;cases e2;exact⟨u,r,.inr ⟨.inl hk,c,hc,Nn⟩⟩
   ·rw[aau (Ne.symm hj)] at e2;obtain⟨u',r',q⟩:=hl j y v' e1 e2 e3;refine⟨u',r',?_⟩;rcases q with q|⟨k,c',e,z'⟩
    ·exact .inl q
    ·refine .inr ⟨k,c',e,z'.sameBut hs ?_⟩;rintro rfl;exact hj (lX hN e1 (I.ok.inj _ _ _ e hc ▸ hi))
  ·by_cases Vh:c'=c
   ·subst Vh;exact⟨_,Nn⟩
   ·obtain⟨w2,z2⟩:=I.cell y c' e;exact⟨w2,z2.sameBut hs Vh⟩
  ·obtain⟨e,n,ne,nf,d⟩:=I.pin p hp;refine⟨(hs.2 p.1 ?_).trans e,n,ne,nf,d⟩;intro q;rw[q,Vg] at e;have q':oc=p.2:=D_ e;exact d w' (by rw[<- q'];exact Rk)
theorem l5 {M:Model}{A:Ι}{E:Ψ->Α->Prop}{i:Nat}{x:Str}{v:V}{u:Ψ}{Q:Unit->Α->Prop}(I:Inv X pins σ H s)(hN:X.N.Nodup)(hi:X.N[i]? = Δ x)(hx:Loc X.env.scope x)(r:RelV v u)
  (h:∀ s',Inv X pins (σ.set i (Δ v)) H s'->Q () s') (hf:X.fn x=Θ∨X.env.scope.names.lookup x=Δ .local:=by first|exact .inl rfl|exact .inr rfl|assumption):Κ M A (storeName X.env x u) Q E s:=
 jG I hN hi hx r (fun s' I' _=>h s' I') hf
theorem Inv.LY {s':Α}{ch:List Ω}(I:Inv X pins σ H s)(ho:s'.os=s.os)(u:Un (Ha X.stack) ch H H' s.heap s'.heap)(Ge:GW X.prog X.w H' s'.heap)(hg:AllBare s'.gens)
  (Ku:∀ b∈ch,(b∈X.ex∨X.Gz.heap.objs.size<=b)/\b≠X.env.locals/\(∀ x c,X.env.cells.lookup x=Δ c->c≠b)/\∀ p∈X.pn++pins,p.1≠b):Inv X pins σ H' s':=by
 obtain⟨h',g',d',t',o'⟩:=s';have e:o'=s.os:=ho;subst e;exact I.call (g':=g') (t':=t') (d':=d') u Ge hg Ku
end
abbrev XK:=Ψ->Option Ω->Hp->Prop
abbrev St:=List (Option V)
abbrev VK:=V->Hp->Prop
abbrev TE:=St->Hp->VK->Prop
abbrev TT:=St->Hp->(Bool->Hp->Prop)->Prop
abbrev TA:=St->Hp->(List V->Hp->Prop)->Prop
structure Ends where
 nx:St->Hp->Prop
 rt:VK
 bk:St->Hp->Prop:=fun _ _=>False
 ct:St->Hp->Prop:=fun _ _=>False
abbrev TS:=Ends->St->Hp->Prop
def EP (X:Cx)(pins:List (Ω×Obj))(σ:St)(Q:VK)(u:Ψ)(s':Α):Prop:=∃ v H',Inv X pins σ H' s'/\RelV v u/\Q v H'
def TP (X:Cx)(pins:List (Ω×Obj))(σ:St)(Q:Bool->Hp->Prop)(b:Bool)(s':Α):Prop:=∃ H',Inv X pins σ H' s'/\Q b H'
def AP (X:Cx)(pins:List (Ω×Obj))(σ:St)(Q:List V->Hp->Prop)(us:List Ψ)(s':Α):Prop:=∃ vs H',Inv X pins σ H' s'/\Vals vs us/\Q vs H'
def SP (X:Cx)(pins:List (Ω×Obj))(D:Ends)(f:Flow)(s':Α):Prop:=
 match f with
 | .next=>∃ F8 H',Inv X pins F8 H' s'/\D.nx F8 H'
 | .brk=>∃ F8 H',Inv X pins F8 H' s'/\D.bk F8 H'
 | .cont=>∃ F8 H',Inv X pins F8 H' s'/\D.ct F8 H'
 | .ret u=>∃ v F8 H',Inv X pins F8 H' s'/\RelV v u/\D.rt v H'
def PE (X:Cx)(e:Expr)(t:TE):Prop:=
 ∀ (pins:List (Ω×Obj)) (s:Α) (σ:St) (H:Hp) (Q:VK),Inv X pins σ H s->t σ H Q->Κ (Μ X.prog X.w) X.A (eval e X.env) (EP X pins σ Q) X.xe s
def PT (X:Cx)(e:Expr)(t:TT):Prop:=
 ∀ (pins:List (Ω×Obj)) (s:Α) (σ:St) (H:Hp) (Q:Bool->Hp->Prop),Inv X pins σ H s->t σ H Q->Κ (Μ X.prog X.w) X.A (isTrue e X.env (eval e X.env)) (TP X pins σ Q) X.xe s
def PW (X:Cx)(e:Expr)(t:TT):Prop:=
 ∀ (whole:Sem Ψ) (pins:List (Ω×Obj)) (s:Α) (σ:St) (H:Hp) (Q:Bool->Hp->Prop),Inv X pins σ H s->t σ H Q->Κ (Μ X.prog X.w) X.A (isTrue e X.env whole) (TP X pins σ Q) X.xe s
theorem PW.pt {X:Cx}{e:Expr}{t:TT}(h:PW X e t):PT X e t:=h _
def PA (X:Cx)(es:List Expr)(t:TA):Prop:=
 ∀ (pos:Pos) (pins:List (Ω×Obj)) (s:Α) (σ:St) (H:Hp) (Q:List V->Hp->Prop),Inv X pins σ H s->t σ H Q->Κ (Μ X.prog X.w) X.A (spliced (backTo pos (Ν es X.env))) (AP X pins σ Q) X.xe s
def PS (X:Cx)(st:Stmt)(t:TS):Prop:=
 ∀ (pins:List (Ω×Obj)) (s:Α) (σ:St) (H:Hp) (D:Ends),Inv X pins σ H s->t D σ H->Κ (Μ X.prog X.w) X.A (exec st X.env) (SP X pins D) X.xe s
def I0 (X:Cx)(st:List Stmt)(t:TS):Prop:=
 ∀ (pins:List (Ω×Obj)) (s:Α) (σ:St) (H:Hp) (D:Ends),Inv X pins σ H s->t D σ H->Κ (Μ X.prog X.w) X.A (execs st X.env) (SP X pins D) X.xe s
theorem Gf {α:Type}{t:Sem α}{Q Q':α->Α->Prop}{M:Model}{A:Ι}{E:Ψ->Α->Prop}{s:Α}(h:Κ M A t Q E s)(hQ:∀ a s,Q a s->Q' a s):Κ M A t Q' E s:=wpAny_mono h hQ fun _ _ x=>x
section
variable {X:Cx}
def zP (i:Nat):TE:=fun σ H Q=>∃ v,σ[i]? = Δ (Δ v)/\Q v H
def tC (v:V):TE:=fun _ H Q=>Q v H
theorem qS {i:Nat}{x:Str}{pos:Pos}(hN:X.N[i]? = Δ x)(hv:N2 X.env.scope x)(hd:(x == ("__debug__" : Str))=Ξ:=by decide) (KI:(x == ("__classdict__" : Str))=Ξ:=by decide):PE X (.Name x pos) (zP i):=by
 intro pins s σ H Q I h;obtain⟨v,e,h⟩:=h;obtain⟨m,hn,hl⟩:=I.loc;obtain⟨u,r,l⟩:=hl i x v hN e hv;have fin:EP X pins σ Q u s:=⟨v,H,I,r,h⟩
 rcases l with ⟨hk,hm⟩|⟨hk,c,hc,LZ⟩
 ·exact wpAny_Name (wpAny_loadName_local I.ok.kind hk hn hm fin) hd
 ·rcases hk with hk|hk
  ·exact wpAny_Name (wpAny_loadName_cell I.ok.kind hk hc LZ fin) hd
  ·exact wpAny_Name (wpAny_loadName_free I.ok.kind hk hc LZ fin KI) hd
theorem zQ {i j pos}:PE X (.Constant (.int i) j pos) (tC (.int i)):=fun _ _ _ H _ I h=>wpAny_Constant_int ⟨.int i,H,I.tok _,⟨_,rfl⟩,h⟩
theorem B4 {b j pos}:PE X (.Constant (.bool b) j pos) (tC (.bl b)):=fun _ _ _ H _ I h=>Constant_bool ⟨.bl b,H,I,rfl,h⟩
theorem zR {j pos}:PE X (.Constant .none j pos) (tC .F4):=fun _ _ _ H _ I h=>Constant_none ⟨.F4,H,I,rfl,h⟩
theorem zU {x j pos}:PE X (.Constant (.str x) j pos) (tC (.str x)):=fun _ _ _ H _ I h=>Calls.Constant_str ⟨.str x,H,I.tok _,⟨_,rfl⟩,h⟩
def Gl (X:Cx)(x:Str):Prop:=X.env.kindOf x=Δ .globalImplicit
theorem kA {E:Ψ->Α->Prop}{pins:List (Ω×Obj)}{s:Α}{σ:St}{H:Hp}{x:Str}{u:Ψ}{pos:Pos}{Q:Ψ->Α->Prop}(I:Inv X pins σ H s)(hg:Gl X x)(hm:X.mg x=Δ u)(h:Q u s)
  (hd:(x == ("__debug__" : Str))=Ξ:=by decide):Κ (Μ X.prog X.w) X.A (eval (.Name x pos) X.env) Q E s:=
 Calls.Name_function_global I.ok.kind hg (Calls.loadGlobal_global (by rw[I.ok.glob];exact I.mod.glob.keeps I.bk) hm h) hd
theorem fq {E:Ψ->Α->Prop}{pins:List (Ω×Obj)}{s:Α}{σ:St}{H:Hp}{x:Str}{u:Ψ}{pos:Pos}{Q:Ψ->Α->Prop}(I:Inv X pins σ H s)(hg:Gl X x)(hm:X.mg x=Φ)(hv:bootBuiltins x=Δ u)(h:Q u s)
  (hn:x≠"__name__":=by decide) (hd:(x == ("__debug__" : Str))=Ξ:=by decide):Κ (Μ X.prog X.w) X.A (eval (.Name x pos) X.env) Q E s:=by
 obtain⟨mb,h1,h2⟩:=I.mod.blt;exact Calls.Name_function_global I.ok.kind hg (Calls.loadGlobal_builtin (by rw[I.ok.glob];exact I.mod.glob.keeps I.bk) hm (by rw[I.ok.blt];exact h1.keeps I.bk) ((h2 x hn).trans hv) h) hd
theorem vO {x:Str}{v:V}{u:Ψ}{pos:Pos}(hg:Gl X x)(hm:X.mg x=Δ u)(r:RelV v u)(hd:(x == ("__debug__" : Str))=Ξ:=by decide):PE X (.Name x pos) (tC v):=
 fun _ _ _ H _ I h=>kA I hg hm ⟨v,H,I,r,h⟩ hd
theorem vP {x:Str}{v:V}{u:Ψ}{pos:Pos}(hg:Gl X x)(hm:X.mg x=Φ)(hv:bootBuiltins x=Δ u)(r:RelV v u)(hn:x≠"__name__":=by decide) (hd:(x == ("__debug__" : Str))=Ξ:=by decide):PE X (.Name x pos) (tC v):=
 fun _ _ _ H _ I h=>fq I hg hm hv ⟨v,H,I,r,h⟩ hn hd
variable {a b:Expr}{ta tb:TE}{pos:Pos}
variable {tA P9:TT}{rest:List Expr}
def B5 (t u:TT):TT:=fun σ H Q=>t σ H fun c H1=>if c=Θ then u σ H1 Q else Q Ξ H1
def Xv (t u:TT):TT:=fun σ H Q=>t σ H fun c H1=>if c=Θ then Q Θ H1 else u σ H1 Q
def EM (t:TT):TT:=fun σ H Q=>t σ H fun c H1=>Q (!c) H1
theorem vQ (ha:PT X a tA):PW X (.BoolOp .And [a] pos) tA:=by
 intro wh pins s σ H Q I h;refine isTrue_and (Gf (ha pins s σ H Q I h) fun c s1 e=>?_)
 induction c using zB with
 | true=>exact isTrue_and_nil e
 | false=>exact e
theorem zV (ha:PT X a tA):PW X (.BoolOp .Or [a] pos) tA:=by
 intro wh pins s σ H Q I h;refine isTrue_or (Gf (ha pins s σ H Q I h) fun c s1 e=>?_)
 induction c using zB with
 | false=>exact isTrue_or_nil e
 | true=>exact e
theorem zW (ha:PT X a tA)(hb:PW X (.BoolOp .And (b::rest) pos) P9):PW X (.BoolOp .And (a::b::rest) pos) (B5 tA P9):=by
 intro wh pins s σ H Q I h;refine isTrue_and (Gf (ha pins s σ H _ I h) fun c s1 ⟨H1,I1,q1⟩=>?_)
 induction c using zB with
 | true=>exact hb wh pins s1 σ H1 Q I1 q1
 | false=>exact⟨H1,I1,q1⟩
theorem B6 (ha:PT X a tA)(hb:PW X (.BoolOp .Or (b::rest) pos) P9):PW X (.BoolOp .Or (a::b::rest) pos) (Xv tA P9):=by
 intro wh pins s σ H Q I h;refine isTrue_or (Gf (ha pins s σ H _ I h) fun c s1 ⟨H1,I1,q1⟩=>?_)
 induction c using zB with
 | true=>exact⟨H1,I1,q1⟩
 | false=>exact hb wh pins s1 σ H1 Q I1 q1
theorem zX (ha:PT X a tA):PT X (.UnaryOp .Not a pos) (EM tA):=by intro pins s σ H Q I h;exact isTrue_not (ha pins s σ H (fun c H1=>Q (!c) H1) I h)
theorem qT {op}{t:TE}(h:PE X a t):PE X (.BoolOp op [a] pos) t:=fun pins s σ H Q I hw=>BoolOp_one (h pins s σ H Q I hw)
def Xw (t:TT)(ta tb:TE):TE:=fun σ H Q=>t σ H fun c H1=>if c=Θ then ta σ H1 Q else tb σ H1 Q
theorem l6 {c:Expr}(hc:PT X c tA)(ha:PE X a ta)(hb:PE X b tb):PE X (.IfExp c a b pos) (Xw tA ta tb):=by
 intro pins s σ H Q I h;refine wpAny_IfExp (Gf (hc pins s σ H _ I h) fun d s1 ⟨H1,I1,q1⟩=>?_)
 induction d using zB with
 | true=>exact ha pins s1 σ H1 Q I1 q1
 | false=>exact hb pins s1 σ H1 Q I1 q1
end
def GV (K:Frag)(H:Hp)(a:Ω)(xs:List V):Prop:=
 Rd H a (.lst xs)∨
  ∃ (o:Obj) (its:Array Ψ) (n:Nat),K.lookup a=Δ o/\o.cls=.type "list"/\o.dict=Φ/\o.data=.seq its n/\its.size<=Ζ/\Vals xs its.toList
def Hn (K:Frag)(H:Hp)(a:Ω)(xs:List V):Prop:=
 Rd H a (.tup xs)∨
  ∃ (o:Obj) (its:Array Ψ) (n:Nat),K.lookup a=Δ o/\o.cls=.type "tuple"/\o.data=.seq its n/\its.size<=Ζ/\Vals xs its.toList
noncomputable def EN:Ψ->Option V
 | .none=>Δ .F4
 | .bool b=>Δ (.bl b)
 | .int i _=>Δ (.int i)
 | .str x _=>Δ (.str x)
 | .bytes b _=>Δ (.Mu b)
 | .float b _=>Δ (.Rc b)
 | .ref a=>Δ (.ref a)
 | .type n=>Δ (.ty n)
 | _=>Φ
theorem RelV.abs {x:V}{u:Ψ}(r:RelV x u):EN u=Δ x:=by
 cases x with
 | F4=>cases r;rfl
 | bl _=>cases r;rfl
 | int _=>obtain⟨t,rfl⟩:=r;rfl
 | str _=>obtain⟨t,rfl⟩:=r;rfl
 | Mu _=>obtain⟨t,rfl⟩:=r;rfl
 | Rc _=>obtain⟨t,rfl⟩:=r;rfl
 | ref _=>cases r;rfl
 | ty _=>cases r;rfl
theorem RelV.inj {x y:V}{u:Ψ}(r:RelV x u)(q:RelV y u):x=y:=D_ (r.abs.symm.trans q.abs)
theorem Vals.inj:∀ {xs ys:List V}{us:List Ψ},Vals xs us->Vals ys us->xs=ys
 | _,_,_,.nil,.nil=>rfl
 | _,_,_,.cons r t,.cons r' t'=>by rw[r.inj r',Vals.inj t t']
section
variable {X:Cx}{pins:List (Ω×Obj)}{σ:St}{H:Hp}{s:Α}{a:Ω}{xs ys:List V}
theorem Hn.of {K:Frag}(h:H a=Δ (.tup xs)):Hn K H a xs:=.inl (.inl h)
theorem Inv.list (I:Inv X pins σ H s)(h:GV X.K H a xs):∃ its:List Ψ,Vals xs its/\PlainL s.heap a its.toArray/\xs.length<=Ζ:=by
 rcases h with h|⟨o,its,n,hk,hc,hd,hs,hz,r⟩
 ·obtain⟨z,its,n,r,e⟩:=h.ok I.Ge;exact⟨its,r,⟨_,n,e,rfl,rfl,rfl⟩,z⟩
 ·refine⟨its.toList,r,⟨o,n,I.Jl a o hk,hc,hd,by simpa using hs⟩,?_⟩;have e:=r.length;simp only[P_] at e;omega
theorem Inv.tuple (I:Inv X pins σ H s)(h:Hn X.K H a xs):∃ its:List Ψ,Vals xs its/\IsTup s.heap a its.toArray/\xs.length<=Ζ:=by
 rcases h with h|⟨o,its,n,hk,hc,hs,hz,r⟩
 ·obtain⟨z,its,r,p⟩:=h.ok I.Ge;exact⟨its,r,p,z⟩
 ·refine⟨its.toList,r,⟨o,I.Jl a o hk,hc,n,by simpa using hs⟩,?_⟩;have e:=r.length;simp only[P_] at e;omega
theorem Inv.GG (I:Inv X pins σ H s)(h:GV X.K H a xs)(h':GV X.K H a ys):xs=ys:=by
 obtain⟨its,r,⟨o,n,e,_,_,d⟩,_⟩:=I.list h;obtain⟨its',r',⟨o',n',e',_,_,d'⟩,_⟩:=I.list h';rw[e] at e';cases e';rw[d] at d';injection d' with d1 _;have:its=its':=by simpa using congrArg Array.toList d1
 subst this;exact r.inj r'
theorem Inv.HA (I:Inv X pins σ H s)(h:Hn X.K H a xs)(h':Hn X.K H a ys):xs=ys:=by
 obtain⟨its,r,⟨o,e,_,n,d⟩,_⟩:=I.tuple h;obtain⟨its',r',⟨o',e',_,n',d'⟩,_⟩:=I.tuple h';rw[e] at e';cases e';rw[d] at d';injection d' with d1 _;have:its=its':=by simpa using congrArg Array.toList d1
 subst this;exact r.inj r'
end
section
variable {X:Cx}{st:Stmt}{rest:List Stmt}{t u:TS}{e:Expr}{te:TE}{pos:Pos}
def B7:TS:=fun D σ H=>D.nx σ H
def EO (t u:TS):TS:=fun D σ H=>t {D with nx:=u D} σ H
theorem il:I0 X [] B7:=fun _ _ σ H _ I h=>wpAny_execs_nil ⟨σ,H,I,h⟩
theorem fy (h1:PS X st t)(h2:I0 X rest u):I0 X (st::rest) (EO t u):=by
 intro pins s σ H D I h;refine wpAny_execs_cons (Gf (h1 pins s σ H {D with nx:=u D} I h) fun f s1 q=>?_);cases f with
 | next=>obtain⟨F8,H',I',q⟩:=q;exact h2 pins s1 F8 H' D I' q
 | ret v=>exact q
 | brk=>exact q
 | cont=>exact q
theorem Inv.quiet {pins:List (Ω×Obj)}{σ:St}{H:Hp}{s:Α}(I:Inv X pins σ H s):interactive X.env=Ξ:=by simp[interactive,I.ok.kind]
def B8 (te:TE):TS:=fun D σ H=>te σ H fun _ H1=>D.nx σ H1
theorem ip (he:PE X e te)(hs:swapsWith e Φ pos.line X.env=pure Ξ:=by rfl):PS X (.Expr e pos) (B8 te):=by intro pins s σ H D I h;exact wpAny_Expr_any (Gf (he pins s σ H _ I h) fun v s1 ⟨x,H1,I1,r1,q1⟩=>⟨σ,H1,I1,q1⟩) I.quiet hs
def ER (te:TE):TS:=fun D σ H=>te σ H D.rt
theorem qU (he:PE X e te):PS X (.Return (Δ e) pos) (ER te):=by intro pins s σ H D I h;exact wpAny_Return_some (Gf (he pins s σ H _ I h) fun v s1 ⟨x,H1,I1,r1,q1⟩=>⟨x,σ,H1,I1,r1,q1⟩)
def ES (c:TT)(t u:TS):TS:=fun D σ H=>c σ H fun b H1=>if b=Θ then t D σ H1 else u D σ H1
theorem xU {c:Expr}{a b:List Stmt}{tc:TT}(hc:PT X c tc)(ha:I0 X a t)(hb:I0 X b u):PS X (.If c a b pos) (ES tc t u):=by
 intro pins s σ H D I h;refine wpAny_If (Gf (hc pins s σ H _ I h) fun d s1 ⟨H1,I1,q1⟩=>?_)
 induction d using zB with
 | true=>exact ha pins s1 σ H1 D I1 q1
 | false=>exact hb pins s1 σ H1 D I1 q1
def zY:TS:=fun _ _ _=>False
theorem qV:PS X st zY:=fun _ _ _ _ _ _ h=>h.elim
end
abbrev TG:=V->St->Hp->(St->Hp->Prop)->Prop
abbrev L0:=List V->St->Hp->(St->Hp->Prop)->Prop
def PG (X:Cx)(target:Expr)(t:TG):Prop:=
 ∀ (pins:List (Ω×Obj)) (s:Α) (σ:St) (H:Hp) (v:V) (u:Ψ) (Q:St->Hp->Prop),Inv X pins σ H s->RelV v u->t v σ H Q->
  Κ (Μ X.prog X.w) X.A (assign target X.env u) (fun _ s'=>∃ F8 H',Inv X pins F8 H' s'/\Q F8 H') X.xe s
def N6 (X:Cx)(ts:List Expr)(t:L0):Prop:=
 ∀ (pins:List (Ω×Obj)) (s:Α) (σ:St) (H:Hp) (vs:List V) (us:List Ψ) (Q:St->Hp->Prop),Inv X pins σ H s->Vals vs us->t vs σ H Q->
  Κ (Μ X.prog X.w) X.A (assignInOrder ((assignEach ts X.env).map (·.2)) us) (fun _ s'=>∃ F8 H',Inv X pins F8 H' s'/\Q F8 H') X.xe s
abbrev zZ:=V->V->V->Hp->(Hp->Prop)->Prop
def B9 (X:Cx)(t:zZ):Prop:=
 ∀ (pins:List (Ω×Obj)) (s:Α) (σ:St) (H:Hp) (o i v:V) (ov iv u:Ψ) (Q:Hp->Prop),Inv X pins σ H s->RelV o ov->RelV i iv->RelV v u->t o i v H Q->
  Κ (Μ X.prog X.w) X.A (setItem ov iv u) (fun _ s'=>∃ H',Inv X pins σ H' s'/\Q H') X.xe s
section
variable {X:Cx}{pos:Pos}
def qW (i:Nat):TG:=fun v σ H Q=>Q (σ.set i (Δ v)) H
theorem vR {i:Nat}{x:Str}(hN:X.N.Nodup)(hi:X.N[i]? = Δ x)(hx:Loc X.env.scope x)(hf:X.fn x=Θ∨X.env.scope.names.lookup x=Δ .local:=by first|exact .inl rfl|exact .inr rfl|assumption):PG X (.Name x pos) (qW i):=by intro pins s σ H v u Q I r h;exact wpAny_assign_Name (l5 I hN hi hx r (fun s' I'=>⟨_,H,I',h⟩) hf)
def Ca:L0:=fun vs σ H Q=>vs=[]/\Q σ H
def xV (t:TG)(u:L0):L0:=fun vs σ H Q=>∃ v r,vs=v::r/\t v σ H fun F8 H'=>u r F8 H' Q
theorem vS:N6 X [] Ca:=by intro pins s σ H vs us Q I r h;obtain⟨e,h⟩:=h;subst e;cases r;exact assignInOrder_nil ⟨σ,H,I,h⟩
theorem qX {e:Expr}{es:List Expr}{t:TG}{u:L0}(h1:PG X e t)(h2:N6 X es u)
  (hs:(assignEach (e::es) X.env).map (·.2)=assign e X.env::(assignEach es X.env).map (·.2):=by rfl):N6 X (e::es) (xV t u):=by
 intro pins s σ H vs us Q I r h;obtain⟨v,vr,e1,h⟩:=h;subst e1;cases r with
 | cons r rr=>rw[hs];refine assignInOrder_cons (Gf (h1 pins s σ H _ _ _ I r h) fun _ s1 ⟨Vi,H1,I1,q1⟩=>?_);exact h2 pins s1 Vi H1 _ _ Q I1 rr q1
def ET (to ti:TE)(t:zZ):TG:=fun v σ H Q=>to σ H fun o H1=>ti σ H1 fun i H2=>t o i v H2 fun H3=>Q σ H3
theorem qY {o i:Expr}{to ti:TE}{t:zZ}(ho:PE X o to)(hi:PE X i ti)(hs:B9 X t)
  (ha:∀ v,assign (.Subscript o i pos) X.env v=(do
   let ov <- holding [v] (eval o X.env);let iv <- holding [v,ov] (eval i X.env)
   standAt pos
   holding [v,ov,iv] (setItem ov iv v)
   release [v,ov,iv] []):=by intro _;rfl):PG X (.Subscript o i pos) (ET to ti t):=by
 intro pins s σ H v u Q I r h;rw[ha];refine a_ (M_ (Gf (ho pins s σ H _ I h) fun ov s1 ⟨x,H1,I1,r1,q1⟩=>?_));refine a_ (M_ (Gf (hi pins s1 σ H1 _ I1 q1) fun iv s2 ⟨y,H2,I2,r2,q2⟩=>?_));refine a_ (wpAny_standAt (a_ (M_ (Gf (hs pins s2 σ H2 x y v ov iv u _ I2 r1 r2 r q2) fun _ s3 ⟨H3,I3,q3⟩=>?_))));exact wpAny_release ⟨σ,H3,I3,q3⟩
def Aa (te:TE)(g:TG):TS:=fun D σ H=>te σ H fun x H1=>g x σ H1 D.nx
theorem nC {tg e:Expr}{te:TE}{g:TG}(he:PE X e te)(hg:PG X tg g)(hs:swapsWithSole [tg] e pos.line X.env=pure Ξ:=by rfl)(hw:swappedStores [tg] e X.env=pure Φ:=by rfl)
  (h1:(assignEach [tg] X.env).map (·.2)=[assign tg X.env]:=by rfl):PS X (.Assign [tg] e pos) (Aa te g):=by
 intro pins s σ H D I h;refine wpAny_Assign_stores (Gf (he pins s σ H _ I h) fun v s1 ⟨x,H1,I1,r1,q1⟩=>?_) hs hw;rw[h1];exact Gf (hg pins s1 σ H1 x v _ I1 r1 q1) fun _ s2 q=>q
theorem nE {i:Nat}{x:Str}{e:Expr}{te:TE}{pos':Pos}(hN:X.N.Nodup)(hi:X.N[i]? = Δ x)(hx:Loc X.env.scope x)(he:PE X e te)(hs:swapsWith e (Δ (.Name x pos')) pos.line X.env=pure Ξ:=by rfl)(hf:X.fn x=Θ∨X.env.scope.names.lookup x=Δ .local:=by first|exact .inl rfl|exact .inr rfl|assumption) :
  PS X (.Assign [.Name x pos'] e pos) (Aa te (qW i)):=by
 intro pins s σ H D I h;refine wpAny_Assign_Name (Gf (he pins s σ H _ I h) fun v s1 ⟨y,H1,I1,r1,q1⟩=>?_) hs;exact l5 I1 hN hi hx r1 (fun s2 I2=>⟨_,H1,I2,q1⟩) hf
end
structure It where
 go:Nat->Hp->Prop
 K7:Nat->Hp->V->Hp->Prop
 stop:Nat->Hp->Prop
def fU (X:Cx)(pins:List (Ω×Obj))(H:Hp)(b:Ω):Prop:=
 H b=Φ/\b≠X.env.locals/\b∉X.fs/\(b∈X.ex∨X.Gz.heap.objs.size<=b)/\(∀ x c,X.env.cells.lookup x=Δ c->c≠b)/\∀ p∈X.pn++pins,p.1≠b
theorem Inv.Jt {X:Cx}{pins:List (Ω×Obj)}{σ:St}{H H':Hp}{s:Α}{b:Ω}(I:Inv X pins σ H s)(hb:s.heap.objs.size<=b)(hn:H' b=Φ):fU X pins H' b:=by
 refine⟨hn,Q_ (C_ I.lt hb),I.Ri hb,.inr (O_ I.sz hb),fun x c e z=>?_,fun p hp z=>?_⟩
 ·obtain⟨v,q⟩:=I.cell x c e;exact absurd (C_ q.lt (by rw[z];exact hb)) (T_ _)
 ·exact absurd (C_ (j_ (I.pin p hp).1) (by rw[z];exact hb)) (T_ _)
structure Turn (P:Ε)(w:Β)(K:Frag)(tg:Expr)(J:It)(fp:List Ω)(it:Ω)(tn:Nat->Heap->Prop):Prop where
 mem:it∈fp
 obj:∀ i h,tn i h->∀ b∈fp,∃ o,h.get? b=Δ o/\∀ v,o.data≠.cell v
 keep:∀ i h h',tn i h->(∀ b∈fp,∀ o,h.get? b=Δ o->h'.get? b=Δ o)->tn i h'
 item:∀ (X:Cx),X.prog=P->X.w=w->X.K=K->X.calm=Θ->∀ (i:Nat) (pins:List (Ω×Obj)) (s:Α) (σ:St) (H:Hp) (E:Ψ->Α->Prop),Inv X pins σ H s->(∀ b∈fp,fU X pins H b)->tn i s.heap->J.go i H->
  Κ (Μ P w) X.A (pyNext (.ref it)) (fun r s1=>∃ u,r=Δ u/\
   Κ (Μ P w) X.A (letOwnedTupleGo tg (.ref it) u) (fun _ s2=>∃ x H',Inv X pins σ H' s2/\RelV x u/\J.K7 i H x H'/\tn (i+1) s2.heap/\∀ b∈fp,H' b=Φ) E s1) E s
 done:∀ (X:Cx),X.prog=P->X.w=w->X.K=K->X.calm=Θ->∀ (i:Nat) (pins:List (Ω×Obj)) (s:Α) (σ:St) (H:Hp) (E:Ψ->Α->Prop),Inv X pins σ H s->(∀ b∈fp,fU X pins H b)->tn i s.heap->J.stop i H->
  Κ (Μ P w) X.A (pyNext (.ref it)) (fun r s1=>r=Φ/\Inv X pins σ H s1) E s
 self:∀ (A:Ι) (i:Nat) (s:Α) (Q:Ψ->Α->Prop) (E:Ψ->Α->Prop),tn i s.heap->Q (.ref it) s->Κ (Μ P w) A (pyIter (.ref it)) Q E s
abbrev TI:=St->Hp->(It->Hp->Prop)->Prop
def Np (X:Cx)(pins:List (Ω×Obj))(σ:St)(tg:Expr)(R:It->Hp->Prop)(P':Ψ)(s2:Α):Prop:=
 ∃ (it:Ω) (fp:List Ω) (tn:Nat->Heap->Prop) (J:It) (H':Hp),P'=.ref it/\Inv X pins σ H' s2/\Turn X.prog X.w X.K tg J fp it tn/\tn 0 s2.heap/\(∀ b∈fp,fU X pins H' b)/\R J H'
def PI (X:Cx)(tg iter:Expr)(wi:TI):Prop:=
 ∀ (pins:List (Ω×Obj)) (s:Α) (σ:St) (H:Hp) (R:It->Hp->Prop),Inv X pins σ H s->wi σ H R->
  Κ (Μ X.prog X.w) X.A (eval iter X.env) (fun v s1=>Κ (Μ X.prog X.w) X.A (pyIter v) (Np X pins σ tg R) X.xe s1) X.xe s
theorem oK {M : Model}{A : Ι}{E : Ψ -> Α -> Prop}{s : Α}{tg : Expr}{it : Ω}{u : Ψ}{o : Obj}{n : String}{vs : Array Ψ}{Q : Unit -> Α -> Prop}(ho : s.heap.get? it = Δ o)(hc : o.cls = .type n)(hd : o.data = .fields vs)
    (hn : ["enumerate", "zip", "dict_itemiterator", "dict_reverseitemiterator", "odict_iterator", "itertools.zip_longest", "itertools.pairwise"].contains n = Ξ) (hQ : Q () s) : Κ M A (letOwnedTupleGo tg (.ref it) u) Q E s := by
  unfold letOwnedTupleGo;cases tg <;> first
    | exact e_ hQ
    | (cases u <;> first
        | exact e_ hQ
        | (refine a_ (wpAny_load ho ?_)
           rw [hc, hd];show Κ M A (if (["enumerate", "zip", "dict_itemiterator", "dict_reverseitemiterator", "odict_iterator", "itertools.zip_longest", "itertools.pairwise"].contains n&&vs[0]? == Δ (rawInt _)) = Θ then _ else _) Q E s;rw [d_ (by intro h; rw [hn, Bool.false_and] at h; cases h)]
           exact e_ hQ))
noncomputable def Qa (K:Frag)(a:Ω):It:=
 ⟨fun i H=>∃ xs x,GV K H a xs/\xs[i]? = Δ x,fun i H x H'=>H'=H/\∀ xs,GV K H a xs->xs[i]? = Δ x,fun i H=>∃ xs,GV K H a xs/\xs.length<=i⟩
noncomputable def Ro (K:Frag)(a:Ω):It:=
 ⟨fun i H=>∃ xs x,Hn K H a xs/\xs[i]? = Δ x,fun i H x H'=>H'=H/\∀ xs,Hn K H a xs->xs[i]? = Δ x,fun i H=>∃ xs,Hn K H a xs/\xs.length<=i⟩
noncomputable def N7 (lo:Int)(n:Nat):It:=⟨fun i _=>i < n,fun i H x H'=>H'=H/\x=.int (lo+i),fun i _=>n<=i⟩
theorem qf {P:Ε}{w:Β}{K:Frag}{tg:Expr}(a it:Ω):Turn P w K tg (Qa K a) [it] it (fun i h=>h.IsListIter it a i) where
 mem:=by simp
 obj:=fun i h st b hb=>by
  have e:b=it:=by simpa using hb
  subst e;obtain⟨o,e,c,d⟩:=st;exact⟨o,e,fun v z=>by rw[d] at z;cases z⟩
 keep:=fun i h h' st k=>st.at fun o e=>k it (by simp) o e
 item:=by intro X hP hw hK hc i pins s σ H E I hf st hg;subst hP hw hK;obtain⟨xs,x,hq,hx⟩:=hg;obtain⟨its,rv,p,hz⟩:=I.list hq;obtain⟨u,hu,ru⟩:=rv.get hx;obtain⟨f0,f1,f2,f3,f4,f5⟩:=hf it (by simp);refine wpAny_pyNext_list_item st p.isList (x:=u) (by simpa using hu) fun h' KJ sb=>?_;have I1:Inv X pins σ H {s with heap:=h'}:=I.turned (t':=s.toks) (fun b o hb e=>(sb.2 b hb).trans e) f0 f1 f3 f4 f5;obtain⟨o,e,c,d⟩:=id KJ;exact⟨u,rfl,oK (s:={s with heap:=h'}) e c d nofun ⟨x,H,I1,ru,⟨rfl,fun ys hy=>by rw[I.GG hy hq];exact hx⟩,KJ,fun b hb=>(hf b hb).1⟩⟩
 done:=by intro X hP hw hK hc i pins s σ H E I hf st hg;subst hP hw hK;obtain⟨xs,hq,hx⟩:=hg;obtain⟨its,rv,p,hz⟩:=I.list hq;obtain⟨f0,f1,f2,f3,f4,f5⟩:=hf it (by simp);have hl:=rv.length;exact wpAny_pyNext_list_end (I.ok.hd hc) st p.isList (by simp;omega) fun h' eb=>⟨rfl,I.turned (t':=s.toks) (fun b o hb e=>eb b o hb e) f0 f1 f3 f4 f5⟩
 self:=fun _ _ _ _ _ st h=>wpAny_pyIter_listiter st h
theorem nG {P:Ε}{w:Β}{K:Frag}{tg:Expr}(a it:Ω):Turn P w K tg (Ro K a) [it] it (fun i h=>h.IsTupleIter it a i) where
 mem:=by simp
 obj:=fun i h st b hb=>by
  have e:b=it:=by simpa using hb
  subst e;obtain⟨o,e,c,d⟩:=st;exact⟨o,e,fun v z=>by rw[d] at z;cases z⟩
 keep:=fun i h h' st k=>st.at fun o e=>k it (by simp) o e
 item:=by intro X hP hw hK hc i pins s σ H E I hf st hg;subst hP hw hK;obtain⟨xs,x,hq,hx⟩:=hg;obtain⟨its,rv,p,hz⟩:=I.tuple hq;obtain⟨u,hu,ru⟩:=rv.get hx;obtain⟨f0,f1,f2,f3,f4,f5⟩:=hf it (by simp);refine wpAny_pyNext_tuple_item st (show s.heap.IsTuple a its.toArray from p) (x:=u) (by simpa using hu) fun h' KJ sb=>?_;have I1:Inv X pins σ H {s with heap:=h'}:=I.turned (t':=s.toks) (fun b o hb e=>(sb.2 b hb).trans e) f0 f1 f3 f4 f5;obtain⟨o,e,c,d⟩:=id KJ;exact⟨u,rfl,oK (s:={s with heap:=h'}) e c d nofun ⟨x,H,I1,ru,⟨rfl,fun ys hy=>by rw[I.HA hy hq];exact hx⟩,KJ,fun b hb=>(hf b hb).1⟩⟩
 done:=by intro X hP hw hK hc i pins s σ H E I hf st hg;subst hP hw hK;obtain⟨xs,hq,hx⟩:=hg;obtain⟨its,rv,p,hz⟩:=I.tuple hq;obtain⟨f0,f1,f2,f3,f4,f5⟩:=hf it (by simp);have hl:=rv.length;exact wpAny_pyNext_tuple_end (I.ok.hd hc) st (show s.heap.IsTuple a its.toArray from p) (by simp;omega) fun h' eb=>⟨rfl,I.turned (t':=s.toks) (fun b o hb e=>eb b o hb e) f0 f1 f3 f4 f5⟩
 self:=fun _ _ _ _ _ st h=>wpAny_pyIter_tupleiter st h
theorem nH {P:Ε}{w:Β}{K:Frag}{tg:Expr}(it:Ω)(lo:Int)(n:Nat):Turn P w K tg (N7 lo n) [it] it (fun i h=>IsRangeIter h it (lo+(i:Nat)*1) ((n:Int) - (i:Nat)) 1) where
 mem:=by simp
 obj:=fun i h st b hb=>by
  have e:b=it:=by simpa using hb
  subst e
  exact⟨_,st,fun v z=>by
   have z':Data.fields _=Data.cell v:=z
   cases z'⟩
 keep:=fun i h h' st k=>k it (by simp) _ st
 item:=by intro X hP hw hK hc i pins s σ H E I hf st hg;subst hP hw hK;obtain⟨f0,f1,f2,f3,f4,f5⟩:=hf it (by simp);have W:=Walks.range (prog:=X.prog) (w:=X.w) (I.ok.hd hc) it lo 1 n;refine W.item i s _ _ hg st fun v h' tk hv KJ kk=>?_;obtain⟨t,rfl⟩:=hv;have I1:Inv X pins σ H {s with heap:=h',toks:=tk}:=I.turned (fun b o hb e=>kk b o (by simpa using hb) e) f0 f1 f3 f4 f5;refine⟨_,rfl,oK (s:={s with heap:=h',toks:=tk}) (n:="range_iterator") KJ rfl rfl nofun ⟨.int (lo+i),H,I1,⟨t,?_⟩,⟨rfl,rfl⟩,KJ,fun b hb=>(hf b hb).1⟩⟩;rw[Int.mul_one]
 done:=by intro X hP hw hK hc i pins s σ H E I hf st hg;subst hP hw hK;obtain⟨f0,f1,f2,f3,f4,f5⟩:=hf it (by simp);exact wpAny_pyNext_range_end (I.ok.hd hc) st (by have:n<=i:=hg;omega) fun h' eb=>⟨rfl,I.turned (t':=s.toks) (fun b o hb e=>eb b o hb e) f0 f1 f3 f4 f5⟩
 self:=fun _ _ _ _ _ st h=>wpAny_pyIter_rangeiter st h
section
variable {X:Cx}{tg:Expr}
theorem qZ {pins:List (Ω×Obj)}{σ:St}{H:Hp}{s:Α}{R:It->Hp->Prop}{E:Ψ->Α->Prop}{lo hi:Int}{t u v:Tok}{tk:Nat}(I:Inv X pins σ H s)(h1 : -(2 ^ 62)<=lo)(h2:lo < 2 ^ 62)(h3 : -(2 ^ 62)<=hi)(h4:hi < 2 ^ 62)
  (q:R (N7 lo (hi - lo).toNat) H):Κ (Μ X.prog X.w) X.A (pyIter (.ref s.heap.objs.size)) (Np X pins σ tg R) E {s with heap:=s.heap.push {cls:=.type "range",data:=.fields #[.int lo t,.int hi u,.int 1 v]},toks:=tk}:=by
 refine wpAny_pyIter_range (IsRange.new ..) (small_one h1 h2 h3 h4) ?_;have I1:Inv X pins σ H {s with heap:=s.heap.push {cls:=.type "range",data:=.fields #[.int lo t,.int hi u,.int 1 v]},toks:=tk}:=I.kept fun b o e=>l_ _ e
 refine⟨(s.heap.push {cls:=.type "range",data:=.fields #[.int lo t,.int hi u,.int 1 v]}).objs.size,[(s.heap.push {cls:=.type "range",data:=.fields #[.int lo t,.int hi u,.int 1 v]}).objs.size],_,_,H,rfl,
  I1.kept (t':=tk) fun b o e=>l_ _ e,nH _ lo (hi - lo).toNat,?_,fun b hb=>?_,q⟩
 ·have e1:lo+((0:Nat):Int)*1=lo:=by simp
  have e2:(((hi - lo).toNat:Nat):Int) - ((0:Nat):Int)=Builtin.Range.rangeSize lo hi 1:=by rw[rangeSize_one];split<;>omega
  show IsRangeIter _ _ (lo+((0:Nat):Int)*1) ((((hi - lo).toNat:Nat):Int) - ((0:Nat):Int)) 1;rw[e1,e2];exact w_ _ rfl
 ·have e:b=(s.heap.push {cls:=.type "range",data:=.fields #[.int lo t,.int hi u,.int 1 v]}).objs.size:=by simpa using hb
  subst e;exact I1.Jt (m_ _) (I1.Ge.fresh (m_ _))
def Cb (ta:TA):TI:=fun σ H R=>ta σ H fun vs H1=>∃ j:Int,vs=[.int j]/\-(2 ^ 62)<=j/\j < 2 ^ 62/\R (N7 0 j.toNat) H1
theorem jH {a:Expr}{ta:TA}{p pos:Pos}(hg:Gl X "range") (hm:X.mg "range" = Φ) (ha:PA X [a] ta) (hs:Ν [a] X.env=[(Ξ,eval a X.env)]:=by rfl):PI X tg (.Call (.Name "range" p) [a] [] pos) (Cb ta):=by
 intro pins s σ H R I h;refine Call_ (fq I hg hm boot_range (aav (Gf (ha pos pins s σ H _ I h) fun us s1 ⟨vs,H1,I1,r1,q1⟩=>?_) hs rfl));obtain⟨j,e,q1,q2,q⟩:=q1;subst e;cases r1 with
 | cons r rr=>cases rr;obtain⟨t,rfl⟩:=r;exact call_range_1 (qZ I1 ⋯ ⋯ q1 q2 (by simpa using q))
def EU (wi:TI)(g:TG)(tb:TS):TS:=fun D σ H=>wi σ H fun J H1=>∃ W:Nat->Nat->St->Hp->Prop,(∃ m,W 0 m σ H1)/\∀ i m σ H,W i m σ H->
 (J.stop i H/\D.nx σ H)∨(J.go i H/\∃ N:St->Hp->Prop,(∀ F8 H',N F8 H'->∃ m',m' < m/\W (i+1) m' F8 H')/\∀ x H',J.K7 i H x H'->g x σ H' fun Ja H2=>tb {D with nx:=N,ct:=N,bk:=D.nx} Ja H2)
noncomputable def gN (fp:List Ω)(h:Heap):List (Ω×Obj):=fp.filterMap fun b=>(h.get? b).map fun o=>(b,o)
theorem fE {fp:List Ω}{h:Heap}{b:Ω}{o:Obj}(hb:b∈fp)(e:h.get? b=Δ o):(b,o)∈gN fp h:=List.mem_filterMap.mpr ⟨b,hb,by rw[e];rfl⟩
theorem qg {fp:List Ω}{h:Heap}{p:Ω×Obj}(hp:p∈gN fp h):p.1∈fp/\h.get? p.1=Δ p.2:=by
 obtain⟨b,hb,e⟩:=List.mem_filterMap.mp hp;cases q:h.get? b with
 | none=>rw[q] at e;cases e
 | some o=>rw[q] at e;have e':(b,o)=p:=D_ e;subst e';exact⟨hb,q⟩
theorem Inv.pinned {pins:List (Ω×Obj)}{σ:St}{H:Hp}{s:Α}{fp:List Ω}(I:Inv X pins σ H s)(hf:∀ b∈fp,fU X pins H b)(ho:∀ b∈fp,∃ o,s.heap.get? b=Δ o/\∀ v,o.data≠.cell v):Inv X (pins++gN fp s.heap) σ H s:=
 I.JJ fun p hp=>(v_.mp hp).elim (fun z=>I.pin p (s_ _ z)) fun z=>by obtain⟨hb,e⟩:=qg z;obtain⟨f0,f1,f2,_⟩:=hf p.1 hb;obtain⟨o,e',d⟩:=ho p.1 hb;rw[e] at e';cases e';exact⟨e,f0,f1,f2,d⟩
theorem Inv.Hu {pins pl:List (Ω×Obj)}{σ:St}{H:Hp}{s:Α}(I:Inv X (pins++pl) σ H s):Inv X pins σ H s:=I.JJ fun p hp=>I.pin p (s_ _ (r_ _ hp))
theorem ra {iter:Expr}{body:List Stmt}{wi:TI}{g:TG}{tb:TS}{pos:Pos}(hp:PassesOwn (Μ X.prog X.w) X.A X.env X.xe)(hc:X.calm=Θ)(hi:PI X tg iter wi)(hg:PG X tg g)(hb:I0 X body tb)
  (hs:∀ x,foldedSetIterable iter X.env x=pure x:=by intro _;rfl):PS X (.For tg iter body [] pos) (EU wi g tb):=by
 intro pins s σ H D I h;refine wpAny_For (Gf (hi pins s σ H _ I h) fun v s1 h1=>Gf h1 fun P' s2 h2=>?_) hs;obtain⟨it,fp,tn,J,H2,e,I2,T,L3,f2,W,⟨m0,w0⟩,turn⟩:=h2;subst e
 -- Rp stays Θ of Mz MA objects through Mz loop
 have Ju:∀ {H':Hp},(∀ b∈fp,H' b=Φ)->∀ b∈fp,fU X pins H' b:=fun hn b hb=>⟨hn b hb,(f2 b hb).2⟩
 refine codeAny_forLoop_any (fun n s'=>∃ i F8 H',Inv X pins F8 H' s'/\tn i s'.heap/\(∀ b∈fp,H' b=Φ)/\W i n F8 H') ?_ m0 ⟨0,σ,H2,I2,L3,fun b hb=>(f2 b hb).1,w0⟩;rintro n s3 ⟨i,N8,H3,I3,Vj,Vk,w3⟩;rcases turn i n N8 H3 w3 with ⟨stop,qn⟩|⟨go,N,hN,step⟩
 ·refine wpAny_passesOwn hp (Gf (T.done X rfl rfl rfl hc i pins s3 N8 H3 X.xe I3 (Ju Vk) Vj stop) fun r s4 ⟨hr,I4⟩=>?_);subst hr;exact wpAny_execs_nil ⟨N8,H3,I4,qn⟩
 ·refine wpAny_passesOwn hp (Gf (T.item X rfl rfl rfl hc i pins s3 N8 H3 X.xe I3 (Ju Vk) Vj go) fun r s4 ⟨u,hr,h4⟩=>?_);subst hr;refine wpAny_passesOwn hp (Gf h4 fun _ s5 ⟨x,H5,I5,r5,y5,N9,Rq⟩=>?_);have Xx:=I5.pinned (Ju Rq) (T.obj _ _ N9);refine wpAny_passesOwn hp (Gf (hg _ s5 N8 H5 x u _ Xx r5 (step x H5 y5)) fun _ s6 ⟨MB,H6,I6,q6⟩=>?_);refine wpAny_passesOwn hp (Gf (hb _ s6 MB H6 _ I6 q6) fun f s7 q7=>?_);have again:∀ {KN:St}{H7:Hp},Inv X (pins++gN fp s5.heap) KN H7 s7->N KN H7->∃ m,m < n/\∃ i F8 H',Inv X pins F8 H' s7/\tn i s7.heap/\(∀ b∈fp,H' b=Φ)/\W i m F8 H':=fun {KN H7} I7 n7=>by obtain⟨m',hm,w7⟩:=hN KN H7 n7;refine⟨m',hm,i+1,KN,H7,I7.Hu,T.keep _ _ _ N9 fun b hb o e=>(I7.pin (b,o) (s_ _ (s_ _ (fE hb e)))).1,fun b hb=>?_,w7⟩;obtain⟨o,e,d⟩:=T.obj _ _ N9 b hb;exact(I7.pin (b,o) (s_ _ (s_ _ (fE hb e)))).2.1
  cases f with
  | next=>obtain⟨KN,H7,I7,n7⟩:=q7;exact again I7 n7
  | cont=>obtain⟨KN,H7,I7,n7⟩:=q7;exact again I7 n7
  | brk=>obtain⟨KN,H7,I7,q7⟩:=q7;exact⟨KN,H7,I7.Hu,q7⟩
  | ret v=>obtain⟨x7,KN,H7,I7,r7,q7⟩:=q7;exact⟨x7,KN,H7,I7.Hu,r7,q7⟩
end
abbrev R2:=V->V->Hp->VK->Prop
def Ij (X:Cx)(f:Ψ->Ψ->Sem Ψ)(r:R2):Prop:=
 ∀ (pins:List (Ω×Obj)) (s:Α) (σ:St) (H:Hp) (x y:V) (v u:Ψ) (Q:VK),Inv X pins σ H s->RelV x v->RelV y u->r x y H Q->
  Κ (Μ X.prog X.w) X.A (f v u) (EP X pins σ Q) X.xe s
def Rr (X:Cx)(f:Ψ->Sem Ψ)(r:V->Hp->VK->Prop):Prop:=
 ∀ (pins:List (Ω×Obj)) (s:Α) (σ:St) (H:Hp) (x:V) (v:Ψ) (Q:VK),Inv X pins σ H s->RelV x v->r x H Q->
  Κ (Μ X.prog X.w) X.A (f v) (EP X pins σ Q) X.xe s
def dI (X:Cx)(f:Ψ)(r:List V->Hp->VK->Prop):Prop:=
 ∀ (pins:List (Ω×Obj)) (s:Α) (σ:St) (H:Hp) (xs:List V) (us:List Ψ) (Q:VK),Inv X pins σ H s->Vals xs us->r xs H Q->
  Κ (Μ X.prog X.w) X.A (call f us) (EP X pins σ Q) X.xe s
def EV (X:Cx)(r:V->Hp->(Bool->Hp->Prop)->Prop):Prop:=
 ∀ (pins:List (Ω×Obj)) (s:Α) (σ:St) (H:Hp) (x:V) (v:Ψ) (Q:Bool->Hp->Prop),Inv X pins σ H s->RelV x v->r x H Q->
  Κ (Μ X.prog X.w) X.A (truthy v) (TP X pins σ Q) X.xe s
def Qb (r:R2)(ta tb:TE):TE:=fun σ H Q=>ta σ H fun x H1=>tb σ H1 fun y H2=>r x y H2 Q
def Xy (r:V->Hp->VK->Prop)(ta:TE):TE:=fun σ H Q=>ta σ H fun x H1=>r x H1 Q
def rI (C:Int->Int->Prop)(g:Int->Int->V):R2:=fun x y H Q=>∃ i j,x=.int i/\y=.int j/\C i j/\Q (g i j) H
def Rt (g:Int->Int->V):R2:=fun x y H Q=>∃ i j,x=.int i/\y=.int j/\Q (g i j) H
def rU (g:Int->V):V->Hp->VK->Prop:=fun x H Q=>∃ i,x=.int i/\Q (g i) H
section
variable {X:Cx}{a b c:Expr}{ta tb tc:TE}{pos:Pos}
theorem Ab (ha:PE X a ta)(hb:PE X b tb){pins:List (Ω×Obj)}{s:Α}{σ:St}{H:Hp}{R:V->V->Hp->Prop}(I:Inv X pins σ H s)
  (h:ta σ H fun x H1=>tb σ H1 fun y H2=>R x y H2) {Q:Ψ->Α->Prop}{f:Ψ->Ψ->Sem Ψ}
  (hf:∀ v u s2 x y H2,Inv X pins σ H2 s2->RelV x v->RelV y u->R x y H2->Κ (Μ X.prog X.w) X.A (f v u) Q X.xe s2) :
  Κ (Μ X.prog X.w) X.A (eval a X.env) (fun v F7=>Κ (Μ X.prog X.w) X.A (eval b X.env) (fun u Ru=>Κ (Μ X.prog X.w) X.A (f v u) Q X.xe Ru) X.xe F7) X.xe s:=by
 refine Gf (ha pins s σ H _ I h) fun v s1 ⟨x,H1,I1,r1,q1⟩=>?_;refine Gf (hb pins s1 σ H1 _ I1 q1) fun u s2 ⟨y,H2,I2,r2,q2⟩=>?_;exact hf v u s2 x y H2 I2 r1 r2 q2
theorem oM {op:Operator}{r:R2}(ho:Ij X (binaryOp op) r)(ha:PE X a ta)(hb:PE X b tb):PE X (.BinOp a op b pos) (Qb r ta tb):=by intro pins s σ H Q I h;exact wpAny_BinOp (Ab ha hb I h fun v u s2 x y H2 I2 rx ry q=>ho pins s2 σ H2 x y v u Q I2 rx ry q)
theorem Cc {op:UnaryOp}{r:V->Hp->VK->Prop}(ho:Rr X (unaryOp op) r)(ha:PE X a ta):PE X (.UnaryOp op a pos) (Xy r ta):=by intro pins s σ H Q I h;exact UnaryOp_ (Gf (ha pins s σ H _ I h) fun v s1 ⟨x,H1,I1,r1,q1⟩=>ho pins s1 σ H1 x v Q I1 r1 q1)
theorem Qc {f:Ψ->Ψ->Sem Ψ}{C:Int->Int->Prop}{g:Int->Int->Int}
  (rule:∀ (i j:Int) (t u:Tok) (s:Α) (Q:Ψ->Α->Prop) (E:Ψ->Α->Prop),C i j->Q (.int (g i j) s.toks) {s with toks:=s.toks+1}->Κ (Μ X.prog X.w) X.A (f (.int i t) (.int j u)) Q E s) :
  Ij X f (rI C fun i j=>.int (g i j)):=by
 intro pins s σ H x y v u Q I rx ry h;obtain⟨i,j,rfl,rfl,hc,q⟩:=h;obtain⟨t,rfl⟩:=rx;obtain⟨t',rfl⟩:=ry;exact rule i j t t' s _ _ hc ⟨.int (g i j),H,I.tok _,⟨_,rfl⟩,q⟩
theorem Cd {f:Ψ->Ψ->Sem Ψ}{g:Int->Int->Int}
  (rule:∀ (i j:Int) (t u:Tok) (s:Α) (Q:Ψ->Α->Prop) (E:Ψ->Α->Prop),Q (.int (g i j) s.toks) {s with toks:=s.toks+1}->Κ (Μ X.prog X.w) X.A (f (.int i t) (.int j u)) Q E s) :
  Ij X f (Rt fun i j=>.int (g i j)):=by
 intro pins s σ H x y v u Q I rx ry h;obtain⟨i,j,rfl,rfl,q⟩:=h;obtain⟨t,rfl⟩:=rx;obtain⟨t',rfl⟩:=ry;exact rule i j t t' s _ _ ⟨.int (g i j),H,I.tok _,⟨_,rfl⟩,q⟩
def EW (i j:Int):Prop:=0 < j/\j < 1073741824
def EX (i j:Int):Prop:=0<=j/\j<=1000000/\i.natAbs < 2 ^ 64
def Ac (i j:Int):Prop:=(-(2 ^ 64) < i/\i < 2 ^ 64)∨(-(2 ^ 64) < j/\j < 2 ^ 64)
theorem Ac.ok {i j:Int}(h:Ac i j):IntMulOk i j:=by
 rcases h with ⟨h1,h2⟩|⟨h1,h2⟩
 ·exact .of_left (intBits_le_64 h1 h2)
 ·exact .of_right (intBits_le_64 h1 h2)
theorem Ad:Ij X (binaryOp .Add) (Rt fun i j=>.int (i+j)):=Cd fun _ _ _ _ _ _ _ q=>add_int q
theorem Ae:Ij X (binaryOp .Sub) (Rt fun i j=>.int (i - j)):=Cd fun _ _ _ _ _ _ _ q=>sub_int q
theorem Af:Ij X (binaryOp .Mult) (rI Ac fun i j=>.int (i*j)):=Qc fun _ _ _ _ _ _ _ hc q=>mul_int q hc.ok
theorem vT:Ij X (binaryOp .FloorDiv) (rI EW fun i j=>.int (i / j)):=Qc fun i j _ _ _ _ _ hc q=>by have h1:(0:Int) < j:=hc.1;have h2:j < 1073741824:=hc.2;exact floordiv_int ⋯ (by rw[Int.fdiv_eq_ediv_of_nonneg i ⋯];exact q) (.inl (PyProof.noPylong_small ⋯))
theorem Ag:Ij X (binaryOp .Mod) (rI (fun _ j=>0 < j) fun i j=>.int (i % j)):=Qc fun i j _ _ _ _ _ hc q=>by have h1:(0:Int) < j:=hc;exact mod_int' ⋯ (by rw[Int.fmod_eq_emod_of_nonneg i ⋯];exact q)
theorem Ah:Ij X (binaryOp .Pow) (rI EX fun i j=>.int (i ^ j.toNat)):=Qc fun _ _ _ _ _ _ _ hc q=>pow_int_small hc.1 hc.2.1 hc.2.2 q
theorem Xz {f:Ψ->Sem Ψ}{g:Int->Int}
  (rule:∀ (i:Int) (t:Tok) (s:Α) (Q:Ψ->Α->Prop) (E:Ψ->Α->Prop),Q (.int (g i) s.toks) {s with toks:=s.toks+1}->Κ (Μ X.prog X.w) X.A (f (.int i t)) Q E s) :
  Rr X f (rU fun i=>.int (g i)):=by
 intro pins s σ H x v Q I rx h;obtain⟨i,rfl,q⟩:=h;obtain⟨t,rfl⟩:=rx;exact rule i t s _ _ ⟨.int (g i),H,I.tok _,⟨_,rfl⟩,q⟩
theorem Ai:Rr X (unaryOp .USub) (rU fun i=>.int (-i)):=Xz fun _ _ _ _ _ q=>neg_int q
end
section
variable {X:Cx}{a b c:Expr}{ta tb tc:TE}{pos:Pos}
theorem vU {op:CmpOp}{r:R2}(ho:Ij X (compareOp op) r)(ha:PE X a ta)(hb:PE X b tb)(hm:behindInMarks op b=Ξ):PE X (.Compare a [op] [b] pos) (Qb r ta tb):=by intro pins s σ H Q I h;exact wpAny_Compare1 (Ab ha hb I h fun v u s2 x y H2 I2 rx ry q=>ho pins s2 σ H2 x y v u Q I2 rx ry q) hm
def xW (t:TE):TT:=fun σ H Q=>t σ H fun x H'=>∃ k,x=.bl k/\Q k H'
theorem vV {op:CmpOp}{r:R2}(ho:Ij X (compareOp op) r)(ha:PE X a ta)(hb:PE X b tb)(hm:behindInMarks op b=Ξ):PT X (.Compare a [op] [b] pos) (xW (Qb r ta tb)):=by
 intro pins s σ H Q I h
 refine wpAny_isTrue_Compare1 (Gf (ha pins s σ H _ I h) fun v s1 ⟨x,H1,I1,r1,q1⟩=>Gf (hb pins s1 σ H1 _ I1 q1) fun u s2 ⟨y,H2,I2,r2,q2⟩=>
  Gf (ho pins s2 σ H2 x y v u _ I2 r1 r2 q2) fun c s3 ⟨z,H3,I3,r3,k,e,q3⟩=>?_) hm
 subst e;cases r3;exact wpAny_truthy_bool ⟨H3,I3,q3⟩
def rb (r r':R2)(ta tb tc:TE):TE:=fun σ H Q=>ta σ H fun x H1=>tb σ H1 fun y H2=>r x y H2 fun z H3=>∃ k,z=.bl k/\
 (if k=Θ then tc σ H3 fun w' H4=>r' y w' H4 Q else Q (.bl Ξ) H3)
theorem rf {op GK:CmpOp}{r r':R2}(ho:Ij X (compareOp op) r)(HY:Ij X (compareOp GK) r')(ha:PE X a ta)(hb:PE X b tb)(hc:PE X c tc)
  (hm:lastMarks [op,GK] [b,c]=Ξ:=by with_unfolding_all rfl):PE X (.Compare a [op,GK] [b,c] pos) (rb r r' ta tb tc):=by
 intro pins s σ H Q I h
 refine Compare_chain (Gf (ha pins s σ H _ I h) fun v s1 ⟨x,H1,I1,r1,q1⟩=>chain_link (Gf (hb pins s1 σ H1 _ I1 q1) fun u s2 ⟨y,H2,I2,r2,q2⟩=>
  Gf (ho pins s2 σ H2 x y v u _ I2 r1 r2 q2) fun d s3 ⟨z,H3,I3,r3,k,e,q3⟩=>?_)) hm
 subst e;cases r3;refine wpAny_truthy_bool ?_
 induction k using zB with
 | false=>exact ite_ff ⟨.bl Ξ,H3,I3,rfl,q3⟩
 | true=>exact ite_tt (chain_last (Gf (hc pins s3 σ H3 _ I3 q3) fun w' s4 ⟨z',H4,I4,r4,q4⟩=>HY pins s4 σ H4 y z' u w' Q I4 r2 r4 q4))
theorem rh {op GK:CmpOp}{r r':R2}(ho:Ij X (compareOp op) r)(HY:Ij X (compareOp GK) r')(ha:PE X a ta)(hb:PE X b tb)(hc:PE X c tc)
  (hm:lastMarks [op,GK] [b,c]=Ξ:=by with_unfolding_all rfl):PT X (.Compare a [op,GK] [b,c] pos) (xW (rb r r' ta tb tc)):=by
 intro pins s σ H Q I h
 refine isTrue_chain (Gf (ha pins s σ H _ I h) fun v s1 ⟨x,H1,I1,r1,q1⟩=>test_link (Gf (hb pins s1 σ H1 _ I1 q1) fun u s2 ⟨y,H2,I2,r2,q2⟩=>
  Gf (ho pins s2 σ H2 x y v u _ I2 r1 r2 q2) fun d s3 ⟨z,H3,I3,r3,k,e,q3⟩=>?_)) hm
 subst e;cases r3;refine wpAny_truthy_bool ?_
 induction k using zB with
 | false=>obtain⟨k',e',q'⟩:=q3;cases e';exact ite_ff ⟨H3,I3,q'⟩
 | true=>refine ite_tt (test_last (Gf (hc pins s3 σ H3 _ I3 q3) fun w' s4 ⟨z',H4,I4,r4,q4⟩=>Gf (HY pins s4 σ H4 y z' u w' _ I4 r2 r4 q4) fun d' s5 ⟨z2,H5,I5,r5,k2,e2,q5⟩=>?_));subst e2;cases r5;exact wpAny_truthy_bool ⟨H5,I5,q5⟩
def EY (K:Frag)(x:V)(H:Hp)(k:Bool):Prop:=
 match x with
 | .F4=>k=Ξ
 | .bl b=>k=b
 | .int i=>k=(i != 0)
 | .str y=>y.length<=Ζ/\k=((y.length:Int) != 0)
 | .Mu y=>y.size<=Ζ/\k=((y.size:Int) != 0)
 | .ref p=>(∃ xs,GV K H p xs/\k = !xs.isEmpty)∨(∃ xs,Hn K H p xs/\k = !xs.isEmpty)∨∃ Gd,H p=Δ (.dK Gd)/\k = !Gd.isEmpty
 | _=>False
theorem nJ {κ:Type}{Gd:List (κ×V)}{vs:List (κ×Ψ)}(r:KV Gd vs):(!vs.isEmpty) = !Gd.isEmpty:=by cases r<;>rfl
theorem iD {xs:List V}{its:List Ψ}(r:Vals xs its):(!its.toArray.isEmpty) = !xs.isEmpty:=by cases r<;>simp
theorem gO:(Ζ:Nat) < 2 ^ 63:=by rw[sizeLine_eq];decide
theorem Aj:EV X (fun x H Q=>∃ k,EY X.K x H k/\Q k H):=by
 intro pins s σ H x v Q I rx h;obtain⟨k,e,q⟩:=h;have hl:=gO;have hs:Ζ=16777216:=sizeLine_eq;cases x with
 | F4=>cases rx;have e':k=Ξ:=e;subst e';exact truthy_none ⟨H,I,q⟩
 | bl b=>cases rx;have e':k=b:=e;subst e';exact wpAny_truthy_bool ⟨H,I,q⟩
 | int i=>obtain⟨t,rfl⟩:=rx;have e':k=(i != 0):=e;subst e';exact PySem.P.truthy_int ⟨H,I,q⟩
 | str y=>obtain⟨t,rfl⟩:=rx;obtain⟨hy,e'⟩:y.length<=Ζ/\k=((y.length:Int) != 0):=e;subst e';exact PySem.P.truthy_str ⋯ ⟨H,I.tok _,q⟩
 | Mu y=>obtain⟨t,rfl⟩:=rx;obtain⟨hy,e'⟩:y.size<=Ζ/\k=((y.size:Int) != 0):=e;subst e';exact PySem.W.truthy_bytes ⋯ ⟨H,I.tok _,q⟩
 | ref p=>
  cases rx;have e':(∃ xs,GV X.K H p xs/\k = !xs.isEmpty)∨(∃ xs,Hn X.K H p xs/\k = !xs.isEmpty)∨∃ Gd,H p=Δ (.dK Gd)/\k = !Gd.isEmpty:=e;rcases e' with ⟨xs,hx,e'⟩|⟨xs,hx,e'⟩|⟨Gd,hx,e'⟩
  ·subst e';obtain⟨its,r,pl,hz⟩:=I.list hx;have hlen:=r.length;exact wpAny_truthy_list pl.isList (by simp only[E_];omega) ⟨H,I.tok _,by rw[iD r];exact q⟩
  ·subst e';obtain⟨its,r,pl,hz⟩:=I.tuple hx;have hlen:=r.length;exact truthy_tuple pl (by simp only[E_];omega) ⟨H,I.tok _,by rw[iD r];exact q⟩
  ·subst e';obtain⟨hz,hS,vs,r,m⟩:Gd.length<=Ζ/\(p == sysModules)=Ξ/\∃ vs,KV Gd vs/\s.heap.DictOf (ik X.prog X.w) p vs:=I.Ge p _ hx;have hlen:Gd.length=vs.length:=Paired.length r;exact wpAny_truthy_dict hS m ⋯ ⟨H,I.tok _,by rw[nJ r];exact q⟩
 | _=>exact(show False from e).elim
theorem nK:Ij X (binaryOp .Add) (fun x y H Q=>∃ i j,x=.str i/\y=.str j/\i.length+j.length<=Ζ/\Q (.str (i++j)) H):=by intro pins s σ H x y v u Q I rx ry h;obtain⟨i,j,rfl,rfl,hz,q⟩:=h;obtain⟨t,rfl⟩:=rx;obtain⟨t',rfl⟩:=ry;exact add_str (fun t' tk=>⟨.str (i++j),H,I.tok _,⟨_,rfl⟩,q⟩) hz
theorem vals1 {x:V}{us:List Ψ}(r:Vals [x] us):∃ u,us=[u]/\RelV x u:=by
 cases r with
 | cons r1 r2=>cases r2;exact⟨_,rfl,r1⟩
theorem vals2 {x y:V}{us:List Ψ}(r:Vals [x,y] us):∃ u w',us=[u,w']/\RelV x u/\RelV y w':=by
 cases r with
 | cons r1 r2=>
  cases r2 with
  | cons r3 r4=>cases r4;exact⟨_,_,rfl,r1,r3⟩
theorem qh (hc:X.calm=Θ):dI X (.builtin "max") (fun xs H Q=>∃ i j,xs=[.int i,.int j]/\Q (.int (if j > i then j else i)) H):=by
 intro pins s σ H xs us Q I r h;obtain⟨i,j,rfl,q⟩:=h;obtain⟨u,w',rfl,⟨t,rfl⟩,⟨t',rfl⟩⟩:=vals2 r;refine max_two_ints (I.ok.hd hc) fun h' tk k=>⟨_,H,I.kept k,?_,q⟩
 by_cases hj:j > i
 ·rw[f_ hj,f_ hj];exact⟨_,rfl⟩
 ·rw[d_ hj,d_ hj];exact⟨_,rfl⟩
theorem qi (hc:X.calm=Θ):dI X (.builtin "min") (fun xs H Q=>∃ i j,xs=[.int i,.int j]/\Q (.int (if j < i then j else i)) H):=by
 intro pins s σ H xs us Q I r h;obtain⟨i,j,rfl,q⟩:=h;obtain⟨u,w',rfl,⟨t,rfl⟩,⟨t',rfl⟩⟩:=vals2 r;refine min_two_ints (I.ok.hd hc) fun h' tk k=>⟨_,H,I.kept k,?_,q⟩
 by_cases hj:j < i
 ·rw[f_ hj,f_ hj];exact⟨_,rfl⟩
 ·rw[d_ hj,d_ hj];exact⟨_,rfl⟩
theorem rj:dI X (.builtin "ord") (fun xs H Q=>∃ x,xs=[.str x]/\x.length=1/\Q (.int (x.cps.getD 0 0:Nat)) H):=by intro pins s σ H xs us Q I r h;obtain⟨x,rfl,hz,q⟩:=h;obtain⟨u,rfl,t,rfl⟩:=vals1 r;exact ord_of_one hz ⟨.int _,H,I.tok _,⟨_,rfl⟩,q⟩
def EZ (K:Frag)(x:V)(H:Hp)(n:Nat):Prop:=
 match x with
 | .str y=>y.length<=Ζ/\n=y.length
 | .Mu y=>y.size<=Ζ/\n=y.size
 | .ref p=>(∃ xs,GV K H p xs/\n=xs.length)∨∃ xs,Hn K H p xs/\n=xs.length
 | _=>False
theorem iE:dI X (.builtin "len") (fun xs H Q=>∃ x n,xs=[x]/\EZ X.K x H n/\Q (.int n) H):=by
 intro pins s σ H xs us Q I r h;obtain⟨x,n,rfl,e,q⟩:=h;obtain⟨u,rfl,rx⟩:=vals1 r;have hl:=gO;have hs:Ζ=16777216:=sizeLine_eq;cases x with
 | str y=>obtain⟨t,rfl⟩:=rx;obtain⟨hy,e'⟩:y.length<=Ζ/\n=y.length:=e;subst e';exact len_str ⋯ ⟨.int _,H,I.tok _,⟨_,rfl⟩,q⟩
 | Mu y=>obtain⟨t,rfl⟩:=rx;obtain⟨hy,e'⟩:y.size<=Ζ/\n=y.size:=e;subst e';exact PySem.W.len_bytes ⋯ ⟨.int _,H,I.tok _,⟨_,rfl⟩,q⟩
 | ref p=>
  cases rx;have e':(∃ xs,GV X.K H p xs/\n=xs.length)∨∃ xs,Hn X.K H p xs/\n=xs.length:=e;rcases e' with ⟨xs,hx,e'⟩|⟨xs,hx,e'⟩
  ·subst e';obtain⟨its,r',pl,hz⟩:=I.list hx;have hlen:=r'.length;exact Calls.call_len_list pl.isList (by simp only[E_];omega) ⟨.int xs.length,H,I.tok _,⟨_,by simp only[E_];rw[hlen]⟩,q⟩
  ·subst e';obtain⟨its,r',pl,hz⟩:=I.tuple hx;have hlen:=r'.length;exact len_tuple pl (by simp only[E_];omega) ⟨.int xs.length,H,I.tok _,⟨_,by simp only[E_];rw[hlen]⟩,q⟩
 | _=>exact(show False from e).elim
end
structure Hb (k:Nat)(A:Ι):Prop where
 hd:k < 1000->A.handled=Φ
 dp:A.depth+3*(k % 1000)+5 < recursionLimit
 un:A.units+16*(k % 1000)+200 < cLine
theorem Hb.deeper {k:Nat}{A:Ι}(r:Hb (k+1) A)(env:Env)(hk:k % 1000≠999):Hb k (A.deeper env):=
 ⟨fun z=>r.hd ⋯,by have:=r.dp;show A.depth+1+3*(k % 1000)+5 < _;omega,by have:=r.un;show A.units+3+16*(k % 1000)+200 < _;omega⟩
theorem Hb.depth {k:Nat}{A:Ι}(r:Hb k A):A.depth < recursionLimit:=by have:=r.dp;omega
def qj:TA:=fun _ H Q=>Q [] H
def iF (ta:TE)(tr:TA):TA:=fun σ H Q=>ta σ H fun x H1=>tr σ H1 fun xs H2=>Q (x::xs) H2
section
variable {X:Cx}{e:Expr}{es:List Expr}{te:TE}{t:TA}{pos:Pos}
theorem dw:PA X [] qj:=fun _ _ _ _ H Q I h=>Calls.spliced_nil ⟨[],H,I,.nil,h⟩
theorem cS (ha:PE X e te)(hr:PA X es t)(hs:Ν (e::es) X.env=(Ξ,eval e X.env)::Ν es X.env:=by rfl):PA X (e::es) (iF te t):=by intro pos pins s σ H Q I h;rw[hs];show Κ _ _ (spliced ((Ξ,eval e X.env)::backTo pos (Ν es X.env))) _ _ s;refine Calls.spliced_cons (Gf (ha pins s σ H _ I h) fun u s1 ⟨x,H1,I1,r1,q1⟩=>?_);exact Gf (hr pos pins s1 σ H1 _ I1 q1) fun us s2 ⟨xs,H2,I2,r2,q2⟩=>⟨x::xs,H2,I2,.cons r1 r2,q2⟩
def E0 (t:TA):TE:=fun σ H Q=>t σ H fun xs H1=>xs.length<=Ζ/\∀ p,H1 p=Φ->Q (.ref p) (upd H1 p (.tup xs))
def Ce (t:TA):TE:=fun σ H Q=>t σ H fun xs H1=>xs.length<=Ζ/\∀ p,H1 p=Φ->Q (.ref p) (upd H1 p (.lst xs))
theorem rk {x1}(h:PA X es t):PE X (.Tuple es x1 pos) (E0 t):=by intro pins s σ H Q I hq;refine wpAny_Tuple_spliced (Gf (h pos pins s σ H _ I hq) fun us s1 ⟨xs,H1,I1,r,z,q⟩=>⟨by rw[<- r.length];exact z,?_⟩);have hf:H1 s1.heap.objs.size=Φ:=I1.Ge.fresh (m_ _);refine⟨.ref s1.heap.objs.size,upd H1 s1.heap.objs.size (.tup xs),I1.laid (t':=s1.toks) (fun b u e=>l_ _ e) (m_ _) ?_,rfl,q _ hf⟩;exact⟨z,us,r,⟨_,w_ _ rfl,rfl,_,rfl⟩⟩
theorem iG (h:PA X es t):PE X (.List es pos) (Ce t):=by intro pins s σ H Q I hq;refine wpAny_List_spliced (Gf (h pos pins s σ H _ I hq) fun us s1 ⟨xs,H1,I1,r,z,q⟩=>⟨by rw[<- r.length];exact z,?_⟩);have hf:H1 s1.heap.objs.size=Φ:=I1.Ge.fresh (m_ _);refine⟨.ref s1.heap.objs.size,upd H1 s1.heap.objs.size (.lst xs),I1.laid (t':=s1.toks) (fun b u e=>l_ _ e) (m_ _) ?_,rfl,q _ hf⟩;exact⟨z,us,0,r,w_ _ rfl⟩
end
abbrev Sp:=List V->Hp->VK->XK->Prop
abbrev Ho:=List Env->Hp->Α->XK->Ψ->Α->Prop
structure J8 (P:Ε)(w:Β)(K:Frag)(mg:Str->Option Ψ)(base:Heap)(A:Ι)(outer:List Env)(s:Α)(H:Hp):Prop where
 frames:A.frames=Δ outer
 mod:Mod K mg base
 bs:∀ b o,base.get? b=Δ o->s.heap.get? b=Δ o/\H b=Φ
 Lj:base.objs.size<=s.heap.objs.size
 Ht:s.heap.FunFrames base outer
 KH:∀ b∈Ha outer,H b=Φ
 Ge:GW P w H s.heap
 bare:AllBare s.gens
def CE (outer:List Env)(P:Ε)(w:Β)(H:Hp)(s:Α)(Q:VK)(u:Ψ)(s':Α):Prop:=
 ∃ v H',s'.os=s.os/\AllBare s'.gens/\Un (Ha outer) [] H H' s.heap s'.heap/\GW P w H' s'.heap/\RelV v u/\Q v H'
def CR (CX:Ho)(outer:List Env)(P:Ε)(w:Β)(H:Hp)(s:Α)(Q:VK)(E:XK)(r:Result)(s':Α):Prop:=
 match r with
 | .ok (.ret u)=>CE outer P w H s Q u s'
 | .ok _=>False
 | .error e=>CX outer H s E e s'
structure HC (P:Ε)(w:Β)(K:Frag)(mg:Str->Option Ψ)(base:Heap)(CX:Ho)(k:Nat)(f:Ω)(fd:Ο)(ps:List Str)(sp:Sp):Prop where
 len:∀ vs H Q E,sp vs H Q E->vs.length=ps.length
 run:∀ (A:Ι) (outer:List Env) (s:Α) (H:Hp) (args:Args) (us:List Ψ) (vs:List V) (Q:VK) (E:XK),Hb k A->J8 P w K mg base A outer s H->BindsTo s fd args (ps.zip us)->Vals vs us->sp vs H Q E->
  codeAny (Μ P w) A (.call (.ref f) args) (CR CX outer P w H s Q E) s
section
variable {X:Cx}{pins:List (Ω×Obj)}{σ:St}{H:Hp}{s s':Α}
theorem Inv.Ik (I:Inv X pins σ H s):J8 X.prog X.w X.K X.mg X.base X.A X.stack s H:=
 ⟨I.ok.frames,I.ok.mod,I.bs,O_ I.ok.Lj I.sz,I.stack,I.IG,I.Ge,I.bare⟩
theorem Inv.after {Q:VK}{u:Ψ}(I:Inv X pins σ H s)(h:CE X.stack X.prog X.w H s Q u s'):EP X pins σ Q u s':=by obtain⟨v,H',os,bare,un,Ge,r,q⟩:=h;obtain⟨hh,g,d,t,Rv⟩:=s';obtain rfl:Rv=s.os:=os;exact⟨v,H',I.call (h':=hh) (g':=g) (d':=d) (t':=t) (ch:=[]) un Ge bare (fun b z=>absurd z (by simp)),r,q⟩
end
def Binds (K:Frag)(fd:Ο)(ps:List Str)(ds:List Ψ):Prop:=
 ∀ (s:Α) (us:List Ψ),K.In s.heap->(us++ds).length=ps.length->BindsTo s fd ⟨us,[]⟩ (ps.zip (us++ds))
theorem Binds.all {K:Frag}{fd:Ο}{ps:List Str}(h:∀ us:List Ψ,us.length=ps.length->bindArgs fd ⟨us,[]⟩=pure (ps.zip us)):Binds K fd ps []:=fun s us _ hl=>by rw[aai] at hl ⊢;exact .of_eq (h us hl)
def Passes (CX:Ho)(X:Cx)(E:XK):Prop:=∀ (pins:List (Ω×Obj)) (σ:St) (H:Hp) (s:Α) (e:Ψ) (s':Α),Inv X pins σ H s->CX X.stack H s E e s'->X.xe e s'
structure IH (N P:List Str)(sc:Scope):Prop where
 kind:sc.kind=.function
 co:sc.isCoroutine=Ξ
 gen:sc.isGenerator=Ξ
 nd:N.Nodup
 pre:N.take P.length=P
 par:∀ x∈P,sc.names.lookup x=Δ .local∨sc.names.lookup x=Δ .cell
 MC:∀ y∈sc.names,y.2≠.free
theorem jI {kindOf:Str->Option NameKind}{x:Str}:∀ {binds:List (Str×Ψ)}{m:Str->Option Ψ},(∀ v,(x,v)∉binds)->bindL kindOf binds m x=m x
 | [],_,_=>rfl
 | (n,v)::r,m,h=>by
  unfold bindL;rw[jI fun w hw=>h w (I_ _ hw)];split
  ·have:x≠n:=by rintro rfl;exact h v aaC
   simp[this]
  ·rfl
theorem jJ {kindOf:Str->Option NameKind}{x:Str}:∀ {binds:List (Str×Ψ)}{m:Str->Option Ψ},(∀ v,(x,v)∉binds)->bindC kindOf binds m x=m x
 | [],_,_=>rfl
 | (n,v)::r,m,h=>by
  unfold bindC;rw[jJ fun w hw=>h w (I_ _ hw)];split
  ·rfl
  ·have:x≠n:=by rintro rfl;exact h v aaC
   simp[this]
theorem jK {kindOf:Str->Option NameKind}{x:Str}{v:Ψ}:∀ {P:List Str}{vs:List Ψ}{i:Nat}{m:Str->Option Ψ},P.Nodup->P[i]? = Δ x->vs[i]? = Δ v->kindOf x=Δ .local->
  bindL kindOf (P.zip vs) m x=Δ v
 | [],_,_,_,_,h,_,_=>by simp at h
 | _::_,[],_,_,_,_,h,_=>by simp at h
 | p::P,w::vs,0,m,nd,h1,h2,hk=>by simp at h1 h2;subst h1;subst h2;show bindL kindOf ((p,w)::P.zip vs) m p=_;unfold bindL;rw[jI fun v hv=>(K_.mp nd).1 (List.of_mem_zip hv).1,f_ hk];simp
 | p::P,w::vs,i+1,m,nd,h1,h2,hk=>by show bindL kindOf ((p,w)::P.zip vs) m x=_;unfold bindL;exact jK (i:=i) (K_.mp nd).2 (by simpa using h1) (by simpa using h2) hk
theorem jL {kindOf:Str->Option NameKind}{x:Str}{v:Ψ}:∀ {P:List Str}{vs:List Ψ}{i:Nat}{m:Str->Option Ψ},P.Nodup->P[i]? = Δ x->vs[i]? = Δ v->kindOf x≠Δ .local->
  bindC kindOf (P.zip vs) m x=Δ v
 | [],_,_,_,_,h,_,_=>by simp at h
 | _::_,[],_,_,_,_,h,_=>by simp at h
 | p::P,w::vs,0,m,nd,h1,h2,hk=>by simp at h1 h2;subst h1;subst h2;show bindC kindOf ((p,w)::P.zip vs) m p=_;unfold bindC;rw[jJ fun v hv=>(K_.mp nd).1 (List.of_mem_zip hv).1,d_ hk];simp
 | p::P,w::vs,i+1,m,nd,h1,h2,hk=>by show bindC kindOf ((p,w)::P.zip vs) m x=_;unfold bindC;exact jL (i:=i) (K_.mp nd).2 (by simpa using h1) (by simpa using h2) hk
noncomputable def start (N:List Str)(vs:List V):St:=vs.map Δ++Τ (N.length - vs.length) Φ
noncomputable def fF (CX:Ho)(P:Ε)(w:Β)(K:Frag)(mg:Str->Option Ψ)(base:Heap)(N:List Str)(qual:Str)(scope:Scope)(f:Ω)(cd:Ψ)(A:Ι)(outer:List Env)(s:Α)(H:Hp)(E:XK):Cx where
 prog:=P
 w:=w
 K:=K
 mg:=mg
 base:=base
 A:=A.deeper (envOfC qual scope s.heap.objs.size f cd)
 N:=N
 Gz:=s
 IF:=H
 env:=envOfC qual scope s.heap.objs.size f cd
 outer:=outer
 stack:=envOfC qual scope s.heap.objs.size f cd::outer
 ex:=[]
 calm:=A.handled.isNone
 fn:=fun _=>Θ
 pn:=[]
 xe:=fun e s'=>Κ (Μ P w) (A.deeper (envOfC qual scope s.heap.objs.size f cd)) (leaving (envOfC qual scope s.heap.objs.size f cd) e) (fun _ KO=>CX outer H s E e KO) (fun e' KO=>CX outer H s E e' KO) s'
theorem l7 {sc:Scope}{n:Nat}{x:Str}(h:sc.names.lookup x=Δ .cell):∃ c,(cellsFrom n sc.names []).lookup x=Δ c:=by have q:=PySem.W.cellsFrom_some sc.names n [] (.inl h);exact Option.isSome_iff_exists.mp q
theorem qk {CX:Ho}{P:Ε}{w:Β}{K:Frag}{mg:Str->Option Ψ}{base:Heap}{N ps:List Str}{qual:Str}{scope:Scope}{f:Ω}{cd:Ψ}{A:Ι}{outer:List Env}{s s1:Α}{H:Hp}{E:XK}{us:List Ψ}{vs:List V}
  (S:IH N ps scope) (e0:J8 P w K mg base A outer s H) (hl:vs.length=ps.length) (r:Vals vs us)
  (x:InCallC s s.heap.objs.size (bindL (envOfC qual scope s.heap.objs.size f cd).kindOf (ps.zip us) fun _=>Φ) (cellsFrom (s.heap.objs.size+1) scope.names []) (bindC (envOfC qual scope s.heap.objs.size f cd).kindOf (ps.zip us) fun _=>Φ) s1) :
  Inv (fF CX P w K mg base N qual scope f cd A outer s H E) [] (start N vs) H s1:=by
 have Ln:ps.length<=N.length:=by have:=congrArg List.length S.pre;rw[L_] at this;omega
 obtain⟨h1,tk,rfl,hk⟩:=x.done;have N':∀ b:Ω,b∉(fF CX P w K mg base N qual scope f cd A outer s H E).ex:=fun b z=>absurd (show b∈([]:List Ω) from z) (by simp)
 refine⟨⟨e0.mod,S.kind,rfl,rfl,m_ _,fun y z c h1 h2=>?_,fun y hy=>?_,fun y c _ h=>?_,fun h=>Option.isNone_iff_eq_none.mp h,Around.frames_deeper e0.frames,.inr ⟨rfl,rfl⟩,fun b z=>absurd z (N' b),e0.bs,e0.Lj,fun b _ _=>N' b,fun b z=>absurd z (N' b),e0.Ht,e0.KH⟩,
  rfl,e0.bare,Un.kept hk,⟨_,x.toInCall.ns,fun i y v h1 h2 h3=>?_⟩,fun y c h=>⟨_,x.cell y c h⟩,e0.Ge.fresh (m_ _),fun y c h=>?_,fun p hp=>absurd (show p∈([]:List (Ω×Obj)) from hp) (by simp),e0.Ge.kept hk,?_⟩
 ·exact name_of_addr x.apart (PySem.mem_of_lookup h1) (PySem.mem_of_lookup h2)
 ·have hy:scope.names.lookup y=Δ .cell∨scope.names.lookup y=Δ .free:=hy;rcases hy with hy|hy
  ·exact l7 hy
  ·exact absurd rfl (S.MC _ (PySem.mem_of_lookup hy))
 ·exact Nat.le_of_lt (x.above y c (PySem.mem_of_lookup h))
 ·have hi:i < vs.length:=by
   unfold start at h2;by_cases hi:i < vs.length
   ·exact hi
   ·rw[aaw (by simpa using hi)] at h2;rw[List.getElem?_replicate] at h2;split at h2<;>cases h2
  have ha:vs[i]? = Δ v:=by
   unfold start at h2;rw[aan (by simpa using hi),A_] at h2;cases e:vs[i]? with
   | none=>rw[e] at h2;cases h2
   | some a=>rw[e] at h2;cases h2;rfl
  obtain⟨u,hu,rv⟩:=r.get ha;have hp:ps[i]? = Δ y:=by rw[<- S.pre,List.getElem?_take_of_lt ⋯];exact h1
  have Vl:ps.Nodup:=by rw[<- S.pre];exact S.nd.sublist (List.take_sublist _ _)
  refine⟨u,rv,?_⟩;rcases S.par y (aae hp) with k|k
  ·exact .inl ⟨k,jK Vl hp hu k⟩
  ·obtain⟨c,e⟩:=l7 (n:=s.heap.objs.size+1) k;refine .inr ⟨.inl k,c,e,?_⟩;have q:=x.cell y c e;rw[jL Vl hp hu (by show scope.names.lookup y≠_;rw[k];decide)] at q;exact q
 ·exact e0.Ge.fresh (Nat.le_of_lt (x.above y c (PySem.mem_of_lookup h)))
 ·unfold start;show _=N.length;rw[o_,i_,List.length_replicate];omega
theorem xX {CX:Ho}{P:Ε}{w:Β}{K:Frag}{mg:Str->Option Ψ}{base:Heap}{k:Nat}{f:Ω}{name qual:Str}{params:Arguments}{body:List Stmt}{scope:Scope}{dV kV doc pm Ia ct oc:Ψ}{an od:Option Ω}
  {Lo:Array (Option Ψ)}{N ps:List Str}{sp:Sp} (lk:K.lookup f=Δ ⟨oc,od,.func (PySem.W.fnOf name qual params body scope dV kV doc pm an Ia ct),Lo⟩) (KI:PySem.W.codeIn K Ia qual=Θ) (S:IH N ps scope)
  (XA:k % 1000≠999) (len:∀ vs H Q E,sp vs H Q E->vs.length=ps.length)
  (Oa:∀ (A:Ι) (outer:List Env) (s:Α) (H:Hp) (vs:List V) (Q:VK) (E:XK),Hb k (A.deeper (envOfC qual scope s.heap.objs.size f Ia))->sp vs H Q E->
   ∃ t,I0 (fF CX P w K mg base N qual scope f Ia A outer s H E) body t/\t {nx:=fun _ H'=>Q .F4 H',rt:=Q} (start N vs) H) :
  HC P w K mg base CX (k+1) f (PySem.W.fnOf name qual params body scope dV kV doc pm an Ia ct) ps sp:=by
 refine⟨len,fun A outer s H args us vs Q E hr e0 hb r Jm=>?_⟩;have hl:=len _ _ _ _ Jm;have KX:K.In s.heap:=e0.mod.P6.keeps fun b o e=>(e0.bs b o e).1;have lim:s.heap.NoLimit:=e0.mod.nolimit.keeps fun b o e=>(e0.bs b o e).1;have Ob:∀ y∈ps.zip us,scope.names.lookup y.1=Δ .local∨(scope.names.lookup y.1=Δ .cell/\((cellsFrom (s.heap.objs.size+1) scope.names []).lookup y.1).isSome=Θ):=fun ⟨n,v⟩ hy=>by
  rcases S.par n (List.of_mem_zip hy).1 with q|q
  ·exact .inl q
  ·exact .inr ⟨q,PySem.W.cellsFrom_some _ _ _ (.inl q)⟩
 refine codeAny_call_function hr.depth (KX _ _ lk) rfl S.co S.gen rfl (PySem.W.codeRec_of KX KI) (hb _ _ _ _ ?_);refine wpAny_newFunctionEnv_cells S.kind Ob fun env he s1 x=>?_;subst he;refine⟨lim.keeps x.toInCall.keep,codeAny_func ?_⟩;obtain⟨t,ht,hq⟩:=Oa A outer s H vs Q E (hr.deeper _ XA) Jm;have I:Inv (fF CX P w K mg base N qual scope f Ia A outer s H E) [] (start N vs) H s1:=qk S e0 hl r x;refine wpAny_mono (ht [] s1 (start N vs) H _ I hq) (fun fl s' hs=>?_) fun e s' hs=>hs;have fin:∀ {F8:St}{H':Hp}{v:V}{u:Ψ},Inv (fF CX P w K mg base N qual scope f Ia A outer s H E) [] F8 H' s'->RelV v u->Q v H'->CE outer P w H s Q u s':=
  fun {F8 H' v u} J rv q=>⟨v,H',J.os,J.bare,J.base,J.Ge,rv,q⟩
 cases fl with
 | ret u=>obtain⟨v,F8,H',J,rv,q⟩:=hs;exact fin J rv q
 | next=>obtain⟨F8,H',J,q⟩:=hs;exact fin (v:=V.F4) (u:=Value.none) J rfl q
 | brk=>obtain⟨_,_,_,q⟩:=hs;exact False.elim q
 | cont=>obtain⟨_,_,_,q⟩:=hs;exact False.elim q
section
variable {X:Cx}{x:Str}{p pos:Pos}{e:Expr}{es:List Expr}{t:TA}{id T:String}{r:List V->Hp->VK->Prop}
def Rw (r:List V->Hp->VK->Prop)(t:TA):TE:=fun σ H Q=>t σ H fun vs H1=>r vs H1 Q
theorem iH (hc:dI X (.builtin id) r)(hg:Gl X x)(hm:X.mg x=Φ)(hv:bootBuiltins x=Δ (.builtin id))(ha:PA X (e::es) t)(hn:x≠"__name__":=by decide) (Rx:(x == ("__debug__" : Str))=Ξ:=by decide)
  (he:Ν (e::es) X.env=(Ξ,eval e X.env)::Ν es X.env:=by rfl) (Ln:(backTo pos (Ν es X.env)).any (·.1)=Ξ:=by rfl):PE X (.Call (.Name x p) (e::es) [] pos) (Rw r t):=by
 intro pins s σ H Q I h;refine aaD (fq I hg hm hv ?_ hn Rx);exact PyProof.Rows.callWith_builtin1 (Gf (ha pos pins s σ H _ I h) fun us s1 ⟨vs,H1,I1,r1,q1⟩=>hc pins s1 σ H1 vs us Q I1 r1 q1) he Ln
theorem gP (hc:dI X (.type T) r)(hg:Gl X x)(hm:X.mg x=Φ)(hv:bootBuiltins x=Δ (.type T))(ha:PA X (e::es) t)(hn:x≠"__name__":=by decide) (Rx:(x == ("__debug__" : Str))=Ξ:=by decide)
  (he:Ν (e::es) X.env=(Ξ,eval e X.env)::Ν es X.env:=by rfl) (Ln:(backTo pos (Ν es X.env)).any (·.1)=Ξ:=by rfl):PE X (.Call (.Name x p) (e::es) [] pos) (Rw r t):=by
 intro pins s σ H Q I h;refine aaD (fq I hg hm hv ?_ hn Rx);exact aav (Gf (ha pos pins s σ H _ I h) fun us s1 ⟨vs,H1,I1,r1,q1⟩=>hc pins s1 σ H1 vs us Q I1 r1 q1) he Ln
end
end L2
namespace HT
open PySem PyProof.Rows
section
variable {prog:Ε}{w:Β}{A:Ι}{E:Ψ->Α->Prop}{s:Α}
noncomputable def Iu (n d:Nat):Option Int->Nat
 | none=>d
 | some v=>if v < 0 then (v+(n:Int)).toNat else min v.toNat n
end
end HT
namespace L2
open PySem PySem.Spec PyProof.Rows
abbrev TO:=St->Hp->(Option Int->Hp->Prop)->Prop
def PO (X:Cx)(e:Option Expr)(t:TO):Prop:=
 ∀ (pins:List (Ω×Obj)) (s:Α) (σ:St) (H:Hp) (Q:Option Int->Hp->Prop),Inv X pins σ H s->t σ H Q->
  Κ (Μ X.prog X.w) X.A (evalPart e X.env) (fun u s'=>∃ o H',Inv X pins σ H' s'/\IsPart u o/\Q o H') X.xe s
def vW:TO:=fun _ H Q=>Q Φ H
def Cf (t:TE):TO:=fun σ H Q=>t σ H fun x H1=>∃ i,x=.int i/\Q (Δ i) H1
theorem intsAre_of {ns:List Int}:∀ {us:List Ψ},Vals (ns.map V.int) us->IntsAre us ns:=by
 induction ns with
 | nil=>intro us r;rw[List.map_nil] at r;cases r;exact .nil
 | cons n ns ih=>
  intro us r;rw[b_] at r;cases r with
  | cons r1 r2=>obtain⟨t,e⟩:=r1;subst e;exact .cons n t (ih r2)
section
variable {X:Cx}{e:Expr}{te:TE}{lo hi:Option Expr}{tl th:TO}{pos p2:Pos}
theorem vX:PO X Φ vW:=by intro pins s σ H Q I h;rw[evalPart_none];exact e_ ⟨Φ,H,I,.none,h⟩
theorem vY (h:PE X e te):PO X (Δ e) (Cf te):=by intro pins s σ H Q I hw;rw[evalPart_some];refine Gf (h pins s σ H _ I hw) fun u s1 ⟨x,H1,I1,r1,q1⟩=>?_;obtain⟨i,rfl,q⟩:=q1;obtain⟨t,rfl⟩:=r1;exact⟨Δ i,H1,I1,.int i t,q⟩
def Qd (X:Cx)(r:V->Option Int->Option Int->Hp->VK->Prop):Prop:=
 ∀ (pins:List (Ω×Obj)) (s:Α) (σ:St) (H:Hp) (x:V) (v vl vu:Ψ) (lo hi:Option Int) (sl:Ω) (Q:VK),Inv X pins σ H s->RelV x v->s.heap.IsSliceOf sl vl vu .none->IsPart vl lo->IsPart vu hi->r x lo hi H Q->
  ∃ T id,typeLookup (.type T) "__getitem__" = pure (Δ (.builtin id))/\s.TypeIs v T/\Κ (Μ X.prog X.w) X.A (getItem v (.ref sl)) (EP X pins σ Q) X.xe s
def XB (r:V->Option Int->Option Int->Hp->VK->Prop)(te:TE)(tl th:TO):TE:=fun σ H Q=>te σ H fun x H1=>tl σ H1 fun l H2=>th σ H2 fun u H3=>r x l u H3 Q
theorem l8 {r:V->Option Int->Option Int->Hp->VK->Prop}(hr:Qd X r)(he:PE X e te)(hl:PO X lo tl)(hu:PO X hi th):PE X (.Subscript e (.Slice lo hi Φ p2) pos) (XB r te tl th):=by intro pins s σ H Q I h;refine Subscript_ (Gf (he pins s σ H _ I h) fun v s1 ⟨x,H1,I1,r1,q1⟩=>?_);refine wpAny_Slice (Gf (hl pins s1 σ H1 _ I1 q1) fun vl s2 ⟨l,H2,I2,pl,q2⟩=>Gf (hu pins s2 σ H2 _ I2 q2) fun vu s3 ⟨u,H3,I3,pu,q3⟩=>?_);rw[evalPart_none];refine e_ ?_;have I4:Inv X pins σ H3 {s3 with heap:=s3.heap.push {cls:=.type "slice",data:=.fields #[vl,vu,.none]}}:=I3.kept (t':=s3.toks) fun b ob q=>l_ _ q;obtain⟨T,id,hT,ht,hg⟩:=hr pins {s3 with heap:=s3.heap.push {cls:=.type "slice",data:=.fields #[vl,vu,.none]}} σ H3 x v vl vu l u s3.heap.objs.size Q I4 r1 (Heap.IsSliceOf.new ..) pl pu q3;show Κ (Μ X.prog X.w) X.A (subscriptTail e (.Slice lo hi Φ p2) v (.ref s3.heap.objs.size)) (EP X pins σ Q) X.xe {s3 with heap:=s3.heap.push {cls:=.type "slice",data:=.fields #[vl,vu,.none]}};exact tail_any (ops:=[.ref s3.heap.objs.size,v]) ht hT hg (by with_unfolding_all rfl)
noncomputable def ql (xs:List V)(lo hi:Option Int):List V:=(xs.drop (HT.Iu xs.length 0 lo)).take (HT.Iu xs.length xs.length hi - HT.Iu xs.length 0 lo)
theorem ma (xs:List V)(lo hi:Option Int):(ql xs lo hi).length<=xs.length:=by unfold ql;rw[L_,aaa];omega
end
noncomputable def Hg (n:Nat)(i:Int):Option Nat:=if 0<=i then (if i < n then Δ i.toNat else Φ) else if -(n:Int)<=i then Δ (i+n).toNat else Φ
noncomputable def Hh {α:Type}(xs:List α)(i:Int):Option α:=(Hg xs.length i).bind fun j=>xs[j]?
theorem oN {n:Nat}{i:Int}{j:Nat}(h:Hg n i=Δ j):seqIndex? i n=Δ j/\j < n/\-(n:Int)<=i/\i < n:=by
 unfold Hg at h;by_cases h0:0<=i
 ·rw[f_ h0] at h;by_cases h1:i < n
  ·rw[f_ h1] at h;have e:i.toNat=j:=D_ h;exact⟨by rw[seqIndex_of h0 h1,e],⋯,⋯,h1⟩
  ·rw[d_ h1] at h;cases h
 ·rw[d_ h0] at h;by_cases h1 : -(n:Int)<=i
  ·rw[f_ h1] at h;have e:(i+n).toNat=j:=D_ h;exact⟨by rw[seqIndex_neg ⋯ h1,e],⋯,h1,⋯⟩
  ·rw[d_ h1] at h;cases h
theorem kC {α:Type}{xs:List α}{i:Int}{v:α}(h:Hh xs i=Δ v):∃ j,seqIndex? i xs.length=Δ j/\xs[j]? = Δ v/\j < xs.length/\-(xs.length:Int)<=i/\i < xs.length:=by
 unfold Hh at h;cases e:Hg xs.length i with
 | none=>rw[e] at h;cases h
 | some j=>rw[e] at h;obtain⟨h1,h2,h3,h4⟩:=oN e;exact⟨j,h1,h,h2,h3,h4⟩
def vZ (b:Expr):Prop:=∀ o i,subscripted b Ξ o i=operate [o,i] (getItem o i)
def K8 (X:Cx)(r:R2):Prop:=
 ∀ (value slice:Expr) (pins:List (Ω×Obj)) (s:Α) (σ:St) (H:Hp) (x y:V) (v u:Ψ) (Q:VK),Inv X pins σ H s->RelV x v->RelV y u->r x y H Q->
  subscripted slice Ξ v u=operate [v,u] (getItem v u)->Κ (Μ X.prog X.w) X.A (subscriptTail value slice v u) (EP X pins σ Q) X.xe s
def Vm (X:Cx)(id:String)(r:V->List V->Hp->VK->Prop):Prop:=
 ∀ (pins:List (Ω×Obj)) (s:Α) (σ:St) (H:Hp) (x:V) (xs:List V) (v:Ψ) (us:List Ψ) (Q:VK),Inv X pins σ H s->RelV x v->Vals xs us->r x xs H Q->
  Κ (Μ X.prog X.w) X.A (call (.builtin id) (v::us)) (EP X pins σ Q) X.xe s
section
variable {X:Cx}{a b:Expr}{ta tb:TE}{pos:Pos}
theorem K8.or {r r':R2}(h:K8 X r)(h':K8 X r'):K8 X (fun x y H Q=>r x y H Q∨r' x y H Q):=by
 intro value slice pins s σ H x y v u Q I rx ry q hs;rcases q with q|q
 ·exact h value slice pins s σ H x y v u Q I rx ry q hs
 ·exact h' value slice pins s σ H x y v u Q I rx ry q hs
theorem xY {r:R2}(hr:K8 X r)(ha:PE X a ta)(hb:PE X b tb)(hs:vZ b):PE X (.Subscript a b pos) (Qb r ta tb):=by intro pins s σ H Q I h;exact Subscript_ (Ab ha hb I h fun v u s2 x y H2 I2 rx ry q=>hr a b pins s2 σ H2 x y v u Q I2 rx ry q (hs _ _))
def Cg (K:Frag):R2:=fun x y H Q=>∃ p xs i v,x=.ref p/\y=.int i/\GV K H p xs/\Hh xs i=Δ v/\Q v H
def Ci (K:Frag):R2:=fun x y H Q=>∃ p xs i v,x=.ref p/\y=.int i/\Hn K H p xs/\Hh xs i=Δ v/\Q v H
def Cj:R2:=fun x y H Q=>∃ z i c,x=.str z/\y=.int i/\z.length<=Ζ/\Hh z.cps.toList i=Δ c/\Q (.str ⟨#[c]⟩) H
theorem oO:K8 X (Cg X.K):=by
 intro value slice pins s σ H x y v u Q I rx ry h hs;obtain⟨p,xs,i,z,rfl,rfl,hq,he,q⟩:=h;cases rx;obtain⟨t,rfl⟩:=ry;obtain⟨its,r,pl,hz⟩:=I.list hq;obtain⟨j,h1,h2,h3,h4,h5⟩:=kC he;obtain⟨w,ew,Ry⟩:=r.get h2;have hl:=r.length;have hn:=gO;have fin:EP X pins σ Q w s:=⟨z,H,I,Ry,q⟩
 by_cases h0:0<=i
 ·have hj:i.toNat=j:=by rw[seqIndex_of h0 h5] at h1;exact D_ h1
  exact item_listR pl.isList h0 ⋯ (by rw[hj];simpa using ew) fin hs
 ·have hj:(i+(its.toArray.size:Int)).toNat=j:=by rw[seqIndex_neg ⋯ h4] at h1;rw[E_,<- hl];exact D_ h1
  exact subscriptTail_builtinR (x:=w) pl.isList.typeIs slot_list_getitem.lookup
   (wpAny_getItem_list_neg (Q:=fun r s'=>r=w/\EP X pins σ Q r s') pl.isList ⋯ (by rw[E_]<;>omega) ⋯ (by rw[hj];simpa using ew) ⟨rfl,fin⟩) hs
theorem Ak:K8 X (Ci X.K):=by
 intro value slice pins s σ H x y v u Q I rx ry h hs;obtain⟨p,xs,i,z,rfl,rfl,hq,he,q⟩:=h;cases rx;obtain⟨t,rfl⟩:=ry;obtain⟨its,r,pl,hz⟩:=I.tuple hq;obtain⟨j,h1,h2,h3,h4,h5⟩:=kC he;obtain⟨w,ew,Ry⟩:=r.get h2;have hl:=r.length;have hn:=gO;have fin:EP X pins σ Q w s:=⟨z,H,I,Ry,q⟩
 exact subscriptTail_builtinR (x:=w) pl.typeIs slot_tuple_getitem.lookup
  (getItem_tuple (j:=j) (Q:=fun r s'=>r=w/\EP X pins σ Q r s') pl ⋯ ⋯ (by rw[E_,<- hl];exact h1) (by simpa using ew) ⟨rfl,fin⟩) hs
theorem Am:K8 X Cj:=by
 intro value slice pins s σ H x y v u Q I rx ry h hs;obtain⟨z,i,c,rfl,rfl,hz,he,q⟩:=h;obtain⟨t,rfl⟩:=rx;obtain⟨t',rfl⟩:=ry;obtain⟨j,h1,h2,h3,h4,h5⟩:=kC he;have hl:z.cps.toList.length=z.length:=by simp[Str.length]
 rw[hl] at h1 h4 h5;have hn:=gO
 exact tail_any (typeIs_str s z t) slot_str_getitem.lookup (getItem_str (c:=c) (by
  have e1:decide (i < -(2 ^ 63:Int))=Ξ:=S_ ⋯;have e2:decide (i >= 2 ^ 63)=Ξ:=S_ ⋯
  rw[e1,e2,Bool.or_false]) (by rw[h1];simpa using h2) ⟨.str ⟨#[c]⟩,H,I.tok _,⟨_,rfl⟩,q⟩) hs
def XC (K:Frag):R2:=fun x y H Q=>Cg K x y H Q∨Ci K x y H Q∨Cj x y H Q
theorem An:K8 X (XC X.K):=oO.or (Ak.or Am)
theorem nL (its:List Ψ)(n j:Nat)(u:Ψ):ι (·.setIfInBounds j u) {cls:=.type "list",data:=.seq its.toArray n} = {cls:=.type "list",data:=.seq (its.set j u).toArray n}:=by simp[ι]
theorem Inv.lst {pins:List (Ω×Obj)}{σ:St}{H:Hp}{s:Α}{p:Ω}{xs:List V}(I:Inv X pins σ H s)(h:H p=Δ (.lst xs)) :
  ∃ (its:List Ψ) (n:Nat),Vals xs its/\s.heap.get? p=Δ {cls:=.type "list",data:=.seq its.toArray n}/\xs.length<=Ζ:=by
 obtain⟨z,its,n,r,e⟩:=I.Ge p _ h;exact⟨its,n,r,e,z⟩
theorem Inv.ME {pins:List (Ω×Obj)}{σ:St}{H:Hp}{s:Α}{p:Ω}{xs ys:List V}{its its':List Ψ}{n n':Nat}{f:Obj->Obj}(I:Inv X pins σ H s)(h:H p=Δ (.lst xs))
  (ho:s.heap.get? p=Δ {cls:=.type "list",data:=.seq its.toArray n}) (hf:f {cls:=.type "list",data:=.seq its.toArray n} = {cls:=.type "list",data:=.seq its'.toArray n'}) (r:Vals ys its') (hz:ys.length<=Ζ) (t:Nat) :
  Inv X pins σ (upd H p (.lst ys)) {s with heap:=s.heap.update p f,toks:=t}:=by
 have e:(s.heap.update p f).get? p=Δ {cls:=.type "list",data:=.seq its'.toArray n'}:=by rw[aao f ho (by rw[hf]<;>rfl),hf]
 refine I.write (x:=p) (e:=p) (by rw[h];trivial) (.inl rfl) (fun b u hb q=>(aaf _ _ (Ne.symm hb)).trans q) ⟨_,e⟩ ?_;exact⟨hz,its',n',r,e⟩
def Ck:V->V->V->Hp->(Hp->Prop)->Prop:=fun o i v H Q=>∃ p xs k j,o=.ref p/\i=.int k/\H p=Δ (.lst xs)/\Hg xs.length k=Δ j/\Q (upd H p (.lst (xs.set j v)))
theorem set_list:B9 X Ck:=by
 intro pins s σ H o i v ov iv u Q I ro ri rv h;obtain⟨p,xs,k,j,rfl,rfl,hp,hj,q⟩:=h;cases ro;obtain⟨t,rfl⟩:=ri;obtain⟨its,n,r,ho,hz⟩:=I.lst hp;obtain⟨h1,h2,h3,h4⟩:=oN hj;have hl:=r.length;have hn:=gO;have I':Inv X pins σ (upd H p (.lst (xs.set j v))) {s with heap:=s.heap.update p (ι (·.setIfInBounds j u))}:=
  I.ME hp ho (nL its n j u) (r.set rv j) (by rw[List.length_set];exact hz) s.toks
 by_cases h0:0<=k
 ·have hk:k.toNat=j:=by rw[seqIndex_of h0 h4] at h1;exact D_ h1
  exact PySem.W.ki_setAt ho h0 ⋯ (by rw[E_,<- hl];exact h4) (by rw[hk];exact⟨_,I',q⟩)
 ·have hk:(k+(its.toArray.size:Int)).toNat=j:=by rw[seqIndex_neg ⋯ h3] at h1;rw[E_,<- hl];exact D_ h1
  exact PySem.W.ki_setBack ho ⋯ (by rw[E_,<- hl];exact h3) ⋯ (by rw[hk];exact⟨_,I',q⟩)
theorem kD (lo hi:Option Int)(n:Nat):(sliceBounds lo hi Φ n).1=((HT.Iu n 0 lo:Nat):Int)/\(sliceBounds lo hi Φ n).2.1=((HT.Iu n n hi:Nat):Int)/\(sliceBounds lo hi Φ n).2.2=1:=by
 refine⟨?_,?_,rfl⟩
 ·induction lo using zO with
  | none=>simp[sliceBounds,HT.Iu]
  | some i=>
   simp only[sliceBounds,HT.Iu,Option.getD_none,show (1:Int) > 0 by decide,if_true];by_cases h:i < 0
   ·simp only[h,if_true]<;>omega
   ·simp only[h,if_false]<;>omega
 ·induction hi using zO with
  | none=>simp[sliceBounds,HT.Iu]
  | some i=>
   simp only[sliceBounds,HT.Iu,Option.getD_none,show (1:Int) > 0 by decide,if_true];by_cases h:i < 0
   ·simp only[h,if_true]<;>omega
   ·simp only[h,if_false]<;>omega
theorem jx (its:List Ψ)(lo hi:Option Int):slicePick its.toArray lo hi Φ=((its.drop (HT.Iu its.length 0 lo)).take (HT.Iu its.length its.length hi - HT.Iu its.length 0 lo)).toArray:=by obtain⟨h1,h2,h3⟩:=kD lo hi its.toArray.size;unfold slicePick;rw[h1,h2,h3];simp only[sliceRange_one,pick_run,E_]<;>rfl
def E1 (K:Frag):V->Option Int->Option Int->Hp->VK->Prop:=fun x lo hi H Q=>∃ a xs,x=.ref a/\GV K H a xs/\∀ p,H p=Φ->Q (.ref p) (upd H p (.lst (ql xs lo hi)))
theorem oP:Qd X (E1 X.K):=by intro pins s σ H x v vl vu lo hi sl Q I rx hs pl pu h;obtain⟨a,xs,rfl,hx,q⟩:=h;cases rx;obtain⟨its,r,ht,hz⟩:=I.list hx;have hlen:=r.length;refine⟨"list",_,slot_list_getitem.lookup,ht.isList.typeIs,?_⟩;refine wpAny_getItem_list_slice ht.isList hs pl pu .none (by simp) ?_ (by rw[E_]<;>omega);rw[jx,<- hlen];refine⟨.ref s.heap.objs.size,_,I.laid (t':=s.toks) (o:=.lst (ql xs lo hi)) (fun b ob q=>l_ _ q) (m_ _) ?_,rfl,q _ (I.Ge.fresh (m_ _))⟩;exact⟨O_ (ma xs lo hi) hz,_,0,(r.drop (HT.Iu xs.length 0 lo)).take (HT.Iu xs.length xs.length hi - HT.Iu xs.length 0 lo),w_ _ rfl⟩
theorem fG:dI X (.type "list") (fun xs H Q=>∃ p ys,xs=[.ref p]/\(GV X.K H p ys∨Hn X.K H p ys)/\∀ l,H l=Φ->Q (.ref l) (upd H l (.lst ys))):=by
 intro pins s σ H xs us Q I r h;obtain⟨p,ys,rfl,hq,q⟩:=h;obtain⟨u,rfl,rx⟩:=vals1 r;cases rx;have fin:∀ (its:List Ψ),Vals ys its->ys.length<=Ζ->∀ (h':Heap) (c':Nat),(∀ b o',s.heap.get? b=Δ o'->h'.get? b=Δ o')->
   h'.get? s.heap.objs.size=Δ {cls:=.type "list",dict:=Φ,data:=.seq its.toArray c',slots:=#[]}->EP X pins σ Q (.ref s.heap.objs.size) {s with heap:=h'}:=fun its r' hz h' c' kp e=>
  ⟨.ref s.heap.objs.size,_,I.laid (t':=s.toks) kp (m_ _) (show cY X.prog X.w _ h' _ (.lst ys) from ⟨hz,its,c',r',e⟩),rfl,q _ (I.Ge.fresh (m_ _))⟩
 rcases hq with hq|hq
 ·obtain⟨its,r',pl,hz⟩:=I.list hq;have hlen:=r'.length;obtain⟨o,ho,hc,n,hd⟩:=pl.isList;exact call_list_seq p (.inl rfl) ho hc hd (fun h' c' kp e=>fin its r' hz h' c' kp e) (by simp only[E_]<;>omega)
 ·obtain⟨its,r',pl,hz⟩:=I.tuple hq;have hlen:=r'.length;obtain⟨o,ho,hc,n,hd⟩:=pl;exact call_list_seq p (.inr rfl) ho hc hd (fun h' c' kp e=>fin its r' hz h' c' kp e) (by simp only[E_]<;>omega)
theorem jy:dI X (.type "tuple") (fun xs H Q=>∃ p ys,xs=[.ref p]/\((GV X.K H p ys/\∀ l,H l=Φ->Q (.ref l) (upd H l (.tup ys)))∨(Hn X.K H p ys/\Q (.ref p) H))):=by
 intro pins s σ H xs us Q I r h;obtain⟨p,ys,rfl,h⟩:=h;obtain⟨u,rfl,rx⟩:=vals1 r;cases rx;rcases h with ⟨hq,q⟩|⟨hq,q⟩
 ·obtain⟨its,r',pl,hz⟩:=I.list hq;have hlen:=r'.length;refine call_tuple_list pl.isList (fun h' kp=>?_) (by simp only[E_]<;>omega);have I1:Inv X pins σ H {s with heap:=h'}:=I.kept (t':=s.toks) kp;have I2:Inv X pins σ (upd H h'.objs.size (.tup ys)) {s with heap:=h'.push {cls:=.type "tuple",data:=.seq its.toArray}}:=
   I1.laid (t':=s.toks) (fun b o e=>l_ _ e) (m_ _) (show cY X.prog X.w _ _ _ (.tup ys) from ⟨hz,its,r',IsTup.new _ _⟩)
  exact⟨.ref h'.objs.size,_,I2,rfl,q _ (I1.Ge.fresh (m_ _))⟩
 ·obtain⟨its,r',pl,hz⟩:=I.tuple hq;exact call_tuple_same pl ⟨.ref p,H,I,rfl,q⟩
def Vn (K:Frag)(T:String)(x:V)(H:Hp):Prop:=match x with
 | .str _=>T = "str"
 | .int _=>T = "int"
 | .ref p=>(T = "list"/\∃ xs,GV K H p xs)∨(T = "tuple"/\∃ o,K.lookup p=Δ o/\o.cls=.type "tuple"/\o.dict=Φ)∨
   (T = "dict"/\((∃ Gd,H p=Δ (.dK Gd))∨∃ Gd,H p=Δ (.dT Gd)))∨(T = "set"/\∃ S n,H p=Δ (.set S n))
 | _=>False
theorem Ao {pins:List (Ω×Obj)}{σ:St}{H:Hp}{s:Α}{T:String}{x:V}{v:Ψ}(I:Inv X pins σ H s)(r:RelV x v)(ty:Vn X.K T x H) :
  s.TypeIs v T/\∀ a,v=.ref a->∃ ob,s.heap.get? a=Δ ob/\ob.dict=Φ:=by
 cases x with
 | str z=>obtain⟨t,rfl⟩:=r;cases (show T = "str" from ty);exact⟨typeIs_str s z t,fun _ e=>nomatch e⟩
 | int i=>obtain⟨t,rfl⟩:=r;cases (show T = "int" from ty);exact⟨typeIs_int s i t,fun _ e=>nomatch e⟩
 | ref p=>
  cases r;rcases ty with ⟨rfl,xs,hq⟩|⟨rfl,o,hk,hc,hd⟩|⟨rfl,hk⟩|⟨rfl,S,n,hk⟩
  ·obtain⟨its,_,pl,_⟩:=I.list hq;refine⟨pl.isList.typeIs,fun a e=>?_⟩;cases e;obtain⟨o,n,e,c,hd,_⟩:=pl;exact⟨o,e,hd⟩
  ·refine⟨⟨o,I.Jl p o hk,hc⟩,fun a e=>?_⟩;cases e;exact⟨o,I.Jl _ o hk,hd⟩
  ·have z:∃ o,s.heap.get? p=Δ o/\o.ExactDict:=by
    rcases hk with ⟨Gd,hk⟩|⟨Gd,hk⟩
    ·obtain⟨_,_,_,_,o,_,_,e,ex,_⟩:=I.Ge p _ hk;exact⟨o,e,ex⟩
    ·obtain⟨_,_,_,_,o,_,_,e,ex,_⟩:=I.Ge p _ hk;exact⟨o,e,ex⟩
   obtain⟨o,e,ex⟩:=z;refine⟨⟨o,e,ex.1⟩,fun a e2=>?_⟩;cases e2;exact⟨o,e,ex.2.1⟩
  ·obtain⟨o,_,_,_,e,ex,_⟩:=I.Ge p _ hk;refine⟨⟨o,e,ex.1⟩,fun a e2=>?_⟩;cases e2;exact⟨o,e,ex.2.1⟩
 | _=>exact False.elim ty
def Vo (K:Frag)(T:String)(r:V->List V->Hp->VK->Prop)(to:TE)(t:TA):TE:=fun σ H Q=>to σ H fun x H1=>Vn K T x H1/\t σ H1 fun xs H2=>r x xs H2 Q
variable {o e:Expr}{es:List Expr}{to:TE}{t:TA}{name:Str}{apos F9:Pos}{T id:String}{r:V->List V->Hp->VK->Prop}
theorem jM (pa:PlainAttrs T)(slot:Slot T name id)(Nq:typeOf (.builtin id)=pure (.type "method_descriptor")) (hm:Vm X id r) (ho:PE X o to) (ha:PA X (e::es) t)
  (Jb:attributeBase o name X.env (eval o X.env)=eval o X.env:=by rfl)
  (Ib:((backTo F9 (Ν (e::es) X.env)).all (fun x=>!x.1)&&(backToKw F9 (keywordEach [] X.env)).all (fun x=>x.1.isSome)
  &&decide ((e::es).length+([]:List Keyword).length+(if ([]:List Keyword).isEmpty then 0 else 1) < 30))=Θ:=by rfl)
  (Oe:(apos.endLine == F9.line)=Θ:=by rfl) (hs:Ν (e::es) X.env=(Ξ,eval e X.env)::Ν es X.env:=by rfl) (MF:(backTo F9 (Ν es X.env)).any (·.1)=Ξ:=by rfl) :
  PE X (.Call (.Attribute o name apos) (e::es) [] F9) (Vo X.K T r to t):=by
 intro pins s σ H Q I h;refine wpAny_Call_method_late Jb Ib Oe rfl (Gf (ho pins s σ H _ I h) fun v s1 ⟨x,H1,I1,r1,ty,q1⟩=>?_);obtain⟨h1,h2⟩:=Ao I1 r1 ty;refine⟨T,id,pa,slot,Nq,h1,h2,?_⟩;have hA:=ha F9 pins s1 σ H1 _ I1 q1;rw[hs] at hA ⊢;refine Calls.callWith_builtin (by show (Ξ||(backTo F9 (Ν es X.env)).any (·.1))=Ξ;rw[MF]<;>rfl) (Calls.evalArgs_plain ?_);exact Gf hA fun us s2 ⟨vs,H2,I2,r2,q2⟩=>hm pins s2 σ H2 x vs v us Q I2 r1 r2 q2
end
def Vp (X:Cx)(id:String)(r:V->List V->Hp->VK->Prop):Prop:=
 ∀ (pins:List (Ω×Obj)) (s:Α) (σ:St) (H:Hp) (x:V) (xs:List V) (v:Ψ) (us:List Ψ) (Q:VK),Inv X pins σ H s->RelV x v->Vals xs us->r x xs H Q->
  Κ (Μ X.prog X.w) X.A (call (.builtin id) (v::us)) (EP X pins σ Q) X.xe s
theorem Vals.one:∀ {x:V}{us:List Ψ},Vals [x] us->∃ u,us=[u]/\RelV x u
 | _,_,.cons r .nil=>⟨_,rfl,r⟩
theorem Vals.rep {xs:List V}{us:List Ψ}(h:Vals xs us):∀ k:Nat,Vals (Τ k xs).flatten (Τ k us).flatten
 | 0=>.nil
 | k+1=>by rw[List.replicate_succ,List.replicate_succ,List.flatten_cons,List.flatten_cons];exact Vals.append h (Vals.rep h k)
theorem foldl_rep (its:List Ψ):∀ (k:Nat) (acc:List Ψ),
  List.foldl (fun x1 x2=>x1++x2) acc.toArray (Τ k its.toArray)=(acc++(Τ k its).flatten).toArray
 | 0,acc=>by simp
 | k+1,acc=>by
  have e:acc.toArray++its.toArray=(acc++its).toArray:=by simp
  have e2:(acc++its)++(Τ k its).flatten=acc++(Τ (k+1) its).flatten:=by rw[List.replicate_succ,List.flatten_cons,B_]
  rw[<- e2,<- foldl_rep its k (acc++its),<- e,List.replicate_succ,List.foldl_cons]
section
variable {X:Cx}{pins:List (Ω×Obj)}{σ:St}{H:Hp}{s:Α}{l b:Ω}{xs ys zs:List V}
theorem Inv.Of {its its':List Ψ}{n:Nat}{f:Array Ψ->Array Ψ}{t':Nat}(I:Inv X pins σ H s)(hH:H l=Δ (.lst xs))
  (e:s.heap.get? l=Δ {cls:=.type "list",data:=.seq its.toArray n}) (hf:f its.toArray=its'.toArray) (hv:Vals ys its') (hz:ys.length<=Ζ) :
  Inv X pins σ (upd H l (.lst ys)) {s with heap:=s.heap.update l (ι f),toks:=t'}:=by
 have q:=PySem.IsL.update e f;rw[hf] at q;refine I.write (x:=l) (e:=l) (by rw[hH];exact trivial) (.inl rfl) (fun b' u hb hu=>(aaf s.heap (ι f) (Ne.symm hb)).trans hu) ⟨_,q⟩ ?_;exact⟨hz,its',_,hv,q⟩
theorem Inv.MG {its:List Ψ}{t':Nat}(I:Inv X pins σ H s)(hv:Vals ys its)(hz:ys.length<=Ζ) :
  Inv X pins σ (upd H s.heap.objs.size (.lst ys)) {s with heap:=s.heap.push {cls:=.type "list",data:=.seq its.toArray},toks:=t'}:=
 I.laid (fun _ _ q=>l_ _ q) (m_ _) ⟨hz,its,0,hv,w_ _ rfl⟩
theorem Inv.fresh (I:Inv X pins σ H s):H s.heap.objs.size=Φ:=I.Ge.fresh (m_ _)
theorem Inv.Og (I:Inv X pins σ H s)(hH:H l=Δ (.lst xs)):xs.length<=Ζ/\∃ (its:List Ψ) (n:Nat),Vals xs its/\xs.length=its.length/\s.heap.get? l=Δ {cls:=.type "list",data:=.seq its.toArray n}:=by obtain⟨z,its,n,r,e⟩:=I.Ge l _ hH;exact⟨z,its,n,r,r.length,e⟩
theorem rl {n:Nat}(h:n<=Ζ):Builtin.List.listTooLong n=Ξ:=by unfold Builtin.List.listTooLong;exact S_ ⋯
end
section
variable {X:Cx}
def v7:V->List V->Hp->VK->Prop:=fun x vs H Q=>∃ l xs y,x=.ref l/\vs=[y]/\H l=Δ (.lst xs)/\xs.length < Ζ/\Q .F4 (upd H l (.lst (xs++[y])))
theorem gQ:Vp X "list.append" v7:=by intro pins s σ H x vs v us Q I rx rv h;obtain⟨l,xs,y,rfl,rfl,hH,hz,q⟩:=h;cases rx;obtain⟨u,rfl,ru⟩:=rv.one;obtain⟨z,its,n,r,hl,e⟩:=I.Og hH;refine call_meets F.slot_list_append ⟨_,e,rfl⟩ F.entry_list_append (F.args_list_append_2 _ _) (PySem.list_append l its.toArray n u (by rw[E_];omega)) ⟨e,?_⟩;refine⟨.F4,_,I.Of (its':=its++[u]) hH e (by simp) (r.append (.cons ru .nil)) ?_,rfl,q⟩;rw[o_,W_];omega
theorem len_rep {α:Type}(xs:List α)(k:Nat):(Τ k xs).flatten.length=k*xs.length:=by
 induction k with
 | zero=>simp
 | succ k ih=>rw[List.replicate_succ,List.flatten_cons,o_,ih,Nat.succ_mul,Nat.add_comm]
end
end L2
namespace Att
open PySem PySem.W PySem.Calls PyProof.Rows
theorem ie {P:Params}{h:Heap}:∀ (ns:List Int) (vs:List Ψ),WellAll P h vs (ns.map WData.int)->IntsAre vs ns:=by
 intro ns
 induction ns with
 | nil=>intro vs w;rw[List.map_nil] at w;cases w;exact .nil
 | cons n ns ih=>
  intro vs w;rw[b_] at w;cases w with
  | cons a b=>cases a;exact .cons _ _ (ih _ b)
theorem qm {l:OpenLaw}{n:Nat}(hn:l.most=Δ n){P:Params}{h:Heap}{args:List WData}{vals:List Ψ}
  (Lp:l.row.toRowW.claim.pre args=Θ) (Rz:WellAll P h vals args) :
  ∃ a vs ns,vals=[θ a]/\args=[WData.list (ns.map WData.int)]/\h.get? a=Δ {cls:=.type "list",data:=.seq vs.toArray}/\IntsAre vs ns/\ns.length<=n:=by
 have RC:WShape.hasAll [] args [.list .int]=Θ:=(pre_splitW Lp).1;have hc:l.pre.holds [] {args:=args} = Θ:=(pre_splitW Lp).2;obtain⟨d,r,rfl,h1,h2⟩:=hasAllW_cons RC;obtain rfl:=hasAllW_nil h2;obtain⟨xs,rfl,h3⟩:=hasW_list h1;obtain⟨ns,rfl⟩:=items_int h3;have hlen:ns.length<=n:=by
  unfold OpenLaw.pre at hc;have h4:(WTm.not (.lt (.lit (.int (n:Int))) (.len (.arg 0)))).holds [] {args:=[.list (ns.map .int)]} = Θ:=by have h4:=(holds_andW hc).1;rw[hn] at h4;exact h4
  have h5:=condW_of h4 (w_not (w_lt w_lit (w_len_list (w_arg rfl))));rw[i_] at h5;refine Nat.le_of_not_lt fun q=>?_;have q':(n:Int) < ((ns.length:Nat):Int):=⋯
  first
   | (rw[F_ q'] at h5;exact absurd h5 nofun)
   | (simp at h5;omega)
 cases Rz with
 | cons w1 w2=>
  cases w2;cases w1 with
  | list ho Jv=>exact⟨_,_,ns,rfl,rfl,ho,ie ns _ Jv,hlen⟩
theorem qo (l:OpenLaw)(args:List WData):l.row.toRowW.claim.post args (.bool Θ) args=Θ:=
 postW_of (r:=l.row.toRowW) (X:=(Θ == Θ))
  (show WShape.has [] (.bool Θ) .bool=Θ by first|rfl|decide|simp[WShape.has,WShape.arms,WShape.armsAll])
  (show (WTm.eq .res (.lit (.bool Θ))).value [] {args:=args,res:=Δ (.bool Θ),after:=args} = Δ (.bool (Θ == Θ)) from w_eq_bool (w_res rfl) w_lit) rfl
theorem Jc {l:OpenLaw}{n:Nat}{q:Ε}{loose:List Str}{XP:(Str->Option Ψ)->Heap->Prop}{YP:Β->Heap->Prop}{d:DefRec}
  (hn:l.most=Δ n) (Oh:d.params.defaults=[])
  (call:∀ (w:Β) (Gz F7:Α) (mg mb:Str->Option Ψ) (fa:Ω) (o:Obj) (pm cd doc:Ψ) (a:Ω) (vs:List Ψ) (ns:List Int),
   Ground q loose [] XP w Gz mg mb F7.heap->YP w F7.heap->
   F7.heap.get? fa=Δ o->o.data=.func (docDef d.name d.params d.body d.scope pm cd doc)->F7.heap.CodeRec cd d.name->mg d.name=Δ (.ref fa)->
   F7.heap.get? a=Δ {cls:=.type "list",data:=.seq vs.toArray}->IntsAre vs ns->ns.length<=n->F7.gens = #[]->
   codeAny (Μ l.prog w) callerA (.call (.ref fa) ⟨[.ref a],[]⟩) (fun r s'=>r=.ok (.ret (.bool Θ))/\OldK F7.heap s'.heap/\s'.os=F7.os/\AllBare s'.gens) F7) :
  WalkO q loose XP YP l.row.toRowW d [] (fun f vs=>PySem.call f vs):=by
 intro w Gz F7 mg mb G Y fa o pm cd doc dV kV ho hd KI hD hmg hg args vals as Lp XD hrd Rz L4;obtain rfl:dV=.none:=Dflts.none hD Oh;obtain rfl:kV=.none:=Dflts.noKw hD;obtain⟨a,vs,ns,rfl,rfl,MH,hints,hlen⟩:=qm hn Lp Rz;refine enter_call (codeAny_mono (call w Gz F7 mg mb fa o pm cd doc a vs ns G Y ho (fd_plain hd) KI hmg MH hints hlen hg) fun r s' hq=>?_);obtain⟨rfl,h2,h3,h4⟩:=hq;exact⟨.inl ⟨.bool Θ,.bool Θ,[],rfl,fun _=>rfl,.bool Θ,qo l _,fun _=>⟨List.Pairwise.nil,fun _ hm=>(nomatch hm)⟩⟩,h2,h3,h4⟩
end Att
namespace L2
open PySem PySem.Spec PyProof.Rows
def KL (K:Frag)(a:Ω)(xs:List V):Prop:=
 ∃ (its:List Ψ) (n:Nat),K.lookup a=Δ {cls:=.type "list",data:=.seq its.toArray n}/\its.length<=Ζ/\Vals xs its
def Ls (K:Frag)(H:Hp)(a:Ω)(xs:List V):Prop:=Rd H a (.lst xs)∨KL K a xs
theorem jN:∀ {vs:List Ψ}{ns:List Int},IntsAre vs ns->Vals (ns.map V.int) vs
 | _,_,.nil=>.nil
 | _,_,.cons n t h=>.cons ⟨t,rfl⟩ (jN h)
def Ap (H:Hp):Prop:=∀ b,H b=Φ∨∃ o xs,H b=Δ (.Gh o (.lst xs))
theorem rp {P:Ε}{w:Β}{K:Frag}{mg mb:Str->Option Ψ}{CX:Ho}{k:Nat}{fa a:Ω}{fd:Ο}{x:Str}{sp:Sp}{F7:Α}{vs:List Ψ}{ns:List Int}
  (KX:K.In F7.heap) (MI:F7.heap.Ns Η mg) (hb:F7.heap.Ns builtinsNs mb) (XF:∀ x:Str,x≠"__name__"->mb x=bootBuiltins x) (RE:F7.heap.NoLimit) (hg:F7.gens = #[])
  (ha:F7.heap.get? a=Δ {cls:=.type "list",data:=.seq vs.toArray}) (hi:IntsAre vs ns) (hl:ns.length<=Ζ) (hr:Hb k callerA)
  (F:∀ base:Heap,K.In base->base.Ns Η mg->HC P w K mg base CX k fa fd [x] sp) (Oi:∀ (s:Α) (u:Ψ),BindsTo s fd ⟨[u],[]⟩ [(x,u)])
  (Jm:∀ H:Hp,Ap H->Ls K H a (ns.map V.int)->sp [.ref a] H (fun v _=>v=.bl Θ) fun _ _ _=>False)
  (RF:∀ H e s',CX [] H F7 (fun _ _ _=>False) e s'->False) :
  codeAny (Μ P w) callerA (.call (.ref fa) ⟨[.ref a],[]⟩) (fun r s'=>r=.ok (.ret (.bool Θ))/\OldK F7.heap s'.heap/\s'.os=F7.os/\AllBare s'.gens) F7:=by
 have rv:=jN hi;have RH:=hi.length
 -- from an abstract heap in Vq nothing but Mz MJ may be tracked
 have core:∀ H:Hp,Ap H->Ls K H a (ns.map V.int)->GW P w H F7.heap->(∀ b,H b≠Φ->b=a)->(H a≠Φ->K.lookup a=Φ)->
   codeAny (Μ P w) callerA (.call (.ref fa) ⟨[.ref a],[]⟩) (fun r s'=>r=.ok (.ret (.bool Θ))/\OldK F7.heap s'.heap/\s'.os=F7.os/\AllBare s'.gens) F7:=by
  intro H hO hS Ge hA hK;have JL:∀ {b:Ω}{o:Obj},F7.heap.get? b=Δ o->H b=Φ->(kz F7.heap H).get? b=Δ o:=fun e n=>qR e n;have N':∀ {b:Ω}{o:Obj}{es:Array DictEntry}{ep:Nat},F7.heap.get? b=Δ o->o.data=.dict es ep->H b=Φ:=fun {b o es ep} e d=>by
   cases q:H b with
   | none=>rfl
   | some u=>have e':b=a:=hA b (by rw[q];simp);subst e';rw[ha] at e;cases e;have d':Data.seq vs.toArray _=Data.dict es ep:=d;cases d'
  have Qe:∀ {b:Ω}{m:Str->Option Ψ},F7.heap.Ns b m->(kz F7.heap H).Ns b m:=fun {b m} ⟨o,es,ep,e,d,r⟩=>⟨o,es,ep,JL e (N' e d),d,r⟩
  have Vr:K.In (kz F7.heap H):=fun b o e=>JL (KX b o e) (by
   cases q:H b with
   | none=>rfl
   | some u=>
    have e':b=a:=hA b (by rw[q];simp);subst e'
    rw[hK (by rw[q];simp)] at e;cases e)
  have hM:Mod K mg (kz F7.heap H):=⟨Vr,Qe MI,⟨mb,Qe hb,XF⟩,let ⟨mc,h1,h2⟩:=RE;⟨mc,Qe h1,h2⟩⟩
  have e0:J8 P w K mg (kz F7.heap H) callerA [] F7 H:=⟨rfl,hM,fun b o e=>vN e,Nat.le_of_eq (qe _ _),trivial,fun b hb=>absurd (show b∈([]:List Ω) from hb) (by simp),Ge,.of_eq hg⟩
  refine codeAny_mono ((F _ Vr (Qe MI)).run callerA [] F7 H ⟨[.ref a],[]⟩ [.ref a] [.ref a] _ _ hr e0 (Oi F7 (.ref a)) (.cons rfl .nil) (Jm H hO hS)) fun r s' h=>?_;cases r with
  | error e=>exact(RF H e s' h).elim
  | ok fl=>
   cases fl with
   | next=>exact False.elim h
   | brk=>exact False.elim h
   | cont=>exact False.elim h
   | ret u=>
    obtain⟨v,H',os,bare,un,RK,r',q⟩:=h;have q':v=.bl Θ:=q;subst q';obtain rfl:u=Value.bool Θ:=r';refine⟨rfl,OldK.of_keep fun b o e=>?_,os,bare⟩;cases q:H b with
    | none=>exact un.keep b o e q (by intro z;exact absurd (show b∈([]:List Ω) from z) (by simp)) (by simp)
    | some u=>
     rcases hO b with z|⟨ob,xs,z⟩
     ·rw[q] at z;cases z
     ·have z2:=un.G6 b ob _ z;obtain⟨e1,_⟩:=Ge b _ z;obtain⟨e2,_⟩:=RK b _ z2;rw[e] at e1;cases e1;exact e2
 cases hk:K.lookup a with
 | some o=>
  -- Mz MJ is one of Mz Oj own objects
  have e:=KX a o hk;rw[ha] at e;cases e;refine core (fun _=>Φ) (fun _=>.inl rfl) (.inr ⟨vs,_,hk,by rw[RH];exact hl,rv⟩) (fun b u z=>by have z':(Φ:Option HO)=Δ u:=z;cases z') (fun b z=>absurd rfl z) fun z=>absurd rfl z
 | none=>
  refine core (fun b=>if b=a then Δ (.Gh {cls:=.type "list",data:=.seq vs.toArray} (.lst (ns.map V.int))) else Φ) (fun b=>?_) (.inl (.inr ⟨{cls:=.type "list",data:=.seq vs.toArray},f_ rfl⟩)) (fun b u z=>?_) (fun b z=>?_) fun _=>hk
  ·by_cases hb:b=a
   ·exact .inr ⟨_,_,f_ hb⟩
   ·exact .inl (d_ hb)
  ·by_cases hb:b=a
   ·have z':=(f_ hb).symm.trans z;cases z';subst hb;exact⟨ha,by rw[i_];exact hl,vs,_,rv,ha⟩
   ·have z':=(d_ hb).symm.trans z;cases z'
  ·by_cases hb:b=a
   ·exact hb
   ·exact absurd (d_ hb) z
theorem v8 {l:PySem.W.OpenLaw}{n k:Nat}{q:Ε}{loose:List Str}{XP:(Str->Option Ψ)->Heap->Prop}{YP:Β->Heap->Prop}{d:DefRec}{K:Params->Frag}{CX:Β->Ho}{sp:Β->Sp}{x:Str}
  (hn:l.most=Δ n) (Qf:n<=Ζ) (Oh:d.params.defaults=[]) (hr:Hb k callerA)
  (hY:∀ (w:Β) (h:Heap),YP w h->(K w.params).In h)
  (F:∀ (w:Β) (mg:Str->Option Ψ) (fa:Ω) (h:Heap),(K w.params).In h->h.Ns Η mg->mg d.name=Δ (.ref fa)->
   ∃ fd:Ο,(∀ (s:Α) (u:Ψ),BindsTo s fd ⟨[u],[]⟩ [(x,u)])/\
    ∀ base:Heap,(K w.params).In base->base.Ns Η mg->HC l.prog w (K w.params) mg base (CX w) k fa fd [x] (sp w))
  (Jm:∀ (w:Β) (H:Hp) (a:Ω) (ns:List Int),ns.length<=n->Ap H->Ls (K w.params) H a (ns.map V.int)->sp w [.ref a] H (fun v _=>v=.bl Θ) fun _ _ _=>False)
  (RF:∀ (w:Β) (H:Hp) (s:Α) (e:Ψ) (s':Α),CX w [] H s (fun _ _ _=>False) e s'->False) :
  PySem.W.WalkO q loose XP YP l.row.toRowW d [] (fun f vs=>PySem.call f vs):=by
 refine Att.Jc hn Oh fun w Gz F7 mg mb fa o pm cd doc a vs ns G Y ho hd KI hmg MH hints hlen hg=>?_;have KX:=hY w _ Y;obtain⟨fd,hb,hF⟩:=F w mg fa _ KX G.T.g hmg;exact rp KX G.T.g G.T.b G.T.builtins G.T.nolimit hg MH hints (O_ hlen Qf) hr hF hb (fun H hO hS=>Jm w H a ns hlen hO hS) fun H e s'=>RF w H F7 e s'
noncomputable def eS (s:Stmt):Arguments:=match s with
 | .FunctionDef _ a _ _ _ _ _ _ _ _=>a
 | _=>{posonlyargs:=[],args:=[],vararg:=Φ,kwonlyargs:=[],kw_defaults:=[],kwarg:=Φ,defaults:=[]}
noncomputable def dz (s:Stmt):List Stmt:=match s with
 | .FunctionDef _ _ b _ _ _ _ _ _ _=>b
 | _=>[]
noncomputable def cF (s:Stmt):Scope:=match s with
 | .FunctionDef _ _ _ _ _ _ sc _ _ _=>sc
 | _=>{kind:=.function,names:=[],isGenerator:=Ξ,isCoroutine:=Ξ}
structure L5 (K:Frag)(x qual:Str)(st:Stmt)(f:Ω)(fd:Ο):Prop where
 ex:∃ (oc:Ψ) (od:Option Ω) (kV doc pm:Ψ) (an:Option Ω) (Ia ct:Ψ) (Lo:Array (Option Ψ)),
  fd=PySem.W.fnOf x qual (eS st) (dz st) (cF st) .none kV doc pm an Ia ct/\K.lookup f=Δ ⟨oc,od,.func fd,Lo⟩/\PySem.W.codeIn K Ia qual=Θ
 kp:PySem.W.keepIn K (.ref f)=Θ
section
variable {P:Ε}{w:Β}{K:Frag}{mg:Str->Option Ψ}{base:Heap}
theorem L5.binds {x qual:Str}{st:Stmt}{f:Ω}{fd:Ο}{ps:List Str}(F:L5 K x qual st f fd)
  (h:∀ (kV doc pm:Ψ) (an:Option Ω) (Ia ct:Ψ) (us:List Ψ),us.length=ps.length->bindArgs (PySem.W.fnOf x qual (eS st) (dz st) (cF st) .none kV doc pm an Ia ct) ⟨us,[]⟩=pure (ps.zip us)):Binds K fd ps []:=by
 obtain⟨oc,od,kV,doc,pm,an,Ia,ct,Lo,rfl,lk,KI⟩:=F.ex;exact .all (h kV doc pm an Ia ct)
theorem nM {x qual:Str}{st:Stmt}{f:Ω}{oc:Ψ}{od an:Option Ω}{Lo:Array (Option Ψ)}{kV doc pm Ia ct:Ψ}(l:K.lookup f=Δ ⟨oc,od,.func (PySem.W.fnOf x qual (eS st) (dz st) (cF st) .none kV doc pm an Ia ct),Lo⟩)
  (c:PySem.W.codeIn K Ia qual=Θ) (k:PySem.W.keepIn K (.ref f)=Θ):L5 K x qual st f (PySem.W.fnOf x qual (eS st) (dz st) (cF st) .none kV doc pm an Ia ct):=⟨⟨oc,od,kV,doc,pm,an,Ia,ct,Lo,rfl,l,c⟩,k⟩
end
def cz (H H':Hp):Prop:=∀ b o,H b=Δ o->H' b=Δ o
theorem cz.refl (H:Hp):cz H H:=fun _ _ h=>h
theorem cz.trans {H H1 H2:Hp}(a:cz H H1)(b:cz H1 H2):cz H H2:=fun c o h=>b c o (a c o h)
theorem cz.free {H H':Hp}(e:cz H H'){l:Ω}(h:H' l=Option.none):H l=Option.none:=by
 cases q:H l with
 | none=>rfl
 | some o=>rw[e l o q] at h;cases h
theorem cz.seq {K:Frag}{H H':Hp}{a:Ω}{xs:List V}(e:cz H H')(h:GV K H a xs):GV K H' a xs:=by
 rcases h with (h|⟨o,h⟩)|h
 ·exact .inl (.inl (e _ _ h))
 ·exact .inl (.inr ⟨o,e _ _ h⟩)
 ·exact .inr h
theorem cG {X:Cx}{e:Expr}{t t':TE}(h:PE X e t)(m:∀ σ H Q,t' σ H Q->t σ H Q):PE X e t':=fun pins s σ H Q I q=>h pins s σ H Q I (m σ H Q q)
theorem iI {X:Cx}{e:Expr}{t t':TT}(h:PT X e t)(m:∀ σ H Q,t' σ H Q->t σ H Q):PT X e t':=fun pins s σ H Q I q=>h pins s σ H Q I (m σ H Q q)
theorem kE {X:Cx}{e:List Expr}{t t':TA}(h:PA X e t)(m:∀ σ H Q,t' σ H Q->t σ H Q):PA X e t':=fun pos pins s σ H Q I q=>h pos pins s σ H Q I (m σ H Q q)
theorem dC {X:Cx}{e:Stmt}{t t':TS}(h:PS X e t)(m:∀ D σ H,t' D σ H->t D σ H):PS X e t':=fun pins s σ H D I q=>h pins s σ H D I (m D σ H q)
theorem fN {X:Cx}{e:List Stmt}{t t':TS}(h:I0 X e t)(m:∀ D σ H,t' D σ H->t D σ H):I0 X e t':=fun pins s σ H D I q=>h pins s σ H D I (m D σ H q)
theorem kF {X:Cx}{tg e:Expr}{t t':TI}(h:PI X tg e t)(m:∀ σ H Q,t' σ H Q->t σ H Q):PI X tg e t':=fun pins s σ H Q I q=>h pins s σ H Q I (m σ H Q q)
def JM (X:Cx)(scope:Scope)(cl:List (Str×Ω))(N:List Str)(C:Ω)(s3:Α)(H3:Hp)(fp:List Ω)(xe:Ψ->Α->Prop:=fun _ _=>False):Cx:=
 {X with N:=N,Gz:=s3,IF:=H3,env:=compEnvC scope cl C X.env,outer:=X.stack,ex:=fp,fn:=fun _=>Ξ,pn:=[],xe:=xe}
structure HD (X:Cx)(scope:Scope)(cl:List (Str×Ω))(Fr:List (Str×Nat))(Tg:List Str):Prop where
 Ol:closureFor scope X.env=pure cl
 kind:scope.kind=.function
 II:∀ y∈scope.names,y.2≠.cell
 loc:∀ y∈scope.names,y.2=.local->scope.names.lookup y.1=Δ .local
 sub:∀ x c,cl.lookup x=Δ c->X.env.cells.lookup x=Δ c
 has:∀ x,((relabel scope X.env).names.lookup x=Δ .cell∨(relabel scope X.env).names.lookup x=Δ .free)->∃ c,cl.lookup x=Δ c
 out:∀ p∈Fr,X.N[p.2]? = Δ p.1/\(X.env.kindOf p.1=Δ .cell∨X.env.kindOf p.1=Δ .free)/\((relabel scope X.env).names.lookup p.1=Δ .cell∨(relabel scope X.env).names.lookup p.1=Δ .free)
noncomputable def stC (Fr:List (Str×Nat))(Tg:List Str)(σ:St):St:=Fr.map (fun p=>(σ[p.2]?).join)++Τ Tg.length Φ
section
variable {X:Cx}{scope:Scope}{cl:List (Str×Ω)}{Fr:List (Str×Nat)}{Tg:List Str}{pins:List (Ω×Obj)}{σ:St}{H3:Hp}{s3:Α}{fp:List Ω}
theorem Aq (S:HD X scope cl Fr Tg)(I:Inv X pins σ H3 s3)(hf:∀ b∈fp,fU X pins H3 b)(RL:∀ b∈fp,b < s3.heap.objs.size)(N:List Str)(xe:Ψ->Α->Prop):(JM X scope cl N s3.heap.objs.size s3 H3 fp xe).Ok where
 mod:=I.ok.mod
 kind:=S.kind
 glob:=I.ok.glob
 blt:=I.ok.blt
 above:=m_ _
 inj:=fun x y c h1 h2=>I.ok.inj x y c (S.sub x c h1) (S.sub y c h2)
 has:=fun x h=>S.has x h
 P7:=fun x c h _=>absurd (show Ξ=Θ from h) nofun
 hd:=I.ok.hd
 frames:=I.ok.frames
 F5:=.inl rfl
 Rg:=fun b hb=>⟨n_ (RL b hb),fun x c e z=>(hf b hb).2.2.2.2.1 x c (S.sub x c e) z⟩
 bs:=I.bs
 Lj:=O_ I.ok.Lj I.sz
 Lk:=fun b o e hb=>by
  rcases (hf b hb).2.2.2.1 with z|z
  ·exact I.ok.Lk b o e z
  ·exact absurd (C_ (j_ e) (O_ I.ok.Lj z)) (T_ _)
 Ll:=fun b hb z=>by
  rcases k_.mp (I.Js b z) with z|z
  ·exact(hf b hb).2.1 z
  ·exact(hf b hb).2.2.1 z
 Ht:=I.stack
 KH:=I.IG
theorem qp (S:HD X scope cl Fr Tg)(I:Inv X pins σ H3 s3)(hf:∀ b∈fp,fU X pins H3 b)(RL:∀ b∈fp,b < s3.heap.objs.size){h':Heap}{tk:Nat}
  (MI:h'.Ns s3.heap.objs.size (fun _=>Φ)) (hk:∀ b o,s3.heap.get? b=Δ o->h'.get? b=Δ o) (xe:Ψ->Α->Prop) :
  Inv (JM X scope cl (Fr.map (·.1)++Tg) s3.heap.objs.size s3 H3 fp xe) [] (stC Fr Tg σ) H3 {s3 with heap:=h',toks:=tk} where
 ok:=Aq S I hf RL _ _
 os:=rfl
 bare:=I.bare
 base:=Un.kept hk
 loc:=by
  refine⟨_,MI,fun i x v e1 e2 e3=>?_⟩;have hi:i < Fr.length:=by
   by_cases hi:i < Fr.length
   ·exact hi
   ·unfold stC at e2;rw[aaw (by simpa using hi),List.getElem?_replicate] at e2;split at e2<;>cases e2
  have Qg:(Fr.map (·.1))[i]? = Δ x:=by rw[<- e1];exact(aan (by simpa using hi)).symm
  have Hd:(Fr.map (fun p=>(σ[p.2]?).join))[i]? = Δ (Δ v):=by rw[<- e2];exact(aan (by simpa using hi)).symm
  rw[A_] at Qg Hd;obtain⟨p,hp,rfl⟩:=aaE.mp Qg;rw[hp] at Hd;have Lq:(σ[p.2]?).join=Δ v:=D_ Hd;have e4:σ[p.2]? = Δ (Δ v):=by
   cases q:σ[p.2]? with
   | none=>rw[q] at Lq;cases Lq
   | some y=>rw[q] at Lq;rw[show y=Δ v from Lq]
  obtain⟨o1,o2,o3⟩:=S.out p (aae hp);obtain⟨m,hn,hl⟩:=I.loc;have hv:N2 X.env.scope p.1:=by
   rcases o2 with o2|o2
   ·exact .inr (.inl o2)
   ·exact .inr (.inr o2)
  obtain⟨u,r,l⟩:=hl p.2 p.1 v o1 e4 hv;refine⟨u,r,.inr ⟨o3,?_⟩⟩;obtain⟨c,hc⟩:=S.has p.1 o3;refine⟨c,hc,?_⟩;have Nn:=S.sub _ _ hc;rcases l with ⟨k,_⟩|⟨_,c2,h2,z⟩
  ·rcases o2 with o2|o2<;>(rw[k] at o2;cases o2)
  ·rw[Nn] at h2;cases h2;obtain⟨o,ho,hd⟩:=z;exact⟨o,hk _ _ ho,hd⟩
 cell:=fun x c e=>by obtain⟨v,o,ho,hd⟩:=I.cell x c (S.sub x c e);exact⟨v,o,hk _ _ ho,hd⟩
 free:=I.Ge.fresh (m_ _)
 Hf:=fun x c e=>I.Hf x c (S.sub x c e)
 pin:=fun p hp=>absurd (show p∈([]:List (Ω×Obj)) from hp) (by simp)
 Ge:=I.Ge.kept hk
 len:=by unfold stC;show _=(Fr.map (·.1)++Tg).length;simp
end
def Lr (X:Cx)(ifs:List Expr)(t:TT):Prop:=
 ∀ (pins:List (Ω×Obj)) (s:Α) (σ:St) (H:Hp) (Q:Bool->Hp->Prop),Inv X pins σ H s->t σ H Q->
  Κ (Μ X.prog X.w) X.A (forIn ifs Θ fun c r=>if r=Θ then do let ok <- isTrue c X.env (eval c X.env);pure (ForInStep.yield ok) else pure (ForInStep.yield r)) (TP X pins σ Q) X.xe s
theorem ia {M:Model}{A:Ι}{E:Ψ->Α->Prop}{s:Α}{env:Env}{Q:Bool->Α->Prop}(h:Q Ξ s):∀ ifs:List Expr,
  Κ M A (forIn ifs Ξ fun c r=>if r=Θ then do let ok <- isTrue c env (eval c env);pure (ForInStep.yield ok) else pure (ForInStep.yield r)) Q E s
 | []=>by rw[List.forIn_nil];exact e_ h
 | c::cs=>by rw[List.forIn_cons];rw[d_ p_];exact a_ (e_ (ia h cs))
theorem v9 {X:Cx}:Lr X [] (fun _ H Q=>Q Θ H):=fun pins s σ H Q I q=>by rw[List.forIn_nil];exact e_ ⟨H,I,q⟩
theorem rq {X:Cx}{c:Expr}{cs:List Expr}{t u:TT}(hc:PT X c t)(hr:Lr X cs u):Lr X (c::cs) (B5 t u):=fun pins s σ H Q I q=>by
 rw[List.forIn_cons,f_ rfl];refine a_ (a_ (Gf (hc pins s σ H _ I q) fun b s1 ⟨H1,I1,q1⟩=>e_ ?_))
 induction b using zB with
 | true=>exact hr pins s1 σ H1 Q I1 q1
 | false=>exact ia ⟨H1,I1,q1⟩ cs
def rz (wi:TI)(start:St->St)(g:TG)(tt:TT)(te:TE):TE:=fun σ H Q=>wi σ H fun J H1=>∀ D,H1 D=Φ->∃ W:Nat->Nat->St->Hp->Prop,(∃ m,W 0 m (start σ) (upd H1 D (.lst [])))/\
 ∀ i m F8 H',W i m F8 H'->(J.stop i H'/\Q (.ref D) H')∨(J.go i H'/\∀ x H2,J.K7 i H' x H2->g x F8 H2 fun Ja H3=>tt Ja H3 fun b H4=>
  if b=Θ then te Ja H4 fun v H5=>∃ ys,H5 D=Δ (.lst ys)/\ys.length < Ζ/\∃ m',m' < m/\W (i+1) m' Ja (upd H5 D (.lst (ys++[v])))
  else ∃ m',m' < m/\W (i+1) m' Ja H4)
section
variable {X:Cx}{scope:Scope}{cl:List (Str×Ω)}{Fr:List (Str×Nat)}{Tg:List Str}{elt tg iter:Expr}{ifs:List Expr}{wi:TI}{g:TG}{tt:TT}{te:TE}{pos:Pos}
theorem kG (scope:Scope)(pos:Pos)(it acc:Ψ)(env:Env) :
  compTurn (.ListComp elt [⟨tg,iter,ifs,0⟩] scope pos) 0 it acc env=(do
   standAt iter.pos
   match <- pyNext it with
   | none=>pure (.done .next)
   | some v=>
    letOwnedTupleGo tg it v
    assign tg env v
    let ok <- forIn ifs Θ fun c r=>if r=Θ then do let ok <- isTrue c env (eval c env);pure (ForInStep.yield ok) else pure (ForInStep.yield r)
    if ok=Θ then
     (do let _ <- call (.builtin "list.append") [acc,<- eval elt env])
    again (.compLoop (.ListComp elt [⟨tg,iter,ifs,0⟩] scope pos) 0 it acc env)):=by rfl
theorem iJ {XE:Ω->Α->Hp->List Ω->Ψ->Α->Prop}(hc:X.calm=Θ)(S:HD X scope cl Fr Tg)
  (hg:∀ C s H fp,PG (JM X scope cl (Fr.map (·.1)++Tg) C s H fp (XE C s H fp)) tg g) (ht:∀ C s H fp,Lr (JM X scope cl (Fr.map (·.1)++Tg) C s H fp (XE C s H fp)) ifs tt)
  (he:∀ C s H fp,PE (JM X scope cl (Fr.map (·.1)++Tg) C s H fp (XE C s H fp)) elt te)
  {pins:List (Ω×Obj)}{σ:St}{H2:Hp}{s2:Α}{it:Ω}{fp:List Ω}{tn:Nat->Heap->Prop}{J:It}{Q:VK} (I2:Inv X pins σ H2 s2) (T:Turn X.prog X.w X.K tg J fp it tn) (L3:tn 0 s2.heap)
  (f2:∀ b∈fp,fU X pins H2 b)
  (q:∀ D,H2 D=Φ->∃ W:Nat->Nat->St->Hp->Prop,(∃ m,W 0 m (stC Fr Tg σ) (upd H2 D (.lst [])))/\
   ∀ i m F8 H',W i m F8 H'->(J.stop i H'/\Q (.ref D) H')∨(J.go i H'/\∀ x H2,J.K7 i H' x H2->g x F8 H2 fun Ja H3=>tt Ja H3 fun b H4=>
    if b=Θ then te Ja H4 fun v H5=>∃ ys,H5 D=Δ (.lst ys)/\ys.length < Ζ/\∃ m',m' < m/\W (i+1) m' Ja (upd H5 D (.lst (ys++[v])))
    else ∃ m',m' < m/\W (i+1) m' Ja H4))
  {E:Ψ->Α->Prop}{RR:Ψ->Env->Result->Α->Prop}
  (hR:∀ D C s' H',(∃ m,s'.heap.Ns C m)->Inv X pins σ H' s'->fU X pins H' C->Q (.ref D) H'->∀ V:Env,V.locals=C->V.frame=X.env.frame->RR (.ref D) V (.ok .next) s')
  (hX:∀ D C s3 H3,(∀ s5 Lu H5,Inv (JM X scope cl (Fr.map (·.1)++Tg) C s3 H3 fp (XE C s3 H3 fp)) [] Lu H5 s5->(∃ m,s5.heap.Ns C m)/\Inv X pins σ H5 s5/\fU X pins H5 C)->∀ e s',XE C s3 H3 fp e s'->
   notedBy (Μ X.prog X.w) X.A (compEnvC scope cl C X.env) (fun x KO=>∀ V:Env,V.locals=C->V.frame=X.env.frame->RR (.ref D) V (.error x) KO) e s') :
  Κ (Μ X.prog X.w) X.A (newList []) (fun acc RM=>Κ (Μ X.prog X.w) X.A (newFunctionEnv scope X.env.globals cl [] X.env.qual Φ .none (Δ X.env)) (fun Om RP=>
   codeAny (Μ X.prog X.w) X.A (.compStart (.ListComp elt [⟨tg,iter,ifs,0⟩] scope pos) 0 (.ref it) acc {Om with scope:=relabel scope X.env}) (RR acc Om) RP) E RM) E s2:=by
 have XG:∀ b∈fp,b < s2.heap.objs.size:=fun b hb=>by obtain⟨o,e,_⟩:=T.obj _ _ L3 b hb;exact j_ e
 -- Mz L6
 refine aap ?_;have I3:Inv X pins σ (upd H2 s2.heap.objs.size (.lst [])) {s2 with heap:=s2.heap.push {cls:=.type "list",data:=.seq ([]:List Ψ).toArray},toks:=s2.toks}:=I2.MG (ys:=[]) (its:=[]) .nil (aab _);generalize hD:s2.heap.objs.size=D at I3 ⊢;have XH:H2 D=Φ:=by rw[<- hD];exact I2.fresh
 generalize Vs:({s2 with heap:=s2.heap.push {cls:=.type "list",data:=.seq ([]:List Ψ).toArray},toks:=s2.toks}:Α)=s3 at I3;have k3:∀ b o,s2.heap.get? b=Δ o->s3.heap.get? b=Δ o:=fun b o e=>by rw[<- Vs];exact l_ _ e
 have XI:s3.heap.objs.size=D+1:=by rw[<- Vs,<- hD];exact U_ ..
 have Oo:∀ b∈fp,b < D:=fun b hb=>by rw[<- hD];exact XG b hb
 have RQ:∀ b∈fp,b < s3.heap.objs.size:=fun b hb=>by rw[XI];exact Nat.lt_succ_of_lt (Oo b hb)
 have f3:∀ b∈fp,fU X pins (upd H2 D (.lst [])) b:=fun b hb=>by obtain⟨a1,a2⟩:=f2 b hb;refine⟨?_,a2⟩;rw[cu (n_ (Oo b hb))];exact a1
 obtain⟨W,⟨m0,w0⟩,turn⟩:=q D XH;refine wpAny_newFunctionEnv S.II (by intro y hy;simp at hy) (fun h4 MI Oq=>codeAny_mono (R:=fun r s'=>∀ V:Env,V.locals=s3.heap.objs.size->V.frame=X.env.frame->RR (.ref D) V r s') ?_ fun r s' z=>z _ rfl rfl) S.kind;have k4:∀ b o,s3.heap.get? b=Δ o->h4.get? b=Δ o:=fun b o e=>
  Oq.extBut b o (n_ (j_ e)) (l_ _ e)
 have Vt:tn 0 h4:=T.keep _ _ _ L3 fun b hb o e=>k4 b o (k3 b o e);have I4:=qp (fp:=fp) (h':=h4) (tk:=s3.toks+([]:List (Str×Ψ)).length) S I3 f3 RQ (by simpa using MI) k4 (XE s3.heap.objs.size s3 (upd H2 D (.lst [])) fp);generalize hC:s3.heap.objs.size=C at I4 MI Oq ⊢;have RU:=hX D C s3 (upd H2 D (.lst []));generalize hZ:XE C s3 (upd H2 D (.lst [])) fp=Z at I4 RU;generalize hY:JM X scope cl (Fr.map (·.1)++Tg) C s3 (upd H2 D (.lst [])) fp Z=Y at I4 RU;have yP:Y.prog=X.prog:=by rw[<- hY];rfl
 have yw:Y.w=X.w:=by rw[<- hY];rfl
 have yK:Y.K=X.K:=by rw[<- hY];rfl
 have yA:Y.A=X.A:=by rw[<- hY];rfl
 have yc:Y.calm=Θ:=by rw[<- hY];exact hc
 have yx:Y.xe=Z:=by rw[<- hY];rfl
 have ye:Y.env=compEnvC scope cl C X.env:=by rw[<- hY];rfl
 have Ot:Y.ex=fp:=by rw[<- hY];rfl
 have XJ:Y.pn=[]:=by rw[<- hY];rfl
 have XM:Y.fs=Ha X.stack:=by rw[<- hY];rfl
 have yH:Y.IF=upd H2 D (.lst []):=by rw[<- hY];rfl
 have L7:Y.Gz=s3:=by rw[<- hY];rfl
 have XN:PG Y tg g:=by rw[<- hY,<- hZ];exact hg _ _ _ _
 have Jn:Lr Y ifs tt:=by rw[<- hY,<- hZ];exact ht _ _ _ _
 have XQ:PE Y elt te:=by rw[<- hY,<- hZ];exact he _ _ _ _
 have Ju:∀ {H':Hp},(∀ b∈fp,H' b=Φ)->∀ b∈fp,fU Y [] H' b:=fun hn b hb=>by have RV:=I4.ok;refine⟨hn b hb,(RV.Rg b (by rw[Ot];exact hb)).1,RV.Ll b (by rw[Ot];exact hb),.inl (by rw[Ot];exact hb),(RV.Rg b (by rw[Ot];exact hb)).2,fun p hp=>absurd hp (by rw[XJ];simp)⟩
 have XR:∀ b∈fp,(upd H2 D (.lst [])) b=Φ:=fun b hb=>(f3 b hb).1
 -- back to Mz frame
 have back:∀ (s5:Α) (Lu:St) (H5:Hp),Inv Y [] Lu H5 s5->(∃ m,s5.heap.Ns C m)/\Inv X pins σ H5 s5/\fU X pins H5 C:=by
  intro s5 Lu H5 I5;have RW:∃ m,s5.heap.Ns C m:=by obtain⟨m,hn,_⟩:=I5.loc;rw[ye] at hn;exact⟨m,hn⟩
  have XT:Un (Ha X.stack) fp (upd H2 D (.lst [])) H5 s3.heap s5.heap:=by have u:=I5.base;rw[XM,Ot,yH,L7] at u;exact u
  have XW:s5.os=s3.os:=by have:=I5.os;rw[L7] at this;exact this
  have RX:GW X.prog X.w H5 s5.heap:=by have:=I5.Ge;rw[yP,yw] at this;exact this
  have Ku:∀ b∈fp,(b∈X.ex∨X.Gz.heap.objs.size<=b)/\b≠X.env.locals/\(∀ x c,X.env.cells.lookup x=Δ c->c≠b)/\∀ p∈X.pn++pins,p.1≠b:=fun b hb=>by obtain⟨_,a1,_,a3,a4,a5⟩:=f3 b hb;exact⟨a3,a1,a4,a5⟩
  have Ou:H5 C=Φ:=by have:=I5.free;rw[ye] at this;exact this
  exact⟨RW,I3.LY XW XT RX I5.bare Ku,I3.Jt (Nat.le_of_eq hC) Ou⟩
 have nz:∀ {α:Type}{t:Sem α}{Q:α->Α->Prop}{s:Α},Κ (Μ X.prog X.w) X.A t Q Z s->Κ (Μ X.prog X.w) X.A t Q (notedBy (Μ X.prog X.w) X.A (compEnvC scope cl C X.env) fun x KO=>∀ V:Env,V.locals=C->V.frame=X.env.frame->RR (.ref D) V (.error x) KO) s:=fun h=>wpAny_mono h (fun _ _ z=>z) fun e s' z=>RU back e s' z;have loop:∀ (s5:Α) (Lu:St) (H5:Hp) (i m:Nat),Inv Y [] Lu H5 s5->tn i s5.heap->(∀ b∈fp,H5 b=Φ)->W i m Lu H5->
   codeAny (Μ X.prog X.w) X.A (.compLoop (.ListComp elt [⟨tg,iter,ifs,0⟩] scope pos) 0 (.ref it) (.ref D) (compEnvC scope cl C X.env)) (fun r s'=>∀ V:Env,V.locals=C->V.frame=X.env.frame->RR (.ref D) V r s') s5:=by
  intro s5 Lu H5 i m I5 N9 Rq w5;refine codeAny_loop rfl (fun n s'=>∃ i F8 H',Inv Y [] F8 H' s'/\tn i s'.heap/\(∀ b∈fp,H' b=Φ)/\W i n F8 H') ?_ m ⟨i,Lu,H5,I5,N9,Rq,w5⟩;rintro n s6 ⟨i,MB,H6,I6,Vu,Vv,w6⟩;show Κ _ X.A ((compTurn (.ListComp elt [⟨tg,iter,ifs,0⟩] scope pos) 0 (.ref it) (.ref D) (compEnvC scope cl C X.env)).onRaise (fun x=>do noteFrame x (compEnvC scope cl C X.env);theTreesLotGoes x)) _ _ s6;refine wpAny_noted ?_;rw[kG];refine a_ (wpAny_standAt (a_ ?_));have nx:∀ {α:Type}{t:Sem α}{Q:α->Α->Prop}{E':Ψ->Α->Prop}{s:Α},Κ (Μ X.prog X.w) X.A t Q (fun _ _=>False) s->Κ (Μ X.prog X.w) X.A t Q E' s:=fun h=>wpAny_mono h (fun _ _ z=>z) fun _ _ z=>z.elim;rcases turn i n MB H6 w6 with ⟨stop,qn⟩|⟨go,step⟩
  ·have h:=T.done Y yP yw yK yc i [] s6 MB H6 (fun _ _=>False) I6 (Ju Vv) Vu stop;rw[yA] at h;refine nx (Gf h fun r s7 ⟨hr,I7⟩=>?_);subst hr;refine e_ ?_;obtain⟨b1,b2,b3⟩:=back s7 MB H6 I7;exact hR D C s7 H6 b1 b2 b3 qn
  ·have h:=T.item Y yP yw yK yc i [] s6 MB H6 (fun _ _=>False) I6 (Ju Vv) Vu go;rw[yA] at h;refine nx (Gf h fun r s7 ⟨u,hr,h7⟩=>?_);subst hr;refine a_ (nx (Gf h7 fun _ s8 ⟨x,H8,I8,r8,y8,RY,XX⟩=>?_));have XY:=I8.pinned (Ju XX) (T.obj _ _ RY);have h9:=XN _ s8 MB H8 x u _ XY r8 (step x H8 y8);rw[yP,yw,yA,yx,ye] at h9;refine a_ (nz (Gf h9 fun _ s9 ⟨RZ,H9,I9,q9⟩=>?_));have K9:=Jn _ s9 RZ H9 _ I9 q9;rw[yP,yw,yA,yx,ye] at K9;refine a_ (nz (Gf K9 fun ok Lv ⟨XZ,Vw,Nr⟩=>?_));have again:∀ {F8:St}{H':Hp}{s':Α},Inv Y ([]++gN fp s8.heap) F8 H' s'->(∃ m',m' < n/\W (i+1) m' F8 H')->∃ m,m < n/\∃ i F8 H',Inv Y [] F8 H' s'/\tn i s'.heap/\(∀ b∈fp,H' b=Φ)/\W i m F8 H':=fun {F8 H' s'} I' ⟨m',hm,w'⟩=>by refine⟨m',hm,i+1,F8,H',I'.Hu,T.keep _ _ _ RY fun b hb o e=>(I'.pin (b,o) (s_ _ (s_ _ (fE hb e)))).1,fun b hb=>?_,w'⟩;obtain⟨o,e,d⟩:=T.obj _ _ RY b hb;exact(I'.pin (b,o) (s_ _ (s_ _ (fE hb e)))).2.1
   induction ok using zB with
   | false=>rw[d_ p_] at Nr;refine a_ (e_ (e_ ⟨rfl,again Vw Nr⟩))
   | true=>rw[f_ rfl] at Nr;have L8:=XQ _ Lv RZ XZ _ Vw Nr;rw[yP,yw,yA,yx,ye] at L8;refine a_ (a_ (nz (Gf L8 fun y J9 ⟨v,Vx,X0,X1,ys,ey,zy,X2⟩=>?_)));have MK:=gQ (X:=Y) ([]++gN fp s8.heap) J9 RZ Vx (.ref D) [v] (.ref D) [y] (fun v' H'=>v'=.F4/\H'=upd Vx D (.lst (ys++[v]))) X0 rfl (.cons X1 .nil) ⟨D,ys,v,rfl,rfl,ey,zy,rfl,rfl⟩;rw[yP,yw,yA,yx] at MK;refine a_ (nz (Gf MK fun z HG ⟨v12,H12,X3,r12,Vy,R0⟩=>?_));subst R0;exact e_ (e_ ⟨rfl,again X3 X2⟩)
 have start:=loop {s3 with heap:=h4,toks:=s3.toks+([]:List (Str×Ψ)).length} (stC Fr Tg σ) (upd H2 D (.lst [])) 0 m0 I4 Vt XR w0;have e5:∀ (s':Α),s' = {s3 with heap:=h4,toks:=s3.toks+([]:List (Str×Ψ)).length}->codeAny (Μ X.prog X.w) X.A (.compLoop (.ListComp elt [⟨tg,iter,ifs,0⟩] scope pos) 0 (.ref it) (.ref D) (compEnvC scope cl C X.env)) (fun r s'=>∀ V:Env,V.locals=C->V.frame=X.env.frame->RR (.ref D) V r s') s':=by rintro _ rfl;exact start
 exact codeAny_compStart_list (e5 _ rfl) (T.self _ _ _ _ _ Vt (e5 _ rfl))
theorem kH (hc:X.calm=Θ)(S:HD X scope cl Fr Tg)(hi:PI X tg iter wi)
  (hg:∀ C s H fp,PG (JM X scope cl (Fr.map (·.1)++Tg) C s H fp) tg g) (ht:∀ C s H fp,Lr (JM X scope cl (Fr.map (·.1)++Tg) C s H fp) ifs tt)
  (he:∀ C s H fp,PE (JM X scope cl (Fr.map (·.1)++Tg) C s H fp) elt te) (hs:∀ x,foldedSetIterable iter X.env x=pure x:=by intro _;rfl) :
  PE X (.ListComp elt [⟨tg,iter,ifs,0⟩] scope pos) (rz wi (stC Fr Tg) g tt te):=by
 intro pins s σ H Q I h;rw[eval_ListComp];refine wpAny_comprehension_free (use:=Φ) rfl hs S.Ol S.kind S.loc (Gf (hi pins s σ H _ I h) fun xv s1 h1=>Gf h1 fun P' s2 h2=>?_);obtain⟨it,fp,tn,J,H2,rfl,I2,T,L3,f2,q⟩:=h2;refine iJ (XE:=fun _ _ _ _ _ _=>False) (RR:=fun acc V=>compPost (Μ X.prog X.w) X.A X.xe Φ (EP X pins σ Q) acc V.locals) hc S hg ht he I2 T L3 f2 q ?_ fun _ _ _ _ _ _ _ z=>z.elim;intro D C s' H' ⟨m,hn⟩ I' F' q' V hV _;subst hV;obtain⟨f0,f1,f2,f3,f4,f5⟩:=F';exact⟨m,hn,fun h' sb=>⟨.ref D,H',I'.turned (t':=s'.toks) (fun b o hb e=>(sb.2 b hb).trans e) f0 f1 f3 f4 f5,rfl,q'⟩⟩
theorem wb {y:Str}{py spos:Pos}{i:Nat}(hc:X.calm=Θ)(hN:X.N.Nodup)(X4:X.N[i]? = Δ y)(hy:X.env.kindOf y=Δ .local)(S:HD X scope cl Fr Tg)(hi:PI X tg iter wi)
  (hg:∀ C s H fp,PG (JM X scope cl (Fr.map (·.1)++Tg) C s H fp) tg g) (ht:∀ C s H fp,Lr (JM X scope cl (Fr.map (·.1)++Tg) C s H fp) ifs tt)
  (he:∀ C s H fp,PE (JM X scope cl (Fr.map (·.1)++Tg) C s H fp) elt te)
  (Ov:swapsWith (.ListComp elt [⟨tg,iter,ifs,0⟩] scope pos) (Δ (.Name y py)) spos.line X.env=pure Θ) (hs:∀ x,foldedSetIterable iter X.env x=pure x:=by intro _;rfl) :
  PS X (.Assign [.Name y py] (.ListComp elt [⟨tg,iter,ifs,0⟩] scope pos) spos) (fun D σ H=>rz wi (stC Fr Tg) g tt te σ H fun v H'=>D.nx (σ.set i (Δ v)) H'):=by
 intro pins s σ H D I h;rw[exec_Assign_Name_used _ _ _ _ Ov];refine a_ (wpAny_standAt (a_ ?_));show Κ _ X.A (do let _ <- comprehension (.ListComp elt [⟨tg,iter,ifs,0⟩] scope pos) scope X.env _ (newList []) Ξ (eval iter X.env) (Δ (assign (.Name y py) X.env))) _ _ s
 refine a_ (Gf (wpAny_comprehension_free (use:=Δ (assign (.Name y py) X.env)) (Q:=fun _ s'=>SP X pins D .next s') rfl hs S.Ol S.kind S.loc
  (Gf (hi pins s σ H _ I h) fun xv s1 h1=>Gf h1 fun P' s2 h2=>?_)) fun _ s' hq=>e_ (e_ hq))
 obtain⟨it,fp,tn,J,H2,rfl,I2,T,L3,f2,q⟩:=h2;refine iJ (Q:=fun v H'=>D.nx (σ.set i (Δ v)) H') (XE:=fun _ _ _ _ _ _=>False) (RR:=fun acc V=>compPost (Μ X.prog X.w) X.A X.xe (Δ (assign (.Name y py) X.env)) (fun _ s'=>SP X pins D .next s') acc V.locals) hc S hg ht he I2 T L3 f2 q ?_ fun _ _ _ _ _ _ _ z=>z.elim;intro D' C s' H' ⟨m,hn⟩ I' F' q' V hV _;subst hV;obtain⟨f0,f1,f2,f3,f4,f5⟩:=F';show Κ _ X.A (assign (.Name y py) X.env (.ref D')) _ _ _;refine wpAny_assign_Name (jG I' hN X4 (.inl hy) (show RelV (.ref D') (.ref D') from rfl) (fun KO X5 ⟨a,sb,ha⟩=>?_) (.inr hy));have X6:V.locals≠a:=by
  rcases ha with rfl|ha
  ·exact f1
  ·exact fun z=>f4 y a ha z.symm
 refine⟨m,hn.sameBut sb X6,fun h' X7=>⟨_,H',X5.turned (t':=KO.toks) (fun b o hb e=>(X7.2 b hb).trans e) f0 f1 f3 f4 f5,q'⟩⟩
end
open PySem.SeqAt
section
variable {prog:Ε}{w:Β}{A:Ι}{E:Ψ->Α->Prop}{s:Α}
theorem nN:typeLookup (.type "list_reverseiterator") "__len__" = pure Φ:=by rw[typeLookup_type,builtinLookup_eq_fast];kernel_rfl
theorem rA:typeLookup (.type "list_reverseiterator") "__length_hint__" = pure (Δ (.builtin "list_reverseiterator.__length_hint__")):=by rw[typeLookup_type,builtinLookup_eq_fast];kernel_rfl
theorem iK {I l:Ω}{i:Int}{Q:Bool->Α->Prop}(hit:s.heap.IsRevIter I l i)(h:Q Ξ s):Κ (Μ prog w) A (Builtin.List.listLengthHint (.ref I)) Q E s:=by
 unfold Builtin.List.listLengthHint;refine a_ (wpAny_specialOf hit.typeIs nN ?_);show Κ _ A (specialOf (θ I) (Ρ "__length_hint__") >>= _) _ _ _;refine a_ (wpAny_specialOf hit.typeIs rA ?_);generalize K':("list_reverseiterator.__length_hint__" : String)=R4
 wp_delta
 rw[show splitId R4=Δ ("list_reverseiterator","__length_hint__") from by subst K';decide +kernel];subst K';refine a_ (wpAny_isInstance (T:="list_reverseiterator") (b:=Θ) hit.typeIs (by rw[isSubtype_type];kernel_rfl) ?_);refine wpAny_ite_split (fun J'=>absurd J' nofun) (fun _=>?_);refine wpAny_ite_split (fun _=>?_) (fun J'=>absurd (by decide +kernel) J');refine wpAny_ite_split (fun J'=>absurd J' (by decide +kernel)) (fun _=>?_);exact e_ h
theorem gR {R:Result->Α->Prop}(hh:A.handled=Φ)(I l S:Ω)(items:Array Ψ)(Hq:l≠I)(res:Ψ)(c₀:Nat)(hit:s.heap.IsRevIter I l ((items.size:Int) - 1))(hl:s.heap.IsList l items)(Vz:S≠I)(X8:S≠l)
  (hS:s.heap.get? S=Δ {cls:=.type "list",data:=.seq #[] c₀})
  (hR:∀ h' tk G1 c',(∀ b o,b≠S->b≠I->s.heap.get? b=Δ o->h'.get? b=Δ o)->h'.get? S=Δ {cls:=.type "list",dict:=Φ,data:=.seq G1 c',slots:=#[]}->
   ItemsOf (fun i v=>items[items.size - 1 - i]? = Δ v) G1 items.size->R (.ok (.ret res)) {s with heap:=h',toks:=tk}) (hn:items.size<=Ζ) :
  Κ (Μ prog w) A.in1 (Χ (.ref S) (.ref I) res)
   (fun fin s'=>match fin with|.done f=>R (.ok f) s'|.again c'=>c'.quiet=Θ/\codeAny (Μ prog w) A c' R s') (fun e s'=>R (.error e) s') s:=by
 have X9:S∉[I,l]:=fun hm=>by
  rcases k_.mp hm with e|hm
  ·exact Vz e
  ·exact X8 (u_.mp hm)
 unfold Χ;refine a_ (wpAny_typeOf hit.typeIs ?_);have h1:Builtin.List.listSameRef (.ref S) (.ref I)=Ξ:=by simp[Builtin.List.listSameRef,Vz]
 have h2:(Value.type "list_reverseiterator" == Value.type "list")=Ξ:= nofun
 have h3:(Value.type "list_reverseiterator" == Value.type "tuple")=Ξ:= nofun
 simp only[h1,h2,h3,Bool.or_false,aaq,if_false];refine a_ (wpAny_pyIter_revIter hit ?_);refine a_ (M_ (iK hit ?_));refine wpAny_ite_split (fun J'=>absurd J' nofun) (fun _=>?_);have W:=(Walks.listRev (prog:=prog) (w:=w) (A:=A.in1) hh I l Hq items).toS;refine e_ ⟨plainId_quiet F.plain_extend_loop _,codeAny_extend_loopS W hn S X9 res items.size 0 _ #[] c₀ rfl (aab _) ⟨aab _,by simpa using hit,hl⟩ hS (ItemsOf.nil _) fun s' G1 c' hm HH GA=>?_⟩;rw[Moved.eq_with hm];refine hR s'.heap s'.toks G1 c' (fun b o hb Il e=>hm.heap b o (fun ML=>?_) e) HH GA;rcases k_.mp ML with e'|ML
 ·exact hb e'
 ·exact Il (u_.mp ML)
theorem jz {Q:Ψ->Α->Prop}(hh:A.handled=Φ)(I l:Ω)(items:Array Ψ)(Hq:l≠I)(hit:s.heap.IsRevIter I l ((items.size:Int) - 1))(hl:s.heap.IsList l items)
  (hQ:∀ h' tk G1 c',(∀ b o,b≠I->s.heap.get? b=Δ o->h'.get? b=Δ o)->
   h'.get? s.heap.objs.size=Δ {cls:=.type "list",dict:=Φ,data:=.seq G1 c',slots:=#[]}->ItemsOf (fun i v=>items[items.size - 1 - i]? = Δ v) G1 items.size->Q (.ref s.heap.objs.size) {s with heap:=h',toks:=tk}) (hn:items.size<=Ζ) :
  Κ (Μ prog w) A (call (.type "list") [.ref I]) Q E s:=by
 have ltI:I < s.heap.objs.size:=by obtain⟨o,e,_⟩:=hit;exact j_ e
 have Qh:l < s.heap.objs.size:=by obtain⟨o,e,_⟩:=hl;exact j_ e
 refine callType_codes (Q₁:=fun obj F7=>obj=.ref s.heap.objs.size/\F7 = {s with heap:=s.heap.push {cls:=.type "list",data:=.seq #[]}}) F.called_list (F.typeCall_list_1 _) F.entry_list_init
  (code_list_new _ ⟨rfl,rfl⟩) fun obj F7 Ka=>?_
 obtain⟨rfl,rfl⟩:=Ka;have hS:(s.heap.push {cls:=.type "list",data:=.seq #[]}).get? s.heap.objs.size=Δ {cls:=.type "list",data:=.seq #[]}:=w_ _ rfl;refine⟨⟨_,hS,rfl⟩,F.args_list_init_2 _ _,?_⟩;show Κ _ _ (do let old <- Builtin.List.listItems (.ref s.heap.objs.size);Builtin.List.listUpdate (.ref s.heap.objs.size) (fun _=>#[]);letGo old.toList.reverse;Χ (.ref s.heap.objs.size) (.ref I) .none) _ _ _;refine a_ ?_;unfold Builtin.List.listItems;refine a_ (X_ hS rfl (e_ ?_));show Κ _ _ (updateSeq s.heap.objs.size (fun _=>#[]) >>= fun _=>letGo (#[]:Array Ψ).toList.reverse >>= fun _=>Χ (.ref s.heap.objs.size) (.ref I) .none) _ _ _;refine a_ (wpAny_updateSeq hS rfl ?_);have Iw:=aao (ι (fun _=>(#[]:Array Ψ))) hS rfl;have Hr:∀ b o,b≠s.heap.objs.size->s.heap.get? b=Δ o->((s.heap.push {cls:=.type "list",data:=.seq #[]}).update s.heap.objs.size (ι (fun _=>(#[]:Array Ψ)))).get? b=Δ o:=
  fun b o hb e=>(aaf _ _ (Ne.symm hb)).trans (l_ _ e)
 refine a_ (wpAny_letGo ?_);refine gR (A:=A.in1) hh I l _ items Hq .none _ (hit.at fun o e=>Hr I o (n_ ltI) e) (hl.at fun o e=>Hr l o (n_ Qh) e) (Q_ ltI) (Q_ Qh) Iw (fun h' tk G1 c' hk HH GA=>?_) hn;exact⟨rfl,hQ h' tk G1 c' (fun b o hb e=>hk b o (n_ (j_ e)) hb (Hr b o (n_ (j_ e)) e)) HH GA⟩
end
section
variable {X:Cx}{e:Expr}{t:TE}{p p' pos pos':Pos}
theorem Vals.rev:∀ {xs:List V}{us:List Ψ},Vals xs us->Vals xs.reverse us.reverse
 | [],[],_=>.nil
 | x::xs,u::us,.cons r rs=>by rw[List.reverse_cons,List.reverse_cons];exact(Vals.rev rs).append (.cons r .nil)
theorem wg (hc:X.calm=Θ)(g1:Gl X "list") (m1:X.mg "list" = Φ) (g2:Gl X "reversed") (m2:X.mg "reversed" = Φ) (he:PE X e t) (GI:∀ es,Ν (e::es) X.env=(Ξ,eval e X.env)::Ν es X.env) :
  PE X (.Call (.Name "list" p) [.Call (.Name "reversed" p') [e] [] pos'] [] pos) (fun σ H Q=>t σ H fun v H1=>∃ l ys,v=.ref l/\GV X.K H1 l ys/\∀ q,H1 q=Φ->Q (.ref q) (upd H1 q (.lst ys.reverse))):=by
 intro pins s σ H Q I h;refine aaD (fq (u:=.type "list") I g1 m1 (by decide +kernel) ?_ nofun nofun);refine aav ?_ rfl rfl;show Κ _ _ (spliced ((Ξ,eval (.Call (.Name "reversed" p') [e] [] pos') X.env)::backTo pos (Ν [] X.env))) _ _ s;have key:Κ (Μ X.prog X.w) X.A (eval (.Call (.Name "reversed" p') [e] [] pos') X.env) (fun u s1=>∃ s0 l ys its H1,Inv X pins σ H1 s0/\Vals ys its/\s0.heap.IsList l its.toArray/\ys.length<=Ζ/\u=.ref s0.heap.objs.size/\s1 = {s0 with heap:=s0.heap.push (revObj l ((its.toArray.size:Int) - 1))}/\∀ q,H1 q=Φ->Q (.ref q) (upd H1 q (.lst ys.reverse))) X.xe s:=by refine aaD (fq (u:=.type "reversed") I g2 m2 (by decide +kernel) ?_ nofun nofun);refine aav ?_ (GI []) rfl;rw[GI []];show Κ _ _ (spliced ((Ξ,eval e X.env)::backTo pos' (Ν [] X.env))) _ _ s;refine Calls.spliced_cons (Gf (he pins s σ H _ I h) fun u s1 ⟨x,H1,I1,r1,l,ys,ex,hq,q1⟩=>?_);subst ex;cases r1;refine Calls.spliced_nil ?_;obtain⟨its,r',pl,hz⟩:=I1.list hq;exact call_reversed_list pl.isList ⟨s1,l,ys,its,H1,I1,r',pl.isList,hz,rfl,rfl,q1⟩
 refine Calls.spliced_cons (Gf key fun u s1 ⟨s0,l,ys,its,H1,I1,rv,hl,hz,eu,es,q1⟩=>?_);subst eu es;refine Calls.spliced_nil ?_;have hlen:=rv.length;have Qh:l < s0.heap.objs.size:=by obtain⟨o,e,_⟩:=hl;exact j_ e
 have hit:(s0.heap.push (revObj l ((its.toArray.size:Int) - 1))).IsRevIter s0.heap.objs.size l ((its.toArray.size:Int) - 1):=⟨_,w_ _ rfl,rfl,rfl⟩
 have R5:(s0.heap.push (revObj l ((its.toArray.size:Int) - 1))).IsList l its.toArray:=hl.at fun o e=>l_ _ e;have hsz:(s0.heap.push (revObj l ((its.toArray.size:Int) - 1))).objs.size=s0.heap.objs.size+1:=U_ ..;refine jz (s:={s0 with heap:=s0.heap.push (revObj l ((its.toArray.size:Int) - 1))}) (show X.A.handled=Φ from I.ok.hd hc) s0.heap.objs.size l its.toArray (n_ Qh) hit R5 (fun h' tk G1 c' kp e GA=>?_) (by simp only[E_]<;>omega);have ha:G1=(its.reverse).toArray:=by
  apply Array.ext
  ·rw[GA.1];simp
  ·intro i h1 h2;have:=GA.2 i G1[i] (Array.getElem?_eq_getElem h1);rw[GA.1] at h1;have h3:i < its.length:=by simpa using h1
   simp only[E_,List.getElem?_toArray] at this;rw[y_ ⋯] at this;have:=D_ this;rw[<- this];simp[List.getElem_reverse]
 subst ha;exact⟨.ref _,_,I1.laid (t':=tk) (fun b o e=>kp b o (n_ (j_ e)) (l_ _ e)) (by show s0.heap.objs.size<=(s0.heap.push _).objs.size;rw[hsz];exact Nat.le_succ _) (show cY X.prog X.w _ h' _ (.lst ys.reverse) from ⟨by simpa using hz,its.reverse,c',rv.rev,e⟩),rfl,q1 _ (I1.Ge.fresh (by show s0.heap.objs.size<=(s0.heap.push _).objs.size;rw[hsz];exact Nat.le_succ _))⟩
end
section
variable {X:Cx}
theorem md {x:Str}{n:Int}(h0 : -16000<=n)(h1:n<=16000)(hx:x.length<=1000):MulOk x n:=by
 refine⟨?_,fun hn _=>?_,fun hn _=>?_⟩
 ·rw[Bool.or_eq_false_iff];exact⟨S_ ⋯,S_ ⋯⟩
 ·have:(1000:Int)<=(2 ^ 63 - 1) / n:=Int.le_ediv_of_mul_le ⋯ ⋯;omega
 ·have:x.length*n.toNat<=1000*16000:=Nat.mul_le_mul hx ⋯;unfold Builtin.Str.tooLong;exact S_ (by rw[sizeLine_eq];omega)
theorem nO:Ij X (binaryOp .Mult) (fun x y H Q=>∃ i j,x=.str i/\y=.int j/\-16000<=j/\j<=16000/\i.length<=1000/\Q (.str (Txt.mul i j)) H):=by intro pins s σ H x y v u Q I rx ry h;obtain⟨i,j,rfl,rfl,h0,h1,hz,q⟩:=h;obtain⟨t,rfl⟩:=rx;obtain⟨t',rfl⟩:=ry;exact SB.mul (md h0 h1 hz) fun t' tk=>⟨.str (Txt.mul i j),H,I.tok _,⟨_,rfl⟩,q⟩
noncomputable def ft (z:Str):List V:=z.cps.toList.map fun c=>.str ⟨#[c]⟩
theorem iL {z:Str}{G1:Array Ψ}(GA:ItemsOf (SignAt z) G1 z.cps.size):Vals (ft z) G1.toList:=by
 have hl:G1.toList.length=z.cps.toList.length:=by rw[P_,P_,GA.1]
 have key:∀ (cs:List Nat) (vs:List Ψ),vs.length=cs.length->(∀ (i:Nat) (v:Ψ),vs[i]? = Δ v->∃ c u,cs[i]? = Δ c/\v=Value.str ⟨#[c]⟩ u)->Vals (cs.map fun c=>V.str ⟨#[c]⟩) vs:=by
  intro cs
  induction cs with
  | nil=>
   intro vs hl _
   induction vs using zL with
   | nil=>exact .nil
   | cons _ _=>cases hl
  | cons c cs ih=>
   intro vs hl hv
   induction vs using zL with
   | nil=>cases hl
   | cons v vs=>
    obtain⟨c',u,e1,e2⟩:=hv 0 v rfl;have Qg:c=c':=by simpa using e1
    subst Qg e2;exact .cons ⟨u,rfl⟩ (ih vs (by simpa using hl) fun i w hw=>by simpa using hv (i+1) w (by simpa using hw))
 refine key _ _ hl fun i v hv=>?_;obtain⟨c,u,e1,e2⟩:=GA.2 i v (by rw[<- aar];exact hv);exact⟨c,u,by rw[aar];exact e1,e2⟩
theorem fZ (hc:X.calm=Θ):dI X (.type "list") (fun xs H Q=>∃ z:Str,xs=[.str z]/\z.length<=Ζ/\∀ l,H l=Φ->Q (.ref l) (upd H l (.lst (ft z)))):=by intro pins s σ H xs us Q I r h;obtain⟨z,rfl,hz,q⟩:=h;obtain⟨u,rfl,t,rfl⟩:=vals1 r;refine call_list_str (show X.A.handled=Φ from I.ok.hd hc) z t (fun h' tk G1 c' kp e GA=>?_) hz;have rv:=iL GA;exact⟨.ref _,_,I.laid (t':=tk) kp (m_ _) (show cY X.prog X.w _ h' _ (.lst (ft z)) from ⟨by unfold ft;simpa[Str.length] using hz,G1.toList,c',rv,by simpa using e⟩),rfl,q _ (I.Ge.fresh (m_ _))⟩
theorem iM (hc:X.calm=Θ):dI X (.type "tuple") (fun xs H Q=>∃ z:Str,xs=[.str z]/\z.length<=Ζ/\∀ l,H l=Φ->Q (.ref l) (upd H l (.tup (ft z)))):=by intro pins s σ H xs us Q I r h;obtain⟨z,rfl,hz,q⟩:=h;obtain⟨u,rfl,t,rfl⟩:=vals1 r;refine call_tuple_str (hsz:=hz) (show X.A.handled=Φ from I.ok.hd hc) z t (fun h' tk acc kp GA=>?_);have rv:=iL GA;have I1:Inv X pins σ H {s with heap:=h',toks:=tk}:=I.kept (t':=tk) kp;exact⟨.ref _,_,I1.laid (t':=tk) (fun b o e=>l_ _ e) (m_ _) (show cY X.prog X.w _ _ _ (.tup (ft z)) from ⟨by unfold ft;simpa[Str.length] using hz,acc.toList,rv,by simpa using IsTup.new h' acc⟩),rfl,q _ (I1.Ge.fresh (m_ _))⟩
end
open PySem.W
open PySem.Builtin PySem.Builtin.Str
end L2
namespace L2.Zp
open PySem
inductive Kq where
 | l|t
def Sq (k:Kq)(h:Heap)(a:Ω)(xs:Array Ψ):Prop:=match k with
 | .l=>h.IsList a xs
 | .t=>h.IsTuple a xs
def It (k:Kq)(h:Heap)(i a:Ω)(n:Nat):Prop:=match k with
 | .l=>h.IsListIter i a n
 | .t=>h.IsTupleIter i a n
theorem Sq.to {k:Kq}{h h':Heap}{a:Ω}{xs:Array Ψ}(q:Sq k h a xs)(e:∀ o,h.get? a=Δ o->h'.get? a=Δ o):Sq k h' a xs:=by
 cases k with
 | l=>obtain⟨o,ho,r⟩:=q;exact⟨o,e o ho,r⟩
 | t=>obtain⟨o,ho,r⟩:=q;exact⟨o,e o ho,r⟩
theorem It.to {k:Kq}{h h':Heap}{i a:Ω}{n:Nat}(q:It k h i a n)(e:∀ o,h.get? i=Δ o->h'.get? i=Δ o):It k h' i a n:=by
 cases k with
 | l=>obtain⟨o,ho,r⟩:=q;exact⟨o,e o ho,r⟩
 | t=>obtain⟨o,ho,r⟩:=q;exact⟨o,e o ho,r⟩
theorem It.lt {k:Kq}{h:Heap}{i a:Ω}{n:Nat}(q:It k h i a n):i < h.objs.size:=by
 cases k with
 | l=>obtain⟨o,ho,_⟩:=q;exact j_ ho
 | t=>obtain⟨o,ho,_⟩:=q;exact j_ ho
section
variable {prog:Ε}{w:Β}{A:Ι}{E:Ψ->Α->Prop}{s:Α}
theorem rB {i a:Ω}{n:Nat}{xs:Array Ψ}{x:Ψ}{Q:Ψ->Α->Prop}(c:s.heap.IsTupleIter i a n)(q:s.heap.IsTuple a xs)(hx:xs[n]? = Δ x)
  (k:∀ h',h'.IsTupleIter i a (n+1)->Heap.SameBut i s.heap h'->Q x {s with heap:=h'}):Κ (Μ prog w) A (ζ (.ref i)) Q E s:=by
 have ty:=c.typeIs;obtain⟨oi,gi,ci,di⟩:=c;obtain⟨oa,ga,_,na,da⟩:=q;unfold ζ;refine a_ (wpAny_callSpecial?_slot (name:=Ρ "__next__") ty F.slot_tuple_iterator_next (aac F.slot_tuple_iterator_next ty F.entry_tuple_iterator_next ?_ (F.args_tuple_iterator_next_1 _)));show Κ _ _ (field (.ref i) 0 >>= _) _ _ s;refine a_ (N_ gi di (x:=.ref a) rfl ?_);show Κ _ _ (if (θ a == Value.none)=Θ then _ else _) _ _ s;rw[d_ (by intro z;cases z)];show Κ _ _ (field (.ref i) 1 >>= _) _ _ s;refine a_ (N_ gi di (x:=.int n 0) rfl ?_);show Κ _ _ (seqItems? (.ref a) >>= _) _ _ s;refine a_ (X_ ga da ?_);simp only[aax,hx];refine a_ (wpAny_setField gi di (by simp) (e_ ⟨x,rfl,e_ (k _ ⟨_,aao _ gi (Obj.isFreed_of_fields (Obj.data_mapFields di _)),(Obj.cls_mapFields ..).trans ci,?_⟩ (aay ..))⟩));rw[Obj.data_mapFields di];simp[rawInt]
theorem wj {i a:Ω}{n:Nat}{xs:Array Ψ}{Q:Ψ->Α->Prop}(hh:A.handled=Φ)(c:s.heap.IsTupleIter i a n)(q:s.heap.IsTuple a xs)(hx:xs[n]? = Φ)
  (k:∀ h' e,Heap.ExtBut i s.heap h'->(∃ o,h'.get? e=Δ o/\o.cls=.type "StopIteration")->E (.ref e) {s with heap:=h'}):Κ (Μ prog w) A (ζ (.ref i)) Q E s:=by
 have ty:=c.typeIs;obtain⟨oi,gi,ci,di⟩:=c;obtain⟨oa,ga,_,na,da⟩:=q;unfold ζ;refine a_ (wpAny_callSpecial?_slot (name:=Ρ "__next__") ty F.slot_tuple_iterator_next (aac F.slot_tuple_iterator_next ty F.entry_tuple_iterator_next ?_ (F.args_tuple_iterator_next_1 _)));show Κ _ _ (field (.ref i) 0 >>= _) _ _ s;refine a_ (N_ gi di (x:=.ref a) rfl ?_);show Κ _ _ (if (θ a == Value.none)=Θ then _ else _) _ _ s;rw[d_ (by intro z;cases z)];show Κ _ _ (field (.ref i) 1 >>= _) _ _ s;refine a_ (N_ gi di (x:=.int n 0) rfl ?_);show Κ _ _ (seqItems? (.ref a) >>= _) _ _ s;refine a_ (X_ ga da ?_);simp only[aax,hx];refine a_ (wpAny_rule (a_ (wpAny_setField gi di (by simp) (a_ ?_))));simp only[newExc,newTuple];refine a_ (aap (a_ (m:=firstArgMember _ _) (wpAny_of_eq (a:=Value.none) (by first|rfl|(simp only[firstArgMember];rfl)) (aap ?_ (by size_fits)))) (by size_fits));simp only[raiseNew];refine a_ (wpAny_handled ?_)
 first|rw[show A.in1.handled=Φ from hh]|rw[hh]
 exact a_ (e_ (wpAny_throw (k _ _ (((aay ..).extBut.push _).push _) ⟨_,w_ _ rfl,rfl⟩)))
theorem fO {k:Kq}{i a:Ω}{n:Nat}{xs:Array Ψ}{x:Ψ}{Q:Ψ->Α->Prop}(c:It k s.heap i a n)(q:Sq k s.heap a xs)(hx:xs[n]? = Δ x)
  (f:∀ h',It k h' i a (n+1)->Heap.SameBut i s.heap h'->Q x {s with heap:=h'}):Κ (Μ prog w) A (ζ (.ref i)) Q E s:=by
 cases k with
 | l=>exact wpAny_nextOf_list_item c q hx f
 | t=>exact rB c q hx f
theorem kI {k:Kq}{i a:Ω}{n:Nat}{xs:Array Ψ}{Q:Ψ->Α->Prop}(hh:A.handled=Φ)(c:It k s.heap i a n)(q:Sq k s.heap a xs)(hx:xs[n]? = Φ)
  (f:∀ h' e,Heap.ExtBut i s.heap h'->(∃ o,h'.get? e=Δ o/\o.cls=.type "StopIteration")->E (.ref e) {s with heap:=h'}):Κ (Μ prog w) A (ζ (.ref i)) Q E s:=by
 cases k with
 | l=>exact wpAny_nextOf_list_end hh c q hx f
 | t=>exact wj hh c q hx f
end
section
variable {prog:Ε}{w:Β}{A:Ι}{E:Ψ->Α->Prop}{s:Α}
def Kept (z TO i j:Ω)(h h':Heap):Prop:=∀ c o,c≠z->c≠TO->c≠i->c≠j->h.get? c=Δ o->h'.get? c=Δ o
theorem qr {p q:Kq}{z TI TO i j l m:Ω}{n n':Nat}{xs ys:Array Ψ}{x y a b:Ψ}{Q:Ψ->Α->Prop}(D:ZipApart z TI TO i j l m)(hz:IsZip s.heap z TI TO .none)(hI:IsPair s.heap TI (.ref i) (.ref j))(hO:IsPair s.heap TO a b)
  (ci:It p s.heap i l n) (cj:It q s.heap j m n') (sl:Sq p s.heap l xs) (sm:Sq q s.heap m ys) (hx:xs[n]? = Δ x) (hy:ys[n']? = Δ y)
  (k:∀ h',IsZip h' z TI TO (rawInt s.heap.objs.size)->IsPair h' TO x y->It p h' i l (n+1)->It q h' j m (n' + 1)->IsPair h' s.heap.objs.size x y->h'.objs.size=s.heap.objs.size+1->Kept z TO i j s.heap h'->Q (.ref s.heap.objs.size) {s with heap:=h'}) :
  Κ (Μ prog w) A (Builtin.«zip.__next__» ⟨[.ref z],[]⟩) (fun fin s'=>∃ v,fin=.done (.ret v)/\Q v s') E s:=by
 show Κ _ _ (field (.ref z) 2 >>= _) _ _ _;refine a_ (N_ hz rfl (x:=.bool Ξ) rfl ?_);show Κ _ _ (field (.ref z) 3 >>= _) _ _ _;refine a_ (N_ hz rfl (x:=.ref TI) rfl (a_ (X_ hI rfl ?_)));show Κ _ _ (η (.ref z) >>= _) _ _ _;refine a_ ?_;unfold η;refine a_ (N_ hz rfl (x:=.none) rfl (e_ ?_));simp only[if_true];refine a_ (wpAny_rule (a_ (N_ hz rfl (x:=.ref TO) rfl (a_ (aad hz (by simp) fun h1 z1 e1=>?_)))));have Qi:IsZip h1 z TI TO .ellipsis:=z1;refine a_ ?_;simp only[List.zipIdx_cons,List.zipIdx_nil,List.forIn_cons,List.forIn_nil];refine a_ (a_ (wpAny_onRaise ?_));show Κ _ _ (ζ (.ref i) >>= _) _ _ _;refine a_ (fO (ci.to fun o e=>e1.extBut _ _ D.i1z e) (sl.to fun o e=>e1.extBut _ _ D.l1z e) hx fun h2 Ox e2=>e_ ?_);have O2:IsPair h2 TO a b:=e2.extBut _ _ D.TOi1 (e1.extBut _ _ D.TOz hO);refine a_ (X_ O2 rfl (a_ (wpAny_updateSeq_pair O2 fun h3 O3 e3=>?_)));have Ya:IsPair h3 TO x b:=O3;refine a_ (wpAny_letGo (e_ (a_ (a_ (wpAny_onRaise ?_)))));show Κ _ _ (ζ (.ref j) >>= _) _ _ _;refine a_ (fO (cj.to fun o e=>e3.extBut _ _ D.TOi2.symm (e2.extBut _ _ D.i12.symm (e1.extBut _ _ D.i2z e))) (sm.to fun o e=>e3.extBut _ _ D.l2TO (e2.extBut _ _ D.l2i1 (e1.extBut _ _ D.l2z e))) hy fun h4 Yb e4=>e_ ?_);have O4:IsPair h4 TO x b:=e4.extBut _ _ D.TOi2 Ya;refine a_ (X_ O4 rfl (a_ (wpAny_updateSeq_pair O4 fun h5 O5 e5=>?_)));have VA:IsPair h5 TO x y:=O5;refine a_ (wpAny_letGo (e_ (e_ (a_ (X_ VA rfl (a_ (wpAny_newTuple ?_)))))));have sz:h5.objs.size=s.heap.objs.size:=by rw[e5.1,e4.1,e3.1,e2.1,e1.1]
 have z5:IsZip h5 z TI TO .ellipsis:=e5.extBut _ _ D.TOz.symm (e4.extBut _ _ D.i2z.symm (e3.extBut _ _ D.TOz.symm (e2.extBut _ _ D.i1z.symm Qi)));have k5:Kept z TO i j s.heap h5:=fun c o c1 c2 c3 c4 e=>e5.extBut _ _ c2 (e4.extBut _ _ c4 (e3.extBut _ _ c2 (e2.extBut _ _ c3 (e1.extBut _ _ c1 e))));have Yc:It p h5 i l (n+1):=Ox.to fun o e=>e5.extBut _ _ D.TOi1.symm (e4.extBut _ _ D.i12 (e3.extBut _ _ D.TOi1.symm e));have Yd:It q h5 j m (n' + 1):=Yb.to fun o e=>e5.extBut _ _ D.TOi2.symm e;have lz:z < h5.objs.size:=j_ z5;show Κ _ _ (Builtin.SmallTypes.ownedTupleHandOut (.ref z) (.ref h5.objs.size) >>= _) _ _ _;refine a_ ?_;unfold Builtin.SmallTypes.ownedTupleHandOut;have z6:IsZip (h5.push {cls:=.type "tuple",data:=.seq #[x,y]}) z TI TO .ellipsis:=l_ _ z5;refine a_ (aad z6 (by simp) fun h7 z7 e7=>aad (show IsZip h7 z TI TO (rawInt h5.objs.size) from z7) (by simp) fun h8 z8 e8=>?_);have VB:IsZip h8 z TI TO (rawInt h5.objs.size):=z8;have up:∀ c o,c≠z->h5.get? c=Δ o->h8.get? c=Δ o:=fun c o c1 e=>e8.extBut _ _ c1 (e7.extBut _ _ c1 (l_ _ e));have t8:IsPair h8 h5.objs.size x y:=e8.extBut _ _ (Q_ lz) (e7.extBut _ _ (Q_ lz) (w_ _ rfl));have s8:h8.objs.size=h5.objs.size+1:=by rw[e8.1,e7.1,U_]
 rw[sz] at VB t8 s8;refine e_ ⟨_,rfl,?_⟩;show Q (.ref h5.objs.size) _;rw[sz];exact k h8 VB (up _ _ D.TOz VA) (Yc.to fun o e=>up _ o D.i1z e) (Yd.to fun o e=>up _ o D.i2z e) t8 s8 fun c o c1 c2 c3 c4 e=>up c o c1 (k5 c o c1 c2 c3 c4 e)
theorem qs {p q:Kq}{z TI TO i j l m:Ω}{n n':Nat}{xs ys:Array Ψ}{a b:Ψ}{Q:PySem.Fin->Α->Prop}(hh:A.handled=Φ)(D:ZipApart z TI TO i j l m)(hz:IsZip s.heap z TI TO .none)(hI:IsPair s.heap TI (.ref i) (.ref j))(hO:IsPair s.heap TO a b)
  (ci:It p s.heap i l n) (cj:It q s.heap j m n') (sl:Sq p s.heap l xs) (sm:Sq q s.heap m ys) (Jw:xs[n]? = Φ∨ys[n']? = Φ)
  (k:∀ h' e,Kept z TO i j s.heap h'->(∃ o,h'.get? e=Δ o/\o.cls=.type "StopIteration")->E (.ref e) {s with heap:=h'}) :
  Κ (Μ prog w) A (Builtin.«zip.__next__» ⟨[.ref z],[]⟩) Q E s:=by
 show Κ _ _ (field (.ref z) 2 >>= _) _ _ _;refine a_ (N_ hz rfl (x:=.bool Ξ) rfl ?_);show Κ _ _ (field (.ref z) 3 >>= _) _ _ _;refine a_ (N_ hz rfl (x:=.ref TI) rfl (a_ (X_ hI rfl ?_)));show Κ _ _ (η (.ref z) >>= _) _ _ _;refine a_ ?_;unfold η;refine a_ (N_ hz rfl (x:=.none) rfl (e_ ?_));simp only[if_true];refine a_ (wpAny_rule (a_ (N_ hz rfl (x:=.ref TO) rfl (a_ (aad hz (by simp) fun h1 z1 e1=>?_)))));have Qi:IsZip h1 z TI TO .ellipsis:=z1;refine a_ ?_;simp only[List.zipIdx_cons,List.zipIdx_nil,List.forIn_cons,List.forIn_nil];refine a_ (a_ (wpAny_onRaise ?_));show Κ _ _ (ζ (.ref i) >>= _) _ _ _;cases hx:xs[n]? with
 | none=>
  refine a_ (kI hh (ci.to fun o e=>e1.extBut _ _ D.i1z e) (sl.to fun o e=>e1.extBut _ _ D.l1z e) hx fun h2 e e2 he=>?_);obtain⟨oe,g,c⟩:=he;have z2:IsZip h2 z TI TO .ellipsis:=e2 _ _ D.i1z.symm Qi;have ne:e≠z:=fun v=>by rw[v,z2] at g;cases g;simp at c
  exact aad z2 (by simp) fun h3 _ e3=>k h3 e (fun d o c1 _ c3 _ v=>e3.extBut _ _ c1 (e2 _ _ c3 (e1.extBut _ _ c1 v))) ⟨oe,e3.extBut _ _ ne g,c⟩
 | some x=>
  have hy:ys[n']? = Φ:=by
   rcases Jw with v|v
   ·rw[hx] at v;cases v
   ·exact v
  refine a_ (fO (ci.to fun o e=>e1.extBut _ _ D.i1z e) (sl.to fun o e=>e1.extBut _ _ D.l1z e) hx fun h2 Ox e2=>e_ ?_);have O2:IsPair h2 TO a b:=e2.extBut _ _ D.TOi1 (e1.extBut _ _ D.TOz hO);refine a_ (X_ O2 rfl (a_ (wpAny_updateSeq_pair O2 fun h3 O3 e3=>a_ (wpAny_letGo (e_ (a_ (a_ (wpAny_onRaise ?_))))))));show Κ _ _ (ζ (.ref j) >>= _) _ _ _;refine a_ (kI hh (cj.to fun o e=>e3.extBut _ _ D.TOi2.symm (e2.extBut _ _ D.i12.symm (e1.extBut _ _ D.i2z e))) (sm.to fun o e=>e3.extBut _ _ D.l2TO (e2.extBut _ _ D.l2i1 (e1.extBut _ _ D.l2z e))) hy fun h4 e e4 he=>?_);obtain⟨oe,g,c⟩:=he;have z4:IsZip h4 z TI TO .ellipsis:=e4 _ _ D.i2z.symm (e3.extBut _ _ D.TOz.symm (e2.extBut _ _ D.i1z.symm Qi));have ne:e≠z:=fun v=>by rw[v,z4] at g;cases g;simp at c
  exact aad z4 (by simp) fun h5 _ e5=>k h5 e (fun d o c1 c2 c3 c4 v=>e5.extBut _ _ c1 (e4 _ _ c4 (e3.extBut _ _ c2 (e2.extBut _ _ c3 (e1.extBut _ _ c1 v))))) ⟨oe,e5.extBut _ _ ne g,c⟩
end
noncomputable def Nt:Kq->Ω->Obj
 | .l,a=>{cls:=.type "list_iterator",data:=.fields #[.ref a,.int 0 0]}
 | .t,a=>{cls:=.type "tuple_iterator",data:=.fields #[.ref a,.int 0 0]}
noncomputable def Hi (p:Kq)(h:Heap)(l:Ω):Heap:=h.push (Nt p l)
noncomputable def Hj (p q:Kq)(h:Heap)(l m:Ω):Heap:=(Hi p h l).push (Nt q m)
noncomputable def HI (p q:Kq)(h:Heap)(l m:Ω):Heap:=(Hj p q h l m).push {cls:=.type "tuple",data:=.seq #[.ref h.objs.size,.ref (Hi p h l).objs.size]}
noncomputable def HO (p q:Kq)(h:Heap)(l m:Ω):Heap:=(HI p q h l m).push {cls:=.type "tuple",data:=.seq #[.none,.none]}
noncomputable def HZ (p q:Kq)(h:Heap)(l m:Ω):Heap:=(HO p q h l m).push {cls:=.type "zip",data:=.fields #[.none,.bool Ξ,.bool Ξ,.ref (Hj p q h l m).objs.size,.ref (HI p q h l m).objs.size]}
theorem As (l m:Ω)(xs ys:Array Ψ):Meets (Builtin.«zip.__new__» ⟨[.type "zip",.ref l,.ref m],[]⟩) (fun _ R s=>Sq .l s.heap l xs/\Sq .l s.heap m ys/\R (.ok (.ret (.ref (HO .l .l s.heap l m).objs.size))) {s with heap:=HZ .l .l s.heap l m}):=
 .of_wp fun prog w A R s h=>by
  obtain⟨hp,g,d,tk,os⟩:=s;obtain⟨q1,q2,h⟩:=h;have sub:=sub_zip;have a1:Heap.IsList (Shared.heap ⟨hp,g,d,tk,os⟩) l xs:=q1;have a2:Heap.IsList (Shared.heap ⟨hp.push {cls:=.type "list_iterator",data:=.fields #[.ref l,.int 0 0]},g,d,tk,os⟩) m ys:=Heap.IsList.push (show hp.IsList m ys from q2) _
  wp_walk using aas a1,aas a2
  exact⟨_,rfl,h⟩
theorem Au (l m:Ω)(xs ys:Array Ψ):Meets (Builtin.«zip.__new__» ⟨[.type "zip",.ref l,.ref m],[]⟩) (fun _ R s=>Sq .l s.heap l xs/\Sq .t s.heap m ys/\R (.ok (.ret (.ref (HO .l .t s.heap l m).objs.size))) {s with heap:=HZ .l .t s.heap l m}):=
 .of_wp fun prog w A R s h=>by
  obtain⟨hp,g,d,tk,os⟩:=s;obtain⟨q1,q2,h⟩:=h;have sub:=sub_zip;have a1:Heap.IsList (Shared.heap ⟨hp,g,d,tk,os⟩) l xs:=q1;have a2:Heap.IsTuple (Shared.heap ⟨hp.push {cls:=.type "list_iterator",data:=.fields #[.ref l,.int 0 0]},g,d,tk,os⟩) m ys:=Heap.IsTuple.push (show hp.IsTuple m ys from q2) _
  wp_walk using aas a1,wpAny_pyIter_tuple a2
  exact⟨_,rfl,h⟩
theorem Av (l m:Ω)(xs ys:Array Ψ):Meets (Builtin.«zip.__new__» ⟨[.type "zip",.ref l,.ref m],[]⟩) (fun _ R s=>Sq .t s.heap l xs/\Sq .l s.heap m ys/\R (.ok (.ret (.ref (HO .t .l s.heap l m).objs.size))) {s with heap:=HZ .t .l s.heap l m}):=
 .of_wp fun prog w A R s h=>by
  obtain⟨hp,g,d,tk,os⟩:=s;obtain⟨q1,q2,h⟩:=h;have sub:=sub_zip;have a1:Heap.IsTuple (Shared.heap ⟨hp,g,d,tk,os⟩) l xs:=q1;have a2:Heap.IsList (Shared.heap ⟨hp.push {cls:=.type "tuple_iterator",data:=.fields #[.ref l,.int 0 0]},g,d,tk,os⟩) m ys:=Heap.IsList.push (show hp.IsList m ys from q2) _
  wp_walk using wpAny_pyIter_tuple a1,aas a2
  exact⟨_,rfl,h⟩
theorem Aw (l m:Ω)(xs ys:Array Ψ):Meets (Builtin.«zip.__new__» ⟨[.type "zip",.ref l,.ref m],[]⟩) (fun _ R s=>Sq .t s.heap l xs/\Sq .t s.heap m ys/\R (.ok (.ret (.ref (HO .t .t s.heap l m).objs.size))) {s with heap:=HZ .t .t s.heap l m}):=
 .of_wp fun prog w A R s h=>by
  obtain⟨hp,g,d,tk,os⟩:=s;obtain⟨q1,q2,h⟩:=h;have sub:=sub_zip;have a1:Heap.IsTuple (Shared.heap ⟨hp,g,d,tk,os⟩) l xs:=q1;have a2:Heap.IsTuple (Shared.heap ⟨hp.push {cls:=.type "tuple_iterator",data:=.fields #[.ref l,.int 0 0]},g,d,tk,os⟩) m ys:=Heap.IsTuple.push (show hp.IsTuple m ys from q2) _
  wp_walk using wpAny_pyIter_tuple a1,wpAny_pyIter_tuple a2
  exact⟨_,rfl,h⟩
theorem Ax (p q:Kq)(l m:Ω)(xs ys:Array Ψ):Meets (Builtin.«zip.__new__» ⟨[.type "zip",.ref l,.ref m],[]⟩) (fun _ R s=>Sq p s.heap l xs/\Sq q s.heap m ys/\R (.ok (.ret (.ref (HO p q s.heap l m).objs.size))) {s with heap:=HZ p q s.heap l m}):=by
 cases p<;>cases q
 ·exact As l m xs ys
 ·exact Au l m xs ys
 ·exact Av l m xs ys
 ·exact Aw l m xs ys
theorem rC {k:Kq}{h h':Heap}{i a:Ω}(e:h'.get? i=Δ (Nt k a)):It k h' i a 0:=by
 cases k with
 | l=>exact⟨_,e,rfl,rfl⟩
 | t=>exact⟨_,e,rfl,rfl⟩
theorem me (k:Kq)(a:Ω):(Nt k a).isFreed=Ξ:=by cases k<;>rfl
section
variable {prog:Ε}{w:Β}{A:Ι}{E:Ψ->Α->Prop}{s:Α}
theorem Jd {p q:Kq}{l m:Ω}{xs ys:Array Ψ}{Q:Ψ->Α->Prop}(h1:Sq p s.heap l xs)(h2:Sq q s.heap m ys)
  (k:∀ h',IsZip h' (s.heap.objs.size+4) (s.heap.objs.size+2) (s.heap.objs.size+3) .none->IsPair h' (s.heap.objs.size+2) (.ref s.heap.objs.size) (.ref (s.heap.objs.size+1))->IsPair h' (s.heap.objs.size+3) .none .none->
   It p h' s.heap.objs.size l 0->It q h' (s.heap.objs.size+1) m 0->h'.objs.size=s.heap.objs.size+5->(∀ c o,s.heap.get? c=Δ o->h'.get? c=Δ o)->Q (.ref (s.heap.objs.size+4)) {s with heap:=h'}) :
  Κ (Μ prog w) A (call (.type "zip") [.ref l,.ref m]) Q E s:=by
 refine callType_new F.called_zip nofun (F.typeCall_zip_2 _ _) (F.newCall_zip_2 _ _) (fun obj=>F.args_object_init_3 obj _ _) F.entry_zip_new (Ax p q l m xs ys) ⟨h1,h2,?_⟩;have n1:(Hi p s.heap l).objs.size=s.heap.objs.size+1:=U_ ..;have n2:(Hj p q s.heap l m).objs.size=s.heap.objs.size+2:=(U_ ..).trans (by rw[n1]);have n3:(HI p q s.heap l m).objs.size=s.heap.objs.size+3:=(U_ ..).trans (by rw[n2]);have n4:(HO p q s.heap l m).objs.size=s.heap.objs.size+4:=(U_ ..).trans (by rw[n3]);have n5:(HZ p q s.heap l m).objs.size=s.heap.objs.size+5:=(U_ ..).trans (by rw[n4]);have VC:∀ c o,(HO p q s.heap l m).get? c=Δ o->(HZ p q s.heap l m).get? c=Δ o:=fun c o e=>l_ _ e;have VE:∀ c o,(HI p q s.heap l m).get? c=Δ o->(HZ p q s.heap l m).get? c=Δ o:=fun c o e=>VC c o (l_ _ e);have VF:∀ c o,(Hj p q s.heap l m).get? c=Δ o->(HZ p q s.heap l m).get? c=Δ o:=fun c o e=>VE c o (l_ _ e);have VG:∀ c o,(Hi p s.heap l).get? c=Δ o->(HZ p q s.heap l m).get? c=Δ o:=fun c o e=>VF c o (l_ _ e);have g5:(HZ p q s.heap l m).get? (HO p q s.heap l m).objs.size=Δ _:=w_ _ rfl;have g4:(HZ p q s.heap l m).get? (HI p q s.heap l m).objs.size=Δ {cls:=.type "tuple",data:=.seq #[.none,.none]}:=VC _ _ (w_ _ rfl);have g3:(HZ p q s.heap l m).get? (Hj p q s.heap l m).objs.size=Δ {cls:=.type "tuple",data:=.seq #[.ref s.heap.objs.size,.ref (Hi p s.heap l).objs.size]}:=VE _ _ (w_ _ rfl);have g2:(HZ p q s.heap l m).get? (Hi p s.heap l).objs.size=Δ (Nt q m):=VF _ _ (w_ _ (me q m));have g1:(HZ p q s.heap l m).get? s.heap.objs.size=Δ (Nt p l):=VG _ _ (w_ _ (me p l));rw[n2,n3,n4] at g5;rw[n3] at g4;rw[n1,n2] at g3;rw[n1] at g2;show _/\_;rw[n4];exact⟨⟨_,g5,rfl⟩,k _ g5 g3 g4 (rC (h:=s.heap) g1) (rC (h:=s.heap) g2) n5 fun c o e=>VG c o (l_ _ e)⟩
end
section
variable {prog:Ε}{w:Β}{A:Ι}{E:Ψ->Α->Prop}{s:Α}
theorem JN {p q:Kq}{z TI TO i j l m:Ω}{n n':Nat}{xs ys:Array Ψ}{x y a b:Ψ}{Q:Option Ψ->Α->Prop}(D:ZipApart z TI TO i j l m)(hz:IsZip s.heap z TI TO .none)(hI:IsPair s.heap TI (.ref i) (.ref j))(hO:IsPair s.heap TO a b)
  (ci:It p s.heap i l n) (cj:It q s.heap j m n') (sl:Sq p s.heap l xs) (sm:Sq q s.heap m ys) (hx:xs[n]? = Δ x) (hy:ys[n']? = Δ y)
  (k:∀ h',IsZip h' z TI TO (rawInt s.heap.objs.size)->IsPair h' TO x y->It p h' i l (n+1)->It q h' j m (n' + 1)->IsPair h' s.heap.objs.size x y->h'.objs.size=s.heap.objs.size+1->Kept z TO i j s.heap h'->Q (Δ (.ref s.heap.objs.size)) {s with heap:=h'}) :
  Κ (Μ prog w) A (pyNext (.ref z)) Q E s:=by
 have ty:s.TypeIs (.ref z) "zip":=⟨_,hz,rfl⟩
 unfold pyNext;refine a_ (wpAny_attempt (wpAny_callSpecial?_slot (name:=Ρ "__next__") ty F.slot_zip_next (aac F.slot_zip_next ty F.entry_zip_next ?_ (F.args_zip_next_1 _))));exact qr D hz hI hO ci cj sl sm hx hy fun h' a1 a2 a3 a4 a5 a6 a7=>e_ (k h' a1 a2 a3 a4 a5 a6 a7)
theorem JO {p q:Kq}{z TI TO i j l m:Ω}{n n':Nat}{xs ys:Array Ψ}{a b:Ψ}{Q:Option Ψ->Α->Prop}(hh:A.handled=Φ)(D:ZipApart z TI TO i j l m)(hz:IsZip s.heap z TI TO .none)(hI:IsPair s.heap TI (.ref i) (.ref j))(hO:IsPair s.heap TO a b)
  (ci:It p s.heap i l n) (cj:It q s.heap j m n') (sl:Sq p s.heap l xs) (sm:Sq q s.heap m ys) (Jw:xs[n]? = Φ∨ys[n']? = Φ)
  (k:∀ h',Kept z TO i j s.heap h'->Q Φ {s with heap:=h'}):Κ (Μ prog w) A (pyNext (.ref z)) Q E s:=by
 have ty:s.TypeIs (.ref z) "zip":=⟨_,hz,rfl⟩
 unfold pyNext;refine a_ (wpAny_attempt (wpAny_callSpecial?_slot (name:=Ρ "__next__") ty F.slot_zip_next (aac F.slot_zip_next ty F.entry_zip_next (qs hh D hz hI hO ci cj sl sm Jw fun h' e hk he=>?_) (F.args_zip_next_1 _))));obtain⟨o,g,c⟩:=he;exact a_ (wpAny_isInstance (T:="StopIteration") (b:=Θ) ⟨o,g,c⟩ isSubtype_stop (e_ (k _ hk)))
end
end L2.Zp
namespace L2
open PySem PySem.Spec PyProof.Rows
def Jx (K:Frag)(H:Hp)(k:Zp.Kq)(a:Ω)(xs:List V):Prop:=match k with
 | .l=>GV K H a xs
 | .t=>Hn K H a xs
section
variable {X:Cx}{pins:List (Ω×Obj)}{σ:St}{H:Hp}{s:Α}{h':Heap}{k:Zp.Kq}{a:Ω}{xs ys:List V}
theorem Inv.L9 (I:Inv X pins σ H s)(h:Jx X.K H k a xs):∃ its:List Ψ,Vals xs its/\Zp.Sq k s.heap a its.toArray:=by
 cases k with
 | l=>obtain⟨its,rv,p,hz⟩:=I.list h;exact⟨its,rv,p.isList⟩
 | t=>obtain⟨its,rv,p,hz⟩:=I.tuple h;exact⟨its,rv,p⟩
theorem Inv.JP (I:Inv X pins σ H s)(h:Jx X.K H k a xs)(h':Jx X.K H k a ys):xs=ys:=by
 cases k with
 | l=>exact I.GG h h'
 | t=>exact I.HA h h'
theorem Inv.turns {t':Nat}{ch:List Ω}(I:Inv X pins σ H s)(k:∀ b o,b∉ch->s.heap.get? b=Δ o->h'.get? b=Δ o)(hf:∀ b∈ch,fU X pins H b):Inv X pins σ H {s with heap:=h',toks:=t'}:=by
 have LW:∀ b u,H b=Δ u->b∉ch:=fun b u e z=>by rw[(hf b z).1] at e;cases e
 refine I.step (g':=s.gens) (d':=s.drawn) (ch:=ch) (fun b hb=>?_) (fun b o _ _ hc e _=>k b o hc e) (fun b o _ _ hc e _=>⟨o.slots,k b o hc e⟩) (fun _ _ _ _ n=>n)
  (fun b o hc e=>⟨o,k b o hc e⟩) (fun _ _ e=>e) (fun _ _ _ e=>e) (fun b ps e=>⟨#[],by rw[e];simp⟩) (fun m hm=>?_) (fun b u e=>?_) I.bare
 ·obtain⟨f0,f1,f2,f3,f4,f5⟩:=hf b hb;exact⟨f3,f1,f4,f5⟩
 ·obtain⟨o,es,ep,ho,r⟩:=hm;exact⟨o,es,ep,k _ o (fun z=>(hf _ z).2.1 rfl) ho,r⟩
 ·refine(I.Ge b u e).HX (fun c v hc q=>k c v ?_ q) (fun _ q=>q) fun _ _ q=>q;rcases hc with z|z
  ·rw[z];exact LW b u e
  ·exact LW c _ z
theorem Inv.KP {t':Nat}{ch:List Ω}{T:Ω}{ho:HO}(I:Inv X pins σ H s)(k:∀ b o,b∉ch->s.heap.get? b=Δ o->h'.get? b=Δ o)(hf:∀ b∈ch,fU X pins H b)(hp:s.heap.objs.size<=T)(new:cY X.prog X.w (upd H T ho) h' T ho):Inv X pins σ (upd H T ho) {s with heap:=h',toks:=t'}:=by
 have LW:∀ b u,H b=Δ u->b∉ch:=fun b u e z=>by rw[(hf b z).1] at e;cases e
 have hn:H T=Φ:=I.Ge.fresh hp;refine I.step (g':=s.gens) (d':=s.drawn) (ch:=ch) (fun b hb=>?_) (fun b o _ _ hc e _=>k b o hc e) (fun b o _ _ hc e _=>⟨o.slots,k b o hc e⟩) (fun b o _ e n=>by rw[cu (n_ (C_ (j_ e) hp))];exact n)
  (fun b o hc e=>⟨o,k b o hc e⟩) (fun b xs q=>by rw[cu (cP q hn)];exact q) (fun b u xs q=>by rw[cu (cP q hn)];exact q) (fun b ps q=>⟨#[],by rw[cu (cP q hn),q];simp⟩) (fun m hm=>?_) (fun b u e=>?_) I.bare
 ·obtain⟨f0,f1,f2,f3,f4,f5⟩:=hf b hb;exact⟨f3,f1,f4,f5⟩
 ·obtain⟨o,es,ep,ho,r⟩:=hm;exact⟨o,es,ep,k _ o (fun z=>(hf _ z).2.1 rfl) ho,r⟩
 ·by_cases hb:b=T
  ·subst hb;rw[cv] at e;cases e;exact new
  ·rw[cu hb] at e;refine(I.Ge b u e).HX (fun c v hc q=>k c v ?_ q) (fun c q=>by rw[cu (cP q hn)];exact q) fun c xs q=>by rw[cu (cP q hn)];exact q
   rcases hc with z|z
   ·rw[z];exact LW b u e
   ·exact LW c _ z
end
noncomputable def R6 (K:Frag)(p q:Zp.Kq)(l m:Ω):It:=
 ⟨fun i H=>∃ xs ys x y,Jx K H p l xs/\Jx K H q m ys/\xs[i]? = Δ x/\ys[i]? = Δ y,
  fun i H v H'=>∃ T a b,v=.ref T/\H T=Φ/\H'=upd H T (.tup [a,b])/\∀ xs ys,Jx K H p l xs->Jx K H q m ys->xs[i]? = Δ a/\ys[i]? = Δ b,
  fun i H=>∃ xs ys,Jx K H p l xs/\Jx K H q m ys/\(xs.length<=i∨ys.length<=i)⟩
theorem Zp.It.obj {k:Zp.Kq}{h:Heap}{i a:Ω}{n:Nat}(c:Zp.It k h i a n):∃ o,h.get? i=Δ o/\∀ v,o.data≠.cell v:=by
 cases k with
 | l=>obtain⟨o,e,c,d⟩:=c;exact⟨o,e,fun v z=>by rw[d] at z;cases z⟩
 | t=>obtain⟨o,e,c,d⟩:=c;exact⟨o,e,fun v z=>by rw[d] at z;cases z⟩
theorem rD {P:Ε}{w:Β}{K:Frag}{es:List Expr}{c:Nat}{pos:Pos}(p q:Zp.Kq)(z TI TO i j l m:Ω)(D:ZipApart z TI TO i j l m) :
  Turn P w K (.Tuple es c pos) (R6 K p q l m) [z,TI,TO,i,j] z (fun n h=>IsZip h z TI TO .none/\IsPair h TI (.ref i) (.ref j)/\(∃ a b,IsPair h TO a b)/\Zp.It p h i l n/\Zp.It q h j m n) where
 mem:=by simp
 obj:=fun n h st b hb=>by
  obtain⟨hz,hI,⟨a,b',hO⟩,ci,cj⟩:=st;simp only[k_,R_,or_false] at hb;rcases hb with rfl|rfl|rfl|rfl|rfl
  ·exact⟨_,hz,fun v z=>by cases z⟩
  ·exact⟨_,hI,fun v z=>by cases z⟩
  ·exact⟨_,hO,fun v z=>by cases z⟩
  ·exact ci.obj
  ·exact cj.obj
 keep:=fun n h h' st k=>by obtain⟨hz,hI,⟨a,b',hO⟩,ci,cj⟩:=st;exact⟨k z (by simp) _ hz,k TI (by simp) _ hI,⟨a,b',k TO (by simp) _ hO⟩,ci.to fun o e=>k i (by simp) o e,cj.to fun o e=>k j (by simp) o e⟩
 item:=by
  intro X hP hw hK hc n pins s σ H E I hf st hg;subst hP hw hK;obtain⟨hz,hI,⟨a,b',hO⟩,ci,cj⟩:=st;obtain⟨xs,ys,x,y,Qj,Qk,hx,hy⟩:=hg;obtain⟨Je,Kb,p1⟩:=I.L9 Qj;obtain⟨GP,Iy,p2⟩:=I.L9 Qk;obtain⟨u1,R7,R8⟩:=Kb.get hx;obtain⟨u2,Ye,Yf⟩:=Iy.get hy;refine Zp.JN D hz hI hO ci cj p1 p2 (x:=u1) (y:=u2) (by simpa using R7) (by simpa using Ye) fun h1 a1 a2 a3 a4 a5 a6 hk=>?_;refine⟨_,rfl,?_⟩;have lz:z < s.heap.objs.size:=j_ hz;have Yg:s.heap.objs.size≠z:=Q_ lz;refine wpAny_letOwnedTupleGo_zip (s:={s with heap:=h1}) a1 fun h2 R9 IY=>?_;have kk:∀ b o,b∉[z,TI,TO,i,j]->s.heap.get? b=Δ o->h2.get? b=Δ o:=fun b o hb e=>by simp only[k_,R_,or_false,not_or] at hb;exact IY.extBut _ _ hb.1 (hk b o hb.1 hb.2.2.1 hb.2.2.2.1 hb.2.2.2.2 e)
  have hT:IsPair h2 s.heap.objs.size u1 u2:=IY.extBut _ _ Yg a5;have I2:Inv X pins σ (upd H s.heap.objs.size (.tup [x,y])) {s with heap:=h2}:=I.KP (t':=s.toks) kk hf (m_ _) ⟨by show 2<=Ζ;decide,[u1,u2],.cons R8 (.cons Yf .nil),⟨_,hT,rfl,_,rfl⟩⟩;refine⟨.ref s.heap.objs.size,_,I2,rfl,⟨_,x,y,rfl,I.Ge.fresh (m_ _),rfl,fun Sa Yh g1 g2=>by rw[I.JP g1 Qj,I.JP g2 Qk];exact⟨hx,hy⟩⟩,⟨R9,IY.extBut _ _ D.TIz (hk _ _ D.TIz D.TITO D.TIi1 D.TIi2 hI),⟨_,_,IY.extBut _ _ D.TOz a2⟩,a3.to fun o e=>IY.extBut _ _ D.i1z e,a4.to fun o e=>IY.extBut _ _ D.i2z e⟩,fun b hb=>?_⟩;have Il:b < s.heap.objs.size:=by
   simp only[k_,R_,or_false] at hb;rcases hb with rfl|rfl|rfl|rfl|rfl
   ·exact lz
   ·exact j_ hI
   ·exact j_ hO
   ·exact ci.lt
   ·exact cj.lt
  rw[cu (n_ Il)];exact(hf b hb).1
 done:=by
  intro X hP hw hK hc n pins s σ H E I hf st hg;subst hP hw hK;obtain⟨hz,hI,⟨a,b',hO⟩,ci,cj⟩:=st;obtain⟨xs,ys,Qj,Qk,hx⟩:=hg;obtain⟨Je,Kb,p1⟩:=I.L9 Qj;obtain⟨GP,Iy,p2⟩:=I.L9 Qk;have l1:=Kb.length;have l2:=Iy.length
  refine Zp.JO (I.ok.hd hc) D hz hI hO ci cj p1 p2 (by
   rcases hx with hx|hx
   ·exact .inl (Array.getElem?_eq_none (by simp;omega))
   ·exact .inr (Array.getElem?_eq_none (by simp;omega))) fun h1 hk=>⟨rfl,I.turns (t':=s.toks) (ch:=[z,TI,TO,i,j]) (fun b o hb e=>?_) hf⟩
  simp only[k_,R_,or_false,not_or] at hb;exact hk b o hb.1 hb.2.2.1 hb.2.2.2.1 hb.2.2.2.2 e
 self:=fun _ _ _ _ _ st h=>wpAny_pyIter_zip st.1 h
def E2 (K:Frag)(ta:TA):TI:=fun σ H R=>ta σ H fun vs H1=>∃ p q l m xs ys,vs=[.ref l,.ref m]/\Jx K H1 p l xs/\Jx K H1 q m ys/\R (R6 K p q l m) H1
theorem Zp.Sq.lt {k:Zp.Kq}{h:Heap}{a:Ω}{xs:Array Ψ}(q:Zp.Sq k h a xs):a < h.objs.size:=by
 cases k with
 | l=>obtain⟨o,e,_⟩:=q;exact j_ e
 | t=>obtain⟨o,e,_⟩:=q;exact j_ e
theorem mf (N l m:Nat)(hl:l < N)(hm:m < N):ZipApart (N+4) (N+2) (N+3) N (N+1) l m:=by constructor<;>(intro e;have e':(_:Nat)=(_:Nat):=e;omega)
theorem Ay {X:Cx}{a b:Expr}{ta:TA}{es:List Expr}{c:Nat}{p tp pos:Pos}(hg:Gl X "zip") (hm:X.mg "zip" = Φ) (ha:PA X [a,b] ta) (hs:Ν [a,b] X.env=[(Ξ,eval a X.env),(Ξ,eval b X.env)]) (IY:Ν [b] X.env=[(Ξ,eval b X.env)]) :
  PI X (.Tuple es c tp) (.Call (.Name "zip" p) [a,b] [] pos) (E2 X.K ta):=by
 intro pins s σ H R I h;refine Call_ (fq I hg hm boot_zip (aav (Gf (ha pos pins s σ H _ I h) fun us s1 ⟨vs,H1,I1,r1,q1⟩=>?_) (by rw[hs,IY]) (by rw[IY];rfl)));obtain⟨k1,k2,l,m,xs,ys,e,g1,g2,q⟩:=q1;subst e;cases r1 with
 | cons r rr=>
  cases rr with
  | cons r' rr=>
   cases rr;cases r;cases r';obtain⟨Je,Kb,p1⟩:=I1.L9 g1;obtain⟨GP,Iy,p2⟩:=I1.L9 g2;have l1:=p1.lt;have l2:=p2.lt;refine Zp.Jd p1 p2 fun h2 b1 b2 b3 b4 b5 b6 b7=>?_;refine wpAny_pyIter_zip (s:={s1 with heap:=h2}) b1 ?_;refine⟨s1.heap.objs.size+4,[s1.heap.objs.size+4,s1.heap.objs.size+2,s1.heap.objs.size+3,s1.heap.objs.size,s1.heap.objs.size+1],_,_,H1,rfl,I1.kept (t':=s1.toks) b7,rD k1 k2 _ _ _ _ _ l m (mf _ l m l1 l2),⟨b1,b2,⟨_,_,b3⟩,b4,b5⟩,fun b hb=>?_,q⟩;have Il:s1.heap.objs.size<=b:=by
    simp only[k_,R_,or_false] at hb;rcases hb with rfl|rfl|rfl|rfl|rfl
    ·exact aaj _ _
    ·exact aaj _ _
    ·exact aaj _ _
    ·exact m_ _
    ·exact aaj _ _
   exact I1.Jt Il (I1.Ge.fresh Il)
end L2
namespace L2.Zp
open PySem
abbrev dX (h:Heap)(z TI TO T:Ω)(f:Bool):Prop:=
 h.get? z=Δ {cls:=.type "zip",dict:=Φ,data:=.fields #[rawInt T,.bool f,.bool Ξ,.ref TI,.ref TO],slots:=#[]}
section
variable {prog:Ε}{w:Β}{A:Ι}{E:Ψ->Α->Prop}{s:Α}
theorem alive {a:Ω}{o:Obj}{Q:Option Obj->Α->Prop}(ho:s.heap.get? a=Δ o)(h:Q (Δ o) s):Κ (Μ prog w) A (loadIfAlive a) Q E s:=by
 have h':Q (s.heap.get? a) s:=by rw[ho];exact h
 exact fun _ _ _=>h'
theorem jO {z TI TO T:Ω}{f:Bool}{oT:Obj}{Q:Bool->Α->Prop}(hz:dX s.heap z TI TO T f)(hT:s.heap.get? T=Δ oT)
  (k:∀ h',dX h' z TI TO T Θ->Heap.SameBut z s.heap h'->Q Ξ {s with heap:=h'}):Κ (Μ prog w) A (η (.ref z)) Q E s:=by
 unfold η;refine a_ (N_ hz rfl (x:=rawInt T) rfl ?_);show Κ _ _ (loadIfAlive ((T:Int).toNat) >>= _) _ _ _;rw[aax];refine a_ (alive hT ?_);simp only[Option.isNone_some,aaq,if_false];refine a_ (N_ hz rfl (x:=.bool f) rfl ?_)
 induction f using zB with
 | true=>rw[d_ (show ¬ ((Value.bool Θ != Value.bool Θ)=Θ) from p_)];exact e_ (k s.heap hz (Heap.SameBut.refl _ _))
 | false=>rw[f_ (show (Value.bool Ξ != Value.bool Θ)=Θ from rfl)];refine a_ (aad hz (by simp) fun Sb Oy Oz=>?_);exact e_ (k Sb Oy Oz)
theorem nP {p q:Kq}{z TI TO i j l m T:Ω}{f:Bool}{oT:Obj}{n n':Nat}{xs ys:Array Ψ}{x y:Ψ}{Q:Ψ->Α->Prop}(D:ZipApart z TI TO i j l m)(hz:dX s.heap z TI TO T f)(hT:s.heap.get? T=Δ oT)(hI:IsPair s.heap TI (.ref i) (.ref j))
  (ci:It p s.heap i l n) (cj:It q s.heap j m n') (sl:Sq p s.heap l xs) (sm:Sq q s.heap m ys) (hx:xs[n]? = Δ x) (hy:ys[n']? = Δ y)
  (k:∀ h',dX h' z TI TO T Θ->It p h' i l (n+1)->It q h' j m (n' + 1)->IsPair h' s.heap.objs.size x y->h'.objs.size=s.heap.objs.size+1->(∀ c o,c≠z->c≠i->c≠j->s.heap.get? c=Δ o->h'.get? c=Δ o)->Q (.ref s.heap.objs.size) {s with heap:=h'}) :
  Κ (Μ prog w) A (Builtin.«zip.__next__» ⟨[.ref z],[]⟩) (fun fin s'=>∃ v,fin=.done (.ret v)/\Q v s') E s:=by
 show Κ _ _ (field (.ref z) 2 >>= _) _ _ _;refine a_ (N_ hz rfl (x:=.bool Ξ) rfl ?_);show Κ _ _ (field (.ref z) 3 >>= _) _ _ _;refine a_ (N_ hz rfl (x:=.ref TI) rfl (a_ (X_ hI rfl ?_)));show Κ _ _ (η (.ref z) >>= _) _ _ _;refine a_ (jO hz hT fun h1 z1 e1=>?_);simp only[aaq,if_false];refine a_ ?_;rw[<- Array.forIn_toList];simp only[List.forIn_cons,List.forIn_nil];refine a_ (a_ (M_ ?_));show Κ _ _ (ζ (.ref i) >>= _) _ _ _;refine a_ (fO (ci.to fun o e=>e1.extBut _ _ D.i1z e) (sl.to fun o e=>e1.extBut _ _ D.l1z e) hx fun h2 Ox e2=>e_ (e_ (a_ (a_ (M_ ?_)))));show Κ _ _ (ζ (.ref j) >>= _) _ _ _;refine a_ (fO (cj.to fun o e=>e2.extBut _ _ D.i12.symm (e1.extBut _ _ D.i2z e)) (sm.to fun o e=>e2.extBut _ _ D.l2i1 (e1.extBut _ _ D.l2z e)) hy fun h3 Yi e3=>e_ (e_ (e_ (a_ (wpAny_newTuple ?_ (hsz:=by show 2<=Ζ;decide))))));have sz:h3.objs.size=s.heap.objs.size:=by rw[e3.1,e2.1,e1.1]
 have z3:dX h3 z TI TO T Θ:=e3.extBut _ _ D.i2z.symm (e2.extBut _ _ D.i1z.symm z1);refine e_ ⟨_,rfl,?_⟩;show Q (.ref h3.objs.size) _;rw[sz];have up:∀ c o,h3.get? c=Δ o->(h3.push {cls:=.type "tuple",data:=.seq #[x,y]}).get? c=Δ o:=fun c o e=>l_ _ e;refine k _ (up _ _ z3) ((Ox.to fun o e=>e3.extBut _ _ D.i12 e).to fun o e=>up _ o e) (Yi.to fun o e=>up _ o e) ?_ (by rw[U_,sz]) fun c o c1 c2 c3 e=>up c o (e3.extBut _ _ c3 (e2.extBut _ _ c2 (e1.extBut _ _ c1 e)));show (h3.push _).get? s.heap.objs.size=_;rw[<- sz];exact w_ _ rfl
theorem nQ {p q:Kq}{z TI TO i j l m T:Ω}{f:Bool}{oT:Obj}{n n':Nat}{xs ys:Array Ψ}{Q:PySem.Fin->Α->Prop}(hh:A.handled=Φ)(D:ZipApart z TI TO i j l m)(hz:dX s.heap z TI TO T f)(hT:s.heap.get? T=Δ oT)(hI:IsPair s.heap TI (.ref i) (.ref j))
  (ci:It p s.heap i l n) (cj:It q s.heap j m n') (sl:Sq p s.heap l xs) (sm:Sq q s.heap m ys) (Jw:xs[n]? = Φ∨ys[n']? = Φ)
  (k:∀ h' e,(∀ c o,c≠z->c≠i->c≠j->s.heap.get? c=Δ o->h'.get? c=Δ o)->(∃ o,h'.get? e=Δ o/\o.cls=.type "StopIteration")->E (.ref e) {s with heap:=h'}) :
  Κ (Μ prog w) A (Builtin.«zip.__next__» ⟨[.ref z],[]⟩) Q E s:=by
 show Κ _ _ (field (.ref z) 2 >>= _) _ _ _;refine a_ (N_ hz rfl (x:=.bool Ξ) rfl ?_);show Κ _ _ (field (.ref z) 3 >>= _) _ _ _;refine a_ (N_ hz rfl (x:=.ref TI) rfl (a_ (X_ hI rfl ?_)));show Κ _ _ (η (.ref z) >>= _) _ _ _;refine a_ (jO hz hT fun h1 z1 e1=>?_);simp only[aaq,if_false];refine a_ ?_;rw[<- Array.forIn_toList];simp only[List.forIn_cons,List.forIn_nil];refine a_ (a_ (M_ ?_));show Κ _ _ (ζ (.ref i) >>= _) _ _ _;cases hx:xs[n]? with
 | none=>refine a_ (kI hh (ci.to fun o e=>e1.extBut _ _ D.i1z e) (sl.to fun o e=>e1.extBut _ _ D.l1z e) hx fun h2 e e2 he=>?_);exact k h2 e (fun c o c1 c2 c3 g=>e2 _ _ c2 (e1.extBut _ _ c1 g)) he
 | some x=>have hy:ys[n']? = Φ:=Jw.resolve_left (by rw[hx];simp);refine a_ (fO (ci.to fun o e=>e1.extBut _ _ D.i1z e) (sl.to fun o e=>e1.extBut _ _ D.l1z e) hx fun h2 Ox e2=>e_ (e_ (a_ (a_ (M_ ?_)))));show Κ _ _ (ζ (.ref j) >>= _) _ _ _;refine a_ (kI hh (cj.to fun o e=>e2.extBut _ _ D.i12.symm (e1.extBut _ _ D.i2z e)) (sm.to fun o e=>e2.extBut _ _ D.l2i1 (e1.extBut _ _ D.l2z e)) hy fun h3 e e3 he=>?_);exact k h3 e (fun c o c1 c2 c3 g=>e3 _ _ c3 (e2.extBut _ _ c2 (e1.extBut _ _ c1 g))) he
theorem rE {p q:Kq}{z TI TO i j l m T:Ω}{f:Bool}{oT:Obj}{n n':Nat}{xs ys:Array Ψ}{x y:Ψ}{Q:Option Ψ->Α->Prop}(D:ZipApart z TI TO i j l m)(hz:dX s.heap z TI TO T f)(hT:s.heap.get? T=Δ oT)(hI:IsPair s.heap TI (.ref i) (.ref j))
  (ci:It p s.heap i l n) (cj:It q s.heap j m n') (sl:Sq p s.heap l xs) (sm:Sq q s.heap m ys) (hx:xs[n]? = Δ x) (hy:ys[n']? = Δ y)
  (k:∀ h',dX h' z TI TO T Θ->It p h' i l (n+1)->It q h' j m (n' + 1)->IsPair h' s.heap.objs.size x y->h'.objs.size=s.heap.objs.size+1->(∀ c o,c≠z->c≠i->c≠j->s.heap.get? c=Δ o->h'.get? c=Δ o)->Q (Δ (.ref s.heap.objs.size)) {s with heap:=h'}) :
  Κ (Μ prog w) A (pyNext (.ref z)) Q E s:=by
 have ty:s.TypeIs (.ref z) "zip":=⟨_,hz,rfl⟩
 unfold pyNext;refine a_ (wpAny_attempt (wpAny_callSpecial?_slot (name:=Ρ "__next__") ty F.slot_zip_next (aac F.slot_zip_next ty F.entry_zip_next ?_ (F.args_zip_next_1 _))));exact nP D hz hT hI ci cj sl sm hx hy fun h' a1 a2 a3 a4 a5 a6=>e_ (k h' a1 a2 a3 a4 a5 a6)
theorem rF {p q:Kq}{z TI TO i j l m T:Ω}{f:Bool}{oT:Obj}{n n':Nat}{xs ys:Array Ψ}{Q:Option Ψ->Α->Prop}(hh:A.handled=Φ)(D:ZipApart z TI TO i j l m)(hz:dX s.heap z TI TO T f)(hT:s.heap.get? T=Δ oT)(hI:IsPair s.heap TI (.ref i) (.ref j))
  (ci:It p s.heap i l n) (cj:It q s.heap j m n') (sl:Sq p s.heap l xs) (sm:Sq q s.heap m ys) (Jw:xs[n]? = Φ∨ys[n']? = Φ)
  (k:∀ h',(∀ c o,c≠z->c≠i->c≠j->s.heap.get? c=Δ o->h'.get? c=Δ o)->Q Φ {s with heap:=h'}):Κ (Μ prog w) A (pyNext (.ref z)) Q E s:=by
 have ty:s.TypeIs (.ref z) "zip":=⟨_,hz,rfl⟩
 unfold pyNext;refine a_ (wpAny_attempt (wpAny_callSpecial?_slot (name:=Ρ "__next__") ty F.slot_zip_next (aac F.slot_zip_next ty F.entry_zip_next (nQ hh D hz hT hI ci cj sl sm Jw fun h' e hk he=>?_) (F.args_zip_next_1 _))));obtain⟨o,g,c⟩:=he;exact a_ (wpAny_isInstance (T:="StopIteration") (b:=Θ) ⟨o,g,c⟩ isSubtype_stop (e_ (k _ hk)))
structure St (z TI TO i j l m:Ω)(p q:Kq)(xs ys:Array Ψ)(n:Nat)(b:Nat)(Ts:List Ω)(h:Heap):Prop where
 zp:IsZip h z TI TO .none∨∃ T f,dX h z TI TO T f/\T∈Ts
 I:IsPair h TI (.ref i) (.ref j)
 O:∃ a b,IsPair h TO a b
 ci:It p h i l n
 cj:It q h j m n
 sl:Sq p h l xs
 sm:Sq q h m ys
 len:Ts.length=n
 nd:Ts.Nodup
 at_:∀ (k:Nat) (T:Ω),Ts[k]? = Δ T->b<=T/\∃ x y,xs[k]? = Δ x/\ys[k]? = Δ y/\IsPair h T x y
theorem loop {p q:Kq}{z TI TO i j l m S:Ω}{xs ys:Array Ψ}{R:Result->Α->Prop}{b:Nat}(hh:A.handled=Φ)(D:ZipApart z TI TO i j l m)(res:Ψ)(hn:min xs.size ys.size<=Ζ)(bz:z < b)(bI:TI < b)(bO:TO < b)(bi:i < b)(bj:j < b)(bl:l < b)(bm:m < b)(bS:S < b)(Sz:S≠z)(SI:S≠TI)(SO:S≠TO)(Si:S≠i)(Sj:S≠j)(Sl:S≠l)(Sm:S≠m) :
  ∀ (k n:Nat) (s:Α) (Ts:List Ω) (c:Nat),min xs.size ys.size - n=k->n<=min xs.size ys.size->St z TI TO i j l m p q xs ys n b Ts s.heap->b<=s.heap.objs.size->s.heap.get? S=Δ {cls:=.type "list",dict:=Φ,data:=.seq (Ts.map θ).toArray c,slots:=#[]}->
  (∀ (h':Heap) (tk:Nat) (Iz:List Ω) (c':Nat),(∀ a o,a≠z->a≠TO->a≠i->a≠j->a≠S->s.heap.get? a=Δ o->h'.get? a=Δ o)->h'.get? S=Δ {cls:=.type "list",dict:=Φ,data:=.seq (Iz.map θ).toArray c',slots:=#[]}->Iz.length=min xs.size ys.size->Iz.Nodup->(∀ (k:Nat) (T:Ω),Iz[k]? = Δ T->b<=T/\∃ x y,xs[k]? = Δ x/\ys[k]? = Δ y/\IsPair h' T x y)->R (.ok (.ret res)) {s with heap:=h',toks:=tk})->
  codeAny (Μ prog w) A (.builtin "list.extend.loop" ⟨[.ref S,.ref z,res],[]⟩) R s:=by
 intro k
 induction k with
 | zero=>
  intro n s Ts c hk hi st hb hS hR;have Jo:n=min xs.size ys.size:=⋯
  subst Jo;refine codeAny_builtin F.entry_extend_loop ?_;rw[aaF F.plain_extend_loop _];show Κ _ A.in1 (pyNext (.ref z) >>= _) _ _ s;have he:xs[min xs.size ys.size]? = Φ∨ys[min xs.size ys.size]? = Φ:=by
   by_cases h:xs.size<=ys.size
   ·exact .inl (Array.getElem?_eq_none ⋯)
   ·exact .inr (Array.getElem?_eq_none ⋯)
  have fin:∀ h',(∀ a o,a≠z->a≠TO->a≠i->a≠j->s.heap.get? a=Δ o->h'.get? a=Δ o)->R (.ok (.ret res)) {s with heap:=h'}:=fun h' kp=>by
   refine hR h' s.toks Ts c (fun a o a1 a2 a3 a4 _ e=>kp a o a1 a2 a3 a4 e) (kp S _ Sz SO Si Sj hS) st.len st.nd fun k T e=>?_;obtain⟨t1,x,y,t2,t3,t4⟩:=st.at_ k T e;have ne:∀ a,a < b->T≠a:=fun a ha z=>by rw[z] at t1;omega
   exact⟨t1,x,y,t2,t3,kp T _ (ne z bz) (ne TO bO) (ne i bi) (ne j bj) t4⟩
  obtain⟨a,b',hO⟩:=st.O;rcases st.zp with hz|⟨T,f,hz,hT⟩
  ·refine a_ (JO (A:=A.in1) hh D hz st.I hO st.ci st.cj st.sl st.sm he fun h' kp=>?_);exact e_ (fin h' fun a o a1 a2 a3 a4 e=>kp a o a1 a2 a3 a4 e)
  ·obtain⟨k,La⟩:=aaz.mp hT;obtain⟨_,x,y,_,_,MM⟩:=st.at_ k T La;refine a_ (rF (A:=A.in1) hh D hz MM st.I st.ci st.cj st.sl st.sm he fun h' kp=>?_);exact e_ (fin h' fun a o a1 _ a3 a4 e=>kp a o a1 a3 a4 e)
 | succ k ih=>
  intro n s Ts c hk hi st hb hS hR;have Gr:n < min xs.size ys.size:=⋯
  have b1:n < xs.size:=C_ Gr (Nat.min_le_left ..);have b2:n < ys.size:=C_ Gr (Nat.min_le_right ..);have g1:=Array.getElem?_eq_getElem b1;have g2:=Array.getElem?_eq_getElem b2;refine codeAny_builtin F.entry_extend_loop ?_;rw[aaF F.plain_extend_loop _];show Κ _ A.in1 (pyNext (.ref z) >>= _) _ _ s;have Sd:s.heap.objs.size∉Ts:=fun hm=>by obtain⟨k,La⟩:=aaz.mp hm;obtain⟨_,x,y,_,_,MM⟩:=st.at_ k _ La;exact absurd (j_ MM) (T_ _)
  have fin:∀ h',(dX h' z TI TO s.heap.objs.size Ξ∨∃ T f,dX h' z TI TO T f/\T∈Ts)->(∃ a b,IsPair h' TO a b)->It p h' i l (n+1)->It q h' j m (n+1)->IsPair h' s.heap.objs.size xs[n] ys[n]->h'.objs.size=s.heap.objs.size+1->(∀ a o,a≠z->a≠TO->a≠i->a≠j->s.heap.get? a=Δ o->h'.get? a=Δ o)->
    Κ (Μ prog w) A.in1 (updateSeq S (·.push (.ref s.heap.objs.size)) >>= fun _=>again (.builtin "list.extend.loop" ⟨[.ref S,.ref z,res],[]⟩)) (fun fin s'=>match fin with|.done f=>R (.ok f) s'|.again c'=>c'.quiet=Θ/\codeAny (Μ prog w) A c' R s') (fun e s'=>R (.error e) s') {s with heap:=h'}:=by
   intro h' hz hO ci cj hT sz kp;have HH:=kp S _ Sz SO Si Sj hS;have hsz:(Ts.map θ).toArray.size=n:=by simp[st.len]
   refine a_ (wpAny_updateSeq HH rfl (e_ ⟨plainId_quiet F.plain_extend_loop _,?_⟩) (by rw[hsz];omega) (by show ((Ts.map θ).toArray.push _).size<=Ζ+1;rw[Array.size_push,hsz];omega));have Ql:(h'.update S (ι fun x=>x.push (θ s.heap.objs.size))).get? S=Δ (ι (fun x=>x.push (θ s.heap.objs.size)) {cls:=.type "list",dict:=Φ,data:=.seq (Ts.map θ).toArray c,slots:=#[]}):=aao _ HH rfl;have ar:(Ts.map θ).toArray.push (θ s.heap.objs.size)=((Ts++[s.heap.objs.size]).map θ).toArray:=by simp
   obtain⟨c2,Yj⟩:∃ c2,(h'.update S (ι fun x=>x.push (θ s.heap.objs.size))).get? S=Δ {cls:=.type "list",dict:=Φ,data:=.seq (((Ts++[s.heap.objs.size]).map θ).toArray) c2,slots:=#[]}:=⟨_,by rw[Ql,<- ar];rfl⟩
   have KQ:∀ a o,a≠S->h'.get? a=Δ o->(h'.update S (ι fun x=>x.push (θ s.heap.objs.size))).get? a=Δ o:=fun a o ha e=>(aaf _ _ (Ne.symm ha)).trans e;have OA:(h'.update S (ι fun x=>x.push (θ s.heap.objs.size))).objs.size=h'.objs.size:=(aay ..).1;have nS:∀ T:Ω,b<=T->T≠S:=fun T MN z=>T_ _ (C_ bS (z ▸ MN:b<=S));refine ih (n+1) _ (Ts++[s.heap.objs.size]) c2 ⋯ Gr ⟨?_,KQ _ _ SI.symm (kp _ _ D.TIz D.TITO D.TIi1 D.TIi2 st.I),?_,ci.to fun o e=>KQ _ o Si.symm e,cj.to fun o e=>KQ _ o Sj.symm e,?_,?_,by rw[o_,st.len];rfl,?_,fun k T e=>?_⟩ (by show b<=(h'.update S _).objs.size;rw[OA,sz];omega) Yj fun OB tk Iz c' Sf a1 a2 a3 a4=>?_
   ·rcases hz with hz|⟨T,f,hz,hT⟩
    ·exact .inr ⟨_,Ξ,KQ _ _ Sz.symm hz,s_ _ (u_.mpr rfl)⟩
    ·exact .inr ⟨T,f,KQ _ _ Sz.symm hz,r_ _ hT⟩
   ·obtain⟨a,b',hO⟩:=hO;exact⟨a,b',KQ _ _ SO.symm hO⟩
   ·exact(st.sl.to fun o e=>kp _ o D.l1z D.l1TO D.l1i1 D.l1i2 e).to fun o e=>KQ _ o Sl.symm e
   ·exact(st.sm.to fun o e=>kp _ o D.l2z D.l2TO D.l2i1 D.l2i2 e).to fun o e=>KQ _ o Sm.symm e
   ·refine t_.mpr ⟨st.nd,by simp,fun a ha b hb e=>?_⟩;rw[u_.mp hb] at e;exact Sd (e ▸ ha)
   ·by_cases Nu:k < Ts.length
    ·rw[aan Nu] at e;obtain⟨t1,x,y,t2,t3,t4⟩:=st.at_ k T e;have ne:∀ a,a < b->T≠a:=fun a ha z=>by rw[z] at t1;omega
     exact⟨t1,x,y,t2,t3,KQ _ _ (nS T t1) (kp T _ (ne z bz) (ne TO bO) (ne i bi) (ne j bj) t4)⟩
    ·rw[aaw ⋯] at e;have Yk:k=n:=by have:=(x_.mp e).1;rw[W_] at this;have:=st.len;omega
     rw[show k - Ts.length=0 by have:=st.len;omega] at e;have e':s.heap.objs.size=T:=D_ e;subst e';rw[Yk];exact⟨hb,_,_,g1,g2,KQ _ _ (nS _ hb) hT⟩
   ·exact hR OB tk Iz c' (fun a o c1 c2 c3 c4 c5 e=>Sf a o c1 c2 c3 c4 c5 (KQ a o c5 (kp a o c1 c2 c3 c4 e))) a1 a2 a3 a4
  obtain⟨a,b',hO⟩:=st.O;rcases st.zp with hz|⟨T,f,hz,hT⟩
  ·refine a_ (JN (A:=A.in1) D hz st.I hO st.ci st.cj st.sl st.sm g1 g2 fun h' a1 a2 a3 a4 a5 a6 kp=>?_);exact fin h' (.inl a1) ⟨_,_,a2⟩ a3 a4 a5 a6 fun a o c1 c2 c3 c4 e=>kp a o c1 c2 c3 c4 e
  ·obtain⟨k',La⟩:=aaz.mp hT;obtain⟨_,x,y,_,_,MM⟩:=st.at_ k' T La;refine a_ (rE (A:=A.in1) D hz MM st.I st.ci st.cj st.sl st.sm g1 g2 fun h' a1 a3 a4 a5 a6 kp=>?_);exact fin h' (.inr ⟨T,Θ,a1,hT⟩) ⟨a,b',kp TO _ D.TOz D.TOi1 D.TOi2 hO⟩ a3 a4 a5 a6 fun a o c1 _ c3 c4 e=>kp a o c1 c3 c4 e
theorem nR:typeLookup (.type "zip") "__len__" = pure Φ:=by rw[typeLookup_type,builtinLookup_eq_fast];kernel_rfl
theorem mh:typeLookup (.type "zip") "__length_hint__" = pure Φ:=by rw[typeLookup_type,builtinLookup_eq_fast];kernel_rfl
theorem nT {p q:Kq}{z TI TO i j l m S:Ω}{xs ys:Array Ψ}{R:Result->Α->Prop}(hh:A.handled=Φ)(D:ZipApart z TI TO i j l m)(res:Ψ)(c₀:Nat)(hz:IsZip s.heap z TI TO .none)(hI:IsPair s.heap TI (.ref i) (.ref j))(hO:∃ a b,IsPair s.heap TO a b)(ci:It p s.heap i l 0)(cj:It q s.heap j m 0)(sl:Sq p s.heap l xs)(sm:Sq q s.heap m ys)
  (hS:s.heap.get? S=Δ {cls:=.type "list",data:=.seq #[] c₀}) (hn:min xs.size ys.size<=Ζ) (Sz:S≠z) (SI:S≠TI) (SO:S≠TO) (Si:S≠i) (Sj:S≠j) (Sl:S≠l) (Sm:S≠m)
  (hR:∀ (h':Heap) (tk:Nat) (Iz:List Ω) (c':Nat),(∀ a o,a≠z->a≠TO->a≠i->a≠j->a≠S->s.heap.get? a=Δ o->h'.get? a=Δ o)->h'.get? S=Δ {cls:=.type "list",dict:=Φ,data:=.seq (Iz.map θ).toArray c',slots:=#[]}->Iz.length=min xs.size ys.size->Iz.Nodup->(∀ (k:Nat) (T:Ω),Iz[k]? = Δ T->s.heap.objs.size<=T/\∃ x y,xs[k]? = Δ x/\ys[k]? = Δ y/\IsPair h' T x y)->R (.ok (.ret res)) {s with heap:=h',toks:=tk}) :
  Κ (Μ prog w) A.in1 (Χ (.ref S) (.ref z) res)
   (fun fin s'=>match fin with|.done f=>R (.ok f) s'|.again c'=>c'.quiet=Θ/\codeAny (Μ prog w) A c' R s') (fun e s'=>R (.error e) s') s:=by
 have ty:s.TypeIs (.ref z) "zip":=⟨_,hz,rfl⟩
 unfold Χ;refine a_ (wpAny_typeOf ty ?_);have h1:Builtin.List.listSameRef (.ref S) (.ref z)=Ξ:=by simp[Builtin.List.listSameRef,Sz]
 have h2:(Value.type "zip" == Value.type "list")=Ξ:= nofun
 have h3:(Value.type "zip" == Value.type "tuple")=Ξ:= nofun
 simp only[h1,h2,h3,Bool.or_false,aaq,if_false];refine a_ (wpAny_pyIter_zip hz ?_);refine a_ (M_ ?_);unfold Builtin.List.listLengthHint;refine a_ (wpAny_specialOf ty nR ?_);show Κ _ A.in1 (specialOf (θ z) (Ρ "__length_hint__") >>= _) _ _ _;refine a_ (wpAny_specialOf ty mh (e_ ?_))
 show Κ _ A.in1 (rule "list.extend.makes-room" >>= fun _=>Builtin.List.listTouch (.ref S) >>= fun _=>
  again (.builtin "list.extend.loop" ⟨[.ref S,.ref z,res],[]⟩)) _ _ _
 refine a_ (wpAny_rule ?_);refine a_ ?_;show Κ _ A.in1 (updateSeq S (·.push .none) >>= fun _=>updateSeq S (·.pop)) _ _ _;refine a_ (wpAny_updateSeq hS rfl ?_);have Iw:=aao (ι (·.push Value.none)) hS rfl;refine wpAny_updateSeq (hz:=by seq_fits) Iw rfl ?_;have OC:=aao (ι (·.pop)) Iw rfl;have Hr:∀ b o,b≠S->s.heap.get? b=Δ o->((s.heap.update S (ι (·.push Value.none))).update S (ι (·.pop))).get? b=Δ o:=
  fun b o hb e=>(aaf _ _ (Ne.symm hb)).trans ((aaf _ _ (Ne.symm hb)).trans e)
 have OA:((s.heap.update S (ι (·.push Value.none))).update S (ι (·.pop))).objs.size=s.heap.objs.size:=((aay ..).1).trans (aay ..).1;obtain⟨a,b',hO⟩:=hO
 refine e_ ⟨plainId_quiet F.plain_extend_loop _,loop (b:=s.heap.objs.size) hh D res hn (j_ hz) (j_ hI) (j_ hO) ci.lt cj.lt sl.lt sm.lt (j_ hS) Sz SI SO Si Sj Sl Sm _ 0 _ [] _ rfl (aab _)
  ⟨.inl (Hr _ _ Sz.symm hz),Hr _ _ SI.symm hI,⟨a,b',Hr _ _ SO.symm hO⟩,ci.to fun o e=>Hr _ o Si.symm e,cj.to fun o e=>Hr _ o Sj.symm e,sl.to fun o e=>Hr _ o Sl.symm e,sm.to fun o e=>Hr _ o Sm.symm e,rfl,List.nodup_nil,fun k T e=>by simp at e⟩ (by show s.heap.objs.size<=((s.heap.update S _).update S _).objs.size;rw[OA];exact m_ _) OC fun h' tk Iz c' kp a1 a2 a3 a4=>?_⟩
 exact hR h' tk Iz c' (fun a o c1 c2 c3 c4 c5 e=>kp a o c1 c2 c3 c4 c5 (Hr a o c5 e)) a1 a2 a3 a4
theorem Im {p q:Kq}{z TI TO i j l m:Ω}{xs ys:Array Ψ}{Q:Ψ->Α->Prop}(hh:A.handled=Φ)(D:ZipApart z TI TO i j l m)(hz:IsZip s.heap z TI TO .none)(hI:IsPair s.heap TI (.ref i) (.ref j))(hO:∃ a b,IsPair s.heap TO a b)(ci:It p s.heap i l 0)(cj:It q s.heap j m 0)(sl:Sq p s.heap l xs)(sm:Sq q s.heap m ys)(hn:min xs.size ys.size<=Ζ)
  (hQ:∀ (h':Heap) (tk:Nat) (Iz:List Ω) (c':Nat),(∀ a o,a≠z->a≠TO->a≠i->a≠j->s.heap.get? a=Δ o->h'.get? a=Δ o)->h'.get? s.heap.objs.size=Δ {cls:=.type "list",dict:=Φ,data:=.seq (Iz.map θ).toArray c',slots:=#[]}->Iz.length=min xs.size ys.size->Iz.Nodup->(∀ (k:Nat) (T:Ω),Iz[k]? = Δ T->s.heap.objs.size < T/\∃ x y,xs[k]? = Δ x/\ys[k]? = Δ y/\IsPair h' T x y)->Q (.ref s.heap.objs.size) {s with heap:=h',toks:=tk}) :
  Κ (Μ prog w) A (call (.type "list") [.ref z]) Q E s:=by
 obtain⟨a0,b0,hO⟩:=hO;have lz:z < s.heap.objs.size:=j_ hz;have lI:TI < s.heap.objs.size:=j_ hI;have lO:TO < s.heap.objs.size:=j_ hO;refine callType_codes (Q₁:=fun obj F7=>obj=.ref s.heap.objs.size/\F7 = {s with heap:=s.heap.push {cls:=.type "list",data:=.seq #[]}}) F.called_list (F.typeCall_list_1 _) F.entry_list_init
  (code_list_new _ ⟨rfl,rfl⟩) fun obj F7 Ka=>?_
 obtain⟨rfl,rfl⟩:=Ka;have hS:(s.heap.push {cls:=.type "list",data:=.seq #[]}).get? s.heap.objs.size=Δ {cls:=.type "list",data:=.seq #[]}:=w_ _ rfl;refine⟨⟨_,hS,rfl⟩,F.args_list_init_2 _ _,?_⟩;show Κ _ _ (do let old <- Builtin.List.listItems (.ref s.heap.objs.size);Builtin.List.listUpdate (.ref s.heap.objs.size) (fun _=>#[]);letGo old.toList.reverse;Χ (.ref s.heap.objs.size) (.ref z) .none) _ _ _;refine a_ ?_;unfold Builtin.List.listItems;refine a_ (X_ hS rfl (e_ ?_));show Κ _ _ (updateSeq s.heap.objs.size (fun _=>#[]) >>= fun _=>letGo (#[]:Array Ψ).toList.reverse >>= fun _=>Χ (.ref s.heap.objs.size) (.ref z) .none) _ _ _;refine a_ (wpAny_updateSeq hS rfl ?_);have Iw:=aao (ι (fun _=>(#[]:Array Ψ))) hS rfl;have Hr:∀ b o,b≠s.heap.objs.size->s.heap.get? b=Δ o->((s.heap.push {cls:=.type "list",data:=.seq #[]}).update s.heap.objs.size (ι (fun _=>(#[]:Array Ψ)))).get? b=Δ o:=
  fun b o hb e=>(aaf _ _ (Ne.symm hb)).trans (l_ _ e)
 have OA:((s.heap.push {cls:=.type "list",data:=.seq #[]}).update s.heap.objs.size (ι (fun _=>(#[]:Array Ψ)))).objs.size=s.heap.objs.size+1:=((aay ..).1).trans (U_ ..);refine a_ (wpAny_letGo ?_);refine nT (A:=A.in1) hh D .none _ (Hr _ _ (n_ lz) hz) (Hr _ _ (n_ lI) hI) ⟨a0,b0,Hr _ _ (n_ lO) hO⟩ (ci.to fun o e=>Hr _ o (n_ ci.lt) e) (cj.to fun o e=>Hr _ o (n_ cj.lt) e) (sl.to fun o e=>Hr _ o (n_ sl.lt) e) (sm.to fun o e=>Hr _ o (n_ sm.lt) e) Iw hn (Q_ lz) (Q_ lI) (Q_ lO) (Q_ ci.lt) (Q_ cj.lt) (Q_ sl.lt) (Q_ sm.lt) fun h' tk Iz c' kp a1 a2 a3 a4=>?_;refine⟨rfl,hQ h' tk Iz c' (fun a o c1 c2 c3 c4 e=>kp a o c1 c2 c3 c4 (n_ (j_ e)) (Hr a o (n_ (j_ e)) e)) a1 a2 a3 fun k T e=>?_⟩;obtain⟨t1,t2⟩:=a4 k T e;have t1:((s.heap.push {cls:=.type "list",data:=.seq #[]}).update s.heap.objs.size (ι (fun _=>(#[]:Array Ψ)))).objs.size<=T:=t1;rw[OA] at t1;exact⟨t1,t2⟩
end
end L2.Zp
namespace L2
open PySem PySem.Spec PyProof.Rows
noncomputable def kJ (H:Hp):List (Ω×HO)->Hp
 | []=>H
 | p::L=>upd (kJ H L) p.1 p.2
theorem mi {H:Hp}{a:Ω}:∀ {L:List (Ω×HO)},a∉L.map (·.1)->kJ H L a=H a
 | [],_=>rfl
 | p::L,h=>by rw[b_,k_,not_or] at h;show upd (kJ H L) p.1 p.2 a=_;rw[cu h.1,mi h.2]
theorem kK {H:Hp}{a:Ω}{o:HO}:∀ {L:List (Ω×HO)},(L.map (·.1)).Nodup->(a,o)∈L->kJ H L a=Δ o
 | [],_,h=>by simp at h
 | p::L,nd,h=>by
  rw[b_,K_] at nd;show upd (kJ H L) p.1 p.2 a=_;rcases k_.mp h with rfl|h
  ·exact cv
  ·have:a≠p.1:=fun z=>nd.1 (z ▸ List.mem_map.mpr ⟨(a,o),h,rfl⟩);rw[cu this,kK nd.2 h]
theorem qt {H:Hp}{a:Ω}{u:HO}{L:List (Ω×HO)}(h:kJ H L a=Δ u)(n:H a=Φ):∃ p∈L,p.1=a/\p.2=u:=by
 induction L with
 | nil=>rw[show kJ H [] a=H a from rfl,n] at h;cases h
 | cons p L ih=>
  have h:upd (kJ H L) p.1 p.2 a=Δ u:=h;by_cases e:a=p.1
  ·rw[e,cv] at h;exact⟨p,.head _,e.symm,D_ h⟩
  ·rw[cu e] at h;obtain⟨q,hq,h1⟩:=ih h;exact⟨q,.tail _ hq,h1⟩
section
variable {X:Cx}{pins:List (Ω×Obj)}{σ:St}{H H':Hp}{s:Α}{h':Heap}
theorem Inv.MO {t':Nat}(I:Inv X pins σ H s)(k:∀ b o,s.heap.get? b=Δ o->h'.get? b=Δ o)(L4:∀ b,b < s.heap.objs.size->H' b=H b)(new:∀ b u,s.heap.objs.size<=b->H' b=Δ u->cY X.prog X.w H' h' b u):Inv X pins σ H' {s with heap:=h',toks:=t'}:=by
 have hs:∀ b u,H b=Δ u->H' b=Δ u:=fun b u q=>by rw[L4 b (Nat.lt_of_not_le fun z=>by rw[I.Ge.fresh z] at q;cases q)];exact q
 refine I.step (g':=s.gens) (d':=s.drawn) (ch:=[]) (fun b hb=>by simp at hb) (fun b o _ _ hc e _=>k b o e) (fun b o _ _ hc e _=>⟨o.slots,k b o e⟩) (fun b o _ e n=>by rw[L4 b (j_ e)];exact n)
  (fun b o hc e=>⟨o,k b o e⟩) (fun b xs q=>hs _ _ q) (fun b u xs q=>hs _ _ q) (fun b ps q=>⟨#[],by rw[hs _ _ q];simp⟩) (fun m hm=>?_) (fun b u e=>?_) I.bare
 ·obtain⟨o,es,ep,ho,r⟩:=hm;exact⟨o,es,ep,k _ o ho,r⟩
 ·by_cases hb:s.heap.objs.size<=b
  ·exact new b u hb e
  ·rw[L4 b (Nat.lt_of_not_le hb)] at e;exact(I.Ge b u e).HX (fun c v hc q=>k c v q) (fun c q=>hs _ _ q) fun c xs q=>hs _ _ q
theorem mj:∀ Ts:List Ω,Vals (Ts.map V.ref) (Ts.map θ)
 | []=>.nil
 | T::Ts=>.cons rfl (mj Ts)
end
def Cm (K:Frag)(ta:TA):TE:=fun σ H Q=>ta σ H fun vs H1=>∃ p q l m xs ys,vs=[.ref l,.ref m]/\Jx K H1 p l xs/\Jx K H1 q m ys/\min xs.length ys.length<=Ζ/\
 ∀ (Ts:List Ω) (A:Ω) (H':Hp),cz H1 H'->H1 A=Φ->H' A=Δ (.lst (Ts.map V.ref))->Ts.length=min xs.length ys.length->(∀ (k:Nat) (T:Ω),Ts[k]? = Δ T->∃ x y,xs[k]? = Δ x/\ys[k]? = Δ y/\H' T=Δ (.tup [x,y]))->Q (.ref A) H'
theorem wo {X:Cx}{a b:Expr}{ta:TA}{p p' pos pos':Pos}(hc:X.calm=Θ)(g1:Gl X "list") (m1:X.mg "list" = Φ) (hg:Gl X "zip") (hm:X.mg "zip" = Φ) (ha:PA X [a,b] ta) (hs:Ν [a,b] X.env=[(Ξ,eval a X.env),(Ξ,eval b X.env)]) (IY:Ν [b] X.env=[(Ξ,eval b X.env)]) :
  PE X (.Call (.Name "list" p) [.Call (.Name "zip" p') [a,b] [] pos'] [] pos) (Cm X.K ta):=by
 intro pins s σ H Q I h;refine aaD (fq (u:=.type "list") I g1 m1 (by decide +kernel) ?_ nofun nofun);refine aav ?_ rfl rfl;show Κ _ _ (spliced ((Ξ,eval (.Call (.Name "zip" p') [a,b] [] pos') X.env)::backTo pos (Ν [] X.env))) _ _ s;refine Calls.spliced_cons ?_;refine Call_ (fq I hg hm boot_zip (aav (Gf (ha pos' pins s σ H _ I h) fun us s1 ⟨vs,H1,I1,r1,q1⟩=>?_) (by rw[hs,IY]) (by rw[IY];rfl)));obtain⟨k1,k2,l,m,xs,ys,e,g1,g2,OE,q⟩:=q1;subst e;cases r1 with
 | cons r rr=>
  cases rr with
  | cons r' rr=>
   cases rr;cases r;cases r';obtain⟨Je,Kb,p1⟩:=I1.L9 g1;obtain⟨GP,Iy,p2⟩:=I1.L9 g2;have l1:=p1.lt;have l2:=p2.lt;refine Zp.Jd p1 p2 fun h2 b1 b2 b3 b4 b5 b6 b7=>?_;refine Calls.spliced_nil ?_;have Yl:=Kb.length;have Ym:=Iy.length;have hsz:min Je.toArray.size GP.toArray.size=min xs.length ys.length:=by simp[Yl,Ym]
   refine Zp.Im (s:={s1 with heap:=h2}) (show X.A.handled=Φ from I.ok.hd hc) (mf _ l m l1 l2) b1 b2 ⟨_,_,b3⟩ b4 b5 (p1.to fun o e=>b7 _ o e) (p2.to fun o e=>b7 _ o e) (by rw[hsz];exact OE) fun h' tk Ts c' kp a1 a2 a3 a4=>?_;have a1:h'.get? h2.objs.size=Δ {cls:=.type "list",dict:=Φ,data:=.seq (Ts.map θ).toArray c',slots:=#[]}:=a1;have Yn:∀ b o,s1.heap.get? b=Δ o->h'.get? b=Δ o:=fun b o e=>by have lt:=j_ e;exact kp b o (n_ (C_ lt (aaj _ _))) (n_ (C_ lt (aaj _ _))) (n_ lt) (n_ (C_ lt (aaj _ _))) (b7 b o e)
   have tT:∀ T∈Ts,h2.objs.size < T:=fun T hT=>by obtain⟨k,hk⟩:=aaz.mp hT;exact(a4 k T hk).1
   have OF:min Je.toArray.size GP.toArray.size=Ts.length:=a2.symm;have lM:((xs.zip ys).map fun xy:V×V=>HO.tup [xy.1,xy.2]).length=Ts.length:=by rw[i_,List.length_zip,<- hsz,OF]
   have keys:((Ts.zip ((xs.zip ys).map fun xy:V×V=>HO.tup [xy.1,xy.2])).map (·.1))=Ts:=List.map_fst_zip (by rw[lM];exact m_ _);have Yo:∀ (T:Ω) (o:HO),(T,o)∈Ts.zip ((xs.zip ys).map fun xy:V×V=>HO.tup [xy.1,xy.2])->∃ (k:Nat) (x y:V),Ts[k]? = Δ T/\xs[k]? = Δ x/\ys[k]? = Δ y/\o=.tup [x,y]:=fun T o hm=>by obtain⟨k,hk⟩:=aaz.mp hm;obtain⟨h1,h2⟩:=List.getElem?_zip_eq_some.mp hk;rw[A_] at h2;obtain⟨xy,h3,h4⟩:=aaE.mp h2;obtain⟨h5,h6⟩:=List.getElem?_zip_eq_some.mp h3;exact⟨k,xy.1,xy.2,h1,h5,h6,h4.symm⟩
   have nd:(((h2.objs.size,HO.lst (Ts.map V.ref))::Ts.zip ((xs.zip ys).map fun xy:V×V=>HO.tup [xy.1,xy.2])).map (·.1)).Nodup:=by rw[b_,keys,K_];exact⟨fun z=>T_ _ (tT _ z),a3⟩
   have fresh:∀ b,s1.heap.objs.size<=b->H1 b=Φ:=fun b hb=>I1.Ge.fresh hb;have hA:s1.heap.objs.size<=h2.objs.size:=by rw[b6];exact aaj _ _
   have L4:∀ b,b < s1.heap.objs.size->kJ H1 ((h2.objs.size,HO.lst (Ts.map V.ref))::Ts.zip ((xs.zip ys).map fun xy:V×V=>HO.tup [xy.1,xy.2])) b=H1 b:=fun b hb=>mi (by
    rw[b_,keys,k_,not_or]
    exact⟨n_ (C_ hb hA),fun z=>T_ _ (C_ hb (O_ hA (Nat.le_of_lt (tT _ z))))⟩)
   have I2:=I1.MO (t':=tk) Yn L4 fun b u hb hu=>by
    obtain⟨pr,hp,e1,e2⟩:=qt hu (fresh b hb);subst e1 e2;rcases k_.mp hp with rfl|hp
    ·exact(show cY X.prog X.w _ h' h2.objs.size (.lst (Ts.map V.ref)) from ⟨by rw[i_,<- OF,hsz];exact OE,Ts.map θ,c',mj Ts,a1⟩)
    ·obtain⟨T,o⟩:=pr;obtain⟨k,x,y,t1,t2,t3,rfl⟩:=Yo T o hp;obtain⟨_,u1,u2,u3,u4,u5⟩:=a4 k T t1;obtain⟨v1,Yp,r1⟩:=Kb.get t2;obtain⟨v2,Yq,r2⟩:=Iy.get t3;rw[List.getElem?_toArray,Yp] at u3;rw[List.getElem?_toArray,Yq] at u4;cases u3;cases u4;exact(show cY X.prog X.w _ h' T (.tup [x,y]) from ⟨by show 2<=Ζ;decide,[_,_],.cons r1 (.cons r2 .nil),⟨_,u5,rfl,_,rfl⟩⟩)
   refine⟨.ref _,_,I2,rfl,q Ts h2.objs.size _ (fun b u e=>?_) (fresh _ hA) (kK nd (.head _)) (by rw[<- OF,hsz]) fun k T hk=>?_⟩
   ·rw[L4 b (Nat.lt_of_not_le fun z=>by rw[fresh b z] at e;cases e)];exact e
   ·have Nu:k < Ts.length:=(x_.mp hk).1;have hx:k < xs.length:=by rw[<- OF,hsz] at Nu;exact C_ Nu (Nat.min_le_left ..)
    have hy:k < ys.length:=by rw[<- OF,hsz] at Nu;exact C_ Nu (Nat.min_le_right ..)
    refine⟨xs[k],ys[k],y_ hx,y_ hy,kK nd (.tail _ ?_)⟩;refine aaz.mpr ⟨k,List.getElem?_zip_eq_some.mpr ⟨hk,?_⟩⟩;rw[A_,show (xs.zip ys)[k]? = Δ (xs[k],ys[k]) from List.getElem?_zip_eq_some.mpr ⟨y_ hx,y_ hy⟩];rfl
end L2
namespace L2.Se
open PySem
structure Cut (xs:Array Nat)(j p:Nat):Prop where
 le:p<=xs.size
 lo:∀ i x:Nat,i < p->xs[i]? = Δ x->x < j
 hi:∀ i x:Nat,p<=i->xs[i]? = Δ x->j<=x
def Up (xs:Array Nat):Prop:=∀ i k x y:Nat,i < k->xs[i]? = Δ x->xs[k]? = Δ y->x < y
theorem rG {xs:Array Nat}{j:Nat}(u:Up xs):∀ (fuel lo hi:Nat),hi<=lo+fuel->lo<=hi->hi<=xs.size->(∀ i x,i < lo->xs[i]? = Δ x->x < j)->(∀ i x,hi<=i->xs[i]? = Δ x->j<=x)->Cut xs j (SetTable.below.go xs j fuel lo hi):=by
 intro fuel
 induction fuel with
 | zero=>
  intro lo hi h1 h2 h3 h4 h5;have e:lo=hi:=⋯
  subst e;exact⟨h3,h4,h5⟩
 | succ f ih=>
  intro lo hi h1 h2 h3 h4 h5;unfold SetTable.below.go;by_cases hl:lo < hi
  ·rw[f_ hl];have hm:(lo+hi) / 2 < xs.size:=⋯
   have e:xs[(lo+hi) / 2]? = Δ xs[(lo+hi) / 2]:=by simp[hm]
   have eg:xs.getD ((lo+hi) / 2) j=xs[(lo+hi) / 2]:=by simp[Array.getD,hm]
   dsimp only;rw[eg];by_cases hx:xs[(lo+hi) / 2] < j
   ·rw[f_ hx];refine ih _ _ ⋯ ⋯ h3 (fun i x Jf MP=>?_) h5;by_cases Sh:i=(lo+hi) / 2
    ·subst Sh;rw[e] at MP;cases MP;exact hx
    ·exact Nat.lt_trans (u i _ x _ ⋯ MP e) hx
   ·rw[d_ hx];refine ih _ _ ⋯ ⋯ ⋯ h4 (fun i x Jf MP=>?_);by_cases Sh:i=(lo+hi) / 2
    ·subst Sh;rw[e] at MP;cases MP;omega
    ·have:=u _ i _ x ⋯ e MP;omega
  ·rw[d_ hl];have e:lo=hi:=⋯
   subst e;exact⟨h3,h4,h5⟩
theorem gU {xs:Array Nat}(u:Up xs)(j:Nat):Cut xs j (SetTable.below xs j):=
 rG u xs.size 0 xs.size ⋯ (aab _) (m_ _) (fun i x h=>absurd h (Nat.not_lt_zero i)) (fun i x h hx=>by
  have:=(Array.getElem?_eq_some_iff.mp hx).1
  omega)
theorem wq {α:Type}{xs:Array α}{p:Nat}{x:α}(hp:p<=xs.size)(i:Nat):(SetTable.insertAt xs p x)[i]? = if i < p then xs[i]? else if i=p then Δ x else xs[i - 1]?:=by
 rw[<- aar,SetTable.toList_insertAt];by_cases h1:i < p
 ·rw[f_ h1,aan (by simp;omega),List.getElem?_take,f_ h1,aar]
 ·rw[d_ h1,aaw (by simp;omega)];have hl:(xs.toList.take p).length=p:=by simp;omega
  rw[hl];by_cases h2:i=p
  ·subst h2;rw[f_ rfl,Nat.sub_self];rfl
  ·rw[d_ h2];obtain⟨k,rfl⟩:∃ k,i=p+k+1:=⟨i - p - 1,⋯⟩
   rw[show p+k+1 - p=k+1 by omega,aaG,List.getElem?_drop,aar];rfl
theorem Az {xs:Array Nat}{j p:Nat}(u:Up xs)(c:Cut xs j p)(hn:xs[p]?≠Δ j):Up (SetTable.insertAt xs p j):=by
 intro i k x y Sk hx hy;rw[wq c.le] at hx hy;have VH:∀ m z,p<=m->xs[m]? = Δ z->j < z:=fun m z hm hz=>by
  have h1:=c.hi m z hm hz;by_cases e:m=p
  ·subst e;have:j≠z:=fun e=>hn (by rw[hz,e]);omega
  ·have Gr:m < xs.size:=(Array.getElem?_eq_some_iff.mp hz).1;have hp:p < xs.size:=⋯
   have ep:xs[p]? = Δ xs[p]:=by simp[hp]
   have h2:=c.hi p _ (m_ _) ep;have:=u p m _ z ⋯ ep hz;omega
 by_cases a1:i < p
 ·rw[f_ a1] at hx;have Yr:=c.lo i x a1 hx;by_cases b1:k < p
  ·rw[f_ b1] at hy;exact u i k x y Sk hx hy
  ·rw[d_ b1] at hy;by_cases b2:k=p
   ·rw[f_ b2] at hy;cases hy;exact Yr
   ·rw[d_ b2] at hy;have:=VH (k - 1) y ⋯ hy;omega
 ·rw[d_ a1] at hx;by_cases a2:i=p
  ·rw[f_ a2] at hx;cases hx;rw[d_ ⋯,d_ ⋯] at hy;exact VH (k - 1) y ⋯ hy
  ·rw[d_ a2] at hx;rw[d_ ⋯,d_ ⋯] at hy;exact u (i - 1) (k - 1) x y ⋯ hx hy
theorem rH (n:Nat):Up (Array.range n):=by intro i k x y h hx hy;obtain⟨h1,e1⟩:=Array.getElem?_eq_some_iff.mp hx;obtain⟨h2,e2⟩:=Array.getElem?_eq_some_iff.mp hy;simp at e1 e2;omega
structure Tb (led:Bool)(t:SetTable):Prop where
 up:Up t.place
 dm:t.dummies = #[]
 ld:t.led=led
theorem nU {t:SetTable}{j:Nat}(h:t.slot j=.empty):t.place[SetTable.below t.place j]?≠Δ j:=by intro e;unfold SetTable.slot at h;dsimp only at h;rw[f_ (by rw[e];exact beq_self_eq_true _)] at h;cases h
theorem has_none (j:Nat):SetTable.has #[] j=Ξ:=by unfold SetTable.has;rw[show (#[]:Array Nat)[SetTable.below #[] j]? = Φ by simp];rfl
theorem nV {t:SetTable}(hd:t.dummies = #[])(j:Nat):t.slot j≠.dummy:=by
 intro h;unfold SetTable.slot at h;dsimp only at h;rw[hd,has_none] at h;split at h
 ·cases h
 ·rw[d_ p_] at h;cases h
theorem qu (t:SetTable)(p:SetTable.Probe):(t.advance p).dummy=p.dummy:=by unfold SetTable.advance;split<;>rfl
theorem rJ {t:SetTable}(hd:t.dummies = #[]){h:Int}{f:Nat->Int}(hh:∀ i,(f i == h)=Ξ):∀ (fuel:Nat) (p:SetTable.Probe) (m:SetTable.Met),p.dummy=Φ->SetTable.probe.go t f h fuel p=Δ m->∃ j,m=.empty j Φ/\t.slot j=.empty:=by
 intro fuel
 induction fuel with
 | zero=>intro p m _ e;cases e
 | succ n ih=>
  intro p m hp e;unfold SetTable.probe.go at e;cases hs:t.slot p.j with
  | empty=>rw[hs] at e;dsimp only at e;rw[hp] at e;cases e;exact⟨_,rfl,hs⟩
  | dummy=>exact absurd hs (nV hd _)
  | live i=>rw[hs] at e;dsimp only at e;rw[hh,d_ p_] at e;exact ih _ m (by rw[qu];exact hp) e
theorem qv {t:SetTable}(hd:t.dummies = #[]){h:Int}{j:Nat}{b:Bool}(e:t.freeSlot h=Δ (j,b)):t.slot j=.empty/\b=Ξ:=by
 unfold SetTable.freeSlot at e;cases q:t.probe (fun _=>h+1) h (t.probeStart h) with
 | none=>rw[q] at e;cases e
 | some m=>obtain⟨j',rfl,hs⟩:=rJ hd (f:=fun _=>h+1) (h:=h) (fun i=>by rw[beq_eq_false_iff_ne];omega) _ _ m rfl q;rw[q] at e;cases e;exact⟨hs,rfl⟩
theorem gm {led:Bool}{t:SetTable}(T:Tb led t)(n:Nat):Tb led (t.standIn n):=⟨rH n,rfl,T.ld⟩
theorem Co {led:Bool}{t:SetTable}(T:Tb led t)(n:Nat):Tb led (t.orStandIn n):=by
 unfold SetTable.orStandIn;split
 ·exact T
 ·exact gm T n
theorem AA {led:Bool}{t:SetTable}(T:Tb led t){j:Nat}(hs:t.slot j=.empty):Tb led (t.put j).1:=by refine⟨Az T.up (gU T.up j) (nU hs),?_,T.ld⟩;show (if SetTable.has t.dummies j then _ else t.dummies) = #[];rw[T.dm,has_none];rfl
theorem AB {led:Bool}{t:SetTable}(T:Tb led t)(es:Array (Int×Ψ))(h:Int)(x:Ψ):Tb led (layNew t es h x).2.1:=by
 unfold layNew;cases q:t.freeSlot h with
 | none=>exact gm T _
 | some p=>obtain⟨j,b⟩:=p;exact Co (AA T (qv T.dm q).1) _
theorem rK (o:Nat->Option Nat)(l:List Nat):((l.filterMap fun j=>(o j).map (j,·)).map (·.1))=l.filter fun j=>(o j).isSome:=by
 induction l with
 | nil=>rfl
 | cons a l ih=>
  rw[List.filterMap_cons,List.filter_cons];cases o a with
  | none=>simpa using ih
  | some b=>simpa using ih
theorem wt {l:List Nat}(h:l.Pairwise (· < ·)):Up l.toArray:=by
 intro i k x y Sk hx hy;have G9:l[i]? = Δ x:=by simpa using hx
 have JQ:l[k]? = Δ y:=by simpa using hy
 obtain⟨h1,e1⟩:=x_.mp G9;obtain⟨h2,e2⟩:=x_.mp JQ;have:=List.pairwise_iff_getElem.mp h i k h1 h2 Sk;omega
theorem wu {mask finger moves:Nat}{led plain:Bool}{hs:Array Int}{t:SetTable}{o:Array Nat}(e:SetTable.laid mask finger moves led plain hs=Δ (t,o)):Tb led t:=by
 unfold SetTable.laid at e;cases q:SetTable.layClean mask hs with
 | none=>rw[q] at e;cases e
 | some ow=>rw[q] at e;have e':=D_ e;cases e';refine⟨?_,rfl,rfl⟩;show Up (List.toArray (List.map _ (List.filterMap _ _)));rw[rK];exact wt (List.Pairwise.sublist List.filter_sublist List.pairwise_lt_range)
theorem rL {led:Bool}{t:SetTable}(T:Tb led t)(es:Array (Int×Ψ))(n:Nat):Tb led (relayAll t es n).2.1:=by
 unfold relayAll;cases q:t.relaid (es.map (·.1)) n with
 | none=>exact gm T _
 | some p=>
  obtain⟨t',o⟩:=p;dsimp only;split
  ·have:=wu q;rw[T.ld] at this;exact this
  ·exact gm T _
theorem rM {led:Bool}{t:SetTable}(T:Tb led t)(b:Bool):Tb led {t with plain:=b}:=⟨T.up,T.dm,T.ld⟩
theorem rN (f m:Nat)(led:Bool):Tb led (SetTable.fresh f m led):=⟨fun i k x y _ h=>by simp[SetTable.fresh] at h,rfl,rfl⟩
open PyProof.Rows
structure Ky (prog:Ε)(w:Β)(α:Type) [DecidableEq α] where
 knd:PySem.KeyKind prog w α
 mv:α->Tok->Ψ
 is:∀ k t,knd.is k (mv k t)=Θ
 sc:∀ k t,(mv k t).scannable=Θ
inductive Ar {α:Type}(mk:α->Tok->Ψ):List Ψ->List α->Prop
 | nil:Ar mk [] []
 | cons (n:α) (t:Tok) {vs:List Ψ}{ns:List α}:Ar mk vs ns->Ar mk (mk n t::vs) (n::ns)
theorem Ar.length {α:Type}{mk:α->Tok->Ψ}{vs:List Ψ}{ns:List α}(h:Ar mk vs ns):vs.length=ns.length:=by
 induction h with
 | nil=>rfl
 | cons _ _ _ ih=>rw[List.length_cons,List.length_cons,ih]
theorem Ar.at {α:Type} [Inhabited α]{mk:α->Tok->Ψ}:∀ {vs:List Ψ}{ns:List α},Ar mk vs ns->∀ (i:Nat) (v:Ψ),vs[i]? = Δ v->∃ t,v=mk (ns.getD i default) t
 | _,_,.nil,i,v,h=>by simp at h
 | _,_,.cons n t hr,0,v,h=>by simp at h;exact⟨t,by rw[<- h];rfl⟩
 | _,_,.cons n t hr,i+1,v,h=>by simp only[aaG] at h;obtain⟨t',e⟩:=Ar.at hr i v h;exact⟨t',by rw[e];rfl⟩
section
variable {prog:Ε}{w:Β}{α:Type} [DecidableEq α] [Inhabited α]{ky:Ky prog w α}{A:Ι}{E:Ψ->Α->Prop}{s:Α}
noncomputable abbrev vals (es:Array (Int×Ψ)):List Ψ:=es.toList.map (·.2)
structure He {prog:Ε}{w:Β}{α:Type} [DecidableEq α](ky:Ky prog w α)(led:Bool)(σ:List α)(o:Obj)(es:Array (Int×Ψ))(ep:Nat)(t:SetTable):Prop where
 ex:o.ExactSet
 da:o.data=.set es ep t
 el:ElemsOf ky.knd es.toList
 sb:es.size < scanBound
 fi:t.fits es.size=Θ
 tb:Tb led t
 pm:∃ ks,Ar ky.mv (vals es) ks/\ks.Perm σ
def fK {prog:Ε}{w:Β}{α:Type} [DecidableEq α](ky:Ky prog w α)(h:Heap)(a:Ω)(led:Bool)(σ:List α):Prop:=∃ o es ep t,h.get? a=Δ o/\He ky led σ o es ep t
theorem gq {vs OG:List Ψ}{ks:List α}(p:OG.Perm vs)(h:Ar ky.mv vs ks):∃ Ii,Ar ky.mv OG Ii/\Ii.Perm ks:=by
 induction p generalizing ks with
 | nil=>exact⟨ks,h,.refl _⟩
 | cons x _ ih=>
  cases h with
  | cons n t h=>obtain⟨Ii,h1,h2⟩:=ih h;exact⟨n::Ii,.cons n t h1,.cons n h2⟩
 | swap x y l=>
  cases h with
  | cons n t h=>
   cases h with
   | cons m u h=>exact⟨m::n::_,.cons m u (.cons n t h),.swap n m _⟩
 | trans _ _ Ys Kc=>obtain⟨k1,a1,b1⟩:=Kc h;obtain⟨k2,a2,b2⟩:=Ys a1;exact⟨k2,a2,b2.trans b1⟩
theorem rO {vs:List Ψ}{ks:List α}{k:α}{t:Tok}(h:Ar ky.mv vs ks):Ar ky.mv (vs++[ky.mv k t]) (ks++[k]):=by
 induction h with
 | nil=>exact .cons k t .nil
 | cons n u _ ih=>exact .cons n u ih
theorem rP {es:List (Int×Ψ)}{ks:List α}{k:α}(h:Ar ky.mv (es.map (·.2)) ks):es.any (fun e=>ky.knd.is k e.2)=ks.any (· == k):=by
 induction es generalizing ks with
 | nil=>cases h;rfl
 | cons e es ih=>
  obtain⟨c,v⟩:=e;cases h with
  | cons n t h=>
   rw[List.any_cons,List.any_cons,ih h,KeyKind.is_eq_decide (ky.is n t) k];congr 1;by_cases q:k=n
   ·subst q;simp
   ·simp[q,show ¬ n=k from fun z=>q z.symm]
theorem store {h:Heap}{a:Ω}{led:Bool}{σ F8:List α}{o:Obj}{es es':Array (Int×Ψ)}{ep:Nat}{t t':SetTable}(ho:h.get? a=Δ o)(D:He ky led σ o es ep t)
  (el:ElemsOf ky.knd es'.toList) (sb:es'.size < scanBound) (fi:t'.fits es'.size=Θ) (tb:Tb led t') (pm:∃ ks,Ar ky.mv (vals es') ks/\ks.Perm F8) :
  (h.update a (Obj.putSet es' t')).get? a=Δ {o with data:=.set es' (ep+1) t'}/\He ky led F8 {o with data:=.set es' (ep+1) t'} es' (ep+1) t':=
 ⟨(SetOf_store (knd:=ky.knd) (S':=fun k=>es'.toList.any fun e=>ky.knd.is k e.2) ho D.ex D.da el (fun k=>by rw[List.any_eq_true]) sb fi).1,D.ex,rfl,el,sb,fi,tb,pm⟩
theorem ml {a:Ω}{led:Bool}{σ F8:List α}{o:Obj}{es HE:Array (Int×Ψ)}{ep:Nat}{t t2:SetTable}{b:Bool}{g:Bool->Sem Unit}(hg:∀ (b:Bool)(F7:Α)(Q':Unit->Α->Prop),Q' () F7->Κ (Μ prog w) A (g b) Q' E F7)
  (ho:s.heap.get? a=Δ o) (D:He ky led σ o es ep t) (el:ElemsOf ky.knd HE.toList) (sb:HE.size < scanBound) (fi:t2.fits HE.size=Θ) (tb:Tb led t2) (pm:∃ ks,Ar ky.mv (vals HE) ks/\ks.Perm F8)
  {R:Option Bool->Α->Prop} (h:∀ h',Heap.SameBut a s.heap h'->fK ky h' a led F8->R (Δ Θ) {s with heap:=h'}) :
  Κ (Μ prog w) A (do
    storeSet a HE t2
    if (!b&&t2.tooFull)=Θ then do
      g (relayAll t2 HE (SetTable.grown HE.size)).2.2
      storeSet a (relayAll t2 HE (SetTable.grown HE.size)).1 (relayAll t2 HE (SetTable.grown HE.size)).2.1
      pure (Δ Θ)
     else pure (Δ Θ)) R E s:=by
 obtain⟨g1,D1⟩:=store ho D el sb fi tb pm;have b1:=aay s.heap a (Obj.putSet HE t2);refine a_ (wpAny_storeSet_of ho D.da ?_ (fits_of_scanBound sb));split
 ·have p2:=relayAll_perm t2 HE (SetTable.grown HE.size);have f2:=relayAll_fits t2 HE (SetTable.grown HE.size);have u2:=rL tb HE (SetTable.grown HE.size);generalize relayAll t2 HE (SetTable.grown HE.size)=Z at p2 f2 u2 ⊢;obtain⟨VJ,t3,gv⟩:=Z;dsimp only at p2 f2 u2 ⊢;have sz:VJ.size=HE.size:=by rw[<- P_,p2.length_eq,P_]
  have VL:VJ.size < scanBound:=by rw[sz];exact sb
  obtain⟨ks,k1,k2⟩:=pm;obtain⟨Ii,k3,k4⟩:=gq (p2.map (·.2)) k1;obtain⟨g2,D2⟩:=store g1 D1 (el.perm p2) VL f2 u2 ⟨Ii,k3,k4.trans k2⟩;refine a_ (hg _ _ _ (a_ (wpAny_storeSet_of g1 rfl ?_ (fits_of_scanBound VL))));exact e_ (h _ (b1.trans (aay _ a _)) ⟨_,_,_,_,g2,D2⟩)
 ·exact e_ (h _ b1 ⟨_,_,_,_,g1,D1⟩)
theorem add_int {a:Ω}{led:Bool}{σ:List α}{k:α}{tk:Tok}{Q:Bool->Α->Prop}(hS:fK ky s.heap a led σ)(hr:σ.length+1 < scanBound)
  (h:∀ h',Heap.SameBut a s.heap h'->fK ky h' a led (step_dedup σ k)->∀ b,Q b {s with heap:=h'}) :
  Κ (Μ prog w) A (setAddHashed a (ky.mv k tk) (ky.knd.hash k)) Q E s:=by
 obtain⟨o,es,ep,t,ho,D⟩:=hS;obtain⟨ks,k1,k2⟩:=D.pm;have lk:es.size=ks.length:=by have:=Ar.length k1;rw[i_,P_] at this;exact this
 have OH:es.toList.any (fun e=>ky.knd.is k e.2)=σ.any (· == k):=(rP k1).trans (k2.any_eq);unfold setAddHashed setAddHashedIn;refine M_ (a_ (wpAny_setState_of ho D.da D.fi ?_));dsimp only;rw[byScan_of (x:=ky.mv k tk) (ky.sc k tk) D.sb D.el,f_ rfl];unfold setAddByScan;refine a_ (a_ (wpAny_rule (a_ (wpAny_setScan_of (ky.is k tk) ho D.da D.fi D.el ?_))));cases hq:List.findIdx? (fun e=>ky.knd.is k e.2) es.toList with
 | some j=>
  dsimp only;obtain⟨hj,Yt,_⟩:=List.findIdx?_eq_some_iff_getElem.mp hq;have Jo:σ.any (· == k)=Θ:=by rw[<- OH,List.any_eq_true];exact⟨_,aak hj,Yt⟩
  have e2:step_dedup σ k=σ:=by unfold step_dedup;rw[f_ Jo]
  refine e_ (e_ ?_);have z:=h s.heap (Heap.SameBut.refl a s.heap) (by rw[e2];exact⟨o,es,ep,t,ho,D⟩) Ξ;cases s;exact z
 | none=>
  dsimp only;have Sn:σ.any (· == k)=Ξ:=by rw[<- OH,List.any_eq_false];intro e he;have:=List.findIdx?_eq_none_iff.mp hq e he;rw[this];exact p_
  have e2:step_dedup σ k=σ++[k]:=by unfold step_dedup;rw[d_ (by rw[Sn];exact p_)]
  have p1:=layNew_perm t es (ky.knd.hash k) (ky.mv k tk);have f1:=layNew_fits t es (ky.knd.hash k) (ky.mv k tk);have u1:=AB D.tb es (ky.knd.hash k) (ky.mv k tk);generalize layNew t es (ky.knd.hash k) (ky.mv k tk)=L at p1 f1 u1 ⊢;obtain⟨HE,t1,wd,gv⟩:=L;dsimp only at p1 f1 u1 ⊢;rw[Array.toList_push] at p1;have VM:ElemsOf ky.knd HE.toList:=(D.el.push (ky.is k tk) (ky.sc k tk)).perm p1;have Yu:HE.size=es.size+1:=by rw[<- P_,p1.length_eq,o_,P_];rfl
  have VN:HE.size < scanBound:=by rw[Yu,lk,k2.length_eq];exact hr
  have VO:∃ Ii,Ar ky.mv (vals HE) Ii/\Ii.Perm (step_dedup σ k):=by obtain⟨Ii,k3,k4⟩:=gq (p1.map (·.2)) (by rw[G_];exact rO (k:=k) (t:=tk) k1);exact⟨Ii,k3,k4.trans (by rw[e2];exact k2.append_right _)⟩
  refine a_ ((show ∀ (b:Bool) (F7:Α) (Q':Unit->Α->Prop),Q' () F7->Κ (Μ prog w) A (match b with|true=>rule "set.scan.the-table-gave-way" | false=>pure ()) Q' E F7 from fun b F7 Q' hq=>by induction b using zB<;>first|exact e_ hq|exact wpAny_rule hq) _ _ _ ?_);have fin:∀ h',Heap.SameBut a s.heap h'->fK ky h' a led (step_dedup σ k)->Κ (Μ prog w) A (pure Θ) Q E {s with heap:=h'}:=fun h' hb HH=>e_ (h h' hb HH Θ);split
  ·rw[hashByValue_scannable 8 (x:=ky.mv k tk) (ky.sc k tk)];refine a_ (e_ (ml ?_ ho D VM VN ?_ ?_ VO fun h' hb HH=>?_))
   ·intro b F7 Q' hq;induction b using zB<;>first|exact e_ hq|exact wpAny_rule hq
   ·split
    ·exact f1
    ·exact SetTable.fits_plain_off f1
   ·split
    ·exact u1
    ·exact rM u1 _
   ·exact fin h' hb HH
  ·refine a_ (e_ ?_);rw[f_ rfl];refine ml ?_ ho D VM VN f1 u1 VO fun h' hb HH=>fin h' hb HH;intro b F7 Q' hq;induction b using zB<;>first|exact e_ hq|exact wpAny_rule hq
end
noncomputable abbrev de (w:Β):Bool:=w.params.followText "set-order"
section
variable {prog:Ε}{w:Β}{α:Type} [DecidableEq α] [Inhabited α]{ky:Ky prog w α}{A:Ι}{E:Ψ->Α->Prop}{s:Α}{R:Result->Α->Prop}{I:Ω}{fp wr:List Ω}{G:Array GenState->Array GenState->Prop}{n:Nat}{P:Nat->Ψ->Prop}{St:Nat->Α->Prop}
theorem fK.moved {h h':Heap}{a:Ω}{led:Bool}{σ:List α}(hS:fK ky h a led σ)(k:∀ o,h.get? a=Δ o->h'.get? a=Δ o):fK ky h' a led σ:=by obtain⟨o,es,ep,t,ho,D⟩:=hS;exact⟨o,es,ep,t,k o ho,D⟩
theorem jP (l:List α):∀ σ:List α,(l.foldl step_dedup σ).length<=σ.length+l.length:=fun σ=>foldl_step_dedup_length_le σ l
theorem loop (W:WalksS prog w A.in1 I fp wr G n P St)(a:Ω)(ha:a∉fp){led:Bool}{ns:List α}(hv:∀ i v,P i v->∃ t,v=ky.mv (ns.getD i default) t)(hn:ns.length=n)(hb:n+1 < scanBound) :
  ∀ (k i:Nat) (s:Α),n - i=k->i<=n->St i s->fK ky s.heap a led ((ns.take i).foldl step_dedup [])->
   (∀ s',Moved (a::wr) G s s'->fK ky s'.heap a led (ns.foldl step_dedup [])->R (.ok (.ret .none)) s')->
   codeAny (Μ prog w) A (.builtin "set.update.loop" ⟨[.ref a,.ref I],[]⟩) R s:=by
 have VP:a∉wr:=fun z=>ha (W.sub _ z);have sub:∀ b∈wr,b∈a::wr:=fun b z=>I_ _ z;intro k
 induction k with
 | zero=>
  intro i s hk hi GI hS hR;have e:i=n:=⋯
  subst e;rw[<- hn,List.take_length] at hS;refine codeAny_builtin F.entry_set_update_loop ?_;rw[aaF F.plain_set_update_loop _];show Κ _ A.in1 (pyNext (.ref I) >>= _) _ _ s;exact a_ (W.done s _ _ GI fun s' hm=>show Κ _ A.in1 (ret Value.none) _ _ s' from e_ (hR s' (hm.mono sub) (hS.moved fun o e=>hm.heap a o VP e)))
 | succ k ih=>
  intro i s hk hi GI hS hR;have Gr:i < n:=⋯
  refine codeAny_builtin F.entry_set_update_loop ?_;rw[aaF F.plain_set_update_loop _];show Κ _ A.in1 (pyNext (.ref I) >>= _) _ _ s;refine a_ (W.item i s _ _ Gr GI fun v s' hP Gv hm=>?_);obtain⟨t,rfl⟩:=hv i v hP;have So:fK ky s'.heap a led ((ns.take i).foldl step_dedup []):=hS.moved fun o e=>hm.heap a o VP e;show Κ _ A.in1 (holding [ky.mv (ns.getD i default) t] (setAdd a (ky.mv (ns.getD i default) t)) >>= _) _ _ s';unfold setAdd;refine a_ (M_ (M_ (a_ (ky.knd.pyHash (ky.is _ _) ?_))));have hlen:=jP (ns.take i) [];rw[L_,List.length_nil] at hlen;refine add_int (s:={s' with toks:=s'.toks+1}) So ⋯ fun h' Oq Ql b=>?_;have et:(ns.take (i+1)).foldl step_dedup []=step_dedup ((ns.take i).foldl step_dedup []) (ns.getD i default):=by
   have Jf:i < ns.length:=⋯
   rw[List.take_succ,List.foldl_append,y_ Jf,aat,y_ Jf];rfl
  rw[<- et] at Ql;refine e_ ⟨plainId_quiet F.plain_set_update_loop _,ih (i+1) _ ⋯ Gr (W.frame _ s' _ _ Gv (Nat.le_succ _) fun b hb o e=>?_) Ql fun KO MQ Ss=>?_⟩
  ·rw[Oq.2 b fun z=>ha (z ▸ hb)];exact e
  ·refine hR KO (Moved.trans W.gtrans ((hm.mono sub).then_heap (Nat.le_succ _) fun b o hb e=>?_) MQ) Ss;rw[Oq.2 b fun z=>hb (z ▸ aaC)];exact e
theorem rQ (x:Ψ){Q1:Ψ->Α->Prop}(h:Q1 (.ref s.heap.objs.size) {s with heap:=s.heap.push {cls:=.type "set",dict:=Φ,data:=.set #[] 0 (.fresh 0 0 (!de w))}}) :
  codeAny (Μ prog w) A (.call (.builtin "set.__new__") ⟨[.type "set",x],[]⟩) (wants Q1 E) s:=by
 refine codeAny_of_tree (show Κ _ A.in1 (do checkBuiltinCall "set.__new__" ⟨[.type "set",x],[]⟩;again (.builtin "set.__new__" ⟨[.type "set",x],[]⟩)) _ _ s from a_ (wpAny_of_eq (F.newCall_set_1 x) (e_ ⟨plainId_quiet F.plain_set_new _,codeAny_builtin F.entry_set_new ?_⟩)));rw[aaF F.plain_set_new _];unfold Builtin.«set.__new__» Builtin.Frozenset.newClass;have hs1:=sub_set_self;obtain⟨hp,g,d,tk,os⟩:=s;dsimp only
 wp_walk
 refine wpAny_askSetting (e_ ?_);dsimp only;simp only[newObj];exact a_ (wpAny_alloc (e_ (e_ h)))
end
section
variable {prog:Ε}{w:Β}{α:Type} [DecidableEq α] [Inhabited α]{ky:Ky prog w α}{A:Ι}{E:Ψ->Α->Prop}{s:Α}
noncomputable abbrev oS (w:Β):Obj:={cls:=.type "set",dict:=Φ,data:=.set #[] 0 (.fresh 0 0 (!de w))}
theorem qw (h:Heap):fK ky (h.push (oS w)) h.objs.size (!de w) []:=
 ⟨_,#[],0,_,w_ _ rfl,⟨rfl,rfl,rfl⟩,rfl,fun e he=>by simp at he, nofun,rfl,rN _ _ _,[],.nil,.refl _⟩
theorem rR {l:Ω}{items:Array Ψ}{ns:List α}{Q:Ψ->Α->Prop}(hh:A.handled=Φ)(hl:s.heap.IsList l items)(hi:Ar ky.mv items.toList ns)(hb:items.size+1 < scanBound)
  (h:∀ (h':Heap) (tk:Nat),fK ky h' s.heap.objs.size (!de w) (ns.foldl step_dedup [])->(∀ b o,b < s.heap.objs.size->s.heap.get? b=Δ o->h'.get? b=Δ o)->Q (.ref s.heap.objs.size) {s with heap:=h',toks:=tk}) :
  Κ (Μ prog w) A (call (.type "set") [.ref l]) Q E s:=by
 obtain⟨c,tl,mro⟩:=F.called_set.mro;have made:=F.called_set.made;have sub:=F.called_set.sub;refine wpAny_call (codeAny_of_tree (show Κ _ _ (callAny (.type "set") _) _ _ _ from e_ ⟨Code.quiet_builtin _ (by decide +kernel),codeAny_builtin F.entry_type_call ?_⟩));rw[Around.under_plain (weight_type_call_type "set" [.ref l] []) rfl];have n1:=F.called_set.notType;have n2:=F.called_set.canCreate;have n3:=F.typeCall_set_1 (.ref l)
 repeat (any_goals (first|assumption|wp_step))
 refine codeAny_mono (rQ (.ref l) (E:=E) (Q1:=fun obj s1=>obj=.ref s.heap.objs.size/\s1 = {s with heap:=s.heap.push (oS w)}) ⟨rfl,rfl⟩) fun r s1 hr=>?_;cases r with
 | error e=>exact hr
 | ok fl=>
  cases fl with
  | ret obj=>
   obtain⟨rfl,rfl⟩:=hr;have gS:(s.heap.push (oS w)).get? s.heap.objs.size=Δ (oS w):=w_ _ rfl;have hT:Shared.TypeIs {s with heap:=s.heap.push (oS w)} (.ref s.heap.objs.size) "set":=⟨_,gS,rfl⟩
   have i1:=F.called_set.init.lookup;have i2:=F.called_set.init.bind (.ref s.heap.objs.size)
   repeat (any_goals (first|assumption|wp_step))
   refine codeAny_mono (codeAny_call_builtin (R:=wants (fun r s2=>r=.none/\∃ h' tk,s2 = {s with heap:=h',toks:=tk}/\fK ky h' s.heap.objs.size (!de w) (ns.foldl step_dedup [])/\
     (∀ b o,b < s.heap.objs.size->s.heap.get? b=Δ o->h'.get? b=Δ o)) E) F.called_set.init.plain F.entry_set_init (check_set_init_1 hT ?_)) fun r2 s2 Su=>?_
   ·obtain⟨ol,VQ,VR,nl,VS⟩:=hl;obtain⟨Yv,OI,VT,MR⟩:=ol;simp only at VR VS;subst VR;subst VS;have Sw:(s.heap.push (oS w)).get? l=Δ {cls:=.type "list",dict:=OI,data:=.seq items nl,slots:=MR}:=l_ _ VQ;have w1:=F.sub_list_set;have w2:=F.sub_list_frozenset;have w3:(Value.type "list" == Value.type "dict")=Ξ:= nofun
    have Qm:(s.heap.push (oS w)).IsList l items:=⟨_,Sw,rfl,nl,rfl⟩
    unfold Builtin.«set.__init__» noKeywords Builtin.Frozenset.updateFrom;generalize Yw:pyIter=PI
    wp_walk
    subst Yw;refine aas Qm (a_ (wpAny_runValue ?_));have lS:l < s.heap.objs.size:=j_ VQ;have nI:l≠(s.heap.push (oS w)).objs.size:=by rw[U_];exact n_ (Nat.lt_succ_of_lt lS)
    have aS:s.heap.objs.size∉[(s.heap.push (oS w)).objs.size,l]:=by
     rw[U_];intro z;rcases k_.mp z with z|z
     ·exact n_ (Nat.lt_succ_self _) z
     ·exact Q_ lS (u_.mp z)
    have hlen:ns.length=items.size:=by have:=Ar.length hi;rw[P_] at this;exact this.symm
    refine loop ((Walks.list (show A.in1.in1.in1.handled=Φ by simp[hh]) _ l nI items).toS) s.heap.objs.size aS (ns:=ns) (fun i v hv=>Ar.at hi i v (by rw[aar];exact hv)) hlen hb (items.size - 0) 0 _ ⋯ (aab _)
     ⟨⟨_,w_ _ rfl,rfl,rfl⟩,(Qm.push _)⟩ ((qw s.heap).moved fun o e=>l_ _ e) ?_
    intro s' hm HH;obtain⟨h',g',d',Sy,Rv⟩:=s';have eg:g'=s.gens:=hm.gens;have ed:d'=s.drawn:=hm.drawn;have eo:Rv=s.os:=hm.os;subst eg ed eo;show Κ _ _ _ _ _ _;refine e_ (show Κ _ _ (ret Value.none) _ _ _ from e_ ⟨rfl,h',Sy,rfl,HH,fun b o hb e=>?_⟩);refine hm.heap b o (fun z=>?_) (l_ _ (l_ _ e));rcases k_.mp z with z|z
    ·exact n_ hb z
    ·have:=u_.mp z;rw[U_] at this;exact n_ (Nat.lt_succ_of_lt hb) this
   ·cases r2 with
    | error e=>exact Su
    | ok Yx=>
     cases Yx with
     | ret r=>
      obtain⟨rfl,h',tk,rfl,HH,La⟩:=Su
      repeat (any_goals (first|assumption|wp_step))
      exact h _ _ HH La
     | _=>exact Su.elim
  | _=>exact hr.elim
end
theorem cC:Slot "set_iterator" "__next__" "set_iterator.__next__":=.of (owner:="set_iterator") (n:="__next__")
 (by rw[typeLookup_type,builtinLookup_eq_fast];kernel_rfl) (by decide +kernel) (by decide +kernel) (by decide +kernel) (by first|exact .inl (by decide +kernel)|exact .inr (by decide +kernel)) (by rw[isSubtype_type];kernel_rfl)
theorem f6:Slot "set_iterator" "__iter__" "set_iterator.__iter__":=.of (owner:="set_iterator") (n:="__iter__")
 (by rw[typeLookup_type,builtinLookup_eq_fast];kernel_rfl) (by decide +kernel) (by decide +kernel) (by decide +kernel) (by first|exact .inl (by decide +kernel)|exact .inr (by decide +kernel)) (by rw[isSubtype_type];kernel_rfl)
theorem dD:entryFor table "set_iterator.__next__" = Δ Builtin.«set_iterator.__next__»:=entryFor_of_tree (by kernel_rfl)
theorem dO (a:Ψ):argsOk "set_iterator.__next__" ⟨[a],[]⟩:=by unfold argsOk;kernel_rfl
theorem kL:entryFor table "set.__iter__" = Δ Builtin.«frozenset.__iter__»:=
 entryFor_alias (id':="frozenset.__iter__") (by kernel_rfl) (by first|rfl|decide +kernel|(unfold String.splitOn;simp +decide [String.splitOnAux])) (by decide +kernel) (by kernel_rfl)
section
variable {prog:Ε}{w:Β}{α:Type} [DecidableEq α] [Inhabited α]{ky:Ky prog w α}{A:Ι}{E:Ψ->Α->Prop}{s:Α}
noncomputable abbrev KR (first:Ψ)(i n:Nat)(a:Ω)(ep:Nat):Obj:={cls:=.type "set_iterator",data:=.fields #[first,rawInt i,.ref a,rawInt n,rawInt ep]}
theorem iq {Q:Bool->Α->Prop}(h:Q (de w) s):Κ (Μ prog w) A setsByText Q E s:=by unfold setsByText;exact a_ (wpAny_askSetting (e_ h))
theorem qx {a:Ω}{σ:List α}{o:Obj}{es:Array (Int×Ψ)}{ep:Nat}{t:SetTable}{led:Bool}{Q:Array (Int×Ψ)->Α->Prop}(hb:de w=Θ)(ho:s.heap.get? a=Δ o)(D:He ky led σ o es ep t)
  (h:Q (pickOrder (w.params.setOrder a ep) es) s):Κ (Μ prog w) A (setWalk a) Q E s:=by
 unfold setWalk;refine a_ (wpAny_setState_of ho D.da D.fi ?_);dsimp only;refine a_ (iq ?_);rw[hb,f_ rfl];exact a_ (wpAny_askSetting (e_ h))
theorem jQ {a:Ω}{σ:List α}{o:Obj}{es:Array (Int×Ψ)}{ep slot i:Nat}{t:SetTable}{led:Bool}{Q:Option (Ψ×Nat)->Α->Prop}(hb:de w=Θ)(ho:s.heap.get? a=Δ o)(D:He ky led σ o es ep t)
  (h:Q (((pickOrder (w.params.setOrder a ep) es)[i]?).map fun e=>(e.2,slot)) s):Κ (Μ prog w) A (setNext a slot i ep) Q E s:=by
 unfold setNext;refine a_ (wpAny_setState_of ho D.da D.fi ?_);dsimp only;refine a_ (iq ?_);rw[hb,f_ rfl];rw[d_ (by rw[bne_self_eq_false];exact p_)];exact a_ (qx hb ho D (e_ h))
theorem iN {a:Ω}{σ:List α}{o:Obj}{es:Array (Int×Ψ)}{ep slot i:Nat}{t:SetTable}{Q:Option (Ψ×Nat)->Α->Prop}(hb:de w=Ξ)(ho:s.heap.get? a=Δ o)(D:He ky (!de w) σ o es ep t)
  (hd:(!t.plain&&decide (es.size > 1))=Ξ)
  (h:Q (match es[SetTable.below t.place slot]?,t.place[SetTable.below t.place slot]? with
   | some (_,x),Δ j=>Δ (x,j+1)
   | _,_=>Φ) s):Κ (Μ prog w) A (setNext a slot i ep) Q E s:=by
 unfold setNext;refine a_ (wpAny_setState_of ho D.da D.fi ?_);dsimp only;refine a_ (iq ?_);rw[hb,d_ p_];refine a_ (e_ ?_);show Κ _ _ (if (!t.plain&&decide (es.size > 1))=Θ then _ else _) _ _ _;rw[hd,d_ p_];have hl:t.led=Θ:=by rw[D.tb.ld,hb];rfl
 show Κ _ _ ((if (!t.led&&!es.isEmpty)=Θ then _ else _) >>= _) _ _ _;rw[hl];exact a_ (e_ (e_ h))
end
section
variable {prog:Ε}{w:Β}{α:Type} [DecidableEq α] [Inhabited α]{ky:Ky prog w α}{A:Ι}{E:Ψ->Α->Prop}{s:Α}{it a:Ω}{i n ep slot:Nat}{σ:List α}{o:Obj}{es:Array (Int×Ψ)}{t:SetTable}{led:Bool}
theorem stop {M:Model}{A:Ι}{h:Heap}{hh:A.handled=Φ}{R:Fin->Α->Prop}{R':Ψ->Α->Prop}(hQ:∀ h' e,(∀ b o,s.heap.get? b=Δ o->h'.get? b=Δ o)->(∃ o,h'.get? e=Δ o/\o.cls=.type "StopIteration")->R' (.ref e) {s with heap:=h'}) :
  Κ M A (do raiseNew (<- newExc (.type "StopIteration") [])) R R' s:=by
 refine a_ ?_;simp only[newExc,newTuple];refine a_ (aap ?_ (by size_fits));refine a_ (m:=firstArgMember _ _) (wpAny_of_eq (a:=Value.none) (by first|rfl|(simp only[firstArgMember];rfl)) (aap ?_ (by size_fits)));simp only[raiseNew];refine a_ (wpAny_handled ?_);rw[hh];exact a_ (e_ (wpAny_throw (hQ _ _ (fun b o e=>l_ _ (l_ _ e)) ⟨_,w_ _ rfl,rfl⟩)))
theorem oQ {nx:Nat}{x:Ψ}(hit:s.heap.get? it=Δ (KR (rawInt slot) i n a ep))(ho:s.heap.get? a=Δ o)(D:He ky led σ o es ep t)(hn:es.size=n)
  (hs:∀ (A':Ι) (E':Ψ->Α->Prop) (Q':Option (Ψ×Nat)->Α->Prop),Q' (Δ (x,nx)) s->Κ (Μ prog w) A' (setNext a slot i ep) Q' E' s) {Q:Option Ψ->Α->Prop}
  (h:∀ h',h'.get? it=Δ (KR (rawInt nx) (i+1) n a ep)->Heap.SameBut it s.heap h'->Q (Δ x) {s with heap:=h'}):Κ (Μ prog w) A (pyNext (.ref it)) Q E s:=by
 have hT:s.TypeIs (.ref it) "set_iterator":=⟨_,hit,rfl⟩
 unfold pyNext;refine a_ (wpAny_attempt (wpAny_callSpecial?_slot (name:=Ρ "__next__") hT cC (aac cC hT dD ?_ (dO _))));show Κ _ _ (fieldsOf (.ref it) >>= _) _ _ s;refine a_ (wpAny_fieldsOf hit rfl ?_);show Κ _ _ (setEntries a >>= _) _ _ s;refine a_ (wpAny_setEntries_of ho D.da D.fi ?_);rw[d_ (by rw[hn];simp)];show Κ _ _ (setNext a slot i ep >>= _) _ _ s;refine a_ (hs _ _ _ ?_);show Κ _ _ (setField (.ref it) 0 (rawInt nx) >>= _) _ _ s;refine a_ (aad hit (by simp) fun h1 g1 b1=>?_);refine a_ (aad g1 (by simp) fun h2 g2 b2=>?_);exact e_ ⟨x,rfl,e_ (h h2 g2 (b1.trans b2))⟩
theorem oR (hh:A.handled=Φ)(hit:s.heap.get? it=Δ (KR (rawInt slot) i n a ep))(ho:s.heap.get? a=Δ o)(D:He ky led σ o es ep t)(hn:es.size=n)
  (hs:∀ (A':Ι) (E':Ψ->Α->Prop) (Q':Option (Ψ×Nat)->Α->Prop),Q' Φ s->Κ (Μ prog w) A' (setNext a slot i ep) Q' E' s) {Q:Option Ψ->Α->Prop}
  (h:∀ h',(∀ b o,b≠it->s.heap.get? b=Δ o->h'.get? b=Δ o)->Q Φ {s with heap:=h'}):Κ (Μ prog w) A (pyNext (.ref it)) Q E s:=by
 have hT:s.TypeIs (.ref it) "set_iterator":=⟨_,hit,rfl⟩
 unfold pyNext;refine a_ (wpAny_attempt (wpAny_callSpecial?_slot (name:=Ρ "__next__") hT cC (aac cC hT dD ?_ (dO _))));show Κ _ _ (fieldsOf (.ref it) >>= _) _ _ s;refine a_ (wpAny_fieldsOf hit rfl ?_);show Κ _ _ (setEntries a >>= _) _ _ s;refine a_ (wpAny_setEntries_of ho D.da D.fi ?_);rw[d_ (by rw[hn];simp)];show Κ _ _ (setNext a slot i ep >>= _) _ _ s;refine a_ (hs _ _ _ ?_);show Κ _ _ (setField (.ref it) 2 .none >>= _) _ _ s;refine a_ (aad hit (by simp) fun h1 g1 b1=>?_);refine stop (h:=h1) (hh:=show A.in1.handled=Φ from hh) (s:={s with heap:=h1}) fun h' e k he=>?_;obtain⟨oe,ge,ce⟩:=he;refine a_ (wpAny_isInstance (T:="StopIteration") (b:=Θ) ⟨_,ge,ce⟩ isSubtype_stop ?_);exact e_ (h h' fun b o hb e=>k b o (b1.extBut b o hb e))
end
section
variable {prog:Ε}{w:Β}{α:Type} [DecidableEq α] [Inhabited α]{ky:Ky prog w α}{A:Ι}{E:Ψ->Α->Prop}{s:Α}{it a T:Ω}{i n ep slot:Nat}{σ:List α}{o:Obj}{es:Array (Int×Ψ)}{t:SetTable}{led:Bool}
noncomputable abbrev MT (ps:List Nat):Obj:={cls:=.type "tuple",data:=.seq (ps.map fun (k:Nat)=>rawInt k).toArray}
theorem nW {pl:Nat}{c:Int}{x:Ψ}{Q:Ψ->Α->Prop}(ho:s.heap.get? a=Δ o)(D:He ky led σ o es ep t)(he:es[pl]? = Δ (c,x))(h:Q x s):Κ (Μ prog w) A (setNextDrawn a pl ep) Q E s:=by unfold setNextDrawn;refine a_ (wpAny_setState_of ho D.da D.fi ?_);dsimp only;rw[d_ (by rw[bne_self_eq_false];exact p_)];rw[he];exact e_ h
theorem rS {ps:List Nat}{pl:Nat}{c:Int}{x:Ψ}(hit:s.heap.get? it=Δ (KR (.ref T) i n a ep))(hT:s.heap.get? T=Δ (MT ps))(ho:s.heap.get? a=Δ o)(D:He ky led σ o es ep t)(hn:es.size=n)
  (hp:ps[i]? = Δ pl) (he:es[pl]? = Δ (c,x)) {Q:Option Ψ->Α->Prop}
  (h:∀ h',h'.get? it=Δ (KR (.ref T) (i+1) n a ep)->Heap.SameBut it s.heap h'->Q (Δ x) {s with heap:=h'}):Κ (Μ prog w) A (pyNext (.ref it)) Q E s:=by
 have OJ:s.TypeIs (.ref it) "set_iterator":=⟨_,hit,rfl⟩
 unfold pyNext;refine a_ (wpAny_attempt (wpAny_callSpecial?_slot (name:=Ρ "__next__") OJ cC (aac cC OJ dD ?_ (dO _))));show Κ _ _ (fieldsOf (.ref it) >>= _) _ _ s;refine a_ (wpAny_fieldsOf hit rfl ?_);show Κ _ _ (setEntries a >>= _) _ _ s;refine a_ (wpAny_setEntries_of ho D.da D.fi ?_);rw[d_ (by rw[hn];simp)];show Κ _ _ (seqItems? (.ref T) >>= _) _ _ s;refine a_ (X_ hT rfl ?_);dsimp only;have e:((ps.map fun (k:Nat)=>rawInt k).toArray)[((i:Nat):Int).toNat]? = Δ (rawInt pl):=by simp[hp]
 rw[e];show Κ _ _ (setNextDrawn a pl ep >>= _) _ _ s;refine a_ (nW ho D he ?_);refine a_ (aad hit (by simp) fun h1 g1 b1=>?_);exact e_ ⟨x,rfl,e_ (h h1 g1 b1)⟩
theorem rT {ps:List Nat}(hh:A.handled=Φ)(hit:s.heap.get? it=Δ (KR (.ref T) i n a ep))(hT:s.heap.get? T=Δ (MT ps))(ho:s.heap.get? a=Δ o)(D:He ky led σ o es ep t)(hn:es.size=n)
  (hp:ps[i]? = Φ) {Q:Option Ψ->Α->Prop}
  (h:∀ h',(∀ b o,b≠it->s.heap.get? b=Δ o->h'.get? b=Δ o)->Q Φ {s with heap:=h'}):Κ (Μ prog w) A (pyNext (.ref it)) Q E s:=by
 have OJ:s.TypeIs (.ref it) "set_iterator":=⟨_,hit,rfl⟩
 unfold pyNext;refine a_ (wpAny_attempt (wpAny_callSpecial?_slot (name:=Ρ "__next__") OJ cC (aac cC OJ dD ?_ (dO _))));show Κ _ _ (fieldsOf (.ref it) >>= _) _ _ s;refine a_ (wpAny_fieldsOf hit rfl ?_);show Κ _ _ (setEntries a >>= _) _ _ s;refine a_ (wpAny_setEntries_of ho D.da D.fi ?_);rw[d_ (by rw[hn];simp)];show Κ _ _ (seqItems? (.ref T) >>= _) _ _ s;refine a_ (X_ hT rfl ?_);dsimp only;have e:((ps.map fun (k:Nat)=>rawInt k).toArray)[((i:Nat):Int).toNat]? = Φ:=by have:=hp;simp at this ⊢;exact this
 rw[e];show Κ _ _ (setField (.ref it) 0 (rawInt 0) >>= _) _ _ s;refine a_ (aad hit (by simp) fun h1 g1 b1=>?_);refine a_ (aad g1 (by simp) fun h2 g2 b2=>?_);refine stop (h:=h2) (hh:=show A.in1.handled=Φ from hh) (s:={s with heap:=h2}) fun h' e k he=>?_;obtain⟨oe,ge,ce⟩:=he;refine a_ (wpAny_isInstance (T:="StopIteration") (b:=Θ) ⟨_,ge,ce⟩ isSubtype_stop ?_);exact e_ (h h' fun b o hb e=>k b o (b2.extBut b o hb (b1.extBut b o hb e)))
theorem iO {α:Type}(l:List α):∀ (j:Nat) (h:j < l.length),(l[j]::l.eraseIdx j).Perm l:=by
 induction l with
 | nil=>intro j h;cases h
 | cons a l ih=>
  intro j h;cases j with
  | zero=>exact .refl _
  | succ j=>
   have h':j < l.length:=by simpa using h
   exact(List.Perm.swap a l[j] (l.eraseIdx j)).trans (List.Perm.cons a (ih j h'))
theorem qy {α:Type}(f:Nat->Nat):∀ (fuel k:Nat) (left:List α) (out:Array α),left.length<=fuel->(pickOrder.go f fuel k left out).toList.Perm (out.toList++left):=by
 intro fuel
 induction fuel with
 | zero=>intro k left out h;have:left=[]:=List.length_eq_zero_iff.mp ⋯;subst this;unfold pickOrder.go;rw[aai]
 | succ n ih=>
  intro k left out h;unfold pickOrder.go
  induction left using zL with
  | nil=>simp
  | cons y l=>have Gr:f k % (y::l).length < (y::l).length:=Nat.mod_lt _ (by simp);generalize f k % (y::l).length=j at Gr;rw[y_ Gr];dsimp only;refine(ih (k+1) _ _ (by rw[List.length_eraseIdx_of_lt Gr];simp at h ⊢;omega)).trans ?_;rw[Array.toList_push,B_];refine aal _ ?_;exact(iO _ _ Gr)
theorem gr {α:Type}(f:Nat->Nat)(xs:Array α):(pickOrder f xs).toList.Perm xs.toList:=by have:=qy f xs.size 0 xs.toList #[] (by simp);rw[show (#[]:Array α).toList++xs.toList=xs.toList by simp] at this;exact this
theorem qz {src:Source}{m:Nat}{Q:Nat->Α->Prop}(hm:m≠0)(h:∀ k d,k < m->Q k {s with drawn:=d}):Κ (Μ prog w) A (choose src m) Q E s:=fun Γ p hΓ=>
 show m≠0/\Q _ _ from ⟨hm,h _ _ (Nat.mod_lt _ (Nat.pos_of_ne_zero hm))⟩
theorem wx {α:Type}{Q:List α->Α->Prop}:∀ (m:Nat) (xs:List α) (s:Α),xs.length=m->(∀ ys d,ys.Perm xs->Q ys {s with drawn:=d})->Κ (Μ prog w) A (drawOrder m xs) Q E s:=by
 intro m
 induction m generalizing Q with
 | zero=>intro xs s hx h;have:xs=[]:=List.length_eq_zero_iff.mp hx;subst this;exact e_ (by cases s;exact h [] _ (.refl _))
 | succ m ih=>
  intro xs s hx h
  induction xs using zL with
  | nil=>cases hx
  | cons y l=>unfold drawOrder;refine a_ (qz (by simp) fun k d hk=>?_);rw[y_ hk];dsimp only;refine a_ (ih _ _ (by rw[List.length_eraseIdx_of_lt hk];simp at hx ⊢;omega) fun ys d' hy=>e_ ?_);exact h _ d' ((List.Perm.cons _ hy).trans (iO _ _ hk))
end
theorem iP:entryFor table "set_iterator.__iter__" = Δ Builtin.«dict_keyiterator.__iter__»:=
 entryFor_alias (id':="dict_keyiterator.__iter__") (by kernel_rfl) (by first|rfl|decide +kernel|(unfold String.splitOn;simp +decide [String.splitOnAux])) (by decide +kernel) (by kernel_rfl)
theorem jA (a:Ψ):argsOk "set_iterator.__iter__" ⟨[a],[]⟩:=by unfold argsOk;kernel_rfl
section
variable {prog:Ε}{w:Β}{α:Type} [DecidableEq α] [Inhabited α]{ky:Ky prog w α}{A:Ι}{E:Ψ->Α->Prop}{s:Α}{it a T:Ω}{i n ep slot:Nat}{σ:List α}{o:Obj}{es:Array (Int×Ψ)}{t:SetTable}{led:Bool}
theorem iQ {f:Ψ}{Q:Ψ->Α->Prop}(hit:s.heap.get? it=Δ (KR f i n a ep))(h:Q (.ref it) s):Κ (Μ prog w) A (pyIter (.ref it)) Q E s:=by
 have hT:s.TypeIs (.ref it) "set_iterator":=⟨_,hit,rfl⟩
 refine wpAny_pyIter_slot hT f6 (aac f6 hT iP ?_ (jA _));exact e_ ⟨_,rfl,"set_iterator",_,hT,cC.lookup,h⟩
theorem oU {xs:Array Nat}{j p q:Nat}(h1:Cut xs j p)(h2:Cut xs j q):p=q:=by
 have key:∀ p q:Nat,Cut xs j p->Cut xs j q->¬ p < q:=fun p q h1 h2 h=>by
  have hl:p < xs.size:=C_ h h2.le;have e:xs[p]? = Δ xs[p]:=by simp[hl]
  have:=h2.lo p _ h e;have:=h1.hi p _ (m_ _) e;omega
 have:=key p q h1 h2;have:=key q p h2 h1;omega
theorem Cp (hh:A.handled=Φ)(hb:de w=Θ)(D:He ky led σ o es ep t)(Hq:a≠it) :
  Walks prog w A it [it,a] [it] es.size (fun i v=>((pickOrder (w.params.setOrder a ep) es).toList.map (·.2))[i]? = Δ v) (fun i h=>h.get? it=Δ (KR (rawInt 0) i es.size a ep)/\h.get? a=Δ o) where
 sub:=fun b hb=>by rw[u_.mp hb];exact aaC
 frame:=fun _ _ _ st k=>⟨k it (by simp) _ st.1,k a (by simp) _ st.2⟩
 item:=fun i s Q E hi st hQ=>by
  have hl:(pickOrder (w.params.setOrder a ep) es).size=es.size:=by rw[<- P_,(gr _ es).length_eq,P_]
  have e:(pickOrder (w.params.setOrder a ep) es)[i]? = Δ (pickOrder (w.params.setOrder a ep) es)[i]:=by simp[hl,hi]
  refine oQ (x:=(pickOrder (w.params.setOrder a ep) es)[i].2) (nx:=0) st.1 st.2 D rfl (fun A' E' Q' q=>jQ hb st.2 D (by rw[e];exact q)) fun h' g b=>?_;exact hQ _ h' s.toks (by rw[A_,aar,e];rfl) ⟨g,b.extBut a o Hq st.2⟩ fun c o hc e=>b.extBut c o (fun z=>hc (by simp[z])) e
 done:=fun s Q E st hQ=>by
  have hl:(pickOrder (w.params.setOrder a ep) es).size=es.size:=by rw[<- P_,(gr _ es).length_eq,P_]
  have e:(pickOrder (w.params.setOrder a ep) es)[es.size]? = Φ:=by simp[hl]
  exact oR hh st.1 st.2 D rfl (fun A' E' Q' q=>jQ hb st.2 D (by rw[e];exact q)) fun h' k=>hQ h' s.toks fun c o hc e=>k c o (fun z=>hc (by simp[z])) e
 self:=fun _ _ _ _ st hQ=>iQ st.1 hQ
noncomputable def jR (t:SetTable):Nat->Nat
 | 0=>0
 | i+1=>t.place.getD i 0+1
theorem jS (u:Up t.place)(hi:i<=t.place.size):Cut t.place (jR t i) i:=by
 cases i with
 | zero=>exact⟨hi,fun i x h=>absurd h (Nat.not_lt_zero i),fun i x _ _=>aab _⟩
 | succ k=>
  have hk:k < t.place.size:=⋯
  have e:t.place[k]? = Δ t.place[k]:=by simp[hk]
  have eg:t.place.getD k 0=t.place[k]:=by simp[Array.getD,hk]
  refine⟨hi,fun j x hj hx=>?_,fun j x hj hx=>?_⟩
  ·show x < t.place.getD k 0+1;rw[eg];by_cases q:j=k
   ·subst q;rw[e] at hx;cases hx;omega
   ·have:=u j k x _ ⋯ hx e;omega
  ·show t.place.getD k 0+1<=x;rw[eg];have:=u k j _ x ⋯ e hx;omega
theorem Cq (hh:A.handled=Φ)(hb:de w=Ξ)(D:He ky (!de w) σ o es ep t)(hd:(!t.plain&&decide (es.size > 1))=Ξ)(Hq:a≠it) :
  Walks prog w A it [it,a] [it] es.size (fun i v=>(vals es)[i]? = Δ v) (fun i h=>h.get? it=Δ (KR (rawInt (jR t i)) i es.size a ep)/\h.get? a=Δ o) where
 sub:=fun b hb=>by rw[u_.mp hb];exact aaC
 frame:=fun _ _ _ st k=>⟨k it (by simp) _ st.1,k a (by simp) _ st.2⟩
 item:=fun i s Q E hi st hQ=>by
  have hz:t.place.size=es.size:=by have:=D.fi;unfold SetTable.fits at this;rw[g_] at this;exact h_ this.1
  have hp:i < t.place.size:=⋯
  have eb:SetTable.below t.place (jR t i)=i:=oU (gU D.tb.up _) (jS D.tb.up (Nat.le_of_lt hp));have e1:es[i]? = Δ (es[i].1,es[i].2):=by simp[hi]
  have e2:t.place[i]? = Δ t.place[i]:=by simp[hp]
  have e3:jR t (i+1)=t.place[i]+1:=by show t.place.getD i 0+1=_;simp[Array.getD,hp]
  refine oQ (x:=es[i].2) (nx:=jR t (i+1)) st.1 st.2 D rfl (fun A' E' Q' q=>iN hb st.2 D hd (by rw[eb,e1,e2];rw[e3] at q;exact q)) fun h' g b=>?_;exact hQ _ h' s.toks (by rw[A_,aar,e1];rfl) ⟨g,b.extBut a o Hq st.2⟩ fun c o hc e=>b.extBut c o (fun z=>hc (by simp[z])) e
 done:=fun s Q E st hQ=>by
  have hz:t.place.size=es.size:=by have:=D.fi;unfold SetTable.fits at this;rw[g_] at this;exact h_ this.1
  have eb:SetTable.below t.place (jR t es.size)=es.size:=oU (gU D.tb.up _) (jS D.tb.up ⋯);have e1:es[es.size]? = Φ:=by simp
  exact oR hh st.1 st.2 D rfl (fun A' E' Q' q=>iN hb st.2 D hd (by rw[eb,e1];exact q)) fun h' k=>hQ h' s.toks fun c o hc e=>k c o (fun z=>hc (by simp[z])) e
 self:=fun _ _ _ _ st hQ=>iQ st.1 hQ
theorem Cr (hh:A.handled=Φ)(D:He ky led σ o es ep t){ps:List Nat}(hp:ps.Perm (List.range es.size))(Hq:a≠it)(Yy:T≠it) :
  Walks prog w A it [it,a,T] [it] es.size (fun i v=>(ps.map fun k=>(es.getD k (0,.none)).2)[i]? = Δ v) (fun i h=>h.get? it=Δ (KR (.ref T) i es.size a ep)/\h.get? a=Δ o/\h.get? T=Δ (MT ps)) where
 sub:=fun b hb=>by rw[u_.mp hb];exact aaC
 frame:=fun _ _ _ st k=>⟨k it (by simp) _ st.1,k a (by simp) _ st.2.1,k T (by simp) _ st.2.2⟩
 item:=fun i s Q E hi st hQ=>by
  have hl:ps.length=es.size:=by rw[hp.length_eq,aam]
  have Jf:i < ps.length:=⋯
  have Gr:ps[i] < es.size:=Z_.mp (hp.mem_iff.mp (aak Jf));have e1:ps[i]? = Δ ps[i]:=y_ Jf;have e2:es[ps[i]]? = Δ (es[ps[i]].1,es[ps[i]].2):=by simp[Gr]
  refine rS st.1 st.2.2 st.2.1 D rfl e1 e2 fun h' g b=>?_;exact hQ _ h' s.toks (by rw[A_,e1];simp[Array.getD,Gr]) ⟨g,b.extBut a o Hq st.2.1,b.extBut T _ Yy st.2.2⟩ fun c o hc e=>b.extBut c o (fun z=>hc (by simp[z])) e
 done:=fun s Q E st hQ=>by
  have hl:ps.length=es.size:=by rw[hp.length_eq,aam]
  exact rT hh st.1 st.2.2 st.2.1 D rfl (by rw[List.getElem?_eq_none];omega) fun h' k=>hQ h' s.toks fun c o hc e=>k c o (fun z=>hc (by simp[z])) e
 self:=fun _ _ _ _ st hQ=>iQ st.1 hQ
end
section
variable {prog:Ε}{w:Β}{α:Type} [DecidableEq α] [Inhabited α]{ky:Ky prog w α}{A:Ι}{E:Ψ->Α->Prop}{s:Α}{it a T:Ω}{i n ep slot:Nat}{σ:List α}{o:Obj}{es:Array (Int×Ψ)}{t:SetTable}{led:Bool}
structure SA {prog:Ε}{w:Β}{α:Type} [DecidableEq α](ky:Ky prog w α)(A:Ι)(a:Ω)(σ:List α)(h h1:Heap)(it:Ω)(seq:List Ψ)(n:Nat)(fp:List Ω)(St:Nat->Heap->Prop):Prop where
 keep:∀ b o,h.get? b=Δ o->h1.get? b=Δ o
 new:h.get? it=Φ
 pm:∃ ks,Ar ky.mv seq ks/\ks.Perm σ
 ln:seq.length=n
 wk:Walks prog w A it fp [it] n (fun i v=>seq[i]? = Δ v) St
 st:St 0 h1
 Yz:∀ b∈fp,b=a∨h.get? b=Φ
theorem gu (h:Heap):h.get? h.objs.size=Φ:=by
 cases e:h.get? h.objs.size with
 | none=>rfl
 | some o=>exact absurd (j_ e) (T_ _)
theorem mq (h:Heap)(o:Obj):h.get? (h.push o).objs.size=Φ:=by
 cases e:h.get? (h.push o).objs.size with
 | none=>rfl
 | some o'=>have:=j_ e;rw[U_] at this;exact absurd this (Nat.not_lt.mpr (Nat.le_succ _))
theorem map_range (es:Array (Int×Ψ)):(List.range es.size).map (fun k=>(es.getD k (0,.none)).2)=vals es:=by
 apply List.ext_getElem?;intro j;rw[A_,A_];by_cases h:j < es.size
 ·rw[List.getElem?_range h];simp[Array.getD,h]
 ·rw[List.getElem?_eq_none (by simp;omega)];simp[h]
theorem rV (hh:A.handled=Φ)(hS:fK ky s.heap a (!de w) σ){Q:Ψ->Α->Prop}(h:∀ h1 d it seq n fp St,SA ky A a σ s.heap h1 it seq n fp St->Q (.ref it) {s with heap:=h1,drawn:=d}) :
  Κ (Μ prog w) A (pyIter (.ref a)) Q E s:=by
 obtain⟨o,es,ep,t,ho,D⟩:=hS;obtain⟨ks,k1,k2⟩:=D.pm;have hT:s.TypeIs (.ref a) "set":=⟨_,ho,D.ex.1⟩
 have alt:a < s.heap.objs.size:=j_ ho;refine wpAny_pyIter_slot hT F.slot_set_iter (aac F.slot_set_iter hT kL ?_ (F.args_set_iter_1 _));show Κ _ _ (Builtin.Frozenset.sizeOf a >>= _) _ _ s;unfold Builtin.Frozenset.sizeOf;refine a_ (a_ (wpAny_setEntries_of ho D.da D.fi (e_ ?_)));have SD:∀ {f:Ψ}{h1:Heap}{d:Drawn}{x:Ω},h1.get? x=Δ (KR f 0 es.size a ep)->Shared.TypeIs {s with heap:=h1,drawn:=d} (.ref x) "set_iterator":=fun e=>⟨_,e,rfl⟩
 show Κ _ _ (setDrawn a >>= _) _ _ s;unfold setDrawn;refine a_ (a_ (wpAny_setState_of ho D.da D.fi ?_));dsimp only;refine a_ (iq (e_ ?_));cases hb:de w with
 | true=>
  show Κ _ _ (if (!Θ&&_)=Θ then _ else _) _ _ _;rw[Bool.not_true,Bool.false_and,d_ p_];refine a_ (e_ (a_ (wpAny_setEpoch_of ho D.da D.fi (a_ (aap ?_ (by size_fits))))));obtain⟨Ii,k3,k4⟩:=gq ((gr (w.params.setOrder a ep) es).map (·.2)) k1;have hl:((pickOrder (w.params.setOrder a ep) es).toList.map (·.2)).length=es.size:=by rw[i_,(gr _ es).length_eq,P_]
  have W:=Cp (A:=A) (it:=s.heap.objs.size) hh hb D (n_ alt)
  exact e_ ⟨_,rfl,"set_iterator",_,SD (d:=s.drawn) (w_ _ rfl),cC.lookup,h _ s.drawn s.heap.objs.size _ _ _ _
   ⟨fun b o e=>l_ _ e,gu _,⟨Ii,k3,k4.trans k2⟩,hl,W,⟨w_ _ rfl,l_ _ ho⟩,fun b hb=>by
    rcases k_.mp hb with e|hb
    ·rw[e];exact .inr (gu _)
    ·exact .inl (u_.mp hb)⟩⟩
 | false=>
  cases hd:(!t.plain&&decide (es.size > 1)) with
  | false=>
   show Κ _ _ (if (!Ξ&&(!t.plain&&decide (es.size > 1)))=Θ then _ else _) _ _ _;rw[hd,Bool.and_false,d_ p_];refine a_ (e_ (a_ (wpAny_setEpoch_of ho D.da D.fi (a_ (aap ?_ (by size_fits))))));have hl:(vals es).length=es.size:=by rw[i_,P_]
   have W:=Cq (A:=A) (it:=s.heap.objs.size) hh hb D hd (n_ alt)
   exact e_ ⟨_,rfl,"set_iterator",_,SD (d:=s.drawn) (w_ _ rfl),cC.lookup,h _ s.drawn s.heap.objs.size _ _ _ _
    ⟨fun b o e=>l_ _ e,gu _,⟨ks,k1,k2⟩,hl,W,⟨w_ _ rfl,l_ _ ho⟩,fun b hb=>by
     rcases k_.mp hb with e|hb
     ·rw[e];exact .inr (gu _)
     ·exact .inl (u_.mp hb)⟩⟩
  | true=>
   show Κ _ _ (if (!Ξ&&(!t.plain&&decide (es.size > 1)))=Θ then _ else _) _ _ _;rw[hd,Bool.not_false,Bool.and_self,f_ rfl];have hz:=fits_of_scanBound D.sb;refine a_ (wx _ _ _ aam fun ps d hp=>?_);have SE:ps.length=es.size:=by rw[hp.length_eq,aam]
   have VU:(s.heap.push (MT ps)).get? a=Δ o:=l_ _ ho;refine a_ (wpAny_newTuple (a_ (wpAny_setEpoch_of VU D.da D.fi (a_ (aap ?_ (by size_fits))))) (by rw[i_,SE];exact hz));have pv:(ps.map fun k=>(es.getD k (0,.none)).2).Perm (vals es):=by rw[<- map_range];exact hp.map _
   obtain⟨Ii,k3,k4⟩:=gq pv k1;have hl:(ps.map fun k=>(es.getD k (0,.none)).2).length=es.size:=by rw[i_,SE]
   have hsz:(s.heap.push (MT ps)).objs.size=s.heap.objs.size+1:=U_ ..;have W:=Cr (A:=A) (T:=s.heap.objs.size) (it:=(s.heap.push (MT ps)).objs.size) hh D hp (by rw[hsz];exact n_ (Nat.lt_succ_of_lt alt)) (by rw[hsz];exact n_ (Nat.lt_succ_self _))
   exact e_ ⟨_,rfl,"set_iterator",_,SD (d:=d) (w_ _ rfl),cC.lookup,h _ d (s.heap.push (MT ps)).objs.size _ _ _ _
    ⟨fun b o e=>l_ _ (l_ _ e),mq _ _,⟨Ii,k3,k4.trans k2⟩,hl,W,
     ⟨w_ _ rfl,l_ _ VU,l_ _ (w_ _ rfl)⟩,fun b hb=>by
     rcases k_.mp hb with e|hb
     ·rw[e];exact .inr (mq _ _)
     ·rcases k_.mp hb with e|hb
      ·exact .inl e
      ·rw[u_.mp hb];exact .inr (gu _)⟩⟩
end
section
variable {prog:Ε}{w:Β}{α:Type} [DecidableEq α] [Inhabited α]{ky:Ky prog w α}{A:Ι}{E:Ψ->Α->Prop}{s:Α}{a:Ω}{σ:List α}
theorem rW {Q:Bool->Α->Prop}(hT:s.TypeIs (.ref a) "set") (h:Q Ξ s):Κ (Μ prog w) A (Builtin.List.listLengthHint (.ref a)) Q E s:=by
 unfold Builtin.List.listLengthHint;refine a_ (wpAny_specialOf hT PySem.F.slot_set_len.lookup ?_);generalize K':("set.__len__" : String)=R4
 wp_delta
 rw[show splitId R4=Δ ("set","__len__") from by subst K';decide +kernel];subst K';refine a_ (wpAny_isInstance (T:="set") (b:=Θ) hT (by rw[isSubtype_type];kernel_rfl) (wpAny_ite_split (fun z=>absurd z nofun) fun _=>wpAny_ite_split (fun _=>?_) fun z=>absurd (by decide +kernel) z));exact a_ (wpAny_typeOf hT (e_ h))
theorem AE {seq:List Ψ}{acc:Array Ψ}(h:ItemsOf (fun i v=>seq[i]? = Δ v) acc seq.length):acc.toList=seq:=by
 apply List.ext_getElem?;intro j;rw[aar];by_cases hj:j < acc.size
 ·have e:acc[j]? = Δ acc[j]:=by simp[hj]
  rw[e,h.2 j _ e]
 ·have h1:acc[j]? = Φ:=by simp;omega
  rw[h1,List.getElem?_eq_none (by rw[<- h.1];omega)]
theorem wz {R:Result->Α->Prop}(hh:A.handled=Φ)(hS:fK ky s.heap a (!de w) σ)(S:Ω)(VV:S≠a)(res:Ψ)(c0:Nat)(hg:s.heap.get? S=Δ {cls:=.type "list",data:=.seq #[] c0}) (hn:σ.length<=Ζ)
  (hR:∀ h' tk d acc c,(∀ b o,b≠S->s.heap.get? b=Δ o->h'.get? b=Δ o)->h'.get? S=Δ {cls:=.type "list",dict:=Φ,data:=.seq acc c,slots:=#[]}->(∃ ks,Ar ky.mv acc.toList ks/\ks.Perm σ)->R (.ok (.ret res)) {s with heap:=h',toks:=tk,drawn:=d}) :
  Κ (Μ prog w) A.in1 (Χ (.ref S) (.ref a) res)
   (fun fin s'=>match fin with|.done f=>R (.ok f) s'|.again c'=>c'.quiet=Θ/\codeAny (Μ prog w) A c' R s') (fun e s'=>R (.error e) s') s:=by
 have hT:s.TypeIs (.ref a) "set":=by obtain⟨o,es,ep,t,ho,D⟩:=hS;exact⟨o,ho,D.ex.1⟩
 unfold Χ;refine a_ (wpAny_typeOf (T:="set") hT ?_);have h1:Builtin.List.listSameRef (.ref S) (.ref a)=Ξ:=by simp[Builtin.List.listSameRef,VV]
 rw[d_ (by rw[h1];decide)];refine a_ (rV (A:=A.in1) hh hS fun h1 d it seq n fp St C=>?_);have VW:S∉fp:=fun z=>(C.Yz S z).elim VV fun e=>by rw[hg] at e;cases e
 have hSi:S≠it:=fun z=>by rw[z,C.new] at hg;cases hg
 obtain⟨ks,q1,q2⟩:=C.pm;have YA:n<=Ζ:=by rw[<- C.ln,Ar.length q1,q2.length_eq];exact hn
 have key:∀ (h:Heap) (c1 tk:Nat),St 0 h->(∀ b o,b≠S->s.heap.get? b=Δ o->h.get? b=Δ o)->h.get? S=Δ {cls:=.type "list",data:=.seq #[] c1}->
   codeAny (Μ prog w) A (.builtin "list.extend.loop" ⟨[.ref S,.ref it,res],[]⟩) R {s with heap:=h,toks:=tk,drawn:=d}:=by
  intro h c1 tk GI hk So;refine codeAny_extend_loopS C.wk.toS YA S VW res n 0 _ #[] c1 rfl (aab _) GI So (ItemsOf.nil _) fun s' acc c hm HH GA=>?_;rw[Moved.eq_with hm];rw[<- C.ln] at GA;refine hR s'.heap s'.toks d acc c (fun b o hb e=>hm.heap b o (fun z=>?_) (hk b o hb e)) HH ⟨ks,by rw[AE GA];exact q1,q2⟩;rcases k_.mp z with z|z
  ·exact hb z
  ·rw[u_.mp z,C.new] at e;cases e
 have YB:Shared.TypeIs {s with heap:=h1,drawn:=d} (.ref a) "set":=by obtain⟨o,es,ep,t,ho,D⟩:=hS;exact⟨o,C.keep _ _ ho,D.ex.1⟩
 have g1:=C.keep _ _ hg;refine a_ (M_ (rW YB (wpAny_ite_split (fun _=>?_) fun _=>e_ ⟨plainId_quiet PySem.F.plain_extend_loop _,key _ c0 _ C.st (fun b o _ e=>C.keep b o e) g1⟩)));refine a_ (wpAny_rule (a_ ?_));show Κ _ _ (updateSeq S (·.push .none) >>= fun _=>updateSeq S (·.pop)) _ _ _;have g2:=aao (ι (·.push Value.none)) g1 rfl;have g3:=aao (ι (·.pop)) g2 rfl;refine a_ (wpAny_updateSeq g1 rfl (wpAny_updateSeq (hz:=by seq_fits) g2 rfl (e_ ⟨plainId_quiet PySem.F.plain_extend_loop _,key _ _ _ ?_ (fun b o hb e=>?_) g3⟩)))
 ·refine C.wk.frame 0 _ _ C.st fun b hb o e=>?_;have OK:S≠b:=fun z=>VW (z ▸ hb);exact(aaf _ _ OK).trans ((aaf _ _ OK).trans e)
 ·have OK:S≠b:=fun z=>hb z.symm;exact(aaf _ _ OK).trans ((aaf _ _ OK).trans (C.keep b o e))
end
section
variable {prog:Ε}{w:Β}{α:Type} [DecidableEq α] [Inhabited α]{ky:Ky prog w α}{A:Ι}{E:Ψ->Α->Prop}{s:Α}{a:Ω}{σ:List α}
theorem mr {Q:List Ψ->Α->Prop}(hh:A.handled=Φ)(hS:fK ky s.heap a (!de w) σ)(hn:σ.length<=Ζ)
  (h:∀ h' tk d (acc:Array Ψ),s.heap.objs.size < h'.objs.size->(∀ b o,s.heap.get? b=Δ o->h'.get? b=Δ o)->(∃ ks,Ar ky.mv acc.toList ks/\ks.Perm σ)->Q acc.toList {s with heap:=h',toks:=tk,drawn:=d}):Κ (Μ prog w) A (collect (.ref a)) Q E s:=by
 have Gr:a < s.heap.objs.size:=by obtain⟨o,es,ep,t,ho,D⟩:=hS;exact j_ ho
 unfold collect;refine a_ (wpAny_runValue (codeAny_builtin entry_proto_collect' ?_));rw[aaF PySem.F.plain_proto_collect _];refine(show Κ _ A.in1 (newList [] >>= fun l=>again (.builtin "list.__iadd__" ⟨[l,.ref a],[]⟩)) _ _ s from a_ (aap (e_ ⟨plainId_quiet PySem.F.plain_list_iadd _,codeAny_builtin entry_list_iadd' ?_⟩)));rw[aaF PySem.F.plain_list_iadd _];have g1:(s.heap.push {cls:=.type "list",data:=.seq ([]:List Ψ).toArray}).get? s.heap.objs.size=Δ {cls:=.type "list",data:=.seq #[]}:=w_ _ rfl;show Κ _ A.in1 (Χ (.ref s.heap.objs.size) (.ref a) (.ref s.heap.objs.size)) _ _ _;have key:=wz (A:=A) (s:={s with heap:=s.heap.push {cls:=.type "list",data:=.seq ([]:List Ψ).toArray}})
  (R:=fun (q:Result) (s':Α)=>∃ (h':Heap) (tk:Nat) (d:Drawn) (acc:Array Ψ) (c:Nat),q=.ok (.ret (.ref s.heap.objs.size))/\s' = {s with heap:=h',toks:=tk,drawn:=d}/\
   (∀ b o,s.heap.get? b=Δ o->h'.get? b=Δ o)/\h'.get? s.heap.objs.size=Δ {cls:=.type "list",dict:=Φ,data:=.seq acc c,slots:=#[]}/\∃ ks,Ar ky.mv acc.toList ks/\ks.Perm σ)
  hh (hS.moved fun o e=>l_ _ e) s.heap.objs.size (Q_ Gr) (.ref s.heap.objs.size) 0 g1 hn
  (fun h' tk d acc c hk HH GA=>⟨h',tk,d,acc,c,rfl,rfl,fun b o e=>hk b o (n_ (j_ e)) (l_ _ e),HH,GA⟩)
 refine wpAny_mono key (fun fin s' x=>?_) fun e s' x=>?_
 ·cases fin with
  | done f=>obtain⟨h',tk,d,acc,c,e,rfl,hk,HH,GA⟩:=x;cases e;exact show Κ _ A (load s.heap.objs.size >>= _) _ _ _ from a_ (wpAny_load HH (e_ (h h' tk d acc (j_ HH) hk GA)))
  | again c1=>refine⟨x.1,codeAny_mono x.2 fun q s2 y=>?_⟩;obtain⟨h',tk,d,acc,c,rfl,rfl,hk,HH,GA⟩:=y;exact show Κ _ A (load s.heap.objs.size >>= _) _ _ _ from a_ (wpAny_load HH (e_ (h h' tk d acc (j_ HH) hk GA)))
 ·obtain⟨_,_,_,_,_,e',_⟩:=x;cases e'
theorem nX {Q:Ψ->Α->Prop}(hh:A.handled=Φ)(hS:fK ky s.heap a (!de w) σ)(Lw:σ.length < 64){Od:List α->Prop}(YC:∀ {A:Ι}{E:Ψ->Α->Prop}{s:Α}{a:Ω}{vs:List Ψ}{ss:List α}{n:Nat}{P:Fin->Α->Prop},s.heap.get? a=Δ (seqObj "list" vs.toArray n)->Ar ky.mv vs ss->vs.length < 64->
   (∀ (out:Array Ψ) (Lx:List α),Ar ky.mv out.toList Lx->Lx.Perm ss->Od Lx->P (.done (.ret .none)) {s with heap:=sortedHeap s.heap a vs out})->Κ (Μ prog w) A (Builtin.«list.sort» ⟨[.ref a],[]⟩) P E s)
  (h:∀ h' tk d D (out:Array Ψ) c Nv,(∀ b o,s.heap.get? b=Δ o->h'.get? b=Δ o)->s.heap.objs.size<=D->h'.get? D=Δ (seqObj "list" out c)->Ar ky.mv out.toList Nv->Nv.Perm σ->Od Nv->Q (.ref D) {s with heap:=h',toks:=tk,drawn:=d}) :
  Κ (Μ prog w) A (call (.builtin "sorted") [.ref a]) Q E s:=by
 have hz:σ.length<=Ζ:=by rw[sizeLine_eq];omega
 refine Calls.call_function_entry kind_sorted plain_sorted entry_sorted (args_sorted1 _) ?_;unfold Builtin.«sorted»;refine a_ (m:=checkCount "sorted" 1 1 _) (e_ (a_ (mr (A:=A.in1) hh hS hz fun h' tk d acc Gr hk GA=>?_)));obtain⟨ks,k1,k2⟩:=GA;have hl:acc.toList.length=σ.length:=by rw[Ar.length k1,k2.length_eq]
 refine a_ (wpAny_newList ?_ (by rw[hl];exact hz));have gL:(h'.push (seqObj "list" acc.toList.toArray 0)).get? h'.objs.size=Δ (seqObj "list" acc.toList.toArray 0):=w_ _ rfl;have nD:s.heap.get? h'.objs.size=Φ:=by
  cases e:s.heap.get? h'.objs.size with
  | none=>rfl
  | some o=>exact absurd (j_ (hk _ _ e)) (T_ _)
 refine a_ (M_ (aac (s:={s with heap:=h'.push (seqObj "list" acc.toList.toArray 0),toks:=tk,drawn:=d}) slot_list_sort ⟨_,gL,rfl⟩ entry_list_sort (YC (s:={s with heap:=h'.push (seqObj "list" acc.toList.toArray 0),toks:=tk,drawn:=d}) gL k1 (by rw[hl];exact Lw) fun out Nv a1 a2 a3=>⟨_,rfl,?_⟩) (args_list_sort _)));obtain⟨c,hc⟩:=sortedHeap_at (out:=out) gL;refine e_ ⟨_,rfl,h _ tk d _ out c Nv (fun b o e=>?_) (Nat.le_of_lt Gr) hc a1 (a2.trans k2) a3⟩;have e1:=l_ (seqObj "list" acc.toList.toArray 0) (hk b o e);rw[sortedHeap_old (fun z=>by rw[z,nD] at e;cases e) (j_ e1)];exact e1
end
section
variable {prog:Ε}{w:Β}{A:Ι}{E:Ψ->Α->Prop}{s:Α}
instance:Inhabited Str:=⟨⟨#[]⟩⟩
noncomputable def OL (prog:Ε)(w:Β):Ky prog w Int:=⟨intKind prog w,fun n t=>.int n t,fun n t=>intKind_is prog w n t,fun _ _=>rfl⟩
theorem AH {vs:List Ψ}{ns:List Int}:IntsAre vs ns↔Ar (OL prog w).mv vs ns:=by
 constructor
 ·intro h
  induction h with
  | nil=>exact .nil
  | cons n t _ ih=>exact .cons n t ih
 ·intro h
  induction h with
  | nil=>exact .nil
  | cons n t _ ih=>exact .cons n t ih
theorem E3 {A:Ι}{E:Ψ->Α->Prop}{s:Α}{a:Ω}{vs:List Ψ}{ss:List Int}{n:Nat}{P:Fin->Α->Prop}(ho:s.heap.get? a=Δ (seqObj "list" vs.toArray n)) (hS:Ar (OL prog w).mv vs ss) (Lw:vs.length < 64)
  (h:∀ (out:Array Ψ) (Lx:List Int),Ar (OL prog w).mv out.toList Lx->Lx.Perm ss->Lx.Pairwise (·<=·)->P (.done (.ret .none)) {s with heap:=sortedHeap s.heap a vs out}):Κ (Μ prog w) A (Builtin.«list.sort» ⟨[.ref a],[]⟩) P E s:=
 list_sort_tree ho (AH.mpr hS) Lw fun out Lx a1 a2 a3=>h out Lx (AH.mp a1) a2 a3
end
end L2.Se
namespace L2.Sv
open PySem PyProof.Rows
end L2.Sv
namespace L2
open PySem PySem.Spec PyProof.Rows PySem.SeqAt
noncomputable def dd (ns:List Int):List Int:=ns.foldl step_dedup []
theorem rX (ns:List Int):(dd ns).length<=ns.length:=by have:=Se.jP ns [];simpa[dd] using this
section
variable {X:Cx}
noncomputable def XS:HO:=.ext fun _=>True
def Cs (X:Cx)(σ:List Int)(o:Obj):Prop:=∃ es ep t,Se.He (Se.OL X.prog X.w) (!Se.de X.w) σ o es ep t
theorem qB (hc:X.calm=Θ):dI X (.type "set") (fun xs H Q=>∃ (p:Ω) (ns:List Int),xs=[.ref p]/\GV X.K H p (ns.map V.int)/\ns.length < 64/\∀ a o,H a=Φ->Cs X (dd ns) o->Q (.ref a) (upd H a (.Gh o XS))):=by intro pins s σ H xs us Q I r h;obtain⟨p,ns,rfl,hq,Lw,q⟩:=h;obtain⟨u,rfl,rx⟩:=vals1 r;cases rx;obtain⟨its,rv,pl,hz⟩:=I.list hq;have hi:=intsAre_of rv;have hlen:=rv.length;rw[i_] at hlen;refine Se.rR (ky:=Se.OL X.prog X.w) (I.ok.hd hc) pl.isList (Se.AH.mp (by simpa using hi)) (by rw[E_];unfold scanBound;omega) fun h' tk hS k=>?_;obtain⟨o,es,ep,t,ho,D⟩:=hS;exact⟨.ref _,_,I.laid (t':=tk) (fun b u e=>k b u (j_ e) e) (m_ _) (show cY X.prog X.w _ _ _ (.Gh o XS) from ⟨ho,trivial,⟨_,ho⟩,fun _ _ _ _=>trivial⟩),rfl,q _ o (I.Ge.fresh (m_ _)) ⟨es,ep,t,D⟩⟩
theorem Inv.Ly {pins:List (Ω×Obj)}{σ:St}{H:Hp}{s:Α}(I:Inv X pins σ H s)(d:Drawn):Inv X pins σ H {s with drawn:=d}:=⟨I.ok,I.os,I.bare,I.base,I.loc,I.cell,I.free,I.Hf,I.pin,I.Ge,I.len⟩
theorem kM (hc:X.calm=Θ):dI X (.builtin "sorted") (fun xs H Q=>∃ (p:Ω) (o:Obj) (ns:List Int),xs=[.ref p]/\H p=Δ (.Gh o XS)/\Cs X ns o/\ns.length < 64/\∀ l,H l=Φ->Q (.ref l) (upd H l (.lst ((PySem.W.sortI ns).map V.int)))):=by
 intro pins s σ H xs us Q I r h;obtain⟨p,o,ns,rfl,hp,⟨es,ep,t,D⟩,Lw,q⟩:=h;obtain⟨u,rfl,rx⟩:=vals1 r;cases rx;have ho:s.heap.get? p=Δ o:=(I.Ge p _ hp).1;refine Se.nX (I.ok.hd hc) ⟨o,es,ep,t,ho,D⟩ Lw Se.E3 fun h' tk d Dn out c Nv k hD e a1 a2 a3=>?_;rw[PySem.W.eq_sortI a2 a3] at a1;have L':Vals ((PySem.W.sortI ns).map V.int) out.toList:=by
  generalize PySem.W.sortI ns=ms at a1;generalize out.toList=vs at a1
  induction a1 with
  | nil=>exact .nil
  | cons n t _ ih=>exact .cons ⟨t,rfl⟩ ih
 have J:=I.laid (t':=tk) (o:=.lst ((PySem.W.sortI ns).map V.int)) k hD (show cY X.prog X.w _ _ _ (.lst _) from ⟨by rw[i_,(PySem.W.sortI_perm ns).length_eq,sizeLine_eq];omega,out.toList,c,L',by simpa using e⟩);exact⟨.ref _,_,J.Ly d,rfl,q _ (I.Ge.fresh hD)⟩
end
section
variable {X:Cx}
def E4:V->List V->Hp->VK->Prop:=fun x vs H Q=>∃ l xs i y,x=.ref l/\vs=[.int i,y]/\H l=Δ (.lst xs)/\0<=i/\i.toNat<=xs.length/\xs.length < Ζ/\Q .F4 (upd H l (.lst (xs.take i.toNat++y::xs.drop i.toNat)))
theorem AJ:Vp X "list.insert" E4:=by
 intro pins s σ H x vs v us Q I rx rv h;obtain⟨l,xs,i,y,rfl,rfl,hH,h0,hi,hz,q⟩:=h;cases rx;have hs:Ζ=16777216:=sizeLine_eq;cases rv with
 | cons r1 L'=>
  obtain⟨t,rfl⟩:=r1;obtain⟨u,rfl,ru⟩:=Vals.one L';obtain⟨z,its,n,r,hl,e⟩:=I.Og hH;refine call_meets F.slot_list_insert ⟨_,e,rfl⟩ F.entry_list_insert (F.args_list_insert_3 _ _ _) (AutoSeq1.list_insert_list_int_val_1 l its.toArray n i t u (by rw[fitsIndex_both ⋯ ⋯];decide) (by rw[E_];omega)) ⟨e,?_⟩;refine⟨.F4,_,I.Of (its':=its.take i.toNat++u::its.drop i.toNat) hH e ?_ ((r.take i.toNat).append (.cons ru (r.drop i.toNat))) ?_,rfl,q⟩
  ·have h1:¬ i < 0:=⋯
   have h2:min i.toNat its.toArray.size=i.toNat:=by rw[E_];omega
   simp only[h1,if_false,h2];apply Array.ext';simp;rw[List.take_of_length_le (by rw[aaa];omega)]
  ·rw[o_,List.length_cons,L_,aaa];omega
end
end L2
namespace L2.Sx
open PySem PyProof.Rows
end L2.Sx
namespace L2
open PySem PySem.Spec PyProof.Rows
end L2
namespace L2.Dp
open PySem PyProof.Rows
end L2.Dp
namespace L2
open PySem PySem.Spec PyProof.Rows
open PySem.SeqAt
section
variable {X:Cx}
theorem Inv.Gn {pins:List (Ω×Obj)}{σ:St}{H:Hp}{s:Α}{p:Ω}{Gd:List (Key×V)}(I:Inv X pins σ H s)(e:Rd H p (.dK Gd)):Gd.length<=Ζ/\(p == sysModules)=Ξ/\∃ vs o es ep,KV Gd vs/\s.heap.get? p=Δ o/\o.data=.dict es ep/\s.heap.DictAt (ik X.prog X.w) p vs ep:=by obtain⟨h1,h2,vs,kv,o,es,ep,ho,c,hd,r⟩:=e.ok I.Ge;exact⟨h1,h2,vs,o,es,ep,kv,ho,hd,o,es,ho,c,hd,r⟩
theorem KV.len {κ:Type}{Gd:List (κ×V)}{vs:List (κ×Ψ)}(r:KV Gd vs):Gd.length=vs.length:=Paired.length r
theorem qC:dI X (.builtin "len") (fun xs H Q=>∃ (p:Ω) (Gd:List (Key×V)),xs=[.ref p]/\Rd H p (.dK Gd)/\Q (.int Gd.length) H):=by intro pins s σ H xs us Q I r h;obtain⟨p,Gd,rfl,hp,q⟩:=h;obtain⟨u,rfl,rx⟩:=vals1 r;cases rx;obtain⟨hz,lo,vs,o,es,ep,kv,ho,hd,hm⟩:=I.Gn hp;have hs:Ζ=16777216:=sizeLine_eq;have hl:=kv.len;exact call_len_dict lo hm.dictOf ⋯ ⟨.int Gd.length,H,I.tok _,⟨_,by rw[hl]⟩,q⟩
end
noncomputable def SF (K:Frag)(l:Ω):It:=
 ⟨fun i H=>∃ xs x,GV K H l xs/\xs[i]? = Δ x,
  fun i H v H'=>∃ T x,v=.ref T/\H T=Φ/\H'=upd H T (.tup [.int i,x])/\∀ xs,GV K H l xs->xs[i]? = Δ x,
  fun i H=>∃ xs,GV K H l xs/\xs.length<=i⟩
theorem qD {P:Ε}{w:Β}{K:Frag}{es:List Expr}{c:Nat}{pos:Pos}(e it l:Ω)(Hq:e≠it) :
  Turn P w K (.Tuple es c pos) (SF K l) [e,it] e (fun n h=>(∃ old,IsEnum h e it n old)/\h.IsListIter it l n) where
 mem:=by simp
 obj:=fun n h st b hb=>by
  obtain⟨⟨old,he⟩,ci⟩:=st;simp only[k_,R_,or_false] at hb;rcases hb with rfl|rfl
  ·exact⟨_,he,fun v z=>by cases z⟩
  ·obtain⟨o,e,c,d⟩:=ci;exact⟨o,e,fun v z=>by rw[d] at z;cases z⟩
 keep:=fun n h h' st k=>by obtain⟨⟨old,he⟩,ci⟩:=st;exact⟨⟨old,k e (by simp) _ he⟩,ci.at fun o q=>k it (by simp) o q⟩
 item:=by
  intro X hP hw hK hc n pins s σ H E I hf st hg;subst hP hw hK;obtain⟨⟨old,he⟩,ci⟩:=st;obtain⟨xs,x,hq,hx⟩:=hg;obtain⟨its,rv,p,hz⟩:=I.list hq;obtain⟨u,hu,ru⟩:=rv.get hx;refine wpAny_pyNext_enum_item he ci p.isList (x:=u) (by simpa using hu) Hq fun h1 a1 a2 a3 a4 hk=>?_;refine⟨_,rfl,?_⟩;have le:e < s.heap.objs.size:=j_ he;have YD:s.heap.objs.size≠e:=Q_ le;refine wpAny_letOwnedTupleGo_enum (s:={s with heap:=h1,toks:=s.toks+1}) a1 fun h2 YE IY=>?_;have kk:∀ b o,b∉[e,it]->s.heap.get? b=Δ o->h2.get? b=Δ o:=fun b o hb q=>by simp only[k_,R_,or_false,not_or] at hb;exact IY.extBut _ _ hb.1 (hk b o hb.1 hb.2 q)
  have hT:=IY.extBut _ _ YD a3;have I2:Inv X pins σ (upd H s.heap.objs.size (.tup [.int n,x])) {s with heap:=h2,toks:=s.toks+1}:=I.KP (t':=s.toks+1) kk hf (m_ _) ⟨by show 2<=Ζ;decide,[.int n s.toks,u],.cons ⟨_,rfl⟩ (.cons ru .nil),⟨_,hT,rfl,_,rfl⟩⟩;refine⟨.ref s.heap.objs.size,_,I2,rfl,⟨_,x,rfl,I.Ge.fresh (m_ _),rfl,fun Sa g1=>by rw[I.GG g1 hq];exact hx⟩,⟨⟨_,by rw[Int.natCast_succ];exact YE⟩,a2.at fun o q=>IY.extBut _ _ Hq.symm q⟩,fun b hb=>?_⟩;have Il:b < s.heap.objs.size:=by
   simp only[k_,R_,or_false] at hb;rcases hb with rfl|rfl
   ·exact le
   ·obtain⟨o,q,_⟩:=ci;exact j_ q
  rw[cu (n_ Il)];exact(hf b hb).1
 done:=by
  intro X hP hw hK hc n pins s σ H E I hf st hg;subst hP hw hK;obtain⟨⟨old,he⟩,ci⟩:=st;obtain⟨xs,hq,hx⟩:=hg;obtain⟨its,rv,p,hz⟩:=I.list hq;have l1:=rv.length;refine wpAny_pyNext_enum_end (I.ok.hd hc) he ci p.isList (Array.getElem?_eq_none (by simp;omega)) fun h1 hk=>⟨rfl,I.turns (t':=s.toks) (ch:=[e,it]) (fun b o hb q=>?_) hf⟩
  simp only[k_,R_,or_false,not_or] at hb;exact hk b o hb.2 q
 self:=fun _ _ _ _ _ st h=>by obtain⟨⟨old,he⟩,_⟩:=st;exact wpAny_pyIter_enum he h
def E5 (K:Frag)(ta:TA):TI:=fun σ H R=>ta σ H fun vs H1=>∃ l xs,vs=[.ref l]/\GV K H1 l xs/\R (SF K l) H1
theorem wA {X:Cx}{a:Expr}{ta:TA}{es:List Expr}{c:Nat}{p tp pos:Pos}(hg:Gl X "enumerate") (hm:X.mg "enumerate" = Φ) (ha:PA X [a] ta) (hs:Ν [a] X.env=[(Ξ,eval a X.env)]) :
  PI X (.Tuple es c tp) (.Call (.Name "enumerate" p) [a] [] pos) (E5 X.K ta):=by
 intro pins s σ H R I h;refine Call_ (fq I hg hm boot_enumerate (aav (Gf (ha pos pins s σ H _ I h) fun us s1 ⟨vs,H1,I1,r1,q1⟩=>?_) hs rfl));obtain⟨l,xs,e,g1,q⟩:=q1;subst e;obtain⟨u,rfl,r⟩:=vals1 r1;cases r;obtain⟨Je,Kb,p1,hz⟩:=I1.list g1;refine call_enumerate_list p1.isList fun h2 b1 b2 b3 b4=>?_;refine wpAny_pyIter_enum (s:={s1 with heap:=h2}) b1 ?_;refine⟨s1.heap.objs.size+1,[s1.heap.objs.size+1,s1.heap.objs.size],_,_,H1,rfl,I1.kept (t':=s1.toks) b4,qD _ _ l (Nat.succ_ne_self _),⟨⟨_,b1⟩,b2⟩,fun b hb=>?_,q⟩;have Il:s1.heap.objs.size<=b:=by
  simp only[k_,R_,or_false] at hb;rcases hb with rfl|rfl
  ·exact aaj _ _
  ·exact m_ _
 exact I1.Jt Il (I1.Ge.fresh Il)
noncomputable def YF (K:Frag)(l:Ω)(n:Nat):It:=
 ⟨fun i H=>∃ xs,GV K H l xs/\xs.length=n/\i < n,fun i H x H'=>H'=H/\∀ xs,GV K H l xs->xs.length=n->xs[n - 1 - i]? = Δ x,fun i H=>i=n⟩
inductive D where
 | F4|bl (b:Bool)|int (i:Int)|str (x:Str)|tup (ds:List D)|lst (own:Bool) (ds:List D)|exc (c:Str)|Gn (own:Bool) (ks:List Key) (ds:List D)
 deriving Inhabited
mutual
noncomputable def er:D->D
 | .tup ds=>.tup (FA ds)
 | .lst _ ds=>.lst Ξ (FA ds)
 | .Gn _ ks ds=>.Gn Ξ ks (FA ds)
 | .F4=>.F4
 | .bl b=>.bl b
 | .int i=>.int i
 | .str x=>.str x
 | .exc c=>.exc c
noncomputable def FA:List D->List D
 | []=>[]
 | d::ds=>er d::FA ds
end
mutual
noncomputable def cq:D->Bool
 | .tup ds=>ck ds
 | .lst _ _=>Ξ
 | .Gn _ _ _=>Ξ
 | .F4=>Θ
 | .bl _=>Θ
 | .int _=>Θ
 | .str _=>Θ
 | .exc _=>Θ
noncomputable def ck:List D->Bool
 | []=>Θ
 | d::ds=>cq d&&ck ds
end
theorem cA:∀ ds:List D,FA ds=ds.map er
 | []=>rfl
 | d::ds=>by rw[FA,cA ds];rfl
theorem dg:∀ ds:List D,ck ds=ds.all cq
 | []=>rfl
 | d::ds=>by rw[ck,dg ds];rfl
theorem dJ (ds:List D):(FA ds).length=ds.length:=by rw[cA,i_]
mutual
theorem rY:∀ {d:D},cq d=Θ->er d=d
 | .F4,_=>rfl
 | .bl _,_=>rfl
 | .int _,_=>rfl
 | .str _,_=>rfl
 | .exc _,_=>rfl
 | .tup ds,h=>by rw[er,eh (ds:=ds) h]
 | .lst o ds,h=>by cases (show Ξ=Θ from h)
 | .Gn o ks ds,h=>by cases (show Ξ=Θ from h)
theorem eh:∀ {ds:List D},ck ds=Θ->FA ds=ds
 | [],_=>rfl
 | d::ds,h=>by have h':(cq d&&ck ds)=Θ:=h;rw[g_] at h';rw[FA,rY h'.1,eh h'.2]
end
mutual
theorem xZ:∀ d:D,er (er d)=er d
 | .F4=>rfl
 | .bl _=>rfl
 | .int _=>rfl
 | .str _=>rfl
 | .exc _=>rfl
 | .tup ds=>by rw[er,er,GX ds]
 | .lst _ ds=>by rw[er,er,GX ds]
 | .Gn _ ks ds=>by rw[er,er,GX ds]
theorem GX:∀ ds:List D,FA (FA ds)=FA ds
 | []=>rfl
 | d::ds=>by rw[FA,FA,xZ d,GX ds]
end
inductive Exc where
 | stuck|exc (c:Str)
abbrev Res (α:Type):=Except Exc α
noncomputable abbrev F5 {α:Type}:Res α:=.error .stuck
noncomputable def Fu {α β:Type}(x:Res α)(f:α->Res β):Res β:=match x with
 | .ok a=>f a
 | .error e=>.error e
noncomputable def FE {α:Type}(c:Bool)(x:Res α):Res α:=if c=Θ then x else F5
def Fw {α:Type}(ex:Str->Prop)(x:Res α)(k:α->Prop):Prop:=match x with
 | .ok a=>k a
 | .error (.exc c)=>ex c
 | .error .stuck=>False
theorem Fw.Fu {α β:Type}{ex:Str->Prop}{x:Res α}{f:α->Res β}{k:β->Prop}(h:Fw ex (Fu x f) k):Fw ex x fun a=>Fw ex (f a) k:=by
 cases x with
 | ok a=>exact h
 | error e=>cases e<;>exact h
theorem Fw.FE {α:Type}{ex:Str->Prop}{c:Bool}{x:Res α}{k:α->Prop}(h:Fw ex (FE c x) k):c=Θ/\Fw ex x k:=by
 unfold L2.FE at h
 induction c using zB with
 | true=>exact⟨rfl,h⟩
 | false=>exact False.elim h
theorem Fw.mono {α:Type}{ex:Str->Prop}{x:Res α}{k k':α->Prop}(h:Fw ex x k)(m:∀ a,k a->k' a):Fw ex x k':=by
 cases x with
 | ok a=>exact m a h
 | error e=>cases e<;>exact h
theorem Fw.mk {α β:Type}{ex:Str->Prop}{x:Res α}{f:α->Res β}{k:β->Prop}(h:Fw ex x fun a=>Fw ex (f a) k):Fw ex (L2.Fu x f) k:=by
 cases x with
 | ok a=>exact h
 | error e=>cases e<;>exact h
theorem Fw.eq {α:Type}{ex:Str->Prop}{x:Res α}{k:α->Prop}(h:Fw ex x k):Fw ex x fun a=>x=.ok a/\k a:=by
 cases x with
 | ok a=>exact⟨rfl,h⟩
 | error e=>cases e<;>exact h
theorem Fw.ok {α:Type}{ex:Str->Prop}{a:α}{k:α->Prop}(h:Fw ex (.ok a:Res α) k):k a:=h
theorem Fw.no {α:Type}{ex:Str->Prop}{k:α->Prop}(h:Fw ex (F5:Res α) k):False:=h
inductive LD where
 | l (xs:List V)|d (Gd:List (Key×V))
noncomputable abbrev LD.o:LD->HO
 | .l xs=>.lst xs
 | .d Gd=>.dK Gd
theorem KL.sq {K:Frag}{H:Hp}{a:Ω}{xs:List V}(h:KL K a xs):GV K H a xs:=by obtain⟨its,n,h1,h2,h3⟩:=h;exact .inr ⟨_,its.toArray,n,h1,rfl,rfl,rfl,by simpa using h2,by simpa using h3⟩
theorem Inv.ls {X:Cx}{pins:List (Ω×Obj)}{σ:St}{H:Hp}{s:Α}{a:Ω}{xs:List V}(I:Inv X pins σ H s)(h:Ls X.K H a xs) :
  xs.length<=Ζ/\∃ (its:List Ψ) (n:Nat),Vals xs its/\s.heap.get? a=Δ {cls:=.type "list",data:=.seq its.toArray n}:=by
 rcases h with h|⟨its,n,h1,h2,h3⟩
 ·obtain⟨z,its,n,r,e⟩:=h.ok I.Ge;exact⟨z,its,n,r,e⟩
 ·exact⟨by rw[h3.length];exact h2,its,n,h3,I.Jl _ _ h1⟩
noncomputable def nameIn (K:Frag)(C:Ω):Option Str:=match K.lookup C with
 | some ⟨_,_,.cls cd,_⟩=>Δ cd.name
 | _=>Φ
noncomputable def XU:HO:=.ext fun _=>True
def XO (K:Frag)(H:Hp)(a:Ω)(c:Str):Prop:=∃ (C:Ω) (o:Obj) (vs:Array Ψ),PySem.W.nsIn K Η c=Δ (Δ (.ref C))/\nameIn K C=Δ c/\H a=Δ (.Gh o XU)/\o.cls=.ref C/\o.data=.fields vs
def G2 (K:Frag)(H:Hp)(a:Ω):List V ⊕ Str->Prop
 | .inl xs=>Hn K H a xs
 | .inr c=>XO K H a c
mutual
inductive Fx (K:Frag)(S:Ω->Prop)(H:Hp):V->D->Prop where
 | F4:Fx K S H .F4 .F4
 | bl (b:Bool):Fx K S H (.bl b) (.bl b)
 | int (i:Int):Fx K S H (.int i) (.int i)
 | str (x:Str):Fx K S H (.str x) (.str x)
 | exc {a:Ω}{c:Str}:G2 K H a (.inr c)->Fx K S H (.ref a) (.exc c)
 | tup {a:Ω}{xs:List V}{ds:List D}:Hn K H a xs->Fv K S H xs ds->Fx K S H (.ref a) (.tup ds)
 | lst {a:Ω}{xs:List V}{o:Bool}{ds:List D}:S a->Rd H a (.lst xs)->Fv K S H xs ds->Fx K S H (.ref a) (.lst o ds)
 | lstK {a:Ω}{xs:List V}{o:Bool}{ds:List D}:KL K a xs->Fv K S H xs ds->Fx K S H (.ref a) (.lst o ds)
 | Gn {a:Ω}{Gd:List (Key×V)}{o:Bool}{ks:List Key}{ds:List D}:S a->Rd H a (.dK Gd)->Gd.map (·.1)=ks->Fv K S H (Gd.map (·.2)) ds->Fx K S H (.ref a) (.Gn o ks ds)
inductive Fv (K:Frag)(S:Ω->Prop)(H:Hp):List V->List D->Prop where
 | nil:Fv K S H [] []
 | cons {v:V}{d:D}{vs:List V}{ds:List D}:Fx K S H v d->Fv K S H vs ds->Fv K S H (v::vs) (d::ds)
end
mutual
inductive F6 (K:Frag)(F:Ω->Prop)(H:Hp):V->D->List Ω->Prop where
 | F4:F6 K F H .F4 .F4 []
 | bl (b:Bool):F6 K F H (.bl b) (.bl b) []
 | int (i:Int):F6 K F H (.int i) (.int i) []
 | str (x:Str):F6 K F H (.str x) (.str x) []
 | exc {a:Ω}{c:Str}:G2 K H a (.inr c)->F6 K F H (.ref a) (.exc c) []
 | tup {a:Ω}{xs:List V}{ds:List D}{f:List Ω}:Hn K H a xs->Fy K F H xs ds f->F6 K F H (.ref a) (.tup ds) f
 | Jy {a:Ω}{xs:List V}{ds:List D}:F a->Rd H a (.lst xs)->Fy K F H xs ds []->F6 K F H (.ref a) (.lst Ξ ds) []
 | lstK {a:Ω}{xs:List V}{ds:List D}:KL K a xs->Fy K F H xs ds []->F6 K F H (.ref a) (.lst Ξ ds) []
 | GY {a:Ω}{xs:List V}{ds:List D}{f:List Ω}:¬ F a->H a=Δ (.lst xs)->Fy K F H xs ds f->F6 K F H (.ref a) (.lst Θ ds) (a::f)
 | Lz {a:Ω}{Gd:List (Key×V)}{ks:List Key}{ds:List D}:F a->Rd H a (.dK Gd)->Gd.map (·.1)=ks->Fy K F H (Gd.map (·.2)) ds []->F6 K F H (.ref a) (.Gn Ξ ks ds) []
 | MU {a:Ω}{Gd:List (Key×V)}{ks:List Key}{ds:List D}{f:List Ω}:¬ F a->H a=Δ (.dK Gd)->Gd.map (·.1)=ks->Fy K F H (Gd.map (·.2)) ds f->F6 K F H (.ref a) (.Gn Θ ks ds) (a::f)
inductive Fy (K:Frag)(F:Ω->Prop)(H:Hp):List V->List D->List Ω->Prop where
 | nil:Fy K F H [] [] []
 | cons {v:V}{d:D}{f:List Ω}{vs:List V}{ds:List D}{g:List Ω}:F6 K F H v d f->Fy K F H vs ds g->Fy K F H (v::vs) (d::ds) (f++g)
end
theorem cz.rd {H H':Hp}{a:Ω}{u:HO}(e:cz H H')(h:Rd H a u):Rd H' a u:=by
 rcases h with h|⟨o,h⟩
 ·exact .inl (e _ _ h)
 ·exact .inr ⟨o,e _ _ h⟩
theorem cz.Io {K:Frag}{H H':Hp}{a:Ω}{xs:List V ⊕ Str}(e:cz H H')(h:G2 K H a xs):G2 K H' a xs:=by
 cases xs with
 | inl xs=>
  rcases h with h|h
  ·exact .inl (e.rd h)
  ·exact .inr h
 | inr c=>obtain⟨C,o,vs,h0,h1,h2,h3⟩:=h;exact⟨C,o,vs,h0,h1,e _ _ h2,h3⟩
theorem G2.upd {K:Frag}{H:Hp}{a l:Ω}{xs:List V ⊕ Str}{ys zs:List V}(hl:H l=Δ (.lst ys))(h:G2 K H a xs):G2 K (upd H l (.lst zs)) a xs:=by
 cases xs with
 | inl xs=>
  rcases h with h|h
  ·have:a≠l:=by rintro rfl;rcases h with h|⟨o,h⟩<;>(rw[hl] at h;cases h)
   refine .inl ?_;unfold Rd;rw[cu this];exact h
  ·exact .inr h
 | inr c=>
  obtain⟨C,o,vs,h0,h1,h2,h3⟩:=h;have:a≠l:=by rintro rfl;rw[hl] at h2;cases h2
  exact⟨C,o,vs,h0,h1,by rw[cu this];exact h2,h3⟩
theorem Rd.some {H:Hp}{a:Ω}{u:HO}(h:Rd H a u):H a≠Φ:=by rcases h with h|⟨o,h⟩<;>(rw[h];simp)
section
variable {K:Frag}{S S' F F':Ω->Prop}{H H':Hp}
theorem Fx.step (hl:∀ a (u:LD),S a->Rd H a u.o->S' a/\Rd H' a u.o)(ht:∀ a xs,G2 K H a xs->G2 K H' a xs){v:V}{d:D}(h:Fx K S H v d):Fx K S' H' v d:=
 Fx.rec (motive_1:=fun v d _=>Fx K S' H' v d) (motive_2:=fun v d _=>Fv K S' H' v d) .F4 .bl .int .str (fun h=>.exc (ht _ (.inr _) h)) (fun h1 _ i=>.tup (ht _ (.inl _) h1) i)
  (fun h0 h1 _ i=>.lst (hl _ (.l _) h0 h1).1 (hl _ (.l _) h0 h1).2 i) (fun h1 _ i=>.lstK h1 i) (fun h0 h1 h2 _ i=>.Gn (hl _ (.d _) h0 h1).1 (hl _ (.d _) h0 h1).2 h2 i) .nil (fun _ _ i j=>.cons i j) h
theorem Fv.step (hl:∀ a (u:LD),S a->Rd H a u.o->S' a/\Rd H' a u.o)(ht:∀ a xs,G2 K H a xs->G2 K H' a xs){v:List V}{d:List D}(h:Fv K S H v d):Fv K S' H' v d:=
 Fv.rec (motive_1:=fun v d _=>Fx K S' H' v d) (motive_2:=fun v d _=>Fv K S' H' v d) .F4 .bl .int .str (fun h=>.exc (ht _ (.inr _) h)) (fun h1 _ i=>.tup (ht _ (.inl _) h1) i)
  (fun h0 h1 _ i=>.lst (hl _ (.l _) h0 h1).1 (hl _ (.l _) h0 h1).2 i) (fun h1 _ i=>.lstK h1 i) (fun h0 h1 h2 _ i=>.Gn (hl _ (.d _) h0 h1).1 (hl _ (.d _) h0 h1).2 h2 i) .nil (fun _ _ i j=>.cons i j) h
theorem Fx.mono {v:V}{d:D}(h:Fx K S H v d)(hS:∀ a,S a->S' a)(e:cz H H'):Fx K S' H' v d:=h.step (fun a xs s r=>⟨hS a s,e.rd r⟩) fun a xs s=>e.Io s
theorem Fv.mono {v:List V}{d:List D}(h:Fv K S H v d)(hS:∀ a,S a->S' a)(e:cz H H'):Fv K S' H' v d:=h.step (fun a xs s r=>⟨hS a s,e.rd r⟩) fun a xs s=>e.Io s
theorem Fv.Jg {v:List V}{d:List D}(h:Fv K S H v d):Fv K (fun a=>S a/\H a≠Φ) H v d:=h.step (fun a xs s r=>⟨⟨s,r.some⟩,r⟩) fun a xs s=>s
theorem Fx.frozen {v:V}{d:D}(h:Fx K F H v d):F6 K F H v (L2.er d) []:=
 Fx.rec (motive_1:=fun v d _=>F6 K F H v (L2.er d) []) (motive_2:=fun v d _=>Fy K F H v (L2.FA d) []) .F4 .bl .int .str (fun h=>.exc h) (fun h1 _ i=>.tup h1 i) (fun h0 h1 _ i=>.Jy h0 h1 i) (fun h1 _ i=>.lstK h1 i) (fun h0 h1 h2 _ i=>.Lz h0 h1 h2 i) .nil (fun _ _ i j=>.cons (f:=[]) (g:=[]) i j) h
theorem Fv.frozen {v:List V}{d:List D}(h:Fv K F H v d):Fy K F H v (L2.FA d) []:=
 Fv.rec (motive_1:=fun v d _=>F6 K F H v (L2.er d) []) (motive_2:=fun v d _=>Fy K F H v (L2.FA d) []) .F4 .bl .int .str (fun h=>.exc h) (fun h1 _ i=>.tup h1 i) (fun h0 h1 _ i=>.Jy h0 h1 i) (fun h1 _ i=>.lstK h1 i) (fun h0 h1 h2 _ i=>.Lz h0 h1 h2 i) .nil (fun _ _ i j=>.cons (f:=[]) (g:=[]) i j) h
theorem wB {a b:Bool}(h:(a&&b)=Θ):a=Θ/\b=Θ:=by rwa [g_] at h
theorem Fx.free {v:V}{d:D}(n:cq d=Θ)(h:Fx K S H v d):F6 K F H v d []:=
 Fx.rec (motive_1:=fun v d _=>cq d=Θ->F6 K F H v d []) (motive_2:=fun v d _=>ck d=Θ->Fy K F H v d []) (fun _=>.F4) (fun b _=>.bl b) (fun b _=>.int b) (fun b _=>.str b) (fun h _=>.exc h) (fun h1 _ i n=>.tup h1 (i n)) (fun _ _ _ _ n=>nomatch n) (fun _ _ _ n=>nomatch n) (fun _ _ _ _ _ n=>nomatch n) (fun _=>.nil) (fun _ _ i j n=>.cons (f:=[]) (g:=[]) (i (wB n).1) (j (wB n).2)) h n
theorem Fv.free {v:List V}{d:List D}(n:ck d=Θ)(h:Fv K S H v d):Fy K F H v d []:=
 Fv.rec (motive_1:=fun v d _=>cq d=Θ->F6 K F H v d []) (motive_2:=fun v d _=>ck d=Θ->Fy K F H v d []) (fun _=>.F4) (fun b _=>.bl b) (fun b _=>.int b) (fun b _=>.str b) (fun h _=>.exc h) (fun h1 _ i n=>.tup h1 (i n)) (fun _ _ _ _ n=>nomatch n) (fun _ _ _ n=>nomatch n) (fun _ _ _ _ _ n=>nomatch n) (fun _=>.nil) (fun _ _ i j n=>.cons (f:=[]) (g:=[]) (i (wB n).1) (j (wB n).2)) h n
theorem dB {p:Ω->Prop}:∀ a∈([]:List Ω),p a:=fun _ h=>nomatch h
theorem F6.read {v:V}{d:D}{f:List Ω}(hF:∀ a,F a->S a)(hf:∀ a∈f,S a)(h:F6 K F H v d f):Fx K S H v d:=
 F6.rec (motive_1:=fun v d f _=>(∀ a∈f,S a)->Fx K S H v d) (motive_2:=fun v d f _=>(∀ a∈f,S a)->Fv K S H v d) (fun _=>.F4) (fun b _=>.bl b) (fun b _=>.int b) (fun b _=>.str b) (fun h _=>.exc h) (fun h1 _ i hf=>.tup h1 (i hf))
  (fun h0 h1 _ i _=>.lst (hF _ h0) h1 (i dB)) (fun h1 _ i _=>.lstK h1 (i dB)) (fun _ h1 _ i hf=>.lst (hf _ (.head _)) (.inl h1) (i fun b hb=>hf b (.tail _ hb))) (fun h0 h1 h2 _ i _=>.Gn (hF _ h0) h1 h2 (i dB)) (fun _ h1 h2 _ i hf=>.Gn (hf _ (.head _)) (.inl h1) h2 (i fun b hb=>hf b (.tail _ hb))) (fun _=>.nil)
  (fun _ _ i j hf=>.cons (i fun a ha=>hf a (r_ _ ha)) (j fun a ha=>hf a (s_ _ ha))) h hf
theorem Fy.read {v:List V}{d:List D}{f:List Ω}(hF:∀ a,F a->S a)(hf:∀ a∈f,S a)(h:Fy K F H v d f):Fv K S H v d:=
 Fy.rec (motive_1:=fun v d f _=>(∀ a∈f,S a)->Fx K S H v d) (motive_2:=fun v d f _=>(∀ a∈f,S a)->Fv K S H v d) (fun _=>.F4) (fun b _=>.bl b) (fun b _=>.int b) (fun b _=>.str b) (fun h _=>.exc h) (fun h1 _ i hf=>.tup h1 (i hf))
  (fun h0 h1 _ i _=>.lst (hF _ h0) h1 (i dB)) (fun h1 _ i _=>.lstK h1 (i dB)) (fun _ h1 _ i hf=>.lst (hf _ (.head _)) (.inl h1) (i fun b hb=>hf b (.tail _ hb))) (fun h0 h1 h2 _ i _=>.Gn (hF _ h0) h1 h2 (i dB)) (fun _ h1 h2 _ i hf=>.Gn (hf _ (.head _)) (.inl h1) h2 (i fun b hb=>hf b (.tail _ hb))) (fun _=>.nil)
  (fun _ _ i j hf=>.cons (i fun a ha=>hf a (r_ _ ha)) (j fun a ha=>hf a (s_ _ ha))) h hf
theorem eU {α:Type}{x:Option α}{y:α}(h:x=Δ y):x≠Φ:=fun e=>nomatch h.symm.trans e
theorem F6.step (hl:∀ a (u:LD),F a->Rd H a u.o->F' a/\Rd H' a u.o)(ht:∀ a xs,G2 K H a xs->G2 K H' a xs){v:V}{d:D}{f:List Ω}(k:∀ a∈f,¬ F a->H a≠Φ->¬ F' a/\H' a=H a)
  (h:F6 K F H v d f):F6 K F' H' v d f:=
 F6.rec (motive_1:=fun v d f _=>(∀ a∈f,¬ F a->H a≠Φ->¬ F' a/\H' a=H a)->F6 K F' H' v d f) (motive_2:=fun v d f _=>(∀ a∈f,¬ F a->H a≠Φ->¬ F' a/\H' a=H a)->Fy K F' H' v d f) (fun _=>.F4) (fun b _=>.bl b) (fun b _=>.int b) (fun b _=>.str b)
  (fun h _=>.exc (ht _ (.inr _) h)) (fun h1 _ i k=>.tup (ht _ (.inl _) h1) (i k)) (fun h0 h1 _ i _=>.Jy (hl _ (.l _) h0 h1).1 (hl _ (.l _) h0 h1).2 (i dB)) (fun h1 _ i _=>.lstK h1 (i dB))
  (fun h0 h1 _ i k=>.GY (k _ (.head _) h0 (eU h1)).1 ((k _ (.head _) h0 (eU h1)).2.trans h1) (i fun b hb=>k b (.tail _ hb))) (fun h0 h1 h2 _ i _=>.Lz (hl _ (.d _) h0 h1).1 (hl _ (.d _) h0 h1).2 h2 (i dB)) (fun h0 h1 h2 _ i k=>.MU (k _ (.head _) h0 (eU h1)).1 ((k _ (.head _) h0 (eU h1)).2.trans h1) h2 (i fun b hb=>k b (.tail _ hb))) (fun _=>.nil)
  (fun _ _ i j k=>.cons (i fun a ha=>k a (r_ _ ha)) (j fun a ha=>k a (s_ _ ha))) h k
theorem Fy.step (hl:∀ a (u:LD),F a->Rd H a u.o->F' a/\Rd H' a u.o)(ht:∀ a xs,G2 K H a xs->G2 K H' a xs){v:List V}{d:List D}{f:List Ω}(k:∀ a∈f,¬ F a->H a≠Φ->¬ F' a/\H' a=H a)
  (h:Fy K F H v d f):Fy K F' H' v d f:=
 Fy.rec (motive_1:=fun v d f _=>(∀ a∈f,¬ F a->H a≠Φ->¬ F' a/\H' a=H a)->F6 K F' H' v d f) (motive_2:=fun v d f _=>(∀ a∈f,¬ F a->H a≠Φ->¬ F' a/\H' a=H a)->Fy K F' H' v d f) (fun _=>.F4) (fun b _=>.bl b) (fun b _=>.int b) (fun b _=>.str b)
  (fun h _=>.exc (ht _ (.inr _) h)) (fun h1 _ i k=>.tup (ht _ (.inl _) h1) (i k)) (fun h0 h1 _ i _=>.Jy (hl _ (.l _) h0 h1).1 (hl _ (.l _) h0 h1).2 (i dB)) (fun h1 _ i _=>.lstK h1 (i dB))
  (fun h0 h1 _ i k=>.GY (k _ (.head _) h0 (eU h1)).1 ((k _ (.head _) h0 (eU h1)).2.trans h1) (i fun b hb=>k b (.tail _ hb))) (fun h0 h1 h2 _ i _=>.Lz (hl _ (.d _) h0 h1).1 (hl _ (.d _) h0 h1).2 h2 (i dB)) (fun h0 h1 h2 _ i k=>.MU (k _ (.head _) h0 (eU h1)).1 ((k _ (.head _) h0 (eU h1)).2.trans h1) h2 (i fun b hb=>k b (.tail _ hb))) (fun _=>.nil)
  (fun _ _ i j k=>.cons (i fun a ha=>k a (r_ _ ha)) (j fun a ha=>k a (s_ _ ha))) h k
theorem wC {p:Ω->Prop}{x:Ω}{f:List Ω}(h:p x)(i:∀ a∈f,p a):∀ a∈x::f,p a:=by
 intro b hb;rcases k_.mp hb with rfl|hb
 ·exact h
 ·exact i b hb
theorem Ct {p:Ω->Prop}{f g:List Ω}(h:∀ a∈f,p a)(i:∀ a∈g,p a):∀ a∈f++g,p a:=fun b hb=>(v_.mp hb).elim (h b) (i b)
theorem F6.own {v:V}{d:D}{f:List Ω}(h:F6 K F H v d f):∀ a∈f,¬ F a/\∃ u,H a=Δ u:=
 F6.rec (motive_1:=fun _ _ f _=>∀ a∈f,¬ F a/\∃ u,H a=Δ u) (motive_2:=fun _ _ f _=>∀ a∈f,¬ F a/\∃ u,H a=Δ u) dB (fun _=>dB) (fun _=>dB) (fun _=>dB) (fun _=>dB) (fun _ _ i=>i) (fun _ _ _ _=>dB) (fun _ _ _=>dB)
  (fun h0 h1 _ i=>wC ⟨h0,_,h1⟩ i) (fun _ _ _ _ _=>dB) (fun h0 h1 _ _ i=>wC ⟨h0,_,h1⟩ i) dB (fun _ _ i j=>Ct i j) h
theorem Fy.own {v:List V}{d:List D}{f:List Ω}(h:Fy K F H v d f):∀ a∈f,¬ F a/\∃ u,H a=Δ u:=
 Fy.rec (motive_1:=fun _ _ f _=>∀ a∈f,¬ F a/\∃ u,H a=Δ u) (motive_2:=fun _ _ f _=>∀ a∈f,¬ F a/\∃ u,H a=Δ u) dB (fun _=>dB) (fun _=>dB) (fun _=>dB) (fun _=>dB) (fun _ _ i=>i) (fun _ _ _ _=>dB) (fun _ _ _=>dB)
  (fun h0 h1 _ i=>wC ⟨h0,_,h1⟩ i) (fun _ _ _ _ _=>dB) (fun h0 h1 _ _ i=>wC ⟨h0,_,h1⟩ i) dB (fun _ _ i j=>Ct i j) h
theorem Fv.ind {P:List V->List D->Prop}(n:P [] [])(c:∀ v d vs ds,Fx K S H v d->Fv K S H vs ds->P vs ds->P (v::vs) (d::ds)){vs:List V}{ds:List D}(h:Fv K S H vs ds):P vs ds:=
 Fv.rec (motive_1:=fun _ _ _=>True) (motive_2:=fun v d _=>P v d) trivial (fun _=>trivial) (fun _=>trivial) (fun _=>trivial) (fun _=>trivial) (fun _ _ _=>trivial) (fun _ _ _ _=>trivial) (fun _ _ _=>trivial) (fun _ _ _ _ _=>trivial) n (fun a b _ j=>c _ _ _ _ a b j) h
theorem Fy.ind {P:List V->List D->List Ω->Prop}(n:P [] [] [])(c:∀ v d f vs ds g,F6 K F H v d f->Fy K F H vs ds g->P vs ds g->P (v::vs) (d::ds) (f++g)){vs:List V}{ds:List D}{f:List Ω}(h:Fy K F H vs ds f):P vs ds f:=
 Fy.rec (motive_1:=fun _ _ _ _=>True) (motive_2:=fun v d f _=>P v d f) trivial (fun _=>trivial) (fun _=>trivial) (fun _=>trivial) (fun _=>trivial) (fun _ _ _=>trivial) (fun _ _ _ _=>trivial) (fun _ _ _=>trivial) (fun _ _ _ _=>trivial) (fun _ _ _ _ _=>trivial) (fun _ _ _ _ _=>trivial) n (fun a b _ j=>c _ _ _ _ _ _ a b j) h
theorem Fv.length {vs:List V}{ds:List D}(h:Fv K S H vs ds):vs.length=ds.length:=
 Fv.ind (P:=fun v d=>v.length=d.length) rfl (fun _ _ _ _ _ _ j=>congrArg (· + 1) j) h
theorem Fv.get {i:Nat}{vs:List V}{ds:List D}{d:D}(h:Fv K S H vs ds)(e:ds[i]? = Δ d):∃ v,vs[i]? = Δ v/\Fx K S H v d:=
 Fv.ind (P:=fun vs ds=>∀ i d,ds[i]? = Δ d->∃ v,vs[i]? = Δ v/\Fx K S H v d) (fun i d e=>nomatch (show Φ=Δ d from e)) (fun v d _ _ a _ j i d e=>by
  cases i with
  | zero=>exact⟨_,rfl,D_ e ▸ a⟩
  | succ i=>exact j i d e) h i d e
theorem Fv.Jz {i:Nat}{vs:List V}{ds:List D}{v:V}(h:Fv K S H vs ds)(e:vs[i]? = Δ v):∃ d,ds[i]? = Δ d/\Fx K S H v d:=
 Fv.ind (P:=fun vs ds=>∀ i v,vs[i]? = Δ v->∃ d,ds[i]? = Δ d/\Fx K S H v d) (fun i d e=>nomatch (show Φ=Δ d from e)) (fun v d _ _ a _ j i d e=>by
  cases i with
  | zero=>exact⟨_,rfl,D_ e ▸ a⟩
  | succ i=>exact j i d e) h i v e
theorem Fv.append {vs ws:List V}{ds es:List D}(h:Fv K S H vs ds)(h':Fv K S H ws es):Fv K S H (vs++ws) (ds++es):=
 Fv.ind (P:=fun v d=>Fv K S H (v++ws) (d++es)) h' (fun _ _ _ _ a _ j=>.cons a j) h
theorem Fv.take {vs:List V}{ds:List D}(n:Nat)(h:Fv K S H vs ds):Fv K S H (vs.take n) (ds.take n):=
 Fv.ind (P:=fun v d=>∀ n,Fv K S H (v.take n) (d.take n)) (fun n=>by cases n<;>exact .nil) (fun _ _ _ _ a _ j n=>by
  cases n with
  | zero=>exact .nil
  | succ n=>exact .cons a (j n)) h n
theorem Fv.drop {vs:List V}{ds:List D}(n:Nat)(h:Fv K S H vs ds):Fv K S H (vs.drop n) (ds.drop n):=
 Fv.ind (P:=fun v d=>∀ n,Fv K S H (v.drop n) (d.drop n)) (fun n=>by cases n<;>exact .nil) (fun _ _ _ _ a b j n=>by
  cases n with
  | zero=>exact .cons a b
  | succ n=>exact j n) h n
theorem Fy.length {vs:List V}{ds:List D}{f:List Ω}(h:Fy K F H vs ds f):vs.length=ds.length:=
 Fy.ind (P:=fun v d _=>v.length=d.length) rfl (fun _ _ _ _ _ _ _ _ j=>congrArg (· + 1) j) h
theorem Fy.append {vs ws:List V}{ds es:List D}{f g:List Ω}(h:Fy K F H vs ds f)(h':Fy K F H ws es g):Fy K F H (vs++ws) (ds++es) (f++g):=
 Fy.ind (P:=fun v d f=>Fy K F H (v++ws) (d++es) (f++g)) h' (fun _ _ _ _ _ _ a _ j=>by
  rw[B_]
  exact .cons a j) h
theorem Fx.GB {v:V}{o:Bool}{ds:List D}(h:Fx K S H v (.lst o ds)):∃ a xs,v=.ref a/\GV K H a xs/\Fv K S H xs ds:=by
 cases h with
 | lst h0 h1 h2=>exact⟨_,_,rfl,.inl h1,h2⟩
 | lstK h1 h2=>exact⟨_,_,rfl,h1.sq,h2⟩
theorem Fx.Ke {v:V}{o:Bool}{ds:List D}(h:Fx K S H v (.lst o ds)):∃ a xs,v=.ref a/\Ls K H a xs/\Fv K S H xs ds:=by
 cases h with
 | lst h0 h1 h2=>exact⟨_,_,rfl,.inl h1,h2⟩
 | lstK h1 h2=>exact⟨_,_,rfl,.inr h1,h2⟩
theorem Fx.GZ {v:V}{ds:List D}(h:Fx K S H v (.tup ds)):∃ a xs,v=.ref a/\Hn K H a xs/\Fv K S H xs ds:=by
 cases h with
 | tup h1 h2=>exact⟨_,_,rfl,h1,h2⟩
theorem Fx.Ga {v:V}{i:Int}(h:Fx K S H v (.int i)):v=.int i:=by cases h;rfl
theorem Fx.Kv {v:V}{i:Bool}(h:Fx K S H v (.bl i)):v=.bl i:=by cases h;rfl
theorem Fx.Gs {v:V}{i:Str}(h:Fx K S H v (.str i)):v=.str i:=by cases h;rfl
theorem Fx.HJ {v:V}(h:Fx K S H v .F4):v=.F4:=by cases h;rfl
theorem Fv.ints {vs:List V}{ns:List Int}(h:Fv K S H vs (ns.map .int)):vs=ns.map .int:=
 Fv.ind (P:=fun v d=>∀ ns:List Int,d=ns.map .int->v=ns.map .int) (fun ns e=>by
  induction ns using zL with
  | nil=>rfl
  | cons n ns=>exact nomatch e) (fun _ _ _ _ a _ j ns e=>by
  induction ns using zL with
  | nil=>exact nomatch e
  | cons n ns=>
   obtain⟨h1,h2⟩:=List.cons.inj e;subst h1;rw[j ns h2,a.Ga]
   rfl) h ns rfl
theorem Fv.strs {vs:List V}{ns:List Str}(h:Fv K S H vs (ns.map .str)):vs=ns.map .str:=
 Fv.ind (P:=fun v d=>∀ ns:List Str,d=ns.map .str->v=ns.map .str) (fun ns e=>by
  induction ns using zL with
  | nil=>rfl
  | cons n ns=>exact nomatch e) (fun _ _ _ _ a _ j ns e=>by
  induction ns using zL with
  | nil=>exact nomatch e
  | cons n ns=>
   obtain⟨h1,h2⟩:=List.cons.inj e;subst h1;rw[j ns h2,a.Gs]
   rfl) h ns rfl
theorem Fv.VX {vs:List V}{ns:List Bool}(h:Fv K S H vs (ns.map .bl)):vs=ns.map .bl:=
 Fv.ind (P:=fun v d=>∀ ns:List Bool,d=ns.map .bl->v=ns.map .bl) (fun ns e=>by
  induction ns using zL with
  | nil=>rfl
  | cons n ns=>exact nomatch e) (fun _ _ _ _ a _ j ns e=>by
  induction ns using zL with
  | nil=>exact nomatch e
  | cons n ns=>
   obtain⟨h1,h2⟩:=List.cons.inj e;subst h1;rw[j ns h2,a.Kv]
   rfl) h ns rfl
theorem Fv.ofInts:∀ (ns:List Int),Fv K S H (ns.map .int) (ns.map .int)
 | []=>.nil
 | n::ns=>.cons (.int n) (Fv.ofInts ns)
end
theorem cz.upd {H:Hp}{a:Ω}{o:HO}(h:H a=Φ):cz H (upd H a o):=fun b u e=>by rw[cu (cP e h)];exact e
theorem zD:type_of% @D.casesOn.{0}:=@D.casesOn.{0}
inductive KS where
 | add|sub|mul|fdiv|mod|pow
 deriving DecidableEq
inductive Ip where
 | eq|ne|lt|le|gt|ge|Lb|Ma|LA|JR
 deriving DecidableEq
inductive Kd where
 | str|int|bool|list|tuple
 deriving DecidableEq
inductive Bi where
 | len|sum|min2|max2|LB|sorted|list|tuple|ord|int|all|any|str|set|abs
 deriving DecidableEq
inductive Mt where
 | join|index|starts
 deriving DecidableEq
inductive Tg where
 | nm (i:Nat)|tp (ts:List Tg)
structure Gm where
 N:List Str
 kd:List NameKind
 gl:List Nat
 df:Bool
 cm:Bool:=Θ
 rs:Bool:=Θ
 tr:Bool:=Ξ
 io:Option Nat:=Φ
mutual
inductive IR where
 | c (d:D)
 | g (n:Nat) (d:D)
 | v (i:Nat)
 | bin (op:KS) (a b:IR)
 | neg (a:IR)
 | cmp (op:Ip) (a b:IR)
 | chain (op GK:Ip) (a b c:IR)
 | GC (a b:IR)
 | JT (a b:IR)
 | GQ (a:IR)
 | ite (t a b:IR)
 | tup (es:List IR)
 | lst (es:List IR)
 | idx (a i:IR)
 | sl (a:IR) (lo hi:Option IR)
 | call (f:Nat) (es:List IR)
 | bi (f:Bi) (es:List IR)
 | Ic (a:IR) (k:Kd)
 | HK (a:IR)
 | HL (a b:IR)
 | sset (a:IR)
 | Kf (m:Mt) (o:IR) (es:List IR)
 | comp (G:Gm) (fr:List Nat) (tg:Tg) (src:Sr) (ifs:List IR) (elt:IR)
inductive Sr where
 | Gj (n:IR)|val (e:IR)|zip (a b:IR)|IA (e:IR)
end
inductive IS where
 | asg (tg:Tg) (e:IR)
 | Ie (i:Nat) (k e:IR)
 | app (i:Nat) (e:IR)
 | LC (i j:Nat) (e c x v w:IR)
 | Nw (j:Nat) (G:Gm) (fr:List Nat) (t:Nat) (s:Sr)
 | ins (i:Nat) (k e:IR)
 | exp (e:IR)
 | ret (e:IR)
 | Kg (e:IR)
 | Gi (t:IR) (a b:List IS)
 | GF (tg:Tg) (src:Sr) (body:List IS)
 | brk|cnt|pass
 | never
abbrev Ev:=List (Option D)
inductive Fl where
 | nx (τ:Ev)|rt (d:D)|bk (τ:Ev)|ct (τ:Ev)|ri (d:D) (ks:List Key) (vs:List D)
noncomputable def cZ {α:Type}(xs:List α)(lo hi:Option Int):List α:=(xs.drop (HT.Iu xs.length 0 lo)).take (HT.Iu xs.length xs.length hi - HT.Iu xs.length 0 lo)
noncomputable def dn (n:Nat):Bool:=decide (n<=Ζ)
noncomputable def dP (n:Nat):Bool:=decide (n < Ζ)
noncomputable def HM:KS->D->D->Res D
 | .add,.int a,.int b=>.ok (.int (a+b))
 | .add,.str a,.str b=>FE (dn (a.length+b.length)) (.ok (.str (a++b)))
 | .add,.lst _ a,.lst _ b=>FE (dn (a.length+b.length)) (.ok (.lst Θ (a++b)))
 | .sub,.int a,.int b=>.ok (.int (a - b))
 | .mul,.int a,.int b=>FE (decide (-(2 ^ 64) < a/\a < 2 ^ 64)||decide (-(2 ^ 64) < b/\b < 2 ^ 64)) (.ok (.int (a*b)))
 | .mul,.str a,.int b=>FE (decide (-16000<=b/\b<=16000/\a.length<=1000)) (.ok (.str (Txt.mul a b)))
 | .mul,.lst _ a,.int b=>FE (decide (0<=b/\b<=16000/\a.length<=1000)) (.ok (.lst Θ (List.flatten (Τ b.toNat a))))
 | .fdiv,.int a,.int b=>FE (decide (0 < b/\b < 1073741824)) (.ok (.int (a / b)))
 | .mod,.int a,.int b=>FE (decide (0 < b)) (.ok (.int (a % b)))
 | .pow,.int a,.int b=>FE (decide (0<=b/\b<=1000000/\a.natAbs < 2 ^ 64)) (.ok (.int (a ^ b.toNat)))
 | _,_,_=>F5
noncomputable def cH:D->D->Res D
 | .lst _ ds,.int i=>match Hh ds i with
  | some d=>.ok d
  | none=>F5
 | .tup ds,.int i=>match Hh ds i with
  | some d=>.ok d
  | none=>F5
 | .str z,.int i=>FE (dn z.length) (match Hh z.cps.toList i with
  | some c=>.ok (.str ⟨#[c]⟩)
  | none=>F5)
 | _,_=>F5
noncomputable def mB:D->Option Int->Option Int->Res D
 | .lst _ ds,lo,hi=>.ok (.lst Θ (cZ ds lo hi))
 | .str z,lo,hi=>FE (dn z.length) (.ok (.str (Txt.slice z lo hi)))
 | _,_,_=>F5
noncomputable def cM:D->Res Bool
 | .F4=>.ok Ξ
 | .bl b=>.ok b
 | .int i=>.ok (i != 0)
 | .str x=>FE (dn x.length) (.ok ((x.length:Int) != 0))
 | .tup ds=>.ok (!ds.isEmpty)
 | .lst _ ds=>.ok (!ds.isEmpty)
 | .exc _=>F5
 | .Gn _ _ _=>F5
noncomputable def eN (f:D->D->Res Bool):List D->List D->Res Bool
 | [],[]=>.ok Θ
 | a::r,b::t=>Fu (f a b) fun x=>Fu (eN f r t) fun y=>.ok (x&&y)
 | _,_=>.ok Ξ
noncomputable def G0:Nat->D->D->Res Bool
 | 0,_,_=>F5
 | _+1,.exc _,_=>F5
 | _+1,_,.exc _=>F5
 | _+1,.Gn _ _ _,_=>F5
 | _+1,_,.Gn _ _ _=>F5
 | _+1,.F4,.F4=>.ok Θ
 | _+1,.F4,_=>.ok Ξ
 | _+1,.bl a,.bl b=>.ok (a == b)
 | _+1,.bl a,.int b=>.ok ((if a then 1 else 0) == b)
 | _+1,.bl _,_=>.ok Ξ
 | _+1,.int a,.bl b=>.ok (a == (if b then 1 else 0))
 | _+1,.int a,.int b=>.ok (a == b)
 | _+1,.int _,_=>.ok Ξ
 | _+1,.str a,.str b=>.ok (a == b)
 | _+1,.str _,_=>.ok Ξ
 | n+1,.tup a,.tup b=>eN (G0 n) a b
 | _+1,.tup _,_=>.ok Ξ
 | n+1,.lst _ a,.lst _ b=>eN (G0 n) a b
 | _+1,.lst _ _,_=>.ok Ξ
noncomputable def Hk (d:D):List D->Res Bool
 | []=>.ok Ξ
 | e::r=>Fu (G0 40 e d) fun x=>Fu (Hk d r) fun y=>.ok (x||y)
noncomputable def mC (x y:Str):Bool:=!(Builtin.Str.occurrences x y 0 x.length 1).isEmpty
noncomputable def eW:D->Bool
 | .F4=>Θ
 | _=>Ξ
noncomputable def gV:D->Bool
 | .exc _=>Ξ
 | .Gn _ _ _=>Ξ
 | _=>Θ
noncomputable def G7:Ip->D->D->Res Bool
 | .eq,a,b=>G0 40 a b
 | .ne,a,b=>Fu (G0 40 a b) fun r=>.ok !r
 | .lt,.int a,.int b=>.ok (decide (a < b))
 | .le,.int a,.int b=>.ok (decide (a<=b))
 | .gt,.int a,.int b=>.ok (decide (b < a))
 | .ge,.int a,.int b=>.ok (decide (b<=a))
 | .Lb,.str y,.str x=>.ok (mC x y)
 | .Ma,.str y,.str x=>.ok (!mC x y)
 | .Lb,a,.lst _ ds=>Hk a ds
 | .Ma,a,.lst _ ds=>Fu (Hk a ds) fun r=>.ok !r
 | .Lb,a,.tup ds=>Hk a ds
 | .Ma,a,.tup ds=>Fu (Hk a ds) fun r=>.ok !r
 | .LA,a,.F4=>.ok (eW a)
 | .JR,a,.F4=>.ok (!eW a)
 | .JR,.bl a,.bl b=>.ok (a != b)
 | .JR,.F4,.bl _=>.ok Θ
 | _,_,_=>F5
noncomputable def fu:List D->Option (List Int)
 | []=>Δ []
 | .int i::r=>(fu r).map (i::·)
 | _::_=>Φ
noncomputable def fw:List D->Option (List Str)
 | []=>Δ []
 | .str i::r=>(fw r).map (i::·)
 | _::_=>Φ
noncomputable def dQ:List D->Option (List Bool)
 | []=>Δ []
 | .bl i::r=>(dQ r).map (i::·)
 | _::_=>Φ
noncomputable def du:Kd->D->Bool
 | .str,.str _=>Θ
 | .int,.int _=>Θ
 | .int,.bl _=>Θ
 | .bool,.bl _=>Θ
 | .list,.lst _ _=>Θ
 | .tuple,.tup _=>Θ
 | _,_=>Ξ
noncomputable def dE (x:Str):List D:=x.cps.toList.map fun c=>.str ⟨#[c]⟩
noncomputable def ek:Bi->List D->Res D
 | .len,[.str x]=>FE (dn x.length) (.ok (.int x.length))
 | .len,[.tup ds]=>.ok (.int ds.length)
 | .len,[.lst _ ds]=>.ok (.int ds.length)
 | .len,[.Gn _ ks _]=>.ok (.int ks.length)
 | .min2,[.int a,.int b]=>.ok (.int (if b < a then b else a))
 | .max2,[.int a,.int b]=>.ok (.int (if b > a then b else a))
 | .ord,[.str x]=>FE (decide (x.length=1)) (.ok (.int (x.cps.getD 0 0:Nat)))
 | .list,[.lst _ ds]=>.ok (.lst Θ ds)
 | .list,[.tup ds]=>.ok (.lst Θ ds)
 | .list,[.str x]=>FE (dn x.length) (.ok (.lst Θ (dE x)))
 | .tuple,[.lst _ ds]=>.ok (.tup ds)
 | .tuple,[.str x]=>FE (dn x.length) (.ok (.tup (dE x)))
 | .all,[.lst _ ds]=>match dQ ds with
  | some bs=>.ok (.bl (bs.all id))
  | none=>F5
 | .any,[.lst _ ds]=>match dQ ds with
  | some bs=>.ok (.bl (bs.any id))
  | none=>F5
 | _,_=>F5
noncomputable def gb:D->Bool
 | .str _=>Θ
 | _=>Ξ
noncomputable def iR:Mt->D->List D->Res D
 | .join,.str x,[.lst _ ds]=>match fw ds with
  | some ys=>FE (decide ((ys.map (·.length)).sum+ys.length*x.length<=16777216)) (.ok (.str (Txt.join x ys)))
  | none=>F5
 | .starts,.str x,[.str y]=>.ok (.bl (Txt.startswith x y))
 | _,_,_=>F5
noncomputable def gW:D->Res (List D)
 | .lst _ ds=>.ok ds
 | .tup ds=>.ok ds
 | .str x=>FE (dn x.length) (.ok (dE x))
 | _=>F5
noncomputable def jB:D->Res (List D)
 | .lst _ ds=>.ok ds
 | .tup ds=>.ok ds
 | _=>F5
noncomputable def eB (ds es:List D):List D:=List.zipWith (fun a b=>.tup [a,b]) ds es
noncomputable def iS (ds:List D):List D:=List.zipWith (fun (k:Nat) d=>.tup [.int k,d]) (List.range ds.length) ds
noncomputable def wD:D->Res (List D)
 | .lst _ ds=>.ok (iS ds)
 | _=>F5
noncomputable def iT (x y:D):Res (List D):=Fu (jB x) fun ds=>Fu (jB y) fun es=>.ok (eB ds es)
noncomputable def oV (x y:D):Res D:=Fu (iT x y) fun ds=>FE (dn ds.length) (.ok (.lst Θ ds))
noncomputable def cO (a b:Int):List D:=(List.range (b - a).toNat).map fun k=>.int (a+(k:Nat))
noncomputable def wF:D->Res D
 | .lst _ ds=>.ok (.lst Θ ds.reverse)
 | _=>F5
noncomputable def oX:D->Res D
 | .lst _ ds=>match fu ds with
  | some ns=>FE (decide (ns.length < 64)) (.ok (.lst Θ ((PySem.W.sortI (dd ns)).map .int)))
  | none=>F5
 | _=>F5
noncomputable def ib (i:Int):Bool:=decide (-(2 ^ 62)<=i/\i < 2 ^ 62)
noncomputable def cD {α β:Type}(f:α->Res (Option β)):List α->Res (List β)
 | []=>.ok []
 | x::xs=>Fu (f x) fun
  | some d=>Fu (cD f xs) fun r=>.ok (d::r)
  | none=>cD f xs
noncomputable def LF {α:Type}:Res α->Res α
 | .error _=>F5
 | .ok a=>.ok a
mutual
noncomputable def dR:Tg->D->Ev->Res Ev
 | .nm i,d,τ=>.ok (τ.set i (Δ d))
 | .tp ts,.tup ds,τ=>FE (decide (ds.length=ts.length)) (gA ts ds τ)
 | .tp ts,.lst _ ds,τ=>FE (decide (ds.length=ts.length)) (gA ts ds τ)
 | .tp _,_,_=>F5
noncomputable def gA:List Tg->List D->Ev->Res Ev
 | t::ts,d::ds,τ=>Fu (dR t d τ) fun τ'=>gA ts ds τ'
 | [],[],τ=>.ok τ
 | _,_,_=>F5
end
noncomputable def cp (τ:Ev)(i:Nat):Option D:=(τ[i]?).join
mutual
noncomputable def vars:IR->List Nat
 | .c _=>[]
 | .g _ _=>[]
 | .v i=>[i]
 | .bin _ a b=>vars a++vars b
 | .neg a=>vars a
 | .cmp _ a b=>vars a++vars b
 | .chain _ _ a b c=>vars a++vars b++vars c
 | .GC a b=>vars a++vars b
 | .JT a b=>vars a++vars b
 | .GQ a=>vars a
 | .ite t a b=>vars t++vars a++vars b
 | .tup es=>cE es
 | .lst es=>cE es
 | .idx a i=>vars a++vars i
 | .sl a lo hi=>vars a++rZ lo++rZ hi
 | .call _ es=>cE es
 | .bi _ es=>cE es
 | .Ic a _=>vars a
 | .HK a=>vars a
 | .HL a b=>vars a++vars b
 | .sset a=>vars a
 | .Kf _ o es=>vars o++cE es
 | .comp _ fr _ src _ _=>fr++ff src
noncomputable def cE:List IR->List Nat
 | []=>[]
 | e::es=>vars e++cE es
noncomputable def rZ:Option IR->List Nat
 | none=>[]
 | some e=>vars e
noncomputable def ff:Sr->List Nat
 | .Gj n=>vars n
 | .val e=>vars e
 | .zip a b=>vars a++vars b
 | .IA a=>vars a
end
mutual
noncomputable def Fz (cl:Nat->List D->Res D):IR->Ev->Res D
 | .c d,_=>.ok d
 | .g _ d,_=>.ok d
 | .v i,τ=>match cp τ i with
  | some d=>.ok d
  | none=>F5
 | .bin op a b,τ=>Fu (Fz cl a τ) fun x=>Fu (Fz cl b τ) fun y=>HM op x y
 | .neg a,τ=>Fu (Fz cl a τ) fun
  | .int i=>.ok (.int (-i))
  | _=>F5
 | .cmp op a b,τ=>Fu (Fz cl a τ) fun x=>Fu (Fz cl b τ) fun y=>Fu (G7 op x y) fun r=>.ok (.bl r)
 | .chain op GK a b c,τ=>Fu (Fz cl a τ) fun x=>Fu (Fz cl b τ) fun y=>Fu (G7 op x y) fun r=>
  if r=Θ then Fu (Fz cl c τ) fun z=>Fu (G7 GK y z) fun r'=>.ok (.bl r') else .ok (.bl Ξ)
 | .GC a b,τ=>Fu (Fz cl a τ) fun x=>Fu (cM x) fun r=>if r=Θ then Fz cl b τ else .ok x
 | .JT a b,τ=>Fu (Fz cl a τ) fun x=>Fu (cM x) fun r=>if r=Θ then .ok x else Fz cl b τ
 | .GQ a,τ=>Fu (Fz cl a τ) fun x=>Fu (cM x) fun r=>.ok (.bl !r)
 | .ite t a b,τ=>Fu (Fz cl t τ) fun x=>Fu (cM x) fun r=>if r=Θ then Fz cl a τ else Fz cl b τ
 | .tup es,τ=>Fu (dt cl es τ) fun ds=>FE (dn ds.length) (.ok (.tup ds))
 | .lst es,τ=>Fu (dt cl es τ) fun ds=>FE (dn ds.length) (.ok (.lst Θ ds))
 | .idx a i,τ=>Fu (Fz cl a τ) fun x=>Fu (Fz cl i τ) fun y=>cH x y
 | .sl a lo hi,τ=>Fu (Fz cl a τ) fun x=>Fu (kN cl lo τ) fun l=>Fu (kN cl hi τ) fun h=>mB x l h
 | .call f es,τ=>Fu (dt cl es τ) fun ds=>cl f (FA ds)
 | .bi f es,τ=>Fu (dt cl es τ) fun ds=>ek f ds
 | .Ic a k,τ=>Fu (Fz cl a τ) fun x=>FE (gV x) (.ok (.bl (du k x)))
 | .HK a,τ=>Fu (Fz cl a τ) wF
 | .HL a b,τ=>Fu (Fz cl a τ) fun x=>Fu (Fz cl b τ) fun y=>oV x y
 | .sset a,τ=>Fu (Fz cl a τ) oX
 | .Kf m o es,τ=>Fu (Fz cl o τ) fun x=>FE (gb x) (Fu (dt cl es τ) fun ds=>iR m x ds)
 | .comp G fr tg src ifs elt,τ=>Fu (eO cl src τ) fun its=>FE (dP its.length) (Fu (LF (cD (fun x=>Fu (dR tg x (fr.map (cp τ)++Τ (G.N.length - fr.length) Φ)) fun Lc=>
   Fu (fJ cl ifs Lc) fun r=>if r=Θ then Fu (Fz cl elt Lc) fun d=>.ok (Δ d) else .ok Φ) its)) fun ds=>.ok (.lst Θ ds))
noncomputable def dt (cl:Nat->List D->Res D):List IR->Ev->Res (List D)
 | [],_=>.ok []
 | e::es,τ=>Fu (Fz cl e τ) fun d=>Fu (dt cl es τ) fun ds=>.ok (d::ds)
noncomputable def kN (cl:Nat->List D->Res D):Option IR->Ev->Res (Option Int)
 | none,_=>.ok Φ
 | some e,τ=>Fu (Fz cl e τ) fun
  | .int i=>.ok (Δ i)
  | _=>F5
noncomputable def fJ (cl:Nat->List D->Res D):List IR->Ev->Res Bool
 | [],_=>.ok Θ
 | e::es,τ=>Fu (Fu (Fz cl e τ) cM) fun r=>if r=Θ then fJ cl es τ else .ok Ξ
noncomputable def eO (cl:Nat->List D->Res D):Sr->Ev->Res (List D)
 | .Gj n,τ=>Fu (Fz cl n τ) fun
  | .int i=>FE (ib i) (.ok (cO 0 i))
  | _=>F5
 | .val e,τ=>Fu (Fz cl e τ) gW
 | .zip a b,τ=>Fu (Fz cl a τ) fun x=>Fu (Fz cl b τ) fun y=>iT x y
 | .IA a,τ=>Fu (Fz cl a τ) wD
end
noncomputable def OM (cl:Nat->List D->Res D)(t:IR)(τ:Ev):Res Bool:=Fu (Fz cl t τ) cM
noncomputable def jC (is:List Nat):Nat->Ev->Ev
 | _,[]=>[]
 | k,o::τ=>(if is.contains k then o.map er else o)::jC is (k+1) τ
noncomputable abbrev Gh (is:List Nat)(τ:Ev):Ev:=jC is 0 τ
noncomputable def cN : IR->Bool
 | .bin .add _ _=>Θ
 | .bin .mul _ _=>Θ
 | .sl _ _ _=>Θ
 | .bi .list _=>Θ
 | .comp _ _ _ _ _ _=>Θ
 | _=>Ξ
noncomputable def cB (e:IR)(d:D)(τ:Ev):D×Ev:=
 if cq d=Θ then (d,τ)
 else match cN e,d with
  | true,.lst _ ds=>if ck ds=Θ then (.lst Θ ds,τ) else (.lst Θ (FA ds),Gh (vars e) τ)
  | _,_=>(er d,Gh (vars e) τ)
mutual
noncomputable def Gu (cl:Nat->List D->Res D)(mv:Bool):IR->Ev->Res (D×Ev)
 | .v i,τ=>match cp τ i with
  | some d=>if mv=Θ then .ok (d,τ.set i Φ) else .ok (er d,τ.set i (Δ (er d)))
  | none=>F5
 | .tup es,τ=>Fu (jD cl mv es τ) fun p=>FE (dn p.1.length) (.ok (.tup p.1,p.2))
 | .lst es,τ=>Fu (jD cl mv es τ) fun p=>FE (dn p.1.length) (.ok (.lst Θ p.1,p.2))
 | .ite t a b,τ=>Fu (OM cl t τ) fun r=>if r=Θ then Gu cl mv a τ else Gu cl mv b τ
 | .call f es,τ=>Fu (dt cl es τ) fun ds=>Fu (cl f (FA ds)) fun d=>if cq d=Θ then .ok (d,τ) else .ok (d,Gh (cE es) τ)
 | e,τ=>Fu (Fz cl e τ) fun d=>.ok (cB e d τ)
noncomputable def jD (cl:Nat->List D->Res D)(mv:Bool):List IR->Ev->Res (List D×Ev)
 | [],τ=>.ok ([],τ)
 | e::es,τ=>Fu (Gu cl mv e τ) fun p=>Fu (jD cl mv es p.2) fun q=>.ok (p.1::q.1,q.2)
end
noncomputable def forM (body:D->Ev->Res Fl):List D->Ev->Res Fl
 | [],τ=>.ok (.nx τ)
 | x::xs,τ=>Fu (body x τ) fun
  | .nx τ'=>forM body xs τ'
  | .ct τ'=>forM body xs τ'
  | .bk τ'=>.ok (.nx τ')
  | .rt d=>.ok (.rt d)
  | .ri d ks vs=>.ok (.ri d ks vs)
noncomputable def mE (cl:Nat->List D->Res D)(s:Sr)(τ:Ev):Res (List D×Ev):=Fu (eO cl s τ) fun its=>match s with
 | .Gj _=>.ok (its,τ)
 | s=>.ok (FA its,Gh (ff s) τ)
noncomputable def wG (j:Nat)(τ:Ev)(its:List D):Res Fl:=FE (dP its.length) (.ok (.nx (τ.set j (Δ (.lst Θ (Τ (its.length+1) (.lst Θ [])))))))
noncomputable def nY:Ev->Nat->Bool
 | [],_=>Ξ
 | _::_,0=>Θ
 | _::τ,j+1=>nY τ j
noncomputable def wH (i j k:Nat)(ds es:List D)(τ:Ev)(d:D):D->Res Fl
 | .int z=>(match Hg es.length z with
  | some t=>FE (cq d) (.ok (.nx ((τ.set i (Δ (.lst Θ (ds.set k (.lst Θ (es.set t d)))))).set j Φ)))
  | none=>F5)
 | _=>F5
noncomputable def AK (i j k:Nat)(ds es:List D)(τ:Ev)(d:D):Res Fl:=FE (cq d&&dP es.length) (.ok (.nx ((τ.set i (Δ (.lst Θ (ds.set k (.lst Θ (es++[d])))))).set j Φ)))
noncomputable def qE (cl:Nat->List D->Res D)(i j k:Nat)(x v w:IR)(ds es:List D)(τ:Ev)(r:Bool):Res Fl:=
 if r=Θ then Fu (Fz cl v (τ.set j (Δ (.lst Θ es)))) fun d=>Fu (Fz cl x (τ.set j (Δ (.lst Θ es)))) (wH i j k ds es τ d)
 else Fu (Fz cl w (τ.set j (Δ (.lst Θ es)))) (AK i j k ds es τ)
noncomputable def nZ (cl:Nat->List D->Res D)(i j:Nat)(c x v w:IR)(ds:List D)(τ:Ev):Option Nat->Res Fl
 | some k=>(match ds[k]? with
  | some (.lst Θ es)=>FE (ck es&&nY τ j) (Fu (Fu (Fz cl c (τ.set j (Δ (.lst Θ es)))) cM) (qE cl i j k x v w ds es τ))
  | _=>F5)
 | none=>F5
noncomputable def wI (cl:Nat->List D->Res D)(i j:Nat)(c x v w:IR)(ds:List D)(τ:Ev):D->Res Fl
 | .int z=>nZ cl i j c x v w ds τ (Hg ds.length z)
 | _=>F5
noncomputable def r6 (cl:Nat->List D->Res D)(i j:Nat)(e c x v w:IR)(τ:Ev):Option D->Res Fl
 | some (.lst Θ ds)=>Fu (Fz cl e τ) (wI cl i j c x v w ds τ)
 | _=>F5
mutual
noncomputable def G3 (cl:Nat->List D->Res D):IS->Ev->Res Fl
 | .asg tg e,τ=>Fu (Gu cl Ξ e τ) fun p=>Fu (dR tg p.1 p.2) fun τ'=>.ok (.nx τ')
 | .Ie i k e,τ=>Fu (Gu cl Ξ e τ) fun p=>match cp p.2 i with
  | some (.lst Θ ds)=>Fu (Fz cl k p.2) fun
   | .int z=>(match Hg ds.length z with
    | some j=>.ok (.nx (p.2.set i (Δ (.lst Θ (ds.set j p.1)))))
    | none=>F5)
   | _=>F5
  | _=>F5
 | .app i e,τ=>match cp τ i with
  | some (.lst _ _)=>Fu (Gu cl Ξ e τ) fun p=>(match cp p.2 i with
   | some (.lst Θ ds)=>FE (dP ds.length) (.ok (.nx (p.2.set i (Δ (.lst Θ (ds++[p.1]))))))
   | _=>F5)
  | _=>F5
 | .Nw j _ _ _ s,τ=>Fu (eO cl s τ) (wG j τ)
 | .LC i j e c x v w,τ=>r6 cl i j e c x v w τ (cp τ i)
 | .ins i k e,τ=>match cp τ i with
  | some (.lst _ _)=>Fu (Fz cl k τ) fun y=>Fu (Gu cl Ξ e τ) fun p=>(match y,cp p.2 i with
   | .int z,Δ (.lst Θ ds)=>FE (decide (0<=z/\z.toNat<=ds.length)&&dP ds.length) (.ok (.nx (p.2.set i (Δ (.lst Θ (ds.take z.toNat++p.1::ds.drop z.toNat))))))
   | _,_=>F5)
  | _=>F5
 | .exp e,τ=>Fu (Fz cl e τ) fun _=>.ok (.nx τ)
 | .ret e,τ=>Fu (Gu cl Θ e τ) fun p=>.ok (.rt p.1)
 | .Kg e,τ=>Fu (Gu cl Ξ e τ) fun p=>.ok (.rt p.1)
 | .Gi t a b,τ=>Fu (OM cl t τ) fun r=>if r=Θ then cI cl a τ else cI cl b τ
 | .GF tg s body,τ=>Fu (mE cl s τ) fun p=>forM (fun x τ=>Fu (dR tg x τ) fun τ'=>cI cl body τ') p.1 p.2
 | .brk,τ=>.ok (.bk τ)
 | .cnt,τ=>.ok (.ct τ)
 | .pass,τ=>.ok (.nx τ)
 | .never,_=>F5
noncomputable def cI (cl:Nat->List D->Res D):List IS->Ev->Res Fl
 | [],τ=>.ok (.nx τ)
 | s::r,τ=>Fu (G3 cl s τ) fun
  | .nx τ'=>cI cl r τ'
  | .ct τ'=>.ok (.ct τ')
  | .bk τ'=>.ok (.bk τ')
  | .rt d=>.ok (.rt d)
  | .ri d ks vs=>.ok (.ri d ks vs)
end
structure Fn where
 np:Nat
 G:Gm
 body:List IS
 io:Bool:=Ξ
noncomputable def fV (cl:Nat->List D->Res D)(fn:Fn)(ds:List D):Res D:=
 FE (decide (ds.length=fn.np)) (Fu (cI cl fn.body (ds.map Δ++Τ (fn.G.N.length - fn.np) Φ)) fun
  | .nx _=>.ok .F4
  | .rt d=>.ok d
  | _=>F5)
noncomputable def E6:D->D
 | .Gn _ ks vs=>.Gn Θ ks vs
 | d=>d
noncomputable def wJ:List D->List D
 | []=>[]
 | [d]=>[E6 d]
 | d::ds=>d::wJ ds
noncomputable def gB (cl:Nat->List D->Res D)(fn:Fn)(ds:List D):Res D:=
 FE (decide (ds.length=fn.np)) (Fu (cI cl fn.body ((wJ ds).map Δ++Τ (fn.G.N.length - fn.np) Φ)) fun
  | .ri d ks vs=>.ok (.tup [d,.Gn Ξ ks vs])
  | _=>F5)
abbrev Tb:=Nat->Option Fn
noncomputable def aB (T:Tb):Nat->Nat->List D->Res D
 | 0,_,_=>F5
 | n+1,f,ds=>match T f with
  | some fn=>(match fn.io with
   | false=>fV (aB T n) fn ds
   | true=>gB (aB T n) fn ds)
  | none=>F5
theorem Cu {cl:Nat->List D->Res D}{i:Nat}{τ:Ev}:Fz cl (.v i) τ=(match cp τ i with|some d=>.ok d|none=>F5):=rfl
theorem Cv {cl:Nat->List D->Res D}{i:Nat}{τ:Ev}{mv:Bool}:Gu cl mv (.v i) τ=(match cp τ i with|some d=>if mv=Θ then .ok (d,τ.set i Φ) else .ok (er d,τ.set i (Δ (er d)))|none=>F5):=rfl
theorem zI:type_of% @IR.casesOn.{0}:=@IR.casesOn.{0}
theorem zT:type_of% @IS.casesOn.{0}:=@IS.casesOn.{0}
section
variable {X:Cx}{pins:List (Ω×Obj)}{σ:St}{H:Hp}{S:Ω->Prop}{s:Α}
theorem Inv.Hv (I:Inv X pins σ H s){a:Ω}{xs ys:List V}(h1:GV X.K H a xs)(h2:Hn X.K H a ys):False:=by obtain⟨its,_,⟨o,n,e,c,_⟩,_⟩:=I.list h1;obtain⟨its',_,⟨o',e',c',_⟩,_⟩:=I.tuple h2;rw[e] at e';cases e';rw[c] at c';injection c' with c';exact absurd c' nofun
theorem Inv.Ig (I:Inv X pins σ H s){a:Ω}{c:Str}(h:G2 X.K H a (.inr c)):∃ C o vs,PySem.W.nsIn X.K Η c=Δ (Δ (.ref C))/\nameIn X.K C=Δ c/\s.heap.get? a=Δ o/\o.cls=.ref C/\o.data=.fields vs:=by obtain⟨C,o,vs,h0,h1,h2,h3,h4⟩:=h;exact⟨C,o,vs,h0,h1,(I.Ge a _ h2).1,h3,h4⟩
theorem Inv.LG (I:Inv X pins σ H s){a:Ω}{c c':Str}(h:G2 X.K H a (.inr c))(k:G2 X.K H a (.inr c')):c=c':=by obtain⟨C,o,vs,_,n1,e,c1,_⟩:=I.Ig h;obtain⟨C',o',OG,_,n2,e',c2,_⟩:=I.Ig k;rw[e] at e';cases e';rw[c1] at c2;cases c2;rw[n1] at n2;cases n2;rfl
theorem Inv.JU (I:Inv X pins σ H s){a:Ω}{c:Str}{xs:List V}(h:G2 X.K H a (.inr c))(k:Hn X.K H a xs):False:=by obtain⟨C,o,vs,_,_,e,c1,_⟩:=I.Ig h;obtain⟨its',_,⟨o',e',c',_⟩,_⟩:=I.tuple k;rw[e] at e';cases e';rw[c1] at c';cases c'
theorem Inv.HR (I:Inv X pins σ H s){a:Ω}{c:Str}{xs:List V}(h:G2 X.K H a (.inr c))(k:GV X.K H a xs):False:=by obtain⟨C,o,vs,_,_,e,c1,_⟩:=I.Ig h;obtain⟨its',_,⟨o',n,e',c',_⟩,_⟩:=I.list k;rw[e] at e';cases e';rw[c1] at c';cases c'
theorem Inv.JA (I:Inv X pins σ H s){a:Ω}{Gd:List (Key×V)}(h:Rd H a (.dK Gd)):∃ o es ep,s.heap.get? a=Δ o/\o.data=.dict es ep:=by obtain⟨_,_,vs,_,o,es,ep,e,c,d,_⟩:=h.ok I.Ge;exact⟨o,es,ep,e,d⟩
theorem Inv.JV (I:Inv X pins σ H s){a:Ω}{Gd:List (Key×V)}{xs:List V}(h:Rd H a (.dK Gd))(k:Hn X.K H a xs):False:=by obtain⟨o,es,ep,e,d⟩:=I.JA h;obtain⟨its',_,⟨o',e',c',n,d'⟩,_⟩:=I.tuple k;rw[e] at e';cases e';rw[d] at d';cases d'
theorem Inv.HS (I:Inv X pins σ H s){a:Ω}{Gd:List (Key×V)}{xs:List V}(h:Rd H a (.dK Gd))(k:GV X.K H a xs):False:=by obtain⟨o,es,ep,e,d⟩:=I.JA h;obtain⟨its',_,⟨o',n,e',c',n',d'⟩,_⟩:=I.list k;rw[e] at e';cases e';rw[d] at d';cases d'
theorem Inv.JW (I:Inv X pins σ H s){a:Ω}{c:Str}{Gd:List (Key×V)}(h:G2 X.K H a (.inr c))(k:Rd H a (.dK Gd)):False:=by obtain⟨C,o,vs,_,_,e,c1,d1⟩:=I.Ig h;obtain⟨o',es,ep,e',d⟩:=I.JA k;rw[e] at e';cases e';rw[d] at d1;cases d1
theorem Rd.dk {H:Hp}{a:Ω}{u v:List (Key×V)}(h:Rd H a (.dK u))(k:Rd H a (.dK v)):u=v:=by rcases h with h|⟨o,h⟩<;>rcases k with k|⟨o',k⟩<;>(rw[h] at k;cases k;try rfl)
mutual
theorem Fx.one (I:Inv X pins σ H s):∀ {v:V}{d e:D},Fx X.K S H v d->Fx X.K S H v e->er d=er e
 | _,_,_,.F4,h=>by cases h;rfl
 | _,_,_,.bl b,h=>by cases h;rfl
 | _,_,_,.int i,h=>by cases h;rfl
 | _,_,_,.str x,h=>by cases h;rfl
 | _,_,_,.exc h0,h=>by
  cases h with
  | exc k1=>exact congrArg D.exc (I.LG h0 k1)
  | tup k1 k2=>exact(I.JU h0 k1).elim
  | lst k0 k1 k2=>exact(I.HR h0 (.inl k1)).elim
  | lstK k1 k2=>exact(I.HR h0 k1.sq).elim
  | Gn k0 k1 k2 k3=>exact(I.JW h0 k1).elim
 | _,_,_,.tup h1 h2,h=>by
  cases h with
  | exc k1=>exact(I.JU k1 h1).elim
  | tup k1 k2=>have e:=I.HA h1 k1;subst e;rw[er,er,Fv.one I h2 k2]
  | lst k0 k1 k2=>exact(I.Hv (.inl k1) h1).elim
  | lstK k1 k2=>exact(I.Hv k1.sq h1).elim
  | Gn k0 k1 k2 k3=>exact(I.JV k1 h1).elim
 | _,_,_,.lst h0 h1 h2,h=>by
  cases h with
  | exc k1=>exact(I.HR k1 (.inl h1)).elim
  | tup k1 k2=>exact(I.Hv (.inl h1) k1).elim
  | lst k0 k1 k2=>have e:=I.GG (.inl h1) (.inl k1);subst e;rw[er,er,Fv.one I h2 k2]
  | lstK k1 k2=>have e:=I.GG (.inl h1) k1.sq;subst e;rw[er,er,Fv.one I h2 k2]
  | Gn k0 k1 k2 k3=>exact(I.HS k1 (.inl h1)).elim
 | _,_,_,.lstK h1 h2,h=>by
  cases h with
  | exc k1=>exact(I.HR k1 h1.sq).elim
  | tup k1 k2=>exact(I.Hv h1.sq k1).elim
  | lst k0 k1 k2=>have e:=I.GG h1.sq (.inl k1);subst e;rw[er,er,Fv.one I h2 k2]
  | lstK k1 k2=>have e:=I.GG h1.sq k1.sq;subst e;rw[er,er,Fv.one I h2 k2]
  | Gn k0 k1 k2 k3=>exact(I.HS k1 h1.sq).elim
 | _,_,_,.Gn h0 h1 h2 h3,h=>by
  cases h with
  | exc k1=>exact(I.JW k1 h1).elim
  | tup k1 k2=>exact(I.JV h1 k1).elim
  | lst k0 k1 k2=>exact(I.HS h1 (.inl k1)).elim
  | lstK k1 k2=>exact(I.HS h1 k1.sq).elim
  | Gn k0 k1 k2 k3=>have e:=Rd.dk h1 k1;subst e;rw[er,er,Fv.one I h3 k3,<- h2,<- k2]
theorem Fv.one (I:Inv X pins σ H s):∀ {vs:List V}{ds es:List D},Fv X.K S H vs ds->Fv X.K S H vs es->FA ds=FA es
 | _,_,_,.nil,h=>by cases h;rfl
 | _,_,_,.cons h1 h2,h=>by
  cases h with
  | cons k1 k2=>rw[FA,FA,Fx.one I h1 k1,Fv.one I h2 k2]
end
end
theorem eD {α β:Type}{x:Res α}{f:α->Res β}{b:β}(h:Fu x f=.ok b):∃ a,x=.ok a/\f a=.ok b:=by
 cases x with
 | error e=>cases h
 | ok a=>exact⟨a,rfl,h⟩
theorem n0 {α:Type}{c:Bool}{x:Res α}{b:α}(h:FE c x=.ok b):c=Θ/\x=.ok b:=by
 unfold FE at h
 induction c using zB with
 | true=>exact⟨rfl,h⟩
 | false=>cases h
theorem fA {f:D->D->Res Bool}(hf:∀ d e r,f d e=.ok r->er d=er e->r=Θ):∀ {ds es:List D}{r:Bool},eN f ds es=.ok r->FA ds=FA es->r=Θ
 | [],[],r,h,_=>by cases h;rfl
 | [],_::_,_,_,h=>by rw[FA,FA] at h;cases h
 | _::_,[],_,_,h=>by rw[FA,FA] at h;cases h
 | a::ds,b::es,r,h,h'=>by rw[FA,FA] at h';injection h' with e1 e2;obtain⟨x,hx,h⟩:=eD (show Fu (f a b) (fun x=>Fu (eN f ds es) fun y=>.ok (x&&y))=.ok r from h);obtain⟨y,hy,h⟩:=eD h;cases h;rw[hf a b x hx e1,fA hf hy e2];rfl
theorem gC:∀ (n:Nat) (d e:D) (r:Bool),G0 n d e=.ok r->er d=er e->r=Θ
 | 0,_,_,_,h,_=>by cases h
 | n+1,d,e,r,h,h'=>by
  induction d using zD with
  | tup ds=>
   induction e using zD with
   | tup es=>rw[er,er] at h';injection h' with e1;exact fA (gC n) h e1
   | F4=>rw[er,er] at h';cases h'
   | bl _=>rw[er,er] at h';cases h'
   | int _=>rw[er,er] at h';cases h'
   | str _=>rw[er,er] at h';cases h'
   | lst _ _=>rw[er,er] at h';cases h'
   | exc _=>cases h
   | Gn _ _ _=>cases h
  | lst o ds=>
   induction e using zD with
   | lst o' es=>rw[er,er] at h';injection h' with _ e1;exact fA (gC n) h e1
   | F4=>rw[er,er] at h';cases h'
   | bl _=>rw[er,er] at h';cases h'
   | int _=>rw[er,er] at h';cases h'
   | str _=>rw[er,er] at h';cases h'
   | tup _=>rw[er,er] at h';cases h'
   | exc _=>cases h
   | Gn _ _ _=>cases h
  | exc _=>cases h
  | Gn _ _ _=>induction e using zD<;>cases h
  | F4=>induction e using zD<;>first|(cases h;done)|(cases h;rfl)|(exfalso;simp[er] at h')
  | bl b=>induction e using zD<;>first|(simp only[er,D.bl.injEq] at h';subst h';cases h;simp)|(exfalso;simp[er] at h')
  | int b=>induction e using zD<;>first|(simp only[er,D.int.injEq] at h';subst h';cases h;simp)|(exfalso;simp[er] at h')
  | str b=>induction e using zD<;>first|(simp only[er,D.str.injEq] at h';subst h';cases h;simp)|(exfalso;simp[er] at h')
theorem mF {f:D->D->Res Bool}:∀ {ds es:List D}{r:Bool},eN f ds es=.ok r->ds.length≠es.length->r=Ξ
 | [],[],_,_,h=>absurd rfl h
 | [],_::_,_,h,_=>by cases h;rfl
 | _::_,[],_,h,_=>by cases h;rfl
 | a::ds,b::es,r,h,n=>by obtain⟨x,hx,h⟩:=eD (show Fu (f a b) (fun x=>Fu (eN f ds es) fun y=>.ok (x&&y))=.ok r from h);obtain⟨y,hy,h⟩:=eD h;cases h;rw[mF hy (fun z=>n (by rw[List.length_cons,List.length_cons,z]))];simp
theorem oY {f:D->D->Res Bool}:∀ {ds es:List D}{r:Bool},eN f ds es=.ok r->ds.length=es.length->
  ∃ e:Nat->Bool,(∀ j a b,ds[j]? = Δ a->es[j]? = Δ b->f a b=.ok (e j))/\r=(List.range ds.length).all e
 | [],[],r,h,_=>by cases h;exact⟨fun _=>Θ,fun j a b h=>by simp at h,rfl⟩
 | [],_::_,_,_,h=>by cases h
 | _::_,[],_,_,h=>by cases h
 | a::ds,b::es,r,h,n=>by
  obtain⟨x,hx,h⟩:=eD (show Fu (f a b) (fun x=>Fu (eN f ds es) fun y=>.ok (x&&y))=.ok r from h);obtain⟨y,hy,h⟩:=eD h;cases h;obtain⟨e,h1,h2⟩:=oY hy (by simpa using n);refine⟨fun j=>match j with|0=>x|k+1=>e k,fun j a' b' e1 e2=>?_,?_⟩
  ·cases j with
   | zero=>simp at e1 e2;subst e1 e2;exact hx
   | succ k=>exact h1 k a' b' (by simpa using e1) (by simpa using e2)
  ·rw[h2,List.length_cons,List.range_succ_eq_map,List.all_cons,List.all_map];rfl
section
variable {X:Cx}{pins:List (Ω×Obj)}{σ:St}{H:Hp}{S:Ω->Prop}{s:Α}
structure Mb (A:Ι)(s:Α)(v u:Ψ)(r:Bool):Prop where
 eq:EqAt A s v u r
 rc:RcAt A s v u r
 ne:RcNeAt A s v u (!r)
theorem mG (n:Nat)(A:Ι)(ih:∀ (x y:V)(v u:Ψ)(d e:D)(r:Bool),Fx X.K S H x d->Fx X.K S H y e->RelV x v->RelV y u->G0 n d e=.ok r->EqAt A.in1 s v u r)
  {xs ys:List V}{ds es:List D}{its its':List Ψ}{r:Bool} (rv:Vals xs its) (L':Vals ys its') (h2:Fv X.K S H xs ds) (k2:Fv X.K S H ys es) (hr:eN (G0 n) ds es=.ok r) :
  ∃ e:Nat->Bool,(∀ j (q1:j < its.toArray.size) (q2:j < its'.toArray.size),EqAt A.in1 s its.toArray[j] its'.toArray[j] (e j))/\r=((List.range (min its.toArray.size its'.toArray.size)).all e&&its.toArray.size == its'.toArray.size):=by
 have l1:=h2.length;have l2:=k2.length;have l3:=rv.length;have l4:=L'.length;have pair:∀ j (j1:j < its.toArray.size) (j2:j < its'.toArray.size) (b:Bool) (d1:j < ds.length) (d2:j < es.length),G0 n ds[j] es[j]=.ok b->EqAt A.in1 s its.toArray[j] its'.toArray[j] b:=by
  intro j j1 j2 b d1 d2 hb;obtain⟨x',e1,m1⟩:=h2.get (i:=j) (d:=ds[j]) (by simp);obtain⟨y',e2,m2⟩:=k2.get (i:=j) (d:=es[j]) (by simp);obtain⟨v',ev,Kb⟩:=rv.get e1;obtain⟨u',eu,R8⟩:=L'.get e2;have hv:its.toArray[j]=v':=by have:=(x_.mp ev).2;simpa using this
  have Qn:its'.toArray[j]=u':=by have:=(x_.mp eu).2;simpa using this
  rw[hv,Qn];exact ih x' y' v' u' _ _ _ m1 m2 Kb R8 hb
 have z1:its.toArray.size=ds.length:=by simp;omega
 have z2:its'.toArray.size=es.length:=by simp;omega
 by_cases hl:ds.length=es.length
 ·obtain⟨e,q1,q2⟩:=oY hr hl;refine⟨e,fun j j1 j2=>pair j j1 j2 _ ⋯ ⋯ (q1 j _ _ (by simp) (by simp)),?_⟩;rw[q2,z1,z2,hl];simp
 ·have MV:=mF hr hl;have each:∀ (ds es:List D) (r:Bool),eN (G0 n) ds es=.ok r->∀ j (q1:j < ds.length) (q2:j < es.length),∃ b,G0 n ds[j] es[j]=.ok b:=by
   intro ds
   induction ds with
   | nil=>intro es r _ j q1;simp at q1
   | cons a ds ih=>
    intro es r h j q1 q2
    induction es using zL with
    | nil=>simp at q2
    | cons b es=>
     obtain⟨x,hx,h⟩:=eD (show Fu (G0 n a b) (fun x=>Fu (eN (G0 n) ds es) fun y=>.ok (x&&y))=.ok r from h);obtain⟨y,hy,h⟩:=eD h;cases j with
     | zero=>exact⟨x,hx⟩
     | succ k=>exact ih es y hy k (by simpa using q1) (by simpa using q2)
  refine⟨fun j=>if q:j < ds.length/\j < es.length then ((match G0 n (ds[j]'q.1) (es[j]'q.2) with|.ok b=>b|.error _=>Ξ)) else Ξ,fun j j1 j2=>?_,?_⟩
  ·have d1:j < ds.length:=⋯
   have d2:j < es.length:=⋯
   obtain⟨b,hb⟩:=each ds es r hr j d1 d2;have q:=pair j j1 j2 b d1 d2 hb;show EqAt A.in1 s its.toArray[j] its'.toArray[j] (dite _ _ _);rw[dif_pos (show j < ds.length/\j < es.length from ⟨d1,d2⟩),hb];exact q
  ·rw[MV];have:(its.toArray.size == its'.toArray.size)=Ξ:=by rw[beq_eq_false_iff_ne,z1,z2];exact hl
   rw[this,Bool.and_false]
theorem r9 (I:Inv X pins σ H s)(n:Nat)(A:Ι)(ih:∀ (x y:V)(v u:Ψ)(d e:D)(r:Bool),Fx X.K S H x d->Fx X.K S H y e->RelV x v->RelV y u->G0 n d e=.ok r->EqAt A.in1 s v u r)
  {a b:Ω}{o o':Bool}{xs ys:List V}{ds es:List D}{r:Bool} (ha:GV X.K H a xs) (hb:GV X.K H b ys) (h2:Fv X.K S H xs ds) (k2:Fv X.K S H ys es)
  (m1:Fx X.K S H (.ref a) (.lst o ds)) (m2:Fx X.K S H (.ref b) (.lst o' es)) (hr:eN (G0 n) ds es=.ok r) (Gq:A.units < cLine):Mb A s (.ref a) (.ref b) r:=by
 obtain⟨its,rv,p,_⟩:=I.list ha;obtain⟨its',L',p',_⟩:=I.list hb;obtain⟨e,he,Mc⟩:=mG n A ih rv L' h2 k2 hr;have both:RcAt A s (.ref a) (.ref b) r/\RcNeAt A s (.ref a) (.ref b) (!r):=by
  by_cases hl:its.toArray.size=its'.toArray.size
  ·have MW:r=(List.range its.toArray.size).all e:=by rw[Mc,<- hl,Nat.min_self];simp
   rw[MW];exact⟨.lists p.isList p'.isList hl Gq he,.lists p.isList p'.isList hl Gq he⟩
  ·have Hq:(its.toArray.size != its'.toArray.size)=Θ:=by simpa using hl
   have MW:r=Ξ:=by
    rw[Mc];have:(its.toArray.size == its'.toArray.size)=Ξ:=by rw[beq_eq_false_iff_ne];exact hl
    rw[this,Bool.and_false]
   rw[MW];exact⟨.lists_lengths p.isList p'.isList Hq Gq,.lists_lengths p.isList p'.isList Hq Gq⟩
 refine⟨?_,both.1,both.2⟩;by_cases J':a=b
 ·subst J';have hd:=Fx.one I m1 m2;rw[er,er] at hd;injection hd with _ hd;rw[fA (gC n) hr hd];exact .same _
 ·exact .of_refs J' both.1
set_option maxHeartbeats 4000000 in
theorem kO (I:Inv X pins σ H s):∀ (n:Nat) (A:Ι) (x y:V) (v u:Ψ) (d e:D) (r:Bool),Fx X.K S H x d->Fx X.K S H y e->RelV x v->RelV y u->G0 n d e=.ok r->
  A.units+n < cLine->Mb A s v u r
 | 0,_,_,_,_,_,_,_,_,_,_,_,_,h,_=>by cases h
 | n+1,A,x,y,v,u,d,e,r,hx,hy,rx,ry,h,hu=>by
  have Gq:A.units < cLine:=⋯
  have R7:A.in1.units+n < cLine:=by show A.units+1+n < cLine;omega
  have ih:∀ (x y:V) (v u:Ψ) (d e:D) (r:Bool),Fx X.K S H x d->Fx X.K S H y e->RelV x v->RelV y u->G0 n d e=.ok r->EqAt A.in1 s v u r:=
   fun x y v u d e r a1 a2 a3 a4 a5=>(kO I n A.in1 x y v u d e r a1 a2 a3 a4 a5 R7).eq
  induction d using zD with
  | F4=>
   cases hx.HJ;cases rx
   induction e using zD with
   | F4=>cases hy.HJ;cases ry;cases h;exact⟨.same _,.none_none,.none_none⟩
   | bl b'=>cases hy.Kv;cases ry;cases h;exact⟨.none_bool _,.none_bool _,.none_bool _⟩
   | int i'=>cases hy.Ga;obtain⟨t2,rfl⟩:=ry;cases h;exact⟨.none_int _ _,.none_int _ _,.none_int _ _⟩
   | str z'=>cases hy.Gs;obtain⟨t2,rfl⟩:=ry;cases h;exact⟨.none_str _ _,.none_str _ _,.none_str _ _⟩
   | tup es=>obtain⟨a2,KU,rfl,q2,m2⟩:=hy.GZ;cases ry;obtain⟨GP,Iy,p2,_⟩:=I.tuple q2;cases h;exact⟨.none_tuple p2 Gq,.none_tuple p2 Gq,.none_tuple p2 Gq⟩
   | lst o' es=>obtain⟨a2,KU,rfl,q2,m2⟩:=hy.GB;cases ry;obtain⟨GP,Iy,p2,_⟩:=I.list q2;cases h;exact⟨.none_list p2.isList Gq,.none_list p2.isList Gq,.none_list p2.isList Gq⟩
   | exc _=>cases h
   | Gn _ _ _=>cases h
  | bl b=>
   cases hx.Kv;cases rx
   induction e using zD with
   | F4=>cases hy.HJ;cases ry;cases h;exact⟨.bool_none _,.bool_none _,.bool_none _⟩
   | bl b'=>cases hy.Kv;cases ry;cases h;exact⟨.bool_bool _ _,.bool_bool _ _,.bool_bool _ _⟩
   | int i'=>cases hy.Ga;obtain⟨t2,rfl⟩:=ry;cases h;exact⟨.bool_int _ _ _,.bool_int _ _ _,.bool_int _ _ _⟩
   | str z'=>cases hy.Gs;obtain⟨t2,rfl⟩:=ry;cases h;exact⟨.bool_str _ _ _,.bool_str _ _ _,.bool_str _ _ _⟩
   | tup es=>obtain⟨a2,KU,rfl,q2,m2⟩:=hy.GZ;cases ry;obtain⟨GP,Iy,p2,_⟩:=I.tuple q2;cases h;exact⟨.bool_tuple _ p2 Gq,.bool_tuple _ p2 Gq,.bool_tuple _ p2 Gq⟩
   | lst o' es=>obtain⟨a2,KU,rfl,q2,m2⟩:=hy.GB;cases ry;obtain⟨GP,Iy,p2,_⟩:=I.list q2;cases h;exact⟨.bool_list _ p2.isList Gq,.bool_list _ p2.isList Gq,.bool_list _ p2.isList Gq⟩
   | exc _=>cases h
   | Gn _ _ _=>cases h
  | int i=>
   cases hx.Ga;obtain⟨t1,rfl⟩:=rx
   induction e using zD with
   | F4=>cases hy.HJ;cases ry;cases h;exact⟨.int_none _ _,.int_none _ _,.int_none _ _⟩
   | bl b'=>cases hy.Kv;cases ry;cases h;exact⟨.int_bool _ _ _,.int_bool _ _ _,.int_bool _ _ _⟩
   | int i'=>cases hy.Ga;obtain⟨t2,rfl⟩:=ry;cases h;exact⟨.int_int _ _ _ _,.int_int _ _ _ _,.int_int _ _ _ _⟩
   | str z'=>cases hy.Gs;obtain⟨t2,rfl⟩:=ry;cases h;exact⟨.int_str _ _ _ _,.int_str _ _ _ _,.int_str _ _ _ _⟩
   | tup es=>obtain⟨a2,KU,rfl,q2,m2⟩:=hy.GZ;cases ry;obtain⟨GP,Iy,p2,_⟩:=I.tuple q2;cases h;exact⟨.int_tuple _ _ p2 Gq,.int_tuple _ _ p2 Gq,.int_tuple _ _ p2 Gq⟩
   | lst o' es=>obtain⟨a2,KU,rfl,q2,m2⟩:=hy.GB;cases ry;obtain⟨GP,Iy,p2,_⟩:=I.list q2;cases h;exact⟨.int_list _ _ p2.isList Gq,.int_list _ _ p2.isList Gq,.int_list _ _ p2.isList Gq⟩
   | exc _=>cases h
   | Gn _ _ _=>cases h
  | str z=>
   cases hx.Gs;obtain⟨t1,rfl⟩:=rx
   induction e using zD with
   | F4=>cases hy.HJ;cases ry;cases h;exact⟨.str_none _ _,.str_none _ _,.str_none _ _⟩
   | bl b'=>cases hy.Kv;cases ry;cases h;exact⟨.str_bool _ _ _,.str_bool _ _ _,.str_bool _ _ _⟩
   | int i'=>cases hy.Ga;obtain⟨t2,rfl⟩:=ry;cases h;exact⟨.str_int _ _ _ _,.str_int _ _ _ _,.str_int _ _ _ _⟩
   | str z'=>cases hy.Gs;obtain⟨t2,rfl⟩:=ry;cases h;exact⟨.str_str _ _ _ _,.str_str _ _ _ _,.str_str _ _ _ _⟩
   | tup es=>obtain⟨a2,KU,rfl,q2,m2⟩:=hy.GZ;cases ry;obtain⟨GP,Iy,p2,_⟩:=I.tuple q2;cases h;exact⟨.str_tuple _ _ p2 Gq,.str_tuple _ _ p2 Gq,.str_tuple _ _ p2 Gq⟩
   | lst o' es=>obtain⟨a2,KU,rfl,q2,m2⟩:=hy.GB;cases ry;obtain⟨GP,Iy,p2,_⟩:=I.list q2;cases h;exact⟨.str_list _ _ p2.isList Gq,.str_list _ _ p2.isList Gq,.str_list _ _ p2.isList Gq⟩
   | exc _=>cases h
   | Gn _ _ _=>cases h
  | tup ds=>
   obtain⟨a1,YG,rfl,q1,m1⟩:=hx.GZ;cases rx;obtain⟨Je,Kb,p1,_⟩:=I.tuple q1
   induction e using zD with
   | F4=>cases hy.HJ;cases ry;cases h;exact⟨.tuple_none p1 Gq,.tuple_none p1 Gq,.tuple_none p1 Gq⟩
   | bl b'=>cases hy.Kv;cases ry;cases h;exact⟨.tuple_bool _ p1 Gq,.tuple_bool _ p1 Gq,.tuple_bool _ p1 Gq⟩
   | int i'=>cases hy.Ga;obtain⟨t2,rfl⟩:=ry;cases h;exact⟨.tuple_int _ _ p1 Gq,.tuple_int _ _ p1 Gq,.tuple_int _ _ p1 Gq⟩
   | str z'=>cases hy.Gs;obtain⟨t2,rfl⟩:=ry;cases h;exact⟨.tuple_str _ _ p1 Gq,.tuple_str _ _ p1 Gq,.tuple_str _ _ p1 Gq⟩
   | tup es=>
    have G9:=hx;have JQ:=hy;obtain⟨a2,KU,rfl,q2,m2⟩:=hy.GZ;cases ry;obtain⟨GP,Iy,p2,_⟩:=I.tuple q2;have hr:eN (G0 n) ds es=.ok r:=h;obtain⟨e,he,Mc⟩:=mG n A ih Kb Iy m1 m2 hr;refine⟨?_,?_,?_⟩
    ·by_cases J':a1=a2
     ·subst J';have hd:=Fx.one I G9 JQ;rw[er,er] at hd;injection hd with hd;rw[fA (gC n) hr hd];exact .same _
     ·rw[Mc];exact .of_refs J' (.tuples p1 p2 Gq he)
    ·rw[Mc];exact .tuples p1 p2 Gq he
    ·rw[Mc];exact .tuples p1 p2 Gq he
   | lst o' es=>obtain⟨a2,KU,rfl,q2,m2⟩:=hy.GB;cases ry;obtain⟨GP,Iy,p2,_⟩:=I.list q2;cases h;exact⟨.tuple_list p1 p2.isList Gq,.tuple_list p1 p2.isList Gq,.tuple_list p1 p2.isList Gq⟩
   | exc _=>cases h
   | Gn _ _ _=>cases h
  | lst o ds=>
   obtain⟨a1,YG,rfl,q1,m1⟩:=hx.GB;cases rx;obtain⟨Je,Kb,p1,_⟩:=I.list q1
   induction e using zD with
   | F4=>cases hy.HJ;cases ry;cases h;exact⟨.list_none p1.isList Gq,.list_none p1.isList Gq,.list_none p1.isList Gq⟩
   | bl b'=>cases hy.Kv;cases ry;cases h;exact⟨.list_bool _ p1.isList Gq,.list_bool _ p1.isList Gq,.list_bool _ p1.isList Gq⟩
   | int i'=>cases hy.Ga;obtain⟨t2,rfl⟩:=ry;cases h;exact⟨.list_int _ _ p1.isList Gq,.list_int _ _ p1.isList Gq,.list_int _ _ p1.isList Gq⟩
   | str z'=>cases hy.Gs;obtain⟨t2,rfl⟩:=ry;cases h;exact⟨.list_str _ _ p1.isList Gq,.list_str _ _ p1.isList Gq,.list_str _ _ p1.isList Gq⟩
   | tup es=>obtain⟨a2,KU,rfl,q2,m2⟩:=hy.GZ;cases ry;obtain⟨GP,Iy,p2,_⟩:=I.tuple q2;cases h;exact⟨.list_tuple p1.isList p2 Gq,.list_tuple p1.isList p2 Gq,.list_tuple p1.isList p2 Gq⟩
   | lst o' es=>have G9:=hx;have JQ:=hy;obtain⟨a2,KU,rfl,q2,m2⟩:=hy.GB;cases ry;obtain⟨GP,Iy,p2,_⟩:=I.list q2;exact r9 I n A ih q1 q2 m1 m2 G9 JQ h Gq
   | exc _=>cases h
   | Gn _ _ _=>cases h
  | exc _=>cases h
  | Gn _ _ _=>induction e using zD<;>cases h
end
abbrev nw (S:Ω->Prop)(H:Hp):Ω->Prop:=fun a=>S a∨H a=Φ
abbrev Kk (K:Frag)(S:Ω->Prop)(H:Hp)(Q:VK):D->Prop:=fun d=>∀ w H',cz H H'->Fx K (nw S H) H' w d->Q w H'
theorem Fx.nw {K:Frag}{S:Ω->Prop}{H:Hp}{v:V}{d:D}(h:Fx K S H v d):Fx K (nw S H) H v d:=h.mono (fun _=>.inl) (.refl _)
theorem AM {K:Frag}{S:Ω->Prop}{H:Hp}{p:Ω}{vs:List V}{ds:List D}(hp:H p=Φ)(h:Fv K S H vs ds):Fx K (nw S H) (upd H p (.tup vs)) (.ref p) (.tup ds):=
 .tup (.inl (.inl cv)) (h.mono (fun _=>.inl) (.upd hp))
theorem mH {K:Frag}{S:Ω->Prop}{H:Hp}{p:Ω}{vs:List V}{ds:List D}{o:Bool}(hp:H p=Φ)(h:Fv K S H vs ds):Fx K (nw S H) (upd H p (.lst vs)) (.ref p) (.lst o ds):=
 .lst (.inr hp) (.inl cv) (h.mono (fun _=>.inl) (.upd hp))
noncomputable def LH:KS->Operator
 | .add=>.Add|.sub=>.Sub|.mul=>.Mult|.fdiv=>.FloorDiv|.mod=>.Mod|.pow=>.Pow
noncomputable def IJ:Ip->CmpOp
 | .eq=>.Eq|.ne=>.NotEq|.lt=>.Lt|.le=>.LtE|.gt=>.Gt|.ge=>.GtE|.Lb=>.In|.Ma=>.NotIn|.LA=>.Is|.JR=>.IsNot
def E7 (K:Frag)(ex:Str->Prop)(op:KS):R2:=fun x y H Q=>∃ S d e,Fx K S H x d/\Fx K S H y e/\Fw ex (HM op d e) (Kk K S H Q)
def E8 (K:Frag)(ex:Str->Prop)(op:Ip):R2:=fun x y H Q=>∃ S d e,Fx K S H x d/\Fx K S H y e/\Fw ex (G7 op d e) fun r=>Q (.bl r) H
section
variable {X:Cx}{ex:Str->Prop}
theorem dh {n:Nat}(h:dn n=Θ):n<=Ζ:=q_ h
theorem gD {n:Nat}(h:dP n=Θ):n < Ζ:=q_ h
theorem kP:Ij X (binaryOp .Add) (fun x y H Q=>∃ l b xs zs,x=.ref l/\y=.ref b/\Ls X.K H l xs/\Ls X.K H b zs/\xs.length+zs.length<=Ζ/\∀ p,H p=Φ->Q (.ref p) (upd H p (.lst (xs++zs)))):=by
 intro pins s σ H x y v u Q I rx ry h;obtain⟨l,b,xs,zs,rfl,rfl,hH,hB,hz,q⟩:=h;cases rx;cases ry;obtain⟨hl,its,n,r,e⟩:=I.ls hH;obtain⟨LI,GP,n2,r2,e'⟩:=I.ls hB;have e1:=r.length;have e2:=r2.length;refine PySem.P.add_list e e' ?_ (by rw[E_,E_];omega);have ea:its.toArray++GP.toArray=(its++GP).toArray:=by simp
 rw[ea];exact⟨.ref _,_,I.MG (t':=s.toks) (r.append r2) (by rw[o_];omega),rfl,q _ I.fresh⟩
theorem sd {vs:List V}{its:List Ψ}(r:Vals vs its):∀ k:Nat,Vals (Τ k vs).flatten (Τ k its).flatten:=r.rep
theorem oZ:Ij X (binaryOp .Mult) (fun x y H Q=>∃ l k xs,x=.ref l/\y=.int k/\Ls X.K H l xs/\0<=k/\k<=16000/\xs.length<=1000/\∀ p,H p=Φ->Q (.ref p) (upd H p (.lst (Τ k.toNat xs).flatten))):=by
 intro pins s σ H x y v u Q I rx ry h;obtain⟨l,k,xs,rfl,rfl,hH,h1,h2,hx,q⟩:=h;cases rx;obtain⟨t,rfl⟩:=ry;obtain⟨hl,its,n,r,e⟩:=I.ls hH;have el:=r.length;have hz:xs.length*k.toNat<=1000*16000:=Nat.mul_le_mul hx ⋯;have big:1000*16000<=Ζ:= nofun
 have hsz:its.toArray.size*k.toNat<=Ζ:=by rw[E_,<- el];omega
 have c1:¬ its.toArray.size*k.toNat > (2 ^ 63 - 1) / 8:=by
  have:(Ζ:Nat)<=(2 ^ 63 - 1) / 8:= nofun
  omega
 have c2:¬ (!Builtin.List.listFitsIndex k)=Θ:=by rw[fitsIndex_both ⋯ ⋯];exact p_
 have c3:¬ Builtin.List.listTooLong (its.toArray.size*k.toNat)=Θ:=by rw[rl hsz];exact p_
 have f0:∀ m:Nat,List.foldl (fun a b=>a++b) #[] (Τ m its.toArray)=(Τ m its).flatten.toArray:=fun m=>by have z:=foldl_rep its m [];rw[List.nil_append] at z;exact z
 have f1:List.foldl (fun a b=>a++b) #[] (Τ (if its.toArray.isEmpty=Θ then 0 else k.toNat) its.toArray)=(Τ k.toNat its).flatten.toArray:=by
  rw[f0]
  induction its using zL with
  | nil=>simp
  | cons _ _=>rw[d_ (by simp)]
 refine wpAny_binaryOp_repeat_ref (T:="list") (U:="int") nofun ⟨_,e,rfl⟩ (fun s'=>typeIs_int s' k t) noFill_list_mul F.fills_int_mul F.slot_int_rmul repeat_list F.slot_int_index.lookup (call_meets F.slot_int_rmul (typeIs_int s k t) F.entry_int_rmul (F.args_int_rmul_2 _ _) (int___rmul___int_list k t l its.toArray n) ⟨e,rfl,⟨_,e,rfl⟩,call_meets F.slot_list_mul ⟨_,e,rfl⟩ F.entry_list_mul (F.args_list_mul_2 _ _) (AutoListH.list___mul___list_int_3 l its.toArray n k t c2 c1 c3) ⟨e,?_⟩⟩);rw[f1];exact⟨.ref _,_,I.MG (t':=s.toks) (sd r k.toNat) (by rw[len_rep,Nat.mul_comm];omega),rfl,q _ I.fresh⟩
theorem Fv.rep {K:Frag}{S:Ω->Prop}{H:Hp}{vs:List V}{ds:List D}(m:Fv K S H vs ds):∀ k:Nat,Fv K S H (Τ k vs).flatten (Τ k ds).flatten
 | 0=>.nil
 | k+1=>by rw[List.replicate_succ,List.replicate_succ,List.flatten_cons,List.flatten_cons];exact m.append (Fv.rep m k)
theorem AN (op:KS):Ij X (binaryOp (LH op)) (E7 X.K ex op):=by
 intro pins s σ H x y v u Q I rx ry h;obtain⟨S,d,e,hx,hy,h⟩:=h;have stuck:∀ {P:Prop},HM op d e=F5->P:=fun z=>by rw[z] at h;exact h.no.elim
 cases op with
 | add=>
  induction d using zD with
  | int a=>
   induction e using zD with
   | int b=>cases hx.Ga;cases hy.Ga;exact Ad pins s σ H _ _ v u Q I rx ry ⟨a,b,rfl,rfl,h.ok _ _ (.refl _) (.int _)⟩
   | _=>exact stuck rfl
  | str a=>
   induction e using zD with
   | str b=>cases hx.Gs;cases hy.Gs;obtain⟨g,h⟩:=Fw.FE h;exact nK pins s σ H _ _ v u Q I rx ry ⟨a,b,rfl,rfl,dh g,h.ok _ _ (.refl _) (.str _)⟩
   | _=>exact stuck rfl
  | lst o a=>
   induction e using zD with
   | lst o' b=>obtain⟨p,xs,rfl,q1,m1⟩:=hx.Ke;obtain⟨p',ys,rfl,q2,m2⟩:=hy.Ke;obtain⟨g,h⟩:=Fw.FE h;have g':=dh g;have l1:=m1.length;have l2:=m2.length;exact kP pins s σ H _ _ v u Q I rx ry ⟨p,p',xs,ys,rfl,rfl,q1,q2,⋯,fun z hz=>h.ok _ _ (.upd hz) (mH hz (m1.append m2))⟩
   | _=>exact stuck rfl
  | _=>exact stuck rfl
 | sub=>
  induction d using zD with
  | int a=>
   induction e using zD with
   | int b=>cases hx.Ga;cases hy.Ga;exact Ae pins s σ H _ _ v u Q I rx ry ⟨a,b,rfl,rfl,h.ok _ _ (.refl _) (.int _)⟩
   | _=>exact stuck rfl
  | _=>exact stuck rfl
 | mul=>
  induction d using zD with
  | int a=>
   induction e using zD with
   | int b=>cases hx.Ga;cases hy.Ga;obtain⟨g,h⟩:=Fw.FE h;rw[Y_] at g;exact Af pins s σ H _ _ v u Q I rx ry ⟨a,b,rfl,rfl,g.elim (fun z=>.inl (q_ z)) (fun z=>.inr (q_ z)),h.ok _ _ (.refl _) (.int _)⟩
   | _=>exact stuck rfl
  | str a=>
   induction e using zD with
   | int b=>cases hx.Gs;cases hy.Ga;obtain⟨g,h⟩:=Fw.FE h;have g':=q_ g;exact nO pins s σ H _ _ v u Q I rx ry ⟨a,b,rfl,rfl,g'.1,g'.2.1,g'.2.2,h.ok _ _ (.refl _) (.str _)⟩
   | _=>exact stuck rfl
  | lst o a=>
   induction e using zD with
   | int b=>obtain⟨p,xs,rfl,q1,m1⟩:=hx.Ke;cases hy.Ga;obtain⟨g,h⟩:=Fw.FE h;have g':=q_ g;have l1:=m1.length;exact oZ pins s σ H _ _ v u Q I rx ry ⟨p,b,xs,rfl,rfl,q1,g'.1,g'.2.1,by rw[l1];exact g'.2.2,fun z hz=>h.ok _ _ (.upd hz) (mH hz (m1.rep _))⟩
   | _=>exact stuck rfl
  | _=>exact stuck rfl
 | fdiv=>
  induction d using zD with
  | int a=>
   induction e using zD with
   | int b=>cases hx.Ga;cases hy.Ga;obtain⟨g,h⟩:=Fw.FE h;exact vT pins s σ H _ _ v u Q I rx ry ⟨a,b,rfl,rfl,show 0 < b/\b < 1073741824 from q_ g,h.ok _ _ (.refl _) (.int _)⟩
   | _=>exact stuck rfl
  | _=>exact stuck rfl
 | mod=>
  induction d using zD with
  | int a=>
   induction e using zD with
   | int b=>cases hx.Ga;cases hy.Ga;obtain⟨g,h⟩:=Fw.FE h;exact Ag pins s σ H _ _ v u Q I rx ry ⟨a,b,rfl,rfl,q_ g,h.ok _ _ (.refl _) (.int _)⟩
   | _=>exact stuck rfl
  | _=>exact stuck rfl
 | pow=>
  induction d using zD with
  | int a=>
   induction e using zD with
   | int b=>cases hx.Ga;cases hy.Ga;obtain⟨g,h⟩:=Fw.FE h;exact Ah pins s σ H _ _ v u Q I rx ry ⟨a,b,rfl,rfl,show 0<=b/\b<=1000000/\a.natAbs < 2 ^ 64 from q_ g,h.ok _ _ (.refl _) (.int _)⟩
   | _=>exact stuck rfl
  | _=>exact stuck rfl
theorem Fw.G0 {ex:Str->Prop}:∀ {n:Nat}{d e:D}{k:Bool->Prop},Fw ex (L2.G0 n d e) k->∃ r,L2.G0 n d e=.ok r/\k r:=by
 have no:∀ (n:Nat) (d e:D) (c:Str),L2.G0 n d e≠.error (.exc c):=by
  intro n;have SH:∀ (f:D->D->Res Bool),(∀ d e c,f d e≠.error (.exc c))->∀ (ds es:List D) (c:Str),eN f ds es≠.error (.exc c):=by
   intro f hf ds
   induction ds with
   | nil=>intro es c h;cases es<;>cases h
   | cons a ds ih=>
    intro es c h
    induction es using zL with
    | nil=>cases h
    | cons b es=>
     have h':L2.Fu (f a b) (fun x=>L2.Fu (eN f ds es) fun y=>.ok (x&&y))=.error (.exc c):=h;cases q:f a b with
     | error z=>rw[q] at h';exact hf a b c (by rw[q];exact h')
     | ok x=>
      rw[q] at h';have h2:L2.Fu (eN f ds es) (fun y=>.ok (x&&y))=.error (.exc c):=h';cases q2:eN f ds es with
      | error z=>rw[q2] at h2;exact ih es c (by rw[q2];exact h2)
      | ok y=>rw[q2] at h2;cases h2
  induction n with
  | zero=>intro d e c h;cases h
  | succ n ih=>
   intro d e c h
   induction d using zD<;>induction e using zD<;>first|cases h|exact SH _ ih _ _ _ h
 intro n d e k h;cases q:L2.G0 n d e with
 | ok r=>rw[q] at h;exact⟨r,rfl,h⟩
 | error z=>
  rw[q] at h;cases z with
  | stuck=>exact h.no.elim
  | exc c=>exact absurd q (no n d e c)
theorem Fw.Hk {ex:Str->Prop}{d:D}:∀ {ds:List D}{k:Bool->Prop},Fw ex (L2.Hk d ds) k->∃ f:Nat->Bool,(∀ i e,ds[i]? = Δ e->L2.G0 40 e d=.ok (f i))/\k ((List.range ds.length).any f)
 | [],k,h=>⟨fun _=>Ξ,fun i e z=>by simp at z,h⟩
 | e::r,k,h=>by
  obtain⟨x,Ve,h1⟩:=Fw.G0 (Fw.Fu h);obtain⟨f,h2,h3⟩:=Fw.Hk (Fw.Fu h1);refine⟨fun i=>match i with|0=>x|j+1=>f j,fun i e' z=>?_,?_⟩
  ·cases i with
   | zero=>simp at z;subst z;exact Ve
   | succ j=>exact h2 j e' (by simpa using z)
  ·rw[List.length_cons,List.range_succ_eq_map,List.any_cons,List.any_map];exact h3
theorem n6 {A:Ι}{s:Α}{v:Ψ}(its:List Ψ)(f:Nat->Bool)(h:∀ i u,its[i]? = Δ u->EqAt A s u v (f i)) :
  ∃ e:Ψ->Bool,(∀ y,y∈its.toArray->EqAt A s y v (e y))/\its.toArray.any e=(List.range its.length).any f:=by
 classical
 refine⟨fun y=>decide (∃ i,its[i]? = Δ y/\f i=Θ),fun y hy=>?_,?_⟩
 ·have JQ:y∈its:=by simpa using hy
  obtain⟨j,hj⟩:=List.getElem?_of_mem JQ;show EqAt A s y v (decide (∃ i,its[i]? = Δ y/\f i=Θ));by_cases q:∃ i,its[i]? = Δ y/\f i=Θ
  ·rw[F_ q];obtain⟨i,hi,fi⟩:=q;have:=h i y hi;rw[fi] at this;exact this
  ·rw[S_ q];have:=h j y hj;have fj:f j=Ξ:=by
    cases z:f j with
    | false=>rfl
    | true=>exact absurd ⟨j,hj,z⟩ q
   rw[fj] at this;exact this
 ·rw[Bool.eq_iff_iff];simp only[List.any_toArray,List.any_eq_true,Z_,decide_eq_true_eq];constructor
  ·rintro ⟨y,hy,i,hi,fi⟩;exact⟨i,(x_.mp hi).1,fi⟩
  ·rintro ⟨i,hi,fi⟩;exact⟨its[i],aak hi,i,by simp[hi],fi⟩
theorem fP (hu:X.A.units+42 < cLine){pins:List (Ω×Obj)}{s:Α}{σ:St}{H:Hp}{S:Ω->Prop}{x:V}{v:Ψ}{d:D}{k:Bool->Prop}(I:Inv X pins σ H s)(rx:RelV x v)(hx:Fx X.K S H x d)
  {xs:List V}{its:List Ψ}{ds:List D} (rv:Vals xs its) (m:Fv X.K S H xs ds) (h:Fw ex (Hk d ds) k) :
  ∃ e:Ψ->Bool,(∀ y,y∈its.toArray->EqAt X.A.in1 s y v (e y))/\k (its.toArray.any e):=by
 obtain⟨f,h1,h2⟩:=Fw.Hk h;have l1:=rv.length;have l2:=m.length;obtain⟨e,h3,h4⟩:=n6 (A:=X.A.in1) (s:=s) (v:=v) its f fun i u hi=>by have Gr:i < its.length:=(x_.mp hi).1;obtain⟨y,hy,my⟩:=m.get (i:=i) (d:=ds[i]'⋯) (by simp);obtain⟨u',Qn,ru⟩:=rv.get hy;rw[hi] at Qn;cases Qn;exact(kO I 40 X.A.in1 y x u v _ d _ my hx ru rx (h1 i _ (by simp)) (by show X.A.units+1+40 < cLine;omega)).eq
 refine⟨e,h3,?_⟩;rw[h4,show its.length=ds.length by omega];exact h2
theorem gX (hu:X.A.units+42 < cLine)(op:Ip):Ij X (compareOp (IJ op)) (E8 X.K ex op):=by
 intro pins s σ H x y v u Q I rx ry h;obtain⟨S,d,e,hx,hy,h⟩:=h;have stuck:∀ {P:Prop},G7 op d e=F5->P:=fun z=>by rw[z] at h;exact h.no.elim
 have fin:∀ {b:Bool},Q (.bl b) H->EP X pins σ Q (.bool b) s:=fun q=>⟨.bl _,H,I,rfl,q⟩
 cases op with
 | eq=>obtain⟨r,h1,h2⟩:=Fw.G0 h;exact(kO I 40 X.A x y v u d e r hx hy rx ry h1 ⋯).rc _ _ _ _ (fin h2)
 | ne=>obtain⟨r,h1,h2⟩:=Fw.G0 (Fw.Fu h);exact(kO I 40 X.A x y v u d e r hx hy rx ry h1 ⋯).ne _ _ _ _ (fin h2.ok)
 | lt=>
  induction d using zD with
  | int a=>
   induction e using zD with
   | int b=>cases hx.Ga;cases hy.Ga;obtain⟨t,rfl⟩:=rx;obtain⟨t',rfl⟩:=ry;exact lt_int (fin h.ok)
   | _=>exact stuck rfl
  | _=>exact stuck rfl
 | le=>
  induction d using zD with
  | int a=>
   induction e using zD with
   | int b=>cases hx.Ga;cases hy.Ga;obtain⟨t,rfl⟩:=rx;obtain⟨t',rfl⟩:=ry;exact le_int (fin h.ok)
   | _=>exact stuck rfl
  | _=>exact stuck rfl
 | gt=>
  induction d using zD with
  | int a=>
   induction e using zD with
   | int b=>cases hx.Ga;cases hy.Ga;obtain⟨t,rfl⟩:=rx;obtain⟨t',rfl⟩:=ry;exact gt_int (fin h.ok)
   | _=>exact stuck rfl
  | _=>exact stuck rfl
 | ge=>
  induction d using zD with
  | int a=>
   induction e using zD with
   | int b=>cases hx.Ga;cases hy.Ga;obtain⟨t,rfl⟩:=rx;obtain⟨t',rfl⟩:=ry;exact ge_int (fin h.ok)
   | _=>exact stuck rfl
  | _=>exact stuck rfl
 | Lb=>
  induction e using zD with
  | str b=>
   induction d using zD with
   | str a=>cases hx.Gs;cases hy.Gs;obtain⟨t,rfl⟩:=rx;obtain⟨t',rfl⟩:=ry;exact in_str (fin h.ok)
   | _=>exact stuck rfl
  | lst o ds=>obtain⟨a,xs,rfl,q1,m1⟩:=hy.GB;cases ry;obtain⟨its,rv,pl,_⟩:=I.list q1;obtain⟨e,h1,h2⟩:=fP (ex:=ex) hu I rx hx rv m1 (by induction d using zD<;>exact h);exact in_listAt e pl.isList h1 (fin h2)
  | tup ds=>obtain⟨a,xs,rfl,q1,m1⟩:=hy.GZ;cases ry;obtain⟨its,rv,pl,_⟩:=I.tuple q1;obtain⟨e,h1,h2⟩:=fP (ex:=ex) hu I rx hx rv m1 (by induction d using zD<;>exact h);exact in_tupleAt e pl h1 (fin h2)
  | F4=>induction d using zD<;>exact stuck rfl
  | bl _=>induction d using zD<;>exact stuck rfl
  | int _=>induction d using zD<;>exact stuck rfl
  | exc _=>induction d using zD<;>exact stuck rfl
  | Gn _ _ _=>induction d using zD<;>exact stuck rfl
 | Ma=>
  induction e using zD with
  | str b=>
   induction d using zD with
   | str a=>cases hx.Gs;cases hy.Gs;obtain⟨t,rfl⟩:=rx;obtain⟨t',rfl⟩:=ry;exact notIn_str (fin h.ok)
   | _=>exact stuck rfl
  | lst o ds=>obtain⟨a,xs,rfl,q1,m1⟩:=hy.GB;cases ry;obtain⟨its,rv,pl,_⟩:=I.list q1;obtain⟨e,h1,h2⟩:=fP (ex:=ex) (k:=fun r=>Q (.bl !r) H) hu I rx hx rv m1 ((Fw.Fu (show Fw ex (Fu (Hk d ds) fun r=>.ok !r) (fun r=>Q (.bl r) H) by induction d using zD<;>exact h)).mono fun _ z=>z);exact notIn_listAt e pl.isList h1 (fin h2)
  | tup ds=>obtain⟨a,xs,rfl,q1,m1⟩:=hy.GZ;cases ry;obtain⟨its,rv,pl,_⟩:=I.tuple q1;obtain⟨e,h1,h2⟩:=fP (ex:=ex) (k:=fun r=>Q (.bl !r) H) hu I rx hx rv m1 ((Fw.Fu (show Fw ex (Fu (Hk d ds) fun r=>.ok !r) (fun r=>Q (.bl r) H) by induction d using zD<;>exact h)).mono fun _ z=>z);exact notIn_tupleAt e pl h1 (fin h2)
  | F4=>induction d using zD<;>exact stuck rfl
  | bl _=>induction d using zD<;>exact stuck rfl
  | int _=>induction d using zD<;>exact stuck rfl
  | exc _=>induction d using zD<;>exact stuck rfl
  | Gn _ _ _=>induction d using zD<;>exact stuck rfl
 | LA=>
  induction e using zD with
  | F4=>
   cases hy.HJ;cases ry;have ev:eW d=(v == Value.none):=by
    cases hx with
    | F4=>cases rx;rfl
    | bl b=>cases rx;rfl
    | int i=>obtain⟨t,rfl⟩:=rx;rfl
    | str z=>obtain⟨t,rfl⟩:=rx;rfl
    | tup _ _=>cases rx;rfl
    | lst _ _ _=>cases rx;rfl
    | lstK _ _=>cases rx;rfl
    | exc _=>cases rx;rfl
    | Gn _ _ _ _=>cases rx;rfl
   have h':Q (.bl (eW d)) H:=by induction d using zD<;>exact h
   rw[ev] at h';exact is_none_gen (fin h')
  | _=>induction d using zD<;>exact stuck rfl
 | JR=>
  induction e using zD with
  | F4=>
   cases hy.HJ;cases ry;have ev:eW d=(v == Value.none):=by
    cases hx with
    | F4=>cases rx;rfl
    | bl b=>cases rx;rfl
    | int i=>obtain⟨t,rfl⟩:=rx;rfl
    | str z=>obtain⟨t,rfl⟩:=rx;rfl
    | tup _ _=>cases rx;rfl
    | lst _ _ _=>cases rx;rfl
    | lstK _ _=>cases rx;rfl
    | exc _=>cases rx;rfl
    | Gn _ _ _ _=>cases rx;rfl
   have h':Q (.bl (!eW d)) H:=by induction d using zD<;>exact h
   rw[ev] at h';exact isnot_none_gen (fin h')
  | bl b'=>
   cases hy.Kv;cases ry
   induction d using zD with
   | bl b=>
    cases hx.Kv;cases rx;have ee:(!(Value.bool b == Value.bool b'))=(b != b'):=by induction b using zB<;>induction b' using zB<;>rfl
    exact wpAny_isNot_plain rfl (by rw[ee];exact fin h)
   | F4=>cases hx.HJ;cases rx;exact wpAny_isNot_plain rfl (fin h)
   | _=>exact stuck rfl
  | _=>induction d using zD<;>exact stuck rfl
theorem ir {pins:List (Ω×Obj)}{s:Α}{σ:St}{H:Hp}{S:Ω->Prop}{x:V}{v:Ψ}{d:D}{Q:Bool->Hp->Prop}(I:Inv X pins σ H s)(rx:RelV x v)(hx:Fx X.K S H x d)(h:Fw ex (cM d) fun b=>Q b H) :
  Κ (Μ X.prog X.w) X.A (truthy v) (TP X pins σ Q) X.xe s:=by
 refine Aj pins s σ H x v Q I rx ?_
 induction d using zD with
 | exc c=>exact h.no.elim
 | Gn _ _ _=>exact h.no.elim
 | F4=>cases hx.HJ;exact⟨Ξ,rfl,h⟩
 | bl b=>cases hx.Kv;exact⟨b,rfl,h⟩
 | int i=>cases hx.Ga;exact⟨_,rfl,h⟩
 | str z=>cases hx.Gs;obtain⟨g,h⟩:=Fw.FE h;exact⟨_,⟨dh g,rfl⟩,h⟩
 | tup ds=>obtain⟨a,xs,rfl,q,m⟩:=hx.GZ;refine⟨!ds.isEmpty,.inr (.inl ⟨xs,q,?_⟩),h⟩;have:=m.length;cases xs<;>cases ds<;>simp_all
 | lst o ds=>obtain⟨a,xs,rfl,q,m⟩:=hx.GB;refine⟨!ds.isEmpty,.inl ⟨xs,q,?_⟩,h⟩;have:=m.length;cases xs<;>cases ds<;>simp_all
theorem o4 {K:Frag}{S:Ω->Prop}{H:Hp}{vs:List V}{ds:List D}{i:Int}{d:D}(m:Fv K S H vs ds)(h:Hh ds i=Δ d):∃ v,Hh vs i=Δ v/\Fx K S H v d:=by
 unfold Hh at h ⊢;rw[m.length];cases q:Hg ds.length i with
 | none=>rw[q] at h;cases h
 | some j=>rw[q] at h;exact m.get h
def E9 (K:Frag)(ex:Str->Prop):R2:=fun x y H Q=>∃ S d e,Fx K S H x d/\Fx K S H y e/\Fw ex (cH d e) (Kk K S H Q)
theorem wK:K8 X (E9 X.K ex):=by
 intro value slice pins s σ H x y v u Q I rx ry h hs;obtain⟨S,d,e,hx,hy,h⟩:=h;refine An value slice pins s σ H x y v u Q I rx ry ?_ hs;have stuck:∀ {P:Prop},cH d e=F5->P:=fun z=>by rw[z] at h;exact h.no.elim
 induction e using zD with
 | int i=>
  cases hy.Ga
  induction d using zD with
  | lst o ds=>
   obtain⟨a,xs,rfl,q,m⟩:=hx.GB;have h':Fw ex (match Hh ds i with|some d=>.ok d|none=>F5) (Kk X.K S H Q):=h;cases z:Hh ds i with
   | none=>rw[z] at h';exact h'.no.elim
   | some d=>rw[z] at h';obtain⟨w,ew,mw⟩:=o4 m z;exact .inl ⟨a,xs,i,w,rfl,rfl,q,ew,h'.ok _ _ (.refl _) mw.nw⟩
  | tup ds=>
   obtain⟨a,xs,rfl,q,m⟩:=hx.GZ;have h':Fw ex (match Hh ds i with|some d=>.ok d|none=>F5) (Kk X.K S H Q):=h;cases z:Hh ds i with
   | none=>rw[z] at h';exact h'.no.elim
   | some d=>rw[z] at h';obtain⟨w,ew,mw⟩:=o4 m z;exact .inr (.inl ⟨a,xs,i,w,rfl,rfl,q,ew,h'.ok _ _ (.refl _) mw.nw⟩)
  | str z=>
   cases hx.Gs;obtain⟨g,h⟩:=Fw.FE h;cases q:Hh z.cps.toList i with
   | none=>rw[q] at h;exact h.no.elim
   | some c=>rw[q] at h;exact .inr (.inr ⟨z,i,c,rfl,rfl,dh g,q,h.ok _ _ (.refl _) (.str _)⟩)
  | _=>exact stuck rfl
 | _=>induction d using zD<;>exact stuck rfl
def Fb (K:Frag)(ex:Str->Prop):V->Option Int->Option Int->Hp->VK->Prop:=fun x lo hi H Q=>∃ S d,Fx K S H x d/\Fw ex (mB d lo hi) (Kk K S H Q)
theorem AO:Qd X (fun x lo hi H Q=>∃ z,x=.str z/\z.length<=Ζ/\Q (.str (Txt.slice z lo hi)) H):=by
 intro pins s σ H x v vl vu lo hi sl Q I rx hs pl pu h;obtain⟨z,rfl,hz,q⟩:=h;obtain⟨t,rfl⟩:=rx;refine⟨"str",_,F.slot_str_getitem.lookup,typeIs_str s z t,?_⟩;have fin:∀ (l u:Option (Int×Tok)),vl=partValue l->vu=partValue u->l.map (·.1)=lo->u.map (·.1)=hi->Κ (Μ X.prog X.w) X.A (getItem (.str z t) (.ref sl)) (EP X pins σ Q) X.xe s:=by intro l u e1 e2 e3 e4;subst e1 e2 e3 e4;refine wpAny_getItem_str_slice (l:=l) (u:=u) (st:=Φ) hs rfl ?_;exact post_val_or_str ⟨O_ (Txt.slice_le z _ _) hz,fun t' k=>⟨.str _,H,I.tok _,⟨_,rfl⟩,q⟩⟩
 cases pl with
 | none=>
  cases pu with
  | none=>exact fin Φ Φ rfl rfl rfl rfl
  | int j t'=>exact fin Φ (Δ (j,t')) rfl rfl rfl rfl
 | int i t'=>
  cases pu with
  | none=>exact fin (Δ (i,t')) Φ rfl rfl rfl rfl
  | int j YH=>exact fin (Δ (i,t')) (Δ (j,YH)) rfl rfl rfl rfl
end
open PySem.W
section
variable {prog:Ε}{w:Β}{A:Ι}{E:Ψ->Α->Prop}{K:Frag}{x C:Ω}{hh:Heap}{g:Array GenState}{d:Drawn}{t:Nat}{os:OsState}
structure ExcAt (K:Frag)(C:Ω):Prop where
 ga:findIn K (.ref C) "__getattribute__" = Δ (Δ (.builtin "BaseException.__getattribute__"))
 no:findIn K (.ref C) "__getattr__" = Δ Φ
 cl:findIn K (.ref C) "__class__" = Δ (Δ (.builtin "object.__class__"))
 be:mroIn K C (.type "BaseException")=Δ Θ
 ob:mroIn K C (.type "object")=Δ Θ
 is:(clsIn K C).isSome=Θ
open Builtin Builtin.ObjectAttr Builtin.Getset_descriptor in
end
section
variable {X:Cx}{ex:Str->Prop}
theorem o5 {K:Frag}{S:Ω->Prop}{H:Hp}{vs:List V}{ds:List D}(lo hi:Option Int)(m:Fv K S H vs ds):Fv K S H (ql vs lo hi) (cZ ds lo hi):=by unfold ql cZ;rw[m.length];exact(m.drop _).take _
theorem wL:Qd X (Fb X.K ex):=by
 intro pins s σ H x v vl vu lo hi sl Q I rx hs pl pu h;obtain⟨S,d,hx,h⟩:=h
 induction d using zD with
 | lst o ds=>obtain⟨a,xs,rfl,q,m⟩:=hx.GB;exact oP pins s σ H _ v vl vu lo hi sl Q I rx hs pl pu ⟨a,xs,rfl,q,fun p hp=>h.ok _ _ (.upd hp) (mH hp (o5 lo hi m))⟩
 | str z=>cases hx.Gs;obtain⟨g,h⟩:=Fw.FE h;exact AO pins s σ H _ v vl vu lo hi sl Q I rx hs pl pu ⟨z,rfl,dh g,h.ok _ _ (.refl _) (.str _)⟩
 | _=>exact h.no.elim
theorem mI {ns:List Str}:∀ {us:List Ψ},Vals (ns.map V.str) us->StrsAre us ns:=by
 induction ns with
 | nil=>intro us r;rw[List.map_nil] at r;cases r;exact .nil
 | cons n ns ih=>
  intro us r;rw[b_] at r;cases r with
  | cons r1 r2=>obtain⟨t,e⟩:=r1;subst e;exact .cons n t (ih r2)
theorem iU:∀ {ds:List D}{ns:List Int},fu ds=Δ ns->ds=ns.map .int
 | [],ns,h=>by cases h;rfl
 | .int i::r,ns,h=>by
  have h':(fu r).map (i::·)=Δ ns:=h;cases q:fu r with
  | none=>rw[q] at h';cases h'
  | some ms=>rw[q] at h';cases h';rw[iU q];rfl
 | .F4::_,_,h=>by cases h
 | .bl _::_,_,h=>by cases h
 | .str _::_,_,h=>by cases h
 | .tup _::_,_,h=>by cases h
 | .lst _ _::_,_,h=>by cases h
theorem iV:∀ {ds:List D}{ns:List Str},fw ds=Δ ns->ds=ns.map .str
 | [],ns,h=>by cases h;rfl
 | .str i::r,ns,h=>by
  have h':(fw r).map (i::·)=Δ ns:=h;cases q:fw r with
  | none=>rw[q] at h';cases h'
  | some ms=>rw[q] at h';cases h';rw[iV q];rfl
 | .F4::_,_,h=>by cases h
 | .bl _::_,_,h=>by cases h
 | .int _::_,_,h=>by cases h
 | .tup _::_,_,h=>by cases h
 | .lst _ _::_,_,h=>by cases h
theorem gY:∀ {ds:List D}{ns:List Bool},dQ ds=Δ ns->ds=ns.map .bl
 | [],ns,h=>by cases h;rfl
 | .bl i::r,ns,h=>by
  have h':(dQ r).map (i::·)=Δ ns:=h;cases q:dQ r with
  | none=>rw[q] at h';cases h'
  | some ms=>rw[q] at h';cases h';rw[gY q];rfl
 | .F4::_,_,h=>by cases h
 | .str _::_,_,h=>by cases h
 | .int _::_,_,h=>by cases h
 | .tup _::_,_,h=>by cases h
 | .lst _ _::_,_,h=>by cases h
theorem qF (hc:X.calm=Θ):dI X (.builtin "all") (fun xs H Q=>∃ (p:Ω) (bs:List Bool),xs=[.ref p]/\GV X.K H p (bs.map V.bl)/\Q (.bl (bs.all id)) H):=by
 intro pins s σ H xs us Q I r h;obtain⟨p,bs,rfl,hq,q⟩:=h;obtain⟨u,rfl,rx⟩:=vals1 r;cases rx;obtain⟨its,rv,pl,hz⟩:=I.list hq;have hl:=rv.length;rw[i_] at hl;have Gr:p < s.heap.objs.size:=by obtain⟨o,e,_⟩:=pl.isList;exact j_ e
 refine call_all_walk (aas pl.isList ?_);refine⟨s.heap.objs.size,_,_,_,_,_,fun i=>bs.getD i Θ,rfl,Walks.list (A:=X.A.in1) (show X.A.in1.handled=Φ from I.ok.hd hc) s.heap.objs.size p (n_ Gr) its.toArray,⟨⟨_,w_ _ rfl,rfl,rfl⟩,?_⟩,?_,?_⟩
 ·obtain⟨o,e,c,n,d⟩:=pl.isList;exact⟨o,l_ _ e,c,n,d⟩
 ·intro i v s' Q' E' hv SJ;have Md:its[i]? = Δ v:=by simpa using hv
  have KW:i < bs.length:=by have:=(x_.mp Md).1;omega
  obtain⟨u,hu,ru⟩:=rv.get (i:=i) (x:=.bl bs[i]) (by rw[A_,y_ KW];rfl);rw[Md] at hu;cases hu;cases ru;refine wpAny_truthy_bool ?_;have e:bs.getD i Θ=bs[i]:=by simp[List.getD,KW]
  rw[<- e];exact SJ
 ·intro h' tk kp;have Jv:(List.range its.toArray.size).all (fun i=>bs.getD i Θ)=bs.all id:=by
   rw[show its.toArray.size=bs.length by simp[hl]];rw[Bool.eq_iff_iff,V_,V_];constructor
   ·intro z b hb;obtain⟨i,hi,rfl⟩:=List.getElem_of_mem hb;have:=z i (Z_.mpr hi);simpa[List.getD,hi] using this
   ·intro z i hi;have Jf:=Z_.mp hi;have:=z bs[i] (aak Jf);simpa[List.getD,Jf] using this
  rw[Jv];refine⟨.bl (bs.all id),H,I.kept (t':=tk) fun b o e=>kp b o ?_ (l_ _ e),rfl,q⟩;intro hm;have hb:b=s.heap.objs.size:=by simpa using hm
  subst hb;exact absurd (j_ e) (T_ _)
theorem qG (hc:X.calm=Θ):dI X (.builtin "any") (fun xs H Q=>∃ (p:Ω) (bs:List Bool),xs=[.ref p]/\GV X.K H p (bs.map V.bl)/\Q (.bl (bs.any id)) H):=by
 intro pins s σ H xs us Q I r h;obtain⟨p,bs,rfl,hq,q⟩:=h;obtain⟨u,rfl,rx⟩:=vals1 r;cases rx;obtain⟨its,rv,pl,hz⟩:=I.list hq;have hl:=rv.length;rw[i_] at hl;have Gr:p < s.heap.objs.size:=by obtain⟨o,e,_⟩:=pl.isList;exact j_ e
 refine call_any_walk (aas pl.isList ?_);refine⟨s.heap.objs.size,_,_,_,_,_,fun i=>bs.getD i Ξ,rfl,Walks.list (A:=X.A.in1) (show X.A.in1.handled=Φ from I.ok.hd hc) s.heap.objs.size p (n_ Gr) its.toArray,⟨⟨_,w_ _ rfl,rfl,rfl⟩,?_⟩,?_,?_⟩
 ·obtain⟨o,e,c,n,d⟩:=pl.isList;exact⟨o,l_ _ e,c,n,d⟩
 ·intro i v s' Q' E' hv SJ;have Md:its[i]? = Δ v:=by simpa using hv
  have KW:i < bs.length:=by have:=(x_.mp Md).1;omega
  obtain⟨u,hu,ru⟩:=rv.get (i:=i) (x:=.bl bs[i]) (by rw[A_,y_ KW];rfl);rw[Md] at hu;cases hu;cases ru;refine wpAny_truthy_bool ?_;have e:bs.getD i Ξ=bs[i]:=by simp[List.getD,KW]
  rw[<- e];exact SJ
 ·intro h' tk kp;have Jv:(List.range its.toArray.size).any (fun i=>bs.getD i Ξ)=bs.any id:=by
   rw[show its.toArray.size=bs.length by simp[hl]];rw[Bool.eq_iff_iff,List.any_eq_true,List.any_eq_true];constructor
   ·rintro ⟨i,hi,z⟩;have Jf:=Z_.mp hi;exact⟨bs[i],aak Jf,by simpa[List.getD,Jf] using z⟩
   ·rintro ⟨b,hb,z⟩;obtain⟨i,hi,rfl⟩:=List.getElem_of_mem hb;exact⟨i,Z_.mpr hi,by simpa[List.getD,hi] using z⟩
  rw[Jv];refine⟨.bl (bs.any id),H,I.kept (t':=tk) fun b o e=>kp b o ?_ (l_ _ e),rfl,q⟩;intro hm;have hb:b=s.heap.objs.size:=by simpa using hm
  subst hb;exact absurd (j_ e) (T_ _)
noncomputable def fH:Bi->Str
 | .len=>"len" | .sum=>"sum" | .min2=>"min" | .max2=>"max" | .LB=>"max" | .sorted=>"sorted" | .list=>"list" | .tuple=>"tuple" | .ord=>"ord" | .int=>"int" | .all=>"all" | .any=>"any" | .str=>"str" | .set=>"set" | .abs=>"abs"
noncomputable def Cw:Bi->Bool
 | .list=>Θ|.tuple=>Θ|.int=>Θ|.str=>Θ|.set=>Θ
 | _=>Ξ
noncomputable def Cy:Bi->String
 | .len=>"len" | .sum=>"sum" | .min2=>"min" | .max2=>"max" | .LB=>"max" | .sorted=>"sorted" | .list=>"list" | .tuple=>"tuple" | .ord=>"ord" | .int=>"int" | .all=>"all" | .any=>"any" | .str=>"str" | .set=>"set" | .abs=>"abs"
noncomputable def sf (f:Bi):Ψ:=if Cw f=Θ then .type (Cy f) else .builtin (Cy f)
theorem o6 (f:Bi):bootBuiltins (fH f)=Δ (sf f):=by cases f<;>decide +kernel
def VY (K:Frag)(ex:Str->Prop)(f:Bi):List V->Hp->VK->Prop:=fun xs H Q=>∃ S ds,Fv K S H xs ds/\Fw ex (ek f ds) (Kk K S H Q)
theorem Fv.MX {K:Frag}{S:Ω->Prop}{H:Hp}{xs:List V}{d:D}(h:Fv K S H xs [d]):∃ x,xs=[x]/\Fx K S H x d:=by
 cases h with
 | cons h1 h2=>cases h2;exact⟨_,rfl,h1⟩
theorem Fv.SK {K:Frag}{S:Ω->Prop}{H:Hp}{xs:List V}{d e:D}(h:Fv K S H xs [d,e]):∃ x y,xs=[x,y]/\Fx K S H x d/\Fx K S H y e:=by
 cases h with
 | cons h1 h2=>
  cases h2 with
  | cons h3 h4=>cases h4;exact⟨_,_,rfl,h1,h3⟩
theorem gZ {K:Frag}{S:Ω->Prop}{H:Hp}(z:Str):Fv K S H (ft z) (dE z):=by
 unfold ft dE
 induction z.cps.toList with
 | nil=>exact .nil
 | cons c cs ih=>exact .cons (.str _) ih
theorem wM (hc:X.calm=Θ)(f:Bi):dI X (sf f) (VY X.K ex f):=by
 intro pins s σ H xs us Q I r h;obtain⟨S,ds,hx,h⟩:=h;have stuck:∀ {P:Prop},ek f ds=F5->P:=fun z=>by rw[z] at h;exact h.no.elim
 have one:∀ {d e:D}{r':List D},ds=d::e::r'->¬ (f=.min2∨f=.max2)->ek f ds=F5:=by intro d e r' z nf;subst z;cases f<;>first|rfl|(exfalso;exact nf (.inl rfl))|(exfalso;exact nf (.inr rfl))|(induction d using zD<;>rfl)
 have two:∀ {d e g:D}{r':List D},ds=d::e::g::r'->ek f ds=F5:=by intro d e g r' z;subst z;cases f<;>first|rfl|(induction d using zD<;>rfl)|(induction d using zD<;>induction e using zD<;>rfl)
 have nil:ds=[]->ek f ds=F5:=by intro z;subst z;cases f<;>rfl
 match ds,hx with
 | [],hx=>exact stuck (nil rfl)
 | d::e::g::r',hx=>exact stuck (two rfl)
 | [d,e],hx=>
  by_cases nf:f=.min2∨f=.max2
  ·obtain⟨x,y,rfl,hd,he⟩:=hx.SK;rcases nf with rfl|rfl
   ·induction d using zD with
    | int a=>
     induction e using zD with
     | int b=>cases hd.Ga;cases he.Ga;exact qi hc pins s σ H _ us Q I r ⟨a,b,rfl,h.ok _ _ (.refl _) (.int _)⟩
     | _=>exact stuck rfl
    | _=>exact stuck rfl
   ·induction d using zD with
    | int a=>
     induction e using zD with
     | int b=>cases hd.Ga;cases he.Ga;exact qh hc pins s σ H _ us Q I r ⟨a,b,rfl,h.ok _ _ (.refl _) (.int _)⟩
     | _=>exact stuck rfl
    | _=>exact stuck rfl
  ·exact stuck (one rfl nf)
 | [d],hx=>
  obtain⟨x,rfl,hd⟩:=hx.MX;cases f with
  | len=>
   induction d using zD with
   | str z=>cases hd.Gs;obtain⟨g,h⟩:=Fw.FE h;exact iE pins s σ H _ us Q I r ⟨_,_,rfl,⟨dh g,rfl⟩,h.ok _ _ (.refl _) (.int _)⟩
   | tup ds=>obtain⟨a,ys,rfl,q,m⟩:=hd.GZ;exact iE pins s σ H _ us Q I r ⟨_,ds.length,rfl,.inr ⟨ys,q,m.length.symm⟩,h.ok _ _ (.refl _) (.int _)⟩
   | lst o ds=>obtain⟨a,ys,rfl,q,m⟩:=hd.GB;exact iE pins s σ H _ us Q I r ⟨_,ds.length,rfl,.inl ⟨ys,q,m.length.symm⟩,h.ok _ _ (.refl _) (.int _)⟩
   | Gn o ks es=>
    cases hd with
    | Gn h0 h1 h2 h3=>exact qC pins s σ H _ us Q I r ⟨_,_,rfl,h1,by rw[<- i_ (f:=(·.1)),h2];exact h.ok _ _ (.refl _) (.int _)⟩
   | _=>exact stuck rfl
  | sum=>cases d<;>exact stuck rfl
  | all=>
   induction d using zD with
   | lst o ds=>
    obtain⟨a,ys,rfl,q,m⟩:=hd.GB;have h':Fw ex (match dQ ds with|some bs=>.ok (.bl (bs.all id))|none=>F5) (Kk X.K S H Q):=h;cases z:dQ ds with
    | none=>rw[z] at h';exact h'.no.elim
    | some ns=>rw[z] at h';rw[gY z] at m;rw[m.VX] at q;exact qF hc pins s σ H _ us Q I r ⟨a,ns,rfl,q,h'.ok _ _ (.refl _) (.bl _)⟩
   | _=>exact stuck rfl
  | any=>
   induction d using zD with
   | lst o ds=>
    obtain⟨a,ys,rfl,q,m⟩:=hd.GB;have h':Fw ex (match dQ ds with|some bs=>.ok (.bl (bs.any id))|none=>F5) (Kk X.K S H Q):=h;cases z:dQ ds with
    | none=>rw[z] at h';exact h'.no.elim
    | some ns=>rw[z] at h';rw[gY z] at m;rw[m.VX] at q;exact qG hc pins s σ H _ us Q I r ⟨a,ns,rfl,q,h'.ok _ _ (.refl _) (.bl _)⟩
   | _=>exact stuck rfl
  | ord=>
   induction d using zD with
   | str z=>cases hd.Gs;obtain⟨g,h⟩:=Fw.FE h;exact rj pins s σ H _ us Q I r ⟨z,rfl,q_ g,h.ok _ _ (.refl _) (.int _)⟩
   | _=>exact stuck rfl
  | int=>cases d<;>exact stuck rfl
  | list=>
   induction d using zD with
   | tup ds=>obtain⟨a,ys,rfl,q,m⟩:=hd.GZ;exact fG pins s σ H _ us Q I r ⟨a,ys,rfl,.inr q,fun p hp=>h.ok _ _ (.upd hp) (mH hp m)⟩
   | lst o ds=>obtain⟨a,ys,rfl,q,m⟩:=hd.GB;exact fG pins s σ H _ us Q I r ⟨a,ys,rfl,.inl q,fun p hp=>h.ok _ _ (.upd hp) (mH hp m)⟩
   | str z=>cases hd.Gs;obtain⟨g,h⟩:=Fw.FE h;exact fZ hc pins s σ H _ us Q I r ⟨z,rfl,dh g,fun p hp=>h.ok _ _ (.upd hp) (mH hp (gZ z))⟩
   | _=>exact stuck rfl
  | abs=>cases d<;>exact stuck rfl
  | min2=>induction d using zD<;>exact stuck rfl
  | max2=>induction d using zD<;>exact stuck rfl
  | LB=>cases d<;>exact stuck rfl
  | sorted=>cases d<;>exact stuck rfl
  | tuple=>
   induction d using zD with
   | str z=>cases hd.Gs;obtain⟨g,h⟩:=Fw.FE h;exact iM hc pins s σ H _ us Q I r ⟨z,rfl,dh g,fun p hp=>h.ok _ _ (.upd hp) (AM hp (gZ z))⟩
   | lst o ds=>obtain⟨a,ys,rfl,q,m⟩:=hd.GB;exact jy pins s σ H _ us Q I r ⟨a,ys,rfl,.inl ⟨q,fun p hp=>h.ok _ _ (.upd hp) (AM hp m)⟩⟩
   | _=>exact stuck rfl
  | str=>exact stuck rfl
  | set=>exact stuck rfl
noncomputable def gc:Kd->Str
 | .str=>"str" | .int=>"int" | .bool=>"bool" | .list=>"list" | .tuple=>"tuple"
noncomputable def si:Kd->Ψ
 | .str=>.type "str" | .int=>.type "int" | .bool=>.type "bool" | .list=>.type "list" | .tuple=>.type "tuple"
theorem wN (k:Kd):bootBuiltins (gc k)=Δ (si k):=by cases k<;>decide +kernel
noncomputable def YI:D->Ψ
 | .F4=>.type "NoneType" | .bl _=>.type "bool" | .int _=>.type "int" | .str _=>.type "str" | .tup _=>.type "tuple" | .lst _ _=>.type "list" | .exc _=>.none|.Gn _ _ _=>.none
theorem wO (K:Frag)(k:Kd)(d:D)(hn:gV d=Θ):PySem.W.kitOne K (YI d) (si k)=Δ (du k d):=by cases k<;>induction d using zD<;>first|rfl|cases hn
theorem wQ {pins:List (Ω×Obj)}{s:Α}{σ:St}{H:Hp}{S:Ω->Prop}{x:V}{v:Ψ}{d:D}{Q:VK}(I:Inv X pins σ H s)(rx:RelV x v)(hx:Fx X.K S H x d)(k:Kd)(hn:gV d=Θ)(h:Q (.bl (du k d)) H) :
  Κ (Μ X.prog X.w) X.A (call (.builtin "isinstance") [v,si k]) (EP X pins σ Q) X.xe s:=by
 have e:=wO X.K k d hn;have fin:∀ tk,EP X pins σ Q (.bool (du k d)) {s with toks:=tk}:=fun tk=>⟨.bl _,H,I.tok _,rfl,h⟩
 induction d using zD with
 | F4=>cases hx.HJ;cases rx;exact PySem.W.kia_one PySem.W.kitx_none I.Jl True.intro e (fun z=>nomatch z) fin
 | bl b=>cases hx.Kv;cases rx;exact PySem.W.kia_one PySem.W.kitx_bool I.Jl True.intro e (fun z=>nomatch z) fin
 | int b=>cases hx.Ga;obtain⟨t,rfl⟩:=rx;exact PySem.W.kia_one PySem.W.kitx_int I.Jl True.intro e (fun z=>nomatch z) fin
 | str b=>cases hx.Gs;obtain⟨t,rfl⟩:=rx;exact PySem.W.kia_one PySem.W.kitx_str I.Jl True.intro e (fun z=>nomatch z) fin
 | tup ds=>obtain⟨a,ys,rfl,q,m⟩:=hx.GZ;cases rx;obtain⟨its,_,⟨o,h1,h2,_⟩,_⟩:=I.tuple q;exact PySem.W.kia_one PySem.W.kitx_tuple I.Jl ⟨o,h1,h2⟩ e (fun z=>nomatch z) fin
 | lst o ds=>obtain⟨a,ys,rfl,q,m⟩:=hx.GB;cases rx;obtain⟨its,_,pl,_⟩:=I.list q;obtain⟨o,h1,h2,_⟩:=pl.isList;exact PySem.W.kia_one PySem.W.kitx_list I.Jl ⟨o,h1,h2⟩ e (fun z=>nomatch z) fin
 | exc c=>cases hn
 | Gn o ks ds=>cases hn
def CV (X:Cx)(x:Str)(v:V):Prop:=(∃ C,v=.ref C/\X.mg x=Δ (.ref C))∨(∃ T,v=.ty T/\X.mg x=Φ/\bootBuiltins x=Δ (.type T))
noncomputable def vv:V->Ψ
 | .ref C=>.ref C
 | .ty T=>.type T
 | _=>.none
noncomputable def iW:Mt->Str
 | .join=>"join" | .index=>"index" | .starts=>"startswith"
noncomputable def Fd:Mt->String
 | .join=>"str.join" | .index=>"str.index" | .starts=>"str.startswith"
def VZ (K:Frag)(ex:Str->Prop)(m:Mt):V->List V->Hp->VK->Prop:=fun x xs H Q=>∃ S d ds,Fx K S H x d/\Fv K S H xs ds/\Fw ex (iR m d ds) (Kk K S H Q)
theorem sj {m:Mt}{d:D}{ds:List D}{k:D->Prop}(h:Fw ex (iR m d ds) k):∃ x,d=.str x:=by cases m<;>induction d using zD<;>first|exact⟨_,rfl⟩|exact h.no.elim
theorem kQ (m:Mt)(hc:m=.index->X.calm=Θ):Vm X (Fd m) (VZ X.K ex m):=by
 intro pins s σ H x xs v us Q I rx rs h;obtain⟨S,d,ds,hx,hs,h⟩:=h;obtain⟨z,rfl⟩:=sj h;cases hx.Gs;obtain⟨t,rfl⟩:=rx;have stuck:∀ {P:Prop},iR m (.str z) ds=F5->P:=fun z=>by rw[z] at h;exact h.no.elim
 match ds,hs with
 | [],_=>cases m<;>exact stuck rfl
 | d::e::r,_=>cases m<;>induction d using zD<;>exact stuck rfl
 | [d],hs=>
  obtain⟨y,rfl,hd⟩:=hs.MX;obtain⟨u,rfl,ru⟩:=vals1 rs;cases m with
  | join=>
   induction d using zD with
   | lst o ds=>
    obtain⟨a,ys,rfl,q,m⟩:=hd.GB;cases ru;have h':Fw ex (match fw ds with|some ys=>FE (decide ((ys.map (·.length)).sum+ys.length*z.length<=16777216)) (.ok (.str (Txt.join z ys)))|none=>F5) (Kk X.K S H Q):=h;cases w:fw ds with
    | none=>rw[w] at h';exact h'.no.elim
    | some ns=>rw[w] at h';obtain⟨g,h'⟩:=Fw.FE h';rw[iV w] at m;rw[m.strs] at q;obtain⟨its,rv,pl,_⟩:=I.list q;exact join_list pl.isList (by simpa using mI rv) (q_ g) fun t' k=>⟨.str _,H,I.tok _,⟨_,rfl⟩,h'.ok _ _ (.refl _) (.str _)⟩
   | _=>exact stuck rfl
  | index=>cases d<;>exact stuck rfl
  | starts=>
   induction d using zD with
   | str y=>cases hd.Gs;obtain⟨t',rfl⟩:=ru;exact SC.startswith ⟨.bl _,H,I,rfl,Fw.ok h _ _ (.refl _) (.bl _)⟩
   | _=>exact stuck rfl
noncomputable def SM (x:Str):It:=⟨fun i _=>i < x.cps.size,fun i H v H'=>H'=H/\∃ c,x.cps[i]? = Δ c/\v=.str ⟨#[c]⟩,fun i _=>x.cps.size<=i⟩
theorem so {P:Ε}{w:Β}{K:Frag}{tg:Expr}{it:Ω}{x:Str}{t:Tok}{ty:String}(Nq:ty = "str_ascii_iterator"∨ty = "str_iterator")
  (W:∀ A':Ι,A'.handled=Φ->Walks P w A' it [it] [it] x.cps.size (SignAt x) (fun i h=>h.IsStrIter it ty x t i)):Turn P w K tg (SM x) [it] it (fun i h=>i<=x.cps.size/\h.IsStrIter it ty x t i) where
 mem:=by simp
 obj:=fun i h st b hb=>by
  have e:b=it:=by simpa using hb
  subst e;obtain⟨_,o,e,c,d⟩:=st;exact⟨o,e,fun v z=>by rw[d] at z;cases z⟩
 keep:=fun i h h' st k=>by obtain⟨l,o,e,c,d⟩:=st;exact⟨l,o,k it (by simp) o e,c,d⟩
 item:=by intro X hP hw hK hc i pins s σ H E I hf st hg;subst hP hw hK;obtain⟨f0,f1,f2,f3,f4,f5⟩:=hf it (by simp);refine(W X.A (I.ok.hd hc)).item i s _ _ hg st.2 fun v h' tk hv KJ kk=>?_;obtain⟨c,u,YJ,rfl⟩:=hv;have I1:Inv X pins σ H {s with heap:=h',toks:=tk}:=I.turned (fun b o hb e=>kk b o (by simpa using hb) e) f0 f1 f3 f4 f5;obtain⟨o,e,cc,d⟩:=id KJ;refine⟨_,rfl,oK (s:={s with heap:=h',toks:=tk}) (n:=ty) e cc d (by rcases Nq with rfl|rfl<;>decide) ⟨.str ⟨#[c]⟩,H,I1,⟨u,rfl⟩,⟨rfl,c,YJ,rfl⟩,⟨hg,KJ⟩,fun b hb=>(hf b hb).1⟩⟩
 done:=by intro X hP hw hK hc i pins s σ H E I hf st hg;subst hP hw hK;obtain⟨f0,f1,f2,f3,f4,f5⟩:=hf it (by simp);have e:i=x.cps.size:=Nat.le_antisymm st.1 hg;refine(W X.A (I.ok.hd hc)).done s _ _ (by rw[<- e];exact st.2) fun h' tk kk=>⟨rfl,I.turned (fun b o hb e=>kk b o (by simpa using hb) e) f0 f1 f3 f4 f5⟩
 self:=fun A i s Q E st h=>by
  obtain⟨_,st⟩:=st;rcases Nq with rfl|rfl
  ·exact wpAny_pyIter_striter_ascii st h
  ·exact wpAny_pyIter_striter_wide st h
theorem AQ {tg:Expr}{pins:List (Ω×Obj)}{s:Α}{σ:St}{H:Hp}{x:Str}{t:Tok}{R:It->Hp->Prop}(I:Inv X pins σ H s)(q:R (SM x) H):Κ (Μ X.prog X.w) X.A (pyIter (.str x t)) (Np X pins σ tg R) X.xe s:=by
 have fin:∀ ty,(ty = "str_ascii_iterator"∨ty = "str_iterator")->(∀ A':Ι,A'.handled=Φ->Walks X.prog X.w A' s.heap.objs.size [s.heap.objs.size] [s.heap.objs.size] x.cps.size (SignAt x) (fun i h=>h.IsStrIter s.heap.objs.size ty x t i))->
   Np X pins σ tg R (.ref s.heap.objs.size) {s with heap:=s.heap.push {cls:=.type ty,data:=.fields #[.str x t,.int 0 0]}}:=fun ty Nq W=>by
  refine⟨s.heap.objs.size,[s.heap.objs.size],_,_,H,rfl,I.kept (t':=s.toks) fun b o e=>l_ _ e,so Nq W,⟨aab _,_,w_ _ rfl,rfl,rfl⟩,fun b hb=>?_,q⟩;have e:b=s.heap.objs.size:=by simpa using hb
  subst e;exact I.Jt (m_ _) (I.Ge.fresh (m_ _))
 cases ha:x.cps.all (· < 128)
 ·exact wpAny_pyIter_wide ha (fin _ (.inr rfl) fun A' hA=>Walks.strWide hA _ x t)
 ·exact wpAny_pyIter_ascii ha (fin _ (.inl rfl) fun A' hA=>Walks.strAscii hA _ x t)
end
theorem cY.at {P:Ε}{w:Β}{H:Hp}{h:Heap}{a:Ω}{o:HO}(x:cY P w H h a o):∃ ob,h.get? a=Δ ob:=by
 cases o with
 | lst xs=>obtain⟨_,_,_,_,e⟩:=x;exact⟨_,e⟩
 | tup xs=>obtain⟨_,_,_,ob,e,_⟩:=x;exact⟨_,e⟩
 | dK Gd=>obtain⟨_,_,_,_,o,_,_,e,_⟩:=x;exact⟨_,e⟩
 | dT Gd=>obtain⟨_,_,_,_,o,_,_,e,_⟩:=x;exact⟨_,e⟩
 | set S n=>obtain⟨o,_,_,_,e,_⟩:=x;exact⟨_,e⟩
 | ins C dx fs=>obtain⟨_,_,_,e,_⟩:=x;exact⟨_,e⟩
 | own y=>exact x
 | xd fs=>obtain⟨_,⟨_,_,_,e,_⟩,_⟩:=x;exact⟨_,e⟩
 | Ks lo hi=>obtain⟨_,_,_,e⟩:=x;exact⟨_,e⟩
 | Gh ob u=>exact⟨_,x.1⟩
 | LV ps=>exact⟨_,x⟩
 | met f y=>exact⟨_,x⟩
 | ext φ=>exact x.2.1
noncomputable def indep:HO->Bool
 | .lst _=>Θ
 | .tup _=>Θ
 | .ext _=>Θ
 | .dK _=>Θ
 | _=>Ξ
theorem iX {P:Ε}{w:Β}{H H':Hp}{h:Heap}{a:Ω}{u:HO}(i:indep u=Θ)(x:cY P w H h a u):cY P w H' h a u:=by
 cases u with
 | lst _=>exact x
 | tup _=>exact x
 | ext _=>exact x
 | dK _=>exact x
 | _=>cases i
noncomputable def cT (h:Heap)(H:Hp):Hp:=fun b=>match H b with
 | some (.lst xs)=>(h.get? b).map fun o=>.Gh o (.lst xs)
 | some (.dK Gd)=>(h.get? b).map fun o=>.Gh o (.dK Gd)
 | some (.tup xs)=>Δ (.tup xs)
 | some (.Gh o u)=>if indep u=Θ then Δ (.Gh o u) else Φ
 | _=>Φ
noncomputable def gE (H H':Hp):Hp:=fun b=>match H b with
 | some o=>Δ o
 | none=>H' b
def MY (H:Hp):Prop:=∀ b o,H b=Δ o->(∃ ob u,o=.Gh ob u)∨∃ xs,o=.tup xs
theorem sr (h:Heap)(H:Hp):MY (cT h H):=fun b o e=>by
 unfold cT at e;split at e
 ·obtain⟨ob,_,rfl⟩:=aaE.mp e;exact .inl ⟨_,_,rfl⟩
 ·obtain⟨ob,_,rfl⟩:=aaE.mp e;exact .inl ⟨_,_,rfl⟩
 ·cases e;exact .inr ⟨_,rfl⟩
 ·split at e
  ·cases e;exact .inl ⟨_,_,rfl⟩
  ·cases e
 ·cases e
structure JB (h:Heap)(Hc H':Hp):Prop where
 G6:∀ b o u,Hc b=Δ (.Gh o u)->H' b=Δ (.Gh o u)
 Hs:∀ b xs,Hc b=Δ (.tup xs)->H' b=Δ (.tup xs)
 free:∀ b o,h.get? b=Δ o->Hc b=Φ->H' b=Φ
inductive Bk (h:Heap)(H H':Hp)(b:Ω):HO->Prop where
 | lst {xs:List V}{ob:Obj}:h.get? b=Δ ob->H' b=Δ (.Gh ob (.lst xs))->Bk h H H' b (.lst xs)
 | dK {xs:List (Key×V)}{ob:Obj}:h.get? b=Δ ob->H' b=Δ (.Gh ob (.dK xs))->Bk h H H' b (.dK xs)
 | tup {xs:List V}:H' b=Δ (.tup xs)->Bk h H H' b (.tup xs)
 | Gh {o:Obj}{u:HO}:indep u=Θ->H' b=Δ (.Gh o u)->Bk h H H' b (.Gh o u)
 | Hr {o:HO}{ob:Obj}:h.get? b=Δ ob->cT h H b=Φ->H' b=Φ->(∀ xs,o≠.lst xs)->(∀ xs,o≠.tup xs)->(∀ xs,o≠.dK xs)->Bk h H H' b o
section
variable {P:Ε}{w:Β}{H H':Hp}{h g:Heap}
theorem jT (x:GW P w H h)(p:JB h (cT h H) H'){b:Ω}{o:HO}(e:H b=Δ o):Bk h H H' b o:=by
 obtain⟨ob,he⟩:=(x b o e).at
 have hc:cT h H b=(match (Δ o:Option HO) with
  | some (.lst xs)=>(h.get? b).map fun o=>.Gh o (.lst xs)
  | some (.dK Gd)=>(h.get? b).map fun o=>.Gh o (.dK Gd)
  | some (.tup xs)=>Δ (.tup xs)
  | some (.Gh o u)=>if indep u=Θ then Δ (.Gh o u) else Φ
  | _=>Φ):=by unfold cT;rw[e]
 cases o with
 | lst xs=>have hc:cT h H b=(h.get? b).map fun o=>.Gh o (.lst xs):=hc;rw[he] at hc;exact .lst he (p.G6 _ _ _ hc)
 | dK xs=>have hc:cT h H b=(h.get? b).map fun o=>.Gh o (.dK xs):=hc;rw[he] at hc;exact .dK he (p.G6 _ _ _ hc)
 | tup xs=>exact .tup (p.Hs _ _ hc)
 | Gh o' u=>
  have hc:cT h H b=if indep u=Θ then Δ (.Gh o' u) else Φ:=hc
  by_cases i:indep u=Θ
  ·rw[f_ i] at hc;exact .Gh i (p.G6 _ _ _ hc)
  ·rw[d_ i] at hc;exact .Hr he hc (p.free _ _ he hc) (fun _ z=>by cases z) (fun _ z=>by cases z) (fun _ z=>by cases z)
 | _=>exact .Hr he hc (p.free _ _ he hc) (fun _ z=>by cases z) (fun _ z=>by cases z) (fun _ z=>by cases z)
theorem su (x:GW P w H h):GW P w (cT h H) h:=fun b o e=>by
 cases q:H b with
 | none=>unfold cT at e;rw[q] at e;cases e
 | some u=>
  have y:=x b u q;unfold cT at e;rw[q] at e;cases u with
  | lst xs=>
   obtain⟨ob,he⟩:=y.at
   have e:(h.get? b).map (fun o=>HO.Gh o (.lst xs))=Δ o:=e;rw[he] at e;cases e;exact⟨he,y⟩
  | dK xs=>
   obtain⟨ob,he⟩:=y.at
   have e:(h.get? b).map (fun o=>HO.Gh o (.dK xs))=Δ o:=e;rw[he] at e;cases e;exact⟨he,y⟩
  | tup xs=>cases e;exact y
  | Gh o' u=>
   have e:(if indep u=Θ then Δ (HO.Gh o' u) else Φ)=Δ o:=e;by_cases i:indep u=Θ
   ·rw[f_ i] at e;cases e;exact⟨y.1,iX i y.2⟩
   ·rw[d_ i] at e;cases e
  | _=>cases e
theorem dS (e:H a=Φ):cT h H a=Φ:=by unfold cT;rw[e]
theorem res_some {b:Ω}{o:HO}(e:H b=Δ o):gE H H' b=Δ o:=by unfold gE;rw[e]
theorem res_none {b:Ω}(e:H b=Φ):gE H H' b=H' b:=by unfold gE;rw[e]
theorem mJ:cz H (gE H H'):=fun b o e=>res_some e
theorem n8 (x:GW P w H h)(y:GW P w H' g)(p:JB h (cT h H) H'){fs:List Ω}(keep:∀ b o,H b≠Φ->h.get? b=Δ o->cT h H b=Φ->b∉fs->g.get? b=Δ o)(fr:∀ b∈fs,H b=Φ):GW P w (gE H H') g:=by
 have tp:∀ c xs,H' c=Δ (.tup xs)->gE H H' c=Δ (.tup xs):=fun c xs e=>by
  cases q:H c with
  | none=>rw[res_none q];exact e
  | some o=>
   rw[res_some q];cases jT x p q with
   | lst _ z=>rw[z] at e;cases e
   | dK _ z=>rw[z] at e;cases e
   | tup z=>rw[z] at e;exact e
   | Gh _ z=>rw[z] at e;cases e
   | Hr _ _ z _ _ _=>rw[z] at e;cases e
 intro b o e;cases q:H b with
 | some o'=>
  rw[res_some q] at e;cases e;cases jT x p q with
  | lst h1 z=>have h2:=(y b _ z).1;obtain⟨a1,its,n,a2,a3⟩:=x b _ q;rw[h1] at a3;exact⟨a1,its,n,a2,by rw[h2,<- a3]⟩
  | dK h1 z=>exact iX rfl (y b _ z).2
  | tup z=>exact y b _ z
  | Gh i z=>exact⟨(y b _ z).1,iX i (y b _ z).2⟩
  | Hr h1 h2 z n1 n2 n3=>
   refine(x b _ q).HX (fun c u hc hu=>?_) (fun c hc=>res_some hc) fun c xs hc=>res_some hc;rcases hc with rfl|hc
   ·exact keep _ _ (by rw[q];simp) hu h2 fun z=>by rw[fr _ z] at q;cases q
   ·refine keep _ _ (by rw[hc];simp) hu ?_ fun z=>by rw[fr _ z] at hc;cases hc
    unfold cT;rw[hc]
 | none=>
  rw[res_none q] at e;refine(y b o e).HX (fun _ _ _ z=>z) (fun c hc=>?_) tp;cases q':H c with
  | none=>rw[res_none q'];exact hc
  | some o'=>
   exfalso;cases jT x p q' with
   | lst _ z=>rw[z] at hc;cases hc
   | dK _ z=>rw[z] at hc;cases hc
   | tup z=>rw[z] at hc;cases hc
   | Gh _ z=>rw[z] at hc;cases hc
   | Hr _ _ z _ _ _=>rw[z] at hc;cases hc
theorem gF {fs:List Ω}(u:Un fs [] (cT h H) H' h g):JB h (cT h H) H':=⟨u.G6,u.Hs,fun b o e n=>u.free b o e n (by simp)⟩
theorem n9 {fs:List Ω}(x:GW P w H h)(u:Un fs [] (cT h H) H' h g):Un fs [] H (gE H H') h g where
 keep:=fun b o e n f i=>u.keep b o e (dS n) f i
 slot:=fun b o e n f i=>u.slot b o e (dS n) f i
 free:=fun b o e n i=>by rw[res_none n];exact u.free b o e (dS n) i
 there:=u.there
 Hs:=fun b xs e=>res_some e
 G6:=fun b o v e=>res_some e
 IE:=fun b ps e=>⟨#[],by rw[res_some e];simp⟩
end
noncomputable def H0:Hp:=fun _=>Φ
def Hl (P:Ε)(w:Β):Ho:=fun outer H s E e s'=>∃ (a:Ω) (cls a0:Ψ) (H':Hp) (B:Heap),e=.ref a/\s'.os=s.os/\AllBare s'.gens/\Un (Ha outer) [] H H' s.heap s'.heap/\GW P w H' B/\cz H H'/\
 (∀ b o,s.heap.get? b=Δ o->H b=Φ->b∉Ha outer->B.get? b=Δ o)/\Heap.FlyingW B outer a cls a0 s'.heap/\E cls Φ H0
def JX (K:Frag):XK->Hp->Str->Prop:=fun E _ c=>∀ C,PySem.W.nsIn K Η c=Δ (Δ (.ref C))->E (.ref C) Φ H0
noncomputable def cX:List Str:=["len","sum","min","max","sorted","list","tuple","ord","int","all","any","str","set","abs","isinstance","range","bool","zip","reversed","dict","enumerate"]
noncomputable def jU:Bi->Nat
 | .len=>0|.sum=>1|.min2=>2|.max2=>3|.LB=>3|.sorted=>4|.list=>5|.tuple=>6|.ord=>7|.int=>8|.all=>9|.any=>10|.str=>11|.set=>12|.abs=>13
noncomputable def o7:Kd->Nat
 | .str=>11|.int=>8|.bool=>16|.list=>5|.tuple=>6
theorem sy (f:Bi):cX[jU f]? = Δ (fH f):=by cases f<;>rfl
theorem AR (f:Kd):cX[o7 f]? = Δ (gc f):=by cases f<;>rfl
mutual
noncomputable def qH:D->D->Bool
 | .F4,.F4=>Θ
 | .bl a,.bl b=>a == b
 | .int a,.int b=>a == b
 | .str a,.str b=>a == b
 | .tup a,.tup b=>iY a b
 | .lst o a,.lst o' b=>o == o'&&iY a b
 | _,_=>Ξ
noncomputable def iY:List D->List D->Bool
 | [],[]=>Θ
 | a::r,b::s=>qH a b&&iY r s
 | _,_=>Ξ
end
mutual
theorem o8:∀ {a b:D},qH a b=Θ->a=b
 | .F4,b,h=>by cases b<;>first|rfl|cases h
 | .bl a,b,h=>by cases b<;>first|(rw[h_ (show (a == _)=Θ from h)])|cases h
 | .int a,b,h=>by cases b<;>first|(rw[h_ (show (a == _)=Θ from h)])|cases h
 | .str a,b,h=>by cases b<;>first|(rw[h_ (show (a == _)=Θ from h)])|cases h
 | .tup a,b,h=>by
  induction b using zD with
  | tup b=>rw[iZ (show iY a b=Θ from h)]
  | _=>cases h
 | .lst o a,b,h=>by
  induction b using zD with
  | lst o' b=>have h':(o == o'&&iY a b)=Θ:=h;rw[g_] at h';rw[h_ h'.1,iZ h'.2]
  | _=>cases h
theorem iZ:∀ {a b:List D},iY a b=Θ->a=b
 | [],b,h=>by cases b<;>first|rfl|cases h
 | a::r,b,h=>by
  induction b using zL with
  | nil=>cases h
  | cons b s=>have h':(qH a b&&iY r s)=Θ:=h;rw[g_] at h';rw[o8 h'.1,iZ h'.2]
end
structure Sg where
 nm:List Str
 Nx:List (Nat×D)
 fns:List Nat
 cls:List Nat:=[]
 xt:List (Str×Nat×Bool):=[]
 pl:List Nat:=[]
 rc:List (Nat×Str):=[]
 xm:List (Str×Nat):=[]
 Kh:List Nat:=[]
noncomputable def Sg.name (Z:Sg)(n:Nat):Option Str:=(cX++Z.nm)[n]?
noncomputable def Gm.Jp (G:Gm)(n:Nat):Bool:=G.cm&&G.gl.contains n
theorem kR {G:Gm}{n:Nat}(h:G.Jp n=Θ):G.gl.contains n=Θ:=by unfold Gm.Jp at h;rw[g_] at h;exact h.2
theorem kS {G:Gm}{n:Nat}(h:G.Jp n=Θ):G.cm=Θ:=by unfold Gm.Jp at h;rw[g_] at h;exact h.1
noncomputable def Sg.Me (Z:Sg)(G:Gm)(f:Nat):Bool:=Z.fns.contains f&&(G.cm||Z.pl.contains f)
theorem kT {Z:Sg}{G:Gm}{f:Nat}(h:Z.Me G f=Θ):f∈Z.fns/\(G.cm=Θ∨f∈Z.pl):=by unfold Sg.Me at h;rw[g_,Y_] at h;exact⟨by simpa using h.1,h.2.elim .inl fun z=>.inr (by simpa using z)⟩
noncomputable def og:Mt->Bool
 | .join=>Θ
 | _=>Ξ
noncomputable def notStar:Expr->Bool
 | .Starred ..=>Ξ
 | _=>Θ
noncomputable def dU:Expr->Bool
 | .Slice ..=>Ξ
 | _=>Θ
noncomputable def i3:Expr->Bool
 | .Call _ [] [] _=>Ξ
 | _=>Θ
noncomputable def fL (G:Gm)(i:Nat)(x:Str):Bool:=G.N[i]? == Δ x&&(G.kd[i]? == Δ .local||G.kd[i]? == Δ .cell||G.kd[i]? == Δ .free)
noncomputable def i4 (Z:Sg)(G:Gm)(n:Nat)(x:Str):Bool:=Z.name n == Δ x&&G.gl.contains n
noncomputable def Cz:D->Const->Bool
 | .int i,.int j=>i == j
 | .str x,.str y=>x == y
 | .bl a,.bool b=>a == b
 | .F4,.none=>Θ
 | _,_=>Ξ
mutual
noncomputable def dH (G:Gm):Tg->Expr->Bool
 | .nm i,.Name x _=>(G.N[i]? == Δ x&&(G.kd[i]? == Δ .local||(G.df&&G.kd[i]? == Δ .cell)))&&G.io != Δ i
 | .tp ts,.Tuple es _ _=>G.cm&&f7 G ts es
 | _,_=>Ξ
noncomputable def f7 (G:Gm):List Tg->List Expr->Bool
 | [],[]=>Θ
 | t::ts,e::es=>notStar e&&dH G t e&&f7 G ts es
 | _,_=>Ξ
end
mutual
noncomputable def HU:Tg->List Nat
 | .nm i=>[i]
 | .tp ts=>mK ts
noncomputable def mK:List Tg->List Nat
 | []=>[]
 | t::ts=>HU t++mK ts
end
noncomputable def dy (Z : Sg)(G : Gm)(scope : Scope)(G' : Gm)(fr : List Nat) : Bool :=
  (G.cm&&scope.kind == .function)&&!G'.tr&&!G'.df&&G'.kd.length == G'.N.length
 &&scope.names.all (fun y => y.2 != .cell)&&scope.names.all (fun y => y.2 != .local||scope.names.lookup y.1 == Δ .local)
 &&scope.names.all (fun y => y.2 != .free||(List.range G.N.length).any fun i => G.N[i]? == Δ y.1&&(G.kd[i]? == Δ .cell||G.kd[i]? == Δ .free))
 &&(List.range fr.length).all (fun j => G'.N[j]? == (fr[j]?).bind (G.N[·]?)&&((G'.N[j]?).bind (scope.names.lookup ·) == Δ .free)&&((fr[j]?).bind (G.kd[·]?) == Δ .cell||(fr[j]?).bind (G.kd[·]?) == Δ .free)
     &&(G'.kd[j]? == Δ (if ((fr[j]?).bind (G.kd[·]?) == Δ .cell) then .cell else .free)))
 &&decide (fr.length <= G'.N.length)
 &&((List.range G'.N.length).drop fr.length).all (fun j => (G'.N[j]?).bind (scope.names.lookup ·) == Δ .local&&G'.kd[j]? == Δ .local)
 &&G'.N.all (fun x => !(x == "__debug__")&&!(x == "__classdict__"))
 &&decide (G'.N.Nodup)
 &&G'.gl.all (fun n => match Z.name n with|some x => scope.names.lookup x == Δ .globalImplicit|none => Ξ)
theorem bT {P:Prop}(h:Ξ=Θ):P:=by cases h
noncomputable def oh:List Comprehension->(Expr->Expr->List Expr->Bool)->Bool
 | [⟨t,it,fs,0⟩],k=>k t it fs
 | _,_=>Ξ
local macro_rules | `(tactic| exists $h) => `(tactic| first | exact L2.bT $h | cases ($h))
theorem iw {gens:List Comprehension}{k:Expr->Expr->List Expr->Bool}(h:oh gens k=Θ):∃ t it fs,gens=[⟨t,it,fs,0⟩]/\k t it fs=Θ:=by
 unfold oh at h;split at h
 ·exact⟨_,_,_,rfl,h⟩
 ·cases h
noncomputable def Mf (k:Str->Bool):Expr->Bool
 | .Name z _=>k z
 | _=>Ξ
theorem gf {k:Str->Bool}{e:Expr}(h:Mf k e=Θ):∃ z p,e=.Name z p/\k z=Θ:=by
 induction e using zE with
 | Name z p=>exact⟨z,p,rfl,h⟩
 | _=>exact bT h
noncomputable def Ki {α:Type}:List α->(α->Bool)->Bool
 | a::r,k=>r.isEmpty&&k a
 | [],_=>Ξ
theorem eE {α:Type}{l:List α}{k:α->Bool}(h:Ki l k=Θ):∃ a,l=[a]/\k a=Θ:=by
 induction l using zL with
 | nil=>exact bT h
 | cons a r=>
  induction r using zL with
  | nil=>exact⟨a,rfl,h⟩
  | cons b r=>exact bT h
noncomputable def Ny:Expr->(Expr->List Expr->Pos->Bool)->Bool
 | .Call f as ks p,k=>ks.isEmpty&&k f as p
 | _,_=>Ξ
theorem i5 {e:Expr}{k:Expr->List Expr->Pos->Bool}(h:Ny e k=Θ):∃ f as p,e=.Call f as [] p/\k f as p=Θ:=by
 induction e using zE with
 | Call f as ks p=>
  induction ks using zL with
  | nil=>exact⟨f,as,p,rfl,h⟩
  | cons b r=>exact bT h
 | _=>exact bT h
noncomputable def sA:Expr->Bool
 | .Tuple _ _ _=>Θ
 | _=>Ξ
noncomputable def g6:Sr->Expr->Bool
 | .zip _ _,t=>sA t
 | .IA _,t=>sA t
 | _,_=>Θ
noncomputable def ON (e:Expr)(k:Str->Str->Expr->Bool):Bool:=Ny e fun f as _=>Mf (fun x=>Ki as fun a=>Ny a fun g bs _=>Mf (fun y=>Ki bs fun b=>k x y b) g) f
theorem sC {e:Expr}{k:Str->Str->Expr->Bool}(h:ON e k=Θ):∃ x p y p' e' q' q,e=.Call (.Name x p) [.Call (.Name y p') [e'] [] q'] [] q/\k x y e'=Θ:=by obtain⟨f,as,q,rfl,h1⟩:=i5 h;obtain⟨x,p,rfl,h2⟩:=gf h1;obtain⟨a,rfl,h3⟩:=eE h2;obtain⟨g,bs,q',rfl,h4⟩:=i5 h3;obtain⟨y,p',rfl,h5⟩:=gf h4;obtain⟨b,rfl,h6⟩:=eE h5;exact⟨_,_,_,_,_,_,_,rfl,h6⟩
noncomputable def V0:List Expr->(Expr->Expr->Bool)->Bool
 | a::r,k=>Ki r (k a)
 | [],_=>Ξ
theorem AU {l:List Expr}{k:Expr->Expr->Bool}(h:V0 l k=Θ):∃ a b,l=[a,b]/\k a b=Θ:=by
 induction l using zL with
 | nil=>exact bT h
 | cons a r=>obtain⟨b,rfl,h⟩:=eE (show Ki r (k a)=Θ from h);exact⟨a,b,rfl,h⟩
noncomputable def SN (e:Expr)(k:Str->Str->Expr->Expr->Bool):Bool:=Ny e fun f as _=>Mf (fun x=>Ki as fun a=>Ny a fun g bs _=>Mf (fun y=>V0 bs fun b c=>k x y b c) g) f
theorem AV {e:Expr}{k:Str->Str->Expr->Expr->Bool}(h:SN e k=Θ):∃ x p y p' a b q' q,e=.Call (.Name x p) [.Call (.Name y p') [a,b] [] q'] [] q/\k x y a b=Θ:=by obtain⟨f,as,q,rfl,h1⟩:=i5 h;obtain⟨x,p,rfl,h2⟩:=gf h1;obtain⟨a,rfl,h3⟩:=eE h2;obtain⟨g,bs,q',rfl,h4⟩:=i5 h3;obtain⟨y,p',rfl,h5⟩:=gf h4;obtain⟨b,c,rfl,h6⟩:=AU h5;exact⟨_,_,_,_,_,_,_,_,rfl,h6⟩
mutual
noncomputable def FZ (Z:Sg)(G:Gm):IR->Expr->Bool
 | .c d,.Constant k _ _=>Cz d k
 | .g n d,.Name x _=>i4 Z G n x&&Z.Nx.any fun p=>p.1 == n&&qH p.2 d
 | .v i,.Name x _=>fL G i x
 | .bin op a b,.BinOp l o r _=>o == LH op&&FZ Z G a l&&FZ Z G b r
 | .neg a,.UnaryOp .USub e _=>FZ Z G a e
 | .cmp op a b,.Compare l [o] [r] _=>o == IJ op&&FZ Z G a l&&FZ Z G b r&&!behindInMarks o r
 | .chain op GK a b c,.Compare l [o,o'] [m,r] _=>o == IJ op&&o' == IJ GK&&FZ Z G a l&&FZ Z G b m&&FZ Z G c r&&!lastMarks [o,o'] [m,r]
 | .GC a b,.BoolOp .And [e,e'] _=>FZ Z G a e&&FZ Z G b e'
 | .GC a b,.BoolOp .And (e::e'::SQ::rest) p=>FZ Z G a e&&FZ Z G b (.BoolOp .And (e'::SQ::rest) p)
 | .JT a b,.BoolOp .Or [e,e'] _=>FZ Z G a e&&FZ Z G b e'
 | .JT a b,.BoolOp .Or (e::e'::SQ::rest) p=>FZ Z G a e&&FZ Z G b (.BoolOp .Or (e'::SQ::rest) p)
 | .GQ a,.UnaryOp .Not e _=>FZ Z G a e
 | .ite t a b,.IfExp c x y _=>FZ Z G t c&&FZ Z G a x&&FZ Z G b y
 | .tup es,.Tuple l _ _=>dj Z G es l
 | .lst es,.List l _=>dj Z G es l
 | .sl a lo hi,.Subscript e (.Slice l h Φ _) _=>FZ Z G a e&&oj Z G lo l&&oj Z G hi h
 | .idx a i,.Subscript e s _=>dU s&&FZ Z G a e&&FZ Z G i s
 | .call f es,.Call (.Name x _) args [] _=>i4 Z G f x&&Z.Me G f&&dj Z G es args
 | .bi f es,.Call (.Name x _) (a::args) [] _=>x == fH f&&G.Jp (jU f)&&dj Z G es (a::args)
 | .Ic a k,.Call (.Name x _) [e,.Name y _] [] _=>x == "isinstance"&&G.gl.contains 14&&y == gc k&&G.gl.contains (o7 k)&&notStar e&&FZ Z G a e
 | .HK a,e=>ON e fun x y e=>x == "list"&&G.Jp 5&&y == "reversed"&&G.gl.contains 18&&notStar e&&FZ Z G a e
 | .HL a b,e=>SN e fun x y e e'=>x == "list"&&G.Jp 5&&y == "zip"&&G.gl.contains 17&&(notStar e&&notStar e')&&FZ Z G a e&&FZ Z G b e'
 | .sset a,e=>ON e fun x y e=>x == "sorted"&&G.gl.contains 4&&y == "set"&&G.gl.contains 12&&(notStar e&&G.cm)&&FZ Z G a e
 | .Kf m o es,.Call (.Attribute oe name apos) (a::args) [] F9=>name == iW m&&i3 oe&&apos.endLine == F9.line&&(decide ((a::args).length < 29)&&(G.cm||og m))&&FZ Z G o oe&&dj Z G es (a::args)
 | .comp G' fr tg src ifs elt,.ListComp e gens scope _=>oh gens fun t it fs=>dy Z G scope G' fr&&dH G' tg t&&(HU tg).all (fun i=>decide (fr.length<=i))&&(eI Z G src it&&g6 src t)&&dj Z G' ifs fs&&FZ Z G' elt e
 | _,_=>Ξ
noncomputable def dj (Z:Sg)(G:Gm):List IR->List Expr->Bool
 | [],[]=>Θ
 | a::es,e::l=>notStar e&&FZ Z G a e&&dj Z G es l
 | _,_=>Ξ
noncomputable def oj (Z:Sg)(G:Gm):Option IR->Option Expr->Bool
 | none,Φ=>Θ
 | some a,Δ e=>FZ Z G a e
 | _,_=>Ξ
noncomputable def eI (Z:Sg)(G:Gm):Sr->Expr->Bool
 | .Gj n,.Call (.Name x _) [e] [] _=>x == "range"&&G.gl.contains 15&&notStar e&&FZ Z G n e
 | .zip a b,.Call (.Name x _) [e,e'] [] _=>x == "zip"&&G.gl.contains 17&&notStar e&&notStar e'&&FZ Z G a e&&FZ Z G b e'
 | .IA a,.Call (.Name x _) [e] [] _=>x == "enumerate"&&G.gl.contains 20&&notStar e&&FZ Z G a e
 | .val a,e=>FZ Z G a e
 | _,_=>Ξ
end
noncomputable def V1:List Ψ:=[.type "ValueError",.type "Exception",.type "BaseException",.type "object"]
def IB (F:Ω->Prop)(H:Hp):Prop:=∀ a,F a->H a≠Φ
structure Out (K:Frag)(F:Ω->Prop)(H:Hp)(F':Ω->Prop)(H':Hp)(v:V)(d:D)(fv:List Ω):Prop where
 Gg:IB F' H'
 same:cz H H'
 rep:F6 K F' H' v d fv
 GJ:fv.Nodup
 new:∀ a∈fv,H a=Φ
 Iq:∀ a,F a->F' a
 out:∀ a,F' a->F a∨H a=Φ
def MZ (K:Frag)(cl:Nat->List D->Res D)(xp:XK->Hp->Str->Prop)(f:Nat)(ps:List Str):Sp:=fun vs H Q E=>vs.length=ps.length/\MY H/\∃ F ds,IB F H/\Fv K F H vs ds/\
 Fw (xp E H) (cl f (FA ds)) fun d=>∀ v H' F' fv,Out K F H F' H' v d fv->Q v H'
structure M0 (P:Ε)(w:Β)(K:Frag)(mg:Str->Option Ψ)(base:Heap)(CX:Ho)(A:Ι)(cl:Nat->List D->Res D)(xp:XK->Hp->Str->Prop)(f:Nat)(x:Str):Prop where
 ex:∃ (k:Nat) (fa:Ω) (fd:Ο) (ps:List Str),mg x=Δ (.ref fa)/\PySem.W.keepIn K (.ref fa)=Θ/\Binds K fd ps []/\HC P w K mg base CX k fa fd ps (MZ K cl xp f ps)/\Hb k A/\
  ∀ (ex:Str->Prop) ds (k:D->Prop),Fw ex (cl f ds) k->ds.length=ps.length
noncomputable def rm (a:Ω)(H:Hp):Hp:=fun b=>if b=a then Φ else H b
structure SR (K:Frag)(a:Ω)(F:Ω->Prop)(H:Hp)(F':Ω->Prop)(H':Hp)(v:V)(d:D)(fv:List Ω)(KY:List (Key×V))(Ii:List Key)(es':List D):Prop where
 out:Out K F (rm a H) F' H' v d fv
 nF:¬ F' a
 nf:a∉fv
 at_:H' a=Δ (.dK KY)
 ks:KY.map (·.1)=Ii
 vs:Fv K F' H' (KY.map (·.2)) es'
structure SS (K:Frag)(a:Ω)(F:Ω->Prop)(H:Hp)(ws:List V)(ds:List D)(Gd:List (Key×V))(es:List D):Prop where
 Gg:IB F H
 nF:¬ F a
 at_:H a=Δ (.dK Gd)
 ws:Fv K F H ws ds
 vs:Fv K F H (Gd.map (·.2)) es
 lf:ck es=Θ
def SU (K:Frag)(cl:Nat->List D->Res D)(f:Nat)(ps:List Str):Sp:=fun vs H Q _=>vs.length=ps.length/\∃ a F ws ds Gd es,vs=ws++[.ref a]/\SS K a F H ws ds Gd es/\
 ∃ d Ii es',cl f (FA ds++[.Gn Ξ (Gd.map (·.1)) es])=.ok (.tup [d,.Gn Ξ Ii es'])/\ck es'=Θ/\∀ v H' F' fv KY,SR K a F H F' H' v d fv KY Ii es'->Q v H'
structure Qo (P:Ε)(w:Β)(K:Frag)(mg:Str->Option Ψ)(base:Heap)(CX:Ho)(A:Ι)(cl:Nat->List D->Res D)(f:Nat)(x:Str):Prop where
 ex:∃ (k:Nat) (fa:Ω) (fd:Ο) (ps:List Str),mg x=Δ (.ref fa)/\PySem.W.keepIn K (.ref fa)=Θ/\Binds K fd ps []/\HC P w K mg base CX k fa fd ps (SU K cl f ps)/\Hb k A/\
  ∀ ds r,cl f ds=.ok r->ds.length=ps.length
structure SV (Z:Sg)(CX:Ho)(cl:Nat->List D->Res D)(xp:XK->Hp->Str->Prop)(X:Cx):Prop where
 st:X.stack=X.env::X.outer
 fr:X.env.frame=Δ X.env.locals
 lt:MY X.IF
 pl:∀ a:Ω,∀ f∈Z.fns,f∈Z.pl->∀ x,Z.name f=Δ x->M0 X.prog X.w X.K X.mg X.base CX (X.A.mark (Δ (.ref a))) cl xp f x
 cx:∀ (outer:List Env) (H:Hp) (s:Α) (E:XK) (e:Ψ) (s':Α),CX outer H s E e s'->Hl X.prog X.w outer H s E e s'
 xp:∀ (c:Str) (C:Ω) (H:Hp),PySem.W.nsIn X.K Η c=Δ (Δ (.ref C))->xp (fun cls _ _=>cls=.ref C) H c
structure Gx (Z:Sg)(CX:Ho)(cl:Nat->List D->Res D)(xp:XK->Hp->Str->Prop)(X:Cx)(ex:Str->Prop)(G:Gm):Prop where
 N:X.N=G.N
 GJ:G.N.Nodup
 calm:G.cm=Θ->X.calm=Θ
 fk:X.env.scope.kind=.function
 un:X.A.units+42 < cLine
 own:G.rs=Θ->PassesOwn (Μ X.prog X.w) X.A X.env X.xe
 kd:∀ (i:Nat) (x:Str),G.N[i]? = Δ x->X.env.kindOf x=G.kd[i]?
 Ld:∀ (i:Nat) (x:Str),G.N[i]? = Δ x->(x == ("__debug__" : Str))=Ξ/\(x == ("__classdict__" : Str))=Ξ
 gl:∀ n∈G.gl,∀ x,Z.name n=Δ x->Gl X x
 Mg:∀ n x,Z.name n=Δ x->x≠"__name__"/\(x == ("__debug__" : Str))=Ξ
 df:G.df=Θ->∀ x,X.fn x=Θ
 blt:∀ (n:Nat) (x:Str),cX[n]? = Δ x->X.mg x=Φ
 cst:∀ n d x,(n,d)∈Z.Nx->Z.name n=Δ x->∃ u v,X.mg x=Δ u/\RelV v u/\∀ S H,Fx X.K S H v d
 fns:∀ f∈Z.fns,(G.cm=Θ∨f∈Z.pl)->∀ x,Z.name f=Δ x->M0 X.prog X.w X.K X.mg X.base CX X.A cl xp f x
 Kh:∀ f∈Z.Kh,G.cm=Θ->∀ x,Z.name f=Δ x->Qo X.prog X.w X.K X.mg X.base CX X.A cl f x
 Nz:∀ n∈Z.cls,∀ x,Z.name n=Δ x->∃ v,CV X x v
 NA:∀ c n b x,(c,n,b)∈Z.xt->Z.name n=Δ x->∃ C,PySem.W.nsIn X.K Η c=Δ (Δ (.ref C))/\ExcAt X.K C/\∀ v,CV X x v->PySem.W.kitOne X.K (.ref C) (vv v)=Δ b
 NB:∀ c n x,(c,n)∈Z.xm->Z.name n=Δ x->∃ C C',PySem.W.nsIn X.K Η c=Δ (Δ (.ref C))/\PySem.W.nsIn X.K Η x=Δ (Δ (.ref C'))/\nameIn X.K C=Δ c/\X.mg x=Δ (.ref C')/\PySem.W.exmOne X.K (.ref C) (.ref C')=Δ Θ
 NC:∀ n c,(n,c)∈Z.rc->Z.name n=Δ c/\∃ C,X.mg c=Δ (.ref C)/\PySem.W.nsIn X.K Η c=Δ (Δ (.ref C))/\PySem.W.excIn X.K C V1 "ValueError.__new__" = Θ
 YK:G.rs=Θ->∀ (pins:List (Ω×Obj)) (σ:St) (H:Hp) (s:Α) (c:Str) (C:Ω) (h':Heap) (e:Ω) (vs:List Ψ),Inv X pins σ H s->ex c->PySem.W.nsIn X.K Η c=Δ (Δ (.ref C))->Heap.MadeExcOf s.heap h' e (.ref C) vs->X.xe (.ref e) {s with heap:=h'}
 tr:G.tr=Θ->SV Z CX cl xp X
 OO:∃ E:XK,Passes CX X E/\∀ c H,ex c->xp E H c
 K':∀ (outer:List Env) (H:Hp) (s:Α) (E:XK) (e:Ψ) (s':Α),GW X.prog X.w H s.heap->(∀ b∈Ha outer,H b=Φ)->CX outer (cT s.heap H) s E e s'->CX outer H s E e s'
 SX:∀ (H:Hp) (outer:List Env) (s:Α) (e:Ψ) (s':Α),¬ CX outer H s (fun _ _ _=>False) e s'
section
variable {P:Ε}{w:Β}{H H':Hp}{h:Heap}{K:Frag}{Fc F':Ω->Prop}
theorem o9 {vs:List V}{ds:List D}(x:GW P w H h)(m:Fv K Fc H vs ds):Fv K (fun a=>Fc a/\cT h H a≠Φ) (cT h H) vs ds:=by
 refine(m.step (S':=Fc) (H':=cT h H) (fun a xs f r=>⟨f,?_⟩) fun a xs r=>?_).Jg
 ·rcases r with r|⟨o,r⟩
  ·obtain⟨ob,he⟩:=(x a _ r).at
   refine .inr ⟨ob,?_⟩;unfold cT;rw[r];cases xs with
   | l ys=>show (h.get? a).map _=_;rw[he];rfl
   | d ys=>show (h.get? a).map _=_;rw[he];rfl
  ·refine .inr ⟨o,?_⟩;unfold cT;rw[r];cases xs<;>rfl
 ·cases xs with
  | inl xs=>
   rcases r with (r|⟨o,r⟩)|r
   ·refine .inl (.inl ?_);unfold cT;rw[r]
   ·refine .inl (.inr ⟨o,?_⟩);unfold cT;rw[r];rfl
   ·exact .inr r
  | inr c=>obtain⟨C,o,vs,h0,h1,h2,h3⟩:=r;refine⟨C,o,vs,h0,h1,?_,h3⟩;unfold cT;rw[h2];rfl
theorem mL (x:GW P w H h)(p:JB h (cT h H) H'){a:Ω}(n:cT h H a=Φ)(e:H' a≠Φ):H a=Φ:=by
 cases q:H a with
 | none=>rfl
 | some o=>
  obtain⟨ob,he⟩:=(x a o q).at
  exact absurd (p.free a ob he n) e
theorem pd {v:V}{d:D}{fv:List Ω}(x:GW P w H h)(Gg:IB Fc H)(p:JB h (cT h H) H')(o:Out K (fun a=>Fc a/\cT h H a≠Φ) (cT h H) F' H' v d fv):Out K Fc H (fun a=>Fc a∨F' a) (gE H H') v d fv:=by
 have new:∀ a∈fv,H a=Φ:=fun a ha=>mL x p (o.new a ha) (by obtain⟨_,xs,e⟩:=o.rep.own a ha;rw[e];simp);refine⟨fun a ha=>?_,mJ,o.rep.step (fun a xs f r=>⟨.inr f,?_⟩) (fun a xs r=>?_) fun a ha nf hn=>⟨fun z=>?_,res_none (new a ha)⟩,o.GJ,new,fun a ha=>.inl ha,fun a ha=>?_⟩
 ·cases q:H a with
  | some u=>rw[res_some q];simp
  | none=>
   rw[res_none q];rcases ha with ha|ha
   ·exact absurd q (Gg a ha)
   ·exact o.Gg a ha
 ·cases q:H a with
  | none=>unfold Rd;rw[res_none q];exact r
  | some u=>
   unfold Rd;rw[res_some q];cases jT x p q with
   | lst _ z=>
    cases xs with
    | l ys=>
     rcases r with r|⟨o',r⟩
     ·rw[z] at r;cases r
     ·rw[z] at r;cases r;exact .inl rfl
    | d ys=>rcases r with r|⟨o',r⟩<;>(rw[z] at r;cases r)
   | dK _ z=>
    cases xs with
    | d ys=>
     rcases r with r|⟨o',r⟩
     ·rw[z] at r;cases r
     ·rw[z] at r;cases r;exact .inl rfl
    | l ys=>rcases r with r|⟨o',r⟩<;>(rw[z] at r;cases r)
   | tup z=>cases xs<;>rcases r with r|⟨o',r⟩<;>(rw[z] at r;cases r)
   | Gh _ z=>
    cases xs with
    | l ys=>
     rcases r with r|⟨o',r⟩
     ·rw[z] at r;cases r
     ·rw[z] at r;cases r;exact .inr ⟨_,rfl⟩
    | d ys=>
     rcases r with r|⟨o',r⟩
     ·rw[z] at r;cases r
     ·rw[z] at r;cases r;exact .inr ⟨_,rfl⟩
   | Hr _ _ z _ _ _=>exact absurd z r.some
 ·cases xs with
  | inl xs=>
   rcases r with r|r
   ·refine .inl ?_;cases q:H a with
    | none=>unfold Rd;rw[res_none q];exact r
    | some u=>
     unfold Rd;rw[res_some q];cases jT x p q with
     | lst _ z=>rcases r with r|⟨o',r⟩<;>(rw[z] at r;cases r)
     | dK _ z=>rcases r with r|⟨o',r⟩<;>(rw[z] at r;cases r)
     | tup z=>
      rcases r with r|⟨o',r⟩
      ·rw[z] at r;cases r;exact .inl rfl
      ·rw[z] at r;cases r
     | Gh _ z=>
      rcases r with r|⟨o',r⟩
      ·rw[z] at r;cases r
      ·rw[z] at r;cases r;exact .inr ⟨_,rfl⟩
     | Hr _ _ z _ _ _=>exact absurd z r.some
   ·exact .inr r
  | inr c=>
   obtain⟨C,ob,vs,h0,h1,h2,h3⟩:=r;refine⟨C,ob,vs,h0,h1,?_,h3⟩;cases q:H a with
   | none=>rw[res_none q];exact h2
   | some u=>
    rw[res_some q];cases jT x p q with
    | lst _ z=>rw[z] at h2;cases h2
    | dK _ z=>rw[z] at h2;cases h2
    | tup z=>rw[z] at h2;cases h2
    | Gh _ z=>rw[z] at h2;cases h2;rfl
    | Hr _ _ z _ _ _=>rw[z] at h2;cases h2
 ·rcases z with z|z
  ·exact Gg a z (new a ha)
  ·exact nf z
 ·rcases ha with ha|ha
  ·exact .inl ha
  ·rcases o.out a ha with z|z
   ·exact .inl z.1
   ·exact .inr (mL x p z (o.Gg a ha))
end
section
variable {X:Cx}{CX:Ho}{cl:Nat->List D->Res D}{xp:XK->Hp->Str->Prop}
theorem Inv.OP {pins:List (Ω×Obj)}{σ:St}{H:Hp}{s:Α}(I:Inv X pins σ H s):J8 X.prog X.w X.K X.mg X.base X.A X.stack s (cT s.heap H):=
 ⟨I.Ik.frames,I.Ik.mod,fun b o e=>⟨(I.Ik.bs b o e).1,dS (I.Ik.bs b o e).2⟩,I.Ik.Lj,I.Ik.Ht,fun b hb=>dS (I.Ik.KH b hb),su I.Ge,I.Ik.bare⟩
theorem pf {k:Nat}{f:Nat}{fa:Ω}{fd:Ο}{ps:List Str}{E:XK}{pins:List (Ω×Obj)}{σ:St}{H:Hp}{s:Α}{Q:VK}{us:List Ψ}{vs:List V}{ds:List D}{Fc:Ω->Prop}
  (F:HC X.prog X.w X.K X.mg X.base CX k fa fd ps (MZ X.K cl xp f ps)) (hr:Hb k X.A) (hb:Binds X.K fd ps []) (hx:Passes CX X E)
  (hh:∀ (outer:List Env) (H:Hp) (s:Α) (E:XK) (e:Ψ) (s':Α),GW X.prog X.w H s.heap->(∀ b∈Ha outer,H b=Φ)->CX outer (cT s.heap H) s E e s'->CX outer H s E e s')
  (I:Inv X pins σ H s) (r:Vals vs us) (hl:vs.length=ps.length) (Gg:IB Fc H) (m:Fv X.K Fc H vs ds)
  (q:Fw (xp E (cT s.heap H)) (cl f (FA ds)) fun d=>∀ v H' F' fv,Out X.K Fc H F' H' v d fv->Q v H'):Κ (Μ X.prog X.w) X.A (call (.ref fa) us) (EP X pins σ Q) X.xe s:=by
 have Jm:MZ X.K cl xp f ps vs (cT s.heap H) (fun v H'=>JB s.heap (cT s.heap H) H'->Q v (gE H H')) E:=
  ⟨hl,sr _ _,_,ds,fun a h=>h.2,o9 I.Ge m,q.mono fun d hd v H' F' fv o p=>hd v _ _ fv (pd I.Ge Gg p o)⟩
 have LI:(us++([]:List Ψ)).length=ps.length:=by rw[aai,<- r.length];exact hl
 have bd:=hb s us I.Jl LI;rw[aai] at bd;refine wpAny_call (codeAny_mono (F.run X.A X.stack s (cT s.heap H) ⟨us,[]⟩ us vs _ E hr I.OP bd r Jm) fun r' s' hq=>?_);cases r' with
 | error e=>exact hx pins σ H s e s' I (hh X.stack H s E e s' I.Ge I.Ik.KH hq)
 | ok fl=>
  cases fl with
  | ret u=>obtain⟨v,H',a1,a2,a3,a4,a5,a6⟩:=hq;exact I.after (Q:=Q) ⟨v,gE H H',a1,a2,n9 I.Ge a3,n8 I.Ge a4 (gF a3) (fs:=Ha X.stack) (fun b o _ e n f=>a3.keep b o e n f (by simp)) I.Ik.KH,a5,a6 (gF a3)⟩
  | next=>exact False.elim hq
  | brk=>exact False.elim hq
  | cont=>exact False.elim hq
end
def Slots (K:Frag)(S:Ω->Prop)(H:Hp)(σ:St)(τ:Ev)(is:List Nat):Prop:=∀ i∈is,∀ d,cp τ i=Δ d->∃ v,σ[i]? = Δ (Δ v)/\Fx K S H v d
theorem Slots.sub {K:Frag}{S:Ω->Prop}{H:Hp}{σ:St}{τ:Ev}{is js:List Nat}(h:Slots K S H σ τ is)(s:∀ i∈js,i∈is):Slots K S H σ τ js:=fun i hi d e=>h i (s i hi) d e
theorem Slots.left {K:Frag}{S:Ω->Prop}{H:Hp}{σ:St}{τ:Ev}{is js:List Nat}(h:Slots K S H σ τ (is++js)):Slots K S H σ τ is:=h.sub fun _ hi=>r_ _ hi
theorem Slots.right {K:Frag}{S:Ω->Prop}{H:Hp}{σ:St}{τ:Ev}{is js:List Nat}(h:Slots K S H σ τ (is++js)):Slots K S H σ τ js:=h.sub fun _ hi=>s_ _ hi
theorem Slots.go {K:Frag}{S:Ω->Prop}{H H':Hp}{σ:St}{τ:Ev}{is:List Nat}(h:Slots K S H σ τ is)(e:cz H H'):Slots K (nw S H) H' σ τ is:=fun i hi d z=>by obtain⟨v,h1,h2⟩:=h i hi d z;exact⟨v,h1,h2.mono (fun _=>.inl) e⟩
def RD (K:Frag)(ex:Str->Prop)(is:List Nat)(f:Ev->Res D):TE:=fun σ H Q=>∃ S τ,Slots K S H σ τ is/\Fw ex (f τ) (Kk K S H Q)
def RT (K:Frag)(ex:Str->Prop)(is:List Nat)(f:Ev->Res Bool):TT:=fun σ H Q=>∃ S τ,Slots K S H σ τ is/\Fw ex (f τ) fun b=>∀ H',cz H H'->Q b H'
def RA (K:Frag)(ex:Str->Prop)(is:List Nat)(f:Ev->Res (List D)):TA:=fun σ H Q=>∃ S τ,Slots K S H σ τ is/\Fw ex (f τ) fun ds=>∀ vs H',cz H H'->Fv K (nw S H) H' vs ds->Q vs H'
def ND (K:Frag)(ex:Str->Prop)(is:List Nat)(f:Ev->Res (Option Int)):TO:=fun σ H Q=>∃ S τ,Slots K S H σ τ is/\Fw ex (f τ) fun o=>∀ H',cz H H'->Q o H'
def WS (K:Frag)(S:Ω->Prop)(H:Hp)(k:Zp.Kq)(a:Ω)(xs:List V):Prop:=match k with
 | .l=>(S a/\Rd H a (.lst xs))∨KL K a xs
 | .t=>Hn K H a xs
theorem WS.sq {K:Frag}{S:Ω->Prop}{H:Hp}{k:Zp.Kq}{a:Ω}{xs:List V}(h:WS K S H k a xs):Jx K H k a xs:=by
 cases k with
 | l=>exact h.elim (fun z=>.inl z.2) fun z=>z.sq
 | t=>exact h
inductive HN (K:Frag)(S:Ω->Prop)(H:Hp):It->List D->Prop where
 | lst {a:Ω}{xs:List V}{ds:List D}:S a->Rd H a (.lst xs)->Fv K S H xs ds->HN K S H (Qa K a) ds
 | lstK {a:Ω}{xs:List V}{ds:List D}:KL K a xs->Fv K S H xs ds->HN K S H (Qa K a) ds
 | tup {a:Ω}{xs:List V}{ds:List D}:Hn K H a xs->Fv K S H xs ds->HN K S H (Ro K a) ds
 | Ks (lo hi:Int):HN K S H (N7 lo (hi - lo).toNat) (cO lo hi)
 | str (x:Str):HN K S H (SM x) (dE x)
 | zip {p q:Zp.Kq}{l m:Ω}{xs ys:List V}{ds es:List D}:WS K S H p l xs->WS K S H q m ys->Fv K S H xs ds->Fv K S H ys es->HN K S H (R6 K p q l m) (eB ds es)
 | IA {l:Ω}{xs:List V}{ds:List D}:WS K S H .l l xs->Fv K S H xs ds->HN K S H (SF K l) (iS ds)
 | rev {l:Ω}{xs:List V}{ds:List D}:WS K S H .l l xs->Fv K S H xs ds->HN K S H (YF K l xs.length) ds.reverse
def RI (K:Frag)(ex:Str->Prop)(is:List Nat)(f:Ev->Res (List D)):TI:=fun σ H R=>∃ S τ,Slots K S H σ τ is/\Fw ex (f τ) fun ds=>∀ J H',cz H H'->HN K (nw S H) H' J ds->R J H'
theorem jV {S:Ω->Prop}{H H1:Hp}(e:cz H H1):∀ a,nw (nw S H) H1 a->nw S H a:=fun a h=>by
 rcases h with h|h
 ·exact h
 ·exact .inr (e.free h)
section
variable {Z:Sg}{CX:Ho}{cl:Nat->List D->Res D}{xp:XK->Hp->Str->Prop}{X:Cx}{ex:Str->Prop}{G:Gm}
theorem Kk.fit {K:Frag}{S:Ω->Prop}{H H1:Hp}{Q:VK}{d:D}(e:cz H H1)(h:Kk K S H Q d):Kk K (nw S H) H1 Q d:=fun w H' e' m=>h w H' (e.trans e') (m.mono (jV e) (.refl _))
theorem sD (g:Gx Z CX cl xp X ex G){n:Nat}{x:Str}(h:i4 Z G n x=Θ):Gl X x/\Z.name n=Δ x/\x≠"__name__"/\(x == ("__debug__" : Str))=Ξ:=by unfold i4 at h;rw[g_] at h;have e:Z.name n=Δ x:=h_ h.1;exact⟨g.gl n (by simpa using h.2) x e,e,g.Mg n x e⟩
theorem x9 (Z:Sg){n:Nat}{x:Str}(h:cX[n]? = Δ x):Z.name n=Δ x:=by unfold Sg.name;rw[aan (x_.mp h).1];exact h
theorem fg (g:Gx Z CX cl xp X ex G){n:Nat}{x:Str}(h:cX[n]? = Δ x)(hc:G.gl.contains n=Θ):Gl X x/\X.mg x=Φ/\x≠"__name__"/\(x == ("__debug__" : Str))=Ξ:=
 ⟨g.gl n (by simpa using hc) x (x9 Z h),g.blt n x h,g.Mg n x (x9 Z h)⟩
theorem bU {e:Expr}(h:notStar e=Θ)(es:List Expr)(env:Env):Ν (e::es) env=(Ξ,eval e env)::Ν es env:=by
 induction e using zE<;>first|rfl|cases h
theorem dM (Z:Sg)(G:Gm):∀ {es:List IR}{l:List Expr} (p:Pos) (env:Env),dj Z G es l=Θ->(backTo p (Ν l env)).any (·.1)=Ξ
 | [],[],_,_,_=>rfl
 | a::es,e::l,p,env,h=>by have h':(notStar e&&FZ Z G a e&&dj Z G es l)=Θ:=h;simp only[g_] at h';rw[bU h'.1.1];have ih:=dM Z G (es:=es) (l:=l) p env h'.2;show (Ξ||(backTo p (Ν l env)).any (·.1))=Ξ;rw[ih];rfl
 | [],_::_,_,_,h=>by cases h
 | _::_,[],_,_,h=>by cases h
theorem sE {d:D}{v:V}(h:∀ S H,Fx X.K S H v d){σ:St}{H:Hp}{Q:VK}{is:List Nat}(q:RD X.K ex is (fun _=>.ok d) σ H Q):Q v H:=by obtain⟨S,τ,_,q⟩:=q;exact q.ok _ _ (.refl _) (h _ _)
theorem CA {e:Expr}{is:List Nat}{f:Ev->Res D}(h:PE X e (RD X.K ex is f))(he:∀ whole,isTrue e X.env whole=(do let v <- whole;standAt e.pos;holding [v] (truthy v))):PT X e (RT X.K ex is fun τ=>Fu (f τ) cM):=by intro pins s σ H Q I hw;obtain⟨S,τ,hs,hw⟩:=hw;refine isTrue_plain (Gf (h pins s σ H (fun v H'=>∃ d,cz H H'/\Fx X.K (nw S H) H' v d/\Fw ex (cM d) fun b=>∀ H',cz H H'->Q b H') I ⟨S,τ,hs,(Fw.Fu hw).mono fun d hd v H' e m=>⟨d,e,m,hd⟩⟩) fun v s1 ⟨x,H1,I1,r1,d,e,m,hd⟩=>?_) (he _);exact ir I1 r1 m (hd.mono fun b z=>z H1 e)
end
section
variable {Z:Sg}{CX:Ho}{cl:Nat->List D->Res D}{xp:XK->Hp->Str->Prop}{X:Cx}{ex:Str->Prop}{G:Gm}{K:Frag}{S:Ω->Prop}{H H1:Hp}{σ:St}{τ:Ev}
theorem cQ {is:List Nat}{f:Ev->Res D}{Kt:D->Prop}{Q:VK}(e:cz H H1)(hs:Slots K S H σ τ is)(h:Fw ex (f τ) Kt)(k:∀ x v H2,cz H H2->cz H1 H2->Fx K (nw S H) H2 v x->Kt x->Q v H2):RD K ex is f σ H1 Q:=
 ⟨nw S H,τ,hs.go e,h.mono fun x hx v H2 e2 m=>k x v H2 (e.trans e2) e2 (m.mono (jV e) (.refl _)) hx⟩
theorem fW {is:List Nat}{f:Ev->Res Bool}{Kt:Bool->Prop}{Q:Bool->Hp->Prop}(e:cz H H1)(hs:Slots K S H σ τ is)(h:Fw ex (f τ) Kt)(k:∀ x H2,cz H H2->cz H1 H2->Kt x->Q x H2):RT K ex is f σ H1 Q:=
 ⟨nw S H,τ,hs.go e,h.mono fun x hx H2 e2=>k x H2 (e.trans e2) e2 hx⟩
theorem mM {is:List Nat}{f:Ev->Res (List D)}{Kt:List D->Prop}{Q:List V->Hp->Prop}(e:cz H H1)(hs:Slots K S H σ τ is)(h:Fw ex (f τ) Kt)(k:∀ x v H2,cz H H2->cz H1 H2->Fv K (nw S H) H2 v x->Kt x->Q v H2):RA K ex is f σ H1 Q:=
 ⟨nw S H,τ,hs.go e,h.mono fun x hx v H2 e2 m=>k x v H2 (e.trans e2) e2 (m.mono (jV e) (.refl _)) hx⟩
theorem wR {is:List Nat}{f:Ev->Res (Option Int)}{Kt:Option Int->Prop}{Q:Option Int->Hp->Prop}(e:cz H H1)(hs:Slots K S H σ τ is)(h:Fw ex (f τ) Kt)(k:∀ x H2,cz H H2->cz H1 H2->Kt x->Q x H2):ND K ex is f σ H1 Q:=
 ⟨nw S H,τ,hs.go e,h.mono fun x hx H2 e2=>k x H2 (e.trans e2) e2 hx⟩
theorem Fx.later {v:V}{d:D}{H2:Hp}(h:Fx K (L2.nw S H) H1 v d)(e:cz H1 H2):Fx K (L2.nw S H) H2 v d:=h.mono (fun _ z=>z) e
theorem Fv.later {v:List V}{d:List D}{H2:Hp}(h:Fv K (L2.nw S H) H1 v d)(e:cz H1 H2):Fv K (L2.nw S H) H2 v d:=h.mono (fun _ z=>z) e
theorem YL (g:Gx Z CX cl xp X ex G){i:Nat}{x:Str}{pos:Pos}(h:fL G i x=Θ):PE X (.Name x pos) (RD X.K ex [i] (Fz cl (.v i))):=by
 unfold fL at h;rw[g_] at h;have hx:G.N[i]? = Δ x:=h_ h.1;have hk:=g.kd i x hx;have hv:N2 X.env.scope x:=by
  have h2:=h.2;rw[Y_,Y_] at h2;rcases h2 with (h2|h2)|h2
  ·exact .inl (hk.trans (h_ h2))
  ·exact .inr (.inl (hk.trans (h_ h2)))
  ·exact .inr (.inr (hk.trans (h_ h2)))
 refine cG (qS (i:=i) (by rw[g.N];exact hx) hv (g.Ld i x hx).1 (g.Ld i x hx).2) fun σ H Q q=>?_;obtain⟨S,τ,hs,q⟩:=q;rw[Cu] at q;cases z:cp τ i with
 | none=>rw[z] at q;exact q.no.elim
 | some d=>rw[z] at q;obtain⟨v,h1,h2⟩:=hs i (by simp) d z;exact⟨v,h1,q.ok _ _ (.refl _) h2.nw⟩
theorem YM {d:D}{k:Const}{j:Nat}{pos:Pos}(h:Cz d k=Θ):PE X (.Constant k j pos) (RD X.K ex [] (Fz cl (.c d))):=by
 induction d using zD with
 | F4=>
  cases k with
  | none=>exact cG zR fun σ H Q q=>sE (fun _ _=>.F4) q
  | _=>cases h
 | bl b=>
  cases k with
  | bool b'=>have e:b=b':=h_ h;subst e;exact cG B4 fun σ H Q q=>sE (fun _ _=>.bl _) q
  | _=>cases h
 | int b=>
  cases k with
  | int b'=>have e:b=b':=h_ h;subst e;exact cG zQ fun σ H Q q=>sE (fun _ _=>.int _) q
  | _=>cases h
 | str b=>
  cases k with
  | str b'=>have e:b=b':=h_ h;subst e;exact cG zU fun σ H Q q=>sE (fun _ _=>.str _) q
  | _=>cases h
 | tup _=>cases k<;>cases h
 | lst _ _=>cases k<;>cases h
 | exc _=>cases k<;>cases h
 | Gn o ks ds=>cases k<;>cases h
theorem YN (g:Gx Z CX cl xp X ex G){n:Nat}{d:D}{x:Str}{pos:Pos}(h:i4 Z G n x=Θ)(hk:Z.Nx.any (fun p=>p.1 == n&&qH p.2 d)=Θ):PE X (.Name x pos) (RD X.K ex [] (Fz cl (.g n d))):=by obtain⟨h1,h2,h3,h4⟩:=sD g h;rw[List.any_eq_true] at hk;obtain⟨⟨m,d'⟩,hm,hk⟩:=hk;rw[g_] at hk;have e1:m=n:=h_ hk.1;have e2:d'=d:=o8 hk.2;subst e1 e2;obtain⟨u,v,hu,r,hr⟩:=g.cst m d' x hm h2;exact cG (vO h1 hu r h4) fun σ H Q q=>sE hr q
theorem CB {op:KS}{a b:Expr}{pos:Pos}{va vb:List Nat}{fa fb:Ev->Res D}(ha:PE X a (RD X.K ex va fa))(hb:PE X b (RD X.K ex vb fb)) :
  PE X (.BinOp a (LH op) b pos) (RD X.K ex (va++vb) fun τ=>Fu (fa τ) fun x=>Fu (fb τ) fun y=>HM op x y):=by
 refine cG (oM (AN (ex:=ex) op) ha hb) fun σ H Q ⟨S,τ,hs,q⟩=>?_;refine cQ (.refl _) hs.left (Fw.Fu q) fun x v H1 e1 _ m1 q1=>?_;refine cQ e1 hs.right (Fw.Fu q1) fun y w H2 e2 Hd m2 q2=>?_;exact⟨nw S H,x,y,m1.later Hd,m2,q2.mono fun d hd=>hd.fit e2⟩
theorem CC {a:Expr}{pos:Pos}{va:List Nat}{fa:Ev->Res D}(ha:PE X a (RD X.K ex va fa)) :
  PE X (.UnaryOp .USub a pos) (RD X.K ex va fun τ=>Fu (fa τ) fun|.int i=>.ok (.int (-i))|_=>F5):=by
 refine cG (Cc Ai ha) fun σ H Q ⟨S,τ,hs,q⟩=>?_;refine cQ (.refl _) hs (Fw.Fu q) fun x v H1 e1 _ m1 q1=>?_
 induction x using zD with
 | int i=>cases m1.Ga;exact⟨i,rfl,q1.ok _ _ e1 (.int _)⟩
 | _=>exact q1.no.elim
theorem CG (g:Gx Z CX cl xp X ex G){op:Ip}{a b:Expr}{pos:Pos}{va vb:List Nat}{fa fb:Ev->Res D}(ha:PE X a (RD X.K ex va fa))(hb:PE X b (RD X.K ex vb fb))(hm:behindInMarks (IJ op) b=Ξ) :
  PE X (.Compare a [IJ op] [b] pos) (RD X.K ex (va++vb) fun τ=>Fu (fa τ) fun x=>Fu (fb τ) fun y=>Fu (G7 op x y) fun r=>.ok (.bl r))/\
  PT X (.Compare a [IJ op] [b] pos) (RT X.K ex (va++vb) fun τ=>Fu (Fu (fa τ) fun x=>Fu (fb τ) fun y=>Fu (G7 op x y) fun r=>.ok (.bl r)) cM):=by
 refine⟨cG (vU (gX (ex:=ex) g.un op) ha hb hm) fun σ H Q ⟨S,τ,hs,q⟩=>?_,iI (vV (gX (ex:=ex) g.un op) ha hb hm) fun σ H Q ⟨S,τ,hs,q⟩=>?_⟩
 ·refine cQ (.refl _) hs.left (Fw.Fu q) fun x v H1 e1 _ m1 q1=>?_;refine cQ e1 hs.right (Fw.Fu q1) fun y w H2 e2 Hd m2 q2=>?_;exact⟨nw S H,x,y,m1.later Hd,m2,(Fw.Fu q2).mono fun d hd=>hd.ok _ _ e2 (.bl _)⟩
 ·refine cQ (.refl _) hs.left (Fw.Fu (Fw.Fu q)) fun x v H1 e1 _ m1 q1=>?_;refine cQ e1 hs.right (Fw.Fu q1) fun y w H2 e2 Hd m2 q2=>?_;exact⟨nw S H,x,y,m1.later Hd,m2,(Fw.Fu q2).mono fun d hd=>⟨d,rfl,hd.ok.ok H2 e2⟩⟩
theorem wU (g:Gx Z CX cl xp X ex G){op GK:Ip}{a b c:Expr}{pos:Pos}{va vb vc:List Nat}{fa fb fc:Ev->Res D}(ha:PE X a (RD X.K ex va fa))(hb:PE X b (RD X.K ex vb fb))(hc:PE X c (RD X.K ex vc fc))
  (hm:lastMarks [IJ op,IJ GK] [b,c]=Ξ) :
  PE X (.Compare a [IJ op,IJ GK] [b,c] pos) (RD X.K ex (va++vb++vc) fun τ=>Fu (fa τ) fun x=>Fu (fb τ) fun y=>Fu (G7 op x y) fun r=>if r=Θ then Fu (fc τ) fun z=>Fu (G7 GK y z) fun r'=>.ok (.bl r') else .ok (.bl Ξ))/\
  PT X (.Compare a [IJ op,IJ GK] [b,c] pos) (RT X.K ex (va++vb++vc) fun τ=>Fu (Fu (fa τ) fun x=>Fu (fb τ) fun y=>Fu (G7 op x y) fun r=>if r=Θ then Fu (fc τ) fun z=>Fu (G7 GK y z) fun r'=>.ok (.bl r') else .ok (.bl Ξ)) cM):=by
 refine⟨cG (rf (gX (ex:=ex) g.un op) (gX (ex:=ex) g.un GK) ha hb hc hm) fun σ H Q ⟨S,τ,hs,q⟩=>?_,iI (rh (gX (ex:=ex) g.un op) (gX (ex:=ex) g.un GK) ha hb hc hm) fun σ H Q ⟨S,τ,hs,q⟩=>?_⟩
 ·refine cQ (.refl _) hs.left.left (Fw.Fu q) fun x v H1 e1 _ m1 q1=>?_;refine cQ e1 hs.left.right (Fw.Fu q1) fun y w H2 e2 Hd m2 q2=>?_;refine⟨nw S H,x,y,m1.later Hd,m2,(Fw.Fu q2).mono fun d hd=>⟨d,rfl,?_⟩⟩
  induction d using zB with
  | false=>rw[d_ p_] at hd ⊢;exact hd.ok _ _ e2 (.bl _)
  | true=>rw[f_ rfl] at hd ⊢;refine cQ e2 hs.right (Fw.Fu hd) fun z w' H3 e3 Mh m3 q3=>?_;exact⟨nw S H,y,z,m2.later Mh,m3,(Fw.Fu q3).mono fun d hd=>hd.ok _ _ e3 (.bl _)⟩
 ·refine cQ (.refl _) hs.left.left (Fw.Fu (Fw.Fu q)) fun x v H1 e1 _ m1 q1=>?_;refine cQ e1 hs.left.right (Fw.Fu q1) fun y w H2 e2 Hd m2 q2=>?_;refine⟨nw S H,x,y,m1.later Hd,m2,(Fw.Fu q2).mono fun d hd=>⟨d,rfl,?_⟩⟩
  induction d using zB with
  | false=>rw[d_ p_] at hd ⊢;exact⟨Ξ,rfl,hd.ok.ok _ e2⟩
  | true=>rw[f_ rfl] at hd ⊢;refine cQ e2 hs.right (Fw.Fu hd) fun z w' H3 e3 Mh m3 q3=>?_;exact⟨nw S H,y,z,m2.later Mh,m3,(Fw.Fu q3).mono fun d hd=>⟨d,rfl,hd.ok.ok _ e3⟩⟩
theorem ya {a b:Expr}{rest:List Expr}{pos:Pos}{va vb:List Nat}{fa fb:Ev->Res D}(ha:PE X a (RD X.K ex va fa))(hb:PE X (.BoolOp .And (b::rest) pos) (RD X.K ex vb fb)) :
  PE X (.BoolOp .And (a::b::rest) pos) (RD X.K ex (va++vb) fun τ=>Fu (fa τ) fun x=>Fu (cM x) fun r=>if r=Θ then fb τ else .ok x):=by
 intro pins s σ H Q I h;obtain⟨S,τ,hs,q⟩:=h;refine BoolOp_and (Gf (ha pins s σ H (fun v H'=>∃ d,cz H H'/\Fx X.K (nw S H) H' v d/\_) I (cQ (.refl _) hs.left (Fw.Fu q) fun x v H1 e1 _ m1 q1=>⟨x,e1,m1,q1⟩)) fun v s1 ⟨x,H1,I1,r1,d,e1,m1,q1⟩=>?_);refine Gf (ir (Q:=fun b H'=>H'=H1/\Fw ex (if b=Θ then fb τ else .ok d) (Kk X.K S H Q)) I1 r1 m1 ((Fw.Fu q1).mono fun b z=>⟨rfl,z⟩)) fun c s2 ⟨H2,I2,e2,q2⟩=>?_;subst e2
 induction c using zB with
 | true=>rw[f_ rfl] at q2 ⊢;exact hb pins s2 σ _ Q I2 (cQ e1 hs.right q2 fun y w H3 e3 _ m3 q3=>q3 _ _ e3 m3)
 | false=>rw[d_ p_] at q2 ⊢;exact⟨x,_,I2,r1,q2.ok _ _ e1 m1⟩
theorem CH {a b:Expr}{rest:List Expr}{pos:Pos}{va vb:List Nat}{fa fb:Ev->Res D}(ha:PE X a (RD X.K ex va fa))(hb:PE X (.BoolOp .Or (b::rest) pos) (RD X.K ex vb fb)) :
  PE X (.BoolOp .Or (a::b::rest) pos) (RD X.K ex (va++vb) fun τ=>Fu (fa τ) fun x=>Fu (cM x) fun r=>if r=Θ then .ok x else fb τ):=by
 intro pins s σ H Q I h;obtain⟨S,τ,hs,q⟩:=h;refine BoolOp_or (Gf (ha pins s σ H (fun v H'=>∃ d,cz H H'/\Fx X.K (nw S H) H' v d/\_) I (cQ (.refl _) hs.left (Fw.Fu q) fun x v H1 e1 _ m1 q1=>⟨x,e1,m1,q1⟩)) fun v s1 ⟨x,H1,I1,r1,d,e1,m1,q1⟩=>?_);refine Gf (ir (Q:=fun b H'=>H'=H1/\Fw ex (if b=Θ then .ok d else fb τ) (Kk X.K S H Q)) I1 r1 m1 ((Fw.Fu q1).mono fun b z=>⟨rfl,z⟩)) fun c s2 ⟨H2,I2,e2,q2⟩=>?_;subst e2
 induction c using zB with
 | false=>rw[d_ p_] at q2 ⊢;exact hb pins s2 σ _ Q I2 (cQ e1 hs.right q2 fun y w H3 e3 _ m3 q3=>q3 _ _ e3 m3)
 | true=>rw[f_ rfl] at q2 ⊢;exact⟨x,_,I2,r1,q2.ok _ _ e1 m1⟩
theorem CI {a:Expr}{pos:Pos}{va:List Nat}{fa:Ev->Res D}(ha:PE X a (RD X.K ex va fa))(ht:PT X a (RT X.K ex va fun τ=>Fu (fa τ) cM)) :
  PE X (.UnaryOp .Not a pos) (RD X.K ex va fun τ=>Fu (fa τ) fun x=>Fu (cM x) fun r=>.ok (.bl !r))/\PT X (.UnaryOp .Not a pos) (RT X.K ex va fun τ=>Fu (Fu (fa τ) fun x=>Fu (cM x) fun r=>.ok (.bl !r)) cM):=by
 constructor
 ·intro pins s σ H Q I h;obtain⟨S,τ,hs,q⟩:=h;refine UnaryOp_ (Gf (ha pins s σ H (fun v H'=>∃ d,cz H H'/\Fx X.K (nw S H) H' v d/\_) I (cQ (.refl _) hs (Fw.Fu q) fun x v H1 e1 _ m1 q1=>⟨x,e1,m1,q1⟩)) fun v s1 ⟨x,H1,I1,r1,d,e1,m1,q1⟩=>?_);refine not_of (Gf (ir (Q:=fun b H'=>Q (.bl !b) H') I1 r1 m1 ((Fw.Fu q1).mono fun b z=>z.ok _ _ e1 (.bl _))) fun c s2 ⟨H2,I2,q2⟩=>⟨.bl !c,H2,I2,rfl,q2⟩)
 ·refine iI (zX ht) fun σ H Q ⟨S,τ,hs,q⟩=>?_;exact fW (.refl _) hs (Fw.mk ((Fw.Fu (Fw.Fu q)).mono fun x hx=>(Fw.Fu hx).mono fun r hr=>hr.ok.ok)) fun x H2 e2 _ k=>k H2 e2
theorem sF {e:Expr}{pos:Pos}{op:BoolOp}{es:List Expr}{t:TT}(h:PT X (.BoolOp op es pos) t):PW X (.BoolOp op es pos) t:=fun _ pins s σ H Q I q=>h pins s σ H Q I q
theorem yb {a b:Expr}{rest:List Expr}{pos:Pos}{va vb:List Nat}{fa fb:Ev->Res D}(ha:PT X a (RT X.K ex va fun τ=>Fu (fa τ) cM))(hb:PW X (.BoolOp .And (b::rest) pos) (RT X.K ex vb fun τ=>Fu (fb τ) cM)) :
  PT X (.BoolOp .And (a::b::rest) pos) (RT X.K ex (va++vb) fun τ=>Fu (Fu (fa τ) fun x=>Fu (cM x) fun r=>if r=Θ then fb τ else .ok x) cM):=by
 refine iI (zW ha hb).pt fun σ H Q ⟨S,τ,hs,q⟩=>?_;refine fW (.refl _) hs.left (Kt:=fun r=>Fw ex (if r=Θ then Fu (fb τ) cM else .ok Ξ) fun b=>∀ H',cz H H'->Q b H') (Fw.mk ((Fw.Fu (Fw.Fu q)).mono fun x hx=>(Fw.Fu hx).eq.mono fun r hr=>?_)) fun r H2 e2 _ k=>?_
 ·obtain⟨er,hr⟩:=hr
  induction r using zB with
  | true=>rw[f_ rfl] at hr ⊢;exact Fw.mk hr
  | false=>rw[d_ p_] at hr ⊢;have MV:Fw ex (cM x) _:=hr;rw[er] at MV;exact MV
 ·induction r using zB with
  | true=>rw[f_ rfl] at k ⊢;exact fW e2 hs.right k fun b H3 e3 _ z=>z H3 e3
  | false=>rw[d_ p_] at k ⊢;exact k.ok H2 e2
theorem CJ {a b:Expr}{rest:List Expr}{pos:Pos}{va vb:List Nat}{fa fb:Ev->Res D}(ha:PT X a (RT X.K ex va fun τ=>Fu (fa τ) cM))(hb:PW X (.BoolOp .Or (b::rest) pos) (RT X.K ex vb fun τ=>Fu (fb τ) cM)) :
  PT X (.BoolOp .Or (a::b::rest) pos) (RT X.K ex (va++vb) fun τ=>Fu (Fu (fa τ) fun x=>Fu (cM x) fun r=>if r=Θ then .ok x else fb τ) cM):=by
 refine iI (B6 ha hb).pt fun σ H Q ⟨S,τ,hs,q⟩=>?_;refine fW (.refl _) hs.left (Kt:=fun r=>Fw ex (if r=Θ then .ok Θ else Fu (fb τ) cM) fun b=>∀ H',cz H H'->Q b H') (Fw.mk ((Fw.Fu (Fw.Fu q)).mono fun x hx=>(Fw.Fu hx).eq.mono fun r hr=>?_)) fun r H2 e2 _ k=>?_
 ·obtain⟨er,hr⟩:=hr
  induction r using zB with
  | false=>rw[d_ p_] at hr ⊢;exact Fw.mk hr
  | true=>rw[f_ rfl] at hr ⊢;have MV:Fw ex (cM x) _:=hr;rw[er] at MV;exact MV
 ·induction r using zB with
  | false=>rw[d_ p_] at k ⊢;exact fW e2 hs.right k fun b H3 e3 _ z=>z H3 e3
  | true=>rw[f_ rfl] at k ⊢;exact k.ok H2 e2
theorem CK {c a b:Expr}{pos:Pos}{vc va vb:List Nat}{fc fa fb:Ev->Res D}(hc:PT X c (RT X.K ex vc fun τ=>Fu (fc τ) cM))(ha:PE X a (RD X.K ex va fa))(hb:PE X b (RD X.K ex vb fb))
  (ta:PT X a (RT X.K ex va fun τ=>Fu (fa τ) cM)) (tb:PT X b (RT X.K ex vb fun τ=>Fu (fb τ) cM)) :
  PE X (.IfExp c a b pos) (RD X.K ex (vc++va++vb) fun τ=>Fu (fc τ) fun x=>Fu (cM x) fun r=>if r=Θ then fa τ else fb τ)/\
  PT X (.IfExp c a b pos) (RT X.K ex (vc++va++vb) fun τ=>Fu (Fu (fc τ) fun x=>Fu (cM x) fun r=>if r=Θ then fa τ else fb τ) cM):=by
 constructor
 ·refine cG (l6 hc ha hb) fun σ H Q ⟨S,τ,hs,q⟩=>?_;refine fW (.refl _) hs.left.left (Fw.mk ((Fw.Fu q).mono fun x hx=>Fw.Fu hx)) fun r H2 e2 _ k=>?_
  induction r using zB with
  | true=>rw[f_ rfl] at k ⊢;exact cQ e2 hs.left.right k fun y w H3 e3 _ m3 q3=>q3 _ _ e3 m3
  | false=>rw[d_ p_] at k ⊢;exact cQ e2 hs.right k fun y w H3 e3 _ m3 q3=>q3 _ _ e3 m3
 ·intro pins s σ H Q I h;obtain⟨S,τ,hs,q⟩:=h
  refine isTrue_IfExp (Gf (hc pins s σ H (fun r H2=>cz H H2/\Fw ex (if r=Θ then fa τ else fb τ) fun d=>Fw ex (cM d) fun b=>∀ H',cz H H'->Q b H') I
   (fW (.refl _) hs.left.left (Fw.mk ((Fw.Fu (Fw.Fu q)).mono fun x hx=>Fw.Fu hx)) fun r H2 e2 _ k=>⟨e2,k⟩)) fun d s1 ⟨H1,I1,e1,q1⟩=>?_)
  induction d using zB with
  | true=>rw[f_ rfl] at q1;exact ta pins s1 σ H1 Q I1 (fW e1 hs.left.right (Fw.mk q1) fun b H3 e3 _ z=>z H3 e3)
  | false=>rw[d_ p_] at q1;exact tb pins s1 σ H1 Q I1 (fW e1 hs.right (Fw.mk q1) fun b H3 e3 _ z=>z H3 e3)
theorem CL {es:List Expr}{n:Nat}{pos:Pos}{va:List Nat}{fa:Ev->Res (List D)}(h:PA X es (RA X.K ex va fa)):PE X (.Tuple es n pos) (RD X.K ex va fun τ=>Fu (fa τ) fun ds=>FE (dn ds.length) (.ok (.tup ds))):=by refine cG (rk h) fun σ H Q ⟨S,τ,hs,q⟩=>?_;refine mM (.refl _) hs (Fw.Fu q) fun ds vs H1 e1 _ m1 q1=>?_;obtain⟨g,q1⟩:=Fw.FE q1;exact⟨by rw[m1.length];exact dh g,fun p hp=>q1.ok _ _ (e1.trans (.upd hp)) ((AM hp m1).mono (jV e1) (.refl _))⟩
theorem CM {es:List Expr}{pos:Pos}{va:List Nat}{fa:Ev->Res (List D)}(h:PA X es (RA X.K ex va fa)):PE X (.List es pos) (RD X.K ex va fun τ=>Fu (fa τ) fun ds=>FE (dn ds.length) (.ok (.lst Θ ds))):=by refine cG (iG h) fun σ H Q ⟨S,τ,hs,q⟩=>?_;refine mM (.refl _) hs (Fw.Fu q) fun ds vs H1 e1 _ m1 q1=>?_;obtain⟨g,q1⟩:=Fw.FE q1;exact⟨by rw[m1.length];exact dh g,fun p hp=>q1.ok _ _ (e1.trans (.upd hp)) ((mH hp m1).mono (jV e1) (.refl _))⟩
theorem CN {a b:Expr}{pos:Pos}{va vb:List Nat}{fa fb:Ev->Res D}(ha:PE X a (RD X.K ex va fa))(hb:PE X b (RD X.K ex vb fb))(hp:dU b=Θ) :
  PE X (.Subscript a b pos) (RD X.K ex (va++vb) fun τ=>Fu (fa τ) fun x=>Fu (fb τ) fun y=>cH x y):=by
 refine cG (xY (wK (ex:=ex)) ha hb fun o i=>by cases b<;>first|rfl|cases hp) fun σ H Q ⟨S,τ,hs,q⟩=>?_;refine cQ (.refl _) hs.left (Fw.Fu q) fun x v H1 e1 _ m1 q1=>?_;refine cQ e1 hs.right (Fw.Fu q1) fun y w H2 e2 Hd m2 q2=>?_;exact⟨nw S H,x,y,m1.later Hd,m2,q2.mono fun d hd=>hd.fit e2⟩
theorem Fe {a:Expr}{lo hi:Option Expr}{pos p2:Pos}{va vl vh:List Nat}{fa:Ev->Res D}{fl fh:Ev->Res (Option Int)}(ha:PE X a (RD X.K ex va fa))(hl:PO X lo (ND X.K ex vl fl))(hh:PO X hi (ND X.K ex vh fh)) :
  PE X (.Subscript a (.Slice lo hi Φ p2) pos) (RD X.K ex (va++vl++vh) fun τ=>Fu (fa τ) fun x=>Fu (fl τ) fun l=>Fu (fh τ) fun h=>mB x l h):=by
 refine cG (l8 (wL (ex:=ex)) ha hl hh) fun σ H Q ⟨S,τ,hs,q⟩=>?_;refine cQ (.refl _) hs.left.left (Fw.Fu q) fun x v H1 e1 _ m1 q1=>?_;refine wR e1 hs.left.right (Fw.Fu q1) fun l H2 e2 Hd q2=>?_;refine wR e2 hs.right (Fw.Fu q2) fun h H3 e3 Mh q3=>?_;exact⟨nw S H,x,m1.later (Hd.trans Mh),q3.mono fun d hd=>hd.fit e3⟩
theorem s_call (g:Gx Z CX cl xp X ex G){f:Nat}{x:Str}{p pos:Pos}{es:List IR}{args:List Expr}(h1:i4 Z G f x=Θ)(h2:Z.Me G f=Θ)(GI:dj Z G es args=Θ)(h:PA X args (RA X.K ex (cE es) (dt cl es))) :
  PE X (.Call (.Name x p) args [] pos) (RD X.K ex (cE es) fun τ=>Fu (dt cl es τ) fun ds=>cl f (FA ds)):=by
 obtain⟨k1,k2,k3,k4⟩:=sD g h1;obtain⟨k,SY,fd,ps,hm,LJ,hb,F,hr,hlen⟩:=(g.fns f (kT h2).1 (kT h2).2 x k2).ex;obtain⟨E,hP,hE⟩:=g.OO;intro pins s σ H Q I q;obtain⟨S,τ,hs,q⟩:=q;have fin:∀ (us:List Ψ) (s1:Α) (vs:List V) (H1:Hp) (ds:List D),Inv X pins σ H1 s1->Vals vs us->cz H H1->Fv X.K (nw S H) H1 vs ds->Fw ex (cl f (FA ds)) (Kk X.K S H Q)->Κ (Μ X.prog X.w) X.A (call (.ref SY) us) (EP X pins σ Q) X.xe s1:=by
  intro us s1 vs H1 ds I1 r e m q1;have hl:=hlen ex _ _ q1;rw[dJ] at hl;refine pf F hr hb hP g.K' I1 r (by rw[m.length];exact hl) (Fc:=fun a=>nw S H a/\H1 a≠Φ) (fun a z=>z.2) m.Jg ?_;cases z:cl f (FA ds) with
  | error er=>
   rw[z] at q1;cases er with
   | stuck=>exact q1.no.elim
   | exc c=>exact hE c _ q1
  | ok d=>
   rw[z] at q1;intro v H' F' fv o;refine q1.ok _ _ (e.trans o.same) (o.rep.read (fun a ha=>?_) fun a ha=>?_)
   ·rcases o.out a ha with z|z
    ·exact z.1
    ·exact .inr (e.free z)
   ·exact .inr (e.free (o.new a ha))
 refine aaD (kA I k1 hm ?_ k4)
 induction args using zL with
 | nil=>
  induction es using zL with
  | cons _ _=>cases GI
  | nil=>exact PySem.W.callWith_K0 I.Jl LJ (fin [] s [] H [] I .nil (.refl _) .nil q)
 | cons e l=>
  induction es using zL with
  | nil=>cases GI
  | cons a es=>have Gv:(notStar e&&FZ Z G a e&&dj Z G es l)=Θ:=GI;simp only[g_] at Gv;refine PySem.W.callWith_K (h₀:=X.base) I.ok.mod.P6 LJ (Gf (h pos pins s σ H (fun vs H1=>∃ ds,cz H H1/\Fv X.K (nw S H) H1 vs ds/\Fw ex (cl f (FA ds)) (Kk X.K S H Q)) I ⟨S,τ,hs,(Fw.Fu q).mono fun ds hd vs H1 e m=>⟨ds,e,m,hd⟩⟩) fun us s1 ⟨vs,H1,I1,r,ds,e,m,q1⟩=>⟨I1.Jl,?_⟩) (bU Gv.1.1 l X.env) (dM Z G (es:=es) pos X.env Gv.2);exact fin us s1 vs H1 ds I1 r e m q1
theorem Ff (g:Gx Z CX cl xp X ex G){f:Bi}{p pos:Pos}{es:List IR}{a:Expr}{args:List Expr}(hg:G.Jp (jU f)=Θ)(GI:dj Z G es (a::args)=Θ)(h:PA X (a::args) (RA X.K ex (cE es) (dt cl es))) :
  PE X (.Call (.Name (fH f) p) (a::args) [] pos) (RD X.K ex (cE es) fun τ=>Fu (dt cl es τ) fun ds=>ek f ds):=by
 obtain⟨k1,k2,k3,k4⟩:=fg g (sy f) (kR hg)
 induction es using zL with
 | nil=>cases GI
 | cons b es=>
  have Gv:(notStar a&&FZ Z G b a&&dj Z G es args)=Θ:=GI;simp only[g_] at Gv;have mono:∀ σ H Q,RD X.K ex (cE (b::es)) (fun τ=>Fu (dt cl (b::es) τ) fun ds=>ek f ds) σ H Q->Rw (VY X.K ex f) (RA X.K ex (cE (b::es)) (dt cl (b::es))) σ H Q:=by rintro σ H Q ⟨S,τ,hs,q⟩;refine mM (.refl _) hs (Fw.Fu q) fun ds vs H1 e1 _ m1 q1=>?_;exact⟨nw S H,ds,m1,q1.mono fun d hd=>hd.fit e1⟩
  refine cG ?_ mono;have hv:=o6 f;have hc:=wM (X:=X) (ex:=ex) (g.calm (kS hg)) f;unfold sf at hv hc;cases z:Cw f with
  | true=>rw[z,f_ rfl] at hv hc;exact gP hc k1 k2 hv h k3 k4 (bU Gv.1.1 args X.env) (dM Z G (es:=es) pos X.env Gv.2)
  | false=>rw[z,d_ p_] at hv hc;exact iH hc k1 k2 hv h k3 k4 (bU Gv.1.1 args X.env) (dM Z G (es:=es) pos X.env Gv.2)
noncomputable def S1:Kd->V
 | .str=>.ty "str" | .int=>.ty "int" | .bool=>.ty "bool" | .list=>.ty "list" | .tuple=>.ty "tuple"
theorem ph (k:Kd):RelV (S1 k) (si k):=by cases k<;>rfl
theorem sG (k:Kd):dI X (.builtin "isinstance") (fun xs H Q=>∃ S x d,xs=[x,S1 k]/\Fx X.K S H x d/\gV d=Θ/\Q (.bl (du k d)) H):=by
 intro pins s σ H xs us Q I r h;obtain⟨S,x,d,rfl,m,hn,q⟩:=h;obtain⟨u,w',rfl,r1,r2⟩:=vals2 r;have e:w'=si k:=by have:=r2.abs;have h2:=(ph k).abs;cases k<;>(revert r2;intro r2;exact r2)
 subst e;exact wQ I r1 m k hn q
theorem CO (g:Gx Z CX cl xp X ex G){k:Kd}{e:Expr}{p p' pos:Pos}{va:List Nat}{fa:Ev->Res D}(hg:G.gl.contains 14=Θ)(hk:G.gl.contains (o7 k)=Θ)(hn:notStar e=Θ)(ha:PE X e (RD X.K ex va fa)) :
  PE X (.Call (.Name "isinstance" p) [e,.Name (gc k) p'] [] pos) (RD X.K ex va fun τ=>Fu (fa τ) fun x=>FE (gV x) (.ok (.bl (du k x)))):=by
 obtain⟨k1,k2,k3,k4⟩:=fg g (show cX[14]? = Δ ("isinstance" : Str) from rfl) hg;obtain⟨j1,j2,j3,j4⟩:=fg g (AR k) hk;have pa:PA X [e,.Name (gc k) p'] (iF (RD X.K ex va fa) (iF (tC (S1 k)) qj)):=cS ha (cS (vP j1 j2 (wN k) (ph k) j3 j4) dw rfl) (bU hn _ _);refine cG (iH (sG k) k1 k2 PyProof.Rows.boot_isinstance pa k3 k4 (bU hn _ _) rfl) fun σ H Q ⟨S,τ,hs,q⟩=>?_;refine cQ (.refl _) hs (Fw.Fu q) fun x v H1 e1 _ m1 q1=>?_;obtain⟨gd,q1⟩:=Fw.FE q1;exact⟨nw S H,v,x,rfl,m1,gd,q1.ok _ _ e1 (.bl _)⟩
theorem Fv.rev {K:Frag}{S:Ω->Prop}{H:Hp}:∀ {vs:List V}{ds:List D},Fv K S H vs ds->Fv K S H vs.reverse ds.reverse
 | [],[],_=>.nil
 | v::vs,d::ds,.cons h t=>by rw[List.reverse_cons,List.reverse_cons];exact(Fv.rev t).append (.cons h .nil)
theorem AW (g:Gx Z CX cl xp X ex G){e:Expr}{p p' pos pos':Pos}{va:List Nat}{fa:Ev->Res D}(h1:G.gl.contains 4=Θ)(h2:G.gl.contains 12=Θ)(hn:notStar e=Θ)(Kj:G.cm=Θ)(ha:PE X e (RD X.K ex va fa)) :
  PE X (.Call (.Name "sorted" p) [.Call (.Name "set" p') [e] [] pos'] [] pos) (RD X.K ex va fun τ=>Fu (fa τ) oX):=by
 obtain⟨k1,k2,k3,k4⟩:=fg g (show cX[4]? = Δ ("sorted" : Str) from rfl) h1;obtain⟨j1,j2,j3,j4⟩:=fg g (show cX[12]? = Δ ("set" : Str) from rfl) h2;have cc:=qB (g.calm Kj);have cs:=kM (g.calm Kj);have i1:=gP (p:=p') (pos:=pos') cc j1 j2 (by decide +kernel) (cS ha dw (bU hn _ _)) nofun nofun (bU hn _ _) rfl;have i2:=iH (p:=p) (pos:=pos) cs k1 k2 (by decide +kernel) (cS i1 dw rfl) nofun nofun rfl rfl;refine cG i2 fun σ H Q ⟨S,τ,hs,q⟩=>?_;refine cQ (.refl _) hs (Fw.Fu q) fun d v H1 e1 _ m1 q1=>?_
 induction d using zD with
 | lst o ds=>
  obtain⟨a,ys,rfl,qq,m⟩:=m1.GB;have q2:Fw ex (match fu ds with|some ns=>FE (decide (ns.length < 64)) (.ok (.lst Θ ((PySem.W.sortI (dd ns)).map .int)))|none=>F5) (Kk X.K S H Q):=q1;cases z:fu ds with
  | none=>rw[z] at q2;exact q2.no.elim
  | some ns=>rw[z] at q2;obtain⟨gd,q3⟩:=Fw.FE q2;have Lw:ns.length < 64:=q_ gd;rw[iU z] at m;rw[m.ints] at qq;refine⟨a,ns,rfl,qq,Lw,fun a' o' NF HY=>⟨a',o',dd ns,rfl,cv,HY,Nat.lt_of_le_of_lt (rX ns) Lw,fun l hl=>?_⟩⟩;have Qm:H1 l=Φ:=(cz.upd NF).free hl;exact q3.ok _ _ ((e1.trans (.upd NF)).trans (.upd hl)) (.lst (.inr (e1.free Qm)) (.inl cv) (Fv.ofInts _))
 | _=>exact q1.no.elim
theorem AX (g:Gx Z CX cl xp X ex G){e:Expr}{p p' pos pos':Pos}{va:List Nat}{fa:Ev->Res D}(h1:G.Jp 5=Θ)(h2:G.gl.contains 18=Θ)(hn:notStar e=Θ)(ha:PE X e (RD X.K ex va fa)) :
  PE X (.Call (.Name "list" p) [.Call (.Name "reversed" p') [e] [] pos'] [] pos) (RD X.K ex va fun τ=>Fu (fa τ) wF):=by
 obtain⟨k1,k2,k3,k4⟩:=fg g (show cX[5]? = Δ ("list" : Str) from rfl) (kR h1);obtain⟨j1,j2,j3,j4⟩:=fg g (show cX[18]? = Δ ("reversed" : Str) from rfl) h2;refine cG (wg (g.calm (kS h1)) k1 k2 j1 j2 ha fun es=>bU hn es X.env) fun σ H Q ⟨S,τ,hs,q⟩=>?_;refine cQ (.refl _) hs (Fw.Fu q) fun x v H1 e1 _ m1 q1=>?_
 induction x using zD with
 | lst o ds=>obtain⟨a,ys,rfl,qq,m⟩:=m1.GB;exact⟨a,ys,rfl,qq,fun l hl=>Kk.fit e1 q1 _ _ (.upd hl) (mH hl m.rev)⟩
 | _=>exact q1.no.elim
theorem om {d:D}(h:gb d=Θ):∃ x,d=.str x:=by
 induction d using zD<;>first|exact⟨_,rfl⟩|cases h
theorem CP (g:Gx Z CX cl xp X ex G){m:Mt}{o:Expr}{apos F9:Pos}{vo:List Nat}{fo:Ev->Res D}{es:List IR}{a:Expr}{args:List Expr}(hn:i3 o=Θ)(hl:(apos.endLine == F9.line)=Θ)(hlen:(a::args).length < 29)(Kj:(G.cm||og m)=Θ)
  (GI:dj Z G es (a::args)=Θ) (ho:PE X o (RD X.K ex vo fo)) (h:PA X (a::args) (RA X.K ex (cE es) (dt cl es))) :
  PE X (.Call (.Attribute o (iW m) apos) (a::args) [] F9) (RD X.K ex (vo++cE es) fun τ=>Fu (fo τ) fun x=>FE (gb x) (Fu (dt cl es τ) fun ds=>iR m x ds)):=by
 induction es using zL with
 | nil=>cases GI
 | cons b es=>
  have Gv:(notStar a&&FZ Z G b a&&dj Z G es args)=Θ:=GI;simp only[g_] at Gv;have star:=dM Z G (es:=es) F9 X.env Gv.2;have mono:∀ σ H Q,RD X.K ex (vo++cE (b::es)) (fun τ=>Fu (fo τ) fun x=>FE (gb x) (Fu (dt cl (b::es) τ) fun ds=>iR m x ds)) σ H Q->Vo X.K "str" (VZ X.K ex m) (RD X.K ex vo fo) (RA X.K ex (cE (b::es)) (dt cl (b::es))) σ H Q:=by rintro σ H Q ⟨S,τ,hs,q⟩;refine cQ (.refl _) hs.left (Fw.Fu q) fun x v H1 e1 _ m1 q1=>?_;obtain⟨gd,q1⟩:=Fw.FE q1;obtain⟨z,rfl⟩:=om gd;cases m1.Gs;refine⟨rfl,mM e1 hs.right (Fw.Fu q1) fun ds vs H2 e2 Hd m2 q2=>?_⟩;exact⟨nw S H,.str z,ds,.str z,m2,q2.mono fun d hd=>hd.fit e2⟩
  have Jb:attributeBase o (iW m) X.env (eval o X.env)=eval o X.env:=by
   induction o using zE with
   | Call f args HP pos=>
    induction args using zL with
    | nil=>
     induction HP using zL with
     | nil=>cases hn
     | cons _ _=>cases f<;>rfl
    | cons _ _=>cases f<;>rfl
   | _=>rfl
  have S2:(backTo F9 (Ν (a::args) X.env)).all (fun x=>!x.1)=Θ:=by rw[bU Gv.1.1];show (Θ&&(backTo F9 (Ν args X.env)).all (fun x=>!x.1))=Θ;rw[Bool.true_and,V_];intro y hy;have:=List.any_eq_false.mp star y hy;simpa using this
  have Ib:((backTo F9 (Ν (a::args) X.env)).all (fun x=>!x.1)&&(backToKw F9 (keywordEach [] X.env)).all (fun x=>x.1.isSome)&&decide ((a::args).length+([]:List Keyword).length+(if ([]:List Keyword).isEmpty then 0 else 1) < 30))=Θ:=by rw[S2];have:decide ((a::args).length+([]:List Keyword).length+(if ([]:List Keyword).isEmpty then 0 else 1) < 30)=Θ:=F_ (by simp at hlen ⊢;omega);rw[this];rfl
  refine cG ?_ mono;cases m with
  | join=>exact jM PySem.F.plainAttrs_str PySem.F.slot_str_join PySem.F.type_str_join (kQ (ex:=ex) .join fun z=>by cases z) ho h Jb Ib hl (bU Gv.1.1 args X.env) star
  | index=>exact jM PySem.F.plainAttrs_str PySem.F.slot_str_index PySem.F.type_str_index (kQ (ex:=ex) .index fun _=>g.calm (by rw[Y_] at Kj;exact Kj.elim id fun z=>by cases z)) ho h Jb Ib hl (bU Gv.1.1 args X.env) star
  | starts=>exact jM PySem.F.plainAttrs_str PySem.F.slot_str_startswith PySem.F.type_str_startswith (kQ (ex:=ex) .starts fun z=>by cases z) ho h Jb Ib hl (bU Gv.1.1 args X.env) star
end
theorem jW {K:Frag}{S:Ω->Prop}{H:Hp}:∀ (vs:List V) (ds:List D),vs.length=ds.length->(∀ (k:Nat) v d,vs[k]? = Δ v->ds[k]? = Δ d->Fx K S H v d)->Fv K S H vs ds
 | [],[],_,_=>.nil
 | v::vs,d::ds,hl,h=>.cons (h 0 v d rfl rfl) (jW vs ds (by simpa using hl) fun k v d h1 h2=>h (k+1) v d (by rw[aaG];exact h1) (by rw[aaG];exact h2))
 | [],_::_,hl,_=>by cases hl
 | _::_,[],hl,_=>by cases hl
section
variable {Z:Sg}{CX:Ho}{cl:Nat->List D->Res D}{xp:XK->Hp->Str->Prop}{X:Cx}{ex:Str->Prop}{G:Gm}
theorem pj {K:Frag}{S:Ω->Prop}{H:Hp}{v:V}{x:D}{ds:List D}(h:Fx K S H v x)(e:jB x=.ok ds):∃ k a xs,v=.ref a/\Jx K H k a xs/\Fv K S H xs ds:=by
 induction x using zD with
 | lst o es=>cases e;obtain⟨a,xs,rfl,q,m⟩:=h.GB;exact⟨.l,a,xs,rfl,q,m⟩
 | tup es=>cases e;obtain⟨a,xs,rfl,q,m⟩:=h.GZ;exact⟨.t,a,xs,rfl,q,m⟩
 | _=>cases e
theorem AY (g:Gx Z CX cl xp X ex G){a b:Expr}{p p' pos pos':Pos}{va vb:List Nat}{fa fb:Ev->Res D}(h1:G.Jp 5=Θ)(h2:G.gl.contains 17=Θ)(hn:notStar a=Θ)(Ir:notStar b=Θ)(ha:PE X a (RD X.K ex va fa))(hb:PE X b (RD X.K ex vb fb)) :
  PE X (.Call (.Name "list" p) [.Call (.Name "zip" p') [a,b] [] pos'] [] pos) (RD X.K ex (va++vb) fun τ=>Fu (fa τ) fun x=>Fu (fb τ) fun y=>oV x y):=by
 obtain⟨k1,k2,k3,k4⟩:=fg g (show cX[5]? = Δ ("list" : Str) from rfl) (kR h1);obtain⟨j1,j2,j3,j4⟩:=fg g (show cX[17]? = Δ ("zip" : Str) from rfl) h2;have s2:Ν [b] X.env=[(Ξ,eval b X.env)]:=bU Ir [] X.env;refine cG (wo (g.calm (kS h1)) k1 k2 j1 j2 (cS ha (cS hb dw (bU Ir _ _)) (bU hn _ _)) (by rw[bU hn,s2]) s2) fun σ H Q ⟨S,τ,hs,q⟩=>?_;refine cQ (.refl _) hs.left (Fw.Fu q) fun x v H1 e1 _ m1 q1=>?_;refine cQ e1 hs.right (Fw.Fu q1) fun y w H2 e2 Hd m2 q2=>?_;have q3:=Fw.Fu (show Fw ex (Fu (iT x y) fun ds=>FE (dn ds.length) (.ok (D.lst Θ ds))) (Kk X.K S H Q) from q2);cases hx:jB x with
 | error er=>
  induction x using zD<;>first|(cases hx;done)|(rw[show iT _ y=F5 from rfl] at q3;exact q3.no.elim)
 | ok ds=>
  cases hy:jB y with
  | error er=>
   have:iT x y=F5:=by
    unfold iT;rw[hx,hy]
    induction y using zD<;>first|(cases hy;done)|(cases hy;rfl)
   rw[this] at q3;exact q3.no.elim
  | ok es=>
   have hz:iT x y=.ok (eB ds es):=by unfold iT;rw[hx,hy];rfl
   rw[hz] at q3;obtain⟨gd,q4⟩:=Fw.FE q3.ok;obtain⟨ka,l,xs,rfl,g1,n1⟩:=pj (m1.later Hd) hx;obtain⟨kb,m,ys,rfl,g2,n2⟩:=pj m2 hy;have lz:(eB ds es).length=min ds.length es.length:=by unfold eB;rw[List.length_zipWith]
   refine⟨ka,kb,l,m,xs,ys,rfl,g1,g2,by rw[n1.length,n2.length,<- lz];exact dh gd,fun Ts A H' e hA Le hlen hT=>?_⟩;refine q4.ok (.ref A) H' (e2.trans e) (.lst (.inr (e2.free hA)) (.inl Le) (jW _ _ (by rw[i_,hlen,lz,n1.length,n2.length]) fun k v d hv hd=>?_));rw[A_] at hv;obtain⟨T,ht,rfl⟩:=aaE.mp hv;obtain⟨x',y',G9,JQ,MM⟩:=hT k T ht;obtain⟨d1,YO,r1⟩:=n1.Jz G9;obtain⟨d2,hd2,r2⟩:=n2.Jz JQ;have:(eB ds es)[k]? = Δ (.tup [d1,d2]):=by unfold eB;rw[List.getElem?_zipWith,YO,hd2]
   rw[this] at hd;cases hd;exact .tup (.inl (.inl MM)) (.cons (r1.mono (fun _ z=>z) e) (.cons (r2.mono (fun _ z=>z) e) .nil))
end
section
variable {prog:Ε}{w:Β}{A:Ι}{E:Ψ->Α->Prop}{s:Α}
theorem i6 {it t:Ω}{items:Array Ψ}(Hq:t≠it):∀ (n i:Nat) (s:Α) (Q:List Ψ->Α->Prop),s.heap.IsListIter it t i->s.heap.IsList t items->i+n<=items.size->
  (∀ h',h'.IsListIter it t (i+n)->Heap.SameBut it s.heap h'->Q ((items.toList.drop i).take n) {s with heap:=h'})->Κ (Μ prog w) A (draw (.ref it) n) Q E s
 | 0,i,s,Q,hit,_,_,hQ=>by show Κ _ _ (pure []) Q E s;exact e_ (by simpa using hQ s.heap hit (Heap.SameBut.refl ..))
 | n+1,i,s,Q,hit,ht,hle,hQ=>by
  have Gr:i < items.size:=⋯
  show Κ _ _ (pyNext (.ref it) >>= _) Q E s;refine a_ (wpAny_pyNext_list_item hit ht (x:=items[i]) (by simp[Gr]) fun Ka JC Jh=>?_);refine a_ (M_ (i6 Hq n (i+1) _ _ JC (ht.extBut Jh.extBut Hq) ⋯ fun M1 M3 OQ=>e_ ?_));have hd:items.toList.drop i=items[i]::items.toList.drop (i+1):=by simp[List.drop_eq_getElem_cons,Gr]
  have:=hQ M1 (by rw[show i+(n+1)=i+1+n by omega];exact M3) (Jh.trans OQ);rw[hd,List.take_succ_cons] at this;exact this
theorem g7 {t:Ω}{items:Array Ψ}{Q:List Ψ->Α->Prop}(hh:A.handled=Φ)(ht:s.heap.IsList t items)
  (hQ:∀ h',Heap.ExtBut s.heap.objs.size s.heap h'->Q items.toList {s with heap:=h'}):Κ (Μ prog w) A (unpackItems (.ref t) items.size Φ) Q E s:=by
 have Gr:t≠s.heap.objs.size:=by obtain⟨o,ho,_⟩:=ht;exact n_ (j_ ho)
 have push:∀ o,(s.heap.push o).IsList t items:=fun o=>by obtain⟨ob,e,c,n,d⟩:=ht;exact⟨ob,l_ _ e,c,n,d⟩
 unfold unpackItems;refine a_ ?_
 ·unfold notIterableAtAll;refine a_ (wpAny_specialOf ht.typeIs slot_list_iter.lookup ?_);refine e_ ?_;simp only[aaq,if_false];refine a_ (M_ (aas ht ?_));refine a_ (M_ (i6 Gr items.size 0 _ _ ⟨_,w_ _ rfl,rfl,rfl⟩ (push _) ⋯ fun Ka JC Jh=>?_));have Jv:List.take items.size (List.drop 0 items.toList)=items.toList:=by rw[List.drop_zero];exact List.take_of_length_le (by simp)
  rw[Jv];rw[d_ (by simp)];have OR:Ka.IsList t items:=(push _).extBut Jh.extBut Gr;refine a_ (M_ (wpAny_pyNext_list_end hh JC OR (by simp) fun M1 OS=>?_));simp only[Option.isSome_none,aaq,if_false];refine e_ (hQ M1 fun b o hb e=>OS b o hb (Jh.extBut b o hb (l_ _ e)))
end
def CQ (K:Frag)(n:Nat)(t:L0):TG:=fun v σ H Q=>∃ a xs,v=.ref a/\(Hn K H a xs∨GV K H a xs)/\xs.length=n/\t xs σ H Q
theorem AZ {X:Cx}{pos:Pos}{es:List Expr}{k:Nat}{t:L0}{n:Nat}(hc:X.calm=Θ)(h:N6 X es t)(hn:(assignEach es X.env).length=n)(GI:(assignEach es X.env).findIdx? (·.1)=Φ):PG X (.Tuple es k pos) (CQ X.K n t):=by
 intro pins s σ H v u Q I r hw;obtain⟨a,xs,e1,hq,hl,hw⟩:=hw;subst e1;cases r;rcases hq with hq|hq
 ·obtain⟨its,rv,ht,hz⟩:=I.tuple hq;refine assign_Tuple_tuple (I.ok.hd hc) ht (by simp[hn,<- hl,rv.length]) GI fun h' hx=>?_;have I1:Inv X pins σ H {s with heap:=h'}:=I.kept (t':=s.toks) fun b o e=>hx b o (n_ (j_ e)) e;exact h pins _ σ H xs _ Q I1 (by simpa using rv) hw
 ·obtain⟨its,rv,pl,hz⟩:=I.list hq;rw[assign_Tuple];refine a_ (wpAny_standAt ?_);unfold unpack;have hlen:(assignEach es X.env).length=its.toArray.size:=by simp[hn,<- hl,rv.length]
  rw[hlen,GI];refine a_ (M_ (g7 (I.ok.hd hc) pl.isList fun h' hx=>?_));have I1:Inv X pins σ H {s with heap:=h'}:=I.kept (t':=s.toks) fun b o e=>hx b o (n_ (j_ e)) e;exact h pins _ σ H xs _ Q I1 (by simpa using rv) hw
mutual
def gT (K:Frag):Tg->TG
 | .nm i=>qW i
 | .tp ts=>CQ K ts.length (OU K ts)
def OU (K:Frag):List Tg->L0
 | []=>Ca
 | t::ts=>xV (gT K t) (OU K ts)
end
theorem gG {e:Expr}(h:notStar e=Θ)(es:List Expr)(env:Env):assignEach (e::es) env=(Ξ,assign e env)::assignEach es env:=by
 induction e using zE<;>first|rfl|cases h
section
variable {Z:Sg}{CX:Ho}{cl:Nat->List D->Res D}{xp:XK->Hp->Str->Prop}{X:Cx}{ex:Str->Prop}{G:Gm}
theorem i7 (G:Gm):∀ {ts:List Tg}{es:List Expr} (env:Env),f7 G ts es=Θ->(assignEach es env).length=ts.length/\(assignEach es env).findIdx? (·.1)=Φ
 | [],[],_,_=>⟨rfl,rfl⟩
 | t::ts,e::es,env,h=>by have h':(notStar e&&dH G t e&&f7 G ts es)=Θ:=h;simp only[g_] at h';obtain⟨h1,h2⟩:=i7 G (ts:=ts) (es:=es) env h'.2;rw[gG h'.1.1];refine⟨by rw[List.length_cons,h1,List.length_cons],?_⟩;rw[List.findIdx?_cons,d_ (by simp),h2];rfl
 | [],_::_,_,h=>by cases h
 | _::_,[],_,h=>by cases h
mutual
theorem Mi (g:Gx Z CX cl xp X ex G):∀ (t:Tg) (e:Expr),dH G t e=Θ->PG X e (gT X.K t)
 | .nm i,e,h=>by
  induction e using zE with
  | Name x pos=>
   have h':(G.N[i]? == Δ x&&(G.kd[i]? == Δ .local||(G.df&&G.kd[i]? == Δ .cell)))=Θ:=(z_.mp h).1;rw[g_,Y_,g_] at h';obtain⟨h1,h2⟩:=h';have hx:G.N[i]? = Δ x:=h_ h1;have hk:=g.kd i x hx;refine vR (by rw[g.N];exact g.GJ) (by rw[g.N];exact hx) ?_ ?_
   ·rcases h2 with h2|h2
    ·exact .inl (hk.trans (h_ h2))
    ·exact .inr (hk.trans (h_ h2.2))
   ·rcases h2 with h2|h2
    ·exact .inr (hk.trans (h_ h2))
    ·exact .inl (g.df h2.1 x)
  | _=>cases h
 | .tp ts,e,h=>by
  induction e using zE with
  | Tuple es k pos=>have h0:(G.cm&&f7 G ts es)=Θ:=h;rw[g_] at h0;have h':=h0.2;obtain⟨h1,h2⟩:=i7 G X.env h';exact AZ (g.calm h0.1) (CU g ts es h') h1 h2
  | _=>cases h
theorem CU (g:Gx Z CX cl xp X ex G):∀ (ts:List Tg) (es:List Expr),f7 G ts es=Θ->N6 X es (OU X.K ts)
 | [],[],_=>vS
 | t::ts,e::es,h=>by have h':(notStar e&&dH G t e&&f7 G ts es)=Θ:=h;simp only[g_] at h';exact qX (Mi g t e h'.1.2) (CU g ts es h'.2) (by rw[gG h'.1.1];rfl)
 | [],_::_,h=>by cases h
 | _::_,[],h=>by cases h
end
end
mutual
theorem gH {G:Gm}:∀ (t:Tg) (e:Expr),dH G t e=Θ->∀ j∈HU t,G.io≠Δ j
 | .nm i,e,h,j,hj=>by
  induction e using zE with
  | Name x pos=>
   have h':=(z_.mp (show ((G.N[i]? == Δ x&&(G.kd[i]? == Δ .local||(G.df&&G.kd[i]? == Δ .cell)))&&G.io != Δ i)=Θ from h)).2;have e:j=i:=by simpa[HU] using hj
   subst e;simpa using h'
  | _=>cases h
 | .tp ts,e,h,j,hj=>by
  induction e using zE with
  | Tuple es k pos=>have h0:(G.cm&&f7 G ts es)=Θ:=h;exact mN ts es (z_.mp h0).2 j hj
  | _=>cases h
theorem mN {G:Gm}:∀ (ts:List Tg) (es:List Expr),f7 G ts es=Θ->∀ j∈mK ts,G.io≠Δ j
 | [],_,_,j,hj=>by cases hj
 | t::ts,[],h,_,_=>by cases h
 | t::ts,e::es,h,j,hj=>by
  have h':(notStar e&&dH G t e&&f7 G ts es)=Θ:=h;simp only[g_] at h';rcases v_.mp (show j∈HU t++mK ts from hj) with hj|hj
  ·exact gH t e h'.1.2 j hj
  ·exact mN ts es h'.2 j hj
end
def NG (K:Frag)(S:Ω->Prop)(H:Hp)(σ:St)(τ:Ev):Prop:=τ.length=σ.length/\∀ i d,cp τ i=Δ d->∃ v,σ[i]? = Δ (Δ v)/\Fx K S H v d
theorem g8 {τ:Ev}{i j:Nat}{o:Option D}:cp (τ.set i o) j=if i=j/\i < τ.length then o else cp τ j:=by
 unfold cp;rw[List.getElem?_set];by_cases h:i=j
 ·subst h;by_cases h2:i < τ.length
  ·simp[h2]
  ·rw[f_ rfl,d_ h2,d_ ⋯];rw[List.getElem?_eq_none ⋯]
 ·rw[d_ h,d_ ⋯]
section
variable {K:Frag}{S:Ω->Prop}{H:Hp}{ex:Str->Prop}
mutual
theorem pk:∀ (t:Tg) {σ:St}{τ:Ev}{v:V}{d:D}{Kt:Ev->Prop}{Q:St->Hp->Prop},NG K S H σ τ->Fx K S H v d->Fw ex (dR t d τ) Kt->
  (∀ τ' F8,NG K S H F8 τ'->F8.length=σ.length->(∀ j,j∉HU t->F8[j]? = σ[j]?)->Kt τ'->Q F8 H)->gT K t v σ H Q
 | .nm i,σ,τ,v,d,Kt,Q,hs,m,h,k=>by
  refine k (τ.set i (Δ d)) (σ.set i (Δ v)) ⟨by rw[List.length_set,List.length_set,hs.1],fun j e z=>?_⟩ (by rw[List.length_set]) (fun j hj=>?_) h.ok
  ·rw[g8] at z;by_cases q:i=j/\i < τ.length
   ·rw[f_ q] at z;obtain⟨rfl,q⟩:=q;cases z;exact⟨v,by rw[List.getElem?_set_self (by rw[<- hs.1];exact q)],m⟩
   ·rw[d_ q] at z;obtain⟨w,h1,h2⟩:=hs.2 j e z;refine⟨w,?_,h2⟩;by_cases q2:i=j
    ·subst q2;exfalso;have:i < σ.length:=by have:=(x_.mp h1).1;exact this
     exact q ⟨rfl,by rw[hs.1];exact this⟩
    ·rw[aau q2];exact h1
  ·have:i≠j:=fun z=>hj (by subst z;simp[HU]);rw[aau this]
 | .tp ts,σ,τ,v,d,Kt,Q,hs,m,h,k=>by
  induction d using zD with
  | tup ds=>obtain⟨a,xs,rfl,q,ms⟩:=m.GZ;obtain⟨g,h⟩:=Fw.FE h;have g':ds.length=ts.length:=q_ g;exact⟨a,xs,rfl,.inl q,by rw[ms.length,g'],i8 ts hs ms h k⟩
  | lst o ds=>obtain⟨a,xs,rfl,q,ms⟩:=m.GB;obtain⟨g,h⟩:=Fw.FE h;have g':ds.length=ts.length:=q_ g;exact⟨a,xs,rfl,.inr q,by rw[ms.length,g'],i8 ts hs ms h k⟩
  | _=>exact h.no.elim
theorem i8:∀ (ts:List Tg) {σ:St}{τ:Ev}{vs:List V}{ds:List D}{Kt:Ev->Prop}{Q:St->Hp->Prop},NG K S H σ τ->Fv K S H vs ds->Fw ex (gA ts ds τ) Kt->
  (∀ τ' F8,NG K S H F8 τ'->F8.length=σ.length->(∀ j,j∉mK ts->F8[j]? = σ[j]?)->Kt τ'->Q F8 H)->OU K ts vs σ H Q
 | [],σ,τ,vs,ds,Kt,Q,hs,m,h,k=>by
  cases m with
  | nil=>exact⟨rfl,k τ σ hs rfl (fun _ _=>rfl) h.ok⟩
  | cons _ _=>exact h.no.elim
 | t::ts,σ,τ,vs,ds,Kt,Q,hs,m,h,k=>by
  cases m with
  | nil=>exact h.no.elim
  | cons m1 m2=>
   refine⟨_,_,rfl,pk t hs m1 (Fw.Fu h) fun τ' F8 Qp hn hk h'=>?_⟩;refine i8 ts Qp m2 h' fun M4 M5 S3 Ir La OB=>k M4 M5 S3 (Ir.trans hn) (fun j hj=>?_) OB;have Qq:j∉HU t/\j∉mK ts:=by constructor<;>(intro z;apply hj;simp[mK,z])
   rw[La j Qq.2,hk j Qq.1]
end
end
section
variable {K:Frag}{S S':Ω->Prop}{H H':Hp}{J:It}{ds:List D}
theorem WS.step (hl:∀ a (u:LD),S a->Rd H a u.o->S' a/\Rd H' a u.o)(ht:∀ a xs,G2 K H a xs->G2 K H' a xs){k:Zp.Kq}{a:Ω}{xs:List V}(h:WS K S H k a xs):WS K S' H' k a xs:=by
 cases k with
 | l=>exact h.elim (fun z=>.inl (hl _ (.l _) z.1 z.2)) fun z=>.inr z
 | t=>exact ht _ (.inl _) h
theorem mO (ds:List D):(iS ds).length=ds.length:=by unfold iS;rw[List.length_zipWith,aam,Nat.min_self]
theorem mP (ds es:List D):(eB ds es).length=min ds.length es.length:=by unfold eB;rw[List.length_zipWith]
theorem HN.step (hl:∀ a (u:LD),S a->Rd H a u.o->S' a/\Rd H' a u.o)(ht:∀ a xs,G2 K H a xs->G2 K H' a xs)(h:HN K S H J ds):HN K S' H' J ds:=by
 cases h with
 | lst h0 h1 h2=>exact .lst (hl _ (.l _) h0 h1).1 (hl _ (.l _) h0 h1).2 (h2.step hl ht)
 | lstK h1 h2=>exact .lstK h1 (h2.step hl ht)
 | tup h1 h2=>exact .tup (ht _ (.inl _) h1) (h2.step hl ht)
 | Ks lo hi=>exact .Ks lo hi
 | str x=>exact .str x
 | zip h1 h2 h3 h4=>exact .zip (h1.step hl ht) (h2.step hl ht) (h3.step hl ht) (h4.step hl ht)
 | IA h1 h2=>exact .IA (h1.step hl ht) (h2.step hl ht)
 | rev h1 h2=>exact .rev (h1.step hl ht) (h2.step hl ht)
theorem HN.mono (h:HN K S H J ds)(hS:∀ a,S a->S' a)(e:cz H H'):HN K S' H' J ds:=h.step (fun a xs s r=>⟨hS a s,e.rd r⟩) fun a xs s=>e.Io s
theorem i9 (x:Str):(dE x).length=x.cps.size:=by unfold dE;simp
theorem dW (a b:Int):(cO a b).length=(b - a).toNat:=by unfold cO;simp
theorem HN.stop (h:HN K S H J ds){i:Nat}(hi:ds.length=i):J.stop i H:=by
 cases h with
 | lst h0 h1 h2=>exact⟨_,.inl h1,by rw[h2.length];omega⟩
 | lstK h1 h2=>exact⟨_,h1.sq,by rw[h2.length];omega⟩
 | tup h1 h2=>exact⟨_,h1,by rw[h2.length];omega⟩
 | Ks lo Jf=>rw[dW] at hi;exact Nat.le_of_eq hi
 | str x=>rw[i9] at hi;exact Nat.le_of_eq hi
 | zip h1 h2 h3 h4=>exact⟨_,_,h1.sq,h2.sq,by rw[mP] at hi;rw[h3.length,h4.length];omega⟩
 | IA h1 h2=>exact⟨_,h1.sq,by rw[mO] at hi;rw[h2.length];omega⟩
 | rev h1 h2=>show i=_;rw[h2.length,<- hi,List.length_reverse]
theorem HN.go (h:HN K S H J ds){i:Nat}(hi:i < ds.length):J.go i H:=by
 cases h with
 | lst h0 h1 h2=>obtain⟨v,hv,_⟩:=h2.get (i:=i) (d:=ds[i]) (by simp[hi]);exact⟨_,v,.inl h1,hv⟩
 | lstK h1 h2=>obtain⟨v,hv,_⟩:=h2.get (i:=i) (d:=ds[i]) (by simp[hi]);exact⟨_,v,h1.sq,hv⟩
 | tup h1 h2=>obtain⟨v,hv,_⟩:=h2.get (i:=i) (d:=ds[i]) (by simp[hi]);exact⟨_,v,h1,hv⟩
 | Ks lo Jf=>rw[dW] at hi;exact hi
 | str x=>rw[i9] at hi;exact hi
 | zip h1 h2 h3 h4=>
  rename_i ds' es'
  rw[mP] at hi;obtain⟨v,hv,_⟩:=h3.get (i:=i) (d:=ds'[i]) (by rw[y_]);obtain⟨u,hu,_⟩:=h4.get (i:=i) (d:=es'[i]) (by rw[y_]);exact⟨_,_,v,u,h1.sq,h2.sq,hv,hu⟩
 | IA h1 h2=>
  rename_i ds'
  rw[mO] at hi;obtain⟨v,hv,_⟩:=h2.get (i:=i) (d:=ds'[i]) (by rw[y_]);exact⟨_,v,h1.sq,hv⟩
 | rev h1 h2=>exact⟨_,h1.sq,rfl,by rw[List.length_reverse] at hi;rw[h2.length];exact hi⟩
theorem HN.K7 (h:HN K S H J ds){i:Nat}{x:V}{H2:Hp}(y:J.K7 i H x H2){d:D}(hd:ds[i]? = Δ d):cz H H2/\Fx K S H2 x d:=by
 have fin:∀ {xs:List V},Fv K S H xs ds->xs[i]? = Δ x->Fx K S H x d:=fun m e=>by obtain⟨d',e',m'⟩:=m.Jz e;rw[hd] at e';cases e';exact m'
 cases h with
 | lst h0 h1 h2=>obtain⟨e,y⟩:=y;subst e;exact⟨.refl _,fin h2 (y _ (.inl h1))⟩
 | lstK h1 h2=>obtain⟨e,y⟩:=y;subst e;exact⟨.refl _,fin h2 (y _ h1.sq)⟩
 | tup h1 h2=>obtain⟨e,y⟩:=y;subst e;exact⟨.refl _,fin h2 (y _ h1)⟩
 | zip h1 h2 h3 h4=>obtain⟨T,a,b,e1,hT,e2,hy⟩:=y;subst e1 e2;obtain⟨y1,y2⟩:=hy _ _ h1.sq h2.sq;obtain⟨d1,g1,m1⟩:=h3.Jz y1;obtain⟨d2,g2,m2⟩:=h4.Jz y2;unfold eB at hd;rw[List.getElem?_zipWith,g1,g2] at hd;cases hd;have e:cz H (upd H T (.tup [a,b])):=.upd hT;exact⟨e,.tup (Hn.of cv) (.cons (m1.mono (fun _ z=>z) e) (.cons (m2.mono (fun _ z=>z) e) .nil))⟩
 | rev h1 h2=>
  rename_i l xs ds'
  obtain⟨e,y⟩:=y;subst e;have y1:=y _ h1.sq rfl;obtain⟨d1,g1,m1⟩:=h2.Jz y1;have Gr:=(x_.mp hd).1;rw[List.length_reverse] at Gr;rw[List.getElem?_reverse Gr,<- h2.length,g1] at hd;cases hd;exact⟨.refl _,m1⟩
 | IA h1 h2=>obtain⟨T,a,e1,hT,e2,hy⟩:=y;subst e1 e2;have y1:=hy _ h1.sq;obtain⟨d1,g1,m1⟩:=h2.Jz y1;unfold iS at hd;have Gr:=(x_.mp g1).1;rw[List.getElem?_zipWith,g1,List.getElem?_range Gr] at hd;cases hd;have e:cz H (upd H T (.tup [.int i,a])):=.upd hT;exact⟨e,.tup (Hn.of cv) (.cons (.int _) (.cons (m1.mono (fun _ z=>z) e) .nil))⟩
 | Ks lo Jf=>
  obtain⟨e1,e2⟩:=y;subst e1;refine⟨.refl _,?_⟩;subst e2;unfold cO at hd;rw[A_] at hd;have hi:i < (Jf - lo).toNat:=by
   have:=(aaE.mp hd)
   obtain⟨z,h1,_⟩:=this;have:=(x_.mp h1).1;simpa using this
  rw[List.getElem?_range hi] at hd;cases hd;exact .int _
 | str x=>
  obtain⟨e1,c,h1,e2⟩:=y;subst e1;refine⟨.refl _,?_⟩;subst e2;unfold dE at hd;rw[A_] at hd;have h2:x.cps.toList[i]? = Δ c:=by simpa using h1
  rw[h2] at hd;cases hd;exact .str _
end
section
variable {Z:Sg}{CX:Ho}{cl:Nat->List D->Res D}{xp:XK->Hp->Str->Prop}{X:Cx}{ex:Str->Prop}{G:Gm}{K:Frag}{S:Ω->Prop}{H H1:Hp}{σ:St}{τ:Ev}
theorem A0 {is:List Nat}{f:Ev->Res (List D)}{Kt:List D->Prop}{R:It->Hp->Prop}(e:cz H H1)(hs:Slots K S H σ τ is)(h:Fw ex (f τ) Kt)(k:∀ ds J H2,cz H H2->cz H1 H2->HN K (nw S H) H2 J ds->Kt ds->R J H2):RI K ex is f σ H1 R:=
 ⟨nw S H,τ,hs.go e,h.mono fun x hx J H2 e2 m=>k x J H2 (e.trans e2) e2 (m.mono (jV e) (.refl _)) hx⟩
theorem pq {tg:Expr}{pins:List (Ω×Obj)}{s:Α}{a:Ω}{xs:List V}{R:It->Hp->Prop}(I:Inv X pins σ H s)(hq:GV X.K H a xs)(q:R (Qa X.K a) H):Κ (Μ X.prog X.w) X.A (pyIter (.ref a)) (Np X pins σ tg R) X.xe s:=by
 obtain⟨its,rv,p,hz⟩:=I.list hq;refine aas p.isList ?_;refine⟨s.heap.objs.size,[s.heap.objs.size],_,_,H,rfl,I.kept (t':=s.toks) fun b o e=>l_ _ e,qf a _,⟨_,w_ _ rfl,rfl,rfl⟩,fun b hb=>?_,q⟩;have e:b=s.heap.objs.size:=by simpa using hb
 subst e;exact I.Jt (m_ _) (I.Ge.fresh (m_ _))
theorem sH {tg:Expr}{pins:List (Ω×Obj)}{s:Α}{a:Ω}{xs:List V}{R:It->Hp->Prop}(I:Inv X pins σ H s)(hq:Hn X.K H a xs)(q:R (Ro X.K a) H):Κ (Μ X.prog X.w) X.A (pyIter (.ref a)) (Np X pins σ tg R) X.xe s:=by
 obtain⟨its,rv,p,hz⟩:=I.tuple hq;refine wpAny_pyIter_tuple (show s.heap.IsTuple a its.toArray from p) ?_;refine⟨s.heap.objs.size,[s.heap.objs.size],_,_,H,rfl,I.kept (t':=s.toks) fun b o e=>l_ _ e,nG a _,⟨_,w_ _ rfl,rfl,rfl⟩,fun b hb=>?_,q⟩;have e:b=s.heap.objs.size:=by simpa using hb
 subst e;exact I.Jt (m_ _) (I.Ge.fresh (m_ _))
theorem CW {tg e:Expr}{va:List Nat}{fa:Ev->Res D}(ha:PE X e (RD X.K ex va fa)):PI X tg e (RI X.K ex va fun τ=>Fu (fa τ) gW):=by
 intro pins s σ H R I h;obtain⟨S,τ,hs,q⟩:=h;refine Gf (ha pins s σ H (fun v H'=>∃ d,cz H H'/\Fx X.K (nw S H) H' v d/\_) I (cQ (.refl _) hs (Fw.Fu q) fun x v H1 e1 _ m1 q1=>⟨x,e1,m1,q1⟩)) fun v s1 ⟨x,H1,I1,r1,d,e1,m1,q1⟩=>?_
 induction d using zD with
 | lst o ds=>
  cases m1 with
  | lst h0 h1 h2=>cases r1;exact pq I1 (.inl h1) (q1.ok _ _ e1 (.lst h0 h1 h2))
  | lstK h1 h2=>cases r1;exact pq I1 h1.sq (q1.ok _ _ e1 (.lstK h1 h2))
 | tup ds=>obtain⟨a,xs,rfl,h1,h2⟩:=m1.GZ;cases r1;exact sH I1 h1 (q1.ok _ _ e1 (.tup h1 h2))
 | str z=>cases m1.Gs;obtain⟨t,rfl⟩:=r1;obtain⟨_,q1⟩:=Fw.FE q1;exact AQ I1 (q1.ok _ _ e1 (.str z))
 | _=>exact q1.no.elim
theorem A1 (g:Gx Z CX cl xp X ex G){tg e:Expr}{p pos:Pos}{va:List Nat}{fa:Ev->Res D}(hg:G.gl.contains 15=Θ)(hn:notStar e=Θ)(ha:PE X e (RD X.K ex va fa)) :
  PI X tg (.Call (.Name "range" p) [e] [] pos) (RI X.K ex va fun τ=>Fu (fa τ) fun|.int i=>FE (ib i) (.ok (cO 0 i))|_=>F5):=by
 obtain⟨k1,k2,_,_⟩:=fg g (show cX[15]? = Δ ("range" : Str) from rfl) hg;refine kF (jH k1 k2 (cS ha dw (bU hn _ _)) (bU hn _ _)) fun σ H Q ⟨S,τ,hs,q⟩=>?_;refine cQ (.refl _) hs (Fw.Fu q) fun x v H1 e1 _ m1 q1=>?_
 induction x using zD with
 | int i=>cases m1.Ga;obtain⟨gd,q1⟩:=Fw.FE q1;have Lf : -(2 ^ 62)<=i/\i < 2 ^ 62:=q_ gd;refine⟨i,rfl,Lf.1,Lf.2,?_⟩;have:=q1.ok _ _ e1 (.Ks 0 i);rw[Int.sub_zero] at this;exact this
 | _=>exact q1.no.elim
theorem CY {a:Ω}{v:V}{d:D}{ds:List D}(m:Fx K S H v d)(h:jB d=.ok ds):∃ k a xs,v=.ref a/\WS K S H k a xs/\Fv K S H xs ds:=by
 induction d using zD with
 | lst o es=>
  cases h;cases m with
  | lst h0 h1 h2=>exact⟨.l,_,_,rfl,.inl ⟨h0,h1⟩,h2⟩
  | lstK h1 h2=>exact⟨.l,_,_,rfl,.inr h1,h2⟩
 | tup es=>cases h;obtain⟨a,xs,rfl,h1,h2⟩:=m.GZ;exact⟨.t,a,xs,rfl,h1,h2⟩
 | _=>cases h
theorem CZ (g:Gx Z CX cl xp X ex G){es:List Expr}{c:Nat}{tp:Pos}{e e':Expr}{p pos:Pos}{va vb:List Nat}{fa fb:Ev->Res D}(hg:G.gl.contains 17=Θ)(hn:notStar e=Θ)(Ir:notStar e'=Θ)(ha:PE X e (RD X.K ex va fa))(hb:PE X e' (RD X.K ex vb fb)) :
  PI X (.Tuple es c tp) (.Call (.Name "zip" p) [e,e'] [] pos) (RI X.K ex (va++vb) fun τ=>Fu (fa τ) fun x=>Fu (fb τ) fun y=>iT x y):=by
 obtain⟨k1,k2,_,_⟩:=fg g (show cX[17]? = Δ ("zip" : Str) from rfl) hg;refine kF (Ay k1 k2 (cS ha (cS hb dw (bU Ir _ _)) (bU hn _ _)) (by rw[bU hn,bU Ir];rfl) (bU Ir _ _)) fun σ H Q ⟨S,τ,hs,q⟩=>?_;refine cQ (.refl _) hs.left (Fw.Fu q) fun x v H1 e1 _ m1 q1=>?_;refine cQ e1 hs.right (Fw.Fu q1) fun y w H2 e2 Hd m2 q2=>?_;have q3:=Fw.Fu (show Fw ex (Fu (jB x) fun ds=>Fu (jB y) fun es=>.ok (eB ds es)) _ from q2);have YQ:=m1.mono (fun _ z=>z) Hd;cases hx:jB x with
 | error z=>
  rw[hx] at q3
  induction x using zD<;>first|(cases hx;exact q3.no.elim)|cases hx
 | ok ds=>
  rw[hx] at q3;have q4:=Fw.Fu q3.ok;cases hy:jB y with
  | error z=>
   rw[hy] at q4
   induction y using zD<;>first|(cases hy;exact q4.no.elim)|cases hy
  | ok es'=>rw[hy] at q4;obtain⟨k1,a1,xs,rfl,w1,r1⟩:=CY (a:=0) YQ hx;obtain⟨k2,a2,ys,rfl,w2,r2⟩:=CY (a:=0) m2 hy;exact⟨k1,k2,a1,a2,xs,ys,rfl,w1.sq,w2.sq,q4.ok.ok _ _ e2 (.zip w1 w2 r1 r2)⟩
theorem C0 (g:Gx Z CX cl xp X ex G){es:List Expr}{c:Nat}{tp:Pos}{e:Expr}{p pos:Pos}{va:List Nat}{fa:Ev->Res D}(hg:G.gl.contains 20=Θ)(hn:notStar e=Θ)(ha:PE X e (RD X.K ex va fa)) :
  PI X (.Tuple es c tp) (.Call (.Name "enumerate" p) [e] [] pos) (RI X.K ex va fun τ=>Fu (fa τ) wD):=by
 obtain⟨k1,k2,_,_⟩:=fg g (show cX[20]? = Δ ("enumerate" : Str) from rfl) hg;refine kF (wA k1 k2 (cS ha dw (bU hn _ _)) (bU hn _ _)) fun σ H Q ⟨S,τ,hs,q⟩=>?_;refine cQ (.refl _) hs (Fw.Fu q) fun x v H1 e1 _ m1 q1=>?_
 induction x using zD with
 | lst o ds=>
  cases m1 with
  | lst h0 h1 h2=>exact⟨_,_,rfl,.inl h1,(show Fw ex (.ok (iS ds)) _ from q1).ok _ _ e1 (.IA (.inl ⟨h0,h1⟩) h2)⟩
  | lstK h1 h2=>exact⟨_,_,rfl,h1.sq,(show Fw ex (.ok (iS ds)) _ from q1).ok _ _ e1 (.IA (.inr h1) h2)⟩
 | _=>exact q1.no.elim
theorem fB {env:Env}{x:Str}:∀ (names:List (Str×NameKind)),
  (names.map fun (n,k)=>if (k == Υ&&env.scope.kind == .function&&env.kindOf n == Δ .cell) then (n,NameKind.cell) else (n,k)).lookup x =
   (names.lookup x).map fun k=>if (k == Υ&&env.scope.kind == .function&&env.kindOf x == Δ .cell) then NameKind.cell else k
 | []=>rfl
 | (n,k)::r=>by
  have ih:=fB (env:=env) (x:=x) r;rw[b_];show List.lookup x ((if (k == Υ&&env.scope.kind == .function&&env.kindOf n == Δ .cell)=Θ then (n,NameKind.cell) else (n,k))::_)=_;by_cases hc:(k == Υ&&env.scope.kind == .function&&env.kindOf n == Δ .cell)=Θ
  ·rw[f_ hc,aaA,aaA];cases hx:x == n with
   | true=>have e:x=n:=h_ hx;subst e;show Δ NameKind.cell=Δ (if _ then _ else _);rw[f_ hc]
   | false=>exact ih
  ·rw[d_ hc,aaA,aaA];cases hx:x == n with
   | true=>have e:x=n:=h_ hx;subst e;show Δ k=Δ (if _ then _ else _);rw[d_ hc]
   | false=>exact ih
theorem oo {scope:Scope}{env:Env}(h:∀ y∈scope.names,y.2=.free->∃ c,env.cells.lookup y.1=Δ c) :
  ∃ G8,closureFor scope env=pure G8/\(∀ x c,G8.lookup x=Δ c->env.cells.lookup x=Δ c)/\∀ y∈scope.names,y.2=.free->∃ c,G8.lookup y.1=Δ c:=by
 have key:∀ (names:List (Str×NameKind)) (acc:List (Str×Ω)),(∀ y∈names,y.2=.free->∃ c,env.cells.lookup y.1=Δ c)->(∀ x c,acc.lookup x=Δ c->env.cells.lookup x=Δ c)->
   ∃ G8,(forIn names acc fun (p:Str×NameKind) (r:List (Str×Ω))=>(if (p.2 == Υ)=Θ then do let a <- cellOf env p.1;pure (ForInStep.yield ((p.1,a)::r)) else pure (ForInStep.yield r):Sem (ForInStep (List (Str×Ω)))))=pure G8/\(∀ x c,G8.lookup x=Δ c->env.cells.lookup x=Δ c)/\
    (∀ y∈names,y.2=.free->∃ c,G8.lookup y.1=Δ c)/\∀ x c,acc.lookup x=Δ c->∃ c',G8.lookup x=Δ c':=by
  intro names
  induction names with
  | nil=>intro acc _ h2;exact⟨acc,rfl,h2,fun y hy=>absurd hy (by simp),fun x c e=>⟨c,e⟩⟩
  | cons p names ih=>
   intro acc h1 h2;rw[List.forIn_cons];by_cases hp:p.2=.free
   ·obtain⟨c,hc⟩:=h1 p (by simp) hp;have hb:(p.2 == Υ)=Θ:=by rw[hp];rfl
    have YR:∀ x c',((p.1,c)::acc).lookup x=Δ c'->env.cells.lookup x=Δ c':=by
     intro x c' e;rw[aaA] at e;cases hx:x == p.1 with
     | true=>rw[hx] at e;cases e;rw[h_ hx];exact hc
     | false=>rw[hx] at e;exact h2 x c' e
    obtain⟨G8,e1,e2,e3,e4⟩:=ih ((p.1,c)::acc) (fun y hy=>h1 y (I_ _ hy)) YR;refine⟨G8,?_,e2,fun y hy hf=>?_,fun x c' e=>?_⟩
    ·rw[f_ hb];have:cellOf env p.1=pure c:=by unfold cellOf;rw[hc]
     rw[this];exact e1
    ·rcases k_.mp hy with rfl|hy
     ·exact e4 y.1 c (by rw[aaA];simp)
     ·exact e3 y hy hf
    ·rcases hx:x == p.1 with _|_
     ·exact e4 x c' (by rw[aaA,hx];exact e)
     ·exact e4 x c (by rw[aaA,hx])
   ·have hb:¬ (p.2 == Υ)=Θ:=fun z=>hp (h_ z);obtain⟨G8,e1,e2,e3,e4⟩:=ih acc (fun y hy=>h1 y (I_ _ hy)) h2;refine⟨G8,?_,e2,fun y hy hf=>?_,e4⟩
    ·rw[d_ hb];exact e1
    ·rcases k_.mp hy with rfl|hy
     ·exact absurd hf hp
     ·exact e3 y hy hf
 obtain⟨G8,e1,e2,e3,_⟩:=key scope.names [] h (fun x c e=>by cases e);refine⟨G8,?_,e2,e3⟩;unfold closureFor;exact congrArg (fun (m:Sem (List (Str×Ω)))=>m >>= fun r=>pure r) e1
structure JD (Z:Sg)(G:Gm)(scope:Scope)(G':Gm)(fr:List Nat):Prop where
 cm:G.cm=Θ
 kind:scope.kind=.function
 tr:G'.tr=Ξ
 df:G'.df=Ξ
 kdl:G'.kd.length=G'.N.length
 II:∀ y∈scope.names,y.2≠.cell
 loc:∀ y∈scope.names,y.2=.local->scope.names.lookup y.1=Δ .local
 YT:∀ y∈scope.names,y.2=.free->∃ i:Nat,G.N[i]? = Δ y.1/\(G.kd[i]? = Δ .cell∨G.kd[i]? = Δ .free)
 Ha:∀ (j:Nat) (i:Nat),fr[j]? = Δ i->∃ x,G.N[i]? = Δ x/\G'.N[j]? = Δ x/\scope.names.lookup x=Δ .free/\(G.kd[i]? = Δ .cell∨G.kd[i]? = Δ .free)/\G'.kd[j]? = Δ (if (G.kd[i]? == Δ .cell)=Θ then .cell else .free)
 OV:fr.length<=G'.N.length
 HU:∀ (j:Nat) (x:Str),fr.length<=j->G'.N[j]? = Δ x->scope.names.lookup x=Δ .local/\G'.kd[j]? = Δ .local
 Ld:∀ x∈G'.N,(x == ("__debug__" : Str))=Ξ/\(x == ("__classdict__" : Str))=Ξ
 GJ:G'.N.Nodup
 gl:∀ n∈G'.gl,∃ x,Z.name n=Δ x/\scope.names.lookup x=Δ .globalImplicit
theorem ix {Z:Sg}{G:Gm}{scope:Scope}{G':Gm}{fr:List Nat}(h:dy Z G scope G' fr=Θ):JD Z G scope G' fr:=by
 unfold dy at h;simp only[g_] at h;obtain⟨⟨⟨⟨⟨⟨⟨⟨⟨⟨⟨⟨⟨h0,h1⟩,OW⟩,h2⟩,h3⟩,h4⟩,h5⟩,h6⟩,h7⟩,h8⟩,h9⟩,K9⟩,L8⟩,MK⟩:=h;rw[V_] at h4 h5 h6 h7 h9 K9 MK;refine⟨h0,h_ h1,by simpa using OW,by simpa using h2,h_ h3,fun y hy=>by simpa using h4 y hy,fun y hy e=>?_,fun y hy e=>?_,fun j i e=>?_,q_ h8,fun j x hj e=>?_,fun x hx=>by simpa using K9 x hx,q_ L8,fun n hn=>?_⟩
 ·have:=h5 y hy;rw[e] at this;simpa using this
 ·have:=h6 y hy;rw[e] at this;simp only[bne_self_eq_false,Bool.false_or,List.any_eq_true,g_,Y_] at this;obtain⟨i,_,hi,hk⟩:=this;exact⟨i,h_ hi,hk.elim (fun z=>.inl (h_ z)) fun z=>.inr (h_ z)⟩
 ·have hj:j < fr.length:=(x_.mp e).1;have:=h7 j (Z_.mpr hj);simp only[e,Option.bind_some,g_,Y_] at this;obtain⟨⟨⟨a1,a2⟩,a3⟩,a4⟩:=this;have V2:=h_ a1;have Qr:=h_ a2;cases q:G'.N[j]? with
  | none=>rw[q] at Qr;cases Qr
  | some x=>rw[q] at Qr V2;exact⟨x,V2.symm,rfl,Qr,a3.elim (fun z=>.inl (h_ z)) fun z=>.inr (h_ z),h_ a4⟩
 ·have Gr:j < G'.N.length:=(x_.mp e).1;have hm:j∈(List.range G'.N.length).drop fr.length:=by rw[List.mem_drop_iff_getElem];exact⟨j - fr.length,by simp;omega,by simp;omega⟩
  have:=h9 j hm;rw[e] at this;simp only[Option.bind_some,g_] at this;exact⟨h_ this.1,h_ this.2⟩
 ·have:=MK n hn;cases q:Z.name n with
  | none=>rw[q] at this;cases this
  | some x=>rw[q] at this;exact⟨x,rfl,h_ this⟩
noncomputable def Kl (G:Gm)(fr:List Nat):List (Str×Nat):=fr.map fun i=>(G.N.getD i "",i)
theorem C2 {scope:Scope}{G':Gm}{fr:List Nat}(s:JD Z G scope G' fr):(Kl G fr).map (·.1)++G'.N.drop fr.length=G'.N:=by
 have e:(Kl G fr).map (·.1)=G'.N.take fr.length:=by
  apply List.ext_getElem?;intro j;unfold Kl;rw[H_,A_,List.getElem?_take];cases q:fr[j]? with
  | none=>
   have:¬ j < fr.length:=by intro z;rw[y_ z] at q;cases q
   rw[d_ this];rfl
  | some i=>have:j < fr.length:=(x_.mp q).1;rw[f_ this];obtain⟨x,h1,h2,_⟩:=s.Ha j i q;rw[h2];show Δ (G.N.getD i "")=Δ x;rw[aat,h1];rfl
 rw[e,List.take_append_drop]
theorem fQ (g:Gx Z CX cl xp X ex G)(ok:X.Ok){scope:Scope}{G':Gm}{fr:List Nat}(s:JD Z G scope G' fr):∃ G8,HD X scope G8 (Kl G fr) (G'.N.drop fr.length):=by
 have JK:∀ y∈scope.names,y.2=.free->∃ c,X.env.cells.lookup y.1=Δ c:=fun y hy hf=>by obtain⟨i,h1,h2⟩:=s.YT y hy hf;have hk:=g.kd i y.1 h1;exact ok.has y.1 (h2.elim (fun z=>.inl (hk.trans z)) fun z=>.inr (hk.trans z))
 obtain⟨G8,e1,e2,e3⟩:=oo JK;refine⟨G8,e1,s.kind,s.II,s.loc,e2,fun x hx=>?_,fun p hp=>?_⟩
 ·have hl:=fB (env:=X.env) (x:=x) scope.names;have G9:((scope.names.lookup x).map fun k=>if (k == Υ&&X.env.scope.kind == .function&&X.env.kindOf x == Δ .cell)=Θ then NameKind.cell else k)=Δ .cell∨
    ((scope.names.lookup x).map fun k=>if (k == Υ&&X.env.scope.kind == .function&&X.env.kindOf x == Δ .cell)=Θ then NameKind.cell else k)=Δ .free:=by
   rcases hx with hx|hx
   ·exact .inl (hl.symm.trans hx)
   ·exact .inr (hl.symm.trans hx)
  cases q:scope.names.lookup x with
  | none=>rw[q] at G9;rcases G9 with z|z<;>cases z
  | some k=>
   have hm:(x,k)∈scope.names:=PySem.mem_of_lookup q;have hk:k=.free:=by
    rw[q] at G9;rcases G9 with z|z
    ·have z':(if (k == Υ&&X.env.scope.kind == .function&&X.env.kindOf x == Δ .cell)=Θ then NameKind.cell else k)=.cell:=D_ z;split at z'
     ·rename_i hc
      simp only[g_] at hc;exact h_ hc.1.1
     ·exact absurd z' (s.II _ hm)
    ·have z':(if (k == Υ&&X.env.scope.kind == .function&&X.env.kindOf x == Δ .cell)=Θ then NameKind.cell else k)=.free:=D_ z;split at z'
     ·cases z'
     ·exact z'
   exact e3 (x,k) hm hk
 ·unfold Kl at hp;rw[List.mem_map] at hp;obtain⟨i,hi,rfl⟩:=hp;obtain⟨j,hj⟩:=List.getElem?_of_mem hi;obtain⟨x,h1,h2,h3,h4,h5⟩:=s.Ha j i hj;have hn:G.N.getD i "" = x:=by rw[aat,h1];rfl
  show X.N[i]? = Δ (G.N.getD i "")/\_;rw[hn];have hk:=g.kd i x h1;refine⟨by rw[g.N];exact h1,h4.elim (fun z=>.inl (hk.trans z)) fun z=>.inr (hk.trans z),?_⟩;have hl:=fB (env:=X.env) (x:=x) scope.names;rw[h3] at hl;have R5:(relabel scope X.env).names.lookup x=Δ (if (Υ == Υ&&X.env.scope.kind == .function&&X.env.kindOf x == Δ .cell)=Θ then NameKind.cell else Υ):=hl;rw[R5];split
  ·exact .inl rfl
  ·exact .inr rfl
theorem dv (g:Gx Z CX cl xp X ex G){scope:Scope}{G':Gm}{fr:List Nat}(s:JD Z G scope G' fr)(G8:List (Str×Ω))(C:Ω)(s3:Α)(H3:Hp)(fp:List Ω) :
  Gx Z CX cl xp (JM X scope G8 ((Kl G fr).map (·.1)++G'.N.drop fr.length) C s3 H3 fp) (fun _=>False) G' where
 N:=C2 s
 GJ:=s.GJ
 calm:=fun _=>g.calm s.cm
 fk:=s.kind
 un:=g.un
 own:=fun _=>PassesOwn.never
 kd:=fun j x hx=>by
  show (relabel scope X.env).names.lookup x=_;have hl:=fB (env:=X.env) (x:=x) scope.names;by_cases hj:j < fr.length
  ·obtain⟨y,h1,h2,h3,h4,h5⟩:=s.Ha j fr[j] (by simp[hj]);rw[hx] at h2;cases h2;rw[h3] at hl;rw[h5];refine hl.trans ?_;have hk:=g.kd fr[j] x h1;show Δ (if (Υ == Υ&&X.env.scope.kind == .function&&X.env.kindOf x == Δ .cell)=Θ then NameKind.cell else Υ)=_;rw[hk,g.fk];rfl
  ·obtain⟨h1,h2⟩:=s.HU j x ⋯ hx;rw[h1] at hl;rw[h2];exact hl
 Ld:=fun j x hx=>s.Ld x (aae hx)
 gl:=fun n hn x e=>by obtain⟨y,h1,h2⟩:=s.gl n hn;rw[e] at h1;cases h1;show (relabel scope X.env).names.lookup x=_;have hl:=fB (env:=X.env) (x:=x) scope.names;rw[h2] at hl;exact hl
 Mg:=g.Mg
 df:=fun z=>by rw[s.df] at z;cases z
 blt:=g.blt
 cst:=g.cst
 fns:=fun f hf _ x hx=>g.fns f hf (.inl s.cm) x hx
 Kh:=fun f hf _ x hx=>g.Kh f hf s.cm x hx
 Nz:=g.Nz
 NA:=g.NA
 NB:=g.NB
 NC:=g.NC
 YK:=fun _ pins σ H s c C h' e vs _ z=>z.elim
 tr:=fun z=>by rw[s.tr] at z;cases z
 OO:=⟨fun _ _ _=>False,fun pins σ H s e s' _ h=>(g.SX _ _ _ _ _ h).elim,fun c _ z=>z.elim⟩
 K':=g.K'
 SX:=g.SX
end
abbrev Hw:Str->Prop:=fun _=>False
theorem Fw.LF {α:Type}{ex:Str->Prop}{x:Res α}{k:α->Prop}(h:Fw ex (L2.LF x) k):Fw Hw x k:=by
 cases x with
 | ok a=>exact h
 | error e=>exact False.elim h
section
variable {K:Frag}{S:Ω->Prop}{H:Hp}{σ:St}{τ:Ev}{ex:Str->Prop}{cl:Nat->List D->Res D}{G G':Gm}{fr:List Nat}
noncomputable def JE (G':Gm)(fr:List Nat)(τ:Ev):Ev:=fr.map (cp τ)++Τ (G'.N.length - fr.length) Φ
theorem wV (hl:fr.length<=G'.N.length):(JE G' fr τ).length=G'.N.length:=by unfold JE;rw[o_,i_,List.length_replicate];omega
theorem wW (Tg:List Str)(σ:St):(stC (Kl G fr) Tg σ).length=fr.length+Tg.length:=by unfold stC Kl;rw[o_,i_,i_,List.length_replicate]
theorem sI {j:Nat}{d:D}(h:cp (JE G' fr τ) j=Δ d):∃ i,fr[j]? = Δ i/\cp τ i=Δ d:=by
 unfold cp JE at h;by_cases hj:j < fr.length
 ·rw[aan (by simpa using hj),A_,y_ hj] at h;exact⟨fr[j],by simp[hj],h⟩
 ·rw[aaw (by simpa using hj),List.getElem?_replicate] at h;split at h<;>cases h
theorem wX {vs:List Nat}{F8:St}(hl:fr.length<=G'.N.length)(hs:Slots K S H σ τ (fr++vs))(hn:F8.length=G'.N.length)(Hx:∀ j,j < fr.length->F8[j]? = (stC (Kl G fr) (G'.N.drop fr.length) σ)[j]?):NG K S H F8 (JE G' fr τ):=by refine⟨by rw[wV hl,hn],fun j d h=>?_⟩;obtain⟨i,hi,hd⟩:=sI h;have hj:j < fr.length:=(x_.mp hi).1;obtain⟨v,h1,h2⟩:=hs i (r_ _ (aae hi)) d hd;refine⟨v,?_,h2⟩;rw[Hx j hj];unfold stC Kl;rw[aan (by simpa using hj),A_,A_,hi];show Δ ((σ[i]?).join)=Δ (Δ v);rw[h1];rfl
noncomputable def cL (cl:Nat->List D->Res D)(T:Tg)(I:List IR)(E:IR)(YU:Ev)(x:D):Res (Option D):=Fu (dR T x YU) fun Lc=>Fu (fJ cl I Lc) fun r=>if r=Θ then Fu (Fz cl E Lc) fun d=>.ok (Δ d) else .ok Φ
theorem fC {vs:List Nat}{fs:Ev->Res (List D)}{T:Tg}{I:List IR}{E:IR}{Kt:D->Prop}{Q:VK}(hl:fr.length<=G'.N.length)(ha:∀ i∈HU T,fr.length<=i)(hs:Slots K S H σ τ (fr++vs))
  (q:Fw ex (Fu (fs τ) fun its=>FE (dP its.length) (Fu (LF (cD (cL cl T I E (JE G' fr τ)) its)) fun ds=>.ok (.lst Θ ds))) Kt)
  (fin:∀ A ys ds H',cz H H'->H A=Φ->H' A=Δ (.lst ys)->Fv K (fun a=>nw S H a/\a≠A) H' ys ds->Kt (.lst Θ ds)->Q (.ref A) H') :
  rz (RI K ex vs fs) (stC (Kl G fr) (G'.N.drop fr.length)) (gT K T) (RT K Hw (cE I) (fJ cl I)) (RD K Hw (vars E) (Fz cl E)) σ H Q:=by
 refine A0 (.refl _) hs.right (Fw.Fu q) fun its J H1 e1 _ w1 q1 A hA=>?_;obtain⟨gd,q1⟩:=Fw.FE q1;have q2:=Fw.LF (Fw.Fu q1);have hsz:=gD gd;have S4:H A=Φ:=e1.free hA
 -- Rp is read S5 apart from Mz new list
 have Jg:∀ a,nw S H a->H1 a≠Φ->nw S H a/\a≠A:=fun a h1 h2=>⟨h1,fun z=>h2 (by rw[z];exact hA)⟩
 have w2:HN K (fun a=>nw S H a/\a≠A) H1 J its:=w1.step (fun a xs h r=>⟨Jg a h r.some,r⟩) fun a xs h=>h;have IY:Slots K (fun a=>nw S H a/\a≠A) H1 σ τ (fr++vs):=fun i hi d z=>by obtain⟨v,h1,h2⟩:=(hs.go e1) i hi d z;exact⟨v,h1,h2.step (fun a xs h r=>⟨Jg a h r.some,r⟩) fun a xs h=>h⟩
 refine⟨fun i m F8 H'=>m=its.length - i/\i<=its.length/\∃ ys acc,H' A=Δ (.lst ys)/\Fv K (fun a=>nw S H a/\a≠A) H' ys acc/\ys.length<=i/\cz H1 H'/\F8.length=G'.N.length/\
   (∀ j,j < fr.length->F8[j]? = (stC (Kl G fr) (G'.N.drop fr.length) σ)[j]?)/\Fw Hw (cD (cL cl T I E (JE G' fr τ)) (its.drop i)) fun ds=>Kt (.lst Θ (acc++ds)),⟨its.length,by simp,aab _,[],[],cv,.nil,m_ _,.upd hA,?_,fun _ _=>rfl,?_⟩,?_⟩
 ·rw[wW,aaa];omega
 ·rw[List.drop_zero];exact q2.mono fun ds z=>z.ok
 ·rintro i m F8 H' ⟨rfl,hi,ys,acc,hy,my,ly,e2,hn,Hx,q3⟩;by_cases Gr:i < its.length
  ·refine .inr ⟨(w2.mono (fun _ z=>z) e2).go Gr,fun x H2 S6=>?_⟩;obtain⟨eH,mx⟩:=(w2.mono (fun _ z=>z) e2).K7 S6 (d:=its[i]) (by simp[Gr]);have hy:=eH _ _ hy;have my:=my.mono (fun _ z=>z) eH;have e2:=e2.trans eH;have hd:its.drop i=its[i]::its.drop (i+1):=List.drop_eq_getElem_cons Gr;rw[hd] at q3;have q4:=Fw.Fu q3;have q5:Fw Hw (dR T its[i] (JE G' fr τ)) _:=Fw.Fu q4
   have sl:NG K (fun a=>nw S H a/\a≠A) H2 F8 (JE G' fr τ):=wX (G:=G) (vs:=vs) (σ:=σ) hl (fun i hi d z=>by
    obtain⟨v,h1,h2⟩:=IY i hi d z
    exact⟨v,h1,h2.mono (fun _ z=>z) e2⟩) hn Hx
   refine pk T sl mx q5 fun τ' Ja YV Ir hk q6=>?_;have Qf:Ja.length=G'.N.length:=Ir.trans hn;have OX:∀ j,j < fr.length->Ja[j]? = (stC (Kl G fr) (G'.N.drop fr.length) σ)[j]?:=fun j hj=>by rw[hk j (fun z=>by have:=ha j z;omega)];exact Hx j hj
   have V3:∀ is,Slots K (fun a=>nw S H a/\a≠A) H2 Ja τ' is:=fun is i _ d z=>YV.2 i d z;refine fW (.refl _) (V3 _) (Fw.Fu q6) fun r H4 e4 _ q7=>?_
   induction r using zB with
   | false=>rw[d_ p_] at q7 ⊢;have q8:Fw Hw (cD (cL cl T I E (JE G' fr τ)) (its.drop (i+1))) fun ds=>Kt (.lst Θ (acc++ds)):=q7;refine⟨its.length - (i+1),⋯,rfl,Gr,ys,acc,e4 _ _ hy,my.mono (fun _ z=>z) e4,⋯,e2.trans e4,Qf,OX,q8⟩
   | true=>
    rw[f_ rfl] at q7 ⊢;refine cQ e4 (V3 _) (Fw.Fu q7) fun d v H5 e5 e5' m5 q8=>?_;have q9:Fw Hw (Fu (cD (cL cl T I E (JE G' fr τ)) (its.drop (i+1))) fun r=>.ok (d::r)) fun ds=>Kt (.lst Θ (acc++ds)):=q8;have Nr:=Fw.Fu q9;have V4:H5 A=Δ (.lst ys):=e5 _ _ hy;refine⟨ys,V4,⋯,its.length - (i+1),⋯,rfl,Gr,ys++[v],acc++[d],cv,?_,by rw[o_,W_];omega,?_,Qf,OX,?_⟩
    ·have V5:∀ a (xs:LD),(nw S H a/\a≠A)->Rd H5 a xs.o->(nw S H a/\a≠A)/\Rd (upd H5 A (.lst (ys++[v]))) a xs.o:=fun a xs h r=>by refine⟨h,?_⟩;unfold Rd;rw[cu h.2];exact r
     have V6:∀ a xs,G2 K H5 a xs->G2 K (upd H5 A (.lst (ys++[v]))) a xs:=fun a xs h=>h.upd V4
     have m6:Fx K (fun a=>nw S H a/\a≠A) H5 v d:=m5.step (fun a xs h r=>⟨by
      rcases h with h|h
      ·exact h
      ·have:H a=Φ:=e1.free (e2.free h)
       exact⟨.inr this,fun z=>by rw[z,hy] at h;cases h⟩,r⟩) fun a xs h=>h
     exact(((my.mono (fun _ z=>z) e5).step V5 V6)).append (.cons (m6.step V5 V6) .nil)
    ·exact fun b o hb=>by
      have:b≠A:=by rintro rfl;rw[hA] at hb;cases hb
      rw[cu this];exact e5 _ _ (e2 _ _ hb)
    ·refine Nr.mono fun ds z=>?_;have z':=z.ok;rw[B_];exact z'
  ·have e:i=its.length:=⋯
   subst e;refine .inl ⟨(w2.mono (fun _ z=>z) e2).stop rfl,?_⟩;rw[List.drop_length] at q3;have q4:=q3.ok;rw[aai] at q4;exact fin A ys acc H' (e1.trans e2) S4 hy my q4
end
section
variable {Z:Sg}{CX:Ho}{cl:Nat->List D->Res D}{xp:XK->Hp->Str->Prop}{X:Cx}{ex:Str->Prop}{G G':Gm}{fr:List Nat}
theorem ja {T:Tg}{s:Sr}{I:List IR}{E:IR}:Fz cl (.comp G' fr T s I E)=fun τ=>Fu (eO cl s τ) fun its=>FE (dP its.length) (Fu (LF (cD (cL cl T I E (JE G' fr τ)) its)) fun ds=>.ok (.lst Θ ds)):=rfl
theorem A4 (g:Gx Z CX cl xp X ex G){scope:Scope}{tg iter elt:Expr}{ifs:List Expr}{pos:Pos}{T:Tg}{s:Sr}{I:List IR}{E:IR}(hs:JD Z G scope G' fr)(hT:dH G' T tg=Θ)(ha:∀ i∈HU T,fr.length<=i)
  (hi:PI X tg iter (RI X.K ex (ff s) (eO cl s))) (ht:∀ X',Gx Z CX cl xp X' Hw G'->Lr X' ifs (RT X'.K Hw (cE I) (fJ cl I))) (he:∀ X',Gx Z CX cl xp X' Hw G'->PE X' elt (RD X'.K Hw (vars E) (Fz cl E)))
  (hf:∀ x,foldedSetIterable iter X.env x=pure x):PE X (.ListComp elt [⟨tg,iter,ifs,0⟩] scope pos) (RD X.K ex (fr++ff s) (Fz cl (.comp G' fr T s I E))):=by
 intro pins s' σ H Q Iv h;obtain⟨G8,S⟩:=fQ g Iv.ok hs;have p:=kH (pos:=pos) (elt:=elt) (ifs:=ifs) (tg:=tg) (g:=gT X.K T) (tt:=RT X.K Hw (cE I) (fJ cl I)) (te:=RD X.K Hw (vars E) (Fz cl E)) (g.calm hs.cm) S hi (fun C s H fp=>Mi (dv g hs G8 C s H fp) T tg hT) (fun C s H fp=>ht _ (dv g hs G8 C s H fp)) (fun C s H fp=>he _ (dv g hs G8 C s H fp)) hf;refine p pins s' σ H Q Iv ?_;obtain⟨S0,τ,OY,q⟩:=h;rw[ja] at q;exact fC hs.OV ha OY q fun A ys ds H' e hA Le m k=>k _ _ e (.lst (.inr hA) (.inl Le) (m.mono (fun _ z=>z.1) (.refl _)))
end
section
variable {Z:Sg}{CX:Ho}{cl:Nat->List D->Res D}{xp:XK->Hp->Str->Prop}
theorem qI {e:Expr}{a:IR}{G:Gm}(h:FZ Z G a e=Θ)(env:Env)(x:Ψ):foldedSetIterable e env x=pure x:=by
 induction e using zE<;>first|rfl|(induction a using zI<;>cases h)
theorem dN {e:Expr}{a:Sr}{G:Gm}(h:eI Z G a e=Θ)(env:Env)(x:Ψ):foldedSetIterable e env x=pure x:=by
 cases a with
 | val a=>exact qI (show FZ Z G a e=Θ from h) env x
 | _=>induction e using zE<;>first|rfl|cases h
theorem both {X:Cx}{ex:Str->Prop}{e:Expr}{is:List Nat}{f:Ev->Res D}(h:PE X e (RD X.K ex is f))(he:∀ whole,isTrue e X.env whole=(do let v <- whole;standAt e.pos;holding [v] (truthy v)):=by intro _;rfl) :
  PE X e (RD X.K ex is f)/\PT X e (RT X.K ex is fun τ=>Fu (f τ) cM):=⟨h,CA h he⟩
mutual
theorem snd:∀ (a:IR) (X:Cx) (ex:Str->Prop) (G:Gm) (e:Expr),Gx Z CX cl xp X ex G->FZ Z G a e=Θ->PE X e (RD X.K ex (vars a) (Fz cl a))/\PT X e (RT X.K ex (vars a) fun τ=>Fu (Fz cl a τ) cM)
 | .c d,X,ex,G,e,g,h=>by
  induction e using zE with
  | Constant k j pos=>exact both (YM h)
  | _=>exists h
 | .g n d,X,ex,G,e,g,h=>by
  induction e using zE with
  | Name x pos=>have h':(i4 Z G n x&&Z.Nx.any fun p=>p.1 == n&&qH p.2 d)=Θ:=h;rw[g_] at h';exact both (YN g h'.1 h'.2)
  | _=>exists h
 | .v i,X,ex,G,e,g,h=>by
  induction e using zE with
  | Name x pos=>exact both (YL g h)
  | _=>exists h
 | .bin op a b,X,ex,G,e,g,h=>by
  induction e using zE with
  | BinOp l o r pos=>have h':(o == LH op&&FZ Z G a l&&FZ Z G b r)=Θ:=h;simp only[g_] at h';have e1:o=LH op:=h_ h'.1.1;subst e1;exact both (CB (snd a X ex G l g h'.1.2).1 (snd b X ex G r g h'.2).1)
  | _=>exists h
 | .neg a,X,ex,G,e,g,h=>by
  induction e using zE with
  | UnaryOp o l pos=>
   cases o with
   | USub=>exact both (CC (snd a X ex G l g h).1)
   | _=>exists h
  | _=>exists h
 | .cmp op a b,X,ex,G,e,g,h=>by
  induction e using zE with
  | Compare l os rs pos=>
   match os,rs,h with
   | [o],[r],h=>have h':(o == IJ op&&FZ Z G a l&&FZ Z G b r&&!behindInMarks o r)=Θ:=h;simp only[g_] at h';have e1:o=IJ op:=h_ h'.1.1.1;subst e1;exact CG g (snd a X ex G l g h'.1.1.2).1 (snd b X ex G r g h'.1.2).1 (by simpa using h'.2)
   | [],_,h=>exists h
   | [_],[],h=>exists h
   | [_],_::_::_,h=>exists h
   | _::_::_,_,h=>exists h
  | _=>exists h
 | .chain op GK a b c,X,ex,G,e,g,h=>by
  induction e using zE with
  | Compare l os rs pos=>
   match os,rs,h with
   | [o,o'],[m,r],h=>have h':(o == IJ op&&o' == IJ GK&&FZ Z G a l&&FZ Z G b m&&FZ Z G c r&&!lastMarks [o,o'] [m,r])=Θ:=h;simp only[g_] at h';have e1:o=IJ op:=h_ h'.1.1.1.1.1;have e2:o'=IJ GK:=h_ h'.1.1.1.1.2;subst e1 e2;exact wU g (snd a X ex G l g h'.1.1.1.2).1 (snd b X ex G m g h'.1.1.2).1 (snd c X ex G r g h'.1.2).1 (by simpa using h'.2)
   | [],_,h=>exists h
   | [_],_,h=>exists h
   | [_,_],[],h=>exists h
   | [_,_],[_],h=>exists h
   | [_,_],_::_::_::_,h=>exists h
   | _::_::_::_,_,h=>exists h
  | _=>exists h
 | .GC a b,X,ex,G,e,g,h=>by
  induction e using zE with
  | BoolOp o es pos=>
   match o,es,h with
   | .And,[l,r],h=>have h':(FZ Z G a l&&FZ Z G b r)=Θ:=h;rw[g_] at h';obtain⟨pa,ta⟩:=snd a X ex G l g h'.1;obtain⟨pb,tb⟩:=snd b X ex G r g h'.2;exact⟨ya pa (qT pb),yb ta (vQ tb)⟩
   | .And,l::r::r'::rest,h=>have h':(FZ Z G a l&&FZ Z G b (.BoolOp .And (r::r'::rest) pos))=Θ:=h;rw[g_] at h';obtain⟨pa,ta⟩:=snd a X ex G l g h'.1;obtain⟨pb,tb⟩:=snd b X ex G _ g h'.2;exact⟨ya pa pb,yb ta (sF (e:=l) tb)⟩
   | .And,[],h=>exists h
   | .And,[_],h=>exists h
   | .Or,_,h=>exists h
  | _=>exists h
 | .JT a b,X,ex,G,e,g,h=>by
  induction e using zE with
  | BoolOp o es pos=>
   match o,es,h with
   | .Or,[l,r],h=>have h':(FZ Z G a l&&FZ Z G b r)=Θ:=h;rw[g_] at h';obtain⟨pa,ta⟩:=snd a X ex G l g h'.1;obtain⟨pb,tb⟩:=snd b X ex G r g h'.2;exact⟨CH pa (qT pb),CJ ta (zV tb)⟩
   | .Or,l::r::r'::rest,h=>have h':(FZ Z G a l&&FZ Z G b (.BoolOp .Or (r::r'::rest) pos))=Θ:=h;rw[g_] at h';obtain⟨pa,ta⟩:=snd a X ex G l g h'.1;obtain⟨pb,tb⟩:=snd b X ex G _ g h'.2;exact⟨CH pa pb,CJ ta (sF (e:=l) tb)⟩
   | .Or,[],h=>exists h
   | .Or,[_],h=>exists h
   | .And,_,h=>exists h
  | _=>exists h
 | .GQ a,X,ex,G,e,g,h=>by
  induction e using zE with
  | UnaryOp o l pos=>
   cases o with
   | Not=>obtain⟨pa,ta⟩:=snd a X ex G l g h;exact CI pa ta
   | _=>exists h
  | _=>exists h
 | .ite t a b,X,ex,G,e,g,h=>by
  induction e using zE with
  | IfExp c x y pos=>have h':(FZ Z G t c&&FZ Z G a x&&FZ Z G b y)=Θ:=h;simp only[g_] at h';obtain⟨pa,ta⟩:=snd a X ex G x g h'.1.2;obtain⟨pb,tb⟩:=snd b X ex G y g h'.2;exact CK (snd t X ex G c g h'.1.1).2 pa pb ta tb
  | _=>exists h
 | .tup es,X,ex,G,e,g,h=>by
  induction e using zE with
  | Tuple l n pos=>exact both (CL (mQ es X ex G l g h))
  | _=>exists h
 | .lst es,X,ex,G,e,g,h=>by
  induction e using zE with
  | List l pos=>exact both (CM (mQ es X ex G l g h))
  | _=>exists h
 | .idx a i,X,ex,G,e,g,h=>by
  induction e using zE with
  | Subscript o s pos=>
   have h':(dU s&&FZ Z G a o&&FZ Z G i s)=Θ:=by cases s<;>first|exact h|(rename_i l u st p;cases st<;>exact h)
   simp only[g_] at h';exact both (CN (snd a X ex G o g h'.1.2).1 (snd i X ex G s g h'.2).1 h'.1.1)
  | _=>exists h
 | .sl a lo hi,X,ex,G,e,g,h=>by
  induction e using zE with
  | Subscript o s pos=>
   match s,h with
   | .Slice l u Φ p,h=>have h':(FZ Z G a o&&oj Z G lo l&&oj Z G hi u)=Θ:=h;simp only[g_] at h';exact both (Fe (snd a X ex G o g h'.1.1).1 (wY lo X ex G l g h'.1.2) (wY hi X ex G u g h'.2))
   | .Slice _ _ (Δ _) _,h=>exists h
   | .BoolOp ..,h=>exists h
   | .NamedExpr ..,h=>exists h
   | .BinOp ..,h=>exists h
   | .UnaryOp ..,h=>exists h
   | .Lambda ..,h=>exists h
   | .IfExp ..,h=>exists h
   | .Dict ..,h=>exists h
   | .Set ..,h=>exists h
   | .ListComp ..,h=>exists h
   | .SetComp ..,h=>exists h
   | .DictComp ..,h=>exists h
   | .GeneratorExp ..,h=>exists h
   | .Await ..,h=>exists h
   | .Yield ..,h=>exists h
   | .YieldFrom ..,h=>exists h
   | .Compare ..,h=>exists h
   | .Call ..,h=>exists h
   | .FormattedValue ..,h=>exists h
   | .JoinedStr ..,h=>exists h
   | .Constant ..,h=>exists h
   | .Attribute ..,h=>exists h
   | .Subscript ..,h=>exists h
   | .Starred ..,h=>exists h
   | .Name ..,h=>exists h
   | .List ..,h=>exists h
   | .Tuple ..,h=>exists h
  | _=>exists h
 | .call f es,X,ex,G,e,g,h=>by
  induction e using zE with
  | Call fn args HP pos=>
   induction fn using zE with
   | Name x p=>
    induction HP using zL with
    | nil=>have h':(i4 Z G f x&&Z.Me G f&&dj Z G es args)=Θ:=h;simp only[g_] at h';exact both (s_call g h'.1.1 h'.1.2 h'.2 (mQ es X ex G args g h'.2))
    | cons _ _=>exists h
   | _=>exists h
  | _=>exists h
 | .bi f es,X,ex,G,e,g,h=>by
  induction e using zE with
  | Call fn args HP pos=>
   induction fn using zE with
   | Name x p=>
    induction HP using zL with
    | nil=>
     induction args using zL with
     | nil=>exists h
     | cons a args=>have h':(x == fH f&&G.Jp (jU f)&&dj Z G es (a::args))=Θ:=h;simp only[g_] at h';have e1:x=fH f:=h_ h'.1.1;subst e1;exact both (Ff g h'.1.2 h'.2 (mQ es X ex G _ g h'.2))
    | cons _ _=>cases args<;>exists h
   | _=>exists h
  | _=>exists h
 | .HK a,X,ex,G,e,g,h=>by
  have h:ON e (fun x y e=>x == "list"&&G.Jp 5&&y == "reversed"&&G.gl.contains 18&&notStar e&&FZ Z G a e)=Θ:=by induction e using zE<;>exact h
  obtain⟨x,p,y,p',e',pos',pos,rfl,h⟩:=sC h;have h:(x == "list"&&G.Jp 5&&y == "reversed"&&G.gl.contains 18&&notStar e'&&FZ Z G a e')=Θ:=h;simp only[g_] at h;have e1:x = "list":=h_ h.1.1.1.1.1;have e2:y = "reversed":=h_ h.1.1.1.2;subst e1 e2;exact both (AX g h.1.1.1.1.2 h.1.1.2 h.1.2 (snd a X ex G e' g h.2).1)
 | .HL a b,X,ex,G,e,g,h=>by
  have h:SN e (fun x y e e'=>x == "list"&&G.Jp 5&&y == "zip"&&G.gl.contains 17&&(notStar e&&notStar e')&&FZ Z G a e&&FZ Z G b e')=Θ:=by induction e using zE<;>exact h
  obtain⟨x,p,y,p',ea,eb,pos',pos,rfl,h'⟩:=AV h;simp only[g_] at h';obtain⟨⟨⟨⟨⟨⟨hx,h5⟩,hy⟩,YW⟩,hn,Ir⟩,ha⟩,hb⟩:=h';have e1:x = "list":=h_ hx;have e2:y = "zip":=h_ hy;subst e1 e2;exact both (AY g h5 YW hn Ir (snd a X ex G ea g ha).1 (snd b X ex G eb g hb).1)
 | .sset a,X,ex,G,e,g,h=>by
  have h:ON e (fun x y e=>x == "sorted"&&G.gl.contains 4&&y == "set"&&G.gl.contains 12&&(notStar e&&G.cm)&&FZ Z G a e)=Θ:=by induction e using zE<;>exact h
  obtain⟨x,p,y,p',e',q',q,rfl,h⟩:=sC h;have h:(x == "sorted"&&G.gl.contains 4&&y == "set"&&G.gl.contains 12&&(notStar e'&&G.cm)&&FZ Z G a e')=Θ:=h;simp only[g_] at h;have e1:x = "sorted":=h_ h.1.1.1.1.1;have e2:y = "set":=h_ h.1.1.1.2;subst e1 e2;exact both (AW g h.1.1.1.1.2 h.1.1.2 h.1.2.1 h.1.2.2 (snd a X ex G e' g h.2).1)
 | .Ic a k,X,ex,G,e,g,h=>by
  induction e using zE with
  | Call fn args HP pos=>
   induction fn using zE with
   | Name x p=>
    match args,HP,h with
    | [o,.Name y p'],[],h=>have h':(x == "isinstance"&&G.gl.contains 14&&y == gc k&&G.gl.contains (o7 k)&&notStar o&&FZ Z G a o)=Θ:=h;simp only[g_] at h';have e1:x = "isinstance":=h_ h'.1.1.1.1.1;have e2:y=gc k:=h_ h'.1.1.1.2;subst e1 e2;exact both (CO g h'.1.1.1.1.2 h'.1.1.2 h'.1.2 (snd a X ex G o g h'.2).1)
    | [],_,h=>exists h
    | [_],_,h=>exists h
    | _::b::_::_,k,h=>cases b<;>cases k<;>exists h
    | [_,.Name _ _],_::_,h=>exists h
    | [_,.BoolOp ..],_,h=>exists h
    | [_,.NamedExpr ..],_,h=>exists h
    | [_,.BinOp ..],_,h=>exists h
    | [_,.UnaryOp ..],_,h=>exists h
    | [_,.Lambda ..],_,h=>exists h
    | [_,.IfExp ..],_,h=>exists h
    | [_,.Dict ..],_,h=>exists h
    | [_,.Set ..],_,h=>exists h
    | [_,.ListComp ..],_,h=>exists h
    | [_,.SetComp ..],_,h=>exists h
    | [_,.DictComp ..],_,h=>exists h
    | [_,.GeneratorExp ..],_,h=>exists h
    | [_,.Await ..],_,h=>exists h
    | [_,.Yield ..],_,h=>exists h
    | [_,.YieldFrom ..],_,h=>exists h
    | [_,.Compare ..],_,h=>exists h
    | [_,.Call ..],_,h=>exists h
    | [_,.FormattedValue ..],_,h=>exists h
    | [_,.JoinedStr ..],_,h=>exists h
    | [_,.Constant ..],_,h=>exists h
    | [_,.Attribute ..],_,h=>exists h
    | [_,.Subscript ..],_,h=>exists h
    | [_,.Starred ..],_,h=>exists h
    | [_,.Slice ..],_,h=>exists h
    | [_,.List ..],_,h=>exists h
    | [_,.Tuple ..],_,h=>exists h
   | _=>exists h
  | _=>exists h
 | .Kf m o es,X,ex,G,e,g,h=>by
  induction e using zE with
  | Call fn args HP pos=>
   induction fn using zE with
   | Attribute oe name apos=>
    match args,HP,h with
    | a::args,[],h=>have h':(name == iW m&&i3 oe&&apos.endLine == pos.line&&(decide ((a::args).length < 29)&&(G.cm||og m))&&FZ Z G o oe&&dj Z G es (a::args))=Θ:=h;simp only[g_] at h';have e1:name=iW m:=h_ h'.1.1.1.1.1;subst e1;exact both (CP g h'.1.1.1.1.2 h'.1.1.1.2 (q_ h'.1.1.2.1) h'.1.1.2.2 h'.2 (snd o X ex G oe g h'.1.2).1 (mQ es X ex G _ g h'.2))
    | [],_,h=>exists h
    | _::_,_::_,h=>exists h
   | _=>exists h
  | _=>exists h
 | .comp G' fr tg src ifs elt,X,ex,G,e,g,h=>by
  induction e using zE with
  | ListComp el gens scope pos=>
   have h:oh gens (fun t it fs=>dy Z G scope G' fr&&dH G' tg t&&(HU tg).all (fun i=>decide (fr.length<=i))&&(eI Z G src it&&g6 src t)&&dj Z G' ifs fs&&FZ Z G' elt el)=Θ:=h;obtain⟨t,it,fs,rfl,h⟩:=iw h;have h':(dy Z G scope G' fr&&dH G' tg t&&(HU tg).all (fun i=>decide (fr.length<=i))&&(eI Z G src it&&g6 src t)&&dj Z G' ifs fs&&FZ Z G' elt el)=Θ:=h;simp only[g_] at h'
   exact both (A4 g (ix h'.1.1.1.1.1) h'.1.1.1.1.2 (fun i hi=>q_ (V_.mp h'.1.1.1.2 i hi)) (sL src X ex G it t g h'.1.1.2.1 h'.1.1.2.2)
    (fun X' g'=>sJ ifs X' Hw G' fs g' h'.1.2) (fun X' g'=>(snd elt X' Hw G' el g' h'.2).1) (fun x=>dN h'.1.1.2.1 X.env x))
  | _=>exists h
theorem mQ:∀ (as:List IR) (X:Cx) (ex:Str->Prop) (G:Gm) (l:List Expr),Gx Z CX cl xp X ex G->dj Z G as l=Θ->PA X l (RA X.K ex (cE as) (dt cl as))
 | [],X,ex,G,l,g,h=>by
  induction l using zL with
  | nil=>exact kE dw fun σ H Q ⟨S,τ,hs,q⟩=>q.ok _ _ (.refl _) .nil
  | cons _ _=>exists h
 | a::as,X,ex,G,l,g,h=>by
  induction l using zL with
  | nil=>exists h
  | cons e l=>have h':(notStar e&&FZ Z G a e&&dj Z G as l)=Θ:=h;simp only[g_] at h';refine kE (cS (snd a X ex G e g h'.1.2).1 (mQ as X ex G l g h'.2) (bU h'.1.1 _ _)) fun σ H Q ⟨S,τ,hs,q⟩=>?_;refine cQ (.refl _) hs.left (Fw.Fu q) fun x v H1 e1 _ m1 q1=>?_;refine mM e1 hs.right (Fw.Fu q1) fun ds vs H2 e2 Hd m2 q2=>?_;exact q2.ok _ _ e2 (.cons (m1.later Hd) m2)
theorem wY:∀ (o:Option IR) (X:Cx) (ex:Str->Prop) (G:Gm) (e:Option Expr),Gx Z CX cl xp X ex G->oj Z G o e=Θ->PO X e (ND X.K ex (rZ o) (kN cl o))
 | none,X,ex,G,e,g,h=>by
  induction e using zO with
  | none=>intro pins s σ H Q I ⟨S,τ,hs,q⟩;exact vX pins s σ H Q I (q.ok H (.refl _))
  | some _=>exists h
 | some a,X,ex,G,e,g,h=>by
  induction e using zO with
  | none=>exists h
  | some e=>
   intro pins s σ H Q I ⟨S,τ,hs,q⟩;refine vY (snd a X ex G e g h).1 pins s σ H Q I ?_;refine cQ (.refl _) hs (Fw.Fu q) fun x v H1 e1 _ m1 q1=>?_
   induction x using zD with
   | int i=>cases m1.Ga;exact⟨i,rfl,q1.ok _ e1⟩
   | _=>exact q1.no.elim
theorem sJ:∀ (as:List IR) (X:Cx) (ex:Str->Prop) (G:Gm) (l:List Expr),Gx Z CX cl xp X ex G->dj Z G as l=Θ->Lr X l (RT X.K ex (cE as) (fJ cl as))
 | [],X,ex,G,l,g,h=>by
  induction l using zL with
  | nil=>intro pins s σ H Q I ⟨S,τ,hs,q⟩;exact v9 pins s σ H Q I (q.ok H (.refl _))
  | cons _ _=>exists h
 | a::as,X,ex,G,l,g,h=>by
  induction l using zL with
  | nil=>exists h
  | cons e l=>
   have h':(notStar e&&FZ Z G a e&&dj Z G as l)=Θ:=h;simp only[g_] at h';intro pins s σ H Q I ⟨S,τ,hs,q⟩;refine rq (snd a X ex G e g h'.1.2).2 (sJ as X ex G l g h'.2) pins s σ H Q I ?_;refine fW (.refl _) hs.left (Fw.Fu q) fun r H2 e2 _ k=>?_
   induction r using zB with
   | true=>rw[f_ rfl] at k ⊢;exact fW e2 hs.right k fun b H3 e3 _ z=>z H3 e3
   | false=>rw[d_ p_] at k ⊢;exact k.ok H2 e2
theorem sL:∀ (s:Sr) (X:Cx) (ex:Str->Prop) (G:Gm) (e tg:Expr),Gx Z CX cl xp X ex G->eI Z G s e=Θ->g6 s tg=Θ->PI X tg e (RI X.K ex (ff s) (eO cl s))
 | .Gj n,X,ex,G,e,tg,g,h,ht=>by
  induction e using zE with
  | Call fn args HP pos=>
   induction fn using zE with
   | Name x p=>
    match args,HP,h with
    | [a],[],h=>have h':(x == "range"&&G.gl.contains 15&&notStar a&&FZ Z G n a)=Θ:=h;simp only[g_] at h';have e1:x = "range":=h_ h'.1.1.1;subst e1;exact A1 g h'.1.1.2 h'.1.2 (snd n X ex G a g h'.2).1
    | [],_,h=>exists h
    | [_],_::_,h=>exists h
    | _::_::_,_,h=>exists h
   | _=>exists h
  | _=>exists h
 | .val a,X,ex,G,e,tg,g,h,ht=>CW (snd a X ex G e g h).1
 | .IA a,X,ex,G,e,tg,g,h,ht=>by
  induction tg using zE with
  | Tuple YX tc tp=>
   induction e using zE with
   | Call fn args HP pos=>
    induction fn using zE with
    | Name x p=>
     match args,HP,h with
     | [l],[],h=>have h':(x == "enumerate"&&G.gl.contains 20&&notStar l&&FZ Z G a l)=Θ:=h;simp only[g_] at h';have e1:x = "enumerate":=h_ h'.1.1.1;subst e1;exact C0 g h'.1.1.2 h'.1.2 (snd a X ex G l g h'.2).1
     | [],_,h=>exists h
     | [_],_::_,h=>exists h
     | _::_::_,_,h=>exists h
    | _=>exists h
   | _=>exists h
  | _=>exact bT ht
 | .zip a b,X,ex,G,e,tg,g,h,ht=>by
  induction tg using zE with
  | Tuple YX tc tp=>
   induction e using zE with
   | Call fn args HP pos=>
    induction fn using zE with
    | Name x p=>
     match args,HP,h with
     | [l,r],[],h=>have h':(x == "zip"&&G.gl.contains 17&&notStar l&&notStar r&&FZ Z G a l&&FZ Z G b r)=Θ:=h;simp only[g_] at h';have e1:x = "zip":=h_ h'.1.1.1.1.1;subst e1;exact CZ g h'.1.1.1.1.2 h'.1.1.1.2 h'.1.1.2 (snd a X ex G l g h'.1.2).1 (snd b X ex G r g h'.2).1
     | [],_,h=>exists h
     | [_],_,h=>exists h
     | [_,_],_::_,h=>exists h
     | _::_::_::_,_,h=>exists h
    | _=>exists h
   | _=>exists h
  | _=>exact bT ht
end
end
inductive Gk (K:Frag)(F:Ω->Prop)(H:Hp):St->Ev->List Ω->Prop where
 | nil:Gk K F H [] [] []
 | none {o:Option V}{σ:St}{τ:Ev}{f:List Ω}:Gk K F H σ τ f->Gk K F H (o::σ) (.none::τ) f
 | some {v:V}{d:D}{f:List Ω}{σ:St}{τ:Ev}{g:List Ω}:F6 K F H v d f->Gk K F H σ τ g->Gk K F H (.some v::σ) (.some d::τ) (f++g)
section
variable {K:Frag}{F F':Ω->Prop}{H H':Hp}{σ:St}{τ:Ev}{f:List Ω}
theorem Gk.len:∀ {σ:St}{τ:Ev}{f:List Ω},Gk K F H σ τ f->σ.length=τ.length
 | _,_,_,.nil=>rfl
 | _,_,_,.none h=>by rw[List.length_cons,List.length_cons,Gk.len h]
 | _,_,_,.some _ h=>by rw[List.length_cons,List.length_cons,Gk.len h]
theorem Gk.step (hl:∀ a (u:LD),F a->Rd H a u.o->F' a/\Rd H' a u.o)(ht:∀ a xs,G2 K H a xs->G2 K H' a xs):∀ {σ:St}{τ:Ev}{f:List Ω},(∀ a∈f,¬ F a->H a≠Option.none->¬ F' a/\H' a=H a)->Gk K F H σ τ f->Gk K F' H' σ τ f
 | _,_,_,_,.nil=>.nil
 | _,_,_,k,.none h=>.none (Gk.step hl ht k h)
 | _,_,_,k,.some m h=>.some (m.step hl ht fun a ha=>k a (r_ _ ha)) (Gk.step hl ht (fun a ha=>k a (s_ _ ha)) h)
theorem Gk.own:∀ {σ:St}{τ:Ev}{f:List Ω},Gk K F H σ τ f->∀ a∈f,¬ F a/\∃ u,H a=.some u
 | _,_,_,.nil=>fun _ h=>absurd h (by simp)
 | _,_,_,.none h=>Gk.own h
 | _,_,_,.some m h=>fun a ha=>by
  rcases v_.mp ha with ha|ha
  ·exact m.own a ha
  ·exact Gk.own h a ha
theorem eJ {o:Option D}{τ:Ev}{i:Nat}:cp (o::τ) (i+1)=cp τ i:=by unfold cp;simp
theorem fI {o:Option D}{τ:Ev}:cp (o::τ) 0=o:=by unfold cp;simp
theorem Gk.at:∀ {σ:St}{τ:Ev}{f:List Ω}{i:Nat}{d:D},Gk K F H σ τ f->cp τ i=.some d->∃ v fv g,σ[i]? = .some (.some v)/\F6 K F H v d fv/\Gk K F H σ (τ.set i .none) g/\f.Perm (fv++g)
 | _,_,_,i,d,.nil,h=>by simp[cp] at h
 | _,_,_,0,d,.none _,h=>by rw[fI] at h;cases h
 | _,_,_,0,d,.some m h',h=>by rw[fI] at h;cases h;exact⟨_,_,_,rfl,m,.none h',.refl _⟩
 | _,_,_,i+1,d,.none h',h=>by rw[eJ] at h;obtain⟨v,fv,g,h1,h2,h3,h4⟩:=Gk.at h' h;exact⟨v,fv,g,by simpa using h1,h2,.none h3,h4⟩
 | _,_,_,i+1,d,.some (f:=f0) m h',h=>by rw[eJ] at h;obtain⟨v,fv,g,h1,h2,h3,h4⟩:=Gk.at h' h;refine⟨v,fv,f0++g,by simpa using h1,h2,.some m h3,?_⟩;refine(aal f0 h4).trans ?_;rw[<- B_,<- B_];exact List.Perm.append_right g aag
theorem Gk.put:∀ {σ:St}{τ:Ev}{f:List Ω} (i:Nat) {v:V}{d:D}{fv:List Ω},Gk K F H σ τ f->F6 K F H v d fv->∃ g h,Gk K F H (σ.set i (.some v)) (τ.set i (.some d)) g/\(g++h).Perm (fv++f)
 | _,_,_,i,v,d,fv,.nil,m=>⟨[],_,.nil,.refl _⟩
 | _,_,_,0,v,d,fv,.none h,m=>⟨_,[],.some m h,by rw[aai]⟩
 | _,_,_,0,v,d,fv,.some (f:=f0) (g:=g0) m' h,m=>⟨_,f0,.some m h,by rw[B_];exact aal _ aag⟩
 | _,_,_,i+1,v,d,fv,.none h,m=>by obtain⟨g,h',h1,h2⟩:=Gk.put i h m;exact⟨g,h',.none h1,h2⟩
 | _,_,_,i+1,v,d,fv,.some (f:=f0) (g:=g0) m' h,m=>by obtain⟨g,h',h1,h2⟩:=Gk.put i h m;refine⟨f0++g,h',.some m' h1,?_⟩;rw[B_];refine(aal f0 h2).trans ?_;rw[<- B_,<- B_];exact List.Perm.append_right g0 aag
theorem Gk.slots {S:Ω->Prop}{is:List Nat}(h:Gk K F H σ τ f)(hF:∀ a,F a->S a)(hf:∀ a∈f,S a):Slots K S H σ τ is:=fun i hi d z=>by obtain⟨v,fv,g,h1,h2,h3,h4⟩:=h.at z;exact⟨v,h1,h2.read hF fun a ha=>hf a (h4.mem_iff.mpr (r_ _ ha))⟩
theorem Gk.freeze (is:List Nat):∀ {σ:St}{τ:Ev}{f:List Ω} (k:Nat),Gk K F H σ τ f->∃ fi g,f.Perm (fi++g)/\(∀ F':Ω->Prop,(∀ a,F a->F' a)->(∀ a∈fi,F' a)->(∀ a∈g,¬ F a->¬ F' a)->Gk K F' H σ (jC is k τ) g)/\
  ∀ F':Ω->Prop,(∀ a,F a->F' a)->(∀ a∈fi,F' a)->∀ i,is.contains (k+i)=Θ->∀ d,cp τ i=.some d->∃ v,σ[i]? = .some (.some v)/\Fx K F' H v d
 | _,_,_,k,.nil=>⟨[],[],.refl _,fun _ _ _ _=>.nil,fun _ _ _ i _ d z=>by simp[cp] at z⟩
 | _,_,_,k,.none h=>by
  obtain⟨fi,g,h1,h2,h3⟩:=Gk.freeze is (k+1) h;refine⟨fi,g,h1,fun F' a b c=>?_,fun F' a b i hi d z=>?_⟩
  ·unfold jC;have e:(if is.contains k=Θ then Option.map er (Option.none:Option D) else Option.none)=Option.none:=by split<;>rfl
   rw[e];exact .none (h2 F' a b c)
  ·cases i with
   | zero=>rw[fI] at z;cases z
   | succ i=>rw[eJ] at z;obtain⟨v,q1,q2⟩:=h3 F' a b i (by rw[show k+1+i=k+(i+1) by omega];exact hi) d z;exact⟨v,by simpa using q1,q2⟩
 | _,_,_,k,.some (v:=v) (d:=d0) (f:=f0) (g:=g0) m h=>by
  obtain⟨fi,g,h1,h2,h3⟩:=Gk.freeze is (k+1) h;by_cases hc:is.contains k=Θ
  ·refine⟨f0++fi,g,by rw[B_];exact aal _ h1,fun F' a b c=>?_,fun F' a b i hi d z=>?_⟩
   ·unfold jC;rw[f_ hc];exact .some (f:=[]) ((m.read a fun x hx=>b x (r_ _ hx)).frozen) (h2 F' a (fun x hx=>b x (s_ _ hx)) c)
   ·cases i with
    | zero=>rw[fI] at z;cases z;exact⟨v,rfl,m.read a fun x hx=>b x (r_ _ hx)⟩
    | succ i=>rw[eJ] at z;obtain⟨v,q1,q2⟩:=h3 F' a (fun x hx=>b x (s_ _ hx)) i (by rw[show k+1+i=k+(i+1) by omega];exact hi) d z;exact⟨v,by simpa using q1,q2⟩
  ·refine⟨fi,f0++g,?_,fun F' a b c=>?_,fun F' a b i hi d z=>?_⟩
   ·refine(aal f0 h1).trans ?_;rw[<- B_,<- B_];exact List.Perm.append_right g aag
   ·unfold jC;rw[d_ hc];exact .some (m.step (fun x xs q r=>⟨a x q,r⟩) (fun x xs q=>q) fun x hx n _=>⟨c x (r_ _ hx) n,rfl⟩) (h2 F' a b fun x hx=>c x (s_ _ hx))
   ·cases i with
    | zero=>exact absurd hi hc
    | succ i=>rw[eJ] at z;obtain⟨v,q1,q2⟩:=h3 F' a b i (by rw[show k+1+i=k+(i+1) by omega];exact hi) d z;exact⟨v,by simpa using q1,q2⟩
end
structure JF (F:Ω->Prop)(H:Hp)(f:List Ω)(F':Ω->Prop)(H':Hp):Prop where
 same:cz H H'
 Iq:∀ a,F a->F' a
 out:∀ a,F' a->F a∨a∈f∨H a=Φ
structure Ow (K:Frag)(F:Ω->Prop)(H:Hp)(f:List Ω)(F':Ω->Prop)(H':Hp)(σ:St)(v:V)(d:D)(fv:List Ω)(τ':Ev)(f':List Ω):Prop where
 IC:JF F H f F' H'
 Gg:IB F' H'
 rep:F6 K F' H' v d fv
 GL:Gk K F' H' σ τ' f'
 GJ:(fv++f').Nodup
 mem:∀ a∈fv++f',a∈f∨H a=Φ
structure YY (K:Frag)(F:Ω->Prop)(H:Hp)(f:List Ω)(F':Ω->Prop)(H':Hp)(σ:St)(v:List V)(d:List D)(fv:List Ω)(τ':Ev)(f':List Ω):Prop where
 IC:JF F H f F' H'
 Gg:IB F' H'
 rep:Fy K F' H' v d fv
 GL:Gk K F' H' σ τ' f'
 GJ:(fv++f').Nodup
 mem:∀ a∈fv++f',a∈f∨H a=Φ
section
variable {K:Frag}{F F' Qs:Ω->Prop}{H H' Qt:Hp}{f f':List Ω}
theorem JF.refl:JF F H f F H:=⟨.refl _,fun _ h=>h,fun _ h=>.inl h⟩
theorem JF.trans (a:JF F H f F' H')(b:JF F' H' f' Qs Qt)(hf:∀ x∈f',x∈f∨H x=Φ):JF F H f Qs Qt:=⟨a.same.trans b.same,fun x h=>b.Iq x (a.Iq x h),fun x h=>by
 rcases b.out x h with h|h|h
 ·exact a.out x h
 ·rcases hf x h with h|h
  ·exact .inr (.inl h)
  ·exact .inr (.inr h)
 ·exact .inr (.inr (a.same.free h))⟩
theorem F6.IC {v:V}{d:D}{fv:List Ω}(m:F6 K F H v d fv)(s:JF F H f F' H')(h:∀ a∈fv,a∉f):F6 K F' H' v d fv:=
 m.step (fun a xs q r=>⟨s.Iq a q,s.same.rd r⟩) (fun a xs q=>s.same.Io q) fun a ha n hn=>by
  obtain⟨_,xs,e⟩:=m.own a ha;refine⟨fun z=>?_,(s.same _ _ e).trans e.symm⟩;rcases s.out a z with z|z|z
  ·exact n z
  ·exact h a ha z
  ·exact hn z
theorem Fy.IC {v:List V}{d:List D}{fv:List Ω}(m:Fy K F H v d fv)(s:JF F H f F' H')(h:∀ a∈fv,a∉f):Fy K F' H' v d fv:=
 m.step (fun a xs q r=>⟨s.Iq a q,s.same.rd r⟩) (fun a xs q=>s.same.Io q) fun a ha n hn=>by
  obtain⟨_,xs,e⟩:=m.own a ha;refine⟨fun z=>?_,(s.same _ _ e).trans e.symm⟩;rcases s.out a z with z|z|z
  ·exact n z
  ·exact h a ha z
  ·exact hn z
end
def RO (K:Frag)(ex:Str->Prop)(g:Ev->Res (D×Ev)):TE:=fun σ H Q=>∃ F τ f,IB F H/\Gk K F H σ τ f/\f.Nodup/\Fw ex (g τ) fun p=>∀ v H' F' fv f',Ow K F H f F' H' σ v p.1 fv p.2 f'->Q v H'
def NH (K:Frag)(ex:Str->Prop)(g:Ev->Res (List D×Ev)):TA:=fun σ H Q=>∃ F τ f,IB F H/\Gk K F H σ τ f/\f.Nodup/\Fw ex (g τ) fun p=>∀ v H' F' fv f',YY K F H f F' H' σ v p.1 fv p.2 f'->Q v H'
abbrev Kn (K:Frag)(S:Ω->Prop)(H:Hp)(Q:VK):List D->Prop:=fun ds=>∀ p ys H',cz H H'->H p=Φ->H' p=Δ (.lst ys)->Fv K (fun a=>nw S H a/\a≠p) H' ys ds->Q (.ref p) H'
def RN (K:Frag)(ex:Str->Prop)(is:List Nat)(f:Ev->Res (List D)):TE:=fun σ H Q=>∃ S τ,Slots K S H σ τ is/\Fw ex (f τ) (Kn K S H Q)
noncomputable def f9:D->Res (List D)
 | .lst _ ds=>.ok ds
 | _=>F5
section
variable {K:Frag}{F F':Ω->Prop}{H H':Hp}{σ:St}{τ:Ev}{f:List Ω}{ex:Str->Prop}{S:Ω->Prop}
theorem qJ {vs ws:List V}{ds:List D}{p:Ω}{H2:Hp}(m:Fv K (nw S H) H2 vs ds)(hp:H2 p=Φ):Fv K (fun a=>nw S H a/\a≠p) (upd H2 p (.lst ws)) vs ds:=
 m.step (fun a xs h r=>by
  have Hq:a≠p:=fun z=>r.some (by rw[z];exact hp);refine⟨⟨h,Hq⟩,?_⟩;unfold Rd;rw[cu Hq]
  exact r) fun a xs h=>(cz.upd hp).Io h
theorem grow (P:Ω->Prop)(Gg:IB F H)(r:Gk K F H σ τ f)(e:cz H H') :
  IB (fun a=>F a∨(P a/\H a=Φ/\H' a≠Φ)) H'/\Gk K (fun a=>F a∨(P a/\H a=Φ/\H' a≠Φ)) H' σ τ f/\JF F H f (fun a=>F a∨(P a/\H a=Φ/\H' a≠Φ)) H':=by
 refine⟨fun a h=>?_,r.step (fun a xs q rd=>⟨.inl q,e.rd rd⟩) (fun a xs q=>e.Io q) fun a ha n hn=>⟨fun z=>?_,?_⟩,⟨e,fun a h=>.inl h,fun a h=>?_⟩⟩
 ·rcases h with h|h
  ·intro z;exact Gg a h (e.free z)
  ·exact h.2.2
 ·rcases z with z|z
  ·exact n z
  ·exact hn z.2.1
 ·obtain⟨_,xs,q⟩:=r.own a ha;exact(e _ _ q).trans q.symm
 ·rcases h with h|h
  ·exact .inl h
  ·exact .inr (.inr h.2.1)
theorem gI (Gg:IB F H)(r:Gk K F H σ τ f)(e:cz H H'):IB F H'/\Gk K F H' σ τ f/\JF F H f F H':=by refine⟨fun a h z=>Gg a h (e.free z),r.step (fun a xs q rd=>⟨q,e.rd rd⟩) (fun a xs q=>e.Io q) fun a ha n hn=>⟨n,?_⟩,⟨e,fun a h=>h,fun a h=>.inl h⟩⟩;obtain⟨_,xs,q⟩:=r.own a ha;exact(e _ _ q).trans q.symm
theorem gJ (is:List Nat)(Gg:IB F H)(r:Gk K F H σ τ f)(nd:f.Nodup):∃ F1 g,IB F1 H/\Gk K F1 H σ (Gh is τ) g/\g.Nodup/\JF F H f F1 H/\(∀ a∈g,a∈f)/\Slots K F1 H σ τ is:=by
 obtain⟨fi,g,h1,h2,h3⟩:=r.freeze is 0;have Lg:(fi++g).Nodup:=h1.nodup_iff.mp nd;have NI:∀ a∈g,a∉fi:=fun a ha hb=>(t_.mp Lg).2.2 a hb a ha rfl;have V7:∀ a∈fi,a∈f:=fun a ha=>h1.mem_iff.mpr (r_ _ ha);have YZ:∀ a∈g,a∈f:=fun a ha=>h1.mem_iff.mpr (s_ _ ha);refine⟨fun a=>F a∨a∈fi,g,fun a h=>?_,h2 _ (fun a h=>.inl h) (fun a h=>.inr h) (fun a ha n z=>?_),(t_.mp Lg).2.1,⟨.refl _,fun a h=>.inl h,fun a h=>?_⟩,YZ,fun i hi d z=>?_⟩
 ·rcases h with h|h
  ·exact Gg a h
  ·obtain⟨_,xs,q⟩:=r.own a (V7 a h);rw[q];simp
 ·rcases z with z|z
  ·exact n z
  ·exact NI a ha z
 ·rcases h with h|h
  ·exact .inl h
  ·exact .inr (.inl (V7 a h))
 ·exact h3 _ (fun a h=>.inl h) (fun a h=>.inr h) i (by simpa using hi) d z
theorem cV {is:List Nat}(r:Gk K F H σ τ f):Slots K (fun _=>True) H σ τ is:=r.slots (fun _ _=>trivial) fun _ _=>trivial
theorem Fx.fix {v:V}{d:D}(m:Fx K (L2.nw F H) H' v d):Fx K (fun a=>F a∨(True/\H a=Φ/\H' a≠Φ)) H' v d:=m.step (fun a xs h r=>⟨h.elim (fun z=>.inl z) fun z=>.inr ⟨trivial,z,r.some⟩,r⟩) fun a xs h=>h
end
section
variable {X:Cx}{ex:Str->Prop}{cl:Nat->List D->Res D}
theorem Qu {i:Nat}{e:Expr}(he:PE X e (zP i))(mv:Bool):PE X e (RO X.K ex (Gu cl mv (.v i))):=by
 refine cG he fun σ H Q ⟨F,τ,f,Gg,r,nd,q⟩=>?_;rw[Cv] at q;cases z:cp τ i with
 | none=>rw[z] at q;exact q.no.elim
 | some d=>
  rw[z] at q;obtain⟨v,fv,g,h1,h2,h3,h4⟩:=r.at z;have Lg:(fv++g).Nodup:=h4.nodup_iff.mp nd
  induction mv using zB with
  | true=>have q':=(show Fw ex (.ok (d,τ.set i Φ):Res (D×Ev)) _ from q).ok;exact⟨v,h1,q' v H F fv g ⟨.refl,Gg,h2,h3,Lg,fun a ha=>.inl (h4.mem_iff.mpr ha)⟩⟩
  | false=>
   have q':=(show Fw ex (.ok (er d,τ.set i (Δ (er d))):Res (D×Ev)) _ from q).ok;have NI:∀ a∈g,a∉fv:=fun a ha hb=>(t_.mp Lg).2.2 a hb a ha rfl;have m1:F6 X.K (fun a=>F a∨a∈fv) H v (er d) []:=(h2.read (fun a h=>.inl h) (fun a h=>.inr h)).frozen;have r1:Gk X.K (fun a=>F a∨a∈fv) H σ (τ.set i Φ) g:=h3.step (fun a xs h r=>⟨.inl h,r⟩) (fun a xs h=>h) fun a ha n _=>⟨fun z=>z.elim n (NI a ha),rfl⟩
   obtain⟨g',h',r2,p2⟩:=r1.put i m1;have Hx:σ.set i (Δ v)=σ:=by
    apply List.ext_getElem?;intro j;rw[List.getElem?_set];by_cases hj:i=j
    ·subst hj;have Gr:i < σ.length:=(x_.mp h1).1;rw[f_ rfl,f_ Gr,h1]
    ·rw[d_ hj]
   rw[Hx,List.set_set] at r2;rw[List.nil_append] at p2;have LK:(g'++h').Nodup:=p2.nodup_iff.mpr (t_.mp Lg).2.1;refine⟨v,h1,q' v H _ [] g' ⟨⟨.refl _,fun a h=>.inl h,fun a h=>?_⟩,fun a h=>?_,m1,r2,(t_.mp LK).1,fun a ha=>?_⟩⟩
   ·exact h.elim (fun z=>.inl z) fun z=>.inr (.inl (h4.mem_iff.mpr (r_ _ z)))
   ·rcases h with h|h
    ·exact Gg a h
    ·obtain⟨_,xs,e⟩:=h2.own a h;rw[e];simp
   ·have:a∈g:=p2.mem_iff.mp (r_ _ (by simpa using ha));exact .inl (h4.mem_iff.mpr (s_ _ this))
theorem JY {l:List Expr}{n:Nat}{pos:Pos}{g:Ev->Res (List D×Ev)}(h:PA X l (NH X.K ex g)):PE X (.Tuple l n pos) (RO X.K ex fun τ=>Fu (g τ) fun p=>FE (dn p.1.length) (.ok (.tup p.1,p.2))):=by
 refine cG (rk h) fun σ H Q ⟨F,τ,f,Gg,r,nd,q⟩=>⟨F,τ,f,Gg,r,nd,(Fw.Fu q).mono fun p hp vs H1 F1 fv f1 o=>?_⟩
 obtain⟨gd,hp⟩:=Fw.FE hp;refine⟨by rw[o.rep.length];exact dh gd,fun p' LL=>hp.ok _ _ F1 fv f1 ?_⟩;have e:cz H1 (upd H1 p' (.tup vs)):=.upd LL;obtain⟨k1,k2,k3⟩:=gI o.Gg o.GL e;refine⟨o.IC.trans k3 (fun x hx=>o.mem x (s_ _ hx)),k1,.tup (.inl (.inl cv)) (o.rep.IC k3 fun a ha hb=>(t_.mp o.GJ).2.2 a ha a hb rfl),k2,o.GJ,o.mem⟩
theorem JZ {l:List Expr}{pos:Pos}{g:Ev->Res (List D×Ev)}(h:PA X l (NH X.K ex g)):PE X (.List l pos) (RO X.K ex fun τ=>Fu (g τ) fun p=>FE (dn p.1.length) (.ok (.lst Θ p.1,p.2))):=by
 refine cG (iG h) fun σ H Q ⟨F,τ,f,Gg,r,nd,q⟩=>⟨F,τ,f,Gg,r,nd,(Fw.Fu q).mono fun p hp vs H1 F1 fv f1 o=>?_⟩
 obtain⟨gd,hp⟩:=Fw.FE hp;refine⟨by rw[o.rep.length];exact dh gd,fun p' LL=>hp.ok _ _ F1 (p'::fv) f1 ?_⟩;have e:cz H1 (upd H1 p' (.lst vs)):=.upd LL;obtain⟨k1,k2,k3⟩:=gI o.Gg o.GL e;refine⟨o.IC.trans k3 (fun x hx=>o.mem x (s_ _ hx)),k1,.GY (fun z=>o.Gg _ z LL) cv (o.rep.IC k3 fun a ha hb=>(t_.mp o.GJ).2.2 a ha a hb rfl),k2,?_,fun a ha=>?_⟩
 ·rw[c_,K_];refine⟨fun z=>?_,o.GJ⟩;rcases v_.mp z with z|z
  ·obtain⟨_,xs,e⟩:=o.rep.own _ z;rw[LL] at e;cases e
  ·obtain⟨_,xs,e⟩:=o.GL.own _ z;rw[LL] at e;cases e
 ·rw[c_] at ha;rcases k_.mp ha with rfl|ha
  ·exact .inr (o.IC.same.free LL)
  ·exact o.mem a ha
theorem J0 {c a b:Expr}{pos:Pos}{vc:List Nat}{fc:Ev->Res Bool}{fa fb:Ev->Res (D×Ev)}(hc:PT X c (RT X.K ex vc fc))(ha:PE X a (RO X.K ex fa))(hb:PE X b (RO X.K ex fb)) :
  PE X (.IfExp c a b pos) (RO X.K ex fun τ=>Fu (fc τ) fun r=>if r=Θ then fa τ else fb τ):=by
 refine cG (l6 hc ha hb) fun σ H Q ⟨F,τ,f,Gg,r,nd,q⟩=>?_;refine fW (.refl _) (cV r) (Fw.Fu q) fun x H2 e2 _ k=>?_;obtain⟨k1,k2,k3⟩:=gI Gg r e2;have go:∀ {g:Ev->Res (D×Ev)},Fw ex (g τ) (fun p=>∀ v H' F' fv f',Ow X.K F H f F' H' σ v p.1 fv p.2 f'->Q v H')->RO X.K ex g σ H2 Q:=fun hg=>
  ⟨F,τ,f,k1,k2,nd,hg.mono fun p hp v H' F' fv f' o=>hp v H' F' fv f' ⟨k3.trans o.IC (fun x hx=>.inl hx),o.Gg,o.rep,o.GL,o.GJ,fun a ha=>(o.mem a ha).elim (fun z=>.inl z) fun z=>.inr (e2.free z)⟩⟩
 induction x using zB with
 | true=>rw[f_ rfl] at k ⊢;exact go k
 | false=>rw[d_ p_] at k ⊢;exact go k
theorem A5:PA X [] (NH X.K ex fun τ=>.ok ([],τ)):=kE dw fun σ H Q ⟨F,τ,f,Gg,r,nd,q⟩=>q.ok [] H F [] f ⟨.refl,Gg,.nil,r,nd,fun a ha=>.inl ha⟩
theorem wZ {e:Expr}{l:List Expr}{ga:Ev->Res (D×Ev)}{gs:Ev->Res (List D×Ev)}(hn:notStar e=Θ)(ha:PE X e (RO X.K ex ga))(hr:PA X l (NH X.K ex gs)) :
  PA X (e::l) (NH X.K ex fun τ=>Fu (ga τ) fun p=>Fu (gs p.2) fun q=>.ok (p.1::q.1,q.2)):=by
 refine kE (cS ha hr (bU hn _ _)) fun σ H Q ⟨F,τ,f,Gg,r,nd,q⟩=>⟨F,τ,f,Gg,r,nd,(Fw.Fu q).mono fun p hp v H1 F1 fv f1 o=>?_⟩
 refine⟨F1,p.2,f1,o.Gg,o.GL,(t_.mp o.GJ).2.1,(Fw.Fu hp).mono fun p' LL vs H2 F2 Y0 f2 o2=>?_⟩;have NI:∀ a∈fv,a∉f1:=fun a h1 h2=>(t_.mp o.GJ).2.2 a h1 a h2 rfl;have m2:=o.rep.IC o2.IC NI;refine LL.ok (v::vs) H2 F2 (fv++Y0) f2 ⟨o.IC.trans o2.IC (fun x hx=>o.mem x (s_ _ hx)),o2.Gg,.cons m2 o2.rep,o2.GL,?_,fun a ha=>?_⟩
 ·rw[B_];refine t_.mpr ⟨(t_.mp o.GJ).1,o2.GJ,fun a h1 b h2 e=>?_⟩;subst e;rcases o2.mem a h2 with z|z
  ·exact NI a h1 z
  ·obtain⟨_,xs,e⟩:=o.rep.own a h1;rw[z] at e;cases e
 ·rw[B_] at ha;rcases v_.mp ha with ha|ha
  ·exact o.mem a (r_ _ ha)
  ·rcases o2.mem a ha with z|z
   ·exact o.mem a (s_ _ z)
   ·exact .inr (o.IC.same.free z)
end
section
variable {Z:Sg}{CX:Ho}{cl:Nat->List D->Res D}{xp:XK->Hp->Str->Prop}{X:Cx}{ex:Str->Prop}{G:Gm}
def S7 (K:Frag)(ex:Str->Prop)(cl:Nat->List D->Res D)(f:Nat)(vs:List V)(H:Hp)(Q:VK):Prop:=∃ F ds,IB F H/\Fv K F H vs ds/\Fw ex (cl f (FA ds)) fun d=>∀ v H' F' fv,Out K F H F' H' v d fv->Q v H'
theorem sM (g:Gx Z CX cl xp X ex G){f:Nat}{x:Str}{p pos:Pos}{es:List IR}{args:List Expr}{t:TA}(h1:i4 Z G f x=Θ)(h2:Z.Me G f=Θ)(GI:dj Z G es args=Θ)(h:PA X args t)
  (h0:args=[]->∀ σ H (Q:List V->Hp->Prop),t σ H Q->Q [] H):PE X (.Call (.Name x p) args [] pos) (fun σ H Q=>t σ H fun vs H1=>S7 X.K ex cl f vs H1 Q):=by
 obtain⟨k1,k2,k3,k4⟩:=sD g h1;obtain⟨k,SY,fd,ps,hm,LJ,hb,F,hr,hlen⟩:=(g.fns f (kT h2).1 (kT h2).2 x k2).ex;obtain⟨E,hP,hE⟩:=g.OO;intro pins s σ H Q I q;have fin:∀ (us:List Ψ) (s1:Α) (vs:List V) (H1:Hp),Inv X pins σ H1 s1->Vals vs us->S7 X.K ex cl f vs H1 Q->Κ (Μ X.prog X.w) X.A (call (.ref SY) us) (EP X pins σ Q) X.xe s1:=by
  intro us s1 vs H1 I1 r ⟨Fc,ds,Gg,m,q1⟩;have hl:=hlen ex _ _ q1;rw[dJ] at hl;refine pf F hr hb hP g.K' I1 r (by rw[m.length];exact hl) Gg m ?_;cases z:cl f (FA ds) with
  | error er=>
   rw[z] at q1;cases er with
   | stuck=>exact q1.no.elim
   | exc c=>exact hE c _ q1
  | ok d=>rw[z] at q1;exact q1.ok
 refine aaD (kA I k1 hm ?_ k4)
 induction args using zL with
 | nil=>
  induction es using zL with
  | cons _ _=>cases GI
  | nil=>exact PySem.W.callWith_K0 I.Jl LJ (fin [] s [] H I .nil (h0 rfl σ H _ q))
 | cons e l=>
  induction es using zL with
  | nil=>cases GI
  | cons a es=>have Gv:(notStar e&&FZ Z G a e&&dj Z G es l)=Θ:=GI;simp only[g_] at Gv;refine PySem.W.callWith_K (h₀:=X.base) I.ok.mod.P6 LJ (Gf (h pos pins s σ H _ I q) fun us s1 ⟨vs,H1,I1,r,q1⟩=>⟨I1.Jl,?_⟩) (bU Gv.1.1 l X.env) (dM Z G (es:=es) pos X.env Gv.2);exact fin us s1 vs H1 I1 r q1
theorem F6.Km {K:Frag}{F F':Ω->Prop}{H:Hp}{v:V}{d:D}{fv:List Ω}(m:F6 K F H v d fv)(n:cq d=Θ):F6 K F' H v d []:=(m.read (S:=fun _=>True) (fun _ _=>trivial) fun _ _=>trivial).free n
theorem IK (g:Gx Z CX cl xp X ex G){f:Nat}{x:Str}{p pos:Pos}{es:List IR}{args:List Expr}(h1:i4 Z G f x=Θ)(h2:Z.Me G f=Θ)(GI:dj Z G es args=Θ)(mv:Bool) :
  PE X (.Call (.Name x p) args [] pos) (RO X.K ex (Gu cl mv (.call f es))):=by
 have pa:=mQ es X ex G args g GI
 have pe:=sM (p:=p) (pos:=pos) g h1 h2 GI pa (fun e σ H Q ⟨S,τ,hs,q⟩=>by
  subst e
  induction es using zL with
  | nil=>exact q.ok [] H (.refl _) .nil
  | cons _ _=>cases GI)
 refine cG pe fun σ H Q ⟨F,τ,fo,Gg,r,nd,q⟩=>?_;have q':Fw ex (Fu (dt cl es τ) fun ds=>Fu (cl f (FA ds)) fun d=>if cq d=Θ then .ok (d,τ) else .ok (d,Gh (cE es) τ)) (fun p=>∀ v H' F' fv f',Ow X.K F H fo F' H' σ v p.1 fv p.2 f'->Q v H'):=q
 -- read without S8 up
 have borrow:(∀ ds,dt cl es τ=.ok ds->Fw ex (cl f (FA ds)) fun d=>cq d=Θ/\∀ v H' F' fv f',Ow X.K F H fo F' H' σ v d fv τ f'->Q v H')->Fw ex (dt cl es τ) (fun _=>True)->RA X.K ex (cE es) (dt cl es) σ H (fun vs H1=>S7 X.K ex cl f vs H1 Q):=by intro hk Ge;refine mM (.refl _) (cV r) Ge.eq fun ds vs H1 e1 _ m1 q1=>?_;refine⟨fun a=>H1 a≠Φ,ds,fun a h=>h,m1.step (fun a xs h rd=>⟨rd.some,rd⟩) fun a xs h=>h,(hk ds q1.1).mono fun d hd v H' F' fv o=>?_⟩;obtain⟨k1,k2,k3⟩:=gI Gg r (e1.trans o.same);exact hd.2 v H' F [] fo ⟨k3,k1,o.rep.Km hd.1,k2,by simpa using nd,fun a ha=>.inl (by simpa using ha)⟩
 cases z:dt cl es τ with
 | error er=>
  rw[z] at q';cases er with
  | stuck=>exact q'.no.elim
  | exc c=>exact borrow (fun ds h=>by rw[z] at h;cases h) (by rw[z];exact q')
 | ok ds=>
  rw[z] at q';have q1:Fw ex (Fu (cl f (FA ds)) fun d=>if cq d=Θ then .ok (d,τ) else .ok (d,Gh (cE es) τ)) (fun p=>∀ v H' F' fv f',Ow X.K F H fo F' H' σ v p.1 fv p.2 f'->Q v H'):=q';cases zc:cl f (FA ds) with
  | error er=>
   rw[zc] at q1;cases er with
   | stuck=>exact q1.no.elim
   | exc c=>exact borrow (fun ds' h=>by rw[z] at h;cases h;rw[zc];exact q1) (by rw[z];trivial)
  | ok d=>
   rw[zc] at q1;have q2:Fw ex (if cq d=Θ then .ok (d,τ) else .ok (d,Gh (cE es) τ)) (fun p=>∀ v H' F' fv f',Ow X.K F H fo F' H' σ v p.1 fv p.2 f'->Q v H'):=q1;by_cases hl:cq d=Θ
   ·rw[f_ hl] at q2;exact borrow (fun ds' h=>by rw[z] at h;cases h;rw[zc];exact⟨hl,q2.ok⟩) (by rw[z];trivial)
   ·rw[d_ hl] at q2;obtain⟨F1,gg,b1,b2,b3,b4,b5,b6⟩:=gJ (cE es) Gg r nd;refine mM (Kt:=fun ds'=>ds'=ds) (.refl _) b6 (by rw[z];rfl) fun ds' vs H1 e1 _ m1 e=>?_;subst e;have hm:Fv X.K (fun a=>F1 a∨(True/\H a=Φ/\H1 a≠Φ)) H1 vs ds':=m1.step (fun a xs h r=>⟨h.elim (fun z=>.inl z) fun z=>.inr ⟨trivial,z,r.some⟩,r⟩) fun a xs h=>h;obtain⟨c1,c2,c3⟩:=grow (fun _=>True) b1 b2 e1;refine⟨_,ds',c1,hm,?_⟩;rw[zc];intro v H' F' fv o;have s1:JF (fun a=>F1 a∨(True/\H a=Φ/\H1 a≠Φ)) H1 gg F' H':=⟨o.same,o.Iq,fun a h=>(o.out a h).elim (fun z=>.inl z) fun z=>.inr (.inr z)⟩
    have r2:Gk X.K F' H' σ (Gh (cE es) τ) gg:=c2.step (fun a xs q rd=>⟨o.Iq a q,o.same.rd rd⟩) (fun a xs q=>o.same.Io q) fun a ha n hn=>by
     obtain⟨_,xs,e⟩:=c2.own a ha;refine⟨fun z=>?_,(o.same _ _ e).trans e.symm⟩;rcases o.out a z with z|z
     ·exact n z
     ·exact hn z
    refine q2.ok v H' F' fv gg ⟨(b4.trans c3 (fun x hx=>.inl (b5 x hx))).trans s1 (fun x hx=>.inl (b5 x hx)),o.Gg,o.rep,r2,?_,fun a ha=>?_⟩
    ·refine t_.mpr ⟨o.GJ,b3,fun a h1 b h2 e=>?_⟩;subst e;obtain⟨_,xs,e⟩:=c2.own a h2;rw[o.new a h1] at e;cases e
    ·rcases v_.mp ha with ha|ha
     ·exact .inr (e1.free (o.new a ha))
     ·exact .inl (b5 a ha)
theorem dq {a:IR}{e:Expr}(he:PE X e (RD X.K ex (vars a) (Fz cl a)))(hN:cN a=Θ->PE X e (RN X.K ex (vars a) fun τ=>Fu (Fz cl a τ) f9)):PE X e (RO X.K ex fun τ=>Fu (Fz cl a τ) fun d=>.ok (cB a d τ)):=by
 intro pins s σ H Q I h;obtain⟨F,τ,fo,Gg,r,nd,q⟩:=h
 replace q:Fw ex (Fu (Fz cl a τ) fun d=>.ok (cB a d τ)) (fun p=>∀ v H' F' fv f',Ow X.K F H fo F' H' σ v p.1 fv p.2 f'->Q v H'):=q
 have rd:RD X.K ex (vars a) (Fz cl a) σ H Q->Κ (Μ X.prog X.w) X.A (eval e X.env) (EP X pins σ Q) X.xe s:=fun h=>he pins s σ H Q I h;cases z:Fz cl a τ with
 | error er=>
  rw[z] at q;cases er with
  | stuck=>exact q.no.elim
  | exc c=>exact rd ⟨fun _=>True,τ,cV r,by rw[z];exact q⟩
 | ok d=>
  rw[z] at q;have q1:∀ v H' F' fv f',Ow X.K F H fo F' H' σ v (cB a d τ).1 fv (cB a d τ).2 f'->Q v H':=q;by_cases hl:cq d=Θ
  ·unfold cB at q1;rw[f_ hl] at q1;refine rd ⟨fun _=>True,τ,cV r,?_⟩;rw[z];intro v H' e m;obtain⟨k1,k2,k3⟩:=gI Gg r e;exact q1 v H' F [] fo ⟨k3,k1,m.free hl,k2,by simpa using nd,fun a ha=>.inl (by simpa using ha)⟩
  ·have other:cB a d τ=(er d,Gh (vars a) τ)->Κ (Μ X.prog X.w) X.A (eval e X.env) (EP X pins σ Q) X.xe s:=fun hk=>by rw[hk] at q1;obtain⟨F1,gg,b1,b2,b3,b4,b5,b6⟩:=gJ (vars a) Gg r nd;refine rd ⟨F1,τ,b6,?_⟩;rw[z];intro v H' e m;obtain⟨c1,c2,c3⟩:=grow (fun _=>True) b1 b2 e;exact q1 v H' _ [] gg ⟨b4.trans c3 (fun x hx=>.inl (b5 x hx)),c1,m.fix.frozen,c2,by simpa using b3,fun a ha=>.inl (b5 a (by simpa using ha))⟩
   by_cases hn:cN a=Θ
   ·induction d using zD with
    | lst o ds=>
     by_cases hi:ck ds=Θ
     ·have hk:cB a (.lst o ds) τ=(.lst Θ ds,τ):=by unfold cB;rw[d_ hl,hn];show (if ck ds=Θ then _ else _)=_;rw[f_ hi]
      rw[hk] at q1;refine hN hn pins s σ H Q I ⟨fun _=>True,τ,cV r,?_⟩;show Fw ex (Fu (Fz cl a τ) f9) _;rw[z];intro p ys H' e hp hy m;obtain⟨k1,k2,k3⟩:=gI Gg r e;refine q1 (.ref p) H' F [p] fo ⟨k3,k1,.GY (fun zz=>Gg p zz hp) hy (m.free hi),k2,?_,fun a ha=>?_⟩
      ·rw[aaB,K_];refine⟨fun zz=>?_,nd⟩;obtain⟨_,xs,e⟩:=r.own p zz;rw[hp] at e;cases e
      ·rw[aaB] at ha;rcases k_.mp ha with rfl|ha
       ·exact .inr hp
       ·exact .inl ha
     ·have hk:cB a (.lst o ds) τ=(.lst Θ (FA ds),Gh (vars a) τ):=by unfold cB;rw[d_ hl,hn];show (if ck ds=Θ then _ else _)=_;rw[d_ hi]
      rw[hk] at q1;obtain⟨F1,gg,b1,b2,b3,b4,b5,b6⟩:=gJ (vars a) Gg r nd;refine hN hn pins s σ H Q I ⟨F1,τ,b6,?_⟩;show Fw ex (Fu (Fz cl a τ) f9) _;rw[z];intro p ys H' e hp hy m;obtain⟨c1,c2,c3⟩:=grow (fun a=>a≠p) b1 b2 e;have m2:Fv X.K (fun a=>F1 a∨(a≠p/\H a=Φ/\H' a≠Φ)) H' ys ds:=m.step (fun a xs h r=>⟨h.1.elim (fun z=>.inl z) fun z=>.inr ⟨h.2,z,r.some⟩,r⟩) fun a xs h=>h;refine q1 (.ref p) H' _ [p] gg ⟨b4.trans c3 (fun x hx=>.inl (b5 x hx)),c1,.GY (fun zz=>?_) hy m2.frozen,c2,?_,fun a ha=>?_⟩
      ·rcases zz with zz|zz
       ·exact b1 p zz hp
       ·exact zz.1 rfl
      ·rw[aaB,K_];refine⟨fun zz=>?_,b3⟩;obtain⟨_,xs,e⟩:=b2.own p zz;rw[hp] at e;cases e
      ·rw[aaB] at ha;rcases k_.mp ha with rfl|ha
       ·exact .inr hp
       ·exact .inl (b5 a ha)
    | _=>refine other ?_;unfold cB;rw[d_ hl,hn]
   ·have Ir:cN a=Ξ:=by simpa using hn
    refine other ?_;unfold cB;rw[d_ hl,Ir]
theorem C3 {a b:Expr}{pos:Pos}{va vb:List Nat}{fa fb:Ev->Res D}(ha:PE X a (RD X.K ex va fa))(hb:PE X b (RD X.K ex vb fb)) :
  PE X (.BinOp a .Add b pos) (RN X.K ex (va++vb) fun τ=>Fu (Fu (fa τ) fun x=>Fu (fb τ) fun y=>HM .add x y) f9):=by
 refine cG (oM kP ha hb) fun σ H Q ⟨S,τ,hs,q⟩=>?_;refine cQ (.refl _) hs.left (Fw.Fu (Fw.Fu q)) fun x v H1 e1 _ m1 q1=>?_;refine cQ e1 hs.right (Fw.Fu q1) fun y w H2 e2 Hd m2 q2=>?_;have stuck:∀ {P:Prop},HM .add x y=F5->P:=fun z=>by rw[z] at q2;exact q2.no.elim
 induction x using zD with
 | int a=>induction y using zD with
  | int b=>exact q2.ok.no.elim
  | _=>exact stuck rfl
 | str a=>induction y using zD with
  | str b=>exact(Fw.FE q2).2.ok.no.elim
  | _=>exact stuck rfl
 | lst o a=>induction y using zD with
  | lst o' b=>obtain⟨p,xs,rfl,h1,n1⟩:=m1.Ke;obtain⟨p',ys,rfl,h2,n2⟩:=m2.Ke;obtain⟨gd,q3⟩:=Fw.FE q2;have g':=dh gd;have l1:=n1.length;have l2:=n2.length;have OW:Ls X.K H2 p xs:=h1.elim (fun z=>.inl (Hd.rd z)) .inr;exact⟨p,p',xs,ys,rfl,rfl,OW,h2,⋯,fun z hz=>q3.ok.ok z _ _ (e2.trans (.upd hz)) (e2.free hz) cv (qJ ((n1.later Hd).append n2) hz)⟩
  | _=>exact stuck rfl
 | _=>exact stuck rfl
theorem C4 {a b:Expr}{pos:Pos}{va vb:List Nat}{fa fb:Ev->Res D}(ha:PE X a (RD X.K ex va fa))(hb:PE X b (RD X.K ex vb fb)) :
  PE X (.BinOp a .Mult b pos) (RN X.K ex (va++vb) fun τ=>Fu (Fu (fa τ) fun x=>Fu (fb τ) fun y=>HM .mul x y) f9):=by
 refine cG (oM oZ ha hb) fun σ H Q ⟨S,τ,hs,q⟩=>?_;refine cQ (.refl _) hs.left (Fw.Fu (Fw.Fu q)) fun x v H1 e1 _ m1 q1=>?_;refine cQ e1 hs.right (Fw.Fu q1) fun y w H2 e2 Hd m2 q2=>?_;have stuck:∀ {P:Prop},HM .mul x y=F5->P:=fun z=>by rw[z] at q2;exact q2.no.elim
 induction y using zD with
 | int b=>
  cases m2
  induction x using zD with
  | int a=>exact(Fw.FE q2).2.ok.no.elim
  | str a=>exact(Fw.FE q2).2.ok.no.elim
  | lst o a=>obtain⟨p,xs,rfl,h1,n1⟩:=m1.Ke;obtain⟨gd,q3⟩:=Fw.FE q2;have gd:=q_ gd;have OW:Ls X.K H2 p xs:=h1.elim (fun z=>.inl (Hd.rd z)) .inr;exact⟨p,b,xs,rfl,rfl,OW,gd.1,gd.2.1,by rw[n1.length];exact gd.2.2,fun z hz=>q3.ok.ok z _ _ (e2.trans (.upd hz)) (e2.free hz) cv (qJ ((n1.later Hd).rep b.toNat) hz)⟩
  | _=>exact stuck rfl
 | _=>induction x using zD<;>exact stuck rfl
theorem Fg {a:Expr}{lo hi:Option Expr}{pos p2:Pos}{va vl vh:List Nat}{fa:Ev->Res D}{fl fh:Ev->Res (Option Int)}(ha:PE X a (RD X.K ex va fa))(hl:PO X lo (ND X.K ex vl fl))(hh:PO X hi (ND X.K ex vh fh)) :
  PE X (.Subscript a (.Slice lo hi Φ p2) pos) (RN X.K ex (va++vl++vh) fun τ=>Fu (Fu (fa τ) fun x=>Fu (fl τ) fun l=>Fu (fh τ) fun h=>mB x l h) f9):=by
 refine cG (l8 oP ha hl hh) fun σ H Q ⟨S,τ,hs,q⟩=>?_;refine cQ (.refl _) hs.left.left (Fw.Fu (Fw.Fu q)) fun x v H1 e1 _ m1 q1=>?_;refine wR e1 hs.left.right (Fw.Fu q1) fun l H2 e2 Hd q2=>?_;refine wR e2 hs.right (Fw.Fu q2) fun h H3 e3 Mh q3=>?_
 induction x using zD with
 | lst o ds=>obtain⟨p,xs,rfl,h1,n1⟩:=m1.GB;exact⟨p,xs,rfl,(Hd.trans Mh).seq h1,fun z hz=>q3.ok.ok z _ _ (e3.trans (.upd hz)) (e3.free hz) cv (qJ (o5 l h (n1.later (Hd.trans Mh))) hz)⟩
 | str _=>exact(Fw.FE q3).2.ok.no.elim
 | _=>exact q3.no.elim
theorem jE (hc:X.calm=Θ):dI X (.type "list") (fun xs H Q=>(∃ p ys,xs=[.ref p]/\(GV X.K H p ys∨Hn X.K H p ys)/\∀ l,H l=Φ->Q (.ref l) (upd H l (.lst ys)))∨∃ z:Str,xs=[.str z]/\z.length<=Ζ/\∀ l,H l=Φ->Q (.ref l) (upd H l (.lst (ft z)))):=by
 intro pins s σ H xs us Q I r h;rcases h with h|h
 ·exact fG pins s σ H xs us Q I r h
 ·exact fZ hc pins s σ H xs us Q I r h
theorem A6 (g:Gx Z CX cl xp X ex G){p pos:Pos}{es:List IR}{a:Expr}{args:List Expr}(hg:G.Jp (jU .list)=Θ)(GI:dj Z G es (a::args)=Θ)(h:PA X (a::args) (RA X.K ex (cE es) (dt cl es))) :
  PE X (.Call (.Name (fH .list) p) (a::args) [] pos) (RN X.K ex (cE es) fun τ=>Fu (Fu (dt cl es τ) fun ds=>ek .list ds) f9):=by
 obtain⟨k1,k2,k3,k4⟩:=fg g (sy .list) (kR hg)
 induction es using zL with
 | nil=>cases GI
 | cons b es=>
  have Gv:(notStar a&&FZ Z G b a&&dj Z G es args)=Θ:=GI;simp only[g_] at Gv;refine cG (gP (jE (g.calm (kS hg))) k1 k2 (o6 .list) h k3 k4 (bU Gv.1.1 args X.env) (dM Z G (es:=es) pos X.env Gv.2)) fun σ H Q ⟨S,τ,hs,q⟩=>?_;refine mM (.refl _) hs (Fw.Fu (Fw.Fu q)) fun ds vs H1 e1 _ m1 q1=>?_;have stuck:∀ {P:Prop},ek .list ds=F5->P:=fun z=>by rw[z] at q1;exact q1.no.elim
  match ds,m1 with
  | [],_=>exact stuck rfl
  | d::_::_,_=>exact stuck (by induction d using zD<;>rfl)
  | [d],m1=>
   obtain⟨x,rfl,hd⟩:=m1.MX
   induction d using zD with
   | tup ds=>obtain⟨a,ys,rfl,q',m⟩:=hd.GZ;exact .inl ⟨a,ys,rfl,.inr q',fun z hz=>q1.ok.ok z _ _ (e1.trans (.upd hz)) (e1.free hz) cv (qJ m hz)⟩
   | lst o ds=>obtain⟨a,ys,rfl,q',m⟩:=hd.GB;exact .inl ⟨a,ys,rfl,.inl q',fun z hz=>q1.ok.ok z _ _ (e1.trans (.upd hz)) (e1.free hz) cv (qJ m hz)⟩
   | str z=>cases hd.Gs;obtain⟨gz,q1⟩:=Fw.FE q1;exact .inr ⟨z,rfl,dh gz,fun l hl=>q1.ok.ok l _ _ (e1.trans (.upd hl)) (e1.free hl) cv (qJ (gZ z) hl)⟩
   | _=>exact stuck rfl
end
section
variable {Z:Sg}{CX:Ho}{cl:Nat->List D->Res D}{xp:XK->Hp->Str->Prop}
theorem jb {X:Cx}{ex:Str->Prop}{G:Gm}(g:Gx Z CX cl xp X ex G){i:Nat}{x:Str}{pos:Pos}(h:fL G i x=Θ):PE X (.Name x pos) (zP i):=by
 unfold fL at h;rw[g_] at h;have hx:G.N[i]? = Δ x:=h_ h.1;have hk:=g.kd i x hx;have hv:N2 X.env.scope x:=by
  have h2:=h.2;rw[Y_,Y_] at h2;rcases h2 with (h2|h2)|h2
  ·exact .inl (hk.trans (h_ h2))
  ·exact .inr (.inl (hk.trans (h_ h2)))
  ·exact .inr (.inr (hk.trans (h_ h2)))
 exact qS (i:=i) (by rw[g.N];exact hx) hv (g.Ld i x hx).1 (g.Ld i x hx).2
theorem A7 {X:Cx}{ex:Str->Prop}{G G':Gm}{fr:List Nat}(g:Gx Z CX cl xp X ex G){scope:Scope}{tg iter elt:Expr}{ifs:List Expr}{pos:Pos}{T:Tg}{s:Sr}{I:List IR}{E:IR}(hs:JD Z G scope G' fr)(hT:dH G' T tg=Θ)(ha:∀ i∈HU T,fr.length<=i)
  (hi:eI Z G s iter=Θ/\g6 s tg=Θ) (ht:dj Z G' I ifs=Θ) (he:FZ Z G' E elt=Θ) :
  PE X (.ListComp elt [⟨tg,iter,ifs,0⟩] scope pos) (RN X.K ex (vars (.comp G' fr T s I E)) fun τ=>Fu (Fz cl (.comp G' fr T s I E) τ) f9):=by
 intro pins s' σ H Q Iv h;obtain⟨G8,S⟩:=fQ g Iv.ok hs;have p:=kH (pos:=pos) (elt:=elt) (ifs:=ifs) (tg:=tg) (g:=gT X.K T) (tt:=RT X.K Hw (cE I) (fJ cl I)) (te:=RD X.K Hw (vars E) (Fz cl E)) (g.calm hs.cm) S (sL s X ex G iter tg g hi.1 hi.2) (fun C s H fp=>Mi (dv g hs G8 C s H fp) T tg hT)
  (fun C s H fp=>sJ I _ Hw G' ifs (dv g hs G8 C s H fp) ht) (fun C s H fp=>(snd E _ Hw G' elt (dv g hs G8 C s H fp) he).1) (fun x=>dN hi.1 X.env x)
 refine p pins s' σ H Q Iv ?_;obtain⟨S0,τ,OY,q⟩:=h;have q':=Fw.Fu (show Fw ex (Fu (Fz cl (.comp G' fr T s I E) τ) f9) _ from q);rw[ja] at q';exact fC hs.OV ha OY q' fun A ys ds H' e hA Le m k=>k.ok A ys H' e hA Le m
theorem IZ:∀ (a:IR) (X:Cx) (ex:Str->Prop) (G:Gm) (e:Expr),Gx Z CX cl xp X ex G->FZ Z G a e=Θ->cN a=Θ->PE X e (RN X.K ex (vars a) fun τ=>Fu (Fz cl a τ) f9):=by
 intro a X ex G e g h n;cases a with
 | bin op a b=>
  cases op with
  | add=>
   induction e using zE with
   | BinOp l o r pos=>have h':(o == LH .add&&FZ Z G a l&&FZ Z G b r)=Θ:=h;simp only[g_] at h';have e1:o=LH .add:=h_ h'.1.1;subst e1;exact C3 (snd a X ex G l g h'.1.2).1 (snd b X ex G r g h'.2).1
   | _=>exists h
  | mul=>
   induction e using zE with
   | BinOp l o r pos=>have h':(o == LH .mul&&FZ Z G a l&&FZ Z G b r)=Θ:=h;simp only[g_] at h';have e1:o=LH .mul:=h_ h'.1.1;subst e1;exact C4 (snd a X ex G l g h'.1.2).1 (snd b X ex G r g h'.2).1
   | _=>exists h
  | _=>cases n
 | sl a lo hi=>
  induction e using zE with
  | Subscript o s pos=>
   induction s using zE with
   | Slice l u st p=>
    induction st using zO with
    | none=>have h':(FZ Z G a o&&oj Z G lo l&&oj Z G hi u)=Θ:=h;simp only[g_] at h';exact Fg (snd a X ex G o g h'.1.1).1 (wY lo X ex G l g h'.1.2) (wY hi X ex G u g h'.2)
    | some _=>exists h
   | _=>exists h
  | _=>exists h
 | bi f es=>
  cases f with
  | list=>
   induction e using zE with
   | Call fn args HP pos=>
    induction fn using zE with
    | Name x p=>
     induction HP using zL with
     | nil=>
      induction args using zL with
      | nil=>exists h
      | cons a args=>have h':(x == fH .list&&G.Jp (jU .list)&&dj Z G es (a::args))=Θ:=h;simp only[g_] at h';have e1:x=fH .list:=h_ h'.1.1;subst e1;exact A6 g h'.1.2 h'.2 (mQ es X ex G _ g h'.2)
     | cons _ _=>cases args<;>exists h
    | _=>exists h
   | _=>exists h
  | _=>cases n
 | comp G' fr tg src ifs elt=>
  induction e using zE with
  | ListComp el gens scope pos=>have h:oh gens (fun t it fs=>dy Z G scope G' fr&&dH G' tg t&&(HU tg).all (fun i=>decide (fr.length<=i))&&(eI Z G src it&&g6 src t)&&dj Z G' ifs fs&&FZ Z G' elt el)=Θ:=h;obtain⟨t,it,fs,rfl,h⟩:=iw h;have h':(dy Z G scope G' fr&&dH G' tg t&&(HU tg).all (fun i=>decide (fr.length<=i))&&(eI Z G src it&&g6 src t)&&dj Z G' ifs fs&&FZ Z G' elt el)=Θ:=h;simp only[g_] at h';exact A7 g (ix h'.1.1.1.1.1) h'.1.1.1.1.2 (fun i hi=>q_ (V_.mp h'.1.1.1.2 i hi)) h'.1.1.2 h'.1.2 h'.2
  | _=>exists h
 | _=>cases n
mutual
theorem LM:∀ (a:IR) (mv:Bool) (X:Cx) (ex:Str->Prop) (G:Gm) (e:Expr),Gx Z CX cl xp X ex G->FZ Z G a e=Θ->PE X e (RO X.K ex (Gu cl mv a))
 | .v i,mv,X,ex,G,e,g,h=>by
  induction e using zE with
  | Name x pos=>exact Qu (jb g h) mv
  | _=>exists h
 | .tup es,mv,X,ex,G,e,g,h=>by
  induction e using zE with
  | Tuple l n pos=>exact JY (A8 es mv X ex G l g h)
  | _=>exists h
 | .lst es,mv,X,ex,G,e,g,h=>by
  induction e using zE with
  | List l pos=>exact JZ (A8 es mv X ex G l g h)
  | _=>exists h
 | .ite t a b,mv,X,ex,G,e,g,h=>by
  induction e using zE with
  | IfExp c x y pos=>have h':(FZ Z G t c&&FZ Z G a x&&FZ Z G b y)=Θ:=h;simp only[g_] at h';exact J0 (snd t X ex G c g h'.1.1).2 (LM a mv X ex G x g h'.1.2) (LM b mv X ex G y g h'.2)
  | _=>exists h
 | .call f es,mv,X,ex,G,e,g,h=>by
  induction e using zE with
  | Call fn args HP pos=>
   induction fn using zE with
   | Name x p=>
    induction HP using zL with
    | nil=>have h':(i4 Z G f x&&Z.Me G f&&dj Z G es args)=Θ:=h;simp only[g_] at h';exact IK g h'.1.1 h'.1.2 h'.2 mv
    | cons _ _=>exists h
   | _=>exists h
  | _=>exists h
 | .c d,mv,X,ex,G,e,g,h=>dq (snd _ X ex G e g h).1 (IZ _ X ex G e g h)
 | .g n d,mv,X,ex,G,e,g,h=>dq (snd _ X ex G e g h).1 (IZ _ X ex G e g h)
 | .bin op a b,mv,X,ex,G,e,g,h=>dq (snd _ X ex G e g h).1 (IZ _ X ex G e g h)
 | .neg a,mv,X,ex,G,e,g,h=>dq (snd _ X ex G e g h).1 (IZ _ X ex G e g h)
 | .cmp op a b,mv,X,ex,G,e,g,h=>dq (snd _ X ex G e g h).1 (IZ _ X ex G e g h)
 | .chain op GK a b c,mv,X,ex,G,e,g,h=>dq (snd _ X ex G e g h).1 (IZ _ X ex G e g h)
 | .GC a b,mv,X,ex,G,e,g,h=>dq (snd _ X ex G e g h).1 (IZ _ X ex G e g h)
 | .JT a b,mv,X,ex,G,e,g,h=>dq (snd _ X ex G e g h).1 (IZ _ X ex G e g h)
 | .GQ a,mv,X,ex,G,e,g,h=>dq (snd _ X ex G e g h).1 (IZ _ X ex G e g h)
 | .idx a i,mv,X,ex,G,e,g,h=>dq (snd _ X ex G e g h).1 (IZ _ X ex G e g h)
 | .sl a lo hi,mv,X,ex,G,e,g,h=>dq (snd _ X ex G e g h).1 (IZ _ X ex G e g h)
 | .bi f es,mv,X,ex,G,e,g,h=>dq (snd _ X ex G e g h).1 (IZ _ X ex G e g h)
 | .Ic a k,mv,X,ex,G,e,g,h=>dq (snd _ X ex G e g h).1 (IZ _ X ex G e g h)
 | .sset a,mv,X,ex,G,e,g,h=>dq (snd _ X ex G e g h).1 (IZ _ X ex G e g h)
 | .HK a,mv,X,ex,G,e,g,h=>dq (snd _ X ex G e g h).1 (IZ _ X ex G e g h)
 | .HL a b,mv,X,ex,G,e,g,h=>dq (snd _ X ex G e g h).1 (IZ _ X ex G e g h)
 | .Kf m o es,mv,X,ex,G,e,g,h=>dq (snd _ X ex G e g h).1 (IZ _ X ex G e g h)
 | .comp G' fr tg src ifs elt,mv,X,ex,G,e,g,h=>dq (snd _ X ex G e g h).1 (IZ _ X ex G e g h)
theorem A8:∀ (as:List IR) (mv:Bool) (X:Cx) (ex:Str->Prop) (G:Gm) (l:List Expr),Gx Z CX cl xp X ex G->dj Z G as l=Θ->PA X l (NH X.K ex (jD cl mv as))
 | [],mv,X,ex,G,l,g,h=>by
  induction l using zL with
  | nil=>exact A5
  | cons _ _=>exists h
 | a::as,mv,X,ex,G,l,g,h=>by
  induction l using zL with
  | nil=>exists h
  | cons e l=>have h':(notStar e&&FZ Z G a e&&dj Z G as l)=Θ:=h;simp only[g_] at h';exact wZ h'.1.1 (LM a mv X ex G e g h'.1.2) (A8 as mv X ex G l g h'.2)
end
end
structure Bs (io:Option Nat) where
 F:Ω->Prop
 H:Hp
 L:Ω->LD->Prop
 T:Ω->List V ⊕ Str->Prop
 N:Option Ω:=Φ
structure GH (K:Frag){io:Option Nat}(B:Bs io)(F:Ω->Prop)(H:Hp)(σ:St)(τ:Ev)(f:List Ω):Prop where
 Gg:IB F H
 GL:Gk K F H σ τ f
 GJ:f.Nodup
 same:cz B.H H
 own:∀ a∈f,B.H a=Φ
 Iq:∀ a,B.F a->F a
 out:∀ a,F a->B.F a∨B.H a=Φ
 pin:∀ a xs,B.L a xs->F a/\Rd H a xs.o
 Lh:∀ a xs,B.T a xs->G2 K H a xs
 nm:∀ j a,io=Δ j->B.N=Δ a->σ[j]? = Δ (Δ (.ref a))
def Fk (K:Frag){io:Option Nat}(B:Bs io)(Dn:Ends):Fl->Prop
 | .nx τ=>∀ σ H F f,GH K B F H σ τ f->Dn.nx σ H
 | .bk τ=>∀ σ H F f,GH K B F H σ τ f->Dn.bk σ H
 | .ct τ=>∀ σ H F f,GH K B F H σ τ f->Dn.ct σ H
 | .rt d=>∀ v H F fv,Out K B.F B.H F H v d fv->Dn.rt v H
 | .ri d ks es=>∀ v H F fv Gd a,(∀ a',B.N=Δ a'->a'=a)->Out K B.F B.H F H v d fv->¬ F a->a∉fv->H a=Δ (.dK Gd)->Gd.map (·.1)=ks->Fv K F H (Gd.map (·.2)) es->Dn.rt v H
def RS (K:Frag)(io:Option Nat)(ex:Str->Prop)(g:Ev->Res Fl):TS:=fun Dn σ H=>∃ (B:Bs io),∃ F τ f,GH K B F H σ τ f/\Fw ex (g τ) (Fk K B Dn)
section
variable {K:Frag}{io:Option Nat}{B:Bs io}{F F':Ω->Prop}{H H':Hp}{σ:St}{τ τ':Ev}{f f':List Ω}{ex:Str->Prop}
theorem GH.IC (m:GH K B F H σ τ f)(s:JF F H f F' H')(Gg:IB F' H')(r:Gk K F' H' σ τ' f')(nd:f'.Nodup)(hm:∀ a∈f',a∈f∨H a=Φ):GH K B F' H' σ τ' f' where
 Gg:=Gg
 GL:=r
 GJ:=nd
 same:=m.same.trans s.same
 own:=fun a ha=>(hm a ha).elim (m.own a) fun z=>m.same.free z
 Iq:=fun a h=>s.Iq a (m.Iq a h)
 out:=fun a h=>by
  rcases s.out a h with h|h|h
  ·exact m.out a h
  ·exact .inr (m.own a h)
  ·exact .inr (m.same.free h)
 pin:=fun a xs h=>⟨s.Iq a (m.pin a xs h).1,s.same.rd (m.pin a xs h).2⟩
 Lh:=fun a xs h=>s.same.Io (m.Lh a xs h)
 nm:=m.nm
theorem GH.ow {v:V}{d:D}{fv:List Ω}(m:GH K B F H σ τ f)(o:Ow K F H f F' H' σ v d fv τ' f'):GH K B F' H' σ τ' f'/\∀ a∈fv,B.H a=Φ:=
 ⟨m.IC o.IC o.Gg o.GL (t_.mp o.GJ).2.1 fun a ha=>o.mem a (s_ _ ha),fun a ha=>(o.mem a (r_ _ ha)).elim (m.own a) fun z=>m.same.free z⟩
theorem GH.grow (m:GH K B F H σ τ f)(e:cz H H'):GH K B F H' σ τ f:=by obtain⟨k1,k2,k3⟩:=gI m.Gg m.GL e;exact m.IC k3 k1 k2 m.GJ fun a ha=>.inl ha
theorem GH.ro {g:Ev->Res (D×Ev)}{Kt:D×Ev->Prop}{Q:VK}(m:GH K B F H σ τ f)(h:Fw ex (g τ) Kt)(k:∀ p v H' F' fv f',Ow K F H f F' H' σ v p.1 fv p.2 f'->Kt p->Q v H'):RO K ex g σ H Q:=
 ⟨F,τ,f,m.Gg,m.GL,m.GJ,h.mono fun p hp v H' F' fv f' o=>k p v H' F' fv f' o hp⟩
theorem GH.rt {is:List Nat}{g:Ev->Res Bool}{Kt:Bool->Prop}{Q:Bool->Hp->Prop}(m:GH K B F H σ τ f)(h:Fw ex (g τ) Kt)(k:∀ b H',GH K B F H' σ τ f->cz H H'->Kt b->Q b H'):RT K ex is g σ H Q:=
 fW (.refl _) (cV m.GL) h fun b H2 e2 _ hb=>k b H2 (m.grow e2) e2 hb
theorem GH.rd {is:List Nat}{g:Ev->Res D}{Kt:D->Prop}{Q:VK}(m:GH K B F H σ τ f)(h:Fw ex (g τ) Kt)(k:∀ d v H',GH K B F H' σ τ f->cz H H'->Fx K (nw (fun _=>True) H) H' v d->Kt d->Q v H'):RD K ex is g σ H Q:=
 cQ (.refl _) (cV m.GL) h fun b v H2 e2 _ mv hb=>k b v H2 (m.grow e2) e2 mv hb
mutual
theorem sN:∀ (t:Tg) {σ:St}{τ:Ev}{f:List Ω}{v:V}{d:D}{fv:List Ω}{Kt:Ev->Prop}{Q:St->Hp->Prop},Gk K F H σ τ f->F6 K F H v d fv->(fv++f).Nodup->Fw ex (dR t d τ) Kt->
  (∀ τ' F8 f',Gk K F H F8 τ' f'->f'.Nodup->(∀ a∈f',a∈fv++f)->(∀ j,j∉HU t->F8[j]? = σ[j]?)->Kt τ'->Q F8 H)->gT K t v σ H Q
 | .nm i,σ,τ,f,v,d,fv,Kt,Q,r,m,nd,h,k=>by obtain⟨g,h',r2,p2⟩:=r.put i m;have LK:(g++h').Nodup:=p2.nodup_iff.mpr nd;exact k (τ.set i (Δ d)) (σ.set i (Δ v)) g r2 (t_.mp LK).1 (fun a ha=>p2.mem_iff.mp (r_ _ ha)) (fun j hj=>aau (fun z=>hj (by rw[<- z];exact u_.mpr rfl))) h.ok
 | .tp ts,σ,τ,f,v,d,fv,Kt,Q,r,m,nd,h,k=>by
  cases m with
  | tup h1 h2=>obtain⟨gd,h⟩:=Fw.FE h;have g':=q_ gd;exact⟨_,_,rfl,.inl h1,by rw[h2.length];exact g',gK ts r h2 nd h k⟩
  | Jy h0 h1 h2=>obtain⟨gd,h⟩:=Fw.FE h;have g':=q_ gd;exact⟨_,_,rfl,.inr (.inl h1),by rw[h2.length];exact g',gK ts r h2 nd h k⟩
  | lstK h1 h2=>obtain⟨gd,h⟩:=Fw.FE h;have g':=q_ gd;exact⟨_,_,rfl,.inr h1.sq,by rw[h2.length];exact g',gK ts r h2 nd h k⟩
  | GY h0 h1 h2=>obtain⟨gd,h⟩:=Fw.FE h;have g':=q_ gd;rw[c_,K_] at nd;exact⟨_,_,rfl,.inr (.inl (.inl h1)),by rw[h2.length];exact g',gK ts r h2 nd.2 h fun τ' F8 f' a1 a2 a3 a5 a4=>k τ' F8 f' a1 a2 (fun x hx=>by rw[c_];exact I_ _ (a3 x hx)) a5 a4⟩
  | _=>exact h.no.elim
theorem gK:∀ (ts:List Tg) {σ:St}{τ:Ev}{f:List Ω}{vs:List V}{ds:List D}{fv:List Ω}{Kt:Ev->Prop}{Q:St->Hp->Prop},Gk K F H σ τ f->Fy K F H vs ds fv->(fv++f).Nodup->Fw ex (gA ts ds τ) Kt->
  (∀ τ' F8 f',Gk K F H F8 τ' f'->f'.Nodup->(∀ a∈f',a∈fv++f)->(∀ j,j∉mK ts->F8[j]? = σ[j]?)->Kt τ'->Q F8 H)->OU K ts vs σ H Q
 | [],σ,τ,f,vs,ds,fv,Kt,Q,r,m,nd,h,k=>by
  cases m with
  | nil=>exact⟨rfl,k τ σ f r (by simpa using nd) (fun a ha=>by simpa using ha) (fun _ _=>rfl) h.ok⟩
  | cons _ _=>exact h.no.elim
 | t::ts,σ,τ,f,vs,ds,fv,Kt,Q,r,m,nd,h,k=>by
  cases m with
  | nil=>exact h.no.elim
  | cons m1 m2=>
   rename_i v d f1 vs ds f2
   have Lg:(f2++(f1++f)).Nodup:=by refine(List.Perm.nodup_iff ?_).mp nd;rw[<- B_];exact List.Perm.append_right f aag
   refine⟨_,_,rfl,sN t r m1 (t_.mp Lg).2.1 (Fw.Fu h) fun τ' F8 f' r' S9 M6 Qq h'=>?_⟩;refine gK ts r' m2 (t_.mpr ⟨(t_.mp Lg).1,S9,fun a h1 b h2 e=>(t_.mp Lg).2.2 a h1 b (M6 b h2) e⟩) h' fun M4 M5 NJ Y1 Ta MQ Tc OB=>k M4 M5 NJ Y1 Ta (fun a ha=>?_) (fun j hj=>(Tc j fun z=>hj (s_ _ z)).trans (Qq j fun z=>hj (r_ _ z))) OB;rcases v_.mp (MQ a ha) with z|z
   ·exact r_ _ (s_ _ z)
   ·rcases v_.mp (M6 a z) with z|z
    ·exact r_ _ (r_ _ z)
    ·exact s_ _ z
end
theorem GH.gT {t:Tg}{v:V}{d:D}{fv:List Ω}{Kt:Ev->Prop}{Q:St->Hp->Prop}(m:GH K B F H σ τ f)(mv:F6 K F H v d fv)(nd:(fv++f).Nodup)(hb:∀ a∈fv,B.H a=Φ)(Ko:∀ j∈HU t,io≠Δ j)(h:Fw ex (dR t d τ) Kt)
  (k:∀ τ' F8 f',GH K B F H F8 τ' f'->Kt τ'->Q F8 H):L2.gT K t v σ H Q:=
 sN t m.GL mv nd h fun τ' F8 f' r' S9 hm hj h'=>k τ' F8 f' ⟨m.Gg,r',S9,m.same,fun a ha=>(v_.mp (hm a ha)).elim (hb a) (m.own a),m.Iq,m.out,m.pin,m.Lh,fun j a e1 e2=>(hj j fun z=>Ko j z e1).trans (m.nm j a e1 e2)⟩ h'
theorem GH.write {i:Nat}{ds ds':List D}{w:V}{d:D}{fv:List Ω}{l:Ω}{xs ys:List V}(m:GH K B F H σ τ f)(hs:cp τ i=Δ (.lst Θ ds))(Hx:σ[i]? = Δ (Δ (.ref l)))(hl:H l=Δ (.lst xs))(mw:F6 K F H w d fv)(nd:(fv++f).Nodup)(hb:∀ a∈fv,B.H a=Φ)
  (hy:∀ fi,Fy K F H xs ds fi->∃ fl h,Fy K F H ys ds' fl/\(fl++h).Perm (fv++fi)):∃ f',GH K B F (upd H l (.lst ys)) σ (τ.set i (Δ (.lst Θ ds'))) f':=by
 obtain⟨v,fs,g,h1,h2,h3,h4⟩:=m.GL.at hs;rw[Hx] at h1;cases h1;cases h2 with
 | @GY a Sa Td fi hF hH hm=>
  rw[hl] at hH;cases hH;obtain⟨fl,h,M6,hp⟩:=hy fi hm;have LN:((l::fi)++g).Nodup:=h4.nodup_iff.mp m.GJ;have Qv:(fv++((l::fi)++g)).Nodup:=(aal fv h4).nodup_iff.mp nd;have lg:l∉g:=by rw[c_,K_] at LN;exact fun z=>LN.1 (s_ _ z)
  have Y2:l∉fi:=by rw[c_,K_] at LN;exact fun z=>LN.1 (r_ _ z)
  have Y3:l∉fv:=fun z=>(t_.mp Qv).2.2 l z l (by simp) rfl;have M7:∀ a∈fl,a∈fv++fi:=fun a ha=>hp.mem_iff.mp (r_ _ ha);have V8:l∉fl:=fun z=>(v_.mp (M7 l z)).elim Y3 Y2;have sl:∀ a (u:LD),F a->Rd H a u.o->F a/\Rd (upd H l (.lst ys)) a u.o:=fun a xs h r=>by refine⟨h,?_⟩;have:a≠l:=fun z=>hF (by rw[<- z];exact h);unfold Rd;rw[cu this];exact r
  have st:∀ a xs,G2 K H a xs->G2 K (upd H l (.lst ys)) a xs:=fun a xs h=>h.upd hl;have r1:Gk K F (upd H l (.lst ys)) σ (τ.set i Φ) g:=h3.step sl st fun a ha n _=>⟨n,cu fun z=>lg (by rw[<- z];exact ha)⟩
  have m1:F6 K F (upd H l (.lst ys)) (.ref l) (.lst Θ ds') (l::fl):=.GY hF cv (M6.step sl st fun a ha n _=>⟨n,cu fun z=>V8 (by rw[<- z];exact ha)⟩);obtain⟨g',h',r2,p2⟩:=r1.put i m1;have Te:σ.set i (Δ (.ref l))=σ:=by
   apply List.ext_getElem?;intro j;rw[List.getElem?_set];by_cases hj:i=j
   ·subst hj;have Gr:i < σ.length:=(x_.mp Hx).1;rw[f_ rfl,f_ Gr,Hx]
   ·rw[d_ hj]
  rw[Te,List.set_set] at r2;have Y4:((l::fl)++g).Nodup:=by
   rw[c_,K_];refine⟨fun z=>(v_.mp z).elim V8 lg,t_.mpr ⟨?_,(t_.mp LN).2.1,fun a h1 b h2 e=>?_⟩⟩
   ·have:(fl++h).Nodup:=hp.nodup_iff.mpr (t_.mpr ⟨(t_.mp Qv).1,(K_.mp (t_.mp LN).1).2,fun a h1 b h2 e=>(t_.mp Qv).2.2 a h1 b (r_ _ (I_ _ h2)) e⟩);exact(t_.mp this).1
   ·subst e;rcases v_.mp (M7 a h1) with z|z
    ·exact(t_.mp Qv).2.2 a z a (s_ _ h2) rfl
    ·exact(t_.mp LN).2.2 a (I_ _ z) a h2 rfl
  have LK:(g'++h').Nodup:=p2.nodup_iff.mpr Y4;have lB:B.H l=Φ:=m.own l (h4.mem_iff.mpr (by simp));refine⟨g',fun a h=>?_,r2,(t_.mp LK).1,fun b o M8=>?_,fun a ha=>?_,m.Iq,m.out,fun a xs h=>⟨(m.pin a xs h).1,(sl a xs (m.pin a xs h).1 (m.pin a xs h).2).2⟩,fun a xs h=>st a xs (m.Lh a xs h),m.nm⟩
  ·have:a≠l:=fun z=>hF (by rw[<- z];exact h);rw[cu this];exact m.Gg a h
  ·have:b≠l:=fun z=>by rw[z,lB] at M8;cases M8
   rw[cu this];exact m.same _ _ M8
  ·have:a∈(l::fl)++g:=p2.mem_iff.mp (r_ _ ha);rcases v_.mp this with z|z
   ·rcases k_.mp z with rfl|z
    ·exact lB
    ·rcases v_.mp (M7 a z) with z|z
     ·exact hb a z
     ·exact m.own a (h4.mem_iff.mpr (r_ _ (I_ _ z)))
   ·exact m.own a (h4.mem_iff.mpr (s_ _ z))
theorem Fy.set {w:V}{d:D}{fv:List Ω}(mw:F6 K F H w d fv):∀ {xs:List V}{ds:List D}{fi:List Ω} (j:Nat),Fy K F H xs ds fi->∃ fl h,Fy K F H (xs.set j w) (ds.set j d) fl/\(fl++h).Perm (fv++fi)
 | _,_,_,_,.nil=>⟨[],_,.nil,.refl _⟩
 | _,_,_,0,.cons (f:=f0) (g:=g0) m1 m2=>⟨_,f0,.cons mw m2,by rw[B_];exact aal _ aag⟩
 | _,_,_,j+1,.cons (f:=f0) (g:=g0) m1 m2=>by obtain⟨fl,h,h1,h2⟩:=Fy.set mw j m2;refine⟨f0++fl,h,.cons m1 h1,?_⟩;rw[B_];refine(aal f0 h2).trans ?_;rw[<- B_,<- B_];exact List.Perm.append_right g0 aag
theorem Fy.snoc {w:V}{d:D}{fv:List Ω}(mw:F6 K F H w d fv){xs:List V}{ds:List D}{fi:List Ω}(m:Fy K F H xs ds fi):∃ fl h,Fy K F H (xs++[w]) (ds++[d]) fl/\(fl++h).Perm (fv++fi):=
 ⟨fi++(fv++[]),[],m.append (.cons mw .nil),by rw[aai,aai];exact aag⟩
end
noncomputable def notTuple:Expr->Bool
 | .Tuple ..=>Ξ
 | _=>Θ
noncomputable def kU:Expr->Bool
 | .ListComp ..=>Ξ
 | .SetComp ..=>Ξ
 | .DictComp ..=>Ξ
 | _=>Θ
noncomputable def isName:Expr->Bool
 | .Name ..=>Θ
 | _=>Ξ
noncomputable def isTup:Expr->Bool
 | .Tuple ..=>Θ
 | _=>Ξ
noncomputable def Qw:Stmt->(List Expr->Expr->Bool)->Bool
 | .Assign ts v _,k=>k ts v
 | _,_=>Ξ
theorem oq {s:Stmt}{k:List Expr->Expr->Bool}(h:Qw s k=Θ):∃ ts v p,s=.Assign ts v p/\k ts v=Θ:=by
 induction s using zS with
 | Assign ts v p=>exact⟨ts,v,p,rfl,h⟩
 | _=>exact bT h
noncomputable def Tf:Expr->(List Expr->Bool)->Bool
 | .List es _,k=>k es
 | _,_=>Ξ
theorem sO {e:Expr}{k:List Expr->Bool}(h:Tf e k=Θ):∃ es p,e=.List es p/\k es=Θ:=by
 induction e using zE with
 | List es p=>exact⟨es,p,rfl,h⟩
 | _=>exact bT h
noncomputable def isAdd:Operator->Bool
 | .Add=>Θ
 | _=>Ξ
noncomputable def V9:Expr->(Expr->Expr->Bool)->Bool
 | .BinOp a o b _,k=>isAdd o&&k a b
 | _,_=>Ξ
theorem A9 {e:Expr}{k:Expr->Expr->Bool}(h:V9 e k=Θ):∃ a b p,e=.BinOp a .Add b p/\k a b=Θ:=by
 induction e using zE with
 | BinOp a o b p=>
  cases o with
  | Add=>exact⟨a,b,p,rfl,h⟩
  | _=>exact bT h
 | _=>exact bT h
noncomputable def Th:Expr->(Expr->Expr->Bool)->Bool
 | .Subscript a b _,k=>k a b
 | _,_=>Ξ
theorem sP {e:Expr}{k:Expr->Expr->Bool}(h:Th e k=Θ):∃ a b p,e=.Subscript a b p/\k a b=Θ:=by
 induction e using zE with
 | Subscript a b p=>exact⟨a,b,p,rfl,h⟩
 | _=>exact bT h
noncomputable def Qx (s:Stmt)(k:Expr->Expr->Bool):Bool:=Qw s fun ts v=>Ki ts fun t=>V9 v fun e r=>Tf r fun es=>Ki es fun z=>Tf z fun zs=>zs.isEmpty&&k t e
theorem Ba {s:Stmt}{k:Expr->Expr->Bool}(h:Qx s k=Θ):∃ t e lp lq bp pos,s=.Assign [t] (.BinOp e .Add (.List [.List [] lp] lq) bp) pos/\k t e=Θ:=by
 obtain⟨ts,v,p,rfl,h1⟩:=oq h;obtain⟨t,rfl,h2⟩:=eE h1;obtain⟨e,r,bp,rfl,h3⟩:=A9 h2;obtain⟨es,lq,rfl,h4⟩:=sO h3;obtain⟨z,rfl,h5⟩:=eE h4;obtain⟨zs,lp,rfl,h6⟩:=sO h5
 induction zs using zL with
 | nil=>exact⟨_,_,_,_,_,_,rfl,h6⟩
 | cons _ _=>exact bT h6
noncomputable def V' (s:Stmt)(k:Expr->Str->Expr->Bool):Bool:=Qw s fun ts v=>Ki ts fun t=>Th v fun o e=>Mf (fun x=>k t x e) o
theorem Bb {s:Stmt}{k:Expr->Str->Expr->Bool}(h:V' s k=Θ):∃ t x p e sp pos,s=.Assign [t] (.Subscript (.Name x p) e sp) pos/\k t x e=Θ:=by obtain⟨ts,v,p,rfl,h1⟩:=oq h;obtain⟨t,rfl,h2⟩:=eE h1;obtain⟨o,e,sp,rfl,h3⟩:=sP h2;obtain⟨x,p',rfl,h4⟩:=gf h3;exact⟨_,_,_,_,_,_,rfl,h4⟩
noncomputable def Wa:Stmt->(Expr->List Stmt->List Stmt->Bool)->Bool
 | .If c a b _,k=>k c a b
 | _,_=>Ξ
theorem Bc {s:Stmt}{k:Expr->List Stmt->List Stmt->Bool}(h:Wa s k=Θ):∃ c a b p,s=.If c a b p/\k c a b=Θ:=by
 induction s using zS with
 | If c a b p=>exact⟨c,a,b,p,rfl,h⟩
 | _=>exact bT h
noncomputable def Wb:Stmt->(Expr->Bool)->Bool
 | .Expr e _,k=>k e
 | _,_=>Ξ
theorem Bd {s:Stmt}{k:Expr->Bool}(h:Wb s k=Θ):∃ e p,s=.Expr e p/\k e=Θ:=by
 induction s using zS with
 | Expr e p=>exact⟨e,p,rfl,h⟩
 | _=>exact bT h
noncomputable def Wc:Expr->(Expr->Str->Pos->Bool)->Bool
 | .Attribute o n p,k=>k o n p
 | _,_=>Ξ
theorem Be {e:Expr}{k:Expr->Str->Pos->Bool}(h:Wc e k=Θ):∃ o n p,e=.Attribute o n p/\k o n p=Θ:=by
 induction e using zE with
 | Attribute o n p=>exact⟨o,n,p,rfl,h⟩
 | _=>exact bT h
noncomputable def alt (s:Stmt)(k:Str->Expr->Expr->Bool):Bool:=Qw s fun ts v=>Ki ts fun t=>Th t fun o e=>Mf (fun x=>k x e v) o
theorem Bf {s:Stmt}{k:Str->Expr->Expr->Bool}(h:alt s k=Θ):∃ y p e sp v vp,s=.Assign [.Subscript (.Name y p) e sp] v vp/\k y e v=Θ:=by obtain⟨ts,v,vp,rfl,h3⟩:=oq h;obtain⟨t,rfl,h4⟩:=eE h3;obtain⟨o,e,sp,rfl,h5⟩:=sP h4;obtain⟨y,p,rfl,h6⟩:=gf h5;exact⟨_,_,_,_,_,_,rfl,h6⟩
noncomputable def Wd (s:Stmt)(k:Str->Str->Bool->Expr->Bool):Bool:=Wb s fun b=>Ny b fun f ws F9=>Wc f fun o name apos=>Mf (fun y'=>Ki ws fun w=>k y' name (apos.endLine == F9.line) w) o
theorem Bg {s:Stmt}{k:Str->Str->Bool->Expr->Bool}(h:Wd s k=Θ):∃ y' p' name apos w F9 ep,s=.Expr (.Call (.Attribute (.Name y' p') name apos) [w] [] F9) ep/\k y' name (apos.endLine == F9.line) w=Θ:=by obtain⟨b,ep,rfl,h8⟩:=Bd h;obtain⟨f,ws,F9,rfl,h9⟩:=i5 h8;obtain⟨o,name,apos,rfl,K9⟩:=Be h9;obtain⟨y',p',rfl,L8⟩:=gf K9;obtain⟨w,rfl,MK⟩:=eE L8;exact⟨_,_,_,_,_,_,_,rfl,MK⟩
noncomputable def We (s:Stmt)(k:Expr->Str->Expr->Expr->Str->Str->Bool->Expr->Bool):Bool:=Wa s fun c a b=>Ki a fun a=>alt a fun y e v=>Ki b fun b=>Wd b fun y' name l w=>k c y e v y' name l w
theorem Bh {s:Stmt}{k:Expr->Str->Expr->Expr->Str->Str->Bool->Expr->Bool}(h:We s k=Θ):∃ c y p e sp v vp y' p' name apos w F9 ep pos,s=.If c [.Assign [.Subscript (.Name y p) e sp] v vp] [.Expr (.Call (.Attribute (.Name y' p') name apos) [w] [] F9) ep] pos/\k c y e v y' name (apos.endLine == F9.line) w=Θ:=by obtain⟨c,a,b,pos,rfl,h1⟩:=Bc h;obtain⟨a,rfl,h2⟩:=eE h1;obtain⟨y,p,e,sp,v,vp,rfl,h3⟩:=Bf h2;obtain⟨b,rfl,h4⟩:=eE h3;obtain⟨y',p',name,apos,w,F9,ep,rfl,h5⟩:=Bg h4;exact⟨_,_,_,_,_,_,_,_,_,_,_,_,_,_,_,rfl,h5⟩
noncomputable def pw (Z:Sg)(G:Gm)(i j:Nat)(e c x v w:IR)(s s':Stmt):Bool:=
 (V' s fun t xi se=>isName t&&dH G (.nm j) t&&fL G i xi&&dU se&&FZ Z G e se&&decide (i≠j)) &&
 We s' fun ce y se ve y' name l we=>FZ Z G c ce&&fL G j y&&dU se&&FZ Z G x se&&FZ Z G v ve&&fL G j y'&&name == "append"&&l&&notStar we&&FZ Z G w we
mutual
noncomputable def ou (Z:Sg)(G:Gm):IS->Stmt->Bool
 | .asg tg e,.Assign [t] v _=>dH G tg t&&FZ Z G e v&&(isName t||(isTup t&&notTuple v))
 | .Ie i k e,.Assign [.Subscript (.Name x _) s _] v _=>fL G i x&&dU s&&FZ Z G k s&&FZ Z G e v
 | .Nw j G' fr t src,s=>Qx s fun tg e=>isName tg&&dH G (.nm j) tg&&FZ Z G (.comp G' fr (.nm t) src [] (.lst [])) e
 | .ins i k e,.Expr (.Call (.Attribute (.Name x _) name apos) [s,v] [] F9) _=>fL G i x&&name == "insert"&&apos.endLine == F9.line&&(notStar s&&notStar v)&&FZ Z G k s&&FZ Z G e v
 | .app i e,.Expr (.Call (.Attribute (.Name x _) name apos) [v] [] F9) _=>fL G i x&&name == "append"&&apos.endLine == F9.line&&notStar v&&FZ Z G e v
 | .exp e,.Expr v _=>kU v&&FZ Z G e v
 | .ret e,.Return (Δ v) _=>FZ Z G e v
 | .Kg e,.Return (Δ v) _=>FZ Z G e v
 | .Gi t a b,.If c x y _=>FZ Z G t c&&dY Z G a x&&dY Z G b y
 | .GF tg s body,.For t it b [] _=>((G.cm&&G.rs)&&dH G tg t)&&(eI Z G s it&&g6 s t)&&dY Z G body b
 | .never,_=>Θ
 | _,_=>Ξ
noncomputable def dY (Z:Sg)(G:Gm):List IS->List Stmt->Bool
 | [],[]=>Θ
 | .LC i j e c x v w::as,s::s'::ss=>pw Z G i j e c x v w s s'&&dY Z G as ss
 | a::as,s::ss=>ou Z G a s&&dY Z G as ss
 | _,_=>Ξ
end
noncomputable def yd:IS->Bool
 | .LC _ _ _ _ _ _ _=>Θ
 | _=>Ξ
theorem ox {Z:Sg}{G:Gm}{a:IS}{as:List IS}{s:Stmt}{ss:List Stmt}(h:yd a=Ξ):dY Z G (a::as) (s::ss)=(ou Z G a s&&dY Z G as ss):=by
 induction a using zT<;>first|rfl|cases h
section
variable {Z:Sg}{CX:Ho}{cl:Nat->List D->Res D}{xp:XK->Hp->Str->Prop}{X:Cx}{ex:Str->Prop}{G:Gm}
theorem yf {tg:Tg}{t:Expr}(ht:dH G tg t=Θ){ga:Ev->Res (D×Ev)}{Dn:Ends}{σ:St}{H:Hp}(h:RS X.K G.io ex (fun τ=>Fu (ga τ) fun p=>Fu (dR tg p.1 p.2) fun τ'=>.ok (.nx τ')) Dn σ H):Aa (RO X.K ex ga) (gT X.K tg) Dn σ H:=by obtain⟨B,F,τ,f,m,q⟩:=h;refine m.ro (Fw.Fu q) fun p v H' F' fv f' o hp=>?_;obtain⟨m',hb⟩:=m.ow o;exact m'.gT o.rep o.GJ hb (gH tg t ht) (Fw.Fu hp) fun τ' F8 NJ LO h'=>h'.ok _ _ _ _ LO
theorem IL (g:Gx Z CX cl xp X ex G){tg:Tg}{e:IR}{t v:Expr}{pos:Pos}(ht:dH G tg t=Θ)(hv:FZ Z G e v=Θ)(hc:(isName t||(isTup t&&notTuple v))=Θ):PS X (.Assign [t] v pos) (RS X.K G.io ex (G3 cl (.asg tg e))):=by
 have pe:=LM e Ξ X ex G v g hv;have pg:=Mi g tg t ht
 induction t using zE with
 | Name x px=>
  cases tg with
  | tp _=>cases ht
  | nm i=>
   have Jn:(G.N[i]? == Δ x&&(G.kd[i]? == Δ .local||(G.df&&G.kd[i]? == Δ .cell)))=Θ:=(z_.mp ht).1;rw[g_,Y_,g_] at Jn;have hx:G.N[i]? = Δ x:=h_ Jn.1;have hk:=g.kd i x hx;have KZ:Loc X.env.scope x:=Jn.2.elim (fun z=>.inl (hk.trans (h_ z))) fun z=>.inr (hk.trans (h_ z.2));have Lm:X.fn x=Θ∨X.env.scope.names.lookup x=Δ .local:=Jn.2.elim (fun z=>.inr (hk.trans (h_ z))) fun z=>.inl (g.df z.1 x);have plain:swapsWith v (Δ (.Name x px)) pos.line X.env=pure Ξ->PS X (.Assign [.Name x px] v pos) (RS X.K G.io ex (G3 cl (.asg (.nm i) e))):=fun hs=>
    dC (nE (i:=i) (by rw[g.N];exact g.GJ) (by rw[g.N];exact hx) KZ pe hs Lm) fun Dn σ H h=>yf ht h
   induction v using zE with
   | ListComp el gens scope Kp=>
    have Ov:swapsWith (.ListComp el gens scope Kp) (Δ (.Name x px)) pos.line X.env=pure (X.env.blockKind == .function&&X.env.kindOf x == Δ .local&&px.line == Kp.line&&!(scope.names.any fun (n,k)=>n == x&&(k == .local||k == .cell))):=rfl;cases hb:(X.env.blockKind == .function&&X.env.kindOf x == Δ .local&&px.line == Kp.line&&!(scope.names.any fun (n,k)=>n == x&&(k == .local||k == .cell))) with
    | false=>exact plain (by rw[Ov,hb])
    | true=>
     rw[hb] at Ov;have Y5:X.env.kindOf x=Δ .local:=by simp only[g_] at hb;exact h_ hb.1.1.2
     cases e with
     | comp G' fr T src ifs elt=>
      have hv:oh gens (fun t it fs=>dy Z G scope G' fr&&dH G' T t&&(HU T).all (fun i=>decide (fr.length<=i))&&(eI Z G src it&&g6 src t)&&dj Z G' ifs fs&&FZ Z G' elt el)=Θ:=hv;obtain⟨t,it,fs,rfl,hv⟩:=iw hv;have h':(dy Z G scope G' fr&&dH G' T t&&(HU T).all (fun i=>decide (fr.length<=i))&&(eI Z G src it&&g6 src t)&&dj Z G' ifs fs&&FZ Z G' elt el)=Θ:=hv;simp only[g_] at h';have hs:=ix h'.1.1.1.1.1;have hT:=h'.1.1.1.1.2;have ha:∀ i∈HU T,fr.length<=i:=fun i hi=>q_ (V_.mp h'.1.1.1.2 i hi);intro pins s' σ H Dn Iv h;obtain⟨G8,S⟩:=fQ g Iv.ok hs;have p:=wb (py:=px) (spos:=pos) (i:=i) (pos:=Kp) (elt:=el) (ifs:=fs) (tg:=t) (g:=gT X.K T) (tt:=RT X.K Hw (cE ifs) (fJ cl ifs)) (te:=RD X.K Hw (vars elt) (Fz cl elt)) (g.calm hs.cm) (by rw[g.N];exact g.GJ) (by rw[g.N];exact hx) Y5 S (sL src X ex G it t g h'.1.1.2.1 h'.1.1.2.2) (fun C s H fp=>Mi (dv g hs G8 C s H fp) T t hT)
       (fun C s H fp=>sJ ifs _ Hw G' fs (dv g hs G8 C s H fp) h'.1.2) (fun C s H fp=>(snd elt _ Hw G' el (dv g hs G8 C s H fp) h'.2).1) Ov (fun x=>dN h'.1.1.2.1 X.env x)
      refine p pins s' σ H Dn Iv ?_;obtain⟨B,F,τ,f,m,q⟩:=h
      -- as one Y6 is kept
      have q0:Fw ex (Fu (Fu (Fz cl (.comp G' fr T src ifs elt) τ) fun d=>.ok (cB (.comp G' fr T src ifs elt) d τ)) fun p=>Fu (dR (.nm i) p.1 p.2) fun τ'=>.ok (.nx τ')) (Fk X.K B Dn):=q;have q1:=Fw.Fu (Fw.Fu q0);have fin:∀ (d:D) (v:V) (H':Hp) (F':Ω->Prop) (fv f':List Ω),Ow X.K F H f F' H' σ v (cB (.comp G' fr T src ifs elt) d τ).1 fv (cB (.comp G' fr T src ifs elt) d τ).2 f'->(∀ (p:D×Ev),p=cB (.comp G' fr T src ifs elt) d τ->Fw ex (Fu (dR (.nm i) p.1 p.2) fun τ'=>.ok (.nx τ')) (Fk X.K B Dn))->Dn.nx (σ.set i (Δ v)) H':=by intro d v H' F' fv f' o hp;obtain⟨m',Il⟩:=m.ow o;have:=m'.gT (t:=.nm i) (Q:=Dn.nx) o.rep o.GJ Il (gH _ _ ht) (Fw.Fu (hp _ rfl)) fun τ' F8 NJ LO h'=>h'.ok _ _ _ _ LO;exact this
      cases z:Fz cl (.comp G' fr T src ifs elt) τ with
      | error er=>
       rw[z] at q1;cases er with
       | stuck=>exact q1.no.elim
       | exc c=>refine fC (S:=fun _=>True) (τ:=τ) (ex:=ex) (Kt:=fun _=>False) hs.OV ha (cV m.GL) ?_ fun A ys ds H' e hA Le mm k=>k.elim;show Fw ex (Fz cl (.comp G' fr T src ifs elt) τ) _;rw[z];exact q1
      | ok d=>
       rw[z] at q1;have q2:=q1.ok.ok;obtain⟨o',ds,rfl⟩:∃ o ds,d=.lst o ds:=by have zz:=z;rw[ja] at zz;obtain⟨its,_,zz⟩:=eD zz;obtain⟨_,zz⟩:=n0 zz;obtain⟨ds,_,zz⟩:=eD zz;cases zz;exact⟨Θ,ds,rfl⟩
       by_cases hi:ck ds=Θ
       ·have LJ:cB (.comp G' fr T src ifs elt) (.lst o' ds) τ=(.lst Θ ds,τ):=by unfold cB;rw[d_ (show ¬ cq (.lst o' ds)=Θ by intro z;cases z)];show (if ck ds=Θ then _ else _)=_;rw[f_ hi]
        refine fC (S:=fun _=>True) (τ:=τ) (ex:=ex) (Kt:=fun d'=>∃ OZ,d'=.lst OZ ds) hs.OV ha (cV m.GL) ?_ fun A ys ds' H' e hA Le mm k=>?_
        ·show Fw ex (Fz cl (.comp G' fr T src ifs elt) τ) _;rw[z];exact⟨o',rfl⟩
        ·obtain⟨OZ,k⟩:=k;cases k;obtain⟨k1,k2,k3⟩:=gI m.Gg m.GL e;refine fin (.lst o' ds) (.ref A) H' F [A] f ?_ (fun p hp=>by subst hp;exact q2);rw[LJ];refine⟨k3,k1,.GY (fun zz=>m.Gg A zz hA) Le (mm.free hi),k2,?_,fun a ha=>?_⟩
         ·rw[aaB,K_];refine⟨fun zz=>?_,m.GJ⟩;obtain⟨_,xs,e⟩:=m.GL.own A zz;rw[hA] at e;cases e
         ·rw[aaB] at ha;rcases k_.mp ha with rfl|ha
          ·exact .inr hA
          ·exact .inl ha
       ·have LJ:cB (.comp G' fr T src ifs elt) (.lst o' ds) τ=(.lst Θ (FA ds),Gh (vars (.comp G' fr T src ifs elt)) τ):=by unfold cB;rw[d_ (show ¬ cq (.lst o' ds)=Θ by intro z;cases z)];show (if ck ds=Θ then _ else _)=_;rw[d_ hi]
        obtain⟨F1,gg,b1,b2,b3,b4,b5,b6⟩:=gJ (vars (.comp G' fr T src ifs elt)) m.Gg m.GL m.GJ;refine fC (S:=F1) (τ:=τ) (ex:=ex) (Kt:=fun d'=>∃ OZ,d'=.lst OZ ds) hs.OV ha b6 ?_ fun A ys ds' H' e hA Le mm k=>?_
        ·show Fw ex (Fz cl (.comp G' fr T src ifs elt) τ) _;rw[z];exact⟨o',rfl⟩
        ·obtain⟨OZ,k⟩:=k;cases k;obtain⟨c1,c2,c3⟩:=grow (fun a=>a≠A) b1 b2 e;have m2:Fv X.K (fun a=>F1 a∨(a≠A/\H a=Φ/\H' a≠Φ)) H' ys ds:=mm.step (fun a xs h r=>⟨h.1.elim (fun z=>.inl z) fun z=>.inr ⟨h.2,z,r.some⟩,r⟩) fun a xs h=>h;refine fin (.lst o' ds) (.ref A) H' (fun a=>F1 a∨(a≠A/\H a=Φ/\H' a≠Φ)) [A] gg ?_ (fun p hp=>by subst hp;exact q2);rw[LJ];refine⟨b4.trans c3 (fun x hx=>.inl (b5 x hx)),c1,.GY (fun zz=>?_) Le m2.frozen,c2,?_,fun a ha=>?_⟩
         ·rcases zz with zz|zz
          ·exact b1 A zz hA
          ·exact zz.1 rfl
         ·rw[aaB,K_];refine⟨fun zz=>?_,b3⟩;obtain⟨_,xs,e⟩:=b2.own A zz;rw[hA] at e;cases e
         ·rw[aaB] at ha;rcases k_.mp ha with rfl|ha
          ·exact .inr hA
          ·exact .inl (b5 a ha)
     | _=>first|exact bT hv|cases hv
   | SetComp _ _ _ _=>cases e<;>first|exact bT hv|cases hv
   | DictComp _ _ _ _ _=>cases e<;>first|exact bT hv|cases hv
   | _=>exact plain rfl
 | Tuple ts k px=>
  have Nn:notTuple v=Θ:=hc;refine dC (nC pe pg ?_ ?_ rfl) fun Dn σ H h=>yf ht h
  ·induction v using zE<;>rfl
  ·induction v using zE<;>first|rfl|cases Nn
 | _=>cases hc
end
theorem Fy.Y7 {K:Frag}{F:Ω->Prop}{H:Hp}{vs:List V}{ds:List D}{f:List Ω}(h:Fy K F H vs ds f)(n:ck ds=Θ):f=[]:=by refine Fy.rec (motive_1:=fun _ d f _=>cq d=Θ->f=[]) (motive_2:=fun _ d f _=>ck d=Θ->f=[]) (fun _=>rfl) (fun _ _=>rfl) (fun _ _=>rfl) (fun _ _=>rfl) (fun _ _=>rfl) (fun _ _ i z=>i z) (fun _ _ _ _ _=>rfl) (fun _ _ _ _=>rfl) (fun _ _ _ _ z=>bT z) (fun _ _ _ _ _ _=>rfl) (fun _ _ _ _ _ z=>bT z) (fun _=>rfl) (fun {v d f vs ds g} _ _ i j z=>?_) h n;have z':=z_.mp (show (cq d&&ck ds)=Θ from z);rw[i z'.1,j z'.2];rfl
section
variable {K:Frag}{F:Ω->Prop}{H:Hp}
theorem F6.parts {v:V}{o:Bool}{es:List D}{fv:List Ω}(h:F6 K F H v (.lst o es) fv):∃ b zs fe h',v=.ref b/\GV K H b zs/\Fy K F H zs es fe/\(fe++h').Perm fv:=by
 cases h with
 | Jy h0 h1 h2=>exact⟨_,_,[],[],rfl,.inl h1,h2,.refl _⟩
 | lstK h1 h2=>exact⟨_,_,[],[],rfl,h1.sq,h2,.refl _⟩
 | @GY a xs ds f h0 h1 h2=>exact⟨a,_,f,[a],rfl,.inl (.inl h1),h2,aag (l₁:=f) (l₂:=[a])⟩
theorem Fy.split (n:Nat){vs:List V}{ds:List D}{f:List Ω}(h:Fy K F H vs ds f):∃ f1 f2,Fy K F H (vs.take n) (ds.take n) f1/\Fy K F H (vs.drop n) (ds.drop n) f2/\f1++f2=f:=by
 revert n;refine Fy.ind (P:=fun vs ds f=>∀ n,∃ f1 f2,Fy K F H (vs.take n) (ds.take n) f1/\Fy K F H (vs.drop n) (ds.drop n) f2/\f1++f2=f) (fun n=>⟨[],[],by rw[List.take_nil,List.take_nil];exact .nil,by rw[List.drop_nil,List.drop_nil];exact .nil,rfl⟩) (fun v d f vs ds g a b j n=>?_) h;cases n with
 | zero=>exact⟨[],f++g,.nil,.cons a b,rfl⟩
 | succ n=>obtain⟨f1,f2,h1,h2,h3⟩:=j n;exact⟨f++f1,f2,.cons a h1,h2,by rw[B_,h3]⟩
end
section
variable {Z:Sg}{CX:Ho}{cl:Nat->List D->Res D}{xp:XK->Hp->Str->Prop}{X:Cx}{ex:Str->Prop}{G:Gm}
theorem kW {K:Frag}{F:Ω->Prop}{H:Hp}{σ:St}{τ:Ev}{f:List Ω}{i:Nat}{ds:List D}(r:Gk K F H σ τ f)(hs:cp τ i=Δ (.lst Θ ds)):∃ l xs,σ[i]? = Δ (Δ (.ref l))/\H l=Δ (.lst xs)/\xs.length=ds.length:=by
 obtain⟨v,fs,g,h1,h2,h3,h4⟩:=r.at hs;cases h2 with
 | GY hF hH hm=>exact⟨_,_,h1,hH,hm.length⟩
theorem IM (g:Gx Z CX cl xp X ex G){i:Nat}{k e:IR}{x:Str}{p apos F9 pos:Pos}{s v:Expr}(h1:fL G i x=Θ)(h2:(apos.endLine == F9.line)=Θ)(h3:notStar s=Θ)(Ti:notStar v=Θ)(h4:FZ Z G k s=Θ)(h5:FZ Z G e v=Θ) :
  PS X (.Expr (.Call (.Attribute (.Name x p) "insert" apos) [s,v] [] F9) pos) (RS X.K G.io ex (G3 cl (.ins i k e))):=by
 have pa:PA X [s,v] (iF (RD X.K ex (vars k) (Fz cl k)) (iF (RO X.K ex (Gu cl Ξ e)) qj)):=cS (snd k X ex G s g h4).1 (cS (LM e Ξ X ex G v g h5) dw (bU Ti _ _)) (bU h3 _ _);have Ib:((backTo F9 (Ν [s,v] X.env)).all (fun x=>!x.1)&&(backToKw F9 (keywordEach [] X.env)).all (fun x=>x.1.isSome)&&decide ([s,v].length+([]:List Keyword).length+(if ([]:List Keyword).isEmpty then 0 else 1) < 30))=Θ:=by rw[bU h3,bU Ti];rfl
 refine dC (ip (jM PySem.F.plainAttrs_list PySem.F.slot_list_insert PySem.F.type_list_insert AJ (jb g h1) pa rfl Ib h2 (bU h3 _ _) (by rw[bU Ti];rfl))) fun Dn σ H h=>?_;obtain⟨B,F,τ,f,m,q⟩:=h;have q0:Fw ex (match cp τ i with|some (.lst _ _)=>(Fu (Fz cl k τ) fun y=>Fu (Gu cl Ξ e τ) fun p=>(match y,cp p.2 i with|.int z,Δ (.lst Θ ds)=>FE (decide (0<=z/\z.toNat<=ds.length)&&dP ds.length) (.ok (.nx (p.2.set i (Δ (.lst Θ (ds.take z.toNat++p.1::ds.drop z.toNat))))))|_,_=>F5))|_=>F5) (Fk X.K B Dn):=q;cases z0:cp τ i with
 | none=>rw[z0] at q0;exact q0.no.elim
 | some d0=>
  rw[z0] at q0
  induction d0 using zD with
  | lst o0 Td=>
   obtain⟨v0,Y8,g0,a1,a2,a3,a4⟩:=m.GL.at z0;obtain⟨l,Qy,_,_,rfl,hq,_⟩:=a2.parts;refine⟨.ref l,a1,.inl ⟨rfl,Qy,hq⟩,m.rd (Fw.Fu q0) fun y w H1 m1 e1 mw q1=>?_⟩;refine m1.ro (Fw.Fu q1) fun p v H' F' fv f' o hp=>?_;obtain⟨m',hb⟩:=m1.ow o
   induction y using zD with
   | int z=>
    cases mw.Ga;cases zs:cp p.2 i with
    | none=>simp only[zs] at hp;exact hp.no.elim
    | some d=>
     simp only[zs] at hp
     induction d using zD with
     | lst ow ds=>
      induction ow using zB with
      | false=>exact hp.no.elim
      | true=>
       obtain⟨gd,hp⟩:=Fw.FE hp;rw[g_] at gd;have gz:0<=z/\z.toNat<=ds.length:=q_ gd.1;obtain⟨l',xs,Hx,hl,hlen⟩:=kW m'.GL zs;rw[a1] at Hx;cases Hx;obtain⟨NJ,m3⟩:=m'.write (ys:=xs.take z.toNat++v::xs.drop z.toNat) (ds':=ds.take z.toNat++p.1::ds.drop z.toNat) zs a1 hl o.rep o.GJ hb fun fi hm=>by obtain⟨f1,f2,s1,s2,s3⟩:=hm.split z.toNat;refine⟨f1++(fv++f2),[],s1.append (.cons o.rep s2),?_⟩;rw[aai,<- s3,<- B_,<- B_];exact List.Perm.append_right _ aag
       exact⟨l,xs,z,v,rfl,rfl,hl,gz.1,by rw[hlen];exact gz.2,by rw[hlen];exact gD gd.2,hp.ok _ _ _ _ m3⟩
     | _=>exact hp.no.elim
   | _=>exact hp.no.elim
  | _=>exact q0.no.elim
end
theorem mR {K:Frag}{F:Ω->Prop}{H:Hp}:∀ {σ:St}{n:Nat},σ.length=n->Gk K F H σ (Τ n Φ) []
 | [],0,_=>.nil
 | _::σ,n+1,h=>.none (mR (by simpa using h))
section
variable {Z:Sg}{CX:Ho}{cl:Nat->List D->Res D}{xp:XK->Hp->Str->Prop}{X:Cx}{ex:Str->Prop}{G:Gm}{pins:List (Ω×Obj)}
theorem GH.put {io:Option Nat}{B:Bs io}{F:Ω->Prop}{H:Hp}{σ:St}{τ:Ev}{f fv:List Ω}{v:V}{d:D}(i:Nat)(m:GH X.K B F H σ τ f)(mv:F6 X.K F H v d fv)(nd:(fv++f).Nodup)(hb:∀ a∈fv,B.H a=Φ)(Ko:io≠Δ i):∃ f',GH X.K B F H (σ.set i (Δ v)) (τ.set i (Δ d)) f':=by obtain⟨g',h',r0,p0⟩:=m.GL.put i mv;have Qz:(g'++h').Nodup:=p0.nodup_iff.mpr nd;exact⟨g',m.Gg,r0,(t_.mp Qz).1,m.same,fun b Il=>(v_.mp (p0.subset (r_ _ Il))).elim (hb b) (m.own b),m.Iq,m.out,m.pin,m.Lh,fun j a e1 e2=>(aau (fun z=>Ko (by rw[z];exact e1))).trans (m.nm j a e1 e2)⟩
end
theorem C5 {a b:Ω}{H:Hp}(h:b≠a):rm a H b=H b:=d_ h
theorem pA {a:Ω}{H:Hp}:rm a H a=Φ:=f_ rfl
theorem w8 {a b:Ω}{H:Hp}{u:HO}(h:rm a H b=Δ u):H b=Δ u/\b≠a:=by
 by_cases e:b=a
 ·rw[e,pA] at h;cases h
 ·rw[C5 e] at h;exact⟨h,e⟩
theorem C6 {a:Ω}{H:Hp}:cz (rm a H) H:=fun b u h=>(w8 h).1
theorem Bj {σ:St}{i:Nat}{v:V}(Hx:σ[i]? = Δ (Δ v)):σ.set i (Δ v)=σ:=by
 apply List.ext_getElem?;intro j;rw[List.getElem?_set];by_cases hj:i=j
 ·subst hj;rw[f_ rfl,f_ (x_.mp Hx).1,Hx]
 ·rw[d_ hj]
theorem Fy.part {K:Frag}{F:Ω->Prop}{H:Hp}{es:List D}:∀ (ds:List D) (k:Nat) (vs:List V) (f:List Ω),Fy K F H vs ds f->ds[k]? = Δ (.lst Θ es)->∃ l xs fi p q,vs[k]? = Δ (.ref l)/\¬ F l/\H l=Δ (.lst xs)/\Fy K F H xs es fi/\f=p++((l::fi)++q)/\
  ∀ (H':Hp) (es':List D),(∀ a (u:LD),F a->Rd H a u.o->F a/\Rd H' a u.o)->(∀ a xs,G2 K H a xs->G2 K H' a xs)->(∀ a∈p++q,H' a=H a)->F6 K F H' (.ref l) (.lst Θ es') (l::fi)->Fy K F H' vs (ds.set k (.lst Θ es')) f:=by
 intro ds
 induction ds with
 | nil=>intro k vs f h hk;simp at hk
 | cons d ds ih=>
  intro k vs f h hk;cases h with
  | @cons v _ f0 OG _ g0 h1 h2=>
   cases k with
   | zero=>
    rw[List.getElem?_cons_zero] at hk;cases hk;cases h1 with
    | @GY a xs _ fi hF hH hm=>refine⟨a,xs,fi,[],g0,rfl,hF,hH,hm,rfl,fun H' es' sl st k m=>?_⟩;exact .cons m (h2.step sl st fun b hb n _=>⟨n,k b (by simpa using hb)⟩)
   | succ k=>rw[aaG] at hk;obtain⟨l,xs,fi,p,q,a1,a2,a3,a4,a5,a6⟩:=ih k OG g0 h2 hk;refine⟨l,xs,fi,f0++p,q,by rw[aaG];exact a1,a2,a3,a4,by rw[a5,B_],fun H' es' sl st k m=>?_⟩;exact .cons (h1.step sl st fun b hb n _=>⟨n,k b (r_ _ (r_ _ hb))⟩) (a6 H' es' sl st (fun b hb=>k b ((v_.mp hb).elim (fun z=>r_ _ (s_ _ z)) fun z=>s_ _ z)) m)
theorem GH.K0 {K:Frag}{io:Option Nat}{B:Bs io}{F:Ω->Prop}{H:Hp}{σ:St}{τ:Ev}{f:List Ω}{i k:Nat}{ds es es':List D}(m:GH K B F H σ τ f)(zs:cp τ i=Δ (.lst Θ ds))(hk:ds[k]? = Δ (.lst Θ es))(lf:ck es=Θ)(Tj:ck es'=Θ) :
  ∃ a l xs ys,σ[i]? = Δ (Δ (.ref a))/\H a=Δ (.lst xs)/\xs[k]? = Δ (.ref l)/\xs.length=ds.length/\H l=Δ (.lst ys)/\ys.length=es.length/\Fv K (fun _=>True) H ys es/\
   ∀ zs,Fv K (fun _=>True) H zs es'->∃ f',GH K B F (upd H l (.lst zs)) σ (τ.set i (Δ (.lst Θ (ds.set k (.lst Θ es'))))) f':=by
 obtain⟨v,fs,g,Hx,h2,hr,h4⟩:=m.GL.at zs;cases h2 with
 | @GY a xs Td fi hF hH hm=>
  obtain⟨l,ys,fj,p,q,b1,b2,b3,b4,b5,put⟩:=Fy.part ds k xs fi hm hk;have ej:=b4.Y7 lf;subst ej;refine⟨a,l,xs,ys,Hx,hH,b1,hm.length,b3,b4.length,b4.read (fun _ _=>trivial) fun _ _=>trivial,fun zs hz=>?_⟩;subst b5;have Qz:((a::(p++([l]++q)))++g).Nodup:=h4.nodup_iff.mp m.GJ;have pm:((a::(p++([l]++q)))++g).Perm (l::(a::(p++q++g))):=by simp only[c_,B_,List.nil_append];refine(List.Perm.cons a List.perm_middle).trans ?_;exact List.Perm.swap _ _ _
  have nl:l∉a::(p++q++g):=(K_.mp (pm.nodup_iff.mp Qz)).1;have al:a≠l:=fun z=>nl (by rw[z];exact k_.mpr (.inl rfl));have sl:∀ b (u:LD),F b->Rd H b u.o->F b/\Rd (upd H l (.lst zs)) b u.o:=fun b xs h r=>by refine⟨h,?_⟩;have:b≠l:=fun z=>b2 (by rw[<- z];exact h);unfold Rd;rw[cu this];exact r
  have st:∀ b xs,G2 K H b xs->G2 K (upd H l (.lst zs)) b xs:=fun b xs h=>h.upd b3;have r1:Gk K F (upd H l (.lst zs)) σ (τ.set i Φ) g:=hr.step sl st fun b ha n _=>⟨n,cu fun z=>nl (by rw[<- z];exact I_ _ (s_ _ ha))⟩
  have mz:Fy K F (upd H l (.lst zs)) zs es' []:=(Fv.free Tj hz).step sl st dB;have m0:F6 K F (upd H l (.lst zs)) (.ref l) (.lst Θ es') [l]:=.GY b2 cv mz;have m1:F6 K F (upd H l (.lst zs)) (.ref a) (.lst Θ (ds.set k (.lst Θ es'))) (a::(p++([l]++q))):=.GY hF (by rw[cu al];exact hH) (put _ _ sl st (fun b hb=>cu fun z=>nl (by rw[<- z];exact I_ _ (r_ _ hb))) m0);obtain⟨g',h',r2,p2⟩:=r1.put i m1;rw[Bj Hx,List.set_set] at r2;have LK:(g'++h').Nodup:=p2.nodup_iff.mpr Qz;have lB:B.H l=Φ:=m.own l (h4.mem_iff.mpr (by simp));refine⟨g',fun b h=>?_,r2,(t_.mp LK).1,fun b o M8=>?_,fun b ha=>?_,m.Iq,m.out,fun b xs h=>⟨(m.pin b xs h).1,(sl b xs (m.pin b xs h).1 (m.pin b xs h).2).2⟩,fun b xs h=>st b xs (m.Lh b xs h),m.nm⟩
  ·have:b≠l:=fun z=>b2 (by rw[<- z];exact h);rw[cu this];exact m.Gg b h
  ·have:b≠l:=fun z=>by rw[z,lB] at M8;cases M8
   rw[cu this];exact m.same _ _ M8
  ·exact m.own b (h4.mem_iff.mpr (p2.mem_iff.mp (r_ _ ha)))
section
variable {K:Frag}{io:Option Nat}{B:Bs io}{F:Ω->Prop}{H:Hp}{σ:St}{τ:Ev}{f:List Ω}
theorem gM {is:List Nat}(r:Gk K F H σ τ f){v:V}{d:D}(hv:Fx K (fun _=>True) H v d)(j:Nat):Slots K (fun _=>True) H (σ.set j (Δ v)) (τ.set j (Δ d)) is:=fun a ha d' z=>by
 by_cases hj:j=a
 ·subst hj;rw[g8] at z;by_cases hl:j < τ.length
  ·rw[f_ ⟨rfl,hl⟩] at z;cases z;exact⟨v,List.getElem?_set_self (by rw[r.len];exact hl),hv⟩
  ·rw[d_ (fun z=>hl z.2)] at z;obtain⟨_,_,_,h,_⟩:=r.at z;have:=(x_.mp h).1;rw[r.len] at this;exact absurd this hl
 ·rw[g8,d_ (fun z=>hj z.1)] at z;obtain⟨v',h1,h2⟩:=cV (is:=[a]) r a (u_.mpr rfl) d' z;exact⟨v',by rw[aau hj];exact h1,h2⟩
theorem Gk.forget:∀ {σ:St}{τ:Ev}{f:List Ω} (j:Nat) (o:Option V),Gk K F H σ τ f->∃ g h,Gk K F H (σ.set j o) (τ.set j Option.none) g/\(g++h).Perm f
 | _,_,_,_,_,.nil=>⟨[],[],.nil,.refl _⟩
 | _,_,_,0,_,.none h=>⟨_,[],.none h,by rw[aai]⟩
 | _,_,_,0,_,.some (f:=f0) (g:=g0) m h=>⟨g0,f0,.none h,aag⟩
 | _,_,_,j+1,o,.none h=>by obtain⟨g,h',h1,h2⟩:=Gk.forget j o h;exact⟨g,h',.none h1,h2⟩
 | _,_,_,j+1,o,.some (f:=f0) (g:=g0) m h=>by obtain⟨g,h',h1,h2⟩:=Gk.forget j o h;exact⟨f0++g,h',.some m h1,by rw[B_];exact aal f0 h2⟩
theorem GH.forget (m:GH K B F H σ τ f)(j:Nat)(o:Option V)(hj:io≠Δ j):∃ f',GH K B F H (σ.set j o) (τ.set j Φ) f':=by
 obtain⟨g,h,r,p⟩:=m.GL.forget j o;have nd:(g++h).Nodup:=p.nodup_iff.mpr m.GJ
 exact⟨g,m.Gg,r,(t_.mp nd).1,m.same,fun a ha=>m.own a (p.mem_iff.mp (r_ _ ha)),m.Iq,m.out,m.pin,m.Lh,fun j' a e1 e2=>by
  rw[aau (fun z=>hj (by rw[z];exact e1))]
  exact m.nm j' a e1 e2⟩
end
section
variable {Z:Sg}{CX:Ho}{cl:Nat->List D->Res D}{xp:XK->Hp->Str->Prop}{X:Cx}{ex:Str->Prop}{G:Gm}
theorem pC:∀ {τ:Ev}{j:Nat},nY τ j=Θ->j < τ.length
 | [],_,h=>by cases h
 | _::_,0,_=>Nat.succ_pos _
 | _::τ,j+1,h=>Nat.succ_lt_succ (pC (τ:=τ) h)
theorem Fv.O0 {K:Frag}{S:Ω->Prop}{H:Hp}{v:V}{d:D}(hv:Fx K S H v d):∀ {vs:List V}{ds:List D} (t:Nat),Fv K S H vs ds->Fv K S H (vs.set t v) (ds.set t d)
 | _,_,_,.nil=>.nil
 | _,_,0,.cons h1 h2=>.cons hv h2
 | _,_,t+1,.cons h1 h2=>.cons h1 (Fv.O0 hv t h2)
theorem pD {d:D}(hd:cq d=Θ):∀ {ds:List D} (t:Nat),ck ds=Θ->ck (ds.set t d)=Θ
 | [],_,h=>h
 | e::ds,0,h=>by have h':=z_.mp (show (cq e&&ck ds)=Θ from h);show (cq d&&ck ds)=Θ;rw[hd,h'.2];rfl
 | e::ds,t+1,h=>by have h':=z_.mp (show (cq e&&ck ds)=Θ from h);show (cq e&&ck (ds.set t d))=Θ;rw[h'.1,pD hd t h'.2];rfl
theorem sQ {d:D}(hd:cq d=Θ){ds:List D}(h:ck ds=Θ):ck (ds++[d])=Θ:=by rw[dg] at h ⊢;rw[List.all_append,h];show (cq d&&Θ)=Θ;rw[hd];rfl
theorem xb (g:Gx Z CX cl xp X ex G){i j:Nat}{e c x v w:IR}{s s':Stmt}{ss:List Stmt}{as:List IS}(h:pw Z G i j e c x v w s s'=Θ)(hr:I0 X ss (RS X.K G.io ex (cI cl as))):I0 X (s::s'::ss) (RS X.K G.io ex (cI cl (.LC i j e c x v w::as))):=by
 unfold pw at h;rw[g_] at h;obtain⟨ha,hb⟩:=h;obtain⟨t,xi,p1,se,sp,To,rfl,NF⟩:=Bb ha;obtain⟨ce,y,p2,sx,Y9,ve,vp,y',p3,name,apos,we,F9,ep,Y',rfl,Il⟩:=Bh hb;simp only[g_] at NF Il;obtain⟨⟨⟨⟨⟨hn,hT⟩,hi⟩,Za⟩,he⟩,Wg⟩:=NF;obtain⟨⟨⟨⟨⟨⟨⟨⟨⟨hc,Zb⟩,Zc⟩,hx⟩,hv⟩,LP⟩,O1⟩,Zd⟩,GI⟩,hw⟩:=Il;have Wg:i≠j:=q_ Wg;have en:=h_ O1;subst en
 induction t using zE with
 | Name yt py=>
  have Jn:(G.N[j]? == Δ yt&&(G.kd[j]? == Δ .local||(G.df&&G.kd[j]? == Δ .cell)))=Θ:=(z_.mp hT).1;have Tp:G.io≠Δ j:=by simpa using(z_.mp hT).2
  rw[g_,Y_,g_] at Jn;have Wh:G.N[j]? = Δ yt:=h_ Jn.1;have hk:=g.kd j yt Wh;have KZ:Loc X.env.scope yt:=Jn.2.elim (fun z=>.inl (hk.trans (h_ z))) fun z=>.inr (hk.trans (h_ z.2));have Lm:X.fn yt=Θ∨X.env.scope.names.lookup yt=Δ .local:=Jn.2.elim (fun z=>.inr (hk.trans (h_ z))) fun z=>.inl (g.df z.1 yt);have P1:PS X (.Assign [.Name yt py] (.Subscript (.Name xi p1) se sp) To) _:=nE (i:=j) (by rw[g.N];exact g.GJ) (by rw[g.N];exact Wh) KZ (xY oO (jb g hi) (snd e X ex G se g he).1 (fun o i=>by cases se<;>first|rfl|cases Za)) rfl Lm;have Pa:PS X (.Assign [.Subscript (.Name y p2) sx Y9] ve vp) _:=nC (snd v X ex G ve g hv).1 (qY (jb g Zb) (snd x X ex G sx g hx).1 set_list (by intro _;cases sx<;>first|rfl|cases Zc)) (by cases ve<;>rfl) (by cases ve<;>rfl) rfl;have pa:PA X [we] (iF (RD X.K ex (vars w) (Fz cl w)) qj):=cS (snd w X ex G we g hw).1 dw (bU GI _ _);have Ib:((backTo F9 (Ν [we] X.env)).all (fun x=>!x.1)&&(backToKw F9 (keywordEach [] X.env)).all (fun x=>x.1.isSome)&&decide ([we].length+([]:List Keyword).length+(if ([]:List Keyword).isEmpty then 0 else 1) < 30))=Θ:=by rw[bU GI];rfl
  have Pb:PS X (.Expr (.Call (.Attribute (.Name y' p3) "append" apos) [we] [] F9) ep) _:=ip (jM PySem.F.plainAttrs_list PySem.F.slot_list_append PySem.F.type_list_append gQ (jb g LP) pa rfl Ib Zd (bU GI _ _) rfl);refine fN (fy P1 (fy (xU (snd c X ex G ce g hc).2 (fy Pa il) (fy Pb il)) hr)) fun Dn σ H ⟨B,F,τ,f,m,q⟩=>?_;have Ze:=Fw.Fu (show Fw ex (Fu (r6 cl i j e c x v w τ (cp τ i)) fun fl=>match fl with|.nx τ'=>cI cl as τ'|.ct τ'=>.ok (.ct τ')|.bk τ'=>.ok (.bk τ')|.rt d=>.ok (.rt d)|.ri d ks vs=>.ok (.ri d ks vs)) (Fk X.K B Dn) from q);obtain⟨KK,Wi,q0⟩:∃ KK:Fl->Prop,(∀ τ',KK (.nx τ')->Fw ex (cI cl as τ') (Fk X.K B Dn))/\Fw ex (r6 cl i j e c x v w τ (cp τ i)) KK:=⟨_,fun τ' z=>z,Ze⟩
  cases zs:cp τ i with
  | none=>rw[zs] at q0;exact q0.no.elim
  | some dd=>
   rw[zs] at q0
   induction dd using zD with
   | lst ow ds=>
    induction ow using zB with
    | false=>exact q0.no.elim
    | true=>
     have q1:=Fw.Fu (show Fw ex (Fu (Fz cl e τ) (wI cl i j c x v w ds τ)) KK from q0);obtain⟨l0,Qy,Hx,SE,hlen⟩:=kW m.GL zs;refine⟨.ref l0,Hx,m.rd q1 fun yv wv H1 m1 e1 mw q2=>?_⟩
     induction yv using zD with
     | int z=>
      cases mw.Ga;have q2:Fw ex (nZ cl i j c x v w ds τ (Hg ds.length z)) KK:=q2;cases Tq:Hg ds.length z with
      | none=>rw[Tq] at q2;exact q2.no.elim
      | some k=>
       rw[Tq] at q2;cases QA:ds[k]? with
       | none=>unfold nZ at q2;simp only[QA] at q2;exact q2.no.elim
       | some dk=>
        have q3:Fw ex (match (Δ dk:Option D) with|some (.lst Θ es)=>FE (ck es&&nY τ j) (Fu (Fu (Fz cl c (τ.set j (Δ (.lst Θ es)))) cM) (qE cl i j k x v w ds es τ))|_=>F5) KK:=by unfold nZ at q2;simp only[QA] at q2;exact q2
        induction dk using zD with
        | lst ow es=>
         induction ow using zB with
         | false=>exact q3.no.elim
         | true=>
          obtain⟨Tr,q4⟩:=Fw.FE q3;rw[g_] at Tr;have O6:=Tr.1;have Tt:j < σ.length:=by rw[m.GL.len];exact pC Tr.2
          obtain⟨a,l,xs,ys,b1,b2,b3,b4,b5,b6,b7,_⟩:=m1.K0 (es':=es) zs QA O6 O6;rw[Hx] at b1;cases b1;have Tu:Fx X.K (fun _=>True) H1 (.ref l) (.lst Θ es):=.lst trivial (.inl b5) b7;refine⟨l0,xs,z,.ref l,rfl,rfl,.inl (.inl b2),?_,?_⟩
          ·unfold Hh;rw[b4,Tq];exact b3
          ·have q5:=Fw.Fu q4;refine fW (.refl _) (gM m1.GL Tu j) q5 fun r H2 e2 _ q6=>?_;have m2:=m1.grow e2;have M9:Fx X.K (fun _=>True) H2 (.ref l) (.lst Θ es):=Tu.mono (fun _ z=>z) e2;have LI:H2 l=Δ (.lst ys):=e2 _ _ b5;have fin:∀ (H3:Hp) (e3:cz H2 H3) (es':List D) (QB:List V),ck es'=Θ->Fv X.K (fun _=>True) H3 QB es'->Fw ex (cI cl as ((τ.set i (Δ (.lst Θ (ds.set k (.lst Θ es'))))).set j Φ)) (Fk X.K B Dn)->RS X.K G.io ex (cI cl as) Dn (σ.set j (Δ (.ref l))) (upd H3 l (.lst QB)):=by intro H3 e3 es' QB Tj hz hq;have m3:=m2.grow e3;obtain⟨a',l',Sa,Yh,c1,c2,c3,c4,c5,c6,c7,wr⟩:=m3.K0 (es':=es') zs QA O6 Tj;rw[Hx] at c1;cases c1;rw[e3 _ _ (e2 _ _ b2)] at c2;cases c2;rw[b3] at c3;cases c3;obtain⟨f4,m4⟩:=wr QB hz;obtain⟨f5,m5⟩:=m4.forget j (Δ (.ref l)) Tp;exact⟨B,F,_,f5,m5,hq⟩
           have Wj:(σ.set j (Δ (.ref l)))[j]? = Δ (Δ (V.ref l)):=List.getElem?_set_self Tt
           induction r using zB with
           | true=>
            have q6:Fw ex (Fu (Fz cl v (τ.set j (Δ (.lst Θ es)))) fun d=>Fu (Fz cl x (τ.set j (Δ (.lst Θ es)))) (wH i j k ds es τ d)) KK:=q6;refine cQ (.refl _) (gM m2.GL M9 j) (Fw.Fu q6) fun d vv H3 e3 _ mv q7=>?_;have m3:=m2.grow e3;refine⟨.ref l,Wj,cQ (.refl _) (gM m3.GL (M9.mono (fun _ z=>z) e3) j) (Fw.Fu q7) fun y4 w4 H4 e4 _ Zf q8=>?_⟩
            induction y4 using zD with
            | int z4=>
             cases Zf.Ga;unfold wH at q8;cases M':Hg es.length z4 with
             | none=>simp only[M'] at q8;exact q8.no.elim
             | some t=>simp only[M'] at q8;obtain⟨Zg,q9⟩:=Fw.FE q8;refine⟨l,ys,z4,t,rfl,rfl,e4 _ _ (e3 _ _ LI),by rw[b6];exact M',?_⟩;exact fin H4 (e3.trans e4) (es.set t d) (ys.set t vv) (pD Zg t O6) (Fv.O0 (mv.mono (fun _ _=>trivial) e4) t (b7.mono (fun _ z=>z) (e2.trans (e3.trans e4)))) (Wi _ q9.ok)
            | _=>exact q8.no.elim
           | false=>have q6:Fw ex (Fu (Fz cl w (τ.set j (Δ (.lst Θ es)))) (AK i j k ds es τ)) KK:=q6;refine⟨.ref l,Wj,.inl ⟨rfl,ys,.inl (.inl LI)⟩,cQ (.refl _) (gM m2.GL M9 j) (Fw.Fu q6) fun d vv H3 e3 _ mv q7=>?_⟩;obtain⟨gd,q9⟩:=Fw.FE (show Fw ex (FE (cq d&&dP es.length) (.ok (.nx ((τ.set i (Δ (.lst Θ (ds.set k (.lst Θ (es++[d])))))).set j Φ)))) KK from q7);rw[g_] at gd;refine⟨l,ys,vv,rfl,rfl,e3 _ _ LI,by rw[b6];exact gD gd.2,?_⟩;exact fin H3 e3 (es++[d]) (ys++[vv]) (sQ gd.1 O6) ((b7.mono (fun _ z=>z) (e2.trans e3)).append (.cons (mv.mono (fun _ _=>trivial) (.refl _)) .nil)) (Wi _ q9.ok)
        | _=>exact q3.no.elim
     | _=>exact q2.no.elim
   | _=>exact q0.no.elim
 | _=>cases hn
end
theorem jX {K:Frag}{F:Ω->Prop}{H:Hp}:∀ (ps:List Ω),(∀ p∈ps,¬ F p/\H p=Δ (.lst []))->Fy K F H (ps.map V.ref) (Τ ps.length (.lst Θ [])) ps
 | [],_=>.nil
 | p::ps,h=>by have h1:=h p (.head _);exact .cons (f:=[p]) (.GY h1.1 h1.2 .nil) (jX ps fun q hq=>h q (.tail _ hq))
section
variable {Z:Sg}{CX:Ho}{cl:Nat->List D->Res D}{xp:XK->Hp->Str->Prop}{X:Cx}{ex:Str->Prop}{G G':Gm}{fr:List Nat}
def Zh (K:Frag)(ex:Str->Prop)(cl:Nat->List D->Res D)(s:Sr):TE:=fun σ H Q=>∃ S τ,Slots K S H σ τ (ff s)/\Fw ex (eO cl s τ) fun its=>its.length < Ζ/\
 ∀ (A:Ω) (ps:List Ω) (H':Hp),cz H H'->H A=Φ->H' A=Δ (.lst (ps.map V.ref))->ps.Nodup->A∉ps->(∀ p∈ps,H p=Φ/\H' p=Δ (.lst []))->ps.length=its.length->Q (.ref A) H'
theorem sR (g:Gx Z CX cl xp X ex G){scope:Scope}{tg iter:Expr}{lp pos:Pos}{t:Nat}{s:Sr}(hs:JD Z G scope G' fr)(hT:dH G' (.nm t) tg=Θ)
  (hi:PI X tg iter (RI X.K ex (ff s) (eO cl s))) (hf:∀ x,foldedSetIterable iter X.env x=pure x):PE X (.ListComp (.List [] lp) [⟨tg,iter,[],0⟩] scope pos) (Zh X.K ex cl s):=by
 intro pins s' σ H Q Iv h;obtain⟨G8,S⟩:=fQ g Iv.ok hs;have p:=kH (pos:=pos) (elt:=.List [] lp) (ifs:=[]) (tg:=tg) (g:=gT X.K (.nm t)) (tt:=RT X.K Hw (cE []) (fJ cl [])) (te:=Ce qj) (g.calm hs.cm) S hi (fun C s H fp=>Mi (dv g hs G8 C s H fp) (.nm t) tg hT) (fun C s H fp=>sJ [] _ Hw G' [] (dv g hs G8 C s H fp) rfl) (fun C s H fp=>iG dw) hf;refine p pins s' σ H Q Iv ?_;obtain⟨S0,τ,OY,q⟩:=h;refine A0 (.refl _) OY q fun its J H1 e1 _ w1 q1 A hA=>?_;obtain⟨hsz,q1⟩:=q1;have S4:H A=Φ:=e1.free hA;refine⟨fun i m F8 H'=>m=its.length - i/\i<=its.length/\∃ ps:List Ω,H' A=Δ (.lst (ps.map V.ref))/\ps.length=i/\ps.Nodup/\A∉ps/\(∀ p∈ps,H1 p=Φ/\H' p=Δ (.lst []))/\cz H1 H',⟨its.length,by simp,aab _,[],cv,rfl,List.nodup_nil,by simp,fun p hp=>by simp at hp,.upd hA⟩,?_⟩;rintro i m F8 H' ⟨rfl,hi,ps,a1,a2,a3,a4,a5,a6⟩;by_cases Gr:i < its.length
 ·refine .inr ⟨(w1.mono (fun _ z=>z) a6).go Gr,fun x H2 S6=>?_⟩;obtain⟨eH,mx⟩:=(w1.mono (fun _ z=>z) a6).K7 S6 (d:=its[i]) (by simp[Gr]);show RT X.K Hw (cE []) (fJ cl []) (F8.set t (Δ x)) H2 _;refine fW (S:=fun _=>True) (τ:=[]) (.refl _) (fun k hk=>by simp[cE] at hk) (show Fw Hw (fJ cl [] []) (fun b=>b=Θ) from rfl) fun b H4 e4 _ hb=>?_;subst hb;rw[f_ rfl];have eA:=e4 _ _ (eH _ _ a1);refine⟨by simp,fun q hq=>?_⟩;have qA:q≠A:=fun z=>by rw[z,eA] at hq;cases hq
  have Wk:q∉ps:=fun z=>by rw[e4 _ _ (eH _ _ (a5 q z).2)] at hq;cases hq
  refine⟨ps.map V.ref,by rw[cu (Ne.symm qA)];exact eA,by rw[i_,a2];omega,its.length - (i+1),⋯,rfl,Gr,ps++[q],?_,by rw[o_,a2];rfl,?_,?_,fun p hp=>?_,?_⟩
  ·rw[cv,G_];rfl
  ·refine t_.mpr ⟨a3,by simp,fun a ha b hb e=>?_⟩;rw[u_.mp hb] at e;exact Wk (e ▸ ha)
  ·intro z;rcases v_.mp z with z|z
   ·exact a4 z
   ·exact qA (u_.mp z).symm
  ·have Zi:p≠A:=by
    rcases v_.mp hp with z|z
    ·exact fun y=>a4 (y ▸ z)
    ·rw[u_.mp z];exact qA
   rw[cu Zi];rcases v_.mp hp with z|z
   ·rw[cu (fun (y:p=q)=>Wk (y ▸ z))];exact⟨(a5 p z).1,e4 _ _ (eH _ _ (a5 p z).2)⟩
   ·rw[u_.mp z,cv];exact⟨a6.free (eH.free (e4.free hq)),rfl⟩
  ·intro b o hb;have Zj:b≠A:=by rintro rfl;rw[hA] at hb;cases hb
   have Zk:b≠q:=by rintro rfl;rw[e4 _ _ (eH _ _ (a6 _ _ hb))] at hq;cases hq
   rw[cu Zj,cu Zk];exact e4 _ _ (eH _ _ (a6 _ _ hb))
 ·have e:i=its.length:=⋯
  subst e;exact .inl ⟨(w1.mono (fun _ z=>z) a6).stop rfl,q1 A ps H' (e1.trans a6) S4 a1 a3 a4 (fun p hp=>⟨e1.free (a5 p hp).1,(a5 p hp).2⟩) a2⟩
theorem IP (g:Gx Z CX cl xp X ex G){j t:Nat}{src:Sr}{st:Stmt}(h:Qx st (fun tg e=>isName tg&&dH G (.nm j) tg&&FZ Z G (.comp G' fr (.nm t) src [] (.lst [])) e)=Θ) :
  PS X st (RS X.K G.io ex (G3 cl (.Nw j G' fr t src))):=by
 obtain⟨Zl,e,lp,lq,bp,pos,rfl,h0⟩:=Ba h;simp only[g_] at h0;obtain⟨⟨hn,hT⟩,hc⟩:=h0
 induction e using zE with
 | ListComp el gens scope Kp=>
  have hv:oh gens (fun t' it fs=>dy Z G scope G' fr&&dH G' (.nm t) t'&&(HU (.nm t)).all (fun i=>decide (fr.length<=i))&&(eI Z G src it&&g6 src t')&&dj Z G' [] fs&&FZ Z G' (.lst []) el)=Θ:=hc;obtain⟨t',it,fs,rfl,Md⟩:=iw hv;simp only[g_] at Md;obtain⟨⟨⟨⟨⟨k1,k2⟩,k3⟩,k4,k5⟩,k6⟩,k7⟩:=Md
  induction fs using zL with
  | cons _ _=>exact bT k6
  | nil=>
  induction el using zE with
  | List l Tv=>
   induction l using zL with
   | cons _ _=>exact bT k7
   | nil=>
   induction Zl using zE with
   | Name y py=>
    have Jn:(G.N[j]? == Δ y&&(G.kd[j]? == Δ .local||(G.df&&G.kd[j]? == Δ .cell)))=Θ:=(z_.mp hT).1;have Tp:G.io≠Δ j:=by simpa using(z_.mp hT).2
    rw[g_,Y_,g_] at Jn;have hx:G.N[j]? = Δ y:=h_ Jn.1;have hk:=g.kd j y hx;have KZ:Loc X.env.scope y:=Jn.2.elim (fun z=>.inl (hk.trans (h_ z))) fun z=>.inr (hk.trans (h_ z.2));have Lm:X.fn y=Θ∨X.env.scope.names.lookup y=Δ .local:=Jn.2.elim (fun z=>.inr (hk.trans (h_ z))) fun z=>.inl (g.df z.1 y);have pe:=sR (lp:=Tv) (pos:=Kp) g (ix k1) k2 (sL src X ex G it t' g k4 k5) (fun x=>dN k4 X.env x);refine dC (nE (i:=j) (by rw[g.N];exact g.GJ) (by rw[g.N];exact hx) KZ (oM (pos:=bp) kP pe (iG (pos:=lq) (cS (iG (pos:=lp) dw) dw (bU (e:=.List [] lp) rfl _ _)))) rfl Lm) fun Dn σ H hh=>?_;obtain⟨B,F,τ,f,m,q⟩:=hh;have q0:Fw ex (Fu (eO cl src τ) (wG j τ)) (Fk X.K B Dn):=q;refine⟨fun _=>True,τ,cV m.GL,(Fw.Fu q0).mono fun its q1=>?_⟩;obtain⟨gd,q1⟩:=Fw.FE (show Fw ex (FE (dP its.length) (.ok (.nx (τ.set j (Δ (.lst Θ (Τ (its.length+1) (.lst Θ [])))))))) (Fk X.K B Dn) from q1);have hsz:=gD gd;refine⟨hsz,fun A ps H1 e1 hA Zm nd nA O7 hlen=>?_⟩;refine⟨aab _,fun r hr=>⟨(by show 1<=Ζ;decide),fun A2 Zn=>?_⟩⟩;have e2:cz H1 (upd H1 r (.lst [])):=.upd hr;have e3:cz (upd H1 r (.lst [])) (upd (upd H1 r (.lst [])) A2 (.lst [.ref r])):=.upd Zn;refine⟨A,A2,ps.map V.ref,[.ref r],rfl,rfl,.inl (.inl (e3 _ _ (e2 _ _ Zm))),.inl (.inl cv),by rw[i_,hlen];show its.length+1<=_;omega,fun A3 NK=>?_⟩;have e4:cz (upd (upd H1 r (.lst [])) A2 (.lst [.ref r])) (upd (upd (upd H1 r (.lst [])) A2 (.lst [.ref r])) A3 (.lst (ps.map V.ref++[.ref r]))):=.upd NK;have Tw:=e1.trans (e2.trans (e3.trans e4));have m1:=m.grow Tw;have Wl:H r=Φ:=e1.free hr;have Wm:H A3=Φ:=(e1.trans (e2.trans e3)).free NK;have nF:∀ b,H b=Φ->¬ F b:=fun b hb z=>m.Gg b z hb;have Zo:r∉ps:=fun z=>by rw[(O7 r z).2] at hr;cases hr
    have Tx:A3∉ps:=fun z=>by rw[e3 _ _ (e2 _ _ (O7 A3 z).2)] at NK;cases NK
    have Zq:A3≠r:=fun z=>by rw[z,e3 _ _ cv] at NK;cases NK
    have mv:F6 X.K F (upd (upd (upd H1 r (.lst [])) A2 (.lst [.ref r])) A3 (.lst (ps.map V.ref++[.ref r]))) (.ref A3) (.lst Θ (Τ (its.length+1) (.lst Θ []))) (A3::(ps++[r])):=by
     refine .GY (nF A3 Wm) cv ?_;have:=jX (K:=X.K) (F:=F) (H:=upd (upd (upd H1 r (.lst [])) A2 (.lst [.ref r])) A3 (.lst (ps.map V.ref++[.ref r]))) (ps++[r]) fun p hp=>by
      rcases v_.mp hp with z|z
      ·exact⟨nF p (O7 p z).1,e4 _ _ (e3 _ _ (e2 _ _ (O7 p z).2))⟩
      ·rw[u_.mp z];exact⟨nF r Wl,e4 _ _ (e3 _ _ cv)⟩
     rw[G_,o_,hlen] at this;exact this
    have Mj:∀ b∈A3::(ps++[r]),H b=Φ:=fun b hb=>by
     rcases k_.mp hb with rfl|hb
     ·exact Wm
     ·rcases v_.mp hb with z|z
      ·exact(O7 b z).1
      ·rw[u_.mp z];exact Wl
    have QC:(A3::(ps++[r])).Nodup:=by rw[K_];refine⟨fun z=>(v_.mp z).elim Tx fun z=>Zq (u_.mp z),t_.mpr ⟨nd,by simp,fun a ha b hb e=>?_⟩⟩;rw[u_.mp hb] at e;exact Zo (e ▸ ha)
    obtain⟨f5,m5⟩:=m1.put j mv (t_.mpr ⟨QC,m.GJ,fun a ha b hb e=>by
     subst e;obtain⟨_,u,hu⟩:=m.GL.own a hb;rw[Mj a ha] at hu
     cases hu⟩) (fun b hb=>m.same.free (Mj b hb)) Tp
    exact q1.ok _ _ _ _ m5
   | _=>cases hn
  | _=>exact bT k7
 | _=>exact bT hc
end
section
variable {Z:Sg}{CX:Ho}{cl:Nat->List D->Res D}{xp:XK->Hp->Str->Prop}{X:Cx}{ex:Str->Prop}{G:Gm}
theorem Hy (g:Gx Z CX cl xp X ex G){i:Nat}{k e:IR}{x:Str}{p sp pos:Pos}{s v:Expr}(h1:fL G i x=Θ)(h2:dU s=Θ)(h3:FZ Z G k s=Θ)(h4:FZ Z G e v=Θ) :
  PS X (.Assign [.Subscript (.Name x p) s sp] v pos) (RS X.K G.io ex (G3 cl (.Ie i k e))):=by
 refine dC (nC (LM e Ξ X ex G v g h4) (qY (jb g h1) (snd k X ex G s g h3).1 set_list (by intro _;cases s<;>first|rfl|cases h2)) (by cases v<;>rfl) (by cases v<;>rfl) rfl) fun Dn σ H h=>?_;obtain⟨B,F,τ,f,m,q⟩:=h;refine m.ro (Fw.Fu q) fun p v H' F' fv f' o hp=>?_;obtain⟨m',hb⟩:=m.ow o;have Mk:Fw ex (match cp p.2 i with|some (.lst Θ ds)=>(Fu (Fz cl k p.2) fun|.int z=>(match Hg ds.length z with|some j=>.ok (.nx (p.2.set i (Δ (.lst Θ (ds.set j p.1)))))|none=>F5)|_=>F5)|_=>F5) (Fk X.K B Dn):=hp;cases zs:cp p.2 i with
 | none=>rw[zs] at Mk;exact Mk.no.elim
 | some d=>
  rw[zs] at Mk
  induction d using zD with
  | lst ow ds=>
   induction ow using zB with
   | false=>exact Mk.no.elim
   | true=>
    obtain⟨l,xs,Hx,hl,hlen⟩:=kW m'.GL zs;refine⟨.ref l,Hx,m'.rd (Fw.Fu Mk) fun y w H2 m2 e2 mw hy=>?_⟩
    induction y using zD with
    | int z=>
     cases mw.Ga;have JQ:Fw ex (match Hg ds.length z with|some j=>.ok (.nx (p.2.set i (Δ (.lst Θ (ds.set j p.1)))))|none=>F5) (Fk X.K B Dn):=hy;cases hj:Hg ds.length z with
     | none=>rw[hj] at JQ;exact JQ.no.elim
     | some j=>rw[hj] at JQ;obtain⟨k1,k2,k3⟩:=gI m'.Gg m'.GL e2;have Wn:F6 X.K F' H2 v p.1 fv:=o.rep.IC k3 fun a ha hb=>(t_.mp o.GJ).2.2 a ha a hb rfl;have LI:H2 l=Δ (.lst xs):=e2 _ _ hl;obtain⟨NJ,m3⟩:=m2.write (ys:=xs.set j v) (ds':=ds.set j p.1) zs Hx LI Wn o.GJ hb fun fi hm=>hm.set Wn j;exact⟨l,xs,z,j,rfl,rfl,LI,by rw[hlen];exact hj,JQ.ok _ _ _ _ m3⟩
    | _=>exact hy.no.elim
  | _=>exact Mk.no.elim
theorem IQ (g:Gx Z CX cl xp X ex G){i:Nat}{e:IR}{x:Str}{p apos F9 pos:Pos}{v:Expr}(h1:fL G i x=Θ)(h2:(apos.endLine == F9.line)=Θ)(h3:notStar v=Θ)(h4:FZ Z G e v=Θ) :
  PS X (.Expr (.Call (.Attribute (.Name x p) "append" apos) [v] [] F9) pos) (RS X.K G.io ex (G3 cl (.app i e))):=by
 have pa:PA X [v] (iF (RO X.K ex (Gu cl Ξ e)) qj):=cS (LM e Ξ X ex G v g h4) dw (bU h3 _ _);have Ib:((backTo F9 (Ν [v] X.env)).all (fun x=>!x.1)&&(backToKw F9 (keywordEach [] X.env)).all (fun x=>x.1.isSome)&&decide ([v].length+([]:List Keyword).length+(if ([]:List Keyword).isEmpty then 0 else 1) < 30))=Θ:=by rw[bU h3];rfl
 refine dC (ip (jM PySem.F.plainAttrs_list PySem.F.slot_list_append PySem.F.type_list_append gQ (jb g h1) pa rfl Ib h2 (bU h3 _ _) rfl)) fun Dn σ H h=>?_;obtain⟨B,F,τ,f,m,q⟩:=h;have q0:Fw ex (match cp τ i with|some (.lst _ _)=>(Fu (Gu cl Ξ e τ) fun p=>(match cp p.2 i with|some (.lst Θ ds)=>FE (dP ds.length) (.ok (.nx (p.2.set i (Δ (.lst Θ (ds++[p.1]))))))|_=>F5))|_=>F5) (Fk X.K B Dn):=q;cases z0:cp τ i with
 | none=>rw[z0] at q0;exact q0.no.elim
 | some d0=>
  rw[z0] at q0
  induction d0 using zD with
  | lst o0 Td=>
   obtain⟨v0,Y8,g0,a1,a2,a3,a4⟩:=m.GL.at z0;have hq:∃ l xs,v0=.ref l/\GV X.K H l xs:=by
    cases a2 with
    | Jy _ b1 _=>exact⟨_,_,rfl,.inl b1⟩
    | lstK b1 _=>exact⟨_,_,rfl,b1.sq⟩
    | GY _ b1 _=>exact⟨_,_,rfl,.inl (.inl b1)⟩
   obtain⟨l,Qy,rfl,hq⟩:=hq;refine⟨.ref l,a1,.inl ⟨rfl,Qy,hq⟩,m.ro (Fw.Fu q0) fun p v H' F' fv f' o hp=>?_⟩;obtain⟨m',hb⟩:=m.ow o;cases zs:cp p.2 i with
   | none=>rw[zs] at hp;exact hp.no.elim
   | some d=>
    rw[zs] at hp
    induction d using zD with
    | lst ow ds=>
     induction ow using zB with
     | false=>exact hp.no.elim
     | true=>obtain⟨gd,hp⟩:=Fw.FE hp;obtain⟨l',xs,Hx,hl,hlen⟩:=kW m'.GL zs;rw[a1] at Hx;cases Hx;obtain⟨NJ,m3⟩:=m'.write (ys:=xs++[v]) (ds':=ds++[p.1]) zs a1 hl o.rep o.GJ hb fun fi hm=>hm.snoc o.rep;exact⟨l,xs,v,rfl,rfl,hl,by rw[hlen];exact gD gd,hp.ok _ _ _ _ m3⟩
    | _=>exact hp.no.elim
  | _=>exact q0.no.elim
theorem Fk.Ml {K:Frag}{io:Option Nat}{B:Bs io}{F F':Ω->Prop}{H H':Hp}{σ:St}{τ τ':Ev}{f f':List Ω}{v:V}{d:D}{fv:List Ω}(m:GH K B F H σ τ f)(o:Ow K F H f F' H' σ v d fv τ' f'):Out K B.F B.H F' H' v d fv:=by obtain⟨m',hb⟩:=m.ow o;exact⟨m'.Gg,m'.same,o.rep,(t_.mp o.GJ).1,hb,m'.Iq,m'.out⟩
theorem IT (g:Gx Z CX cl xp X ex G){e:IR}{v:Expr}{pos:Pos}(h:FZ Z G e v=Θ):PS X (.Return (Δ v) pos) (RS X.K G.io ex (G3 cl (.ret e))):=by refine dC (qU (LM e Θ X ex G v g h)) fun Dn σ H ⟨B,F,τ,f,m,q⟩=>?_;exact m.ro (Fw.Fu q) fun p v H' F' fv f' o hp=>hp.ok _ _ _ _ (Fk.Ml m o)
theorem HV (g:Gx Z CX cl xp X ex G){e:IR}{v:Expr}{pos:Pos}(h:FZ Z G e v=Θ):PS X (.Return (Δ v) pos) (RS X.K G.io ex (G3 cl (.Kg e))):=by refine dC (qU (LM e Ξ X ex G v g h)) fun Dn σ H ⟨B,F,τ,f,m,q⟩=>?_;exact m.ro (Fw.Fu q) fun p v H' F' fv f' o hp=>hp.ok _ _ _ _ (Fk.Ml m o)
theorem IU (g:Gx Z CX cl xp X ex G){e:IR}{v:Expr}{pos:Pos}(hc:kU v=Θ)(h:FZ Z G e v=Θ):PS X (.Expr v pos) (RS X.K G.io ex (G3 cl (.exp e))):=by refine dC (ip (snd e X ex G v g h).1 (by induction v using zE<;>first|rfl|cases hc)) fun Dn σ H ⟨B,F,τ,f,m,q⟩=>?_;exact m.rd (Fw.Fu q) fun d v H' m' _ _ hd=>hd.ok _ _ _ _ m'
theorem J1 {c:Expr}{x y:List Stmt}{pos:Pos}{t:IR}{a b:List IS}(hc:PT X c (RT X.K ex (vars t) fun τ=>Fu (Fz cl t τ) cM))(ha:I0 X x (RS X.K G.io ex (cI cl a)))(hb:I0 X y (RS X.K G.io ex (cI cl b))):PS X (.If c x y pos) (RS X.K G.io ex (G3 cl (.Gi t a b))):=by
 refine dC (xU hc ha hb) fun Dn σ H ⟨B,F,τ,f,m,q⟩=>?_;refine m.rt (Fw.Fu q) fun r H' m' _ hr=>?_
 induction r using zB with
 | true=>rw[f_ rfl] at hr ⊢;exact⟨B,F,τ,f,m',hr⟩
 | false=>rw[d_ p_] at hr ⊢;exact⟨B,F,τ,f,m',hr⟩
theorem GH.less {K:Frag}{io:Option Nat}{B:Bs io}{L:Ω->LD->Prop}{T:Ω->List V ⊕ Str->Prop}{F:Ω->Prop}{H:Hp}{σ:St}{τ:Ev}{f:List Ω}(m:GH K (⟨B.F,B.H,fun a xs=>B.L a xs∨L a xs,fun a xs=>B.T a xs∨T a xs,B.N⟩:Bs io) F H σ τ f):GH K B F H σ τ f:=
 ⟨m.Gg,m.GL,m.GJ,m.same,m.own,m.Iq,m.out,fun a xs h=>m.pin a xs (.inl h),fun a xs h=>m.Lh a xs (.inl h),m.nm⟩
theorem mS:∀ (ds:List D) (i:Nat),(FA ds).drop i=FA (ds.drop i):=by intro ds i;rw[cA,cA,List.map_drop]
theorem mT {J:It}{K:Frag}{io:Option Nat}{B:Bs io}{F:Ω->Prop}{H:Hp}{σ:St}{τ:Ev}{f:List Ω}{T:Tg}{body:List IS}{its:List D}{Dn:Ends}(Ko:∀ j∈HU T,io≠Δ j)(m:GH K B F H σ τ f)(w:HN K F H J its)
  (q:Fw ex (forM (fun x τ=>Fu (dR T x τ) fun τ'=>cI cl body τ') (FA its) τ) (Fk K B Dn)) :
  ∃ W:Nat->Nat->St->Hp->Prop,(∃ m,W 0 m σ H)/\∀ i m σ H,W i m σ H->(J.stop i H/\Dn.nx σ H)∨(J.go i H/\∃ N:St->Hp->Prop,(∀ F8 H',N F8 H'->∃ m',m' < m/\W (i+1) m' F8 H')/\
   ∀ x H',J.K7 i H x H'->gT K T x σ H' fun Ja H2=>RS K io ex (cI cl body) {Dn with nx:=N,ct:=N,bk:=Dn.nx} Ja H2):=by
 let B':Bs io:=⟨B.F,B.H,fun a xs=>B.L a xs∨(F a/\Rd H a xs.o),fun a xs=>B.T a xs∨G2 K H a xs,B.N⟩
 have m0:GH K B' F H σ τ f:=⟨m.Gg,m.GL,m.GJ,m.same,m.own,m.Iq,m.out,fun a xs h=>h.elim (m.pin a xs) id,fun a xs h=>h.elim (m.Lh a xs) id,m.nm⟩
 let bd:D->Ev->Res Fl:=fun x τ=>Fu (dR T x τ) fun τ'=>cI cl body τ';refine⟨fun i n σ H=>n=its.length - i/\i<=its.length/\∃ F τ f,GH K B' F H σ τ f/\Fw ex (forM bd ((FA its).drop i) τ) (Fk K B Dn),⟨its.length,by simp,aab _,F,τ,f,m0,by rw[List.drop_zero];exact q⟩,?_⟩;rintro i n Vi H1 ⟨rfl,hi,F1,Lc,f1,m1,q1⟩;have w1:HN K F1 H1 J its:=w.step (fun a xs h r=>m1.pin a xs (.inr ⟨h,r⟩)) fun a xs h=>m1.Lh a xs (.inr h);by_cases Gr:i < its.length
 ·refine .inr ⟨w1.go Gr,fun σ H=>∃ F τ f,GH K B' F H σ τ f/\Fw ex (forM bd ((FA its).drop (i+1)) τ) (Fk K B Dn),fun F8 H' h=>⟨its.length - (i+1),⋯,rfl,Gr,h⟩,fun x H' y=>?_⟩;obtain⟨eH,mx⟩:=w1.K7 y (d:=its[i]) (by simp[Gr]);have m1:=m1.grow eH;have hd:(FA its).drop i=er its[i]::(FA its).drop (i+1):=by rw[mS,List.drop_eq_getElem_cons Gr,FA,mS]
  rw[hd] at q1;have q2:=Fw.Fu q1;refine m1.gT mx.frozen (by simpa using m1.GJ) (fun a ha=>absurd ha (by simp)) Ko (Fw.Fu q2) fun τ' F8 f' m' h'=>?_;refine⟨B',F1,τ',f',m',h'.mono fun r hr=>?_⟩;cases r with
  | nx τ'=>exact fun F8 H' F' f' LO=>⟨F',τ',f',LO,hr⟩
  | ct τ'=>exact fun F8 H' F' f' LO=>⟨F',τ',f',LO,hr⟩
  | bk τ'=>exact fun F8 H' F' f' LO=>hr.ok _ _ _ _ LO.less
  | rt d=>exact fun v H' F' fv o=>hr.ok _ _ _ _ o
  | ri d ks es=>exact hr.ok
 ·have e:i=its.length:=⋯
  subst e;refine .inl ⟨w1.stop rfl,?_⟩;have:(FA its).drop its.length=[]:=by rw[<- dJ its,List.drop_length]
  rw[this] at q1;exact q1.ok _ _ _ _ m1.less
theorem xc (a b:Int):FA (cO a b)=cO a b:=by unfold cO;rw[cA,H_];rfl
noncomputable def yg (cl:Nat->List D->Res D):Sr->Ev->Res (Int×Int)
 | .Gj n,τ=>Fu (Fz cl n τ) fun|.int i=>FE (ib i) (.ok (0,i))|_=>F5
 | _,_=>F5
def Zr (K:Frag)(ex:Str->Prop)(is:List Nat)(f:Ev->Res (Int×Int)):TI:=fun σ H R=>∃ S τ,Slots K S H σ τ is/\Fw ex (f τ) fun p=>∀ H',cz H H'->R (N7 p.1 (p.2 - p.1).toNat) H'
noncomputable def sS:Sr->Bool
 | .Gj _=>Θ
 | _=>Ξ
theorem sT {s:Sr}(h:sS s=Θ){τ:Ev}{k:List D->Prop}(q:Fw ex (eO cl s τ) k):Fw ex (yg cl s τ) fun p=>k (cO p.1 p.2):=by
 cases s with
 | Gj n=>
  refine Fw.mk ((Fw.Fu (show Fw ex (Fu (Fz cl n τ) fun|.int i=>FE (ib i) (.ok (cO 0 i))|_=>F5) k from q)).mono fun d hd=>?_)
  induction d using zD with
  | int i=>obtain⟨gd,hd⟩:=Fw.FE hd;show Fw ex (FE (ib i) (.ok (0,i))) _;unfold FE;rw[f_ gd];exact hd.ok
  | _=>exact hd.no.elim
 | _=>exists h
theorem Fh:∀ (s:Sr) (X:Cx) (ex:Str->Prop) (G:Gm) (e tg:Expr),Gx Z CX cl xp X ex G->eI Z G s e=Θ->sS s=Θ->PI X tg e (Zr X.K ex (ff s) (yg cl s)):=by
 intro s X ex G e tg g h hr;cases s with
 | Gj n=>
  induction e using zE with
  | Call fn args HP pos=>
   induction fn using zE with
   | Name x p=>
    match args,HP,h with
    | [a],[],h=>
     have h':(x == "range"&&G.gl.contains 15&&notStar a&&FZ Z G n a)=Θ:=h;simp only[g_] at h';have e1:x = "range":=h_ h'.1.1.1;subst e1;obtain⟨k1,k2,_,_⟩:=fg g (show cX[15]? = Δ ("range" : Str) from rfl) h'.1.1.2;refine kF (jH k1 k2 (cS (snd n X ex G a g h'.2).1 dw (bU h'.1.2 _ _)) (bU h'.1.2 _ _)) fun σ H Q ⟨S,τ,hs,q⟩=>?_;refine cQ (.refl _) hs (Fw.Fu q) fun x v H1 e1 _ m1 q1=>?_
     induction x using zD with
     | int i=>cases m1.Ga;obtain⟨gd,q1⟩:=Fw.FE q1;have Lf : -(2 ^ 62)<=i/\i < 2 ^ 62:=q_ gd;refine⟨i,rfl,Lf.1,Lf.2,?_⟩;have:=q1.ok _ e1;rw[show (0,i).2 - (0,i).1=i from Int.sub_zero i] at this;exact this
     | _=>exact q1.no.elim
    | [],_,h=>exists h
    | [_],_::_,h=>exists h
    | _::_::_,_,h=>exists h
   | _=>exists h
  | _=>exists h
 | _=>cases hr
theorem IV (g:Gx Z CX cl xp X ex G){t it:Expr}{x:List Stmt}{pos:Pos}{T:Tg}{s:Sr}{a:List IS}(MN:(G.cm=Θ/\G.rs=Θ)/\dH G T t=Θ)(Qp:eI Z G s it=Θ/\g6 s t=Θ)(ha:I0 X x (RS X.K G.io ex (cI cl a))):PS X (.For t it x [] pos) (RS X.K G.io ex (G3 cl (.GF T s a))):=by
 have hT:=MN.2;have hs:=Qp.1;by_cases hr:sS s=Θ
 ·refine dC (ra (g.own MN.1.2) (g.calm MN.1.1) (Fh s X ex G it t g hs hr) (Mi g T t hT) ha (fun x=>dN hs X.env x)) fun Dn σ H ⟨B,F,τ,f,m,q⟩=>?_;have q0:Fw ex (Fu (mE cl s τ) fun p=>forM (fun x τ=>Fu (dR T x τ) fun τ'=>cI cl a τ') p.1 p.2) (Fk X.K B Dn):=q;have base:Fw ex (eO cl s τ) fun its=>Fw ex (forM (fun x τ=>Fu (dR T x τ) fun τ'=>cI cl a τ') its τ) (Fk X.K B Dn):=by
   cases s with
   | Gj u=>exact(Fw.Fu (show Fw ex (Fu (eO cl (.Gj u) τ) fun its=>.ok (its,τ)) _ from Fw.Fu q0)).mono fun its h=>h.ok
   | _=>cases hr
  exact⟨fun _=>True,τ,cV m.GL,(sT hr base).mono fun p hp H1 e1=>mT (gH T t hT) (m.grow e1) (.Ks p.1 p.2) (by rw[xc];exact hp)⟩
 ·refine dC (ra (g.own MN.1.2) (g.calm MN.1.1) (sL s X ex G it t g hs Qp.2) (Mi g T t hT) ha (fun x=>dN hs X.env x)) fun Dn σ H ⟨B,F,τ,f,m,q⟩=>?_;have q0:Fw ex (Fu (mE cl s τ) fun p=>forM (fun x τ=>Fu (dR T x τ) fun τ'=>cI cl a τ') p.1 p.2) (Fk X.K B Dn):=q;have q1:=Fw.Fu q0;have Tz:mE cl s τ=(Fu (eO cl s τ) fun its=>.ok (FA its,Gh (ff s) τ)):=by
   cases s with
   | val u=>rfl
   | zip u v=>rfl
   | IA u=>rfl
   | _=>exact absurd rfl hr
  rw[Tz] at q1;obtain⟨F1,gg,b1,b2,b3,b4,b5,b6⟩:=gJ (ff s) m.Gg m.GL m.GJ;refine A0 (.refl _) b6 (Fw.Fu q1) fun its J H1 e1 _ w1 hk=>?_;obtain⟨c1,c2,c3⟩:=grow (fun _=>True) b1 b2 e1;have m2:GH X.K B (fun a=>F1 a∨(True/\H a=Φ/\H1 a≠Φ)) H1 σ (Gh (ff s) τ) gg:=m.IC (b4.trans c3 (fun x hx=>.inl (b5 x hx))) c1 c2 b3 fun a ha=>.inl (b5 a ha);exact mT (gH T t hT) m2 (w1.step (fun a xs h r=>⟨h.elim (fun z=>.inl z) fun z=>.inr ⟨trivial,z,r.some⟩,r⟩) fun a xs h=>h) hk.ok
mutual
theorem Wo:∀ (a:IS) (X:Cx) (ex:Str->Prop) (G:Gm) (s:Stmt),Gx Z CX cl xp X ex G->ou Z G a s=Θ->PS X s (RS X.K G.io ex (G3 cl a))
 | .asg tg e,X,ex,G,s,g,h=>by
  induction s using zS with
  | Assign ts v pos=>
   match ts,h with
   | [t],h=>have h':(dH G tg t&&FZ Z G e v&&(isName t||(isTup t&&notTuple v)))=Θ:=h;simp only[g_] at h';exact IL g h'.1.1 h'.1.2 h'.2
   | [],h=>exists h
   | _::_::_,h=>exists h
  | _=>exists h
 | .Ie i k e,X,ex,G,s,g,h=>by
  induction s using zS with
  | Assign ts v pos=>
   induction ts using zL with
   | nil=>exists h
   | cons t ts=>
    induction ts using zL with
    | cons _ _=>cases t<;>first|exact bT h|cases h|(rename_i o _ _;cases o<;>cases h)
    | nil=>
     induction t using zE with
     | Subscript o s sp=>
      induction o using zE with
      | Name x p=>have h':(fL G i x&&dU s&&FZ Z G k s&&FZ Z G e v)=Θ:=h;simp only[g_] at h';exact Hy g h'.1.1.1 h'.1.1.2 h'.1.2 h'.2
      | _=>exists h
     | _=>exists h
  | _=>exists h
 | .Nw j G' fr t src,X,ex,G,s,g,h=>by
  have h1:Qx s (fun tg e=>isName tg&&dH G (.nm j) tg&&FZ Z G (.comp G' fr (.nm t) src [] (.lst [])) e)=Θ:=by induction s using zS<;>exact h
  exact IP g h1
 | .LC i j e c x v w,X,ex,G,s,g,h=>by induction s using zS<;>exists h
 | .ins i k e,X,ex,G,s,g,h=>by
  induction s using zS with
  | Expr v pos=>
   induction v using zE with
   | Call fn args HP F9=>
    induction fn using zE with
    | Attribute o name apos=>
     induction o using zE with
     | Name x p=>
      match args,HP,h with
      | [s,v],[],h=>have h':(fL G i x&&name == "insert"&&apos.endLine == F9.line&&(notStar s&&notStar v)&&FZ Z G k s&&FZ Z G e v)=Θ:=h;simp only[g_] at h';have e1:name = "insert":=h_ h'.1.1.1.1.2;subst e1;exact IM g h'.1.1.1.1.1 h'.1.1.1.2 h'.1.1.2.1 h'.1.1.2.2 h'.1.2 h'.2
      | [],_,h=>exists h
      | [_],_,h=>exists h
      | [_,_],_::_,h=>exists h
      | _::_::_::_,_,h=>exists h
     | _=>exists h
    | _=>exists h
   | _=>exists h
  | _=>exists h
 | .app i e,X,ex,G,s,g,h=>by
  induction s using zS with
  | Expr v pos=>
   induction v using zE with
   | Call fn args HP F9=>
    induction fn using zE with
    | Attribute o name apos=>
     induction o using zE with
     | Name x p=>
      match args,HP,h with
      | [v],[],h=>have h':(fL G i x&&name == "append"&&apos.endLine == F9.line&&notStar v&&FZ Z G e v)=Θ:=h;simp only[g_] at h';have e1:name = "append":=h_ h'.1.1.1.2;subst e1;exact IQ g h'.1.1.1.1 h'.1.1.2 h'.1.2 h'.2
      | [],_,h=>exists h
      | [_],_::_,h=>exists h
      | _::_::_,_,h=>exists h
     | _=>exists h
    | _=>exists h
   | _=>exists h
  | _=>exists h
 | .exp e,X,ex,G,s,g,h=>by
  induction s using zS with
  | Expr v pos=>
   have h':(kU v&&FZ Z G e v)=Θ:=by induction v using zE<;>first|exact h|(rename_i c _ _;cases c<;>exact h)
   simp only[g_] at h';exact IU g h'.1 h'.2
  | _=>exists h
 | .ret e,X,ex,G,s,g,h=>by
  induction s using zS with
  | Return v pos=>
   induction v using zO with
   | none=>exists h
   | some v=>exact IT g h
  | _=>exists h
 | .Kg e,X,ex,G,s,g,h=>by
  induction s using zS with
  | Return v pos=>
   induction v using zO with
   | none=>exists h
   | some v=>exact HV g h
  | _=>exists h
 | .Gi t a b,X,ex,G,s,g,h=>by
  induction s using zS with
  | If c x y pos=>have h':(FZ Z G t c&&dY Z G a x&&dY Z G b y)=Θ:=h;simp only[g_] at h';exact J1 (snd t X ex G c g h'.1.1).2 (qK a X ex G x g h'.1.2) (qK b X ex G y g h'.2)
  | _=>exists h
 | .GF tg s body,X,ex,G,st,g,h=>by
  induction st using zS with
  | For t it b Zs pos=>
   induction Zs using zL with
   | cons _ _=>exists h
   | nil=>have h':(((G.cm&&G.rs)&&dH G tg t)&&(eI Z G s it&&g6 s t)&&dY Z G body b)=Θ:=h;simp only[g_] at h';exact IV g h'.1.1 h'.1.2 (qK body X ex G b g h'.2)
  | _=>exists h
 | .brk,X,ex,G,s,g,h=>by cases s<;>exists h
 | .cnt,X,ex,G,s,g,h=>by cases s<;>exists h
 | .pass,X,ex,G,s,g,h=>by cases s<;>exists h
 | .never,X,ex,G,s,g,h=>dC qV fun Dn σ H ⟨B,F,τ,f,m,q⟩=>q.no.elim
theorem qK:∀ (as:List IS) (X:Cx) (ex:Str->Prop) (G:Gm) (ss:List Stmt),Gx Z CX cl xp X ex G->dY Z G as ss=Θ->I0 X ss (RS X.K G.io ex (cI cl as))
 | [],X,ex,G,ss,g,h=>by
  induction ss using zL with
  | nil=>exact fN il fun Dn σ H ⟨B,F,τ,f,m,q⟩=>q.ok _ _ _ _ m
  | cons _ _=>exists h
 | a::as,X,ex,G,ss,g,h=>by
  induction ss using zL with
  | nil=>induction a using zT<;>exists h
  | cons s ss=>
   cases Mm:yd a with
   | true=>
    cases a with
    | LC i j e c x v w=>
     induction ss using zL with
     | nil=>
      have h':(ou Z G (.LC i j e c x v w) s&&dY Z G as [])=Θ:=h;have h1:=(z_.mp h').1
      induction s using zS<;>first|exact bT h1|cases h1
     | cons s' ss=>have h':=z_.mp (show (pw Z G i j e c x v w s s'&&dY Z G as ss)=Θ from h);exact xb g h'.1 (qK as X ex G ss g h'.2)
    | _=>cases Mm
   | false=>
    have h':(ou Z G a s&&dY Z G as ss)=Θ:=by rw[<- ox Mm];exact h
    simp only[g_] at h';refine fN (fy (Wo a X ex G s g h'.1) (qK as X ex G ss g h'.2)) fun Dn σ H ⟨B,F,τ,f,m,q⟩=>?_;refine⟨B,F,τ,f,m,(Fw.Fu q).mono fun r hr=>?_⟩;cases r with
    | nx τ'=>exact fun F8 H' F' f' m'=>⟨B,F',τ',f',m',hr⟩
    | ct τ'=>exact hr.ok
    | bk τ'=>exact hr.ok
    | rt d=>exact hr.ok
    | ri d ks es=>exact hr.ok
end
end
section
variable {P:Ε}{w:Β}
theorem kX {outer:List Env}{H:Hp}{s:Α}{E:XK}{e:Ψ}{s':Α}(x:GW P w H s.heap)(fr:∀ b∈Ha outer,H b=Φ)(h:Hl P w outer (cT s.heap H) s E e s'):Hl P w outer H s E e s':=by obtain⟨a,cls,a0,H',B,h1,h2,h3,h4,h5,_,h6,h7,h8⟩:=h;exact⟨a,cls,a0,gE H H',B,h1,h2,h3,n9 x h4,n8 x h5 (gF h4) (fun b o _=>h6 b o) fr,mJ,fun b o e n f=>h6 b o e (dS n) f,h7,h8⟩
theorem kY {outer:List Env}{H:Hp}{s:Α}{e:Ψ}{s':Α}:¬ Hl P w outer H s (fun _ _ _=>False) e s':=fun ⟨_,_,_,_,_,_,_,_,_,_,_,_,_,z⟩=>z
variable {K:Frag}{mg:Str->Option Ψ}{base:Heap}{N:List Str}{qual:Str}{scope:Scope}{f:Ω}{cd:Ψ}{A:Ι}{outer:List Env}{s:Α}{H:Hp}{E:XK}
theorem yh {H':Hp}{B:Heap}{s2:Α}{a:Ω}{cls a0:Ψ}(lt:MY H)(os:s2.os=s.os)(bare:AllBare s2.gens)(fl:Heap.FlyingW B outer a cls a0 s2.heap)(hB:GW P w H' B)
  (kB:∀ b o,s.heap.get? b=Δ o->H b=Φ->b∉Ha outer->B.get? b=Δ o) (hs:∀ b o,s.heap.get? b=Δ o->H b=Φ->b∈Ha outer->∃ sl,s2.heap.get? b=Δ {o with slots:=sl})
  (fr:∀ b o,s.heap.get? b=Δ o->H b=Φ->H' b=Φ) (pz:∀ b o u,H b=Δ (.Gh o u)->H' b=Δ (.Gh o u)) (pt:∀ b xs,H b=Δ (.tup xs)->H' b=Δ (.tup xs)) (hE:E cls Φ H0):Hl P w outer H s E (.ref a) s2:=by
 refine⟨a,cls,a0,H',B,rfl,os,bare,⟨fun b o e n nf _=>fl.1 _ _ (kB b o e n nf),fun b o e n hf _=>hs b o e n hf,fun b o e n _=>fr b o e n,fun b o e _=>?_,pt,pz,fun b ps e=>?_⟩,hB,fun b o e=>(lt b o e).elim (fun ⟨ob,u,z⟩=>by subst z;exact pz _ _ _ e) fun ⟨xs,z⟩=>by subst z;exact pt _ _ e,kB,fl,hE⟩
 ·cases q:H b with
  | none=>
   by_cases hf:b∈Ha outer
   ·obtain⟨sl,h⟩:=hs b o e q hf;exact⟨_,h⟩
   ·exact⟨_,fl.1 _ _ (kB b o e q hf)⟩
  | some u=>
   have:∃ u',H' b=Δ u':=by
    rcases lt b u q with ⟨ob,v,rfl⟩|⟨xs,rfl⟩
    ·exact⟨_,pz _ _ _ q⟩
    ·exact⟨_,pt _ _ q⟩
   obtain⟨u',hu⟩:=this;obtain⟨ob,ho⟩:=(hB b u' hu).at
   exact⟨_,fl.1 _ _ ho⟩
 ·rcases lt b _ e with ⟨ob,v,z⟩|⟨xs,z⟩<;>cases z
theorem yi {b:Ω}{o:Obj}(e:s.heap.get? b=Δ o)(n:b∉Ha outer):b∉Ha (envOfC qual scope s.heap.objs.size f cd::outer):=fun z=>by
 unfold Ha at z n;rcases List.mem_filterMap.mp z with ⟨env,hm,hf⟩
 rcases k_.mp hm with rfl|hm
 ·have h1:s.heap.objs.size=b:=D_ hf;have h2:=j_ e;rw[h1] at h2;exact T_ _ h2
 ·exact n (List.mem_filterMap.mpr ⟨env,hm,hf⟩)
theorem xf (lt:MY H){ex:Str->Prop}(hE:∀ c C,ex c->PySem.W.nsIn K Η c=Δ (Δ (.ref C))->E (.ref C) Φ H0) :
  Passes (Hl P w) (fF (Hl P w) P w K mg base N qual scope f cd A outer s H E) (fun cls _ _=>∃ c C,ex c/\PySem.W.nsIn K Η c=Δ (Δ (.ref C))/\cls=.ref C):=by
 intro pins σ H1 s1 e s' I ⟨a,cls,a0,H',B,he,os,bare,un,hB,_,kB,fl,c,C,hc,hn,My⟩;subst he My;have I':=I.LY os un (hB.kept fl.1) bare (fun b z=>absurd z (by simp));show Κ _ _ (leaving _ (.ref a)) _ _ s';refine wpAny_leaves_onW (show (A.deeper (envOfC qual scope s.heap.objs.size f cd)).frames=Δ (envOfC qual scope s.heap.objs.size f cd::outer) from I.ok.frames) rfl fl fun h' Zt up=>?_;refine yh lt I'.os I'.bare Zt hB (fun b o e n nf=>?_) (fun b o e n hf=>?_) (fun b o e n=>I'.base.free b o e n (by simp[fF])) I'.base.G6 I'.base.Hs (hE c C hc hn)
 ·exact kB b o (I.base.keep b o e n nf (by simp[fF])) (I.base.free b o e n (by simp[fF])) (yi e nf)
 ·obtain⟨sl,h1⟩:=I'.base.slot b o e n hf (by simp[fF]);obtain⟨_,o',HY,nf⟩:=I.ok.Ht.mem hf;have HY:s.heap.get? b=Δ o':=HY;rw[e] at HY;cases HY;obtain⟨N4,h2⟩:=up b _ h1 nf;exact⟨N4,h2⟩
theorem sU (lt:MY H){pins:List (Ω×Obj)}{σ:St}{H1:Hp}{s1:Α}{C e:Ω}{h':Heap}{vs:List Ψ}(hE:E (.ref C) Φ H0)
  (I:Inv (fF (Hl P w) P w K mg base N qual scope f cd A outer s H E) pins σ H1 s1) (hx:Heap.MadeExcOf s1.heap h' e (.ref C) vs) :
  (fF (Hl P w) P w K mg base N qual scope f cd A outer s H E).xe (.ref e) {s1 with heap:=h'}:=by
 have Jo:∀ env∈(fF (Hl P w) P w K mg base N qual scope f cd A outer s H E).stack,∀ b,env.frame=Δ b->b∈Ha (fF (Hl P w) P w K mg base N qual scope f cd A outer s H E).stack:=fun env he b hb=>List.mem_filterMap.mpr ⟨env,he,hb⟩;show Κ _ _ (leaving _ (.ref e)) _ _ _;refine wpAny_leaves_madeW (base:=PySem.W.hideAll s1.heap (Ha (fF (Hl P w) P w K mg base N qual scope f cd A outer s H E).stack)) (h:=s1.heap) (show (A.deeper (envOfC qual scope s.heap.objs.size f cd)).frames=Δ (envOfC qual scope s.heap.objs.size f cd::outer) from I.ok.frames) rfl (fun b o q=>PySem.W.of_hideAll _ q) (PySem.W.funFrames_hide I.stack Jo) hx fun h2 t fl _ _ up=>?_;have Mw:∀ b u o,H1 b=Δ u->s1.heap.get? b=Δ o->(PySem.W.hideAll s1.heap (Ha (fF (Hl P w) P w K mg base N qual scope f cd A outer s H E).stack)).get? b=Δ o:=fun b u o hu ho=>PySem.W.hideAll_get _ ho fun z=>by rw[I.IG b z] at hu;cases hu
 refine yh (H':=H1) lt I.os I.bare fl (fun b o hb=>?_) (fun b o he n nf=>?_) (fun b o he n hf=>?_) (fun b o e n=>I.base.free b o e n (by simp[fF])) I.base.G6 I.base.Hs hE
 ·refine(I.Ge b o hb).HX (fun c u hc hu=>?_) (fun _ z=>z) fun _ _ z=>z;rcases hc with rfl|hc
  ·exact Mw _ _ _ hb hu
  ·exact Mw _ _ _ hc hu
 ·exact PySem.W.hideAll_get _ (I.base.keep b o he n nf (by simp[fF])) (yi he nf)
 ·obtain⟨sl,h1⟩:=I.base.slot b o he n hf (by simp[fF]);obtain⟨_,o',HY,nf⟩:=I.ok.Ht.mem hf;have HY:s.heap.get? b=Δ o':=HY;rw[he] at HY;cases HY;obtain⟨N4,h3⟩:=up b _ (hx.keeps b _ h1) nf;exact⟨N4,h3⟩
end
def TB (K:Frag){io:Option Nat}(B:Bs io)(ex:Str->Prop)(g:Ev->Res Fl):TS:=fun Dn σ H=>∃ F τ f,GH K B F H σ τ f/\Fw ex (g τ) (Fk K B Dn)
noncomputable def sV (Z:Sg)(G:Gm):List IS->List Stmt->Bool
 | [],[]=>Θ
 | a::as,s::ss=>ou Z G a s&&sV Z G as ss
 | _,_=>Ξ
section
variable {Z:Sg}{cl:Nat->List D->Res D}{X:Cx}{ex:Str->Prop}{G:Gm}
theorem Wq (g:Gx Z (Hl X.prog X.w) cl (JX X.K) X ex G)(GI:X.stack=X.env::X.outer)(Na:X.env.frame=Δ X.env.locals)(lt:MY X.IF)(Ln:∀ a:Ω,∀ f∈Z.fns,f∈Z.pl->∀ x,Z.name f=Δ x->M0 X.prog X.w X.K X.mg X.base (Hl X.prog X.w) (X.A.mark (Δ (.ref a))) cl (JX X.K) f x)
  {B0:Bs G.io} (Zu:B0.N=Φ) (Zv:B0.H=X.IF) (Zw:IB B0.F B0.H) (Zx:∀ a xs,¬ B0.L a xs) (Zy:∀ a xs,¬ B0.T a xs):∀ (as:List IS) (ss:List Stmt),sV Z G as ss=Θ->I0 X ss (TB X.K B0 ex (cI cl as))
 | [],ss,h=>by
  induction ss using zL with
  | nil=>exact fN il fun Dn σ H ⟨F,τ,f,m,q⟩=>q.ok _ _ _ _ m
  | cons _ _=>cases h
 | a::as,ss,h=>by
  induction ss using zL with
  | nil=>cases h
  | cons s ss=>
   have h':(ou Z G a s&&sV Z G as ss)=Θ:=h;rw[g_] at h';have p1:PS X s (TB X.K B0 ex (G3 cl a)):=by exact dC (Wo a X ex G s g h'.1) fun Dn σ H ⟨F,τ,f,m,q⟩=>⟨B0,F,τ,f,m,q⟩
   refine fN (fy p1 (Wq g GI Na lt Ln Zu Zv Zw Zx Zy as ss h'.2)) fun Dn σ H ⟨F,τ,f,m,q⟩=>?_;refine⟨F,τ,f,m,(Fw.Fu q).mono fun r hr=>?_⟩;cases r with
   | nx τ'=>exact fun F8 H' F' f' m'=>⟨F',τ',f',m',hr⟩
   | ct τ'=>exact hr.ok
   | bk τ'=>exact hr.ok
   | rt d=>exact hr.ok
   | ri d ks es=>exact hr.ok
end
noncomputable def sW (Z:Sg)(fn:Fn)(ps:List Str)(st:Stmt):Bool:=
 (cF st).kind == .function&&!(cF st).isCoroutine&&!(cF st).isGenerator&&decide (fn.G.N.Nodup)&&fn.G.N.take ps.length == ps
&&ps.all (fun x=>(cF st).names.lookup x == Δ .local||(cF st).names.lookup x == Δ .cell)&&(cF st).names.all (fun y=>y.2 != .free)
&&(List.range fn.G.N.length).all (fun i=>(fn.G.N[i]?).bind ((cF st).names.lookup ·) == fn.G.kd[i]?)
&&fn.G.N.all (fun x=>!(x == "__debug__")&&!(x == "__classdict__"))
&&fn.G.gl.all (fun n=>match Z.name n with|some x=>(cF st).names.lookup x == Δ .globalImplicit|none=>Ξ)
&&decide (ps.length=fn.np)
noncomputable def cw (Z:Sg)(fn:Fn)(ps:List Str)(st:Stmt):Bool:=sW Z fn ps st&&(!fn.io&&sV Z fn.G fn.body (dz st))
structure K1 (Z:Sg)(fn:Fn)(ps:List Str)(st:Stmt):Prop where
 sc:IH fn.G.N ps (cF st)
 kd:∀ (i:Nat) (x:Str),fn.G.N[i]? = Δ x->(cF st).names.lookup x=fn.G.kd[i]?
 Ld:∀ x∈fn.G.N,(x == ("__debug__" : Str))=Ξ/\(x == ("__classdict__" : Str))=Ξ
 gl:∀ n∈fn.G.gl,∀ x,Z.name n=Δ x->(cF st).names.lookup x=Δ .globalImplicit
 np:ps.length=fn.np
structure J2 (Z:Sg)(fn:Fn)(ps:List Str)(st:Stmt):Prop extends K1 Z fn ps st where
 pl:fn.io=Ξ
 body:sV Z fn.G fn.body (dz st)=Θ
structure Mn (Z:Sg)(fn:Fn)(ps:List Str)(st:Stmt):Prop extends K1 Z fn ps st where
 io:fn.io=Θ
 body:dY Z fn.G fn.body (dz st)=Θ
 Zz:fn.G.io=Δ (fn.np - 1)
 pos:0 < fn.np
 ZA:fn.G.tr=Ξ
theorem sX {Z:Sg}{fn:Fn}{ps:List Str}{st:Stmt}(h:sW Z fn ps st=Θ):K1 Z fn ps st:=by
 unfold sW at h;simp only[g_] at h;obtain⟨⟨⟨⟨⟨⟨⟨⟨⟨⟨h1,h2⟩,h3⟩,h4⟩,h5⟩,h6⟩,h7⟩,h8⟩,h9⟩,K9⟩,L8⟩:=h;rw[V_] at h6 h7 h8 h9 K9;refine⟨⟨h_ h1,by simpa using h2,by simpa using h3,q_ h4,h_ h5,fun x hx=>?_,fun y hy=>by simpa using h7 y hy⟩,fun i x hx=>?_,fun x hx=>by simpa using h9 x hx,fun n hn x hx=>?_,q_ L8⟩
 ·have:=h6 x hx;rw[Y_] at this;exact this.elim (fun z=>.inl (h_ z)) fun z=>.inr (h_ z)
 ·have Gr:i < fn.G.N.length:=(x_.mp hx).1;have:=h_ (h8 i (Z_.mpr Gr));rw[hx] at this;exact this
 ·have:=K9 n hn;rw[hx] at this;exact h_ this
theorem mU {Z:Sg}{fn:Fn}{ps:List Str}{st:Stmt}(h:cw Z fn ps st=Θ):J2 Z fn ps st:=by unfold cw at h;rw[g_,g_] at h;exact⟨sX h.1,by simpa using h.2.1,h.2.2⟩
structure O8 (K:Frag)(mg:Str->Option Ψ)(Z:Sg)(T:Tb)(f:Nat)(x:Str):Prop where
 ex:∃ (fn:Fn) (st:Stmt) (fa:Ω) (fd:Ο) (ps:List Str),T f=Δ fn/\L5 K x x st fa fd/\mg x=Δ (.ref fa)/\Binds K fd ps []/\Mn Z fn ps st
structure F0 (K:Frag)(mg:Str->Option Ψ)(Z:Sg)(T:Tb)(f:Nat)(x:Str):Prop where
 ex:∃ (fn:Fn) (st:Stmt) (fa:Ω) (fd:Ο) (ps:List Str),T f=Δ fn/\L5 K x x st fa fd/\mg x=Δ (.ref fa)/\Binds K fd ps []/\J2 Z fn ps st
section
variable {P:Ε}{w:Β}{K:Frag}{mg:Str->Option Ψ}{base:Heap}{Z:Sg}{T:Tb}
def Wr (mg:Str->Option Ψ)(x:Str)(v:V):Prop:=(∃ C,v=.ref C/\mg x=Δ (.ref C))∨(∃ T,v=.ty T/\mg x=Φ/\bootBuiltins x=Δ (.type T))
structure ID (K:Frag)(mg:Str->Option Ψ)(Z:Sg)(T:Tb):Prop where
 Mg:∀ n x,Z.name n=Δ x->x≠"__name__"/\(x == ("__debug__" : Str))=Ξ
 blt:∀ (n:Nat) (x:Str),cX[n]? = Δ x->mg x=Φ
 cst:∀ n d x,(n,d)∈Z.Nx->Z.name n=Δ x->∃ u v,mg x=Δ u/\RelV v u/\∀ S H,Fx K S H v d
 fns:∀ f∈Z.fns,∀ x,Z.name f=Δ x->F0 K mg Z T f x
 Kh:∀ f∈Z.Kh,∀ x,Z.name f=Δ x->O8 K mg Z T f x
 Ji:∀ f∈Z.pl,∀ fn,T f=Δ fn->fn.G.cm=Ξ
 Nz:∀ n∈Z.cls,∀ x,Z.name n=Δ x->∃ v,Wr mg x v
 NA:∀ c n b x,(c,n,b)∈Z.xt->Z.name n=Δ x->∃ C,PySem.W.nsIn K Η c=Δ (Δ (.ref C))/\ExcAt K C/\∀ v,Wr mg x v->PySem.W.kitOne K (.ref C) (vv v)=Δ b
 NB:∀ c n x,(c,n)∈Z.xm->Z.name n=Δ x->∃ C C',PySem.W.nsIn K Η c=Δ (Δ (.ref C))/\PySem.W.nsIn K Η x=Δ (Δ (.ref C'))/\nameIn K C=Δ c/\mg x=Δ (.ref C')/\PySem.W.exmOne K (.ref C) (.ref C')=Δ Θ
 NC:∀ n c,(n,c)∈Z.rc->Z.name n=Δ c/\∃ C,mg c=Δ (.ref C)/\PySem.W.nsIn K Η c=Δ (Δ (.ref C))/\PySem.W.excIn K C V1 "ValueError.__new__" = Θ
theorem jY {F:Ω->Prop}{H:Hp}:∀ {vs:List V}{ds:List D} (n:Nat),Fv K F H vs ds->Gk K F H (vs.map Δ++Τ n Φ) ((FA ds).map Δ++Τ n Φ) []
 | [],[],n,.nil=>by
  induction n with
  | zero=>exact .nil
  | succ n ih=>exact .none ih
 | v::vs,d::ds,n,.cons h1 h2=>.some (f:=[]) h1.frozen (jY n h2)
structure Rm (n:Nat)(A:Ι):Prop where
 dp:A.depth+3*n+5 < recursionLimit
 un:A.units+16*n+200 < cLine
theorem Rm.room {n:Nat}{A:Ι}(r:Rm n A)(hn:n < 900)(h:A.handled=Φ):Hb n A:=⟨fun _=>h,by have:=r.dp;rw[Nat.mod_eq_of_lt ⋯];exact this,by have:=r.un;rw[Nat.mod_eq_of_lt ⋯];exact this⟩
theorem Rm.Mo {n:Nat}{A:Ι}(r:Rm n A)(hn:n < 900):Hb (1000+n) A:=⟨fun z=>⋯,by have:=r.dp;rw[show (1000+n) % 1000=n by omega];exact this,by have:=r.un;rw[show (1000+n) % 1000=n by omega];exact this⟩
theorem Rm.of {n k:Nat}{A:Ι}(r:Hb k A)(h:k % 1000=n):Rm n A:=⟨by have:=r.dp;rw[h] at this;exact this,by have:=r.un;rw[h] at this;exact this⟩
theorem kZ (t:ID K mg Z T){n k:Nat}{f:Nat}{fn:Fn}{x:Str}{st:Stmt}{fa:Ω}{fd:Ο}{ps:List Str}(hk:k % 1000=n)(hn:n < 900)(h1:T f=Δ fn)(h2:L5 K x x st fa fd)(h5:J2 Z fn ps st)(hp:k < 1000∨fn.G.cm=Ξ)
  (ih:∀ (A:Ι),Rm n A->∀ f∈Z.fns,(A.handled=Φ∨f∈Z.pl)->∀ x,Z.name f=Δ x->M0 P w K mg base (Hl P w) A (aB T n) (JX K) f x)
  (Kc:∀ (A:Ι),Rm n A->∀ f∈Z.Kh,A.handled=Φ->∀ x,Z.name f=Δ x->Qo P w K mg base (Hl P w) A (aB T n) f x) :
  HC P w K mg base (Hl P w) (k+1) fa fd ps (MZ K (aB T (n+1)) (JX K) f ps):=by
 have Ih:∀ ds,aB T (n+1) f ds=fV (aB T n) fn ds:=fun ds=>by show (match T f with|some fn=>(match fn.io with|false=>fV (aB T n) fn ds|true=>gB (aB T n) fn ds)|none=>F5)=_;rw[h1];show (match fn.io with|false=>fV (aB T n) fn ds|true=>gB (aB T n) fn ds)=_;rw[h5.pl]
 obtain⟨oc,od,kV,doc,pm,an,Ia,ct,Lo,rfl,lk,KI⟩:=h2.ex;refine xX lk KI h5.sc ⋯ (fun vs H Q E h=>h.1) fun A outer s H vs Q E hr Jm=>?_;obtain⟨hl,lt,F,ds,Gg,m,q⟩:=Jm;have Kj:fn.G.cm=Θ->A.handled=Φ:=fun z=>hp.elim (fun h=>hr.hd h) fun h=>by rw[h] at z;cases z
 refine⟨_,Wq (Z:=Z) (cl:=aB T n) (ex:=JX K E H) (G:=fn.G) (B0:=⟨F,H,fun _ _=>False,fun _ _=>False,Φ⟩) ?_ rfl rfl lt (fun a f' J3 Nb x' G9=>ih ((A.deeper (envOfC x (cF st) s.heap.objs.size fa Ia)).mark (Δ (.ref a))) ⟨(Rm.of hr hk).dp,(Rm.of hr hk).un⟩ f' J3 (.inr Nb) x' G9) rfl rfl Gg (fun _ _ z=>z) (fun _ _ z=>z) fn.body (dz st) h5.body,?_⟩
 ·refine⟨rfl,h5.sc.nd,fun z=>by show A.handled.isNone=Θ;rw[Kj z];rfl,h5.sc.kind,?_,fun _=>PassesOwn.leaving,fun i y hy=>h5.kd i y hy,fun i y hy=>h5.Ld y (aae hy),fun m hm y hy=>h5.gl m hm y hy,t.Mg,fun _ _=>rfl,t.blt,t.cst,?_,fun f' J3 z x' G9=>Kc _ (Rm.of hr hk) f' J3 (Kj z) x' G9,t.Nz,t.NA,t.NB,t.NC,?_,?_,?_,?_,?_⟩
  ·have:=hr.un;show (A.deeper _).units+42 < cLine;omega
  ·exact fun f' J3 hc x' G9=>ih _ (Rm.of hr hk) f' J3 (hc.elim (fun z=>.inl (Kj z)) .inr) x' G9
  ·exact fun _ pins σ H1 s1 c C h' e vs I hex hn hx=>sU lt (hex C hn) I hx
  ·exact fun _=>⟨rfl,rfl,lt,fun a f' J3 Nb x' G9=>ih ((A.deeper (envOfC x (cF st) s.heap.objs.size fa Ia)).mark (Δ (.ref a))) ⟨(Rm.of hr hk).dp,(Rm.of hr hk).un⟩ f' J3 (.inr Nb) x' G9,fun _ _ _ _ _ _ z=>z,fun c C H' hC C'' Ws=>by rw[hC] at Ws;cases Ws;rfl⟩
  ·exact⟨_,xf (ex:=JX K E H) lt fun c C hc hn=>hc C hn,fun c H' hc C hn=>⟨c,C,hc,hn,rfl⟩⟩
  ·exact fun outer H s E e s' x fr h=>kX x fr h
  ·exact fun H outer s e s'=>kY
 ·rw[Ih] at q;obtain⟨gd,q⟩:=Fw.FE q;have Lf:(FA ds).length=fn.np:=q_ gd;have Ir:fn.G.N.length - vs.length=fn.G.N.length - fn.np:=by rw[m.length,<- dJ ds,Lf]
  refine⟨F,(FA ds).map Δ++Τ (fn.G.N.length - fn.np) Φ,[],⟨Gg,?_,List.nodup_nil,.refl _,fun a ha=>absurd ha (by simp),fun a h=>h,fun a h=>.inl h,fun a xs h=>h.elim,fun a xs h=>h.elim,fun _ _ _ z=>by cases z⟩,(Fw.Fu q).mono fun r hr=>?_⟩
  ·show Gk K F H (start fn.G.N vs) _ [];unfold start;rw[Ir];exact jY _ m
  ·cases r with
   | nx τ'=>exact fun F8 H' F' f' m'=>hr.ok .F4 H' F' [] ⟨m'.Gg,m'.same,.F4,List.nodup_nil,fun a ha=>absurd ha (by simp),m'.Iq,m'.out⟩
   | rt d=>exact fun v H' F' fv o=>hr.ok v H' F' fv o
   | bk τ'=>exact hr.no.elim
   | ct τ'=>exact hr.no.elim
   | ri d ks es=>exact hr.no.elim
theorem mV {F:Ω->Prop}{H:Hp}{a:Ω}{d:D}(hd:F6 K F H (.ref a) d [a]):∀ {vs:List V}{ds:List D} (n:Nat),Fv K F H vs ds->Gk K F H ((vs++[V.ref a]).map Δ++Τ n Φ) ((FA ds++[d]).map Δ++Τ n Φ) [a]
 | [],[],n,.nil=>by have h0:Gk K F H (Τ n Φ) (Τ n Φ) []:=mR (by simp);exact .some (f:=[a]) (g:=[]) hd h0
 | v::vs,d::ds,n,.cons h1 h2=>.some (f:=[]) h1.frozen (mV hd n h2)
theorem jZ (o:Bool)(ks:List Key)(es:List D):∀ ds:List D,wJ (ds++[.Gn o ks es])=ds++[.Gn Θ ks es]
 | []=>rfl
 | [d]=>rfl
 | d::d'::ds=>by show d::wJ (d'::ds++[.Gn o ks es])=_;rw[jZ o ks es (d'::ds)];rfl
theorem ZC {CX:Ho}{cl:Nat->List D->Res D}{xp:XK->Hp->Str->Prop}{X:Cx}{ex:Str->Prop}{G:Gm}(g:Gx Z CX cl xp X ex G)(B:Bs G.io){as:List IS}{ss:List Stmt}(h:dY Z G as ss=Θ):I0 X ss (TB X.K B ex (cI cl as)):=
 fN (qK as X ex G ss g h) fun Dn σ H ⟨F,τ,f,m,q⟩=>⟨B,F,τ,f,m,q⟩
theorem sY (t:ID K mg Z T){n k:Nat}{f:Nat}{fn:Fn}{x:Str}{st:Stmt}{fa:Ω}{fd:Ο}{ps:List Str}(hk:k % 1000=n)(hn:n < 900)(h1:T f=Δ fn)(h2:L5 K x x st fa fd)(h5:Mn Z fn ps st)(hp:k < 1000)
  (ih:∀ (A:Ι),Rm n A->∀ f∈Z.fns,(A.handled=Φ∨f∈Z.pl)->∀ x,Z.name f=Δ x->M0 P w K mg base (Hl P w) A (aB T n) (JX K) f x)
  (Kc:∀ (A:Ι),Rm n A->∀ f∈Z.Kh,A.handled=Φ->∀ x,Z.name f=Δ x->Qo P w K mg base (Hl P w) A (aB T n) f x) :
  HC P w K mg base (Hl P w) (k+1) fa fd ps (SU K (aB T (n+1)) f ps):=by
 have ZD:=h5.Zz;have TC:=h5.pos;have ZE:=h5.ZA;have Ih:∀ ds,aB T (n+1) f ds=gB (aB T n) fn ds:=fun ds=>by show (match T f with|some fn=>(match fn.io with|false=>fV (aB T n) fn ds|true=>gB (aB T n) fn ds)|none=>F5)=_;rw[h1];show (match fn.io with|false=>fV (aB T n) fn ds|true=>gB (aB T n) fn ds)=_;rw[h5.io]
 obtain⟨oc,od,kV,doc,pm,an,Ia,ct,Lo,rfl,lk,KI⟩:=h2.ex;refine xX lk KI h5.sc ⋯ (fun vs H Q E h=>h.1) fun A outer s H vs Q E hr Jm=>?_;obtain⟨hl,a,F,ws,ds,Gd,es,rfl,AI,d,Ii,es',hc,hlf,q⟩:=Jm;have Kj:A.handled=Φ:=hr.hd hp;refine⟨_,ZC (Z:=Z) (CX:=Hl P w) (cl:=aB T n) (xp:=JX K) (ex:=Hw) (G:=fn.G) ?_ ⟨F,rm a H,fun _ _=>False,fun _ _=>False,Δ a⟩ h5.body,?_⟩
 ·refine⟨rfl,h5.sc.nd,fun z=>by show A.handled.isNone=Θ;rw[Kj];rfl,h5.sc.kind,?_,fun _=>PassesOwn.leaving,fun i y hy=>h5.kd i y hy,fun i y hy=>h5.Ld y (aae hy),fun m hm y hy=>h5.gl m hm y hy,t.Mg,fun _ _=>rfl,t.blt,t.cst,fun f' J3 hc x' G9=>ih _ (Rm.of hr hk) f' J3 (.inl Kj) x' G9,fun f' J3 z x' G9=>Kc _ (Rm.of hr hk) f' J3 Kj x' G9,t.Nz,t.NA,t.NB,t.NC,fun _ pins σ H1 s1 c C h' e vs I hex hn hx=>hex.elim,(fun z=>by rw[ZE] at z;cases z),⟨fun _ _ _=>False,fun pins σ H s e s' _ h=>(kY h).elim,fun c H z=>z.elim⟩,fun outer H s E e s' x fr h=>kX x fr h,fun H outer s e s'=>kY⟩;have:=hr.un;show (A.deeper _).units+42 < cLine;omega
 ·rw[Ih] at hc;unfold gB at hc;obtain⟨gd,hc⟩:=n0 hc;have Lf:(FA ds++[D.Gn Ξ (Gd.map (·.1)) es]).length=fn.np:=q_ gd;rw[jZ] at hc;obtain⟨r,TF,hc⟩:=eD hc;have Wt:ws.length=fn.np - 1:=by rw[o_,dJ] at Lf;rw[AI.ws.length,<- Lf];simp
  have Ir:fn.G.N.length - (ws++[V.ref a]).length=fn.G.N.length - fn.np:=by rw[o_,Wt];show fn.G.N.length - (fn.np - 1+1)=_;rw[Nat.sub_add_cancel TC]
  have m0:F6 K F H (.ref a) (.Gn Θ (Gd.map (·.1)) es) [a]:=.MU AI.nF AI.at_ rfl (Fv.free AI.lf AI.vs);refine⟨F,(FA ds++[D.Gn Θ (Gd.map (·.1)) es]).map Δ++Τ (fn.G.N.length - fn.np) Φ,[a],⟨AI.Gg,?_,by simp,C6,fun b hb=>by rw[u_.mp hb];exact pA,fun b h=>h,fun b h=>.inl h,fun b xs h=>h.elim,fun b xs h=>h.elim,fun j b e1 e2=>?_⟩,?_⟩
  ·show Gk K F H (start fn.G.N (ws++[.ref a])) _ [a];unfold start;rw[Ir];exact mV m0 _ AI.ws
  ·rw[ZD] at e1;cases e1;cases e2;show (start fn.G.N (ws++[.ref a]))[fn.np - 1]? = _;unfold start;rw[<- Wt,G_,B_,aaw (by simp)];simp
  ·rw[TF];cases r with
   | ri d1 ks1 HE=>cases hc;intro v Qt Qs fv TH l hN ot hF ZF hH ZG ZH;have e:=hN a rfl;subst e;exact q v Qt Qs fv TH ⟨ot,hF,ZF,hH,ZG,ZH⟩
   | nx _=>cases hc
   | bk _=>cases hc
   | ct _=>cases hc
   | rt _=>cases hc
theorem jd (t:ID K mg Z T):∀ (n:Nat),n < 900->(∀ (A:Ι),Rm n A->∀ f∈Z.fns,(A.handled=Φ∨f∈Z.pl)->∀ x,Z.name f=Δ x->M0 P w K mg base (Hl P w) A (aB T n) (JX K) f x)/\
  ∀ (A:Ι),Rm n A->∀ f∈Z.Kh,A.handled=Φ->∀ x,Z.name f=Δ x->Qo P w K mg base (Hl P w) A (aB T n) f x
 | 0,h9=>by
  refine⟨fun A hr f hf hc x hx=>?_,fun A hr f hf hc x hx=>?_⟩
  ·obtain⟨fn,st,fa,fd,ps,h1,h2,h3,h4,h5⟩:=(t.fns f hf x hx).ex;have no:∀ vs H Q E,¬ MZ K (aB T 0) (JX K) f ps vs H Q E:=fun vs H Q E ⟨_,_,F,ds,_,_,h⟩=>h;exact⟨1000+0,fa,fd,ps,h3,h2.kp,h4,⟨fun vs H Q E h=>h.1,fun A outer s H args us vs Q E _ _ _ _ h=>(no _ _ _ _ h).elim⟩,hr.Mo h9,fun ex ds k h=>h.elim⟩
  ·obtain⟨fn,st,fa,fd,ps,h1,h2,h3,h4,h5⟩:=(t.Kh f hf x hx).ex;have no:∀ vs H Q E,¬ SU K (aB T 0) f ps vs H Q E:=fun vs H Q E ⟨_,a,F,ws,ds,Gd,es,_,_,d,Ii,es',h,_⟩=>by cases h
   exact⟨0,fa,fd,ps,h3,h2.kp,h4,⟨fun vs H Q E h=>h.1,fun A outer s H args us vs Q E _ _ _ _ h=>(no _ _ _ _ h).elim⟩,hr.room h9 hc,fun ds r h=>by cases h⟩
 | n+1,h9=>by
  obtain⟨ih,Kc⟩:=jd t n ⋯;refine⟨fun A hr f hf hc x hx=>?_,fun A hr f hf hc x hx=>?_⟩
  ·obtain⟨fn,st,fa,fd,ps,h1,h2,h3,h4,h5⟩:=(t.fns f hf x hx).ex;have hlen:∀ (ex:Str->Prop) ds (k:D->Prop),Fw ex (aB T (n+1) f ds) k->ds.length=ps.length:=fun ex ds k h=>by
    have Ih:aB T (n+1) f ds=fV (aB T n) fn ds:=by show (match T f with|some fn=>(match fn.io with|false=>fV (aB T n) fn ds|true=>gB (aB T n) fn ds)|none=>F5)=_;rw[h1];show (match fn.io with|false=>fV (aB T n) fn ds|true=>gB (aB T n) fn ds)=_;rw[h5.pl]
    rw[Ih] at h;obtain⟨gd,_⟩:=Fw.FE h;rw[q_ gd,h5.np]
   by_cases Ln:f∈Z.pl
   ·exact⟨1000+n+1,fa,fd,ps,h3,h2.kp,h4,kZ t (k:=1000+n) (n:=n) ⋯ ⋯ h1 h2 h5 (.inr (t.Ji f Ln fn h1)) ih Kc,hr.Mo h9,hlen⟩
   ·exact⟨n+1,fa,fd,ps,h3,h2.kp,h4,kZ t (k:=n) (n:=n) ⋯ ⋯ h1 h2 h5 (.inl ⋯) ih Kc,hr.room h9 (hc.elim id fun z=>absurd z Ln),hlen⟩
  ·obtain⟨fn,st,fa,fd,ps,h1,h2,h3,h4,h5⟩:=(t.Kh f hf x hx).ex;refine⟨n+1,fa,fd,ps,h3,h2.kp,h4,sY t (k:=n) (n:=n) ⋯ ⋯ h1 h2 h5 ⋯ ih Kc,hr.room h9 hc,fun ds r h=>?_⟩;have Ih:aB T (n+1) f ds=gB (aB T n) fn ds:=by show (match T f with|some fn=>(match fn.io with|false=>fV (aB T n) fn ds|true=>gB (aB T n) fn ds)|none=>F5)=_;rw[h1];show (match fn.io with|false=>fV (aB T n) fn ds|true=>gB (aB T n) fn ds)=_;rw[h5.io]
   rw[Ih] at h;obtain⟨gd,_⟩:=n0 h;rw[q_ gd,h5.np]
theorem xg (t:ID K mg Z T)(n:Nat)(hn:n < 900):∀ (A:Ι),Rm n A->∀ f∈Z.fns,(A.handled=Φ∨f∈Z.pl)->∀ x,Z.name f=Δ x->M0 P w K mg base (Hl P w) A (aB T n) (JX K) f x:=(jd t n hn).1
end
section
variable {P:Ε}{w:Β}{K:Frag}{mg:Str->Option Ψ}{base:Heap}{Z:Sg}{T:Tb}
def NL (K:Frag)(cl:Nat->List D->Res D)(f:Nat)(ps:List Str):Sp:=fun vs H Q E=>vs.length=ps.length/\∃ F ds,IB F H/\Fv K F H vs ds/\
 Fw Hw (cl f (FA ds)) fun d=>∀ v H' F' fv,Out K F H F' H' v d fv->Q v H'
theorem sZ {cl:Nat->List D->Res D}{k f:Nat}{fa:Ω}{fd:Ο}{ps:List Str}(F:HC P w K mg base (Hl P w) k fa fd ps (MZ K cl (JX K) f ps)):HC P w K mg base (Hl P w) k fa fd ps (NL K cl f ps):=by
 refine⟨fun vs H Q E h=>h.1,fun A outer s H args us vs Q E hr e0 bd r Jm=>?_⟩;obtain⟨hl,Fc,ds,Gg,m,q⟩:=Jm;have e1:J8 P w K mg base A outer s (cT s.heap H):=⟨e0.frames,e0.mod,fun b o e=>⟨(e0.bs b o e).1,dS (e0.bs b o e).2⟩,e0.Lj,e0.Ht,fun b hb=>dS (e0.KH b hb),su e0.Ge,e0.bare⟩
 have hq:Fw (JX K E (cT s.heap H)) (cl f (FA ds)) fun d=>∀ v H' F' fv,Out K Fc H F' H' v d fv->Q v H':=by
  cases z:cl f (FA ds) with
  | ok d=>rw[z] at q;exact q
  | error er=>
   rw[z] at q;cases er with
   | stuck=>exact q.no.elim
   | exc c=>exact False.elim q
 have hs:MZ K cl (JX K) f ps vs (cT s.heap H) (fun v H'=>JB s.heap (cT s.heap H) H'->Q v (gE H H')) E:=
  ⟨hl,sr _ _,_,ds,fun a h=>h.2,o9 e0.Ge m,hq.mono fun d hd v H' F' fv o p=>hd v _ _ fv (pd e0.Ge Gg p o)⟩
 refine codeAny_mono (F.run A outer s (cT s.heap H) args us vs _ E hr e1 bd r hs) fun r' s' hq=>?_;cases r' with
 | error e=>exact kX e0.Ge e0.KH hq
 | ok fl=>
  cases fl with
  | ret u=>obtain⟨v,H',a1,a2,a3,a4,a5,a6⟩:=hq;exact⟨v,gE H H',a1,a2,n9 e0.Ge a3,n8 e0.Ge a4 (gF a3) (fs:=Ha outer) (fun b o _ e n f=>a3.keep b o e n f (by simp)) e0.KH,a5,a6 (gF a3)⟩
  | next=>exact hq
  | brk=>exact hq
  | cont=>exact hq
theorem Bl (t:ID K mg Z T)(n:Nat)(hn:n < 900){f:Nat}{fn:Fn}{x:Str}{st:Stmt}{fa:Ω}{fd:Ο}{ps:List Str}(h1:T f=Δ fn)(h2:L5 K x x st fa fd)(h5:J2 Z fn ps st):HC P w K mg base (Hl P w) (n+1) fa fd ps (NL K (aB T (n+1)) f ps):=
 sZ (kZ t (k:=n) (n:=n) ⋯ hn h1 h2 h5 (.inl ⋯) (xg t n hn) (jd t n hn).2)
theorem Bm {f n:Nat}{x:Str}{a:Ω}{H:Hp}{ns:List Int}(hS:Ls K H a (ns.map V.int))(hl:aB T n f [.lst Ξ (ns.map .int)]=.ok (.bl Θ)) :
  NL K (aB T n) f [x] [.ref a] H (fun v _=>v=.bl Θ) fun _ _ _=>False:=by
 have m:Fv K (fun a=>H a≠Φ) H [.ref a] [.lst Ξ (ns.map .int)]:=by
  refine .cons ?_ .nil;rcases hS with hS|hS
  ·exact .lst hS.some hS (Fv.ofInts ns)
  ·exact .lstK hS (Fv.ofInts ns)
 refine⟨rfl,fun a=>H a≠Φ,[.lst Ξ (ns.map .int)],fun a h=>h,m,?_⟩;have he:FA [.lst Ξ (ns.map .int)]=[D.lst Ξ (ns.map .int)]:=by rw[FA,FA,er,cA,H_];rfl
 rw[he,hl];intro v H' F' fv o;cases o.rep;rfl
theorem td {l:PySem.W.OpenLaw}{q:Ε}{loose:List Str}{XP:(Str->Option Ψ)->Heap->Prop}{YP:Β->Heap->Prop}{d:DefRec}{K:Params->Frag}{T:Tb}{n f:Nat}{x:Str}(hn:l.most=Δ 63)(Oh:d.params.defaults=[])(hr:Hb (n+1) callerA)
  (hY:∀ (w:Β) (h:Heap),YP w h->(K w.params).In h)
  (F:∀ (w:Β) (mg:Str->Option Ψ) (fa:Ω) (h:Heap),(K w.params).In h->h.Ns Η mg->mg d.name=Δ (.ref fa)->
   ∃ fd:Ο,(∀ (s:Α) (u:Ψ),BindsTo s fd ⟨[u],[]⟩ [(x,u)])/\∀ base:Heap,(K w.params).In base->base.Ns Η mg->HC l.prog w (K w.params) mg base (Hl l.prog w) (n+1) fa fd [x] (NL (K w.params) (aB T (n+1)) f [x]))
  (hl:∀ ns:List Int,ns.length<=63->aB T (n+1) f [.lst Ξ (ns.map .int)]=.ok (.bl Θ)) :
  PySem.W.WalkO q loose XP YP l.row.toRowW d [] (fun f vs=>PySem.call f vs):=
 L2.v8 (n:=63) (k:=n+1) (x:=x) (CX:=fun w=>Hl l.prog w) (sp:=fun w=>NL (K w.params) (aB T (n+1)) f [x]) hn nofun Oh hr hY F (fun w H a ns h1 _ hS=>Bm hS (hl ns h1)) fun _ _ _ _ _ z=>kY z
end
namespace Ev
section
variable {α β:Type}{cl:Nat->List D->Res D}{τ:Ev}{mv:Bool}
theorem pE {a:α}{f:α->Res β}:Fu (.ok a) f=f a:=rfl
theorem yj {x:Res α}:FE Θ x=x:=rfl
theorem Wu {d:D}:Fz cl (.c d) τ=.ok d:=rfl
theorem Wv {n:Nat}{d:D}:Fz cl (.g n d) τ=.ok d:=rfl
theorem Ww {i:Nat}:Fz cl (.v i) τ=(match cp τ i with|some d=>.ok d|none=>F5):=rfl
noncomputable def C7 (cl:Nat->List D->Res D)(op:KS)(b:IR)(τ:Ev)(x:D):Res D:=Fu (Fz cl b τ) (HM op x)
theorem aC {op:KS}{b:IR}{x:D}:C7 cl op b τ x=Fu (Fz cl b τ) (HM op x):=rfl
theorem yk {op:KS}{a b:IR}:Fz cl (.bin op a b) τ=Fu (Fz cl a τ) (C7 cl op b τ):=rfl
noncomputable def C8:D->Res D
 | .int i=>.ok (.int (-i))
 | _=>F5
theorem yl {a:IR}:Fz cl (.neg a) τ=Fu (Fz cl a τ) C8:=rfl
theorem tf {i:Int}:C8 (.int i)=.ok (.int (-i)):=rfl
noncomputable def TJ (r:Bool):Res D:=.ok (.bl r)
theorem bt {r:Bool}:TJ r=.ok (.bl r):=rfl
noncomputable def mW (op:Ip)(x y:D):Res D:=Fu (G7 op x y) TJ
theorem ag {op:Ip}{x y:D}:mW op x y=Fu (G7 op x y) TJ:=rfl
noncomputable def C9 (cl:Nat->List D->Res D)(op:Ip)(b:IR)(τ:Ev)(x:D):Res D:=Fu (Fz cl b τ) (mW op x)
theorem aD {op:Ip}{b:IR}{x:D}:C9 cl op b τ x=Fu (Fz cl b τ) (mW op x):=rfl
theorem ym {op:Ip}{a b:IR}:Fz cl (.cmp op a b) τ=Fu (Fz cl a τ) (C9 cl op b τ):=rfl
noncomputable def Bn (cl:Nat->List D->Res D)(GK:Ip)(c:IR)(τ:Ev)(y:D)(r:Bool):Res D:=if r=Θ then Fu (Fz cl c τ) (mW GK y) else .ok (.bl Ξ)
theorem aE {GK:Ip}{c:IR}{y:D}{r:Bool}:Bn cl GK c τ y r=if r=Θ then Fu (Fz cl c τ) (mW GK y) else .ok (.bl Ξ):=rfl
noncomputable def Bo (cl:Nat->List D->Res D)(op GK:Ip)(c:IR)(τ:Ev)(x y:D):Res D:=Fu (G7 op x y) (Bn cl GK c τ y)
theorem aF {op GK:Ip}{c:IR}{x y:D}:Bo cl op GK c τ x y=Fu (G7 op x y) (Bn cl GK c τ y):=rfl
noncomputable def Wx (cl:Nat->List D->Res D)(op GK:Ip)(b c:IR)(τ:Ev)(x:D):Res D:=Fu (Fz cl b τ) (Bo cl op GK c τ x)
theorem bu {op GK:Ip}{b c:IR}{x:D}:Wx cl op GK b c τ x=Fu (Fz cl b τ) (Bo cl op GK c τ x):=rfl
theorem pF {op GK:Ip}{a b c:IR}:Fz cl (.chain op GK a b c) τ=Fu (Fz cl a τ) (Wx cl op GK b c τ):=rfl
noncomputable def tj (cl:Nat->List D->Res D)(b:IR)(τ:Ev)(x:D)(r:Bool):Res D:=if r=Θ then Fz cl b τ else .ok x
theorem ah {b:IR}{x:D}{r:Bool}:tj cl b τ x r=if r=Θ then Fz cl b τ else .ok x:=rfl
noncomputable def Dc (cl:Nat->List D->Res D)(b:IR)(τ:Ev)(x:D):Res D:=Fu (cM x) (tj cl b τ x)
theorem aG {b:IR}{x:D}:Dc cl b τ x=Fu (cM x) (tj cl b τ x):=rfl
theorem yn {a b:IR}:Fz cl (.GC a b) τ=Fu (Fz cl a τ) (Dc cl b τ):=rfl
noncomputable def Bp (cl:Nat->List D->Res D)(b:IR)(τ:Ev)(x:D)(r:Bool):Res D:=if r=Θ then .ok x else Fz cl b τ
theorem aH {b:IR}{x:D}{r:Bool}:Bp cl b τ x r=if r=Θ then .ok x else Fz cl b τ:=rfl
noncomputable def Wy (cl:Nat->List D->Res D)(b:IR)(τ:Ev)(x:D):Res D:=Fu (cM x) (Bp cl b τ x)
theorem bw {b:IR}{x:D}:Wy cl b τ x=Fu (cM x) (Bp cl b τ x):=rfl
theorem Dd {a b:IR}:Fz cl (.JT a b) τ=Fu (Fz cl a τ) (Wy cl b τ):=rfl
noncomputable def tq (r:Bool):Res D:=.ok (.bl !r)
theorem aj {r:Bool}:tq r=.ok (.bl !r):=rfl
noncomputable def De (x:D):Res D:=Fu (cM x) tq
theorem aI {x:D}:De x=Fu (cM x) tq:=rfl
theorem yo {a:IR}:Fz cl (.GQ a) τ=Fu (Fz cl a τ) De:=rfl
noncomputable def tu (cl:Nat->List D->Res D)(a b:IR)(τ:Ev)(r:Bool):Res D:=if r=Θ then Fz cl a τ else Fz cl b τ
theorem ak {a b:IR}{r:Bool}:tu cl a b τ r=if r=Θ then Fz cl a τ else Fz cl b τ:=rfl
noncomputable def Df (cl:Nat->List D->Res D)(a b:IR)(τ:Ev)(x:D):Res D:=Fu (cM x) (tu cl a b τ)
theorem aJ {a b:IR}{x:D}:Df cl a b τ x=Fu (cM x) (tu cl a b τ):=rfl
theorem yp {t a b:IR}:Fz cl (.ite t a b) τ=Fu (Fz cl t τ) (Df cl a b τ):=rfl
noncomputable def tupK (ds:List D):Res D:=FE (dn ds.length) (.ok (.tup ds))
theorem aK {ds:List D}:tupK ds=FE (dn ds.length) (.ok (.tup ds)):=rfl
theorem yq {es:List IR}:Fz cl (.tup es) τ=Fu (dt cl es τ) tupK:=rfl
noncomputable def lstK (ds:List D):Res D:=FE (dn ds.length) (.ok (.lst Θ ds))
theorem aL {ds:List D}:lstK ds=FE (dn ds.length) (.ok (.lst Θ ds)):=rfl
theorem yr {es:List IR}:Fz cl (.lst es) τ=Fu (dt cl es τ) lstK:=rfl
noncomputable def Dg (cl:Nat->List D->Res D)(i:IR)(τ:Ev)(x:D):Res D:=Fu (Fz cl i τ) (cH x)
theorem aM {i:IR}{x:D}:Dg cl i τ x=Fu (Fz cl i τ) (cH x):=rfl
theorem yu {a i:IR}:Fz cl (.idx a i) τ=Fu (Fz cl a τ) (Dg cl i τ):=rfl
noncomputable def Bq (cl:Nat->List D->Res D)(hi:Option IR)(τ:Ev)(x:D)(l:Option Int):Res D:=Fu (kN cl hi τ) (mB x l)
theorem aN {hi:Option IR}{x:D}{l:Option Int}:Bq cl hi τ x l=Fu (kN cl hi τ) (mB x l):=rfl
noncomputable def Wz (cl:Nat->List D->Res D)(lo hi:Option IR)(τ:Ev)(x:D):Res D:=Fu (kN cl lo τ) (Bq cl hi τ x)
theorem bx {lo hi:Option IR}{x:D}:Wz cl lo hi τ x=Fu (kN cl lo τ) (Bq cl hi τ x):=rfl
theorem Dh {a:IR}{lo hi:Option IR}:Fz cl (.sl a lo hi) τ=Fu (Fz cl a τ) (Wz cl lo hi τ):=rfl
noncomputable def yy (cl:Nat->List D->Res D)(f:Nat)(ds:List D):Res D:=cl f (FA ds)
theorem ao {f:Nat}{ds:List D}:yy cl f ds=cl f (FA ds):=rfl
theorem tv {f:Nat}{es:List IR}:Fz cl (.call f es) τ=Fu (dt cl es τ) (yy cl f):=rfl
theorem Di {f:Bi}{es:List IR}:Fz cl (.bi f es) τ=Fu (dt cl es τ) (ek f):=rfl
noncomputable def Dj (k:Kd)(x:D):Res D:=FE (gV x) (.ok (.bl (du k x)))
theorem aO {k:Kd}{x:D}:Dj k x=FE (gV x) (.ok (.bl (du k x))):=rfl
theorem Dk:gV .F4=Θ:=rfl
theorem Dl {b:Bool}:gV (.bl b)=Θ:=rfl
theorem Dm {i:Int}:gV (.int i)=Θ:=rfl
theorem Dq {x:Str}:gV (.str x)=Θ:=rfl
theorem Dr {ds:List D}:gV (.tup ds)=Θ:=rfl
theorem Ds {o:Bool}{ds:List D}:gV (.lst o ds)=Θ:=rfl
theorem tx {a b:IR}:Fz cl (.HL a b) τ=Fu (Fz cl a τ) fun x=>Fu (Fz cl b τ) fun y=>oV x y:=rfl
theorem tB {a:IR}:Fz cl (.HK a) τ=Fu (Fz cl a τ) wF:=rfl
theorem Dt {o:Bool}{ds:List D}:wF (.lst o ds)=.ok (.lst Θ ds.reverse):=rfl
theorem tD {a:IR}:Fz cl (.sset a) τ=Fu (Fz cl a τ) oX:=rfl
theorem yz {a:IR}{k:Kd}:Fz cl (.Ic a k) τ=Fu (Fz cl a τ) (Dj k):=rfl
noncomputable def Du (cl:Nat->List D->Res D)(m:Mt)(es:List IR)(τ:Ev)(x:D):Res D:=FE (gb x) (Fu (dt cl es τ) (iR m x))
theorem aP {m:Mt}{es:List IR}{x:D}:Du cl m es τ x=FE (gb x) (Fu (dt cl es τ) (iR m x)):=rfl
theorem yB {m:Mt}{o:IR}{es:List IR}:Fz cl (.Kf m o es) τ=Fu (Fz cl o τ) (Du cl m es τ):=rfl
noncomputable def Br (ds:List D):Res D:=.ok (.lst Θ ds)
theorem aQ {ds:List D}:Br ds=.ok (.lst Θ ds):=rfl
noncomputable def yC (cl:Nat->List D->Res D)(G:Gm)(fr:List Nat)(T:Tg)(I:List IR)(E:IR)(τ:Ev)(its:List D):Res D:=FE (dP its.length) (Fu (LF (cD (cL cl T I E (JE G fr τ)) its)) Br)
theorem aq {G:Gm}{fr:List Nat}{T:Tg}{I:List IR}{E:IR}{its:List D}:yC cl G fr T I E τ its=FE (dP its.length) (Fu (LF (cD (cL cl T I E (JE G fr τ)) its)) Br):=rfl
theorem tE {G:Gm}{fr:List Nat}{T:Tg}{s:Sr}{I:List IR}{E:IR}:Fz cl (.comp G fr T s I E) τ=Fu (eO cl s τ) (yC cl G fr T I E τ):=rfl
theorem Dv:dt cl [] τ=.ok []:=rfl
noncomputable def tH (d:D)(ds:List D):Res (List D):=.ok (d::ds)
theorem au {d:D}{ds:List D}:tH d ds=.ok (d::ds):=rfl
noncomputable def WA (cl:Nat->List D->Res D)(es:List IR)(τ:Ev)(d:D):Res (List D):=Fu (dt cl es τ) (tH d)
theorem bA {es:List IR}{d:D}:WA cl es τ d=Fu (dt cl es τ) (tH d):=rfl
theorem Dw {e:IR}{es:List IR}:dt cl (e::es) τ=Fu (Fz cl e τ) (WA cl es τ):=rfl
noncomputable def Dx:D->Res (Option Int)
 | .int i=>.ok (Δ i)
 | _=>F5
theorem tJ {i:Int}:Dx (.int i)=.ok (Δ i):=rfl
theorem Dy:kN cl Φ τ=.ok Φ:=rfl
theorem Dz {e:IR}:kN cl (Δ e) τ=Fu (Fz cl e τ) Dx:=rfl
theorem DA:fJ cl [] τ=.ok Θ:=rfl
noncomputable def WB (cl:Nat->List D->Res D)(es:List IR)(τ:Ev)(r:Bool):Res Bool:=if r=Θ then fJ cl es τ else .ok Ξ
theorem bB {es:List IR}{r:Bool}:WB cl es τ r=if r=Θ then fJ cl es τ else .ok Ξ:=rfl
theorem DB {e:IR}{es:List IR}:fJ cl (e::es) τ=Fu (Fu (Fz cl e τ) cM) (WB cl es τ):=rfl
noncomputable def yD:D->Res (List D)
 | .int i=>FE (ib i) (.ok (cO 0 i))
 | _=>F5
theorem pG {i:Int}:yD (.int i)=FE (ib i) (.ok (cO 0 i)):=rfl
theorem DC {n:IR}:eO cl (.Gj n) τ=Fu (Fz cl n τ) yD:=rfl
noncomputable def DD (cl:Nat->List D->Res D)(τ:Ev)(b:IR)(x:D):Res (List D):=Fu (Fz cl b τ) fun y=>iT x y
noncomputable def tL (x y:D):Res (List D):=iT x y
theorem aR {b:IR}{x:D}:DD cl τ b x=Fu (Fz cl b τ) (tL x):=rfl
theorem mX {o o':Bool}{ds es:List D}:tL (.lst o ds) (.lst o' es)=.ok (eB ds es):=rfl
theorem mY {ds es:List D}:tL (.tup ds) (.tup es)=.ok (eB ds es):=rfl
theorem tM {o:Bool}{ds:List D}:wD (.lst o ds)=.ok (iS ds):=rfl
theorem yE {a:IR}:eO cl (.IA a) τ=Fu (Fz cl a τ) wD:=rfl
theorem yF {a b:IR}:eO cl (.zip a b) τ=Fu (Fz cl a τ) (DD cl τ b):=rfl
theorem yG {e:IR}:eO cl (.val e) τ=Fu (Fz cl e τ) gW:=rfl
theorem DE {o:Bool}{ds:List D}:gW (.lst o ds)=.ok ds:=rfl
theorem DF {ds:List D}:gW (.tup ds)=.ok ds:=rfl
theorem DG {x:Str}:gW (.str x)=FE (dn x.length) (.ok (dE x)):=rfl
theorem WC {t:IR}:OM cl t τ=Fu (Fz cl t τ) cM:=rfl
theorem Qu {i:Nat}:Gu cl mv (.v i) τ=(match cp τ i with|some d=>if mv=Θ then .ok (d,τ.set i Φ) else .ok (er d,τ.set i (Δ (er d)))|none=>F5):=rfl
noncomputable def yI (p:List D×Ev):Res (D×Ev):=FE (dn p.1.length) (.ok (.tup p.1,p.2))
theorem av {p:List D×Ev}:yI p=FE (dn p.1.length) (.ok (.tup p.1,p.2)):=rfl
theorem JY {es:List IR}:Gu cl mv (.tup es) τ=Fu (jD cl mv es τ) yI:=rfl
noncomputable def yJ (p:List D×Ev):Res (D×Ev):=FE (dn p.1.length) (.ok (.lst Θ p.1,p.2))
theorem aw {p:List D×Ev}:yJ p=FE (dn p.1.length) (.ok (.lst Θ p.1,p.2)):=rfl
theorem JZ {es:List IR}:Gu cl mv (.lst es) τ=Fu (jD cl mv es τ) yJ:=rfl
noncomputable def yL (cl:Nat->List D->Res D)(mv:Bool)(a b:IR)(τ:Ev)(r:Bool):Res (D×Ev):=if r=Θ then Gu cl mv a τ else Gu cl mv b τ
theorem ax {a b:IR}{r:Bool}:yL cl mv a b τ r=if r=Θ then Gu cl mv a τ else Gu cl mv b τ:=rfl
theorem J0 {t a b:IR}:Gu cl mv (.ite t a b) τ=Fu (OM cl t τ) (yL cl mv a b τ):=rfl
noncomputable def k8 (es:List IR)(τ:Ev)(d:D):Res (D×Ev):=if cq d=Θ then .ok (d,τ) else .ok (d,Gh (cE es) τ)
theorem aa {es:List IR}{d:D}:k8 es τ d=if cq d=Θ then .ok (d,τ) else .ok (d,Gh (cE es) τ):=rfl
noncomputable def tO (cl:Nat->List D->Res D)(f:Nat)(es:List IR)(τ:Ev)(ds:List D):Res (D×Ev):=Fu (cl f (FA ds)) (k8 es τ)
theorem ae {f:Nat}{es:List IR}{ds:List D}:tO cl f es τ ds=Fu (cl f (FA ds)) (k8 es τ):=rfl
theorem IK {f:Nat}{es:List IR}:Gu cl mv (.call f es) τ=Fu (dt cl es τ) (tO cl f es τ):=rfl
noncomputable def eK (e:IR)(τ:Ev)(d:D):Res (D×Ev):=.ok (cB e d τ)
theorem ay {e:IR}{d:D}:eK e τ d=.ok (cB e d τ):=rfl
theorem WE {d:D}:Gu cl mv (.c d) τ=Fu (Fz cl (.c d) τ) (eK (.c d) τ):=rfl
theorem yM {op:KS}{a b:IR}:Gu cl mv (.bin op a b) τ=Fu (Fz cl (.bin op a b) τ) (eK (.bin op a b) τ):=rfl
theorem yN {op:Ip}{a b:IR}:Gu cl mv (.cmp op a b) τ=Fu (Fz cl (.cmp op a b) τ) (eK (.cmp op a b) τ):=rfl
theorem yO {a b:IR}:Gu cl mv (.GC a b) τ=Fu (Fz cl (.GC a b) τ) (eK (.GC a b) τ):=rfl
theorem DH {a b:IR}:Gu cl mv (.JT a b) τ=Fu (Fz cl (.JT a b) τ) (eK (.JT a b) τ):=rfl
theorem yQ {a:IR}:Gu cl mv (.GQ a) τ=Fu (Fz cl (.GQ a) τ) (eK (.GQ a) τ):=rfl
theorem yR {a i:IR}:Gu cl mv (.idx a i) τ=Fu (Fz cl (.idx a i) τ) (eK (.idx a i) τ):=rfl
theorem DI {a:IR}{lo hi:Option IR}:Gu cl mv (.sl a lo hi) τ=Fu (Fz cl (.sl a lo hi) τ) (eK (.sl a lo hi) τ):=rfl
theorem DJ {f:Bi}{es:List IR}:Gu cl mv (.bi f es) τ=Fu (Fz cl (.bi f es) τ) (eK (.bi f es) τ):=rfl
theorem tP {a b:IR}:Gu cl mv (.HL a b) τ=Fu (Fz cl (.HL a b) τ) (eK (.HL a b) τ):=rfl
theorem tQ {a:IR}:Gu cl mv (.HK a) τ=Fu (Fz cl (.HK a) τ) (eK (.HK a) τ):=rfl
theorem tU {a:IR}:Gu cl mv (.sset a) τ=Fu (Fz cl (.sset a) τ) (eK (.sset a) τ):=rfl
theorem yS {m:Mt}{o:IR}{es:List IR}:Gu cl mv (.Kf m o es) τ=Fu (Fz cl (.Kf m o es) τ) (eK (.Kf m o es) τ):=rfl
theorem tV {G:Gm}{fr:List Nat}{T:Tg}{s:Sr}{I:List IR}{E:IR}:Gu cl mv (.comp G fr T s I E) τ=Fu (Fz cl (.comp G fr T s I E) τ) (eK (.comp G fr T s I E) τ):=rfl
theorem DK:jD cl mv [] τ=.ok ([],τ):=rfl
noncomputable def Bt (d:D)(q:List D×Ev):Res (List D×Ev):=.ok (d::q.1,q.2)
theorem aT {d:D}{q:List D×Ev}:Bt d q=.ok (d::q.1,q.2):=rfl
noncomputable def WG (cl:Nat->List D->Res D)(mv:Bool)(es:List IR)(p:D×Ev):Res (List D×Ev):=Fu (jD cl mv es p.2) (Bt p.1)
theorem bC {es:List IR}{p:D×Ev}:WG cl mv es p=Fu (jD cl mv es p.2) (Bt p.1):=rfl
theorem DL {e:IR}{es:List IR}:jD cl mv (e::es) τ=Fu (Gu cl mv e τ) (WG cl mv es):=rfl
noncomputable def TK (d:D):Res (Option D):=.ok (Δ d)
theorem bD {d:D}:TK d=.ok (Δ d):=rfl
noncomputable def Bu (cl:Nat->List D->Res D)(E:IR)(τ:Ev)(r:Bool):Res (Option D):=if r=Θ then Fu (Fz cl E τ) TK else .ok Φ
theorem aU {E:IR}{r:Bool}:Bu cl E τ r=if r=Θ then Fu (Fz cl E τ) TK else .ok Φ:=rfl
noncomputable def WH (cl:Nat->List D->Res D)(I:List IR)(E:IR)(τ:Ev):Res (Option D):=Fu (fJ cl I τ) (Bu cl E τ)
theorem bE {I:List IR}{E:IR}:WH cl I E τ=Fu (fJ cl I τ) (Bu cl E τ):=rfl
theorem pH {T:Tg}{I:List IR}{E:IR}{x:D}:cL cl T I E τ x=Fu (dR T x τ) (WH cl I E):=rfl
theorem tW {G:Gm}{fr:List Nat}:JE G fr τ=fr.map (cp τ)++Τ (G.N.length - fr.length) Φ:=rfl
theorem WI {e:IR}{i:Int}:cB e (.int i) τ=(.int i,τ):=rfl
theorem WJ {e:IR}{x:Str}:cB e (.str x) τ=(.str x,τ):=rfl
theorem WK {e:IR}{b:Bool}:cB e (.bl b) τ=(.bl b,τ):=rfl
theorem WL {e:IR}:cB e .F4 τ=(.F4,τ):=rfl
noncomputable def TL (τ':Ev):Res Fl:=.ok (.nx τ')
theorem bF:TL τ=.ok (.nx τ):=rfl
noncomputable def DM (tg:Tg)(p:D×Ev):Res Fl:=Fu (dR tg p.1 p.2) TL
theorem aV {tg:Tg}{p:D×Ev}:DM tg p=Fu (dR tg p.1 p.2) TL:=rfl
theorem IL {tg:Tg}{e:IR}:G3 cl (.asg tg e) τ=Fu (Gu cl Ξ e τ) (DM tg):=rfl
noncomputable def tX (i:Nat)(p:D×Ev)(ds:List D):D->Res Fl
 | .int z=>(match Hg ds.length z with
  | some j=>.ok (.nx (p.2.set i (Δ (.lst Θ (ds.set j p.1)))))
  | none=>F5)
 | _=>F5
noncomputable def Bv (cl:Nat->List D->Res D)(i:Nat)(k:IR)(p:D×Ev):Option D->Res Fl
 | some (.lst Θ ds)=>Fu (Fz cl k p.2) (tX i p ds)
 | _=>F5
theorem tY {i:Nat}{k:IR}{p:D×Ev}{ds:List D}:Bv cl i k p (Δ (.lst Θ ds))=Fu (Fz cl k p.2) (tX i p ds):=rfl
theorem pI {i:Nat}{p:D×Ev}{ds:List D}{z:Int}:tX i p ds (.int z)=(match Hg ds.length z with|some j=>.ok (.nx (p.2.set i (Δ (.lst Θ (ds.set j p.1)))))|none=>F5):=rfl
noncomputable def tZ (cl:Nat->List D->Res D)(i:Nat)(k:IR)(p:D×Ev):Res Fl:=Bv cl i k p (cp p.2 i)
theorem af {i:Nat}{k:IR}{p:D×Ev}:tZ cl i k p=Bv cl i k p (cp p.2 i):=rfl
theorem Hy {i:Nat}{k e:IR}:G3 cl (.Ie i k e) τ=Fu (Gu cl Ξ e τ) (tZ cl i k):=rfl
noncomputable def Bw (i:Nat)(p:D×Ev):Option D->Res Fl
 | some (.lst Θ ds)=>FE (dP ds.length) (.ok (.nx (p.2.set i (Δ (.lst Θ (ds++[p.1]))))))
 | _=>F5
noncomputable def Bx (i:Nat)(p:D×Ev):Res Fl:=Bw i p (cp p.2 i)
theorem aW {i:Nat}{p:D×Ev}:Bx i p=Bw i p (cp p.2 i):=rfl
noncomputable def DN (cl:Nat->List D->Res D)(i:Nat)(e:IR)(τ:Ev):Option D->Res Fl
 | some (.lst _ _)=>Fu (Gu cl Ξ e τ) (Bx i)
 | _=>F5
theorem t5 {i:Nat}{e:IR}{o:Bool}{ds:List D}:DN cl i e τ (Δ (.lst o ds))=Fu (Gu cl Ξ e τ) (Bx i):=rfl
theorem t6 {i:Nat}{p:D×Ev}{ds:List D}:Bw i p (Δ (.lst Θ ds))=FE (dP ds.length) (.ok (.nx (p.2.set i (Δ (.lst Θ (ds++[p.1])))))):=rfl
noncomputable def xh (i:Nat)(p:D×Ev)(z:Int):Option D->Res Fl
 | some (.lst Θ ds)=>FE (decide (0<=z/\z.toNat<=ds.length)&&dP ds.length) (.ok (.nx (p.2.set i (Δ (.lst Θ (ds.take z.toNat++p.1::ds.drop z.toNat))))))
 | _=>F5
theorem ua {i:Nat}{p:D×Ev}{z:Int}{ds:List D}:xh i p z (Δ (.lst Θ ds))=FE (decide (0<=z/\z.toNat<=ds.length)&&dP ds.length) (.ok (.nx (p.2.set i (Δ (.lst Θ (ds.take z.toNat++p.1::ds.drop z.toNat)))))):=rfl
noncomputable def By (i:Nat):D->D×Ev->Res Fl
 | .int z,p=>xh i p z (cp p.2 i)
 | _,_=>F5
theorem ub {i:Nat}{z:Int}{p:D×Ev}:By i (.int z) p=xh i p z (cp p.2 i):=rfl
noncomputable def Bz (cl:Nat->List D->Res D)(i:Nat)(e:IR)(τ:Ev)(y:D):Res Fl:=Fu (Gu cl Ξ e τ) (By i y)
theorem aX {i:Nat}{e:IR}{y:D}:Bz cl i e τ y=Fu (Gu cl Ξ e τ) (By i y):=rfl
noncomputable def DO (cl:Nat->List D->Res D)(i:Nat)(k e:IR)(τ:Ev):Option D->Res Fl
 | some (.lst _ _)=>Fu (Fz cl k τ) (Bz cl i e τ)
 | _=>F5
theorem uc {i:Nat}{k e:IR}{o:Bool}{ds:List D}:DO cl i k e τ (Δ (.lst o ds))=Fu (Fz cl k τ) (Bz cl i e τ):=rfl
theorem IM {i:Nat}{k e:IR}:G3 cl (.ins i k e) τ=DO cl i k e τ (cp τ i):=by
 show (match cp τ i with|some (.lst _ _)=>(Fu (Fz cl k τ) fun y=>Fu (Gu cl Ξ e τ) fun p=>(match y,cp p.2 i with|.int z,Δ (.lst Θ ds)=>FE (decide (0<=z/\z.toNat<=ds.length)&&dP ds.length) (.ok (Fl.nx (p.2.set i (Δ (.lst Θ (ds.take z.toNat++p.1::ds.drop z.toNat))))))|_,_=>F5))|_=>F5)=_;cases cp τ i with
 | none=>rfl
 | some d=>
  induction d using zD with
  | lst o ds=>
   refine congrArg (Fu (Fz cl k τ)) (funext fun y=>congrArg (Fu (Gu cl Ξ e τ)) (funext fun p=>?_))
   induction y using zD with
   | int z=>
    show (match D.int z,cp p.2 i with|.int z,Δ (.lst Θ ds)=>FE (decide (0<=z/\z.toNat<=ds.length)&&dP ds.length) (.ok (.nx (p.2.set i (Δ (.lst Θ (ds.take z.toNat++p.1::ds.drop z.toNat))))))|_,_=>F5)=xh i p z (cp p.2 i);cases cp p.2 i with
    | none=>rfl
    | some d2=>induction d2 using zD<;>first|rfl|(rename_i b _;induction b using zB<;>rfl)
   | _=>rfl
  | _=>rfl
theorem aY {j:Nat}{its:List D}:wG j τ its=FE (dP its.length) (.ok (.nx (τ.set j (Δ (.lst Θ (Τ (its.length+1) (.lst Θ []))))))):=rfl
theorem IP {j t:Nat}{G:Gm}{fr:List Nat}{s:Sr}:G3 cl (.Nw j G fr t s) τ=Fu (eO cl s τ) (wG j τ):=rfl
theorem ud {i j:Nat}{e c x v w:IR}:G3 cl (.LC i j e c x v w) τ=r6 cl i j e c x v w τ (cp τ i):=rfl
theorem aZ {i j:Nat}{e c x v w:IR}{ds:List D}:r6 cl i j e c x v w τ (Δ (.lst Θ ds))=Fu (Fz cl e τ) (wI cl i j c x v w ds τ):=rfl
theorem a8 {i j:Nat}{c x v w:IR}{ds:List D}{z:Int}:wI cl i j c x v w ds τ (.int z)=nZ cl i j c x v w ds τ (Hg ds.length z):=rfl
theorem IQ {i:Nat}{e:IR}:G3 cl (.app i e) τ=DN cl i e τ (cp τ i):=rfl
noncomputable def DP (τ:Ev)(d:D):Res Fl:=.ok (.nx τ)
theorem ba {d:D}:DP τ d=.ok (.nx τ):=rfl
theorem IU {e:IR}:G3 cl (.exp e) τ=Fu (Fz cl e τ) (DP τ):=rfl
noncomputable def TM (p:D×Ev):Res Fl:=.ok (.rt p.1)
theorem bG {p:D×Ev}:TM p=.ok (.rt p.1):=rfl
theorem IT {e:IR}:G3 cl (.ret e) τ=Fu (Gu cl Θ e τ) TM:=rfl
theorem HV {e:IR}:G3 cl (.Kg e) τ=Fu (Gu cl Ξ e τ) TM:=rfl
noncomputable def WM (cl:Nat->List D->Res D)(a b:List IS)(τ:Ev)(r:Bool):Res Fl:=if r=Θ then cI cl a τ else cI cl b τ
theorem bH {a b:List IS}{r:Bool}:WM cl a b τ r=if r=Θ then cI cl a τ else cI cl b τ:=rfl
theorem J1 {t:IR}{a b:List IS}:G3 cl (.Gi t a b) τ=Fu (OM cl t τ) (WM cl a b τ):=rfl
noncomputable def turn (cl:Nat->List D->Res D)(tg:Tg)(body:List IS)(x:D)(τ:Ev):Res Fl:=Fu (dR tg x τ) (cI cl body)
theorem cy {tg:Tg}{body:List IS}{x:D}:turn cl tg body x τ=Fu (dR tg x τ) (cI cl body):=rfl
noncomputable def DQ (cl:Nat->List D->Res D)(tg:Tg)(body:List IS)(p:List D×Ev):Res Fl:=forM (turn cl tg body) p.1 p.2
theorem bc {tg:Tg}{body:List IS}{p:List D×Ev}:DQ cl tg body p=forM (turn cl tg body) p.1 p.2:=rfl
theorem IV {tg:Tg}{s:Sr}{body:List IS}:G3 cl (.GF tg s body) τ=Fu (mE cl s τ) (DQ cl tg body):=rfl
noncomputable def BA (f:Ev->Res Fl):Fl->Res Fl
 | .nx τ'=>f τ'
 | .ct τ'=>.ok (.ct τ')
 | .bk τ'=>.ok (.bk τ')
 | .rt d=>.ok (.rt d)
 | .ri d ks vs=>.ok (.ri d ks vs)
theorem DR:cI cl [] τ=.ok (.nx τ):=rfl
theorem DS {s:IS}{r:List IS}:cI cl (s::r) τ=Fu (G3 cl s τ) (BA (cI cl r)):=rfl
theorem yT {f:Ev->Res Fl}:BA f (.nx τ)=f τ:=rfl
theorem yU {f:Ev->Res Fl}{d:D}:BA f (.rt d)=.ok (.rt d):=rfl
noncomputable def DT (τ:Ev)(its:List D):Res (List D×Ev):=.ok (its,τ)
theorem bf {its:List D}:DT τ its=.ok (its,τ):=rfl
noncomputable def ue (e:IR)(τ:Ev)(its:List D):Res (List D×Ev):=.ok (FA its,Gh (vars e) τ)
theorem az {e:IR}{its:List D}:ue e τ its=.ok (FA its,Gh (vars e) τ):=rfl
theorem yV {n:IR}:mE cl (.Gj n) τ=Fu (eO cl (.Gj n) τ) (DT τ):=rfl
theorem yW {e:IR}:mE cl (.IA e) τ=Fu (eO cl (.IA e) τ) (ue e τ):=rfl
theorem yX {e:IR}:mE cl (.val e) τ=Fu (eO cl (.val e) τ) (ue e τ):=rfl
noncomputable def DU (body:D->Ev->Res Fl)(xs:List D):Fl->Res Fl
 | .nx τ'=>forM body xs τ'
 | .ct τ'=>forM body xs τ'
 | .bk τ'=>.ok (.nx τ')
 | .rt d=>.ok (.rt d)
 | .ri d ks vs=>.ok (.ri d ks vs)
theorem fD {body:D->Ev->Res Fl}{x:D}{xs:List D}:forM body (x::xs) τ=Fu (body x τ) (DU body xs):=rfl
theorem yY {body:D->Ev->Res Fl}{xs:List D}:DU body xs (.nx τ)=forM body xs τ:=rfl
theorem DV {i:Nat}{d:D}:dR (.nm i) d τ=.ok (τ.set i (Δ d)):=rfl
theorem DW {ts:List Tg}{ds:List D}:dR (.tp ts) (.tup ds) τ=FE (decide (ds.length=ts.length)) (gA ts ds τ):=rfl
theorem yZ:gA [] [] τ=.ok τ:=rfl
theorem y3 {t:Tg}{ts:List Tg}{d:D}{ds:List D}:gA (t::ts) (d::ds) τ=Fu (dR t d τ) (gA ts ds):=rfl
theorem bJ {o p:Option D}:(o::τ).set 0 p=p::τ:=rfl
theorem bK {o p:Option D}{i:Nat}:(o::τ).set (i+1) p=o::τ.set i p:=rfl
theorem y6 {a b:Int}:HM .add (.int a) (.int b)=.ok (.int (a+b)):=rfl
theorem oy {a b:Str}:HM .add (.str a) (.str b)=FE (dn (a.length+b.length)) (.ok (.str (a++b))):=rfl
theorem uf {o o':Bool}{a b:List D}:HM .add (.lst o a) (.lst o' b)=FE (dn (a.length+b.length)) (.ok (.lst Θ (a++b))):=rfl
theorem y7 {a b:Int}:HM .sub (.int a) (.int b)=.ok (.int (a - b)):=rfl
theorem y9 {a b:Int}:HM .mul (.int a) (.int b)=FE (decide (-(2 ^ 64) < a/\a < 2 ^ 64)||decide (-(2 ^ 64) < b/\b < 2 ^ 64)) (.ok (.int (a*b))):=rfl
theorem ug {a:Str}{b:Int}:HM .mul (.str a) (.int b)=FE (decide (-16000<=b/\b<=16000/\a.length<=1000)) (.ok (.str (Txt.mul a b))):=rfl
theorem BB {a b:Int}:HM .fdiv (.int a) (.int b)=FE (decide (0 < b/\b < 1073741824)) (.ok (.int (a / b))):=rfl
theorem DX {a b:Int}:HM .mod (.int a) (.int b)=FE (decide (0 < b)) (.ok (.int (a % b))):=rfl
theorem za {a b:Int}:HM .pow (.int a) (.int b)=FE (decide (0<=b/\b<=1000000/\a.natAbs < 2 ^ 64)) (.ok (.int (a ^ b.toNat))):=rfl
theorem QE {o:Bool}{ds:List D}{i:Int}:cH (.lst o ds) (.int i)=(match Hh ds i with|some d=>.ok d|none=>F5):=rfl
theorem WN {ds:List D}{i:Int}:cH (.tup ds) (.int i)=(match Hh ds i with|some d=>.ok d|none=>F5):=rfl
theorem ZI {z:Str}{i:Int}:cH (.str z) (.int i)=FE (dn z.length) (match Hh z.cps.toList i with|some c=>.ok (.str ⟨#[c]⟩)|none=>F5):=rfl
theorem DY {o:Bool}{ds:List D}{lo hi:Option Int}:mB (.lst o ds) lo hi=.ok (.lst Θ (cZ ds lo hi)):=rfl
theorem DZ {z:Str}{lo hi:Option Int}:mB (.str z) lo hi=FE (dn z.length) (.ok (.str (Txt.slice z lo hi))):=rfl
theorem D3 {b:Bool}:cM (.bl b)=.ok b:=rfl
theorem D4 {a b:D}:G7 .eq a b=G0 40 a b:=by cases a<;>cases b<;>rfl
noncomputable def D5 (r:Bool):Res Bool:=.ok !r
theorem bg {r:Bool}:D5 r=.ok !r:=rfl
theorem D6 {a b:D}:G7 .ne a b=Fu (G0 40 a b) D5:=by cases a<;>cases b<;>rfl
theorem D7 {n:Nat}{a b:Int}:G0 (n+1) (.int a) (.int b)=.ok (a == b):=rfl
theorem D8 {n:Nat}{a b:Str}:G0 (n+1) (.str a) (.str b)=.ok (a == b):=rfl
theorem D9 {n:Nat}{a b:Bool}:G0 (n+1) (.bl a) (.bl b)=.ok (a == b):=rfl
theorem Ea {n:Nat}{a b:List D}:G0 (n+1) (.tup a) (.tup b)=eN (G0 n) a b:=rfl
theorem Eb {n:Nat}{o o':Bool}{a b:List D}:G0 (n+1) (.lst o a) (.lst o' b)=eN (G0 n) a b:=rfl
theorem Ec {a b:Int}:G7 .lt (.int a) (.int b)=.ok (decide (a < b)):=rfl
theorem Ed {a b:Int}:G7 .le (.int a) (.int b)=.ok (decide (a<=b)):=rfl
theorem Ee {a b:Int}:G7 .gt (.int a) (.int b)=.ok (decide (b < a)):=rfl
theorem Ef {a b:Int}:G7 .ge (.int a) (.int b)=.ok (decide (b<=a)):=rfl
theorem zb {y x:Str}:G7 .Lb (.str y) (.str x)=.ok (mC x y):=rfl
theorem Eg {a:D}:G7 .LA a .F4=.ok (eW a):=by cases a<;>rfl
theorem zd {a:D}:G7 .JR a .F4=.ok (!eW a):=by cases a<;>rfl
theorem WO:eW .F4=Θ:=rfl
theorem WQ {i:Int}:eW (.int i)=Ξ:=rfl
theorem WR {i:Str}:eW (.str i)=Ξ:=rfl
theorem WT {b:Bool}:eW (.bl b)=Ξ:=rfl
theorem WU {ds:List D}:eW (.tup ds)=Ξ:=rfl
theorem WV {o:Bool}{ds:List D}:eW (.lst o ds)=Ξ:=rfl
theorem ze {x:Str}:ek .len [.str x]=FE (dn x.length) (.ok (.int x.length)):=rfl
theorem zf {ds:List D}:ek .len [.tup ds]=.ok (.int ds.length):=rfl
theorem zg {o:Bool}{ds:List D}:ek .len [.lst o ds]=.ok (.int ds.length):=rfl
theorem uh {a b:Int}:ek .min2 [.int a,.int b]=.ok (.int (if b < a then b else a)):=rfl
theorem ui {a b:Int}:ek .max2 [.int a,.int b]=.ok (.int (if b > a then b else a)):=rfl
theorem uj {x:Str}:ek .ord [.str x]=FE (decide (x.length=1)) (.ok (.int (x.cps.getD 0 0:Nat))):=rfl
theorem pJ {o:Bool}{ds:List D}:ek .tuple [.lst o ds]=.ok (.tup ds):=rfl
theorem mZ {o:Bool}{ds:List D}:ek .list [.lst o ds]=.ok (.lst Θ ds):=rfl
theorem uk (ns:List Str):fw (ns.map .str)=Δ ns:=by
 induction ns with
 | nil=>rfl
 | cons n ns ih=>show (fw (ns.map .str)).map (n::·)=_;rw[ih];rfl
theorem pK (ns:List Bool):dQ (ns.map .bl)=Δ ns:=by
 induction ns with
 | nil=>rfl
 | cons n ns ih=>show (dQ (ns.map .bl)).map (n::·)=_;rw[ih];rfl
theorem um {o:Bool}{bs:List Bool}:ek .any [.lst o (bs.map .bl)]=.ok (.bl (bs.any id)):=by
 show (match dQ (bs.map .bl) with|some bs=>.ok (.bl (bs.any id))|none=>F5)=(_:Res D)
 rw[pK]
theorem uo {o:Bool}{bs:List Bool}:ek .all [.lst o (bs.map .bl)]=.ok (.bl (bs.all id)):=by
 show (match dQ (bs.map .bl) with|some bs=>.ok (.bl (bs.all id))|none=>F5)=(_:Res D)
 rw[pK]
theorem xj {x:Str}{o:Bool}{ys:List Str}(h:(ys.map (·.length)).sum+ys.length*x.length<=16777216):iR .join (.str x) [.lst o (ys.map .str)]=.ok (.str (Txt.join x ys)):=by
 show (match fw (ys.map .str) with|some ys=>FE (decide ((ys.map (fun y:Str=>y.length)).sum+ys.length*x.length<=16777216)) (.ok (.str (Txt.join x ys)))|none=>F5)=(_:Res D)
 rw[uk];show FE (decide _) _=_;rw[F_ h];rfl
theorem j5 {x y:Str}:iR .starts (.str x) [.str y]=.ok (.bl (Txt.startswith x y)):=rfl
theorem zh {x:Str}:gb (.str x)=Θ:=rfl
theorem uq {x:Str}:du .str (.str x)=Θ:=rfl
theorem ur {x:Int}:du .int (.int x)=Θ:=rfl
theorem uu {x:Int}:du .bool (.int x)=Ξ:=rfl
theorem uv {x:List D}:du .tuple (.tup x)=Θ:=rfl
theorem m7 {i:Int}:du .str (.int i)=Ξ:=rfl
theorem m8 {ds:List D}:du .str (.tup ds)=Ξ:=rfl
theorem m9 {o:Bool}{ds:List D}:du .str (.lst o ds)=Ξ:=rfl
theorem nc:du .int (.F4)=Ξ:=rfl
theorem ng {x:Str}:du .int (.str x)=Ξ:=rfl
theorem nh {ds:List D}:du .int (.tup ds)=Ξ:=rfl
theorem ni {o:Bool}{ds:List D}:du .int (.lst o ds)=Ξ:=rfl
theorem j6:du .bool (.F4)=Ξ:=rfl
theorem j7 {b:Bool}:du .bool (.bl b)=Θ:=rfl
theorem j8 {x:Str}:du .bool (.str x)=Ξ:=rfl
theorem j9 {ds:List D}:du .bool (.tup ds)=Ξ:=rfl
theorem ke {o:Bool}{ds:List D}:du .bool (.lst o ds)=Ξ:=rfl
theorem kg:du .list (.F4)=Ξ:=rfl
theorem kh {b:Bool}:du .list (.bl b)=Ξ:=rfl
theorem ki {i:Int}:du .list (.int i)=Ξ:=rfl
theorem kj {x:Str}:du .list (.str x)=Ξ:=rfl
theorem kl {ds:List D}:du .list (.tup ds)=Ξ:=rfl
theorem km {o:Bool}{ds:List D}:du .list (.lst o ds)=Θ:=rfl
theorem jf:du .tuple (.F4)=Ξ:=rfl
theorem jg {b:Bool}:du .tuple (.bl b)=Ξ:=rfl
theorem jh {i:Int}:du .tuple (.int i)=Ξ:=rfl
theorem ji {x:Str}:du .tuple (.str x)=Ξ:=rfl
theorem jj {o:Bool}{ds:List D}:du .tuple (.lst o ds)=Ξ:=rfl
theorem uw (ns:List Int):ck (ns.map .int)=Θ:=by rw[dg,List.all_map,V_];intro x _;rfl
theorem oz (ns:List Str):ck (ns.map .str)=Θ:=by rw[dg,List.all_map,V_];intro x _;rfl
theorem bV {i:Int}:er (.int i)=.int i:=by rw[er]
theorem bW {i:Str}:er (.str i)=.str i:=by rw[er]
theorem bX {i:Bool}:er (.bl i)=.bl i:=by rw[er]
theorem bY:er .F4=.F4:=by rw[er]
theorem bZ {ds:List D}:er (.tup ds)=.tup (FA ds):=by rw[er]
theorem cb {o:Bool}{ds:List D}:er (.lst o ds)=.lst Ξ (FA ds):=by rw[er]
theorem bL:FA []=[]:=by rw[FA]
theorem bM {d:D}{ds:List D}:FA (d::ds)=er d::FA ds:=by rw[FA]
theorem cJ (ns:List Int):FA (ns.map .int)=ns.map .int:=eh (uw ns)
theorem cK (ns:List Str):FA (ns.map .str)=ns.map .str:=eh (oz ns)
theorem zi {i:Int}:cq (.int i)=Θ:=rfl
theorem zj {i:Str}:cq (.str i)=Θ:=rfl
theorem zk {i:Bool}:cq (.bl i)=Θ:=rfl
theorem zl:cq .F4=Θ:=rfl
theorem zm {ds:List D}:cq (.tup ds)=ck ds:=rfl
theorem zo {o:Bool}{ds:List D}:cq (.lst o ds)=Ξ:=rfl
theorem ux:ck []=Θ:=rfl
theorem uy {d:D}{ds:List D}:ck (d::ds)=(cq d&&ck ds):=rfl
noncomputable def uz:Fl->Res D
 | .nx _=>.ok .F4
 | .rt d=>.ok d
 | _=>F5
theorem run {fn:Fn}{ds:List D}(h:ds.length=fn.np):fV cl fn ds=Fu (cI cl fn.body (ds.map Δ++Τ (fn.G.N.length - fn.np) Φ)) uz:=by unfold fV;rw[F_ h];rfl
theorem uA:uz (.nx τ)=.ok .F4:=rfl
theorem uB {d:D}:uz (.rt d)=.ok d:=rfl
theorem call {T:Tb}{n f:Nat}{fn:Fn}{ds:List D}(h:T f=Δ fn)(h0:fn.io=Ξ):aB T (n+1) f ds=fV (aB T n) fn ds:=by show (match T f with|some fn=>(match fn.io with|false=>fV (aB T n) fn ds|true=>gB (aB T n) fn ds)|none=>F5)=_;rw[h];show (match fn.io with|false=>fV (aB T n) fn ds|true=>gB (aB T n) fn ds)=_;rw[h0]
theorem go {T:Tb}{n f:Nat}{fn:Fn}{ds:List D}{m k:Nat}{body:List IS}(h:T f=Δ fn)(h0:fn.io=Ξ)(h1:fn.np=m)(h2:fn.G.N.length=k)(h3:fn.body=body)(hl:ds.length=m) :
  aB T (n+1) f ds=Fu (cI (aB T n) body (ds.map Δ++Τ (k - m) Φ)) uz:=by
 rw[call h h0,run (by rw[hl,h1]),h1,h2,h3]
end
end Ev
namespace Ev
section
variable {cl:Nat->List D->Res D}{τ:Ev}
theorem line:Ζ=16777216:=sizeLine_eq
theorem uC {a b:Int}(h1 : -18446744073709551616 < a)(h2:a < 18446744073709551616):HM .mul (.int a) (.int b)=.ok (.int (a*b)):=by rw[y9,F_ (show -(2 ^ 64) < a/\a < 2 ^ 64 from ⟨⋯,⋯⟩)];rfl
theorem uD {a b:Int}(h1 : -18446744073709551616 < b)(h2:b < 18446744073709551616):HM .mul (.int a) (.int b)=.ok (.int (a*b)):=by rw[y9,F_ (show -(2 ^ 64) < b/\b < 2 ^ 64 from ⟨⋯,⋯⟩),Bool.or_true];rfl
theorem uE {a b:Int}(h1:0 < b)(h2:b < 1073741824):HM .fdiv (.int a) (.int b)=.ok (.int (a / b)):=by rw[BB,F_ ⟨h1,h2⟩];rfl
theorem zq {a b:Int}(h1:0 < b):HM .mod (.int a) (.int b)=.ok (.int (a % b)):=by rw[DX,F_ h1];rfl
theorem g9 {n:Nat}(h:n<=16777216):dn n=Θ:=F_ (by rw[line];exact h)
theorem jk {n:Nat}(h:n < 16777216):dP n=Θ:=F_ (by rw[line];exact h)
theorem pL {i:Int}(h1 : -4611686018427387904<=i)(h2:i < 4611686018427387904):ib i=Θ:=F_ ⟨⋯,⋯⟩
theorem pM {α β:Type}(f:α->β)(xs:List α)(i:Int):Hh (xs.map f) i=(Hh xs i).map f:=by
 unfold Hh;rw[i_];cases Hg xs.length i with
 | none=>rfl
 | some j=>exact A_ ..
theorem k9 {α:Type}{xs:List α}{i:Int}(d:α)(h0:0<=i)(h1:i < xs.length):Hh xs i=Δ (xs.getD i.toNat d):=by
 unfold Hh Hg;rw[f_ h0,f_ h1];show xs[i.toNat]? = _;have:i.toNat < xs.length:=⋯
 rw[aat,y_ this];rfl
theorem O9 {o:Bool}{xs:List Int}{i:Int}(h0:0<=i)(h1:i < xs.length):cH (.lst o (xs.map .int)) (.int i)=.ok (.int (xs.getD i.toNat 0)):=by rw[QE,pM,k9 0 h0 h1];rfl
theorem BC {o:Bool}{xs:List Str}{i:Int}(h0:0<=i)(h1:i < xs.length):cH (.lst o (xs.map .str)) (.int i)=.ok (.str (xs.getD i.toNat ⟨#[]⟩)):=by rw[QE,pM,k9 ⟨#[]⟩ h0 h1];rfl
theorem O' {z:Str}{i:Int}(h0:0<=i)(h1:i < z.length)(hz:z.length<=16777216):cH (.str z) (.int i)=.ok (.str ⟨#[z.cps.toList.getD i.toNat 0]⟩):=by
 rw[ZI,g9 hz];have hl:z.cps.toList.length=z.length:=by simp[Str.length]
 rw[k9 0 h0 (by rw[hl];exact h1)];rfl
theorem oA {α:Type}(xs:List α){m:Int}(h:0<=m):cZ xs Φ (Δ m)=xs.take m.toNat:=by
 unfold cZ HT.Iu;simp only[List.drop_zero,Nat.sub_zero];rw[d_ ⋯];by_cases hm:m.toNat<=xs.length
 ·rw[show min m.toNat xs.length=m.toNat from Nat.min_eq_left hm]
 ·rw[show min m.toNat xs.length=xs.length from Nat.min_eq_right ⋯,List.take_length,List.take_of_length_le ⋯]
noncomputable def fz:Bool->Option D->Option D
 | true,Δ d=>Δ (er d)
 | true,Φ=>Φ
 | false,o=>o
theorem Eh {d:D}:fz Θ (Δ d)=Δ (er d):=rfl
theorem Ei {o:Option D}:fz Ξ o=o:=rfl
theorem zr {is:List Nat}{k:Nat}{o:Option D}{τ:Ev}:jC is k (o::τ)=fz (is.contains k) o::jC is (k+1) τ:=by show (if is.contains k then o.map er else o)::jC is (k+1) τ=_;cases is.contains k<;>induction o using zO<;>rfl
theorem cf {d:D}:vars (.c d)=[]:=rfl
theorem Ej {n:Nat}{d:D}:vars (.g n d)=[]:=rfl
theorem cg {i:Nat}:vars (.v i)=[i]:=rfl
theorem bh {o:KS}{a b:IR}:vars (.bin o a b)=vars a++vars b:=rfl
theorem bo {es:List IR}:vars (.tup es)=cE es:=rfl
theorem bq {es:List IR}:vars (.lst es)=cE es:=rfl
theorem aA {f:Nat}{es:List IR}:vars (.call f es)=cE es:=rfl
theorem bN {f:Bi}{es:List IR}:vars (.bi f es)=cE es:=rfl
theorem br {a i:IR}:vars (.idx a i)=vars a++vars i:=rfl
theorem bP:cE []=[]:=rfl
theorem bQ {e:IR}{es:List IR}:cE (e::es)=vars e++cE es:=rfl
theorem pN {G:Gm}{fr:List Nat}{t:Tg}{s:Sr}{i:List IR}{e:IR}:cN (.comp G fr t s i e)=Θ:=rfl
theorem uF {a b:IR}:cN (.bin .add a b)=Θ:=rfl
theorem pO {es:List IR}:cN (.bi .list es)=Θ:=rfl
theorem uG {a i:IR}:cN (.idx a i)=Ξ:=rfl
theorem Ek {e:IR}{o:Bool}{ds:List D}{τ:Ev}:cB e (.lst o ds) τ=cond (cN e) (cond (ck ds) (.lst Θ ds,τ) (.lst Θ (FA ds),Gh (vars e) τ)) (.lst Ξ (FA ds),Gh (vars e) τ):=by
 unfold cB;rw[d_ (show ¬ cq (.lst o ds)=Θ by intro z;cases z)];cases cN e
 ·exact Prod.ext (by show er (.lst o ds)=_;rw[er];rfl) rfl
 ·show (if ck ds=Θ then _ else _)=_;cases ck ds<;>rfl
theorem El {e:IR}{ds:List D}{τ:Ev}:cB e (.tup ds) τ=cond (ck ds) (.tup ds,τ) (.tup (FA ds),Gh (vars e) τ):=by
 unfold cB;cases h:ck ds with
 | true=>rw[f_ (show cq (.tup ds)=Θ from h)];rfl
 | false=>rw[d_ (show ¬ cq (.tup ds)=Θ by intro z;rw[show cq (.tup ds)=ck ds from rfl,h] at z;cases z)];cases cN e<;>exact Prod.ext (by show er (.tup ds)=_;rw[er];rfl) rfl
theorem pP {body:D->Ev->Res Fl}(P:Nat->Ev->Prop):∀ (its:List D) (k:Nat) (τ:Ev),P k τ->(∀ (i:Nat) (x:D) (τ:Ev),its[i]? = Δ x->P (k+i) τ->∃ τ',body x τ=.ok (.nx τ')/\P (k+i+1) τ')->∃ τ',forM body its τ=.ok (.nx τ')/\P (k+its.length) τ'
 | [],k,τ,h,_=>⟨τ,rfl,h⟩
 | x::xs,k,τ,h,hb=>by
  obtain⟨Lc,e1,h1⟩:=hb 0 x τ rfl h;obtain⟨TN,e2,h2⟩:=pP P xs (k+1) Lc h1 fun i y σ hy hp=>by obtain⟨τ',e',h'⟩:=hb (i+1) y σ (by simpa using hy) (by rw[show k+(i+1)=k+1+i by omega];exact hp);exact⟨τ',e',by rw[show k+1+i+1=k+(i+1)+1 by omega];exact h'⟩
  refine⟨TN,?_,by rw[List.length_cons,show k+(xs.length+1)=k+1+xs.length by omega];exact h2⟩;rw[fD,e1,pE,yY,e2]
theorem dZ {body:D->Ev->Res Fl}(P:Nat->Ev->Prop){its:List D}{τ:Ev}(h:P 0 τ)(hb:∀ (i:Nat)(x:D)(τ:Ev),its[i]? = Δ x->P i τ->∃ τ',body x τ=.ok (.nx τ')/\P (i+1) τ'):∃ τ',forM body its τ=.ok (.nx τ')/\P its.length τ':=by
 obtain⟨τ',h1,h2⟩:=pP P its 0 τ h fun i x τ hx hp=>by rw[Nat.zero_add] at hp ⊢;exact hb i x τ hx hp
 exact⟨τ',h1,by rw[Nat.zero_add] at h2;exact h2⟩
theorem nj {α β:Type}{body:D->Ev->Res Fl}(f:β->α->β)(J4:α->D)(st:β->Ev->Prop):∀ (xs:List α) (b:β) (τ:Ev),st b τ->(∀ (x:α) (b:β) (τ:Ev),x∈xs->st b τ->∃ τ',body (J4 x) τ=.ok (.nx τ')/\st (f b x) τ')->
  ∃ τ',forM body (xs.map J4) τ=.ok (.nx τ')/\st (xs.foldl f b) τ'
 | [],b,τ,h,_=>⟨τ,rfl,h⟩
 | x::xs,b,τ,h,hb=>by obtain⟨Lc,e1,h1⟩:=hb x b τ (by simp) h;obtain⟨TN,e2,h2⟩:=nj f J4 st xs (f b x) Lc h1 fun y b σ hy hp=>hb y b σ (I_ _ hy) hp;refine⟨TN,?_,h2⟩;rw[b_,fD,e1,pE,yY,e2]
theorem dF {α β:Type}{g:D->Res (Option D)}(J4:α->D)(out:α->β)(Nc:β->D):∀ (xs:List α),(∀ x∈xs,g (J4 x)=.ok (Δ (Nc (out x))))->cD g (xs.map J4)=.ok ((xs.map out).map Nc)
 | [],_=>rfl
 | x::xs,h=>by show Fu (g (J4 x)) _=_;rw[h x (by simp)];show Fu (cD g (xs.map J4)) _=_;rw[dF J4 out Nc xs fun y hy=>h y (I_ _ hy)];rfl
theorem bR {α:Type}{a:α}:LF (.ok a:Res α)=.ok a:=rfl
theorem jl (a b:Int):cO a b=((List.range (b - a).toNat).map fun k=>a+(k:Nat)).map .int:=by unfold cO;rw[H_];rfl
end
end Ev
end L2
namespace L2.Ev
theorem FF {o:Option D}{τ:Ev}:cp (o::τ) 0=o:=rfl
theorem FG {o:Option D}{τ:Ev}{i:Nat}:cp (o::τ) (i+1)=cp τ i:=rfl
theorem FH {is:List Nat}{k:Nat}:jC is k []=[]:=rfl
theorem FI {a k:Nat}{l:List Nat}:List.contains (a::l) k=((k == a)||l.contains k):=rfl
theorem FJ {k:Nat}:List.contains [] k=Ξ:=rfl
theorem FK {b:Bool}{i:Int}:fz b (Δ (.int i))=Δ (.int i):=by cases b<;>rfl
theorem FL {b:Bool}{i:PySem.Str}:fz b (Δ (.str i))=Δ (.str i):=by cases b<;>rfl
theorem FN {b:Bool}:fz b Φ=Φ:=by cases b<;>rfl
end L2.Ev
namespace L2
open PySem
namespace Ev
theorem FO {P:D}:cH (.tup [P]) (.int 0)=.ok P:=rfl
theorem FP {P Q:D}:cH (.tup [P,Q]) (.int 0)=.ok P:=rfl
theorem FQ {P Q:D}:cH (.tup [P,Q]) (.int 1)=.ok Q:=rfl
theorem FT {P Q R:D}:cH (.tup [P,Q,R]) (.int 0)=.ok P:=rfl
theorem FU {P Q R:D}:cH (.tup [P,Q,R]) (.int 1)=.ok Q:=rfl
theorem FV {P Q R:D}:cH (.tup [P,Q,R]) (.int 2)=.ok R:=rfl
theorem FW {o:Bool}{P Q:D}:cH (.lst o [P,Q]) (.int 0)=.ok P:=rfl
theorem FX {o:Bool}{P Q:D}:cH (.lst o [P,Q]) (.int 1)=.ok Q:=rfl
end Ev
theorem Zaa {a b:Prop}(x:a)(y:b):a/\b:=⟨x,y⟩
noncomputable def FY:=(Zaa (Zaa (Zaa (Zaa (Zaa (Zaa (Zaa @Ev.pE (Zaa @Ev.yj @Ev.Wu)) (Zaa (Zaa @Ev.Wv @Ev.Ww) (Zaa @Ev.yk @Ev.yl))) (Zaa (Zaa @Ev.tf (Zaa @Ev.ym @Ev.pF)) (Zaa (Zaa @Ev.yn @Ev.Dd) (Zaa @Ev.yo @Ev.yp)))) (Zaa (Zaa (Zaa @Ev.yq (Zaa @Ev.yr @Ev.yu)) (Zaa (Zaa @Ev.Dh @Ev.tv) (Zaa @Ev.Di @Ev.Dk))) (Zaa (Zaa @Ev.Dl (Zaa @Ev.Dm @Ev.Dq)) (Zaa (Zaa @Ev.Dr @Ev.Ds) (Zaa @Ev.tx @Ev.tB))))) (Zaa (Zaa (Zaa (Zaa @Ev.Dt (Zaa @Ev.tD @Ev.yz)) (Zaa (Zaa @Ev.yB @Ev.tE) (Zaa @Ev.Dv @Ev.Dw))) (Zaa (Zaa @Ev.tJ (Zaa @Ev.Dy @Ev.Dz)) (Zaa (Zaa @Ev.DA @Ev.DB) (Zaa @Ev.pG @Ev.DC)))) (Zaa (Zaa (Zaa @Ev.mX (Zaa @Ev.mY @Ev.tM)) (Zaa (Zaa @Ev.yE @Ev.yF) (Zaa @Ev.yG @Ev.DE))) (Zaa (Zaa (Zaa @Ev.DF @Ev.DG) (Zaa @Ev.WC @Ev.Qu)) (Zaa (Zaa @Ev.JY @Ev.JZ) (Zaa @Ev.J0 @Ev.IK)))))) (Zaa (Zaa (Zaa (Zaa (Zaa @Ev.WE (Zaa @Ev.yM @Ev.yN)) (Zaa (Zaa @Ev.yO @Ev.DH) (Zaa @Ev.yQ @Ev.yR))) (Zaa (Zaa @Ev.DI (Zaa @Ev.DJ @Ev.tP)) (Zaa (Zaa @Ev.tQ @Ev.tU) (Zaa @Ev.yS @Ev.tV)))) (Zaa (Zaa (Zaa @Ev.DK (Zaa @Ev.DL @Ev.pH)) (Zaa (Zaa @Ev.tW @Ev.WI) (Zaa @Ev.WJ @Ev.WK))) (Zaa (Zaa @Ev.WL (Zaa @Ev.IL @Ev.tY)) (Zaa (Zaa @Ev.pI @Ev.Hy) (Zaa @Ev.t5 @Ev.t6))))) (Zaa (Zaa (Zaa (Zaa @Ev.ua (Zaa @Ev.ub @Ev.uc)) (Zaa (Zaa @Ev.IM @Ev.IP) (Zaa @Ev.ud @Ev.IQ))) (Zaa (Zaa @Ev.IU (Zaa @Ev.IT @Ev.HV)) (Zaa (Zaa @Ev.J1 @Ev.IV) (Zaa @Ev.DR @Ev.DS)))) (Zaa (Zaa (Zaa @Ev.yT (Zaa @Ev.yU @Ev.yV)) (Zaa (Zaa @Ev.yW @Ev.yX) (Zaa @Ev.fD @Ev.DV))) (Zaa (Zaa (Zaa @Ev.DW @Ev.yZ) (Zaa @Ev.y3 @Ev.y6)) (Zaa (Zaa @Ev.oy @Ev.uf) (Zaa @Ev.y7 @Ev.ug))))))) (Zaa (Zaa (Zaa (Zaa (Zaa (Zaa @Ev.za (Zaa @Ev.WN @Ev.DY)) (Zaa (Zaa @Ev.DZ @Ev.D3) (Zaa @Ev.D4 @Ev.D6))) (Zaa (Zaa @Ev.D7 (Zaa @Ev.D8 @Ev.D9)) (Zaa (Zaa @Ev.Ea @Ev.Eb) (Zaa @Ev.Ec @Ev.Ed)))) (Zaa (Zaa (Zaa @Ev.Ee (Zaa @Ev.Ef @Ev.zb)) (Zaa (Zaa @Ev.Eg @Ev.zd) (Zaa @Ev.WO @Ev.WQ))) (Zaa (Zaa @Ev.WR (Zaa @Ev.WT @Ev.WU)) (Zaa (Zaa @Ev.WV @Ev.ze) (Zaa @Ev.zf @Ev.zg))))) (Zaa (Zaa (Zaa (Zaa @Ev.uh (Zaa @Ev.ui @Ev.uj)) (Zaa (Zaa @Ev.pJ @Ev.mZ) (Zaa @Ev.um @Ev.uo))) (Zaa (Zaa @Ev.j5 (Zaa @Ev.zh @Ev.uq)) (Zaa (Zaa @Ev.ur @Ev.uu) (Zaa @Ev.uv @Ev.m7)))) (Zaa (Zaa (Zaa @Ev.m8 (Zaa @Ev.m9 @Ev.nc)) (Zaa (Zaa @Ev.ng @Ev.nh) (Zaa @Ev.ni @Ev.j6))) (Zaa (Zaa (Zaa @Ev.j7 @Ev.j8) (Zaa @Ev.j9 @Ev.ke)) (Zaa (Zaa @Ev.kg @Ev.kh) (Zaa @Ev.ki @Ev.kj)))))) (Zaa (Zaa (Zaa (Zaa (Zaa @Ev.kl (Zaa @Ev.km @Ev.jf)) (Zaa (Zaa @Ev.jg @Ev.jh) (Zaa @Ev.ji @Ev.jj))) (Zaa (Zaa @Ev.cJ (Zaa @Ev.cK @Ev.zi)) (Zaa (Zaa @Ev.zj @Ev.zk) (Zaa @Ev.zl @Ev.zm)))) (Zaa (Zaa (Zaa @Ev.zo (Zaa @Ev.ux @Ev.uy)) (Zaa (Zaa @Ev.uA @Ev.uB) (Zaa @Ev.uC @Ev.uD))) (Zaa (Zaa (Zaa @Ev.uE @Ev.zq) (Zaa @Ev.g9 @Ev.jk)) (Zaa (Zaa @Ev.pL @Ev.O9) (Zaa @Ev.BC @Ev.O'))))) (Zaa (Zaa (Zaa (Zaa @Ev.Eh (Zaa @Ev.Ei @Ev.zr)) (Zaa (Zaa @Ev.Ej @Ev.pN) (Zaa @Ev.uF @Ev.pO))) (Zaa (Zaa @Ev.uG (Zaa @Ev.Ek @Ev.El)) (Zaa (Zaa @Ev.uw @Ev.oz) (Zaa @Bool.or_false @Bool.or_true)))) (Zaa (Zaa (Zaa @List.replicate_succ.{0} (Zaa @List.replicate_zero.{0} @List.length_cons.{0})) (Zaa (Zaa @List.length_nil.{0} @Nat.zero_add) (Zaa @decide_true @Bool.and_self))) (Zaa (Zaa (Zaa @Bool.not_true @Bool.not_false) (Zaa @Bool.and_true @Bool.and_false)) (Zaa (Zaa @beq_self_eq_true.{0} @if_true.{1}) (Zaa @if_false.{1} @aaq))))))))
namespace Fr
end Fr
namespace Fr
open PySem
noncomputable def uH (f:Nat):Gm:={N:=["_law_own","_law_part"],kd:=[.local,.local],gl:=[f],df:=Ξ}
noncomputable def K2 (f:Nat):List IS:=
 [(.Gi (.cmp .LA (.v 1) (.c .F4)) [(.ret (.cmp .LA (.v 0) (.c .F4)))] []),(.Gi (.JT (.Ic (.v 1) .bool) (.Ic (.v 0) .bool)) [(.ret (.GC (.Ic (.v 1) .bool) (.GC (.Ic (.v 0) .bool) (.cmp .eq (.v 0) (.v 1)))))] []),(.Gi (.Ic (.v 1) .str) [(.ret (.GC (.Ic (.v 0) .str) (.cmp .eq (.v 0) (.v 1))))] []),(.Gi (.Ic (.v 1) .int) [(.ret (.GC (.Ic (.v 0) .int) (.cmp .eq (.v 0) (.v 1))))] []),(.Gi (.Ic (.v 1) .tuple) [(.Gi (.GQ (.Ic (.v 0) .tuple)) [(.ret (.c (.bl Ξ)))] [])] [(.Gi (.GQ (.Ic (.v 0) .list)) [(.ret (.c (.bl Ξ)))] [])]),(.Gi (.cmp .ne (.bi .len [(.v 0)]) (.bi .len [(.v 1)])) [(.ret (.c (.bl Ξ)))] []),(.ret (.bi .all [(.comp (uH f) [] (.tp [(.nm 0),(.nm 1)]) (.zip (.v 0) (.v 1)) [] (.call f [(.v 0),(.v 1)]))]))]
noncomputable def pQ (f:Nat)(x:Str):Gm:={N:=[x],kd:=[.local],gl:=[f],df:=Ξ}
noncomputable def K3 (f:Nat)(x:Str):List IS:=
 [(.Gi (.Ic (.v 0) .list) [(.ret (.comp (pQ f x) [] (.nm 0) (.val (.v 0)) [] (.call f [(.v 0)])))] []),(.Gi (.Ic (.v 0) .tuple) [(.ret (.bi .tuple [(.comp (pQ f x) [] (.nm 0) (.val (.v 0)) [] (.call f [(.v 0)]))]))] []),(.ret (.v 0))]
end Fr
end L2
local macro_rules | `(tactic| simp! [$xs,*]) => `(tactic| simp (disch := omega) only [L2.FY, Nat.reduceBEq, Nat.reduceSub, Nat.reduceAdd, reduceIte, L2.Ev.FF, L2.Ev.FG, L2.Ev.bJ, L2.Ev.bK, ↓L2.Ev.FK, ↓L2.Ev.FL, ↓L2.Ev.FN, L2.Ev.FH, L2.Ev.FI, L2.Ev.FJ, cond_true, cond_false, List.map_cons, List.map_nil, List.cons_append, List.nil_append, Bool.true_or, Bool.false_or, L2.Ev.bV, L2.Ev.bW, L2.Ev.bX, L2.Ev.bY, L2.Ev.bZ, L2.Ev.cb, L2.Ev.bL, L2.Ev.bM, L2.Ev.cf, L2.Ev.cg, L2.Ev.bh, L2.Ev.aA, L2.Ev.bP, L2.Ev.bQ, L2.Ev.bo, L2.Ev.bq, L2.Ev.bN, L2.Ev.br, ↓L2.Ev.FO, ↓L2.Ev.FP, ↓L2.Ev.FQ, ↓L2.Ev.FT, ↓L2.Ev.FU, ↓L2.Ev.FV, ↓L2.Ev.FW, ↓L2.Ev.FX, L2.Ev.aC, L2.Ev.bt, L2.Ev.ag, L2.Ev.aD, L2.Ev.aE, L2.Ev.aF, L2.Ev.bu, L2.Ev.ah, L2.Ev.aG, L2.Ev.aH, L2.Ev.bw, L2.Ev.aj, L2.Ev.aI, L2.Ev.ak, L2.Ev.aJ, L2.Ev.aK, L2.Ev.aL, L2.Ev.aM, L2.Ev.aN, L2.Ev.bx, L2.Ev.ao, L2.Ev.aO, L2.Ev.aP, L2.Ev.aQ, L2.Ev.aq, L2.Ev.au, L2.Ev.bA, L2.Ev.bB, L2.Ev.aR, L2.Ev.av, L2.Ev.aw, L2.Ev.ax, L2.Ev.aa, L2.Ev.ae, L2.Ev.ay, L2.Ev.aT, L2.Ev.bC, L2.Ev.bD, L2.Ev.aU, L2.Ev.bE, L2.Ev.bF, L2.Ev.aV, L2.Ev.af, L2.Ev.aW, L2.Ev.aX, L2.Ev.aY, L2.Ev.aZ, L2.Ev.a8, L2.Ev.ba, L2.Ev.bG, L2.Ev.bH, L2.Ev.bc, L2.Ev.bf, L2.Ev.az, L2.Ev.bg, L2.Ev.bR, $xs,*])
namespace Law
open PySem L2
noncomputable def top (i:Nat):Stmt:=PySem.Challenge.pw_flagroll_k32_nobody_loses.main.body.getD i (.Pass ⟨0,0,0,0⟩)
noncomputable def Z:Sg:={nm:=(["LETTERS","PLACES","SALT_LENGTH","is_whole","is_text_of","check_salt","folded","lot_keys","place_of","run_index","face_at","mark_of","mark_holds","cond_holds","conds_hold","in_rows","in_group","share_at","outcome_face","rules_holding","decided_among","decide","_law_draw","_law_names","_law_salt"]:List Str)++(["_law_place","_law_visitor_number","_law_allot","_law_stem","_law_text","_law_center","_law_number","_law_thing","_law_cond","_law_groups","_law_stages","_law_outcome","_law_rules","_law_marks","_law_same","_law_copy","_law_grown_run","_law_grown_allot","_law_switches","law"]:List Str),Nx:=[(21,(.str "abcdefghijklmnopqrstuvwxyz")),(22,(.int 10007)),(23,(.int 12))],fns:=[24,25,26,27,28,29,30,31,32,33,34,35,36,37,38,39,40,41,42,43,44,45,46,47,48,49,50,51,52,53,54,55,56,57,58,59,60,61,62,63,64,65],cls:=[],xt:=[],pl:=[],rc:=[],xm:=[],Kh:=[]}
noncomputable def oW (x y:Str):IR:=(.JT (.cmp .eq (.v 7) (.c (.str x))) (.cmp .eq (.v 7) (.c (.str y))))
noncomputable def WX:List IS:=[(.asg (.nm 9) (.comp {N:=["_law_script","_law_k","_law_stem_here","_law_center_here","_law_j"],kd:=[.cell,.cell,.cell,.cell,.local],gl:=[53],df:=Ξ} [0,1,4,5] (.nm 4) (.Gj (.bin .add (.c (.int 1)) (.call 43 [(.v 0),(.bin .add (.v 1) (.c (.int 2))),(.c (.int 2))]))) [] (.call 53 [(.v 0),(.bin .add (.bin .add (.v 1) (.c (.int 3))) (.bin .mul (.c (.int 5)) (.v 4))),(.v 2),(.v 3)])))]
noncomputable def WY:List IS:=[(.asg (.nm 9) (.comp {N:=["_law_script","_law_k","_law_stem_here","_law_j"],kd:=[.cell,.cell,.cell,.local],gl:=[50],df:=Ξ} [0,1,4] (.nm 3) (.Gj (.bin .add (.c (.int 1)) (.call 43 [(.v 0),(.bin .add (.v 1) (.c (.int 2))),(.c (.int 2))]))) [] (.call 50 [(.v 0),(.bin .add (.bin .add (.v 1) (.c (.int 3))) (.bin .mul (.c (.int 5)) (.v 3))),(.v 2)]))),(.asg (.nm 9) (.comp {N:=["_law_stem_here","_law_thing_here"],kd:=[.cell,.local],gl:=[],df:=Ξ} [4] (.nm 1) (.val (.v 9)) [] (.ite (.cmp .ne (.v 1) (.c (.str ""))) (.v 1) (.sl (.v 0) Φ (Δ (.c (.int 1)))))))]
noncomputable def WZ:List IS:=[(.asg (.nm 9) (.lst [(.call 52 [(.v 0),(.bin .add (.v 1) (.c (.int 3))),(.v 5)])]))]
noncomputable def W0:List IS:=[(.asg (.nm 8) (.idx (.v 3) (.call 43 [(.v 0),(.bin .add (.v 1) (.c (.int 2))),(.bi .len [(.v 3)])])))]
noncomputable def Pc:List IS:=[(.Gi (oW "is" "not") WX []),(.Gi (.cmp .eq (.v 7) (.c (.str "begins"))) WY []),(.Gi (oW "least" "most") WZ []),(.Gi (oW "in" "out") W0 []),(.ret (.tup [(.v 8),(.v 7),(.v 9)]))]
noncomputable def TQ:Gm:={N:=["_law_script","_law_k","_law_g","_law_marks_here","_law_stem_here","_law_center_here","_law_j"],kd:=[.cell,.cell,.cell,.cell,.cell,.cell,.local],gl:=[54],df:=Ξ}
noncomputable def Pd:List IS:=[(.asg (.nm 8) (.comp TQ [0,1,7,2,3,4] (.nm 6) (.Gj (.c (.int 2))) [] (.call 54 [(.v 0),(.bin .add (.bin .add (.bin .add (.v 1) (.c (.int 70))) (.bin .mul (.c (.int 30)) (.v 2))) (.bin .mul (.c (.int 14)) (.v 6))),(.v 3),(.lst []),(.v 4),(.v 5)]))),(.asg (.nm 9) (.idx (.lst [(.lst []),(.lst [(.lst [])]),(.lst [(.sl (.v 8) Φ (Δ (.c (.int 1))))]),(.lst [(.v 8)]),(.lst [(.sl (.v 8) Φ (Δ (.c (.int 1)))),(.sl (.v 8) (Δ (.c (.int 1))) Φ)]),(.lst [(.lst []),(.sl (.v 8) Φ (Δ (.c (.int 1))))])]) (.call 43 [(.v 0),(.bin .add (.bin .add (.v 1) (.c (.int 6))) (.v 7)),(.c (.int 6))]))),(.app 5 (.tup [(.idx (.v 6) (.v 7)),(.v 9)]))]
noncomputable def QF:List IS:=[(.asg (.nm 7) (.lst [(.c (.int 0)),(.c (.int 10007)),(.v 2),(.bin .add (.v 2) (.c (.int 1))),(.v 2),(.call 43 [(.v 0),(.bin .add (.bin .add (.v 1) (.c (.int 2))) (.v 6)),(.c (.int 10008))])])),(.app 4 (.tup [(.v 5),(.idx (.v 7) (.call 43 [(.v 0),(.bin .add (.bin .add (.v 1) (.c (.int 5))) (.v 6)),(.c (.int 6))]))])),(.asg (.nm 5) (.bin .add (.bin .add (.v 5) (.c (.int 1))) (.call 43 [(.v 0),(.bin .add (.bin .add (.v 1) (.c (.int 8))) (.v 6)),(.c (.int 3))])))]
noncomputable def Pe:List IS:=[(.app 11 (.call 54 [(.v 0),(.bin .add (.bin .add (.bin .add (.v 1) (.c (.int 6))) (.bin .mul (.c (.int 60)) (.v 10))) (.bin .mul (.c (.int 14)) (.v 12))),(.v 2),(.v 3),(.v 5),(.v 6)]))]
noncomputable def Pf:List IS:=[(.asg (.nm 11) (.lst [])),(.GF (.nm 12) (.Gj (.call 43 [(.v 0),(.bin .add (.bin .add (.v 1) (.c (.int 1))) (.v 10)),(.c (.int 3))])) Pe),(.app 9 (.tup [(.v 11),(.call 57 [(.v 0),(.bin .add (.bin .add (.v 1) (.c (.int 40))) (.bin .mul (.c (.int 60)) (.v 10))),(.v 4),(.v 7),(.v 8)])]))]
noncomputable def W4:List IS:=[(.asg (.nm 8) (.idx (.lst [(.bin .pow (.c (.int 10)) (.c (.int 9))),(.bin .sub (.c (.int 0)) (.bin .pow (.c (.int 10)) (.c (.int 9)))),(.bin .add (.v 4) (.c (.int 3)))]) (.call 43 [(.v 0),(.bin .add (.bin .add (.v 1) (.c (.int 2))) (.bin .mul (.c (.int 8)) (.v 6))),(.c (.int 3))])))]
noncomputable def TR:List IS:=[(.asg (.nm 8) (.call 50 [(.v 0),(.bin .add (.bin .add (.v 1) (.c (.int 3))) (.bin .mul (.c (.int 8)) (.v 6))),(.v 3)]))]
noncomputable def W5:List IS:=[(.asg (.nm 8) (.sl (.bin .add (.v 8) (.v 3)) Φ (Δ (.c (.int 12)))))]
noncomputable def QG:IS:=(.Gi (.cmp .gt (.v 7) (.c (.int 0))) [(.ins 5 (.call 43 [(.v 0),(.bin .add (.bin .add (.v 1) (.c (.int 6))) (.bin .mul (.c (.int 8)) (.v 6))),(.bin .add (.bi .len [(.v 5)]) (.c (.int 1)))]) (.tup [(.idx (.v 2) (.v 6)),(.v 8)]))] [])
noncomputable def QH:List IS:=(.Gi (.cmp .eq (.v 7) (.c (.int 1))) W4 [])::(.Gi (.JT (.cmp .eq (.v 7) (.c (.int 2))) (.cmp .eq (.v 7) (.c (.int 3)))) TR [])::(.Gi (.cmp .eq (.v 7) (.c (.int 3))) W5 [])::[QG]
noncomputable def Pg:List IS:=(.asg (.nm 7) (.call 43 [(.v 0),(.bin .add (.v 1) (.bin .mul (.c (.int 8)) (.v 6))),(.c (.int 5))]))::(.asg (.nm 8) (.call 52 [(.v 0),(.bin .add (.bin .add (.v 1) (.c (.int 1))) (.bin .mul (.c (.int 8)) (.v 6))),(.v 4)]))::QH
noncomputable def TU:IR:=(.cmp .eq (.call 43 [(.v 0),(.bin .add (.v 1) (.c (.int 7))),(.c (.int 2))]) (.c (.int 0)))
noncomputable def NN:IR:=(.GC (.cmp .ne (.v 10) (.lst [])) (.cmp .eq (.idx (.idx (.v 10) (.neg (.c (.int 1)))) (.c (.int 1))) (.v 8)))
noncomputable def Ph:IR:=(.neg (.c (.int 1)))
noncomputable def Pj:IR:=(.tup [(.idx (.idx (.v 10) (.neg (.c (.int 1)))) (.c (.int 0))),(.v 9)])
noncomputable def QI:IR:=(.tup [(.v 8),(.v 9)])
noncomputable def NO:List IS:=[(.asg (.tp [(.nm 8),(.nm 9)]) (.idx (.v 5) (.v 7))),(.LC 6 10 (.call 43 [(.v 0),(.bin .add (.bin .add (.v 1) (.c (.int 8))) (.v 7)),(.bi .len [(.v 6)])]) NN Ph Pj QI)]
noncomputable def TV:List IS:=[(.Nw 6 {N:=["_law_face"],kd:=[.local],gl:=[],df:=Ξ} [] 0 (.val (.v 2))),(.GF (.nm 7) (.Gj (.bi .len [(.v 5)])) NO),(.ret (.tup [(.comp {N:=["_law_faces","_law_runs","_law_j"],kd:=[.cell,.cell,.local],gl:=[],df:=Ξ} [2,6] (.nm 2) (.Gj (.bi .len [(.v 2)])) [] (.tup [(.idx (.v 0) (.v 2)),(.idx (.v 1) (.v 2))])),(.idx (.v 6) (.bi .len [(.v 2)]))]))]
noncomputable def Pk:List IS:=(.Gi TU [(.asg (.nm 5) (.HK (.v 5)))] [])::TV
noncomputable def W6:IR:=(.GC (.cmp .ne (.v 2) (.lst [])) (.cmp .eq (.idx (.idx (.v 2) (.neg (.c (.int 1)))) (.c (.int 1))) (.v 3)))
noncomputable def Pl:List IS:=[(.Gi W6 [(.Ie 2 (.neg (.c (.int 1))) (.tup [(.idx (.idx (.v 2) (.neg (.c (.int 1)))) (.c (.int 0))),(.v 4)]))] [(.app 2 (.tup [(.v 3),(.v 4)]))])]
noncomputable def W8:Gm:={N:=["_law_face","_law_run"],kd:=[.local,.local],gl:=[5],df:=Ξ}
noncomputable def LQ:IR:=(.comp W8 [] (.tp [(.nm 0),(.nm 1)]) (.val (.v 3)) [] (.tup [(.v 0),(.bi .list [(.v 1)])]))
noncomputable def W':Gm:={N:=["_law_script","_law_names_here","_law_told","_law_stem_here","_law_center_here","_law_j"],kd:=[.cell,.cell,.cell,.cell,.cell,.local],gl:=[54],df:=Ξ}
noncomputable def QJ:IR:=(.call 54 [(.v 0),(.bin .add (.c (.int 610)) (.bin .mul (.c (.int 14)) (.v 5))),(.v 1),(.v 2),(.v 3),(.v 4)])
noncomputable def Nd:IR:=(.comp W' [0,1,2,7,8] (.nm 5) (.Gj (.call 43 [(.v 0),(.c (.int 601)),(.c (.int 2))])) [] QJ)
noncomputable def Li:IR:=(.sl (.v 10) Φ (Δ (.c (.int 1))))
noncomputable def Mp:IR:=(.bin .add (.bin .add (.sl (.v 9) Φ (Δ (.v 13))) (.lst [(.tup [Li,(.tup [(.c (.str "share")),(.idx (.v 3) (.c (.int 0))),(.lst [(.tup [(.v 6),(.v 12)])])])])])) (.sl (.v 9) (Δ (.bin .add (.v 13) (.c (.int 1)))) Φ))
noncomputable def QK:List IS:=[(.ins 9 (.v 13) (.tup [Li,(.tup [(.c (.str "share")),(.idx (.v 3) (.c (.int 0))),(.lst [(.tup [(.v 6),(.v 11)])])])])),(.asg (.nm 14) (.call 48 [(.v 0),(.c (.int 280)),(.sl (.v 3) Φ (Δ (.c (.int 3)))),(.v 5)])),(.asg (.nm 15) (.tup [(.v 4),(.idx (.v 3) (.c (.int 3))),(.v 9),(.v 14)])),(.asg (.nm 16) Mp),(.asg (.nm 17) (.call 63 [(.v 0),(.v 14),(.call 43 [(.v 0),(.c (.int 606)),(.c (.int 3))])])),(.Kg (.tup [(.v 13),(.v 15),(.lst [(.tup [(.v 4),(.idx (.v 3) (.c (.int 3))),(.v 16),(.v 14)]),(.tup [(.v 4),(.idx (.v 3) (.c (.int 3))),(.v 9),(.v 17)])])]))]
noncomputable def QL:IR:=(.GC (.cmp .eq (.v 18) (.tup [(.idx (.v 2) (.c (.int 0))),(.v 10)])) (.GQ (.call 60 [(.call 42 [(.idx (.v 14) (.c (.int 0))),(.idx (.idx (.v 14) (.c (.int 2))) (.c (.int 0))),(.v 7),(.v 17)]),(.v 18)])))
noncomputable def QM:IR:=(.GC (.cmp .eq (.idx (.v 18) (.c (.int 0))) (.v 13)) (.GC (.cmp .lt (.idx (.v 18) (.c (.int 1))) (.bi .len [(.idx (.v 11) (.c (.int 2)))])) (.cmp .eq (.idx (.idx (.idx (.v 11) (.c (.int 2))) (.idx (.v 18) (.c (.int 1)))) (.c (.int 1))) (.tup [(.c (.str "lot"))]))))
noncomputable def QN:IR:=(.GQ (.call 60 [(.call 42 [(.idx (.v 14) (.c (.int 0))),(.idx (.idx (.v 14) (.c (.int 2))) (.c (.int 1))),(.v 7),(.v 17)]),(.v 18)]))
noncomputable def QO:List IS:=[(.Gi QL [(.ret (.c (.bl Ξ)))] []),(.Gi QM [(.Gi QN [(.ret (.c (.bl Ξ)))] [])] [])]
noncomputable def Pm:List IS:=(.asg (.nm 17) (.tup [(.v 16),(.call 59 [(.v 0),(.bin .add (.c (.int 670)) (.bin .mul (.c (.int 25)) (.v 15))),(.v 1),(.v 5),(.v 6)])]))::(.asg (.nm 18) (.call 42 [(.idx (.v 14) (.c (.int 0))),(.idx (.v 14) (.c (.int 1))),(.v 7),(.v 17)]))::QO
noncomputable def Pn:List IS:=(.asg (.nm 16) (.v 4))::(.Gi (.cmp .eq (.bin .mod (.v 15) (.c (.int 2))) (.c (.int 1))) [(.asg (.nm 16) (.call 47 [(.v 0),(.bin .add (.c (.int 640)) (.bin .mul (.c (.int 3)) (.v 15)))]))] [])::Pm
noncomputable def TX:List IS:=[(.asg (.nm 2) (.c (.int 0))),(.GF (.tp [(.nm 3),(.nm 4)]) (.val (.v 0)) [(.Gi (.cmp .le (.v 3) (.v 1)) [(.asg (.nm 2) (.v 4))] [])]),(.ret (.v 2))]
noncomputable def ZJ:List IS:=
 [(.ret (.GC (.Ic (.v 0) .int) (.GQ (.Ic (.v 0) .bool))))]
noncomputable def Xa:Fn:={np:=1,G:={N:=["thing"],kd:=[.local],gl:=[14,8,16],df:=Θ},body:=ZJ}
noncomputable def TY:List IS:=
 [(.Gi (.GQ (.Ic (.v 0) .str)) [(.ret (.c (.bl Ξ)))] []),(.Gi (.GQ (.chain .le .le (.v 2) (.bi .len [(.v 0)]) (.v 3))) [(.ret (.c (.bl Ξ)))] []),(.ret (.bi .all [(.comp {N:=["signs","sign"],kd:=[.cell,.local],gl:=[],df:=Ξ} [1] (.nm 1) (.val (.v 0)) [] (.cmp .Lb (.v 1) (.v 0)))]))]
noncomputable def TZ:Fn:={np:=4,G:={N:=["thing","signs","least","most"],kd:=[.local,.cell,.local,.local],gl:=[14,11,0,9],df:=Θ},body:=TY}
noncomputable def T2:List IS:=
 [(.Gi (.GQ (.call 25 [(.v 0),(.g 21 (.str "abcdefghijklmnopqrstuvwxyz")),(.c (.int 1)),(.g 23 (.int 12))])) [.never] [])]
noncomputable def T3:Fn:={np:=1,G:={N:=["salt"],kd:=[.local],gl:=[25,21,23],df:=Θ},body:=T2}
noncomputable def T4:List IS:=
 [(.asg (.nm 3) (.c (.int 0))),(.GF (.nm 4) (.val (.v 0)) [(.asg (.nm 3) (.bin .mod (.bin .add (.bin .mul (.v 3) (.v 1)) (.bi .ord [(.v 4)])) (.v 2)))]),(.ret (.v 3))]
noncomputable def T5:Fn:={np:=3,G:={N:=["salt","factor","modulus","key","sign"],kd:=Τ 5 .local,gl:=[7],df:=Θ},body:=T4}
noncomputable def T6:List IS:=
 [(.exp (.call 26 [(.v 0)])),(.asg (.nm 1) (.bin .add (.c (.int 1)) (.call 27 [(.v 0),(.c (.int 31)),(.bin .sub (.g 22 (.int 10007)) (.c (.int 1)))]))),(.asg (.nm 2) (.call 27 [(.v 0),(.c (.int 37)),(.g 22 (.int 10007))])),(.ret (.tup [(.v 1),(.v 2)]))]
noncomputable def T7:Fn:={np:=1,G:={N:=["salt","a","b"],kd:=Τ 3 .local,gl:=[26,27,22],df:=Θ},body:=T6}
noncomputable def T8:List IS:=
 [(.asg (.nm 2) (.call 28 [(.v 0)])),(.ret (.bin .mod (.bin .add (.bin .mul (.idx (.v 2) (.c (.int 0))) (.v 1)) (.idx (.v 2) (.c (.int 1)))) (.g 22 (.int 10007))))]
noncomputable def T9:Fn:={np:=2,G:={N:=["salt","number","keys"],kd:=Τ 3 .local,gl:=[28,22],df:=Θ},body:=T8}
noncomputable def Po:List IS:=
 [(.asg (.nm 2) (.c (.int 0))),(.GF (.tp [(.nm 3),(.nm 4)]) (.val (.v 0)) [(.Gi (.chain .le .lt (.v 3) (.v 1) (.v 4)) [(.ret (.bin .sub (.bin .add (.v 2) (.v 1)) (.v 3)))] []),(.asg (.nm 2) (.bin .sub (.bin .add (.v 2) (.v 4)) (.v 3)))]),(.ret (.c .F4))]
noncomputable def QP:Fn:={np:=2,G:={N:=["run","place","ahead","low","high"],kd:=Τ 5 .local,gl:=[],df:=Θ},body:=Po}
noncomputable def Pp:List IS:=
 [(.GF (.tp [(.nm 2),(.nm 3)]) (.val (.idx (.v 0) (.c (.int 0)))) [(.Gi (.cmp .JR (.call 30 [(.v 3),(.v 1)]) (.c .F4)) [(.ret (.v 2))] [])]),(.ret (.c .F4))]
noncomputable def QQ:Fn:={np:=2,G:={N:=["allot","place","face","run"],kd:=Τ 4 .local,gl:=[30],df:=Θ},body:=Pp}
noncomputable def Pq:List IS:=
 [(.GF (.tp [(.nm 2),(.nm 3)]) (.val (.v 0)) [(.Gi (.cmp .eq (.v 2) (.v 1)) [(.ret (.v 3))] [])]),(.ret (.c .F4))]
noncomputable def QR:Fn:={np:=2,G:={N:=["marks","name","mark_name","thing"],kd:=Τ 4 .local,gl:=[],df:=Θ},body:=Pq}
noncomputable def Pr:List IS:=
 [(.Gi (.cmp .eq (.v 0) (.c (.str "is"))) [(.ret (.GC (.cmp .JR (.v 2) (.c .F4)) (.cmp .Lb (.v 2) (.v 1))))] []),(.Gi (.cmp .eq (.v 0) (.c (.str "not"))) [(.ret (.JT (.cmp .LA (.v 2) (.c .F4)) (.cmp .Ma (.v 2) (.v 1))))] []),(.Gi (.cmp .eq (.v 0) (.c (.str "begins"))) [(.ret (.GC (.Ic (.v 2) .str) (.bi .any [(.comp {N:=["mark","thing"],kd:=[.cell,.local],gl:=[],df:=Ξ} [2] (.nm 1) (.val (.v 1)) [] (.Kf .starts (.v 0) [(.v 1)]))])))] []),(.Gi (.cmp .eq (.v 0) (.c (.str "least"))) [(.ret (.GC (.call 24 [(.v 2)]) (.cmp .ge (.v 2) (.idx (.v 1) (.c (.int 0))))))] []),(.Gi (.cmp .eq (.v 0) (.c (.str "most"))) [(.ret (.GC (.call 24 [(.v 2)]) (.cmp .le (.v 2) (.idx (.v 1) (.c (.int 0))))))] []),(.Gi (.cmp .eq (.v 0) (.c (.str "has"))) [(.ret (.cmp .JR (.v 2) (.c .F4)))] []),(.ret (.cmp .LA (.v 2) (.c .F4)))]
noncomputable def T':Fn:={np:=3,G:={N:=["word","things","mark"],kd:=[.local,.local,.cell],gl:=[14,11,10,24],df:=Θ},body:=Pr}
noncomputable def Nf:List IS:=
 [(.asg (.nm 3) (.idx (.v 1) (.c (.int 0)))),(.asg (.nm 4) (.idx (.v 1) (.c (.int 1)))),(.Gi (.cmp .eq (.v 4) (.c (.str "in"))) [(.ret (.call 37 [(.v 0),(.v 3),(.v 2)]))] []),(.Gi (.cmp .eq (.v 4) (.c (.str "out"))) [(.ret (.GQ (.call 37 [(.v 0),(.v 3),(.v 2)])))] []),(.ret (.call 33 [(.v 4),(.idx (.v 1) (.c (.int 2))),(.call 32 [(.v 2),(.v 3)])]))]
noncomputable def Pt:Fn:={np:=3,G:={N:=["groups","cond","marks","name","word"],kd:=Τ 5 .local,gl:=[37,33,32],df:=Θ},body:=Nf}
noncomputable def Pu:List IS:=
 [(.GF (.nm 3) (.val (.v 1)) [(.Gi (.GQ (.call 34 [(.v 0),(.v 3),(.v 2)])) [(.ret (.c (.bl Ξ)))] [])]),(.ret (.c (.bl Θ)))]
noncomputable def QS:Fn:={np:=3,G:={N:=["groups","conds","marks","cond"],kd:=Τ 4 .local,gl:=[34],df:=Θ},body:=Pu}
noncomputable def Pw:List IS:=
 [(.GF (.nm 3) (.val (.v 1)) [(.Gi (.call 35 [(.v 0),(.v 3),(.v 2)]) [(.ret (.c (.bl Θ)))] [])]),(.ret (.c (.bl Ξ)))]
noncomputable def QT:Fn:={np:=3,G:={N:=["groups","rows","marks","row"],kd:=Τ 4 .local,gl:=[35],df:=Θ},body:=Pw}
noncomputable def Px:List IS:=
 [(.GF (.tp [(.nm 3),(.nm 4)]) (.val (.v 0)) [(.Gi (.cmp .eq (.v 3) (.v 1)) [(.ret (.call 36 [(.v 0),(.v 4),(.v 2)]))] [])]),(.ret (.c (.bl Ξ)))]
noncomputable def QU:Fn:={np:=3,G:={N:=["groups","name","marks","group_name","rows"],kd:=Τ 5 .local,gl:=[36],df:=Θ},body:=Px}
noncomputable def ZK:List IS:=
 TX
noncomputable def Ua:Fn:={np:=2,G:={N:=["stages","day","share","first_day","places"],kd:=Τ 5 .local,gl:=[],df:=Θ},body:=ZK}
noncomputable def LR:List IS:=
 [(.Gi (.cmp .eq (.idx (.v 0) (.c (.int 0))) (.c (.str "face"))) [(.ret (.idx (.v 0) (.c (.int 1))))] []),(.Gi (.cmp .eq (.idx (.v 0) (.c (.int 0))) (.c (.str "share"))) [(.ret (.ite (.cmp .lt (.v 3) (.call 38 [(.idx (.v 0) (.c (.int 2))),(.v 2)])) (.idx (.v 0) (.c (.int 1))) (.c .F4)))] []),(.ret (.call 31 [(.v 1),(.v 3)]))]
noncomputable def NP:Fn:={np:=4,G:={N:=["outcome","allot","day","place"],kd:=Τ 4 .local,gl:=[38,31],df:=Θ},body:=LR}
noncomputable def Ub:List IS:=
 [(.ret (.comp {N:=["groups","marks","number","rule"],kd:=[.cell,.cell,.local,.local],gl:=[35],df:=Ξ} [0,2] (.tp [(.nm 2),(.nm 3)]) (.IA (.idx (.v 1) (.c (.int 2)))) [(.call 35 [(.v 0),(.idx (.v 3) (.c (.int 0))),(.v 1)])] (.v 2)))]
noncomputable def Uc:Fn:={np:=3,G:={N:=["groups","switch","marks"],kd:=[.cell,.local,.cell],gl:=[20],df:=Θ},body:=Ub}
noncomputable def Py:List IS:=
 [(.GF (.nm 4) (.val (.v 2)) [(.asg (.nm 5) (.call 39 [(.idx (.idx (.idx (.v 0) (.c (.int 2))) (.v 4)) (.c (.int 1))),(.idx (.v 0) (.c (.int 3))),(.v 1),(.v 3)])),(.Gi (.cmp .JR (.v 5) (.c .F4)) [(.ret (.tup [(.v 5),(.v 4)]))] [])]),(.ret (.tup [(.idx (.v 0) (.c (.int 1))),(.bi .len [(.idx (.v 0) (.c (.int 2)))])]))]
noncomputable def QV:Fn:={np:=4,G:={N:=["switch","day","numbers","place","number","face"],kd:=Τ 6 .local,gl:=[39,0],df:=Θ},body:=Py}
noncomputable def Ud:List IS:=
 [(.asg (.nm 4) (.call 40 [(.v 0),(.v 1),(.idx (.v 3) (.c (.int 1)))])),(.ret (.call 41 [(.v 1),(.v 2),(.v 4),(.call 29 [(.idx (.v 1) (.c (.int 0))),(.idx (.v 3) (.c (.int 0)))])]))]
noncomputable def Ue:Fn:={np:=4,G:={N:=["groups","switch","day","visitor","numbers"],kd:=Τ 5 .local,gl:=[40,41,29],df:=Θ},body:=Ud}
noncomputable def Ug:List IS:=
 [(.asg (.nm 3) (.c (.int 0))),(.Gi (.cmp .gt (.bi .len [(.v 0)]) (.c (.int 0))) [(.asg (.nm 3) (.bin .mod (.idx (.v 0) (.bin .mod (.v 1) (.bi .len [(.v 0)]))) (.c (.int 2147483647))))] []),(.asg (.nm 4) (.bin .add (.bin .mul (.v 3) (.bin .add (.c (.int 742938285)) (.bin .mul (.bin .mul (.c (.int 9973)) (.v 1)) (.v 1)))) (.bin .mul (.v 1) (.c (.int 630360016))))),(.ret (.bin .mod (.bin .fdiv (.bin .mod (.v 4) (.c (.int 2147483647))) (.c (.int 97))) (.v 2)))]
noncomputable def Uh:Fn:={np:=3,G:={N:=["_law_script","_law_k","_law_many","_law_cell","_law_mixed"],kd:=Τ 5 .local,gl:=[0],df:=Θ},body:=Ug}
noncomputable def Pz:List IS:=
 [(.asg (.nm 3) (.c (.str "abcdefghijklmnopqrstuvwxyz"))),(.asg (.nm 4) (.call 43 [(.v 0),(.v 1),(.c (.int 26))])),(.Gi (.cmp .eq (.call 43 [(.v 0),(.bin .add (.v 1) (.c (.int 1))),(.c (.int 5))]) (.c (.int 0))) [(.ret (.comp {N:=["_law_letters","_law_start","_law_j"],kd:=[.cell,.cell,.local],gl:=[],df:=Ξ} [3,4] (.nm 2) (.Gj (.v 2)) [] (.bin .mul (.idx (.v 0) (.v 1)) (.bin .add (.c (.int 1)) (.v 2)))))] []),(.asg (.nm 5) (.c (.str ""))),(.GF (.nm 6) (.Gj (.call 43 [(.v 0),(.bin .add (.v 1) (.c (.int 2))),(.c (.int 8))])) [(.asg (.nm 5) (.bin .add (.v 5) (.idx (.v 3) (.call 43 [(.v 0),(.bin .add (.bin .add (.v 1) (.c (.int 40))) (.v 6)),(.c (.int 26))]))))]),(.asg (.nm 7) (.call 43 [(.v 0),(.bin .add (.v 1) (.c (.int 3))),(.bin .add (.bi .len [(.v 5)]) (.c (.int 1)))])),(.asg (.nm 8) (.idx (.lst [(.c (.int 1)),(.c (.int 7)),(.c (.int 25)),(.c (.int 11))]) (.call 43 [(.v 0),(.bin .add (.v 1) (.c (.int 1))),(.c (.int 4))]))),(.ret (.comp {N:=["_law_body","_law_at","_law_letters","_law_start","_law_step","_law_j"],kd:=[.cell,.cell,.cell,.cell,.cell,.local],gl:=[],df:=Ξ} [5,7,3,4,8] (.nm 5) (.Gj (.v 2)) [] (.bin .add (.bin .add (.sl (.v 0) Φ (Δ (.v 1))) (.idx (.v 2) (.bin .mod (.bin .add (.v 3) (.bin .mul (.v 4) (.v 5))) (.c (.int 26))))) (.sl (.v 0) (Δ (.v 1)) Φ))))]
noncomputable def QW:Fn:={np:=3,G:={N:=["_law_script","_law_k","_law_many","_law_letters","_law_start","_law_body","_law_j","_law_at","_law_step"],kd:=[.local,.local,.local,.cell,.cell,.cell,.local,.cell,.cell],gl:=[43,15,0],df:=Θ},body:=Pz}
noncomputable def Ui:List IS:=
 [(.asg (.nm 2) (.c (.str "abcdefghijklmnopqrstuvwxyz"))),(.asg (.nm 3) (.c (.str ""))),(.GF (.nm 4) (.Gj (.call 43 [(.v 0),(.v 1),(.c (.int 12))])) [(.asg (.nm 3) (.bin .add (.v 3) (.idx (.v 2) (.call 43 [(.v 0),(.bin .add (.bin .add (.v 1) (.c (.int 2))) (.v 4)),(.c (.int 26))]))))]),(.asg (.nm 5) (.call 43 [(.v 0),(.bin .add (.v 1) (.c (.int 1))),(.bin .add (.bi .len [(.v 3)]) (.c (.int 1)))])),(.ret (.bin .add (.bin .add (.sl (.v 3) Φ (Δ (.v 5))) (.idx (.v 2) (.call 43 [(.v 0),(.bin .add (.v 1) (.c (.int 14))),(.c (.int 26))]))) (.sl (.v 3) (Δ (.v 5)) Φ)))]
noncomputable def Uj:Fn:={np:=2,G:={N:=["_law_script","_law_k","_law_letters","_law_body","_law_j","_law_at"],kd:=Τ 6 .local,gl:=[15,43,0],df:=Θ},body:=Ui}
noncomputable def Uk:List IS:=
 [(.asg (.nm 2) (.c (.int 0))),(.asg (.nm 3) (.c (.int 0))),(.GF (.nm 4) (.val (.v 0)) [(.asg (.nm 2) (.bin .mod (.bin .add (.bin .mul (.v 2) (.c (.int 31))) (.bi .ord [(.v 4)])) (.c (.int 10006)))),(.asg (.nm 3) (.bin .mod (.bin .add (.bin .mul (.v 3) (.c (.int 37))) (.bi .ord [(.v 4)])) (.c (.int 10007))))]),(.ret (.bin .mod (.bin .add (.bin .mul (.bin .add (.c (.int 1)) (.v 2)) (.v 1)) (.v 3)) (.c (.int 10007))))]
noncomputable def Ul:Fn:={np:=2,G:={N:=["_law_salt_here","_law_number_here","_law_first","_law_second","_law_sign"],kd:=Τ 5 .local,gl:=[7],df:=Θ},body:=Uk}
noncomputable def Ng:List IS:=
 [(.asg (.nm 2) (.call 43 [(.v 0),(.v 1),(.c (.int 6))])),(.Gi (.cmp .lt (.v 2) (.c (.int 2))) [(.ret (.idx (.lst [(.c (.int 0)),(.bin .pow (.c (.int 10)) (.c (.int 9)))]) (.v 2)))] []),(.ret (.bin .add (.bin .mul (.call 43 [(.v 0),(.bin .add (.v 1) (.c (.int 1))),(.c (.int 31600))]) (.c (.int 31600))) (.call 43 [(.v 0),(.bin .add (.v 1) (.c (.int 2))),(.c (.int 31600))])))]
noncomputable def PB:Fn:={np:=2,G:={N:=["_law_script","_law_k","_law_way"],kd:=Τ 3 .local,gl:=[43],df:=Θ},body:=Ng}
noncomputable def PC:List IS:=
 (.asg (.nm 4) (.bin .add (.lst [(.c (.int 0)),(.v 3),(.bin .add (.v 3) (.c (.int 1)))]) (.comp {N:=["_law_script","_law_k","_law_j"],kd:=[.cell,.cell,.local],gl:=[43],df:=Ξ} [0,1] (.nm 2) (.Gj (.call 43 [(.v 0),(.bin .add (.v 1) (.c (.int 6))),(.c (.int 5))])) [] (.call 43 [(.v 0),(.bin .add (.v 1) (.v 2)),(.c (.int 10007))]))))::(.asg (.nm 4) (.sset (.comp {N:=["_law_cut"],kd:=[.local],gl:=[],df:=Ξ} [] (.nm 0) (.val (.v 4)) [(.cmp .lt (.v 0) (.c (.int 10007)))] (.v 0))))::(.asg (.nm 5) (.HL (.v 4) (.bin .add (.sl (.v 4) (Δ (.c (.int 1))) Φ) (.lst [(.c (.int 10007))]))))::Pk
noncomputable def Um:Fn:={np:=4,G:={N:=["_law_script","_law_k","_law_faces","_law_place_here","_law_cuts","_law_ranges","_law_runs","_law_j","_law_low","_law_high","_law_run"],kd:=[.cell,.cell,.cell,.local,.local,.local,.cell,.local,.local,.local,.local],gl:=[15,43,4,12,5,17,18,0],df:=Θ},body:=PC}
noncomputable def PF:List IS:=
 [(.asg (.nm 2) (.c (.str "abcdefghijklmnopqrstuvwxyz0123456789"))),(.asg (.nm 3) (.v 2)),(.Gi (.cmp .eq (.call 43 [(.v 0),(.v 1),(.c (.int 2))]) (.c (.int 0))) [(.asg (.nm 3) (.sl (.sl (.v 2) (Δ (.call 43 [(.v 0),(.bin .add (.v 1) (.c (.int 1))),(.c (.int 34))])) Φ) Φ (Δ (.c (.int 2)))))] []),(.ret (.Kf .join (.c (.str "")) [(.comp {N:=["_law_some","_law_script","_law_k","_law_j"],kd:=[.cell,.cell,.cell,.local],gl:=[43,0],df:=Ξ} [3,0,1] (.nm 3) (.Gj (.c (.int 12))) [] (.idx (.v 0) (.call 43 [(.v 1),(.bin .add (.bin .add (.v 2) (.c (.int 2))) (.v 3)),(.bi .len [(.v 0)])])))]))]
noncomputable def QX:Fn:={np:=2,G:={N:=["_law_script","_law_k","_law_signs","_law_some"],kd:=[.cell,.cell,.local,.cell],gl:=[43,15],df:=Θ},body:=PF}
noncomputable def Nh:List IS:=
 [(.asg (.nm 3) (.sl (.v 2) Φ (Δ (.call 43 [(.v 0),(.v 1),(.c (.int 9))])))),(.Gi (.GC (.cmp .ne (.v 3) (.c (.str ""))) (.cmp .eq (.call 43 [(.v 0),(.bin .add (.v 1) (.c (.int 1))),(.c (.int 3))]) (.c (.int 0)))) [(.asg (.nm 3) (.bin .add (.sl (.v 3) Φ (Δ (.neg (.c (.int 1))))) (.idx (.c (.str "abcdefghijklmnopqrstuvwxyz0123456789")) (.call 43 [(.v 0),(.bin .add (.v 1) (.c (.int 2))),(.c (.int 36))]))))] []),(.ret (.v 3))]
noncomputable def PH:Fn:={np:=3,G:={N:=["_law_script","_law_k","_law_stem_here","_law_text_here"],kd:=Τ 4 .local,gl:=[43],df:=Θ},body:=Nh}
noncomputable def Uo:List IS:=
 [(.asg (.nm 2) (.bin .sub (.bin .add (.bin .mul (.call 43 [(.v 0),(.v 1),(.c (.int 20000))]) (.c (.int 100000))) (.call 43 [(.v 0),(.bin .add (.v 1) (.c (.int 1))),(.c (.int 100000))])) (.bin .pow (.c (.int 10)) (.c (.int 9))))),(.ret (.bi .min2 [(.bi .max2 [(.v 2),(.bin .sub (.c (.int 0)) (.c (.int 999999990)))]),(.c (.int 999999990))]))]
noncomputable def Uq:Fn:={np:=2,G:={N:=["_law_script","_law_k","_law_number_here"],kd:=Τ 3 .local,gl:=[43,2,3],df:=Θ},body:=Uo}
noncomputable def PJ:List IS:=
 [(.asg (.nm 3) (.call 43 [(.v 0),(.v 1),(.c (.int 8))])),(.Gi (.cmp .lt (.v 3) (.c (.int 5))) [(.ret (.bin .sub (.bin .add (.v 2) (.v 3)) (.c (.int 2))))] []),(.ret (.idx (.lst [(.c (.int 999999999)),(.bin .sub (.c (.int 0)) (.c (.int 999999999))),(.c (.int 0))]) (.bin .sub (.v 3) (.c (.int 5)))))]
noncomputable def QY:Fn:={np:=3,G:={N:=["_law_script","_law_k","_law_center_here","_law_way"],kd:=Τ 4 .local,gl:=[43],df:=Θ},body:=PJ}
noncomputable def PK:List IS:=
 [(.Gi (.cmp .eq (.call 43 [(.v 0),(.v 1),(.c (.int 2))]) (.c (.int 0))) [(.ret (.call 52 [(.v 0),(.bin .add (.v 1) (.c (.int 1))),(.v 3)]))] []),(.ret (.call 50 [(.v 0),(.bin .add (.v 1) (.c (.int 2))),(.v 2)]))]
noncomputable def QZ:Fn:={np:=4,G:={N:=["_law_script","_law_k","_law_stem_here","_law_center_here"],kd:=Τ 4 .local,gl:=[43,52,50],df:=Θ},body:=PK}
noncomputable def Q0:List IS:=
 (.asg (.nm 6) (.lst [(.c (.str "is")),(.c (.str "not")),(.c (.str "begins")),(.c (.str "least")),(.c (.str "most")),(.c (.str "has")),(.c (.str "lacks"))]))::(.Gi (.cmp .ne (.v 3) (.lst [])) [(.asg (.nm 6) (.bin .add (.v 6) (.lst [(.c (.str "in")),(.c (.str "out"))])))] [])::(.asg (.nm 7) (.idx (.v 6) (.call 43 [(.v 0),(.v 1),(.bi .len [(.v 6)])])))::(.asg (.nm 8) (.idx (.v 2) (.call 43 [(.v 0),(.bin .add (.v 1) (.c (.int 1))),(.bi .len [(.v 2)])])))::(.asg (.nm 9) (.lst []))::Pc
noncomputable def Ur:Fn:={np:=6,G:={N:=["_law_script","_law_k","_law_marks_here","_law_groups_here","_law_stem_here","_law_center_here","_law_words","_law_word","_law_name","_law_things"],kd:=[.cell,.cell,.local,.local,.cell,.cell,.local,.local,.local,.local],gl:=[43,0,15,52],df:=Θ},body:=Q0}
noncomputable def Us:List IS:=
 [(.asg (.nm 5) (.lst [])),(.asg (.nm 6) (.idx (.lst [(.call 44 [(.v 0),(.v 1),(.c (.int 2))]),(.bi .list [(.v 2)])]) (.call 43 [(.v 0),(.bin .add (.v 1) (.c (.int 4))),(.c (.int 2))]))),(.GF (.nm 7) (.Gj (.call 43 [(.v 0),(.bin .add (.v 1) (.c (.int 5))),(.c (.int 3))])) Pd),(.ret (.v 5))]
noncomputable def Ut:Fn:={np:=5,G:={N:=["_law_script","_law_k","_law_marks_here","_law_stem_here","_law_center_here","_law_groups_here","_law_names_here","_law_g","_law_ones","_law_rows"],kd:=[.cell,.cell,.cell,.cell,.cell,.local,.local,.cell,.local,.local],gl:=[44,5,43,15],df:=Θ},body:=Us}
noncomputable def Uu:List IS:=
 [(.asg (.nm 4) (.lst [])),(.asg (.nm 5) (.bi .max2 [(.c (.int 0)),(.bin .sub (.v 3) (.call 43 [(.v 0),(.v 1),(.c (.int 4))]))])),(.GF (.nm 6) (.Gj (.call 43 [(.v 0),(.bin .add (.v 1) (.c (.int 1))),(.c (.int 4))])) QF),(.ret (.v 4))]
noncomputable def Uv:Fn:={np:=4,G:={N:=["_law_script","_law_k","_law_place_here","_law_day","_law_stages_here","_law_first","_law_j","_law_some"],kd:=Τ 8 .local,gl:=[3,43,15],df:=Θ},body:=Uu}
noncomputable def Ni:List IS:=
 [(.asg (.nm 5) (.idx (.v 2) (.call 43 [(.v 0),(.bin .add (.v 1) (.c (.int 1))),(.bi .len [(.v 2)])]))),(.asg (.nm 6) (.call 43 [(.v 0),(.v 1),(.c (.int 3))])),(.Gi (.cmp .eq (.v 6) (.c (.int 0))) [(.ret (.tup [(.c (.str "face")),(.v 5)]))] []),(.Gi (.cmp .eq (.v 6) (.c (.int 1))) [(.ret (.tup [(.c (.str "share")),(.v 5),(.call 56 [(.v 0),(.bin .add (.v 1) (.c (.int 2))),(.v 3),(.v 4)])]))] []),(.ret (.tup [(.c (.str "lot"))]))]
noncomputable def PL:Fn:={np:=5,G:={N:=["_law_script","_law_k","_law_faces","_law_place_here","_law_day","_law_face","_law_way"],kd:=Τ 7 .local,gl:=[43,0,56],df:=Θ},body:=Ni}
noncomputable def Uw:List IS:=
 [(.asg (.nm 9) (.lst [])),(.GF (.nm 10) (.Gj (.call 43 [(.v 0),(.v 1),(.c (.int 5))])) Pf),(.ret (.v 9))]
noncomputable def Ux:Fn:={np:=9,G:={N:=["_law_script","_law_k","_law_marks_here","_law_groups_here","_law_faces","_law_stem_here","_law_center_here","_law_place_here","_law_day","_law_rules_here","_law_i","_law_conds","_law_j"],kd:=Τ 13 .local,gl:=[15,43,54,57],df:=Θ},body:=Uw}
noncomputable def Uy:List IS:=
 [(.asg (.nm 5) (.lst [])),(.GF (.nm 6) (.Gj (.bi .len [(.v 2)])) Pg),(.ret (.v 5))]
noncomputable def Uz:Fn:={np:=5,G:={N:=["_law_script","_law_k","_law_names_here","_law_stem_here","_law_center_here","_law_marks_here","_law_j","_law_way","_law_thing_here"],kd:=Τ 9 .local,gl:=[15,0,43,52,50],df:=Θ},body:=Uy}
noncomputable def ZL:List IS:=
 L2.Fr.K2 60
noncomputable def UA:Fn:={np:=2,G:={N:=["_law_found","_law_due"],kd:=[.local,.local],gl:=[14,16,11,8,6,5,0,9,17],df:=Θ},body:=ZL}
noncomputable def ZM:List IS:=
 L2.Fr.K3 61 "_law_part"
noncomputable def UB:Fn:={np:=1,G:={N:=["_law_thing_here"],kd:=[.local],gl:=[14,5,6],df:=Θ},body:=ZM}
noncomputable def UC:List IS:=
 [(.asg (.nm 2) (.bi .list [(.v 0)])),(.GF (.tp [(.nm 3),(.nm 4)]) (.val (.v 1)) Pl),(.ret (.v 2))]
noncomputable def UD:Fn:={np:=2,G:={N:=["_law_run","_law_ranges","_law_grown","_law_low","_law_high"],kd:=Τ 5 .local,gl:=[5],df:=Θ},body:=UC}
noncomputable def UE:List IS:=
 [(.asg (.tp [(.nm 3),(.nm 4)]) (.v 1)),(.asg (.nm 5) (.call 43 [(.v 0),(.c (.int 600)),(.bin .add (.bi .len [(.v 4)]) (.c (.int 1)))])),(.asg (.nm 6) LQ),(.Ie 6 (.v 2) (.tup [(.idx (.idx (.v 3) (.v 2)) (.c (.int 0))),(.call 62 [(.idx (.idx (.v 3) (.v 2)) (.c (.int 1))),(.sl (.v 4) Φ (Δ (.v 5)))])])),(.ret (.tup [(.v 6),(.bi .list [(.sl (.v 4) (Δ (.v 5)) Φ)])]))]
noncomputable def UG:Fn:={np:=3,G:={N:=["_law_script","_law_allot_here","_law_at","_law_rows","_law_free","_law_count","_law_grown"],kd:=Τ 7 .local,gl:=[43,0,62,5],df:=Θ},body:=UE}
noncomputable def UH:List IS:=
 (.asg (.nm 7) (.call 49 [(.v 0),(.c (.int 130))]))::(.asg (.nm 8) (.call 51 [(.v 0),(.c (.int 145))]))::(.asg (.nm 9) (.call 58 [(.v 0),(.c (.int 300)),(.v 1),(.v 2),(.v 3),(.v 7),(.v 8),(.v 5),(.v 6)]))::(.asg (.nm 10) Nd)::(.ins 9 (.call 43 [(.v 0),(.c (.int 602)),(.bin .add (.bi .len [(.v 9)]) (.c (.int 1)))]) (.tup [(.v 10),(.tup [(.c (.str "lot"))])]))::(.asg (.nm 11) (.idx (.lst [(.c (.int 0)),(.v 5),(.bin .add (.v 5) (.c (.int 1))),(.c (.int 5000))]) (.call 43 [(.v 0),(.c (.int 603)),(.c (.int 4))])))::(.asg (.nm 12) (.bin .add (.v 11) (.call 43 [(.v 0),(.c (.int 604)),(.bin .sub (.c (.int 10008)) (.v 11))])))::(.asg (.nm 13) (.call 43 [(.v 0),(.c (.int 605)),(.bin .add (.bi .len [(.v 9)]) (.c (.int 1)))]))::QK
noncomputable def UI:Fn:={np:=7,G:={N:=["_law_script","_law_names_here","_law_told","_law_faces","_law_salt_here","_law_place_here","_law_day","_law_stem_here","_law_center_here","_law_rules_here","_law_conds","_law_share","_law_later","_law_at","_law_allot_here","_law_one","_law_more","_law_grown"],kd:=[.cell,.cell,.cell,.local,.local,.local,.local,.cell,.cell,.local,.local,.local,.local,.local,.local,.local,.local,.local],gl:=[49,51,58,15,43,0,48,63],df:=Θ},body:=UH}
noncomputable def UJ:List IS:=
 [(.asg (.nm 1) (.call 44 [(.v 0),(.c (.int 0)),(.c (.int 3))])),(.asg (.nm 2) (.call 44 [(.v 0),(.c (.int 50)),(.c (.int 4))])),(.asg (.nm 3) (.call 45 [(.v 0),(.c (.int 100))])),(.asg (.nm 4) (.call 47 [(.v 0),(.c (.int 120))])),(.asg (.nm 5) (.call 49 [(.v 0),(.c (.int 130))])),(.asg (.nm 6) (.call 51 [(.v 0),(.c (.int 145))])),(.asg (.nm 7) (.call 43 [(.v 0),(.c (.int 147)),(.c (.int 1000))])),(.asg (.nm 8) (.call 55 [(.v 0),(.c (.int 150)),(.v 1),(.v 5),(.v 6)])),(.asg (.nm 9) (.comp {N:=["_law_group"],kd:=[.local],gl:=[],df:=Ξ} [] (.nm 0) (.val (.v 8)) [] (.idx (.v 0) (.c (.int 0))))),(.asg (.tp [(.nm 10),(.nm 11),(.nm 12)]) (.call 64 [(.v 0),(.v 1),(.v 9),(.v 2),(.v 3),(.call 46 [(.v 3),(.v 4)]),(.v 7)])),(.asg (.nm 13) (.idx (.v 2) (.call 43 [(.v 0),(.c (.int 606)),(.c (.int 3))]))),(.asg (.nm 14) (.call 61 [(.tup [(.v 8),(.v 11),(.v 12)])])),(.GF (.nm 15) (.Gj (.c (.int 8))) Pn),(.ret (.call 60 [(.v 14),(.tup [(.v 8),(.v 11),(.v 12)])]))]
noncomputable def Q2:Fn:={np:=1,G:={N:=["_law_script","_law_names_here","_law_faces","_law_salt_here","_law_number_here","_law_stem_here","_law_center_here","_law_day","_law_groups_here","_law_told","_law_at","_law_one","_law_other","_law_turned","_law_handed","_law_j","_law_who","_law_visitor","_law_found"],kd:=Τ 19 .local,gl:=[44,45,47,49,51,43,55,64,46,61,15,59,42,60,0],df:=Θ},body:=UJ}
noncomputable def T:Tb:=fun n=>match n with
 | 24=>Δ Xa
 | 25=>Δ TZ
 | 26=>Δ T3
 | 27=>Δ T5
 | 28=>Δ T7
 | 29=>Δ T9
 | 30=>Δ QP
 | 31=>Δ QQ
 | 32=>Δ QR
 | 33=>Δ T'
 | 34=>Δ Pt
 | 35=>Δ QS
 | 36=>Δ QT
 | 37=>Δ QU
 | 38=>Δ Ua
 | 39=>Δ NP
 | 40=>Δ Uc
 | 41=>Δ QV
 | 42=>Δ Ue
 | 43=>Δ Uh
 | 44=>Δ QW
 | 45=>Δ Uj
 | 46=>Δ Ul
 | 47=>Δ PB
 | 48=>Δ Um
 | 49=>Δ QX
 | 50=>Δ PH
 | 51=>Δ Uq
 | 52=>Δ QY
 | 53=>Δ QZ
 | 54=>Δ Ur
 | 55=>Δ Ut
 | 56=>Δ Uv
 | 57=>Δ PL
 | 58=>Δ Ux
 | 59=>Δ Uz
 | 60=>Δ UA
 | 61=>Δ UB
 | 62=>Δ UD
 | 63=>Δ UG
 | 64=>Δ UI
 | 65=>Δ Q2
 | _=>Φ
theorem c24:cw Z Xa ["thing"] (top 5)=Θ:=by decide +kernel
theorem c25:cw Z TZ ["thing","signs","least","most"] (top 6)=Θ:=by decide +kernel
theorem c26:cw Z T3 ["salt"] (top 10)=Θ:=by decide +kernel
theorem c27:cw Z T5 ["salt","factor","modulus"] (top 11)=Θ:=by decide +kernel
theorem c28:cw Z T7 ["salt"] (top 12)=Θ:=by decide +kernel
theorem c29:cw Z T9 ["salt","number"] (top 13)=Θ:=by decide +kernel
theorem c30:cw Z QP ["run","place"] (top 15)=Θ:=by decide +kernel
theorem c31:cw Z QQ ["allot","place"] (top 17)=Θ:=by decide +kernel
theorem c32:cw Z QR ["marks","name"] (top 19)=Θ:=by decide +kernel
theorem c33:cw Z T' ["word","things","mark"] (top 21)=Θ:=by decide +kernel
theorem c34:cw Z Pt ["groups","cond","marks"] (top 22)=Θ:=by decide +kernel
theorem c35:cw Z QS ["groups","conds","marks"] (top 23)=Θ:=by decide +kernel
theorem c36:cw Z QT ["groups","rows","marks"] (top 24)=Θ:=by decide +kernel
theorem c37:cw Z QU ["groups","name","marks"] (top 25)=Θ:=by decide +kernel
theorem c38:cw Z Ua ["stages","day"] (top 27)=Θ:=by decide +kernel
theorem c39:cw Z NP ["outcome","allot","day","place"] (top 28)=Θ:=by decide +kernel
theorem c40:cw Z Uc ["groups","switch","marks"] (top 29)=Θ:=by decide +kernel
theorem c41:cw Z QV ["switch","day","numbers","place"] (top 30)=Θ:=by decide +kernel
theorem c42:cw Z Ue ["groups","switch","day","visitor"] (top 31)=Θ:=by decide +kernel
theorem c43:cw Z Uh ["_law_script","_law_k","_law_many"] (top 33)=Θ:=by decide +kernel
theorem c44:cw Z QW ["_law_script","_law_k","_law_many"] (top 34)=Θ:=by decide +kernel
theorem c45:cw Z Uj ["_law_script","_law_k"] (top 35)=Θ:=by decide +kernel
theorem c46:cw Z Ul ["_law_salt_here","_law_number_here"] (top 36)=Θ:=by decide +kernel
theorem c47:cw Z PB ["_law_script","_law_k"] (top 37)=Θ:=by decide +kernel
theorem c48:cw Z Um ["_law_script","_law_k","_law_faces","_law_place_here"] (top 38)=Θ:=by decide +kernel
theorem c49:cw Z QX ["_law_script","_law_k"] (top 39)=Θ:=by decide +kernel
theorem c50:cw Z PH ["_law_script","_law_k","_law_stem_here"] (top 40)=Θ:=by decide +kernel
theorem c51:cw Z Uq ["_law_script","_law_k"] (top 41)=Θ:=by decide +kernel
theorem c52:cw Z QY ["_law_script","_law_k","_law_center_here"] (top 42)=Θ:=by decide +kernel
theorem c53:cw Z QZ ["_law_script","_law_k","_law_stem_here","_law_center_here"] (top 43)=Θ:=by decide +kernel
theorem c54:cw Z Ur ["_law_script","_law_k","_law_marks_here","_law_groups_here","_law_stem_here","_law_center_here"] (top 44)=Θ:=by decide +kernel
theorem c55:cw Z Ut ["_law_script","_law_k","_law_marks_here","_law_stem_here","_law_center_here"] (top 45)=Θ:=by decide +kernel
theorem c56:cw Z Uv ["_law_script","_law_k","_law_place_here","_law_day"] (top 46)=Θ:=by decide +kernel
theorem c57:cw Z PL ["_law_script","_law_k","_law_faces","_law_place_here","_law_day"] (top 47)=Θ:=by decide +kernel
theorem c58:cw Z Ux ["_law_script","_law_k","_law_marks_here","_law_groups_here","_law_faces","_law_stem_here","_law_center_here","_law_place_here","_law_day"] (top 48)=Θ:=by decide +kernel
theorem c59:cw Z Uz ["_law_script","_law_k","_law_names_here","_law_stem_here","_law_center_here"] (top 49)=Θ:=by decide +kernel
theorem c60:cw Z UA ["_law_found","_law_due"] (top 50)=Θ:=by decide +kernel
theorem c61:cw Z UB ["_law_thing_here"] (top 51)=Θ:=by decide +kernel
theorem c62:cw Z UD ["_law_run","_law_ranges"] (top 52)=Θ:=by decide +kernel
theorem c63:cw Z UG ["_law_script","_law_allot_here","_law_at"] (top 53)=Θ:=by decide +kernel
theorem c64:cw Z UI ["_law_script","_law_names_here","_law_told","_law_faces","_law_salt_here","_law_place_here","_law_day"] (top 54)=Θ:=by decide +kernel
theorem Xb:cw Z Q2 ["_law_script"] (top 55)=Θ:=by decide +kernel
theorem BD:∀ n x,Z.name n=Δ x->x≠"__name__"/\(x == ("__debug__" : Str))=Ξ:=by
 have h:(cX++Z.nm).all (fun x=>!(x == "__name__")&&!(x == "__debug__"))=Θ:=by decide +kernel
 intro n x hx;have:=V_.mp h x (aae hx);simpa using this
@[elab_as_elim] theorem G4 {P:List Ψ->Prop}{n:Nat} (us:List Ψ) (e:us.length=n+1) (h:∀ (x:Ψ) (us:List Ψ),us.length=n->P (x::us)):P us:=by
 cases us with
 | nil=>cases e
 | cons x us=>exact h x us (Nat.succ.inj e)
@[elab_as_elim] theorem Mq {P:List Ψ->Prop} (us:List Ψ) (e:us.length=0) (h:P []):P us:=by
 cases us with
 | nil=>exact h
 | cons x us=>cases e
theorem ln1 {fd:Ο}{ps:List Str}(h:∀ x0:Ψ,bindArgs fd ⟨[x0],[]⟩=pure (ps.zip [x0]))(us:List Ψ)(e:us.length=1):bindArgs fd ⟨us,[]⟩=pure (ps.zip us):=G4 us e fun x0 us e=>Mq us e (h x0)
theorem ln2 {fd:Ο}{ps:List Str}(h:∀ x0 x1:Ψ,bindArgs fd ⟨[x0,x1],[]⟩=pure (ps.zip [x0,x1]))(us:List Ψ)(e:us.length=2):bindArgs fd ⟨us,[]⟩=pure (ps.zip us):=G4 us e fun x0 us e=>G4 us e fun x1 us e=>Mq us e (h x0 x1)
theorem ln3 {fd:Ο}{ps:List Str}(h:∀ x0 x1 x2:Ψ,bindArgs fd ⟨[x0,x1,x2],[]⟩=pure (ps.zip [x0,x1,x2]))(us:List Ψ)(e:us.length=3):bindArgs fd ⟨us,[]⟩=pure (ps.zip us):=G4 us e fun x0 us e=>G4 us e fun x1 us e=>G4 us e fun x2 us e=>Mq us e (h x0 x1 x2)
theorem ln4 {fd:Ο}{ps:List Str}(h:∀ x0 x1 x2 x3:Ψ,bindArgs fd ⟨[x0,x1,x2,x3],[]⟩=pure (ps.zip [x0,x1,x2,x3]))(us:List Ψ)(e:us.length=4):bindArgs fd ⟨us,[]⟩=pure (ps.zip us):=G4 us e fun x0 us e=>G4 us e fun x1 us e=>G4 us e fun x2 us e=>G4 us e fun x3 us e=>Mq us e (h x0 x1 x2 x3)
theorem ln5 {fd:Ο}{ps:List Str}(h:∀ x0 x1 x2 x3 x4:Ψ,bindArgs fd ⟨[x0,x1,x2,x3,x4],[]⟩=pure (ps.zip [x0,x1,x2,x3,x4]))(us:List Ψ)(e:us.length=5):bindArgs fd ⟨us,[]⟩=pure (ps.zip us):=G4 us e fun x0 us e=>G4 us e fun x1 us e=>G4 us e fun x2 us e=>G4 us e fun x3 us e=>G4 us e fun x4 us e=>Mq us e (h x0 x1 x2 x3 x4)
theorem ln6 {fd:Ο}{ps:List Str}(h:∀ x0 x1 x2 x3 x4 x5:Ψ,bindArgs fd ⟨[x0,x1,x2,x3,x4,x5],[]⟩=pure (ps.zip [x0,x1,x2,x3,x4,x5]))(us:List Ψ)(e:us.length=6):bindArgs fd ⟨us,[]⟩=pure (ps.zip us):=G4 us e fun x0 us e=>G4 us e fun x1 us e=>G4 us e fun x2 us e=>G4 us e fun x3 us e=>G4 us e fun x4 us e=>G4 us e fun x5 us e=>Mq us e (h x0 x1 x2 x3 x4 x5)
theorem ln7 {fd:Ο}{ps:List Str}(h:∀ x0 x1 x2 x3 x4 x5 x6:Ψ,bindArgs fd ⟨[x0,x1,x2,x3,x4,x5,x6],[]⟩=pure (ps.zip [x0,x1,x2,x3,x4,x5,x6]))(us:List Ψ)(e:us.length=7):bindArgs fd ⟨us,[]⟩=pure (ps.zip us):=G4 us e fun x0 us e=>G4 us e fun x1 us e=>G4 us e fun x2 us e=>G4 us e fun x3 us e=>G4 us e fun x4 us e=>G4 us e fun x5 us e=>G4 us e fun x6 us e=>Mq us e (h x0 x1 x2 x3 x4 x5 x6)
theorem ln9 {fd:Ο}{ps:List Str}(h:∀ x0 x1 x2 x3 x4 x5 x6 x7 x8:Ψ,bindArgs fd ⟨[x0,x1,x2,x3,x4,x5,x6,x7,x8],[]⟩=pure (ps.zip [x0,x1,x2,x3,x4,x5,x6,x7,x8]))(us:List Ψ)(e:us.length=9):bindArgs fd ⟨us,[]⟩=pure (ps.zip us):=G4 us e fun x0 us e=>G4 us e fun x1 us e=>G4 us e fun x2 us e=>G4 us e fun x3 us e=>G4 us e fun x4 us e=>G4 us e fun x5 us e=>G4 us e fun x6 us e=>G4 us e fun x7 us e=>G4 us e fun x8 us e=>Mq us e (h x0 x1 x2 x3 x4 x5 x6 x7 x8)
theorem dfo {f:Nat}{x:Str}{fn:Fn}{st:Stmt}{fa:Ω}{ps:List Str}{K:W.Frag}{h:Heap}{mg:Str->Option Ψ}{oc:Ψ}{od an:Option Ω}{sl:Array (Option Ψ)}{kV dc pm cd ct:Ψ}(c:cw Z fn ps st=Θ)(hT:T f=Δ fn)(b:∀ (kV dc pm:Ψ)(an:Option Ω)(cd ct:Ψ)(us:List Ψ),us.length=ps.length->bindArgs (W.fnOf x x (eS st) (dz st) (cF st) .none kV dc pm an cd ct) ⟨us,[]⟩=pure (ps.zip us))(X:K.In h)(G:h.Ns Η mg)
  (a:W.nsIn K Η x=Δ (Δ (.ref fa))) (l:K.lookup fa=Δ ⟨oc,od,.func (W.fnOf x x (eS st) (dz st) (cF st) .none kV dc pm an cd ct),sl⟩) (e:W.codeIn K cd x=Θ) (k:W.keepIn K (.ref fa)=Θ):F0 K mg Z T f x:=⟨fn,st,fa,_,ps,hT,nM l e k,W.mg_of X G a,(nM l e k).binds b,mU c⟩
noncomputable def BE:Nat:=65
noncomputable def xk:Str:="_law_script"
theorem all_mk {l:PySem.W.OpenLaw}{w:Β}{fa:Ω}{K:W.Frag}{h:Heap}{mg:Str->Option Ψ}{UK:Ω}{UL PM:Option Ω}{UM:Array (Option Ψ)}{UN PN PQ PR Nj PU:Ψ}{ZN:Tok}{ZO:Tok}{ZP:Tok}(X:K.In h)(G:h.Ns Η mg)(ZQ:mg "law" = Δ (.ref fa))
  (ZT:F0 K mg Z T 24 "is_whole")
  (ZU:F0 K mg Z T 25 "is_text_of")
  (ZV:F0 K mg Z T 26 "check_salt")
  (ZW:F0 K mg Z T 27 "folded")
  (ZX:F0 K mg Z T 28 "lot_keys")
  (ZY:F0 K mg Z T 29 "place_of")
  (ZZ:F0 K mg Z T 30 "run_index")
  (Z0:F0 K mg Z T 31 "face_at")
  (Z1:F0 K mg Z T 32 "mark_of")
  (Z2:F0 K mg Z T 33 "mark_holds")
  (Z3:F0 K mg Z T 34 "cond_holds")
  (Z4:F0 K mg Z T 35 "conds_hold")
  (Z5:F0 K mg Z T 36 "in_rows")
  (Z6:F0 K mg Z T 37 "in_group")
  (Z7:F0 K mg Z T 38 "share_at")
  (Z8:F0 K mg Z T 39 "outcome_face")
  (Z9:F0 K mg Z T 40 "rules_holding")
  (Z':F0 K mg Z T 41 "decided_among")
  (t42:F0 K mg Z T 42 "decide")
  (t43:F0 K mg Z T 43 "_law_draw")
  (t44:F0 K mg Z T 44 "_law_names")
  (t45:F0 K mg Z T 45 "_law_salt")
  (t46:F0 K mg Z T 46 "_law_place")
  (t47:F0 K mg Z T 47 "_law_visitor_number")
  (t48:F0 K mg Z T 48 "_law_allot")
  (t49:F0 K mg Z T 49 "_law_stem")
  (t50:F0 K mg Z T 50 "_law_text")
  (t51:F0 K mg Z T 51 "_law_center")
  (t52:F0 K mg Z T 52 "_law_number")
  (t53:F0 K mg Z T 53 "_law_thing")
  (t54:F0 K mg Z T 54 "_law_cond")
  (t55:F0 K mg Z T 55 "_law_groups")
  (t56:F0 K mg Z T 56 "_law_stages")
  (t57:F0 K mg Z T 57 "_law_outcome")
  (t58:F0 K mg Z T 58 "_law_rules")
  (t59:F0 K mg Z T 59 "_law_marks")
  (t60:F0 K mg Z T 60 "_law_same")
  (t61:F0 K mg Z T 61 "_law_copy")
  (t62:F0 K mg Z T 62 "_law_grown_run")
  (t63:F0 K mg Z T 63 "_law_grown_allot")
  (t64:F0 K mg Z T 64 "_law_switches")
  (a65:W.nsIn K Η "law" = Δ (Δ (.ref UK))) (l65:K.lookup UK=Δ ⟨UN,UL,.func (W.fnOf "law" "law" (eS (top 55)) (dz (top 55)) (cF (top 55)) .none PN PQ PR PM Nj PU),UM⟩) (e65:W.codeIn K Nj "law" = Θ) (k65:W.keepIn K (.ref UK)=Θ)
  (q21:W.nsIn K Η "LETTERS" = Δ (Δ (.str "abcdefghijklmnopqrstuvwxyz" ZN)))
  (q22:W.nsIn K Η "PLACES" = Δ (Δ (.int 10007 ZO)))
  (q23:W.nsIn K Η "SALT_LENGTH" = Δ (Δ (.int 12 ZP)))
  (z0:W.nsIn K Η "len" = Δ Φ)
  (z1:W.nsIn K Η "sum" = Δ Φ)
  (z2:W.nsIn K Η "min" = Δ Φ)
  (z3:W.nsIn K Η "max" = Δ Φ)
  (z4:W.nsIn K Η "sorted" = Δ Φ)
  (z5:W.nsIn K Η "list" = Δ Φ)
  (z6:W.nsIn K Η "tuple" = Δ Φ)
  (z7:W.nsIn K Η "ord" = Δ Φ)
  (z8:W.nsIn K Η "int" = Δ Φ)
  (z9:W.nsIn K Η "all" = Δ Φ)
  (z10:W.nsIn K Η "any" = Δ Φ)
  (z11:W.nsIn K Η "str" = Δ Φ)
  (z12:W.nsIn K Η "set" = Δ Φ)
  (z13:W.nsIn K Η "abs" = Δ Φ)
  (z14:W.nsIn K Η "isinstance" = Δ Φ)
  (z15:W.nsIn K Η "range" = Δ Φ)
  (z16:W.nsIn K Η "bool" = Δ Φ)
  (z17:W.nsIn K Η "zip" = Δ Φ)
  (z18:W.nsIn K Η "reversed" = Δ Φ)
  (z19:W.nsIn K Η "dict" = Δ Φ)
  (z20:W.nsIn K Η "enumerate" = Δ Φ) :
  ∃ fd:Ο,(∀ (s:Α) (v:Ψ),BindsTo s fd ⟨[v],[]⟩ [(xk,v)])/\∀ base:Heap,K.In base->base.Ns Η mg->HC l.prog w K mg base (Hl l.prog w) (16+1) fa fd [xk] (NL K (aB T (16+1)) BE [xk]):=by
 have e:=ZQ.symm.trans (PySem.W.mg_of X G a65);cases e;have t:ID K mg Z T:=by
  constructor
  case Mg=>
   exact BD
  case blt=>
   exact fun n x hx=>by
    have key:∀ y∈cX,mg y=Φ:=by
     intro y hy;simp only[cX,k_,R_,or_false] at hy;rcases hy with rfl|rfl|rfl|rfl|rfl|rfl|rfl|rfl|rfl|rfl|rfl|rfl|rfl|rfl|rfl|rfl|rfl|rfl|rfl|rfl|rfl
     ·exact J_ X G z0
     ·exact J_ X G z1
     ·exact J_ X G z2
     ·exact J_ X G z3
     ·exact J_ X G z4
     ·exact J_ X G z5
     ·exact J_ X G z6
     ·exact J_ X G z7
     ·exact J_ X G z8
     ·exact J_ X G z9
     ·exact J_ X G z10
     ·exact J_ X G z11
     ·exact J_ X G z12
     ·exact J_ X G z13
     ·exact J_ X G z14
     ·exact J_ X G z15
     ·exact J_ X G z16
     ·exact J_ X G z17
     ·exact J_ X G z18
     ·exact J_ X G z19
     ·exact J_ X G z20
    exact key x (aae hx)
  case cst=>
   exact fun n d x hm hx=>by
    have M6:(n,d)∈([(21,(.str "abcdefghijklmnopqrstuvwxyz")),(22,(.int 10007)),(23,(.int 12))]:List (Nat×D)):=hm;simp only[k_,R_,or_false,Prod.mk.injEq] at M6;rcases M6 with ⟨rfl,rfl⟩|⟨rfl,rfl⟩|⟨rfl,rfl⟩
    ·cases hx;exact⟨_,.str _,PySem.W.mg_of X G q21,⟨_,rfl⟩,fun _ _=>.str _⟩
    ·cases hx;exact⟨_,.int _,PySem.W.mg_of X G q22,⟨_,rfl⟩,fun _ _=>.int _⟩
    ·cases hx;exact⟨_,.int _,PySem.W.mg_of X G q23,⟨_,rfl⟩,fun _ _=>.int _⟩
  case fns=>
   exact fun f hf x hx=>by
    have J3:f∈([24,25,26,27,28,29,30,31,32,33,34,35,36,37,38,39,40,41,42,43,44,45,46,47,48,49,50,51,52,53,54,55,56,57,58,59,60,61,62,63,64,65]:List Nat):=hf;simp only[k_,R_,or_false] at J3;rcases J3 with rfl|rfl|rfl|rfl|rfl|rfl|rfl|rfl|rfl|rfl|rfl|rfl|rfl|rfl|rfl|rfl|rfl|rfl|rfl|rfl|rfl|rfl|rfl|rfl|rfl|rfl|rfl|rfl|rfl|rfl|rfl|rfl|rfl|rfl|rfl|rfl|rfl|rfl|rfl|rfl|rfl|rfl
    ·cases hx;exact ZT
    ·cases hx;exact ZU
    ·cases hx;exact ZV
    ·cases hx;exact ZW
    ·cases hx;exact ZX
    ·cases hx;exact ZY
    ·cases hx;exact ZZ
    ·cases hx;exact Z0
    ·cases hx;exact Z1
    ·cases hx;exact Z2
    ·cases hx;exact Z3
    ·cases hx;exact Z4
    ·cases hx;exact Z5
    ·cases hx;exact Z6
    ·cases hx;exact Z7
    ·cases hx;exact Z8
    ·cases hx;exact Z9
    ·cases hx;exact Z'
    ·cases hx;exact t42
    ·cases hx;exact t43
    ·cases hx;exact t44
    ·cases hx;exact t45
    ·cases hx;exact t46
    ·cases hx;exact t47
    ·cases hx;exact t48
    ·cases hx;exact t49
    ·cases hx;exact t50
    ·cases hx;exact t51
    ·cases hx;exact t52
    ·cases hx;exact t53
    ·cases hx;exact t54
    ·cases hx;exact t55
    ·cases hx;exact t56
    ·cases hx;exact t57
    ·cases hx;exact t58
    ·cases hx;exact t59
    ·cases hx;exact t60
    ·cases hx;exact t61
    ·cases hx;exact t62
    ·cases hx;exact t63
    ·cases hx;exact t64
    ·cases hx;exact dfo Xb rfl (fun _ _ _ _ _ _=>ln1 fun _=>rfl) X G a65 l65 e65 k65
  case Kh=>
   exact fun f hf=>absurd (show f∈([]:List Nat) from hf) (by simp)
  case Ji=>
   exact fun f hf=>absurd (show f∈([]:List Nat) from hf) (by simp)
  case Nz=>
   exact fun n hn=>absurd (show n∈([]:List Nat) from hn) (by simp)
  case NA=>
   exact fun c n b x hm=>absurd (show (c,n,b)∈([]:List (Str×Nat×Bool)) from hm) (by simp)
  case NB=>
   exact fun c n x hm=>absurd (show (c,n)∈([]:List (Str×Nat)) from hm) (by simp)
  case NC=>
   exact fun n c hm=>absurd (show (n,c)∈([]:List (Nat×Str)) from hm) (by simp)
 exact⟨PySem.W.fnOf "law" "law" (eS (top 55)) (dz (top 55)) (cF (top 55)) .none PN PQ PR PM Nj PU,fun s v=>.of_eq rfl,fun base _ _=>Bl t 16 nofun (f:=65) (fn:=Q2) rfl (nM (st:=top 55) l65 e65 k65) (mU Xb)⟩
end Law
namespace L2
open PySem PySem.Spec PyProof.Rows PySem.SeqAt
namespace Fr
noncomputable def one (c:Nat):Str:=⟨#[c]⟩
noncomputable def Gb (cs:List Nat):Str:=⟨cs.toArray⟩
def low (c:Nat):Prop:=97<=c/\c<=122
theorem uI:(Ρ "abcdefghijklmnopqrstuvwxyz").cps.toList=List.range' 97 26:=by decide +kernel
theorem pR:(Ρ "abcdefghijklmnopqrstuvwxyz").length=26:=by decide +kernel
theorem jm {i:Int}(h0:0<=i)(h1:i < 26):cH (.str "abcdefghijklmnopqrstuvwxyz") (.int i)=.ok (.str (one (97+i.toNat))):=by
 rw[Ev.O' h0 (by rw[pR];exact h1) (by rw[pR];decide),uI];have:(List.range' 97 26).getD i.toNat 0=97+i.toNat:=by rw[aat,List.getElem?_range' ⋯];show 97+1*i.toNat=_;omega
 rw[this];rfl
theorem dG (cs:List Nat):(Gb cs).length=cs.length:=by unfold Gb Str.length;simp
theorem lb (c:Nat):(one c).length=1:=rfl
theorem nk {cs:List Nat}{j:Int}(h0:0<=j)(h1:j<=cs.length):Txt.slice (Gb cs) Φ (Δ j)=Gb (cs.take j.toNat):=by
 have:=StrLaws.sliceText_to (x:=Gb cs) (j:=j) ⟨h0,by show j<=(cs.toArray.toList.length:Nat);simpa using h1⟩;refine this.trans ?_;show (⟨((cs.toArray.toList.drop 0).take (j - 0).toNat).toArray⟩:Str)=⟨(cs.take j.toNat).toArray⟩
 rw[List.toList_toArray,List.drop_zero,Int.sub_zero]
theorem jn {cs:List Nat}{i:Int}(h0:0<=i)(h1:i<=cs.length):Txt.slice (Gb cs) (Δ i) Φ=Gb (cs.drop i.toNat):=by
 have:=StrLaws.sliceText_from (x:=Gb cs) (i:=i) ⟨h0,by show i<=(cs.toArray.toList.length:Nat);simpa using h1⟩;refine this.trans ?_;show (⟨((cs.toArray.toList.drop i.toNat).take ((cs.toArray.toList.length:Int) - i).toNat).toArray⟩:Str)=⟨(cs.drop i.toNat).toArray⟩
 rw[List.toList_toArray,List.take_of_length_le (by rw[aaa];omega)]
theorem xl (a b:List Nat):Gb a++Gb b=Gb (a++b):=by
 show (⟨a.toArray++b.toArray⟩:Str)=⟨(a++b).toArray⟩
 rw[List.append_toArray]
theorem iy (c:Nat):one c=Gb [c]:=rfl
theorem fR {a b:List Nat}(h:a.length+b.length<=1000):HM .add (.str (Gb a)) (.str (Gb b))=.ok (.str (Gb (a++b))):=by rw[Ev.oy,Ev.g9 (by rw[dG,dG];omega),xl];rfl
theorem fS (cs:List Nat):dE (Gb cs)=(cs.map one).map .str:=by unfold dE Gb one;rw[H_];rfl
theorem Em {β:Type}{body:D->Ev->Res Fl}(f:β->Nat->β)(st:β->Ev->Prop)(cs:List Nat)(b:β)(τ:Ev)(h:st b τ)(hb:∀ (c:Nat)(b:β)(τ:Ev),c∈cs->st b τ->∃ τ',body (.str (one c)) τ=.ok (.nx τ')/\st (f b c) τ') :
  ∃ τ',forM body ((cs.map one).map .str) τ=.ok (.nx τ')/\st (cs.foldl f b) τ':=by
 have:=Ev.nj (body:=body) f (fun c:Nat=>D.str (one c)) st cs b τ h hb;rw[show (cs.map one).map D.str=cs.map fun c=>D.str (one c) by rw[H_];rfl];exact this
theorem BF {c:Nat}(h:low c):mC "abcdefghijklmnopqrstuvwxyz" (one c)=Θ:=by
 have:∀ k,k < 26->mC "abcdefghijklmnopqrstuvwxyz" (one (97+k))=Θ:=by decide +kernel
 obtain⟨h1,h2⟩:=h;rw[show c=97+(c - 97) by omega];exact this _ ⋯
noncomputable def kf (a m:Int)(k:Int)(c:Nat):Int:=(k*a+(c:Nat)) % m
theorem pS (c:Nat):decide ((one c).length=1)=Θ:=rfl
theorem pT (c:Nat):(one c).cps.getD 0 0=c:=rfl
end Fr
end L2
namespace Law
open PySem PySem.Spec L2 L2.Fr PyProof.Rows
theorem gx {n:Nat}{ds:List D}(f:Nat)(fn:Fn)(m k:Nat)(body:List IS)(h:T f=Δ fn)(h0:fn.io=Ξ)(h1:fn.np=m)(h2:fn.G.N.length=k)(h3:fn.body=body)(hl:ds.length=m):aB T (n+1) f ds=Fu (cI (aB T n) body (ds.map Δ++Τ (k - m) Φ)) Ev.uz:=Ev.go h h0 h1 h2 h3 hl
noncomputable def Mr (ns:List Int)(k:Int):Int:=if 0 < ns.length then ns.getD (k % (ns.length:Int)).toNat 0 % 2147483647 else 0
noncomputable def dr (ns:List Int)(k m:Int):Int:=(Mr ns k*(742938285+9973*k*k)+k*630360016) % 2147483647 / 97 % m
theorem En (ns:List Int)(k:Int):0<=Mr ns k/\Mr ns k < 2147483647:=by
 unfold Mr;split
 ·exact⟨Int.emod_nonneg _ nofun,Int.emod_lt_of_pos _ nofun⟩
 ·decide
theorem fX (ns:List Int)(k:Int){m:Int}(h:0 < m):0<=dr ns k m:=Int.emod_nonneg _ ⋯
theorem fY (ns:List Int)(k:Int){m:Int}(h:0 < m):dr ns k m < m:=Int.emod_lt_of_pos _ h
theorem cU (n:Nat)(ns:List Int)(k m:Int)(h0:0<=k)(h1:k<=2000)(hm:0 < m):aB T (n+1) 43 [.lst Ξ (ns.map .int),.int k,.int m]=.ok (.int (dr ns k m)):=by
 rw[gx 43 Uh 3 5 Ug rfl rfl rfl rfl rfl rfl];unfold Ug;obtain⟨b0,b1⟩:=En ns k;unfold dr;have lm:(ns.map D.int).length=ns.length:=i_ _;by_cases h:0 < ns.length
 ·have hd:decide ((0:Int) < (ns.length:Int))=Θ:=F_ ⋯;have c0:=Int.emod_nonneg k (show (ns.length:Int)≠0 by omega);have c1:=Int.emod_lt_of_pos k (show (0:Int) < (ns.length:Int) by omega);have ec:ns.getD (k % (ns.length:Int)).toNat 0 % 2147483647=Mr ns k:=by unfold Mr;rw[f_ h]
  simp![lm,hd,ec]
 ·have hd:decide ((0:Int) < (ns.length:Int))=Ξ:=S_ ⋯;have ec:Mr ns k=0:=by unfold Mr;rw[d_ h]
  rw[ec];simp![lm,hd]
theorem HF (n:Nat)(ns:List Int)(k m:Int)(h0:0<=k)(h1:k<=2000)(hm:0 < m):∃ r:Int,aB T (n+1) 43 [.lst Ξ (ns.map .int),.int k,.int m]=.ok (.int r)/\0<=r/\r < m:=⟨_,cU n ns k m h0 h1 hm,fX ns k hm,fY ns k hm⟩
def Sl (cs:List Nat):Prop:=1<=cs.length/\cs.length<=12/\∀ c∈cs,low c
noncomputable def Ji (cs:List Nat)(m:Int):Int:=((1+cs.foldl (kf 31 10006) 0)*m+cs.foldl (kf 37 10007) 0) % 10007
theorem xn (n:Nat){cs:List Nat}(h:Sl cs):aB T (n+1) 25 [.str (Gb cs),.str "abcdefghijklmnopqrstuvwxyz",.int 1,.int 12]=.ok (.bl Θ):=by
 rw[gx 25 TZ 4 4 TY rfl rfl rfl rfl rfl rfl];unfold TY;obtain⟨h1,h2,h3⟩:=h;have e1:cD (cL (aB T n) (.nm 1) [] (.cmp .Lb (.v 1) (.v 0)) [Δ (.str "abcdefghijklmnopqrstuvwxyz"),Φ]) (dE (Gb cs))=.ok ((cs.map fun c=>Θ).map .bl):=by rw[fS,H_];refine Ev.dF (fun c:Nat=>D.str (one c)) (fun c=>Θ) .bl _ fun c hc=>?_;have:=BF (h3 c hc);simp![this]
 have ea:(cs.map fun _=>Θ).all id=Θ:=by rw[List.all_map];simp
 have lc:(dE (Gb cs)).length=cs.length:=by rw[fS,i_,i_]
 have d1:decide ((1:Int)<=(cs.length:Int))=Θ:=F_ ⋯;have d2:decide ((cs.length:Int)<=12)=Θ:=F_ ⋯;have sl:=dG cs;simp![d1,d2,e1,ea,lc,sl]
theorem oB (n:Nat){cs:List Nat}(h:Sl cs):aB T (n+2) 26 [.str (Gb cs)]=.ok .F4:=by have e:=xn n h;rw[gx 26 T3 1 1 T2 rfl rfl rfl rfl rfl rfl];unfold T2;simp![e]
noncomputable def uJ:List IS:=[(.asg (.nm 3) (.bin .mod (.bin .add (.bin .mul (.v 3) (.v 1)) (.bi .ord [(.v 4)])) (.v 2)))]
theorem uK (n:Nat)(cs:List Nat)(hm:cs.length<=12)(a m:Int)(h0:0 < m)(ha:0<=a)(NF:a < 18446744073709551616):aB T (n+1) 27 [.str (Gb cs),.int a,.int m]=.ok (.int (cs.foldl (kf a m) 0)):=by
 obtain⟨τ',e,s4,rfl⟩:=Em (body:=Ev.turn (aB T n) (.nm 4) uJ) (kf a m) (fun k τ=>∃ s4,τ=[Δ (.str (Gb cs)),Δ (.int a),Δ (.int m),Δ (.int k),s4]) cs 0 [Δ (.str (Gb cs)),Δ (.int a),Δ (.int m),Δ (.int 0),Φ] ⟨Φ,rfl⟩ (by
  rintro c k τ hc ⟨s4,rfl⟩;refine⟨[Δ (.str (Gb cs)),Δ (.int a),Δ (.int m),Δ (.int (kf a m k c)),Δ (.str (one c))],?_,_,rfl⟩;unfold uJ kf
  simp![Ev.cy,pS,pT])
 unfold uJ at e;rw[gx 27 T5 3 5 T4 rfl rfl rfl rfl rfl rfl];unfold T4;simp![fS,dG,e]
theorem uL (n:Nat){cs:List Nat}(h:Sl cs):aB T (n+3) 28 [.str (Gb cs)]=.ok (.tup [.int (1+cs.foldl (kf 31 10006) 0),.int (cs.foldl (kf 37 10007) 0)]):=by have e1:=oB n h;have e2:=uK (n+1) cs h.2.1 31 10006 nofun nofun nofun;have e3:=uK (n+1) cs h.2.1 37 10007 nofun nofun nofun;rw[gx 28 T7 1 3 T6 rfl rfl rfl rfl rfl rfl];unfold T6;simp![e1,e2,e3,Int.reduceSub]
theorem uM (n:Nat){cs:List Nat}(h:Sl cs)(m:Int)(m0:0<=m)(m1:m<=1000000000):aB T (n+4) 29 [.str (Gb cs),.int m]=.ok (.int (Ji cs m)):=by have e1:=uL n h;rw[gx 29 T9 2 3 T8 rfl rfl rfl rfl rfl rfl];unfold T8;unfold Ji;simp![e1]
noncomputable def PV (p:Int×Int)(c:Nat):Int×Int:=(kf 31 10006 p.1 c,kf 37 10007 p.2 c)
theorem uN:∀ (cs:List Nat) (a b:Int),cs.foldl PV (a,b)=(cs.foldl (kf 31 10006) a,cs.foldl (kf 37 10007) b)
 | [],a,b=>rfl
 | c::cs,a,b=>by rw[List.foldl_cons,List.foldl_cons,List.foldl_cons];exact uN cs _ _
noncomputable def UO:List IS:=[(.asg (.nm 2) (.bin .mod (.bin .add (.bin .mul (.v 2) (.c (.int 31))) (.bi .ord [(.v 4)])) (.c (.int 10006)))),(.asg (.nm 3) (.bin .mod (.bin .add (.bin .mul (.v 3) (.c (.int 37))) (.bi .ord [(.v 4)])) (.c (.int 10007))))]
theorem qL (n:Nat)(cs:List Nat)(hm:cs.length<=12)(m:Int)(m0:0<=m)(m1:m<=1000000000):aB T (n+1) 46 [.str (Gb cs),.int m]=.ok (.int (Ji cs m)):=by
 obtain⟨τ',e,s4,rfl⟩:=Em (body:=Ev.turn (aB T n) (.nm 4) UO) PV (fun p τ=>∃ s4,τ=[Δ (.str (Gb cs)),Δ (.int m),Δ (.int p.1),Δ (.int p.2),s4]) cs (0,0) [Δ (.str (Gb cs)),Δ (.int m),Δ (.int 0),Δ (.int 0),Φ] ⟨Φ,rfl⟩ (by
  rintro c ⟨a,b⟩ τ hc ⟨s4,rfl⟩;refine⟨[Δ (.str (Gb cs)),Δ (.int m),Δ (.int (PV (a,b) c).1),Δ (.int (PV (a,b) c).2),Δ (.str (one c))],?_,_,rfl⟩;unfold UO PV kf
  simp![Ev.cy,pS,pT])
 rw[uN] at e;unfold UO at e;unfold Ji;rw[gx 46 Ul 2 5 Uk rfl rfl rfl rfl rfl rfl];unfold Uk;simp![fS,dG,e]
end Law
namespace L2
open PySem PySem.Spec PyProof.Rows PySem.SeqAt
namespace Fr
variable {T:Tb}
mutual
noncomputable def pl:Nat->D->Bool
 | n+1,.tup ds=>Hz n ds&&decide (ds.length < 1000)
 | n+1,.lst o ds=>!o&&(Hz n ds&&decide (ds.length < 1000))
 | _+1,.Gn _ _ _=>Ξ
 | _+1,.exc _=>Ξ
 | 0,_=>Ξ
 | _+1,_=>Θ
noncomputable def Hz:Nat->List D->Bool
 | _,[]=>Θ
 | n,d::ds=>pl n d&&Hz n ds
end
theorem lj {n:Nat}:∀ {ds:List D},Hz n ds=Θ->∀ d∈ds,pl n d=Θ
 | [],_,d,hd=>by simp at hd
 | e::ds,h,d,hd=>by
  have h':=z_.mp (show (pl n e&&Hz n ds)=Θ from h);rcases k_.mp hd with rfl|hd
  ·exact h'.1
  ·exact lj h'.2 d hd
theorem uO:∀ (n:Nat) (d:D),pl n d=Θ->er d=d:=by
 intro n
 induction n with
 | zero=>intro d h;cases d<;>cases h
 | succ n ih=>
  have all:∀ ds:List D,Hz n ds=Θ->FA ds=ds:=by
   intro ds
   induction ds with
   | nil=>intro _;rfl
   | cons e ds Kc=>intro h;have h':=z_.mp (show (pl n e&&Hz n ds)=Θ from h);show er e::FA ds=_;rw[ih e h'.1,Kc h'.2]
  intro d h;cases d with
  | tup ds=>have h':=z_.mp (show (Hz n ds&&decide (ds.length < 1000))=Θ from h);rw[er,all ds h'.1]
  | lst o ds=>
   have h':=z_.mp (show (!o&&(Hz n ds&&decide (ds.length < 1000)))=Θ from h);have h2:=z_.mp h'.2;have ho:o=Ξ:=by simpa using h'.1
   subst ho;rw[er,all ds h2.1]
  | Gn _ _ _=>cases h
  | exc _=>cases h
  | _=>rfl
theorem uP {n:Nat}:∀ {ds:List D},Hz n ds=Θ->FA ds=ds
 | [],_=>rfl
 | e::ds,h=>by have h':=z_.mp (show (pl n e&&Hz n ds)=Θ from h);show er e::FA ds=_;rw[uO n e h'.1,uP h'.2]
theorem jo (ds:List D):eB ds ds=ds.map fun a=>.tup [a,a]:=by
 unfold eB
 induction ds with
 | nil=>rfl
 | cons d ds ih=>rw[List.zipWith_cons_cons,ih];rfl
theorem nq:∀ n:Nat,dQ (Τ n (D.bl Θ))=Δ (Τ n Θ)
 | 0=>rfl
 | n+1=>by rw[List.replicate_succ,List.replicate_succ];show (dQ _).map _=_;rw[nq n];rfl
theorem all_true (o:Bool)(n:Nat):ek .all [.lst o (Τ n (D.bl Θ))]=.ok (.bl Θ):=by show (match dQ (Τ n (D.bl Θ)) with|some bs=>.ok (.bl (bs.all id))|none=>F5:Res D)=_;rw[nq];simp
theorem xo {f:Nat}{fn:Fn}(hT:T f=Δ fn)(Ko:fn.io=Ξ)(h1:fn.np=2)(h2:fn.G.N.length=2)(h3:fn.body=K2 f):∀ (n k:Nat) (d:D),pl n d=Θ->aB T (n+k) f [d,d]=.ok (.bl Θ):=by
 intro n
 induction n with
 | zero=>intro k d h;cases d<;>cases h
 | succ n ih=>
  intro k d h;have fm:∀ ds:List D,Hz n ds=Θ->cD (cL (aB T (n+k)) (.tp [(.nm 0),(.nm 1)]) [] (.call f [(.v 0),(.v 1)]) [Φ,Φ]) (eB ds ds)=.ok (Τ ds.length (D.bl Θ)):=by
   intro ds hp;rw[jo];refine(Ev.dF (fun a:D=>D.tup [a,a]) (fun _=>D.bl Θ) id ds fun x hx=>?_).trans (by rw[List.map_id,List.map_const']);have G9:=lj hp x hx;have hc:=ih k x G9;have he:=uO n x G9;have e2:FA [x,x]=[x,x]:=by show [er x,er x]=_;rw[he]
   simp![Ev.cy,hc,e2,he,id]
  rw[show n+1+k=(n+k)+1 by omega,Ev.go hT Ko h1 h2 h3 rfl];unfold K2;cases d with
  | F4=>rfl
  | bl b=>exact congrArg (fun z:Bool=>(Except.ok (D.bl z):Res D)) (beq_self_eq_true b)
  | int i=>exact congrArg (fun z:Bool=>(Except.ok (D.bl z):Res D)) (beq_self_eq_true i)
  | str x=>exact congrArg (fun z:Bool=>(Except.ok (D.bl z):Res D)) (beq_self_eq_true x)
  | tup ds=>
   have h':=z_.mp (show (Hz n ds&&decide (ds.length < 1000))=Θ from h);have hl:ds.length < 1000:=q_ h'.2;have hz:(eB ds ds).length=ds.length:=by rw[jo,i_]
   have e:=fm ds h'.1;have ea:=all_true Θ ds.length;unfold uH;simp![e,ea,hz]
  | lst o ds=>
   have h0:=z_.mp (show (!o&&(Hz n ds&&decide (ds.length < 1000)))=Θ from h);have h':=z_.mp h0.2;have hl:ds.length < 1000:=q_ h'.2;have hz:(eB ds ds).length=ds.length:=by rw[jo,i_]
   have e:=fm ds h'.1;have ea:=all_true Θ ds.length;unfold uH;simp![e,ea,hz]
  | Gn _ _ _=>cases h
  | exc _=>cases h
theorem GX:∀ ds:List D,FA (FA ds)=FA ds:=by intro ds;rw[cA,cA,H_];exact aah fun d _=>xZ d
theorem pU {g:D->Res (Option D)}:∀ (xs:List D),(∀ x∈xs,∃ y,g x=.ok (Δ y)/\er y=er x)->∃ ys,cD g xs=.ok ys/\FA ys=FA xs/\ys.length=xs.length
 | [],_=>⟨[],rfl,rfl,rfl⟩
 | x::xs,h=>by obtain⟨y,h1,h2⟩:=h x (by simp);obtain⟨ys,h3,h4,h5⟩:=pU xs fun z hz=>h z (I_ _ hz);refine⟨y::ys,?_,by show er y::FA ys=er x::FA xs;rw[h2,h4],by rw[List.length_cons,List.length_cons,h5]⟩;show Fu (g x) _=_;rw[h1];show Fu (cD g xs) _=_;rw[h3];rfl
theorem xq {f:Nat}{fn:Fn}{x:Str}(hT:T f=Δ fn)(Ko:fn.io=Ξ)(h1:fn.np=1)(h2:fn.G.N.length=1)(h3:fn.body=K3 f x):∀ (n k:Nat) (d:D),pl n d=Θ->∃ d',aB T (n+k) f [d]=.ok d'/\er d'=d:=by
 intro n
 induction n with
 | zero=>intro k d h;cases d<;>cases h
 | succ n ih=>
  intro k d h;have fm:∀ ds:List D,Hz n ds=Θ->∃ ys,cD (cL (aB T (n+k)) (.nm 0) [] (.call f [(.v 0)]) [Φ]) ds=.ok ys/\FA ys=ds/\ys.length=ds.length:=by
   intro ds hp;obtain⟨ys,h1,h2,h3⟩:=pU (g:=cL (aB T (n+k)) (.nm 0) [] (.call f [(.v 0)]) [Φ]) ds fun x hx=>by
    have G9:=lj hp x hx;obtain⟨y,hc,hy⟩:=ih k x G9;have he:=uO n x G9;have e2:FA [x]=[x]:=by show [er x]=_;rw[he]
    refine⟨y,?_,hy.trans he.symm⟩;simp![Ev.cy,hc,e2,he]
   exact⟨ys,h1,h2.trans (uP hp),h3⟩
  rw[show n+1+k=(n+k)+1 by omega,Ev.go hT Ko h1 h2 h3 rfl];unfold K3;cases d with
  | F4=>exact⟨.F4,rfl,rfl⟩
  | bl b=>exact⟨.bl b,rfl,rfl⟩
  | int i=>exact⟨.int i,rfl,rfl⟩
  | str z=>exact⟨.str z,rfl,rfl⟩
  | tup ds=>
   have h':=z_.mp (show (Hz n ds&&decide (ds.length < 1000))=Θ from h);have hl:ds.length < 1000:=q_ h'.2;obtain⟨ys,e,hy,hyl⟩:=fm ds h'.1;unfold pQ;cases lf:ck ys with
   | true=>refine⟨.tup ys,?_,by rw[er,hy]⟩;simp![e,lf]
   | false=>refine⟨.tup (FA ys),?_,by rw[er,GX,hy]⟩;simp![e,lf]
  | lst o ds=>
   have h0:=z_.mp (show (!o&&(Hz n ds&&decide (ds.length < 1000)))=Θ from h);have h':=z_.mp h0.2;have ho:o=Ξ:=by simpa using h0.1
   subst ho;have hl:ds.length < 1000:=q_ h'.2;obtain⟨ys,e,hy,hyl⟩:=fm ds h'.1;unfold pQ;cases lf:ck ys with
   | true=>refine⟨.lst Θ ys,?_,by rw[er,hy]⟩;simp![e,lf]
   | false=>refine⟨.lst Θ (FA ys),?_,by rw[er,GX,hy]⟩;simp![e,lf]
  | Gn _ _ _=>cases h
  | exc _=>cases h
end Fr
end L2
namespace Law
open PySem PySem.Spec L2 L2.Fr
theorem same (n k:Nat){d:D}(h:pl n d=Θ):aB T (n+k) 60 [d,d]=.ok (.bl Θ):=xo (fn:=UA) rfl rfl rfl rfl rfl n k d h
theorem copy (n k:Nat){d:D}(h:pl n d=Θ):∃ d',aB T (n+k) 61 [d]=.ok d'/\er d'=d:=xq (fn:=UB) (x:="_law_part") rfl rfl rfl rfl rfl n k d h
open PyProof.Rows
theorem uQ:Ρ "" = Gb []:=by decide +kernel
noncomputable def tS:List IS:=[(.asg (.nm 3) (.bin .add (.v 3) (.idx (.v 2) (.call 43 [(.v 0),(.bin .add (.bin .add (.v 1) (.c (.int 2))) (.v 4)),(.c (.int 26))]))))]
theorem xr (n:Nat)(ns:List Int){k:Int}(h0:0<=k)(h1:k<=1900):∃ cs:List Nat,aB T (n+2) 45 [.lst Ξ (ns.map .int),.int k]=.ok (.str (Gb cs))/\Sl cs:=by
 obtain⟨r,d0,a0,a1⟩:=HF n ns k 12 h0 ⋯ nofun;obtain⟨τ',e,cs,y4,rfl,hl,hx⟩:=Ev.dZ (its:=cO 0 r) (τ:=[Δ (.lst Ξ (ns.map .int)),Δ (.int k),Δ (.str "abcdefghijklmnopqrstuvwxyz"),Δ (.str (Gb [])),Φ,Φ]) (body:=Ev.turn (aB T (n+1)) (.nm 4) tS)
  (fun i τ=>∃ (cs:List Nat) (x4:Option D),τ=[Δ (.lst Ξ (ns.map .int)),Δ (.int k),Δ (.str "abcdefghijklmnopqrstuvwxyz"),Δ (.str (Gb cs)),x4,Φ]/\cs.length=i/\∀ c∈cs,low c)
  ⟨[],Φ,rfl,rfl,fun c hc=>by simp at hc⟩ (by
   rintro i x τ hx ⟨cs,x4,rfl,hl,UP⟩;have hi:i < r.toNat:=by have:=(x_.mp hx).1;rw[dW] at this;omega
   unfold cO at hx;rw[A_,List.getElem?_range ⋯] at hx;have G9:D.int (0+(i:Nat))=x:=D_ hx;subst G9;obtain⟨q,d1,b0,b1⟩:=HF n ns (k+2+(0+(i:Int))) 26 ⋯ ⋯ nofun;refine⟨[Δ (.lst Ξ (ns.map .int)),Δ (.int k),Δ (.str "abcdefghijklmnopqrstuvwxyz"),Δ (.str (Gb (cs++[97+q.toNat]))),Δ (.int (0+(i:Nat))),Φ],?_,_,_,rfl,by rw[o_,hl];rfl,fun c hc=>?_⟩
   ·have sa:=fR (a:=cs) (b:=[97+q.toNat]) (by rw[hl,W_];omega);have ab:=jm b0 b1;rw[iy] at ab;unfold tS;simp![Ev.cy,d1,ab,sa]
   ·rcases v_.mp hc with hc|hc
    ·exact UP c hc
    ·rw[u_.mp hc];constructor<;>omega)
 rw[dW] at hl;obtain⟨t,d1,b0,b1⟩:=HF n ns (k+1) ((cs.length:Int)+1) ⋯ ⋯ ⋯;obtain⟨q,d2,c0,c1⟩:=HF n ns (k+14) 26 ⋯ ⋯ nofun;have ab:=jm c0 c1;rw[iy] at ab;have s1:=nk (cs:=cs) (j:=t) b0 ⋯;have s2:=jn (cs:=cs) (i:=t) b0 ⋯;have l1:(cs.take t.toNat).length<=12:=by rw[L_];omega
 have l2:(cs.drop t.toNat).length<=12:=by rw[aaa];omega
 have p1:=fR (a:=cs.take t.toNat) (b:=[97+q.toNat]) (by rw[W_];omega);have p2:=fR (a:=cs.take t.toNat++[97+q.toNat]) (b:=cs.drop t.toNat) (by rw[o_,W_];omega);refine⟨cs.take t.toNat++[97+q.toNat]++cs.drop t.toNat,?_,?_,?_,fun c hc=>?_⟩
 ·unfold tS at e;have sl:=dG cs;rw[gx 45 Uj 2 6 Ui rfl rfl rfl rfl rfl rfl];unfold Ui;simp![uQ,d0,e,sl,d1,d2,ab,s1,s2,p1,p2]
 ·rw[o_,o_,W_];omega
 ·have:(cs.take t.toNat).length+(cs.drop t.toNat).length=cs.length:=by rw[<- o_,List.take_append_drop]
  rw[o_,o_,W_];omega
 ·rcases v_.mp hc with hc|hc
  ·rcases v_.mp hc with hc|hc
   ·exact hx c (List.mem_of_mem_take hc)
   ·rw[u_.mp hc];constructor<;>omega
  ·exact hx c (List.mem_of_mem_drop hc)
theorem uR (n:Nat)(ns:List Int){k:Int}(h0:0<=k)(h1:k<=1900):∃ m:Int,aB T (n+2) 47 [.lst Ξ (ns.map .int),.int k]=.ok (.int m)/\0<=m/\m<=1000000000:=by
 obtain⟨r,d0,a0,a1⟩:=HF n ns k 6 h0 ⋯ nofun;obtain⟨s,d1,b0,b1⟩:=HF n ns (k+1) 31600 ⋯ ⋯ nofun;obtain⟨t,d2,c0,c1⟩:=HF n ns (k+2) 31600 ⋯ ⋯ nofun;have pg:∀ x:Res D,FE (decide ((0:Int)<=9/\(9:Int)<=1000000/\Int.natAbs 10 < 2 ^ 64)) x=x:=fun _=>rfl;by_cases h:r < 2
 ·have hd:decide (r < 2)=Θ:=F_ h;rcases (show r=0∨r=1 by omega) with rfl|rfl
  ·refine⟨0,?_, nofun, nofun⟩;rw[gx 47 PB 2 3 Ng rfl rfl rfl rfl rfl rfl];unfold Ng;simp![d0,hd,pg]
  ·refine⟨10 ^ Int.toNat 9,?_, nofun, nofun⟩;rw[gx 47 PB 2 3 Ng rfl rfl rfl rfl rfl rfl];unfold Ng;simp![d0,hd,pg]
 ·have hd:decide (r < 2)=Ξ:=S_ h;refine⟨s*31600+t,?_,⋯,⋯⟩;rw[gx 47 PB 2 3 Ng rfl rfl rfl rfl rfl rfl];unfold Ng;simp![d0,hd,d1,d2]
theorem pV {a b:List Nat}(h:Gb a=Gb b):a=b:=by have:=congrArg (fun s:Str=>s.cps.toList) h;simpa[Gb] using this
theorem pW (c:Nat):∀ (k:Nat) (acc:Array Nat),(Τ k (one c).cps).foldl (fun x1 x2=>x1++x2) acc=acc++(Τ k c).toArray
 | 0,acc=>by simp
 | k+1,acc=>by rw[List.replicate_succ,List.foldl_cons,pW c k,List.replicate_succ];show acc++#[c]++(Τ k c).toArray=acc++(c::Τ k c).toArray;rw[Array.append_assoc];exact congrArg (acc++·) (List.append_toArray [c] (Τ k c))
theorem lC (c:Nat){j:Int}(h:1<=j):Txt.mul (one c) j=Gb (Τ j.toNat c):=by
 unfold Txt.mul;split
 ·omega
 ·split
  ·rename_i h1 h2
   rw[lb] at h2;have:j=1:=by simpa using h2
   rw[this];rfl
  ·unfold Gb;rw[pW];simp
noncomputable def tN:List IS:=[(.asg (.nm 5) (.bin .add (.v 5) (.idx (.v 3) (.call 43 [(.v 0),(.bin .add (.bin .add (.v 1) (.c (.int 40))) (.v 6)),(.c (.int 26))]))))]
noncomputable def jc (c:Int):List Int:=(List.range (c - 0).toNat).map fun k=>(0:Int)+((k:Nat):Int)
theorem kn {c x:Int}(h:x∈jc c):0<=x/\x < c:=by obtain⟨k,hk,rfl⟩:=List.mem_map.mp h;have:=Z_.mp hk;omega
theorem zt {c:Int}{f:Int->Str}(hf:∀ x y,0<=x->x < c->0<=y->y < c->f x=f y->x=y):((jc c).map f).Nodup:=by unfold jc;rw[H_];refine List.pairwise_map.mpr (List.Pairwise.imp_of_mem (fun {a b} ha hb hn he=>hn ?_) List.nodup_range);have a1:=Z_.mp ha;have b1:=Z_.mp hb;have:=hf (0+(a:Int)) (0+(b:Int)) ⋯ ⋯ ⋯ ⋯ he;omega
theorem jq (c:Int):(jc c).length=c.toNat:=by unfold jc;rw[i_,aam];omega
theorem Eo:∀ (d:Fin 39),∀ s∈([1,7,25,11]:List Int),(s*((d.val:Int) - 19)) % 26=0->d.val=19:=by decide +kernel
theorem Fi {sp st x y:Int}(UQ:sp∈([1,7,25,11]:List Int))(x0:0<=x)(x1:x < 20)(y0:0<=y)(y1:y < 20)(h:(st+sp*x) % 26=(st+sp*y) % 26):x=y:=by have h1:=Int.emod_eq_emod_iff_emod_sub_eq_zero.mp h;rw[show st+sp*x - (st+sp*y)=sp*(x - y) by rw[Int.mul_sub];omega] at h1;have h2:=Eo ⟨(x - y+19).toNat,⋯⟩ sp UQ (by rw[show (((⟨(x - y+19).toNat,⋯⟩:Fin 39).val:Nat):Int) - 19=x - y by show (((x - y+19).toNat:Nat):Int) - 19=x - y;omega];exact h1);have h3:(x - y+19).toNat=19:=h2;omega
theorem jr (n:Nat)(ns:List Int){k:Int}(k0:0<=k)(k1:k<=1000){c:Int}(c0':0<=c)(c1':c<=20):∃ fs:List Str,aB T (n+2) 44 [.lst Ξ (ns.map .int),.int k,.int c]=.ok (.lst Θ (fs.map .str))/\fs.length=c.toNat/\fs.Nodup/\∀ f∈fs,f.length<=100:=by
 obtain⟨st,d0,a0,a1⟩:=HF n ns k 26 k0 ⋯ nofun;have d1:=cU n ns (k+1) 5 ⋯ ⋯ nofun;generalize dr ns (k+1) 5=q at *;have ab:=jm a0 a1;have rn:cO 0 c=(jc c).map .int:=Ev.jl 0 c;have ln:((jc c).map D.int).length=c.toNat:=by rw[i_,jq]
 cases hq:(q == 0) with
 | true=>
  have fm:cD (cL (aB T (n+1)) (.nm 2) [] (.bin .mul (.idx (.v 0) (.v 1)) (.bin .add (.c (.int 1)) (.v 2))) [Δ (.str "abcdefghijklmnopqrstuvwxyz"),Δ (.int st),Φ]) ((jc c).map .int)=.ok (((jc c).map fun j=>Txt.mul (one (97+st.toNat)) (1+j)).map .str):=by refine Ev.dF .int (fun j=>Txt.mul (one (97+st.toNat)) (1+j)) .str _ fun j hj=>?_;have:=kn hj;have ol:=lb (97+st.toNat);have gd:decide (-16000<=1+j/\1+j<=16000/\(one (97+st.toNat)).length<=1000)=Θ:=F_ (by rw[ol];omega);simp![ab,gd]
  refine⟨(jc c).map fun j=>Txt.mul (one (97+st.toNat)) (1+j),?_,by rw[i_,jq],zt fun x y x0 x1 y0 y1 e=>?_,fun f hf=>?_⟩
  ·rw[gx 44 QW 3 9 Pz rfl rfl rfl rfl rfl rfl];unfold Pz;generalize (jc c).map (fun j=>Txt.mul (one (97+st.toNat)) (1+j))=L at *;simp![d0,d1,hq,rn,ln,fm]
  ·rw[lC _ ⋯,lC _ ⋯] at e;have:=congrArg List.length (pV e);rw[List.length_replicate,List.length_replicate] at this;omega
  ·obtain⟨j,hj,rfl⟩:=List.mem_map.mp hf;have:=kn hj;rw[lC _ ⋯];rw[dG,List.length_replicate];omega
 | false=>
  obtain⟨r,d2,b0,b1⟩:=HF n ns (k+2) 8 ⋯ ⋯ nofun;obtain⟨τ',e,cs,y4,rfl,hl,L4⟩:=Ev.dZ (its:=cO 0 r) (τ:=[Δ (.lst Ξ (ns.map .int)),Δ (.int k),Δ (.int c),Δ (.str "abcdefghijklmnopqrstuvwxyz"),Δ (.int st),Δ (.str (Gb [])),Φ,Φ,Φ]) (body:=Ev.turn (aB T (n+1)) (.nm 6) tN)
   (fun i τ=>∃ (cs:List Nat) (x4:Option D),τ=[Δ (.lst Ξ (ns.map .int)),Δ (.int k),Δ (.int c),Δ (.str "abcdefghijklmnopqrstuvwxyz"),Δ (.int st),Δ (.str (Gb cs)),x4,Φ,Φ]/\cs.length=i/\∀ c∈cs,low c)
   ⟨[],Φ,rfl,rfl,fun c hc=>by simp at hc⟩ (by
    rintro i x τ hx ⟨cs,x4,rfl,hl,UP⟩;have hi:i < r.toNat:=by have:=(x_.mp hx).1;rw[dW] at this;omega
    unfold cO at hx;rw[A_,List.getElem?_range ⋯] at hx;have G9:D.int (0+(i:Nat))=x:=D_ hx;subst G9;obtain⟨q,d1,b0,b1⟩:=HF n ns (k+40+(0+(i:Int))) 26 ⋯ ⋯ nofun
    refine⟨[Δ (.lst Ξ (ns.map .int)),Δ (.int k),Δ (.int c),Δ (.str "abcdefghijklmnopqrstuvwxyz"),Δ (.int st),Δ (.str (Gb (cs++[97+q.toNat]))),Δ (.int (0+(i:Nat))),Φ,Φ],?_,_,_,rfl,by rw[o_,hl];rfl,fun c hc=>by
     rcases v_.mp hc with hc|hc
     ·exact UP c hc
     ·rw[u_.mp hc];constructor<;>omega⟩
    have sa:=fR (a:=cs) (b:=[97+q.toNat]) (by rw[hl,W_];omega);have ab:=jm b0 b1;rw[iy] at ab;unfold tN
    simp![Ev.cy,d1,ab,sa])
  rw[dW] at hl;unfold tN at e;obtain⟨t,d3,g0,g1⟩:=HF n ns (k+3) ((cs.length:Int)+1) ⋯ ⋯ ⋯;obtain⟨u,d4,f0,f1⟩:=HF n ns (k+1) 4 ⋯ ⋯ nofun;obtain⟨sp,Jm,UQ⟩:∃ sp:Int,(∀ o,cH (.lst o [.int 1,.int 7,.int 25,.int 11]) (.int u)=.ok (.int sp))/\sp∈([1,7,25,11]:List Int):=by
   rcases (show u=0∨u=1∨u=2∨u=3 by omega) with rfl|rfl|rfl|rfl
   ·exact⟨1,fun _=>rfl, nofun⟩
   ·exact⟨7,fun _=>rfl, nofun⟩
   ·exact⟨25,fun _=>rfl, nofun⟩
   ·exact⟨11,fun _=>rfl, nofun⟩
  have s1:=nk (cs:=cs) (j:=t) g0 ⋯;have s2:=jn (cs:=cs) (i:=t) g0 ⋯;have l1:(cs.take t.toNat).length<=12:=by rw[L_];omega
  have l2:(cs.drop t.toNat).length<=12:=by rw[aaa];omega
  have sl:=dG cs;have fm:cD (cL (aB T (n+1)) (.nm 5) [] (.bin .add (.bin .add (.sl (.v 0) Φ (Δ (.v 1))) (.idx (.v 2) (.bin .mod (.bin .add (.v 3) (.bin .mul (.v 4) (.v 5))) (.c (.int 26))))) (.sl (.v 0) (Δ (.v 1)) Φ)) [Δ (.str (Gb cs)),Δ (.int t),Δ (.str "abcdefghijklmnopqrstuvwxyz"),Δ (.int st),Δ (.int sp),Φ]) ((jc c).map .int)=.ok (((jc c).map fun j=>Gb (cs.take t.toNat++[97+((st+sp*j) % 26).toNat]++cs.drop t.toNat)).map .str):=by refine Ev.dF .int (fun j=>Gb (cs.take t.toNat++[97+((st+sp*j) % 26).toNat]++cs.drop t.toNat)) .str _ fun j hj=>?_;have:=kn hj;have c0:=Int.emod_nonneg (st+sp*j) (show (26:Int)≠0 by decide);have c1:=Int.emod_lt_of_pos (st+sp*j) (show (0:Int) < 26 by decide);have ab:=jm c0 c1;rw[iy] at ab;have p1:=fR (a:=cs.take t.toNat) (b:=[97+((st+sp*j) % 26).toNat]) (by rw[W_];omega);have p2:=fR (a:=cs.take t.toNat++[97+((st+sp*j) % 26).toNat]) (b:=cs.drop t.toNat) (by rw[o_,W_];omega);simp![s1,s2,sl,ab,p1,p2]
  refine⟨(jc c).map fun j=>Gb (cs.take t.toNat++[97+((st+sp*j) % 26).toNat]++cs.drop t.toNat),?_,by rw[i_,jq],zt fun x y x0 x1 y0 y1 e=>?_,fun f hf=>?_⟩
  ·rw[gx 44 QW 3 9 Pz rfl rfl rfl rfl rfl rfl];unfold Pz;generalize (jc c).map (fun j=>Gb (cs.take t.toNat++[97+((st+sp*j) % 26).toNat]++cs.drop t.toNat))=L at *;simp![uQ,d0,d1,hq,d2,e,sl,d3,d4,Jm,rn,ln,fm]
  ·have h1:=List.append_cancel_right (pV e);have h2:=List.append_cancel_left h1;have h3:97+((st+sp*x) % 26).toNat=97+((st+sp*y) % 26).toNat:=List.head_eq_of_cons_eq h2;have n1:=Int.emod_nonneg (st+sp*x) (show (26:Int)≠0 by decide);have n2:=Int.emod_nonneg (st+sp*y) (show (26:Int)≠0 by decide);exact Fi (st:=st) UQ x0 ⋯ y0 ⋯ ⋯
  ·obtain⟨j,hj,rfl⟩:=List.mem_map.mp hf;have c0:=Int.emod_nonneg (st+sp*j) (show (26:Int)≠0 by decide);have c1:=Int.emod_lt_of_pos (st+sp*j) (show (0:Int) < 26 by decide);rw[dG,o_,o_,W_];omega
theorem gh {g:D->Res (Option D)}{x y:D}{xs ys:List D}(h:g x=.ok (Δ y))(k:cD g xs=.ok ys):cD g (x::xs)=.ok (y::ys):=by show Fu (g x) _=_;rw[h];show Fu (cD g xs) _=_;rw[k];rfl
inductive Tn where
 | i (n:Int)|s (x:Str)
noncomputable def Tn.d:Tn->D
 | .i n=>.int n
 | .s x=>.str x
theorem oC:(Ρ "abcdefghijklmnopqrstuvwxyz0123456789").length=36:=by decide +kernel
theorem fT (x:Str)(lo hi:Option Int):(Txt.slice x lo hi).length<=x.length:=by
 have:=indices_len_le lo hi x.length;unfold Txt.slice;split
 ·exact m_ _
 ·refine O_ ?_ this;show (List.filterMap _ _).toArray.size<=_;rw[E_];exact List.length_filterMap_le ..
theorem pX (x y:Str):(x++y).length=x.length+y.length:=by show (x.cps++y.cps).size=_;rw[Array.size_append];rfl
theorem BG {z:Str}{i:Int}(h0:0<=i)(h1:i < z.length)(hz:z.length<=1000):∃ y:Str,cH (.str z) (.int i)=.ok (.str y)/\y.length=1:=⟨_,Ev.O' h0 h1 ⋯,rfl⟩
theorem iz (n:Nat)(ns:List Int){k:Int}(h0:0<=k)(h1:k<=1900){st:Str}(hs:st.length<=100):∃ x:Str,aB T (n+2) 50 [.lst Ξ (ns.map .int),.int k,.str st]=.ok (.str x)/\x.length<=101:=by
 have d1:=cU n ns k 9 h0 ⋯ nofun;have d2:=cU n ns (k+1) 3 ⋯ ⋯ nofun;have d3:=cU n ns (k+2) 36 ⋯ ⋯ nofun;have b3:=fX ns (k+2) (m:=36) nofun;have c3:=fY ns (k+2) (m:=36) nofun;obtain⟨y,hy,ly⟩:=BG (z:=Ρ "abcdefghijklmnopqrstuvwxyz0123456789") (i:=dr ns (k+2) 36) b3 (by rw[oC];exact c3) (by rw[oC];decide);have l1:=fT st Φ (Δ (dr ns k 9));have l2:=fT (Txt.slice st Φ (Δ (dr ns k 9))) Φ (Δ (-1));obtain⟨a,ha⟩:∃ a,Txt.slice st Φ (Δ (dr ns k 9))=a:=⟨_,rfl⟩
 rw[ha] at l1 l2;obtain⟨b,hb⟩:∃ b,Txt.slice a Φ (Δ (-1))=b:=⟨_,rfl⟩
 rw[hb] at l2;have ab:=pX b y;cases q1:(a == Ρ "") with
 | true=>refine⟨a,?_,⋯⟩;rw[gx 50 PH 3 4 Nh rfl rfl rfl rfl rfl rfl];unfold Nh;simp![d1,q1,ha]
 | false=>
  cases q2:(dr ns (k+1) 3 == 0) with
  | true=>refine⟨b++y,?_,⋯⟩;rw[gx 50 PH 3 4 Nh rfl rfl rfl rfl rfl rfl];unfold Nh;simp![d1,d2,d3,q1,q2,hy,ha,hb]
  | false=>refine⟨a,?_,⋯⟩;rw[gx 50 PH 3 4 Nh rfl rfl rfl rfl rfl rfl];unfold Nh;simp![d1,d2,q1,q2,ha]
theorem hG (n:Nat)(ns:List Int){k:Int}(h0:0<=k)(h1:k<=1900)(c:Int):∃ x:Int,aB T (n+2) 52 [.lst Ξ (ns.map .int),.int k,.int c]=.ok (.int x):=by
 obtain⟨r,d1,b1,c1⟩:=HF n ns k 8 h0 ⋯ nofun;by_cases h:r < 5
 ·have hd:decide (r < 5)=Θ:=F_ h;refine⟨c+r - 2,?_⟩;rw[gx 52 QY 3 4 PJ rfl rfl rfl rfl rfl rfl];unfold PJ;simp![d1,hd]
 ·have hd:decide (r < 5)=Ξ:=S_ h;have hx:cH (.lst Θ [.int 999999999,.int (0 - 999999999),.int 0]) (.int (r - 5))=.ok (.int ([999999999,0 - 999999999,0].getD (r - 5).toNat 0)):=Ev.O9 (o:=Θ) (xs:=[999999999,0 - 999999999,0]) ⋯ (by show r - 5 < 3;omega);refine⟨([999999999,0 - 999999999,0]:List Int).getD (r - 5).toNat 0,?_⟩;rw[gx 52 QY 3 4 PJ rfl rfl rfl rfl rfl rfl];unfold PJ;simp![d1,hd,hx]
theorem uS (n:Nat)(ns:List Int){k:Int}(h0:0<=k)(h1:k<=1800){st:Str}(hs:st.length<=100)(c:Int):∃ t:Tn,aB T (n+3) 53 [.lst Ξ (ns.map .int),.int k,.str st,.int c]=.ok t.d:=by
 have d1:=cU (n+1) ns k 2 h0 ⋯ nofun;obtain⟨x,ex⟩:=hG n ns (k:=k+1) ⋯ ⋯ c;obtain⟨y,ey,_⟩:=iz n ns (k:=k+2) ⋯ ⋯ hs;cases q:(dr ns k 2 == 0) with
 | true=>refine⟨.i x,?_⟩;unfold Tn.d;rw[gx 53 QZ 4 4 PK rfl rfl rfl rfl rfl rfl];unfold PK;simp![d1,q,ex]
 | false=>refine⟨.s y,?_⟩;unfold Tn.d;rw[gx 53 QZ 4 4 PK rfl rfl rfl rfl rfl rfl];unfold PK;simp![d1,q,ey]
theorem ko:∀ (cs:List Nat) (acc:Array Nat),(cs.map one).foldl (fun acc p=>acc++(Ρ "").cps++p.cps) acc=acc++cs.toArray
 | [],acc=>by simp
 | c::cs,acc=>by
  have e:(Ρ "").cps = #[]:=by decide +kernel
  rw[b_,List.foldl_cons,ko cs,e];show acc++#[]++#[c]++cs.toArray=_;simp
theorem join_one (cs:List Nat):Txt.join "" (cs.map one)=Gb cs:=by
 show (⟨((cs.map one).drop 1).foldl (fun acc p=>acc++(Ρ "").cps++p.cps) ((cs.map one).headD Str.empty).cps⟩:Str)=_;cases cs with
 | nil=>rfl
 | cons c cs=>rw[b_,List.drop_succ_cons,List.drop_zero,List.headD_cons,ko];unfold Gb one;simp
theorem xw (cs:List Nat):((cs.map one).map (fun y:Str=>y.length)).sum=cs.length:=by
 induction cs with
 | nil=>rfl
 | cons c cs ih=>rw[b_,b_,List.sum_cons,ih,List.length_cons,lb];omega
theorem pY {o:Bool}{cs:List Nat}(h:cs.length<=1000):iR .join (.str "") [.lst o ((cs.map one).map .str)]=.ok (.str (Gb cs)):=by
 have e:(Ρ "").length=0:=by decide +kernel
 rw[Ev.xj (by rw[xw,i_,e];omega),join_one]
theorem kq (n:Nat)(ns:List Int){k:Int}(h0:0<=k)(h1:k<=1900):∃ c:Int,aB T (n+2) 51 [.lst Ξ (ns.map .int),.int k]=.ok (.int c):=by
 have d1:=cU n ns k 20000 h0 ⋯ nofun;have d2:=cU n ns (k+1) 100000 ⋯ ⋯ nofun;have b1:=fX ns k (m:=20000) nofun;have c1:=fY ns k (m:=20000) nofun;have hp:HM .pow (.int 10) (.int 9)=.ok (.int 1000000000):=by kernel_rfl
 generalize dr ns k 20000=a,dr ns (k+1) 100000=b at *;refine⟨if 999999990 < (if 0 - 999999990 > a*100000+b - 1000000000 then 0 - 999999990 else a*100000+b - 1000000000) then 999999990 else (if 0 - 999999990 > a*100000+b - 1000000000 then 0 - 999999990 else a*100000+b - 1000000000),?_⟩;rw[gx 51 Uq 2 3 Uo rfl rfl rfl rfl rfl rfl];unfold Uo;simp![d1,d2,hp]
theorem nr {g:D->Res (Option D)}:∀ (its:List D),(∀ x∈its,∃ y:Nat,g x=.ok (Δ (.str (one y))))->∃ ys:List Nat,cD g its=.ok ((ys.map one).map .str)/\ys.length=its.length
 | [],_=>⟨[],rfl,rfl⟩
 | x::its,h=>by obtain⟨y,hy⟩:=h x (by simp);obtain⟨ys,e,hl⟩:=nr its fun z hz=>h z (I_ _ hz);exact⟨y::ys,gh hy e,by rw[List.length_cons,List.length_cons,hl]⟩
theorem hJ {g:D->Res (Option D)}:∀ (its:List D),(∀ x∈its,∃ y:Str,g x=.ok (Δ (.str y)))->∃ ys:List Str,cD g its=.ok (ys.map .str)/\ys.length=its.length
 | [],_=>⟨[],rfl,rfl⟩
 | x::its,h=>by obtain⟨y,hy⟩:=h x (by simp);obtain⟨ys,e,hl⟩:=hJ its fun z hz=>h z (I_ _ hz);exact⟨y::ys,gh hy e,by rw[List.length_cons,List.length_cons,hl]⟩
theorem iA {a:Int}{x:D}(h:x∈cO 0 a):∃ j:Int,x=.int j/\0<=j/\j < a:=by unfold cO at h;obtain⟨k,hk,rfl⟩:=List.mem_map.mp h;rw[Z_] at hk;exact⟨0+(k:Int),rfl,⋯,⋯⟩
theorem pZ (n:Nat)(ns:List Int){k:Int}(h0:0<=k)(h1:k<=1900){z:Str}(z0:0 < z.length)(z1:z.length<=100) :
  ∃ ys:List Nat,cD (cL (aB T (n+1)) (.nm 3) [] (.idx (.v 0) (.call 43 [(.v 1),(.bin .add (.bin .add (.v 2) (.c (.int 2))) (.v 3)),(.bi .len [(.v 0)])])) [Δ (.str z),Δ (.lst Ξ (ns.map .int)),Δ (.int k),Φ]) (cO 0 12)=.ok ((ys.map one).map .str)/\ys.length=12:=by
 obtain⟨ys,e,hl⟩:=nr (g:=cL (aB T (n+1)) (.nm 3) [] (.idx (.v 0) (.call 43 [(.v 1),(.bin .add (.bin .add (.v 2) (.c (.int 2))) (.v 3)),(.bi .len [(.v 0)])])) [Δ (.str z),Δ (.lst Ξ (ns.map .int)),Δ (.int k),Φ]) (cO 0 12) (by
  intro x hx;obtain⟨j,rfl,j0,j1⟩:=iA hx;have d:=cU n ns (k+2+j) (z.length:Int) ⋯ ⋯ ⋯;have b:=fX ns (k+2+j) (m:=(z.length:Int)) ⋯;have c:=fY ns (k+2+j) (m:=(z.length:Int)) ⋯;have hy:=Ev.O' (z:=z) b c ⋯;refine⟨z.cps.toList.getD (dr ns (k+2+j) (z.length:Int)).toNat 0,?_⟩;unfold one
  simp![Ev.cy,d,hy])
 exact⟨ys,e,hl.trans (by rw[dW];rfl)⟩
noncomputable def sg:Str:=Ρ "abcdefghijklmnopqrstuvwxyz0123456789"
theorem BH:∀ d:Fin 34,0 < (Txt.slice (Txt.slice sg (Δ ((d:Nat):Int)) Φ) Φ (Δ 2)).length:=by decide +kernel
theorem iB:sg.length=36:=oC
theorem p4 (n:Nat)(ns:List Int){k:Int}(h0:0<=k)(h1:k<=1800):∃ x:Str,aB T (n+2) 49 [.lst Ξ (ns.map .int),.int k]=.ok (.str x)/\x.length<=100:=by
 have d1:=cU n ns k 2 h0 ⋯ nofun;have d2:=cU n ns (k+1) 34 ⋯ ⋯ nofun;have b2:=fX ns (k+1) (m:=34) nofun;have c2:=fY ns (k+1) (m:=34) nofun;have lr:(cO 0 12).length=12:=by rw[dW];rfl
 cases q:(dr ns k 2 == 0) with
 | false=>obtain⟨ys,e,hl⟩:=pZ n ns h0 ⋯ (z:=sg) (by rw[iB];decide) (by rw[iB];decide);have je:=pY (o:=Θ) (cs:=ys) ⋯;refine⟨Gb ys,?_,by rw[dG];omega⟩;unfold sg at e;rw[gx 49 QX 2 4 PF rfl rfl rfl rfl rfl rfl];unfold PF;simp![d1,q,e,je,lr]
 | true=>obtain⟨j,hj⟩:=Int.eq_ofNat_of_zero_le b2;have hz:=BH ⟨j,⋯⟩;have l1:=fT sg (Δ ((j:Nat):Int)) Φ;have l2:=fT (Txt.slice sg (Δ ((j:Nat):Int)) Φ) Φ (Δ 2);rw[iB] at l1;have hz':0 < (Txt.slice (Txt.slice sg (Δ ((j:Nat):Int)) Φ) Φ (Δ 2)).length:=hz;obtain⟨ys,e,hl⟩:=pZ n ns h0 ⋯ (z:=Txt.slice (Txt.slice sg (Δ ((j:Nat):Int)) Φ) Φ (Δ 2)) hz' ⋯;have je:=pY (o:=Θ) (cs:=ys) ⋯;refine⟨Gb ys,?_,by rw[dG];omega⟩;rw[hj] at d2;have sl:=iB;unfold sg at e l1 l2 sl;rw[gx 49 QX 2 4 PF rfl rfl rfl rfl rfl rfl];unfold PF;simp![d1,d2,q,e,je,sl,lr]
structure Cn where
 m:Str
 w:Str
 ts:List Tn
noncomputable def Cn.d (c:Cn):D:=.tup [.str c.m,.str c.w,.lst Ξ (c.ts.map Tn.d)]
noncomputable def Xc:Tn->Tn->Bool
 | .i a,.i b=>a == b
 | .s a,.s b=>a == b
 | _,_=>Ξ
noncomputable def mD:Option Tn->D
 | none=>.F4
 | some t=>t.d
noncomputable def PX (x:Option Tn)(ts:List Tn):Bool:=match x with
 | none=>Ξ
 | some t=>ts.any fun u=>Xc u t
theorem Fj (u:Tn)(x:Option Tn):G0 40 u.d (mD x)=.ok (match x with|none=>Ξ|some t=>Xc u t):=by
 rcases x with _|t
 ·cases u<;>rfl
 ·cases u<;>cases t<;>rfl
theorem uT (x:Option Tn):∀ ts:List Tn,Hk (mD x) (ts.map Tn.d)=.ok (PX x ts)
 | []=>by cases x<;>rfl
 | u::ts=>by show Fu (G0 40 u.d (mD x)) (fun a=>Fu (Hk (mD x) (ts.map Tn.d)) fun b=>.ok (a||b))=_;rw[Fj,uT x ts];cases x<;>rfl
theorem Fm (o:Bool)(x:Option Tn)(ts:List Tn):G7 .Lb (mD x) (.lst o (ts.map Tn.d))=.ok (PX x ts):=by
 have:=uT x ts;rcases x with _|t
 ·exact this
 ·cases t<;>exact this
theorem Ep (o:Bool)(x:Option Tn)(ts:List Tn):G7 .Ma (mD x) (.lst o (ts.map Tn.d))=.ok (!PX x ts):=by
 have:=uT x ts;have e:G7 .Ma (mD x) (.lst o (ts.map Tn.d))=Fu (Hk (mD x) (ts.map Tn.d)) fun r=>.ok !r:=by
  rcases x with _|t
  ·rfl
  ·cases t<;>rfl
 rw[e,this];rfl
theorem Fo (x:Option Tn):G7 .LA (mD x) .F4=.ok (!x.isSome):=by rcases x with _|t;rfl;cases t<;>rfl
theorem Er (x:Option Tn):G7 .JR (mD x) .F4=.ok x.isSome:=by rcases x with _|t;rfl;cases t<;>rfl
noncomputable def NQ (y:Str):Tn->Bool
 | .s z=>Txt.startswith y z
 | _=>Ξ
noncomputable def Fp (x:Option Tn)(ts:List Tn):Bool:=match x with
 | some (.s y)=>ts.any (NQ y)
 | _=>Ξ
noncomputable def leB (x:Option Tn)(ts:List Tn):Bool:=match x,ts with
 | some (.i a),.i b::_=>decide (b<=a)
 | _,_=>Ξ
noncomputable def UR (x:Option Tn)(ts:List Tn):Bool:=match x,ts with
 | some (.i a),.i b::_=>decide (a<=b)
 | _,_=>Ξ
noncomputable def ic (w:Str)(ts:List Tn)(x:Option Tn):Bool:=
 if (w == Ρ "is")=Θ then PX x ts else if (w == Ρ "not")=Θ then !PX x ts else if (w == Ρ "begins")=Θ then Fp x ts
 else if (w == Ρ "least")=Θ then leB x ts else if (w == Ρ "most")=Θ then UR x ts else if (w == Ρ "has")=Θ then x.isSome else !x.isSome
structure Wf (c:Cn):Prop where
 len:c.ts.length<=100
 beg:(c.w == Ρ "begins")=Θ->∀ t∈c.ts,∃ z,t=.s z
 lm:(c.w == Ρ "least")=Θ∨(c.w == Ρ "most")=Θ->∃ z r,c.ts=.i z::r
theorem uU (n:Nat)(x:Option Tn):aB T (n+1) 24 [mD x]=.ok (.bl (match x with|some (.i _)=>Θ|_=>Ξ)):=by
 rcases x with _|t
 ·rfl
 ·cases t with
  | i a=>rfl
  | s a=>rfl
theorem Es (x:Option Tn):er (mD x)=mD x:=by rcases x with _|t;rfl;cases t<;>rfl
theorem uV (ts:List Tn):ck (ts.map Tn.d)=Θ:=by rw[dg,List.all_map];exact V_.mpr fun t _=>by cases t<;>rfl
theorem uW (ts:List Tn):FA (ts.map Tn.d)=ts.map Tn.d:=eh (uV ts)
theorem uX (cl:Nat->List D->Res D)(y:Str):∀ ts:List Tn,(∀ t∈ts,∃ z,t=.s z)->cD (cL cl (.nm 1) [] (.Kf .starts (.v 0) [(.v 1)]) [Δ (.str y),Φ]) (ts.map Tn.d)=.ok ((ts.map (NQ y)).map .bl)
 | [],_=>rfl
 | t::ts,h=>by obtain⟨z,rfl⟩:=h _ (.head _);refine gh ?_ (uX cl y ts fun u hu=>h u (.tail _ hu));show cL cl (.nm 1) [] (.Kf .starts (.v 0) [(.v 1)]) [Δ (.str y),Φ] (.str z)=.ok (Δ (.bl (Txt.startswith y z)));simp![Ev.cy]
theorem BI (y:Str)(ts:List Tn):(ts.map (NQ y)).any id=ts.any (NQ y):=by rw[List.any_map];rfl
theorem kr {cl:Nat->List D->Res D}{c:IR}{s:IS}{r:List IS}{τ:Ev}{b B1 B2:Bool}(hc:Fz cl c τ=.ok (.bl b))(he:b=Θ->G3 cl s τ=.ok (.rt (.bl B1)))(hr:b=Ξ->cI cl r τ=.ok (.rt (.bl B2))):cI cl (.Gi c [s] []::r) τ=.ok (.rt (.bl (if b=Θ then B1 else B2))):=by
 cases b with
 | true=>have he:=he rfl;rw[f_ rfl];simp![hc,he]
 | false=>have hr:=hr rfl;rw[d_ p_];simp![hc,hr]
theorem sk {cl:Nat->List D->Res D}{c:IR}{a r:List IS}{τ:Ev}(h:Fz cl c τ=.ok (.bl Ξ)):cI cl (.Gi c a []::r) τ=cI cl r τ:=by simp![h]
theorem LS {cl:Nat->List D->Res D}{c:IR}{a r:List IS}{τ τ':Ev}(h:Fz cl c τ=.ok (.bl Θ))(e:cI cl a τ=.ok (.nx τ')):cI cl (.Gi c a []::r) τ=cI cl r τ':=by simp![h,e]
theorem nt {cl:Nat->List D->Res D}{s:IS}{τ F:Ev}(h:G3 cl s τ=.ok (.nx F)):cI cl [s] τ=.ok (.nx F):=by simp![h]
theorem zu {cl:Nat->List D->Res D}{i j:Nat}{τ:Ev}{x:Option Tn}{ts:List Tn}(hx:cp τ i=Δ (mD x))(hy:cp τ j=Δ (.lst Ξ (ts.map Tn.d)))(h:∃ z r,ts=.i z::r) :
  (x.bind (fun t=>match t with|.i a=>Δ a|_=>Φ)).isSome=Θ->Fz cl (.cmp .ge (.v i) (.idx (.v j) (.c (.int 0)))) τ=.ok (.bl (leB x ts))/\Fz cl (.cmp .le (.v i) (.idx (.v j) (.c (.int 0)))) τ=.ok (.bl (UR x ts)):=by
 intro hs;obtain⟨z,r,rfl⟩:=h;have i0:cH (.lst Ξ ((Tn.i z::r).map Tn.d)) (.int 0)=.ok (.int z):=by rw[Ev.QE,Ev.k9 .F4 nofun (by rw[b_,List.length_cons];omega)];rfl
 rcases x with _|(a|a)
 ·cases hs
 ·have hx:cp τ i=Δ (.int a):=hx;generalize (Tn.i z::r).map Tn.d=TS at *;constructor
  ·show _=Except.ok (D.bl (decide (z<=a)));simp![hx,hy,i0]
  ·show _=Except.ok (D.bl (decide (a<=z)));simp![hx,hy,i0]
 ·cases hs
theorem oE (n:Nat)(c:Cn)(wf:Wf c)(x:Option Tn):aB T (n+2) 33 [.str c.w,.lst Ξ (c.ts.map Tn.d),mD x]=.ok (.bl (ic c.w c.ts x)):=by
 obtain⟨cm,w,ts⟩:=c;have wl:ts.length<=100:=wf.len;show aB T (n+2) 33 [.str w,.lst Ξ (ts.map Tn.d),mD x]=.ok (.bl (ic w ts x));have e1:=Fm Ξ x ts;have e2:=Ep Ξ x ts;have e3:=Fo x;have e4:=Er x;have ex:=Es x;have wh:=uU n x;have H:cI (aB T (n+1)) Pr [Δ (.str w),Δ (.lst Ξ (ts.map Tn.d)),Δ (mD x)]=.ok (.rt (.bl (ic w ts x))):=by
  unfold Pr ic;refine kr rfl (fun _=>?_) fun _=>kr rfl (fun _=>?_) fun _=>kr rfl (fun q=>?_) fun _=>kr rfl (fun q=>?_) fun _=>kr rfl (fun q=>?_) fun _=>kr rfl (fun _=>?_) fun _=>?_
  ·rcases x with _|t
   ·rfl
   ·generalize mD (Δ t)=X,ts.map Tn.d=TS at *;simp![e4,e1,Option.isSome_some]
  ·rcases x with _|t
   ·rfl
   ·generalize mD (Δ t)=X,ts.map Tn.d=TS at *;simp![e3,e2,Option.isSome_some]
  ·rcases x with _|(a|a)
   ·rfl
   ·rfl
   ·show _=Except.ok (Fl.rt (D.bl (ts.any (NQ a))));have f:=uX (aB T (n+1)) a ts (wf.beg q);have ai:=BI a ts;have lt:(ts.map Tn.d).length=ts.length:=i_ _;show G3 _ _ [Δ (.str w),Δ (.lst Ξ (ts.map Tn.d)),Δ (.str a)]=_;generalize ts.map Tn.d=TS,ts.map (NQ a)=BS at *;simp![f,ai,lt]
  ·rcases x with _|(a|a)
   ·have wh:aB T (n+1) 24 [.F4]=.ok (.bl Ξ):=wh;show G3 _ _ [Δ (.str w),Δ (.lst Ξ (ts.map Tn.d)),Δ .F4]=Except.ok (Fl.rt (D.bl Ξ));generalize ts.map Tn.d=TS at *;simp![wh]
   ·have wh:aB T (n+1) 24 [.int a]=.ok (.bl Θ):=wh;have l:=(zu (cl:=aB T (n+1)) (i:=2) (j:=1) (τ:=[Δ (.str w),Δ (.lst Ξ (ts.map Tn.d)),Δ (.int a)]) (x:=Δ (.i a)) rfl rfl (wf.lm (.inl q)) rfl).1;show G3 _ _ [Δ (.str w),Δ (.lst Ξ (ts.map Tn.d)),Δ (.int a)]=_;generalize leB (Δ (.i a)) ts=L,ts.map Tn.d=TS,IR.cmp .ge (.v 2) (.idx (.v 1) (.c (.int 0)))=K at *;simp![wh,l]
   ·have wh:aB T (n+1) 24 [.str a]=.ok (.bl Ξ):=wh;show G3 _ _ [Δ (.str w),Δ (.lst Ξ (ts.map Tn.d)),Δ (.str a)]=Except.ok (Fl.rt (D.bl Ξ));generalize ts.map Tn.d=TS at *;simp![wh]
  ·rcases x with _|(a|a)
   ·have wh:aB T (n+1) 24 [.F4]=.ok (.bl Ξ):=wh;show G3 _ _ [Δ (.str w),Δ (.lst Ξ (ts.map Tn.d)),Δ .F4]=Except.ok (Fl.rt (D.bl Ξ));generalize ts.map Tn.d=TS at *;simp![wh]
   ·have wh:aB T (n+1) 24 [.int a]=.ok (.bl Θ):=wh;have l:=(zu (cl:=aB T (n+1)) (i:=2) (j:=1) (τ:=[Δ (.str w),Δ (.lst Ξ (ts.map Tn.d)),Δ (.int a)]) (x:=Δ (.i a)) rfl rfl (wf.lm (.inr q)) rfl).2;show G3 _ _ [Δ (.str w),Δ (.lst Ξ (ts.map Tn.d)),Δ (.int a)]=_;generalize UR (Δ (.i a)) ts=L,ts.map Tn.d=TS,IR.cmp .le (.v 2) (.idx (.v 1) (.c (.int 0)))=K at *;simp![wh,l]
   ·have wh:aB T (n+1) 24 [.str a]=.ok (.bl Ξ):=wh;show G3 _ _ [Δ (.str w),Δ (.lst Ξ (ts.map Tn.d)),Δ (.str a)]=Except.ok (Fl.rt (D.bl Ξ));generalize ts.map Tn.d=TS at *;simp![wh]
  ·generalize mD x=X,ts.map Tn.d=TS at *;simp![e4]
  ·generalize mD x=X,ts.map Tn.d=TS at *;simp![e3]
 rw[gx 33 T' 3 3 Pr rfl rfl rfl rfl rfl rfl];generalize ic w ts x=HB,mD x=X,ts.map Tn.d=TS,Pr=bb at *;simp![H]
noncomputable def G5 (p:Str×Tn):D:=.tup [.str p.1,p.2.d]
noncomputable def jF (ms:List (Str×Tn))(x:Str):Option Tn:=(ms.find? fun p=>p.1 == x).map (·.2)
theorem zv (t:Tn):er t.d=t.d:=by cases t<;>rfl
theorem Et (t:Tn):cq t.d=Θ:=by cases t<;>rfl
theorem lD (ms:List (Str×Tn)):FA (ms.map G5)=ms.map G5:=by rw[cA,H_];exact aah fun p _=>by show D.tup [.str p.1,er p.2.d]=_;rw[zv];rfl
noncomputable def tK:List IS:=[(.Gi (.cmp .eq (.v 2) (.v 1)) [(.ret (.v 3))] [])]
theorem uY (cl:Nat->List D->Res D)(x:Str)(a:Option D):∀ (ms:List (Str×Tn)) (b c:Option D),
  (∀ t,jF ms x=Δ t->forM (Ev.turn cl (.tp [(.nm 2),(.nm 3)]) tK) (ms.map G5) [a,Δ (.str x),b,c]=.ok (.rt t.d))/\
  (jF ms x=Φ->∃ b' c',forM (Ev.turn cl (.tp [(.nm 2),(.nm 3)]) tK) (ms.map G5) [a,Δ (.str x),b,c]=.ok (.nx [a,Δ (.str x),b',c']))
 | [],b,c=>⟨fun t h=>(by cases h),fun _=>⟨b,c,rfl⟩⟩
 | p::ms,b,c=>by
  have et:Ev.turn cl (.tp [(.nm 2),(.nm 3)]) tK (G5 p) [a,Δ (.str x),b,c]=if (p.1 == x)=Θ then .ok (.rt p.2.d) else .ok (.nx [a,Δ (.str x),Δ (.str p.1),Δ p.2.d]):=by unfold tK G5;generalize p.2.d=E;cases h:(p.1 == x)<;>simp![Ev.cy,h]
  rw[b_,Ev.fD,et];unfold jF;rw[List.find?_cons];cases h:(p.1 == x) with
  | true=>exact⟨fun t z=>(by cases z;rfl),fun z=>(by cases z)⟩
  | false=>exact uY cl x a ms (Δ (.str p.1)) (Δ p.2.d)
theorem xx (n:Nat)(ms:List (Str×Tn))(x:Str):aB T (n+1) 32 [.lst Ξ (ms.map G5),.str x]=.ok (mD (jF ms x)):=by
 have h:=uY (aB T n) x (Δ (.lst Ξ (ms.map G5))) ms Φ Φ;have em:=lD ms;unfold tK at h;cases hm:jF ms x with
 | some t=>have e:=h.1 t hm;show _=Except.ok t.d;rw[gx 32 QR 2 4 Pq rfl rfl rfl rfl rfl rfl];unfold Pq;generalize ms.map G5=MS,t.d=TD at *;simp![em,e]
 | none=>obtain⟨b,c,e⟩:=h.2 hm;show _=Except.ok D.F4;rw[gx 32 QR 2 4 Pq rfl rfl rfl rfl rfl rfl];unfold Pq;generalize ms.map G5=MS at *;simp![em,e]
theorem ku (c:Cn):er c.d=c.d:=by show D.tup [.str c.m,.str c.w,.lst Ξ (FA (c.ts.map Tn.d))]=_;rw[uW];rfl
noncomputable def GR (r:List Cn):D:=.lst Ξ (r.map Cn.d)
theorem hU (r:List Cn):FA (r.map Cn.d)=r.map Cn.d:=by rw[cA,H_];exact aah fun c _=>ku c
theorem nu (r:List Cn):er (GR r)=GR r:=by show D.lst Ξ (FA (r.map Cn.d))=_;rw[hU];rfl
theorem lE (rs:List (List Cn)):FA (rs.map GR)=rs.map GR:=by rw[cA,H_];exact aah fun c _=>nu c
structure Gp where
 nm:Str
 rows:List (List Cn)
noncomputable def Gp.d (g:Gp):D:=.tup [.str g.nm,.lst Ξ (g.rows.map GR)]
theorem Eu (g:Gp):er g.d=g.d:=by show D.tup [.str g.nm,.lst Ξ (FA (g.rows.map GR))]=_;rw[lE];rfl
theorem lF (gs:List Gp):FA (gs.map Gp.d)=gs.map Gp.d:=by rw[cA,H_];exact aah fun c _=>Eu c
noncomputable def J5 (w:Str):Bool:=(w == Ρ "in")||(w == Ρ "out")
theorem uZ (n:Nat){c:Cn}(wf:Wf c)(hi:J5 c.w=Ξ){g:D}(hg:er g=g)(ms:List (Str×Tn)):aB T (n+3) 34 [g,c.d,.lst Ξ (ms.map G5)]=.ok (.bl (ic c.w c.ts (jF ms c.m))):=by have e1:=xx (n+1) ms c.m;have e2:=oE n c wf (jF ms c.m);have ex:=Es (jF ms c.m);have em:=lD ms;have et:=uW c.ts;obtain⟨cm,w,ts⟩:=c;have hi:((w == Ρ "in")||(w == Ρ "out"))=Ξ:=hi;rw[Bool.or_eq_false_iff] at hi;obtain⟨q1,q2⟩:=hi;show aB T (n+3) 34 [g,.tup [.str cm,.str w,.lst Ξ (ts.map Tn.d)],.lst Ξ (ms.map G5)]=_;generalize jF ms cm=O at *;generalize ic w ts O=B,mD O=X,ms.map G5=MS,ts.map Tn.d=TS at *;rw[gx 34 Pt 3 5 Nf rfl rfl rfl rfl rfl rfl];unfold Nf;simp![q1,q2,hg,em,et,ex,e1,e2]
noncomputable def tC:List IS:=[(.Gi (.GQ (.call 34 [(.v 0),(.v 3),(.v 2)])) [(.ret (.c (.bl Ξ)))] [])]
theorem u6 (n:Nat){g m:D}(hg:er g=g)(hm:er m=m)(p:Cn->Bool)(a:Option D):∀ (cs:List Cn) (b:Option D),(∀ c∈cs,aB T n 34 [g,c.d,m]=.ok (.bl (p c)))->
  (cs.all p=Θ->∃ b',forM (Ev.turn (aB T n) (.nm 3) tC) (cs.map Cn.d) [Δ g,a,Δ m,b]=.ok (.nx [Δ g,a,Δ m,b']))/\
  (cs.all p=Ξ->forM (Ev.turn (aB T n) (.nm 3) tC) (cs.map Cn.d) [Δ g,a,Δ m,b]=.ok (.rt (.bl Ξ)))
 | [],b,_=>⟨fun _=>⟨b,rfl⟩,fun h=>(by cases h)⟩
 | c::cs,b,h=>by
  have e:=h c (.head _);have ec:=ku c;have et:Ev.turn (aB T n) (.nm 3) tC c.d [Δ g,a,Δ m,b]=if p c=Θ then .ok (.nx [Δ g,a,Δ m,Δ c.d]) else .ok (.rt (.bl Ξ)):=by unfold tC;generalize c.d=CD at *;cases hp:p c<;>rw[hp] at e<;>simp![Ev.cy,hg,hm,ec,e]
  rw[b_,Ev.fD,et,List.all_cons];cases hp:p c with
  | true=>exact u6 n hg hm p a cs (Δ c.d) fun d hd=>h d (.tail _ hd)
  | false=>exact⟨fun h=>(by cases h),fun _=>rfl⟩
theorem p5 (n:Nat){g m:D}(hg:er g=g)(hm:er m=m)(p:Cn->Bool)(cs:List Cn)(h:∀ c∈cs,aB T n 34 [g,c.d,m]=.ok (.bl (p c))):aB T (n+1) 35 [g,GR cs,m]=.ok (.bl (cs.all p)):=by
 have l:=u6 n hg hm p (Δ (GR cs)) cs Φ h;have ec:=hU cs;unfold GR at l ⊢;cases ha:cs.all p with
 | true=>obtain⟨b,e⟩:=l.1 ha;unfold tC at e;rw[gx 35 QS 3 4 Pu rfl rfl rfl rfl rfl rfl];unfold Pu;generalize cs.map Cn.d=CS at *;simp![ec,e]
 | false=>have e:=l.2 ha;unfold tC at e;rw[gx 35 QS 3 4 Pu rfl rfl rfl rfl rfl rfl];unfold Pu;generalize cs.map Cn.d=CS at *;simp![ec,e]
noncomputable def tR:List IS:=[(.Gi (.call 35 [(.v 0),(.v 3),(.v 2)]) [(.ret (.c (.bl Θ)))] [])]
theorem u7 (n:Nat){g m:D}(hg:er g=g)(hm:er m=m)(p:Cn->Bool)(a:Option D):∀ (rs:List (List Cn)) (b:Option D),(∀ r∈rs,aB T n 35 [g,GR r,m]=.ok (.bl (r.all p)))->
  (rs.any (·.all p)=Ξ->∃ b',forM (Ev.turn (aB T n) (.nm 3) tR) (rs.map GR) [Δ g,a,Δ m,b]=.ok (.nx [Δ g,a,Δ m,b']))/\
  (rs.any (·.all p)=Θ->forM (Ev.turn (aB T n) (.nm 3) tR) (rs.map GR) [Δ g,a,Δ m,b]=.ok (.rt (.bl Θ)))
 | [],b,_=>⟨fun _=>⟨b,rfl⟩,fun h=>(by cases h)⟩
 | r::rs,b,h=>by
  have e:=h r (.head _);have ec:=nu r;have et:Ev.turn (aB T n) (.nm 3) tR (GR r) [Δ g,a,Δ m,b]=if r.all p=Θ then .ok (.rt (.bl Θ)) else .ok (.nx [Δ g,a,Δ m,Δ (GR r)]):=by unfold tR;generalize GR r=CD at *;cases hp:r.all p<;>rw[hp] at e<;>simp![Ev.cy,hg,hm,ec,e]
  rw[b_,Ev.fD,et,List.any_cons];cases hp:r.all p with
  | false=>exact u7 n hg hm p a rs (Δ (GR r)) fun d hd=>h d (.tail _ hd)
  | true=>exact⟨fun h=>(by cases h),fun _=>rfl⟩
theorem BJ (n:Nat){g m:D}(hg:er g=g)(hm:er m=m)(p:Cn->Bool)(rs:List (List Cn))(h:∀ r∈rs,aB T n 35 [g,GR r,m]=.ok (.bl (r.all p))):aB T (n+1) 36 [g,.lst Ξ (rs.map GR),m]=.ok (.bl (rs.any (·.all p))):=by
 have l:=u7 n hg hm p (Δ (.lst Ξ (rs.map GR))) rs Φ h;have ec:=lE rs;cases ha:rs.any (·.all p) with
 | false=>obtain⟨b,e⟩:=l.1 ha;unfold tR at e;rw[gx 36 QT 3 4 Pw rfl rfl rfl rfl rfl rfl];unfold Pw;generalize rs.map GR=CS at *;simp![ec,e]
 | true=>have e:=l.2 ha;unfold tR at e;rw[gx 36 QT 3 4 Pw rfl rfl rfl rfl rfl rfl];unfold Pw;generalize rs.map GR=CS at *;simp![ec,e]
noncomputable def lJ (p:Cn->Bool)(gs:List Gp)(x:Str):Bool:=match gs.find? fun g=>g.nm == x with
 | some g=>g.rows.any (·.all p)
 | none=>Ξ
noncomputable def tG:List IS:=[(.Gi (.cmp .eq (.v 3) (.v 1)) [(.ret (.call 36 [(.v 0),(.v 4),(.v 2)]))] [])]
theorem u9 (n:Nat){G m:D}(hg:er G=G)(hm:er m=m)(p:Cn->Bool)(x:Str):∀ (gs:List Gp) (b c:Option D),(∀ g∈gs,aB T n 36 [G,.lst Ξ (g.rows.map GR),m]=.ok (.bl (g.rows.any (·.all p))))->
  (∀ g,gs.find? (fun g=>g.nm == x)=Δ g->forM (Ev.turn (aB T n) (.tp [(.nm 3),(.nm 4)]) tG) (gs.map Gp.d) [Δ G,Δ (.str x),Δ m,b,c]=.ok (.rt (.bl (g.rows.any (·.all p)))))/\
  (gs.find? (fun g=>g.nm == x)=Φ->∃ b' c',forM (Ev.turn (aB T n) (.tp [(.nm 3),(.nm 4)]) tG) (gs.map Gp.d) [Δ G,Δ (.str x),Δ m,b,c]=.ok (.nx [Δ G,Δ (.str x),Δ m,b',c']))
 | [],b,c,_=>⟨fun g h=>(by cases h),fun _=>⟨b,c,rfl⟩⟩
 | g::gs,b,c,h=>by
  have e:=h g (.head _);have ec:=lE g.rows;have et:Ev.turn (aB T n) (.tp [(.nm 3),(.nm 4)]) tG g.d [Δ G,Δ (.str x),Δ m,b,c]=if (g.nm == x)=Θ then .ok (.rt (.bl (g.rows.any (·.all p)))) else .ok (.nx [Δ G,Δ (.str x),Δ m,Δ (.str g.nm),Δ (.lst Ξ (g.rows.map GR))]):=by unfold tG Gp.d;generalize g.rows.map GR=CD at *;cases hp:(g.nm == x)<;>simp![Ev.cy,hg,hm,ec,e,hp]
  rw[b_,Ev.fD,et,List.find?_cons];cases hp:(g.nm == x) with
  | true=>exact⟨fun q z=>(by cases z;rfl),fun z=>(by cases z)⟩
  | false=>exact u9 n hg hm p x gs _ _ fun d hd=>h d (.tail _ hd)
theorem xA (n:Nat){m:D}(hm:er m=m)(p:Cn->Bool)(x:Str)(gs:List Gp)(h:∀ g∈gs,aB T n 36 [.lst Ξ (gs.map Gp.d),.lst Ξ (g.rows.map GR),m]=.ok (.bl (g.rows.any (·.all p)))):aB T (n+1) 37 [.lst Ξ (gs.map Gp.d),.str x,m]=.ok (.bl (lJ p gs x)):=by
 have hg:er (.lst Ξ (gs.map Gp.d))=.lst Ξ (gs.map Gp.d):=by show D.lst Ξ (FA _)=_;rw[lF]
 have l:=u9 n hg hm p x gs Φ Φ h;have ec:=lF gs;unfold lJ;cases ha:gs.find? (fun g=>g.nm == x) with
 | some g=>have e:=l.1 g ha;unfold tG at e;show _=Except.ok (D.bl (g.rows.any (·.all p)));rw[gx 37 QU 3 5 Px rfl rfl rfl rfl rfl rfl];unfold Px;generalize gs.map Gp.d=CS at *;simp![ec,e]
 | none=>obtain⟨b,c,e⟩:=l.2 ha;unfold tG at e;show _=Except.ok (D.bl Ξ);rw[gx 37 QU 3 5 Px rfl rfl rfl rfl rfl rfl];unfold Px;generalize gs.map Gp.d=CS at *;simp![ec,e]
noncomputable def pB (ms:List (Str×Tn))(c:Cn):Bool:=ic c.w c.ts (jF ms c.m)
noncomputable def eM (gs:List Gp)(ms:List (Str×Tn))(c:Cn):Bool:=if (c.w == Ρ "in")=Θ then lJ (pB ms) gs c.m else if (c.w == Ρ "out")=Θ then !lJ (pB ms) gs c.m else pB ms c
def NR (gs:List Gp):Prop:=∀ g∈gs,∀ r∈g.rows,∀ c∈r,Wf c/\J5 c.w=Ξ
noncomputable def HW (gs:List Gp):D:=.lst Ξ (gs.map Gp.d)
noncomputable def Jq (ms:List (Str×Tn)):D:=.lst Ξ (ms.map G5)
theorem fx (gs:List Gp):er (HW gs)=HW gs:=by show D.lst Ξ (FA _)=_;rw[lF];rfl
theorem fM (ms:List (Str×Tn)):er (Jq ms)=Jq ms:=by show D.lst Ξ (FA _)=_;rw[lD];rfl
theorem vd (n:Nat){gs:List Gp}(hg:NR gs)(ms:List (Str×Tn))(x:Str):aB T (n+6) 37 [HW gs,.str x,Jq ms]=.ok (.bl (lJ (pB ms) gs x)):=
 xA (n+5) (fM ms) (pB ms) x gs fun g NT=>BJ (n+4) (fx gs) (fM ms) (pB ms) g.rows fun r hr=>p5 (n+3) (fx gs) (fM ms) (pB ms) r fun c hc=>uZ n (hg g NT r hr c hc).1 (hg g NT r hr c hc).2 (fx gs) ms
theorem xB (n:Nat){gs:List Gp}(hg:NR gs)(ms:List (Str×Tn)){c:Cn}(wf:Wf c):aB T (n+7) 34 [HW gs,c.d,Jq ms]=.ok (.bl (eM gs ms c)):=by
 cases hi:J5 c.w with
 | false=>have:=uZ (n+4) wf hi (fx gs) ms;have h2:=Bool.or_eq_false_iff.mp (show ((c.w == Ρ "in")||(c.w == Ρ "out"))=Ξ from hi);unfold eM;rw[d_ (by rw[h2.1];exact p_),d_ (by rw[h2.2];exact p_)];exact this
 | true=>
  have e:=vd n hg ms c.m;have eg:=fx gs;have em:=fM ms;unfold eM;obtain⟨cm,w,ts⟩:=c;show aB T (n+7) 34 [HW gs,.tup [.str cm,.str w,.lst Ξ (ts.map Tn.d)],Jq ms]=.ok (.bl (if (w == Ρ "in")=Θ then lJ (pB ms) gs cm else if (w == Ρ "out")=Θ then !lJ (pB ms) gs cm else pB ms ⟨cm,w,ts⟩));have e:aB T (n+6) 37 [HW gs,.str cm,Jq ms]=.ok (.bl (lJ (pB ms) gs cm)):=e;generalize lJ (pB ms) gs cm=B,HW gs=GD,Jq ms=MD,ts.map Tn.d=TS at *;cases q1:(w == Ρ "in") with
  | true=>rw[f_ rfl];rw[gx 34 Pt 3 5 Nf rfl rfl rfl rfl rfl rfl];unfold Nf;simp![q1,eg,em,e]
  | false=>
   have q2:(w == Ρ "out")=Θ:=by have hi:((w == Ρ "in")||(w == Ρ "out"))=Θ:=hi;rw[q1] at hi;exact hi
   rw[d_ p_,q2,f_ rfl];rw[gx 34 Pt 3 5 Nf rfl rfl rfl rfl rfl rfl];unfold Nf;simp![q1,q2,eg,em,e]
theorem vf (n:Nat){gs:List Gp}(hg:NR gs)(ms:List (Str×Tn)){cs:List Cn}(wf:∀ c∈cs,Wf c):aB T (n+8) 35 [HW gs,GR cs,Jq ms]=.ok (.bl (cs.all (eM gs ms))):=
 p5 (n+7) (fx gs) (fM ms) (eM gs ms) cs fun c hc=>xB n hg ms (wf c hc)
noncomputable def FC (p:Int×Int):D:=.tup [.int p.1,.int p.2]
theorem cR (l:List (Int×Int)):FA (l.map FC)=l.map FC:=by rw[cA,H_];rfl
noncomputable def NU (day:Int)(s:Int)(p:Int×Int):Int:=if decide (p.1<=day)=Θ then p.2 else s
noncomputable def shr (st:List (Int×Int))(day:Int):Int:=st.foldl (NU day) 0
noncomputable def Q3:List IS:=[(.Gi (.cmp .le (.v 3) (.v 1)) [(.asg (.nm 2) (.v 4))] [])]
theorem vg (cl:Nat->List D->Res D)(a:Option D)(day:Int):∀ (st:List (Int×Int)) (s:Int) (b c:Option D),∃ b' c',forM (Ev.turn cl (.tp [(.nm 3),(.nm 4)]) Q3) (st.map FC) [a,Δ (.int day),Δ (.int s),b,c]=.ok (.nx [a,Δ (.int day),Δ (.int (st.foldl (NU day) s)),b',c'])
 | [],s,b,c=>⟨b,c,rfl⟩
 | p::st,s,b,c=>by
  have et:Ev.turn cl (.tp [(.nm 3),(.nm 4)]) Q3 (FC p) [a,Δ (.int day),Δ (.int s),b,c]=.ok (.nx [a,Δ (.int day),Δ (.int (NU day s p)),Δ (.int p.1),Δ (.int p.2)]):=by unfold Q3 FC NU;cases h:decide (p.1<=day)<;>simp![Ev.cy,h]
  rw[b_,Ev.fD,et,List.foldl_cons];exact vg cl a day st _ _ _
theorem xC {f:Nat}{fn:Fn}(hT:T f=Δ fn)(Ko:fn.io=Ξ)(h1:fn.np=2)(h2:fn.G.N.length=5)(h3:fn.body=TX)(n:Nat)(st:List (Int×Int))(day:Int):aB T (n+1) f [.lst Ξ (st.map FC),.int day]=.ok (.int (shr st day)):=by obtain⟨b,c,e⟩:=vg (aB T n) (Δ (.lst Ξ (st.map FC))) day st 0 Φ Φ;have ep:=cR st;unfold Q3 at e;rw[Ev.go hT Ko h1 h2 h3 rfl];unfold TX shr;generalize st.map FC=ST at *;simp![ep,e]
theorem vi (n:Nat)(st:List (Int×Int))(day:Int):aB T (n+1) 38 [.lst Ξ (st.map FC),.int day]=.ok (.int (shr st day)):=xC (fn:=Ua) rfl rfl rfl rfl rfl n st day
noncomputable def PY (z:Int)(p:Int×Int):Bool:=decide (p.1<=z)&&decide (z < p.2)
noncomputable def inR (z:Int)(run:List (Int×Int)):Bool:=run.any (PY z)
noncomputable def tI:List IS:=[(.Gi (.chain .le .lt (.v 3) (.v 1) (.v 4)) [(.ret (.bin .sub (.bin .add (.v 2) (.v 1)) (.v 3)))] []),(.asg (.nm 2) (.bin .sub (.bin .add (.v 2) (.v 4)) (.v 3)))]
theorem vj (cl:Nat->List D->Res D)(a:Option D)(z:Int):∀ (run:List (Int×Int)) (s:Int) (b c:Option D),
  (inR z run=Θ->∃ i:Int,forM (Ev.turn cl (.tp [(.nm 3),(.nm 4)]) tI) (run.map FC) [a,Δ (.int z),Δ (.int s),b,c]=.ok (.rt (.int i)))/\
  (inR z run=Ξ->∃ s' b' c',forM (Ev.turn cl (.tp [(.nm 3),(.nm 4)]) tI) (run.map FC) [a,Δ (.int z),Δ (.int s),b,c]=.ok (.nx [a,Δ (.int z),s',b',c']))
 | [],s,b,c=>⟨fun h=>(by cases h),fun _=>⟨_,b,c,rfl⟩⟩
 | p::run,s,b,c=>by
  have et:Ev.turn cl (.tp [(.nm 3),(.nm 4)]) tI (FC p) [a,Δ (.int z),Δ (.int s),b,c]=if PY z p=Θ then .ok (.rt (.int (s+z - p.1))) else .ok (.nx [a,Δ (.int z),Δ (.int (s+p.2 - p.1)),Δ (.int p.1),Δ (.int p.2)]):=by unfold tI FC PY;cases h:decide (p.1<=z)<;>cases h':decide (z < p.2)<;>simp![Ev.cy,h,h',Bool.and_true,Bool.and_false,Bool.true_and,Bool.false_and]
  rw[b_,Ev.fD,et];unfold inR;rw[List.any_cons];cases h:PY z p with
  | true=>exact⟨fun _=>⟨_,rfl⟩,fun z=>(by cases z)⟩
  | false=>exact vj cl a z run _ _ _
theorem BK (n:Nat)(run:List (Int×Int))(z:Int):∃ d,aB T (n+1) 30 [.lst Ξ (run.map FC),.int z]=.ok d/\G7 .JR d .F4=.ok (inR z run):=by
 have l:=vj (aB T n) (Δ (.lst Ξ (run.map FC))) z run 0 Φ Φ;have ep:=cR run;cases h:inR z run with
 | true=>obtain⟨i,e⟩:=l.1 h;unfold tI at e;refine⟨.int i,?_,rfl⟩;rw[gx 30 QP 2 5 Po rfl rfl rfl rfl rfl rfl];unfold Po;generalize run.map FC=ST at *;simp![ep,e]
 | false=>obtain⟨s,b,c,e⟩:=l.2 h;unfold tI at e;refine⟨.F4,?_,rfl⟩;rw[gx 30 QP 2 5 Po rfl rfl rfl rfl rfl rfl];unfold Po;generalize run.map FC=ST at *;simp![ep,e]
abbrev Al:=List (Str×List (Int×Int))
noncomputable def GU (p:Str×List (Int×Int)):D:=.tup [.str p.1,.lst Ξ (p.2.map FC)]
noncomputable def GO (al:Al)(fr:List (Int×Int)):D:=.tup [.lst Ξ (al.map GU),.lst Ξ (fr.map FC)]
theorem Ew (p:Str×List (Int×Int)):er (GU p)=GU p:=by show D.tup [.str p.1,.lst Ξ (FA (p.2.map FC))]=_;rw[cR];rfl
theorem lK (al:Al):FA (al.map GU)=al.map GU:=by rw[cA,H_];exact aah fun p _=>Ew p
theorem kx (al:Al)(fr:List (Int×Int)):er (GO al fr)=GO al fr:=by show D.tup [.lst Ξ (FA (al.map GU)),.lst Ξ (FA (fr.map FC))]=_;rw[lK,cR];rfl
noncomputable def J6 (al:Al)(z:Int):Option Str:=(al.find? fun p=>inR z p.2).map (·.1)
noncomputable def oD:Option Str->D
 | some x=>.str x
 | none=>.F4
noncomputable def tF:List IS:=[(.Gi (.cmp .JR (.call 30 [(.v 3),(.v 1)]) (.c .F4)) [(.ret (.v 2))] [])]
theorem vk (n:Nat)(a:Option D)(z:Int):∀ (al:Al) (b c:Option D),
  (∀ x,J6 al z=Δ x->forM (Ev.turn (aB T (n+1)) (.tp [(.nm 2),(.nm 3)]) tF) (al.map GU) [a,Δ (.int z),b,c]=.ok (.rt (.str x)))/\
  (J6 al z=Φ->∃ b' c',forM (Ev.turn (aB T (n+1)) (.tp [(.nm 2),(.nm 3)]) tF) (al.map GU) [a,Δ (.int z),b,c]=.ok (.nx [a,Δ (.int z),b',c']))
 | [],b,c=>⟨fun x h=>(by cases h),fun _=>⟨b,c,rfl⟩⟩
 | p::al,b,c=>by
  obtain⟨d,e1,e2⟩:=BK n p.2 z;have ep:=cR p.2;have et:Ev.turn (aB T (n+1)) (.tp [(.nm 2),(.nm 3)]) tF (GU p) [a,Δ (.int z),b,c]=if inR z p.2=Θ then .ok (.rt (.str p.1)) else .ok (.nx [a,Δ (.int z),Δ (.str p.1),Δ (.lst Ξ (p.2.map FC))]):=by unfold tF GU;generalize p.2.map FC=PD at *;cases h:inR z p.2<;>rw[h] at e2<;>simp![Ev.cy,ep,e1,e2]
  rw[b_,Ev.fD,et];unfold J6;rw[List.find?_cons];cases h:inR z p.2 with
  | true=>exact⟨fun x z=>(by cases z;rfl),fun z=>(by cases z)⟩
  | false=>exact vk n a z al _ _
theorem xD (n:Nat)(al:Al)(fr:List (Int×Int))(z:Int):aB T (n+2) 31 [GO al fr,.int z]=.ok (oD (J6 al z)):=by
 have l:=vk n (Δ (GO al fr)) z al Φ Φ;have x0:cH (GO al fr) (.int 0)=.ok (.lst Ξ (al.map GU)):=rfl;have ea:=kx al fr;have ef:=lK al;unfold tF at l;cases h:J6 al z with
 | some x=>have e:=l.1 x h;show _=Except.ok (D.str x);rw[gx 31 QQ 2 4 Pp rfl rfl rfl rfl rfl rfl];unfold Pp;generalize GO al fr=AD,al.map GU=FD at *;simp![x0,ea,ef,e]
 | none=>obtain⟨b,c,e⟩:=l.2 h;show _=Except.ok D.F4;rw[gx 31 QQ 2 4 Pp rfl rfl rfl rfl rfl rfl];unfold Pp;generalize GO al fr=AD,al.map GU=FD at *;simp![x0,ea,ef,e]
inductive Oc where
 | face (f:Str)|share (f:Str) (st:List (Int×Int))|J7
noncomputable def Oc.d:Oc->D
 | .face f=>.tup [.str "face",.str f]
 | .share f st=>.tup [.str "share",.str f,.lst Ξ (st.map FC)]
 | .J7=>.tup [.str "lot"]
theorem zw (o:Oc):er o.d=o.d:=by
 cases o with
 | share f st=>show D.tup [.str "share",.str f,.lst Ξ (FA (st.map FC))]=_;rw[cR];rfl
 | _=>rfl
noncomputable def Kw (al:Al)(day z:Int):Oc->Option Str
 | .face f=>Δ f
 | .share f st=>if decide (z < shr st day)=Θ then Δ f else Φ
 | .J7=>J6 al z
theorem Xd:(Ρ "share" == Ρ "face")=Ξ:=by decide +kernel
theorem l_f:(Ρ "lot" == Ρ "face")=Ξ:=by decide +kernel
theorem l_s:(Ρ "lot" == Ρ "share")=Ξ:=by decide +kernel
theorem outcome (n:Nat)(o:Oc)(al:Al)(fr:List (Int×Int))(day z:Int):aB T (n+3) 39 [o.d,GO al fr,.int day,.int z]=.ok (oD (Kw al day z o)):=by
 have e1:=xD n al fr z;have ea:=kx al fr;cases o with
 | face f=>show aB T (n+3) 39 [.tup [.str "face",.str f],GO al fr,.int day,.int z]=.ok (.str f);generalize GO al fr=AD at *;rw[gx 39 NP 4 4 LR rfl rfl rfl rfl rfl rfl];unfold LR;simp![FY]
 | share f st=>
  have e2:=vi (n+1) st day;have ep:=cR st;show aB T (n+3) 39 [.tup [.str "share",.str f,.lst Ξ (st.map FC)],GO al fr,.int day,.int z]=.ok (oD (if decide (z < shr st day)=Θ then Δ f else Φ));generalize GO al fr=AD,st.map FC=PD at *;cases h:decide (z < shr st day) with
  | true=>rw[f_ rfl];show _=Except.ok (D.str f);rw[gx 39 NP 4 4 LR rfl rfl rfl rfl rfl rfl];unfold LR;simp![Xd,ep,e2,h]
  | false=>rw[d_ p_];show _=Except.ok D.F4;rw[gx 39 NP 4 4 LR rfl rfl rfl rfl rfl rfl];unfold LR;simp![Xd,ep,e2,h]
 | J7=>
  show aB T (n+3) 39 [.tup [.str "lot"],GO al fr,.int day,.int z]=.ok (oD (J6 al z));have lo:cq (oD (J6 al z))=Θ:=by cases J6 al z<;>rfl
  generalize GO al fr=AD,oD (J6 al z)=OD at *;rw[gx 39 NP 4 4 LR rfl rfl rfl rfl rfl rfl];unfold LR;simp![l_f,l_s,ea,e1,lo]
structure Rl where
 cs:List Cn
 o:Oc
noncomputable def Rl.d (r:Rl):D:=.tup [GR r.cs,r.o.d]
theorem Ex (r:Rl):er r.d=r.d:=by show D.tup [er (GR r.cs),er r.o.d]=_;rw[nu,zw];rfl
theorem jt (rs:List Rl):FA (rs.map Rl.d)=rs.map Rl.d:=by rw[cA,H_];exact aah fun r _=>Ex r
noncomputable def idx (rs:List Rl):List (Nat×Rl):=(List.range rs.length).zip rs
noncomputable def inD (q:Nat×Rl):D:=.tup [.int (q.1:Nat),q.2.d]
theorem BL (rs:List Rl):iS (rs.map Rl.d)=(idx rs).map inD:=by unfold iS idx;rw[i_,List.zipWith_map_right,List.zip,List.map_zipWith];rfl
theorem oF {rs:List Rl}{q:Nat×Rl}(h:q∈idx rs):rs[q.1]? = Δ q.2/\q.2∈rs/\q.1 < rs.length:=by obtain⟨k,hk⟩:=aaz.mp h;obtain⟨h1,h2⟩:=List.getElem?_zip_eq_some.mp hk;obtain⟨h3,h4⟩:=x_.mp h1;rw[List.getElem_range] at h4;rw[<- h4];exact⟨h2,aae h2,by rw[aam] at h3;exact h3⟩
noncomputable def Gy (salt rest:Str)(rs:List Rl)(al:Al)(fr:List (Int×Int)):D:=.tup [.str salt,.str rest,.lst Ξ (rs.map Rl.d),GO al fr]
theorem lN (salt rest:Str)(rs:List Rl)(al:Al)(fr:List (Int×Int)):er (Gy salt rest rs al fr)=Gy salt rest rs al fr:=by show D.tup [.str salt,.str rest,.lst Ξ (FA (rs.map Rl.d)),er (GO al fr)]=_;rw[jt,kx];rfl
theorem vm {α:Type}{g:D->Res (Option D)}(J4:α->D)(p:α->Bool)(out:α->D):∀ xs:List α,(∀ x∈xs,g (J4 x)=.ok (if p x=Θ then Δ (out x) else Φ))->cD g (xs.map J4)=.ok ((xs.filter p).map out)
 | [],_=>rfl
 | x::xs,h=>by
  have ih:=vm J4 p out xs fun y hy=>h y (I_ _ hy);rw[b_,List.filter_cons];show Fu (g (J4 x)) _=_;rw[h x (.head _)];cases p x with
  | true=>show Fu (cD _ _) _=_;rw[ih];rfl
  | false=>exact ih
noncomputable def Jj (q:Nat×Rl):D:=.int (q.1:Nat)
theorem xE (n:Nat){gs:List Gp}(hg:NR gs)(ms:List (Str×Tn))(salt rest:Str){rs:List Rl}(al:Al)(fr:List (Int×Int))(wf:∀ r∈rs,∀ c∈r.cs,Wf c)(hl:rs.length<=100) :
  aB T (n+9) 40 [HW gs,Gy salt rest rs al fr,Jq ms]=.ok (.lst Θ (((idx rs).filter fun q=>q.2.cs.all (eM gs ms)).map Jj)):=by
 have x2:cH (Gy salt rest rs al fr) (.int 2)=.ok (.lst Ξ (rs.map Rl.d)):=rfl;have en:=BL rs;have eg:=fx gs;have em:=fM ms;have fm:cD (cL (aB T (n+8)) (.tp [(.nm 2),(.nm 3)]) [(.call 35 [(.v 0),(.idx (.v 3) (.c (.int 0))),(.v 1)])] (.v 2) [Δ (HW gs),Δ (Jq ms),Φ,Φ]) ((idx rs).map inD)=.ok (((idx rs).filter fun q=>q.2.cs.all (eM gs ms)).map Jj):=by refine vm inD (fun q=>q.2.cs.all (eM gs ms)) Jj (idx rs) fun q hq=>?_;have e:=vf n hg ms (wf q.2 (oF hq).2.1);have x0:cH q.2.d (.int 0)=.ok (GR q.2.cs):=rfl;have UT:=nu q.2.cs;unfold inD Jj;generalize HW gs=GD,Jq ms=MD,q.2.d=RD,GR q.2.cs=WD at *;cases h:q.2.cs.all (eM gs ms)<;>rw[h] at e<;>simp![Ev.cy,eg,em,UT,x0,e]
 have le:((idx rs).map inD).length<=100:=by rw[<- en];unfold iS;rw[List.length_zipWith,aam,i_];omega
 have lf:ck (((idx rs).filter fun q=>q.2.cs.all (eM gs ms)).map Jj)=Θ:=by rw[dg,List.all_map];exact V_.mpr fun _ _=>rfl
 rw[gx 40 Uc 3 3 Ub rfl rfl rfl rfl rfl rfl];unfold Ub;generalize Gy salt rest rs al fr=S,((idx rs).filter fun q=>q.2.cs.all (eM gs ms)).map Jj=N,(idx rs).map inD=IN,rs.map Rl.d=RS,HW gs=GD,Jq ms=MD at *;simp![x2,en,fm,lf]
noncomputable def tA:List IS:=[(.asg (.nm 5) (.call 39 [(.idx (.idx (.idx (.v 0) (.c (.int 2))) (.v 4)) (.c (.int 1))),(.idx (.v 0) (.c (.int 3))),(.v 1),(.v 3)])),(.Gi (.cmp .JR (.v 5) (.c .F4)) [(.ret (.tup [(.v 5),(.v 4)]))] [])]
noncomputable def fst (al:Al)(day z:Int)(l:List (Nat×Rl)):Option (Str×Nat):=match l with
 | []=>Φ
 | q::l=>match Kw al day z q.2.o with
  | some f=>Δ (f,q.1)
  | none=>fst al day z l
theorem vn (n:Nat)(salt rest:Str){rs:List Rl}(al:Al)(fr:List (Int×Int))(day z:Int)(N:Option D):∀ (l:List (Nat×Rl)),(∀ q∈l,q∈idx rs)->∀ (b c:Option D),
  (∀ f i,fst al day z l=Δ (f,i)->forM (Ev.turn (aB T (n+3)) (.nm 4) tA) (l.map Jj) [Δ (Gy salt rest rs al fr),Δ (.int day),N,Δ (.int z),b,c]=.ok (.rt (.tup [.str f,.int (i:Nat)])))/\
  (fst al day z l=Φ->∃ b' c',forM (Ev.turn (aB T (n+3)) (.nm 4) tA) (l.map Jj) [Δ (Gy salt rest rs al fr),Δ (.int day),N,Δ (.int z),b,c]=.ok (.nx [Δ (Gy salt rest rs al fr),Δ (.int day),N,Δ (.int z),b',c']))
 | [],_,b,c=>⟨fun f i h=>(by cases h),fun _=>⟨b,c,rfl⟩⟩
 | q::l,hl,b,c=>by
  have hq:=oF (hl q (.head _));have e:=outcome n q.2.o al fr day z;have x2:cH (Gy salt rest rs al fr) (.int 2)=.ok (.lst Ξ (rs.map Rl.d)):=rfl;have x3:cH (Gy salt rest rs al fr) (.int 3)=.ok (GO al fr):=rfl;have xi:cH (.lst Ξ (rs.map Rl.d)) (.int (q.1:Nat))=.ok q.2.d:=by rw[Ev.QE];unfold Hh Hg;rw[f_ (Int.natCast_nonneg _),f_ (by rw[i_];have:=hq.2.2;omega)];show (match (rs.map Rl.d)[((q.1:Nat):Int).toNat]? with|some d=>_|none=>_)=_;rw[aax,A_,hq.1];rfl
  have y1:cH q.2.d (.int 1)=.ok q.2.o.d:=rfl;have eo:=zw q.2.o;have ea:=kx al fr;unfold Jj;rw[b_,Ev.fD];show (∀ f i,fst al day z (q::l)=Δ (f,i)->Fu (Ev.turn (aB T (n+3)) (.nm 4) tA (.int (q.1:Nat)) _) _=_)/\(fst al day z (q::l)=Φ->∃ b' c',Fu (Ev.turn (aB T (n+3)) (.nm 4) tA (.int (q.1:Nat)) _) _=_)
  unfold fst;cases h:Kw al day z q.2.o with
  | some f=>
   rw[h] at e;have e:aB T (n+3) 39 [q.2.o.d,GO al fr,.int day,.int z]=.ok (.str f):=e;have et:Ev.turn (aB T (n+3)) (.nm 4) tA (.int (q.1:Nat)) [Δ (Gy salt rest rs al fr),Δ (.int day),N,Δ (.int z),b,c]=.ok (.rt (.tup [.str f,.int (q.1:Nat)])):=by unfold tA;generalize Gy salt rest rs al fr=S,rs.map Rl.d=RS,q.2.d=QD,q.2.o.d=OD,GO al fr=AD at *;simp![Ev.cy,x2,x3,xi,y1,eo,ea,e]
   rw[et];exact⟨fun f i z=>(by cases z;rfl),fun z=>(by cases z)⟩
  | none=>
   rw[h] at e;have e:aB T (n+3) 39 [q.2.o.d,GO al fr,.int day,.int z]=.ok .F4:=e;have et:Ev.turn (aB T (n+3)) (.nm 4) tA (.int (q.1:Nat)) [Δ (Gy salt rest rs al fr),Δ (.int day),N,Δ (.int z),b,c]=.ok (.nx [Δ (Gy salt rest rs al fr),Δ (.int day),N,Δ (.int z),Δ (.int (q.1:Nat)),Δ .F4]):=by unfold tA;generalize Gy salt rest rs al fr=S,rs.map Rl.d=RS,q.2.d=QD,q.2.o.d=OD,GO al fr=AD at *;simp![Ev.cy,x2,x3,xi,y1,eo,ea,e]
   rw[et];exact vn n salt rest al fr day z N l (fun q hq=>hl q (.tail _ hq)) _ _
noncomputable def PZ (rest:Str)(k:Nat):Option (Str×Nat)->D
 | some (f,i)=>.tup [.str f,.int (i:Nat)]
 | none=>.tup [.str rest,.int (k:Nat)]
theorem vq (l:List (Nat×Rl)):FA (l.map Jj)=l.map Jj:=by rw[cA,H_];rfl
theorem among (n:Nat)(salt rest:Str){rs:List Rl}(al:Al)(fr:List (Int×Int))(day z:Int)(l:List (Nat×Rl))(hl:∀ q∈l,q∈idx rs) :
  aB T (n+4) 41 [Gy salt rest rs al fr,.int day,.lst Ξ (l.map Jj),.int z]=.ok (PZ rest rs.length (fst al day z l)):=by
 have a:=vn n salt rest al fr day z (Δ (.lst Ξ (l.map Jj))) l hl Φ Φ;have en:=vq l;have x1:cH (Gy salt rest rs al fr) (.int 1)=.ok (.str rest):=rfl;have x2:cH (Gy salt rest rs al fr) (.int 2)=.ok (.lst Ξ (rs.map Rl.d)):=rfl;have ln:(rs.map Rl.d).length=rs.length:=i_ _;unfold tA at a;cases h:fst al day z l with
 | some p=>obtain⟨f,i⟩:=p;have e:=a.1 f i h;show _=Except.ok (D.tup [.str f,.int (i:Nat)]);rw[gx 41 QV 4 6 Py rfl rfl rfl rfl rfl rfl];unfold Py;generalize Gy salt rest rs al fr=S,l.map Jj=L at *;simp![en,e]
 | none=>obtain⟨b,c,e⟩:=a.2 h;show _=Except.ok (D.tup [.str rest,.int (rs.length:Nat)]);rw[gx 41 QV 4 6 Py rfl rfl rfl rfl rfl rfl];unfold Py;generalize Gy salt rest rs al fr=S,l.map Jj=L,rs.map Rl.d=RS at *;simp![en,e,x1,x2,ln]
noncomputable def K4 (m:Int)(ms:List (Str×Tn)):D:=.tup [.int m,Jq ms]
theorem zx (m:Int)(ms:List (Str×Tn)):er (K4 m ms)=K4 m ms:=by show D.tup [.int m,er (Jq ms)]=_;rw[fM];rfl
noncomputable def told (gs:List Gp)(ms:List (Str×Tn))(rest:Str)(rs:List Rl)(al:Al)(day z:Int):D:=PZ rest rs.length (fst al day z ((idx rs).filter fun q=>q.2.cs.all (eM gs ms)))
theorem hW (n:Nat){gs:List Gp}(hg:NR gs)(ms:List (Str×Tn)){cs:List Nat}(hc:Sl cs)(rest:Str){rs:List Rl}(al:Al)(fr:List (Int×Int))(wf:∀ r∈rs,∀ c∈r.cs,Wf c)(hl:rs.length<=100)(day:Int){m:Int}(m0:0<=m)(m1:m<=1000000000) :
  aB T (n+10) 42 [HW gs,Gy (Gb cs) rest rs al fr,.int day,K4 m ms]=.ok (told gs ms rest rs al day (Ji cs m)):=by
 have e1:=xE n hg ms (Gb cs) rest al fr wf hl;have e2:=uM (n+5) hc m m0 m1;have e3:=among (n+5) (Gb cs) rest (rs:=rs) al fr day (Ji cs m) ((idx rs).filter fun q=>q.2.cs.all (eM gs ms)) fun q hq=>(List.mem_filter.mp hq).1;have en:=vq ((idx rs).filter fun q=>q.2.cs.all (eM gs ms));have lf:ck (((idx rs).filter fun q=>q.2.cs.all (eM gs ms)).map Jj)=Θ:=by rw[dg,List.all_map];exact V_.mpr fun _ _=>rfl
 have x0:cH (Gy (Gb cs) rest rs al fr) (.int 0)=.ok (.str (Gb cs)):=rfl;have v0:cH (K4 m ms) (.int 0)=.ok (.int m):=rfl;have v1:cH (K4 m ms) (.int 1)=.ok (Jq ms):=rfl;have eg:=fx gs;have em:=fM ms;have es:=lN (Gb cs) rest rs al fr;have ev:=zx m ms;have lt:cq (told gs ms rest rs al day (Ji cs m))=Θ:=by unfold told;cases fst al day (Ji cs m) ((idx rs).filter fun q=>q.2.cs.all (eM gs ms))<;>rfl
 unfold told at *;generalize hR:PZ rest rs.length (fst al day (Ji cs m) ((idx rs).filter fun q=>q.2.cs.all (eM gs ms)))=R at *;rw[gx 42 Ue 4 5 Ud rfl rfl rfl rfl rfl rfl];unfold Ud;generalize Gy (Gb cs) rest rs al fr=S,((idx rs).filter fun q=>q.2.cs.all (eM gs ms)).map Jj=N,HW gs=GD,Jq ms=MD,K4 m ms=VD,Gb cs=Q at *;simp![e1,e2,e3,en,lf,x0,v0,v1,eg,em,es,ev,lt]
structure Nk (gs:List Gp):Prop where
 ok:NR gs
 nd:(gs.map (·.nm)).Nodup
 len:∀ g∈gs,g.rows.length<=100/\∀ r∈g.rows,r.length<=100
noncomputable def Cn.t (c:Cn):D:=.tup [.str c.m,.str c.w,.lst Θ (c.ts.map Tn.d)]
theorem vt (c:Cn):er c.t=c.d:=by show D.tup [.str c.m,.str c.w,.lst Ξ (FA (c.ts.map Tn.d))]=_;rw[uW];rfl
noncomputable def W7:List Str:=[Ρ "is",Ρ "not",Ρ "begins",Ρ "least",Ρ "most",Ρ "has",Ρ "lacks"]
noncomputable def W9:List Str:=W7++[Ρ "in",Ρ "out"]
noncomputable def UU (w:Str):List Bool:=[(w == Ρ "is")||(w == Ρ "not"),w == Ρ "begins",(w == Ρ "least")||(w == Ρ "most"),(w == Ρ "in")||(w == Ρ "out")]
noncomputable def rows:List (List Bool):=[[Θ,Ξ,Ξ,Ξ],[Ξ,Θ,Ξ,Ξ],[Ξ,Ξ,Θ,Ξ],[Ξ,Ξ,Ξ,Θ],[Ξ,Ξ,Ξ,Ξ]]
theorem t9:∀ w∈W9,UU w∈rows:=by decide +kernel
theorem t7:∀ w∈W7,J5 w=Ξ:=by decide +kernel
theorem p6 {g:D->Res (Option D)}:∀ (its:List D),(∀ x∈its,∃ t:Tn,g x=.ok (Δ t.d))->∃ ts:List Tn,cD g its=.ok (ts.map Tn.d)/\ts.length=its.length
 | [],_=>⟨[],rfl,rfl⟩
 | x::its,h=>by obtain⟨y,hy⟩:=h x (by simp);obtain⟨ys,e,hl⟩:=p6 its fun z hz=>h z (I_ _ hz);exact⟨y::ys,gh hy e,by rw[List.length_cons,List.length_cons,hl]⟩
theorem ij (a:Int):(cO 0 a).length=a.toNat:=by unfold cO;rw[i_,aam];omega
section
variable (n:Nat)(ns:List Int){k:Int}(k0:0<=k)(k1:k<=1000){st:Str}(hs:st.length<=100)(c:Int)
include k0 k1 hs in
theorem xF (d:Int)(d0:0<=d)(d1:d < 2):∃ ts:List Tn,cD (cL (aB T (n+3)) (.nm 4) [] (.call 53 [(.v 0),(.bin .add (.bin .add (.v 1) (.c (.int 3))) (.bin .mul (.c (.int 5)) (.v 4))),(.v 2),(.v 3)]) [Δ (.lst Ξ (ns.map .int)),Δ (.int k),Δ (.str st),Δ (.int c),Φ]) (cO 0 (1+d))=.ok (ts.map Tn.d)/\ts.length<=2:=by
 obtain⟨ts,e,hl⟩:=p6 (g:=cL (aB T (n+3)) (.nm 4) [] (.call 53 [(.v 0),(.bin .add (.bin .add (.v 1) (.c (.int 3))) (.bin .mul (.c (.int 5)) (.v 4))),(.v 2),(.v 3)]) [Δ (.lst Ξ (ns.map .int)),Δ (.int k),Δ (.str st),Δ (.int c),Φ]) (cO 0 (1+d)) fun x hx=>by obtain⟨j,rfl,j0,j1⟩:=iA hx;obtain⟨t,e⟩:=uS n ns (k:=k+3+5*j) ⋯ ⋯ hs c;have ei:=Ev.cJ ns;refine⟨t,?_⟩;generalize ns.map D.int=NS,t.d=TD at *;simp![Ev.cy,ei,e]
 exact⟨ts,e,by rw[hl,ij];omega⟩
include k0 k1 hs in
theorem BM (d:Int)(d0:0<=d)(d1:d < 2):∃ ys:List Str,cD (cL (aB T (n+3)) (.nm 3) [] (.call 50 [(.v 0),(.bin .add (.bin .add (.v 1) (.c (.int 3))) (.bin .mul (.c (.int 5)) (.v 3))),(.v 2)]) [Δ (.lst Ξ (ns.map .int)),Δ (.int k),Δ (.str st),Φ]) (cO 0 (1+d))=.ok (ys.map .str)/\ys.length<=2:=by
 obtain⟨ts,e,hl⟩:=hJ (g:=cL (aB T (n+3)) (.nm 3) [] (.call 50 [(.v 0),(.bin .add (.bin .add (.v 1) (.c (.int 3))) (.bin .mul (.c (.int 5)) (.v 3))),(.v 2)]) [Δ (.lst Ξ (ns.map .int)),Δ (.int k),Δ (.str st),Φ]) (cO 0 (1+d)) fun x hx=>by obtain⟨j,rfl,j0,j1⟩:=iA hx;obtain⟨t,e,_⟩:=iz (n+1) ns (k:=k+3+5*j) ⋯ ⋯ hs;have ei:=Ev.cJ ns;refine⟨t,?_⟩;generalize ns.map D.int=NS at *;simp![Ev.cy,ei,e]
 exact⟨ts,e,by rw[hl,ij];omega⟩
include hs in
theorem BN (cl:Nat->List D->Res D)(ys:List Str):∃ zs:List Str,cD (cL cl (.nm 1) [] (.ite (.cmp .ne (.v 1) (.c (.str ""))) (.v 1) (.sl (.v 0) Φ (Δ (.c (.int 1))))) [Δ (.str st),Φ]) (ys.map .str)=.ok (zs.map .str)/\zs.length=ys.length:=by
 obtain⟨zs,e,hl⟩:=hJ (g:=cL cl (.nm 1) [] (.ite (.cmp .ne (.v 1) (.c (.str ""))) (.v 1) (.sl (.v 0) Φ (Δ (.c (.int 1))))) [Δ (.str st),Φ]) (ys.map .str) fun x hx=>by
  obtain⟨y,_,rfl⟩:=List.mem_map.mp hx;cases q:(y == Ρ "") with
  | true=>exact⟨Txt.slice st Φ (Δ 1),by simp![Ev.cy,q]⟩
  | false=>exact⟨y,by simp![Ev.cy,q]⟩
 exact⟨zs,e,by rw[hl,i_]⟩
end
theorem ne_nil (o:Bool)(ls:List D):G7 .ne (.lst o ls) (.lst Θ [])=.ok (!ls.isEmpty):=by cases ls<;>rfl
theorem dA {fs:List Str}{i:Int}(h0:0<=i)(h1:i < (fs.length:Int)):∃ y,(∀ o,cH (.lst o (fs.map .str)) (.int i)=.ok (.str y))/\fs[i.toNat]? = Δ y:=by
 have hl:i.toNat < fs.length:=⋯
 refine⟨fs[i.toNat],fun o=>?_,y_ hl⟩;rw[Ev.BC h0 h1,aat,y_ hl];rfl
theorem BO (zs:List Str):zs.map D.str=(zs.map Tn.s).map Tn.d:=by rw[H_];rfl
theorem BP (cl:Nat->List D->Res D)(x y w:Str)(s0 s1 s2 s3 s4 s5 s6 s8 s9:Option D):Fz cl (oW x y) [s0,s1,s2,s3,s4,s5,s6,Δ (.str w),s8,s9]=.ok (.bl ((w == x)||(w == y))):=by
 unfold oW;cases h:(w == x) with
 | true=>simp![h]
 | false=>simp![h]
theorem p7 (n:Nat)(ns:List Int){k:Int}(k0:0<=k)(k1:k<=1000){gs:List Str}(LU:gs.length<=20){st:Str}(hs:st.length<=100)(c:Int)(mn w:Str)(w9:UU w∈rows)(Ko:gs=[]->J5 w=Ξ)(s2 s6:Option D) :
  ∃ cn:Cn,cI (aB T (n+3)) Pc [Δ (.lst Ξ (ns.map .int)),Δ (.int k),s2,Δ (.lst Ξ (gs.map .str)),Δ (.str st),Δ (.int c),s6,Δ (.str w),Δ (.str mn),Δ (.lst Θ [])]=.ok (.rt cn.t)/\Wf cn/\cn.w=w:=by
 have ei:=Ev.cJ ns;have eg:=Ev.cK gs;have lg:(gs.map D.str).length=gs.length:=i_ _;obtain⟨d,r2,d0,d1⟩:=HF (n+2) ns (k+2) 2 ⋯ ⋯ nofun;have lr:=ij (1+d);have key:∀ (b1 b2 b3 b4:Bool),UU w=[b1,b2,b3,b4]->((w == Ρ "is")||(w == Ρ "not"))=b1/\(w == Ρ "begins")=b2/\((w == Ρ "least")||(w == Ρ "most"))=b3/\J5 w=b4:=fun b1 b2 b3 b4 h=>by injection h with h1 h;injection h with h2 h;injection h with h3 h;injection h with h4 h;exact⟨h1,h2,h3,h4⟩
 have nl:∀ {b:Bool},((w == Ρ "least")||(w == Ρ "most"))=Ξ->(w == Ρ "least")=Θ∨(w == Ρ "most")=Θ->b=Θ:=fun h h'=>by rcases h' with h'|h'<;>rw[h'] at h<;>simp at h
 have H1:=fun s8 s9=>BP (aB T (n+3)) "is" "not" w (Δ (.lst Ξ (ns.map .int))) (Δ (.int k)) s2 (Δ (.lst Ξ (gs.map .str))) (Δ (.str st)) (Δ (.int c)) s6 s8 s9;have H2:∀ s8 s9:Option D,Fz (aB T (n+3)) (.cmp .eq (.v 7) (.c (.str "begins"))) [Δ (.lst Ξ (ns.map .int)),Δ (.int k),s2,Δ (.lst Ξ (gs.map .str)),Δ (.str st),Δ (.int c),s6,Δ (.str w),s8,s9]=.ok (.bl (w == Ρ "begins")):=fun _ _=>rfl;have H3:=fun s8 s9=>BP (aB T (n+3)) "least" "most" w (Δ (.lst Ξ (ns.map .int))) (Δ (.int k)) s2 (Δ (.lst Ξ (gs.map .str))) (Δ (.str st)) (Δ (.int c)) s6 s8 s9;have H4:=fun s8 s9=>BP (aB T (n+3)) "in" "out" w (Δ (.lst Ξ (ns.map .int))) (Δ (.int k)) s2 (Δ (.lst Ξ (gs.map .str))) (Δ (.str st)) (Δ (.int c)) s6 s8 s9;have fin:∀ (x:Str) (TS:List D),cI (aB T (n+3)) [(.ret (.tup [(.v 8),(.v 7),(.v 9)]))] [Δ (.lst Ξ (ns.map .int)),Δ (.int k),s2,Δ (.lst Ξ (gs.map .str)),Δ (.str st),Δ (.int c),s6,Δ (.str w),Δ (.str x),Δ (.lst Θ TS)]=.ok (.rt (.tup [.str x,.str w,.lst Θ TS])):=fun _ _=>rfl;have iu:((w == Ρ "in")||(w == Ρ "out"))=J5 w:=rfl;simp only[rows,k_,R_,or_false] at w9;rcases w9 with h|h|h|h|h<;>obtain⟨q1,q2,q3,q4⟩:=key _ _ _ _ h<;>rw[q1] at H1<;>rw[q2] at H2<;>rw[q3] at H3<;>rw[iu,q4] at H4<;>unfold Pc
 ·obtain⟨ts,eT,lT⟩:=xF n ns k0 k1 hs c d d0 d1;have lfT:=uV ts;refine⟨⟨mn,w,ts⟩,?_,⟨(by show ts.length<=100;omega),fun h=>(by rw[q2] at h;cases h),fun h=>absurd (nl (b:=Ξ) q3 h) nofun⟩,rfl⟩;rw[LS (H1 _ _) (τ':=[Δ (.lst Ξ (ns.map .int)),Δ (.int k),s2,Δ (.lst Ξ (gs.map .str)),Δ (.str st),Δ (.int c),s6,Δ (.str w),Δ (.str mn),Δ (.lst Θ (ts.map Tn.d))]) ?_,sk (H2 _ _),sk (H3 _ _),sk (H4 _ _),fin]
  ·rfl
  clear H1 H2 H3 H4 fin;unfold WX;generalize ns.map D.int=NS,gs.map D.str=GS,ts.map Tn.d=TS at *;simp![ei,r2,lr,eT,lfT]
 ·obtain⟨ys,eY,lY⟩:=BM n ns k0 k1 hs d d0 d1;obtain⟨zs,eZ,lZ⟩:=BN hs (aB T (n+3)) ys;have lfZ:ck (zs.map D.str)=Θ:=Ev.oz zs;have lfY:ck (ys.map D.str)=Θ:=Ev.oz ys;have lys:(ys.map D.str).length<=2:=by rw[i_];exact lY
  have ny:=Ev.cK ys;refine⟨⟨mn,w,zs.map Tn.s⟩,?_,⟨(by show (zs.map Tn.s).length<=100;rw[i_,lZ];omega),fun _ t ht=>(by obtain⟨z,_,rfl⟩:=List.mem_map.mp ht;exact⟨z,rfl⟩),fun h=>absurd (nl (b:=Ξ) q3 h) nofun⟩,rfl⟩;rw[sk (H1 _ _),LS (H2 _ _) (τ':=[Δ (.lst Ξ (ns.map .int)),Δ (.int k),s2,Δ (.lst Ξ (gs.map .str)),Δ (.str st),Δ (.int c),s6,Δ (.str w),Δ (.str mn),Δ (.lst Θ (zs.map .str))]) ?_,sk (H3 _ _),sk (H4 _ _),fin]
  ·show _=Except.ok (Fl.rt (D.tup [.str mn,.str w,.lst Θ ((zs.map Tn.s).map Tn.d)]));rw[<- BO zs]
  clear H1 H2 H3 H4 fin;unfold WY;generalize ns.map D.int=NS,gs.map D.str=GS,ys.map D.str=YS,zs.map D.str=ZS at *;simp![ei,r2,lr,eY,eZ,lfY,lfZ,ny]
 ·obtain⟨x,eX⟩:=hG (n+1) ns (k:=k+3) ⋯ ⋯ c;refine⟨⟨mn,w,[.i x]⟩,?_,⟨(by show 1<=100;omega),fun h=>(by rw[q2] at h;cases h),fun _=>⟨x,[],rfl⟩⟩,rfl⟩;rw[sk (H1 _ _),sk (H2 _ _),LS (H3 _ _) (τ':=[Δ (.lst Ξ (ns.map .int)),Δ (.int k),s2,Δ (.lst Ξ (gs.map .str)),Δ (.str st),Δ (.int c),s6,Δ (.str w),Δ (.str mn),Δ (.lst Θ [.int x])]) ?_,sk (H4 _ _),fin]
  ·rfl
  clear H1 H2 H3 H4 fin;unfold WZ;generalize ns.map D.int=NS,gs.map D.str=GS at *;simp![ei,eX]
 ·have g0:0 < gs.length:=by
   cases gs with
   | nil=>rw[Ko rfl] at q4;cases q4
   | cons=>simp
  have rg:=cU (n+2) ns (k+2) (gs.length:Int) ⋯ ⋯ ⋯;obtain⟨gn,hgn,_⟩:=dA (fs:=gs) (fX ns (k+2) (m:=(gs.length:Int)) ⋯) (fY ns (k+2) ⋯);generalize dr ns (k+2) (gs.length:Int)=ig at *;refine⟨⟨gn,w,[]⟩,?_,⟨(by show 0<=100;omega),fun h=>(by rw[q2] at h;cases h),fun h=>absurd (nl (b:=Ξ) q3 h) nofun⟩,rfl⟩;rw[sk (H1 _ _),sk (H2 _ _),sk (H3 _ _),LS (H4 _ _) (τ':=[Δ (.lst Ξ (ns.map .int)),Δ (.int k),s2,Δ (.lst Ξ (gs.map .str)),Δ (.str st),Δ (.int c),s6,Δ (.str w),Δ (.str gn),Δ (.lst Θ [])]) ?_,fin]
  ·rfl
  clear H1 H2 H3 H4 fin;unfold W0;generalize ns.map D.int=NS,gs.map D.str=GS at *;simp![ei,eg,lg,rg,hgn]
 ·refine⟨⟨mn,w,[]⟩,?_,⟨(by show 0<=100;omega),fun h=>(by rw[q2] at h;cases h),fun h=>absurd (nl (b:=Ξ) q3 h) nofun⟩,rfl⟩;rw[sk (H1 _ _),sk (H2 _ _),sk (H3 _ _),sk (H4 _ _),fin];rfl
theorem lP (n:Nat)(ns:List Int){k:Int}(k0:0<=k)(k1:k<=1000){ms gs:List Str}(hm:0 < ms.length)(Kx:ms.length<=20)(LU:gs.length<=20){st:Str}(hs:st.length<=100)(c:Int) :
  ∃ cn:Cn,aB T (n+4) 54 [.lst Ξ (ns.map .int),.int k,.lst Ξ (ms.map .str),.lst Ξ (gs.map .str),.str st,.int c]=.ok cn.t/\Wf cn/\(gs=[]->J5 cn.w=Ξ):=by
 have ei:=Ev.cJ ns;have em:=Ev.cK ms;have eg:=Ev.cK gs;have lm:(ms.map D.str).length=ms.length:=i_ _;have r1:=cU (n+2) ns (k+1) (ms.length:Int) ⋯ ⋯ ⋯;obtain⟨mn,Xe,_⟩:=dA (fs:=ms) (fX ns (k+1) (m:=(ms.length:Int)) ⋯) (fY ns (k+1) ⋯);generalize dr ns (k+1) (ms.length:Int)=i1 at *;have go:aB T (n+4) 54 [.lst Ξ (ns.map .int),.int k,.lst Ξ (ms.map .str),.lst Ξ (gs.map .str),.str st,.int c]=_:=gx 54 Ur 6 10 Q0 rfl rfl rfl rfl rfl rfl;have c7:((7:Nat):Int)=7:=rfl;have c9:((9:Nat):Int)=9:=rfl;have Xf:([D.str "is",.str "not",.str "begins",.str "least",.str "most",.str "has",.str "lacks"]).length=7:=rfl;cases hq:gs.isEmpty with
 | true=>
  have r0:=cU (n+2) ns k 7 k0 ⋯ nofun;obtain⟨w,hw,gw⟩:=dA (fs:=W7) (fX ns k (m:=7) nofun) (by have:=fY ns k (m:=7) nofun;exact this);generalize dr ns k 7=i0 at *;have wm:=aae gw;obtain⟨cn,e,wf,ew⟩:=p7 n ns k0 k1 LU hs c mn w (t9 w (r_ _ wm)) (fun _=>t7 w wm) (Δ (.lst Ξ (ms.map .str))) (Δ (.lst Θ (W7.map .str)));refine⟨cn,?_,wf,fun _=>by rw[ew];exact t7 w wm⟩;have w7:W7.map D.str=[D.str "is",.str "not",.str "begins",.str "least",.str "most",.str "has",.str "lacks"]:=rfl;rw[w7] at hw e;rw[go];unfold Q0;have nn:∀ o,G7 .ne (.lst o (gs.map .str)) (.lst Θ [])=.ok Ξ:=fun o=>by rw[ne_nil,List.isEmpty_map,hq];rfl
  generalize cn.t=CT,ns.map D.int=NS,ms.map D.str=MS,gs.map D.str=GS,Pc=tco at *;simp![ei,em,eg,lm,r0,r1,Xe,hw,nn,c7,Xf,e]
 | false=>
  have r0:=cU (n+2) ns k 9 k0 ⋯ nofun;obtain⟨w,hw,gw⟩:=dA (fs:=W9) (fX ns k (m:=9) nofun) (by have:=fY ns k (m:=9) nofun;exact this);generalize dr ns k 9=i0 at *;have wm:=aae gw;have Hq:gs=[]->False:=fun h=>by rw[h] at hq;cases hq
  obtain⟨cn,e,wf,ew⟩:=p7 n ns k0 k1 LU hs c mn w (t9 w wm) (fun h=>(Hq h).elim) (Δ (.lst Ξ (ms.map .str))) (Δ (.lst Θ (W9.map .str)));refine⟨cn,?_,wf,fun h=>(Hq h).elim⟩;have w9e:[D.str "is",.str "not",.str "begins",.str "least",.str "most",.str "has",.str "lacks"]++[D.str "in",.str "out"]=W9.map D.str:=rfl;have l9:(W9.map D.str).length=9:=rfl;have lfw:ck (W9.map D.str)=Θ:=Ev.oz W9;rw[go];unfold Q0;have nn:∀ o,G7 .ne (.lst o (gs.map .str)) (.lst Θ [])=.ok Θ:=fun o=>by rw[ne_nil,List.isEmpty_map,hq];rfl
  generalize W9.map D.str=WW,cn.t=CT,ns.map D.int=NS,ms.map D.str=MS,gs.map D.str=GS,Pc=tco at *;simp![ei,em,eg,lm,r0,r1,Xe,hw,nn,c7,c9,w9e,l9,Xf,lfw,e]
theorem Ey (c0 c1:Cn){r:Int}(h0:0<=r)(h1:r < 6):∃ (R:D) (rs:List (List Cn)),cH (.lst Θ [.lst Θ [],.lst Θ [.lst Θ []],.lst Θ [.lst Θ [c0.d]],.lst Θ [.lst Θ [c0.d,c1.d]],.lst Θ [.lst Θ [c0.d],.lst Θ [c1.d]],.lst Θ [.lst Θ [],.lst Θ [c0.d]]]) (.int r)=.ok R/\er R=.lst Ξ (rs.map GR)/\cq R=Ξ/\rs.length<=2/\∀ row∈rs,row.length<=2/\∀ c∈row,c=c0∨c=c1:=by
 have e0:=ku c0;have e1:=ku c1;rcases (show r=0∨r=1∨r=2∨r=3∨r=4∨r=5 by omega) with rfl|rfl|rfl|rfl|rfl|rfl
 ·exact⟨_,[],rfl,rfl,rfl,by simp,fun row h=>by simp at h⟩
 ·exact⟨_,[[]],rfl,rfl,rfl,by simp,fun row h=>by rw[u_.mp h];simp⟩
 ·exact⟨_,[[c0]],rfl,(by show D.lst Ξ [.lst Ξ [er c0.d]]=_;rw[e0];rfl),rfl,by simp,fun row h=>by rw[u_.mp h];simp⟩
 ·exact⟨_,[[c0,c1]],rfl,(by show D.lst Ξ [.lst Ξ [er c0.d,er c1.d]]=_;rw[e0,e1];rfl),rfl,by simp,fun row h=>by rw[u_.mp h];simp⟩
 ·exact⟨_,[[c0],[c1]],rfl,(by show D.lst Ξ [.lst Ξ [er c0.d],.lst Ξ [er c1.d]]=_;rw[e0,e1];rfl),rfl,by simp,fun row h=>by
   simp only[k_,R_,or_false] at h
   rcases h with rfl|rfl<;>simp⟩
 ·exact⟨_,[[],[c0]],rfl,(by show D.lst Ξ [.lst Ξ [],.lst Ξ [er c0.d]]=_;rw[e0];rfl),rfl,by simp,fun row h=>by
   simp only[k_,R_,or_false] at h
   rcases h with rfl|rfl<;>simp⟩
theorem xG (n:Nat)(ns:List Int){k:Int}(k0:0<=k)(k1:k<=600){ms:List Str}(hm:0 < ms.length)(Kx:ms.length<=20){st:Str}(hs:st.length<=100)(c:Int){g:Int}(g0:0<=g)(g1:g < 2) :
  ∃ c0 c1:Cn,cD (cL (aB T (n+4)) (.nm 6) [] (.call 54 [(.v 0),(.bin .add (.bin .add (.bin .add (.v 1) (.c (.int 70))) (.bin .mul (.c (.int 30)) (.v 2))) (.bin .mul (.c (.int 14)) (.v 6))),(.v 3),(.lst []),(.v 4),(.v 5)]) [Δ (.lst Ξ (ns.map .int)),Δ (.int k),Δ (.int g),Δ (.lst Ξ (ms.map .str)),Δ (.str st),Δ (.int c),Φ]) (cO 0 2)=.ok [c0.t,c1.t]/\(Wf c0/\J5 c0.w=Ξ)/\(Wf c1/\J5 c1.w=Ξ):=by
 have ei:=Ev.cJ ns;have em:=Ev.cK ms;have one:∀ j:Int,0<=j->j < 2->∃ cn:Cn,cL (aB T (n+4)) (.nm 6) [] (.call 54 [(.v 0),(.bin .add (.bin .add (.bin .add (.v 1) (.c (.int 70))) (.bin .mul (.c (.int 30)) (.v 2))) (.bin .mul (.c (.int 14)) (.v 6))),(.v 3),(.lst []),(.v 4),(.v 5)]) [Δ (.lst Ξ (ns.map .int)),Δ (.int k),Δ (.int g),Δ (.lst Ξ (ms.map .str)),Δ (.str st),Δ (.int c),Φ] (.int j)=.ok (Δ cn.t)/\Wf cn/\J5 cn.w=Ξ:=by intro j j0 j1;obtain⟨cn,e,wf,io⟩:=lP n ns (k:=k+70+30*g+14*j) ⋯ ⋯ hm Kx (gs:=[]) (by simp) hs c;have e:aB T (n+4) 54 [.lst Ξ (ns.map .int),.int (k+70+30*g+14*j),.lst Ξ (ms.map .str),.lst Ξ [],.str st,.int c]=.ok cn.t:=e;refine⟨cn,?_,wf,io rfl⟩;generalize ns.map D.int=NS,ms.map D.str=MS,cn.t=CT at *;simp![Ev.cy,ei,em,e]
 obtain⟨c0,e0,w0⟩:=one 0 nofun nofun;obtain⟨c1,e1,w1⟩:=one 1 nofun nofun;exact⟨c0,c1,gh e0 (gh e1 rfl),w0,w1⟩
theorem xH (n:Nat)(ns:List Int){k:Int}(k0:0<=k)(k1:k<=600){ms:List Str}(hm:0 < ms.length)(Kx:ms.length<=20){st:Str}(hs:st.length<=100)(c:Int){g:Int}(g0:0<=g)(g1:g < 2){fs:List Str}(hf:2<=fs.length){gs:List Gp}(Xg:gs.length<=10)(b7 b8 b9:Option D) :
  ∃ (gp:Gp) (c8 c9:Option D),Ev.turn (aB T (n+4)) (.nm 7) Pd (.int g) [Δ (.lst Ξ (ns.map .int)),Δ (.int k),Δ (.lst Ξ (ms.map .str)),Δ (.str st),Δ (.int c),Δ (.lst Θ (gs.map Gp.d)),Δ (.lst Ξ (fs.map .str)),b7,b8,b9]=.ok (.nx [Δ (.lst Ξ (ns.map .int)),Δ (.int k),Δ (.lst Ξ (ms.map .str)),Δ (.str st),Δ (.int c),Δ (.lst Θ ((gs++[gp]).map Gp.d)),Δ (.lst Ξ (fs.map .str)),Δ (.int g),c8,c9])/\fs[g.toNat]? = Δ gp.nm/\gp.rows.length<=2/\∀ row∈gp.rows,row.length<=2/\∀ c∈row,Wf c/\J5 c.w=Ξ:=by
 obtain⟨c0,c1,e0,w0,w1⟩:=xG n ns k0 k1 hm Kx hs c g0 g1;have d1:=cU (n+3) ns (k+6+g) 6 ⋯ ⋯ nofun;obtain⟨R,rs,e1,eR,lR,lrs,Xh⟩:=Ey c0 c1 (fX ns (k+6+g) (m:=6) nofun) (fY ns (k+6+g) nofun);generalize dr ns (k+6+g) 6=r at *;obtain⟨y,hy,gy⟩:=dA (fs:=fs) g0 ⋯;have ei:=Ev.cJ ns;have em:=Ev.cK ms;have ef:=Ev.cK fs;have t0:=vt c0;have t1:=vt c1;have Q4:FA [c0.t,c1.t]=[c0.d,c1.d]:=by show [er c0.t,er c1.t]=_;rw[t0,t1]
 have Q5:ck [c0.t,c1.t]=Ξ:=rfl;have s1:cZ [c0.d,c1.d] Φ (Δ 1)=[c0.d]:=rfl;have s2:cZ [c0.d,c1.d] (Δ 1) Φ=[c1.d]:=rfl;have l2:(cO 0 2).length=2:=rfl;have Xi:=ku c0;have Q6:=ku c1;have lg:(gs.map Gp.d).length=gs.length:=i_ _;have kp:cB (.comp TQ [0,1,7,2,3,4] (.nm 6) (.Gj (.c (.int 2))) [] (.call 54 [(.v 0),(.bin .add (.bin .add (.bin .add (.v 1) (.c (.int 70))) (.bin .mul (.c (.int 30)) (.v 2))) (.bin .mul (.c (.int 14)) (.v 6))),(.v 3),(.lst []),(.v 4),(.v 5)])) (.lst Θ [c0.t,c1.t]) [Δ (.lst Ξ (ns.map .int)),Δ (.int k),Δ (.lst Ξ (ms.map .str)),Δ (.str st),Δ (.int c),Δ (.lst Θ (gs.map Gp.d)),Δ (.lst Ξ (fs.map .str)),Δ (.int g),b8,b9]=(.lst Θ [c0.d,c1.d],[Δ (.lst Ξ (ns.map .int)),Δ (.int k),Δ (.lst Ξ (ms.map .str)),Δ (.str st),Δ (.int c),Δ (.lst Θ (gs.map Gp.d)),Δ (.lst Ξ (fs.map .str)),Δ (.int g),b8,b9]):=by show (D.lst Θ (FA [c0.t,c1.t]),[Δ (.lst Ξ (FA (ns.map .int))),Δ (.int k),Δ (.lst Ξ (FA (ms.map .str))),Δ (.str st),Δ (.int c),Δ (.lst Θ (gs.map Gp.d)),Δ (.lst Ξ (fs.map .str)),Δ (.int g),b8,b9])=_;rw[Q4,ei,em]
 have Sf:cB (.idx (.lst [(.lst []),(.lst [(.lst [])]),(.lst [(.sl (.v 8) Φ (Δ (.c (.int 1))))]),(.lst [(.v 8)]),(.lst [(.sl (.v 8) Φ (Δ (.c (.int 1)))),(.sl (.v 8) (Δ (.c (.int 1))) Φ)]),(.lst [(.lst []),(.sl (.v 8) Φ (Δ (.c (.int 1))))])]) (.call 43 [(.v 0),(.bin .add (.bin .add (.v 1) (.c (.int 6))) (.v 7)),(.c (.int 6))])) R [Δ (.lst Ξ (ns.map .int)),Δ (.int k),Δ (.lst Ξ (ms.map .str)),Δ (.str st),Δ (.int c),Δ (.lst Θ (gs.map Gp.d)),Δ (.lst Ξ (fs.map .str)),Δ (.int g),Δ (.lst Θ [c0.d,c1.d]),b9]=(.lst Ξ (rs.map GR),[Δ (.lst Ξ (ns.map .int)),Δ (.int k),Δ (.lst Ξ (ms.map .str)),Δ (.str st),Δ (.int c),Δ (.lst Θ (gs.map Gp.d)),Δ (.lst Ξ (fs.map .str)),Δ (.int g),Δ (.lst Ξ [c0.d,c1.d]),b9]):=by unfold cB;rw[d_ (by rw[lR];simp)];show (er R,[Δ (.lst Ξ (FA (ns.map .int))),Δ (.int k),Δ (.lst Ξ (ms.map .str)),Δ (.str st),Δ (.int c),Δ (.lst Θ (gs.map Gp.d)),Δ (.lst Ξ (fs.map .str)),Δ (.int g),Δ (.lst Ξ [er c0.d,er c1.d]),b9])=_;rw[eR,ei,Xi,Q6]
 refine⟨⟨y,rs⟩,Δ (.lst Ξ [c0.d,c1.d]),Δ (.lst Ξ (rs.map GR)),?_,gy,lrs,fun row hr=>⟨(Xh row hr).1,fun c hc=>?_⟩⟩
 ·have Nl:(gs++[(⟨y,rs⟩:Gp)]).map Gp.d=gs.map Gp.d++[.tup [.str y,.lst Ξ (rs.map GR)]]:=by rw[G_];rfl
  rw[Nl];unfold Pd;unfold TQ at *;have err:=lE rs;generalize ns.map D.int=NS,ms.map D.str=MS,fs.map D.str=FS,gs.map Gp.d=GS,rs.map GR=RS,c0.t=T0,c1.t=T1,c0.d=D0,c1.d=D1 at *;simp![Ev.cy,ei,em,ef,l2,e0,kp,Sf,s1,s2,d1,e1,eR,lR,hy,Xi,Q6,lg,err]
 ·rcases (Xh row hr).2 c hc with rfl|rfl
  ·exact w0
  ·exact w1
theorem oG {r:Int}{i:Nat}{x:D}(h:(cO 0 r)[i]? = Δ x):i < r.toNat/\x=.int (i:Nat):=by have hi:=(x_.mp h).1;rw[ij] at hi;unfold cO at h;rw[A_,List.getElem?_range ⋯] at h;have h':D.int (0+(i:Nat))=x:=D_ h;exact⟨hi,by rw[<- h',Int.zero_add]⟩
theorem qM (n:Nat)(ns:List Int){k:Int}(k0:0<=k)(k1:k<=600){ms:List Str}(hm:2<=ms.length)(Kx:ms.length<=20)(Ms:ms.Nodup){st:Str}(hs:st.length<=100)(c:Int) :
  ∃ gs:List Gp,aB T (n+5) 55 [.lst Ξ (ns.map .int),.int k,.lst Ξ (ms.map .str),.str st,.int c]=.ok (.lst Θ (gs.map Gp.d))/\Nk gs/\gs.length<=2/\∀ g∈gs,g.rows.length<=2/\∀ row∈g.rows,row.length<=2:=by
 obtain⟨A,eA,lA,ndA,_⟩:=jr (n+2) ns (k:=k) k0 ⋯ (c:=2) nofun nofun;obtain⟨r,d1,a0,a1⟩:=HF (n+3) ns (k+4) 2 ⋯ ⋯ nofun;obtain⟨fs,hf,lf,LN⟩:∃ fs:List Str,(∀ o,cH (.lst o [.lst Θ (A.map .str),.lst Θ (ms.map .str)]) (.int r)=.ok (.lst Θ (fs.map .str)))/\2<=fs.length/\fs.Nodup:=by
  rcases (show r=0∨r=1 by omega) with rfl|rfl
  ·exact⟨A,fun _=>rfl,by rw[lA];decide,ndA⟩
  ·exact⟨ms,fun _=>rfl,hm,Ms⟩
 obtain⟨q,d2,b0,b1⟩:=HF (n+3) ns (k+5) 3 ⋯ ⋯ nofun;obtain⟨τ',e,gs,c7,c8,c9,rfl,gl,Xj⟩:=Ev.dZ (its:=cO 0 q) (τ:=[Δ (.lst Ξ (ns.map .int)),Δ (.int k),Δ (.lst Ξ (ms.map .str)),Δ (.str st),Δ (.int c),Δ (.lst Θ []),Δ (.lst Ξ (fs.map .str)),Φ,Φ,Φ]) (body:=Ev.turn (aB T (n+4)) (.nm 7) Pd)
  (fun i τ=>∃ (gs:List Gp) (c7 c8 c9:Option D),τ=[Δ (.lst Ξ (ns.map .int)),Δ (.int k),Δ (.lst Ξ (ms.map .str)),Δ (.str st),Δ (.int c),Δ (.lst Θ (gs.map Gp.d)),Δ (.lst Ξ (fs.map .str)),c7,c8,c9]/\gs.length=i/\∀ (j:Nat) (g:Gp),gs[j]? = Δ g->fs[j]? = Δ g.nm/\g.rows.length<=2/\∀ row∈g.rows,row.length<=2/\∀ c∈row,Wf c/\J5 c.w=Ξ)
  ⟨[],Φ,Φ,Φ,rfl,rfl,fun j g h=>by simp at h⟩ (by
   rintro i x τ hx ⟨gs,b7,b8,b9,rfl,hl,UW⟩;obtain⟨hi,rfl⟩:=oG hx;obtain⟨gp,c8,c9,e,g1,g2,g3⟩:=xH n ns k0 k1 ⋯ Kx hs c (g:=(i:Int)) ⋯ ⋯ lf (gs:=gs) ⋯ b7 b8 b9;refine⟨_,e,gs++[gp],_,c8,c9,rfl,by rw[o_,hl];rfl,fun j g hj=>?_⟩;by_cases Tt:j < gs.length
   ·rw[aan Tt] at hj;exact UW j g hj
   ·rw[aaw ⋯] at hj;have LP:j=i:=by have:=(x_.mp hj).1;rw[W_] at this;omega
    rw[show j - gs.length=0 by omega] at hj;have h':gp=g:=D_ hj;subst h';rw[LP]
    exact⟨by rw[<- g1];congr 1,g2,g3⟩)
 rw[ij] at gl;have ei:=Ev.cJ ns;have em:=Ev.cK ms;have ef:=Ev.cK fs;have Jo:∀ g∈gs,g.rows.length<=2/\∀ row∈g.rows,row.length<=2/\∀ c∈row,Wf c/\J5 c.w=Ξ:=fun g hg=>by obtain⟨j,hj⟩:=aaz.mp hg;exact(Xj j g hj).2
 refine⟨gs,?_,⟨fun g hg row hr c hc=>((Jo g hg).2 row hr).2 c hc,?_,fun g hg=>⟨O_ (Jo g hg).1 nofun,fun row hr=>O_ ((Jo g hg).2 row hr).1 nofun⟩⟩,⋯,fun g hg=>⟨(Jo g hg).1,fun row hr=>((Jo g hg).2 row hr).1⟩⟩
 ·have go:aB T (n+5) 55 [.lst Ξ (ns.map .int),.int k,.lst Ξ (ms.map .str),.str st,.int c]=_:=gx 55 Ut 5 10 Us rfl rfl rfl rfl rfl rfl;rw[go];unfold Us;have kp:∀ b7 b8 b9:Option D,cB (.idx (.lst [(.call 44 [(.v 0),(.v 1),(.c (.int 2))]),(.bi .list [(.v 2)])]) (.call 43 [(.v 0),(.bin .add (.v 1) (.c (.int 4))),(.c (.int 2))])) (.lst Θ (fs.map .str)) [Δ (.lst Ξ (ns.map .int)),Δ (.int k),Δ (.lst Ξ (ms.map .str)),Δ (.str st),Δ (.int c),Δ (.lst Θ []),Φ,b7,b8,b9]=(.lst Ξ (fs.map .str),[Δ (.lst Ξ (ns.map .int)),Δ (.int k),Δ (.lst Ξ (ms.map .str)),Δ (.str st),Δ (.int c),Δ (.lst Θ []),Φ,b7,b8,b9]):=fun b7 b8 b9=>by show (D.lst Ξ (FA (fs.map .str)),[Δ (.lst Ξ (FA (ns.map .int))),Δ (.int k),Δ (.lst Ξ (FA (ms.map .str))),Δ (.str st),Δ (.int c),Δ (.lst Θ []),Φ,b7,b8,b9])=_;rw[ei,em,ef]
  generalize ns.map D.int=NS,ms.map D.str=MS,fs.map D.str=FS,A.map D.str=AS,gs.map Gp.d=GS,Pd=tgr at *;simp![ei,em,ef,eA,d1,d2,hf,kp,e]
 ·have:gs.map (·.nm)=fs.take gs.length:=by
   apply List.ext_getElem?;intro j;rw[A_];by_cases hj:j < gs.length
   ·rw[List.getElem?_take_of_lt hj,y_ hj];exact(Xj j gs[j] (y_ hj)).1.symm
   ·rw[List.getElem?_eq_none ⋯,List.getElem?_eq_none (by rw[L_];omega)];rfl
  rw[this];exact List.Nodup.sublist (List.take_sublist _ _) LN
theorem qN (n:Nat)(ns:List Int){k:Int}(k0:0<=k)(k1:k<=1000)(pl day:Int):∃ sg:List (Int×Int),aB T (n+2) 56 [.lst Ξ (ns.map .int),.int k,.int pl,.int day]=.ok (.lst Θ (sg.map FC))/\sg.length<=3:=by
 have d1:=cU n ns k 4 k0 ⋯ nofun;have d2:=cU n ns (k+1) 4 ⋯ ⋯ nofun;have b0:=fX ns (k+1) (m:=4) nofun;have b1:=fY ns (k+1) (m:=4) nofun;generalize dr ns k 4=a,dr ns (k+1) 4=q at *;have ei:=Ev.cJ ns;obtain⟨mx,Xk⟩:∃ mx:Int,ek .max2 [.int 0,.int (day - a)]=.ok (.int mx):=⟨_,rfl⟩
 obtain⟨τ',e,sg,f,c6,c7,rfl,gl⟩:=Ev.dZ (its:=cO 0 q) (τ:=[Δ (.lst Ξ (ns.map .int)),Δ (.int k),Δ (.int pl),Δ (.int day),Δ (.lst Θ []),Δ (.int mx),Φ,Φ]) (body:=Ev.turn (aB T (n+1)) (.nm 6) QF)
  (fun i τ=>∃ (sg:List (Int×Int)) (f:Int) (c6 c7:Option D),τ=[Δ (.lst Ξ (ns.map .int)),Δ (.int k),Δ (.int pl),Δ (.int day),Δ (.lst Θ (sg.map FC)),Δ (.int f),c6,c7]/\sg.length=i)
  ⟨[],mx,Φ,Φ,rfl,rfl⟩ (by
   rintro i x τ hx ⟨sg,f,b6,b7,rfl,hl⟩;obtain⟨hi,rfl⟩:=oG hx;have e1:=cU n ns (k+2+(i:Int)) 10008 ⋯ ⋯ nofun;have e2:=cU n ns (k+5+(i:Int)) 6 ⋯ ⋯ nofun;have c0:=fX ns (k+5+(i:Int)) (m:=6) nofun;have c1:=fY ns (k+5+(i:Int)) (m:=6) nofun;have e3:=cU n ns (k+8+(i:Int)) 3 ⋯ ⋯ nofun;generalize dr ns (k+2+(i:Int)) 10008=u,dr ns (k+5+(i:Int)) 6=v,dr ns (k+8+(i:Int)) 3=w at *;have UX:=Ev.O9 (o:=Θ) (xs:=[0,10007,pl,pl+1,pl,u]) (i:=v) c0 (by show v < 6;exact c1);have UX:cH (.lst Θ [.int 0,.int 10007,.int pl,.int (pl+1),.int pl,.int u]) (.int v)=.ok (.int ([0,10007,pl,pl+1,pl,u].getD v.toNat 0)):=UX;generalize ([0,10007,pl,pl+1,pl,u]:List Int).getD v.toNat 0=y at *;have lg:(sg.map FC).length=sg.length:=i_ _;refine⟨[Δ (.lst Ξ (ns.map .int)),Δ (.int k),Δ (.int pl),Δ (.int day),Δ (.lst Θ ((sg++[(f,y)]).map FC)),Δ (.int (f+1+w)),Δ (.int (i:Nat)),Δ (.lst Θ [.int 0,.int 10007,.int pl,.int (pl+1),.int pl,.int u])],?_,sg++[(f,y)],_,_,_,rfl,by rw[o_,hl];rfl⟩;have hm:(sg++[(f,y)]).map FC=sg.map FC++[.tup [.int f,.int y]]:=by rw[G_];rfl
   rw[hm];unfold QF;generalize ns.map D.int=NS,sg.map FC=SG at *
   simp![Ev.cy,ei,e1,e2,e3,UX,lg])
 rw[ij] at gl;refine⟨sg,?_,⋯⟩;have go:aB T (n+2) 56 [.lst Ξ (ns.map .int),.int k,.int pl,.int day]=_:=gx 56 Uv 4 8 Uu rfl rfl rfl rfl rfl rfl;rw[go];unfold Uu;have UY:(if day - a > 0 then day - a else 0)=mx:=by have:(.ok (.int (if day - a > 0 then day - a else 0)):Res D)=.ok (.int mx):=Xk;injection this with h1;injection h1
 generalize ns.map D.int=NS,sg.map FC=SG,QF=tsg at *;simp![ei,d1,d2,Xk,UY,e]
noncomputable def Oc.t:Oc->D
 | .face f=>.tup [.str "face",.str f]
 | .share f st=>.tup [.str "share",.str f,.lst Θ (st.map FC)]
 | .J7=>.tup [.str "lot"]
theorem Ez (o:Oc):er o.t=o.d:=by
 cases o with
 | share f st=>show D.tup [.str "share",.str f,.lst Ξ (FA (st.map FC))]=_;rw[cR];rfl
 | _=>rfl
theorem oH (n:Nat)(ns:List Int){k:Int}(k0:0<=k)(k1:k<=990){fs:List Str}(hf:0 < fs.length)(Kz:fs.length<=20)(pl day:Int):∃ o:Oc,aB T (n+3) 57 [.lst Ξ (ns.map .int),.int k,.lst Ξ (fs.map .str),.int pl,.int day]=.ok o.t/\∀ f sg,o=.share f sg->sg.length<=3:=by
 have ei:=Ev.cJ ns;have ef:=Ev.cK fs;have lf:(fs.map D.str).length=fs.length:=i_ _;have d1:=cU (n+1) ns (k+1) (fs.length:Int) ⋯ ⋯ ⋯;obtain⟨f,UZ,_⟩:=dA (fs:=fs) (fX ns (k+1) (m:=(fs.length:Int)) ⋯) (fY ns (k+1) ⋯);generalize dr ns (k+1) (fs.length:Int)=i1 at *;have d2:=cU (n+1) ns k 3 k0 ⋯ nofun;generalize dr ns k 3=q at *;obtain⟨sg,e,lsg⟩:=qN n ns (k:=k+2) ⋯ ⋯ pl day;cases q0:(q == 0) with
 | true=>refine⟨.face f,?_,fun f sg h=>by cases h⟩;show _=Except.ok (D.tup [.str "face",.str f]);rw[gx 57 PL 5 7 Ni rfl rfl rfl rfl rfl rfl];unfold Ni;generalize ns.map D.int=NS,fs.map D.str=FS at *;simp![ei,ef,lf,d1,UZ,d2,q0]
 | false=>
  cases q1:(q == 1) with
  | true=>refine⟨.share f sg,?_,fun f' sg' h=>by cases h;exact lsg⟩;show _=Except.ok (D.tup [.str "share",.str f,.lst Θ (sg.map FC)]);rw[gx 57 PL 5 7 Ni rfl rfl rfl rfl rfl rfl];unfold Ni;generalize ns.map D.int=NS,fs.map D.str=FS,sg.map FC=SG at *;simp![ei,ef,lf,d1,UZ,d2,q0,q1,e]
  | false=>refine⟨.J7,?_,fun f sg h=>by cases h⟩;show _=Except.ok (D.tup [.str "lot"]);rw[gx 57 PL 5 7 Ni rfl rfl rfl rfl rfl rfl];unfold Ni;generalize ns.map D.int=NS,fs.map D.str=FS at *;simp![ei,ef,lf,d1,UZ,d2,q0,q1]
theorem vw (cs:List Cn):FA (cs.map Cn.t)=cs.map Cn.d:=by rw[cA,H_];exact aah fun c _=>vt c
noncomputable def Rl.t (r:Rl):D:=.tup [GR r.cs,r.o.t]
theorem EA (r:Rl):er r.t=r.d:=by show D.tup [er (GR r.cs),er r.o.t]=_;rw[nu,Ez];rfl
theorem BQ (rs:List Rl):FA (rs.map Rl.t)=rs.map Rl.d:=by rw[cA,H_];exact aah fun c _=>EA c
theorem xI (n:Nat)(ns:List Int){k:Int}(k0:0<=k)(k1:k<=400){ms gn fs:List Str}(hm:0 < ms.length)(Kx:ms.length<=20)(LU:gn.length<=20)(hf:0 < fs.length)(Kz:fs.length<=20){st:Str}(hs:st.length<=100)(c pl day:Int)(a9:Option D)(i:Nat)(hi:i < 5){q:Int}(q0:0<=q)(q1:q < 3)(NV:Option D) :
  ∃ (cs:List Cn) (JG:Option D),forM (Ev.turn (aB T (n+4)) (.nm 12) Pe) (cO 0 q) [Δ (.lst Ξ (ns.map .int)),Δ (.int k),Δ (.lst Ξ (ms.map .str)),Δ (.lst Ξ (gn.map .str)),Δ (.lst Ξ (fs.map .str)),Δ (.str st),Δ (.int c),Δ (.int pl),Δ (.int day),a9,Δ (.int (i:Nat)),Δ (.lst Θ []),NV]=.ok (.nx [Δ (.lst Ξ (ns.map .int)),Δ (.int k),Δ (.lst Ξ (ms.map .str)),Δ (.lst Ξ (gn.map .str)),Δ (.lst Ξ (fs.map .str)),Δ (.str st),Δ (.int c),Δ (.int pl),Δ (.int day),a9,Δ (.int (i:Nat)),Δ (.lst Θ (cs.map Cn.t)),JG])/\cs.length<=2/\∀ c∈cs,Wf c:=by
 have ei:=Ev.cJ ns;have em:=Ev.cK ms;have eg:=Ev.cK gn;obtain⟨τ',e,cs,JG,rfl,hl,hw⟩:=Ev.dZ (its:=cO 0 q) (τ:=[Δ (.lst Ξ (ns.map .int)),Δ (.int k),Δ (.lst Ξ (ms.map .str)),Δ (.lst Ξ (gn.map .str)),Δ (.lst Ξ (fs.map .str)),Δ (.str st),Δ (.int c),Δ (.int pl),Δ (.int day),a9,Δ (.int (i:Nat)),Δ (.lst Θ []),NV]) (body:=Ev.turn (aB T (n+4)) (.nm 12) Pe)
  (fun j τ=>∃ (cs:List Cn) (JG:Option D),τ=[Δ (.lst Ξ (ns.map .int)),Δ (.int k),Δ (.lst Ξ (ms.map .str)),Δ (.lst Ξ (gn.map .str)),Δ (.lst Ξ (fs.map .str)),Δ (.str st),Δ (.int c),Δ (.int pl),Δ (.int day),a9,Δ (.int (i:Nat)),Δ (.lst Θ (cs.map Cn.t)),JG]/\cs.length=j/\∀ c∈cs,Wf c)
  ⟨[],NV,rfl,rfl,fun c h=>by simp at h⟩ (by
   rintro j x τ hx ⟨cs,JG,rfl,hl,hw⟩;obtain⟨hj,rfl⟩:=oG hx;obtain⟨cn,e,wf,_⟩:=lP n ns (k:=k+6+60*(i:Int)+14*(j:Int)) ⋯ ⋯ hm Kx (gs:=gn) LU hs c;have lc:cq cn.t=Ξ:=rfl;have ll:(cs.map Cn.t).length=cs.length:=i_ _;refine⟨[Δ (.lst Ξ (ns.map .int)),Δ (.int k),Δ (.lst Ξ (ms.map .str)),Δ (.lst Ξ (gn.map .str)),Δ (.lst Ξ (fs.map .str)),Δ (.str st),Δ (.int c),Δ (.int pl),Δ (.int day),a9,Δ (.int (i:Nat)),Δ (.lst Θ ((cs++[cn]).map Cn.t)),Δ (.int (j:Nat))],?_,cs++[cn],_,rfl,by rw[o_,hl];rfl,fun c hc=>?_⟩
   ·have Nl:(cs++[cn]).map Cn.t=cs.map Cn.t++[cn.t]:=by rw[G_];rfl
    rw[Nl];unfold Pe;generalize ns.map D.int=NS,ms.map D.str=MS,gn.map D.str=GN,fs.map D.str=FS,cs.map Cn.t=CS,cn.t=CT at *;simp![Ev.cy,ei,em,eg,e,lc,ll]
   ·rcases v_.mp hc with hc|hc
    ·exact hw c hc
    ·rw[u_.mp hc];exact wf)
 rw[ij] at hl;exact⟨cs,JG,e,⋯,hw⟩
theorem xJ (n:Nat)(ns:List Int){k:Int}(k0:0<=k)(k1:k<=400){ms gn fs:List Str}(hm:0 < ms.length)(Kx:ms.length<=20)(LU:gn.length<=20)(hf:0 < fs.length)(Kz:fs.length<=20){st:Str}(hs:st.length<=100)(c pl day:Int)(i:Nat)(hi:i < 5){rs:List Rl}(Tu:rs.length<=10)(b10 b11 NV:Option D) :
  ∃ (r:Rl) (NW JG:Option D),Ev.turn (aB T (n+4)) (.nm 10) Pf (.int (i:Nat)) [Δ (.lst Ξ (ns.map .int)),Δ (.int k),Δ (.lst Ξ (ms.map .str)),Δ (.lst Ξ (gn.map .str)),Δ (.lst Ξ (fs.map .str)),Δ (.str st),Δ (.int c),Δ (.int pl),Δ (.int day),Δ (.lst Θ (rs.map Rl.t)),b10,b11,NV]=.ok (.nx [Δ (.lst Ξ (ns.map .int)),Δ (.int k),Δ (.lst Ξ (ms.map .str)),Δ (.lst Ξ (gn.map .str)),Δ (.lst Ξ (fs.map .str)),Δ (.str st),Δ (.int c),Δ (.int pl),Δ (.int day),Δ (.lst Θ ((rs++[r]).map Rl.t)),Δ (.int (i:Nat)),NW,JG])/\(∀ c∈r.cs,Wf c)/\r.cs.length<=2/\∀ f sg,r.o=.share f sg->sg.length<=3:=by
 obtain⟨q,d1,q0,q1⟩:=HF (n+3) ns (k+1+(i:Int)) 3 ⋯ ⋯ nofun;obtain⟨cs,JG,e,lcs,wf⟩:=xI n ns k0 k1 hm Kx LU hf Kz hs c pl day (Δ (.lst Θ (rs.map Rl.t))) i hi q0 q1 NV;obtain⟨o,e2,ho⟩:=oH (n+1) ns (k:=k+40+60*(i:Int)) ⋯ ⋯ hf Kz pl day;have ei:=Ev.cJ ns;have ef:=Ev.cK fs;have ec:=vw cs;have ll:(rs.map Rl.t).length=rs.length:=i_ _;refine⟨⟨cs,o⟩,Δ (.lst Ξ (cs.map Cn.d)),JG,?_,wf,lcs,ho⟩;have Nl:(rs++[(⟨cs,o⟩:Rl)]).map Rl.t=rs.map Rl.t++[.tup [.lst Ξ (cs.map Cn.d),o.t]]:=by rw[G_];rfl
 rw[Nl];unfold Pf;generalize ns.map D.int=NS,ms.map D.str=MS,gn.map D.str=GN,fs.map D.str=FS,cs.map Cn.t=CT,cs.map Cn.d=CD,rs.map Rl.t=RT,o.t=OT,Pe=tin at *;cases lo:cq OT<;>simp![Ev.cy,ei,ef,d1,e,ec,e2,lo,ll]
theorem vx (n:Nat)(ns:List Int){k:Int}(k0:0<=k)(k1:k<=400){ms gn fs:List Str}(hm:0 < ms.length)(Kx:ms.length<=20)(LU:gn.length<=20)(hf:0 < fs.length)(Kz:fs.length<=20){st:Str}(hs:st.length<=100)(c pl day:Int):∃ rs:List Rl,aB T (n+5) 58 [(.lst Ξ (ns.map .int)),(.int k),(.lst Ξ (ms.map .str)),(.lst Ξ (gn.map .str)),(.lst Ξ (fs.map .str)),(.str st),(.int c),(.int pl),(.int day)]=.ok (.lst Θ (rs.map Rl.t))/\rs.length<=4/\∀ r∈rs,(∀ c∈r.cs,Wf c)/\r.cs.length<=2/\∀ f sg,r.o=.share f sg->sg.length<=3:=by
 obtain⟨q,d1,q0,q1⟩:=HF (n+3) ns k 5 k0 ⋯ nofun;have ei:=Ev.cJ ns;obtain⟨τ',e,rs,Kr,NW,JG,rfl,hl,hw⟩:=Ev.dZ (its:=cO 0 q) (τ:=[Δ (.lst Ξ (ns.map .int)),Δ (.int k),Δ (.lst Ξ (ms.map .str)),Δ (.lst Ξ (gn.map .str)),Δ (.lst Ξ (fs.map .str)),Δ (.str st),Δ (.int c),Δ (.int pl),Δ (.int day),Δ (.lst Θ []),Φ,Φ,Φ]) (body:=Ev.turn (aB T (n+4)) (.nm 10) Pf)
  (fun j τ=>∃ (rs:List Rl) (Kr NW JG:Option D),τ=[Δ (.lst Ξ (ns.map .int)),Δ (.int k),Δ (.lst Ξ (ms.map .str)),Δ (.lst Ξ (gn.map .str)),Δ (.lst Ξ (fs.map .str)),Δ (.str st),Δ (.int c),Δ (.int pl),Δ (.int day),Δ (.lst Θ (rs.map Rl.t)),Kr,NW,JG]/\rs.length=j/\∀ r∈rs,(∀ c∈r.cs,Wf c)/\r.cs.length<=2/\∀ f sg,r.o=.share f sg->sg.length<=3)
  ⟨[],Φ,Φ,Φ,rfl,rfl,fun c h=>by simp at h⟩ (by
   rintro j x τ hx ⟨rs,Kr,NW,JG,rfl,hl,hw⟩;obtain⟨hj,rfl⟩:=oG hx;obtain⟨r,d11,d12,e,h1⟩:=xJ n ns k0 k1 hm Kx LU hf Kz hs c pl day j ⋯ (rs:=rs) ⋯ Kr NW JG;refine⟨_,e,rs++[r],_,d11,d12,rfl,by rw[o_,hl];rfl,fun r' hr=>?_⟩;rcases v_.mp hr with hr|hr
   ·exact hw r' hr
   ·rw[u_.mp hr];exact h1)
 rw[ij] at hl;refine⟨rs,?_,⋯,hw⟩;have go:aB T (n+5) 58 [(.lst Ξ (ns.map .int)),(.int k),(.lst Ξ (ms.map .str)),(.lst Ξ (gn.map .str)),(.lst Ξ (fs.map .str)),(.str st),(.int c),(.int pl),(.int day)]=_:=gx 58 Ux 9 13 Uw rfl rfl rfl rfl rfl rfl;rw[go];unfold Uw;generalize ns.map D.int=NS,ms.map D.str=MS,gn.map D.str=GN,fs.map D.str=FS,rs.map Rl.t=RT,Pf=tou at *;simp![ei,d1,e]
section
variable (n:Nat)(ns:List Int){k:Int}(k0:0<=k)(k1:k<=1000){fs:List Str}(Kz:fs.length<=20)(s3 s4:Option D)(j:Nat)(hj:j < fs.length){ms:List (Str×Tn)}(hl:ms.length<=20)
include k0 k1 Kz hl in
theorem Fq {w:Int}(w0:0<=w)(t:Tn):∃ KA:List (Str×Tn),G3 (aB T (n+3)) QG [Δ (.lst Ξ (ns.map .int)),Δ (.int k),Δ (.lst Ξ (fs.map .str)),s3,s4,Δ (.lst Θ (ms.map G5)),Δ (.int (j:Nat)),Δ (.int w),Δ t.d]=.ok (.nx [Δ (.lst Ξ (ns.map .int)),Δ (.int k),Δ (.lst Ξ (fs.map .str)),s3,s4,Δ (.lst Θ (KA.map G5)),Δ (.int (j:Nat)),Δ (.int w),Δ t.d])/\(KA=ms∨∃ (q:Nat) (t:Tn),KA=ms.take q++(fs[j],t)::ms.drop q):=by
 have ei:=Ev.cJ ns;have ef:=Ev.cK fs;have et:=zv t;have lt:=Et t;obtain⟨q,d3,q0,q1⟩:=HF (n+2) ns (k+6+8*(j:Int)) ((ms.length:Int)+1) ⋯ ⋯ ⋯;obtain⟨nm,O1,Q7⟩:=dA (fs:=fs) (i:=(j:Int)) ⋯ ⋯;have IA:nm=fs[j]:=by rw[aax,y_ hj] at Q7;exact(D_ Q7).symm
 have lm:(ms.map G5).length=ms.length:=i_ _;have gd:decide (0<=q/\q.toNat<=ms.length)=Θ:=F_ ⋯;have U0:(ms.take q.toNat++(fs[j],t)::ms.drop q.toNat).map G5=(ms.map G5).take q.toNat++.tup [.str nm,t.d]::(ms.map G5).drop q.toNat:=by rw[G_,b_,List.map_take,List.map_drop,IA];rfl
 unfold QG;cases hw:decide (0 < w) with
 | false=>refine⟨ms,?_,.inl rfl⟩;generalize ns.map D.int=NS,fs.map D.str=FS,ms.map G5=MS,t.d=TD at *;simp![hw]
 | true=>
  refine⟨ms.take q.toNat++(fs[j],t)::ms.drop q.toNat,?_,.inr ⟨_,_,rfl⟩⟩;rw[U0];have Q8:cq (.tup [.str nm,t.d])=Θ:=by show (Θ&&(cq t.d&&Θ))=Θ;rw[lt];rfl
  generalize ns.map D.int=NS,fs.map D.str=FS,ms.map G5=MS at *;have kp:∀ e τ,cB e (.tup [.str nm,t.d]) τ=(.tup [.str nm,t.d],τ):=fun e τ=>by unfold cB;rw[f_ Q8]
  generalize t.d=TD at *;simp![hw,ei,ef,O1,d3,lm,gd,kp,lt,Q8,et]
include k0 k1 in
theorem Fs (LP:j<=20)(c:Int){st:Str}(hs:st.length<=100){w:Int}(w0:0<=w)(w1:w < 5)(x:Int)(s2 s5:Option D):∃ t:Tn,∀ F,G3 (aB T (n+3)) QG [Δ (.lst Ξ (ns.map .int)),Δ (.int k),s2,Δ (.str st),Δ (.int c),s5,Δ (.int (j:Nat)),Δ (.int w),Δ t.d]=.ok (.nx F)->cI (aB T (n+3)) QH [Δ (.lst Ξ (ns.map .int)),Δ (.int k),s2,Δ (.str st),Δ (.int c),s5,Δ (.int (j:Nat)),Δ (.int w),Δ (.int x)]=.ok (.nx F):=by
 have ei:=Ev.cJ ns;unfold QH;rcases (show w=0∨w=1∨w=2∨w=3∨w=4 by omega) with rfl|rfl|rfl|rfl|rfl
 ·refine⟨.i x,fun F e=>?_⟩;rw[sk rfl,sk rfl,sk rfl];exact nt e
 ·have d2:=cU (n+2) ns (k+2+8*(j:Int)) 3 ⋯ ⋯ nofun;have U1:=Ev.O9 (o:=Θ) (xs:=[1000000000,0 - 1000000000,c+3]) (i:=dr ns (k+2+8*(j:Int)) 3) (fX ns _ nofun) (fY ns (k+2+8*(j:Int)) (m:=3) nofun);generalize dr ns (k+2+8*(j:Int)) 3=u at *;have U1:cH (.lst Θ [.int 1000000000,.int (0 - 1000000000),.int (c+3)]) (.int u)=.ok (.int ([1000000000,0 - 1000000000,c+3].getD u.toNat 0)):=U1;generalize ([1000000000,0 - 1000000000,c+3]:List Int).getD u.toNat 0=y at *;have Mk:decide ((0:Int)<=9/\(9:Int)<=1000000/\Int.natAbs 10 < 2 ^ 64)=Θ:= nofun
  have hp2:((10:Int) ^ Int.toNat 9)=1000000000:= nofun
  refine⟨.i y,fun F e=>?_⟩;rw[LS rfl (τ':=[Δ (.lst Ξ (ns.map .int)),Δ (.int k),s2,Δ (.str st),Δ (.int c),s5,Δ (.int (j:Nat)),Δ (.int 1),Δ (.int y)]) ?_,sk rfl,sk rfl]
  ·exact nt e
  clear e;unfold W4;generalize ns.map D.int=NS at *;simp![ei,d2,Mk,hp2,U1]
 ·obtain⟨z,ez,lz⟩:=iz (n+1) ns (k:=k+3+8*(j:Int)) ⋯ ⋯ hs;refine⟨.s z,fun F e=>?_⟩;rw[sk rfl,LS rfl (τ':=[Δ (.lst Ξ (ns.map .int)),Δ (.int k),s2,Δ (.str st),Δ (.int c),s5,Δ (.int (j:Nat)),Δ (.int 2),Δ (.str z)]) ?_,sk rfl]
  ·exact nt e
  clear e;unfold TR;generalize ns.map D.int=NS at *;simp![ei,ez]
 ·obtain⟨z,ez,lz⟩:=iz (n+1) ns (k:=k+3+8*(j:Int)) ⋯ ⋯ hs;have aaR:(z++st).length<=300:=by rw[pX];omega
  have aaS:z.length+st.length<=300:=⋯
  refine⟨.s (Txt.slice (z++st) Φ (Δ 12)),fun F e=>?_⟩;rw[sk rfl,LS rfl (τ':=[Δ (.lst Ξ (ns.map .int)),Δ (.int k),s2,Δ (.str st),Δ (.int c),s5,Δ (.int (j:Nat)),Δ (.int 3),Δ (.str z)]) ?_,LS rfl (τ':=[Δ (.lst Ξ (ns.map .int)),Δ (.int k),s2,Δ (.str st),Δ (.int c),s5,Δ (.int (j:Nat)),Δ (.int 3),Δ (.str (Txt.slice (z++st) Φ (Δ 12)))]) ?_]
  ·exact nt e
  ·clear e;unfold W5;generalize ns.map D.int=NS at *;simp![FY]
  ·clear e;unfold TR;generalize ns.map D.int=NS at *;simp![ei,ez]
 ·refine⟨.i x,fun F e=>?_⟩;rw[sk rfl,sk rfl,sk rfl];exact nt e
end
theorem xK (n:Nat)(ns:List Int){k:Int}(k0:0<=k)(k1:k<=1000){fs:List Str}(Kz:fs.length<=20){st:Str}(hs:st.length<=100)(c:Int)(j:Nat)(hj:j < fs.length){ms:List (Str×Tn)}(hl:ms.length<=20)(b6 b7 b8:Option D) :
  ∃ (KA:List (Str×Tn)) (c7 c8:Option D),Ev.turn (aB T (n+3)) (.nm 6) Pg (.int (j:Nat)) [Δ (.lst Ξ (ns.map .int)),Δ (.int k),Δ (.lst Ξ (fs.map .str)),Δ (.str st),Δ (.int c),Δ (.lst Θ (ms.map G5)),b6,b7,b8]=.ok (.nx [Δ (.lst Ξ (ns.map .int)),Δ (.int k),Δ (.lst Ξ (fs.map .str)),Δ (.str st),Δ (.int c),Δ (.lst Θ (KA.map G5)),Δ (.int (j:Nat)),c7,c8])/\(KA=ms∨∃ (q:Nat) (t:Tn),KA=ms.take q++(fs[j],t)::ms.drop q):=by
 have ei:=Ev.cJ ns;obtain⟨w,d1,w0,w1⟩:=HF (n+2) ns (k+8*(j:Int)) 5 ⋯ ⋯ nofun;obtain⟨x,ex⟩:=hG (n+1) ns (k:=k+1+8*(j:Int)) ⋯ ⋯ c;obtain⟨t,h⟩:=Fs n ns k0 k1 j ⋯ c hs w0 w1 x (Δ (.lst Ξ (fs.map .str))) (Δ (.lst Θ (ms.map G5)));obtain⟨KA,e,hm⟩:=Fq n ns k0 k1 Kz (Δ (.str st)) (Δ (.int c)) j hj hl w0 t;have e2:=h _ e;refine⟨KA,Δ (.int w),Δ t.d,?_,hm⟩;unfold Pg;generalize ns.map D.int=NS,fs.map D.str=FS,ms.map G5=MS,KA.map G5=MS',QH=tm,t.d=TD at *;simp![Ev.cy,ei,d1,ex,e2]
theorem vy (n:Nat)(ns:List Int){k:Int}(k0:0<=k)(k1:k<=1000){fs:List Str}(Kz:fs.length<=20)(Ms:fs.Nodup){st:Str}(hs:st.length<=100)(c:Int) :
  ∃ ms:List (Str×Tn),aB T (n+4) 59 [(.lst Ξ (ns.map .int)),(.int k),(.lst Ξ (fs.map .str)),(.str st),(.int c)]=.ok (.lst Θ (ms.map G5))/\(ms.map (·.1)).Nodup/\ms.length<=20:=by
 have ei:=Ev.cJ ns;have ef:=Ev.cK fs;have lf:(fs.map D.str).length=fs.length:=i_ _;obtain⟨τ',e,ms,c6,c7,c8,rfl,U2,Jo,hl⟩:=Ev.dZ (its:=cO 0 (fs.length:Int)) (τ:=[Δ (.lst Ξ (ns.map .int)),Δ (.int k),Δ (.lst Ξ (fs.map .str)),Δ (.str st),Δ (.int c),Δ (.lst Θ []),Φ,Φ,Φ]) (body:=Ev.turn (aB T (n+3)) (.nm 6) Pg)
  (fun j τ=>∃ (ms:List (Str×Tn)) (c6 c7 c8:Option D),τ=[Δ (.lst Ξ (ns.map .int)),Δ (.int k),Δ (.lst Ξ (fs.map .str)),Δ (.str st),Δ (.int c),Δ (.lst Θ (ms.map G5)),c6,c7,c8]/\(ms.map (·.1)).Nodup/\(∀ p∈ms,p.1∈fs.take j)/\ms.length<=j)
  ⟨[],Φ,Φ,Φ,rfl,List.nodup_nil,fun p h=>by simp at h,by simp⟩ (by
   rintro j x τ hx ⟨ms,c6,c7,c8,rfl,hn,Jo,hl⟩;obtain⟨hj,rfl⟩:=oG hx;have hj:j < fs.length:=⋯
   obtain⟨KA,d7,d8,e,h⟩:=xK n ns k0 k1 Kz hs c j hj (ms:=ms) ⋯ c6 c7 c8;have sub:∀ y,y∈fs.take j->y∈fs.take (j+1):=fun y hy=>by rw[List.take_succ_eq_append_getElem hj];exact r_ _ hy
   refine⟨_,e,KA,_,d7,d8,rfl,?_⟩;rcases h with rfl|⟨q,t,rfl⟩
   ·exact⟨hn,fun p hp=>sub _ (Jo p hp),⋯⟩
   ·have pm:(ms.take q++(fs[j],t)::ms.drop q).Perm ((fs[j],t)::ms):=by refine List.perm_middle.trans ?_;rw[List.take_append_drop]
    refine⟨(pm.map (·.1)).nodup_iff.mpr ?_,fun p hp=>?_,?_⟩
    ·rw[b_,K_];refine⟨fun z=>?_,hn⟩;obtain⟨p,hp,e⟩:=List.mem_map.mp z;have h1:=Jo p hp;rw[e] at h1;obtain⟨i,hi,e2⟩:=List.mem_iff_getElem.mp h1;rw[L_] at hi;rw[List.getElem_take] at e2;exact List.pairwise_iff_getElem.mp Ms i j ⋯ hj ⋯ e2
    ·rcases k_.mp (pm.mem_iff.mp hp) with rfl|hp
     ·rw[List.take_succ_eq_append_getElem hj];exact s_ _ (u_.mpr rfl)
     ·exact sub _ (Jo p hp)
    ·rw[pm.length_eq,List.length_cons];omega)
 rw[ij] at hl;refine⟨ms,?_,U2,⋯⟩;have go:aB T (n+4) 59 [(.lst Ξ (ns.map .int)),(.int k),(.lst Ξ (fs.map .str)),(.str st),(.int c)]=_:=gx 59 Uz 5 9 Uy rfl rfl rfl rfl rfl rfl;rw[go];unfold Uy;generalize ns.map D.int=NS,fs.map D.str=FS,ms.map G5=MS,Pg=tmk at *;simp![ei,ef,lf,e]
theorem ju {α:Type}(f:α->D)(o:Bool){xs:List α}{i:Int}{a:α}(h0:0<=i)(h:xs[i.toNat]? = Δ a):cH (.lst o (xs.map f)) (.int i)=.ok (f a):=by
 have hl:i.toNat < xs.length:=(x_.mp h).1;have e:Hh (xs.map f) i=Δ (f a):=by unfold Hh Hg;rw[f_ h0,f_ (show i < ((xs.map f).length:Nat) by rw[i_];omega)];show (xs.map f)[i.toNat]? = _;rw[A_,h];rfl
 show (match Hh (xs.map f) i with|some d=>.ok d|none=>F5:Res D)=_;rw[e]
theorem p8 (o:Bool)(r:List D)(p:D):cH (.lst o (r++[p])) (.int (-1))=.ok p:=by
 have e:Hh (r++[p]) (-1)=Δ p:=by unfold Hh Hg;rw[d_ nofun,o_,W_,f_ ⋯];show (r++[p])[((-1:Int)+((r.length+1:Nat):Int)).toNat]? = _;rw[show ((-1:Int)+((r.length+1:Nat):Int)).toNat=r.length by omega];simp
 show (match Hh (r++[p]) (-1) with|some d=>.ok d|none=>F5:Res D)=_;rw[e]
def Rn (b:Nat)(r:List (Int×Int)):Prop:=r.length<=b/\∀ p∈r,p.1<=p.2
theorem Rn.le {b c:Nat}{r:List (Int×Int)}(h:Rn b r)(l:b<=c):Rn c r:=⟨O_ h.1 l,h.2⟩
theorem Rn.add {b:Nat}{q:List (Int×Int)}{p:Int×Int}(h:Rn b q)(hp:p.1<=p.2):Rn (b+1) (q++[p]):=⟨by rw[o_];exact Nat.succ_le_succ h.1,fun x hx=>by
 rcases v_.mp hx with hx|hx
 ·exact h.2 x hx
 ·rw[u_.mp hx];exact hp⟩
noncomputable def Hm (r:List (Int×Int)):D:=.lst Θ (r.map FC)
noncomputable def Xl (r:List (Int×Int)):D:=.lst Ξ (r.map FC)
theorem BR (rs:List (List (Int×Int))):FA (rs.map Hm)=rs.map Xl:=by rw[cA,H_];refine aah fun p _=>?_;show D.lst Ξ (FA (p.map FC))=_;rw[cR];rfl
theorem oI (r:List (Int×Int)):ck (r.map FC)=Θ:=by rw[dg,List.all_map];exact V_.mpr fun _ _=>rfl
theorem BU {cl:Nat->List D->Res D}{i j k:Nat}{c x v w:IR}{ds es:List D}{τ:Ev}(h:ds[k]? = Δ (.lst Θ es))(hf:ck es=Θ)(hj:nY τ j=Θ) :
  nZ cl i j c x v w ds τ (Δ k)=Fu (Fu (Fz cl c (τ.set j (Δ (.lst Θ es)))) cM) (qE cl i j k x v w ds es τ):=by
 show (match ds[k]? with|some (.lst Θ es)=>FE (ck es&&nY τ j) (Fu (Fu (Fz cl c (τ.set j (Δ (.lst Θ es)))) cM) (qE cl i j k x v w ds es τ))|_=>F5)=_;rw[h];show FE (ck es&&nY τ j) _=_;rw[hf,hj];rfl
theorem xM (cl:Nat->List D->Res D)(s0 s1 s2 s3 s4 s5 s7 Lv:Option D)(low high:Int){rs:List (List (Int×Int))}{k b:Nat}(hk:k < rs.length)(hb:b<=100)(lh:low<=high)(hr:∀ r∈rs,Rn b r) :
  ∃ KC:List (List (Int×Int)),nZ cl 6 10 NN Ph Pj QI (rs.map Hm) [s0,s1,s2,s3,s4,s5,Δ (.lst Θ (rs.map Hm)),s7,Δ (.int low),Δ (.int high),Lv] (Δ k)=.ok (.nx [s0,s1,s2,s3,s4,s5,Δ (.lst Θ (KC.map Hm)),s7,Δ (.int low),Δ (.int high),Φ])/\KC.length=rs.length/\∀ r∈KC,Rn (b+1) r:=by
 have hg:(rs.map Hm)[k]? = Δ (.lst Θ (rs[k].map FC)):=by rw[A_,y_ hk];rfl
 have hm:=hr _ (aak hk);generalize rs[k]=r at *;have key:∀ r':List (Int×Int),Rn (b+1) r'->∀ x∈rs.set k r',Rn (b+1) x:=fun r' h x hx=>by
  rcases List.mem_or_eq_of_mem_set hx with hx|rfl
  ·exact(hr x hx).le (Nat.le_succ b)
  ·exact h
 have out:∀ r':List (Int×Int),(rs.set k r').map Hm=(rs.map Hm).set k (.lst Θ (r'.map FC)):=fun r'=>by rw[List.map_set];rfl
 have add:AK 6 10 k (rs.map Hm) (r.map FC) [s0,s1,s2,s3,s4,s5,Δ (.lst Θ (rs.map Hm)),s7,Δ (.int low),Δ (.int high),Lv] (.tup [.int low,.int high])=.ok (.nx [s0,s1,s2,s3,s4,s5,Δ (.lst Θ ((rs.set k (r++[(low,high)])).map Hm)),s7,Δ (.int low),Δ (.int high),Φ]):=by have h2:dP (r.map FC).length=Θ:=Ev.jk (by rw[i_];have:=hm.1;omega);show FE (Θ&&dP (r.map FC).length) _=_;rw[h2,out,G_];rfl
 rw[BU hg (oI r) rfl];rcases List.eq_nil_or_concat r with rfl|⟨q,⟨p1,p2⟩,rfl⟩
 ·refine⟨rs.set k ([]++[(low,high)]),?_,List.length_set,key _ (hm.add lh)⟩;rw[<- add];generalize rs.map Hm=RS at *;have hc:Fz cl NN ([s0,s1,s2,s3,s4,s5,Δ (.lst Θ RS),s7,Δ (.int low),Δ (.int high),Lv].set 10 (Δ (.lst Θ (([]:List (Int×Int)).map FC))))=.ok (.bl Ξ):=rfl;rw[hc];rfl
 ·rw[List.concat_eq_append] at *;have P0:cH (.lst Θ ((q++[(p1,p2)]).map FC)) (.int (-1))=.ok (.tup [.int p1,.int p2]):=by rw[G_];exact p8 Θ _ _
  have Hq:∀ f:D->D->Res Bool,eN f ((q++[(p1,p2)]).map FC) []=.ok Ξ:=fun f=>by
   rw[G_];cases q with
   | nil=>rfl
   | cons a q=>rfl
  have lq:((q++[(p1,p2)]).map FC).length=q.length+1:=by rw[i_,o_];rfl
  cases hc:(p2 == low) with
  | true=>
   have h2:p1<=p2:=hm.2 (p1,p2) (s_ _ (u_.mpr rfl));have h3:p2=low:=by simpa using hc
   have h4:Rn b q:=⟨O_ (by rw[o_];exact aaj _ _) hm.1,fun x hx=>hm.2 x (r_ _ hx)⟩
   refine⟨rs.set k (q++[(p1,high)]),?_,List.length_set,key _ (h4.add (by show p1<=high;omega))⟩;have hs:wH 6 10 k (rs.map Hm) ((q++[(p1,p2)]).map FC) [s0,s1,s2,s3,s4,s5,Δ (.lst Θ (rs.map Hm)),s7,Δ (.int low),Δ (.int high),Lv] (.tup [.int p1,.int high]) (.int (-1))=.ok (.nx [s0,s1,s2,s3,s4,s5,Δ (.lst Θ ((rs.set k (q++[(p1,high)])).map Hm)),s7,Δ (.int low),Δ (.int high),Φ]):=by
    have hi:Hg ((q++[(p1,p2)]).map FC).length (-1)=Δ q.length:=by rw[lq];unfold Hg;rw[d_ nofun,f_ ⋯];congr 1;omega
    show (match Hg ((q++[(p1,p2)]).map FC).length (-1) with
     | some t=>FE Θ (.ok (.nx [s0,s1,s2,s3,s4,s5,Δ (.lst Θ ((rs.map Hm).set k (.lst Θ (((q++[(p1,p2)]).map FC).set t (.tup [.int p1,.int high]))))),s7,Δ (.int low),Δ (.int high),Φ]))
     | none=>F5:Res Fl)=_
    rw[hi];show Except.ok (Fl.nx [s0,s1,s2,s3,s4,s5,Δ (.lst Θ ((rs.map Hm).set k (.lst Θ (((q++[(p1,p2)]).map FC).set q.length (.tup [.int p1,.int high]))))),s7,Δ (.int low),Δ (.int high),Φ])=_;rw[out,G_,G_];have:(q.map FC++[(p1,p2)].map FC).set q.length (.tup [.int p1,.int high])=q.map FC++[(p1,high)].map FC:=by rw[List.set_append_right _ _ (by rw[i_];exact m_ _),i_,Nat.sub_self];rfl
    rw[this]
   rw[<- hs];generalize rs.map Hm=RS,(q++[(p1,p2)]).map FC=Q at *;unfold NN Ph Pj qE;simp![P0,Hq,hc]
  | false=>refine⟨rs.set k ((q++[(p1,p2)])++[(low,high)]),?_,List.length_set,key _ (hm.add lh)⟩;rw[<- add];generalize rs.map Hm=RS,(q++[(p1,p2)]).map FC=Q at *;unfold NN Ph Pj QI qE;simp![P0,Hq,hc]
theorem xN (n:Nat)(ns:List Int){k:Int}(k0:0<=k)(k1:k<=1000)(s2 s3 s4 s8 s9 Lv:Option D){zs:List (Int×Int)}{j:Nat}(hj:j < zs.length)(hz:zs.length<=100)(R9:∀ p∈zs,p.1<=p.2)(s7:Option D){rs:List (List (Int×Int))}(h0:0 < rs.length)(hr:∀ r∈rs,Rn j r) :
  ∃ (KC:List (List (Int×Int))) (c8 c9:Option D),Ev.turn (aB T (n+1)) (.nm 7) NO (.int (j:Nat)) [Δ (.lst Ξ (ns.map .int)),Δ (.int k),s2,s3,s4,Δ (.lst Ξ (zs.map FC)),Δ (.lst Θ (rs.map Hm)),s7,s8,s9,Lv]=.ok (.nx [Δ (.lst Ξ (ns.map .int)),Δ (.int k),s2,s3,s4,Δ (.lst Ξ (zs.map FC)),Δ (.lst Θ (KC.map Hm)),Δ (.int (j:Nat)),c8,c9,Φ])/\KC.length=rs.length/\∀ r∈KC,Rn (j+1) r:=by
 have ei:=Ev.cJ ns;have lr:(rs.map Hm).length=rs.length:=i_ _;obtain⟨q,d1,q0,q1⟩:=HF n ns (k+8+(j:Int)) (rs.length:Int) ⋯ ⋯ ⋯;have hx:cH (.lst Ξ (zs.map FC)) (.int (j:Int))=.ok (.tup [.int (zs[j]).1,.int (zs[j]).2]):=ju FC Ξ (a:=zs[j]) ⋯ (by rw[aax,y_ hj]);have lh:=R9 _ (aak hj);generalize (zs[j]).1=lo,(zs[j]).2=hi at *;have hq:Hg rs.length q=Δ q.toNat:=by unfold Hg;rw[f_ q0,f_ q1]
 obtain⟨KC,e,h1,h2⟩:=xM (aB T (n+1)) (Δ (.lst Ξ (ns.map .int))) (Δ (.int k)) s2 s3 s4 (Δ (.lst Ξ (zs.map FC))) (Δ (.int (j:Nat))) Lv lo hi (rs:=rs) (k:=q.toNat) (b:=j) ⋯ ⋯ lh hr;refine⟨KC,Δ (.int lo),Δ (.int hi),?_,h1,h2⟩;unfold NO;generalize NN=ca,Ph=xa,Pj=va,QI=wa,ns.map D.int=NS,zs.map FC=ZS,rs.map Hm=RS,KC.map Hm=RS' at *;simp![Ev.cy,ei,lr,hx,d1,hq,e]
theorem p9 {g:D->Res (Option D)}{P:Int->Prop}:∀ (xs:List Int),(∀ x∈xs,g (.int x)=.ok (Δ (.int x))/\P x∨g (.int x)=.ok Φ)->∃ ys:List Int,cD g (xs.map .int)=.ok (ys.map .int)/\ys.length<=xs.length/\∀ y∈ys,P y
 | [],_=>⟨[],rfl,m_ _,fun y hy=>by cases hy⟩
 | x::xs,h=>by
  obtain⟨ys,e,hl,hp⟩:=p9 (P:=P) xs fun z hz=>h z (I_ _ hz);rcases h x (.head _) with ⟨hx,px⟩|hx
  ·refine⟨x::ys,by rw[b_];unfold cD;rw[hx];show Fu (cD g (xs.map .int)) _=_;rw[e];rfl,Nat.succ_le_succ hl,fun y hy=>?_⟩;rcases k_.mp hy with rfl|hy
   ·exact px
   ·exact hp y hy
  ·exact⟨ys,by rw[b_];unfold cD;rw[hx];exact e,Nat.le_succ_of_le hl,hp⟩
noncomputable def JH (p:Str×List (Int×Int)):D:=.tup [.str p.1,.lst Θ (p.2.map FC)]
theorem vz (al:Al):FA (al.map JH)=al.map GU:=by rw[cA,H_];refine aah fun p _=>?_;show D.tup [.str p.1,.lst Ξ (FA (p.2.map FC))]=_;rw[cR];rfl
theorem jv {α β:Type}(f:α->β)(xs:List α)(lo hi:Option Int):cZ (xs.map f) lo hi=(cZ xs lo hi).map f:=by unfold cZ;rw[i_,<- List.map_drop,<- List.map_take]
theorem lQ {α:Type}(xs:List α)(lo hi:Option Int):(cZ xs lo hi).length<=xs.length:=by unfold cZ;rw[L_,aaa];omega
theorem zA:∀ xs:List Int,fu (xs.map .int)=Δ xs
 | []=>rfl
 | x::xs=>by show (fu (xs.map .int)).map (x::·)=_;rw[zA xs];rfl
theorem qa:∀ (xs s:List Int) {y:Int},y∈xs.foldl step_dedup s->y∈s∨y∈xs
 | [],s,y,h=>.inl h
 | x::xs,s,y,h=>by
  rcases qa xs _ h with h|h
  ·unfold step_dedup at h;split at h
   ·exact .inl h
   ·rcases v_.mp h with h|h
    ·exact .inl h
    ·rw[u_.mp h];exact .inr (.head _)
  ·exact .inr (.tail _ h)
theorem BV {xs:List Int}{y:Int}(h:y∈dd xs):y∈xs:=(qa xs [] h).resolve_left (by simp)
theorem BW {o:Bool}{xs:List Int}(h:xs.length < 64):∃ ys:List Int,oX (.lst o (xs.map .int))=.ok (.lst Θ (ys.map .int))/\ys.length<=xs.length/\ys.Pairwise (·<=·)/\∀ y∈ys,y∈xs:=by refine⟨PySem.W.sortI (dd xs),?_,by rw[(PySem.W.sortI_perm _).length_eq];exact rX xs,PySem.W.sortI_rises _,fun y hy=>BV ((PySem.W.sortI_perm _).mem_iff.mp hy)⟩;show (match fu (xs.map .int) with|some ns=>FE (decide (ns.length < 64)) (.ok (.lst Θ ((PySem.W.sortI (dd ns)).map .int)))|none=>F5:Res D)=_;rw[zA];show FE (decide (xs.length < 64)) _=_;rw[F_ h];rfl
theorem zC:∀ (xs ys:List Int),eB (xs.map .int) (ys.map .int)=(xs.zip ys).map FC
 | [],_=>rfl
 | _::_,[]=>rfl
 | x::xs,y::ys=>by have:=zC xs ys;unfold eB at this ⊢;rw[b_,b_,List.zipWith_cons_cons,this];rfl
theorem nv {α:Type}(xs:List α){m:Int}(h:0<=m):cZ xs (Δ m) Φ=xs.drop m.toNat:=by
 unfold cZ HT.Iu;simp only;rw[d_ ⋯];by_cases hm:m.toNat<=xs.length
 ·rw[show min m.toNat xs.length=m.toNat from Nat.min_eq_left hm,List.take_of_length_le (by rw[aaa];omega)]
 ·rw[show min m.toNat xs.length=xs.length from Nat.min_eq_right ⋯,List.drop_length,List.take_nil,List.drop_of_length_le ⋯]
theorem vA (c:Int):∀ xs:List Int,xs.Pairwise (·<=·)->(∀ x∈xs,x < c)->∀ p∈xs.zip (xs.drop 1++[c]),p.1<=p.2
 | [],_,_,p,hp=>by cases hp
 | [x],_,h,p,hp=>by have:p=(x,c):=u_.mp hp;rw[this];exact Int.le_of_lt (h x (.head _))
 | x::y::r,hs,h,p,hp=>by
  rcases k_.mp (show p∈(x,y)::(y::r).zip ((y::r).drop 1++[c]) from hp) with rfl|hp
  ·exact(List.pairwise_cons.mp hs).1 y (.head _)
  ·exact vA c (y::r) (List.pairwise_cons.mp hs).2 (fun z hz=>h z (.tail _ hz)) p hp
theorem xO (fs:List Str)(rs:List (List (Int×Int))):((jc (fs.length:Int)).map fun j=>(fs.getD j.toNat (Ρ ""),rs.getD j.toNat [])).map (·.1)=fs:=by
 unfold jc;rw[H_,H_];apply List.ext_getElem?;intro i;rw[A_];by_cases h:i < fs.length
 ·rw[List.getElem?_range ⋯,y_ h];show Δ (fs.getD ((0:Int)+(i:Nat)).toNat _)=_;rw[show ((0:Int)+(i:Nat)).toNat=i by omega,aat,y_ h];rfl
 ·rw[List.getElem?_eq_none (by rw[aam];omega),List.getElem?_eq_none ⋯];rfl
theorem vB (n:Nat)(ns:List Int){k:Int}(k0:0<=k)(k1:k<=1000){fs:List Str}(JI:0 < fs.length)(hf:fs.length<=20)(pl:Int) :
  ∃ (al:Al) (fr:List (Int×Int)),aB T (n+2) 48 [.lst Ξ (ns.map .int),.int k,.lst Ξ (fs.map .str),.int pl]=.ok (.tup [.lst Θ (al.map GU),.lst Ξ (fr.map FC)])/\al.map (·.1)=fs/\(∀ p∈al,p.2.length<=20)/\Rn 20 fr:=by
 have ei:=Ev.cJ ns;have ef:=Ev.cK fs;have Xm:(fs.map D.str).length=fs.length:=i_ _;obtain⟨m,d1,a0,a1⟩:=HF n ns (k+6) 5 ⋯ ⋯ nofun;have rn:cO 0 m=(jc m).map .int:=Ev.jl 0 m;have ln:((jc m).map D.int).length=m.toNat:=by rw[i_,jq]
 have Xn:cD (cL (aB T (n+1)) (.nm 2) [] (.call 43 [(.v 0),(.bin .add (.v 1) (.v 2)),(.c (.int 10007))]) [Δ (.lst Ξ (ns.map .int)),Δ (.int k),Φ]) ((jc m).map .int)=.ok (((jc m).map fun j=>dr ns (k+j) 10007).map .int):=by refine Ev.dF .int (fun j=>dr ns (k+j) 10007) .int _ fun j hj=>?_;have:=kn hj;have d2:=cU n ns (k+j) 10007 ⋯ ⋯ nofun;generalize ns.map D.int=NS at *;simp![ei,d2]
 have lu:((jc m).map fun j=>dr ns (k+j) 10007).length=m.toNat:=by rw[i_,jq]
 generalize ((jc m).map fun j=>dr ns (k+j) 10007)=us at *;have lus:(us.map D.int).length=m.toNat:=by rw[i_,lu]
 obtain⟨ws,Q9,lw,U3⟩:=p9 (P:=fun x=>x < 10007) (g:=cL (aB T (n+1)) (.nm 0) [(.cmp .lt (.v 0) (.c (.int 10007)))] (.v 0) [Φ]) (0::pl::(pl+1)::us) (fun x hx=>by
  cases h:decide (x < 10007) with
  | true=>exact .inl ⟨by simp![h],q_ h⟩
  | false=>right;simp![h])
 have Q9:cD (cL (aB T (n+1)) (.nm 0) [(.cmp .lt (.v 0) (.c (.int 10007)))] (.v 0) [Φ]) (.int 0::.int pl::.int (pl+1)::us.map .int)=.ok (ws.map .int):=Q9;rw[List.length_cons,List.length_cons,List.length_cons] at lw;obtain⟨xs,ess,lx,sx,mx⟩:=BW (o:=Θ) (xs:=ws) ⋯;have OO:FA (xs.map D.int)=xs.map D.int:=Ev.cJ xs;have ews:ck (ws.map D.int)=Θ:=Ev.uw ws;have hz:eB (xs.map .int) (cZ (xs.map .int) (Δ 1) Φ++[.int 10007])=(xs.zip (cZ xs (Δ 1) Φ++[10007])).map FC:=by rw[jv,<- zC,G_];rfl
 have aaW:(cZ (xs.map D.int) (Δ 1) Φ).length<=20:=by have:=lQ (xs.map D.int) (Δ 1) Φ;rw[i_] at this;omega
 have lz:(xs.zip (cZ xs (Δ 1) Φ++[10007])).length<=10:=by rw[List.length_zip];omega
 have NX:∀ p∈xs.zip (cZ xs (Δ 1) Φ++[10007]),p.1<=p.2:=by rw[nv xs nofun];exact vA 10007 xs sx fun x hx=>U3 x (mx x hx)
 generalize (xs.zip (cZ xs (Δ 1) Φ++[10007]))=zs at *;have lzs:dn (zs.map FC).length=Θ:=Ev.g9 (by rw[i_];omega);have ez:=cR zs;have ezr:FA (zs.map FC).reverse=zs.reverse.map FC:=by rw[<- List.map_reverse];exact cR _
 have d3:=cU n ns (k+7) 2 ⋯ ⋯ nofun;generalize dr ns (k+7) 2=w at *;have main:∀ ys:List (Int×Int),ys.length<=10->(∀ p∈ys,p.1<=p.2)->∀ s4:Option D,∃ (rs:List (List (Int×Int))) (c7 c8 c9 Kr:Option D),forM (Ev.turn (aB T (n+1)) (.nm 7) NO) (cO 0 (ys.length:Int)) [Δ (.lst Ξ (ns.map .int)),Δ (.int k),Δ (.lst Ξ (fs.map .str)),Δ (.int pl),s4,Δ (.lst Ξ (ys.map FC)),Δ (.lst Θ (.lst Θ []::Τ fs.length (.lst Θ []))),Φ,Φ,Φ,Φ]=.ok (.nx [Δ (.lst Ξ (ns.map .int)),Δ (.int k),Δ (.lst Ξ (fs.map .str)),Δ (.int pl),s4,Δ (.lst Ξ (ys.map FC)),Δ (.lst Θ (rs.map Hm)),c7,c8,c9,Kr])/\rs.length=fs.length+1/\(∀ r∈rs,Rn 20 r):=by
  intro ys hy NX s4;obtain⟨τ',e,rs,c7,c8,c9,Kr,rfl,hl,hr⟩:=Ev.dZ (its:=cO 0 (ys.length:Int)) (τ:=[Δ (.lst Ξ (ns.map .int)),Δ (.int k),Δ (.lst Ξ (fs.map .str)),Δ (.int pl),s4,Δ (.lst Ξ (ys.map FC)),Δ (.lst Θ (.lst Θ []::Τ fs.length (.lst Θ []))),Φ,Φ,Φ,Φ]) (body:=Ev.turn (aB T (n+1)) (.nm 7) NO)
   (fun j τ=>∃ (rs:List (List (Int×Int))) (c7 c8 c9 Kr:Option D),τ=[Δ (.lst Ξ (ns.map .int)),Δ (.int k),Δ (.lst Ξ (fs.map .str)),Δ (.int pl),s4,Δ (.lst Ξ (ys.map FC)),Δ (.lst Θ (rs.map Hm)),c7,c8,c9,Kr]/\rs.length=fs.length+1/\∀ r∈rs,Rn j r)
   ⟨[]::Τ fs.length [],Φ,Φ,Φ,Φ,by rw[b_,List.map_replicate];rfl,by simp,fun r hr=>by
    have e:r=[]:=by
     rcases k_.mp hr with rfl|hr
     ·rfl
     ·exact List.eq_of_mem_replicate hr
    rw[e]
    exact⟨m_ _,fun p hp=>by cases hp⟩⟩ (by
    rintro j x τ hx ⟨rs,c7,c8,c9,Kr,rfl,hl,hr⟩;obtain⟨hj,rfl⟩:=oG hx;obtain⟨KC,d8,d9,e,h1,h2⟩:=xN n ns k0 k1 (Δ (.lst Ξ (fs.map .str))) (Δ (.int pl)) s4 c8 c9 Kr (zs:=ys) (j:=j) ⋯ ⋯ NX c7 (rs:=rs) ⋯ hr
    exact⟨_,e,KC,_,d8,d9,Φ,rfl,⋯,h2⟩)
  refine⟨rs,c7,c8,c9,Kr,e,hl,fun r h=>?_⟩;have:=hr r h;rw[ij] at this;exact this.le ⋯
 have fin:∀ rs:List (List (Int×Int)),rs.length=fs.length+1->(∀ r∈rs,Rn 20 r)->∃ (al:Al) (fr:List (Int×Int)),(∀ o o',cD (cL (aB T (n+1)) (.nm 2) [] (.tup [(.idx (.v 0) (.v 2)),(.idx (.v 1) (.v 2))]) [Δ (.lst o (fs.map .str)),Δ (.lst o' (rs.map Hm)),Φ]) (cO 0 (fs.length:Int))=.ok (al.map JH))/\(∀ o,cH (.lst o (FA (rs.map Hm))) (.int (fs.length:Int))=.ok (.lst Ξ (fr.map FC)))/\al.map (·.1)=fs/\(∀ p∈al,p.2.length<=20)/\Rn 20 fr:=by
  intro rs hl hr;have Xo:fs.length < rs.length:=⋯
  have gj:∀ {j:Int},j∈jc (fs.length:Int)->rs.getD j.toNat []∈rs/\rs[j.toNat]? = Δ (rs.getD j.toNat []):=fun {j} hj=>by
   have LP:=kn hj;have Xp:j.toNat < rs.length:=⋯
   rw[aat,y_ Xp];exact⟨aak Xp,rfl⟩
  refine⟨(jc (fs.length:Int)).map fun j=>(fs.getD j.toNat (Ρ ""),rs.getD j.toNat []),rs[fs.length],fun o o'=>?_,fun o=>by
   rw[BR]
   exact ju Xl o (a:=rs[fs.length]) ⋯ (by rw[aax,y_ Xo]),xO fs rs,fun p hp=>?_,hr _ (aak Xo)⟩
  ·rw[Ev.jl 0 (fs.length:Int)];refine Ev.dF .int (fun j=>(fs.getD j.toNat (Ρ ""),rs.getD j.toNat [])) JH (jc (fs.length:Int)) fun j hj=>?_;have LP:=kn hj;obtain⟨nm,O1,Q7⟩:=dA (fs:=fs) (i:=j) LP.1 LP.2;have hx2:∀ o,cH (.lst o (rs.map Hm)) (.int j)=.ok (.lst Θ ((rs.getD j.toNat []).map FC)):=fun o=>ju Hm o LP.1 (gj hj).2;have en:fs.getD j.toNat (Ρ "")=nm:=by rw[aat,Q7];rfl
   show _=Except.ok (Δ (D.tup [.str (fs.getD j.toNat (Ρ "")),.lst Θ ((rs.getD j.toNat []).map FC)]));rw[en];generalize (rs.getD j.toNat []).map FC=RJ,rs.map Hm=RS,fs.map D.str=FS at *;simp![O1,hx2]
  ·obtain⟨j,hj,rfl⟩:=List.mem_map.mp hp;exact(hr _ (gj hj).1).1
 have nl1:∀ a b,cN (.HL a b)=Ξ:=fun _ _=>rfl;have nl2:∀ a,cN (.sset a)=Ξ:=fun _=>rfl;have nl3:∀ a,cN (.HK a)=Ξ:=fun _=>rfl;have v1:vars (.HL (.v 4) (.bin .add (.sl (.v 4) (Δ (.c (.int 1))) Φ) (.lst [(.c (.int 10007))])))=[4,4]:=rfl;have v2:∀ a,vars (.sset a)=vars a:=fun _=>rfl;have v3:∀ a,vars (.HK a)=vars a:=fun _=>rfl;have v4:∀ G fr t s i e,vars (.comp G fr t s i e)=fr++ff s:=fun _ _ _ _ _ _=>rfl;have v5:ff (.val (.v 4))=[4]:=rfl;have v6:ff (.Gj (.bi .len [(.v 2)]))=[2]:=rfl;have eus:ck (us.map D.int)=Θ:=Ev.uw us;have gz:∀ x y:List D,oV (.lst Ξ x) (.lst Θ y)=FE (dn (eB x y).length) (.ok (.lst Θ (eB x y))):=fun _ _=>rfl;have lap:dn ((cZ (xs.map D.int) (Δ 1) Φ).length+1)=Θ:=Ev.g9 ⋯;have lfs:dP fs.length=Θ:=Ev.jk ⋯;have lrn:(cO 0 (fs.length:Int)).length=fs.length:=by rw[ij];omega
 have U4:∀ al:Al,al.map (·.1)=fs->ck (al.map JH)=Ξ:=fun al h=>by
  cases al with
  | nil=>rw[<- h] at JI;exact absurd JI nofun
  | cons=>rfl
 have tl:∀ ys:List (Int×Int),ys.length<=10->(∀ p∈ys,p.1<=p.2)->∃ (al:Al) (fr:List (Int×Int)),cI (aB T (n+1)) TV [Δ (.lst Ξ (ns.map .int)),Δ (.int k),Δ (.lst Ξ (fs.map .str)),Δ (.int pl),Δ (.lst Ξ (xs.map .int)),Δ (.lst Ξ (ys.map FC)),Φ,Φ,Φ,Φ,Φ]=.ok (.rt (.tup [.lst Θ (al.map GU),.lst Ξ (fr.map FC)]))/\al.map (·.1)=fs/\(∀ p∈al,p.2.length<=20)/\Rn 20 fr:=fun ys hy NX=>by obtain⟨rs,c7,c8,c9,Kr,e,hl,hr⟩:=main ys hy NX (Δ (.lst Ξ (xs.map .int)));obtain⟨al,fr,fm3,hi,h1,h2,h3⟩:=fin rs hl hr;refine⟨al,fr,?_,h1,h2,h3⟩;have ea:=vz al;have U5:=U4 al h1;have efr:=cR fr;have lzl:(ys.map FC).length=ys.length:=i_ _;have ez:=cR ys;clear main fin Xn Q9;unfold TV;generalize ns.map D.int=NS,fs.map D.str=FS,xs.map D.int=XS,ys.map FC=ZS,rs.map Hm=RS,al.map JH=AT,al.map GU=AD,fr.map FC=FR,NO=tal at *;simp![ei,ef,Xm,ez,v4,v6,lfs,lrn,e,fm3,hi,ea,U5,efr,lzl]
 have hd:cI (aB T (n+1)) PC [Δ (.lst Ξ (ns.map .int)),Δ (.int k),Δ (.lst Ξ (fs.map .str)),Δ (.int pl),Φ,Φ,Φ,Φ,Φ,Φ,Φ]=cI (aB T (n+1)) Pk [Δ (.lst Ξ (ns.map .int)),Δ (.int k),Δ (.lst Ξ (fs.map .str)),Δ (.int pl),Δ (.lst Ξ (xs.map .int)),Δ (.lst Ξ (zs.map FC)),Φ,Φ,Φ,Φ,Φ]:=by unfold PC;clear main fin tl;have lw2:dP (m.toNat+1+1+1)=Θ:=Ev.jk ⋯;generalize ns.map D.int=NS,fs.map D.str=FS,us.map D.int=US,ws.map D.int=WS,xs.map D.int=XS,(jc m).map D.int=JS,zs.map FC=ZS,Pk=ta at *;simp![ei,ef,Xm,d1,rn,ln,Xn,lus,Q9,ess,OO,ews,hz,lzs,ez,nl1,nl2,v1,v2,v4,v5,eus,gz,lap]
 have hc:Fz (aB T (n+1)) TU [Δ (.lst Ξ (ns.map .int)),Δ (.int k),Δ (.lst Ξ (fs.map .str)),Δ (.int pl),Δ (.lst Ξ (xs.map .int)),Δ (.lst Ξ (zs.map FC)),Φ,Φ,Φ,Φ,Φ]=.ok (.bl (w == 0)):=by clear main fin tl hd;unfold TU;generalize ns.map D.int=NS,fs.map D.str=FS,xs.map D.int=XS,zs.map FC=ZS at *;simp![ei,d3]
 have U6:∃ (al:Al) (fr:List (Int×Int)),cI (aB T (n+1)) Pk [Δ (.lst Ξ (ns.map .int)),Δ (.int k),Δ (.lst Ξ (fs.map .str)),Δ (.int pl),Δ (.lst Ξ (xs.map .int)),Δ (.lst Ξ (zs.map FC)),Φ,Φ,Φ,Φ,Φ]=.ok (.rt (.tup [.lst Θ (al.map GU),.lst Ξ (fr.map FC)]))/\al.map (·.1)=fs/\(∀ p∈al,p.2.length<=20)/\Rn 20 fr:=by
  unfold Pk;cases hw:(w == 0) with
  | false=>rw[hw] at hc;rw[sk hc];exact tl zs ⋯ NX
  | true=>
   rw[hw] at hc;rw[LS hc (τ':=[Δ (.lst Ξ (ns.map .int)),Δ (.int k),Δ (.lst Ξ (fs.map .str)),Δ (.int pl),Δ (.lst Ξ (xs.map .int)),Δ (.lst Ξ (zs.reverse.map FC)),Φ,Φ,Φ,Φ,Φ]) ?_]
   ·exact tl zs.reverse (by rw[List.length_reverse];omega) (fun p hp=>NX p (List.mem_reverse.mp hp))
   have ezz:=cR zs.reverse;rw[<- List.map_reverse] at ezr;have erv:(zs.map FC).reverse=zs.reverse.map FC:=(List.map_reverse).symm;clear main fin tl hd hc;generalize ns.map D.int=NS,fs.map D.str=FS,xs.map D.int=XS,zs.reverse.map FC=ZR,zs.map FC=ZS at *;simp![ez,nl3,v3,ezz,erv]
 obtain⟨al,fr,e,h1⟩:=U6;refine⟨al,fr,?_,h1⟩;rw[gx 48 Um 4 11 PC rfl rfl rfl rfl rfl rfl];unfold PC;exact congrArg (fun r=>Fu r _) (hd.trans e)
theorem vC {α:Type}{n:Nat}{e:α->D}:∀ (xs:List α),(∀ x∈xs,pl n (e x)=Θ)->Hz n (xs.map e)=Θ
 | [],_=>rfl
 | x::xs,h=>by show (pl n (e x)&&Hz n (xs.map e))=Θ;rw[h x (.head _),vC xs fun y hy=>h y (.tail _ hy)];rfl
theorem gk {α:Type}{n:Nat}{e:α->D}{xs:List α}(hl:xs.length<=100)(h:∀ x∈xs,pl n (e x)=Θ):pl (n+1) (.lst Ξ (xs.map e))=Θ:=by have d1:decide ((xs.map e).length < 1000)=Θ:=F_ (by rw[i_];omega);show (Θ&&(Hz n (xs.map e)&&decide ((xs.map e).length < 1000)))=Θ;rw[vC xs h,d1];rfl
theorem EB {c:Cn}(wf:Wf c):pl 7 c.d=Θ:=by
 have h:=gk (n:=5) (e:=Tn.d) (xs:=c.ts) wf.len fun t _=>by cases t<;>rfl
 show ((Θ&&(Θ&&(pl 6 (.lst Ξ (c.ts.map Tn.d))&&Θ)))&&Θ)=Θ;rw[h];rfl
theorem zF {r:List Cn}(hl:r.length<=100)(h:∀ c∈r,Wf c):pl 8 (GR r)=Θ:=gk hl fun c hc=>EB (h c hc)
theorem EC {gs:List Gp}(hg:Nk gs)(hl:gs.length<=100):pl 11 (HW gs)=Θ:=gk hl fun g NT=>by have h:=gk (n:=8) (e:=GR) (xs:=g.rows) (hg.len g NT).1 fun r hr=>zF ((hg.len g NT).2 r hr) fun c hc=>(hg.ok g NT r hr c hc).1;show ((Θ&&(pl 9 (.lst Ξ (g.rows.map GR))&&Θ))&&Θ)=Θ;rw[h];rfl
theorem oJ (n:Nat){l:List (Int×Int)}(hl:l.length<=100):pl (n+3) (.lst Ξ (l.map FC))=Θ:=gk hl fun _ _=>rfl
theorem ED {r:Rl}(h:(∀ c∈r.cs,Wf c)/\r.cs.length<=2/\∀ f sg,r.o=.share f sg->sg.length<=3):pl 9 r.d=Θ:=by
 have h1:=zF (r:=r.cs) ⋯ h.1;have h2:pl 8 r.o.d=Θ:=by
  cases ho:r.o with
  | face f=>rfl
  | share f sg=>have:=h.2.2 f sg ho;have h3:=oJ 4 (l:=sg) ⋯;show ((Θ&&(Θ&&(pl 7 (.lst Ξ (sg.map FC))&&Θ)))&&Θ)=Θ;rw[h3];rfl
  | J7=>rfl
 show ((pl 8 (GR r.cs)&&(pl 8 r.o.d&&Θ))&&Θ)=Θ;rw[h1,h2];rfl
theorem EE {al:Al}{fr:List (Int×Int)}(h1:al.length<=100)(h2:∀ p∈al,p.2.length<=60)(h3:fr.length<=20):pl 10 (GO al fr)=Θ:=by
 have a1:=gk (n:=8) (e:=GU) h1 fun p hp=>by have:=h2 p hp;have h3:=oJ 4 (l:=p.2) ⋯;show ((Θ&&(pl 7 (.lst Ξ (p.2.map FC))&&Θ))&&Θ)=Θ;rw[h3];rfl
 have a2:=oJ 6 (l:=fr) ⋯;show ((pl 9 (.lst Ξ (al.map GU))&&(pl 9 (.lst Ξ (fr.map FC))&&Θ))&&Θ)=Θ;rw[a1,a2];rfl
theorem vD {salt rest:Str}{rs:List Rl}(hr:rs.length<=100)(wf:∀ r∈rs,(∀ c∈r.cs,Wf c)/\r.cs.length<=2/\∀ f sg,r.o=.share f sg->sg.length<=3){al:Al}{fr:List (Int×Int)}(h1:al.length<=100)(h2:∀ p∈al,p.2.length<=60)(h3:fr.length<=20):pl 11 (Gy salt rest rs al fr)=Θ:=by have a2:=gk (n:=9) (e:=Rl.d) hr fun r hr=>ED (wf r hr);have a3:=EE h1 h2 h3;show ((Θ&&(Θ&&(pl 10 (.lst Ξ (rs.map Rl.d))&&(pl 10 (GO al fr)&&Θ))))&&Θ)=Θ;rw[a2,a3];rfl
def Gw (a b:List (Int×Int)):Prop:=∀ z,inR z a=Θ->inR z b=Θ
theorem qb (z:Int)(a b:List (Int×Int)):inR z (a++b)=(inR z a||inR z b):=List.any_append
theorem xP (cl:Nat->List D->Res D)(s0 s1 s3 s4:Option D){g:List (Int×Int)}{b:Nat}(hb:b<=100)(hg:g.length<=b){low high:Int}(lh:low<=high) :
  ∃ g',Ev.turn cl (.tp [(.nm 3),(.nm 4)]) Pl (FC (low,high)) [s0,s1,Δ (.lst Θ (g.map FC)),s3,s4]=.ok (.nx [s0,s1,Δ (.lst Θ (g'.map FC)),Δ (.int low),Δ (.int high)])/\Gw g g'/\g'.length<=b+1:=by
 have app:Gw g (g++[(low,high)])/\(g++[(low,high)]).length<=b+1:=⟨fun z h=>by rw[qb,h];rfl,by rw[o_];exact Nat.succ_le_succ hg⟩
 have lg:(g.map FC).length<=100:=by rw[i_];omega
 have Nl:(g++[(low,high)]).map FC=g.map FC++[.tup [.int low,.int high]]:=by rw[G_];rfl
 unfold Pl W6 FC;rcases List.eq_nil_or_concat g with rfl|⟨q,⟨p1,p2⟩,rfl⟩
 ·exact⟨_,rfl,app⟩
 ·rw[List.concat_eq_append] at *;have P0:∀ o,cH (.lst o ((q++[(p1,p2)]).map FC)) (.int (-1))=.ok (.tup [.int p1,.int p2]):=fun o=>by rw[G_];exact p8 o _ _
  have Hq:∀ f:D->D->Res Bool,eN f ((q++[(p1,p2)]).map FC) []=.ok Ξ:=fun f=>by
   rw[G_];cases q with
   | nil=>rfl
   | cons a q=>rfl
  have lq:((q++[(p1,p2)]).map FC).length=q.length+1:=by rw[i_,o_];rfl
  have hi:Hg (q.length+1) (-1)=Δ q.length:=by unfold Hg;rw[d_ nofun,f_ ⋯];congr 1;omega
  cases hc:(p2 == low) with
  | true=>
   have h3:p2=low:=by simpa using hc
   refine⟨q++[(p1,high)],?_,fun z h=>?_,by rw[o_] at hg ⊢;exact Nat.le_succ_of_le hg⟩
   ·have hs:((q++[(p1,p2)]).map FC).set q.length (.tup [.int p1,.int high])=(q++[(p1,high)]).map FC:=by rw[G_,List.set_append_right _ _ (by rw[i_];exact m_ _),i_,Nat.sub_self,G_];rfl
    show Ev.turn cl _ _ (.tup [.int low,.int high]) [s0,s1,Δ (.lst Θ ((q++[(p1,p2)]).map FC)),s3,s4]=.ok (.nx [s0,s1,Δ (.lst Θ ((q++[(p1,high)]).map FC)),Δ (.int low),Δ (.int high)]);generalize (q++[(p1,p2)]).map FC=Q,(q++[(p1,high)]).map FC=Q' at *;simp![Ev.cy,P0,Hq,hc,lq,hi,hs]
   ·rw[qb] at h ⊢;cases hq:inR z q with
    | true=>rfl
    | false=>rw[hq] at h;have h5:(PY z (p1,p2)||false)=Θ:=h;rw[Bool.or_false] at h5;have h6:=z_.mp (show (decide (p1<=z)&&decide (z < p2))=Θ from h5);have h7:=q_ h6.2;show (Ξ||((decide (p1<=z)&&decide (z < high))||false))=Θ;rw[h6.1,F_ (show z < high by omega)];rfl
  | false=>refine⟨(q++[(p1,p2)])++[(low,high)],?_,app⟩;rw[show ((q++[(p1,p2)])++[(low,high)]).map (fun p=>D.tup [.int p.1,.int p.2])=_ from Nl];show Ev.turn cl _ _ (.tup [.int low,.int high]) [s0,s1,Δ (.lst Θ ((q++[(p1,p2)]).map FC)),s3,s4]=.ok (.nx [s0,s1,Δ (.lst Θ ((q++[(p1,p2)]).map FC++[.tup [.int low,.int high]])),Δ (.int low),Δ (.int high)]);generalize (q++[(p1,p2)]).map FC=Q at *;simp![Ev.cy,P0,Hq,hc]
theorem qc (cl:Nat->List D->Res D)(s0 s1:Option D):∀ (rg g:List (Int×Int)) (s3 s4:Option D),(∀ p∈rg,p.1<=p.2)->g.length+rg.length<=100->∃ g' c3 c4,forM (Ev.turn cl (.tp [(.nm 3),(.nm 4)]) Pl) (rg.map FC) [s0,s1,Δ (.lst Θ (g.map FC)),s3,s4]=.ok (.nx [s0,s1,Δ (.lst Θ (g'.map FC)),c3,c4])/\Gw g g'/\g'.length<=g.length+rg.length
 | [],g,s3,s4,_,_=>⟨g,s3,s4,rfl,fun _ h=>h,m_ _⟩
 | p::rg,g,s3,s4,h,hl=>by rw[List.length_cons] at hl;obtain⟨g1,e1,w1,l1⟩:=xP cl s0 s1 s3 s4 (g:=g) (b:=g.length) ⋯ (m_ _) (h p (.head _));obtain⟨g2,c3,c4,e2,w2,l2⟩:=qc cl s0 s1 rg g1 (Δ (.int p.1)) (Δ (.int p.2)) (fun q hq=>h q (.tail _ hq)) ⋯;refine⟨g2,c3,c4,?_,fun z h=>w2 z (w1 z h),by rw[List.length_cons];omega⟩;rw[b_,Ev.fD,show FC p=FC (p.1,p.2) from rfl,e1];exact e2
theorem qO (n:Nat){run rg:List (Int×Int)}(h:∀ p∈rg,p.1<=p.2)(hl:run.length+rg.length<=100):∃ g,aB T (n+1) 62 [.lst Ξ (run.map FC),.lst Ξ (rg.map FC)]=.ok (.lst Θ (g.map FC))/\Gw run g/\g.length<=run.length+rg.length:=by obtain⟨g,c3,c4,e,w,l⟩:=qc (aB T n) (Δ (.lst Ξ (run.map FC))) (Δ (.lst Ξ (rg.map FC))) rg run Φ Φ h hl;refine⟨g,?_,w,l⟩;have e1:=cR run;have e2:=cR rg;have lf:=oI run;rw[gx 62 UD 2 5 UC rfl rfl rfl rfl rfl rfl];unfold UC;generalize run.map FC=RN,rg.map FC=RG,g.map FC=G,Pl=tgw at *;simp![e1,e2,lf,e]
theorem vE {α:Type}{xs:List α}{lo hi:Option Int}{x:α}(h:x∈cZ xs lo hi):x∈xs:=List.mem_of_mem_drop (List.mem_of_mem_take h)
theorem qP (n:Nat)(ns:List Int){al:Al}{fr:List (Int×Int)}{t:Int}(t0:0<=t)(t1:t.toNat < al.length)(Mm:al.length<=20)(h2:∀ p∈al,p.2.length<=20)(hf:Rn 20 fr) :
  ∃ (G:D) (g fr2:List (Int×Int)),aB T (n+2) 63 [.lst Ξ (ns.map .int),GO al fr,.int t]=.ok G/\er G=GO (al.set t.toNat ((al[t.toNat]).1,g)) fr2/\cq G=Ξ/\Gw (al[t.toNat]).2 g/\g.length<=60/\fr2.length<=20:=by
 have d1:=cU n ns 600 ((fr.length:Int)+1) nofun nofun ⋯;generalize dr ns 600 ((fr.length:Int)+1)=c at *;have l1:=lQ fr Φ (Δ c);have l2:=lQ fr (Δ c) Φ;have l3:=hf.1;have l4:=h2 _ (aak t1);obtain⟨g,e62,gw,gl⟩:=qO n (run:=(al[t.toNat]).2) (rg:=cZ fr Φ (Δ c)) (fun p hp=>hf.2 p (vE hp)) ⋯;have ei:=Ev.cJ ns;have ea:=kx al fr;have ef:=lK al;have ep:=cR fr;have UT:=cR (al[t.toNat]).2;have Q6:=cR (cZ fr Φ (Δ c));have c1:cZ (fr.map FC) Φ (Δ c)=(cZ fr Φ (Δ c)).map FC:=jv _ _ _ _;have c2:cZ (fr.map FC) (Δ c) Φ=(cZ fr (Δ c) Φ).map FC:=jv _ _ _ _;have Q5:=oI (cZ fr (Δ c) Φ);have U4:(fr.map FC).length=fr.length:=i_ _;have U7:(al.map GU).length=al.length:=i_ _;have fm:cD (cL (aB T (n+1)) (.tp [(.nm 0),(.nm 1)]) [] (.tup [(.v 0),(.bi .list [(.v 1)])]) [Φ,Φ]) (al.map GU)=.ok (al.map JH):=by
  have:=Ev.dF (g:=cL (aB T (n+1)) (.tp [(.nm 0),(.nm 1)]) [] (.tup [(.v 0),(.bi .list [(.v 1)])]) [Φ,Φ]) GU id JH al fun p _=>by show cL (aB T (n+1)) (.tp [(.nm 0),(.nm 1)]) [] (.tup [(.v 0),(.bi .list [(.v 1)])]) [Φ,Φ] (.tup [.str p.1,.lst Ξ (p.2.map FC)])=.ok (Δ (.tup [.str p.1,.lst Θ (p.2.map FC)]));generalize p.2.map FC=PD at *;simp![Ev.cy]
  rw[List.map_id] at this;exact this
 have hx:∀ o,cH (.lst o (al.map GU)) (.int t)=.ok (.tup [.str (al[t.toNat]).1,.lst Ξ ((al[t.toNat]).2.map FC)]):=fun o=>ju GU o (a:=al[t.toNat]) t0 (y_ t1);have hi:Hg al.length t=Δ t.toNat:=by unfold Hg;rw[f_ t0,f_ ⋯]
 have st:dR (.tp [(.nm 3),(.nm 4)]) (GO al fr) [Δ (.lst Ξ (ns.map .int)),Δ (GO al fr),Δ (.int t),Φ,Φ,Φ,Φ]=.ok [Δ (.lst Ξ (ns.map .int)),Δ (GO al fr),Δ (.int t),Δ (.lst Ξ (al.map GU)),Δ (.lst Ξ (fr.map FC)),Φ,Φ]:=rfl;have kp:∀ c5:Option D,cB LQ (.lst Θ (al.map JH)) [Δ (.lst Ξ (ns.map .int)),Δ (GO al fr),Δ (.int t),Δ (.lst Ξ (al.map GU)),Δ (.lst Ξ (fr.map FC)),c5,Φ]=(.lst Θ (al.map GU),[Δ (.lst Ξ (ns.map .int)),Δ (GO al fr),Δ (.int t),Δ (.lst Ξ (al.map GU)),Δ (.lst Ξ (fr.map FC)),c5,Φ]):=fun c5=>by
  have U5:ck (al.map JH)=Ξ:=by
   cases al with
   | nil=>exact absurd t1 (by simp)
   | cons=>rfl
  show (if ck (al.map JH)=Θ then _ else (D.lst Θ (FA (al.map JH)),[Δ (.lst Ξ (ns.map .int)),Δ (GO al fr),Δ (.int t),Δ (.lst Ξ (FA (al.map GU))),Δ (.lst Ξ (fr.map FC)),c5,Φ]))=_;rw[U5,d_ p_,vz,ef]
 refine⟨.tup [.lst Θ ((al.map GU).set t.toNat (.tup [.str (al[t.toNat]).1,.lst Θ (g.map FC)])),.lst Θ ((cZ fr (Δ c) Φ).map FC)],g,cZ fr (Δ c) Φ,?_,?_,rfl,gw,⋯,⋯⟩
 ·rw[gx 63 UG 3 7 UE rfl rfl rfl rfl rfl rfl];unfold UE;have ev:∀ c5:Option D,Fz (aB T (n+1)) LQ [Δ (.lst Ξ (ns.map .int)),Δ (GO al fr),Δ (.int t),Δ (.lst Ξ (al.map GU)),Δ (.lst Ξ (fr.map FC)),c5,Φ]=.ok (.lst Θ (al.map JH)):=fun c5=>by unfold LQ W8;generalize al.map JH=AT,al.map GU=AD,fr.map FC=FR,GO al fr=AL,ns.map D.int=NS at *;simp![fm,U7]
  have evo:∀ c5:Option D,Gu (aB T (n+1)) Ξ LQ [Δ (.lst Ξ (ns.map .int)),Δ (GO al fr),Δ (.int t),Δ (.lst Ξ (al.map GU)),Δ (.lst Ξ (fr.map FC)),c5,Φ]=.ok (.lst Θ (al.map GU),[Δ (.lst Ξ (ns.map .int)),Δ (GO al fr),Δ (.int t),Δ (.lst Ξ (al.map GU)),Δ (.lst Ξ (fr.map FC)),c5,Φ]):=fun c5=>by show Fu (Fz (aB T (n+1)) LQ _) (fun d=>.ok (cB LQ d _))=_;rw[ev];show Except.ok (cB LQ (.lst Θ (al.map JH)) _)=_;rw[kp]
  generalize (al[t.toNat]).1=nm,(al[t.toNat]).2.map FC=RN,(cZ fr Φ (Δ c)).map FC=CF,(cZ fr (Δ c) Φ).map FC=CF2,al.map JH=AT,al.map GU=AD,fr.map FC=FR,GO al fr=AL,ns.map D.int=NS,g.map FC=GD,LQ=eg at *;have vs:vars (.sl (.v 4) Φ (Δ (.v 5)))=[4,5]:=rfl;have lf3:∀ ds:List D,cq (.lst Θ ds)=Ξ:=fun _=>rfl;simp![ei,ea,ef,ep,st,U4,d1,evo,hx,c1,c2,UT,Q6,e62,U7,hi,Q5,vs,lf3]
 ·show D.tup [.lst Ξ (FA ((al.map GU).set t.toNat (.tup [.str (al[t.toNat]).1,.lst Θ (g.map FC)]))),.lst Ξ (FA ((cZ fr (Δ c) Φ).map FC))]=_;rw[cR,cA,List.map_set,<- cA,ef];show D.tup [.lst Ξ ((al.map GU).set t.toNat (.tup [.str (al[t.toNat]).1,.lst Ξ (FA (g.map FC))])),.lst Ξ ((cZ fr (Δ c) Φ).map FC)]=_;rw[cR];unfold GO;rw[List.map_set];rfl
theorem nB (n:Nat)(ns:List Int){al:Al}{fr:List (Int×Int)}{t:Int}(t0:0<=t)(t1:t.toNat < al.length)(Mm:al.length<=20)(h2:∀ p∈al,p.2.length<=20)(hf:Rn 20 fr) :
  ∃ (G:D) (A B:Al) (x:Str) (run g fr2:List (Int×Int)),al=A++(x,run)::B/\A.length=t.toNat/\aB T (n+2) 63 [.lst Ξ (ns.map .int),GO al fr,.int t]=.ok G/\er G=GO (A++(x,g)::B) fr2/\cq G=Ξ/\Gw run g/\g.length<=60/\fr2.length<=20:=by
 obtain⟨G,g,fr2,e,eG,lG,gw,lg,l2⟩:=qP n ns t0 t1 Mm h2 hf;refine⟨G,al.take t.toNat,al.drop (t.toNat+1),(al[t.toNat]).1,(al[t.toNat]).2,g,fr2,?_,by rw[L_];omega,e,?_,lG,gw,lg,l2⟩
 ·show al=al.take t.toNat++al[t.toNat]::al.drop (t.toNat+1);rw[List.getElem_cons_drop,List.take_append_drop]
 ·rw[eG,List.set_eq_take_append_cons_drop,f_ t1]
abbrev lU (r:Rl):Prop:=(∀ c∈r.cs,Wf c)/\r.cs.length<=2/\∀ f sg,r.o=.share f sg->sg.length<=3
theorem BX {e:IR}{C:List D}(h:FA C=C)(hn:cN e=Θ){τ:Ev}(hf:Gh (vars e) τ=τ):cB e (.lst Θ C) τ=(.lst Θ C,τ):=by unfold cB;rw[d_ (show ¬ cq (.lst Θ C)=Θ from p_),hn];show (if ck C=Θ then (D.lst Θ C,τ) else (.lst Θ (FA C),Gh (vars e) τ))=_;rw[h,hf];split<;>rfl
theorem iC (a b:List D):FA (a++b)=FA a++FA b:=by rw[cA,cA,cA,G_]
theorem vF (k:Nat)(a:List D):FA (a.take k)=(FA a).take k:=by rw[cA,cA,List.map_take]
theorem vG (k:Nat)(a:List D):FA (a.drop k)=(FA a).drop k:=by rw[cA,cA,List.map_drop]
noncomputable def K5 (C1:List D)(f:Str)(day s:Int):D:=.tup [.lst Θ C1,.tup [.str "share",.str f,.lst Θ [.tup [.int day,.int s]]]]
theorem vH (c:List Cn)(f:Str)(day s:Int):er (K5 (c.map Cn.d) f day s)=Rl.d ⟨c,.share f [(day,s)]⟩:=by show D.tup [.lst Ξ (FA (c.map Cn.d)),.tup [.str "share",.str f,.lst Ξ [.tup [.int day,.int s]]]]=_;rw[hU];rfl
theorem EF (n:Nat)(ns:List Int){fs:List Str}(hf:fs.length=4)(salt:Str){z:Int}(day:Int){cs0:List Cn}(hc0:∀ c∈cs0,Wf c){rs1:List Rl}(TF:rs1.length<=5)(ok:∀ r∈rs1,lU r){L1:List D}(eL:FA L1=rs1.map Rl.d){sh la at_:Int}(a0:0<=at_)(a1:at_.toNat<=rs1.length)(s1 s2 s7 s8:Option D) :
  ∃ (a b:List Rl) (c:List Cn) (f0 rest:Str) (A B:Al) (x:Str) (run g fr fr2:List (Int×Int)),
   cI (aB T (n+5)) QK [Δ (.lst Ξ (ns.map .int)),s1,s2,Δ (.lst Ξ (fs.map .str)),Δ (.str salt),Δ (.int z),Δ (.int day),s7,s8,Δ (.lst Θ L1),Δ (.lst Ξ (cs0.map Cn.d)),Δ (.int sh),Δ (.int la),Δ (.int at_),Φ,Φ,Φ,Φ]=.ok (.rt (.tup [.int at_,Gy salt rest (a++⟨c,.share f0 [(day,sh)]⟩::b) (A++(x,run)::B) fr,.lst Θ [Gy salt rest (a++⟨c,.share f0 [(day,la)]⟩::b) (A++(x,run)::B) fr,Gy salt rest (a++⟨c,.share f0 [(day,sh)]⟩::b) (A++(x,g)::B) fr2]]))
   /\a.length=at_.toNat/\(∀ c'∈c,Wf c')/\c.length<=1/\(∀ r∈a,lU r)/\(∀ r∈b,lU r)/\a.length+b.length<=5/\fs[0]? = Δ f0/\(A++(x,run)::B).map (·.1)=fs.take 3/\A.length=(dr ns 606 3).toNat/\(∀ p∈A++(x,run)::B,p.2.length<=20)/\fr.length<=20/\fr2.length<=20/\g.length<=60/\Gw run g:=by
 have ei:=Ev.cJ ns;have ef:=Ev.cK fs;obtain⟨f0,JI,U8⟩:=dA (fs:=fs) (i:=0) nofun ⋯;obtain⟨rest,Mc,_⟩:=dA (fs:=fs) (i:=3) nofun ⋯;have c3:cZ (fs.map D.str) Φ (Δ 3)=(fs.take 3).map .str:=by rw[Ev.oA _ nofun];exact(List.map_take).symm
 have e3:=Ev.cK (fs.take 3);have l3:(fs.take 3).length=3:=by rw[L_,hf];rfl
 obtain⟨al,fr,e48,nm,h2,Na⟩:=vB (n+3) ns (k:=280) nofun nofun (fs:=fs.take 3) ⋯ ⋯ z;have U7:al.length=3:=by rw[<- i_ (f:=(·.1)),nm,l3]
 have d6:=cU (n+4) ns 606 3 nofun nofun nofun;have t0:=fX ns 606 (m:=3) nofun;have t1:=fY ns 606 (m:=3) nofun;obtain⟨G,A,B,x,run,g,fr2,Mm,lA,e63,eG,lG,gw,lg,Q5⟩:=nB (n+3) ns (al:=al) (fr:=fr) t0 ⋯ ⋯ h2 Na;have hC:cZ (cs0.map Cn.d) Φ (Δ 1)=(cs0.take 1).map Cn.d:=by rw[Ev.oA _ nofun];exact(List.map_take).symm
 have eC:=hU cs0;have eC1:=hU (cs0.take 1);have lL:L1.length=rs1.length:=by rw[<- dJ,eL,i_]
 rw[Mm] at nm h2;refine⟨rs1.take at_.toNat,rs1.drop at_.toNat,cs0.take 1,f0,rest,A,B,x,run,g,fr,fr2,?_,by rw[L_];omega,fun c hc=>hc0 c (List.mem_of_mem_take hc),by rw[L_];omega,fun r hr=>ok r (List.mem_of_mem_take hr),fun r hr=>ok r (List.mem_of_mem_drop hr),by rw[<- o_,List.take_append_drop];exact TF,U8,nm,lA,h2,Na.1,Q5,lg,gw⟩;generalize dr ns 606 3=t at *;rw[<- Mm];have eX:=vH (cs0.take 1) f0 day sh;have eY:=vH (cs0.take 1) f0 day la;have xu:∀ s:Int,D.tup [.lst Θ ((cs0.take 1).map Cn.d),.tup [.str "share",.str f0,.lst Θ [.tup [.int day,.int s]]]]=K5 ((cs0.take 1).map Cn.d) f0 day s:=fun _=>rfl;have e2:FA (L1.take at_.toNat++K5 ((cs0.take 1).map Cn.d) f0 day sh::L1.drop at_.toNat)=(rs1.take at_.toNat++(⟨cs0.take 1,.share f0 [(day,sh)]⟩:Rl)::rs1.drop at_.toNat).map Rl.d:=by rw[iC,vF,show ∀ x r,FA (x::r)=er x::FA r from fun _ _=>rfl,eX,vG,eL,G_,b_,List.map_take,List.map_drop]
 have lR:(rs1.take at_.toNat++(⟨cs0.take 1,.share f0 [(day,sh)]⟩:Rl)::rs1.drop at_.toNat).length=rs1.length+1:=by rw[o_,List.length_cons,L_,aaa];omega
 have tk:∀ x:Rl,cZ ((rs1.take at_.toNat++x::rs1.drop at_.toNat).map Rl.d) Φ (Δ at_)=(rs1.take at_.toNat).map Rl.d:=fun x=>by rw[Ev.oA _ a0,<- List.map_take,List.take_append_of_le_length (by rw[L_];omega),List.take_take,Nat.min_self]
 have dp:∀ x:Rl,cZ ((rs1.take at_.toNat++x::rs1.drop at_.toNat).map Rl.d) (Δ (at_+1)) Φ=(rs1.drop at_.toNat).map Rl.d:=fun x=>by
  have h1:(rs1.take at_.toNat).length=at_.toNat:=by rw[L_];omega
  rw[nv _ ⋯,<- List.map_drop,show (at_+1).toNat=(rs1.take at_.toNat).length+1 by omega,List.drop_append];rw[List.drop_of_length_le ⋯,show (rs1.take at_.toNat).length+1 - (rs1.take at_.toNat).length=1 by omega];rfl
 have Sy:=tk ⟨cs0.take 1,.share f0 [(day,sh)]⟩;have dp':=dp ⟨cs0.take 1,.share f0 [(day,sh)]⟩;have em:FA ((rs1.take at_.toNat).map Rl.d++[K5 ((cs0.take 1).map Cn.d) f0 day la]++(rs1.drop at_.toNat).map Rl.d)=(rs1.take at_.toNat++(⟨cs0.take 1,.share f0 [(day,la)]⟩:Rl)::rs1.drop at_.toNat).map Rl.d:=by rw[iC,iC,jt,jt,show ∀ x,FA [x]=[er x] from fun _=>rfl,eY,G_,B_];rfl
 have Q4:=jt (rs1.take at_.toNat++(⟨cs0.take 1,.share f0 [(day,sh)]⟩:Rl)::rs1.drop at_.toNat);have er3:=jt (rs1.take at_.toNat++(⟨cs0.take 1,.share f0 [(day,la)]⟩:Rl)::rs1.drop at_.toNat);have l1:((rs1.take at_.toNat).map Rl.d).length<=5:=by rw[i_,L_];omega
 have l2:((rs1.drop at_.toNat).map Rl.d).length<=5:=by rw[i_,aaa];omega
 have lr2:((rs1.take at_.toNat++(⟨cs0.take 1,.share f0 [(day,sh)]⟩:Rl)::rs1.drop at_.toNat).map Rl.d).length=rs1.length+1:=by rw[i_,lR]
 have ea:=kx al fr;have ead:D.tup [.lst Ξ (FA (al.map GU)),.lst Ξ (FA (fr.map FC))]=GO al fr:=by rw[lK,cR];rfl
 unfold Gy;generalize (rs1.take at_.toNat++(⟨cs0.take 1,.share f0 [(day,sh)]⟩:Rl)::rs1.drop at_.toNat).map Rl.d=R2,(rs1.take at_.toNat++(⟨cs0.take 1,.share f0 [(day,la)]⟩:Rl)::rs1.drop at_.toNat).map Rl.d=R3,(rs1.take at_.toNat).map Rl.d=RA,(rs1.drop at_.toNat).map Rl.d=RB,GO (A++(x,g)::B) fr2=AG,GO al fr=AD,al.map GU=AF,fr.map FC=FR,(cs0.take 1).map Cn.d=C1,cs0.map Cn.d=C,(fs.take 3).map D.str=F3,fs.map D.str=FS,ns.map D.int=NS at *
 have kc:∀ s0 s1 s2 s3 s4 s5 s6 s7 s8 s9 J9 HG K6 Jk HQ IX Jr,cB Li (.lst Θ C1) [s0,s1,s2,s3,s4,s5,s6,s7,s8,s9,Δ (.lst Ξ C),J9,HG,K6,Jk,HQ,IX,Jr]=(.lst Θ C1,[s0,s1,s2,s3,s4,s5,s6,s7,s8,s9,Δ (.lst Ξ C),J9,HG,K6,Jk,HQ,IX,Jr]):=fun s0 s1 s2 s3 s4 s5 s6 s7 s8 s9 J9 HG K6 Jk HQ IX Jr=>BX eC1 rfl (by
  show [s0,s1,s2,s3,s4,s5,s6,s7,s8,s9,Δ (.lst Ξ (FA C)),J9,HG,K6,Jk,HQ,IX,Jr]=_
  rw[eC])
 have ec:∀ s0 s1 s2 s3 s4 s5 s6 s7 s8 s9 J9 HG K6 Jk HQ IX Jr,Fz (aB T (n+5)) Li [s0,s1,s2,s3,s4,s5,s6,s7,s8,s9,Δ (.lst Ξ C),J9,HG,K6,Jk,HQ,IX,Jr]=.ok (.lst Θ C1):=fun s0 s1 s2 s3 s4 s5 s6 s7 s8 s9 J9 HG K6 Jk HQ IX Jr=>by show Except.ok (D.lst Θ (cZ C Φ (Δ 1)))=_;rw[hC]
 have eco:∀ s0 s1 s2 s3 s4 s5 s6 s7 s8 s9 J9 HG K6 Jk HQ IX Jr,Gu (aB T (n+5)) Ξ Li [s0,s1,s2,s3,s4,s5,s6,s7,s8,s9,Δ (.lst Ξ C),J9,HG,K6,Jk,HQ,IX,Jr]=.ok (.lst Θ C1,[s0,s1,s2,s3,s4,s5,s6,s7,s8,s9,Δ (.lst Ξ C),J9,HG,K6,Jk,HQ,IX,Jr]):=fun s0 s1 s2 s3 s4 s5 s6 s7 s8 s9 J9 HG K6 Jk HQ IX Jr=>by show Fu (Fz (aB T (n+5)) Li _) (fun d=>.ok (cB Li d _))=_;rw[ec];show Except.ok (cB Li (.lst Θ C1) _)=_;rw[kc]
 have emo:∀ s1 s2 s7 s8 Jk HQ,Gu (aB T (n+5)) Ξ Mp [Δ (.lst Ξ NS),s1,s2,Δ (.lst Ξ FS),Δ (.str salt),Δ (.int z),Δ (.int day),s7,s8,Δ (.lst Ξ R2),Δ (.lst Ξ C),Δ (.int sh),Δ (.int la),Δ (.int at_),Jk,HQ,Φ,Φ]=.ok (.lst Θ R3,[Δ (.lst Ξ NS),s1,s2,Δ (.lst Ξ FS),Δ (.str salt),Δ (.int z),Δ (.int day),s7,s8,Δ (.lst Ξ R2),Δ (.lst Ξ C),Δ (.int sh),Δ (.int la),Δ (.int at_),Jk,HQ,Φ,Φ]):=fun s1 s2 s7 s8 Jk HQ=>by
  have e:Fz (aB T (n+5)) Mp [Δ (.lst Ξ NS),s1,s2,Δ (.lst Ξ FS),Δ (.str salt),Δ (.int z),Δ (.int day),s7,s8,Δ (.lst Ξ R2),Δ (.lst Ξ C),Δ (.int sh),Δ (.int la),Δ (.int at_),Jk,HQ,Φ,Φ]=.ok (.lst Θ (RA++[K5 C1 f0 day la]++RB)):=by
   unfold Mp;generalize Li=ct at *;have lra:(RA++[K5 C1 f0 day la]).length=RA.length+1:=by rw[o_];rfl
   simp![ec,JI,xu,Sy,dp',lra]
  show Fu (Fz (aB T (n+5)) Mp _) (fun d=>.ok (cB Mp d _))=_;rw[e];show Except.ok (cB Mp (.lst Θ (RA++[K5 C1 f0 day la]++RB)) _)=_;unfold cB;rw[d_ (show ¬ cq (.lst Θ (RA++[K5 C1 f0 day la]++RB))=Θ from p_)];have nf:ck (RA++[K5 C1 f0 day la]++RB)=Ξ:=by rw[dg,List.all_append,List.all_append];show (RA.all cq&&Ξ&&RB.all cq)=Ξ;rw[Bool.and_false,Bool.false_and]
  show Except.ok (if ck (RA++[K5 C1 f0 day la]++RB)=Θ then _ else (D.lst Θ (FA (RA++[K5 C1 f0 day la]++RB)),[Δ (.lst Ξ NS),s1,s2,Δ (.lst Ξ (FA FS)),Δ (.str salt),Δ (.int z),Δ (.int day),s7,s8,Δ (.lst Ξ (FA R2)),Δ (.lst Ξ (FA C)),Δ (.int sh),Δ (.int la),Δ (.int at_),Jk,HQ,Φ,Φ]))=_;rw[nf,d_ p_,em,ef,Q4,eC]
 unfold QK;generalize Li=ct,Mp=mo at *;have gd:decide (0<=at_/\at_.toNat<=rs1.length)=Θ:=F_ ⟨a0,a1⟩;have Q8:∀ x y:List D,cq (.tup [.lst Θ x,.lst Ξ y])=Ξ:=fun _ _=>rfl;have vsl:vars (.sl (.v 3) Φ (Δ (.c (.int 3))))=[3]:=rfl;simp![eco,JI,Mc,xu,lL,gd,c3,ei,ef,e3,e48,Q8,e2,ead,ea,emo,d6,e63,lG,eG,Q4,er3,vsl]
theorem qd {g:D->Res (Option D)}:∀ (its:List D),(∀ x∈its,∃ c:Cn,g x=.ok (Δ c.t)/\Wf c)->∃ cs:List Cn,cD g its=.ok (cs.map Cn.t)/\cs.length=its.length/\∀ c∈cs,Wf c
 | [],_=>⟨[],rfl,rfl,fun c h=>by cases h⟩
 | x::its,h=>by
  obtain⟨y,hy,wy⟩:=h x (.head _);obtain⟨ys,e,hl,hw⟩:=qd its fun z hz=>h z (.tail _ hz);refine⟨y::ys,gh hy e,by rw[List.length_cons,List.length_cons,hl],fun c hc=>?_⟩;rcases k_.mp hc with rfl|hc
  ·exact wy
  ·exact hw c hc
theorem vI (n:Nat)(ns:List Int){ms gn fs:List Str}(hm:ms.length=3)(hg:gn.length<=2)(hf:fs.length=4)(salt:Str){z:Int}(z0:0<=z)(z1:z<=10006)(day:Int) :
  ∃ (a b:List Rl) (c:List Cn) (sh la:Int) (f0 rest:Str) (A B:Al) (x:Str) (run g fr fr2:List (Int×Int)),
   aB T (n+6) 64 [.lst Ξ (ns.map .int),.lst Ξ (ms.map .str),.lst Ξ (gn.map .str),.lst Ξ (fs.map .str),.str salt,.int z,.int day]=.ok (.tup [.int (a.length:Nat),Gy salt rest (a++⟨c,.share f0 [(day,sh)]⟩::b) (A++(x,run)::B) fr,.lst Θ [Gy salt rest (a++⟨c,.share f0 [(day,la)]⟩::b) (A++(x,run)::B) fr,Gy salt rest (a++⟨c,.share f0 [(day,sh)]⟩::b) (A++(x,g)::B) fr2]])
   /\sh<=la/\(∀ c'∈c,Wf c')/\c.length<=1/\(∀ r∈a,lU r)/\(∀ r∈b,lU r)/\a.length+b.length<=5/\fs[0]? = Δ f0/\(A++(x,run)::B).map (·.1)=fs.take 3/\A.length=(dr ns 606 3).toNat/\(∀ p∈A++(x,run)::B,p.2.length<=20)/\fr.length<=20/\fr2.length<=20/\g.length<=60/\Gw run g:=by
 have ei:=Ev.cJ ns;have ef:=Ev.cK fs;have em:=Ev.cK ms;have eg:=Ev.cK gn;obtain⟨st,e49,GI⟩:=p4 (n+3) ns (k:=130) nofun nofun;obtain⟨c,e51⟩:=kq (n+3) ns (k:=145) nofun nofun;obtain⟨rs,e58,lr,ok⟩:=vx n ns (k:=300) nofun nofun (ms:=ms) (gn:=gn) (fs:=fs) ⋯ ⋯ ⋯ ⋯ ⋯ GI c z day;obtain⟨q,d1,q0,q1⟩:=HF (n+4) ns 601 2 nofun nofun nofun;obtain⟨cs,fm,lcs,wf⟩:=qd (g:=cL (aB T (n+5)) (.nm 5) [] QJ [Δ (.lst Ξ (ns.map .int)),Δ (.lst Ξ (ms.map .str)),Δ (.lst Ξ (gn.map .str)),Δ (.str st),Δ (.int c),Φ]) (cO 0 q) fun x hx=>by obtain⟨j,rfl,j0,j1⟩:=iA hx;obtain⟨cn,e,w,_⟩:=lP (n+1) ns (k:=610+14*j) ⋯ ⋯ (ms:=ms) (gs:=gn) ⋯ ⋯ ⋯ GI c;refine⟨cn,?_,w⟩;unfold QJ;generalize ns.map D.int=NS,ms.map D.str=MS,gn.map D.str=GN,cn.t=CT at *;simp![Ev.cy,ei,em,eg,e]
 have lq:(cO 0 q).length=q.toNat:=ij q;have lc:cs.length<=1:=⋯
 obtain⟨p,d2,p0,p1⟩:=HF (n+4) ns 602 ((rs.length:Int)+1) nofun nofun ⋯;obtain⟨r,d3,r0,r1⟩:=HF (n+4) ns 603 4 nofun nofun nofun;obtain⟨sh,RC,sb⟩:∃ sh:Int,(∀ o,cH (.lst o [.int 0,.int z,.int (z+1),.int 5000]) (.int r)=.ok (.int sh))/\sh<=10007:=by
  rcases (show r=0∨r=1∨r=2∨r=3 by omega) with rfl|rfl|rfl|rfl
  ·exact⟨0,fun _=>rfl, nofun⟩
  ·exact⟨z,fun _=>rfl,⋯⟩
  ·exact⟨z+1,fun _=>rfl,⋯⟩
  ·exact⟨5000,fun _=>rfl, nofun⟩
 obtain⟨u,d4,u0,_⟩:=HF (n+4) ns 604 (10008 - sh) nofun nofun ⋯;obtain⟨at_,d5,a0,a1⟩:=HF (n+4) ns 605 (((rs.length+1:Nat):Int)+1) nofun nofun ⋯;have eC:=hU cs;have eL:FA ((rs.map Rl.t).take p.toNat++.tup [.lst Ξ (cs.map Cn.d),.tup [.str "lot"]]::(rs.map Rl.t).drop p.toNat)=(rs.take p.toNat++(⟨cs,.J7⟩:Rl)::rs.drop p.toNat).map Rl.d:=by rw[iC,vF,show ∀ x r,FA (x::r)=er x::FA r from fun _ _=>rfl,vG,BQ,G_,b_,List.map_take,List.map_drop];show _++D.tup [.lst Ξ (FA (cs.map Cn.d)),.tup [.str "lot"]]::_=_;rw[eC];rfl
 have l1:(rs.take p.toNat++(⟨cs,.J7⟩:Rl)::rs.drop p.toNat).length=rs.length+1:=by rw[o_,List.length_cons,L_,aaa];omega
 have lL:((rs.map Rl.t).take p.toNat++.tup [.lst Ξ (cs.map Cn.d),.tup [.str "lot"]]::(rs.map Rl.t).drop p.toNat).length=rs.length+1:=by rw[o_,List.length_cons,L_,aaa,i_];omega
 have ok1:∀ x∈rs.take p.toNat++(⟨cs,.J7⟩:Rl)::rs.drop p.toNat,lU x:=fun x hx=>by
  rcases v_.mp hx with hx|hx
  ·exact ok x (List.mem_of_mem_take hx)
  ·rcases k_.mp hx with rfl|hx
   ·exact⟨wf,by show cs.length<=2;omega,fun f sg h=>by cases h⟩
   ·exact ok x (List.mem_of_mem_drop hx)
 obtain⟨a,b,c',f0,rest,A,B,x,run,g,fr,fr2,e,la,R⟩:=EF n ns hf salt (z:=z) day (cs0:=cs) wf (rs1:=rs.take p.toNat++(⟨cs,.J7⟩:Rl)::rs.drop p.toNat) ⋯ ok1 eL (sh:=sh) (la:=sh+u) (at_:=at_) a0 ⋯ (Δ (.lst Ξ (ms.map .str))) (Δ (.lst Ξ (gn.map .str))) (Δ (.str st)) (Δ (.int c));refine⟨a,b,c',sh,sh+u,f0,rest,A,B,x,run,g,fr,fr2,?_,⋯,R⟩;have UW:(a.length:Int)=at_:=⋯
 rw[UW];rw[gx 64 UI 7 18 UH rfl rfl rfl rfl rfl rfl];unfold UH;have esw:∀ s3 s4 s5 s6 s9,Gu (aB T (n+5)) Ξ Nd [Δ (.lst Ξ (ns.map .int)),Δ (.lst Ξ (ms.map .str)),Δ (.lst Ξ (gn.map .str)),s3,s4,s5,s6,Δ (.str st),Δ (.int c),s9,Φ,Φ,Φ,Φ,Φ,Φ,Φ,Φ]=.ok (.lst Θ (cs.map Cn.d),[Δ (.lst Ξ (ns.map .int)),Δ (.lst Ξ (ms.map .str)),Δ (.lst Ξ (gn.map .str)),s3,s4,s5,s6,Δ (.str st),Δ (.int c),s9,Φ,Φ,Φ,Φ,Φ,Φ,Φ,Φ]):=fun s3 s4 s5 s6 s9=>by
  have e:Fz (aB T (n+5)) Nd [Δ (.lst Ξ (ns.map .int)),Δ (.lst Ξ (ms.map .str)),Δ (.lst Ξ (gn.map .str)),s3,s4,s5,s6,Δ (.str st),Δ (.int c),s9,Φ,Φ,Φ,Φ,Φ,Φ,Φ,Φ]=.ok (.lst Θ (cs.map Cn.t)):=by unfold Nd W';generalize QJ=xs,ns.map D.int=NS,ms.map D.str=MS,gn.map D.str=GN,cs.map Cn.t=CT at *;simp![ei,d1,lq,fm]
  show Fu (Fz (aB T (n+5)) Nd _) (fun d=>.ok (cB Nd d _))=_;rw[e];show Except.ok (if ck (cs.map Cn.t)=Θ then (D.lst Θ (cs.map Cn.t),_) else (D.lst Θ (FA (cs.map Cn.t)),[Δ (.lst Ξ (FA (ns.map .int))),Δ (.lst Ξ (FA (ms.map .str))),Δ (.lst Ξ (FA (gn.map .str))),s3,s4,s5,s6,Δ (.str st),Δ (.int c),s9,Φ,Φ,Φ,Φ,Φ,Φ,Φ,Φ]))=_;rw[ei,em,eg,vw];cases cs with
  | nil=>rfl
  | cons y ys=>rfl
 have gd:decide (0<=p/\p.toNat<=rs.length)=Θ:=F_ ⋯;have lRt:(rs.map Rl.t).length=rs.length:=i_ _;have lrt:∀ ds:List D,cq (.lst Θ ds)=Ξ:=fun _=>rfl;generalize Gy salt rest (a++⟨c',.share f0 [(day,sh)]⟩::b) (A++(x,run)::B) fr=W1,Gy salt rest (a++⟨c',.share f0 [(day,sh+u)]⟩::b) (A++(x,run)::B) fr=W2,Gy salt rest (a++⟨c',.share f0 [(day,sh)]⟩::b) (A++(x,g)::B) fr2=W3,cs.map Cn.d=CD,rs.map Rl.t=RT,fs.map D.str=FS,gn.map D.str=GN,ms.map D.str=MS,ns.map D.int=NS,QK=ts,Nd=es at *;simp![ei,em,eg,ef,e49,e51,e58,esw,lRt,d2,gd,eC,RC,d3,d4,lL,d5,lrt,e]
noncomputable def P2 (k:Nat):List Rl->List (Nat×Rl)
 | []=>[]
 | r::rs=>(k,r)::P2 (k+1) rs
theorem vJ:∀ (rs:List Rl) (k:Nat),(List.range' k rs.length).zip rs=P2 k rs
 | [],k=>rfl
 | r::rs,k=>by rw[List.length_cons,List.range'_succ,List.zip_cons_cons,vJ rs (k+1)];rfl
theorem EG (rs:List Rl):idx rs=P2 0 rs:=by unfold idx;rw[List.range_eq_range'];exact vJ rs 0
section
variable (P:Rl->Bool)(al:Al)(day z:Int)
noncomputable def fk (k:Nat)(rs:List Rl):Option (Str×Nat):=fst al day z ((P2 k rs).filter fun q=>P q.2)
theorem lV (k:Nat)(r:Rl)(rs:List Rl):fk P al day z k (r::rs)=if P r=Θ then (match Kw al day z r.o with|some f=>Δ (f,k)|none=>fk P al day z (k+1) rs) else fk P al day z (k+1) rs:=by
 unfold fk;show fst al day z (((k,r)::P2 (k+1) rs).filter fun q=>P q.2)=_;rw[List.filter_cons];cases h:P r with
 | true=>rfl
 | false=>rfl
theorem zG:∀ (rs:List Rl) (k:Nat) {f:Str}{i:Nat},fk P al day z k rs=Δ (f,i)->k<=i
 | [],k,f,i,h=>by cases h
 | r::rs,k,f,i,h=>by
  rw[lV] at h;have rc:=fun h=>Nat.le_of_succ_le (zG rs (k+1) (f:=f) (i:=i) h);cases hp:P r with
  | false=>rw[hp,d_ p_] at h;exact rc h
  | true=>
   rw[hp,f_ rfl] at h;cases ho:Kw al day z r.o with
   | none=>rw[ho] at h;exact rc h
   | some g=>rw[ho] at h;cases h;exact m_ _
theorem EH (s:Int):shr [(day,s)] day=s:=by show NU day 0 (day,s)=s;unfold NU;rw[F_ (Int.le_refl day)];rfl
theorem lW {c:List Cn}{f0:Str}{sh la:Int}(hs:sh<=la)(hP:P ⟨c,.share f0 [(day,sh)]⟩=P ⟨c,.share f0 [(day,la)]⟩)(b:List Rl){f:Str}:∀ (a:List Rl) (k:Nat),fk P al day z k (a++⟨c,.share f0 [(day,sh)]⟩::b)=Δ (f,k+a.length)->fk P al day z k (a++⟨c,.share f0 [(day,la)]⟩::b)=Δ (f,k+a.length)
 | [],k,h=>by
  have no:fk P al day z (k+1) b=Δ (f,k+0)->False:=fun h=>by have:=zG P al day z b (k+1) h;omega
  rw[List.nil_append,lV] at h ⊢;cases hp:P ⟨c,.share f0 [(day,sh)]⟩ with
  | false=>rw[hp,d_ p_] at h;exact(no h).elim
  | true=>
   rw[<- hP,hp,f_ rfl];rw[hp,f_ rfl] at h;have e1:Kw al day z (.share f0 [(day,sh)])=if decide (z < sh)=Θ then Δ f0 else Φ:=by show (if decide (z < shr [(day,sh)] day)=Θ then Δ f0 else Φ)=_;rw[EH]
   have e2:Kw al day z (.share f0 [(day,la)])=if decide (z < la)=Θ then Δ f0 else Φ:=by show (if decide (z < shr [(day,la)] day)=Θ then Δ f0 else Φ)=_;rw[EH]
   rw[show (⟨c,.share f0 [(day,sh)]⟩:Rl).o=.share f0 [(day,sh)] from rfl,e1] at h;rw[show (⟨c,.share f0 [(day,la)]⟩:Rl).o=.share f0 [(day,la)] from rfl,e2];cases hz:decide (z < sh) with
   | false=>rw[hz,d_ p_] at h;exact(no h).elim
   | true=>rw[hz,f_ rfl] at h;have:=q_ hz;rw[F_ (show z < la by omega),f_ rfl];exact h
 | r::a,k,h=>by
  have lk:k+(r::a).length=k+1+a.length:=by rw[List.length_cons];omega
  rw[lk] at h ⊢;rw[c_,lV] at h ⊢;cases hp:P r with
  | false=>rw[hp,d_ p_] at h;rw[d_ p_];exact lW hs hP b a (k+1) h
  | true=>
   rw[hp,f_ rfl] at h;rw[f_ rfl];cases ho:Kw al day z r.o with
   | none=>rw[ho] at h;exact lW hs hP b a (k+1) h
   | some g=>rw[ho] at h;have h2:=congrArg (fun o=>(o.map (·.2)).getD 0) h;have h3:k=k+1+a.length:=h2;omega
theorem vK {al':Al}(h:∀ o,Kw al day z o=Kw al' day z o):∀ l:List (Nat×Rl),fst al day z l=fst al' day z l
 | []=>rfl
 | q::l=>by unfold fst;rw[h q.2.o,vK h l]
theorem vL:∀ (l:List (Nat×Rl)) {f:Str}{i:Nat},fst al day z l=Δ (f,i)->∃ q∈l,q.1=i/\Kw al day z q.2.o=Δ f
 | [],f,i,h=>by cases h
 | q::l,f,i,h=>by
  unfold fst at h;cases ho:Kw al day z q.2.o with
  | some g=>rw[ho] at h;cases h;exact⟨q,.head _,rfl,ho⟩
  | none=>rw[ho] at h;obtain⟨p,hp,e⟩:=vL l h;exact⟨p,.tail _ hp,e⟩
end
theorem xQ {A B:Al}{x:Str}{run g:List (Int×Int)}(nd:((A++(x,run)::B).map (·.1)).Nodup)(gw:Gw run g){z:Int}(h:J6 (A++(x,run)::B) z=Δ x):J6 (A++(x,g)::B) z=Δ x:=by
 rw[G_,b_,t_] at nd;obtain⟨_,n2,n3⟩:=nd;unfold J6 at *;rw[List.find?_append] at h ⊢;cases ha:A.find? fun p=>inR z p.2 with
 | some p=>
  rw[ha] at h;have e:p.1=x:=by have:Δ p.1=Δ x:=h;injection this
  exact absurd e (n3 p.1 (List.mem_map.mpr ⟨p,List.mem_of_find?_eq_some ha,rfl⟩) x (.head _))
 | none=>
  rw[ha] at h;rw[Option.none_or] at h ⊢;rw[List.find?_cons] at h ⊢;cases hr:inR z run with
  | true=>rw[show inR z (x,g).2=Θ from gw z hr];rfl
  | false=>rw[show inR z (x,run).2=Ξ from hr] at h;obtain⟨p,hp,e⟩:=aaE.mp h;have hm:=List.mem_of_find?_eq_some hp;exact absurd (List.mem_map.mpr ⟨p,hm,e⟩) (K_.mp n2).1
noncomputable def jw:Oc->Bool
 | .J7=>Θ
 | _=>Ξ
theorem BY (o:Oc):G7 .eq o.d (.tup [.str "lot"])=.ok (jw o):=by
 cases o with
 | face f=>show Except.ok ((Ρ "face" == Ρ "lot")&&Ξ)=_;rw[Bool.and_false];rfl
 | share f st=>show Except.ok ((Ρ "share" == Ρ "lot")&&Ξ)=_;rw[Bool.and_false];rfl
 | J7=>show Except.ok ((Ρ "lot" == Ρ "lot")&&Θ)=_;rw[beq_self_eq_true];rfl
theorem qQ (gs:List Gp)(ms:List (Str×Tn))(rest:Str)(al:Al)(day z:Int){a b:List Rl}{c:List Cn}{f0:Str}{sh la:Int}(hs:sh<=la)(h:told gs ms rest (a++⟨c,.share f0 [(day,sh)]⟩::b) al day z=.tup [.str f0,.int (a.length:Nat)]):told gs ms rest (a++⟨c,.share f0 [(day,la)]⟩::b) al day z=.tup [.str f0,.int (a.length:Nat)]:=by
 unfold told at *;rw[EG] at h ⊢;have h0:PZ rest (a++(⟨c,.share f0 [(day,sh)]⟩:Rl)::b).length (fk (fun r=>r.cs.all (eM gs ms)) al day z 0 (a++⟨c,.share f0 [(day,sh)]⟩::b))=.tup [.str f0,.int (a.length:Nat)]:=h;show PZ rest _ (fk (fun r=>r.cs.all (eM gs ms)) al day z 0 (a++⟨c,.share f0 [(day,la)]⟩::b))=_;cases hf:fk (fun r=>r.cs.all (eM gs ms)) al day z 0 (a++⟨c,.share f0 [(day,sh)]⟩::b) with
 | none=>rw[hf] at h0;have h1:D.tup [.str rest,.int ((a++(⟨c,.share f0 [(day,sh)]⟩:Rl)::b).length:Nat)]=.tup [.str f0,.int (a.length:Nat)]:=h0;injection h1 with h1;injection h1 with _ h1;injection h1 with h1 _;injection h1 with h1;rw[o_,List.length_cons] at h1;omega
 | some q=>
  obtain⟨f,i⟩:=q;rw[hf] at h0;have h1:D.tup [.str f,.int (i:Nat)]=.tup [.str f0,.int (a.length:Nat)]:=h0;injection h1 with h1;injection h1 with h2 h1;injection h2 with h2;injection h1 with h1 _;injection h1 with h1;have h3:i=0+a.length:=⋯
  rw[h2,h3] at hf;rw[lW _ al day z hs rfl b a 0 hf,Nat.zero_add];rfl
theorem vM (gs:List Gp)(ms:List (Str×Tn))(rest:Str)(day z:Int){A B:Al}{x:Str}{run g:List (Int×Int)}(nd:((A++(x,run)::B).map (·.1)).Nodup)(gw:Gw run g){rs:List Rl}{k:Nat}{r:Rl}(hk:rs[k]? = Δ r)(hr:jw r.o=Θ)(h:told gs ms rest rs (A++(x,run)::B) day z=.tup [.str x,.int (k:Nat)]):told gs ms rest rs (A++(x,g)::B) day z=.tup [.str x,.int (k:Nat)]:=by
 unfold told at *;cases hf:fst (A++(x,run)::B) day z ((idx rs).filter fun q=>q.2.cs.all (eM gs ms)) with
 | none=>rw[hf] at h;have h1:D.tup [.str rest,.int (rs.length:Nat)]=.tup [.str x,.int (k:Nat)]:=h;injection h1 with h1;injection h1 with _ h1;injection h1 with h1 _;injection h1 with h1;have:=(x_.mp hk).1;omega
 | some q=>
  obtain⟨f,i⟩:=q;rw[hf] at h;have h1:D.tup [.str f,.int (i:Nat)]=.tup [.str x,.int (k:Nat)]:=h;injection h1 with h1;injection h1 with h2 h1;injection h2 with h2;injection h1 with h1 _;injection h1 with h1;have h3:i=k:=⋯
  subst h2 h3;obtain⟨q,hq,e1,e2⟩:=vL _ _ _ _ hf;have hi:=(oF (List.mem_filter.mp hq).1).1;rw[e1,hk] at hi;have hi:r=q.2:=D_ hi;rw[<- hi] at e2;have hl:r.o=.J7:=by cases ho:r.o<;>rw[ho] at hr<;>first|rfl|cases hr
  rw[hl] at e2;have e3:J6 (A++(f,run)::B) z=Δ f:=e2;have e4:=xQ nd gw e3
  rw[<- vK (A++(f,run)::B) day z (al':=A++(f,g)::B) (fun o=>by
   cases o with
   | J7=>exact e3.trans e4.symm
   | _=>rfl),hf]
  rfl
theorem zH:∀ (n:Nat) (d:D),pl n d=Θ->pl (n+1) d=Θ:=by
 intro n
 induction n with
 | zero=>intro d h;cases d<;>cases h
 | succ n ih=>
  have all:∀ ds:List D,Hz n ds=Θ->Hz (n+1) ds=Θ:=by
   intro ds
   induction ds with
   | nil=>intro _;rfl
   | cons e ds Kc=>intro h;have h':=z_.mp (show (pl n e&&Hz n ds)=Θ from h);show (pl (n+1) e&&Hz (n+1) ds)=Θ;rw[ih e h'.1,Kc h'.2];rfl
  intro d h;cases d with
  | tup ds=>have h':=z_.mp (show (Hz n ds&&decide (ds.length < 1000))=Θ from h);show (Hz (n+1) ds&&decide (ds.length < 1000))=Θ;rw[all ds h'.1,h'.2];rfl
  | lst o ds=>have h':=z_.mp (show (!o&&(Hz n ds&&decide (ds.length < 1000)))=Θ from h);have h2:=z_.mp h'.2;show (!o&&(Hz (n+1) ds&&decide (ds.length < 1000)))=Θ;rw[h'.1,all ds h2.1,h2.2];rfl
  | Gn _ _ _=>cases h
  | exc _=>cases h
  | _=>rfl
theorem Ft {H a b c:D}(h:er H=.tup [a,b,c]):∃ P Q R,H=.tup [P,Q,R]/\er P=a/\er Q=b/\er R=c:=by
 cases H with
 | tup ds=>
  have e:FA ds=[a,b,c]:=by have:D.tup (FA ds)=.tup [a,b,c]:=h;injection this
  rw[cA] at e;obtain⟨P,r1,rfl,e1,e⟩:=List.map_eq_cons_iff.mp e;obtain⟨Q,r2,rfl,e2,e⟩:=List.map_eq_cons_iff.mp e;obtain⟨R,r3,rfl,e3,e⟩:=List.map_eq_cons_iff.mp e;rw[List.map_eq_nil_iff.mp e];exact⟨P,Q,R,rfl,e1,e2,e3⟩
 | _=>cases h
theorem EI {H a b:D}(h:er H=.lst Ξ [a,b]):∃ o P Q,H=.lst o [P,Q]/\er P=a/\er Q=b:=by
 cases H with
 | lst o ds=>
  have e:FA ds=[a,b]:=by have:D.lst Ξ (FA ds)=.lst Ξ [a,b]:=h;injection this
  rw[cA] at e;obtain⟨P,r1,rfl,e1,e⟩:=List.map_eq_cons_iff.mp e;obtain⟨Q,r2,rfl,e2,e⟩:=List.map_eq_cons_iff.mp e;rw[List.map_eq_nil_iff.mp e];exact⟨o,P,Q,rfl,e1,e2⟩
 | _=>cases h
theorem xR (cl:Nat->List D->Res D){FS:List D}{day k:Int}{f f0 tn:Str}{at_:Int}{GS W1 W2 W3 P Q R1 R2 VI V:D}{o:Bool}{rs:List Rl}(JI:∀ o,cH (.lst o FS) (.int 0)=.ok (.str f0))(eP:er P=GS)(e1:er R1=W2)(e2:er R2=W3)(eV:er V=VI)(x2:cH W1 (.int 2)=.ok (.lst Ξ (rs.map Rl.d)))(k0:0<=k)
  (hs:cl 60 [.tup [.str f,.int k],.tup [.str f,.int k]]=.ok (.bl Θ)) (h1:f=f0->k=at_->cl 42 [GS,W2,.int day,VI]=.ok (.tup [.str f,.int k])) (h2:∀ r,f=tn->rs[k.toNat]? = Δ r->jw r.o=Θ->cl 42 [GS,W3,.int day,VI]=.ok (.tup [.str f,.int k])) (s0 s1 s3 s4 s5 s6 s8 s9 HG HQ IX:Option D) :
  cI cl QO [s0,s1,Δ (.lst Ξ FS),s3,s4,s5,s6,Δ (.int day),s8,s9,Δ (.int at_),Δ W1,HG,Δ (.str tn),Δ (.tup [P,Q,.lst o [R1,R2]]),HQ,IX,Δ V,Δ (.tup [.str f,.int k])]=.ok (.nx [s0,s1,Δ (.lst Ξ FS),s3,s4,s5,s6,Δ (.int day),s8,s9,Δ (.int at_),Δ W1,HG,Δ (.str tn),Δ (.tup [P,Q,.lst o [R1,R2]]),HQ,IX,Δ V,Δ (.tup [.str f,.int k])]):=by
 have lr:(rs.map Rl.d).length=rs.length:=i_ _;have eF:er (.tup [.str f,.int k])=.tup [.str f,.int k]:=rfl;have q1:G7 .eq (.tup [.str f,.int k]) (.tup [.str f0,.int at_])=.ok ((f == f0)&&((k == at_)&&Θ)):=rfl;have c1:Fz cl QL [s0,s1,Δ (.lst Ξ FS),s3,s4,s5,s6,Δ (.int day),s8,s9,Δ (.int at_),Δ W1,HG,Δ (.str tn),Δ (.tup [P,Q,.lst o [R1,R2]]),HQ,IX,Δ V,Δ (.tup [.str f,.int k])]=.ok (.bl Ξ):=by
  unfold QL;cases hb:((f == f0)&&((k == at_)&&Θ)) with
  | false=>rw[hb] at q1;simp![JI,q1]
  | true=>have Il:=z_.mp hb;have h3:=h1 (by simpa using Il.1) (by simpa using Il.2);rw[hb] at q1;generalize D.tup [.str f,.int k]=FD at *;simp![JI,q1,eP,e1,eV,h3,eF,hs]
 have c3:∀ r,f=tn->rs[k.toNat]? = Δ r->jw r.o=Θ->Fz cl QN [s0,s1,Δ (.lst Ξ FS),s3,s4,s5,s6,Δ (.int day),s8,s9,Δ (.int at_),Δ W1,HG,Δ (.str tn),Δ (.tup [P,Q,.lst o [R1,R2]]),HQ,IX,Δ V,Δ (.tup [.str f,.int k])]=.ok (.bl Ξ):=fun r a b c=>by have h3:=h2 r a b c;unfold QN;generalize D.tup [.str f,.int k]=FD at *;simp![eP,e2,eV,h3,eF,hs]
 have c2:∃ b:Bool,Fz cl QM [s0,s1,Δ (.lst Ξ FS),s3,s4,s5,s6,Δ (.int day),s8,s9,Δ (.int at_),Δ W1,HG,Δ (.str tn),Δ (.tup [P,Q,.lst o [R1,R2]]),HQ,IX,Δ V,Δ (.tup [.str f,.int k])]=.ok (.bl b)/\(b=Θ->∃ r,f=tn/\rs[k.toNat]? = Δ r/\jw r.o=Θ):=by
  unfold QM;cases hb:(f == tn) with
  | false=>refine⟨Ξ,?_,fun h=>by cases h⟩;simp![hb]
  | true=>
   cases hk:decide (k < (rs.length:Int)) with
   | false=>refine⟨Ξ,?_,fun h=>by cases h⟩;generalize rs.map Rl.d=RD at *;simp![hb,x2,lr,hk]
   | true=>
    have La:=q_ hk;have hl:k.toNat < rs.length:=⋯
    have hx:cH (.lst Ξ (rs.map Rl.d)) (.int k)=.ok (rs[k.toNat]).d:=ju Rl.d Ξ k0 (y_ hl);have ho:cH (rs[k.toNat]).d (.int 1)=.ok (rs[k.toNat]).o.d:=rfl;have hq:=BY (rs[k.toNat]).o;refine⟨jw (rs[k.toNat]).o,?_,fun h=>⟨_,by simpa using hb,y_ hl,h⟩⟩;generalize jw (rs[k.toNat]).o=L,(rs[k.toNat]).o.d=OD,(rs[k.toNat]).d=QD,rs.map Rl.d=RD at *;simp![hb,x2,lr,hk,hx,ho,hq]
 unfold QO;generalize QL=a1,QM=a2,QN=a3,D.tup [.str f,.int k]=FD at *;obtain⟨b,c2,hb⟩:=c2;cases b with
 | false=>simp![c1,c2]
 | true=>obtain⟨r,g1,g2,g3⟩:=hb rfl;have c4:=c3 r g1 g2 g3;simp![c1,c2,c4]
section
variable (ns:List Int){j:Nat}(hj:j < 8){nms fs:List Str}(hn:nms.length<=20)(Ms:nms.Nodup){m:Int}(m0:0<=m)(m1:m<=1000000000){st:Str}(hs:st.length<=100)(c day:Int){gs:List Gp}(hg:Nk gs){cs:List Nat}(hc:Sl cs){rest f0 x:Str}{a b:List Rl}{cd:List Cn}{sh la:Int}{A B:Al}{run g fr fr2:List (Int×Int)}
 (sl:sh<=la) (wc:∀ c∈cd,Wf c) (oa:∀ r∈a,lU r) (ob:∀ r∈b,lU r) (P4:a.length+b.length<=5) (JI:∀ o,cH (.lst o (fs.map .str)) (.int 0)=.ok (.str f0)) (nd:((A++(x,run)::B).map (·.1)).Nodup) (gw:Gw run g) {P Q R1 R2:D}{o:Bool} (eP:er P=HW gs) (eQ:er Q=Gy (Gb cs) rest (a++⟨cd,.share f0 [(day,sh)]⟩::b) (A++(x,run)::B) fr) (e1:er R1=Gy (Gb cs) rest (a++⟨cd,.share f0 [(day,la)]⟩::b) (A++(x,run)::B) fr) (e2:er R2=Gy (Gb cs) rest (a++⟨cd,.share f0 [(day,sh)]⟩::b) (A++(x,g)::B) fr2)
include hj hn Ms hs hg hc sl wc oa ob P4 JI nd gw eP eQ e1 e2 m0 m1 in
theorem EJ (s3 s4 s8 s9 HG Jr Ra:Option D) :
  ∃ KD KG:Option D,cI (aB T 16) Pm [Δ (.lst Ξ (ns.map .int)),Δ (.lst Ξ (nms.map .str)),Δ (.lst Ξ (fs.map .str)),s3,s4,Δ (.str st),Δ (.int c),Δ (.int day),s8,s9,Δ (.int (a.length:Nat)),Δ (Gy (Gb cs) rest (a++⟨cd,.share f0 [(day,sh)]⟩::b) (A++(x,run)::B) fr),HG,Δ (.str x),Δ (.tup [P,Q,.lst o [R1,R2]]),Δ (.int (j:Nat)),Δ (.int m),Jr,Ra]=.ok (.nx [Δ (.lst Ξ (ns.map .int)),Δ (.lst Ξ (nms.map .str)),Δ (.lst Ξ (fs.map .str)),s3,s4,Δ (.str st),Δ (.int c),Δ (.int day),s8,s9,Δ (.int (a.length:Nat)),Δ (Gy (Gb cs) rest (a++⟨cd,.share f0 [(day,sh)]⟩::b) (A++(x,run)::B) fr),HG,Δ (.str x),Δ (.tup [P,Q,.lst o [R1,R2]]),Δ (.int (j:Nat)),Δ (.int m),KD,KG]):=by
 have ei:=Ev.cJ ns;have en:=Ev.cK nms;obtain⟨ms,em,ndm,lm⟩:=vy 12 ns (k:=670+25*(j:Int)) ⋯ ⋯ hn Ms hs c;have Xq:=lD ms;have eg:=fx gs;have evi:er (K4 m ms)=K4 m ms:=zx m ms;have sv:D.tup [.int m,.lst Ξ (ms.map G5)]=K4 m ms:=rfl;have eV:er (.tup [.int m,.lst Θ (ms.map G5)])=K4 m ms:=by show D.tup [.int m,.lst Ξ (FA (ms.map G5))]=_;rw[Xq];rfl
 have wf:∀ s:Int,∀ r∈a++(⟨cd,.share f0 [(day,s)]⟩:Rl)::b,∀ c∈r.cs,Wf c:=fun s r hr c hc=>by
  rcases v_.mp hr with hr|hr
  ·exact(oa r hr).1 c hc
  ·rcases k_.mp hr with rfl|hr
   ·exact wc c hc
   ·exact(ob r hr).1 c hc
 have ln:∀ s:Int,(a++(⟨cd,.share f0 [(day,s)]⟩:Rl)::b).length<=100:=fun s=>by rw[o_,List.length_cons];omega
 have k1:=hW 6 hg.ok ms hc rest (A++(x,run)::B) fr (wf sh) (ln sh) day m0 m1;have k2:=hW 6 hg.ok ms hc rest (A++(x,run)::B) fr (wf la) (ln la) day m0 m1;have k3:=hW 6 hg.ok ms hc rest (A++(x,g)::B) fr2 (wf sh) (ln sh) day m0 m1;obtain⟨f,k,ht,k0⟩:∃ (f:Str) (k:Nat),told gs ms rest (a++⟨cd,.share f0 [(day,sh)]⟩::b) (A++(x,run)::B) day (Ji cs m)=.tup [.str f,.int (k:Nat)]/\True:=by
  unfold told;cases fst (A++(x,run)::B) day (Ji cs m) ((idx (a++⟨cd,.share f0 [(day,sh)]⟩::b)).filter fun q=>q.2.cs.all (eM gs ms)) with
  | none=>exact⟨_,_,rfl,trivial⟩
  | some q=>exact⟨_,_,rfl,trivial⟩
 have tw:=xR (aB T 16) (FS:=fs.map .str) (day:=day) (k:=(k:Int)) (f:=f) (f0:=f0) (tn:=x) (at_:=(a.length:Nat)) (GS:=HW gs) (W1:=Gy (Gb cs) rest (a++⟨cd,.share f0 [(day,sh)]⟩::b) (A++(x,run)::B) fr) (P:=P) (Q:=Q) (R1:=R1) (R2:=R2) (V:=.tup [.int m,.lst Θ (ms.map G5)]) (o:=o) (rs:=a++⟨cd,.share f0 [(day,sh)]⟩::b) JI eP e1 e2 eV rfl ⋯ (same 3 13 rfl)
  (fun h1 h2=>by
   subst h1;have h2:k=a.length:=⋯
   subst h2;rw[qQ gs ms rest _ day _ sl ht] at k2
   exact k2)
  (fun r h1 h2 h3=>by
   subst h1;rw[aax] at h2;rw[vM gs ms rest day _ nd gw h2 h3 ht] at k3
   exact k3)
  (Δ (.lst Ξ (ns.map .int))) (Δ (.lst Ξ (nms.map .str))) s3 s4 (Δ (.str st)) (Δ (.int c)) s8 s9 HG (Δ (.int (j:Nat))) (Δ (.int m))
 rw[ht] at k1;refine⟨Δ (.tup [.int m,.lst Θ (ms.map G5)]),Δ (.tup [.str f,.int (k:Int)]),?_⟩;unfold Pm;generalize K4 m ms=VI,Gy (Gb cs) rest (a++⟨cd,.share f0 [(day,sh)]⟩::b) (A++(x,run)::B) fr=SW,HW gs=GS,ms.map G5=MS,ns.map D.int=NS,fs.map D.str=FS,nms.map D.str=NM,QO=tl at *;simp![ei,en,em,Xq,sv,evi,eg,eP,eQ,k1,tw]
include hj hn Ms hs hg hc sl wc oa ob P4 JI nd gw eP eQ e1 e2 m0 m1 in
theorem xS (s3 s8 s9 HG HQ IX Jr Ra:Option D) :
  ∃ NY NZ KD KG:Option D,Ev.turn (aB T 16) (.nm 15) Pn (.int (j:Nat)) [Δ (.lst Ξ (ns.map .int)),Δ (.lst Ξ (nms.map .str)),Δ (.lst Ξ (fs.map .str)),s3,Δ (.int m),Δ (.str st),Δ (.int c),Δ (.int day),s8,s9,Δ (.int (a.length:Nat)),Δ (Gy (Gb cs) rest (a++⟨cd,.share f0 [(day,sh)]⟩::b) (A++(x,run)::B) fr),HG,Δ (.str x),Δ (.tup [P,Q,.lst o [R1,R2]]),HQ,IX,Jr,Ra]=.ok (.nx [Δ (.lst Ξ (ns.map .int)),Δ (.lst Ξ (nms.map .str)),Δ (.lst Ξ (fs.map .str)),s3,Δ (.int m),Δ (.str st),Δ (.int c),Δ (.int day),s8,s9,Δ (.int (a.length:Nat)),Δ (Gy (Gb cs) rest (a++⟨cd,.share f0 [(day,sh)]⟩::b) (A++(x,run)::B) fr),HG,Δ (.str x),Δ (.tup [P,Q,.lst o [R1,R2]]),NY,NZ,KD,KG]):=by
 have ei:=Ev.cJ ns;obtain⟨v,ev,v0,v1⟩:=uR 14 ns (k:=640+3*(j:Int)) ⋯ ⋯;have key:=fun (m':Int) (m0:0<=m') (m1:m'<=1000000000)=>EJ ns hj hn Ms m0 m1 hs c day hg hc sl wc oa ob P4 JI nd gw (o:=o) eP eQ e1 e2 s3 (Δ (.int m)) s8 s9 HG Jr Ra;unfold Pn;cases hq:((j:Int) % 2 == 1) with
 | true=>obtain⟨KD,KG,e⟩:=key v v0 v1;refine⟨Δ (.int (j:Nat)),Δ (.int v),KD,KG,?_⟩;generalize Gy (Gb cs) rest (a++⟨cd,.share f0 [(day,sh)]⟩::b) (A++(x,run)::B) fr=SW,ns.map D.int=NS,fs.map D.str=FS,nms.map D.str=NM,Pm=tl at *;simp![Ev.cy,ei,hq,ev,e]
 | false=>obtain⟨KD,KG,e⟩:=key m m0 m1;refine⟨Δ (.int (j:Nat)),Δ (.int m),KD,KG,?_⟩;generalize Gy (Gb cs) rest (a++⟨cd,.share f0 [(day,sh)]⟩::b) (A++(x,run)::B) fr=SW,ns.map D.int=NS,fs.map D.str=FS,nms.map D.str=NM,Pm=tl at *;simp![Ev.cy,ei,hq,e]
end
theorem EK (cs:List Nat)(m:Int):0<=Ji cs m/\Ji cs m<=10006:=by have h1:=Int.emod_nonneg ((1+cs.foldl (kf 31 10006) 0)*m+cs.foldl (kf 37 10007) 0) (show (10007:Int)≠0 by decide);have h2:=Int.emod_lt_of_pos ((1+cs.foldl (kf 31 10006) 0)*m+cs.foldl (kf 37 10007) 0) (show (0:Int) < 10007 by decide);exact⟨h1,Int.le_of_lt_add_one h2⟩
theorem BZ (ns:List Int):aB T (16+1) 65 [.lst Ξ (ns.map .int)]=.ok (.bl Θ):=by
 obtain⟨nms,e1,l1,QC,_⟩:=jr 14 ns (k:=0) nofun nofun (c:=3) nofun nofun;obtain⟨fs,e2,l2,LK,_⟩:=jr 14 ns (k:=50) nofun nofun (c:=4) nofun nofun;have l1:nms.length=3:=l1;have l2:fs.length=4:=l2;obtain⟨cs,e3,hc⟩:=xr 14 ns (k:=100) nofun nofun;obtain⟨m,e4,m0,m1⟩:=uR 14 ns (k:=120) nofun nofun;have e5:=qL 15 cs hc.2.1 m m0 m1;obtain⟨z0,z1⟩:=EK cs m;obtain⟨st,e6,GI⟩:=p4 14 ns (k:=130) nofun nofun;obtain⟨c,e7⟩:=kq 14 ns (k:=145) nofun nofun;have d1:=cU 15 ns 147 1000 nofun nofun nofun;generalize dr ns 147 1000=day at *;obtain⟨gs,e8,hg,lg,_⟩:=qM 11 ns (k:=150) nofun nofun (ms:=nms) ⋯ ⋯ QC GI c;have fm:cD (cL (aB T 16) (.nm 0) [] (.idx (.v 0) (.c (.int 0))) [Φ]) (gs.map Gp.d)=.ok ((gs.map (·.nm)).map .str):=Ev.dF Gp.d (·.nm) .str gs fun g _=>by have x0:cH g.d (.int 0)=.ok (.str g.nm):=rfl;generalize g.d=G at *;simp![x0]
 have lgn:(gs.map (·.nm)).length<=2:=by rw[i_];exact lg
 have lgd:(gs.map Gp.d).length=gs.length:=i_ _;generalize gs.map (·.nm)=gn at *;obtain⟨a,b,cd,sh,la,f0,rest,A,B,x,run,g,fr,fr2,e9,sl,wc,lc,oa,ob,P4,U8,nm,lA,h2,Na,U9,Xg,gw⟩:=vI 10 ns (ms:=nms) (gn:=gn) (fs:=fs) l1 lgn l2 (Gb cs) z0 z1 day;generalize Ji cs m=z at *;have d6:=cU 15 ns 606 3 nofun nofun nofun;have t0:=fX ns 606 (m:=3) nofun;have t1:=fY ns 606 (m:=3) nofun;generalize dr ns 606 3=t at *;obtain⟨tn,htn,gtn⟩:=dA (fs:=fs) (i:=t) t0 ⋯;have hx:x=tn:=by
  have h3:((A++(x,run)::B).map (·.1))[t.toNat]? = Δ x:=by rw[A_,aaw ⋯,show t.toNat - A.length=0 by omega];rfl
  rw[nm,List.getElem?_take_of_lt ⋯,gtn] at h3;exact(D_ h3).symm
 subst hx;have JI:∀ o,cH (.lst o (fs.map .str)) (.int 0)=.ok (.str f0):=by obtain⟨y,hy,gy⟩:=dA (fs:=fs) (i:=0) nofun ⋯;have:Δ f0=Δ y:=U8.symm.trans gy;rw[D_ this];exact hy
 have nd:((A++(x,run)::B).map (·.1)).Nodup:=by rw[nm];exact List.Nodup.sublist (List.take_sublist _ _) LK
 have lAB:(A++(x,run)::B).length=3:=by rw[<- i_ (f:=(·.1)),nm,L_,l2];rfl
 have U':∀ s:Int,∀ r∈a++(⟨cd,.share f0 [(day,s)]⟩:Rl)::b,lU r:=fun s r hr=>by
  rcases v_.mp hr with hr|hr
  ·exact oa r hr
  ·rcases k_.mp hr with rfl|hr
   ·exact⟨wc,by show cd.length<=2;omega,fun f sg h=>by cases h;show 1<=3;decide⟩
   ·exact ob r hr
 have Va:∀ s:Int,(a++(⟨cd,.share f0 [(day,s)]⟩:Rl)::b).length<=100:=fun s=>by rw[o_,List.length_cons];omega
 have Rb:∀ p∈A++(x,run)::B,p.2.length<=60:=fun p hp=>O_ (h2 p hp) nofun;have p1:=vD (salt:=Gb cs) (rest:=rest) (Va sh) (U' sh) (al:=A++(x,run)::B) (fr:=fr) ⋯ Rb Na;have p2:=vD (salt:=Gb cs) (rest:=rest) (Va la) (U' la) (al:=A++(x,run)::B) (fr:=fr) ⋯ Rb Na
 have p3:=vD (salt:=Gb cs) (rest:=rest) (Va sh) (U' sh) (al:=A++(x,g)::B) (fr:=fr2) (by rw[o_,List.length_cons] at lAB ⊢;omega) (fun p hp=>by
  rcases v_.mp hp with hp|hp
  ·exact Rb p (r_ _ hp)
  ·rcases k_.mp hp with rfl|hp
   ·exact Xg
   ·exact Rb p (s_ _ (.tail _ hp))) U9
 have Vb:=lN (Gb cs) rest (a++⟨cd,.share f0 [(day,sh)]⟩::b) (A++(x,run)::B) fr;have Vc:=lN (Gb cs) rest (a++⟨cd,.share f0 [(day,la)]⟩::b) (A++(x,run)::B) fr;have Vd:=lN (Gb cs) rest (a++⟨cd,.share f0 [(day,sh)]⟩::b) (A++(x,g)::B) fr2;have pt:pl 13 (.tup [HW gs,Gy (Gb cs) rest (a++⟨cd,.share f0 [(day,sh)]⟩::b) (A++(x,run)::B) fr,.lst Ξ [Gy (Gb cs) rest (a++⟨cd,.share f0 [(day,la)]⟩::b) (A++(x,run)::B) fr,Gy (Gb cs) rest (a++⟨cd,.share f0 [(day,sh)]⟩::b) (A++(x,g)::B) fr2]])=Θ:=by have q0:=zH _ _ (EC hg (show gs.length<=100 by omega));have q1:=zH _ _ p1;show ((pl 12 _&&(pl 12 _&&((Θ&&((pl 11 _&&(pl 11 _&&Θ))&&Θ))&&Θ)))&&Θ)=Θ;rw[q0,q1,p2,p3];rfl
 obtain⟨H,e11,eH⟩:=copy 13 3 pt;have Vy:=same 13 3 pt;obtain⟨P,Q,R,rfl,eP,eQ,eR⟩:=Ft eH;obtain⟨o,R1,R2,rfl,Xr,Xs⟩:=EI eR;have lH:cq (.tup [P,Q,.lst o [R1,R2]])=Ξ:=by show (cq P&&(cq Q&&(Ξ&&Θ)))=Ξ;rw[Bool.false_and,Bool.and_false,Bool.and_false]
 have lw:=fun (j:Nat) (hj:j < 8)=>xS ns (j:=j) hj (nms:=nms) (fs:=fs) ⋯ QC m0 m1 GI c day hg hc (rest:=rest) (f0:=f0) (x:=x) (a:=a) (b:=b) (cd:=cd) (sh:=sh) (la:=la) (A:=A) (B:=B) (run:=run) (g:=g) (fr:=fr) (fr2:=fr2) sl wc oa ob P4 JI nd gw (o:=o) eP eQ Xr Xs (Δ (.str (Gb cs))) (Δ (HW gs)) (Δ (.lst Ξ (gn.map .str)));have egD:=fx gs;have egs:=lF gs;have sg:D.lst Ξ (gs.map Gp.d)=HW gs:=rfl;have lsw:cq (Gy (Gb cs) rest (a++⟨cd,.share f0 [(day,sh)]⟩::b) (A++(x,run)::B) fr)=Ξ:=rfl;have lgs:cq (HW gs)=Ξ:=rfl;generalize Gy (Gb cs) rest (a++⟨cd,.share f0 [(day,sh)]⟩::b) (A++(x,run)::B) fr=W1,Gy (Gb cs) rest (a++⟨cd,.share f0 [(day,la)]⟩::b) (A++(x,run)::B) fr=W2,Gy (Gb cs) rest (a++⟨cd,.share f0 [(day,sh)]⟩::b) (A++(x,g)::B) fr2=W3 at *;obtain⟨τ',e13,NY,NZ,KD,KG,rfl⟩:=Ev.dZ (its:=cO 0 8) (τ:=[Δ (.lst Ξ (ns.map .int)),Δ (.lst Ξ (nms.map .str)),Δ (.lst Ξ (fs.map .str)),Δ (.str (Gb cs)),Δ (.int m),Δ (.str st),Δ (.int c),Δ (.int day),Δ (HW gs),Δ (.lst Ξ (gn.map .str)),Δ (.int (a.length:Nat)),Δ W1,Δ (.lst Ξ [W2,W3]),Δ (.str x),Δ (.tup [P,Q,.lst o [R1,R2]]),Φ,Φ,Φ,Φ]) (body:=Ev.turn (aB T 16) (.nm 15) Pn)
  (fun j τ=>∃ NY NZ KD KG:Option D,τ=[Δ (.lst Ξ (ns.map .int)),Δ (.lst Ξ (nms.map .str)),Δ (.lst Ξ (fs.map .str)),Δ (.str (Gb cs)),Δ (.int m),Δ (.str st),Δ (.int c),Δ (.int day),Δ (HW gs),Δ (.lst Ξ (gn.map .str)),Δ (.int (a.length:Nat)),Δ W1,Δ (.lst Ξ [W2,W3]),Δ (.str x),Δ (.tup [P,Q,.lst o [R1,R2]]),NY,NZ,KD,KG])
  ⟨Φ,Φ,Φ,Φ,rfl⟩ (by
   rintro j y τ hy ⟨NY,NZ,KD,KG,rfl⟩;obtain⟨hj,rfl⟩:=oG hy;obtain⟨d15,d16,d17,d18,e⟩:=lw j hj (Δ (.lst Ξ [W2,W3])) NY NZ KD KG
   exact⟨_,e,d15,d16,d17,d18,rfl⟩)
 have ei:=Ev.cJ ns;have ef:=Ev.cK fs;have en:=Ev.cK nms;have eg:=Ev.cK gn;have lfg:=Ev.oz gn;rw[gx 65 Q2 1 19 UJ rfl rfl rfl rfl rfl rfl];unfold UJ;have lt3:∀ (i:Int) (P:D) (l:List D),cq (.tup [.int i,P,.lst Θ l])=Ξ:=fun i P l=>by show (Θ&&(cq P&&(Ξ&&Θ)))=Ξ;rw[Bool.false_and,Bool.and_false,Bool.and_false]
 generalize ns.map D.int=NS,fs.map D.str=FS,nms.map D.str=NM,gn.map D.str=GN,Pn=tlw at *;simp![ei,ef,en,eg,egs,egD,sg,lfg,lgs,lsw,e1,e2,e3,e4,e5,e6,e7,d1,e8,fm,lgd,e9,lt3,d6,htn,Vb,Vc,Vd,e11,lH,e13,eP,eQ,Xr,Xs,Vy]
theorem holds (ns:List Int)(h:ns.length<=63):aB T (16+1) BE [.lst Ξ (ns.map .int)]=.ok (.bl Θ):=BZ ns
end Law
structure PySem.W.Fast:Prop where
 (tw18416995617140658097 tw14686299116788111397 tw1793479975166540875 tw16679923327382245079 tw15038782170877931962 tw6162826791102211624 tw17284964549426231487 tw9149701252379152458 tw7894491992726226651 tw12929501551455875968 tw12554294826043648443 tw14312184489247966981 tw17309736591014405279 tw15073469126689125165 tw9842703647267605940 tw12607873699724518598 tw11427905243409552765 tw2967761908434570604 tw15910574528024070837 tw487766086374405362 tw8006271344042677925 tw1515588672582527593 tw13405864988572680672 tw9534418805211873386 tw10214756656110664330 tw10069100978287372522 tw9198057883876206271 tw13647725922926750505 tw14449811728153396037 tw6179010781445513032 tw13685035792036202654 tw10970873681627769867 tw15152817095897187039 tw5626918365099286657 tw14301103087504345979 tw2344426741714495230 tw3832398640686281523 tw14914605785206072986 tw17036890340616758404 tw3459737381668129283 tw10983274713931602438 tw9132448580150066176 tw12655267134768689420 tw5229454843715894429 tw9530776060821469725 tw11155212686318927540 tw15524660503710439644 tw12133386560949938617 tw3192561207399959754 tw9998957809040087858 tw5643436015550986998 tw10084727439150829486 tw9288090370091758499 tw17865365652890008422 tw13436319195044165938 tw12731908624553897740 tw14607576478873271346 tw16592989551274160667 tw8921155580487353363 tw7886462669854219091 tw15561256119979088391 tw17197781445216548987 tw7920737370806069836 tw4449791666051112769 tw16315739004255803457 tw697792850102348866 tw5089282584993587674 tw4048529849773320375 tw7007013622174978334 tw6653637593564875466 tw13775295185438651660 tw1734033259056116728 tw15945141448631902213 tw11004115899391105823 tw18272284837950618291 tw17640483325593304725 tw10996627033038519701 tw11073430777128069618 tw11480159309458524465 tw16420692687599624366 tw8637614375754643784 tw2744703438761996589 tw16165144662334249899 tw17918595913672514219 tw16105870029076481453 tw6003249660593446047 tw5112487178233435891 tw5982189718127861663 tw346230751464495850 tw18446628700038822416 tw12723772276579937237 tw3865533450917868961 tw13958180207751707790 tw8145554614350613701 tw17014347356536974028 tw4305384673296512142 tw10544136974903145180 tw15858831847412215206 tw6741541660970849977 tw3940070269949600025 tw4702245281277646174 tw2530891675448227698 tw10362275377197446243 tw10098436534477152930 tw10062314120756386624 tw13655686283517213782 tw11336149769460573847 tw4383539533513352441 tw10746250474901184409 tw10024189264935535434 tw2764880546600310678 tw5685304529522708957 tw6226926692617203992 tw10651399677651748781 tw10921672192208587529 tw17755666224405508485 tw1467541911438937170 tw3744841633600820616 tw624818675555255427 tw3813361022933386044 tw8219827916888454085 tw8480307038698739821 tw17979710266826138601 tw5427932020093772491 tw7421042864477977247 tw18213702020507404084 tw3853701136663038289 tw11903310926677930316 tw8262037896265228827 tw15119110877667534753 tw3985411107664307472 tw6309976933176417178 tw3575654327262765434 tw11853104657568634282 tw18352075774508806875 tw12420591020768768506 tw11516048436619524302 tw1232712599677424934 tw11845053284795042143 tw12156355540964121234 tw13571746404500679144 tw11841295887815376017 tw2793645108061052948 tw14883289480391326031 tw917561536336032155 tw15707452624075989331 tw12969595441678600150 tw13430966047828977416 tw10729723114838952983 tw9197239431513451361 tw10557521228478870716 tw17792458058856905780 tw9898699925264670676 tw2488241846121832996 tw2794923573915826748 tw9044556273800774995 tw7188230016593618443 tw7329792607047172019 tw5107237086848039278 tw1791118786034415921 tw1610120729896262298 tw12381674179616849278 tw13574293493496597482 tw5132889215796652856 tw6544217397458327326 tw13546691271983380738 tw17493173340836586373 tw15939797012014483872 tw9769953313239888424 tw5833716758997687069 tw15871334399536413125 tw1802179090644260178 tw6847123957807574741 tw67980145818080992 tw3750451721035487605 tw18411739571227295529 tw14558855593882915325 tw6805237962220082641 tw14954944203743196287 tw3181207572873357928 tw4875326400611665106 tw179619105972797360 tw4122717855612733150 tw8648153429759037740 tw12912419699979009805 tw17483155602225753523 tw10348509822996660525 tw6687838585731616781 tw4438471182108501011 tw11127023021292192846 tw15120391730731864712 tw3664411165509654930 tw5926659025880076650 tw17273704399268141050 tw1851733314274375302 tw4545097056220096895 tw2592292072075966373 tw16839373375310933683 tw2410890031515556008 tw8093062191522070307 tw1557026513954892962 tw16294910218347786731 tw1805497709006907042 tw8910226268255608769 tw7893923331275644084 tw9016734893751751007 tw9095944334912476247 tw5044000631375085316 tw17084500439942837013 tw1800663696906070448 tw872889074051348579 tw11036219786913396302 tw16827863344403570727 tw10063644668731220348 tw2099440865646192542 tw12540813368042678911 tw4591257213246240048 tw5961641090478134665 tw7521367661505484185 tw10722301954605387183 tw17222885081343105004 tw13524117874673771917 tw566331454877951052 tw13923889687366174401 tw3130758057251462770 tw15205219065539075691 tw4716253415145567394 tw642905456402859266 tw16143717845462831237 tw2744063356951724860 tw770010644021094600 tw12177334033214904790 tw5138980952167068034 tw4142631407349236360 tw10649469664724687429 tw7352368402869974822 tw7993576732813292496 tw15223139541146573093 tw4056807879356338136 tw4409741599591148440 tw14313618241243370933 tw16643517159527965657 tw5559480181213155103 tw17127767860992292611 tw5994820545031072 tw9035925895681007456 tw9051594827018555329 tw14631404428275499810 tw10495724440327945541 tw4566427922159689033 tw312676815678366753 tw1326959244135331153 tw12198898147690894727 tw381403147037074866 tw12259122192727309588 tw13043237073123521700 tw4353582819766612143 tw1995337538491670995 tw2512942411211587012 tw14629902795702603230 tw1719327463696862528 tw7573723574217121920 tw1703657467418194276 tw8608377702681644442 tw14210488358875677296 tw5165043858078576178 tw10991938859326587857 tw9663595347772805940 tw1818547869801800699 tw15831765419758759777 tw1831562960158007091 tw12882671892517333216 tw17957343287861921518 tw18308993615318007798 tw9608438242021824671 tw14958516077645942983 tw11915476658725232901 tw10815060008944084513 tw12902673140918003097:True)
open PySem PySem.W PyProof.Rows
set_option maxRecDepth 100000 in
set_option maxHeartbeats 0 in
theorem PySem.Challenge.cw_flagroll_k32_nobody_loses_holds : PySem.Challenge.rw_flagroll_k32_nobody_loses.Holds := by
  w_on; o_law; k_head; (case hw => w_witness2)
  k_fill
  refine L2.td (l := PySem.Challenge.rw_flagroll_k32_nobody_loses) (T := Law.T) (n := 16) (f := Law.BE) (x := Law.xk) rfl rfl ⟨fun _ => rfl, by decide, by decide⟩ (fun w h Y => PySem.W.kIn_of Y) ?F Law.holds
  case F =>
    intro w mg fa h KX G hmg
    refine' Law.all_mk KX G hmg (Law.dfo Law.c24 rfl (fun _ _ _ _ _ _ => Law.ln1 fun _ => rfl) KX G ?a24 ?l24 ?e24 ?k24) (Law.dfo Law.c25 rfl (fun _ _ _ _ _ _ => Law.ln4 fun _ _ _ _ => rfl) KX G ?a25 ?l25 ?e25 ?k25) (Law.dfo Law.c26 rfl (fun _ _ _ _ _ _ => Law.ln1 fun _ => rfl) KX G ?a26 ?l26 ?e26 ?k26) (Law.dfo Law.c27 rfl (fun _ _ _ _ _ _ => Law.ln3 fun _ _ _ => rfl) KX G ?a27 ?l27 ?e27 ?k27) (Law.dfo Law.c28 rfl (fun _ _ _ _ _ _ => Law.ln1 fun _ => rfl) KX G ?a28 ?l28 ?e28 ?k28) (Law.dfo Law.c29 rfl (fun _ _ _ _ _ _ => Law.ln2 fun _ _ => rfl) KX G ?a29 ?l29 ?e29 ?k29) (Law.dfo Law.c30 rfl (fun _ _ _ _ _ _ => Law.ln2 fun _ _ => rfl) KX G ?a30 ?l30 ?e30 ?k30) (Law.dfo Law.c31 rfl (fun _ _ _ _ _ _ => Law.ln2 fun _ _ => rfl) KX G ?a31 ?l31 ?e31 ?k31) (Law.dfo Law.c32 rfl (fun _ _ _ _ _ _ => Law.ln2 fun _ _ => rfl) KX G ?a32 ?l32 ?e32 ?k32) (Law.dfo Law.c33 rfl (fun _ _ _ _ _ _ => Law.ln3 fun _ _ _ => rfl) KX G ?a33 ?l33 ?e33 ?k33) (Law.dfo Law.c34 rfl (fun _ _ _ _ _ _ => Law.ln3 fun _ _ _ => rfl) KX G ?a34 ?l34 ?e34 ?k34) (Law.dfo Law.c35 rfl (fun _ _ _ _ _ _ => Law.ln3 fun _ _ _ => rfl) KX G ?a35 ?l35 ?e35 ?k35) (Law.dfo Law.c36 rfl (fun _ _ _ _ _ _ => Law.ln3 fun _ _ _ => rfl) KX G ?a36 ?l36 ?e36 ?k36) (Law.dfo Law.c37 rfl (fun _ _ _ _ _ _ => Law.ln3 fun _ _ _ => rfl) KX G ?a37 ?l37 ?e37 ?k37) (Law.dfo Law.c38 rfl (fun _ _ _ _ _ _ => Law.ln2 fun _ _ => rfl) KX G ?a38 ?l38 ?e38 ?k38) (Law.dfo Law.c39 rfl (fun _ _ _ _ _ _ => Law.ln4 fun _ _ _ _ => rfl) KX G ?a39 ?l39 ?e39 ?k39) (Law.dfo Law.c40 rfl (fun _ _ _ _ _ _ => Law.ln3 fun _ _ _ => rfl) KX G ?a40 ?l40 ?e40 ?k40) (Law.dfo Law.c41 rfl (fun _ _ _ _ _ _ => Law.ln4 fun _ _ _ _ => rfl) KX G ?a41 ?l41 ?e41 ?k41) (Law.dfo Law.c42 rfl (fun _ _ _ _ _ _ => Law.ln4 fun _ _ _ _ => rfl) KX G ?a42 ?l42 ?e42 ?k42) (Law.dfo Law.c43 rfl (fun _ _ _ _ _ _ => Law.ln3 fun _ _ _ => rfl) KX G ?a43 ?l43 ?e43 ?k43) (Law.dfo Law.c44 rfl (fun _ _ _ _ _ _ => Law.ln3 fun _ _ _ => rfl) KX G ?a44 ?l44 ?e44 ?k44) (Law.dfo Law.c45 rfl (fun _ _ _ _ _ _ => Law.ln2 fun _ _ => rfl) KX G ?a45 ?l45 ?e45 ?k45) (Law.dfo Law.c46 rfl (fun _ _ _ _ _ _ => Law.ln2 fun _ _ => rfl) KX G ?a46 ?l46 ?e46 ?k46) (Law.dfo Law.c47 rfl (fun _ _ _ _ _ _ => Law.ln2 fun _ _ => rfl) KX G ?a47 ?l47 ?e47 ?k47) (Law.dfo Law.c48 rfl (fun _ _ _ _ _ _ => Law.ln4 fun _ _ _ _ => rfl) KX G ?a48 ?l48 ?e48 ?k48) (Law.dfo Law.c49 rfl (fun _ _ _ _ _ _ => Law.ln2 fun _ _ => rfl) KX G ?a49 ?l49 ?e49 ?k49) (Law.dfo Law.c50 rfl (fun _ _ _ _ _ _ => Law.ln3 fun _ _ _ => rfl) KX G ?a50 ?l50 ?e50 ?k50) (Law.dfo Law.c51 rfl (fun _ _ _ _ _ _ => Law.ln2 fun _ _ => rfl) KX G ?a51 ?l51 ?e51 ?k51) (Law.dfo Law.c52 rfl (fun _ _ _ _ _ _ => Law.ln3 fun _ _ _ => rfl) KX G ?a52 ?l52 ?e52 ?k52) (Law.dfo Law.c53 rfl (fun _ _ _ _ _ _ => Law.ln4 fun _ _ _ _ => rfl) KX G ?a53 ?l53 ?e53 ?k53) (Law.dfo Law.c54 rfl (fun _ _ _ _ _ _ => Law.ln6 fun _ _ _ _ _ _ => rfl) KX G ?a54 ?l54 ?e54 ?k54) (Law.dfo Law.c55 rfl (fun _ _ _ _ _ _ => Law.ln5 fun _ _ _ _ _ => rfl) KX G ?a55 ?l55 ?e55 ?k55) (Law.dfo Law.c56 rfl (fun _ _ _ _ _ _ => Law.ln4 fun _ _ _ _ => rfl) KX G ?a56 ?l56 ?e56 ?k56) (Law.dfo Law.c57 rfl (fun _ _ _ _ _ _ => Law.ln5 fun _ _ _ _ _ => rfl) KX G ?a57 ?l57 ?e57 ?k57) (Law.dfo Law.c58 rfl (fun _ _ _ _ _ _ => Law.ln9 fun _ _ _ _ _ _ _ _ _ => rfl) KX G ?a58 ?l58 ?e58 ?k58) (Law.dfo Law.c59 rfl (fun _ _ _ _ _ _ => Law.ln5 fun _ _ _ _ _ => rfl) KX G ?a59 ?l59 ?e59 ?k59) (Law.dfo Law.c60 rfl (fun _ _ _ _ _ _ => Law.ln2 fun _ _ => rfl) KX G ?a60 ?l60 ?e60 ?k60) (Law.dfo Law.c61 rfl (fun _ _ _ _ _ _ => Law.ln1 fun _ => rfl) KX G ?a61 ?l61 ?e61 ?k61) (Law.dfo Law.c62 rfl (fun _ _ _ _ _ _ => Law.ln2 fun _ _ => rfl) KX G ?a62 ?l62 ?e62 ?k62) (Law.dfo Law.c63 rfl (fun _ _ _ _ _ _ => Law.ln3 fun _ _ _ => rfl) KX G ?a63 ?l63 ?e63 ?k63) (Law.dfo Law.c64 rfl (fun _ _ _ _ _ _ => Law.ln7 fun _ _ _ _ _ _ _ => rfl) KX G ?a64 ?l64 ?e64 ?k64) ?a65 ?l65 ?e65 ?k65 ?q21 ?q22 ?q23 ?z0 ?z1 ?z2 ?z3 ?z4 ?z5 ?z6 ?z7 ?z8 ?z9 ?z10 ?z11 ?z12 ?z13 ?z14 ?z15 ?z16 ?z17 ?z18 ?z19 ?z20
    (case a24=>k_is)
    (case l24=>k_is)
    (case e24=>k_is)
    (case k24=>k_is)
    (case a25=>k_is)
    (case l25=>k_is)
    (case e25=>k_is)
    (case k25=>k_is)
    (case a26=>k_is)
    (case l26=>k_is)
    (case e26=>k_is)
    (case k26=>k_is)
    (case a27=>k_is)
    (case l27=>k_is)
    (case e27=>k_is)
    (case k27=>k_is)
    (case a28=>k_is)
    (case l28=>k_is)
    (case e28=>k_is)
    (case k28=>k_is)
    (case a29=>k_is)
    (case l29=>k_is)
    (case e29=>k_is)
    (case k29=>k_is)
    (case a30=>k_is)
    (case l30=>k_is)
    (case e30=>k_is)
    (case k30=>k_is)
    (case a31=>k_is)
    (case l31=>k_is)
    (case e31=>k_is)
    (case k31=>k_is)
    (case a32=>k_is)
    (case l32=>k_is)
    (case e32=>k_is)
    (case k32=>k_is)
    (case a33=>k_is)
    (case l33=>k_is)
    (case e33=>k_is)
    (case k33=>k_is)
    (case a34=>k_is)
    (case l34=>k_is)
    (case e34=>k_is)
    (case k34=>k_is)
    (case a35=>k_is)
    (case l35=>k_is)
    (case e35=>k_is)
    (case k35=>k_is)
    (case a36=>k_is)
    (case l36=>k_is)
    (case e36=>k_is)
    (case k36=>k_is)
    (case a37=>k_is)
    (case l37=>k_is)
    (case e37=>k_is)
    (case k37=>k_is)
    (case a38=>k_is)
    (case l38=>k_is)
    (case e38=>k_is)
    (case k38=>k_is)
    (case a39=>k_is)
    (case l39=>k_is)
    (case e39=>k_is)
    (case k39=>k_is)
    (case a40=>k_is)
    (case l40=>k_is)
    (case e40=>k_is)
    (case k40=>k_is)
    (case a41=>k_is)
    (case l41=>k_is)
    (case e41=>k_is)
    (case k41=>k_is)
    (case a42=>k_is)
    (case l42=>k_is)
    (case e42=>k_is)
    (case k42=>k_is)
    (case a43=>k_is)
    (case l43=>k_is)
    (case e43=>k_is)
    (case k43=>k_is)
    (case a44=>k_is)
    (case l44=>k_is)
    (case e44=>k_is)
    (case k44=>k_is)
    (case a45=>k_is)
    (case l45=>k_is)
    (case e45=>k_is)
    (case k45=>k_is)
    (case a46=>k_is)
    (case l46=>k_is)
    (case e46=>k_is)
    (case k46=>k_is)
    (case a47=>k_is)
    (case l47=>k_is)
    (case e47=>k_is)
    (case k47=>k_is)
    (case a48=>k_is)
    (case l48=>k_is)
    (case e48=>k_is)
    (case k48=>k_is)
    (case a49=>k_is)
    (case l49=>k_is)
    (case e49=>k_is)
    (case k49=>k_is)
    (case a50=>k_is)
    (case l50=>k_is)
    (case e50=>k_is)
    (case k50=>k_is)
    (case a51=>k_is)
    (case l51=>k_is)
    (case e51=>k_is)
    (case k51=>k_is)
    (case a52=>k_is)
    (case l52=>k_is)
    (case e52=>k_is)
    (case k52=>k_is)
    (case a53=>k_is)
    (case l53=>k_is)
    (case e53=>k_is)
    (case k53=>k_is)
    (case a54=>k_is)
    (case l54=>k_is)
    (case e54=>k_is)
    (case k54=>k_is)
    (case a55=>k_is)
    (case l55=>k_is)
    (case e55=>k_is)
    (case k55=>k_is)
    (case a56=>k_is)
    (case l56=>k_is)
    (case e56=>k_is)
    (case k56=>k_is)
    (case a57=>k_is)
    (case l57=>k_is)
    (case e57=>k_is)
    (case k57=>k_is)
    (case a58=>k_is)
    (case l58=>k_is)
    (case e58=>k_is)
    (case k58=>k_is)
    (case a59=>k_is)
    (case l59=>k_is)
    (case e59=>k_is)
    (case k59=>k_is)
    (case a60=>k_is)
    (case l60=>k_is)
    (case e60=>k_is)
    (case k60=>k_is)
    (case a61=>k_is)
    (case l61=>k_is)
    (case e61=>k_is)
    (case k61=>k_is)
    (case a62=>k_is)
    (case l62=>k_is)
    (case e62=>k_is)
    (case k62=>k_is)
    (case a63=>k_is)
    (case l63=>k_is)
    (case e63=>k_is)
    (case k63=>k_is)
    (case a64=>k_is)
    (case l64=>k_is)
    (case e64=>k_is)
    (case k64=>k_is)
    (case a65=>k_is)
    (case l65=>k_is)
    (case e65=>k_is)
    (case k65=>k_is)
    (case q21=>k_is)
    (case q22=>k_is)
    (case q23=>k_is)
    (case z0=>k_is)
    (case z1=>k_is)
    (case z2=>k_is)
    (case z3=>k_is)
    (case z4=>k_is)
    (case z5=>k_is)
    (case z6=>k_is)
    (case z7=>k_is)
    (case z8=>k_is)
    (case z9=>k_is)
    (case z10=>k_is)
    (case z11=>k_is)
    (case z12=>k_is)
    (case z13=>k_is)
    (case z14=>k_is)
    (case z15=>k_is)
    (case z16=>k_is)
    (case z17=>k_is)
    (case z18=>k_is)
    (case z19=>k_is)
    (case z20=>k_is)
#print axioms PySem.Challenge.cw_flagroll_k32_nobody_loses_holds
